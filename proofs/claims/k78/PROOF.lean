import PyProof.Rows.All
import Wide.All
import OpenK.AllK
import Wide.FinOn
import Lean
import PyProof.EqAt
import PyProof.EqKinds
import PyProof.TupleCall
import PySem.Challenge.RW_knotwise_k78_too_many_walked
open Array renaming mk -> lg, length_toList -> ng, getElem?_eq_getElem -> Ga
open Bool renaming false_eq_true -> ay, and_eq_true -> aS, noConfusion -> bh, not_false -> bO, not_true -> cR, false_ne_true -> c7, and_eq_true_iff -> ja, or_eq_true -> nZ, false_and -> w9, and_false -> HP, true_and -> K7, false_or -> K8, beq_eq_decide_eq -> Ow
open Classical renaming byContradiction -> Bz
open False renaming elim -> bw
open ForInStep renaming yield -> rB
open Int renaming toNat_natCast -> Bx
open List renaming getElem?_cons_zero -> aa, getElem?_cons_succ -> ae, length_cons -> af, length_map -> ai, map_cons -> aj, length_nil -> aq, set_cons_zero -> av, cons_append -> aB, set_cons_succ -> aC, nil_append -> aG, mem_cons_of_mem -> aK, size_toArray -> aM, map_nil -> aN, length_append -> aO, map_append -> aP, getElem?_eq_getElem -> bf, mem_cons_self -> bo, replicate -> br, flatten_cons -> bL, getElem?_append_left -> bN, getElem?_append_right -> bQ, mem_append_right -> bT, append_nil -> bW, getD_eq_getElem?_getD -> cf, length_drop -> cW, nodup_nil -> c9, not_mem_nil -> dg, getElem?_map -> du, mem_singleton -> dN, length -> dO, getElem?_set_ne -> dP, getElem?_set_self -> eD, length_set -> eR, length_replicate -> eS, find?_cons -> eT, mem_append_left -> fg, range -> ft, nodup_append -> fu, length_range -> fx, length_singleton -> gq, getElem?_eq_none -> gr, drop_eq_getElem_cons -> gv, mem_of_getElem? -> gT, append_assoc -> g8, nodup_cons -> iQ, getElem_map -> jI, getElem_range -> kq, getElem?_replicate -> kr, take_of_length_le -> kJ, drop_eq_nil_of_le -> kK, lookup_cons -> l0, length_take -> l6, getElem?_of_mem -> mF, mem_cons -> mX, any_cons -> mY, lookup -> nX, foldl_cons -> nY, zipIdx_append -> pz, map_map -> pA, reverse_cons -> qT, pairwise_map -> qU, foldl_append -> qV, zipIdx_cons -> sC, take_append_drop -> vp, length_reverse -> xB, flatten_append -> xC, filterMap_cons -> xD, take_nil -> zJ, drop_nil -> zK, flatMap_cons -> AI, zipWith -> Bu, set_nil -> Bv, all_map -> Bw, all_eq_true -> Dt, countP_eq_length_filter -> DB, perm_append_comm_assoc -> Ft, of_mem_zip -> Fu, mem_append -> Fv, perm_ext_iff_of_nodup -> FX, length_erase_of_mem -> Ju, filterMap_cons_some -> Jv, Nodup -> Jw, map_take -> K4, map_drop -> K5, all_cons -> K6, length_pos_of_mem -> Lz, find?_cons_of_pos -> LA, find?_cons_of_neg -> LB, drop_of_length_le -> LC, length_filter_le -> Ot, mem_erase_of_ne -> OO, idxOf_le_length -> OP, getElem?_zipIdx -> OQ
open Nat renaming le_refl -> aQ, lt_of_lt_of_le -> bg, ne_of_lt -> bq, le_trans -> bU, zero_le -> cg, lt_irrefl -> ic, lt_succ_self -> jM, add_sub_cancel_left -> sy, succ_le_succ -> tG, le_of_succ_le_succ -> tO, le_succ -> yc, lt_succ_of_lt -> Bt, zero_add -> Dq, ne_of_gt -> Ds, not_lt_zero -> FV, min_eq_left -> FW, mul_le_mul -> Jt, le_of_lt -> ON
open Ne renaming symm -> jD
open Option renaming bind_some -> je, isSome_map -> kF
open Option.some renaming inj -> ba
open Prod.mk renaming injEq -> FU
open PyProof.Rows renaming callWith_type1 -> e7, callWith_builtin1 -> gu, IntsAre -> jR, boot_isinstance -> kE, envOfC -> rO, slot_tuple_getitem -> vo, subscriptTail_builtinR -> w5, AllBare -> yd
open PySem renaming FuncData -> ak, Shared -> au, wpAny_bind -> aw, mainGlobals -> aT, starEach -> aY, wpAny_pure -> aZ, sizeLine -> bb, Program -> bx, wpAny_loadPart' -> bM, wpAny_Call_Name_kw -> bZ, sizeLine_eq -> cm, Around -> cI, wpAny_holding -> dv, bootBuiltins -> dF, compareOp -> eO, plainId_quiet -> fN, wpAny_tryCatch -> fS, codeAny_builtin -> fT, backTo -> fU, wpAny_mono -> gO, sysModules -> gQ, mem_of_lookup -> h8, wpAny_updateSeq -> ib, wpAny_passesOwn -> jb, wpAny_execs_nil -> jc, treeTable -> jd, wpAny_newObj_type -> jE, binaryOp -> jG, ReadsAll -> jH, Params -> jL, wpAny_seqItems -> kh, wpAny_letGo -> ky, importedModules -> lq, codeAmong -> lr, OsState -> lu, richCompare -> mC, foldedSetIterable -> mD, sliceBounds -> pI, codeAny -> pJ, argBest -> pK, tupleKind_room_in1 -> rL, rawInt -> rN, codeAny_mono -> rP, NameKind -> rQ, holding -> su, builtinsNs -> tK, spliced -> vt, wpAny_execs_cons -> wt, richCompare_meets_room -> w6, swapsWith -> x8, letOwnedTupleGo -> x9, wpAny_call -> zH, assignEach -> zI, seqItems? -> Dy, ExceptHandler -> DC, wpAny_truthy_dict -> FI, wpAny_truthy_bool -> FJ, wpAny_pyIter_list -> FK, relabel -> FL, closureFor -> FN, valueAt -> Li, updateSeq -> Lj, tupleKind -> Ll, seqIndex_of -> Lm, pyNext -> Ln, keywordEach -> Lo, getMethod -> Lp, excClassObj -> Lr, callerA -> Ls, assign -> Lu, Within -> Lw, ExcAttrBase -> LD, Arguments -> LF, recursionLimit -> OK
open PySem.Around renaming under_plainId -> dH, under -> K9
open PySem.AutoSeq1 renaming sub_tuple_tuple -> oQ, sub_list_list -> FZ
open PySem.Builtin.Builtins renaming bindParams -> ku
open PySem.Builtin.List renaming listTooLong -> iY, listExtendWith -> lb, listSameRef -> zP, listItems -> BA
open PySem.Builtin.Slice renaming slicePlaces -> iE, sliceAdjust -> lY, sliceApplied -> xE
open PySem.Builtin.Tuple renaming tupleExact -> iR, tupleCompareSizes -> tP
open PySem.Calls renaming spliced_cons -> dG, spliced_nil -> iX, Name_function_global -> Fw, evalArgs_plain -> Ov
open PySem.Code renaming isFrame -> Ou
open PySem.F renaming plainAttrs_list -> cA, plain_min_loop -> dW, plain_min_loop -> iD, type_list_append -> jB, slot_list_append -> jC, attrBase_ValueError -> mE, slot_list_index -> pN, entry_min_loop -> rz, excBase_ValueError -> Dp, type_list_extend -> Fp, slot_list_extend -> Fq, args_tuple_add_2 -> Fs, type_list_index -> FQ, entry_tuple_add -> FR, args_tuple_lt_2 -> FT, entry_min_loop -> FY, slot_tuple_add -> HM, entry_tuple_lt -> HN, slot_tuple_lt -> Jr, slot_dict_get -> Js
open PySem.Heap renaming get?_push_of_some -> aA, lt_size -> aL, get?_push_size -> bE, get?_update_other -> cp, size_push -> gw, get?_update_self -> lW, FlyingW -> vn, SameBut -> By, get?_none_of_le -> OR
open PySem.Heap.SameBut renaming update -> rR
open PySem.NameKind renaming free -> jN
open PySem.Obj renaming mapSeq -> fC
open PySem.Paired renaming length -> xA
open PySem.PassesOwn renaming never -> cS, leaving -> w8
open PySem.PyData renaming depthAll -> dB, eqv -> tN
open PySem.SeqAt renaming items_eqAt -> lX, any_by_data -> pM, readOf -> AH
open PySem.Str renaming ofString -> vw
open PySem.Value renaming ref -> eP, int -> Dz, none -> HJ, bool -> HK, str -> Lv
open PySem.W renaming Frag -> ag, findIn -> aU, nsIn -> bz, mg_of -> cz, kitOne -> cG, keepIn -> cH, mg_none_of -> cM, excIn -> cN, kia_one -> c6, emptyDict -> eh, callWith_K -> eQ, boot_heap -> fB, instObj -> gx, makesIn -> iB, fnOf -> iC, mroIn -> iI, boot_drawn -> jF, specialIn -> px, SharedT -> pL, plainGet -> qS, topFrame -> rM, takesIn -> sv, methodCall_KW -> sx, boot_toks -> tM, lookIn -> vm, plainGet_of -> vx, clsIn -> w7, methodObj -> ya, hasDictIn -> yb, takerIn -> Bs, codeIn -> DA, cellsFrom_some -> HL, isFn -> Jq, openGood -> K1, findIn -> Lq, hideAll_get -> Lx, OpenLaw -> Ly, of_hideAll -> Oq, plainOver -> OL, kitx_none -> OM
open Sum renaming inr -> FO, inl -> FP
open True renaming intro -> g7
set_option Elab.async false
set_option linter.all false
set_option maxRecDepth 100000
set_option maxHeartbeats 4000000
set_option genSizeOf false
set_option genInjectivity false
set_option compiler.extract_closed false
namespace Internal
theorem Ad(h:0=0:=by decide):0=0:=h
theorem Ae(h:0=0:=by first | rfl | decide):0=0:=h
theorem Af(h:0=0:=by first | k_is | rfl):0=0:=h
theorem Ai(h:0=0:=by intro _; rfl):0=0:=h
theorem Aj(h:0=0:=by intros; rfl):0=0:=h
theorem Ak(h:0=0:=by decide +kernel):0=0:=h
theorem Al(h:0=0:=by intro _ _ _ _ h; repeat (first | (cases h.1; rfl) | (cases h <;> rename_i h))):0=0:=h
theorem Am(h:0=0:=by exact bo):0=0:=h
theorem An(h:0=0:=by exact Nat.le_of_ble_eq_true rfl):0=0:=h
theorem Ao(h:0=0:=by first | exact .inl rfl | exact .inr rfl | exact .inr (.inl rfl) | exact .inr (.inr rfl) | assumption):0=0:=h
theorem Aq(h:0=0:=by k_is):0=0:=h
theorem Ar(h:0=0:=by rfl):0=0:=h
theorem Aua(h:0=0:=by intro ds G Q E h; iterate 14 (first | done | (obtain⟨e,_⟩:=h; (subst e); rfl) | (obtain⟨_,h⟩:=h))):0=0:=h
theorem Ax(h:0=0:=by k_exc):0=0:=h
theorem Az(h:0=0:=by first | k_is | kit_is):0=0:=h
namespace L2
open PySem PySem.Spec PyProof.Rows
noncomputable def iV(s:Stmt):LF:=match s with
 | .FunctionDef _ a _ _ _ _ _ _ _ _=>a
 | _=>{ posonlyargs:=[],args:=[],vararg:=none,kwonlyargs:=[],kw_defaults:=[],kwarg:=none,defaults:=[] }
noncomputable def eG(s:Stmt):List Stmt:=match s with
 | .FunctionDef _ _ b _ _ _ _ _ _ _=>b
 | _=>[]
noncomputable def aH(s:Stmt):Scope:=match s with
 | .FunctionDef _ _ _ _ _ _ sc _ _ _=>sc
 | _=>{ kind:=.function,names:=[],isGenerator:=false,isCoroutine:=false }
end L2
namespace K2
open PySem PySem.W PySem.Spec PyProof.Rows PySem.Calls
theorem Kf{p q:bx}{loose:List Str}{Xt:au->Bool}{α:Type}{Yf:au->α}{Ya:World->α}{N:Nat}(e:opening p=plainProg p.main.scope.names)(hN:Nat.ble 600 N=true)(f:∀ s,fenceModules? p s=some s)
  (h:∀ (w:World) (os:lu),(topFrom jd p w N ⟨fB w.params,lg [],jF,tM,os⟩).map (fun s=>(openSeen q loose (lq p.main.body) Xt true s,Yf s))=some (K1 q loose,Ya w)):LeftO p q loose Xt Yf Ya N:=fun w=>by
 obtain⟨⟨h',gs,d,k,os⟩,e1,e2⟩:=Option.map_eq_some_iff.mp (boot_open e hN f w);obtain⟨rfl,rfl,rfl,rfl⟩:h'=fB w.params/\gs=lg []/\d=jF/\k=tM:=by simpa using e2
 unfold openEnds;rw [e1];exact h w os
noncomputable abbrev HW(l:Ly)(q:bx):Bool:=chainsOk q&&opensWell l.row.prog&&(frees l.row.toRowW&&l.row.within.isEmpty)
noncomputable abbrev LK(l:Ly)(q:bx)(s:au):Bool:=xlAt q [] s&&recOk l.row.records s
theorem Kr{l:Ly}{q:bx}{loose:List Str}{K:jL->Frag}{as:List Addr}{d:DefRec}{N:Nat}(ok:l.wellSaid=true)(e:opening l.row.prog=plainProg l.row.prog.main.scope.names)(hN:Nat.ble 600 N=true)(f:∀ s,fenceModules? l.row.prog s=some s)(hK:∀ P,as=(K P).map (·.1))
  (h:∀ (w:World) (os:lu),(topFrom jd l.row.prog w N ⟨fB w.params,lg [],jF,tM,os⟩).map (fun s=>(openSeen q loose (lq l.row.prog.main.body) (LK l q) true s,as.map s.heap.get?))=some (K1 q loose,(K w.params).map fun p=>some p.2))
  (hd:defOf q l.row.name=some (d,[])) (hp:l.row.prog.theDef l.row.name=some (d.params,d.body,d.scope)) (hk:kwWritten? d.params.kwonlyargs d.params.kw_defaults=some []) (hr:(!l.row.writes||l.row.records.isEmpty)=true) (ht:HW l q=true) (hb:l.row.prog.bare) (hw:l.row.toRowW.promised)
  (c:WalkO q loose (XL q []) (InK K) l.row.toRowW d [] fun f vs=>PySem.call f vs):l.Holds :=
 holds_law ok fun k1=>holds_open (Kf (Yf:=Hook.obs (kHook K as hK)) (Ya:=Hook.val (kHook K as hK)) e hN f h) (Hook.of (kHook K as hK)) (Hook.keeps (kHook K as hK)) (fun s x=>xl_of s (Bool.and_eq_true_iff.mp x).1) XL.keeps hd hp hk (fun s x=>recFacts_of (Bool.and_eq_true_iff.mp x).2) hr k1 ht hb hw c
noncomputable def tU(tb:String->Option Builtin)(p:bx)(w:World)(nG:Nat)(ann:Option Value):Nat->pL->Thread->Option pL
 | 0,_,_=>none
 | n+1,s,t=>match through t with
  | true=>some s
  | false=>match stepOk nG ann t with
   | false=>none
   | true=>match stepT (denote tb) p w s t with
    | some (s',t')=>tU tb p w nG ann n s' t'
    | none=>none
theorem O7{tb:String->Option Builtin}{p:bx}{w:World}{nG:Nat}{ann:Option Value}:∀ {n:Nat} {s s':pL} {t:Thread},tU tb p w nG ann n s t=some s'->topRun tb p w nG ann n s.abs t=some s'.abs:=by
 intro n;induction n with
 | zero=>intro s s' t h; cases h
 | succ n ih =>
  intro s s' t h;unfold tU at h;unfold topRun;cases ht:through t with
  | true=>rw [ht] at h; cases h; rfl
  | false =>
   rw [ht] at h;cases hk:stepOk nG ann t with
   | false=>rw [hk] at h; cases h
   | true =>
    rw [hk] at h;cases hs:stepT (denote tb) p w s t with
    | none=>rw [hs] at h; cases h
    | some r =>
     obtain⟨iF,WM⟩:=r;rw [hs] at h;rw [stepT_spec hs];exact ih h
noncomputable def bt(l:List Obj):BT:=(l.foldl (fun (p:BT×Nat) o=>(p.1.ins p.2 o,p.2+1)) (BT.nil,0)).1
noncomputable def Of(P:jL)(os:lu):pL:=⟨bt (fB P).objs.toList,(fB P).objs.size,(fB P).life,lg [],jF,tM,os⟩
theorem KJ(P:jL)(os:lu):(Of P os).abs=⟨fB P,lg [],jF,tM,os⟩:=by kernel_rfl
noncomputable abbrev IB{α:Type}(p q:bx)(loose:List Str)(Xt:au->Bool)(Yf:au->α)(P:jL)(s:au):=((staticsOk (lq p.main.body) (fB P) s.heap&&namesBound p s.heap&&gensDone s&&laidKept (fB P) s.heap),openSeen q loose (lq p.main.body) Xt true s,Yf s)
noncomputable def Vt(tb:String->Option Builtin)(p:bx)(w:World)(nG:Nat)(ann:Option Value):Nat->pL->Thread->Option (pL×Thread)
 | 0,s,t=>some (s,t)
 | n+1,s,t=>match through t with
  | true=>none
  | false=>match stepOk nG ann t with
   | false=>none
   | true=>match stepT (denote tb) p w s t with
    | some (s',t')=>Vt tb p w nG ann n s' t'
    | none=>none
section
variable {tb:String->Option Builtin} {p:bx} {w:World} {nG:Nat} {ann:Option Value} {b:List Stmt} {env:Env} {c:Code} {q pos p':Pos}
theorem SR:∀ {n:Nat} {s s':pL} {t t':Thread},Vt tb p w nG ann n s t=some (s',t')->topGo tb p w nG ann n s.abs t=some (s'.abs,t'):=by
 intro n;induction n with
 | zero=>intro s s' t t' h; cases h; rfl
 | succ n ih =>
  intro s s' t t' h;unfold Vt at h;unfold topGo;cases ht:through t with
  | true=>rw [ht] at h; cases h
  | false =>
   rw [ht] at h;cases hk:stepOk nG ann t with
   | false=>rw [hk] at h; cases h
   | true =>
    rw [hk] at h;cases hs:stepT (denote tb) p w s t with
    | none=>rw [hs] at h; cases h
    | some r =>
     obtain⟨iF,WM⟩:=r;rw [hs] at h;rw [stepT_spec hs];exact ih h
theorem KG{nA nB N:Nat}{s0 sA sB:pL}{r:au}(h1:Vt tb p w nG ann nA s0 (topStub p)=some (sA,⟨denote tb (.body b env),c,pos,[rM q]⟩))(h2:segRunT tb p w nG ann 1 nB sA (blockOf b env c pos [rM q])=some (.next,sB,c,p'))
  (k:topRun tb p w nG ann N sB.abs (restOf b env c p' [rM q])=some r):topRun tb p w nG ann (nA+(nB+N)) s0.abs (topStub p)=some r:=go_top (SR h1) (piece_block (segRun_of h2) k)
theorem N5(k:Nat){n N:Nat}{s s':pL}{r:au}(h:segRunT tb p w nG ann 1 n s (piecesOf (b.take k) env c pos [rM q])=some (.next,s',c,p'))
  (hk:topRun tb p w nG ann N s'.abs (restOf (b.drop k) env c p' [rM q])=some r):topRun tb p w nG ann (n+N) s.abs (restOf b env c pos [rM q])=some r:=by
 have:=piece_app (segRun_of h) hk
 rwa [vp] at this
end
theorem MU{σ α β γ:Type}{o:Option σ}{F:σ->α×β×γ}{a:α}{b:β}{c:γ}(h1:o.map (fun s=>((F s).1,(F s).2.2))=some (a,c))(h2:o.map (fun s=>(F s).2.1)=some b):o.map F=some (a,b,c):=by
 cases o with
 | none=>cases h1
 | some s =>
  have e1:=ba h1;have e2:(F s).2.1=b:=ba h2;show some ((F s).1,(F s).2.1,(F s).2.2)=_;rw [e2,show (F s).1=a from congrArg (·.1) e1,show (F s).2.2=c from congrArg (·.2) e1]
theorem OZ{p q:bx}{loose:List Str}{Xt:au->Bool}{α:Type}{Yf:au->α}{Ya:World->α}{N M:Nat}{w:World}{os:lu}{Pz:Nat}{ann:Option Value}{sL:pL}{tL:Thread}
  (hz:((fB w.params).isNs aT,(fB w.params).objs.size,(fB w.params).nsMap aT "__annotations__")=(true,Pz,ann))
  (h:(tU jd p w Pz ann M sL tL).map (fun s=>IB p q loose Xt Yf w.params s.abs)=some (true,K1 q loose,Ya w))
  (k:∀ r,topRun jd p w Pz ann M sL.abs tL=some r->topRun jd p w Pz ann N (Of w.params os).abs (topStub p)=some r) :
  (topFrom jd p w N ⟨fB w.params,lg [],jF,tM,os⟩).map (fun s=>(openSeen q loose (lq p.main.body) Xt true s,Yf s))=some (K1 q loose,Ya w):=by
 obtain⟨s,e1,e2⟩:=Option.map_eq_some_iff.mp h;have r:=k _ (O7 e1);rw [KJ] at r;obtain⟨z1,z2,z3⟩:_/\_/\_:=by simpa only [FU] using hz
 obtain⟨l1,l2,l3⟩:_/\_/\_:=by simpa only [FU] using e2
 have t:topFrom jd p w N ⟨fB w.params,lg [],jF,tM,os⟩=some s.abs:=by
  unfold topFrom;dsimp only;have g:((lg []:Array GenState).size == 0)=true:=rfl;rw [z1,z2,z3,g,K7,r];dsimp only [je];rw [l1]
 rw [t];exact congrArg some (Prod.ext l2 l3)
end K2
namespace Fin
open PySem PySem.Spec PyProof.Rows L2 K2
noncomputable def top(i:Nat):Stmt:=PySem.Challenge.pw_knotwise_k78_too_many_walked.main.body.getD i (.Pass ⟨0,0,0,0⟩)
noncomputable def mZ(i j:Nat):Stmt:=match top i with | .ClassDef _ _ _ b _ _ _ _ _ _ _=>b.getD j (.Pass ⟨0,0,0,0⟩) | s=>s
section
open PySem.W PySem.Calls
noncomputable def hC (n:Str) (t:Nat) (l:List Value):Obj:=⟨.type "code",none,.fields (.str n t :: .str n (t+1) :: .str "/claim/cut.py" (t+2) :: l).toArray,#[]⟩
noncomputable def hI(n:Int):Value:=.int n 0
noncomputable def hR(n:Nat):Value:=.ref n
noncomputable def hN:Value:=.none
noncomputable def hT:Value:=.bool true
noncomputable def hS (n:Nat):Value:=.str "/claim/cut.py" n
noncomputable def hD(n:Str)(t:Nat)(l a:Int)(r:Nat)(x y z:Value)(u:Nat):Obj:=hC n t [hI l,hI a,hI 0,hI 0,hI 3,hR r,hT,hI 181,hR (r+1),hN,x,y,z,hI (u - 1),hI l,hS u]
noncomputable abbrev hF (i:Nat) (n:Str) (m c:Value):Obj:=⟨.type "function",none,.func (iC n n (iV (top i)) (eG (top i)) (aH (top i)) .none .none .none m none c .none),#[]⟩
noncomputable abbrev hM (i j:Nat) (n q:Str) (m c:Value):Obj:=⟨.type "function",none,.func (iC n q (iV (mZ i j)) (eG (mZ i j)) (aH (mZ i j)) .none .none .none m none c .none),#[]⟩
noncomputable abbrev hE(P:jL)(s:Str)(t:Nat)(v:Value):DictEntry:=⟨PyData.keyHash P s,.str s t,v⟩
noncomputable def hQ:bx:=PySem.W.view PySem.Challenge.pw_knotwise_k78_too_many_walked [1,2,3,4,5,6,7,9,10,11,12,13,14,15,16,17,19,20,21,22,23,24,26,27,28,29,30,31,32,33,34,35,36,37,38,39,40,41,43,45,46,48,49,50,51,52,54,55,56,57,59,60,61,62,63,64,65,66]
noncomputable def o0:Obj:=⟨(.type "tuple"),none,(.seq #[] 0),#[]⟩
noncomputable def o1 (P:jL):Obj:=⟨(.type "dict"),none,(.dict #[hE P "__module__" 196 (.str "knotwise.errors" 187),hE P "__firstlineno__" 200 (.int 2 199),hE P "__static_attributes__" 201 (.ref 22),hE P "__weakref__" 203 (.ref 25),hE P "__doc__" 204 .none] 3),#[]⟩
noncomputable def o2:Obj:=⟨(.type "type"),none,(.cls ⟨"KnotError",[(.type "ValueError")],[(.ref 24),(.type "ValueError"),(.type "Exception"),(.type "BaseException"),(.type "object")],23,"KnotError",.true,[],[(.ref 37),(.ref 49),(.ref 61),(.ref 73),(.ref 85),(.ref 97)],.false,none,.false⟩),#[(some (.ref 15)),none,(some (.str "KnotError" 189)),(some (.str "KnotError" 197)),(some (.builtin "ValueError.__new__")),(some (.bool .true))]⟩
noncomputable def o3:Obj:=⟨(.type "getset_descriptor"),none,(.fields #[(.str "__weakref__" 202),(.ref 24),(.builtin "ExceptionGroup.__weakref__"),.none]),#[]⟩
noncomputable def o4:Obj:=⟨(.type "tuple"),none,(.seq #[(.ref 24)] 0),#[]⟩
noncomputable def o5 (P:jL):Obj:=⟨(.type "dict"),none,(.dict #[hE P "__module__" 214 (.str "knotwise.errors" 187),hE P "__firstlineno__" 218 (.int 4 217),hE P "__static_attributes__" 219 (.ref 35),hE P "__doc__" 220 .none] 2),#[]⟩
noncomputable def o6:Obj:=⟨(.type "type"),none,(.cls ⟨"NoName",[(.ref 24)],[(.ref 37),(.ref 24),(.type "ValueError"),(.type "Exception"),(.type "BaseException"),(.type "object")],36,"NoName",.true,[],[],.false,none,.false⟩),#[(some (.ref 28)),none,(some (.str "NoName" 207)),(some (.str "NoName" 215)),(some (.builtin "ValueError.__new__")),(some (.bool .true))]⟩
noncomputable def o7 (P:jL):Obj:=⟨(.type "dict"),none,(.dict #[hE P "__module__" 230 (.str "knotwise.errors" 187),hE P "__firstlineno__" 234 (.int 6 233),hE P "__static_attributes__" 235 (.ref 47),hE P "__doc__" 236 .none] 2),#[]⟩
noncomputable def o8:Obj:=⟨(.type "type"),none,(.cls ⟨"NameTaken",[(.ref 24)],[(.ref 49),(.ref 24),(.type "ValueError"),(.type "Exception"),(.type "BaseException"),(.type "object")],48,"NameTaken",.true,[],[],.false,none,.false⟩),#[(some (.ref 40)),none,(some (.str "NameTaken" 223)),(some (.str "NameTaken" 231)),(some (.builtin "ValueError.__new__")),(some (.bool .true))]⟩
noncomputable def o9 (P:jL):Obj:=⟨(.type "dict"),none,(.dict #[hE P "__module__" 246 (.str "knotwise.errors" 187),hE P "__firstlineno__" 250 (.int 8 249),hE P "__static_attributes__" 251 (.ref 59),hE P "__doc__" 252 .none] 2),#[]⟩
noncomputable def ZS:Obj:=⟨(.type "type"),none,(.cls ⟨"NoSpot",[(.ref 24)],[(.ref 61),(.ref 24),(.type "ValueError"),(.type "Exception"),(.type "BaseException"),(.type "object")],60,"NoSpot",.true,[],[],.false,none,.false⟩),#[(some (.ref 52)),none,(some (.str "NoSpot" 239)),(some (.str "NoSpot" 247)),(some (.builtin "ValueError.__new__")),(some (.bool .true))]⟩
noncomputable def ZR (P:jL):Obj:=⟨(.type "dict"),none,(.dict #[hE P "__module__" 262 (.str "knotwise.errors" 187),hE P "__firstlineno__" 266 (.int 10 265),hE P "__static_attributes__" 267 (.ref 71),hE P "__doc__" 268 .none] 2),#[]⟩
noncomputable def ZQ:Obj:=⟨(.type "type"),none,(.cls ⟨"TooMany",[(.ref 24)],[(.ref 73),(.ref 24),(.type "ValueError"),(.type "Exception"),(.type "BaseException"),(.type "object")],72,"TooMany",.true,[],[],.false,none,.false⟩),#[(some (.ref 64)),none,(some (.str "TooMany" 255)),(some (.str "TooMany" 263)),(some (.builtin "ValueError.__new__")),(some (.bool .true))]⟩
noncomputable def ZP (P:jL):Obj:=⟨(.type "dict"),none,(.dict #[hE P "__module__" 278 (.str "knotwise.errors" 187),hE P "__firstlineno__" 282 (.int 12 281),hE P "__static_attributes__" 283 (.ref 83),hE P "__doc__" 284 .none] 2),#[]⟩
noncomputable def ZO:Obj:=⟨(.type "type"),none,(.cls ⟨"NoFit",[(.ref 24)],[(.ref 85),(.ref 24),(.type "ValueError"),(.type "Exception"),(.type "BaseException"),(.type "object")],84,"NoFit",.true,[],[],.false,none,.false⟩),#[(some (.ref 76)),none,(some (.str "NoFit" 271)),(some (.str "NoFit" 279)),(some (.builtin "ValueError.__new__")),(some (.bool .true))]⟩
noncomputable def ZN (P:jL):Obj:=⟨(.type "dict"),none,(.dict #[hE P "__module__" 294 (.str "knotwise.errors" 187),hE P "__firstlineno__" 298 (.int 14 297),hE P "__static_attributes__" 299 (.ref 95),hE P "__doc__" 300 .none] 2),#[]⟩
noncomputable def ZM:Obj:=⟨(.type "type"),none,(.cls ⟨"NoMove",[(.ref 24)],[(.ref 97),(.ref 24),(.type "ValueError"),(.type "Exception"),(.type "BaseException"),(.type "object")],96,"NoMove",.true,[],[],.false,none,.false⟩),#[(some (.ref 88)),none,(some (.str "NoMove" 287)),(some (.str "NoMove" 295)),(some (.builtin "ValueError.__new__")),(some (.bool .true))]⟩
noncomputable def ZL (P:jL):Obj:=⟨(.type "dict"),none,(.dict #[hE P "__module__" 514 (.str "knotwise.moves" 430),hE P "__firstlineno__" 518 (.int 130 517),hE P "__static_attributes__" 519 (.ref 254),hE P "__dict__" 521 (.ref 257),hE P "__weakref__" 523 (.ref 258),hE P "__doc__" 524 .none] 4),#[]⟩
noncomputable def ZK:Obj:=⟨(.type "getset_descriptor"),none,(.fields #[(.str "__dict__" 520),(.ref 256),(.builtin "function.__dict__"),(.builtin "function.__dict__#set")]),#[]⟩
noncomputable def ZJ:Obj:=⟨(.type "getset_descriptor"),none,(.fields #[(.str "__weakref__" 522),(.ref 256),(.builtin "ExceptionGroup.__weakref__"),.none]),#[]⟩
noncomputable def Tp:Obj:=⟨(.type "tuple"),none,(.seq #[(.ref 256)] 0),#[]⟩
noncomputable def ZI:Obj:=⟨(.type "code"),none,(.fields #[(.str "__init__" 539),(.str "Uncurl.__init__" 540),(.str "/claim/cut.py" 541),(.int 134 0),(.int 2 0),(.int 0 0),(.int 0 0),(.int 3 0),(.ref 268),(.bool .true),(.int 181 0),(.ref 269),.none,(.ref 270),(.ref 271),(.ref 272),(.int 544 0),(.int 134 0),(.str "/claim/cut.py" 545)]),#[]⟩
noncomputable def ZH:Obj:=⟨(.type "code"),none,(.fields #[(.str "told" 547),(.str "Uncurl.told" 548),(.str "/claim/cut.py" 549),(.int 137 0),(.int 1 0),(.int 0 0),(.int 0 0),(.int 3 0),(.ref 275),(.bool .true),(.int 181 0),(.ref 276),.none,(.ref 277),(.ref 278),(.ref 279),(.int 551 0),(.int 137 0),(.str "/claim/cut.py" 552)]),#[]⟩
noncomputable def ZG:Obj:=⟨(.type "code"),none,(.fields #[(.str "refuse" 554),(.str "Uncurl.refuse" 555),(.str "/claim/cut.py" 556),(.int 140 0),(.int 2 0),(.int 0 0),(.int 0 0),(.int 3 0),(.ref 282),(.bool .true),(.int 181 0),(.ref 283),.none,(.ref 284),(.ref 285),(.ref 286),(.int 559 0),(.int 140 0),(.str "/claim/cut.py" 560)]),#[]⟩
noncomputable def ZF:Obj:=⟨(.type "code"),none,(.fields #[(.str "done" 562),(.str "Uncurl.done" 563),(.str "/claim/cut.py" 564),(.int 144 0),(.int 2 0),(.int 0 0),(.int 0 0),(.int 3 0),(.ref 289),(.bool .true),(.int 181 0),(.ref 290),.none,(.ref 291),(.ref 292),(.ref 293),(.int 567 0),(.int 144 0),(.str "/claim/cut.py" 568)]),#[]⟩
noncomputable def ZE:Obj:=⟨(.type "code"),none,(.fields #[(.str "back" 570),(.str "Uncurl.back" 571),(.str "/claim/cut.py" 572),(.int 148 0),(.int 2 0),(.int 0 0),(.int 0 0),(.int 3 0),(.ref 296),(.bool .true),(.int 181 0),(.ref 297),.none,(.ref 298),(.ref 299),(.ref 300),(.int 579 0),(.int 148 0),(.str "/claim/cut.py" 580)]),#[]⟩
noncomputable def ZD:Obj:=⟨(.type "code"),none,(.fields #[(.str "renamed" 582),(.str "Uncurl.renamed" 583),(.str "/claim/cut.py" 584),(.int 156 0),(.int 2 0),(.int 0 0),(.int 0 0),(.int 3 0),(.ref 303),(.bool .true),(.int 181 0),(.ref 304),.none,(.ref 305),(.ref 306),(.ref 307),(.int 587 0),(.int 156 0),(.str "/claim/cut.py" 588)]),#[]⟩
noncomputable def ZC:Obj:=⟨(.type "tuple"),none,(.seq #[(.str "name" 590)] 0),#[]⟩
noncomputable def ZA (P:jL):Obj:=⟨(.type "dict"),none,(.dict #[hE P "__module__" 534 (.str "knotwise.moves" 430),hE P "__firstlineno__" 538 (.int 132 537),hE P "__init__" 546 (.ref 274),hE P "told" 553 (.ref 281),hE P "refuse" 561 (.ref 288),hE P "done" 569 (.ref 295),hE P "back" 581 (.ref 302),hE P "renamed" 589 (.ref 309),hE P "__static_attributes__" 591 (.ref 310),hE P "__doc__" 592 .none] 2),#[]⟩
noncomputable def Zz:Obj:=⟨(.type "type"),none,(.cls ⟨"Uncurl",[(.ref 256)],[(.ref 312),(.ref 256),(.type "object")],311,"Uncurl",.true,[],[],.false,none,.false⟩),#[(some (.ref 261)),none,(some (.str "Uncurl" 527)),(some (.str "Uncurl" 535)),(some (.builtin "object.__new__")),(some (.bool .true))]⟩
noncomputable def Px:Obj:=⟨(.type "builtin_function_or_method"),none,(.fields #[(.builtin "type.__prepare__"),(.type "type")]),#[]⟩
noncomputable def pC:Obj:=⟨.none,none,(.fields #[]),#[]⟩
noncomputable def hK(P:jL):ag:=(nat_lit 2,⟨.none,none,(.dict #[] 0),#[]⟩) ::
(nat_lit 3,⟨(.type "dict"),none,(.dict #[hE P "__name__" 165 (.str "law_knotwise_k78_too_many_walked" 995),hE P "__doc__" 166 .none,hE P "__package__" 167 .none,hE P "__loader__" 168 (.builtin "__main__.__loader__#opaque"),hE P "__spec__" 169 .none,hE P "__annotations__" 170 (.ref 6),hE P "__builtins__" 171 (.ref 4),hE P "__file__" 173 (.str "/claim/cut.py" 172),hE P "__cached__" 174 .none,hE P "KnotError" 206 (.ref 24),hE P "NoName" 222 (.ref 37),hE P "NameTaken" 238 (.ref 49),hE P "NoSpot" 254 (.ref 61),hE P "TooMany" 270 (.ref 73),hE P "NoFit" 286 (.ref 85),hE P "NoMove" 302 (.ref 97),hE P "MOST_CROSSINGS" 306 (.int 12 305),hE P "passings_of" 315 (.ref 106),hE P "seated" 323 (.ref 113),hE P "seated_rows" 329 (.ref 118),hE P "names_of" 335 (.ref 123),hE P "hand_of" 344 (.ref 130),hE P "spots_on" 350 (.ref 135),hE P "next_of" 361 (.ref 142),hE P "string_of" 371 (.ref 149),hE P "neighbours" 382 (.ref 156),hE P "uncurl_fits" 390 (.ref 163),hE P "part_fits" 400 (.ref 170),hE P "in_turn" 409 (.ref 177),hE P "slide_pairs" 423 (.ref 184),hE P "slide_fits" 429 (.ref 189),hE P "refuse_unknown" 441 (.ref 196),hE P "refuse_unfit" 448 (.ref 203),hE P "refuse_new" 458 (.ref 210),hE P "with_put" 470 (.ref 217),hE P "taken_out" 476 (.ref 222),hE P "spot_ahead" 482 (.ref 227),hE P "first_in_turn" 492 (.ref 234),hE P "with_changed" 498 (.ref 239),hE P "renamed_spot" 506 (.ref 246),hE P "Move" 526 (.ref 256),hE P "Uncurl" 594 (.ref 312),hE P "Curl" 657 (.ref 359),hE P "Part" 731 (.ref 413),hE P "Lay" 811 (.ref 467),hE P "Slide" 883 (.ref 521),hE P "move_of" 890 (.ref 530),hE P "one_of_each" 898 (.ref 535),hE P "renamed_row" 906 (.ref 540),hE P "renamed_rows" 912 (.ref 545),hE P "beginnings" 920 (.ref 550),hE P "names_as_met" 929 (.ref 557),hE P "settling_from" 937 (.ref 564),hE P "settling" 943 (.ref 569),hE P "settled" 950 (.ref 576),hE P "step" 960 (.ref 583),hE P "walked" 970 (.ref 590),hE P "with_spare" 980 (.ref 597),hE P "back_row" 994 (.ref 604),hE P "_law_cell" 1004 (.ref 611),hE P "_law_names" 1014 (.ref 618),hE P "_law_name" 1023 (.ref 625),hE P "_law_digits" 1030 (.ref 632),hE P "_law_cross" 1043 (.ref 639),hE P "_law_told" 1053 (.ref 646),hE P "_law_asked" 1065 (.ref 653),hE P "law" 1071 (.ref 658)] 67),#[]⟩) ::
(nat_lit 15,⟨(.type "tuple"),none,(.seq #[(.type "ValueError")] 0),#[]⟩) ::
(nat_lit 22,o0) ::
(nat_lit 23,o1 P) ::
(nat_lit 24,o2) ::
(nat_lit 25,o3) ::
(nat_lit 28,o4) ::
(nat_lit 35,o0) ::
(nat_lit 36,o5 P) ::
(nat_lit 37,o6) ::
(nat_lit 40,o4) ::
(nat_lit 47,o0) ::
(nat_lit 48,o7 P) ::
(nat_lit 49,o8) ::
(nat_lit 52,o4) ::
(nat_lit 59,o0) ::
(nat_lit 60,o9 P) ::
(nat_lit 61,ZS) ::
(nat_lit 64,o4) ::
(nat_lit 71,o0) ::
(nat_lit 72,ZR P) ::
(nat_lit 73,ZQ) ::
(nat_lit 76,o4) ::
(nat_lit 83,o0) ::
(nat_lit 84,ZP P) ::
(nat_lit 85,ZO) ::
(nat_lit 88,o4) ::
(nat_lit 95,o0) ::
(nat_lit 96,ZN P) ::
(nat_lit 97,ZM) ::
(nat_lit 105,hD "passings_of" 307 18 1 100 (hR 102) (hR 103) (hR 104) 314) ::
(nat_lit 106,hF 10 "passings_of" (.str "knotwise.drawings" 303) (.ref 105)) ::
(nat_lit 112,hD "seated" 316 23 1 107 (hR 109) (hR 110) (hR 111) 322) ::
(nat_lit 113,hF 11 "seated" (.str "knotwise.drawings" 303) (.ref 112)) ::
(nat_lit 117,hD "seated_rows" 324 28 1 114 hN hN (hR 116) 328) ::
(nat_lit 118,hF 12 "seated_rows" (.str "knotwise.drawings" 303) (.ref 117)) ::
(nat_lit 122,hD "names_of" 330 30 1 119 hN hN (hR 121) 334) ::
(nat_lit 123,hF 13 "names_of" (.str "knotwise.drawings" 303) (.ref 122)) ::
(nat_lit 129,hD "hand_of" 336 32 2 124 (hR 126) (hR 127) (hR 128) 343) ::
(nat_lit 130,hF 14 "hand_of" (.str "knotwise.drawings" 303) (.ref 129)) ::
(nat_lit 134,hD "spots_on" 345 37 2 131 hN hN (hR 133) 349) ::
(nat_lit 135,hF 15 "spots_on" (.str "knotwise.drawings" 303) (.ref 134)) ::
(nat_lit 141,hD "next_of" 351 41 1 136 (hR 138) (hR 139) (hR 140) 360) ::
(nat_lit 142,hF 16 "next_of" (.str "knotwise.drawings" 303) (.ref 141)) ::
(nat_lit 148,hD "string_of" 362 47 2 143 (hR 145) (hR 146) (hR 147) 370) ::
(nat_lit 149,hF 17 "string_of" (.str "knotwise.drawings" 303) (.ref 148)) ::
(nat_lit 155,hD "neighbours" 374 53 3 150 (hR 152) (hR 153) (hR 154) 381) ::
(nat_lit 156,hF 19 "neighbours" (.str "knotwise.fits" 372) (.ref 155)) ::
(nat_lit 162,hD "uncurl_fits" 383 55 2 157 (hR 159) (hR 160) (hR 161) 389) ::
(nat_lit 163,hF 20 "uncurl_fits" (.str "knotwise.fits" 372) (.ref 162)) ::
(nat_lit 169,hD "part_fits" 391 57 3 164 (hR 166) (hR 167) (hR 168) 399) ::
(nat_lit 170,hF 21 "part_fits" (.str "knotwise.fits" 372) (.ref 169)) ::
(nat_lit 176,hD "in_turn" 401 62 3 171 (hR 173) (hR 174) (hR 175) 408) ::
(nat_lit 177,hF 22 "in_turn" (.str "knotwise.fits" 372) (.ref 176)) ::
(nat_lit 183,hD "slide_pairs" 410 66 5 178 (hR 180) (hR 181) (hR 182) 422) ::
(nat_lit 184,hF 23 "slide_pairs" (.str "knotwise.fits" 372) (.ref 183)) ::
(nat_lit 188,hD "slide_fits" 424 71 5 185 hN hN (hR 187) 428) ::
(nat_lit 189,hF 24 "slide_fits" (.str "knotwise.fits" 372) (.ref 188)) ::
(nat_lit 195,hD "refuse_unknown" 432 77 2 190 (hR 192) (hR 193) (hR 194) 440) ::
(nat_lit 196,hF 26 "refuse_unknown" (.str "knotwise.moves" 430) (.ref 195)) ::
(nat_lit 202,hD "refuse_unfit" 442 82 1 197 (hR 199) (hR 200) (hR 201) 447) ::
(nat_lit 203,hF 27 "refuse_unfit" (.str "knotwise.moves" 430) (.ref 202)) ::
(nat_lit 209,hD "refuse_new" 449 85 2 204 (hR 206) (hR 207) (hR 208) 457) ::
(nat_lit 210,hF 28 "refuse_new" (.str "knotwise.moves" 430) (.ref 209)) ::
(nat_lit 216,hD "with_put" 459 93 3 211 (hR 213) (hR 214) (hR 215) 469) ::
(nat_lit 217,hF 29 "with_put" (.str "knotwise.moves" 430) (.ref 216)) ::
(nat_lit 221,hD "taken_out" 471 99 2 218 hN hN (hR 220) 475) ::
(nat_lit 222,hF 30 "taken_out" (.str "knotwise.moves" 430) (.ref 221)) ::
(nat_lit 226,hD "spot_ahead" 477 104 3 223 hN hN (hR 225) 481) ::
(nat_lit 227,hF 31 "spot_ahead" (.str "knotwise.moves" 430) (.ref 226)) ::
(nat_lit 233,hD "first_in_turn" 483 112 4 228 (hR 230) (hR 231) (hR 232) 491) ::
(nat_lit 234,hF 32 "first_in_turn" (.str "knotwise.moves" 430) (.ref 233)) ::
(nat_lit 238,hD "with_changed" 493 116 2 235 hN hN (hR 237) 497) ::
(nat_lit 239,hF 33 "with_changed" (.str "knotwise.moves" 430) (.ref 238)) ::
(nat_lit 245,hD "renamed_spot" 499 126 2 240 (hR 242) (hR 243) (hR 244) 505) ::
(nat_lit 246,hF 34 "renamed_spot" (.str "knotwise.moves" 430) (.ref 245)) ::
(nat_lit 254,o0) ::
(nat_lit 255,ZL P) ::
(nat_lit 256,⟨(.type "type"),none,(.cls ⟨"Move",[(.type "object")],[(.ref 256),(.type "object")],255,"Move",.true,[],[(.ref 312),(.ref 359),(.ref 413),(.ref 467),(.ref 521)],.false,none,.false⟩),#[none,none,(some (.str "Move" 507)),(some (.str "Move" 515)),(some (.builtin "object.__new__")),(some (.bool .true))]⟩) ::
(nat_lit 257,ZK) ::
(nat_lit 258,ZJ) ::
(nat_lit 261,Tp) ::
(nat_lit 273,ZI) ::
(nat_lit 274,hM 36 0 "__init__" "Uncurl.__init__" (.str "knotwise.moves" 430) (.ref 273)) ::
(nat_lit 280,ZH) ::
(nat_lit 281,hM 36 1 "told" "Uncurl.told" (.str "knotwise.moves" 430) (.ref 280)) ::
(nat_lit 287,ZG) ::
(nat_lit 288,hM 36 2 "refuse" "Uncurl.refuse" (.str "knotwise.moves" 430) (.ref 287)) ::
(nat_lit 294,ZF) ::
(nat_lit 295,hM 36 3 "done" "Uncurl.done" (.str "knotwise.moves" 430) (.ref 294)) ::
(nat_lit 301,ZE) ::
(nat_lit 302,hM 36 4 "back" "Uncurl.back" (.str "knotwise.moves" 430) (.ref 301)) ::
(nat_lit 308,ZD) ::
(nat_lit 309,hM 36 5 "renamed" "Uncurl.renamed" (.str "knotwise.moves" 430) (.ref 308)) ::
(nat_lit 310,ZC) ::
(nat_lit 311,ZA P) ::
(nat_lit 312,Zz) ::
(nat_lit 315,Tp) ::
(nat_lit 327,⟨(.type "code"),none,(.fields #[(.str "__init__" 607),(.str "Curl.__init__" 608),(.str "/claim/cut.py" 609),(.int 160 0),(.int 5 0),(.int 0 0),(.int 0 0),(.int 3 0),(.ref 322),(.bool .true),(.int 181 0),(.ref 323),.none,(.ref 324),(.ref 325),(.ref 326),(.int 615 0),(.int 160 0),(.str "/claim/cut.py" 616)]),#[]⟩) ::
(nat_lit 328,hM 37 0 "__init__" "Curl.__init__" (.str "knotwise.moves" 430) (.ref 327)) ::
(nat_lit 334,⟨(.type "code"),none,(.fields #[(.str "told" 618),(.str "Curl.told" 619),(.str "/claim/cut.py" 620),(.int 166 0),(.int 1 0),(.int 0 0),(.int 0 0),(.int 3 0),(.ref 329),(.bool .true),(.int 181 0),(.ref 330),.none,(.ref 331),(.ref 332),(.ref 333),(.int 622 0),(.int 166 0),(.str "/claim/cut.py" 623)]),#[]⟩) ::
(nat_lit 335,hM 37 1 "told" "Curl.told" (.str "knotwise.moves" 430) (.ref 334)) ::
(nat_lit 341,⟨(.type "code"),none,(.fields #[(.str "done" 625),(.str "Curl.done" 626),(.str "/claim/cut.py" 627),(.int 169 0),(.int 2 0),(.int 0 0),(.int 0 0),(.int 3 0),(.ref 336),(.bool .true),(.int 181 0),(.ref 337),.none,(.ref 338),(.ref 339),(.ref 340),(.int 631 0),(.int 169 0),(.str "/claim/cut.py" 632)]),#[]⟩) ::
(nat_lit 342,hM 37 2 "done" "Curl.done" (.str "knotwise.moves" 430) (.ref 341)) ::
(nat_lit 348,⟨(.type "code"),none,(.fields #[(.str "back" 634),(.str "Curl.back" 635),(.str "/claim/cut.py" 636),(.int 174 0),(.int 2 0),(.int 0 0),(.int 0 0),(.int 3 0),(.ref 343),(.bool .true),(.int 181 0),(.ref 344),.none,(.ref 345),(.ref 346),(.ref 347),(.int 639 0),(.int 174 0),(.str "/claim/cut.py" 640)]),#[]⟩) ::
(nat_lit 349,hM 37 3 "back" "Curl.back" (.str "knotwise.moves" 430) (.ref 348)) ::
(nat_lit 355,⟨(.type "code"),none,(.fields #[(.str "renamed" 642),(.str "Curl.renamed" 643),(.str "/claim/cut.py" 644),(.int 178 0),(.int 2 0),(.int 0 0),(.int 0 0),(.int 3 0),(.ref 350),(.bool .true),(.int 181 0),(.ref 351),.none,(.ref 352),(.ref 353),(.ref 354),(.int 647 0),(.int 178 0),(.str "/claim/cut.py" 648)]),#[]⟩) ::
(nat_lit 356,hM 37 4 "renamed" "Curl.renamed" (.str "knotwise.moves" 430) (.ref 355)) ::
(nat_lit 357,⟨(.type "tuple"),none,(.seq #[(.str "first" 650),(.str "hand" 651),(.str "name" 652),(.str "spot" 653)] 0),#[]⟩) ::
(nat_lit 358,⟨(.type "dict"),none,(.dict #[hE P "__module__" 602 (.str "knotwise.moves" 430),hE P "__firstlineno__" 606 (.int 158 605),hE P "__init__" 617 (.ref 328),hE P "told" 624 (.ref 335),hE P "done" 633 (.ref 342),hE P "back" 641 (.ref 349),hE P "renamed" 649 (.ref 356),hE P "__static_attributes__" 654 (.ref 357),hE P "__doc__" 655 .none] 2),#[]⟩) ::
(nat_lit 359,⟨(.type "type"),none,(.cls ⟨"Curl",[(.ref 256)],[(.ref 359),(.ref 256),(.type "object")],358,"Curl",.true,[],[],.false,none,.false⟩),#[(some (.ref 315)),none,(some (.str "Curl" 595)),(some (.str "Curl" 603)),(some (.builtin "object.__new__")),(some (.bool .true))]⟩) ::
(nat_lit 362,Tp) ::
(nat_lit 374,⟨(.type "code"),none,(.fields #[(.str "__init__" 670),(.str "Part.__init__" 671),(.str "/claim/cut.py" 672),(.int 182 0),(.int 3 0),(.int 0 0),(.int 0 0),(.int 3 0),(.ref 369),(.bool .true),(.int 181 0),(.ref 370),.none,(.ref 371),(.ref 372),(.ref 373),(.int 676 0),(.int 182 0),(.str "/claim/cut.py" 677)]),#[]⟩) ::
(nat_lit 375,hM 38 0 "__init__" "Part.__init__" (.str "knotwise.moves" 430) (.ref 374)) ::
(nat_lit 381,⟨(.type "code"),none,(.fields #[(.str "told" 679),(.str "Part.told" 680),(.str "/claim/cut.py" 681),(.int 186 0),(.int 1 0),(.int 0 0),(.int 0 0),(.int 3 0),(.ref 376),(.bool .true),(.int 181 0),(.ref 377),.none,(.ref 378),(.ref 379),(.ref 380),(.int 683 0),(.int 186 0),(.str "/claim/cut.py" 684)]),#[]⟩) ::
(nat_lit 382,hM 38 1 "told" "Part.told" (.str "knotwise.moves" 430) (.ref 381)) ::
(nat_lit 388,⟨(.type "code"),none,(.fields #[(.str "refuse" 686),(.str "Part.refuse" 687),(.str "/claim/cut.py" 688),(.int 189 0),(.int 2 0),(.int 0 0),(.int 0 0),(.int 3 0),(.ref 383),(.bool .true),(.int 181 0),(.ref 384),.none,(.ref 385),(.ref 386),(.ref 387),(.int 691 0),(.int 189 0),(.str "/claim/cut.py" 692)]),#[]⟩) ::
(nat_lit 389,hM 38 2 "refuse" "Part.refuse" (.str "knotwise.moves" 430) (.ref 388)) ::
(nat_lit 395,⟨(.type "code"),none,(.fields #[(.str "done" 694),(.str "Part.done" 695),(.str "/claim/cut.py" 696),(.int 193 0),(.int 2 0),(.int 0 0),(.int 0 0),(.int 3 0),(.ref 390),(.bool .true),(.int 181 0),(.ref 391),.none,(.ref 392),(.ref 393),(.ref 394),(.int 699 0),(.int 193 0),(.str "/claim/cut.py" 700)]),#[]⟩) ::
(nat_lit 396,hM 38 3 "done" "Part.done" (.str "knotwise.moves" 430) (.ref 395)) ::
(nat_lit 402,⟨(.type "code"),none,(.fields #[(.str "back" 702),(.str "Part.back" 703),(.str "/claim/cut.py" 704),(.int 197 0),(.int 2 0),(.int 0 0),(.int 0 0),(.int 3 0),(.ref 397),(.bool .true),(.int 181 0),(.ref 398),.none,(.ref 399),(.ref 400),(.ref 401),(.int 715 0),(.int 197 0),(.str "/claim/cut.py" 716)]),#[]⟩) ::
(nat_lit 403,hM 38 4 "back" "Part.back" (.str "knotwise.moves" 430) (.ref 402)) ::
(nat_lit 409,⟨(.type "code"),none,(.fields #[(.str "renamed" 718),(.str "Part.renamed" 719),(.str "/claim/cut.py" 720),(.int 209 0),(.int 2 0),(.int 0 0),(.int 0 0),(.int 3 0),(.ref 404),(.bool .true),(.int 181 0),(.ref 405),.none,(.ref 406),(.ref 407),(.ref 408),(.int 723 0),(.int 209 0),(.str "/claim/cut.py" 724)]),#[]⟩) ::
(nat_lit 410,hM 38 5 "renamed" "Part.renamed" (.str "knotwise.moves" 430) (.ref 409)) ::
(nat_lit 411,⟨(.type "tuple"),none,(.seq #[(.str "name" 726),(.str "second" 727)] 0),#[]⟩) ::
(nat_lit 412,⟨(.type "dict"),none,(.dict #[hE P "__module__" 665 (.str "knotwise.moves" 430),hE P "__firstlineno__" 669 (.int 180 668),hE P "__init__" 678 (.ref 375),hE P "told" 685 (.ref 382),hE P "refuse" 693 (.ref 389),hE P "done" 701 (.ref 396),hE P "back" 717 (.ref 403),hE P "renamed" 725 (.ref 410),hE P "__static_attributes__" 728 (.ref 411),hE P "__doc__" 729 .none] 2),#[]⟩) ::
(nat_lit 413,⟨(.type "type"),none,(.cls ⟨"Part",[(.ref 256)],[(.ref 413),(.ref 256),(.type "object")],412,"Part",.true,[],[],.false,none,.false⟩),#[(some (.ref 362)),none,(some (.str "Part" 658)),(some (.str "Part" 666)),(some (.builtin "object.__new__")),(some (.bool .true))]⟩) ::
(nat_lit 416,Tp) ::
(nat_lit 428,⟨(.type "code"),none,(.fields #[(.str "__init__" 744),(.str "Lay.__init__" 745),(.str "/claim/cut.py" 746),(.int 213 0),(.int 7 0),(.int 0 0),(.int 0 0),(.int 3 0),(.ref 423),(.bool .true),(.int 181 0),(.ref 424),.none,(.ref 425),(.ref 426),(.ref 427),(.int 754 0),(.int 213 0),(.str "/claim/cut.py" 755)]),#[]⟩) ::
(nat_lit 429,hM 39 0 "__init__" "Lay.__init__" (.str "knotwise.moves" 430) (.ref 428)) ::
(nat_lit 435,⟨(.type "code"),none,(.fields #[(.str "told" 757),(.str "Lay.told" 758),(.str "/claim/cut.py" 759),(.int 221 0),(.int 1 0),(.int 0 0),(.int 0 0),(.int 3 0),(.ref 430),(.bool .true),(.int 181 0),(.ref 431),.none,(.ref 432),(.ref 433),(.ref 434),(.int 761 0),(.int 221 0),(.str "/claim/cut.py" 762)]),#[]⟩) ::
(nat_lit 436,hM 39 1 "told" "Lay.told" (.str "knotwise.moves" 430) (.ref 435)) ::
(nat_lit 442,⟨(.type "code"),none,(.fields #[(.str "passings" 764),(.str "Lay.passings" 765),(.str "/claim/cut.py" 766),(.int 224 0),(.int 2 0),(.int 0 0),(.int 0 0),(.int 3 0),(.ref 437),(.bool .true),(.int 181 0),(.ref 438),.none,(.ref 439),(.ref 440),(.ref 441),(.int 769 0),(.int 224 0),(.str "/claim/cut.py" 770)]),#[]⟩) ::
(nat_lit 443,hM 39 2 "passings" "Lay.passings" (.str "knotwise.moves" 430) (.ref 442)) ::
(nat_lit 449,⟨(.type "code"),none,(.fields #[(.str "done" 772),(.str "Lay.done" 773),(.str "/claim/cut.py" 774),(.int 227 0),(.int 2 0),(.int 0 0),(.int 0 0),(.int 3 0),(.ref 444),(.bool .true),(.int 181 0),(.ref 445),.none,(.ref 446),(.ref 447),(.ref 448),(.int 779 0),(.int 227 0),(.str "/claim/cut.py" 780)]),#[]⟩) ::
(nat_lit 450,hM 39 3 "done" "Lay.done" (.str "knotwise.moves" 430) (.ref 449)) ::
(nat_lit 456,⟨(.type "code"),none,(.fields #[(.str "back" 782),(.str "Lay.back" 783),(.str "/claim/cut.py" 784),(.int 235 0),(.int 2 0),(.int 0 0),(.int 0 0),(.int 3 0),(.ref 451),(.bool .true),(.int 181 0),(.ref 452),.none,(.ref 453),(.ref 454),(.ref 455),(.int 787 0),(.int 235 0),(.str "/claim/cut.py" 788)]),#[]⟩) ::
(nat_lit 457,hM 39 4 "back" "Lay.back" (.str "knotwise.moves" 430) (.ref 456)) ::
(nat_lit 463,⟨(.type "code"),none,(.fields #[(.str "renamed" 790),(.str "Lay.renamed" 791),(.str "/claim/cut.py" 792),(.int 239 0),(.int 2 0),(.int 0 0),(.int 0 0),(.int 3 0),(.ref 458),(.bool .true),(.int 181 0),(.ref 459),.none,(.ref 460),(.ref 461),(.ref 462),(.int 799 0),(.int 239 0),(.str "/claim/cut.py" 800)]),#[]⟩) ::
(nat_lit 464,hM 39 5 "renamed" "Lay.renamed" (.str "knotwise.moves" 430) (.ref 463)) ::
(nat_lit 465,⟨(.type "tuple"),none,(.seq #[(.str "hand" 802),(.str "name" 803),(.str "over" 804),(.str "second" 805),(.str "turned" 806),(.str "under" 807)] 0),#[]⟩) ::
(nat_lit 466,⟨(.type "dict"),none,(.dict #[hE P "__module__" 739 (.str "knotwise.moves" 430),hE P "__firstlineno__" 743 (.int 211 742),hE P "__init__" 756 (.ref 429),hE P "told" 763 (.ref 436),hE P "passings" 771 (.ref 443),hE P "done" 781 (.ref 450),hE P "back" 789 (.ref 457),hE P "renamed" 801 (.ref 464),hE P "__static_attributes__" 808 (.ref 465),hE P "__doc__" 809 .none] 2),#[]⟩) ::
(nat_lit 467,⟨(.type "type"),none,(.cls ⟨"Lay",[(.ref 256)],[(.ref 467),(.ref 256),(.type "object")],466,"Lay",.true,[],[],.false,none,.false⟩),#[(some (.ref 416)),none,(some (.str "Lay" 732)),(some (.str "Lay" 740)),(some (.builtin "object.__new__")),(some (.bool .true))]⟩) ::
(nat_lit 470,Tp) ::
(nat_lit 482,⟨(.type "code"),none,(.fields #[(.str "__init__" 824),(.str "Slide.__init__" 825),(.str "/claim/cut.py" 826),(.int 247 0),(.int 5 0),(.int 0 0),(.int 0 0),(.int 3 0),(.ref 477),(.bool .true),(.int 181 0),(.ref 478),.none,(.ref 479),(.ref 480),(.ref 481),(.int 832 0),(.int 247 0),(.str "/claim/cut.py" 833)]),#[]⟩) ::
(nat_lit 483,hM 40 0 "__init__" "Slide.__init__" (.str "knotwise.moves" 430) (.ref 482)) ::
(nat_lit 489,⟨(.type "code"),none,(.fields #[(.str "told" 835),(.str "Slide.told" 836),(.str "/claim/cut.py" 837),(.int 253 0),(.int 1 0),(.int 0 0),(.int 0 0),(.int 3 0),(.ref 484),(.bool .true),(.int 181 0),(.ref 485),.none,(.ref 486),(.ref 487),(.ref 488),(.int 839 0),(.int 253 0),(.str "/claim/cut.py" 840)]),#[]⟩) ::
(nat_lit 490,hM 40 1 "told" "Slide.told" (.str "knotwise.moves" 430) (.ref 489)) ::
(nat_lit 496,⟨(.type "code"),none,(.fields #[(.str "refuse" 842),(.str "Slide.refuse" 843),(.str "/claim/cut.py" 844),(.int 256 0),(.int 2 0),(.int 0 0),(.int 0 0),(.int 3 0),(.ref 491),(.bool .true),(.int 181 0),(.ref 492),.none,(.ref 493),(.ref 494),(.ref 495),(.int 847 0),(.int 256 0),(.str "/claim/cut.py" 848)]),#[]⟩) ::
(nat_lit 497,hM 40 2 "refuse" "Slide.refuse" (.str "knotwise.moves" 430) (.ref 496)) ::
(nat_lit 503,⟨(.type "code"),none,(.fields #[(.str "done" 850),(.str "Slide.done" 851),(.str "/claim/cut.py" 852),(.int 260 0),(.int 2 0),(.int 0 0),(.int 0 0),(.int 3 0),(.ref 498),(.bool .true),(.int 181 0),(.ref 499),.none,(.ref 500),(.ref 501),(.ref 502),(.int 855 0),(.int 260 0),(.str "/claim/cut.py" 856)]),#[]⟩) ::
(nat_lit 504,hM 40 3 "done" "Slide.done" (.str "knotwise.moves" 430) (.ref 503)) ::
(nat_lit 510,⟨(.type "code"),none,(.fields #[(.str "back" 858),(.str "Slide.back" 859),(.str "/claim/cut.py" 860),(.int 264 0),(.int 2 0),(.int 0 0),(.int 0 0),(.int 3 0),(.ref 505),(.bool .true),(.int 181 0),(.ref 506),.none,(.ref 507),(.ref 508),(.ref 509),(.int 863 0),(.int 264 0),(.str "/claim/cut.py" 864)]),#[]⟩) ::
(nat_lit 511,hM 40 4 "back" "Slide.back" (.str "knotwise.moves" 430) (.ref 510)) ::
(nat_lit 517,⟨(.type "code"),none,(.fields #[(.str "renamed" 866),(.str "Slide.renamed" 867),(.str "/claim/cut.py" 868),(.int 268 0),(.int 2 0),(.int 0 0),(.int 0 0),(.int 3 0),(.ref 512),(.bool .true),(.int 181 0),(.ref 513),.none,(.ref 514),(.ref 515),(.ref 516),(.int 873 0),(.int 268 0),(.str "/claim/cut.py" 874)]),#[]⟩) ::
(nat_lit 518,hM 40 5 "renamed" "Slide.renamed" (.str "knotwise.moves" 430) (.ref 517)) ::
(nat_lit 519,⟨(.type "tuple"),none,(.seq #[(.str "name" 876),(.str "second" 877),(.str "third" 878),(.str "turn" 879)] 0),#[]⟩) ::
(nat_lit 520,⟨(.type "dict"),none,(.dict #[hE P "__module__" 819 (.str "knotwise.moves" 430),hE P "__firstlineno__" 823 (.int 245 822),hE P "__init__" 834 (.ref 483),hE P "told" 841 (.ref 490),hE P "refuse" 849 (.ref 497),hE P "done" 857 (.ref 504),hE P "back" 865 (.ref 511),hE P "renamed" 875 (.ref 518),hE P "__static_attributes__" 880 (.ref 519),hE P "__doc__" 881 .none] 2),#[]⟩) ::
(nat_lit 521,⟨(.type "type"),none,(.cls ⟨"Slide",[(.ref 256)],[(.ref 521),(.ref 256),(.type "object")],520,"Slide",.true,[],[],.false,none,.false⟩),#[(some (.ref 470)),none,(some (.str "Slide" 812)),(some (.str "Slide" 820)),(some (.builtin "object.__new__")),(some (.bool .true))]⟩) ::
(nat_lit 529,hD "move_of" 884 272 1 524 (hR 526) (hR 527) (hR 528) 889) ::
(nat_lit 530,hF 41 "move_of" (.str "knotwise.moves" 430) (.ref 529)) ::
(nat_lit 534,hD "one_of_each" 893 285 1 531 hN hN (hR 533) 897) ::
(nat_lit 535,hF 43 "one_of_each" (.str "knotwise.groups" 891) (.ref 534)) ::
(nat_lit 539,hD "renamed_row" 901 294 2 536 hN hN (hR 538) 905) ::
(nat_lit 540,hF 45 "renamed_row" (.str "knotwise.makings" 899) (.ref 539)) ::
(nat_lit 544,hD "renamed_rows" 907 296 2 541 hN hN (hR 543) 911) ::
(nat_lit 545,hF 46 "renamed_rows" (.str "knotwise.makings" 899) (.ref 544)) ::
(nat_lit 549,hD "beginnings" 915 299 1 546 hN hN (hR 548) 919) ::
(nat_lit 550,hF 48 "beginnings" (.str "knotwise.settled" 913) (.ref 549)) ::
(nat_lit 556,hD "names_as_met" 921 303 1 551 (hR 553) (hR 554) (hR 555) 928) ::
(nat_lit 557,hF 49 "names_as_met" (.str "knotwise.settled" 913) (.ref 556)) ::
(nat_lit 563,hD "settling_from" 930 309 1 558 (hR 560) (hR 561) (hR 562) 936) ::
(nat_lit 564,hF 50 "settling_from" (.str "knotwise.settled" 913) (.ref 563)) ::
(nat_lit 568,hD "settling" 938 312 1 565 hN hN (hR 567) 942) ::
(nat_lit 569,hF 51 "settling" (.str "knotwise.settled" 913) (.ref 568)) ::
(nat_lit 575,hD "settled" 944 315 1 570 (hR 572) (hR 573) (hR 574) 949) ::
(nat_lit 576,hF 52 "settled" (.str "knotwise.settled" 913) (.ref 575)) ::
(nat_lit 582,hD "step" 953 318 2 577 (hR 579) (hR 580) (hR 581) 959) ::
(nat_lit 583,hF 54 "step" (.str "knotwise.search" 951) (.ref 582)) ::
(nat_lit 589,hD "walked" 961 320 2 584 (hR 586) (hR 587) (hR 588) 969) ::
(nat_lit 590,hF 55 "walked" (.str "knotwise.search" 951) (.ref 589)) ::
(nat_lit 596,hD "with_spare" 971 325 2 591 (hR 593) (hR 594) (hR 595) 979) ::
(nat_lit 597,hF 56 "with_spare" (.str "knotwise.search" 951) (.ref 596)) ::
(nat_lit 603,hD "back_row" 981 331 2 598 (hR 600) (hR 601) (hR 602) 993) ::
(nat_lit 604,hF 57 "back_row" (.str "knotwise.search" 951) (.ref 603)) ::
(nat_lit 610,hD "_law_cell" 997 342 2 605 (hR 607) (hR 608) (hR 609) 1003) ::
(nat_lit 611,hF 59 "_law_cell" (.str "law_knotwise_k78_too_many_walked" 995) (.ref 610)) ::
(nat_lit 617,hD "_law_names" 1005 346 1 612 (hR 614) (hR 615) (hR 616) 1013) ::
(nat_lit 618,hF 60 "_law_names" (.str "law_knotwise_k78_too_many_walked" 995) (.ref 617)) ::
(nat_lit 631,hD "_law_digits" 1024 358 1 626 (hR 628) (hR 629) (hR 630) 1029) ::
(nat_lit 632,hF 62 "_law_digits" (.str "law_knotwise_k78_too_many_walked" 995) (.ref 631)) ::
(nat_lit 638,hD "_law_cross" 1031 362 2 633 (hR 635) (hR 636) (hR 637) 1042) ::
(nat_lit 639,hF 63 "_law_cross" (.str "law_knotwise_k78_too_many_walked" 995) (.ref 638)) ::
(nat_lit 645,hD "_law_told" 1044 374 1 640 (hR 642) (hR 643) (hR 644) 1052) ::
(nat_lit 646,hF 64 "_law_told" (.str "law_knotwise_k78_too_many_walked" 995) (.ref 645)) ::
(nat_lit 652,hD "_law_asked" 1054 383 3 647 (hR 649) (hR 650) (hR 651) 1064) ::
(nat_lit 653,hF 65 "_law_asked" (.str "law_knotwise_k78_too_many_walked" 995) (.ref 652)) ::
(nat_lit 657,hD "law" 1066 394 1 654 hN hN (hR 656) 1070) ::
(nat_lit 658,hF 66 "law" (.str "law_knotwise_k78_too_many_walked" 995) (.ref 657)) :: []
noncomputable def hA:List Addr:=[2,3,15,22,23,24,25,28,35,36,37,40,47,48,49,52,59,60,61,64,71,72,73,76,83,84,85,88,95,96,97,105,106,112,113,117,118,122,123,129,130,134,135,141,142,148,149,155,156,162,163,169,170,176,177,183,184,188,189,195,196,202,203,209,210,216,217,221,222,226,227,233,234,238,239,245,246,254,255,256,257,258,261,273,274,280,281,287,288,294,295,301,302,308,309,310,311,312,315,327,328,334,335,341,342,348,349,355,356,357,358,359,362,374,375,381,382,388,389,395,396,402,403,409,410,411,412,413,416,428,429,435,436,442,443,449,450,456,457,463,464,465,466,467,470,482,483,489,490,496,497,503,504,510,511,517,518,519,520,521,529,530,534,535,539,540,544,545,549,550,556,557,563,564,568,569,575,576,582,583,589,590,596,597,603,604,610,611,617,618,631,632,638,639,645,646,652,653,657,658]
noncomputable abbrev hG(st:Stmt)(n q:Str)(g b:Addr):Obj:=⟨.none,none,.func ⟨n,q,iV st,.stmts (eG st),aH st,g,[],.none,.none,.none,.none,none,.none,.none,b⟩,#[]⟩
noncomputable def cE:Env:={ scope:=PySem.Challenge.rw_knotwise_k78_too_many_walked.row.prog.main.scope,locals:=mainNs,globals:=mainNs,cells:=[],code:=(.ref 13),frame:=some 14 }
noncomputable def cB:List Stmt:=behindTheImports PySem.Challenge.rw_knotwise_k78_too_many_walked.row.prog
noncomputable def cC:Code:=.body cB cE
noncomputable def cQ:Pos:=⟨0,0,0,0⟩
noncomputable def YX(P:jL)(t:List Obj):List Obj:=boot_o_4 P ::
boot_o_5 P ::
boot_o_6 P ::
boot_o_7 P ::
boot_o_8 P ::
boot_o_9 P ::
boot_o_10 P ::
o0 :: t
noncomputable def YW (P:jL) (t:List Obj):List Obj:=hC "<module>" 182 [hI 1,hI 0,hI 0,hI 0,hI 0,hR 11,(.bool .false),hI 181,hR 12,hN,hN,hN,hN,hI 185,hI 1,hS 186] ::
⟨(.type "frame"),none,.plain,#[(some (.ref 13)),(some (.ref 3)),(some (.ref 3)),none,(some (.str "__main__" 164)),none,(some (.ref 0))]⟩ :: t
noncomputable def cL0(P:jL):List Obj:=boot_o_0 P ::
boot_o_1 P ::
boot_o_2 P ::
boot_o_3 P ::
YX P (⟨.none,none,(.fields #[]),#[]⟩ ::
YW P ([]))
noncomputable def cS0(w:World)(os:lu):pL:=⟨K2.bt (cL0 w.params),15,{},lg [],jF,187,os⟩
noncomputable def cL1(P:jL):List Obj:=boot_o_0 P ::
boot_o_1 P ::
boot_o_2 P ::
boot_o_3 P ::
YX P (⟨.none,none,(.fields #[]),#[]⟩ ::
YW P ([]))
noncomputable def cS1(w:World)(os:lu):pL:=⟨K2.bt (cL1 w.params),15,{},lg [],jF,187,os⟩
noncomputable def cL2(P:jL):List Obj:=boot_o_0 P ::
boot_o_1 P ::
boot_o_2 P ::
⟨(.type "dict"),none,(.dict #[hE P "__name__" 165 (.str "knotwise.moves" 430),hE P "__doc__" 166 .none,hE P "__package__" 167 .none,hE P "__loader__" 168 (.builtin "__main__.__loader__#opaque"),hE P "__spec__" 169 .none,hE P "__annotations__" 170 (.ref 6),hE P "__builtins__" 171 (.ref 4),hE P "__file__" 173 (.str "/claim/cut.py" 172),hE P "__cached__" 174 .none,hE P "KnotError" 206 (.ref 24),hE P "NoName" 222 (.ref 37),hE P "NameTaken" 238 (.ref 49),hE P "NoSpot" 254 (.ref 61),hE P "TooMany" 270 (.ref 73),hE P "NoFit" 286 (.ref 85),hE P "NoMove" 302 (.ref 97),hE P "MOST_CROSSINGS" 306 (.int 12 305),hE P "passings_of" 315 (.ref 106),hE P "seated" 323 (.ref 113),hE P "seated_rows" 329 (.ref 118),hE P "names_of" 335 (.ref 123),hE P "hand_of" 344 (.ref 130),hE P "spots_on" 350 (.ref 135),hE P "next_of" 361 (.ref 142),hE P "string_of" 371 (.ref 149),hE P "neighbours" 382 (.ref 156),hE P "uncurl_fits" 390 (.ref 163),hE P "part_fits" 400 (.ref 170),hE P "in_turn" 409 (.ref 177),hE P "slide_pairs" 423 (.ref 184),hE P "slide_fits" 429 (.ref 189),hE P "refuse_unknown" 441 (.ref 196),hE P "refuse_unfit" 448 (.ref 203),hE P "refuse_new" 458 (.ref 210),hE P "with_put" 470 (.ref 217),hE P "taken_out" 476 (.ref 222),hE P "spot_ahead" 482 (.ref 227),hE P "first_in_turn" 492 (.ref 234),hE P "with_changed" 498 (.ref 239),hE P "renamed_spot" 506 (.ref 246),hE P "Move" 526 (.ref 256),hE P "Uncurl" 594 (.ref 312)] 42),#[]⟩ ::
YX P (⟨.none,none,(.fields #[(.int 2 0),(.int 0 0),(.ref 20),(.int 4 0),(.int 0 0),(.ref 33),(.int 6 0),(.int 0 0),(.ref 45),(.int 8 0),(.int 0 0),(.ref 57),(.int 10 0),(.int 0 0),(.ref 69),(.int 12 0),(.int 0 0),(.ref 81),(.int 14 0),(.int 0 0),(.ref 93),(.int 18 0),(.int 0 0),(.ref 105),(.int 23 0),(.int 0 0),(.ref 112),(.int 28 0),(.int 0 0),(.ref 117),(.int 30 0),(.int 0 0),(.ref 122),(.int 32 0),(.int 0 0),(.ref 129),(.int 37 0),(.int 0 0),(.ref 134),(.int 41 0),(.int 0 0),(.ref 141),(.int 47 0),(.int 0 0),(.ref 148),(.int 53 0),(.int 0 0),(.ref 155),(.int 55 0),(.int 0 0),(.ref 162),(.int 57 0),(.int 0 0),(.ref 169),(.int 62 0),(.int 0 0),(.ref 176),(.int 66 0),(.int 0 0),(.ref 183),(.int 71 0),(.int 0 0),(.ref 188),(.int 77 0),(.int 0 0),(.ref 195),(.int 82 0),(.int 0 0),(.ref 202),(.int 85 0),(.int 0 0),(.ref 209),(.int 93 0),(.int 0 0),(.ref 216),(.int 99 0),(.int 0 0),(.ref 221),(.int 104 0),(.int 0 0),(.ref 226),(.int 112 0),(.int 0 0),(.ref 233),(.int 116 0),(.int 0 0),(.ref 238),(.int 126 0),(.int 0 0),(.ref 245),(.int 130 0),(.int 0 0),(.ref 252),(.int 132 0),(.int 0 0),(.ref 266)]),#[]⟩ ::
YW P (⟨(.type "tuple"),none,(.seq #[(.type "ValueError")] 0),#[]⟩ ::
Px ::
⟨(.type "dict"),none,(.dict #[hE P "__module__" 196 (.str "knotwise.errors" 187),hE P "__qualname__" 198 (.str "KnotError" 197),hE P "__firstlineno__" 200 (.int 2 199),hE P "__static_attributes__" 201 (.ref 22)] 4),#[]⟩ ::
o0 ::
pC ::
hC "KnotError" 191 [hI 2,hI 0,hI 0,hI 0,hI 0,hR 18,(.bool .false),hI 181,hR 19,hN,hN,hN,hN,hI 194,hI 2,hS 195] ::
⟨(.type "frame"),none,.plain,#[(some (.ref 20)),(some (.ref 3)),(some (.ref 17)),none,(some (.str "knotwise.errors" 187)),none,(some (.ref 0))]⟩ ::
o0 ::
o1 P ::
o2 ::
o3 ::
⟨(.type "super"),none,(.fields #[(.ref 24),(.ref 24),(.ref 24)]),#[]⟩ ::
⟨(.type "builtin_function_or_method"),none,(.fields #[(.builtin "object.__init_subclass__"),(.ref 24)]),#[]⟩ ::
o4 ::
Px ::
⟨(.type "dict"),none,(.dict #[hE P "__module__" 214 (.str "knotwise.errors" 187),hE P "__qualname__" 216 (.str "NoName" 215),hE P "__firstlineno__" 218 (.int 4 217),hE P "__static_attributes__" 219 (.ref 35)] 4),#[]⟩ ::
o0 ::
pC ::
hC "NoName" 209 [hI 4,hI 0,hI 0,hI 0,hI 0,hR 31,(.bool .false),hI 181,hR 32,hN,hN,hN,hN,hI 212,hI 4,hS 213] ::
⟨(.type "frame"),none,.plain,#[(some (.ref 33)),(some (.ref 3)),(some (.ref 30)),none,(some (.str "knotwise.errors" 187)),none,(some (.ref 0))]⟩ ::
o0 ::
o5 P ::
o6 ::
⟨(.type "super"),none,(.fields #[(.ref 37),(.ref 37),(.ref 37)]),#[]⟩ ::
⟨(.type "builtin_function_or_method"),none,(.fields #[(.builtin "object.__init_subclass__"),(.ref 37)]),#[]⟩ ::
o4 ::
Px ::
⟨(.type "dict"),none,(.dict #[hE P "__module__" 230 (.str "knotwise.errors" 187),hE P "__qualname__" 232 (.str "NameTaken" 231),hE P "__firstlineno__" 234 (.int 6 233),hE P "__static_attributes__" 235 (.ref 47)] 4),#[]⟩ ::
o0 ::
pC ::
hC "NameTaken" 225 [hI 6,hI 0,hI 0,hI 0,hI 0,hR 43,(.bool .false),hI 181,hR 44,hN,hN,hN,hN,hI 228,hI 6,hS 229] ::
⟨(.type "frame"),none,.plain,#[(some (.ref 45)),(some (.ref 3)),(some (.ref 42)),none,(some (.str "knotwise.errors" 187)),none,(some (.ref 0))]⟩ ::
o0 ::
o7 P ::
o8 ::
⟨(.type "super"),none,(.fields #[(.ref 49),(.ref 49),(.ref 49)]),#[]⟩ ::
⟨(.type "builtin_function_or_method"),none,(.fields #[(.builtin "object.__init_subclass__"),(.ref 49)]),#[]⟩ ::
o4 ::
Px ::
⟨(.type "dict"),none,(.dict #[hE P "__module__" 246 (.str "knotwise.errors" 187),hE P "__qualname__" 248 (.str "NoSpot" 247),hE P "__firstlineno__" 250 (.int 8 249),hE P "__static_attributes__" 251 (.ref 59)] 4),#[]⟩ ::
o0 ::
pC ::
hC "NoSpot" 241 [hI 8,hI 0,hI 0,hI 0,hI 0,hR 55,(.bool .false),hI 181,hR 56,hN,hN,hN,hN,hI 244,hI 8,hS 245] ::
⟨(.type "frame"),none,.plain,#[(some (.ref 57)),(some (.ref 3)),(some (.ref 54)),none,(some (.str "knotwise.errors" 187)),none,(some (.ref 0))]⟩ ::
o0 ::
o9 P ::
ZS ::
⟨(.type "super"),none,(.fields #[(.ref 61),(.ref 61),(.ref 61)]),#[]⟩ ::
⟨(.type "builtin_function_or_method"),none,(.fields #[(.builtin "object.__init_subclass__"),(.ref 61)]),#[]⟩ ::
o4 ::
Px ::
⟨(.type "dict"),none,(.dict #[hE P "__module__" 262 (.str "knotwise.errors" 187),hE P "__qualname__" 264 (.str "TooMany" 263),hE P "__firstlineno__" 266 (.int 10 265),hE P "__static_attributes__" 267 (.ref 71)] 4),#[]⟩ ::
o0 ::
pC ::
hC "TooMany" 257 [hI 10,hI 0,hI 0,hI 0,hI 0,hR 67,(.bool .false),hI 181,hR 68,hN,hN,hN,hN,hI 260,hI 10,hS 261] ::
⟨(.type "frame"),none,.plain,#[(some (.ref 69)),(some (.ref 3)),(some (.ref 66)),none,(some (.str "knotwise.errors" 187)),none,(some (.ref 0))]⟩ ::
o0 ::
ZR P ::
ZQ ::
⟨(.type "super"),none,(.fields #[(.ref 73),(.ref 73),(.ref 73)]),#[]⟩ ::
⟨(.type "builtin_function_or_method"),none,(.fields #[(.builtin "object.__init_subclass__"),(.ref 73)]),#[]⟩ ::
o4 ::
Px ::
⟨(.type "dict"),none,(.dict #[hE P "__module__" 278 (.str "knotwise.errors" 187),hE P "__qualname__" 280 (.str "NoFit" 279),hE P "__firstlineno__" 282 (.int 12 281),hE P "__static_attributes__" 283 (.ref 83)] 4),#[]⟩ ::
o0 ::
pC ::
hC "NoFit" 273 [hI 12,hI 0,hI 0,hI 0,hI 0,hR 79,(.bool .false),hI 181,hR 80,hN,hN,hN,hN,hI 276,hI 12,hS 277] ::
⟨(.type "frame"),none,.plain,#[(some (.ref 81)),(some (.ref 3)),(some (.ref 78)),none,(some (.str "knotwise.errors" 187)),none,(some (.ref 0))]⟩ ::
o0 ::
ZP P ::
ZO ::
⟨(.type "super"),none,(.fields #[(.ref 85),(.ref 85),(.ref 85)]),#[]⟩ ::
⟨(.type "builtin_function_or_method"),none,(.fields #[(.builtin "object.__init_subclass__"),(.ref 85)]),#[]⟩ ::
o4 ::
Px ::
⟨(.type "dict"),none,(.dict #[hE P "__module__" 294 (.str "knotwise.errors" 187),hE P "__qualname__" 296 (.str "NoMove" 295),hE P "__firstlineno__" 298 (.int 14 297),hE P "__static_attributes__" 299 (.ref 95)] 4),#[]⟩ ::
o0 ::
pC ::
hC "NoMove" 289 [hI 14,hI 0,hI 0,hI 0,hI 0,hR 91,(.bool .false),hI 181,hR 92,hN,hN,hN,hN,hI 292,hI 14,hS 293] ::
⟨(.type "frame"),none,.plain,#[(some (.ref 93)),(some (.ref 3)),(some (.ref 90)),none,(some (.str "knotwise.errors" 187)),none,(some (.ref 0))]⟩ ::
o0 ::
ZN P ::
ZM ::
⟨(.type "super"),none,(.fields #[(.ref 97),(.ref 97),(.ref 97)]),#[]⟩ ::
⟨(.type "builtin_function_or_method"),none,(.fields #[(.builtin "object.__init_subclass__"),(.ref 97)]),#[]⟩ ::
o0 ::
pC ::
⟨(.type "tuple"),none,(.seq #[(.str "rows" 310),(.str "passings" 311),(.str "row" 312)] 0),#[]⟩ ::
o0 ::
hG (top 10) "passings_of" "passings_of" 0 0 ::
hD "passings_of" 307 18 1 100 (hR 102) (hR 103) (hR 104) 314 ::
hF 10 "passings_of" (.str "knotwise.drawings" 303) (.ref 105) ::
o0 ::
pC ::
⟨(.type "tuple"),none,(.seq #[(.str "row" 319),(.str "start" 320)] 0),#[]⟩ ::
o0 ::
hG (top 11) "seated" "seated" 0 0 ::
hD "seated" 316 23 1 107 (hR 109) (hR 110) (hR 111) 322 ::
hF 11 "seated" (.str "knotwise.drawings" 303) (.ref 112) ::
o0 ::
pC ::
hG (top 12) "seated_rows" "seated_rows" 0 0 ::
hD "seated_rows" 324 28 1 114 hN hN (hR 116) 328 ::
hF 12 "seated_rows" (.str "knotwise.drawings" 303) (.ref 117) ::
o0 ::
pC ::
hG (top 13) "names_of" "names_of" 0 0 ::
hD "names_of" 330 30 1 119 hN hN (hR 121) 334 ::
hF 13 "names_of" (.str "knotwise.drawings" 303) (.ref 122) ::
o0 ::
pC ::
⟨(.type "tuple"),none,(.seq #[(.str "drawing" 339),(.str "name" 340),(.str "passing" 341)] 0),#[]⟩ ::
o0 ::
hG (top 14) "hand_of" "hand_of" 0 0 ::
hD "hand_of" 336 32 2 124 (hR 126) (hR 127) (hR 128) 343 ::
hF 14 "hand_of" (.str "knotwise.drawings" 303) (.ref 129) ::
o0 ::
pC ::
hG (top 15) "spots_on" "spots_on" 0 0 ::
hD "spots_on" 345 37 2 131 hN hN (hR 133) 349 ::
hF 15 "spots_on" (.str "knotwise.drawings" 303) (.ref 134) ::
o0 ::
pC ::
⟨(.type "tuple"),none,(.seq #[(.str "drawing" 354),(.str "behind" 355),(.str "row" 356),(.str "passing" 357),(.str "follower" 358)] 0),#[]⟩ ::
o0 ::
hG (top 16) "next_of" "next_of" 0 0 ::
hD "next_of" 351 41 1 136 (hR 138) (hR 139) (hR 140) 360 ::
hF 16 "next_of" (.str "knotwise.drawings" 303) (.ref 141) ::
o0 ::
pC ::
⟨(.type "tuple"),none,(.seq #[(.str "drawing" 365),(.str "spot" 366),(.str "string" 367),(.str "row" 368)] 0),#[]⟩ ::
o0 ::
hG (top 17) "string_of" "string_of" 0 0 ::
hD "string_of" 362 47 2 143 (hR 145) (hR 146) (hR 147) 370 ::
hF 17 "string_of" (.str "knotwise.drawings" 303) (.ref 148) ::
o0 ::
pC ::
⟨(.type "tuple"),none,(.seq #[(.str "behind" 377),(.str "one" 378),(.str "other" 379)] 0),#[]⟩ ::
o0 ::
hG (top 19) "neighbours" "neighbours" 0 0 ::
hD "neighbours" 374 53 3 150 (hR 152) (hR 153) (hR 154) 381 ::
hF 19 "neighbours" (.str "knotwise.fits" 372) (.ref 155) ::
o0 ::
pC ::
⟨(.type "tuple"),none,(.seq #[(.str "drawing" 386),(.str "name" 387)] 0),#[]⟩ ::
o0 ::
hG (top 20) "uncurl_fits" "uncurl_fits" 0 0 ::
hD "uncurl_fits" 383 55 2 157 (hR 159) (hR 160) (hR 161) 389 ::
hF 20 "uncurl_fits" (.str "knotwise.fits" 372) (.ref 162) ::
o0 ::
pC ::
⟨(.type "tuple"),none,(.seq #[(.str "drawing" 394),(.str "name" 395),(.str "second" 396),(.str "behind" 397)] 0),#[]⟩ ::
o0 ::
hG (top 21) "part_fits" "part_fits" 0 0 ::
hD "part_fits" 391 57 3 164 (hR 166) (hR 167) (hR 168) 399 ::
hF 21 "part_fits" (.str "knotwise.fits" 372) (.ref 169) ::
o0 ::
pC ::
⟨(.type "tuple"),none,(.seq #[(.str "one" 404),(.str "other" 405),(.str "turn" 406)] 0),#[]⟩ ::
o0 ::
hG (top 22) "in_turn" "in_turn" 0 0 ::
hD "in_turn" 401 62 3 171 (hR 173) (hR 174) (hR 175) 408 ::
hF 22 "in_turn" (.str "knotwise.fits" 372) (.ref 176) ::
o0 ::
pC ::
⟨(.type "tuple"),none,(.seq #[(.str "drawing" 413),(.str "name" 414),(.str "second" 415),(.str "third" 416),(.str "turn" 417),(.str "first_hand" 418),(.str "second_hand" 419),(.str "third_hand" 420)] 0),#[]⟩ ::
o0 ::
hG (top 23) "slide_pairs" "slide_pairs" 0 0 ::
hD "slide_pairs" 410 66 5 178 (hR 180) (hR 181) (hR 182) 422 ::
hF 23 "slide_pairs" (.str "knotwise.fits" 372) (.ref 183) ::
o0 ::
pC ::
hG (top 24) "slide_fits" "slide_fits" 0 0 ::
hD "slide_fits" 424 71 5 185 hN hN (hR 187) 428 ::
hF 24 "slide_fits" (.str "knotwise.fits" 372) (.ref 188) ::
o0 ::
pC ::
⟨(.type "tuple"),none,(.seq #[(.str "drawing" 435),(.str "names" 436),(.str "known" 437),(.str "name" 438)] 0),#[]⟩ ::
o0 ::
hG (top 26) "refuse_unknown" "refuse_unknown" 0 0 ::
hD "refuse_unknown" 432 77 2 190 (hR 192) (hR 193) (hR 194) 440 ::
hF 26 "refuse_unknown" (.str "knotwise.moves" 430) (.ref 195) ::
o0 ::
pC ::
⟨(.type "tuple"),none,(.seq #[(.str "fits" 445)] 0),#[]⟩ ::
o0 ::
hG (top 27) "refuse_unfit" "refuse_unfit" 0 0 ::
hD "refuse_unfit" 442 82 1 197 (hR 199) (hR 200) (hR 201) 447 ::
hF 27 "refuse_unfit" (.str "knotwise.moves" 430) (.ref 202) ::
o0 ::
pC ::
⟨(.type "tuple"),none,(.seq #[(.str "drawing" 452),(.str "names" 453),(.str "taken" 454),(.str "name" 455)] 0),#[]⟩ ::
o0 ::
hG (top 28) "refuse_new" "refuse_new" 0 0 ::
hD "refuse_new" 449 85 2 204 (hR 206) (hR 207) (hR 208) 457 ::
hF 28 "refuse_new" (.str "knotwise.moves" 430) (.ref 209) ::
o0 ::
pC ::
⟨(.type "tuple"),none,(.seq #[(.str "drawing" 462),(.str "spot" 463),(.str "passings" 464),(.str "string" 465),(.str "rows" 466),(.str "place" 467)] 0),#[]⟩ ::
o0 ::
hG (top 29) "with_put" "with_put" 0 0 ::
hD "with_put" 459 93 3 211 (hR 213) (hR 214) (hR 215) 469 ::
hF 29 "with_put" (.str "knotwise.moves" 430) (.ref 216) ::
o0 ::
pC ::
hG (top 30) "taken_out" "taken_out" 0 0 ::
hD "taken_out" 471 99 2 218 hN hN (hR 220) 475 ::
hF 30 "taken_out" (.str "knotwise.moves" 430) (.ref 221) ::
o0 ::
pC ::
hG (top 31) "spot_ahead" "spot_ahead" 0 0 ::
hD "spot_ahead" 477 104 3 223 hN hN (hR 225) 481 ::
hF 31 "spot_ahead" (.str "knotwise.moves" 430) (.ref 226) ::
o0 ::
pC ::
⟨(.type "tuple"),none,(.seq #[(.str "drawing" 486),(.str "name" 487),(.str "second" 488),(.str "way" 489)] 0),#[]⟩ ::
o0 ::
hG (top 32) "first_in_turn" "first_in_turn" 0 0 ::
hD "first_in_turn" 483 112 4 228 (hR 230) (hR 231) (hR 232) 491 ::
hF 32 "first_in_turn" (.str "knotwise.moves" 430) (.ref 233) ::
o0 ::
pC ::
hG (top 33) "with_changed" "with_changed" 0 0 ::
hD "with_changed" 493 116 2 235 hN hN (hR 237) 497 ::
hF 33 "with_changed" (.str "knotwise.moves" 430) (.ref 238) ::
o0 ::
pC ::
⟨(.type "tuple"),none,(.seq #[(.str "spot" 502),(.str "names" 503)] 0),#[]⟩ ::
o0 ::
hG (top 34) "renamed_spot" "renamed_spot" 0 0 ::
hD "renamed_spot" 499 126 2 240 (hR 242) (hR 243) (hR 244) 505 ::
hF 34 "renamed_spot" (.str "knotwise.moves" 430) (.ref 245) ::
o0 ::
Px ::
⟨(.type "dict"),none,(.dict #[hE P "__module__" 514 (.str "knotwise.moves" 430),hE P "__qualname__" 516 (.str "Move" 515),hE P "__firstlineno__" 518 (.int 130 517),hE P "__static_attributes__" 519 (.ref 254)] 4),#[]⟩ ::
o0 ::
pC ::
hC "Move" 509 [hI 130,hI 0,hI 0,hI 0,hI 0,hR 250,(.bool .false),hI 181,hR 251,hN,hN,hN,hN,hI 512,hI 130,hS 513] ::
⟨(.type "frame"),none,.plain,#[(some (.ref 252)),(some (.ref 3)),(some (.ref 249)),none,(some (.str "knotwise.moves" 430)),none,(some (.ref 0))]⟩ ::
o0 ::
ZL P ::
⟨(.type "type"),none,(.cls ⟨"Move",[(.type "object")],[(.ref 256),(.type "object")],255,"Move",.true,[],[(.ref 312)],.false,none,.false⟩),#[none,none,(some (.str "Move" 507)),(some (.str "Move" 515)),(some (.builtin "object.__new__")),(some (.bool .true))]⟩ ::
ZK ::
ZJ ::
⟨(.type "super"),none,(.fields #[(.ref 256),(.ref 256),(.ref 256)]),#[]⟩ ::
⟨(.type "builtin_function_or_method"),none,(.fields #[(.builtin "object.__init_subclass__"),(.ref 256)]),#[]⟩ ::
Tp ::
Px ::
⟨(.type "dict"),none,(.dict #[hE P "__module__" 534 (.str "knotwise.moves" 430),hE P "__qualname__" 536 (.str "Uncurl" 535),hE P "__firstlineno__" 538 (.int 132 537),hE P "__init__" 546 (.ref 274),hE P "told" 553 (.ref 281),hE P "refuse" 561 (.ref 288),hE P "done" 569 (.ref 295),hE P "back" 581 (.ref 302),hE P "renamed" 589 (.ref 309),hE P "__static_attributes__" 591 (.ref 310)] 10),#[]⟩ ::
o0 ::
⟨.none,none,(.fields #[(.int 134 0),(.int 4 0),(.ref 273),(.int 137 0),(.int 4 0),(.ref 280),(.int 140 0),(.int 4 0),(.ref 287),(.int 144 0),(.int 4 0),(.ref 294),(.int 148 0),(.int 4 0),(.ref 301),(.int 156 0),(.int 4 0),(.ref 308)]),#[]⟩ ::
hC "Uncurl" 529 [hI 132,hI 0,hI 0,hI 0,hI 0,hR 264,(.bool .false),hI 181,hR 265,hN,hN,hN,hN,hI 532,hI 132,hS 533] ::
⟨(.type "frame"),none,.plain,#[(some (.ref 266)),(some (.ref 3)),(some (.ref 263)),none,(some (.str "knotwise.moves" 430)),none,(some (.ref 0))]⟩ ::
o0 ::
pC ::
⟨(.type "tuple"),none,(.seq #[(.str "self" 542),(.str "name" 543)] 0),#[]⟩ ::
o0 ::
hG (mZ 36 0) "__init__" "Uncurl.__init__" 0 0 ::
ZI ::
hM 36 0 "__init__" "Uncurl.__init__" (.str "knotwise.moves" 430) (.ref 273) ::
o0 ::
pC ::
⟨(.type "tuple"),none,(.seq #[(.str "self" 550)] 0),#[]⟩ ::
o0 ::
hG (mZ 36 1) "told" "Uncurl.told" 0 0 ::
ZH ::
hM 36 1 "told" "Uncurl.told" (.str "knotwise.moves" 430) (.ref 280) ::
o0 ::
pC ::
⟨(.type "tuple"),none,(.seq #[(.str "self" 557),(.str "drawing" 558)] 0),#[]⟩ ::
o0 ::
hG (mZ 36 2) "refuse" "Uncurl.refuse" 0 0 ::
ZG ::
hM 36 2 "refuse" "Uncurl.refuse" (.str "knotwise.moves" 430) (.ref 287) ::
o0 ::
pC ::
⟨(.type "tuple"),none,(.seq #[(.str "self" 565),(.str "drawing" 566)] 0),#[]⟩ ::
o0 ::
hG (mZ 36 3) "done" "Uncurl.done" 0 0 ::
ZF ::
hM 36 3 "done" "Uncurl.done" (.str "knotwise.moves" 430) (.ref 294) ::
o0 ::
pC ::
⟨(.type "tuple"),none,(.seq #[(.str "self" 573),(.str "drawing" 574),(.str "over" 575),(.str "under" 576),(.str "first" 577),(.str "spot" 578)] 0),#[]⟩ ::
o0 ::
hG (mZ 36 4) "back" "Uncurl.back" 0 0 ::
ZE ::
hM 36 4 "back" "Uncurl.back" (.str "knotwise.moves" 430) (.ref 301) ::
o0 ::
pC ::
⟨(.type "tuple"),none,(.seq #[(.str "self" 585),(.str "names" 586)] 0),#[]⟩ ::
o0 ::
hG (mZ 36 5) "renamed" "Uncurl.renamed" 0 0 ::
ZD ::
hM 36 5 "renamed" "Uncurl.renamed" (.str "knotwise.moves" 430) (.ref 308) ::
ZC ::
ZA P ::
Zz ::
⟨(.type "super"),none,(.fields #[(.ref 312),(.ref 312),(.ref 312)]),#[]⟩ ::
⟨(.type "builtin_function_or_method"),none,(.fields #[(.builtin "object.__init_subclass__"),(.ref 312)]),#[]⟩ ::
[]))
noncomputable def cS2(w:World)(os:lu):pL:=⟨K2.bt (cL2 w.params),315,{},lg [],jF,595,os⟩
noncomputable def hL:List Str:=[]
noncomputable abbrev QR(w:World)(os:lu):=K2.tU jd PySem.Challenge.rw_knotwise_k78_too_many_walked.row.prog w 11 (some (.ref 6)) 2300 (cS2 w os) (restOf (cB.drop 37) cE cC ⟨132,0,157,54⟩ [rM cQ])
theorem YH(w:World)(os:lu):(QR w os).map (fun s=>(K2.IB PySem.Challenge.rw_knotwise_k78_too_many_walked.row.prog hQ hL (K2.LK PySem.Challenge.rw_knotwise_k78_too_many_walked hQ) (fun s=>hA.map s.heap.get?) w.params s.abs).2.1)=some (K1 hQ hL):=by kernel_rfl
theorem YI(w:World)(os:lu):(QR w os).map (fun s=>((K2.IB PySem.Challenge.rw_knotwise_k78_too_many_walked.row.prog hQ hL (K2.LK PySem.Challenge.rw_knotwise_k78_too_many_walked hQ) (fun s=>hA.map s.heap.get?) w.params s.abs).1,(K2.IB PySem.Challenge.rw_knotwise_k78_too_many_walked.row.prog hQ hL (K2.LK PySem.Challenge.rw_knotwise_k78_too_many_walked hQ) (fun s=>hA.map s.heap.get?) w.params s.abs).2.2))=some (true,(hK w.params).map fun p=>some p.2):=by kernel_rfl
theorem h_z (P:jL):((fB P).isNs aT,(fB P).objs.size,(fB P).nsMap aT "__annotations__")=(true,11,(some (.ref 6))):=by kernel_rfl
theorem Vl(w:World)(os:lu):K2.Vt jd PySem.Challenge.rw_knotwise_k78_too_many_walked.row.prog w 11 (some (.ref 6)) 12 (K2.Of w.params os) (topStub PySem.Challenge.rw_knotwise_k78_too_many_walked.row.prog)=some (cS0 w os,⟨denote jd cC,cC,⟨0,0,0,0⟩,[rM cQ]⟩):=by kernel_rfl
theorem Vm(w:World)(os:lu):segRunT jd PySem.Challenge.rw_knotwise_k78_too_many_walked.row.prog w 11 (some (.ref 6)) 1 1 (cS0 w os) (blockOf cB cE cC ⟨0,0,0,0⟩ [rM cQ])=some (.next,cS1 w os,cC,⟨0,0,0,0⟩):=by kernel_rfl
theorem YG(w:World)(os:lu):segRunT jd PySem.Challenge.rw_knotwise_k78_too_many_walked.row.prog w 11 (some (.ref 6)) 1 2796 (cS1 w os) (piecesOf (cB.take 37) cE cC ⟨0,0,0,0⟩ [rM cQ])=some (.next,cS2 w os,cC,⟨132,0,157,54⟩):=by kernel_rfl
theorem SQ(w:World)(os:lu):(topFrom jd (PySem.Challenge.rw_knotwise_k78_too_many_walked).row.prog w (12+(1+(2796+2300))) ⟨fB w.params,lg [],jF,tM,os⟩).map (fun s=>(openSeen hQ hL (lq (PySem.Challenge.rw_knotwise_k78_too_many_walked).row.prog.main.body) (K2.LK PySem.Challenge.rw_knotwise_k78_too_many_walked hQ) true s,hA.map s.heap.get?))=some (K1 hQ hL,(hK w.params).map fun p=>some p.2) :=
 K2.OZ (Yf:=fun s=>hA.map s.heap.get?) (Ya:=fun w=>(hK w.params).map fun p=>some p.2) (h_z w.params) (K2.MU (YI w os) (YH w os)) fun _ k=>K2.KG (Vl w os) (Vm w os) <| K2.N5 37 (YG w os) <| k
theorem SO:(PySem.Challenge.rw_knotwise_k78_too_many_walked).wellSaid=true:=by kernel_rfl
theorem SM:K2.HW PySem.Challenge.rw_knotwise_k78_too_many_walked hQ=true:=by kernel_rfl
end
end Fin
namespace L2
open PySem PySem.Spec PyProof.Rows
noncomputable abbrev Key:=Sum Int Str
noncomputable def A3:Key->Value->Bool
 | .inl k,v=>Value.isInt k v
 | .inr x,v=>Value.isStrOf x v
noncomputable def XR(w:World):Key->Int
 | .inl k=>hashInt k
 | .inr x=>hashStr w x
theorem fG:∀ {k:Key} {v:Value},A3 k v=true->(∃ i t,k=FP i/\v=Dz i t)\/(∃ x t,k=FO x/\v=Lv x t)
 | .inl i,v,h=>by
  obtain⟨t,e⟩:=Value.isInt_shape (k:=i) (v:=v) h;exact .inl ⟨i,t,rfl,e⟩
 | .inr x,v,h=>by
  obtain⟨t,e⟩:=Value.isStrOf_shape (x:=x) (v:=v) h;exact .inr ⟨x,t,rfl,e⟩
theorem Kk(i:Int)(t:Tok):A3 (.inl i) (.int i t)=true:=by simp [A3,Value.isInt]
theorem Kj(x:Str)(t:Tok):A3 (.inr x) (.str x t)=true:=by simp [A3,Value.isStrOf]
theorem M1(a b:Int):decide ((FP a:Key)=FP b)=(a == b):=by
 by_cases e:a=b
 ·subst e; simp
 ·have h:¬ (FP a:Key)=FP b:=fun q=>e (Sum.inl.inj q);rw [decide_eq_false h];exact(beq_eq_false_iff_ne.mpr e).symm
theorem M0(a b:Str):decide ((FO a:Key)=FO b)=decide (a=b):=by
 by_cases e:a=b
 ·subst e; simp
 ·have h:¬ (FO a:Key)=FO b:=fun q=>e (Sum.inr.inj q);rw [decide_eq_false h,decide_eq_false e]
theorem Sg(a:Int)(b:Str):decide ((FP a:Key)=FO b)=false:=decide_eq_false (fun q=>nomatch q)
theorem Sf(a:Str)(b:Int):decide ((FO a:Key)=FP b)=false:=decide_eq_false (fun q=>nomatch q)
noncomputable def eV(prog:bx)(w:World):PySem.KeyKind prog w Key where
 is:=A3
 hash:=XR w
 inj:=fun v a b ha hb=>by
  rcases fG ha with ⟨i,t,rfl,rfl⟩ | ⟨x,t,rfl,rfl⟩
  ·rcases fG hb with ⟨j,u,rfl,e⟩ | ⟨y,u,rfl,e⟩
   ·injection e with e1 _; rw [e1]
   ·exact nomatch e
  ·rcases fG hb with ⟨j,u,rfl,e⟩ | ⟨y,u,rfl,e⟩
   ·exact nomatch e
   ·injection e with e1 _; rw [e1]
 byValue:=fun k v h=>by
  rcases fG h with ⟨i,t,rfl,rfl⟩ | ⟨x,t,rfl,rfl⟩ <;> rfl
 pyHash:=fun hv h=>by
  rcases fG hv with ⟨i,t,rfl,rfl⟩ | ⟨x,t,rfl,rfl⟩
  ·exact wpAny_pyHash_int h
  ·exact wpAny_pyHash_str h
 eqBool:=fun hu hv h=>by
  rcases fG hu with ⟨i,t,rfl,rfl⟩ | ⟨x,t,rfl,rfl⟩
  ·rcases fG hv with ⟨j,u,rfl,rfl⟩ | ⟨y,u,rfl,rfl⟩
   ·rw [M1] at h; exact wpAny_eqBool_int h
   ·rw [Sg] at h; exact SeqAt.EqAt.int_str i t y u _ _ _ _ h
  ·rcases fG hv with ⟨j,u,rfl,rfl⟩ | ⟨y,u,rfl,rfl⟩
   ·rw [Sf] at h; exact SeqAt.EqAt.str_int x t j u _ _ _ _ h
   ·rw [M0] at h; exact wpAny_eqBool_str h
 «strs»:=fun k x t v h=>by
  rcases fG h with ⟨i,u,rfl,e⟩ | ⟨y,u,rfl,e⟩
  ·exact nomatch e
  ·injection e with e1 _
   subst e1;cases v <;> rfl
theorem Ea(prog:bx)(w:World)(i:Int)(t:Tok):(eV prog w).is (.inl i) (.int i t)=true:=Kk i t
theorem D9(prog:bx)(w:World)(x:Str)(t:Tok):(eV prog w).is (.inr x) (.str x t)=true:=Kj x t
inductive V where
 | dI | bl (b:Bool) | int (i:Int) | str (x:Str) | QY (b:Array UInt8) | Wm (b:UInt64) | ref (a:Addr) | ty (n:String)
noncomputable def RelV:V->Value->Prop
 | .dI,u=>u=HJ
 | .bl b,u=>u=HK b
 | .int i,u=>∃ t,u=Dz i t
 | .str x,u=>∃ t,u=Lv x t
 | .QY b,u=>∃ t,u=Value.bytes b t
 | .Wm b,u=>∃ t,u=Value.float b t
 | .ref a,u=>u=eP a
 | .ty n,u=>u=Value.type n
noncomputable abbrev Vals:List V->List Value->Prop:=Paired RelV
theorem Vals.length{xs:List V}{us:List Value}(r:Vals xs us):xs.length=us.length:=xA r
theorem Vals.get:∀ {xs:List V} {us:List Value} {i:Nat} {x:V},Vals xs us->xs[i]?=some x->∃ u,us[i]?=some u/\RelV x u:=by
 intro xs us i x h;induction h generalizing i with
 | nil=>intro e; cases e
 | cons r t ih =>
  intro e;cases i with
  | zero=>cases e; exact⟨_,rfl,r⟩
  | succ i=>exact ih e
theorem Vals.set{x:V}{u:Value}(r:RelV x u):∀ {xs:List V} {us:List Value} (i:Nat),Vals xs us->Vals (xs.set i x) (us.set i u):=by
 intro xs us i h;induction h generalizing i with
 | nil=>rw [Bv,Bv]; exact .nil
 | cons q t ih =>
  cases i with
  | zero=>exact .cons r t
  | succ i=>exact .cons q (ih i)
theorem Vals.append:∀ {xs ys:List V} {us ws:List Value},Vals xs us->Vals ys ws->Vals (xs++ys) (us++ws):=by
 intro xs ys us ws h s;induction h with
 | nil=>exact s
 | cons r t ih=>exact .cons r ih
theorem Vals.take:∀ {xs:List V} {us:List Value} (n:Nat),Vals xs us->Vals (xs.take n) (us.take n):=by
 intro xs us n h;induction h generalizing n with
 | nil=>rw [zJ,zJ]; exact .nil
 | cons r t ih =>
  cases n with
  | zero=>exact .nil
  | succ n=>exact .cons r (ih n)
theorem Vals.drop:∀ {xs:List V} {us:List Value} (n:Nat),Vals xs us->Vals (xs.drop n) (us.drop n):=by
 intro xs us n h;induction h generalizing n with
 | nil=>rw [zK,zK]; exact .nil
 | cons r t ih =>
  cases n with
  | zero=>exact .cons r t
  | succ n=>exact ih n
noncomputable def pF:Option V->Option Value->Prop
 | some v,some u=>RelV v u
 | none,none=>True
 | _,_=>False
noncomputable def KV{κ:Type}:List (κ×V)->List (κ×Value)->Prop:=Paired fun (p:κ×V) (q:κ×Value)=>p.1=q.1/\RelV p.2 q.2
noncomputable def kV:Key->V
 | .inl i=>.int i
 | .inr x=>.str x
inductive HO where
 | lst (xs:List V)
 | tup (xs:List V)
 | dK (a0:List (Key×V)) | dT (a0:List (List Key×V))
 | set (S:Int->Bool) (n:Nat)
 | ins (C dx:Addr) (fs:List (Str×V))
 | own (x:Addr)
 | xd (fs:List (Str×V))
 | met (f x:Addr)
 | Ul (lo hi:Int)
 | jO (o:Obj) (u:HO)
 | rD (q:Str)
 | ext (φ:Heap->Prop)
noncomputable abbrev Hp:=Addr->Option HO
noncomputable def upd(H:Hp)(a:Addr)(o:HO):Hp:=fun b=>if b=a then some o else H b
theorem bV{H:Hp}{a:Addr}{o:HO}:upd H a o a=some o:=by unfold upd; rw [if_pos rfl]
theorem bj{H:Hp}{a b:Addr}{o:HO}(h:b≠a):upd H a o b=H b:=by unfold upd; rw [if_neg h]
theorem UL{H:Hp}{a b:Addr}{o u:HO}(h:H a=some o)(h':H b=some u)(d:o≠u):a≠b:=by
 intro e; subst e; rw [h] at h'; exact d (ba h')
theorem bX{H:Hp}{a b:Addr}{o:HO}(h:H a=some o)(h':H b=none):a≠b:=by
 intro e; subst e; rw [h] at h'; cases h'
section
variable (P:bx) (w:World)
noncomputable def fe(H:Hp)(h:Heap)(a:Addr):HO->Prop
 | .lst xs=>xs.length<=bb/\∃ (its:List Value) (n:Nat),Vals xs its/\h.get? a=some { cls:=.type "list",data:=.seq its.toArray n }
 | .tup xs=>xs.length<=bb/\∃ its:List Value,Vals xs its/\IsTup h a its.toArray
 | .dK a0=>a0.length<=bb/\(a == gQ)=false/\∃ vs,KV a0 vs/\h.DictOf (eV P w) a vs
 | .dT a0=>a0.length<=bb/\(a == gQ)=false/\∃ xs:List (List Key×Addr×Value),
   Paired (fun (p:List Key×V) (q:List Key×Addr×Value)=>p.1=q.1/\H q.2.1=some (.tup (p.1.map kV))/\RelV p.2 q.2.2) a0 xs /\
   ∃ o es ep,h.get? a=some o/\o.ExactDict/\o.data=.dict es ep/\es.toList=xs.map (entryOfKey (Ll (eV P w)))/\(xs.map (·.1)).Nodup
 | .set S n=>h.SetOf (intKind P w) a S n
 | .ins C dx fs=>H dx=some (.own a)/\fs.length<=1000/\dx≠a/\h.get? a=some (gx C dx) /\
   ∃ mA,h.Ns1 dx mA/\(∀ f,pF (fs.lookup f) (mA f))/\Lw mA (fs.map (·.1))
 | .own _=>∃ o,h.get? a=some o
 | .xd fs=>∃ mA,h.Ns1 a mA/\∀ f,pF (fs.lookup f) (mA f)
 | .Ul lo hi=>∃ t u v,h.get? a=some { cls:=.type "range",data:=.fields #[.int lo t,.int hi u,.int 1 v] }
 | .jO o u=>h.get? a=some o/\fe H h a u
 | .rD q=>∃ ps,h.get? a=some { cls:=.none,data:=.fields ps }/\TriplesOk ps.toList/\∀ pos cv,lr pos ps.toList=some cv->∃ c',cv=.ref c'/\H c'=some (.own a)/\h.CodeRec (.ref c') q
 | .met f x=>h.get? a=some (ya (.ref f) (.ref x))
 | .ext φ=>φ h/\(∃ o,h.get? a=some o)/\∀ h1 h2:Heap,φ h1->(∀ o,h1.get? a=some o->h2.get? a=some o)->φ h2
noncomputable def pj(H:Hp)(h:Heap):Prop:=∀ a o,H a=some o->fe P w H h a o
end
section
variable {P:bx} {w:World} {H H':Hp} {h h':Heap} {a:Addr} {o:HO}
theorem fe.lt(x:fe P w H h a o):a < h.objs.size:=by
 cases o with
 | lst xs=>obtain⟨_,_,_,_,e⟩:=x; exact aL e
 | tup xs=>obtain⟨_,_,_,p⟩:=x; exact p.lt
 | dK a0=>obtain⟨_,_,_,_,o,_,_,e,_⟩:=x; exact aL e
 | dT a0=>obtain⟨_,_,_,_,o,_,_,e,_⟩:=x; exact aL e
 | set S n=>obtain⟨o,_,_,_,e,_⟩:=x; exact aL e
 | ins C dx fs=>obtain⟨_,_,_,e,_⟩:=x; exact aL e
 | own y=>obtain⟨_,e⟩:=x; exact aL e
 | xd fs=>obtain⟨_,⟨_,_,_,e,_⟩,_⟩:=x; exact aL e
 | Ul lo hi=>obtain⟨_,_,_,e⟩:=x; exact aL e
 | jO ob u=>obtain⟨e,_⟩:=x; exact aL e
 | rD q=>obtain⟨_,e,_⟩:=x; exact aL e
 | met f y=>exact aL (show h.get? a=some _ from x)
 | ext φ=>obtain⟨_,⟨_,e⟩,_⟩:=x; exact aL e
theorem Paired.R8{α β:Type}{F G:α->β->Prop}:∀ {l₁:List α} {R9:List β},Paired F l₁ R9->(∀ a b,F a b->G a b)->Paired G l₁ R9:=by
 intro l₁ R9 h f;induction h with
 | nil=>exact .nil
 | cons r t ih=>exact .cons (f _ _ r) ih
theorem fe.iK(x:fe P w H h a o)(k:∀ b u,(b=a\/H b=some (.own a))->h.get? b=some u->h'.get? b=some u)
  (ho:∀ b,H b=some (.own a)->H' b=some (.own a)) (ht:∀ b xs,H b=some (.tup xs)->H' b=some (.tup xs)):fe P w H' h' a o:=by
 induction o with
 | lst xs=>obtain⟨z,its,n,r,e⟩:=x; exact⟨z,its,n,r,k _ _ (.inl rfl) e⟩
 | tup xs=>obtain⟨z,its,r,ob,e,c⟩:=x; exact⟨z,its,r,ob,k _ _ (.inl rfl) e,c⟩
 | dK a0=>obtain⟨z,y,vs,r,ob,es,ep,e,c⟩:=x; exact⟨z,y,vs,r,ob,es,ep,k _ _ (.inl rfl) e,c⟩
 | dT a0 =>
  obtain⟨z,y,xs,r,ob,es,ep,e,c⟩:=x;exact⟨z,y,xs,Paired.R8 r fun p q z=>⟨z.1,ht _ _ z.2.1,z.2.2⟩,ob,es,ep,k _ _ (.inl rfl) e,c⟩
 | set S n=>obtain⟨ob,es,ep,t,e,c⟩:=x; exact⟨ob,es,ep,t,k _ _ (.inl rfl) e,c⟩
 | ins C dx fs =>
  obtain⟨d,z,ne,e,mA,⟨od,es,ep,e2,c⟩,r⟩:=x;exact⟨ho _ d,z,ne,k _ _ (.inl rfl) e,mA,⟨od,es,ep,k _ _ (.inr d) e2,c⟩,r⟩
 | own y=>obtain⟨ob,e⟩:=x; exact⟨ob,k _ _ (.inl rfl) e⟩
 | xd fs=>obtain⟨mA,⟨od,es,ep,e,c⟩,r⟩:=x; exact⟨mA,⟨od,es,ep,k _ _ (.inl rfl) e,c⟩,r⟩
 | Ul lo hi=>obtain⟨t,u,v,e⟩:=x; exact⟨t,u,v,k _ _ (.inl rfl) e⟩
 | jO ob u ih=>obtain⟨e,q⟩:=x; exact⟨k _ _ (.inl rfl) e,ih q⟩
 | rD q =>
  obtain⟨ps,e,t,z⟩:=x;refine⟨ps,k _ _ (.inl rfl) e,t,fun pos cv y=>?_⟩;obtain⟨c',e1,e2,c2,oc,vs,tq,e3,e4,r⟩:=z pos cv y;cases e3;exact⟨c',e1,ho _ e2,c',oc,vs,tq,rfl,k _ _ (.inr e2) e4,r⟩
 | met f y =>
  have e:h.get? a=some (ya (.ref f) (.ref y)):=x;show h'.get? a=some (ya (.ref f) (.ref y));exact k a _ (.inl rfl) e
 | ext φ=>obtain⟨p,⟨o,e⟩,st⟩:=x; exact⟨st _ _ p fun o q=>k _ _ (.inl rfl) q,⟨o,k _ _ (.inl rfl) e⟩,st⟩
theorem pj.lt(x:pj P w H h)(e:H a=some o):a < h.objs.size:=(x a o e).lt
theorem pj.fresh(x:pj P w H h)(e:h.objs.size<=a):H a=none:=by
 cases q:H a with
 | none=>rfl
 | some u=>exact absurd (bg (x.lt q) e) (ic _)
theorem pj.kept(x:pj P w H h)(k:∀ b u,h.get? b=some u->h'.get? b=some u):pj P w H h':=fun a o e =>
 (x a o e).iK (fun b u _ q=>k b u q) (fun _ q=>q) fun _ _ q=>q
theorem pj.laid(x:pj P w H h)(k:∀ b u,h.get? b=some u->h'.get? b=some u)(hp:h.objs.size<=a)(new:fe P w (upd H a o) h' a o):pj P w (upd H a o) h':=fun b u e=>by
 have hn:=x.fresh hp;by_cases hb:b=a
 ·subst hb; rw [bV] at e; cases e; exact new
 ·rw [bj hb] at e;exact(x b u e).iK (fun c v _ q=>k c v q) (fun c q=>by rw [bj (bX q hn)]; exact q) fun c xs q=>by rw [bj (bX q hn)]; exact q
end
noncomputable def Rd(H:Hp)(a:Addr)(u:HO):Prop:=H a=some u\/∃ o,H a=some (.jO o u)
theorem Rd.ok{P:bx}{w:World}{H:Hp}{h:Heap}{a:Addr}{u:HO}(r:Rd H a u)(x:pj P w H h):fe P w H h a u:=by
 rcases r with r | ⟨o,r⟩
 ·exact x a u r
 ·obtain⟨_,q⟩:=x a _ r;exact q
noncomputable def VJ:Option HO->Prop
 | some (.lst _)=>True
 | some (.dK _)=>True
 | some (.dT _)=>True
 | some (.set _ _)=>True
 | some (.ins _ _ _)=>True
 | some (.ext _)=>True
 | _=>False
section
variable {P:bx} {w:World} {H:Hp} {h h':Heap} {x e:Addr} {o':HO}
theorem pj.write(ok:pj P w H h)(mu:VJ (H x))(he:e=x\/H e=some (.own x))(k:∀ b u,b≠e->h.get? b=some u->h'.get? b=some u)(Tw:∃ u,h'.get? e=some u)
  (new:fe P w (upd H x o') h' x o'):pj P w (upd H x o') h':=fun b u q=>by
 have UG:∀ c y,H c=some (.own y)->c≠x:=fun c y r z=>by subst z; rw [r] at mu; exact mu
 have Xw:∀ c xs,H c=some (.tup xs)->c≠x:=fun c xs r z=>by subst z; rw [r] at mu; exact mu
 by_cases hb:b=x
 ·subst hb; rw [bV] at q; cases q; exact new
 ·rw [bj hb] at q;by_cases SK:b=e
  ·have q':H b=some (.own x):=by
    rcases he with z | z
    ·exact absurd (SK.trans z) hb
    ·rw [SK]; exact z
   rw [q] at q'; cases q';obtain⟨v,hv⟩:=Tw;exact⟨v,by rw [SK]; exact hv⟩
  ·refine(ok b u q).iK (fun c v hc r=>k c v ?_ r) (fun c r=>by rw [bj (UG c b r)]; exact r) fun c xs r=>by rw [bj (Xw c xs r)]; exact r
   rcases hc with rfl | hc
   ·exact SK
   ·rintro rfl;rcases he with z | z
    ·exact UG c b hc z
    ·rw [hc] at z; cases z; exact hb rfl
end
structure Un(fs ex:List Addr)(H H':Hp)(h h':Heap):Prop where
 keep:∀ b o,h.get? b=some o->H b=none->b∉fs->b∉ex->h'.get? b=some o
 slot:∀ b o,h.get? b=some o->H b=none->b∈fs->b∉ex->∃ sl,h'.get? b=some { o with slots:=sl }
 free:∀ b o,h.get? b=some o->H b=none->b∉ex->H' b=none
 there:∀ b o,h.get? b=some o->b∉ex->∃ o',h'.get? b=some o'
 sD:∀ b xs,H b=some (.tup xs)->H' b=some (.tup xs)
 rG:∀ b o u,H b=some (.jO o u)->H' b=some (.jO o u)
 nh:∀ b q,H b=some (.rD q)->H' b=some (.rD q)
 uB:∀ b x,H b=some (.own x)->H' b=some (.own x)
section
variable {fs fs' ex ex':List Addr} {H H1 H2:Hp} {h h1 h2 h':Heap} {a x e:Addr} {o:HO}
theorem Un.any(u:Un fs ex H H1 h h1){b:Addr}{ob:Obj}(q:h.get? b=some ob)(n:H b=none)(hx:b∉ex):∃ sl,h1.get? b=some { ob with slots:=sl }:=by
 by_cases hb:b∈fs
 ·exact u.slot b ob q n hb hx
 ·exact⟨ob.slots,u.keep b ob q n hb hx⟩
theorem Un.kept(k:∀ b u,h.get? b=some u->h'.get? b=some u):Un fs ex H H h h' :=
 ⟨fun b ob q _ _ _=>k b ob q,fun b ob q _ _ _=>⟨ob.slots,k b ob q⟩,fun _ _ _ n _=>n,fun b ob q _=>⟨ob,k b ob q⟩,fun _ _ q=>q,fun _ _ _ q=>q,fun _ _ q=>q,fun _ _ q=>q⟩
theorem Un.refl:Un fs ex H H h h:=Un.kept fun _ _ q=>q
theorem Un.laid(k:∀ b u,h.get? b=some u->h'.get? b=some u)(hp:h.objs.size<=a)(hn:H a=none):Un fs ex H (upd H a o) h h' where
 keep:=fun b u q _ _ _=>k b u q
 slot:=fun b u q _ _ _=>⟨u.slots,k b u q⟩
 free:=fun b u q n _=>by rw [bj (bq (bg (aL q) hp))]; exact n
 there:=fun b u q _=>⟨u,k b u q⟩
 sD:=fun b xs q=>by rw [bj (bX q hn)]; exact q
 rG:=fun b u xs q=>by rw [bj (bX q hn)]; exact q
 nh:=fun b ps q=>by rw [bj (bX q hn)]; exact q
 uB:=fun b ps q=>by rw [bj (bX q hn)]; exact q
theorem Un.write(mu:VJ (H x))(he:e=x\/H e=some (.own x))(k:∀ b u,b≠e->h.get? b=some u->h'.get? b=some u)(Tw:∃ u,h'.get? e=some u):Un fs ex H (upd H x o) h h':=by
 have hx:∀ b,H b=none->b≠x:=fun b n z=>by subst z; rw [n] at mu; exact mu
 have hb:∀ b,H b=none->b≠e:=fun b n z=>by
  subst z;rcases he with r | r
  ·exact hx b n r
  ·rw [n] at r; cases r
 have hm:∀ b u,H b=some u->¬ VJ (some u)->b≠x:=fun b u q nm z=>by subst z; rw [q] at mu; exact nm mu
 refine⟨fun b u q n _ _=>k b u (hb b n) q,fun b u q n _ _=>⟨u.slots,k b u (hb b n) q⟩,fun b u q n _=>by rw [bj (hx b n)]; exact n,fun b u q _=>?_,
  fun b xs q=>by rw [bj (hm b _ q fun z=>z)]; exact q,fun b u xs q=>by rw [bj (hm b _ q fun z=>z)]; exact q,fun b ps q=>by rw [bj (hm b _ q fun z=>z)]; exact q,fun b ps q=>by rw [bj (hm b _ q fun z=>z)]; exact q⟩
 by_cases SK:b=e
 ·subst SK; exact Tw
 ·exact⟨u,k b u SK q⟩
end
noncomputable def VQ(h:Heap)(H:Hp):List Addr:=(ft h.objs.size).filter fun a=>(H a).isSome
noncomputable def z0(h:Heap)(H:Hp):Heap:=PySem.W.hideAll h (VQ h H)
theorem Kq(h:Heap)(H:Hp):(z0 h H).objs.size=h.objs.size:=PySem.W.hideAll_size _ _
theorem Nk{h:Heap}{H:Hp}{b:Addr}{o:Obj}(e:h.get? b=some o)(n:H b=none):(z0 h H).get? b=some o :=
 Lx _ e fun hm=>by
  have q:(H b).isSome=true:=(List.mem_filter.mp hm).2;rw [n] at q; simp at q
theorem Pw{h:Heap}{H:Hp}{b:Addr}{o:Obj}(e:(z0 h H).get? b=some o):h.get? b=some o/\H b=none:=by
 have e':h.get? b=some o:=Oq (VQ h H) e;refine⟨e',?_⟩;cases q:H b with
 | none=>rfl
 | some x =>
  have hm:b∈VQ h H:=List.mem_filter.mpr ⟨List.mem_range.mpr (aL e'),by simp [q]⟩;have z:(z0 h H).get? b=none:=PySem.W.hideAll_none (VQ h H) hm;rw [z] at e; cases e
noncomputable def vf(g h:Heap)(L:Addr):List (Addr×Obj):=(ft h.objs.size).filterMap fun a=>if a=L\/(g.get? a).isSome=true then none else (h.get? a).map fun o=>(a,o)
theorem wK{g h:Heap}{L a:Addr}{o:Obj}(h1:a≠L)(h2:g.get? a=none)(h3:h.get? a=some o):(a,o)∈vf g h L :=
 List.mem_filterMap.mpr ⟨a,List.mem_range.mpr (aL h3),by simp [h1,h2,h3]⟩
theorem yx{g h:Heap}{L:Addr}{p:Addr×Obj}(hp:p∈vf g h L):p.1≠L/\g.get? p.1=none/\h.get? p.1=some p.2:=by
 obtain⟨b,_,e⟩:=List.mem_filterMap.mp hp;split at e
 ·cases e
 ·rename_i hn;cases q:h.get? b with
  | none=>rw [q] at e; simp at e
  | some u =>
   rw [q] at e;simp only [Option.map_some,Option.some.injEq] at e;subst e;refine⟨fun z=>hn (.inl z),?_,q⟩;show g.get? b=none;cases r:g.get? b with
   | none=>rfl
   | some v=>exact(hn (.inr (by simp [r]))).elim
noncomputable def rest(g h:Heap)(L d:Addr):List (Addr×Obj):=(vf g h L).filter fun p=>decide (p.1≠d)
theorem D6{g h:Heap}{L:Addr}:News g L h (vf g h L):=fun p hp=>let ⟨a,b,c⟩:=yx hp; ⟨c,a,b⟩
structure Mod(K:ag)(mg:Str->Option Value)(base:Heap):Prop where
 Lc:K.In base
 glob:base.Ns aT mg
 blt:∃ mb,base.Ns tK mb/\∀ x:Str,x≠"__name__"->mb x=dF x
 nolimit:base.NoLimit
structure Cx where
 prog:bx
 w:World
 K:ag
 mg:Str->Option Value
 base:Heap
 A:cI
 N:List Str
 ie:au
 AG:Hp
 env:Env
 outer:List Env
 stack:List Env
 ex:List Addr
 fn:Str->Bool
 calm:Bool
 pn:List (Addr×Obj)
 xe:Value->au->Prop
noncomputable def rH(l:List Env):List Addr:=l.filterMap (·.frame)
noncomputable abbrev Cx.fs(X:Cx):List Addr:=rH X.outer
noncomputable def Wr(sc:Scope)(x:Str):Prop:=sc.names.lookup x=some .local\/sc.names.lookup x=some .cell\/sc.names.lookup x=some .free
noncomputable def Loc(sc:Scope)(x:Str):Prop:=sc.names.lookup x=some .local\/sc.names.lookup x=some .cell
noncomputable def Look(env:Env)(h:Heap)(m:Str->Option Value)(x:Str)(u:Value):Prop :=
 (env.kindOf x=some .local/\m x=some u)\/((env.kindOf x=some .cell\/env.kindOf x=some .free)/\∃ c,env.cells.lookup x=some c/\h.IsCell c (some u))
structure Cx.Ok(X:Cx):Prop where
 mod:Mod X.K X.mg X.base
 kind:X.env.scope.kind=.function
 glob:X.env.globals=aT
 blt:X.env.builtins=tK
 above:X.ie.heap.objs.size<=X.env.locals
 inj:∀ x y c,X.env.cells.lookup x=some c->X.env.cells.lookup y=some c->x=y
 has:∀ x,(X.env.kindOf x=some .cell\/X.env.kindOf x=some .free)->∃ c,X.env.cells.lookup x=some c
 TH:∀ x c,X.fn x=true->X.env.cells.lookup x=some c->X.ie.heap.objs.size<=c
 hd:X.calm=true->X.A.handled=none
 frames:X.A.frames=some X.stack
 Ud:X.stack=X.outer\/(X.stack=X.env :: X.outer/\X.env.frame=some X.env.locals)
 Vu:∀ b∈X.ex,b≠X.env.locals/\∀ x c,X.env.cells.lookup x=some c->c≠b
 bs:∀ b o,X.base.get? b=some o->X.ie.heap.get? b=some o/\X.AG b=none
 Le:X.base.objs.size<=X.ie.heap.objs.size
 J3:∀ b o,X.base.get? b=some o->b∉X.ex
 Ky:∀ b∈X.ex,b∉X.fs
 uU:X.ie.heap.FunFrames X.base X.outer
 NA:∀ b∈X.fs,X.AG b=none
structure Inv(X:Cx)(pins:List (Addr×Obj))(σ:List (Option V))(H:Hp)(s:au):Prop where
 ok:X.Ok
 os:s.os=X.ie.os
 bare:yd s.gens
 base:Un X.fs X.ex X.AG H X.ie.heap s.heap
 loc:∃ m,s.heap.Ns X.env.locals m/\∀ (i:Nat) (x:Str) (v:V),X.N[i]?=some x->σ[i]?=some (some v)->Wr X.env.scope x->∃ u,RelV v u/\Look X.env s.heap m x u
 cell:∀ x c,X.env.cells.lookup x=some c->∃ v,s.heap.IsCell c v
 free:H X.env.locals=none
 i9:∀ x c,X.env.cells.lookup x=some c->H c=none
 pin:∀ p∈X.pn++pins,s.heap.get? p.1=some p.2/\H p.1=none/\p.1≠X.env.locals/\p.1∉X.fs/\∀ v,p.2.data≠.cell v
 cF:pj X.prog X.w H s.heap
 len:σ.length=X.N.length
section
variable {X:Cx} {pins:List (Addr×Obj)} {σ:List (Option V)} {H H':Hp} {s:au} {h':Heap}
theorem Cx.Ok.Xy(ok:X.Ok){b:Addr}{o:Obj}(e:X.base.get? b=some o):b∉X.fs:=fun hb=>by
 have:=(ok.uU.mem hb).1;rw [e] at this; cases this
theorem Inv.bs(I:Inv X pins σ H s):∀ b o,X.base.get? b=some o->s.heap.get? b=some o/\H b=none:=fun b o e =>
 ⟨I.base.keep b o (I.ok.bs b o e).1 (I.ok.bs b o e).2 (I.ok.Xy e) (I.ok.J3 b o e),I.base.free b o (I.ok.bs b o e).1 (I.ok.bs b o e).2 (I.ok.J3 b o e)⟩
theorem Inv.bk(I:Inv X pins σ H s):∀ b o,X.base.get? b=some o->s.heap.get? b=some o:=fun b o e=>(I.bs b o e).1
theorem Inv.mod(I:Inv X pins σ H s):Mod X.K X.mg X.base:=I.ok.mod
theorem Inv.qr(I:Inv X pins σ H s):X.K.In s.heap:=I.ok.mod.Lc.keeps I.bk
theorem Inv.nolimit(I:Inv X pins σ H s):s.heap.NoLimit:=I.ok.mod.nolimit.keeps I.bk
theorem Inv.fr(I:Inv X pins σ H s):∃ m,Fr X.base X.env.locals s.heap m :=
 let ⟨m,hn,_⟩:=I.loc
 ⟨m,hn,I.bk,bU I.ok.Le I.ok.above⟩
theorem Inv.lt(I:Inv X pins σ H s):X.env.locals < s.heap.objs.size:=let ⟨_,hn,_⟩:=I.loc; hn.lt
theorem Inv.sz(I:Inv X pins σ H s):X.ie.heap.objs.size<=s.heap.objs.size:=bU I.ok.above (ON I.lt)
theorem Inv.Xx(I:Inv X pins σ H s){a:Addr}(h:s.heap.objs.size<=a):a∉X.fs:=fun hb=>by
 obtain⟨_,o,ho,_⟩:=I.ok.uU.mem hb;exact absurd (bg (aL ho) (bU I.sz h)) (ic _)
theorem Inv.Qd(I:Inv X pins σ H s):∀ x c,X.env.cells.lookup x=some c->c≠X.env.locals:=fun x c e z=>by
 obtain⟨v,o,ho,hd⟩:=I.cell x c e;obtain⟨m,⟨o',es,ep,Sv,Ks,_⟩,_⟩:=I.loc;rw [z,Sv] at ho; cases ho; rw [Ks] at hd; cases hd
theorem Inv.uU(I:Inv X pins σ H s):s.heap.FunFrames X.base X.outer:=by
 have all:∀ (l:List Env),(∀ b∈rH l,b∈X.fs)->X.ie.heap.FunFrames X.base l->s.heap.FunFrames X.base l:=by
  intro l;induction l with
  | nil=>intro _ _; trivial
  | cons env r ih =>
   intro hs hl;obtain⟨hk,⟨L,o,hf,hn,ho,hd⟩,hr⟩:=hl;have hL:L∈X.fs:=hs L (by unfold rH; rw [xD,hf]; exact bo);obtain⟨sl,e⟩:=I.base.slot L o ho (I.ok.NA L hL) hL fun z=>I.ok.Ky L z hL;exact⟨hk,⟨L,_,hf,hn,e,hd⟩,ih (fun b hb=>hs b (by unfold rH; rw [xD,hf]; exact aK _ hb)) hr⟩
 exact all X.outer (fun _ hb=>hb) I.ok.uU
theorem Inv.stack(I:Inv X pins σ H s):s.heap.FunFrames X.base X.stack:=by
 rcases I.ok.Ud with e | ⟨e,hf⟩
 ·rw [e]; exact I.uU
 ·rw [e];obtain⟨m,hn,_⟩:=I.loc;refine .cons (by rw [I.ok.kind]; decide) hf hn ?_ I.uU;exact OR (bU I.ok.Le I.ok.above)
theorem Inv.Gu(I:Inv X pins σ H s):∀ b∈rH X.stack,b∈X.env.locals :: X.fs:=fun b hb=>by
 rcases I.ok.Ud with e | ⟨e,hf⟩
 ·rw [e] at hb; exact aK _ hb
 ·rw [e] at hb;unfold rH at hb;rw [xD,hf] at hb;exact hb
theorem Inv.BY(I:Inv X pins σ H s):∀ b∈rH X.stack,H b=none:=fun b hb=>by
 rcases List.mem_cons.mp (I.Gu b hb) with e | hb
 ·rw [e]; exact I.free
 ·obtain⟨_,o,ho,_⟩:=I.ok.uU.mem hb;exact I.base.free b o ho (I.ok.NA b hb) fun z=>I.ok.Ky b z hb
theorem Inv.step{g':Array GenState}{t':Nat}{d':Drawn}{ch:List Addr}(I:Inv X pins σ H s)
  (OD:∀ b∈ch,(b∈X.ex\/X.ie.heap.objs.size<=b)/\b≠X.env.locals/\(∀ x c,X.env.cells.lookup x=some c->c≠b)/\∀ p∈X.pn++pins,p.1≠b)
  (keep:∀ b o,b≠X.env.locals->b∉X.fs->b∉ch->s.heap.get? b=some o->H b=none->h'.get? b=some o)
  (slot:∀ b o,b≠X.env.locals->b∈X.fs->b∉ch->s.heap.get? b=some o->H b=none->∃ sl,h'.get? b=some { o with slots:=sl }) (free:∀ b o,b∉ch->s.heap.get? b=some o->H b=none->H' b=none)
  (there:∀ b o,b∉ch->s.heap.get? b=some o->∃ o',h'.get? b=some o')
  (sD:∀ b xs,H b=some (.tup xs)->H' b=some (.tup xs)) (rG:∀ b o u,H b=some (.jO o u)->H' b=some (.jO o u)) (nh:∀ b q,H b=some (.rD q)->H' b=some (.rD q)) (uB:∀ b x,H b=some (.own x)->H' b=some (.own x))
  (ns:∀ m,s.heap.Ns X.env.locals m->h'.Ns X.env.locals m) (cF:pj X.prog X.w H' h') (hg:yd g') :
  Inv X pins σ H' { s with heap:=h',gens:=g',drawn:=d',toks:=t' }:=by
 have ZW:∀ b o,X.ie.heap.get? b=some o->b≠X.env.locals:=fun b o e=>bq (bg (aL e) I.ok.above);have V0:∀ b o,X.ie.heap.get? b=some o->b∉X.ex->b∉ch:=fun b o e hx hb=>by
  rcases (OD b hb).1 with z | z
  ·exact hx z
  ·exact absurd (bg (aL e) z) (ic _)
 have cellK:∀ x c,X.env.cells.lookup x=some c->∀ v,s.heap.IsCell c v->h'.IsCell c v:=fun x c e v ⟨o,ho,hd⟩=>by
  have UM:c∉ch:=fun z=>(OD c z).2.2.1 x c e rfl;by_cases hc:c∈X.fs
  ·obtain⟨sl,q⟩:=slot c o (I.Qd x c e) hc UM ho (I.i9 x c e);exact⟨_,q,hd⟩
  ·exact⟨o,keep c o (I.Qd x c e) hc UM ho (I.i9 x c e),hd⟩
 refine⟨I.ok,I.os,hg,⟨fun b o e n hb hx=>?_,fun b o e n hb hx=>?_,fun b o e n hx=>?_,fun b o e hx=>?_,fun b xs e=>sD b xs (I.base.sD b xs e),fun b o xs e=>rG b o xs (I.base.rG b o xs e),fun b ps e=>?_,fun b x e=>uB b x (I.base.uB b x e)⟩,?_,fun x c e=>?_,?_,fun x c e=>?_,fun p hp=>?_,cF,I.len⟩
 ·exact keep b o (ZW b o e) hb (V0 b o e hx) (I.base.keep b o e n hb hx) (I.base.free b o e n hx)
 ·obtain⟨sl,e1⟩:=I.base.slot b o e n hb hx;obtain⟨sl',e2⟩:=slot b _ (ZW b o e) hb (V0 b o e hx) e1 (I.base.free b o e n hx);exact⟨sl',e2⟩
 ·obtain⟨o',e1⟩:=I.base.there b o e hx;exact free b o' (V0 b o e hx) e1 (I.base.free b o e n hx)
 ·obtain⟨o',e1⟩:=I.base.there b o e hx;exact there b o' (V0 b o e hx) e1
 ·exact nh b _ (I.base.nh b ps e)
 ·obtain⟨m,hn,hl⟩:=I.loc;refine⟨m,ns m hn,fun i x v e1 e2 e3=>?_⟩;obtain⟨u,r,l⟩:=hl i x v e1 e2 e3;refine⟨u,r,?_⟩;rcases l with l | ⟨k,c,e,z⟩
  ·exact .inl l
  ·exact .inr ⟨k,c,e,cellK x c e _ z⟩
 ·obtain⟨v,z⟩:=I.cell x c e;exact⟨v,cellK x c e v z⟩
 ·obtain⟨m,⟨o,_,_,ho,_⟩,_⟩:=I.loc;exact free _ o (fun z=>(OD _ z).2.1 rfl) ho I.free
 ·obtain⟨v,o,ho,hd⟩:=I.cell x c e;exact free c o (fun z=>(OD c z).2.2.1 x c e rfl) ho (I.i9 x c e)
 ·obtain⟨e,n,ne,nf,d⟩:=I.pin p hp;have UM:p.1∉ch:=fun z=>(OD p.1 z).2.2.2 p hp rfl;exact⟨keep p.1 p.2 ne nf UM e n,free p.1 p.2 UM e n,ne,nf,d⟩
theorem Inv.un{t':Nat}(I:Inv X pins σ H s)(u:Un X.fs [] H H' s.heap h')(cF:pj X.prog X.w H' h'):Inv X pins σ H' { s with heap:=h',toks:=t' }:=by
 obtain⟨m,⟨o,es,ep,ho,r⟩,_⟩:=id I.loc;obtain⟨sl,hL⟩:=u.any ho I.free (by simp);exact I.step (g':=s.gens) (d':=s.drawn) (ch:=[]) (fun _ z=>nomatch z) (fun b o _ hb _ e n=>u.keep b o e n hb (by simp)) (fun b o _ hb _ e n=>u.slot b o e n hb (by simp)) (fun b o _ e n=>u.free b o e n (by simp)) (fun b o _ e=>u.there b o e (by simp)) u.sD u.rG u.nh u.uB (fun m' hm=>by
  obtain⟨o',YU,YV,Sv,r'⟩:=hm;rw [ho] at Sv; cases Sv;exact⟨_,YU,YV,hL,r'⟩) cF I.bare
theorem Inv.call{g':Array GenState}{t':Nat}{d':Drawn}{ch:List Addr}(I:Inv X pins σ H s)(u:Un (rH X.stack) ch H H' s.heap h')(cF:pj X.prog X.w H' h')(hg:yd g')
  (OD:∀ b∈ch,(b∈X.ex\/X.ie.heap.objs.size<=b)/\b≠X.env.locals/\(∀ x c,X.env.cells.lookup x=some c->c≠b)/\∀ p∈X.pn++pins,p.1≠b) :
  Inv X pins σ H' { s with heap:=h',gens:=g',drawn:=d',toks:=t' }:=by
 obtain⟨m,⟨o,es,ep,ho,r⟩,_⟩:=id I.loc;obtain⟨sl,hL⟩:=u.any ho I.free fun z=>(OD _ z).2.1 rfl;exact I.step (ch:=ch) OD (fun b o hL hb hc e n=>u.keep b o e n (fun z=>(List.mem_cons.mp (I.Gu b z)).elim hL hb) hc) (fun b o _ _ hc e n=>u.any e n hc) (fun b o hc e n=>u.free b o e n hc) (fun b o hc e=>u.there b o e hc) u.sD u.rG u.nh u.uB (fun m' hm=>by
  obtain⟨o',YU,YV,Sv,r'⟩:=hm;rw [ho] at Sv; cases Sv;exact⟨_,YU,YV,hL,r'⟩) cF hg
theorem Inv.turned{t':Nat}{it:Addr}(I:Inv X pins σ H s)(k:∀ b o,b≠it->s.heap.get? b=some o->h'.get? b=some o)(hn:H it=none)(hL:it≠X.env.locals)
  (h1:it∈X.ex\/X.ie.heap.objs.size<=it) (h2:∀ x c,X.env.cells.lookup x=some c->c≠it) (h3:∀ p∈X.pn++pins,p.1≠it):Inv X pins σ H { s with heap:=h',toks:=t' }:=by
 have ZU:∀ b u,H b=some u->b≠it:=fun b u e z=>by rw [z,hn] at e; cases e
 refine I.step (g':=s.gens) (d':=s.drawn) (ch:=[it]) (fun b hb=>?_) (fun b o _ _ hc e _=>k b o (fun z=>hc (by simp [z])) e) (fun b o _ _ hc e _=>⟨o.slots,k b o (fun z=>hc (by simp [z])) e⟩) (fun _ _ _ _ n=>n)
  (fun b o hc e=>⟨o,k b o (fun z=>hc (by simp [z])) e⟩) (fun _ _ e=>e) (fun _ _ _ e=>e) (fun _ _ e=>e) (fun _ _ e=>e) (fun m hm=>?_) (fun b u e=>?_) I.bare
 ·have e:b=it:=by simpa using hb
  subst e;exact⟨h1,hL,h2,h3⟩
 ·obtain⟨o,es,ep,ho,r⟩:=hm;exact⟨o,es,ep,k _ o (jD hL) ho,r⟩
 ·refine(I.cF b u e).iK (fun c v hc q=>k c v ?_ q) (fun _ q=>q) fun _ _ q=>q;rcases hc with z | z
  ·rw [z]; exact ZU b u e
  ·exact ZU c _ z
theorem Inv.tok(I:Inv X pins σ H s)(t:Nat):Inv X pins σ H { s with toks:=t }:=I.un (h':=s.heap) (t':=t) Un.refl I.cF
theorem Inv.kept{t':Nat}(I:Inv X pins σ H s)(k:∀ b u,s.heap.get? b=some u->h'.get? b=some u):Inv X pins σ H { s with heap:=h',toks:=t' }:=I.un (Un.kept k) (I.cF.kept k)
theorem Inv.laid{a:Addr}{o:HO}{t':Nat}(I:Inv X pins σ H s)(k:∀ b u,s.heap.get? b=some u->h'.get? b=some u)(hp:s.heap.objs.size<=a)(new:fe X.prog X.w (upd H a o) h' a o) :
  Inv X pins σ (upd H a o) { s with heap:=h',toks:=t' }:=I.un (Un.laid k hp (I.cF.fresh hp)) (I.cF.laid k hp new)
theorem Inv.write{x e:Addr}{o:HO}{t':Nat}(I:Inv X pins σ H s)(mu:VJ (H x))(he:e=x\/H e=some (.own x))(k:∀ b u,b≠e->s.heap.get? b=some u->h'.get? b=some u)(Tw:∃ u,h'.get? e=some u)
  (new:fe X.prog X.w (upd H x o) h' x o):Inv X pins σ (upd H x o) { s with heap:=h',toks:=t' }:=I.un (Un.write mu he k Tw) (I.cF.write mu he k Tw new)
theorem Inv.Ip{Qy:List (Addr×Obj)}(I:Inv X pins σ H s)(h:∀ p∈Qy,s.heap.get? p.1=some p.2/\H p.1=none/\p.1≠X.env.locals/\p.1∉X.fs/\∀ v,p.2.data≠.cell v):Inv X Qy σ H s :=
 ⟨I.ok,I.os,I.bare,I.base,I.loc,I.cell,I.free,I.i9,fun p hp=>(List.mem_append.mp hp).elim (fun z=>I.pin p (fg _ z)) (h p),I.cF,I.len⟩
theorem yy{N:List Str}(hN:N.Nodup){i j:Nat}{x:Str}(a:N[i]?=some x)(b:N[j]?=some x):i=j:=by
 obtain⟨h1,e1⟩:=List.getElem?_eq_some_iff.mp a;obtain⟨h2,e2⟩:=List.getElem?_eq_some_iff.mp b;exact(List.getElem_inj hN).mp (e1.trans e2.symm)
theorem vA{M:Model}{A:cI}{E:Value->au->Prop}{i:Nat}{x:Str}{v:V}{u:Value}{Q:Unit->au->Prop}(I:Inv X pins σ H s)(hN:X.N.Nodup)(hi:X.N[i]?=some x)(hx:Loc X.env.scope x)(r:RelV v u)
  (h:∀ s',Inv X pins (σ.set i (some v)) H s'->(∃ a,By a s.heap s'.heap/\(a=X.env.locals\/X.env.cells.lookup x=some a))->Q () s') (hf:autoParam (X.fn x=true\/X.env.scope.names.lookup x=some .local) Ao._auto_1):wpAny M A (storeName X.env x u) Q E s:=by
 obtain⟨m,hn,hl⟩:=id I.loc;have Np:(X.env.scope.kind == .class||(X.env.scope.kind == .module&&X.env.locals != X.env.globals))=false:=by rw [I.ok.kind]; rfl
 have Va:i < σ.length:=by rw [I.len]; exact(List.getElem?_eq_some_iff.mp hi).1
 have Qd:=I.Qd;have tracked:∀ {a:Addr} {h':Heap},(∃ o,s.heap.get? a=some o/\H a=none)->By a s.heap h'->pj X.prog X.w H h':=fun {a h'} ha hs b ob e=>by
  obtain⟨_,_,oY⟩:=ha;refine(I.cF b ob e).iK (fun c w' hc q=>(hs.2 c ?_).trans q) (fun _ q=>q) fun _ _ q=>q;rintro rfl;rcases hc with rfl | hc
  ·rw [oY] at e; cases e
  ·rw [oY] at hc; cases hc
 rcases hx with hk | hk
 ·refine wpAny_storeName_local hk hn (fun h' Tv hs=>?_) Np;obtain⟨oL,_,_,V8,_⟩:=id hn;refine h _ ⟨I.ok,I.os,I.bare,⟨fun b o e n hb hx=>?_,fun b o e n hb hx=>?_,I.base.free,fun b o e hx=>?_,I.base.sD,I.base.rG,I.base.nh,I.base.uB⟩,⟨_,Tv,fun j y v' e1 e2 e3=>?_⟩,fun y c e=>?_,I.free,I.i9,fun p hp=>?_,tracked ⟨oL,V8,I.free⟩ hs,by simpa using I.len⟩ ⟨_,hs,.inl rfl⟩
  ·exact(hs.2 b (bq (bg (aL e) I.ok.above))).trans (I.base.keep b o e n hb hx)
  ·obtain⟨sl,e1⟩:=I.base.slot b o e n hb hx;exact⟨sl,(hs.2 b (bq (bg (aL e) I.ok.above))).trans e1⟩
  ·obtain⟨o',e1⟩:=I.base.there b o e hx;exact⟨o',(hs.2 b (bq (bg (aL e) I.ok.above))).trans e1⟩
  ·by_cases hj:j=i
   ·subst hj;rw [hi] at e1; cases e1;rw [eD Va] at e2;cases e2;exact⟨u,r,.inl ⟨hk,by simp⟩⟩
   ·rw [dP (jD hj)] at e2;obtain⟨u',r',q⟩:=hl j y v' e1 e2 e3;refine⟨u',r',?_⟩;rcases q with ⟨k,e⟩ | ⟨k,c,e,z⟩
    ·refine .inl ⟨k,?_⟩;have:y≠x:=fun e=>hj (yy hN e1 (e ▸ hi));simp [this,e]
    ·exact .inr ⟨k,c,e,z.sameBut hs (Qd y c e)⟩
  ·obtain⟨w',z⟩:=I.cell y c e;exact⟨w',z.sameBut hs (Qd y c e)⟩
  ·obtain⟨e,n,ne,nf,d⟩:=I.pin p hp;exact⟨(hs.2 p.1 ne).trans e,n,ne,nf,d⟩
 ·have Yy:X.fn x=true:=by
   rcases hf with z | z
   ·exact z
   ·rw [z] at hk; cases hk
  obtain⟨c,hc⟩:=I.ok.has x (.inl hk);obtain⟨w',z⟩:=I.cell x c hc;refine wpAny_storeName_cell I.ok.kind hk hc z (fun h' PX hs=>?_);obtain⟨oc,Tu,Yl⟩:=id z;refine h { s with heap:=h' } ⟨I.ok,I.os,I.bare,⟨fun b o e n hb hx=>?_,fun b o e n hb hx=>?_,I.base.free,fun b o e hx=>?_,I.base.sD,I.base.rG,I.base.nh,I.base.uB⟩,⟨m,hn.sameBut hs (jD (Qd x c hc)),fun j y v' e1 e2 e3=>?_⟩,fun y c' e=>?_,I.free,I.i9,fun p hp=>?_,tracked ⟨oc,Tu,I.i9 x c hc⟩ hs,by simpa using I.len⟩ ⟨c,hs,.inr hc⟩
  ·exact(hs.2 b (bq (bg (aL e) (I.ok.TH x c Yy hc)))).trans (I.base.keep b o e n hb hx)
  ·obtain⟨sl,e1⟩:=I.base.slot b o e n hb hx;exact⟨sl,(hs.2 b (bq (bg (aL e) (I.ok.TH x c Yy hc)))).trans e1⟩
  ·obtain⟨o',e1⟩:=I.base.there b o e hx;exact⟨o',(hs.2 b (bq (bg (aL e) (I.ok.TH x c Yy hc)))).trans e1⟩
  ·by_cases hj:j=i
   ·subst hj;rw [hi] at e1; cases e1;rw [eD Va] at e2;cases e2;exact⟨u,r,.inr ⟨.inl hk,c,hc,PX⟩⟩
   ·rw [dP (jD hj)] at e2;obtain⟨u',r',q⟩:=hl j y v' e1 e2 e3;refine⟨u',r',?_⟩;rcases q with q | ⟨k,c',e,z'⟩
    ·exact .inl q
    ·refine .inr ⟨k,c',e,z'.sameBut hs ?_⟩;rintro rfl;exact hj (yy hN e1 (I.ok.inj _ _ _ e hc ▸ hi))
  ·by_cases hcc:c'=c
   ·subst hcc; exact⟨_,PX⟩
   ·obtain⟨w2,z2⟩:=I.cell y c' e;exact⟨w2,z2.sameBut hs hcc⟩
  ·obtain⟨e,n,ne,nf,d⟩:=I.pin p hp;refine⟨(hs.2 p.1 ?_).trans e,n,ne,nf,d⟩;intro q;rw [q,Tu] at e;have q':oc=p.2:=ba e;exact d w' (by rw [<-q']; exact Yl)
theorem yf{M:Model}{A:cI}{E:Value->au->Prop}{i:Nat}{x:Str}{v:V}{u:Value}{Q:Unit->au->Prop}(I:Inv X pins σ H s)(hN:X.N.Nodup)(hi:X.N[i]?=some x)(hx:Loc X.env.scope x)(r:RelV v u)
  (h:∀ s',Inv X pins (σ.set i (some v)) H s'->Q () s') (hf:autoParam (X.fn x=true\/X.env.scope.names.lookup x=some .local) Ao._auto_1):wpAny M A (storeName X.env x u) Q E s :=
 vA I hN hi hx r (fun s' I' _=>h s' I') hf
theorem Inv.QX{s':au}{ch:List Addr}(I:Inv X pins σ H s)(ho:s'.os=s.os)(u:Un (rH X.stack) ch H H' s.heap s'.heap)(cF:pj X.prog X.w H' s'.heap)(hg:yd s'.gens)
  (OD:∀ b∈ch,(b∈X.ex\/X.ie.heap.objs.size<=b)/\b≠X.env.locals/\(∀ x c,X.env.cells.lookup x=some c->c≠b)/\∀ p∈X.pn++pins,p.1≠b):Inv X pins σ H' s':=by
 obtain⟨h',g',d',t',o'⟩:=s';have e:o'=s.os:=ho;subst e;exact I.call (g':=g') (t':=t') (d':=d') u cF hg OD
end
noncomputable abbrev XK:=Value->Option Addr->Hp->Prop
noncomputable abbrev St:=List (Option V)
noncomputable abbrev VK:=V->Hp->Prop
noncomputable abbrev TE:=St->Hp->VK->Prop
noncomputable abbrev TT:=St->Hp->(Bool->Hp->Prop)->Prop
noncomputable abbrev TA:=St->Hp->(List V->Hp->Prop)->Prop
structure Ends where
 nx:St->Hp->Prop
 rt:VK
 bk:St->Hp->Prop:=fun _ _=>False
 ct:St->Hp->Prop:=fun _ _=>False
noncomputable abbrev TS:=Ends->St->Hp->Prop
noncomputable def EP(X:Cx)(pins:List (Addr×Obj))(σ:St)(Q:VK)(u:Value)(s':au):Prop:=∃ v H',Inv X pins σ H' s'/\RelV v u/\Q v H'
noncomputable def TP(X:Cx)(pins:List (Addr×Obj))(σ:St)(Q:Bool->Hp->Prop)(b:Bool)(s':au):Prop:=∃ H',Inv X pins σ H' s'/\Q b H'
noncomputable def SP(X:Cx)(pins:List (Addr×Obj))(D:Ends)(f:Flow)(s':au):Prop :=
 match f with
 | .next=>∃ iJ H',Inv X pins iJ H' s'/\D.nx iJ H'
 | .brk=>∃ iJ H',Inv X pins iJ H' s'/\D.bk iJ H'
 | .cont=>∃ iJ H',Inv X pins iJ H' s'/\D.ct iJ H'
 | .ret u=>∃ v iJ H',Inv X pins iJ H' s'/\RelV v u/\D.rt v H'
noncomputable def PE(X:Cx)(e:Expr)(t:TE):Prop :=
 ∀ (pins:List (Addr×Obj)) (s:au) (σ:St) (H:Hp) (Q:VK),Inv X pins σ H s->t σ H Q->wpAny (model X.prog X.w) X.A (eval e X.env) (EP X pins σ Q) X.xe s
noncomputable def TL(X:Cx)(st:List Stmt)(t:TS):Prop :=
 ∀ (pins:List (Addr×Obj)) (s:au) (σ:St) (H:Hp) (D:Ends),Inv X pins σ H s->t D σ H->wpAny (model X.prog X.w) X.A (execs st X.env) (SP X pins D) X.xe s
theorem fV{α:Type}{t:Sem α}{Q Q':α->au->Prop}{M:Model}{A:cI}{E:Value->au->Prop}{s:au}(h:wpAny M A t Q E s)(hQ:∀ a s,Q a s->Q' a s):wpAny M A t Q' E s:=gO h hQ fun _ _ x=>x
section
variable {X:Cx}
noncomputable def WO(i:Nat):TE:=fun σ H Q=>∃ v,σ[i]?=some (some v)/\Q v H
noncomputable def tC(v:V):TE:=fun _ H Q=>Q v H
theorem RI {i:Nat} {x:Str} {pos:Pos} (hN:X.N[i]?=some x) (hv:Wr X.env.scope x) (hd:autoParam ((x == ("__debug__" : Str))=false) Ad._auto_1) (zL:autoParam ((x == ("__classdict__" : Str))=false) Ad._auto_1):PE X (.Name x pos) (WO i):=by
 intro pins s σ H Q I h;obtain⟨v,e,h⟩:=h;obtain⟨m,hn,hl⟩:=I.loc;obtain⟨u,r,l⟩:=hl i x v hN e hv;have fin:EP X pins σ Q u s:=⟨v,H,I,r,h⟩;rcases l with ⟨hk,hm⟩ | ⟨hk,c,hc,kI⟩
 ·exact wpAny_Name (wpAny_loadName_local I.ok.kind hk hn hm fin) hd
 ·rcases hk with hk | hk
  ·exact wpAny_Name (wpAny_loadName_cell I.ok.kind hk hc kI fin) hd
  ·exact wpAny_Name (wpAny_loadName_free I.ok.kind hk hc kI fin zL) hd
theorem RL{i j pos}:PE X (.Constant (.int i) j pos) (tC (.int i)):=fun _ _ _ H _ I h=>wpAny_Constant_int ⟨.int i,H,I.tok _,⟨_,rfl⟩,h⟩
theorem Ur{b j pos}:PE X (.Constant (.bool b) j pos) (tC (.bl b)):=fun _ _ _ H _ I h=>Constant_bool ⟨.bl b,H,I,rfl,h⟩
theorem RK{j pos}:PE X (.Constant .none j pos) (tC .dI):=fun _ _ _ H _ I h=>Constant_none ⟨.dI,H,I,rfl,h⟩
theorem RJ{x j pos}:PE X (.Constant (.str x) j pos) (tC (.str x)):=fun _ _ _ H _ I h=>Calls.Constant_str ⟨.str x,H,I.tok _,⟨_,rfl⟩,h⟩
noncomputable def Gl(X:Cx)(x:Str):Prop:=X.env.kindOf x=some .globalImplicit
theorem j9{E:Value->au->Prop}{pins:List (Addr×Obj)}{s:au}{σ:St}{H:Hp}{x:Str}{u:Value}{pos:Pos}{Q:Value->au->Prop}(I:Inv X pins σ H s)(hg:Gl X x)(hm:X.mg x=some u)(h:Q u s)
  (hd:autoParam ((x == ("__debug__" : Str))=false) Ad._auto_1):wpAny (model X.prog X.w) X.A (eval (.Name x pos) X.env) Q E s :=
 Fw I.ok.kind hg (Calls.loadGlobal_global (by rw [I.ok.glob]; exact I.mod.glob.keeps I.bk) hm h) hd
theorem kA{E:Value->au->Prop}{pins:List (Addr×Obj)}{s:au}{σ:St}{H:Hp}{x:Str}{u:Value}{pos:Pos}{Q:Value->au->Prop}(I:Inv X pins σ H s)(hg:Gl X x)(hm:X.mg x=none)(hv:dF x=some u)(h:Q u s)
  (hn:autoParam (x≠"__name__") Ad._auto_1) (hd:autoParam ((x == ("__debug__" : Str))=false) Ad._auto_1):wpAny (model X.prog X.w) X.A (eval (.Name x pos) X.env) Q E s:=by
 obtain⟨mb,h1,h2⟩:=I.mod.blt;exact Fw I.ok.kind hg (Calls.loadGlobal_builtin (by rw [I.ok.glob]; exact I.mod.glob.keeps I.bk) hm (by rw [I.ok.blt]; exact h1.keeps I.bk) ((h2 x hn).trans hv) h) hd
theorem Pj {x:Str} {v:V} {u:Value} {pos:Pos} (hg:Gl X x) (hm:X.mg x=some u) (r:RelV v u) (hd:autoParam ((x == ("__debug__" : Str))=false) Ad._auto_1):PE X (.Name x pos) (tC v) :=
 fun _ _ _ H _ I h=>j9 I hg hm ⟨v,H,I,r,h⟩ hd
variable {a b:Expr} {ta tb:TE} {pos:Pos}
noncomputable def tB(t:TE):TT:=fun σ H Q=>t σ H fun x H1=>∃ c,x=.bl c/\Q c H1
variable {tA tB':TT} {rest:List Expr}
end
noncomputable def wZ(K:ag)(H:Hp)(a:Addr)(xs:List V):Prop :=
 Rd H a (.lst xs) \/
  ∃ (o:Obj) (its:Array Value) (n:Nat),K.lookup a=some o/\o.cls=.type "list"/\o.dict=none/\o.data=.seq its n/\its.size<=bb/\Vals xs its.toList
noncomputable def zx(K:ag)(H:Hp)(a:Addr)(xs:List V):Prop :=
 Rd H a (.tup xs) \/
  ∃ (o:Obj) (its:Array Value) (n:Nat),K.lookup a=some o/\o.cls=.type "tuple"/\o.data=.seq its n/\its.size<=bb/\Vals xs its.toList
noncomputable def Y2:Value->Option V
 | .none=>some .dI
 | .bool b=>some (.bl b)
 | .int i _=>some (.int i)
 | .str x _=>some (.str x)
 | .bytes b _=>some (.QY b)
 | .float b _=>some (.Wm b)
 | .ref a=>some (.ref a)
 | .type n=>some (.ty n)
 | _=>none
theorem RelV.abs{x:V}{u:Value}(r:RelV x u):Y2 u=some x:=by
 cases x with
 | dI=>cases r; rfl
 | bl _=>cases r; rfl
 | int _=>obtain⟨t,rfl⟩:=r; rfl
 | str _=>obtain⟨t,rfl⟩:=r; rfl
 | QY _=>obtain⟨t,rfl⟩:=r; rfl
 | Wm _=>obtain⟨t,rfl⟩:=r; rfl
 | ref _=>cases r; rfl
 | ty _=>cases r; rfl
theorem RelV.inj{x y:V}{u:Value}(r:RelV x u)(q:RelV y u):x=y:=ba (r.abs.symm.trans q.abs)
theorem Vals.inj:∀ {xs ys:List V} {us:List Value},Vals xs us->Vals ys us->xs=ys:=by
 intro xs ys us h;induction h generalizing ys with
 | nil=>intro k; cases k; rfl
 | cons r t ih =>
  intro k;cases k with
  | cons r' t'=>rw [r.inj r',ih t']
section
variable {X:Cx} {pins:List (Addr×Obj)} {σ:St} {H:Hp} {s:au} {a:Addr} {xs ys:List V}
theorem wZ.of{K:ag}(h:H a=some (.lst xs)):wZ K H a xs:=.inl (.inl h)
theorem zx.of{K:ag}(h:H a=some (.tup xs)):zx K H a xs:=.inl (.inl h)
theorem Inv.list(I:Inv X pins σ H s)(h:wZ X.K H a xs):∃ its:List Value,Vals xs its/\PlainL s.heap a its.toArray/\xs.length<=bb:=by
 rcases h with h | ⟨o,its,n,hk,hc,hd,hs,hz,r⟩
 ·obtain⟨z,its,n,r,e⟩:=h.ok I.cF;exact⟨its,r,⟨_,n,e,rfl,rfl,rfl⟩,z⟩
 ·refine⟨its.toList,r,⟨o,n,I.qr a o hk,hc,hd,by simpa using hs⟩,?_⟩;have e:=r.length;simp only [ng] at e;lia
theorem Inv.tuple(I:Inv X pins σ H s)(h:zx X.K H a xs):∃ its:List Value,Vals xs its/\IsTup s.heap a its.toArray/\xs.length<=bb:=by
 rcases h with h | ⟨o,its,n,hk,hc,hs,hz,r⟩
 ·obtain⟨z,its,r,p⟩:=h.ok I.cF;exact⟨its,r,p,z⟩
 ·refine⟨its.toList,r,⟨o,I.qr a o hk,hc,n,by simpa using hs⟩,?_⟩;have e:=r.length;simp only [ng] at e;lia
theorem Inv.Eh(I:Inv X pins σ H s)(h:wZ X.K H a xs)(h':wZ X.K H a ys):xs=ys:=by
 obtain⟨its,r,⟨o,n,e,_,_,d⟩,_⟩:=I.list h;obtain⟨its',r',⟨o',n',e',_,_,d'⟩,_⟩:=I.list h';rw [e] at e'; cases e';rw [d] at d';injection d' with d1 _
 have:its=its':=by simpa using congrArg Array.toList d1
 subst this;exact r.inj r'
theorem Inv.JH(I:Inv X pins σ H s)(h:zx X.K H a xs)(h':zx X.K H a ys):xs=ys:=by
 obtain⟨its,r,⟨o,e,_,n,d⟩,_⟩:=I.tuple h;obtain⟨its',r',⟨o',e',_,n',d'⟩,_⟩:=I.tuple h';rw [e] at e'; cases e';rw [d] at d';injection d' with d1 _
 have:its=its':=by simpa using congrArg Array.toList d1
 subst this;exact r.inj r'
end
noncomputable abbrev Cx.pB(X:Cx)(E:Value->au->Prop):Cx:={ X with xe:=E }
noncomputable abbrev Cx.OA(X:Cx):Cx:=X.pB fun _ _=>False
theorem Cx.Ok.pB{X:Cx}(ok:X.Ok)(E:Value->au->Prop):(X.pB E).Ok :=
 ⟨ok.mod,ok.kind,ok.glob,ok.blt,ok.above,ok.inj,ok.has,ok.TH,ok.hd,ok.frames,ok.Ud,ok.Vu,ok.bs,ok.Le,ok.J3,ok.Ky,ok.uU,ok.NA⟩
theorem Cx.Ok.mG{X:Cx}{E:Value->au->Prop}(ok:(X.pB E).Ok):X.Ok :=
 ⟨ok.mod,ok.kind,ok.glob,ok.blt,ok.above,ok.inj,ok.has,ok.TH,ok.hd,ok.frames,ok.Ud,ok.Vu,ok.bs,ok.Le,ok.J3,ok.Ky,ok.uU,ok.NA⟩
section
variable {X:Cx} {pins:List (Addr×Obj)} {σ:St} {H:Hp} {s:au} {E:Value->au->Prop}
theorem Inv.pB(I:Inv X pins σ H s)(E:Value->au->Prop):Inv (X.pB E) pins σ H s:=⟨I.ok.pB E,I.os,I.bare,I.base,I.loc,I.cell,I.free,I.i9,I.pin,I.cF,I.len⟩
theorem Inv.mG(I:Inv (X.pB E) pins σ H s):Inv X pins σ H s:=⟨I.ok.mG,I.os,I.bare,I.base,I.loc,I.cell,I.free,I.i9,I.pin,I.cF,I.len⟩
theorem SP.mG{D:Ends}{f:Flow}{s':au}(h:SP (X.pB E) pins D f s'):SP X pins D f s':=by
 cases f with
 | next=>obtain⟨iJ,H',I,q⟩:=h; exact⟨iJ,H',I.mG,q⟩
 | brk=>obtain⟨iJ,H',I,q⟩:=h; exact⟨iJ,H',I.mG,q⟩
 | cont=>obtain⟨iJ,H',I,q⟩:=h; exact⟨iJ,H',I.mG,q⟩
 | ret u=>obtain⟨v,iJ,H',I,r,q⟩:=h; exact⟨v,iJ,H',I.mG,r,q⟩
theorem TL.OA{st:List Stmt}{t:TS}(h:TL X.OA st t):TL X st t:=fun pins s σ H D I hw =>
 gO (h pins s σ H D (I.pB _) hw) (fun _ _ q=>q.mG) fun _ _ z=>bw z
end
section
variable {X:Cx} {st:Stmt} {rest:List Stmt} {t u:TS} {e:Expr} {te:TE} {pos:Pos}
theorem Inv.quiet{pins:List (Addr×Obj)}{σ:St}{H:Hp}{s:au}(I:Inv X pins σ H s):interactive X.env=false:=by simp [interactive,I.ok.kind]
end
noncomputable abbrev Y4:=V->V->V->Hp->(Hp->Prop)->Prop
noncomputable def Y7(X:Cx)(t:Y4):Prop :=
 ∀ (pins:List (Addr×Obj)) (s:au) (σ:St) (H:Hp) (o i v:V) (ov iv u:Value) (Q:Hp->Prop),Inv X pins σ H s->RelV o ov->RelV i iv->RelV v u->t o i v H Q ->
  wpAny (model X.prog X.w) X.A (setItem ov iv u) (fun _ s'=>∃ H',Inv X pins σ H' s'/\Q H') X.xe s
structure It where
 go:Nat->Hp->Prop
 Zm:Nat->Hp->V->Hp->Prop
 stop:Nat->Hp->Prop
noncomputable def pG(X:Cx)(pins:List (Addr×Obj))(H:Hp)(b:Addr):Prop :=
 H b=none/\b≠X.env.locals/\b∉X.fs/\(b∈X.ex\/X.ie.heap.objs.size<=b)/\(∀ x c,X.env.cells.lookup x=some c->c≠b)/\∀ p∈X.pn++pins,p.1≠b
theorem Inv.NB{X:Cx}{pins:List (Addr×Obj)}{σ:St}{H H':Hp}{s:au}{b:Addr}(I:Inv X pins σ H s)(hb:s.heap.objs.size<=b)(hn:H' b=none):pG X pins H' b:=by
 refine⟨hn,Ds (bg I.lt hb),I.Xx hb,.inr (bU I.sz hb),fun x c e z=>?_,fun p hp z=>?_⟩
 ·obtain⟨v,q⟩:=I.cell x c e;exact absurd (bg q.lt (by rw [z]; exact hb)) (ic _)
 ·exact absurd (bg (aL (I.pin p hp).1) (by rw [z]; exact hb)) (ic _)
structure Turn(P:bx)(w:World)(K:ag)(tg:Expr)(J:It)(fp:List Addr)(it:Addr)(tn:Nat->Heap->Prop):Prop where
 mem:it∈fp
 obj:∀ i h,tn i h->∀ b∈fp,∃ o,h.get? b=some o/\∀ v,o.data≠.cell v
 keep:∀ i h h',tn i h->(∀ b∈fp,∀ o,h.get? b=some o->h'.get? b=some o)->tn i h'
 item:∀ (X:Cx),X.prog=P->X.w=w->X.K=K->X.calm=true->∀ (i:Nat) (pins:List (Addr×Obj)) (s:au) (σ:St) (H:Hp) (E:Value->au->Prop),Inv X pins σ H s->(∀ b∈fp,pG X pins H b)->tn i s.heap->J.go i H ->
  wpAny (model P w) X.A (Ln (.ref it)) (fun r s1=>∃ u,r=some u /\
   wpAny (model P w) X.A (x9 tg (.ref it) u) (fun _ s2=>∃ x H',Inv X pins σ H' s2/\RelV x u/\J.Zm i H x H'/\tn (i+1) s2.heap/\∀ b∈fp,H' b=none) E s1) E s
 done:∀ (X:Cx),X.prog=P->X.w=w->X.K=K->X.calm=true->∀ (i:Nat) (pins:List (Addr×Obj)) (s:au) (σ:St) (H:Hp) (E:Value->au->Prop),Inv X pins σ H s->(∀ b∈fp,pG X pins H b)->tn i s.heap->J.stop i H ->
  wpAny (model P w) X.A (Ln (.ref it)) (fun r s1=>r=none/\Inv X pins σ H s1) E s
 self:∀ (A:cI) (i:Nat) (s:au) (Q:Value->au->Prop) (E:Value->au->Prop),tn i s.heap->Q (.ref it) s->wpAny (model P w) A (pyIter (.ref it)) Q E s
noncomputable abbrev TI:=St->Hp->(It->Hp->Prop)->Prop
noncomputable def PIE(X:Cx)(pins:List (Addr×Obj))(σ:St)(tg:Expr)(R:It->Hp->Prop)(QI:Value)(s2:au):Prop :=
 ∃ (it:Addr) (fp:List Addr) (tn:Nat->Heap->Prop) (J:It) (H':Hp),QI=.ref it/\Inv X pins σ H' s2/\Turn X.prog X.w X.K tg J fp it tn/\tn 0 s2.heap/\(∀ b∈fp,pG X pins H' b)/\R J H'
theorem Nv{M:Model}{A:cI}{E:Value->au->Prop}{s:au}{tg:Expr}{it:Addr}{u:Value}{o:Obj}{n:String}{vs:Array Value}{Q:Unit->au->Prop}(ho:s.heap.get? it=some o)(hc:o.cls=.type n)(hd:o.data=.fields vs)
    (hn:["enumerate","zip","dict_itemiterator","dict_reverseitemiterator","odict_iterator","itertools.zip_longest","itertools.pairwise"].contains n=false) (hQ:Q () s):wpAny M A (x9 tg (.ref it) u) Q E s:=by
  unfold x9;cases tg <;> first
    | exact aZ hQ
    | (cases u <;> first
        | exact aZ hQ
        | (refine aw (wpAny_load ho ?_)
           rw [hc,hd];show wpAny M A (if (["enumerate","zip","dict_itemiterator","dict_reverseitemiterator","odict_iterator","itertools.zip_longest","itertools.pairwise"].contains n&&vs[0]? == some (rN _))=true then _ else _) Q E s;rw [if_neg (by intro h; rw [hn,w9] at h; cases h)];exact aZ hQ))
noncomputable def Itl(K:ag)(a:Addr):It :=
 ⟨fun i H=>∃ xs x,wZ K H a xs/\xs[i]?=some x,fun i H x H'=>H'=H/\∀ xs,wZ K H a xs->xs[i]?=some x,fun i H=>∃ xs,wZ K H a xs/\xs.length<=i⟩
noncomputable def Itt(K:ag)(a:Addr):It :=
 ⟨fun i H=>∃ xs x,zx K H a xs/\xs[i]?=some x,fun i H x H'=>H'=H/\∀ xs,zx K H a xs->xs[i]?=some x,fun i H=>∃ xs,zx K H a xs/\xs.length<=i⟩
noncomputable def Za(lo:Int)(n:Nat):It:=⟨fun i _=>i < n,fun i H x H'=>H'=H/\x=.int (lo+i),fun i _=>n<=i⟩
theorem JF{P:bx}{w:World}{K:ag}{tg:Expr}(a it:Addr):Turn P w K tg (Itl K a) [it] it (fun i h=>h.IsListIter it a i) where
 mem:=by simp
 obj:=fun i h st b hb=>by
  have e:b=it:=by simpa using hb
  subst e;obtain⟨o,e,c,d⟩:=st;exact⟨o,e,fun v z=>by rw [d] at z; cases z⟩
 keep:=fun i h h' st k=>st.at fun o e=>k it (by simp) o e
 item:=by
  intro X hP hw hK hc i pins s σ H E I hf st hg;subst hP hw hK;obtain⟨xs,x,hq,hx⟩:=hg;obtain⟨its,rv,p,hz⟩:=I.list hq;obtain⟨u,hu,ru⟩:=rv.get hx;obtain⟨f0,f1,f2,f3,f4,f5⟩:=hf it (by simp);refine wpAny_pyNext_list_item st p.isList (x:=u) (by simpa using hu) fun h' Fx sb=>?_;have I1:Inv X pins σ H { s with heap:=h' }:=I.turned (t':=s.toks) (fun b o hb e=>(sb.2 b hb).trans e) f0 f1 f3 f4 f5;obtain⟨o,e,c,d⟩:=id Fx;exact⟨u,rfl,Nv (s:={ s with heap:=h' }) e c d (by decide) ⟨x,H,I1,ru,⟨rfl,fun ys hy=>by rw [I.Eh hy hq]; exact hx⟩,Fx,fun b hb=>(hf b hb).1⟩⟩
 done:=by
  intro X hP hw hK hc i pins s σ H E I hf st hg;subst hP hw hK;obtain⟨xs,hq,hx⟩:=hg;obtain⟨its,rv,p,hz⟩:=I.list hq;obtain⟨f0,f1,f2,f3,f4,f5⟩:=hf it (by simp);have hl:=rv.length;exact wpAny_pyNext_list_end (I.ok.hd hc) st p.isList (by simp; lia) fun h' eb=>⟨rfl,I.turned (t':=s.toks) (fun b o hb e=>eb b o hb e) f0 f1 f3 f4 f5⟩
 self:=fun _ _ _ _ _ st h=>wpAny_pyIter_listiter st h
theorem Gn{P:bx}{w:World}{K:ag}{tg:Expr}(a it:Addr):Turn P w K tg (Itt K a) [it] it (fun i h=>h.IsTupleIter it a i) where
 mem:=by simp
 obj:=fun i h st b hb=>by
  have e:b=it:=by simpa using hb
  subst e;obtain⟨o,e,c,d⟩:=st;exact⟨o,e,fun v z=>by rw [d] at z; cases z⟩
 keep:=fun i h h' st k=>st.at fun o e=>k it (by simp) o e
 item:=by
  intro X hP hw hK hc i pins s σ H E I hf st hg;subst hP hw hK;obtain⟨xs,x,hq,hx⟩:=hg;obtain⟨its,rv,p,hz⟩:=I.tuple hq;obtain⟨u,hu,ru⟩:=rv.get hx;obtain⟨f0,f1,f2,f3,f4,f5⟩:=hf it (by simp);refine wpAny_pyNext_tuple_item st (show s.heap.IsTuple a its.toArray from p) (x:=u) (by simpa using hu) fun h' Fx sb=>?_;have I1:Inv X pins σ H { s with heap:=h' }:=I.turned (t':=s.toks) (fun b o hb e=>(sb.2 b hb).trans e) f0 f1 f3 f4 f5;obtain⟨o,e,c,d⟩:=id Fx;exact⟨u,rfl,Nv (s:={ s with heap:=h' }) e c d (by decide) ⟨x,H,I1,ru,⟨rfl,fun ys hy=>by rw [I.JH hy hq]; exact hx⟩,Fx,fun b hb=>(hf b hb).1⟩⟩
 done:=by
  intro X hP hw hK hc i pins s σ H E I hf st hg;subst hP hw hK;obtain⟨xs,hq,hx⟩:=hg;obtain⟨its,rv,p,hz⟩:=I.tuple hq;obtain⟨f0,f1,f2,f3,f4,f5⟩:=hf it (by simp);have hl:=rv.length;exact wpAny_pyNext_tuple_end (I.ok.hd hc) st (show s.heap.IsTuple a its.toArray from p) (by simp; lia) fun h' eb=>⟨rfl,I.turned (t':=s.toks) (fun b o hb e=>eb b o hb e) f0 f1 f3 f4 f5⟩
 self:=fun _ _ _ _ _ st h=>wpAny_pyIter_tupleiter st h
theorem Gq{P:bx}{w:World}{K:ag}{tg:Expr}(it:Addr)(lo:Int)(n:Nat):Turn P w K tg (Za lo n) [it] it (fun i h=>IsRangeIter h it (lo+(i:Nat) * 1) ((n:Int) - (i:Nat)) 1) where
 mem:=by simp
 obj:=fun i h st b hb=>by
  have e:b=it:=by simpa using hb
  subst e;exact⟨_,st,fun v z=>by
   have z':Data.fields _=Data.cell v:=z;cases z'⟩
 keep:=fun i h h' st k=>k it (by simp) _ st
 item:=by
  intro X hP hw hK hc i pins s σ H E I hf st hg;subst hP hw hK;obtain⟨f0,f1,f2,f3,f4,f5⟩:=hf it (by simp);have W:=Walks.range (prog:=X.prog) (w:=X.w) (I.ok.hd hc) it lo 1 n;refine W.item i s _ _ hg st fun v h' tk hv Fx kk=>?_;obtain⟨t,rfl⟩:=hv;have I1:Inv X pins σ H { s with heap:=h',toks:=tk }:=I.turned (fun b o hb e=>kk b o (by simpa using hb) e) f0 f1 f3 f4 f5;refine⟨_,rfl,Nv (s:={ s with heap:=h',toks:=tk }) (n:="range_iterator") Fx rfl rfl (by decide) ⟨.int (lo+i),H,I1,⟨t,?_⟩,⟨rfl,rfl⟩,Fx,fun b hb=>(hf b hb).1⟩⟩;rw [Int.mul_one]
 done:=by
  intro X hP hw hK hc i pins s σ H E I hf st hg;subst hP hw hK;obtain⟨f0,f1,f2,f3,f4,f5⟩:=hf it (by simp);exact wpAny_pyNext_range_end (I.ok.hd hc) st (by have:n<=i:=hg; lia) fun h' eb=>⟨rfl,I.turned (t':=s.toks) (fun b o hb e=>eb b o hb e) f0 f1 f3 f4 f5⟩
 self:=fun _ _ _ _ _ st h=>wpAny_pyIter_rangeiter st h
section
variable {X:Cx} {tg:Expr}
theorem Mf{pins:List (Addr×Obj)}{σ:St}{H:Hp}{s:au}{R:It->Hp->Prop}{E:Value->au->Prop}{lo hi:Int}{t u v:Tok}{tk:Nat}(I:Inv X pins σ H s)(h1:-(2 ^ 62)<=lo)(h2:lo < 2 ^ 62)(h3:-(2 ^ 62)<=hi)(h4:hi < 2 ^ 62)
  (q:R (Za lo (hi - lo).toNat) H):wpAny (model X.prog X.w) X.A (pyIter (.ref s.heap.objs.size)) (PIE X pins σ tg R) E { s with heap:=s.heap.push { cls:=.type "range",data:=.fields #[.int lo t,.int hi u,.int 1 v] },toks:=tk }:=by
 refine wpAny_pyIter_range (IsRange.new ..) (small_one h1 h2 h3 h4) ?_;have I1:Inv X pins σ H { s with heap:=s.heap.push { cls:=.type "range",data:=.fields #[.int lo t,.int hi u,.int 1 v] },toks:=tk }:=I.kept fun b o e=>aA _ e
 refine⟨(s.heap.push { cls:=.type "range",data:=.fields #[.int lo t,.int hi u,.int 1 v] }).objs.size,[(s.heap.push { cls:=.type "range",data:=.fields #[.int lo t,.int hi u,.int 1 v] }).objs.size],_,_,H,rfl,
  I1.kept (t':=tk) fun b o e=>aA _ e,Gq _ lo (hi - lo).toNat,?_,fun b hb=>?_,q⟩
 ·have e1:lo+((0:Nat):Int) * 1=lo:=by simp
  have e2:(((hi - lo).toNat:Nat):Int) - ((0:Nat):Int)=Builtin.Range.rangeSize lo hi 1:=by rw [rangeSize_one]; split <;> lia
  show IsRangeIter _ _ (lo+((0:Nat):Int) * 1) ((((hi - lo).toNat:Nat):Int) - ((0:Nat):Int)) 1;rw [e1,e2];exact bE _ rfl
 ·have e:b=(s.heap.push { cls:=.type "range",data:=.fields #[.int lo t,.int hi u,.int 1 v] }).objs.size:=by simpa using hb
  subst e;exact I1.NB (aQ _) (I1.cF.fresh (aQ _))
noncomputable def qf(fp:List Addr)(h:Heap):List (Addr×Obj):=fp.filterMap fun b=>(h.get? b).map fun o=>(b,o)
theorem ow{fp:List Addr}{h:Heap}{b:Addr}{o:Obj}(hb:b∈fp)(e:h.get? b=some o):(b,o)∈qf fp h:=List.mem_filterMap.mpr ⟨b,hb,by rw [e]; rfl⟩
theorem J0{fp:List Addr}{h:Heap}{p:Addr×Obj}(hp:p∈qf fp h):p.1∈fp/\h.get? p.1=some p.2:=by
 obtain⟨b,hb,e⟩:=List.mem_filterMap.mp hp;cases q:h.get? b with
 | none=>rw [q] at e; cases e
 | some o =>
  rw [q] at e;have e':(b,o)=p:=ba e;subst e';exact⟨hb,q⟩
theorem Inv.pinned{pins:List (Addr×Obj)}{σ:St}{H:Hp}{s:au}{fp:List Addr}(I:Inv X pins σ H s)(hf:∀ b∈fp,pG X pins H b)(ho:∀ b∈fp,∃ o,s.heap.get? b=some o/\∀ v,o.data≠.cell v):Inv X (pins++qf fp s.heap) σ H s :=
 I.Ip fun p hp=>(List.mem_append.mp hp).elim (fun z=>I.pin p (bT _ z)) fun z=>by
  obtain⟨hb,e⟩:=J0 z;obtain⟨f0,f1,f2,_⟩:=hf p.1 hb;obtain⟨o,e',d⟩:=ho p.1 hb;rw [e] at e'; cases e';exact⟨e,f0,f1,f2,d⟩
theorem Inv.tT{pins pl:List (Addr×Obj)}{σ:St}{H:Hp}{s:au}(I:Inv X (pins++pl) σ H s):Inv X pins σ H s:=I.Ip fun p hp=>I.pin p (bT _ (fg _ hp))
end
noncomputable abbrev R2:=V->V->Hp->VK->Prop
noncomputable def KP(X:Cx)(f:Value->Value->Sem Value)(r:R2):Prop :=
 ∀ (pins:List (Addr×Obj)) (s:au) (σ:St) (H:Hp) (x y:V) (v u:Value) (Q:VK),Inv X pins σ H s->RelV x v->RelV y u->r x y H Q ->
  wpAny (model X.prog X.w) X.A (f v u) (EP X pins σ Q) X.xe s
noncomputable def Rf(X:Cx)(f:Value)(r:List V->Hp->VK->Prop):Prop :=
 ∀ (pins:List (Addr×Obj)) (s:au) (σ:St) (H:Hp) (xs:List V) (us:List Value) (Q:VK),Inv X pins σ H s->Vals xs us->r xs H Q ->
  wpAny (model X.prog X.w) X.A (call f us) (EP X pins σ Q) X.xe s
noncomputable def Y3(X:Cx)(r:V->Hp->(Bool->Hp->Prop)->Prop):Prop :=
 ∀ (pins:List (Addr×Obj)) (s:au) (σ:St) (H:Hp) (x:V) (v:Value) (Q:Bool->Hp->Prop),Inv X pins σ H s->RelV x v->r x H Q ->
  wpAny (model X.prog X.w) X.A (truthy v) (TP X pins σ Q) X.xe s
noncomputable def rI(C:Int->Int->Prop)(g:Int->Int->V):R2:=fun x y H Q=>∃ i j,x=.int i/\y=.int j/\C i j/\Q (g i j) H
noncomputable def Tn(g:Int->Int->V):R2:=fun x y H Q=>∃ i j,x=.int i/\y=.int j/\Q (g i j) H
section
variable {X:Cx} {a b c:Expr} {ta tb tc:TE} {pos:Pos}
theorem Xa{f:Value->Value->Sem Value}{C:Int->Int->Prop}{g:Int->Int->Int}
  (rule:∀ (i j:Int) (t u:Tok) (s:au) (Q:Value->au->Prop) (E:Value->au->Prop),C i j->Q (.int (g i j) s.toks) { s with toks:=s.toks+1 }->wpAny (model X.prog X.w) X.A (f (.int i t) (.int j u)) Q E s) :
  KP X f (rI C fun i j=>.int (g i j)):=by
 intro pins s σ H x y v u Q I rx ry h;obtain⟨i,j,rfl,rfl,hc,q⟩:=h;obtain⟨t,rfl⟩:=rx;obtain⟨t',rfl⟩:=ry;exact rule i j t t' s _ _ hc ⟨.int (g i j),H,I.tok _,⟨_,rfl⟩,q⟩
theorem Uu{f:Value->Value->Sem Value}{g:Int->Int->Int}
  (rule:∀ (i j:Int) (t u:Tok) (s:au) (Q:Value->au->Prop) (E:Value->au->Prop),Q (.int (g i j) s.toks) { s with toks:=s.toks+1 }->wpAny (model X.prog X.w) X.A (f (.int i t) (.int j u)) Q E s) :
  KP X f (Tn fun i j=>.int (g i j)):=by
 intro pins s σ H x y v u Q I rx ry h;obtain⟨i,j,rfl,rfl,q⟩:=h;obtain⟨t,rfl⟩:=rx;obtain⟨t',rfl⟩:=ry;exact rule i j t t' s _ _ ⟨.int (g i j),H,I.tok _,⟨_,rfl⟩,q⟩
theorem Uv{f:Value->Value->Sem Value}{g:Int->Int->Bool}
  (rule:∀ (i j:Int) (t u:Tok) (s:au) (Q:Value->au->Prop) (E:Value->au->Prop),Q (.bool (g i j)) s->wpAny (model X.prog X.w) X.A (f (.int i t) (.int j u)) Q E s) :
  KP X f (Tn fun i j=>.bl (g i j)):=by
 intro pins s σ H x y v u Q I rx ry h;obtain⟨i,j,rfl,rfl,q⟩:=h;obtain⟨t,rfl⟩:=rx;obtain⟨t',rfl⟩:=ry;exact rule i j t t' s _ _ ⟨.bl (g i j),H,I,rfl,q⟩
noncomputable def Zk(i j:Int):Prop:=0 < j/\j < 1073741824
noncomputable def Tf(i j:Int):Prop:=(-(2 ^ 64) < i/\i < 2 ^ 64)\/(-(2 ^ 64) < j/\j < 2 ^ 64)
theorem Tf.ok{i j:Int}(h:Tf i j):IntMulOk i j:=by
 rcases h with ⟨h1,h2⟩ | ⟨h1,h2⟩
 ·exact .of_left (intBits_le_64 h1 h2)
 ·exact .of_right (intBits_le_64 h1 h2)
theorem RR:KP X (jG .Add) (Tn fun i j=>.int (i+j)):=Uu fun _ _ _ _ _ _ _ q=>add_int q
theorem RN:KP X (jG .Sub) (Tn fun i j=>.int (i - j)):=Uu fun _ _ _ _ _ _ _ q=>sub_int q
theorem RO:KP X (jG .Mult) (rI Tf fun i j=>.int (i * j)):=Xa fun _ _ _ _ _ _ _ hc q=>mul_int q hc.ok
theorem Pp:KP X (jG .FloorDiv) (rI Zk fun i j=>.int (i / j)):=Xa fun i j _ _ _ _ _ hc q=>by
 have h1:(0:Int) < j:=hc.1;have h2:j < 1073741824:=hc.2;exact floordiv_int (by lia) (by rw [Int.fdiv_eq_ediv_of_nonneg i (by lia)]; exact q) (.inl (PyProof.noPylong_small (by lia)))
theorem RP:KP X (jG .Mod) (rI (fun _ j=>0 < j) fun i j=>.int (i % j)):=Xa fun i j _ _ _ _ _ hc q=>by
 have h1:(0:Int) < j:=hc;exact mod_int' (by lia) (by rw [Int.fmod_eq_emod_of_nonneg i (by lia)]; exact q)
end
section
variable {X:Cx} {a b c:Expr} {ta tb tc:TE} {pos:Pos}
theorem Us:KP X (eO .Lt) (Tn fun i j=>.bl (decide (i < j))):=Uv fun _ _ _ _ _ _ _ q=>lt_int q
theorem Ut:KP X (eO .Gt) (Tn fun i j=>.bl (decide (j < i))):=Uv fun _ _ _ _ _ _ _ q=>gt_int q
theorem hU(b:Expr){op:CmpOp}(h:autoParam (op≠.In) Ad._auto_1)(h2:autoParam (op≠.NotIn) Ad._auto_1):behindInMarks op b=false:=by
 have e1:(op == CmpOp.In)=false:=by cases op <;> first | rfl | exact absurd rfl h
 have e2:(op == CmpOp.NotIn)=false:=by cases op <;> first | rfl | exact absurd rfl h2
 cases b with
 | Set es k _ =>
  show (k == 0&&(op == .In||op == .NotIn)&&es.all (constantsAlone 8))=false;rw [e1,e2,Bool.or_false,HP,w9]
 | _=>rfl
noncomputable def S7(K:ag)(x:V)(H:Hp)(k:Bool):Prop :=
 match x with
 | .dI=>k=false
 | .bl b=>k=b
 | .int i=>k=(i != 0)
 | .str y=>y.length<=bb/\k=((y.length:Int) != 0)
 | .QY y=>y.size<=bb/\k=((y.size:Int) != 0)
 | .ref p=>(∃ xs,wZ K H p xs/\k=!xs.isEmpty)\/(∃ xs,zx K H p xs/\k=!xs.isEmpty)\/∃ a0,H p=some (.dK a0)/\k=!a0.isEmpty
 | _=>False
theorem Ha{κ:Type}{a0:List (κ×V)}{vs:List (κ×Value)}(r:KV a0 vs):(!vs.isEmpty)=!a0.isEmpty:=by
 cases r <;> rfl
theorem yU{xs:List V}{its:List Value}(r:Vals xs its):(!its.toArray.isEmpty)=!xs.isEmpty:=by
 cases r <;> simp
theorem yM:(bb:Nat) < 2 ^ 63:=by rw [cm]; decide
theorem Rt:Y3 X (fun x H Q=>∃ k,S7 X.K x H k/\Q k H):=by
 intro pins s σ H x v Q I rx h;obtain⟨k,e,q⟩:=h;have hl:=yM;have hs:bb=16777216:=cm;cases x with
 | dI =>
  cases rx;have e':k=false:=e;subst e';exact truthy_none ⟨H,I,q⟩
 | bl b =>
  cases rx;have e':k=b:=e;subst e';exact FJ ⟨H,I,q⟩
 | int i =>
  obtain⟨t,rfl⟩:=rx;have e':k=(i != 0):=e;subst e';exact PySem.P.truthy_int ⟨H,I,q⟩
 | str y =>
  obtain⟨t,rfl⟩:=rx;obtain⟨hy,e'⟩:y.length<=bb/\k=((y.length:Int) != 0):=e;subst e';exact PySem.P.truthy_str (by lia) ⟨H,I.tok _,q⟩
 | QY y =>
  obtain⟨t,rfl⟩:=rx;obtain⟨hy,e'⟩:y.size<=bb/\k=((y.size:Int) != 0):=e;subst e';exact PySem.W.truthy_bytes (by lia) ⟨H,I.tok _,q⟩
 | ref p =>
  cases rx;have e':(∃ xs,wZ X.K H p xs/\k=!xs.isEmpty)\/(∃ xs,zx X.K H p xs/\k=!xs.isEmpty)\/∃ a0,H p=some (.dK a0)/\k=!a0.isEmpty:=e;rcases e' with ⟨xs,hx,e'⟩ | ⟨xs,hx,e'⟩ | ⟨a0,hx,e'⟩
  ·subst e';obtain⟨its,r,pl,hz⟩:=I.list hx;have hlen:=r.length;exact wpAny_truthy_list pl.isList (by simp only [aM]; lia) ⟨H,I.tok _,by rw [yU r]; exact q⟩
  ·subst e';obtain⟨its,r,pl,hz⟩:=I.tuple hx;have hlen:=r.length;exact truthy_tuple pl (by simp only [aM]; lia) ⟨H,I.tok _,by rw [yU r]; exact q⟩
  ·subst e';obtain⟨hz,hS,vs,r,m⟩:a0.length<=bb/\(p == gQ)=false/\∃ vs,KV a0 vs/\s.heap.DictOf (eV X.prog X.w) p vs:=I.cF p _ hx;have hlen:a0.length=vs.length:=xA r;exact FI hS m (by lia) ⟨H,I.tok _,by rw [Ha r]; exact q⟩
 | _=>exact(show False from e).elim
theorem GH:KP X (jG .Add) (fun x y H Q=>∃ i j,x=.str i/\y=.str j/\i.length+j.length<=bb/\Q (.str (i++j)) H):=by
 intro pins s σ H x y v u Q I rx ry h;obtain⟨i,j,rfl,rfl,hz,q⟩:=h;obtain⟨t,rfl⟩:=rx;obtain⟨t',rfl⟩:=ry;exact add_str (fun t' tk=>⟨.str (i++j),H,I.tok _,⟨_,rfl⟩,q⟩) hz
theorem vals1{x:V}{us:List Value}(r:Vals [x] us):∃ u,us=[u]/\RelV x u:=by
 cases r with
 | cons r1 r2=>cases r2; exact⟨_,rfl,r1⟩
theorem vals2{x y:V}{us:List Value}(r:Vals [x,y] us):∃ u w',us=[u,w']/\RelV x u/\RelV y w':=by
 cases r with
 | cons r1 r2 =>
  cases r2 with
  | cons r3 r4=>cases r4; exact⟨_,_,rfl,r1,r3⟩
noncomputable def VL(K:ag)(x:V)(H:Hp)(n:Nat):Prop :=
 match x with
 | .str y=>y.length<=bb/\n=y.length
 | .QY y=>y.size<=bb/\n=y.size
 | .ref p=>(∃ xs,wZ K H p xs/\n=xs.length)\/∃ xs,zx K H p xs/\n=xs.length
 | _=>False
theorem N8:Rf X (.builtin "len") (fun xs H Q=>∃ x n,xs=[x]/\VL X.K x H n/\Q (.int n) H):=by
 intro pins s σ H xs us Q I r h;obtain⟨x,n,rfl,e,q⟩:=h;obtain⟨u,rfl,rx⟩:=vals1 r;have hl:=yM;have hs:bb=16777216:=cm;cases x with
 | str y =>
  obtain⟨t,rfl⟩:=rx;obtain⟨hy,e'⟩:y.length<=bb/\n=y.length:=e;subst e';exact len_str (by lia) ⟨.int _,H,I.tok _,⟨_,rfl⟩,q⟩
 | QY y =>
  obtain⟨t,rfl⟩:=rx;obtain⟨hy,e'⟩:y.size<=bb/\n=y.size:=e;subst e';exact PySem.W.len_bytes (by lia) ⟨.int _,H,I.tok _,⟨_,rfl⟩,q⟩
 | ref p =>
  cases rx;have e':(∃ xs,wZ X.K H p xs/\n=xs.length)\/∃ xs,zx X.K H p xs/\n=xs.length:=e;rcases e' with ⟨xs,hx,e'⟩ | ⟨xs,hx,e'⟩
  ·subst e';obtain⟨its,r',pl,hz⟩:=I.list hx;have hlen:=r'.length;exact Calls.call_len_list pl.isList (by simp only [aM]; lia) ⟨.int xs.length,H,I.tok _,⟨_,by simp only [aM]; rw [hlen]⟩,q⟩
  ·subst e';obtain⟨its,r',pl,hz⟩:=I.tuple hx;have hlen:=r'.length;exact len_tuple pl (by simp only [aM]; lia) ⟨.int xs.length,H,I.tok _,⟨_,by simp only [aM]; rw [hlen]⟩,q⟩
 | _=>exact(show False from e).elim
end
structure HC(h:Heap)(x dx C:Addr)(mA:Str->Option Value):Prop where
 obj:h.get? x=some (gx C dx)
 ns:h.Ns1 dx mA
 ne:dx≠x
theorem Kc{h:Heap}{dx:Addr}{mA:Str->Option Value}(n:h.Ns1 dx mA):∃ od,h.get? dx=some od/\∀ name,vm name od=some (mA name):=by
 obtain⟨o,es,ep,ho,hd,hk,_,hm⟩:=n;refine⟨o,ho,fun name=>?_⟩;have e:=hm name;unfold nsFind findBy at e;rw [<-Array.find?_toList] at e;unfold vm;rw [hd];dsimp only;split
 ·rename_i y q;rw [q] at e;exact congrArg some e
 ·rename_i q;rw [q] at e;have a:es.toList.any (·.refKey)=false:=by
   rw [List.any_eq_false];intro y hy;obtain⟨z,t,Ys⟩:=hk y (Array.mem_toList_iff.mp hy);simp [DictEntry.refKey,Ys]
  have a':¬ es.toList.any (·.refKey)=true:=by rw [a]; exact c7
  rw [if_neg a'];exact congrArg some e
theorem HC.look{h:Heap}{x dx C:Addr}{mA:Str->Option Value}(I:HC h x dx C mA):∃ od,PySem.W.InstAt h x (gx C dx) C (some od)/\∀ name,vm name od=some (mA name) :=
 let ⟨od,ho,hl⟩:=Kc I.ns
 ⟨od,⟨I.obj,rfl,rfl,ho⟩,hl⟩
section
variable {prog:bx} {w:World} {A:cI} {E:Value->au->Prop} {s:au} {K:ag} {x dx C f:Addr} {mA:Str->Option Value} {name:Str} {v:Value}
theorem get_map{expr:Bool}{Q:Value->au->Prop}(X:K.In s.heap)(I:HC s.heap x dx C mA)(hg:qS K C name=true)(hh:yb K C=true)
  (ha:aU K (.ref C) name=some none) (hv:mA name=some v) (hv':PySem.W.handedIn v=true) (h:Q v { s with toks:=s.toks+1 }) :
  wpAny (model prog w) A (getAttr (.ref x) name expr) Q E s:=by
 obtain⟨od,J,hl⟩:=I.look;exact PySem.W.get_value X J (vx hg).1 (PySem.W.findObj_own hh ha rfl (by rw [hl,hv])) hv' h
theorem Nw{pl:Sem Bool}{Q:Value×List Value->au->Prop}(X:K.In s.heap)(I:HC s.heap x dx C mA)(hg:qS K C name=true)
  (hf:aU K (.ref C) name=some (some (.ref f))) (ht:Jq K (.ref f)=true) (hv:mA name=none) (h:Q (.ref f,[.ref x]) s) :
  wpAny (model prog w) A (Lp (.ref x) name pl) Q E s:=by
 obtain⟨od,J,hl⟩:=I.look;exact PySem.W.method_fn X J (vx hg).1 (vx hg).2 hf (beq_iff_eq.mp ht) (by show (vm name od).map (·.isSome)=some false; rw [hl,hv]; rfl) h
theorem O4{ns:List Str}{Q:Unit->au->Prop}(X:K.In s.heap)(I:HC s.heap x dx C mA)
  (hs:aU K (.ref C) "__setattr__" = some (some (.builtin "object.__setattr__"))) (hp:OL K C=true) (ht:Bs K C name=some none) (hh:yb K C=true)
  (hw:Lw mA ns) (hsz:ns.length<=bb)
  (h:∀ h',HC h' x dx C (fun y=>if y=name then some v else mA y)->By dx s.heap h'->Q () { s with heap:=h',toks:=s.toks+2 }) :
  wpAny (model prog w) A (setAttr (.ref x) name v) Q E s:=by
 obtain⟨od,J,hl⟩:=I.look;refine PySem.W.set_plain X J hs (PySem.W.osa_open (s:={ s with toks:=s.toks+1 }) (r:=none) X J hp ht fun b=>?_);obtain⟨cd,hc,Ks⟩:=PySem.W.any_some hh;have hx:s.heap.get? x=some ⟨.ref C,some dx,.plain,#[]⟩:=I.obj;refine aw (aZ (aw (aw (wpAny_loadPart hx (aw (PySem.W.Looks.here (s:={ s with toks:=s.toks+1 }) (PySem.W.looks_clsIn X hc) ?_))))));rw [Ks];refine aZ (a:=some dx) (aw (aZ (aw ?_)));refine wpAny_nsSet1 (s:={ s with toks:=s.toks+1 }) I.ns fun h' hn2 QJ=>?_;obtain⟨oD,esD,epD,hoD,Vh,PW⟩:=hn2.count (PySem.Within.cons name v hw);refine aw (wpAny_lookBehind hoD (by rw [Vh]; exact pastItsLine_dict (bU PW (by rw [af]; lia))) ?_);exact aZ (h _ ⟨(QJ.2 _ (jD I.ne)).trans I.obj,hn2,I.ne⟩ QJ)
theorem MQ{R:Result->au->Prop}{vs:List Value}{kw:List (Str×Value)}(X:K.In s.heap)(hm:iB K C=true)
  (hi:aU K (.ref C) "__init__" = some (some (.ref f))) (hf:PySem.W.typeIn K (.ref f)=some (.type "function"))
  (h:pJ (model prog w) (A.under (.builtin "type.__call__" ⟨.ref C :: vs,kw⟩)) (.call (.ref f) ⟨.ref (s.heap.objs.size+1) :: vs,kw⟩) (PySem.W.InitBack (s.heap.objs.size+1) R)
   { s with heap:=(s.heap.push eh).push (gx C s.heap.objs.size) }) :
  pJ (model prog w) A (.call (.ref C) ⟨vs,kw⟩) R s:=by
 obtain⟨hh,g,d,t,os⟩:=s;exact PySem.W.make_core (PySem.W.makes_of X hm) (PySem.W.looks_findIn X hi) (fun self=>PySem.W.bind_fn X self hf) (.inl rfl) h
end
noncomputable def lZ(f:Str)(v:V):List (Str×V)->List (Str×V)
 | []=>[(f,v)]
 | (g,x) :: r=>if g=f then (g,v) :: r else (g,x) :: lZ f v r
theorem wL(f g:Str)(v:V):∀ fs:List (Str×V),(lZ f v fs).lookup g=if g=f then some v else fs.lookup g
 | []=>by
  show nX g [(f,v)]=_;by_cases h:g=f
  ·have hb:(g == f)=true:=beq_iff_eq.mpr h;simp only [nX,hb,if_pos h]
  ·have hb:(g == f)=false:=beq_eq_false_iff_ne.mpr h;simp only [nX,hb,if_neg h]
 | (k,x) :: r=>by
  have ih:=wL f g v r;rw [show lZ f v ((k,x) :: r)=(if k=f then (k,v) :: r else (k,x) :: lZ f v r) from rfl];by_cases hk:k=f
  ·rw [if_pos hk];by_cases h:g=k
   ·have hb:(g == k)=true:=beq_iff_eq.mpr h;simp only [nX,hb,if_pos (h.trans hk)]
   ·have hb:(g == k)=false:=beq_eq_false_iff_ne.mpr h;simp only [nX,hb,if_neg (fun e:g=f=>h (e.trans hk.symm))]
  ·rw [if_neg hk];by_cases h:g=k
   ·have hb:(g == k)=true:=beq_iff_eq.mpr h;simp only [nX,hb,if_neg (fun e:g=f=>hk (h.symm.trans e))]
   ·have hb:(g == k)=false:=beq_eq_false_iff_ne.mpr h;simp only [nX,hb];exact ih
theorem vR(f:Str)(v:V):∀ fs:List (Str×V),f∈(lZ f v fs).map (·.1)/\∀ g,g∈fs.map (·.1)->g∈(lZ f v fs).map (·.1)
 | []=>⟨by simp [lZ],fun g h=>by simp at h⟩
 | (k,x) :: r=>by
  obtain⟨i1,i2⟩:=vR f v r;rw [show lZ f v ((k,x) :: r)=(if k=f then (k,v) :: r else (k,x) :: lZ f v r) from rfl];by_cases hk:k=f
  ·rw [if_pos hk];subst hk;exact⟨by simp,fun g h=>by simpa using h⟩
  ·rw [if_neg hk];refine⟨?_,fun g h=>?_⟩
   ·rw [aj];exact aK _ i1
   ·rw [aj] at h ⊢;rcases List.mem_cons.mp h with e | e
    ·exact List.mem_cons.mpr (.inl e)
    ·exact aK _ (i2 g e)
theorem wN(f:Str)(v:V):∀ fs:List (Str×V),(lZ f v fs).length<=fs.length+1
 | []=>by simp [lZ]
 | (k,x) :: r=>by
  have ih:=wN f v r;rw [show lZ f v ((k,x) :: r)=(if k=f then (k,v) :: r else (k,x) :: lZ f v r) from rfl];by_cases hk:k=f
  ·rw [if_pos hk,af,af]; lia
  ·rw [if_neg hk,af,af]; lia
theorem pF.some_of{v:V}{o:Option Value}(r:pF (some v) o):∃ u,o=some u/\RelV v u:=by
 cases o with
 | none=>exact(show False from r).elim
 | some u=>exact⟨u,rfl,r⟩
theorem pF.none_of{o:Option Value}(r:pF none o):o=none:=by
 cases o with
 | none=>rfl
 | some u=>exact(show False from r).elim
theorem Ku{v:V}{u:Value}(r:RelV v u):PySem.W.handedIn u=true:=by
 cases v with
 | dI=>cases (show u=HJ from r); rfl
 | bl b=>cases (show u=HK b from r); rfl
 | int i=>obtain⟨t,e⟩:=(show ∃ t,u=Dz i t from r); cases e; rfl
 | str x=>obtain⟨t,e⟩:=(show ∃ t,u=Lv x t from r); cases e; rfl
 | QY b=>obtain⟨t,e⟩:=(show ∃ t,u=Value.bytes b t from r); cases e; rfl
 | Wm b=>obtain⟨t,e⟩:=(show ∃ t,u=Value.float b t from r); cases e; rfl
 | ref a=>cases (show u=eP a from r); rfl
 | ty n=>cases (show u=Value.type n from r); rfl
section
variable {P:bx} {w:World} {H H':Hp} {h h':Heap} {a C dx:Addr} {fs fs':List (Str×V)}
theorem Cp(cF:pj P w H h)(e:H a=some (.ins C dx fs)):∃ mA,HC h a dx C mA/\(∀ f,pF (fs.lookup f) (mA f))/\Lw mA (fs.map (·.1))/\fs.length<=1000/\H dx=some (.own a):=by
 obtain⟨d,z,ne,ob,mA,n,r,q⟩:=(show fe P w H h a (.ins C dx fs) from cF a _ e);exact⟨mA,⟨ob,n,ne⟩,r,q,z,d⟩
end
structure Rc(K:ag)(C:Addr):Prop where
 pg:qS K C Str.empty=true
 hd:yb K C=true
 po:OL K C=true
 sa:aU K (.ref C) "__setattr__" = some (some (.builtin "object.__setattr__"))
theorem Rc.get{K:ag}{C:Addr}(c:Rc K C)(f:Str):qS K C f=true:=c.pg
noncomputable def wm(K:ag)(C:Addr)(f:Str):Prop:=aU K (.ref C) f=some none
theorem wm.T9{K:ag}{C:Addr}{f:Str}(n:wm K C f):Bs K C f=some none:=by
 unfold Bs;rw [show aU K (.ref C) f=some none from n];rfl
structure Meth(K:ag)(C:Addr)(m:Str)(f:Addr):Prop where
 at_:aU K (.ref C) m=some (some (.ref f))
 fn:Jq K (.ref f)=true
 kp:cH K (.ref f)=true
section
variable {X:Cx} {pins:List (Addr×Obj)} {σ:St} {H:Hp} {s:au} {a C dx:Addr} {fs:List (Str×V)} {f:Str} {v:V} {A:cI} {E:Value->au->Prop}
theorem Hh{b:Bool}{Q:Value->au->Prop}(I:Inv X pins σ H s)(e:H a=some (.ins C dx fs))(c:Rc X.K C)(n:wm X.K C f)(l:fs.lookup f=some v)
  (h:∀ u s',Inv X pins σ H s'->RelV v u->Q u s'):wpAny (model X.prog X.w) A (getAttr (.ref a) f b) Q E s:=by
 obtain⟨mA,O,r,_,_,_⟩:=Cp I.cF e;obtain⟨u,hu,ru⟩:=pF.some_of (v:=v) (o:=mA f) (by rw [<-l]; exact r f);exact get_map I.qr O (c.get f) c.hd n hu (Ku ru) (h u _ (I.tok _) ru)
theorem sQ{m:Str}{g:Addr}{pl:Sem Bool}{Q:Value×List Value->au->Prop}(I:Inv X pins σ H s)(e:H a=some (.ins C dx fs))(c:Rc X.K C)(k:Meth X.K C m g)(l:fs.lookup m=none)
  (h:Q (.ref g,[.ref a]) s):wpAny (model X.prog X.w) A (Lp (.ref a) m pl) Q E s:=by
 obtain⟨mA,O,r,_,_,_⟩:=Cp I.cF e;have hn:mA m=none:=pF.none_of (by rw [<-l]; exact r m);exact Nw I.qr O (c.get m) k.at_ k.fn hn h
theorem Gw{y:V}{u:Value}{Q:Unit->au->Prop}(I:Inv X pins σ H s)(e:H a=some (.ins C dx fs))(c:Rc X.K C)(n:wm X.K C f)(hl:fs.length < 1000)(ry:RelV y u)
  (h:∀ s',Inv X pins σ (upd H a (.ins C dx (lZ f y fs))) s'->Q () s'):wpAny (model X.prog X.w) A (setAttr (.ref a) f u) Q E s:=by
 obtain⟨mA,O,r,wi,_,ho⟩:=Cp I.cF e;have hz:(fs.map (·.1)).length<=bb:=by rw [ai,cm]; lia
 refine O4 I.qr O c.sa c.po n.T9 c.hd wi hz fun h' O' sb=>h _ ?_;have hd:∃ o,h'.get? dx=some o:=let ⟨o,_,_,e',_⟩:=O'.ns; ⟨o,e'⟩
 refine I.write (x:=a) (e:=dx) (by rw [e]; exact g7) (.inr ho) (fun b q hb z=>(sb.2 b hb).trans z) hd ?_;refine⟨by rw [bj O.ne]; exact ho,?_,O.ne,O'.obj,_,O'.ns,fun g=>?_,fun g hg=>?_⟩
 ·have:=wN f y fs; lia
 ·show pF ((lZ f y fs).lookup g) (if g=f then some u else mA g);rw [wL];by_cases q:g=f
  ·rw [if_pos q,if_pos q]; exact ry
  ·rw [if_neg q,if_neg q]; exact r g
 ·by_cases q:g=f
  ·rw [q]; exact(vR f y fs).1
  ·refine(vR f y fs).2 g (wi g fun z=>hg ?_);show (if g=f then some u else mA g)=none;rw [if_neg q]; exact z
theorem Inv.made(I:Inv X pins σ H s):Inv X pins σ (upd (upd H s.heap.objs.size (.own (s.heap.objs.size+1))) (s.heap.objs.size+1) (.ins C s.heap.objs.size []))
  { s with heap:=(s.heap.push eh).push (gx C s.heap.objs.size) }:=by
 have e1:(s.heap.push eh).get? s.heap.objs.size=some eh:=bE s.heap rfl;have e2:((s.heap.push eh).push (gx C s.heap.objs.size)).get? (s.heap.objs.size+1)=some (gx C s.heap.objs.size):=by
  have:=bE (s.heap.push eh) (o:=gx C s.heap.objs.size) rfl
  rwa [gw] at this
 have e3:(s.heap.push eh).Ns s.heap.objs.size (fun _=>none):=⟨eh,#[],_,e1,rfl,(fun e he=>absurd he (by simp)),fun _=>rfl⟩;have I1:=I.laid (a:=s.heap.objs.size) (o:=.own (s.heap.objs.size+1)) (h':=s.heap.push eh) (t':=s.toks) (fun b u q=>aA _ q) (aQ _) ⟨_,e1⟩;refine I1.laid (a:=s.heap.objs.size+1) (o:=.ins C s.heap.objs.size []) (t':=s.toks) (fun b u q=>aA _ q) (Nat.le_of_eq (gw _ _)) ?_;have ne:s.heap.objs.size≠s.heap.objs.size+1:=bq (jM _);refine⟨by rw [bj ne,bV],cg _,ne,e2,fun _=>none,(Heap.Ns1.of_empty e3).at fun o q=>aA _ q,fun _=>g7,fun y hy=>absurd rfl hy⟩
theorem Qh{prog:bx}{w:World}{env:Env}{e:Expr}{f:Str}{pos:Pos}{s:au}{Q:Value->au->Prop}(hb:attributeBase e f env (eval e env)=eval e env)
  (h:wpAny (model prog w) A (eval e env) (fun o dh=>wpAny (model prog w) A (getAttr o f true) Q E dh) E s):wpAny (model prog w) A (eval (.Attribute e f pos) env) Q E s :=
 Attribute_any_ h (by rw [arm_eval_Attribute,hb])
end
structure fk(k:Nat)(A:cI):Prop where
 hd:A.handled=none
 dp:A.depth+3 * k+5 < OK
 un:A.units+16 * k+200 < cLine
theorem fk.mono{j k:Nat}{A:cI}(r:fk k A)(h:j<=k):fk j A:=⟨r.hd,by have:=r.dp; lia,by have:=r.un; lia⟩
theorem fk.deeper{k:Nat}{A:cI}(r:fk (k+1) A)(env:Env):fk k (A.deeper env) :=
 ⟨r.hd,by have:=r.dp; show A.depth+1+3 * k+5 < _; lia,by have:=r.un; show A.units+3+16 * k+200 < _; lia⟩
theorem fk.in1{k:Nat}{A:cI}(r:fk (k+1) A):fk k A.in1 :=
 ⟨r.hd,by have:=r.dp; show A.depth+3 * k+5 < _; lia,by have:=r.un; show A.units+1+16 * k+200 < _; lia⟩
theorem GS {A:cI} {C:Addr} {us:List Value} {kw:List (Str×Value)}:(A.under (.builtin "type.__call__" ⟨.ref C :: us,kw⟩)).depth=A.depth+1:=by
 first | rfl | simp [K9,Code.weight,Code.isCreation,Code.isGuard,Code.isCaller,Code.frames,Ou,guardIds]
theorem GR {A:cI} {C:Addr} {us:List Value} {kw:List (Str×Value)}:(A.under (.builtin "type.__call__" ⟨.ref C :: us,kw⟩)).units=A.units+1:=by
 first | rfl | simp [K9,Code.cUnits,Code.frames,Ou]
theorem fk.make {k:Nat} {A:cI} (r:fk (k+1) A) (C:Addr) (us:List Value) (kw:List (Str×Value)):fk k (A.under (.builtin "type.__call__" ⟨.ref C :: us,kw⟩)) :=
 ⟨r.hd,by have:=r.dp; rw [GS]; lia,by have:=r.un; rw [GR]; lia⟩
theorem fk.depth{k:Nat}{A:cI}(r:fk k A):A.depth < OK:=by have:=r.dp; lia
theorem fk.units{k:Nat}{A:cI}(r:fk k A):A.units+64 < cLine:=by have:=r.un; lia
theorem fk.Rn{k:Nat}{A:cI}(r:fk k A):A.units < cLine:=by have:=r.un; lia
noncomputable abbrev Sp:=List V->Hp->VK->XK->Prop
noncomputable abbrev Lh:=List Env->Hp->au->XK->Value->au->Prop
structure Fn(P:bx)(w:World)(K:ag)(mg:Str->Option Value)(base:Heap)(A:cI)(outer:List Env)(s:au)(H:Hp):Prop where
 frames:A.frames=some outer
 mod:Mod K mg base
 bs:∀ b o,base.get? b=some o->s.heap.get? b=some o/\H b=none
 Le:base.objs.size<=s.heap.objs.size
 uU:s.heap.FunFrames base outer
 NA:∀ b∈rH outer,H b=none
 cF:pj P w H s.heap
 bare:yd s.gens
noncomputable def CE(outer:List Env)(P:bx)(w:World)(H:Hp)(s:au)(Q:VK)(u:Value)(s':au):Prop :=
 ∃ v H',s'.os=s.os/\yd s'.gens/\Un (rH outer) [] H H' s.heap s'.heap/\pj P w H' s'.heap/\RelV v u/\Q v H'
noncomputable def CR(CX:Lh)(outer:List Env)(P:bx)(w:World)(H:Hp)(s:au)(Q:VK)(E:XK)(r:Result)(s':au):Prop :=
 match r with
 | .ok (.ret u)=>CE outer P w H s Q u s'
 | .ok _=>False
 | .error e=>CX outer H s E e s'
structure cU(P:bx)(w:World)(K:ag)(mg:Str->Option Value)(base:Heap)(CX:Lh)(k:Nat)(f:Addr)(fd:ak)(ps:List Str)(sp:Sp):Prop where
 len:∀ vs H Q E,sp vs H Q E->vs.length=ps.length
 run:∀ (A:cI) (outer:List Env) (s:au) (H:Hp) (args:Args) (us:List Value) (vs:List V) (Q:VK) (E:XK),fk k A->Fn P w K mg base A outer s H->BindsTo s fd args (ps.zip us)->Vals vs us->sp vs H Q E ->
  pJ (model P w) A (.call (.ref f) args) (CR CX outer P w H s Q E) s
theorem Fn.make{P:bx}{w:World}{K:ag}{mg:Str->Option Value}{base:Heap}{A:cI}{outer:List Env}{s:au}{H:Hp}(e:Fn P w K mg base A outer s H)(C:Addr)(us:List Value)(kw:List (Str×Value)) :
  Fn P w K mg base (A.under (.builtin "type.__call__" ⟨.ref C :: us,kw⟩)) outer s H:=⟨by first | exact e.frames | (simpa [K9,Code.envs,Ou,pushEnvs] using e.frames),e.mod,e.bs,e.Le,e.uU,e.NA,e.cF,e.bare⟩
section
variable {X:Cx} {pins:List (Addr×Obj)} {σ:St} {H:Hp} {s s':au}
theorem Inv.S0(I:Inv X pins σ H s):Fn X.prog X.w X.K X.mg X.base X.A X.stack s H :=
 ⟨I.ok.frames,I.ok.mod,I.bs,bU I.ok.Le I.sz,I.stack,I.BY,I.cF,I.bare⟩
theorem Inv.after{Q:VK}{u:Value}(I:Inv X pins σ H s)(h:CE X.stack X.prog X.w H s Q u s'):EP X pins σ Q u s':=by
 obtain⟨v,H',os,bare,un,cF,r,q⟩:=h;obtain⟨hh,g,d,t,W9⟩:=s';obtain rfl:W9=s.os:=os;exact⟨v,H',I.call (h':=hh) (g':=g) (d':=d) (t':=t) (ch:=[]) un cF bare (fun b z=>absurd z (by simp)),r,q⟩
end
noncomputable def Binds(K:ag)(fd:ak)(ps:List Str)(ds:List Value):Prop :=
 ∀ (s:au) (us:List Value),K.In s.heap->(us++ds).length=ps.length->BindsTo s fd ⟨us,[]⟩ (ps.zip (us++ds))
theorem Binds.all{K:ag}{fd:ak}{ps:List Str}(h:∀ us:List Value,us.length=ps.length->bindArgs fd ⟨us,[]⟩=pure (ps.zip us)):Binds K fd ps []:=fun s us _ hl=>by
 rw [bW] at hl ⊢;exact .of_eq (h us hl)
noncomputable def Passes(CX:Lh)(X:Cx)(E:XK):Prop:=∀ (pins:List (Addr×Obj)) (σ:St) (H:Hp) (s:au) (e:Value) (s':au),Inv X pins σ H s->CX X.stack H s E e s'->X.xe e s'
section
variable {X:Cx} {CX:Lh} {k:Nat} {f C:Addr} {fd:ak} {ps:List Str} {sp:Sp} {S1:List V} {ds:List Value} {E:XK} {x m:Str} {p pos apos:Pos} {e o:Expr} {es:List Expr} {ta:TE} {t:TA}
theorem sF{pins:List (Addr×Obj)}{σ:St}{H:Hp}{s:au}{Q:VK}{us:List Value}{vs:List V}(F:cU X.prog X.w X.K X.mg X.base CX k f fd ps sp)(hr:fk k X.A)(hb:Binds X.K fd ps ds)(hd:Vals S1 ds)(hx:Passes CX X E)
  (I:Inv X pins σ H s) (r:Vals vs us) (h:sp (vs++S1) H Q E):wpAny (model X.prog X.w) X.A (call (.ref f) us) (EP X pins σ Q) X.xe s:=by
 have r2:Vals (vs++S1) (us++ds):=r.append hd;have hl:(us++ds).length=ps.length:=by rw [<-r2.length]; exact F.len _ _ _ _ h
 refine zH (rP (F.run X.A X.stack s H ⟨us,[]⟩ (us++ds) (vs++S1) Q E hr I.S0 (hb s us I.qr hl) r2 h) fun r s' hq=>?_);cases r with
 | error e=>exact hx pins σ H s e s' I hq
 | ok fl =>
  cases fl with
  | ret u=>exact I.after hq
  | next=>exact bw hq
  | brk=>exact bw hq
  | cont=>exact bw hq
structure Mk(K:ag)(C f:Addr):Prop where
 makes:iB K C=true
 init:aU K (.ref C) "__init__" = some (some (.ref f))
 fn:Jq K (.ref f)=true
 kp:cH K (.ref C)=true
theorem Ma{pins:List (Addr×Obj)}{σ:St}{H:Hp}{s:au}{Q:VK}{us:List Value}{vs:List V}(M:Mk X.K C f)(F:cU X.prog X.w X.K X.mg X.base CX k f fd ps sp)(hr:fk (k+1) X.A)(hb:Binds X.K fd ps ds)(hd:Vals S1 ds)
  (hx:Passes CX X E) (I:Inv X pins σ H s) (r:Vals vs us)
  (h:∀ x dx,H x=none->H dx=none->dx≠x->sp (.ref x :: (vs++S1)) (upd (upd H dx (.own x)) x (.ins C dx [])) (fun v H2=>v=.dI/\Q (.ref x) H2) E) :
  wpAny (model X.prog X.w) X.A (call (.ref C) us) (EP X pins σ Q) X.xe s:=by
 have hq:=h (s.heap.objs.size+1) s.heap.objs.size (I.cF.fresh (yc _)) (I.cF.fresh (aQ _)) (bq (jM _));have I2:=Inv.made (C:=C) I;have r2:Vals (V.ref (s.heap.objs.size+1) :: (vs++S1)) (eP (s.heap.objs.size+1) :: (us++ds)):=.cons rfl (r.append hd);have hl:(eP (s.heap.objs.size+1) :: us++ds).length=ps.length:=by
  have e:=r2.length;rw [F.len _ _ _ _ hq] at e;exact e.symm
 refine zH (MQ (f:=f) I.qr M.makes M.init (beq_iff_eq.mp M.fn) (rP (F.run _ X.stack _ _ ⟨eP (s.heap.objs.size+1) :: us,[]⟩ (eP (s.heap.objs.size+1) :: (us++ds)) _ _ E (hr.make C us [])
  (I2.S0.make C us []) (hb _ (eP (s.heap.objs.size+1) :: us) I2.qr hl) r2 hq) fun r s' QL=>?_))
 cases r with
 | error e=>exact hx pins σ _ _ e s' I2 QL
 | ok fl =>
  cases fl with
  | ret u =>
   obtain⟨v,H',I3,rv,ev,q3⟩:=I2.after QL;subst ev;exact⟨rv,⟨V.ref (s.heap.objs.size+1),H',I3,rfl,q3⟩⟩
  | next=>exact bw QL
  | brk=>exact bw QL
  | cont=>exact bw QL
end
structure bF(N P:List Str)(sc:Scope):Prop where
 kind:sc.kind=.function
 co:sc.isCoroutine=false
 gen:sc.isGenerator=false
 nd:N.Nodup
 pre:N.take P.length=P
 par:∀ x∈P,sc.names.lookup x=some .local\/sc.names.lookup x=some .cell
 RY:∀ y∈sc.names,y.2≠.free
theorem Bj{kindOf:Str->Option rQ}{x:Str}:∀ {binds:List (Str×Value)} {m:Str->Option Value},(∀ v,(x,v)∉binds)->bindL kindOf binds m x=m x
 | [],_,_=>rfl
 | (n,v) :: r,m,h=>by
  unfold bindL;rw [Bj fun w hw=>h w (aK _ hw)];split
  ·have:x≠n:=by rintro rfl; exact h v bo
   simp [this]
  ·rfl
theorem Bl{kindOf:Str->Option rQ}{x:Str}:∀ {binds:List (Str×Value)} {m:Str->Option Value},(∀ v,(x,v)∉binds)->bindC kindOf binds m x=m x
 | [],_,_=>rfl
 | (n,v) :: r,m,h=>by
  unfold bindC;rw [Bl fun w hw=>h w (aK _ hw)];split
  ·rfl
  ·have:x≠n:=by rintro rfl; exact h v bo
   simp [this]
theorem Bk{kindOf:Str->Option rQ}{x:Str}{v:Value}:∀ {P:List Str} {vs:List Value} {i:Nat} {m:Str->Option Value},P.Nodup->P[i]?=some x->vs[i]?=some v->kindOf x=some .local ->
  bindL kindOf (P.zip vs) m x=some v
 | [],_,_,_,_,h,_,_=>by simp at h
 | _ :: _,[],_,_,_,_,h,_=>by simp at h
 | p :: P,w :: vs,0,m,nd,h1,h2,hk=>by
  simp at h1 h2; subst h1; subst h2;show bindL kindOf ((p,w) :: P.zip vs) m p=_;unfold bindL;rw [Bj fun v hv=>(List.nodup_cons.mp nd).1 (Fu hv).1,if_pos hk];simp
 | p :: P,w :: vs,i+1,m,nd,h1,h2,hk=>by
  show bindL kindOf ((p,w) :: P.zip vs) m x=_;unfold bindL;exact Bk (i:=i) (List.nodup_cons.mp nd).2 (by simpa using h1) (by simpa using h2) hk
theorem Bm{kindOf:Str->Option rQ}{x:Str}{v:Value}:∀ {P:List Str} {vs:List Value} {i:Nat} {m:Str->Option Value},P.Nodup->P[i]?=some x->vs[i]?=some v->kindOf x≠some .local ->
  bindC kindOf (P.zip vs) m x=some v
 | [],_,_,_,_,h,_,_=>by simp at h
 | _ :: _,[],_,_,_,_,h,_=>by simp at h
 | p :: P,w :: vs,0,m,nd,h1,h2,hk=>by
  simp at h1 h2; subst h1; subst h2;show bindC kindOf ((p,w) :: P.zip vs) m p=_;unfold bindC;rw [Bl fun v hv=>(List.nodup_cons.mp nd).1 (Fu hv).1,if_neg hk];simp
 | p :: P,w :: vs,i+1,m,nd,h1,h2,hk=>by
  show bindC kindOf ((p,w) :: P.zip vs) m x=_;unfold bindC;exact Bm (i:=i) (List.nodup_cons.mp nd).2 (by simpa using h1) (by simpa using h2) hk
noncomputable def start(N:List Str)(vs:List V):St:=vs.map some++br (N.length - vs.length) none
noncomputable def qF(CX:Lh)(P:bx)(w:World)(K:ag)(mg:Str->Option Value)(base:Heap)(N:List Str)(qual:Str)(scope:Scope)(f:Addr)(cd:Value)(A:cI)(outer:List Env)(s:au)(H:Hp)(E:XK):Cx where
 prog:=P
 w:=w
 K:=K
 mg:=mg
 base:=base
 A:=A.deeper (rO qual scope s.heap.objs.size f cd)
 N:=N
 ie:=s
 AG:=H
 env:=rO qual scope s.heap.objs.size f cd
 outer:=outer
 stack:=rO qual scope s.heap.objs.size f cd :: outer
 ex:=[]
 calm:=true
 fn:=fun _=>true
 pn:=[]
 xe:=fun e s'=>wpAny (model P w) (A.deeper (rO qual scope s.heap.objs.size f cd)) (leaving (rO qual scope s.heap.objs.size f cd) e) (fun _ Uk=>CX outer H s E e Uk) (fun e' Uk=>CX outer H s E e' Uk) s'
theorem E6{sc:Scope}{n:Nat}{x:Str}(h:sc.names.lookup x=some .cell):∃ c,(cellsFrom n sc.names []).lookup x=some c:=by
 have q:=HL sc.names n [] (.inl h);exact Option.isSome_iff_exists.mp q
theorem Kl{CX:Lh}{P:bx}{w:World}{K:ag}{mg:Str->Option Value}{base:Heap}{N ps:List Str}{qual:Str}{scope:Scope}{f:Addr}{cd:Value}{A:cI}{outer:List Env}{s s1:au}{H:Hp}{E:XK}{us:List Value}{vs:List V}
  (S:bF N ps scope) (hd:A.handled=none) (e0:Fn P w K mg base A outer s H) (hl:vs.length=ps.length) (r:Vals vs us)
  (x:InCallC s s.heap.objs.size (bindL (rO qual scope s.heap.objs.size f cd).kindOf (ps.zip us) fun _=>none) (cellsFrom (s.heap.objs.size+1) scope.names []) (bindC (rO qual scope s.heap.objs.size f cd).kindOf (ps.zip us) fun _=>none) s1) :
  Inv (qF CX P w K mg base N qual scope f cd A outer s H E) [] (start N vs) H s1:=by
 have oC:ps.length<=N.length:=by have:=congrArg dO S.pre; rw [l6] at this; lia
 obtain⟨h1,tk,rfl,hk⟩:=x.done;have Xz:∀ b:Addr,b∉(qF CX P w K mg base N qual scope f cd A outer s H E).ex:=fun b z=>absurd (show b∈([]:List Addr) from z) (by simp);refine⟨⟨e0.mod,S.kind,rfl,rfl,aQ _,fun y z c h1 h2=>?_,fun y hy=>?_,fun y c _ h=>?_,fun _=>hd,Around.frames_deeper e0.frames,.inr ⟨rfl,rfl⟩,fun b z=>absurd z (Xz b),e0.bs,e0.Le,fun b _ _=>Xz b,fun b z=>absurd z (Xz b),e0.uU,e0.NA⟩,
  rfl,e0.bare,Un.kept hk,⟨_,x.toInCall.ns,fun i y v h1 h2 h3=>?_⟩,fun y c h=>⟨_,x.cell y c h⟩,e0.cF.fresh (aQ _),fun y c h=>?_,fun p hp=>absurd (show p∈([]:List (Addr×Obj)) from hp) (by simp),e0.cF.kept hk,?_⟩
 ·exact name_of_addr x.apart (h8 h1) (h8 h2)
 ·have hy:scope.names.lookup y=some .cell\/scope.names.lookup y=some .free:=hy;rcases hy with hy | hy
  ·exact E6 hy
  ·exact absurd rfl (S.RY _ (h8 hy))
 ·exact ON (x.above y c (h8 h))
 ·have hi:i < vs.length:=by
   unfold start at h2;by_cases hi:i < vs.length
   ·exact hi
   ·rw [bQ (by simpa using hi)] at h2;rw [kr] at h2;split at h2 <;> cases h2
  have ha:vs[i]?=some v:=by
   unfold start at h2;rw [bN (by simpa using hi),du] at h2;cases e:vs[i]? with
   | none=>rw [e] at h2; cases h2
   | some a=>rw [e] at h2; cases h2; rfl
  obtain⟨u,hu,rv⟩:=r.get ha;have hp:ps[i]?=some y:=by
   rw [<-S.pre,List.getElem?_take_of_lt (by lia)]; exact h1
  have ZX:ps.Nodup:=by rw [<-S.pre]; exact S.nd.sublist (List.take_sublist _ _)
  refine⟨u,rv,?_⟩;rcases S.par y (gT hp) with k | k
  ·exact .inl ⟨k,Bk ZX hp hu k⟩
  ·obtain⟨c,e⟩:=E6 (n:=s.heap.objs.size+1) k;refine .inr ⟨.inl k,c,e,?_⟩;have q:=x.cell y c e;rw [Bm ZX hp hu (by show scope.names.lookup y≠_; rw [k]; decide)] at q;exact q
 ·exact e0.cF.fresh (ON (x.above y c (h8 h)))
 ·unfold start;show _=N.length;rw [aO,ai,eS];lia
theorem IQ{CX:Lh}{P:bx}{w:World}{K:ag}{mg:Str->Option Value}{base:Heap}{k:Nat}{f:Addr}{name qual:Str}{params:LF}{body:List Stmt}{scope:Scope}{dV kV doc pm iH ct oc:Value}{an od:Option Addr}
  {FA:Array (Option Value)} {N ps:List Str} {sp:Sp} (lk:K.lookup f=some ⟨oc,od,.func (iC name qual params body scope dV kV doc pm an iH ct),FA⟩) (zL:DA K iH qual=true) (S:bF N ps scope)
  (len:∀ vs H Q E,sp vs H Q E->vs.length=ps.length)
  (Nq:∀ (A:cI) (outer:List Env) (s:au) (H:Hp) (vs:List V) (Q:VK) (E:XK),fk k (A.deeper (rO qual scope s.heap.objs.size f iH))->sp vs H Q E ->
   ∃ t,TL (qF CX P w K mg base N qual scope f iH A outer s H E) body t/\t { nx:=fun _ H'=>Q .dI H',rt:=Q } (start N vs) H) :
  cU P w K mg base CX (k+1) f (iC name qual params body scope dV kV doc pm an iH ct) ps sp:=by
 refine⟨len,fun A outer s H args us vs Q E hr e0 hb r So=>?_⟩;have hl:=len _ _ _ _ So;have KX:K.In s.heap:=e0.mod.Lc.keeps fun b o e=>(e0.bs b o e).1;have lim:s.heap.NoLimit:=e0.mod.nolimit.keeps fun b o e=>(e0.bs b o e).1;have A6:∀ y∈ps.zip us,scope.names.lookup y.1=some .local\/(scope.names.lookup y.1=some .cell/\((cellsFrom (s.heap.objs.size+1) scope.names []).lookup y.1).isSome=true):=fun ⟨n,v⟩ hy=>by
  rcases S.par n (Fu hy).1 with q | q
  ·exact .inl q
  ·exact .inr ⟨q,HL _ _ _ (.inl q)⟩
 refine codeAny_call_function hr.depth (KX _ _ lk) rfl S.co S.gen rfl (PySem.W.codeRec_of KX zL) (hb _ _ _ _ ?_);refine wpAny_newFunctionEnv_cells S.kind A6 fun env he s1 x=>?_;subst he;refine⟨lim.keeps x.toInCall.keep,codeAny_func ?_⟩;obtain⟨t,ht,hq⟩:=Nq A outer s H vs Q E (hr.deeper _) So;have I:Inv (qF CX P w K mg base N qual scope f iH A outer s H E) [] (start N vs) H s1:=Kl S hr.hd e0 hl r x;refine gO (ht [] s1 (start N vs) H _ I hq) (fun fl s' hs=>?_) fun e s' hs=>hs;have fin:∀ {iJ:St} {H':Hp} {v:V} {u:Value},Inv (qF CX P w K mg base N qual scope f iH A outer s H E) [] iJ H' s'->RelV v u->Q v H'->CE outer P w H s Q u s' :=
  fun {iJ H' v u} J rv q=>⟨v,H',J.os,J.bare,J.base,J.cF,rv,q⟩
 cases fl with
 | ret u =>
  obtain⟨v,iJ,H',J,rv,q⟩:=hs;exact fin J rv q
 | next =>
  obtain⟨iJ,H',J,q⟩:=hs;exact fin (v:=V.dI) (u:=HJ) J rfl q
 | brk =>
  obtain⟨_,_,_,q⟩:=hs;exact bw q
 | cont =>
  obtain⟨_,_,_,q⟩:=hs;exact bw q
end L2
namespace HT
open PySem PyProof.Rows
noncomputable def lexLt:List Int->List Int->Bool
 | [],[]=>false
 | [],_ :: _=>true
 | _ :: _,[]=>false
 | x :: xs,y :: ys=>if x=y then lexLt xs ys else decide (x < y)
theorem GY(x y:Int)(xs ys:List Int):lexLt (x :: xs) (y :: ys)=if x=y then lexLt xs ys else decide (x < y):=rfl
theorem zY:lexLt [] []=false:=rfl
theorem yP(y:Int)(ys:List Int):lexLt [] (y :: ys)=true:=rfl
theorem yQ(x:Int)(xs:List Int):lexLt (x :: xs) []=false:=rfl
theorem NJ(A:cI)(s:au)(a:Int)(t:Tok)(c:Int)(u:Tok):∃ e,SeqAt.EqAt A s (.int a t) (.int c u) e/\(e=true↔a=c) :=
 ⟨(a == c),SeqAt.EqAt.int_int a t c u,by simp⟩
theorem yq(A:cI)(s:au)(a:Int)(t:Tok)(c:Int)(u:Tok)(prog:bx)(w:World)(E:Value->au->Prop)(Q:Value->au->Prop)(h:Q (.bool (decide (a < c))) s) :
  wpAny (model prog w) A (mC .Lt (.int a t) (.int c u)) Q E s :=
 (PyProof.Rows.lt_int h:wpAny (model prog w) A (eO .Lt (.int a t) (.int c u)) Q E s)
section
open PySem.SeqAt
open PySem.AutoSeq1 (wpAny_loadPart')
open PySem.MeetsSeq PySem.MeetsSeq2 PySem.MeetsSeq3
theorem zQ(l b:Addr)(items mM:Array Value)(n n2:Nat)(dd OF:Option Addr)(sl JM:Array (Option Value))(ns ms:List Int)(hi:jR items.toList ns)(hj:jR mM.toList ms) :
  Meets (Builtin.«tuple.__lt__» ⟨[.ref l,.ref b],[]⟩)
   (fun _ R s=>s.heap.get? l=some { cls:=.type "tuple",dict:=dd,data:=.seq items n,slots:=sl }/\s.heap.get? b=some { cls:=.type "tuple",dict:=OF,data:=.seq mM n2,slots:=JM } /\
    R (.ok (.ret (.bool (lexLt ns ms)))) s) :=
 .of_wp fun prog w A R s h=>by
  obtain⟨hp,g,d,tk,os⟩:=s; obtain⟨hl,hb,h⟩:=h;have f2:=oQ;have z1:items.size=ns.length:=by rw [<-hi.length]; simp
  have z2:mM.size=ms.length:=by rw [<-hj.length]; simp
  wp_walk using bM hl,bM hb,wpAny_forIn_list _ (fun rest b s'=>b.1=none/\s'=⟨hp,g,d,tk,os⟩/\∃ (vs ws:List Value) (Py Tq:List Int),rest=vs.zip ws /\
   jR vs Py/\jR ws Tq/\Py.length+mM.size=Tq.length+items.size/\R (.ok (.ret (.bool (lexLt Py Tq)))) ⟨hp,g,d,tk,os⟩) _
  case turn =>
   rintro⟨y,x⟩ rest b s' ⟨Hg,rfl,vs,ws,Py,Tq,hz,X5,V3,hlen,hR⟩;cases X5 with
   | nil=>rw [List.zip_nil_left] at hz; cases hz
   | cons a t X4 =>
    cases V3 with
    | nil=>rw [List.zip_nil_right] at hz; cases hz
    | cons c u X3 =>
     rw [List.zip_cons_cons] at hz;injection hz with XY Nd
     injection XY with hy hx
     subst hy hx;rw [GY] at hR;simp only [af] at hlen;obtain⟨e,he,Vb⟩:=NJ A.in1 ⟨hp,g,d,tk,os⟩ a t c u;refine aw (he prog w _ _ ?_);cases e with
     | true =>
      rw [if_pos (Vb.mp rfl)] at hR
      wp_walk
      exact⟨rfl,rfl,_,_,_,_,Nd,X4,X3,by lia,hR⟩
     | false =>
      rw [if_neg (fun q=>absurd (Vb.mpr q) c7)] at hR;have UY:=yq A.in1 ⟨hp,g,d,tk,os⟩ a t c u prog w
      wp_walk using UY
      exact⟨_,rfl,by simpa using hR⟩
  case fin =>
   rintro⟨b1,b2⟩ s' ⟨Hg,rfl,vs,ws,Py,Tq,hz,X5,V3,hlen,hR⟩;simp only at Hg;subst Hg;have hv:lexLt Py Tq=decide (items.size < mM.size):=by
    cases X5 with
    | nil =>
     cases V3 with
     | nil =>
      simp only [aq] at hlen;rw [zY];exact(decide_eq_false (by lia)).symm
     | cons c u hw =>
      simp only [aq,af] at hlen;rw [yP];exact(decide_eq_true (by lia)).symm
    | cons a t hv =>
     cases V3 with
     | nil =>
      simp only [aq,af] at hlen;rw [yQ];exact(decide_eq_false (by lia)).symm
     | cons c u hw =>
      rw [List.zip_cons_cons] at hz;cases hz
   rw [hv] at hR
   wp_walk
   exact⟨_,rfl,by simpa [tP] using hR⟩
  case h =>
   exact⟨rfl,rfl,items.toList,mM.toList,ns,ms,rfl,hi,hj,by lia,h⟩
end
section
variable {prog:bx} {w:World} {A:cI} {E:Value->au->Prop} {s:au}
theorem yH{l b:Addr}{items mM:Array Value}{ns ms:List Int}{Q:Value->au->Prop}(hl:IsTup s.heap l items)(hb:IsTup s.heap b mM)(hi:jR items.toList ns)(hj:jR mM.toList ms)
  (hu:A.units < cLine) (h:Q (.bool (lexLt ns ms)) s):wpAny (model prog w) A (eO .Lt (.ref l) (.ref b)) Q E s:=by
 obtain⟨⟨cls,dd,data,sl⟩,ho,hc,n,hd⟩:=id hl;obtain⟨⟨S3,OF,data2,JM⟩,FD,Er,n2,hd2⟩:=id hb;simp only at hc hd Er hd2;subst hc hd Er hd2;exact w6 (op:=.Lt) ⟨_,ho,rfl⟩ ⟨_,FD,rfl⟩ Jr HN (FT _ _) (zQ l b items mM n n2 dd OF sl JM ns ms hi hj)
  ⟨ho,FD,show HK (lexLt ns ms)≠Value.notImplemented/\Q (.bool (lexLt ns ms)) s from⟨(fun x=>nomatch x),h⟩⟩ hu
theorem Qf{t b:Addr}{vs ws:List Value}{Q:Value->au->Prop}(ht:IsTup s.heap t vs.toArray)(hb:IsTup s.heap b ws.toArray)(hv:vs≠[])
  (h1:ws=[]->Q (.ref t) s) (h2:ws≠[]->Q (.ref s.heap.objs.size) { s with heap:=s.heap.push { cls:=.type "tuple",data:=.seq (vs++ws).toArray } })
  (hsz:vs.length+ws.length<=bb):wpAny (model prog w) A (jG .Add (.ref t) (.ref b)) Q E s:=by
 obtain⟨⟨cls,dd,data,sl⟩,ho,hc,n,hd⟩:=id ht;obtain⟨⟨S3,OF,data2,JM⟩,FD,Er,n2,hd2⟩:=id hb;simp only at hc hd Er hd2;subst hc hd Er hd2;have e:vs.toArray++ws.toArray=(vs++ws).toArray:=by simp
 by_cases hw:ws=[]
 ·exact concat_meets ⟨_,ho,rfl⟩ ⟨_,FD,rfl⟩ noFill_tuple_add seq_tuple_add HM FR (Fs _ _)
   (tuple_addW1 t b vs.toArray ws.toArray n n2 dd OF sl JM (by simpa using hv) (by simp [hw])) ⟨ho,FD,h1 hw⟩
 ·refine concat_meets ⟨_,ho,rfl⟩ ⟨_,FD,rfl⟩ noFill_tuple_add seq_tuple_add HM FR (Fs _ _)
   (tuple_addW2 t b vs.toArray ws.toArray n n2 dd OF sl JM (by simpa using hv) (by simpa using hw) (by rw [aM,aM]; exact hsz)) ⟨ho,FD,?_⟩
  rw [e];exact h2 hw
noncomputable def iT(n d:Nat):Option Int->Nat
 | none=>d
 | some v=>if v < 0 then (v+(n:Int)).toNat else min v.toNat n
theorem RB(n d:Nat)(hd:d<=n)(o:Option Int):iT n d o<=n:=by
 cases o with
 | none=>exact hd
 | some v =>
  show (if v < 0 then (v+(n:Int)).toNat else min v.toNat n)<=n;by_cases hv:v < 0
  ·rw [if_pos hv]; lia
  ·rw [if_neg hv]; exact Nat.min_le_right _ _
theorem Jg(v:Int)(n d:Nat):(if v < 0 then max (v+(n:Int)) 0 else min v (n:Int))=((iT n d (some v):Nat):Int):=by
 show (if v < 0 then max (v+(n:Int)) 0 else min v (n:Int))=(((if v < 0 then (v+(n:Int)).toNat else min v.toNat n):Nat):Int);by_cases hv:v < 0
 ·simp only [if_pos hv]; lia
 ·simp only [if_neg hv]; lia
theorem Hz(lo hi:Option Int)(n:Nat):lY lo hi 1 (n:Int)=(((iT n 0 lo:Nat):Int),((iT n n hi:Nat):Int)):=by
 have h1:¬ ((1:Int) < 0):=by lia
 unfold lY;simp only [h1,if_false];refine Prod.ext ?_ ?_
 ·cases lo with
  | none=>rfl
  | some v=>exact Jg v n 0
 ·cases hi with
  | none=>rfl
  | some v=>exact Jg v n n
theorem GC(i j:Nat):iE (i:Int) (j:Int) 1=j - i:=by
 unfold iE;have h1:(1:Int) > 0:=by lia
 simp only [h1,if_true,Int.ediv_one];split <;> lia
theorem yg{v:Value}{o:Option Int}{Q:Option Int->au->Prop}(p:IsPart v o)(h:Q o s):wpAny (model prog w) A (Builtin.Slice.slicePartIndex v) Q E s:=by
 cases p with
 | none=>exact slicePart_none h
 | int i t=>exact slicePart_int h
theorem vB{sl:Addr}{vl vu:Value}{lo hi:Option Int}{n:Nat}{Q:Int×Int×Nat->au->Prop}(hs:s.heap.IsSliceOf sl vl vu .none)(pl:IsPart vl lo)(pu:IsPart vu hi)
  (h:Q (((iT n 0 lo:Nat):Int),1,iT n n hi - iT n 0 lo) s):wpAny (model prog w) A (xE (.ref sl) (pure (n:Int))) Q E s:=by
 obtain⟨os,U1,hcs,Wc⟩:=id hs;unfold xE Builtin.Slice.sliceFields;refine aw (aw (wpAny_field U1 Wc (x:=vl) rfl (aw (wpAny_field U1 Wc (x:=vu) rfl (aw (wpAny_field U1 Wc (x:=.none) rfl (aZ ?_)))))));refine aw (slicePart_none ?_);show wpAny _ _ (if ((1:Int) == 0)=true then _ else _) _ _ s;rw [if_neg (by decide)];refine aw (yg pl (aw (yg pu (aw (aZ ?_)))));show wpAny _ _ (match lY lo hi 1 (n:Int) with | (lo,hi)=>pure (lo,(1:Int),iE lo hi 1)) _ _ s;rw [Hz lo hi n];show wpAny _ _ (pure (((iT n 0 lo:Nat):Int),(1:Int),iE ((iT n 0 lo:Nat):Int) ((iT n n hi:Nat):Int) 1)) _ _ s;rw [GC];exact aZ h
theorem Mu(xs:Array Value)(i k:Nat):((ft k).filterMap fun (m:Nat)=>xs[((i:Int)+(m:Int) * 1).toNat]?).toArray=((xs.toList.drop i).take k).toArray:=by
 have e:(fun (m:Nat)=>xs[((i:Int)+(m:Int) * 1).toNat]?)=fun m=>xs[i+m]?:=by
  funext m;have:((i:Int)+(m:Int) * 1).toNat=i+m:=by lia
  rw [this]
 rw [e];have:=pick_run xs i k;rw [List.filterMap_map] at this;have e2:((fun x=>xs[x]?)∘fun x=>i+x)=fun m=>xs[i+m]?:=rfl;rw [e2] at this;rw [this]
theorem uT{t sl:Addr}{items:Array Value}{vl vu:Value}{lo hi:Option Int}{Q:Value->au->Prop}(ht:IsTup s.heap t items)(hs:s.heap.IsSliceOf sl vl vu .none)(pl:IsPart vl lo)(pu:IsPart vu hi)
  (hw:¬ (iT items.size 0 lo=0/\iT items.size items.size hi=items.size))
  (h:Q (.ref s.heap.objs.size) { s with heap:=s.heap.push { cls:=.type "tuple",data:=.seq ((items.toList.drop (iT items.size 0 lo)).take (iT items.size items.size hi - iT items.size 0 lo)).toArray } })
  (hsz:items.size<=bb):wpAny (model prog w) A (getItem (.ref t) (.ref sl)) Q E s:=by
 have IL:sizeOk (.seq ((items.toList.drop (iT items.size 0 lo)).take (iT items.size items.size hi - iT items.size 0 lo)).toArray):=by
  show ((items.toList.drop (iT items.size 0 lo)).take (iT items.size items.size hi - iT items.size 0 lo)).toArray.size<=bb;rw [aM];exact bU (bU (List.length_take_le' _ _) (by rw [cW,ng]; exact Nat.sub_le _ _)) hsz
 have hj:iT items.size items.size hi<=items.size:=RB _ _ (aQ _) hi;obtain⟨os,U1,hcs,Wc⟩:=id hs;have hTs:s.TypeIs (.ref sl) "slice":=⟨os,U1,hcs⟩;unfold getItem
 try with_reducible refine dv ?_
 first | refine aw (aZ ?_) | skip
 refine aw (wpAny_sequenceKey ht.typeIs (by decide) ?_);refine aw (wpAny_callSpecial?_slot (name:=vw "__getitem__") ht.typeIs vo
  (wpAny_call_entry vo ht.typeIs entry_tuple_getitem ?_ (args_tuple_getitem _ _)))
 show wpAny _ _ (Builtin.Tuple.tupleItemsOf (.ref t) >>= _) _ _ s;refine aw (tupleItemsOf_ ht ?_);refine aw (wpAny_typeOf hTs ?_);rw [if_pos (by decide)];refine aw (vB hs pl pu ?_);have U3:¬ ((((iT items.size 0 lo:Nat):Int) == 0&&(1:Int) == 1&&(iT items.size items.size hi - iT items.size 0 lo) == items.size)=true):=by
  intro q;rw [aS,aS] at q;have q1:((iT items.size 0 lo:Nat):Int)=0:=eq_of_beq q.1.1;have q2:iT items.size items.size hi - iT items.size 0 lo=items.size:=eq_of_beq q.2;exact hw ⟨by lia,by lia⟩
 show wpAny _ _ (if (((iT items.size 0 lo:Nat):Int) == 0&&(1:Int) == 1&&(iT items.size items.size hi - iT items.size 0 lo) == items.size)=true then _ else _) _ _ s;rw [if_neg U3,Mu]
 first
  | exact aw (m:=iR _) (jE (aZ ⟨_,rfl,aZ h⟩) IL)
  | exact aw (m:=iR _) (jE (aw (aZ (aZ ⟨_,rfl,aZ h⟩))) IL)
  | exact aw (aw (m:=iR _) (jE (aZ (aZ ⟨_,rfl,aZ h⟩)) IL))
  | exact aw (aw (m:=iR _) (jE (aZ ⟨_,rfl,aZ h⟩) IL))
end
end HT
namespace L2
open PySem PySem.Spec PyProof.Rows
noncomputable abbrev TO:=St->Hp->(Option Int->Hp->Prop)->Prop
theorem intsAre_of{ns:List Int}:∀ {us:List Value},Vals (ns.map V.int) us->jR us ns:=by
 induction ns with
 | nil=>intro us r; rw [aN] at r; cases r; exact .nil
 | cons n ns ih =>
  intro us r;rw [aj] at r;cases r with
  | cons r1 r2 =>
   obtain⟨t,e⟩:=r1;subst e;exact .cons n t (ih r2)
section
variable {X:Cx} {e:Expr} {te:TE} {lo hi:Option Expr} {tl th:TO} {pos p2:Pos}
noncomputable def Y5(X:Cx)(r:V->Option Int->Option Int->Hp->VK->Prop):Prop :=
 ∀ (pins:List (Addr×Obj)) (s:au) (σ:St) (H:Hp) (x:V) (v vl vu:Value) (lo hi:Option Int) (sl:Addr) (Q:VK),Inv X pins σ H s->RelV x v->s.heap.IsSliceOf sl vl vu .none->IsPart vl lo->IsPart vu hi->r x lo hi H Q ->
  ∃ T id,typeLookup (.type T) "__getitem__" = pure (some (.builtin id))/\s.TypeIs v T/\wpAny (model X.prog X.w) X.A (getItem v (.ref sl)) (EP X pins σ Q) X.xe s
noncomputable def E3(xs:List V)(lo hi:Option Int):List V:=(xs.drop (HT.iT xs.length 0 lo)).take (HT.iT xs.length xs.length hi - HT.iT xs.length 0 lo)
theorem wW(xs:List V)(lo hi:Option Int):(E3 xs lo hi).length<=xs.length:=by
 unfold E3;rw [l6,cW];lia
noncomputable def W0(K:ag):V->Option Int->Option Int->Hp->VK->Prop:=fun x lo hi H Q=>∃ a xs,x=.ref a/\zx K H a xs /\
 ¬ (HT.iT xs.length 0 lo=0/\HT.iT xs.length xs.length hi=xs.length)/\∀ p,H p=none->Q (.ref p) (upd H p (.tup (E3 xs lo hi)))
theorem RA:Y5 X (W0 X.K):=by
 intro pins s σ H x v vl vu lo hi sl Q I rx hs pl pu h;obtain⟨a,xs,rfl,hx,hw,q⟩:=h;cases rx;obtain⟨its,r,ht,hz⟩:=I.tuple hx;have hlen:its.toArray.size=xs.length:=by rw [aM]; exact r.length.symm
 refine⟨"tuple",_,PyProof.Rows.slot_tuple_getitem.lookup,ht.typeIs,?_⟩;refine HT.uT ht hs pl pu (by rw [hlen]; exact hw) ?_ (by rw [hlen]; exact hz);rw [hlen];refine⟨.ref s.heap.objs.size,_,I.laid (t':=s.toks) (o:=.tup (E3 xs lo hi)) (fun b ob q=>aA _ q) (aQ _) ?_,rfl,q _ (I.cF.fresh (aQ _))⟩;exact⟨bU (wW xs lo hi) hz,_,(r.drop (HT.iT xs.length 0 lo)).take (HT.iT xs.length xs.length hi - HT.iT xs.length 0 lo),IsTup.new _ _⟩
noncomputable def W4(K:ag):R2:=fun x y H Q=>∃ a b ns ms,x=.ref a/\y=.ref b/\zx K H a (ns.map V.int)/\zx K H b (ms.map V.int)/\Q (.bl (HT.lexLt ns ms)) H
theorem RQ(hu:X.A.units < cLine):KP X (eO .Lt) (W4 X.K):=by
 intro pins s σ H x y v u Q I rx ry h;obtain⟨a,b,ns,ms,rfl,rfl,ha,hb,q⟩:=h;cases rx;cases ry;obtain⟨its,r1,p1,_⟩:=I.tuple ha;obtain⟨vT,r2,p2,_⟩:=I.tuple hb;have i1:jR its.toArray.toList ns:=intsAre_of r1;have i2:jR vT.toArray.toList ms:=intsAre_of r2;exact HT.yH p1 p2 i1 i2 hu ⟨.bl (HT.lexLt ns ms),H,I,rfl,q⟩
noncomputable def Uo(K:ag):R2:=fun x y H Q=>∃ a b xs ys,x=.ref a/\y=.ref b/\zx K H a xs/\zx K H b ys/\xs≠[]/\xs.length+ys.length<=bb /\
 (ys=[]->Q (.ref a) H)/\(ys≠[]->∀ p,H p=none->Q (.ref p) (upd H p (.tup (xs++ys))))
theorem Vals.Ck{xs:List V}{us:List Value}(r:Vals xs us):us=[]↔xs=[]:=by
 cases r with
 | nil=>simp
 | cons _ _=>simp
theorem Pq:KP X (jG .Add) (Uo X.K):=by
 intro pins s σ H x y v u Q I rx ry h;obtain⟨a,b,xs,ys,rfl,rfl,ha,hb,hx,hz,q1,q2⟩:=h;cases rx;cases ry;obtain⟨its,r1,p1,_⟩:=I.tuple ha;obtain⟨vT,r2,p2,_⟩:=I.tuple hb;refine HT.Qf p1 p2 (fun z=>hx (r1.Ck.mp z)) (fun z=>⟨.ref a,H,I,rfl,q1 (r2.Ck.mp z)⟩) (fun z=>?_) (by rw [<-r1.length,<-r2.length]; exact hz);refine⟨.ref s.heap.objs.size,_,I.laid (t':=s.toks) (o:=.tup (xs++ys)) (fun b ob q=>aA _ q) (aQ _) ?_,rfl,q2 (fun w=>z (r2.Ck.mpr w)) _ (I.cF.fresh (aQ _))⟩;exact⟨by rw [aO]; exact hz,_,r1.append r2,IsTup.new _ _⟩
end
noncomputable def IH(n:Nat)(i:Int):Option Nat:=if 0<=i then (if i < n then some i.toNat else none) else if -(n:Int)<=i then some (i+n).toNat else none
noncomputable def we{α:Type}(xs:List α)(i:Int):Option α:=(IH xs.length i).bind fun j=>xs[j]?
theorem IG{n:Nat}{i:Int}{j:Nat}(h:IH n i=some j):seqIndex? i n=some j/\j < n/\-(n:Int)<=i/\i < n:=by
 unfold IH at h;by_cases h0:0<=i
 ·rw [if_pos h0] at h;by_cases h1:i < n
  ·rw [if_pos h1] at h;have e:i.toNat=j:=ba h;exact⟨by rw [Lm h0 h1,e],by lia,by lia,h1⟩
  ·rw [if_neg h1] at h; cases h
 ·rw [if_neg h0] at h;by_cases h1:-(n:Int)<=i
  ·rw [if_pos h1] at h;have e:(i+n).toNat=j:=ba h;exact⟨by rw [seqIndex_neg (by lia) h1,e],by lia,h1,by lia⟩
  ·rw [if_neg h1] at h; cases h
theorem Jk{α:Type}{xs:List α}{i:Int}{v:α}(h:we xs i=some v):∃ j,seqIndex? i xs.length=some j/\xs[j]?=some v/\j < xs.length/\-(xs.length:Int)<=i/\i < xs.length:=by
 unfold we at h;cases e:IH xs.length i with
 | none=>rw [e] at h; cases h
 | some j =>
  rw [e] at h;obtain⟨h1,h2,h3,h4⟩:=IG e;exact⟨j,h1,h,h2,h3,h4⟩
noncomputable def Qi(b:Expr):Prop:=∀ o i,subscripted b false o i=operate [o,i] (getItem o i)
noncomputable def Y9(X:Cx)(r:R2):Prop :=
 ∀ (value slice:Expr) (pins:List (Addr×Obj)) (s:au) (σ:St) (H:Hp) (x y:V) (v u:Value) (Q:VK),Inv X pins σ H s->RelV x v->RelV y u->r x y H Q ->
  subscripted slice false v u=operate [v,u] (getItem v u)->wpAny (model X.prog X.w) X.A (subscriptTail value slice v u) (EP X pins σ Q) X.xe s
noncomputable def MtR(X:Cx)(id:String)(r:V->List V->Hp->VK->Prop):Prop :=
 ∀ (pins:List (Addr×Obj)) (s:au) (σ:St) (H:Hp) (x:V) (xs:List V) (v:Value) (us:List Value) (Q:VK),Inv X pins σ H s->RelV x v->Vals xs us->r x xs H Q ->
  wpAny (model X.prog X.w) X.A (call (.builtin id) (v :: us)) (EP X pins σ Q) X.xe s
section
variable {X:Cx} {a b:Expr} {ta tb:TE} {pos:Pos}
noncomputable def W7(K:ag):R2:=fun x y H Q=>∃ p xs i v,x=.ref p/\y=.int i/\wZ K H p xs/\we xs i=some v/\Q v H
noncomputable def W6(K:ag):R2:=fun x y H Q=>∃ p xs i v,x=.ref p/\y=.int i/\zx K H p xs/\we xs i=some v/\Q v H
theorem IF:Y9 X (W7 X.K):=by
 intro value slice pins s σ H x y v u Q I rx ry h hs;obtain⟨p,xs,i,z,rfl,rfl,hq,he,q⟩:=h;cases rx;obtain⟨t,rfl⟩:=ry;obtain⟨its,r,pl,hz⟩:=I.list hq;obtain⟨j,h1,h2,h3,h4,h5⟩:=Jk he;obtain⟨w,ew,rE⟩:=r.get h2;have hl:=r.length;have hn:=yM;have fin:EP X pins σ Q w s:=⟨z,H,I,rE,q⟩;by_cases h0:0<=i
 ·have hj:i.toNat=j:=by
   rw [Lm h0 h5] at h1;exact ba h1
  exact item_listR pl.isList h0 (by lia) (by rw [hj]; simpa using ew) fin hs
 ·have hj:(i+(its.toArray.size:Int)).toNat=j:=by
   rw [seqIndex_neg (by lia) h4] at h1;rw [aM,<-hl];exact ba h1
  exact w5 (x:=w) pl.isList.typeIs slot_list_getitem.lookup
   (wpAny_getItem_list_neg (Q:=fun r s'=>r=w/\EP X pins σ Q r s') pl.isList (by lia) (by rw [aM] <;> lia) (by lia) (by rw [hj]; simpa using ew) ⟨rfl,fin⟩) hs
theorem Si:Y9 X (W6 X.K):=by
 intro value slice pins s σ H x y v u Q I rx ry h hs;obtain⟨p,xs,i,z,rfl,rfl,hq,he,q⟩:=h;cases rx;obtain⟨t,rfl⟩:=ry;obtain⟨its,r,pl,hz⟩:=I.tuple hq;obtain⟨j,h1,h2,h3,h4,h5⟩:=Jk he;obtain⟨w,ew,rE⟩:=r.get h2;have hl:=r.length;have hn:=yM;have fin:EP X pins σ Q w s:=⟨z,H,I,rE,q⟩;exact w5 (x:=w) pl.typeIs slot_tuple_getitem.lookup
  (getItem_tuple (j:=j) (Q:=fun r s'=>r=w/\EP X pins σ Q r s') pl (by lia) (by lia) (by rw [aM,<-hl]; exact h1) (by simpa using ew) ⟨rfl,fin⟩) hs
theorem GQ (its:List Value) (n j:Nat) (u:Value):fC (·.setIfInBounds j u) { cls:=.type "list",data:=.seq its.toArray n } = { cls:=.type "list",data:=.seq (its.set j u).toArray n }:=by
 simp [fC]
theorem Inv.lst{pins:List (Addr×Obj)}{σ:St}{H:Hp}{s:au}{p:Addr}{xs:List V}(I:Inv X pins σ H s)(h:H p=some (.lst xs)) :
  ∃ (its:List Value) (n:Nat),Vals xs its/\s.heap.get? p=some { cls:=.type "list",data:=.seq its.toArray n }/\xs.length<=bb:=by
 obtain⟨z,its,n,r,e⟩:=I.cF p _ h;exact⟨its,n,r,e,z⟩
theorem Inv.Sa{pins:List (Addr×Obj)}{σ:St}{H:Hp}{s:au}{p:Addr}{xs ys:List V}{its its':List Value}{n n':Nat}{f:Obj->Obj}(I:Inv X pins σ H s)(h:H p=some (.lst xs))
  (ho:s.heap.get? p=some { cls:=.type "list",data:=.seq its.toArray n }) (hf:f { cls:=.type "list",data:=.seq its.toArray n } = { cls:=.type "list",data:=.seq its'.toArray n' }) (r:Vals ys its') (hz:ys.length<=bb) (t:Nat) :
  Inv X pins σ (upd H p (.lst ys)) { s with heap:=s.heap.update p f,toks:=t }:=by
 have e:(s.heap.update p f).get? p=some { cls:=.type "list",data:=.seq its'.toArray n' }:=by
  rw [lW f ho (by rw [hf] <;> rfl),hf]
 refine I.write (x:=p) (e:=p) (by rw [h]; trivial) (.inl rfl) (fun b u hb q=>(cp _ _ (jD hb)).trans q) ⟨_,e⟩ ?_;exact⟨hz,its',n',r,e⟩
noncomputable def Um:V->V->V->Hp->(Hp->Prop)->Prop:=fun o i v H Q=>∃ p xs k j,o=.ref p/\i=.int k/\H p=some (.lst xs)/\IH xs.length k=some j/\Q (upd H p (.lst (xs.set j v)))
theorem set_list:Y7 X Um:=by
 intro pins s σ H o i v ov iv u Q I ro ri rv h;obtain⟨p,xs,k,j,rfl,rfl,hp,hj,q⟩:=h;cases ro;obtain⟨t,rfl⟩:=ri;obtain⟨its,n,r,ho,hz⟩:=I.lst hp;obtain⟨h1,h2,h3,h4⟩:=IG hj;have hl:=r.length;have hn:=yM;have I':Inv X pins σ (upd H p (.lst (xs.set j v))) { s with heap:=s.heap.update p (fC (·.setIfInBounds j u)) } :=
  I.Sa hp ho (GQ its n j u) (r.set rv j) (by rw [eR]; exact hz) s.toks
 by_cases h0:0<=k
 ·have hk:k.toNat=j:=by
   rw [Lm h0 h4] at h1;exact ba h1
  exact PySem.W.ki_setAt ho h0 (by lia) (by rw [aM,<-hl]; exact h4) (by rw [hk]; exact⟨_,I',q⟩)
 ·have hk:(k+(its.toArray.size:Int)).toNat=j:=by
   rw [seqIndex_neg (by lia) h3] at h1;rw [aM,<-hl];exact ba h1
  exact PySem.W.ki_setBack ho (by lia) (by rw [aM,<-hl]; exact h3) (by lia) (by rw [hk]; exact⟨_,I',q⟩)
theorem BZ(lo hi:Option Int)(n:Nat):(pI lo hi none n).1=((HT.iT n 0 lo:Nat):Int)/\(pI lo hi none n).2.1=((HT.iT n n hi:Nat):Int)/\(pI lo hi none n).2.2=1:=by
 refine⟨?_,?_,rfl⟩
 ·cases lo with
  | none=>simp [pI,HT.iT]
  | some i =>
   simp only [pI,HT.iT,Option.getD_none,show (1:Int) > 0 by decide,if_true];by_cases h:i < 0
   ·simp only [h,if_true] <;> lia
   ·simp only [h,if_false] <;> lia
 ·cases hi with
  | none=>simp [pI,HT.iT]
  | some i =>
   simp only [pI,HT.iT,Option.getD_none,show (1:Int) > 0 by decide,if_true];by_cases h:i < 0
   ·simp only [h,if_true] <;> lia
   ·simp only [h,if_false] <;> lia
theorem zR(its:List Value)(lo hi:Option Int):slicePick its.toArray lo hi none=((its.drop (HT.iT its.length 0 lo)).take (HT.iT its.length its.length hi - HT.iT its.length 0 lo)).toArray:=by
 obtain⟨h1,h2,h3⟩:=BZ lo hi its.toArray.size;unfold slicePick;rw [h1,h2,h3];simp only [sliceRange_one,pick_run,aM] <;> rfl
noncomputable def W2(K:ag):V->Option Int->Option Int->Hp->VK->Prop:=fun x lo hi H Q=>∃ a xs,x=.ref a/\wZ K H a xs/\∀ p,H p=none->Q (.ref p) (upd H p (.lst (E3 xs lo hi)))
theorem Ib:Y5 X (W2 X.K):=by
 intro pins s σ H x v vl vu lo hi sl Q I rx hs pl pu h;obtain⟨a,xs,rfl,hx,q⟩:=h;cases rx;obtain⟨its,r,ht,hz⟩:=I.list hx;have hlen:=r.length;refine⟨"list",_,slot_list_getitem.lookup,ht.isList.typeIs,?_⟩;refine wpAny_getItem_list_slice ht.isList hs pl pu .none (by simp) ?_ (by rw [aM] <;> lia);rw [zR,<-hlen];refine⟨.ref s.heap.objs.size,_,I.laid (t':=s.toks) (o:=.lst (E3 xs lo hi)) (fun b ob q=>aA _ q) (aQ _) ?_,rfl,q _ (I.cF.fresh (aQ _))⟩;exact⟨bU (wW xs lo hi) hz,_,0,(r.drop (HT.iT xs.length 0 lo)).take (HT.iT xs.length xs.length hi - HT.iT xs.length 0 lo),bE _ rfl⟩
theorem C5:Rf X (.type "list") (fun xs H Q=>∃ p ys,xs=[.ref p]/\(wZ X.K H p ys\/zx X.K H p ys)/\∀ l,H l=none->Q (.ref l) (upd H l (.lst ys))):=by
 intro pins s σ H xs us Q I r h;obtain⟨p,ys,rfl,hq,q⟩:=h;obtain⟨u,rfl,rx⟩:=vals1 r;cases rx;have fin:∀ (its:List Value),Vals ys its->ys.length<=bb->∀ (h':Heap) (c':Nat),(∀ b o',s.heap.get? b=some o'->h'.get? b=some o') ->
   h'.get? s.heap.objs.size=some { cls:=.type "list",dict:=none,data:=.seq its.toArray c',slots:=#[] }->EP X pins σ Q (.ref s.heap.objs.size) { s with heap:=h' }:=fun its r' hz h' c' kp e =>
  ⟨.ref s.heap.objs.size,_,I.laid (t':=s.toks) kp (aQ _) (show fe X.prog X.w _ h' _ (.lst ys) from⟨hz,its,c',r',e⟩),rfl,q _ (I.cF.fresh (aQ _))⟩
 rcases hq with hq | hq
 ·obtain⟨its,r',pl,hz⟩:=I.list hq;have hlen:=r'.length;obtain⟨o,ho,hc,n,hd⟩:=pl.isList;exact call_list_seq p (.inl rfl) ho hc hd (fun h' c' kp e=>fin its r' hz h' c' kp e) (by simp only [aM] <;> lia)
 ·obtain⟨its,r',pl,hz⟩:=I.tuple hq;have hlen:=r'.length;obtain⟨o,ho,hc,n,hd⟩:=pl;exact call_list_seq p (.inr rfl) ho hc hd (fun h' c' kp e=>fin its r' hz h' c' kp e) (by simp only [aM] <;> lia)
noncomputable def tyV(K:ag)(T:String)(x:V)(H:Hp):Prop:=match x with
 | .str _=>T = "str"
 | .int _=>T = "int"
 | .ref p=>(T = "list"/\∃ xs,wZ K H p xs)\/(T = "tuple"/\∃ o,K.lookup p=some o/\o.cls=.type "tuple"/\o.dict=none) \/
   (T = "dict"/\((∃ a0,H p=some (.dK a0))\/∃ a0,H p=some (.dT a0)))\/(T = "set"/\∃ S n,H p=some (.set S n))
 | _=>False
theorem BV{pins:List (Addr×Obj)}{σ:St}{H:Hp}{s:au}{T:String}{x:V}{v:Value}(I:Inv X pins σ H s)(r:RelV x v)(ty:tyV X.K T x H) :
  s.TypeIs v T/\∀ a,v=.ref a->∃ ob,s.heap.get? a=some ob/\ob.dict=none:=by
 cases x with
 | str z =>
  obtain⟨t,rfl⟩:=r;cases (show T = "str" from ty);exact⟨typeIs_str s z t,fun _ e=>nomatch e⟩
 | int i =>
  obtain⟨t,rfl⟩:=r;cases (show T = "int" from ty);exact⟨typeIs_int s i t,fun _ e=>nomatch e⟩
 | ref p =>
  cases r;rcases ty with ⟨rfl,xs,hq⟩ | ⟨rfl,o,hk,hc,hd⟩ | ⟨rfl,hk⟩ | ⟨rfl,S,n,hk⟩
  ·obtain⟨its,_,pl,_⟩:=I.list hq;refine⟨pl.isList.typeIs,fun a e=>?_⟩;cases e;obtain⟨o,n,e,c,hd,_⟩:=pl;exact⟨o,e,hd⟩
  ·refine⟨⟨o,I.qr p o hk,hc⟩,fun a e=>?_⟩;cases e;exact⟨o,I.qr _ o hk,hd⟩
  ·have z:∃ o,s.heap.get? p=some o/\o.ExactDict:=by
    rcases hk with ⟨a0,hk⟩ | ⟨a0,hk⟩
    ·obtain⟨_,_,_,_,o,_,_,e,ex,_⟩:=I.cF p _ hk;exact⟨o,e,ex⟩
    ·obtain⟨_,_,_,_,o,_,_,e,ex,_⟩:=I.cF p _ hk;exact⟨o,e,ex⟩
   obtain⟨o,e,ex⟩:=z;refine⟨⟨o,e,ex.1⟩,fun a e2=>?_⟩;cases e2;exact⟨o,e,ex.2.1⟩
  ·obtain⟨o,_,_,_,e,ex,_⟩:=I.cF p _ hk;refine⟨⟨o,e,ex.1⟩,fun a e2=>?_⟩;cases e2;exact⟨o,e,ex.2.1⟩
 | _=>exact bw ty
variable {o e:Expr} {es:List Expr} {to:TE} {t:TA} {name:Str} {apos pE:Pos} {T id:String} {r:V->List V->Hp->VK->Prop}
/- xs.append(e),list.index on a UN tuple .. are MtR facts of 06m -/
end
noncomputable def MtM(X:Cx)(id:String)(r:V->List V->Hp->VK->Prop):Prop :=
 ∀ (pins:List (Addr×Obj)) (s:au) (σ:St) (H:Hp) (x:V) (xs:List V) (v:Value) (us:List Value) (Q:VK),Inv X pins σ H s->RelV x v->Vals xs us->r x xs H Q ->
  wpAny (model X.prog X.w) X.A (call (.builtin id) (v :: us)) (EP X pins σ Q) X.xe s
theorem Vals.one:∀ {x:V} {us:List Value},Vals [x] us->∃ u,us=[u]/\RelV x u:=by
 intro x us h;cases h with
 | cons r t=>cases t; exact⟨_,rfl,r⟩
section
variable {X:Cx} {pins:List (Addr×Obj)} {σ:St} {H:Hp} {s:au} {l b:Addr} {xs ys zs:List V}
theorem Inv.Sd{its its':List Value}{n:Nat}{f:Array Value->Array Value}{t':Nat}(I:Inv X pins σ H s)(hH:H l=some (.lst xs))
  (e:s.heap.get? l=some { cls:=.type "list",data:=.seq its.toArray n }) (hf:f its.toArray=its'.toArray) (hv:Vals ys its') (hz:ys.length<=bb) :
  Inv X pins σ (upd H l (.lst ys)) { s with heap:=s.heap.update l (fC f),toks:=t' }:=by
 have q:=PySem.IsL.update e f;rw [hf] at q;refine I.write (x:=l) (e:=l) (by rw [hH]; exact trivial) (.inl rfl) (fun b' u hb hu=>(cp s.heap (fC f) (jD hb)).trans hu) ⟨_,q⟩ ?_;exact⟨hz,its',_,hv,q⟩
theorem Inv.XF{its:List Value}{t':Nat}(I:Inv X pins σ H s)(hv:Vals ys its)(hz:ys.length<=bb) :
  Inv X pins σ (upd H s.heap.objs.size (.lst ys)) { s with heap:=s.heap.push { cls:=.type "list",data:=.seq its.toArray },toks:=t' } :=
 I.laid (fun _ _ q=>aA _ q) (aQ _) ⟨hz,its,0,hv,bE _ rfl⟩
theorem Inv.Sb (I:Inv X pins σ H s) (hH:H l=some (.lst xs)):xs.length<=bb/\∃ (its:List Value) (n:Nat),Vals xs its/\xs.length=its.length/\s.heap.get? l=some { cls:=.type "list",data:=.seq its.toArray n }:=by
 obtain⟨z,its,n,r,e⟩:=I.cF l _ hH;exact⟨z,its,n,r,r.length,e⟩
theorem MH{n:Nat}(h:n<=bb):iY n=false:=by
 unfold iY;exact decide_eq_false (by lia)
end
section
variable {X:Cx}
noncomputable def Pe:V->List V->Hp->VK->Prop:=fun x vs H Q=>∃ l xs y,x=.ref l/\vs=[y]/\H l=some (.lst xs)/\xs.length < bb/\Q .dI (upd H l (.lst (xs++[y])))
theorem AW:MtM X "list.append" Pe:=by
 intro pins s σ H x vs v us Q I rx rv h;obtain⟨l,xs,y,rfl,rfl,hH,hz,q⟩:=h;cases rx;obtain⟨u,rfl,ru⟩:=rv.one;obtain⟨z,its,n,r,hl,e⟩:=I.Sb hH;refine call_meets F.slot_list_append ⟨_,e,rfl⟩ F.entry_list_append (F.args_list_append_2 _ _) (PySem.list_append l its.toArray n u (by rw [aM]; lia)) ⟨e,?_⟩;refine⟨.dI,_,I.Sd (its':=its++[u]) hH e (by simp) (r.append (.cons ru .nil)) ?_,rfl,q⟩;rw [aO,gq];lia
end
section
variable {κ:Type} [DecidableEq κ]
noncomputable def kL(a0:List (κ×V))(k:κ):Option V:=(a0.find? fun kv=>decide (kv.1=k)).map (·.2)
noncomputable def putK(a0:List (κ×V))(k:κ)(v:V):List (κ×V) :=
 if (a0.any fun kv=>decide (kv.1=k))=true then a0.map (fun kv=>if kv.1=k then (kv.1,v) else kv) else a0++[(k,v)]
theorem pO{p:κ×V}{r:List (κ×V)}{k:κ}(e:p.1=k):kL (p :: r) k=some p.2:=by simp [kL,eT,e]
theorem pP{p:κ×V}{r:List (κ×V)}{k:κ}(e:¬ p.1=k):kL (p :: r) k=kL r k:=by simp [kL,eT,e]
theorem DI(k:κ):∀ a0:List (κ×V),(a0.any fun kv=>decide (kv.1=k))=(kL a0 k).isSome
 | []=>rfl
 | p :: r=>by
  rw [mY];by_cases e:p.1=k
  ·simp only [pO e,decide_eq_true e,Bool.true_or,Option.isSome_some]
  ·rw [pP e,decide_eq_false e,K8]; exact DI k r
theorem wM(a0:List (κ×V))(k:κ)(v:V):(putK a0 k v).length<=a0.length+1:=by
 unfold putK;split
 ·rw [ai]; lia
 ·rw [aO,af,aq]; lia
theorem pF.nK{o:Option V}{u:Option Value}(r:pF o u):o.isSome=u.isSome:=by
 cases o with
 | none=>cases u with
  | none=>rfl
  | some _=>exact(show False from r).elim
 | some _=>cases u with
  | none=>exact(show False from r).elim
  | some _=>rfl
theorem pF.getD{o:Option V}{u:Option Value}{d:V}{d':Value}(r:pF o u)(rd:RelV d d'):RelV (o.getD d) (u.getD d'):=by
 cases o with
 | none=>cases u with
  | none=>exact rd
  | some _=>exact(show False from r).elim
 | some _=>cases u with
  | none=>exact(show False from r).elim
  | some _=>exact r
theorem KV.val{a0:List (κ×V)}{vs:List (κ×Value)}(r:KV a0 vs)(k:κ):pF (kL a0 k) (Li vs k):=by
 unfold KV at r;induction r with
 | nil=>exact g7
 | @cons p q ps qs h t ih =>
  obtain⟨h1,h2⟩:=h;by_cases e:p.1=k
  ·have e':q.1=k:=h1.symm.trans e;have b:Li (q :: qs) k=some q.2:=by simp [Li,eT,e']
   rw [pO e,b]; exact h2
  ·have e':¬ q.1=k:=fun z=>e (h1.trans z);have b:Li (q :: qs) k=Li qs k:=by simp [Li,eT,e']
   rw [pP e,b]; exact ih
theorem KV.any{a0:List (κ×V)}{vs:List (κ×Value)}(r:KV a0 vs)(k:κ):(a0.any fun kv=>decide (kv.1=k))=vs.any fun kv=>decide (kv.1=k):=by
 unfold KV at r;induction r with
 | nil=>rfl
 | cons h t ih=>rw [mY,mY,ih,h.1]
theorem KV.RF{a0:List (κ×V)}{vs:List (κ×Value)}(r:KV a0 vs)(k:κ){y:V}{u:Value}(ry:RelV y u) :
  KV (a0.map fun kv=>if kv.1=k then (kv.1,y) else kv) (vs.map fun kv=>if kv.1=k then (kv.1,u) else kv):=by
 unfold KV at r ⊢;induction r with
 | nil=>exact .nil
 | @cons p q ps qs h t ih =>
  rw [aj,aj];refine .cons ?_ ih;obtain⟨h1,h2⟩:=h;by_cases e:p.1=k
  ·rw [if_pos e,if_pos (h1.symm.trans e)]; exact⟨h1,ry⟩
  ·rw [if_neg e,if_neg (fun z=>e (h1.trans z))]; exact⟨h1,h2⟩
theorem KV.put{a0:List (κ×V)}{vs:List (κ×Value)}(r:KV a0 vs)(k:κ){y:V}{u:Value}(ry:RelV y u):KV (putK a0 k y) (stored vs k u):=by
 unfold putK stored;rw [r.any k];by_cases e:(vs.any fun kv=>decide (kv.1=k))=true
 ·rw [if_pos e,if_pos e]; exact r.RF k ry
 ·rw [if_neg e,if_neg e]; exact Paired.snoc r ⟨rfl,ry⟩
theorem KV.length{a0:List (κ×V)}{vs:List (κ×Value)}(r:KV a0 vs):a0.length=vs.length:=xA r
end
theorem A4{P:bx}{w:World}{k:Key}{u:Value}(r:RelV (kV k) u):(eV P w).is k u=true:=by
 cases k with
 | inl i=>obtain⟨t,e⟩:=(show ∃ t,u=Dz i t from r); subst e; exact Ea P w i t
 | inr x=>obtain⟨t,e⟩:=(show ∃ t,u=Lv x t from r); subst e; exact D9 P w x t
theorem A5{P:bx}{w:World}:∀ {ks:List Key} {us:List Value},Vals (ks.map kV) us->ItemsAre (eV P w) ks us
 | [],_,r=>by rw [aN] at r; cases r; exact .nil
 | k :: ks,_,r=>by
  rw [aj] at r;cases r with
  | cons h t=>exact .cons (A4 h) (A5 t)
noncomputable abbrev KT(H:Hp):List (List Key×V)->List (List Key×Addr×Value)->Prop:=Paired fun p q=>p.1=q.1/\H q.2.1=some (.tup (p.1.map kV))/\RelV p.2 q.2.2
theorem KT.val{H:Hp}{a0:List (List Key×V)}{xs:List (List Key×Addr×Value)}(r:KT H a0 xs)(k:List Key):pF (kL a0 k) ((atKey xs k).map (·.2)):=by
 induction r with
 | nil=>exact g7
 | @cons p q ps qs h t ih =>
  obtain⟨h1,_,h2⟩:=h;by_cases e:p.1=k
  ·have e':q.1=k:=h1.symm.trans e;have b:atKey (q :: qs) k=some q.2:=by simp [atKey,eT,e']
   rw [pO e,b]; exact h2
  ·have e':¬ q.1=k:=fun z=>e (h1.trans z);have b:atKey (q :: qs) k=atKey qs k:=by simp [atKey,eT,e']
   rw [pP e,b]; exact ih
theorem KT.RF{H:Hp}{a0:List (List Key×V)}{xs:List (List Key×Addr×Value)}(r:KT H a0 xs)(k:List Key){y:V}{u:Value}(ry:RelV y u) :
  KT H (a0.map fun kv=>if kv.1=k then (kv.1,y) else kv) (xs.map (putAt k u)):=by
 induction r with
 | nil=>exact .nil
 | @cons p q ps qs h t ih =>
  rw [aj,aj];refine .cons ?_ ih;obtain⟨h1,h2,h3⟩:=h;unfold putAt;by_cases e:p.1=k
  ·rw [if_pos e,if_pos (h1.symm.trans e)]; exact⟨h1,h2,ry⟩
  ·rw [if_neg e,if_neg (fun z=>e (h1.trans z))]; exact⟨h1,h2,h3⟩
theorem KT.put{H:Hp}{a0:List (List Key×V)}{xs:List (List Key×Addr×Value)}(r:KT H a0 xs)(k:List Key){b:Addr}{y:V}{u:Value}(hb:H b=some (.tup (k.map kV)))(ry:RelV y u) :
  KT H (putK a0 k y) (storedH xs k b u):=by
 have e:(a0.any fun kv=>decide (kv.1=k))=(atKey xs k).isSome:=by
  rw [DI,(r.val k).nK,kF]
 unfold putK storedH;rw [e];by_cases q:(atKey xs k).isSome=true
 ·rw [if_pos q,if_pos q]; exact r.RF k ry
 ·rw [if_neg q,if_neg q]; exact Paired.snoc r ⟨rfl,hb,ry⟩
theorem KT.keeps{H H':Hp}{a0:List (List Key×V)}{xs:List (List Key×Addr×Value)}(r:KT H a0 xs)(ht:∀ b ys,H b=some (.tup ys)->H' b=some (.tup ys)):KT H' a0 xs :=
 Paired.R8 r fun _ _ z=>⟨z.1,ht _ _ z.2.1,z.2.2⟩
section
variable {P:bx} {w:World} {H:Hp} {h:Heap} {a:Addr}
theorem Qx{u:HO}(ok:pj P w H h)(e:Rd H a u):fe P w H h a u:=e.ok ok
theorem se{a0:List (Key×V)}(ok:pj P w H h)(e:Rd H a (.dK a0)):a0.length<=bb/\(a == gQ)=false/\∃ vs,KV a0 vs/\h.DictOf (eV P w) a vs :=
 show fe P w H h a (.dK a0) from Qx ok e
theorem EL{a0:List (Key×V)}(ok:pj P w H h)(e:H a=some (.dK a0)):a0.length<=bb/\(a == gQ)=false/\∃ vs,KV a0 vs/\h.DictOf (eV P w) a vs:=se ok (.inl e)
theorem yS{ks:List Key}(ok:pj P w H h)(e:H a=some (.tup (ks.map kV))):(Ll (eV P w)).is h ks a:=by
 obtain⟨_,its,r,o,h1,h2,n,h3⟩:=(show fe P w H h a (.tup (ks.map kV)) from ok a _ e);exact⟨o,its.toArray,n,h1,h2,h3,by simpa using A5 r⟩
theorem zg{a0:List (List Key×V)}(ok:pj P w H h)(e:Rd H a (.dT a0)):a0.length<=bb/\(a == gQ)=false /\
  ∃ xs,KT H a0 xs/\h.DictOfH (Ll (eV P w)) a xs:=by
 obtain⟨z,y,xs,r,o,es,ep,h1,h2,h3,h4,h5⟩:=(show fe P w H h a (.dT a0) from Qx ok e);refine⟨z,y,xs,r,o,es,ep,h1,h2,h3,h4,fun x hx=>?_,h5⟩;have all:∀ {l:List (List Key×V)} {m:List (List Key×Addr×Value)},KT H l m->∀ x∈m,(Ll (eV P w)).is h x.1 x.2.1:=by
  intro l m q;induction q with
  | nil=>intro x hx; exact nomatch hx
  | @cons p q ps qs hq t ih =>
   intro x hx;rcases List.mem_cons.mp hx with e | hx
   ·subst e;exact yS ok (by rw [<-hq.1]; exact hq.2.1)
   ·exact ih x hx
 exact all r x hx
theorem QT{a0:List (List Key×V)}(ok:pj P w H h)(e:H a=some (.dT a0)):a0.length<=bb/\(a == gQ)=false /\
  ∃ xs,KT H a0 xs/\h.DictOfH (Ll (eV P w)) a xs:=zg ok (.inl e)
end
noncomputable def zE(H:Hp)(a:Addr)(y:V)(r:Option V):Prop :=
 (∃ a0 k,Rd H a (.dK a0)/\y=kV k/\r=kL a0 k)\/∃ a0 k b,Rd H a (.dT a0)/\y=.ref b/\H b=some (.tup (k.map kV))/\r=kL a0 k
noncomputable def KY(H:Hp)(a:Addr)(y v:V)(H':Hp):Prop :=
 (∃ a0 k,H a=some (.dK a0)/\y=kV k/\a0.length < bb/\H'=upd H a (.dK (putK a0 k v))) \/
 ∃ a0 k b,H a=some (.dT a0)/\y=.ref b/\H b=some (.tup (k.map kV))/\a0.length < bb/\H'=upd H a (.dT (putK a0 k v))
theorem zE.k{H:Hp}{a:Addr}{a0:List (Key×V)}{k:Key}(e:H a=some (.dK a0)):zE H a (kV k) (kL a0 k):=.inl ⟨a0,k,.inl e,rfl,rfl⟩
theorem zE.t{H:Hp}{a b:Addr}{a0:List (List Key×V)}{k:List Key}(e:H a=some (.dT a0))(eb:H b=some (.tup (k.map kV))):zE H a (.ref b) (kL a0 k):=.inr ⟨a0,k,b,.inl e,rfl,eb,rfl⟩
theorem KY.k{H:Hp}{a:Addr}{a0:List (Key×V)}{k:Key}{v:V}(e:H a=some (.dK a0))(hl:a0.length < bb):KY H a (kV k) v (upd H a (.dK (putK a0 k v))):=.inl ⟨a0,k,e,rfl,hl,rfl⟩
theorem KY.t{H:Hp}{a b:Addr}{a0:List (List Key×V)}{k:List Key}{v:V}(e:H a=some (.dT a0))(eb:H b=some (.tup (k.map kV)))(hl:a0.length < bb) :
  KY H a (.ref b) v (upd H a (.dT (putK a0 k v))):=.inr ⟨a0,k,b,e,rfl,eb,hl,rfl⟩
section
variable {X:Cx} {pins:List (Addr×Obj)} {σ:St} {H:Hp} {s:au} {a:Addr} {y v:V} {u r:Value} {o:Option V} {A:cI} {E:Value->au->Prop}
theorem Inv.big(I:Inv X pins σ H s):gQ < s.heap.objs.size:=by
 have h:aT < s.heap.objs.size:=(I.mod.glob.keeps I.bk).lt;exact Nat.lt_trans (by decide) h
theorem v8{Q:Value->au->Prop}(hu:A.units+1 < cLine)(I:Inv X pins σ H s)(g:zE H a y (some v))(ry:RelV y u)(h:∀ w' s',Inv X pins σ H s'->RelV v w'->Q w' s') :
  wpAny (model X.prog X.w) A (getItem (.ref a) u) Q E s:=by
 rcases g with ⟨a0,k,e,ey,l⟩ | ⟨a0,k,b,e,ey,eb,l⟩
 ·subst ey;obtain⟨z,hd,vs,rel,dd⟩:=se I.cF e;obtain⟨w',hw,rE⟩:=pF.some_of (v:=v) (o:=Li vs k) (by rw [l]; exact rel.val k);exact wpAny_getItem_of (A4 ry) dd.mapOf hw (h w' _ (I.tok _) rE)
 ·subst ey;cases (show u=eP b from ry);obtain⟨z,hd,xs,rel,dd⟩:=zg I.cF e;obtain⟨w',hw,rE⟩:=pF.some_of (v:=v) (o:=(atKey xs k).map (·.2)) (by rw [l]; exact rel.val k);obtain⟨p,hp,wQ⟩:=Option.map_eq_some_iff.mp hw;refine wpAny_getItem_heap (rL hu) (yS I.cF eb) dd hp ?_;rw [wQ];exact h w' _ (I.tok _) rE
theorem Vy{Q:Value->au->Prop}(hu:A.units+1 < cLine)(I:Inv X pins σ H s)(g:zE H a y o)(ry:RelV y u)(h:∀ s',Inv X pins σ H s'->Q (.bool o.isSome) s') :
  wpAny (model X.prog X.w) A (eO .In u (.ref a)) Q E s:=by
 rcases g with ⟨a0,k,e,ey,l⟩ | ⟨a0,k,b,e,ey,eb,l⟩
 ·subst ey;obtain⟨z,hd,vs,rel,dd⟩:=se I.cF e;refine wpAny_in_of (A4 ry) hd dd.mapOf ?_;rw [<-(rel.val k).nK,<-l];exact h _ (I.tok _)
 ·subst ey;cases (show u=eP b from ry);obtain⟨z,hd,xs,rel,dd⟩:=zg I.cF e;refine wpAny_in_heap (rL hu) (yS I.cF eb) hd dd ?_;have q:=(rel.val k).nK;rw [kF] at q;rw [<-q,<-l];exact h _ (I.tok _)
theorem IZ{Q:Value->au->Prop}(hu:A.units+1 < cLine)(I:Inv X pins σ H s)(g:zE H a y o)(ry:RelV y u)(h:∀ s',Inv X pins σ H s'->Q (.bool (!o.isSome)) s') :
  wpAny (model X.prog X.w) A (eO .NotIn u (.ref a)) Q E s:=by
 rcases g with ⟨a0,k,e,ey,l⟩ | ⟨a0,k,b,e,ey,eb,l⟩
 ·subst ey;obtain⟨z,hd,vs,rel,dd⟩:=se I.cF e;refine wpAny_notIn_of (A4 ry) hd dd.mapOf ?_;rw [<-(rel.val k).nK,<-l];exact h _ (I.tok _)
 ·subst ey;cases (show u=eP b from ry);obtain⟨z,hd,xs,rel,dd⟩:=zg I.cF e;refine wpAny_notIn_heap (rL hu) (yS I.cF eb) hd dd ?_;have q:=(rel.val k).nK;rw [kF] at q;rw [<-q,<-l];exact h _ (I.tok _)
theorem IY{h':Heap}{t':Nat}{ob:HO}(I:Inv X pins σ H s)(mu:VJ (H a))(hs:By a s.heap h')(he:∃ q,h'.get? a=some q)(new:fe X.prog X.w (upd H a ob) h' a ob) :
  Inv X pins σ (upd H a ob) { s with heap:=h',toks:=t' } :=
 I.write (x:=a) (e:=a) mu (.inl rfl) (fun b q hb z=>(hs.2 b hb).trans z) he new
theorem NN{P:bx}{w:World}{H':Hp}{h':Heap}{a0:List (Key×V)}{vs:List (Key×Value)}(z:a0.length<=bb)(hd:(a == gQ)=false)(rel:KV a0 vs)(dd:h'.DictOf (eV P w) a vs) :
  fe P w H' h' a (.dK a0):=⟨z,hd,vs,rel,dd⟩
theorem KD{H':Hp}{Q:Unit->au->Prop}(hu:A.units+1 < cLine)(I:Inv X pins σ H s)(g:KY H a y v H')(ry:RelV y u)(rv:RelV v r)(h:∀ s',Inv X pins σ H' s'->Q () s') :
  wpAny (model X.prog X.w) A (setItem (.ref a) u r) Q E s:=by
 rcases g with ⟨a0,k,e,ey,l,eH⟩ | ⟨a0,k,b,e,ey,eb,l,eH⟩
 ·subst ey eH;obtain⟨z,hd,vs,rel,dd⟩:=EL I.cF e;have hz:vs.length<=bb:=by rw [<-rel.length]; exact z
  have hl:(putK a0 k v).length<=bb:=by have:=wM a0 k v; lia
  refine wpAny_setItem_pairs (hsz:=hz) (A4 ry) dd fun h' P6 hs=>h _ ?_;have he:∃ q,h'.get? a=some q:=let ⟨q,_,_,hq,_⟩:=P6; ⟨q,hq⟩
  exact IY I (by rw [e]; exact g7) hs he (NN hl hd (rel.put k rv) P6)
 ·subst ey eH;cases (show u=eP b from ry);obtain⟨z,hd,xs,rel,dd⟩:=QT I.cF e;have hz:xs.length<=bb:=by rw [<-xA rel]; exact z
  have hl:(putK a0 k v).length<=bb:=by have:=wM a0 k v; lia
  refine wpAny_setItem_heap (hsz:=hz) (rL hu) (yS I.cF eb) dd fun h' P6 hs=>h _ ?_;obtain⟨q,es,ep,hq,h2,h3,h4,_,h5⟩:=P6;refine IY I (by rw [e]; exact g7) hs ⟨q,hq⟩ ⟨hl,hd,_,(rel.put k eb rv).keeps fun c ys ec=>?_,q,es,ep,hq,h2,h3,h4,h5⟩;rw [bj (UL ec e (fun z=>nomatch z))];exact ec
end
section
variable {X:Cx} {pins:List (Addr×Obj)} {σ:St} {H:Hp} {s:au} {a:Addr} {a0:List (Key×V)} {k:Key} {u:Value} {A:cI} {E:Value->au->Prop}
theorem QU {Q:Value->au->Prop} (I:Inv X pins σ H s) (e:Rd H a (.dK a0)) (h:∀ t s',Inv X pins σ H s'->Q (.int a0.length t) s'):wpAny (model X.prog X.w) A (call (.builtin "len") [.ref a]) Q E s:=by
 obtain⟨z,hd,vs,rel,dd⟩:=se I.cF e;refine call_len_dict hd dd (by rw [<-rel.length]; rw [cm] at z; lia) ?_;rw [<-rel.length];exact h _ _ (I.tok _)
theorem P7{Q:Bool->au->Prop}(I:Inv X pins σ H s)(e:Rd H a (.dK a0))(h:∀ s',Inv X pins σ H s'->Q (!a0.isEmpty) s'):wpAny (model X.prog X.w) A (truthy (.ref a)) Q E s:=by
 obtain⟨z,hd,vs,rel,dd⟩:=se I.cF e;refine FI hd dd (by rw [<-rel.length]; rw [cm] at z; lia) ?_;have q:a0.isEmpty=vs.isEmpty:=by cases rel <;> rfl
 rw [<-q];exact h _ (I.tok _)
end
theorem qx {X:Cx} {pins:List (Addr×Obj)} {σ:St} {H:Hp} {s:au} {a:Addr} {y:V} {o:Option V} (I:Inv X pins σ H s) (g:zE H a y o):s.TypeIs (.ref a) "dict":=by
 rcases g with ⟨a0,k,e,_,_⟩ | ⟨a0,k,b,e,_,_,_⟩
 ·obtain⟨_,_,vs,_,dd⟩:=se I.cF e;exact dd.typeIs
 ·obtain⟨_,_,xs,_,dd⟩:=zg I.cF e;exact dd.typeIs
theorem NO {P:bx} {w:World} {H:Hp} (h:Heap) (hb:gQ < h.objs.size):fe P w H (h.push { cls:=.type "dict",data:=.dict #[] }) h.objs.size (.dK []) :=
 ⟨cg _,beq_eq_false_iff_ne.mpr (jD (bq hb)),[],.nil,Heap.DictOf.new h⟩
noncomputable def Rw:TE:=fun _ H Q=>∀ p,H p=none->Q (.ref p) (upd H p (.dK []))
section
variable {X:Cx} {pos:Pos}
theorem Mz:PE X (.Dict [] [] pos) Rw:=fun pins s σ H Q I h =>
 wpAny_Dict_empty ⟨.ref s.heap.objs.size,_,I.laid (a:=s.heap.objs.size) (o:=.dK []) (t':=s.toks) (fun _ _ q=>aA _ q) (aQ _) (NO s.heap I.big),rfl,h _ (I.cF.fresh (aQ _))⟩
end
noncomputable def IsD(H:Hp)(a:Addr):Prop:=(∃ a0,Rd H a (.dK a0))\/∃ a0,Rd H a (.dT a0)
theorem M5{X:Cx}{pins:List (Addr×Obj)}{σ:St}{H:Hp}{s:au}{a:Addr}(I:Inv X pins σ H s)(d:IsD H a) :
  s.TypeIs (.ref a) "dict"/\(∀ b,eP a=.ref b->∃ ob,s.heap.get? b=some ob/\ob.dict=none)/\(a == gQ)=false:=by
 rcases d with ⟨a0,e⟩ | ⟨a0,e⟩
 ·obtain⟨_,hd,vs,_,dd⟩:=se I.cF e;refine⟨dd.typeIs,fun b q=>?_,hd⟩;cases q;obtain⟨ob,_,_,h1,h2,_⟩:=dd;exact⟨ob,h1,h2.2.1⟩
 ·obtain⟨_,hd,xs,_,dd⟩:=zg I.cF e;refine⟨dd.typeIs,fun b q=>?_,hd⟩;cases q;obtain⟨ob,_,_,h1,h2,_⟩:=dd;exact⟨ob,h1,h2.2.1⟩
end L2
namespace Att
open PySem PySem.W PySem.Calls PyProof.Rows
theorem xh{P:jL}{h:Heap}:∀ (ns:List Int) (vs:List Value),WellAll P h vs (ns.map WData.int)->jR vs ns:=by
 intro ns;induction ns with
 | nil =>
  intro vs w;rw [aN] at w;cases w;exact .nil
 | cons n ns ih =>
  intro vs w;rw [aj] at w;cases w with
  | cons a b =>
   cases a;exact .cons _ _ (ih _ b)
theorem JN{l:Ly}{n:Nat}(hn:l.most=some n){P:jL}{h:Heap}{args:List WData}{vals:List Value}
  (Hf:l.row.toRowW.claim.pre args=true) (X2:WellAll P h vals args) :
  ∃ a vs ns,vals=[eP a]/\args=[WData.list (ns.map WData.int)]/\h.get? a=some { cls:=.type "list",data:=.seq vs.toArray }/\jR vs ns/\ns.length<=n:=by
 have V5:WShape.hasAll [] args [.list .int]=true:=(pre_splitW Hf).1;have hc:l.pre.holds [] { args:=args } = true:=(pre_splitW Hf).2;obtain⟨d,r,rfl,h1,h2⟩:=hasAllW_cons V5;obtain rfl:=hasAllW_nil h2;obtain⟨xs,rfl,h3⟩:=hasW_list h1;obtain⟨ns,rfl⟩:=items_int h3;have hlen:ns.length<=n:=by
  unfold OpenLaw.pre at hc;have h4:(WTm.not (.lt (.lit (.int (n:Int))) (.len (.arg 0)))).holds [] { args:=[.list (ns.map .int)] } = true:=by
   have h4:=(holds_andW hc).1;rw [hn] at h4;exact h4
  have h5:=condW_of h4 (w_not (w_lt w_lit (w_len_list (w_arg rfl))));rw [ai] at h5;refine Nat.le_of_not_lt fun q=>?_;have q':(n:Int) < ((ns.length:Nat):Int):=by lia
  first
   | (rw [decide_eq_true q'] at h5; exact absurd h5 (by decide))
   | (simp at h5; lia)
 cases X2 with
 | cons w1 w2 =>
  cases w2;cases w1 with
  | list ho y1=>exact⟨_,_,ns,rfl,rfl,ho,xh ns _ y1,hlen⟩
theorem JU(l:Ly)(args:List WData):l.row.toRowW.claim.post args (.bool true) args=true :=
 postW_of (r:=l.row.toRowW) (X:=(true == true))
  (show WShape.has [] (.bool true) .bool=true by first | rfl | decide | simp [WShape.has,WShape.arms,WShape.armsAll])
  (show (WTm.eq .res (.lit (.bool true))).value [] { args:=args,res:=some (.bool true),after:=args } = some (.bool (true == true)) from w_eq_bool (w_res rfl) w_lit) rfl
theorem Fd{l:Ly}{n:Nat}{q:bx}{loose:List Str}{XP:(Str->Option Value)->Heap->Prop}{YP:World->Heap->Prop}{d:DefRec}
  (hn:l.most=some n) (YC:d.params.defaults=[])
  (call:∀ (w:World) (ie dh:au) (mg mb:Str->Option Value) (fa:Addr) (o:Obj) (pm cd doc:Value) (a:Addr) (vs:List Value) (ns:List Int),
   Ground q loose [] XP w ie mg mb dh.heap->YP w dh.heap ->
   dh.heap.get? fa=some o->o.data=.func (docDef d.name d.params d.body d.scope pm cd doc)->dh.heap.CodeRec cd d.name->mg d.name=some (.ref fa) ->
   dh.heap.get? a=some { cls:=.type "list",data:=.seq vs.toArray }->jR vs ns->ns.length<=n->dh.gens=#[] ->
   pJ (model l.prog w) Ls (.call (.ref fa) ⟨[.ref a],[]⟩) (fun r s'=>r=.ok (.ret (.bool true))/\OldK dh.heap s'.heap/\s'.os=dh.os/\yd s'.gens) dh) :
  WalkO q loose XP YP l.row.toRowW d [] (fun f vs=>PySem.call f vs):=by
 intro w ie dh mg mb G Y fa o pm cd doc dV kV ho hd zL hD U6 hg args vals as Hf aco Yd X2 hlo;obtain rfl:dV=.none:=Dflts.none hD YC;obtain rfl:kV=.none:=Dflts.noKw hD;obtain⟨a,vs,ns,rfl,rfl,Su,hints,hlen⟩:=JN hn Hf X2;refine enter_call (rP (call w ie dh mg mb fa o pm cd doc a vs ns G Y ho (fd_plain hd) zL U6 Su hints hlen hg) fun r s' hq=>?_);obtain⟨rfl,h2,h3,h4⟩:=hq;exact⟨.inl ⟨.bool true,.bool true,[],rfl,fun _=>rfl,.bool true,JU l _,fun _=>⟨List.Pairwise.nil,fun _ hm=>(nomatch hm)⟩⟩,h2,h3,h4⟩
end Att
namespace L2
open PySem PySem.Spec PyProof.Rows
theorem AL:∀ {vs:List Value} {ns:List Int},jR vs ns->Vals (ns.map V.int) vs
 | _,_,.nil=>.nil
 | _,_,.cons n t h=>.cons ⟨t,rfl⟩ (AL h)
end L2
/- THE aeI Ws (shape; LID,My.* are Zl):
   My.Adr: a structure of Zp addresses aa7 aa1 Z3 names (classes,TB); My.Txt K t: a structure (Prop) of Zp equations over K;
   My.WN:{K} {implicit addresses ..} (e1:nsIn K aT "law" = some (some (.ref f))) (e2:K.lookup f=some ⟨oc,od,.func (fnOf "law" "law" params body scope dV kV doc pm an iH ct),sl⟩) (e3:codeIn K iH "law" = true) ..:∃ t,My.Txt K t
(Zp tactic k_is has no namespace: write k_is) -/
namespace L2
open PySem PySem.Spec PyProof.Rows
noncomputable abbrev ff:Lh:=fun _ _ _ _ _ _=>False
noncomputable abbrev E0:XK:=fun _ _ _=>False
theorem D5{X:Cx}:Passes ff X E0:=fun _ _ _ _ _ _ _ h=>h.elim
structure kg(K:ag)(x qual:Str)(st:Stmt)(f:Addr)(fd:ak):Prop where
 ex:∃ (oc:Value) (od:Option Addr) (kV doc pm:Value) (an:Option Addr) (iH ct:Value) (FA:Array (Option Value)),
  fd=iC x qual (iV st) (eG st) (aH st) .none kV doc pm an iH ct/\K.lookup f=some ⟨oc,od,.func fd,FA⟩/\DA K iH qual=true
 kp:cH K (.ref f)=true
section
variable {P:bx} {w:World} {K:ag} {mg:Str->Option Value} {base:Heap}
theorem kg.ok{x qual:Str}{st:Stmt}{f:Addr}{fd:ak}{N ps:List Str}{k:Nat}{sp:Sp}(F:kg K x qual st f fd)(S:bF N ps (aH st))(len:∀ vs H Q E,sp vs H Q E->vs.length=ps.length)
  (Nq:∀ (iH:Value) (A:cI) (outer:List Env) (s:au) (H:Hp) (vs:List V) (Q:VK) (E:XK),fk k (A.deeper (rO qual (aH st) s.heap.objs.size f iH))->sp vs H Q E ->
   ∃ t,TL (qF ff P w K mg base N qual (aH st) f iH A outer s H E).OA (eG st) t/\t { nx:=fun _ H'=>Q .dI H',rt:=Q } (start N vs) H):cU P w K mg base ff (k+1) f fd ps sp:=by
 obtain⟨oc,od,kV,doc,pm,an,iH,ct,FA,rfl,lk,zL⟩:=F.ex;refine IQ lk zL S len fun A outer s H vs Q E hr So=>?_;obtain⟨t,h,q⟩:=Nq iH A outer s H vs Q E hr So;exact⟨t,h.OA,q⟩
theorem kg.binds{x qual:Str}{st:Stmt}{f:Addr}{fd:ak}{ps:List Str}(F:kg K x qual st f fd)
  (h:∀ (kV doc pm:Value) (an:Option Addr) (iH ct:Value) (us:List Value),us.length=ps.length->bindArgs (iC x qual (iV st) (eG st) (aH st) .none kV doc pm an iH ct) ⟨us,[]⟩=pure (ps.zip us)):Binds K fd ps []:=by
 obtain⟨oc,od,kV,doc,pm,an,iH,ct,FA,rfl,lk,zL⟩:=F.ex;exact .all (h kV doc pm an iH ct)
theorem Nz{x qual:Str}{st:Stmt}{f:Addr}{oc:Value}{od an:Option Addr}{FA:Array (Option Value)}{kV doc pm iH ct:Value}(l:K.lookup f=some ⟨oc,od,.func (iC x qual (iV st) (eG st) (aH st) .none kV doc pm an iH ct),FA⟩)
  (c:DA K iH qual=true) (k:cH K (.ref f)=true):kg K x qual st f (iC x qual (iV st) (eG st) (aH st) .none kV doc pm an iH ct):=⟨⟨oc,od,kV,doc,pm,an,iH,ct,FA,rfl,l,c⟩,k⟩
end
end L2
set_option autoImplicit false
section
namespace K2
open PySem (Str)
noncomputable abbrev PK:=List (List (List Int))
inductive D where
 | dI | bl (b:Bool) | int (i:Int) | str (x:Str) | tup (ds:List D) | da (ds:List D) | oS (a0:List (D×D)) | ref (a:Nat) | exc (c:Str) | zM (c:Str) (ns:List Str) (ds:List D) | AQ (a0:List (PK×D))
 deriving Inhabited
inductive GO where
 | lst (ds:List D)
 | jP (a0:List (D×D))
 | ins (c:Str) (fs:List (Str×D))
 | Ht (a0:List (PK×D))
noncomputable abbrev Gp:=Nat->Option GO
noncomputable def bP(G:Gp)(a:Nat)(o:GO):Gp:=fun b=>if b=a then some o else G b
theorem az{G:Gp}{a:Nat}{o:GO}:bP G a o a=some o:=by unfold bP; rw [if_pos rfl]
theorem c4{G:Gp}{a b:Nat}{o:GO}(h:b≠a):bP G a o b=G b:=by unfold bP; rw [if_neg h]
noncomputable abbrev SZ:Nat:=16777216
structure Ex where
 cls:Str
 adg:List (Str×D)
noncomputable abbrev jz:=Ex->Gp->Prop
noncomputable abbrev g6:=List (Option D)
noncomputable abbrev DK:=D->Gp->Prop
noncomputable abbrev eZ:=jz->g6->Gp->DK->Prop
noncomputable abbrev xu:=jz->g6->Gp->(Bool->Gp->Prop)->Prop
noncomputable abbrev vh:=jz->g6->Gp->(List D->Gp->Prop)->Prop
structure jA where
 nx:g6->Gp->Prop
 rt:DK
 bk:g6->Gp->Prop
 ct:g6->Gp->Prop
noncomputable abbrev fh:=jz->jA->g6->Gp->Prop
noncomputable abbrev gM:=List D->Gp->DK->jz->Prop
noncomputable abbrev Ff:=D->D->Gp->DK->Prop
noncomputable def IH(n:Nat)(i:Int):Option Nat:=if 0<=i then (if i < n then some i.toNat else none) else if -(n:Int)<=i then some (i+n).toNat else none
noncomputable def we{α:Type}(xs:List α)(i:Int):Option α:=(IH xs.length i).bind fun j=>xs[j]?
noncomputable def iT(n d:Nat):Option Int->Nat
 | none=>d
 | some v=>if v < 0 then (v+(n:Int)).toNat else min v.toNat n
noncomputable def cut{α:Type}(xs:List α)(lo hi:Option Int):List α:=(xs.drop (iT xs.length 0 lo)).take (iT xs.length xs.length hi - iT xs.length 0 lo)
mutual
noncomputable def ip:D->D->Bool
 | .dI,.dI=>true
 | .bl a,.bl b=>a == b
 | .bl a,.int b=>(if a then 1 else 0) == b
 | .int a,.bl b=>a == (if b then 1 else 0)
 | .int a,.int b=>a == b
 | .str a,.str b=>a == b
 | .tup a,.tup b=>i3 a b
 | .da a,.da b=>i3 a b
 | _,_=>false
noncomputable def i3:List D->List D->Bool
 | [],[]=>true
 | a :: r,b :: t=>ip a b&&i3 r t
 | _,_=>false
end
mutual
noncomputable def nr:D->Bool
 | .ref _=>false
 | .exc _=>false
 | .zM _ _ _=>false
 | .oS _=>false
 | .AQ _=>false
 | .str x=>x.cps.all (· < 0x110000)
 | .tup ds=>vq ds
 | .da ds=>vq ds
 | _=>true
noncomputable def vq:List D->Bool
 | []=>true
 | d :: r=>nr d&&vq r
end
class inductive Sn (G:Gp):Nat->D->D->Prop
 | dI {n:Nat}:Sn G n .dI .dI
 | bl {n:Nat} (b:Bool):Sn G n (.bl b) (.bl b)
 | int {n:Nat} (i:Int):Sn G n (.int i) (.int i)
 | str {n:Nat} (x:Str) (h:x.cps.all (· < 0x110000)=true):Sn G n (.str x) (.str x)
 | BX {n:Nat}:Sn G (n+1) (.tup []) (.tup [])
 | l8 {n:Nat} {d s:D} {ds ss:List D}:Sn G n d s->Sn G (n+1) (.tup ds) (.tup ss)->Sn G (n+1) (.tup (d :: ds)) (.tup (s :: ss))
 | DR {n:Nat}:Sn G (n+1) (.da []) (.da [])
 | wH {n:Nat} {d s:D} {ds ss:List D}:Sn G n d s->Sn G (n+1) (.da ds) (.da ss)->Sn G (n+1) (.da (d :: ds)) (.da (s :: ss))
 | ref {n:Nat} {a:Nat} {ds ss:List D}:G a=some (.lst ds)->Sn G n (.da ds) (.da ss)->Sn G n (.ref a) (.da ss)
noncomputable abbrev SN:Nat:=8
theorem Sn.nr{G:Gp}{n:Nat}{d t:D}(h:Sn G n d t):K2.nr t=true:=by
 induction h with
 | dI=>rfl
 | bl b=>rfl
 | int i=>rfl
 | str x h=>exact h
 | BX=>rfl
 | l8 _ _ Na M9 =>
  show (K2.nr _&&K2.vq _)=true;rw [Na];exact M9
 | DR=>rfl
 | wH _ _ Na M9 =>
  show (K2.nr _&&K2.vq _)=true;rw [Na];exact M9
 | ref _ _ ih=>exact ih
noncomputable def Uq(k:PK):D:=.tup (k.map fun r=>.tup (r.map fun t=>.tup (t.map D.int)))
noncomputable def dw:D->Bool
 | .int _=>true
 | .str _=>true
 | _=>false
noncomputable def Gs:D->Gp->Option Bool
 | .dI,_=>some false
 | .bl b,_=>some b
 | .int i,_=>some (i != 0)
 | .str x,_=>if x.length<=SZ then some ((x.length:Int) != 0) else none
 | .tup ds,_=>some (!ds.isEmpty)
 | .da ds,_=>some (!ds.isEmpty)
 | .exc _,_=>none
 | .zM _ _ _,_=>none
 | .AQ _,_=>none
 | .oS a0,_=>if (a0.all fun p=>dw p.1)=true then some (!a0.isEmpty) else none
 | .ref a,G=>match G a with
  | some (.lst ds)=>some (!ds.isEmpty)
  | some (.jP a0)=>if (a0.all fun p=>dw p.1)=true then some (!a0.isEmpty) else none
  | _=>none
noncomputable def ao(i:Nat):eZ:=fun _ τ G Q=>match τ[i]? with
 | some (some d)=>Q d G
 | _=>False
noncomputable def dC(d:D):eZ:=fun _ _ G Q=>Q d G
noncomputable def aW:vh:=fun _ _ G Q=>Q [] G
noncomputable def ax(a:eZ)(r:vh):vh:=fun E τ G Q=>a E τ G fun x G1=>r E τ G1 fun xs G2=>Q (x :: xs) G2
noncomputable def jJ(t:vh):eZ:=fun E τ G Q=>t E τ G fun ds G1=>ds.length<=SZ/\Q (.tup ds) G1
noncomputable def gE(t:vh):eZ:=fun E τ G Q=>t E τ G fun ds G1=>ds.length<=SZ/\∀ p,G1 p=none->Q (.ref p) (bP G1 p (.lst ds))
noncomputable def a9(r:Ff)(a b:eZ):eZ:=fun E τ G Q=>a E τ G fun x G1=>b E τ G1 fun y G2=>r x y G2 Q
noncomputable def TG(r:D->Gp->DK->Prop)(a:eZ):eZ:=fun E τ G Q=>a E τ G fun x G1=>r x G1 Q
noncomputable def jK(G:Gp)(o:GO)(Q:DK):Prop:=∀ p,G p=none->Q (.ref p) (bP G p o)
noncomputable def MulOk(i j:Int):Prop:=(-(2 ^ 64) < i/\i < 2 ^ 64)\/(-(2 ^ 64) < j/\j < 2 ^ 64)
noncomputable def nI:D->Gp->Option (List D)
 | .da ds,_=>some ds
 | .ref a,G=>match G a with
  | some (.lst ds)=>some ds
  | _=>none
 | _,_=>none
noncomputable def zv(x y:D)(G:Gp)(Q:DK):Prop:=match nI x G,nI y G with
 | some xs,some ys=>xs.length+ys.length<=SZ/\jK G (.lst (xs++ys)) Q
 | _,_=>False
noncomputable def iL:Ff
 | .int i,.int j,G,Q=>Q (.int (i+j)) G
 | .str a,.str b,G,Q=>a.length+b.length<=SZ/\Q (.str (a++b)) G
 | .tup a,.tup b,G,Q=>a≠[]/\a.length+b.length<=SZ/\Q (.tup (a++b)) G
 | x,y,G,Q=>zv x y G Q
noncomputable def GA:Ff
 | .int i,.int j,G,Q=>Q (.int (i - j)) G
 | _,_,_,_=>False
noncomputable def JP:Ff
 | .int i,.int j,G,Q=>MulOk i j/\Q (.int (i * j)) G
 | _,_,_,_=>False
noncomputable def kS:Ff
 | .int i,.int j,G,Q=>0 < j/\Q (.int (i % j)) G
 | _,_,_,_=>False
noncomputable def kG:Ff
 | .int i,.int j,G,Q=>0 < j/\j < 2 ^ 30/\Q (.int (i / j)) G
 | _,_,_,_=>False
noncomputable def W3:D->Gp->DK->Prop
 | .int i,G,Q=>Q (.int (-i)) G
 | _,_,_=>False
noncomputable def Cb(neg:Bool):Ff:=fun x y G Q=>∃ a b,Sn G SN x a/\Sn G SN y b/\Q (.bl (if neg then !ip a b else ip a b)) G
noncomputable def lexLt:List Int->List Int->Bool
 | [],[]=>false
 | [],_ :: _=>true
 | _ :: _,[]=>false
 | x :: xs,y :: ys=>if x=y then lexLt xs ys else decide (x < y)
noncomputable def W5:Ff
 | .int i,.int j,G,Q=>Q (.bl (decide (i < j))) G
 | .tup a,.tup b,G,Q=>∃ xs ys,a=xs.map D.int/\b=ys.map D.int/\Q (.bl (lexLt xs ys)) G
 | _,_,_,_=>False
noncomputable def rLe:Ff
 | .int i,.int j,G,Q=>Q (.bl (decide (i<=j))) G
 | _,_,_,_=>False
noncomputable def VT:Ff
 | .int i,.int j,G,Q=>Q (.bl (decide (i > j))) G
 | _,_,_,_=>False
noncomputable def rGe:Ff
 | .int i,.int j,G,Q=>Q (.bl (decide (i>=j))) G
 | _,_,_,_=>False
noncomputable def Mh(neg:Bool):D->Gp->DK->Prop:=fun x G Q=>match x with
 | .dI=>Q (.bl (!neg)) G
 | _=>Q (.bl neg) G
noncomputable def itemsOf:D->Gp->Option (List D)
 | .tup ds,_=>some ds
 | .da ds,_=>some ds
 | .ref a,G=>match G a with
  | some (.lst ds)=>some ds
  | _=>none
 | _,_=>none
noncomputable def sP:D->Bool
 | .tup ds=>ds.all dw
 | _=>false
noncomputable def ik(a0:List (D×D))(k:D):Bool:=(dw k&&a0.all fun p=>dw p.1)||(sP k&&a0.all fun p=>sP p.1)
noncomputable def look(a0:List (D×D))(k:D):Option D:=(a0.find? fun p=>ip p.1 k).map (·.2)
noncomputable def put(a0:List (D×D))(k v:D):List (D×D) :=
 if (a0.any fun p=>ip p.1 k)=true then a0.map (fun p=>if ip p.1 k=true then (p.1,v) else p) else a0++[(k,v)]
noncomputable def Ca(neg:Bool):Ff:=fun x y G Q=>match y with
 | .ref a=>(match G a with
  | some (.jP a0)=>ik a0 x=true/\Q (.bl (if neg then !(look a0 x).isSome else (look a0 x).isSome)) G
  | some (.lst ds)=>∃ s ss,Sn G SN x s/\Sn G SN (.da ds) (.da ss)/\Q (.bl (if neg then !ss.any (ip · s) else ss.any (ip · s))) G
  | _=>False)
 | .oS a0=>a0≠[]/\ik a0 x=true/\Q (.bl (if neg then !(look a0 x).isSome else (look a0 x).isSome)) G
 | .tup ds=>∃ s ss,Sn G SN x s/\Sn G SN (.da ds) (.da ss)/\Q (.bl (if neg then !ss.any (ip · s) else ss.any (ip · s))) G
 | .da ds=>∃ s ss,Sn G SN x s/\Sn G SN (.da ds) (.da ss)/\Q (.bl (if neg then !ss.any (ip · s) else ss.any (ip · s))) G
 | _=>False
noncomputable def j7:Ff
 | .tup ds,.int i,G,Q=>(match we ds i with
  | some d=>Q d G
  | none=>False)
 | .da ds,.int i,G,Q=>(match we ds i with
  | some d=>Q d G
  | none=>False)
 | .oS a0,k,G,Q=>ik a0 k=true/\(match look a0 k with
  | some d=>Q d G
  | none=>False)
 | .ref a,k,G,Q=>(match G a with
  | some (.lst ds)=>(match k with
   | .int i=>(match we ds i with
    | some d=>Q d G
    | none=>False)
   | _=>False)
  | some (.jP a0)=>ik a0 k=true/\(match look a0 k with
   | some d=>Q d G
   | none=>False)
  | _=>False)
 | _,_,_,_=>False
noncomputable abbrev VG:=jz->g6->Gp->(Option Int->Gp->Prop)->Prop
noncomputable def hX:VG:=fun _ _ G Q=>Q none G
noncomputable def u3(t:eZ):VG:=fun E τ G Q=>t E τ G fun x G1=>match x with
 | .int i=>Q (some i) G1
 | _=>False
noncomputable def Mg:D->Option Int->Option Int->Gp->DK->Prop
 | .tup ds,lo,hi,G,Q=>¬ (iT ds.length 0 lo=0/\iT ds.length ds.length hi=ds.length)/\Q (.tup (cut ds lo hi)) G
 | .da ds,lo,hi,G,Q=>jK G (.lst (cut ds lo hi)) Q
 | .ref a,lo,hi,G,Q=>(match G a with
  | some (.lst ds)=>jK G (.lst (cut ds lo hi)) Q
  | _=>False)
 | _,_,_,_,_=>False
noncomputable def Jb(a:eZ)(lo hi:VG):eZ:=fun E τ G Q=>a E τ G fun x G1=>lo E τ G1 fun l G2=>hi E τ G2 fun h G3=>Mg x l h G3 Q
noncomputable def fQ(a:eZ):xu:=fun E τ G Q=>a E τ G fun x G1=>match Gs x G1 with
 | some b=>Q b G1
 | none=>False
noncomputable def Hw(a b:xu):xu:=fun E τ G Q=>a E τ G fun c G1=>if c=true then b E τ G1 Q else Q false G1
noncomputable def NV(a b:xu):xu:=fun E τ G Q=>a E τ G fun c G1=>if c=true then Q true G1 else b E τ G1 Q
noncomputable def rJ(a:xu):xu:=fun E τ G Q=>a E τ G fun c G1=>Q (!c) G1
noncomputable def QW(a b:eZ):eZ:=fun E τ G Q=>a E τ G fun x G1=>match Gs x G1 with
 | some true=>b E τ G1 Q
 | some false=>Q x G1
 | none=>False
noncomputable def Vz(a b:eZ):eZ:=fun E τ G Q=>a E τ G fun x G1=>match Gs x G1 with
 | some true=>Q x G1
 | some false=>b E τ G1 Q
 | none=>False
noncomputable def VA(a:eZ):eZ:=fun E τ G Q=>a E τ G fun x G1=>match Gs x G1 with
 | some c=>Q (.bl (!c)) G1
 | none=>False
noncomputable def bK(sp:gM)(t:vh):eZ:=fun E τ G Q=>t E τ G fun ds G1=>sp ds G1 Q fun _ _=>False
noncomputable def nS(r:List D->Gp->DK->Prop)(t:vh):eZ:=fun E τ G Q=>t E τ G fun ds G1=>r ds G1 Q
noncomputable def BW(x:D)(G:Gp):Prop:=match x with
 | .ref a=>(match G a with
  | some (.lst _)=>True
  | _=>False)
 | .da _=>True
 | _=>False
noncomputable def Th(x:D)(G:Gp):Prop:=match x with
 | .oS _=>True
 | .ref a=>(match G a with
  | some (.jP _)=>True
  | _=>False)
 | _=>False
noncomputable def tyS(x:D)(_:Gp):Prop:=match x with
 | .str _=>True
 | _=>False
noncomputable def zm(ty:D->Gp->Prop)(r:D->List D->Gp->DK->Prop)(o:eZ)(t:vh):eZ:=fun E τ G Q=>o E τ G fun x G1=>ty x G1/\t E τ G1 fun ds G2=>r x ds G2 Q
noncomputable def lenOf:D->Gp->Option Nat
 | .tup ds,_=>some ds.length
 | .da ds,_=>some ds.length
 | .str x,_=>if x.length<=SZ then some x.length else none
 | .oS a0,_=>if (a0.all fun p=>dw p.1)=true then some a0.length else none
 | .ref a,G=>match G a with
  | some (.lst ds)=>some ds.length
  | some (.jP a0)=>if (a0.all fun p=>dw p.1)=true then some a0.length else none
  | _=>none
 | _,_=>none
noncomputable def kD(ds:List D)(G:Gp)(Q:DK):Prop:=match ds with
 | [x]=>(match lenOf x G with
  | some n=>Q (.int (n:Int)) G
  | none=>False)
 | _=>False
noncomputable def u7(ds:List D)(G:Gp)(Q:DK):Prop:=match ds with
 | [x]=>(match itemsOf x G with
  | some xs=>jK G (.lst xs) Q
  | none=>False)
 | _=>False
noncomputable def PR(C:String):D->Gp->Option Bool
 | .dI,_=>some false
 | .bl _,_=>some (C == "bool" || C == "int")
 | .int _,_=>some (C == "int")
 | .str _,_=>some (C == "str")
 | .tup _,_=>some (C == "tuple")
 | .da _,_=>some (C == "list")
 | .oS _,_=>some (C == "dict")
 | .exc _,_=>none
 | .zM _ _ _,_=>none
 | .AQ _,_=>none
 | .ref a,G=>match G a with
  | some (.lst _)=>some (C == "list")
  | some (.jP _)=>some (C == "dict")
  | _=>none
noncomputable def P9(C:String)(a:eZ):eZ:=fun E τ G Q=>a E τ G fun x G1=>match PR C x G1 with
 | some b=>Q (.bl b) G1
 | none=>False
noncomputable def oy(x:D)(ds:List D)(G:Gp)(Q:DK):Prop:=match x,ds with
 | .ref a,[d]=>(match G a with
  | some (.lst xs)=>xs.length < SZ/\Q .dI (bP G a (.lst (xs++[d])))
  | _=>False)
 | _,_=>False
noncomputable def uG(x:D)(ds:List D)(G:Gp)(Q:DK):Prop:=match x,ds with
 | .ref a,[y]=>(match G a,nI y G with
  | some (.lst xs),some ys=>xs.length+ys.length<=SZ/\Q .dI (bP G a (.lst (xs++ys)))
  | _,_=>False)
 | _,_=>False
noncomputable def xP(x:D)(ds:List D)(G:Gp)(Q:DK):Prop:=match x,ds with
 | .ref a,[.int i,d]=>(match G a with
  | some (.lst xs)=>0<=i/\i<=xs.length/\xs.length < SZ/\Q .dI (bP G a (.lst (xs.take i.toNat++d :: xs.drop i.toNat)))
  | _=>False)
 | _,_=>False
noncomputable def vM(x:D)(ds:List D)(G:Gp)(Q:DK):Prop:=match ds with
 | [d]=>BW x G/\∃ xs s ss,itemsOf x G=some xs/\Sn G SN d s/\Sn G SN (.da xs) (.da ss)/\(match ss.findIdx? (ip · s) with
  | some k=>Q (.int (k:Int)) G
  | none=>False)
 | _=>False
noncomputable def Ed(x:D)(ds:List D)(G:Gp)(Q:DK):Prop:=match x,ds with
 | .ref a,[k,d]=>(match G a with
  | some (.jP a0)=>ik a0 k=true/\dw k=true/\(match look a0 k with
   | some v=>Q v G
   | none=>a0.length < SZ/\Q d (bP G a (.jP (put a0 k d))))
  | _=>False)
 | _,_=>False
noncomputable def cK:fh:=fun _ K τ G=>K.nx τ G
noncomputable def bR(a b:fh):fh:=fun E K τ G=>a E { K with nx:=b E K } τ G
noncomputable def fJ(a:eZ):fh:=fun E K τ G=>a E τ G fun _ G1=>K.nx τ G1
noncomputable def cb(a:eZ):fh:=fun E K τ G=>a E τ G K.rt
noncomputable def QV:fh:=fun _ K _ G=>K.rt .dI G
noncomputable def eE(c:xu)(a b:fh):fh:=fun E K τ G=>c E τ G fun k G1=>if k=true then a E K τ G1 else b E K τ G1
noncomputable def oJ:fh:=fun _ _ _ _=>False
noncomputable abbrev Bn:=jz->D->g6->Gp->(g6->Gp->Prop)->Prop
noncomputable abbrev C7:=jz->List D->g6->Gp->(g6->Gp->Prop)->Prop
noncomputable def aR(i:Nat):Bn:=fun _ d τ G Q=>Q (τ.set i (some d)) G
noncomputable def z4:C7:=fun _ ds τ G Q=>match ds with
 | []=>Q τ G
 | _=>False
noncomputable def lN(t:Bn)(r:C7):C7:=fun E ds τ G Q=>match ds with
 | d :: ds=>t E d τ G fun tQ G1=>r E ds tQ G1 Q
 | _=>False
noncomputable def CA(t:C7):Bn:=fun E d τ G Q=>match d with
 | .tup ds=>t E ds τ G Q
 | _=>False
noncomputable def DN(o k d:D)(G:Gp)(Q:Gp->Prop):Prop:=match o with
 | .ref a=>(match G a with
  | some (.lst xs)=>(match k with
   | .int i=>(match IH xs.length i with
    | some j=>Q (bP G a (.lst (xs.set j d)))
    | none=>False)
   | _=>False)
  | some (.jP a0)=>ik a0 k=true/\a0.length < SZ/\Q (bP G a (.jP (put a0 k d)))
  | _=>False)
 | _=>False
noncomputable def Et(o k:eZ):Bn:=fun E d τ G Q=>o E τ G fun x G1=>k E τ G1 fun y G2=>DN x y d G2 fun G3=>Q τ G3
noncomputable def bY(a:eZ)(g:Bn):fh:=fun E K τ G=>a E τ G fun x G1=>g E x τ G1 K.nx
noncomputable abbrev Q5:=jz->g6->Gp->(List D->(Gp->Prop)->Gp->Prop)->Prop
noncomputable def kW(a:eZ):Q5:=fun E τ G R=>a E τ G fun x G1=>match x with
 | .tup ds=>R ds (fun _=>True) G1
 | .da ds=>R ds (fun _=>True) G1
 | .ref p=>(match G1 p with
  | some (.lst ds)=>R ds (fun G2=>G2 p=some (.lst ds)) G1
  | _=>False)
 | _=>False
noncomputable def jT(lo:Int)(n:Nat):List D:=(ft n).map fun (i:Nat)=>D.int (lo+(i:Int))
noncomputable def Em(a:eZ):Q5:=fun E τ G R=>a E τ G fun x G1=>match x with
 | .int n=>-(2 ^ 62)<=n/\n < 2 ^ 62/\R (jT 0 n.toNat) (fun _=>True) G1
 | _=>False
noncomputable def sd(g:Bn)(body:fh)(ok:Gp->Prop):List D->fh
 | []=>fun _ K τ G=>ok G/\K.nx τ G
 | d :: r=>fun E K τ G=>ok G/\g E d τ G fun tQ G1=>body E { K with nx:=sd g body ok r E K,ct:=sd g body ok r E K,bk:=K.nx } tQ G1
noncomputable def i4(i:Q5)(g:Bn)(body:fh):fh:=fun E K τ G=>i E τ G fun ds ok G1=>sd g body ok ds E K τ G1
noncomputable def DE(c:xu)(body:fh):Nat->fh
 | 0=>fun _ _ _ _=>False
 | n+1=>fun E K τ G=>c E τ G fun k G1=>if k=true then body E { K with nx:=DE c body n E K,ct:=DE c body n E K,bk:=K.nx } τ G1 else K.nx τ G1
noncomputable def NT(c:xu)(body:fh):fh:=fun E K τ G=>∃ n,DE c body n E K τ G
noncomputable def jr(g:Bn)(c:Option xu)(e:eZ)(ok:Gp->Prop):List D->jz->g6->Gp->List D->(List D->Gp->Prop)->Prop
 | [],_,_,G,acc,Q=>ok G/\Q acc G
 | d :: r,E,τ,G,acc,Q=>ok G/\g E d τ G fun tQ G1=>match c with
  | none=>e E tQ G1 fun x G2=>jr g c e ok r E tQ G2 (acc++[x]) Q
  | some c=>c E tQ G1 fun k G2=>if k=true then e E tQ G2 fun x G3=>jr g (some c) e ok r E tQ G3 (acc++[x]) Q else jr g (some c) e ok r E tQ G2 acc Q
noncomputable def wb(m:Nat)(fr:List Nat)(τ:g6):g6:=br m none++fr.map fun i=>(τ[i]?).getD none
noncomputable def gX(m:Nat)(fr:List Nat)(i:Q5)(g:Bn)(c:Option xu)(e:eZ):eZ:=fun E τ G Q =>
 i E τ G fun ds ok G1=>ds.length<=SZ/\jr g c e ok ds (fun _ _=>False) (wb m fr τ) G1 [] fun xs G2=>jK G2 (.lst xs) Q
noncomputable abbrev tI(ns:List Int):D:=.tup (ns.map D.int)
noncomputable def XC:List Int->Option Int
 | []=>none
 | a :: r=>some (r.foldl (fun m x=>if x < m then x else m) a)
noncomputable def XB:List (List Int)->Option (List Int)
 | []=>none
 | a :: r=>some (r.foldl (fun m x=>if lexLt x m=true then x else m) a)
noncomputable def N9(ds:List D)(G:Gp)(Q:DK):Prop:=match ds with
 | [x]=>(∃ ns m,itemsOf x G=some (ns.map D.int)/\XC ns=some m/\Q (.int m) G)\/∃ VY m,itemsOf x G=some (VY.map tI)/\XB VY=some m/\Q (tI m) G
 | _=>False
noncomputable def N0:eZ:=fun _ _ G Q=>jK G (.jP []) Q
noncomputable def fi(G G':Gp):Prop:=∀ a o,G a=some o->G' a=some o
theorem fi.refl(G:Gp):fi G G:=fun _ _ h=>h
theorem fi.trans{G G1 G2:Gp}(a:fi G G1)(b:fi G1 G2):fi G G2:=fun c o h=>b c o (a c o h)
theorem fi.new{G:Gp}{p:Nat}{o:GO}(h:G p=none):fi G (bP G p o):=fun a ob e=>by
 by_cases ha:a=p
 ·subst ha; rw [h] at e; cases e
 ·rw [c4 ha]; exact e
theorem fi.free{G G':Gp}{p:Nat}(l:fi G G')(h:G' p=none):G p=none:=by
 cases q:G p with
 | none=>rfl
 | some o=>rw [l p o q] at h; cases h
theorem fi.put{G G':Gp}{p:Nat}{o:GO}(l:fi G G')(h:G p=none):fi G (bP G' p o):=fun a ob e=>by
 by_cases ha:a=p
 ·subst ha; rw [h] at e; cases e
 ·rw [c4 ha]; exact l a ob e
noncomputable def ends(Q:DK):jA:=⟨fun _ G=>Q .dI G,Q,fun _ _=>False,fun _ _=>False⟩
noncomputable def aX(n:Nat)(ds:List D):g6:=ds.map some++br (n - ds.length) none
noncomputable def PT(x:D)(G1:Gp)(R:List D->(Gp->Prop)->Gp->Prop):Prop:=match x with
 | .tup ds=>R ds (fun _=>True) G1
 | .da ds=>R ds (fun _=>True) G1
 | .ref p=>(match G1 p with
  | some (.lst ds)=>R ds (fun G2=>G2 p=some (.lst ds)) G1
  | _=>False)
 | _=>False
noncomputable def ME(x:D)(G1:Gp)(Q:Option Int->Gp->Prop):Prop:=match x with
 | .int i=>Q (some i) G1
 | _=>False
noncomputable def rS(x:D)(G1:Gp)(Q:Bool->Gp->Prop):Prop:=match Gs x G1 with
 | some b=>Q b G1
 | none=>False
noncomputable def Qu(x:D)(G1:Gp)(R:List D->(Gp->Prop)->Gp->Prop):Prop:=match x with
 | .int n=>-(2 ^ 62)<=n/\n < 2 ^ 62/\R (jT 0 n.toNat) (fun _=>True) G1
 | _=>False
noncomputable def isAt(C:String)(x:D)(G1:Gp)(Q:DK):Prop:=match PR C x G1 with
 | some b=>Q (.bl b) G1
 | none=>False
theorem e9{i j:Int}{G:Gp}{Q:DK}:iL (.int i) (.int j) G Q=Q (.int (i+j)) G:=rfl
theorem DZ{a b:List D}{G:Gp}{Q:DK}:iL (.tup a) (.tup b) G Q=(a≠[]/\a.length+b.length<=SZ/\Q (.tup (a++b)) G):=rfl
theorem nC{i j:Int}{G:Gp}{Q:DK}:GA (.int i) (.int j) G Q=Q (.int (i - j)) G:=rfl
theorem qc{i j:Int}{G:Gp}{Q:DK}:JP (.int i) (.int j) G Q=(MulOk i j/\Q (.int (i * j)) G):=rfl
theorem ij{i j:Int}{G:Gp}{Q:DK}:kS (.int i) (.int j) G Q=(0 < j/\Q (.int (i % j)) G):=rfl
theorem jU{i j:Int}{G:Gp}{Q:DK}:kG (.int i) (.int j) G Q=(0 < j/\j < 2 ^ 30/\Q (.int (i / j)) G):=rfl
theorem DY{i:Int}{G:Gp}{Q:DK}:W3 (.int i) G Q=Q (.int (-i)) G:=rfl
theorem B6{i j:Int}{G:Gp}{Q:DK}:W5 (.int i) (.int j) G Q=Q (.bl (decide (i < j))) G:=rfl
theorem Ii{i j:Int}{G:Gp}{Q:DK}:rLe (.int i) (.int j) G Q=Q (.bl (decide (i<=j))) G:=rfl
theorem xJ{i j:Int}{G:Gp}{Q:DK}:VT (.int i) (.int j) G Q=Q (.bl (decide (i > j))) G:=rfl
theorem Ik{i j:Int}{G:Gp}{Q:DK}:rGe (.int i) (.int j) G Q=Q (.bl (decide (i>=j))) G:=rfl
theorem Pa{ds:List D}{i:Int}{d:D}{G:Gp}{Q:DK}(h:we ds i=some d):j7 (.da ds) (.int i) G Q=Q d G:=by unfold j7; simp only [h]
theorem Pc{a:Nat}{ds:List D}{i:Int}{d:D}{G:Gp}{Q:DK}(h1:G a=some (.lst ds))(h:we ds i=some d):j7 (.ref a) (.int i) G Q=Q d G:=by unfold j7; simp only [h1,h]
theorem B4{ds:List D}{lo hi:Option Int}{G:Gp}{Q:DK}:Mg (.tup ds) lo hi G Q=(¬ (iT ds.length 0 lo=0/\iT ds.length ds.length hi=ds.length)/\Q (.tup (cut ds lo hi)) G):=rfl
theorem Ih{ds:List D}{lo hi:Option Int}{G:Gp}{Q:DK}:Mg (.da ds) lo hi G Q=jK G (.lst (cut ds lo hi)) Q:=rfl
theorem O9{a:Nat}{ds:List D}{lo hi:Option Int}{G:Gp}{Q:DK}(h:G a=some (.lst ds)):Mg (.ref a) lo hi G Q=jK G (.lst (cut ds lo hi)) Q:=by unfold Mg; simp only [h]
theorem va{ds:List D}{G:Gp}{Q:DK}:kD [.da ds] G Q=Q (.int (ds.length:Int)) G:=rfl
theorem Fb{ds:List D}{G:Gp}{Q:DK}:kD [.tup ds] G Q=Q (.int (ds.length:Int)) G:=rfl
theorem Ob{a:Nat}{ds:List D}{G:Gp}{Q:DK}(h:G a=some (.lst ds)):kD [.ref a] G Q=Q (.int (ds.length:Int)) G:=by unfold kD lenOf; simp only [h]
theorem dE{a:eZ}{E:jz}{τ:g6}{G:Gp}{R:List D->(Gp->Prop)->Gp->Prop}:kW a E τ G R=a E τ G fun x G1=>PT x G1 R:=by
 unfold kW PT; rfl
theorem xS{ds:List D}{G:Gp}{R:List D->(Gp->Prop)->Gp->Prop}:PT (.da ds) G R=R ds (fun _=>True) G:=rfl
theorem Ct{ds:List D}{G:Gp}{R:List D->(Gp->Prop)->Gp->Prop}:PT (.tup ds) G R=R ds (fun _=>True) G:=rfl
theorem PS{a:Nat}{ds:List D}{G:Gp}{R:List D->(Gp->Prop)->Gp->Prop}(h:G a=some (.lst ds)):PT (.ref a) G R=R ds (fun G2=>G2 a=some (.lst ds)) G:=by unfold PT; simp only [h]
theorem nR{t:eZ}{E:jz}{τ:g6}{G:Gp}{Q:Option Int->Gp->Prop}:u3 t E τ G Q=t E τ G fun x G1=>ME x G1 Q:=rfl
theorem lF{i:Int}{G:Gp}{Q:Option Int->Gp->Prop}:ME (.int i) G Q=Q (some i) G:=rfl
theorem cT{a:eZ}{E:jz}{τ:g6}{G:Gp}{Q:Bool->Gp->Prop}:fQ a E τ G Q=a E τ G fun x G1=>rS x G1 Q:=rfl
theorem bu{b:Bool}{G:Gp}{Q:Bool->Gp->Prop}:rS (.bl b) G Q=Q b G:=rfl
theorem JI{a:Nat}{ds:List D}{G:Gp}{Q:Bool->Gp->Prop}(h:G a=some (.lst ds)):rS (.ref a) G Q=Q (!ds.isEmpty) G:=by unfold rS Gs; simp only [h]
theorem qt{a:eZ}{E:jz}{τ:g6}{G:Gp}{R:List D->(Gp->Prop)->Gp->Prop}:Em a E τ G R=a E τ G fun x G1=>Qu x G1 R:=rfl
theorem nu{n:Int}{G:Gp}{R:List D->(Gp->Prop)->Gp->Prop}:Qu (.int n) G R=(-(2 ^ 62)<=n/\n < 2 ^ 62/\R (jT 0 n.toNat) (fun _=>True) G):=rfl
theorem xV{C:String}{a:eZ}{E:jz}{τ:g6}{G:Gp}{Q:DK}:P9 C a E τ G Q=a E τ G fun x G1=>isAt C x G1 Q:=rfl
theorem El {C:String} {i:Int} {G:Gp} {Q:DK}:isAt C (.int i) G Q=Q (.bl (C == "int")) G:=rfl
theorem Ej {C:String} {ds:List D} {G:Gp} {Q:DK}:isAt C (.tup ds) G Q=Q (.bl (C == "tuple")) G:=rfl
theorem EZ{a b:eZ}{E:jz}{τ:g6}{G:Gp}{Q:DK}:QW a b E τ G Q=a E τ G fun x G1=>rS x G1 fun k G2=>if k=true then b E τ G2 Q else Q x G2:=by
 unfold QW rS;refine congrArg (a E τ G) ?_;funext x G1;cases Gs x G1 with
 | none=>rfl
 | some k=>cases k <;> simp
theorem Jc{a b:eZ}{E:jz}{τ:g6}{G:Gp}{Q:DK}:Vz a b E τ G Q=a E τ G fun x G1=>rS x G1 fun k G2=>if k=true then Q x G2 else b E τ G2 Q:=by
 unfold Vz rS;refine congrArg (a E τ G) ?_;funext x G1;cases Gs x G1 with
 | none=>rfl
 | some k=>cases k <;> simp
theorem EW{a:eZ}{E:jz}{τ:g6}{G:Gp}{Q:DK}:VA a E τ G Q=a E τ G fun x G1=>rS x G1 fun k G2=>Q (.bl (!k)) G2:=rfl
theorem uw{a:Nat}{y:D}{G:Gp}{Q:DK}:iL (.ref a) y G Q=zv (.ref a) y G Q:=by cases y <;> rfl
theorem uv{a:List D}{y:D}{G:Gp}{Q:DK}:iL (.da a) y G Q=zv (.da a) y G Q:=by cases y <;> rfl
theorem B5{a:Nat}{lo hi:Option Int}{G:Gp}{Q:DK}:Mg (.ref a) lo hi G Q=(match G a with
  | some (.lst ds)=>jK G (.lst (cut ds lo hi)) Q
  | _=>False):=rfl
theorem Pb{a:Nat}{k:D}{G:Gp}{Q:DK}:j7 (.ref a) k G Q=(match G a with
  | some (.lst ds)=>(match k with
   | .int i=>(match we ds i with
    | some d=>Q d G
    | none=>False)
   | _=>False)
  | some (.jP a0)=>ik a0 k=true/\(match look a0 k with
   | some d=>Q d G
   | none=>False)
  | _=>False):=by unfold j7; cases k <;> rfl
theorem e8{ds:List D}{i:Int}{G:Gp}{Q:DK}:j7 (.tup ds) (.int i) G Q=(match we ds i with
  | some d=>Q d G
  | none=>False):=rfl
theorem qe{ds:List D}{i:Int}{G:Gp}{Q:DK}:j7 (.da ds) (.int i) G Q=(match we ds i with
  | some d=>Q d G
  | none=>False):=rfl
theorem Oa{a:Nat}{G:Gp}{Q:DK}:kD [.ref a] G Q=(match G a with
  | some (.lst ds)=>Q (.int (ds.length:Int)) G
  | some (.jP ds)=>(ds.all fun p=>dw p.1)=true/\Q (.int (ds.length:Int)) G
  | _=>False):=by
 unfold kD lenOf;cases h:G a with
 | none=>simp only [h]
 | some g =>
  cases g with
  | lst ds=>simp only [h]
  | ins _ _=>simp only [h]
  | Ht _=>simp only [h]
  | jP ds =>
   simp only [h];by_cases z:(ds.all fun p=>dw p.1)=true
   ·simp only [z,if_true,true_and]
   ·simp only [z,if_false,false_and,ay]
theorem Bh{a:Nat}{G:Gp}{Q:DK}:u7 [.ref a] G Q=(match G a with
  | some (.lst ds)=>jK G (.lst ds) Q
  | _=>False):=by
 unfold u7 itemsOf;cases h:G a with
 | none=>simp only [h]
 | some g=>cases g <;> simp only [h]
theorem i8{a:Nat}{d:D}{G:Gp}{Q:DK}:oy (.ref a) [d] G Q=(match G a with
  | some (.lst xs)=>xs.length < SZ/\Q .dI (bP G a (.lst (xs++[d])))
  | _=>False):=rfl
theorem ml{a:Nat}{y:D}{G:Gp}{Q:DK}:uG (.ref a) [y] G Q=(match G a,nI y G with
  | some (.lst xs),some ys=>xs.length+ys.length<=SZ/\Q .dI (bP G a (.lst (xs++ys)))
  | _,_=>False):=rfl
theorem qm{a:Nat}{i:Int}{d:D}{G:Gp}{Q:DK}:xP (.ref a) [.int i,d] G Q=(match G a with
  | some (.lst xs)=>0<=i/\i<=xs.length/\xs.length < SZ/\Q .dI (bP G a (.lst (xs.take i.toNat++d :: xs.drop i.toNat)))
  | _=>False):=rfl
theorem oX{a:Nat}{k d:D}{G:Gp}{Q:DK}:Ed (.ref a) [k,d] G Q=(match G a with
  | some (.jP a0)=>ik a0 k=true/\dw k=true/\(match look a0 k with
   | some v=>Q v G
   | none=>a0.length < SZ/\Q d (bP G a (.jP (put a0 k d))))
  | _=>False):=rfl
theorem II {C:String} {b:Bool} {G:Gp} {Q:DK}:isAt C (.bl b) G Q=Q (.bl (C == "bool" || C == "int")) G:=rfl
theorem kM{a:Nat}{G:Gp}:BW (.ref a) G=(match G a with
  | some (.lst _)=>True
  | _=>False):=rfl
theorem HU{a:Nat}{G:Gp}:Th (.ref a) G=(match G a with
  | some (.jP _)=>True
  | _=>False):=rfl
theorem HS{ds:List D}{G:Gp}:BW (.da ds) G=True:=rfl
theorem B7{a0:List (D×D)}{k:D}{G:Gp}{Q:DK}:j7 (.oS a0) k G Q=(ik a0 k=true/\(match look a0 k with
  | some d=>Q d G
  | none=>False)):=by unfold j7; cases k <;> rfl
theorem HQ{x:Str}{G:Gp}:tyS (.str x) G=True:=rfl
noncomputable def Ag(R:Nat->Bool)(G:Gp):Gp:=fun a=>if R a=true then none else G a
mutual
inductive Fz (G:Gp) (R:Nat->Bool):D->D->Prop
 | same (d:D):Fz G R d d
 | tup {ds ss:List D}:zO G R ds ss->Fz G R (.tup ds) (.tup ss)
 | da {ds ss:List D}:zO G R ds ss->Fz G R (.da ds) (.da ss)
 | ref {a:Nat} {ds ss:List D}:G a=some (.lst ds)->R a=true->zO G R ds ss->Fz G R (.ref a) (.da ss)
 | jP {a:Nat} {a0 QG:List (D×D)}:G a=some (.jP a0)->R a=true->HG G R a0 QG->Fz G R (.ref a) (.oS QG)
 | Ht {a:Nat} {a0 QG:List (PK×D)}:G a=some (.Ht a0)->R a=true->zO G R (a0.map fun p=>p.2) (QG.map fun p=>p.2)->a0.map (fun p=>p.1)=QG.map (fun p=>p.1)->Fz G R (.ref a) (.AQ QG)
inductive zO (G:Gp) (R:Nat->Bool):List D->List D->Prop
 | nil:zO G R [] []
 | cons {d s:D} {ds ss:List D}:Fz G R d s->zO G R ds ss->zO G R (d :: ds) (s :: ss)
inductive HG (G:Gp) (R:Nat->Bool):List (D×D)->List (D×D)->Prop
 | nil:HG G R [] []
 | cons {k d s:D} {ds ss:List (D×D)}:Fz G R d s->HG G R ds ss->HG G R ((k,d) :: ds) ((k,s) :: ss)
end
theorem HG.same{G:Gp}{R:Nat->Bool}:∀ (a0:List (D×D)),HG G R a0 a0
 | []=>.nil
 | (k,v) :: r=>.cons (.same v) (HG.same r)
noncomputable def Ql(G:Gp)(x:D)(Q:DK):Prop:=∃ (R:Nat->Bool) (t:D),Fz G R x t/\Q t (Ag R G)
noncomputable def dA(e:eZ):eZ:=fun E τ G Q=>e E τ G fun x G1=>Ql G1 x Q
noncomputable def NZ(i:Nat)(t:fh):fh:=fun E K τ G=>t E { K with nx:=fun tQ G1=>match tQ[i]? with
 | some (some d)=>Ql G1 d fun t G2=>K.nx (tQ.set i (some t)) G2
 | _=>False } τ G
theorem zO.same{G:Gp}{R:Nat->Bool}:∀ (ds:List D),zO G R ds ds
 | []=>.nil
 | d :: ds=>.cons (.same d) (zO.same ds)
theorem EN{G G1:Gp}(l:fi G G1):Ag (fun a=>(G a).isNone) G1=G:=by
 funext a;unfold Ag;cases h:G a with
 | none=>simp [h]
 | some o=>simp [l a o h,h]
theorem KA{G G1:Gp}{p:Nat}{o:GO}(l:fi G G1)(hp:G p=none)(h1:G1 p=some o):Ag (fun a=>(G a).isNone&&decide (a≠p)) G1=bP G p o:=by
 funext a;unfold Ag bP;by_cases ha:a=p
 ·subst ha; simp [h1]
 ·cases h:G a with
  | none=>simp [ha,h]
  | some o=>simp [l a o h,ha,h]
theorem eB{G:Gp}{d:D}{Q:DK}(q:Q d G):Ql G d Q:=⟨fun _=>false,d,.same d,by
 have e:Ag (fun _=>false) G=G:=by funext a; simp [Ag]
 rw [e]; exact q⟩
theorem Hi{G G1:Gp}{p:Nat}{o:GO}{Q:DK}(l:fi G G1)(hp:G p=none)(h1:G1 p=some o)(q:Q (.ref p) (bP G p o)):Ql G1 (.ref p) Q :=
 ⟨_,.ref p,.same _,by rw [KA l hp h1]; exact q⟩
theorem sR{G G1:Gp}{p:Nat}{ds ss:List D}{Q:DK}(l:fi G G1)(hp:G p=none)(h1:G1 p=some (.lst ds))(hs:zO G1 (fun a=>(G a).isNone) ds ss)(q:Q (.da ss) G):Ql G1 (.ref p) Q :=
 ⟨_,.da ss,.ref h1 (by simp [hp]) hs,by rw [EN l]; exact q⟩
theorem Nx{G G1:Gp}{p:Nat}{a0:List (D×D)}{Q:DK}(l:fi G G1)(hp:G p=none)(h1:G1 p=some (.jP a0))(q:Q (.oS a0) G):Ql G1 (.ref p) Q :=
 ⟨fun a=>(G a).isNone,.oS a0,.jP h1 (by simp [hp]) (.same _),by rw [EN l]; exact q⟩
noncomputable def AN:gM:=fun ds G Q _=>∃ ns:List Int,ds=[.da (ns.map D.int)]/\ns.length<=63/\(∀ a,G a=none)/\∀ G',Q (.bl true) G'
theorem kz{a b:fh}{E:jz}{K:jA}{τ:g6}{G:Gp}(P:g6->Gp->Prop)(h1:∀ N,(∀ τ G,P τ G->N τ G)->a E { K with nx:=N } τ G)(h2:∀ τ G,P τ G->b E K τ G):bR a b E K τ G:=h1 (b E K) h2
theorem cq{a b:fh}{E:jz}{K:jA}{τ:g6}{G:Gp}:bR a b E K τ G=a E { K with nx:=b E K } τ G:=rfl
theorem eU{a:eZ}{g:Bn}{b:fh}{E:jz}{K:jA}{τ:g6}{G:Gp}:bR (bY a g) b E K τ G=bY a g E { K with nx:=b E K } τ G:=rfl
theorem nj{a:eZ}{b:fh}{E:jz}{K:jA}{τ:g6}{G:Gp}:bR (fJ a) b E K τ G=fJ a E { K with nx:=b E K } τ G:=rfl
theorem Sn.tI{G:Gp}{n:Nat}:∀ (ns:List Int),Sn G (n+1) (.tup (ns.map D.int)) (.tup (ns.map D.int))
 | []=>.BX
 | i :: ns=>.l8 (.int i) (Sn.tI ns)
theorem kZ(a b:D)(r t:List D):i3 (a :: r) (b :: t)=(ip a b&&i3 r t):=rfl
theorem iG(a b:Int):ip (.int a) (.int b)=(a == b):=rfl
theorem Hs(a b:List D):ip (.tup a) (.tup b)=i3 a b:=rfl
theorem zh{α:Type} [DecidableEq α](a b:α)(as bs:List α):(decide (a=b)&&decide (as=bs))=decide (a :: as=b :: bs):=by
 by_cases h:a=b <;> by_cases h2:as=bs <;> simp [h,h2]
theorem Bb:∀ (a b:List Int),i3 (a.map D.int) (b.map D.int)=decide (a=b)
 | [],[]=>(decide_eq_true rfl).symm
 | [],b :: bs=>(decide_eq_false (fun z=>nomatch z)).symm
 | a :: as,[]=>(decide_eq_false (fun z=>nomatch z)).symm
 | a :: as,b :: bs=>by
  show (decide (a=b)&&i3 (as.map D.int) (bs.map D.int))=_;rw [Bb as bs,zh]
theorem SY(a b:List Int):ip (tI a) (tI b)=decide (a=b):=by
 show i3 _ _=_;exact Bb a b
set_option genInjectivity true in structure T2 where
 a:Int
 b:Int
 deriving DecidableEq
set_option genInjectivity true in structure T3 where
 a:Int
 b:Int
 c:Int
 deriving DecidableEq
class Enc (α:Type) [DecidableEq α] where
 enc:α->D
 dep:Nat
 eqv:∀ a b,ip (enc a) (enc b)=decide (a=b)
 sn:∀ (G:Gp) (n:Nat) (a:α),dep<=n->Sn G n (enc a) (enc a)
open Enc (enc)
noncomputable instance:Enc Int where
 enc:=D.int
 dep:=0
 eqv:=fun a b=>rfl
 sn:=fun G n a _=>.int a
noncomputable instance:Enc Bool where
 enc:=D.bl
 dep:=0
 eqv:=fun a b=>Ow a b
 sn:=fun G n a _=>.bl a
noncomputable instance:Enc T2 where
 enc:=fun t=>.tup [.int t.a,.int t.b]
 dep:=1
 eqv:=fun x y=>by
  cases x; cases y;rw [Hs,kZ,kZ,iG,iG]; simp only [T2.mk.injEq]; rename_i a b c d; by_cases h:a=c <;> by_cases h2:b=d <;> simp [h,h2,show i3 [] []=true from rfl]
 sn:=fun G n t h=>by
  obtain⟨m,rfl⟩:∃ m,n=m+1:=⟨n - 1,by lia⟩;exact .l8 (.int _) (.l8 (.int _) .BX)
noncomputable instance:Enc T3 where
 enc:=fun t=>.tup [.int t.a,.int t.b,.int t.c]
 dep:=1
 eqv:=fun x y=>by
  cases x; cases y;rw [Hs,kZ,kZ,kZ,iG,iG,iG]; simp only [T3.mk.injEq]; rename_i a b e c d f; by_cases h:a=c <;> by_cases h2:b=d <;> by_cases h3:e=f <;> simp [h,h2,h3,show i3 [] []=true from rfl]
 sn:=fun G n t h=>by
  obtain⟨m,rfl⟩:∃ m,n=m+1:=⟨n - 1,by lia⟩;exact .l8 (.int _) (.l8 (.int _) (.l8 (.int _) .BX))
noncomputable instance {α β:Type} [DecidableEq α] [DecidableEq β] [Enc α] [Enc β]:Enc (α×β) where
 enc:=fun t=>.tup [enc t.1,enc t.2]
 dep:=max (Enc.dep α) (Enc.dep β)+1
 eqv:=fun x y=>by
  cases x; cases y;rw [Hs,kZ,kZ,Enc.eqv,Enc.eqv]; simp only [FU]; rename_i a b c d; by_cases h:a=c <;> by_cases h2:b=d <;> simp [h,h2,show i3 [] []=true from rfl]
 sn:=fun G n t h=>by
  obtain⟨m,rfl⟩:∃ m,n=m+1:=⟨n - 1,by lia⟩;exact .l8 (Enc.sn _ _ _ (by lia)) (.l8 (Enc.sn _ _ _ (by lia)) .BX)
theorem EK{α:Type} [DecidableEq α] [Enc α]:∀ (a b:List α),i3 (a.map enc) (b.map enc)=decide (a=b)
 | [],[]=>(decide_eq_true rfl).symm
 | [],b :: bs=>(decide_eq_false (fun z=>nomatch z)).symm
 | a :: as,[]=>(decide_eq_false (fun z=>nomatch z)).symm
 | a :: as,b :: bs=>by
  show (ip (enc a) (enc b)&&i3 (as.map enc) (bs.map enc))=_;rw [Enc.eqv,EK as bs,zh]
theorem pQ{α:Type} [DecidableEq α] [Enc α](G:Gp)(n:Nat)(h:Enc.dep α<=n):∀ (xs:List α),Sn G (n+1) (.da (xs.map enc)) (.da (xs.map enc))
 | []=>.DR
 | a :: as=>.wH (Enc.sn _ _ _ h) (pQ G n h as)
noncomputable instance {α:Type} [DecidableEq α] [Enc α]:Enc (List α) where
 enc:=fun xs=>.da (xs.map enc)
 dep:=Enc.dep α+1
 eqv:=fun a b=>by
  show i3 _ _=_;exact EK a b
 sn:=fun G n t h=>by
  obtain⟨m,rfl⟩:∃ m,n=m+1:=⟨n - 1,by lia⟩;exact pQ G m (by lia) t
section
variable {α:Type} [DecidableEq α] [Enc α]
theorem Jl(L:List α)(t:α):(L.map enc).any (ip · (enc t))=decide (t∈L):=by
 induction L with
 | nil=>simp
 | cons a r ih =>
  simp only [aj,mY,Enc.eqv,ih,mX];by_cases h:a=t
  ·simp [h]
  ·have h':¬ t=a:=fun z=>h z.symm;by_cases h2:t∈r <;> simp [h,h',h2]
theorem ED(L:List α){m:α}(h:m∈L):(L.map enc).findIdx? (ip · (enc m))=some (L.idxOf m):=by
 induction L with
 | nil=>cases h
 | cons a r ih =>
  rw [aj,List.findIdx?_cons,Enc.eqv,List.idxOf_cons];by_cases e:a=m
  ·simp [e]
  ·have hm:m∈r:=by rcases List.mem_cons.mp h with z | z; exact absurd z.symm e; exact z
   rw [ih hm];have z:(a == m)=false:=by simpa using e
   simp [e,z]
end
section
variable {κ α:Type} [DecidableEq κ] [Enc κ] [DecidableEq α] [Enc α]
noncomputable def cY(l:List (κ×α)):List (D×D):=l.map fun p=>(enc p.1,enc p.2)
noncomputable def jy(l:List (κ×α))(k:κ):Option α:=(l.find? fun p=>p.1=k).map (·.2)
noncomputable def zt(l:List (κ×α))(k:κ)(v:α):List (κ×α):=if (l.any fun p=>p.1=k)=true then l.map (fun p=>if p.1=k then (p.1,v) else p) else l++[(k,v)]
theorem yK(l:List (κ×α))(k:κ):look (cY l) (enc k)=(jy l k).map enc:=by
 unfold look jy cY;induction l with
 | nil=>rfl
 | cons p r ih =>
  rw [aj,eT,eT];simp only [Enc.eqv];by_cases h:p.1=k
  ·simp [h]
  ·simp only [h,decide_false]; exact ih
theorem Pf(l:List (κ×α))(k:κ)(v:α):put (cY l) (enc k) (enc v)=cY (zt l k v):=by
 unfold put zt;have e:((cY l).any fun p=>ip p.1 (enc k))=l.any fun p=>decide (p.1=k):=by
  unfold cY; rw [List.any_map]; congr 1; funext p; exact Enc.eqv _ _
 rw [e];split
 ·unfold cY; rw [pA,pA];refine List.map_congr_left fun p _=>?_;simp only [Function.comp,Enc.eqv,decide_eq_true_eq];split <;> rfl
 ·unfold cY; rw [aP]; rfl
theorem Oh(l:List (κ×α))(k:κ)(v:α):(zt l k v).length<=l.length+1:=by
 unfold zt; split <;> simp
end
class tD (κ:Type) [DecidableEq κ] [Enc κ] where
 ok:(∀ k:κ,dw (enc k)=true)\/∀ k:κ,sP (enc k)=true
noncomputable instance:tD Int:=⟨.inl fun _=>rfl⟩
noncomputable instance:tD T2:=⟨.inr fun _=>rfl⟩
noncomputable instance:tD T3:=⟨.inr fun _=>rfl⟩
theorem sO{κ α:Type} [DecidableEq κ] [Enc κ] [tD κ] [DecidableEq α] [Enc α](l:List (κ×α))(k:κ):ik (cY l) (enc k)=true:=by
 unfold ik cY;rcases tD.ok (κ:=κ) with h | h
 ·rw [nZ]; left;rw [h k,K7,Bw,Dt];intro p _; exact h p.1
 ·rw [nZ]; right;rw [h k,K7,Bw,Dt];intro p _; exact h p.1
end K2
end
section
namespace K2
open PySem (Str)
open Enc (enc)
mutual
noncomputable def yJ:D->D->Bool
 | .int a,.int b=>decide (a < b)
 | .tup a,.tup b=>mL a b
 | .da a,.da b=>mL a b
 | _,_=>false
noncomputable def mL:List D->List D->Bool
 | [],[]=>false
 | [],_ :: _=>true
 | _ :: _,[]=>false
 | x :: xs,y :: ys=>if ip x y=true then mL xs ys else yJ x y
end
theorem qo(x y:D)(xs ys:List D):mL (x :: xs) (y :: ys)=if ip x y=true then mL xs ys else yJ x y:=rfl
theorem MT(a b:Int):yJ (.int a) (.int b)=decide (a < b):=rfl
inductive si where
 | int | tup (l:List si) | lst (s:si)
mutual
noncomputable def eA:si->D->Bool
 | .int,.int _=>true
 | .tup l,.tup ds=>gV l ds
 | .lst s,.da ds=>gh s ds
 | _,_=>false
noncomputable def gV:List si->List D->Bool
 | [],[]=>true
 | s :: l,d :: ds=>eA s d&&gV l ds
 | _,_=>false
noncomputable def gh:si->List D->Bool
 | _,[]=>true
 | s,d :: ds=>eA s d&&gh s ds
end
theorem dU{a:D}(h:eA .int a=true):∃ i,a=.int i:=by cases a <;> first | exact⟨_,rfl⟩ | exact bh (show false=true from h)
theorem dQ{l:List si}{a:D}(h:eA (.tup l) a=true):∃ x,a=.tup x:=by cases a <;> first | exact⟨_,rfl⟩ | exact bh (show false=true from h)
theorem dS{l:si}{a:D}(h:eA (.lst l) a=true):∃ x,a=.da x:=by cases a <;> first | exact⟨_,rfl⟩ | exact bh (show false=true from h)
mutual
noncomputable def TF:si->Nat
 | .int=>0
 | .tup l=>NM l+1
 | .lst s=>TF s+1
noncomputable def NM:List si->Nat
 | []=>0
 | s :: l=>max (TF s) (NM l)
end
class bJ (α:Type) [DecidableEq α] [Enc α] where
 lt:α->α->Bool
 Qr:si
 Kt:∀ a:α,eA Qr (enc a)=true
 Tr:∀ a b:α,yJ (enc a) (enc b)=lt a b
 OB:∀ a,lt a a=false
 trans:∀ a b c,lt a b=true->lt b c=true->lt a c=true
 OY:∀ a b,lt a b=false->lt b a=false->a=b
noncomputable instance:bJ Int where
 lt:=fun a b=>decide (a < b)
 Qr:=.int
 Kt:=fun _=>rfl
 Tr:=fun a b=>rfl
 OB:=fun a=>by simp
 trans:=fun a b c h1 h2=>by simp at *; lia
 OY:=fun a b h1 h2=>by simp at *; lia
noncomputable def uK{α:Type} [DecidableEq α](lt:α->α->Bool):List α->List α->Bool
 | [],[]=>false
 | [],_ :: _=>true
 | _ :: _,[]=>false
 | x :: xs,y :: ys=>if x=y then uK lt xs ys else lt x y
theorem yO{α:Type} [DecidableEq α](lt:α->α->Bool)(x y:α)(xs ys:List α):uK lt (x :: xs) (y :: ys)=if x=y then uK lt xs ys else lt x y:=rfl
section
variable {α:Type} [DecidableEq α] {lt:α->α->Bool}
theorem uJ:∀ x:List α,uK lt x x=false
 | []=>rfl
 | a :: x=>by simp only [yO,if_true]; exact uJ x
theorem uI(t:∀ a b,lt a b=false->lt b a=false->a=b):∀ (x y:List α),uK lt x y=false->uK lt y x=false->x=y
 | [],[],_,_=>rfl
 | [],_ :: _,h,_=>by cases h
 | _ :: _,[],_,h=>by cases h
 | a :: x,b :: y,h1,h2=>by
  simp only [yO] at h1 h2;by_cases e:a=b
  ·subst e;simp only [if_true] at h1 h2;rw [uI t x y h1 h2]
  ·rw [if_neg e] at h1;rw [if_neg (jD e)] at h2;exact absurd (t a b h1 h2) e
theorem oA(ir:∀ a,lt a a=false)(tr:∀ a b c,lt a b=true->lt b c=true->lt a c=true):∀ (x y z:List α),uK lt x y=true->uK lt y z=true->uK lt x z=true
 | [],[],_,h,_=>by cases h
 | [],_ :: _,[],_,h=>by cases h
 | [],_ :: _,_ :: _,_,_=>rfl
 | _ :: _,[],_,h,_=>by cases h
 | _ :: _,_ :: _,[],_,h=>by cases h
 | a :: x,b :: y,c :: z,h1,h2=>by
  simp only [yO] at h1 h2 ⊢;by_cases e1:a=b
  ·subst e1;simp only [if_true] at h1;by_cases e2:a=c
   ·subst e2;simp only [if_true] at h2 ⊢;exact oA ir tr x y z h1 h2
   ·rw [if_neg e2] at h2 ⊢; exact h2
  ·rw [if_neg e1] at h1;by_cases e2:b=c
   ·subst e2;rw [if_neg e1]; exact h1
   ·rw [if_neg e2] at h2;have h3:=tr _ _ _ h1 h2;rw [if_neg (by rintro rfl; rw [ir] at h3; cases h3)]; exact h3
end
theorem uH{α:Type} [DecidableEq α] [Enc α] [bJ α]:∀ (x y:List α),mL (x.map enc) (y.map enc)=uK (bJ.lt (α:=α)) x y
 | [],[]=>rfl
 | [],_ :: _=>rfl
 | _ :: _,[]=>rfl
 | a :: x,b :: y=>by simp only [aj,qo,yO,Enc.eqv,uH x y,bJ.Tr,decide_eq_true_eq]
theorem A7{α:Type} [DecidableEq α] [Enc α] [bJ α]:∀ (x:List α),gh (bJ.Qr α) (x.map enc)=true
 | []=>rfl
 | a :: x=>by simp only [aj,gh,bJ.Kt,A7 x,Bool.and_self]
noncomputable instance {α:Type} [DecidableEq α] [Enc α] [bJ α]:bJ (List α) where
 lt:=uK bJ.lt
 Qr:=.lst (bJ.Qr α)
 Kt:=fun a=>A7 a
 Tr:=fun a b=>uH a b
 OB:=uJ
 trans:=oA bJ.OB bJ.trans
 OY:=uI bJ.OY
noncomputable def T2.l(t:T2):List Int:=[t.a,t.b]
noncomputable def T3.l(t:T3):List Int:=[t.a,t.b,t.c]
noncomputable instance:bJ T2 where
 lt:=fun x y=>uK (fun a b=>decide (a < b)) x.l y.l
 Qr:=.tup [.int,.int]
 Kt:=fun _=>rfl
 Tr:=fun a b=>uH a.l b.l
 OB:=fun a=>uJ _
 trans:=fun a b c=>oA (α:=Int) bJ.OB bJ.trans _ _ _
 OY:=fun ⟨a,b⟩ ⟨c,d⟩ h1 h2=>by
  have:=uI (α:=Int) bJ.OY _ _ h1 h2;simpa [T2.l] using this
noncomputable instance:bJ T3 where
 lt:=fun x y=>uK (fun a b=>decide (a < b)) x.l y.l
 Qr:=.tup [.int,.int,.int]
 Kt:=fun _=>rfl
 Tr:=fun a b=>uH a.l b.l
 OB:=fun a=>uJ _
 trans:=fun a b c=>oA (α:=Int) bJ.OB bJ.trans _ _ _
 OY:=fun ⟨a,b,e⟩ ⟨c,d,f⟩ h1 h2=>by
  have:=uI (α:=Int) bJ.OY _ _ h1 h2;simpa [T3.l] using this
section
variable {α:Type} [DecidableEq α] [Enc α] [bJ α]
noncomputable def xQ(a b:α):Bool:=!bJ.lt b a
noncomputable def HY(xs:List α):List α:=xs.mergeSort xQ
theorem vP(a b c:α)(h1:xQ a b=true)(h2:xQ b c=true):xQ a c=true:=by
 unfold xQ at *;simp only [Bool.not_eq_true'] at *;cases h:bJ.lt c a with
 | false=>rfl
 | true =>
  by_cases e:a=b
  ·subst e; rw [h] at h2; cases h2
  ·have Vk:bJ.lt a b=true:=by
    cases q:bJ.lt a b with
    | true=>rfl
    | false=>exact absurd (bJ.OY _ _ q h1) e
   rw [bJ.trans _ _ _ h Vk] at h2; cases h2
theorem Kg(a b:α):(xQ a b||xQ b a)=true:=by
 unfold xQ;cases h:bJ.lt b a with
 | false=>rfl
 | true =>
  cases h2:bJ.lt a b with
  | false=>rfl
  | true=>have:=bJ.trans _ _ _ h h2; rw [bJ.OB] at this; cases this
theorem Ei(a b:α)(h1:xQ a b=true)(h2:xQ b a=true):a=b:=by
 unfold xQ at *;exact bJ.OY a b (by simpa using h2) (by simpa using h1)
theorem jg(xs:List α):(HY xs).Perm xs:=List.mergeSort_perm xs xQ
theorem n6(xs:List α):(HY xs).Pairwise fun a b=>xQ a b=true:=List.pairwise_mergeSort vP Kg xs
theorem mH:∀ {xs ys:List α},xs.Perm ys->xs.Pairwise (fun a b=>xQ a b=true)->ys.Pairwise (fun a b=>xQ a b=true)->xs=ys:=by
 intro xs ys hp h1 h2;exact List.Perm.eq_of_pairwise (fun a b _ _ h h'=>Ei a b h h') h1 h2 hp
theorem Rz{xs ys:List α}(h:xs.Perm ys):HY xs=HY ys:=mH (((jg xs).trans h).trans (jg ys).symm) (n6 xs) (n6 ys)
theorem Ry{xs ys:List α}(h:xs.Perm ys)(hs:ys.Pairwise fun a b=>xQ a b=true):HY xs=ys:=mH ((jg xs).trans h) (n6 xs) hs
theorem O3{xs:List α}{x:α}:x∈HY xs↔x∈xs:=(jg xs).mem_iff
theorem xF(xs:List α):(HY xs).length=xs.length:=(jg xs).length_eq
theorem JL{xs:List α}(h:xs.Nodup):(HY xs).Nodup:=(jg xs).nodup_iff.mpr h
end
end K2
end
section
namespace K2
open PySem (Str)
mutual
theorem j0:∀ (sh:si) (a:D),eA sh a=true->ip a a=true
 | .int,.int i,_=>by show (i == i)=true; exact beq_self_eq_true i
 | .tup l,.tup xs,h=>by show i3 xs xs=true; exact wU l xs h
 | .lst l,.da xs,h=>by show i3 xs xs=true; exact wV l xs h
theorem wU:∀ (l:List si) (xs:List D),gV l xs=true->i3 xs xs=true
 | [],[],_=>rfl
 | s :: l,x :: xs,h=>by
  have h:(eA s x&&gV l xs)=true:=h;rw [aS] at h;show (ip x x&&i3 xs xs)=true;rw [j0 s x h.1,wU l xs h.2]; rfl
theorem wV:∀ (s:si) (xs:List D),gh s xs=true->i3 xs xs=true
 | _,[],_=>rfl
 | s,x :: xs,h=>by
  have h:(eA s x&&gh s xs)=true:=h;rw [aS] at h;show (ip x x&&i3 xs xs)=true;rw [j0 s x h.1,wV s xs h.2]; rfl
end
theorem SX(s:si)(ih:∀ (a b:D),eA s a=true->eA s b=true->ip a b=true->a=b):∀ (xs ys:List D),gh s xs=true->gh s ys=true->i3 xs ys=true->xs=ys:=by
 intro xs;induction xs with
 | nil=>intro ys _ _ h; cases ys with
  | nil=>rfl
  | cons _ _=>cases h
 | cons x xs UU =>
  intro ys h1 h2 h;cases ys with
  | nil=>cases h
  | cons y ys =>
   have h1:(eA s x&&gh s xs)=true:=h1;have h2:(eA s y&&gh s ys)=true:=h2;have h:(ip x y&&i3 xs ys)=true:=h;rw [aS] at h1 h2 h;rw [ih x y h1.1 h2.1 h.1,UU ys h1.2 h2.2 h.2]
mutual
theorem oZ:∀ (sh:si) (a b:D),eA sh a=true->eA sh b=true->ip a b=true->a=b
 | .int,a,b,h1,h2,h=>by
  first | obtain⟨_,rfl⟩:=dU h1 | obtain⟨_,rfl⟩:=dQ h1 | obtain⟨_,rfl⟩:=dS h1
  first | obtain⟨_,rfl⟩:=dU h2 | obtain⟨_,rfl⟩:=dQ h2 | obtain⟨_,rfl⟩:=dS h2
  rw [iG] at h; rw [beq_iff_eq.mp h]
 | .tup l,a,b,h1,h2,h=>by
  first | obtain⟨_,rfl⟩:=dU h1 | obtain⟨_,rfl⟩:=dQ h1 | obtain⟨_,rfl⟩:=dS h1
  first | obtain⟨_,rfl⟩:=dU h2 | obtain⟨_,rfl⟩:=dQ h2 | obtain⟨_,rfl⟩:=dS h2
  rw [NI l _ _ h1 h2 h]
 | .lst l,a,b,h1,h2,h=>by
  first | obtain⟨_,rfl⟩:=dU h1 | obtain⟨_,rfl⟩:=dQ h1 | obtain⟨_,rfl⟩:=dS h1
  first | obtain⟨_,rfl⟩:=dU h2 | obtain⟨_,rfl⟩:=dQ h2 | obtain⟨_,rfl⟩:=dS h2
  rw [SX l (oZ l) _ _ h1 h2 h]
theorem NI:∀ (l:List si) (xs ys:List D),gV l xs=true->gV l ys=true->i3 xs ys=true->xs=ys
 | [],xs,ys,h1,h2,_=>by
  cases xs with
  | nil=>cases ys with
   | nil=>rfl
   | cons _ _=>cases h2
  | cons _ _=>cases h1
 | s :: l,xs,ys,h1,h2,h=>by
  cases xs with
  | nil=>cases h1
  | cons x xs =>
   cases ys with
   | nil=>cases h2
   | cons y ys =>
    have h1:(eA s x&&gV l xs)=true:=h1;have h2:(eA s y&&gV l ys)=true:=h2;have h:(ip x y&&i3 xs ys)=true:=h;rw [aS] at h1 h2 h;rw [oZ s x y h1.1 h2.1 h.1,NI l xs ys h1.2 h2.2 h.2]
end
theorem MS(s:si)(ih:∀ (a b:D),eA s a=true->eA s b=true->yJ a b=false->yJ b a=false->a=b):∀ (xs ys:List D),gh s xs=true->gh s ys=true->mL xs ys=false->mL ys xs=false->xs=ys:=by
 intro xs;induction xs with
 | nil=>intro ys _ _ h _; cases ys with
  | nil=>rfl
  | cons _ _=>cases h
 | cons x xs UU =>
  intro ys h1 h2 h3 h4;cases ys with
  | nil=>cases h4
  | cons y ys =>
   have h1:(eA s x&&gh s xs)=true:=h1;have h2:(eA s y&&gh s ys)=true:=h2;rw [aS] at h1 h2;simp only [qo] at h3 h4;by_cases e:ip x y=true
   ·have YT:=oZ s x y h1.1 h2.1 e;subst YT;rw [if_pos e] at h3 h4;rw [UU ys h1.2 h2.2 h3 h4]
   ·rw [if_neg e] at h3;by_cases e2:ip y x=true
    ·have:=oZ s y x h2.1 h1.1 e2;subst this; exact absurd e2 e
    ·rw [if_neg e2] at h4;have:=ih x y h1.1 h2.1 h3 h4;subst this;exact absurd (j0 s x h1.1) e
mutual
theorem Iz:∀ (sh:si) (a b:D),eA sh a=true->eA sh b=true->yJ a b=false->yJ b a=false->a=b
 | .int,a,b,h1,h2,h3,h4=>by
  first | obtain⟨_,rfl⟩:=dU h1 | obtain⟨_,rfl⟩:=dQ h1 | obtain⟨_,rfl⟩:=dS h1
  first | obtain⟨_,rfl⟩:=dU h2 | obtain⟨_,rfl⟩:=dQ h2 | obtain⟨_,rfl⟩:=dS h2
  simp [MT] at h3 h4; congr 1; lia
 | .tup l,a,b,h1,h2,h3,h4=>by
  first | obtain⟨_,rfl⟩:=dU h1 | obtain⟨_,rfl⟩:=dQ h1 | obtain⟨_,rfl⟩:=dS h1
  first | obtain⟨_,rfl⟩:=dU h2 | obtain⟨_,rfl⟩:=dQ h2 | obtain⟨_,rfl⟩:=dS h2
  rw [Ee l _ _ h1 h2 h3 h4]
 | .lst l,a,b,h1,h2,h3,h4=>by
  first | obtain⟨_,rfl⟩:=dU h1 | obtain⟨_,rfl⟩:=dQ h1 | obtain⟨_,rfl⟩:=dS h1
  first | obtain⟨_,rfl⟩:=dU h2 | obtain⟨_,rfl⟩:=dQ h2 | obtain⟨_,rfl⟩:=dS h2
  rw [MS l (Iz l) _ _ h1 h2 h3 h4]
theorem Ee:∀ (l:List si) (xs ys:List D),gV l xs=true->gV l ys=true->mL xs ys=false->mL ys xs=false->xs=ys
 | [],xs,ys,h1,h2,_,_=>by
  cases xs with
  | nil=>cases ys with
   | nil=>rfl
   | cons _ _=>cases h2
  | cons _ _=>cases h1
 | s :: l,xs,ys,h1,h2,h3,h4=>by
  cases xs with
  | nil=>cases h1
  | cons x xs =>
   cases ys with
   | nil=>cases h2
   | cons y ys =>
    have h1:(eA s x&&gV l xs)=true:=h1;have h2:(eA s y&&gV l ys)=true:=h2;rw [aS] at h1 h2;simp only [qo] at h3 h4;by_cases e:ip x y=true
    ·have YT:=oZ s x y h1.1 h2.1 e;subst YT;rw [if_pos e] at h3 h4;rw [Ee l xs ys h1.2 h2.2 h3 h4]
    ·rw [if_neg e] at h3;by_cases e2:ip y x=true
     ·have:=oZ s y x h2.1 h1.1 e2;subst this; exact absurd e2 e
     ·rw [if_neg e2] at h4;have:=Iz s x y h1.1 h2.1 h3 h4;subst this;exact absurd (j0 s x h1.1) e
end
mutual
theorem IA:∀ (sh:si) (a:D),eA sh a=true->yJ a a=false
 | .int,.int i,_=>by rw [MT]; exact decide_eq_false (Int.lt_irrefl _)
 | .tup l,.tup xs,h=>by show mL xs xs=false; exact Ef l xs h
 | .lst l,.da xs,h=>by show mL xs xs=false; exact Eg l xs h
theorem Ef:∀ (l:List si) (xs:List D),gV l xs=true->mL xs xs=false
 | [],[],_=>rfl
 | s :: l,x :: xs,h=>by
  have h:(eA s x&&gV l xs)=true:=h;rw [aS] at h;simp only [qo,j0 s x h.1,if_true]; exact Ef l xs h.2
theorem Eg:∀ (s:si) (xs:List D),gh s xs=true->mL xs xs=false
 | _,[],_=>rfl
 | s,x :: xs,h=>by
  have h:(eA s x&&gh s xs)=true:=h;rw [aS] at h;simp only [qo,j0 s x h.1,if_true]; exact Eg s xs h.2
end
theorem GU(s:si)(ih:∀ (a b c:D),eA s a=true->eA s b=true->eA s c=true->yJ a b=true->yJ b c=true->yJ a c=true):∀ (xs ys zs:List D),gh s xs=true->gh s ys=true->gh s zs=true->mL xs ys=true->mL ys zs=true->mL xs zs=true:=by
 intro xs;induction xs with
 | nil =>
  intro ys zs _ _ _ h4 h5;cases ys with
  | nil=>cases h4
  | cons _ _=>cases zs with
   | nil=>cases h5
   | cons _ _=>rfl
 | cons x xs UU =>
  intro ys zs h1 h2 h3 h4 h5;cases ys with
  | nil=>cases h4
  | cons y ys =>
   cases zs with
   | nil=>cases h5
   | cons z zs =>
    have h1:(eA s x&&gh s xs)=true:=h1;have h2:(eA s y&&gh s ys)=true:=h2;have h3:(eA s z&&gh s zs)=true:=h3;rw [aS] at h1 h2 h3;simp only [qo] at h4 h5 ⊢;by_cases e1:ip x y=true
    ·have:=oZ s x y h1.1 h2.1 e1;subst this;rw [if_pos e1] at h4;by_cases e2:ip x z=true
     ·rw [if_pos e2] at h5 ⊢;exact UU ys zs h1.2 h2.2 h3.2 h4 h5
     ·rw [if_neg e2] at h5 ⊢; exact h5
    ·rw [if_neg e1] at h4;by_cases e2:ip y z=true
     ·have:=oZ s y z h2.1 h3.1 e2;subst this;rw [if_neg e1]; exact h4
     ·rw [if_neg e2] at h5;have h6:=ih x y z h1.1 h2.1 h3.1 h4 h5;rw [if_neg (fun e3=>by
       have:=oZ s x z h1.1 h3.1 e3;subst this;rw [IA s x h1.1] at h6; cases h6)]
      exact h6
mutual
theorem AZ:∀ (sh:si) (a b c:D),eA sh a=true->eA sh b=true->eA sh c=true->yJ a b=true->yJ b c=true->yJ a c=true
 | .int,a,b,c,h1,h2,h3,h4,h5=>by
  first | obtain⟨_,rfl⟩:=dU h1 | obtain⟨_,rfl⟩:=dQ h1 | obtain⟨_,rfl⟩:=dS h1
  first | obtain⟨_,rfl⟩:=dU h2 | obtain⟨_,rfl⟩:=dQ h2 | obtain⟨_,rfl⟩:=dS h2
  first | obtain⟨_,rfl⟩:=dU h3 | obtain⟨_,rfl⟩:=dQ h3 | obtain⟨_,rfl⟩:=dS h3
  simp [MT] at *; lia
 | .tup l,a,b,c,h1,h2,h3,h4,h5=>by
  first | obtain⟨_,rfl⟩:=dU h1 | obtain⟨_,rfl⟩:=dQ h1 | obtain⟨_,rfl⟩:=dS h1
  first | obtain⟨_,rfl⟩:=dU h2 | obtain⟨_,rfl⟩:=dQ h2 | obtain⟨_,rfl⟩:=dS h2
  first | obtain⟨_,rfl⟩:=dU h3 | obtain⟨_,rfl⟩:=dQ h3 | obtain⟨_,rfl⟩:=dS h3
  exact yI l _ _ _ h1 h2 h3 h4 h5
 | .lst l,a,b,c,h1,h2,h3,h4,h5=>by
  first | obtain⟨_,rfl⟩:=dU h1 | obtain⟨_,rfl⟩:=dQ h1 | obtain⟨_,rfl⟩:=dS h1
  first | obtain⟨_,rfl⟩:=dU h2 | obtain⟨_,rfl⟩:=dQ h2 | obtain⟨_,rfl⟩:=dS h2
  first | obtain⟨_,rfl⟩:=dU h3 | obtain⟨_,rfl⟩:=dQ h3 | obtain⟨_,rfl⟩:=dS h3
  exact GU l (AZ l) _ _ _ h1 h2 h3 h4 h5
theorem yI:∀ (l:List si) (xs ys zs:List D),gV l xs=true->gV l ys=true->gV l zs=true->mL xs ys=true->mL ys zs=true->mL xs zs=true
 | [],xs,ys,zs,h1,h2,_,h,_=>by
  cases xs with
  | nil=>cases ys with
   | nil=>cases h
   | cons _ _=>cases h2
  | cons _ _=>cases h1
 | s :: l,xs,ys,zs,h1,h2,h3,h4,h5=>by
  cases xs with
  | nil=>cases h1
  | cons x xs =>
   cases ys with
   | nil=>cases h2
   | cons y ys =>
    cases zs with
    | nil=>cases h3
    | cons z zs =>
     have h1:(eA s x&&gV l xs)=true:=h1;have h2:(eA s y&&gV l ys)=true:=h2;have h3:(eA s z&&gV l zs)=true:=h3;rw [aS] at h1 h2 h3;simp only [qo] at h4 h5 ⊢;by_cases e1:ip x y=true
     ·have:=oZ s x y h1.1 h2.1 e1;subst this;rw [if_pos e1] at h4;by_cases e2:ip x z=true
      ·rw [if_pos e2] at h5 ⊢;exact yI l xs ys zs h1.2 h2.2 h3.2 h4 h5
      ·rw [if_neg e2] at h5 ⊢; exact h5
     ·rw [if_neg e1] at h4;by_cases e2:ip y z=true
      ·have:=oZ s y z h2.1 h3.1 e2;subst this;rw [if_neg e1]; exact h4
      ·rw [if_neg e2] at h5;have h6:=AZ s x y z h1.1 h2.1 h3.1 h4 h5;rw [if_neg (fun e3=>by
        have:=oZ s x z h1.1 h3.1 e3;subst this;rw [IA s x h1.1] at h6; cases h6)]
       exact h6
end
end K2
end
section
namespace K2
open PySem (Str)
open Enc (enc)
noncomputable def lQ(k:Nat):List D->List D
 | []=>[]
 | d :: r=>.tup [.int (k:Int),d] :: lQ (k+1) r
theorem Bd:∀ (ds:List D) (k i:Nat),(lQ k ds)[i]?=(ds[i]?).map fun d=>D.tup [.int ((k+i:Nat):Int),d]
 | [],k,i=>by simp [lQ]
 | d :: r,k,0=>by simp [lQ]
 | d :: r,k,i+1=>by
  rw [lQ,ae,Bd r (k+1) i,ae];congr 1; funext x; congr 3; lia
theorem Bc:∀ (ds:List D) (k:Nat),(lQ k ds).length=ds.length
 | [],_=>rfl
 | d :: r,k=>by rw [lQ,af,af,Bc r]
noncomputable def uO(x:D)(G1:Gp)(R:List D->(Gp->Prop)->Gp->Prop):Prop:=match x with
 | .da ds=>R (lQ 0 ds) (fun _=>True) G1
 | .ref p=>(match G1 p with
  | some (.lst ds)=>R (lQ 0 ds) (fun G2=>G2 p=some (.lst ds)) G1
  | _=>False)
 | _=>False
noncomputable def Nb(a:eZ):Q5:=fun E τ G R=>a E τ G fun x G1=>uO x G1 R
noncomputable def Uw(P:D->Gp->Prop):List D->Gp->Prop
 | [x],G=>P x G
 | _,_=>False
noncomputable def IsL(G:Gp)(d:D)(ds:List D):Prop:=d=.da ds\/∃ a,d=.ref a/\G a=some (.lst ds)
theorem IsL.enc{α:Type} [DecidableEq α] [Enc α]{G:Gp}(xs:List α):IsL G (enc xs) (xs.map enc):=.inl rfl
theorem IsL.ref{G:Gp}{a:Nat}{ds:List D}(h:G a=some (.lst ds)):IsL G (.ref a) ds:=.inr ⟨a,rfl,h⟩
theorem IsL.mono{G G':Gp}{d:D}{ds:List D}(h:IsL G d ds)(l:fi G G'):IsL G' d ds:=by
 rcases h with h | ⟨a,h,e⟩
 ·exact .inl h
 ·exact .inr ⟨a,h,l a _ e⟩
theorem LO{G:Gp}{d:D}{ds:List D}{Q:Bool->Gp->Prop}(h:IsL G d ds)(k:Q (!ds.isEmpty) G):rS d G Q:=by
 rcases h with rfl | ⟨a,rfl,e⟩
 ·exact k
 ·rw [JI e]; exact k
theorem yT{G:Gp}{d:D}{ds:List D}(h:IsL G d ds):itemsOf d G=some ds:=by
 rcases h with rfl | ⟨a,rfl,e⟩
 ·rfl
 ·unfold itemsOf; simp only [e]
theorem Rp{G:Gp}{d:D}{ds:List D}(h:IsL G d ds):BW d G:=by
 rcases h with rfl | ⟨a,rfl,e⟩
 ·trivial
 ·unfold BW; simp only [e]
theorem vE{G:Gp}{d:D}{ds:List D}{lo hi:Option Int}{Q:DK}(h:IsL G d ds)(k:jK G (.lst (cut ds lo hi)) Q):Mg d lo hi G Q:=by
 rcases h with rfl | ⟨a,rfl,e⟩
 ·exact k
 ·rw [O9 e]; exact k
theorem jw{G:Gp}{d:D}{ds:List D}{Q:DK}(h:IsL G d ds)(k:Q (.int (ds.length:Int)) G):kD [d] G Q:=by
 rcases h with rfl | ⟨a,rfl,e⟩
 ·exact k
 ·rw [Ob e]; exact k
theorem E9{G:Gp}{d:D}{ds:List D}{Q:DK}(h:IsL G d ds)(k:jK G (.lst ds) Q):u7 [d] G Q:=by
 unfold u7; simp only [yT h]; exact k
theorem B8{G:Gp}{d x:D}{ds:List D}{i:Int}{Q:DK}(h:IsL G d ds)(e:we ds i=some x)(k:Q x G):j7 d (.int i) G Q:=by
 rcases h with rfl | ⟨a,rfl,e2⟩
 ·rw [Pa e]; exact k
 ·rw [Pc e2 e]; exact k
theorem kn{G:Gp}{d:D}{ds:List D}(h:IsL G d ds):nI d G=some ds:=by
 rcases h with rfl | ⟨a,rfl,e⟩
 ·rfl
 ·unfold nI; simp only [e]
theorem Jm{G:Gp}{d e:D}{ds es:List D}{Q:DK}(h:IsL G d ds)(h':IsL G e es)(hz:ds.length+es.length<=SZ)(k:jK G (.lst (ds++es)) Q):zv d e G Q:=by
 unfold zv; simp only [kn h,kn h']; exact⟨hz,k⟩
theorem Il{G:Gp}{d e:D}{ds es:List D}{Q:DK}(h:IsL G d ds)(h':IsL G e es)(hz:ds.length+es.length<=SZ)(k:jK G (.lst (ds++es)) Q):iL d e G Q:=by
 have:=Jm h h' hz k;rcases h with rfl | ⟨a,rfl,_⟩
 ·rw [uv]; exact this
 ·rw [uw]; exact this
theorem E1{α:Type}(xs:List α)(i:Nat)(h:i<=xs.length):cut xs (some (i:Int)) none=xs.drop i:=by
 unfold cut iT;simp only;rw [if_neg (by lia),Bx,FW h];exact kJ (by rw [cW]; lia)
theorem N1{α:Type}(xs:List α)(i:Nat)(h:i<=xs.length):cut xs none (some (i:Int))=xs.take i:=by
 unfold cut iT;simp only;rw [if_neg (by lia),Bx,FW h];simp
theorem xW{α β:Type}(f:α->β)(xs:List α)(lo hi:Option Int):cut (xs.map f) lo hi=(cut xs lo hi).map f:=by
 unfold cut; rw [ai,K4,K5]
theorem ve{α:Type}(xs:List α){k:Int}(h0:0<=k)(h1:k < xs.length):we xs k=some (xs[k.toNat]'(by lia)):=by
 unfold we IH;rw [if_pos h0,if_pos h1];show xs[k.toNat]?=_;exact bf (by lia)
noncomputable def WT{α β:Type} [DecidableEq α] [Enc α] [DecidableEq β] [Enc β](pre:α->Prop)(f:α->β):gM:=fun ds G Q _=>∃ a:α,ds=[enc a]/\pre a/\Q (enc (f a)) G
noncomputable def WS{α β γ:Type} [DecidableEq α] [Enc α] [DecidableEq β] [Enc β] [DecidableEq γ] [Enc γ](pre:α->β->Prop)(f:α->β->γ):gM:=fun ds G Q _=>∃ (a:α) (b:β),ds=[enc a,enc b]/\pre a b/\Q (enc (f a b)) G
noncomputable def Be:D->Gp->Option (List (D×D))
 | .oS a0,_=>some a0
 | .ref a,G=>match G a with
  | some (.jP a0)=>some a0
  | _=>none
 | _,_=>none
noncomputable def A2(a0:List (D×D)):Bool:=a0.all fun p=>dw p.1
noncomputable def Jj(ds:List D)(G:Gp)(Q:DK):Prop:=match ds with
 | [x]=>∃ a0,Be x G=some a0/\A2 a0=true/\a0.length<=SZ/\jK G (.jP a0) Q
 | _=>False
noncomputable def MR(x:D)(ds:List D)(G:Gp)(Q:DK):Prop:=match ds with
 | [k,d]=>∃ a0,Be x G=some a0/\A2 a0=true/\dw k=true/\Q ((look a0 k).getD d) G
 | _=>False
noncomputable def OJ{κ α:Type} [DecidableEq κ] [Enc κ] [DecidableEq α] [Enc α](G:Gp)(d:D)(l:List (κ×α)):Prop:=Be d G=some (cY l)
section
variable {κ α:Type} [DecidableEq κ] [Enc κ] [DecidableEq α] [Enc α] {l:List (κ×α)} {G G':Gp} {d:D}
theorem OJ.oS:OJ G (.oS (cY l)) l:=rfl
theorem OJ.inv(h:OJ G d l):d=.oS (cY l)\/∃ a,d=.ref a/\G a=some (.jP (cY l)):=by
 unfold OJ Be at h;split at h
 ·exact .inl (by rw [ba h])
 ·rename_i a;split at h
  ·rename_i a0 e;exact .inr ⟨a,rfl,by rw [e,ba h]⟩
  ·cases h
 ·cases h
theorem A1{β:Type} [DecidableEq β] [Enc β](l:List (Int×β)):A2 (cY l)=true:=by
 unfold A2 cY; rw [Bw,Dt]; intro p _; rfl
theorem Kz(l:List (κ×α)):(cY l).length=l.length:=by unfold cY; rw [ai]
theorem LM(h:OJ G d l):Th d G:=by
 rcases h.inv with rfl | ⟨a,rfl,e⟩
 ·trivial
 ·unfold Th; simp only [e]
end
section
variable {α:Type} [DecidableEq α] [Enc α] {l:List (Int×α)} {G:Gp} {d:D}
theorem Oc{Q:DK}(h:OJ G d l)(hs:l.length<=SZ)(k:jK G (.jP (cY l)) Q):Jj [d] G Q:=⟨_,h,A1 l,by rw [Kz]; exact hs,k⟩
theorem PH{Q:DK}{i:Int}{e:α}(h:OJ G d l)(k:Q (enc ((jy l i).getD e)) G):MR d [.int i,enc e] G Q:=by
 refine⟨_,h,A1 l,rfl,?_⟩;have:(look (cY l) (.int i)).getD (enc e)=enc ((jy l i).getD e):=by
  rw [show (D.int i)=enc i from rfl,yK]; cases jy l i <;> rfl
 rw [this]; exact k
end
noncomputable abbrev TF2:=jz->g6->Gp->(List Str->Gp->Prop)->Prop
noncomputable def NY(a:eZ):eZ:=fun E τ G Q=>a E τ G fun x G1=>∃ ds,nI x G1=some ds/\jK G1 (.lst ds.reverse) Q
theorem NX{a:eZ}{E:jz}{τ:g6}{G:Gp}{Q:DK}:NY a E τ G Q=a E τ G fun x G1=>∃ ds,nI x G1=some ds/\jK G1 (.lst ds.reverse) Q:=rfl
end K2
end
section
namespace K2
noncomputable def xU(x:PySem.Str)(t:vh):fh:=fun E _ τ G=>t E τ G fun ds G1=>ds.length<=SZ/\E ⟨x,[]⟩ G1
end K2
namespace K2
open PySem (Str)
noncomputable def EY(all sub:List Str)(a:eZ):eZ:=fun E τ G Q=>a E τ G fun x G1=>match x with
 | .dI=>Q (.bl false) G1
 | .exc c=>all.contains c=true/\Q (.bl (sub.contains c)) G1
 | .zM c _ _=>all.contains c=true/\Q (.bl (sub.contains c)) G1
 | _=>False
end K2
namespace K2
open PySem (Str)
noncomputable def Ja(sp:gM)(t:vh)(j i:Nat)(cat:List Str)(th:fh):fh:=fun _ K τ G =>
 t (fun _ _=>False) τ G fun ds G1=>sp ds (fun _=>none) (fun d _=>K.nx (τ.set j (some d)) G1) fun ex _=>cat.contains ex.cls=true /\
  th (fun _ _=>False) ⟨fun l7 G'=>K.nx (l7.set i none) G',fun _ _=>False,fun _ _=>False,fun _ _=>False⟩ (τ.set i (some (.exc ex.cls))) G1
noncomputable def qE(sp:gM)(t:vh):eZ:=fun E τ G Q=>t E τ G fun ds G1=>sp ds G1 Q E
end K2
end
section
namespace K2
open PySem (Str)
open Enc (enc)
noncomputable def Jd(all:List Str)(a:eZ):eZ:=fun E τ G Q=>a E τ G fun x G1=>match x with
 | .exc c=>all.contains c=true/\Q (.bl true) G1
 | .zM c _ _=>all.contains c=true/\Q (.bl true) G1
 | _=>False
noncomputable def h2(t:T2):Int:=PySem.reduceHash (PySem.Builtin.Tuple.tupleHashOf [PySem.hashInt t.a,PySem.hashInt t.b])
noncomputable def NU(t:fh):fh:=fun _ K τ G=>t (fun _ _=>False) K τ G
end K2
end
section
namespace K2
open Enc (enc)
noncomputable def AA(lt:Nat->Nat->Bool):Nat->Nat
 | 0=>0
 | j+1=>if lt (j+1) (AA lt j)=true then j+1 else AA lt j
theorem Oe(lt:Nat->Nat->Bool):∀ j,AA lt j<=j:=by
 intro j;induction j with
 | zero=>exact aQ _
 | succ j ih =>
  show (if lt (j+1) (AA lt j)=true then j+1 else AA lt j)<=j+1;split
  ·exact aQ _
  ·exact Nat.le_succ_of_le ih
noncomputable def GL(x:D)(G:Gp)(Q:DK):Prop:=∃ (ds:List D) (sh:si) (kf:Nat->D),IsL G x ds/\0 < ds.length/\(∀ i d,ds[i]?=some d->∃ k r,d=.tup (k :: r)/\Sn G SN k (kf i)/\eA sh (kf i)=true) /\
 ∀ d,ds[AA (fun i j=>yJ (kf i) (kf j)) (ds.length - 1)]?=some d->Q d G
noncomputable def NW(ta:eZ):eZ:=fun E τ G Q=>ta E τ G fun x G1=>GL x G1 Q
end K2
end
section
namespace K2
open PySem (Str)
noncomputable def Og(al:List Str)(f:Str)(x:D)(G:Gp)(Q:DK):Prop:=∃ a c fs d,x=.ref a/\G a=some (.ins c fs)/\c∈al/\fs.lookup f=some d/\Q d G
noncomputable def fK(al:List Str)(f:Str)(te:eZ):eZ:=fun E τ G Q=>te E τ G fun x G1=>Og al f x G1 Q
end K2
namespace K2
open PySem (Str)
noncomputable def putD(f:Str)(d:D):List (Str×D)->List (Str×D)
 | []=>[(f,d)]
 | (g,x) :: r=>if g=f then (g,d) :: r else (g,x) :: putD f d r
noncomputable def jo(al:List Str)(f:Str)(to tv:eZ):fh:=fun E K τ G=>tv E τ G fun d G1=>to E τ G1 fun x G2=>∃ a c fs,x=.ref a/\G2 a=some (.ins c fs)/\c∈al/\fs.length < 1000/\K.nx τ (bP G2 a (.ins c (putD f d fs)))
noncomputable def lS(c:Str)(sp:gM)(t:vh):eZ:=fun E τ G Q=>t E τ G fun ds G1=>∀ p,G1 p=none->sp (.ref p :: ds) (bP G1 p (.ins c [])) (fun v G2=>v=.dI/\Q (.ref p) G2) fun _ _=>False
end K2
namespace K2
open PySem (Str)
noncomputable def qB(ms:List (Str×gM))(m:Str)(to:eZ)(t:vh):eZ:=fun E τ G Q=>to E τ G fun x G1=>∃ a c fs sp,x=.ref a/\G1 a=some (.ins c fs)/\(c,sp)∈ms/\fs.lookup m=none/\t E τ G1 fun ds G2=>sp (x :: ds) G2 Q fun _ _=>False
end K2
end
section
namespace K2
open PySem (Str)
noncomputable def u4(ms:List (Str×gM))(m:Str)(to:eZ)(t:vh):eZ:=fun E τ G Q=>to E τ G fun x G1=>∃ a c fs sp,x=.ref a/\G1 a=some (.ins c fs)/\(c,sp)∈ms/\fs.lookup m=none/\t E τ G1 fun ds G2=>sp (x :: ds) G2 Q E
noncomputable def only(a:Nat)(o:GO):Gp:=fun b=>if b=a then some o else none
end K2
end
section
namespace K2
open Enc (enc)
noncomputable def qK(ds:List D)(G:Gp)(Q:DK):Prop:=match ds with
 | [x]=>∃ ns:List Int,BW x G/\itemsOf x G=some (ns.map enc)/\ns.length < 64/\jK G (.lst ((HY ns).map enc)) Q
 | _=>False
theorem wX{G:Gp}{d:D}{xs:List Int}{Q:DK}(h:IsL G d (xs.map enc))(hl:xs.length < 64)(k:jK G (.lst ((HY xs).map enc)) Q):qK [d] G Q:=⟨xs,Rp h,yT h,hl,k⟩
end K2
end
section
namespace K2
open PySem PySem.Spec PyProof.Rows L2
noncomputable def S8(K:ag)(H:Hp)(a:Addr)(xs:List V):Prop :=
 (∃ o,H a=some (.jO o (.lst xs))) \/
  ∃ (o:Obj) (its:Array Value) (n:Nat),K.lookup a=some o/\o.cls=.type "list"/\o.dict=none/\o.data=.seq its n/\its.size<=bb/\Vals xs its.toList
theorem S8.sq{K:ag}{H:Hp}{a:Addr}{xs:List V}(h:S8 K H a xs):wZ K H a xs:=by
 rcases h with ⟨o,h⟩ | h
 ·exact .inl (.inr ⟨o,h⟩)
 ·exact .inr h
noncomputable def eY:Key->D
 | .inl i=>.int i
 | .inr x=>.str x
noncomputable def ExcAt(K:ag)(H:Hp)(a:Addr)(c:Str):Prop:=∃ (o:Obj) (C:Addr),H a=some (.jO o (.ext fun h=>h.get? a=some o))/\o.cls=.ref C/\bz K aT c=some (some (.ref C))
noncomputable def Jp(K:ag)(H:Hp)(a:Addr)(c:Str)(ns:List Str)(vs:List V):Prop:=∃ (o:Obj) (C dx:Addr) (od:Obj) (fs:List (Str×V)),H a=some (.jO o (.ext fun h=>h.get? a=some o))/\o.cls=.ref C/\bz K aT c=some (some (.ref C))/\o.dict=some dx/\H dx=some (.jO od (.xd fs))/\PySem.W.notCls o=true/\fs.map (·.1)=ns/\fs.map (·.2)=vs
noncomputable def Yc(hs:List Int):Int:=reduceHash (Builtin.Tuple.tupleHashOf hs)
noncomputable def hP(k:PK):Int:=Yc (k.map fun r=>Yc (r.map fun t=>Yc (t.map hashInt)))
noncomputable def PDo(a:Addr)(xs:List (PK×Addr×Value))(h:Heap):Prop:=xs.length<=bb/\(a == gQ)=false/\∃ (o:Obj) (es:Array DictEntry) (ep:Nat),h.get? a=some o/\o.ExactDict/\o.data=.dict es ep/\es.toList=xs.map (fun x=>⟨hP x.1,.ref x.2.1,x.2.2⟩)/\(xs.map (·.1)).Nodup
noncomputable def VI(a0:List (PK×D))(ks vs:List V)(xs:List (PK×Addr×Value)):Prop:=a0.map (fun p=>p.1)=xs.map (fun x=>x.1)/\ks=xs.map (fun x=>V.ref x.2.1)/\Vals vs (xs.map fun x=>x.2.2)
mutual
inductive bS (K:ag) (H:Hp):V->D->Prop
 | dI:bS K H .dI .dI
 | bl (b:Bool):bS K H (.bl b) (.bl b)
 | int (i:Int):bS K H (.int i) (.int i)
 | str (x:Str):bS K H (.str x) (.str x)
 | tup {a:Addr} {vs:List V} {ds:List D}:H a=some (.tup vs)->a4 K H vs ds->bS K H (.ref a) (.tup ds)
 | da {a:Addr} {vs:List V} {ds:List D}:S8 K H a vs->a4 K H vs ds->bS K H (.ref a) (.da ds)
 | pW {a:Addr} {o:Obj} {kv:List (Key×V)} {a0:List (D×D)}:H a=some (.jO o (.dK kv))->oO K H kv a0->bS K H (.ref a) (.oS a0)
 | pV {a:Addr} {o:Obj} {kv:List (List Key×V)} {a0:List (D×D)}:H a=some (.jO o (.dT kv))->pH K H kv a0->bS K H (.ref a) (.oS a0)
 | ref (a:Addr):bS K H (.ref a) (.ref a)
 | exc {a:Addr} {c:Str}:ExcAt K H a c->bS K H (.ref a) (.exc c)
 | zM {a:Addr} {c:Str} {ns:List Str} {vs:List V} {ds:List D}:Jp K H a c ns vs->a4 K H vs ds->bS K H (.ref a) (.zM c ns ds)
 | AQ {a:Addr} {o:Obj} {xs:List (PK×Addr×Value)} {ks vs:List V} {a0:List (PK×D)}:H a=some (.jO o (.ext (PDo a xs)))->VI a0 ks vs xs->a4 K H ks (a0.map fun p=>Uq p.1)->a4 K H vs (a0.map fun p=>p.2)->bS K H (.ref a) (.AQ a0)
inductive a4 (K:ag) (H:Hp):List V->List D->Prop
 | nil:a4 K H [] []
 | cons {v:V} {d:D} {vs:List V} {ds:List D}:bS K H v d->a4 K H vs ds->a4 K H (v :: vs) (d :: ds)
inductive oO (K:ag) (H:Hp):List (Key×V)->List (D×D)->Prop
 | nil:oO K H [] []
 | cons {k:Key} {v:V} {d:D} {r:List (Key×V)} {t:List (D×D)}:bS K H v d->oO K H r t->oO K H ((k,v) :: r) ((eY k,d) :: t)
inductive pH (K:ag) (H:Hp):List (List Key×V)->List (D×D)->Prop
 | nil:pH K H [] []
 | cons {k:List Key} {v:V} {d:D} {r:List (List Key×V)} {t:List (D×D)}:bS K H v d->pH K H r t->pH K H ((k,v) :: r) ((.tup (k.map eY),d) :: t)
end
structure Kp(H H':Hp):Prop where
 tup:∀ a xs,H a=some (.tup xs)->H' a=some (.tup xs)
 jO:∀ a o u,H a=some (.jO o u)->H' a=some (.jO o u)
theorem Kp.refl(H:Hp):Kp H H:=⟨fun _ _ h=>h,fun _ _ _ h=>h⟩
theorem Kp.trans{H H1 H2:Hp}(a:Kp H H1)(b:Kp H1 H2):Kp H H2:=⟨fun c xs h=>b.tup c xs (a.tup c xs h),fun c o u h=>b.jO c o u (a.jO c o u h)⟩
theorem Kp.sqT{K:ag}{H H':Hp}{a:Addr}{xs:List V}(k:Kp H H')(h:zx K H a xs):zx K H' a xs:=by
 rcases h with (h | ⟨o,h⟩) | h
 ·exact .inl (.inl (k.tup _ _ h))
 ·exact .inl (.inr ⟨o,k.jO _ _ _ h⟩)
 ·exact .inr h
theorem Kp.Ti{K:ag}{H H':Hp}{a:Addr}{xs:List V}(k:Kp H H')(h:S8 K H a xs):S8 K H' a xs:=by
 rcases h with ⟨o,h⟩ | h
 ·exact .inl ⟨o,k.jO _ _ _ h⟩
 ·exact .inr h
theorem ExcAt.mono{K:ag}{H H':Hp}(k:Kp H H'){a:Addr}{c:Str}(h:ExcAt K H a c):ExcAt K H' a c :=
 let ⟨o,C,h1,h2,h3⟩:=h
 ⟨o,C,k.jO _ _ _ h1,h2,h3⟩
theorem Jp.mono{K:ag}{H H':Hp}(k:Kp H H'){a:Addr}{c:Str}{ns:List Str}{vs:List V}(h:Jp K H a c ns vs):Jp K H' a c ns vs :=
 let ⟨o,C,dx,od,fs,h1,h2,h3,h4,h5,h6⟩:=h
 ⟨o,C,dx,od,fs,k.jO _ _ _ h1,h2,h3,h4,k.jO _ _ _ h5,h6⟩
theorem a4.Cq{K:ag}{H:Hp}{P:List V->List D->Prop}(h0:P [] [])(h1:∀ {v:V} {d:D} {vs:List V} {ds:List D},bS K H v d->a4 K H vs ds->P vs ds->P (v :: vs) (d :: ds)){vs:List V}{ds:List D}(h:a4 K H vs ds):P vs ds :=
 a4.rec (motive_1:=fun _ _ _=>True) (motive_2:=fun vs ds _=>P vs ds) (motive_3:=fun _ _ _=>True) (motive_4:=fun _ _ _=>True) trivial (fun _=>trivial) (fun _=>trivial) (fun _=>trivial) (fun _ _ _=>trivial) (fun _ _ _=>trivial) (fun _ _ _=>trivial) (fun _ _ _=>trivial) (fun _=>trivial) (fun _=>trivial) (fun _ _ _=>trivial) (fun _ _ _ _ _ _=>trivial) h0 (fun a b _ ih=>h1 a b ih) trivial (fun _ _ _ _=>trivial) trivial (fun _ _ _ _=>trivial) h
theorem bS.mono{K:ag}{H H':Hp}(k:Kp H H'):∀ {v:V} {d:D},bS K H v d->bS K H' v d:=fun h =>
 bS.rec (motive_1:=fun v d _=>bS K H' v d) (motive_2:=fun v d _=>a4 K H' v d) (motive_3:=fun v d _=>oO K H' v d) (motive_4:=fun v d _=>pH K H' v d)
  .dI .bl .int .str (fun h _ r=>.tup (k.tup _ _ h) r) (fun h _ r=>.da (k.Ti h) r) (fun h _ r=>.pW (k.jO _ _ _ h) r) (fun h _ r=>.pV (k.jO _ _ _ h) r) .ref (fun h=>.exc (h.mono k)) (fun h _ r=>.zM (h.mono k) r) (fun h z _ _ r1 r2=>.AQ (k.jO _ _ _ h) z r1 r2) .nil (fun _ _ a b=>.cons a b) .nil (fun _ _ a b=>.cons a b) .nil (fun _ _ a b=>.cons a b) h
theorem a4.mono{K:ag}{H H':Hp}(k:Kp H H'){v:List V}{d:List D}(h:a4 K H v d):a4 K H' v d :=
 a4.Cq (P:=fun v d=>a4 K H' v d) .nil (fun r _ ih=>.cons (r.mono k) ih) h
theorem oO.mono{K:ag}{H H':Hp}(k:Kp H H'){v:List (Key×V)}{d:List (D×D)}(h:oO K H v d):oO K H' v d :=
 oO.rec (motive_1:=fun v d _=>bS K H' v d) (motive_2:=fun v d _=>a4 K H' v d) (motive_3:=fun v d _=>oO K H' v d) (motive_4:=fun v d _=>pH K H' v d)
  .dI .bl .int .str (fun h _ r=>.tup (k.tup _ _ h) r) (fun h _ r=>.da (k.Ti h) r) (fun h _ r=>.pW (k.jO _ _ _ h) r) (fun h _ r=>.pV (k.jO _ _ _ h) r) .ref (fun h=>.exc (h.mono k)) (fun h _ r=>.zM (h.mono k) r) (fun h z _ _ r1 r2=>.AQ (k.jO _ _ _ h) z r1 r2) .nil (fun _ _ a b=>.cons a b) .nil (fun _ _ a b=>.cons a b) .nil (fun _ _ a b=>.cons a b) h
theorem pH.mono{K:ag}{H H':Hp}(k:Kp H H'){v:List (List Key×V)}{d:List (D×D)}(h:pH K H v d):pH K H' v d :=
 pH.rec (motive_1:=fun v d _=>bS K H' v d) (motive_2:=fun v d _=>a4 K H' v d) (motive_3:=fun v d _=>oO K H' v d) (motive_4:=fun v d _=>pH K H' v d)
  .dI .bl .int .str (fun h _ r=>.tup (k.tup _ _ h) r) (fun h _ r=>.da (k.Ti h) r) (fun h _ r=>.pW (k.jO _ _ _ h) r) (fun h _ r=>.pV (k.jO _ _ _ h) r) .ref (fun h=>.exc (h.mono k)) (fun h _ r=>.zM (h.mono k) r) (fun h z _ _ r1 r2=>.AQ (k.jO _ _ _ h) z r1 r2) .nil (fun _ _ a b=>.cons a b) .nil (fun _ _ a b=>.cons a b) .nil (fun _ _ a b=>.cons a b) h
theorem a4.length{K:ag}{H:Hp}:∀ {vs:List V} {ds:List D},a4 K H vs ds->vs.length=ds.length:=fun h =>
 a4.Cq (P:=fun vs ds=>vs.length=ds.length) rfl (fun _ _ ih=>congrArg (· + 1) ih) h
theorem a4.get{K:ag}{H:Hp}:∀ {vs:List V} {ds:List D} {i:Nat} {d:D},a4 K H vs ds->ds[i]?=some d->∃ v,vs[i]?=some v/\bS K H v d:=by
 intro vs ds i d h;refine a4.Cq (P:=fun vs ds=>∀ (i:Nat) (d:D),ds[i]?=some d->∃ v,vs[i]?=some v/\bS K H v d) (fun i d e=>by cases e) (fun r _ ih i d e=>?_) h i d;cases i with
 | zero=>cases e; exact⟨_,rfl,r⟩
 | succ i=>exact ih i d e
theorem a4.YN{K:ag}{H:Hp}:∀ {vs:List V} {ds:List D} {i:Nat} {v:V},a4 K H vs ds->vs[i]?=some v->∃ d,ds[i]?=some d/\bS K H v d:=by
 intro vs ds i v h;refine a4.Cq (P:=fun vs ds=>∀ (i:Nat) (v:V),vs[i]?=some v->∃ d,ds[i]?=some d/\bS K H v d) (fun i d e=>by cases e) (fun r _ ih i d e=>?_) h i v;cases i with
 | zero=>cases e; exact⟨_,rfl,r⟩
 | succ i=>exact ih i d e
theorem a4.append{K:ag}{H:Hp}:∀ {vs ws:List V} {ds es:List D},a4 K H vs ds->a4 K H ws es->a4 K H (vs++ws) (ds++es):=fun {_ ws _ es} h s =>
 a4.Cq (P:=fun vs ds=>a4 K H (vs++ws) (ds++es)) s (fun r _ ih=>.cons r ih) h
theorem a4.take{K:ag}{H:Hp}:∀ {vs:List V} {ds:List D} (n:Nat),a4 K H vs ds->a4 K H (vs.take n) (ds.take n):=fun {_ _} n h =>
 a4.Cq (P:=fun vs ds=>∀ n,a4 K H (vs.take n) (ds.take n)) (fun n=>by rw [zJ,zJ]; exact .nil) (fun r _ ih n=>by
  cases n with
  | zero=>exact .nil
  | succ n=>exact .cons r (ih n)) h n
theorem a4.drop{K:ag}{H:Hp}:∀ {vs:List V} {ds:List D} (n:Nat),a4 K H vs ds->a4 K H (vs.drop n) (ds.drop n):=fun {_ _} n h =>
 a4.Cq (P:=fun vs ds=>∀ n,a4 K H (vs.drop n) (ds.drop n)) (fun n=>by rw [zK,zK]; exact .nil) (fun r t ih n=>by
  cases n with
  | zero=>exact .cons r t
  | succ n=>exact ih n) h n
theorem a4.set{K:ag}{H:Hp}{v:V}{d:D}(r:bS K H v d):∀ {vs:List V} {ds:List D} (i:Nat),a4 K H vs ds->a4 K H (vs.set i v) (ds.set i d):=fun {_ _} i h =>
 a4.Cq (P:=fun vs ds=>∀ i,a4 K H (vs.set i v) (ds.set i d)) (fun i=>by rw [Bv,Bv]; exact .nil) (fun q t ih i=>by
  cases i with
  | zero=>exact .cons r t
  | succ i=>exact .cons q (ih i)) h i
theorem a4.one{K:ag}{H:Hp}:∀ {vs:List V} {d:D},a4 K H vs [d]->∃ v,vs=[v]/\bS K H v d:=by
 intro vs d h;cases h with
 | cons r t=>cases t; exact⟨_,rfl,r⟩
theorem a4.two{K:ag}{H:Hp}:∀ {vs:List V} {d e:D},a4 K H vs [d,e]->∃ v u,vs=[v,u]/\bS K H v d/\bS K H u e:=by
 intro vs d e h;cases h with
 | cons r t =>
  obtain⟨u,rfl,q⟩:=a4.one t;exact⟨_,_,rfl,r,q⟩
theorem a4.zero{K:ag}{H:Hp}:∀ {vs:List V},a4 K H vs []->vs=[]
 | _,.nil=>rfl
theorem a4.ints{K:ag}{H:Hp}:∀ {vs:List V} {ns:List Int},a4 K H vs (ns.map D.int)->vs=ns.map V.int:=by
 intro vs ns;induction ns generalizing vs with
 | nil=>intro h; exact h.zero
 | cons n ns ih =>
  intro h;cases h with
  | cons r t =>
   cases r;rw [ih t]; rfl
theorem a4.Iv{K:ag}{H:Hp}:∀ (ns:List Int),a4 K H (ns.map V.int) (ns.map D.int)
 | []=>.nil
 | n :: ns=>.cons (.int n) (a4.Iv ns)
theorem oO.ind{K:ag}{H:Hp}{motive:∀ (kv:List (Key×V)) (a0:List (D×D)),oO K H kv a0->Prop}(nil:motive [] [] .nil)
  (cons:∀ {k:Key} {v:V} {d:D} {r:List (Key×V)} {t:List (D×D)} (re:bS K H v d) (rs:oO K H r t),motive r t rs->motive ((k,v) :: r) ((eY k,d) :: t) (.cons re rs)):∀ {kv:List (Key×V)} {a0:List (D×D)} (h:oO K H kv a0),motive kv a0 h:=fun h =>
 oO.rec (motive_1:=fun _ _ _=>True) (motive_2:=fun _ _ _=>True) (motive_3:=motive) (motive_4:=fun _ _ _=>True) trivial (fun _=>trivial) (fun _=>trivial) (fun _=>trivial) (fun _ _ _=>trivial) (fun _ _ _=>trivial) (fun _ _ _=>trivial) (fun _ _ _=>trivial) (fun _=>trivial) (fun _=>trivial) (fun _ _ _=>trivial) (fun _ _ _ _ _ _=>trivial) trivial (fun _ _ _ _=>trivial) nil (fun a b _ ih=>cons a b ih) trivial (fun _ _ _ _=>trivial) h
theorem pH.ind{K:ag}{H:Hp}{motive:∀ (kv:List (List Key×V)) (a0:List (D×D)),pH K H kv a0->Prop}(nil:motive [] [] .nil)
  (cons:∀ {k:List Key} {v:V} {d:D} {r:List (List Key×V)} {t:List (D×D)} (re:bS K H v d) (rs:pH K H r t),motive r t rs->motive ((k,v) :: r) ((.tup (k.map eY),d) :: t) (.cons re rs)):∀ {kv:List (List Key×V)} {a0:List (D×D)} (h:pH K H kv a0),motive kv a0 h:=fun h =>
 pH.rec (motive_1:=fun _ _ _=>True) (motive_2:=fun _ _ _=>True) (motive_3:=fun _ _ _=>True) (motive_4:=motive) trivial (fun _=>trivial) (fun _=>trivial) (fun _=>trivial) (fun _ _ _=>trivial) (fun _ _ _=>trivial) (fun _ _ _=>trivial) (fun _ _ _=>trivial) (fun _=>trivial) (fun _=>trivial) (fun _ _ _=>trivial) (fun _ _ _ _ _ _=>trivial) trivial (fun _ _ _ _=>trivial) trivial (fun _ _ _ _=>trivial) nil (fun a b _ ih=>cons a b ih) h
theorem oO.length{K:ag}{H:Hp}:∀ {v:List (Key×V)} {d:List (D×D)},oO K H v d->v.length=d.length:=fun h =>
 oO.ind (motive:=fun v d _=>v.length=d.length) rfl (fun _ _ ih=>congrArg (· + 1) ih) h
theorem pH.length{K:ag}{H:Hp}:∀ {v:List (List Key×V)} {d:List (D×D)},pH K H v d->v.length=d.length:=fun h =>
 pH.ind (motive:=fun v d _=>v.length=d.length) rfl (fun _ _ ih=>congrArg (· + 1) ih) h
noncomputable def Oo(K:ag)(H:Hp)(a:Addr):GO->Prop
 | .lst ds=>∃ vs,H a=some (.lst vs)/\a4 K H vs ds
 | .jP a0=>(∃ kv,H a=some (.dK kv)/\oO K H kv a0)\/∃ kv,H a=some (.dT kv)/\pH K H kv a0
 | .ins c fs=>∃ C dx fv,H a=some (.ins C dx fv)/\bz K aT c=some (some (.ref C))/\fv.map (·.1)=fs.map (·.1)/\a4 K H (fv.map (·.2)) (fs.map (·.2))
 | .Ht a0=>∃ xs ks vs,H a=some (.ext (PDo a xs))/\VI a0 ks vs xs/\a4 K H ks (a0.map fun p=>Uq p.1)/\a4 K H vs (a0.map fun p=>p.2)
noncomputable def jQ(K:ag)(H:Hp)(G:Gp):Prop:=∀ a g,G a=some g->Oo K H a g
theorem Oo.dk{K:ag}{H:Hp}{a:Addr}{kv:List (Key×V)}{a0:List (D×D)}(h:H a=some (.dK kv))(r:oO K H kv a0):Oo K H a (.jP a0):=.inl ⟨kv,h,r⟩
theorem Oo.mono{K:ag}{H H':Hp}{a:Addr}{g:GO}(k:Kp H H')(e:H' a=H a)(h:Oo K H a g):Oo K H' a g:=by
 cases g with
 | lst ds=>obtain⟨vs,q,r⟩:=h; exact⟨vs,e.trans q,r.mono k⟩
 | ins c fs=>obtain⟨C,dx,fv,q,h1,h2,r⟩:=h; exact⟨C,dx,fv,e.trans q,h1,h2,r.mono k⟩
 | Ht a0=>obtain⟨xs,ks,vs,q,h1,r1,r2⟩:=h; exact⟨xs,ks,vs,e.trans q,h1,r1.mono k,r2.mono k⟩
 | jP a0 =>
  rcases h with ⟨kv,q,r⟩ | ⟨kv,q,r⟩
  ·exact .inl ⟨kv,e.trans q,r.mono k⟩
  ·exact .inr ⟨kv,e.trans q,r.mono k⟩
theorem Oo.tracked{K:ag}{H:Hp}{a:Addr}{g:GO}(h:Oo K H a g):H a≠none:=by
 cases g with
 | lst ds=>obtain⟨vs,q,r⟩:=h; rw [q]; simp
 | ins c fs=>obtain⟨C,dx,fv,q,_⟩:=h; rw [q]; simp
 | Ht a0=>obtain⟨xs,ks,vs,q,_⟩:=h; rw [q]; simp
 | jP a0 =>
  rcases h with ⟨kv,q,r⟩ | ⟨kv,q,r⟩
  ·rw [q]; simp
  ·rw [q]; simp
theorem jQ.free{K:ag}{H:Hp}{G:Gp}{a:Addr}(h:jQ K H G)(e:H a=none):G a=none:=by
 cases q:G a with
 | none=>rfl
 | some g=>exact absurd e (h a g q).tracked
theorem jQ.UH{K:ag}{H:Hp}{G:Gp}{a:Addr}{xs:List V}(h:jQ K H G)(e:H a=some (.tup xs)):G a=none:=by
 cases q:G a with
 | none=>rfl
 | some g =>
  have z:=h a g q;cases g with
  | lst ds=>obtain⟨vs,q,r⟩:=z; rw [e] at q; cases q
  | ins c fs=>obtain⟨C,dx,fv,q,_⟩:=z; rw [e] at q; cases q
  | Ht a0=>obtain⟨xs,ks,vs,q,_⟩:=z; rw [e] at q; cases q
  | jP a0 =>
   rcases z with ⟨kv,q,r⟩ | ⟨kv,q,r⟩
   ·rw [e] at q; cases q
   ·rw [e] at q; cases q
theorem jQ.UJ{K:ag}{H:Hp}{G:Gp}{a:Addr}{o:Obj}{u:HO}(h:jQ K H G)(e:H a=some (.jO o u)):G a=none:=by
 cases q:G a with
 | none=>rfl
 | some g =>
  have z:=h a g q;cases g with
  | lst ds=>obtain⟨vs,q,r⟩:=z; rw [e] at q; cases q
  | ins c fs=>obtain⟨C,dx,fv,q,_⟩:=z; rw [e] at q; cases q
  | Ht a0=>obtain⟨xs,ks,vs,q,_⟩:=z; rw [e] at q; cases q
  | jP a0 =>
   rcases z with ⟨kv,q,r⟩ | ⟨kv,q,r⟩
   ·rw [e] at q; cases q
   ·rw [e] at q; cases q
structure Mv(K:ag)(H:Hp)(G:Gp)(H':Hp)(G':Gp):Prop where
 keep:∀ a o,H a=some o->G a=none->H' a=some o/\G' a=none
 iK:∀ a,G a≠none->H' a≠none
 ab:jQ K H' G'
theorem Mv.refl{K:ag}{H:Hp}{G:Gp}(h:jQ K H G):Mv K H G H G:=⟨fun _ _ e n=>⟨e,n⟩,fun a n=>by
 cases q:G a with
 | none=>exact absurd q n
 | some g=>exact(h a g q).tracked,h⟩
theorem Mv.trans{K:ag}{H H1 H2:Hp}{G G1 G2:Gp}(a:Mv K H G H1 G1)(b:Mv K H1 G1 H2 G2):Mv K H G H2 G2 :=
 ⟨fun c o e n=>let ⟨e1,n1⟩:=a.keep c o e n; b.keep c o e1 n1,fun c n=>by
  have h1:=a.iK c n;cases q:G1 c with
  | some g=>exact b.iK c (by rw [q]; simp)
  | none =>
   cases q1:H1 c with
   | none=>exact absurd q1 h1
   | some o=>rw [(b.keep c o q1 q).1]; simp,b.ab⟩
theorem Mv.kp{K:ag}{H H':Hp}{G G':Gp}(m:Mv K H G H' G')(h:jQ K H G):Kp H H' :=
 ⟨fun a xs e=>(m.keep a _ e (h.UH e)).1,fun a o u e=>(m.keep a _ e (h.UJ e)).1⟩
theorem Kp.new{H:Hp}{p:Addr}{o:HO}(hp:H p=none):Kp H (upd H p o):=⟨fun a xs e=>by rw [bj (bX e hp)]; exact e,fun a ob u e=>by rw [bj (bX e hp)]; exact e⟩
theorem Kp.putL{H:Hp}{p:Addr}{xs:List V}{o:HO}(hp:H p=some (.lst xs)):Kp H (upd H p o) :=
 ⟨fun a ys e=>by rw [bj (by rintro rfl; rw [hp] at e; cases e)]; exact e,fun a ob u e=>by rw [bj (by rintro rfl; rw [hp] at e; cases e)]; exact e⟩
theorem Mv.new{K:ag}{H:Hp}{G:Gp}{p:Addr}{o:HO}{g:GO}(h:jQ K H G)(hp:H p=none)(ho:Oo K (upd H p o) p g):Mv K H G (upd H p o) (bP G p g) where
 keep:=fun a ob e n=>by
  have ne:=bX e hp;exact⟨by rw [bj ne]; exact e,by rw [c4 ne]; exact n⟩
 iK:=fun a n=>by
  have ne:a≠p:=by rintro rfl; exact n (h.free hp)
  rw [bj ne];exact(Mv.refl h).iK a n
 ab:=fun a g' e=>by
  by_cases ha:a=p
  ·subst ha; rw [az] at e; cases e; exact ho
  ·rw [c4 ha] at e;exact(h a g' e).mono (.new hp) (bj ha)
theorem Mv.Ld{K:ag}{H:Hp}{G:Gp}{p:Addr}{o:HO}(h:jQ K H G)(hp:H p=none):Mv K H G (upd H p o) G where
 keep:=fun a ob e n=>⟨by rw [bj (bX e hp)]; exact e,n⟩
 iK:=fun a n=>by
  have ne:a≠p:=by rintro rfl; exact n (h.free hp)
  rw [bj ne];exact(Mv.refl h).iK a n
 ab:=fun a g' e=>by
  have ne:a≠p:=by rintro rfl; rw [h.free hp] at e; cases e
  exact(h a g' e).mono (.new hp) (bj ne)
theorem Mv.put{K:ag}{H:Hp}{G:Gp}{p:Addr}{o:HO}{g g0:GO}(h:jQ K H G)(hg:G p=some g0)(k:Kp H (upd H p o))(ho:Oo K (upd H p o) p g):Mv K H G (upd H p o) (bP G p g) where
 keep:=fun a ob e n=>by
  have ne:a≠p:=by rintro rfl; rw [hg] at n; cases n
  exact⟨by rw [bj ne]; exact e,by rw [c4 ne]; exact n⟩
 iK:=fun a n=>by
  by_cases ha:a=p
  ·subst ha; rw [bV]; simp
  ·rw [bj ha]; exact(Mv.refl h).iK a n
 ab:=fun a g' e=>by
  by_cases ha:a=p
  ·subst ha; rw [az] at e; cases e; exact ho
  ·rw [c4 ha] at e;exact(h a g' e).mono k (bj ha)
theorem jQ.lst{K:ag}{H:Hp}{G:Gp}{a:Addr}{ds:List D}(h:jQ K H G)(e:G a=some (.lst ds)):∃ vs,H a=some (.lst vs)/\a4 K H vs ds:=h a _ e
theorem Mv.GJ{K:ag}{H:Hp}{G:Gp}{p:Addr}{vs:List V}{ds:List D}(h:jQ K H G)(hp:H p=none)(r:a4 K H vs ds):Mv K H G (upd H p (.lst vs)) (bP G p (.lst ds)) :=
 .new h hp ⟨vs,bV,r.mono (.new hp)⟩
theorem Mv.putL{K:ag}{H:Hp}{G:Gp}{p:Addr}{vs0 vs:List V}{ds0 ds:List D}(h:jQ K H G)(hg:G p=some (.lst ds0))(hp:H p=some (.lst vs0))(r:a4 K H vs ds):Mv K H G (upd H p (.lst vs)) (bP G p (.lst ds)) :=
 .put h hg (.putL hp) ⟨vs,bV,r.mono (.putL hp)⟩
structure K0(K:ag)(H:Hp)(σ:L2.St)(τ:g6):Prop where
 len:σ.length=τ.length
 at':∀ (i:Nat) (d:D),τ[i]?=some (some d)->∃ v,σ[i]?=some (some v)/\bS K H v d
theorem K0.mono{K:ag}{H H':Hp}{σ:L2.St}{τ:g6}(k:Kp H H')(a:K0 K H σ τ):K0 K H' σ τ :=
 ⟨a.len,fun i d e=>let ⟨v,h1,h2⟩:=a.at' i d e; ⟨v,h1,h2.mono k⟩⟩
theorem K0.set{K:ag}{H:Hp}{σ:L2.St}{τ:g6}{v:V}{d:D}(a:K0 K H σ τ)(i:Nat)(r:bS K H v d):K0 K H (σ.set i (some v)) (τ.set i (some d)):=by
 refine⟨by rw [eR,eR]; exact a.len,fun j e h=>?_⟩;by_cases hj:i=j
 ·subst hj;by_cases hi:i < τ.length
  ·rw [eD hi] at h;cases h;exact⟨v,by rw [eD (by rw [a.len]; exact hi)],r⟩
  ·rw [List.set_eq_of_length_le (by lia)] at h;rw [gr (by lia)] at h;cases h
 ·rw [dP hj] at h;obtain⟨w,h1,h2⟩:=a.at' j e h;exact⟨w,by rw [dP hj]; exact h1,h2⟩
structure I2(X:Cx)(pins:List (Addr×Obj))(σ:L2.St)(H:Hp)(τ:g6)(G:Gp)(s:au):Prop where
 inv:Inv X pins σ H s
 st:K0 X.K H σ τ
 ab:jQ X.K H G
theorem I2.mv{X:Cx}{pins:List (Addr×Obj)}{σ:L2.St}{H H':Hp}{τ:g6}{G G':Gp}{s s':au}(I:I2 X pins σ H τ G s)(I':Inv X pins σ H' s')(m:Mv X.K H G H' G'):I2 X pins σ H' τ G' s' :=
 ⟨I',I.st.mono (m.kp I.ab),m.ab⟩
noncomputable def tF(P:bx)(w:World):Lh:=fun outer H s E e s'=>∃ (a C t:Addr) (B:Heap) (H':Hp),e=.ref a/\s'.os=s.os/\yd s'.gens/\Un (rH outer) [] H H' s.heap s'.heap/\pj P w H' s'.heap /\
 (∀ b o,s'.heap.get? b=some o->b∉rH outer->(s.heap.get? b≠none\/H' b≠none)->B.get? b=some o)/\vn B outer a (.ref C) (.ref t) s'.heap/\H' a=none/\s.heap.get? a=none/\E (.ref C) none H'
noncomputable def Vv(K:ag)(mg:Str->Option Value)(E:jz):XK:=fun cls _ H=>∃ (ex:Ex) (C:Addr) (G:Gp),cls=.ref C/\mg ex.cls=some (.ref C)/\jQ K H G/\E ex G
structure Lk(X:Cx)(E:jz):Prop where
 made:∀ (pins:List (Addr×Obj)) (σ:L2.St) (H:Hp) (s:au) (h1:Heap) (a C:Addr) (args:List Value) (ex:Ex) (G:Gp),Inv X pins σ H s->jQ X.K H G->PySem.Heap.MadeExcOf s.heap h1 a (.ref C) args->X.mg ex.cls=some (.ref C)->E ex G->X.xe (.ref a) { s with heap:=h1 }
 pass:∀ (pins:List (Addr×Obj)) (σ:L2.St) (H:Hp) (s s':au) (e:Value),Inv X pins σ H s->tF X.prog X.w X.stack H s (Vv X.K X.mg E) e s'->X.xe e s'
theorem Lk.none{X:Cx}{E:jz}(h:∀ ex G,¬ E ex G):Lk X E where
 made:=fun _ _ _ _ _ _ _ _ ex _ _ _ _ _ z=>absurd z (h ex _)
 pass:=fun _ _ _ _ _ _ _ hc=>by
  obtain⟨_,_,_,_,_,_,_,_,_,_,_,_,_,_,hz⟩:=hc;obtain⟨ex,_,_,_,_,_,z⟩:=hz;exact absurd z (h ex _)
inductive pq (X:Cx) (pins:List (Addr×Obj)) (σ:L2.St) (H:Hp) (G:Gp) (Q:DK) (u:Value) (s':au):Prop
 | mk (v:V) (H':Hp) (d:D) (G':Gp) (i:Inv X pins σ H' s') (m:Mv X.K H G H' G') (r:RelV v u) (rd:bS X.K H' v d) (q:Q d G'):pq X pins σ H G Q u s'
inductive TK (X:Cx) (pins:List (Addr×Obj)) (σ:L2.St) (H:Hp) (G:Gp) (Q:Bool->Gp->Prop) (b:Bool) (s':au):Prop
 | mk (H':Hp) (G':Gp) (i:Inv X pins σ H' s') (m:Mv X.K H G H' G') (q:Q b G'):TK X pins σ H G Q b s'
inductive AP2 (X:Cx) (pins:List (Addr×Obj)) (σ:L2.St) (H:Hp) (G:Gp) (Q:List D->Gp->Prop) (us:List Value) (s':au):Prop
 | mk (vs:List V) (H':Hp) (ds:List D) (G':Gp) (i:Inv X pins σ H' s') (m:Mv X.K H G H' G') (r:Vals vs us) (rd:a4 X.K H' vs ds) (q:Q ds G'):AP2 X pins σ H G Q us s'
inductive Wt (X:Cx) (pins:List (Addr×Obj)) (H:Hp) (G:Gp) (P:g6->Gp->Prop) (s':au):Prop
 | mk (iJ:L2.St) (H':Hp) (l7:g6) (G':Gp) (i:I2 X pins iJ H' l7 G' s') (m:Mv X.K H G H' G') (q:P l7 G'):Wt X pins H G P s'
inductive SPr (X:Cx) (pins:List (Addr×Obj)) (H:Hp) (G:Gp) (P:D->Gp->Prop) (u:Value) (s':au):Prop
 | mk (v:V) (iJ:L2.St) (H':Hp) (d:D) (G':Gp) (i:Inv X pins iJ H' s') (m:Mv X.K H G H' G') (r:RelV v u) (rd:bS X.K H' v d) (q:P d G'):SPr X pins H G P u s'
noncomputable def FE(X:Cx)(pins:List (Addr×Obj))(H:Hp)(G:Gp)(D:jA)(f:Flow)(s':au):Prop :=
 match f with
 | .next=>Wt X pins H G D.nx s'
 | .brk=>Wt X pins H G D.bk s'
 | .cont=>Wt X pins H G D.ct s'
 | .ret u=>SPr X pins H G D.rt u s'
noncomputable def gR(X:Cx)(e:Expr)(t:eZ):Prop :=
 ∀ (E:jz) (pins:List (Addr×Obj)) (s:au) (σ:L2.St) (H:Hp) (τ:g6) (G:Gp) (Q:DK),Lk X E->I2 X pins σ H τ G s->t E τ G Q->wpAny (model X.prog X.w) X.A (eval e X.env) (pq X pins σ H G Q) X.xe s
noncomputable def FF(X:Cx)(e:Expr)(t:xu):Prop :=
 ∀ (E:jz) (pins:List (Addr×Obj)) (s:au) (σ:L2.St) (H:Hp) (τ:g6) (G:Gp) (Q:Bool->Gp->Prop),Lk X E->I2 X pins σ H τ G s->t E τ G Q->wpAny (model X.prog X.w) X.A (isTrue e X.env (eval e X.env)) (TK X pins σ H G Q) X.xe s
noncomputable def Jn(X:Cx)(e:Expr)(t:xu):Prop :=
 ∀ (wh:Sem Value) (E:jz) (pins:List (Addr×Obj)) (s:au) (σ:L2.St) (H:Hp) (τ:g6) (G:Gp) (Q:Bool->Gp->Prop),Lk X E->I2 X pins σ H τ G s->t E τ G Q->wpAny (model X.prog X.w) X.A (isTrue e X.env wh) (TK X pins σ H G Q) X.xe s
noncomputable def x5(X:Cx)(es:List Expr)(t:vh):Prop :=
 ∀ (pos:Pos) (E:jz) (pins:List (Addr×Obj)) (s:au) (σ:L2.St) (H:Hp) (τ:g6) (G:Gp) (Q:List D->Gp->Prop),Lk X E->I2 X pins σ H τ G s->t E τ G Q->wpAny (model X.prog X.w) X.A (vt (fU pos (aY es X.env))) (AP2 X pins σ H G Q) X.xe s
noncomputable def Bo(X:Cx)(st:Stmt)(t:fh):Prop :=
 ∀ (E:jz) (pins:List (Addr×Obj)) (s:au) (σ:L2.St) (H:Hp) (τ:g6) (G:Gp) (D:jA),Lk X E->I2 X pins σ H τ G s->t E D τ G->wpAny (model X.prog X.w) X.A (exec st X.env) (FE X pins H G D) X.xe s
noncomputable def oN(X:Cx)(st:List Stmt)(t:fh):Prop :=
 ∀ (E:jz) (pins:List (Addr×Obj)) (s:au) (σ:L2.St) (H:Hp) (τ:g6) (G:Gp) (D:jA),Lk X E->I2 X pins σ H τ G s->t E D τ G->wpAny (model X.prog X.w) X.A (execs st X.env) (FE X pins H G D) X.xe s
theorem FE.trans{X:Cx}{pins:List (Addr×Obj)}{H H1:Hp}{G G1:Gp}{D:jA}{f:Flow}{s':au}(m:Mv X.K H G H1 G1)(h:FE X pins H1 G1 D f s'):FE X pins H G D f s':=by
 cases f with
 | next=>obtain⟨iJ,H',l7,G',I,m',q⟩:=h; exact⟨iJ,H',l7,G',I,m.trans m',q⟩
 | brk=>obtain⟨iJ,H',l7,G',I,m',q⟩:=h; exact⟨iJ,H',l7,G',I,m.trans m',q⟩
 | cont=>obtain⟨iJ,H',l7,G',I,m',q⟩:=h; exact⟨iJ,H',l7,G',I,m.trans m',q⟩
 | ret u=>obtain⟨v,iJ,H',d,G',I,m',r,rd,q⟩:=h; exact⟨v,iJ,H',d,G',I,m.trans m',r,rd,q⟩
section
variable {X:Cx} {a b c:Expr} {ta tb tc:eZ} {pos:Pos}
theorem ki{pins:List (Addr×Obj)}{σ:L2.St}{H:Hp}{τ:g6}{G:Gp}{s:au}{E:jz}{R:DK}{Q:Value->au->Prop}(ha:gR X a ta)(hE:Lk X E)(I:I2 X pins σ H τ G s)(h:ta E τ G R)
  (k:∀ v H1 d G1 u s1,I2 X pins σ H1 τ G1 s1->Mv X.K H G H1 G1->RelV v u->bS X.K H1 v d->R d G1->Q u s1):wpAny (model X.prog X.w) X.A (eval a X.env) Q X.xe s :=
 fV (ha E pins s σ H τ G R hE I h) (by rintro u s1 ⟨v,H1,d,G1,I1,m,r,rd,q⟩; exact k v H1 d G1 u s1 (I.mv I1 m) m r rd q)
theorem pq.trans{pins:List (Addr×Obj)}{σ:L2.St}{H H1:Hp}{G G1:Gp}{Q:DK}{u:Value}{s':au}(m:Mv X.K H G H1 G1)(h:pq X pins σ H1 G1 Q u s'):pq X pins σ H G Q u s':=by
 obtain⟨v,H',d,G',I,m',r,rd,q⟩:=h;exact⟨v,H',d,G',I,m.trans m',r,rd,q⟩
theorem TK.trans{pins:List (Addr×Obj)}{σ:L2.St}{H H1:Hp}{G G1:Gp}{Q:Bool->Gp->Prop}{u:Bool}{s':au}(m:Mv X.K H G H1 G1)(h:TK X pins σ H1 G1 Q u s'):TK X pins σ H G Q u s':=by
 obtain⟨H',G',I,m',r⟩:=h;exact⟨H',G',I,m.trans m',r⟩
theorem Pk {i:Nat} {x:Str} (hN:X.N[i]?=some x) (hv:Wr X.env.scope x) (hd:autoParam ((x == ("__debug__" : Str))=false) Ad._auto_1) (zL:autoParam ((x == ("__classdict__" : Str))=false) Ad._auto_1):gR X (.Name x pos) (ao i):=by
 intro E pins s σ H τ G Q hE I h;unfold ao at h;split at h
 ·rename_i d e;obtain⟨v,h1,h2⟩:=I.st.at' i d e;exact fV (RI hN hv hd zL pins s σ H (fun v' H'=>v'=v/\H'=H) I.inv ⟨v,h1,rfl,rfl⟩) fun u s1 PV=>by
   obtain⟨v',H',I1,r,e1,e2⟩:=PV;subst e1; subst e2;exact⟨_,_,d,G,I1,.refl I.ab,r,h2,h⟩
 ·exact h.elim
theorem nF{e:Expr}{v:V}{d:D}(h:PE X e (tC v))(r:∀ K H,bS K H v d):gR X e (dC d):=by
 intro E pins s σ H τ G Q hE I hq;exact fV (h pins s σ H (fun v' H'=>v'=v/\H'=H) I.inv ⟨rfl,rfl⟩) fun u s1 Yj=>by
  obtain⟨v',H',I1,rr,e1,e2⟩:=Yj;subst e1; subst e2;exact⟨_,_,d,G,I1,.refl I.ab,rr,r _ _,hq⟩
theorem aJ{i j}:gR X (.Constant (.int i) j pos) (dC (.int i)):=nF RL fun _ _=>.int i
noncomputable def tw(X:Cx)(f:Value->Value->Sem Value)(r:Ff):Prop :=
 ∀ (pins:List (Addr×Obj)) (s:au) (σ:L2.St) (H:Hp) (G:Gp) (x y:V) (dx dy:D) (v u:Value) (Q:DK),Inv X pins σ H s->jQ X.K H G->RelV x v->RelV y u->bS X.K H x dx->bS X.K H y dy->r dx dy G Q ->
  wpAny (model X.prog X.w) X.A (f v u) (pq X pins σ H G Q) X.xe s
noncomputable def tE(X:Cx)(f:Value)(r:List D->Gp->DK->Prop):Prop :=
 ∀ (pins:List (Addr×Obj)) (s:au) (σ:L2.St) (H:Hp) (G:Gp) (xs:List V) (ds:List D) (us:List Value) (Q:DK),Inv X pins σ H s->jQ X.K H G->Vals xs us->a4 X.K H xs ds->r ds G Q ->
  wpAny (model X.prog X.w) X.A (call f us) (pq X pins σ H G Q) X.xe s
noncomputable abbrev xw(K:ag)(H:Hp)(G:Gp)(Q:DK):VK:=fun v H'=>∃ d G',Mv K H G H' G'/\bS K H' v d/\Q d G'
theorem pq.of{pins:List (Addr×Obj)}{σ:L2.St}{H:Hp}{G:Gp}{Q:DK}{u:Value}{s':au}(h:EP X pins σ (xw X.K H G Q) u s'):pq X pins σ H G Q u s':=by
 obtain⟨v,H',I,r,d,G',m,rd,q⟩:=h;exact⟨v,H',d,G',I,m,r,rd,q⟩
theorem QZ(ha:gR X a ta)(hb:gR X b tb){E:jz}{pins:List (Addr×Obj)}{s:au}{σ:L2.St}{H:Hp}{τ:g6}{G:Gp}{R:D->D->Gp->Prop}(hE:Lk X E)(I:I2 X pins σ H τ G s)
  (h:ta E τ G fun x G1=>tb E τ G1 fun y G2=>R x y G2) {Q:Value->au->Prop} {f:Value->Value->Sem Value}
  (hf:∀ v u s2 x y dx dy H2 G2,I2 X pins σ H2 τ G2 s2->Mv X.K H G H2 G2->RelV x v->RelV y u->bS X.K H2 x dx->bS X.K H2 y dy->R dx dy G2->wpAny (model X.prog X.w) X.A (f v u) Q X.xe s2) :
  wpAny (model X.prog X.w) X.A (eval a X.env) (fun v dh=>wpAny (model X.prog X.w) X.A (eval b X.env) (fun u iF=>wpAny (model X.prog X.w) X.A (f v u) Q X.xe iF) X.xe dh) X.xe s:=by
 refine ki ha hE I h fun x H1 dx G1 v s1 I1 m1 r1 km q1=>?_;refine ki hb hE I1 q1 fun y H2 dy G2 u s2 kd m2 r2 Fy q2=>?_;exact hf v u s2 x y dx dy H2 G2 kd (m1.trans m2) r1 r2 (km.mono (m2.kp I1.ab)) Fy q2
theorem bB{op:Operator}{r:Ff}(ho:tw X (jG op) r)(ha:gR X a ta)(hb:gR X b tb):gR X (.BinOp a op b pos) (a9 r ta tb):=by
 intro E pins s σ H τ G Q hE I h;exact wpAny_BinOp (QZ ha hb hE I h fun v u s2 x y dx dy H2 G2 kd m rx ry dX dY q=>fV (ho pins s2 σ H2 G2 x y dx dy v u Q kd.inv kd.ab rx ry dX dY q) fun _ _ z=>z.trans m)
end
theorem T5{K:ag}{H:Hp}{G:Gp}{x:V}{d:D}{k:Bool}(ab:jQ K H G)(r:bS K H x d)(e:Gs d G=some k):(∃ p,x=.ref p/\Rd H p (.dT [])/\k=false)\/(∃ p kv,x=.ref p/\Rd H p (.dK kv)/\k=!kv.isEmpty)\/S7 K x H k:=by
 have NP:∀ a0:List (D×D),(if (a0.all fun p=>dw p.1)=true then some (!a0.isEmpty) else none)=some k->∀ p,((∃ kv,Rd H p (.dK kv)/\oO K H kv a0)\/∃ kv,Rd H p (.dT kv)/\pH K H kv a0) ->
   (∃ p',V.ref p=.ref p'/\Rd H p' (.dT [])/\k=false)\/(∃ p' kv,V.ref p=.ref p'/\Rd H p' (.dK kv)/\k=!kv.isEmpty)\/S7 K (.ref p) H k:=by
  intro a0 e p z;by_cases ha:(a0.all fun p=>dw p.1)=true
  ·rw [if_pos ha] at e;cases e;rcases z with ⟨kv,hv,rs⟩ | ⟨kv,hv,rs⟩
   ·right; left;refine⟨p,kv,rfl,hv,?_⟩;cases rs <;> rfl
   ·left;cases rs with
    | nil=>exact⟨p,rfl,hv,rfl⟩
    | cons _ _=>simp [dw] at ha
  ·rw [if_neg ha] at e; cases e
 cases r with
 | dI=>right; right; cases e; rfl
 | bl b=>right; right; cases e; rfl
 | int i=>right; right; cases e; rfl
 | str y =>
  right; right;unfold Gs at e;dsimp only at e;by_cases h:y.length<=SZ
  ·rw [if_pos h] at e; cases e; exact⟨by rw [cm]; exact h,rfl⟩
  ·rw [if_neg h] at e; cases e
 | tup h rs =>
  right; right;cases e;refine .inr (.inl ⟨_,.of h,?_⟩);cases rs <;> rfl
 | da h rs =>
  right; right;cases e;refine .inl ⟨_,h.sq,?_⟩;cases rs <;> rfl
 | pW h rs=>exact NP _ e _ (.inl ⟨_,.inr ⟨_,h⟩,rs⟩)
 | pV h rs=>exact NP _ e _ (.inr ⟨_,.inr ⟨_,h⟩,rs⟩)
 | exc h=>simp [Gs] at e
 | zM h _=>simp [Gs] at e
 | AQ _ _ _ _=>simp [Gs] at e
 | ref a =>
  unfold Gs at e;dsimp only at e;cases q:G a with
  | none=>rw [q] at e; cases e
  | some g =>
   rw [q] at e;have z:=ab a g q;cases g with
   | lst ds =>
    right; right;obtain⟨vs,hv,rs⟩:=z;cases e;refine .inl ⟨vs,.of hv,?_⟩;cases rs <;> rfl
   | ins _ _=>cases e
   | Ht _=>cases e
   | jP a0 =>
    refine NP a0 e a ?_;rcases z with ⟨kv,hv,rs⟩ | ⟨kv,hv,rs⟩
    ·exact .inl ⟨kv,.inl hv,rs⟩
    ·exact .inr ⟨kv,.inl hv,rs⟩
section
variable {X:Cx} {a b c:Expr} {ta tb tc:eZ} {pos:Pos}
noncomputable def VF(X:Cx):Prop:=∀ (pins:List (Addr×Obj)) (s:au) (σ:L2.St) (H:Hp) (G:Gp) (x:V) (d:D) (v:Value) (k:Bool) (Q:Bool->au->Prop),Inv X pins σ H s->jQ X.K H G->RelV x v->bS X.K H x d->Gs d G=some k ->
  (∀ s',Inv X pins σ H s'->Q k s')->wpAny (model X.prog X.w) X.A (truthy v) Q X.xe s
theorem T6:VF X:=by
 intro pins s σ H G x d v k Q I ab rx rd e q;rcases T5 ab rd e with ⟨p,rfl,hv,hk⟩ | ⟨p,kv,rfl,hv,hk⟩ | h
 ·obtain⟨z,hS,xs,rel,o,es,ep,ho,hx,Ks,hl,nd⟩:=hv.ok I.cF;have X1:xs=[]:=by cases rel; rfl
  subst X1;have he:es=#[]:=by simpa using hl
  subst he;cases rx;have dd:s.heap.DictOf (eV X.prog X.w) p []:=⟨o,#[],ep,ho,hx,Ks,(fun _ h=>by simp at h),.nil,c9⟩;refine FI hS dd (by simp) ?_;subst hk;exact q _ (I.tok _)
 ·cases rx;subst hk;exact P7 I hv q
 ·exact fV (Rt pins s σ H x v (fun k' H'=>k'=k/\H'=H) I rx ⟨k,h,rfl,rfl⟩) fun k' s' PV=>by
   obtain⟨H',I',e1,e2⟩:=PV;subst e1; subst e2; exact q s' I'
theorem gc(ha:gR X a ta)(he:autoParam (∀ whole,isTrue a X.env whole=(do let v ← whole; standAt a.pos; su [v] (truthy v))) Ai._auto_1):FF X a (fQ ta):=by
 intro E pins s σ H τ G Q hE I h;refine isTrue_plain (ki ha hE I h fun x H1 d G1 v s1 I1 m1 r1 km q1=>?_) (he _)
 try dsimp only at q1
 split at q1
 ·rename_i k e;exact T6 pins s1 σ H1 G1 x d v k _ I1.inv I1.ab r1 km e fun s' I'=>⟨H1,G1,I',m1,q1⟩
 ·exact q1.elim
theorem c5{op:CmpOp}{r:Ff}(ho:tw X (eO op) r)(ha:gR X a ta)(hb:gR X b tb)(hm:behindInMarks op b=false):FF X (.Compare a [op] [b] pos) (fQ (a9 r ta tb)):=by
 intro E pins s σ H τ G Q hE I h;refine wpAny_isTrue_Compare1 (ki ha hE I h fun x H1 dx G1 v s1 I1 m1 r1 km q1=>ki hb hE I1 q1 fun y H2 dy G2 u s2 kd m2 r2 Fy q2 =>
  fV (ho pins s2 σ H2 G2 x y dx dy v u _ kd.inv kd.ab r1 r2 (km.mono (m2.kp I1.ab)) Fy q2) ?_) hm
 rintro c s3 ⟨z,H3,dz,G3,I3,m3,r3,WY,q3⟩
 try dsimp only at q3
 split at q3
 ·rename_i k e;exact T6 pins s3 σ H3 G3 z dz c k _ I3 m3.ab r3 WY e fun s' I'=>⟨H3,G3,I',(m1.trans m2).trans m3,q3⟩
 ·exact q3.elim
variable {tA tB:xu} {rest:List Expr}
theorem Jn.pt{e:Expr}{t:xu}(h:Jn X e t):FF X e t:=fun E pins s σ H τ G Q hE I q=>h _ E pins s σ H τ G Q hE I q
theorem JJ{pins:List (Addr×Obj)}{σ:L2.St}{H:Hp}{τ:g6}{G:Gp}{s:au}{E:jz}{R:Bool->Gp->Prop}{Q:Bool->au->Prop}(ha:FF X a tA)(hE:Lk X E)(I:I2 X pins σ H τ G s)(h:tA E τ G R)
  (k:∀ c H1 G1 s1,I2 X pins σ H1 τ G1 s1->Mv X.K H G H1 G1->R c G1->Q c s1):wpAny (model X.prog X.w) X.A (isTrue a X.env (eval a X.env)) Q X.xe s :=
 fV (ha E pins s σ H τ G R hE I h) (by rintro c s1 ⟨H1,G1,I1,m,q⟩; exact k c H1 G1 s1 (I.mv I1 m) m q)
theorem D0(ha:FF X a tA):Jn X (.BoolOp .And [a] pos) tA:=by
 intro wh E pins s σ H τ G Q hE I h;refine isTrue_and (fV (ha E pins s σ H τ G Q hE I h) fun c s1 e=>?_);cases c with
 | true=>exact isTrue_and_nil e
 | false=>exact e
theorem xK(ha:FF X a tA):Jn X (.BoolOp .Or [a] pos) tA:=by
 intro wh E pins s σ H τ G Q hE I h;refine isTrue_or (fV (ha E pins s σ H τ G Q hE I h) fun c s1 e=>?_);cases c with
 | false=>exact isTrue_or_nil e
 | true=>exact e
theorem Im(ha:FF X a tA)(hb:Jn X (.BoolOp .And (b :: rest) pos) tB):Jn X (.BoolOp .And (a :: b :: rest) pos) (Hw tA tB):=by
 intro wh E pins s σ H τ G Q hE I h;refine isTrue_and (JJ ha hE I h fun c H1 G1 s1 I1 m1 q1=>?_);cases c with
 | true=>exact fV (hb wh E pins s1 σ H1 τ G1 Q hE I1 (by simpa using q1)) fun _ _ z=>z.trans m1
 | false=>exact⟨H1,G1,I1.inv,m1,by simpa using q1⟩
theorem vF(ha:FF X a tA)(hb:Jn X (.BoolOp .Or (b :: rest) pos) tB):Jn X (.BoolOp .Or (a :: b :: rest) pos) (NV tA tB):=by
 intro wh E pins s σ H τ G Q hE I h;refine isTrue_or (JJ ha hE I h fun c H1 G1 s1 I1 m1 q1=>?_);cases c with
 | false=>exact fV (hb wh E pins s1 σ H1 τ G1 Q hE I1 (by simpa using q1)) fun _ _ z=>z.trans m1
 | true=>exact⟨H1,G1,I1.inv,m1,by simpa using q1⟩
theorem mi(ha:FF X a tA):FF X (.UnaryOp .Not a pos) (rJ tA):=by
 intro E pins s σ H τ G Q hE I h;exact isTrue_not (fV (ha E pins s σ H τ G (fun c H1=>Q (!c) H1) hE I h) (by rintro c s' ⟨H',G',i,m,q⟩; exact⟨H',G',i,m,q⟩))
variable {e:Expr} {es:List Expr} {te:eZ} {t:vh}
theorem aF:x5 X [] aW:=fun _ _ _ _ _ H _ G Q _ I h=>iX ⟨[],H,[],G,I.inv,.refl I.ab,.nil,.nil,h⟩
theorem ah(ha:gR X e te)(hr:x5 X es t)(hs:autoParam (aY (e :: es) X.env=(false,eval e X.env) :: aY es X.env) Ar._auto_1):x5 X (e :: es) (ax te t):=by
 intro pos E pins s σ H τ G Q hE I h;rw [hs];show wpAny _ _ (vt ((false,eval e X.env) :: fU pos (aY es X.env))) _ _ s;refine dG (ki ha hE I h fun x H1 d G1 u s1 I1 m1 r1 km q1=>?_);exact fV (hr pos E pins s1 σ H1 τ G1 _ hE I1 q1) (by rintro us s2 ⟨xs,H2,ds,G2,kd,m2,r2,Fy,q2⟩; exact⟨x :: xs,H2,d :: ds,G2,kd,m1.trans m2,.cons r1 r2,.cons (km.mono (m2.kp I1.ab)) Fy,q2⟩)
theorem rC{pins:List (Addr×Obj)}{σ:L2.St}{H:Hp}{τ:g6}{G:Gp}{s:au}{E:jz}{R:List D->Gp->Prop}{Q:List Value->au->Prop}(ha:x5 X es t)(pos:Pos)(hE:Lk X E)(I:I2 X pins σ H τ G s)(h:t E τ G R)
  (k:∀ vs H1 ds G1 us s1,I2 X pins σ H1 τ G1 s1->Mv X.K H G H1 G1->Vals vs us->a4 X.K H1 vs ds->R ds G1->Q us s1):wpAny (model X.prog X.w) X.A (vt (fU pos (aY es X.env))) Q X.xe s :=
 fV (ha pos E pins s σ H τ G R hE I h) (by rintro us s1 ⟨vs,H1,ds,G1,I1,m,r,rd,q⟩; exact k vs H1 ds G1 us s1 (I.mv I1 m) m r rd q)
theorem gB{x1}(h:x5 X es t):gR X (.Tuple es x1 pos) (jJ t):=by
 intro E pins s σ H τ G Q hE I hq;refine wpAny_Tuple_spliced (rC h pos hE I hq ?_);rintro xs H1 ds G1 us s1 I1 m1 r rd ⟨z,q⟩;refine⟨by rw [<-r.length,rd.length,cm]; exact z,?_⟩;have hf:H1 s1.heap.objs.size=none:=I1.inv.cF.fresh (aQ _);refine⟨.ref s1.heap.objs.size,upd H1 s1.heap.objs.size (.tup xs),.tup ds,G1,I1.inv.laid (t':=s1.toks) (fun b u e=>aA _ e) (aQ _) ?_,m1.trans (.Ld I1.ab hf),rfl,?_,q⟩
 ·exact⟨by rw [rd.length,cm]; exact z,us,r,⟨_,bE _ rfl,rfl,_,rfl⟩⟩
 ·exact .tup bV (rd.mono (.new hf))
theorem eF(h:x5 X es t):gR X (.List es pos) (gE t):=by
 intro E pins s σ H τ G Q hE I hq;refine wpAny_List_spliced (rC h pos hE I hq ?_);rintro xs H1 ds G1 us s1 I1 m1 r rd ⟨z,q⟩;refine⟨by rw [<-r.length,rd.length,cm]; exact z,?_⟩;have hf:H1 s1.heap.objs.size=none:=I1.inv.cF.fresh (aQ _);refine⟨.ref s1.heap.objs.size,upd H1 s1.heap.objs.size (.lst xs),.ref _,bP G1 s1.heap.objs.size (.lst ds),I1.inv.laid (t':=s1.toks) (fun b u e=>aA _ e) (aQ _) ?_,m1.trans (.GJ I1.ab hf rd),rfl,.ref _,q _ (I1.ab.free hf)⟩;exact⟨by rw [rd.length,cm]; exact z,us,0,r,bE _ rfl⟩
noncomputable def cx(K:ag)(sp:gM):Sp:=fun vs H Q _=>∃ ds G Q2,a4 K H vs ds/\jQ K H G/\sp ds G Q2 (fun _ _=>False)/\∀ d G' v H',Q2 d G'->Mv K H G H' G'->bS K H' v d->Q v H'
variable {k:Nat} {f:Addr} {fd:ak} {ps:List Str} {sp:gM} {x:Str} {p:Pos} {r:List D->Gp->DK->Prop} {id:String}
theorem MD(F:cU X.prog X.w X.K X.mg X.base ff k f fd ps (cx X.K sp))(hr:fk k X.A)(hg:Gl X x)(hm:X.mg x=some (.ref f))(hk:cH X.K (.ref f)=true)(hb:Binds X.K fd ps [])
  (ha:x5 X (e :: es) t) (uS:autoParam ((x == ("__debug__" : Str))=false) Ad._auto_1) (he:autoParam (aY (e :: es) X.env=(false,eval e X.env) :: aY es X.env) Ar._auto_1) (oC:autoParam ((fU pos (aY es X.env)).any (·.1)=false) Ar._auto_1) :
  gR X (.Call (.Name x p) (e :: es) [] pos) (fun E τ G Q=>bK (fun ds G1 Q1 _=>sp ds G1 Q1 fun _ _=>False) t E τ G Q):=by
 intro E pins s σ H τ G Q hE I h;refine bZ (j9 I.inv hg hm ?_ uS);refine eQ (h₀:=X.base) I.inv.ok.mod.Lc hk (rC ha pos hE I h fun vs H1 ds G1 us s1 I1 m1 r rd q=>⟨I1.inv.qr,?_⟩) he oC;refine fV (sF F hr hb .nil D5 I1.inv r (Q:=xw X.K H1 G1 Q) ?_) fun _ _ z=>(pq.of z).trans m1;rw [bW];exact⟨ds,G1,Q,rd,I1.ab,q,fun d G' v H' q' m' xH=>⟨d,G',m',xH,q'⟩⟩
theorem c8 (hc:tE X (.builtin id) r) (hg:Gl X x) (hm:X.mg x=none) (hv:dF x=some (.builtin id)) (ha:x5 X (e :: es) t) (hn:autoParam (x≠"__name__") Ad._auto_1) (uS:autoParam ((x == ("__debug__" : Str))=false) Ad._auto_1)
  (he:autoParam (aY (e :: es) X.env=(false,eval e X.env) :: aY es X.env) Ar._auto_1) (oC:autoParam ((fU pos (aY es X.env)).any (·.1)=false) Ar._auto_1):gR X (.Call (.Name x p) (e :: es) [] pos) (nS r t):=by
 intro E pins s σ H τ G Q hE I h;refine bZ (kA I.inv hg hm hv ?_ hn uS);exact gu (rC ha pos hE I h fun vs H1 ds G1 us s1 I1 m1 r1 km q1=>fV (hc pins s1 σ H1 G1 vs ds us Q I1.inv I1.ab r1 km q1) fun _ _ z=>z.trans m1) he oC
variable {st:Stmt} {Zq:List Stmt} {u v:fh}
theorem cP:oN X [] cK:=fun _ _ _ σ H τ G _ _ I h=>jc ⟨σ,H,τ,G,I,.refl I.ab,h⟩
theorem aE(h1:Bo X st u)(h2:oN X Zq v):oN X (st :: Zq) (bR u v):=by
 intro E pins s σ H τ G D hE I h;refine wt (fV (h1 E pins s σ H τ G { D with nx:=v E D } hE I h) fun f s1 q=>?_);cases f with
 | next =>
  obtain⟨iJ,H',l7,G',I',m,q⟩:=q;exact fV (h2 E pins s1 iJ H' l7 G' D hE I' q) fun _ _ z=>z.trans m
 | ret v=>exact q
 | brk=>exact q
 | cont=>exact q
theorem aI(h1:Bo X st u):oN X [st] u:=by
 intro E pins s σ H τ G D hE I h;refine wt (fV (h1 E pins s σ H τ G D hE I h) fun f s1 q=>?_);cases f with
 | next=>exact jc q
 | ret v=>exact q
 | brk=>exact q
 | cont=>exact q
theorem bI(he:gR X e te):Bo X (.Return (some e) pos) (cb te):=by
 intro E pins s σ H τ G D hE I h;exact wpAny_Return_some (fV (he E pins s σ H τ G _ hE I h) (by rintro v s1 ⟨x,H1,d,G1,I1,m,r1,rd,q1⟩; exact⟨x,σ,H1,d,G1,I1,m,r1,rd,q1⟩))
theorem eM{sa sb:List Stmt}(hc:FF X c tA)(ha:oN X sa u)(hb:oN X sb v):Bo X (.If c sa sb pos) (eE tA u v):=by
 intro E pins s σ H τ G D hE I h;refine wpAny_If (JJ hc hE I h fun d H1 G1 s1 I1 m1 q1=>?_);cases d with
 | true=>exact fV (ha E pins s1 σ H1 τ G1 D hE I1 (by simpa using q1)) fun _ _ z=>z.trans m1
 | false=>exact fV (hb E pins s1 σ H1 τ G1 D hE I1 (by simpa using q1)) fun _ _ z=>z.trans m1
noncomputable def Lg(X:Cx)(target:Expr)(t:Bn):Prop :=
 ∀ (E:jz) (pins:List (Addr×Obj)) (s:au) (σ:L2.St) (H:Hp) (τ:g6) (G:Gp) (w:V) (d:D) (u:Value) (Q:g6->Gp->Prop),Lk X E->I2 X pins σ H τ G s->RelV w u->bS X.K H w d->t E d τ G Q ->
  wpAny (model X.prog X.w) X.A (Lu target X.env u) (fun _ s'=>∃ iJ H' l7 G',I2 X pins iJ H' l7 G' s'/\Mv X.K H G H' G'/\Q l7 G') X.xe s
noncomputable def Qj(X:Cx)(ts:List Expr)(t:C7):Prop :=
 ∀ (E:jz) (pins:List (Addr×Obj)) (s:au) (σ:L2.St) (H:Hp) (τ:g6) (G:Gp) (ws:List V) (ds:List D) (us:List Value) (Q:g6->Gp->Prop),Lk X E->I2 X pins σ H τ G s->Vals ws us->a4 X.K H ws ds->t E ds τ G Q ->
  wpAny (model X.prog X.w) X.A (assignInOrder ((zI ts X.env).map (·.2)) us) (fun _ s'=>∃ iJ H' l7 G',I2 X pins iJ H' l7 G' s'/\Mv X.K H G H' G'/\Q l7 G') X.xe s
theorem Mx{i:Nat}{x:Str}(hN:X.N.Nodup)(hi:X.N[i]?=some x)(hx:Loc X.env.scope x)(hf:autoParam (X.fn x=true\/X.env.scope.names.lookup x=some .local) Ao._auto_1):Lg X (.Name x pos) (aR i):=by
 intro E pins s σ H τ G w d u Q hE I r rd h;exact wpAny_assign_Name (yf I.inv hN hi hx r (fun s' I'=>⟨_,H,_,G,⟨I',I.st.set i rd,I.ab⟩,.refl I.ab,h⟩) hf)
theorem yv:Qj X [] z4:=by
 intro E pins s σ H τ G ws ds us Q hE I r rd h;unfold z4 at h;split at h
 ·have e:=rd.zero;subst e;cases r;exact assignInOrder_nil ⟨σ,H,τ,G,I,.refl I.ab,h⟩
 ·exact h.elim
theorem jV{t:Bn}{u:C7}(h1:Lg X e t)(h2:Qj X es u)
  (hs:autoParam ((zI (e :: es) X.env).map (·.2)=Lu e X.env :: (zI es X.env).map (·.2)) Ar._auto_1):Qj X (e :: es) (lN t u):=by
 intro E pins s σ H τ G ws ds us Q hE I r rd h;unfold lN at h;split at h
 ·cases rd with
  | cons km Fy =>
   cases r with
   | cons r1 r2 =>
    rw [hs];refine assignInOrder_cons (fV (h1 E pins s σ H τ G _ _ _ _ hE I r1 km h) ?_);rintro _ s1 ⟨VP,H1,tQ,G1,I1,m1,q1⟩;exact fV (h2 E pins s1 VP H1 tQ G1 _ _ _ Q hE I1 r2 (Fy.mono (m1.kp I.ab)) q1) (by rintro _ _ ⟨WK,H2,AJ,G2,kd,m2,q2⟩; exact⟨WK,H2,AJ,G2,kd,m1.trans m2,q2⟩)
 ·exact h.elim
theorem Ce{k:Nat}{t:C7}{n:Nat}(hc:X.calm=true)(h:Qj X es t)(hgl:∀ E ds τ G Q,t E ds τ G Q->ds.length=n)
  (hn:autoParam ((zI es X.env).length=n) Ar._auto_1) (zZ:autoParam ((zI es X.env).findIdx? (·.1)=none) Ar._auto_1):Lg X (.Tuple es k pos) (CA t):=by
 intro E pins s σ H τ G w d u Q hE I r rd hw;unfold CA at hw;split at hw
 ·cases rd with
  | tup hq rs =>
   cases r;obtain⟨its,rv,ht,hz⟩:=I.inv.tuple (.of hq);refine assign_Tuple_tuple (I.inv.ok.hd hc) ht (by rw [hn,aM,<-rv.length,rs.length]; exact(hgl _ _ _ _ _ hw).symm) zZ fun h' hx=>?_;have I1:Inv X pins σ H { s with heap:=h' }:=I.inv.kept (t':=s.toks) fun b o e=>hx b o (bq (aL e)) e;exact h E pins _ σ H τ G _ _ _ Q hE ⟨I1,I.st,I.ab⟩ (by simpa using rv) rs hw
 ·exact hw.elim
theorem y2:∀ E ds τ G Q,z4 E ds τ G Q->ds.length=0:=by
 intro E ds τ G Q h;cases ds with
 | nil=>rfl
 | cons _ _=>exact h.elim
theorem Kv{t:Bn}{u:C7}{n:Nat}(h:∀ E ds τ G Q,u E ds τ G Q->ds.length=n)(hm:∀ E d τ G (Q Q':g6->Gp->Prop),t E d τ G Q->(∀ l7 G',Q l7 G'->Q' l7 G')->t E d τ G Q')(hx:∀ E d τ G,¬ t E d τ G fun _ _=>False) :
  ∀ E ds τ G Q,lN t u E ds τ G Q->ds.length=n+1:=by
 intro E ds τ G Q q;cases ds with
 | nil=>exact q.elim
 | cons d ds =>
  by_cases hl:ds.length=n
  ·rw [af,hl]
  ·exact absurd (hm E d τ G _ (fun _ _=>False) q fun l7 G' z=>hl (h _ _ _ _ _ z)) (hx E d τ G)
theorem xM{tg:Expr}{g:Bn}(he:gR X e te)(hg:Lg X tg g)(hs:autoParam (swapsWithSole [tg] e pos.line X.env=pure false) Ar._auto_1)(hw:autoParam (swappedStores [tg] e X.env=pure none) Ar._auto_1)
  (h1:autoParam ((zI [tg] X.env).map (·.2)=[Lu tg X.env]) Ar._auto_1):Bo X (.Assign [tg] e pos) (bY te g):=by
 intro E pins s σ H τ G D hE I h;refine wpAny_Assign_stores (ki he hE I h fun x H1 d G1 v s1 I1 m1 r1 km q1=>?_) hs hw;rw [h1];exact fV (hg E pins s1 σ H1 τ G1 x d v _ hE I1 r1 km q1) (by rintro _ s2 ⟨WK,H2,AJ,G2,kd,m2,q2⟩; exact⟨WK,H2,AJ,G2,kd,m1.trans m2,q2⟩)
theorem Ph{i:Nat}{x:Str}{pos':Pos}(hN:X.N.Nodup)(hi:X.N[i]?=some x)(hx:Loc X.env.scope x)(he:gR X e te)(hs:autoParam (x8 e (some (.Name x pos')) pos.line X.env=pure false) Ar._auto_1)(hf:autoParam (X.fn x=true\/X.env.scope.names.lookup x=some .local) Ao._auto_1) :
  Bo X (.Assign [.Name x pos'] e pos) (bY te (aR i)):=by
 intro E pins s σ H τ G D hE I h;refine wpAny_Assign_Name (ki he hE I h fun y H1 d G1 v s1 I1 m1 r1 km q1=>?_) hs;exact yf I1.inv hN hi hx r1 (fun s2 kd=>⟨_,H1,_,G1,⟨kd,I1.st.set i km,I1.ab⟩,m1,q1⟩) hf
theorem gU(he:gR X e te)(hs:autoParam (x8 e none pos.line X.env=pure false) Ar._auto_1):Bo X (.Expr e pos) (fJ te):=by
 intro E pins s σ H τ G D hE I h;exact wpAny_Expr_any (ki he hE I h fun y H1 d G1 v s1 I1 m1 r1 km q1=>⟨σ,H1,τ,G1,I1,m1,q1⟩) I.inv.quiet hs
end
noncomputable def Q4(K:ag)(J:It)(H':Hp)(ds:List D)(ok:Gp->Prop):Prop :=
 ∀ i H1 G1,Kp H' H1->jQ K H1 G1->ok G1->(∀ d,ds[i]?=some d->J.go i H1/\∀ x H2,J.Zm i H1 x H2->bS K H2 x d/\Mv K H1 G1 H2 G1)/\(ds.length<=i->J.stop i H1)
inductive KO (X:Cx) (pins:List (Addr×Obj)) (σ:L2.St) (tg:Expr) (H:Hp) (G:Gp) (R:List D->(Gp->Prop)->Gp->Prop) (QI:Value) (s2:au):Prop
 | mk (it:Addr) (fp:List Addr) (tn:Nat->Heap->Prop) (J:It) (H':Hp) (G':Gp) (ds:List D) (ok:Gp->Prop) (e:QI=.ref it) (i:Inv X pins σ H' s2) (m:Mv X.K H G H' G') (T:Turn X.prog X.w X.K tg J fp it tn) (t0:tn 0 s2.heap) (f:∀ b∈fp,pG X pins H' b)
  (wk:Q4 X.K J H' ds ok) (q:R ds ok G'):KO X pins σ tg H G R QI s2
noncomputable def Q6(X:Cx)(tg iter:Expr)(wi:Q5):Prop :=
 ∀ (E:jz) (pins:List (Addr×Obj)) (s:au) (σ:L2.St) (H:Hp) (τ:g6) (G:Gp) (R:List D->(Gp->Prop)->Gp->Prop),Lk X E->I2 X pins σ H τ G s->wi E τ G R ->
  wpAny (model X.prog X.w) X.A (eval iter X.env) (fun v s1=>wpAny (model X.prog X.w) X.A (pyIter v) (KO X pins σ tg H G R) X.xe s1) X.xe s
section
variable {X:Cx} {tg:Expr} {a b:Expr} {ta tb:eZ} {pos p:Pos}
theorem IC{pins:List (Addr×Obj)}{σ:L2.St}{H H1:Hp}{G G1:Gp}{s1:au}{l:Addr}{vs:List V}{ds:List D}{ok:Gp->Prop}{R:List D->(Gp->Prop)->Gp->Prop}(I1:Inv X pins σ H1 s1)(m:Mv X.K H G H1 G1)(hq:wZ X.K H1 l vs)
  (hk:∀ H2 G2,Kp H1 H2->jQ X.K H2 G2->ok G2->∃ ws,wZ X.K H2 l ws/\a4 X.K H2 ws ds) (q:R ds ok G1):wpAny (model X.prog X.w) X.A (pyIter (.ref l)) (KO X pins σ tg H G R) X.xe s1:=by
 obtain⟨its,rv,pl,hz⟩:=I1.list hq;refine FK pl.isList ?_;refine⟨s1.heap.objs.size,[s1.heap.objs.size],_,_,H1,G1,ds,ok,rfl,I1.kept (t':=s1.toks) fun b o e=>aA _ e,m,JF l _,⟨_,bE _ rfl,rfl,rfl⟩,fun b hb=>?_,fun i H2 G2 k ab o=>?_,q⟩
 ·have e:b=s1.heap.objs.size:=by simpa using hb
  subst e;exact I1.NB (aQ _) (I1.cF.fresh (aQ _))
 ·obtain⟨ws,hw,rd⟩:=hk H2 G2 k ab o;refine⟨fun d hd=>?_,fun hl=>⟨ws,hw,by rw [rd.length]; exact hl⟩⟩;obtain⟨v,hv,r⟩:=rd.get hd;refine⟨⟨ws,v,hw,hv⟩,?_⟩;rintro x H3 ⟨e,y⟩;subst e;have:=y ws hw;rw [hv] at this;cases this;exact⟨r,.refl ab⟩
theorem Rq{pins:List (Addr×Obj)}{σ:L2.St}{H H1:Hp}{G G1:Gp}{s1:au}{l:Addr}{vs:List V}{ds:List D}{R:List D->(Gp->Prop)->Gp->Prop}(I1:Inv X pins σ H1 s1)(m:Mv X.K H G H1 G1)(hq:zx X.K H1 l vs)(rd:a4 X.K H1 vs ds)
  (q:R ds (fun _=>True) G1):wpAny (model X.prog X.w) X.A (pyIter (.ref l)) (KO X pins σ tg H G R) X.xe s1:=by
 obtain⟨its,rv,pl,hz⟩:=I1.tuple hq;refine wpAny_pyIter_tuple (show s1.heap.IsTuple l its.toArray from pl) ?_;refine⟨s1.heap.objs.size,[s1.heap.objs.size],_,_,H1,G1,ds,_,rfl,I1.kept (t':=s1.toks) fun b o e=>aA _ e,m,Gn l _,⟨_,bE _ rfl,rfl,rfl⟩,fun b hb=>?_,fun i H2 G2 k ab _=>?_,q⟩
 ·have e:b=s1.heap.objs.size:=by simpa using hb
  subst e;exact I1.NB (aQ _) (I1.cF.fresh (aQ _))
 ·have hw:=k.sqT hq;have Fy:=rd.mono k;refine⟨fun d hd=>?_,fun hl=>⟨vs,hw,by rw [rd.length]; exact hl⟩⟩;obtain⟨v,hv,r⟩:=Fy.get hd;refine⟨⟨vs,v,hw,hv⟩,?_⟩;rintro x H3 ⟨e,y⟩;subst e;have:=y vs hw;rw [hv] at this;cases this;exact⟨r,.refl ab⟩
theorem dZ(ha:gR X a ta):Q6 X tg a (kW ta):=by
 intro E pins s σ H τ G R hE I h;refine ki ha hE I h fun x H1 d G1 v s1 I1 m1 r1 km q1=>?_;cases km with
 | tup hq rs=>cases r1; exact Rq I1.inv m1 (.of hq) rs q1
 | da hq rs=>cases r1; exact IC I1.inv m1 hq.sq (fun H2 G2 k ab _=>⟨_,(k.Ti hq).sq,rs.mono k⟩) q1
 | ref p =>
  cases r1;dsimp only at q1;split at q1
  ·rename_i ds e;obtain⟨vs,hv,rs⟩:=I1.ab.lst e;refine IC I1.inv m1 (.of hv) (fun H2 G2 k ab o=>?_) q1;obtain⟨ws,hw,rE⟩:=ab.lst o;exact⟨ws,.of hw,rE⟩
  ·exact q1.elim
 | pW _ _=>exact q1.elim
 | pV _ _=>exact q1.elim
 | dI=>exact q1.elim
 | bl _=>exact q1.elim
 | int _=>exact q1.elim
 | str _=>exact q1.elim
 | exc _=>exact q1.elim
 | zM _ _=>exact q1.elim
 | AQ _ _ _ _=>exact q1.elim
theorem RE{pins:List (Addr×Obj)}{σ:L2.St}{H H1:Hp}{G G1:Gp}{s:au}{R:List D->(Gp->Prop)->Gp->Prop}{lo hi:Int}{t u v:Tok}{tk:Nat}(I:Inv X pins σ H1 s)(m:Mv X.K H G H1 G1)(h1:-(2 ^ 62)<=lo)(h2:lo < 2 ^ 62)(h3:-(2 ^ 62)<=hi)(h4:hi < 2 ^ 62)
  (q:R (jT lo (hi - lo).toNat) (fun _=>True) G1):wpAny (model X.prog X.w) X.A (pyIter (.ref s.heap.objs.size)) (KO X pins σ tg H G R) X.xe { s with heap:=s.heap.push { cls:=.type "range",data:=.fields #[.int lo t,.int hi u,.int 1 v] },toks:=tk }:=by
 refine fV (Mf (tg:=tg) I h1 h2 h3 h4 (R:=fun J H'=>J=Za lo (hi - lo).toNat/\H'=H1) ⟨rfl,rfl⟩) ?_;rintro QI s2 ⟨it,fp,tn,J,H',e,kd,T,st,fo,eJ,eH⟩;subst eJ; subst eH;refine⟨it,fp,tn,_,H',G1,_,_,e,kd,m,T,st,fo,fun i H2 G2 k ab _=>⟨fun d hd=>?_,fun hl=>?_⟩,q⟩
 ·unfold jT at hd;rw [du] at hd;cases Wa:(ft (hi - lo).toNat)[i]? with
  | none=>rw [Wa] at hd; cases hd
  | some j =>
   rw [Wa] at hd;obtain⟨wR,ej⟩:=List.getElem?_eq_some_iff.mp Wa;rw [fx] at wR;rw [kq] at ej;subst ej;cases hd;refine⟨wR,?_⟩;rintro x H3 ⟨e1,e2⟩;subst e1; subst e2;exact⟨.int _,.refl ab⟩
 ·unfold jT at hl;rw [ai,fx] at hl;exact hl
theorem sG (hg:Gl X "range") (hm:X.mg "range" = none) (ha:gR X a ta) (hs:autoParam (aY [a] X.env=[(false,eval a X.env)]) Ar._auto_1):Q6 X tg (.Call (.Name "range" p) [a] [] pos) (Em ta):=by
 intro E pins s σ H τ G R hE I h;have hA:x5 X [a] (ax ta aW):=ah ha aF hs;refine Call_ (kA I.inv hg hm boot_range (e7 (rC hA pos hE I (R:=fun ds G1=>match ds with | [.int n]=>-(2 ^ 62)<=n/\n < 2 ^ 62/\R (jT 0 n.toNat) (fun _=>True) G1 | _=>False) ?_ fun vs H1 ds G1 us s1 I1 m1 r1 km q1=>?_) hs rfl))
 ·show ta E τ G _;have e:(fun (x:D) (G1:Gp)=>match [x] with | [.int n]=>-(2 ^ 62)<=n/\n < 2 ^ 62/\R (jT 0 n.toNat) (fun _=>True) G1 | _=>False)=fun x G1=>match x with | .int n=>-(2 ^ 62)<=n/\n < 2 ^ 62/\R (jT 0 n.toNat) (fun _=>True) G1 | _=>False:=by
   funext x G1; cases x <;> rfl
  exact e ▸ h
 ·split at q1
  ·rename_i n;obtain⟨w,rfl,O6⟩:=km.one;cases O6;obtain⟨u,rfl,ru⟩:=r1.one;obtain⟨t,rfl⟩:=ru;obtain⟨q1,q2,q⟩:=q1;exact call_range_1 (RE I1.inv m1 (by lia) (by lia) q1 q2 (by simpa using q))
  ·exact q1.elim
theorem gA{iter:Expr}{body:List Stmt}{wi:Q5}{g:Bn}{t:fh}(hp:PassesOwn (model X.prog X.w) X.A X.env X.xe)(hc:X.calm=true)(hi:Q6 X tg iter wi)(hg:Lg X tg g)(hb:oN X body t)
  (hs:autoParam (∀ x,mD iter X.env x=pure x) Ai._auto_1):Bo X (.For tg iter body [] pos) (i4 wi g t):=by
 intro E pins s σ H τ G D hE I h;refine wpAny_For (fV (hi E pins s σ H τ G _ hE I h) fun v s1 h1=>fV h1 fun QI s2 h2=>?_) hs;obtain⟨it,fp,tn,J,H2,G2,ds,ok,e,kd,m2,T,Qq,f2,wk,q⟩:=h2;subst e;have Rx:∀ {H':Hp},(∀ b∈fp,H' b=none)->∀ b∈fp,pG X pins H' b:=fun hn b hb=>⟨hn b hb,(f2 b hb).2⟩;refine codeAny_forLoop_any (fun n s'=>∃ i iJ H' l7 G',I2 X pins iJ H' l7 G' s'/\Mv X.K H G H' G'/\Kp H2 H'/\tn i s'.heap/\(∀ b∈fp,H' b=none)/\n=ds.length - i/\i<=ds.length/\sd g t ok (ds.drop i) E D l7 G') ?_ ds.length
  ⟨0,σ,H2,τ,G2,I.mv kd m2,m2,.refl _,Qq,fun b hb=>(f2 b hb).1,rfl,cg _,q⟩
 rintro n s3 ⟨i,OS,H3,Ri,G3,I3,m3,k3,VR,fr3,rfl,hle,w3⟩;by_cases wR:i < ds.length
 ·rw [gv wR] at w3;obtain⟨Ux,w3⟩:=w3;obtain⟨go,yl⟩:=(wk i H3 G3 k3 I3.ab Ux).1 ds[i] (by simp [wR]);refine jb hp (fV (T.item X rfl rfl rfl hc i pins s3 OS H3 X.xe I3.inv (Rx fr3) VR go) ?_);rintro r s4 ⟨u,hr,h4⟩;subst hr;refine jb hp (fV h4 ?_);rintro _ s5 ⟨x,H5,I5,r5,y5,WR,fr5⟩;obtain⟨rd5,m5⟩:=yl x H5 y5;have I5':=I5.pinned (Rx fr5) (T.obj _ _ WR);have J5:I2 X (pins++qf fp s5.heap) OS H5 Ri G3 s5:=⟨I5',I3.st.mono (m5.kp I3.ab),m5.ab⟩;refine jb hp (fV (hg E _ s5 OS H5 Ri G3 x ds[i] u _ hE J5 r5 rd5 w3) ?_);rintro _ s6 ⟨σ6,H6,τ6,G6,I6,m6,q6⟩;refine jb hp (fV (hb E _ s6 σ6 H6 τ6 G6 _ hE I6 q6) fun f s7 q7=>?_);have again:∀ {Lb:L2.St} {H7:Hp} {La:g6} {G7:Gp},I2 X (pins++qf fp s5.heap) Lb H7 La G7 s7->Mv X.K H6 G6 H7 G7->sd g t ok (ds.drop (i+1)) E D La G7 ->
    ∃ m,m < ds.length - i/\∃ i iJ H' l7 G',I2 X pins iJ H' l7 G' s7/\Mv X.K H G H' G'/\Kp H2 H'/\tn i s7.heap/\(∀ b∈fp,H' b=none)/\m=ds.length - i/\i<=ds.length/\sd g t ok (ds.drop i) E D l7 G':=fun {Lb H7 La G7} I7 m7 n7=>by
   have mm:=m5.trans (m6.trans m7);refine⟨ds.length - (i+1),by lia,i+1,Lb,H7,La,G7,⟨I7.inv.tT,I7.st,I7.ab⟩,m3.trans mm,k3.trans (mm.kp I3.ab),T.keep _ _ _ WR fun b hb o e=>(I7.inv.pin (b,o) (bT _ (bT _ (ow hb e)))).1,fun b hb=>?_,rfl,wR,n7⟩;obtain⟨o,e,d⟩:=T.obj _ _ WR b hb;exact(I7.inv.pin (b,o) (bT _ (bT _ (ow hb e)))).2.1
  cases f with
  | next=>obtain⟨Lb,H7,La,G7,I7,m7,n7⟩:=q7; exact again I7 m7 n7
  | cont=>obtain⟨Lb,H7,La,G7,I7,m7,n7⟩:=q7; exact again I7 m7 n7
  | brk=>obtain⟨Lb,H7,La,G7,I7,m7,q7⟩:=q7; exact⟨Lb,H7,La,G7,⟨I7.inv.tT,I7.st,I7.ab⟩,m3.trans (m5.trans (m6.trans m7)),q7⟩
  | ret v=>obtain⟨x7,Lb,H7,d7,G7,I7,m7,r7,rd7,q7⟩:=q7; exact⟨x7,Lb,H7,d7,G7,I7.tT,m3.trans (m5.trans (m6.trans m7)),r7,rd7,q7⟩
 ·have hn:ds.length<=i:=by lia
  rw [kK hn] at w3;obtain⟨Ux,qn⟩:=w3;have stop:=(wk i H3 G3 k3 I3.ab Ux).2 hn;refine jb hp (fV (T.done X rfl rfl rfl hc i pins s3 OS H3 X.xe I3.inv (Rx fr3) VR stop) ?_);rintro r s4 ⟨hr,I4⟩;subst hr;exact jc ⟨OS,H3,Ri,G3,⟨I4,I3.st,I3.ab⟩,m3,qn⟩
theorem JT{c:Expr}{body:List Stmt}{tc:xu}{t:fh}(hp:PassesOwn (model X.prog X.w) X.A X.env X.xe)(hc:FF X c tc)(hb:oN X body t):Bo X (.While c body [] pos) (NT tc t):=by
 intro E pins s σ H τ G D hE I h;obtain⟨n0,w0⟩:=h;refine wpAny_While (codeAny_whileLoop (fun n s'=>∃ iJ H' l7 G',I2 X pins iJ H' l7 G' s'/\Mv X.K H G H' G'/\DE tc t n E D l7 G') ?_ n0 ⟨σ,H,τ,G,I,.refl I.ab,w0⟩);rintro n s1 ⟨VP,H1,tQ,G1,I1,m1,w1⟩;cases n with
 | zero=>exact w1.elim
 | succ n =>
  refine jb hp (JJ hc hE I1 w1 fun b H2 G2 s2 kd m2 q2=>?_);cases b with
  | true =>
   rw [if_pos rfl] at q2 ⊢;refine jb hp (fV (hb E pins s2 VP H2 tQ G2 _ hE kd q2) fun f s3 q3=>?_);cases f with
   | next=>obtain⟨OS,H3,Ri,G3,I3,m3,n3⟩:=q3; exact⟨n,jM _,OS,H3,Ri,G3,I3,m1.trans (m2.trans m3),n3⟩
   | cont=>obtain⟨OS,H3,Ri,G3,I3,m3,n3⟩:=q3; exact⟨n,jM _,OS,H3,Ri,G3,I3,m1.trans (m2.trans m3),n3⟩
   | brk=>exact q3.trans (m1.trans m2)
   | ret v=>exact q3.trans (m1.trans m2)
  | false =>
   rw [if_neg c7] at q2 ⊢;exact jc ⟨VP,H2,tQ,G2,kd,m1.trans m2,q2⟩
end
theorem B2(n d:Nat)(o:Option Int):HT.iT n d o=iT n d o:=by cases o <;> rfl
theorem a4.cut{K:ag}{H:Hp}{vs:List V}{ds:List D}(r:a4 K H vs ds)(lo hi:Option Int):a4 K H (E3 vs lo hi) (K2.cut ds lo hi):=by
 unfold E3 K2.cut;rw [B2,B2,r.length];exact(r.drop _).take _
theorem a4.we{K:ag}{H:Hp}{vs:List V}{ds:List D}{i:Int}{d:D}(r:a4 K H vs ds)(h:K2.we ds i=some d):∃ v,L2.we vs i=some v/\bS K H v d:=by
 unfold K2.we at h;cases e:K2.IH ds.length i with
 | none=>rw [e] at h; cases h
 | some j =>
  rw [e] at h;obtain⟨v,h1,h2⟩:=r.get (show ds[j]?=some d from h);refine⟨v,?_,h2⟩;show (L2.IH vs.length i).bind _=_;have e':L2.IH vs.length i=some j:=by rw [r.length]; exact e
  rw [e'];exact h1
section
variable {X:Cx} {a b c e:Expr} {ta tb tc te:eZ} {pos p2:Pos}
theorem lT{pins:List (Addr×Obj)}{s:au}{σ:L2.St}{H:Hp}{G:Gp}{x:V}{d:D}{v:Value}{zs:List D}(I:Inv X pins σ H s)(ab:jQ X.K H G)(rx:RelV x v)(rd:bS X.K H x d)(hi:nI d G=some zs) :
  ∃ l vs its,v=.ref l/\Vals vs its/\a4 X.K H vs zs/\s.heap.IsList l its.toArray/\vs.length<=bb:=by
 cases rd with
 | da hq rs =>
  cases hi;cases rx;obtain⟨its,rv,pl,hz⟩:=I.list hq.sq;exact⟨_,_,its,rfl,rv,rs,pl.isList,hz⟩
 | ref l =>
  unfold nI at hi;dsimp only at hi;cases hg:G l with
  | none=>rw [hg] at hi; cases hi
  | some gg =>
   rw [hg] at hi;cases gg with
   | lst ds =>
    cases hi;cases rx;obtain⟨vs,hv,rs⟩:=ab.lst hg;obtain⟨its,rv,pl,hz⟩:=I.list (.of hv);exact⟨_,_,its,rfl,rv,rs,pl.isList,hz⟩
   | ins _ _=>cases hi
   | Ht _=>cases hi
   | jP _=>cases hi
 | _=>cases hi
theorem AU{pins:List (Addr×Obj)}{s:au}{σ:L2.St}{H:Hp}(I:Inv X pins σ H s){m:Str->Option Value}(F0:Fr X.base X.env.locals s.heap m){h':Heap}(F:Fr X.base X.env.locals h' m)(N:News X.base X.env.locals h' (vf X.base s.heap X.env.locals)) :
  (∀ b o,b≠X.env.locals->s.heap.get? b=some o->h'.get? b=some o)/\∀ m',s.heap.Ns X.env.locals m'->h'.Ns X.env.locals m':=by
 refine⟨fun b o hb e=>?_,fun m' hm=>?_⟩
 ·cases q:X.base.get? b with
  | some u =>
   have:=I.bk b u q;rw [e] at this; cases this;exact F.keep b _ q
  | none=>exact(N (b,o) (wK hb q e)).1
 ·have e1:=hm.eq_nsMap;have e2:=F0.ns.eq_nsMap;rw [e1,<-e2]; exact F.ns
theorem lj{P:bx}{w:World}{H:Hp}{h:Heap}{a:Addr}:∀ {o:HO},fe P w H h a o->∃ ob,h.get? a=some ob:=by
 intro o x;cases o with
 | lst _=>obtain⟨_,_,_,_,e⟩:=x; exact⟨_,e⟩
 | tup _=>obtain⟨_,_,_,ob,e,_⟩:=x; exact⟨ob,e⟩
 | dK _=>obtain⟨_,_,_,_,ob,_,_,e,_⟩:=x; exact⟨ob,e⟩
 | dT _=>obtain⟨_,_,_,_,ob,_,_,e,_⟩:=x; exact⟨ob,e⟩
 | set _ _=>obtain⟨ob,_,_,_,e,_⟩:=x; exact⟨ob,e⟩
 | ins _ _ _=>obtain⟨_,_,_,e,_⟩:=x; exact⟨_,e⟩
 | own _=>exact x
 | xd _=>obtain⟨_,⟨ob,_,_,e,_⟩,_⟩:=x; exact⟨ob,e⟩
 | met _ _=>exact⟨_,x⟩
 | Ul _ _=>obtain⟨_,_,_,e⟩:=x; exact⟨_,e⟩
 | jO _ _=>exact⟨_,x.1⟩
 | rD _=>obtain⟨_,e,_⟩:=x; exact⟨_,e⟩
 | ext _=>exact x.2.1
theorem IP{P:bx}{w:World}{H:Hp}{h:Heap}{a:Addr}(ok:pj P w H h)(e:h.get? a=none):H a=none:=by
 cases q:H a with
 | none=>rfl
 | some o =>
  obtain⟨ob,z⟩:=lj (ok a o q);rw [e] at z; cases z
theorem Inv.QF{pins:List (Addr×Obj)}{s:au}{σ:L2.St}{H:Hp}(I:Inv X pins σ H s){h':Heap}{t':Nat}{a:Addr}{o:HO}(k:∀ b o,b≠X.env.locals->s.heap.get? b=some o->h'.get? b=some o)(ns:∀ m',s.heap.Ns X.env.locals m'->h'.Ns X.env.locals m')
  (hp:s.heap.get? a=none) (new:fe X.prog X.w (upd H a o) h' a o):Inv X pins σ (upd H a o) { s with heap:=h',toks:=t' }:=by
 have hn:H a=none:=IP I.cF hp;have ne:∀ b u,H b=some u->b≠a:=fun b u e=>bX e hn;have nL:∀ b u,H b=some u->b≠X.env.locals:=fun b u e=>bX e I.free;have ht:∀ b u,s.heap.get? b=some u->b≠a:=fun b u e z=>by subst z; rw [hp] at e; cases e
 have thL:∃ o',h'.get? X.env.locals=some o':=by
  obtain⟨m,hm,_⟩:=I.loc;obtain⟨o',_,_,ho,_⟩:=ns m hm;exact⟨o',ho⟩
 refine I.step (g':=s.gens) (d':=s.drawn) (ch:=[]) (fun b hb=>absurd hb (by simp)) (fun b o hL _ _ e _=>k b o hL e) (fun b o hL _ _ e _=>⟨o.slots,k b o hL e⟩) (fun b o _ e n=>by rw [bj (ht b o e)]; exact n)
  (fun b o _ e=>?_) (fun b xs e=>by rw [bj (ne _ _ e)]; exact e) (fun b o u e=>by rw [bj (ne _ _ e)]; exact e) (fun b ps e=>by rw [bj (ne _ _ e)]; exact e) (fun b ps e=>by rw [bj (ne _ _ e)]; exact e) ns (fun b u e=>?_) I.bare
 ·by_cases hb:b=X.env.locals
  ·rw [hb]; exact thL
  ·exact⟨o,k b o hb e⟩
 ·by_cases hb:b=a
  ·subst hb; rw [bV] at e; cases e; exact new
  ·rw [bj hb] at e;refine(I.cF b u e).iK (fun c v hc r=>k c v ?_ r) (fun c z=>by rw [bj (ne _ _ z)]; exact z) (fun c xs z=>by rw [bj (ne _ _ z)]; exact z);rcases hc with rfl | hc
   ·exact nL _ _ e
   ·exact nL _ _ hc
theorem dD:tw X (jG .Add) iL:=by
 intro pins s σ H G x y dx dy v u Q I ab rx ry dX dY q;have lists:zv dx dy G Q->wpAny (model X.prog X.w) X.A (jG .Add v u) (pq X pins σ H G Q) X.xe s:=by
  intro q;unfold zv at q;split at q
  ·rename_i xs ys e1 e2;obtain⟨hz,q⟩:=q;obtain⟨l,vs,its,rfl,rv,rs,hl,_⟩:=lT I ab rx dX e1;obtain⟨b,ws,vT,rfl,Qs,RC,hb,_⟩:=lT I ab ry dY e2;obtain⟨m,F0⟩:=I.fr;have hsz:its.length+vT.length<=bb:=by rw [<-rv.length,<-Qs.length,rs.length,RC.length,cm]; exact hz
   refine PyProof.Rows.add_lists F0 D6 hl hb (fun h' F N=>?_) hsz;obtain⟨kk,ns⟩:=AU I F0 F fun p hp=>N p (aK _ hp);have hp:H s.heap.objs.size=none:=I.cF.fresh (aQ _);refine⟨.ref s.heap.objs.size,upd H s.heap.objs.size (.lst (vs++ws)),.ref _,_,Inv.QF (t':=s.toks) I kk ns (OR (aQ _)) ?_,.GJ ab hp (rs.append RC),rfl,.ref _,q _ (ab.free hp)⟩;exact⟨by rw [aO,rv.length,Qs.length]; exact hsz,its++vT,0,rv.append Qs,(N _ bo).1⟩
  ·exact q.elim
 cases dX with
 | int i =>
  cases dY with
  | int j=>exact fV (RR pins s σ H _ _ v u (xw X.K H G Q) I rx ry ⟨i,j,rfl,rfl,_,_,.refl ab,.int _,q⟩) fun _ _ z=>.of z
  | _=>exact lists q
 | str i =>
  cases dY with
  | str j =>
   obtain⟨hz,q⟩:=q;exact fV (GH pins s σ H _ _ v u (xw X.K H G Q) I rx ry ⟨i,j,rfl,rfl,by rw [cm]; exact hz,_,_,.refl ab,.str _,q⟩) fun _ _ z=>.of z
  | _=>exact lists q
 | tup h1 r1 =>
  cases dY with
  | tup h2 r2 =>
   obtain⟨hn,hz,q⟩:=q;refine fV (Pq pins s σ H _ _ v u (xw X.K H G Q) I rx ry ⟨_,_,_,_,rfl,rfl,.of h1,.of h2,?_,?_,fun e=>?_,fun e p hp=>?_⟩) fun _ _ z=>.of z
   ·rintro rfl; cases r1; exact hn rfl
   ·rw [r1.length,r2.length,cm]; exact hz
   ·subst e;cases r2;rw [bW] at q;exact⟨_,_,.refl ab,.tup h1 r1,q⟩
   ·exact⟨_,_,.Ld ab hp,.tup bV ((r1.append r2).mono (.new hp)),q⟩
  | _=>exact lists q
 | ref l=>exact lists (by rw [uw] at q; exact q)
 | da _ _=>exact lists (by rw [uv] at q; exact q)
 | _=>exact lists (by cases dY <;> exact q)
theorem uC:tw X (jG .Sub) GA:=by
 intro pins s σ H G x y dx dy v u Q I ab rx ry dX dY q;cases dX with
 | int i =>
  cases dY with
  | int j=>exact fV (RN pins s σ H _ _ v u (xw X.K H G Q) I rx ry ⟨i,j,rfl,rfl,_,_,.refl ab,.int _,q⟩) fun _ _ z=>.of z
  | _=>exact bw q
 | _=>exact bw q
theorem xO:tw X (jG .Mult) JP:=by
 intro pins s σ H G x y dx dy v u Q I ab rx ry dX dY q;cases dX with
 | int i =>
  cases dY with
  | int j=>exact fV (RO pins s σ H _ _ v u (xw X.K H G Q) I rx ry ⟨i,j,rfl,rfl,q.1,_,_,.refl ab,.int _,q.2⟩) fun _ _ z=>.of z
  | _=>exact bw q
 | _=>exact bw q
theorem ee:tw X (jG .Mod) kS:=by
 intro pins s σ H G x y dx dy v u Q I ab rx ry dX dY q;cases dX with
 | int i =>
  cases dY with
  | int j=>exact fV (RP pins s σ H _ _ v u (xw X.K H G Q) I rx ry ⟨i,j,rfl,rfl,q.1,_,_,.refl ab,.int _,q.2⟩) fun _ _ z=>.of z
  | _=>exact bw q
 | _=>exact bw q
theorem fF:tw X (jG .FloorDiv) kG:=by
 intro pins s σ H G x y dx dy v u Q I ab rx ry dX dY q;cases dX with
 | int i =>
  cases dY with
  | int j=>exact fV (Pp pins s σ H _ _ v u (xw X.K H G Q) I rx ry ⟨i,j,rfl,rfl,⟨q.1,q.2.1⟩,_,_,.refl ab,.int _,q.2.2⟩) fun _ _ z=>.of z
  | _=>exact bw q
 | _=>exact bw q
theorem RS(hu:X.A.units < cLine):tw X (eO .Lt) W5:=by
 intro pins s σ H G x y dx dy v u Q I ab rx ry dX dY q;cases dX with
 | int i =>
  cases dY with
  | int j=>exact fV (Us pins s σ H _ _ v u (xw X.K H G Q) I rx ry ⟨i,j,rfl,rfl,_,_,.refl ab,.bl _,q⟩) fun _ _ z=>.of z
  | _=>exact bw q
 | tup h1 r1 =>
  cases dY with
  | tup h2 r2 =>
   obtain⟨xs,ys,e1,e2,q⟩:=q;subst e1 e2;have z1:=r1.ints;have z2:=r2.ints;subst z1 z2;have el:∀ xs ys:List Int,HT.lexLt xs ys=K2.lexLt xs ys:=by
    intro xs;induction xs with
    | nil=>intro ys; cases ys <;> rfl
    | cons x xs ih=>intro ys; cases ys with
     | nil=>rfl
     | cons y ys=>unfold HT.lexLt K2.lexLt; rw [ih]
   exact fV (RQ hu pins s σ H _ _ v u (xw X.K H G Q) I rx ry ⟨_,_,xs,ys,rfl,rfl,.of h1,.of h2,_,_,.refl ab,.bl _,by rw [el]; exact q⟩) fun _ _ z=>.of z
  | _=>exact bw q
 | _=>exact bw q
theorem MF:tw X (eO .Gt) VT:=by
 intro pins s σ H G x y dx dy v u Q I ab rx ry dX dY q;cases dX with
 | int i =>
  cases dY with
  | int j=>exact fV (Ut pins s σ H _ _ v u (xw X.K H G Q) I rx ry ⟨i,j,rfl,rfl,_,_,.refl ab,.bl _,q⟩) fun _ _ z=>.of z
  | _=>exact bw q
 | _=>exact bw q
mutual
noncomputable def pd:D->PyData
 | .dI=>.none
 | .bl b=>.bool b
 | .int i=>.int i
 | .str x=>.str x
 | .tup ds=>.tuple (oW ds)
 | .da ds=>.list (oW ds)
 | .oS _=>.none
 | .exc _=>.none
 | .zM _ _ _=>.none
 | .AQ _=>.none
 | .ref _=>.none
noncomputable def oW:List D->List PyData
 | []=>[]
 | d :: r=>pd d :: oW r
end
mutual
theorem v5:∀ (s t:D),nr s=true->nr t=true->tN (pd s) (pd t)=ip s t
 | .dI,t,_,ht=>by cases t <;> first | rfl | (exact bh (show false=true from ht))
 | .bl a,t,_,ht=>by cases t <;> first | rfl | (exact bh (show false=true from ht))
 | .int a,t,_,ht=>by cases t <;> first | rfl | (exact bh (show false=true from ht))
 | .str a,t,_,ht=>by cases t <;> first | rfl | (exact bh (show false=true from ht))
 | .tup a,t,hs,ht=>by
  cases t with
  | tup b=>exact CQ a b hs ht
  | ref _=>exact bh (show false=true from ht)
  | exc _=>exact bh (show false=true from ht)
  | zM _ _ _=>exact bh (show false=true from ht)
  | AQ _=>exact bh (show false=true from ht)
  | oS _=>exact bh (show false=true from ht)
  | _=>rfl
 | .da a,t,hs,ht=>by
  cases t with
  | da b=>exact CQ a b hs ht
  | ref _=>exact bh (show false=true from ht)
  | exc _=>exact bh (show false=true from ht)
  | zM _ _ _=>exact bh (show false=true from ht)
  | AQ _=>exact bh (show false=true from ht)
  | oS _=>exact bh (show false=true from ht)
  | _=>rfl
 | .ref _,_,hs,_=>bh (show false=true from hs)
 | .exc _,_,hs,_=>bh (show false=true from hs)
 | .zM _ _ _,_,hs,_=>bh (show false=true from hs)
 | .AQ _,_,hs,_=>bh (show false=true from hs)
 | .oS _,_,hs,_=>bh (show false=true from hs)
theorem CQ:∀ (s t:List D),vq s=true->vq t=true->PyData.eqvAll (oW s) (oW t)=i3 s t
 | [],[],_,_=>rfl
 | [],_ :: _,_,_=>rfl
 | _ :: _,[],_,_=>rfl
 | a :: r,b :: t,hs,ht=>by
  have He:nr a=true/\vq r=true:=(ja).mp hs;have Tt:nr b=true/\vq t=true:=(ja).mp ht;show (tN (pd a) (pd b)&&PyData.eqvAll (oW r) (oW t))=(ip a b&&i3 r t);rw [v5 a b He.1 Tt.1,CQ r t He.2 Tt.2]
end
mutual
theorem kB:∀ (s:D),nr s=true->(pd s).canLay0=true
 | .dI,_=>rfl
 | .bl a,_=>rfl
 | .int a,_=>rfl
 | .str a,h=>h
 | .tup a,h=>uM a h
 | .da a,h=>uM a h
 | .exc _,_=>rfl
 | .zM _ _ _,_=>rfl
 | .AQ _,_=>rfl
 | .ref _,_=>rfl
 | .oS _,_=>rfl
theorem uM:∀ (s:List D),vq s=true->PyData.canLayAll0 (oW s)=true
 | [],_=>rfl
 | a :: r,h=>by
  have h':nr a=true/\vq r=true:=(ja).mp h;show ((pd a).canLay0&&PyData.canLayAll0 (oW r))=true;rw [kB a h'.1,uM r h'.2]; rfl
end
theorem CT{G:Gp}{n:Nat}{d t:D}(h:Sn G n d t):(pd t).depth<=n:=by
 induction h with
 | dI=>exact cg _
 | bl b=>exact cg _
 | int i=>exact cg _
 | str x h=>exact cg _
 | BX=>exact tG (cg _)
 | l8 _ _ Na M9 =>
  exact tG (Nat.max_le.mpr ⟨Na,tO M9⟩)
 | DR=>exact tG (cg _)
 | wH _ _ Na M9 =>
  exact tG (Nat.max_le.mpr ⟨Na,tO M9⟩)
 | ref _ _ ih=>exact ih
theorem iy{pins:List (Addr×Obj)}{σ:L2.St}{H:Hp}{s:au}{G:Gp}(I:Inv X pins σ H s)(ab:jQ X.K H G){n:Nat}{d t:D}(h:Sn G n d t) :
  (∀ v u,bS X.K H v d->RelV v u->∃ as,Reads s.heap u (pd t) as) /\
  (∀ ds ss,(d=.da ds/\t=.da ss)\/(d=.tup ds/\t=.tup ss)->∀ vs us,a4 X.K H vs ds->Vals vs us->∃ as,jH s.heap us (oW ss) as):=by
 have Qp:∀ {ds ss:List D},(∀ vs us,a4 X.K H vs ds->Vals vs us->∃ as,jH s.heap us (oW ss) as)->∀ v u,bS X.K H v (.tup ds)->RelV v u->∃ as,Reads s.heap u (pd (.tup ss)) as:=by
  intro ds ss k v u r ru;cases r with
  | tup hq rs =>
   cases ru;obtain⟨its,rv,⟨o,ho,hc,n,hd⟩,hz⟩:=I.tuple (.of hq);obtain⟨as,ra⟩:=k _ its rs rv;exact⟨as,.tuple ho hc hd (by simpa using ra)⟩
 have Qt:∀ {ds ss:List D},(∀ vs us,a4 X.K H vs ds->Vals vs us->∃ as,jH s.heap us (oW ss) as)->∀ v u,bS X.K H v (.da ds)->RelV v u->∃ as,Reads s.heap u (pd (.da ss)) as:=by
  intro ds ss k v u r ru;cases r with
  | da hq rs =>
   cases ru;obtain⟨its,rv,pl,hz⟩:=I.list hq.sq;obtain⟨o,ho,hc,n,hd⟩:=pl.isList;obtain⟨as,ra⟩:=k _ its rs rv;exact⟨_,.list ho hc hd (by simpa using ra)⟩
 induction h with
 | dI=>exact⟨fun v u r ru=>by cases r; cases ru; exact⟨_,.none⟩,fun ds ss e=>by rcases e with ⟨e,_⟩ | ⟨e,_⟩ <;> cases e⟩
 | bl b=>exact⟨fun v u r ru=>by cases r; cases ru; exact⟨_,.bool b⟩,fun ds ss e=>by rcases e with ⟨e,_⟩ | ⟨e,_⟩ <;> cases e⟩
 | int i=>exact⟨fun v u r ru=>by cases r; obtain⟨t,rfl⟩:=ru; exact⟨_,.int i t⟩,fun ds ss e=>by rcases e with ⟨e,_⟩ | ⟨e,_⟩ <;> cases e⟩
 | str x hx=>exact⟨fun v u r ru=>by cases r; obtain⟨t,rfl⟩:=ru; exact⟨_,.str x t⟩,fun ds ss e=>by rcases e with ⟨e,_⟩ | ⟨e,_⟩ <;> cases e⟩
 | BX =>
  have k:∀ vs us,a4 X.K H vs []->Vals vs us->∃ as,jH s.heap us (oW []) as:=fun vs us r ru=>by
   have e:=r.zero;subst e;cases ru;exact⟨_,.nil⟩
  refine⟨Qp k,fun ds ss e=>?_⟩;rcases e with ⟨e,_⟩ | ⟨e,e2⟩
  ·cases e
  ·cases e; cases e2; exact k
 | l8 h1 h2 Na M9 =>
  have k2:=M9.2 _ _ (.inr ⟨rfl,rfl⟩);have k:∀ vs us,a4 X.K H vs (_ :: _)->Vals vs us->∃ as,jH s.heap us (oW (_ :: _)) as:=fun vs us r ru=>by
   cases r with
   | cons r1 r2 =>
    cases ru with
    | cons u1 u2 =>
     obtain⟨as,ra⟩:=Na.1 _ _ r1 u1;obtain⟨bs,rb⟩:=k2 _ _ r2 u2;exact⟨_,.cons ra rb⟩
  refine⟨Qp k,fun ds ss e=>?_⟩;rcases e with ⟨e,_⟩ | ⟨e,e2⟩
  ·cases e
  ·cases e; cases e2; exact k
 | DR =>
  have k:∀ vs us,a4 X.K H vs []->Vals vs us->∃ as,jH s.heap us (oW []) as:=fun vs us r ru=>by
   have e:=r.zero;subst e;cases ru;exact⟨_,.nil⟩
  refine⟨Qt k,fun ds ss e=>?_⟩;rcases e with ⟨e,e2⟩ | ⟨e,_⟩
  ·cases e; cases e2; exact k
  ·cases e
 | wH h1 h2 Na M9 =>
  have k2:=M9.2 _ _ (.inl ⟨rfl,rfl⟩);have k:∀ vs us,a4 X.K H vs (_ :: _)->Vals vs us->∃ as,jH s.heap us (oW (_ :: _)) as:=fun vs us r ru=>by
   cases r with
   | cons r1 r2 =>
    cases ru with
    | cons u1 u2 =>
     obtain⟨as,ra⟩:=Na.1 _ _ r1 u1;obtain⟨bs,rb⟩:=k2 _ _ r2 u2;exact⟨_,.cons ra rb⟩
  refine⟨Qt k,fun ds ss e=>?_⟩;rcases e with ⟨e,e2⟩ | ⟨e,_⟩
  ·cases e; cases e2; exact k
  ·cases e
 | ref hg h1 ih =>
  refine⟨fun v u r ru=>?_,fun ds ss e=>by rcases e with ⟨e,_⟩ | ⟨e,_⟩ <;> cases e⟩;cases r;cases ru;obtain⟨vs,hv,rs⟩:=ab.lst hg;obtain⟨its,rv,pl,hz⟩:=I.list (.of hv);obtain⟨o,ho,hc,n,hd⟩:=pl.isList;obtain⟨as,ra⟩:=ih.2 _ _ (.inl ⟨rfl,rfl⟩) vs its rs rv;exact⟨_,.list ho hc hd (by simpa using ra)⟩
theorem lG(hu:X.A.units+64 < cLine):tw X (eO .Eq) (Cb false):=by
 intro pins s σ H G x y dx dy v u Q I ab rx ry dX dY q;obtain⟨a,b,sa,sb,q⟩:=q;obtain⟨as,ra⟩:=(iy I ab sa).1 x v dX rx;obtain⟨bs,rb⟩:=(iy I ab sb).1 y u dY ry;have d1:=CT sa;refine SeqAt.compareEq_reads ra rb (kB _ sa.nr) (kB _ sb.nr) (by unfold SN at d1; lia) ?_;rw [v5 _ _ sa.nr sb.nr];exact⟨.bl _,H,.bl _,G,I,.refl ab,rfl,.bl _,q⟩
theorem GI(hu:X.A.units+64 < cLine):tw X (eO .NotEq) (Cb true):=by
 intro pins s σ H G x y dx dy v u Q I ab rx ry dX dY q;obtain⟨a,b,sa,sb,q⟩:=q;obtain⟨as,ra⟩:=(iy I ab sa).1 x v dX rx;obtain⟨bs,rb⟩:=(iy I ab sb).1 y u dY ry;have d1:=CT sa;refine SeqAt.compareNe_reads ra rb (kB _ sa.nr) (kB _ sb.nr) (by unfold SN at d1; lia) ?_;rw [v5 _ _ sa.nr sb.nr];exact⟨.bl _,H,.bl _,G,I,.refl ab,rfl,.bl _,q⟩
end
theorem uZ(j k:Key):ip (eY j) (eY k)=decide (j=k):=by
 cases j with
 | inl a=>cases k with
  | inl b=>rw [M1]; rfl
  | inr b=>exact(decide_eq_false (fun z=>nomatch z)).symm
 | inr a=>cases k with
  | inl b=>exact(decide_eq_false (fun z=>nomatch z)).symm
  | inr b=>rw [M0]; exact(Ow a b)
theorem Ba:∀ (js ks:List Key),i3 (js.map eY) (ks.map eY)=decide (js=ks)
 | [],[]=>(decide_eq_true rfl).symm
 | [],_ :: _=>(decide_eq_false (fun z=>nomatch z)).symm
 | _ :: _,[]=>(decide_eq_false (fun z=>nomatch z)).symm
 | j :: js,k :: ks=>by
  show (ip (eY j) (eY k)&&i3 (js.map eY) (ks.map eY))=_;rw [uZ,Ba js ks,zh]
theorem uY(js ks:List Key):ip (.tup (js.map eY)) (.tup (ks.map eY))=decide (js=ks):=by
 exact Ba js ks
section
variable {K:ag} {H:Hp}
theorem xR{d:D}(h:dw d=true):∃ k:Key,d=eY k:=by
 cases d with
 | int i=>exact⟨.inl i,rfl⟩
 | str x=>exact⟨.inr x,rfl⟩
 | _=>exact absurd h (by simp [dw])
theorem ID:∀ {ds:List D},ds.all dw=true->∃ ks:List Key,ds=ks.map eY
 | [],_=>⟨[],rfl⟩
 | d :: r,h=>by
  rw [K6,aS] at h;obtain⟨k,rfl⟩:=xR h.1;obtain⟨ks,rfl⟩:=ID h.2;exact⟨k :: ks,rfl⟩
theorem IE{d:D}(h:sP d=true):∃ ks:List Key,d=.tup (ks.map eY):=by
 cases d with
 | tup ds=>obtain⟨ks,rfl⟩:=ID (ds:=ds) h; exact⟨ks,rfl⟩
 | _=>exact absurd h (by simp [sP])
theorem xG{v:V}{k:Key}(r:bS K H v (eY k)):v=kV k:=by
 cases k with
 | inl i=>cases r; rfl
 | inr x=>cases r; rfl
theorem DT:∀ {vs:List V} {ks:List Key},a4 K H vs (ks.map eY)->vs=ks.map kV
 | _,[],r=>r.zero
 | _,k :: ks,r=>by
  rw [aj] at r;cases r with
  | cons r1 r2=>rw [xG r1,DT r2]; rfl
theorem DU{v:V}{ks:List Key}(r:bS K H v (.tup (ks.map eY))):∃ b,v=.ref b/\H b=some (.tup (ks.map kV)):=by
 cases r with
 | tup h rs=>have e:=DT rs; subst e; exact⟨_,rfl,h⟩
theorem oO.look{kv:List (Key×V)}{a0:List (D×D)}(r:oO K H kv a0)(k:Key):(∃ v d,kL kv k=some v/\K2.look a0 (eY k)=some d/\bS K H v d)\/(kL kv k=none/\K2.look a0 (eY k)=none):=by
 induction r using oO.ind with
 | nil=>exact .inr ⟨rfl,rfl⟩
 | @cons j v d r t rd rs ih =>
  by_cases e:j=k
  ·left;refine⟨v,d,pO (p:=(j,v)) e,?_,rd⟩;unfold K2.look;rw [LA (by show ip (eY j) (eY k)=true; rw [uZ]; exact decide_eq_true e)]; rfl
  ·have e1:kL ((j,v) :: r) k=kL r k:=pP (p:=(j,v)) e;have e2:K2.look ((eY j,d) :: t) (eY k)=K2.look t (eY k):=by
    unfold K2.look;rw [LB (by show ¬ ip (eY j) (eY k)=true; rw [uZ]; simpa using e)]
   rw [e1,e2];exact ih
theorem pH.look{kv:List (List Key×V)}{a0:List (D×D)}(r:pH K H kv a0)(k:List Key):(∃ v d,kL kv k=some v/\K2.look a0 (.tup (k.map eY))=some d/\bS K H v d)\/(kL kv k=none/\K2.look a0 (.tup (k.map eY))=none):=by
 induction r using pH.ind with
 | nil=>exact .inr ⟨rfl,rfl⟩
 | @cons j v d r t rd rs ih =>
  by_cases e:j=k
  ·left;refine⟨v,d,pO (p:=(j,v)) e,?_,rd⟩;unfold K2.look;rw [LA (by show ip (.tup (j.map eY)) (.tup (k.map eY))=true; rw [uY]; exact decide_eq_true e)]; rfl
  ·have e1:kL ((j,v) :: r) k=kL r k:=pP (p:=(j,v)) e;have e2:K2.look ((.tup (j.map eY),d) :: t) (.tup (k.map eY))=K2.look t (.tup (k.map eY)):=by
    unfold K2.look;rw [LB (by show ¬ ip (.tup (j.map eY)) (.tup (k.map eY))=true; rw [uY]; simpa using e)]
   rw [e1,e2];exact ih
theorem oO.any{kv:List (Key×V)}{a0:List (D×D)}(r:oO K H kv a0)(k:Key):(kv.any fun p=>decide (p.1=k))=a0.any fun p=>ip p.1 (eY k):=by
 induction r using oO.ind with
 | nil=>rfl
 | @cons j v d r t rd rs ih=>simp only [mY]; rw [ih,uZ]
theorem pH.any{kv:List (List Key×V)}{a0:List (D×D)}(r:pH K H kv a0)(k:List Key):(kv.any fun p=>decide (p.1=k))=a0.any fun p=>ip p.1 (.tup (k.map eY)):=by
 induction r using pH.ind with
 | nil=>rfl
 | @cons j v d r t rd rs ih=>simp only [mY]; rw [ih,uY]
theorem oO.put{kv:List (Key×V)}{a0:List (D×D)}(r:oO K H kv a0)(k:Key){v:V}{d:D}(rd:bS K H v d):oO K H (putK kv k v) (K2.put a0 (eY k) d):=by
 unfold putK K2.put;rw [r.any k];by_cases h:(a0.any fun p=>ip p.1 (eY k))=true
 ·rw [if_pos h,if_pos h];clear h;induction r using oO.ind with
  | nil=>exact .nil
  | @cons j w e r t re rs ih =>
   simp only [aj];rw [uZ];by_cases e:j=k
   ·simp only [e,if_true,decide_true]; exact .cons rd ih
   ·simp only [e,if_false,decide_false,ay]; exact .cons re ih
 ·rw [if_neg h,if_neg h];clear h;induction r using oO.ind with
  | nil=>exact .cons rd .nil
  | cons re rs ih=>exact .cons re ih
theorem pH.put{kv:List (List Key×V)}{a0:List (D×D)}(r:pH K H kv a0)(k:List Key){v:V}{d:D}(rd:bS K H v d):pH K H (putK kv k v) (K2.put a0 (.tup (k.map eY)) d):=by
 unfold putK K2.put;rw [r.any k];by_cases h:(a0.any fun p=>ip p.1 (.tup (k.map eY)))=true
 ·rw [if_pos h,if_pos h];clear h;induction r using pH.ind with
  | nil=>exact .nil
  | @cons j w e r t re rs ih =>
   simp only [aj];rw [uY];by_cases e:j=k
   ·simp only [e,if_true,decide_true]; exact .cons rd ih
   ·simp only [e,if_false,decide_false,ay]; exact .cons re ih
 ·rw [if_neg h,if_neg h];clear h;induction r using pH.ind with
  | nil=>exact .cons rd .nil
  | cons re rs ih=>exact .cons re ih
end
theorem Kp.putD{H:Hp}{p:Addr}{o o':HO}(hp:H p=some o)(h:(∃ k,o=.dK k)\/∃ k,o=.dT k):Kp H (upd H p o') :=
 ⟨fun a ys e=>by rw [bj (by rintro rfl; rw [hp] at e; rcases h with ⟨_,rfl⟩ | ⟨_,rfl⟩ <;> cases e)]; exact e,fun a ob u e=>by rw [bj (by rintro rfl; rw [hp] at e; rcases h with ⟨_,rfl⟩ | ⟨_,rfl⟩ <;> cases e)]; exact e⟩
section
variable {X:Cx} {pins:List (Addr×Obj)} {σ:L2.St} {H:Hp} {s:au} {G:Gp} {a:Addr} {a0:List (D×D)} {k:D} {y:V}
theorem toT(I:Inv X pins σ H s)(e:H a=some (.dK [])):Inv X pins σ (upd H a (.dT [])) s:=by
 obtain⟨z,hd,vs,rel,dd⟩:=EL I.cF e;have hv:vs=[]:=by cases rel; rfl
 subst hv;obtain⟨o,es,ep,ho,hx,Ks,hko,hl,nd⟩:=dd;have he:es=#[]:=by
  cases hq:es.toList with
  | nil=>simpa using hq
  | cons _ _=>rw [hq] at hl; cases hl
 subst he;exact I.write (h':=s.heap) (t':=s.toks) (x:=a) (e:=a) (by rw [e]; exact g7) (.inl rfl) (fun b u _ q=>q) ⟨o,ho⟩ ⟨cg _,hd,[],.nil,o,#[],ep,ho,hx,Ks,rfl,c9⟩
theorem toK(I:Inv X pins σ H s)(e:H a=some (.dT [])):Inv X pins σ (upd H a (.dK [])) s:=by
 obtain⟨z,hd,xs,rel,o,es,ep,ho,hx,Ks,hl,nd⟩:=I.cF a _ e;have hv:xs=[]:=by cases rel; rfl
 subst hv;have he:es=#[]:=by simpa using hl
 subst he;exact I.write (h':=s.heap) (t':=s.toks) (x:=a) (e:=a) (by rw [e]; exact g7) (.inl rfl) (fun b u _ q=>q) ⟨o,ho⟩ ⟨cg _,hd,[],.nil,o,#[],ep,ho,hx,Ks,(fun _ h=>by simp at h),.nil,c9⟩
theorem Iw{o:HO}(ab:jQ X.K H G)(hg:G a=some (.jP a0))(k:Kp H (upd H a o))(ho:Oo X.K (upd H a o) a (.jP a0)):Mv X.K H G (upd H a o) G:=by
 have m:=Mv.put ab hg k ho;have e:bP G a (.jP a0)=G:=by
  funext b; unfold bP; split
  ·rename_i z; rw [z,hg]
  ·rfl
 rw [e] at m;exact m
theorem IW(I:Inv X pins σ H s)(ab:jQ X.K H G)(hg:G a=some (.jP a0))(hk:ik a0 k=true)(ry:bS X.K H y k) :
  ∃ H',Inv X pins σ H' s/\Mv X.K H G H' G/\((∃ (kv:List (Key×V)) (kk:Key),H' a=some (.dK kv)/\oO X.K H' kv a0/\k=eY kk/\y=kV kk)\/∃ (kv:List (List Key×V)) (kk:List Key) (b:Addr),H' a=some (.dT kv)/\pH X.K H' kv a0/\k=.tup (kk.map eY)/\y=.ref b/\H' b=some (.tup (kk.map kV))):=by
 unfold ik at hk;rw [nZ,aS,aS] at hk;rcases hk with ⟨h1,h2⟩ | ⟨h1,h2⟩
 ·obtain⟨kk,rfl⟩:=xR h1;have ey:=xG ry;subst ey;rcases ab a _ hg with ⟨kv,hv,rs⟩ | ⟨kv,hv,rs⟩
  ·exact⟨H,I,.refl ab,.inl ⟨kv,kk,hv,rs,rfl,rfl⟩⟩
  ·cases rs with
   | nil =>
    refine⟨_,toK I hv,Iw ab hg (.putD hv (.inr ⟨_,rfl⟩)) (.inl ⟨[],bV,.nil⟩),.inl ⟨[],kk,bV,.nil,rfl,rfl⟩⟩
   | cons _ _=>simp [dw] at h2
 ·obtain⟨kk,rfl⟩:=IE h1;obtain⟨b,rfl,hb⟩:=DU ry;rcases ab a _ hg with ⟨kv,hv,rs⟩ | ⟨kv,hv,rs⟩
  ·cases rs with
   | nil =>
    have kp:Kp H (upd H a (.dT [])):=.putD hv (.inl ⟨_,rfl⟩);exact⟨_,toT I hv,Iw ab hg kp (.inr ⟨[],bV,.nil⟩),.inr ⟨[],kk,b,bV,.nil,rfl,rfl,kp.tup _ _ hb⟩⟩
   | @cons j _ _ _ _ _ _=>cases j <;> simp [eY,sP] at h2
  ·exact⟨H,I,.refl ab,.inr ⟨kv,kk,b,hv,rs,rfl,rfl,hb⟩⟩
theorem EM(I:Inv X pins σ H s)(ab:jQ X.K H G)(hg:G a=some (.jP a0))(hk:ik a0 k=true)(ry:bS X.K H y k) :
  ∃ H' o,Inv X pins σ H' s/\Mv X.K H G H' G/\zE H' a y o/\o.isSome=(look a0 k).isSome/\∀ d,look a0 k=some d->∃ v,o=some v/\bS X.K H' v d:=by
 obtain⟨H',I',m,h⟩:=IW I ab hg hk ry;rcases h with ⟨kv,kk,hv,rs,rfl,rfl⟩ | ⟨kv,kk,b,hv,rs,rfl,rfl,hb⟩
 ·refine⟨H',kL kv kk,I',m,.k hv,?_,fun d hd=>?_⟩
  ·rcases rs.look kk with ⟨v,d,e1,e2,_⟩ | ⟨e1,e2⟩ <;> rw [e1,e2] <;> rfl
  ·rcases rs.look kk with ⟨v,d',e1,e2,r⟩ | ⟨e1,e2⟩
   ·rw [e2] at hd; cases hd; exact⟨v,e1,r⟩
   ·rw [e2] at hd; cases hd
 ·refine⟨H',kL kv kk,I',m,.t hv hb,?_,fun d hd=>?_⟩
  ·rcases rs.look kk with ⟨v,d,e1,e2,_⟩ | ⟨e1,e2⟩ <;> rw [e1,e2] <;> rfl
  ·rcases rs.look kk with ⟨v,d',e1,e2,r⟩ | ⟨e1,e2⟩
   ·rw [e2] at hd; cases hd; exact⟨v,e1,r⟩
   ·rw [e2] at hd; cases hd
theorem B3{x:V}(I:Inv X pins σ H s)(rd:bS X.K H x (.oS a0))(hk:ik a0 k=true)(ry:bS X.K H y k) :
  ∃ a o,x=.ref a/\(a0=[]\/zE H a y o)/\o.isSome=(look a0 k).isSome/\∀ d,look a0 k=some d->∃ v,o=some v/\bS X.K H v d:=by
 unfold ik at hk;rw [nZ,aS,aS] at hk;cases rd with
 | pW h rs =>
  rename_i a ob kv;rcases hk with ⟨h1,h2⟩ | ⟨h1,h2⟩
  ·obtain⟨kk,rfl⟩:=xR h1;have ey:=xG ry;subst ey;refine⟨a,kL kv kk,rfl,.inr (.inl ⟨kv,kk,.inr ⟨_,h⟩,rfl,rfl⟩),?_,fun d hd=>?_⟩
   ·rcases rs.look kk with ⟨v,d,e1,e2,_⟩ | ⟨e1,e2⟩ <;> rw [e1,e2] <;> rfl
   ·rcases rs.look kk with ⟨v,d',e1,e2,r⟩ | ⟨e1,e2⟩
    ·rw [e2] at hd; cases hd; exact⟨v,e1,r⟩
    ·rw [e2] at hd; cases hd
  ·cases rs with
   | nil=>exact⟨a,none,rfl,.inl rfl,rfl,fun d hd=>by cases hd⟩
   | cons _ _ =>
    rename_i kx _ _ _ _ _ _;rw [K6,aS] at h2;cases kx <;> exact absurd h2.1 (by simp [eY,sP])
 | pV h rs =>
  rename_i a ob kv;rcases hk with ⟨h1,h2⟩ | ⟨h1,h2⟩
  ·cases rs with
   | nil=>exact⟨a,none,rfl,.inl rfl,rfl,fun d hd=>by cases hd⟩
   | cons _ _ =>
    rw [K6,aS] at h2;exact absurd h2.1 (by simp [dw])
  ·obtain⟨kk,rfl⟩:=IE h1;obtain⟨b,rfl,hb⟩:=DU ry;refine⟨a,kL kv kk,rfl,.inr (.inr ⟨kv,kk,b,.inr ⟨_,h⟩,rfl,hb,rfl⟩),?_,fun d hd=>?_⟩
   ·rcases rs.look kk with ⟨v,d,e1,e2,_⟩ | ⟨e1,e2⟩ <;> rw [e1,e2] <;> rfl
   ·rcases rs.look kk with ⟨v,d',e1,e2,r⟩ | ⟨e1,e2⟩
    ·rw [e2] at hd; cases hd; exact⟨v,e1,r⟩
    ·rw [e2] at hd; cases hd
theorem NQ{v:V}{d:D}(I:Inv X pins σ H s)(ab:jQ X.K H G)(hg:G a=some (.jP a0))(hk:ik a0 k=true)(hz:a0.length < SZ)(ry:bS X.K H y k)(rv:bS X.K H v d) :
  ∃ H' H'',Inv X pins σ H' s/\KY H' a y v H''/\Mv X.K H G H'' (bP G a (.jP (put a0 k d))):=by
 obtain⟨H',I',m,h⟩:=IW I ab hg hk ry;have VS:=rv.mono (m.kp ab);have sz:bb=16777216:=cm;rcases h with ⟨kv,kk,hv,rs,rfl,rfl⟩ | ⟨kv,kk,b,hv,rs,rfl,rfl,hb⟩
 ·have kp:Kp H' (upd H' a (.dK (putK kv kk v))):=.putD hv (.inl ⟨_,rfl⟩);exact⟨H',_,I',.k hv (by rw [rs.length,sz]; exact hz),m.trans (.put m.ab hg kp (.inl ⟨_,bV,(rs.put kk VS).mono kp⟩))⟩
 ·have kp:Kp H' (upd H' a (.dT (putK kv kk v))):=.putD hv (.inr ⟨_,rfl⟩);exact⟨H',_,I',.t hv hb (by rw [rs.length,sz]; exact hz),m.trans (.put m.ab hg kp (.inr ⟨_,bV,(rs.put kk VS).mono kp⟩))⟩
end
section
variable {X:Cx} {a b c e:Expr} {es:List Expr} {ta tb tc te:eZ} {t:vh} {pos p p2 apos pE:Pos} {x:Str}
theorem sI{k:Bool}{j}:gR X (.Constant (.bool k) j pos) (dC (.bl k)):=nF Ur fun _ _=>.bl k
theorem Cg{j}:gR X (.Constant .none j pos) (dC .dI):=nF RK fun _ _=>.dI
theorem jk{y:Str}{j}:gR X (.Constant (.str y) j pos) (dC (.str y)):=nF RJ fun _ _=>.str y
theorem i7{st:Stmt}:Bo X st oJ:=fun _ _ _ _ _ _ _ _ _ _ h=>h.elim
theorem cy(hu:X.A.units+64 < cLine)(ha:gR X a ta)(hb:gR X b tb)(hs:Qi b):gR X (.Subscript a b pos) (a9 j7 ta tb):=by
 intro E pins s σ H τ G Q hE I h;refine Subscript_ (QZ ha hb hE I h fun v u s2 x y dx dy H2 G2 J m rx ry dX dY q=>?_);have fin:∀ {rb:R2},Y9 X rb->rb x y H2 (xw X.K H2 G2 Q)->wpAny (model X.prog X.w) X.A (subscriptTail a b v u) (pq X pins σ H G Q) X.xe s2:=fun hr hq =>
  fV (hr a b pins s2 σ H2 x y v u _ J.inv rx ry hq (hs _ _)) fun _ _ z=>(pq.of z).trans m
 cases dX with
 | tup hq rs =>
  cases dY with
  | int i =>
   rw [e8] at q;split at q
   ·rename_i d hd;obtain⟨w,hw,rE⟩:=rs.we hd;exact fin Si ⟨_,_,i,w,rfl,rfl,.of hq,hw,d,G2,.refl J.ab,rE,q⟩
   ·exact q.elim
  | _=>exact bw q
 | da hq rs =>
  cases dY with
  | int i =>
   rw [qe] at q;split at q
   ·rename_i d hd;obtain⟨w,hw,rE⟩:=rs.we hd;exact fin IF ⟨_,_,i,w,rfl,rfl,hq.sq,hw,d,G2,.refl J.ab,rE,q⟩
   ·exact q.elim
  | _=>exact bw q
 | pW h rs =>
  rw [B7] at q;obtain⟨hk,q⟩:=q;split at q
  ·rename_i d hd;obtain⟨a',o,ea,g,_,hv⟩:=B3 J.inv (.pW h rs) hk dY;obtain⟨w,rfl,rE⟩:=hv d hd;cases ea;rcases g with rfl | g
   ·cases hd
   ·cases rx;exact tail_any (qx J.inv g) PySem.F.slot_dict_getitem.lookup (v8 (by lia) J.inv g ry fun w' s3 I4 rv=>⟨w,H2,d,G2,I4,m,rv,rE,q⟩) (hs _ _)
  ·exact q.elim
 | pV h rs =>
  rw [B7] at q;obtain⟨hk,q⟩:=q;split at q
  ·rename_i d hd;obtain⟨a',o,ea,g,_,hv⟩:=B3 J.inv (.pV h rs) hk dY;obtain⟨w,rfl,rE⟩:=hv d hd;cases ea;rcases g with rfl | g
   ·cases hd
   ·cases rx;exact tail_any (qx J.inv g) PySem.F.slot_dict_getitem.lookup (v8 (by lia) J.inv g ry fun w' s3 I4 rv=>⟨w,H2,d,G2,I4,m,rv,rE,q⟩) (hs _ _)
  ·exact q.elim
 | ref l =>
  rw [Pb] at q;split at q
  ·rename_i ds hl;obtain⟨vs,hv,rs⟩:=J.ab.lst hl;cases dY with
   | int i =>
    dsimp only at q;split at q
    ·rename_i d hd;obtain⟨w,hw,rE⟩:=rs.we hd;exact fin IF ⟨_,_,i,w,rfl,rfl,.of hv,hw,d,G2,.refl J.ab,rE,q⟩
    ·exact q.elim
   | _=>exact bw q
  ·rename_i a0 hl;obtain⟨hk,q⟩:=q;split at q
   ·rename_i d hd;obtain⟨H3,o,I3,m3,g,_,hv⟩:=EM J.inv J.ab hl hk dY;obtain⟨w,rfl,rE⟩:=hv d hd;cases rx;exact tail_any (qx I3 g) PySem.F.slot_dict_getitem.lookup (v8 (by lia) I3 g ry fun w' s3 I4 rv=>⟨w,H3,d,G2,I4,m.trans m3,rv,rE,q⟩) (hs _ _)
   ·exact q.elim
  ·exact q.elim
 | _=>exact bw q
noncomputable def Wu(X:Cx)(e:Option Expr)(t:VG):Prop :=
 ∀ (E:jz) (pins:List (Addr×Obj)) (s:au) (σ:L2.St) (H:Hp) (τ:g6) (G:Gp) (Q:Option Int->Gp->Prop),Lk X E->I2 X pins σ H τ G s->t E τ G Q ->
  wpAny (model X.prog X.w) X.A (evalPart e X.env) (fun u s'=>∃ o H' G',Inv X pins σ H' s'/\Mv X.K H G H' G'/\IsPart u o/\Q o G') X.xe s
theorem lD:Wu X none hX:=by
 intro E pins s σ H τ G Q hE I h;rw [evalPart_none];exact aZ ⟨none,H,G,I.inv,.refl I.ab,.none,h⟩
theorem lC(h:gR X e te):Wu X (some e) (u3 te):=by
 intro E pins s σ H τ G Q hE I hw;rw [evalPart_some];refine ki h hE I hw fun x H1 d G1 u s1 I1 m1 r1 km q1=>?_;cases km with
 | int i =>
  obtain⟨t,rfl⟩:=r1;exact⟨some i,H1,G1,I1.inv,m1,.int i t,q1⟩
 | _=>exact bw q1
theorem jW{lo hi:Option Expr}{tl th:VG}(he:gR X a ta)(hl:Wu X lo tl)(hu:Wu X hi th):gR X (.Subscript a (.Slice lo hi none p2) pos) (Jb ta tl th):=by
 intro E pins s σ H τ G Q hE I h;refine Subscript_ (ki he hE I h fun x H1 d G1 v s1 I1 m1 r1 km q1=>?_);refine wpAny_Slice (fV (hl E pins s1 σ H1 τ G1 _ hE I1 q1) ?_);rintro vl s2 ⟨l,H2,G2,kd,m2,pl,q2⟩;refine fV (hu E pins s2 σ H2 τ G2 _ hE (I1.mv kd m2) q2) ?_;rintro vu s3 ⟨r,H3,G3,I3,m3,pu,q3⟩;rw [evalPart_none];refine aZ ?_;have Z2:=m2.trans m3;have mm:=m1.trans Z2;have I4:Inv X pins σ H3 { s3 with heap:=s3.heap.push { cls:=.type "slice",data:=.fields #[vl,vu,.none] } }:=I3.kept (t':=s3.toks) fun b ob q=>aA _ q;have WY:=km.mono (Z2.kp I1.ab);have Q3:=m3.ab;have key:∀ {rb:V->Option Int->Option Int->Hp->VK->Prop},Y5 X rb->rb x l r H3 (xw X.K H3 G3 Q)->wpAny (model X.prog X.w) X.A (subscriptTail a (.Slice lo hi none p2) v (.ref s3.heap.objs.size)) (pq X pins σ H G Q) X.xe { s3 with heap:=s3.heap.push { cls:=.type "slice",data:=.fields #[vl,vu,.none] } }:=fun hr hq=>by
  obtain⟨T,id,hT,ht,hg⟩:=hr pins { s3 with heap:=s3.heap.push { cls:=.type "slice",data:=.fields #[vl,vu,.none] } } σ H3 x v vl vu l r s3.heap.objs.size _ I4 r1 (Heap.IsSliceOf.new ..) pl pu hq;exact fV (tail_any (ops:=[.ref s3.heap.objs.size,v]) ht hT hg (by with_unfolding_all rfl)) fun _ _ z=>(pq.of z).trans mm
 cases WY with
 | tup hq rs =>
  obtain⟨hw,q⟩:=q3;refine key RA ⟨_,_,rfl,.of hq,?_,fun p hp=>⟨_,G3,.Ld Q3 hp,.tup bV ((rs.cut l r).mono (.new hp)),q⟩⟩;rw [B2,B2,rs.length];exact hw
 | da hq rs=>exact key Ib ⟨_,_,rfl,hq.sq,fun p hp=>⟨_,_,.GJ Q3 hp (rs.cut l r),.ref _,q3 p (Q3.free hp)⟩⟩
 | ref g =>
  rw [B5] at q3;split at q3
  ·rename_i ds hg;obtain⟨vs,hv,rs⟩:=Q3.lst hg;exact key Ib ⟨_,_,rfl,.of hv,fun p hp=>⟨_,_,.GJ Q3 hp (rs.cut l r),.ref _,q3 p (Q3.free hp)⟩⟩
  ·exact q3.elim
 | _=>exact bw q3
theorem Pn(ss:List D)(s:D)(h1:vq ss=true)(h2:nr s=true):((oW ss).any fun y=>tN y (pd s))=ss.any (ip · s):=by
 induction ss with
 | nil=>rfl
 | cons d r ih =>
  have h':nr d=true/\vq r=true:=(ja).mp h1;show (tN (pd d) (pd s)||(oW r).any _)=_;rw [ih h'.2,v5 d s h'.1 h2]; rfl
theorem IX{G:Gp}{n:Nat}{ds ss:List D}(h:Sn G (n+1) (.da ds) (.da ss)):dB (oW ss)<=n:=by
 exact tO (CT h)
theorem Cr(hu:X.A.units+64 < cLine)(neg:Bool){pins:List (Addr×Obj)}{s:au}{σ:L2.St}{H:Hp}{G:Gp}{x y:V}{dx t:D}{ds ss:List D}{v u:Value}{Q:DK}(I:Inv X pins σ H s)(ab:jQ X.K H G)(rx:RelV x v)(dX:bS X.K H x dx)
  (hy:(∃ l vs its,u=.ref l/\Vals vs its/\a4 X.K H vs ds/\(s.heap.IsList l its.toArray\/s.heap.IsTuple l its.toArray))) (s1:Sn G SN dx t) (s2:Sn G SN (.da ds) (.da ss))
  (q:Q (.bl (if neg then !ss.any (ip · t) else ss.any (ip · t))) G):wpAny (model X.prog X.w) X.A (eO (if neg then .NotIn else .In) v u) (pq X pins σ H G Q) X.xe s:=by
 obtain⟨l,vs,its,rfl,rv,rs,hl⟩:=hy;obtain⟨as,ra⟩:=(iy I ab s1).1 x v dX rx;obtain⟨bs,rb⟩:=(iy I ab s2).2 ds ss (.inl ⟨rfl,rfl⟩) vs its rs rv;have d2:=IX (n:=7) s2;have n2:vq ss=true:=s2.nr;have yR:=uM _ n2;have e:=Pn ss t n2 s1.nr;have IK:X.A.units+1+min (dB (oW ss)) (pd t).depth < cLine:=by lia
 have Me:jH s.heap its.toArray.toList (oW ss) bs:=by simpa using rb
 have fin:∀ k:Bool,k=(if neg then !ss.any (ip · t) else ss.any (ip · t))->pq X pins σ H G Q (.bool k) s:=fun k hk=>by subst hk; exact⟨.bl _,H,.bl _,G,I,.refl ab,rfl,.bl _,q⟩
 cases neg with
 | false =>
  rcases hl with hl | hl
  ·exact SeqAt.in_listAt _ hl (lX Me ra yR (kB _ s1.nr) IK) (by rw [pM Me yR,e]; exact fin _ rfl)
  ·exact SeqAt.in_tupleAt _ hl (lX Me ra yR (kB _ s1.nr) IK) (by rw [pM Me yR,e]; exact fin _ rfl)
 | true =>
  rcases hl with hl | hl
  ·exact SeqAt.notIn_listAt _ hl (lX Me ra yR (kB _ s1.nr) IK) (by rw [pM Me yR,e]; exact fin _ rfl)
  ·exact SeqAt.notIn_tupleAt _ hl (lX Me ra yR (kB _ s1.nr) IK) (by rw [pM Me yR,e]; exact fin _ rfl)
theorem M8(hu:X.A.units+64 < cLine)(neg:Bool){pins:List (Addr×Obj)}{s:au}{σ:L2.St}{H:Hp}{G:Gp}{x y:V}{dx:D}{a0:List (D×D)}{v u:Value}{Q:DK}(I:Inv X pins σ H s)(ab:jQ X.K H G)(rx:RelV x v)(ry:RelV y u)(dY:bS X.K H y (.oS a0))(dX:bS X.K H x dx)
  (q:Ca neg dx (.oS a0) G Q):wpAny (model X.prog X.w) X.A (eO (if neg then .NotIn else .In) v u) (pq X pins σ H G Q) X.xe s:=by
 obtain⟨pD,hk,q⟩:=q;have go:∀ (a:Addr) (o:Option V),y=.ref a->zE H a x o->o.isSome=(look a0 dx).isSome->wpAny (model X.prog X.w) X.A (eO (if neg then .NotIn else .In) v u) (pq X pins σ H G Q) X.xe s:=by
  intro a o ea g ho;subst ea;cases ry;cases neg with
  | false=>exact Vy (by lia) I g rx fun s3 I4=>⟨.bl _,H,.bl _,G,I4,.refl ab,rfl,.bl _,by rw [ho]; exact q⟩
  | true=>exact IZ (by lia) I g rx fun s3 I4=>⟨.bl _,H,.bl _,G,I4,.refl ab,rfl,.bl _,by rw [ho]; exact q⟩
 obtain⟨a,o,ea,g,ho,_⟩:=B3 I dY hk dX;rcases g with rfl | g
 ·exact absurd rfl pD
 ·exact go a o ea g ho
theorem Iu(hu:X.A.units+64 < cLine)(neg:Bool):tw X (eO (if neg then .NotIn else .In)) (Ca neg):=by
 intro pins s σ H G x y dx dy v u Q I ab rx ry dX dY q;cases dY with
 | tup hq rs =>
  obtain⟨t,ss,s1,s2,q⟩:=q;cases ry;obtain⟨its,rv,pl,hz⟩:=I.tuple (.of hq);exact Cr hu neg (y:=x) I ab rx dX ⟨_,_,its,rfl,rv,rs,.inr pl⟩ s1 s2 q
 | da hq rs =>
  obtain⟨t,ss,s1,s2,q⟩:=q;cases ry;obtain⟨its,rv,pl,hz⟩:=I.list hq.sq;exact Cr hu neg (y:=x) I ab rx dX ⟨_,_,its,rfl,rv,rs,.inl pl.isList⟩ s1 s2 q
 | pW h rs=>exact M8 hu neg I ab rx ry (.pW h rs) dX q
 | pV h rs=>exact M8 hu neg I ab rx ry (.pV h rs) dX q
 | ref l =>
  unfold Ca at q;dsimp only at q;split at q
  ·rename_i a0 hl;obtain⟨hk,q⟩:=q;obtain⟨H3,o,I3,m3,g,ho,_⟩:=EM I ab hl hk dX;cases ry;cases neg with
   | false=>exact Vy (by lia) I3 g rx fun s3 I4=>⟨.bl _,H3,.bl _,G,I4,m3,rfl,.bl _,by rw [ho]; exact q⟩
   | true=>exact IZ (by lia) I3 g rx fun s3 I4=>⟨.bl _,H3,.bl _,G,I4,m3,rfl,.bl _,by rw [ho]; exact q⟩
  ·rename_i ds hl;obtain⟨t,ss,s1,s2,q⟩:=q;cases ry;obtain⟨vs,hv,rs⟩:=ab.lst hl;obtain⟨its,rv,pl,hz⟩:=I.list (.of hv);exact Cr hu neg (y:=x) I ab rx dX ⟨_,_,its,rfl,rv,rs,.inl pl.isList⟩ s1 s2 q
  ·exact q.elim
 | _=>exact bw q
theorem Ci(hu:X.A.units+64 < cLine):tw X (eO .In) (Ca false):=Iu hu false
theorem vH(hu:X.A.units+64 < cLine):tw X (eO .NotIn) (Ca true):=Iu hu true
end
section
variable {X:Cx} {a b c e o:Expr} {es:List Expr} {ta tb tc te to:eZ} {t:vh} {pos p p2 apos pE:Pos} {x name:Str} {id T:String}
theorem eI:tE X (.builtin "len") kD:=by
 intro pins s σ H G xs ds us Q I ab rx rd q;unfold kD at q;split at q
 ·rename_i x;obtain⟨v,rfl,r⟩:=rd.one;have OV:∀ (n:Nat),VL X.K v H n->Q (.int (n:Int)) G->wpAny (model X.prog X.w) X.A (call (.builtin "len") us) (pq X pins σ H G Q) X.xe s:=fun n hn hq =>
   fV (N8 pins s σ H [v] us (xw X.K H G Q) I rx ⟨v,n,rfl,hn,_,_,.refl ab,.int _,hq⟩) fun _ _ z=>.of z
  have sz:bb=16777216:=cm;cases r with
  | tup hq rs=>exact OV _ (.inr ⟨_,.of hq,by rw [rs.length]⟩) q
  | da hq rs=>exact OV _ (.inl ⟨_,hq.sq,by rw [rs.length]⟩) q
  | str y =>
   unfold lenOf at q;dsimp only at q;by_cases hz:y.length<=SZ
   ·rw [if_pos hz] at q; exact OV _ ⟨by rw [sz]; exact hz,rfl⟩ q
   ·rw [if_neg hz] at q; exact q.elim
  | pW h rs =>
   rename_i l o kv a0;obtain⟨u,rfl,ru⟩:=rx.one;cases ru;unfold lenOf at q;dsimp only at q;by_cases ha:(a0.all fun p=>dw p.1)=true
   ·rw [if_pos ha] at q;exact QU I (.inr ⟨_,h⟩) fun t s' I'=>⟨.int kv.length,H,_,G,I',.refl ab,⟨t,rfl⟩,.int _,by rw [rs.length]; exact q⟩
   ·rw [if_neg ha] at q; exact q.elim
  | pV h rs =>
   rename_i l o kv a0;obtain⟨u,rfl,ru⟩:=rx.one;cases ru;unfold lenOf at q;dsimp only at q;by_cases ha:(a0.all fun p=>dw p.1)=true
   ·rw [if_pos ha] at q;cases rs with
    | nil =>
     obtain⟨z,hS,xs,rel,ob,es,ep,ho,hx,Ks,hl,nd⟩:=(I.cF l _ h).2;have X1:xs=[]:=by cases rel; rfl
     subst X1;have he:es=#[]:=by simpa using hl
     subst he;have dd:s.heap.DictOf (eV X.prog X.w) l []:=⟨ob,#[],ep,ho,hx,Ks,(fun _ h=>by simp at h),.nil,c9⟩;refine call_len_dict hS dd (by simp) ?_;exact⟨.int 0,H,_,G,I.tok _,.refl ab,⟨_,rfl⟩,.int _,q⟩
    | cons _ _=>simp [dw] at ha
   ·rw [if_neg ha] at q; exact q.elim
  | ref l =>
   unfold lenOf at q;dsimp only at q;cases hg:G l with
   | none=>rw [hg] at q; exact q.elim
   | some g =>
    rw [hg] at q;cases g with
    | lst ds =>
     obtain⟨vs,hv,rs⟩:=ab.lst hg;exact OV _ (.inl ⟨_,.of hv,by rw [rs.length]⟩) q
    | ins _ _=>exact q.elim
    | Ht _=>exact q.elim
    | jP a0 =>
     obtain⟨u,rfl,ru⟩:=rx.one;cases ru;dsimp only at q;by_cases ha:(a0.all fun p=>dw p.1)=true
     ·rw [if_pos ha] at q;rcases ab l _ hg with ⟨kv,hv,rs⟩ | ⟨kv,hv,rs⟩
      ·exact QU I (.inl hv) fun t s' I'=>⟨.int kv.length,H,_,G,I',.refl ab,⟨t,rfl⟩,.int _,by rw [rs.length]; exact q⟩
      ·cases rs with
       | nil =>
        obtain⟨z,hd,vs,rel,dd⟩:=EL (toK I hv).cF bV;have hvs:vs=[]:=by cases rel; rfl
        subst hvs;refine call_len_dict hd dd (by simp) ?_;exact⟨.int 0,H,_,G,I.tok _,.refl ab,⟨_,rfl⟩,.int _,q⟩
       | cons _ _=>simp [dw] at ha
     ·rw [if_neg ha] at q; exact q.elim
  | _=>exact bw q
 ·exact q.elim
theorem zr:tE X (.type "list") u7:=by
 intro pins s σ H G xs ds us Q I ab rx rd q;unfold u7 at q;split at q
 ·rename_i x;obtain⟨v,rfl,r⟩:=rd.one;have WL:∀ (l:Addr) (ys:List V) (zs:List D),v=.ref l->(wZ X.K H l ys\/zx X.K H l ys)->a4 X.K H ys zs->jK G (.lst zs) Q->wpAny (model X.prog X.w) X.A (call (.type "list") us) (pq X pins σ H G Q) X.xe s:=fun l ys zs e h rs hq=>by
   subst e;exact fV (C5 pins s σ H _ us (xw X.K H G Q) I rx ⟨l,ys,rfl,h,fun p hp=>⟨_,_,.GJ ab hp rs,.ref _,hq p (ab.free hp)⟩⟩) fun _ _ z=>.of z
  cases r with
  | tup hq rs=>exact WL _ _ _ rfl (.inr (.of hq)) rs q
  | da hq rs=>exact WL _ _ _ rfl (.inl hq.sq) rs q
  | ref l =>
   unfold itemsOf at q;dsimp only at q;cases hg:G l with
   | none=>rw [hg] at q; exact q.elim
   | some g =>
    rw [hg] at q;cases g with
    | lst ds =>
     obtain⟨vs,hv,rs⟩:=ab.lst hg;exact WL _ _ _ rfl (.inl (.of hv)) rs q
    | ins _ _=>exact q.elim
    | Ht _=>exact q.elim
    | jP a0=>exact q.elim
  | _=>exact bw q
 ·exact q.elim
theorem sH {r:List D->Gp->DK->Prop} (hc:tE X (.type T) r) (hg:Gl X x) (hm:X.mg x=none) (hv:dF x=some (.type T)) (ha:x5 X (e :: es) t) (hn:autoParam (x≠"__name__") Ad._auto_1) (uS:autoParam ((x == ("__debug__" : Str))=false) Ad._auto_1)
  (he:autoParam (aY (e :: es) X.env=(false,eval e X.env) :: aY es X.env) Ar._auto_1) (oC:autoParam ((fU pos (aY es X.env)).any (·.1)=false) Ar._auto_1):gR X (.Call (.Name x p) (e :: es) [] pos) (nS r t):=by
 intro E pins s σ H τ G Q hE I h;refine bZ (kA I.inv hg hm hv ?_ hn uS);exact e7 (rC ha pos hE I h fun vs H1 ds G1 us s1 I1 m1 r1 km q1=>fV (hc pins s1 σ H1 G1 vs ds us Q I1.inv I1.ab r1 km q1) fun _ _ z=>z.trans m1) he oC
theorem Se (K:ag):∀ C∈["int","bool","list","tuple","dict","str"],∀ T∈["NoneType","bool","int","str","tuple","list","dict"],cG K (.type T) (.type C)=some (T == C||(T == "bool" && C == "int")):=by
 intro C hC T hT;simp only [mX,dg,or_false] at hC hT;rcases hC with rfl | rfl | rfl | rfl | rfl | rfl <;> rcases hT with rfl | rfl | rfl | rfl | rfl | rfl | rfl <;> kernel_rfl
theorem M4 (C:String) (hC:C∈["int","bool","list","tuple","dict","str"]) {pins:List (Addr×Obj)} {s:au} {σ:L2.St} {H:Hp} {G:Gp} {v:V} {d:D} {u:Value} {k:Bool} {Q:DK} (I:Inv X pins σ H s) (ab:jQ X.K H G) (ru:RelV v u) (r:bS X.K H v d)
  (hk:PR C d G=some k) (q:Q (.bl k) G):wpAny (model X.prog X.w) X.A (call (.builtin "isinstance") [u,.type C]) (pq X pins σ H G Q) X.xe s:=by
 have fin:∀ tk,pq X pins σ H G Q (.bool k) { s with toks:=tk }:=fun tk=>⟨.bl k,H,.bl k,G,I.tok _,.refl ab,rfl,.bl k,q⟩;have hl:∀ T∈["NoneType","bool","int","str","tuple","list","dict"],k=(T == C||(T == "bool" && C == "int"))->cG X.K (.type T) (.type C)=some k:=fun T hT e=>by rw [Se X.K C hC T hT,e]
 have tl:∀ {l:Addr} {o:Obj},s.heap.get? l=some o->o.cls=.type "list"->k=("list" == C||("list" == "bool" && C == "int"))->v=.ref l->wpAny (model X.prog X.w) X.A (call (.builtin "isinstance") [u,.type C]) (pq X pins σ H G Q) X.xe s:=fun ho hc e ev=>by
  subst ev;cases ru;exact c6 PySem.W.kitx_list I.qr ⟨_,ho,hc⟩ (hl "list" (by decide) e) (fun z=>nomatch z) fin
 have td:∀ {l:Addr} {o:Obj},s.heap.get? l=some o->o.cls=.type "dict"->k=("dict" == C||("dict" == "bool" && C == "int"))->v=.ref l->wpAny (model X.prog X.w) X.A (call (.builtin "isinstance") [u,.type C]) (pq X pins σ H G Q) X.xe s:=fun ho hc e ev=>by
  subst ev;cases ru;exact c6 PySem.W.kitx_dict I.qr ⟨_,ho,hc⟩ (hl "dict" (by decide) e) (fun z=>nomatch z) fin
 have mU:∀ P:String->Prop,(∀ C'∈["int","bool","list","tuple","dict","str"],P C')->P C:=fun P h=>h C hC;cases r with
 | dI =>
  cases ru;have e:k=("NoneType" == C||("NoneType" == "bool" && C == "int")):=by
   have:k=false:=(ba hk).symm;rw [this];exact mU (fun C=>false=("NoneType" == C||("NoneType" == "bool" && C == "int"))) (by decide)
  exact c6 OM I.qr g7 (hl _ (by decide) e) (fun z=>nomatch z) fin
 | bl y =>
  cases ru;have e:k=("bool" == C||("bool" == "bool" && C == "int")):=by
   have:k=(C == "bool" || C == "int"):=(ba hk).symm;rw [this];exact mU (fun C=>(C == "bool" || C == "int")=("bool" == C||("bool" == "bool" && C == "int"))) (by decide)
  exact c6 PySem.W.kitx_bool I.qr g7 (hl _ (by decide) e) (fun z=>nomatch z) fin
 | int y =>
  obtain⟨t,rfl⟩:=ru;have e:k=("int" == C||("int" == "bool" && C == "int")):=by
   have:k=(C == "int"):=(ba hk).symm;rw [this];exact mU (fun C=>(C == "int")=("int" == C||("int" == "bool" && C == "int"))) (by decide)
  exact c6 PySem.W.kitx_int I.qr g7 (hl _ (by decide) e) (fun z=>nomatch z) fin
 | str y =>
  obtain⟨t,rfl⟩:=ru;have e:k=("str" == C||("str" == "bool" && C == "int")):=by
   have:k=(C == "str"):=(ba hk).symm;rw [this];exact mU (fun C=>(C == "str")=("str" == C||("str" == "bool" && C == "int"))) (by decide)
  exact c6 PySem.W.kitx_str I.qr g7 (hl _ (by decide) e) (fun z=>nomatch z) fin
 | tup hq rs =>
  cases ru;have e:k=("tuple" == C||("tuple" == "bool" && C == "int")):=by
   have:k=(C == "tuple"):=(ba hk).symm;rw [this];exact mU (fun C=>(C == "tuple")=("tuple" == C||("tuple" == "bool" && C == "int"))) (by decide)
  obtain⟨its,rv,⟨o,h1,h2,_⟩,hz⟩:=I.tuple (.of hq);exact c6 PySem.W.kitx_tuple I.qr ⟨o,h1,h2⟩ (hl _ (by decide) e) (fun z=>nomatch z) fin
 | da hq rs =>
  obtain⟨its,rv,pl,hz⟩:=I.list hq.sq;obtain⟨o,h1,h2,_⟩:=pl.isList;refine tl h1 h2 ?_ rfl;have:k=(C == "list"):=(ba hk).symm;rw [this];exact mU (fun C=>(C == "list")=("list" == C||("list" == "bool" && C == "int"))) (by decide)
 | pW h rs =>
  have e:k=("dict" == C||("dict" == "bool" && C == "int")):=by
   have:k=(C == "dict"):=(ba hk).symm;rw [this];exact mU (fun C=>(C == "dict")=("dict" == C||("dict" == "bool" && C == "int"))) (by decide)
  obtain⟨_,_,vs,_,ob,_,_,h1,h2,_⟩:=se I.cF (.inr ⟨_,h⟩);exact td h1 h2.1 e rfl
 | pV h rs =>
  have e:k=("dict" == C||("dict" == "bool" && C == "int")):=by
   have:k=(C == "dict"):=(ba hk).symm;rw [this];exact mU (fun C=>(C == "dict")=("dict" == C||("dict" == "bool" && C == "int"))) (by decide)
  obtain⟨_,_,ys,_,ob,_,_,h1,h2,_⟩:=zg I.cF (.inr ⟨_,h⟩);exact td h1 h2.1 e rfl
 | exc h=>simp [PR] at hk
 | zM h _=>simp [PR] at hk
 | AQ _ _ _ _=>simp [PR] at hk
 | ref l =>
  unfold PR at hk;dsimp only at hk;cases hg:G l with
  | none=>rw [hg] at hk; cases hk
  | some g =>
   rw [hg] at hk;cases g with
   | lst ds =>
    obtain⟨vs,hv,rs⟩:=ab.lst hg;obtain⟨its,rv,pl,hz⟩:=I.list (.of hv);obtain⟨o,h1,h2,_⟩:=pl.isList;refine tl h1 h2 ?_ rfl;have:k=(C == "list"):=(ba hk).symm;rw [this];exact mU (fun C=>(C == "list")=("list" == C||("list" == "bool" && C == "int"))) (by decide)
   | ins _ _=>cases hk
   | Ht _=>cases hk
   | jP a0 =>
    have e:k=("dict" == C||("dict" == "bool" && C == "int")):=by
     have:k=(C == "dict"):=(ba hk).symm;rw [this];exact mU (fun C=>(C == "dict")=("dict" == C||("dict" == "bool" && C == "int"))) (by decide)
    rcases ab l _ hg with ⟨kv,hv,rs⟩ | ⟨kv,hv,rs⟩
    ·obtain⟨_,_,vs,_,ob,_,_,h1,h2,_⟩:=EL I.cF hv;exact td h1 h2.1 e rfl
    ·obtain⟨_,_,ys,_,ob,_,_,h1,h2,_⟩:=QT I.cF hv;exact td h1 h2.1 e rfl
theorem Iq (C:String) (hC:C∈["int","bool","list","tuple","dict","str"]) {y:Str} {py:Pos} (hg:Gl X "isinstance") (hm:X.mg "isinstance" = none) (Vd:Gl X y) (U7:X.mg y=none) (hvC:dF y=some (.type C)) (ha:gR X a ta) (hn:autoParam (y≠"__name__") Ad._auto_1) (uS:autoParam ((y == ("__debug__" : Str))=false) Ad._auto_1)
  (he:autoParam (aY [a,.Name y py] X.env=(false,eval a X.env) :: aY [.Name y py] X.env) Ar._auto_1) (oC:autoParam ((fU pos (aY [Expr.Name y py] X.env)).any (·.1)=false) Ar._auto_1) (SH:autoParam (aY [.Name y py] X.env=[(false,eval (.Name y py) X.env)]) Ar._auto_1) :
  gR X (.Call (.Name "isinstance" p) [a,.Name y py] [] pos) (P9 C ta):=by
 intro E pins s σ H τ G Q hE I h;refine bZ (kA I.inv hg hm kE ?_);refine gu ?_ he oC;rw [he];show wpAny _ _ (vt ((false,eval a X.env) :: fU pos (aY [.Name y py] X.env))) _ _ s;refine dG (ki ha hE I h fun v H1 d G1 u s1 I1 m1 r1 km q1=>?_);rw [SH];show wpAny _ _ (vt [(false,eval (.Name y py) X.env)]) _ _ s1;refine dG (kA I1.inv Vd U7 hvC (iX ?_) hn uS)
 try dsimp only at q1
 split at q1
 ·rename_i k hk;exact fV (M4 C hC I1.inv I1.ab r1 km hk q1) fun _ _ z=>z.trans m1
 ·exact q1.elim
end
section
variable {X:Cx} {a b c e o:Expr} {es:List Expr} {ta tb tc te to:eZ} {t:vh} {pos p p2 apos pE:Pos} {x name:Str} {id T:String}
noncomputable def KQ(X:Cx)(id:String)(r:D->List D->Gp->DK->Prop):Prop :=
 ∀ (pins:List (Addr×Obj)) (s:au) (σ:L2.St) (H:Hp) (G:Gp) (x:V) (d:D) (xs:List V) (ds:List D) (v:Value) (us:List Value) (Q:DK),Inv X pins σ H s->jQ X.K H G->RelV x v->bS X.K H x d->Vals xs us->a4 X.K H xs ds->r d ds G Q ->
  wpAny (model X.prog X.w) X.A (call (.builtin id) (v :: us)) (pq X pins σ H G Q) X.xe s
noncomputable def S6(X:Cx)(T:String)(ty:D->Gp->Prop):Prop:=∀ (pins:List (Addr×Obj)) (s:au) (σ:L2.St) (H:Hp) (G:Gp) (x:V) (d:D) (v:Value),Inv X pins σ H s->jQ X.K H G->RelV x v->bS X.K H x d->ty d G ->
  s.TypeIs v T/\∀ a,v=.ref a->∃ ob,s.heap.get? a=some ob/\ob.dict=none
theorem jf:S6 X "list" BW:=by
 intro pins s σ H G x d v I ab r rd h;cases rd with
 | da hq rs=>exact BV I r (.inl ⟨rfl,_,hq.sq⟩)
 | ref l =>
  unfold BW at h;dsimp only at h;split at h
  ·rename_i ds hg;obtain⟨vs,hv,rs⟩:=ab.lst hg;exact BV I r (.inl ⟨rfl,vs,.of hv⟩)
  ·exact h.elim
 | _=>exact bw h
theorem LN:S6 X "dict" Th:=by
 intro pins s σ H G x d v I ab r rd h;cases rd with
 | pW q rs =>
  cases r;obtain⟨t1,t2,_⟩:=M5 I (.inl ⟨_,.inr ⟨_,q⟩⟩);exact⟨t1,t2⟩
 | pV q rs =>
  cases r;obtain⟨t1,t2,_⟩:=M5 I (.inr ⟨_,.inr ⟨_,q⟩⟩);exact⟨t1,t2⟩
 | ref l =>
  unfold Th at h;dsimp only at h;split at h
  ·rename_i a0 hg;rcases ab l _ hg with ⟨kv,hv,rs⟩ | ⟨kv,hv,rs⟩
   ·exact BV I r (.inr (.inr (.inl ⟨rfl,.inl ⟨kv,hv⟩⟩)))
   ·exact BV I r (.inr (.inr (.inl ⟨rfl,.inr ⟨kv,hv⟩⟩)))
  ·exact h.elim
 | _=>exact bw h
theorem mI {ty:D->Gp->Prop} {r:D->List D->Gp->DK->Prop} (pa:PlainAttrs T) (slot:Slot T name id) (hty:typeOf (.builtin id)=pure (.type "method_descriptor")) (ht:S6 X T ty) (hm:KQ X id r) (ho:gR X o to) (ha:x5 X (e :: es) t)
  (Nr:autoParam (attributeBase o name X.env (eval o X.env)=eval o X.env) Ar._auto_1)
  (SG:autoParam (((fU pE (aY (e :: es) X.env)).all (fun x=>!x.1)&&(backToKw pE (Lo [] X.env)).all (fun x=>x.1.isSome)
   && decide ((e :: es).length+([]:List Keyword).length+(if ([]:List Keyword).isEmpty then 0 else 1) < 30))=true) Ar._auto_1)
  (U8:autoParam ((apos.endLine == pE.line)=true) Ar._auto_1) (hs:autoParam (aY (e :: es) X.env=(false,eval e X.env) :: aY es X.env) Ar._auto_1) (Sq:autoParam ((fU pE (aY es X.env)).any (·.1)=false) Ar._auto_1) :
  gR X (.Call (.Attribute o name apos) (e :: es) [] pE) (zm ty r to t):=by
 intro E pins s σ H τ G Q hE I h;refine wpAny_Call_method_late Nr SG U8 rfl (ki ho hE I h ?_);rintro x H1 d G1 v s1 I1 m1 r1 km ⟨hy,q1⟩;obtain⟨h1,h2⟩:=ht pins s1 σ H1 G1 x d v I1.inv I1.ab r1 km hy;refine⟨T,id,pa,slot,hty,h1,h2,?_⟩;have hA:=ha pE E pins s1 σ H1 τ G1 _ hE I1 q1;rw [hs] at hA ⊢;refine Calls.callWith_builtin (by show (false||(fU pE (aY es X.env)).any (·.1))=false; rw [Sq] <;> rfl) (Ov ?_);exact fV hA (by rintro us s2 ⟨vs,H2,ds,G2,kd,m2,r2,Fy,q2⟩; exact fV (hm pins s2 σ H2 G2 x d vs ds v us Q kd m2.ab r1 (km.mono (m2.kp I1.ab)) r2 Fy q2) fun _ _ z=>z.trans (m1.trans m2))
theorem oq:KQ X "list.append" oy:=by
 intro pins s σ H G x d xs ds v us Q I ab rx rd O5 Mc q;unfold oy at q;split at q
 ·rename_i l d';cases rd;obtain⟨w,rfl,rE⟩:=Mc.one;split at q
  ·rename_i zs hg;obtain⟨hz,q⟩:=q;obtain⟨vs,hv,rs⟩:=ab.lst hg;exact fV (AW pins s σ H _ _ v us (xw X.K H G Q) I rx O5 ⟨l,vs,w,rfl,rfl,hv,by rw [rs.length,cm]; exact hz,_,_,.putL ab hg hv (rs.append (.cons rE .nil)),.dI,q⟩) fun _ _ z=>.of z
  ·exact q.elim
 ·exact q.elim
theorem Hr(l:Addr)(xs:Array Value)(n:Nat)(b:Addr)(ys:Array Value)(n2:Nat)(dd:Option Addr)(sl:Array (Option Value))(QN:¬(!xs.isEmpty&&iY (xs.size+ys.size))=true)(hx:xs.size<=bb)(hxy:xs.size+ys.size<=bb+1) :
  Meets (Builtin.«list.extend» ⟨[.ref l,.ref b],[]⟩) (fun _ R s=>s.heap.get? l=some { cls:=.type "list",dict:=none,data:=.seq xs n,slots:=#[] }/\s.heap.get? b=some { cls:=.type "list",dict:=dd,data:=.seq ys n2,slots:=sl }/\R (.ok (.ret HJ)) { s with heap:=s.heap.update l (fC fun x=>x++ys),toks:=s.toks }) :=
 .of_wp fun prog w A R s h=>by
  obtain⟨hp,g,d,tk,os⟩:=s;obtain⟨h1,h2,h3⟩:=h;have e1:=AutoSeq1.idx_int;have e2:=oQ;have e3:=FZ;have e4:=AutoSeq1.sub_tuple_list;have e5:=AutoSeq1.sub_list_tuple;have hz':(xs++ys).size<=bb+1:=by rw [Array.size_append]; exact hxy
  wp_walk using (ib h1 rfl (hz:=hx) (_hz':=hz')),bM h1,bM h2
  exact⟨_,rfl,h3⟩
theorem yC:KQ X "list.extend" uG:=by
 intro pins s σ H G x d xs ds v us Q I ab rx rd O5 Mc q;unfold uG at q;split at q
 ·rename_i l y;cases rd;obtain⟨w,rfl,rE⟩:=Mc.one;obtain⟨u,rfl,ru⟩:=O5.one;split at q
  ·rename_i zs ys hg Yw;obtain⟨hz,q⟩:=q;obtain⟨vs,hv,rs⟩:=ab.lst hg;obtain⟨b,ws,vT,rfl,Qs,RC,hb,_⟩:=lT I ab ru rE Yw;cases rx;obtain⟨z,its,n,r,hl,e⟩:=I.Sb hv;obtain⟨⟨cl,dd,dt,sl⟩,ho,Cz,n2,hdt⟩:=hb;simp only at Cz hdt;subst Cz hdt;have h1:=Qs.length;have h2:=RC.length;have h3:=rs.length;have h4:=r.length;have h5:bb=16777216:=cm;have h6:SZ=16777216:=rfl;have hsz:its.toArray.size+vT.toArray.size<=bb:=by rw [aM,aM]; lia
   have QN:¬ (!its.toArray.isEmpty&&iY (its.toArray.size+vT.toArray.size))=true:=by
    rw [MH hsz,HP];exact c7
   refine call_meets F.slot_list_extend ⟨_,e,rfl⟩ F.entry_list_extend (F.args_list_extend_2 _ _) (Hr l its.toArray n b vT.toArray n2 dd sl QN (by rw [aM]; lia) (by lia)) ⟨e,ho,?_⟩;refine⟨.dI,_,.dI,_,I.Sd (its':=its++vT) hv e (by simp) (r.append Qs) ?_,.putL ab hg hv (rs.append RC),rfl,.dI,q⟩;rw [aO];lia
  ·exact q.elim
 ·exact q.elim
theorem Sk{its:List Value}{u:Value}{k:Nat}(hk:k<=its.length):(its.toArray.extract 0 k).push u++its.toArray.extract k=(its.take k++u :: its.drop k).toArray:=by
 simp [List.extract_eq_take_drop];rw [kJ (by rw [cW]; lia)]
theorem GK:KQ X "list.insert" xP:=by
 intro pins s σ H G x d xs ds v us Q I ab rx rd O5 Mc q;unfold xP at q;split at q
 ·rename_i l i d';cases rd;obtain⟨w,w2,rfl,O6,WU⟩:=Mc.two;cases O6;split at q
  ·rename_i zs hg;obtain⟨h0,h1,hz,q⟩:=q;obtain⟨vs,hv,rs⟩:=ab.lst hg;obtain⟨u1,u2,rfl,⟨t,rfl⟩,WW⟩:=vals2 O5;cases rx;obtain⟨z,its,n,r,hl,e⟩:=I.Sb hv;have sz:bb=16777216:=cm;have hlen:its.length=zs.length:=by rw [<-hl,rs.length]
   have hs:SZ=16777216:=rfl;have Yz:¬ (!Builtin.List.listFitsIndex i)=true:=by
    rw [fitsIndex_both (by lia) (by lia)];exact c7
   refine call_meets F.slot_list_insert ⟨_,e,rfl⟩ F.entry_list_insert (F.args_list_insert_3 _ _ _)
    (AutoSeq1.list_insert_list_int_val_1 l its.toArray n i t u2 Yz (by rw [aM]; lia)) ⟨e,?_⟩
   have hi:i.toNat<=its.length:=by lia
   refine⟨.dI,_,.dI,_,I.Sd (its':=its.take i.toNat++u2 :: its.drop i.toNat) (ys:=vs.take i.toNat++w2 :: vs.drop i.toNat) hv e ?_ ((r.take _).append (.cons WW (r.drop _))) ?_,.putL ab hg hv ((rs.take _).append (.cons WU (rs.drop _))),rfl,.dI,q⟩
   ·dsimp only;have e1:(if i < 0 then (i+(its.toArray.size:Int)).toNat else min i.toNat its.toArray.size)=i.toNat:=by
     rw [if_neg (by lia),aM]; lia
    rw [e1];exact Sk hi
   ·rw [aO,af,l6,cW];lia
  ·exact q.elim
 ·exact q.elim
theorem AX (hu : X.A.units + 64 < cLine) : KQ X "list.index" vM := by
  intro pins s σ H G x d xs ds v us Q I ab rx rd O5 Mc q;unfold vM at q;split at q
  · rename_i d'
    obtain⟨hy, zs, sn, ss, hi, s1, s2, q⟩ := q;obtain⟨w, rfl, rE⟩ := Mc.one;obtain⟨u, rfl, ru⟩ := O5.one;have lists : ∃ l vs its, v = .ref l ∧ Vals vs its ∧ a4 X.K H vs zs ∧ s.heap.IsList l its.toArray ∧ vs.length ≤ bb := by
      cases rd with
      | da hq rs =>
        cases hi;cases rx;obtain⟨its, rv, pl, hz⟩ := I.list hq.sq;exact⟨_, _, its, rfl, rv, rs, pl.isList, hz⟩
      | ref l =>
        unfold itemsOf at hi;dsimp only at hi;cases hg : G l with
        | none => rw [hg] at hi; cases hi
        | some g =>
          rw [hg] at hi;cases g with
          | lst ds =>
            cases hi;cases rx;obtain⟨vs, hv, rs⟩ := ab.lst hg;obtain⟨its, rv, pl, hz⟩ := I.list (.of hv);exact⟨_, _, its, rfl, rv, rs, pl.isList, hz⟩
          | ins _ _ => cases hi
          | Ht _ => cases hi
          | jP _ => cases hi
      | _ => exact bw hy
    obtain⟨l, vs, its, rfl, rv, rs, hl, hz⟩ := lists;obtain⟨as, ra⟩ := (iy I ab s1).1 w u rE ru;obtain⟨bs, rb⟩ := (iy I ab s2).2 zs ss (.inl ⟨rfl, rfl⟩) vs its rs rv;have d2 := IX (n := 7) s2;have n2 : vq ss = true := s2.nr;have yR := uM _ n2;have IK : X.A.units + 1 + min (dB (oW ss)) (pd sn).depth < cLine := by lia
    have Me : jH s.heap its.toArray.toList (oW ss) bs := by simpa using rb
    have mp := SeqAt.readsAll_map _ _ _ yR Me;split at q
    · rename_i k hk
      obtain⟨wR, Yv, U3⟩ := List.findIdx?_eq_some_iff_getElem.mp hk;have pdl : ∀ (zz : List D), (oW zz).length = zz.length := by
        intro zz;induction zz with
        | nil => rfl
        | cons a r ih => exact congrArg Nat.succ ih
      have hlen : its.length = ss.length := by
        have := congrArg dO mp;rw [ai, pdl] at this;simpa using this
      have at_ : ∀ (m : Nat) (h1 : m < its.toArray.size) (h2 : m < ss.length), tN (AH s.heap its.toArray[m]) (pd sn) = ip ss[m] sn := by
        intro m h1 h2;have e1 : (its.toArray.toList.map (AH s.heap))[m]? = (oW ss)[m]? := by rw [mp]
        have pdg : ∀ (zz : List D) (m : Nat) (h : m < zz.length), (oW zz)[m]? = some (pd zz[m]) := by
          intro zz;induction zz with
          | nil => intro m h; simp at h
          | cons a r ih => intro m h; cases m with
            | zero => rfl
            | succ m => exact ih m (Nat.lt_of_succ_lt_succ h)
        rw [pdg ss m h2] at e1;have h1' : m < its.length := by simpa using h1
        have e2 : AH s.heap its.toArray[m] = pd ss[m] := by
          simpa [h1'] using e1
        rw [e2];have nrm : nr ss[m] = true := by
          have : ∀ (zz : List D) (m : Nat) (h : m < zz.length), vq zz = true -> nr zz[m] = true := by
            intro zz;induction zz with
            | nil => intro m h; simp at h
            | cons a r ih => intro m h hn; have Tv : nr a = true ∧ vq r = true := (ja).mp hn
                             cases m with
                             | zero => exact Tv.1
                             | succ m => exact ih m (by simpa using h) Tv.2
          exact this ss m h2 n2
        exact v5 _ _ nrm s1.nr
      have sz : bb = 16777216 := cm;have hvl : vs.length = its.length := rv.length;obtain⟨⟨cls, dd, data, sl⟩, ho, hc, n, hd⟩ := id hl;simp only at hc hd;subst hc hd;have hki : k < its.toArray.size := by rw [aM]; lia
      refine call_meets pN ⟨_, ho, rfl⟩ PySem.F.entry_list_index (PySem.F.args_list_index_2 _ _)
        (SeqAt.list_indexAt l its.toArray n dd sl u (fun y => tN (AH s.heap y) (pd sn)) k hki (by lia) ?_ ?_) ⟨ho, lX Me ra yR (kB _ s1.nr) IK, ?_⟩
      · rw [at_ k hki wR]; exact Yv
      · intro m hm hmk
        have Yr : m < ss.length := by lia
        rw [at_ m hm Yr];simpa using U3 m hmk
      · exact⟨.int k, H, .int k, G, I.tok _, .refl ab, ⟨_, rfl⟩, .int _, q⟩
    · exact q.elim
  · exact q.elim
theorem Pm:gR X (.Dict [] [] pos) N0:=by
 intro E pins s σ H τ G Q hE I h;exact fV (Mz pins s σ H (xw X.K H G Q) I.inv fun p hp=>⟨_,_,.new I.ab hp (.dk bV .nil),.ref _,h p (I.ab.free hp)⟩) fun _ _ z=>.of z
end
noncomputable def fD(env:Env):List (Str×rQ)->List (Str×Addr)->List (Str×Addr)
 | [],acc=>acc
 | (n,k) :: r,acc=>if k=.free then fD env r ((n,(env.cells.lookup n).getD 0) :: acc) else fD env r acc
theorem tj(env:Env)(f:Str×rQ->List (Str×Addr)->Sem (ForInStep (List (Str×Addr))))(hf:∀ n k c,f (n,k) c=if (k == jN)=true then (cellOf env n >>= fun a=>pure (rB ((n,a) :: c))) else pure (rB c)) :
  ∀ (ns:List (Str×rQ)) (acc:List (Str×Addr)),(∀ x∈ns,x.2=.free->∃ c,env.cells.lookup x.1=some c)->forIn ns acc f=(pure (fD env ns acc):Sem (List (Str×Addr)))
 | [],acc,_=>rfl
 | (n,k) :: r,acc,h=>by
  rw [List.forIn_cons,hf];have hr:∀ x∈r,x.2=.free->∃ c,env.cells.lookup x.1=some c:=fun x hx=>h x (aK _ hx);by_cases hk:k=.free
  ·subst hk;obtain⟨c,hc⟩:=h (n,.free) bo rfl;have ec:cellOf env n=pure c:=by unfold cellOf; rw [hc]
   rw [if_pos (by decide),ec,pure_bind,pure_bind];show forIn r ((n,c) :: acc) f=_;rw [tj env f hf r _ hr];show _=(pure (fD env ((n,.free) :: r) acc):Sem (List (Str×Addr)));rw [fD,if_pos rfl,hc]; rfl
  ·rw [if_neg (by simpa using hk),pure_bind];show forIn r acc f=_;rw [tj env f hf r _ hr];show _=(pure (fD env ((n,k) :: r) acc):Sem (List (Str×Addr)));rw [fD,if_neg hk]
theorem Au{env:Env}{scope:Scope}(h:∀ x∈scope.names,x.2=.free->∃ c,env.cells.lookup x.1=some c):FN scope env=pure (fD env scope.names []):=by
 unfold FN;dsimp only;rw [tj env _ (fun n k c=>?_) scope.names [] h]
 ·rfl
 ·by_cases hk:(k == jN)=true
  ·simp only [hk,if_true]
  ·simp only [hk,if_false,ay]
theorem tV{env:Env}{x:Str}{c:Addr}:∀ {ns:List (Str×rQ)} {acc:List (Str×Addr)},(∀ y∈ns,y.2=.free->∃ c,env.cells.lookup y.1=some c)->(∀ y c,acc.lookup y=some c->env.cells.lookup y=some c)->(fD env ns acc).lookup x=some c->env.cells.lookup x=some c
 | [],_,_,ha,e=>ha _ _ e
 | (n,k) :: r,acc,h,ha,e=>by
  have hr:∀ y∈r,y.2=.free->∃ c,env.cells.lookup y.1=some c:=fun y hy=>h y (aK _ hy);unfold fD at e;by_cases hk:k=.free
  ·rw [if_pos hk] at e;refine tV hr (fun y c' q=>?_) e;rw [l0] at q;by_cases hy:(y == n)=true
   ·rw [hy] at q;have e1:y=n:=eq_of_beq hy;subst e1;obtain⟨c0,hc0⟩:=h (y,k) bo hk;rw [hc0] at q ⊢;exact q
   ·have X0:(y == n)=false:=by simpa using hy
    rw [X0] at q;exact ha y c' q
  ·rw [if_neg hk] at e;exact tV hr ha e
theorem n5{env:Env}{x:Str}:∀ {ns:List (Str×rQ)} {acc:List (Str×Addr)},((x,jN)∈ns\/∃ c,acc.lookup x=some c)->∃ c,(fD env ns acc).lookup x=some c
 | [],_,h=>by rcases h with h | h; exact absurd h (by simp); exact h
 | (n,k) :: r,acc,h=>by
  unfold fD;have grow:∀ a,(∃ c,acc.lookup x=some c)->∃ c,((n,a) :: acc).lookup x=some c:=fun a PV=>by
   obtain⟨c,hc⟩:=PV;rw [l0];by_cases hy:(x == n)=true
   ·rw [hy]; exact⟨_,rfl⟩
   ·have X0:(x == n)=false:=by simpa using hy
    rw [X0]; exact⟨c,hc⟩
  by_cases hk:k=.free
  ·rw [if_pos hk];refine n5 ?_;rcases h with h | h
   ·rcases List.mem_cons.mp h with e | h
    ·injection e with e1 e2
     subst e1;exact .inr ⟨(env.cells.lookup x).getD 0,by rw [l0]; simp⟩
    ·exact .inl h
   ·exact .inr (grow _ h)
  ·rw [if_neg hk];refine n5 ?_;rcases h with h | h
   ·rcases List.mem_cons.mp h with e | h
    ·injection e with e1 e2
     exact absurd e2.symm hk
    ·exact .inl h
   ·exact .inr h
noncomputable abbrev c3(X:Cx)(N:List Str)(scope:Scope)(C:Addr)(s:au)(H:Hp)(fp:List Addr):Cx :=
 { X with env:=compEnvC scope (fD X.env scope.names []) C X.env,N:=N,ie:=s,AG:=H,outer:=X.stack,stack:=X.stack,ex:=fp,fn:=fun _=>false,pn:=[],xe:=fun _ _=>False }
theorem ug{scope:Scope}{env:Env}{x:Str}(h:(FL scope env).names.lookup x=some .cell\/(FL scope env).names.lookup x=some .free)(kI:∀ y∈scope.names,y.2≠.cell):(x,jN)∈scope.names:=by
 have go:∀ k,(FL scope env).names.lookup x=some k->k=.cell\/k=.free->(x,jN)∈scope.names:=by
  intro k hk hkk;have hm:=h8 hk;unfold FL at hm;dsimp only at hm;obtain⟨⟨n,j⟩,hj,e⟩:=List.mem_map.mp hm;dsimp only at e;by_cases hc:(j == jN&&env.scope.kind == .function&&env.kindOf n == some .cell)=true
  ·rw [if_pos hc] at e;rw [aS,aS] at hc;injection e with e1 e2
   have ej:j=.free:=eq_of_beq hc.1.1;rw [ej,e1] at hj;exact hj
  ·rw [if_neg hc] at e;injection e with e1 e2
   subst e1;rcases hkk with r | r
   ·exact absurd (e2.trans r) (kI _ hj)
   ·rw [e2.trans r] at hj; exact hj
 rcases h with h | h
 ·exact go _ h (.inl rfl)
 ·exact go _ h (.inr rfl)
section
variable {X:Cx} {N:List Str} {scope:Scope} {fp:List Addr} {pins:List (Addr×Obj)} {σ:L2.St} {H:Hp} {s:au} {C:Addr}
theorem S2(I:Inv X pins σ H s)(kI:∀ y∈scope.names,y.2≠.cell)(A6:scope.kind=.function)(oY:∀ y∈scope.names,y.2=.free->X.env.kindOf y.1=some .cell)(hC:s.heap.objs.size<=C)(Vf:∀ b∈fp,pG X pins H b/\b < s.heap.objs.size):(c3 X N scope C s H fp).Ok:=by
 have Cz:∀ y∈scope.names,y.2=.free->∃ c,X.env.cells.lookup y.1=some c:=fun y hy hf=>I.ok.has _ (.inl (oY y hy hf));have Rv:∀ x c,(fD X.env scope.names []).lookup x=some c->X.env.cells.lookup x=some c:=fun x c e=>tV Cz (fun y c q=>by simp at q) e;refine⟨I.ok.mod,A6,I.ok.glob,I.ok.blt,hC,fun x y c h1 h2=>I.ok.inj x y c (Rv x c h1) (Rv y c h2),fun x hx=>?_,fun x c h=>absurd h (by simp),I.ok.hd,I.ok.frames,.inl rfl,fun b hb=>?_,I.bs,bU I.ok.Le I.sz,fun b o e hb=>?_,fun b hb=>?_,I.stack,I.BY⟩
 ·exact n5 (.inl (ug hx kI))
 ·obtain⟨⟨f0,f1,f2,f3,f4,f5⟩,wR⟩:=Vf b hb;exact⟨bq (bg wR hC),fun x c e=>f4 x c (Rv x c e)⟩
 ·obtain⟨⟨f0,f1,f2,f3,f4,f5⟩,wR⟩:=Vf b hb;rcases f3 with f3 | f3
  ·exact I.ok.J3 b o e f3
  ·exact absurd (bg (aL e) (bU I.ok.Le f3)) (ic _)
 ·obtain⟨⟨f0,f1,f2,f3,f4,f5⟩,wR⟩:=Vf b hb;intro z;rcases List.mem_cons.mp (I.Gu b z) with e | e
  ·exact f1 e
  ·exact f2 e
theorem Qc{mO:Heap}{m:Nat}{fr:List Nat}{tk:Nat}(I:Inv X pins σ H s)(ok:(c3 X N scope s.heap.objs.size s H fp).Ok)(SJ:∀ y∈scope.names,y.2≠.cell)(oY:∀ y∈scope.names,y.2=.free->X.env.kindOf y.1=some .cell)(hN:N.length=m+fr.length)
  (Yx:∀ j i x,fr[j]?=some i->N[m+j]?=some x->X.N[i]?=some x/\X.env.scope.names.lookup x=some .cell/\(FL scope X.env).names.lookup x=some .cell) (uR:∃ mm,mO.Ns s.heap.objs.size mm) (hk:∀ b o,s.heap.get? b=some o->mO.get? b=some o) :
  Inv (c3 X N scope s.heap.objs.size s H fp) [] (br m none++fr.map fun i=>(σ[i]?).getD none) H { s with heap:=mO,toks:=tk }:=by
 have Cz:∀ y∈scope.names,y.2=.free->∃ c,X.env.cells.lookup y.1=some c:=fun y hy hf=>I.ok.has _ (.inl (oY y hy hf));have Rv:∀ x c,(fD X.env scope.names []).lookup x=some c->X.env.cells.lookup x=some c:=fun x c e=>tV Cz (fun y c q=>by simp at q) e;obtain⟨mm,uR⟩:=uR;refine⟨ok,rfl,I.bare,Un.kept hk,⟨mm,uR,fun i x v h1 h2 h3=>?_⟩,fun x c e=>?_,I.cF.fresh (aQ _),fun x c e=>?_,fun p hp=>absurd hp (by simp),I.cF.kept hk,?_⟩
 ·by_cases hi:i < m
  ·rw [bN (by simpa using hi),kr] at h2;split at h2 <;> cases h2
  ·obtain⟨j,rfl⟩:∃ j,i=m+j:=⟨i - m,by lia⟩;rw [bQ (by simp),eS,sy,du] at h2;cases hj:fr[j]? with
   | none=>rw [hj] at h2; cases h2
   | some k =>
    rw [hj] at h2;have Nu:(σ[k]?).getD none=some v:=by simpa using h2
    have Dv:σ[k]?=some (some v):=by
     cases q:σ[k]? with
     | none=>rw [q] at Nu; cases Nu
     | some o=>rw [q] at Nu; simp at Nu; rw [Nu]
    obtain⟨e1,e2,e3⟩:=Yx j k x hj h1;obtain⟨m0,hn0,hl0⟩:=I.loc;obtain⟨u,r,l⟩:=hl0 k x v e1 Dv (.inr (.inl e2));refine⟨u,r,.inr ⟨.inl e3,?_⟩⟩;rcases l with ⟨l1,_⟩ | ⟨_,c,hc,kI⟩
    ·have:X.env.scope.names.lookup x=some .local:=l1;rw [e2] at this; cases this
    ·have hx:(x,jN)∈scope.names:=ug (.inl e3) SJ;obtain⟨c',PX⟩:=n5 (env:=X.env) (x:=x) (ns:=scope.names) (acc:=[]) (.inl hx);have:=Rv x c' PX;rw [hc] at this;have ec:c=c':=ba this;subst ec;obtain⟨oc,Tu,hd⟩:=kI;exact⟨c,PX,oc,hk _ _ Tu,hd⟩
 ·obtain⟨v,oc,Tu,hd⟩:=I.cell x c (Rv x c e);exact⟨v,oc,hk _ _ Tu,hd⟩
 ·exact I.i9 x c (Rv x c e)
 ·rw [aO,eS,ai];exact hN.symm
theorem C0{prog:bx}{w:World}{A:cI}{R:Result->au->Prop}{s:au}{elt target iter:Expr}{ifs:List Expr}{sc:Scope}{pos:Pos}{it acc:Value}{env:Env}(J:Nat->au->Prop)
  (turn:∀ n s,J n s->wpAny (model prog w) A (Ln it) (fun r dh=>match r with
   | none=>R (.ok .next) dh
   | some v=>wpAny (model prog w) A (x9 target it v) (fun _ Ua=>wpAny (model prog w) A (Lu target env v) (fun _ iF =>
     wpAny (model prog w) A (forIn ifs true fun c r=>if r=true then do let ok ← isTrue c env (eval c env); pure (rB ok) else pure (rB r)) (fun k ye =>
      if k=true then wpAny (model prog w) A (eval elt env) (fun x JK=>wpAny (model prog w) A (call (.builtin "list.append") [acc,x]) (fun _ LR=>∃ m,m < n/\J m LR) (fun _ _=>False) JK) (fun _ _=>False) ye
      else ∃ m,m < n/\J m ye) (fun _ _=>False) iF) (fun _ _=>False) Ua) (fun _ _=>False) dh) (fun _ _=>False) s) (n:Nat) (h:J n s) :
  pJ (model prog w) A (.compLoop (.ListComp elt [⟨target,iter,ifs,0⟩] sc pos) 0 it acc env) R s:=by
 have no:∀ {α:Type} {t:Sem α} {Q:α->au->Prop} {E:Value->au->Prop} {s:au},wpAny (model prog w) A t Q (fun _ _=>False) s->wpAny (model prog w) A t Q E s:=fun h=>gO h (fun _ _ q=>q) fun _ _ z=>z.elim;refine codeAny_loop rfl J (fun n s hJ=>?_) n h;show wpAny _ A ((compTurn (.ListComp elt [⟨target,iter,ifs,0⟩] sc pos) 0 it acc env).onRaise (fun x=>do noteFrame x env; theTreesLotGoes x)) _ _ s;refine wpAny_noted ?_;rw [compTurn_list];refine aw (wpAny_standAt (aw (fV (no (turn n s hJ)) fun r dh mO=>?_)));cases r with
 | none=>exact aZ mO
 | some v =>
  refine aw (fV (no mO) fun _ iF Hd=>aw (fV (no Hd) fun _ ye XW=>aw (fV (no XW) fun k JK UW=>?_)));cases k with
  | false=>exact aZ ⟨rfl,UW⟩
  | true=>exact aw (aw (fV (no UW) fun x LR XU=>aw (fV (no XU) fun _ aa9 XT=>aZ (aZ ⟨rfl,XT⟩))))
noncomputable def CompEnd(X:Cx)(pins:List (Addr×Obj))(σ:L2.St)(H:Hp)(G:Gp)(Q:DK)(C Dd:Addr)(s':au):Prop :=
 ∃ m H' G',Inv X pins σ H' s'/\s'.heap.Ns C m/\pG X pins H' C/\Mv X.K H G H' G'/\Q (.ref Dd) G'
inductive S9 (Xc:Cx):List Expr->Option xu->Prop
 | none:S9 Xc [] none
 | some {c:Expr} {t:xu}:FF Xc c t->S9 Xc [c] (some t)
theorem Bf{τ:g6}{G G2:Gp}{H2:Hp}{s2:au}{tg elt iter:Expr}{ifs:List Expr}{pos:Pos}{m:Nat}{fr:List Nat}{E:jz}{g:Bn}{c:Option xu}{te:eZ}{J:It}{tn:Nat->Heap->Prop}{it:Addr}{ds:List D}{ok:Gp->Prop}{Q:DK}{Rr:Value->Addr->Result->au->Prop}{E0:Value->au->Prop}
  (hc:X.calm=true) (kI:∀ y∈scope.names,y.2≠.cell) (A6:scope.kind=.function) (oY:∀ y∈scope.names,y.2=.free->X.env.kindOf y.1=some .cell) (hN:N.length=m+fr.length)
  (Yx:∀ j i x,fr[j]?=some i->N[m+j]?=some x->X.N[i]?=some x/\X.env.scope.names.lookup x=some .cell/\(FL scope X.env).names.lookup x=some .cell)
  (hg:∀ C s H fp,Lg (c3 X N scope C s H fp) tg g) (hi:∀ C s H fp,S9 (c3 X N scope C s H fp) ifs c) (he:∀ C s H fp,gR (c3 X N scope C s H fp) elt te)
  (I:I2 X pins σ H2 τ G2 s2) (m2:Mv X.K H G H2 G2) (T:Turn X.prog X.w X.K tg J fp it tn) (Qq:tn 0 s2.heap) (f2:∀ b∈fp,pG X pins H2 b) (wk:Q4 X.K J H2 ds ok) (hz:ds.length<=SZ)
  (YM:∀ ex G,¬ E ex G) (q:jr g c te ok ds E (wb m fr τ) G2 [] fun xs G3=>jK G3 (.lst xs) Q)
  (fin:∀ C s',CompEnd X pins σ H G Q C s2.heap.objs.size s'->Rr (.ref s2.heap.objs.size) C (.ok .next) s') :
  wpAny (model X.prog X.w) X.A (newList []) (fun acc ye=>wpAny (model X.prog X.w) X.A (newFunctionEnv scope X.env.globals (fD X.env scope.names []) [] X.env.qual none .none (some X.env)) (fun VD JK =>
   pJ (model X.prog X.w) X.A (.compStart (.ListComp elt [⟨tg,iter,ifs,0⟩] scope pos) 0 (.ref it) acc { VD with scope:=FL scope X.env }) (Rr acc VD.locals) JK) E0 ye) E0 s2:=by
 have sz:bb=16777216:=cm;have vU:H2 s2.heap.objs.size=none:=I.inv.cF.fresh (aQ _);have SS:G2 s2.heap.objs.size=none:=I.ab.free vU;refine jE (wpAny_newFunctionEnv kI (by intro y hy; simp at hy) (fun mO Ng Nc=>?_) A6);dsimp only at Ng Nc ⊢;have I3:Inv X pins σ (upd H2 s2.heap.objs.size (.lst [])) { s2 with heap:=s2.heap.push { cls:=.type "list",data:=.seq ([]:List Value).toArray },toks:=s2.toks }:=I.inv.XF (ys:=[]) .nil (cg _);generalize hs3:({ s2 with heap:=s2.heap.push { cls:=.type "list",data:=.seq ([]:List Value).toArray },toks:=s2.toks }:au)=s3 at I3;generalize Vq:upd H2 s2.heap.objs.size (.lst [])=H3 at I3;have eH3:∀ b,b≠s2.heap.objs.size->H3 b=H2 b:=fun b hb=>by rw [<-Vq,bj hb]
 have Ep:s3.heap=s2.heap.push { cls:=.type "list",data:=.seq ([]:List Value).toArray }:=by rw [<-hs3]
 have Ui:s3.heap.objs.size=s2.heap.objs.size+1:=by rw [Ep,gw]
 have Nl:∀ b∈fp,b < s2.heap.objs.size:=fun b hb=>by
  obtain⟨o,e,_⟩:=T.obj _ _ Qq b hb;exact aL e
 have Ve:∀ b∈fp,pG X pins H3 b/\b < s3.heap.objs.size:=fun b hb=>by
  have hb2:=Nl b hb;obtain⟨f0,f1⟩:=f2 b hb;exact⟨⟨by rw [eH3 b (bq hb2)]; exact f0,f1⟩,bg hb2 (by rw [Ui]; exact yc _)⟩
 have VX:(c3 X N scope s3.heap.objs.size s3 H3 fp).Ok:=S2 I3 kI A6 oY (aQ _) Ve;have QP:∀ b o,s3.heap.get? b=some o->mO.get? b=some o:=fun b o e=>by
  have hb:b < s3.heap.objs.size:=aL e;refine Nc.extBut b o ?_ (aA _ ?_)
  ·rw [<-Ep]; exact bq hb
  ·rw [<-Ep]; exact e
 have Ym:∃ mm,mO.Ns s3.heap.objs.size mm:=⟨_,by rw [Ep]; exact Ng⟩;have I4:=Qc (tk:=s3.toks+([]:List (Str×Value)).length) I3 VX kI oY hN Yx Ym QP;have XQ:Kp H2 H3:=by rw [<-Vq]; exact .new vU
 have Q3:jQ X.K H3 G2:=by rw [<-Vq]; exact(Mv.Ld I.ab vU).ab
 have mv3:Mv X.K H2 G2 H3 G2:=by rw [<-Vq]; exact .Ld I.ab vU
 have VR:K0 X.K H3 (br m none++fr.map fun i=>(σ[i]?).getD none) (wb m fr τ):=by
  refine⟨by unfold wb; rw [aO,aO,ai,ai,eS,eS],fun i d h2=>?_⟩;unfold wb at h2;by_cases hi:i < m
  ·rw [bN (by simpa using hi),kr] at h2;split at h2 <;> cases h2
  ·obtain⟨j,rfl⟩:∃ j,i=m+j:=⟨i - m,by lia⟩;rw [bQ (by simp),eS,sy,du] at h2;rw [bQ (by simp),eS,sy,du];cases hj:fr[j]? with
   | none=>rw [hj] at h2; cases h2
   | some k =>
    rw [hj] at h2;have Nu:(τ[k]?).getD none=some d:=by simpa using h2
    have Dv:τ[k]?=some (some d):=by
     cases qq:τ[k]? with
     | none=>rw [qq] at Nu; cases Nu
     | some o=>rw [qq] at Nu; simp at Nu; rw [Nu]
    obtain⟨v,e1,e2⟩:=I.st.at' k d Dv;exact⟨v,by simp [e1],e2.mono XQ⟩
 have hD3:H3 s2.heap.objs.size=some (.lst []):=by rw [<-Vq,bV]
 have Ue:tn 0 mO:=T.keep _ _ _ Qq fun b hb o e=>QP b o (by rw [Ep]; exact aA _ e);have LU:∀ {Hc:Hp},(∀ b∈fp,Hc b=none)->∀ b∈fp,pG (c3 X N scope s3.heap.objs.size s3 H3 fp) [] Hc b:=fun hn b hb =>
  ⟨hn b hb,(VX.Vu b hb).1,VX.Ky b hb,.inl hb,fun x c e=>(VX.Vu b hb).2 x c e,fun p hp=>absurd hp (by simp)⟩
 have neD:∀ b∈fp,b≠s2.heap.objs.size:=fun b hb=>bq (Nl b hb);have loop:pJ (model X.prog X.w) X.A (.compLoop (.ListComp elt [⟨tg,iter,ifs,0⟩] scope pos) 0 (.ref it) (.ref s2.heap.objs.size) (c3 X N scope s3.heap.objs.size s3 H3 fp).env) (Rr (.ref s2.heap.objs.size) s3.heap.objs.size)
   { s3 with heap:=mO,toks:=s3.toks+([]:List (Str×Value)).length }:=by
  refine C0 (fun n s'=>∃ i Ox Hc LG Gc tu vg,I2 (c3 X N scope s3.heap.objs.size s3 H3 fp) [] Ox Hc LG Gc s'/\Gc s2.heap.objs.size=none/\Hc s2.heap.objs.size=some (.lst tu)/\a4 X.K Hc tu vg/\vg.length<=i/\Mv X.K H2 G2 Hc Gc/\tn i s'.heap/\(∀ b∈fp,Hc b=none) /\
   n=ds.length - i/\i<=ds.length/\jr g c te ok (ds.drop i) E LG Gc vg fun xs G3=>jK G3 (.lst xs) Q) ?_ ds.length
   ⟨0,_,H3,_,G2,[],[],⟨I4,VR,Q3⟩,SS,hD3,.nil,aQ _,mv3,Ue,fun b hb=>by rw [eH3 b (neD b hb)]; exact(f2 b hb).1,rfl,cg _,q⟩
  rintro n s4 ⟨i,Ox,Hc,LG,Gc,tu,vg,Ic,gD,hD,rA,hA,mc,Zr,frc,rfl,hle,wq⟩;have Z4:Kp H2 Hc:=mc.kp I.ab;by_cases wR:i < ds.length
  ·rw [gv wR] at wq;obtain⟨Pu,wq⟩:=wq;obtain⟨go,yl⟩:=(wk i Hc Gc Z4 Ic.ab Pu).1 ds[i] (by simp [wR]);refine fV (T.item (c3 X N scope s3.heap.objs.size s3 H3 fp) rfl rfl rfl hc i [] s4 Ox Hc (fun _ _=>False) Ic.inv (LU frc) Zr go) ?_;rintro r s5 ⟨u,hr,h5⟩;subst hr;refine fV h5 ?_;rintro _ s6 ⟨x,H6,I6,r6,y6,WQ,fr6⟩;obtain⟨rd6,m6⟩:=yl x H6 y6;have I6':=I6.pinned (LU fr6) (T.obj _ _ WQ);have J6:I2 (c3 X N scope s3.heap.objs.size s3 H3 fp) ([]++qf fp s6.heap) Ox H6 LG Gc s6:=⟨I6',Ic.st.mono (m6.kp Ic.ab),m6.ab⟩;have back:∀ {TX:L2.St} {H9:Hp} {Tg:g6} {G9:Gp} {s9:au} {aV:List V} {aD:List D},I2 (c3 X N scope s3.heap.objs.size s3 H3 fp) ([]++qf fp s6.heap) TX H9 Tg G9 s9->Mv X.K H2 G2 H9 G9->G9 s2.heap.objs.size=none->H9 s2.heap.objs.size=some (.lst aV)->a4 X.K H9 aV aD->aD.length<=i+1 ->
     (jr g c te ok (ds.drop (i+1)) E Tg G9 aD fun xs G3=>jK G3 (.lst xs) Q)->∃ mm,mm < ds.length - i/\∃ i Ox Hc LG Gc tu vg,I2 (c3 X N scope s3.heap.objs.size s3 H3 fp) [] Ox Hc LG Gc s9/\Gc s2.heap.objs.size=none/\Hc s2.heap.objs.size=some (.lst tu)/\a4 X.K Hc tu vg/\vg.length<=i /\
      Mv X.K H2 G2 Hc Gc/\tn i s9.heap/\(∀ b∈fp,Hc b=none)/\mm=ds.length - i/\i<=ds.length/\jr g c te ok (ds.drop i) E LG Gc vg fun xs G3=>jK G3 (.lst xs) Q:=fun {TX H9 Tg G9 s9 aV aD} I9 m9 g9 h9 r9 l9 n9=>by
    refine⟨ds.length - (i+1),by lia,i+1,TX,H9,Tg,G9,aV,aD,⟨I9.inv.tT,I9.st,I9.ab⟩,g9,h9,r9,l9,m9,T.keep _ _ _ WQ fun b hb o e=>(I9.inv.pin (b,o) (bT _ (bT _ (ow hb e)))).1,fun b hb=>?_,rfl,wR,n9⟩;obtain⟨o,e,d⟩:=T.obj _ _ WQ b hb;exact(I9.inv.pin (b,o) (bT _ (bT _ (ow hb e)))).2.1
   have mc6:=mc.trans m6;have hD6:=m6.keep _ _ hD gD;refine fV (hg _ _ _ _ E _ s6 Ox H6 LG Gc x ds[i] u _ (Lk.none YM) J6 r6 rd6 wq) ?_;rintro _ s7 ⟨Lb,H7,La,G7,I7,m7,q7⟩;have Wi:=m7.keep _ _ hD6.1 gD;have Z1:=mc6.trans m7;have Zt:=rA.mono ((m6.trans m7).kp Ic.ab);have Vx:∀ (H8:Hp) (G8:Gp) (s8:au),I2 (c3 X N scope s3.heap.objs.size s3 H3 fp) ([]++qf fp s6.heap) Lb H8 La G8 s8->Mv X.K H7 G7 H8 G8->(te E La G8 fun y G9=>jr g c te ok (ds.drop (i+1)) E La G9 (vg++[y]) fun xs G3=>jK G3 (.lst xs) Q) ->
     wpAny (model X.prog X.w) X.A (eval elt (c3 X N scope s3.heap.objs.size s3 H3 fp).env) (fun y JK=>wpAny (model X.prog X.w) X.A (call (.builtin "list.append") [.ref s2.heap.objs.size,y]) (fun _ LR=>∃ mm,mm < ds.length - i/\∃ i Ox Hc LG Gc tu vg,I2 (c3 X N scope s3.heap.objs.size s3 H3 fp) [] Ox Hc LG Gc LR/\Gc s2.heap.objs.size=none/\Hc s2.heap.objs.size=some (.lst tu)/\a4 X.K Hc tu vg/\vg.length<=i /\
      Mv X.K H2 G2 Hc Gc/\tn i LR.heap/\(∀ b∈fp,Hc b=none)/\mm=ds.length - i/\i<=ds.length/\jr g c te ok (ds.drop i) E LG Gc vg fun xs G3=>jK G3 (.lst xs) Q) (fun _ _=>False) JK) (fun _ _=>False) s8:=fun H8 G8 s8 I8 m8 q8=>by
    refine ki (he _ _ _ _) (Lk.none YM) I8 q8 fun v H9 d9 G9 u9 s9 I9 m9 r9 rd9 q9=>?_;have XD:=m8.trans m9;have Wh:=XD.keep _ _ Wi.1 Wi.2;have rA9:=Zt.mono (XD.kp I7.ab);have Z0:=Z1.trans XD;refine fV (AW (X:=c3 X N scope s3.heap.objs.size s3 H3 fp) _ s9 Lb H9 (.ref s2.heap.objs.size) [v] _ [u9] (fun _ H'=>H'=upd H9 s2.heap.objs.size (.lst (tu++[v]))) I9.inv rfl (.cons r9 .nil)
     ⟨_,tu,v,rfl,rfl,Wh.1,by rw [rA.length,sz]; have:SZ=16777216:=rfl; lia,rfl⟩) ?_
    rintro _ s10 ⟨v10,H10,Zb,_,e10⟩;subst e10;have XO:Kp H9 (upd H9 s2.heap.objs.size (.lst (tu++[v]))):=.putL Wh.1;have abA:jQ X.K (upd H9 s2.heap.objs.size (.lst (tu++[v]))) G9:=fun a g' e=>by
     have ne:a≠s2.heap.objs.size:=by rintro rfl; rw [Wh.2] at e; cases e
     exact(I9.ab a g' e).mono XO (bj ne)
    have mA:Mv X.K H2 G2 (upd H9 s2.heap.objs.size (.lst (tu++[v]))) G9:=⟨fun a o e n=>by
      have ne:a≠s2.heap.objs.size:=bX e vU;obtain⟨e1,e2⟩:=Z0.keep a o e n;exact⟨by rw [bj ne]; exact e1,e2⟩,fun a n=>by
      by_cases ha:a=s2.heap.objs.size
      ·rw [ha,bV]; simp
      ·rw [bj ha]; exact Z0.iK a n,abA⟩
    exact back ⟨Zb,I9.st.mono XO,abA⟩ mA Wh.2 bV ((rA9.append (.cons rd9 .nil)).mono XO) (by rw [aO,gq]; lia) q9
   cases hi s3.heap.objs.size s3 H3 fp with
   | none =>
    refine wpAny_tests_nil ?_;rw [if_pos rfl];exact Vx H7 G7 s7 I7 (.refl I7.ab) q7
   | some Vi =>
    refine wpAny_tests_one (JJ Vi (Lk.none YM) I7 q7 fun k H8 G8 s8 I8 m8 q8=>?_);cases k with
    | true =>
     rw [if_pos rfl] at q8 ⊢;exact Vx H8 G8 s8 I8 m8 q8
    | false =>
     rw [if_neg c7] at q8 ⊢;have hD8:=m8.keep _ _ Wi.1 Wi.2;exact back I8 (Z1.trans m8) hD8.2 hD8.1 (Zt.mono (m8.kp I7.ab)) (by lia) q8
  ·have hn:ds.length<=i:=by lia
   rw [kK hn] at wq;obtain⟨Pu,qn⟩:=wq;have stop:=(wk i Hc Gc Z4 Ic.ab Pu).2 hn;refine fV (T.done (c3 X N scope s3.heap.objs.size s3 H3 fp) rfl rfl rfl hc i [] s4 Ox Hc (fun _ _=>False) Ic.inv (LU frc) Zr stop) ?_;rintro r s5 ⟨hr,I5⟩;subst hr;refine fin s3.heap.objs.size s5 ?_;obtain⟨mm,Yn,_⟩:=I5.loc;have hC5:Hc s3.heap.objs.size=none:=I5.free;have I6:Inv X pins σ Hc s5:=by
    obtain⟨h5,g5,d5,t5,o5⟩:=s5;have eo:o5=s3.os:=I5.os;subst eo;exact I3.call (h':=h5) (g':=g5) (d':=d5) (t':=t5) (ch:=fp) I5.base I5.cF I5.bare fun b hb=>by
     obtain⟨⟨f0,f1,f2',f3,f4,f5⟩,hl⟩:=Ve b hb;exact⟨f3,f1,f4,f5⟩
   have mvF:Mv X.K H2 G2 Hc (bP Gc s2.heap.objs.size (.lst vg)):=⟨fun a o e n=>by
     have ne:a≠s2.heap.objs.size:=bX e vU;obtain⟨e1,e2⟩:=mc.keep a o e n;exact⟨e1,by rw [c4 ne]; exact e2⟩,mc.iK,fun a g' e=>by
     by_cases ha:a=s2.heap.objs.size
     ·subst ha;rw [az] at e;cases e;exact⟨tu,hD,rA⟩
     ·rw [c4 ha] at e;exact Ic.ab a g' e⟩
   exact⟨mm,Hc,_,I6,Yn,I3.NB (aQ _) hC5,m2.trans mvF,qn _ gD⟩
 have all:pJ (model X.prog X.w) X.A (.compStart (.ListComp elt [⟨tg,iter,ifs,0⟩] scope pos) 0 (.ref it) (.ref s2.heap.objs.size) (c3 X N scope s3.heap.objs.size s3 H3 fp).env) (Rr (.ref s2.heap.objs.size) s3.heap.objs.size)
   { s3 with heap:=mO,toks:=s3.toks+([]:List (Str×Value)).length }:=codeAny_compStart_list loop (T.self _ 0 _ _ _ Ue loop)
 subst hs3;exact all
end
section
variable {X:Cx} {N:List Str} {scope:Scope} {tg elt iter:Expr} {ifs:List Expr} {pos:Pos} {m:Nat} {fr:List Nat} {wi:Q5} {g:Bn} {c:Option xu} {te:eZ}
structure zF(X:Cx)(N:List Str)(scope:Scope)(m:Nat)(fr:List Nat):Prop where
 cell:∀ y∈scope.names,y.2≠.cell
 kind:scope.kind=.function
 names:∀ y∈scope.names,y.2=.local->scope.names.lookup y.1=some .local
 free:∀ y∈scope.names,y.2=.free->X.env.kindOf y.1=some .cell
 len:N.length=m+fr.length
 at':∀ j i x,fr[j]?=some i->N[m+j]?=some x->X.N[i]?=some x/\X.env.scope.names.lookup x=some .cell/\(FL scope X.env).names.lookup x=some .cell
theorem zF.closed{X:Cx}{N:List Str}{scope:Scope}{m:Nat}{fr:List Nat}(k:zF X N scope m fr){pins:List (Addr×Obj)}{σ:L2.St}{H:Hp}{s:au}(I:Inv X pins σ H s):FN scope X.env=pure (fD X.env scope.names []) :=
 Au fun y hy hf=>I.ok.has _ (.inl (k.free y hy hf))
theorem JX(hc:X.calm=true)(k:zF X N scope m fr)(hi:Q6 X tg iter wi)(hg:∀ C s H fp,Lg (c3 X N scope C s H fp) tg g)(SE:∀ C s H fp,S9 (c3 X N scope C s H fp) ifs c)(he:∀ C s H fp,gR (c3 X N scope C s H fp) elt te)
  (hs:autoParam (∀ x,mD iter X.env x=pure x) Ai._auto_1):gR X (.ListComp elt [⟨tg,iter,ifs,0⟩] scope pos) (gX m fr wi g c te):=by
 intro E pins s σ H τ G Q hE I h;rw [eval_ListComp];refine wpAny_comprehension_free (use:=none) rfl hs (k.closed I.inv) k.kind k.names (fV (hi E pins s σ H τ G _ hE I h) fun xv dh mO=>fV mO fun QI iF Hd=>?_);obtain⟨it,fp,tn,J,H2,G2,ds,ok,e,kd,m2,T,Qq,f2,wk,hz,q⟩:=Hd;subst e;refine Bf (Rr:=fun acc C=>compPost (model X.prog X.w) X.A X.xe none (pq X pins σ H G Q) acc C) hc k.cell k.kind k.free k.len k.at' hg SE he (I.mv kd m2) m2 T Qq f2 wk hz (fun _ _ z=>z) q ?_;rintro C s' ⟨mm,H',G',I',uR,YQ,mv,q'⟩;refine⟨mm,uR,fun h' He=>?_⟩;obtain⟨f0,f1,_,f3,f4,f5⟩:=YQ;exact⟨.ref _,H',.ref _,G',I'.turned (t':=s'.toks) (fun b o hb e=>He.extBut b o hb e) f0 f1 f3 f4 f5,mv,rfl,.ref _,q'⟩
theorem D1{i:Nat}{y:Str}{py LW:Pos}(hN:X.N.Nodup)(XZ:X.N[i]?=some y)(hy:X.env.scope.names.lookup y=some .local)(hc:X.calm=true)(k:zF X N scope m fr)(hi:Q6 X tg iter wi)(hg:∀ C s H fp,Lg (c3 X N scope C s H fp) tg g)
  (SE:∀ C s H fp,S9 (c3 X N scope C s H fp) ifs c) (he:∀ C s H fp,gR (c3 X N scope C s H fp) elt te) (X9:autoParam (x8 (.ListComp elt [⟨tg,iter,ifs,0⟩] scope pos) (some (.Name y py)) LW.line X.env=pure true) Ar._auto_1)
  (hs:autoParam (∀ x,mD iter X.env x=pure x) Ai._auto_1):Bo X (.Assign [.Name y py] (.ListComp elt [⟨tg,iter,ifs,0⟩] scope pos) LW) (bY (gX m fr wi g c te) (aR i)):=by
 intro E pins s σ H τ G D hE I h;rw [exec_Assign_Name_used _ _ _ _ X9];refine aw (wpAny_standAt (aw ?_));show wpAny _ X.A (do let _ ← comprehension (.ListComp elt [⟨tg,iter,ifs,0⟩] scope pos) scope X.env _ (newList []) false (eval iter X.env) (some (Lu (.Name y py) X.env))) _ _ s;refine aw (fV (wpAny_comprehension_free (use:=some (Lu (.Name y py) X.env)) (Q:=fun _ s'=>FE X pins H G D .next s') rfl hs (k.closed I.inv) k.kind k.names (fV (hi E pins s σ H τ G _ hE I h) fun xv dh mO=>fV mO fun QI iF Hd=>?_)) fun _ s' hq=>aZ (aZ hq));obtain⟨it,fp,tn,J,H2,G2,ds,ok,e,kd,m2,T,Qq,f2,wk,hz,q⟩:=Hd;subst e;refine Bf (Rr:=fun acc C=>compPost (model X.prog X.w) X.A X.xe (some (Lu (.Name y py) X.env)) (fun _ s'=>FE X pins H G D .next s') acc C) hc k.cell k.kind k.free k.len k.at' hg SE he (I.mv kd m2) m2 T Qq f2 wk hz (fun _ _ z=>z) q ?_;rintro C s' ⟨mm,H',G',I',uR,YQ,mv,q'⟩;show wpAny (model X.prog X.w) X.A (Lu (.Name y py) X.env (.ref iF.heap.objs.size)) _ X.xe s';obtain⟨f0,f1,_,f3,f4,f5⟩:=YQ;refine wpAny_assign_Name (vA (v:=.ref iF.heap.objs.size) I' hN XZ (.inl hy) rfl (?_) (.inr hy));rintro s3 I3 ⟨a,V6,ha⟩;have hCa:C≠a:=by
  rcases ha with rfl | ha
  ·exact f1
  ·exact fun e=>f4 y a ha e.symm
 refine⟨mm,uR.sameBut V6 hCa,fun h' He=>?_⟩;exact⟨_,H',_,G',⟨I3.turned (t':=s3.toks) (fun b o hb e=>He.extBut b o hb e) f0 f1 f3 f4 f5,(I.st.mono (mv.kp I.ab)).set i (.ref _),mv.ab⟩,mv,q'⟩
theorem jY{i:Nat}{u:C7}{n:Nat}(h:∀ E ds τ G Q,u E ds τ G Q->ds.length=n):∀ E ds τ G Q,lN (aR i) u E ds τ G Q->ds.length=n+1 :=
 Kv h (fun _ _ _ _ _ _ q k=>k _ _ q) fun _ _ _ _ q=>q
theorem bp (i:Nat) {x:Str} {pos:Pos} (hN:autoParam (X.N[i]?=some x) Ar._auto_1) (hv:autoParam (Wr X.env.scope x) Ao._auto_1) (hd:autoParam ((x == ("__debug__" : Str))=false) Ad._auto_1)
  (zL:autoParam ((x == ("__classdict__" : Str))=false) Ad._auto_1):gR X (.Name x pos) (ao i):=Pk hN hv hd zL
theorem GX{pins:List (Addr×Obj)}{s:au}{σ:L2.St}{H:Hp}{G:Gp}{x:V}{d:D}{v:Value}{zs:List D}(I:Inv X pins σ H s)(ab:jQ X.K H G)(rx:RelV x v)(rd:bS X.K H x d)(hi:itemsOf d G=some zs) :
  ∃ l vs its,v=.ref l/\Vals vs its/\a4 X.K H vs zs/\(s.heap.IsList l its.toArray\/s.heap.IsTuple l its.toArray)/\vs.length<=bb:=by
 cases rd with
 | da hq rs =>
  cases hi;cases rx;obtain⟨its,rv,pl,hz⟩:=I.list hq.sq;exact⟨_,_,its,rfl,rv,rs,.inl pl.isList,hz⟩
 | tup hq rs =>
  cases hi;cases rx;obtain⟨its,rv,pl,hz⟩:=I.tuple (.of hq);exact⟨_,_,its,rfl,rv,rs,.inr pl,hz⟩
 | ref l =>
  unfold itemsOf at hi;dsimp only at hi;cases hg:G l with
  | none=>rw [hg] at hi; cases hi
  | some gg =>
   rw [hg] at hi;cases gg with
   | lst ds =>
    cases hi;cases rx;obtain⟨vs,hv,rs⟩:=ab.lst hg;obtain⟨its,rv,pl,hz⟩:=I.list (.of hv);exact⟨_,_,its,rfl,rv,rs,.inl pl.isList,hz⟩
   | ins _ _=>cases hi
   | Ht _=>cases hi
   | jP _=>cases hi
 | _=>cases hi
theorem Cd{body:List Stmt}{t2:fh}(h:oN X body t2){E:jz}(hE:Lk X E):TL X body (fun D σ H=>∃ (τ:g6) (G:Gp) (D2:jA),K0 X.K H σ τ/\jQ X.K H G/\t2 E D2 τ G /\
  (∀ iJ H' l7 G',Mv X.K H G H' G'->D2.nx l7 G'->D.nx iJ H')/\(∀ v H' d G',Mv X.K H G H' G'->bS X.K H' v d->D2.rt d G'->D.rt v H')/\(∀ τ G,¬ D2.bk τ G)/\(∀ τ G,¬ D2.ct τ G)):=by
 rintro pins s σ H D I ⟨τ,G,D2,st,ab,q,k1,k2,k3,k4⟩;refine fV (h E pins s σ H τ G D2 hE ⟨I,st,ab⟩ q) fun f s1 z=>?_;cases f with
 | next=>obtain⟨iJ,H',l7,G',J,mv,z⟩:=z; exact⟨iJ,H',J.inv,k1 iJ H' l7 G' mv z⟩
 | brk=>obtain⟨iJ,H',l7,G',J,mv,z⟩:=z; exact(k3 _ _ z).elim
 | cont=>obtain⟨iJ,H',l7,G',J,mv,z⟩:=z; exact(k4 _ _ z).elim
 | ret u=>obtain⟨v,iJ,H',d,G',J,mv,r,rd,z⟩:=z; exact⟨v,iJ,H',J,r,k2 v H' d G' mv rd z⟩
theorem tW{K:ag}{H:Hp}{Nn:List Str}{vs:List V}{ds:List D}(r:a4 K H vs ds):K0 K H (L2.start Nn vs) (aX Nn.length ds):=by
 unfold L2.start aX;refine⟨by simp [r.length],fun i d h=>?_⟩;by_cases hi:i < ds.length
 ·rw [bN (by simpa using hi),du] at h;cases hd:ds[i]? with
  | none=>rw [hd] at h; cases h
  | some d' =>
   rw [hd] at h;have e:d'=d:=by simpa using h
   subst e;obtain⟨v,h1,h2⟩:=r.get hd;refine⟨v,?_,h2⟩;rw [bN (by simpa [r.length] using hi),du,h1]; rfl
 ·rw [bQ (by simpa using hi),kr] at h;split at h <;> cases h
theorem P1{P:bx}{w:World}{K:ag}{mg:Str->Option Value}{base:Heap}{x qual:Str}{st:Stmt}{f:Addr}{fd:ak}{Nn ps:List Str}{k:Nat}{sp:gM}{rd:fh}(F:kg K x qual st f fd)(S:bF Nn ps (aH st))(len:∀ ds G Q E,sp ds G Q E->ds.length=ps.length)
  (hr:∀ ds G Q,sp ds G Q (fun _ _=>False)->rd (fun _ _=>False) (ends Q) (aX Nn.length ds) G)
  (hb:∀ (iH:Value) (A:cI) (outer:List Env) (s:au) (H:Hp) (E:XK),fk k (A.deeper (rO qual (aH st) s.heap.objs.size f iH))->oN (qF ff P w K mg base Nn qual (aH st) f iH A outer s H E).OA (eG st) rd):cU P w K mg base ff (k+1) f fd ps (cx K sp):=by
 refine F.ok S ((by rintro vs H Q E ⟨ds,G,Q2,r,ab,q,_⟩; exact by rw [r.length]; exact len _ _ _ _ q)) ?_;rintro iH A outer s H vs Q E yW ⟨ds,G,Q2,r,ab,q,kk⟩;refine⟨_,Cd (hb iH A outer s H E yW) (E:=fun _ _=>False) (Lk.none fun _ _ z=>z),?_⟩;exact⟨aX Nn.length ds,G,ends Q2,tW r,ab,hr ds G Q2 q,fun iJ H' l7 G' mv z=>kk _ _ _ _ z mv .dI,fun v H' d G' mv RG z=>kk _ _ _ _ z mv RG,fun _ _ z=>z,fun _ _ z=>z⟩
section
variable {prog:bx} {w:World} {A:cI} {R:Result->au->Prop} {Wv:Addr} {fq wr:List Addr} {n:Nat} {P:Nat->Value->Prop} {Sx:Nat->Heap->Prop}
theorem R5(W:Walks prog w A.in1 Wv fq wr n P Sx)(bt:Nat->Nat->Bool)(T:Heap->Prop)(B:Addr)(hB:B∉fq)(hT:∀ h h',T h->(∀ b o,b∉wr->b≠B->h.get? b=some o->h'.get? b=some o)->T h')
  (cmp:∀ i j x y s (Q:Value->au->Prop) (E:Value->au->Prop),T s.heap->P i x->P j y->Q (.bool (bt i j)) s->wpAny (model prog w) A.in1 (mC .Lt x y) Q E s) :
  ∀ (k j:Nat) (s:au) (best:Value) (cc:Nat),n - (j+1)=k->j+1<=n->Sx (j+1) s.heap->T s.heap->P (pK bt j) best ->
  s.heap.get? B=some { cls:=.type "list",dict:=none,data:=.seq #[best,best] cc,slots:=#[] } ->
  (∀ v h' tk,P (pK bt (n - 1)) v->(∀ b o,b∉wr->b≠B->s.heap.get? b=some o->h'.get? b=some o)->R (.ok (.ret v)) { s with heap:=h',toks:=tk }) ->
  pJ (model prog w) A (.builtin "min.loop" ⟨[.ref Wv,.none,.ref B],[]⟩) R s:=by
 have hBw:B∉wr:=fun z=>hB (W.sub _ z);have nm:(toString "min"++toString ".loop" : String) = "min.loop":=by decide
 intro k;induction k with
 | zero =>
  intro j s best cc hk hj hs ht hp hb hR;have ej:j+1=n:=by lia
  refine fT FY ?_; rw [dH iD _];show wpAny _ A.in1 (Dy (.ref B) >>= _) _ _ s; refine aw (kh hb rfl ?_);show wpAny _ A.in1 (tryCatch (Ln (.ref Wv)) _ >>= _) _ _ s; refine aw (fS (W.done s _ _ (ej ▸ hs) fun h' tk kept=>?_));have Hg:=kept B _ hBw hb;show wpAny _ A.in1 (Lj B (fun _=>#[]) >>= _) _ _ _; refine aw ?_;refine ib Hg rfl (aw (ky (aZ ?_)));exact hR best _ tk (by rw [<-ej]; exact hp) fun b o z1 z2 e=>(cp _ _ (jD z2)).trans (kept b o z1 e)
 | succ k ih =>
  intro j s best cc hk hj hs ht hp hb hR;have lt:j+1 < n:=by lia
  refine fT FY ?_; rw [dH iD _];show wpAny _ A.in1 (Dy (.ref B) >>= _) _ _ s; refine aw (kh hb rfl ?_);show wpAny _ A.in1 (tryCatch (Ln (.ref Wv)) _ >>= _) _ _ s; refine aw (fS (W.item (j+1) s _ _ lt hs fun v h' tk pv Fx kept=>?_));have Hg:=kept B _ hBw hb;have Tt:T h':=hT _ _ ht fun b o z1 _ e=>kept b o z1 e;show wpAny _ A.in1 (tryCatch (su [v,v] (mC .Lt v best >>= _)) _ >>= _) _ _ _;refine aw (fS (dv (aw (cmp (j+1) (pK bt j) v best _ _ _ Tt pv hp ?_)))); refine aw (dv (FJ ?_)); refine aw (ky (aZ ?_));cases hbt:bt (j+1) (pK bt j) with
  | true =>
   simp only [if_true]; refine aw ?_;refine ib Hg rfl (aw (ky ?_)); rw [nm];refine aZ ⟨fN iD _,ih (j+1) _ v _ (by lia) lt (W.frame _ _ _ Fx fun b z o e=>?_) (hT _ _ Tt fun b o _ z2 e=>?_) (by simp only [pK,hbt,if_true]; exact pv) (lW _ Hg rfl) fun v' Vr LP Up kk=>?_⟩
   ·exact(cp _ _ (fun z':B=b=>hB (by rw [z']; exact z))).trans e
   ·exact(cp _ _ (jD z2)).trans e
   ·exact hR v' Vr LP Up fun b o z1 z2 e=>kk b o z1 z2 ((cp _ _ (jD z2)).trans (kept b o z1 e))
  | false =>
   simp only [ay,if_false]; refine aw (ky ?_); rw [nm];refine aZ ⟨fN iD _,ih (j+1) _ best cc (by lia) lt Fx Tt (by simp only [pK,hbt,ay,if_false]; exact hp) Hg fun v' Vr LP Up kk=>?_⟩;exact hR v' Vr LP Up fun b o z1 z2 e=>kk b o z1 z2 (kept b o z1 e)
end
theorem Eb{prog:bx}{w:World}{A:cI}{E:Value->au->Prop}{s:au}{x:Value}{Q:Value->au->Prop}
  (h:wpAny (model prog w) A.in1 (pyIter x) (fun it iF=>∃ (I:Addr) (fq wr:List Addr) (n:Nat) (P:Nat->Value->Prop) (Sx:Nat->Heap->Prop) (bt:Nat->Nat->Bool) (T:Heap->Prop),it=.ref I/\Walks prog w A.in1 I fq wr n P Sx/\Sx 0 iF.heap/\(∀ b∈fq,b < iF.heap.objs.size)/\0 < n/\T iF.heap/\(∀ (h h':Heap) (B:Addr),iF.heap.objs.size<=B->T h->(∀ b o,b∉wr->b≠B->h.get? b=some o->h'.get? b=some o)->T h') /\
   (∀ i j x y s (Q:Value->au->Prop) (E:Value->au->Prop),T s.heap->P i x->P j y->Q (.bool (bt i j)) s->wpAny (model prog w) A.in1 (mC .Lt x y) Q E s) /\
   ∀ v h' tk,P (pK bt (n - 1)) v->(∀ b o,b∉wr->iF.heap.get? b=some o->h'.get? b=some o)->Q v { iF with heap:=h',toks:=tk }) E s) :
  wpAny (model prog w) A (call (.builtin "min") [x]) Q E s:=by
 have nm:(toString "min"++toString ".loop" : String) = "min.loop":=by decide
 refine call_function_tree F.kind_min F.plain_min F.entry_min (F.args_min1 _) ?_;show wpAny _ A.in1 (ku "min" ["key","default"] 0 ⟨[],[]⟩ >>= _) _ _ s; refine aw (wpAny_of_eq (show ku "min" ["key","default"] 0 ⟨[],[]⟩=pure [none,none] from rfl) ?_);refine aw (aZ ?_); refine aw (gO h (fun it iF Hd=>?_) fun _ _ e=>e);obtain⟨I,fq,wr,n,P,Sx,bt,T,rfl,W,zZ,Vf,hn,ht,hT,cmp,hQ⟩:=Hd;refine aw (jE ?_);have Vp:iF.heap.objs.size∉fq:=fun z=>ic _ (Vf _ z);have hSw:iF.heap.objs.size∉wr:=fun z=>Vp (W.sub _ z);rw [nm];generalize hh:iF.heap.push { cls:=.type "list",data:=.seq ([]:List Value).toArray } = hp;have hb:hp.get? iF.heap.objs.size=some { cls:=.type "list",dict:=none,data:=.seq #[] 0,slots:=#[] }:=by rw [<-hh]; exact bE _ rfl
 have old:∀ b o,iF.heap.get? b=some o->hp.get? b=some o:=fun b o e=>by rw [<-hh]; exact aA _ e
 have Oz:Sx 0 hp:=W.frame _ _ _ zZ fun b _ o e=>old b o e;have ht0:T hp:=hT _ _ _ (aQ _) ht fun b o _ _ e=>old b o e;refine aZ ⟨fN iD _,?_⟩;refine fT FY ?_; rw [dH iD _];show wpAny _ A.in1 (Dy (.ref iF.heap.objs.size) >>= _) _ _ _; refine aw (kh hb rfl ?_);show wpAny _ A.in1 (tryCatch (Ln (.ref I)) _ >>= _) _ _ _; refine aw (fS (W.item 0 _ _ _ hn Oz fun v h' tk pv Fx kept=>?_));have Hg:=kept _ _ hSw hb;show wpAny _ A.in1 (Lj iF.heap.objs.size (fun _=>#[v,v]) >>= _) _ _ _; refine aw ?_;refine ib Hg rfl ?_; rw [nm];refine aZ ⟨fN iD _,R5 W bt T _ Vp (fun h h'=>hT h h' _ (aQ _)) cmp _ 0 _ v _ rfl hn (W.frame _ _ _ Fx fun b z o e=>?_) (hT _ _ _ (aQ _) (hT _ _ _ (aQ _) ht0 fun b o z1 _ e=>kept b o z1 e) fun b o _ z2 e=>?_) pv (lW _ Hg rfl) fun v' Vr LP Up kk=>?_⟩
 ·exact(cp _ _ (fun z':iF.heap.objs.size=b=>Vp (by rw [z']; exact z))).trans e
 ·exact(cp _ _ (jD z2)).trans e
 ·refine hQ v' Vr LP Up fun b o z1 e=>?_;have nb:b≠iF.heap.objs.size:=bq (aL e);exact kk b o z1 nb ((cp _ _ (jD nb)).trans (kept b o z1 (old b o e)))
theorem Fe{α:Type}(lt:α->α->Bool)(l:List α)(a:α)(f:Nat->α)(hf:∀ i,i < l.length+1->f i=(a :: l).getD i a) :
  f (pK (fun i j=>lt (f i) (f j)) l.length)=l.foldl (fun m x=>if lt x m=true then x else m) a:=by
 have key:∀ k,k<=l.length->f (pK (fun i j=>lt (f i) (f j)) k)=(l.take k).foldl (fun m x=>if lt x m=true then x else m) a:=by
  intro k;induction k with
  | zero=>intro _; rw [pK,hf 0 (by lia)]; rfl
  | succ k ih =>
   intro hk;have ih':=ih (by lia);rw [List.take_succ_eq_append_getElem (by lia),qV,<-ih'];have e:f (k+1)=l[k]:=by
    rw [hf (k+1) (by lia),cf];simp [show k < l.length by lia]
   show f (if lt (f (k+1)) (f (pK _ k))=true then k+1 else pK _ k)=(if lt l[k] _=true then l[k] else _);rw [<-e];split <;> rfl
 rw [key l.length (aQ _),List.take_length]
theorem KI (hc : X.calm = true) (hu : X.A.units + 64 < cLine) : tE X (.builtin "min") N9 := by
  intro pins s σ H G xs ds us Q I ab rx rd q;unfold N9 at q;split at q
  · rename_i x
    obtain⟨v, rfl, r⟩ := rd.one;obtain⟨u, rfl, ru⟩ := rx.one;have main : ∀ {α : Type} (zs : List α) (a : α) (enc : α -> D) (lt : α -> α -> Bool) (T : Heap -> Prop), itemsOf x G = some ((a :: zs).map enc) -> T s.heap -> (∀ (h h' : Heap) (B : Addr), s.heap.objs.size ≤ B -> T h -> (∀ b o, b < s.heap.objs.size -> b ≠ B -> h.get? b = some o -> h'.get? b = some o) -> T h') ->
        (∀ y z vy vz uy uz (s' : au) (Q' : Value -> au -> Prop) (E' : Value -> au -> Prop), T s'.heap -> bS X.K H vy (enc y) -> RelV vy uy -> bS X.K H vz (enc z) -> RelV vz uz -> Q' (.bool (lt y z)) s' -> wpAny (model X.prog X.w) X.A.in1 (mC .Lt uy uz) Q' E' s') ->
        Q (enc (zs.foldl (fun m x => if lt x m = true then x else m) a)) G -> wpAny (model X.prog X.w) X.A (call (.builtin "min") [u]) (pq X pins σ H G Q) X.xe s := by
      intro α zs a enc lt T hi ht hT cmp hq;obtain⟨l, vs, its, rfl, rv, rs, hl, hz⟩ := GX I ab ru r hi;have hlen : its.length = zs.length + 1 := by rw [<-rv.length, rs.length, ai, af]
      have pD : ∀ {o : Obj}, s.heap.get? l = some o -> l ≠ s.heap.objs.size := fun e => bq (aL e);have at_ : ∀ i uu, its.toArray[i]? = some uu -> ∃ vv, RelV vv uu ∧ bS X.K H vv (enc ((a :: zs).getD i a)) := fun i uu e => by
        have e' : its[i]? = some uu := by simpa using e
        have Wa : i < its.length := (List.getElem?_eq_some_iff.mp e').1;have hd : ((a :: zs).map enc)[i]? = some (enc ((a :: zs).getD i a)) := by
          rw [du, cf];cases h9 : (a :: zs)[i]? with
          | none => rw [List.getElem?_eq_none_iff] at h9; simp at h9; lia
          | some z => rfl
        obtain⟨vv, h1, h2⟩ := rs.get hd;obtain⟨uu', h3, h4⟩ := rv.get h1;rw [e'] at h3;cases h3;exact⟨vv, h4, h2⟩
      have VC : ∀ i j p9 q9 s' (Q' : Value -> au -> Prop) (E' : Value -> au -> Prop), T s'.heap -> its.toArray[i]? = some p9 -> its.toArray[j]? = some q9 -> Q' (.bool (lt ((a :: zs).getD i a) ((a :: zs).getD j a))) s' -> wpAny (model X.prog X.w) X.A.in1 (mC .Lt p9 q9) Q' E' s' := fun i j p9 q9 s' Q' E' t' h1 h2 h3 => by
        obtain⟨v1, r1, d1⟩ := at_ i p9 h1;obtain⟨v2, r2, d2⟩ := at_ j q9 h2;exact cmp _ _ v1 v2 p9 q9 s' Q' E' t' d1 r1 d2 r2 h3
      have fin : ∀ vv h' tk, its.toArray[pK (fun i j => lt ((a :: zs).getD i a) ((a :: zs).getD j a)) (its.toArray.size - 1)]? = some vv -> (∀ b o, b ∉ [s.heap.objs.size] -> s.heap.get? b = some o -> h'.get? b = some o) -> pq X pins σ H G Q vv { s with heap := h', toks := tk } := fun vv h' tk e hk => by
        obtain⟨v1, r1, d1⟩ := at_ _ vv e;have es : its.toArray.size - 1 = zs.length := by rw [aM]; lia
        rw [es, Fe lt zs a (fun i => (a :: zs).getD i a) (fun i _ => rfl)] at d1;exact⟨v1, H, _, G, I.kept fun b o e => hk b o (by simpa using bq (aL e)) e, .refl ab, r1, d1, hq⟩
      have Cy : 0 < its.toArray.size := by rw [aM]; lia
      have hTp : ∀ (oo : Obj), T (s.heap.push oo) := fun oo => hT _ _ (s.heap.objs.size + 1) (yc _) ht fun b o hb _ e => aA _ e;have hT2 : ∀ (oo : Obj) (h h' : Heap) (B : Addr), (s.heap.push oo).objs.size ≤ B -> T h -> (∀ b o, b ∉ [s.heap.objs.size] -> b ≠ B -> h.get? b = some o -> h'.get? b = some o) -> T h' := fun oo h h' B hB t kk => hT h h' B (by rw [gw] at hB; exact Nat.le_of_succ_le hB) t fun b o hb hn e => kk b o (by simpa using bq hb) hn e;rcases hl with hl | hl
      · refine Eb (FK hl ?_)
        obtain⟨o, ho, Cz, n, hd⟩ := id hl;exact⟨s.heap.objs.size, _, _, _, _, _, _, T, rfl, Walks.list (A := X.A.in1) (show X.A.in1.handled = none from I.ok.hd hc) _ l (pD ho) its.toArray, ⟨⟨_, bE _ rfl, rfl, rfl⟩, ⟨o, aA _ ho, Cz, n, hd⟩⟩,
          fun b hb => by rcases (by simpa using hb : b = s.heap.objs.size ∨ b = l) with rfl | rfl
                         · rw [gw]; exact jM _
                         · rw [gw]; exact Bt (aL ho), Cy, hTp _, hT2 _, VC, fun vv h' tk e hk => fin vv h' tk e fun b o hb e => hk b o hb (aA _ e)⟩
      · refine Eb (wpAny_pyIter_tuple hl ?_)
        obtain⟨o, ho, Cz, n, hd⟩ := id hl;exact⟨s.heap.objs.size, _, _, _, _, _, _, T, rfl, Walks.tuple (A := X.A.in1) (show X.A.in1.handled = none from I.ok.hd hc) _ l (pD ho) its.toArray, ⟨⟨_, bE _ rfl, rfl, rfl⟩, ⟨o, aA _ ho, Cz, n, hd⟩⟩,
          fun b hb => by rcases (by simpa using hb : b = s.heap.objs.size ∨ b = l) with rfl | rfl
                         · rw [gw]; exact jM _
                         · rw [gw]; exact Bt (aL ho), Cy, hTp _, hT2 _, VC, fun vv h' tk e hk => fin vv h' tk e fun b o hb e => hk b o hb (aA _ e)⟩
    rcases q with ⟨ns, mm, hi, hm, q⟩ | ⟨VY, mm, hi, hm, q⟩
    · cases ns with
      | nil => cases hm
      | cons a zs =>
        cases hm;have e : (fun m x : Int => if x < m then x else m) = fun m x => if decide (x < m) = true then x else m := by funext m x; simp
        rw [e] at q;refine main zs a D.int (fun x y => decide (x < y)) (fun _ => True) hi trivial (fun _ _ _ _ _ _ => trivial) (fun y z vy vz uy uz s' Q' E' _ d1 r1 d2 r2 hq => ?_) q;cases d1;cases d2;obtain⟨t1, rfl⟩ := r1;obtain⟨t2, rfl⟩ := r2;exact HT.yq X.A.in1 s' y t1 z t2 X.prog X.w E' Q' hq
    · cases VY with
      | nil => cases hm
      | cons a zs =>
        cases hm;have el : ∀ xs ys : List Int, HT.lexLt xs ys = K2.lexLt xs ys := by
          intro xs;induction xs with
          | nil => intro ys; cases ys <;> rfl
          | cons x xs ih => intro ys; cases ys with
            | nil => rfl
            | cons y ys => unfold HT.lexLt K2.lexLt; rw [ih]
        refine main zs a tI K2.lexLt (fun h => ∀ b o, b < s.heap.objs.size -> s.heap.get? b = some o -> h.get? b = some o) hi (fun b o _ e => e) (fun h h' B hB t kk b o hb e => kk b o hb (bq (bg hb hB)) (t b o hb e)) (fun y z vy vz uy uz s' Q' E' t' d1 r1 d2 r2 hq => ?_) q;cases d1 with
        | tup h1 rs1 =>
          cases d2 with
          | tup h2 RC =>
            cases r1;cases r2;have z1 := rs1.ints;have z2 := RC.ints;subst z1 z2;obtain⟨UT, rv1, ⟨o1, ho1, hc1, n1, hd1⟩, _⟩ := I.tuple (.of h1);obtain⟨vT, Qs, ⟨o2, FD, Er, n2, hd2⟩, _⟩ := I.tuple (.of h2);have p1 : IsTup s'.heap _ UT.toArray := ⟨o1, t' _ _ (aL ho1) ho1, hc1, n1, hd1⟩;have p2 : IsTup s'.heap _ vT.toArray := ⟨o2, t' _ _ (aL FD) FD, Er, n2, hd2⟩;rw [<-el] at hq;have i1 : jR UT.toArray.toList y := intsAre_of rv1;have i2 : jR vT.toArray.toList z := intsAre_of Qs;exact(HT.yH p1 p2 i1 i2 (show X.A.units + 1 < cLine by lia) hq : wpAny (model X.prog X.w) X.A.in1 (eO .Lt _ _) Q' E' s')
  · exact q.elim
noncomputable def WX(scope sc:Scope):List (Str×rQ):=scope.names.map fun (n,k)=>if (k == .free&&sc.kind == .function&&sc.names.lookup n == some .cell) then (n,.cell) else (n,k)
noncomputable def xX(N:List Str)(scope:Scope)(m:Nat)(fr:List Nat)(sc:Scope)(XN:List Str):Bool :=
 scope.names.all (fun y=>decide (y.2≠.cell))&&decide (scope.kind=.function)&&scope.names.all (fun y=>!decide (y.2=.local)||decide (scope.names.lookup y.1=some .local)) &&
 scope.names.all (fun y=>!decide (y.2=.free)||decide (sc.names.lookup y.1=some .cell))&&decide (N.length=m+fr.length) &&
 (ft fr.length).all (fun j=>match fr[j]?,N[m+j]? with
  | some i,some x=>decide (XN[i]?=some x)&&decide (sc.names.lookup x=some .cell)&&decide ((WX scope sc).lookup x=some .cell)
  | _,_=>false)
theorem Bg{sc:Scope}{XN:List Str}(UX:X.env.scope=sc)(Vn:X.N=XN)(hb:xX N scope m fr sc XN=true):zF X N scope m fr:=by
 subst UX Vn;unfold xX at hb;simp only [aS] at hb;obtain⟨⟨⟨⟨⟨h1,h2⟩,h3⟩,h4⟩,h5⟩,h6⟩:=hb;refine⟨fun y hy=>of_decide_eq_true (List.all_eq_true.mp h1 y hy),of_decide_eq_true h2,fun y hy hl=>?_,fun y hy hl=>?_,of_decide_eq_true h5,fun j i x e1 e2=>?_⟩
 ·have:=List.all_eq_true.mp h3 y hy;simp only [hl,decide_true,cR,K8] at this;exact of_decide_eq_true this
 ·have:=List.all_eq_true.mp h4 y hy;simp only [hl,decide_true,cR,K8] at this;exact of_decide_eq_true this
 ·have hj:j < fr.length:=(List.getElem?_eq_some_iff.mp e1).1;have:=List.all_eq_true.mp h6 j (List.mem_range.mpr hj);rw [e1,e2] at this;simp only [aS] at this;exact⟨of_decide_eq_true this.1.1,of_decide_eq_true this.1.2,of_decide_eq_true this.2⟩
theorem jl(N:List Str){sc:Scope}{XN:List Str}(hi:Q6 X tg iter wi)(hg:∀ C s H fp,Lg (c3 X N scope C s H fp) tg g)(SE:∀ C s H fp,S9 (c3 X N scope C s H fp) ifs c)(he:∀ C s H fp,gR (c3 X N scope C s H fp) elt te)
  (UX:autoParam (X.env.scope=sc) Ar._auto_1) (Vn:autoParam (X.N=XN) Ar._auto_1) (hb:autoParam (xX N scope m fr sc XN=true) Ak._auto_1) (hc:autoParam (X.calm=true) Ar._auto_1) (hs:autoParam (∀ x,mD iter X.env x=pure x) Ai._auto_1):gR X (.ListComp elt [⟨tg,iter,ifs,0⟩] scope pos) (gX m fr wi g c te) :=
 JX hc (Bg UX Vn hb) hi hg SE he hs
theorem Mn(N:List Str){sc:Scope}{XN:List Str}{i:Nat}{y:Str}{py LW:Pos}(hN:X.N.Nodup)(XZ:X.N[i]?=some y)(hy:X.env.scope.names.lookup y=some .local)(hi:Q6 X tg iter wi)(hg:∀ C s H fp,Lg (c3 X N scope C s H fp) tg g)
  (SE:∀ C s H fp,S9 (c3 X N scope C s H fp) ifs c) (he:∀ C s H fp,gR (c3 X N scope C s H fp) elt te) (UX:autoParam (X.env.scope=sc) Ar._auto_1) (Vn:autoParam (X.N=XN) Ar._auto_1) (hb:autoParam (xX N scope m fr sc XN=true) Ak._auto_1) (hc:autoParam (X.calm=true) Ar._auto_1)
  (X9:autoParam (x8 (.ListComp elt [⟨tg,iter,ifs,0⟩] scope pos) (some (.Name y py)) LW.line X.env=pure true) Ar._auto_1) (hs:autoParam (∀ x,mD iter X.env x=pure x) Ai._auto_1) :
  Bo X (.Assign [.Name y py] (.ListComp elt [⟨tg,iter,ifs,0⟩] scope pos) LW) (bY (gX m fr wi g c te) (aR i)) :=
 D1 hN XZ hy hc (Bg UX Vn hb) hi hg SE he X9 hs
end
noncomputable def N7:HO->Bool
 | .lst _=>true
 | .dK _=>true
 | .dT _=>true
 | .ext _=>true
 | _=>false
noncomputable def nN(h:Heap)(S:Addr->Bool)(H:Hp):Hp:=fun a=>match H a with
 | some u=>if (N7 u&&S a)=true then (match h.get? a with
  | some o=>some (.jO o u)
  | none=>some u) else some u
 | none=>none
section
variable {h:Heap} {S:Addr->Bool} {H:Hp} {a:Addr}
theorem Hk(n:∀ u,H a=some u->N7 u=false):nN h S H a=H a:=by
 unfold nN;cases e:H a with
 | none=>rfl
 | some u=>simp only [n u e,w9,ay,if_false]
theorem y3(hs:S a=false):nN h S H a=H a:=by
 unfold nN;cases e:H a with
 | none=>rfl
 | some u=>simp only [hs,HP,ay,if_false]
theorem uV{u:HO}{o:Obj}(hs:S a=true)(e:H a=some u)(hu:N7 u=true)(ho:h.get? a=some o):nN h S H a=some (.jO o u):=by
 unfold nN;simp only [e,hs,hu,Bool.and_self,if_true,ho]
theorem nM(e:H a=none):nN h S H a=none:=by unfold nN; rw [e]
theorem kX{u:HO}(e:H a=some u)(hu:N7 u=false):nN h S H a=some u:=by rw [Hk (fun v z=>by rw [e] at z; cases z; exact hu)]; exact e
theorem rh:Kp H (nN h S H):=⟨fun a xs e=>kX e rfl,fun a o u e=>kX e rfl⟩
end
section
variable {X:Cx} {pins:List (Addr×Obj)} {σ:L2.St} {H:Hp} {s:au} {G:Gp}
theorem Inv.freeze(I : Inv X pins σ H s)(S : Addr -> Bool) : Inv X pins σ (nN s.heap S H) s where
  ok := I.ok
  os := I.os
  bare := I.bare
  base := { keep := I.base.keep, slot := I.base.slot, there := I.base.there
            free := fun b o q n hx => nM (I.base.free b o q n hx)
            sD := fun b xs q => kX (I.base.sD b xs q) rfl
            rG := fun b o u q => kX (I.base.rG b o u q) rfl
            nh := fun b ps q => kX (I.base.nh b ps q) rfl
            uB := fun b x q => kX (I.base.uB b x q) rfl }
  loc := I.loc
  cell := I.cell
  free := nM I.free
  i9 := fun x c e => nM (I.i9 x c e)
  pin := fun p hp => let ⟨h1, h2, h3⟩ := I.pin p hp; ⟨h1, nM h2, h3⟩
  cF := fun a o q => by
    have st : ∀ u, H a = some u -> fe X.prog X.w (nN s.heap S H) s.heap a u := fun u e =>
      (I.cF a u e).iK (fun b v _ r => r) (fun b r => kX r rfl) (fun b xs r => kX r rfl)
    cases e : H a with
    | none => rw [nM e] at q; cases q
    | some u =>
      by_cases hc : N7 u = true
      · by_cases hs : S a = true
        · obtain⟨ob, ho⟩ := lj (I.cF a _ e)
          rw [uV hs e hc ho] at q;cases q;exact⟨ho, st _ e⟩
        · rw [y3 (by simpa using hs), e] at q
          cases q;exact st _ e
      · rw [kX e (by simpa using hc)] at q
        cases q;exact st _ e
  len := I.len
noncomputable def nk(R:Nat->Bool)(G:Gp):Addr->Bool:=fun a=>R a&&(G a).isSome
theorem A8(I:Inv X pins σ H s)(ab:jQ X.K H G)(R:Nat->Bool):Mv X.K H G (nN s.heap (nk R G) H) (Ag R G) where
 keep:=fun a o e n=>by
  refine⟨by rw [y3 (by simp [nk,n])]; exact e,?_⟩;unfold Ag; split
  ·rfl
  ·exact n
 iK:=fun a n=>by
  cases q:G a with
  | none=>exact absurd q n
  | some g =>
   have t:=(ab a g q).tracked;cases e:H a with
   | none=>exact absurd e t
   | some u =>
    unfold nN;rw [e];dsimp only;split
    ·split <;> simp
    ·simp
 ab:=fun a g e=>by
  unfold Ag at e;split at e
  ·cases e
  ·rename_i hr;exact(ab a g e).mono rh (y3 (by simp [nk,hr]))
theorem Ny(I:Inv X pins σ H s)(ab:jQ X.K H G){R:Nat->Bool}:∀ {d t:D} {v:V},Fz G R d t->bS X.K H v d->bS X.K (nN s.heap (nk R G) H) v t:=by
 intro d t v h;revert v;refine Fz.rec (motive_1:=fun d t _=>∀ {v:V},bS X.K H v d->bS X.K (nN s.heap (nk R G) H) v t)
  (motive_2:=fun ds ts _=>∀ {vs:List V},a4 X.K H vs ds->a4 X.K (nN s.heap (nk R G) H) vs ts)
  (motive_3:=fun ds ts _=>(∀ {vs:List (Key×V)},oO X.K H vs ds->oO X.K (nN s.heap (nk R G) H) vs ts)/\∀ {vs:List (List Key×V)},pH X.K H vs ds->pH X.K (nN s.heap (nk R G) H) vs ts)
  ?_ ?_ ?_ ?_ ?_ ?_ ?_ ?_ ?_ ?_ h
 ·intro d v r; exact r.mono rh
 ·intro ds ss _ ih v r;cases r with
  | tup h rs=>exact .tup (rh.tup _ _ h) (ih rs)
 ·intro ds ss _ ih v r;cases r with
  | da h rs=>exact .da (rh.Ti h) (ih rs)
 ·intro a ds ss g hr _ ih v r;cases r;obtain⟨vs,hv,rs⟩:=ab a _ g;obtain⟨ob,ho⟩:=lj (I.cF a _ hv);exact .da (.inl ⟨_,uV (by simp [nk,hr,g]) hv rfl ho⟩) (ih rs)
 ·intro a ds ss g hr _ ih v r;cases r;rcases ab a _ g with ⟨kv,hv,rs⟩ | ⟨kv,hv,rs⟩
  ·obtain⟨ob,ho⟩:=lj (I.cF a _ hv);exact .pW (uV (by simp [nk,hr,g]) hv rfl ho) (ih.1 rs)
  ·obtain⟨ob,ho⟩:=lj (I.cF a _ hv);exact .pV (uV (by simp [nk,hr,g]) hv rfl ho) (ih.2 rs)
 ·intro a a0 QG g hr _ ek ih v r;cases r;obtain⟨xs,ks,vs,hv,rel,r1,r2⟩:=ab a _ g;obtain⟨ob,ho⟩:=lj (I.cF a _ hv);have e2:(QG.map fun p=>Uq p.1)=a0.map fun p=>Uq p.1:=by
   have:=congrArg (List.map Uq) ek;rw [pA,pA] at this;exact this.symm
  exact .AQ (uV (by simp [nk,hr,g]) hv rfl ho) ⟨ek.symm.trans rel.1,rel.2⟩ (by rw [e2]; exact r1.mono rh) (ih r2)
 ·intro vs r; cases r; exact .nil
 ·intro d s ds ss _ _ i1 i2 vs r;cases r with
  | cons r rs=>exact .cons (i1 r) (i2 rs)
 ·exact⟨fun r=>by cases r; exact .nil,fun r=>by cases r; exact .nil⟩
 ·intro k d s ds ss _ _ i1 i2;exact⟨fun r=>by cases r with | cons r rs=>exact .cons (i1 r) (i2.1 rs),fun r=>by cases r with | cons r rs=>exact .cons (i1 r) (i2.2 rs)⟩
variable {e:Expr} {te:eZ} {st:Stmt} {t:fh}
theorem bG(he:gR X e te):gR X e (dA te):=by
 intro E pins s σ H τ G Q hE I h;refine fV (he E pins s σ H τ G _ hE I h) ?_;rintro u s1 ⟨v,H1,d,G1,I1,m,r,rd,R,t,hf,q⟩;exact⟨v,_,t,_,Inv.freeze I1 _,m.trans (A8 I1 m.ab R),r,Ny I1 m.ab hf rd,q⟩
theorem Io{i:Nat}(h1:Bo X st t):Bo X st (NZ i t):=by
 intro E pins s σ H τ G D hE I h;refine fV (h1 E pins s σ H τ G _ hE I h) fun f s1 z=>?_;cases f with
 | next =>
  obtain⟨iJ,H',l7,G',I',m,q⟩:=z;simp only at q;split at q
  ·rename_i d hd;obtain⟨R,t,hf,q⟩:=q;obtain⟨v,hv,rv⟩:=I'.st.at' i d hd;have a1:=(I'.st.mono (H':=nN s1.heap (nk R G') H') rh).set i (Ny I'.inv I'.ab hf rv);have es:iJ.set i (some v)=iJ:=by
    have hi:i < iJ.length:=(List.getElem?_eq_some_iff.mp hv).1;have e2:=(List.getElem?_eq_some_iff.mp hv).2;rw [<-e2]; exact List.set_getElem_self hi
   rw [es] at a1;have m2:=A8 I'.inv I'.ab R;exact⟨iJ,_,_,_,⟨Inv.freeze I'.inv _,a1,m2.ab⟩,m.trans m2,q⟩
  ·exact q.elim
 | ret v=>exact z
 | brk=>exact z
 | cont=>exact z
end
theorem jx:dF "len" = some (.builtin "len"):=by decide +kernel
theorem S4:dF "min" = some (.builtin "min"):=by decide +kernel
theorem Bi:dF "sorted" = some (.builtin "sorted"):=by decide +kernel
theorem x3:dF "list" = some (.type "list"):=by decide +kernel
theorem Od:dF "tuple" = some (.type "tuple"):=by decide +kernel
theorem Qg:dF "dict" = some (.type "dict"):=by decide +kernel
section
variable {X:Cx} {a b c e o:Expr} {es:List Expr} {ta tb tc te to:eZ} {t:vh} {pos p p2 apos pE:Pos} {x name:Str} {id T:String} {k:Nat} {f:Addr} {fd:ak} {ps:List Str} {sp:gM}
theorem bH(F:cU X.prog X.w X.K X.mg X.base ff k f fd ps (cx X.K sp))(hr:fk k X.A)(hg:Gl X x)(hm:X.mg x=some (.ref f))(hk:cH X.K (.ref f)=true)(hb:Binds X.K fd ps [])
  (ha:x5 X (e :: es) t) (uS:autoParam ((x == ("__debug__" : Str))=false) Ad._auto_1) (he:autoParam (aY (e :: es) X.env=(false,eval e X.env) :: aY es X.env) Ar._auto_1) (oC:autoParam ((fU pos (aY es X.env)).any (·.1)=false) Ar._auto_1) :
  gR X (.Call (.Name x p) (e :: es) [] pos) (bK sp t):=MD F hr hg hm hk hb ha uS he oC
end
end K2
end
section
namespace L2
open PySem PySem.Spec PyProof.Rows
section
variable {X:Cx} {pins:List (Addr×Obj)} {σ:St} {H:Hp} {s:au} {h':Heap}
theorem Inv.HV{t':Nat}{fp:List Addr}(I:Inv X pins σ H s)(hf:∀ b∈fp,pG X pins H b)(k:∀ b o,b∉fp->s.heap.get? b=some o->h'.get? b=some o):Inv X pins σ H { s with heap:=h',toks:=t' }:=by
 have nt:∀ b u,H b=some u->b∉fp:=fun b u e z=>by rw [(hf b z).1] at e; cases e
 refine I.step (g':=s.gens) (d':=s.drawn) (ch:=fp) (fun b hb=>?_) (fun b o _ _ hc e _=>k b o hc e) (fun b o _ _ hc e _=>⟨o.slots,k b o hc e⟩) (fun _ _ _ _ n=>n)
  (fun b o hc e=>⟨o,k b o hc e⟩) (fun _ _ e=>e) (fun _ _ _ e=>e) (fun _ _ e=>e) (fun _ _ e=>e) (fun m hm=>?_) (fun b u e=>?_) I.bare
 ·obtain⟨f0,f1,f2,f3,f4,f5⟩:=hf b hb;exact⟨f3,f1,f4,f5⟩
 ·obtain⟨o,es,ep,ho,r⟩:=hm;exact⟨o,es,ep,k _ _ (fun z=>(hf _ z).2.1 rfl) ho,r⟩
 ·refine(I.cF b u e).iK (fun c v hc r=>k c v ?_ r) (fun _ z=>z) (fun _ _ z=>z);rcases hc with rfl | hc
  ·exact nt _ _ e
  ·exact nt _ _ hc
theorem Inv.OW{t':Nat}{fp:List Addr}{T:Addr}{vs:List V}(I:Inv X pins σ H s)(hf:∀ b∈fp,pG X pins H b)(k:∀ b o,b∉fp->s.heap.get? b=some o->h'.get? b=some o)(hT:s.heap.objs.size<=T)
  (new:fe X.prog X.w (upd H T (.tup vs)) h' T (.tup vs)):Inv X pins σ (upd H T (.tup vs)) { s with heap:=h',toks:=t' }:=by
 have hn:H T=none:=I.cF.fresh hT;have ht:∀ b o,s.heap.get? b=some o->b≠T:=fun b o e z=>by subst z; exact absurd (aL e) (Nat.not_lt.mpr hT)
 have nt:∀ b u,H b=some u->b∉fp:=fun b u e z=>by rw [(hf b z).1] at e; cases e
 have ne:∀ b u,H b=some u->b≠T:=fun b u e=>bX e hn;refine I.step (g':=s.gens) (d':=s.drawn) (ch:=fp) (fun b hb=>?_) (fun b o _ _ hc e _=>k b o hc e) (fun b o _ _ hc e _=>⟨o.slots,k b o hc e⟩) (fun b o _ e n=>by rw [bj (ht b o e)]; exact n)
  (fun b o hc e=>⟨o,k b o hc e⟩) (fun b xs e=>by rw [bj (ne _ _ e)]; exact e) (fun b o u e=>by rw [bj (ne _ _ e)]; exact e) (fun b ps e=>by rw [bj (ne _ _ e)]; exact e) (fun b ps e=>by rw [bj (ne _ _ e)]; exact e) (fun m hm=>?_) (fun b u e=>?_) I.bare
 ·obtain⟨f0,f1,f2,f3,f4,f5⟩:=hf b hb;exact⟨f3,f1,f4,f5⟩
 ·obtain⟨o,es,ep,ho,r⟩:=hm;exact⟨o,es,ep,k _ _ (fun z=>(hf _ z).2.1 rfl) ho,r⟩
 ·by_cases hb:b=T
  ·subst hb; rw [bV] at e; cases e; exact new
  ·rw [bj hb] at e;refine(I.cF b u e).iK (fun c v hc r=>k c v ?_ r) (fun c z=>by rw [bj (ne _ _ z)]; exact z) (fun c xs z=>by rw [bj (ne _ _ z)]; exact z);rcases hc with rfl | hc
   ·exact nt _ _ e
   ·exact nt _ _ hc
theorem pG.upd{b T:Addr}{o:HO}(h:pG X pins H b)(hb:b≠T):pG X pins (L2.upd H T o) b:=by
 obtain⟨f0,r⟩:=h;exact⟨by rw [bj hb]; exact f0,r⟩
end
noncomputable def Ite(K:ag)(a:Addr):It :=
  ⟨fun i H=>∃ xs x,wZ K H a xs/\xs[i]?=some x,
   fun i H v H'=>∃ T y,v=.ref T/\H T=none/\H'=upd H T (.tup [.int i,y])/\∀ xs,wZ K H a xs->xs[i]?=some y,
   fun i H=>∃ xs,wZ K H a xs/\xs.length<=i⟩
theorem JG{P:bx}{w:World}{K:ag}{elts:List Expr}{kk:Nat}{pos:Pos}(a e it:Addr)(pD:e≠it) :
  Turn P w K (.Tuple elts kk pos) (Ite K a) [e,it] e (fun i h=>(∃ old,IsEnum h e it i old)/\h.IsListIter it a i) where
 mem:=by simp
 obj:=fun i h PV b hb=>by
  obtain⟨⟨old,he⟩,hit⟩:=PV;rcases List.mem_cons.mp hb with rfl | hb
  ·exact⟨_,he,fun v z=>by cases z⟩
  ·have e:b=it:=by simpa using hb
   subst e;obtain⟨o,e,c,d⟩:=hit;exact⟨o,e,fun v z=>by rw [d] at z; cases z⟩
 keep:=(by rintro i h h' ⟨⟨old,he⟩,hit⟩ k; exact⟨⟨old,k e (by simp) _ he⟩,hit.at fun o q=>k it (by simp) o q⟩)
 item:=by
  intro X hP hw hK hc i pins s σ H E I hf st hg;obtain⟨⟨old,he⟩,hit⟩:=st;subst hP hw hK;obtain⟨xs,x,hq,hx⟩:=hg;obtain⟨its,rv,p,hz⟩:=I.list hq;obtain⟨u,hu,ru⟩:=rv.get hx;have hTn:H s.heap.objs.size=none:=I.cF.fresh (aQ _);have heT:e≠s.heap.objs.size:=bq (aL he);have hiT:it≠s.heap.objs.size:=by obtain⟨o,q,_⟩:=hit; exact bq (aL q)
  refine wpAny_pyNext_enum_item he hit p.isList (x:=u) (by simpa using hu) pD fun h' ho Yt hT hsz kk=>?_;refine⟨_,rfl,?_⟩;have I1:Inv X pins σ (upd H s.heap.objs.size (.tup [.int i,x])) { s with heap:=h',toks:=s.toks+1 } :=
   I.OW (fp:=[e,it]) hf (fun b o hb q=>kk b o (fun z=>hb (by simp [z])) (fun z=>hb (by simp [z])) q) (aQ _)
    ⟨by show 2<=bb; decide,[.int i s.toks,u],.cons ⟨_,rfl⟩ (.cons ru .nil),⟨_,hT,rfl,_,rfl⟩⟩
  refine wpAny_letOwnedTupleGo_enum (s:={ s with heap:=h',toks:=s.toks+1 }) ho fun h2 SH QJ=>?_;have f1:∀ b∈[e,it],pG X pins (upd H s.heap.objs.size (.tup [.int i,x])) b:=fun b hb=>(hf b hb).upd (by
   rcases List.mem_cons.mp hb with rfl | hb
   ·exact heT
   ·rw [List.mem_singleton.mp hb]; exact hiT)
  have I2:Inv X pins σ (upd H s.heap.objs.size (.tup [.int i,x])) { s with heap:=h2,toks:=s.toks+1 } :=
   Inv.HV (s:={ s with heap:=h',toks:=s.toks+1 }) (t':=s.toks+1) (fp:=[e,it]) I1 f1 fun b o hb q=>(QJ.2 b (fun z=>hb (by simp [z]))).trans q
  refine⟨.ref s.heap.objs.size,_,I2,rfl,⟨_,x,rfl,hTn,rfl,fun ys hy=>by rw [I.Eh hy hq]; exact hx⟩,⟨⟨u,?_⟩,?_⟩,fun b hb=>(f1 b hb).1⟩
  ·simpa using SH
  ·exact Yt.at fun o q=>(QJ.2 it (jD pD)).trans q
 done:=by
  intro X hP hw hK hc i pins s σ H E I hf st hg;obtain⟨⟨old,he⟩,hit⟩:=st;subst hP hw hK;obtain⟨xs,hq,hx⟩:=hg;obtain⟨its,rv,p,hz⟩:=I.list hq;have hl:=rv.length;refine wpAny_pyNext_enum_end (I.ok.hd hc) he hit p.isList (by simp; lia) fun h' eb=>⟨rfl,?_⟩;exact I.HV (t':=s.toks) (fp:=[e,it]) hf fun b o hb q=>eb b o (fun z=>hb (by simp [z])) q
 self:=(by rintro A i s Q E ⟨⟨old,he⟩,_⟩ h; exact wpAny_pyIter_enum he h)
end L2
namespace K2
open PySem PySem.Spec PyProof.Rows L2
section
variable {X:Cx} {elts:List Expr} {kk:Nat} {T7:Pos} {a b:Expr} {ta tb:eZ} {pos p:Pos}
theorem IT{pins:List (Addr×Obj)}{σ:L2.St}{H H1:Hp}{G G1:Gp}{s1:au}{l:Addr}{vs:List V}{ds:List D}{ok:Gp->Prop}{R:List D->(Gp->Prop)->Gp->Prop}(I1:Inv X pins σ H1 s1)(m:Mv X.K H G H1 G1)(hq:wZ X.K H1 l vs)
  (hk:∀ H2 G2,Kp H1 H2->jQ X.K H2 G2->ok G2->∃ ws,wZ X.K H2 l ws/\a4 X.K H2 ws ds) (q:R (lQ 0 ds) ok G1) :
  wpAny (model X.prog X.w) X.A (call (.type "enumerate") [.ref l]) (fun v s2=>wpAny (model X.prog X.w) X.A (pyIter v) (KO X pins σ (.Tuple elts kk T7) H G R) X.xe s2) X.xe s1:=by
 obtain⟨its,rv,pl,hz⟩:=I1.list hq;refine call_enumerate_list pl.isList fun h' he hit hsz kp=>?_;refine wpAny_pyIter_enum he ?_;refine⟨_,[s1.heap.objs.size+1,s1.heap.objs.size],_,_,H1,G1,lQ 0 ds,ok,rfl,I1.kept (t':=s1.toks) kp,m,JG l _ _ (Nat.succ_ne_self _),⟨⟨_,he⟩,hit⟩,fun b hb=>?_,fun i H2 G2 k ab o=>?_,q⟩
 ·have Hg:s1.heap.objs.size<=b:=by
   rcases List.mem_cons.mp hb with rfl | hb
   ·lia
   ·rw [List.mem_singleton.mp hb]; exact aQ _
  exact I1.NB Hg (I1.cF.fresh Hg)
 ·obtain⟨ws,hw,rd⟩:=hk H2 G2 k ab o;refine⟨fun d hd=>?_,fun hl=>⟨ws,hw,by rw [rd.length,<-Bc ds 0]; exact hl⟩⟩;rw [Bd] at hd;cases YB:ds[i]? with
  | none=>rw [YB] at hd; cases hd
  | some d' =>
   rw [YB] at hd;obtain⟨v,hv,r⟩:=rd.get YB;refine⟨⟨ws,v,hw,hv⟩,?_⟩;rintro x H3 ⟨T,y,ex,hT,e3,hy⟩;subst ex e3;have:=hy ws hw;rw [hv] at this;cases this;have ed:D.tup [.int ((0+i:Nat):Int),d']=d:=by simpa using hd
   subst ed;refine⟨.tup bV (.cons (by rw [Dq]; exact .int _) (.cons (r.mono (.new hT)) .nil)),.Ld ab hT⟩
theorem C6:dF "enumerate" = some (.type "enumerate"):=by decide +kernel
theorem Mw (hg:Gl X "enumerate") (hm:X.mg "enumerate" = none) (ha:gR X a ta) (hs:autoParam (aY [a] X.env=[(false,eval a X.env)]) Ar._auto_1):Q6 X (.Tuple elts kk T7) (.Call (.Name "enumerate" p) [a] [] pos) (Nb ta):=by
 intro E pins s σ H τ G R hE I h;have hA:x5 X [a] (ax ta aW):=ah ha aF hs;refine Call_ (kA I.inv hg hm C6 (e7 (rC hA pos hE I (R:=Uw fun x G1=>uO x G1 R) h fun vs H1 ds G1 us s1 I1 m1 r1 km q1=>?_) hs rfl))
 match ds,q1 with
 | [x],q1 =>
  change uO x G1 R at q1;obtain⟨w,rfl,O6⟩:=km.one;obtain⟨u,rfl,ru⟩:=r1.one;cases O6 with
  | da hq rs=>cases ru; exact IT I1.inv m1 hq.sq (fun H2 G2 k ab _=>⟨_,(k.Ti hq).sq,rs.mono k⟩) q1
  | ref p =>
   cases ru;unfold uO at q1;dsimp only at q1;split at q1
   ·rename_i ds e;obtain⟨vs,hv,rs⟩:=I1.ab.lst e;refine IT I1.inv m1 (.of hv) (fun H2 G2 k ab o=>?_) q1;obtain⟨ws,hw,rE⟩:=ab.lst o;exact⟨ws,.of hw,rE⟩
   ·exact q1.elim
  | tup _ _=>exact q1.elim
  | pW _ _=>exact q1.elim
  | pV _ _=>exact q1.elim
  | dI=>exact q1.elim
  | bl _=>exact q1.elim
  | int _=>exact q1.elim
  | str _=>exact q1.elim
  | exc _=>exact q1.elim
  | zM _ _=>exact q1.elim
  | AQ _ _ _ _=>exact q1.elim
 | [],q1=>exact q1.elim
 | _ :: _ :: _,q1=>exact q1.elim
end
end K2
end
section
namespace K2
open PySem PySem.Spec PyProof.Rows L2
section
variable {X:Cx} {o i a b:Expr} {to ti ta tb:eZ} {pos p:Pos}
theorem Cf(hu:X.A.units+64 < cLine)(ho:gR X o to)(hi:gR X i ti)
  (ha:autoParam (∀ v,Lu (.Subscript o i pos) X.env v=(do
   let ov ← su [v] (eval o X.env)
   let iv ← su [v,ov] (eval i X.env)
   standAt pos
   su [v,ov,iv] (setItem ov iv v)
   release [v,ov,iv] [])) Ai._auto_1):Lg X (.Subscript o i pos) (Et to ti):=by
 intro E pins s σ H τ G w d u Q hE I r rd h;rw [ha];refine aw (dv (ki ho hE I h fun x H1 dx G1 ov s1 I1 m1 r1 km q1=>?_));refine aw (dv (ki hi hE I1 q1 fun y H2 dy G2 iv s2 kd m2 r2 Fy q2=>?_));refine aw (wpAny_standAt (aw (dv ?_)));have V2:=m1.trans m2;have xH:=rd.mono (V2.kp I.ab);have Fx:=I.st.mono (V2.kp I.ab);have rx':=km.mono (m2.kp I1.ab);unfold DN at q2;split at q2
 ·rename_i l;cases rx';cases r1;split at q2
  ·rename_i xs hg;obtain⟨vs,hv,rs⟩:=kd.ab.lst hg;split at q2
   ·rename_i k;cases Fy;split at q2
    ·rename_i j hj;have m3:Mv X.K H2 G2 (upd H2 l (.lst (vs.set j w))) (bP G2 l (.lst (xs.set j d))):=.putL kd.ab hg hv (rs.set xH j);refine fV (set_list pins s2 σ H2 (.ref l) (.int k) w _ _ _ (fun H3=>H3=upd H2 l (.lst (vs.set j w))) kd.inv rfl r2 r ⟨l,vs,k,j,rfl,rfl,hv,?_,rfl⟩) ?_
     ·rw [rs.length]; exact hj
     ·rintro _ s3 ⟨H3,I3,e3⟩;subst e3;exact wpAny_release ⟨σ,_,τ,_,⟨I3,Fx.mono (m3.kp kd.ab),m3.ab⟩,V2.trans m3,q2⟩
    ·exact q2.elim
   ·exact q2.elim
  ·rename_i a0 hg;obtain⟨hk,hz,q⟩:=q2;obtain⟨H3,H4,I3,dp,m3⟩:=NQ kd.inv kd.ab hg hk hz Fy xH;exact KD (by lia) I3 dp r2 r fun s4 I4=>wpAny_release ⟨σ,H4,τ,_,⟨I4,Fx.mono (m3.kp kd.ab),m3.ab⟩,V2.trans m3,q⟩
  ·exact q2.elim
 ·exact q2.elim
end
end K2
end
section
namespace K2
open PySem PySem.Spec PyProof.Rows L2
open PySem.AutoSeq1 (wpAny_loadPart')
open PySem.MeetsSeq PySem.MeetsSeq2 PySem.MeetsSeq3 PySem.SeqAt
noncomputable def Dj(A:cI)(s:au)(y x:Value)(b:Bool):Prop :=
 ∀ (prog:bx) (w:World) (E:Value->au->Prop) (Q:Value->au->Prop),Q (.bool b) s->wpAny (model prog w) A (mC .Lt y x) Q E s
noncomputable def uL(e l:Nat->Bool)(n m:Nat):Nat->Nat->Bool
 | 0,_=>decide (n < m)
 | f+1,i=>if e i=true then uL e l n m f (i+1) else l i
theorem PI(l b:Addr)(xs ys:Array Value)(n m:Nat)(dd de:Option Addr)(sl sm:Array (Option Value))(e lt:Nat->Bool)(k:Nat) :
  ∀ i:Nat,i<=min xs.size ys.size->min xs.size ys.size - i=k->Meets (Builtin.«list.__eq__.loop» ⟨[.ref l,.ref b,rN i,rN 0],[]⟩)
   (fun A R s=>s.heap.get? l=some { cls:=.type "list",dict:=dd,data:=.seq xs n,slots:=sl }/\s.heap.get? b=some { cls:=.type "list",dict:=de,data:=.seq ys m,slots:=sm } /\
    (∀ j (h1:j < xs.size) (h2:j < ys.size),EqAt A.in1 s xs[j] ys[j] (e j)/\Dj A.in1 s xs[j] ys[j] (lt j)) /\
    R (.ok (.ret (.bool (uL e lt xs.size ys.size k i)))) s):=by
 induction k with
 | zero =>
  intro i hi hk prog w A R s h;obtain⟨hp,g,d,tk,os⟩:=s;obtain⟨hl,hb,he,h⟩:=h
  wp_walk using bM hl,bM hb
  by_cases c:xs.size<=ys.size
  ·have h1:xs[((i:Nat):Int).toNat]?=none:=by simp; lia
   rw [h1]
   wp_walk using bM hl,bM hb
   exact h
  ·have h2:ys[((i:Nat):Int).toNat]?=none:=by simp; lia
   rw [h2];cases q:xs[((i:Nat):Int).toNat]? with
   | none =>
    wp_walk using bM hl,bM hb
    exact h
   | some v =>
    wp_walk using bM hl,bM hb
    exact h
 | succ k ih =>
  intro i hi hk prog w A R s h;obtain⟨hp,g,d,tk,os⟩:=s;obtain⟨hl,hb,he,h⟩:=h
  wp_walk using bM hl,bM hb
  have l1:i < xs.size:=by lia
  have l2:i < ys.size:=by lia
  have h1:xs[((i:Nat):Int).toNat]?=some xs[i]:=by simp [l1]
  have h2:ys[((i:Nat):Int).toNat]?=some ys[i]:=by simp [l2]
  have hc:((i:Int)+1)=((i+1:Nat):Int):=by push_cast; rfl
  rw [h1,h2];refine aw ((he i l1 l2).1 prog w _ _ ?_);cases q:e i with
  | true =>
   rw [uL,q,if_pos rfl] at h
   wp_walk
   rw [hc];exact⟨fN plain_eq_loop _,fT entry_eq_loop (by
    rw [dH plain_eq_loop _];exact ih (i+1) (by lia) (by lia) prog w A R _ ⟨hl,hb,he,h⟩)⟩
  | false =>
   rw [uL,q,if_neg (by simp)] at h
   wp_walk using bM hl,bM hb
   rw [h1,h2];have UY:=(he i l1 l2).2 prog w
   wp_walk using UY
   exact h
theorem Ke(l b:Addr)(xs ys:Array Value)(n m:Nat)(dd de:Option Addr)(sl sm:Array (Option Value))(e lt:Nat->Bool) :
  Meets (Builtin.«list.__lt__» ⟨[.ref l,.ref b],[]⟩)
   (fun A R s=>s.heap.get? l=some { cls:=.type "list",dict:=dd,data:=.seq xs n,slots:=sl }/\s.heap.get? b=some { cls:=.type "list",dict:=de,data:=.seq ys m,slots:=sm } /\
    (∀ j (h1:j < xs.size) (h2:j < ys.size),EqAt A.in1 s xs[j] ys[j] (e j)/\Dj A.in1 s xs[j] ys[j] (lt j)) /\
    R (.ok (.ret (.bool (uL e lt xs.size ys.size (min xs.size ys.size) 0)))) s):=by
 intro prog w A R s h;obtain⟨hp,g,d,tk,os⟩:=s;obtain⟨hl,hb,he,h⟩:=h;have f3:=FZ
 wp_walk using bM hl,bM hb
 exact⟨fN plain_eq_loop _,fT entry_eq_loop (by
  rw [dH plain_eq_loop _];exact PI l b xs ys n m dd de sl sm e lt _ 0 (cg _) rfl prog w A R _ ⟨hl,hb,he,h⟩)⟩
theorem Gr(l b:Addr)(xs ys:Array Value)(n m:Nat)(dd de:Option Addr)(sl sm:Array (Option Value))(e lt:Nat->Bool) :
  Meets (Builtin.«tuple.__lt__» ⟨[.ref l,.ref b],[]⟩)
   (fun A R s=>s.heap.get? l=some { cls:=.type "tuple",dict:=dd,data:=.seq xs n,slots:=sl }/\s.heap.get? b=some { cls:=.type "tuple",dict:=de,data:=.seq ys m,slots:=sm } /\
    (∀ j (h1:j < xs.size) (h2:j < ys.size),EqAt A.in1 s xs[j] ys[j] (e j)/\Dj A.in1 s xs[j] ys[j] (lt j)) /\
    R (.ok (.ret (.bool (uL e lt xs.size ys.size (min xs.size ys.size) 0)))) s) :=
 .of_wp fun prog w A R s h=>by
  obtain⟨hp,g,d,tk,os⟩:=s;obtain⟨hl,hb,he,h⟩:=h;have f2:=oQ;have zl:(xs.toList.zip ys.toList).length=min xs.size ys.size:=by simp
  wp_walk using bM hl,bM hb,wpAny_forIn_list _ (fun rest c s'=>c.1=none/\s'=⟨hp,g,d,tk,os⟩/\∃ i,i<=min xs.size ys.size/\rest=(xs.toList.zip ys.toList).drop i /\
   R (.ok (.ret (.bool (uL e lt xs.size ys.size (min xs.size ys.size - i) i)))) ⟨hp,g,d,tk,os⟩) _
  case turn =>
   rintro⟨y,x⟩ rest c s' ⟨hc,rfl,i,hi,hz,hR⟩;have il:i < min xs.size ys.size:=by
    have:=congrArg dO hz;rw [cW,zl,af] at this;lia
   have l1:i < xs.size:=by lia
   have l2:i < ys.size:=by lia
   rw [gv (by rw [zl]; exact il)] at hz;injection hz with XY Nd
   have ey:y=xs[i]/\x=ys[i]:=by simpa using XY
   obtain⟨rfl,rfl⟩:=ey;obtain⟨k,ek⟩:∃ k,min xs.size ys.size - i=k+1:=⟨min xs.size ys.size - i - 1,by lia⟩;rw [ek,uL] at hR;refine aw ((he i l1 l2).1 prog w _ _ ?_);cases q:e i with
   | true =>
    rw [q,if_pos rfl] at hR
    wp_walk
    exact⟨rfl,rfl,i+1,by lia,Nd,by rw [show min xs.size ys.size - (i+1)=k by lia]; exact hR⟩
   | false =>
    rw [q,if_neg (by simp)] at hR;have UY:=(he i l1 l2).2 prog w
    wp_walk using UY
    exact⟨_,rfl,by simpa using hR⟩
  case fin =>
   rintro⟨c1,c2⟩ s' ⟨hc,rfl,i,hi,hz,hR⟩;simp only at hc;subst hc;have il:min xs.size ys.size - i=0:=by
    have:=congrArg dO hz;rw [cW,zl,aq] at this;lia
   rw [il,uL] at hR
   wp_walk
   exact⟨_,rfl,by simpa [tP] using hR⟩
  case h =>
   exact⟨rfl,rfl,0,cg _,rfl,by simpa using h⟩
theorem Ka{A:cI}{s:au}{l b:Addr}{xs ys:Array Value}{e lt:Nat->Bool}(hl:s.heap.IsList l xs)(hb:s.heap.IsList b ys)(hu:A.units < cLine)
  (he:∀ j (h1:j < xs.size) (h2:j < ys.size),EqAt A.in1 s xs[j] ys[j] (e j)/\Dj A.in1 s xs[j] ys[j] (lt j)):Dj A s (.ref l) (.ref b) (uL e lt xs.size ys.size (min xs.size ys.size) 0):=by
 intro prog w E Q hq;obtain⟨⟨cls,dd,data,sl⟩,ho,hc,n,hd⟩:=id hl;obtain⟨⟨S3,OF,data2,JM⟩,FD,Er,n2,hd2⟩:=id hb;simp only at hc hd Er hd2;subst hc hd Er hd2;exact w6 (op:=.Lt) ⟨_,ho,rfl⟩ ⟨_,FD,rfl⟩ PySem.F.slot_list_lt PySem.F.entry_list_lt (PySem.F.args_list_lt_2 _ _) (Ke l b xs ys n n2 dd OF sl JM e lt)
  ⟨ho,FD,he,(fun x=>nomatch x),hq⟩ hu
theorem GV{A:cI}{s:au}{l b:Addr}{xs ys:Array Value}{e lt:Nat->Bool}(hl:s.heap.IsTuple l xs)(hb:s.heap.IsTuple b ys)(hu:A.units < cLine)
  (he:∀ j (h1:j < xs.size) (h2:j < ys.size),EqAt A.in1 s xs[j] ys[j] (e j)/\Dj A.in1 s xs[j] ys[j] (lt j)):Dj A s (.ref l) (.ref b) (uL e lt xs.size ys.size (min xs.size ys.size) 0):=by
 intro prog w E Q hq;obtain⟨⟨cls,dd,data,sl⟩,ho,hc,n,hd⟩:=id hl;obtain⟨⟨S3,OF,data2,JM⟩,FD,Er,n2,hd2⟩:=id hb;simp only at hc hd Er hd2;subst hc hd Er hd2;exact w6 (op:=.Lt) ⟨_,ho,rfl⟩ ⟨_,FD,rfl⟩ Jr HN (FT _ _) (Gr l b xs ys n n2 dd OF sl JM e lt)
  ⟨ho,FD,he,(fun x=>nomatch x),hq⟩ hu
theorem vO(xs ys:List D):∀ (k i:Nat),i<=min xs.length ys.length->min xs.length ys.length - i=k ->
  uL (fun j=>ip (xs.getD j .dI) (ys.getD j .dI)) (fun j=>yJ (xs.getD j .dI) (ys.getD j .dI)) xs.length ys.length k i=mL (xs.drop i) (ys.drop i)
 | 0,i,hi,hk=>by
  rw [uL];by_cases c:xs.length<=ys.length
  ·have e1:xs.drop i=[]:=kK (by lia);rw [e1];cases q:ys.drop i with
   | nil =>
    have:=congrArg dO q;rw [cW,aq] at this;exact decide_eq_false (by lia)
   | cons y r =>
    have:=congrArg dO q;rw [cW,af] at this;exact decide_eq_true (by lia)
  ·have e1:ys.drop i=[]:=kK (by lia);rw [e1];cases q:xs.drop i with
   | nil =>
    have:=congrArg dO q;rw [cW,aq] at this;exact decide_eq_false (by lia)
   | cons y r=>exact decide_eq_false (by lia)
 | k+1,i,hi,hk=>by
  have l1:i < xs.length:=by lia
  have l2:i < ys.length:=by lia
  rw [uL,gv l1,gv l2,qo,vO xs ys k (i+1) (by lia) (by lia)];have g1:xs.getD i .dI=xs[i]:=by rw [cf,bf l1]; rfl
  have g2:ys.getD i .dI=ys[i]:=by rw [cf,bf l2]; rfl
  rw [g1,g2]
theorem lz{h:Heap}:∀ {ds:List D} {vs:List Value} {as:List Addr},jH h vs (oW ds) as->∀ j (hj:j < vs.length),∃ bs,Reads h vs[j] (pd (ds.getD j .dI)) bs
 | [],vs,as,r,j,hj=>by cases r; exact absurd hj (FV _)
 | d :: ds,_,_,.cons (v:=v) (vs:=vs) r1 r2,j,hj=>by
  cases j with
  | zero=>exact⟨_,r1⟩
  | succ j=>exact lz r2 j (by simpa using hj)
theorem readsAll_len{h:Heap}:∀ {ds:List D} {vs:List Value} {as:List Addr},jH h vs (oW ds) as->vs.length=ds.length
 | [],_,_,r=>by cases r; rfl
 | d :: ds,_,_,.cons r1 r2=>by rw [af,af,readsAll_len r2]
theorem sJ:∀ {ds:List D},vq ds=true->∀ j,nr (ds.getD j .dI)=true
 | [],_,j=>by rw [List.getD_nil]; rfl
 | d :: ds,h,0=>by
  have h:(nr d&&vq ds)=true:=h;rw [aS] at h; simpa using h.1
 | d :: ds,h,j+1=>by
  have h:(nr d&&vq ds)=true:=h;rw [aS] at h; simpa using sJ h.2 j
theorem mq:∀ (ds:List D) (j:Nat),(pd (ds.getD j .dI)).depth<=dB (oW ds)
 | [],j=>by rw [List.getD_nil]; exact aQ _
 | d :: ds,0=>by
  show (pd d).depth<=dB (pd d :: oW ds);simp only [dB]; lia
 | d :: ds,j+1=>by
  have:=mq ds j;show (pd (ds.getD j .dI)).depth<=dB (pd d :: oW ds);simp only [dB]; lia
theorem yZ:∀ {l:List si} {ds:List D},gV l ds=true->∀ j,j < ds.length->∃ s∈l,eA s (ds.getD j .dI)=true/\l[j]?=some s
 | [],[],_,j,hj=>absurd hj (FV _)
 | [],_ :: _,h,_,_=>by cases h
 | _ :: _,[],h,_,_=>by cases h
 | s :: l,d :: ds,h,0,_=>by
  have h:(eA s d&&gV l ds)=true:=h;rw [aS] at h;exact⟨s,by simp,by simpa using h.1,by simp⟩
 | s :: l,d :: ds,h,j+1,hj=>by
  have h:(eA s d&&gV l ds)=true:=h;rw [aS] at h;obtain⟨s',h1,h2,h3⟩:=yZ h.2 j (by simpa using hj);exact⟨s',aK _ h1,by simpa using h2,by simpa using h3⟩
theorem y0:∀ {s:si} {ds:List D},gh s ds=true->∀ j,j < ds.length->eA s (ds.getD j .dI)=true
 | s,[],_,j,hj=>absurd hj (FV _)
 | s,d :: ds,h,0,_=>by
  have h:(eA s d&&gh s ds)=true:=h;rw [aS] at h; simpa using h.1
 | s,d :: ds,h,j+1,hj=>by
  have h:(eA s d&&gh s ds)=true:=h;rw [aS] at h; simpa using y0 h.2 j (by simpa using hj)
theorem IS{A:cI}{s:au}{xs ys:List D}{vs ws:Array Value}{as bs:List Addr}(r1:jH s.heap vs.toList (oW xs) as)(r2:jH s.heap ws.toList (oW ys) bs)(n1:vq xs=true)(n2:vq ys=true)
  (hu:A.units+dB (oW xs) < cLine) (j:Nat) (h1:j < vs.size) (h2:j < ws.size):EqAt A s vs[j] ws[j] (ip (xs.getD j .dI) (ys.getD j .dI)):=by
 obtain⟨Wq,q1⟩:=lz r1 j (by simpa using h1);obtain⟨TJ,q2⟩:=lz r2 j (by simpa using h2);have m1:=sJ n1 j;have m2:=sJ n2 j;have dp:=mq xs j;have:=eqAt_reads (pd (xs.getD j .dI)) (pd (ys.getD j .dI)) A s _ _ _ _ q1 q2 (kB _ m1) (kB _ m2) (by lia);rw [v5 _ _ m1 m2] at this;simpa using this
theorem GW:∀ (n:Nat) (sh:si) (a b:D) (A:cI) (s:au) (u v:Value) (as bs:List Addr),(pd a).depth<=n->eA sh a=true->eA sh b=true->nr a=true->nr b=true->Reads s.heap u (pd a) as->Reads s.heap v (pd b) bs->A.units+n < cLine->Dj A s u v (yJ a b):=by
 intro n;induction n using Nat.strongRecOn with
 | _ n ih =>
 intro sh a b A s u v as bs hn h1 h2 n1 n2 r1 r2 hu;cases sh with
 | int =>
  first | obtain⟨_,rfl⟩:=dU h1 | obtain⟨_,rfl⟩:=dQ h1 | obtain⟨_,rfl⟩:=dS h1
  first | obtain⟨_,rfl⟩:=dU h2 | obtain⟨_,rfl⟩:=dQ h2 | obtain⟨_,rfl⟩:=dS h2
  cases r1; cases r2;intro prog w E Q hq;exact HT.yq A s _ _ _ _ prog w E Q hq
 | tup l =>
  first | obtain⟨_,rfl⟩:=dU h1 | obtain⟨_,rfl⟩:=dQ h1 | obtain⟨_,rfl⟩:=dS h1
  first | obtain⟨_,rfl⟩:=dU h2 | obtain⟨_,rfl⟩:=dQ h2 | obtain⟨_,rfl⟩:=dS h2
  rename_i xs ys;have n1:vq xs=true:=n1;have n2:vq ys=true:=n2;cases r1 with
  | tuple k1 k2 k3 k4 =>
   cases r2 with
   | tuple m1 m2 m3 m4 =>
    rename_i p o vs c p' o' ws c';have hd:(pd (.tup xs)).depth=dB (oW xs)+1:=rfl;obtain⟨n',rfl⟩:∃ n',n=n'+1:=⟨n - 1,by lia⟩;have z1:=readsAll_len k4;have z2:=readsAll_len m4;have e1:vs.size=xs.length:=by simpa using z1
    have e2:ws.size=ys.length:=by simpa using z2
    have base:=GV (A:=A) (s:=s) (e:=fun j=>ip (xs.getD j .dI) (ys.getD j .dI)) (lt:=fun j=>yJ (xs.getD j .dI) (ys.getD j .dI)) ⟨_,k1,k2,_,k3⟩ ⟨_,m1,m2,_,m3⟩ (by lia) (fun j j1 j2=>by
     refine⟨IS k4 m4 n1 n2 (by show A.units+1+_ < _; lia) j j1 j2,?_⟩;obtain⟨Wq,q1⟩:=lz k4 j (by simpa using j1);obtain⟨TJ,q2⟩:=lz m4 j (by simpa using j2);obtain⟨sj,hsj,g1,g2⟩:=yZ (l:=l) (ds:=xs) h1 j (by lia);obtain⟨sj',acb,g1',g2'⟩:=yZ (l:=l) (ds:=ys) h2 j (by lia);rw [g2] at g2'; cases g2';have dp:=mq xs j;have:=ih n' (by lia) sj (xs.getD j .dI) (ys.getD j .dI) A.in1 s _ _ _ _ (by lia) g1 g1' (sJ n1 j) (sJ n2 j) q1 q2 (by show A.units+1+n' < cLine; lia);simpa using this)
    have fin:=vO xs ys (min xs.length ys.length) 0 (cg _) rfl;rw [e1,e2,fin] at base;exact base
 | lst l =>
  first | obtain⟨_,rfl⟩:=dU h1 | obtain⟨_,rfl⟩:=dQ h1 | obtain⟨_,rfl⟩:=dS h1
  first | obtain⟨_,rfl⟩:=dU h2 | obtain⟨_,rfl⟩:=dQ h2 | obtain⟨_,rfl⟩:=dS h2
  rename_i xs ys;have n1:vq xs=true:=n1;have n2:vq ys=true:=n2;cases r1 with
  | list k1 k2 k3 k4 =>
   cases r2 with
   | list m1 m2 m3 m4 =>
    rename_i p o vs c p' Wq o' ws c' TJ;have hd:(pd (.da xs)).depth=dB (oW xs)+1:=rfl;obtain⟨n',rfl⟩:∃ n',n=n'+1:=⟨n - 1,by lia⟩;have z1:=readsAll_len k4;have z2:=readsAll_len m4;have e1:vs.size=xs.length:=by simpa using z1
    have e2:ws.size=ys.length:=by simpa using z2
    have base:=Ka (A:=A) (s:=s) (e:=fun j=>ip (xs.getD j .dI) (ys.getD j .dI)) (lt:=fun j=>yJ (xs.getD j .dI) (ys.getD j .dI)) ⟨_,k1,k2,_,k3⟩ ⟨_,m1,m2,_,m3⟩ (by lia) (fun j j1 j2=>by
     refine⟨IS k4 m4 n1 n2 (by show A.units+1+_ < _; lia) j j1 j2,?_⟩;obtain⟨Wq,q1⟩:=lz k4 j (by simpa using j1);obtain⟨TJ,q2⟩:=lz m4 j (by simpa using j2);have dp:=mq xs j;have:=ih n' (by lia) l (xs.getD j .dI) (ys.getD j .dI) A.in1 s _ _ _ _ (by lia) (y0 (s:=l) (ds:=xs) h1 j (by lia)) (y0 (s:=l) (ds:=ys) h2 j (by lia)) (sJ n1 j) (sJ n2 j) q1 q2 (by show A.units+1+n' < cLine; lia);simpa using this)
    have fin:=vO xs ys (min xs.length ys.length) 0 (cg _) rfl;rw [e1,e2,fin] at base;exact base
end K2
end
section
namespace K2
open PySem PySem.Spec PyProof.Rows L2 PySem.W
mutual
theorem DW{h h':Heap}(hk:∀ b o vs n,o.data=.seq vs n->h.get? b=some o->h'.get? b=some o):∀ (d:D) {v:Value} {as:List Addr},nr d=true->Reads h v (pd d) as->Reads h' v (pd d) as
 | .dI,_,_,_,r=>by cases r; exact .none
 | .bl b,_,_,_,r=>by cases r; exact .bool b
 | .int i,_,_,_,r=>by cases r; exact .int i _
 | .str x,_,_,_,r=>by cases r; exact .str x _
 | .tup ds,_,_,n,r=>by
  cases r with
  | tuple h1 h2 h3 h4=>exact .tuple (hk _ _ _ _ h3 h1) h2 h3 (lA hk ds n h4)
 | .da ds,_,_,n,r=>by
  cases r with
  | list h1 h2 h3 h4=>exact .list (hk _ _ _ _ h3 h1) h2 h3 (lA hk ds n h4)
 | .oS _,_,_,n,_=>by cases n
 | .ref _,_,_,n,_=>by cases n
 | .exc _,_,_,n,_=>by cases n
theorem lA{h h':Heap}(hk:∀ b o vs n,o.data=.seq vs n->h.get? b=some o->h'.get? b=some o):∀ (ds:List D) {vs:List Value} {as:List Addr},vq ds=true->jH h vs (oW ds) as->jH h' vs (oW ds) as
 | [],_,_,_,r=>by cases r; exact .nil
 | d :: ds,_,_,n,r=>by
  have n:(nr d&&vq ds)=true:=n;rw [aS] at n;cases r with
  | cons r1 r2=>exact .cons (DW hk d n.1 r1) (lA hk ds n.2 r2)
end
mutual
theorem LZ(G:Gp):∀ (sh:si) (d:D) (n:Nat),eA sh d=true->TF sh<=n->Sn G n d d
 | .int,.int i,n,_,_=>.int i
 | .tup l,.tup ds,n,h,hn=>by
  have hn:NM l+1<=n:=hn;obtain⟨m,rfl⟩:∃ m,n=m+1:=⟨n - 1,by lia⟩;exact HZ G l ds m h (by lia)
 | .lst s,.da ds,n,h,hn=>by
  have hn:TF s+1<=n:=hn;obtain⟨m,rfl⟩:∃ m,n=m+1:=⟨n - 1,by lia⟩;exact Ia G s ds m h (by lia)
theorem HZ(G:Gp):∀ (l:List si) (ds:List D) (m:Nat),gV l ds=true->NM l<=m->Sn G (m+1) (.tup ds) (.tup ds)
 | [],[],m,_,_=>.BX
 | s :: l,d :: ds,m,h,hm=>by
  have h:(eA s d&&gV l ds)=true:=h;have hm:max (TF s) (NM l)<=m:=hm;rw [aS] at h;exact .l8 (LZ G s d m h.1 (by lia)) (HZ G l ds m h.2 (by lia))
theorem Ia(G:Gp):∀ (s:si) (ds:List D) (m:Nat),gh s ds=true->TF s<=m->Sn G (m+1) (.da ds) (.da ds)
 | s,[],m,_,_=>.DR
 | s,d :: ds,m,h,hm=>by
  have h:(eA s d&&gh s ds)=true:=h;rw [aS] at h;exact .wH (LZ G s d m h.1 hm) (Ia G s ds m h.2 hm)
end
section
variable {X:Cx}
theorem Kb{x:D}{G:Gp}{zs:List D}(ty:BW x G)(hi:itemsOf x G=some zs):nI x G=some zs:=by
 cases x <;> first | exact ty.elim | exact hi
end
end K2
end
section
namespace K2
open PySem PySem.Spec PyProof.Rows L2
section
variable {X:Cx}
theorem NR{pins:List (Addr×Obj)}{σ:L2.St}{H:Hp}{s:au}{G:Gp}{x:V}{d:D}{a0:List (D×D)}(I:Inv X pins σ H s)(ab:jQ X.K H G)(rd:bS X.K H x d)(hd:Be d G=some a0)(h1:A2 a0=true) :
  ∃ a kv vs,x=.ref a/\oO X.K H kv a0/\kv.length<=bb/\(a == gQ)=false/\KV kv vs/\s.heap.DictOf (eV X.prog X.w) a vs:=by
 have empty:∀ (a:Addr) (kv:List (List Key×V)),fe X.prog X.w H s.heap a (.dT kv)->pH X.K H kv a0 ->
   ∃ a' kv vs,V.ref a=.ref a'/\oO X.K H kv a0/\kv.length<=bb/\(a' == gQ)=false/\KV kv vs/\s.heap.DictOf (eV X.prog X.w) a' vs:=by
  intro a kv ok rs;cases rs with
  | nil =>
   obtain⟨z,hm,xs,rel,o,es,ep,ho,hx,Ks,hl,nd⟩:=ok;have hv:xs=[]:=by cases rel; rfl
   subst hv;have he:es=#[]:=by simpa using hl
   subst he;exact⟨a,[],[],rfl,.nil,cg _,hm,.nil,o,#[],ep,ho,hx,Ks,(fun _ h=>by simp at h),.nil,c9⟩
  | cons _ _=>simp [A2,dw] at h1
 cases rd with
 | pW hq rs =>
  cases (show some _=some a0 from hd);obtain⟨z,hm,vs,rel,dd⟩:=se I.cF (.inr ⟨_,hq⟩);exact⟨_,_,vs,rfl,rs,z,hm,rel,dd⟩
 | pV hq rs =>
  cases (show some _=some a0 from hd);exact empty _ _ (I.cF _ _ hq).2 rs
 | ref a =>
  unfold Be at hd;dsimp only at hd;split at hd
  ·rename_i FC hg;cases hd;rcases ab a _ hg with ⟨kv,hv,rs⟩ | ⟨kv,hv,rs⟩
   ·obtain⟨z,hm,vs,rel,dd⟩:=EL I.cF hv;exact⟨a,kv,vs,rfl,rs,z,hm,rel,dd⟩
   ·exact empty a _ (I.cF _ _ hv) rs
  ·cases hd
 | _=>cases hd
theorem Hx:tE X (.type "dict") Jj:=by
 intro pins s σ H G xs ds us Q I ab rx rd q;unfold Jj at q;split at q
 ·rename_i x;obtain⟨a0,hd,h1,hl,q⟩:=q;obtain⟨v,rfl,r⟩:=rd.one;obtain⟨a,kv,vs,rfl,rs,z,hm,rel,dd⟩:=NR I ab r hd h1;obtain⟨u,rfl,ru⟩:=rx.one;cases ru;refine kt_call_dict hm dd (by rw [<-rel.length]; exact z) fun h' P6 hs=>?_;have hp:H s.heap.objs.size=none:=I.cF.fresh (aQ _);refine⟨.ref _,upd H s.heap.objs.size (.dK kv),.ref _,_,I.laid (a:=s.heap.objs.size) (o:=.dK kv) (t':=s.toks) (fun b q hq=>?_) (aQ _) (NN z (beq_eq_false_iff_ne.mpr (jD (bq I.big))) rel P6),.new ab hp (.dk bV (rs.mono (.new hp))),rfl,.ref _,q _ (ab.free hp)⟩;exact(hs.2 b (bq (aL hq))).trans (aA _ hq)
 ·exact q.elim
theorem PA:KQ X "dict.get" MR:=by
 intro pins s σ H G x d xs ds v us Q I ab rx rd O5 Mc q;unfold MR at q;split at q
 ·rename_i k d';obtain⟨a0,hd,h1,hk,q⟩:=q;obtain⟨w,w2,rfl,O6,WU⟩:=Mc.two;obtain⟨u1,u2,rfl,ru1,WW⟩:=vals2 O5;obtain⟨a,kv,vs,rfl,rs,z,hm,rel,dd⟩:=NR I ab rd hd h1;cases rx;obtain⟨kk,rfl⟩:=xR hk;have ey:=xG O6;subst ey;refine call_meetsIn Js dd.typeIs PySem.F.entry_dict_get (PySem.F.args_dict_get_3 _ _ _) (meets_dict_get_default (eV X.prog X.w) a (A4 ru1) hm u2) ⟨_,dd.mapOf,?_⟩;have ro:=(rel.val kk).getD WW;rcases rs.look kk with ⟨v',d2,e1,e2,r⟩ | ⟨e1,e2⟩
  ·rw [e1] at ro;rw [e2] at q;exact⟨v',H,d2,G,I.tok _,.refl ab,ro,r,q⟩
  ·rw [e1] at ro;rw [e2] at q;exact⟨w2,H,d',G,I.tok _,.refl ab,ro,WU,q⟩
 ·exact q.elim
end
end K2
end
section
namespace L2
open PySem PySem.Spec PyProof.Rows
theorem J2:typeLookup (.type "list_reverseiterator") "__len__" = pure none:=by rw [typeLookup_type,builtinLookup_eq_fast]; kernel_rfl
theorem Nj:typeLookup (.type "list_reverseiterator") "__length_hint__" = pure (some (.builtin "list_reverseiterator.__length_hint__")):=by rw [typeLookup_type,builtinLookup_eq_fast]; kernel_rfl
section
variable {prog:bx} {w:World} {A:cI} {E:Value->au->Prop} {s:au}
theorem MV{I l:Addr}{items:Array Value}{Q:Value->au->Prop}(hh:A.handled=none)(hl:s.heap.IsList l items)(hI:s.heap.IsRevIter I l ((items.size:Int) - 1))(pD:l≠I)(hn:items.size<=bb)
  (hQ:∀ h' tk zw c',(∀ b o,b≠I->s.heap.get? b=some o->h'.get? b=some o)->h'.get? s.heap.objs.size=some { cls:=.type "list",dict:=none,data:=.seq zw c',slots:=#[] }->ItemsOf (fun i v=>items[items.size - 1 - i]?=some v) zw items.size->Q (.ref s.heap.objs.size) { s with heap:=h',toks:=tk }) :
  wpAny (model prog w) A (call (.type "list") [.ref I]) Q E s:=by
 have lI:I < s.heap.objs.size:=by obtain⟨o,e,_⟩:=hI; exact aL e
 have ll:l < s.heap.objs.size:=by obtain⟨o,e,_⟩:=hl; exact aL e
 refine callType_codes (Q₁:=fun obj dh=>obj=.ref s.heap.objs.size/\dh={ s with heap:=s.heap.push { cls:=.type "list",data:=.seq #[] } }) PySem.F.called_list (PySem.F.typeCall_list_1 _) PySem.F.entry_list_init
  (code_list_new _ ⟨rfl,rfl⟩) fun obj dh mO=>?_
 obtain⟨rfl,rfl⟩:=mO;have hS:(s.heap.push { cls:=.type "list",data:=.seq #[] }).get? s.heap.objs.size=some { cls:=.type "list",data:=.seq #[] }:=bE _ rfl;refine⟨⟨_,hS,rfl⟩,PySem.F.args_list_init_2 _ _,?_⟩;show wpAny _ _ (do let old ← BA (.ref s.heap.objs.size); Builtin.List.listUpdate (.ref s.heap.objs.size) (fun _=>#[]); letGo old.toList.reverse; lb (.ref s.heap.objs.size) (.ref I) .none) _ _ _;refine aw ?_;unfold BA;refine aw (kh hS rfl (aZ ?_));show wpAny _ _ (Lj s.heap.objs.size (fun _=>#[]) >>= fun _=>letGo (#[]:Array Value).toList.reverse >>= fun _=>lb (.ref s.heap.objs.size) (.ref I) .none) _ _ _;refine aw (ib hS rfl ?_);have QS:=lW (fC (fun _=>(#[]:Array Value))) hS rfl;have VW:∀ b o,s.heap.get? b=some o->((s.heap.push { cls:=.type "list",data:=.seq #[] }).update s.heap.objs.size (fC (fun _=>(#[]:Array Value)))).get? b=some o :=
  fun b o e=>(cp _ _ (Ds (aL e))).trans (aA _ e)
 refine aw (ky ?_);have W:=Walks.listRev (prog:=prog) (w:=w) (A:=A.in1.in1) hh I l pD items;have st:(fun (i:Nat) (h:Heap)=>i<=items.size/\h.IsRevIter I l ((items.size:Int) - 1 - (i:Int))/\h.IsList l items) 0 ((s.heap.push { cls:=.type "list",data:=.seq #[] }).update s.heap.objs.size (fC (fun _=>(#[]:Array Value)))) :=
  ⟨cg _,by have:=hI.at (fun o e=>VW I o e); simpa using this,hl.at fun o e=>VW l o e⟩
 generalize (s.heap.push { cls:=.type "list",data:=.seq #[] }).update s.heap.objs.size (fC (fun _=>(#[]:Array Value)))=h2 at QS VW st;have hT:Shared.TypeIs { s with heap:=h2 } (.ref I) "list_reverseiterator":=st.2.1.typeIs;have Tx:s.heap.objs.size≠I:=Ds lI;have Vp:s.heap.objs.size∉[I,l]:=by simp only [mX,dg,or_false,not_or]; exact⟨Tx,Ds ll⟩
 unfold lb;refine aw (wpAny_typeOf hT ?_);have h1:zP (.ref s.heap.objs.size) (.ref I)=false:=by simp [zP,Tx]
 rw [if_neg (by rw [h1]; decide)];refine aw (wpAny_pyIter_revIter (s:={ s with heap:=h2 }) st.2.1 ?_);refine aw (dv ?_);unfold Builtin.List.listLengthHint;refine aw (wpAny_specialOf hT J2 ?_);show wpAny _ _ (specialOf (eP I) (vw "__length_hint__") >>= _) _ _ _;refine aw (wpAny_specialOf hT Nj ?_);generalize Ld:("list_reverseiterator.__length_hint__" : String)=id0
 wp_delta
 rw [show splitId id0=some ("list_reverseiterator","__length_hint__") from by subst Ld; decide +kernel];subst Ld;refine aw (wpAny_isInstance (b:=true) hT (by rw [isSubtype_type]; kernel_rfl) ?_);refine aZ ?_;rw [if_neg (by decide)];obtain⟨c₀,Vo⟩:∃ c₀,h2.get? s.heap.objs.size=some { cls:=.type "list",data:=.seq #[] c₀ }:=⟨_,QS⟩;refine aZ ⟨fN PySem.F.plain_extend_loop _,codeAny_extend_loopS W.toS hn _ Vp _ items.size 0 _ #[] c₀ rfl (cg _) st Vo (ItemsOf.nil _) fun s' zw c' hm YJ Nt=>?_⟩;rw [Moved.eq_with hm];refine⟨rfl,hQ s'.heap s'.toks zw c' (fun b o hb e=>hm.heap b o (fun Sy=>?_) (VW b o e)) YJ Nt⟩;rcases List.mem_cons.mp Sy with e' | Sy
 ·exact absurd (aL e) (by rw [e']; exact ic _)
 ·exact hb (List.mem_singleton.mp Sy)
end
end L2
namespace K2
open PySem PySem.Spec PyProof.Rows L2 PySem.W
section
variable {X:Cx}
variable {es:List Expr} {t:TF2} {e v1 v2:Expr} {te:eZ} {pos:Pos} {c:Str} {k:Nat}
theorem DH:∀ {vs:List V} {us:List Value} {v:V} {u:Value},Vals vs us->RelV v u->Vals (vs++[v]) (us++[u])
 | _,_,_,_,.nil,h=>.cons h .nil
 | _,_,_,_,.cons a r,h=>.cons a (DH r h)
theorem DG:∀ {vs:List V} {us:List Value},Vals vs us->Vals vs.reverse us.reverse
 | _,_,.nil=>.nil
 | _,_,.cons h r=>by rw [qT,qT]; exact DH (DG r) h
theorem DS{K:ag}{H:Hp}:∀ {vs:List V} {ds:List D},a4 K H vs ds->a4 K H vs.reverse ds.reverse
 | _,_,.nil=>.nil
 | _,_,.cons h r=>by rw [qT,qT]; exact(DS r).append (.cons h .nil)
theorem Fc:dF "reversed" = some (.type "reversed"):=by decide +kernel
variable {a:Expr} {ta:eZ} {p p2 Mq:Pos}
theorem MB (hc:X.calm=true) (hg:Gl X "list") (hm:X.mg "list" = none) (Yw:Gl X "reversed") (Yr:X.mg "reversed" = none) (ha:gR X a ta) (hs:autoParam (aY [a] X.env=[(false,eval a X.env)]) Ar._auto_1)
  (QJ:autoParam (aY [.Call (.Name "reversed" p2) [a] [] Mq] X.env=[(false,eval (.Call (.Name "reversed" p2) [a] [] Mq) X.env)]) Ar._auto_1) :
  gR X (.Call (.Name "list" p) [.Call (.Name "reversed" p2) [a] [] Mq] [] pos) (NY ta):=by
 intro E pins s σ H τ G Q hE I h;refine bZ (kA I.inv hg hm x3 ?_);refine e7 ?_ QJ rfl;rw [QJ];show wpAny _ _ (vt ((false,eval (.Call (.Name "reversed" p2) [a] [] Mq) X.env) :: fU pos (aY [] X.env))) _ _ s;refine dG ?_;refine bZ (kA I.inv Yw Yr Fc ?_);refine e7 ?_ hs rfl;rw [hs];show wpAny _ _ (vt ((false,eval a X.env) :: fU Mq (aY [] X.env))) _ _ s;refine dG (ki ha hE I h fun x H1 d G1 u s1 I1 m1 r1 km q1=>?_);refine iX ?_;obtain⟨ds,hd,q⟩:=q1;obtain⟨l,vs,its,rfl,rv,rs,hl,hz⟩:=lT I1.inv I1.ab r1 km hd;have hzl:its.toArray.size<=bb:=by rw [aM,<-rv.length]; exact hz
 refine call_reversed_list hl ?_;refine iX ?_;have ll:l < s1.heap.objs.size:=by obtain⟨o,e,_⟩:=hl; exact aL e
 have Ni:(s1.heap.push (revObj l ((its.toArray.size:Int) - 1))).IsList l its.toArray:=hl.at fun o e=>aA _ e;have hI2:(s1.heap.push (revObj l ((its.toArray.size:Int) - 1))).IsRevIter s1.heap.objs.size l ((its.toArray.size:Int) - 1):=⟨_,bE _ rfl,rfl,rfl⟩;have kd:Inv X pins σ H1 { s1 with heap:=s1.heap.push (revObj l ((its.toArray.size:Int) - 1)) }:=I1.inv.kept (t':=s1.toks) fun b o e=>aA _ e;refine MV (s:={ s1 with heap:=s1.heap.push (revObj l ((its.toArray.size:Int) - 1)) }) (I1.inv.ok.hd hc) Ni hI2 (bq ll) hzl fun h' tk zw c' kk YJ Nt=>?_;have eq:zw.toList=its.reverse:=by
  refine List.ext_getElem? fun j=>?_;by_cases hj:j < zw.size
  ·have h1:=Nt.2 j zw[j] (Ga hj);have hs:zw.size=its.length:=by rw [Nt.1]; simp
   rw [List.getElem?_reverse (by lia),Array.getElem?_toList,Ga hj,<-h1];simp
  ·have hs:zw.size=its.length:=by rw [Nt.1]; simp
   rw [gr (by rw [ng]; lia),gr (by rw [xB]; lia)]
 have hsz:(s1.heap.push (revObj l ((its.toArray.size:Int) - 1))).objs.size=s1.heap.objs.size+1:=gw _ _;have hle:s1.heap.objs.size<=(s1.heap.push (revObj l ((its.toArray.size:Int) - 1))).objs.size:=by rw [hsz]; exact yc _
 have hp:H1 (s1.heap.push (revObj l ((its.toArray.size:Int) - 1))).objs.size=none:=I1.inv.cF.fresh hle;refine⟨.ref _,upd H1 _ (.lst vs.reverse),.ref _,_,I1.inv.laid (t':=tk) (fun b u e=>kk b u (bq (aL e)) (aA _ e)) hle ⟨by rw [xB]; exact hz,zw.toList,c',by rw [eq]; exact DG rv,by simpa using YJ⟩,m1.trans (.GJ I1.ab hp (DS rs)),rfl,.ref _,q _ (I1.ab.free hp)⟩
end
end K2
end
section
namespace K2
open PySem PySem.Spec PyProof.Rows L2
section
variable {X:Cx}
noncomputable def RH(neg:Bool):Ff:=fun x y G Q=>match y with
 | .dI=>Mh neg x G Q
 | _=>False
theorem UK{H:Hp}{x:V}{dx:D}{v:Value}(r:RelV x v)(rd:bS X.K H x dx)(h:dx≠.dI):v≠.none:=by
 intro z;subst z;cases rd with
 | dI=>exact h rfl
 | bl b=>cases r
 | int i=>obtain⟨t,e⟩:=r; cases e
 | str x=>obtain⟨t,e⟩:=r; cases e
 | _=>cases r
theorem Pd{neg:Bool}{x:D}{G:Gp}{Q:DK}(h:x≠.dI)(q:Mh neg x G Q):Q (.bl neg) G:=by
 cases x with
 | dI=>exact absurd rfl h
 | _=>exact q
theorem JY:tw X (eO .IsNot) (RH true):=by
 intro pins s σ H G x y dx dy v u Q I ab rx ry dX dY q;unfold RH at q;split at q
 ·cases dY;cases ry;by_cases h:dx=.dI
  ·subst h;cases dX;cases rx;exact isnot_none_none ⟨.bl false,H,.bl false,G,I,.refl ab,rfl,.bl _,q⟩
  ·exact isnot_none_ne (UK rx dX h) ⟨.bl true,H,.bl true,G,I,.refl ab,rfl,.bl _,Pd h q⟩
 ·exact q.elim
variable {a:Expr} {ta:eZ} {pos p:Pos}
end
section
variable {K:ag} {h:Heap} {C:Addr} {zN:List Value} {newId:String}
theorem SW{P:Prop}{m:List Value}{sl:List (Option Value)}{f:Addr->List Value->Option Value->Option Value->Option Value->Option Value->String->Option Value->Bool}
  (q:PySem.W.excIn.match_1 (fun _ _=>Bool) m sl f (fun _ _=>false)=true)
  (k:∀ C' bm k0 k1 k2 k3 n k5,m=.ref C' :: bm->sl=[k0,k1,k2,k3,some (.builtin n),k5]->f C' bm k0 k1 k2 k3 n k5=true->P):P:=by
 have no:false=true->P:=fun z=>bh z;cases m with
 | nil=>exact no q
 | cons v bm =>
  cases v with
  | ref C' =>
   obtain _ | ⟨k0,_ | ⟨k1,_ | ⟨k2,_ | ⟨k3,_ | ⟨_ | w,sl⟩⟩⟩⟩⟩:=sl
   iterate 6 exact no q
   cases w with
   | builtin n =>
    obtain _ | ⟨k5,_ | _⟩:=sl
    ·exact no q
    ·exact k C' bm k0 k1 k2 k3 n k5 rfl rfl q
    ·exact no q
   | _=>exact no q
  | _=>exact no q
inductive Om (h:Heap) (C:Addr) (zN:List Value) (newId:String):Prop
 | mk (bm N nm qn bs hdct sn sub ab col dd k0 k1 k2 k3 k5 mN) (o:h.get? C=some (Lr nm qn C N bs bm hdct sn sub ab col dd k0 k1 k2 k3 k5 newId)) (n:h.Ns N mN) (i:mN "__init__" = none) (t:OwnTail h zN bm):Om h C zN newId
theorem CP(Y:K.In h)(q:cN K C zN newId=true):Om h C zN newId:=by
 unfold cN at q;split at q
 rotate_left
 ·cases q
 rename_i dd cd sl ho;refine SW q fun C' bm k0 k1 k2 k3 n k5 hm hs q=>?_;obtain⟨nm,bs,mro,ns,qn,hd,sn,sub,ab,col,del⟩:=cd;obtain⟨sl⟩:=sl;subst hm hs;have q:(C' == C&&n == newId&&!del&&PySem.W.tailIn K zN bm&&PySem.W.nsOkIn K ns&&bz K ns "__init__" == some none)=true:=q;simp only [aS,beq_iff_eq,Bool.not_eq_true'] at q;obtain⟨⟨⟨⟨⟨e1,e2⟩,e3⟩,e4⟩,e5⟩,e6⟩:=q;subst e1 e2 e3;exact⟨bm,_,_,_,_,_,_,_,_,_,dd,k0,k1,k2,k3,k5,_,Y _ _ ho,.of_isNs (PySem.W.isNs_of_in Y e5),PySem.W.nsMap_none_of_in Y e5 e6,PySem.W.tail_of_in Y e4⟩
end
section
variable {X:Cx} {x:Str} {C:Addr} {zN:List Value} {B newId M7:String} {e0:Expr} {es:List Expr} {np pE pos:Pos} {t:vh}
theorem GB(g:Gp->Gp)(hgg:∀ H G,jQ X.K H G->jQ X.K H (g G))(hg:Gl X x)(hm:X.mg x=some (.ref C))(q:cN X.K C zN newId=true)(FB:ExcBaseFacts B newId M7 zN)(hc:X.calm=true)(ha:x5 X (e0 :: es) t)
  (uS:autoParam ((x == ("__debug__" : Str))=false) Ad._auto_1) (he:autoParam (aY (e0 :: es) X.env=(false,eval e0 X.env) :: aY es X.env) Ar._auto_1) (oC:autoParam ((fU pE (aY es X.env)).any (·.1)=false) Ar._auto_1) :
  Bo X (.Raise (some (.Call (.Name x np) (e0 :: es) [] pE)) none pos) (fun E _ τ G=>t E τ G fun ds G1=>ds.length<=SZ/\E ⟨x,[]⟩ (g G1)):=by
 intro E pins s σ H τ G D hE I h;obtain⟨tl,N,nm,qn,bs,hdct,sn,sub,ab,col,dd,k0,k1,k2,k3,k5,mN,hC,hN,hni,T⟩:=CP I.inv.ok.mod.Lc q;refine wpAny_Raise_call_subT (C:=C) (nm:=nm) (q:=qn) (N:=N) (bs:=bs) (bm:=tl) (hdct:=hdct) (sn:=sn) (sub:=sub) (ab:=ab) (col:=col) (dd:=dd) (k0:=k0) (k1:=k1) (k2:=k2) (k3:=k3) (k5:=k5)
  FB (mN:=mN) (T.hasType FB.hasBase) (I.inv.ok.hd hc) (by rw [he]; show (false||(fU pE (aY es X.env)).any (·.1))=false; rw [oC]; rfl) hni (j9 I.inv hg hm ⟨rfl,?_⟩ uS)
 have w:=rC (Q:=fun us s2=>us.length<=bb/\(∀ b o,X.base.get? b=some o->s2.heap.get? b=some o)/\∀ h' e,Heap.MadeExcOf s2.heap h' e (.ref C) us->X.xe (.ref e) { s2 with heap:=h' }) ha pE hE I h
  fun vs H1 ds G1 us s1 I1 m1 r rd z=>⟨by rw [<-r.length,rd.length,cm]; exact z.1,I1.inv.bk,fun h' e hx=>hE.made pins σ H1 s1 h' e C us ⟨x,[]⟩ _ I1.inv (hgg _ _ I1.ab) hx hm z.2⟩
 rw [he] at w ⊢;exact Ov (gO w (fun us s2 h2=>⟨rfl,h2.1,h2.2.1 _ _ hC,hN.keeps h2.2.1,T.keeps h2.2.1,h2.2.2⟩) fun _ _ y=>y)
theorem yt(hg:Gl X x)(hm:X.mg x=some (.ref C))(q:cN X.K C zN newId=true)(FB:ExcBaseFacts B newId M7 zN)(hc:X.calm=true)(ha:x5 X (e0 :: es) t)
  (uS:autoParam ((x == ("__debug__" : Str))=false) Ad._auto_1) (he:autoParam (aY (e0 :: es) X.env=(false,eval e0 X.env) :: aY es X.env) Ar._auto_1) (oC:autoParam ((fU pE (aY es X.env)).any (·.1)=false) Ar._auto_1) :
  Bo X (.Raise (some (.Call (.Name x np) (e0 :: es) [] pE)) none pos) (xU x t):=GB id (fun _ _ z=>z) hg hm q FB hc ha uS he oC
end
theorem _root_.Internal.L2.fe.there{P:bx}{w:World}{H:Hp}{h:Heap}{a:Addr}{o:HO}(x:fe P w H h a o):∃ ob,h.get? a=some ob:=by
 cases o with
 | lst xs=>obtain⟨_,_,_,_,e⟩:=x; exact⟨_,e⟩
 | tup xs=>obtain⟨_,_,_,ob,e,_⟩:=x; exact⟨_,e⟩
 | dK a0=>obtain⟨_,_,_,_,o,_,_,e,_⟩:=x; exact⟨_,e⟩
 | dT a0=>obtain⟨_,_,_,_,o,_,_,e,_⟩:=x; exact⟨_,e⟩
 | set S n=>obtain⟨o,_,_,_,e,_⟩:=x; exact⟨_,e⟩
 | ins C dx fs=>obtain⟨_,_,_,e,_⟩:=x; exact⟨_,e⟩
 | own y=>exact x
 | xd fs=>obtain⟨_,⟨_,_,_,e,_⟩,_⟩:=x; exact⟨_,e⟩
 | Ul lo hi=>obtain⟨_,_,_,e⟩:=x; exact⟨_,e⟩
 | jO ob u=>obtain⟨e,_⟩:=x; exact⟨_,e⟩
 | rD ps=>obtain⟨_,e,_⟩:=x; exact⟨_,e⟩
 | met f y=>exact⟨_,x⟩
 | ext φ=>obtain⟨_,e,_⟩:=x; exact e
theorem GG{X:Cx}{pins:List (Addr×Obj)}{σ:L2.St}{H1:Hp}{s1:au}{h1 h' B:Heap}(I:Inv X pins σ H1 s1)(zZ:X.stack=X.env :: X.outer)(OC:X.env.frame=some X.env.locals)(hex:X.ex=[])
  (UR:∀ b o,s1.heap.get? b=some o->h1.get? b=some o) (hB:∀ b o,s1.heap.get? b=some o->b∉rH X.stack->(X.ie.heap.get? b≠none\/H1 b≠none)->B.get? b=some o) (iK:B.StaysIn h') (up:h1.UpToSlots h') :
  Un (rH X.outer) [] X.AG H1 X.ie.heap h'/\pj X.prog X.w H1 h'/\∀ b o,h'.get? b=some o->b∉rH X.outer->(X.ie.heap.get? b≠none\/H1 b≠none)->B.get? b=some o:=by
 have efr:rH X.stack=X.env.locals :: rH X.outer:=by rw [zZ]; unfold rH; rw [Jv OC]
 have MG:∀ b,b∉rH X.outer->b≠X.env.locals->b∉rH X.stack:=fun b h1 h2 h3=>by
  rw [efr] at h3;rcases List.mem_cons.mp h3 with e | e
  ·exact h2 e
  ·exact h1 e
 have old:∀ b o,X.ie.heap.get? b=some o->b≠X.env.locals:=fun b o q=>bq (bg (aL q) I.ok.above);have tr:∀ b u,H1 b=some u->b∉rH X.stack:=fun b u q hb=>by rw [I.BY b hb] at q; cases q
 have nx:∀ b:Addr,b∉X.ex:=fun b=>by rw [hex]; exact dg
 have frame:∀ b o,b∈rH X.outer->s1.heap.get? b=some o->∃ sl,h'.get? b=some { o with slots:=sl }:=fun b o hb e=>by
  obtain⟨_,o2,e2,nf⟩:=I.stack.mem (show b∈rH X.stack by rw [efr]; exact .tail _ hb);rw [e] at e2; cases e2;exact up b o (UR b o e) nf
 have go:∀ b o,s1.heap.get? b=some o->b∉rH X.stack->(X.ie.heap.get? b≠none\/H1 b≠none)->h'.get? b=some o:=fun b o e n c=>iK b o (hB b o e n c);refine⟨⟨fun b o q n hb _=>?_,fun b o q n hb _=>?_,fun b o q n _=>I.base.free b o q n (nx b),fun b o q _=>?_,I.base.sD,I.base.rG,I.base.nh,I.base.uB⟩,fun a o q=>?_,fun b o e hb hc=>?_⟩
 ·exact go b o (I.base.keep b o q n hb (nx b)) (MG b hb (old b o q)) (.inl (by rw [q]; simp))
 ·obtain⟨sl,e⟩:=I.base.slot b o q n hb (nx b);obtain⟨JM,e2⟩:=frame b _ hb e;exact⟨JM,e2⟩
 ·obtain⟨o',e⟩:=I.base.there b o q (nx b);by_cases hb:b∈rH X.outer
  ·obtain⟨JM,e2⟩:=frame b _ hb e; exact⟨_,e2⟩
  ·exact⟨o',go b o' e (MG b hb (old b o q)) (.inl (by rw [q]; simp))⟩
 ·refine(I.cF a o q).iK (fun b u hb e=>?_) (fun b r=>r) (fun b xs r=>r);rcases hb with rfl | hb
  ·exact go b u e (tr b _ q) (.inr (by rw [q]; simp))
  ·exact go b u e (tr b _ hb) (.inr (by rw [hb]; simp))
 ·have n:b∉rH X.stack:=by
   rcases hc with hc | hc
   ·cases q:X.ie.heap.get? b with
    | none=>exact absurd q hc
    | some o0=>exact MG b hb (old b o0 q)
   ·cases q:H1 b with
    | none=>exact absurd q hc
    | some u=>exact tr b u q
  have:∃ o1,s1.heap.get? b=some o1:=by
   rcases hc with hc | hc
   ·cases q:X.ie.heap.get? b with
    | none=>exact absurd q hc
    | some o0=>exact I.base.there b o0 q (nx b)
   ·cases q:H1 b with
    | none=>exact absurd q hc
    | some u=>exact(I.cF b u q).there
  obtain⟨o1,e1⟩:=this;have e2:=go b o1 e1 n hc;rw [e] at e2; cases e2;exact hB b o e1 n hc
section
variable {P:bx} {w:World} {K:ag} {mg:Str->Option Value} {base:Heap} {N:List Str} {qual:Str} {scope:Scope} {f:Addr} {cd:Value} {A:cI} {outer:List Env} {s:au} {H:Hp} {Ek:XK} {E2:jz}
theorem QE(ke:∀ ex C H' G',E2 ex G'->jQ K H' G'->mg ex.cls=some (.ref C)->Ek (.ref C) none H'):Lk (qF (tF P w) P w K mg base N qual scope f cd A outer s H Ek) E2 where
 made:=fun pins σ H1 s1 h1 a C args ex G1 I Vk hx hm hE=>by
  show wpAny (model P w) _ (leaving _ (.ref a)) _ _ _;refine wpAny_leaves_madeW (h:=s1.heap) (base:=PySem.W.hideAll s1.heap (rH (qF (tF P w) P w K mg base N qual scope f cd A outer s H Ek).stack)) I.ok.frames rfl (fun b o q=>Oq _ q)
   (PySem.W.funFrames_hide I.stack fun env he b hb=>List.mem_filterMap.mpr ⟨env,he,hb⟩) hx fun h' t fl tup tn up=>?_
  obtain⟨un,cF,hB⟩:=GG I rfl rfl rfl hx.keeps (fun b o e n _=>Lx _ e n) fl.1 up;refine⟨a,C,t,_,H1,rfl,I.os,I.bare,un,cF,hB,fl,?_,?_,ke ex C H1 G1 hE Vk hm⟩
  ·cases q:H1 a with
   | none=>rfl
   | some u =>
    obtain⟨o,e⟩:=(I.cF a u q).there;have:=hx.new;rw [e] at this; cases this
  ·cases q:s.heap.get? a with
   | none=>rfl
   | some o =>
    obtain⟨o',e⟩:=I.base.there a o q dg;have:=hx.new;rw [e] at this; cases this
 pass:=fun pins σ H1 s1 s' e I PV=>by
  obtain⟨a,C,t,B,H',e1,os,bare,un,cF,hB,fl,ha,hs,ex,C',G2,e2,hm,Vk,hE⟩:=PV;subst e1; cases e2;show wpAny (model P w) _ (leaving _ (.ref a)) _ _ _;have I':Inv (qF (tF P w) P w K mg base N qual scope f cd A outer s H Ek) pins σ H' s':=by
   obtain⟨hh,g,d,t,W9⟩:=s';obtain rfl:W9=s1.os:=os;exact I.call (h':=hh) (g':=g) (d':=d) (t':=t) (ch:=[]) un cF bare (fun b z=>absurd z (by simp))
  refine wpAny_leaves_onW I.ok.frames rfl fl fun h' fl' up=>?_;obtain⟨T4,Eo,hB'⟩:=GG I' rfl rfl rfl (fun _ _ e=>e) (fun b o e n c=>hB b o e n (c.imp (fun z=>by
   cases q:s.heap.get? b with
   | none=>exact absurd q z
   | some o0=>obtain⟨o1,e1⟩:=I.base.there b o0 q dg; rw [e1]; simp) id)) fl'.1 up
  refine⟨a,C,t,B,H',rfl,I'.os,I'.bare,T4,Eo,hB',fl',ha,?_,ke ex C H' G2 hE Vk hm⟩;cases q:s.heap.get? a with
  | none=>rfl
  | some o=>obtain⟨o1,e1⟩:=I.base.there a o q dg; rw [e1] at hs; cases hs
end
noncomputable def lx(K:ag)(mg:Str->Option Value)(sp:gM):Sp:=fun vs H Q E=>∃ ds G Q2 E2,a4 K H vs ds/\jQ K H G/\sp ds G Q2 E2/\(∀ d G' v H',Q2 d G'->Mv K H G H' G'->bS K H' v d->Q v H') /\
 ∀ (ex:Ex) (C:Addr) (H':Hp) (G':Gp),E2 ex G'->jQ K H' G'->mg ex.cls=some (.ref C)->E (.ref C) none H'
theorem PZ{P:bx}{w:World}{K:ag}{mg:Str->Option Value}{base:Heap}{x qual:Str}{st:Stmt}{f:Addr}{fd:ak}{Nn ps:List Str}{k:Nat}{sp:gM}{rd:fh}(F:kg K x qual st f fd)(S:bF Nn ps (aH st))(len:∀ ds G Q E,sp ds G Q E->ds.length=ps.length)
  (hr:∀ ds G Q E,sp ds G Q E->rd E (ends Q) (aX Nn.length ds) G)
  (hb:∀ (iH:Value) (A:cI) (outer:List Env) (s:au) (H:Hp) (E:XK),fk k (A.deeper (rO qual (aH st) s.heap.objs.size f iH))->oN (qF (tF P w) P w K mg base Nn qual (aH st) f iH A outer s H E) (eG st) rd):cU P w K mg base (tF P w) (k+1) f fd ps (lx K mg sp):=by
 obtain⟨oc,od,kV,doc,pm,an,iH,ct,FA,rfl,lk,zL⟩:=F.ex;refine IQ lk zL S ((by rintro vs H Q E ⟨ds,G,Q2,E2,r,ab,q,_⟩; exact by rw [r.length]; exact len _ _ _ _ q)) ?_;rintro A outer s H vs Q E yW ⟨ds,G,Q2,E2,r,ab,q,kk,ke⟩;refine⟨_,Cd (hb iH A outer s H E yW) (QE ke),?_⟩;exact⟨aX Nn.length ds,G,ends Q2,tW r,ab,hr ds G Q2 E2 q,fun iJ H' l7 G' mv z=>kk _ _ _ _ z mv .dI,fun v H' d G' mv RG z=>kk _ _ _ _ z mv RG,fun _ _ z=>z,fun _ _ z=>z⟩
noncomputable def UQ:HO->Bool
 | .tup _=>true
 | .jO _ (.lst _)=>true
 | .jO _ (.dK _)=>true
 | .jO _ (.dT _)=>true
 | .jO _ (.ext _)=>true
 | .jO _ (.xd _)=>true
 | _=>false
noncomputable def hr(H:Hp):Hp:=fun b=>(H b).bind fun o=>if UQ o=true then some o else none
noncomputable def hj(H1 H':Hp):Hp:=fun b=>match H1 b with
 | some o=>some o
 | none=>H' b
section
variable {P:bx} {w:World} {K:ag} {H H1 H':Hp} {h h':Heap} {b:Addr} {o:HO} {fs:List Addr}
theorem Cv(q:hr H b=some o):H b=some o/\UQ o=true:=by
 unfold hr at q;cases e:H b with
 | none=>rw [e] at q; cases q
 | some u =>
  rw [e] at q;simp only [je] at q;by_cases k:UQ u=true
  ·rw [if_pos k] at q; cases q; exact⟨rfl,k⟩
  ·rw [if_neg k] at q; cases q
theorem wO(q:H b=some o)(k:UQ o=true):hr H b=some o:=by unfold hr; rw [q,je,if_pos k]
theorem lM(q:H1 b=some o):hj H1 H' b=some o:=by unfold hj; rw [q]
theorem yY(q:H1 b=none):hj H1 H' b=H' b:=by unfold hj; rw [q]
end
theorem bS.hr{K:ag}{H:Hp}{v:V}{d:D}(h:bS K H v d):bS K (K2.hr H) v d :=
 bS.rec (motive_1:=fun v d _=>bS K (K2.hr H) v d) (motive_2:=fun v d _=>a4 K (K2.hr H) v d) (motive_3:=fun v d _=>oO K (K2.hr H) v d) (motive_4:=fun v d _=>pH K (K2.hr H) v d)
  .dI .bl .int .str (fun h _ r=>.tup (wO h rfl) r) (fun h _ r=>.da (h.imp (fun q=>q.elim fun o q=>⟨o,wO q rfl⟩) id) r) (fun h _ r=>.pW (wO h rfl) r) (fun h _ r=>.pV (wO h rfl) r) .ref (fun h=>.exc (by obtain⟨o,C,h1,h2,h3⟩:=h; exact⟨o,C,wO h1 rfl,h2,h3⟩)) (fun h _ r=>.zM (by obtain⟨o,C,dx,od,fs,h1,h2,h3,h4,h5,h6⟩:=h; exact⟨o,C,dx,od,fs,wO h1 rfl,h2,h3,h4,wO h5 rfl,h6⟩) r) (fun h z _ _ r1 r2=>.AQ (wO h rfl) z r1 r2) .nil (fun _ _ a b=>.cons a b) .nil (fun _ _ a b=>.cons a b) .nil (fun _ _ a b=>.cons a b) h
theorem a4.hr{K:ag}{H:Hp}{v:List V}{d:List D}(h:a4 K H v d):a4 K (K2.hr H) v d :=
 a4.Cq (P:=fun v d=>a4 K (K2.hr H) v d) .nil (fun r _ ih=>.cons r.hr ih) h
section
variable {M:Model} {A:cI} {E:Value->au->Prop}
variable {nm q ZT q':Str} {C N D N':Addr} {bs bm TJ Wo:List Value} {hdct QQ:Bool} {sn Zs:List Str} {sub Uc:List Value} {ab KN:Bool} {col VB:Option Bool} {dd P6:Option Addr} {k0 k1 k2 k3 k5 Z9 Z8 Z7 Z6 Z5:Option Value} {newId R0:String}
theorem J9{h:Heap}{g:Array GenState}{d:Drawn}{t:Nat}{os:lu}{e:Addr}{oe:Obj}{Q:Bool->au->Prop}
  (hC:h.get? C=some (Lr nm q C N bs bm hdct sn sub ab col dd k0 k1 k2 k3 k5 newId)) (hD:h.get? D=some (Lr ZT q' D N' TJ Wo QQ Zs Uc KN VB P6 Z9 Z8 Z7 Z6 Z5 R0))
  (he:h.get? e=some oe) (Np:oe.cls=.ref C) (Nr:Wo.contains (.type "BaseException")=true)
  (hq:Q ((eP C :: bm).contains (.ref D)) ⟨h,g,d,t,os⟩):wpAny M A (excMatches (.ref e) (.ref D)) Q E ⟨h,g,d,t,os⟩:=by
 have hcB:(eP D :: Wo).contains (.type "BaseException")=true:=by rw [List.contains_cons,Nr,Bool.or_true]
 have f:=tc_notTuple;generalize hb:(eP C :: bm).contains (.ref D)=r at hq;unfold excMatches
 repeat (first | (with_reducible refine wpAny_loadPart_at he ?_; rw [Np]) | with_reducible refine wpAny_loadPart_at hD ?_ | (with_reducible refine wpAny_isSubtype_exc hD ?_; rw [hcB]) | (with_reducible refine wpAny_isSubtype_exc hC ?_; rw [hb]) | wp_step)
 cases r
 ·wp_walk; exact hq
 ·wp_walk; exact hq
end
section
variable {X:Cx} {pins:List (Addr×Obj)} {σ:L2.St} {H1:Hp} {G1:Gp} {s1:au} {k:Nat} {f:Addr} {fd:ak} {ps:List Str} {sp:gM}
theorem QD{H':Hp}(ab:jQ X.K H1 G1):Mv X.K H1 G1 (hj H1 H') G1:=by
 have kp:Kp H1 (hj H1 H'):=⟨fun a xs e=>lM e,fun a o u e=>lM e⟩;have KN:jQ X.K (hj H1 H') G1:=fun a g e=>(ab a g e).mono kp (by
  cases q:H1 a with
  | none=>exact absurd q (ab a g e).tracked
  | some o=>exact lM q)
 exact⟨fun a o e n=>⟨lM e,n⟩,fun a n=>by
  cases q:G1 a with
  | none=>exact absurd q n
  | some g=>exact(KN a g q).tracked,KN⟩
end
section
variable {X:Cx} {pins:List (Addr×Obj)} {σ:L2.St} {H H1:Hp} {s s1:au} {h6 B:Heap} {a:Addr} {o:Obj} {u:HO}
theorem Ji{h h':Heap}{c:Addr}{v:Option Value}(up:h.UpToSlots h')(z:h.IsCell c v):h'.IsCell c v:=by
 obtain⟨o,ho,hd⟩:=z;obtain⟨sl,e⟩:=up c o ho (fun vs q=>by rw [hd] at q; cases q);exact⟨_,e,hd⟩
theorem Mt(I:Inv X pins σ H s)(zZ:X.stack=X.env :: X.outer)(OC:X.env.frame=some X.env.locals){p:Addr×Obj}(hp:p∈X.pn++pins):p.1∉rH X.stack:=fun z=>by
 obtain⟨_,_,h3,h4,_⟩:=I.pin p hp;rw [zZ] at z; unfold rH at z; rw [Jv OC] at z;rcases List.mem_cons.mp z with e | e
 ·exact h3 e
 ·exact h4 e
theorem Br(I : Inv X pins σ H s)(I1 : Inv X pins σ H1 s1)(zZ : X.stack = X.env :: X.outer)(OC : X.env.frame = some X.env.locals)(hex : X.ex = [])
    (hB : ∀ b o, s.heap.get? b = some o -> b ∉ rH X.stack -> (s1.heap.get? b ≠ none ∨ H b ≠ none) -> B.get? b = some o) (iK : B.StaysIn h6) (up : s.heap.UpToSlots h6) (tk : Nat) : Inv X pins σ H { s with heap := h6, toks := tk } := by
  have z := GG I zZ OC hex (fun _ _ e => e) (fun b o e n c => hB b o e n (c.imp (fun c => by
    cases q : X.ie.heap.get? b with
    | none => exact absurd q c
    | some o0 => obtain⟨o1, e1⟩ := I1.base.there b o0 q (by rw [hex]; exact dg); rw [e1]; simp) id)) iK up
  exact { ok := I.ok, os := I.os, bare := I.bare
          base := by rw [hex]; exact z.1
          loc := by
            obtain⟨m, hn, hl⟩ := I.loc;exact⟨m, up.ns hn, fun i x v e1 e2 e3 => let ⟨u, r, q⟩ := hl i x v e1 e2 e3; ⟨u, r, q.imp id fun ⟨k, c, e, y⟩ => ⟨k, c, e, Ji up y⟩⟩⟩
          cell := fun x c e => let ⟨v, y⟩ := I.cell x c e; ⟨v, Ji up y⟩
          free := I.free, i9 := I.i9
          pin := fun p hp => by
            obtain⟨h1, h2⟩ := I.pin p hp;exact⟨iK _ _ (hB p.1 p.2 h1 (Mt I zZ OC hp) (.inl (by rw [(I1.pin p hp).1]; simp))), h2⟩
          cF := z.2.1
          len := I.len }
theorem KW(I : Inv X pins σ H s)(ha : H a = none)(hn : X.ie.heap.get? a = none)(nl : a ≠ X.env.locals)(nc : ∀ x c, X.env.cells.lookup x = some c -> c ≠ a)(np : ∀ p ∈ X.pn ++ pins, p.1 ≠ a)(new : fe X.prog X.w (upd H a u) s.heap a u) :
    Inv X pins σ (upd H a u) s := by
  have ne : ∀ b v, H b = some v -> b ≠ a := fun b v q e => by rw [e, ha] at q; cases q
  exact { ok := I.ok, os := I.os, bare := I.bare
          base := ⟨I.base.keep, I.base.slot, fun b o q n hx => by
            have : b ≠ a := fun e => by rw [e, hn] at q; cases q
            rw [bj this]; exact I.base.free b o q n hx, I.base.there, fun b xs q => by have r := I.base.sD b xs q; rw [bj (ne _ _ r)]; exact r, fun b o v q => by have r := I.base.rG b o v q; rw [bj (ne _ _ r)]; exact r,
            fun b ps q => by have r := I.base.nh b ps q; rw [bj (ne _ _ r)]; exact r,
            fun b x q => by have r := I.base.uB b x q; rw [bj (ne _ _ r)]; exact r⟩
          loc := I.loc, cell := I.cell
          free := by rw [bj (jD nl)]; exact I.free
          i9 := fun x c e => by rw [bj (nc x c e)]; exact I.i9 x c e
          pin := fun p hp => by obtain⟨h1, h2, h3⟩ := I.pin p hp; exact⟨h1, by rw [bj (np p hp)]; exact h2, h3⟩
          cF := fun b v q => by
            by_cases e : b = a
            · subst e; rw [bV] at q; cases q; exact new
            · rw [bj e] at q
              exact(I.cF b v q).iK (fun _ _ _ y => y) (fun c r => by rw [bj (ne _ _ r)]; exact r) (fun c xs r => by rw [bj (ne _ _ r)]; exact r)
          len := I.len }
noncomputable abbrev marked(X:Cx)(v:Value):Cx:={ X with A:=X.A.mark (some v),calm:=false,xe:=fun _ _=>False }
theorem Qk{v:Value}(ok:X.Ok):(marked X v).Ok :=
 ⟨ok.mod,ok.kind,ok.glob,ok.blt,ok.above,ok.inj,ok.has,ok.TH,fun z=>(by cases z),ok.frames,ok.Ud,ok.Vu,ok.bs,ok.Le,ok.J3,ok.Ky,ok.uU,ok.NA⟩
theorem Fm{v:Value}(I:Inv X pins σ H s):Inv (marked X v) pins σ H s:=⟨Qk I.ok,I.os,I.bare,I.base,I.loc,I.cell,I.free,I.i9,I.pin,I.cF,I.len⟩
theorem HF{v:Value}(ok:X.Ok)(I:Inv (marked X v) pins σ H s):Inv X pins σ H s:=⟨ok,I.os,I.bare,I.base,I.loc,I.cell,I.free,I.i9,I.pin,I.cF,I.len⟩
theorem Rm{M : Model}{A : cI}{E : Value -> au -> Prop}{i : Nat}{n : Str}{pos : Pos}{Q : Unit -> au -> Prop}(I : Inv X pins σ H s)(hN : X.N.Nodup)(hi : X.N[i]? = some n)(hk : X.env.scope.names.lookup n = some .local)
    (h : ∀ s', Inv X pins (σ.set i none) H s' -> Q () s') : wpAny M A (do bindName X.env n .none; unbindBehindTheSuite X.env n pos) Q E s := by
  obtain⟨m, hn, hl⟩ := id I.loc;have Np : (X.env.scope.kind == .class || (X.env.scope.kind == .module && X.env.locals != X.env.globals)) = false := by rw [I.ok.kind]; rfl
  obtain⟨oL, _, _, V8, _⟩ := id hn;refine wpAny_nameGoes_keeps hk hn Np fun h' v Tv hs => h _ ?_;have low : ∀ b o, X.ie.heap.get? b = some o -> b ≠ X.env.locals := fun b o e => bq (bg (aL e) I.ok.above)
  exact { ok := I.ok, os := I.os, bare := I.bare
          base := ⟨fun b o e n hb hx => (hs.2 b (low b o e)).trans (I.base.keep b o e n hb hx), fun b o e n hb hx => by
              obtain⟨sl, e1⟩ := I.base.slot b o e n hb hx;exact⟨sl, (hs.2 b (low b o e)).trans e1⟩, I.base.free, fun b o e hx => by
              obtain⟨o', e1⟩ := I.base.there b o e hx;exact⟨o', (hs.2 b (low b o e)).trans e1⟩, I.base.sD, I.base.rG, I.base.nh, I.base.uB⟩
          loc := ⟨_, Tv, fun j y v' e1 e2 e3 => by
            by_cases hj : j = i
            · subst hj
              by_cases wR : j < σ.length
              · rw [eD wR] at e2; cases e2
              · rw [gr (by rw [eR]; lia)] at e2; cases e2
            · rw [dP (jD hj)] at e2
              obtain⟨u', r', q⟩ := hl j y v' e1 e2 e3;refine⟨u', r', ?_⟩;rcases q with ⟨k, e⟩ | ⟨k, c, e, z⟩
              · refine .inl ⟨k, ?_⟩
                have : y ≠ n := fun e => hj (yy hN e1 (e ▸ hi));simp [this, e]
              · exact .inr ⟨k, c, e, z.sameBut hs (I.Qd y c e)⟩⟩
          cell := fun y c e => by
            obtain⟨w', z⟩ := I.cell y c e;exact⟨w', z.sameBut hs (I.Qd y c e)⟩
          free := I.free, i9 := I.i9
          pin := fun p hp => by
            obtain⟨h1, h2, h3, h4⟩ := I.pin p hp;exact⟨(hs.2 p.1 h3).trans h1, h2, h3, h4⟩
          cF := fun b ob e => by
            refine(I.cF b ob e).iK (fun c w' hc q => (hs.2 c ?_).trans q) (fun _ q => q) fun _ _ q => q;rintro rfl;rcases hc with rfl | hc
            · rw [I.free] at e; cases e
            · rw [I.free] at hc; cases hc
          len := by rw [eR]; exact I.len }
end
theorem KZ{K:ag}{H:Hp}{σ:L2.St}{τ:g6}(a:K0 K H σ τ)(i:Nat):K0 K H (σ.set i none) (τ.set i none):=by
 refine⟨by rw [eR,eR]; exact a.len,fun j e h=>?_⟩;by_cases hj:i=j
 ·subst hj;by_cases hi:i < τ.length
  ·rw [eD hi] at h; cases h
  ·rw [gr (by rw [eR]; lia)] at h; cases h
 ·rw [dP hj] at h;obtain⟨w,h1,h2⟩:=a.at' j e h;exact⟨w,by rw [dP hj]; exact h1,h2⟩
noncomputable def subIn(K:ag)(C:Addr)(v:Value):Bool:=match K.lookup C with
 | some ⟨_,_,.cls cd,_⟩=>cd.mro.contains v
 | _=>false
theorem O0{K:ag}{h:Heap}{C N:Addr}{nm q:Str}{bs bm:List Value}{hdct:Bool}{sn:List Str}{sub:List Value}{ab:Bool}{col:Option Bool}{dd:Option Addr}{k0 k1 k2 k3 k5:Option Value}{newId:String}{v:Value}
  (Y:K.In h) (hC:h.get? C=some (Lr nm q C N bs bm hdct sn sub ab col dd k0 k1 k2 k3 k5 newId)) (e:subIn K C v=true):(eP C :: bm).contains v=true:=by
 unfold subIn at e;split at e
 ·rename_i ho;have:=Y _ _ ho;rw [hC] at this;cases this;exact e
 ·cases e
section
variable {X:Cx} {x cn n:Str} {D f:Addr} {fd:ak} {ps:List Str} {k i:Nat} {sp:gM} {Wn:List Value} {newD:String} {cat:List Str} {e:Expr} {es:List Expr} {p np pos ep Cy tp:Pos} {Oz:Stmt} {wu:List Stmt} {t:vh} {th:fh}
structure Rh(X:Cx):Prop where
 st:X.stack=X.env :: X.outer
 fr:X.env.frame=some X.env.locals
 ex:X.ex=[]
structure Clause(X:Cx)(i:Nat)(n cn:Str)(D:Addr)(cat:List Str):Prop where
 nd:X.N.Nodup
 OG:X.N[i]?=some n
 loc:X.env.scope.names.lookup n=some .local
 gl:Gl X cn
 mg:X.mg cn=some (.ref D)
 cls:∃ Wn newD,cN X.K D Wn newD=true/\Wn.contains (.type "BaseException")=true
 cat:∀ c,cat.contains c=true->∃ C zN newId,bz X.K aT c=some (some (.ref C))/\cN X.K C zN newId=true/\subIn X.K C (.ref D)=true
theorem E7{pins:List (Addr×Obj)}{σ:L2.St}{H H1 Hj:Hp}{τ:g6}{G G1:Gp}{s1 s':au}{Dn:jA}{a C t0:Addr}{B:Heap}{ex:Ex}(A0:Rh X)(L:Clause X i n cn D cat)(X8:∀ v,oN (marked X v) (Oz :: wu) th)(J1:Inv X pins σ H1 s1)(st1:K0 X.K H1 σ τ)(ab1:jQ X.K H1 G1)(m1:Mv X.K H G H1 G1)
  (I':Inv X pins σ Hj s') (mv:Mv X.K H1 G1 Hj G1) (fl:vn B X.stack a (.ref C) (.ref t0) s'.heap) (hB:∀ b o,s'.heap.get? b=some o->b∉rH X.stack->(s1.heap.get? b≠none\/Hj b≠none)->B.get? b=some o)
  (Wf:Hj a=none) (He:s1.heap.get? a=none) (Nh:X.mg ex.cls=some (.ref C)) (PX:cat.contains ex.cls=true)
  (q':th (fun _ _=>False) ⟨fun l7 G'=>Dn.nx (l7.set i none) G',fun _ _=>False,fun _ _=>False,fun _ _=>False⟩ (τ.set i (some (.exc ex.cls))) G1) (Vh:(cn == ("__debug__" : Str))=false) :
  wpAny (model X.prog X.w) X.A (noteFrame (.ref a) X.env) (fun _ iF=>wpAny (model X.prog X.w) X.A (setFlight (.ref a) none) (fun _ ye=>wpAny (model X.prog X.w) X.A (handleBy (.ref a) X.env [.ExceptHandler (some (.Name cn np)) (some n) (Oz :: wu) Cy]) (FE X pins H G Dn) X.xe ye) X.xe iF) X.xe s':=by
 obtain⟨zZ,OC,hex⟩:=A0;obtain⟨hN,hi,hl,hgD,hmD,⟨Wn,newD,qD,bD⟩,YE⟩:=L;obtain⟨C',zN,newId,uR,qC,Yb⟩:=YE ex.cls PX;have eC:C'=C:=by
  have:=cz J1.ok.mod.Lc J1.ok.mod.glob uR;rw [Nh] at this; cases this; rfl
 subst eC;rw [zZ] at fl;refine wpAny_looks_onW (L:=X.env.locals) (by rw [<-zZ]; exact J1.ok.frames) OC fl fun h4 held Zo=>?_;refine wpAny_landsW held fun h5 YS Zn=>?_;have I5:Inv X pins σ Hj { s' with heap:=h5 }:=Br I' J1 zZ OC hex hB YS.1 (Zo.trans Zn) _;refine wpAny_handleBy_cons (codeAny_handlers_test ?_) (by intro z; cases z);refine j9 (X:=marked X (.ref a)) (Fm I5) hgD hmD ?_ Vh;obtain⟨bm,N,nm,qn,bs,hdct,sn,sub,ab,col,dd,k0,k1,k2,k3,k5,mN,hC,_,_,T⟩:=CP I5.qr qC;obtain⟨Wo,N',ZT,qn',TJ,QQ,Zs,Uc,KN,VB,P6,Z9,Z8,Z7,Z6,Z5,mN',hD,_,_,T'⟩:=CP I5.qr qD;obtain⟨oe,he5,hce⟩:=YS.there;refine J9 hC hD he5 hce (T'.hasType bD) ?_;rw [O0 I5.qr hC Yb];refine codeAny_handlers_suite_as ?_;refine lands_againW YS fun h6 fl6 up6=>?_;have I6:Inv X pins σ Hj { s' with heap:=h6 }:=Br I' J1 zZ OC hex hB fl6.1 ((Zo.trans Zn).trans up6) _;obtain⟨RX,YA,hc6⟩:=fl6.there;have nl:a≠X.env.locals:=fun z=>by
  obtain⟨m,⟨oL,_,_,V8,_⟩,_⟩:=J1.loc;rw [z,V8] at He; cases He
 have nc:∀ y c,X.env.cells.lookup y=some c->c≠a:=fun y c ec z=>by
  obtain⟨v,o,ho,_⟩:=J1.cell y c ec;rw [z,He] at ho; cases ho
 have npn:∀ q∈X.pn++pins,q.1≠a:=fun q hq z=>by
  have:=(J1.pin q hq).1;rw [z,He] at this; cases this
 have hn:X.ie.heap.get? a=none:=by
  cases q0:X.ie.heap.get? a with
  | none=>rfl
  | some o=>obtain⟨o1,e1⟩:=J1.base.there a o q0 (by rw [hex]; exact dg); rw [e1] at He; cases He
 have I7:=KW (u:=.jO RX (.ext fun h=>h.get? a=some RX)) I6 Wf hn nl nc npn ⟨YA,YA,⟨_,YA⟩,fun h1 h2 q k=>k _ q⟩;have XA:Mv X.K Hj G1 (upd Hj a (.jO RX (.ext fun h=>h.get? a=some RX))) G1:=.Ld mv.ab Wf;have kp7:Kp H1 (upd Hj a (.jO RX (.ext fun h=>h.get? a=some RX))):=(mv.trans XA).kp ab1;refine vA (v:=.ref a) I7 hN hi (.inl hl) rfl (fun s8 I8 _=>?_) (.inr hl);refine gO (X8 (.ref a) (fun _ _=>False) pins s8 _ _ (τ.set i (some (.exc ex.cls))) G1 _ (Lk.none fun _ _ z=>z)
  ⟨Fm I8,(st1.mono kp7).set i (.exc ⟨RX,C',bV,hc6,uR⟩),XA.ab⟩ q') (fun fw s9 q9=>?_) (fun _ _ z=>z.elim)
 cases fw with
 | next =>
  obtain⟨TX,H9,Tg,G9,I9,m9,q9⟩:=q9;exact Rm (HF J1.ok I9.inv) hN hi hl fun s10 Zb=>⟨TX.set i none,H9,Tg.set i none,G9,⟨Zb,KZ I9.st i,I9.ab⟩,m1.trans (mv.trans (XA.trans m9)),q9⟩
 | brk=>obtain⟨_,_,_,_,_,_,z⟩:=q9; exact z.elim
 | cont=>obtain⟨_,_,_,_,_,_,z⟩:=q9; exact z.elim
 | ret u=>obtain⟨_,_,_,_,_,_,_,_,_,z⟩:=q9; exact z.elim
theorem AS(F:cU X.prog X.w X.K X.mg X.base (tF X.prog X.w) k f fd ps (lx X.K X.mg sp))(hr:fk k X.A)(hg:Gl X x)(hm:X.mg x=some (.ref f))(hk:cH X.K (.ref f)=true)(hb:Binds X.K fd ps [])
  (ha:x5 X (e :: es) t) (uS:autoParam ((x == ("__debug__" : Str))=false) Ad._auto_1) (he:autoParam (aY (e :: es) X.env=(false,eval e X.env) :: aY es X.env) Ar._auto_1) (oC:autoParam ((fU pos (aY es X.env)).any (·.1)=false) Ar._auto_1) :
  gR X (.Call (.Name x p) (e :: es) [] pos) (qE sp t):=by
 intro E pins s σ H τ G Q hE I h;refine bZ (j9 I.inv hg hm ?_ uS);refine eQ (h₀:=X.base) I.inv.ok.mod.Lc hk (rC ha pos hE I h fun vs H1 ds G1 us s1 I1 m1 r rd q=>⟨I1.inv.qr,?_⟩) he oC;refine fV (sF (E:=Vv X.K X.mg E) F hr hb .nil (fun pins σ H s e s' I hq=>hE.pass pins σ H s s' e I hq) I1.inv r (Q:=xw X.K H1 G1 Q) ?_) fun _ _ z=>(pq.of z).trans m1;rw [bW];exact⟨ds,G1,Q,E,rd,I1.ab,q,fun d G' v H' q' m' xH=>⟨d,G',m',xH,q'⟩,fun ex C H' G' q' KN Nh=>⟨ex,C,G',rfl,Nh,KN,q'⟩⟩
end
end K2
end
section
namespace K2
open PySem PySem.Spec PyProof.Rows L2 PySem.W PySem.Calls PySem.Builtin PySem.Builtin.Getset_descriptor
section
variable {prog:bx} {w:World} {A:cI} {E:Value->au->Prop} {s:au} {K:ag} {a C:Addr} {ox:Obj}
theorem P4 {Q:Option Value->au->Prop} {B:String} {zN:List Value} (FB:LD B zN) (X:K.In s.heap) (hx:s.heap.get? a=some ox) (hc:ox.cls=.ref C) (hga:Lq K (.ref C) "__getattribute__" = some (some (.builtin "BaseException.__getattribute__"))) (hgn:Lq K (.ref C) "__getattr__" = some none)
  (hA:Lq K (.ref C) "__class__" = some (some (.builtin "object.__class__"))) (hG:specialIn K (.builtin "object.__class__") "__get__" = some (some (.builtin "getset_descriptor.__get__"))) (hT:takesIn K (.builtin "object.__class__")=some true) (hm:mroIn K C (.type "object")=some true) (hmB:mroIn K C (.type "BaseException")=some true)
  (h:Q (some (.ref C)) { s with toks:=s.toks+1 }):wpAny (model prog w) A (getAttr? (.ref a) "__class__") Q E s:=by
 obtain⟨hh,g,d,t,os⟩:=s;have L0:Looks (model prog w) hh (typeOf (.ref a)) (.ref C):=hc ▸ (Looks.ld hx).andThen .now;have L1:=looks_findIn (M:=model prog w) X hga;have L2:=looks_findIn (M:=model prog w) X hgn;have L5:=looks_mroIn (M:=model prog w) X hm;have L3:Looks (model prog w) hh (Builtin.ObjectAttr.find (.ref a) (.ref C) "__class__") (.bind (.builtin "getset_descriptor.__get__") (.builtin "object.__class__")):=by
  refine(looks_findIn X hA).andThen ((looks_specialIn X hG:Looks (model prog w) hh (Builtin.ObjectAttr.getOf (some (.builtin "object.__class__"))) _).andThen ?_);refine((looks_takesIn X hT).andThen .now:Looks (model prog w) hh (Builtin.ObjectAttr.dataDescriptor? (some (.builtin "object.__class__")) (some (.builtin "getset_descriptor.__get__"))) (some (.builtin "getset_descriptor.__get__",.builtin "object.__class__"))).andThen ?_;exact Looks.tag .now
 have L4:=looks_mroIn (M:=model prog w) X hmB;have hx2:(Value.builtin "BaseException.__getattribute__" == Value.builtin "object.__getattribute__")=false:=by decide +kernel
 unfold getAttr? getAttrBy? getAttrBy;refine aw (wpAny_mkText (aw (wpAny_attempt (dv (aw (L0.at (aw (L1.at ?_))))))));dsimp only;rw [if_neg (by rw [hx2]; simp)];unfold getAttrByItsOwn hookBefore callGetattribute;have f3:=FB.ga.bind (.ref a);have fin:pJ (model prog w) A (.call (.builtin "BaseException.__getattribute__") ⟨[.ref a,.str "__class__" t],[]⟩) (fun r s'=>r=.ok (.ret (.ref C))/\s'=⟨hh,g,d,t+1,os⟩) ⟨hh,g,d,t+1,os⟩:=by
  refine codeAny_call_builtin FB.ga.plain F.entry_bexc_ga ?_;have hk:builtinKind "BaseException.__getattribute__" = some .slot:=by decide +kernel
  have Sm:splitId "BaseException.__getattribute__" = some ("BaseException","__getattribute__"):=by decide +kernel
  have ha:=F.args_bexc_ga (.ref a) (.str "__class__" t);have LI:Looks (model prog w) hh (isInstance (.ref a) (.type "BaseException")) true:=L0.andThen L4;simp only [checkBuiltinCall,hk,Sm];refine aw (LI.at ?_);simp only [cR,ay,if_false];have body:wpAny (model prog w) A.in1 (Builtin.«object.__getattribute__» ⟨[.ref a,.str "__class__" t],[]⟩)
    (fun fin s'=>fin=.done (.ret (.ref C))/\s'=⟨hh,g,d,t+1,os⟩) (fun _ _=>False) ⟨hh,g,d,t+1,os⟩:=by
   unfold Builtin.«object.__getattribute__»;refine aw (aZ ?_);refine aw (aZ ?_);refine aw (L0.at (aw (L3.at ?_)));show wpAny _ _ (Builtin.ObjectAttr.bindTo (.builtin "getset_descriptor.__get__") (.builtin "object.__class__") (.ref a) (.ref C)) _ _ _;show wpAny _ _ (do let v ← su [.builtin "object.__class__"] (call (.builtin "getset_descriptor.__get__") [.builtin "object.__class__",.ref a,.ref C]); ret v) _ _ _;refine aw (dv (zH ?_));refine codeAny_call_builtin KF.slot_gs.plain KF.entry_gs (KF.slot_gs.check _ _ _ _ _ _ _ _ KF.type_class (KF.args_gs _ _ _) ?_);unfold Builtin.«getset_descriptor.__get__» descrGet;rw [dga_obj];refine aw (aZ ?_);unfold descrGetter descrCheckInstance descrNameAndClass isInstance;simp only [KF.owner_class]
   repeat lk
   refine⟨Code.quiet_builtin _ (by decide +kernel),fT KF.entry_class ?_⟩;unfold Builtin.«object.__class__» shownTypeOf
   repeat lk
   exact⟨rfl,rfl⟩
  have go:∀ z:Sem Unit,z=pure ()->∀ (P:Unit->au->Prop) (E':Value->au->Prop) s',P () s'->wpAny (model prog w) A.in1 z P E' s':=fun z e P E' s' hp=>by rw [e]; exact aZ hp
  refine go _ ha _ _ _ (gO body ?_ (fun _ _ z=>z.elim));rintro fin s' ⟨e1,e2⟩;subst e1; exact⟨rfl,e2⟩
 refine aw (L2.at (aw (wpAny_attempt (dv ?_))));simp only [w9,ay,if_false];unfold boundAndCalled;rw [f3];refine aw (aZ (zH (rP fin ?_)));rintro r s' ⟨e1,e2⟩;subst e1; subst e2;exact aZ (aZ h)
structure nV(K:ag)(C:Addr):Prop where
 ga:Lq K (.ref C) "__getattribute__" = some (some (.builtin "BaseException.__getattribute__"))
 gn:Lq K (.ref C) "__getattr__" = some none
 OG:Lq K (.ref C) "__class__" = some (some (.builtin "object.__class__"))
 sp:specialIn K (.builtin "object.__class__") "__get__" = some (some (.builtin "getset_descriptor.__get__"))
 tk:takesIn K (.builtin "object.__class__")=some true
 mo:mroIn K C (.type "object")=some true
 mb:mroIn K C (.type "BaseException")=some true
 is:(clsIn K C).isSome=true
theorem uN{B:String}{zN:List Value}(FB:LD B zN)(Z:nV K C):KitX K (.ref a) (.ref C) (fun h=>∃ o,h.get? a=some o/\o.cls=.ref C) where
 ty:=by rintro M h _ ⟨o,hx,hc⟩; exact hc ▸ (Looks.ld hx).andThen .now
 it:=fun M h X _=>by
  have PW:=Z.is;unfold clsIn at PW;split at PW
  ·rename_i ho;intro A' Q' E' s' k q;unfold isType loadHead;exact aw (wpAny_loadPart (k _ _ (X _ _ ho)) (aZ q))
  ·cases PW
 ne:=fun h tp dd its n sl X htp=>by
  have PW:=Z.is;refine Bool.eq_false_iff.mpr fun q=>?_;have e:C=tp:=Value.ref.inj (beq_iff_eq.mp q);subst e;unfold clsIn at PW;split at PW
  ·rename_i ho;have z:=(X _ _ ho).symm.trans htp;cases z
  ·cases PW
 ca:=fun X ⟨o,hx,hc⟩ k=>P4 FB X hx hc Z.ga Z.gn Z.OG Z.sp Z.tk Z.mo Z.mb k
end
end K2
end
section
namespace K2
open PySem PySem.Spec PyProof.Rows L2
theorem u5{P:Str->Prop}:∀ c,([]:List Str).contains c=true->P c:=fun c h=>by simp at h
theorem qH{l:List Str}{P:Str->Prop}{x:Str}(h:P x)(t:∀ c,l.contains c=true->P c):∀ c,(x :: l).contains c=true->P c:=fun c hc=>by
 rw [List.contains_cons,nZ] at hc;rcases hc with hc | hc
 ·rw [beq_iff_eq.mp hc]; exact h
 ·exact t c hc
section
variable {X:Cx} {a:Expr} {ta:eZ} {p pos:Pos} {B:String} {zN:List Value} {all sub:List Str}
theorem D4 {y:Str} {py:Pos} {C:Addr} (FB:LD B zN) (hg:Gl X "isinstance") (hm:X.mg "isinstance" = none) (Vd:Gl X y) (U7:X.mg y=some (.ref C)) (Yo:cG X.K (.type "NoneType") (.ref C)=some false)
  (Nm:∀ c,all.contains c=true->∃ C',bz X.K aT c=some (some (.ref C'))/\cG X.K (.ref C') (.ref C)=some (sub.contains c)/\nV X.K C') (ha:gR X a ta) (uS:autoParam ((y == ("__debug__" : Str))=false) Ad._auto_1)
  (he:autoParam (aY [a,.Name y py] X.env=(false,eval a X.env) :: aY [.Name y py] X.env) Ar._auto_1) (oC:autoParam ((fU pos (aY [Expr.Name y py] X.env)).any (·.1)=false) Ar._auto_1) (SH:autoParam (aY [.Name y py] X.env=[(false,eval (.Name y py) X.env)]) Ar._auto_1) :
  gR X (.Call (.Name "isinstance" p) [a,.Name y py] [] pos) (EY all sub ta):=by
 intro E pins s σ H τ G Q hE I h;refine bZ (kA I.inv hg hm kE ?_);refine gu ?_ he oC;rw [he];show wpAny _ _ (vt ((false,eval a X.env) :: fU pos (aY [.Name y py] X.env))) _ _ s;refine dG (ki ha hE I h fun v H1 d G1 u s1 I1 m1 r1 km q1=>?_);rw [SH];show wpAny _ _ (vt [(false,eval (.Name y py) X.env)]) _ _ s1;refine dG (j9 I1.inv Vd U7 (iX ?_) uS);have fin:∀ b tk,Q (.bl b) G1->pq X pins σ H G Q (.bool b) { s1 with toks:=tk }:=fun b tk q =>
  ⟨.bl b,H1,.bl b,G1,I1.inv.tok _,m1,rfl,.bl b,q⟩
 cases km with
 | dI =>
  cases r1;exact c6 OM I1.inv.qr g7 Yo (fun z=>nomatch z) fun tk=>fin false tk q1
 | exc h0 =>
  cases r1;obtain⟨o,C',e1,e2,e3⟩:=h0;obtain⟨y1,q2⟩:=q1;obtain⟨C2,e4,k1,k2⟩:=Nm _ y1;rw [e3] at e4;cases e4;exact c6 (uN FB k2) I1.inv.qr ⟨o,(I1.inv.cF _ _ e1).1,e2⟩ k1 (fun z=>nomatch z) fun tk=>fin _ tk q2
 | zM h0 _ =>
  cases r1;obtain⟨o,C',_,_,_,e1,e2,e3,_⟩:=h0;obtain⟨y1,q2⟩:=q1;obtain⟨C2,e4,k1,k2⟩:=Nm _ y1;rw [e3] at e4;cases e4;exact c6 (uN FB k2) I1.inv.qr ⟨o,(I1.inv.cF _ _ e1).1,e2⟩ k1 (fun z=>nomatch z) fun tk=>fin _ tk q2
 | _=>exact q1.elim
end
section
variable {X:Cx} {a:Expr} {ta:eZ} {p pos:Pos} {B:String} {zN:List Value} {all:List Str}
theorem xt:dF "ValueError" = some (.type "ValueError"):=by first | rfl | decide +kernel
theorem MC {py:Pos} (FB:LD B zN) (hg:Gl X "isinstance") (hm:X.mg "isinstance" = none) (Vd:Gl X "ValueError") (U7:X.mg "ValueError" = none)
  (Nm:∀ c,all.contains c=true->∃ C',bz X.K aT c=some (some (.ref C'))/\cG X.K (.ref C') (.type "ValueError")=some true/\nV X.K C') (ha:gR X a ta)
  (he:autoParam (aY [a,.Name "ValueError" py] X.env=(false,eval a X.env) :: aY [.Name "ValueError" py] X.env) Ar._auto_1) (oC:autoParam ((fU pos (aY [Expr.Name "ValueError" py] X.env)).any (·.1)=false) Ar._auto_1) (SH:autoParam (aY [.Name "ValueError" py] X.env=[(false,eval (.Name "ValueError" py) X.env)]) Ar._auto_1) :
  gR X (.Call (.Name "isinstance" p) [a,.Name "ValueError" py] [] pos) (Jd all ta):=by
 intro E pins s σ H τ G Q hE I h;refine bZ (kA I.inv hg hm kE (gu ?_ he oC));rw [he];show wpAny _ _ (vt ((false,eval a X.env) :: fU pos (aY [.Name "ValueError" py] X.env))) _ _ s;refine dG (ki ha hE I h fun v H1 d G1 u s1 I1 m1 r1 km q1=>?_);rw [SH];show wpAny _ _ (vt [(false,eval (.Name "ValueError" py) X.env)]) _ _ s1;refine dG (kA I1.inv Vd U7 xt (iX ?_));have fin:∀ b tk,Q (.bl b) G1->pq X pins σ H G Q (.bool b) { s1 with toks:=tk }:=fun b tk q =>
  ⟨.bl b,H1,.bl b,G1,I1.inv.tok _,m1,rfl,.bl b,q⟩
 cases km with
 | exc h0 =>
  cases r1;obtain⟨o,C',e1,e2,e3⟩:=h0;obtain⟨y1,q2⟩:=q1;obtain⟨C2,e4,k1,k2⟩:=Nm _ y1;rw [e3] at e4;cases e4;exact c6 (uN FB k2) I1.inv.qr ⟨o,(I1.inv.cF _ _ e1).1,e2⟩ k1 (fun z=>nomatch z) fun tk=>fin _ tk q2
 | zM h0 _ =>
  cases r1;obtain⟨o,C',_,_,_,e1,e2,e3,_⟩:=h0;obtain⟨y1,q2⟩:=q1;obtain⟨C2,e4,k1,k2⟩:=Nm _ y1;rw [e3] at e4;cases e4;exact c6 (uN FB k2) I1.inv.qr ⟨o,(I1.inv.cF _ _ e1).1,e2⟩ k1 (fun z=>nomatch z) fun tk=>fin _ tk q2
 | _=>exact q1.elim
end
section
variable {X:Cx} {e:Expr} {te:eZ} {pos:Pos}
theorem mj{i:Nat}{x:Str}{pos':Pos}(hN:X.N.Nodup)(hi:X.N[i]?=some x)(he:gR X e te)(hx:autoParam (Loc X.env.scope x) Ao._auto_1)(hs:autoParam (x8 e (some (.Name x pos')) pos.line X.env=pure false) Ar._auto_1)(hf:autoParam (X.fn x=true\/X.env.scope.names.lookup x=some .local) Ao._auto_1) :
  Bo X (.Assign [.Name x pos'] e pos) (bY te (aR i)):=Ph hN hi hx he hs hf
theorem tH{i:Nat}{x:Str}(hN:X.N.Nodup)(hi:X.N[i]?=some x)(hx:autoParam (Loc X.env.scope x) Ao._auto_1)(hf:autoParam (X.fn x=true\/X.env.scope.names.lookup x=some .local) Ao._auto_1):Lg X (.Name x pos) (aR i):=Mx hN hi hx hf
theorem tJ{P:bx}{w:World}{K:ag}{mg:Str->Option Value}{base:Heap}{x qual:Str}{st:Stmt}{f:Addr}{fd:ak}{Nn ps:List Str}{k:Nat}{sp:gM}{rd:fh}(F:kg K x qual st f fd)(S:bF Nn ps (aH st))
  (hr:∀ ds G Q,sp ds G Q (fun _ _=>False)->rd (fun _ _=>False) (ends Q) (aX Nn.length ds) G)
  (hb:∀ (iH:Value) (A:cI) (outer:List Env) (s:au) (H:Hp) (E:XK),fk k (A.deeper (rO qual (aH st) s.heap.objs.size f iH))->oN (qF ff P w K mg base Nn qual (aH st) f iH A outer s H E).OA (eG st) rd)
  (len:autoParam (∀ ds G Q E,sp ds G Q E->ds.length=ps.length) Al._auto_1):cU P w K mg base ff (k+1) f fd ps (cx K sp):=P1 F S len hr hb
theorem YR{P:bx}{w:World}{K:ag}{mg:Str->Option Value}{base:Heap}{x qual:Str}{st:Stmt}{f:Addr}{fd:ak}{Nn ps:List Str}{k:Nat}{sp:gM}{rd:fh}(F:kg K x qual st f fd)(S:bF Nn ps (aH st))
  (hr:∀ ds G Q E,sp ds G Q E->rd E (ends Q) (aX Nn.length ds) G)
  (hb:∀ (iH:Value) (A:cI) (outer:List Env) (s:au) (H:Hp) (E:XK),fk k (A.deeper (rO qual (aH st) s.heap.objs.size f iH))->oN (qF (tF P w) P w K mg base Nn qual (aH st) f iH A outer s H E) (eG st) rd)
  (len:autoParam (∀ ds G Q E,sp ds G Q E->ds.length=ps.length) Al._auto_1):cU P w K mg base (tF P w) (k+1) f fd ps (lx K mg sp):=PZ F S len hr hb
theorem n4{N ps:List Str}{sc:Scope}(h1:autoParam (sc.kind=.function) Ar._auto_1)(h2:autoParam (sc.isCoroutine=false) Ar._auto_1)(h3:autoParam (sc.isGenerator=false) Ar._auto_1)(h4:autoParam N.Nodup Ak._auto_1)(h5:autoParam (N.take ps.length=ps) Ar._auto_1)
  (h6:autoParam (∀ x∈ps,sc.names.lookup x=some .local\/sc.names.lookup x=some .cell) Ak._auto_1) (h7:autoParam (∀ y∈sc.names,y.2≠.free) Ak._auto_1):bF N ps sc:=⟨h1,h2,h3,h4,h5,h6,h7⟩
end
section
variable {X:Cx} {a b c:Expr} {ta tb tc:eZ} {pos:Pos}
theorem Ir {x:Str} {i:Int} {t:Tok} {p:Pos} (hg:Gl X x) (hm:X.mg x=some (.int i t)) (hd:autoParam ((x == ("__debug__" : Str))=false) Ad._auto_1):gR X (.Name x p) (dC (.int i)):=nF (Pj (v:=.int i) hg hm ⟨t,rfl⟩ hd) fun _ _=>.int i
end
theorem rF{α:Type}{us:List α}(h:us.length=1):∃ a,us=[a]:=List.length_eq_one_iff.mp h
theorem PJ{α:Type}{us:List α}{n:Nat}(h:us.length=n+1):∃ a t,us=a :: t/\t.length=n:=by
 cases us with
 | nil=>cases h
 | cons a t=>exact⟨a,t,rfl,Nat.succ.inj h⟩
theorem oB{α:Type}{us:List α}(h:us.length=2):∃ a b,us=[a,b]:=by
 obtain⟨a,t,rfl,h2⟩:=PJ h; obtain⟨b,rfl⟩:=rF h2; exact⟨a,b,rfl⟩
theorem PL{α:Type}{us:List α}(h:us.length=3):∃ a b c,us=[a,b,c]:=by
 obtain⟨a,t,rfl,h2⟩:=PJ h; obtain⟨b,c,rfl⟩:=oB h2; exact⟨a,b,c,rfl⟩
theorem XI{α:Type}{us:List α}(h:us.length=4):∃ a b c d,us=[a,b,c,d]:=by
 obtain⟨a,t,rfl,h2⟩:=PJ h; obtain⟨b,c,d,rfl⟩:=PL h2; exact⟨a,b,c,d,rfl⟩
theorem UO{α:Type}{us:List α}(h:us.length=5):∃ a b c d e,us=[a,b,c,d,e]:=by
 obtain⟨a,t,rfl,h2⟩:=PJ h; obtain⟨b,c,d,e,rfl⟩:=XI h2; exact⟨a,b,c,d,e,rfl⟩
section
variable {X:Cx}
theorem JS{a:Expr}{ta:eZ}{p pos:Pos}{j}(ha:gR X a ta):FF X (.Compare a [.IsNot] [.Constant .none j p] pos) (fQ (TG (Mh true) ta)) :=
 show FF X _ (fQ (a9 (RH true) ta (dC .dI))) from c5 JY ha Cg (hU _)
end
end K2
end
section
namespace K2
open PySem PySem.Spec PyProof.Rows L2 PySem.W
open Enc (enc)
section
variable {X:Cx}
theorem M6{K:ag}{H:Hp}:∀ {ns:List Int} {vs:List V} {its:List Value},a4 K H vs (ns.map enc)->Vals vs its->jR its ns:=by
 intro ns;induction ns with
 | nil=>intro vs its r v; cases r; cases v; exact .nil
 | cons n ns ih =>
  intro vs its r v;cases r with
  | cons r1 r2 =>
   cases r1;cases v with
   | cons v1 v2=>obtain⟨t,rfl⟩:=(show ∃ t,_=Dz n t from v1); exact .cons _ _ (ih r2 v2)
theorem Km{K:ag}{H:Hp}{ns:List Int}{its:List Value}(h:jR its ns):Vals (ns.map V.int) its/\a4 K H (ns.map V.int) (ns.map enc):=by
 induction h with
 | nil=>exact⟨.nil,.nil⟩
 | cons _ _ _ ih=>exact⟨.cons ⟨_,rfl⟩ ih.1,.cons (.int _) ih.2⟩
theorem sg (hc:X.calm=true) (hu:X.A.units+64 < cLine):tE X (.builtin "sorted") qK:=by
 intro pins s σ H G xs ds us Q I ab rx rd q;unfold qK at q;split at q
 ·rename_i x;obtain⟨ns,ty,hi,h64,q⟩:=q;obtain⟨w1,rfl,O6⟩:=rd.one;obtain⟨u,rfl,ru⟩:=rx.one;obtain⟨l,vs,its,rfl,rv,rs,hl,_⟩:=lT I ab ru O6 (Kb ty hi);obtain⟨m,F0⟩:=I.fr;refine kso_sorted F0 D6 hl (M6 rs rv) h64 fun Dd vs' Py c h' F N wR ia il pm so _=>?_;obtain⟨k2,ns2⟩:=AU I F0 F fun p hp=>N p (aK _ hp);have hD:s.heap.get? Dd=none:=by
   have nD:=N _ bo;cases qd:s.heap.get? Dd with
   | none=>rfl
   | some o=>exact absurd (wR _ (wK nD.2.1 nD.2.2 qd)) (ic _)
  have hp:H Dd=none:=IP I.cF hD;have es:HY ns=Py:=mH ((jg ns).trans pm.symm) (n6 ns) (so.imp fun h=>by unfold xQ; exact(by simpa [bJ.lt] using h));rw [es] at q;have hsz:bb=16777216:=cm;obtain⟨VS,rs'⟩:=Km (K:=X.K) (H:=H) ia;refine⟨.ref Dd,upd H Dd (.lst (Py.map V.int)),.ref _,_,Inv.QF (t':=s.toks) I k2 ns2 hD ?_,.GJ ab hp rs',rfl,.ref _,q _ (ab.free hp)⟩;exact⟨by rw [ai]; lia,_,c,VS,(N _ bo).1⟩
 ·exact q.elim
end
end K2
end
section
namespace K2
open PySem PySem.Spec PyProof.Rows L2
section
variable {X:Cx} {x cn n:Str} {D f:Addr} {fd:ak} {ps:List Str} {k i:Nat} {sp:gM} {cat:List Str} {e c:Expr} {es:List Expr} {p np pos ep Cy tp XS:Pos} {Oz:Stmt} {wu:List Stmt} {t:vh} {th u v:fh} {tA:xu} {hs:List DC} {body sa sb:List Stmt}
noncomputable def WJ(X:Cx)(hs:List DC)(Q:Flow->au->Prop):Value->au->Prop:=fun e dh=>wpAny (model X.prog X.w) X.A (noteFrame e X.env) (fun _ iF=>wpAny (model X.prog X.w) X.A (setFlight e none) (fun _ ye=>wpAny (model X.prog X.w) X.A (handleBy e X.env hs) Q X.xe ye) X.xe iF) X.xe dh
noncomputable def VH(X:Cx)(hs:List DC)(body:List Stmt)(t:fh):Prop :=
 ∀ (pins:List (Addr×Obj)) (s:au) (σ:L2.St) (H0:Hp) (G0:Gp) (H:Hp) (τ:g6) (G:Gp) (Dn:jA),Mv X.K H0 G0 H G->I2 X pins σ H τ G s->t (fun _ _=>False) Dn τ G ->
  wpAny (model X.prog X.w) X.A (execs body X.env) (FE X pins H0 G0 Dn) (WJ X hs (FE X pins H0 G0 Dn)) s
theorem Mm{h0:DC}(hb:VH X (h0 :: hs) body v):Bo X (.Try body (h0 :: hs) [] [] tp) (NU v):=by
 intro E pins s σ H τ G Dn hE I h;refine wpAny_Try_except ?_;refine gO (hb pins s σ H G H τ G Dn (.refl I.ab) I h) (fun fl s1 q=>?_) fun _ _ z=>z;cases fl with
 | next=>exact jc q
 | brk=>exact q
 | cont=>exact q
 | ret u=>exact q
theorem T8(hc:∀ EX,FF (X.pB EX) c tA)(ha:VH X hs sa u)(hb:VH X hs sb v):VH X hs [.If c sa sb XS] (eE tA u v):=by
 intro pins s σ H0 G0 H τ G Dn m0 I h;refine wt ?_;have fin:∀ (fl:Flow) (s':au),FE X pins H0 G0 Dn fl s'->(match fl with | .next=>wpAny (model X.prog X.w) X.A (execs [] X.env) (FE X pins H0 G0 Dn) (WJ X hs (FE X pins H0 G0 Dn)) s' | f=>FE X pins H0 G0 Dn f s'):=fun fl s' q=>by
  cases fl with
  | next=>exact jc q
  | brk=>exact q
  | cont=>exact q
  | ret u=>exact q
 generalize YL:WJ X hs (FE X pins H0 G0 Dn)=EX at fin;have I0:I2 (X.pB EX) pins σ H τ G s:=⟨I.inv.pB EX,I.st,I.ab⟩;refine wpAny_If (JJ (X:=X.pB EX) (hc EX) (Lk.none fun _ _ z=>z) I0 h fun d H1 G1 s1 I1 m1 q1=>?_);have J1:I2 X pins σ H1 τ G1 s1:=⟨I1.inv.mG,I1.st,I1.ab⟩;subst YL;cases d with
 | true=>exact gO (ha pins s1 σ H0 G0 H1 τ G1 Dn (m0.trans m1) J1 (by simpa using q1)) fin fun _ _ z=>z
 | false=>exact gO (hb pins s1 σ H0 G0 H1 τ G1 Dn (m0.trans m1) J1 (by simpa using q1)) fin fun _ _ z=>z
end
noncomputable def gN(K:ag)(f c:Str):Prop:=∃ C,bz K aT c=some (some (.ref C))/\Rc K C/\wm K C f
theorem Gz{K:ag}{H:Hp}{f:Str}{d:D}:∀ {fs:List (Str×D)} {fv:List (Str×V)},fv.map (·.1)=fs.map (·.1)->a4 K H (fv.map (·.2)) (fs.map (·.2))->fs.lookup f=some d->∃ v,fv.lookup f=some v/\bS K H v d:=by
 intro fs;induction fs with
 | nil=>intro fv _ _ h; cases h
 | cons p fs ih =>
  intro fv hn r h;cases fv with
  | nil=>cases hn
  | cons q fv =>
   rw [aj,aj] at hn;injection hn with h1 h2
   cases r with
   | cons r1 r2 =>
    obtain⟨pk,pd⟩:=p;obtain⟨qk,qv⟩:=q;have h1:qk=pk:=h1;subst h1;rw [l0] at h ⊢;cases hb:f == qk with
    | true =>
     rw [hb] at h;cases h;exact⟨qv,rfl,r1⟩
    | false =>
     rw [hb] at h;exact ih h2 r2 h
section
variable {X:Cx} {e:Expr} {te:eZ} {f:Str} {al:List Str} {pos:Pos}
theorem cV(cl:∀ c∈al,gN X.K f c)(he:gR X e te)(hb:autoParam (attributeBase e f X.env (eval e X.env)=eval e X.env) Ar._auto_1):gR X (.Attribute e f pos) (fK al f te):=by
 intro E pins s σ H τ G Q hE I h;refine Qh hb (ki he hE I h fun x H1 d G1 u s1 I1 m1 r1 km q1=>?_);obtain⟨a,c,fs,d',rfl,hg,hc,hl,q⟩:=q1;cases km;cases r1;obtain⟨C,dx,fv,hH,uR,hn,rs⟩:=I1.ab a _ hg;obtain⟨C',yX,Cz,Yp⟩:=cl c hc;rw [uR] at yX;cases yX;obtain⟨v,hv,rv⟩:=Gz hn rs hl;exact Hh I1.inv hH Cz Yp hv fun u' s2 I2 ru=>⟨v,H1,d',G1,I2,m1,ru,rv,q⟩
end
theorem JR{f:Str}{v:V}{d:D}:∀ {fs:List (Str×D)} {fv:List (Str×V)},fv.map (·.1)=fs.map (·.1)->(lZ f v fv).map (·.1)=(putD f d fs).map (·.1):=by
 intro fs;induction fs with
 | nil =>
  intro fv h;have:fv=[]:=by simpa using h
  subst this; rfl
 | cons p fs ih =>
  intro fv h;cases fv with
  | nil=>cases h
  | cons q fv =>
   obtain⟨pk,pd⟩:=p;obtain⟨qk,qv⟩:=q;rw [aj,aj] at h;injection h with h1 h2
   have h1:qk=pk:=h1;subst h1;unfold lZ putD;split
   ·rw [aj,aj,h2]
   ·rw [aj,aj,ih h2]
theorem Mi{K:ag}{H:Hp}{f:Str}{v:V}{d:D}(rv:bS K H v d):∀ {fs:List (Str×D)} {fv:List (Str×V)},fv.map (·.1)=fs.map (·.1)->a4 K H (fv.map (·.2)) (fs.map (·.2))->a4 K H ((lZ f v fv).map (·.2)) ((putD f d fs).map (·.2)):=by
 intro fs;induction fs with
 | nil =>
  intro fv h _;have:fv=[]:=by simpa using h
  subst this;exact .cons rv .nil
 | cons p fs ih =>
  intro fv h r;cases fv with
  | nil=>cases h
  | cons q fv =>
   obtain⟨pk,pd⟩:=p;obtain⟨qk,qv⟩:=q;rw [aj,aj] at h;injection h with h1 h2
   have h1:qk=pk:=h1;subst h1;cases r with
   | cons r1 r2 =>
    unfold lZ putD;split
    ·exact .cons rv r2
    ·exact .cons r1 (ih h2 r2)
theorem Kp.W8{H:Hp}{p:Addr}{C dx:Addr}{fv:List (Str×V)}{o:HO}(hp:H p=some (.ins C dx fv)):Kp H (upd H p o) :=
 ⟨fun a xs e=>by rw [bj (by rintro rfl; rw [hp] at e; cases e)]; exact e,fun a ob u e=>by rw [bj (by rintro rfl; rw [hp] at e; cases e)]; exact e⟩
section
variable {X:Cx} {o value:Expr} {to tv:eZ} {f:Str} {al:List Str} {pos pos':Pos}
theorem et(cl:∀ c∈al,gN X.K f c)(ho:gR X o to)(hv:gR X value tv)(hs:autoParam (x8 value (some (.Attribute o f pos')) pos.line X.env=pure false) Ar._auto_1):Bo X (.Assign [.Attribute o f pos'] value pos) (jo al f to tv):=by
 intro E pins s σ H τ G D hE I h;refine plainObj_wpAny_Assign_Attribute (ki hv hE I h fun y H1 d G1 u s1 I1 m1 r1 km q1=>ki ho hE I1 q1 fun x H2 d2 G2 ov s2 kd m2 r2 Fy q2=>?_) hs;obtain⟨a,c,fs,rfl,hg,hc,hl,q⟩:=q2;cases Fy;cases r2;obtain⟨C,dx,fv,hH,uR,hn,rs⟩:=kd.ab a _ hg;obtain⟨C',yX,Cz,Yp⟩:=cl c hc;rw [uR] at yX;cases yX;have hlen:fv.length=fs.length:=by have:=congrArg dO hn; simpa using this
 have WZ:=km.mono (m2.kp I1.ab);refine Gw kd.inv hH Cz Yp (by lia) r1 fun s3 I3=>?_;have k:Kp H2 (upd H2 a (.ins C dx (lZ f y fv))):=.W8 hH;have m3:Mv X.K H2 G2 (upd H2 a (.ins C dx (lZ f y fv))) (bP G2 a (.ins c (putD f d fs))):=.put kd.ab hg k ⟨C,dx,lZ f y fv,bV,uR,JR hn,(Mi WZ hn rs).mono k⟩;exact⟨σ,_,τ,_,kd.mv I3 m3,(m1.trans m2).trans m3,q⟩
end
section
variable {X:Cx} {k:Nat} {C f:Addr} {fd:ak} {ps:List Str} {sp:gM} {x:Str} {p pos:Pos} {e:Expr} {es:List Expr} {t:vh}
theorem lE(M:Mk X.K C f)(uR:bz X.K aT x=some (some (.ref C)))(F:cU X.prog X.w X.K X.mg X.base ff k f fd ps (cx X.K sp))(hr:fk (k+1) X.A)(hg:Gl X x)(hm:X.mg x=some (.ref C))(hb:Binds X.K fd ps [])
  (ha:x5 X (e :: es) t) (uS:autoParam ((x == ("__debug__" : Str))=false) Ad._auto_1) (he:autoParam (aY (e :: es) X.env=(false,eval e X.env) :: aY es X.env) Ar._auto_1) (oC:autoParam ((fU pos (aY es X.env)).any (·.1)=false) Ar._auto_1) :
  gR X (.Call (.Name x p) (e :: es) [] pos) (lS x sp t):=by
 intro E pins s σ H τ G Q hE I h;refine bZ (j9 I.inv hg hm ?_ uS);refine eQ (h₀:=X.base) I.inv.ok.mod.Lc M.kp (rC ha pos hE I h fun vs H1 ds G1 us s1 I1 m1 r rd q=>⟨I1.inv.qr,?_⟩) he oC;refine fV (Ma M F hr hb .nil D5 I1.inv r (Q:=xw X.K H1 G1 Q) fun y dx hy hdx pD=>?_) fun _ _ z=>(pq.of z).trans m1;rw [bW];have m2:Mv X.K H1 G1 (upd H1 dx (.own y)) G1:=.Ld I1.ab hdx;have hy2:(upd H1 dx (.own y)) y=none:=by rw [bj pD.symm]; exact hy
 have m3:Mv X.K (upd H1 dx (.own y)) G1 (upd (upd H1 dx (.own y)) y (.ins C dx [])) (bP G1 y (.ins x [])):=.new m2.ab hy2 ⟨C,dx,[],bV,uR,rfl,.nil⟩;have m:=m2.trans m3;refine⟨.ref y :: ds,bP G1 y (.ins x []),fun v G2=>v=.dI/\Q (.ref y) G2,.cons (.ref y) (rd.mono (m.kp I1.ab)),m.ab,q y (I1.ab.free hy),fun d G' v H' q' m' xH=>?_⟩;obtain⟨rfl,q'⟩:=q';cases xH;exact⟨rfl,.ref y,G',m.trans m',.ref y,q'⟩
end
theorem vN{m:Str}:∀ (fs:List (Str×D)) (fv:List (Str×V)),fv.map (·.1)=fs.map (·.1)->fs.lookup m=none->fv.lookup m=none:=by
 intro fs;induction fs with
 | nil =>
  intro fv h _;have:fv=[]:=by simpa using h
  subst this; rfl
 | cons p fs ih =>
  intro fv h hl;cases fv with
  | nil=>cases h
  | cons q fv =>
   obtain⟨pk,pd⟩:=p;obtain⟨qk,qv⟩:=q;rw [aj,aj] at h;injection h with h1 h2
   have h1:qk=pk:=h1;subst h1;rw [l0] at hl ⊢;cases hb:m == qk with
   | true=>rw [hb] at hl; cases hl
   | false=>rw [hb] at hl; exact ih fv h2 hl
section
variable {X:Cx} {k:Nat} {C f:Addr} {fd:ak} {ps:List Str} {sp:gM} {cn m:Str} {apos pos:Pos} {o e:Expr} {es:List Expr} {to:eZ} {t:vh}
structure Bq(K:ag)(cn m:Str)(C f:Addr):Prop where
 ns:bz K aT cn=some (some (.ref C))
 cl:Rc K C
 me:Meth K C m f
end
noncomputable def Oj(X:Cx)(m:Str)(p:Str×gM):Prop:=∃ (C f:Addr) (fd:ak) (ps:List Str) (k:Nat),Bq X.K p.1 m C f/\cU X.prog X.w X.K X.mg X.base ff k f fd ps (cx X.K p.2)/\fk k X.A/\Binds X.K fd ps []
theorem uD{X:Cx}{m:Str}:∀ p∈([]:List (Str×gM)),Oj X m p:=fun p h=>by cases h
theorem qY{X:Cx}{m c:Str}{sp:gM}{ms:List (Str×gM)}{C f:Addr}{fd:ak}{ps:List Str}{k:Nat}(M:Bq X.K c m C f)(F:cU X.prog X.w X.K X.mg X.base ff k f fd ps (cx X.K sp))(hr:fk k X.A)(hb:Binds X.K fd ps [])(t:∀ p∈ms,Oj X m p):∀ p∈(c,sp) :: ms,Oj X m p:=fun p h=>by
 rcases List.mem_cons.mp h with rfl | h
 ·exact⟨C,f,fd,ps,k,M,F,hr,hb⟩
 ·exact t p h
section
variable {X:Cx} {ms:List (Str×gM)} {m:Str} {apos pos:Pos} {o e:Expr} {es:List Expr} {to:eZ} {t:vh}
theorem vG{pl:Sem Bool}(Ms:∀ p∈ms,Oj X m p)(ho:gR X o to)(ha:x5 X (e :: es) t)
  (zZ:autoParam (aY (e :: es) X.env=(false,eval e X.env) :: aY es X.env) Ar._auto_1) (oC:autoParam ((fU pos (aY es X.env)).any (·.1)=false) Ar._auto_1)
  (ht:autoParam (eval (.Call (.Attribute o m apos) (e :: es) [] pos) X.env=(do
   let ov ← eval o X.env
   standAt apos.atName
   let (f,first) ← su [ov] (Lp ov m pl)
   callWith pos f first (fU pos (aY (e :: es) X.env)) (backToKw pos (Lo [] X.env)))) Ar._auto_1) :
  gR X (.Call (.Attribute o m apos) (e :: es) [] pos) (qB ms m to t):=by
 intro E pins s σ H τ G Q hE I h;refine sx (pl:=pl) (ki ho hE I h fun x H1 d G1 u s1 I1 m1 r1 km q1=>?_) ht;obtain⟨a,c,fs,sp,rfl,hg,U5,hl,q⟩:=q1;obtain⟨C,f,fd,ps,k,M,F,hr,hb⟩:=Ms _ U5;cases km;cases r1;obtain⟨C',dx,fv,hH,uR,hn,rs⟩:=I1.ab a _ hg;have yX:=M.ns.symm.trans uR;cases yX;refine sQ I1.inv hH M.cl M.me (vN fs fv hn hl) ?_;refine eQ (first:=[.ref a]) (h₀:=X.base) I.inv.ok.mod.Lc M.me.kp (rC ha pos hE I1 q fun vs H2 ds G2 us s2 kd m2 r rd q2=>⟨kd.inv.qr,?_⟩) zZ oC;refine fV (sF (us:=.ref a :: us) (vs:=.ref a :: vs) F hr hb .nil D5 kd.inv (.cons rfl r) (Q:=xw X.K H2 G2 Q) ?_) fun _ _ z=>(pq.of z).trans (m1.trans m2);rw [bW];exact⟨.ref a :: ds,G2,Q,.cons (.ref a) rd,kd.ab,q2,fun d G' v H' q' m' xH=>⟨d,G',m',xH,q'⟩⟩
theorem GD{pl:Sem Bool}(Ms:∀ p∈ms,Oj X m p)(ho:gR X o to)
  (ht:autoParam (eval (.Call (.Attribute o m apos) [] [] pos) X.env=(do
   let ov ← eval o X.env
   standAt apos.atName
   let (f,first) ← su [ov] (Lp ov m pl)
   callWith pos f first (fU pos (aY [] X.env)) (backToKw pos (Lo [] X.env)))) Ar._auto_1) :
  gR X (.Call (.Attribute o m apos) [] [] pos) (qB ms m to aW):=by
 intro E pins s σ H τ G Q hE I h;refine sx (pl:=pl) (ki ho hE I h fun x H1 d G1 u s1 I1 m1 r1 km q1=>?_) ht;obtain⟨a,c,fs,sp,rfl,hg,U5,hl,q⟩:=q1;obtain⟨C,f,fd,ps,k,M,F,hr,hb⟩:=Ms _ U5;cases km;cases r1;obtain⟨C',dx,fv,hH,uR,hnm,rs⟩:=I1.ab a _ hg;have yX:=M.ns.symm.trans uR;cases yX;refine sQ I1.inv hH M.cl M.me (vN fs fv hnm hl) ?_;refine PySem.W.callWith_K0 (first:=[.ref a]) I1.inv.qr M.me.kp (fV (sF (us:=[.ref a]) (vs:=[.ref a]) F hr hb .nil D5 I1.inv (.cons rfl .nil) (Q:=xw X.K H1 G1 Q) ?_) fun _ _ z=>(pq.of z).trans m1);exact⟨[.ref a],G1,Q,.cons (.ref a) .nil,I1.ab,q,fun d G' v H' q' m' xH=>⟨d,G',m',xH,q'⟩⟩
end
end K2
end
section
namespace K2
open PySem PySem.W PySem.Spec PyProof.Rows L2
theorem XH{α:Type}{us:List α}(h:us.length=7):∃ a b c d e f g,us=[a,b,c,d,e,f,g]:=by
 match us,h with
 | [a,b,c,d,e,f,g],_=>exact⟨a,b,c,d,e,f,g,rfl⟩
theorem Qe{K:Frag}{f:Str}:∀ c∈([]:List Str),gN K f c:=fun c h=>by cases h
theorem N6{K:Frag}{f x:Str}{l:List Str}(h:gN K f x)(t:∀ c∈l,gN K f c):∀ c∈x :: l,gN K f c:=fun c hc=>by
 rcases List.mem_cons.mp hc with rfl | hc
 ·exact h
 ·exact t c hc
theorem gF{K:Frag}{f x:Str}(h:gN K f x):∀ c∈[x],gN K f c:=N6 h Qe
structure Qn(K:Frag)(cn:Str)(C:Addr):Prop where
 ns:nsIn K aT cn=some (some (.ref C))
 cl:Rc K C
theorem zq {K:Frag} {cn:Str} {C:Addr} (a:autoParam (nsIn K aT cn=some (some (.ref C))) Aq._auto_1) (pg:autoParam (plainGet K C Str.empty=true) Aq._auto_1) (hd:autoParam (hasDictIn K C=true) Aq._auto_1) (po:autoParam (plainOver K C=true) Aq._auto_1) (sa:autoParam (Lq K (.ref C) "__setattr__" = some (some (.builtin "object.__setattr__"))) Aq._auto_1):Qn K cn C:=⟨a,⟨pg,hd,po,sa⟩⟩
theorem Qn.fld{K:Frag}{cn f:Str}{C:Addr}(c:Qn K cn C)(n:wm K C f):gN K f cn:=⟨C,c.ns,c.cl,n⟩
structure FG(K:Frag)(C:Addr)(m q:Str)(st:Stmt)(f:Addr)(fd:ak):Prop where
 at_:Lq K (.ref C) m=some (some (.ref f))
 fn:isFn K (.ref f)=true
 F:L2.kg K m q st f fd
theorem lK{K:Frag}{m q:Str}{C:Addr}{st:Stmt}{f:Addr}{oc:Value}{od an:Option Addr}{FA:Array (Option Value)}{kV doc pm iH ct:Value}(a:autoParam (Lq K (.ref C) m=some (some (.ref f))) Aq._auto_1)(fn:autoParam (isFn K (.ref f)=true) Aq._auto_1)(l:autoParam (K.lookup f=some ⟨oc,od,.func (fnOf m q (L2.iV st) (L2.eG st) (L2.aH st) .none kV doc pm an iH ct),FA⟩) Aq._auto_1)
  (c:autoParam (codeIn K iH q=true) Aq._auto_1) (k:autoParam (keepIn K (.ref f)=true) Aq._auto_1):FG K C m q st f (fnOf m q (L2.iV st) (L2.eG st) (L2.aH st) .none kV doc pm an iH ct):=⟨a,fn,L2.Nz l c k⟩
theorem FG.me{K:Frag}{C:Addr}{cn m q:Str}{st:Stmt}{f:Addr}{fd:ak}(z:FG K C m q st f fd)(c:Qn K cn C):Bq K cn m C f:=⟨c.ns,c.cl,⟨z.at_,z.fn,z.F.kp⟩⟩
theorem FG.maker {K:Frag} {C:Addr} {q:Str} {st:Stmt} {f:Addr} {fd:ak} (z:FG K C "__init__" q st f fd) (mk:makesIn K C=true) (kp:keepIn K (.ref C)=true):Mk K C f:=⟨mk,z.at_,z.fn,kp⟩
structure Fo(P:bx)(w:World)(K:Frag)(mg:Str->Option Value)(base:Heap)(CX:L2.Lh)(k:Nat)(f:Addr)(fd:ak)(C:Addr)(cn m:Str)(ps:List Str)(sp:L2.Sp):Prop where
 ok:L2.cU P w K mg base CX k f fd ps sp
 bi:L2.Binds K fd ps []
 me:Bq K cn m C f
structure HI(P:bx)(w:World)(K:Frag)(mg:Str->Option Value)(base:Heap)(k:Nat)(f:Addr)(fd:ak)(C:Addr)(cn:Str)(ps:List Str)(sp:L2.Sp):Prop where
 ok:L2.cU P w K mg base ff k f fd ps sp
 bi:L2.Binds K fd ps []
 R3:Mk K C f
 ns:nsIn K aT cn=some (some (.ref C))
 mg:mg cn=some (.ref C)
end K2
end
section
namespace K2
open PySem PySem.Spec PyProof.Rows L2
noncomputable def Jo(X:Cx)(m:Str)(p:Str×gM):Prop:=∃ (C f:Addr) (fd:ak) (ps:List Str) (k:Nat),Bq X.K p.1 m C f/\cU X.prog X.w X.K X.mg X.base (tF X.prog X.w) k f fd ps (lx X.K X.mg p.2)/\fk k X.A/\Binds X.K fd ps []
theorem AY{X:Cx}{m:Str}:∀ p∈([]:List (Str×gM)),Jo X m p:=fun p h=>by cases h
theorem ot{X:Cx}{m c:Str}{sp:gM}{ms:List (Str×gM)}{C f:Addr}{fd:ak}{ps:List Str}{k:Nat}(M:Bq X.K c m C f)(F:cU X.prog X.w X.K X.mg X.base (tF X.prog X.w) k f fd ps (lx X.K X.mg sp))(hr:fk k X.A)(hb:Binds X.K fd ps [])(t:∀ p∈ms,Jo X m p):∀ p∈(c,sp) :: ms,Jo X m p:=fun p h=>by
 rcases List.mem_cons.mp h with rfl | h
 ·exact⟨C,f,fd,ps,k,M,F,hr,hb⟩
 ·exact t p h
section
variable {X:Cx} {ms:List (Str×gM)} {m cn:Str} {D:Addr} {cat:List Str} {apos pos np Cy ep:Pos} {o e:Expr} {es:List Expr} {to:eZ} {t:vh} {th:fh} {Oz:Stmt} {wu:List Stmt}
theorem yw{pl:Sem Bool}(Ms:∀ p∈ms,Jo X m p)(ho:gR X o to)(ha:x5 X (e :: es) t)
  (zZ:autoParam (aY (e :: es) X.env=(false,eval e X.env) :: aY es X.env) Ar._auto_1) (oC:autoParam ((fU pos (aY es X.env)).any (·.1)=false) Ar._auto_1)
  (ht:autoParam (eval (.Call (.Attribute o m apos) (e :: es) [] pos) X.env=(do
   let ov ← eval o X.env
   standAt apos.atName
   let (f,first) ← su [ov] (Lp ov m pl)
   callWith pos f first (fU pos (aY (e :: es) X.env)) (backToKw pos (Lo [] X.env)))) Ar._auto_1) :
  gR X (.Call (.Attribute o m apos) (e :: es) [] pos) (u4 ms m to t):=by
 intro E pins s σ H τ G Q hE I h;refine sx (pl:=pl) (ki ho hE I h fun x H1 d G1 u s1 I1 m1 r1 km q1=>?_) ht;obtain⟨a,c,fs,sp,rfl,hg,U5,hl,q⟩:=q1;obtain⟨C,f,fd,ps,k,M,F,hr,hb⟩:=Ms _ U5;cases km;cases r1;obtain⟨C',dx,fv,hH,uR,hn,rs⟩:=I1.ab a _ hg;have yX:=M.ns.symm.trans uR;cases yX;refine sQ I1.inv hH M.cl M.me (vN fs fv hn hl) ?_;refine eQ (first:=[.ref a]) (h₀:=X.base) I.inv.ok.mod.Lc M.me.kp (rC ha pos hE I1 q fun vs H2 ds G2 us s2 kd m2 r rd q2=>⟨kd.inv.qr,?_⟩) zZ oC;refine fV (sF (E:=Vv X.K X.mg E) (us:=.ref a :: us) (vs:=.ref a :: vs) F hr hb .nil (fun pins σ H s e s' I hq=>hE.pass pins σ H s s' e I hq) kd.inv (.cons rfl r) (Q:=xw X.K H2 G2 Q) ?_) fun _ _ z=>(pq.of z).trans (m1.trans m2);rw [bW];exact⟨.ref a :: ds,G2,Q,E,.cons (.ref a) rd,kd.ab,q2,fun d G' v H' q' m' xH=>⟨d,G',m',xH,q'⟩,fun ex C H' G' q' KN Nh=>⟨ex,C,G',rfl,Nh,KN,q'⟩⟩
end
end K2
end
section
namespace K2
open PySem PySem.W PySem.Spec PyProof.Rows PySem.Calls
structure At(K:Frag)(x:Str)(st:Stmt)(f:Addr)(fd:ak):Prop where
 a:nsIn K aT x=some (some (.ref f))
 F:L2.kg K x x st f fd
theorem At.mg{K:Frag}{h:Heap}{mg:Str->Option Value}{x:Str}{st:Stmt}{f:Addr}{fd:ak}(z:At K x st f fd)(X:K.In h)(G:h.Ns aT mg):mg x=some (.ref f):=mg_of X G z.a
theorem fM{K:Frag}{x:Str}{st:Stmt}{f:Addr}{oc:Value}{od an:Option Addr}{FA:Array (Option Value)}{kV doc pm iH ct:Value}(a:autoParam (nsIn K aT x=some (some (.ref f))) Aq._auto_1)(l:autoParam (K.lookup f=some ⟨oc,od,.func (fnOf x x (L2.iV st) (L2.eG st) (L2.aH st) .none kV doc pm an iH ct),FA⟩) Aq._auto_1)
  (c:autoParam (codeIn K iH x=true) Aq._auto_1) (k:autoParam (keepIn K (.ref f)=true) Aq._auto_1):At K x st f (fnOf x x (L2.iV st) (L2.eG st) (L2.aH st) .none kV doc pm an iH ct):=⟨a,L2.Nz l c k⟩
structure nW(P:bx)(w:World)(K:Frag)(mg:Str->Option Value)(base:Heap)(CX:L2.Lh)(k:Nat)(f:Addr)(fd:ak)(x:Str)(ps:List Str)(sp:L2.Sp):Prop where
 ok:L2.cU P w K mg base CX k f fd ps sp
 mg:mg x=some (.ref f)
 kp:keepIn K (.ref f)=true
 bi:L2.Binds K fd ps []
end K2
end
section
namespace L2
open PySem PySem.Spec PyProof.Rows K2
noncomputable abbrev KR(h h':Heap):Prop:=∀ b o,h.get? b=some o->h'.get? b=some o
section
variable {prog:bx} {w:World} {A:cI} {E:Value->au->Prop} {s:au} {l q it S:Addr} {vs:List Value} {R:Result->au->Prop} {Q:Value->au->Prop} {kv:Nat->Value} {lt:Nat->Nat->Bool}
noncomputable def Q7(prog:bx)(w:World)(A:cI)(s:au)(q:Addr)(vs:List Value)(kv:Nat->Value):Prop :=
 ∀ (i:Nat) (v:Value),vs[i]?=some v->∀ (h:Heap) (tk:Nat),KR s.heap h ->
  wpAny (model prog w) A.in1 (call (.ref q) [v]) (fun x s'=>x=kv i/\∃ (h':Heap) (Oy:Nat),s'={ s with heap:=h',toks:=Oy }/\KR h h') (fun _ _=>False) { s with heap:=h,toks:=tk }
noncomputable def VM(A:cI)(s:au)(n:Nat)(kv:Nat->Value)(lt:Nat->Nat->Bool):Prop :=
 ∀ (i j:Nat),i < n->j < n->∀ (h:Heap) (tk:Nat),KR s.heap h->Dj A.in1 { s with heap:=h,toks:=tk } (kv i) (kv j) (lt i j)
theorem Cj:(toString "min"++toString ".loop" : String) = "min.loop":=by decide
theorem PB(hh:A.handled=none)(hl:s.heap.IsList l vs.toArray)(hI:s.heap.objs.size<=it)(hS:s.heap.objs.size<=S)(pD:S≠it)(turn:Q7 prog w A s q vs kv)(cmp:VM A s vs.length kv lt)
  (fin:∀ v h' Oy,vs[AA lt (vs.length - 1)]?=some v->KR s.heap h'->R (.ok (.ret v)) { s with heap:=h',toks:=Oy }) :
  ∀ (r j:Nat) (h:Heap) (tk:Nat) (vb:Value) (c:Nat),vs.length - (j+1)=r->j+1<=vs.length->KR s.heap h->h.get? S=some (seqObj "list" #[vb,kv (AA lt j)] c)->h.IsListIter it l (j+1)->vs[AA lt j]?=some vb ->
   pJ (model prog w) A (.builtin "min.loop" ⟨[.ref it,.ref q,.ref S],[]⟩) R { s with heap:=h,toks:=tk }:=by
 have JZ:∀ b o,s.heap.get? b=some o->b≠it:=fun b o e=>bq (bg (aL e) hI);have Pr:∀ b o,s.heap.get? b=some o->b≠S:=fun b o e=>bq (bg (aL e) hS);obtain⟨ol,U2,Sr⟩:=id hl;have hlI:l≠it:=JZ _ _ U2;have isl:∀ h,KR s.heap h->h.IsList l vs.toArray:=fun h k=>⟨ol,k _ _ U2,Sr⟩;have W:=Walks.list (prog:=prog) (w:=w) (A:=A.in1) hh it l hlI vs.toArray;have hsz:vs.toArray.size=vs.length:=aM ..;intro r;induction r with
 | zero =>
  intro j h tk vb c hr hj k gS hit X6;have Yu:j+1=vs.length:=by lia
  refine fT rz ?_;rw [dH dW _];show wpAny _ A.in1 (Dy (.ref S) >>= _) _ _ _;refine aw (kh gS rfl ?_);show wpAny _ A.in1 (tryCatch (Ln (.ref it)) _ >>= _) _ _ _;refine aw (fS (W.done _ _ _ ⟨by rw [hsz,<-Yu]; exact hit,isl h k⟩ fun h' Oy Dv=>?_));have gS':=Dv S _ (by simpa using pD) gS;show wpAny _ A.in1 (Lj S (fun _=>#[]) >>= _) _ _ _;refine aw (ib gS' rfl (aw (ky (aZ ?_))));refine fin vb _ _ (by rw [show vs.length - 1=j by lia]; exact X6) fun b o e=>?_;exact((rR h' S (fC fun _=>(#[]:Array Value))).2 b (Pr b o e)).trans (Dv b o (by simpa using JZ b o e) (k b o e))
 | succ r ih =>
  intro j h tk vb c hr hj k gS hit X6;have wR:j+1 < vs.length:=by lia
  refine fT rz ?_;rw [dH dW _];show wpAny _ A.in1 (Dy (.ref S) >>= _) _ _ _;refine aw (kh gS rfl ?_);show wpAny _ A.in1 (tryCatch (Ln (.ref it)) _ >>= _) _ _ _;refine aw (fS (W.item (j+1) _ _ _ (by rw [hsz]; exact wR) ⟨hit,isl h k⟩ fun v h' Oy hP Sl Dv=>?_));have hv:vs[j+1]?=some v:=by simpa using hP
  have k1:KR s.heap h':=fun b o e=>Dv b o (by simpa using JZ b o e) (k b o e);have YO:=Dv S _ (by simpa using pD) gS;obtain⟨oI,gI,oc,od⟩:=id Sl.1;show wpAny _ A.in1 (tryCatch (su [v] (call (.ref q) [v])) _ >>= _) _ _ _;refine aw (fS (dv (gO (turn (j+1) v hv h' Oy k1) (fun x Uk he=>?_) fun _ _ hF=>hF.elim)));obtain⟨rfl,h2,Ru,rfl,kk⟩:=he;have k2:KR s.heap h2:=fun b o e=>kk b o (k1 b o e);have Tz:=kk _ _ YO;have Wj:=kk _ _ gI;have hb:=Oe lt j;show wpAny _ A.in1 (tryCatch (su [v,kv (j+1)] (mC .Lt (kv (j+1)) (kv (AA lt j)) >>= _)) _ >>= _) _ _ _;refine aw (fS (dv (aw (cmp (j+1) (AA lt j) wR (by lia) h2 Ru k2 prog w _ _ ?_))));refine aw (dv (FJ ?_));refine aw (ky (aZ ?_));cases hc:lt (j+1) (AA lt j) with
  | true =>
   have Vj:AA lt (j+1)=j+1:=by unfold AA; rw [if_pos hc]
   have s1:=rR h2 S (fC fun _=>#[v,kv (j+1)]);obtain⟨c2,Er⟩:∃ c2,(h2.update S (fC fun _=>#[v,kv (j+1)])).get? S=some (seqObj "list" #[v,kv (j+1)] c2):=⟨_,get?_update_seq Tz fun _=>#[v,kv (j+1)]⟩;simp only [if_true];refine aw (ib Tz rfl (aw (ky ?_)));rw [Cj];exact aZ ⟨fN dW _,ih (j+1) _ _ v c2 (by lia) wR (fun b o e=>(s1.2 b (Pr b o e)).trans (k2 b o e)) (by rw [Vj]; exact Er) ⟨oI,(s1.2 it pD.symm).trans Wj,oc,od⟩ (by rw [Vj]; exact hv)⟩
  | false =>
   have Vj:AA lt (j+1)=AA lt j:=by
    show (if lt (j+1) (AA lt j)=true then j+1 else AA lt j)=_;rw [hc]; rfl
   simp only [ay,if_false];refine aw (ky ?_);rw [Cj];exact aZ ⟨fN dW _,ih (j+1) _ _ vb c (by lia) wR k2 (by rw [Vj]; exact Tz) ⟨oI,Wj,oc,od⟩ (by rw [Vj]; exact X6)⟩
theorem R4(hh:A.handled=none)(hl:s.heap.IsList l vs.toArray)(pD:0 < vs.length)(turn:Q7 prog w A s q vs kv)(cmp:VM A s vs.length kv lt)
  (fin:∀ v h' Oy,vs[AA lt (vs.length - 1)]?=some v->KR s.heap h'->Q v { s with heap:=h',toks:=Oy }) :
  wpAny (model prog w) A (call (.builtin "min") [.ref l] [(vw "key",.ref q)]) Q E s:=by
 obtain⟨ol,U2,Sr⟩:=id hl;refine kmk_tree PySem.F.kind_min PySem.F.plain_min PySem.F.entry_min (kmk_min_key _ _) ?_;show wpAny _ A.in1 (ku "min" ["key","default"] 0 ⟨[],[(vw "key",.ref q)]⟩ >>= _) _ _ s;refine aw (wpAny_of_eq (show _=pure [some (.ref q),none] from rfl) ?_);refine aw (aZ (aw (FK hl (aw (wpAny_newList ?_ (cg _))))));rw [Cj];generalize hI:({ cls:=.type "list_iterator",data:=.fields #[.ref l,.int 0 0] }:Obj)=oI;have z1:(s.heap.push oI).objs.size=s.heap.objs.size+1:=size_push' ..;have Tx:(s.heap.push oI).objs.size≠s.heap.objs.size:=by rw [z1]; exact Nat.succ_ne_self _
 refine aZ ⟨fN dW _,?_⟩;have kH:KR s.heap ((s.heap.push oI).push (seqObj "list" #[] 0)):=fun b o e=>aA _ (aA _ e);have gI:((s.heap.push oI).push (seqObj "list" #[] 0)).get? s.heap.objs.size=some oI:=aA _ (bE _ (by rw [<-hI]; rfl));have gS:((s.heap.push oI).push (seqObj "list" #[] 0)).get? (s.heap.push oI).objs.size=some (seqObj "list" #[] 0):=bE _ rfl;have JZ:∀ b o,s.heap.get? b=some o->b≠s.heap.objs.size:=fun b o e=>bq (aL e);have Pr:∀ b o,s.heap.get? b=some o->b≠(s.heap.push oI).objs.size:=fun b o e=>by rw [z1]; exact bq (Bt (aL e))
 have W:=Walks.list (prog:=prog) (w:=w) (A:=A.in1) hh s.heap.objs.size l (JZ _ _ U2) vs.toArray;refine fT rz ?_;rw [dH dW _];show wpAny _ A.in1 (Dy (.ref _) >>= _) _ _ _;refine aw (kh gS rfl ?_);show wpAny _ A.in1 (tryCatch (Ln (.ref s.heap.objs.size)) _ >>= _) _ _ _;refine aw (fS (W.item 0 _ _ _ (by rw [aM]; exact pD) ⟨⟨_,gI,by cases hI; rfl,by cases hI; rfl⟩,⟨ol,kH _ _ U2,Sr⟩⟩ fun v h' Oy hP Sl Dv=>?_));have hv:vs[0]?=some v:=by simpa using hP
 obtain⟨oI',gI',oc,od⟩:=id Sl.1;have k1:KR s.heap h':=fun b o e=>Dv b o (by simpa using JZ b o e) (kH b o e);have YO:=Dv _ _ (by simpa using Tx) gS;show wpAny _ A.in1 (tryCatch (su [v] (call (.ref q) [v])) _ >>= _) _ _ _;refine aw (fS (dv (gO (turn 0 v hv h' Oy k1) (fun x Uk he=>?_) fun _ _ hF=>hF.elim)));obtain⟨rfl,h2,Ru,rfl,kk⟩:=he;have Tz:=kk _ _ YO;have Wj:=kk _ _ gI';have s1:=rR h2 (s.heap.push oI).objs.size (fC fun _=>#[v,kv 0]);obtain⟨c2,Er⟩:∃ c2,(h2.update (s.heap.push oI).objs.size (fC fun _=>#[v,kv 0])).get? (s.heap.push oI).objs.size=some (seqObj "list" #[v,kv 0] c2):=⟨_,get?_update_seq Tz fun _=>#[v,kv 0]⟩;show wpAny _ A.in1 (Lj (s.heap.push oI).objs.size (fun _=>#[v,kv 0]) >>= _) _ _ _;refine aw (ib Tz rfl ?_);rw [Cj];exact aZ ⟨fN dW _,PB hh hl (aQ _) (by rw [z1]; exact yc _) Tx turn cmp fin _ 0 _ _ v c2 rfl pD (fun b o e=>(s1.2 b (Pr b o e)).trans (kk b o (k1 b o e))) Er ⟨oI',(s1.2 _ Tx.symm).trans Wj,oc,od⟩ hv⟩
end
end L2
end
section
namespace K2
open PySem PySem.Spec PyProof.Rows L2 PySem.W
structure Ol(X:Cx)(c P:Addr):Prop where
 code:X.env.code=.ref c
 hd:CodeHd X.base c P
 bm:∃ bm ob,X.mg "__builtins__" = some (.ref bm)/\bm≠tK/\X.base.get? bm=some ob/\ob.cls=.type "module"/\ob.dict=some tK/\ob.data=.plain
section
variable {X:Cx} {pins:List (Addr×Obj)} {σ:L2.St} {H:Hp} {s:au} {c P:Addr} {q:Str} {params:LF} {body:Expr} {scope:Scope} {pos:Pos} {E:Value->au->Prop} {Q:Value->au->Prop}
theorem Inv.grown(I:Inv X pins σ H s)(hT:H P=some (.rD q)){ps:Array Value}(gP:s.heap.get? P=some (tabObj ps)){h':Heap}{tk:Nat}{c':Addr}(tr:TriplesOk (ps++#[rN pos.line,rN pos.col,.ref c']).toList)
  (cs:∀ p cv,lr p ps.toList=some cv->∃ c',cv=.ref c'/\H c'=some (.own P)/\s.heap.CodeRec (.ref c') q) (ce:∀ p cv,lr p (ps++#[rN pos.line,rN pos.col,.ref c']).toList=some cv->lr p ps.toList=some cv\/cv=.ref c')
  (hx:Heap.ExtBut P s.heap h') (Vc:s.heap.objs.size<=c') (Cu:h'.CodeRec (.ref c') q) (V4:h'.get? P=some (tabObj (ps++#[rN pos.line,rN pos.col,.ref c']))):Inv X pins σ (upd H c' (.own P)) { s with heap:=h',toks:=tk }:=by
 have hn:H c'=none:=I.cF.fresh Vc;have nP:∀ b,H b=none->b≠P:=fun b e z=>by rw [z,hT] at e; cases e
 have nc:∀ b o,s.heap.get? b=some o->b≠c':=fun b o e=>bq (bg (aL e) Vc);refine I.step (g':=s.gens) (d':=s.drawn) (ch:=[]) (fun _ z=>nomatch z) (fun b o _ _ _ e n=>hx b o (nP b n) e) (fun b o _ _ _ e n=>⟨o.slots,hx b o (nP b n) e⟩) (fun b o _ e n=>by rw [bj (nc b o e)]; exact n) (fun b o _ e=>?_)
  (fun b xs e=>by rw [bj (bX e hn)]; exact e) (fun b o u e=>by rw [bj (bX e hn)]; exact e) (fun b u e=>by rw [bj (bX e hn)]; exact e) (fun b u e=>by rw [bj (bX e hn)]; exact e) (fun m hm=>?_) (fun b u e=>?_) I.bare
 ·by_cases hb:b=P
  ·rw [hb]; exact⟨_,V4⟩
  ·exact⟨o,hx b o hb e⟩
 ·obtain⟨o,es,ep,ho,r⟩:=hm;exact⟨o,es,ep,hx _ o (nP _ I.free) ho,r⟩
 ·by_cases hb:b=c'
  ·subst hb;rw [bV] at e;cases e;obtain⟨_,oc,_,_,e3,e4,_⟩:=Cu;cases e3;exact⟨oc,e4⟩
  ·rw [bj hb] at e;by_cases Wd:b=P
   ·subst Wd;rw [hT] at e;cases e;refine⟨_,V4,tr,fun p cv y=>?_⟩;rcases ce p cv y with y | rfl
    ·obtain⟨d,e1,e2,c2,oc,vs,tq,e3,e4,r⟩:=cs p cv y;cases e3;exact⟨d,e1,by rw [bj (bX e2 hn)]; exact e2,d,oc,vs,tq,rfl,hx _ _ (fun z=>by rw [z,hT] at e2; cases e2) e4,r⟩
    ·exact⟨c',rfl,bV,Cu⟩
   ·refine(I.cF b u e).iK (fun d v hd r=>hx d v ?_ r) (fun d z=>by rw [bj (bX z hn)]; exact z) (fun d xs z=>by rw [bj (bX z hn)]; exact z);rcases hd with rfl | hd
    ·exact Wd
    ·rintro rfl;rw [hT] at hd; cases hd
theorem Hy{p pos:Pos}{cv c:Value}:∀ (l:List Value),TriplesOk l->lr p (l++[rN pos.line,rN pos.col,c])=some cv->lr p l=some cv\/cv=c:=by
 intro l
 fun_induction lr p l
 ·rename_i hc;intro _ h;left;simpa only [aB,lr,hc,if_true] using h
 ·rename_i hc ih;intro tr h;exact ih tr (by simpa only [aB,lr,hc,ay,if_false] using h)
 ·rename_i l hl;intro tr h;cases l with
  | nil =>
   right;simp only [aG,rN,lr] at h;split at h
   ·exact(ba h).symm
   ·cases h
  | cons a l =>
   exfalso;unfold TriplesOk at tr;split at tr
   ·rename_i e; cases e
   ·rename_i e; exact hl _ _ _ _ _ _ e
   ·exact tr
theorem MW (I:Inv X pins σ H s) (hT:H P=some (.rD q)) (L:Ol X c P) (hq:X.env.qual++"<lambda>" = q) (Cz:FN scope X.env=pure []) (SI:defaultsOf params X.env=([],[]))
  (h:∀ (f c':Addr) (Je pm:Value) (h':Heap) (tk:Nat) (H':Hp),(∀ G,jQ X.K H G->Mv X.K H G H' G)->Inv X pins σ H' { s with heap:=h',toks:=tk }->h'.get? f=some (kla_obj "<lambda>" q params body scope [] pm c' Je)->h'.CodeRec (.ref c') q ->
   Q (.ref f) { s with heap:=h',toks:=tk }):wpAny (model X.prog X.w) X.A (eval (.Lambda params body scope pos) X.env) Q E s:=by
 refine kla_eval SI ?_;rw [hq];obtain⟨ps,gP,tr,cs⟩:=I.cF P _ hT;have Wb:=I.mod.glob.keeps I.bk;have hgP:aT≠P:=fun z=>by
  obtain⟨o,es,ep,e,hd,_⟩:=Wb;rw [z,gP] at e; cases e; cases hd
 obtain⟨bm,ob,b1,b2,b3,b4,b5,b6⟩:=L.bm;have Wd:bm≠P:=fun z=>by
  have e:=I.bk _ _ b3;rw [z,gP] at e; cases e; cases b4
 have hbG:bm≠aT:=fun z=>by
  obtain⟨o,es,ep,e,hd,_⟩:=Wb;have e2:=I.bk _ _ b3;rw [z,e] at e2; cases e2; rw [hd] at b6; cases b6
 have HB:s.heap.BuiltinsAt X.mg P:=⟨bm,ob,b1,b2,hbG,Wd,I.bk _ _ b3,b4,b5,b6⟩;cases ha:lr pos ps.toList with
 | none =>
  refine kla_makeFunction (mg:=X.mg) Cz I.ok.glob Wb L.code (L.hd.keeps I.bk) gP tr ha hgP HB fun c' Je h' tk hx Vc wR Cu V4=>?_;have hl:(ps++#[rN pos.line,rN pos.col,eP c']).toList=ps.toList++[rN pos.line,rN pos.col,.ref c']:=by simp
  have I1:=Inv.grown (tk:=tk) I hT gP (by rw [hl]; exact TriplesOk_snoc _ _ _ _ tr) cs (fun p cv y=>Hy _ tr (by rw [<-hl]; exact y)) hx Vc Cu V4;have hn:H c'=none:=I.cF.fresh Vc;have I2:=I1.kept (h':=h'.push (kla_obj "<lambda>" q params body scope [] ((X.mg "__name__").getD .none) c' Je)) (t':=tk) fun b o e=>aA _ e;refine h h'.objs.size c' Je _ _ tk _ (fun G ab=>.Ld ab hn) I2 (bE _ rfl) ?_;obtain⟨c2,oc,vs,t,e3,e4,r⟩:=Cu;exact⟨c2,oc,vs,t,e3,aA _ e4,r⟩
 | some cv =>
  obtain⟨c',rfl,_,c2,oc,vs,t,e3,e4,r⟩:=cs pos cv ha;refine kla_makeFunctionHit (mg:=X.mg) Cz I.ok.glob Wb L.code (L.hd.keeps I.bk) gP tr ha HB fun Je h' tk hk hsz=>?_;have I2:=I.kept (h':=h'.push (kla_obj "<lambda>" q params body scope [] ((X.mg "__name__").getD .none) c' Je)) (t':=tk) fun b o e=>aA _ (hk b o e);exact h h'.objs.size c' Je _ _ tk _ (fun G ab=>.refl ab) I2 (bE _ rfl) ⟨c2,oc,vs,t,e3,aA _ (hk _ _ e4),r⟩
end
theorem MX{prog:bx}{w:World}{A:cI}{s:au}{f c':Addr}{q x:Str}{params:LF}{scope:Scope}{pm Je:Value}{t:Addr}{its:List Value}{v0:Value}{p1 p2 p3:Pos}{j1:Nat}{E:Value->au->Prop}{Q:Value->au->Prop}
  (hf:s.heap.get? f=some (kla_obj "<lambda>" q params (.Subscript (.Name x p1) (.Constant (.int 0) j1 p2) p3) scope [] pm c' Je)) (hc:s.heap.CodeRec (.ref c') q) (hd:A.depth < OK) (SA:s.heap.NoLimit) (ht:IsTup s.heap t its.toArray) (h0:its[0]?=some v0)
  (Es:∀ u,bindArgs (kla_fn "<lambda>" q params (.Subscript (.Name x p1) (.Constant (.int 0) j1 p2) p3) scope [] pm (.ref c') Je) ⟨[u],[]⟩=pure [(x,u)]) (hx:scope.names.lookup x=some .local) (YD:scope.isCoroutine=false) (SF:scope.isGenerator=false) (hk:scope.kind=.function)
  (kI:∀ y∈scope.names,y.2≠.cell) (uS:(x == ("__debug__" : Str))=false)
  (h:∀ h' tk,KR s.heap h'->Q v0 { s with heap:=h',toks:=tk }):wpAny (model prog w) A (call (.ref f) [.ref t]) Q E s:=by
 refine zH (kla_callFunE hd hf rfl YD SF rfl hc ?_);rw [Es];refine aZ (wpAny_newFunctionEnv kI (fun y hy=>by rw [List.mem_singleton.mp hy]; exact hx) (fun mO uR V6=>⟨SA.fresh _ V6,?_⟩) hk);have QO:KR s.heap mO:=fun b o e=>V6.extBut b o (bq (aL e)) (aA _ e);refine kla_codeExpr (Subscript_ (wpAny_Name (wpAny_loadName_local hk hx uR (v:=.ref t) (by simp) ?_) uS));refine wpAny_Constant_int ?_;have ht1:IsTup mO t its.toArray:=let ⟨o,e,r⟩:=ht; ⟨o,QO _ _ e,r⟩
 have hz:0 < its.toArray.size:=by rw [aM]; exact(List.getElem?_eq_some_iff.mp h0).1
 refine w5 (x:=v0) ht1.typeIs PySem.F.slot_tuple_getitem.lookup (getItem_tuple (j:=0) (Q:=fun r s'=>r=v0/\_) ht1 (by decide) (by decide) ?_ (by simpa using h0) ⟨rfl,?_⟩) rfl
 ·rw [Lm (Int.le_refl 0) (by simpa using hz)]; rfl
 ·exact h _ _ QO
section
variable {X:Cx}
theorem PQ{K:ag}{H:Hp}{G:Gp}{v:V}{d:D}{ds:List D}(h:IsL G d ds)(ab:jQ K H G)(r:bS K H v d):∃ l vs,v=.ref l/\wZ K H l vs/\a4 K H vs ds:=by
 rcases h with rfl | ⟨a,rfl,e⟩
 ·cases r with
  | da hq rs=>exact⟨_,_,rfl,hq.sq,rs⟩
 ·cases r with
  | ref =>
   obtain⟨vs,hv,rs⟩:=ab.lst e;exact⟨a,vs,rfl,.of hv,rs⟩
variable {a:Expr} {ta:eZ} {pos p kp p1 p2 p3 XE:Pos} {j1:Nat} {c P:Addr} {q x:Str} {params:LF} {scope:Scope}
theorem MA (hT:X.AG P=some (.rD q)) (L:Ol X c P) (hr:fk 1 X.A) (hg:Gl X "min") (hm:X.mg "min" = none) (ha:gR X a ta) (hc:autoParam (X.calm=true) Ar._auto_1) (hq:autoParam (X.env.qual++"<lambda>" = q) Ar._auto_1) (Cz:autoParam (FN scope X.env=pure []) Ar._auto_1) (SI:autoParam (defaultsOf params X.env=([],[])) Ar._auto_1)
  (Es:autoParam (∀ pm c' Je u,bindArgs (kla_fn "<lambda>" q params (.Subscript (.Name x p1) (.Constant (.int 0) j1 p2) p3) scope [] pm (.ref c') Je) ⟨[u],[]⟩=pure [(x,u)]) Aj._auto_1) (hx:autoParam (scope.names.lookup x=some .local) Ar._auto_1) (YD:autoParam (scope.isCoroutine=false) Ar._auto_1) (SF:autoParam (scope.isGenerator=false) Ar._auto_1) (hk:autoParam (scope.kind=.function) Ar._auto_1)
  (kI:autoParam (∀ y∈scope.names,y.2≠.cell) Ad._auto_1) (uS:autoParam ((x == ("__debug__" : Str))=false) Ad._auto_1) (hs:autoParam (aY [a] X.env=[(false,eval a X.env)]) Ar._auto_1) :
  gR X (.Call (.Name "min" p) [a] [⟨some "key",.Lambda params (.Subscript (.Name x p1) (.Constant (.int 0) j1 p2) p3) scope XE,kp⟩] pos) (NW ta):=by
 intro E pins s σ H τ G Q hE I h;have hA:x5 X [a] (ax ta aW):=ah ha aF hs;refine bZ (kA I.inv hg hm rfl (callWith_builtin_kwB ?_ rfl ?_))
 ·rw [hs]; rfl
 rw [show fU pos (aY [a] X.env)=(false,eval a X.env) :: [] from by rw [hs]; rfl];refine evalArgs_kwB rfl ?_;rw [show ((false,eval a X.env) :: []:List (Bool×Sem Value))=fU pos (aY [a] X.env) from by rw [hs]; rfl];refine rC hA pos hE I (R:=Uw fun x G1=>GL x G1 Q) h fun vs H1 ds G1 us s1 I1 m1 r1 km q1=>?_;refine kws_cons (MW I1.inv (I1.inv.base.nh P q hT) L hq Cz SI fun f c' Je pm h' tk H2 mv I2 gf Cu=>kws_nil ?_)
 match ds,q1 with
 | [d],q1 =>
  obtain⟨ds,sh,kf,il,pD,V9,fin⟩:GL d G1 Q:=q1;obtain⟨v,rfl,rv⟩:=km.one;obtain⟨u,rfl,ru⟩:=r1.one;have m2:=mv G1 I1.ab;obtain⟨l,ws,rfl,sq,rs⟩:=PQ il m2.ab (rv.mono (m2.kp I1.ab));cases ru;obtain⟨its,WV,pl,hz⟩:=I2.list sq;have l1:=WV.length;have l2:=rs.length;show wpAny (model X.prog X.w) X.A (call (.builtin "min") [.ref l] [(vw "key",.ref f)]) _ _ _;have ex:∀ i:Nat,∃ kv:Value,∀ u,its[i]?=some u->∃ t Ts,u=.ref t/\IsTup h' t (List.toArray Ts)/\Ts[0]?=some kv/\∃ as,Reads h' kv (pd (kf i)) as:=by
   intro i;by_cases hi:i < its.length
   ·obtain⟨d,hd⟩:∃ d,ds[i]?=some d:=⟨_,bf (by lia)⟩;obtain⟨k,r,rfl,sn,V5⟩:=V9 i _ hd;obtain⟨w,hw,rE⟩:=rs.get hd;obtain⟨u,hu,ru⟩:=WV.get hw;cases rE with
    | tup ht rts =>
     cases rts with
     | cons rk _ =>
      cases ru;obtain⟨Ts,rj,pt,_⟩:=I2.tuple (.of ht);obtain⟨u0,X7,rk2⟩:=Vals.get rj (i:=0) rfl;obtain⟨as,Mc⟩:=(iy I2 m2.ab sn).1 _ _ rk rk2;refine⟨u0,fun u' IK=>?_⟩;rw [hu] at IK;cases IK;exact⟨_,_,rfl,pt,X7,as,Mc⟩
   ·exact⟨.none,fun u hu=>absurd (List.getElem?_eq_some_iff.mp hu).1 hi⟩
  obtain⟨kv,hkv⟩:=Classical.axiomOfChoice ex;have Vg:∀ i,i < its.length->(pd (kf i)).depth<=SN/\eA sh (kf i)=true/\nr (kf i)=true:=fun i hi=>by
   obtain⟨d,hd⟩:∃ d,ds[i]?=some d:=⟨_,bf (by lia)⟩;obtain⟨k,r,rfl,sn,V5⟩:=V9 i _ hd;exact⟨CT sn,V5,sn.nr⟩
  have Yd:∀ i,i < its.length->∃ as,Reads h' (kv i) (pd (kf i)) as:=fun i hi=>by
   obtain⟨t,Ts,_,_,_,as,rd⟩:=hkv i _ (bf hi);exact⟨as,rd⟩
  refine R4 (s:={ s1 with heap:=h',toks:=tk }) (vs:=its) (kv:=kv) (lt:=fun i j=>yJ (kf i) (kf j)) (I2.ok.hd hc) pl.isList (by lia) (fun i u hu h2 Ru PM=>?_) (fun i j hi hj h2 Ru PM=>?_) fun u h2 Ru hu PM=>?_
  ·obtain⟨t,Ts,rfl,pt,h0,_⟩:=hkv i u hu;have UZ:h2.CodeRec (.ref c') q:=let ⟨c2,oc,vs,t,e3,e4,r⟩:=Cu; ⟨c2,oc,vs,t,e3,PM _ _ e4,r⟩
   refine MX (s:={ s1 with heap:=h2,toks:=Ru }) (its:=Ts) (PM _ _ gf) UZ hr.in1.depth (I2.nolimit.keeps PM) (let ⟨o,e,r⟩:=pt; ⟨o,PM _ _ e,r⟩) h0 (Es pm c' Je) hx YD SF hk kI uS fun h3 tk3 kp3=>⟨rfl,h3,tk3,rfl,kp3⟩
  ·obtain⟨d1,s1',n1⟩:=Vg i hi;obtain⟨d2,s2',n2⟩:=Vg j hj;obtain⟨as,ra⟩:=Yd i hi;obtain⟨bs,rb⟩:=Yd j hj;have hun:=hr.in1.units;exact GW _ sh _ _ _ _ _ _ as bs (aQ _) s1' s2' n1 n2 (Reads.keeps PM ra) (Reads.keeps PM rb) (by unfold SN at d1; lia)
  ·have e:its.length=ds.length:=by lia
   rw [e] at hu;obtain⟨w,hw⟩:∃ w,ws[AA (fun i j=>yJ (kf i) (kf j)) (ds.length - 1)]?=some w:=⟨_,bf (by have:=(List.getElem?_eq_some_iff.mp hu).1; lia)⟩;obtain⟨u',IK,rE⟩:=Vals.get WV hw;rw [hu] at IK;cases IK;obtain⟨d,hd,rdw⟩:=rs.YN hw;exact⟨w,H2,d,G1,I2.kept (t':=Ru) PM,m1.trans m2,rE,rdw,fin d hd⟩
 | [],q1=>exact q1.elim
 | _ :: _ :: _,q1=>exact q1.elim
end
noncomputable abbrev Tb(P:Addr)(q:Str):Hp->Prop:=fun H=>H P=some (.rD q)
noncomputable def kj(T:Hp->Prop)(K:Frag)(sp:gM):Sp:=fun vs H Q E=>T H/\cx K sp vs H Q E
structure Dk(mg:Str->Option Value)(base:Heap)(c P:Addr):Prop where
 hd:CodeHd base c P
 bm:∃ bm ob,mg "__builtins__" = some (.ref bm)/\bm≠tK/\base.get? bm=some ob/\ob.cls=.type "module"/\ob.dict=some tK/\ob.data=.plain
theorem Dk.lam{CX:Lh}{P:bx}{w:World}{K:Frag}{mg:Str->Option Value}{base:Heap}{N:List Str}{qual:Str}{scope:Scope}{f c Pt:Addr}{A:cI}{outer:List Env}{s:au}{H:Hp}{E:XK}(h:Dk mg base c Pt):Ol (qF CX P w K mg base N qual scope f (.ref c) A outer s H E).OA c Pt:=⟨rfl,h.hd,h.bm⟩
theorem P0{P:bx}{w:World}{K:Frag}{mg:Str->Option Value}{base:Heap}{x qual:Str}{st:Stmt}{f:Addr}{fd:ak}{Nn ps:List Str}{k:Nat}{sp:gM}{rd:fh}{T:Hp->Prop}(F:kg K x qual st f fd)(S:bF Nn ps (aH st))(len:∀ ds G Q E,sp ds G Q E->ds.length=ps.length)
  (hr:∀ ds G Q,sp ds G Q (fun _ _=>False)->rd (fun _ _=>False) (ends Q) (aX Nn.length ds) G)
  (hb:∀ (iH:Value) (A:cI) (outer:List Env) (s:au) (H:Hp) (E:XK),fd.code=iH->T H->fk k (A.deeper (rO qual (aH st) s.heap.objs.size f iH))->oN (qF ff P w K mg base Nn qual (aH st) f iH A outer s H E).OA (eG st) rd):cU P w K mg base ff (k+1) f fd ps (kj T K sp):=by
 obtain⟨oc,od,kV,doc,pm,an,iH,ct,FA,rfl,lk,zL⟩:=F.ex;refine IQ lk zL S ((by rintro vs H Q E ⟨_,ds,G,Q2,r,ab,q,_⟩; exact by rw [r.length]; exact len _ _ _ _ q)) ?_;rintro A outer s H vs Q E yW ⟨hT,ds,G,Q2,r,ab,q,kk⟩;have YF:=Cd (hb iH A outer s H E rfl hT yW) (E:=fun _ _=>False) (Lk.none fun _ _ z=>z);refine⟨_,YF.OA,?_⟩;exact⟨aX Nn.length ds,G,ends Q2,tW r,ab,hr ds G Q2 q,fun iJ H' l7 G' mv z=>kk _ _ _ _ z mv .dI,fun v H' d G' mv RG z=>kk _ _ _ _ z mv RG,fun _ _ z=>z,fun _ _ z=>z⟩
theorem Wk{P:bx}{w:World}{K:Frag}{mg:Str->Option Value}{base:Heap}{x qual:Str}{st:Stmt}{f:Addr}{fd:ak}{Nn ps:List Str}{k:Nat}{sp:gM}{rd:fh}{T:Hp->Prop}(F:kg K x qual st f fd)(S:bF Nn ps (aH st))
  (hr:∀ ds G Q,sp ds G Q (fun _ _=>False)->rd (fun _ _=>False) (ends Q) (aX Nn.length ds) G)
  (hb:∀ (iH:Value) (A:cI) (outer:List Env) (s:au) (H:Hp) (E:XK),fd.code=iH->T H->fk k (A.deeper (rO qual (aH st) s.heap.objs.size f iH))->oN (qF ff P w K mg base Nn qual (aH st) f iH A outer s H E).OA (eG st) rd)
  (len:autoParam (∀ ds G Q E,sp ds G Q E->ds.length=ps.length) Al._auto_1):cU P w K mg base ff (k+1) f fd ps (kj T K sp):=P0 F S len hr hb
section
variable {X:Cx} {k:Nat} {f P:Addr} {q:Str} {fd:ak} {ps:List Str} {sp:gM} {x:Str} {p pos:Pos} {e:Expr} {es:List Expr} {t:vh}
theorem lh(hT:X.AG P=some (.rD q))(F:cU X.prog X.w X.K X.mg X.base ff k f fd ps (kj (Tb P q) X.K sp))(hr:fk k X.A)(hg:Gl X x)(hm:X.mg x=some (.ref f))(hk:cH X.K (.ref f)=true)(hb:Binds X.K fd ps [])
  (ha:x5 X (e :: es) t) (uS:autoParam ((x == ("__debug__" : Str))=false) Ad._auto_1) (he:autoParam (aY (e :: es) X.env=(false,eval e X.env) :: aY es X.env) Ar._auto_1) (oC:autoParam ((fU pos (aY es X.env)).any (·.1)=false) Ar._auto_1) :
  gR X (.Call (.Name x p) (e :: es) [] pos) (bK sp t):=by
 intro E pins s σ H τ G Q hE I h;refine bZ (j9 I.inv hg hm ?_ uS);refine eQ (h₀:=X.base) I.inv.ok.mod.Lc hk (rC ha pos hE I h fun vs H1 ds G1 us s1 I1 m1 r rd q=>⟨I1.inv.qr,?_⟩) he oC;refine fV (sF F hr hb .nil D5 I1.inv r (Q:=xw X.K H1 G1 Q) ?_) fun _ _ z=>(pq.of z).trans m1;rw [bW];exact⟨I1.inv.base.nh P _ hT,ds,G1,Q,rd,I1.ab,q,fun d G' v H' q' m' xH=>⟨d,G',m',xH,q'⟩⟩
end
theorem GZ{K:Frag}{H:Hp}{a P:Addr}{q:Str}{ns:List Int}(hT:Tb P q H)(hF:S8 K H a (ns.map V.int))(hl:ns.length<=63):kj (Tb P q) K AN [.ref a] H (fun v _=>v=.bl true) fun _ _ _=>False:=by
 refine⟨hT,[.da (ns.map D.int)],fun _=>none,fun d _=>d=.bl true,.cons (.da hF (a4.Iv ns)) .nil,fun a g e=>(by cases e),⟨ns,rfl,hl,fun _=>rfl,fun _=>rfl⟩,fun d G' v H' e mv r=>?_⟩;subst e;cases r;rfl
theorem Ki{Pg:bx}{w:World}{K:Frag}{mg mb:Str->Option Value}{k:Nat}{fa a c P:Addr}{fd:ak}{x q:Str}{dh:au}{vs:List Value}{ns:List Int}
  (KX:K.In dh.heap) (uR:dh.heap.Ns aT mg) (hb:dh.heap.Ns tK mb) (YF:∀ x:Str,x≠"__name__"->mb x=dF x) (SA:dh.heap.NoLimit) (hg:dh.gens=#[])
  (ha:dh.heap.get? a=some { cls:=.type "list",data:=.seq vs.toArray }) (hi:jR vs ns) (hl:ns.length<=63) (hr:fk k Ls) (C:Dk mg dh.heap c P) (gP:dh.heap.get? P=some (tabObj #[])) (YK:K.lookup P=none)
  (F:∀ base:Heap,K.In base->base.Ns aT mg->Dk mg base c P->cU Pg w K mg base ff k fa fd [x] (kj (Tb P q) K AN)) (Es:∀ (s:au) (u:Value),BindsTo s fd ⟨[u],[]⟩ [(x,u)]) :
  pJ (model Pg w) Ls (.call (.ref fa) ⟨[.ref a],[]⟩) (fun r s'=>r=.ok (.ret (.bool true))/\OldK dh.heap s'.heap/\s'.os=dh.os/\yd s'.gens) dh:=by
 have rv:=AL hi;have XG:=hi.length;have We:a≠P:=fun z=>by rw [z,gP] at ha; cases ha
 have Ni:ns.length<=bb:=bU hl (by decide);have core:∀ H:Hp,Tb P q H->S8 K H a (ns.map V.int)->pj Pg w H dh.heap->(∀ b,H b≠none->b=a\/b=P)->(H a≠none->K.lookup a=none)->(∀ u,H a=some u->∃ o xs,u=.jO o xs) ->
   pJ (model Pg w) Ls (.call (.ref fa) ⟨[.ref a],[]⟩) (fun r s'=>r=.ok (.ret (.bool true))/\OldK dh.heap s'.heap/\s'.os=dh.os/\yd s'.gens) dh:=by
  intro H hT hS cF hA hK hZ;have x4:∀ {b:Addr} {o:Obj},dh.heap.get? b=some o->H b=none->(z0 dh.heap H).get? b=some o:=fun e n=>Nk e n;have nA:∀ {b:Addr} {o:Obj},dh.heap.get? b=some o->o.cls≠.type "list"\/o.data≠.seq vs.toArray 0->o.data≠.fields #[]->H b=none:=fun {b o} e d1 d2=>by
   cases z:H b with
   | none=>rfl
   | some u =>
    rcases hA b (by rw [z]; simp) with rfl | rfl
    ·rw [ha] at e; cases e;rcases d1 with d1 | d1
     ·exact absurd rfl d1
     ·exact absurd rfl d1
    ·rw [gP] at e; cases e; exact absurd rfl d2
  have VZ:∀ {b:Addr} {m:Str->Option Value},dh.heap.Ns b m->(z0 dh.heap H).Ns b m:=fun {b m} ⟨o,es,ep,e,d,r⟩=>⟨o,es,ep,x4 e (nA e (.inr (by rw [d]; intro z; cases z)) (by rw [d]; intro z; cases z)),d,r⟩;have hKb:K.In (z0 dh.heap H):=fun b o e=>x4 (KX b o e) (by
   cases z:H b with
   | none=>rfl
   | some u =>
    rcases hA b (by rw [z]; simp) with rfl | rfl
    ·rw [hK (by rw [z]; simp)] at e; cases e
    ·rw [YK] at e; cases e)
  have hC:Dk mg (z0 dh.heap H) c P:=by
   obtain⟨⟨o,wv,file,tf,flags,tg,inF,text,tt,e,e1,e2,r⟩,bm,ob,b1,b2,b3,b4,r2⟩:=C;refine⟨⟨o,wv,file,tf,flags,tg,inF,text,tt,x4 e (nA e (.inl (by rw [e1]; intro z; injection z with z; exact absurd z (by decide))) (by rw [e2]; intro z; cases z; have r1:=r.1; cases r1)),e1,e2,r⟩,bm,ob,b1,b2,x4 b3 (nA b3 (.inl (by rw [b4]; intro z; injection z with z; exact absurd z (by decide))) (by rw [r2.2]; intro z; cases z)),b4,r2⟩
  have hM:Mod K mg (z0 dh.heap H):=⟨hKb,VZ uR,⟨mb,VZ hb,YF⟩,let ⟨mc,h1,h2⟩:=SA; ⟨mc,VZ h1,h2⟩⟩;have e0:Fn Pg w K mg (z0 dh.heap H) Ls [] dh H:=⟨rfl,hM,fun b o e=>Pw e,Nat.le_of_eq (Kq _ _),trivial,fun b hb=>absurd (show b∈([]:List Addr) from hb) (by simp),cF,.of_eq hg⟩;refine rP ((F _ hKb (VZ uR) hC).run Ls [] dh H ⟨[.ref a],[]⟩ [.ref a] [.ref a] _ _ hr e0 (Es dh (.ref a)) (.cons rfl .nil) (GZ hT hS hl)) fun r s' h=>?_;cases r with
  | error e=>exact bw h
  | ok fl =>
   cases fl with
   | next=>exact bw h
   | brk=>exact bw h
   | cont=>exact bw h
   | ret u =>
    obtain⟨v,H',os,bare,un,Eo,r',q1⟩:=h;have q':v=.bl true:=q1;subst q';obtain rfl:u=HK true:=r';have kb:∀ b o,b≠P->dh.heap.get? b=some o->s'.heap.get? b=some o:=fun b o hb e=>by
     cases z:H b with
     | none=>exact un.keep b o e z (by intro z; exact absurd (show b∈([]:List Addr) from z) (by simp)) (by simp)
     | some u =>
      have hba:=(hA b (by rw [z]; simp)).resolve_right hb;subst hba;obtain⟨ob,xs,rfl⟩:=hZ u z;have z2:=un.rG b ob _ z;obtain⟨e1,_⟩:=cF b _ z;obtain⟨e2,_⟩:=Eo b _ z2;rw [e] at e1; cases e1;exact e2
    obtain⟨ps,gP',_⟩:=Eo P _ (un.nh P q hT);refine⟨rfl,⟨fun b o e=>?_,fun b o e=>?_⟩,os,bare⟩
    ·by_cases hb:b=P
     ·subst hb;rw [gP] at e; cases e;exact .inr (.inl ⟨(C.hd.tab gP).isCodeTable,rfl,#[],ps,rfl,by rw [gP']; simp⟩)
     ·exact .inl (kb b o hb e)
    ·by_cases hb:b=P
     ·subst hb; exact⟨_,gP'⟩
     ·exact⟨o,kb b o hb e⟩
 have Zx:∀ H:Hp,fe Pg w H dh.heap P (.rD q):=fun H=>⟨#[],gP,trivial,fun pos cv z=>by cases z⟩;cases hk:K.lookup a with
 | some o =>
  have e:=KX a o hk;rw [ha] at e;cases e;refine core (fun b=>if b=P then some (.rD q) else none) (if_pos rfl) (.inr ⟨_,vs.toArray,_,hk,rfl,rfl,rfl,by rw [aM,XG]; exact Ni,by simpa using rv⟩) (fun b u z=>?_) (fun b z=>?_) (fun z=>absurd (if_neg We) z) fun u z=>by
   have z':=(if_neg We).symm.trans z;cases z'
  ·by_cases hb:b=P
   ·have z':=(if_pos hb).symm.trans z;cases z';subst hb;exact Zx _
   ·have z':=(if_neg hb).symm.trans z;cases z'
  ·by_cases hb:b=P
   ·exact .inr hb
   ·exact absurd (if_neg hb) z
 | none =>
  have hH:∀ (b:Addr) (u:HO),(if b=P then some (HO.rD q) else if b=a then some (.jO { cls:=.type "list",data:=.seq vs.toArray } (.lst (ns.map V.int))) else none)=some u->(b=P/\u=.rD q)\/(b=a/\u=.jO { cls:=.type "list",data:=.seq vs.toArray } (.lst (ns.map V.int))):=fun b u z=>by
   split at z
   ·exact .inl ⟨‹_›,(ba z).symm⟩
   ·split at z
    ·exact .inr ⟨‹_›,(ba z).symm⟩
    ·cases z
  refine core (fun b=>if b=P then some (.rD q) else if b=a then some (.jO { cls:=.type "list",data:=.seq vs.toArray } (.lst (ns.map V.int))) else none) (if_pos rfl) (.inl ⟨{ cls:=.type "list",data:=.seq vs.toArray },(if_neg We).trans (if_pos rfl)⟩) (fun b u z=>?_) (fun b z=>?_) (fun _=>hk) fun u z=>?_
  ·rcases hH b u z with ⟨rfl,rfl⟩ | ⟨rfl,rfl⟩
   ·exact Zx _
   ·exact⟨ha,by rw [ai]; exact Ni,vs,_,rv,ha⟩
  ·obtain⟨u,e⟩:=Option.ne_none_iff_exists'.mp z;rcases hH b u e with ⟨h,_⟩ | ⟨h,_⟩
   ·exact .inr h
   ·exact .inl h
  ·rcases hH a u z with ⟨h,_⟩ | ⟨_,rfl⟩
   ·exact absurd h We
   ·exact⟨_,_,rfl⟩
theorem Kh{l:Ly}{q:bx}{loose:List Str}{XP:(Str->Option Value)->Heap->Prop}{YP:World->Heap->Prop}{d:DefRec}{K:jL->Frag}{k:Nat}{x:Str}{y qn:Str}{c P:Addr}(hn:l.most=some 63)(YC:d.params.defaults=[])(hr:fk k Ls)
  (hY:∀ (w:World) (h:Heap),YP w h->(K w.params).In h) (Cu:((recsOf q).find? (fun e=>e.name == y)).isSome=true) (ht:∀ w:World,tabIn (K w.params) y=some (c,P)) (YK:∀ w:World,(K w.params).lookup P=none)
  (F:∀ (w:World) (mg:Str->Option Value) (fa:Addr) (h:Heap),(K w.params).In h->h.Ns aT mg->mg d.name=some (.ref fa) ->
   ∃ fd:ak,(∀ (s:au) (u:Value),BindsTo s fd ⟨[u],[]⟩ [(x,u)])/\∀ base:Heap,(K w.params).In base->base.Ns aT mg->Dk mg base c P->cU l.prog w (K w.params) mg base ff k fa fd [x] (kj (Tb P qn) (K w.params) AN)) :
  PySem.W.WalkO q loose XP YP l.row.toRowW d [] (fun f vs=>PySem.call f vs):=by
 refine Att.Fd hn YC fun w ie dh mg mb fa o pm cd doc a vs ns G Y ho hd zL U6 Su hints hlen hg=>?_;have KX:=hY w _ Y;obtain⟨fd,hb,hF⟩:=F w mg fa _ KX G.T.g U6;obtain⟨dr,hdr⟩:=Option.isSome_iff_exists.mp Cu;obtain⟨C,gP⟩:=tab_of G.T KX hdr (ht w);exact Ki KX G.T.g G.T.b G.T.builtins G.T.nolimit hg Su hints hlen hr ⟨C,G.T.bmain⟩ gP (YK w) hF hb
end K2
end
section
namespace K2
open PySem PySem.Spec PyProof.Rows L2
noncomputable def MY(H:Hp):HO->Bool
 | .rD _=>true
 | .own x=>match H x with
  | some (.rD _)=>true
  | _=>false
 | o=>UQ o
noncomputable def hq(H:Hp):Hp:=fun b=>(H b).bind fun o=>if MY H o=true then some o else none
section
variable {P:bx} {w:World} {K:ag} {H H1 H':Hp} {h h':Heap} {b:Addr} {o:HO} {fs:List Addr}
theorem PU(q:hq H b=some o):H b=some o/\MY H o=true:=by
 unfold hq at q;cases e:H b with
 | none=>rw [e] at q; cases q
 | some u =>
  rw [e] at q;simp only [je] at q;by_cases k:MY H u=true
  ·rw [if_pos k] at q; cases q; exact⟨rfl,k⟩
  ·rw [if_neg k] at q; cases q
theorem uP(q:H b=some o)(k:MY H o=true):hq H b=some o:=by unfold hq; rw [q,je,if_pos k]
theorem uQ(q:H b=none):hq H b=none:=by unfold hq; rw [q]; rfl
theorem QK(q:H b=some o)(k:MY H o=false):hq H b=none:=by unfold hq; rw [q,je,if_neg (by rw [k]; exact c7)]
theorem UP:Kp (hr H) (hq H):=⟨fun _ _ e=>uP (Cv e).1 rfl,fun _ _ u e=>uP (Cv e).1 (Cv e).2⟩
theorem Po{c:Addr}{q:Str}(e:H c=some (.rD q)):MY H (.own c)=true:=by
 show (match H c with | some (.rD _)=>true | _=>false)=true;rw [e]
theorem RM{c:Addr}(e:H c=some o)(n:∀ q,o≠.rD q):MY H (.own c)=false:=by
 show (match H c with | some (.rD _)=>true | _=>false)=false;rw [e];cases o with
 | rD q=>exact absurd rfl (n q)
 | _=>rfl
theorem Ss(x:pj P w H h):pj P w (hq H) h:=fun a o q=>by
 obtain⟨e,k⟩:=PU q;have y:=x a o e;cases o with
 | tup xs=>exact y
 | own z=>exact y
 | rD qn =>
  obtain⟨ps,e1,t,z⟩:=y;refine⟨ps,e1,t,fun pos cv y=>?_⟩;obtain⟨c',e1,e2,r⟩:=z pos cv y;exact⟨c',e1,uP e2 (Po e),r⟩
 | jO ob u =>
  cases u with
  | lst _=>exact y
  | dK _=>exact y
  | ext _=>exact y
  | xd _=>exact y
  | dT a0 =>
   obtain⟨e1,z,n,xs,r,rest⟩:=y;exact⟨e1,z,n,xs,L2.Paired.R8 r (fun p q z=>⟨z.1,uP z.2.1 rfl,z.2.2⟩),rest⟩
  | _=>exact bh (show false=true from k)
 | _=>exact bh (show false=true from k)
theorem QH(un:Un fs [] (hq H1) H' h h')(k1:pj P w H1 h)(k2:pj P w H' h')(fr:∀ b∈fs,H1 b=none) :
  Un fs [] H1 (hj H1 H') h h'/\pj P w (hj H1 H') h'/\Kp H' (hj H1 H'):=by
 have nx:∀ c:Addr,c∉([]:List Addr):=fun c=>dg;have UI:∀ c u,H1 c=some u->c∉fs:=fun c u q z=>by rw [fr c z] at q; cases q
 have up:∀ c v,H' c=some v->hj H1 H' c=some v:=fun c v q'=>by
  cases q:H1 c with
  | none=>rw [yY q]; exact q'
  | some u =>
   cases k:MY H1 u with
   | false =>
    obtain⟨ob,e⟩:=(k1 c u q).there;have:=un.free c ob e (QK q k) (nx c);rw [this] at q'; cases q'
   | true =>
    have r:=uP q k;cases u with
    | tup xs=>have:=un.sD c xs r; rw [q'] at this; cases this; exact lM q
    | jO ob x=>have:=un.rG c ob x r; rw [q'] at this; cases this; exact lM q
    | rD x=>have:=un.nh c x r; rw [q'] at this; cases this; exact lM q
    | own x=>have:=un.uB c x r; rw [q'] at this; cases this; exact lM q
    | _=>exact bh (show false=true from k)
 have same:∀ b u o,H1 b=some o->(MY H1 o=false\/∃ ob v,o=.jO ob v)->h.get? b=some u->h'.get? b=some u:=fun b u o q hh e=>by
  cases k:MY H1 o with
  | false=>exact un.keep b u e (QK q k) (UI b o q) (nx b)
  | true =>
   rcases hh with z | ⟨ob,v,rfl⟩
   ·rw [z] at k; cases k
   ·have h1:=(k2 b _ (un.rG b ob v (uP q k))).1;have h2:=(k1 b _ q).1;rw [h2] at e; cases e;exact h1
 refine⟨⟨fun c u e n hc hx=>un.keep c u e (uQ n) hc hx,fun c u e n hc hx=>un.slot c u e (uQ n) hc hx,fun c u e n hx=>by rw [yY n]; exact un.free c u e (uQ n) hx,fun c u e hx=>un.there c u e hx,fun c xs q=>lM q,fun c ob u q=>lM q,fun c ps q=>lM q,fun c x q=>lM q⟩,fun c o q=>?_,⟨fun c xs q=>up c _ q,fun c ob u q=>up c _ q⟩⟩;cases q1:H1 c with
 | none =>
  rw [yY q1] at q;exact(k2 c o q).iK (fun d u _ e=>e) (fun d r=>up d _ r) (fun d xs r=>up d _ r)
 | some o1 =>
  rw [lM q1] at q; cases q;have rest:(MY H1 o=false\/∃ ob v,o=.jO ob v)->(∀ x,o≠.rD x)->fe P w (hj H1 H') h' c o:=fun hk nt =>
   (k1 c o q1).iK (fun d u hd e=>by
    rcases hd with rfl | hd
    ·exact same _ u o q1 hk e
    ·exact same d u _ hd (.inl (RM q1 nt)) e) (fun d r=>lM r) (fun d xs r=>lM r)
  cases o with
  | tup xs=>exact k2 c _ (un.sD c xs (uP q1 rfl))
  | rD x =>
   obtain⟨ps,e1,t,z⟩:=k2 c _ (un.nh c x (uP q1 rfl));refine⟨ps,e1,t,fun pos cv y=>?_⟩;obtain⟨c',e1,e2,r⟩:=z pos cv y;exact⟨c',e1,up _ _ e2,r⟩
  | own x =>
   obtain⟨ob,e⟩:=(k1 c _ q1).there;exact un.there c ob e (nx _)
  | jO ob v=>exact rest (.inr ⟨ob,v,rfl⟩) (fun x z=>by cases z)
  | _=>exact rest (.inl rfl) (fun x z=>by cases z)
end
noncomputable def ly(T:Hp->Prop)(K:ag)(mg:Str->Option Value)(sp:gM):Sp:=fun vs H Q E=>T H/\lx K mg sp vs H Q E
theorem SU{P:bx}{w:World}{K:ag}{mg:Str->Option Value}{base:Heap}{x qual:Str}{st:Stmt}{f:Addr}{fd:ak}{Nn ps:List Str}{k:Nat}{sp:gM}{rd:fh}{T:Hp->Prop}(F:kg K x qual st f fd)(S:bF Nn ps (aH st))
  (hr:∀ ds G Q E,sp ds G Q E->rd E (ends Q) (aX Nn.length ds) G)
  (hb:∀ (iH:Value) (A:cI) (outer:List Env) (s:au) (H:Hp) (E:XK),T H->fk k (A.deeper (rO qual (aH st) s.heap.objs.size f iH))->oN (qF (tF P w) P w K mg base Nn qual (aH st) f iH A outer s H E) (eG st) rd)
  (len:autoParam (∀ ds G Q E,sp ds G Q E->ds.length=ps.length) Aua._auto_1):cU P w K mg base (tF P w) (k+1) f fd ps (ly T K mg sp):=by
 obtain⟨oc,od,kV,doc,pm,an,iH,ct,FA,rfl,lk,zL⟩:=F.ex;refine IQ lk zL S ((by rintro vs H Q E ⟨_,ds,G,Q2,E2,r,ab,q,_⟩; exact by rw [r.length]; exact len _ _ _ _ q)) ?_;rintro A outer s H vs Q E yW ⟨hT,ds,G,Q2,E2,r,ab,q,kk,ke⟩;refine⟨_,Cd (hb iH A outer s H E hT yW) (QE ke),?_⟩;exact⟨aX Nn.length ds,G,ends Q2,tW r,ab,hr ds G Q2 E2 q,fun iJ H' l7 G' mv z=>kk _ _ _ _ z mv .dI,fun v H' d G' mv RG z=>kk _ _ _ _ z mv RG,fun _ _ z=>z,fun _ _ z=>z⟩
section
variable {X:Cx} {x cn n y qn:Str} {D f Pt:Addr} {fd:ak} {ps:List Str} {k i j:Nat} {sp:gM} {cat:List Str} {e:Expr} {es:List Expr} {p np pos ep Cy py:Pos} {Oz:Stmt} {wu:List Stmt} {t:vh} {th:fh}
theorem GF(hT:X.AG Pt=some (.rD qn))(F:cU X.prog X.w X.K X.mg X.base (tF X.prog X.w) k f fd ps (ly (Tb Pt qn) X.K X.mg sp))(hr:fk k X.A)(hg:Gl X x)(hm:X.mg x=some (.ref f))(hk:cH X.K (.ref f)=true)(hb:Binds X.K fd ps [])
  (ha:x5 X (e :: es) t) (uS:autoParam ((x == ("__debug__" : Str))=false) Ad._auto_1) (he:autoParam (aY (e :: es) X.env=(false,eval e X.env) :: aY es X.env) Ar._auto_1) (oC:autoParam ((fU pos (aY es X.env)).any (·.1)=false) Ar._auto_1) :
  gR X (.Call (.Name x p) (e :: es) [] pos) (qE sp t):=by
 intro E pins s σ H τ G Q hE I h;refine bZ (j9 I.inv hg hm ?_ uS);refine eQ (h₀:=X.base) I.inv.ok.mod.Lc hk (rC ha pos hE I h fun vs H1 ds G1 us s1 I1 m1 r rd q=>⟨I1.inv.qr,?_⟩) he oC;refine fV (sF (E:=Vv X.K X.mg E) F hr hb .nil (fun pins σ H s e s' I hq=>hE.pass pins σ H s s' e I hq) I1.inv r (Q:=xw X.K H1 G1 Q) ?_) fun _ _ z=>(pq.of z).trans m1;rw [bW];exact⟨I1.inv.base.nh Pt _ hT,ds,G1,Q,E,rd,I1.ab,q,fun d G' v H' q' m' xH=>⟨d,G',m',xH,q'⟩,fun ex C H' G' q' KN Nh=>⟨ex,C,G',rfl,Nh,KN,q'⟩⟩
theorem JO{pins:List (Addr×Obj)}{σ:L2.St}{H1:Hp}{G1:Gp}{s1:au}{us:List Value}{vs:List V}{ds:List K2.D}{Q2:DK}{E2:jz}(hT:H1 Pt=some (.rD qn))(F:cU X.prog X.w X.K X.mg X.base (tF X.prog X.w) k f fd ps (ly (Tb Pt qn) X.K X.mg sp))(hr:fk k X.A)(hb:Binds X.K fd ps [])(I:Inv X pins σ H1 s1)(ab:jQ X.K H1 G1)(r:Vals vs us)(rd:a4 X.K H1 vs ds)
  (h:sp ds (fun _=>none) Q2 E2):wpAny (model X.prog X.w) X.A (call (.ref f) us)
   (fun u s'=>∃ v d G' Hj,Inv X pins σ Hj s'/\Mv X.K H1 G1 Hj G1/\RelV v u/\bS X.K Hj v d/\Q2 d G')
   (fun e s'=>∃ (a C t:Addr) (B:Heap) (ex:Ex) (Hj:Hp),e=.ref a/\Inv X pins σ Hj s'/\Mv X.K H1 G1 Hj G1/\vn B X.stack a (.ref C) (.ref t) s'.heap /\
    (∀ b o,s'.heap.get? b=some o->b∉rH X.stack->(s1.heap.get? b≠none\/Hj b≠none)->B.get? b=some o)/\Hj a=none/\s1.heap.get? a=none/\X.mg ex.cls=some (.ref C)/\∃ G',E2 ex G') s1:=by
 have So:ly (Tb Pt qn) X.K X.mg sp vs (hq H1) (fun v H'=>∃ d G',bS X.K H' v d/\Q2 d G') (Vv X.K X.mg E2) :=
  ⟨uP hT rfl,ds,fun _=>none,Q2,E2,rd.hr.mono UP,(fun _ _ z=>by cases z),h,fun d G' v H' q _ xH=>⟨d,G',xH,q⟩,fun ex C H' G' q KN hm=>⟨ex,C,G',rfl,hm,KN,q⟩⟩
 have hl:us.length=ps.length:=by rw [<-r.length]; exact F.len _ _ _ _ So
 have e0:=I.S0;have e1:Fn X.prog X.w X.K X.mg X.base X.A X.stack s1 (hq H1):=⟨e0.frames,e0.mod,fun b o q=>⟨(e0.bs b o q).1,uQ (e0.bs b o q).2⟩,e0.Le,e0.uU,fun b z=>uQ (e0.NA b z),Ss e0.cF,e0.bare⟩;have hbu:=hb s1 us I.qr (by rw [bW]; exact hl);rw [bW] at hbu;refine zH (rP (F.run X.A X.stack s1 (hq H1) ⟨us,[]⟩ us vs _ _ hr e1 hbu r So) fun res s' hq=>?_);cases res with
 | error e =>
  obtain⟨a,C,t,B,H',rfl,os,bare,un,cF,hB,fl,ha,hs,ex,C',G2,ec,hm,_,hE⟩:=hq;cases ec;obtain⟨T4,Eo,_⟩:=QH un I.cF cF e0.NA;have h1a:H1 a=none:=by
   cases q:H1 a with
   | none=>rfl
   | some u=>obtain⟨o,e⟩:=(I.cF a u q).there; rw [e] at hs; cases hs
  refine⟨a,C,t,B,ex,hj H1 H',rfl,I.QX (ch:=[]) os T4 Eo bare (fun b z=>absurd z (by simp)),QD ab,fl,fun b o e n c=>hB b o e n ?_,by rw [yY h1a]; exact ha,hs,hm,G2,hE⟩;rcases c with c | c
  ·exact .inl c
  ·cases q:H1 b with
   | none=>rw [yY q] at c; exact .inr c
   | some u=>obtain⟨o1,e1⟩:=(I.cF b u q).there; exact .inl (by rw [e1]; simp)
 | ok fl =>
  cases fl with
  | ret u =>
   obtain⟨v,H',os,bare,un,cF,rv,d,G',xH,q⟩:=hq;obtain⟨T4,Eo,kp⟩:=QH un I.cF cF e0.NA;exact⟨v,d,G',hj H1 H',I.QX (ch:=[]) os T4 Eo bare (fun b z=>absurd z (by simp)),QD ab,rv,xH.mono kp,q⟩
  | next=>exact bw hq
  | brk=>exact bw hq
  | cont=>exact bw hq
theorem AM(hT:X.AG Pt=some (.rD qn))(A0:Rh X)(L:Clause X i n cn D cat)(X8:∀ v,oN (marked X v) (Oz :: wu) th)(hj':X.N[j]?=some y)(hy:Loc X.env.scope y)
  (F:cU X.prog X.w X.K X.mg X.base (tF X.prog X.w) k f fd ps (ly (Tb Pt qn) X.K X.mg sp)) (hr:fk k X.A) (hg:Gl X x) (hm:X.mg x=some (.ref f)) (hk:cH X.K (.ref f)=true) (hb:Binds X.K fd ps [])
  (ha:∀ EX,x5 (X.pB EX) (e :: es) t)
  (uS:autoParam ((x == ("__debug__" : Str))=false) Ad._auto_1) (Vh:autoParam ((cn == ("__debug__" : Str))=false) Ad._auto_1) (he:autoParam (aY (e :: es) X.env=(false,eval e X.env) :: aY es X.env) Ar._auto_1) (oC:autoParam ((fU pos (aY es X.env)).any (·.1)=false) Ar._auto_1)
  (hs:autoParam (x8 (.Call (.Name x p) (e :: es) [] pos) (some (.Name y py)) ep.line X.env=pure false) Ar._auto_1) (hf:autoParam (X.fn y=true\/X.env.scope.names.lookup y=some .local) Ao._auto_1) :
  VH X [.ExceptHandler (some (.Name cn np)) (some n) (Oz :: wu) Cy] [.Assign [.Name y py] (.Call (.Name x p) (e :: es) [] pos) ep] (Ja sp t j i cat th):=by
 intro pins s σ H0 G0 H τ G Dn m0 I h;refine wt (wpAny_Assign_Name ?_ hs);unfold WJ;generalize YL:(fun (e:Value) (dh:au)=>wpAny (model X.prog X.w) X.A (noteFrame e X.env) (fun _ iF=>wpAny (model X.prog X.w) X.A (setFlight e none) (fun _ ye=>wpAny (model X.prog X.w) X.A (handleBy e X.env [.ExceptHandler (some (.Name cn np)) (some n) (Oz :: wu) Cy]) (FE X pins H0 G0 Dn) X.xe ye) X.xe iF) X.xe dh)=EX;refine bZ (j9 I.inv hg hm ?_ uS);have I0:I2 (X.pB EX) pins σ H τ G s:=⟨I.inv.pB EX,I.st,I.ab⟩;refine eQ (h₀:=X.base) I.inv.ok.mod.Lc hk (rC (X:=X.pB EX) (ha EX) pos (Lk.none fun _ _ z=>z) I0 h fun vs H1 ds G1 us s1 I1 m1 r rd q=>⟨I1.inv.qr,?_⟩) he oC;have J1:Inv X pins σ H1 s1:=I1.inv.mG;refine gO (JO (J1.base.nh Pt _ hT) F hr hb J1 I1.ab r rd q) ?_ ?_
 ·rintro u s' ⟨v,d,G',Hj,I',mv,rv,xH,q'⟩;exact yf I' L.nd hj' hy rv (fun s2 kd=>jc ⟨_,Hj,_,G1,⟨kd,(I1.st.mono (mv.kp I1.ab)).set j xH,mv.ab⟩,(m0.trans m1).trans mv,q'⟩) hf
 ·rintro ev s' ⟨a,C,t0,B,ex,Hj,ea,I',mv,fl,hB,Wf,He,Nh,_,PX,q'⟩;subst ea; subst YL;exact E7 A0 L X8 J1 I1.st I1.ab (m0.trans m1) I' mv fl hB Wf He Nh PX q' Vh
end
end K2
end
section
namespace K2
open PySem (Str)
open Enc (enc)
theorem NL{α:Type} [DecidableEq α] [Enc α](xs:List α):(enc xs:D)=.da (xs.map enc):=rfl
theorem lO{α:Type} [DecidableEq α] [Enc α]{G G1:Gp}{p:Nat}{xs:List α}{Q:DK}(l:fi G G1)(hp:G p=none)(h1:G1 p=some (.lst (xs.map enc)))(q:Q (enc xs) G):Ql G1 (.ref p) Q :=
 sR l hp h1 (zO.same _) q
theorem iU{α:Type}{f:α->D}{g:Bn}{body:fh}{ok:Gp->Prop}{xs:List α}{E:jz}{K:jA}{τ:g6}{G:Gp}(I:List α->g6->Gp->Prop)
  (h0:I [] τ G) (cF:∀ pre τ G,I pre τ G->ok G)
  (step:∀ (pre:List α) (x:α) (post:List α) τ G (N:g6->Gp->Prop),xs=pre++x :: post->I pre τ G->(∀ AJ G2,I (pre++[x]) AJ G2->N AJ G2) ->
   g E (f x) τ G fun tQ G1=>body E { K with nx:=N,ct:=N,bk:=K.nx } tQ G1)
  (fin:∀ τ G,I xs τ G->K.nx τ G):sd g body ok (xs.map f) E K τ G:=by
 have main:∀ (post pre:List α) τ G,xs=pre++post->I pre τ G->sd g body ok (post.map f) E K τ G:=by
  intro post;induction post with
  | nil =>
   intro pre τ G e h;rw [bW] at e;subst e;exact⟨cF _ _ _ h,fin _ _ h⟩
  | cons d post ih =>
   intro pre τ G e h;refine⟨cF _ _ _ h,?_⟩;exact step pre d post τ G _ e h fun AJ G2 h2=>ih (pre++[d]) AJ G2 (by rw [e,g8]; rfl) h2
 exact main xs [] τ G rfl h0
theorem iP{α:Type}{f:α->D}{g:Bn}{c:Option xu}{e:eZ}{ok:Gp->Prop}{xs:List α}{E:jz}{τ:g6}{G:Gp}{Q:List D->Gp->Prop}(I:List α->List D->g6->Gp->Prop)
  (h0:I [] [] τ G) (cF:∀ pre acc τ G,I pre acc τ G->ok G)
  (step:∀ (pre:List α) (x:α) (post:List α) (acc:List D) τ G (N:g6->List D->Gp->Prop),xs=pre++x :: post->I pre acc τ G->(∀ AJ KL G2,I (pre++[x]) KL AJ G2->N AJ KL G2) ->
   g E (f x) τ G fun tQ G1=>match c with
    | none=>e E tQ G1 fun x G2=>N tQ (acc++[x]) G2
    | some c=>c E tQ G1 fun k G2=>if k=true then e E tQ G2 fun x G3=>N tQ (acc++[x]) G3 else N tQ acc G2)
  (fin:∀ acc τ G,I xs acc τ G->Q acc G):jr g c e ok (xs.map f) E τ G [] Q:=by
 have main:∀ (post pre:List α) (acc:List D) τ G,xs=pre++post->I pre acc τ G->jr g c e ok (post.map f) E τ G acc Q:=by
  intro post;induction post with
  | nil =>
   intro pre acc τ G e h;rw [bW] at e;subst e;exact⟨cF _ _ _ _ h,fin _ _ _ h⟩
  | cons d post ih =>
   intro pre acc τ G e' h;refine⟨cF _ _ _ _ h,?_⟩;have:=step pre d post acc τ G (fun AJ KL G2=>jr g c e ok (post.map f) E AJ G2 KL Q) e' h fun AJ KL G2 h2=>ih (pre++[d]) KL AJ G2 (by rw [e',g8]; rfl) h2;cases c with
   | none=>exact this
   | some c=>exact this
 exact main xs [] [] τ G rfl h0
theorem iz{α:Type} [DecidableEq α] [Enc α]{xs:List α}{G:Gp}{R:List D->(Gp->Prop)->Gp->Prop}(h:R (xs.map enc) (fun _=>True) G):PT (enc xs) G R:=h
theorem En{α:Type} [DecidableEq α] [Enc α]{xs:List α}{G:Gp}{R:List D->(Gp->Prop)->Gp->Prop}(h:R (lQ 0 (xs.map enc)) (fun _=>True) G):uO (enc xs) G R:=h
theorem HX{n:Nat}(h:n<=1000):n<=SZ:=by unfold SZ; lia
theorem LS{n:Nat}(h:n<=1000):n < SZ:=by unfold SZ; lia
noncomputable abbrev Rows:=List (List T3)
noncomputable def T3.s(p:T3):T2:=⟨p.a,p.b⟩
structure Dr(rows:Rows):Prop where
 nd:(rows.flatten.map T3.s).Nodup
 way:∀ p∈rows.flatten,p.b=0\/p.b=1
 hand:∀ p∈rows.flatten,p.c=1\/p.c=-1
 zX:∀ p∈rows.flatten,(⟨p.a,1 - p.b,p.c⟩:T3)∈rows.flatten
 OE:rows.flatten.length<=24
 str:rows.length<=3
namespace P
noncomputable def fZ:gM:=WT (fun rows:Rows=>rows.flatten.length<=1000) fun rows=>rows.flatten
noncomputable def p8:fh :=
 (bR (bY (gE aW) (aR 1))
 (bR (i4 (kW (ao 0)) (aR 2) (fJ (zm BW uG (ao 1) (ax (ao 2) aW))))
 (cb (dA (ao 1)))))
theorem zB(ds:List D)(G:Gp)(Q:DK)(h:fZ ds G Q fun _ _=>False):p8 (fun _ _=>False) (ends Q) (aX 3 ds) G:=by
 obtain⟨rows,rfl,hl,q⟩:=h;unfold p8;simp only [ends,aX,aj,aN,af,aq,br,aB,aG,eU,bY,gE,aW,aR,aC,av];refine⟨by decide,fun p hp=>?_⟩;refine kz (fun τ G'=>(∃ b,τ=[some (enc rows),some (.ref p),b])/\fi G G'/\G' p=some (.lst (rows.flatten.map enc))) ?_ ?_
 ·intro N hN;simp only [i4,dE,ao,aa];refine iz ?_;refine iU (xs:=rows) (fun pre τ G'=>(∃ b,τ=[some (enc rows),some (.ref p),b])/\fi G G'/\G' p=some (.lst (pre.flatten.map enc))) ⟨⟨_,rfl⟩,.new hp,az⟩ (fun _ _ _ _=>trivial) ?_ ?_
  ·rintro pre r post τ G' N2 e ⟨⟨b,rfl⟩,l,gp⟩ Dx;have hlen:pre.flatten.length+r.length<=rows.flatten.length:=by
    rw [e]; simp only [xC,bL,aO]; lia
   simp only [aR,fJ,zm,ao,aC,av,ae,aa,kM,gp,ax,aW,ml,kn (IsL.enc r),true_and];refine⟨HX (by simp only [ai]; lia),?_⟩;refine Dx _ _ ⟨⟨_,rfl⟩,l.put hp,?_⟩;rw [az]; simp
  ·rintro τ G' ⟨⟨b,rfl⟩,l,gp⟩;exact hN _ _ ⟨⟨_,rfl⟩,l,gp⟩
 ·rintro _ G' ⟨⟨b,rfl⟩,l,gp⟩;simp only [cb,dA,ao,ae,aa];exact lO l hp gp q
theorem zf(p:T3):(enc p:D)=.tup [.int p.a,.int p.b,.int p.c]:=rfl
theorem P5(i:Int):(enc i:D)=.int i:=rfl
theorem Lf{a:D}{r:List D}:we (a :: r) 0=some a:=by
 rw [ve _ (by lia) (by simp)]; rfl
theorem OG{a b:D}{r:List D}:we (a :: b :: r) 1=some b:=by
 rw [ve _ (by lia) (by simp; lia)]; rfl
noncomputable def names(rows:Rows):List Int:=HY ((rows.flatten.filter fun p=>p.b == 0).map (·.a))
noncomputable def cD(row:List T3)(i:Int):List T2:=if row=[] then [⟨i,2⟩] else row.map T3.s
noncomputable def i6:gM:=WS (fun (row:List T3) (_:Int)=>row.length<=1000) cD
noncomputable def wB:fh :=
 (bR (eE (rJ (fQ (ao 0))) (cb (dA (gE (ax (jJ (ax (ao 1) (ax (dC (.int 2)) aW))) aW)))) cK)
 (cb (dA (gX 1 [] (kW (ao 0)) (aR 0) none (Jb (ao 0) hX (u3 (dC (.int 2))))))))
theorem Fh(ds:List D)(G:Gp)(Q:DK)(h:i6 ds G Q fun _ _=>False):wB (fun _ _=>False) (ends Q) (aX 2 ds) G:=by
 obtain⟨row,i,rfl,hl,q⟩:=h;unfold wB;refine kz (fun τ G'=>G=G'/\τ=[some (enc row),some (enc i)]/\row≠[]) ?_ ?_
 ·intro N hN;simp only [eE,rJ,aX,aj,aN,af,aq,aB,aG,cb,dA,gE,ax,jJ,ao,ae,aa,dC,aW,ends,cK,cT];refine LO (IsL.enc row) ?_;cases row with
  | nil =>
   simp only [aN,List.isEmpty_nil,cR,bO,if_true];refine⟨by decide,by decide,fun p hp=>lO (xs:=[(⟨i,2⟩:T2)]) (.new hp) hp az ?_⟩;exact q
  | cons a r =>
   simp only [aj,List.isEmpty_cons,bO,cR,ay,if_false];exact hN _ _ ⟨rfl,rfl,by simp⟩
 rintro _ _ ⟨rfl,rfl,pD⟩;simp only [cb,dA,gX,ends,dE,ao,aa];refine iz ⟨HX (by rw [ai]; exact hl),?_⟩;refine iP (xs:=row) (fun pre acc τ G'=>G=G'/\(∃ a,τ=[a])/\acc=(pre.map T3.s).map enc) ⟨rfl,⟨_,rfl⟩,rfl⟩ (fun _ _ _ _ _=>trivial) ?_ ?_
 ·rintro pre x post acc τ G' N e ⟨rfl,⟨a,rfl⟩,rfl⟩ hN;simp only [aR,Jb,ao,zf,av,aa,hX,B4,af,aq,nR,dC,lF];refine⟨by decide,hN _ _ _ ⟨rfl,⟨_,rfl⟩,?_⟩⟩;rw [aP,aP]; rfl
 ·rintro acc τ G' ⟨rfl,⟨a,rfl⟩,rfl⟩ p hp;refine lO (.new hp) hp az ?_;have:cD row i=row.map T3.s:=by unfold cD; rw [if_neg pD]
  rw [<-this]; exact q
noncomputable def jh:Rows->Nat->List T2
 | [],_=>[]
 | r :: rs,k=>cD r (k:Int)++jh rs (k+1)
theorem NK(xs:List (List T3)):lQ 0 (xs.map enc)=(xs.zipIdx 0).map fun p=>D.tup [.int (p.2:Int),enc p.1]:=by
 have:∀ (xs:List (List T3)) (k:Nat),lQ k (xs.map enc)=(xs.zipIdx k).map fun p=>D.tup [.int (p.2:Int),enc p.1]:=by
  intro xs;induction xs with
  | nil=>intro k; rfl
  | cons x xs ih=>intro k; rw [aj,lQ,ih,sC,aj]
 exact this xs 0
theorem BB{α:Type}{xs:List α}{pre post:List (α×Nat)}{x:α×Nat}(h:xs.zipIdx 0=pre++x :: post):∃ l r,xs=l++x.1 :: r/\x.2=l.length/\pre=l.zipIdx 0:=by
 have e1:xs=(pre.map (·.1))++x.1 :: post.map (·.1):=by
  have:=congrArg (List.map (·.1)) h;rw [List.zipIdx_map_fst] at this;rw [this]; simp
 have hl:pre.length < (xs.zipIdx 0).length:=by rw [h]; simp
 have hx:(xs.zipIdx 0)[pre.length]?=some x:=by rw [h]; simp
 refine⟨pre.map (·.1),post.map (·.1),e1,?_,?_⟩
 ·rw [OQ] at hx;rw [ai];cases q:xs[pre.length]? with
  | none=>rw [q] at hx; cases hx
  | some y=>rw [q] at hx; simp at hx; rw [<-hx]
 ·have:(pre.map (·.1)).zipIdx 0=(xs.zipIdx 0).take pre.length:=by
   conv=>rhs; rw [e1,pz]
   rw [List.take_append_of_le_length (by simp)];rw [kJ (by simp)]
  rw [this,h]; simp
theorem AO{κ α:Type} [DecidableEq κ] [Enc κ] [tD κ] [DecidableEq α] [Enc α]{a:Nat}{l:List (κ×α)}{k:κ}{v:α}{G:Gp}{Q:Gp->Prop}(h:G a=some (.jP (cY l)))(hl:l.length<=1000)(q:Q (bP G a (.jP (cY (zt l k v))))):DN (.ref a) (enc k) (enc v) G Q:=by
 unfold DN;simp only [h];refine⟨sO l k,?_,by rw [Pf]; exact q⟩;unfold cY; rw [ai]; exact LS hl
noncomputable def OX(r:List T3):List T3:=r.drop 1++r.take 1
noncomputable def pairsOf(rows:Rows):List (T3×T3):=rows.flatMap fun r=>r.zip (OX r)
noncomputable def ZV(ps:List (T3×T3)):List (T2×T2):=ps.foldl (fun l p=>zt l p.1.s p.2.s) []
noncomputable def lft(s:T2):T3:=⟨s.a,s.b,0⟩
end P
theorem B9{α:Type} [DecidableEq α] [Enc α]{neg:Bool}{x:α}{xs:List α}{G:Gp}{Q:DK}(hd:Enc.dep α<=7)(q:Q (.bl (if neg then !decide (x∈xs) else decide (x∈xs))) G):Ca neg (enc x) (enc xs) G Q:=by
 refine⟨enc x,xs.map enc,Enc.sn _ _ _ (by unfold SN; lia),pQ G 7 hd xs,?_⟩;rw [Jl]; exact q
class HH (α:Type) [DecidableEq α] [Enc α] [bJ α] where
 mn:∀ {x:D} {G:Gp} {xs:List α} {Q:DK},itemsOf x G=some (xs.map enc)->xs≠[]->(∀ m∈xs,(∀ y∈xs,xQ m y=true)->Q (enc m) G)->N9 [x] G Q
theorem jZ{α:Type} [DecidableEq α] [Enc α] [bJ α]:∀ (r:List α) (a:α),r.foldl (fun m x=>if bJ.lt x m=true then x else m) a∈a :: r/\∀ y∈a :: r,xQ (r.foldl (fun m x=>if bJ.lt x m=true then x else m) a) y=true
 | [],a=>⟨by simp,fun y hy=>by rw [List.mem_singleton.mp hy]; unfold xQ; rw [List.foldl_nil,bJ.OB]; rfl⟩
 | b :: r,a=>by
  rw [nY];by_cases c:bJ.lt b a=true
  ·rw [if_pos c];obtain⟨h1,h2⟩:=jZ r b;refine⟨aK _ h1,fun y hy=>?_⟩;rcases List.mem_cons.mp hy with rfl | hy
   ·refine vP _ _ _ (h2 b (by simp)) ?_;unfold xQ;cases q:bJ.lt y b with
    | false=>rfl
    | true=>have:=bJ.trans _ _ _ q c; rw [bJ.OB] at this; cases this
   ·exact h2 y hy
  ·rw [if_neg c];obtain⟨h1,h2⟩:=jZ r a;refine⟨?_,fun y hy=>?_⟩
   ·rcases List.mem_cons.mp h1 with h | h
    ·rw [h]; simp
    ·exact aK _ (aK _ h)
   ·rcases List.mem_cons.mp hy with rfl | hy
    ·exact h2 y (by simp)
    ·rcases List.mem_cons.mp hy with rfl | hy
     ·refine vP _ _ _ (h2 a (by simp)) ?_;unfold xQ; simpa using c
     ·exact h2 y (aK _ hy)
noncomputable instance:HH Int where
 mn:=by
  intro x G xs Q hi pD k;cases xs with
  | nil=>exact absurd rfl pD
  | cons a r =>
   obtain⟨h1,h2⟩:=jZ r a;refine .inl ⟨a :: r,_,hi,rfl,?_⟩;have:(fun (m x:Int)=>if x < m then x else m)=fun m x=>if bJ.lt x m=true then x else m:=by
    funext m x;show (if x < m then x else m)=if decide (x < m)=true then x else m
    simp
   show Q (enc (r.foldl (fun m x=>if x < m then x else m) a)) G;rw [this];exact k _ h1 h2
theorem yN:∀ (x y:List Int),uK (fun a b=>decide (a < b)) x y=lexLt x y
 | [],[]=>rfl
 | [],_ :: _=>rfl
 | _ :: _,[]=>rfl
 | a :: x,b :: y=>by simp only [yO,lexLt,yN x y]
noncomputable instance:HH T3 where
 mn:=by
  intro x G xs Q hi pD k;cases xs with
  | nil=>exact absurd rfl pD
  | cons a r =>
   obtain⟨h1,h2⟩:=jZ r a;have ei:itemsOf x G=some (((a :: r).map T3.l).map tI):=by rw [hi,pA]; rfl
   refine .inr ⟨(a :: r).map T3.l,_,ei,rfl,?_⟩;have:∀ (r:List T3) (a:T3),(r.map T3.l).foldl (fun m x=>if lexLt x m=true then x else m) a.l=(r.foldl (fun m x=>if bJ.lt x m=true then x else m) a).l:=by
    intro r;induction r with
    | nil=>intro a; rfl
    | cons b r ih =>
     intro a;rw [aj,nY,nY];have e:(if lexLt b.l a.l=true then b.l else a.l)=(if bJ.lt b a=true then b else a).l:=by
      have:bJ.lt b a=lexLt b.l a.l:=yN _ _;rw [this];split <;> rfl
     rw [e]; exact ih _
   rw [this r a];exact k _ h1 h2
namespace P
theorem wY{κ β:Type} [DecidableEq κ]:∀ {l:List (κ×β)} {p:κ×β},(l.map (·.1)).Nodup->p∈l->jy l p.1=some p.2
 | q :: l,p,hn,h=>by
  unfold jy;rw [eT];rcases List.mem_cons.mp h with rfl | h
  ·simp
  ·rw [aj,iQ] at hn;have:q.1≠p.1:=fun z=>hn.1 (by rw [z]; exact List.mem_map_of_mem h);simp only [this,decide_false];exact wY hn.2 h
variable {rows:Rows}
noncomputable def om(p:T3):T3:=⟨p.a,1 - p.b,p.c⟩
theorem QB(d:Dr rows){p:T3}(h:p∈rows.flatten):om p∈rows.flatten:=d.zX p h
theorem Qz(p:T3):om (om p)=p:=by
 unfold om; cases p; simp only [T3.mk.injEq,true_and,and_true]; lia
theorem vK{n:Int}:n∈names rows↔∃ p∈rows.flatten,p.b=0/\p.a=n:=by
 unfold names;rw [O3,List.mem_map];constructor
 ·rintro⟨p,h,rfl⟩;obtain⟨h1,h2⟩:=List.mem_filter.mp h;exact⟨p,h1,by simpa using h2,rfl⟩
 ·rintro⟨p,h1,h2,rfl⟩;exact⟨p,List.mem_filter.mpr ⟨h1,by simpa using h2⟩,rfl⟩
end P
namespace P
variable {rows:Rows}
theorem Gv{p:T3}(h:p∈rows.flatten):p.s∈jh rows 0:=by
 have:∀ (rs:Rows) (k:Nat),p∈rs.flatten->p.s∈jh rs k:=by
  intro rs;induction rs with
  | nil=>intro k h; cases h
  | cons r rs ih =>
   intro k h;rw [jh,Fv];rw [bL,Fv] at h;rcases h with h | h
   ·left;unfold cD;rw [if_neg (by rintro rfl; cases h)];exact List.mem_map_of_mem h
   ·exact .inr (ih _ h)
 exact this rows 0 h
end P
namespace sr
open K2.P
noncomputable def wG:fh :=
 (bR (eE (fQ (a9 W5 (ao 1) (nS kD (ax (ao 0) aW)))) (cb (dA (a9 j7 (ao 0) (ao 1)))) cK)
 (cb (dA (dC (.int 0)))))
noncomputable def pe(ns:List Int)(k:Int):Int:=ns.getD k.toNat 0
noncomputable def en:gM:=fun ds G Q _=>∃ (ns:List Int) (k:Int),ds=[.da (ns.map D.int),.int k]/\0<=k/\Q (.int (pe ns k)) G
theorem qP(ds:List D)(G:Gp)(Q:DK)(h:en ds G Q fun _ _=>False):wG (fun _ _=>False) (ends Q) (aX 2 ds) G:=by
 obtain⟨ns,k,rfl,h0,q⟩:=h;unfold wG;simp only [bR,eE,aX,aj,aN,af,aq,aB,aG,cb,dA,a9,ao,aa,ae,ends,qe,cK,dC,cT,nS,ax,aW,va,B6,bu];split
 ·rename_i h;have h1:k < (ns.map D.int).length:=by simpa using h
  rw [ve _ h0 h1];simp only [jI];rw [ai] at h1;have e:pe ns k=ns[k.toNat]:=by unfold pe; rw [cf,bf (by lia)]; rfl
  rw [<-e]; exact eB q
 ·rename_i h;have h1:¬ k < (ns.map D.int).length:=by simpa using h
  rw [ai] at h1;have e:pe ns k=0:=by unfold pe; rw [cf,gr (by lia)]; rfl
  rw [<-e]; exact eB q
structure HR(G G':Gp)(p0:Nat)(as:List Nat)(rs:Rows):Prop where
 le:fi G G'
 fp:G p0=none
 gp:G' p0=some (.lst (as.map D.ref))
 np:p0∉as
 nd:as.Nodup
 fr:∀ a∈as,G a=none
 len:as.length=rs.length
 at':∀ (i a:Nat) (r:List T3),as[i]?=some a->rs[i]?=some r->G' a=some (.lst (r.map enc))
theorem HR.put{G G':Gp}{p0:Nat}{as:List Nat}{rs:Rows}(h:HR G G' p0 as rs){j a:Nat}{r':List T3}(ha:as[j]?=some a):HR G (bP G' a (.lst (r'.map enc))) p0 as (rs.set j r'):=by
 have hm:a∈as:=gT ha;have hj:j < as.length:=(List.getElem?_eq_some_iff.mp ha).1;refine⟨h.le.put (h.fr a hm),h.fp,?_,h.np,h.nd,h.fr,by rw [eR]; exact h.len,fun i b r hb hr=>?_⟩
 ·rw [c4 (by rintro rfl; exact h.np hm)]; exact h.gp
 ·by_cases e:i=j
  ·subst e;rw [ha] at hb; cases hb;rw [eD (by have:=h.len; lia)] at hr;cases hr;exact az
  ·have:b≠a:=by
    rintro rfl;have h1:=List.getElem?_eq_some_iff.mp hb;have h2:=List.getElem?_eq_some_iff.mp ha;have pw:=List.pairwise_iff_getElem.mp h.nd;rcases Nat.lt_trichotomy i j with lt | eq | gt
    ·exact pw i j h1.1 h2.1 lt (h1.2.trans h2.2.symm)
    ·exact e eq
    ·exact pw j i h2.1 h1.1 gt (h2.2.trans h1.2.symm)
   rw [c4 this];rw [dP (fun z=>e z.symm)] at hr;exact h.at' i b r hb hr
theorem HR.fz{G G':Gp}{p0:Nat}{as:List Nat}{rs:Rows}(h:HR G G' p0 as rs){Q:DK}(q:Q (enc rs) G):Ql G' (.ref p0) Q:=by
 refine sR h.le h.fp h.gp (ss:=rs.map enc) ?_ q;have:∀ (as:List Nat) (rs:Rows),as.length=rs.length->(∀ a∈as,G a=none)->(∀ (i a:Nat) (r:List T3),as[i]?=some a->rs[i]?=some r->G' a=some (.lst (r.map enc)))->zO G' (fun a=>(G a).isNone) (as.map D.ref) (rs.map enc):=by
  intro as;induction as with
  | nil=>intro rs hl _ _; cases rs with
   | nil=>exact .nil
   | cons _ _=>cases hl
  | cons a as ih =>
   intro rs hl hf Dw;cases rs with
   | nil=>cases hl
   | cons r rs =>
    refine .cons (.ref (Dw 0 a r rfl rfl) (by simp [hf a (by simp)]) (zO.same _)) ?_;exact ih rs (by simpa using hl) (fun b hb=>hf b (aK _ hb)) fun i b s h1 h2=>Dw (i+1) b s h1 h2
 exact this as rs h.len h.fr h.at'
theorem yh{x:T3}{r r':List T3}(hr:r'.Perm (x :: r)):∀ (rs:Rows) (j:Nat),rs[j]?=some r->(rs.set j r').flatten.Perm (x :: rs.flatten)
 | [],j,h=>by cases h
 | s :: rs,0,h=>by
  cases h;rw [av,bL,bL];exact hr.append_right _
 | s :: rs,j+1,h=>by
  rw [aC,bL,bL];exact((yh hr rs j h).append_left s).trans List.perm_middle
theorem rf{G G2:Gp}{d:D}{ds:List D}{R:List D->(Gp->Prop)->Gp->Prop}(h:IsL G d ds)(l:fi G G2)(k:∀ ok:Gp->Prop,(∀ G',fi G G'->ok G')->R ds ok G2):PT d G2 R:=by
 rcases h with rfl | ⟨a,rfl,e⟩
 ·exact k _ fun _ _=>trivial
 ·rw [PS (l a _ e)]; exact k _ fun G' l=>l a _ e
theorem nJ{r:List T3}:∀ {rs:Rows},r∈rs->r.length<=rs.flatten.length
 | a :: rs,h=>by
  rw [bL,aO];rcases List.mem_cons.mp h with rfl | h
  ·lia
  ·have:=nJ h; lia
theorem LQ(x:T3)(r:List T3)(i:Nat):(r.take i++x :: r.drop i).Perm (x :: r):=by
 refine List.perm_middle.trans (.cons _ ?_);rw [vp]
end sr
namespace P
variable {rows:Rows}
noncomputable def DL(rows:Rows)(s:T2):Nat:=(((rows.zipIdx 0).find? fun p=>decide (s∈cD p.1 (p.2:Int))).map (·.2)).getD 0
noncomputable def kN:gM:=fun ds G Q _=>∃ (rows:Rows) (s:T2),ds=[enc rows,enc s]/\((∀ r∈rows,r.length<=1000)/\∃ p∈rows.zipIdx 0,s∈cD p.1 (p.2:Int))/\Q (.int (DL rows s)) G
noncomputable def uh:fh :=
 (bR (i4 (Nb (ao 0)) (CA (lN (aR 2) (lN (aR 3) z4))) (eE (fQ (a9 (Ca false) (ao 1) (bK i6 (ax (ao 3) (ax (ao 2) aW))))) (cb (dA (ao 2))) cK))
 oJ)
theorem C8(ds:List D)(G:Gp)(Q:DK)(h:kN ds G Q fun _ _=>False):uh (fun _ _=>False) (ends Q) (aX 4 ds) G:=by
 obtain⟨rows,s,rfl,⟨hr,hs⟩,q⟩:=h;unfold uh;refine kz (fun τ G'=>False) ?_ (fun _ _ h=>h.elim);intro N hN;simp only [i4,Nb,ao,aX,aj,aN,af,aq,br,aB,aG,aa,ends];refine En ?_;rw [NK];refine iU (xs:=rows.zipIdx 0) (fun pre τ G'=>G=G'/\(∃ a b,τ=[some (enc rows),some (enc s),a,b])/\∀ p∈pre,s∉cD p.1 (p.2:Int)) ⟨rfl,⟨_,_,rfl⟩,fun _ h=>by cases h⟩ (fun _ _ _ _=>trivial) ?_ ?_
 ·rintro pre x post τ G' N2 e ⟨rfl,⟨a,b,rfl⟩,hp⟩ Dx;obtain⟨lf,rt,e1,e2,e3⟩:=BB e;simp only [CA,lN,aR,z4,eE,aC,av,cb,dA,ao,ae,aa,cK,cT,a9,bK,ax,aW];refine⟨x.1,(x.2:Int),rfl,hr x.1 (by rw [e1]; simp),?_⟩;refine B9 (by decide) ?_;simp only [ay,if_false,bu];by_cases hx:s∈cD x.1 (x.2:Int)
  ·simp only [hx,decide_true,ay,if_false,if_true];have:DL rows s=x.2:=by
    unfold DL;have:(rows.zipIdx 0).find? (fun p=>decide (s∈cD p.1 (p.2:Int)))=some x:=by
     rw [e,List.find?_append];have:pre.find? (fun p=>decide (s∈cD p.1 (p.2:Int)))=none:=by
      rw [List.find?_eq_none]; intro p h; simpa using hp p h
     rw [this];simp [hx]
    rw [this]; rfl
   rw [<-this];exact eB q
  ·simp only [hx,decide_false,ay,if_false];refine Dx _ _ ⟨rfl,⟨_,_,rfl⟩,fun p h=>?_⟩;rcases List.mem_append.mp h with h | h
   ·exact hp p h
   ·rw [List.mem_singleton.mp h]; exact hx
 ·rintro τ G' ⟨rfl,_,hp⟩;obtain⟨p,h1,h2⟩:=hs;exact absurd h2 (hp p h1)
end P
namespace K3
open K2.P K2.sr
inductive Rl (G:Gp):List D->Rows->Prop
 | nil:Rl G [] []
 | cons {x:D} {r:List T3} {xs:List D} {rs:Rows}:IsL G x (r.map enc)->Rl G xs rs->Rl G (x :: xs) (r :: rs)
noncomputable def KU(G:Gp)(d:D)(rows:Rows):Prop:=∃ ds,IsL G d ds/\Rl G ds rows
theorem Rl.enc{G:Gp}:∀ (rows:Rows),Rl G (rows.map Enc.enc) rows
 | []=>.nil
 | r :: rs=>.cons (IsL.enc r) (Rl.enc rs)
theorem KU.enc{G:Gp}(rows:Rows):KU G (Enc.enc rows) rows:=⟨_,IsL.enc rows,Rl.enc rows⟩
theorem Ie{G':Gp}:∀ (as:List Nat) (rs:Rows),as.length=rs.length->(∀ (i a:Nat) (r:List T3),as[i]?=some a->rs[i]?=some r->G' a=some (.lst (r.map enc)))->Rl G' (as.map D.ref) rs
 | [],[],_,_=>.nil
 | [],_ :: _,h,_=>by cases h
 | _ :: _,[],h,_=>by cases h
 | a :: as,r :: rs,h,Dw=>.cons (IsL.ref (Dw 0 a r rfl rfl)) (Ie as rs (by simpa using h) fun i b s h1 h2=>Dw (i+1) b s h1 h2)
theorem HR.rw{G G':Gp}{p0:Nat}{as:List Nat}{rs:Rows}(h:HR G G' p0 as rs):KU G' (.ref p0) rs:=⟨_,IsL.ref h.gp,Ie as rs h.len h.at'⟩
theorem NC{g:Bn}{body:fh}{ok:Gp->Prop}{ds:List D}{rows:Rows}{E:jz}{K:jA}{τ:g6}{G G0:Gp}(rl:Rl G0 ds rows)(I:Rows->g6->Gp->Prop)
  (h0:I [] τ G) (cF:∀ pre τ G,I pre τ G->ok G)
  (step:∀ (pre:Rows) (r:List T3) (post:Rows) (x:D) τ G (N:g6->Gp->Prop),rows=pre++r :: post->IsL G0 x (r.map enc)->I pre τ G->(∀ AJ G2,I (pre++[r]) AJ G2->N AJ G2) ->
   g E x τ G fun tQ G1=>body E { K with nx:=N,ct:=N,bk:=K.nx } tQ G1)
  (fin:∀ τ G,I rows τ G->K.nx τ G):sd g body ok ds E K τ G:=by
 have main:∀ (post pre:Rows) (ds:List D) τ G,Rl G0 ds post->rows=pre++post->I pre τ G->sd g body ok ds E K τ G:=by
  intro post;induction post with
  | nil =>
   intro pre ds τ G rl e h;cases rl;rw [bW] at e;subst e;exact⟨cF _ _ _ h,fin _ _ h⟩
  | cons r post ih =>
   intro pre ds τ G rl e h;cases rl with
   | cons hx rl =>
    refine⟨cF _ _ _ h,?_⟩;exact step pre r post _ τ G _ e hx h fun AJ G2 h2=>ih (pre++[r]) _ AJ G2 rl (by rw [e,g8]; rfl) h2
 exact main rows [] ds τ G rl rfl h0
noncomputable def used(u:List Int)(n:Int):List Int:=if n∈u then u else u++[n]
noncomputable def vr(u:List Int)(ns:List Int):List Int:=ns.foldl used u
theorem LL(u:List Int)(n:Int):(used u n).length<=u.length+1:=by unfold used; split <;> simp
theorem rp:∀ (ns u:List Int),(vr u ns).length<=u.length+ns.length
 | [],u=>by simp [vr]
 | n :: ns,u=>by
  have:=rp ns (used u n);have h2:=LL u n;show (vr (used u n) ns).length<=_;rw [af]; lia
theorem CU(u a b:List Int):vr u (a++b)=vr (vr u a) b:=by unfold vr; rw [qV]
theorem sW:∀ (ns u:List Int),u.Nodup->(vr u ns).Nodup
 | [],u,h=>h
 | n :: ns,u,h=>by
  refine sW ns (used u n) ?_;unfold used;split
  ·exact h
  ·rename_i hn;rw [fu];refine⟨h,by simp,fun a ha b hb e=>?_⟩;rw [dN] at hb;subst hb e;exact hn ha
theorem oG:∀ (ns u:List Int) (x:Int),x∈vr u ns↔x∈u\/x∈ns
 | [],u,x=>by simp [vr]
 | n :: ns,u,x=>by
  show x∈vr (used u n) ns↔_;rw [oG ns];unfold used;split
  ·rename_i hn;constructor
   ·rintro(h | h)
    ·exact .inl h
    ·exact .inr (aK _ h)
   ·rintro(h | h)
    ·exact .inl h
    ·rcases List.mem_cons.mp h with rfl | h
     ·exact .inl hn
     ·exact .inr h
  ·rw [Fv,dN,mX,or_assoc]
noncomputable def ez(rows:Rows):List Int:=HY (vr [] (rows.flatten.map (·.a)))
theorem mh{α:Type} [DecidableEq α] [Enc α]{neg:Bool}{x:α}{xs:List α}{a:Nat}{G:Gp}{Q:DK}(hd:Enc.dep α<=7)(h:G a=some (.lst (xs.map enc)))(q:Q (.bl (if neg then !decide (x∈xs) else decide (x∈xs))) G):Ca neg (enc x) (.ref a) G Q:=by
 unfold Ca;simp only [h];refine⟨_,_,Enc.sn G 8 x (by lia),pQ G 7 hd xs,?_⟩;rw [Jl]; exact q
theorem Hb{c:xu}{a b:fh}{E:jz}{K:jA}{τ:g6}{G:Gp}:eE c a b E K τ G=c E τ G fun k G1=>if k=true then a E K τ G1 else b E K τ G1:=rfl
noncomputable def cJ:gM:=fun ds G Q _=>∃ (d:D) (rows:Rows),ds=[d]/\KU G d rows/\rows.flatten.length < 64/\Q (enc (ez rows)) G
end K3
namespace K3
open K2.P K2.sr
noncomputable def Wl(n:Int):Int:=n % 999+1
noncomputable def fit(n:Int):Nat->Int
 | 0=>n
 | k+1=>Wl (fit n k)
theorem CK{n:Int}(h1:1<=n)(h2:n<=999):∀ k:Nat,fit n k=(n - 1+k) % 999+1
 | 0=>by show n=_; lia
 | k+1=>by
  show Wl (fit n k)=_;rw [CK h1 h2 k];unfold Wl;lia
theorem iM:∀ (xs ys:List Int),xs.Nodup->(∀ x∈xs,x∈ys)->xs.length<=ys.length
 | [],_,_,_=>cg _
 | x :: xs,ys,hn,h=>by
  rw [iQ] at hn;have:=iM xs (ys.erase x) hn.2 fun y hy=>(OO (show y≠x from fun z=>hn.1 (by rw [<-z]; exact hy))).mpr (h y (aK _ hy));have hx:=h x (by simp);rw [Ju hx] at this;have:=Lz hx;rw [af]; lia
theorem EC{n:Int}{ns:List Int}(h1:1<=n)(h2:n<=999)(hl:ns.length<=500):∃ k,k<=ns.length/\fit n k∉ns:=by
 apply Bz;intro U3;have y1:∀ k,k<=ns.length->fit n k∈ns:=fun k hk=>Bz fun z=>U3 ⟨k,hk,z⟩;have nd:((ft (ns.length+1)).map fun k=>fit n k).Nodup:=by
  refine List.pairwise_iff_getElem.mpr fun i j hi hj hij=>?_;simp only [ai,fx] at hi hj;rw [jI,jI,kq,kq,CK h1 h2,CK h1 h2];lia
 have:=iM _ ns nd fun x hx=>by
  obtain⟨k,hk,rfl⟩:=List.mem_map.mp hx;exact y1 k (by have:=List.mem_range.mp hk; lia)
 simp at this;lia
theorem yL(rows:Rows):(ez rows).length<=rows.flatten.length:=by
 unfold ez;rw [xF];have:=rp (rows.flatten.map (·.a)) [];rw [ai,aq] at this;lia
theorem jX{rows:Rows}{n:Int}:n∈ez rows↔n∈rows.flatten.map (·.a):=by
 unfold ez;rw [(jg _).mem_iff,oG];simp
noncomputable def ins(r:List T3)(k:Nat)(p:T3):List T3:=r.take k++p :: r.drop k
theorem yV(r:List T3)(k:Nat)(p:T3):(ins r k p).Perm (p :: r):=LQ p r k
theorem IJ(r:List T3)(k:Nat)(p:T3):(r.map enc).take k++enc p :: (r.map enc).drop k=(ins r k p).map (enc:T3->D):=by
 unfold ins; rw [aP,aj,K4,K5]
structure DF(L:List T3):Prop where
 nd:(L.map T3.s).Nodup
 way:∀ p∈L,p.b=0\/p.b=1
 hand:∀ p∈L,p.c=1\/p.c=-1
 zX:∀ p∈L,(⟨p.a,1 - p.b,p.c⟩:T3)∈L
theorem DF.perm{L L':List T3}(h:DF L)(p:L'.Perm L):DF L' :=
 ⟨(p.map _).nodup_iff.mpr h.nd,fun x hx=>h.way x (p.mem_iff.mp hx),fun x hx=>h.hand x (p.mem_iff.mp hx),fun x hx=>p.mem_iff.mpr (h.zX x (p.mem_iff.mp hx))⟩
theorem DF.add{L:List T3}(h:DF L){m hd:Int}(hm:m∉L.map (·.a))(hh:hd=1\/hd=-1):DF (⟨m,1,hd⟩ :: ⟨m,0,hd⟩ :: L):=by
 have no:∀ w,(⟨m,w⟩:T2)∉L.map T3.s:=fun w z=>by
  obtain⟨p,hp,e⟩:=List.mem_map.mp z;exact hm (List.mem_map.mpr ⟨p,hp,by have:=congrArg T2.a e; exact this⟩)
 refine⟨?_,?_,?_,?_⟩
 ·rw [aj,aj,iQ,iQ];refine⟨fun z=>?_,no 0,h.nd⟩;rcases List.mem_cons.mp z with e | z
  ·have:=congrArg T2.b e;exact absurd (show (1:Int)=0 from this) (by decide)
  ·exact no 1 z
 ·intro p hp;rcases List.mem_cons.mp hp with rfl | hp
  ·exact .inr rfl
  ·rcases List.mem_cons.mp hp with rfl | hp
   ·exact .inl rfl
   ·exact h.way p hp
 ·intro p hp;rcases List.mem_cons.mp hp with rfl | hp
  ·exact hh
  ·rcases List.mem_cons.mp hp with rfl | hp
   ·exact hh
   ·exact h.hand p hp
 ·intro p hp;rcases List.mem_cons.mp hp with rfl | hp
  ·exact aK _ bo
  ·rcases List.mem_cons.mp hp with rfl | hp
   ·exact bo
   ·exact aK _ (aK _ (h.zX p hp))
theorem HR.at_{G G':Gp}{p0:Nat}{as:List Nat}{rs:Rows}(h:HR G G' p0 as rs){j:Int}(j1:0<=j)(j2:j < rs.length):∃ a r,as[j.toNat]?=some a/\rs[j.toNat]?=some r/\G' a=some (.lst (r.map enc))/\we (as.map D.ref) j=some (.ref a):=by
 have hj:j.toNat < as.length:=by have:=h.len; lia
 refine⟨as[j.toNat],rs[j.toNat]'(by lia),bf hj,bf _,h.at' _ _ _ (bf hj) (bf _),?_⟩;rw [ve _ j1 (by rw [ai]; have:=h.len; lia),jI]
end K3
namespace Mo
open K2.P
theorem xb{G:Gp}{p:Nat}{a b:GO}:bP (bP G p a) p b=bP G p b:=by
 funext c; unfold bP; by_cases h:c=p <;> simp [h]
theorem at_{al:List Str}{f c:Str}{a:Nat}{fs:List (Str×D)}{d:D}{G:Gp}{Q:DK}(h:G a=some (.ins c fs))(q:Q d G)(hc:autoParam (c∈al) Am._auto_1)(hl:autoParam (fs.lookup f=some d) Ar._auto_1):Og al f (.ref a) G Q:=⟨a,c,fs,d,rfl,h,hc,hl,q⟩
noncomputable def setAt(al:List Str)(f:Str)(x d:D)(G:Gp)(K:Gp->Prop):Prop:=∃ a c fs,x=.ref a/\G a=some (.ins c fs)/\c∈al/\fs.length < 1000/\K (bP G a (.ins c (putD f d fs)))
theorem qA{al:List Str}{f:Str}{to tv:eZ}{E:jz}{K:jA}{τ:g6}{G:Gp}:jo al f to tv E K τ G=tv E τ G fun d G1=>to E τ G1 fun x G2=>setAt al f x d G2 (K.nx τ):=rfl
theorem DM{al:List Str}{f c:Str}{a:Nat}{fs:List (Str×D)}{d:D}{G:Gp}{K:Gp->Prop}(h:G a=some (.ins c fs))(q:K (bP G a (.ins c (putD f d fs))))(hc:autoParam (c∈al) Am._auto_1)(hl:autoParam (fs.length < 1000) An._auto_1):setAt al f (.ref a) d G K:=⟨a,c,fs,rfl,h,hc,hl,q⟩
inductive x6 where
 | un (n:Int)
 | cu (n:Int) (s:T2) (f h:Int)
 | pa (a b:Int)
 | la (a b:Int) (o u:T2) (t h:Int)
 | sl (a b c t:Int)
noncomputable def cn:x6->Str
 | .un _=>"Uncurl" | .cu ..=>"Curl" | .pa ..=>"Part" | .la ..=>"Lay" | .sl ..=>"Slide"
noncomputable def wd:x6->Str
 | .un _=>"uncurl" | .cu ..=>"curl" | .pa ..=>"part" | .la ..=>"lay" | .sl ..=>"slide"
noncomputable def ar:x6->List D
 | .un n=>[.int n] | .cu n s f h=>[.int n,enc s,.int f,.int h] | .pa a b=>[.int a,.int b] | .la a b o u t h=>[.int a,.int b,enc o,enc u,.int t,.int h] | .sl a b c t=>[.int a,.int b,.int c,.int t]
noncomputable def fl:x6->List (Str×D)
 | .un n=>[("name",.int n)] | .cu n s f h=>[("name",.int n),("spot",enc s),("first",.int f),("hand",.int h)] | .pa a b=>[("name",.int a),("second",.int b)] | .la a b o u t h=>[("name",.int a),("second",.int b),("over",enc o),("under",enc u),("turned",.int t),("hand",.int h)] | .sl a b c t=>[("name",.int a),("second",.int b),("third",.int c),("turn",.int t)]
noncomputable def td(m:x6):D:=.tup (.str (wd m) :: ar m)
noncomputable def ob(m:x6):GO:=.ins (cn m) (fl m)
noncomputable abbrev Qo(G:Gp)(p:Nat)(m:x6):Prop:=G p=some (ob m)
noncomputable def lB:fh :=
 (jo ["Uncurl"] "name" (ao 0) (ao 1))
noncomputable def cO:gM:=fun ds G Q _=>∃ (p:Nat) (n:Int),ds=[.ref p,.int n]/\G p=some (.ins "Uncurl" [])/\Q .dI (bP G p (ob (.un n)))
theorem tx(ds:List D)(G:Gp)(Q:DK)(h:cO ds G Q fun _ _=>False):lB (fun _ _=>False) (ends Q) (aX 2 ds) G:=by
 obtain⟨p,n,rfl,g,q⟩:=h;unfold lB;simp only [ends,aX,aj,aN,af,aq,aB,aG,qA,ao,ae,aa];refine DM g ?_;exact q
noncomputable def qb:fh :=
 (cb (dA (jJ (ax (dC (.str "uncurl")) (ax (fK ["Uncurl"] "name" (ao 0)) aW)))))
noncomputable def ji:gM:=fun ds G Q _=>∃ (p:Nat) (n:Int),ds=[.ref p]/\Qo G p (.un n)/\Q (td (.un n)) G
theorem zC(ds:List D)(G:Gp)(Q:DK)(h:ji ds G Q fun _ _=>False):qb (fun _ _=>False) (ends Q) (aX 1 ds) G:=by
 obtain⟨p,n,rfl,g,q⟩:=h;unfold qb;simp only [cb,dA,jJ,ax,dC,fK,ao,aX,aj,aN,af,aq,aB,aG,aa,aW,ends];refine at_ g ?_;exact⟨by decide,eB q⟩
noncomputable def nz:fh :=
 (bR (jo ["Curl"] "name" (ao 0) (ao 1))
 (bR (jo ["Curl"] "spot" (ao 0) (ao 2))
 (bR (jo ["Curl"] "first" (ao 0) (ao 3))
 (jo ["Curl"] "hand" (ao 0) (ao 4)))))
noncomputable def ix:gM:=fun ds G Q _=>∃ (p:Nat) (n:Int) (s:T2) (f:Int) (h:Int),ds=[.ref p,.int n,enc s,.int f,.int h]/\G p=some (.ins "Curl" [])/\Q .dI (bP G p (ob (.cu n s f h)))
theorem wj(ds:List D)(G:Gp)(Q:DK)(h:ix ds G Q fun _ _=>False):nz (fun _ _=>False) (ends Q) (aX 5 ds) G:=by
 obtain⟨p,n,s,f,h,rfl,g,q⟩:=h;unfold nz;simp only [ends,aX,aj,aN,af,aq,aB,aG,cq,qA,ao,ae,aa];refine DM g ?_;refine DM az ?_;refine DM az ?_;refine DM az ?_;simp only [xb];exact q
noncomputable def ny:fh :=
 (bR (jo ["Part"] "name" (ao 0) (ao 1))
 (jo ["Part"] "second" (ao 0) (ao 2)))
noncomputable def iw:gM:=fun ds G Q _=>∃ (p:Nat) (a:Int) (b:Int),ds=[.ref p,.int a,.int b]/\G p=some (.ins "Part" [])/\Q .dI (bP G p (ob (.pa a b)))
theorem wg(ds:List D)(G:Gp)(Q:DK)(h:iw ds G Q fun _ _=>False):ny (fun _ _=>False) (ends Q) (aX 3 ds) G:=by
 obtain⟨p,a,b,rfl,g,q⟩:=h;unfold ny;simp only [ends,aX,aj,aN,af,aq,aB,aG,cq,qA,ao,ae,aa];refine DM g ?_;refine DM az ?_;simp only [xb];exact q
noncomputable def oV:fh :=
 (bR (jo ["Lay"] "name" (ao 0) (ao 1))
 (bR (jo ["Lay"] "second" (ao 0) (ao 2))
 (bR (jo ["Lay"] "over" (ao 0) (ao 3))
 (bR (jo ["Lay"] "under" (ao 0) (ao 4))
 (bR (jo ["Lay"] "turned" (ao 0) (ao 5))
 (jo ["Lay"] "hand" (ao 0) (ao 6)))))))
noncomputable def iS:gM:=fun ds G Q _=>∃ (p:Nat) (a:Int) (b:Int) (o:T2) (u:T2) (t:Int) (h:Int),ds=[.ref p,.int a,.int b,enc o,enc u,.int t,.int h]/\G p=some (.ins "Lay" [])/\Q .dI (bP G p (ob (.la a b o u t h)))
theorem xx(ds:List D)(G:Gp)(Q:DK)(h:iS ds G Q fun _ _=>False):oV (fun _ _=>False) (ends Q) (aX 7 ds) G:=by
 obtain⟨p,a,b,o,u,t,h,rfl,g,q⟩:=h;unfold oV;simp only [ends,aX,aj,aN,af,aq,aB,aG,cq,qA,ao,ae,aa];refine DM g ?_;refine DM az ?_;refine DM az ?_;refine DM az ?_;refine DM az ?_;refine DM az ?_;simp only [xb];exact q
noncomputable def mf:fh :=
 (bR (jo ["Slide"] "name" (ao 0) (ao 1))
 (bR (jo ["Slide"] "second" (ao 0) (ao 2))
 (bR (jo ["Slide"] "third" (ao 0) (ao 3))
 (jo ["Slide"] "turn" (ao 0) (ao 4)))))
noncomputable def hW:gM:=fun ds G Q _=>∃ (p:Nat) (a:Int) (b:Int) (c:Int) (t:Int),ds=[.ref p,.int a,.int b,.int c,.int t]/\G p=some (.ins "Slide" [])/\Q .dI (bP G p (ob (.sl a b c t)))
theorem vj(ds:List D)(G:Gp)(Q:DK)(h:hW ds G Q fun _ _=>False):mf (fun _ _=>False) (ends Q) (aX 5 ds) G:=by
 obtain⟨p,a,b,c,t,rfl,g,q⟩:=h;unfold mf;simp only [ends,aX,aj,aN,af,aq,aB,aG,cq,qA,ao,ae,aa];refine DM g ?_;refine DM az ?_;refine DM az ?_;refine DM az ?_;simp only [xb];exact q
end Mo
namespace Mo
open K2.P
theorem TC{neg:Bool}{a:Str}{G:Gp}{Q:DK}(q:Q (.bl (!neg)) G)(ha:autoParam (a.cps.all (· < 0x110000)=true) Ak._auto_1):Cb neg (.str a) (.str a) G Q:=⟨_,_,.str a ha,.str a ha,by
 have:ip (.str a) (.str a)=true:=by show (a == a)=true; exact beq_self_eq_true a
 rw [this]; cases neg <;> exact q⟩
theorem MI{neg:Bool}{a b:Str}{G:Gp}{Q:DK}(q:Q (.bl neg) G)(h:autoParam ((a == b)=false) Ak._auto_1)(ha:autoParam (a.cps.all (· < 0x110000)=true) Ak._auto_1)(hb:autoParam (b.cps.all (· < 0x110000)=true) Ak._auto_1):Cb neg (.str a) (.str b) G Q:=⟨_,_,.str a ha,.str b hb,by
 have:ip (.str a) (.str b)=false:=h;rw [this]; cases neg <;> exact q⟩
noncomputable def rn(kv:List (Int×Int))(n:Int):Int:=(jy kv n).getD n
noncomputable def rs(kv:List (Int×Int))(s:T2):T2:=if s.b=2 then s else ⟨rn kv s.a,s.b⟩
noncomputable def DV(kv:List (Int×Int)):x6->x6
 | .un n=>.un (rn kv n) | .cu n s f h=>.cu (rn kv n) (rs kv s) f h | .pa a b=>.pa (rn kv a) (rn kv b) | .la a b o u t h=>.la (rn kv a) (rn kv b) (rs kv o) (rs kv u) t h | .sl a b c t=>.sl (rn kv a) (rn kv b) (rn kv c) t
theorem mg_{kv:List (Int×Int)}{G:Gp}{d:D}{n:Int}{Q:DK}(h:OJ G d kv)(q:Q (.int (rn kv n)) G):MR d [.int n,.int n] G Q:=PH (e:=n) h q
noncomputable def md:fh :=
 (cb (dA (lS "Uncurl" cO (ax (zm Th MR (ao 1) (ax (fK ["Uncurl"] "name" (ao 0)) (ax (fK ["Uncurl"] "name" (ao 0)) aW))) aW))))
noncomputable def hV:gM:=fun ds G Q _=>∃ (p:Nat) (d:D) (n:Int) (kv:List (Int×Int)),ds=[.ref p,d]/\Qo G p (.un n)/\OJ G d kv/\∀ p',G p'=none->Q (.ref p') (bP G p' (ob (DV kv (.un n))))
theorem vi(ds:List D)(G:Gp)(Q:DK)(h:hV ds G Q fun _ _=>False):md (fun _ _=>False) (ends Q) (aX 2 ds) G:=by
 obtain⟨p,d,n,kv,rfl,g,hd,q⟩:=h;unfold md;simp only [cb,dA,lS,ax,zm,ao,aX,aj,aN,af,aq,aB,aG,ae,aa,fK,aW,ends];refine⟨LM hd,?_⟩;refine at_ g ?_;refine at_ g ?_;refine mg_ hd ?_
 try refine⟨LM hd,?_⟩
 exact fun p' hp=>⟨p',rn kv n,rfl,az,rfl,eB (by rw [xb]; exact q p' hp)⟩
noncomputable def yp:fh :=
 (bR (eE (fQ (a9 (Cb false) (a9 j7 (ao 0) (dC (.int 0))) (dC (.str "uncurl")))) (cb (dA (lS "Uncurl" cO (ax (a9 j7 (ao 0) (dC (.int 1))) aW)))) cK)
 (bR (eE (fQ (a9 (Cb false) (a9 j7 (ao 0) (dC (.int 0))) (dC (.str "curl")))) (cb (dA (lS "Curl" ix (ax (a9 j7 (ao 0) (dC (.int 1))) (ax (a9 j7 (ao 0) (dC (.int 2))) (ax (a9 j7 (ao 0) (dC (.int 3))) (ax (a9 j7 (ao 0) (dC (.int 4))) aW))))))) cK)
 (bR (eE (fQ (a9 (Cb false) (a9 j7 (ao 0) (dC (.int 0))) (dC (.str "part")))) (cb (dA (lS "Part" iw (ax (a9 j7 (ao 0) (dC (.int 1))) (ax (a9 j7 (ao 0) (dC (.int 2))) aW))))) cK)
 (bR (eE (fQ (a9 (Cb false) (a9 j7 (ao 0) (dC (.int 0))) (dC (.str "lay")))) (cb (dA (lS "Lay" iS (ax (a9 j7 (ao 0) (dC (.int 1))) (ax (a9 j7 (ao 0) (dC (.int 2))) (ax (a9 j7 (ao 0) (dC (.int 3))) (ax (a9 j7 (ao 0) (dC (.int 4))) (ax (a9 j7 (ao 0) (dC (.int 5))) (ax (a9 j7 (ao 0) (dC (.int 6))) aW))))))))) cK)
 (bR (eE (fQ (a9 (Cb false) (a9 j7 (ao 0) (dC (.int 0))) (dC (.str "slide")))) (cb (dA (lS "Slide" hW (ax (a9 j7 (ao 0) (dC (.int 1))) (ax (a9 j7 (ao 0) (dC (.int 2))) (ax (a9 j7 (ao 0) (dC (.int 3))) (ax (a9 j7 (ao 0) (dC (.int 4))) aW))))))) cK)
 oJ)))))
noncomputable def jS:gM:=fun ds G Q _=>∃ m:x6,ds=[td m]/\∀ p,G p=none->Q (.ref p) (bP G p (ob m))
theorem HE(ds:List D)(G:Gp)(Q:DK)(h:jS ds G Q fun _ _=>False):yp (fun _ _=>False) (ends Q) (aX 1 ds) G:=by
 obtain⟨m,rfl,q⟩:=h;unfold yp;cases m with
 | un n =>
  simp only [ends,aX,td,wd,ar,aj,aN,af,aq,aB,aG,cq,eE,cb,dA,lS,ax,a9,ao,aa,dC,aW,e8,OG,cK,cT,Lf];refine TC ?_;simp only [bO,bu,if_true];exact fun p hp=>⟨p,n,rfl,az,rfl,eB (by rw [xb]; exact q p hp)⟩
 | cu n s f h =>
  simp only [ends,aX,td,wd,ar,aj,aN,af,aq,aB,aG,cq,eE,cb,dA,lS,ax,a9,ao,aa,dC,aW,e8,OG,cK,cT,Lf];refine MI ?_;simp only [bu,ay,if_false];refine TC ?_;simp only [bO,bu,if_true];exact fun p hp=>⟨p,n,s,f,h,rfl,az,rfl,eB (by rw [xb]; exact q p hp)⟩
 | pa a b =>
  simp only [ends,aX,td,wd,ar,aj,aN,af,aq,aB,aG,cq,eE,cb,dA,lS,ax,a9,ao,aa,dC,aW,e8,OG,cK,cT,Lf];refine MI ?_;simp only [bu,ay,if_false];refine MI ?_;simp only [bu,ay,if_false];refine TC ?_;simp only [bO,bu,if_true];exact fun p hp=>⟨p,a,b,rfl,az,rfl,eB (by rw [xb]; exact q p hp)⟩
 | la a b o u t h =>
  simp only [ends,aX,td,wd,ar,aj,aN,af,aq,aB,aG,cq,eE,cb,dA,lS,ax,a9,ao,aa,dC,aW,e8,OG,cK,cT,Lf];refine MI ?_;simp only [bu,ay,if_false];refine MI ?_;simp only [bu,ay,if_false];refine MI ?_;simp only [bu,ay,if_false];refine TC ?_;simp only [bO,bu,if_true];exact fun p hp=>⟨p,a,b,o,u,t,h,rfl,az,rfl,eB (by rw [xb]; exact q p hp)⟩
 | sl a b c t =>
  simp only [ends,aX,td,wd,ar,aj,aN,af,aq,aB,aG,cq,eE,cb,dA,lS,ax,a9,ao,aa,dC,aW,e8,OG,cK,cT,Lf];refine MI ?_;simp only [bu,ay,if_false];refine MI ?_;simp only [bu,ay,if_false];refine MI ?_;simp only [bu,ay,if_false];refine MI ?_;simp only [bu,ay,if_false];refine TC ?_;simp only [bO,bu,if_true];exact fun p hp=>⟨p,a,b,c,t,rfl,az,rfl,eB (by rw [xb]; exact q p hp)⟩
end Mo
namespace Mo
open K2.P
open K2.sr (pe en qP)
noncomputable def Pl(d:D):Prop:=(∃ i,d=.int i)\/∃ ns,d=tI ns
noncomputable abbrev Zw(w:Str):Prop:=w.cps.all (· < 0x110000)=true
theorem VV(s:T2):Pl (enc s):=.inr ⟨[s.a,s.b],rfl⟩
theorem To(i:Int):Pl (.int i):=.inl ⟨i,rfl⟩
theorem Q0(m:x6):∀ a∈ar m,Pl a:=by
 cases m <;> intro a h <;> simp only [ar,mX,dg,or_false] at h <;> rcases h with rfl | h <;> (try exact To _) <;> (try (rcases h with rfl | h)) <;> (try exact To _) <;> (try exact VV _) <;> (try (rcases h with rfl | h)) <;> (try exact To _) <;> (try exact VV _) <;> (try (rcases h with rfl | h)) <;> (try exact To _) <;> (try exact VV _) <;> (try (rcases h with rfl | h)) <;> (try exact To _) <;> (try exact VV _) <;> (try (subst h; exact To _))
theorem T1(m:x6):Zw (wd m):=by
 have h:∀ w∈(["uncurl","curl","part","lay","slide"]:List Str),Zw w:=by decide +kernel
 cases m <;> exact h _ (by simp [wd])
end Mo
end K2
end
section
namespace K2
namespace xy
noncomputable def ab(c:Int):Int:=if c < 0 then -c else c
variable {α:Type}
end xy
end K2
end
section
namespace K2
open PySem (Str)
open Enc (enc)
namespace xy
open K2.P
noncomputable def Ok(n:Int)(cs:List Int):Prop:=n<=3/\cs.length<=40/\∀ c∈cs,1<=ab c/\ab c < n
end xy
namespace xy
open K2.P
noncomputable def Good(n:Int)(cs:List Int):Prop:=(1<=n/\n<=3)/\cs.length<=12/\∀ c∈cs,1<=ab c/\ab c < n
noncomputable instance (n:Int) (cs:List Int):Decidable (Good n cs):=by unfold Good; exact inferInstance
end xy
namespace xy
open K2.P
noncomputable def kU:List T3->T3
 | []=>⟨0,0,0⟩
 | a :: r=>r.foldl (fun m x=>if bJ.lt x m=true then x else m) a
theorem lL{r:List T3}(h:r≠[]):kU r∈r:=by
 cases r with
 | nil=>exact absurd rfl h
 | cons a r=>exact(jZ r a).1
theorem q4{r:List T3}{y:T3}(hy:y∈r):xQ (kU r) y=true:=by
 cases r with
 | nil=>cases hy
 | cons a r=>exact(jZ r a).2 y hy
noncomputable def fj(r:List T3):List T3:=r.drop (r.idxOf (kU r))++r.take (r.idxOf (kU r))
theorem E8{x:D}{G:Gp}{r:List T3}{Q:DK}(hi:itemsOf x G=some (r.map enc))(pD:r≠[])(q:Q (enc (kU r)) G):N9 [x] G Q :=
 HH.mn hi pD fun m hm hl=>by
  have:m=kU r:=Ei _ _ (hl _ (lL pD)) (q4 hm);rw [this]; exact q
theorem yG{x:D}{G:Gp}{r:List T3}{Q:DK}(ht:BW x G)(hi:itemsOf x G=some (r.map enc))(pD:r≠[])(q:Q (.int ((r.idxOf (kU r):Nat):Int)) G):vM x [enc (kU r)] G Q:=by
 refine⟨ht,r.map enc,enc (kU r),r.map enc,hi,Enc.sn G 8 _ (by decide),pQ G 7 (by decide) r,?_⟩;have e:(r.map enc).findIdx? (ip · (enc (kU r)))=some (r.idxOf (kU r)):=by
  have hf:(fun y:T3=>ip (enc y) (enc (kU r)))=fun y=>y == kU r:=by
   funext y;rw [Enc.eqv];by_cases h:y=kU r <;> simp [h]
  rw [List.findIdx?_map];show List.findIdx? (fun y=>ip (enc y) (enc (kU r))) r=_;rw [hf];have hm:=lL pD;rw [List.idxOf];rw [List.findIdx?_eq_some_iff_findIdx_eq];exact⟨List.findIdx_lt_length.mpr ⟨_,hm,by simp⟩,rfl⟩
 rw [e]; exact q
end xy
namespace zD
open K2.P
open K2.xy (fj kU)
theorem Ub{n:Nat}(h:n<=100000):n<=SZ:=by unfold SZ; lia
noncomputable abbrev Cs:=List Rows
noncomputable def S5(a:Rows)(x:List T3):Rows:=a++[x]
noncomputable def Mr(m:List (List T3))(a:Rows):Cs:=m.map (S5 a)
noncomputable def pick(ls:List (List (List T3))):Cs:=ls.foldl (fun acc m=>acc.flatMap (Mr m)) [[]]
theorem JV(ls:List (List (List T3)))(m:List (List T3)):pick (ls++[m])=(pick ls).flatMap (Mr m):=by unfold pick; rw [qV]; rfl
theorem xN{m:List (List T3)}:∀ l:Cs,(l.flatMap (Mr m)).length=m.length * l.length
 | []=>by simp
 | a :: l=>by
  rw [AI,aO,xN l,af,Nat.mul_succ];unfold Mr;rw [ai]; lia
theorem yu{k:Nat}(ls:List (List (List T3)))(h:∀ m∈ls,m.length<=k):(pick ls).length<=k ^ ls.length:=by
 have:∀ (ls:List (List (List T3))) (acc:Cs),(∀ m∈ls,m.length<=k)->(ls.foldl (fun acc m=>acc.flatMap (Mr m)) acc).length<=k ^ ls.length * acc.length:=by
  intro ls;induction ls with
  | nil=>intro acc _; simp
  | cons m ls ih =>
   intro acc h;have:=ih (acc.flatMap (Mr m)) fun x hx=>h x (aK _ hx);rw [xN] at this;refine bU this ?_;rw [af,Nat.pow_succ,Nat.mul_assoc];exact Jt (aQ _) (Jt (h m bo) (aQ _))
 have:=this ls [[]] h;rw [gq,Nat.mul_one] at this;exact this
theorem D3{P:List (List (List T3))->Rows->Prop}(h0:P [] [])(h1:∀ ls m a x,P ls a->x∈m->P (ls++[m]) (a++[x]))(ls:List (List (List T3))):∀ c∈pick ls,P ls c:=by
 have:∀ (post pre:List (List (List T3))) (acc:Cs),(∀ c∈acc,P pre c)->∀ c∈post.foldl (fun acc m=>acc.flatMap (Mr m)) acc,P (pre++post) c:=by
  intro post;induction post with
  | nil=>intro pre acc h c hc; rw [bW]; exact h c hc
  | cons m post ih =>
   intro pre acc h c hc;rw [List.append_cons];refine ih (pre++[m]) _ (fun c hc=>?_) c hc;obtain⟨a,ha,hc⟩:=List.mem_flatMap.mp hc;obtain⟨x,hx,rfl⟩:=List.mem_map.mp hc;exact h1 pre m a x (h a ha) hx
 exact this ls [] [[]] fun c hc=>by obtain rfl:=List.mem_singleton.mp hc; exact h0
theorem JW(ls:List (List (List T3)))(c:Rows)(h:c∈pick ls):c.length=ls.length :=
 D3 (P:=fun ls c=>c.length=ls.length) rfl (fun ls m a x e _=>by rw [aO,aO,e]; rfl) ls c h
theorem Zv{k:Nat}(h:k<=3):24 ^ k<=13824:=bU (Nat.pow_le_pow_right (by decide) h) (by decide)
noncomputable def qa:fh :=
 (bR (bY (dA (gE (ax (gE aW) aW))) (aR 1))
 (bR (i4 (kW (ao 0)) (aR 2) (bR (bY (gE aW) (aR 3))
 (bR (i4 (kW (ao 1)) (aR 4) (fJ (zm BW uG (ao 3) (ax (gX 1 [4] (kW (ao 2)) (aR 0) none (dA (a9 iL (ao 1) (gE (ax (ao 0) aW))))) aW))))
 (bY (dA (ao 3)) (aR 1)))))
 (cb (dA (ao 1)))))
noncomputable def gb:gM:=fun ds G Q _=>∃ ls:List (List (List T3)),ds=[enc ls]/\(ls.length<=3/\∀ m∈ls,m.length<=24)/\Q (enc (pick ls)) G
theorem qO(ds:List D)(G:Gp)(Q:DK)(h:gb ds G Q fun _ _=>False):qa (fun _ _=>False) (ends Q) (aX 5 ds) G:=by
 obtain⟨ls,rfl,⟨h3,hm⟩,q⟩:=h;unfold qa;simp only [ends,aX,aj,aN,af,aq,br,aB,aG,eU,bY,dA,gE,ax,aW,aR,aC,av];refine⟨by decide,fun pa fa=>⟨by decide,fun pb fb=>?_⟩⟩;have la:fi G (bP (bP G pa (.lst [])) pb (.lst [.ref pa])):=(fi.new fa).trans (.new fb);have fb':G pb=none:=by
  cases e:G pb with
  | none=>rfl
  | some o=>have:=(fi.new (o:=.lst []) fa) _ _ e; rw [this] at fb; cases fb
 refine sR la fb' az (.cons (.ref ((fi.new fb) _ _ az) (by simp [fa]) .nil) .nil) ?_;refine kz (fun τ G'=>G=G'/\∃ a b c,τ=[some (enc ls),some (enc (pick ls)),a,b,c]) ?_ ?_
 ·intro N hN;simp only [i4,dE,ao,aa];refine iz ?_;refine iU (xs:=ls) (fun pre τ G'=>G=G'/\∃ a b c,τ=[some (enc ls),some (enc (pick pre)),a,b,c]) ⟨rfl,_,_,_,rfl⟩ (fun _ _ _ _=>trivial) ?_ ?_
  ·rintro pre m post τ G' N2 e ⟨rfl,a,b,c,rfl⟩ Dx;have Hf:pre.length<=2:=by have:=congrArg dO e; simp at this; lia
   have hz:(pick pre).length<=13824:=bU (yu pre fun x hx=>hm x (by rw [e]; exact fg _ hx)) (Zv (by lia));have XX:(pick pre).length<=576:=bU (yu pre fun x hx=>hm x (by rw [e]; exact fg _ hx)) (bU (Nat.pow_le_pow_right (by decide) Hf) (by decide));have Yq:m.length<=24:=hm m (by rw [e]; simp);simp only [aR,aC,av,cq,bY,gE,aW,aq];refine⟨by decide,fun p3 f3=>?_⟩;simp only [i4];simp only [dE,ao,ae,aa];refine iz ?_;refine iU (xs:=pick pre) (fun Mp τ G2=>fi G G2/\G2 p3=some (.lst ((Mp.flatMap (Mr m)).map enc))/\∃ c,τ=[some (enc ls),some (enc (pick pre)),some (enc m),some (.ref p3),c]) ⟨.new f3,az,_,rfl⟩ (fun _ _ _ _=>trivial) ?_ ?_
   ·rintro Mp a2 Zu τ G2 N3 e2 ⟨l2,g2,c,rfl⟩ Wg;have hlp:Mp.length<=(pick pre).length:=by rw [e2]; simp
    have hal:a2.length=pre.length:=JW pre a2 (by rw [e2]; simp);simp only [aR,fJ,zm,ao,aC,av,ae,aa,kM,g2,ax,gX,aW,ml,dE,true_and];refine iz ⟨Ub (by rw [ai]; lia),?_⟩;refine iP (xs:=m) (fun pr acc τ G3=>G2=G3/\(∃ a,τ=[a,some (enc a2)])/\acc=(pr.map (S5 a2)).map enc) ⟨rfl,⟨_,rfl⟩,rfl⟩ (fun _ _ _ _ _=>trivial) ?_ ?_
    ·rintro pr w po acc τ G3 N4 e3 ⟨rfl,⟨a,rfl⟩,rfl⟩ hN4;simp only [aR,dA,a9,ao,av,ae,aa,gE,ax,aW,af,aq];refine⟨by decide,fun pc fc=>?_⟩;refine Jm (IsL.enc a2) (IsL.ref az) (Ub (by rw [ai,hal]; show _+1<=100000; lia)) fun pd fd=>?_;refine lO (xs:=S5 a2 w) ((fi.new fc).trans (.new fd)) ((fi.new fc).free fd) (by rw [az]; unfold S5; rw [aP]; rfl) ?_;refine hN4 _ _ _ ⟨rfl,⟨_,rfl⟩,?_⟩;rw [aP,aP]; rfl
    ·rintro acc τ G3 ⟨rfl,⟨a,rfl⟩,rfl⟩ pc fc;have n3:p3≠pc:=fun z=>by rw [<-z,g2] at fc; cases fc
     have g3:(bP G2 pc (.lst ((m.map (S5 a2)).map enc))) p3=some (.lst ((Mp.flatMap (Mr m)).map enc)):=by rw [c4 n3]; exact g2
     have lo:nI (.ref pc) (bP G2 pc (.lst ((m.map (S5 a2)).map enc)))=some ((m.map (S5 a2)).map enc):=by unfold nI; simp only [az]
     simp only [g3,lo];refine⟨Ub ?_,?_⟩
     ·rw [ai,ai,ai,xN];have:m.length * Mp.length<=24 * 576:=Jt Yq (by lia);lia
     ·refine Wg _ _ ⟨(l2.trans (.new fc)).put f3,?_,_,rfl⟩;rw [az,List.flatMap_append,List.flatMap_singleton,aP]; rfl
   ·rintro τ G2 ⟨l2,g2,c,rfl⟩;simp only [bY,dA,ao,ae,aa,aR,aC,av];refine lO (xs:=(pick pre).flatMap (Mr m)) l2 f3 g2 ?_;refine Dx _ _ ⟨rfl,some (enc m),some (.ref p3),c,?_⟩;rw [JV]
  ·rintro τ G' ⟨rfl,a,b,c,rfl⟩;exact hN _ _ ⟨rfl,_,_,_,rfl⟩
 ·rintro _ _ ⟨rfl,a,b,c,rfl⟩;simp only [cb,dA,ao,ae,aa];exact eB q
end zD
namespace zD
open K2.P
open K2.xy (fj kU)
theorem US{κ α:Type} [DecidableEq κ] [Enc κ] [tD κ] [DecidableEq α] [Enc α]{l:List (κ×α)}{k:κ}{v:α}{G:Gp}{Q:DK}(hv:jy l k=some v)(q:Q (enc v) G):j7 (.oS (cY l)) (enc k) G Q:=by
 rw [B7,yK,hv]; exact⟨sO l k,q⟩
noncomputable abbrev M:=List (Int×Int)
noncomputable def Qv(m:M)(t:T3):T3:=⟨(jy m t.a).getD 0,t.b,t.c⟩
noncomputable def DV(m:M)(r:List T3):List T3:=r.map (Qv m)
noncomputable def Kn(m:M)(r:List T3):Prop:=∀ t∈r,(jy m t.a).isSome=true
noncomputable def pY:fh :=
 (cb (dA (gX 3 [1] (kW (ao 0)) (CA (lN (aR 0) (lN (aR 1) (lN (aR 2) z4)))) none (jJ (ax (a9 j7 (ao 3) (ao 0)) (ax (ao 1) (ax (ao 2) aW)))))))
noncomputable def ig:gM:=fun ds G Q _=>∃ (r:List T3) (m:M),ds=[enc r,.oS (cY m)]/\(r.length<=1000/\Kn m r)/\Q (enc (DV m r)) G
theorem qN(ds:List D)(G:Gp)(Q:DK)(h:ig ds G Q fun _ _=>False):pY (fun _ _=>False) (ends Q) (aX 2 ds) G:=by
 obtain⟨r,m,rfl,⟨hl,hk⟩,q⟩:=h;unfold pY;simp only [cb,dA,gX,aX,aj,aN,af,aq,aB,aG,ends,dE,ao,aa];refine iz ⟨HX (by rw [ai]; exact hl),?_⟩;refine iP (xs:=r) (fun pre acc τ G'=>G=G'/\(∃ a b c,τ=[a,b,c,some (.oS (cY m))])/\acc=(pre.map (Qv m)).map enc) ⟨rfl,⟨_,_,_,rfl⟩,rfl⟩ (fun _ _ _ _ _=>trivial) ?_ ?_
 ·rintro pre t post acc τ G' N e ⟨rfl,⟨a,b,c,rfl⟩,rfl⟩ hN;obtain⟨v,hv⟩:=Option.isSome_iff_exists.mp (hk t (by rw [e]; simp));simp only [CA,zf,lN,aR,z4,jJ,ax,a9,ao,av,aC,ae,aa,aW,af,aq];refine US (k:=t.a) hv ?_;refine⟨by decide,hN _ _ _ ⟨rfl,⟨_,_,_,rfl⟩,?_⟩⟩;rw [aP,aP];unfold Qv;rw [List.map_singleton,List.map_singleton,hv]; rfl
 ·rintro acc τ G' ⟨rfl,⟨a,b,c,rfl⟩,rfl⟩ p hp;exact lO (xs:=DV m r) (.new hp) hp az q
noncomputable def oT:fh :=
 (cb (dA (gX 1 [1] (kW (ao 0)) (aR 0) none (bK ig (ax (ao 0) (ax (ao 1) aW))))))
noncomputable def fy:gM:=fun ds G Q _=>∃ (rows:Rows) (m:M),ds=[enc rows,.oS (cY m)]/\(rows.length<=1000/\∀ r∈rows,r.length<=1000/\Kn m r)/\Q (enc (rows.map (DV m))) G
theorem pf(ds:List D)(G:Gp)(Q:DK)(h:fy ds G Q fun _ _=>False):oT (fun _ _=>False) (ends Q) (aX 2 ds) G:=by
 obtain⟨rows,m,rfl,⟨hl,hk⟩,q⟩:=h;unfold oT;simp only [cb,dA,gX,aX,aj,aN,af,aq,aB,aG,ends,dE,ao,aa];refine iz ⟨HX (by rw [ai]; exact hl),?_⟩;refine iP (xs:=rows) (fun pre acc τ G'=>G=G'/\(∃ a,τ=[a,some (.oS (cY m))])/\acc=(pre.map (DV m)).map enc) ⟨rfl,⟨_,rfl⟩,rfl⟩ (fun _ _ _ _ _=>trivial) ?_ ?_
 ·rintro pre r post acc τ G' N e ⟨rfl,⟨a,rfl⟩,rfl⟩ hN;simp only [aR,bK,ax,ao,av,aa,ae,aW];refine⟨r,m,rfl,hk r (by rw [e]; simp),hN _ _ _ ⟨rfl,⟨_,rfl⟩,?_⟩⟩;rw [aP,aP]; rfl
 ·rintro acc τ G' ⟨rfl,⟨a,rfl⟩,rfl⟩ p hp;exact lO (xs:=rows.map (DV m)) (.new hp) hp az q
noncomputable def Du(r:List T3)(k:Nat):List T3:=r.drop k++r.take k
noncomputable def rK(r:List T3):List (List T3):=(ft (max 1 r.length)).map (Du r)
theorem vd(r:List T3):(rK r).length=max 1 r.length:=by unfold rK; rw [ai,fx]
theorem RD{r:List T3}{k:Nat}{G:Gp}{Q:DK}{d:D}(hd:IsL G d (r.map enc))(hk:k<=r.length)(hl:r.length<=1000)(q:Q (enc (Du r k)) G) :
  Mg d (some (k:Int)) none G fun x G1=>Mg d none (some (k:Int)) G1 fun y G2=>iL x y G2 fun z G3=>Ql G3 z Q:=by
 refine vE hd ?_;rw [xW,E1 r k hk];intro p hp;refine vE (hd.mono (.new hp)) ?_;rw [xW,N1 r k hk];intro p2 wQ;have Sw:p≠p2:=fun z=>by rw [<-z,az] at wQ; cases wQ
 have g1:bP (bP G p (.lst ((r.drop k).map enc))) p2 (.lst ((r.take k).map enc)) p=some (.lst ((r.drop k).map enc)):=by rw [c4 Sw,az]
 have gl:fi G (bP (bP G p (.lst ((r.drop k).map enc))) p2 (.lst ((r.take k).map enc))):=(fi.new hp).trans (.new wQ);show zv _ _ _ _;unfold zv;rw [kn (IsL.ref (ds:=(r.drop k).map enc) g1),kn (IsL.ref (ds:=(r.take k).map enc) az)];refine⟨HX (by simp; lia),fun p3 Ko=>?_⟩;refine lO (xs:=Du r k) (gl.trans (.new Ko)) (gl.free Ko) ?_ q;rw [az];unfold Du;rw [aP]
noncomputable def rZ:fh :=
 (bR (eE (rJ (fQ (ao 0))) (cb (dA (gE (ax (gE aW) aW)))) cK)
 (cb (dA (gX 1 [0] (Em (nS kD (ax (ao 0) aW))) (aR 0) none (dA (a9 iL (Jb (ao 1) (u3 (ao 0)) hX) (Jb (ao 1) hX (u3 (ao 0)))))))))
noncomputable def hO:gM:=fun ds G Q _=>∃ r:List T3,ds=[enc r]/\r.length<=1000/\Q (enc (rK r)) G
theorem sk(ds:List D)(G:Gp)(Q:DK)(h:hO ds G Q fun _ _=>False):rZ (fun _ _=>False) (ends Q) (aX 1 ds) G:=by
 obtain⟨r,rfl,hl,q⟩:=h;unfold rZ;refine kz (fun τ G'=>G=G'/\r≠[]/\τ=[some (enc r)]) ?_ ?_
 ·intro N hN;simp only [eE,rJ,aX,aj,aN,af,aq,aB,aG,cb,dA,gE,ax,aW,ends,cK,cT,ao,aa];cases r with
  | nil =>
   refine⟨by decide,fun pa fa=>⟨by decide,fun pb fb=>?_⟩⟩;have la:fi G (bP (bP G pa (.lst [])) pb (.lst [.ref pa])):=(fi.new fa).trans (.new fb);exact sR la ((fi.new fa).free fb) az (.cons (.ref ((fi.new fb) _ _ az) (by simp [fa]) .nil) .nil) q
  | cons a t=>exact hN _ _ ⟨rfl,by simp,rfl⟩
 ·rintro _ _ ⟨rfl,pD,rfl⟩;simp only [cb,dA,gX,ends,qt,nS,ax,ao,aa,aW];refine jw (IsL.enc r) ?_;simp only [ai,nu];have hmx:max 1 r.length=r.length:=by
   cases r with
   | nil=>exact absurd rfl pD
   | cons a t=>simp
  refine⟨by lia,by lia,HX (by unfold jT; rw [ai,fx]; lia),?_⟩;unfold jT;refine iP (xs:=ft (r.length:Int).toNat) (f:=fun i:Nat=>D.int (0+(i:Int))) (fun pre acc τ G'=>G=G'/\(∃ a,τ=[a,some (enc r)])/\acc=(pre.map (Du r)).map enc) ⟨rfl,⟨_,rfl⟩,rfl⟩ (fun _ _ _ _ _=>trivial) ?_ ?_
  ·rintro pre k post acc τ G' N e ⟨rfl,⟨a,rfl⟩,rfl⟩ hN;have hk:k < r.length:=by
    have:k∈ft (r.length:Int).toNat:=by rw [e]; simp
    have:=List.mem_range.mp this; lia
   simp only [aR,dA,a9,Jb,ao,Int.zero_add,av,ae,aa,hX,nR,lF];refine RD (IsL.enc r) (by lia) hl (hN _ _ _ ⟨rfl,⟨_,rfl⟩,?_⟩);rw [aP,aP]; rfl
  ·rintro acc τ G' ⟨rfl,⟨a,rfl⟩,rfl⟩ p hp;refine lO (xs:=rK r) (.new hp) hp ?_ q;rw [az];unfold rK;rw [hmx,Bx]
noncomputable def ql(m:M)(n:Int):M:=if (jy m n).isSome=true then m else zt m n ((m.length:Int)+1)
noncomputable def met(L:List T3):M:=L.foldl (fun m t=>ql m t.a) []
theorem MN(L:List T3)(t:T3):met (L++[t])=ql (met L) t.a:=by unfold met; rw [qV]; rfl
theorem MP(m:M)(n:Int):(ql m n).length<=m.length+1:=by
 unfold ql;split
 ·lia
 ·exact Oh _ _ _
theorem uF(L:List T3):(met L).length<=L.length:=by
 have:∀ (L:List T3) (m:M),(L.foldl (fun m t=>ql m t.a) m).length<=m.length+L.length:=by
  intro L;induction L with
  | nil=>intro m; simp
  | cons t L ih =>
   intro m;have h1:=ih (ql m t.a);have h2:=MP m t.a;rw [nY,af]; lia
 have:=this L [];simpa [met] using this
theorem xI{neg:Bool}{n:Int}{a:Nat}{m:M}{G:Gp}{Q:DK}(h:G a=some (.jP (cY m)))(q:Q (.bl (if neg then !(jy m n).isSome else (jy m n).isSome)) G):Ca neg (.int n) (.ref a) G Q:=by
 unfold Ca;simp only [h];refine⟨sO m n,?_⟩;rw [show (D.int n)=enc n from rfl,yK,kF]; exact q
theorem vc{a:Nat}{m:M}{G:Gp}{Q:DK}(h:G a=some (.jP (cY m)))(q:Q (.int (m.length:Int)) G):kD [.ref a] G Q:=by
 rw [Oa];simp only [h];refine⟨?_,by unfold cY; rw [ai]; exact q⟩;unfold cY;rw [Bw];exact List.all_eq_true.mpr fun _ _=>rfl
theorem MM{a:Nat}{L:List T3}{t:T3}{G:Gp}{τ:g6}{E:jz}{K:jA}(i j:Nat)(hi:τ[i]?=some (some (enc t)))(hj:τ[j]?=some (some (.ref a)))(h:G a=some (.jP (cY (met L))))(hl:L.length<=900)
  (hN:∀ G2,(G2=G\/∃ o,G2=bP G a o)->G2 a=some (.jP (cY (met (L++[t]))))->K.nx τ G2) :
  eE (fQ (a9 (Ca true) (a9 j7 (ao i) (dC (.int 0))) (ao j))) (bY (a9 iL (nS kD (ax (ao j) aW)) (dC (.int 1))) (Et (ao j) (a9 j7 (ao i) (dC (.int 0))))) cK E K τ G:=by
 have Yq:=uF L;simp only [eE,bY,a9,nS,ax,ao,hj,aW,dC,cK,cT,hi,zf,e8,Lf];refine xI h ?_;simp only [if_true,bu];rw [MN] at hN;cases hs:(jy (met L) t.a).isSome with
 | true =>
  simp only [cR,ay,if_false];refine hN G (.inl rfl) ?_;unfold ql; rw [if_pos hs]; exact h
 | false =>
  simp only [bO,if_true];refine vc h ?_;simp only [Et,ao,hj,a9,hi,dC,e9];refine P.AO (k:=t.a) (v:=((met L).length:Int)+1) h (by lia) ?_;refine hN _ (.inr ⟨_,rfl⟩) ?_;rw [az]; unfold ql; rw [if_neg (by rw [hs]; exact c7)]
noncomputable def oU:fh :=
 (bR (bY N0 (aR 1))
 (bR (i4 (kW (bK fZ (ax (ao 0) aW))) (aR 2) (eE (fQ (a9 (Ca true) (a9 j7 (ao 2) (dC (.int 0))) (ao 1))) (bY (a9 iL (nS kD (ax (ao 1) aW)) (dC (.int 1))) (Et (ao 1) (a9 j7 (ao 2) (dC (.int 0))))) cK))
 (cb (dA (ao 1)))))
noncomputable def fA:gM:=fun ds G Q _=>∃ rows:Rows,ds=[enc rows]/\rows.flatten.length<=100/\Q (.oS (cY (met rows.flatten))) G
theorem ph(ds:List D)(G:Gp)(Q:DK)(h:fA ds G Q fun _ _=>False):oU (fun _ _=>False) (ends Q) (aX 3 ds) G:=by
 obtain⟨rows,rfl,hl,q⟩:=h;unfold oU;simp only [ends,aX,aj,aN,af,aq,br,aB,aG,eU,bY,N0,aR,aC,av];intro d hd;refine kz (fun τ G'=>(∃ b,τ=[some (enc rows),some (.ref d),b])/\fi G G'/\G' d=some (.jP (cY (met rows.flatten)))) ?_ ?_
 ·intro N hN;simp only [i4,dE,bK,ax,ao,aa,aW];refine⟨rows,rfl,(show rows.flatten.length<=1000 by lia),iz ?_⟩;refine iU (xs:=rows.flatten) (fun pre τ G'=>(∃ b,τ=[some (enc rows),some (.ref d),b])/\fi G G'/\G' d=some (.jP (cY (met pre)))) ⟨⟨_,rfl⟩,.new hd,az⟩ (fun _ _ _ _=>trivial) ?_ ?_
  ·rintro pre t post τ G' N2 e ⟨⟨b,rfl⟩,l,gd⟩ Dx;have hp:pre.length<=rows.flatten.length:=by rw [e]; simp
   simp only [aR,av,aC];refine MM 2 1 rfl rfl gd (by lia) fun G2 h2 g2=>Dx _ _ ⟨⟨_,rfl⟩,?_,g2⟩;rcases h2 with rfl | ⟨o,rfl⟩
   ·exact l
   ·exact l.put hd
  ·rintro τ G' ⟨⟨b,rfl⟩,l,gd⟩;exact hN _ _ ⟨⟨_,rfl⟩,l,gd⟩
 ·rintro _ G' ⟨⟨b,rfl⟩,l,gd⟩;simp only [cb,dA,ao,ae,aa];exact Nx l hd gd q
end zD
namespace zD
open K2.P
open K2.xy (fj kU lL q4)
structure Gd(m:M):Prop where
 nd:(m.map (·.1)).Nodup
 vs:m.map (·.2)=(ft m.length).map fun i:Nat=>(i:Int)+1
theorem qL{m:M}{n:Int}:(jy m n).isSome=m.any fun p=>p.1=n:=by
 unfold jy;rw [kF,Bool.eq_iff_iff,List.find?_isSome,List.any_eq_true]
theorem Ec{m:M}{n:Int}(h:(jy m n).isSome=false):ql m n=m++[(n,(m.length:Int)+1)]:=by
 unfold ql;rw [if_neg (by rw [h]; exact c7)];unfold zt;rw [qL] at h;rw [if_neg (by rw [h]; exact c7)]
theorem PG{m:M}(h:Gd m)(n:Int):Gd (ql m n):=by
 cases hs:(jy m n).isSome with
 | true=>unfold ql; rw [if_pos hs]; exact h
 | false =>
  rw [Ec hs];refine⟨?_,?_⟩
  ·rw [aP,fu];refine⟨h.nd,by simp,fun a ha b hb e=>?_⟩;obtain⟨p,hp,rfl⟩:=List.mem_map.mp ha;have hb:b=n:=by simpa using hb
   rw [qL] at hs;have:=List.any_eq_false.mp hs p hp;simp [e,hb] at this
  ·rw [aP,h.vs,aO,gq,List.range_succ,aP]; rfl
theorem PF{P:M->Prop}(h0:P [])(h1:∀ m n,P m->P (ql m n))(L:List T3):P (met L):=by
 have:∀ (L:List T3) (m:M),P m->P (L.foldl (fun m t=>ql m t.a) m):=by
  intro L;induction L with
  | nil=>intro m h; exact h
  | cons t L ih=>intro m h; exact ih _ (h1 m t.a h)
 exact this L [] h0
theorem GP(L:List T3):Gd (met L):=PF (P:=Gd) ⟨c9,rfl⟩ (fun m n h=>PG h n) L
theorem J8(m:M)(n:Int):(ql m n).map (·.1)=K3.used (m.map (·.1)) n:=by
 unfold K3.used;cases hs:(jy m n).isSome with
 | true =>
  unfold ql;rw [if_pos hs,if_pos];rw [qL] at hs;obtain⟨p,hp,e⟩:=List.any_eq_true.mp hs;exact List.mem_map.mpr ⟨p,hp,by simpa using e⟩
 | false =>
  rw [Ec hs,if_neg,aP]; rfl;intro z;obtain⟨p,hp,e⟩:=List.mem_map.mp z;rw [qL] at hs;have:=List.any_eq_false.mp hs p hp;simp [e] at this
theorem yF(L:List T3):(met L).map (·.1)=K3.vr [] (L.map (·.a)):=by
 have:∀ (L:List T3) (m:M),(L.foldl (fun m t=>ql m t.a) m).map (·.1)=K3.vr (m.map (·.1)) (L.map (·.a)):=by
  intro L;induction L with
  | nil=>intro m; rfl
  | cons t L ih =>
   intro m;rw [nY,ih,J8]; rfl
 exact this L []
theorem yE(L:List T3):Kn (met L) L:=by
 intro t ht;have h:t.a∈(met L).map (·.1):=by
  rw [yF,K3.oG];exact .inr (List.mem_map.mpr ⟨t,ht,rfl⟩)
 rw [qL];obtain⟨p,hp,e⟩:=List.mem_map.mp h;exact List.any_eq_true.mpr ⟨p,hp,by simp [e]⟩
theorem zu{m:M}{n v:Int}(h:jy m n=some v):(n,v)∈m:=by
 unfold jy at h;obtain⟨p,hp,rfl⟩:=Option.map_eq_some_iff.mp h;have h1:=List.mem_of_find?_eq_some hp;have h2:p.1=n:=by simpa using List.find?_some hp
 rw [<-h2]; exact h1
theorem Gd.inj{m:M}(h:Gd m){a b v:Int}(ha:jy m a=some v)(hb:jy m b=some v):a=b:=by
 obtain⟨i,hi,e1⟩:=List.getElem_of_mem (zu ha);obtain⟨j,hj,e2⟩:=List.getElem_of_mem (zu hb);have f:∀ (k:Nat) (hk:k < m.length),(m[k]).2=(k:Int)+1:=fun k hk=>by
  have:=congrArg (fun l=>l[k]?) h.vs;simp only [du,List.getElem?_range hk,bf hk,Option.map_some] at this;exact ba this
 have f1:=f i hi;have f2:=f j hj;rw [e1] at f1;rw [e2] at f2;have:i=j:=by lia
 subst this;rw [e1] at e2;exact congrArg Prod.fst e2
theorem uf(r:List T3)(k:Nat):(Du r k).Perm r:=by
 unfold Du;exact List.perm_append_comm.trans (by rw [vp])
inductive Ro:Rows->Rows->Prop
 | nil:Ro [] []
 | cons {r x:List T3} {rs xs:Rows}:(∃ k,k<=r.length/\x=Du r k)->Ro rs xs->Ro (r :: rs) (x :: xs)
theorem Ro.snoc{rs xs:Rows}{r x:List T3}(h:Ro rs xs)(k:∃ k,k<=r.length/\x=Du r k):Ro (rs++[r]) (xs++[x]):=by
 induction h with
 | nil=>exact .cons k .nil
 | cons q _ ih=>exact .cons q ih
noncomputable def wc(rows:Rows):Cs:=pick (rows.map rK)
theorem sf{rows:Rows}{c:Rows}(h:c∈wc rows):Ro rows c:=by
 have:∀ c∈pick (rows.map rK),∀ rs:Rows,rows.map rK=rs.map rK->Ro rs c :=
  D3 (P:=fun ls c=>∀ rs:Rows,ls=rs.map rK->Ro rs c) (fun rs e=>by
   have:rs=[]:=by simpa using e.symm
   subst this; exact .nil) (fun ls m a x ih hx rs e=>by
   obtain⟨l1,l2,rfl,e1,e2⟩:=List.map_eq_append_iff.mp e.symm;obtain⟨r,rfl,e3⟩:∃ r,l2=[r]/\rK r=m:=by
    cases l2 with
    | nil=>simp at e2
    | cons r l2 =>
     simp at e2;exact⟨r,by rw [e2.2],e2.1⟩
   refine(ih l1 e1.symm).snoc ?_;rw [<-e3] at hx;obtain⟨k,hk,rfl⟩:=List.mem_map.mp hx;have:=List.mem_range.mp hk;by_cases h0:r.length=0
   ·refine⟨0,cg _,?_⟩;have:r=[]:=by simpa using h0
    subst this; unfold Du; simp
   ·exact⟨k,by lia,rfl⟩) _
 exact this c h rows rfl
theorem Ro.len{rs xs:Rows}(h:Ro rs xs):xs.length=rs.length:=by
 induction h with
 | nil=>rfl
 | cons _ _ ih=>rw [af,af,ih]
theorem Ro.perm{rs xs:Rows}(h:Ro rs xs):xs.flatten.Perm rs.flatten:=by
 induction h with
 | nil=>exact .refl _
 | cons q _ ih =>
  obtain⟨k,_,rfl⟩:=q;rw [bL,bL];exact(uf _ k).append ih
theorem C1(rows:Rows):0 < (wc rows).length:=by
 have:∀ (ls:List (List (List T3))) (acc:Cs),(∀ m∈ls,m≠[])->acc≠[]->(ls.foldl (fun acc m=>acc.flatMap (Mr m)) acc)≠[]:=by
  intro ls;induction ls with
  | nil=>intro acc _ h; exact h
  | cons m ls ih =>
   intro acc h ha;refine ih _ (fun x hx=>h x (aK _ hx)) fun z=>?_;have:=congrArg dO z;rw [xN,aq,Nat.mul_eq_zero] at this;rcases this with z | z
   ·exact h m bo (List.length_eq_zero_iff.mp z)
   ·exact ha (List.length_eq_zero_iff.mp z)
 refine List.length_pos_iff.mpr (this (rows.map rK) [[]] (fun m hm=>?_) (by simp));obtain⟨r,_,rfl⟩:=List.mem_map.mp hm;intro z;have:=vd r;rw [z] at this;simp at this;lia
noncomputable def sm(rows:Rows):Rows:=(rows.map (DV (met rows.flatten))).map fj
noncomputable def bi(rows:Rows):Nat:=AA (fun i j=>bJ.lt (sm ((wc rows).getD i [])) (sm ((wc rows).getD j []))) ((wc rows).length - 1)
noncomputable def bc(rows:Rows):Rows:=(wc rows).getD (bi rows) []
theorem VE(rows:Rows):bi rows < (wc rows).length:=by
 have h1:=Oe (fun i j=>bJ.lt (sm ((wc rows).getD i [])) (sm ((wc rows).getD j []))) ((wc rows).length - 1);have h2:=C1 rows;unfold bi; lia
theorem oM(rows:Rows):bc rows∈wc rows:=by
 unfold bc;rw [cf,bf (VE rows)];exact List.getElem_mem _
end zD
namespace zD
open K2.P
open K2.xy (fj kU lL q4)
structure Sz(rows:Rows):Prop where
 n:rows.length<=3
 f:rows.flatten.length<=24
theorem Sz.row{rows:Rows}(h:Sz rows){r:List T3}(hr:r∈rows):r.length<=24:=bU (sr.nJ hr) h.f
theorem Sz.ro{rows c:Rows}(h:Sz rows)(r:Ro rows c):Sz c:=⟨by rw [r.len]; exact h.n,by rw [r.perm.length_eq]; exact h.f⟩
theorem Ig(m:M)(r:List T3):(DV m r).length=r.length:=ai _
theorem MZ{rows:Rows}{r:List T3}(hr:r∈rows):Kn (met rows.flatten) r:=fun t ht=>yE _ t (List.mem_flatten.mpr ⟨r,hr,ht⟩)
theorem Jh{rows:Rows}(hz:Sz rows):(wc rows).length<=13824:=by
 refine bU (yu (k:=24) _ fun m hm=>?_) (Zv (by rw [ai]; exact hz.n));obtain⟨r,hr,rfl⟩:=List.mem_map.mp hm;rw [vd];have:=hz.row hr;lia
end zD
namespace sr
open K2.P
variable {rows:Rows}
end sr
namespace sr
open K2.P
variable {rows:Rows}
end sr
namespace zD
open K2.P
open K2.xy (fj kU lL q4)
open K2.sr (en pe HR HR.fz)
open K2.K3 (DF)
theorem O8{r:List T3}{k:Nat}{G:Gp}{Q:DK}{d:D}(hd:IsL G d (r.map enc))(hk:k<=r.length)(hl:r.length<=1000)(q:∀ p G1,fi G G1->G p=none->G1 p=some (.lst ((Du r k).map enc))->Q (.ref p) G1) :
  Mg d (some (k:Int)) none G fun x G1=>Mg d none (some (k:Int)) G1 fun y G2=>iL x y G2 Q:=by
 refine vE hd ?_;rw [xW,E1 r k hk];intro p hp;refine vE (hd.mono (.new hp)) ?_;rw [xW,N1 r k hk];intro p2 wQ;have Sw:p≠p2:=fun z=>by rw [<-z,az] at wQ; cases wQ
 have g1:bP (bP G p (.lst ((r.drop k).map enc))) p2 (.lst ((r.take k).map enc)) p=some (.lst ((r.drop k).map enc)):=by rw [c4 Sw,az]
 have gl:fi G (bP (bP G p (.lst ((r.drop k).map enc))) p2 (.lst ((r.take k).map enc))):=(fi.new hp).trans (.new wQ);show zv _ _ _ _;unfold zv;rw [kn (IsL.ref (ds:=(r.drop k).map enc) g1),kn (IsL.ref (ds:=(r.take k).map enc) az)];refine⟨HX (by simp; lia),fun p3 Ko=>?_⟩;refine q _ _ (gl.trans (.new Ko)) (gl.free Ko) ?_;rw [az];unfold Du;rw [aP]
end zD
namespace zD
open K2.P
open K2.xy (fj kU lL q4)
open K2.K3 (DF ez cJ)
variable {rows c:Rows}
theorem keys_eq(ro:Ro rows c):HY ((met c.flatten).map (·.1))=ez rows:=by
 unfold ez;refine Rz ?_;rw [yF];refine(FX (K3.sW _ _ c9) (K3.sW _ _ c9)).mpr fun x=>?_;rw [K3.oG,K3.oG,(ro.perm.map _).mem_iff]
end zD
end K2
end
section
namespace K2
open Enc (enc)
namespace KS
open K2.P K2.zD
open K2.xy (fj kU lL q4)
open K2.K3 (DF ez)
noncomputable abbrev dJ(rows:Rows):Rows:=sm (bc rows)
noncomputable def rg(g:Int->Int)(t:T3):T3:=⟨g t.a,t.b,t.c⟩
noncomputable def Ij(g:Int->Int)(S:List Int):Prop:=∀ a∈S,∀ b∈S,g a=g b->a=b
theorem R7{L:List T3}{p:Int×Int}(h:p∈met L):p.1∈L.map (·.a):=by
 have:p.1∈(met L).map (·.1):=List.mem_map.mpr ⟨p,h,rfl⟩;rw [yF,K3.oG] at this;exact this.resolve_left (by simp)
theorem NF{g:T3->T3}(rows:Rows):(rows.map (List.map g)).flatten=rows.flatten.map g:=by
 induction rows with
 | nil=>rfl
 | cons r rows ih=>rw [aj,bL,ih,bL,aP]
theorem MO(L:List T3):Ij (fun a=>(jy (met L) a).getD 0) (L.map (·.a)):=by
 intro a ha b hb e;obtain⟨t,ht,rfl⟩:=List.mem_map.mp ha;obtain⟨u,hu,rfl⟩:=List.mem_map.mp hb;obtain⟨v,hv⟩:=Option.isSome_iff_exists.mp (yE L t ht);obtain⟨w,hw⟩:=Option.isSome_iff_exists.mp (yE L u hu);dsimp only at e;rw [hv,hw] at e;have e:v=w:=e;subst e;exact(GP L).inj hv hw
theorem kl(rows:Rows):Ro rows (rows.map fj):=by
 induction rows with
 | nil=>exact .nil
 | cons r rows ih=>exact .cons ⟨_,OP,rfl⟩ ih
theorem qZ(rows:Rows):(dJ rows).flatten.Perm ((bc rows).flatten.map (Qv (met (bc rows).flatten))):=by
 have h:=(kl ((bc rows).map (DV (met (bc rows).flatten)))).perm;rw [show DV (met (bc rows).flatten)=List.map (Qv (met (bc rows).flatten)) from rfl,NF] at h;exact h
theorem lH(rows:Rows):ez (dJ rows)=(ft (ez rows).length).map fun i:Nat=>(i:Int)+1:=by
 have ro:=sf (oM rows);have gd:=GP (bc rows).flatten;have hlen:(ez rows).length=(met (bc rows).flatten).length:=by
  rw [<-keys_eq ro,xF,ai]
 rw [hlen,<-gd.vs];have hnd:((met (bc rows).flatten).map (·.2)).Nodup:=by
  rw [gd.vs];refine List.pairwise_iff_getElem.mpr fun i j hi hj hij=>?_;simp only [jI,kq];lia
 have zZ:((met (bc rows).flatten).map (·.2)).Pairwise fun a b=>xQ a b=true:=by
  rw [gd.vs];refine List.pairwise_iff_getElem.mpr fun i j hi hj hij=>?_;simp only [jI,kq];show (!decide (((j:Int)+1) < ((i:Int)+1)))=true;simp; lia
 unfold ez;refine Ry ((FX (K3.sW _ _ c9) hnd).mpr fun x=>?_) zZ;rw [K3.oG,((qZ rows).map _).mem_iff,pA];constructor
 ·rintro(z | z)
  ·cases z
  ·obtain⟨t,ht,rfl⟩:=List.mem_map.mp z;obtain⟨v,hv⟩:=Option.isSome_iff_exists.mp (yE _ t ht);show (jy (met (bc rows).flatten) t.a).getD 0∈_;rw [hv];exact List.mem_map.mpr ⟨_,zu hv,rfl⟩
 ·intro z;obtain⟨p,hp,rfl⟩:=List.mem_map.mp z;obtain⟨t,ht,e⟩:=List.mem_map.mp (R7 hp);refine .inr (List.mem_map.mpr ⟨t,ht,?_⟩);show (jy (met (bc rows).flatten) t.a).getD 0=p.2;rw [e,wY gd.nd hp]; rfl
end KS
end K2
end
section
namespace K2
open PySem (Str)
open Enc (enc)
namespace Mo
open K2.P
open K2.xy (fj)
open K2.zD (Du Ro uf)
open K2.KS (kl)
noncomputable def Y6(r x:List T3):Prop:=∃ k,k<=r.length/\x=Du r k
theorem Y6.perm{a b:List T3}(h:Y6 a b):b.Perm a:=by
 obtain⟨k,_,rfl⟩:=h;exact uf a k
structure FH(rows:Rows):Prop where
 nd:(rows.flatten.map T3.s).Nodup
 way:∀ p∈rows.flatten,p.b=0\/p.b=1
theorem _root_.Internal.K2.Dr.dn{rows:Rows}(d:Dr rows):FH rows:=⟨d.nd,d.way⟩
noncomputable def VU(s:T2)(ps:List T3)(p:T3):List T3:=if p.s=s then p :: ps else [p]
noncomputable def Cc(s:T2)(ps:List T3)(k:Nat)(r:List T3):List T3:=(if s=⟨k,2⟩ then ps else [])++r.flatMap (VU s ps)
noncomputable def uA(s:T2)(ps:List T3):Rows->Nat->Rows
 | [],_=>[]
 | r :: rs,k=>Cc s ps k r :: uA s ps rs (k+1)
theorem yr(s:T2)(ps:List T3):∀ (a b:Rows) (k:Nat),uA s ps (a++b) k=uA s ps a k++uA s ps b (k+a.length)
 | [],b,k=>by simp [uA]
 | r :: a,b,k=>by
  rw [aB,uA,uA,yr s ps a b (k+1),aB,af];congr 3; lia
theorem rm{s:T2}{ps:List T3}:∀ {r:List T3},(∀ p∈r,p.s≠s)->r.flatMap (VU s ps)=r
 | [],_=>rfl
 | a :: r,h=>by
  rw [AI,rm fun p hp=>h p (aK _ hp)];unfold VU;rw [if_neg (h a bo)]; rfl
theorem nE{s:T2}{ps:List T3}:∀ {R:Rows} {k:Nat},(∀ p∈R.flatten,p.s≠s)->(∀ j:Nat,k<=j->j < k+R.length->s≠⟨j,2⟩)->uA s ps R k=R
 | [],k,_,_=>rfl
 | r :: R,k,h,h2=>by
  rw [uA,nE (fun p hp=>h p (by rw [bL]; exact bT _ hp)) (fun j h3 h4=>h2 j (by lia) (by rw [af]; lia))];unfold Cc;rw [if_neg (h2 k (aQ _) (by rw [af]; lia)),aG,rm fun p hp=>h p (by rw [bL]; exact fg _ hp)]
inductive Spl (rows:Rows) (s:T2):Prop
 | at (R1 R2:Rows) (A B:List T3) (x:T3) (e:rows=R1++(A++x :: B) :: R2) (hs:x.s=s)
 | mt (R1 R2:Rows) (e:rows=R1++[] :: R2) (hs:s=⟨(R1.length:Nat),2⟩)
theorem LX{s:T2}:∀ {rows:Rows} {k:Nat},s∈jh rows k->(∃ R1 R2 A B x,rows=R1++(A++x :: B) :: R2/\x.s=s)\/∃ R1 R2:Rows,rows=R1++[] :: R2/\s=⟨((k+R1.length:Nat):Int),2⟩
 | [],_,h=>by cases h
 | r :: rs,k,h=>by
  rw [jh] at h;rcases List.mem_append.mp h with h | h
  ·unfold cD at h;split at h
   ·rename_i e;rw [dN] at h;exact .inr ⟨[],rs,by rw [e]; rfl,h⟩
   ·obtain⟨x,hx,e⟩:=List.mem_map.mp h;obtain⟨A,B,e2⟩:=List.append_of_mem hx;exact .inl ⟨[],rs,A,B,x,by rw [e2]; rfl,e⟩
  ·rcases LX h with ⟨R1,R2,A,B,x,e,e2⟩ | ⟨R1,R2,e,e2⟩
   ·exact .inl ⟨r :: R1,R2,A,B,x,by rw [e]; rfl,e2⟩
   ·exact .inr ⟨r :: R1,R2,by rw [e]; rfl,by rw [e2,af]; congr 2; lia⟩
theorem Tj{rows:Rows}{s:T2}(h:s∈jh rows 0):Spl rows s:=by
 rcases LX h with ⟨R1,R2,A,B,x,e,e2⟩ | ⟨R1,R2,e,e2⟩
 ·exact .at R1 R2 A B x e e2
 ·exact .mt R1 R2 e (by rw [e2,Dq])
theorem s_b(p:T3):p.s.b=p.b:=rfl
theorem FH.RZ{rows:Rows}(d:FH rows){p:T3}(h:p∈rows.flatten)(j:Int):p.s≠⟨j,2⟩:=fun e=>by
 have:=congrArg T2.b e;rw [s_b] at this;have h2:p.b=2:=this;rcases d.way p h with h | h <;> lia
theorem gW(R1 R2:Rows)(r:List T3):(R1++r :: R2).flatten=R1.flatten++(r++R2.flatten):=by rw [xC,bL]
theorem Ml{R1 R2:Rows}{A B ps:List T3}{x:T3}(d:FH (R1++(A++x :: B) :: R2)):uA x.s ps (R1++(A++x :: B) :: R2) 0=R1++(A++x :: (ps++B)) :: R2:=by
 have nd:=d.nd;rw [gW] at nd;simp only [aP,aj,g8,aB] at nd;have V1:=List.nodup_append.mp nd;have ZZ:=List.nodup_append.mp V1.2.1;have ZY:=List.nodup_cons.mp ZZ.2.1;have hx:x∈(R1++(A++x :: B) :: R2).flatten:=by rw [gW]; simp
 have h1:∀ p∈R1.flatten,p.s≠x.s:=fun p hp e=>V1.2.2 _ (List.mem_map.mpr ⟨p,hp,e⟩) _ (by simp) rfl;have h2:∀ p∈A,p.s≠x.s:=fun p hp e=>ZZ.2.2 _ (List.mem_map.mpr ⟨p,hp,e⟩) _ (by simp) rfl;have h3:∀ p∈B,p.s≠x.s:=fun p hp e=>ZY.1 (fg _ (List.mem_map.mpr ⟨p,hp,e⟩));have h4:∀ p∈R2.flatten,p.s≠x.s:=fun p hp e=>ZY.1 (bT _ (List.mem_map.mpr ⟨p,hp,e⟩));rw [yr,uA,nE h1 fun j _ _=>d.RZ hx _,nE h4 fun j _ _=>d.RZ hx _];congr 2;unfold Cc;rw [if_neg (d.RZ hx _),aG,List.flatMap_append,AI,rm h2,rm h3];congr 1;unfold VU;rw [if_pos rfl]; rfl
theorem Mj{R1 R2:Rows}{ps:List T3}(d:FH (R1++[] :: R2)):uA ⟨(R1.length:Nat),2⟩ ps (R1++[] :: R2) 0=R1++ps :: R2:=by
 have h1:∀ p∈R1.flatten,p.s≠⟨(R1.length:Nat),2⟩:=fun p hp=>d.RZ (by rw [gW]; simp [hp]) _;have h4:∀ p∈R2.flatten,p.s≠⟨(R1.length:Nat),2⟩:=fun p hp=>d.RZ (by rw [gW]; simp [hp]) _;have ne:∀ j:Nat,j≠R1.length->(⟨(R1.length:Nat),2⟩:T2)≠⟨(j:Nat),2⟩:=fun j hj e=>by
  have:=congrArg T2.a e;simp only at this;lia
 rw [yr,uA,nE h1 fun j _ hj=>ne j (by lia),nE h4 fun j hj _=>ne j (by lia)];congr 2;unfold Cc;rw [if_pos (by rw [Dq])]; simp
theorem DJ{R1 R2:Rows}{r:List T3}{s:T2}(h:s∈cD r (R1.length:Nat))(hn:∀ p∈R1.zipIdx 0,s∉cD p.1 (p.2:Int)):DL (R1++r :: R2) s=R1.length:=by
 unfold DL;rw [pz,List.find?_append];have:(List.zipIdx R1 0).find? (fun p=>decide (s∈cD p.1 (p.2:Int)))=none:=List.find?_eq_none.mpr fun p hp=>by simpa using hn p hp
 rw [this,Option.none_or,sC,eT];have h':s∈cD r ((0+R1.length:Nat):Int):=by rw [Dq]; exact h
 simp only [h',decide_true];simp
theorem LH{R:Rows}{p:List T3×Nat}(h:p∈R.zipIdx 0):p.1∈R/\p.2 < R.length:=by
 obtain⟨i,hi⟩:=mF h;rw [OQ] at hi;obtain⟨r,hr,e⟩:=Option.map_eq_some_iff.mp hi;subst e;exact⟨gT hr,by have:=(List.getElem?_eq_some_iff.mp hr).1; simpa using this⟩
theorem O2{R1 R2:Rows}{A B:List T3}{x:T3}(d:FH (R1++(A++x :: B) :: R2)):DL (R1++(A++x :: B) :: R2) x.s=R1.length:=by
 have hx:x∈(R1++(A++x :: B) :: R2).flatten:=by rw [gW]; simp
 refine DJ (by unfold cD; rw [if_neg (by simp)]; simp) fun p hp=>?_;obtain⟨h1,h2⟩:=LH hp;unfold cD;split
 ·rw [dN]; exact d.RZ hx _
 ·intro z;obtain⟨y,hy,e⟩:=List.mem_map.mp z;have nd:=d.nd;rw [gW,aP] at nd;exact(List.nodup_append.mp nd).2.2 _ (List.mem_map.mpr ⟨y,List.mem_flatten.mpr ⟨_,h1,hy⟩,e⟩) _ (by simp) rfl
theorem O1{R1 R2:Rows}(d:FH (R1++[] :: R2)):DL (R1++[] :: R2) ⟨(R1.length:Nat),2⟩=R1.length:=by
 refine DJ (by unfold cD; rw [if_pos rfl]; simp) fun p hp=>?_;obtain⟨h1,h2⟩:=LH hp;unfold cD;split
 ·rw [dN];intro e;have:=congrArg T2.a e;simp only at this;lia
 ·intro z;obtain⟨y,hy,e⟩:=List.mem_map.mp z;exact d.RZ (by rw [gW]; exact fg _ (List.mem_flatten.mpr ⟨_,h1,hy⟩)) _ e
end Mo
namespace Mo
open K2.P
open K2.xy (fj)
open K2.zD (Du Ro uf)
open K2.KS (kl)
theorem Ro.XJ{a b:Rows}(h:Ro a b):b.length=a.length:=by
 induction h with
 | nil=>rfl
 | cons _ _ ih=>rw [af,af,ih]
theorem qW{a b:Rows}(h:Ro a b):b.flatten.Perm a.flatten:=by
 induction h with
 | nil=>exact .refl _
 | cons q _ ih =>
  have q:Y6 _ _:=q;rw [bL,bL];exact q.perm.append ih
theorem FH.ro{a b:Rows}(d:FH a)(h:Ro a b):FH b :=
 ⟨((qW h).map T3.s).nodup_iff.mpr d.nd,fun p hp=>d.way p ((qW h).mem_iff.mp hp)⟩
theorem _root_.Internal.K2.Dr.ro{a b:Rows}(d:Dr a)(h:Ro a b):Dr b :=
 ⟨(d.dn.ro h).nd,(d.dn.ro h).way,fun p hp=>d.hand p ((qW h).mem_iff.mp hp),fun p hp=>(qW h).mem_iff.mpr (d.zX p ((qW h).mem_iff.mp hp)),by rw [(qW h).length_eq]; exact d.OE,by rw [Ro.XJ h]; exact d.str⟩
theorem FH.row{rows:Rows}(d:FH rows){r:List T3}(h:r∈rows):(r.map T3.s).Nodup:=by
 obtain⟨A,B,rfl⟩:=List.append_of_mem h;have:=d.nd;rw [gW,aP,aP] at this;exact(List.nodup_append.mp (List.nodup_append.mp this).2.1).1
theorem ux{rows:Rows}{s:T2}{ps:List T3}(d:FH rows)(h:Spl rows s):(uA s ps rows 0).flatten.Perm (ps++rows.flatten):=by
 cases h with
 | «at» R1 R2 A B x e hs =>
  subst e hs;rw [Ml d,gW,gW];simp only [g8,aB];have:(R1.flatten++(A++x :: (ps++(B++R2.flatten))))=(R1.flatten++(A++[x]))++(ps++(B++R2.flatten)):=by simp
  rw [this];have e2:ps++(R1.flatten++(A++x :: (B++R2.flatten)))=ps++((R1.flatten++(A++[x]))++(B++R2.flatten)):=by simp
  rw [e2];exact Ft _ _ _
 | mt R1 R2 e hs =>
  subst e hs;rw [Mj d,gW,gW,aG];exact Ft _ _ _
theorem qX(s:T2)(ps:List T3):∀ (rows:Rows) (k:Nat),(uA s ps rows k).length=rows.length
 | [],_=>rfl
 | r :: rows,k=>by rw [uA,af,af,qX s ps rows (k+1)]
noncomputable def cps(n f h:Int):List T3:=[⟨n,f,h⟩,⟨n,1 - f,h⟩]
theorem Qb{rows:Rows}{s:T2}{n f h:Int}(d:Dr rows)(hs:s∈jh rows 0)(hn:∀ p∈rows.flatten,p.a≠n)(hf:f=0\/f=1)(hh:h=1\/h=-1)(hl:rows.flatten.length<=22):Dr (uA s (cps n f h) rows 0):=by
 have pp:=ux (ps:=cps n f h) d.dn (Tj hs);have mem:∀ p,p∈(uA s (cps n f h) rows 0).flatten↔p=⟨n,f,h⟩\/p=⟨n,1 - f,h⟩\/p∈rows.flatten:=fun p=>by
  rw [pp.mem_iff]; simp [cps]
 have fr:∀ w:Int,(⟨n,w⟩:T2)∉rows.flatten.map T3.s:=fun w z=>by
  obtain⟨p,hp,e⟩:=List.mem_map.mp z;exact hn p hp (congrArg T2.a e)
 refine⟨?_,?_,?_,?_,?_,?_⟩
 ·rw [(pp.map T3.s).nodup_iff,aP,fu];refine⟨?_,d.nd,?_⟩
  ·have:(⟨n,f⟩:T2)≠⟨n,1 - f⟩:=fun e=>by have:=congrArg T2.b e; simp only at this; lia
   simp [cps,T3.s,this]
  ·intro a ha b hb e;subst e;simp only [cps,aj,aN,mX,dg,or_false] at ha;rcases ha with rfl | rfl
   ·exact fr f hb
   ·exact fr (1 - f) hb
 ·intro p hp;rcases (mem p).mp hp with rfl | rfl | hp
  ·exact hf
  ·show 1 - f=0\/1 - f=1; lia
  ·exact d.way p hp
 ·intro p hp;rcases (mem p).mp hp with rfl | rfl | hp
  ·exact hh
  ·exact hh
  ·exact d.hand p hp
 ·intro p hp;rcases (mem p).mp hp with rfl | rfl | hp
  ·exact(mem _).mpr (.inr (.inl rfl))
  ·exact(mem _).mpr (.inl (by show (⟨n,1 - (1 - f),h⟩:T3)=_; congr 1; lia))
  ·exact(mem _).mpr (.inr (.inr (d.zX p hp)))
 ·rw [pp.length_eq,aO]; simp only [cps,af,aq]; lia
 ·rw [qX]; exact d.str
end Mo
namespace K3
open K2.P K2.sr
noncomputable def cX:gM:=fun ds G Q _=>∃ rows:Rows,ds=[enc rows]/\rows.flatten.length < 64/\∀ p,G p=none->Q (.ref p) (bP G p (.lst ((names rows).map enc)))
end K3
namespace KS
open K2.P
open K2.zD (M met yE GP Kn DV Qv Du rK wc sm bc bi oM Sz Ro sf MZ Ig fA fy hO gb Jh C1 vd Ub)
open K2.xy (fj kU E8 yG)
open K2.sr (HR HR.fz)
open K2.K3 (Rl Ie)
theorem IM{G G1 G2:Gp}{p:Nat}{as:List Nat}{rs:Rows}(h:HR G G1 p as rs)(l:fi G1 G2):HR G G2 p as rs :=
 ⟨h.le.trans l,h.fp,l _ _ h.gp,h.np,h.nd,h.fr,h.len,fun i a r h1 h2=>l _ _ (h.at' i a r h1 h2)⟩
theorem Ug{G:Gp}:∀ {ds:List D} {rs:Rows},Rl G ds rs->Sn G 8 (.da ds) (.da (rs.map enc)):=by
 intro ds rs h;induction h with
 | nil=>exact .DR
 | cons hx _ ih =>
  refine .wH ?_ ih;rcases hx with rfl | ⟨a,rfl,e⟩
  ·exact pQ G 6 (by decide) _
  ·exact .ref e (pQ G 6 (by decide) _)
theorem Uh{G G1:Gp}{p:Nat}{as:List Nat}{rs:Rows}(h:HR G G1 p as rs):Sn G1 8 (.ref p) (enc rs):=.ref h.gp (Ug (Ie as rs h.len h.at'))
noncomputable def AR:fh :=
 (bR (eE (rJ (fQ (ao 0))) (cb (dA (gE aW))) cK)
 (bR (bY (zm BW vM (ao 0) (ax (nS N9 (ax (ao 0) aW)) aW)) (aR 1))
 (cb (dA (a9 iL (Jb (ao 0) (u3 (ao 1)) hX) (Jb (ao 0) hX (u3 (ao 1))))))))
noncomputable def ni:gM:=fun ds G Q _=>∃ r:List T3,ds=[enc r]/\r.length<=1000/\∀ p,G p=none->Q (.ref p) (bP G p (.lst ((fj r).map enc)))
theorem Bp(ds:List D)(G:Gp)(Q:DK)(h:ni ds G Q fun _ _=>False):AR (fun _ _=>False) (ends Q) (aX 2 ds) G:=by
 obtain⟨r,rfl,hl,q⟩:=h;unfold AR;refine kz (fun τ G'=>G=G'/\r≠[]/\τ=[some (enc r),none]) ?_ ?_
 ·intro N hN;simp only [eE,rJ,aX,aj,aN,af,aq,br,aB,aG,cb,dA,gE,aW,ends,cK,cT,ao,aa];cases r with
  | nil=>exact⟨by decide,fun p hp=>Hi (.new hp) hp az (q p hp)⟩
  | cons a t=>exact hN _ _ ⟨rfl,by simp,rfl⟩
 ·rintro _ _ ⟨rfl,pD,rfl⟩;simp only [ends,eU,bY,zm,ao,aa,ax,nS,aW,aR,cb,dA,a9,Jb,aC,av,hX,nR,ae];refine⟨trivial,E8 rfl pD (yG trivial rfl pD ?_)⟩;have hkl:r.idxOf (kU r)<=r.length:=OP;refine zD.O8 (IsL.enc r) hkl hl fun p G1 l f g=>?_;exact Hi l f g (q p f)
noncomputable def pX:fh :=
 (cb (dA (gX 1 [] (kW (ao 0)) (aR 0) none (bK ni (ax (ao 0) aW)))))
noncomputable def cj:gM:=fun ds G Q _=>∃ rows:Rows,ds=[enc rows]/\(rows.length<=1000/\∀ r∈rows,r.length<=1000)/\∀ p as G',HR G G' p as (rows.map fj)->Q (.ref p) G'
theorem qM(ds:List D)(G:Gp)(Q:DK)(h:cj ds G Q fun _ _=>False):pX (fun _ _=>False) (ends Q) (aX 1 ds) G:=by
 obtain⟨rows,rfl,⟨hl,hr⟩,q⟩:=h;unfold pX;simp only [cb,dA,gX,aX,aj,aN,af,aq,aB,aG,ends,dE,ao,aa];refine iz ⟨HX (by rw [ai]; exact hl),?_⟩;refine iP (xs:=rows) (fun pre acc τ G'=>(∃ a,τ=[a])/\∃ bs:List Nat,acc=bs.map D.ref/\bs.length=pre.length/\bs.Nodup/\(∀ a∈bs,G a=none)/\fi G G'/\∀ (i a:Nat) (r:List T3),bs[i]?=some a->pre[i]?=some r->G' a=some (.lst ((fj r).map enc))) ⟨⟨_,rfl⟩,[],rfl,rfl,c9,(fun a h=>by cases h),.refl _,fun i a r h=>by simp at h⟩ (fun _ _ _ _ _=>trivial) ?_ ?_
 ·rintro pre r post acc τ G' N e ⟨⟨a,rfl⟩,bs,rfl,hl,nd,fr,le,Dw⟩ hN;simp only [aR,bK,ax,ao,av,aa,aW];refine⟨r,rfl,hr r (by rw [e]; simp),fun p hp=>?_⟩;have U4:p∉bs:=fun z=>by
   obtain⟨i,hi⟩:=mF z;have h1:i < pre.length:=by rw [<-hl]; exact(List.getElem?_eq_some_iff.mp hi).1
   rw [Dw i p pre[i] hi (bf h1)] at hp; cases hp
  refine hN _ _ _ ⟨⟨_,rfl⟩,bs++[p],by simp,by simp [hl],?_,?_,le.trans (.new hp),?_⟩
  ·rw [fu];refine⟨nd,by simp,fun a h b hb e=>?_⟩;rw [dN] at hb;subst hb e;exact U4 h
  ·intro a h0;rcases List.mem_append.mp h0 with h | h
   ·exact fr a h
   ·rw [dN] at h; subst h; exact le.free hp
  ·intro i b s h1 h2;by_cases hi:i < bs.length
   ·rw [bN hi] at h1;rw [bN (by lia)] at h2;have:b≠p:=by rintro rfl; exact U4 (gT h1)
    rw [c4 this];exact Dw i b s h1 h2
   ·rw [bQ (by lia)] at h1 h2;have i0:i - bs.length=0:=by have:=(List.getElem?_eq_some_iff.mp h1).1; simp at this; lia
    rw [i0] at h1;rw [<-hl,i0] at h2;simp at h1 h2;subst h1 h2;exact az
 ·rintro acc τ G5 ⟨⟨a',rfl⟩,bs,rfl,hl,nd,fr,le,Dw⟩ p3 Ko;refine eB (q p3 bs _ ⟨le.trans (.new Ko),le.free Ko,az,fun z=>?_,nd,fr,by rw [ai]; exact hl,fun i b r h1 h2=>?_⟩)
  ·obtain⟨i,hi⟩:=mF z;have h1:i < rows.length:=by rw [<-hl]; exact(List.getElem?_eq_some_iff.mp hi).1
   rw [Dw i p3 rows[i] hi (bf h1)] at Ko; cases Ko
  ·rw [du] at h2;obtain⟨r',U0,rfl⟩:=Option.map_eq_some_iff.mp h2;exact(fi.new Ko) _ _ (Dw i b r' h1 U0)
noncomputable def tq(p:Nat)(c:Rows):D:=.tup [.ref p,.oS (cY (met c.flatten))]
noncomputable def nv:fh :=
 (bR (bY (bK fA (ax (ao 0) aW)) (aR 1))
 (cb (dA (jJ (ax (bK cj (ax (bK fy (ax (ao 0) (ax (ao 1) aW))) aW)) (ax (ao 1) aW))))))
noncomputable def fX:gM:=fun ds G Q _=>∃ rows:Rows,ds=[enc rows]/\Sz rows/\∀ p as G',HR G G' p as (sm rows)->Q (tq p rows) G'
theorem nU(ds:List D)(G:Gp)(Q:DK)(h:fX ds G Q fun _ _=>False):nv (fun _ _=>False) (ends Q) (aX 2 ds) G:=by
 obtain⟨rows,rfl,hz,q⟩:=h;have h1:=hz.n;have h2:=hz.f;unfold nv;simp only [ends,aX,aj,aN,af,aq,br,aB,aG,eU,bY,bK,ax,ao,aa,aW,aR,cb,dA,jJ,aC,av,ae];refine⟨rows,rfl,by lia,?_⟩;simp only [dA,aX,ends,cT,a9,TG,ao,nS,zm,ax,aW,cb,QV,fJ,bY,aR,dC,cK,jJ,gE,N0,xV,Hw,NV,rJ,EZ,Jc,EW,Jb,nR,hX,dE,qt,bK,gX,e9,DZ,uw,uv,nC,qc,ij,jU,DY,B6,Ii,xJ,Ik,e8,qe,B4,Ih,B5,va,Fb,Bh,i8,ml,qm,oX,kM,HU,HS,HQ,true_and,and_true,xS,Ct,lF,bu,nu,El,II,Ej,aj,aN,aB,aG,aa,ae,av,aC,af,aq,br,if_true,if_false,cR,bO,ay,eU,nj];refine⟨rows,met rows.flatten,rfl,⟨by lia,fun r hr=>⟨by have:=hz.row hr; lia,MZ hr⟩⟩,?_⟩;refine⟨rows.map (DV (met rows.flatten)),rfl,⟨by rw [ai]; lia,fun r hr=>?_⟩,fun p as G' hr=>⟨by decide,eB (q p as G' hr)⟩⟩;obtain⟨r',U0,rfl⟩:=List.mem_map.mp hr;rw [Ig];have:=hz.row U0;lia
noncomputable def wC:fh :=
 (bR (NZ 1 (bY (gX 1 [] (kW (bK gb (ax (dA (gX 1 [] (kW (ao 0)) (aR 0) none (bK hO (ax (ao 0) aW)))) aW))) (aR 0) none (bK fX (ax (ao 0) aW))) (aR 1)))
 (cb (dA (NW (ao 1)))))
noncomputable def eX:gM:=fun ds G Q _=>∃ rows:Rows,ds=[enc rows]/\Sz rows/\∀ p as G',HR G G' p as (dJ rows)->Q (tq p (bc rows)) G'
theorem w4(ds:List D)(G:Gp)(Q:DK)(h:eX ds G Q fun _ _=>False):wC (fun _ _=>False) (ends Q) (aX 2 ds) G:=by
 obtain⟨rows,rfl,hz,q⟩:=h;have h1:=hz.n;have h2:=hz.f;unfold wC;refine kz (fun τ G'=>∃ (pm:Nat) (ps:List Nat),τ=[some (enc rows),some (.ref pm)]/\ps.length=(wc rows).length/\G' pm=some (.lst (Bu tq ps (wc rows)))/\∀ (i p:Nat) (c:Rows),ps[i]?=some p->(wc rows)[i]?=some c->∃ as,HR G G' p as (sm c)) ?_ ?_
 ·intro N hN;simp only [NZ,bY,gX,aX,aj,aN,af,aq,br,aB,aG,aR,aC,av,ae,aa,dE,bK,ax,dA,aW,ao];refine iz ⟨HX (by rw [ai]; lia),?_⟩;refine iP (xs:=rows) (fun pre acc τ G'=>G=G'/\(∃ a,τ=[a])/\acc=(pre.map rK).map enc) ⟨rfl,⟨_,rfl⟩,rfl⟩ (fun _ _ _ _ _=>trivial) ?_ ?_
  ·rintro pre r post acc τ G' N e ⟨rfl,⟨a,rfl⟩,rfl⟩ hN;simp only [aR,bK,ax,ao,av,aa,aW];refine⟨r,rfl,by have:=hz.row (r:=r) (by rw [e]; simp); lia,hN _ _ _ ⟨rfl,⟨_,rfl⟩,?_⟩⟩;rw [aP,aP]; rfl
  ·rintro acc τ G' ⟨rfl,⟨a,rfl⟩,rfl⟩ p hp;refine lO (xs:=rows.map rK) (.new hp) hp az ?_;refine⟨rows.map rK,rfl,⟨by rw [ai]; exact h1,fun m hm=>?_⟩,?_⟩
   ·obtain⟨r,hr,rfl⟩:=List.mem_map.mp hm;rw [vd];have:=hz.row hr;lia
   ·refine iz ⟨Ub (by rw [ai]; have:=Jh hz; unfold wc at this; lia),?_⟩;refine iP (xs:=wc rows) (fun pre acc τ G'=>(∃ a,τ=[a])/\fi G G'/\∃ ps:List Nat,ps.length=pre.length/\acc=Bu tq ps pre/\∀ (i p:Nat) (c:Rows),ps[i]?=some p->pre[i]?=some c->∃ as,HR G G' p as (sm c)) ⟨⟨_,rfl⟩,.refl G,[],rfl,rfl,fun i p c h=>by simp at h⟩ (fun _ _ _ _ _=>trivial) ?_ ?_
    ·rintro pre c post acc τ G' N e ⟨⟨a,rfl⟩,l,ps,QM,rfl,Dw⟩ hN;simp only [aR,bK,ax,ao,av,aa,aW];refine⟨c,rfl,hz.ro (sf (by rw [e]; simp)),fun p as G2 hr=>hN _ _ _ ⟨⟨_,rfl⟩,l.trans hr.le,ps++[p],by simp [QM],?_,fun i p' c' e1 e2=>?_⟩⟩
     ·rw [List.zipWith_append QM]; rfl
     ·by_cases hi:i < ps.length
      ·rw [bN hi] at e1;rw [bN (by lia)] at e2;obtain⟨bs,hb⟩:=Dw i p' c' e1 e2;exact⟨bs,IM hb hr.le⟩
      ·rw [bQ (by lia)] at e1 e2;have i0:i - ps.length=0:=by have:=(List.getElem?_eq_some_iff.mp e1).1; simp at this; lia
       rw [i0] at e1;rw [<-QM,i0] at e2;simp at e1 e2;subst e1 e2;exact⟨as,l.trans hr.le,l.free hr.fp,hr.gp,hr.np,hr.nd,fun a ha=>l.free (hr.fr a ha),hr.len,hr.at'⟩
    ·rintro acc τ G' ⟨⟨a,rfl⟩,l,ps,QM,rfl,Dw⟩ p hp;exact eB (hN _ _ ⟨p,ps,rfl,QM,az,fun i p' c' e1 e2=>by
      obtain⟨bs,hb⟩:=Dw i p' c' e1 e2;exact⟨bs,IM hb (.new hp)⟩⟩)
 ·rintro _ G1 ⟨pm,ps,rfl,QM,gm,Dw⟩;simp only [cb,dA,NW,ao,ae,aa,ends];have hz1:(Bu tq ps (wc rows)).length=(wc rows).length:=by rw [List.length_zipWith,QM]; lia
  refine⟨Bu tq ps (wc rows),bJ.Qr Rows,fun i=>enc (sm ((wc rows).getD i [])),.ref gm,by rw [hz1]; exact C1 rows,fun i d hd=>?_,fun d hd=>?_⟩
  ·obtain⟨p,c,e1,e2,rfl⟩:=List.getElem?_zipWith_eq_some.mp hd;obtain⟨as,hr⟩:=Dw i p c e1 e2;refine⟨_,_,rfl,?_,bJ.Kt _⟩;show Sn _ _ _ (enc (sm ((wc rows).getD i [])));rw [cf,e2];exact Uh hr
  ·have:(fun i j=>yJ (enc (sm ((wc rows).getD i []))) (enc (sm ((wc rows).getD j []))))=fun i j=>bJ.lt (sm ((wc rows).getD i [])) (sm ((wc rows).getD j [])):=by
    funext i j;exact bJ.Tr _ _
   rw [this,hz1] at hd;obtain⟨p,c,e1,e2,rfl⟩:=List.getElem?_zipWith_eq_some.mp hd;obtain⟨as,hr⟩:=Dw _ p c e1 e2;have e:bc rows=c:=by
    unfold bc bi;rw [cf,e2]; rfl
   rw [<-e] at hr ⊢;exact eB (q p as G1 hr)
noncomputable def yo:fh :=
 (cb (dA (a9 j7 (bK eX (ax (ao 0) aW)) (dC (.int 0)))))
noncomputable def eL:gM:=fun ds G Q _=>∃ rows:Rows,ds=[enc rows]/\Sz rows/\∀ p as G',HR G G' p as (dJ rows)->Q (.ref p) G'
theorem zy(ds:List D)(G:Gp)(Q:DK)(h:eL ds G Q fun _ _=>False):yo (fun _ _=>False) (ends Q) (aX 1 ds) G:=by
 obtain⟨rows,rfl,hz,q⟩:=h;unfold yo;simp only [cb,dA,a9,bK,ax,ao,aX,aj,aN,af,aq,aB,aG,aa,aW,dC,ends];refine⟨rows,rfl,hz,fun p as G' hr=>?_⟩;unfold tq;simp only [e8,Lf];exact eB (q p as G' hr)
end KS
namespace Mo
open K2.P
open K2.K3 (cX mh)
open K2.xy (fj)
open K2.sr (HR)
open K2.KS (cj)
noncomputable def rX:fh :=
 (bR (bY (bK cX (ax (ao 0) aW)) (aR 2))
 (bR (eE (fQ (a9 VT (a9 iL (nS kD (ax (ao 2) aW)) (nS kD (ax (ao 1) aW))) (dC (.int 12)))) oJ cK)
 (i4 (kW (ao 1)) (aR 3) (bR (eE (fQ (a9 (Ca false) (ao 3) (ao 2))) oJ cK)
 (fJ (zm BW oy (ao 2) (ax (ao 3) aW)))))))
noncomputable def j5:gM:=fun ds G Q _=>∃ (rows:Rows) (d:D) (ns:List Int),ds=[enc rows,d]/\IsL G d (ns.map enc)/\(rows.flatten.length < 64/\(names rows).length+ns.length<=12/\ns.Nodup/\∀ n∈ns,n∉names rows)/\∀ G',fi G G'->Q .dI G'
theorem AD(ds:List D)(G:Gp)(Q:DK)(h:j5 ds G Q fun _ _=>False):rX (fun _ _=>False) (ends Q) (aX 4 ds) G:=by
 obtain⟨rows,d,ns,rfl,hd,⟨hl,hm,nd,hn⟩,q⟩:=h;unfold rX;simp only [ends,aX,aj,aN,af,aq,br,aB,aG,eU,bY,bK,ax,ao,aa,aW,aR,aC,av];refine⟨rows,rfl,hl,fun p hp=>?_⟩;have le:=fi.new (o:=.lst ((names rows).map enc)) hp;have gp:=az (G:=G) (a:=p) (o:=.lst ((names rows).map enc));have hdp:d≠.ref p:=fun e=>by
  rcases hd with e1 | ⟨a,e1,e2⟩
  ·rw [e] at e1; cases e1
  ·rw [e] at e1; cases e1; rw [hp] at e2; cases e2
 generalize bP G p (.lst ((names rows).map enc))=G1 at le gp ⊢;simp only [cq,eE,cK,cT,a9,nS,ax,ao,ae,aa,aW,dC];refine jw (.ref gp) (jw (hd.mono le) ?_);simp only [ai,e9,xJ,bu];have:¬ ((names rows).length:Int)+(ns.length:Int) > 12:=by lia
 simp only [this,decide_false,ay,i4,dE,ao,ae,aa,if_false];refine sr.rf hd le fun ok Pu=>?_;refine iU (xs:=ns) (fun pre τ G'=>fi G G'/\G' p=some (.lst ((names rows++pre).map enc))/\∃ a,τ=[some (enc rows),some d,some (.ref p),a]) ⟨le,by rw [bW]; exact gp,_,rfl⟩ (fun _ _ G' h=>Pu G' h.1) ?_ ?_
 ·rintro pre n post τ G' N e ⟨l,g,a,rfl⟩ hN;simp only [aR,aC,av,cq,eE,cK,fJ,zm,ao,ae,aa,kM,ax,aW,i8,cT,a9];refine mh (x:=n) (xs:=names rows++pre) (by decide) g ?_;have h1:n∉names rows++pre:=fun z=>by
   rcases List.mem_append.mp z with z | z
   ·exact hn n (by rw [e]; simp) z
   ·rw [e,fu] at nd;exact nd.2.2 n z n (bo) rfl
  simp only [ay,h1,decide_false,bO,if_false,bu,g,true_and];refine⟨?_,hN _ _ ⟨l.put hp,?_,_,rfl⟩⟩
  ·have:=congrArg dO e;simp at this;exact LS (by rw [ai,aO]; lia)
  ·rw [az,<-g8,aP (l₁:=names rows++pre)]; rfl
 ·rintro τ G' ⟨l,g,a,rfl⟩;exact q _ l
theorem PY{G:Gp}{R:Nat->Bool}:∀ {a a' b b':List D},zO G R a a'->zO G R b b'->zO G R (a++b) (a'++b'):=by
 intro a a' b b' h1 h2;induction a generalizing a' with
 | nil=>cases h1; exact h2
 | cons x a ih=>cases h1 with | cons h t=>exact .cons h (ih t)
theorem Sj{α:Type} [DecidableEq α] [Enc α]{xs:List α}{x:α}{G:Gp}{Q:DK}(hd:Enc.dep α<=7)(h:x∈xs)(q:Q (.int ((xs.idxOf x:Nat):Int)) G):vM (enc xs) [enc x] G Q:=by
 refine⟨trivial,xs.map enc,enc x,xs.map enc,rfl,Enc.sn _ _ _ (by unfold SN; lia),pQ G 7 hd xs,?_⟩;rw [ED xs h]; exact q
theorem GN{α:Type}{R1 R2:List α}{r:α}{f:α->D}:we ((R1++r :: R2).map f) ((R1.length:Nat):Int)=some (f r):=by
 rw [ve _ (by lia) (by rw [ai]; simp; lia)];simp
theorem LV{rows:Rows}{s:T2}(h:s∈jh rows 0):∃ p∈rows.zipIdx 0,s∈cD p.1 (p.2:Int):=by
 cases Tj h with
 | «at» R1 R2 A B x e hx =>
  subst e hx;refine⟨(A++x :: B,R1.length),by rw [pz,sC]; simp,?_⟩;unfold cD; rw [if_neg (by simp)]; simp
 | mt R1 R2 e hx =>
  subst e hx;refine⟨([],R1.length),by rw [pz,sC]; simp,?_⟩;unfold cD; rw [if_pos rfl]; simp
theorem JQ{rows:Rows}{s:T2}(d:FH rows)(h:s∈jh rows 0):∃ (R1 R2:Rows) (r:List T3) (k:Nat),rows=R1++r :: R2/\DL rows s=R1.length/\s∈cD r (R1.length:Nat)/\(cD r (R1.length:Nat)).idxOf s=k/\k<=r.length/\∀ ps,uA s ps rows 0=R1++(r.take (k+1)++ps++r.drop (k+1)) :: R2:=by
 cases Tj h with
 | «at» R1 R2 A B x e hx =>
  subst e hx;have hi:(cD (A++x :: B) (R1.length:Nat)).idxOf x.s=A.length:=by
   have nd:=d.row (r:=A++x :: B) (by simp);have hn:x.s∉A.map T3.s:=fun z=>by
    rw [aP,fu] at nd;exact nd.2.2 _ z _ bo rfl
   unfold cD;rw [if_neg (by simp),aP,List.idxOf_append,if_neg hn,aj,List.idxOf_cons_self]; simp
  refine⟨R1,R2,A++x :: B,A.length,rfl,O2 d,by unfold cD; rw [if_neg (by simp)]; simp,hi,by simp,fun ps=>?_⟩;rw [Ml d];have e:A++x :: B=(A++[x])++B:=by simp
  have hl:A.length+1=(A++[x]).length:=by simp
  rw [e,hl,List.take_left,List.drop_left];simp
 | mt R1 R2 e hx =>
  subst e hx;refine⟨R1,R2,[],0,rfl,O1 d,by unfold cD; rw [if_pos rfl]; simp,by unfold cD; rw [if_pos rfl]; simp,aQ _,fun ps=>?_⟩;rw [Mj d]; simp
theorem Uj(n d i:Nat):iT n d (some (i:Int))=min i n:=by
 show (if ((i:Int) < 0) then ((i:Int)+(n:Int)).toNat else min (i:Int).toNat n)=_;rw [if_neg (by lia)]; simp
theorem Qa{α:Type}(xs:List α)(i:Nat):cut xs none (some (i:Int))=xs.take i:=by
 unfold cut;rw [Uj];show (xs.drop 0).take (min i xs.length - 0)=_;rw [List.drop_zero,Nat.sub_zero];exact List.take_eq_take_iff.mpr (by lia)
theorem KH{α:Type}(xs:List α)(i:Nat):cut xs (some (i:Int)) none=xs.drop i:=by
 unfold cut;rw [Uj];show (xs.drop (min i xs.length)).take (xs.length - min i xs.length)=_;rw [kJ (by rw [cW]; lia)];by_cases h:i<=xs.length
 ·rw [FW h]
 ·rw [Nat.min_eq_right (by lia),LC (by lia),LC (by lia)]
noncomputable def wA:fh :=
 (bR (bY (bK kN (ax (ao 0) (ax (ao 1) aW))) (aR 3))
 (bR (bY (nS u7 (ax (ao 0) aW)) (aR 4))
 (bR (bY (a9 iL (zm BW vM (bK i6 (ax (a9 j7 (ao 4) (ao 3)) (ax (ao 3) aW))) (ax (ao 1) aW)) (dC (.int 1))) (aR 5))
 (bR (bY (a9 iL (a9 iL (Jb (a9 j7 (ao 4) (ao 3)) hX (u3 (ao 5))) (ao 2)) (Jb (a9 j7 (ao 4) (ao 3)) (u3 (ao 5)) hX)) (Et (ao 4) (ao 3)))
 (cb (dA (ao 4)))))))
noncomputable def i5:gM:=fun ds G Q _=>∃ (rows:Rows) (s:T2) (d:D) (ps:List T3),ds=[enc rows,enc s,d]/\IsL G d (ps.map enc)/\(FH rows/\s∈jh rows 0/\rows.length<=500/\(∀ r∈rows,r.length<=500)/\ps.length<=100)/\Q (enc (uA s ps rows 0)) G
theorem Fg(ds:List D)(G:Gp)(Q:DK)(h:i5 ds G Q fun _ _=>False):wA (fun _ _=>False) (ends Q) (aX 6 ds) G:=by
 obtain⟨rows,s,d,ps,rfl,hd,⟨dn,hs,hl,hr,QM⟩,q⟩:=h;obtain⟨R1,R2,r,k,e,es,hsr,hk,hkl,Yg⟩:=JQ dn hs;rw [Yg] at q;unfold wA;simp only [ends,aX,aj,aN,af,aq,br,aB,aG,eU,bY,bK,ax,ao,aa,ae,aW,aR,aC,av,nS,a9,zm,dC,Jb,hX,nR];refine⟨rows,s,rfl,⟨fun r h=>by have:=hr r h; lia,LV hs⟩,?_⟩;rw [es];simp only [dA,aX,ends,cT,a9,TG,ao,nS,zm,ax,aW,cb,QV,fJ,bY,aR,dC,cK,jJ,gE,N0,xV,Hw,NV,rJ,EZ,Jc,EW,Jb,nR,hX,dE,qt,bK,gX,e9,DZ,uw,uv,nC,qc,ij,jU,DY,B6,Ii,xJ,Ik,e8,qe,B4,Ih,B5,va,Fb,Bh,i8,ml,qm,oX,kM,HU,HS,HQ,true_and,and_true,xS,Ct,lF,bu,nu,El,II,Ej,aj,aN,aB,aG,aa,ae,av,aC,af,aq,br,if_true,if_false,cR,bO,ay,eU,nj];refine E9 (IsL.enc rows) fun p4 Yh=>?_;have l1:=fi.new (o:=.lst (rows.map enc)) Yh;have g4:=az (G:=G) (a:=p4) (o:=.lst (rows.map enc));generalize bP G p4 (.lst (rows.map enc))=G1 at l1 g4 ⊢;subst e;have hrl:=hr r (by simp);refine B8 (.ref g4) GN ?_;refine⟨r,_,rfl,(show r.length<=1000 by lia),?_⟩;refine⟨trivial,Sj (by decide) hsr ?_⟩;rw [hk];simp only [e9,lF];have ek:((k:Nat):Int)+1=((k+1:Nat):Int):=by lia
 rw [ek];refine B8 (.ref g4) GN ?_;refine vE (IsL.enc r) fun p1 Yj=>?_;rw [Qa,<-K4];have l2:=fi.new (o:=.lst ((r.take (k+1)).map enc)) Yj;refine Il (.ref az) (hd.mono (l1.trans l2)) (HX (by simp only [ai,l6]; lia)) fun p2 wQ=>?_;have l3:=fi.new (o:=.lst ((r.take (k+1)).map enc++ps.map enc)) wQ;refine B8 (.ref (l3 _ _ (l2 _ _ g4))) GN ?_;refine vE (IsL.enc r) fun p3 Ko=>?_;rw [KH,<-K5];have l4:=fi.new (o:=.lst ((r.drop (k+1)).map enc)) Ko;refine Il (.ref (l4 _ _ az)) (.ref az) (HX (by simp only [aO,ai,l6,cW]; lia)) fun p5 V7=>?_;have e5:(r.take (k+1)).map enc++ps.map enc++(r.drop (k+1)).map enc=(r.take (k+1)++ps++r.drop (k+1)).map (enc (α:=T3)):=by simp
 rw [e5];generalize r.take (k+1)++ps++r.drop (k+1)=r' at q ⊢;have l5:=fi.new (o:=.lst (r'.map enc)) V7;have g5:=az (G:=bP (bP (bP G1 p1 (.lst ((r.take (k+1)).map enc))) p2 (.lst ((r.take (k+1)).map enc++ps.map enc))) p3 (.lst ((r.drop (k+1)).map enc))) (a:=p5) (o:=.lst (r'.map enc));have XM:=((l2.trans l3).trans l4).trans l5;have pD:p5≠p4:=by
  rintro rfl;rw [((l2.trans l3).trans l4) _ _ g4] at V7; cases V7
 have hf5:G p5=none:=(l1.trans ((l2.trans l3).trans l4)).free V7;generalize bP (bP (bP (bP G1 p1 (.lst ((r.take (k+1)).map enc))) p2 (.lst ((r.take (k+1)).map enc++ps.map enc))) p3 (.lst ((r.drop (k+1)).map enc))) p5 (.lst (r'.map enc))=G5 at XM g5 ⊢;simp only [Et,ao,ae,aa,cb,dA];unfold DN;simp only [XM _ _ g4];have ei:IH ((R1++r :: R2).map (enc (α:=List T3))).length ((R1.length:Nat):Int)=some R1.length:=by
  unfold IH;rw [if_pos (by lia),if_pos (by rw [ai]; simp; lia)]; simp
 simp only [ei];have e6:((R1++r :: R2).map enc).set R1.length (.ref p5)=R1.map enc++D.ref p5 :: R2.map enc:=by
  rw [aP,aj];have:R1.length=(R1.map (enc (α:=List T3))).length:=by rw [ai]
  rw [this,List.set_append_right _ _ (aQ _)]; simp
 rw [e6];have hle:fi G (bP G5 p4 (.lst (R1.map enc++D.ref p5 :: R2.map enc))):=(l1.trans XM).put Yh;have q':Q (.da (R1.map enc++D.da (r'.map enc) :: R2.map enc)) G:=by
  have:(enc (R1++r' :: R2):D)=.da (R1.map enc++D.da (r'.map enc) :: R2.map enc):=by rw [NL,aP]; rfl
  rw [<-this]; exact q
 refine sR hle Yh az (PY (zO.same _) (.cons (.ref ?_ ?_ (zO.same _)) (zO.same _))) q'
 ·rw [c4 pD]; exact g5
 ·simp [hf5]
end Mo
namespace Mo
open K2.P
open K2.xy (fj)
open K2.sr (HR)
open K2.zD (Du Ro)
open K2.KS (cj)
theorem Cw{G G1 G':Gp}{p:Nat}{as:List Nat}{rs:Rows}(h:HR G1 G' p as rs)(l:fi G G1):HR G G' p as rs :=
 ⟨l.trans h.le,l.free h.fp,h.gp,h.np,h.nd,fun a ha=>l.free (h.fr a ha),h.len,h.at'⟩
theorem CS{rows:Rows}(d:Dr rows):rows.length<=500/\(∀ r∈rows,r.length<=500)/\rows.flatten.length < 64:=by
 have:=d.OE;have h3:=d.str;refine⟨by lia,fun r hr=>?_,by lia⟩;have:=sr.nJ hr;lia
end Mo
namespace K3
open K2.P K2.sr
variable {rows:Rows}
end K3
namespace TM
open K2.P K2.sr
open K2.K3 hiding cJ
variable {rows:Rows}
end TM
namespace TM
open K2.P K2.sr
open K2.K3 hiding cJ
variable {rows:Rows}
structure HA(G G':Gp)(as:List Nat)(rs:Rows):Prop where
 le:fi G G'
 nd:as.Nodup
 fr:∀ a∈as,G a=none
 len:as.length=rs.length
 at':∀ (i a:Nat) (r:List T3),as[i]?=some a->rs[i]?=some r->G' a=some (.lst (r.map enc))
theorem HA.nil(G:Gp):HA G G [] []:=⟨.refl _,c9,(fun a h=>by cases h),rfl,fun i a r h=>by simp at h⟩
theorem HA.new{G G':Gp}{as:List Nat}{rs:Rows}(h:HA G G' as rs){p:Nat}(hp:G' p=none):p∉as:=fun z=>by
 obtain⟨i,hi⟩:=mF z;have h1:i < rs.length:=by rw [<-h.len]; exact(List.getElem?_eq_some_iff.mp hi).1
 rw [h.at' i p rs[i] hi (bf h1)] at hp; cases hp
theorem HA.push{G G':Gp}{as:List Nat}{rs:Rows}(h:HA G G' as rs){p:Nat}(hp:G' p=none)(r:List T3):HA G (bP G' p (.lst (r.map enc))) (as++[p]) (rs++[r]):=by
 have U4:=h.new hp;refine⟨h.le.trans (.new hp),?_,?_,by simp [h.len],?_⟩
 ·rw [fu];refine⟨h.nd,by simp,fun a ha b hb e=>?_⟩;rw [dN] at hb;subst hb e;exact U4 ha
 ·intro a h0;rcases List.mem_append.mp h0 with z | z
  ·exact h.fr a z
  ·rw [dN] at z; subst z; exact h.le.free hp
 ·intro i b s h1 h2;by_cases hi:i < as.length
  ·rw [bN hi] at h1;rw [bN (by rw [<-h.len]; lia)] at h2;have:b≠p:=by rintro rfl; exact U4 (gT h1)
   rw [c4 this];exact h.at' i b s h1 h2
  ·rw [bQ (by lia)] at h1;rw [bQ (by rw [<-h.len]; lia)] at h2;have i0:i - as.length=0:=by have:=(List.getElem?_eq_some_iff.mp h1).1; simp at this; lia
   rw [i0] at h1;rw [<-h.len,i0] at h2;simp at h1 h2;subst h1 h2;exact az
theorem HA.top{G G':Gp}{as:List Nat}{rs:Rows}(h:HA G G' as rs){p:Nat}(hp:G' p=none):HR G (bP G' p (.lst (as.map D.ref))) p as rs :=
 ⟨h.le.trans (.new hp),h.le.free hp,az,h.new hp,h.nd,h.fr,h.len,fun i b r h1 h2=>(fi.new hp) _ _ (h.at' i b r h1 h2)⟩
theorem Jf{rows:Rows}{G:Gp}{Q:DK}(hl:rows.length<=1000){τ:g6}(q:∀ G' p as,HR G G' p as rows->Q (.ref p) G') :
  PT (enc rows) G fun ds ok G1=>ds.length<=SZ/\jr (aR 0) none (nS u7 (ax (ao 0) aW)) ok ds (fun _ _=>False) (wb 1 [] τ) G1 [] fun xs G2=>jK G2 (.lst xs) Q:=by
 refine iz ⟨HX (by rw [ai]; exact hl),?_⟩;refine iP (xs:=rows) (fun pre acc τ G'=>(∃ a,τ=[a])/\∃ as:List Nat,acc=as.map D.ref/\HA G G' as pre) ⟨⟨_,rfl⟩,[],rfl,.nil G⟩ (fun _ _ _ _ _=>trivial) ?_ ?_
 ·rintro pre r post acc τ G' N e ⟨⟨a,rfl⟩,as,rfl,h⟩ hN;simp only [aR,nS,ax,ao,av,aa,aW];refine E9 (IsL.enc r) fun p hp=>?_;exact hN _ _ _ ⟨⟨_,rfl⟩,as++[p],by simp,h.push hp r⟩
 ·rintro acc τ G' ⟨⟨a,rfl⟩,as,rfl,h⟩ p hp;exact q _ p as (h.top hp)
end TM
namespace TM
open K2.P K2.sr
open K2.K3 hiding cJ
variable {rows:Rows}
end TM
namespace OI
open K2.P
section
variable {α β:Type} [DecidableEq α] [DecidableEq β]
variable {V:List α} {R:α->α->Prop}
variable {f:α->α}
theorem MJ:∀ (xs ys:List α),xs.Nodup->(∀ x∈xs,x∈ys)->xs.length<=ys.length
 | [],_,_,_=>cg _
 | x :: xs,ys,hn,h=>by
  rw [iQ] at hn;have:=MJ xs (ys.erase x) hn.2 fun y hy=>(OO (show y≠x from fun z=>hn.1 (by rw [<-z]; exact hy))).mpr (h y (aK _ hy));have hx:=h x (by simp);rw [Ju hx] at this;have:=Lz hx;rw [af]; lia
end
end OI
namespace OI
open K2.P
variable {rows:Rows}
end OI
namespace Y8
open K2.P K2.sr
variable {rows:Rows}
theorem Hb{c:xu}{a b:fh}{E:jz}{K:jA}{τ:g6}{G:Gp}:eE c a b E K τ G=c E τ G fun k G1=>if k=true then a E K τ G1 else b E K τ G1:=rfl
end Y8
namespace Y8
open K2.P K2.sr
variable {rows:Rows}
end Y8
namespace OI
open K2.P
variable {rows:Rows}
theorem MK(d:Dr rows):(names rows).Nodup:=by
 unfold names;refine JL ?_;have h:(rows.flatten.filter fun p=>p.b == 0).Pairwise fun p q=>p.s≠q.s:=by
  have:=d.nd;unfold Jw at this;rw [qU] at this;exact this.filter _
 unfold Jw;rw [qU];refine h.imp_of_mem fun {p q} hp hq ne z=>ne ?_;have h1:p.b=0:=by simpa using (List.mem_filter.mp hp).2
 have h2:q.b=0:=by simpa using (List.mem_filter.mp hq).2
 unfold T3.s;rw [z,h1,h2]
theorem twice(d:Dr rows):rows.flatten.length=2 * (names rows).length:=by
 have e0:(names rows).length=(rows.flatten.filter fun p=>p.b == 0).length:=by unfold names; rw [xF,ai]
 have nd:rows.flatten.Nodup:=by
  have:=d.nd;unfold Jw at this;rw [qU] at this;exact this.imp fun {u v} q z=>q (by rw [z])
 have h1:rows.flatten.length=(rows.flatten.filter fun p=>p.b == 0).length+(rows.flatten.filter fun p=>!(p.b == 0)).length:=by
  rw [<-DB,<-DB];rw [List.length_eq_countP_add_countP (fun p:T3=>p.b == 0) (l:=rows.flatten)];congr 1;refine List.countP_congr fun x _=>?_;simp
 have QA:∀ {L:List T3},L.Nodup->(L.map om).Nodup:=by
  intro L h;unfold Jw;rw [qU];exact h.imp fun {u v} q z=>q (by rw [<-Qz u,z,Qz])
 have a1:=MJ ((rows.flatten.filter fun p=>p.b == 0).map om) (rows.flatten.filter fun p=>!(p.b == 0)) (QA (nd.filter _)) fun x hx=>by
  obtain⟨p,hp,rfl⟩:=List.mem_map.mp hx;obtain⟨h1,h2⟩:=List.mem_filter.mp hp;have h2:p.b=0:=by simpa using h2
  refine List.mem_filter.mpr ⟨QB d h1,?_⟩;show (!(1 - p.b == 0))=true;rw [h2]; rfl
 have a2:=MJ ((rows.flatten.filter fun p=>!(p.b == 0)).map om) (rows.flatten.filter fun p=>p.b == 0) (QA (nd.filter _)) fun x hx=>by
  obtain⟨p,hp,rfl⟩:=List.mem_map.mp hx;obtain⟨h1,h2⟩:=List.mem_filter.mp hp;have h2:p.b≠0:=by simpa using h2
  have h3:=(d.way p h1).resolve_left h2;refine List.mem_filter.mpr ⟨QB d h1,?_⟩;show (1 - p.b == 0)=true;rw [h3]; rfl
 rw [ai] at a1 a2;lia
end OI
namespace Mo
open K2.P
open K2.xy (fj)
open K2.sr (HR)
open K2.zD (Du Ro)
open K2.KS (cj)
structure Tc(rows:Rows)(n:Int)(s:T2):Prop where
 d:Dr rows
 OE:rows.flatten.length<=22
 hs:s∈jh rows 0
 fr:∀ p∈rows.flatten,p.a≠n
theorem AV{rows:Rows}(d:Dr rows)(h:rows.flatten.length<=22):(names rows).length<=11:=by
 have:=OI.twice d;lia
theorem wI{rows:Rows}{s:T2}{ps:List T3}(d:FH rows)(h:s∈jh rows 0):∀ r∈uA s ps rows 0,r.length<=rows.flatten.length+ps.length:=fun r hr=>by
 have h1:=sr.nJ hr;rw [(ux (ps:=ps) d (Tj h)).length_eq,aO] at h1;lia
noncomputable def uq:fh :=
 (bR (fJ (bK j5 (ax (ao 1) (ax (gE (ax (fK ["Curl"] "name" (ao 0)) aW)) aW))))
 (bR (bY (gE (ax (jJ (ax (fK ["Curl"] "name" (ao 0)) (ax (fK ["Curl"] "first" (ao 0)) (ax (fK ["Curl"] "hand" (ao 0)) aW)))) (ax (jJ (ax (fK ["Curl"] "name" (ao 0)) (ax (a9 GA (dC (.int 1)) (fK ["Curl"] "first" (ao 0))) (ax (fK ["Curl"] "hand" (ao 0)) aW)))) aW))) (aR 2))
 (cb (dA (bK cj (ax (bK i5 (ax (ao 1) (ax (fK ["Curl"] "spot" (ao 0)) (ax (ao 2) aW)))) aW))))))
noncomputable def jj:gM:=fun ds G Q _=>∃ (p:Nat) (n:Int) (s:T2) (f h:Int) (rows:Rows),ds=[.ref p,enc rows]/\Qo G p (.cu n s f h)/\Tc rows n s/\∀ q as G',HR G G' q as ((uA s (cps n f h) rows 0).map fj)->Q (.ref q) G'
theorem Dh(ds:List D)(G:Gp)(Q:DK)(h:jj ds G Q fun _ _=>False):uq (fun _ _=>False) (ends Q) (aX 3 ds) G:=by
 obtain⟨p,n,s,f,h,rows,rfl,g,c,q⟩:=h;obtain⟨U9,Ni,SD⟩:=CS c.d;have SG:=c.OE;unfold uq;simp only [ends,aX,aj,aN,af,aq,br,aB,aG,nj,fJ,bK,ax,ao,ae,aa,gE,fK,aW,eU,bY,jJ,a9,dC,aR,cb,dA,aC,av];refine at_ g ⟨by decide,fun pl oC=>?_⟩;refine⟨rows,_,[n],rfl,.ref az,⟨SD,by have:=AV c.d c.OE; simp; lia,by simp,fun m hm z=>?_⟩,fun G1 l1=>?_⟩
 ·rw [List.mem_singleton.mp hm] at z;obtain⟨x,hx,_,e⟩:=vK.mp z;exact c.fr x hx e
 have L:=(fi.new oC).trans l1;have g1:=L _ _ g;refine at_ g1 (at_ g1 (at_ g1 ⟨by decide,at_ g1 (at_ g1 ?_)⟩));simp only [nC];refine at_ g1 ⟨by decide,by decide,fun p2 wQ=>?_⟩;have l2:=fi.new (o:=.lst ((cps n f h).map enc)) wQ;refine at_ (l2 _ _ g1) ?_;refine⟨rows,s,_,cps n f h,rfl,.ref az,⟨c.d.dn,c.hs,U9,Ni,by simp [cps]⟩,?_⟩;refine⟨_,rfl,⟨by rw [qX]; lia,fun r hr=>?_⟩,fun q' as G' hr=>eB (q q' as G' (Cw hr (L.trans l2)))⟩;have:=wI (ps:=cps n f h) c.d.dn c.hs r hr;rw [show (cps n f h).length=2 from rfl] at this;lia
noncomputable def ur:fh :=
 (bR (fJ (qB [("Curl",jj)] "done" (ao 0) (ax (ao 1) aW)))
 (cb (dA (lS "Uncurl" cO (ax (fK ["Curl"] "name" (ao 0)) aW)))))
noncomputable def kR:gM:=fun ds G Q _=>∃ (p:Nat) (n:Int) (s:T2) (f h:Int) (rows:Rows),ds=[.ref p,enc rows]/\Qo G p (.cu n s f h)/\Tc rows n s/\∀ q G',fi G G'->G q=none->Qo G' q (.un n)->Q (.ref q) G'
theorem Di(ds:List D)(G:Gp)(Q:DK)(h:kR ds G Q fun _ _=>False):ur (fun _ _=>False) (ends Q) (aX 2 ds) G:=by
 obtain⟨p,n,s,f,h,rows,rfl,g,c,q⟩:=h;unfold ur;simp only [ends,aX,aj,aN,af,aq,aB,aG,nj,fJ,qB,ao,aa,ax,ae,aW,cb,dA,lS,fK];refine⟨p,_,_,jj,rfl,g,List.mem_singleton.mpr rfl,rfl,⟨p,n,s,f,h,rows,rfl,g,c,fun q1 as G1 hr=>?_⟩⟩;refine at_ (hr.le _ _ g) fun q' QL=>⟨q',n,rfl,az,rfl,eB (q q' _ ?_ ?_ ?_)⟩
 ·rw [xb]; exact hr.le.trans (.new QL)
 ·exact hr.le.free QL
 ·rw [xb]; exact az
end Mo
namespace OH
open K2.P
open K2.Mo
open K2.xy (fj)
open K2.sr (HR HR.put nJ yh en pe rf)
open K2.K3 (HR.rw HR.at_ ins yV IJ ez yL jX vr rp CU sW used KU NC cJ cX fit Wl CK EC mh Hb)
noncomputable def ui:fh :=
 (bR (bY (gE aW) (aR 1))
 (bR (i4 (kW (ao 0)) (aR 2) (i4 (kW (ao 2)) (aR 3) (eE (fQ (a9 (Ca true) (a9 j7 (ao 3) (dC (.int 0))) (ao 1))) (fJ (zm BW oy (ao 1) (ax (a9 j7 (ao 3) (dC (.int 0))) aW))) cK)))
 (cb (dA (nS qK (ax (ao 1) aW))))))
theorem C9(ds:List D)(G:Gp)(Q:DK)(h:cJ ds G Q fun _ _=>False):ui (fun _ _=>False) (ends Q) (aX 4 ds) G:=by
 obtain⟨d,rows,rfl,⟨ds,hd,rl⟩,hl,q⟩:=h;unfold ui;simp only [ends,aX,aj,aN,af,aq,br,aB,aG,eU,bY,gE,aW,aR,aC,av];refine⟨by decide,fun p hp=>?_⟩;refine kz (fun τ G'=>(∃ a b,τ=[some d,some (.ref p),a,b])/\fi G G'/\G' p=some (.lst ((vr [] (rows.flatten.map (·.a))).map enc))) ?_ ?_
 ·intro N hN;simp only [i4,dE,ao,aa];refine rf hd (fi.new hp) fun ok cF=>?_;refine NC rl (fun pre τ G'=>(∃ a b,τ=[some d,some (.ref p),a,b])/\fi G G'/\G' p=some (.lst ((vr [] (pre.flatten.map (·.a))).map enc))) ⟨⟨_,_,rfl⟩,.new hp,az⟩ (fun _ _ _ h=>cF _ h.2.1) ?_ ?_
  ·rintro pre r post x τ G' N2 e hx ⟨⟨a,b,rfl⟩,l,gp⟩ Dx;have hlen:pre.flatten.length+r.length<=rows.flatten.length:=by
    rw [e]; simp only [xC,bL,aO]; lia
   simp only [aR,i4,aC,av,dE,ao,ae,aa];refine rf hx l fun Xo Yk=>?_;refine iU (xs:=r) (fun pp τ G'=>(∃ a b,τ=[some d,some (.ref p),a,b])/\fi G G'/\G' p=some (.lst ((vr (vr [] (pre.flatten.map (·.a))) (pp.map (·.a))).map enc))) ⟨⟨_,_,rfl⟩,l,gp⟩ (fun _ _ _ h=>Yk _ h.2.1) ?_ ?_
   ·rintro pp t pt τ G4 N3 e4 ⟨⟨a,b,rfl⟩,l4,Vs⟩ Wg;have hpp:pp.length < r.length:=by have:=congrArg dO e4; simp at this; lia
    have hz:=rp (pp.map (·.a)) (vr [] (pre.flatten.map (·.a)));have XX:=rp (pre.flatten.map (·.a)) [];rw [ai] at hz XX;rw [aq] at XX;simp only [aR,zf,aC,av,Hb,fJ,zm,ao,ae,aa,kM,ax,a9,dC,aW,i8,e8,Lf,cK,cT];refine mh (x:=t.a) (xs:=vr (vr [] (pre.flatten.map (·.a))) (pp.map (·.a))) (by decide) Vs ?_;simp only [if_true,bu];have eu:vr (vr [] (pre.flatten.map (·.a))) ((pp++[t]).map (·.a))=used (vr (vr [] (pre.flatten.map (·.a))) (pp.map (·.a))) t.a:=by
     rw [aP,CU]; rfl
    by_cases hm:t.a∈vr (vr [] (pre.flatten.map (·.a))) (pp.map (·.a))
    ·simp only [hm,decide_true,cR,ay,if_false];refine Wg _ _ ⟨⟨_,_,rfl⟩,l4,?_⟩;rw [eu]; unfold used; rw [if_pos hm]; exact Vs
    ·simp only [hm,decide_false,bO,if_true,Vs];refine⟨trivial,LS (by rw [ai]; lia),Wg _ _ ⟨⟨_,_,rfl⟩,l4.put hp,?_⟩⟩;rw [az,eu]; unfold used; rw [if_neg hm,aP]; rfl
   ·rintro τ G4 ⟨⟨a,b,rfl⟩,l4,Vs⟩;refine Dx _ _ ⟨⟨_,_,rfl⟩,l4,?_⟩;have:(pre++[r]).flatten.map (·.a)=pre.flatten.map (·.a)++r.map (·.a):=by simp
    rw [this,CU]; exact Vs
  ·rintro τ G' ⟨⟨a,b,rfl⟩,l,gp⟩;exact hN _ _ ⟨⟨_,_,rfl⟩,l,gp⟩
 ·rintro _ G' ⟨⟨a,b,rfl⟩,l,gp⟩;simp only [cb,dA,nS,ax,ao,ae,aa,aW];have hz:=rp (rows.flatten.map (·.a)) [];rw [ai,aq] at hz;refine wX (IsL.ref gp) (by lia) fun p2 wQ=>?_;exact lO (l.trans (.new wQ)) (l.free wQ) az q
noncomputable def wD:fh :=
 (cb (dA (nS qK (ax (gX 1 [] (kW (bK fZ (ax (ao 0) aW))) (aR 0) (some (fQ (a9 (Cb false) (a9 j7 (ao 0) (dC (.int 1))) (dC (.int 0))))) (a9 j7 (ao 0) (dC (.int 0)))) aW))))
theorem Fi(ds:List D)(G:Gp)(Q:DK)(h:cX ds G Q fun _ _=>False):wD (fun _ _=>False) (ends Q) (aX 1 ds) G:=by
 obtain⟨rows,rfl,hl,q⟩:=h;unfold wD;simp only [cb,dA,nS,ax,gX,↓dE,bK,ao,aX,↓aj,↓aN,↓af,↓aq,↓aB,↓aG,↓aa,aW,ends];refine⟨rows,rfl,(show rows.flatten.length<=1000 by lia),iz ⟨HX (by rw [ai]; show rows.flatten.length<=1000; lia),?_⟩⟩;refine iP (xs:=rows.flatten) (fun pre acc τ G'=>G=G'/\(∃ a,τ=[a])/\acc=((pre.filter fun p=>p.b == 0).map (·.a)).map enc) ⟨rfl,⟨_,rfl⟩,rfl⟩ (fun _ _ _ _ _=>trivial) ?_ ?_
 ·rintro pre x post acc τ G' N e ⟨rfl,⟨a,rfl⟩,rfl⟩ hN;simp only [aR,↓cT,a9,ao,↓av,↓zf,↓aa,dC,↓e8,↓OG,↓Lf];refine⟨_,_,.int _,.int _,?_⟩;simp only [↓bu,↓ay,iG,↓if_false];split
  ·rename_i h;refine hN _ _ _ ⟨rfl,⟨_,rfl⟩,?_⟩;simp [List.filter_append,List.filter_cons,h,P5]
  ·rename_i h;refine hN _ _ _ ⟨rfl,⟨_,rfl⟩,?_⟩;simp [List.filter_append,List.filter_cons,h]
 ·rintro acc τ G' ⟨rfl,⟨a,rfl⟩,rfl⟩ p hp;refine wX (IsL.ref az) (by rw [ai]; exact Nat.lt_of_le_of_lt (Ot _ _) hl) fun p2 wQ=>?_;exact Hi ((fi.new hp).trans (.new wQ)) ((fi.new hp).free wQ) az (q _ ((fi.new hp).free wQ))
noncomputable def rY:fh :=
 (bR (eE (fQ (a9 (Cb false) (a9 kS (ao 0) (dC (.int 2))) (dC (.int 0)))) (cb (dA (a9 kG (ao 0) (dC (.int 2))))) cK)
 (cb (dA (a9 kS (a9 JP (a9 kS (a9 iL (a9 JP (ao 0) (dC (.int 48271))) (dC (.int 11))) (dC (.int 2147483647))) (dC (.int 69621))) (dC (.int 999999999989))))))
noncomputable def j6:gM:=fun ds G Q _=>∃ c:Int,ds=[.int c]/\∀ m:Int,Q (.int m) G
theorem AE(ds:List D)(G:Gp)(Q:DK)(h:j6 ds G Q fun _ _=>False):rY (fun _ _=>False) (ends Q) (aX 1 ds) G:=by
 obtain⟨c,rfl,q⟩:=h;unfold rY;simp only [ends,aX,aj,aN,af,aq,aB,aG,cq,eE,cb,dA,a9,ao,aa,dC,jU,cK,qc,e9,ij,cT];refine⟨by decide,_,_,.int _,.int _,?_⟩;simp only [ay,iG,if_false,bu];split
 ·exact⟨by decide,by decide,eB (q _)⟩
 ·exact⟨.inr ⟨by decide,by decide⟩,by decide,.inr ⟨by decide,by decide⟩,by decide,eB (q _)⟩
noncomputable def kO:gM:=fun ds G Q _=>∃ (G0:Gp) (p0:Nat) (as:List Nat) (rows:Rows) (c:Int),ds=[.ref p0,.int c]/\HR G0 G p0 as rows/\(1<=rows.length/\rows.length<=3/\rows.flatten.length<=22) /\
 ∀ (ue:Rows) (m hd:Int) (G':Gp),ue.length=rows.length->ue.flatten.Perm (⟨m,1,hd⟩ :: ⟨m,0,hd⟩ :: rows.flatten)->m∉rows.flatten.map (·.a)->(hd=1\/hd=-1)->HR G0 G' p0 as ue->Q .dI G'
noncomputable def uj:fh :=
 (bR (bY (bK j6 (ax (ao 1) aW)) (aR 2))
 (bR (bY (a9 iL (dC (.int 1)) (a9 kS (ao 2) (dC (.int 999)))) (aR 3))
 (bR (NT (fQ (a9 (Ca false) (ao 3) (bK cJ (ax (ao 0) aW)))) (bY (a9 iL (a9 kS (ao 3) (dC (.int 999))) (dC (.int 1))) (aR 3)))
 (bR (bY (a9 GA (a9 JP (dC (.int 2)) (a9 kS (a9 kG (ao 2) (dC (.int 999))) (dC (.int 2)))) (dC (.int 1))) (aR 4))
 (bR (bY (a9 kG (ao 2) (dC (.int 1998))) (aR 2))
 (i4 (Em (dC (.int 2))) (aR 5) (bR (bY (a9 j7 (ao 0) (a9 kS (ao 2) (nS kD (ax (ao 0) aW)))) (aR 6))
 (bR (bY (a9 kG (ao 2) (nS kD (ax (ao 0) aW))) (aR 2))
 (bR (fJ (zm BW xP (ao 6) (ax (a9 kS (ao 2) (a9 iL (nS kD (ax (ao 6) aW)) (dC (.int 1)))) (ax (jJ (ax (ao 3) (ax (ao 5) (ax (ao 4) aW)))) aW))))
 (bY (a9 kG (ao 2) (nS kD (ax (ao 6) aW))) (aR 2)))))))))))
theorem Dc(ds:List D)(G:Gp)(Q:DK)(h:kO ds G Q fun _ _=>False):uj (fun _ _=>False) (ends Q) (aX 7 ds) G:=by
 obtain⟨G0,p0,as,rows,c,rfl,hr,⟨n1,n3,hf⟩,q⟩:=h;unfold uj;simp only [ends,aX,aj,aN,af,aq,br,aB,aG,eU,bY,bK,ax,ao,ae,aa,aW,aR,aC,av,a9,dC];refine⟨c,rfl,fun m0=>?_⟩;simp only [ij,e9];refine⟨by decide,?_⟩;have b1:1<=1+m0 % 999:=by lia
 have b2:1+m0 % 999<=999:=by lia
 generalize 1+m0 % 999=n at *;have Ni:=yL rows;refine kz (fun τ G'=>G=G'/\∃ m:Int,m∉ez rows/\τ=[some (.ref p0),some (.int c),some (.int m0),some (.int m),none,none,none]) ?_ ?_
 ·intro N hN;obtain⟨k,hk,oY⟩:=EC (ns:=ez rows) b1 b2 (by lia);have main:∀ (j:Nat),j<=k->DE (fQ (a9 (Ca false) (ao 3) (bK cJ (ax (ao 0) aW)))) (bY (a9 iL (a9 kS (ao 3) (dC (.int 999))) (dC (.int 1))) (aR 3)) (j+1) (fun _ _=>False) { ends Q with nx:=N } [some (.ref p0),some (.int c),some (.int m0),some (.int (fit n (k - j))),none,none,none] G:=by
   intro j;induction j with
   | zero =>
    intro _;show DE _ _ (0+1) _ _ _ _;rw [DE];simp only [bY,a9,ao,ae,aa,dC,aR,ends,aC,av,ij,e9,cT,bK,ax,aW];refine⟨_,rows,rfl,HR.rw hr,by lia,?_⟩;refine B9 (x:=fit n (k - 0)) (by decide) ?_;simp only [ay,Nat.sub_zero,oY,decide_false,bO,if_false,bu];exact hN _ _ ⟨rfl,_,oY,rfl⟩
   | succ j ih =>
    intro hj;rw [DE];simp only [bY,a9,ao,ae,aa,dC,aR,ends,aC,av,ij,e9,cT,bK,ax,aW];refine⟨_,rows,rfl,HR.rw hr,by lia,?_⟩;refine B9 (x:=fit n (k - (j+1))) (by decide) ?_;by_cases hm:fit n (k - (j+1))∈ez rows
    ·simp only [ay,hm,decide_true,cR,if_false,bu,if_true];refine⟨by decide,?_⟩;have e:fit n (k - (j+1)) % 999+1=fit n (k - j):=by
      rw [show k - j=(k - (j+1))+1 by lia]; rfl
     rw [e];exact ih (by lia)
    ·simp only [ay,hm,decide_false,bO,if_false,bu];exact hN _ _ ⟨rfl,_,hm,rfl⟩
  have:=main k (aQ _);rw [Nat.sub_self] at this;exact⟨k+1,this⟩
 ·rintro _ _ ⟨rfl,m,hm,rfl⟩;have Nh:m∉rows.flatten.map (·.a):=fun z=>hm (jX.mpr z);simp only [cq,bY,a9,dC,ao,ae,aa,aR,aC,av,jU,ij,qc,nC];refine⟨by decide,by decide,by decide,.inl ⟨by decide,by decide⟩,?_⟩;have hh:2 * (m0 / 999 % 2) - 1=1\/2 * (m0 / 999 % 2) - 1=-1:=by lia
  generalize 2 * (m0 / 999 % 2) - 1=hd at *;simp only [i4,qt,dC,nu];refine⟨by decide,by decide,by decide,by decide,?_⟩;rw [show (jT 0 (Int.toNat 2))=(ft 2).map fun i:Nat=>D.int (i:Int) from rfl];refine iU (xs:=ft 2) (f:=fun i:Nat=>D.int (i:Int)) (fun ks τ G'=>∃ (rest:Int) (ue:Rows) (a5 a6:Option D),ue.length=rows.length/\ue.flatten.Perm ((ks.map fun i:Nat=>(⟨m,(i:Int),hd⟩:T3)).reverse++rows.flatten)/\HR G0 G' p0 as ue/\τ=[some (.ref p0),some (.int c),some (.int rest),some (.int m),some (.int hd),a5,a6]) ⟨_,rows,_,_,rfl,.refl _,hr,rfl⟩ (fun _ _ _ _=>trivial) ?_ ?_
  ·rintro ks w post τ G' N2 e ⟨rest,ud,a5,a6,hl,hp,Nf,rfl⟩ Dx;have V9:ks.length < 2:=by have:=congrArg dO e; simp at this; lia
   have fl:ud.flatten.length<=23:=by rw [hp.length_eq,aO,xB,ai]; lia
   simp only [aR,aC,av,cq,bY,a9,ao,aa,ae,nS,ax,aW,fJ,zm,dC,jJ,af,aq];refine jw (IsL.ref Nf.gp) ?_;rw [ai,Nf.len];simp only [ij];refine⟨by lia,?_⟩;have i1:0<=rest % (ud.length:Int):=Int.emod_nonneg _ (by lia);have i2:rest % (ud.length:Int) < ud.length:=Int.emod_lt_of_pos _ (by lia);generalize rest % (ud.length:Int)=i at *;obtain⟨a,r,ea,er,ga,xa⟩:=HR.at_ Nf i1 i2;refine B8 (IsL.ref Nf.gp) xa ?_;have rl:r.length<=23:=bU (nJ (gT er)) fl;simp only [kM];refine jw (IsL.ref Nf.gp) ?_;rw [ai,Nf.len];simp only [jU];refine⟨by lia,by lia,?_⟩;generalize rest / (ud.length:Int)=Mb at *;refine⟨by rw [ga]; exact trivial,?_⟩;refine jw (IsL.ref ga) ?_;rw [ai];simp only [e9,ij,qm];refine⟨by lia,by decide,?_⟩;have k1:0<=Mb % ((r.length:Int)+1):=Int.emod_nonneg _ (by lia);have k2:Mb % ((r.length:Int)+1) < (r.length:Int)+1:=Int.emod_lt_of_pos _ (by lia);generalize Mb % ((r.length:Int)+1)=k at *;simp only [ga];refine⟨k1,by rw [ai]; lia,LS (by rw [ai]; lia),?_⟩;rw [show (D.tup [.int m,.int (w:Int),.int hd])=enc (⟨m,(w:Int),hd⟩:T3) from rfl,IJ];have h2:=Nf.put (r':=ins r k.toNat ⟨m,(w:Int),hd⟩) ea;have p2:=yh (yV r k.toNat ⟨m,(w:Int),hd⟩) ud _ er;refine jw (IsL.ref az) ?_;rw [ai];have Yu:(ins r k.toNat ⟨m,(w:Int),hd⟩).length=r.length+1:=(yV r k.toNat ⟨m,(w:Int),hd⟩).length_eq;simp only [Yu,jU];refine⟨by lia,by lia,Dx _ _ ⟨_,_,_,_,by rw [eR]; exact hl,?_,h2,rfl⟩⟩;refine p2.trans ?_;rw [aP,List.reverse_append];exact .cons _ hp
  ·rintro τ G' ⟨rest,ud,a5,a6,hl,hp,Nf,rfl⟩;exact q ud m hd G' hl hp Nh hh Nf
end OH
namespace OH
open K2.P
open K2.Mo
open K2.xy (fj)
open K2.sr (HR)
open K2.zD (M met uF Ro Sz bc oM sf Qv xI vc)
open K2.KS (dJ qZ lH rg Ij MO kl tq eL eX cj)
open K2.K3 (ez jX iM sW cX mh)
theorem Qw{g:Int->Int}:∀ {L:List T3},Ij g (L.map (·.a))->(L.map T3.s).Nodup->((L.map (rg g)).map T3.s).Nodup
 | [],_,_=>c9
 | t :: L,hi,h=>by
  rw [aj,iQ] at h;rw [aj,aj,iQ];refine⟨fun z=>?_,Qw (fun a ha b hb=>hi a (aK _ ha) b (aK _ hb)) h.2⟩;obtain⟨u',IK,e⟩:=List.mem_map.mp z;obtain⟨u,hu,rfl⟩:=List.mem_map.mp IK;have e1:g u.a=g t.a:=congrArg T2.a e;have e2:u.b=t.b:=congrArg T2.b e;have e3:=hi u.a (aK _ (List.mem_map.mpr ⟨u,hu,rfl⟩)) t.a bo e1;refine h.1 (List.mem_map.mpr ⟨u,hu,?_⟩);show (⟨u.a,u.b⟩:T2)=⟨t.a,t.b⟩;rw [e2,e3]
theorem yD(rows:Rows):(dJ rows).length=rows.length:=by
 show (((bc rows).map _).map fj).length=_;rw [ai,ai,(sf (oM rows)).len]
theorem nH(rows:Rows):(dJ rows).flatten.length=rows.flatten.length:=by
 rw [(qZ rows).length_eq,ai,(sf (oM rows)).perm.length_eq]
theorem IU{rows:Rows}(d:Dr rows):Dr (dJ rows):=by
 have ro:=(sf (oM rows)).perm;have hp:=qZ rows;have V1:((bc rows).flatten.map T3.s).Nodup:=(ro.map _).nodup_iff.mpr d.nd;have mem:∀ p∈(dJ rows).flatten,∃ q∈rows.flatten,p=rg (fun a=>(jy (met (bc rows).flatten) a).getD 0) q:=fun p h=>by
  obtain⟨q,hq,rfl⟩:=List.mem_map.mp (hp.mem_iff.mp h);exact⟨q,ro.mem_iff.mp hq,rfl⟩
 refine⟨(hp.map _).nodup_iff.mpr (Qw (MO _) V1),fun p h=>?_,fun p h=>?_,fun p h=>?_,by rw [nH]; exact d.OE,by rw [yD]; exact d.str⟩
 ·obtain⟨q,hq,rfl⟩:=mem p h; exact d.way q hq
 ·obtain⟨q,hq,rfl⟩:=mem p h; exact d.hand q hq
 ·obtain⟨q,hq,rfl⟩:=mem p h;exact hp.mem_iff.mpr (List.mem_map.mpr ⟨_,ro.mem_iff.mpr (d.zX q hq),rfl⟩)
theorem Kd(rows:Rows):(ez rows).Nodup:=(jg _).nodup_iff.mpr (sW _ _ c9)
theorem oz{rows:Rows}(d:Dr rows):(ez rows).length=(names rows).length:=by
 have h1:∀ n,n∈ez rows↔n∈names rows:=fun n=>by
  rw [jX,vK];constructor
  ·intro h;obtain⟨p,hp,rfl⟩:=List.mem_map.mp h;rcases d.way p hp with e | e
   ·exact⟨p,hp,e,rfl⟩
   ·have:=d.zX p hp;exact⟨_,this,by show 1 - p.b=0; lia,rfl⟩
  ·rintro⟨p,hp,_,rfl⟩;exact List.mem_map.mpr ⟨p,hp,rfl⟩
 exact Nat.le_antisymm (iM _ _ (Kd rows) fun x hx=>(h1 x).mp hx) (iM _ _ (OI.MK d) fun x hx=>(h1 x).mpr hx)
theorem J4{rows:Rows}(d:Dr rows){x y:Int}(h1:1<=x)(h2:x<=(names rows).length)(hy:y=0\/y=1):(⟨x,y⟩:T2)∈jh (dJ rows) 0:=by
 have dm:=IU d;have hx:x∈ez (dJ rows):=by
  rw [lH,oz d];exact List.mem_map.mpr ⟨(x - 1).toNat,List.mem_range.mpr (by lia),by lia⟩
 obtain⟨p,hp,rfl⟩:=List.mem_map.mp (jX.mp hx);have:∃ q∈(dJ rows).flatten,q.s=⟨p.a,y⟩:=by
  by_cases e:p.b=y
  ·exact⟨p,hp,by rw [<-e]; rfl⟩
  ·refine⟨_,dm.zX p hp,?_⟩;have:1 - p.b=y:=by have:=dm.way p hp; lia
   show (⟨p.a,1 - p.b⟩:T2)=_;rw [this]
 obtain⟨q,hq,e⟩:=this;rw [<-e]; exact Gv hq
noncomputable def Rg(m:x6)(rows:Rows):Prop:=match m with
 | .cu ..=>(names rows).length=12
 | .la ..=>11<=(names rows).length
 | _=>False
noncomputable def Q8(m:x6)(rows:Rows):Prop:=match m with
 | .cu n s _ _=>Tc rows n s
 | _=>False
noncomputable def Iy(m:x6)(rows:Rows):Rows:=match m with
 | .cu n s f h=>(uA s (cps n f h) rows 0).map fj
 | _=>rows
noncomputable def pZ:fh :=
 (bR (bY (bK cX (ax (ao 0) aW)) (aR 2))
 (bR (eE (fQ (a9 VT (a9 iL (nS kD (ax (ao 2) aW)) (nS kD (ax (ao 1) aW))) (dC (.int 12)))) (xU "TooMany" (ax (dC (.str "there would be too many crossings")) aW)) cK)
 (i4 (kW (ao 1)) (aR 3) (bR (eE (fQ (a9 (Ca false) (ao 3) (ao 2))) (xU "NameTaken" (ax (dC (.str "a crossing has this name already")) aW)) cK)
 (fJ (zm BW oy (ao 2) (ax (ao 3) aW)))))))
noncomputable def fY:gM:=fun ds G Q E=>∃ (rows:Rows) (d:D) (ns:List Int),ds=[enc rows,d]/\IsL G d (ns.map enc)/\rows.flatten.length < 64 /\
 ((12 < (names rows).length+ns.length/\∀ G',fi G G'->E ⟨"TooMany",[]⟩ G')\/(((names rows).length+ns.length<=12/\ns.Nodup/\∀ n∈ns,n∉names rows)/\∀ G',fi G G'->Q .dI G'))
theorem zA(ds:List D)(G:Gp)(Q:DK)(E:jz)(h:fY ds G Q E):pZ E (ends Q) (aX 4 ds) G:=by
 obtain⟨rows,d,ns,rfl,hd,hl,h⟩:=h;unfold pZ;simp only [ends,aX,aj,aN,af,aq,br,aB,aG,eU,bY,bK,ax,ao,aa,aW,aR,aC,av];refine⟨rows,rfl,hl,fun p hp=>?_⟩;have le:=fi.new (o:=.lst ((names rows).map enc)) hp;have gp:=az (G:=G) (a:=p) (o:=.lst ((names rows).map enc));generalize bP G p (.lst ((names rows).map enc))=G1 at le gp ⊢;simp only [cq,eE,xU,ax,dC,aW,af,aq,cK,cT,a9,nS,ao,ae,aa];refine jw (.ref gp) (jw (hd.mono le) ?_);simp only [ai,e9,xJ,bu];rcases h with ⟨hm,q⟩ | ⟨⟨hm,nd,hn⟩,q⟩
 ·have:((names rows).length:Int)+(ns.length:Int) > 12:=by lia
  simp only [this,decide_true,if_true];exact⟨by decide,q _ le⟩
 have:¬ ((names rows).length:Int)+(ns.length:Int) > 12:=by lia
 simp only [this,decide_false,ay,i4,dE,ao,ae,aa,if_false];refine sr.rf hd le fun ok Pu=>?_;refine iU (xs:=ns) (fun pre τ G'=>fi G G'/\G' p=some (.lst ((names rows++pre).map enc))/\∃ a,τ=[some (enc rows),some d,some (.ref p),a]) ⟨le,by rw [bW]; exact gp,_,rfl⟩ (fun _ _ G' h=>Pu G' h.1) ?_ ?_
 ·rintro pre n post τ G' N e ⟨l,g,a,rfl⟩ hN;simp only [aR,aC,av,cq,eE,cK,fJ,zm,ao,ae,aa,kM,ax,aW,i8,cT,a9];refine mh (x:=n) (xs:=names rows++pre) (by decide) g ?_;have h1:n∉names rows++pre:=fun z=>by
   rcases List.mem_append.mp z with z | z
   ·exact hn n (by rw [e]; simp) z
   ·rw [e,fu] at nd;exact nd.2.2 n z n (bo) rfl
  simp only [ay,h1,decide_false,bO,if_false,bu,g,true_and];refine⟨?_,hN _ _ ⟨l.put hp,?_,_,rfl⟩⟩
  ·have:=congrArg dO e;simp at this;exact LS (by rw [ai,aO]; lia)
  ·rw [az,<-g8,aP (l₁:=names rows++pre)]; rfl
 ·rintro τ G' ⟨l,g,a,rfl⟩;exact q _ l
noncomputable def r0:fh :=
 (bR (fJ (qE fY (ax (ao 1) (ax (gE (ax (fK ["Curl"] "name" (ao 0)) aW)) aW))))
 (bR (bY (gE (ax (jJ (ax (fK ["Curl"] "name" (ao 0)) (ax (fK ["Curl"] "first" (ao 0)) (ax (fK ["Curl"] "hand" (ao 0)) aW)))) (ax (jJ (ax (fK ["Curl"] "name" (ao 0)) (ax (a9 GA (dC (.int 1)) (fK ["Curl"] "first" (ao 0))) (ax (fK ["Curl"] "hand" (ao 0)) aW)))) aW))) (aR 2))
 (cb (dA (bK cj (ax (bK i5 (ax (ao 1) (ax (fK ["Curl"] "spot" (ao 0)) (ax (ao 2) aW)))) aW))))))
noncomputable def fO:gM:=fun ds G Q E=>∃ (p:Nat) (n:Int) (s:T2) (f h:Int) (rows:Rows),ds=[.ref p,enc rows]/\Qo G p (.cu n s f h)/\Dr rows /\
 ((Rg (.cu n s f h) rows/\∀ G',fi G G'->E ⟨"TooMany",[]⟩ G')\/(Q8 (.cu n s f h) rows/\∀ q as G',HR G G' q as (Iy (.cu n s f h) rows)->Q (.ref q) G'))
theorem AF(ds:List D)(G:Gp)(Q:DK)(E:jz)(h:fO ds G Q E):r0 E (ends Q) (aX 3 ds) G:=by
 obtain⟨p,n,s,f,h,rows,rfl,g,d,hh⟩:=h;obtain⟨U9,Ni,SD⟩:=CS d;unfold r0;simp only [ends,aX,aj,aN,af,aq,br,aB,aG,nj,fJ,qE,ax,ao,ae,aa,gE,fK,aW,eU,bY,jJ,a9,dC,aR,cb,dA,bK,aC,av];refine at_ g ⟨by decide,fun pl oC=>?_⟩;refine⟨rows,_,[n],rfl,.ref az,SD,?_⟩;rcases hh with ⟨b,q⟩ | ⟨c,q⟩
 ·exact .inl ⟨by have b:(names rows).length=12:=b; simp; lia,fun G' l=>q _ ((fi.new oC).trans l)⟩
 have c:Tc rows n s:=c;have SG:=c.OE;refine .inr ⟨⟨by have:=AV c.d c.OE; simp; lia,by simp,fun m hm z=>?_⟩,fun G1 l1=>?_⟩
 ·rw [List.mem_singleton.mp hm] at z;obtain⟨x,hx,_,e⟩:=vK.mp z;exact c.fr x hx e
 have L:=(fi.new oC).trans l1;have g1:=L _ _ g;refine at_ g1 (at_ g1 (at_ g1 ⟨by decide,at_ g1 (at_ g1 ?_)⟩));simp only [nC];refine at_ g1 ⟨by decide,by decide,fun p2 wQ=>?_⟩;have l2:=fi.new (o:=.lst ((cps n f h).map enc)) wQ;refine at_ (l2 _ _ g1) ?_;refine⟨rows,s,_,cps n f h,rfl,.ref az,⟨c.d.dn,c.hs,U9,Ni,by simp [cps]⟩,?_⟩;refine⟨_,rfl,⟨by rw [qX]; lia,fun r hr=>?_⟩,fun q' as G' hr=>eB (q q' as G' (Cw hr (L.trans l2)))⟩;have:=wI (ps:=cps n f h) c.d.dn c.hs r hr;rw [show (cps n f h).length=2 from rfl] at this;lia
noncomputable def uo:fh :=
 (bR (fJ (qE fY (ax (ao 1) (ax (gE (ax (fK ["Lay"] "name" (ao 0)) (ax (fK ["Lay"] "second" (ao 0)) aW))) aW))))
 (bR oJ
 (bR oJ
 (bR oJ
 oJ))))
noncomputable def gz:gM:=fun ds G Q E=>∃ (p:Nat) (a b:Int) (o u:T2) (t h:Int) (rows:Rows),ds=[.ref p,enc rows]/\Qo G p (.la a b o u t h)/\Dr rows/\Rg (.la a b o u t h) rows/\∀ G',fi G G'->E ⟨"TooMany",[]⟩ G'
theorem Dg(ds:List D)(G:Gp)(Q:DK)(E:jz)(h:gz ds G Q E):uo E (ends Q) (aX 4 ds) G:=by
 obtain⟨p,a,b,o,u,t,h,rows,rfl,g,d,bd,q⟩:=h;obtain⟨U9,Ni,SD⟩:=CS d;unfold uo;simp only [ends,aX,aj,aN,af,aq,br,aB,aG,nj,fJ,qE,ax,ao,ae,aa,gE,fK,aW];refine at_ g (at_ g ⟨by decide,fun pl oC=>?_⟩);exact⟨rows,_,[a,b],rfl,.ref az,SD,.inl ⟨by have bd:11<=(names rows).length:=bd; simp; lia,fun G' l=>q _ ((fi.new oC).trans l)⟩⟩
theorem xT{m:x6}{rows:Rows}(h:Q8 m rows):Sz (Iy m rows):=by
 cases m with
 | cu n s f h' =>
  have c:Tc rows n s:=h;have hp:=ux (ps:=cps n f h') c.d.dn (Tj c.hs);have ro:=kl (uA s (cps n f h') rows 0);refine⟨?_,?_⟩
  ·show ((uA s (cps n f h') rows 0).map fj).length<=3;rw [ai,qX]; exact c.d.str
  ·show ((uA s (cps n f h') rows 0).map fj).flatten.length<=24;rw [ro.perm.length_eq,hp.length_eq,aO];have:=c.OE;show 2+_<=24;lia
 | _=>exact h.elim
end OH
namespace OH
open K2.P
open K2.Mo
open K2.xy (fj)
open K2.sr (HR HR.fz)
open K2.zD (M met uF Ro Sz bc oM sf Qv xI vc)
open K2.KS (dJ tq eL eX)
open K2.K3 (cX mh)
noncomputable def DX:fh :=
 (cb (dA (bK eL (ax (dA (u4 [("Curl",fO),("Lay",gz)] "done" (bK jS (ax (ao 1) aW)) (ax (ao 0) aW))) aW))))
noncomputable def tX:gM:=fun ds G Q E=>∃ (rows:Rows) (m:x6),ds=[enc rows,td m]/\Dr rows/\((Rg m rows/\∀ G',fi G G'->E ⟨"TooMany",[]⟩ G')\/(Q8 m rows/\Q (enc (dJ (Iy m rows))) G))
theorem IV {m:x6} {rows:Rows} {G:Gp} {Q:DK} {E:jz} {p:Nat} (g:Qo G p m) (d:Dr rows) (h:(Rg m rows/\∀ G',fi G G'->E ⟨"TooMany",[]⟩ G')\/(Q8 m rows/\∀ q as G',HR G G' q as (Iy m rows)->Q (.ref q) G')) :
  ∃ (a:Nat) (c:Str) (fs:List (Str×D)) (sp:gM),D.ref p=.ref a/\G a=some (.ins c fs)/\(c,sp)∈[(("Curl" : Str),fO),(("Lay" : Str),gz)]/\fs.lookup ("done" : Str)=none/\sp [.ref p,enc rows] G Q E:=by
 refine⟨p,cn m,fl m,?_⟩;cases m with
 | cu n s f h'=>exact⟨_,rfl,g,bo,rfl,p,n,s,f,h',rows,rfl,g,d,h⟩
 | la a b o u t h' =>
  rcases h with ⟨b1,q⟩ | ⟨z,_⟩
  ·exact⟨_,rfl,g,aK _ bo,rfl,p,a,b,o,u,t,h',rows,rfl,g,d,b1,q⟩
  ·exact z.elim
 | _=>rcases h with ⟨z,_⟩ | ⟨z,_⟩ <;> exact z.elim
theorem Oi(ds:List D)(G:Gp)(Q:DK)(E:jz)(h:tX ds G Q E):DX E (ends Q) (aX 2 ds) G:=by
 obtain⟨rows,m,rfl,d,h⟩:=h;unfold DX;simp only [cb,dA,bK,ax,u4,ao,aX,aj,aN,af,aq,aB,aG,ae,aa,aW,ends];refine⟨m,rfl,fun p hp=>?_⟩;have l1:=fi.new (o:=ob m) hp;refine IV az d ?_;rcases h with ⟨b,q⟩ | ⟨g,q⟩
 ·exact .inl ⟨b,fun G' l=>q _ (l1.trans l)⟩
 ·exact .inr ⟨g,fun q' as G' hr=>HR.fz (Cw hr l1) ⟨_,rfl,xT g,fun p2 as2 G2 Nf=>HR.fz Nf q⟩⟩
noncomputable def yn:fh :=
 (bR (bY (dA (bK eL (ax (ao 0) aW))) (aR 2))
 (bR (i4 (kW (ao 1)) (aR 3) (bY (dA (qE tX (ax (ao 2) (ax (ao 3) aW)))) (aR 2)))
 (cb (dA (ao 2)))))
noncomputable def n8:gM:=fun ds G Q E=>∃ (rows:Rows) (m:x6),ds=[enc rows,.da [td m]]/\(Sz rows/\Dr (dJ rows))/\((Rg m (dJ rows)/\∀ G',fi G G'->E ⟨"TooMany",[]⟩ G')\/(Q8 m (dJ rows)/\Q (enc (dJ (Iy m (dJ rows)))) G))
theorem HD(ds:List D)(G:Gp)(Q:DK)(E:jz)(h:n8 ds G Q E):yn E (ends Q) (aX 4 ds) G:=by
 obtain⟨rows,m,rfl,⟨sz,d⟩,h⟩:=h;unfold yn;simp only [ends,aX,aj,aN,af,aq,br,aB,aG,eU,bY,dA,bK,ax,ao,aa,aW,aR,aC,av];refine⟨rows,rfl,sz,fun p as G1 hr=>HR.fz hr ?_⟩;simp only [cq,i4,dE,ao,ae,aa,xS];refine⟨trivial,?_⟩;simp only [aR,bY,dA,qE,ax,ao,aC,av,ae,aa,aW];refine⟨dJ rows,m,rfl,d,?_⟩;rcases h with ⟨b,q⟩ | ⟨g,q⟩
 ·exact .inl ⟨b,q⟩
 ·refine .inr ⟨g,eB ⟨trivial,?_⟩⟩;simp only [cb,dA,ao,ae,aa];exact eB q
noncomputable def rW:fh :=
 (bR (bY (nS Jj (ax (ao 0) aW)) (aR 2))
 (bR (i4 (kW (bK cX (ax (ao 1) aW))) (aR 3) (eE (fQ (a9 (Ca true) (ao 3) (ao 2))) (bY (a9 iL (nS kD (ax (ao 2) aW)) (dC (.int 1))) (Et (ao 2) (ao 3))) cK))
 (cb (dA (ao 2)))))
noncomputable def j4:gM:=fun ds G Q _=>∃ (kv:M) (rows:Rows),ds=[.oS (cY kv),enc rows]/\(kv.length<=100/\rows.flatten.length < 64)/\∀ FC:M,Q (.oS (cY FC)) G
theorem AB(ds:List D)(G:Gp)(Q:DK)(h:j4 ds G Q fun _ _=>False):rW (fun _ _=>False) (ends Q) (aX 4 ds) G:=by
 obtain⟨kv,rows,rfl,⟨hk,hl⟩,q⟩:=h;unfold rW;simp only [ends,aX,aj,aN,af,aq,br,aB,aG,eU,bY,nS,ax,ao,aa,aW,aR,aC,av];refine Oc (l:=kv) .oS (HX (by lia)) fun p hp=>?_;simp only [cq,i4,dE,bK,ax,ao,ae,aa,aW];refine⟨rows,rfl,hl,fun p2 wQ=>?_⟩;have ne:p≠p2:=fun e=>by subst e; rw [az] at wQ; cases wQ
 have Yi:G p2=none:=by rwa [c4 ne.symm] at wQ
 have f0:bP G p2 (.lst ((names rows).map enc)) p=none:=by rw [c4 ne]; exact hp
 have e0:bP (bP G p (.jP (cY kv))) p2 (.lst ((names rows).map enc))=bP (bP G p2 (.lst ((names rows).map enc))) p (.jP (cY kv)):=by
  funext a;by_cases h1:a=p
  ·subst h1; rw [az,c4 ne,az]
  ·by_cases h2:a=p2
   ·subst h2; rw [az,c4 h1,az]
   ·rw [c4 h2,c4 h1,c4 h1,c4 h2]
 rw [e0];have hn:(names rows).length<=64:=by
  unfold names; rw [xF,ai];exact bU (Ot _ _) (by lia)
 refine sr.rf (.ref az) (fi.new f0) fun ok Pu=>?_;refine iU (xs:=names rows) (fun pre τ G'=>fi (bP G p2 (.lst ((names rows).map enc))) G'/\∃ (FC:M) (a:Option D),FC.length<=100+pre.length/\G' p=some (.jP (cY FC))/\τ=[some (.oS (cY kv)),some (enc rows),some (.ref p),a]) ⟨.new f0,kv,_,hk,az,rfl⟩ (fun _ _ G' h=>Pu G' h.1) ?_ ?_
 ·rintro pre n post τ G' N e ⟨l,FC,a,Dv,g,rfl⟩ hN;have Hf:pre.length < (names rows).length:=by have:=congrArg dO e; simp at this; lia
  simp only [aR,eE,aC,av,bY,a9,nS,ax,ao,ae,aa,aW,dC,cK,cT];refine xI g ?_;cases hs:(jy FC n).isSome with
  | true =>
   simp only [cR,if_true,bu,ay,if_false];exact hN _ _ ⟨l,FC,_,by rw [aO]; lia,g,rfl⟩
  | false =>
   simp only [bO,if_true,bu];refine vc g ?_;simp only [Et,ao,ae,aa,e9];refine P.AO (k:=n) (v:=(FC.length:Int)+1) g (by lia) ?_;refine hN _ _ ⟨l.put f0,zt FC n ((FC.length:Int)+1),_,?_,az,rfl⟩;have:(zt FC n ((FC.length:Int)+1)).length<=FC.length+1:=by unfold zt; split <;> simp
   rw [aO,gq]; lia
 ·rintro τ G' ⟨l,FC,a,Dv,g,rfl⟩;simp only [cb,dA,ao,ae,aa];exact Nx ((fi.new Yi).trans l) hp g (q FC)
end OH
namespace OH
open K2.P
open K2.Mo
open K2.xy (fj)
open K2.sr (HR HR.fz)
open K2.zD (M met uF Ro Sz bc oM sf)
open K2.KS (dJ tq eL eX)
open K2.K3 (cX mh)
noncomputable def um:fh :=
 (bR (bY (dA (bK eL (ax (ao 0) aW))) (aR 2))
 (bR (bY (gE aW) (aR 3))
 (bR (i4 (kW (ao 1)) (aR 4) (bR (bY (bK jS (ax (ao 4) aW)) (aR 5))
 (bR (bY (bK eX (ax (dA (u4 [("Curl",fO),("Lay",gz)] "done" (ao 5) (ax (ao 2) aW))) aW)) (aR 6))
 (bR (bY (dA (bK j4 (ax (a9 j7 (ao 6) (dC (.int 1))) (ax (ao 2) aW)))) (aR 7))
 (bR (fJ (zm BW oy (ao 3) (ax (qB [("Uncurl",ji)] "told" (qB [("Uncurl",hV)] "renamed" (qB [("Curl",kR)] "back" (ao 5) (ax (ao 2) aW)) (ax (ao 7) aW)) aW) aW)))
 (bY (dA (a9 j7 (ao 6) (dC (.int 0)))) (aR 2)))))))
 (cb (dA (NY (ao 3)))))))
noncomputable def kQ:gM:=fun ds G Q E=>∃ (rows:Rows) (m:x6),ds=[enc rows,.da [td m]]/\(Sz rows/\Dr (dJ rows))/\((Rg m (dJ rows)/\∀ G',fi G G'->E ⟨"TooMany",[]⟩ G')\/(Q8 m (dJ rows)/\∀ ts,Q (.da [.tup ts]) G))
theorem Df(ds:List D)(G:Gp)(Q:DK)(E:jz)(h:kQ ds G Q E):um E (ends Q) (aX 8 ds) G:=by
 obtain⟨rows,m,rfl,⟨sz,d⟩,h⟩:=h;unfold um;simp only [ends,aX,aj,aN,af,aq,br,aB,aG,eU,bY,dA,bK,ax,ao,aa,aW,aR,aC,av,gE];refine⟨rows,rfl,sz,fun p as G1 hr=>HR.fz hr ?_⟩;simp only [cq,i4,dE,ao,ae,aa,xS];refine⟨by decide,fun p3 f3=>⟨trivial,?_⟩⟩;simp only [aR,aC,av,cq,bY,bK,ax,ao,ae,aa,aW,dA,u4,a9,dC,fJ,zm,kM,qB,i8];refine⟨m,rfl,fun pm fm=>?_⟩;have l3:=fi.new (o:=.lst []) f3;have lm:=fi.new (o:=ob m) fm;have g3:bP (bP G p3 (.lst [])) pm (ob m) p3=some (.lst []):=lm _ _ az;have gm:Qo (bP (bP G p3 (.lst [])) pm (ob m)) pm m:=az;have L:=l3.trans lm;generalize bP (bP G p3 (.lst [])) pm (ob m)=G2 at *;simp only;refine IV gm d ?_;rcases h with ⟨b,q⟩ | ⟨g,q⟩
 ·exact .inl ⟨b,fun G' l=>q _ (L.trans l)⟩
 refine .inr ⟨g,fun q' Wq G' U0=>HR.fz U0 ⟨_,rfl,xT g,fun p4 as4 G4 Ye=>?_⟩⟩;simp only [tq,e8,Lf,OG];have szg:=xT g;have Yq:=uF (bc (Iy m (dJ rows))).flatten;have hbl:(bc (Iy m (dJ rows))).flatten.length<=24:=by rw [(sf (oM _)).perm.length_eq]; exact szg.f
 obtain⟨U9,Ni,SD⟩:=CS d;refine⟨_,_,rfl,⟨by lia,SD⟩,fun kv=>eB ?_⟩;have g34:=Ye.le _ _ g3;have gm4:=Ye.le _ _ gm;cases m with
 | cu n s f h' =>
  have c:Tc (dJ rows) n s:=g;refine⟨by rw [g34]; exact trivial,pm,_,_,_,rfl,gm4,List.mem_singleton.mpr rfl,rfl,?_⟩;refine⟨pm,n,s,f,h',dJ rows,rfl,gm4,c,fun q5 G5 l5 f5 a5=>?_⟩;refine⟨q5,_,_,_,rfl,a5,List.mem_singleton.mpr rfl,rfl,?_⟩;refine⟨q5,_,n,kv,rfl,a5,.oS,fun q6 f6=>?_⟩;refine⟨q6,_,_,_,rfl,az,List.mem_singleton.mpr rfl,rfl,?_⟩;refine⟨q6,_,rfl,az,?_⟩;have g36:bP G5 q6 (ob (DV kv (.un n))) p3=some (.lst []):=(fi.new f6) _ _ (l5 _ _ g34);have L6:fi G (bP G5 q6 (ob (DV kv (.un n)))):=L.trans (Ye.le.trans (l5.trans (.new f6)));generalize bP G5 q6 (ob (DV kv (.un n)))=G6 at *;simp only [g36];refine⟨by decide,eB ⟨trivial,?_⟩⟩;simp only [cb,dA,aG,NX,ao,ae,aa];refine⟨_,kn (.ref az),fun p7 f7=>?_⟩;have L7:=L6.put (o:=.lst [td (DV kv (.un n))]) f3;exact sR (L7.trans (.new f7)) (L7.free f7) az (zO.same _) (q _)
 | _=>exact g.elim
end OH
namespace OH
open K2.P
open K2.Mo
open K2.xy (fj)
open K2.sr (HR HR.fz en pe)
open K2.zD (M Ro Sz)
open K2.KS (dJ lH kl)
open K2.K3 (DF DF.add DF.perm ez cJ)
open K2.TM (Jf)
noncomputable def Tm:x6->Prop
 | .cu n s f h=>13<=n/\(1<=s.a/\s.a<=11/\(s.b=0\/s.b=1))/\(f=0\/f=1)/\(h=1\/h=-1)
 | .la ..=>True
 | _=>False
noncomputable def wF:fh :=
 (bR (bY (a9 iL (dC (.int 13)) (a9 kS (a9 kG (ao 0) (dC (.int 4))) (dC (.int 987)))) (aR 1))
 (bR (eE (fQ (a9 (Cb false) (a9 kS (ao 0) (dC (.int 2))) (dC (.int 0)))) (cb (dA (jJ (ax (dC (.str "curl")) (ax (ao 1) (ax (jJ (ax (a9 iL (dC (.int 1)) (a9 kS (a9 kG (ao 0) (dC (.int 3948))) (dC (.int 11)))) (ax (a9 kS (a9 kG (ao 0) (dC (.int 2))) (dC (.int 2))) aW))) (ax (a9 kS (a9 kG (ao 0) (dC (.int 43428))) (dC (.int 2))) (ax (a9 GA (dC (.int 1)) (a9 JP (dC (.int 2)) (a9 kS (a9 kG (ao 0) (dC (.int 86856))) (dC (.int 2))))) aW)))))))) cK)
 (bR (bY (a9 iL (dC (.int 13)) (a9 kS (a9 iL (ao 1) (a9 kS (a9 kG (ao 0) (dC (.int 3948))) (dC (.int 900)))) (dC (.int 987)))) (aR 2))
 (bR (eE (fQ (a9 (Cb false) (ao 2) (ao 1))) (bY (a9 iL (dC (.int 13)) (a9 kS (a9 GA (ao 1) (dC (.int 12))) (dC (.int 987)))) (aR 2)) cK)
 (bR (bY (jJ (ax (a9 iL (dC (.int 1)) (a9 kS (a9 kG (ao 0) (dC (.int 43428))) (dC (.int 11)))) (ax (a9 kS (a9 kG (ao 0) (dC (.int 2))) (dC (.int 2))) aW))) (aR 3))
 (cb (dA (jJ (ax (dC (.str "lay")) (ax (ao 1) (ax (ao 2) (ax (ao 3) (ax (ao 3) (ax (a9 kS (a9 kG (ao 0) (dC (.int 86856))) (dC (.int 2))) (ax (dC (.int 1)) aW)))))))))))))))
noncomputable def ma:gM:=fun ds G Q _=>∃ c:Int,ds=[.int c]/\∀ m:x6,Tm m->Q (td m) G
theorem Fj(ds:List D)(G:Gp)(Q:DK)(h:ma ds G Q fun _ _=>False):wF (fun _ _=>False) (ends Q) (aX 4 ds) G:=by
 obtain⟨c,rfl,q⟩:=h;unfold wF;simp only [↓cq,bY,a9,dC,ao,aX,↓aj,↓aN,↓af,↓aq,br,↓aB,↓aG,↓aa,↓jU,↓ij,↓e9,aR,eE,↓cT,↓aC,↓av,cb,dA,jJ,ax,↓ae,aW,↓qc,↓nC,ends,cK];refine⟨by decide,by decide,by decide,by decide,_,_,.int _,.int _,?_⟩;simp only [↓bu,↓ay,iG,↓if_false];split
 ·have:=q (.cu (13+c / 4 % 987) ⟨1+c / 3948 % 11,c / 2 % 2⟩ (c / 43428 % 2) (1 - 2 * (c / 86856 % 2))) ⟨by lia,⟨by show 1<=1+c / 3948 % 11; lia,by show 1+c / 3948 % 11<=11; lia,by show c / 2 % 2=0\/c / 2 % 2=1; lia⟩,by lia,by lia⟩;exact⟨by decide,by decide,by decide,by decide,by decide,by decide,by decide,by decide,by decide,by decide,by decide,by decide,by decide,.inl ⟨by decide,by decide⟩,by decide,eB this⟩
 ·refine⟨by decide,by decide,by decide,by decide,_,_,.int _,.int _,?_⟩;simp only [↓bu,↓ay,iG,↓if_false];have q2:∀ b,Q (td (.la (13+c / 4 % 987) b ⟨1+c / 43428 % 11,c / 2 % 2⟩ ⟨1+c / 43428 % 11,c / 2 % 2⟩ (c / 86856 % 2) 1)) G:=fun b=>q _ trivial;split
  ·exact⟨by decide,by decide,by decide,by decide,by decide,by decide,by decide,by decide,by decide,by decide,by decide,by decide,eB (q2 _)⟩
  ·exact⟨by decide,by decide,by decide,by decide,by decide,by decide,by decide,by decide,by decide,by decide,by decide,eB (q2 _)⟩
noncomputable def uk:fh :=
 (bR (bY (dC .dI) (aR 3))
 (bR (bY (dC .dI) (aR 4))
 (bR (NU (eE (fQ (ao 2)) (Ja kQ (ax (ao 0) (ax (ao 1) aW)) 4 5 ["TooMany"] (bY (ao 5) (aR 3))) (Ja n8 (ax (ao 0) (ax (ao 1) aW)) 4 5 ["TooMany"] (bY (ao 5) (aR 3)))))
 (cb (dA (jJ (ax (ao 4) (ax (ao 3) aW))))))))
noncomputable def kP:gM:=fun ds G Q _=>∃ (rows:Rows) (m:x6) (b:Bool),ds=[enc rows,.da [td m],.bl b]/\(Sz rows/\Dr (dJ rows)) /\
 ((Rg m (dJ rows)/\Q (.tup [.dI,.exc "TooMany"]) G)\/(Q8 m (dJ rows)/\∀ x,(b=true->∃ ts,x=.da [.tup ts])->(b=false->x=enc (dJ (Iy m (dJ rows))))->Q (.tup [x,.dI]) G))
theorem De(ds:List D)(G:Gp)(Q:DK)(h:kP ds G Q fun _ _=>False):uk (fun _ _=>False) (ends Q) (aX 6 ds) G:=by
 obtain⟨rows,m,b,rfl,hz,h⟩:=h;unfold uk;have e1:(["TooMany"]:List Str).contains "TooMany" = true:=by decide
 simp only [↓cq,bY,dC,aR,NU,eE,↓cT,ao,aX,↓aj,↓aN,↓af,↓aq,br,↓aB,↓aG,↓aC,↓av,↓ae,↓aa,↓bu,Ja,ax,aW,cb,dA,jJ,ends];rcases h with ⟨bd,q⟩ | ⟨g,q⟩
 ·cases b with
  | true=>exact⟨rows,m,rfl,hz,.inl ⟨bd,fun _ _=>⟨e1,by decide,eB q⟩⟩⟩
  | false=>exact⟨rows,m,rfl,hz,.inl ⟨bd,fun _ _=>⟨e1,by decide,eB q⟩⟩⟩
 ·cases b with
  | true=>exact⟨rows,m,rfl,hz,.inr ⟨g,fun ts=>⟨by decide,eB (q _ (fun _=>⟨ts,rfl⟩) fun z=>by cases z)⟩⟩⟩
  | false=>exact⟨rows,m,rfl,hz,.inr ⟨g,⟨by decide,eB (q _ (fun z=>by cases z) fun _=>rfl)⟩⟩⟩
theorem Vw{d:D}(h:Pl d):ip d d=true:=by
 rcases h with ⟨i,rfl⟩ | ⟨ns,rfl⟩
 ·rw [iG]; simp
 ·rw [SY]; simp
theorem NH:∀ as:List D,(∀ a∈as,Pl a)->i3 as as=true
 | [],_=>rfl
 | a :: as,h=>by rw [kZ,Vw (h a bo),NH as fun x hx=>h x (aK _ hx)]; rfl
theorem LY(G:Gp):∀ as:List D,(∀ a∈as,Pl a)->Sn G 7 (.tup as) (.tup as)
 | [],_=>.BX
 | a :: as,h=>.l8 (by rcases h a bo with ⟨i,rfl⟩ | ⟨ns,rfl⟩; exact .int i; exact .tI ns) (LY G as fun x hx=>h x (aK _ hx))
theorem QC{m:x6}{p:Nat}{G:Gp}{Q:DK}(g:G p=some (.lst [td m]))(q:Q (.bl false) G):Cb true (.da [td m]) (.ref p) G Q:=by
 have h1:Sn G 7 (td m) (td m):=.l8 (.str _ (T1 m)) (LY G _ (Q0 m));have h2:ip (.da [td m]) (.da [td m])=true:=by
  show (i3 (.str (wd m) :: ar m) (.str (wd m) :: ar m)&&true)=true;rw [kZ,NH _ (Q0 m)];show ((wd m == wd m)&&true&&true)=true;simp
 exact⟨_,_,.wH h1 .DR,.ref g (.wH h1 .DR),by rw [h2]; exact q⟩
noncomputable def Md:fh :=
 (bR (bY (a9 iL (dC (.int 11)) (a9 kS (bK en (ax (ao 0) (ax (dC (.int 0)) aW))) (dC (.int 2)))) (aR 1))
 (bR (bY (gE (ax (gE aW) aW)) (aR 2))
 (bR (NZ 2 (i4 (Em (ao 1)) (aR 3) (fJ (bK kO (ax (ao 2) (ax (bK en (ax (ao 0) (ax (a9 iL (dC (.int 3)) (ao 3)) aW))) aW))))))
 (bR (bY (bK ma (ax (bK en (ax (ao 0) (ax (dC (.int 1)) aW))) aW)) (aR 4))
 (bR (bY (dA (gE (ax (ao 4) aW))) (aR 5))
 (bR (i4 (kW (jJ (ax (dC (.bl false)) (ax (dC (.bl true)) aW)))) (aR 6) (bR (bY (bK kP (ax (dA (gX 1 [] (kW (ao 2)) (aR 0) none (nS u7 (ax (ao 0) aW)))) (ax (dA (ao 5)) (ax (dA (ao 6)) aW)))) (CA (lN (aR 7) (lN (aR 8) z4))))
 (bR (eE (fQ (a9 (Cb true) (ao 5) (gE (ax (ao 4) aW)))) (cb (dA (dC (.bl false)))) cK)
 (eE (NV (fQ (a9 (Cb false) (ao 1) (dC (.int 12)))) (fQ (a9 (Cb false) (a9 j7 (ao 4) (dC (.int 0))) (dC (.str "lay"))))) (eE (NV (rJ (fQ (EY ["TooMany"] ["TooMany"] (ao 8)))) (NV (rJ (fQ (Jd ["TooMany"] (ao 8)))) (fQ (EY ["TooMany"] [] (ao 8))))) (cb (dA (dC (.bl false)))) cK) (eE (NV (fQ (TG (Mh true) (ao 8))) (NV (rJ (fQ (P9 "list" (ao 7)))) (fQ (a9 (Cb true) (nS kD (ax (ao 7) aW)) (dC (.int 1)))))) (cb (dA (dC (.bl false)))) (eE (NV (Hw (fQ (ao 6)) (rJ (fQ (P9 "tuple" (a9 j7 (ao 7) (dC (.int 0))))))) (Hw (rJ (fQ (ao 6))) (fQ (a9 (Cb true) (nS kD (ax (bK cJ (ax (ao 7) aW)) aW)) (dC (.int 12)))))) (cb (dA (dC (.bl false)))) cK))))))
 (cb (dA (dC (.bl true))))))))))
theorem Ta(ds:List D)(G:Gp)(Q:DK)(h:AN ds G Q fun _ _=>False):Md (fun _ _=>False) (ends Q) (aX 9 ds) G:=by
 obtain⟨ns,rfl,uR,hG,q⟩:=h;unfold Md;simp only [ends,aX,aj,aN,af,aq,br,aB,aG,eU,bY,a9,dC,bK,ax,ao,aa,aW,aR,aC,av,gE];refine⟨ns,0,rfl,by decide,?_⟩;simp only [ij,e9];refine⟨by decide,?_⟩;have k1:11<=11+pe ns 0 % 2:=by lia
 have k2:11+pe ns 0 % 2<=12:=by lia
 generalize 11+pe ns 0 % 2=k at *;refine⟨by decide,fun p1 f1=>⟨by decide,fun p0 f0=>?_⟩⟩;have ne:p1≠p0:=fun e=>by subst e; rw [az] at f0; cases f0
 have hr0:HR G (bP (bP G p1 (.lst [])) p0 (.lst [.ref p1])) p0 [p1] [[]]:=by
  refine⟨(fi.new f1).trans (.new f0),(fi.new f1).free f0,az,fun z=>ne (List.mem_singleton.mp z).symm,by simp,fun a ha=>by rw [List.mem_singleton.mp ha]; exact f1,rfl,fun i b r hb hr=>?_⟩;cases i with
  | zero =>
   simp at hb hr;subst hb hr;rw [c4 ne,az]; rfl
  | succ i=>simp at hb
 generalize bP (bP G p1 (.lst [])) p0 (.lst [.ref p1])=G1 at *;refine kz (fun τ G'=>G=G'/\∃ (a:Option D) (rows:Rows),τ=[some (.da (ns.map D.int)),some (.int k),some (enc rows),a,none,none,none,none,none]/\Dr rows/\rows.length=1/\rows.flatten.length=2 * k.toNat) ?_ ?_
 ·intro N hN;simp only [NZ,i4,qt,ao,ae,aa,nu];refine⟨by lia,by lia,?_⟩;unfold jT;refine iU (xs:=ft k.toNat) (f:=fun i:Nat=>D.int (0+(i:Int))) (fun ks τ G'=>(∃ a,τ=[some (.da (ns.map D.int)),some (.int k),some (.ref p0),a,none,none,none,none,none])/\∃ rows:Rows,HR G G' p0 [p1] rows/\DF rows.flatten/\rows.flatten.length=2 * ks.length/\rows.length=1) ⟨⟨_,rfl⟩,[[]],hr0,⟨by simp,by simp,by simp,by simp⟩,rfl,rfl⟩ (fun _ _ _ _=>trivial) ?_ ?_
  ·rintro ks w post τ G' N2 e ⟨⟨a,rfl⟩,rows,hr,df,fl,rl⟩ Dx;have V9:ks.length < k.toNat/\w=ks.length:=by
    have h1:=congrArg dO e;rw [fx,aO,af] at h1;have h2:=congrArg (fun l=>l[ks.length]?) e;simp only [bQ (aQ _),Nat.sub_self,aa] at h2;rw [List.getElem?_range (by lia)] at h2;exact⟨by lia,(ba h2).symm⟩
   simp only [aR,fJ,bK,ax,ao,aC,av,ae,aa,a9,dC,aW,e9];refine⟨ns,_,rfl,by lia,?_⟩;refine⟨G,p0,[p1],rows,_,rfl,hr,⟨by lia,by lia,by lia⟩,fun ue m hd G4 h1 h2 h3 h4 h5=>?_⟩;refine Dx _ _ ⟨⟨_,rfl⟩,ue,h5,(df.add h3 h4).perm h2,?_,by lia⟩;have:=h2.length_eq;rw [af,af] at this;rw [aO,gq]; lia
  ·rintro τ G' ⟨⟨a,rfl⟩,rows,hr,df,fl,rl⟩;rw [fx] at fl;exact hr.fz (hN _ _ ⟨rfl,a,rows,rfl,⟨df.nd,df.way,df.hand,df.zX,by lia,by lia⟩,rl,fl⟩)
 rintro _ _ ⟨rfl,a3,rows,rfl,d,rl,fl⟩;simp only [eU,bY,bK,ax,ao,aa,dC,aW,aR,aC,av,dA,gE,ae,af,aq];refine⟨ns,1,rfl,by decide,?_⟩;refine⟨_,rfl,fun m tm=>?_⟩;simp only;refine⟨by decide,fun p2 f2=>sR (.new f2) f2 az (zO.same _) ?_⟩;have hnm:(names rows).length=k.toNat:=by have:=OI.twice d; lia
 have dm:=IU d;have acg:(names (dJ rows)).length=k.toNat:=by have:=OI.twice dm; rw [nH] at this; lia
 have sz:Sz rows:=⟨by lia,by lia⟩;refine kz (fun τ G'=>∃ a6 a7 a8,τ=[some (.da (ns.map D.int)),some (.int k),some (enc rows),a3,some (td m),some (.da [td m]),a6,a7,a8]) ?_ ?_
 ·intro N hN;simp only [i4,dE,jJ,ax,dC,aW,af,aq,Ct];refine⟨by decide,?_⟩;rw [show ([D.bl false,D.bl true]:List D)=[false,true].map D.bl from rfl];refine iU (xs:=[false,true]) (fun pre τ G'=>∃ a6 a7 a8,τ=[some (.da (ns.map D.int)),some (.int k),some (enc rows),a3,some (td m),some (.da [td m]),a6,a7,a8]) ⟨_,_,_,rfl⟩ (fun _ _ _ _=>trivial) ?_ fun _ _ h=>hN _ _ h;rintro pre b post τ G' N2 e ⟨a6,a7,a8,rfl⟩ Dx;simp only [aR,aC,av,cq,bY,bK,ax,dA,gX,ao,ae,aa,aW,dE];refine Jf (by lia) fun G2 p5 as5 hr5=>HR.fz hr5 (eB (eB ?_));refine⟨rows,m,b,rfl,⟨sz,dm⟩,?_⟩;by_cases hb:Rg m (dJ rows)
  ·refine .inl ⟨hb,?_⟩;simp only [CA,lN,aR,z4,↓cq,eE,↓cT,a9,ao,↓aC,↓av,↓ae,↓aa,gE,ax,aW,↓af,↓aq,cb,dA,dC,cK,NV,rJ,↓if_true,TG,Hw,↓bu,↓xV,nS,bK,↓ay,↓if_false];refine⟨by decide,fun p6 f6=>QC az ?_⟩;have e1:(["TooMany"]:List Str).contains "TooMany" = true:=by decide
   by_cases hk:k=12
   ·subst hk;refine⟨_,_,.int _,.int _,?_⟩;simp only [↓bu,↓ay,iG,beq_self_eq_true,↓cR,↓if_false,EY,ao,↓ae,↓aa,Jd,↓if_true];refine⟨e1,?_⟩;rw [if_neg (by rw [e1]; decide)];exact⟨e1,e1,Dx _ _ ⟨_,_,_,rfl⟩⟩
   ·cases m with
    | la a b' o u t h' =>
     refine⟨_,_,.int _,.int _,?_⟩;have Dv:(k == 12)=false:=by simpa using hk
     simp only [↓bu,↓ay,iG,Dv,↓bO,↓if_false,td,wd,ar,↓e8,Lf];refine TC ?_;simp only [↓bu,↓bO,EY,ao,↓ae,↓aa,Jd,↓cR,↓ay,↓if_false,↓if_true];refine⟨e1,?_⟩;rw [if_neg (by rw [e1]; decide)];exact⟨e1,e1,Dx _ _ ⟨_,_,_,rfl⟩⟩
    | cu n s f h'=>exact absurd (show k=12 by have:(names (dJ rows)).length=12:=hb; lia) hk
    | _=>exact tm.elim
  ·have hg:Q8 m (dJ rows):=by
    cases m with
    | cu n s f h' =>
     obtain⟨t1,⟨t2,t3,t4⟩,t5,t6⟩:=tm;have hk:k=11:=by
      have:¬ (names (dJ rows)).length=12:=hb;lia
     refine⟨dm,by rw [nH]; lia,J4 d t2 (by lia) t4,fun p hp z=>?_⟩;have:p.a∈ez (dJ rows):=K3.jX.mpr (List.mem_map.mpr ⟨p,hp,rfl⟩);rw [lH,oz d] at this;obtain⟨i,hi,e⟩:=List.mem_map.mp this;rw [List.mem_range] at hi;lia
    | la a b' o u t h'=>exact absurd (show 11<=(names (dJ rows)).length by lia) hb
    | _=>exact tm.elim
   refine .inr ⟨hg,fun x x1 x2=>?_⟩;simp only [CA,lN,aR,z4,↓cq,eE,↓cT,a9,ao,↓aC,↓av,↓ae,↓aa,gE,ax,aW,↓af,↓aq,cb,dA,dC,cK,NV,rJ,↓if_true,TG,Hw,↓bu,↓xV,nS,bK,↓ay,↓if_false];refine⟨by decide,fun p6 f6=>QC az ?_⟩;cases m with
   | cu n s f h' =>
    have Dv:(k == 12)=false:=by
     have:¬ (names (dJ rows)).length=12:=hb;simp; lia
    refine⟨_,_,.int _,.int _,?_⟩;simp only [↓bu,↓ay,iG,Dv,↓bO,↓if_false,td,wd,ar,↓e8,Lf];refine MI ?_;simp only [↓bu,↓ay,Mh,↓cR,↓if_false];cases b with
    | true =>
     obtain⟨ts,rfl⟩:=x1 rfl;unfold isAt PR;simp only [↓bu,beq_self_eq_true,↓cR,↓ay,↓va,↓af,↓aq,↓qe,↓if_false,↓if_true];refine⟨_,_,.int _,.int _,?_⟩;exact Dx _ _ ⟨_,_,_,rfl⟩
    | false =>
     obtain rfl:=x2 rfl;obtain⟨t1,⟨t2,t3,t4⟩,t5,t6⟩:=tm;have c:Tc (dJ rows) n s:=hg;have dR:Dr (Iy (.cu n s f h') (dJ rows)):=(Qb c.d c.hs c.fr t5 t6 c.OE).ro (kl _);have szR:=xT hg;have hR1:(dJ (Iy (.cu n s f h') (dJ rows))).length=1:=by
      rw [yD];show ((uA s (cps n f h') (dJ rows) 0).map fj).length=1;rw [ai,qX,yD,rl]
     have hR2:(ez (dJ (Iy (.cu n s f h') (dJ rows)))).length=12:=by
      rw [lH,ai,fx,oz dR];have h1:=OI.twice dR;have h2:(Iy (.cu n s f h') (dJ rows)).flatten.length=24:=by
       show ((uA s (cps n f h') (dJ rows) 0).map fj).flatten.length=24;rw [(kl (uA s (cps n f h') (dJ rows) 0)).perm.length_eq,(ux (ps:=cps n f h') c.d.dn (Tj c.hs)).length_eq,aO,nH,fl];show 2+_=24;have:¬ (names (dJ rows)).length=12:=hb;lia
      lia
     have hR3:=nH (Iy (.cu n s f h') (dJ rows));have hR4:=szR.f;generalize dJ (Iy (.cu n s f h') (dJ rows))=R at *;show isAt "list" (.da _) _ _;unfold isAt PR;simp only [↓bu,beq_self_eq_true,↓cR,↓ay,↓bO,↓if_true,↓if_false];refine jw (IsL.enc R) ?_;rw [ai,hR1];refine⟨_,_,.int _,.int _,?_⟩;simp only [↓bu,iG,↓if_true];refine⟨_,R,rfl,K3.KU.enc R,by lia,?_⟩;refine jw (IsL.enc (ez R)) ?_;rw [ai,hR2];refine⟨_,_,.int _,.int _,?_⟩;simp only [↓bu,iG,↓if_true];exact Dx _ _ ⟨_,_,_,rfl⟩
   | _=>exact hg.elim
 ·rintro _ _ ⟨a6,a7,a8,rfl⟩;simp only [cb,dA,dC];exact eB (q _)
end OH
end K2
end
namespace Fin
open PySem PySem.Spec PyProof.Rows L2 K2
open K2.sr (en qP)
open K2.K3 (cX cJ)
open K2.KS (ni Bp cj qM fX nU eX w4 eL zy)
open K2.zD (gb qO ig qN fy pf hO sk fA ph)
open K2.OH
open K2.Mo
open K2.P
section
variable {P:bx} {w:World} {K:ag} {mg:Str->Option Value} {base:Heap}
seal oN Bo gR x5
theorem DQ:bF ["_law_script","_law_k"] ["_law_script","_law_k"] (aH (top 59)):=n4
theorem EB {f:Addr} {fd:ak} (F:kg K "_law_cell" "_law_cell" (top 59) f fd) (dc:mg "len" = none):cU P w K mg base ff 1 f fd ["_law_script","_law_k"] (cx K en) :=
 tJ F DQ qP fun _ _ _ _ _ _ hr=>have hu:=hr.units; have X7:=hr.Rn; (aE (eM (c5 (RS X7) (bp 1) (c8 eI rfl dc jx (ah (bp 0) aF)) (hU _)) (aI (bI (bG (cy hu (bp 0) (bp 1) (fun _ _=>rfl))))) cP)
 (aI (bI (bG aJ))))
theorem zS:bF ["_law_cell_here"] ["_law_cell_here"] (aH (top 62)):=n4
theorem z7 {f:Addr} {fd:ak} (F:kg K "_law_digits" "_law_digits" (top 62) f fd):cU P w K mg base ff 1 f fd ["_law_cell_here"] (cx K j6) :=
 tJ F zS AE fun _ _ _ _ _ _ hr=>have hu:=hr.units; (aE (eM (c5 (lG hu) (bB ee (bp 0) aJ) aJ (hU _)) (aI (bI (bG (bB fF (bp 0) aJ)))) cP)
 (aI (bI (bG (bB ee (bB xO (bB ee (bB dD (bB xO (bp 0) aJ) aJ) aJ) aJ) aJ)))))
theorem tZ:bF ["_law_rows","_law_used","_law_row","_law_passing"] ["_law_rows"] (aH (top 60)):=n4
theorem CC {f:Addr} {fd:ak} (F:kg K "_law_names" "_law_names" (top 60) f fd) (lp:mg "sorted" = none):cU P w K mg base ff 1 f fd ["_law_rows"] (cx K cJ) :=
 tJ F tZ C9 fun _ _ _ _ _ _ hr=>have nd:=tZ.nd; have hu:=hr.units; (aE (mj (i:=1) nd rfl (eF aF))
 (aE (gA cS rfl (dZ (bp 0)) (tH (i:=2) nd rfl) (aI (gA cS rfl (dZ (bp 2)) (tH (i:=3) nd rfl) (aI (eM (c5 (vH hu) (cy hu (bp 3) aJ (fun _ _=>rfl)) (bp 1) (by with_unfolding_all rfl)) (aI (gU (mI cA jC jB jf oq (bp 1) (ah (cy hu (bp 3) aJ (fun _ _=>rfl)) aF)))) cP)))))
 (aI (bI (bG (c8 (sg rfl hu) rfl lp Bi (ah (bp 1) aF)))))))
theorem t7:bF ["_law_rows","_law_cell_here","_law_rest","_law_name_here","_law_hand","_law_way","_law_row"] ["_law_rows","_law_cell_here"] (aH (top 63)):=n4
theorem CD {f:Addr} {fd:ak} (F:kg K "_law_cross" "_law_cross" (top 63) f fd) (dc:mg "len" = none) (jm:mg "range" = none) {CN:Addr} {CY:ak} (k8:nW P w K mg base ff 1 CN CY "_law_digits" ["_law_cell_here"] (cx K j6)) {qu:Addr} {qy:ak} (fL:nW P w K mg base ff 1 qu qy "_law_names" ["_law_rows"] (cx K cJ)):cU P w K mg base ff 2 f fd ["_law_rows","_law_cell_here"] (cx K kO) :=
 tJ F t7 Dc fun _ _ _ _ _ _ hr=>have nd:=t7.nd; have hu:=hr.units; (aE (mj (i:=2) nd rfl (bH k8.ok (hr.mono (by decide)) rfl k8.mg k8.kp k8.bi (ah (bp 1) aF)))
 (aE (mj (i:=3) nd rfl (bB dD aJ (bB ee (bp 2) aJ)))
 (aE (JT cS (c5 (Ci hu) (bp 3) (bH fL.ok (hr.mono (by decide)) rfl fL.mg fL.kp fL.bi (ah (bp 0) aF)) (by with_unfolding_all rfl)) (aI (mj (i:=3) nd rfl (bB dD (bB ee (bp 3) aJ) aJ))))
 (aE (mj (i:=4) nd rfl (bB uC (bB xO aJ (bB ee (bB fF (bp 2) aJ) aJ)) aJ))
 (aE (mj (i:=2) nd rfl (bB fF (bp 2) aJ))
 (aI (gA cS rfl (sG rfl jm aJ) (tH (i:=5) nd rfl) (aE (mj (i:=6) nd rfl (cy hu (bp 0) (bB ee (bp 2) (c8 eI rfl dc jx (ah (bp 0) aF))) (fun _ _=>rfl)))
 (aE (mj (i:=2) nd rfl (bB fF (bp 2) (c8 eI rfl dc jx (ah (bp 0) aF))))
 (aE (gU (mI cA PySem.F.slot_list_insert PySem.F.type_list_insert jf GK (bp 6) (ah (bB ee (bp 2) (bB dD (c8 eI rfl dc jx (ah (bp 6) aF)) aJ)) (ah (gB (ah (bp 3) (ah (bp 5) (ah (bp 4) aF)))) aF))))
 (aI (mj (i:=2) nd rfl (bB fF (bp 2) (c8 eI rfl dc jx (ah (bp 6) aF)))))))))))))))
theorem wz:bF ["_law_cell_here","_law_name_here","_law_second","_law_spot"] ["_law_cell_here"] (aH (top 64)):=n4
theorem EA {f:Addr} {fd:ak} (F:kg K "_law_told" "_law_told" (top 64) f fd):cU P w K mg base ff 1 f fd ["_law_cell_here"] (cx K ma) :=
 tJ F wz Fj fun _ _ _ _ _ _ hr=>have nd:=wz.nd; have hu:=hr.units; (aE (mj (i:=1) nd rfl (bB dD aJ (bB ee (bB fF (bp 0) aJ) aJ)))
 (aE (eM (c5 (lG hu) (bB ee (bp 0) aJ) aJ (hU _)) (aI (bI (bG (gB (ah jk (ah (bp 1) (ah (gB (ah (bB dD aJ (bB ee (bB fF (bp 0) aJ) aJ)) (ah (bB ee (bB fF (bp 0) aJ) aJ) aF))) (ah (bB ee (bB fF (bp 0) aJ) aJ) (ah (bB uC aJ (bB xO aJ (bB ee (bB fF (bp 0) aJ) aJ))) aF))))))))) cP)
 (aE (mj (i:=2) nd rfl (bB dD aJ (bB ee (bB dD (bp 1) (bB ee (bB fF (bp 0) aJ) aJ)) aJ)))
 (aE (eM (c5 (lG hu) (bp 2) (bp 1) (hU _)) (aI (mj (i:=2) nd rfl (bB dD aJ (bB ee (bB uC (bp 1) aJ) aJ)))) cP)
 (aE (mj (i:=3) nd rfl (gB (ah (bB dD aJ (bB ee (bB fF (bp 0) aJ) aJ)) (ah (bB ee (bB fF (bp 0) aJ) aJ) aF))))
 (aI (bI (bG (gB (ah jk (ah (bp 1) (ah (bp 2) (ah (bp 3) (ah (bp 3) (ah (bB ee (bB fF (bp 0) aJ) aJ) (ah aJ aF))))))))))))))))
theorem pU:bF ["lists","picked","members","longer","ahead"] ["lists"] (aH (top 43)):=n4
theorem za {f:Addr} {fd:ak} (F:kg K "one_of_each" "one_of_each" (top 43) f fd):cU P w K mg base ff 1 f fd ["lists"] (cx K gb) :=
 tJ F pU qO fun _ _ _ _ _ _ hr=>have nd:=pU.nd; (aE (mj (i:=1) nd rfl (bG (eF (ah (eF aF) aF))))
 (aE (gA cS rfl (dZ (bp 0)) (tH (i:=2) nd rfl) (aE (mj (i:=3) nd rfl (eF aF))
 (aE (gA cS rfl (dZ (bp 1)) (tH (i:=4) nd rfl) (aI (gU (mI cA Fq Fp jf yC (bp 3) (ah (jl ["member","ahead"] (sc:=aH (top 43)) (XN:=["lists","picked","members","longer","ahead"]) (dZ (bp 2)) (fun _ _ _ _=>(tH (i:=0) (show (["member","ahead"]:List Str).Nodup by decide +kernel) rfl)) (fun _ _ _ _=>.none) (fun _ _ _ _=>(bG (bB dD (bp 1) (eF (ah (bp 0) aF)))))) aF)))))
 (aI (mj (i:=1) nd rfl (bG (bp 3)))))))
 (aI (bI (bG (bp 1))))))
theorem zT:bF ["row"] ["row"] (aH (top 48)):=n4
theorem z8 {f:Addr} {fd:ak} (F:kg K "beginnings" "beginnings" (top 48) f fd) (dc:mg "len" = none) (jm:mg "range" = none):cU P w K mg base ff 1 f fd ["row"] (cx K hO) :=
 tJ F zT sk fun _ _ _ _ _ _ hr=>(aE (eM (mi (gc (bp 0))) (aI (bI (bG (eF (ah (eF aF) aF))))) cP)
 (aI (bI (bG (jl ["start","row"] (sc:=aH (top 48)) (XN:=["row"]) (sG rfl jm (c8 eI rfl dc jx (ah (bp 0) aF))) (fun _ _ _ _=>(tH (i:=0) (show (["start","row"]:List Str).Nodup by decide +kernel) rfl)) (fun _ _ _ _=>.none) (fun _ _ _ _=>(bG (bB dD (jW (bp 1) (lC (bp 0)) lD) (jW (bp 1) lD (lC (bp 0)))))))))))
theorem pT:bF ["rows","passings","row"] ["rows"] (aH (top 10)):=n4
theorem y9 {f:Addr} {fd:ak} (F:kg K "passings_of" "passings_of" (top 10) f fd):cU P w K mg base ff 1 f fd ["rows"] (cx K fZ) :=
 tJ F pT zB fun _ _ _ _ _ _ hr=>have nd:=pT.nd; (aE (mj (i:=1) nd rfl (eF aF))
 (aE (gA cS rfl (dZ (bp 0)) (tH (i:=2) nd rfl) (aI (gU (mI cA Fq Fp jf yC (bp 1) (ah (bp 2) aF)))))
 (aI (bI (bG (bp 1))))))
theorem oR:bF ["rows","numbers","passing"] ["rows"] (aH (top 49)):=n4
theorem xj {f:Addr} {fd:ak} (F:kg K "names_as_met" "names_as_met" (top 49) f fd) (dc:mg "len" = none) {mQ:Addr} {mS:ak} (eg:nW P w K mg base ff 1 mQ mS "passings_of" ["rows"] (cx K fZ)):cU P w K mg base ff 2 f fd ["rows"] (cx K fA) :=
 tJ F oR ph fun _ _ _ _ _ _ hr=>have nd:=oR.nd; have hu:=hr.units; (aE (mj (i:=1) nd rfl Pm)
 (aE (gA cS rfl (dZ (bH eg.ok (hr.mono (by decide)) rfl eg.mg eg.kp eg.bi (ah (bp 0) aF))) (tH (i:=2) nd rfl) (aI (eM (c5 (vH hu) (cy hu (bp 2) aJ (fun _ _=>rfl)) (bp 1) (by with_unfolding_all rfl)) (aI (xM (bB dD (c8 eI rfl dc jx (ah (bp 1) aF)) aJ) (Cf hu (bp 1) (cy hu (bp 2) aJ (fun _ _=>rfl))))) cP)))
 (aI (bI (bG (bp 1))))))
theorem AP:bF ["row","start"] ["row"] (aH (top 11)):=n4
theorem Kw {f:Addr} {fd:ak} (F:kg K "seated" "seated" (top 11) f fd) (vJ:mg "min" = none):cU P w K mg base ff 1 f fd ["row"] (cx K ni) :=
 tJ F AP Bp fun _ _ _ _ _ _ hr=>have nd:=AP.nd; have hu:=hr.units; (aE (eM (mi (gc (bp 0))) (aI (bI (bG (eF aF)))) cP)
 (aE (mj (i:=1) nd rfl (mI cA pN FQ jf (AX hu) (bp 0) (ah (c8 (KI rfl hu) rfl vJ S4 (ah (bp 0) aF)) aF)))
 (aI (bI (bG (bB dD (jW (bp 0) (lC (bp 1)) lD) (jW (bp 0) lD (lC (bp 1)))))))))
theorem yj:bF ["rows"] ["rows"] (aH (top 12)):=n4
theorem y4 {f:Addr} {fd:ak} (F:kg K "seated_rows" "seated_rows" (top 12) f fd) {NG:Addr} {NS:ak} (u6:nW P w K mg base ff 1 NG NS "seated" ["row"] (cx K ni)):cU P w K mg base ff 2 f fd ["rows"] (cx K cj) :=
 tJ F yj qM fun _ _ _ _ _ _ hr=>(aI (bI (bG (jl ["row"] (sc:=aH (top 12)) (XN:=["rows"]) (dZ (bp 0)) (fun _ _ _ _=>(tH (i:=0) (show (["row"]:List Str).Nodup by decide +kernel) rfl)) (fun _ _ _ _=>.none) (fun _ _ _ _=>(bH u6.ok (hr.mono (by decide)) rfl u6.mg u6.kp u6.bi (ah (bp 0) aF)))))))
theorem yk:bF ["row","names"] ["row","names"] (aH (top 45)):=n4
theorem y7 {f:Addr} {fd:ak} (F:kg K "renamed_row" "renamed_row" (top 45) f fd):cU P w K mg base ff 1 f fd ["row","names"] (cx K ig) :=
 tJ F yk qN fun _ _ _ _ _ _ hr=>have hu:=hr.units; (aI (bI (bG (jl ["name","way","hand","names"] (sc:=aH (top 45)) (XN:=["row","names"]) (dZ (bp 0)) (fun _ _ _ _=>(Ce rfl (jV (tH (i:=0) (show (["name","way","hand","names"]:List Str).Nodup by decide +kernel) rfl) (jV (tH (i:=1) (show (["name","way","hand","names"]:List Str).Nodup by decide +kernel) rfl) (jV (tH (i:=2) (show (["name","way","hand","names"]:List Str).Nodup by decide +kernel) rfl) yv))) (jY (jY (jY y2))))) (fun _ _ _ _=>.none) (fun _ _ _ _=>(gB (ah (cy hu (bp 3) (bp 0) (fun _ _=>rfl)) (ah (bp 1) (ah (bp 2) aF)))))))))
theorem xc:bF ["drawing","names"] ["drawing","names"] (aH (top 46)):=n4
theorem xi {f:Addr} {fd:ak} (F:kg K "renamed_rows" "renamed_rows" (top 46) f fd) {Aa:Addr} {Ah:ak} (ka:nW P w K mg base ff 1 Aa Ah "renamed_row" ["row","names"] (cx K ig)):cU P w K mg base ff 2 f fd ["drawing","names"] (cx K fy) :=
 tJ F xc pf fun _ _ _ _ _ _ hr=>(aI (bI (bG (jl ["row","names"] (sc:=aH (top 46)) (XN:=["drawing","names"]) (dZ (bp 0)) (fun _ _ _ _=>(tH (i:=0) (show (["row","names"]:List Str).Nodup by decide +kernel) rfl)) (fun _ _ _ _=>.none) (fun _ _ _ _=>(bH ka.ok (hr.mono (by decide)) rfl ka.mg ka.kp ka.bi (ah (bp 0) (ah (bp 1) aF))))))))
theorem nq:bF ["rows","names"] ["rows"] (aH (top 50)):=n4
theorem vV {f:Addr} {fd:ak} (F:kg K "settling_from" "settling_from" (top 50) f fd) {zd:Addr} {zj:ak} (jv:nW P w K mg base ff 2 zd zj "names_as_met" ["rows"] (cx K fA)) {iN:Addr} {iO:ak} (ck:nW P w K mg base ff 2 iN iO "seated_rows" ["rows"] (cx K cj)) {zc:Addr} {zi:ak} (ju:nW P w K mg base ff 2 zc zi "renamed_rows" ["drawing","names"] (cx K fy)):cU P w K mg base ff 3 f fd ["rows"] (cx K fX) :=
 tJ F nq nU fun _ _ _ _ _ _ hr=>have nd:=nq.nd; (aE (mj (i:=1) nd rfl (bH jv.ok (hr.mono (by decide)) rfl jv.mg jv.kp jv.bi (ah (bp 0) aF)))
 (aI (bI (bG (gB (ah (bH ck.ok (hr.mono (by decide)) rfl ck.mg ck.kp ck.bi (ah (bH ju.ok (hr.mono (by decide)) rfl ju.mg ju.kp ju.bi (ah (bp 0) (ah (bp 1) aF))) aF)) (ah (bp 1) aF)))))))
theorem wy:bF ["drawing","made"] ["drawing"] (aH (top 51)):=n4
theorem Ey {f:Addr} {fd:ak} {Pt:Addr} {ct:Addr} (hl:Dk mg base ct Pt) (zL:fd.code=.ref ct) (F:kg K "settling" "settling" (top 51) f fd) (vJ:mg "min" = none) {Ab:Addr} {Ap:ak} (kc:nW P w K mg base ff 1 Ab Ap "one_of_each" ["lists"] (cx K gb)) {CO:Addr} {CZ:ak} (k9:nW P w K mg base ff 1 CO CZ "beginnings" ["row"] (cx K hO)) {xl:Addr} {xo:ak} (iW:nW P w K mg base ff 3 xl xo "settling_from" ["rows"] (cx K fX)):cU P w K mg base ff 4 f fd ["drawing"] (kj (Tb Pt "settling.<locals>.<lambda>") K eX) :=
 Wk F wy w4 fun _ _ _ _ _ _ hc hT hr=>by
  have e:=zL.symm.trans hc; subst e; have nd:=wy.nd; exact(aE (Io (Mn ["rows"] (sc:=aH (top 51)) (XN:=["drawing","made"]) (i:=1) nd rfl rfl (dZ (bH kc.ok (hr.mono (by decide)) rfl kc.mg kc.kp kc.bi (ah (bG (jl ["row"] (sc:=aH (top 51)) (XN:=["drawing","made"]) (dZ (bp 0)) (fun _ _ _ _=>(tH (i:=0) (show (["row"]:List Str).Nodup by decide +kernel) rfl)) (fun _ _ _ _=>.none) (fun _ _ _ _=>(bH k9.ok (hr.mono (by decide)) rfl k9.mg k9.kp k9.bi (ah (bp 0) aF))))) aF))) (fun _ _ _ _=>(tH (i:=0) (show (["rows"]:List Str).Nodup by decide +kernel) rfl)) (fun _ _ _ _=>.none) (fun _ _ _ _=>(bH iW.ok (hr.mono (by decide)) rfl iW.mg iW.kp iW.bi (ah (bp 0) aF)))))
 (aI (bI (bG (MA hT (Dk.lam hl) (hr.mono (by decide)) rfl vJ (bp 1))))))
theorem Gx:bF ["drawing"] ["drawing"] (aH (top 52)):=n4
theorem Hm {f:Addr} {fd:ak} {Pt:Addr} (F:kg K "settled" "settled" (top 52) f fd) {sV:Addr} {sZ:ak} (gK:nW P w K mg base ff 4 sV sZ "settling" ["drawing"] (kj (Tb Pt "settling.<locals>.<lambda>") K eX)):cU P w K mg base ff 5 f fd ["drawing"] (kj (Tb Pt "settling.<locals>.<lambda>") K eL) :=
 Wk F Gx zy fun _ _ _ _ _ _ _ hT hr=>have hu:=hr.units; (aI (bI (bG (cy hu (lh hT gK.ok (hr.mono (by decide)) rfl gK.mg gK.kp gK.bi (ah (bp 0) aF)) aJ (fun _ _=>rfl)))))
theorem sE:bF ["self","name"] ["self","name"] (aH (mZ 36 0)):=n4
theorem sS {f:Addr} {fd:ak} (F:kg K "__init__" "Uncurl.__init__" (mZ 36 0) f fd) (gi:gN K "name" "Uncurl"):cU P w K mg base ff 1 f fd ["self","name"] (cx K cO) :=
 tJ F sE tx fun _ _ _ _ _ _ hr=>(aI (et (gF gi) (bp 0) (bp 1)))
theorem vD:bF ["self","name","spot","first","hand"] ["self","name","spot","first","hand"] (aH (mZ 37 0)):=n4
theorem vX {f:Addr} {fd:ak} (F:kg K "__init__" "Curl.__init__" (mZ 37 0) f fd) (dj:gN K "name" "Curl") (jt:gN K "spot" "Curl") (fR:gN K "first" "Curl") (gG:gN K "hand" "Curl"):cU P w K mg base ff 1 f fd ["self","name","spot","first","hand"] (cx K ix) :=
 tJ F vD wj fun _ _ _ _ _ _ hr=>(aE (et (gF dj) (bp 0) (bp 1))
 (aE (et (gF jt) (bp 0) (bp 2))
 (aE (et (gF fR) (bp 0) (bp 3))
 (aI (et (gF gG) (bp 0) (bp 4))))))
theorem vC:bF ["self","name","second"] ["self","name","second"] (aH (mZ 38 0)):=n4
theorem vW {f:Addr} {fd:ak} (F:kg K "__init__" "Part.__init__" (mZ 38 0) f fd) (C3:gN K "name" "Part") (zp:gN K "second" "Part"):cU P w K mg base ff 1 f fd ["self","name","second"] (cx K iw) :=
 tJ F vC wg fun _ _ _ _ _ _ hr=>(aE (et (gF C3) (bp 0) (bp 1))
 (aI (et (gF zp) (bp 0) (bp 2))))
theorem xf:bF ["self","name","second","over","under","turned","hand"] ["self","name","second","over","under","turned","hand"] (aH (mZ 39 0)):=n4
theorem xk {f:Addr} {fd:ak} (F:kg K "__init__" "Lay.__init__" (mZ 39 0) f fd) (qG:gN K "name" "Lay") (mT:gN K "second" "Lay") (E4:gN K "over" "Lay") (C4:gN K "under" "Lay") (Ay:gN K "turned" "Lay") (E5:gN K "hand" "Lay"):cU P w K mg base ff 1 f fd ["self","name","second","over","under","turned","hand"] (cx K iS) :=
 tJ F xf xx fun _ _ _ _ _ _ hr=>(aE (et (gF qG) (bp 0) (bp 1))
 (aE (et (gF mT) (bp 0) (bp 2))
 (aE (et (gF E4) (bp 0) (bp 3))
 (aE (et (gF C4) (bp 0) (bp 4))
 (aE (et (gF Ay) (bp 0) (bp 5))
 (aI (et (gF E5) (bp 0) (bp 6))))))))
theorem ub:bF ["self","name","second","third","turn"] ["self","name","second","third","turn"] (aH (mZ 40 0)):=n4
theorem uX {f:Addr} {fd:ak} (F:kg K "__init__" "Slide.__init__" (mZ 40 0) f fd) (Aw:gN K "name" "Slide") (xr:gN K "second" "Slide") (zo:gN K "third" "Slide") (Av:gN K "turn" "Slide"):cU P w K mg base ff 1 f fd ["self","name","second","third","turn"] (cx K hW) :=
 tJ F ub vj fun _ _ _ _ _ _ hr=>(aE (et (gF Aw) (bp 0) (bp 1))
 (aE (et (gF xr) (bp 0) (bp 2))
 (aE (et (gF zo) (bp 0) (bp 3))
 (aI (et (gF Av) (bp 0) (bp 4))))))
theorem Gy:bF ["told"] ["told"] (aH (top 41)):=n4
theorem Hn {f:Addr} {fd:ak} (F:kg K "move_of" "move_of" (top 41) f fd) {qR:Addr} {fH:Addr} {fI:ak} (bA:HI P w K mg base 1 fH fI qR "Uncurl" ["self","name"] (cx K cO)) {Te:Addr} {xn:Addr} {xq:ak} (gZ:HI P w K mg base 1 xn xq Te "Curl" ["self","name","spot","first","hand"] (cx K ix)) {Td:Addr} {xm:Addr} {xp:ak} (gY:HI P w K mg base 1 xm xp Td "Part" ["self","name","second"] (cx K iw)) {VO:Addr} {ze:Addr} {zk:ak} (iu:HI P w K mg base 1 ze zk VO "Lay" ["self","name","second","over","under","turned","hand"] (cx K iS)) {Qm:Addr} {v3:Addr} {wa:ak} (gk:HI P w K mg base 1 v3 wa Qm "Slide" ["self","name","second","third","turn"] (cx K hW)):cU P w K mg base ff 3 f fd ["told"] (cx K jS) :=
 tJ F Gy HE fun _ _ _ _ _ _ hr=>have hu:=hr.units; (aE (eM (c5 (lG hu) (cy hu (bp 0) aJ (fun _ _=>rfl)) jk (hU _)) (aI (bI (bG (lE bA.R3 bA.ns bA.ok (hr.mono (by decide)) rfl bA.mg bA.bi (ah (cy hu (bp 0) aJ (fun _ _=>rfl)) aF))))) cP)
 (aE (eM (c5 (lG hu) (cy hu (bp 0) aJ (fun _ _=>rfl)) jk (hU _)) (aI (bI (bG (lE gZ.R3 gZ.ns gZ.ok (hr.mono (by decide)) rfl gZ.mg gZ.bi (ah (cy hu (bp 0) aJ (fun _ _=>rfl)) (ah (cy hu (bp 0) aJ (fun _ _=>rfl)) (ah (cy hu (bp 0) aJ (fun _ _=>rfl)) (ah (cy hu (bp 0) aJ (fun _ _=>rfl)) aF)))))))) cP)
 (aE (eM (c5 (lG hu) (cy hu (bp 0) aJ (fun _ _=>rfl)) jk (hU _)) (aI (bI (bG (lE gY.R3 gY.ns gY.ok (hr.mono (by decide)) rfl gY.mg gY.bi (ah (cy hu (bp 0) aJ (fun _ _=>rfl)) (ah (cy hu (bp 0) aJ (fun _ _=>rfl)) aF)))))) cP)
 (aE (eM (c5 (lG hu) (cy hu (bp 0) aJ (fun _ _=>rfl)) jk (hU _)) (aI (bI (bG (lE iu.R3 iu.ns iu.ok (hr.mono (by decide)) rfl iu.mg iu.bi (ah (cy hu (bp 0) aJ (fun _ _=>rfl)) (ah (cy hu (bp 0) aJ (fun _ _=>rfl)) (ah (cy hu (bp 0) aJ (fun _ _=>rfl)) (ah (cy hu (bp 0) aJ (fun _ _=>rfl)) (ah (cy hu (bp 0) aJ (fun _ _=>rfl)) (ah (cy hu (bp 0) aJ (fun _ _=>rfl)) aF)))))))))) cP)
 (aE (eM (c5 (lG hu) (cy hu (bp 0) aJ (fun _ _=>rfl)) jk (hU _)) (aI (bI (bG (lE gk.R3 gk.ns gk.ok (hr.mono (by decide)) rfl gk.mg gk.bi (ah (cy hu (bp 0) aJ (fun _ _=>rfl)) (ah (cy hu (bp 0) aJ (fun _ _=>rfl)) (ah (cy hu (bp 0) aJ (fun _ _=>rfl)) (ah (cy hu (bp 0) aJ (fun _ _=>rfl)) aF)))))))) cP)
 (aI i7))))))
theorem DP:bF ["drawing"] ["drawing"] (aH (top 13)):=n4
theorem Ez {f:Addr} {fd:ak} (F:kg K "names_of" "names_of" (top 13) f fd) (lp:mg "sorted" = none) {mQ:Addr} {mS:ak} (eg:nW P w K mg base ff 1 mQ mS "passings_of" ["rows"] (cx K fZ)):cU P w K mg base ff 2 f fd ["drawing"] (cx K cX) :=
 tJ F DP Fi fun _ _ _ _ _ _ hr=>have hu:=hr.units; (aI (bI (bG (c8 (sg rfl hu) rfl lp Bi (ah (jl ["passing"] (sc:=aH (top 13)) (XN:=["drawing"]) (dZ (bH eg.ok (hr.mono (by decide)) rfl eg.mg eg.kp eg.bi (ah (bp 0) aF))) (fun _ _ _ _=>(tH (i:=0) (show (["passing"]:List Str).Nodup by decide +kernel) rfl)) (fun _ _ _ _=>(.some (c5 (lG hu) (cy hu (bp 0) aJ (fun _ _=>rfl)) aJ (hU _)))) (fun _ _ _ _=>(cy hu (bp 0) aJ (fun _ _=>rfl)))) aF)))))
theorem pS:bF ["drawing","names","taken","name"] ["drawing","names"] (aH (top 28)):=n4
theorem y8 {f:Addr} {fd:ak} (F:kg K "refuse_new" "refuse_new" (top 28) f fd) (dc:mg "len" = none) {bC:Addr} (di:bz K aT "TooMany" = some (some (.ref bC))) (ou:mg "TooMany" = some (.ref bC)) (gC:cN K bC [.type "ValueError",.type "Exception",.type "BaseException",.type "object"] "ValueError.__new__" = true) (gy:nV K bC) {cZ:Addr} (oa:bz K aT "NameTaken" = some (some (.ref cZ))) (Co:mg "NameTaken" = some (.ref cZ)) (oF:cN K cZ [.type "ValueError",.type "Exception",.type "BaseException",.type "object"] "ValueError.__new__" = true) (tR:nV K cZ) {fW:Tok} (jq:mg "MOST_CROSSINGS" = some (.int 12 fW)) {lP:Addr} {lR:ak} (dq:nW P w K mg base ff 2 lP lR "names_of" ["drawing"] (cx K cX)):cU P w K mg base (tF P w) 3 f fd ["drawing","names"] (lx K mg fY) :=
 YR F pS zA fun _ _ _ _ _ _ hr=>have nd:=pS.nd; have hu:=hr.units; (aE (mj (i:=2) nd rfl (bH dq.ok (hr.mono (by decide)) rfl dq.mg dq.kp dq.bi (ah (bp 0) aF)))
 (aE (eM (c5 MF (bB dD (c8 eI rfl dc jx (ah (bp 2) aF)) (c8 eI rfl dc jx (ah (bp 1) aF))) (Ir rfl jq) (hU _)) (aI (yt rfl ou gC Dp rfl (ah jk aF))) cP)
 (aI (gA w8 rfl (dZ (bp 1)) (tH (i:=3) nd rfl) (aE (eM (c5 (Ci hu) (bp 3) (bp 2) (by with_unfolding_all rfl)) (aI (yt rfl Co oF Dp rfl (ah jk aF))) cP)
 (aI (gU (mI cA jC jB jf oq (bp 2) (ah (bp 3) aF)))))))))
theorem DO:bF ["row","string"] ["row","string"] (aH (top 15)):=n4
theorem Ew {f:Addr} {fd:ak} (F:kg K "spots_on" "spots_on" (top 15) f fd):cU P w K mg base ff 1 f fd ["row","string"] (cx K i6) :=
 tJ F DO Fh fun _ _ _ _ _ _ hr=>(aE (eM (mi (gc (bp 0))) (aI (bI (bG (eF (ah (gB (ah (bp 1) (ah aJ aF))) aF))))) cP)
 (aI (bI (bG (jl ["passing"] (sc:=aH (top 15)) (XN:=["row","string"]) (dZ (bp 0)) (fun _ _ _ _=>(tH (i:=0) (show (["passing"]:List Str).Nodup by decide +kernel) rfl)) (fun _ _ _ _=>.none) (fun _ _ _ _=>(jW (bp 0) lD (lC aJ))))))))
theorem tY:bF ["drawing","spot","string","row"] ["drawing","spot"] (aH (top 17)):=n4
theorem CB {f:Addr} {fd:ak} (F:kg K "string_of" "string_of" (top 17) f fd) (oh:mg "enumerate" = none) {sU:Addr} {sY:ak} (gJ:nW P w K mg base ff 1 sU sY "spots_on" ["row","string"] (cx K i6)):cU P w K mg base ff 2 f fd ["drawing","spot"] (cx K kN) :=
 tJ F tY C8 fun _ _ _ _ _ _ hr=>have nd:=tY.nd; have hu:=hr.units; (aE (gA cS rfl (Mw rfl oh (bp 0)) (Ce rfl (jV (tH (i:=2) nd rfl) (jV (tH (i:=3) nd rfl) yv)) (jY (jY y2))) (aI (eM (c5 (Ci hu) (bp 1) (bH gJ.ok (hr.mono (by decide)) rfl gJ.mg gJ.kp gJ.bi (ah (bp 3) (ah (bp 2) aF))) (by with_unfolding_all rfl)) (aI (bI (bG (bp 2)))) cP)))
 (aI i7))
theorem wx:bF ["drawing","spot","passings","string","rows","place"] ["drawing","spot","passings"] (aH (top 29)):=n4
theorem Eu {f:Addr} {fd:ak} (F:kg K "with_put" "with_put" (top 29) f fd) (j8:mg "list" = none) {EE:Addr} {EO:ak} (mw:nW P w K mg base ff 2 EE EO "string_of" ["drawing","spot"] (cx K kN)) {sU:Addr} {sY:ak} (gJ:nW P w K mg base ff 1 sU sY "spots_on" ["row","string"] (cx K i6)):cU P w K mg base ff 3 f fd ["drawing","spot","passings"] (cx K i5) :=
 tJ F wx Fg fun _ _ _ _ _ _ hr=>have nd:=wx.nd; have hu:=hr.units; (aE (mj (i:=3) nd rfl (bH mw.ok (hr.mono (by decide)) rfl mw.mg mw.kp mw.bi (ah (bp 0) (ah (bp 1) aF))))
 (aE (mj (i:=4) nd rfl (sH zr rfl j8 x3 (ah (bp 0) aF)))
 (aE (mj (i:=5) nd rfl (bB dD (mI cA pN FQ jf (AX hu) (bH gJ.ok (hr.mono (by decide)) rfl gJ.mg gJ.kp gJ.bi (ah (cy hu (bp 4) (bp 3) (fun _ _=>rfl)) (ah (bp 3) aF))) (ah (bp 1) aF)) aJ))
 (aE (xM (bB dD (bB dD (jW (cy hu (bp 4) (bp 3) (fun _ _=>rfl)) lD (lC (bp 5))) (bp 2)) (jW (cy hu (bp 4) (bp 3) (fun _ _=>rfl)) (lC (bp 5)) lD)) (Cf hu (bp 4) (bp 3)))
 (aI (bI (bG (bp 4))))))))
theorem rV:bF ["self","drawing","passings"] ["self","drawing"] (aH (mZ 37 2)):=n4
theorem z9 {f:Addr} {fd:ak} (F:kg K "done" "Curl.done" (mZ 37 2) f fd) (dj:gN K "name" "Curl") (gG:gN K "hand" "Curl") (fR:gN K "first" "Curl") (jt:gN K "spot" "Curl") {mP:Addr} {mR:ak} (ef:nW P w K mg base (tF P w) 3 mP mR "refuse_new" ["drawing","names"] (lx K mg fY)) {iN:Addr} {iO:ak} (ck:nW P w K mg base ff 2 iN iO "seated_rows" ["rows"] (cx K cj)) {sT:Addr} {sX:ak} (gH:nW P w K mg base ff 3 sT sX "with_put" ["drawing","spot","passings"] (cx K i5)):cU P w K mg base (tF P w) 4 f fd ["self","drawing"] (lx K mg fO) :=
 YR F rV AF fun _ _ _ _ _ _ hr=>have nd:=rV.nd; (aE (gU (AS ef.ok (hr.mono (by decide)) rfl ef.mg ef.kp ef.bi (ah (bp 1) (ah (eF (ah (cV (gF dj) (bp 0)) aF)) aF))))
 (aE (mj (i:=2) nd rfl (eF (ah (gB (ah (cV (gF dj) (bp 0)) (ah (cV (gF fR) (bp 0)) (ah (cV (gF gG) (bp 0)) aF)))) (ah (gB (ah (cV (gF dj) (bp 0)) (ah (bB uC aJ (cV (gF fR) (bp 0))) (ah (cV (gF gG) (bp 0)) aF)))) aF))))
 (aI (bI (bG (bH ck.ok (hr.mono (by decide)) rfl ck.mg ck.kp ck.bi (ah (bH gH.ok (hr.mono (by decide)) rfl gH.mg gH.kp gH.bi (ah (bp 1) (ah (cV (gF jt) (bp 0)) (ah (bp 2) aF)))) aF)))))))
theorem B0:bF ["self","drawing","above","unders"] ["self","drawing"] (aH (mZ 39 3)):=n4
theorem CH {f:Addr} {fd:ak} (F:kg K "done" "Lay.done" (mZ 39 3) f fd) (mT:gN K "second" "Lay") (qG:gN K "name" "Lay") {mP:Addr} {mR:ak} (ef:nW P w K mg base (tF P w) 3 mP mR "refuse_new" ["drawing","names"] (lx K mg fY)):cU P w K mg base (tF P w) 4 f fd ["self","drawing"] (lx K mg gz) :=
 YR F B0 Dg fun _ _ _ _ _ _ hr=>(aE (gU (AS ef.ok (hr.mono (by decide)) rfl ef.mg ef.kp ef.bi (ah (bp 1) (ah (eF (ah (cV (gF qG) (bp 0)) (ah (cV (gF mT) (bp 0)) aF))) aF))))
 (aE i7
 (aE i7
 (aE i7
 (aI i7)))))
theorem rT:bF ["names","drawing","wider","name"] ["names","drawing"] (aH (top 56)):=n4
theorem z5 {f:Addr} {fd:ak} (F:kg K "with_spare" "with_spare" (top 56) f fd) (no_dict:mg "dict" = none) (dc:mg "len" = none) {lP:Addr} {lR:ak} (dq:nW P w K mg base ff 2 lP lR "names_of" ["drawing"] (cx K cX)):cU P w K mg base ff 3 f fd ["names","drawing"] (cx K j4) :=
 tJ F rT AB fun _ _ _ _ _ _ hr=>have nd:=rT.nd; have hu:=hr.units; (aE (mj (i:=2) nd rfl (sH Hx rfl no_dict Qg (ah (bp 0) aF)))
 (aE (gA cS rfl (dZ (bH dq.ok (hr.mono (by decide)) rfl dq.mg dq.kp dq.bi (ah (bp 1) aF))) (tH (i:=3) nd rfl) (aI (eM (c5 (vH hu) (bp 3) (bp 2) (by with_unfolding_all rfl)) (aI (xM (bB dD (c8 eI rfl dc jx (ah (bp 2) aF)) aJ) (Cf hu (bp 2) (bp 3)))) cP)))
 (aI (bI (bG (bp 2))))))
theorem rU:bF ["drawing","names","taken","name"] ["drawing","names"] (aH (top 28)):=n4
theorem z6 {f:Addr} {fd:ak} (F:kg K "refuse_new" "refuse_new" (top 28) f fd) (dc:mg "len" = none) {fW:Tok} (jq:mg "MOST_CROSSINGS" = some (.int 12 fW)) {lP:Addr} {lR:ak} (dq:nW P w K mg base ff 2 lP lR "names_of" ["drawing"] (cx K cX)):cU P w K mg base ff 3 f fd ["drawing","names"] (cx K j5) :=
 tJ F rU AD fun _ _ _ _ _ _ hr=>have nd:=rU.nd; have hu:=hr.units; (aE (mj (i:=2) nd rfl (bH dq.ok (hr.mono (by decide)) rfl dq.mg dq.kp dq.bi (ah (bp 0) aF)))
 (aE (eM (c5 MF (bB dD (c8 eI rfl dc jx (ah (bp 2) aF)) (c8 eI rfl dc jx (ah (bp 1) aF))) (Ir rfl jq) (hU _)) (aI i7) cP)
 (aI (gA cS rfl (dZ (bp 1)) (tH (i:=3) nd rfl) (aE (eM (c5 (Ci hu) (bp 3) (bp 2) (by with_unfolding_all rfl)) (aI i7) cP)
 (aI (gU (mI cA jC jB jf oq (bp 2) (ah (bp 3) aF)))))))))
theorem uc:bF ["self","drawing","passings"] ["self","drawing"] (aH (mZ 37 2)):=n4
theorem CI {f:Addr} {fd:ak} (F:kg K "done" "Curl.done" (mZ 37 2) f fd) (dj:gN K "name" "Curl") (gG:gN K "hand" "Curl") (fR:gN K "first" "Curl") (jt:gN K "spot" "Curl") {CM:Addr} {CW:ak} (k7:nW P w K mg base ff 3 CM CW "refuse_new" ["drawing","names"] (cx K j5)) {iN:Addr} {iO:ak} (ck:nW P w K mg base ff 2 iN iO "seated_rows" ["rows"] (cx K cj)) {sT:Addr} {sX:ak} (gH:nW P w K mg base ff 3 sT sX "with_put" ["drawing","spot","passings"] (cx K i5)):cU P w K mg base ff 4 f fd ["self","drawing"] (cx K jj) :=
 tJ F uc Dh fun _ _ _ _ _ _ hr=>have nd:=uc.nd; (aE (gU (bH k7.ok (hr.mono (by decide)) rfl k7.mg k7.kp k7.bi (ah (bp 1) (ah (eF (ah (cV (gF dj) (bp 0)) aF)) aF))))
 (aE (mj (i:=2) nd rfl (eF (ah (gB (ah (cV (gF dj) (bp 0)) (ah (cV (gF fR) (bp 0)) (ah (cV (gF gG) (bp 0)) aF)))) (ah (gB (ah (cV (gF dj) (bp 0)) (ah (bB uC aJ (cV (gF fR) (bp 0))) (ah (cV (gF gG) (bp 0)) aF)))) aF))))
 (aI (bI (bG (bH ck.ok (hr.mono (by decide)) rfl ck.mg ck.kp ck.bi (ah (bH gH.ok (hr.mono (by decide)) rfl gH.mg gH.kp gH.bi (ah (bp 1) (ah (cV (gF jt) (bp 0)) (ah (bp 2) aF)))) aF)))))))
theorem B1:bF ["self","drawing"] ["self","drawing"] (aH (mZ 37 3)):=n4
theorem CJ {f:Addr} {fd:ak} (F:kg K "back" "Curl.back" (mZ 37 3) f fd) (dj:gN K "name" "Curl") {Dl:Addr} {EI:Addr} {EU:ak} (qI:Fo P w K mg base ff 4 EI EU Dl "Curl" "done" ["self","drawing"] (cx K jj)) {qR:Addr} {fH:Addr} {fI:ak} (bA:HI P w K mg base 1 fH fI qR "Uncurl" ["self","name"] (cx K cO)):cU P w K mg base ff 5 f fd ["self","drawing"] (cx K kR) :=
 tJ F B1 Di fun _ _ _ _ _ _ hr=>(aE (gU (vG (qY qI.me qI.ok (hr.mono (by decide)) qI.bi uD) (bp 0) (ah (bp 1) aF)))
 (aI (bI (bG (lE bA.R3 bA.ns bA.ok (hr.mono (by decide)) rfl bA.mg bA.bi (ah (cV (gF dj) (bp 0)) aF))))))
theorem ua:bF ["self","names"] ["self","names"] (aH (mZ 36 5)):=n4
theorem uW {f:Addr} {fd:ak} (F:kg K "renamed" "Uncurl.renamed" (mZ 36 5) f fd) (gi:gN K "name" "Uncurl") {qR:Addr} {fH:Addr} {fI:ak} (bA:HI P w K mg base 1 fH fI qR "Uncurl" ["self","name"] (cx K cO)):cU P w K mg base ff 3 f fd ["self","names"] (cx K hV) :=
 tJ F ua vi fun _ _ _ _ _ _ hr=>(aI (bI (bG (lE bA.R3 bA.ns bA.ok (hr.mono (by decide)) rfl bA.mg bA.bi (ah (mI PySem.F.plainAttrs_dict Js PySem.F.type_dict_get LN PA (bp 1) (ah (cV (gF gi) (bp 0)) (ah (cV (gF gi) (bp 0)) aF))) aF)))))
theorem ym:bF ["self"] ["self"] (aH (mZ 36 1)):=n4
theorem zb {f:Addr} {fd:ak} (F:kg K "told" "Uncurl.told" (mZ 36 1) f fd) (gi:gN K "name" "Uncurl"):cU P w K mg base ff 1 f fd ["self"] (cx K ji) :=
 tJ F ym zC fun _ _ _ _ _ _ hr=>(aI (bI (bG (gB (ah jk (ah (cV (gF gi) (bp 0)) aF))))))
theorem t9:bF ["drawing","row","at_hand","found","told","move","after","names"] ["drawing","row"] (aH (top 57)):=n4
theorem CG {f:Addr} {fd:ak} {Pt:Addr} (F:kg K "back_row" "back_row" (top 57) f fd) (j8:mg "list" = none) (qi:mg "reversed" = none) {nO:Addr} {nQ:ak} (eK:nW P w K mg base ff 5 nO nQ "settled" ["drawing"] (kj (Tb Pt "settling.<locals>.<lambda>") K eL)) {vY:Addr} {v7:ak} (iA:nW P w K mg base ff 3 vY v7 "move_of" ["told"] (cx K jS)) {sV:Addr} {sZ:ak} (gK:nW P w K mg base ff 4 sV sZ "settling" ["drawing"] (kj (Tb Pt "settling.<locals>.<lambda>") K eX)) {mW:Addr} {oE:Addr} {oH:ak} (gL:Fo P w K mg base (tF P w) 4 oE oH mW "Curl" "done" ["self","drawing"] (lx K mg fO)) {oP:Addr} {qw:Addr} {qz:ak} (iq:Fo P w K mg base (tF P w) 4 qw qz oP "Lay" "done" ["self","drawing"] (lx K mg gz)) {CL:Addr} {CV:ak} (k6:nW P w K mg base ff 3 CL CV "with_spare" ["names","drawing"] (cx K j4)) {Dm:Addr} {EJ:Addr} {EV:ak} (qJ:Fo P w K mg base ff 5 EJ EV Dm "Curl" "back" ["self","drawing"] (cx K kR)) {vk:Addr} {vZ:Addr} {v9:ak} (j3:Fo P w K mg base ff 3 vZ v9 vk "Uncurl" "renamed" ["self","names"] (cx K hV)) {zG:Addr} {Ac:Addr} {As:ak} (mV:Fo P w K mg base ff 1 Ac As zG "Uncurl" "told" ["self"] (cx K ji)):cU P w K mg base (tF P w) 6 f fd ["drawing","row"] (ly (Tb Pt "settling.<locals>.<lambda>") K mg kQ) :=
 SU F t9 Df fun _ _ _ _ _ _ hT hr=>have nd:=t9.nd; have hu:=hr.units; (aE (mj (i:=2) nd rfl (bG (lh hT eK.ok (hr.mono (by decide)) rfl eK.mg eK.kp eK.bi (ah (bp 0) aF))))
 (aE (mj (i:=3) nd rfl (eF aF))
 (aE (gA w8 rfl (dZ (bp 1)) (tH (i:=4) nd rfl) (aE (mj (i:=5) nd rfl (bH iA.ok (hr.mono (by decide)) rfl iA.mg iA.kp iA.bi (ah (bp 4) aF)))
 (aE (mj (i:=6) nd rfl (lh hT gK.ok (hr.mono (by decide)) rfl gK.mg gK.kp gK.bi (ah (bG (yw (ot gL.me gL.ok (hr.mono (by decide)) gL.bi (ot iq.me iq.ok (hr.mono (by decide)) iq.bi AY)) (bp 5) (ah (bp 2) aF))) aF)))
 (aE (mj (i:=7) nd rfl (bG (bH k6.ok (hr.mono (by decide)) rfl k6.mg k6.kp k6.bi (ah (cy hu (bp 6) aJ (fun _ _=>rfl)) (ah (bp 2) aF)))))
 (aE (gU (mI cA jC jB jf oq (bp 3) (ah (GD (qY mV.me mV.ok (hr.mono (by decide)) mV.bi uD) (vG (qY j3.me j3.ok (hr.mono (by decide)) j3.bi uD) (vG (qY qJ.me qJ.ok (hr.mono (by decide)) qJ.bi uD) (bp 5) (ah (bp 2) aF)) (ah (bp 7) aF))) aF)))
 (aI (mj (i:=2) nd rfl (bG (cy hu (bp 6) aJ (fun _ _=>rfl))))))))))
 (aI (bI (bG (MB rfl rfl j8 rfl qi (bp 3))))))))
theorem L8:bF ["drawing","told"] ["drawing","told"] (aH (top 54)):=n4
theorem ND {f:Addr} {fd:ak} {Pt:Addr} (F:kg K "step" "step" (top 54) f fd) {nO:Addr} {nQ:ak} (eK:nW P w K mg base ff 5 nO nQ "settled" ["drawing"] (kj (Tb Pt "settling.<locals>.<lambda>") K eL)) {vY:Addr} {v7:ak} (iA:nW P w K mg base ff 3 vY v7 "move_of" ["told"] (cx K jS)) {mW:Addr} {oE:Addr} {oH:ak} (gL:Fo P w K mg base (tF P w) 4 oE oH mW "Curl" "done" ["self","drawing"] (lx K mg fO)) {oP:Addr} {qw:Addr} {qz:ak} (iq:Fo P w K mg base (tF P w) 4 qw qz oP "Lay" "done" ["self","drawing"] (lx K mg gz)):cU P w K mg base (tF P w) 6 f fd ["drawing","told"] (ly (Tb Pt "settling.<locals>.<lambda>") K mg tX) :=
 SU F L8 Oi fun _ _ _ _ _ _ hT hr=>(aI (bI (bG (lh hT eK.ok (hr.mono (by decide)) rfl eK.mg eK.kp eK.bi (ah (bG (yw (ot gL.me gL.ok (hr.mono (by decide)) gL.bi (ot iq.me iq.ok (hr.mono (by decide)) iq.bi AY)) (bH iA.ok (hr.mono (by decide)) rfl iA.mg iA.kp iA.bi (ah (bp 1) aF)) (ah (bp 0) aF))) aF)))))
theorem yi:bF ["drawing","row","at_hand","told"] ["drawing","row"] (aH (top 55)):=n4
theorem Hl {f:Addr} {fd:ak} {Pt:Addr} (F:kg K "walked" "walked" (top 55) f fd) {nO:Addr} {nQ:ak} (eK:nW P w K mg base ff 5 nO nQ "settled" ["drawing"] (kj (Tb Pt "settling.<locals>.<lambda>") K eL)) {P2:Addr} {P8:ak} (xZ:nW P w K mg base (tF P w) 6 P2 P8 "step" ["drawing","told"] (ly (Tb Pt "settling.<locals>.<lambda>") K mg tX)):cU P w K mg base (tF P w) 7 f fd ["drawing","row"] (ly (Tb Pt "settling.<locals>.<lambda>") K mg n8) :=
 SU F yi HD fun _ _ _ _ _ _ hT hr=>have nd:=yi.nd; (aE (mj (i:=2) nd rfl (bG (lh hT eK.ok (hr.mono (by decide)) rfl eK.mg eK.kp eK.bi (ah (bp 0) aF))))
 (aE (gA w8 rfl (dZ (bp 1)) (tH (i:=3) nd rfl) (aI (mj (i:=2) nd rfl (bG (GF hT xZ.ok (hr.mono (by decide)) rfl xZ.mg xZ.kp xZ.bi (ah (bp 2) (ah (bp 3) aF)))))))
 (aI (bI (bG (bp 2))))))
theorem t8:bF ["_law_rows","_law_row","_law_back","_law_error","_law_found","e"] ["_law_rows","_law_row","_law_back"] (aH (top 65)):=n4
theorem CF {f:Addr} {fd:ak} {Pt:Addr} (F:kg K "_law_asked" "_law_asked" (top 65) f fd) {bC:Addr} (di:bz K aT "TooMany" = some (some (.ref bC))) (ou:mg "TooMany" = some (.ref bC)) (gC:cN K bC [.type "ValueError",.type "Exception",.type "BaseException",.type "object"] "ValueError.__new__" = true) (gy:nV K bC) {cw:Addr} (og:bz K aT "KnotError" = some (some (.ref cw))) (uE:mg "KnotError" = some (.ref cw)) (kY:cN K cw [.type "ValueError",.type "Exception",.type "BaseException",.type "object"] "ValueError.__new__" = true) (tS:nV K cw) (fE:subIn K bC (.ref cw)=true) {EH:Addr} {ET:ak} (mz:nW P w K mg base (tF P w) 6 EH ET "back_row" ["drawing","row"] (ly (Tb Pt "settling.<locals>.<lambda>") K mg kQ)) {Kx:Addr} {KC:ak} (rq:nW P w K mg base (tF P w) 7 Kx KC "walked" ["drawing","row"] (ly (Tb Pt "settling.<locals>.<lambda>") K mg n8)):cU P w K mg base ff 8 f fd ["_law_rows","_law_row","_law_back"] (kj (Tb Pt "settling.<locals>.<lambda>") K kP) :=
 Wk F t8 De fun _ _ _ _ _ _ _ hT hr=>have nd:=t8.nd; (aE (mj (i:=3) nd rfl Cg)
 (aE (mj (i:=4) nd rfl Cg)
 (aE (Mm (T8 (fun EX=>(gc (bp 2))) (AM (j:=4) hT ⟨rfl,rfl,rfl⟩ ⟨nd,rfl,rfl,rfl,uE,⟨_,_,kY,rfl⟩,(qH ⟨_,_,_,di,gC,fE⟩ u5)⟩ (fun v=>(aI (mj (i:=3) nd rfl (bp 5)))) rfl (by first | exact Or.inl rfl | exact Or.inr rfl) mz.ok (hr.mono (by decide)) rfl mz.mg mz.kp mz.bi (fun EX=>(ah (bp 0) (ah (bp 1) aF)))) (AM (j:=4) hT ⟨rfl,rfl,rfl⟩ ⟨nd,rfl,rfl,rfl,uE,⟨_,_,kY,rfl⟩,(qH ⟨_,_,_,di,gC,fE⟩ u5)⟩ (fun v=>(aI (mj (i:=3) nd rfl (bp 5)))) rfl (by first | exact Or.inl rfl | exact Or.inr rfl) rq.ok (hr.mono (by decide)) rfl rq.mg rq.kp rq.bi (fun EX=>(ah (bp 0) (ah (bp 1) aF))))))
 (aI (bI (bG (gB (ah (bp 4) (ah (bp 3) aF)))))))))
theorem L9:bF ["_law_script","_law_many","_law_rows","_law_k","_law_told_here","_law_handed","_law_back","_law_found","_law_error"] ["_law_script"] (aH (top 66)):=n4
theorem SV {f:Addr} {fd:ak} {Pt:Addr} (F:kg K "law" "law" (top 66) f fd) (mJ:mg "ValueError" = none) (fP:mg "isinstance" = none) (dc:mg "len" = none) (j8:mg "list" = none) (jm:mg "range" = none) (yz:mg "tuple" = none) {bC:Addr} (di:bz K aT "TooMany" = some (some (.ref bC))) (ou:mg "TooMany" = some (.ref bC)) (gC:cN K bC [.type "ValueError",.type "Exception",.type "BaseException",.type "object"] "ValueError.__new__" = true) (gy:nV K bC) {dM:Addr} (vI:bz K aT "NoSpot" = some (some (.ref dM))) (J7:mg "NoSpot" = some (.ref dM)) (A9:cN K dM [.type "ValueError",.type "Exception",.type "BaseException",.type "object"] "ValueError.__new__" = true) (AK:nV K dM) (sN:cG K (.type "NoneType") (.ref bC)=some false) (vQ:cG K (.type "NoneType") (.ref dM)=some false) (iZ:cG K (.ref bC) (.ref bC)=some true) (jn:cG K (.ref bC) (.ref dM)=some false) (sM:cG K (.ref bC) (.type "ValueError")=some true) {Hq:Addr} {Hv:ak} (eN:nW P w K mg base ff 1 Hq Hv "_law_cell" ["_law_script","_law_k"] (cx K en)) {EF:Addr} {ER:ak} (mx:nW P w K mg base ff 2 EF ER "_law_cross" ["_law_rows","_law_cell_here"] (cx K kO)) {Ho:Addr} {Hu:ak} (oK:nW P w K mg base ff 1 Ho Hu "_law_told" ["_law_cell_here"] (cx K ma)) {EG:Addr} {ES:ak} (my:nW P w K mg base ff 8 EG ES "_law_asked" ["_law_rows","_law_row","_law_back"] (kj (Tb Pt "settling.<locals>.<lambda>") K kP)) {qu:Addr} {qy:ak} (fL:nW P w K mg base ff 1 qu qy "_law_names" ["_law_rows"] (cx K cJ)):cU P w K mg base ff 9 f fd ["_law_script"] (kj (Tb Pt "settling.<locals>.<lambda>") K K2.AN) :=
 Wk F L9 Ta fun _ _ _ _ _ _ _ hT hr=>have nd:=L9.nd; have hu:=hr.units; (aE (mj (i:=1) nd rfl (bB dD aJ (bB ee (bH eN.ok (hr.mono (by decide)) rfl eN.mg eN.kp eN.bi (ah (bp 0) (ah aJ aF))) aJ)))
 (aE (mj (i:=2) nd rfl (eF (ah (eF aF) aF)))
 (aE (Io (gA cS rfl (sG rfl jm (bp 1)) (tH (i:=3) nd rfl) (aI (gU (bH mx.ok (hr.mono (by decide)) rfl mx.mg mx.kp mx.bi (ah (bp 2) (ah (bH eN.ok (hr.mono (by decide)) rfl eN.mg eN.kp eN.bi (ah (bp 0) (ah (bB dD aJ (bp 3)) aF))) aF)))))))
 (aE (mj (i:=4) nd rfl (bH oK.ok (hr.mono (by decide)) rfl oK.mg oK.kp oK.bi (ah (bH eN.ok (hr.mono (by decide)) rfl eN.mg eN.kp eN.bi (ah (bp 0) (ah aJ aF))) aF)))
 (aE (mj (i:=5) nd rfl (bG (eF (ah (bp 4) aF))))
 (aE (gA cS rfl (dZ (gB (ah sI (ah sI aF)))) (tH (i:=6) nd rfl) (aE (xM (lh hT my.ok (hr.mono (by decide)) rfl my.mg my.kp my.bi (ah (bG (jl ["_law_row"] (sc:=aH (top 66)) (XN:=["_law_script","_law_many","_law_rows","_law_k","_law_told_here","_law_handed","_law_back","_law_found","_law_error"]) (dZ (bp 2)) (fun _ _ _ _=>(tH (i:=0) (show (["_law_row"]:List Str).Nodup by decide +kernel) rfl)) (fun _ _ _ _=>.none) (fun _ _ _ _=>(sH zr rfl j8 x3 (ah (bp 0) aF))))) (ah (bG (bp 5)) (ah (bG (bp 6)) aF)))) (Ce rfl (jV (tH (i:=7) nd rfl) (jV (tH (i:=8) nd rfl) yv)) (jY (jY y2))))
 (aE (eM (c5 (GI hu) (bp 5) (eF (ah (bp 4) aF)) (hU _)) (aI (bI (bG sI))) cP)
 (aI (eM (Jn.pt (vF (c5 (lG hu) (bp 1) aJ (hU _)) (xK (c5 (lG hu) (cy hu (bp 4) aJ (fun _ _=>rfl)) jk (hU _))))) (aI (eM (Jn.pt (vF (mi (gc (D4 mE rfl fP rfl ou sN (qH ⟨_,di,iZ,gy⟩ u5) (bp 8)))) (vF (mi (gc (MC mE rfl fP rfl mJ (qH ⟨_,di,sM,gy⟩ u5) (bp 8)))) (xK (gc (D4 mE rfl fP rfl J7 vQ (qH ⟨_,di,jn,gy⟩ u5) (bp 8))))))) (aI (bI (bG sI))) cP)) (aI (eM (Jn.pt (vF (JS (bp 8)) (vF (mi (gc (Iq "list" (by decide) rfl fP rfl j8 x3 (bp 7)))) (xK (c5 (GI hu) (c8 eI rfl dc jx (ah (bp 7) aF)) aJ (hU _)))))) (aI (bI (bG sI))) (aI (eM (Jn.pt (vF (Jn.pt (Im (gc (bp 6)) (D0 (mi (gc (Iq "tuple" (by decide) rfl fP rfl yz Od (cy hu (bp 7) aJ (fun _ _=>rfl)))))))) (xK (Jn.pt (Im (mi (gc (bp 6))) (D0 (c5 (GI hu) (c8 eI rfl dc jx (ah (bH fL.ok (hr.mono (by decide)) rfl fL.mg fL.kp fL.bi (ah (bp 7) aF)) aF)) aJ (hU _)))))))) (aI (bI (bG sI))) cP)))))))))
 (aI (bI (bG sI)))))))))
end
theorem all_mk {cL Pt:Addr} {l:PySem.W.OpenLaw} {w:World} {K:ag} {h:Heap} {mg:Str->Option Value} {fa:Addr} (X:K.In h) (G:h.Ns aT mg) (hfa:mg "law" = some (.ref fa)) {lU:Addr} (gj:Qn K "Uncurl" lU) {lV:Addr} (eW:Qn K "Curl" lV) {wo:Addr} (xY:Qn K "Part" wo) {qQ:Addr} (kC:Qn K "Lay" qQ) {mB:Addr} (nT:Qn K "Slide" mB)
  {f0:Addr} {d0:ak} (F0:At K "_law_cell" (top 59) f0 d0)
  {f1:Addr} {d1:ak} (F1:At K "_law_digits" (top 62) f1 d1)
  {f2:Addr} {d2:ak} (F2:At K "_law_names" (top 60) f2 d2)
  {f3:Addr} {d3:ak} (F3:At K "_law_cross" (top 63) f3 d3)
  {f4:Addr} {d4:ak} (F4:At K "_law_told" (top 64) f4 d4)
  {f5:Addr} {d5:ak} (F5:At K "one_of_each" (top 43) f5 d5)
  {f6:Addr} {d6:ak} (F6:At K "beginnings" (top 48) f6 d6)
  {f7:Addr} {d7:ak} (F7:At K "passings_of" (top 10) f7 d7)
  {f8:Addr} {d8:ak} (F8:At K "names_as_met" (top 49) f8 d8)
  {f9:Addr} {d9:ak} (F9:At K "seated" (top 11) f9 d9)
  {f10:Addr} {d10:ak} (Rb:At K "seated_rows" (top 12) f10 d10)
  {f11:Addr} {d11:ak} (WI:At K "renamed_row" (top 45) f11 d11)
  {f12:Addr} {d12:ak} (WH:At K "renamed_rows" (top 46) f12 d12)
  {f13:Addr} {d13:ak} (WG:At K "settling_from" (top 50) f13 d13)
  {f14:Addr} {d14:ak} (TV:At K "settling" (top 51) f14 d14)
  {f15:Addr} {d15:ak} (Ra:At K "settled" (top 52) f15 d15)
  {f16:Addr} {d16:ak} (VN:FG K lU "__init__" "Uncurl.__init__" (mZ 36 0) f16 d16)
  {f17:Addr} {d17:ak} (Zj:FG K lV "__init__" "Curl.__init__" (mZ 37 0) f17 d17)
  {f18:Addr} {d18:ak} (Zi:FG K wo "__init__" "Part.__init__" (mZ 38 0) f18 d18)
  {f19:Addr} {d19:ak} (Zh:FG K qQ "__init__" "Lay.__init__" (mZ 39 0) f19 d19)
  {f20:Addr} {d20:ak} (Zg:FG K mB "__init__" "Slide.__init__" (mZ 40 0) f20 d20)
  {f21:Addr} {d21:ak} (TU:At K "move_of" (top 41) f21 d21)
  {f22:Addr} {d22:ak} (Q9:At K "names_of" (top 13) f22 d22)
  {f23:Addr} {d23:ak} (TR:At K "refuse_new" (top 28) f23 d23)
  {f24:Addr} {d24:ak} (TQ:At K "spots_on" (top 15) f24 d24)
  {f25:Addr} {d25:ak} (WE:At K "string_of" (top 17) f25 d25)
  {f26:Addr} {d26:ak} (TN:At K "with_put" (top 29) f26 d26)
  {f27:Addr} {d27:ak} (WD:FG K lV "done" "Curl.done" (mZ 37 2) f27 d27)
  {f28:Addr} {d28:ak} (WC:FG K qQ "done" "Lay.done" (mZ 39 3) f28 d28)
  {f29:Addr} {d29:ak} (WB:At K "with_spare" (top 56) f29 d29)
  {f30:Addr} {d30:ak} (WA:At K "refuse_new" (top 28) f30 d30)
  {f31:Addr} {d31:ak} (Zf:FG K lV "done" "Curl.done" (mZ 37 2) f31 d31)
  {f32:Addr} {d32:ak} (Ze:FG K lV "back" "Curl.back" (mZ 37 3) f32 d32)
  {f33:Addr} {d33:ak} (Zd:FG K lU "renamed" "Uncurl.renamed" (mZ 36 5) f33 d33)
  {f34:Addr} {d34:ak} (Zc:FG K lU "told" "Uncurl.told" (mZ 36 1) f34 d34)
  {f35:Addr} {d35:ak} (Wz:At K "back_row" (top 57) f35 d35)
  {f36:Addr} {d36:ak} (Wy:At K "step" (top 54) f36 d36)
  {f37:Addr} {d37:ak} (Wx:At K "walked" (top 55) f37 d37)
  {f38:Addr} {d38:ak} (Ww:At K "_law_asked" (top 65) f38 d38)
  {f39:Addr} {d39:ak} (F39:At K "law" (top 66) f39 d39)
  (TZ:autoParam (bz K aT "len" = some none) Aq._auto_1) (LJ:autoParam (bz K aT "sorted" = some none) Aq._auto_1) (OU:autoParam (bz K aT "range" = some none) Aq._auto_1) (TY:autoParam (bz K aT "min" = some none) Aq._auto_1) (DD:autoParam (bz K aT "enumerate" = some none) Aq._auto_1) (Rj:autoParam (bz K aT "list" = some none) Aq._auto_1) (Rk:autoParam (bz K aT "dict" = some none) Aq._auto_1) (Gb:autoParam (bz K aT "reversed" = some none) Aq._auto_1) (BD:autoParam (bz K aT "ValueError" = some none) Aq._auto_1) (BC:autoParam (bz K aT "isinstance" = some none) Aq._auto_1) (OT:autoParam (bz K aT "tuple" = some none) Aq._auto_1) {bC:Addr} (di:autoParam (bz K aT "TooMany" = some (some (.ref bC))) Aq._auto_1) (gC:autoParam (cN K bC [.type "ValueError",.type "Exception",.type "BaseException",.type "object"] "ValueError.__new__" = true) Ax._auto_1) (Gm:autoParam (aU K (.ref bC) "__getattribute__" = some (some (.builtin "BaseException.__getattribute__"))) Af._auto_1) (Gk:autoParam (aU K (.ref bC) "__getattr__" = some none) Af._auto_1) (Gj:autoParam (aU K (.ref bC) "__class__" = some (some (.builtin "object.__class__"))) Af._auto_1) (Gi:autoParam (px K (.builtin "object.__class__") "__get__" = some (some (.builtin "getset_descriptor.__get__"))) Af._auto_1) (Gh:autoParam (sv K (.builtin "object.__class__")=some true) Af._auto_1) (Gg:autoParam (iI K bC (.type "object")=some true) Af._auto_1) (Gf:autoParam (iI K bC (.type "BaseException")=some true) Af._auto_1) (Ge:autoParam ((w7 K bC).isSome=true) Af._auto_1) {cZ:Addr} (oa:autoParam (bz K aT "NameTaken" = some (some (.ref cZ))) Aq._auto_1) (oF:autoParam (cN K cZ [.type "ValueError",.type "Exception",.type "BaseException",.type "object"] "ValueError.__new__" = true) Ax._auto_1) (BS:autoParam (aU K (.ref cZ) "__getattribute__" = some (some (.builtin "BaseException.__getattribute__"))) Af._auto_1) (BQ:autoParam (aU K (.ref cZ) "__getattr__" = some none) Af._auto_1) (BO:autoParam (aU K (.ref cZ) "__class__" = some (some (.builtin "object.__class__"))) Af._auto_1) (BM:autoParam (px K (.builtin "object.__class__") "__get__" = some (some (.builtin "getset_descriptor.__get__"))) Af._auto_1) (BK:autoParam (sv K (.builtin "object.__class__")=some true) Af._auto_1) (BI:autoParam (iI K cZ (.type "object")=some true) Af._auto_1) (BG:autoParam (iI K cZ (.type "BaseException")=some true) Af._auto_1) (BE:autoParam ((w7 K cZ).isSome=true) Af._auto_1) {cw:Addr} (og:autoParam (bz K aT "KnotError" = some (some (.ref cw))) Aq._auto_1) (kY:autoParam (cN K cw [.type "ValueError",.type "Exception",.type "BaseException",.type "object"] "ValueError.__new__" = true) Ax._auto_1) (BU:autoParam (aU K (.ref cw) "__getattribute__" = some (some (.builtin "BaseException.__getattribute__"))) Af._auto_1) (BR:autoParam (aU K (.ref cw) "__getattr__" = some none) Af._auto_1) (BP:autoParam (aU K (.ref cw) "__class__" = some (some (.builtin "object.__class__"))) Af._auto_1) (BN:autoParam (px K (.builtin "object.__class__") "__get__" = some (some (.builtin "getset_descriptor.__get__"))) Af._auto_1) (BL:autoParam (sv K (.builtin "object.__class__")=some true) Af._auto_1) (BJ:autoParam (iI K cw (.type "object")=some true) Af._auto_1) (BH:autoParam (iI K cw (.type "BaseException")=some true) Af._auto_1) (BF:autoParam ((w7 K cw).isSome=true) Af._auto_1) {dM:Addr} (vI:autoParam (bz K aT "NoSpot" = some (some (.ref dM))) Aq._auto_1) (A9:autoParam (cN K dM [.type "ValueError",.type "Exception",.type "BaseException",.type "object"] "ValueError.__new__" = true) Ax._auto_1) (JE:autoParam (aU K (.ref dM) "__getattribute__" = some (some (.builtin "BaseException.__getattribute__"))) Af._auto_1) (JD:autoParam (aU K (.ref dM) "__getattr__" = some none) Af._auto_1) (JC:autoParam (aU K (.ref dM) "__class__" = some (some (.builtin "object.__class__"))) Af._auto_1) (JB:autoParam (px K (.builtin "object.__class__") "__get__" = some (some (.builtin "getset_descriptor.__get__"))) Af._auto_1) (JA:autoParam (sv K (.builtin "object.__class__")=some true) Af._auto_1) (Jz:autoParam (iI K dM (.type "object")=some true) Af._auto_1) (Jy:autoParam (iI K dM (.type "BaseException")=some true) Af._auto_1) (Jx:autoParam ((w7 K dM).isSome=true) Af._auto_1) (sN:autoParam (cG K (.type "NoneType") (.ref bC)=some false) Az._auto_1) (vQ:autoParam (cG K (.type "NoneType") (.ref dM)=some false) Az._auto_1) (iZ:autoParam (cG K (.ref bC) (.ref bC)=some true) Az._auto_1) (jn:autoParam (cG K (.ref bC) (.ref dM)=some false) Az._auto_1) (sM:autoParam (cG K (.ref bC) (.type "ValueError")=some true) Az._auto_1) {qh:Value} {qg:Option Addr} {ko:ClassData} {pR:Array (Option Value)} (qp:autoParam (K.lookup bC=some ⟨qh,qg,.cls ko,pR⟩) Aq._auto_1) (qj:autoParam (ko.mro.contains (.ref cw)=true) Ae._auto_1) {fW:Tok} (mr:autoParam (bz K aT "MOST_CROSSINGS" = some (some (.int 12 fW))) Aq._auto_1) (lJ:autoParam (aU K (.ref lU) "name" = some none) Aq._auto_1) (kT:autoParam (aU K (.ref lV) "name" = some none) Aq._auto_1) (oi:autoParam (aU K (.ref lV) "spot" = some none) Aq._auto_1) (mK:autoParam (aU K (.ref lV) "first" = some none) Aq._auto_1) (oj:autoParam (aU K (.ref lV) "hand" = some none) Aq._auto_1) (Cm:autoParam (aU K (.ref wo) "name" = some none) Aq._auto_1) (yB:autoParam (aU K (.ref wo) "second" = some none) Aq._auto_1) (wJ:autoParam (aU K (.ref qQ) "name" = some none) Aq._auto_1) (r8:autoParam (aU K (.ref qQ) "second" = some none) Aq._auto_1) (D7:autoParam (aU K (.ref qQ) "over" = some none) Aq._auto_1) (Cn:autoParam (aU K (.ref qQ) "under" = some none) Aq._auto_1) (zW:autoParam (aU K (.ref qQ) "turned" = some none) Aq._auto_1) (D8:autoParam (aU K (.ref qQ) "hand" = some none) Aq._auto_1) (zV:autoParam (aU K (.ref mB) "name" = some none) Aq._auto_1) (xg:autoParam (aU K (.ref mB) "second" = some none) Aq._auto_1) (yA:autoParam (aU K (.ref mB) "third" = some none) Aq._auto_1) (zU:autoParam (aU K (.ref mB) "turn" = some none) Aq._auto_1) (vL:autoParam (iB K lU=true) Aq._auto_1) (vS:autoParam (cH K (.ref lU)=true) Aq._auto_1) (PD:autoParam (iB K lV=true) Aq._auto_1) (PO:autoParam (cH K (.ref lV)=true) Aq._auto_1) (PC:autoParam (iB K wo=true) Aq._auto_1) (PN:autoParam (cH K (.ref wo)=true) Aq._auto_1) (R6:autoParam (iB K qQ=true) Aq._auto_1) (Sh:autoParam (cH K (.ref qQ)=true) Aq._auto_1) (ML:autoParam (iB K mB=true) Aq._auto_1) (M3:autoParam (cH K (.ref mB)=true) Aq._auto_1) (hcL:autoParam (d14.code=.ref cL) Ar._auto_1) :
  ∃ fd:ak,(∀ (s:au) (v:Value),BindsTo s fd ⟨[v],[]⟩ [("_law_script",v)])/\∀ base:Heap,K.In base->base.Ns aT mg->Dk mg base cL Pt->cU l.prog w K mg base ff 9 fa fd ["_law_script"] (kj (Tb Pt "settling.<locals>.<lambda>") K K2.AN):=by
 have e:=hfa.symm.trans (cz X G F39.a);cases e;have b0:=F0.F.binds (ps:=["_law_script","_law_k"]) fun _ _ _ _ _ _ us hl=>by obtain⟨_,_,rfl⟩:=oB hl; rfl
 have b1:=F1.F.binds (ps:=["_law_cell_here"]) fun _ _ _ _ _ _ us hl=>by obtain⟨_,rfl⟩:=rF hl; rfl
 have b2:=F2.F.binds (ps:=["_law_rows"]) fun _ _ _ _ _ _ us hl=>by obtain⟨_,rfl⟩:=rF hl; rfl
 have b3:=F3.F.binds (ps:=["_law_rows","_law_cell_here"]) fun _ _ _ _ _ _ us hl=>by obtain⟨_,_,rfl⟩:=oB hl; rfl
 have b4:=F4.F.binds (ps:=["_law_cell_here"]) fun _ _ _ _ _ _ us hl=>by obtain⟨_,rfl⟩:=rF hl; rfl
 have b5:=F5.F.binds (ps:=["lists"]) fun _ _ _ _ _ _ us hl=>by obtain⟨_,rfl⟩:=rF hl; rfl
 have b6:=F6.F.binds (ps:=["row"]) fun _ _ _ _ _ _ us hl=>by obtain⟨_,rfl⟩:=rF hl; rfl
 have b7:=F7.F.binds (ps:=["rows"]) fun _ _ _ _ _ _ us hl=>by obtain⟨_,rfl⟩:=rF hl; rfl
 have b8:=F8.F.binds (ps:=["rows"]) fun _ _ _ _ _ _ us hl=>by obtain⟨_,rfl⟩:=rF hl; rfl
 have b9:=F9.F.binds (ps:=["row"]) fun _ _ _ _ _ _ us hl=>by obtain⟨_,rfl⟩:=rF hl; rfl
 have Y1:=Rb.F.binds (ps:=["rows"]) fun _ _ _ _ _ _ us hl=>by obtain⟨_,rfl⟩:=rF hl; rfl
 have b11:=WI.F.binds (ps:=["row","names"]) fun _ _ _ _ _ _ us hl=>by obtain⟨_,_,rfl⟩:=oB hl; rfl
 have b12:=WH.F.binds (ps:=["drawing","names"]) fun _ _ _ _ _ _ us hl=>by obtain⟨_,_,rfl⟩:=oB hl; rfl
 have b13:=WG.F.binds (ps:=["rows"]) fun _ _ _ _ _ _ us hl=>by obtain⟨_,rfl⟩:=rF hl; rfl
 have b14:=TV.F.binds (ps:=["drawing"]) fun _ _ _ _ _ _ us hl=>by obtain⟨_,rfl⟩:=rF hl; rfl
 have Y0:=Ra.F.binds (ps:=["drawing"]) fun _ _ _ _ _ _ us hl=>by obtain⟨_,rfl⟩:=rF hl; rfl
 have YZ:=VN.F.binds (ps:=["self","name"]) fun _ _ _ _ _ _ us hl=>by obtain⟨_,_,rfl⟩:=oB hl; rfl
 have b17:=Zj.F.binds (ps:=["self","name","spot","first","hand"]) fun _ _ _ _ _ _ us hl=>by obtain⟨_,_,_,_,_,rfl⟩:=UO hl; rfl
 have b18:=Zi.F.binds (ps:=["self","name","second"]) fun _ _ _ _ _ _ us hl=>by obtain⟨_,_,_,rfl⟩:=PL hl; rfl
 have b19:=Zh.F.binds (ps:=["self","name","second","over","under","turned","hand"]) fun _ _ _ _ _ _ us hl=>by obtain⟨_,_,_,_,_,_,_,rfl⟩:=XH hl; rfl
 have b20:=Zg.F.binds (ps:=["self","name","second","third","turn"]) fun _ _ _ _ _ _ us hl=>by obtain⟨_,_,_,_,_,rfl⟩:=UO hl; rfl
 have b21:=TU.F.binds (ps:=["told"]) fun _ _ _ _ _ _ us hl=>by obtain⟨_,rfl⟩:=rF hl; rfl
 have YY:=Q9.F.binds (ps:=["drawing"]) fun _ _ _ _ _ _ us hl=>by obtain⟨_,rfl⟩:=rF hl; rfl
 have b23:=TR.F.binds (ps:=["drawing","names"]) fun _ _ _ _ _ _ us hl=>by obtain⟨_,_,rfl⟩:=oB hl; rfl
 have b24:=TQ.F.binds (ps:=["row","string"]) fun _ _ _ _ _ _ us hl=>by obtain⟨_,_,rfl⟩:=oB hl; rfl
 have b25:=WE.F.binds (ps:=["drawing","spot"]) fun _ _ _ _ _ _ us hl=>by obtain⟨_,_,rfl⟩:=oB hl; rfl
 have b26:=TN.F.binds (ps:=["drawing","spot","passings"]) fun _ _ _ _ _ _ us hl=>by obtain⟨_,_,_,rfl⟩:=PL hl; rfl
 have b27:=WD.F.binds (ps:=["self","drawing"]) fun _ _ _ _ _ _ us hl=>by obtain⟨_,_,rfl⟩:=oB hl; rfl
 have b28:=WC.F.binds (ps:=["self","drawing"]) fun _ _ _ _ _ _ us hl=>by obtain⟨_,_,rfl⟩:=oB hl; rfl
 have b29:=WB.F.binds (ps:=["names","drawing"]) fun _ _ _ _ _ _ us hl=>by obtain⟨_,_,rfl⟩:=oB hl; rfl
 have b30:=WA.F.binds (ps:=["drawing","names"]) fun _ _ _ _ _ _ us hl=>by obtain⟨_,_,rfl⟩:=oB hl; rfl
 have b31:=Zf.F.binds (ps:=["self","drawing"]) fun _ _ _ _ _ _ us hl=>by obtain⟨_,_,rfl⟩:=oB hl; rfl
 have b32:=Ze.F.binds (ps:=["self","drawing"]) fun _ _ _ _ _ _ us hl=>by obtain⟨_,_,rfl⟩:=oB hl; rfl
 have b33:=Zd.F.binds (ps:=["self","names"]) fun _ _ _ _ _ _ us hl=>by obtain⟨_,_,rfl⟩:=oB hl; rfl
 have b34:=Zc.F.binds (ps:=["self"]) fun _ _ _ _ _ _ us hl=>by obtain⟨_,rfl⟩:=rF hl; rfl
 have b35:=Wz.F.binds (ps:=["drawing","row"]) fun _ _ _ _ _ _ us hl=>by obtain⟨_,_,rfl⟩:=oB hl; rfl
 have b36:=Wy.F.binds (ps:=["drawing","told"]) fun _ _ _ _ _ _ us hl=>by obtain⟨_,_,rfl⟩:=oB hl; rfl
 have b37:=Wx.F.binds (ps:=["drawing","row"]) fun _ _ _ _ _ _ us hl=>by obtain⟨_,_,rfl⟩:=oB hl; rfl
 have b38:=Ww.F.binds (ps:=["_law_rows","_law_row","_law_back"]) fun _ _ _ _ _ _ us hl=>by obtain⟨_,_,_,rfl⟩:=PL hl; rfl
 have dc:=cM X G TZ;have lp:=cM X G LJ;have jm:=cM X G OU;have vJ:=cM X G TY;have oh:=cM X G DD;have j8:=cM X G Rj;have no_dict:=cM X G Rk;have qi:=cM X G Gb;have mJ:=cM X G BD;have fP:=cM X G BC;have yz:=cM X G OT;have gy:nV K bC:=⟨Gm,Gk,Gj,Gi,Gh,Gg,Gf,Ge⟩;have tR:nV K cZ:=⟨BS,BQ,BO,BM,BK,BI,BG,BE⟩;have tS:nV K cw:=⟨BU,BR,BP,BN,BL,BJ,BH,BF⟩;have AK:nV K dM:=⟨JE,JD,JC,JB,JA,Jz,Jy,Jx⟩;have fE:subIn K bC (.ref cw)=true:=by unfold subIn; rw [qp]; exact qj
 obtain⟨Fa,Fl⟩:=F39;obtain⟨oc,od,kV,doc,pm,an,iH,ct,FA,rfl,lk,zL⟩:=Fl.ex;refine⟨iC "law" "law" (iV (top 66)) (eG (top 66)) (aH (top 66)) .none kV doc pm an iH ct,fun s v=>.of_eq rfl,fun base _ _ hl=>?_⟩;have ok0:=EB (P:=l.prog) (w:=w) (mg:=mg) (base:=base) F0.F dc;have ok1:=z7 (P:=l.prog) (w:=w) (mg:=mg) (base:=base) F1.F;have Xo:=CC (P:=l.prog) (w:=w) (mg:=mg) (base:=base) F2.F lp;have Ux:=CD (P:=l.prog) (w:=w) (mg:=mg) (base:=base) F3.F dc jm ⟨ok1,F1.mg X G,F1.F.kp,b1⟩ ⟨Xo,F2.mg X G,F2.F.kp,b2⟩;have ok4:=EA (P:=l.prog) (w:=w) (mg:=mg) (base:=base) F4.F;have ok5:=za (P:=l.prog) (w:=w) (mg:=mg) (base:=base) F5.F;have ok6:=z8 (P:=l.prog) (w:=w) (mg:=mg) (base:=base) F6.F dc jm;have Zy:=y9 (P:=l.prog) (w:=w) (mg:=mg) (base:=base) F7.F;have ok8:=xj (P:=l.prog) (w:=w) (mg:=mg) (base:=base) F8.F dc ⟨Zy,F7.mg X G,F7.F.kp,b7⟩;have ok9:=Kw (P:=l.prog) (w:=w) (mg:=mg) (base:=base) F9.F vJ;have RW:=y4 (P:=l.prog) (w:=w) (mg:=mg) (base:=base) Rb.F ⟨ok9,F9.mg X G,F9.F.kp,b9⟩;have Xv:=y7 (P:=l.prog) (w:=w) (mg:=mg) (base:=base) WI.F;have Xu:=xi (P:=l.prog) (w:=w) (mg:=mg) (base:=base) WH.F ⟨Xv,WI.mg X G,WI.F.kp,b11⟩;have Xs:=vV (P:=l.prog) (w:=w) (mg:=mg) (base:=base) WG.F ⟨ok8,F8.mg X G,F8.F.kp,b8⟩ ⟨RW,Rb.mg X G,Rb.F.kp,Y1⟩ ⟨Xu,WH.mg X G,WH.F.kp,b12⟩;have UE:=Ey (P:=l.prog) (w:=w) (mg:=mg) (base:=base) hl hcL TV.F vJ ⟨ok5,F5.mg X G,F5.F.kp,b5⟩ ⟨ok6,F6.mg X G,F6.F.kp,b6⟩ ⟨Xs,WG.mg X G,WG.F.kp,b13⟩;have RV:=Hm (P:=l.prog) (w:=w) (mg:=mg) (base:=base) Ra.F ⟨UE,TV.mg X G,TV.F.kp,b14⟩;have RU:=sS (P:=l.prog) (w:=w) (mg:=mg) (base:=base) VN.F (gj.fld lJ);have Xr:=vX (P:=l.prog) (w:=w) (mg:=mg) (base:=base) Zj.F (eW.fld kT) (eW.fld oi) (eW.fld mK) (eW.fld oj);have Xq:=vW (P:=l.prog) (w:=w) (mg:=mg) (base:=base) Zi.F (xY.fld Cm) (xY.fld yB);have Xp:=xk (P:=l.prog) (w:=w) (mg:=mg) (base:=base) Zh.F (kC.fld wJ) (kC.fld r8) (kC.fld D7) (kC.fld Cn) (kC.fld zW) (kC.fld D8);have Xn:=uX (P:=l.prog) (w:=w) (mg:=mg) (base:=base) Zg.F (nT.fld zV) (nT.fld xg) (nT.fld yA) (nT.fld zU);have UD:=Hn (P:=l.prog) (w:=w) (mg:=mg) (base:=base) TU.F ⟨RU,YZ,VN.maker vL vS,gj.ns,cz X G gj.ns⟩ ⟨Xr,b17,Zj.maker PD PO,eW.ns,cz X G eW.ns⟩ ⟨Xq,b18,Zi.maker PC PN,xY.ns,cz X G xY.ns⟩ ⟨Xp,b19,Zh.maker R6 Sh,kC.ns,cz X G kC.ns⟩ ⟨Xn,b20,Zg.maker ML M3,nT.ns,cz X G nT.ns⟩;have RT:=Ez (P:=l.prog) (w:=w) (mg:=mg) (base:=base) Q9.F lp ⟨Zy,F7.mg X G,F7.F.kp,b7⟩;have UC:=y8 (P:=l.prog) (w:=w) (mg:=mg) (base:=base) TR.F dc di (cz X G di) gC gy oa (cz X G oa) oF tR (cz X G mr) ⟨RT,Q9.mg X G,Q9.F.kp,YY⟩;have UB:=Ew (P:=l.prog) (w:=w) (mg:=mg) (base:=base) TQ.F;have Xm:=CB (P:=l.prog) (w:=w) (mg:=mg) (base:=base) WE.F oh ⟨UB,TQ.mg X G,TQ.F.kp,b24⟩;have UA:=Eu (P:=l.prog) (w:=w) (mg:=mg) (base:=base) TN.F j8 ⟨Xm,WE.mg X G,WE.F.kp,b25⟩ ⟨UB,TQ.mg X G,TQ.F.kp,b24⟩;have Uz:=z9 (P:=l.prog) (w:=w) (mg:=mg) (base:=base) WD.F (eW.fld kT) (eW.fld oj) (eW.fld mK) (eW.fld oi) ⟨UC,TR.mg X G,TR.F.kp,b23⟩ ⟨RW,Rb.mg X G,Rb.F.kp,Y1⟩ ⟨UA,TN.mg X G,TN.F.kp,b26⟩;have Uy:=CH (P:=l.prog) (w:=w) (mg:=mg) (base:=base) WC.F (kC.fld r8) (kC.fld wJ) ⟨UC,TR.mg X G,TR.F.kp,b23⟩;have Xl:=z5 (P:=l.prog) (w:=w) (mg:=mg) (base:=base) WB.F no_dict dc ⟨RT,Q9.mg X G,Q9.F.kp,YY⟩;have Xk:=z6 (P:=l.prog) (w:=w) (mg:=mg) (base:=base) WA.F dc (cz X G mr) ⟨RT,Q9.mg X G,Q9.F.kp,YY⟩;have Xj:=CI (P:=l.prog) (w:=w) (mg:=mg) (base:=base) Zf.F (eW.fld kT) (eW.fld oj) (eW.fld mK) (eW.fld oi) ⟨Xk,WA.mg X G,WA.F.kp,b30⟩ ⟨RW,Rb.mg X G,Rb.F.kp,Y1⟩ ⟨UA,TN.mg X G,TN.F.kp,b26⟩;have Xi:=CJ (P:=l.prog) (w:=w) (mg:=mg) (base:=base) Ze.F (eW.fld kT) ⟨Xj,b31,Zf.me eW⟩ ⟨RU,YZ,VN.maker vL vS,gj.ns,cz X G gj.ns⟩;have Xh:=uW (P:=l.prog) (w:=w) (mg:=mg) (base:=base) Zd.F (gj.fld lJ) ⟨RU,YZ,VN.maker vL vS,gj.ns,cz X G gj.ns⟩;have Xg:=zb (P:=l.prog) (w:=w) (mg:=mg) (base:=base) Zc.F (gj.fld lJ);have Xf:=CG (P:=l.prog) (w:=w) (mg:=mg) (base:=base) Wz.F j8 qi ⟨RV,Ra.mg X G,Ra.F.kp,Y0⟩ ⟨UD,TU.mg X G,TU.F.kp,b21⟩ ⟨UE,TV.mg X G,TV.F.kp,b14⟩ ⟨Uz,b27,WD.me eW⟩ ⟨Uy,b28,WC.me kC⟩ ⟨Xl,WB.mg X G,WB.F.kp,b29⟩ ⟨Xi,b32,Ze.me eW⟩ ⟨Xh,b33,Zd.me gj⟩ ⟨Xg,b34,Zc.me gj⟩;have Xe:=ND (P:=l.prog) (w:=w) (mg:=mg) (base:=base) Wy.F ⟨RV,Ra.mg X G,Ra.F.kp,Y0⟩ ⟨UD,TU.mg X G,TU.F.kp,b21⟩ ⟨Uz,b27,WD.me eW⟩ ⟨Uy,b28,WC.me kC⟩;have Xd:=Hl (P:=l.prog) (w:=w) (mg:=mg) (base:=base) Wx.F ⟨RV,Ra.mg X G,Ra.F.kp,Y0⟩ ⟨Xe,Wy.mg X G,Wy.F.kp,b36⟩;have Xb:=CF (P:=l.prog) (w:=w) (mg:=mg) (base:=base) Ww.F di (cz X G di) gC gy og (cz X G og) kY tS fE ⟨Xf,Wz.mg X G,Wz.F.kp,b35⟩ ⟨Xd,Wx.mg X G,Wx.F.kp,b37⟩;exact SV Fl mJ fP dc j8 jm yz di (cz X G di) gC gy vI (cz X G vI) A9 AK sN vQ iZ jn sM ⟨ok0,F0.mg X G,F0.F.kp,b0⟩ ⟨Ux,F3.mg X G,F3.F.kp,b3⟩ ⟨ok4,F4.mg X G,F4.F.kp,b4⟩ ⟨Xb,Ww.mg X G,Ww.F.kp,b38⟩ ⟨Xo,F2.mg X G,F2.F.kp,b2⟩
end Fin
end Internal
open Internal
open PySem PySem.W PyProof.Rows
set_option maxRecDepth 100000 in
set_option maxHeartbeats 0 in
theorem PySem.Challenge.cw_knotwise_k78_too_many_walked_holds : PySem.Challenge.rw_knotwise_k78_too_many_walked.Holds := by
 w_on
 refine K2.Kr (q:=Fin.hQ) (K:=Fin.hK) (as:=Fin.hA) (N:=(12+(1+(2796+2300)))) Fin.SO (by kernel_rfl) (by kernel_rfl) (fun _=>by kernel_rfl) (fun _=>by kernel_rfl) Fin.SQ (by rfl) (by rfl) (by rfl) (by rfl) Fin.SM ⟨rfl,rfl,rfl,rfl,rfl,by decide +kernel⟩ ?hw ?hc
 (case hw=>w_witness2)
 k_fill
 refine K2.Kh (c:=568) (P:=566) (y:="settling") (qn:="settling.<locals>.<lambda>") (l:=PySem.Challenge.rw_knotwise_k78_too_many_walked) (k:=9) (x:="_law_script") rfl rfl ⟨rfl,by decide,by decide⟩ (fun w h Y=>Y) (by kernel_rfl) (fun _=>by kernel_rfl) (fun _=>by kernel_rfl) ?F
 case F =>
  intro w mg fa h KX G U6;exact Fin.all_mk KX G U6 K2.zq K2.zq K2.zq K2.zq K2.zq K2.fM K2.fM K2.fM K2.fM K2.fM K2.fM K2.fM K2.fM K2.fM K2.fM K2.fM K2.fM K2.fM K2.fM K2.fM K2.fM K2.lK K2.lK K2.lK K2.lK K2.lK K2.fM K2.fM K2.fM K2.fM K2.fM K2.fM K2.lK K2.lK K2.fM K2.fM K2.lK K2.lK K2.lK K2.lK K2.fM K2.fM K2.fM K2.fM K2.fM
