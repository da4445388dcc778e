import PyProof.Rows.All
import Wide.All
import OpenK.AllK
import Wide.FinOn
import Lean
import PyProof.EqAt
import PyProof.EqKinds
import PyProof.TupleCall
import PySem.Challenge.RW_knotwise_k22_lays_there_and_back
open Array renaming mk -> lC, length_toList -> lG, getD -> Kg
open Array.Perm renaming refl -> oi
open Bool renaming false_eq_true -> ai, not_true -> aK, and_eq_true -> aZ, not_false -> bp, noConfusion -> cU, false_ne_true -> jZ, and_eq_true_iff -> kO, or_eq_true -> mO, true_and -> pO, false_or -> B9, false_and -> Ke, and_false -> Kf, beq_eq_decide_eq -> P0
open Classical renaming byContradiction -> DW
open False renaming elim -> bT
open ForInStep renaming yield -> uk
open Int renaming toNat_natCast -> jk, emod_lt_of_pos -> rM, emod_nonneg -> xH
open List renaming getElem?_cons_zero -> aa, getElem?_cons_succ -> ae, length_cons -> ag, set_cons_zero -> ak, set_cons_succ -> ao, map_cons -> aq, length_nil -> au, length_map -> ax, cons_append -> aB, nil_append -> aG, map_append -> aJ, length_append -> aL, map_nil -> aO, getElem?_eq_getElem -> aP, mem_cons_of_mem -> aU, replicate -> a0, size_toArray -> a9, mem_cons_self -> bb, mem_append_right -> bN, flatten_cons -> bP, getElem?_append_right -> bQ, append_assoc -> bW, filter_append -> cI, getElem?_append_left -> cN, flatMap_cons -> cO, not_mem_nil -> cR, length_take -> cS, length_drop -> cT, mem_append_left -> cZ, take_append_drop -> da, append_nil -> dc, mem_cons -> dD, length -> dE, getElem_map -> dI, getElem?_map -> dJ, getD_eq_getElem?_getD -> eQ, mem_of_getElem? -> eX, range -> e7, nodup_cons -> ff, getElem_mem -> fg, length_range -> fA, length_singleton -> gB, length_replicate -> gC, find?_cons -> gE, getElem?_set_self -> iz, mem_singleton -> iO, drop_eq_getElem_cons -> iQ, nodup_append -> jf, map_map -> jt, flatMap_append -> jv, getElem?_set_ne -> kM, getElem?_of_mem -> kN, nodup_nil -> lB, map_congr_left -> lL, getElem?_replicate -> mK, filter_cons_of_neg -> mL, append_of_mem -> mM, take_of_length_le -> nc, drop_eq_nil_of_le -> ng, length_filter_le -> oh, lookup_cons -> oC, idxOf_le_length -> o8, any_cons -> pN, mem_map_of_mem -> qo, lookup -> qp, length_set -> qr, length_reverse -> qt, foldl_cons -> qu, flatten_append -> qw, zipIdx_append -> rG, getElem_range -> rH, find?_eq_none -> rJ, pairwise_map -> tQ, isEmpty_cons -> tR, filter_congr -> tS, map_take -> uD, map_drop -> uE, zipIdx_cons -> uU, isEmpty_nil -> uV, filter_cons -> uW, idxOf_cons_self -> yv, getElem?_range -> zK, filterMap_cons -> zL, filter -> zM, take_nil -> B6, ne_nil_of_mem -> B7, drop_nil -> B8, idxOf_append -> CZ, find?_append -> C0, set_nil -> DT, take_append_of_le_length -> FF, all_eq_true -> FG, countP_eq_length_filter -> FT, perm_append_comm_assoc -> Il, of_mem_zip -> Im, mem_append -> Io, take_left -> Kb, mem_of_find?_eq_some -> Kc, drop_left -> Kd, length_erase_of_mem -> Lv, pairwise_mergeSort -> M0, filter_cons_of_pos -> M3, all_cons -> M4, length_pos_of_mem -> Nq, getElem_cons_succ -> Nr, find?_cons_of_pos -> Nt, find?_cons_of_neg -> Nu, drop_of_length_le -> Nv, getElem?_eq_none -> PW, eq_nil_or_concat -> PX, all_map -> PY, mem_of_mem_drop -> Qi, mem_erase_of_ne -> Qj, getElem?_zipIdx -> Qk
open List.Nodup renaming sublist -> Lw
open List.Perm renaming swap -> DU, eq_of_pairwise -> FH
open Nat renaming le_refl -> aT, ne_of_lt -> bS, lt_of_lt_of_le -> bV, zero_le -> cX, le_trans -> eC, lt_irrefl -> jA, le_of_ble_eq_true -> ko, lt_succ_self -> lJ, zero_add -> ou, min_eq_left -> qz, add_sub_cancel_left -> uT, succ_le_succ -> vC, le_add_right -> vD, le_of_succ_le_succ -> vI, le_succ -> Ax, lt_succ_of_lt -> DS, not_lt_zero -> IE, le_of_lt -> Qh
open Ne renaming symm -> gv
open Option renaming isSome_map -> B5
open Option.some renaming inj -> bY
open Prod.mk renaming injEq -> ID
open PyProof.Rows renaming callWith_type1 -> fi, IntsAre -> nI, slot_tuple_getitem -> xt, callWith_builtin1 -> xE, seqObj -> Aj, AllBare -> DX, envOfC -> FQ
open PySem renaming FuncData -> ay, Shared -> aF, wpAny_bind -> aQ, sizeLine -> br, mainGlobals -> bu, wpAny_pure -> bM, Program -> bU, starEach -> cq, wpAny_loadPart' -> cx, sizeLine_eq -> dm, bootBuiltins -> eN, Around -> eO, compareOp -> gw, ReadsAll -> iN, mem_of_lookup -> jr, treeTable -> jy, wpAny_passesOwn -> kQ, wpAny_newObj_type -> lD, wpAny_holding -> lE, binaryOp -> lF, OsState -> mP, sysModules -> mT, wpAny_Call_Name_kw -> nC, importedModules -> nE, backTo -> nG, Params -> nH, foldedSetIterable -> o6, plainId_quiet -> rF, sliceBounds -> rO, richCompare -> rP, codeAny_builtin -> rR, argBest -> rS, tupleKind_room_in1 -> uB, NameKind -> uC, wpAny_truthy_bool -> vE, codeAny -> xB, attributeBase -> xC, richCompare_meets_room -> ze, wpAny_updateSeq -> Ag, wpAny_execs_nil -> Ah, letOwnedTupleGo -> Ap, call_meets -> B3, assignEach -> B4, wpAny_tryCatch -> CW, keywordEach -> DP, swapsWith -> FP, wpAny_truthy_dict -> Iv, wpAny_mono -> Iw, relabel -> Iy, callerA -> Iz, wpAny_callSpecialIfBound?_slot -> J2, codeAny_mono -> J3, call -> J7, wpAny_letGo -> Nd, valueAt -> Nf, tupleKind -> Ng, holding -> Ni, getItem -> Nj, assign -> Nk, Within -> Np, Keyword -> Nw, BindsTo -> Nx, wpAny_seqItems -> Qf
open PySem.Around renaming under_plainId -> kD, under -> M5
open PySem.AutoSeq1 renaming sub_tuple_tuple -> qY, sub_list_list -> IG
open PySem.Builtin.Builtins renaming bindParams -> xw
open PySem.Builtin.List renaming listTooLong -> kq
open PySem.Builtin.Slice renaming slicePlaces -> jY, sliceAdjust -> ow, sliceApplied -> zN
open PySem.Builtin.Tuple renaming tupleExact -> kh, tupleCompareSizes -> vJ
open PySem.Calls renaming spliced_cons -> Az, Name_function_global -> Ip
open PySem.Code renaming isFrame -> PZ
open PySem.F renaming plainAttrs_list -> bx, type_list_append -> cF, slot_list_append -> cG, slot_list_index -> jj, plain_min_loop -> jX, type_list_index -> lN, slot_tuple_lt -> mZ, args_tuple_lt_2 -> rV, entry_tuple_lt -> uj, slot_list_lt -> vG, args_tuple_add_2 -> Ik, entry_tuple_add -> IC, entry_min_loop -> IF, slot_tuple_add -> J9, args_list_lt_2 -> Ka, entry_list_lt -> Lu
open PySem.Heap renaming get?_push_of_some -> aY, lt_size -> bc, get?_push_size -> cf, get?_update_other -> dM, size_push -> jI, get?_update_self -> xu, SameBut -> DV, size_update -> FI, get?_none_of_le -> Ql
open PySem.Heap.IsSliceOf renaming new -> FU
open PySem.NameKind renaming free -> lK
open PySem.Obj renaming mapSeq -> jT
open PySem.Paired renaming length -> zJ
open PySem.PassesOwn renaming never -> bh
open PySem.PyData renaming depthAll -> cD, eqv -> vH
open PySem.SeqAt renaming items_eqAt -> ot, any_by_data -> rT, readOf -> CY
open PySem.Value renaming ref -> kS, none -> mY, bool -> J4, str -> Nl, int -> Nm
open PySem.W renaming Frag -> aw, findIn -> bD, mg_none_of -> c9, nsIn -> dj, emptyDict -> fW, keepIn -> gh, mg_of -> gS, boot_heap -> hZ, kas_rev -> iG, instObj -> iX, boot_drawn -> jz, makesIn -> jU, kia_one -> jV, fnOf -> jW, kas_place -> kR, kas_desc -> mJ, SharedT -> o7, topFrame -> pM, kas_asc -> rQ, plainGet -> tP, boot_toks -> vF, lookIn -> xq, plainGet_of -> xD, callWith_K -> zf, kas_descPart -> As, specialIn -> Au, methodObj -> Av, hasDictIn -> Aw, takerIn -> DQ, OpenLaw -> DR, codeIn -> FR, cellsFrom_some -> J8, methodCall_KW -> Lr, isFn -> Ls, openGood -> MZ, kas_tail3 -> Nh, plainOver -> Qg
open PySem.W.KasT renaming ret -> xG
open Sum renaming inr -> IA, inl -> IB
open True renaming intro -> jH
set_option Elab.async false
set_option linter.all false
set_option maxRecDepth 100000
set_option maxHeartbeats 4000000
set_option genSizeOf false
set_option genInjectivity false
set_option compiler.extract_closed false
namespace Internal
theorem Ad(h:0=0:=by decide):0=0:=h
theorem Ai(h:0=0:=by intro _; rfl):0=0:=h
theorem Ak(h:0=0:=by decide +kernel):0=0:=h
theorem Al(h:0=0:=by intro _ _ _ _ h; repeat (first | (cases h.1; rfl) | (cases h <;> rename_i h))):0=0:=h
theorem Am(h:0=0:=by exact bb):0=0:=h
theorem An(h:0=0:=by exact ko rfl):0=0:=h
theorem Ao(h:0=0:=by first | exact .inl rfl | exact .inr rfl | exact .inr (.inl rfl) | exact .inr (.inr rfl) | assumption):0=0:=h
theorem Aq(h:0=0:=by k_is):0=0:=h
theorem Ar(h:0=0:=by rfl):0=0:=h
theorem Ay(h:0=0:=by exact fun _ _=>⟨_,by with_unfolding_all rfl⟩):0=0:=h
namespace L2
open PySem PySem.Spec PyProof.Rows
noncomputable abbrev Key:=Sum Int Str
noncomputable def Dk:Key->Value->Bool
 | .inl k,v=>Value.isInt k v
 | .inr x,v=>Value.isStrOf x v
noncomputable def Zm(w:World):Key->Int
 | .inl k=>hashInt k
 | .inr x=>hashStr w x
theorem ij:∀ {k:Key} {v:Value},Dk k v=true->(∃ i t,k=IB i/\v=Nm i t)\/(∃ x t,k=IA x/\v=Nl x t)
 | .inl i,v,h=>by
  obtain⟨t,e⟩:=Value.isInt_shape (k:=i) (v:=v) h;exact .inl ⟨i,t,rfl,e⟩
 | .inr x,v,h=>by
  obtain⟨t,e⟩:=Value.isStrOf_shape (x:=x) (v:=v) h;exact .inr ⟨x,t,rfl,e⟩
theorem Mn(i:Int)(t:Tok):Dk (.inl i) (.int i t)=true:=by simp [Dk,Value.isInt]
theorem Mm(x:Str)(t:Tok):Dk (.inr x) (.str x t)=true:=by simp [Dk,Value.isStrOf]
theorem OL(a b:Int):decide ((IB a:Key)=IB b)=(a == b):=by
 by_cases e:a=b
 ·subst e; simp
 ·have h:¬ (IB a:Key)=IB b:=fun q=>e (Sum.inl.inj q);rw [decide_eq_false h];exact(beq_eq_false_iff_ne.mpr e).symm
theorem OK(a b:Str):decide ((IA a:Key)=IA b)=decide (a=b):=by
 by_cases e:a=b
 ·subst e; simp
 ·have h:¬ (IA a:Key)=IA b:=fun q=>e (Sum.inr.inj q);rw [decide_eq_false h,decide_eq_false e]
theorem Tx(a:Int)(b:Str):decide ((IB a:Key)=IA b)=false:=decide_eq_false (fun q=>nomatch q)
theorem Tw(a:Str)(b:Int):decide ((IA a:Key)=IB b)=false:=decide_eq_false (fun q=>nomatch q)
noncomputable def iE(prog:bU)(w:World):PySem.KeyKind prog w Key where
 is:=Dk
 hash:=Zm w
 inj:=fun v a b ha hb=>by
  rcases ij ha with ⟨i,t,rfl,rfl⟩ | ⟨x,t,rfl,rfl⟩
  ·rcases ij hb with ⟨j,u,rfl,e⟩ | ⟨y,u,rfl,e⟩
   ·injection e with e1 _; rw [e1]
   ·exact nomatch e
  ·rcases ij hb with ⟨j,u,rfl,e⟩ | ⟨y,u,rfl,e⟩
   ·exact nomatch e
   ·injection e with e1 _; rw [e1]
 byValue:=fun k v h=>by
  rcases ij h with ⟨i,t,rfl,rfl⟩ | ⟨x,t,rfl,rfl⟩ <;> rfl
 pyHash:=fun hv h=>by
  rcases ij hv with ⟨i,t,rfl,rfl⟩ | ⟨x,t,rfl,rfl⟩
  ·exact wpAny_pyHash_int h
  ·exact wpAny_pyHash_str h
 eqBool:=fun hu hv h=>by
  rcases ij hu with ⟨i,t,rfl,rfl⟩ | ⟨x,t,rfl,rfl⟩
  ·rcases ij hv with ⟨j,u,rfl,rfl⟩ | ⟨y,u,rfl,rfl⟩
   ·rw [OL] at h; exact wpAny_eqBool_int h
   ·rw [Tx] at h; exact SeqAt.EqAt.int_str i t y u _ _ _ _ h
  ·rcases ij hv with ⟨j,u,rfl,rfl⟩ | ⟨y,u,rfl,rfl⟩
   ·rw [Tw] at h; exact SeqAt.EqAt.str_int x t j u _ _ _ _ h
   ·rw [OK] at h; exact wpAny_eqBool_str h
 «strs»:=fun k x t v h=>by
  rcases ij h with ⟨i,u,rfl,e⟩ | ⟨y,u,rfl,e⟩
  ·exact nomatch e
  ·injection e with e1 _
   subst e1;cases v <;> rfl
theorem GN(prog:bU)(w:World)(i:Int)(t:Tok):(iE prog w).is (.inl i) (.int i t)=true:=Mn i t
theorem GL(prog:bU)(w:World)(x:Str)(t:Tok):(iE prog w).is (.inr x) (.str x t)=true:=Mm x t
inductive V where
 | eK | bl (b:Bool) | int (i:Int) | str (x:Str) | Sd (b:Array UInt8) | rB (b:UInt64) | ref (a:Addr) | ty (n:String)
noncomputable def RelV:V->Value->Prop
 | .eK,u=>u=mY
 | .bl b,u=>u=J4 b
 | .int i,u=>∃ t,u=Nm i t
 | .str x,u=>∃ t,u=Nl x t
 | .Sd b,u=>∃ t,u=Value.bytes b t
 | .rB b,u=>∃ t,u=Value.float b t
 | .ref a,u=>u=kS a
 | .ty n,u=>u=Value.type n
noncomputable abbrev Vals:List V->List Value->Prop:=Paired RelV
theorem Vals.length{xs:List V}{us:List Value}(r:Vals xs us):xs.length=us.length:=zJ r
theorem Vals.get:∀ {xs:List V} {us:List Value} {i:Nat} {x:V},Vals xs us->xs[i]?=some x->∃ u,us[i]?=some u/\RelV x u:=by
 intro xs us i x h;induction h generalizing i with
 | nil=>intro e; cases e
 | cons r t ih =>
  intro e;cases i with
  | zero=>cases e; exact⟨_,rfl,r⟩
  | succ i=>exact ih e
theorem Vals.set{x:V}{u:Value}(r:RelV x u):∀ {xs:List V} {us:List Value} (i:Nat),Vals xs us->Vals (xs.set i x) (us.set i u):=by
 intro xs us i h;induction h generalizing i with
 | nil=>rw [DT,DT]; exact .nil
 | cons q t ih =>
  cases i with
  | zero=>exact .cons r t
  | succ i=>exact .cons q (ih i)
theorem Vals.append:∀ {xs ys:List V} {us ws:List Value},Vals xs us->Vals ys ws->Vals (xs++ys) (us++ws):=by
 intro xs ys us ws h s;induction h with
 | nil=>exact s
 | cons r t ih=>exact .cons r ih
theorem Vals.take:∀ {xs:List V} {us:List Value} (n:Nat),Vals xs us->Vals (xs.take n) (us.take n):=by
 intro xs us n h;induction h generalizing n with
 | nil=>rw [B6,B6]; exact .nil
 | cons r t ih =>
  cases n with
  | zero=>exact .nil
  | succ n=>exact .cons r (ih n)
theorem Vals.drop:∀ {xs:List V} {us:List Value} (n:Nat),Vals xs us->Vals (xs.drop n) (us.drop n):=by
 intro xs us n h;induction h generalizing n with
 | nil=>rw [B8,B8]; exact .nil
 | cons r t ih =>
  cases n with
  | zero=>exact .cons r t
  | succ n=>exact ih n
noncomputable def uA:Option V->Option Value->Prop
 | some v,some u=>RelV v u
 | none,none=>True
 | _,_=>False
noncomputable def KV{κ:Type}:List (κ×V)->List (κ×Value)->Prop:=Paired fun (p:κ×V) (q:κ×Value)=>p.1=q.1/\RelV p.2 q.2
noncomputable def kV:Key->V
 | .inl i=>.int i
 | .inr x=>.str x
inductive HO where
 | lst (xs:List V)
 | tup (xs:List V)
 | dK (bB:List (Key×V)) | dT (bB:List (List Key×V))
 | set (S:Int->Bool) (n:Nat)
 | ins (C dx:Addr) (fs:List (Str×V))
 | own (x:Addr)
 | xd (fs:List (Str×V))
 | met (f x:Addr)
 | Vx (lo hi:Int)
 | rq (o:Obj) (u:HO)
 | RG (q:Str)
 | ext (φ:Heap->Prop)
noncomputable abbrev Hp:=Addr->Option HO
noncomputable def upd(H:Hp)(a:Addr)(o:HO):Hp:=fun b=>if b=a then some o else H b
theorem dv{H:Hp}{a:Addr}{o:HO}:upd H a o a=some o:=by unfold upd; rw [if_pos rfl]
theorem cw{H:Hp}{a b:Addr}{o:HO}(h:b≠a):upd H a o b=H b:=by unfold upd; rw [if_neg h]
theorem V5{H:Hp}{a b:Addr}{o u:HO}(h:H a=some o)(h':H b=some u)(d:o≠u):a≠b:=by
 intro e; subst e; rw [h] at h'; exact d (bY h')
theorem fm{H:Hp}{a b:Addr}{o:HO}(h:H a=some o)(h':H b=none):a≠b:=by
 intro e; subst e; rw [h] at h'; cases h'
section
variable (P:bU) (w:World)
noncomputable def je(H:Hp)(h:Heap)(a:Addr):HO->Prop
 | .lst xs=>xs.length<=br/\∃ (bO:List Value) (n:Nat),Vals xs bO/\h.get? a=some { cls:=.type "list",data:=.seq bO.toArray n }
 | .tup xs=>xs.length<=br/\∃ bO:List Value,Vals xs bO/\IsTup h a bO.toArray
 | .dK bB=>bB.length<=br/\(a == mT)=false/\∃ vs,KV bB vs/\h.DictOf (iE P w) a vs
 | .dT bB=>bB.length<=br/\(a == mT)=false/\∃ xs:List (List Key×Addr×Value),
   Paired (fun (p:List Key×V) (q:List Key×Addr×Value)=>p.1=q.1/\H q.2.1=some (.tup (p.1.map kV))/\RelV p.2 q.2.2) bB xs /\
   ∃ o es ep,h.get? a=some o/\o.ExactDict/\o.data=.dict es ep/\es.toList=xs.map (entryOfKey (Ng (iE P w)))/\(xs.map (·.1)).Nodup
 | .set S n=>h.SetOf (intKind P w) a S n
 | .ins C dx fs=>H dx=some (.own a)/\fs.length<=1000/\dx≠a/\h.get? a=some (iX C dx) /\
   ∃ mA,h.Ns1 dx mA/\(∀ f,uA (fs.lookup f) (mA f))/\Np mA (fs.map (·.1))
 | .own _=>∃ o,h.get? a=some o
 | .xd fs=>∃ mA,h.Ns1 a mA/\∀ f,uA (fs.lookup f) (mA f)
 | .Vx lo hi=>∃ t u v,h.get? a=some { cls:=.type "range",data:=.fields #[.int lo t,.int hi u,.int 1 v] }
 | .rq o u=>h.get? a=some o/\je H h a u
 | .RG q=>∃ ps,h.get? a=some { cls:=.none,data:=.fields ps }/\TriplesOk ps.toList/\∀ pos cv,codeAmong pos ps.toList=some cv->∃ c',cv=.ref c'/\H c'=some (.own a)/\h.CodeRec (.ref c') q
 | .met f x=>h.get? a=some (Av (.ref f) (.ref x))
 | .ext φ=>φ h/\(∃ o,h.get? a=some o)/\∀ h1 h2:Heap,φ h1->(∀ o,h1.get? a=some o->h2.get? a=some o)->φ h2
noncomputable def vB(H:Hp)(h:Heap):Prop:=∀ a o,H a=some o->je P w H h a o
end
section
variable {P:bU} {w:World} {H H':Hp} {h h':Heap} {a:Addr} {o:HO}
theorem je.lt(x:je P w H h a o):a < h.objs.size:=by
 cases o with
 | lst xs=>obtain⟨_,_,_,_,e⟩:=x; exact bc e
 | tup xs=>obtain⟨_,_,_,p⟩:=x; exact p.lt
 | dK bB=>obtain⟨_,_,_,_,o,_,_,e,_⟩:=x; exact bc e
 | dT bB=>obtain⟨_,_,_,_,o,_,_,e,_⟩:=x; exact bc e
 | set S n=>obtain⟨o,_,_,_,e,_⟩:=x; exact bc e
 | ins C dx fs=>obtain⟨_,_,_,e,_⟩:=x; exact bc e
 | own y=>obtain⟨_,e⟩:=x; exact bc e
 | xd fs=>obtain⟨_,⟨_,_,_,e,_⟩,_⟩:=x; exact bc e
 | Vx lo hi=>obtain⟨_,_,_,e⟩:=x; exact bc e
 | rq ob u=>obtain⟨e,_⟩:=x; exact bc e
 | RG q=>obtain⟨_,e,_⟩:=x; exact bc e
 | met f y=>exact bc (show h.get? a=some _ from x)
 | ext φ=>obtain⟨_,⟨_,e⟩,_⟩:=x; exact bc e
theorem Paired.V9{α β:Type}{F G:α->β->Prop}:∀ {l₁:List α} {Tq:List β},Paired F l₁ Tq->(∀ a b,F a b->G a b)->Paired G l₁ Tq:=by
 intro l₁ Tq h f;induction h with
 | nil=>exact .nil
 | cons r t ih=>exact .cons (f _ _ r) ih
theorem je.o9(x:je P w H h a o)(k:∀ b u,(b=a\/H b=some (.own a))->h.get? b=some u->h'.get? b=some u)
  (ho:∀ b,H b=some (.own a)->H' b=some (.own a)) (ht:∀ b xs,H b=some (.tup xs)->H' b=some (.tup xs)):je P w H' h' a o:=by
 induction o with
 | lst xs=>obtain⟨z,bO,n,r,e⟩:=x; exact⟨z,bO,n,r,k _ _ (.inl rfl) e⟩
 | tup xs=>obtain⟨z,bO,r,ob,e,c⟩:=x; exact⟨z,bO,r,ob,k _ _ (.inl rfl) e,c⟩
 | dK bB=>obtain⟨z,y,vs,r,ob,es,ep,e,c⟩:=x; exact⟨z,y,vs,r,ob,es,ep,k _ _ (.inl rfl) e,c⟩
 | dT bB =>
  obtain⟨z,y,xs,r,ob,es,ep,e,c⟩:=x;exact⟨z,y,xs,Paired.V9 r fun p q z=>⟨z.1,ht _ _ z.2.1,z.2.2⟩,ob,es,ep,k _ _ (.inl rfl) e,c⟩
 | set S n=>obtain⟨ob,es,ep,t,e,c⟩:=x; exact⟨ob,es,ep,t,k _ _ (.inl rfl) e,c⟩
 | ins C dx fs =>
  obtain⟨d,z,ne,e,mA,⟨od,es,ep,e2,c⟩,r⟩:=x;exact⟨ho _ d,z,ne,k _ _ (.inl rfl) e,mA,⟨od,es,ep,k _ _ (.inr d) e2,c⟩,r⟩
 | own y=>obtain⟨ob,e⟩:=x; exact⟨ob,k _ _ (.inl rfl) e⟩
 | xd fs=>obtain⟨mA,⟨od,es,ep,e,c⟩,r⟩:=x; exact⟨mA,⟨od,es,ep,k _ _ (.inl rfl) e,c⟩,r⟩
 | Vx lo hi=>obtain⟨t,u,v,e⟩:=x; exact⟨t,u,v,k _ _ (.inl rfl) e⟩
 | rq ob u ih=>obtain⟨e,q⟩:=x; exact⟨k _ _ (.inl rfl) e,ih q⟩
 | RG q =>
  obtain⟨ps,e,t,z⟩:=x;refine⟨ps,k _ _ (.inl rfl) e,t,fun pos cv y=>?_⟩;obtain⟨c',e1,e2,c2,oc,vs,tq,e3,e4,r⟩:=z pos cv y;cases e3;exact⟨c',e1,ho _ e2,c',oc,vs,tq,rfl,k _ _ (.inr e2) e4,r⟩
 | met f y =>
  have e:h.get? a=some (Av (.ref f) (.ref y)):=x;show h'.get? a=some (Av (.ref f) (.ref y));exact k a _ (.inl rfl) e
 | ext φ=>obtain⟨p,⟨o,e⟩,st⟩:=x; exact⟨st _ _ p fun o q=>k _ _ (.inl rfl) q,⟨o,k _ _ (.inl rfl) e⟩,st⟩
theorem vB.lt(x:vB P w H h)(e:H a=some o):a < h.objs.size:=(x a o e).lt
theorem vB.fresh(x:vB P w H h)(e:h.objs.size<=a):H a=none:=by
 cases q:H a with
 | none=>rfl
 | some u=>exact absurd (bV (x.lt q) e) (jA _)
theorem vB.kept(x:vB P w H h)(k:∀ b u,h.get? b=some u->h'.get? b=some u):vB P w H h':=fun a o e =>
 (x a o e).o9 (fun b u _ q=>k b u q) (fun _ q=>q) fun _ _ q=>q
theorem vB.laid(x:vB P w H h)(k:∀ b u,h.get? b=some u->h'.get? b=some u)(hp:h.objs.size<=a)(new:je P w (upd H a o) h' a o):vB P w (upd H a o) h':=fun b u e=>by
 have hn:=x.fresh hp;by_cases hb:b=a
 ·subst hb; rw [dv] at e; cases e; exact new
 ·rw [cw hb] at e;exact(x b u e).o9 (fun c v _ q=>k c v q) (fun c q=>by rw [cw (fm q hn)]; exact q) fun c xs q=>by rw [cw (fm q hn)]; exact q
end
noncomputable def Rd(H:Hp)(a:Addr)(u:HO):Prop:=H a=some u\/∃ o,H a=some (.rq o u)
theorem Rd.ok{P:bU}{w:World}{H:Hp}{h:Heap}{a:Addr}{u:HO}(r:Rd H a u)(x:vB P w H h):je P w H h a u:=by
 rcases r with r | ⟨o,r⟩
 ·exact x a u r
 ·obtain⟨_,q⟩:=x a _ r;exact q
noncomputable def W8:Option HO->Prop
 | some (.lst _)=>True
 | some (.dK _)=>True
 | some (.dT _)=>True
 | some (.set _ _)=>True
 | some (.ins _ _ _)=>True
 | some (.ext _)=>True
 | _=>False
section
variable {P:bU} {w:World} {H:Hp} {h h':Heap} {x e:Addr} {o':HO}
theorem vB.write(ok:vB P w H h)(mu:W8 (H x))(he:e=x\/H e=some (.own x))(k:∀ b u,b≠e->h.get? b=some u->h'.get? b=some u)(UT:∃ u,h'.get? e=some u)
  (new:je P w (upd H x o') h' x o'):vB P w (upd H x o') h':=fun b u q=>by
 have V1:∀ c y,H c=some (.own y)->c≠x:=fun c y r z=>by subst z; rw [r] at mu; exact mu
 have Y7:∀ c xs,H c=some (.tup xs)->c≠x:=fun c xs r z=>by subst z; rw [r] at mu; exact mu
 by_cases hb:b=x
 ·subst hb; rw [dv] at q; cases q; exact new
 ·rw [cw hb] at q;by_cases TX:b=e
  ·have q':H b=some (.own x):=by
    rcases he with z | z
    ·exact absurd (TX.trans z) hb
    ·rw [TX]; exact z
   rw [q] at q'; cases q';obtain⟨v,hv⟩:=UT;exact⟨v,by rw [TX]; exact hv⟩
  ·refine(ok b u q).o9 (fun c v hc r=>k c v ?_ r) (fun c r=>by rw [cw (V1 c b r)]; exact r) fun c xs r=>by rw [cw (Y7 c xs r)]; exact r
   rcases hc with rfl | hc
   ·exact TX
   ·rintro rfl;rcases he with z | z
    ·exact V1 c b hc z
    ·rw [hc] at z; cases z; exact hb rfl
end
structure Un(fs ex:List Addr)(H H':Hp)(h h':Heap):Prop where
 keep:∀ b o,h.get? b=some o->H b=none->b∉fs->b∉ex->h'.get? b=some o
 slot:∀ b o,h.get? b=some o->H b=none->b∈fs->b∉ex->∃ sl,h'.get? b=some { o with slots:=sl }
 free:∀ b o,h.get? b=some o->H b=none->b∉ex->H' b=none
 there:∀ b o,h.get? b=some o->b∉ex->∃ o',h'.get? b=some o'
 Ce:∀ b xs,H b=some (.tup xs)->H' b=some (.tup xs)
 Bo:∀ b o u,H b=some (.rq o u)->H' b=some (.rq o u)
 Cg:∀ b q,H b=some (.RG q)->H' b=some (.RG q)
section
variable {fs fs' ex ex':List Addr} {H H1 H2:Hp} {h h1 h2 h':Heap} {a x e:Addr} {o:HO}
theorem Un.any(u:Un fs ex H H1 h h1){b:Addr}{ob:Obj}(q:h.get? b=some ob)(n:H b=none)(hx:b∉ex):∃ sl,h1.get? b=some { ob with slots:=sl }:=by
 by_cases hb:b∈fs
 ·exact u.slot b ob q n hb hx
 ·exact⟨ob.slots,u.keep b ob q n hb hx⟩
theorem Un.kept(k:∀ b u,h.get? b=some u->h'.get? b=some u):Un fs ex H H h h' :=
 ⟨fun b ob q _ _ _=>k b ob q,fun b ob q _ _ _=>⟨ob.slots,k b ob q⟩,fun _ _ _ n _=>n,fun b ob q _=>⟨ob,k b ob q⟩,fun _ _ q=>q,fun _ _ _ q=>q,fun _ _ q=>q⟩
theorem Un.refl:Un fs ex H H h h:=Un.kept fun _ _ q=>q
theorem Un.laid(k:∀ b u,h.get? b=some u->h'.get? b=some u)(hp:h.objs.size<=a)(hn:H a=none):Un fs ex H (upd H a o) h h' where
 keep:=fun b u q _ _ _=>k b u q
 slot:=fun b u q _ _ _=>⟨u.slots,k b u q⟩
 free:=fun b u q n _=>by rw [cw (bS (bV (bc q) hp))]; exact n
 there:=fun b u q _=>⟨u,k b u q⟩
 Ce:=fun b xs q=>by rw [cw (fm q hn)]; exact q
 Bo:=fun b u xs q=>by rw [cw (fm q hn)]; exact q
 Cg:=fun b ps q=>by rw [cw (fm q hn)]; exact q
theorem Un.write(mu:W8 (H x))(he:e=x\/H e=some (.own x))(k:∀ b u,b≠e->h.get? b=some u->h'.get? b=some u)(UT:∃ u,h'.get? e=some u):Un fs ex H (upd H x o) h h':=by
 have hx:∀ b,H b=none->b≠x:=fun b n z=>by subst z; rw [n] at mu; exact mu
 have hb:∀ b,H b=none->b≠e:=fun b n z=>by
  subst z;rcases he with r | r
  ·exact hx b n r
  ·rw [n] at r; cases r
 have hm:∀ b u,H b=some u->¬ W8 (some u)->b≠x:=fun b u q nm z=>by subst z; rw [q] at mu; exact nm mu
 refine⟨fun b u q n _ _=>k b u (hb b n) q,fun b u q n _ _=>⟨u.slots,k b u (hb b n) q⟩,fun b u q n _=>by rw [cw (hx b n)]; exact n,fun b u q _=>?_,
  fun b xs q=>by rw [cw (hm b _ q fun z=>z)]; exact q,fun b u xs q=>by rw [cw (hm b _ q fun z=>z)]; exact q,fun b ps q=>by rw [cw (hm b _ q fun z=>z)]; exact q⟩
 by_cases TX:b=e
 ·subst TX; exact UT
 ·exact⟨u,k b u TX q⟩
end
noncomputable def Xe(h:Heap)(H:Hp):List Addr:=(e7 h.objs.size).filter fun a=>(H a).isSome
noncomputable def EH(h:Heap)(H:Hp):Heap:=PySem.W.hideAll h (Xe h H)
theorem MA(h:Heap)(H:Hp):(EH h H).objs.size=h.objs.size:=PySem.W.hideAll_size _ _
theorem OY{h:Heap}{H:Hp}{b:Addr}{o:Obj}(e:h.get? b=some o)(n:H b=none):(EH h H).get? b=some o :=
 PySem.W.hideAll_get _ e fun hm=>by
  have q:(H b).isSome=true:=(List.mem_filter.mp hm).2;rw [n] at q; simp at q
theorem Q5{h:Heap}{H:Hp}{b:Addr}{o:Obj}(e:(EH h H).get? b=some o):h.get? b=some o/\H b=none:=by
 have e':h.get? b=some o:=PySem.W.of_hideAll (Xe h H) e;refine⟨e',?_⟩;cases q:H b with
 | none=>rfl
 | some x =>
  have hm:b∈Xe h H:=List.mem_filter.mpr ⟨List.mem_range.mpr (bc e'),by simp [q]⟩;have z:(EH h H).get? b=none:=PySem.W.hideAll_none (Xe h H) hm;rw [z] at e; cases e
noncomputable def uh(g h:Heap)(L:Addr):List (Addr×Obj):=(e7 h.objs.size).filterMap fun a=>if a=L\/(g.get? a).isSome=true then none else (h.get? a).map fun o=>(a,o)
theorem yT{g h:Heap}{L a:Addr}{o:Obj}(h1:a≠L)(h2:g.get? a=none)(h3:h.get? a=some o):(a,o)∈uh g h L :=
 List.mem_filterMap.mpr ⟨a,List.mem_range.mpr (bc h3),by simp [h1,h2,h3]⟩
theorem AZ{g h:Heap}{L:Addr}{p:Addr×Obj}(hp:p∈uh g h L):p.1≠L/\g.get? p.1=none/\h.get? p.1=some p.2:=by
 obtain⟨b,_,e⟩:=List.mem_filterMap.mp hp;split at e
 ·cases e
 ·rename_i hn;cases q:h.get? b with
  | none=>rw [q] at e; simp at e
  | some u =>
   rw [q] at e;simp only [Option.map_some,Option.some.injEq] at e;subst e;refine⟨fun z=>hn (.inl z),?_,q⟩;show g.get? b=none;cases r:g.get? b with
   | none=>rfl
   | some v=>exact(hn (.inr (by simp [r]))).elim
noncomputable def rest(g h:Heap)(L d:Addr):List (Addr×Obj):=(uh g h L).filter fun p=>decide (p.1≠d)
theorem GJ{g h:Heap}{L:Addr}:News g L h (uh g h L):=fun p hp=>let ⟨a,b,c⟩:=AZ hp; ⟨c,a,b⟩
structure Mod(K:aw)(mg:Str->Option Value)(base:Heap):Prop where
 UN:K.In base
 glob:base.Ns bu mg
 blt:∃ mb,base.Ns builtinsNs mb/\∀ x:Str,x≠"__name__"->mb x=eN x
 nolimit:base.NoLimit
structure Cx where
 prog:bU
 w:World
 K:aw
 mg:Str->Option Value
 base:Heap
 A:eO
 N:List Str
 oy:aF
 PS:Hp
 env:Env
 outer:List Env
 stack:List Env
 ex:List Addr
 fn:Str->Bool
 calm:Bool
 pn:List (Addr×Obj)
 xe:Value->aF->Prop
noncomputable def Nb(l:List Env):List Addr:=l.filterMap (·.frame)
noncomputable abbrev Cx.fs(X:Cx):List Addr:=Nb X.outer
noncomputable def XO(sc:Scope)(x:Str):Prop:=sc.names.lookup x=some .local\/sc.names.lookup x=some .cell\/sc.names.lookup x=some .free
noncomputable def Loc(sc:Scope)(x:Str):Prop:=sc.names.lookup x=some .local\/sc.names.lookup x=some .cell
noncomputable def Look(env:Env)(h:Heap)(m:Str->Option Value)(x:Str)(u:Value):Prop :=
 (env.kindOf x=some .local/\m x=some u)\/((env.kindOf x=some .cell\/env.kindOf x=some .free)/\∃ c,env.cells.lookup x=some c/\h.IsCell c (some u))
structure Cx.Ok(X:Cx):Prop where
 mod:Mod X.K X.mg X.base
 kind:X.env.scope.kind=.function
 glob:X.env.globals=bu
 blt:X.env.builtins=builtinsNs
 above:X.oy.heap.objs.size<=X.env.locals
 inj:∀ x y c,X.env.cells.lookup x=some c->X.env.cells.lookup y=some c->x=y
 has:∀ x,(X.env.kindOf x=some .cell\/X.env.kindOf x=some .free)->∃ c,X.env.cells.lookup x=some c
 WV:∀ x c,X.fn x=true->X.env.cells.lookup x=some c->X.oy.heap.objs.size<=c
 hd:X.calm=true->X.A.handled=none
 frames:X.A.frames=some X.stack
 Xg:X.stack=X.outer\/(X.stack=X.env :: X.outer/\X.env.frame=some X.env.locals)
 XH:∀ b∈X.ex,b≠X.env.locals/\∀ x c,X.env.cells.lookup x=some c->c≠b
 bs:∀ b o,X.base.get? b=some o->X.oy.heap.get? b=some o/\X.PS b=none
 Qb:X.base.objs.size<=X.oy.heap.objs.size
 L5:∀ b o,X.base.get? b=some o->b∉X.ex
 Pc:∀ b∈X.ex,b∉X.fs
 zr:X.oy.heap.FunFrames X.base X.outer
 T9:∀ b∈X.fs,X.PS b=none
structure Inv(X:Cx)(pins:List (Addr×Obj))(σ:List (Option V))(H:Hp)(s:aF):Prop where
 ok:X.Ok
 os:s.os=X.oy.os
 bare:DX s.gens
 base:Un X.fs X.ex X.PS H X.oy.heap s.heap
 loc:∃ m,s.heap.Ns X.env.locals m/\∀ (i:Nat) (x:Str) (v:V),X.N[i]?=some x->σ[i]?=some (some v)->XO X.env.scope x->∃ u,RelV v u/\Look X.env s.heap m x u
 cell:∀ x c,X.env.cells.lookup x=some c->∃ v,s.heap.IsCell c v
 free:H X.env.locals=none
 rz:∀ x c,X.env.cells.lookup x=some c->H c=none
 pin:∀ p∈X.pn++pins,s.heap.get? p.1=some p.2/\H p.1=none/\p.1≠X.env.locals/\p.1∉X.fs/\∀ v,p.2.data≠.cell v
 fB:vB X.prog X.w H s.heap
 len:σ.length=X.N.length
section
variable {X:Cx} {pins:List (Addr×Obj)} {σ:List (Option V)} {H H':Hp} {s:aF} {h':Heap}
theorem Cx.Ok.Y9(ok:X.Ok){b:Addr}{o:Obj}(e:X.base.get? b=some o):b∉X.fs:=fun hb=>by
 have:=(ok.zr.mem hb).1;rw [e] at this; cases this
theorem Inv.bs(I:Inv X pins σ H s):∀ b o,X.base.get? b=some o->s.heap.get? b=some o/\H b=none:=fun b o e =>
 ⟨I.base.keep b o (I.ok.bs b o e).1 (I.ok.bs b o e).2 (I.ok.Y9 e) (I.ok.L5 b o e),I.base.free b o (I.ok.bs b o e).1 (I.ok.bs b o e).2 (I.ok.L5 b o e)⟩
theorem Inv.bk(I:Inv X pins σ H s):∀ b o,X.base.get? b=some o->s.heap.get? b=some o:=fun b o e=>(I.bs b o e).1
theorem Inv.mod(I:Inv X pins σ H s):Mod X.K X.mg X.base:=I.ok.mod
theorem Inv.Cw(I:Inv X pins σ H s):X.K.In s.heap:=I.ok.mod.UN.keeps I.bk
theorem Inv.fr(I:Inv X pins σ H s):∃ m,Fr X.base X.env.locals s.heap m :=
 let ⟨m,hn,_⟩:=I.loc
 ⟨m,hn,I.bk,eC I.ok.Qb I.ok.above⟩
theorem Inv.lt(I:Inv X pins σ H s):X.env.locals < s.heap.objs.size:=let ⟨_,hn,_⟩:=I.loc; hn.lt
theorem Inv.sz(I:Inv X pins σ H s):X.oy.heap.objs.size<=s.heap.objs.size:=eC I.ok.above (Qh I.lt)
theorem Inv.Y8(I:Inv X pins σ H s){a:Addr}(h:s.heap.objs.size<=a):a∉X.fs:=fun hb=>by
 obtain⟨_,o,ho,_⟩:=I.ok.zr.mem hb;exact absurd (bV (bc ho) (eC I.sz h)) (jA _)
theorem Inv.Uq(I:Inv X pins σ H s):∀ x c,X.env.cells.lookup x=some c->c≠X.env.locals:=fun x c e z=>by
 obtain⟨v,o,ho,hd⟩:=I.cell x c e;obtain⟨m,⟨o',es,ep,Rh,MC,_⟩,_⟩:=I.loc;rw [z,Rh] at ho; cases ho; rw [MC] at hd; cases hd
theorem Inv.zr(I:Inv X pins σ H s):s.heap.FunFrames X.base X.outer:=by
 have all:∀ (l:List Env),(∀ b∈Nb l,b∈X.fs)->X.oy.heap.FunFrames X.base l->s.heap.FunFrames X.base l:=by
  intro l;induction l with
  | nil=>intro _ _; trivial
  | cons env r ih =>
   intro hs hl;obtain⟨hk,⟨L,o,hf,hn,ho,hd⟩,hr⟩:=hl;have hL:L∈X.fs:=hs L (by unfold Nb; rw [zL,hf]; exact bb);obtain⟨sl,e⟩:=I.base.slot L o ho (I.ok.T9 L hL) hL fun z=>I.ok.Pc L z hL;exact⟨hk,⟨L,_,hf,hn,e,hd⟩,ih (fun b hb=>hs b (by unfold Nb; rw [zL,hf]; exact aU _ hb)) hr⟩
 exact all X.outer (fun _ hb=>hb) I.ok.zr
theorem Inv.stack(I:Inv X pins σ H s):s.heap.FunFrames X.base X.stack:=by
 rcases I.ok.Xg with e | ⟨e,hf⟩
 ·rw [e]; exact I.zr
 ·rw [e];obtain⟨m,hn,_⟩:=I.loc;refine .cons (by rw [I.ok.kind]; decide) hf hn ?_ I.zr;exact Ql (eC I.ok.Qb I.ok.above)
theorem Inv.IL(I:Inv X pins σ H s):∀ b∈Nb X.stack,b∈X.env.locals :: X.fs:=fun b hb=>by
 rcases I.ok.Xg with e | ⟨e,hf⟩
 ·rw [e] at hb; exact aU _ hb
 ·rw [e] at hb;unfold Nb at hb;rw [zL,hf] at hb;exact hb
theorem Inv.Kk(I:Inv X pins σ H s):∀ b∈Nb X.stack,H b=none:=fun b hb=>by
 rcases List.mem_cons.mp (I.IL b hb) with e | hb
 ·rw [e]; exact I.free
 ·obtain⟨_,o,ho,_⟩:=I.ok.zr.mem hb;exact I.base.free b o ho (I.ok.T9 b hb) fun z=>I.ok.Pc b z hb
theorem Inv.step{g':Array GenState}{t':Nat}{d':Drawn}{ch:List Addr}(I:Inv X pins σ H s)
  (R7:∀ b∈ch,(b∈X.ex\/X.oy.heap.objs.size<=b)/\b≠X.env.locals/\(∀ x c,X.env.cells.lookup x=some c->c≠b)/\∀ p∈X.pn++pins,p.1≠b)
  (keep:∀ b o,b≠X.env.locals->b∉X.fs->b∉ch->s.heap.get? b=some o->H b=none->h'.get? b=some o)
  (slot:∀ b o,b≠X.env.locals->b∈X.fs->b∉ch->s.heap.get? b=some o->H b=none->∃ sl,h'.get? b=some { o with slots:=sl }) (free:∀ b o,b∉ch->s.heap.get? b=some o->H b=none->H' b=none)
  (there:∀ b o,b∉ch->s.heap.get? b=some o->∃ o',h'.get? b=some o')
  (Ce:∀ b xs,H b=some (.tup xs)->H' b=some (.tup xs)) (Bo:∀ b o u,H b=some (.rq o u)->H' b=some (.rq o u)) (Cg:∀ b q,H b=some (.RG q)->H' b=some (.RG q))
  (ns:∀ m,s.heap.Ns X.env.locals m->h'.Ns X.env.locals m) (fB:vB X.prog X.w H' h') (hg:DX g') :
  Inv X pins σ H' { s with heap:=h',gens:=g',drawn:=d',toks:=t' }:=by
 have neL:∀ b o,X.oy.heap.get? b=some o->b≠X.env.locals:=fun b o e=>bS (bV (bc e) I.ok.above);have Xr:∀ b o,X.oy.heap.get? b=some o->b∉X.ex->b∉ch:=fun b o e hx hb=>by
  rcases (R7 b hb).1 with z | z
  ·exact hx z
  ·exact absurd (bV (bc e) z) (jA _)
 have cellK:∀ x c,X.env.cells.lookup x=some c->∀ v,s.heap.IsCell c v->h'.IsCell c v:=fun x c e v ⟨o,ho,hd⟩=>by
  have V6:c∉ch:=fun z=>(R7 c z).2.2.1 x c e rfl;by_cases hc:c∈X.fs
  ·obtain⟨sl,q⟩:=slot c o (I.Uq x c e) hc V6 ho (I.rz x c e);exact⟨_,q,hd⟩
  ·exact⟨o,keep c o (I.Uq x c e) hc V6 ho (I.rz x c e),hd⟩
 refine⟨I.ok,I.os,hg,⟨fun b o e n hb hx=>?_,fun b o e n hb hx=>?_,fun b o e n hx=>?_,fun b o e hx=>?_,fun b xs e=>Ce b xs (I.base.Ce b xs e),fun b o xs e=>Bo b o xs (I.base.Bo b o xs e),fun b ps e=>?_⟩,?_,fun x c e=>?_,?_,fun x c e=>?_,fun p hp=>?_,fB,I.len⟩
 ·exact keep b o (neL b o e) hb (Xr b o e hx) (I.base.keep b o e n hb hx) (I.base.free b o e n hx)
 ·obtain⟨sl,e1⟩:=I.base.slot b o e n hb hx;obtain⟨sl',e2⟩:=slot b _ (neL b o e) hb (Xr b o e hx) e1 (I.base.free b o e n hx);exact⟨sl',e2⟩
 ·obtain⟨o',e1⟩:=I.base.there b o e hx;exact free b o' (Xr b o e hx) e1 (I.base.free b o e n hx)
 ·obtain⟨o',e1⟩:=I.base.there b o e hx;exact there b o' (Xr b o e hx) e1
 ·exact Cg b _ (I.base.Cg b ps e)
 ·obtain⟨m,hn,hl⟩:=I.loc;refine⟨m,ns m hn,fun i x v e1 e2 e3=>?_⟩;obtain⟨u,r,l⟩:=hl i x v e1 e2 e3;refine⟨u,r,?_⟩;rcases l with l | ⟨k,c,e,z⟩
  ·exact .inl l
  ·exact .inr ⟨k,c,e,cellK x c e _ z⟩
 ·obtain⟨v,z⟩:=I.cell x c e;exact⟨v,cellK x c e v z⟩
 ·obtain⟨m,⟨o,_,_,ho,_⟩,_⟩:=I.loc;exact free _ o (fun z=>(R7 _ z).2.1 rfl) ho I.free
 ·obtain⟨v,o,ho,hd⟩:=I.cell x c e;exact free c o (fun z=>(R7 c z).2.2.1 x c e rfl) ho (I.rz x c e)
 ·obtain⟨e,n,ne,nf,d⟩:=I.pin p hp;have V6:p.1∉ch:=fun z=>(R7 p.1 z).2.2.2 p hp rfl;exact⟨keep p.1 p.2 ne nf V6 e n,free p.1 p.2 V6 e n,ne,nf,d⟩
theorem Inv.un{t':Nat}(I:Inv X pins σ H s)(u:Un X.fs [] H H' s.heap h')(fB:vB X.prog X.w H' h'):Inv X pins σ H' { s with heap:=h',toks:=t' }:=by
 obtain⟨m,⟨o,es,ep,ho,r⟩,_⟩:=id I.loc;obtain⟨sl,hL⟩:=u.any ho I.free (by simp);exact I.step (g':=s.gens) (d':=s.drawn) (ch:=[]) (fun _ z=>nomatch z) (fun b o _ hb _ e n=>u.keep b o e n hb (by simp)) (fun b o _ hb _ e n=>u.slot b o e n hb (by simp)) (fun b o _ e n=>u.free b o e n (by simp)) (fun b o _ e=>u.there b o e (by simp)) u.Ce u.Bo u.Cg (fun m' hm=>by
  obtain⟨o',es',ep',Rh,r'⟩:=hm;rw [ho] at Rh; cases Rh;exact⟨_,es',ep',hL,r'⟩) fB I.bare
theorem Inv.call{g':Array GenState}{t':Nat}{d':Drawn}{ch:List Addr}(I:Inv X pins σ H s)(u:Un (Nb X.stack) ch H H' s.heap h')(fB:vB X.prog X.w H' h')(hg:DX g')
  (R7:∀ b∈ch,(b∈X.ex\/X.oy.heap.objs.size<=b)/\b≠X.env.locals/\(∀ x c,X.env.cells.lookup x=some c->c≠b)/\∀ p∈X.pn++pins,p.1≠b) :
  Inv X pins σ H' { s with heap:=h',gens:=g',drawn:=d',toks:=t' }:=by
 obtain⟨m,⟨o,es,ep,ho,r⟩,_⟩:=id I.loc;obtain⟨sl,hL⟩:=u.any ho I.free fun z=>(R7 _ z).2.1 rfl;exact I.step (ch:=ch) R7 (fun b o hL hb hc e n=>u.keep b o e n (fun z=>(List.mem_cons.mp (I.IL b z)).elim hL hb) hc) (fun b o _ _ hc e n=>u.any e n hc) (fun b o hc e n=>u.free b o e n hc) (fun b o hc e=>u.there b o e hc) u.Ce u.Bo u.Cg (fun m' hm=>by
  obtain⟨o',es',ep',Rh,r'⟩:=hm;rw [ho] at Rh; cases Rh;exact⟨_,es',ep',hL,r'⟩) fB hg
theorem Inv.turned{t':Nat}{it:Addr}(I:Inv X pins σ H s)(k:∀ b o,b≠it->s.heap.get? b=some o->h'.get? b=some o)(hn:H it=none)(hL:it≠X.env.locals)
  (h1:it∈X.ex\/X.oy.heap.objs.size<=it) (h2:∀ x c,X.env.cells.lookup x=some c->c≠it) (h3:∀ p∈X.pn++pins,p.1≠it):Inv X pins σ H { s with heap:=h',toks:=t' }:=by
 have nit:∀ b u,H b=some u->b≠it:=fun b u e z=>by rw [z,hn] at e; cases e
 refine I.step (g':=s.gens) (d':=s.drawn) (ch:=[it]) (fun b hb=>?_) (fun b o _ _ hc e _=>k b o (fun z=>hc (by simp [z])) e) (fun b o _ _ hc e _=>⟨o.slots,k b o (fun z=>hc (by simp [z])) e⟩) (fun _ _ _ _ n=>n)
  (fun b o hc e=>⟨o,k b o (fun z=>hc (by simp [z])) e⟩) (fun _ _ e=>e) (fun _ _ _ e=>e) (fun _ _ e=>e) (fun m hm=>?_) (fun b u e=>?_) I.bare
 ·have e:b=it:=by simpa using hb
  subst e;exact⟨h1,hL,h2,h3⟩
 ·obtain⟨o,es,ep,ho,r⟩:=hm;exact⟨o,es,ep,k _ o (gv hL) ho,r⟩
 ·refine(I.fB b u e).o9 (fun c v hc q=>k c v ?_ q) (fun _ q=>q) fun _ _ q=>q;rcases hc with z | z
  ·rw [z]; exact nit b u e
  ·exact nit c _ z
theorem Inv.tok(I:Inv X pins σ H s)(t:Nat):Inv X pins σ H { s with toks:=t }:=I.un (h':=s.heap) (t':=t) Un.refl I.fB
theorem Inv.kept{t':Nat}(I:Inv X pins σ H s)(k:∀ b u,s.heap.get? b=some u->h'.get? b=some u):Inv X pins σ H { s with heap:=h',toks:=t' }:=I.un (Un.kept k) (I.fB.kept k)
theorem Inv.laid{a:Addr}{o:HO}{t':Nat}(I:Inv X pins σ H s)(k:∀ b u,s.heap.get? b=some u->h'.get? b=some u)(hp:s.heap.objs.size<=a)(new:je X.prog X.w (upd H a o) h' a o) :
  Inv X pins σ (upd H a o) { s with heap:=h',toks:=t' }:=I.un (Un.laid k hp (I.fB.fresh hp)) (I.fB.laid k hp new)
theorem Inv.write{x e:Addr}{o:HO}{t':Nat}(I:Inv X pins σ H s)(mu:W8 (H x))(he:e=x\/H e=some (.own x))(k:∀ b u,b≠e->s.heap.get? b=some u->h'.get? b=some u)(UT:∃ u,h'.get? e=some u)
  (new:je X.prog X.w (upd H x o) h' x o):Inv X pins σ (upd H x o) { s with heap:=h',toks:=t' }:=I.un (Un.write mu he k UT) (I.fB.write mu he k UT new)
theorem Inv.Ku{RQ:List (Addr×Obj)}(I:Inv X pins σ H s)(h:∀ p∈RQ,s.heap.get? p.1=some p.2/\H p.1=none/\p.1≠X.env.locals/\p.1∉X.fs/\∀ v,p.2.data≠.cell v):Inv X RQ σ H s :=
 ⟨I.ok,I.os,I.bare,I.base,I.loc,I.cell,I.free,I.rz,fun p hp=>(List.mem_append.mp hp).elim (fun z=>I.pin p (cZ _ z)) (h p),I.fB,I.len⟩
theorem GH{N:List Str}(hN:N.Nodup){i j:Nat}{x:Str}(a:N[i]?=some x)(b:N[j]?=some x):i=j:=by
 obtain⟨h1,e1⟩:=List.getElem?_eq_some_iff.mp a;obtain⟨h2,e2⟩:=List.getElem?_eq_some_iff.mp b;exact(List.getElem_inj hN).mp (e1.trans e2.symm)
theorem C5{M:Model}{A:eO}{E:Value->aF->Prop}{i:Nat}{x:Str}{v:V}{u:Value}{Q:Unit->aF->Prop}(I:Inv X pins σ H s)(hN:X.N.Nodup)(hi:X.N[i]?=some x)(hx:Loc X.env.scope x)(r:RelV v u)
  (h:∀ s',Inv X pins (σ.set i (some v)) H s'->(∃ a,DV a s.heap s'.heap/\(a=X.env.locals\/X.env.cells.lookup x=some a))->Q () s') (hf:autoParam (X.fn x=true\/X.env.scope.names.lookup x=some .local) Ao._auto_1):wpAny M A (storeName X.env x u) Q E s:=by
 obtain⟨m,hn,hl⟩:=id I.loc;have Z7:(X.env.scope.kind == .class||(X.env.scope.kind == .module&&X.env.locals != X.env.globals))=false:=by rw [I.ok.kind]; rfl
 have Ws:i < σ.length:=by rw [I.len]; exact(List.getElem?_eq_some_iff.mp hi).1
 have Uq:=I.Uq;have tracked:∀ {a:Addr} {h':Heap},(∃ o,s.heap.get? a=some o/\H a=none)->DV a s.heap h'->vB X.prog X.w H h':=fun {a h'} ha hs b ob e=>by
  obtain⟨_,_,rm⟩:=ha;refine(I.fB b ob e).o9 (fun c w' hc q=>(hs.2 c ?_).trans q) (fun _ q=>q) fun _ _ q=>q;rintro rfl;rcases hc with rfl | hc
  ·rw [rm] at e; cases e
  ·rw [rm] at hc; cases hc
 rcases hx with hk | hk
 ·refine wpAny_storeName_local hk hn (fun h' UR hs=>?_) Z7;obtain⟨oL,_,_,hoL,_⟩:=id hn;refine h _ ⟨I.ok,I.os,I.bare,⟨fun b o e n hb hx=>?_,fun b o e n hb hx=>?_,I.base.free,fun b o e hx=>?_,I.base.Ce,I.base.Bo,I.base.Cg⟩,⟨_,UR,fun j y v' e1 e2 e3=>?_⟩,fun y c e=>?_,I.free,I.rz,fun p hp=>?_,tracked ⟨oL,hoL,I.free⟩ hs,by simpa using I.len⟩ ⟨_,hs,.inl rfl⟩
  ·exact(hs.2 b (bS (bV (bc e) I.ok.above))).trans (I.base.keep b o e n hb hx)
  ·obtain⟨sl,e1⟩:=I.base.slot b o e n hb hx;exact⟨sl,(hs.2 b (bS (bV (bc e) I.ok.above))).trans e1⟩
  ·obtain⟨o',e1⟩:=I.base.there b o e hx;exact⟨o',(hs.2 b (bS (bV (bc e) I.ok.above))).trans e1⟩
  ·by_cases hj:j=i
   ·subst hj;rw [hi] at e1; cases e1;rw [iz Ws] at e2;cases e2;exact⟨u,r,.inl ⟨hk,by simp⟩⟩
   ·rw [kM (gv hj)] at e2;obtain⟨u',r',q⟩:=hl j y v' e1 e2 e3;refine⟨u',r',?_⟩;rcases q with ⟨k,e⟩ | ⟨k,c,e,z⟩
    ·refine .inl ⟨k,?_⟩;have:y≠x:=fun e=>hj (GH hN e1 (e ▸ hi));simp [this,e]
    ·exact .inr ⟨k,c,e,z.sameBut hs (Uq y c e)⟩
  ·obtain⟨w',z⟩:=I.cell y c e;exact⟨w',z.sameBut hs (Uq y c e)⟩
  ·obtain⟨e,n,ne,nf,d⟩:=I.pin p hp;exact⟨(hs.2 p.1 ne).trans e,n,ne,nf,d⟩
 ·have Z1:X.fn x=true:=by
   rcases hf with z | z
   ·exact z
   ·rw [z] at hk; cases hk
  obtain⟨c,hc⟩:=I.ok.has x (.inl hk);obtain⟨w',z⟩:=I.cell x c hc;refine wpAny_storeName_cell I.ok.kind hk hc z (fun h' R8 hs=>?_);obtain⟨oc,UQ,ZK⟩:=id z;refine h { s with heap:=h' } ⟨I.ok,I.os,I.bare,⟨fun b o e n hb hx=>?_,fun b o e n hb hx=>?_,I.base.free,fun b o e hx=>?_,I.base.Ce,I.base.Bo,I.base.Cg⟩,⟨m,hn.sameBut hs (gv (Uq x c hc)),fun j y v' e1 e2 e3=>?_⟩,fun y c' e=>?_,I.free,I.rz,fun p hp=>?_,tracked ⟨oc,UQ,I.rz x c hc⟩ hs,by simpa using I.len⟩ ⟨c,hs,.inr hc⟩
  ·exact(hs.2 b (bS (bV (bc e) (I.ok.WV x c Z1 hc)))).trans (I.base.keep b o e n hb hx)
  ·obtain⟨sl,e1⟩:=I.base.slot b o e n hb hx;exact⟨sl,(hs.2 b (bS (bV (bc e) (I.ok.WV x c Z1 hc)))).trans e1⟩
  ·obtain⟨o',e1⟩:=I.base.there b o e hx;exact⟨o',(hs.2 b (bS (bV (bc e) (I.ok.WV x c Z1 hc)))).trans e1⟩
  ·by_cases hj:j=i
   ·subst hj;rw [hi] at e1; cases e1;rw [iz Ws] at e2;cases e2;exact⟨u,r,.inr ⟨.inl hk,c,hc,R8⟩⟩
   ·rw [kM (gv hj)] at e2;obtain⟨u',r',q⟩:=hl j y v' e1 e2 e3;refine⟨u',r',?_⟩;rcases q with q | ⟨k,c',e,z'⟩
    ·exact .inl q
    ·refine .inr ⟨k,c',e,z'.sameBut hs ?_⟩;rintro rfl;exact hj (GH hN e1 (I.ok.inj _ _ _ e hc ▸ hi))
  ·by_cases hcc:c'=c
   ·subst hcc; exact⟨_,R8⟩
   ·obtain⟨w2,z2⟩:=I.cell y c' e;exact⟨w2,z2.sameBut hs hcc⟩
  ·obtain⟨e,n,ne,nf,d⟩:=I.pin p hp;refine⟨(hs.2 p.1 ?_).trans e,n,ne,nf,d⟩;intro q;rw [q,UQ] at e;have q':oc=p.2:=bY e;exact d w' (by rw [<-q']; exact ZK)
theorem Gh{M:Model}{A:eO}{E:Value->aF->Prop}{i:Nat}{x:Str}{v:V}{u:Value}{Q:Unit->aF->Prop}(I:Inv X pins σ H s)(hN:X.N.Nodup)(hi:X.N[i]?=some x)(hx:Loc X.env.scope x)(r:RelV v u)
  (h:∀ s',Inv X pins (σ.set i (some v)) H s'->Q () s') (hf:autoParam (X.fn x=true\/X.env.scope.names.lookup x=some .local) Ao._auto_1):wpAny M A (storeName X.env x u) Q E s :=
 C5 I hN hi hx r (fun s' I' _=>h s' I') hf
end
noncomputable abbrev XK:=Value->Option Addr->Hp->Prop
noncomputable abbrev St:=List (Option V)
noncomputable abbrev VK:=V->Hp->Prop
noncomputable abbrev TE:=St->Hp->VK->Prop
noncomputable abbrev TT:=St->Hp->(Bool->Hp->Prop)->Prop
noncomputable abbrev TA:=St->Hp->(List V->Hp->Prop)->Prop
structure Ends where
 nx:St->Hp->Prop
 rt:VK
 bk:St->Hp->Prop:=fun _ _=>False
 ct:St->Hp->Prop:=fun _ _=>False
noncomputable abbrev TS:=Ends->St->Hp->Prop
noncomputable def EP(X:Cx)(pins:List (Addr×Obj))(σ:St)(Q:VK)(u:Value)(s':aF):Prop:=∃ v H',Inv X pins σ H' s'/\RelV v u/\Q v H'
noncomputable def TP(X:Cx)(pins:List (Addr×Obj))(σ:St)(Q:Bool->Hp->Prop)(b:Bool)(s':aF):Prop:=∃ H',Inv X pins σ H' s'/\Q b H'
noncomputable def SP(X:Cx)(pins:List (Addr×Obj))(D:Ends)(f:Flow)(s':aF):Prop :=
 match f with
 | .next=>∃ kE H',Inv X pins kE H' s'/\D.nx kE H'
 | .brk=>∃ kE H',Inv X pins kE H' s'/\D.bk kE H'
 | .cont=>∃ kE H',Inv X pins kE H' s'/\D.ct kE H'
 | .ret u=>∃ v kE H',Inv X pins kE H' s'/\RelV v u/\D.rt v H'
noncomputable def PE(X:Cx)(e:Expr)(t:TE):Prop :=
 ∀ (pins:List (Addr×Obj)) (s:aF) (σ:St) (H:Hp) (Q:VK),Inv X pins σ H s->t σ H Q->wpAny (model X.prog X.w) X.A (eval e X.env) (EP X pins σ Q) X.xe s
noncomputable def U0(X:Cx)(st:List Stmt)(t:TS):Prop :=
 ∀ (pins:List (Addr×Obj)) (s:aF) (σ:St) (H:Hp) (D:Ends),Inv X pins σ H s->t D σ H->wpAny (model X.prog X.w) X.A (execs st X.env) (SP X pins D) X.xe s
theorem iy{α:Type}{t:Sem α}{Q Q':α->aF->Prop}{M:Model}{A:eO}{E:Value->aF->Prop}{s:aF}(h:wpAny M A t Q E s)(hQ:∀ a s,Q a s->Q' a s):wpAny M A t Q' E s:=Iw h hQ fun _ _ x=>x
section
variable {X:Cx}
noncomputable def Ym(i:Nat):TE:=fun σ H Q=>∃ v,σ[i]?=some (some v)/\Q v H
noncomputable def tC(v:V):TE:=fun _ H Q=>Q v H
theorem S0 {i:Nat} {x:Str} {pos:Pos} (hN:X.N[i]?=some x) (hv:XO X.env.scope x) (hd:autoParam ((x == ("__debug__" : Str))=false) Ad._auto_1) (K0:autoParam ((x == ("__classdict__" : Str))=false) Ad._auto_1):PE X (.Name x pos) (Ym i):=by
 intro pins s σ H Q I h;obtain⟨v,e,h⟩:=h;obtain⟨m,hn,hl⟩:=I.loc;obtain⟨u,r,l⟩:=hl i x v hN e hv;have fin:EP X pins σ Q u s:=⟨v,H,I,r,h⟩;rcases l with ⟨hk,hm⟩ | ⟨hk,c,hc,rp⟩
 ·exact wpAny_Name (wpAny_loadName_local I.ok.kind hk hn hm fin) hd
 ·rcases hk with hk | hk
  ·exact wpAny_Name (wpAny_loadName_cell I.ok.kind hk hc rp fin) hd
  ·exact wpAny_Name (wpAny_loadName_free I.ok.kind hk hc rp fin K0) hd
theorem S4{i j pos}:PE X (.Constant (.int i) j pos) (tC (.int i)):=fun _ _ _ H _ I h=>wpAny_Constant_int ⟨.int i,H,I.tok _,⟨_,rfl⟩,h⟩
theorem VE{b j pos}:PE X (.Constant (.bool b) j pos) (tC (.bl b)):=fun _ _ _ H _ I h=>Constant_bool ⟨.bl b,H,I,rfl,h⟩
theorem S3{x j pos}:PE X (.Constant (.str x) j pos) (tC (.str x)):=fun _ _ _ H _ I h=>Calls.Constant_str ⟨.str x,H,I.tok _,⟨_,rfl⟩,h⟩
noncomputable def Gl(X:Cx)(x:Str):Prop:=X.env.kindOf x=some .globalImplicit
theorem Ew{E:Value->aF->Prop}{pins:List (Addr×Obj)}{s:aF}{σ:St}{H:Hp}{x:Str}{u:Value}{pos:Pos}{Q:Value->aF->Prop}(I:Inv X pins σ H s)(hg:Gl X x)(hm:X.mg x=some u)(h:Q u s)
  (hd:autoParam ((x == ("__debug__" : Str))=false) Ad._auto_1):wpAny (model X.prog X.w) X.A (eval (.Name x pos) X.env) Q E s :=
 Ip I.ok.kind hg (Calls.loadGlobal_global (by rw [I.ok.glob]; exact I.mod.glob.keeps I.bk) hm h) hd
theorem qO{E:Value->aF->Prop}{pins:List (Addr×Obj)}{s:aF}{σ:St}{H:Hp}{x:Str}{u:Value}{pos:Pos}{Q:Value->aF->Prop}(I:Inv X pins σ H s)(hg:Gl X x)(hm:X.mg x=none)(hv:eN x=some u)(h:Q u s)
  (hn:autoParam (x≠"__name__") Ad._auto_1) (hd:autoParam ((x == ("__debug__" : Str))=false) Ad._auto_1):wpAny (model X.prog X.w) X.A (eval (.Name x pos) X.env) Q E s:=by
 obtain⟨mb,h1,h2⟩:=I.mod.blt;exact Ip I.ok.kind hg (Calls.loadGlobal_builtin (by rw [I.ok.glob]; exact I.mod.glob.keeps I.bk) hm (by rw [I.ok.blt]; exact h1.keeps I.bk) ((h2 x hn).trans hv) h) hd
theorem QT {x:Str} {v:V} {u:Value} {pos:Pos} (hg:Gl X x) (hm:X.mg x=some u) (r:RelV v u) (hd:autoParam ((x == ("__debug__" : Str))=false) Ad._auto_1):PE X (.Name x pos) (tC v) :=
 fun _ _ _ H _ I h=>Ew I hg hm ⟨v,H,I,r,h⟩ hd
variable {a b:Expr} {ta tb:TE} {pos:Pos}
noncomputable def tB(t:TE):TT:=fun σ H Q=>t σ H fun x H1=>∃ c,x=.bl c/\Q c H1
variable {tA tB':TT} {rest:List Expr}
end
noncomputable def qy(K:aw)(H:Hp)(a:Addr)(xs:List V):Prop :=
 Rd H a (.lst xs) \/
  ∃ (o:Obj) (bO:Array Value) (n:Nat),K.lookup a=some o/\o.cls=.type "list"/\o.dict=none/\o.data=.seq bO n/\bO.size<=br/\Vals xs bO.toList
noncomputable def BQ(K:aw)(H:Hp)(a:Addr)(xs:List V):Prop :=
 Rd H a (.tup xs) \/
  ∃ (o:Obj) (bO:Array Value) (n:Nat),K.lookup a=some o/\o.cls=.type "tuple"/\o.data=.seq bO n/\bO.size<=br/\Vals xs bO.toList
noncomputable def aaA:Value->Option V
 | .none=>some .eK
 | .bool b=>some (.bl b)
 | .int i _=>some (.int i)
 | .str x _=>some (.str x)
 | .bytes b _=>some (.Sd b)
 | .float b _=>some (.rB b)
 | .ref a=>some (.ref a)
 | .type n=>some (.ty n)
 | _=>none
theorem RelV.abs{x:V}{u:Value}(r:RelV x u):aaA u=some x:=by
 cases x with
 | eK=>cases r; rfl
 | bl _=>cases r; rfl
 | int _=>obtain⟨t,rfl⟩:=r; rfl
 | str _=>obtain⟨t,rfl⟩:=r; rfl
 | Sd _=>obtain⟨t,rfl⟩:=r; rfl
 | rB _=>obtain⟨t,rfl⟩:=r; rfl
 | ref _=>cases r; rfl
 | ty _=>cases r; rfl
theorem RelV.inj{x y:V}{u:Value}(r:RelV x u)(q:RelV y u):x=y:=bY (r.abs.symm.trans q.abs)
theorem Vals.inj:∀ {xs ys:List V} {us:List Value},Vals xs us->Vals ys us->xs=ys:=by
 intro xs ys us h;induction h generalizing ys with
 | nil=>intro k; cases k; rfl
 | cons r t ih =>
  intro k;cases k with
  | cons r' t'=>rw [r.inj r',ih t']
section
variable {X:Cx} {pins:List (Addr×Obj)} {σ:St} {H:Hp} {s:aF} {a:Addr} {xs ys:List V}
theorem qy.of{K:aw}(h:H a=some (.lst xs)):qy K H a xs:=.inl (.inl h)
theorem BQ.of{K:aw}(h:H a=some (.tup xs)):BQ K H a xs:=.inl (.inl h)
theorem Inv.list(I:Inv X pins σ H s)(h:qy X.K H a xs):∃ bO:List Value,Vals xs bO/\PlainL s.heap a bO.toArray/\xs.length<=br:=by
 rcases h with h | ⟨o,bO,n,hk,hc,hd,hs,hz,r⟩
 ·obtain⟨z,bO,n,r,e⟩:=h.ok I.fB;exact⟨bO,r,⟨_,n,e,rfl,rfl,rfl⟩,z⟩
 ·refine⟨bO.toList,r,⟨o,n,I.Cw a o hk,hc,hd,by simpa using hs⟩,?_⟩;have e:=r.length;simp only [lG] at e;lia
theorem Inv.tuple(I:Inv X pins σ H s)(h:BQ X.K H a xs):∃ bO:List Value,Vals xs bO/\IsTup s.heap a bO.toArray/\xs.length<=br:=by
 rcases h with h | ⟨o,bO,n,hk,hc,hs,hz,r⟩
 ·obtain⟨z,bO,r,p⟩:=h.ok I.fB;exact⟨bO,r,p,z⟩
 ·refine⟨bO.toList,r,⟨o,I.Cw a o hk,hc,n,by simpa using hs⟩,?_⟩;have e:=r.length;simp only [lG] at e;lia
theorem Inv.sM(I:Inv X pins σ H s)(h:qy X.K H a xs)(h':qy X.K H a ys):xs=ys:=by
 obtain⟨bO,r,⟨o,n,e,_,_,d⟩,_⟩:=I.list h;obtain⟨its',r',⟨o',n',e',_,_,d'⟩,_⟩:=I.list h';rw [e] at e'; cases e';rw [d] at d';injection d' with d1 _
 have:bO=its':=by simpa using congrArg Array.toList d1
 subst this;exact r.inj r'
theorem Inv.LB(I:Inv X pins σ H s)(h:BQ X.K H a xs)(h':BQ X.K H a ys):xs=ys:=by
 obtain⟨bO,r,⟨o,e,_,n,d⟩,_⟩:=I.tuple h;obtain⟨its',r',⟨o',e',_,n',d'⟩,_⟩:=I.tuple h';rw [e] at e'; cases e';rw [d] at d';injection d' with d1 _
 have:bO=its':=by simpa using congrArg Array.toList d1
 subst this;exact r.inj r'
end
noncomputable abbrev Cx.Cd(X:Cx)(E:Value->aF->Prop):Cx:={ X with xe:=E }
noncomputable abbrev Cx.UK(X:Cx):Cx:=X.Cd fun _ _=>False
theorem Cx.Ok.Cd{X:Cx}(ok:X.Ok)(E:Value->aF->Prop):(X.Cd E).Ok :=
 ⟨ok.mod,ok.kind,ok.glob,ok.blt,ok.above,ok.inj,ok.has,ok.WV,ok.hd,ok.frames,ok.Xg,ok.XH,ok.bs,ok.Qb,ok.L5,ok.Pc,ok.zr,ok.T9⟩
theorem Cx.Ok.rZ{X:Cx}{E:Value->aF->Prop}(ok:(X.Cd E).Ok):X.Ok :=
 ⟨ok.mod,ok.kind,ok.glob,ok.blt,ok.above,ok.inj,ok.has,ok.WV,ok.hd,ok.frames,ok.Xg,ok.XH,ok.bs,ok.Qb,ok.L5,ok.Pc,ok.zr,ok.T9⟩
section
variable {X:Cx} {pins:List (Addr×Obj)} {σ:St} {H:Hp} {s:aF} {E:Value->aF->Prop}
theorem Inv.Cd(I:Inv X pins σ H s)(E:Value->aF->Prop):Inv (X.Cd E) pins σ H s:=⟨I.ok.Cd E,I.os,I.bare,I.base,I.loc,I.cell,I.free,I.rz,I.pin,I.fB,I.len⟩
theorem Inv.rZ(I:Inv (X.Cd E) pins σ H s):Inv X pins σ H s:=⟨I.ok.rZ,I.os,I.bare,I.base,I.loc,I.cell,I.free,I.rz,I.pin,I.fB,I.len⟩
theorem SP.rZ{D:Ends}{f:Flow}{s':aF}(h:SP (X.Cd E) pins D f s'):SP X pins D f s':=by
 cases f with
 | next=>obtain⟨kE,H',I,q⟩:=h; exact⟨kE,H',I.rZ,q⟩
 | brk=>obtain⟨kE,H',I,q⟩:=h; exact⟨kE,H',I.rZ,q⟩
 | cont=>obtain⟨kE,H',I,q⟩:=h; exact⟨kE,H',I.rZ,q⟩
 | ret u=>obtain⟨v,kE,H',I,r,q⟩:=h; exact⟨v,kE,H',I.rZ,r,q⟩
theorem U0.UK{st:List Stmt}{t:TS}(h:U0 X.UK st t):U0 X st t:=fun pins s σ H D I hw =>
 Iw (h pins s σ H D (I.Cd _) hw) (fun _ _ q=>q.rZ) fun _ _ z=>bT z
end
section
variable {X:Cx} {st:Stmt} {rest:List Stmt} {t u:TS} {e:Expr} {te:TE} {pos:Pos}
theorem Inv.quiet{pins:List (Addr×Obj)}{σ:St}{H:Hp}{s:aF}(I:Inv X pins σ H s):interactive X.env=false:=by simp [interactive,I.ok.kind]
end
noncomputable abbrev aaC:=V->V->V->Hp->(Hp->Prop)->Prop
noncomputable def aaF(X:Cx)(t:aaC):Prop :=
 ∀ (pins:List (Addr×Obj)) (s:aF) (σ:St) (H:Hp) (o i v:V) (ov iv u:Value) (Q:Hp->Prop),Inv X pins σ H s->RelV o ov->RelV i iv->RelV v u->t o i v H Q ->
  wpAny (model X.prog X.w) X.A (setItem ov iv u) (fun _ s'=>∃ H',Inv X pins σ H' s'/\Q H') X.xe s
structure It where
 go:Nat->Hp->Prop
 yld:Nat->Hp->V->Hp->Prop
 stop:Nat->Hp->Prop
noncomputable def qm(X:Cx)(pins:List (Addr×Obj))(H:Hp)(b:Addr):Prop :=
 H b=none/\b≠X.env.locals/\b∉X.fs/\(b∈X.ex\/X.oy.heap.objs.size<=b)/\(∀ x c,X.env.cells.lookup x=some c->c≠b)/\∀ p∈X.pn++pins,p.1≠b
theorem Inv.JC{X:Cx}{pins:List (Addr×Obj)}{σ:St}{H H':Hp}{s:aF}{b:Addr}(I:Inv X pins σ H s)(hb:s.heap.objs.size<=b)(hn:H' b=none):qm X pins H' b:=by
 refine⟨hn,Nat.ne_of_gt (bV I.lt hb),I.Y8 hb,.inr (eC I.sz hb),fun x c e z=>?_,fun p hp z=>?_⟩
 ·obtain⟨v,q⟩:=I.cell x c e;exact absurd (bV q.lt (by rw [z]; exact hb)) (jA _)
 ·exact absurd (bV (bc (I.pin p hp).1) (by rw [z]; exact hb)) (jA _)
structure Turn(P:bU)(w:World)(K:aw)(tg:Expr)(J:It)(fp:List Addr)(it:Addr)(tn:Nat->Heap->Prop):Prop where
 mem:it∈fp
 obj:∀ i h,tn i h->∀ b∈fp,∃ o,h.get? b=some o/\∀ v,o.data≠.cell v
 keep:∀ i h h',tn i h->(∀ b∈fp,∀ o,h.get? b=some o->h'.get? b=some o)->tn i h'
 item:∀ (X:Cx),X.prog=P->X.w=w->X.K=K->X.calm=true->∀ (i:Nat) (pins:List (Addr×Obj)) (s:aF) (σ:St) (H:Hp) (E:Value->aF->Prop),Inv X pins σ H s->(∀ b∈fp,qm X pins H b)->tn i s.heap->J.go i H ->
  wpAny (model P w) X.A (pyNext (.ref it)) (fun r s1=>∃ u,r=some u /\
   wpAny (model P w) X.A (Ap tg (.ref it) u) (fun _ s2=>∃ x H',Inv X pins σ H' s2/\RelV x u/\J.yld i H x H'/\tn (i+1) s2.heap/\∀ b∈fp,H' b=none) E s1) E s
 done:∀ (X:Cx),X.prog=P->X.w=w->X.K=K->X.calm=true->∀ (i:Nat) (pins:List (Addr×Obj)) (s:aF) (σ:St) (H:Hp) (E:Value->aF->Prop),Inv X pins σ H s->(∀ b∈fp,qm X pins H b)->tn i s.heap->J.stop i H ->
  wpAny (model P w) X.A (pyNext (.ref it)) (fun r s1=>r=none/\Inv X pins σ H s1) E s
 self:∀ (A:eO) (i:Nat) (s:aF) (Q:Value->aF->Prop) (E:Value->aF->Prop),tn i s.heap->Q (.ref it) s->wpAny (model P w) A (pyIter (.ref it)) Q E s
noncomputable abbrev TI:=St->Hp->(It->Hp->Prop)->Prop
noncomputable def PIE(X:Cx)(pins:List (Addr×Obj))(σ:St)(tg:Expr)(R:It->Hp->Prop)(RX:Value)(s2:aF):Prop :=
 ∃ (it:Addr) (fp:List Addr) (tn:Nat->Heap->Prop) (J:It) (H':Hp),RX=.ref it/\Inv X pins σ H' s2/\Turn X.prog X.w X.K tg J fp it tn/\tn 0 s2.heap/\(∀ b∈fp,qm X pins H' b)/\R J H'
theorem K1{M:Model}{A:eO}{E:Value->aF->Prop}{s:aF}{tg:Expr}{it:Addr}{u:Value}{o:Obj}{n:String}{vs:Array Value}{Q:Unit->aF->Prop}(ho:s.heap.get? it=some o)(hc:o.cls=.type n)(hd:o.data=.fields vs)
    (hn:["enumerate","zip","dict_itemiterator","dict_reverseitemiterator","odict_iterator","itertools.zip_longest","itertools.pairwise"].contains n=false) (hQ:Q () s):wpAny M A (Ap tg (.ref it) u) Q E s:=by
  unfold Ap;cases tg <;> first
    | exact bM hQ
    | (cases u <;> first
        | exact bM hQ
        | (refine aQ (wpAny_load ho ?_)
           rw [hc,hd];show wpAny M A (if (["enumerate","zip","dict_itemiterator","dict_reverseitemiterator","odict_iterator","itertools.zip_longest","itertools.pairwise"].contains n&&vs[0]? == some (rawInt _))=true then _ else _) Q E s;rw [if_neg (by intro h; rw [hn,Ke] at h; cases h)];exact bM hQ))
noncomputable def Itl(K:aw)(a:Addr):It :=
 ⟨fun i H=>∃ xs x,qy K H a xs/\xs[i]?=some x,fun i H x H'=>H'=H/\∀ xs,qy K H a xs->xs[i]?=some x,fun i H=>∃ xs,qy K H a xs/\xs.length<=i⟩
noncomputable def Itt(K:aw)(a:Addr):It :=
 ⟨fun i H=>∃ xs x,BQ K H a xs/\xs[i]?=some x,fun i H x H'=>H'=H/\∀ xs,BQ K H a xs->xs[i]?=some x,fun i H=>∃ xs,BQ K H a xs/\xs.length<=i⟩
noncomputable def Itr(lo:Int)(n:Nat):It:=⟨fun i _=>i < n,fun i H x H'=>H'=H/\x=.int (lo+i),fun i _=>n<=i⟩
theorem Lz{P:bU}{w:World}{K:aw}{tg:Expr}(a it:Addr):Turn P w K tg (Itl K a) [it] it (fun i h=>h.IsListIter it a i) where
 mem:=by simp
 obj:=fun i h st b hb=>by
  have e:b=it:=by simpa using hb
  subst e;obtain⟨o,e,c,d⟩:=st;exact⟨o,e,fun v z=>by rw [d] at z; cases z⟩
 keep:=fun i h h' st k=>st.at fun o e=>k it (by simp) o e
 item:=by
  intro X hP hw hK hc i pins s σ H E I hf st hg;subst hP hw hK;obtain⟨xs,x,hq,hx⟩:=hg;obtain⟨bO,rv,p,hz⟩:=I.list hq;obtain⟨u,hu,ru⟩:=rv.get hx;obtain⟨f0,f1,f2,f3,f4,f5⟩:=hf it (by simp);refine wpAny_pyNext_list_item st p.isList (x:=u) (by simpa using hu) fun h' C6 sb=>?_;have I1:Inv X pins σ H { s with heap:=h' }:=I.turned (t':=s.toks) (fun b o hb e=>(sb.2 b hb).trans e) f0 f1 f3 f4 f5;obtain⟨o,e,c,d⟩:=id C6;exact⟨u,rfl,K1 (s:={ s with heap:=h' }) e c d (by decide) ⟨x,H,I1,ru,⟨rfl,fun ys hy=>by rw [I.sM hy hq]; exact hx⟩,C6,fun b hb=>(hf b hb).1⟩⟩
 done:=by
  intro X hP hw hK hc i pins s σ H E I hf st hg;subst hP hw hK;obtain⟨xs,hq,hx⟩:=hg;obtain⟨bO,rv,p,hz⟩:=I.list hq;obtain⟨f0,f1,f2,f3,f4,f5⟩:=hf it (by simp);have hl:=rv.length;exact wpAny_pyNext_list_end (I.ok.hd hc) st p.isList (by simp; lia) fun h' eb=>⟨rfl,I.turned (t':=s.toks) (fun b o hb e=>eb b o hb e) f0 f1 f3 f4 f5⟩
 self:=fun _ _ _ _ _ st h=>wpAny_pyIter_listiter st h
theorem II{P:bU}{w:World}{K:aw}{tg:Expr}(a it:Addr):Turn P w K tg (Itt K a) [it] it (fun i h=>h.IsTupleIter it a i) where
 mem:=by simp
 obj:=fun i h st b hb=>by
  have e:b=it:=by simpa using hb
  subst e;obtain⟨o,e,c,d⟩:=st;exact⟨o,e,fun v z=>by rw [d] at z; cases z⟩
 keep:=fun i h h' st k=>st.at fun o e=>k it (by simp) o e
 item:=by
  intro X hP hw hK hc i pins s σ H E I hf st hg;subst hP hw hK;obtain⟨xs,x,hq,hx⟩:=hg;obtain⟨bO,rv,p,hz⟩:=I.tuple hq;obtain⟨u,hu,ru⟩:=rv.get hx;obtain⟨f0,f1,f2,f3,f4,f5⟩:=hf it (by simp);refine wpAny_pyNext_tuple_item st (show s.heap.IsTuple a bO.toArray from p) (x:=u) (by simpa using hu) fun h' C6 sb=>?_;have I1:Inv X pins σ H { s with heap:=h' }:=I.turned (t':=s.toks) (fun b o hb e=>(sb.2 b hb).trans e) f0 f1 f3 f4 f5;obtain⟨o,e,c,d⟩:=id C6;exact⟨u,rfl,K1 (s:={ s with heap:=h' }) e c d (by decide) ⟨x,H,I1,ru,⟨rfl,fun ys hy=>by rw [I.LB hy hq]; exact hx⟩,C6,fun b hb=>(hf b hb).1⟩⟩
 done:=by
  intro X hP hw hK hc i pins s σ H E I hf st hg;subst hP hw hK;obtain⟨xs,hq,hx⟩:=hg;obtain⟨bO,rv,p,hz⟩:=I.tuple hq;obtain⟨f0,f1,f2,f3,f4,f5⟩:=hf it (by simp);have hl:=rv.length;exact wpAny_pyNext_tuple_end (I.ok.hd hc) st (show s.heap.IsTuple a bO.toArray from p) (by simp; lia) fun h' eb=>⟨rfl,I.turned (t':=s.toks) (fun b o hb e=>eb b o hb e) f0 f1 f3 f4 f5⟩
 self:=fun _ _ _ _ _ st h=>wpAny_pyIter_tupleiter st h
theorem IJ{P:bU}{w:World}{K:aw}{tg:Expr}(it:Addr)(lo:Int)(n:Nat):Turn P w K tg (Itr lo n) [it] it (fun i h=>IsRangeIter h it (lo+(i:Nat) * 1) ((n:Int) - (i:Nat)) 1) where
 mem:=by simp
 obj:=fun i h st b hb=>by
  have e:b=it:=by simpa using hb
  subst e;exact⟨_,st,fun v z=>by
   have z':Data.fields _=Data.cell v:=z;cases z'⟩
 keep:=fun i h h' st k=>k it (by simp) _ st
 item:=by
  intro X hP hw hK hc i pins s σ H E I hf st hg;subst hP hw hK;obtain⟨f0,f1,f2,f3,f4,f5⟩:=hf it (by simp);have W:=Walks.range (prog:=X.prog) (w:=X.w) (I.ok.hd hc) it lo 1 n;refine W.item i s _ _ hg st fun v h' tk hv C6 kk=>?_;obtain⟨t,rfl⟩:=hv;have I1:Inv X pins σ H { s with heap:=h',toks:=tk }:=I.turned (fun b o hb e=>kk b o (by simpa using hb) e) f0 f1 f3 f4 f5;refine⟨_,rfl,K1 (s:={ s with heap:=h',toks:=tk }) (n:="range_iterator") C6 rfl rfl (by decide) ⟨.int (lo+i),H,I1,⟨t,?_⟩,⟨rfl,rfl⟩,C6,fun b hb=>(hf b hb).1⟩⟩;rw [Int.mul_one]
 done:=by
  intro X hP hw hK hc i pins s σ H E I hf st hg;subst hP hw hK;obtain⟨f0,f1,f2,f3,f4,f5⟩:=hf it (by simp);exact wpAny_pyNext_range_end (I.ok.hd hc) st (by have:n<=i:=hg; lia) fun h' eb=>⟨rfl,I.turned (t':=s.toks) (fun b o hb e=>eb b o hb e) f0 f1 f3 f4 f5⟩
 self:=fun _ _ _ _ _ st h=>wpAny_pyIter_rangeiter st h
section
variable {X:Cx} {tg:Expr}
theorem N8{pins:List (Addr×Obj)}{σ:St}{H:Hp}{s:aF}{R:It->Hp->Prop}{E:Value->aF->Prop}{lo hi:Int}{t u v:Tok}{tk:Nat}(I:Inv X pins σ H s)(h1:-(2 ^ 62)<=lo)(h2:lo < 2 ^ 62)(h3:-(2 ^ 62)<=hi)(h4:hi < 2 ^ 62)
  (q:R (Itr lo (hi - lo).toNat) H):wpAny (model X.prog X.w) X.A (pyIter (.ref s.heap.objs.size)) (PIE X pins σ tg R) E { s with heap:=s.heap.push { cls:=.type "range",data:=.fields #[.int lo t,.int hi u,.int 1 v] },toks:=tk }:=by
 refine wpAny_pyIter_range (IsRange.new ..) (small_one h1 h2 h3 h4) ?_;have I1:Inv X pins σ H { s with heap:=s.heap.push { cls:=.type "range",data:=.fields #[.int lo t,.int hi u,.int 1 v] },toks:=tk }:=I.kept fun b o e=>aY _ e
 refine⟨(s.heap.push { cls:=.type "range",data:=.fields #[.int lo t,.int hi u,.int 1 v] }).objs.size,[(s.heap.push { cls:=.type "range",data:=.fields #[.int lo t,.int hi u,.int 1 v] }).objs.size],_,_,H,rfl,
  I1.kept (t':=tk) fun b o e=>aY _ e,IJ _ lo (hi - lo).toNat,?_,fun b hb=>?_,q⟩
 ·have e1:lo+((0:Nat):Int) * 1=lo:=by simp
  have e2:(((hi - lo).toNat:Nat):Int) - ((0:Nat):Int)=Builtin.Range.rangeSize lo hi 1:=by rw [rangeSize_one]; split <;> lia
  show IsRangeIter _ _ (lo+((0:Nat):Int) * 1) ((((hi - lo).toNat:Nat):Int) - ((0:Nat):Int)) 1;rw [e1,e2];exact cf _ rfl
 ·have e:b=(s.heap.push { cls:=.type "range",data:=.fields #[.int lo t,.int hi u,.int 1 v] }).objs.size:=by simpa using hb
  subst e;exact I1.JC (aT _) (I1.fB.fresh (aT _))
noncomputable def sC(fp:List Addr)(h:Heap):List (Addr×Obj):=fp.filterMap fun b=>(h.get? b).map fun o=>(b,o)
theorem qL{fp:List Addr}{h:Heap}{b:Addr}{o:Obj}(hb:b∈fp)(e:h.get? b=some o):(b,o)∈sC fp h:=List.mem_filterMap.mpr ⟨b,hb,by rw [e]; rfl⟩
theorem L1{fp:List Addr}{h:Heap}{p:Addr×Obj}(hp:p∈sC fp h):p.1∈fp/\h.get? p.1=some p.2:=by
 obtain⟨b,hb,e⟩:=List.mem_filterMap.mp hp;cases q:h.get? b with
 | none=>rw [q] at e; cases e
 | some o =>
  rw [q] at e;have e':(b,o)=p:=bY e;subst e';exact⟨hb,q⟩
theorem Inv.pinned{pins:List (Addr×Obj)}{σ:St}{H:Hp}{s:aF}{fp:List Addr}(I:Inv X pins σ H s)(hf:∀ b∈fp,qm X pins H b)(ho:∀ b∈fp,∃ o,s.heap.get? b=some o/\∀ v,o.data≠.cell v):Inv X (pins++sC fp s.heap) σ H s :=
 I.Ku fun p hp=>(List.mem_append.mp hp).elim (fun z=>I.pin p (bN _ z)) fun z=>by
  obtain⟨hb,e⟩:=L1 z;obtain⟨f0,f1,f2,_⟩:=hf p.1 hb;obtain⟨o,e',d⟩:=ho p.1 hb;rw [e] at e'; cases e';exact⟨e,f0,f1,f2,d⟩
theorem Inv.vK{pins pl:List (Addr×Obj)}{σ:St}{H:Hp}{s:aF}(I:Inv X (pins++pl) σ H s):Inv X pins σ H s:=I.Ku fun p hp=>I.pin p (bN _ (cZ _ hp))
end
noncomputable abbrev R2:=V->V->Hp->VK->Prop
noncomputable def MW(X:Cx)(f:Value->Value->Sem Value)(r:R2):Prop :=
 ∀ (pins:List (Addr×Obj)) (s:aF) (σ:St) (H:Hp) (x y:V) (v u:Value) (Q:VK),Inv X pins σ H s->RelV x v->RelV y u->r x y H Q ->
  wpAny (model X.prog X.w) X.A (f v u) (EP X pins σ Q) X.xe s
noncomputable def UnR(X:Cx)(f:Value->Sem Value)(r:V->Hp->VK->Prop):Prop :=
 ∀ (pins:List (Addr×Obj)) (s:aF) (σ:St) (H:Hp) (x:V) (v:Value) (Q:VK),Inv X pins σ H s->RelV x v->r x H Q ->
  wpAny (model X.prog X.w) X.A (f v) (EP X pins σ Q) X.xe s
noncomputable def Sl(X:Cx)(f:Value)(r:List V->Hp->VK->Prop):Prop :=
 ∀ (pins:List (Addr×Obj)) (s:aF) (σ:St) (H:Hp) (xs:List V) (us:List Value) (Q:VK),Inv X pins σ H s->Vals xs us->r xs H Q ->
  wpAny (model X.prog X.w) X.A (call f us) (EP X pins σ Q) X.xe s
noncomputable def aaB(X:Cx)(r:V->Hp->(Bool->Hp->Prop)->Prop):Prop :=
 ∀ (pins:List (Addr×Obj)) (s:aF) (σ:St) (H:Hp) (x:V) (v:Value) (Q:Bool->Hp->Prop),Inv X pins σ H s->RelV x v->r x H Q ->
  wpAny (model X.prog X.w) X.A (truthy v) (TP X pins σ Q) X.xe s
noncomputable def rI(C:Int->Int->Prop)(g:Int->Int->V):R2:=fun x y H Q=>∃ i j,x=.int i/\y=.int j/\C i j/\Q (g i j) H
noncomputable def UG(g:Int->Int->V):R2:=fun x y H Q=>∃ i j,x=.int i/\y=.int j/\Q (g i j) H
noncomputable def rU(g:Int->V):V->Hp->VK->Prop:=fun x H Q=>∃ i,x=.int i/\Q (g i) H
section
variable {X:Cx} {a b c:Expr} {ta tb tc:TE} {pos:Pos}
theorem YF{f:Value->Value->Sem Value}{C:Int->Int->Prop}{g:Int->Int->Int}
  (rule:∀ (i j:Int) (t u:Tok) (s:aF) (Q:Value->aF->Prop) (E:Value->aF->Prop),C i j->Q (.int (g i j) s.toks) { s with toks:=s.toks+1 }->wpAny (model X.prog X.w) X.A (f (.int i t) (.int j u)) Q E s) :
  MW X f (rI C fun i j=>.int (g i j)):=by
 intro pins s σ H x y v u Q I rx ry h;obtain⟨i,j,rfl,rfl,hc,q⟩:=h;obtain⟨t,rfl⟩:=rx;obtain⟨t',rfl⟩:=ry;exact rule i j t t' s _ _ hc ⟨.int (g i j),H,I.tok _,⟨_,rfl⟩,q⟩
theorem VI{f:Value->Value->Sem Value}{g:Int->Int->Int}
  (rule:∀ (i j:Int) (t u:Tok) (s:aF) (Q:Value->aF->Prop) (E:Value->aF->Prop),Q (.int (g i j) s.toks) { s with toks:=s.toks+1 }->wpAny (model X.prog X.w) X.A (f (.int i t) (.int j u)) Q E s) :
  MW X f (UG fun i j=>.int (g i j)):=by
 intro pins s σ H x y v u Q I rx ry h;obtain⟨i,j,rfl,rfl,q⟩:=h;obtain⟨t,rfl⟩:=rx;obtain⟨t',rfl⟩:=ry;exact rule i j t t' s _ _ ⟨.int (g i j),H,I.tok _,⟨_,rfl⟩,q⟩
theorem VJ{f:Value->Value->Sem Value}{g:Int->Int->Bool}
  (rule:∀ (i j:Int) (t u:Tok) (s:aF) (Q:Value->aF->Prop) (E:Value->aF->Prop),Q (.bool (g i j)) s->wpAny (model X.prog X.w) X.A (f (.int i t) (.int j u)) Q E s) :
  MW X f (UG fun i j=>.bl (g i j)):=by
 intro pins s σ H x y v u Q I rx ry h;obtain⟨i,j,rfl,rfl,q⟩:=h;obtain⟨t,rfl⟩:=rx;obtain⟨t',rfl⟩:=ry;exact rule i j t t' s _ _ ⟨.bl (g i j),H,I,rfl,q⟩
noncomputable def aaT(i j:Int):Prop:=0 < j/\j < 1073741824
noncomputable def UC(i j:Int):Prop:=(-(2 ^ 64) < i/\i < 2 ^ 64)\/(-(2 ^ 64) < j/\j < 2 ^ 64)
theorem UC.ok{i j:Int}(h:UC i j):IntMulOk i j:=by
 rcases h with ⟨h1,h2⟩ | ⟨h1,h2⟩
 ·exact .of_left (intBits_le_64 h1 h2)
 ·exact .of_right (intBits_le_64 h1 h2)
theorem Ta:MW X (lF .Add) (UG fun i j=>.int (i+j)):=VI fun _ _ _ _ _ _ _ q=>add_int q
theorem S6:MW X (lF .Sub) (UG fun i j=>.int (i - j)):=VI fun _ _ _ _ _ _ _ q=>sub_int q
theorem S7:MW X (lF .Mult) (rI UC fun i j=>.int (i * j)):=YF fun _ _ _ _ _ _ _ hc q=>mul_int q hc.ok
theorem QZ:MW X (lF .FloorDiv) (rI aaT fun i j=>.int (i / j)):=YF fun i j _ _ _ _ _ hc q=>by
 have h1:(0:Int) < j:=hc.1;have h2:j < 1073741824:=hc.2;exact floordiv_int (by lia) (by rw [Int.fdiv_eq_ediv_of_nonneg i (by lia)]; exact q) (.inl (PyProof.noPylong_small (by lia)))
theorem S8:MW X (lF .Mod) (rI (fun _ j=>0 < j) fun i j=>.int (i % j)):=YF fun i j _ _ _ _ _ hc q=>by
 have h1:(0:Int) < j:=hc;exact mod_int' (by lia) (by rw [Int.fmod_eq_emod_of_nonneg i (by lia)]; exact q)
theorem unI{f:Value->Sem Value}{g:Int->Int}
  (rule:∀ (i:Int) (t:Tok) (s:aF) (Q:Value->aF->Prop) (E:Value->aF->Prop),Q (.int (g i) s.toks) { s with toks:=s.toks+1 }->wpAny (model X.prog X.w) X.A (f (.int i t)) Q E s) :
  UnR X f (rU fun i=>.int (g i)):=by
 intro pins s σ H x v Q I rx h;obtain⟨i,rfl,q⟩:=h;obtain⟨t,rfl⟩:=rx;exact rule i t s _ _ ⟨.int (g i),H,I.tok _,⟨_,rfl⟩,q⟩
theorem Sv:UnR X (unaryOp .USub) (rU fun i=>.int (-i)):=unI fun _ _ _ _ _ q=>neg_int q
end
section
variable {X:Cx} {a b c:Expr} {ta tb tc:TE} {pos:Pos}
theorem VG:MW X (gw .Lt) (UG fun i j=>.bl (decide (i < j))):=VJ fun _ _ _ _ _ _ _ q=>lt_int q
theorem VH:MW X (gw .Gt) (UG fun i j=>.bl (decide (j < i))):=VJ fun _ _ _ _ _ _ _ q=>gt_int q
theorem dq(b:Expr){op:CmpOp}(h:autoParam (op≠.In) Ad._auto_1)(h2:autoParam (op≠.NotIn) Ad._auto_1):behindInMarks op b=false:=by
 have e1:(op == CmpOp.In)=false:=by cases op <;> first | rfl | exact absurd rfl h
 have e2:(op == CmpOp.NotIn)=false:=by cases op <;> first | rfl | exact absurd rfl h2
 cases b with
 | Set es k _ =>
  show (k == 0&&(op == .In||op == .NotIn)&&es.all (constantsAlone 8))=false;rw [e1,e2,Bool.or_false,Kf,Ke]
 | _=>rfl
noncomputable def Uv(K:aw)(x:V)(H:Hp)(k:Bool):Prop :=
 match x with
 | .eK=>k=false
 | .bl b=>k=b
 | .int i=>k=(i != 0)
 | .str y=>y.length<=br/\k=((y.length:Int) != 0)
 | .Sd y=>y.size<=br/\k=((y.size:Int) != 0)
 | .ref p=>(∃ xs,qy K H p xs/\k=!xs.isEmpty)\/(∃ xs,BQ K H p xs/\k=!xs.isEmpty)\/∃ bB,H p=some (.dK bB)/\k=!bB.isEmpty
 | _=>False
theorem Jq{κ:Type}{bB:List (κ×V)}{vs:List (κ×Value)}(r:KV bB vs):(!vs.isEmpty)=!bB.isEmpty:=by
 cases r <;> rfl
theorem Bk{xs:List V}{bO:List Value}(r:Vals xs bO):(!bO.toArray.isEmpty)=!xs.isEmpty:=by
 cases r <;> simp
theorem A8:(br:Nat) < 2 ^ 63:=by rw [dm]; decide
theorem SA:aaB X (fun x H Q=>∃ k,Uv X.K x H k/\Q k H):=by
 intro pins s σ H x v Q I rx h;obtain⟨k,e,q⟩:=h;have hl:=A8;have hs:br=16777216:=dm;cases x with
 | eK =>
  cases rx;have e':k=false:=e;subst e';exact truthy_none ⟨H,I,q⟩
 | bl b =>
  cases rx;have e':k=b:=e;subst e';exact vE ⟨H,I,q⟩
 | int i =>
  obtain⟨t,rfl⟩:=rx;have e':k=(i != 0):=e;subst e';exact PySem.P.truthy_int ⟨H,I,q⟩
 | str y =>
  obtain⟨t,rfl⟩:=rx;obtain⟨hy,e'⟩:y.length<=br/\k=((y.length:Int) != 0):=e;subst e';exact PySem.P.truthy_str (by lia) ⟨H,I.tok _,q⟩
 | Sd y =>
  obtain⟨t,rfl⟩:=rx;obtain⟨hy,e'⟩:y.size<=br/\k=((y.size:Int) != 0):=e;subst e';exact PySem.W.truthy_bytes (by lia) ⟨H,I.tok _,q⟩
 | ref p =>
  cases rx;have e':(∃ xs,qy X.K H p xs/\k=!xs.isEmpty)\/(∃ xs,BQ X.K H p xs/\k=!xs.isEmpty)\/∃ bB,H p=some (.dK bB)/\k=!bB.isEmpty:=e;rcases e' with ⟨xs,hx,e'⟩ | ⟨xs,hx,e'⟩ | ⟨bB,hx,e'⟩
  ·subst e';obtain⟨bO,r,pl,hz⟩:=I.list hx;have hlen:=r.length;exact wpAny_truthy_list pl.isList (by simp only [a9]; lia) ⟨H,I.tok _,by rw [Bk r]; exact q⟩
  ·subst e';obtain⟨bO,r,pl,hz⟩:=I.tuple hx;have hlen:=r.length;exact truthy_tuple pl (by simp only [a9]; lia) ⟨H,I.tok _,by rw [Bk r]; exact q⟩
  ·subst e';obtain⟨hz,hS,vs,r,m⟩:bB.length<=br/\(p == mT)=false/\∃ vs,KV bB vs/\s.heap.DictOf (iE X.prog X.w) p vs:=I.fB p _ hx;have hlen:bB.length=vs.length:=zJ r;exact Iv hS m (by lia) ⟨H,I.tok _,by rw [Jq r]; exact q⟩
 | _=>exact(show False from e).elim
theorem IY:MW X (lF .Add) (fun x y H Q=>∃ i j,x=.str i/\y=.str j/\i.length+j.length<=br/\Q (.str (i++j)) H):=by
 intro pins s σ H x y v u Q I rx ry h;obtain⟨i,j,rfl,rfl,hz,q⟩:=h;obtain⟨t,rfl⟩:=rx;obtain⟨t',rfl⟩:=ry;exact add_str (fun t' tk=>⟨.str (i++j),H,I.tok _,⟨_,rfl⟩,q⟩) hz
theorem vals1{x:V}{us:List Value}(r:Vals [x] us):∃ u,us=[u]/\RelV x u:=by
 cases r with
 | cons r1 r2=>cases r2; exact⟨_,rfl,r1⟩
theorem vals2{x y:V}{us:List Value}(r:Vals [x,y] us):∃ u w',us=[u,w']/\RelV x u/\RelV y w':=by
 cases r with
 | cons r1 r2 =>
  cases r2 with
  | cons r3 r4=>cases r4; exact⟨_,_,rfl,r1,r3⟩
noncomputable def W9(K:aw)(x:V)(H:Hp)(n:Nat):Prop :=
 match x with
 | .str y=>y.length<=br/\n=y.length
 | .Sd y=>y.size<=br/\n=y.size
 | .ref p=>(∃ xs,qy K H p xs/\n=xs.length)\/∃ xs,BQ K H p xs/\n=xs.length
 | _=>False
theorem PA:Sl X (.builtin "len") (fun xs H Q=>∃ x n,xs=[x]/\W9 X.K x H n/\Q (.int n) H):=by
 intro pins s σ H xs us Q I r h;obtain⟨x,n,rfl,e,q⟩:=h;obtain⟨u,rfl,rx⟩:=vals1 r;have hl:=A8;have hs:br=16777216:=dm;cases x with
 | str y =>
  obtain⟨t,rfl⟩:=rx;obtain⟨hy,e'⟩:y.length<=br/\n=y.length:=e;subst e';exact len_str (by lia) ⟨.int _,H,I.tok _,⟨_,rfl⟩,q⟩
 | Sd y =>
  obtain⟨t,rfl⟩:=rx;obtain⟨hy,e'⟩:y.size<=br/\n=y.size:=e;subst e';exact PySem.W.len_bytes (by lia) ⟨.int _,H,I.tok _,⟨_,rfl⟩,q⟩
 | ref p =>
  cases rx;have e':(∃ xs,qy X.K H p xs/\n=xs.length)\/∃ xs,BQ X.K H p xs/\n=xs.length:=e;rcases e' with ⟨xs,hx,e'⟩ | ⟨xs,hx,e'⟩
  ·subst e';obtain⟨bO,r',pl,hz⟩:=I.list hx;have hlen:=r'.length;exact Calls.call_len_list pl.isList (by simp only [a9]; lia) ⟨.int xs.length,H,I.tok _,⟨_,by simp only [a9]; rw [hlen]⟩,q⟩
  ·subst e';obtain⟨bO,r',pl,hz⟩:=I.tuple hx;have hlen:=r'.length;exact len_tuple pl (by simp only [a9]; lia) ⟨.int xs.length,H,I.tok _,⟨_,by simp only [a9]; rw [hlen]⟩,q⟩
 | _=>exact(show False from e).elim
end
structure JV(h:Heap)(x dx C:Addr)(mA:Str->Option Value):Prop where
 obj:h.get? x=some (iX C dx)
 ns:h.Ns1 dx mA
 ne:dx≠x
theorem Me{h:Heap}{dx:Addr}{mA:Str->Option Value}(n:h.Ns1 dx mA):∃ od,h.get? dx=some od/\∀ name,xq name od=some (mA name):=by
 obtain⟨o,es,ep,ho,hd,hk,_,hm⟩:=n;refine⟨o,ho,fun name=>?_⟩;have e:=hm name;unfold nsFind findBy at e;rw [<-Array.find?_toList] at e;unfold xq;rw [hd];dsimp only;split
 ·rename_i y q;rw [q] at e;exact congrArg some e
 ·rename_i q;rw [q] at e;have a:es.toList.any (·.refKey)=false:=by
   rw [List.any_eq_false];intro y hy;obtain⟨z,t,ZV⟩:=hk y (Array.mem_toList_iff.mp hy);simp [DictEntry.refKey,ZV]
  have a':¬ es.toList.any (·.refKey)=true:=by rw [a]; exact jZ
  rw [if_neg a'];exact congrArg some e
theorem JV.look{h:Heap}{x dx C:Addr}{mA:Str->Option Value}(I:JV h x dx C mA):∃ od,PySem.W.InstAt h x (iX C dx) C (some od)/\∀ name,xq name od=some (mA name) :=
 let ⟨od,ho,hl⟩:=Me I.ns
 ⟨od,⟨I.obj,rfl,rfl,ho⟩,hl⟩
section
variable {prog:bU} {w:World} {A:eO} {E:Value->aF->Prop} {s:aF} {K:aw} {x dx C f:Addr} {mA:Str->Option Value} {name:Str} {v:Value}
theorem get_map{expr:Bool}{Q:Value->aF->Prop}(X:K.In s.heap)(I:JV s.heap x dx C mA)(hg:tP K C name=true)(hh:Aw K C=true)
  (ha:bD K (.ref C) name=some none) (hv:mA name=some v) (hv':PySem.W.handedIn v=true) (h:Q v { s with toks:=s.toks+1 }) :
  wpAny (model prog w) A (getAttr (.ref x) name expr) Q E s:=by
 obtain⟨od,J,hl⟩:=I.look;exact PySem.W.get_value X J (xD hg).1 (PySem.W.findObj_own hh ha rfl (by rw [hl,hv])) hv' h
theorem O5{pl:Sem Bool}{Q:Value×List Value->aF->Prop}(X:K.In s.heap)(I:JV s.heap x dx C mA)(hg:tP K C name=true)
  (hf:bD K (.ref C) name=some (some (.ref f))) (ht:Ls K (.ref f)=true) (hv:mA name=none) (h:Q (.ref f,[.ref x]) s) :
  wpAny (model prog w) A (getMethod (.ref x) name pl) Q E s:=by
 obtain⟨od,J,hl⟩:=I.look;exact PySem.W.method_fn X J (xD hg).1 (xD hg).2 hf (beq_iff_eq.mp ht) (by show (xq name od).map (·.isSome)=some false; rw [hl,hv]; rfl) h
theorem QA{ns:List Str}{Q:Unit->aF->Prop}(X:K.In s.heap)(I:JV s.heap x dx C mA)
  (hs:bD K (.ref C) "__setattr__" = some (some (.builtin "object.__setattr__"))) (hp:Qg K C=true) (ht:DQ K C name=some none) (hh:Aw K C=true)
  (hw:Np mA ns) (hsz:ns.length<=br)
  (h:∀ h',JV h' x dx C (fun y=>if y=name then some v else mA y)->DV dx s.heap h'->Q () { s with heap:=h',toks:=s.toks+2 }) :
  wpAny (model prog w) A (setAttr (.ref x) name v) Q E s:=by
 obtain⟨od,J,hl⟩:=I.look;refine PySem.W.set_plain X J hs (PySem.W.osa_open (s:={ s with toks:=s.toks+1 }) (r:=none) X J hp ht fun b=>?_);obtain⟨cd,hc,MC⟩:=PySem.W.any_some hh;have hx:s.heap.get? x=some ⟨.ref C,some dx,.plain,#[]⟩:=I.obj;refine aQ (bM (aQ (aQ (wpAny_loadPart hx (aQ (PySem.W.Looks.here (s:={ s with toks:=s.toks+1 }) (PySem.W.looks_clsIn X hc) ?_))))));rw [MC];refine bM (a:=some dx) (aQ (bM (aQ ?_)));refine wpAny_nsSet1 (s:={ s with toks:=s.toks+1 }) I.ns fun h' Xy FK=>?_;obtain⟨oD,esD,epD,hoD,hdD,hcD⟩:=Xy.count (PySem.Within.cons name v hw);refine aQ (wpAny_lookBehind hoD (by rw [hdD]; exact pastItsLine_dict (eC hcD (by rw [ag]; lia))) ?_);exact bM (h _ ⟨(FK.2 _ (gv I.ne)).trans I.obj,Xy,I.ne⟩ FK)
theorem OE{R:Result->aF->Prop}{vs:List Value}{kw:List (Str×Value)}(X:K.In s.heap)(hm:jU K C=true)
  (hi:bD K (.ref C) "__init__" = some (some (.ref f))) (hf:PySem.W.typeIn K (.ref f)=some (.type "function"))
  (h:xB (model prog w) (A.under (.builtin "type.__call__" ⟨.ref C :: vs,kw⟩)) (.call (.ref f) ⟨.ref (s.heap.objs.size+1) :: vs,kw⟩) (PySem.W.InitBack (s.heap.objs.size+1) R)
   { s with heap:=(s.heap.push fW).push (iX C s.heap.objs.size) }) :
  xB (model prog w) A (.call (.ref C) ⟨vs,kw⟩) R s:=by
 obtain⟨hh,g,d,t,os⟩:=s;exact PySem.W.make_core (PySem.W.makes_of X hm) (PySem.W.looks_findIn X hi) (fun self=>PySem.W.bind_fn X self hf) (.inl rfl) h
end
noncomputable def oz(f:Str)(v:V):List (Str×V)->List (Str×V)
 | []=>[(f,v)]
 | (g,x) :: r=>if g=f then (g,v) :: r else (g,x) :: oz f v r
theorem yU(f g:Str)(v:V):∀ fs:List (Str×V),(oz f v fs).lookup g=if g=f then some v else fs.lookup g
 | []=>by
  show qp g [(f,v)]=_;by_cases h:g=f
  ·have hb:(g == f)=true:=beq_iff_eq.mpr h;simp only [qp,hb,if_pos h]
  ·have hb:(g == f)=false:=beq_eq_false_iff_ne.mpr h;simp only [qp,hb,if_neg h]
 | (k,x) :: r=>by
  have ih:=yU f g v r;rw [show oz f v ((k,x) :: r)=(if k=f then (k,v) :: r else (k,x) :: oz f v r) from rfl];by_cases hk:k=f
  ·rw [if_pos hk];by_cases h:g=k
   ·have hb:(g == k)=true:=beq_iff_eq.mpr h;simp only [qp,hb,if_pos (h.trans hk)]
   ·have hb:(g == k)=false:=beq_eq_false_iff_ne.mpr h;simp only [qp,hb,if_neg (fun e:g=f=>h (e.trans hk.symm))]
  ·rw [if_neg hk];by_cases h:g=k
   ·have hb:(g == k)=true:=beq_iff_eq.mpr h;simp only [qp,hb,if_neg (fun e:g=f=>hk (h.symm.trans e))]
   ·have hb:(g == k)=false:=beq_eq_false_iff_ne.mpr h;simp only [qp,hb];exact ih
theorem xY(f:Str)(v:V):∀ fs:List (Str×V),f∈(oz f v fs).map (·.1)/\∀ g,g∈fs.map (·.1)->g∈(oz f v fs).map (·.1)
 | []=>⟨by simp [oz],fun g h=>by simp at h⟩
 | (k,x) :: r=>by
  obtain⟨i1,i2⟩:=xY f v r;rw [show oz f v ((k,x) :: r)=(if k=f then (k,v) :: r else (k,x) :: oz f v r) from rfl];by_cases hk:k=f
  ·rw [if_pos hk];subst hk;exact⟨by simp,fun g h=>by simpa using h⟩
  ·rw [if_neg hk];refine⟨?_,fun g h=>?_⟩
   ·rw [aq];exact aU _ i1
   ·rw [aq] at h ⊢;rcases List.mem_cons.mp h with e | e
    ·exact List.mem_cons.mpr (.inl e)
    ·exact aU _ (i2 g e)
theorem yW(f:Str)(v:V):∀ fs:List (Str×V),(oz f v fs).length<=fs.length+1
 | []=>by simp [oz]
 | (k,x) :: r=>by
  have ih:=yW f v r;rw [show oz f v ((k,x) :: r)=(if k=f then (k,v) :: r else (k,x) :: oz f v r) from rfl];by_cases hk:k=f
  ·rw [if_pos hk,ag,ag]; lia
  ·rw [if_neg hk,ag,ag]; lia
theorem uA.some_of{v:V}{o:Option Value}(r:uA (some v) o):∃ u,o=some u/\RelV v u:=by
 cases o with
 | none=>exact(show False from r).elim
 | some u=>exact⟨u,rfl,r⟩
theorem uA.none_of{o:Option Value}(r:uA none o):o=none:=by
 cases o with
 | none=>rfl
 | some u=>exact(show False from r).elim
theorem ME{v:V}{u:Value}(r:RelV v u):PySem.W.handedIn u=true:=by
 cases v with
 | eK=>cases (show u=mY from r); rfl
 | bl b=>cases (show u=J4 b from r); rfl
 | int i=>obtain⟨t,e⟩:=(show ∃ t,u=Nm i t from r); cases e; rfl
 | str x=>obtain⟨t,e⟩:=(show ∃ t,u=Nl x t from r); cases e; rfl
 | Sd b=>obtain⟨t,e⟩:=(show ∃ t,u=Value.bytes b t from r); cases e; rfl
 | rB b=>obtain⟨t,e⟩:=(show ∃ t,u=Value.float b t from r); cases e; rfl
 | ref a=>cases (show u=kS a from r); rfl
 | ty n=>cases (show u=Value.type n from r); rfl
section
variable {P:bU} {w:World} {H H':Hp} {h h':Heap} {a C dx:Addr} {fs fs':List (Str×V)}
theorem EC(fB:vB P w H h)(e:H a=some (.ins C dx fs)):∃ mA,JV h a dx C mA/\(∀ f,uA (fs.lookup f) (mA f))/\Np mA (fs.map (·.1))/\fs.length<=1000/\H dx=some (.own a):=by
 obtain⟨d,z,ne,ob,mA,n,r,q⟩:=(show je P w H h a (.ins C dx fs) from fB a _ e);exact⟨mA,⟨ob,n,ne⟩,r,q,z,d⟩
end
structure Qd(K:aw)(C:Addr):Prop where
 pg:tP K C Str.empty=true
 hd:Aw K C=true
 po:Qg K C=true
 sa:bD K (.ref C) "__setattr__" = some (some (.builtin "object.__setattr__"))
theorem Qd.get{K:aw}{C:Addr}(c:Qd K C)(f:Str):tP K C f=true:=c.pg
noncomputable def yt(K:aw)(C:Addr)(f:Str):Prop:=bD K (.ref C) f=some none
theorem yt.Vl{K:aw}{C:Addr}{f:Str}(n:yt K C f):DQ K C f=some none:=by
 unfold DQ;rw [show bD K (.ref C) f=some none from n];rfl
structure Con(K:aw)(C:Addr)(f:Str)(v:V)(u:Value):Prop where
 at_:bD K (.ref C) f=some (some u)
 rel:RelV v u
 get:Au K u "__get__" = some none
 cp:PySem.W.copiedNames.contains f=false
structure Meth(K:aw)(C:Addr)(m:Str)(f:Addr):Prop where
 at_:bD K (.ref C) m=some (some (.ref f))
 fn:Ls K (.ref f)=true
 kp:gh K (.ref f)=true
section
variable {X:Cx} {pins:List (Addr×Obj)} {σ:St} {H:Hp} {s:aF} {a C dx:Addr} {fs:List (Str×V)} {f:Str} {v:V} {A:eO} {E:Value->aF->Prop}
theorem Jx{b:Bool}{Q:Value->aF->Prop}(I:Inv X pins σ H s)(e:H a=some (.ins C dx fs))(c:Qd X.K C)(n:yt X.K C f)(l:fs.lookup f=some v)
  (h:∀ u s',Inv X pins σ H s'->RelV v u->Q u s'):wpAny (model X.prog X.w) A (getAttr (.ref a) f b) Q E s:=by
 obtain⟨mA,O,r,_,_,_⟩:=EC I.fB e;obtain⟨u,hu,ru⟩:=uA.some_of (v:=v) (o:=mA f) (by rw [<-l]; exact r f);exact get_map I.Cw O (c.get f) c.hd n hu (ME ru) (h u _ (I.tok _) ru)
theorem Bn{m:Str}{g:Addr}{pl:Sem Bool}{Q:Value×List Value->aF->Prop}(I:Inv X pins σ H s)(e:H a=some (.ins C dx fs))(c:Qd X.K C)(k:Meth X.K C m g)(l:fs.lookup m=none)
  (h:Q (.ref g,[.ref a]) s):wpAny (model X.prog X.w) A (getMethod (.ref a) m pl) Q E s:=by
 obtain⟨mA,O,r,_,_,_⟩:=EC I.fB e;have hn:mA m=none:=uA.none_of (by rw [<-l]; exact r m);exact O5 I.Cw O (c.get m) k.at_ k.fn hn h
theorem IQ{y:V}{u:Value}{Q:Unit->aF->Prop}(I:Inv X pins σ H s)(e:H a=some (.ins C dx fs))(c:Qd X.K C)(n:yt X.K C f)(hl:fs.length < 1000)(ry:RelV y u)
  (h:∀ s',Inv X pins σ (upd H a (.ins C dx (oz f y fs))) s'->Q () s'):wpAny (model X.prog X.w) A (setAttr (.ref a) f u) Q E s:=by
 obtain⟨mA,O,r,wi,_,ho⟩:=EC I.fB e;have hz:(fs.map (·.1)).length<=br:=by rw [ax,dm]; lia
 refine QA I.Cw O c.sa c.po n.Vl c.hd wi hz fun h' O' sb=>h _ ?_;have hd:∃ o,h'.get? dx=some o:=let ⟨o,_,_,e',_⟩:=O'.ns; ⟨o,e'⟩
 refine I.write (x:=a) (e:=dx) (by rw [e]; exact jH) (.inr ho) (fun b q hb z=>(sb.2 b hb).trans z) hd ?_;refine⟨by rw [cw O.ne]; exact ho,?_,O.ne,O'.obj,_,O'.ns,fun g=>?_,fun g hg=>?_⟩
 ·have:=yW f y fs; lia
 ·show uA ((oz f y fs).lookup g) (if g=f then some u else mA g);rw [yU];by_cases q:g=f
  ·rw [if_pos q,if_pos q]; exact ry
  ·rw [if_neg q,if_neg q]; exact r g
 ·by_cases q:g=f
  ·rw [q]; exact(xY f y fs).1
  ·refine(xY f y fs).2 g (wi g fun z=>hg ?_);show (if g=f then some u else mA g)=none;rw [if_neg q]; exact z
theorem Inv.made(I:Inv X pins σ H s):Inv X pins σ (upd (upd H s.heap.objs.size (.own (s.heap.objs.size+1))) (s.heap.objs.size+1) (.ins C s.heap.objs.size []))
  { s with heap:=(s.heap.push fW).push (iX C s.heap.objs.size) }:=by
 have e1:(s.heap.push fW).get? s.heap.objs.size=some fW:=cf s.heap rfl;have e2:((s.heap.push fW).push (iX C s.heap.objs.size)).get? (s.heap.objs.size+1)=some (iX C s.heap.objs.size):=by
  have:=cf (s.heap.push fW) (o:=iX C s.heap.objs.size) rfl
  rwa [jI] at this
 have e3:(s.heap.push fW).Ns s.heap.objs.size (fun _=>none):=⟨fW,#[],_,e1,rfl,(fun e he=>absurd he (by simp)),fun _=>rfl⟩;have I1:=I.laid (a:=s.heap.objs.size) (o:=.own (s.heap.objs.size+1)) (h':=s.heap.push fW) (t':=s.toks) (fun b u q=>aY _ q) (aT _) ⟨_,e1⟩;refine I1.laid (a:=s.heap.objs.size+1) (o:=.ins C s.heap.objs.size []) (t':=s.toks) (fun b u q=>aY _ q) (Nat.le_of_eq (jI _ _)) ?_;have ne:s.heap.objs.size≠s.heap.objs.size+1:=bS (lJ _);refine⟨by rw [cw ne,dv],cX _,ne,e2,fun _=>none,(Heap.Ns1.of_empty e3).at fun o q=>aY _ q,fun _=>jH,fun y hy=>absurd rfl hy⟩
theorem Rz{prog:bU}{w:World}{env:Env}{e:Expr}{f:Str}{pos:Pos}{s:aF}{Q:Value->aF->Prop}(hb:xC e f env (eval e env)=eval e env)
  (h:wpAny (model prog w) A (eval e env) (fun o gF=>wpAny (model prog w) A (getAttr o f true) Q E gF) E s):wpAny (model prog w) A (eval (.Attribute e f pos) env) Q E s :=
 Attribute_any_ h (by rw [arm_eval_Attribute,hb])
end
section
variable {X:Cx} {pins:List (Addr×Obj)} {σ:St} {H:Hp} {s:aF} {A:eO} {E:Value->aF->Prop} {Q:Value->aF->Prop} {c:Value} {b:Bool}
inductive BP (K:aw) (H:Hp):V->Value->Prop where
 | eK:BP K H .eK (.type "NoneType")
 | bl (x:Bool):BP K H (.bl x) (.type "bool")
 | int (i:Int):BP K H (.int i) (.type "int")
 | str (x:Str):BP K H (.str x) (.type "str")
 | rB (x:UInt64):BP K H (.rB x) (.type "float")
 | lst {a:Addr} {xs:List V} (e:H a=some (.lst xs)):BP K H (.ref a) (.type "list")
 | rq {a:Addr} {o:Obj} {xs:List V} (e:H a=some (.rq o (.lst xs))):BP K H (.ref a) (.type "list")
 | tup {a:Addr} {xs:List V} (e:H a=some (.tup xs)):BP K H (.ref a) (.type "tuple")
 | dK {a:Addr} {bB:List (Key×V)} (e:H a=some (.dK bB)):BP K H (.ref a) (.type "dict")
 | dT {a:Addr} {bB:List (List Key×V)} (e:H a=some (.dT bB)):BP K H (.ref a) (.type "dict")
 | ins {a C dx:Addr} {fs:List (Str×V)} (e:H a=some (.ins C dx fs)) (cl:Qd K C) (ha:bD K (.ref C) "__class__" = some (some (.builtin "object.__class__")))
   (hn:Au K (.builtin "object.__class__") "__get__" = some (some (.builtin "getset_descriptor.__get__"))) (htk:PySem.W.takesIn K (.builtin "object.__class__")=some true)
   (hm:PySem.W.mroIn K C (.type "object")=some true):BP K H (.ref a) (.ref C)
end
structure kK(k:Nat)(A:eO):Prop where
 hd:A.handled=none
 dp:A.depth+3 * k+5 < recursionLimit
 un:A.units+16 * k+200 < cLine
theorem kK.mono{j k:Nat}{A:eO}(r:kK k A)(h:j<=k):kK j A:=⟨r.hd,by have:=r.dp; lia,by have:=r.un; lia⟩
theorem kK.deeper{k:Nat}{A:eO}(r:kK (k+1) A)(env:Env):kK k (A.deeper env) :=
 ⟨r.hd,by have:=r.dp; show A.depth+1+3 * k+5 < _; lia,by have:=r.un; show A.units+3+16 * k+200 < _; lia⟩
theorem Jj {A:eO} {C:Addr} {us:List Value} {kw:List (Str×Value)}:(A.under (.builtin "type.__call__" ⟨.ref C :: us,kw⟩)).depth=A.depth+1:=by
 first | rfl | simp [M5,Code.weight,Code.isCreation,Code.isGuard,Code.isCaller,Code.frames,PZ,guardIds]
theorem Ji {A:eO} {C:Addr} {us:List Value} {kw:List (Str×Value)}:(A.under (.builtin "type.__call__" ⟨.ref C :: us,kw⟩)).units=A.units+1:=by
 first | rfl | simp [M5,Code.cUnits,Code.frames,PZ]
theorem kK.make {k:Nat} {A:eO} (r:kK (k+1) A) (C:Addr) (us:List Value) (kw:List (Str×Value)):kK k (A.under (.builtin "type.__call__" ⟨.ref C :: us,kw⟩)) :=
 ⟨r.hd,by have:=r.dp; rw [Jj]; lia,by have:=r.un; rw [Ji]; lia⟩
theorem kK.depth{k:Nat}{A:eO}(r:kK k A):A.depth < recursionLimit:=by have:=r.dp; lia
theorem kK.units{k:Nat}{A:eO}(r:kK k A):A.units+64 < cLine:=by have:=r.un; lia
theorem kK.Su{k:Nat}{A:eO}(r:kK k A):A.units < cLine:=by have:=r.un; lia
noncomputable abbrev Sp:=List V->Hp->VK->XK->Prop
noncomputable abbrev Lq:=List Env->Hp->aF->XK->Value->aF->Prop
structure J0(P:bU)(w:World)(K:aw)(mg:Str->Option Value)(base:Heap)(A:eO)(outer:List Env)(s:aF)(H:Hp):Prop where
 frames:A.frames=some outer
 mod:Mod K mg base
 bs:∀ b o,base.get? b=some o->s.heap.get? b=some o/\H b=none
 Qb:base.objs.size<=s.heap.objs.size
 zr:s.heap.FunFrames base outer
 T9:∀ b∈Nb outer,H b=none
 fB:vB P w H s.heap
 bare:DX s.gens
noncomputable def CE(outer:List Env)(P:bU)(w:World)(H:Hp)(s:aF)(Q:VK)(u:Value)(s':aF):Prop :=
 ∃ v H',s'.os=s.os/\DX s'.gens/\Un (Nb outer) [] H H' s.heap s'.heap/\vB P w H' s'.heap/\RelV v u/\Q v H'
noncomputable def CR(CX:Lq)(outer:List Env)(P:bU)(w:World)(H:Hp)(s:aF)(Q:VK)(E:XK)(r:Result)(s':aF):Prop :=
 match r with
 | .ok (.ret u)=>CE outer P w H s Q u s'
 | .ok _=>False
 | .error e=>CX outer H s E e s'
structure eA(P:bU)(w:World)(K:aw)(mg:Str->Option Value)(base:Heap)(CX:Lq)(k:Nat)(f:Addr)(fd:ay)(ps:List Str)(sp:Sp):Prop where
 len:∀ vs H Q E,sp vs H Q E->vs.length=ps.length
 run:∀ (A:eO) (outer:List Env) (s:aF) (H:Hp) (args:Args) (us:List Value) (vs:List V) (Q:VK) (E:XK),kK k A->J0 P w K mg base A outer s H->Nx s fd args (ps.zip us)->Vals vs us->sp vs H Q E ->
  xB (model P w) A (.call (.ref f) args) (CR CX outer P w H s Q E) s
theorem J0.make{P:bU}{w:World}{K:aw}{mg:Str->Option Value}{base:Heap}{A:eO}{outer:List Env}{s:aF}{H:Hp}(e:J0 P w K mg base A outer s H)(C:Addr)(us:List Value)(kw:List (Str×Value)) :
  J0 P w K mg base (A.under (.builtin "type.__call__" ⟨.ref C :: us,kw⟩)) outer s H:=⟨by first | exact e.frames | (simpa [M5,Code.envs,PZ,pushEnvs] using e.frames),e.mod,e.bs,e.Qb,e.zr,e.T9,e.fB,e.bare⟩
section
variable {X:Cx} {pins:List (Addr×Obj)} {σ:St} {H:Hp} {s s':aF}
theorem Inv.WM(I:Inv X pins σ H s):J0 X.prog X.w X.K X.mg X.base X.A X.stack s H :=
 ⟨I.ok.frames,I.ok.mod,I.bs,eC I.ok.Qb I.sz,I.stack,I.Kk,I.fB,I.bare⟩
theorem Inv.after{Q:VK}{u:Value}(I:Inv X pins σ H s)(h:CE X.stack X.prog X.w H s Q u s'):EP X pins σ Q u s':=by
 obtain⟨v,H',os,bare,un,fB,r,q⟩:=h;obtain⟨hh,g,d,t,os'⟩:=s';obtain rfl:os'=s.os:=os;exact⟨v,H',I.call (h':=hh) (g':=g) (d':=d) (t':=t) (ch:=[]) un fB bare (fun b z=>absurd z (by simp)),r,q⟩
end
noncomputable def Binds(K:aw)(fd:ay)(ps:List Str)(ds:List Value):Prop :=
 ∀ (s:aF) (us:List Value),K.In s.heap->(us++ds).length=ps.length->Nx s fd ⟨us,[]⟩ (ps.zip (us++ds))
theorem Binds.all{K:aw}{fd:ay}{ps:List Str}(h:∀ us:List Value,us.length=ps.length->bindArgs fd ⟨us,[]⟩=pure (ps.zip us)):Binds K fd ps []:=fun s us _ hl=>by
 rw [dc] at hl ⊢;exact .of_eq (h us hl)
noncomputable def Passes(CX:Lq)(X:Cx)(E:XK):Prop:=∀ (pins:List (Addr×Obj)) (σ:St) (H:Hp) (s:aF) (e:Value) (s':aF),Inv X pins σ H s->CX X.stack H s E e s'->X.xe e s'
section
variable {X:Cx} {CX:Lq} {k:Nat} {f C:Addr} {fd:ay} {ps:List Str} {sp:Sp} {Uj:List V} {ds:List Value} {E:XK} {x m:Str} {p pos apos:Pos} {e o:Expr} {es:List Expr} {ta:TE} {t:TA}
theorem IT{pins:List (Addr×Obj)}{σ:St}{H:Hp}{s:aF}{Q:VK}{us:List Value}{vs:List V}(F:eA X.prog X.w X.K X.mg X.base CX k f fd ps sp)(hr:kK k X.A)(hb:Binds X.K fd ps ds)(hd:Vals Uj ds)(hx:Passes CX X E)
  (I:Inv X pins σ H s) (r:Vals vs us) (h:sp (vs++Uj) H Q E):wpAny (model X.prog X.w) X.A (call (.ref f) us) (EP X pins σ Q) X.xe s:=by
 have r2:Vals (vs++Uj) (us++ds):=r.append hd;have hl:(us++ds).length=ps.length:=by rw [<-r2.length]; exact F.len _ _ _ _ h
 refine wpAny_call (J3 (F.run X.A X.stack s H ⟨us,[]⟩ (us++ds) (vs++Uj) Q E hr I.WM (hb s us I.Cw hl) r2 h) fun r s' hq=>?_);cases r with
 | error e=>exact hx pins σ H s e s' I hq
 | ok fl =>
  cases fl with
  | ret u=>exact I.after hq
  | next=>exact bT hq
  | brk=>exact bT hq
  | cont=>exact bT hq
structure Mk(K:aw)(C f:Addr):Prop where
 makes:jU K C=true
 init:bD K (.ref C) "__init__" = some (some (.ref f))
 fn:Ls K (.ref f)=true
 kp:gh K (.ref C)=true
theorem NU{pins:List (Addr×Obj)}{σ:St}{H:Hp}{s:aF}{Q:VK}{us:List Value}{vs:List V}(M:Mk X.K C f)(F:eA X.prog X.w X.K X.mg X.base CX k f fd ps sp)(hr:kK (k+1) X.A)(hb:Binds X.K fd ps ds)(hd:Vals Uj ds)
  (hx:Passes CX X E) (I:Inv X pins σ H s) (r:Vals vs us)
  (h:∀ x dx,H x=none->H dx=none->dx≠x->sp (.ref x :: (vs++Uj)) (upd (upd H dx (.own x)) x (.ins C dx [])) (fun v H2=>v=.eK/\Q (.ref x) H2) E) :
  wpAny (model X.prog X.w) X.A (call (.ref C) us) (EP X pins σ Q) X.xe s:=by
 have hq:=h (s.heap.objs.size+1) s.heap.objs.size (I.fB.fresh (Ax _)) (I.fB.fresh (aT _)) (bS (lJ _));have I2:=Inv.made (C:=C) I;have r2:Vals (V.ref (s.heap.objs.size+1) :: (vs++Uj)) (kS (s.heap.objs.size+1) :: (us++ds)):=.cons rfl (r.append hd);have hl:(kS (s.heap.objs.size+1) :: us++ds).length=ps.length:=by
  have e:=r2.length;rw [F.len _ _ _ _ hq] at e;exact e.symm
 refine wpAny_call (OE (f:=f) I.Cw M.makes M.init (beq_iff_eq.mp M.fn) (J3 (F.run _ X.stack _ _ ⟨kS (s.heap.objs.size+1) :: us,[]⟩ (kS (s.heap.objs.size+1) :: (us++ds)) _ _ E (hr.make C us [])
  (I2.WM.make C us []) (hb _ (kS (s.heap.objs.size+1) :: us) I2.Cw hl) r2 hq) fun r s' Mr=>?_))
 cases r with
 | error e=>exact hx pins σ _ _ e s' I2 Mr
 | ok fl =>
  cases fl with
  | ret u =>
   obtain⟨v,H',I3,rv,ev,q3⟩:=I2.after Mr;subst ev;exact⟨rv,⟨V.ref (s.heap.objs.size+1),H',I3,rfl,q3⟩⟩
  | next=>exact bT Mr
  | brk=>exact bT Mr
  | cont=>exact bT Mr
end
section
variable {X:Cx} {CX:Lq} {k:Nat} {f C:Addr} {fd:ay} {ps ks:List Str} {sp:Sp} {E:XK} {x m:Str} {p pos apos adm:Pos} {e o:Expr} {es:List Expr} {kws:List Nw} {te ta:TE} {t tk:TA} {nm:Option Str}
structure aaH(K:aw)(fd:ay)(ps ks:List Str)(g:List Value->List Value->List Value)(gV:List V->List V->List V):Prop where
 to:∀ (s:aF) (us ws:List Value),K.In s.heap->(g us ws).length=ps.length->Nx s fd ⟨us,ks.zip ws⟩ (ps.zip (g us ws))
 rel:∀ {vs:List V} {us:List Value} {zs:List V} {ws:List Value},Vals vs us->Vals zs ws->Vals (gV vs zs) (g us ws)
variable {g:List Value->List Value->List Value} {gV:List V->List V->List V}
end
structure bJ(N P:List Str)(sc:Scope):Prop where
 kind:sc.kind=.function
 co:sc.isCoroutine=false
 gen:sc.isGenerator=false
 nd:N.Nodup
 pre:N.take P.length=P
 par:∀ x∈P,sc.names.lookup x=some .local\/sc.names.lookup x=some .cell
 Tn:∀ y∈sc.names,y.2≠.free
theorem DG{kindOf:Str->Option uC}{x:Str}:∀ {binds:List (Str×Value)} {m:Str->Option Value},(∀ v,(x,v)∉binds)->bindL kindOf binds m x=m x
 | [],_,_=>rfl
 | (n,v) :: r,m,h=>by
  unfold bindL;rw [DG fun w hw=>h w (aU _ hw)];split
  ·have:x≠n:=by rintro rfl; exact h v bb
   simp [this]
  ·rfl
theorem DI{kindOf:Str->Option uC}{x:Str}:∀ {binds:List (Str×Value)} {m:Str->Option Value},(∀ v,(x,v)∉binds)->bindC kindOf binds m x=m x
 | [],_,_=>rfl
 | (n,v) :: r,m,h=>by
  unfold bindC;rw [DI fun w hw=>h w (aU _ hw)];split
  ·rfl
  ·have:x≠n:=by rintro rfl; exact h v bb
   simp [this]
theorem DH{kindOf:Str->Option uC}{x:Str}{v:Value}:∀ {P:List Str} {vs:List Value} {i:Nat} {m:Str->Option Value},P.Nodup->P[i]?=some x->vs[i]?=some v->kindOf x=some .local ->
  bindL kindOf (P.zip vs) m x=some v
 | [],_,_,_,_,h,_,_=>by simp at h
 | _ :: _,[],_,_,_,_,h,_=>by simp at h
 | p :: P,w :: vs,0,m,nd,h1,h2,hk=>by
  simp at h1 h2; subst h1; subst h2;show bindL kindOf ((p,w) :: P.zip vs) m p=_;unfold bindL;rw [DG fun v hv=>(List.nodup_cons.mp nd).1 (Im hv).1,if_pos hk];simp
 | p :: P,w :: vs,i+1,m,nd,h1,h2,hk=>by
  show bindL kindOf ((p,w) :: P.zip vs) m x=_;unfold bindL;exact DH (i:=i) (List.nodup_cons.mp nd).2 (by simpa using h1) (by simpa using h2) hk
theorem DJ{kindOf:Str->Option uC}{x:Str}{v:Value}:∀ {P:List Str} {vs:List Value} {i:Nat} {m:Str->Option Value},P.Nodup->P[i]?=some x->vs[i]?=some v->kindOf x≠some .local ->
  bindC kindOf (P.zip vs) m x=some v
 | [],_,_,_,_,h,_,_=>by simp at h
 | _ :: _,[],_,_,_,_,h,_=>by simp at h
 | p :: P,w :: vs,0,m,nd,h1,h2,hk=>by
  simp at h1 h2; subst h1; subst h2;show bindC kindOf ((p,w) :: P.zip vs) m p=_;unfold bindC;rw [DI fun v hv=>(List.nodup_cons.mp nd).1 (Im hv).1,if_neg hk];simp
 | p :: P,w :: vs,i+1,m,nd,h1,h2,hk=>by
  show bindC kindOf ((p,w) :: P.zip vs) m x=_;unfold bindC;exact DJ (i:=i) (List.nodup_cons.mp nd).2 (by simpa using h1) (by simpa using h2) hk
noncomputable def start(N:List Str)(vs:List V):St:=vs.map some++a0 (N.length - vs.length) none
noncomputable def HP(CX:Lq)(P:bU)(w:World)(K:aw)(mg:Str->Option Value)(base:Heap)(N:List Str)(qual:Str)(scope:Scope)(f:Addr)(cd:Value)(A:eO)(outer:List Env)(s:aF)(H:Hp)(E:XK):Cx where
 prog:=P
 w:=w
 K:=K
 mg:=mg
 base:=base
 A:=A.deeper (FQ qual scope s.heap.objs.size f cd)
 N:=N
 oy:=s
 PS:=H
 env:=FQ qual scope s.heap.objs.size f cd
 outer:=outer
 stack:=FQ qual scope s.heap.objs.size f cd :: outer
 ex:=[]
 calm:=true
 fn:=fun _=>true
 pn:=[]
 xe:=fun e s'=>wpAny (model P w) (A.deeper (FQ qual scope s.heap.objs.size f cd)) (leaving (FQ qual scope s.heap.objs.size f cd) e) (fun _ Vs=>CX outer H s E e Vs) (fun e' Vs=>CX outer H s E e' Vs) s'
theorem HS{sc:Scope}{n:Nat}{x:Str}(h:sc.names.lookup x=some .cell):∃ c,(cellsFrom n sc.names []).lookup x=some c:=by
 have q:=J8 sc.names n [] (.inl h);exact Option.isSome_iff_exists.mp q
theorem Mq{CX:Lq}{P:bU}{w:World}{K:aw}{mg:Str->Option Value}{base:Heap}{N ps:List Str}{qual:Str}{scope:Scope}{f:Addr}{cd:Value}{A:eO}{outer:List Env}{s s1:aF}{H:Hp}{E:XK}{us:List Value}{vs:List V}
  (S:bJ N ps scope) (hd:A.handled=none) (e0:J0 P w K mg base A outer s H) (hl:vs.length=ps.length) (r:Vals vs us)
  (x:InCallC s s.heap.objs.size (bindL (FQ qual scope s.heap.objs.size f cd).kindOf (ps.zip us) fun _=>none) (cellsFrom (s.heap.objs.size+1) scope.names []) (bindC (FQ qual scope s.heap.objs.size f cd).kindOf (ps.zip us) fun _=>none) s1) :
  Inv (HP CX P w K mg base N qual scope f cd A outer s H E) [] (start N vs) H s1:=by
 have u0:ps.length<=N.length:=by have:=congrArg dE S.pre; rw [cS] at this; lia
 obtain⟨h1,tk,rfl,hk⟩:=x.done;have V4:∀ b:Addr,b∉(HP CX P w K mg base N qual scope f cd A outer s H E).ex:=fun b z=>absurd (show b∈([]:List Addr) from z) (by simp);refine⟨⟨e0.mod,S.kind,rfl,rfl,aT _,fun y z c h1 h2=>?_,fun y hy=>?_,fun y c _ h=>?_,fun _=>hd,Around.frames_deeper e0.frames,.inr ⟨rfl,rfl⟩,fun b z=>absurd z (V4 b),e0.bs,e0.Qb,fun b _ _=>V4 b,fun b z=>absurd z (V4 b),e0.zr,e0.T9⟩,
  rfl,e0.bare,Un.kept hk,⟨_,x.toInCall.ns,fun i y v h1 h2 h3=>?_⟩,fun y c h=>⟨_,x.cell y c h⟩,e0.fB.fresh (aT _),fun y c h=>?_,fun p hp=>absurd (show p∈([]:List (Addr×Obj)) from hp) (by simp),e0.fB.kept hk,?_⟩
 ·exact name_of_addr x.apart (jr h1) (jr h2)
 ·have hy:scope.names.lookup y=some .cell\/scope.names.lookup y=some .free:=hy;rcases hy with hy | hy
  ·exact HS hy
  ·exact absurd rfl (S.Tn _ (jr hy))
 ·exact Qh (x.above y c (jr h))
 ·have hi:i < vs.length:=by
   unfold start at h2;by_cases hi:i < vs.length
   ·exact hi
   ·rw [bQ (by simpa using hi)] at h2;rw [mK] at h2;split at h2 <;> cases h2
  have ha:vs[i]?=some v:=by
   unfold start at h2;rw [cN (by simpa using hi),dJ] at h2;cases e:vs[i]? with
   | none=>rw [e] at h2; cases h2
   | some a=>rw [e] at h2; cases h2; rfl
  obtain⟨u,hu,rv⟩:=r.get ha;have hp:ps[i]?=some y:=by
   rw [<-S.pre,List.getElem?_take_of_lt (by lia)]; exact h1
  have ndP:ps.Nodup:=by rw [<-S.pre]; exact S.nd.sublist (List.take_sublist _ _)
  refine⟨u,rv,?_⟩;rcases S.par y (eX hp) with k | k
  ·exact .inl ⟨k,DH ndP hp hu k⟩
  ·obtain⟨c,e⟩:=HS (n:=s.heap.objs.size+1) k;refine .inr ⟨.inl k,c,e,?_⟩;have q:=x.cell y c e;rw [DJ ndP hp hu (by show scope.names.lookup y≠_; rw [k]; decide)] at q;exact q
 ·exact e0.fB.fresh (Qh (x.above y c (jr h)))
 ·unfold start;show _=N.length;rw [aL,ax,gC];lia
theorem WK{CX:Lq}{P:bU}{w:World}{K:aw}{mg:Str->Option Value}{base:Heap}{k:Nat}{f:Addr}{name qual:Str}{params:Arguments}{body:List Stmt}{scope:Scope}{dV kV doc pm oR ct oc:Value}{an od:Option Addr}
  {L0:Array (Option Value)} {N ps:List Str} {sp:Sp} (lk:K.lookup f=some ⟨oc,od,.func (jW name qual params body scope dV kV doc pm an oR ct),L0⟩) (K0:FR K oR qual=true) (S:bJ N ps scope)
  (len:∀ vs H Q E,sp vs H Q E->vs.length=ps.length)
  (O1:∀ (A:eO) (outer:List Env) (s:aF) (H:Hp) (vs:List V) (Q:VK) (E:XK),kK k (A.deeper (FQ qual scope s.heap.objs.size f oR))->sp vs H Q E ->
   ∃ t,U0 (HP CX P w K mg base N qual scope f oR A outer s H E) body t/\t { nx:=fun _ H'=>Q .eK H',rt:=Q } (start N vs) H) :
  eA P w K mg base CX (k+1) f (jW name qual params body scope dV kV doc pm an oR ct) ps sp:=by
 refine⟨len,fun A outer s H args us vs Q E hr e0 hb r Jt=>?_⟩;have hl:=len _ _ _ _ Jt;have KX:K.In s.heap:=e0.mod.UN.keeps fun b o e=>(e0.bs b o e).1;have lim:s.heap.NoLimit:=e0.mod.nolimit.keeps fun b o e=>(e0.bs b o e).1;have Dp:∀ y∈ps.zip us,scope.names.lookup y.1=some .local\/(scope.names.lookup y.1=some .cell/\((cellsFrom (s.heap.objs.size+1) scope.names []).lookup y.1).isSome=true):=fun ⟨n,v⟩ hy=>by
  rcases S.par n (Im hy).1 with q | q
  ·exact .inl q
  ·exact .inr ⟨q,J8 _ _ _ (.inl q)⟩
 refine codeAny_call_function hr.depth (KX _ _ lk) rfl S.co S.gen rfl (PySem.W.codeRec_of KX K0) (hb _ _ _ _ ?_);refine wpAny_newFunctionEnv_cells S.kind Dp fun env he s1 x=>?_;subst he;refine⟨lim.keeps x.toInCall.keep,codeAny_func ?_⟩;obtain⟨t,ht,hq⟩:=O1 A outer s H vs Q E (hr.deeper _) Jt;have I:Inv (HP CX P w K mg base N qual scope f oR A outer s H E) [] (start N vs) H s1:=Mq S hr.hd e0 hl r x;refine Iw (ht [] s1 (start N vs) H _ I hq) (fun fl s' hs=>?_) fun e s' hs=>hs;have fin:∀ {kE:St} {H':Hp} {v:V} {u:Value},Inv (HP CX P w K mg base N qual scope f oR A outer s H E) [] kE H' s'->RelV v u->Q v H'->CE outer P w H s Q u s' :=
  fun {kE H' v u} J rv q=>⟨v,H',J.os,J.bare,J.base,J.fB,rv,q⟩
 cases fl with
 | ret u =>
  obtain⟨v,kE,H',J,rv,q⟩:=hs;exact fin J rv q
 | next =>
  obtain⟨kE,H',J,q⟩:=hs;exact fin (v:=V.eK) (u:=mY) J rfl q
 | brk =>
  obtain⟨_,_,_,q⟩:=hs;exact bT q
 | cont =>
  obtain⟨_,_,_,q⟩:=hs;exact bT q
end L2
namespace HT
open PySem PyProof.Rows
noncomputable def lexLt:List Int->List Int->Bool
 | [],[]=>false
 | [],_ :: _=>true
 | _ :: _,[]=>false
 | x :: xs,y :: ys=>if x=y then lexLt xs ys else decide (x < y)
theorem Jn(x y:Int)(xs ys:List Int):lexLt (x :: xs) (y :: ys)=if x=y then lexLt xs ys else decide (x < y):=rfl
theorem Ct:lexLt [] []=false:=rfl
theorem Bb(y:Int)(ys:List Int):lexLt [] (y :: ys)=true:=rfl
theorem Bc(x:Int)(xs:List Int):lexLt (x :: xs) []=false:=rfl
theorem Pe(A:eO)(s:aF)(a:Int)(t:Tok)(c:Int)(u:Tok):∃ e,SeqAt.EqAt A s (.int a t) (.int c u) e/\(e=true↔a=c) :=
 ⟨(a == c),SeqAt.EqAt.int_int a t c u,by simp⟩
theorem AW(A:eO)(s:aF)(a:Int)(t:Tok)(c:Int)(u:Tok)(prog:bU)(w:World)(E:Value->aF->Prop)(Q:Value->aF->Prop)(h:Q (.bool (decide (a < c))) s) :
  wpAny (model prog w) A (rP .Lt (.int a t) (.int c u)) Q E s :=
 (PyProof.Rows.lt_int h:wpAny (model prog w) A (gw .Lt (.int a t) (.int c u)) Q E s)
section
open PySem.SeqAt
open PySem.AutoSeq1 (wpAny_loadPart')
open PySem.MeetsSeq PySem.MeetsSeq2 PySem.MeetsSeq3
theorem Cf(l b:Addr)(items pq:Array Value)(n n2:Nat)(dd Lc:Option Addr)(sl Ko:Array (Option Value))(ns ms:List Int)(hi:nI items.toList ns)(hj:nI pq.toList ms) :
  Meets (Builtin.«tuple.__lt__» ⟨[.ref l,.ref b],[]⟩)
   (fun _ R s=>s.heap.get? l=some { cls:=.type "tuple",dict:=dd,data:=.seq items n,slots:=sl }/\s.heap.get? b=some { cls:=.type "tuple",dict:=Lc,data:=.seq pq n2,slots:=Ko } /\
    R (.ok (.ret (.bool (lexLt ns ms)))) s) :=
 .of_wp fun prog w A R s h=>by
  obtain⟨hp,g,d,tk,os⟩:=s; obtain⟨hl,hb,h⟩:=h;have f2:=qY;have z1:items.size=ns.length:=by rw [<-hi.length]; simp
  have z2:pq.size=ms.length:=by rw [<-hj.length]; simp
  wp_walk using cx hl,cx hb,wpAny_forIn_list _ (fun rest b s'=>b.1=none/\s'=⟨hp,g,d,tk,os⟩/\∃ (vs ws:List Value) (UJ UL:List Int),rest=vs.zip ws /\
   nI vs UJ/\nI ws UL/\UJ.length+pq.size=UL.length+items.size/\R (.ok (.ret (.bool (lexLt UJ UL)))) ⟨hp,g,d,tk,os⟩) _
  case turn =>
   rintro⟨y,x⟩ rest b s' ⟨Jv,rfl,vs,ws,UJ,UL,hz,Zy,Xu,hlen,hR⟩;cases Zy with
   | nil=>rw [List.zip_nil_left] at hz; cases hz
   | cons a t Zx =>
    cases Xu with
    | nil=>rw [List.zip_nil_right] at hz; cases hz
    | cons c u Zv =>
     rw [List.zip_cons_cons] at hz;injection hz with Zq OW
     injection Zq with hy hx
     subst hy hx;rw [Jn] at hR;simp only [ag] at hlen;obtain⟨e,he,Wt⟩:=Pe A.in1 ⟨hp,g,d,tk,os⟩ a t c u;refine aQ (he prog w _ _ ?_);cases e with
     | true =>
      rw [if_pos (Wt.mp rfl)] at hR
      wp_walk
      exact⟨rfl,rfl,_,_,_,_,OW,Zx,Zv,by lia,hR⟩
     | false =>
      rw [if_neg (fun q=>absurd (Wt.mpr q) jZ)] at hR;have Wj:=AW A.in1 ⟨hp,g,d,tk,os⟩ a t c u prog w
      wp_walk using Wj
      exact⟨_,rfl,by simpa using hR⟩
  case fin =>
   rintro⟨b1,b2⟩ s' ⟨Jv,rfl,vs,ws,UJ,UL,hz,Zy,Xu,hlen,hR⟩;simp only at Jv;subst Jv;have hv:lexLt UJ UL=decide (items.size < pq.size):=by
    cases Zy with
    | nil =>
     cases Xu with
     | nil =>
      simp only [au] at hlen;rw [Ct];exact(decide_eq_false (by lia)).symm
     | cons c u hw =>
      simp only [au,ag] at hlen;rw [Bb];exact(decide_eq_true (by lia)).symm
    | cons a t hv =>
     cases Xu with
     | nil =>
      simp only [au,ag] at hlen;rw [Bc];exact(decide_eq_false (by lia)).symm
     | cons c u hw =>
      rw [List.zip_cons_cons] at hz;cases hz
   rw [hv] at hR
   wp_walk
   exact⟨_,rfl,by simpa [vJ] using hR⟩
  case h =>
   exact⟨rfl,rfl,items.toList,pq.toList,ns,ms,rfl,hi,hj,by lia,h⟩
end
section
variable {prog:bU} {w:World} {A:eO} {E:Value->aF->Prop} {s:aF}
theorem A3{l b:Addr}{items pq:Array Value}{ns ms:List Int}{Q:Value->aF->Prop}(hl:IsTup s.heap l items)(hb:IsTup s.heap b pq)(hi:nI items.toList ns)(hj:nI pq.toList ms)
  (hu:A.units < cLine) (h:Q (.bool (lexLt ns ms)) s):wpAny (model prog w) A (gw .Lt (.ref l) (.ref b)) Q E s:=by
 obtain⟨⟨cls,dd,data,sl⟩,ho,hc,n,hd⟩:=id hl;obtain⟨⟨Px,Lc,data2,Ko⟩,Dm,EI,n2,hd2⟩:=id hb;simp only at hc hd EI hd2;subst hc hd EI hd2;exact ze (op:=.Lt) ⟨_,ho,rfl⟩ ⟨_,Dm,rfl⟩ mZ uj (rV _ _) (Cf l b items pq n n2 dd Lc sl Ko ns ms hi hj)
  ⟨ho,Dm,show J4 (lexLt ns ms)≠Value.notImplemented/\Q (.bool (lexLt ns ms)) s from⟨(fun x=>nomatch x),h⟩⟩ hu
theorem Rx{t b:Addr}{vs ws:List Value}{Q:Value->aF->Prop}(ht:IsTup s.heap t vs.toArray)(hb:IsTup s.heap b ws.toArray)(hv:vs≠[])
  (h1:ws=[]->Q (.ref t) s) (h2:ws≠[]->Q (.ref s.heap.objs.size) { s with heap:=s.heap.push { cls:=.type "tuple",data:=.seq (vs++ws).toArray } })
  (hsz:vs.length+ws.length<=br):wpAny (model prog w) A (lF .Add (.ref t) (.ref b)) Q E s:=by
 obtain⟨⟨cls,dd,data,sl⟩,ho,hc,n,hd⟩:=id ht;obtain⟨⟨Px,Lc,data2,Ko⟩,Dm,EI,n2,hd2⟩:=id hb;simp only at hc hd EI hd2;subst hc hd EI hd2;have e:vs.toArray++ws.toArray=(vs++ws).toArray:=by simp
 by_cases hw:ws=[]
 ·exact concat_meets ⟨_,ho,rfl⟩ ⟨_,Dm,rfl⟩ noFill_tuple_add seq_tuple_add J9 IC (Ik _ _)
   (tuple_addW1 t b vs.toArray ws.toArray n n2 dd Lc sl Ko (by simpa using hv) (by simp [hw])) ⟨ho,Dm,h1 hw⟩
 ·refine concat_meets ⟨_,ho,rfl⟩ ⟨_,Dm,rfl⟩ noFill_tuple_add seq_tuple_add J9 IC (Ik _ _)
   (tuple_addW2 t b vs.toArray ws.toArray n n2 dd Lc sl Ko (by simpa using hv) (by simpa using hw) (by rw [a9,a9]; exact hsz)) ⟨ho,Dm,?_⟩
  rw [e];exact h2 hw
noncomputable def kj(n d:Nat):Option Int->Nat
 | none=>d
 | some v=>if v < 0 then (v+(n:Int)).toNat else min v.toNat n
theorem SK(n d:Nat)(hd:d<=n)(o:Option Int):kj n d o<=n:=by
 cases o with
 | none=>exact hd
 | some v =>
  show (if v < 0 then (v+(n:Int)).toNat else min v.toNat n)<=n;by_cases hv:v < 0
  ·rw [if_pos hv]; lia
  ·rw [if_neg hv]; exact Nat.min_le_right _ _
theorem Lh(v:Int)(n d:Nat):(if v < 0 then max (v+(n:Int)) 0 else min v (n:Int))=((kj n d (some v):Nat):Int):=by
 show (if v < 0 then max (v+(n:Int)) 0 else min v (n:Int))=(((if v < 0 then (v+(n:Int)).toNat else min v.toNat n):Nat):Int);by_cases hv:v < 0
 ·simp only [if_pos hv]; lia
 ·simp only [if_neg hv]; lia
theorem JU(lo hi:Option Int)(n:Nat):ow lo hi 1 (n:Int)=(((kj n 0 lo:Nat):Int),((kj n n hi:Nat):Int)):=by
 have h1:¬ ((1:Int) < 0):=by lia
 unfold ow;simp only [h1,if_false];refine Prod.ext ?_ ?_
 ·cases lo with
  | none=>rfl
  | some v=>exact Lh v n 0
 ·cases hi with
  | none=>rfl
  | some v=>exact Lh v n n
theorem IV(i j:Nat):jY (i:Int) (j:Int) 1=j - i:=by
 unfold jY;have h1:(1:Int) > 0:=by lia
 simp only [h1,if_true,Int.ediv_one];split <;> lia
theorem AH{v:Value}{o:Option Int}{Q:Option Int->aF->Prop}(p:IsPart v o)(h:Q o s):wpAny (model prog w) A (Builtin.Slice.slicePartIndex v) Q E s:=by
 cases p with
 | none=>exact slicePart_none h
 | int i t=>exact slicePart_int h
theorem xN{sl:Addr}{vl vu:Value}{lo hi:Option Int}{n:Nat}{Q:Int×Int×Nat->aF->Prop}(hs:s.heap.IsSliceOf sl vl vu .none)(pl:IsPart vl lo)(pu:IsPart vu hi)
  (h:Q (((kj n 0 lo:Nat):Int),1,kj n n hi - kj n 0 lo) s):wpAny (model prog w) A (zN (.ref sl) (pure (n:Int))) Q E s:=by
 obtain⟨os,Wl,hcs,XC⟩:=id hs;unfold zN Builtin.Slice.sliceFields;refine aQ (aQ (wpAny_field Wl XC (x:=vl) rfl (aQ (wpAny_field Wl XC (x:=vu) rfl (aQ (wpAny_field Wl XC (x:=.none) rfl (bM ?_)))))));refine aQ (slicePart_none ?_);show wpAny _ _ (if ((1:Int) == 0)=true then _ else _) _ _ s;rw [if_neg (by decide)];refine aQ (AH pl (aQ (AH pu (aQ (bM ?_)))));show wpAny _ _ (match ow lo hi 1 (n:Int) with | (lo,hi)=>pure (lo,(1:Int),jY lo hi 1)) _ _ s;rw [JU lo hi n];show wpAny _ _ (pure (((kj n 0 lo:Nat):Int),(1:Int),jY ((kj n 0 lo:Nat):Int) ((kj n n hi:Nat):Int) 1)) _ _ s;rw [IV];exact bM h
theorem Ol(xs:Array Value)(i k:Nat):((e7 k).filterMap fun (m:Nat)=>xs[((i:Int)+(m:Int) * 1).toNat]?).toArray=((xs.toList.drop i).take k).toArray:=by
 have e:(fun (m:Nat)=>xs[((i:Int)+(m:Int) * 1).toNat]?)=fun m=>xs[i+m]?:=by
  funext m;have:((i:Int)+(m:Int) * 1).toNat=i+m:=by lia
  rw [this]
 rw [e];have:=pick_run xs i k;rw [List.filterMap_map] at this;have e2:((fun x=>xs[x]?)∘fun x=>i+x)=fun m=>xs[i+m]?:=rfl;rw [e2] at this;rw [this]
theorem wU{t sl:Addr}{items:Array Value}{vl vu:Value}{lo hi:Option Int}{Q:Value->aF->Prop}(ht:IsTup s.heap t items)(hs:s.heap.IsSliceOf sl vl vu .none)(pl:IsPart vl lo)(pu:IsPart vu hi)
  (hw:¬ (kj items.size 0 lo=0/\kj items.size items.size hi=items.size))
  (h:Q (.ref s.heap.objs.size) { s with heap:=s.heap.push { cls:=.type "tuple",data:=.seq ((items.toList.drop (kj items.size 0 lo)).take (kj items.size items.size hi - kj items.size 0 lo)).toArray } })
  (hsz:items.size<=br):wpAny (model prog w) A (Nj (.ref t) (.ref sl)) Q E s:=by
 have KR:sizeOk (.seq ((items.toList.drop (kj items.size 0 lo)).take (kj items.size items.size hi - kj items.size 0 lo)).toArray):=by
  show ((items.toList.drop (kj items.size 0 lo)).take (kj items.size items.size hi - kj items.size 0 lo)).toArray.size<=br;rw [a9];exact eC (eC (List.length_take_le' _ _) (by rw [cT,lG]; exact Nat.sub_le _ _)) hsz
 have hj:kj items.size items.size hi<=items.size:=SK _ _ (aT _) hi;obtain⟨os,Wl,hcs,XC⟩:=id hs;have hTs:s.TypeIs (.ref sl) "slice":=⟨os,Wl,hcs⟩;unfold Nj
 try with_reducible refine lE ?_
 first | refine aQ (bM ?_) | skip
 refine aQ (wpAny_sequenceKey ht.typeIs (by decide) ?_);refine aQ (wpAny_callSpecial?_slot (name:=Str.ofString "__getitem__") ht.typeIs xt
  (wpAny_call_entry xt ht.typeIs entry_tuple_getitem ?_ (args_tuple_getitem _ _)))
 show wpAny _ _ (Builtin.Tuple.tupleItemsOf (.ref t) >>= _) _ _ s;refine aQ (tupleItemsOf_ ht ?_);refine aQ (wpAny_typeOf hTs ?_);rw [if_pos (by decide)];refine aQ (xN hs pl pu ?_);have R0:¬ ((((kj items.size 0 lo:Nat):Int) == 0&&(1:Int) == 1&&(kj items.size items.size hi - kj items.size 0 lo) == items.size)=true):=by
  intro q;rw [aZ,aZ] at q;have q1:((kj items.size 0 lo:Nat):Int)=0:=eq_of_beq q.1.1;have q2:kj items.size items.size hi - kj items.size 0 lo=items.size:=eq_of_beq q.2;exact hw ⟨by lia,by lia⟩
 show wpAny _ _ (if (((kj items.size 0 lo:Nat):Int) == 0&&(1:Int) == 1&&(kj items.size items.size hi - kj items.size 0 lo) == items.size)=true then _ else _) _ _ s;rw [if_neg R0,Ol]
 first
  | exact aQ (m:=kh _) (lD (bM ⟨_,rfl,bM h⟩) KR)
  | exact aQ (m:=kh _) (lD (aQ (bM (bM ⟨_,rfl,bM h⟩))) KR)
  | exact aQ (aQ (m:=kh _) (lD (bM (bM ⟨_,rfl,bM h⟩)) KR))
  | exact aQ (aQ (m:=kh _) (lD (bM ⟨_,rfl,bM h⟩) KR))
end
end HT
namespace L2
open PySem PySem.Spec PyProof.Rows
noncomputable abbrev TO:=St->Hp->(Option Int->Hp->Prop)->Prop
theorem intsAre_of{ns:List Int}:∀ {us:List Value},Vals (ns.map V.int) us->nI us ns:=by
 induction ns with
 | nil=>intro us r; rw [aO] at r; cases r; exact .nil
 | cons n ns ih =>
  intro us r;rw [aq] at r;cases r with
  | cons r1 r2 =>
   obtain⟨t,e⟩:=r1;subst e;exact .cons n t (ih r2)
section
variable {X:Cx} {e:Expr} {te:TE} {lo hi:Option Expr} {tl th:TO} {pos p2:Pos}
noncomputable def SlR(X:Cx)(r:V->Option Int->Option Int->Hp->VK->Prop):Prop :=
 ∀ (pins:List (Addr×Obj)) (s:aF) (σ:St) (H:Hp) (x:V) (v vl vu:Value) (lo hi:Option Int) (sl:Addr) (Q:VK),Inv X pins σ H s->RelV x v->s.heap.IsSliceOf sl vl vu .none->IsPart vl lo->IsPart vu hi->r x lo hi H Q ->
  ∃ T id,typeLookup (.type T) "__getitem__" = pure (some (.builtin id))/\s.TypeIs v T/\wpAny (model X.prog X.w) X.A (Nj v (.ref sl)) (EP X pins σ Q) X.xe s
noncomputable def HQ(xs:List V)(lo hi:Option Int):List V:=(xs.drop (HT.kj xs.length 0 lo)).take (HT.kj xs.length xs.length hi - HT.kj xs.length 0 lo)
theorem y7(xs:List V)(lo hi:Option Int):(HQ xs lo hi).length<=xs.length:=by
 unfold HQ;rw [cS,cT];lia
noncomputable def Yx(K:aw):V->Option Int->Option Int->Hp->VK->Prop:=fun x lo hi H Q=>∃ a xs,x=.ref a/\BQ K H a xs /\
 ¬ (HT.kj xs.length 0 lo=0/\HT.kj xs.length xs.length hi=xs.length)/\∀ p,H p=none->Q (.ref p) (upd H p (.tup (HQ xs lo hi)))
theorem SI:SlR X (Yx X.K):=by
 intro pins s σ H x v vl vu lo hi sl Q I rx hs pl pu h;obtain⟨a,xs,rfl,hx,hw,q⟩:=h;cases rx;obtain⟨bO,r,ht,hz⟩:=I.tuple hx;have hlen:bO.toArray.size=xs.length:=by rw [a9]; exact r.length.symm
 refine⟨"tuple",_,PyProof.Rows.slot_tuple_getitem.lookup,ht.typeIs,?_⟩;refine HT.wU ht hs pl pu (by rw [hlen]; exact hw) ?_ (by rw [hlen]; exact hz);rw [hlen];refine⟨.ref s.heap.objs.size,_,I.laid (t':=s.toks) (o:=.tup (HQ xs lo hi)) (fun b ob q=>aY _ q) (aT _) ?_,rfl,q _ (I.fB.fresh (aT _))⟩;exact⟨eC (y7 xs lo hi) hz,_,(r.drop (HT.kj xs.length 0 lo)).take (HT.kj xs.length xs.length hi - HT.kj xs.length 0 lo),IsTup.new _ _⟩
noncomputable def Yz(K:aw):R2:=fun x y H Q=>∃ a b ns ms,x=.ref a/\y=.ref b/\BQ K H a (ns.map V.int)/\BQ K H b (ms.map V.int)/\Q (.bl (HT.lexLt ns ms)) H
theorem S9(hu:X.A.units < cLine):MW X (gw .Lt) (Yz X.K):=by
 intro pins s σ H x y v u Q I rx ry h;obtain⟨a,b,ns,ms,rfl,rfl,ha,hb,q⟩:=h;cases rx;cases ry;obtain⟨bO,r1,p1,_⟩:=I.tuple ha;obtain⟨ur,r2,p2,_⟩:=I.tuple hb;have i1:nI bO.toArray.toList ns:=intsAre_of r1;have i2:nI ur.toArray.toList ms:=intsAre_of r2;exact HT.A3 p1 p2 i1 i2 hu ⟨.bl (HT.lexLt ns ms),H,I,rfl,q⟩
noncomputable def VC(K:aw):R2:=fun x y H Q=>∃ a b xs ys,x=.ref a/\y=.ref b/\BQ K H a xs/\BQ K H b ys/\xs≠[]/\xs.length+ys.length<=br /\
 (ys=[]->Q (.ref a) H)/\(ys≠[]->∀ p,H p=none->Q (.ref p) (upd H p (.tup (xs++ys))))
theorem Vals.En{xs:List V}{us:List Value}(r:Vals xs us):us=[]↔xs=[]:=by
 cases r with
 | nil=>simp
 | cons _ _=>simp
theorem Q0:MW X (lF .Add) (VC X.K):=by
 intro pins s σ H x y v u Q I rx ry h;obtain⟨a,b,xs,ys,rfl,rfl,ha,hb,hx,hz,q1,q2⟩:=h;cases rx;cases ry;obtain⟨bO,r1,p1,_⟩:=I.tuple ha;obtain⟨ur,r2,p2,_⟩:=I.tuple hb;refine HT.Rx p1 p2 (fun z=>hx (r1.En.mp z)) (fun z=>⟨.ref a,H,I,rfl,q1 (r2.En.mp z)⟩) (fun z=>?_) (by rw [<-r1.length,<-r2.length]; exact hz);refine⟨.ref s.heap.objs.size,_,I.laid (t':=s.toks) (o:=.tup (xs++ys)) (fun b ob q=>aY _ q) (aT _) ?_,rfl,q2 (fun w=>z (r2.En.mpr w)) _ (I.fB.fresh (aT _))⟩;exact⟨by rw [aL]; exact hz,_,r1.append r2,IsTup.new _ _⟩
end
noncomputable def Jp(n:Nat)(i:Int):Option Nat:=if 0<=i then (if i < n then some i.toNat else none) else if -(n:Int)<=i then some (i+n).toNat else none
noncomputable def pQ{α:Type}(xs:List α)(i:Int):Option α:=(Jp xs.length i).bind fun j=>xs[j]?
theorem KO{n:Nat}{i:Int}{j:Nat}(h:Jp n i=some j):seqIndex? i n=some j/\j < n/\-(n:Int)<=i/\i < n:=by
 unfold Jp at h;by_cases h0:0<=i
 ·rw [if_pos h0] at h;by_cases h1:i < n
  ·rw [if_pos h1] at h;have e:i.toNat=j:=bY h;exact⟨by rw [seqIndex_of h0 h1,e],by lia,by lia,h1⟩
  ·rw [if_neg h1] at h; cases h
 ·rw [if_neg h0] at h;by_cases h1:-(n:Int)<=i
  ·rw [if_pos h1] at h;have e:(i+n).toNat=j:=bY h;exact⟨by rw [seqIndex_neg (by lia) h1,e],by lia,h1,by lia⟩
  ·rw [if_neg h1] at h; cases h
theorem Lj{α:Type}{xs:List α}{i:Int}{v:α}(h:pQ xs i=some v):∃ j,seqIndex? i xs.length=some j/\xs[j]?=some v/\j < xs.length/\-(xs.length:Int)<=i/\i < xs.length:=by
 unfold pQ at h;cases e:Jp xs.length i with
 | none=>rw [e] at h; cases h
 | some j =>
  rw [e] at h;obtain⟨h1,h2,h3,h4⟩:=KO e;exact⟨j,h1,h,h2,h3,h4⟩
noncomputable def RA(b:Expr):Prop:=∀ o i,subscripted b false o i=operate [o,i] (Nj o i)
noncomputable def IxR(X:Cx)(r:R2):Prop :=
 ∀ (value slice:Expr) (pins:List (Addr×Obj)) (s:aF) (σ:St) (H:Hp) (x y:V) (v u:Value) (Q:VK),Inv X pins σ H s->RelV x v->RelV y u->r x y H Q ->
  subscripted slice false v u=operate [v,u] (Nj v u)->wpAny (model X.prog X.w) X.A (subscriptTail value slice v u) (EP X pins σ Q) X.xe s
noncomputable def MtR(X:Cx)(id:String)(r:V->List V->Hp->VK->Prop):Prop :=
 ∀ (pins:List (Addr×Obj)) (s:aF) (σ:St) (H:Hp) (x:V) (xs:List V) (v:Value) (us:List Value) (Q:VK),Inv X pins σ H s->RelV x v->Vals xs us->r x xs H Q ->
  wpAny (model X.prog X.w) X.A (call (.builtin id) (v :: us)) (EP X pins σ Q) X.xe s
section
variable {X:Cx} {a b:Expr} {ta tb:TE} {pos:Pos}
noncomputable def YB(K:aw):R2:=fun x y H Q=>∃ p xs i v,x=.ref p/\y=.int i/\qy K H p xs/\pQ xs i=some v/\Q v H
noncomputable def YA(K:aw):R2:=fun x y H Q=>∃ p xs i v,x=.ref p/\y=.int i/\BQ K H p xs/\pQ xs i=some v/\Q v H
theorem KN:IxR X (YB X.K):=by
 intro value slice pins s σ H x y v u Q I rx ry h hs;obtain⟨p,xs,i,z,rfl,rfl,hq,he,q⟩:=h;cases rx;obtain⟨t,rfl⟩:=ry;obtain⟨bO,r,pl,hz⟩:=I.list hq;obtain⟨j,h1,h2,h3,h4,h5⟩:=Lj he;obtain⟨w,ew,oH⟩:=r.get h2;have hl:=r.length;have hn:=A8;have fin:EP X pins σ Q w s:=⟨z,H,I,oH,q⟩;by_cases h0:0<=i
 ·have hj:i.toNat=j:=by
   rw [seqIndex_of h0 h5] at h1;exact bY h1
  exact item_listR pl.isList h0 (by lia) (by rw [hj]; simpa using ew) fin hs
 ·have hj:(i+(bO.toArray.size:Int)).toNat=j:=by
   rw [seqIndex_neg (by lia) h4] at h1;rw [a9,<-hl];exact bY h1
  exact subscriptTail_builtinR (x:=w) pl.isList.typeIs slot_list_getitem.lookup
   (wpAny_getItem_list_neg (Q:=fun r s'=>r=w/\EP X pins σ Q r s') pl.isList (by lia) (by rw [a9] <;> lia) (by lia) (by rw [hj]; simpa using ew) ⟨rfl,fin⟩) hs
theorem Tz:IxR X (YA X.K):=by
 intro value slice pins s σ H x y v u Q I rx ry h hs;obtain⟨p,xs,i,z,rfl,rfl,hq,he,q⟩:=h;cases rx;obtain⟨t,rfl⟩:=ry;obtain⟨bO,r,pl,hz⟩:=I.tuple hq;obtain⟨j,h1,h2,h3,h4,h5⟩:=Lj he;obtain⟨w,ew,oH⟩:=r.get h2;have hl:=r.length;have hn:=A8;have fin:EP X pins σ Q w s:=⟨z,H,I,oH,q⟩;exact subscriptTail_builtinR (x:=w) pl.typeIs slot_tuple_getitem.lookup
  (getItem_tuple (j:=j) (Q:=fun r s'=>r=w/\EP X pins σ Q r s') pl (by lia) (by lia) (by rw [a9,<-hl]; exact h1) (by simpa using ew) ⟨rfl,fin⟩) hs
theorem Jh (bO:List Value) (n j:Nat) (u:Value):jT (·.setIfInBounds j u) { cls:=.type "list",data:=.seq bO.toArray n } = { cls:=.type "list",data:=.seq (bO.set j u).toArray n }:=by
 simp [jT]
theorem Inv.lst{pins:List (Addr×Obj)}{σ:St}{H:Hp}{s:aF}{p:Addr}{xs:List V}(I:Inv X pins σ H s)(h:H p=some (.lst xs)) :
  ∃ (bO:List Value) (n:Nat),Vals xs bO/\s.heap.get? p=some { cls:=.type "list",data:=.seq bO.toArray n }/\xs.length<=br:=by
 obtain⟨z,bO,n,r,e⟩:=I.fB p _ h;exact⟨bO,n,r,e,z⟩
theorem Inv.Ts{pins:List (Addr×Obj)}{σ:St}{H:Hp}{s:aF}{p:Addr}{xs ys:List V}{bO its':List Value}{n n':Nat}{f:Obj->Obj}(I:Inv X pins σ H s)(h:H p=some (.lst xs))
  (ho:s.heap.get? p=some { cls:=.type "list",data:=.seq bO.toArray n }) (hf:f { cls:=.type "list",data:=.seq bO.toArray n } = { cls:=.type "list",data:=.seq its'.toArray n' }) (r:Vals ys its') (hz:ys.length<=br) (t:Nat) :
  Inv X pins σ (upd H p (.lst ys)) { s with heap:=s.heap.update p f,toks:=t }:=by
 have e:(s.heap.update p f).get? p=some { cls:=.type "list",data:=.seq its'.toArray n' }:=by
  rw [xu f ho (by rw [hf] <;> rfl),hf]
 refine I.write (x:=p) (e:=p) (by rw [h]; trivial) (.inl rfl) (fun b u hb q=>(dM _ _ (gv hb)).trans q) ⟨_,e⟩ ?_;exact⟨hz,its',n',r,e⟩
noncomputable def VA:V->V->V->Hp->(Hp->Prop)->Prop:=fun o i v H Q=>∃ p xs k j,o=.ref p/\i=.int k/\H p=some (.lst xs)/\Jp xs.length k=some j/\Q (upd H p (.lst (xs.set j v)))
theorem set_list:aaF X VA:=by
 intro pins s σ H o i v ov iv u Q I ro ri rv h;obtain⟨p,xs,k,j,rfl,rfl,hp,hj,q⟩:=h;cases ro;obtain⟨t,rfl⟩:=ri;obtain⟨bO,n,r,ho,hz⟩:=I.lst hp;obtain⟨h1,h2,h3,h4⟩:=KO hj;have hl:=r.length;have hn:=A8;have I':Inv X pins σ (upd H p (.lst (xs.set j v))) { s with heap:=s.heap.update p (jT (·.setIfInBounds j u)) } :=
  I.Ts hp ho (Jh bO n j u) (r.set rv j) (by rw [qr]; exact hz) s.toks
 by_cases h0:0<=k
 ·have hk:k.toNat=j:=by
   rw [seqIndex_of h0 h4] at h1;exact bY h1
  exact PySem.W.ki_setAt ho h0 (by lia) (by rw [a9,<-hl]; exact h4) (by rw [hk]; exact⟨_,I',q⟩)
 ·have hk:(k+(bO.toArray.size:Int)).toNat=j:=by
   rw [seqIndex_neg (by lia) h3] at h1;rw [a9,<-hl];exact bY h1
  exact PySem.W.ki_setBack ho (by lia) (by rw [a9,<-hl]; exact h3) (by lia) (by rw [hk]; exact⟨_,I',q⟩)
theorem D4(lo hi:Option Int)(n:Nat):(rO lo hi none n).1=((HT.kj n 0 lo:Nat):Int)/\(rO lo hi none n).2.1=((HT.kj n n hi:Nat):Int)/\(rO lo hi none n).2.2=1:=by
 refine⟨?_,?_,rfl⟩
 ·cases lo with
  | none=>simp [rO,HT.kj]
  | some i =>
   simp only [rO,HT.kj,Option.getD_none,show (1:Int) > 0 by decide,if_true];by_cases h:i < 0
   ·simp only [h,if_true] <;> lia
   ·simp only [h,if_false] <;> lia
 ·cases hi with
  | none=>simp [rO,HT.kj]
  | some i =>
   simp only [rO,HT.kj,Option.getD_none,show (1:Int) > 0 by decide,if_true];by_cases h:i < 0
   ·simp only [h,if_true] <;> lia
   ·simp only [h,if_false] <;> lia
theorem Cj(bO:List Value)(lo hi:Option Int):slicePick bO.toArray lo hi none=((bO.drop (HT.kj bO.length 0 lo)).take (HT.kj bO.length bO.length hi - HT.kj bO.length 0 lo)).toArray:=by
 obtain⟨h1,h2,h3⟩:=D4 lo hi bO.toArray.size;unfold slicePick;rw [h1,h2,h3];simp only [sliceRange_one,pick_run,a9] <;> rfl
noncomputable def Yy(K:aw):V->Option Int->Option Int->Hp->VK->Prop:=fun x lo hi H Q=>∃ a xs,x=.ref a/\qy K H a xs/\∀ p,H p=none->Q (.ref p) (upd H p (.lst (HQ xs lo hi)))
theorem Kn:SlR X (Yy X.K):=by
 intro pins s σ H x v vl vu lo hi sl Q I rx hs pl pu h;obtain⟨a,xs,rfl,hx,q⟩:=h;cases rx;obtain⟨bO,r,ht,hz⟩:=I.list hx;have hlen:=r.length;refine⟨"list",_,slot_list_getitem.lookup,ht.isList.typeIs,?_⟩;refine wpAny_getItem_list_slice ht.isList hs pl pu .none (by simp) ?_ (by rw [a9] <;> lia);rw [Cj,<-hlen];refine⟨.ref s.heap.objs.size,_,I.laid (t':=s.toks) (o:=.lst (HQ xs lo hi)) (fun b ob q=>aY _ q) (aT _) ?_,rfl,q _ (I.fB.fresh (aT _))⟩;exact⟨eC (y7 xs lo hi) hz,_,0,(r.drop (HT.kj xs.length 0 lo)).take (HT.kj xs.length xs.length hi - HT.kj xs.length 0 lo),cf _ rfl⟩
theorem Fg:Sl X (.type "list") (fun xs H Q=>∃ p ys,xs=[.ref p]/\(qy X.K H p ys\/BQ X.K H p ys)/\∀ l,H l=none->Q (.ref l) (upd H l (.lst ys))):=by
 intro pins s σ H xs us Q I r h;obtain⟨p,ys,rfl,hq,q⟩:=h;obtain⟨u,rfl,rx⟩:=vals1 r;cases rx;have fin:∀ (bO:List Value),Vals ys bO->ys.length<=br->∀ (h':Heap) (c':Nat),(∀ b o',s.heap.get? b=some o'->h'.get? b=some o') ->
   h'.get? s.heap.objs.size=some { cls:=.type "list",dict:=none,data:=.seq bO.toArray c',slots:=#[] }->EP X pins σ Q (.ref s.heap.objs.size) { s with heap:=h' }:=fun bO r' hz h' c' kp e =>
  ⟨.ref s.heap.objs.size,_,I.laid (t':=s.toks) kp (aT _) (show je X.prog X.w _ h' _ (.lst ys) from⟨hz,bO,c',r',e⟩),rfl,q _ (I.fB.fresh (aT _))⟩
 rcases hq with hq | hq
 ·obtain⟨bO,r',pl,hz⟩:=I.list hq;have hlen:=r'.length;obtain⟨o,ho,hc,n,hd⟩:=pl.isList;exact call_list_seq p (.inl rfl) ho hc hd (fun h' c' kp e=>fin bO r' hz h' c' kp e) (by simp only [a9] <;> lia)
 ·obtain⟨bO,r',pl,hz⟩:=I.tuple hq;have hlen:=r'.length;obtain⟨o,ho,hc,n,hd⟩:=pl;exact call_list_seq p (.inr rfl) ho hc hd (fun h' c' kp e=>fin bO r' hz h' c' kp e) (by simp only [a9] <;> lia)
noncomputable def tyV(K:aw)(T:String)(x:V)(H:Hp):Prop:=match x with
 | .str _=>T = "str"
 | .int _=>T = "int"
 | .ref p=>(T = "list"/\∃ xs,qy K H p xs)\/(T = "tuple"/\∃ o,K.lookup p=some o/\o.cls=.type "tuple"/\o.dict=none) \/
   (T = "dict"/\((∃ bB,H p=some (.dK bB))\/∃ bB,H p=some (.dT bB)))\/(T = "set"/\∃ S n,H p=some (.set S n))
 | _=>False
theorem NB{pins:List (Addr×Obj)}{σ:St}{H:Hp}{s:aF}{T:String}{x:V}{v:Value}(I:Inv X pins σ H s)(r:RelV x v)(ty:tyV X.K T x H) :
  s.TypeIs v T/\∀ a,v=.ref a->∃ ob,s.heap.get? a=some ob/\ob.dict=none:=by
 cases x with
 | str z =>
  obtain⟨t,rfl⟩:=r;cases (show T = "str" from ty);exact⟨typeIs_str s z t,fun _ e=>nomatch e⟩
 | int i =>
  obtain⟨t,rfl⟩:=r;cases (show T = "int" from ty);exact⟨typeIs_int s i t,fun _ e=>nomatch e⟩
 | ref p =>
  cases r;rcases ty with ⟨rfl,xs,hq⟩ | ⟨rfl,o,hk,hc,hd⟩ | ⟨rfl,hk⟩ | ⟨rfl,S,n,hk⟩
  ·obtain⟨bO,_,pl,_⟩:=I.list hq;refine⟨pl.isList.typeIs,fun a e=>?_⟩;cases e;obtain⟨o,n,e,c,hd,_⟩:=pl;exact⟨o,e,hd⟩
  ·refine⟨⟨o,I.Cw p o hk,hc⟩,fun a e=>?_⟩;cases e;exact⟨o,I.Cw _ o hk,hd⟩
  ·have z:∃ o,s.heap.get? p=some o/\o.ExactDict:=by
    rcases hk with ⟨bB,hk⟩ | ⟨bB,hk⟩
    ·obtain⟨_,_,_,_,o,_,_,e,ex,_⟩:=I.fB p _ hk;exact⟨o,e,ex⟩
    ·obtain⟨_,_,_,_,o,_,_,e,ex,_⟩:=I.fB p _ hk;exact⟨o,e,ex⟩
   obtain⟨o,e,ex⟩:=z;refine⟨⟨o,e,ex.1⟩,fun a e2=>?_⟩;cases e2;exact⟨o,e,ex.2.1⟩
  ·obtain⟨o,_,_,_,e,ex,_⟩:=I.fB p _ hk;refine⟨⟨o,e,ex.1⟩,fun a e2=>?_⟩;cases e2;exact⟨o,e,ex.2.1⟩
 | _=>exact bT ty
variable {o e:Expr} {es:List Expr} {to:TE} {t:TA} {name:Str} {apos pI:Pos} {T id:String} {r:V->List V->Hp->VK->Prop}
/- xs.append(e),list.index on a V8 tuple .. are MtR facts of 06m -/
end
noncomputable def MtM(X:Cx)(id:String)(r:V->List V->Hp->VK->Prop):Prop :=
 ∀ (pins:List (Addr×Obj)) (s:aF) (σ:St) (H:Hp) (x:V) (xs:List V) (v:Value) (us:List Value) (Q:VK),Inv X pins σ H s->RelV x v->Vals xs us->r x xs H Q ->
  wpAny (model X.prog X.w) X.A (call (.builtin id) (v :: us)) (EP X pins σ Q) X.xe s
theorem Vals.one:∀ {x:V} {us:List Value},Vals [x] us->∃ u,us=[u]/\RelV x u:=by
 intro x us h;cases h with
 | cons r t=>cases t; exact⟨_,rfl,r⟩
theorem Vals.two:∀ {x y:V} {us:List Value},Vals [x,y] us->∃ u v,us=[u,v]/\RelV x u/\RelV y v:=by
 intro x y us h;cases h with
 | cons r t =>
  obtain⟨v,rfl,q⟩:=Vals.one t;exact⟨_,_,rfl,r,q⟩
section
variable {X:Cx} {pins:List (Addr×Obj)} {σ:St} {H:Hp} {s:aF} {l b:Addr} {xs ys zs:List V}
theorem Inv.Tu{bO its':List Value}{n:Nat}{f:Array Value->Array Value}{t':Nat}(I:Inv X pins σ H s)(hH:H l=some (.lst xs))
  (e:s.heap.get? l=some { cls:=.type "list",data:=.seq bO.toArray n }) (hf:f bO.toArray=its'.toArray) (hv:Vals ys its') (hz:ys.length<=br) :
  Inv X pins σ (upd H l (.lst ys)) { s with heap:=s.heap.update l (jT f),toks:=t' }:=by
 have q:=PySem.IsL.update e f;rw [hf] at q;refine I.write (x:=l) (e:=l) (by rw [hH]; exact trivial) (.inl rfl) (fun b' u hb hu=>(dM s.heap (jT f) (gv hb)).trans hu) ⟨_,q⟩ ?_;exact⟨hz,its',_,hv,q⟩
theorem Inv.Zf{bO:List Value}{t':Nat}(I:Inv X pins σ H s)(hv:Vals ys bO)(hz:ys.length<=br) :
  Inv X pins σ (upd H s.heap.objs.size (.lst ys)) { s with heap:=s.heap.push { cls:=.type "list",data:=.seq bO.toArray },toks:=t' } :=
 I.laid (fun _ _ q=>aY _ q) (aT _) ⟨hz,bO,0,hv,cf _ rfl⟩
theorem Inv.Tt (I:Inv X pins σ H s) (hH:H l=some (.lst xs)):xs.length<=br/\∃ (bO:List Value) (n:Nat),Vals xs bO/\xs.length=bO.length/\s.heap.get? l=some { cls:=.type "list",data:=.seq bO.toArray n }:=by
 obtain⟨z,bO,n,r,e⟩:=I.fB l _ hH;exact⟨z,bO,n,r,r.length,e⟩
theorem OA{n:Nat}(h:n<=br):kq n=false:=by
 unfold kq;exact decide_eq_false (by lia)
end
section
variable {X:Cx}
noncomputable def QM:V->List V->Hp->VK->Prop:=fun x vs H Q=>∃ l xs y,x=.ref l/\vs=[y]/\H l=some (.lst xs)/\xs.length < br/\Q .eK (upd H l (.lst (xs++[y])))
theorem De:MtM X "list.append" QM:=by
 intro pins s σ H x vs v us Q I rx rv h;obtain⟨l,xs,y,rfl,rfl,hH,hz,q⟩:=h;cases rx;obtain⟨u,rfl,ru⟩:=rv.one;obtain⟨z,bO,n,r,hl,e⟩:=I.Tt hH;refine B3 F.slot_list_append ⟨_,e,rfl⟩ F.entry_list_append (F.args_list_append_2 _ _) (PySem.list_append l bO.toArray n u (by rw [a9]; lia)) ⟨e,?_⟩;refine⟨.eK,_,I.Tu (its':=bO++[u]) hH e (by simp) (r.append (.cons ru .nil)) ?_,rfl,q⟩;rw [aL,gB];lia
end
section
variable {κ:Type} [DecidableEq κ]
noncomputable def ni(bB:List (κ×V))(k:κ):Option V:=(bB.find? fun kv=>decide (kv.1=k)).map (·.2)
noncomputable def putK(bB:List (κ×V))(k:κ)(v:V):List (κ×V) :=
 if (bB.any fun kv=>decide (kv.1=k))=true then bB.map (fun kv=>if kv.1=k then (kv.1,v) else kv) else bB++[(k,v)]
theorem rW{p:κ×V}{r:List (κ×V)}{k:κ}(e:p.1=k):ni (p :: r) k=some p.2:=by simp [ni,gE,e]
theorem rX{p:κ×V}{r:List (κ×V)}{k:κ}(e:¬ p.1=k):ni (p :: r) k=ni r k:=by simp [ni,gE,e]
theorem Ga(k:κ):∀ bB:List (κ×V),(bB.any fun kv=>decide (kv.1=k))=(ni bB k).isSome
 | []=>rfl
 | p :: r=>by
  rw [pN];by_cases e:p.1=k
  ·simp only [rW e,decide_eq_true e,Bool.true_or,Option.isSome_some]
  ·rw [rX e,decide_eq_false e,B9]; exact Ga k r
theorem yV(bB:List (κ×V))(k:κ)(v:V):(putK bB k v).length<=bB.length+1:=by
 unfold putK;split
 ·rw [ax]; lia
 ·rw [aL,ag,au]; lia
theorem uA.qf{o:Option V}{u:Option Value}(r:uA o u):o.isSome=u.isSome:=by
 cases o with
 | none=>cases u with
  | none=>rfl
  | some _=>exact(show False from r).elim
 | some _=>cases u with
  | none=>exact(show False from r).elim
  | some _=>rfl
theorem KV.val{bB:List (κ×V)}{vs:List (κ×Value)}(r:KV bB vs)(k:κ):uA (ni bB k) (Nf vs k):=by
 unfold KV at r;induction r with
 | nil=>exact jH
 | @cons p q ps qs h t ih =>
  obtain⟨h1,h2⟩:=h;by_cases e:p.1=k
  ·have e':q.1=k:=h1.symm.trans e;have b:Nf (q :: qs) k=some q.2:=by simp [Nf,gE,e']
   rw [rW e,b]; exact h2
  ·have e':¬ q.1=k:=fun z=>e (h1.trans z);have b:Nf (q :: qs) k=Nf qs k:=by simp [Nf,gE,e']
   rw [rX e,b]; exact ih
theorem KV.any{bB:List (κ×V)}{vs:List (κ×Value)}(r:KV bB vs)(k:κ):(bB.any fun kv=>decide (kv.1=k))=vs.any fun kv=>decide (kv.1=k):=by
 unfold KV at r;induction r with
 | nil=>rfl
 | cons h t ih=>rw [pN,pN,ih,h.1]
theorem KV.SU{bB:List (κ×V)}{vs:List (κ×Value)}(r:KV bB vs)(k:κ){y:V}{u:Value}(ry:RelV y u) :
  KV (bB.map fun kv=>if kv.1=k then (kv.1,y) else kv) (vs.map fun kv=>if kv.1=k then (kv.1,u) else kv):=by
 unfold KV at r ⊢;induction r with
 | nil=>exact .nil
 | @cons p q ps qs h t ih =>
  rw [aq,aq];refine .cons ?_ ih;obtain⟨h1,h2⟩:=h;by_cases e:p.1=k
  ·rw [if_pos e,if_pos (h1.symm.trans e)]; exact⟨h1,ry⟩
  ·rw [if_neg e,if_neg (fun z=>e (h1.trans z))]; exact⟨h1,h2⟩
theorem KV.put{bB:List (κ×V)}{vs:List (κ×Value)}(r:KV bB vs)(k:κ){y:V}{u:Value}(ry:RelV y u):KV (putK bB k y) (stored vs k u):=by
 unfold putK stored;rw [r.any k];by_cases e:(vs.any fun kv=>decide (kv.1=k))=true
 ·rw [if_pos e,if_pos e]; exact r.SU k ry
 ·rw [if_neg e,if_neg e]; exact Paired.snoc r ⟨rfl,ry⟩
theorem KV.length{bB:List (κ×V)}{vs:List (κ×Value)}(r:KV bB vs):bB.length=vs.length:=zJ r
end
theorem GY{P:bU}{w:World}{k:Key}{u:Value}(r:RelV (kV k) u):(iE P w).is k u=true:=by
 cases k with
 | inl i=>obtain⟨t,e⟩:=(show ∃ t,u=Nm i t from r); subst e; exact GN P w i t
 | inr x=>obtain⟨t,e⟩:=(show ∃ t,u=Nl x t from r); subst e; exact GL P w x t
theorem Dl{P:bU}{w:World}:∀ {ks:List Key} {us:List Value},Vals (ks.map kV) us->ItemsAre (iE P w) ks us
 | [],_,r=>by rw [aO] at r; cases r; exact .nil
 | k :: ks,_,r=>by
  rw [aq] at r;cases r with
  | cons h t=>exact .cons (GY h) (Dl t)
noncomputable abbrev KT(H:Hp):List (List Key×V)->List (List Key×Addr×Value)->Prop:=Paired fun p q=>p.1=q.1/\H q.2.1=some (.tup (p.1.map kV))/\RelV p.2 q.2.2
theorem KT.val{H:Hp}{bB:List (List Key×V)}{xs:List (List Key×Addr×Value)}(r:KT H bB xs)(k:List Key):uA (ni bB k) ((atKey xs k).map (·.2)):=by
 induction r with
 | nil=>exact jH
 | @cons p q ps qs h t ih =>
  obtain⟨h1,_,h2⟩:=h;by_cases e:p.1=k
  ·have e':q.1=k:=h1.symm.trans e;have b:atKey (q :: qs) k=some q.2:=by simp [atKey,gE,e']
   rw [rW e,b]; exact h2
  ·have e':¬ q.1=k:=fun z=>e (h1.trans z);have b:atKey (q :: qs) k=atKey qs k:=by simp [atKey,gE,e']
   rw [rX e,b]; exact ih
theorem KT.SU{H:Hp}{bB:List (List Key×V)}{xs:List (List Key×Addr×Value)}(r:KT H bB xs)(k:List Key){y:V}{u:Value}(ry:RelV y u) :
  KT H (bB.map fun kv=>if kv.1=k then (kv.1,y) else kv) (xs.map (putAt k u)):=by
 induction r with
 | nil=>exact .nil
 | @cons p q ps qs h t ih =>
  rw [aq,aq];refine .cons ?_ ih;obtain⟨h1,h2,h3⟩:=h;unfold putAt;by_cases e:p.1=k
  ·rw [if_pos e,if_pos (h1.symm.trans e)]; exact⟨h1,h2,ry⟩
  ·rw [if_neg e,if_neg (fun z=>e (h1.trans z))]; exact⟨h1,h2,h3⟩
theorem KT.put{H:Hp}{bB:List (List Key×V)}{xs:List (List Key×Addr×Value)}(r:KT H bB xs)(k:List Key){b:Addr}{y:V}{u:Value}(hb:H b=some (.tup (k.map kV)))(ry:RelV y u) :
  KT H (putK bB k y) (storedH xs k b u):=by
 have e:(bB.any fun kv=>decide (kv.1=k))=(atKey xs k).isSome:=by
  rw [Ga,(r.val k).qf,B5]
 unfold putK storedH;rw [e];by_cases q:(atKey xs k).isSome=true
 ·rw [if_pos q,if_pos q]; exact r.SU k ry
 ·rw [if_neg q,if_neg q]; exact Paired.snoc r ⟨rfl,hb,ry⟩
theorem KT.keeps{H H':Hp}{bB:List (List Key×V)}{xs:List (List Key×Addr×Value)}(r:KT H bB xs)(ht:∀ b ys,H b=some (.tup ys)->H' b=some (.tup ys)):KT H' bB xs :=
 Paired.V9 r fun _ _ z=>⟨z.1,ht _ _ z.2.1,z.2.2⟩
section
variable {P:bU} {w:World} {H:Hp} {h:Heap} {a:Addr}
theorem RO{u:HO}(ok:vB P w H h)(e:Rd H a u):je P w H h a u:=e.ok ok
theorem yZ{bB:List (Key×V)}(ok:vB P w H h)(e:Rd H a (.dK bB)):bB.length<=br/\(a == mT)=false/\∃ vs,KV bB vs/\h.DictOf (iE P w) a vs :=
 show je P w H h a (.dK bB) from RO ok e
theorem K8{bB:List (Key×V)}(ok:vB P w H h)(e:H a=some (.dK bB)):bB.length<=br/\(a == mT)=false/\∃ vs,KV bB vs/\h.DictOf (iE P w) a vs:=yZ ok (.inl e)
theorem Bi{ks:List Key}(ok:vB P w H h)(e:H a=some (.tup (ks.map kV))):(Ng (iE P w)).is h ks a:=by
 obtain⟨_,bO,r,o,h1,h2,n,h3⟩:=(show je P w H h a (.tup (ks.map kV)) from ok a _ e);exact⟨o,bO.toArray,n,h1,h2,h3,by simpa using Dl r⟩
theorem DA{bB:List (List Key×V)}(ok:vB P w H h)(e:Rd H a (.dT bB)):bB.length<=br/\(a == mT)=false /\
  ∃ xs,KT H bB xs/\h.DictOfH (Ng (iE P w)) a xs:=by
 obtain⟨z,y,xs,r,o,es,ep,h1,h2,h3,h4,h5⟩:=(show je P w H h a (.dT bB) from RO ok e);refine⟨z,y,xs,r,o,es,ep,h1,h2,h3,h4,fun x hx=>?_,h5⟩;have all:∀ {l:List (List Key×V)} {m:List (List Key×Addr×Value)},KT H l m->∀ x∈m,(Ng (iE P w)).is h x.1 x.2.1:=by
  intro l m q;induction q with
  | nil=>intro x hx; exact nomatch hx
  | @cons p q ps qs hq t ih =>
   intro x hx;rcases List.mem_cons.mp hx with e | hx
   ·subst e;exact Bi ok (by rw [<-hq.1]; exact hq.2.1)
   ·exact ih x hx
 exact all r x hx
theorem R9{bB:List (List Key×V)}(ok:vB P w H h)(e:H a=some (.dT bB)):bB.length<=br/\(a == mT)=false /\
  ∃ xs,KT H bB xs/\h.DictOfH (Ng (iE P w)) a xs:=DA ok (.inl e)
end
noncomputable def BZ(H:Hp)(a:Addr)(y:V)(r:Option V):Prop :=
 (∃ bB k,Rd H a (.dK bB)/\y=kV k/\r=ni bB k)\/∃ bB k b,Rd H a (.dT bB)/\y=.ref b/\H b=some (.tup (k.map kV))/\r=ni bB k
noncomputable def MY(H:Hp)(a:Addr)(y v:V)(H':Hp):Prop :=
 (∃ bB k,H a=some (.dK bB)/\y=kV k/\bB.length < br/\H'=upd H a (.dK (putK bB k v))) \/
 ∃ bB k b,H a=some (.dT bB)/\y=.ref b/\H b=some (.tup (k.map kV))/\bB.length < br/\H'=upd H a (.dT (putK bB k v))
theorem BZ.k{H:Hp}{a:Addr}{bB:List (Key×V)}{k:Key}(e:H a=some (.dK bB)):BZ H a (kV k) (ni bB k):=.inl ⟨bB,k,.inl e,rfl,rfl⟩
theorem BZ.t{H:Hp}{a b:Addr}{bB:List (List Key×V)}{k:List Key}(e:H a=some (.dT bB))(eb:H b=some (.tup (k.map kV))):BZ H a (.ref b) (ni bB k):=.inr ⟨bB,k,b,.inl e,rfl,eb,rfl⟩
theorem MY.k{H:Hp}{a:Addr}{bB:List (Key×V)}{k:Key}{v:V}(e:H a=some (.dK bB))(hl:bB.length < br):MY H a (kV k) v (upd H a (.dK (putK bB k v))):=.inl ⟨bB,k,e,rfl,hl,rfl⟩
theorem MY.t{H:Hp}{a b:Addr}{bB:List (List Key×V)}{k:List Key}{v:V}(e:H a=some (.dT bB))(eb:H b=some (.tup (k.map kV)))(hl:bB.length < br) :
  MY H a (.ref b) v (upd H a (.dT (putK bB k v))):=.inr ⟨bB,k,b,e,rfl,eb,hl,rfl⟩
section
variable {X:Cx} {pins:List (Addr×Obj)} {σ:St} {H:Hp} {s:aF} {a:Addr} {y v:V} {u r:Value} {o:Option V} {A:eO} {E:Value->aF->Prop}
theorem Inv.big(I:Inv X pins σ H s):mT < s.heap.objs.size:=by
 have h:bu < s.heap.objs.size:=(I.mod.glob.keeps I.bk).lt;exact Nat.lt_trans (by decide) h
theorem yh{Q:Value->aF->Prop}(hu:A.units+1 < cLine)(I:Inv X pins σ H s)(g:BZ H a y (some v))(ry:RelV y u)(h:∀ w' s',Inv X pins σ H s'->RelV v w'->Q w' s') :
  wpAny (model X.prog X.w) A (Nj (.ref a) u) Q E s:=by
 rcases g with ⟨bB,k,e,ey,l⟩ | ⟨bB,k,b,e,ey,eb,l⟩
 ·subst ey;obtain⟨z,hd,vs,rel,dd⟩:=yZ I.fB e;obtain⟨w',hw,oH⟩:=uA.some_of (v:=v) (o:=Nf vs k) (by rw [l]; exact rel.val k);exact wpAny_getItem_of (GY ry) dd.mapOf hw (h w' _ (I.tok _) oH)
 ·subst ey;cases (show u=kS b from ry);obtain⟨z,hd,xs,rel,dd⟩:=DA I.fB e;obtain⟨w',hw,oH⟩:=uA.some_of (v:=v) (o:=(atKey xs k).map (·.2)) (by rw [l]; exact rel.val k);obtain⟨p,hp,pP⟩:=Option.map_eq_some_iff.mp hw;refine wpAny_getItem_heap (uB hu) (Bi I.fB eb) dd hp ?_;rw [pP];exact h w' _ (I.tok _) oH
theorem WQ{Q:Value->aF->Prop}(hu:A.units+1 < cLine)(I:Inv X pins σ H s)(g:BZ H a y o)(ry:RelV y u)(h:∀ s',Inv X pins σ H s'->Q (.bool o.isSome) s') :
  wpAny (model X.prog X.w) A (gw .In u (.ref a)) Q E s:=by
 rcases g with ⟨bB,k,e,ey,l⟩ | ⟨bB,k,b,e,ey,eb,l⟩
 ·subst ey;obtain⟨z,hd,vs,rel,dd⟩:=yZ I.fB e;refine wpAny_in_of (GY ry) hd dd.mapOf ?_;rw [<-(rel.val k).qf,<-l];exact h _ (I.tok _)
 ·subst ey;cases (show u=kS b from ry);obtain⟨z,hd,xs,rel,dd⟩:=DA I.fB e;refine wpAny_in_heap (uB hu) (Bi I.fB eb) hd dd ?_;have q:=(rel.val k).qf;rw [B5] at q;rw [<-q,<-l];exact h _ (I.tok _)
theorem Le{Q:Value->aF->Prop}(hu:A.units+1 < cLine)(I:Inv X pins σ H s)(g:BZ H a y o)(ry:RelV y u)(h:∀ s',Inv X pins σ H s'->Q (.bool (!o.isSome)) s') :
  wpAny (model X.prog X.w) A (gw .NotIn u (.ref a)) Q E s:=by
 rcases g with ⟨bB,k,e,ey,l⟩ | ⟨bB,k,b,e,ey,eb,l⟩
 ·subst ey;obtain⟨z,hd,vs,rel,dd⟩:=yZ I.fB e;refine wpAny_notIn_of (GY ry) hd dd.mapOf ?_;rw [<-(rel.val k).qf,<-l];exact h _ (I.tok _)
 ·subst ey;cases (show u=kS b from ry);obtain⟨z,hd,xs,rel,dd⟩:=DA I.fB e;refine wpAny_notIn_heap (uB hu) (Bi I.fB eb) hd dd ?_;have q:=(rel.val k).qf;rw [B5] at q;rw [<-q,<-l];exact h _ (I.tok _)
theorem Ld{h':Heap}{t':Nat}{ob:HO}(I:Inv X pins σ H s)(mu:W8 (H a))(hs:DV a s.heap h')(he:∃ q,h'.get? a=some q)(new:je X.prog X.w (upd H a ob) h' a ob) :
  Inv X pins σ (upd H a ob) { s with heap:=h',toks:=t' } :=
 I.write (x:=a) (e:=a) mu (.inl rfl) (fun b q hb z=>(hs.2 b hb).trans z) he new
theorem Ul{P:bU}{w:World}{H':Hp}{h':Heap}{bB:List (Key×V)}{vs:List (Key×Value)}(z:bB.length<=br)(hd:(a == mT)=false)(rel:KV bB vs)(dd:h'.DictOf (iE P w) a vs) :
  je P w H' h' a (.dK bB):=⟨z,hd,vs,rel,dd⟩
theorem MM{H':Hp}{Q:Unit->aF->Prop}(hu:A.units+1 < cLine)(I:Inv X pins σ H s)(g:MY H a y v H')(ry:RelV y u)(rv:RelV v r)(h:∀ s',Inv X pins σ H' s'->Q () s') :
  wpAny (model X.prog X.w) A (setItem (.ref a) u r) Q E s:=by
 rcases g with ⟨bB,k,e,ey,l,eH⟩ | ⟨bB,k,b,e,ey,eb,l,eH⟩
 ·subst ey eH;obtain⟨z,hd,vs,rel,dd⟩:=K8 I.fB e;have hz:vs.length<=br:=by rw [<-rel.length]; exact z
  have hl:(putK bB k v).length<=br:=by have:=yV bB k v; lia
  refine wpAny_setItem_pairs (hsz:=hz) (GY ry) dd fun h' XI hs=>h _ ?_;have he:∃ q,h'.get? a=some q:=let ⟨q,_,_,hq,_⟩:=XI; ⟨q,hq⟩
  exact Ld I (by rw [e]; exact jH) hs he (Ul hl hd (rel.put k rv) XI)
 ·subst ey eH;cases (show u=kS b from ry);obtain⟨z,hd,xs,rel,dd⟩:=R9 I.fB e;have hz:xs.length<=br:=by rw [<-zJ rel]; exact z
  have hl:(putK bB k v).length<=br:=by have:=yV bB k v; lia
  refine wpAny_setItem_heap (hsz:=hz) (uB hu) (Bi I.fB eb) dd fun h' XI hs=>h _ ?_;obtain⟨q,es,ep,hq,h2,h3,h4,_,h5⟩:=XI;refine Ld I (by rw [e]; exact jH) hs ⟨q,hq⟩ ⟨hl,hd,_,(rel.put k eb rv).keeps fun c ys ec=>?_,q,es,ep,hq,h2,h3,h4,h5⟩;rw [cw (V5 ec e (fun z=>nomatch z))];exact ec
end
section
variable {X:Cx} {pins:List (Addr×Obj)} {σ:St} {H:Hp} {s:aF} {a:Addr} {bB:List (Key×V)} {k:Key} {u:Value} {A:eO} {E:Value->aF->Prop}
theorem Sb {Q:Value->aF->Prop} (I:Inv X pins σ H s) (e:Rd H a (.dK bB)) (h:∀ t s',Inv X pins σ H s'->Q (.int bB.length t) s'):wpAny (model X.prog X.w) A (call (.builtin "len") [.ref a]) Q E s:=by
 obtain⟨z,hd,vs,rel,dd⟩:=yZ I.fB e;refine call_len_dict hd dd (by rw [<-rel.length]; rw [dm] at z; lia) ?_;rw [<-rel.length];exact h _ _ (I.tok _)
theorem Rt{Q:Bool->aF->Prop}(I:Inv X pins σ H s)(e:Rd H a (.dK bB))(h:∀ s',Inv X pins σ H s'->Q (!bB.isEmpty) s'):wpAny (model X.prog X.w) A (truthy (.ref a)) Q E s:=by
 obtain⟨z,hd,vs,rel,dd⟩:=yZ I.fB e;refine Iv hd dd (by rw [<-rel.length]; rw [dm] at z; lia) ?_;have q:bB.isEmpty=vs.isEmpty:=by cases rel <;> rfl
 rw [<-q];exact h _ (I.tok _)
end
theorem sV {X:Cx} {pins:List (Addr×Obj)} {σ:St} {H:Hp} {s:aF} {a:Addr} {y:V} {o:Option V} (I:Inv X pins σ H s) (g:BZ H a y o):s.TypeIs (.ref a) "dict":=by
 rcases g with ⟨bB,k,e,_,_⟩ | ⟨bB,k,b,e,_,_,_⟩
 ·obtain⟨_,_,vs,_,dd⟩:=yZ I.fB e;exact dd.typeIs
 ·obtain⟨_,_,xs,_,dd⟩:=DA I.fB e;exact dd.typeIs
theorem Pk {P:bU} {w:World} {H:Hp} (h:Heap) (hb:mT < h.objs.size):je P w H (h.push { cls:=.type "dict",data:=.dict #[] }) h.objs.size (.dK []) :=
 ⟨cX _,beq_eq_false_iff_ne.mpr (gv (bS hb)),[],.nil,Heap.DictOf.new h⟩
noncomputable def SE:TE:=fun _ H Q=>∀ p,H p=none->Q (.ref p) (upd H p (.dK []))
section
variable {X:Cx} {pos:Pos}
theorem Oq:PE X (.Dict [] [] pos) SE:=fun pins s σ H Q I h =>
 wpAny_Dict_empty ⟨.ref s.heap.objs.size,_,I.laid (a:=s.heap.objs.size) (o:=.dK []) (t':=s.toks) (fun _ _ q=>aY _ q) (aT _) (Pk s.heap I.big),rfl,h _ (I.fB.fresh (aT _))⟩
end
structure M1(X:Cx)(o:Expr)(m:Str)(apos:Pos)(e:Expr)(pI:Pos):Prop where
 base:xC o m X.env (eval o X.env)=eval o X.env
 zw:((nG pI (cq [e] X.env)).all (fun x=>!x.1)&&(backToKw pI (DP [] X.env)).all (fun x=>x.1.isSome)
  && decide (([e]:List Expr).length+([]:List Nw).length+(if ([]:List Nw).isEmpty then 0 else 1) < 30))=true
 line:(apos.endLine == pI.line)=true
 trees:nG pI (cq [e] X.env)=[(false,eval e X.env)]
structure M2(X:Cx)(o:Expr)(m:Str)(apos:Pos)(e f:Expr)(pI:Pos):Prop where
 base:xC o m X.env (eval o X.env)=eval o X.env
 zw:((nG pI (cq [e,f] X.env)).all (fun x=>!x.1)&&(backToKw pI (DP [] X.env)).all (fun x=>x.1.isSome)
  && decide (([e,f]:List Expr).length+([]:List Nw).length+(if ([]:List Nw).isEmpty then 0 else 1) < 30))=true
 line:(apos.endLine == pI.line)=true
 trees:nG pI (cq [e,f] X.env)=[(false,eval e X.env),(false,eval f X.env)]
end L2
namespace Att
open PySem PySem.W PySem.Calls PyProof.Rows
theorem zq{P:nH}{h:Heap}:∀ (ns:List Int) (vs:List Value),WellAll P h vs (ns.map WData.int)->nI vs ns:=by
 intro ns;induction ns with
 | nil =>
  intro vs w;rw [aO] at w;cases w;exact .nil
 | cons n ns ih =>
  intro vs w;rw [aq] at w;cases w with
  | cons a b =>
   cases a;exact .cons _ _ (ih _ b)
theorem LM{l:OpenLaw}{n:Nat}(hn:l.most=some n){P:nH}{h:Heap}{args:List WData}{vals:List Value}
  (Mt:l.row.toRowW.claim.pre args=true) (Zu:WellAll P h vals args) :
  ∃ a vs ns,vals=[kS a]/\args=[WData.list (ns.map WData.int)]/\h.get? a=some { cls:=.type "list",data:=.seq vs.toArray }/\nI vs ns/\ns.length<=n:=by
 have hsh:WShape.hasAll [] args [.list .int]=true:=(pre_splitW Mt).1;have hc:l.pre.holds [] { args:=args } = true:=(pre_splitW Mt).2;obtain⟨d,r,rfl,h1,h2⟩:=hasAllW_cons hsh;obtain rfl:=hasAllW_nil h2;obtain⟨xs,rfl,h3⟩:=hasW_list h1;obtain⟨ns,rfl⟩:=items_int h3;have hlen:ns.length<=n:=by
  unfold OpenLaw.pre at hc;have h4:(WTm.not (.lt (.lit (.int (n:Int))) (.len (.arg 0)))).holds [] { args:=[.list (ns.map .int)] } = true:=by
   have h4:=(holds_andW hc).1;rw [hn] at h4;exact h4
  have h5:=condW_of h4 (w_not (w_lt w_lit (w_len_list (w_arg rfl))));rw [ax] at h5;refine Nat.le_of_not_lt fun q=>?_;have q':(n:Int) < ((ns.length:Nat):Int):=by lia
  first
   | (rw [decide_eq_true q'] at h5; exact absurd h5 (by decide))
   | (simp at h5; lia)
 cases Zu with
 | cons w1 w2 =>
  cases w2;cases w1 with
  | list ho O2=>exact⟨_,_,ns,rfl,rfl,ho,zq ns _ O2,hlen⟩
theorem LW(l:OpenLaw)(args:List WData):l.row.toRowW.claim.post args (.bool true) args=true :=
 postW_of (r:=l.row.toRowW) (X:=(true == true))
  (show WShape.has [] (.bool true) .bool=true by first | rfl | decide | simp [WShape.has,WShape.arms,WShape.armsAll])
  (show (WTm.eq .res (.lit (.bool true))).value [] { args:=args,res:=some (.bool true),after:=args } = some (.bool (true == true)) from w_eq_bool (w_res rfl) w_lit) rfl
theorem HV{l:OpenLaw}{n:Nat}{q:bU}{loose:List Str}{XP:(Str->Option Value)->Heap->Prop}{YP:World->Heap->Prop}{d:DefRec}
  (hn:l.most=some n) (Ww:d.params.defaults=[])
  (call:∀ (w:World) (oy gF:aF) (mg mb:Str->Option Value) (fa:Addr) (o:Obj) (pm cd doc:Value) (a:Addr) (vs:List Value) (ns:List Int),
   Ground q loose [] XP w oy mg mb gF.heap->YP w gF.heap ->
   gF.heap.get? fa=some o->o.data=.func (docDef d.name d.params d.body d.scope pm cd doc)->gF.heap.CodeRec cd d.name->mg d.name=some (.ref fa) ->
   gF.heap.get? a=some { cls:=.type "list",data:=.seq vs.toArray }->nI vs ns->ns.length<=n->gF.gens=#[] ->
   xB (model l.prog w) Iz (.call (.ref fa) ⟨[.ref a],[]⟩) (fun r s'=>r=.ok (.ret (.bool true))/\OldK gF.heap s'.heap/\s'.os=gF.os/\DX s'.gens) gF) :
  WalkO q loose XP YP l.row.toRowW d [] (fun f vs=>J7 f vs):=by
 intro w oy gF mg mb G Y fa o pm cd doc dV kV ho hd K0 hD Wn hg args vals as Mt adZ hrd Zu hlo;obtain rfl:dV=.none:=Dflts.none hD Ww;obtain rfl:kV=.none:=Dflts.noKw hD;obtain⟨a,vs,ns,rfl,rfl,TQ,hints,hlen⟩:=LM hn Mt Zu;refine enter_call (J3 (call w oy gF mg mb fa o pm cd doc a vs ns G Y ho (fd_plain hd) K0 Wn TQ hints hlen hg) fun r s' hq=>?_);obtain⟨rfl,h2,h3,h4⟩:=hq;exact⟨.inl ⟨.bool true,.bool true,[],rfl,fun _=>rfl,.bool true,LW l _,fun _=>⟨List.Pairwise.nil,fun _ hm=>(nomatch hm)⟩⟩,h2,h3,h4⟩
end Att
namespace L2
open PySem PySem.Spec PyProof.Rows
theorem C2:∀ {vs:List Value} {ns:List Int},nI vs ns->Vals (ns.map V.int) vs
 | _,_,.nil=>.nil
 | _,_,.cons n t h=>.cons ⟨t,rfl⟩ (C2 h)
noncomputable def RC(H:Hp):Prop:=∀ b,H b=none\/∃ o xs,H b=some (.rq o (.lst xs))
theorem OJ{P:bU}{w:World}{K:aw}{mg mb:Str->Option Value}{CX:Lq}{k:Nat}{fa a:Addr}{fd:ay}{x:Str}{sp:Sp}{gF:aF}{vs:List Value}{ns:List Int}
  (KX:K.In gF.heap) (Cy:gF.heap.Ns bu mg) (hb:gF.heap.Ns builtinsNs mb) (hbb:∀ x:Str,x≠"__name__"->mb x=eN x) (ZS:gF.heap.NoLimit) (hg:gF.gens=#[])
  (ha:gF.heap.get? a=some { cls:=.type "list",data:=.seq vs.toArray }) (hi:nI vs ns) (hl:ns.length<=br) (hr:kK k Iz)
  (F:∀ base:Heap,K.In base->base.Ns bu mg->eA P w K mg base CX k fa fd [x] sp) (Wz:∀ (s:aF) (u:Value),Nx s fd ⟨[u],[]⟩ [(x,u)])
  (Jt:∀ H:Hp,RC H->qy K H a (ns.map V.int)->sp [.ref a] H (fun v _=>v=.bl true) fun _ _ _=>False)
  (hCX:∀ H e s',CX [] H gF (fun _ _ _=>False) e s'->False) :
  xB (model P w) Iz (.call (.ref fa) ⟨[.ref a],[]⟩) (fun r s'=>r=.ok (.ret (.bool true))/\OldK gF.heap s'.heap/\s'.os=gF.os/\DX s'.gens) gF:=by
 have rv:=C2 hi;have Zg:=hi.length;have core:∀ H:Hp,RC H->qy K H a (ns.map V.int)->vB P w H gF.heap->(∀ b,H b≠none->b=a)->(H a≠none->K.lookup a=none) ->
   xB (model P w) Iz (.call (.ref fa) ⟨[.ref a],[]⟩) (fun r s'=>r=.ok (.ret (.bool true))/\OldK gF.heap s'.heap/\s'.os=gF.os/\DX s'.gens) gF:=by
  intro H hO hS fB hA hK;have Li:∀ {b:Addr} {o:Obj},gF.heap.get? b=some o->H b=none->(EH gF.heap H).get? b=some o:=fun e n=>OY e n;have V4:∀ {b:Addr} {o:Obj} {es:Array DictEntry} {ep:Nat},gF.heap.get? b=some o->o.data=.dict es ep->H b=none:=fun {b o es ep} e d=>by
   cases q:H b with
   | none=>rfl
   | some u =>
    have e':b=a:=hA b (by rw [q]; simp);subst e';rw [ha] at e; cases e;have d':Data.seq vs.toArray _=Data.dict es ep:=d;cases d'
  have Xp:∀ {b:Addr} {m:Str->Option Value},gF.heap.Ns b m->(EH gF.heap H).Ns b m:=fun {b m} ⟨o,es,ep,e,d,r⟩=>⟨o,es,ep,Li e (V4 e d),d,r⟩;have hKb:K.In (EH gF.heap H):=fun b o e=>Li (KX b o e) (by
   cases q:H b with
   | none=>rfl
   | some u =>
    have e':b=a:=hA b (by rw [q]; simp);subst e';rw [hK (by rw [q]; simp)] at e; cases e)
  have hM:Mod K mg (EH gF.heap H):=⟨hKb,Xp Cy,⟨mb,Xp hb,hbb⟩,let ⟨mc,h1,h2⟩:=ZS; ⟨mc,Xp h1,h2⟩⟩;have e0:J0 P w K mg (EH gF.heap H) Iz [] gF H:=⟨rfl,hM,fun b o e=>Q5 e,Nat.le_of_eq (MA _ _),trivial,fun b hb=>absurd (show b∈([]:List Addr) from hb) (by simp),fB,.of_eq hg⟩;refine J3 ((F _ hKb (Xp Cy)).run Iz [] gF H ⟨[.ref a],[]⟩ [.ref a] [.ref a] _ _ hr e0 (Wz gF (.ref a)) (.cons rfl .nil) (Jt H hO hS)) fun r s' h=>?_;cases r with
  | error e=>exact(hCX H e s' h).elim
  | ok fl =>
   cases fl with
   | next=>exact bT h
   | brk=>exact bT h
   | cont=>exact bT h
   | ret u =>
    obtain⟨v,H',os,bare,un,ZJ,r',q⟩:=h;have q':v=.bl true:=q;subst q';obtain rfl:u=J4 true:=r';refine⟨rfl,OldK.of_keep fun b o e=>?_,os,bare⟩;cases q:H b with
    | none=>exact un.keep b o e q (by intro z; exact absurd (show b∈([]:List Addr) from z) (by simp)) (by simp)
    | some u =>
     rcases hO b with z | ⟨ob,xs,z⟩
     ·rw [q] at z; cases z
     ·have z2:=un.Bo b ob _ z;obtain⟨e1,_⟩:=fB b _ z;obtain⟨e2,_⟩:=ZJ b _ z2;rw [e] at e1; cases e1;exact e2
 cases hk:K.lookup a with
 | some o =>
  have e:=KX a o hk;rw [ha] at e;cases e;refine core (fun _=>none) (fun _=>.inl rfl) (.inr ⟨_,vs.toArray,_,hk,rfl,rfl,rfl,by rw [a9,Zg]; exact hl,by simpa using rv⟩) (fun b u z=>by have z':(none:Option HO)=some u:=z; cases z') (fun b z=>absurd rfl z) fun z=>absurd rfl z
 | none =>
  refine core (fun b=>if b=a then some (.rq { cls:=.type "list",data:=.seq vs.toArray } (.lst (ns.map V.int))) else none) (fun b=>?_) (.inl (.inr ⟨{ cls:=.type "list",data:=.seq vs.toArray },if_pos rfl⟩)) (fun b u z=>?_) (fun b z=>?_) fun _=>hk
  ·by_cases hb:b=a
   ·exact .inr ⟨_,_,if_pos hb⟩
   ·exact .inl (if_neg hb)
  ·by_cases hb:b=a
   ·have z':=(if_pos hb).symm.trans z;cases z';subst hb;exact⟨ha,by rw [ax]; exact hl,vs,_,rv,ha⟩
   ·have z':=(if_neg hb).symm.trans z;cases z'
  ·by_cases hb:b=a
   ·exact hb
   ·exact absurd (if_neg hb) z
theorem Qq{l:DR}{n k:Nat}{q:bU}{loose:List Str}{XP:(Str->Option Value)->Heap->Prop}{YP:World->Heap->Prop}{d:DefRec}{K:nH->aw}{CX:World->Lq}{sp:World->Sp}{x:Str}
  (hn:l.most=some n) (Xy:n<=br) (Ww:d.params.defaults=[]) (hr:kK k Iz)
  (hY:∀ (w:World) (h:Heap),YP w h->(K w.params).In h)
  (F:∀ (w:World) (mg:Str->Option Value) (fa:Addr) (h:Heap),(K w.params).In h->h.Ns bu mg->mg d.name=some (.ref fa) ->
   ∃ fd:ay,(∀ (s:aF) (u:Value),Nx s fd ⟨[u],[]⟩ [(x,u)]) /\
    ∀ base:Heap,(K w.params).In base->base.Ns bu mg->eA l.prog w (K w.params) mg base (CX w) k fa fd [x] (sp w))
  (Jt:∀ (w:World) (H:Hp) (a:Addr) (ns:List Int),ns.length<=n->RC H->qy (K w.params) H a (ns.map V.int)->sp w [.ref a] H (fun v _=>v=.bl true) fun _ _ _=>False)
  (hCX:∀ (w:World) (H:Hp) (s:aF) (e:Value) (s':aF),CX w [] H s (fun _ _ _=>False) e s'->False) :
  PySem.W.WalkO q loose XP YP l.row.toRowW d [] (fun f vs=>J7 f vs):=by
 refine Att.HV hn Ww fun w oy gF mg mb fa o pm cd doc a vs ns G Y ho hd K0 Wn TQ hints hlen hg=>?_;have KX:=hY w _ Y;obtain⟨fd,hb,hF⟩:=F w mg fa _ KX G.T.g Wn;exact OJ KX G.T.g G.T.b G.T.builtins G.T.nolimit hg TQ hints (eC hlen Xy) hr hF hb (fun H hO hS=>Jt w H a ns hlen hO hS) fun H e s'=>hCX w H gF e s'
end L2
/- THE agM XQ (shape; LID,My.* are aaU):
   My.Adr: a structure of Yl addresses acF acx abk names (classes,UW); My.Txt K t: a structure (Prop) of Yl equations over K;
   My.Yk:{K} {implicit addresses ..} (e1:nsIn K bu "law" = some (some (.ref f))) (e2:K.lookup f=some ⟨oc,od,.func (fnOf "law" "law" params body scope dV kV doc pm an oR ct),sl⟩) (e3:codeIn K oR "law" = true) ..:∃ t,My.Txt K t
(Yl tactic k_is has no namespace: write k_is) -/
namespace L2
open PySem PySem.Spec PyProof.Rows
noncomputable def kn(s:Stmt):Arguments:=match s with
 | .FunctionDef _ a _ _ _ _ _ _ _ _=>a
 | _=>{ posonlyargs:=[],args:=[],vararg:=none,kwonlyargs:=[],kw_defaults:=[],kwarg:=none,defaults:=[] }
noncomputable def i4(s:Stmt):List Stmt:=match s with
 | .FunctionDef _ _ b _ _ _ _ _ _ _=>b
 | _=>[]
noncomputable def aW(s:Stmt):Scope:=match s with
 | .FunctionDef _ _ _ _ _ _ sc _ _ _=>sc
 | _=>{ kind:=.function,names:=[],isGenerator:=false,isCoroutine:=false }
noncomputable abbrev eB:Lq:=fun _ _ _ _ _ _=>False
noncomputable abbrev E0:XK:=fun _ _ _=>False
theorem Kx{X:Cx}:Passes eB X E0:=fun _ _ _ _ _ _ _ h=>h.elim
structure kP(K:aw)(x qual:Str)(st:Stmt)(f:Addr)(fd:ay):Prop where
 ex:∃ (oc:Value) (od:Option Addr) (kV doc pm:Value) (an:Option Addr) (oR ct:Value) (L0:Array (Option Value)),
  fd=jW x qual (kn st) (i4 st) (aW st) .none kV doc pm an oR ct/\K.lookup f=some ⟨oc,od,.func fd,L0⟩/\FR K oR qual=true
 kp:gh K (.ref f)=true
section
variable {P:bU} {w:World} {K:aw} {mg:Str->Option Value} {base:Heap}
theorem kP.ok{x qual:Str}{st:Stmt}{f:Addr}{fd:ay}{N ps:List Str}{k:Nat}{sp:Sp}(F:kP K x qual st f fd)(S:bJ N ps (aW st))(len:∀ vs H Q E,sp vs H Q E->vs.length=ps.length)
  (O1:∀ (oR:Value) (A:eO) (outer:List Env) (s:aF) (H:Hp) (vs:List V) (Q:VK) (E:XK),kK k (A.deeper (FQ qual (aW st) s.heap.objs.size f oR))->sp vs H Q E ->
   ∃ t,U0 (HP eB P w K mg base N qual (aW st) f oR A outer s H E).UK (i4 st) t/\t { nx:=fun _ H'=>Q .eK H',rt:=Q } (start N vs) H):eA P w K mg base eB (k+1) f fd ps sp:=by
 obtain⟨oc,od,kV,doc,pm,an,oR,ct,L0,rfl,lk,K0⟩:=F.ex;refine WK lk K0 S len fun A outer s H vs Q E hr Jt=>?_;obtain⟨t,h,q⟩:=O1 oR A outer s H vs Q E hr Jt;exact⟨t,h.UK,q⟩
theorem kP.binds{x qual:Str}{st:Stmt}{f:Addr}{fd:ay}{ps:List Str}(F:kP K x qual st f fd)
  (h:∀ (kV doc pm:Value) (an:Option Addr) (oR ct:Value) (us:List Value),us.length=ps.length->bindArgs (jW x qual (kn st) (i4 st) (aW st) .none kV doc pm an oR ct) ⟨us,[]⟩=pure (ps.zip us)):Binds K fd ps []:=by
 obtain⟨oc,od,kV,doc,pm,an,oR,ct,L0,rfl,lk,K0⟩:=F.ex;exact .all (h kV doc pm an oR ct)
theorem O8{x qual:Str}{st:Stmt}{f:Addr}{oc:Value}{od an:Option Addr}{L0:Array (Option Value)}{kV doc pm oR ct:Value}(l:K.lookup f=some ⟨oc,od,.func (jW x qual (kn st) (i4 st) (aW st) .none kV doc pm an oR ct),L0⟩)
  (c:FR K oR qual=true) (k:gh K (.ref f)=true):kP K x qual st f (jW x qual (kn st) (i4 st) (aW st) .none kV doc pm an oR ct):=⟨⟨oc,od,kV,doc,pm,an,oR,ct,L0,rfl,l,c⟩,k⟩
end
end L2
set_option autoImplicit false
section
namespace K2
open PySem (Str)
inductive D where
 | eK | bl (b:Bool) | int (i:Int) | str (x:Str) | tup (ds:List D) | fJ (ds:List D) | yE (bB:List (D×D)) | ref (a:Nat) | exc (c:Str)
 deriving Inhabited
inductive GO where
 | lst (ds:List D)
 | oq (bB:List (D×D))
 | ins (c:Str) (fs:List (Str×D))
noncomputable abbrev Gp:=Nat->Option GO
noncomputable def cW(G:Gp)(a:Nat)(o:GO):Gp:=fun b=>if b=a then some o else G b
theorem aC{G:Gp}{a:Nat}{o:GO}:cW G a o a=some o:=by unfold cW; rw [if_pos rfl]
theorem eR{G:Gp}{a b:Nat}{o:GO}(h:b≠a):cW G a o b=G b:=by unfold cW; rw [if_neg h]
noncomputable abbrev SZ:Nat:=16777216
structure Ex where
 cls:Str
 aeK:List (Str×D)
noncomputable abbrev mW:=Ex->Gp->Prop
noncomputable abbrev iP:=List (Option D)
noncomputable abbrev DK:=D->Gp->Prop
noncomputable abbrev hW:=mW->iP->Gp->DK->Prop
noncomputable abbrev zE:=mW->iP->Gp->(Bool->Gp->Prop)->Prop
noncomputable abbrev DN:=mW->iP->Gp->(List D->Gp->Prop)->Prop
structure lM where
 nx:iP->Gp->Prop
 rt:DK
 bk:iP->Gp->Prop
 ct:iP->Gp->Prop
noncomputable abbrev g7:=mW->lM->iP->Gp->Prop
noncomputable abbrev jx:=List D->Gp->DK->mW->Prop
noncomputable abbrev HZ:=D->D->Gp->DK->Prop
noncomputable def Jp(n:Nat)(i:Int):Option Nat:=if 0<=i then (if i < n then some i.toNat else none) else if -(n:Int)<=i then some (i+n).toNat else none
noncomputable def pQ{α:Type}(xs:List α)(i:Int):Option α:=(Jp xs.length i).bind fun j=>xs[j]?
noncomputable def kj(n d:Nat):Option Int->Nat
 | none=>d
 | some v=>if v < 0 then (v+(n:Int)).toNat else min v.toNat n
noncomputable def cut{α:Type}(xs:List α)(lo hi:Option Int):List α:=(xs.drop (kj xs.length 0 lo)).take (kj xs.length xs.length hi - kj xs.length 0 lo)
mutual
noncomputable def jw:D->D->Bool
 | .eK,.eK=>true
 | .bl a,.bl b=>a == b
 | .bl a,.int b=>(if a then 1 else 0) == b
 | .int a,.bl b=>a == (if b then 1 else 0)
 | .int a,.int b=>a == b
 | .str a,.str b=>a == b
 | .tup a,.tup b=>ll a b
 | .fJ a,.fJ b=>ll a b
 | _,_=>false
noncomputable def ll:List D->List D->Bool
 | [],[]=>true
 | a :: r,b :: t=>jw a b&&ll r t
 | _,_=>false
end
mutual
noncomputable def nr:D->Bool
 | .ref _=>false
 | .exc _=>false
 | .yE _=>false
 | .str x=>x.cps.all (· < 0x110000)
 | .tup ds=>rj ds
 | .fJ ds=>rj ds
 | _=>true
noncomputable def rj:List D->Bool
 | []=>true
 | d :: r=>nr d&&rj r
end
class inductive Sn (G:Gp):Nat->D->D->Prop
 | eK {n:Nat}:Sn G n .eK .eK
 | bl {n:Nat} (b:Bool):Sn G n (.bl b) (.bl b)
 | int {n:Nat} (i:Int):Sn G n (.int i) (.int i)
 | str {n:Nat} (x:Str) (h:x.cps.all (· < 0x110000)=true):Sn G n (.str x) (.str x)
 | Gf {n:Nat}:Sn G (n+1) (.tup []) (.tup [])
 | qZ {n:Nat} {d s:D} {ds ss:List D}:Sn G n d s->Sn G (n+1) (.tup ds) (.tup ss)->Sn G (n+1) (.tup (d :: ds)) (.tup (s :: ss))
 | N0 {n:Nat}:Sn G (n+1) (.fJ []) (.fJ [])
 | Gz {n:Nat} {d s:D} {ds ss:List D}:Sn G n d s->Sn G (n+1) (.fJ ds) (.fJ ss)->Sn G (n+1) (.fJ (d :: ds)) (.fJ (s :: ss))
 | ref {n:Nat} {a:Nat} {ds ss:List D}:G a=some (.lst ds)->Sn G n (.fJ ds) (.fJ ss)->Sn G n (.ref a) (.fJ ss)
noncomputable abbrev SN:Nat:=8
theorem Sn.nr{G:Gp}{n:Nat}{d t:D}(h:Sn G n d t):K2.nr t=true:=by
 induction h with
 | eK=>rfl
 | bl b=>rfl
 | int i=>rfl
 | str x h=>exact h
 | Gf=>rfl
 | qZ _ _ OT OS =>
  show (K2.nr _&&K2.rj _)=true;rw [OT];exact OS
 | N0=>rfl
 | Gz _ _ OT OS =>
  show (K2.nr _&&K2.rj _)=true;rw [OT];exact OS
 | ref _ _ ih=>exact ih
noncomputable def gY:D->Bool
 | .int _=>true
 | .str _=>true
 | _=>false
noncomputable def LC:D->Gp->Option Bool
 | .eK,_=>some false
 | .bl b,_=>some b
 | .int i,_=>some (i != 0)
 | .str x,_=>if x.length<=SZ then some ((x.length:Int) != 0) else none
 | .tup ds,_=>some (!ds.isEmpty)
 | .fJ ds,_=>some (!ds.isEmpty)
 | .exc _,_=>none
 | .yE bB,_=>if (bB.all fun p=>gY p.1)=true then some (!bB.isEmpty) else none
 | .ref a,G=>match G a with
  | some (.lst ds)=>some (!ds.isEmpty)
  | some (.oq bB)=>if (bB.all fun p=>gY p.1)=true then some (!bB.isEmpty) else none
  | _=>none
noncomputable def aj(i:Nat):hW:=fun _ τ G Q=>match τ[i]? with
 | some (some d)=>Q d G
 | _=>False
noncomputable def dC(d:D):hW:=fun _ _ G Q=>Q d G
noncomputable def aH:DN:=fun _ _ G Q=>Q [] G
noncomputable def ah(a:hW)(r:DN):DN:=fun E τ G Q=>a E τ G fun x G1=>r E τ G1 fun xs G2=>Q (x :: xs) G2
noncomputable def dW(t:DN):hW:=fun E τ G Q=>t E τ G fun ds G1=>ds.length<=SZ/\Q (.tup ds) G1
noncomputable def fh(t:DN):hW:=fun E τ G Q=>t E τ G fun ds G1=>ds.length<=SZ/\∀ p,G1 p=none->Q (.ref p) (cW G1 p (.lst ds))
noncomputable def aM(r:HZ)(a b:hW):hW:=fun E τ G Q=>a E τ G fun x G1=>b E τ G1 fun y G2=>r x y G2 Q
noncomputable def CM(r:D->Gp->DK->Prop)(a:hW):hW:=fun E τ G Q=>a E τ G fun x G1=>r x G1 Q
noncomputable def l0(G:Gp)(o:GO)(Q:DK):Prop:=∀ p,G p=none->Q (.ref p) (cW G p o)
noncomputable def MulOk(i j:Int):Prop:=(-(2 ^ 64) < i/\i < 2 ^ 64)\/(-(2 ^ 64) < j/\j < 2 ^ 64)
noncomputable def uR:D->Gp->Option (List D)
 | .fJ ds,_=>some ds
 | .ref a,G=>match G a with
  | some (.lst ds)=>some ds
  | _=>none
 | _,_=>none
noncomputable def BO(x y:D)(G:Gp)(Q:DK):Prop:=match uR x G,uR y G with
 | some xs,some ys=>xs.length+ys.length<=SZ/\l0 G (.lst (xs++ys)) Q
 | _,_=>False
noncomputable def kJ:HZ
 | .int i,.int j,G,Q=>Q (.int (i+j)) G
 | .str a,.str b,G,Q=>a.length+b.length<=SZ/\Q (.str (a++b)) G
 | .tup a,.tup b,G,Q=>a≠[]/\a.length+b.length<=SZ/\Q (.tup (a++b)) G
 | x,y,G,Q=>BO x y G Q
noncomputable def QH:HZ
 | .int i,.int j,G,Q=>Q (.int (i - j)) G
 | _,_,_,_=>False
noncomputable def Oa:HZ
 | .int i,.int j,G,Q=>MulOk i j/\Q (.int (i * j)) G
 | _,_,_,_=>False
noncomputable def sr:HZ
 | .int i,.int j,G,Q=>0 < j/\Q (.int (i % j)) G
 | _,_,_,_=>False
noncomputable def AX:HZ
 | .int i,.int j,G,Q=>0 < j/\j < 2 ^ 30/\Q (.int (i / j)) G
 | _,_,_,_=>False
noncomputable def Cm:D->Gp->DK->Prop
 | .int i,G,Q=>Q (.int (-i)) G
 | _,_,_=>False
noncomputable def nu(neg:Bool):HZ:=fun x y G Q=>∃ a b,Sn G SN x a/\Sn G SN y b/\Q (.bl (if neg then !jw a b else jw a b)) G
noncomputable def lexLt:List Int->List Int->Bool
 | [],[]=>false
 | [],_ :: _=>true
 | _ :: _,[]=>false
 | x :: xs,y :: ys=>if x=y then lexLt xs ys else decide (x < y)
noncomputable def Xj:HZ
 | .int i,.int j,G,Q=>Q (.bl (decide (i < j))) G
 | .tup a,.tup b,G,Q=>∃ xs ys,a=xs.map D.int/\b=ys.map D.int/\Q (.bl (lexLt xs ys)) G
 | _,_,_,_=>False
noncomputable def rLe:HZ
 | .int i,.int j,G,Q=>Q (.bl (decide (i<=j))) G
 | _,_,_,_=>False
noncomputable def YC:HZ
 | .int i,.int j,G,Q=>Q (.bl (decide (i > j))) G
 | _,_,_,_=>False
noncomputable def rGe:HZ
 | .int i,.int j,G,Q=>Q (.bl (decide (i>=j))) G
 | _,_,_,_=>False
noncomputable def itemsOf:D->Gp->Option (List D)
 | .tup ds,_=>some ds
 | .fJ ds,_=>some ds
 | .ref a,G=>match G a with
  | some (.lst ds)=>some ds
  | _=>none
 | _,_=>none
noncomputable def uZ:D->Bool
 | .tup ds=>ds.all gY
 | _=>false
noncomputable def jD(bB:List (D×D))(k:D):Bool:=(gY k&&bB.all fun p=>gY p.1)||(uZ k&&bB.all fun p=>uZ p.1)
noncomputable def look(bB:List (D×D))(k:D):Option D:=(bB.find? fun p=>jw p.1 k).map (·.2)
noncomputable def put(bB:List (D×D))(k v:D):List (D×D) :=
 if (bB.any fun p=>jw p.1 k)=true then bB.map (fun p=>if jw p.1 k=true then (p.1,v) else p) else bB++[(k,v)]
noncomputable def Co(neg:Bool):HZ:=fun x y G Q=>match y with
 | .ref a=>(match G a with
  | some (.oq bB)=>jD bB x=true/\Q (.bl (if neg then !(look bB x).isSome else (look bB x).isSome)) G
  | some (.lst ds)=>∃ s ss,Sn G SN x s/\Sn G SN (.fJ ds) (.fJ ss)/\Q (.bl (if neg then !ss.any (jw · s) else ss.any (jw · s))) G
  | _=>False)
 | .yE bB=>bB≠[]/\jD bB x=true/\Q (.bl (if neg then !(look bB x).isSome else (look bB x).isSome)) G
 | .tup ds=>∃ s ss,Sn G SN x s/\Sn G SN (.fJ ds) (.fJ ss)/\Q (.bl (if neg then !ss.any (jw · s) else ss.any (jw · s))) G
 | .fJ ds=>∃ s ss,Sn G SN x s/\Sn G SN (.fJ ds) (.fJ ss)/\Q (.bl (if neg then !ss.any (jw · s) else ss.any (jw · s))) G
 | _=>False
noncomputable def eY:HZ
 | .tup ds,.int i,G,Q=>(match pQ ds i with
  | some d=>Q d G
  | none=>False)
 | .fJ ds,.int i,G,Q=>(match pQ ds i with
  | some d=>Q d G
  | none=>False)
 | .yE bB,k,G,Q=>jD bB k=true/\(match look bB k with
  | some d=>Q d G
  | none=>False)
 | .ref a,k,G,Q=>(match G a with
  | some (.lst ds)=>(match k with
   | .int i=>(match pQ ds i with
    | some d=>Q d G
    | none=>False)
   | _=>False)
  | some (.oq bB)=>jD bB k=true/\(match look bB k with
   | some d=>Q d G
   | none=>False)
  | _=>False)
 | _,_,_,_=>False
noncomputable abbrev Uw:=mW->iP->Gp->(Option Int->Gp->Prop)->Prop
noncomputable def eV:Uw:=fun _ _ G Q=>Q none G
noncomputable def mV(t:hW):Uw:=fun E τ G Q=>t E τ G fun x G1=>match x with
 | .int i=>Q (some i) G1
 | _=>False
noncomputable def N9:D->Option Int->Option Int->Gp->DK->Prop
 | .tup ds,lo,hi,G,Q=>¬ (kj ds.length 0 lo=0/\kj ds.length ds.length hi=ds.length)/\Q (.tup (cut ds lo hi)) G
 | .fJ ds,lo,hi,G,Q=>l0 G (.lst (cut ds lo hi)) Q
 | .ref a,lo,hi,G,Q=>(match G a with
  | some (.lst ds)=>l0 G (.lst (cut ds lo hi)) Q
  | _=>False)
 | _,_,_,_,_=>False
noncomputable def zC(a:hW)(lo hi:Uw):hW:=fun E τ G Q=>a E τ G fun x G1=>lo E τ G1 fun l G2=>hi E τ G2 fun h G3=>N9 x l h G3 Q
noncomputable def c8(a:hW):zE:=fun E τ G Q=>a E τ G fun x G1=>match LC x G1 with
 | some b=>Q b G1
 | none=>False
noncomputable def JQ(a b:zE):zE:=fun E τ G Q=>a E τ G fun c G1=>if c=true then b E τ G1 Q else Q false G1
noncomputable def uw(a b:zE):zE:=fun E τ G Q=>a E τ G fun c G1=>if c=true then Q true G1 else b E τ G1 Q
noncomputable def fH(a:zE):zE:=fun E τ G Q=>a E τ G fun c G1=>Q (!c) G1
noncomputable def BH(a b:hW):hW:=fun E τ G Q=>a E τ G fun x G1=>match LC x G1 with
 | some true=>b E τ G1 Q
 | some false=>Q x G1
 | none=>False
noncomputable def Ru(a b:hW):hW:=fun E τ G Q=>a E τ G fun x G1=>match LC x G1 with
 | some true=>Q x G1
 | some false=>b E τ G1 Q
 | none=>False
noncomputable def Pu(a:hW):hW:=fun E τ G Q=>a E τ G fun x G1=>match LC x G1 with
 | some c=>Q (.bl (!c)) G1
 | none=>False
noncomputable def Um(c:zE)(a b:hW):hW:=fun E τ G Q=>c E τ G fun k G1=>if k=true then a E τ G1 Q else b E τ G1 Q
noncomputable def a8(sp:jx)(t:DN):hW:=fun E τ G Q=>t E τ G fun ds G1=>sp ds G1 Q fun _ _=>False
noncomputable def ju(r:List D->Gp->DK->Prop)(t:DN):hW:=fun E τ G Q=>t E τ G fun ds G1=>r ds G1 Q
noncomputable def vL(x:D)(G:Gp):Prop:=match x with
 | .ref a=>(match G a with
  | some (.lst _)=>True
  | _=>False)
 | .fJ _=>True
 | _=>False
noncomputable def tyC(x:D)(G:Gp):Prop:=match x with
 | .yE _=>True
 | .ref a=>(match G a with
  | some (.oq _)=>True
  | _=>False)
 | _=>False
noncomputable def tyS(x:D)(_:Gp):Prop:=match x with
 | .str _=>True
 | _=>False
noncomputable def qU(ty:D->Gp->Prop)(r:D->List D->Gp->DK->Prop)(o:hW)(t:DN):hW:=fun E τ G Q=>o E τ G fun x G1=>ty x G1/\t E τ G1 fun ds G2=>r x ds G2 Q
noncomputable def lenOf:D->Gp->Option Nat
 | .tup ds,_=>some ds.length
 | .fJ ds,_=>some ds.length
 | .str x,_=>if x.length<=SZ then some x.length else none
 | .yE bB,_=>if (bB.all fun p=>gY p.1)=true then some bB.length else none
 | .ref a,G=>match G a with
  | some (.lst ds)=>some ds.length
  | some (.oq bB)=>if (bB.all fun p=>gY p.1)=true then some bB.length else none
  | _=>none
 | _,_=>none
noncomputable def i7(ds:List D)(G:Gp)(Q:DK):Prop:=match ds with
 | [x]=>(match lenOf x G with
  | some n=>Q (.int (n:Int)) G
  | none=>False)
 | _=>False
noncomputable def rD(ds:List D)(G:Gp)(Q:DK):Prop:=match ds with
 | [x]=>(match itemsOf x G with
  | some xs=>l0 G (.lst xs) Q
  | none=>False)
 | _=>False
noncomputable def RY(C:String):D->Gp->Option Bool
 | .eK,_=>some false
 | .bl _,_=>some (C == "bool" || C == "int")
 | .int _,_=>some (C == "int")
 | .str _,_=>some (C == "str")
 | .tup _,_=>some (C == "tuple")
 | .fJ _,_=>some (C == "list")
 | .yE _,_=>some (C == "dict")
 | .exc _,_=>none
 | .ref a,G=>match G a with
  | some (.lst _)=>some (C == "list")
  | some (.oq _)=>some (C == "dict")
  | _=>none
noncomputable def ux(C:String)(a:hW):hW:=fun E τ G Q=>a E τ G fun x G1=>match RY C x G1 with
 | some b=>Q (.bl b) G1
 | none=>False
noncomputable def ig(x:D)(ds:List D)(G:Gp)(Q:DK):Prop:=match x,ds with
 | .ref a,[d]=>(match G a with
  | some (.lst xs)=>xs.length < SZ/\Q .eK (cW G a (.lst (xs++[d])))
  | _=>False)
 | _,_=>False
noncomputable def zZ(x:D)(ds:List D)(G:Gp)(Q:DK):Prop:=match x,ds with
 | .ref a,[y]=>(match G a,uR y G with
  | some (.lst xs),some ys=>xs.length+ys.length<=SZ/\Q .eK (cW G a (.lst (xs++ys)))
  | _,_=>False)
 | _,_=>False
noncomputable def zY(x:D)(ds:List D)(G:Gp)(Q:DK):Prop:=match x,ds with
 | .ref a,[.int i,d]=>(match G a with
  | some (.lst xs)=>0<=i/\i<=xs.length/\xs.length < SZ/\Q .eK (cW G a (.lst (xs.take i.toNat++d :: xs.drop i.toNat)))
  | _=>False)
 | _,_=>False
noncomputable def sI(x:D)(ds:List D)(G:Gp)(Q:DK):Prop:=match ds with
 | [d]=>vL x G/\∃ xs s ss,itemsOf x G=some xs/\Sn G SN d s/\Sn G SN (.fJ xs) (.fJ ss)/\(match ss.findIdx? (jw · s) with
  | some k=>Q (.int (k:Int)) G
  | none=>False)
 | _=>False
noncomputable def GQ(x:D)(ds:List D)(G:Gp)(Q:DK):Prop:=match x,ds with
 | .ref a,[k,d]=>(match G a with
  | some (.oq bB)=>jD bB k=true/\gY k=true/\(match look bB k with
   | some v=>Q v G
   | none=>bB.length < SZ/\Q d (cW G a (.oq (put bB k d))))
  | _=>False)
 | _,_=>False
noncomputable def bz:g7:=fun _ K τ G=>K.nx τ G
noncomputable def bE(a b:g7):g7:=fun E K τ G=>a E { K with nx:=b E K } τ G
noncomputable def eG(a:hW):g7:=fun E K τ G=>a E τ G fun _ G1=>K.nx τ G1
noncomputable def bw(a:hW):g7:=fun E K τ G=>a E τ G K.rt
noncomputable def Lf:g7:=fun _ K _ G=>K.rt .eK G
noncomputable def cA(c:zE)(a b:g7):g7:=fun E K τ G=>c E τ G fun k G1=>if k=true then a E K τ G1 else b E K τ G1
noncomputable def qT:g7:=fun _ _ _ _=>False
noncomputable abbrev DM:=mW->D->iP->Gp->(iP->Gp->Prop)->Prop
noncomputable abbrev Fm:=mW->List D->iP->Gp->(iP->Gp->Prop)->Prop
noncomputable def aI(i:Nat):DM:=fun _ d τ G Q=>Q (τ.set i (some d)) G
noncomputable def Jy:Fm:=fun _ ds τ G Q=>match ds with
 | []=>Q τ G
 | _=>False
noncomputable def uS(t:DM)(r:Fm):Fm:=fun E ds τ G Q=>match ds with
 | d :: ds=>t E d τ G fun uF G1=>r E ds uF G1 Q
 | _=>False
noncomputable def MG(t:Fm):DM:=fun E d τ G Q=>match d with
 | .tup ds=>t E ds τ G Q
 | _=>False
noncomputable def Gq(o k d:D)(G:Gp)(Q:Gp->Prop):Prop:=match o with
 | .ref a=>(match G a with
  | some (.lst xs)=>(match k with
   | .int i=>(match Jp xs.length i with
    | some j=>Q (cW G a (.lst (xs.set j d)))
    | none=>False)
   | _=>False)
  | some (.oq bB)=>jD bB k=true/\bB.length < SZ/\Q (cW G a (.oq (put bB k d)))
  | _=>False)
 | _=>False
noncomputable def O6(o k:hW):DM:=fun E d τ G Q=>o E τ G fun x G1=>k E τ G1 fun y G2=>Gq x y d G2 fun G3=>Q τ G3
noncomputable def bH(a:hW)(g:DM):g7:=fun E K τ G=>a E τ G fun x G1=>g E x τ G1 K.nx
noncomputable abbrev PM:=mW->iP->Gp->(List D->(Gp->Prop)->Gp->Prop)->Prop
noncomputable def ky(a:hW):PM:=fun E τ G R=>a E τ G fun x G1=>match x with
 | .tup ds=>R ds (fun _=>True) G1
 | .fJ ds=>R ds (fun _=>True) G1
 | .ref p=>(match G1 p with
  | some (.lst ds)=>R ds (fun G2=>G2 p=some (.lst ds)) G1
  | _=>False)
 | _=>False
noncomputable def fj(lo:Int)(n:Nat):List D:=(e7 n).map fun (i:Nat)=>D.int (lo+(i:Int))
noncomputable def rk(a:hW):PM:=fun E τ G R=>a E τ G fun x G1=>match x with
 | .int n=>-(2 ^ 62)<=n/\n < 2 ^ 62/\R (fj 0 n.toNat) (fun _=>True) G1
 | _=>False
noncomputable def KQ(a b:hW):PM:=fun E τ G R=>a E τ G fun x G1=>b E τ G1 fun y G2=>match x,y with
 | .int i,.int j=>(-(2 ^ 62)<=i/\i < 2 ^ 62/\-(2 ^ 62)<=j/\j < 2 ^ 62)/\R (fj i (j - i).toNat) (fun _=>True) G2
 | _,_=>False
noncomputable def sP(g:DM)(body:g7)(ok:Gp->Prop):List D->g7
 | []=>fun _ K τ G=>ok G/\K.nx τ G
 | d :: r=>fun E K τ G=>ok G/\g E d τ G fun uF G1=>body E { K with nx:=sP g body ok r E K,ct:=sP g body ok r E K,bk:=K.nx } uF G1
noncomputable def eZ(i:PM)(g:DM)(body:g7):g7:=fun E K τ G=>i E τ G fun ds ok G1=>sP g body ok ds E K τ G1
noncomputable def FZ(c:zE)(body:g7):Nat->g7
 | 0=>fun _ _ _ _=>False
 | n+1=>fun E K τ G=>c E τ G fun k G1=>if k=true then body E { K with nx:=FZ c body n E K,ct:=FZ c body n E K,bk:=K.nx } τ G1 else K.nx τ G1
noncomputable def Pq(c:zE)(body:g7):g7:=fun E K τ G=>∃ n,FZ c body n E K τ G
noncomputable def kA(g:DM)(c:Option zE)(e:hW)(ok:Gp->Prop):List D->mW->iP->Gp->List D->(List D->Gp->Prop)->Prop
 | [],_,_,G,acc,Q=>ok G/\Q acc G
 | d :: r,E,τ,G,acc,Q=>ok G/\g E d τ G fun uF G1=>match c with
  | none=>e E uF G1 fun x G2=>kA g c e ok r E uF G2 (acc++[x]) Q
  | some c=>c E uF G1 fun k G2=>if k=true then e E uF G2 fun x G3=>kA g (some c) e ok r E uF G3 (acc++[x]) Q else kA g (some c) e ok r E uF G2 acc Q
noncomputable def vn(m:Nat)(fr:List Nat)(τ:iP):iP:=a0 m none++fr.map fun i=>(τ[i]?).getD none
noncomputable def hU(m:Nat)(fr:List Nat)(i:PM)(g:DM)(c:Option zE)(e:hW):hW:=fun E τ G Q =>
 i E τ G fun ds ok G1=>ds.length<=SZ/\kA g c e ok ds (fun _ _=>False) (vn m fr τ) G1 [] fun xs G2=>l0 G2 (.lst xs) Q
noncomputable abbrev tI(ns:List Int):D:=.tup (ns.map D.int)
noncomputable def Zc:List Int->Option Int
 | []=>none
 | a :: r=>some (r.foldl (fun m x=>if x < m then x else m) a)
noncomputable def Zb:List (List Int)->Option (List Int)
 | []=>none
 | a :: r=>some (r.foldl (fun m x=>if lexLt x m=true then x else m) a)
noncomputable def MP(ds:List D)(G:Gp)(Q:DK):Prop:=match ds with
 | [x]=>(∃ ns m,itemsOf x G=some (ns.map D.int)/\Zc ns=some m/\Q (.int m) G)\/∃ Xo m,itemsOf x G=some (Xo.map tI)/\Zb Xo=some m/\Q (tI m) G
 | _=>False
noncomputable def JP:hW:=fun _ _ G Q=>l0 G (.oq []) Q
noncomputable def fy(G G':Gp):Prop:=∀ a o,G a=some o->G' a=some o
theorem fy.refl(G:Gp):fy G G:=fun _ _ h=>h
theorem fy.trans{G G1 G2:Gp}(a:fy G G1)(b:fy G1 G2):fy G G2:=fun c o h=>b c o (a c o h)
theorem fy.new{G:Gp}{p:Nat}{o:GO}(h:G p=none):fy G (cW G p o):=fun a ob e=>by
 by_cases ha:a=p
 ·subst ha; rw [h] at e; cases e
 ·rw [eR ha]; exact e
theorem fy.free{G G':Gp}{p:Nat}(l:fy G G')(h:G' p=none):G p=none:=by
 cases q:G p with
 | none=>rfl
 | some o=>rw [l p o q] at h; cases h
theorem fy.put{G G':Gp}{p:Nat}{o:GO}(l:fy G G')(h:G p=none):fy G (cW G' p o):=fun a ob e=>by
 by_cases ha:a=p
 ·subst ha; rw [h] at e; cases e
 ·rw [eR ha]; exact l a ob e
noncomputable def ends(Q:DK):lM:=⟨fun _ G=>Q .eK G,Q,fun _ _=>False,fun _ _=>False⟩
noncomputable def aX(n:Nat)(ds:List D):iP:=ds.map some++a0 (n - ds.length) none
noncomputable def Qa(x:D)(G1:Gp)(R:List D->(Gp->Prop)->Gp->Prop):Prop:=match x with
 | .tup ds=>R ds (fun _=>True) G1
 | .fJ ds=>R ds (fun _=>True) G1
 | .ref p=>(match G1 p with
  | some (.lst ds)=>R ds (fun G2=>G2 p=some (.lst ds)) G1
  | _=>False)
 | _=>False
noncomputable def Ov(x:D)(G1:Gp)(Q:Option Int->Gp->Prop):Prop:=match x with
 | .int i=>Q (some i) G1
 | _=>False
noncomputable def uG(x:D)(G1:Gp)(Q:Bool->Gp->Prop):Prop:=match LC x G1 with
 | some b=>Q b G1
 | none=>False
noncomputable def RN(x:D)(G1:Gp)(R:List D->(Gp->Prop)->Gp->Prop):Prop:=match x with
 | .int n=>-(2 ^ 62)<=n/\n < 2 ^ 62/\R (fj 0 n.toNat) (fun _=>True) G1
 | _=>False
noncomputable def isAt(C:String)(x:D)(G1:Gp)(Q:DK):Prop:=match RY C x G1 with
 | some b=>Q (.bl b) G1
 | none=>False
theorem ic{i j:Int}{G:Gp}{Q:DK}:kJ (.int i) (.int j) G Q=Q (.int (i+j)) G:=rfl
theorem wH{a b:List D}{G:Gp}{Q:DK}:kJ (.tup a) (.tup b) G Q=(a≠[]/\a.length+b.length<=SZ/\Q (.tup (a++b)) G):=rfl
theorem pV{i j:Int}{G:Gp}{Q:DK}:QH (.int i) (.int j) G Q=Q (.int (i - j)) G:=rfl
theorem nR{i j:Int}{G:Gp}{Q:DK}:Oa (.int i) (.int j) G Q=(MulOk i j/\Q (.int (i * j)) G):=rfl
theorem fZ{i j:Int}{G:Gp}{Q:DK}:sr (.int i) (.int j) G Q=(0 < j/\Q (.int (i % j)) G):=rfl
theorem jN{i j:Int}{G:Gp}{Q:DK}:AX (.int i) (.int j) G Q=(0 < j/\j < 2 ^ 30/\Q (.int (i / j)) G):=rfl
theorem i9{i:Int}{G:Gp}{Q:DK}:Cm (.int i) G Q=Q (.int (-i)) G:=rfl
theorem wF{i j:Int}{G:Gp}{Q:DK}:Xj (.int i) (.int j) G Q=Q (.bl (decide (i < j))) G:=rfl
theorem zT{i j:Int}{G:Gp}{Q:DK}:rLe (.int i) (.int j) G Q=Q (.bl (decide (i<=j))) G:=rfl
theorem wG{i j:Int}{G:Gp}{Q:DK}:YC (.int i) (.int j) G Q=Q (.bl (decide (i > j))) G:=rfl
theorem zW{i j:Int}{G:Gp}{Q:DK}:rGe (.int i) (.int j) G Q=Q (.bl (decide (i>=j))) G:=rfl
theorem QJ{ds:List D}{i:Int}{d:D}{G:Gp}{Q:DK}(h:pQ ds i=some d):eY (.fJ ds) (.int i) G Q=Q d G:=by unfold eY; simp only [h]
theorem QL{a:Nat}{ds:List D}{i:Int}{d:D}{G:Gp}{Q:DK}(h1:G a=some (.lst ds))(h:pQ ds i=some d):eY (.ref a) (.int i) G Q=Q d G:=by unfold eY; simp only [h1,h]
theorem tU{ds:List D}{lo hi:Option Int}{G:Gp}{Q:DK}:N9 (.tup ds) lo hi G Q=(¬ (kj ds.length 0 lo=0/\kj ds.length ds.length hi=ds.length)/\Q (.tup (cut ds lo hi)) G):=rfl
theorem zS{ds:List D}{lo hi:Option Int}{G:Gp}{Q:DK}:N9 (.fJ ds) lo hi G Q=l0 G (.lst (cut ds lo hi)) Q:=rfl
theorem QI{a:Nat}{ds:List D}{lo hi:Option Int}{G:Gp}{Q:DK}(h:G a=some (.lst ds)):N9 (.ref a) lo hi G Q=l0 G (.lst (cut ds lo hi)) Q:=by unfold N9; simp only [h]
theorem tx{ds:List D}{G:Gp}{Q:DK}:i7 [.fJ ds] G Q=Q (.int (ds.length:Int)) G:=rfl
theorem lz{ds:List D}{G:Gp}{Q:DK}:i7 [.tup ds] G Q=Q (.int (ds.length:Int)) G:=rfl
theorem PB{a:Nat}{ds:List D}{G:Gp}{Q:DK}(h:G a=some (.lst ds)):i7 [.ref a] G Q=Q (.int (ds.length:Int)) G:=by unfold i7 lenOf; simp only [h]
theorem dw{a:hW}{E:mW}{τ:iP}{G:Gp}{R:List D->(Gp->Prop)->Gp->Prop}:ky a E τ G R=a E τ G fun x G1=>Qa x G1 R:=by
 unfold ky Qa; rfl
theorem Aa{ds:List D}{G:Gp}{R:List D->(Gp->Prop)->Gp->Prop}:Qa (.fJ ds) G R=R ds (fun _=>True) G:=rfl
theorem wR{ds:List D}{G:Gp}{R:List D->(Gp->Prop)->Gp->Prop}:Qa (.tup ds) G R=R ds (fun _=>True) G:=rfl
theorem oO{a:Nat}{ds:List D}{G:Gp}{R:List D->(Gp->Prop)->Gp->Prop}(h:G a=some (.lst ds)):Qa (.ref a) G R=R ds (fun G2=>G2 a=some (.lst ds)) G:=by unfold Qa; simp only [h]
theorem jc{t:hW}{E:mW}{τ:iP}{G:Gp}{Q:Option Int->Gp->Prop}:mV t E τ G Q=t E τ G fun x G1=>Ov x G1 Q:=rfl
theorem gW{i:Int}{G:Gp}{Q:Option Int->Gp->Prop}:Ov (.int i) G Q=Q (some i) G:=rfl
theorem bI{a:hW}{E:mW}{τ:iP}{G:Gp}{Q:Bool->Gp->Prop}:c8 a E τ G Q=a E τ G fun x G1=>uG x G1 Q:=rfl
theorem aN{b:Bool}{G:Gp}{Q:Bool->Gp->Prop}:uG (.bl b) G Q=Q b G:=rfl
theorem C4{a:Nat}{ds:List D}{G:Gp}{Q:Bool->Gp->Prop}(h:G a=some (.lst ds)):uG (.ref a) G Q=Q (!ds.isEmpty) G:=by unfold uG LC; simp only [h]
theorem ik{a:hW}{E:mW}{τ:iP}{G:Gp}{R:List D->(Gp->Prop)->Gp->Prop}:rk a E τ G R=a E τ G fun x G1=>RN x G1 R:=rfl
theorem gj{n:Int}{G:Gp}{R:List D->(Gp->Prop)->Gp->Prop}:RN (.int n) G R=(-(2 ^ 62)<=n/\n < 2 ^ 62/\R (fj 0 n.toNat) (fun _=>True) G):=rfl
theorem lu{C:String}{a:hW}{E:mW}{τ:iP}{G:Gp}{Q:DK}:ux C a E τ G Q=a E τ G fun x G1=>isAt C x G1 Q:=rfl
theorem qg {C:String} {i:Int} {G:Gp} {Q:DK}:isAt C (.int i) G Q=Q (.bl (C == "int")) G:=rfl
theorem my {C:String} {ds:List D} {G:Gp} {Q:DK}:isAt C (.tup ds) G Q=Q (.bl (C == "tuple")) G:=rfl
theorem OQ {C:String} {a:Nat} {ds:List D} {G:Gp} {Q:DK} (h:G a=some (.lst ds)):isAt C (.ref a) G Q=Q (.bl (C == "list")) G:=by unfold isAt RY; simp only [h]
theorem mG{a b:hW}{E:mW}{τ:iP}{G:Gp}{Q:DK}:BH a b E τ G Q=a E τ G fun x G1=>uG x G1 fun k G2=>if k=true then b E τ G2 Q else Q x G2:=by
 unfold BH uG;refine congrArg (a E τ G) ?_;funext x G1;cases LC x G1 with
 | none=>rfl
 | some k=>cases k <;> simp
theorem w6{a b:hW}{E:mW}{τ:iP}{G:Gp}{Q:DK}:Ru a b E τ G Q=a E τ G fun x G1=>uG x G1 fun k G2=>if k=true then Q x G2 else b E τ G2 Q:=by
 unfold Ru uG;refine congrArg (a E τ G) ?_;funext x G1;cases LC x G1 with
 | none=>rfl
 | some k=>cases k <;> simp
theorem tj{a:hW}{E:mW}{τ:iP}{G:Gp}{Q:DK}:Pu a E τ G Q=a E τ G fun x G1=>uG x G1 fun k G2=>Q (.bl (!k)) G2:=rfl
theorem mj{a:Nat}{y:D}{G:Gp}{Q:DK}:kJ (.ref a) y G Q=BO (.ref a) y G Q:=by cases y <;> rfl
theorem pX{a:List D}{y:D}{G:Gp}{Q:DK}:kJ (.fJ a) y G Q=BO (.fJ a) y G Q:=by cases y <;> rfl
theorem wD{a:Nat}{lo hi:Option Int}{G:Gp}{Q:DK}:N9 (.ref a) lo hi G Q=(match G a with
  | some (.lst ds)=>l0 G (.lst (cut ds lo hi)) Q
  | _=>False):=rfl
theorem QK{a:Nat}{k:D}{G:Gp}{Q:DK}:eY (.ref a) k G Q=(match G a with
  | some (.lst ds)=>(match k with
   | .int i=>(match pQ ds i with
    | some d=>Q d G
    | none=>False)
   | _=>False)
  | some (.oq bB)=>jD bB k=true/\(match look bB k with
   | some d=>Q d G
   | none=>False)
  | _=>False):=by unfold eY; cases k <;> rfl
theorem cM{ds:List D}{i:Int}{G:Gp}{Q:DK}:eY (.tup ds) (.int i) G Q=(match pQ ds i with
  | some d=>Q d G
  | none=>False):=rfl
theorem pW{ds:List D}{i:Int}{G:Gp}{Q:DK}:eY (.fJ ds) (.int i) G Q=(match pQ ds i with
  | some d=>Q d G
  | none=>False):=rfl
theorem ug{a:Nat}{G:Gp}{Q:DK}:rD [.ref a] G Q=(match G a with
  | some (.lst ds)=>l0 G (.lst ds) Q
  | _=>False):=by
 unfold rD itemsOf;cases h:G a with
 | none=>simp only [h]
 | some g=>cases g <;> simp only [h]
theorem e9{a:Nat}{d:D}{G:Gp}{Q:DK}:ig (.ref a) [d] G Q=(match G a with
  | some (.lst xs)=>xs.length < SZ/\Q .eK (cW G a (.lst (xs++[d])))
  | _=>False):=rfl
theorem mr{a:Nat}{y:D}{G:Gp}{Q:DK}:zZ (.ref a) [y] G Q=(match G a,uR y G with
  | some (.lst xs),some ys=>xs.length+ys.length<=SZ/\Q .eK (cW G a (.lst (xs++ys)))
  | _,_=>False):=rfl
theorem mq{a:Nat}{i:Int}{d:D}{G:Gp}{Q:DK}:zY (.ref a) [.int i,d] G Q=(match G a with
  | some (.lst xs)=>0<=i/\i<=xs.length/\xs.length < SZ/\Q .eK (cW G a (.lst (xs.take i.toNat++d :: xs.drop i.toNat)))
  | _=>False):=rfl
theorem km{a:Nat}{k d:D}{G:Gp}{Q:DK}:GQ (.ref a) [k,d] G Q=(match G a with
  | some (.oq bB)=>jD bB k=true/\gY k=true/\(match look bB k with
   | some v=>Q v G
   | none=>bB.length < SZ/\Q d (cW G a (.oq (put bB k d))))
  | _=>False):=rfl
theorem z9 {C:String} {b:Bool} {G:Gp} {Q:DK}:isAt C (.bl b) G Q=Q (.bl (C == "bool" || C == "int")) G:=rfl
theorem iY{a:Nat}{G:Gp}:vL (.ref a) G=(match G a with
  | some (.lst _)=>True
  | _=>False):=rfl
theorem zQ{a:Nat}{G:Gp}:tyC (.ref a) G=(match G a with
  | some (.oq _)=>True
  | _=>False):=rfl
theorem zP{ds:List D}{G:Gp}:vL (.fJ ds) G=True:=rfl
theorem Eg{bB:List (D×D)}{k:D}{G:Gp}{Q:DK}:eY (.yE bB) k G Q=(jD bB k=true/\(match look bB k with
  | some d=>Q d G
  | none=>False)):=by unfold eY; cases k <;> rfl
theorem zO{x:Str}{G:Gp}:tyS (.str x) G=True:=rfl
end K2
end
section
namespace K2
open PySem (Str)
noncomputable def CI(R:Nat->Bool)(G:Gp):Gp:=fun a=>if R a=true then none else G a
mutual
inductive Fz (G:Gp) (R:Nat->Bool):D->D->Prop
 | same (d:D):Fz G R d d
 | tup {ds ss:List D}:Fx G R ds ss->Fz G R (.tup ds) (.tup ss)
 | fJ {ds ss:List D}:Fx G R ds ss->Fz G R (.fJ ds) (.fJ ss)
 | ref {a:Nat} {ds ss:List D}:G a=some (.lst ds)->R a=true->Fx G R ds ss->Fz G R (.ref a) (.fJ ss)
 | oq {a:Nat} {bB kvt:List (D×D)}:G a=some (.oq bB)->R a=true->JZ G R bB kvt->Fz G R (.ref a) (.yE kvt)
inductive Fx (G:Gp) (R:Nat->Bool):List D->List D->Prop
 | nil:Fx G R [] []
 | cons {d s:D} {ds ss:List D}:Fz G R d s->Fx G R ds ss->Fx G R (d :: ds) (s :: ss)
inductive JZ (G:Gp) (R:Nat->Bool):List (D×D)->List (D×D)->Prop
 | nil:JZ G R [] []
 | cons {k d s:D} {ds ss:List (D×D)}:Fz G R d s->JZ G R ds ss->JZ G R ((k,d) :: ds) ((k,s) :: ss)
end
theorem JZ.same{G:Gp}{R:Nat->Bool}:∀ (bB:List (D×D)),JZ G R bB bB
 | []=>.nil
 | (k,v) :: r=>.cons (.same v) (JZ.same r)
noncomputable def PT(G:Gp)(x:D)(Q:DK):Prop:=∃ (R:Nat->Bool) (t:D),Fz G R x t/\Q t (CI R G)
noncomputable def c7(e:hW):hW:=fun E τ G Q=>e E τ G fun x G1=>PT G1 x Q
noncomputable def Pw(i:Nat)(t:g7):g7:=fun E K τ G=>t E { K with nx:=fun uF G1=>match uF[i]? with
 | some (some d)=>PT G1 d fun t G2=>K.nx (uF.set i (some t)) G2
 | _=>False } τ G
theorem Fx.same{G:Gp}{R:Nat->Bool}:∀ (ds:List D),Fx G R ds ds
 | []=>.nil
 | d :: ds=>.cons (.same d) (Fx.same ds)
theorem BC{G G1:Gp}(l:fy G G1):CI (fun a=>(G a).isNone) G1=G:=by
 funext a;unfold CI;cases h:G a with
 | none=>simp [h]
 | some o=>simp [l a o h,h]
theorem ML{G G1:Gp}{p:Nat}{o:GO}(l:fy G G1)(hp:G p=none)(h1:G1 p=some o):CI (fun a=>(G a).isNone&&decide (a≠p)) G1=cW G p o:=by
 funext a;unfold CI cW;by_cases ha:a=p
 ·subst ha; simp [h1]
 ·cases h:G a with
  | none=>simp [ha,h]
  | some o=>simp [l a o h,ha,h]
theorem fD{G:Gp}{d:D}{Q:DK}(q:Q d G):PT G d Q:=⟨fun _=>false,d,.same d,by
 have e:CI (fun _=>false) G=G:=by funext a; simp [CI]
 rw [e]; exact q⟩
theorem t9{G G1:Gp}{d:D}{Q:DK}(l:fy G G1)(q:Q d G):PT G1 d Q:=⟨_,d,.same d,by rw [BC l]; exact q⟩
theorem JA{G G1:Gp}{p:Nat}{o:GO}{Q:DK}(l:fy G G1)(hp:G p=none)(h1:G1 p=some o)(q:Q (.ref p) (cW G p o)):PT G1 (.ref p) Q :=
 ⟨_,.ref p,.same _,by rw [ML l hp h1]; exact q⟩
theorem Jz{G G1:Gp}{p:Nat}{ds ss:List D}{Q:DK}(l:fy G G1)(hp:G p=none)(h1:G1 p=some (.lst ds))(hs:Fx G1 (fun a=>(G a).isNone) ds ss)(q:Q (.fJ ss) G):PT G1 (.ref p) Q :=
 ⟨_,.fJ ss,.ref h1 (by simp [hp]) hs,by rw [BC l]; exact q⟩
theorem T8{G G1:Gp}{p:Nat}{bB:List (D×D)}{Q:DK}(l:fy G G1)(hp:G p=none)(h1:G1 p=some (.oq bB))(q:Q (.yE bB) G):PT G1 (.ref p) Q :=
 ⟨fun a=>(G a).isNone,.yE bB,.oq h1 (by simp [hp]) (.same _),by rw [BC l]; exact q⟩
noncomputable def C7:jx:=fun ds G Q _=>∃ ns:List Int,ds=[.fJ (ns.map D.int)]/\ns.length<=63/\(∀ a,G a=none)/\∀ G',Q (.bl true) G'
theorem bL{a b:g7}{E:mW}{K:lM}{τ:iP}{G:Gp}(P:iP->Gp->Prop)(h1:∀ N,(∀ τ G,P τ G->N τ G)->a E { K with nx:=N } τ G)(h2:∀ τ G,P τ G->b E K τ G):bE a b E K τ G:=h1 (b E K) h2
theorem fK{a b:g7}{E:mW}{K:lM}{τ:iP}{G:Gp}:bE a b E K τ G=a E { K with nx:=b E K } τ G:=rfl
theorem fI{a:hW}{g:DM}{b:g7}{E:mW}{K:lM}{τ:iP}{G:Gp}:bE (bH a g) b E K τ G=bH a g E { K with nx:=b E K } τ G:=rfl
theorem mi{a:hW}{b:g7}{E:mW}{K:lM}{τ:iP}{G:Gp}:bE (eG a) b E K τ G=eG a E { K with nx:=b E K } τ G:=rfl
theorem pz{g:DM}{body:g7}{ok:Gp->Prop}{ds:List D}{E:mW}{K:lM}{τ:iP}{G:Gp}(I:List D->iP->Gp->Prop)
  (h0:I [] τ G) (fB:∀ pre τ G,I pre τ G->ok G)
  (step:∀ (pre:List D) (d:D) (post:List D) τ G (N:iP->Gp->Prop),ds=pre++d :: post->I pre τ G->(∀ C1 G2,I (pre++[d]) C1 G2->N C1 G2) ->
   g E d τ G fun uF G1=>body E { K with nx:=N,ct:=N,bk:=K.nx } uF G1)
  (fin:∀ τ G,I ds τ G->K.nx τ G):sP g body ok ds E K τ G:=by
 have main:∀ (post pre:List D) τ G,ds=pre++post->I pre τ G->sP g body ok post E K τ G:=by
  intro post;induction post with
  | nil =>
   intro pre τ G e h;rw [dc] at e;subst e;exact⟨fB _ _ _ h,fin _ _ h⟩
  | cons d post ih =>
   intro pre τ G e h;refine⟨fB _ _ _ h,?_⟩;exact step pre d post τ G _ e h fun C1 G2 h2=>ih (pre++[d]) C1 G2 (by rw [e,bW]; rfl) h2
 exact main ds [] τ G rfl h0
theorem Sn.tI{G:Gp}{n:Nat}:∀ (ns:List Int),Sn G (n+1) (.tup (ns.map D.int)) (.tup (ns.map D.int))
 | []=>.Gf
 | i :: ns=>.qZ (.int i) (Sn.tI ns)
theorem qQ(a b:D)(r t:List D):ll (a :: r) (b :: t)=(jw a b&&ll r t):=rfl
theorem sU(a b:Int):jw (.int a) (.int b)=(a == b):=rfl
theorem JL(a b:List D):jw (.tup a) (.tup b)=ll a b:=rfl
theorem BD{α:Type} [DecidableEq α](a b:α)(as bs:List α):(decide (a=b)&&decide (as=bs))=decide (a :: as=b :: bs):=by
 by_cases h:a=b <;> by_cases h2:as=bs <;> simp [h,h2]
theorem Dw:∀ (a b:List Int),ll (a.map D.int) (b.map D.int)=decide (a=b)
 | [],[]=>(decide_eq_true rfl).symm
 | [],b :: bs=>(decide_eq_false (fun z=>nomatch z)).symm
 | a :: as,[]=>(decide_eq_false (fun z=>nomatch z)).symm
 | a :: as,b :: bs=>by
  show (decide (a=b)&&ll (as.map D.int) (bs.map D.int))=_;rw [Dw as bs,BD]
theorem Ui(a b:List Int):jw (tI a) (tI b)=decide (a=b):=by
 show ll _ _=_;exact Dw a b
end K2
end
section
namespace K2
open PySem (Str)
set_option genInjectivity true in structure T2 where
 a:Int
 b:Int
 deriving DecidableEq
set_option genInjectivity true in structure T3 where
 a:Int
 b:Int
 c:Int
 deriving DecidableEq
class Enc (α:Type) [DecidableEq α] where
 enc:α->D
 dep:Nat
 eqv:∀ a b,jw (enc a) (enc b)=decide (a=b)
 sn:∀ (G:Gp) (n:Nat) (a:α),dep<=n->Sn G n (enc a) (enc a)
open Enc (enc)
noncomputable instance:Enc Int where
 enc:=D.int
 dep:=0
 eqv:=fun a b=>rfl
 sn:=fun G n a _=>.int a
noncomputable instance:Enc Bool where
 enc:=D.bl
 dep:=0
 eqv:=fun a b=>P0 a b
 sn:=fun G n a _=>.bl a
noncomputable instance:Enc T2 where
 enc:=fun t=>.tup [.int t.a,.int t.b]
 dep:=1
 eqv:=fun x y=>by
  cases x; cases y;rw [JL,qQ,qQ,sU,sU]; simp only [T2.mk.injEq]; rename_i a b c d; by_cases h:a=c <;> by_cases h2:b=d <;> simp [h,h2,show ll [] []=true from rfl]
 sn:=fun G n t h=>by
  obtain⟨m,rfl⟩:∃ m,n=m+1:=⟨n - 1,by lia⟩;exact .qZ (.int _) (.qZ (.int _) .Gf)
noncomputable instance:Enc T3 where
 enc:=fun t=>.tup [.int t.a,.int t.b,.int t.c]
 dep:=1
 eqv:=fun x y=>by
  cases x; cases y;rw [JL,qQ,qQ,qQ,sU,sU,sU]; simp only [T3.mk.injEq]; rename_i a b e c d f; by_cases h:a=c <;> by_cases h2:b=d <;> by_cases h3:e=f <;> simp [h,h2,h3,show ll [] []=true from rfl]
 sn:=fun G n t h=>by
  obtain⟨m,rfl⟩:∃ m,n=m+1:=⟨n - 1,by lia⟩;exact .qZ (.int _) (.qZ (.int _) (.qZ (.int _) .Gf))
noncomputable instance {α β:Type} [DecidableEq α] [DecidableEq β] [Enc α] [Enc β]:Enc (α×β) where
 enc:=fun t=>.tup [enc t.1,enc t.2]
 dep:=max (Enc.dep α) (Enc.dep β)+1
 eqv:=fun x y=>by
  cases x; cases y;rw [JL,qQ,qQ,Enc.eqv,Enc.eqv]; simp only [ID]; rename_i a b c d; by_cases h:a=c <;> by_cases h2:b=d <;> simp [h,h2,show ll [] []=true from rfl]
 sn:=fun G n t h=>by
  obtain⟨m,rfl⟩:∃ m,n=m+1:=⟨n - 1,by lia⟩;exact .qZ (Enc.sn _ _ _ (by lia)) (.qZ (Enc.sn _ _ _ (by lia)) .Gf)
theorem HD{α:Type} [DecidableEq α] [Enc α]:∀ (a b:List α),ll (a.map enc) (b.map enc)=decide (a=b)
 | [],[]=>(decide_eq_true rfl).symm
 | [],b :: bs=>(decide_eq_false (fun z=>nomatch z)).symm
 | a :: as,[]=>(decide_eq_false (fun z=>nomatch z)).symm
 | a :: as,b :: bs=>by
  show (jw (enc a) (enc b)&&ll (as.map enc) (bs.map enc))=_;rw [Enc.eqv,HD as bs,BD]
theorem qE{α:Type} [DecidableEq α] [Enc α](G:Gp)(n:Nat)(h:Enc.dep α<=n):∀ (xs:List α),Sn G (n+1) (.fJ (xs.map enc)) (.fJ (xs.map enc))
 | []=>.N0
 | a :: as=>.Gz (Enc.sn _ _ _ h) (qE G n h as)
noncomputable instance {α:Type} [DecidableEq α] [Enc α]:Enc (List α) where
 enc:=fun xs=>.fJ (xs.map enc)
 dep:=Enc.dep α+1
 eqv:=fun a b=>by
  show ll _ _=_;exact HD a b
 sn:=fun G n t h=>by
  obtain⟨m,rfl⟩:∃ m,n=m+1:=⟨n - 1,by lia⟩;exact qE G m (by lia) t
section
variable {α:Type} [DecidableEq α] [Enc α]
theorem Fj(L:List α)(t:α):(L.map enc).any (jw · (enc t))=decide (t∈L):=by
 induction L with
 | nil=>simp
 | cons a r ih =>
  simp only [aq,pN,Enc.eqv,ih,dD];by_cases h:a=t
  ·simp [h]
  ·have h':¬ t=a:=fun z=>h z.symm;by_cases h2:t∈r <;> simp [h,h',h2]
theorem Hs(L:List α){m:α}(h:m∈L):(L.map enc).findIdx? (jw · (enc m))=some (L.idxOf m):=by
 induction L with
 | nil=>cases h
 | cons a r ih =>
  rw [aq,List.findIdx?_cons,Enc.eqv,List.idxOf_cons];by_cases e:a=m
  ·simp [e]
  ·have hm:m∈r:=by rcases List.mem_cons.mp h with z | z; exact absurd z.symm e; exact z
   rw [ih hm];have z:(a == m)=false:=by simpa using e
   simp [e,z]
end
section
variable {κ α:Type} [DecidableEq κ] [Enc κ] [DecidableEq α] [Enc α]
noncomputable def ke(l:List (κ×α)):List (D×D):=l.map fun p=>(enc p.1,enc p.2)
noncomputable def lI(l:List (κ×α))(k:κ):Option α:=(l.find? fun p=>p.1=k).map (·.2)
noncomputable def yn(l:List (κ×α))(k:κ)(v:α):List (κ×α):=if (l.any fun p=>p.1=k)=true then l.map (fun p=>if p.1=k then (p.1,v) else p) else l++[(k,v)]
theorem OH(l:List (κ×α))(k:κ):look (ke l) (enc k)=(lI l k).map enc:=by
 unfold look lI ke;induction l with
 | nil=>rfl
 | cons p r ih =>
  rw [aq,gE,gE];simp only [Enc.eqv];by_cases h:p.1=k
  ·simp [h]
  ·simp only [h,decide_false]; exact ih
theorem QO(l:List (κ×α))(k:κ)(v:α):put (ke l) (enc k) (enc v)=ke (yn l k v):=by
 unfold put yn;have e:((ke l).any fun p=>jw p.1 (enc k))=l.any fun p=>decide (p.1=k):=by
  unfold ke; rw [List.any_map]; congr 1; funext p; exact Enc.eqv _ _
 rw [e];split
 ·unfold ke; rw [jt,jt];refine lL fun p _=>?_;simp only [Function.comp,Enc.eqv,decide_eq_true_eq];split <;> rfl
 ·unfold ke; rw [aJ]; rfl
theorem PK(l:List (κ×α))(k:κ)(v:α):(yn l k v).length<=l.length+1:=by
 unfold yn; split <;> simp
end
class tJ (κ:Type) [DecidableEq κ] [Enc κ] where
 ok:(∀ k:κ,gY (enc k)=true)\/∀ k:κ,uZ (enc k)=true
noncomputable instance:tJ Int:=⟨.inl fun _=>rfl⟩
noncomputable instance:tJ T2:=⟨.inr fun _=>rfl⟩
noncomputable instance:tJ T3:=⟨.inr fun _=>rfl⟩
theorem Bh{κ α:Type} [DecidableEq κ] [Enc κ] [tJ κ] [DecidableEq α] [Enc α](l:List (κ×α))(k:κ):jD (ke l) (enc k)=true:=by
 unfold jD ke;rcases tJ.ok (κ:=κ) with h | h
 ·rw [mO]; left;rw [h k,pO,PY,FG];intro p _; exact h p.1
 ·rw [mO]; right;rw [h k,pO,PY,FG];intro p _; exact h p.1
end K2
end
section
namespace K2
open PySem (Str)
open Enc (enc)
mutual
noncomputable def qx:D->D->Bool
 | .int a,.int b=>decide (a < b)
 | .tup a,.tup b=>oA a b
 | .fJ a,.fJ b=>oA a b
 | _,_=>false
noncomputable def oA:List D->List D->Bool
 | [],[]=>false
 | [],_ :: _=>true
 | _ :: _,[]=>false
 | x :: xs,y :: ys=>if jw x y=true then oA xs ys else qx x y
end
theorem qM(x y:D)(xs ys:List D):oA (x :: xs) (y :: ys)=if jw x y=true then oA xs ys else qx x y:=rfl
theorem OG(a b:Int):qx (.int a) (.int b)=decide (a < b):=rfl
inductive oX where
 | int | tup (l:List oX) | lst (s:oX)
mutual
noncomputable def du:oX->D->Bool
 | .int,.int _=>true
 | .tup l,.tup ds=>gk l ds
 | .lst s,.fJ ds=>iL s ds
 | _,_=>false
noncomputable def gk:List oX->List D->Bool
 | [],[]=>true
 | s :: l,d :: ds=>du s d&&gk l ds
 | _,_=>false
noncomputable def iL:oX->List D->Bool
 | _,[]=>true
 | s,d :: ds=>du s d&&iL s ds
end
theorem dP{a:D}(h:du .int a=true):∃ i,a=.int i:=by cases a <;> first | exact⟨_,rfl⟩ | exact cU (show false=true from h)
theorem dN{l:List oX}{a:D}(h:du (.tup l) a=true):∃ x,a=.tup x:=by cases a <;> first | exact⟨_,rfl⟩ | exact cU (show false=true from h)
theorem dO{l:oX}{a:D}(h:du (.lst l) a=true):∃ x,a=.fJ x:=by cases a <;> first | exact⟨_,rfl⟩ | exact cU (show false=true from h)
mutual
noncomputable def Sa:oX->Nat
 | .int=>0
 | .tup l=>Ph l+1
 | .lst s=>Sa s+1
noncomputable def Ph:List oX->Nat
 | []=>0
 | s :: l=>max (Sa s) (Ph l)
end
noncomputable def Td(sh:oX):Bool:=decide (Sa sh<=7)&&(match sh with
 | .tup []=>false
 | _=>true)
noncomputable def P8(a b:D):Bool:=!qx b a
noncomputable def r0(ds:List D):List D:=ds.mergeSort P8
noncomputable def uf(ds:List D)(G:Gp)(Q:DK):Prop:=match ds with
 | [x]=>∃ (sh:oX) (xs:List D),vL x G/\itemsOf x G=some xs/\xs.all (du sh)=true/\Td sh=true/\xs.length < 64/\l0 G (.lst (r0 xs)) Q
 | _=>False
class cm (α:Type) [DecidableEq α] [Enc α] where
 lt:α->α->Bool
 Gm:oX
 MD:∀ a:α,du Gm (enc a)=true
 UM:∀ a b:α,qx (enc a) (enc b)=lt a b
 P9:∀ a,lt a a=false
 trans:∀ a b c,lt a b=true->lt b c=true->lt a c=true
 Qv:∀ a b,lt a b=false->lt b a=false->a=b
noncomputable instance:cm Int where
 lt:=fun a b=>decide (a < b)
 Gm:=.int
 MD:=fun _=>rfl
 UM:=fun a b=>rfl
 P9:=fun a=>by simp
 trans:=fun a b c h1 h2=>by simp at *; lia
 Qv:=fun a b h1 h2=>by simp at *; lia
noncomputable def wN{α:Type} [DecidableEq α](lt:α->α->Bool):List α->List α->Bool
 | [],[]=>false
 | [],_ :: _=>true
 | _ :: _,[]=>false
 | x :: xs,y :: ys=>if x=y then wN lt xs ys else lt x y
theorem Ba{α:Type} [DecidableEq α](lt:α->α->Bool)(x y:α)(xs ys:List α):wN lt (x :: xs) (y :: ys)=if x=y then wN lt xs ys else lt x y:=rfl
section
variable {α:Type} [DecidableEq α] {lt:α->α->Bool}
theorem wM:∀ x:List α,wN lt x x=false
 | []=>rfl
 | a :: x=>by simp only [Ba,if_true]; exact wM x
theorem wL(t:∀ a b,lt a b=false->lt b a=false->a=b):∀ (x y:List α),wN lt x y=false->wN lt y x=false->x=y
 | [],[],_,_=>rfl
 | [],_ :: _,h,_=>by cases h
 | _ :: _,[],_,h=>by cases h
 | a :: x,b :: y,h1,h2=>by
  simp only [Ba] at h1 h2;by_cases e:a=b
  ·subst e;simp only [if_true] at h1 h2;rw [wL t x y h1 h2]
  ·rw [if_neg e] at h1;rw [if_neg (gv e)] at h2;exact absurd (t a b h1 h2) e
theorem qN(ir:∀ a,lt a a=false)(tr:∀ a b c,lt a b=true->lt b c=true->lt a c=true):∀ (x y z:List α),wN lt x y=true->wN lt y z=true->wN lt x z=true
 | [],[],_,h,_=>by cases h
 | [],_ :: _,[],_,h=>by cases h
 | [],_ :: _,_ :: _,_,_=>rfl
 | _ :: _,[],_,h,_=>by cases h
 | _ :: _,_ :: _,[],_,h=>by cases h
 | a :: x,b :: y,c :: z,h1,h2=>by
  simp only [Ba] at h1 h2 ⊢;by_cases e1:a=b
  ·subst e1;simp only [if_true] at h1;by_cases e2:a=c
   ·subst e2;simp only [if_true] at h2 ⊢;exact qN ir tr x y z h1 h2
   ·rw [if_neg e2] at h2 ⊢; exact h2
  ·rw [if_neg e1] at h1;by_cases e2:b=c
   ·subst e2;rw [if_neg e1]; exact h1
   ·rw [if_neg e2] at h2;have h3:=tr _ _ _ h1 h2;rw [if_neg (by rintro rfl; rw [ir] at h3; cases h3)]; exact h3
end
theorem wK{α:Type} [DecidableEq α] [Enc α] [cm α]:∀ (x y:List α),oA (x.map enc) (y.map enc)=wN (cm.lt (α:=α)) x y
 | [],[]=>rfl
 | [],_ :: _=>rfl
 | _ :: _,[]=>rfl
 | a :: x,b :: y=>by simp only [aq,qM,Ba,Enc.eqv,wK x y,cm.UM,decide_eq_true_eq]
theorem Dq{α:Type} [DecidableEq α] [Enc α] [cm α]:∀ (x:List α),iL (cm.Gm α) (x.map enc)=true
 | []=>rfl
 | a :: x=>by simp only [aq,iL,cm.MD,Dq x,Bool.and_self]
noncomputable instance {α:Type} [DecidableEq α] [Enc α] [cm α]:cm (List α) where
 lt:=wN cm.lt
 Gm:=.lst (cm.Gm α)
 MD:=fun a=>Dq a
 UM:=fun a b=>wK a b
 P9:=wM
 trans:=qN cm.P9 cm.trans
 Qv:=wL cm.Qv
noncomputable def T2.l(t:T2):List Int:=[t.a,t.b]
noncomputable def T3.l(t:T3):List Int:=[t.a,t.b,t.c]
noncomputable instance:cm T2 where
 lt:=fun x y=>wN (fun a b=>decide (a < b)) x.l y.l
 Gm:=.tup [.int,.int]
 MD:=fun _=>rfl
 UM:=fun a b=>wK a.l b.l
 P9:=fun a=>wM _
 trans:=fun a b c=>qN (α:=Int) cm.P9 cm.trans _ _ _
 Qv:=fun ⟨a,b⟩ ⟨c,d⟩ h1 h2=>by
  have:=wL (α:=Int) cm.Qv _ _ h1 h2;simpa [T2.l] using this
noncomputable instance:cm T3 where
 lt:=fun x y=>wN (fun a b=>decide (a < b)) x.l y.l
 Gm:=.tup [.int,.int,.int]
 MD:=fun _=>rfl
 UM:=fun a b=>wK a.l b.l
 P9:=fun a=>wM _
 trans:=fun a b c=>qN (α:=Int) cm.P9 cm.trans _ _ _
 Qv:=fun ⟨a,b,e⟩ ⟨c,d,f⟩ h1 h2=>by
  have:=wL (α:=Int) cm.Qv _ _ h1 h2;simpa [T3.l] using this
section
variable {α:Type} [DecidableEq α] [Enc α] [cm α]
noncomputable def Bf(a b:α):Bool:=!cm.lt b a
noncomputable def D3(xs:List α):List α:=xs.mergeSort Bf
theorem LJ(xs:List α):r0 (xs.map enc)=(D3 xs).map enc:=by
 unfold r0 D3;symm;exact List.map_mergeSort fun a _ b _=>by unfold Bf P8; rw [cm.UM]
theorem xX(a b c:α)(h1:Bf a b=true)(h2:Bf b c=true):Bf a c=true:=by
 unfold Bf at *;simp only [Bool.not_eq_true'] at *;cases h:cm.lt c a with
 | false=>rfl
 | true =>
  by_cases e:a=b
  ·subst e; rw [h] at h2; cases h2
  ·have hab:cm.lt a b=true:=by
    cases q:cm.lt a b with
    | true=>rfl
    | false=>exact absurd (cm.Qv _ _ q h1) e
   rw [cm.trans _ _ _ h hab] at h2; cases h2
theorem Mg(a b:α):(Bf a b||Bf b a)=true:=by
 unfold Bf;cases h:cm.lt b a with
 | false=>rfl
 | true =>
  cases h2:cm.lt a b with
  | false=>rfl
  | true=>have:=cm.trans _ _ _ h h2; rw [cm.P9] at this; cases this
theorem Be(a b:α)(h1:Bf a b=true)(h2:Bf b a=true):a=b:=by
 unfold Bf at *;exact cm.Qv a b (by simpa using h2) (by simpa using h1)
theorem vP(xs:List α):(D3 xs).Perm xs:=List.mergeSort_perm xs Bf
theorem AE(xs:List α):(D3 xs).Pairwise fun a b=>Bf a b=true:=M0 xX Mg xs
theorem Ci:∀ {xs ys:List α},xs.Perm ys->xs.Pairwise (fun a b=>Bf a b=true)->ys.Pairwise (fun a b=>Bf a b=true)->xs=ys:=by
 intro xs ys hp h1 h2;exact FH (fun a b _ _ h h'=>Be a b h h') h1 h2 hp
theorem SG{xs ys:List α}(h:xs.Perm ys):D3 xs=D3 ys:=Ci (((vP xs).trans h).trans (vP ys).symm) (AE xs) (AE ys)
theorem Qy{xs:List α}{x:α}:x∈D3 xs↔x∈xs:=(vP xs).mem_iff
theorem Qz(xs:List α):(D3 xs).length=xs.length:=(vP xs).length_eq
end
end K2
end
section
namespace K2
open PySem (Str)
mutual
theorem lZ:∀ (sh:oX) (a:D),du sh a=true->jw a a=true
 | .int,.int i,_=>by show (i == i)=true; exact beq_self_eq_true i
 | .tup l,.tup xs,h=>by show ll xs xs=true; exact yX l xs h
 | .lst l,.fJ xs,h=>by show ll xs xs=true; exact yY l xs h
theorem yX:∀ (l:List oX) (xs:List D),gk l xs=true->ll xs xs=true
 | [],[],_=>rfl
 | s :: l,x :: xs,h=>by
  have h:(du s x&&gk l xs)=true:=h;rw [aZ] at h;show (jw x x&&ll xs xs)=true;rw [lZ s x h.1,yX l xs h.2]; rfl
theorem yY:∀ (s:oX) (xs:List D),iL s xs=true->ll xs xs=true
 | _,[],_=>rfl
 | s,x :: xs,h=>by
  have h:(du s x&&iL s xs)=true:=h;rw [aZ] at h;show (jw x x&&ll xs xs)=true;rw [lZ s x h.1,yY s xs h.2]; rfl
end
theorem Uh(s:oX)(ih:∀ (a b:D),du s a=true->du s b=true->jw a b=true->a=b):∀ (xs ys:List D),iL s xs=true->iL s ys=true->ll xs ys=true->xs=ys:=by
 intro xs;induction xs with
 | nil=>intro ys _ _ h; cases ys with
  | nil=>rfl
  | cons _ _=>cases h
 | cons x xs Wd =>
  intro ys h1 h2 h;cases ys with
  | nil=>cases h
  | cons y ys =>
   have h1:(du s x&&iL s xs)=true:=h1;have h2:(du s y&&iL s ys)=true:=h2;have h:(jw x y&&ll xs ys)=true:=h;rw [aZ] at h1 h2 h;rw [ih x y h1.1 h2.1 h.1,Wd ys h1.2 h2.2 h.2]
mutual
theorem rC:∀ (sh:oX) (a b:D),du sh a=true->du sh b=true->jw a b=true->a=b
 | .int,a,b,h1,h2,h=>by
  first | obtain⟨_,rfl⟩:=dP h1 | obtain⟨_,rfl⟩:=dN h1 | obtain⟨_,rfl⟩:=dO h1
  first | obtain⟨_,rfl⟩:=dP h2 | obtain⟨_,rfl⟩:=dN h2 | obtain⟨_,rfl⟩:=dO h2
  rw [sU] at h; rw [beq_iff_eq.mp h]
 | .tup l,a,b,h1,h2,h=>by
  first | obtain⟨_,rfl⟩:=dP h1 | obtain⟨_,rfl⟩:=dN h1 | obtain⟨_,rfl⟩:=dO h1
  first | obtain⟨_,rfl⟩:=dP h2 | obtain⟨_,rfl⟩:=dN h2 | obtain⟨_,rfl⟩:=dO h2
  rw [Pd l _ _ h1 h2 h]
 | .lst l,a,b,h1,h2,h=>by
  first | obtain⟨_,rfl⟩:=dP h1 | obtain⟨_,rfl⟩:=dN h1 | obtain⟨_,rfl⟩:=dO h1
  first | obtain⟨_,rfl⟩:=dP h2 | obtain⟨_,rfl⟩:=dN h2 | obtain⟨_,rfl⟩:=dO h2
  rw [Uh l (rC l) _ _ h1 h2 h]
theorem Pd:∀ (l:List oX) (xs ys:List D),gk l xs=true->gk l ys=true->ll xs ys=true->xs=ys
 | [],xs,ys,h1,h2,_=>by
  cases xs with
  | nil=>cases ys with
   | nil=>rfl
   | cons _ _=>cases h2
  | cons _ _=>cases h1
 | s :: l,xs,ys,h1,h2,h=>by
  cases xs with
  | nil=>cases h1
  | cons x xs =>
   cases ys with
   | nil=>cases h2
   | cons y ys =>
    have h1:(du s x&&gk l xs)=true:=h1;have h2:(du s y&&gk l ys)=true:=h2;have h:(jw x y&&ll xs ys)=true:=h;rw [aZ] at h1 h2 h;rw [rC s x y h1.1 h2.1 h.1,Pd l xs ys h1.2 h2.2 h.2]
end
theorem OF(s:oX)(ih:∀ (a b:D),du s a=true->du s b=true->qx a b=false->qx b a=false->a=b):∀ (xs ys:List D),iL s xs=true->iL s ys=true->oA xs ys=false->oA ys xs=false->xs=ys:=by
 intro xs;induction xs with
 | nil=>intro ys _ _ h _; cases ys with
  | nil=>rfl
  | cons _ _=>cases h
 | cons x xs Wd =>
  intro ys h1 h2 h3 h4;cases ys with
  | nil=>cases h4
  | cons y ys =>
   have h1:(du s x&&iL s xs)=true:=h1;have h2:(du s y&&iL s ys)=true:=h2;rw [aZ] at h1 h2;simp only [qM] at h3 h4;by_cases e:jw x y=true
   ·have exy:=rC s x y h1.1 h2.1 e;subst exy;rw [if_pos e] at h3 h4;rw [Wd ys h1.2 h2.2 h3 h4]
   ·rw [if_neg e] at h3;by_cases e2:jw y x=true
    ·have:=rC s y x h2.1 h1.1 e2;subst this; exact absurd e2 e
    ·rw [if_neg e2] at h4;have:=ih x y h1.1 h2.1 h3 h4;subst this;exact absurd (lZ s x h1.1) e
mutual
theorem z8:∀ (sh:oX) (a b:D),du sh a=true->du sh b=true->qx a b=false->qx b a=false->a=b
 | .int,a,b,h1,h2,h3,h4=>by
  first | obtain⟨_,rfl⟩:=dP h1 | obtain⟨_,rfl⟩:=dN h1 | obtain⟨_,rfl⟩:=dO h1
  first | obtain⟨_,rfl⟩:=dP h2 | obtain⟨_,rfl⟩:=dN h2 | obtain⟨_,rfl⟩:=dO h2
  simp [OG] at h3 h4; congr 1; lia
 | .tup l,a,b,h1,h2,h3,h4=>by
  first | obtain⟨_,rfl⟩:=dP h1 | obtain⟨_,rfl⟩:=dN h1 | obtain⟨_,rfl⟩:=dO h1
  first | obtain⟨_,rfl⟩:=dP h2 | obtain⟨_,rfl⟩:=dN h2 | obtain⟨_,rfl⟩:=dO h2
  rw [GR l _ _ h1 h2 h3 h4]
 | .lst l,a,b,h1,h2,h3,h4=>by
  first | obtain⟨_,rfl⟩:=dP h1 | obtain⟨_,rfl⟩:=dN h1 | obtain⟨_,rfl⟩:=dO h1
  first | obtain⟨_,rfl⟩:=dP h2 | obtain⟨_,rfl⟩:=dN h2 | obtain⟨_,rfl⟩:=dO h2
  rw [OF l (z8 l) _ _ h1 h2 h3 h4]
theorem GR:∀ (l:List oX) (xs ys:List D),gk l xs=true->gk l ys=true->oA xs ys=false->oA ys xs=false->xs=ys
 | [],xs,ys,h1,h2,_,_=>by
  cases xs with
  | nil=>cases ys with
   | nil=>rfl
   | cons _ _=>cases h2
  | cons _ _=>cases h1
 | s :: l,xs,ys,h1,h2,h3,h4=>by
  cases xs with
  | nil=>cases h1
  | cons x xs =>
   cases ys with
   | nil=>cases h2
   | cons y ys =>
    have h1:(du s x&&gk l xs)=true:=h1;have h2:(du s y&&gk l ys)=true:=h2;rw [aZ] at h1 h2;simp only [qM] at h3 h4;by_cases e:jw x y=true
    ·have exy:=rC s x y h1.1 h2.1 e;subst exy;rw [if_pos e] at h3 h4;rw [GR l xs ys h1.2 h2.2 h3 h4]
    ·rw [if_neg e] at h3;by_cases e2:jw y x=true
     ·have:=rC s y x h2.1 h1.1 e2;subst this; exact absurd e2 e
     ·rw [if_neg e2] at h4;have:=z8 s x y h1.1 h2.1 h3 h4;subst this;exact absurd (lZ s x h1.1) e
end
mutual
theorem Eu:∀ (sh:oX) (a:D),du sh a=true->qx a a=false
 | .int,.int i,_=>by rw [OG]; exact decide_eq_false (Int.lt_irrefl _)
 | .tup l,.tup xs,h=>by show oA xs xs=false; exact GS l xs h
 | .lst l,.fJ xs,h=>by show oA xs xs=false; exact GU l xs h
theorem GS:∀ (l:List oX) (xs:List D),gk l xs=true->oA xs xs=false
 | [],[],_=>rfl
 | s :: l,x :: xs,h=>by
  have h:(du s x&&gk l xs)=true:=h;rw [aZ] at h;simp only [qM,lZ s x h.1,if_true]; exact GS l xs h.2
theorem GU:∀ (s:oX) (xs:List D),iL s xs=true->oA xs xs=false
 | _,[],_=>rfl
 | s,x :: xs,h=>by
  have h:(du s x&&iL s xs)=true:=h;rw [aZ] at h;simp only [qM,lZ s x h.1,if_true]; exact GU s xs h.2
end
theorem Jk(s:oX)(ih:∀ (a b c:D),du s a=true->du s b=true->du s c=true->qx a b=true->qx b c=true->qx a c=true):∀ (xs ys zs:List D),iL s xs=true->iL s ys=true->iL s zs=true->oA xs ys=true->oA ys zs=true->oA xs zs=true:=by
 intro xs;induction xs with
 | nil =>
  intro ys zs _ _ _ h4 h5;cases ys with
  | nil=>cases h4
  | cons _ _=>cases zs with
   | nil=>cases h5
   | cons _ _=>rfl
 | cons x xs Wd =>
  intro ys zs h1 h2 h3 h4 h5;cases ys with
  | nil=>cases h4
  | cons y ys =>
   cases zs with
   | nil=>cases h5
   | cons z zs =>
    have h1:(du s x&&iL s xs)=true:=h1;have h2:(du s y&&iL s ys)=true:=h2;have h3:(du s z&&iL s zs)=true:=h3;rw [aZ] at h1 h2 h3;simp only [qM] at h4 h5 ⊢;by_cases e1:jw x y=true
    ·have:=rC s x y h1.1 h2.1 e1;subst this;rw [if_pos e1] at h4;by_cases e2:jw x z=true
     ·rw [if_pos e2] at h5 ⊢;exact Wd ys zs h1.2 h2.2 h3.2 h4 h5
     ·rw [if_neg e2] at h5 ⊢; exact h5
    ·rw [if_neg e1] at h4;by_cases e2:jw y z=true
     ·have:=rC s y z h2.1 h3.1 e2;subst this;rw [if_neg e1]; exact h4
     ·rw [if_neg e2] at h5;have h6:=ih x y z h1.1 h2.1 h3.1 h4 h5;rw [if_neg (fun e3=>by
       have:=rC s x z h1.1 h3.1 e3;subst this;rw [Eu s x h1.1] at h6; cases h6)]
      exact h6
mutual
theorem t7:∀ (sh:oX) (a b c:D),du sh a=true->du sh b=true->du sh c=true->qx a b=true->qx b c=true->qx a c=true
 | .int,a,b,c,h1,h2,h3,h4,h5=>by
  first | obtain⟨_,rfl⟩:=dP h1 | obtain⟨_,rfl⟩:=dN h1 | obtain⟨_,rfl⟩:=dO h1
  first | obtain⟨_,rfl⟩:=dP h2 | obtain⟨_,rfl⟩:=dN h2 | obtain⟨_,rfl⟩:=dO h2
  first | obtain⟨_,rfl⟩:=dP h3 | obtain⟨_,rfl⟩:=dN h3 | obtain⟨_,rfl⟩:=dO h3
  simp [OG] at *; lia
 | .tup l,a,b,c,h1,h2,h3,h4,h5=>by
  first | obtain⟨_,rfl⟩:=dP h1 | obtain⟨_,rfl⟩:=dN h1 | obtain⟨_,rfl⟩:=dO h1
  first | obtain⟨_,rfl⟩:=dP h2 | obtain⟨_,rfl⟩:=dN h2 | obtain⟨_,rfl⟩:=dO h2
  first | obtain⟨_,rfl⟩:=dP h3 | obtain⟨_,rfl⟩:=dN h3 | obtain⟨_,rfl⟩:=dO h3
  exact A4 l _ _ _ h1 h2 h3 h4 h5
 | .lst l,a,b,c,h1,h2,h3,h4,h5=>by
  first | obtain⟨_,rfl⟩:=dP h1 | obtain⟨_,rfl⟩:=dN h1 | obtain⟨_,rfl⟩:=dO h1
  first | obtain⟨_,rfl⟩:=dP h2 | obtain⟨_,rfl⟩:=dN h2 | obtain⟨_,rfl⟩:=dO h2
  first | obtain⟨_,rfl⟩:=dP h3 | obtain⟨_,rfl⟩:=dN h3 | obtain⟨_,rfl⟩:=dO h3
  exact Jk l (t7 l) _ _ _ h1 h2 h3 h4 h5
theorem A4:∀ (l:List oX) (xs ys zs:List D),gk l xs=true->gk l ys=true->gk l zs=true->oA xs ys=true->oA ys zs=true->oA xs zs=true
 | [],xs,ys,zs,h1,h2,_,h,_=>by
  cases xs with
  | nil=>cases ys with
   | nil=>cases h
   | cons _ _=>cases h2
  | cons _ _=>cases h1
 | s :: l,xs,ys,zs,h1,h2,h3,h4,h5=>by
  cases xs with
  | nil=>cases h1
  | cons x xs =>
   cases ys with
   | nil=>cases h2
   | cons y ys =>
    cases zs with
    | nil=>cases h3
    | cons z zs =>
     have h1:(du s x&&gk l xs)=true:=h1;have h2:(du s y&&gk l ys)=true:=h2;have h3:(du s z&&gk l zs)=true:=h3;rw [aZ] at h1 h2 h3;simp only [qM] at h4 h5 ⊢;by_cases e1:jw x y=true
     ·have:=rC s x y h1.1 h2.1 e1;subst this;rw [if_pos e1] at h4;by_cases e2:jw x z=true
      ·rw [if_pos e2] at h5 ⊢;exact A4 l xs ys zs h1.2 h2.2 h3.2 h4 h5
      ·rw [if_neg e2] at h5 ⊢; exact h5
     ·rw [if_neg e1] at h4;by_cases e2:jw y z=true
      ·have:=rC s y z h2.1 h3.1 e2;subst this;rw [if_neg e1]; exact h4
      ·rw [if_neg e2] at h5;have h6:=t7 s x y z h1.1 h2.1 h3.1 h4 h5;rw [if_neg (fun e3=>by
        have:=rC s x z h1.1 h3.1 e3;subst this;rw [Eu s x h1.1] at h6; cases h6)]
       exact h6
end
theorem Dg(sh:oX){a b:D}(h1:du sh a=true)(h2:du sh b=true)(h:qx a b=true):qx b a=false:=by
 cases q:qx b a with
 | false=>rfl
 | true=>have:=t7 sh a b a h1 h2 h1 h q; rw [Eu sh a h1] at this; cases this
theorem A5(sh:oX){a b c:D}(h1:du sh a=true)(h2:du sh b=true)(h3:du sh c=true)(q1:qx b a=false)(q2:qx c b=false):qx c a=false:=by
 cases h:qx c a with
 | false=>rfl
 | true =>
  exfalso;cases q:qx a b with
  | false =>
   have:=z8 sh a b h1 h2 q q1;subst this; rw [h] at q2; cases q2
  | true=>rw [t7 sh c a b h3 h1 h2 h q] at q2; cases q2
theorem vR(sh:oX){xs ys:List D}(hx:∀ x∈xs,du sh x=true)(hp:ys.Perm xs)(hs:ys.Pairwise fun a b=>qx b a=false):r0 xs=ys:=by
 have hy:∀ y∈ys,du sh y=true:=fun y h=>hx y (hp.mem_iff.mp h);have p1:(r0 xs).Perm xs:=List.mergeSort_perm xs P8;have hz:∀ z∈r0 xs,du sh z=true:=fun z h=>hx z (p1.mem_iff.mp h);have s1:(r0 xs).Pairwise fun a b=>qx b a=false:=by
  let Vi:List { d:D // du sh d=true }:=xs.attach.map fun x=>⟨x.1,hx x.1 x.2⟩
  have ex:xs=Vi.map (·.1):=by
   simp only [Vi,jt]
   conv=>lhs; rw [<-List.attach_map_subtype_val xs]
   rfl
  have e2:r0 xs=(Vi.mergeSort fun a b=>P8 a.1 b.1).map (·.1):=by
   unfold r0;rw [ex];exact(List.map_mergeSort (r:=fun (a b:{ d:D // du sh d=true })=>P8 a.1 b.1) (s:=P8) (f:=fun x=>x.1) (l:=Vi) fun a _ b _=>rfl).symm
  rw [e2,tQ]
  have:=M0 (le:=fun (a b:{ d:D // du sh d=true })=>P8 a.1 b.1) (fun a b c h1 h2=>by
   unfold P8 at *;simp only [Bool.not_eq_true'] at *;exact A5 sh a.2 b.2 c.2 h1 h2) (fun a b=>by
   unfold P8;cases q:qx b.1 a.1 with
   | false=>rfl
   | true=>rw [Dg sh b.2 a.2 q]; rfl) Vi
  exact this.imp fun h=>by unfold P8 at h; simpa using h
 refine FH (le:=fun a b=>qx b a=false) (fun a b ha hb h h'=>?_) s1 hs (p1.trans hp.symm);exact z8 sh a b (hz a ha) (hy b hb) h' h
end K2
end
section
namespace K2
open PySem (Str)
open Enc (enc)
noncomputable def nX(k:Nat):List D->List D
 | []=>[]
 | d :: r=>.tup [.int (k:Int),d] :: nX (k+1) r
theorem Dy:∀ (ds:List D) (k i:Nat),(nX k ds)[i]?=(ds[i]?).map fun d=>D.tup [.int ((k+i:Nat):Int),d]
 | [],k,i=>by simp [nX]
 | d :: r,k,0=>by simp [nX]
 | d :: r,k,i+1=>by
  rw [nX,ae,Dy r (k+1) i,ae];congr 1; funext x; congr 3; lia
theorem Dx:∀ (ds:List D) (k:Nat),(nX k ds).length=ds.length
 | [],_=>rfl
 | d :: r,k=>by rw [nX,ag,ag,Dx r]
noncomputable def wQ(x:D)(G1:Gp)(R:List D->(Gp->Prop)->Gp->Prop):Prop:=match x with
 | .fJ ds=>R (nX 0 ds) (fun _=>True) G1
 | .ref p=>(match G1 p with
  | some (.lst ds)=>R (nX 0 ds) (fun G2=>G2 p=some (.lst ds)) G1
  | _=>False)
 | _=>False
noncomputable def OU(a:hW):PM:=fun E τ G R=>a E τ G fun x G1=>wQ x G1 R
noncomputable def VL(P:D->Gp->Prop):List D->Gp->Prop
 | [x],G=>P x G
 | _,_=>False
noncomputable def YG(P:D->D->Gp->Prop):List D->Gp->Prop
 | [x,y],G=>P x y G
 | _,_=>False
noncomputable def um:List D->List D->List D
 | x :: xs,y :: ys=>.tup [x,y] :: um xs ys
 | _,_=>[]
theorem FW:∀ (xs ys:List D) (i:Nat),(um xs ys)[i]?=(xs[i]?).bind fun x=>(ys[i]?).map fun y=>D.tup [x,y]
 | [],ys,i=>by simp [um]
 | x :: xs,[],i=>by cases h:(x :: xs)[i]? <;> simp [um]
 | x :: xs,y :: ys,0=>by simp [um]
 | x :: xs,y :: ys,i+1=>by rw [um,ae,FW xs ys i,ae,ae]
theorem FV:∀ (xs ys:List D),(um xs ys).length=min xs.length ys.length
 | [],ys=>by simp [um]
 | x :: xs,[]=>by simp [um]
 | x :: xs,y :: ys=>by rw [um,ag,FV xs ys,ag,ag]; lia
noncomputable def A7(x:D)(G:Gp):Option (List D×(Gp->Prop)):=match x with
 | .fJ ds=>some (ds,fun _=>True)
 | .ref p=>(match G p with
  | some (.lst ds)=>some (ds,fun G2=>G2 p=some (.lst ds))
  | _=>none)
 | _=>none
noncomputable def Bl(x y:D)(G1:Gp)(R:List D->(Gp->Prop)->Gp->Prop):Prop:=match A7 x G1,A7 y G1 with
 | some (xs,k1),some (ys,k2)=>R (um xs ys) (fun G2=>k1 G2/\k2 G2) G1
 | _,_=>False
noncomputable def TC(a b:hW):PM:=fun E τ G R=>a E τ G fun x G1=>b E τ G1 fun y G2=>Bl x y G2 R
noncomputable def IsL(G:Gp)(d:D)(ds:List D):Prop:=d=.fJ ds\/∃ a,d=.ref a/\G a=some (.lst ds)
theorem IsL.enc{α:Type} [DecidableEq α] [Enc α]{G:Gp}(xs:List α):IsL G (enc xs) (xs.map enc):=.inl rfl
theorem IsL.ref{G:Gp}{a:Nat}{ds:List D}(h:G a=some (.lst ds)):IsL G (.ref a) ds:=.inr ⟨a,rfl,h⟩
theorem IsL.mono{G G':Gp}{d:D}{ds:List D}(h:IsL G d ds)(l:fy G G'):IsL G' d ds:=by
 rcases h with h | ⟨a,h,e⟩
 ·exact .inl h
 ·exact .inr ⟨a,h,l a _ e⟩
theorem TG{G:Gp}{d:D}{ds:List D}{R:List D->(Gp->Prop)->Gp->Prop}(h:IsL G d ds)(k:∀ ok:Gp->Prop,(∀ G',fy G G'->ok G')->R ds ok G):Qa d G R:=by
 rcases h with rfl | ⟨a,rfl,e⟩
 ·exact k _ fun _ _=>trivial
 ·rw [oO e]; exact k _ fun G' l=>l a _ e
theorem KP {G:Gp} {d:D} {ds:List D} {C:String} {Q:DK} (h:IsL G d ds) (k:Q (.bl (C == "list")) G):isAt C d G Q:=by
 rcases h with rfl | ⟨a,rfl,e⟩
 ·exact k
 ·rw [OQ e]; exact k
theorem AD{G:Gp}{d:D}{ds:List D}{Q:Bool->Gp->Prop}(h:IsL G d ds)(k:Q (!ds.isEmpty) G):uG d G Q:=by
 rcases h with rfl | ⟨a,rfl,e⟩
 ·exact k
 ·rw [C4 e]; exact k
theorem Bj{G:Gp}{d:D}{ds:List D}(h:IsL G d ds):itemsOf d G=some ds:=by
 rcases h with rfl | ⟨a,rfl,e⟩
 ·rfl
 ·unfold itemsOf; simp only [e]
theorem Sw{G:Gp}{d:D}{ds:List D}(h:IsL G d ds):vL d G:=by
 rcases h with rfl | ⟨a,rfl,e⟩
 ·trivial
 ·unfold vL; simp only [e]
theorem pb{G:Gp}{d:D}{ds:List D}{lo hi:Option Int}{Q:DK}(h:IsL G d ds)(k:l0 G (.lst (cut ds lo hi)) Q):N9 d lo hi G Q:=by
 rcases h with rfl | ⟨a,rfl,e⟩
 ·exact k
 ·rw [QI e]; exact k
theorem gZ{G:Gp}{d:D}{ds:List D}{Q:DK}(h:IsL G d ds)(k:Q (.int (ds.length:Int)) G):i7 [d] G Q:=by
 rcases h with rfl | ⟨a,rfl,e⟩
 ·exact k
 ·rw [PB e]; exact k
theorem BN{G:Gp}{d:D}{ds:List D}{Q:DK}(h:IsL G d ds)(k:l0 G (.lst ds) Q):rD [d] G Q:=by
 unfold rD; simp only [Bj h]; exact k
theorem vq{α:Type} [DecidableEq α] [Enc α] [cm α]{G:Gp}{d:D}{xs:List α}{Q:DK}(h:IsL G d (xs.map enc))(hl:xs.length < 64)(k:l0 G (.lst ((D3 xs).map enc)) Q)(ok:autoParam (Td (cm.Gm α)=true) Ad._auto_1):uf [d] G Q :=
 ⟨cm.Gm α,xs.map enc,Sw h,Bj h,by rw [PY,FG]; intro x _; exact cm.MD x,ok,by rw [ax]; exact hl,by rw [LJ]; exact k⟩
theorem hV{G:Gp}{d x:D}{ds:List D}{i:Int}{Q:DK}(h:IsL G d ds)(e:pQ ds i=some x)(k:Q x G):eY d (.int i) G Q:=by
 rcases h with rfl | ⟨a,rfl,e2⟩
 ·rw [QJ e]; exact k
 ·rw [QL e2 e]; exact k
theorem mw{G:Gp}{d:D}{ds:List D}(h:IsL G d ds):uR d G=some ds:=by
 rcases h with rfl | ⟨a,rfl,e⟩
 ·rfl
 ·unfold uR; simp only [e]
theorem Lm{G:Gp}{d e:D}{ds es:List D}{Q:DK}(h:IsL G d ds)(h':IsL G e es)(hz:ds.length+es.length<=SZ)(k:l0 G (.lst (ds++es)) Q):BO d e G Q:=by
 unfold BO; simp only [mw h,mw h']; exact⟨hz,k⟩
theorem tW{G:Gp}{d e:D}{ds es:List D}{Q:DK}(h:IsL G d ds)(h':IsL G e es)(hz:ds.length+es.length<=SZ)(k:l0 G (.lst (ds++es)) Q):kJ d e G Q:=by
 have:=Lm h h' hz k;rcases h with rfl | ⟨a,rfl,_⟩
 ·rw [pX]; exact this
 ·rw [mj]; exact this
theorem BJ{α:Type}(xs:List α)(i:Nat)(h:i<=xs.length):cut xs (some (i:Int)) none=xs.drop i:=by
 unfold cut kj;simp only;rw [if_neg (by lia),jk,qz h];exact nc (by rw [cT]; lia)
theorem JR{α:Type}(xs:List α)(i:Nat)(h:i<=xs.length):cut xs none (some (i:Int))=xs.take i:=by
 unfold cut kj;simp only;rw [if_neg (by lia),jk,qz h];simp
theorem oQ{α β:Type}(f:α->β)(xs:List α)(lo hi:Option Int):cut (xs.map f) lo hi=(cut xs lo hi).map f:=by
 unfold cut; rw [ax,uD,uE]
theorem gm{α:Type}(xs:List α){k:Int}(h0:0<=k)(h1:k < xs.length):pQ xs k=some (xs[k.toNat]'(by lia)):=by
 unfold pQ Jp;rw [if_pos h0,if_pos h1];show xs[k.toNat]?=_;exact aP (by lia)
theorem qF{n:Nat}{pre post:List D}{d:D}(h:fj 0 n=pre++d :: post):d=.int (pre.length:Int)/\pre.length < n:=by
 have hl:pre.length < n:=by
  have:=congrArg dE h;simp [fj] at this; lia
 have:=congrArg (fun l=>l[pre.length]?) h;simp only [fj,dJ,zK hl] at this;rw [bQ (aT _)] at this;simp at this;exact⟨this.symm,hl⟩
noncomputable def SH{α β:Type} [DecidableEq α] [Enc α] [DecidableEq β] [Enc β](pre:α->Prop)(f:α->β):jx:=fun ds G Q _=>∃ a:α,ds=[enc a]/\pre a/\Q (enc (f a)) G
noncomputable def Vo{α β γ:Type} [DecidableEq α] [Enc α] [DecidableEq β] [Enc β] [DecidableEq γ] [Enc γ](pre:α->β->Prop)(f:α->β->γ):jx:=fun ds G Q _=>∃ (a:α) (b:β),ds=[enc a,enc b]/\pre a b/\Q (enc (f a b)) G
end K2
end
section
namespace K2
open PySem (Str)
open Enc (enc)
noncomputable abbrev TF2:=mW->iP->Gp->(List Str->Gp->Prop)->Prop
end K2
end
section
namespace K2
open PySem (Str)
open Enc (enc)
noncomputable def h2(t:T2):Int:=PySem.reduceHash (PySem.Builtin.Tuple.tupleHashOf [PySem.hashInt t.a,PySem.hashInt t.b])
end K2
end
section
namespace K2
open Enc (enc)
noncomputable def bst(lt:Nat->Nat->Bool):Nat->Nat
 | 0=>0
 | j+1=>if lt (j+1) (bst lt j)=true then j+1 else bst lt j
end K2
end
section
namespace K2
open PySem (Str)
noncomputable def PH(al:List Str)(f:Str)(x:D)(G:Gp)(Q:DK):Prop:=∃ a c fs d,x=.ref a/\G a=some (.ins c fs)/\c∈al/\fs.lookup f=some d/\Q d G
noncomputable def di(al:List Str)(f:Str)(te:hW):hW:=fun E τ G Q=>te E τ G fun x G1=>PH al f x G1 Q
end K2
namespace K2
open PySem (Str)
noncomputable def putD(f:Str)(d:D):List (Str×D)->List (Str×D)
 | []=>[(f,d)]
 | (g,x) :: r=>if g=f then (g,d) :: r else (g,x) :: putD f d r
noncomputable def lr(al:List Str)(f:Str)(to tv:hW):g7:=fun E K τ G=>tv E τ G fun d G1=>to E τ G1 fun x G2=>∃ a c fs,x=.ref a/\G2 a=some (.ins c fs)/\c∈al/\fs.length < 1000/\K.nx τ (cW G2 a (.ins c (putD f d fs)))
noncomputable def kH(c:Str)(sp:jx)(t:DN):hW:=fun E τ G Q=>t E τ G fun ds G1=>∀ p,G1 p=none->sp (.ref p :: ds) (cW G1 p (.ins c [])) (fun v G2=>v=.eK/\Q (.ref p) G2) fun _ _=>False
end K2
namespace K2
open PySem (Str)
noncomputable def fN(ms:List (Str×jx))(m:Str)(to:hW)(t:DN):hW:=fun E τ G Q=>to E τ G fun x G1=>∃ a c fs sp,x=.ref a/\G1 a=some (.ins c fs)/\(c,sp)∈ms/\fs.lookup m=none/\t E τ G1 fun ds G2=>sp (x :: ds) G2 Q fun _ _=>False
end K2
end
section
namespace K2
open PySem (Str)
noncomputable def TF(a:hW):PM:=fun E τ G R=>a E τ G fun x G1=>match x with
 | .fJ ds=>R ds.reverse (fun _=>True) G1
 | _=>False
end K2
namespace K2
open PySem (Str)
noncomputable def VB(x:D)(k:Option Int)(G:Gp)(Q:DK):Prop:=k=some (-1)/\∃ a b,uR x G=some [a,b]/\l0 G (.lst [b,a]) Q
noncomputable def Pt(ta:hW)(ts:Uw):hW:=fun E τ G Q=>ta E τ G fun x G1=>ts E τ G1 fun k G2=>VB x k G2 Q
end K2
end
section
namespace K2
open PySem PySem.Spec PyProof.Rows L2
noncomputable def UY(K:aw)(H:Hp)(a:Addr)(xs:List V):Prop :=
 (∃ o,H a=some (.rq o (.lst xs))) \/
  ∃ (o:Obj) (bO:Array Value) (n:Nat),K.lookup a=some o/\o.cls=.type "list"/\o.dict=none/\o.data=.seq bO n/\bO.size<=br/\Vals xs bO.toList
theorem UY.sq{K:aw}{H:Hp}{a:Addr}{xs:List V}(h:UY K H a xs):qy K H a xs:=by
 rcases h with ⟨o,h⟩ | h
 ·exact .inl (.inr ⟨o,h⟩)
 ·exact .inr h
noncomputable def gP:Key->D
 | .inl i=>.int i
 | .inr x=>.str x
noncomputable def ExcAt(K:aw)(H:Hp)(a:Addr)(c:Str):Prop:=∃ (o:Obj) (C:Addr),H a=some (.rq o (.ext fun h=>h.get? a=some o))/\o.cls=.ref C/\dj K bu c=some (some (.ref C))
mutual
inductive dh (K:aw) (H:Hp):V->D->Prop
 | eK:dh K H .eK .eK
 | bl (b:Bool):dh K H (.bl b) (.bl b)
 | int (i:Int):dh K H (.int i) (.int i)
 | str (x:Str):dh K H (.str x) (.str x)
 | tup {a:Addr} {vs:List V} {ds:List D}:H a=some (.tup vs)->bA K H vs ds->dh K H (.ref a) (.tup ds)
 | fJ {a:Addr} {vs:List V} {ds:List D}:UY K H a vs->bA K H vs ds->dh K H (.ref a) (.fJ ds)
 | wb {a:Addr} {o:Obj} {kv:List (Key×V)} {bB:List (D×D)}:H a=some (.rq o (.dK kv))->rN K H kv bB->dh K H (.ref a) (.yE bB)
 | wa {a:Addr} {o:Obj} {kv:List (List Key×V)} {bB:List (D×D)}:H a=some (.rq o (.dT kv))->tM K H kv bB->dh K H (.ref a) (.yE bB)
 | ref (a:Addr):dh K H (.ref a) (.ref a)
 | exc {a:Addr} {c:Str}:ExcAt K H a c->dh K H (.ref a) (.exc c)
inductive bA (K:aw) (H:Hp):List V->List D->Prop
 | nil:bA K H [] []
 | cons {v:V} {d:D} {vs:List V} {ds:List D}:dh K H v d->bA K H vs ds->bA K H (v :: vs) (d :: ds)
inductive rN (K:aw) (H:Hp):List (Key×V)->List (D×D)->Prop
 | nil:rN K H [] []
 | cons {k:Key} {v:V} {d:D} {r:List (Key×V)} {t:List (D×D)}:dh K H v d->rN K H r t->rN K H ((k,v) :: r) ((gP k,d) :: t)
inductive tM (K:aw) (H:Hp):List (List Key×V)->List (D×D)->Prop
 | nil:tM K H [] []
 | cons {k:List Key} {v:V} {d:D} {r:List (List Key×V)} {t:List (D×D)}:dh K H v d->tM K H r t->tM K H ((k,v) :: r) ((.tup (k.map gP),d) :: t)
end
structure Kp(H H':Hp):Prop where
 tup:∀ a xs,H a=some (.tup xs)->H' a=some (.tup xs)
 rq:∀ a o u,H a=some (.rq o u)->H' a=some (.rq o u)
theorem Kp.refl(H:Hp):Kp H H:=⟨fun _ _ h=>h,fun _ _ _ h=>h⟩
theorem Kp.trans{H H1 H2:Hp}(a:Kp H H1)(b:Kp H1 H2):Kp H H2:=⟨fun c xs h=>b.tup c xs (a.tup c xs h),fun c o u h=>b.rq c o u (a.rq c o u h)⟩
theorem Kp.sqT{K:aw}{H H':Hp}{a:Addr}{xs:List V}(k:Kp H H')(h:BQ K H a xs):BQ K H' a xs:=by
 rcases h with (h | ⟨o,h⟩) | h
 ·exact .inl (.inl (k.tup _ _ h))
 ·exact .inl (.inr ⟨o,k.rq _ _ _ h⟩)
 ·exact .inr h
theorem Kp.RH{K:aw}{H H':Hp}{a:Addr}{xs:List V}(k:Kp H H')(h:UY K H a xs):UY K H' a xs:=by
 rcases h with ⟨o,h⟩ | h
 ·exact .inl ⟨o,k.rq _ _ _ h⟩
 ·exact .inr h
theorem ExcAt.mono{K:aw}{H H':Hp}(k:Kp H H'){a:Addr}{c:Str}(h:ExcAt K H a c):ExcAt K H' a c :=
 let ⟨o,C,h1,h2,h3⟩:=h
 ⟨o,C,k.rq _ _ _ h1,h2,h3⟩
theorem bA.Jr{K:aw}{H:Hp}{P:List V->List D->Prop}(h0:P [] [])(h1:∀ {v:V} {d:D} {vs:List V} {ds:List D},dh K H v d->bA K H vs ds->P vs ds->P (v :: vs) (d :: ds)){vs:List V}{ds:List D}(h:bA K H vs ds):P vs ds :=
 bA.rec (motive_1:=fun _ _ _=>True) (motive_2:=fun vs ds _=>P vs ds) (motive_3:=fun _ _ _=>True) (motive_4:=fun _ _ _=>True) trivial (fun _=>trivial) (fun _=>trivial) (fun _=>trivial) (fun _ _ _=>trivial) (fun _ _ _=>trivial) (fun _ _ _=>trivial) (fun _ _ _=>trivial) (fun _=>trivial) (fun _=>trivial) h0 (fun a b _ ih=>h1 a b ih) trivial (fun _ _ _ _=>trivial) trivial (fun _ _ _ _=>trivial) h
theorem dh.mono{K:aw}{H H':Hp}(k:Kp H H'):∀ {v:V} {d:D},dh K H v d->dh K H' v d:=fun h =>
 dh.rec (motive_1:=fun v d _=>dh K H' v d) (motive_2:=fun v d _=>bA K H' v d) (motive_3:=fun v d _=>rN K H' v d) (motive_4:=fun v d _=>tM K H' v d)
  .eK .bl .int .str (fun h _ r=>.tup (k.tup _ _ h) r) (fun h _ r=>.fJ (k.RH h) r) (fun h _ r=>.wb (k.rq _ _ _ h) r) (fun h _ r=>.wa (k.rq _ _ _ h) r) .ref (fun h=>.exc (h.mono k)) .nil (fun _ _ a b=>.cons a b) .nil (fun _ _ a b=>.cons a b) .nil (fun _ _ a b=>.cons a b) h
theorem bA.mono{K:aw}{H H':Hp}(k:Kp H H'){v:List V}{d:List D}(h:bA K H v d):bA K H' v d :=
 bA.Jr (P:=fun v d=>bA K H' v d) .nil (fun r _ ih=>.cons (r.mono k) ih) h
theorem rN.mono{K:aw}{H H':Hp}(k:Kp H H'){v:List (Key×V)}{d:List (D×D)}(h:rN K H v d):rN K H' v d :=
 rN.rec (motive_1:=fun v d _=>dh K H' v d) (motive_2:=fun v d _=>bA K H' v d) (motive_3:=fun v d _=>rN K H' v d) (motive_4:=fun v d _=>tM K H' v d)
  .eK .bl .int .str (fun h _ r=>.tup (k.tup _ _ h) r) (fun h _ r=>.fJ (k.RH h) r) (fun h _ r=>.wb (k.rq _ _ _ h) r) (fun h _ r=>.wa (k.rq _ _ _ h) r) .ref (fun h=>.exc (h.mono k)) .nil (fun _ _ a b=>.cons a b) .nil (fun _ _ a b=>.cons a b) .nil (fun _ _ a b=>.cons a b) h
theorem tM.mono{K:aw}{H H':Hp}(k:Kp H H'){v:List (List Key×V)}{d:List (D×D)}(h:tM K H v d):tM K H' v d :=
 tM.rec (motive_1:=fun v d _=>dh K H' v d) (motive_2:=fun v d _=>bA K H' v d) (motive_3:=fun v d _=>rN K H' v d) (motive_4:=fun v d _=>tM K H' v d)
  .eK .bl .int .str (fun h _ r=>.tup (k.tup _ _ h) r) (fun h _ r=>.fJ (k.RH h) r) (fun h _ r=>.wb (k.rq _ _ _ h) r) (fun h _ r=>.wa (k.rq _ _ _ h) r) .ref (fun h=>.exc (h.mono k)) .nil (fun _ _ a b=>.cons a b) .nil (fun _ _ a b=>.cons a b) .nil (fun _ _ a b=>.cons a b) h
theorem bA.length{K:aw}{H:Hp}:∀ {vs:List V} {ds:List D},bA K H vs ds->vs.length=ds.length:=fun h =>
 bA.Jr (P:=fun vs ds=>vs.length=ds.length) rfl (fun _ _ ih=>congrArg (· + 1) ih) h
theorem bA.get{K:aw}{H:Hp}:∀ {vs:List V} {ds:List D} {i:Nat} {d:D},bA K H vs ds->ds[i]?=some d->∃ v,vs[i]?=some v/\dh K H v d:=by
 intro vs ds i d h;refine bA.Jr (P:=fun vs ds=>∀ (i:Nat) (d:D),ds[i]?=some d->∃ v,vs[i]?=some v/\dh K H v d) (fun i d e=>by cases e) (fun r _ ih i d e=>?_) h i d;cases i with
 | zero=>cases e; exact⟨_,rfl,r⟩
 | succ i=>exact ih i d e
theorem bA.append{K:aw}{H:Hp}:∀ {vs ws:List V} {ds es:List D},bA K H vs ds->bA K H ws es->bA K H (vs++ws) (ds++es):=fun {_ ws _ es} h s =>
 bA.Jr (P:=fun vs ds=>bA K H (vs++ws) (ds++es)) s (fun r _ ih=>.cons r ih) h
theorem bA.take{K:aw}{H:Hp}:∀ {vs:List V} {ds:List D} (n:Nat),bA K H vs ds->bA K H (vs.take n) (ds.take n):=fun {_ _} n h =>
 bA.Jr (P:=fun vs ds=>∀ n,bA K H (vs.take n) (ds.take n)) (fun n=>by rw [B6,B6]; exact .nil) (fun r _ ih n=>by
  cases n with
  | zero=>exact .nil
  | succ n=>exact .cons r (ih n)) h n
theorem bA.drop{K:aw}{H:Hp}:∀ {vs:List V} {ds:List D} (n:Nat),bA K H vs ds->bA K H (vs.drop n) (ds.drop n):=fun {_ _} n h =>
 bA.Jr (P:=fun vs ds=>∀ n,bA K H (vs.drop n) (ds.drop n)) (fun n=>by rw [B8,B8]; exact .nil) (fun r t ih n=>by
  cases n with
  | zero=>exact .cons r t
  | succ n=>exact ih n) h n
theorem bA.set{K:aw}{H:Hp}{v:V}{d:D}(r:dh K H v d):∀ {vs:List V} {ds:List D} (i:Nat),bA K H vs ds->bA K H (vs.set i v) (ds.set i d):=fun {_ _} i h =>
 bA.Jr (P:=fun vs ds=>∀ i,bA K H (vs.set i v) (ds.set i d)) (fun i=>by rw [DT,DT]; exact .nil) (fun q t ih i=>by
  cases i with
  | zero=>exact .cons r t
  | succ i=>exact .cons q (ih i)) h i
theorem bA.one{K:aw}{H:Hp}:∀ {vs:List V} {d:D},bA K H vs [d]->∃ v,vs=[v]/\dh K H v d:=by
 intro vs d h;cases h with
 | cons r t=>cases t; exact⟨_,rfl,r⟩
theorem bA.two{K:aw}{H:Hp}:∀ {vs:List V} {d e:D},bA K H vs [d,e]->∃ v u,vs=[v,u]/\dh K H v d/\dh K H u e:=by
 intro vs d e h;cases h with
 | cons r t =>
  obtain⟨u,rfl,q⟩:=bA.one t;exact⟨_,_,rfl,r,q⟩
theorem bA.zero{K:aw}{H:Hp}:∀ {vs:List V},bA K H vs []->vs=[]
 | _,.nil=>rfl
theorem bA.ints{K:aw}{H:Hp}:∀ {vs:List V} {ns:List Int},bA K H vs (ns.map D.int)->vs=ns.map V.int:=by
 intro vs ns;induction ns generalizing vs with
 | nil=>intro h; exact h.zero
 | cons n ns ih =>
  intro h;cases h with
  | cons r t =>
   cases r;rw [ih t]; rfl
theorem bA.KC{K:aw}{H:Hp}:∀ (ns:List Int),bA K H (ns.map V.int) (ns.map D.int)
 | []=>.nil
 | n :: ns=>.cons (.int n) (bA.KC ns)
theorem rN.ind{K:aw}{H:Hp}{motive:∀ (kv:List (Key×V)) (bB:List (D×D)),rN K H kv bB->Prop}(nil:motive [] [] .nil)
  (cons:∀ {k:Key} {v:V} {d:D} {r:List (Key×V)} {t:List (D×D)} (re:dh K H v d) (rs:rN K H r t),motive r t rs->motive ((k,v) :: r) ((gP k,d) :: t) (.cons re rs)):∀ {kv:List (Key×V)} {bB:List (D×D)} (h:rN K H kv bB),motive kv bB h:=fun h =>
 rN.rec (motive_1:=fun _ _ _=>True) (motive_2:=fun _ _ _=>True) (motive_3:=motive) (motive_4:=fun _ _ _=>True) trivial (fun _=>trivial) (fun _=>trivial) (fun _=>trivial) (fun _ _ _=>trivial) (fun _ _ _=>trivial) (fun _ _ _=>trivial) (fun _ _ _=>trivial) (fun _=>trivial) (fun _=>trivial) trivial (fun _ _ _ _=>trivial) nil (fun a b _ ih=>cons a b ih) trivial (fun _ _ _ _=>trivial) h
theorem tM.ind{K:aw}{H:Hp}{motive:∀ (kv:List (List Key×V)) (bB:List (D×D)),tM K H kv bB->Prop}(nil:motive [] [] .nil)
  (cons:∀ {k:List Key} {v:V} {d:D} {r:List (List Key×V)} {t:List (D×D)} (re:dh K H v d) (rs:tM K H r t),motive r t rs->motive ((k,v) :: r) ((.tup (k.map gP),d) :: t) (.cons re rs)):∀ {kv:List (List Key×V)} {bB:List (D×D)} (h:tM K H kv bB),motive kv bB h:=fun h =>
 tM.rec (motive_1:=fun _ _ _=>True) (motive_2:=fun _ _ _=>True) (motive_3:=fun _ _ _=>True) (motive_4:=motive) trivial (fun _=>trivial) (fun _=>trivial) (fun _=>trivial) (fun _ _ _=>trivial) (fun _ _ _=>trivial) (fun _ _ _=>trivial) (fun _ _ _=>trivial) (fun _=>trivial) (fun _=>trivial) trivial (fun _ _ _ _=>trivial) trivial (fun _ _ _ _=>trivial) nil (fun a b _ ih=>cons a b ih) h
theorem rN.length{K:aw}{H:Hp}:∀ {v:List (Key×V)} {d:List (D×D)},rN K H v d->v.length=d.length:=fun h =>
 rN.ind (motive:=fun v d _=>v.length=d.length) rfl (fun _ _ ih=>congrArg (· + 1) ih) h
theorem tM.length{K:aw}{H:Hp}:∀ {v:List (List Key×V)} {d:List (D×D)},tM K H v d->v.length=d.length:=fun h =>
 tM.ind (motive:=fun v d _=>v.length=d.length) rfl (fun _ _ ih=>congrArg (· + 1) ih) h
noncomputable def PV(K:aw)(H:Hp)(a:Addr):GO->Prop
 | .lst ds=>∃ vs,H a=some (.lst vs)/\bA K H vs ds
 | .oq bB=>(∃ kv,H a=some (.dK kv)/\rN K H kv bB)\/∃ kv,H a=some (.dT kv)/\tM K H kv bB
 | .ins c fs=>∃ C dx fv,H a=some (.ins C dx fv)/\dj K bu c=some (some (.ref C))/\fv.map (·.1)=fs.map (·.1)/\bA K H (fv.map (·.2)) (fs.map (·.2))
noncomputable def oB(K:aw)(H:Hp)(G:Gp):Prop:=∀ a g,G a=some g->PV K H a g
theorem PV.dk{K:aw}{H:Hp}{a:Addr}{kv:List (Key×V)}{bB:List (D×D)}(h:H a=some (.dK kv))(r:rN K H kv bB):PV K H a (.oq bB):=.inl ⟨kv,h,r⟩
theorem PV.mono{K:aw}{H H':Hp}{a:Addr}{g:GO}(k:Kp H H')(e:H' a=H a)(h:PV K H a g):PV K H' a g:=by
 cases g with
 | lst ds=>obtain⟨vs,q,r⟩:=h; exact⟨vs,e.trans q,r.mono k⟩
 | ins c fs=>obtain⟨C,dx,fv,q,h1,h2,r⟩:=h; exact⟨C,dx,fv,e.trans q,h1,h2,r.mono k⟩
 | oq bB =>
  rcases h with ⟨kv,q,r⟩ | ⟨kv,q,r⟩
  ·exact .inl ⟨kv,e.trans q,r.mono k⟩
  ·exact .inr ⟨kv,e.trans q,r.mono k⟩
theorem PV.tracked{K:aw}{H:Hp}{a:Addr}{g:GO}(h:PV K H a g):H a≠none:=by
 cases g with
 | lst ds=>obtain⟨vs,q,r⟩:=h; rw [q]; simp
 | ins c fs=>obtain⟨C,dx,fv,q,_⟩:=h; rw [q]; simp
 | oq bB =>
  rcases h with ⟨kv,q,r⟩ | ⟨kv,q,r⟩
  ·rw [q]; simp
  ·rw [q]; simp
theorem oB.free{K:aw}{H:Hp}{G:Gp}{a:Addr}(h:oB K H G)(e:H a=none):G a=none:=by
 cases q:G a with
 | none=>rfl
 | some g=>exact absurd e (h a g q).tracked
theorem oB.V2{K:aw}{H:Hp}{G:Gp}{a:Addr}{xs:List V}(h:oB K H G)(e:H a=some (.tup xs)):G a=none:=by
 cases q:G a with
 | none=>rfl
 | some g =>
  have z:=h a g q;cases g with
  | lst ds=>obtain⟨vs,q,r⟩:=z; rw [e] at q; cases q
  | ins c fs=>obtain⟨C,dx,fv,q,_⟩:=z; rw [e] at q; cases q
  | oq bB =>
   rcases z with ⟨kv,q,r⟩ | ⟨kv,q,r⟩
   ·rw [e] at q; cases q
   ·rw [e] at q; cases q
theorem oB.V3{K:aw}{H:Hp}{G:Gp}{a:Addr}{o:Obj}{u:HO}(h:oB K H G)(e:H a=some (.rq o u)):G a=none:=by
 cases q:G a with
 | none=>rfl
 | some g =>
  have z:=h a g q;cases g with
  | lst ds=>obtain⟨vs,q,r⟩:=z; rw [e] at q; cases q
  | ins c fs=>obtain⟨C,dx,fv,q,_⟩:=z; rw [e] at q; cases q
  | oq bB =>
   rcases z with ⟨kv,q,r⟩ | ⟨kv,q,r⟩
   ·rw [e] at q; cases q
   ·rw [e] at q; cases q
structure Mv(K:aw)(H:Hp)(G:Gp)(H':Hp)(G':Gp):Prop where
 keep:∀ a o,H a=some o->G a=none->H' a=some o/\G' a=none
 o9:∀ a,G a≠none->H' a≠none
 ab:oB K H' G'
theorem Mv.refl{K:aw}{H:Hp}{G:Gp}(h:oB K H G):Mv K H G H G:=⟨fun _ _ e n=>⟨e,n⟩,fun a n=>by
 cases q:G a with
 | none=>exact absurd q n
 | some g=>exact(h a g q).tracked,h⟩
theorem Mv.trans{K:aw}{H H1 H2:Hp}{G G1 G2:Gp}(a:Mv K H G H1 G1)(b:Mv K H1 G1 H2 G2):Mv K H G H2 G2 :=
 ⟨fun c o e n=>let ⟨e1,n1⟩:=a.keep c o e n; b.keep c o e1 n1,fun c n=>by
  have h1:=a.o9 c n;cases q:G1 c with
  | some g=>exact b.o9 c (by rw [q]; simp)
  | none =>
   cases q1:H1 c with
   | none=>exact absurd q1 h1
   | some o=>rw [(b.keep c o q1 q).1]; simp,b.ab⟩
theorem Mv.kp{K:aw}{H H':Hp}{G G':Gp}(m:Mv K H G H' G')(h:oB K H G):Kp H H' :=
 ⟨fun a xs e=>(m.keep a _ e (h.V2 e)).1,fun a o u e=>(m.keep a _ e (h.V3 e)).1⟩
theorem Kp.new{H:Hp}{p:Addr}{o:HO}(hp:H p=none):Kp H (upd H p o):=⟨fun a xs e=>by rw [cw (fm e hp)]; exact e,fun a ob u e=>by rw [cw (fm e hp)]; exact e⟩
theorem Kp.putL{H:Hp}{p:Addr}{xs:List V}{o:HO}(hp:H p=some (.lst xs)):Kp H (upd H p o) :=
 ⟨fun a ys e=>by rw [cw (by rintro rfl; rw [hp] at e; cases e)]; exact e,fun a ob u e=>by rw [cw (by rintro rfl; rw [hp] at e; cases e)]; exact e⟩
theorem Mv.new{K:aw}{H:Hp}{G:Gp}{p:Addr}{o:HO}{g:GO}(h:oB K H G)(hp:H p=none)(ho:PV K (upd H p o) p g):Mv K H G (upd H p o) (cW G p g) where
 keep:=fun a ob e n=>by
  have ne:=fm e hp;exact⟨by rw [cw ne]; exact e,by rw [eR ne]; exact n⟩
 o9:=fun a n=>by
  have ne:a≠p:=by rintro rfl; exact n (h.free hp)
  rw [cw ne];exact(Mv.refl h).o9 a n
 ab:=fun a g' e=>by
  by_cases ha:a=p
  ·subst ha; rw [aC] at e; cases e; exact ho
  ·rw [eR ha] at e;exact(h a g' e).mono (.new hp) (cw ha)
theorem Mv.R5{K:aw}{H:Hp}{G:Gp}{p:Addr}{o:HO}(h:oB K H G)(hp:H p=none):Mv K H G (upd H p o) G where
 keep:=fun a ob e n=>⟨by rw [cw (fm e hp)]; exact e,n⟩
 o9:=fun a n=>by
  have ne:a≠p:=by rintro rfl; exact n (h.free hp)
  rw [cw ne];exact(Mv.refl h).o9 a n
 ab:=fun a g' e=>by
  have ne:a≠p:=by rintro rfl; rw [h.free hp] at e; cases e
  exact(h a g' e).mono (.new hp) (cw ne)
theorem Mv.put{K:aw}{H:Hp}{G:Gp}{p:Addr}{o:HO}{g g0:GO}(h:oB K H G)(hg:G p=some g0)(k:Kp H (upd H p o))(ho:PV K (upd H p o) p g):Mv K H G (upd H p o) (cW G p g) where
 keep:=fun a ob e n=>by
  have ne:a≠p:=by rintro rfl; rw [hg] at n; cases n
  exact⟨by rw [cw ne]; exact e,by rw [eR ne]; exact n⟩
 o9:=fun a n=>by
  by_cases ha:a=p
  ·subst ha; rw [dv]; simp
  ·rw [cw ha]; exact(Mv.refl h).o9 a n
 ab:=fun a g' e=>by
  by_cases ha:a=p
  ·subst ha; rw [aC] at e; cases e; exact ho
  ·rw [eR ha] at e;exact(h a g' e).mono k (cw ha)
theorem oB.lst{K:aw}{H:Hp}{G:Gp}{a:Addr}{ds:List D}(h:oB K H G)(e:G a=some (.lst ds)):∃ vs,H a=some (.lst vs)/\bA K H vs ds:=h a _ e
theorem Mv.GK{K:aw}{H:Hp}{G:Gp}{p:Addr}{vs:List V}{ds:List D}(h:oB K H G)(hp:H p=none)(r:bA K H vs ds):Mv K H G (upd H p (.lst vs)) (cW G p (.lst ds)) :=
 .new h hp ⟨vs,dv,r.mono (.new hp)⟩
theorem Mv.putL{K:aw}{H:Hp}{G:Gp}{p:Addr}{vs0 vs:List V}{ds0 ds:List D}(h:oB K H G)(hg:G p=some (.lst ds0))(hp:H p=some (.lst vs0))(r:bA K H vs ds):Mv K H G (upd H p (.lst vs)) (cW G p (.lst ds)) :=
 .put h hg (.putL hp) ⟨vs,dv,r.mono (.putL hp)⟩
structure Qe(K:aw)(H:Hp)(σ:L2.St)(τ:iP):Prop where
 len:σ.length=τ.length
 at':∀ (i:Nat) (d:D),τ[i]?=some (some d)->∃ v,σ[i]?=some (some v)/\dh K H v d
theorem Qe.mono{K:aw}{H H':Hp}{σ:L2.St}{τ:iP}(k:Kp H H')(a:Qe K H σ τ):Qe K H' σ τ :=
 ⟨a.len,fun i d e=>let ⟨v,h1,h2⟩:=a.at' i d e; ⟨v,h1,h2.mono k⟩⟩
theorem Qe.set{K:aw}{H:Hp}{σ:L2.St}{τ:iP}{v:V}{d:D}(a:Qe K H σ τ)(i:Nat)(r:dh K H v d):Qe K H (σ.set i (some v)) (τ.set i (some d)):=by
 refine⟨by rw [qr,qr]; exact a.len,fun j e h=>?_⟩;by_cases hj:i=j
 ·subst hj;by_cases hi:i < τ.length
  ·rw [iz hi] at h;cases h;exact⟨v,by rw [iz (by rw [a.len]; exact hi)],r⟩
  ·rw [List.set_eq_of_length_le (by lia)] at h;rw [PW (by lia)] at h;cases h
 ·rw [kM hj] at h;obtain⟨w,h1,h2⟩:=a.at' j e h;exact⟨w,by rw [kM hj]; exact h1,h2⟩
structure I2(X:Cx)(pins:List (Addr×Obj))(σ:L2.St)(H:Hp)(τ:iP)(G:Gp)(s:aF):Prop where
 inv:Inv X pins σ H s
 st:Qe X.K H σ τ
 ab:oB X.K H G
theorem I2.mv{X:Cx}{pins:List (Addr×Obj)}{σ:L2.St}{H H':Hp}{τ:iP}{G G':Gp}{s s':aF}(I:I2 X pins σ H τ G s)(I':Inv X pins σ H' s')(m:Mv X.K H G H' G'):I2 X pins σ H' τ G' s' :=
 ⟨I',I.st.mono (m.kp I.ab),m.ab⟩
noncomputable def CXe(P:bU)(w:World):Lq:=fun outer H s E e s'=>∃ (a C t:Addr) (B:Heap) (H':Hp),e=.ref a/\s'.os=s.os/\DX s'.gens/\Un (Nb outer) [] H H' s.heap s'.heap/\vB P w H' s'.heap /\
 (∀ b o,s'.heap.get? b=some o->b∉Nb outer->(s.heap.get? b≠none\/H' b≠none)->B.get? b=some o)/\PySem.Heap.FlyingW B outer a (.ref C) (.ref t) s'.heap/\H' a=none/\s.heap.get? a=none/\E (.ref C) none H'
noncomputable def exK(mg:Str->Option Value)(E:mW):XK:=fun cls _ _=>∃ (ex:Ex) (C:Addr),cls=.ref C/\mg ex.cls=some (.ref C)/\E ex (fun _=>none)
structure Lk(X:Cx)(E:mW):Prop where
 made:∀ (pins:List (Addr×Obj)) (σ:L2.St) (H:Hp) (s:aF) (h1:Heap) (a C:Addr) (args:List Value) (ex:Ex),Inv X pins σ H s->PySem.Heap.MadeExcOf s.heap h1 a (.ref C) args->X.mg ex.cls=some (.ref C)->E ex (fun _=>none)->X.xe (.ref a) { s with heap:=h1 }
 pass:∀ (pins:List (Addr×Obj)) (σ:L2.St) (H:Hp) (s s':aF) (e:Value),Inv X pins σ H s->CXe X.prog X.w X.stack H s (exK X.mg E) e s'->X.xe e s'
theorem Lk.none{X:Cx}{E:mW}(h:∀ ex G,¬ E ex G):Lk X E where
 made:=fun _ _ _ _ _ _ _ _ ex _ _ _ z=>absurd z (h ex _)
 pass:=fun _ _ _ _ _ _ _ hc=>by
  obtain⟨_,_,_,_,_,_,_,_,_,_,_,_,_,_,hz⟩:=hc;obtain⟨ex,_,_,_,z⟩:=hz;exact absurd z (h ex _)
inductive tK (X:Cx) (pins:List (Addr×Obj)) (σ:L2.St) (H:Hp) (G:Gp) (Q:DK) (u:Value) (s':aF):Prop
 | mk (v:V) (H':Hp) (d:D) (G':Gp) (i:Inv X pins σ H' s') (m:Mv X.K H G H' G') (r:RelV v u) (rd:dh X.K H' v d) (q:Q d G'):tK X pins σ H G Q u s'
inductive UX (X:Cx) (pins:List (Addr×Obj)) (σ:L2.St) (H:Hp) (G:Gp) (Q:Bool->Gp->Prop) (b:Bool) (s':aF):Prop
 | mk (H':Hp) (G':Gp) (i:Inv X pins σ H' s') (m:Mv X.K H G H' G') (q:Q b G'):UX X pins σ H G Q b s'
inductive AP2 (X:Cx) (pins:List (Addr×Obj)) (σ:L2.St) (H:Hp) (G:Gp) (Q:List D->Gp->Prop) (us:List Value) (s':aF):Prop
 | mk (vs:List V) (H':Hp) (ds:List D) (G':Gp) (i:Inv X pins σ H' s') (m:Mv X.K H G H' G') (r:Vals vs us) (rd:bA X.K H' vs ds) (q:Q ds G'):AP2 X pins σ H G Q us s'
inductive XR (X:Cx) (pins:List (Addr×Obj)) (H:Hp) (G:Gp) (P:iP->Gp->Prop) (s':aF):Prop
 | mk (kE:L2.St) (H':Hp) (lH:iP) (G':Gp) (i:I2 X pins kE H' lH G' s') (m:Mv X.K H G H' G') (q:P lH G'):XR X pins H G P s'
inductive SPr (X:Cx) (pins:List (Addr×Obj)) (H:Hp) (G:Gp) (P:D->Gp->Prop) (u:Value) (s':aF):Prop
 | mk (v:V) (kE:L2.St) (H':Hp) (d:D) (G':Gp) (i:Inv X pins kE H' s') (m:Mv X.K H G H' G') (r:RelV v u) (rd:dh X.K H' v d) (q:P d G'):SPr X pins H G P u s'
noncomputable def Ux(X:Cx)(pins:List (Addr×Obj))(H:Hp)(G:Gp)(D:lM)(f:Flow)(s':aF):Prop :=
 match f with
 | .next=>XR X pins H G D.nx s'
 | .brk=>XR X pins H G D.bk s'
 | .cont=>XR X pins H G D.ct s'
 | .ret u=>SPr X pins H G D.rt u s'
noncomputable def iD(X:Cx)(e:Expr)(t:hW):Prop :=
 ∀ (E:mW) (pins:List (Addr×Obj)) (s:aF) (σ:L2.St) (H:Hp) (τ:iP) (G:Gp) (Q:DK),Lk X E->I2 X pins σ H τ G s->t E τ G Q->wpAny (model X.prog X.w) X.A (eval e X.env) (tK X pins σ H G Q) X.xe s
noncomputable def Ln(X:Cx)(e:Expr)(t:zE):Prop :=
 ∀ (E:mW) (pins:List (Addr×Obj)) (s:aF) (σ:L2.St) (H:Hp) (τ:iP) (G:Gp) (Q:Bool->Gp->Prop),Lk X E->I2 X pins σ H τ G s->t E τ G Q->wpAny (model X.prog X.w) X.A (isTrue e X.env (eval e X.env)) (UX X pins σ H G Q) X.xe s
noncomputable def Cc(X:Cx)(e:Expr)(t:zE):Prop :=
 ∀ (wh:Sem Value) (E:mW) (pins:List (Addr×Obj)) (s:aF) (σ:L2.St) (H:Hp) (τ:iP) (G:Gp) (Q:Bool->Gp->Prop),Lk X E->I2 X pins σ H τ G s->t E τ G Q->wpAny (model X.prog X.w) X.A (isTrue e X.env wh) (UX X pins σ H G Q) X.xe s
noncomputable def FN(X:Cx)(es:List Expr)(t:DN):Prop :=
 ∀ (pos:Pos) (E:mW) (pins:List (Addr×Obj)) (s:aF) (σ:L2.St) (H:Hp) (τ:iP) (G:Gp) (Q:List D->Gp->Prop),Lk X E->I2 X pins σ H τ G s->t E τ G Q->wpAny (model X.prog X.w) X.A (spliced (nG pos (cq es X.env))) (AP2 X pins σ H G Q) X.xe s
noncomputable def Iq(X:Cx)(st:Stmt)(t:g7):Prop :=
 ∀ (E:mW) (pins:List (Addr×Obj)) (s:aF) (σ:L2.St) (H:Hp) (τ:iP) (G:Gp) (D:lM),Lk X E->I2 X pins σ H τ G s->t E D τ G->wpAny (model X.prog X.w) X.A (exec st X.env) (Ux X pins H G D) X.xe s
noncomputable def BR(X:Cx)(st:List Stmt)(t:g7):Prop :=
 ∀ (E:mW) (pins:List (Addr×Obj)) (s:aF) (σ:L2.St) (H:Hp) (τ:iP) (G:Gp) (D:lM),Lk X E->I2 X pins σ H τ G s->t E D τ G->wpAny (model X.prog X.w) X.A (execs st X.env) (Ux X pins H G D) X.xe s
theorem Ux.trans{X:Cx}{pins:List (Addr×Obj)}{H H1:Hp}{G G1:Gp}{D:lM}{f:Flow}{s':aF}(m:Mv X.K H G H1 G1)(h:Ux X pins H1 G1 D f s'):Ux X pins H G D f s':=by
 cases f with
 | next=>obtain⟨kE,H',lH,G',I,m',q⟩:=h; exact⟨kE,H',lH,G',I,m.trans m',q⟩
 | brk=>obtain⟨kE,H',lH,G',I,m',q⟩:=h; exact⟨kE,H',lH,G',I,m.trans m',q⟩
 | cont=>obtain⟨kE,H',lH,G',I,m',q⟩:=h; exact⟨kE,H',lH,G',I,m.trans m',q⟩
 | ret u=>obtain⟨v,kE,H',d,G',I,m',r,rd,q⟩:=h; exact⟨v,kE,H',d,G',I,m.trans m',r,rd,q⟩
section
variable {X:Cx} {a b c:Expr} {ta tb tc:hW} {pos:Pos}
theorem lO{pins:List (Addr×Obj)}{σ:L2.St}{H:Hp}{τ:iP}{G:Gp}{s:aF}{E:mW}{R:DK}{Q:Value->aF->Prop}(ha:iD X a ta)(hE:Lk X E)(I:I2 X pins σ H τ G s)(h:ta E τ G R)
  (k:∀ v H1 d G1 u s1,I2 X pins σ H1 τ G1 s1->Mv X.K H G H1 G1->RelV v u->dh X.K H1 v d->R d G1->Q u s1):wpAny (model X.prog X.w) X.A (eval a X.env) Q X.xe s :=
 iy (ha E pins s σ H τ G R hE I h) (by rintro u s1 ⟨v,H1,d,G1,I1,m,r,rd,q⟩; exact k v H1 d G1 u s1 (I.mv I1 m) m r rd q)
theorem tK.trans{pins:List (Addr×Obj)}{σ:L2.St}{H H1:Hp}{G G1:Gp}{Q:DK}{u:Value}{s':aF}(m:Mv X.K H G H1 G1)(h:tK X pins σ H1 G1 Q u s'):tK X pins σ H G Q u s':=by
 obtain⟨v,H',d,G',I,m',r,rd,q⟩:=h;exact⟨v,H',d,G',I,m.trans m',r,rd,q⟩
theorem UX.trans{pins:List (Addr×Obj)}{σ:L2.St}{H H1:Hp}{G G1:Gp}{Q:Bool->Gp->Prop}{u:Bool}{s':aF}(m:Mv X.K H G H1 G1)(h:UX X pins σ H1 G1 Q u s'):UX X pins σ H G Q u s':=by
 obtain⟨H',G',I,m',r⟩:=h;exact⟨H',G',I,m.trans m',r⟩
theorem QU {i:Nat} {x:Str} (hN:X.N[i]?=some x) (hv:XO X.env.scope x) (hd:autoParam ((x == ("__debug__" : Str))=false) Ad._auto_1) (K0:autoParam ((x == ("__classdict__" : Str))=false) Ad._auto_1):iD X (.Name x pos) (aj i):=by
 intro E pins s σ H τ G Q hE I h;unfold aj at h;split at h
 ·rename_i d e;obtain⟨v,h1,h2⟩:=I.st.at' i d e;exact iy (S0 hN hv hd K0 pins s σ H (fun v' H'=>v'=v/\H'=H) I.inv ⟨v,h1,rfl,rfl⟩) fun u s1 TN=>by
   obtain⟨v',H',I1,r,e1,e2⟩:=TN;subst e1; subst e2;exact⟨_,_,d,G,I1,.refl I.ab,r,h2,h⟩
 ·exact h.elim
theorem tZ{e:Expr}{v:V}{d:D}(h:PE X e (tC v))(r:∀ K H,dh K H v d):iD X e (dC d):=by
 intro E pins s σ H τ G Q hE I hq;exact iy (h pins s σ H (fun v' H'=>v'=v/\H'=H) I.inv ⟨rfl,rfl⟩) fun u s1 KW=>by
  obtain⟨v',H',I1,rr,e1,e2⟩:=KW;subst e1; subst e2;exact⟨_,_,d,G,I1,.refl I.ab,rr,r _ _,hq⟩
theorem aA{i j}:iD X (.Constant (.int i) j pos) (dC (.int i)):=tZ S4 fun _ _=>.int i
noncomputable def vt(X:Cx)(f:Value->Value->Sem Value)(r:HZ):Prop :=
 ∀ (pins:List (Addr×Obj)) (s:aF) (σ:L2.St) (H:Hp) (G:Gp) (x y:V) (dx dy:D) (v u:Value) (Q:DK),Inv X pins σ H s->oB X.K H G->RelV x v->RelV y u->dh X.K H x dx->dh X.K H y dy->r dx dy G Q ->
  wpAny (model X.prog X.w) X.A (f v u) (tK X pins σ H G Q) X.xe s
noncomputable def W3(X:Cx)(f:Value->Sem Value)(r:D->Gp->DK->Prop):Prop :=
 ∀ (pins:List (Addr×Obj)) (s:aF) (σ:L2.St) (H:Hp) (G:Gp) (x:V) (dx:D) (v:Value) (Q:DK),Inv X pins σ H s->oB X.K H G->RelV x v->dh X.K H x dx->r dx G Q ->
  wpAny (model X.prog X.w) X.A (f v) (tK X pins σ H G Q) X.xe s
noncomputable def yu(X:Cx)(f:Value)(r:List D->Gp->DK->Prop):Prop :=
 ∀ (pins:List (Addr×Obj)) (s:aF) (σ:L2.St) (H:Hp) (G:Gp) (xs:List V) (ds:List D) (us:List Value) (Q:DK),Inv X pins σ H s->oB X.K H G->Vals xs us->bA X.K H xs ds->r ds G Q ->
  wpAny (model X.prog X.w) X.A (call f us) (tK X pins σ H G Q) X.xe s
noncomputable abbrev Cb(K:aw)(H:Hp)(G:Gp)(Q:DK):VK:=fun v H'=>∃ d G',Mv K H G H' G'/\dh K H' v d/\Q d G'
theorem tK.of{pins:List (Addr×Obj)}{σ:L2.St}{H:Hp}{G:Gp}{Q:DK}{u:Value}{s':aF}(h:EP X pins σ (Cb X.K H G Q) u s'):tK X pins σ H G Q u s':=by
 obtain⟨v,H',I,r,d,G',m,rd,q⟩:=h;exact⟨v,H',d,G',I,m,r,rd,q⟩
theorem PG(ha:iD X a ta)(hb:iD X b tb){E:mW}{pins:List (Addr×Obj)}{s:aF}{σ:L2.St}{H:Hp}{τ:iP}{G:Gp}{R:D->D->Gp->Prop}(hE:Lk X E)(I:I2 X pins σ H τ G s)
  (h:ta E τ G fun x G1=>tb E τ G1 fun y G2=>R x y G2) {Q:Value->aF->Prop} {f:Value->Value->Sem Value}
  (hf:∀ v u s2 x y dx dy H2 G2,I2 X pins σ H2 τ G2 s2->Mv X.K H G H2 G2->RelV x v->RelV y u->dh X.K H2 x dx->dh X.K H2 y dy->R dx dy G2->wpAny (model X.prog X.w) X.A (f v u) Q X.xe s2) :
  wpAny (model X.prog X.w) X.A (eval a X.env) (fun v gF=>wpAny (model X.prog X.w) X.A (eval b X.env) (fun u lQ=>wpAny (model X.prog X.w) X.A (f v u) Q X.xe lQ) X.xe gF) X.xe s:=by
 refine lO ha hE I h fun x H1 dx G1 v s1 I1 m1 r1 j0 q1=>?_;refine lO hb hE I1 q1 fun y H2 dy G2 u s2 mX m2 r2 Ee q2=>?_;exact hf v u s2 x y dx dy H2 G2 mX (m1.trans m2) r1 r2 (j0.mono (m2.kp I1.ab)) Ee q2
theorem cY{op:Operator}{r:HZ}(ho:vt X (lF op) r)(ha:iD X a ta)(hb:iD X b tb):iD X (.BinOp a op b pos) (aM r ta tb):=by
 intro E pins s σ H τ G Q hE I h;exact wpAny_BinOp (PG ha hb hE I h fun v u s2 x y dx dy H2 G2 mX m rx ry dX dY q=>iy (ho pins s2 σ H2 G2 x y dx dy v u Q mX.inv mX.ab rx ry dX dY q) fun _ _ z=>z.trans m)
theorem sD{op:UnaryOp}{r:D->Gp->DK->Prop}(ho:W3 X (unaryOp op) r)(ha:iD X a ta):iD X (.UnaryOp op a pos) (CM r ta):=by
 intro E pins s σ H τ G Q hE I h;exact UnaryOp_ (lO ha hE I h fun x H1 dx G1 v s1 I1 m1 r1 j0 q1=>iy (ho pins s1 σ H1 G1 x dx v Q I1.inv I1.ab r1 j0 q1) fun _ _ z=>z.trans m1)
theorem t4{op:CmpOp}{r:HZ}(ho:vt X (gw op) r)(ha:iD X a ta)(hb:iD X b tb)(hm:behindInMarks op b=false):iD X (.Compare a [op] [b] pos) (aM r ta tb):=by
 intro E pins s σ H τ G Q hE I h;exact wpAny_Compare1 (PG ha hb hE I h fun v u s2 x y dx dy H2 G2 mX m rx ry dX dY q=>iy (ho pins s2 σ H2 G2 x y dx dy v u Q mX.inv mX.ab rx ry dX dY q) fun _ _ z=>z.trans m) hm
end
end K2
end
section
namespace K2
open PySem PySem.Spec PyProof.Rows L2
theorem Vk{K:aw}{H:Hp}{G:Gp}{x:V}{d:D}{k:Bool}(ab:oB K H G)(r:dh K H x d)(e:LC d G=some k):(∃ p,x=.ref p/\Rd H p (.dT [])/\k=false)\/(∃ p kv,x=.ref p/\Rd H p (.dK kv)/\k=!kv.isEmpty)\/Uv K x H k:=by
 have Pn:∀ bB:List (D×D),(if (bB.all fun p=>gY p.1)=true then some (!bB.isEmpty) else none)=some k->∀ p,((∃ kv,Rd H p (.dK kv)/\rN K H kv bB)\/∃ kv,Rd H p (.dT kv)/\tM K H kv bB) ->
   (∃ p',V.ref p=.ref p'/\Rd H p' (.dT [])/\k=false)\/(∃ p' kv,V.ref p=.ref p'/\Rd H p' (.dK kv)/\k=!kv.isEmpty)\/Uv K (.ref p) H k:=by
  intro bB e p z;by_cases ha:(bB.all fun p=>gY p.1)=true
  ·rw [if_pos ha] at e;cases e;rcases z with ⟨kv,hv,rs⟩ | ⟨kv,hv,rs⟩
   ·right; left;refine⟨p,kv,rfl,hv,?_⟩;cases rs <;> rfl
   ·left;cases rs with
    | nil=>exact⟨p,rfl,hv,rfl⟩
    | cons _ _=>simp [gY] at ha
  ·rw [if_neg ha] at e; cases e
 cases r with
 | eK=>right; right; cases e; rfl
 | bl b=>right; right; cases e; rfl
 | int i=>right; right; cases e; rfl
 | str y =>
  right; right;unfold LC at e;dsimp only at e;by_cases h:y.length<=SZ
  ·rw [if_pos h] at e; cases e; exact⟨by rw [dm]; exact h,rfl⟩
  ·rw [if_neg h] at e; cases e
 | tup h rs =>
  right; right;cases e;refine .inr (.inl ⟨_,.of h,?_⟩);cases rs <;> rfl
 | fJ h rs =>
  right; right;cases e;refine .inl ⟨_,h.sq,?_⟩;cases rs <;> rfl
 | wb h rs=>exact Pn _ e _ (.inl ⟨_,.inr ⟨_,h⟩,rs⟩)
 | wa h rs=>exact Pn _ e _ (.inr ⟨_,.inr ⟨_,h⟩,rs⟩)
 | exc h=>simp [LC] at e
 | ref a =>
  unfold LC at e;dsimp only at e;cases q:G a with
  | none=>rw [q] at e; cases e
  | some g =>
   rw [q] at e;have z:=ab a g q;cases g with
   | lst ds =>
    right; right;obtain⟨vs,hv,rs⟩:=z;cases e;refine .inl ⟨vs,.of hv,?_⟩;cases rs <;> rfl
   | ins _ _=>cases e
   | oq bB =>
    refine Pn bB e a ?_;rcases z with ⟨kv,hv,rs⟩ | ⟨kv,hv,rs⟩
    ·exact .inl ⟨kv,.inl hv,rs⟩
    ·exact .inr ⟨kv,.inl hv,rs⟩
section
variable {X:Cx} {a b c:Expr} {ta tb tc:hW} {pos:Pos}
noncomputable def W5(X:Cx):Prop:=∀ (pins:List (Addr×Obj)) (s:aF) (σ:L2.St) (H:Hp) (G:Gp) (x:V) (d:D) (v:Value) (k:Bool) (Q:Bool->aF->Prop),Inv X pins σ H s->oB X.K H G->RelV x v->dh X.K H x d->LC d G=some k ->
  (∀ s',Inv X pins σ H s'->Q k s')->wpAny (model X.prog X.w) X.A (truthy v) Q X.xe s
theorem IK:W5 X:=by
 intro pins s σ H G x d v k Q I ab rx rd e q;rcases Vk ab rd e with ⟨p,rfl,hv,hk⟩ | ⟨p,kv,rfl,hv,hk⟩ | h
 ·obtain⟨z,hS,xs,rel,o,es,ep,ho,hx,MC,hl,nd⟩:=hv.ok I.fB;have Zt:xs=[]:=by cases rel; rfl
  subst Zt;have he:es=#[]:=by simpa using hl
  subst he;cases rx;have dd:s.heap.DictOf (iE X.prog X.w) p []:=⟨o,#[],ep,ho,hx,MC,(fun _ h=>by simp at h),.nil,lB⟩;refine Iv hS dd (by simp) ?_;subst hk;exact q _ (I.tok _)
 ·cases rx;subst hk;exact Rt I hv q
 ·exact iy (SA pins s σ H x v (fun k' H'=>k'=k/\H'=H) I rx ⟨k,h,rfl,rfl⟩) fun k' s' TN=>by
   obtain⟨H',I',e1,e2⟩:=TN;subst e1; subst e2; exact q s' I'
theorem cJ(ha:iD X a ta)(he:autoParam (∀ whole,isTrue a X.env whole=(do let v ← whole; standAt a.pos; Ni [v] (truthy v))) Ai._auto_1):Ln X a (c8 ta):=by
 intro E pins s σ H τ G Q hE I h;refine isTrue_plain (lO ha hE I h fun x H1 d G1 v s1 I1 m1 r1 j0 q1=>?_) (he _)
 try dsimp only at q1
 split at q1
 ·rename_i k e;exact IK pins s1 σ H1 G1 x d v k _ I1.inv I1.ab r1 j0 e fun s' I'=>⟨H1,G1,I',m1,q1⟩
 ·exact q1.elim
theorem cj{op:CmpOp}{r:HZ}(ho:vt X (gw op) r)(ha:iD X a ta)(hb:iD X b tb)(hm:behindInMarks op b=false):Ln X (.Compare a [op] [b] pos) (c8 (aM r ta tb)):=by
 intro E pins s σ H τ G Q hE I h;refine wpAny_isTrue_Compare1 (lO ha hE I h fun x H1 dx G1 v s1 I1 m1 r1 j0 q1=>lO hb hE I1 q1 fun y H2 dy G2 u s2 mX m2 r2 Ee q2 =>
  iy (ho pins s2 σ H2 G2 x y dx dy v u _ mX.inv mX.ab r1 r2 (j0.mono (m2.kp I1.ab)) Ee q2) ?_) hm
 rintro c s3 ⟨z,H3,dz,G3,I3,m3,r3,Vz,q3⟩
 try dsimp only at q3
 split at q3
 ·rename_i k e;exact IK pins s3 σ H3 G3 z dz c k _ I3 m3.ab r3 Vz e fun s' I'=>⟨H3,G3,I',(m1.trans m2).trans m3,q3⟩
 ·exact q3.elim
variable {tA tB:zE} {rest:List Expr}
theorem Cc.pt{e:Expr}{t:zE}(h:Cc X e t):Ln X e t:=fun E pins s σ H τ G Q hE I q=>h _ E pins s σ H τ G Q hE I q
theorem LD{pins:List (Addr×Obj)}{σ:L2.St}{H:Hp}{τ:iP}{G:Gp}{s:aF}{E:mW}{R:Bool->Gp->Prop}{Q:Bool->aF->Prop}(ha:Ln X a tA)(hE:Lk X E)(I:I2 X pins σ H τ G s)(h:tA E τ G R)
  (k:∀ c H1 G1 s1,I2 X pins σ H1 τ G1 s1->Mv X.K H G H1 G1->R c G1->Q c s1):wpAny (model X.prog X.w) X.A (isTrue a X.env (eval a X.env)) Q X.xe s :=
 iy (ha E pins s σ H τ G R hE I h) (by rintro c s1 ⟨H1,G1,I1,m,q⟩; exact k c H1 G1 s1 (I.mv I1 m) m q)
theorem Oc(ha:Ln X a tA):Cc X (.BoolOp .And [a] pos) tA:=by
 intro wh E pins s σ H τ G Q hE I h;refine isTrue_and (iy (ha E pins s σ H τ G Q hE I h) fun c s1 e=>?_);cases c with
 | true=>exact isTrue_and_nil e
 | false=>exact e
theorem jO(ha:Ln X a tA):Cc X (.BoolOp .Or [a] pos) tA:=by
 intro wh E pins s σ H τ G Q hE I h;refine isTrue_or (iy (ha E pins s σ H τ G Q hE I h) fun c s1 e=>?_);cases c with
 | false=>exact isTrue_or_nil e
 | true=>exact e
theorem QN(ha:Ln X a tA)(hb:Cc X (.BoolOp .And (b :: rest) pos) tB):Cc X (.BoolOp .And (a :: b :: rest) pos) (JQ tA tB):=by
 intro wh E pins s σ H τ G Q hE I h;refine isTrue_and (LD ha hE I h fun c H1 G1 s1 I1 m1 q1=>?_);cases c with
 | true=>exact iy (hb wh E pins s1 σ H1 τ G1 Q hE I1 (by simpa using q1)) fun _ _ z=>z.trans m1
 | false=>exact⟨H1,G1,I1.inv,m1,by simpa using q1⟩
theorem lS(ha:Ln X a tA)(hb:Cc X (.BoolOp .Or (b :: rest) pos) tB):Cc X (.BoolOp .Or (a :: b :: rest) pos) (uw tA tB):=by
 intro wh E pins s σ H τ G Q hE I h;refine isTrue_or (LD ha hE I h fun c H1 G1 s1 I1 m1 q1=>?_);cases c with
 | false=>exact iy (hb wh E pins s1 σ H1 τ G1 Q hE I1 (by simpa using q1)) fun _ _ z=>z.trans m1
 | true=>exact⟨H1,G1,I1.inv,m1,by simpa using q1⟩
theorem eE(ha:Ln X a tA):Ln X (.UnaryOp .Not a pos) (fH tA):=by
 intro E pins s σ H τ G Q hE I h;exact isTrue_not (iy (ha E pins s σ H τ G (fun c H1=>Q (!c) H1) hE I h) (by rintro c s' ⟨H',G',i,m,q⟩; exact⟨H',G',i,m,q⟩))
theorem wI{op}{t:hW}(h:iD X a t):iD X (.BoolOp op [a] pos) t:=fun E pins s σ H τ G Q hE I hw=>BoolOp_one (h E pins s σ H τ G Q hE I hw)
theorem zX(ha:iD X a ta)(hb:iD X (.BoolOp .And (b :: rest) pos) tb):iD X (.BoolOp .And (a :: b :: rest) pos) (BH ta tb):=by
 intro E pins s σ H τ G Q hE I h;refine BoolOp_and (lO ha hE I h fun x H1 d G1 v s1 I1 m1 r1 j0 q1=>?_)
 try dsimp only at q1
 split at q1
 ·rename_i e;exact IK pins s1 σ H1 G1 x d v true _ I1.inv I1.ab r1 j0 e fun s' I'=>iy (hb E pins s' σ H1 τ G1 Q hE ⟨I',I1.st,I1.ab⟩ q1) fun _ _ z=>z.trans m1
 ·rename_i e;exact IK pins s1 σ H1 G1 x d v false _ I1.inv I1.ab r1 j0 e fun s' I'=>⟨x,H1,d,G1,I',m1,r1,j0,q1⟩
 ·exact q1.elim
theorem S5(ha:iD X a ta)(hb:iD X (.BoolOp .Or (b :: rest) pos) tb):iD X (.BoolOp .Or (a :: b :: rest) pos) (Ru ta tb):=by
 intro E pins s σ H τ G Q hE I h;refine BoolOp_or (lO ha hE I h fun x H1 d G1 v s1 I1 m1 r1 j0 q1=>?_)
 try dsimp only at q1
 split at q1
 ·rename_i e;exact IK pins s1 σ H1 G1 x d v true _ I1.inv I1.ab r1 j0 e fun s' I'=>⟨x,H1,d,G1,I',m1,r1,j0,q1⟩
 ·rename_i e;exact IK pins s1 σ H1 G1 x d v false _ I1.inv I1.ab r1 j0 e fun s' I'=>iy (hb E pins s' σ H1 τ G1 Q hE ⟨I',I1.st,I1.ab⟩ q1) fun _ _ z=>z.trans m1
 ·exact q1.elim
theorem QV(ha:iD X a ta):iD X (.UnaryOp .Not a pos) (Pu ta):=by
 intro E pins s σ H τ G Q hE I h;refine UnaryOp_ (lO ha hE I h fun x H1 d G1 v s1 I1 m1 r1 j0 q1=>?_)
 try dsimp only at q1
 split at q1
 ·rename_i k e;exact not_of (IK pins s1 σ H1 G1 x d v k _ I1.inv I1.ab r1 j0 e fun s' I'=>⟨.bl (!k),H1,.bl (!k),G1,I',m1,rfl,.bl _,q1⟩)
 ·exact q1.elim
theorem IX(hc:Ln X c tA)(ha:iD X a ta)(hb:iD X b tb):iD X (.IfExp c a b pos) (Um tA ta tb):=by
 intro E pins s σ H τ G Q hE I h;refine wpAny_IfExp (LD hc hE I h fun d H1 G1 s1 I1 m1 q1=>?_);cases d with
 | true=>exact iy (ha E pins s1 σ H1 τ G1 Q hE I1 (by simpa using q1)) fun _ _ z=>z.trans m1
 | false=>exact iy (hb E pins s1 σ H1 τ G1 Q hE I1 (by simpa using q1)) fun _ _ z=>z.trans m1
variable {e:Expr} {es:List Expr} {te:hW} {t:DN}
theorem av:FN X [] aH:=fun _ _ _ _ _ H _ G Q _ I h=>Calls.spliced_nil ⟨[],H,[],G,I.inv,.refl I.ab,.nil,.nil,h⟩
theorem af(ha:iD X e te)(hr:FN X es t)(hs:autoParam (cq (e :: es) X.env=(false,eval e X.env) :: cq es X.env) Ar._auto_1):FN X (e :: es) (ah te t):=by
 intro pos E pins s σ H τ G Q hE I h;rw [hs];show wpAny _ _ (spliced ((false,eval e X.env) :: nG pos (cq es X.env))) _ _ s;refine Az (lO ha hE I h fun x H1 d G1 u s1 I1 m1 r1 j0 q1=>?_);exact iy (hr pos E pins s1 σ H1 τ G1 _ hE I1 q1) (by rintro us s2 ⟨xs,H2,ds,G2,mX,m2,r2,Ee,q2⟩; exact⟨x :: xs,H2,d :: ds,G2,mX,m1.trans m2,.cons r1 r2,.cons (j0.mono (m2.kp I1.ab)) Ee,q2⟩)
theorem zg{pins:List (Addr×Obj)}{σ:L2.St}{H:Hp}{τ:iP}{G:Gp}{s:aF}{E:mW}{R:List D->Gp->Prop}{Q:List Value->aF->Prop}(ha:FN X es t)(pos:Pos)(hE:Lk X E)(I:I2 X pins σ H τ G s)(h:t E τ G R)
  (k:∀ vs H1 ds G1 us s1,I2 X pins σ H1 τ G1 s1->Mv X.K H G H1 G1->Vals vs us->bA X.K H1 vs ds->R ds G1->Q us s1):wpAny (model X.prog X.w) X.A (spliced (nG pos (cq es X.env))) Q X.xe s :=
 iy (ha pos E pins s σ H τ G R hE I h) (by rintro us s1 ⟨vs,H1,ds,G1,I1,m,r,rd,q⟩; exact k vs H1 ds G1 us s1 (I.mv I1 m) m r rd q)
theorem cK{x1}(h:FN X es t):iD X (.Tuple es x1 pos) (dW t):=by
 intro E pins s σ H τ G Q hE I hq;refine wpAny_Tuple_spliced (zg h pos hE I hq ?_);rintro xs H1 ds G1 us s1 I1 m1 r rd ⟨z,q⟩;refine⟨by rw [<-r.length,rd.length,dm]; exact z,?_⟩;have hf:H1 s1.heap.objs.size=none:=I1.inv.fB.fresh (aT _);refine⟨.ref s1.heap.objs.size,upd H1 s1.heap.objs.size (.tup xs),.tup ds,G1,I1.inv.laid (t':=s1.toks) (fun b u e=>aY _ e) (aT _) ?_,m1.trans (.R5 I1.ab hf),rfl,?_,q⟩
 ·exact⟨by rw [rd.length,dm]; exact z,us,r,⟨_,cf _ rfl,rfl,_,rfl⟩⟩
 ·exact .tup dv (rd.mono (.new hf))
theorem eh(h:FN X es t):iD X (.List es pos) (fh t):=by
 intro E pins s σ H τ G Q hE I hq;refine wpAny_List_spliced (zg h pos hE I hq ?_);rintro xs H1 ds G1 us s1 I1 m1 r rd ⟨z,q⟩;refine⟨by rw [<-r.length,rd.length,dm]; exact z,?_⟩;have hf:H1 s1.heap.objs.size=none:=I1.inv.fB.fresh (aT _);refine⟨.ref s1.heap.objs.size,upd H1 s1.heap.objs.size (.lst xs),.ref _,cW G1 s1.heap.objs.size (.lst ds),I1.inv.laid (t':=s1.toks) (fun b u e=>aY _ e) (aT _) ?_,m1.trans (.GK I1.ab hf rd),rfl,.ref _,q _ (I1.ab.free hf)⟩;exact⟨by rw [rd.length,dm]; exact z,us,0,r,cf _ rfl⟩
noncomputable def bK(K:aw)(sp:jx):Sp:=fun vs H Q _=>∃ ds G Q2,bA K H vs ds/\oB K H G/\sp ds G Q2 (fun _ _=>False)/\∀ d G' v H',Q2 d G'->Mv K H G H' G'->dh K H' v d->Q v H'
variable {k:Nat} {f:Addr} {fd:ay} {ps:List Str} {sp:jx} {x:Str} {p:Pos} {r:List D->Gp->DK->Prop} {id:String}
theorem Ou(F:eA X.prog X.w X.K X.mg X.base eB k f fd ps (bK X.K sp))(hr:kK k X.A)(hg:Gl X x)(hm:X.mg x=some (.ref f))(hk:gh X.K (.ref f)=true)(hb:Binds X.K fd ps [])
  (ha:FN X (e :: es) t) (O0:autoParam ((x == ("__debug__" : Str))=false) Ad._auto_1) (he:autoParam (cq (e :: es) X.env=(false,eval e X.env) :: cq es X.env) Ar._auto_1) (u0:autoParam ((nG pos (cq es X.env)).any (·.1)=false) Ar._auto_1) :
  iD X (.Call (.Name x p) (e :: es) [] pos) (fun E τ G Q=>a8 (fun ds G1 Q1 _=>sp ds G1 Q1 fun _ _=>False) t E τ G Q):=by
 intro E pins s σ H τ G Q hE I h;refine nC (Ew I.inv hg hm ?_ O0);refine zf (h₀:=X.base) I.inv.ok.mod.UN hk (zg ha pos hE I h fun vs H1 ds G1 us s1 I1 m1 r rd q=>⟨I1.inv.Cw,?_⟩) he u0;refine iy (IT F hr hb .nil Kx I1.inv r (Q:=Cb X.K H1 G1 Q) ?_) fun _ _ z=>(tK.of z).trans m1;rw [dc];exact⟨ds,G1,Q,rd,I1.ab,q,fun d G' v H' q' m' P5=>⟨d,G',m',P5,q'⟩⟩
theorem ck (hc:yu X (.builtin id) r) (hg:Gl X x) (hm:X.mg x=none) (hv:eN x=some (.builtin id)) (ha:FN X (e :: es) t) (hn:autoParam (x≠"__name__") Ad._auto_1) (O0:autoParam ((x == ("__debug__" : Str))=false) Ad._auto_1)
  (he:autoParam (cq (e :: es) X.env=(false,eval e X.env) :: cq es X.env) Ar._auto_1) (u0:autoParam ((nG pos (cq es X.env)).any (·.1)=false) Ar._auto_1):iD X (.Call (.Name x p) (e :: es) [] pos) (ju r t):=by
 intro E pins s σ H τ G Q hE I h;refine nC (qO I.inv hg hm hv ?_ hn O0);exact xE (zg ha pos hE I h fun vs H1 ds G1 us s1 I1 m1 r1 j0 q1=>iy (hc pins s1 σ H1 G1 vs ds us Q I1.inv I1.ab r1 j0 q1) fun _ _ z=>z.trans m1) he u0
variable {st:Stmt} {sts:List Stmt} {u v:g7}
theorem bG:BR X [] bz:=fun _ _ _ σ H τ G _ _ I h=>Ah ⟨σ,H,τ,G,I,.refl I.ab,h⟩
theorem az(h1:Iq X st u)(h2:BR X sts v):BR X (st :: sts) (bE u v):=by
 intro E pins s σ H τ G D hE I h;refine wpAny_execs_cons (iy (h1 E pins s σ H τ G { D with nx:=v E D } hE I h) fun f s1 q=>?_);cases f with
 | next =>
  obtain⟨kE,H',lH,G',I',m,q⟩:=q;exact iy (h2 E pins s1 kE H' lH G' D hE I' q) fun _ _ z=>z.trans m
 | ret v=>exact q
 | brk=>exact q
 | cont=>exact q
theorem aE(h1:Iq X st u):BR X [st] u:=by
 intro E pins s σ H τ G D hE I h;refine wpAny_execs_cons (iy (h1 E pins s σ H τ G D hE I h) fun f s1 q=>?_);cases f with
 | next=>exact Ah q
 | ret v=>exact q
 | brk=>exact q
 | cont=>exact q
theorem bf(he:iD X e te):Iq X (.Return (some e) pos) (bw te):=by
 intro E pins s σ H τ G D hE I h;exact wpAny_Return_some (iy (he E pins s σ H τ G _ hE I h) (by rintro v s1 ⟨x,H1,d,G1,I1,m,r1,rd,q1⟩; exact⟨x,σ,H1,d,G1,I1,m,r1,rd,q1⟩))
theorem cH{sa sb:List Stmt}(hc:Ln X c tA)(ha:BR X sa u)(hb:BR X sb v):Iq X (.If c sa sb pos) (cA tA u v):=by
 intro E pins s σ H τ G D hE I h;refine wpAny_If (LD hc hE I h fun d H1 G1 s1 I1 m1 q1=>?_);cases d with
 | true=>exact iy (ha E pins s1 σ H1 τ G1 D hE I1 (by simpa using q1)) fun _ _ z=>z.trans m1
 | false=>exact iy (hb E pins s1 σ H1 τ G1 D hE I1 (by simpa using q1)) fun _ _ z=>z.trans m1
noncomputable def Nc(X:Cx)(target:Expr)(t:DM):Prop :=
 ∀ (E:mW) (pins:List (Addr×Obj)) (s:aF) (σ:L2.St) (H:Hp) (τ:iP) (G:Gp) (w:V) (d:D) (u:Value) (Q:iP->Gp->Prop),Lk X E->I2 X pins σ H τ G s->RelV w u->dh X.K H w d->t E d τ G Q ->
  wpAny (model X.prog X.w) X.A (Nk target X.env u) (fun _ s'=>∃ kE H' lH G',I2 X pins kE H' lH G' s'/\Mv X.K H G H' G'/\Q lH G') X.xe s
noncomputable def RB(X:Cx)(ts:List Expr)(t:Fm):Prop :=
 ∀ (E:mW) (pins:List (Addr×Obj)) (s:aF) (σ:L2.St) (H:Hp) (τ:iP) (G:Gp) (ws:List V) (ds:List D) (us:List Value) (Q:iP->Gp->Prop),Lk X E->I2 X pins σ H τ G s->Vals ws us->bA X.K H ws ds->t E ds τ G Q ->
  wpAny (model X.prog X.w) X.A (assignInOrder ((B4 ts X.env).map (·.2)) us) (fun _ s'=>∃ kE H' lH G',I2 X pins kE H' lH G' s'/\Mv X.K H G H' G'/\Q lH G') X.xe s
theorem Oo{i:Nat}{x:Str}(hN:X.N.Nodup)(hi:X.N[i]?=some x)(hx:Loc X.env.scope x)(hf:autoParam (X.fn x=true\/X.env.scope.names.lookup x=some .local) Ao._auto_1):Nc X (.Name x pos) (aI i):=by
 intro E pins s σ H τ G w d u Q hE I r rd h;exact wpAny_assign_Name (Gh I.inv hN hi hx r (fun s' I'=>⟨_,H,_,G,⟨I',I.st.set i rd,I.ab⟩,.refl I.ab,h⟩) hf)
theorem GF:RB X [] Jy:=by
 intro E pins s σ H τ G ws ds us Q hE I r rd h;unfold Jy at h;split at h
 ·have e:=rd.zero;subst e;cases r;exact assignInOrder_nil ⟨σ,H,τ,G,I,.refl I.ab,h⟩
 ·exact h.elim
theorem tY{t:DM}{u:Fm}(h1:Nc X e t)(h2:RB X es u)
  (hs:autoParam ((B4 (e :: es) X.env).map (·.2)=Nk e X.env :: (B4 es X.env).map (·.2)) Ar._auto_1):RB X (e :: es) (uS t u):=by
 intro E pins s σ H τ G ws ds us Q hE I r rd h;unfold uS at h;split at h
 ·cases rd with
  | cons j0 Ee =>
   cases r with
   | cons r1 r2 =>
    rw [hs];refine assignInOrder_cons (iy (h1 E pins s σ H τ G _ _ _ _ hE I r1 j0 h) ?_);rintro _ s1 ⟨Xd,H1,uF,G1,I1,m1,q1⟩;exact iy (h2 E pins s1 Xd H1 uF G1 _ _ _ Q hE I1 r2 (Ee.mono (m1.kp I.ab)) q1) (by rintro _ _ ⟨Ye,H2,C1,G2,mX,m2,q2⟩; exact⟨Ye,H2,C1,G2,mX,m1.trans m2,q2⟩)
 ·exact h.elim
theorem Kv{k:Nat}{t:Fm}{n:Nat}(hc:X.calm=true)(h:RB X es t)(hgl:∀ E ds τ G Q,t E ds τ G Q->ds.length=n)
  (hn:autoParam ((B4 es X.env).length=n) Ar._auto_1) (TH:autoParam ((B4 es X.env).findIdx? (·.1)=none) Ar._auto_1):Nc X (.Tuple es k pos) (MG t):=by
 intro E pins s σ H τ G w d u Q hE I r rd hw;unfold MG at hw;split at hw
 ·cases rd with
  | tup hq rs =>
   cases r;obtain⟨bO,rv,ht,hz⟩:=I.inv.tuple (.of hq);refine assign_Tuple_tuple (I.inv.ok.hd hc) ht (by rw [hn,a9,<-rv.length,rs.length]; exact(hgl _ _ _ _ _ hw).symm) TH fun h' hx=>?_;have I1:Inv X pins σ H { s with heap:=h' }:=I.inv.kept (t':=s.toks) fun b o e=>hx b o (bS (bc e)) e;exact h E pins _ σ H τ G _ _ _ Q hE ⟨I1,I.st,I.ab⟩ (by simpa using rv) rs hw
 ·exact hw.elim
theorem Hf:∀ E ds τ G Q,Jy E ds τ G Q->ds.length=0:=by
 intro E ds τ G Q h;cases ds with
 | nil=>rfl
 | cons _ _=>exact h.elim
theorem MF{t:DM}{u:Fm}{n:Nat}(h:∀ E ds τ G Q,u E ds τ G Q->ds.length=n)(hm:∀ E d τ G (Q Q':iP->Gp->Prop),t E d τ G Q->(∀ lH G',Q lH G'->Q' lH G')->t E d τ G Q')(hx:∀ E d τ G,¬ t E d τ G fun _ _=>False) :
  ∀ E ds τ G Q,uS t u E ds τ G Q->ds.length=n+1:=by
 intro E ds τ G Q q;cases ds with
 | nil=>exact q.elim
 | cons d ds =>
  by_cases hl:ds.length=n
  ·rw [ag,hl]
  ·exact absurd (hm E d τ G _ (fun _ _=>False) q fun lH G' z=>hl (h _ _ _ _ _ z)) (hx E d τ G)
theorem Kt{tg:Expr}{g:DM}(he:iD X e te)(hg:Nc X tg g)(hs:autoParam (swapsWithSole [tg] e pos.line X.env=pure false) Ar._auto_1)(hw:autoParam (swappedStores [tg] e X.env=pure none) Ar._auto_1)
  (h1:autoParam ((B4 [tg] X.env).map (·.2)=[Nk tg X.env]) Ar._auto_1):Iq X (.Assign [tg] e pos) (bH te g):=by
 intro E pins s σ H τ G D hE I h;refine wpAny_Assign_stores (lO he hE I h fun x H1 d G1 v s1 I1 m1 r1 j0 q1=>?_) hs hw;rw [h1];exact iy (hg E pins s1 σ H1 τ G1 x d v _ hE I1 r1 j0 q1) (by rintro _ s2 ⟨Ye,H2,C1,G2,mX,m2,q2⟩; exact⟨Ye,H2,C1,G2,mX,m1.trans m2,q2⟩)
theorem QP{i:Nat}{x:Str}{pos':Pos}(hN:X.N.Nodup)(hi:X.N[i]?=some x)(hx:Loc X.env.scope x)(he:iD X e te)(hs:autoParam (FP e (some (.Name x pos')) pos.line X.env=pure false) Ar._auto_1)(hf:autoParam (X.fn x=true\/X.env.scope.names.lookup x=some .local) Ao._auto_1) :
  Iq X (.Assign [.Name x pos'] e pos) (bH te (aI i)):=by
 intro E pins s σ H τ G D hE I h;refine wpAny_Assign_Name (lO he hE I h fun y H1 d G1 v s1 I1 m1 r1 j0 q1=>?_) hs;exact Gh I1.inv hN hi hx r1 (fun s2 mX=>⟨_,H1,_,G1,⟨mX,I1.st.set i j0,I1.ab⟩,m1,q1⟩) hf
theorem fk(he:iD X e te)(hs:autoParam (FP e none pos.line X.env=pure false) Ar._auto_1):Iq X (.Expr e pos) (eG te):=by
 intro E pins s σ H τ G D hE I h;exact wpAny_Expr_any (lO he hE I h fun y H1 d G1 v s1 I1 m1 r1 j0 q1=>⟨σ,H1,τ,G1,I1,m1,q1⟩) I.inv.quiet hs
end
end K2
end
section
namespace K2
open PySem PySem.Spec PyProof.Rows L2
noncomputable def Sg(K:aw)(J:It)(H':Hp)(ds:List D)(ok:Gp->Prop):Prop :=
 ∀ i H1 G1,Kp H' H1->oB K H1 G1->ok G1->(∀ d,ds[i]?=some d->J.go i H1/\∀ x H2,J.yld i H1 x H2->dh K H2 x d/\Mv K H1 G1 H2 G1)/\(ds.length<=i->J.stop i H1)
inductive MV (X:Cx) (pins:List (Addr×Obj)) (σ:L2.St) (tg:Expr) (H:Hp) (G:Gp) (R:List D->(Gp->Prop)->Gp->Prop) (RX:Value) (s2:aF):Prop
 | mk (it:Addr) (fp:List Addr) (tn:Nat->Heap->Prop) (J:It) (H':Hp) (G':Gp) (ds:List D) (ok:Gp->Prop) (e:RX=.ref it) (i:Inv X pins σ H' s2) (m:Mv X.K H G H' G') (T:Turn X.prog X.w X.K tg J fp it tn) (t0:tn 0 s2.heap) (f:∀ b∈fp,qm X pins H' b)
  (wk:Sg X.K J H' ds ok) (q:R ds ok G'):MV X pins σ tg H G R RX s2
noncomputable def PN(X:Cx)(tg iter:Expr)(wi:PM):Prop :=
 ∀ (E:mW) (pins:List (Addr×Obj)) (s:aF) (σ:L2.St) (H:Hp) (τ:iP) (G:Gp) (R:List D->(Gp->Prop)->Gp->Prop),Lk X E->I2 X pins σ H τ G s->wi E τ G R ->
  wpAny (model X.prog X.w) X.A (eval iter X.env) (fun v s1=>wpAny (model X.prog X.w) X.A (pyIter v) (MV X pins σ tg H G R) X.xe s1) X.xe s
section
variable {X:Cx} {tg:Expr} {a b:Expr} {ta tb:hW} {pos p:Pos}
theorem KH{pins:List (Addr×Obj)}{σ:L2.St}{H H1:Hp}{G G1:Gp}{s1:aF}{l:Addr}{vs:List V}{ds:List D}{ok:Gp->Prop}{R:List D->(Gp->Prop)->Gp->Prop}(I1:Inv X pins σ H1 s1)(m:Mv X.K H G H1 G1)(hq:qy X.K H1 l vs)
  (hk:∀ H2 G2,Kp H1 H2->oB X.K H2 G2->ok G2->∃ ws,qy X.K H2 l ws/\bA X.K H2 ws ds) (q:R ds ok G1):wpAny (model X.prog X.w) X.A (pyIter (.ref l)) (MV X pins σ tg H G R) X.xe s1:=by
 obtain⟨bO,rv,pl,hz⟩:=I1.list hq;refine wpAny_pyIter_list pl.isList ?_;refine⟨s1.heap.objs.size,[s1.heap.objs.size],_,_,H1,G1,ds,ok,rfl,I1.kept (t':=s1.toks) fun b o e=>aY _ e,m,Lz l _,⟨_,cf _ rfl,rfl,rfl⟩,fun b hb=>?_,fun i H2 G2 k ab o=>?_,q⟩
 ·have e:b=s1.heap.objs.size:=by simpa using hb
  subst e;exact I1.JC (aT _) (I1.fB.fresh (aT _))
 ·obtain⟨ws,hw,rd⟩:=hk H2 G2 k ab o;refine⟨fun d hd=>?_,fun hl=>⟨ws,hw,by rw [rd.length]; exact hl⟩⟩;obtain⟨v,hv,r⟩:=rd.get hd;refine⟨⟨ws,v,hw,hv⟩,?_⟩;rintro x H3 ⟨e,y⟩;subst e;have:=y ws hw;rw [hv] at this;cases this;exact⟨r,.refl ab⟩
theorem Sy{pins:List (Addr×Obj)}{σ:L2.St}{H H1:Hp}{G G1:Gp}{s1:aF}{l:Addr}{vs:List V}{ds:List D}{R:List D->(Gp->Prop)->Gp->Prop}(I1:Inv X pins σ H1 s1)(m:Mv X.K H G H1 G1)(hq:BQ X.K H1 l vs)(rd:bA X.K H1 vs ds)
  (q:R ds (fun _=>True) G1):wpAny (model X.prog X.w) X.A (pyIter (.ref l)) (MV X pins σ tg H G R) X.xe s1:=by
 obtain⟨bO,rv,pl,hz⟩:=I1.tuple hq;refine wpAny_pyIter_tuple (show s1.heap.IsTuple l bO.toArray from pl) ?_;refine⟨s1.heap.objs.size,[s1.heap.objs.size],_,_,H1,G1,ds,_,rfl,I1.kept (t':=s1.toks) fun b o e=>aY _ e,m,II l _,⟨_,cf _ rfl,rfl,rfl⟩,fun b hb=>?_,fun i H2 G2 k ab _=>?_,q⟩
 ·have e:b=s1.heap.objs.size:=by simpa using hb
  subst e;exact I1.JC (aT _) (I1.fB.fresh (aT _))
 ·have hw:=k.sqT hq;have Ee:=rd.mono k;refine⟨fun d hd=>?_,fun hl=>⟨vs,hw,by rw [rd.length]; exact hl⟩⟩;obtain⟨v,hv,r⟩:=Ee.get hd;refine⟨⟨vs,v,hw,hv⟩,?_⟩;rintro x H3 ⟨e,y⟩;subst e;have:=y vs hw;rw [hv] at this;cases this;exact⟨r,.refl ab⟩
theorem ee(ha:iD X a ta):PN X tg a (ky ta):=by
 intro E pins s σ H τ G R hE I h;refine lO ha hE I h fun x H1 d G1 v s1 I1 m1 r1 j0 q1=>?_;cases j0 with
 | tup hq rs=>cases r1; exact Sy I1.inv m1 (.of hq) rs q1
 | fJ hq rs=>cases r1; exact KH I1.inv m1 hq.sq (fun H2 G2 k ab _=>⟨_,(k.RH hq).sq,rs.mono k⟩) q1
 | ref p =>
  cases r1;dsimp only at q1;split at q1
  ·rename_i ds e;obtain⟨vs,hv,rs⟩:=I1.ab.lst e;refine KH I1.inv m1 (.of hv) (fun H2 G2 k ab o=>?_) q1;obtain⟨ws,hw,oH⟩:=ab.lst o;exact⟨ws,.of hw,oH⟩
  ·exact q1.elim
 | wb _ _=>exact q1.elim
 | wa _ _=>exact q1.elim
 | eK=>exact q1.elim
 | bl _=>exact q1.elim
 | int _=>exact q1.elim
 | str _=>exact q1.elim
 | exc _=>exact q1.elim
theorem N5{pins:List (Addr×Obj)}{σ:L2.St}{H H1:Hp}{G G1:Gp}{s:aF}{R:List D->(Gp->Prop)->Gp->Prop}{lo hi:Int}{t u v:Tok}{tk:Nat}(I:Inv X pins σ H1 s)(m:Mv X.K H G H1 G1)(h1:-(2 ^ 62)<=lo)(h2:lo < 2 ^ 62)(h3:-(2 ^ 62)<=hi)(h4:hi < 2 ^ 62)
  (q:R (fj lo (hi - lo).toNat) (fun _=>True) G1):wpAny (model X.prog X.w) X.A (pyIter (.ref s.heap.objs.size)) (MV X pins σ tg H G R) X.xe { s with heap:=s.heap.push { cls:=.type "range",data:=.fields #[.int lo t,.int hi u,.int 1 v] },toks:=tk }:=by
 refine iy (N8 (tg:=tg) I h1 h2 h3 h4 (R:=fun J H'=>J=Itr lo (hi - lo).toNat/\H'=H1) ⟨rfl,rfl⟩) ?_;rintro RX s2 ⟨it,fp,tn,J,H',e,mX,T,st,fo,eJ,eH⟩;subst eJ; subst eH;refine⟨it,fp,tn,_,H',G1,_,_,e,mX,m,T,st,fo,fun i H2 G2 k ab _=>⟨fun d hd=>?_,fun hl=>?_⟩,q⟩
 ·unfold fj at hd;rw [dJ] at hd;cases XA:(e7 (hi - lo).toNat)[i]? with
  | none=>rw [XA] at hd; cases hd
  | some j =>
   rw [XA] at hd;obtain⟨EG,ej⟩:=List.getElem?_eq_some_iff.mp XA;rw [fA] at EG;rw [rH] at ej;subst ej;cases hd;refine⟨EG,?_⟩;rintro x H3 ⟨e1,e2⟩;subst e1; subst e2;exact⟨.int _,.refl ab⟩
 ·unfold fj at hl;rw [ax,fA] at hl;exact hl
theorem iB (hg:Gl X "range") (hm:X.mg "range" = none) (ha:iD X a ta) (hs:autoParam (cq [a] X.env=[(false,eval a X.env)]) Ar._auto_1):PN X tg (.Call (.Name "range" p) [a] [] pos) (rk ta):=by
 intro E pins s σ H τ G R hE I h;have hA:FN X [a] (ah ta aH):=af ha av hs;refine Call_ (qO I.inv hg hm boot_range (fi (zg hA pos hE I (R:=fun ds G1=>match ds with | [.int n]=>-(2 ^ 62)<=n/\n < 2 ^ 62/\R (fj 0 n.toNat) (fun _=>True) G1 | _=>False) ?_ fun vs H1 ds G1 us s1 I1 m1 r1 j0 q1=>?_) hs rfl))
 ·show ta E τ G _;have e:(fun (x:D) (G1:Gp)=>match [x] with | [.int n]=>-(2 ^ 62)<=n/\n < 2 ^ 62/\R (fj 0 n.toNat) (fun _=>True) G1 | _=>False)=fun x G1=>match x with | .int n=>-(2 ^ 62)<=n/\n < 2 ^ 62/\R (fj 0 n.toNat) (fun _=>True) G1 | _=>False:=by
   funext x G1; cases x <;> rfl
  exact e ▸ h
 ·split at q1
  ·rename_i n;obtain⟨w,rfl,LN⟩:=j0.one;cases LN;obtain⟨u,rfl,ru⟩:=r1.one;obtain⟨t,rfl⟩:=ru;obtain⟨q1,q2,q⟩:=q1;exact call_range_1 (N5 I1.inv m1 (by lia) (by lia) q1 q2 (by simpa using q))
  ·exact q1.elim
theorem dB{iter:Expr}{body:List Stmt}{wi:PM}{g:DM}{t:g7}(hp:PassesOwn (model X.prog X.w) X.A X.env X.xe)(hc:X.calm=true)(hi:PN X tg iter wi)(hg:Nc X tg g)(hb:BR X body t)
  (hs:autoParam (∀ x,o6 iter X.env x=pure x) Ai._auto_1):Iq X (.For tg iter body [] pos) (eZ wi g t):=by
 intro E pins s σ H τ G D hE I h;refine wpAny_For (iy (hi E pins s σ H τ G _ hE I h) fun v s1 h1=>iy h1 fun RX s2 h2=>?_) hs;obtain⟨it,fp,tn,J,H2,G2,ds,ok,e,mX,m2,T,P2,f2,wk,q⟩:=h2;subst e;have SF:∀ {H':Hp},(∀ b∈fp,H' b=none)->∀ b∈fp,qm X pins H' b:=fun hn b hb=>⟨hn b hb,(f2 b hb).2⟩;refine codeAny_forLoop_any (fun n s'=>∃ i kE H' lH G',I2 X pins kE H' lH G' s'/\Mv X.K H G H' G'/\Kp H2 H'/\tn i s'.heap/\(∀ b∈fp,H' b=none)/\n=ds.length - i/\i<=ds.length/\sP g t ok (ds.drop i) E D lH G') ?_ ds.length
  ⟨0,σ,H2,τ,G2,I.mv mX m2,m2,.refl _,P2,fun b hb=>(f2 b hb).1,rfl,cX _,q⟩
 rintro n s3 ⟨i,Qm,H3,Sm,G3,I3,m3,k3,Xh,fr3,rfl,hle,w3⟩;by_cases EG:i < ds.length
 ·rw [iQ EG] at w3;obtain⟨VT,w3⟩:=w3;obtain⟨go,yl⟩:=(wk i H3 G3 k3 I3.ab VT).1 ds[i] (by simp [EG]);refine kQ hp (iy (T.item X rfl rfl rfl hc i pins s3 Qm H3 X.xe I3.inv (SF fr3) Xh go) ?_);rintro r s4 ⟨u,hr,h4⟩;subst hr;refine kQ hp (iy h4 ?_);rintro _ s5 ⟨x,H5,I5,r5,y5,Yo,fr5⟩;obtain⟨rd5,m5⟩:=yl x H5 y5;have I5':=I5.pinned (SF fr5) (T.obj _ _ Yo);have J5:I2 X (pins++sC fp s5.heap) Qm H5 Sm G3 s5:=⟨I5',I3.st.mono (m5.kp I3.ab),m5.ab⟩;refine kQ hp (iy (hg E _ s5 Qm H5 Sm G3 x ds[i] u _ hE J5 r5 rd5 w3) ?_);rintro _ s6 ⟨σ6,H6,τ6,G6,I6,m6,q6⟩;refine kQ hp (iy (hb E _ s6 σ6 H6 τ6 G6 _ hE I6 q6) fun f s7 q7=>?_);have again:∀ {M7:L2.St} {H7:Hp} {M6:iP} {G7:Gp},I2 X (pins++sC fp s5.heap) M7 H7 M6 G7 s7->Mv X.K H6 G6 H7 G7->sP g t ok (ds.drop (i+1)) E D M6 G7 ->
    ∃ m,m < ds.length - i/\∃ i kE H' lH G',I2 X pins kE H' lH G' s7/\Mv X.K H G H' G'/\Kp H2 H'/\tn i s7.heap/\(∀ b∈fp,H' b=none)/\m=ds.length - i/\i<=ds.length/\sP g t ok (ds.drop i) E D lH G':=fun {M7 H7 M6 G7} I7 m7 n7=>by
   have mm:=m5.trans (m6.trans m7);refine⟨ds.length - (i+1),by lia,i+1,M7,H7,M6,G7,⟨I7.inv.vK,I7.st,I7.ab⟩,m3.trans mm,k3.trans (mm.kp I3.ab),T.keep _ _ _ Yo fun b hb o e=>(I7.inv.pin (b,o) (bN _ (bN _ (qL hb e)))).1,fun b hb=>?_,rfl,EG,n7⟩;obtain⟨o,e,d⟩:=T.obj _ _ Yo b hb;exact(I7.inv.pin (b,o) (bN _ (bN _ (qL hb e)))).2.1
  cases f with
  | next=>obtain⟨M7,H7,M6,G7,I7,m7,n7⟩:=q7; exact again I7 m7 n7
  | cont=>obtain⟨M7,H7,M6,G7,I7,m7,n7⟩:=q7; exact again I7 m7 n7
  | brk=>obtain⟨M7,H7,M6,G7,I7,m7,q7⟩:=q7; exact⟨M7,H7,M6,G7,⟨I7.inv.vK,I7.st,I7.ab⟩,m3.trans (m5.trans (m6.trans m7)),q7⟩
  | ret v=>obtain⟨x7,M7,H7,d7,G7,I7,m7,r7,rd7,q7⟩:=q7; exact⟨x7,M7,H7,d7,G7,I7.vK,m3.trans (m5.trans (m6.trans m7)),r7,rd7,q7⟩
 ·have hn:ds.length<=i:=by lia
  rw [ng hn] at w3;obtain⟨VT,qn⟩:=w3;have stop:=(wk i H3 G3 k3 I3.ab VT).2 hn;refine kQ hp (iy (T.done X rfl rfl rfl hc i pins s3 Qm H3 X.xe I3.inv (SF fr3) Xh stop) ?_);rintro r s4 ⟨hr,I4⟩;subst hr;exact Ah ⟨Qm,H3,Sm,G3,⟨I4,I3.st,I3.ab⟩,m3,qn⟩
theorem LV{c:Expr}{body:List Stmt}{tc:zE}{t:g7}(hp:PassesOwn (model X.prog X.w) X.A X.env X.xe)(hc:Ln X c tc)(hb:BR X body t):Iq X (.While c body [] pos) (Pq tc t):=by
 intro E pins s σ H τ G D hE I h;obtain⟨n0,w0⟩:=h;refine wpAny_While (codeAny_whileLoop (fun n s'=>∃ kE H' lH G',I2 X pins kE H' lH G' s'/\Mv X.K H G H' G'/\FZ tc t n E D lH G') ?_ n0 ⟨σ,H,τ,G,I,.refl I.ab,w0⟩);rintro n s1 ⟨Xd,H1,uF,G1,I1,m1,w1⟩;cases n with
 | zero=>exact w1.elim
 | succ n =>
  refine kQ hp (LD hc hE I1 w1 fun b H2 G2 s2 mX m2 q2=>?_);cases b with
  | true =>
   rw [if_pos rfl] at q2 ⊢;refine kQ hp (iy (hb E pins s2 Xd H2 uF G2 _ hE mX q2) fun f s3 q3=>?_);cases f with
   | next=>obtain⟨Qm,H3,Sm,G3,I3,m3,n3⟩:=q3; exact⟨n,lJ _,Qm,H3,Sm,G3,I3,m1.trans (m2.trans m3),n3⟩
   | cont=>obtain⟨Qm,H3,Sm,G3,I3,m3,n3⟩:=q3; exact⟨n,lJ _,Qm,H3,Sm,G3,I3,m1.trans (m2.trans m3),n3⟩
   | brk=>exact q3.trans (m1.trans m2)
   | ret v=>exact q3.trans (m1.trans m2)
  | false =>
   rw [if_neg jZ] at q2 ⊢;exact Ah ⟨Xd,H2,uF,G2,mX,m1.trans m2,q2⟩
end
end K2
end
section
namespace K2
open PySem PySem.Spec PyProof.Rows L2
theorem Ea(n d:Nat)(o:Option Int):HT.kj n d o=kj n d o:=by cases o <;> rfl
theorem bA.cut{K:aw}{H:Hp}{vs:List V}{ds:List D}(r:bA K H vs ds)(lo hi:Option Int):bA K H (HQ vs lo hi) (K2.cut ds lo hi):=by
 unfold HQ K2.cut;rw [Ea,Ea,r.length];exact(r.drop _).take _
theorem bA.pQ{K:aw}{H:Hp}{vs:List V}{ds:List D}{i:Int}{d:D}(r:bA K H vs ds)(h:K2.pQ ds i=some d):∃ v,L2.pQ vs i=some v/\dh K H v d:=by
 unfold K2.pQ at h;cases e:K2.Jp ds.length i with
 | none=>rw [e] at h; cases h
 | some j =>
  rw [e] at h;obtain⟨v,h1,h2⟩:=r.get (show ds[j]?=some d from h);refine⟨v,?_,h2⟩;show (L2.Jp vs.length i).bind _=_;have e':L2.Jp vs.length i=some j:=by rw [r.length]; exact e
  rw [e'];exact h1
section
variable {X:Cx} {a b c e:Expr} {ta tb tc te:hW} {pos p2:Pos}
theorem oe{pins:List (Addr×Obj)}{s:aF}{σ:L2.St}{H:Hp}{G:Gp}{x:V}{d:D}{v:Value}{zs:List D}(I:Inv X pins σ H s)(ab:oB X.K H G)(rx:RelV x v)(rd:dh X.K H x d)(hi:uR d G=some zs) :
  ∃ l vs bO,v=.ref l/\Vals vs bO/\bA X.K H vs zs/\s.heap.IsList l bO.toArray/\vs.length<=br:=by
 cases rd with
 | fJ hq rs =>
  cases hi;cases rx;obtain⟨bO,rv,pl,hz⟩:=I.list hq.sq;exact⟨_,_,bO,rfl,rv,rs,pl.isList,hz⟩
 | ref l =>
  unfold uR at hi;dsimp only at hi;cases hg:G l with
  | none=>rw [hg] at hi; cases hi
  | some gg =>
   rw [hg] at hi;cases gg with
   | lst ds =>
    cases hi;cases rx;obtain⟨vs,hv,rs⟩:=ab.lst hg;obtain⟨bO,rv,pl,hz⟩:=I.list (.of hv);exact⟨_,_,bO,rfl,rv,rs,pl.isList,hz⟩
   | ins _ _=>cases hi
   | oq _=>cases hi
 | _=>cases hi
theorem xV{pins:List (Addr×Obj)}{s:aF}{σ:L2.St}{H:Hp}(I:Inv X pins σ H s){m:Str->Option Value}(F0:Fr X.base X.env.locals s.heap m){h':Heap}(F:Fr X.base X.env.locals h' m)(N:News X.base X.env.locals h' (uh X.base s.heap X.env.locals)) :
  (∀ b o,b≠X.env.locals->s.heap.get? b=some o->h'.get? b=some o)/\∀ m',s.heap.Ns X.env.locals m'->h'.Ns X.env.locals m':=by
 refine⟨fun b o hb e=>?_,fun m' hm=>?_⟩
 ·cases q:X.base.get? b with
  | some u =>
   have:=I.bk b u q;rw [e] at this; cases this;exact F.keep b _ q
  | none=>exact(N (b,o) (yT hb q e)).1
 ·have e1:=hm.eq_nsMap;have e2:=F0.ns.eq_nsMap;rw [e1,<-e2]; exact F.ns
theorem qa{P:bU}{w:World}{H:Hp}{h:Heap}{a:Addr}:∀ {o:HO},je P w H h a o->∃ ob,h.get? a=some ob:=by
 intro o x;cases o with
 | lst _=>obtain⟨_,_,_,_,e⟩:=x; exact⟨_,e⟩
 | tup _=>obtain⟨_,_,_,ob,e,_⟩:=x; exact⟨ob,e⟩
 | dK _=>obtain⟨_,_,_,_,ob,_,_,e,_⟩:=x; exact⟨ob,e⟩
 | dT _=>obtain⟨_,_,_,_,ob,_,_,e,_⟩:=x; exact⟨ob,e⟩
 | set _ _=>obtain⟨ob,_,_,_,e,_⟩:=x; exact⟨ob,e⟩
 | ins _ _ _=>obtain⟨_,_,_,e,_⟩:=x; exact⟨_,e⟩
 | own _=>exact x
 | xd _=>obtain⟨_,⟨ob,_,_,e,_⟩,_⟩:=x; exact⟨ob,e⟩
 | met _ _=>exact⟨_,x⟩
 | Vx _ _=>obtain⟨_,_,_,e⟩:=x; exact⟨_,e⟩
 | rq _ _=>exact⟨_,x.1⟩
 | RG _=>obtain⟨_,e,_⟩:=x; exact⟨_,e⟩
 | ext _=>exact x.2.1
theorem K4{P:bU}{w:World}{H:Hp}{h:Heap}{a:Addr}(ok:vB P w H h)(e:h.get? a=none):H a=none:=by
 cases q:H a with
 | none=>rfl
 | some o =>
  obtain⟨ob,z⟩:=qa (ok a o q);rw [e] at z; cases z
theorem Inv.RV{pins:List (Addr×Obj)}{s:aF}{σ:L2.St}{H:Hp}(I:Inv X pins σ H s){h':Heap}{t':Nat}{a:Addr}{o:HO}(k:∀ b o,b≠X.env.locals->s.heap.get? b=some o->h'.get? b=some o)(ns:∀ m',s.heap.Ns X.env.locals m'->h'.Ns X.env.locals m')
  (hp:s.heap.get? a=none) (new:je X.prog X.w (upd H a o) h' a o):Inv X pins σ (upd H a o) { s with heap:=h',toks:=t' }:=by
 have hn:H a=none:=K4 I.fB hp;have ne:∀ b u,H b=some u->b≠a:=fun b u e=>fm e hn;have nL:∀ b u,H b=some u->b≠X.env.locals:=fun b u e=>fm e I.free;have ht:∀ b u,s.heap.get? b=some u->b≠a:=fun b u e z=>by subst z; rw [hp] at e; cases e
 have thL:∃ o',h'.get? X.env.locals=some o':=by
  obtain⟨m,hm,_⟩:=I.loc;obtain⟨o',_,_,ho,_⟩:=ns m hm;exact⟨o',ho⟩
 refine I.step (g':=s.gens) (d':=s.drawn) (ch:=[]) (fun b hb=>absurd hb (by simp)) (fun b o hL _ _ e _=>k b o hL e) (fun b o hL _ _ e _=>⟨o.slots,k b o hL e⟩) (fun b o _ e n=>by rw [cw (ht b o e)]; exact n)
  (fun b o _ e=>?_) (fun b xs e=>by rw [cw (ne _ _ e)]; exact e) (fun b o u e=>by rw [cw (ne _ _ e)]; exact e) (fun b ps e=>by rw [cw (ne _ _ e)]; exact e) ns (fun b u e=>?_) I.bare
 ·by_cases hb:b=X.env.locals
  ·rw [hb]; exact thL
  ·exact⟨o,k b o hb e⟩
 ·by_cases hb:b=a
  ·subst hb; rw [dv] at e; cases e; exact new
  ·rw [cw hb] at e;refine(I.fB b u e).o9 (fun c v hc r=>k c v ?_ r) (fun c z=>by rw [cw (ne _ _ z)]; exact z) (fun c xs z=>by rw [cw (ne _ _ z)]; exact z);rcases hc with rfl | hc
   ·exact nL _ _ e
   ·exact nL _ _ hc
theorem fR:vt X (lF .Add) kJ:=by
 intro pins s σ H G x y dx dy v u Q I ab rx ry dX dY q;have lists:BO dx dy G Q->wpAny (model X.prog X.w) X.A (lF .Add v u) (tK X pins σ H G Q) X.xe s:=by
  intro q;unfold BO at q;split at q
  ·rename_i xs ys e1 e2;obtain⟨hz,q⟩:=q;obtain⟨l,vs,bO,rfl,rv,rs,hl,_⟩:=oe I ab rx dX e1;obtain⟨b,ws,ur,rfl,LO,RL,hb,_⟩:=oe I ab ry dY e2;obtain⟨m,F0⟩:=I.fr;have hsz:bO.length+ur.length<=br:=by rw [<-rv.length,<-LO.length,rs.length,RL.length,dm]; exact hz
   refine PyProof.Rows.add_lists F0 GJ hl hb (fun h' F N=>?_) hsz;obtain⟨kk,ns⟩:=xV I F0 F fun p hp=>N p (aU _ hp);have hp:H s.heap.objs.size=none:=I.fB.fresh (aT _);refine⟨.ref s.heap.objs.size,upd H s.heap.objs.size (.lst (vs++ws)),.ref _,_,Inv.RV (t':=s.toks) I kk ns (Ql (aT _)) ?_,.GK ab hp (rs.append RL),rfl,.ref _,q _ (ab.free hp)⟩;exact⟨by rw [aL,rv.length,LO.length]; exact hsz,bO++ur,0,rv.append LO,(N _ bb).1⟩
  ·exact q.elim
 cases dX with
 | int i =>
  cases dY with
  | int j=>exact iy (Ta pins s σ H _ _ v u (Cb X.K H G Q) I rx ry ⟨i,j,rfl,rfl,_,_,.refl ab,.int _,q⟩) fun _ _ z=>.of z
  | _=>exact lists q
 | str i =>
  cases dY with
  | str j =>
   obtain⟨hz,q⟩:=q;exact iy (IY pins s σ H _ _ v u (Cb X.K H G Q) I rx ry ⟨i,j,rfl,rfl,by rw [dm]; exact hz,_,_,.refl ab,.str _,q⟩) fun _ _ z=>.of z
  | _=>exact lists q
 | tup h1 r1 =>
  cases dY with
  | tup h2 r2 =>
   obtain⟨hn,hz,q⟩:=q;refine iy (Q0 pins s σ H _ _ v u (Cb X.K H G Q) I rx ry ⟨_,_,_,_,rfl,rfl,.of h1,.of h2,?_,?_,fun e=>?_,fun e p hp=>?_⟩) fun _ _ z=>.of z
   ·rintro rfl; cases r1; exact hn rfl
   ·rw [r1.length,r2.length,dm]; exact hz
   ·subst e;cases r2;rw [dc] at q;exact⟨_,_,.refl ab,.tup h1 r1,q⟩
   ·exact⟨_,_,.R5 ab hp,.tup dv ((r1.append r2).mono (.new hp)),q⟩
  | _=>exact lists q
 | ref l=>exact lists (by rw [mj] at q; exact q)
 | fJ _ _=>exact lists (by rw [pX] at q; exact q)
 | _=>exact lists (by cases dY <;> exact q)
theorem Kz:vt X (lF .Sub) QH:=by
 intro pins s σ H G x y dx dy v u Q I ab rx ry dX dY q;cases dX with
 | int i =>
  cases dY with
  | int j=>exact iy (S6 pins s σ H _ _ v u (Cb X.K H G Q) I rx ry ⟨i,j,rfl,rfl,_,_,.refl ab,.int _,q⟩) fun _ _ z=>.of z
  | _=>exact bT q
 | _=>exact bT q
theorem Ek:vt X (lF .Mult) Oa:=by
 intro pins s σ H G x y dx dy v u Q I ab rx ry dX dY q;cases dX with
 | int i =>
  cases dY with
  | int j=>exact iy (S7 pins s σ H _ _ v u (Cb X.K H G Q) I rx ry ⟨i,j,rfl,rfl,q.1,_,_,.refl ab,.int _,q.2⟩) fun _ _ z=>.of z
  | _=>exact bT q
 | _=>exact bT q
theorem jo:vt X (lF .Mod) sr:=by
 intro pins s σ H G x y dx dy v u Q I ab rx ry dX dY q;cases dX with
 | int i =>
  cases dY with
  | int j=>exact iy (S8 pins s σ H _ _ v u (Cb X.K H G Q) I rx ry ⟨i,j,rfl,rfl,q.1,_,_,.refl ab,.int _,q.2⟩) fun _ _ z=>.of z
  | _=>exact bT q
 | _=>exact bT q
theorem sE:vt X (lF .FloorDiv) AX:=by
 intro pins s σ H G x y dx dy v u Q I ab rx ry dX dY q;cases dX with
 | int i =>
  cases dY with
  | int j=>exact iy (QZ pins s σ H _ _ v u (Cb X.K H G Q) I rx ry ⟨i,j,rfl,rfl,⟨q.1,q.2.1⟩,_,_,.refl ab,.int _,q.2.2⟩) fun _ _ z=>.of z
  | _=>exact bT q
 | _=>exact bT q
theorem Tb(hu:X.A.units < cLine):vt X (gw .Lt) Xj:=by
 intro pins s σ H G x y dx dy v u Q I ab rx ry dX dY q;cases dX with
 | int i =>
  cases dY with
  | int j=>exact iy (VG pins s σ H _ _ v u (Cb X.K H G Q) I rx ry ⟨i,j,rfl,rfl,_,_,.refl ab,.bl _,q⟩) fun _ _ z=>.of z
  | _=>exact bT q
 | tup h1 r1 =>
  cases dY with
  | tup h2 r2 =>
   obtain⟨xs,ys,e1,e2,q⟩:=q;subst e1 e2;have z1:=r1.ints;have z2:=r2.ints;subst z1 z2;have el:∀ xs ys:List Int,HT.lexLt xs ys=K2.lexLt xs ys:=by
    intro xs;induction xs with
    | nil=>intro ys; cases ys <;> rfl
    | cons x xs ih=>intro ys; cases ys with
     | nil=>rfl
     | cons y ys=>unfold HT.lexLt K2.lexLt; rw [ih]
   exact iy (S9 hu pins s σ H _ _ v u (Cb X.K H G Q) I rx ry ⟨_,_,xs,ys,rfl,rfl,.of h1,.of h2,_,_,.refl ab,.bl _,by rw [el]; exact q⟩) fun _ _ z=>.of z
  | _=>exact bT q
 | _=>exact bT q
theorem Tc:vt X (gw .Gt) YC:=by
 intro pins s σ H G x y dx dy v u Q I ab rx ry dX dY q;cases dX with
 | int i =>
  cases dY with
  | int j=>exact iy (VH pins s σ H _ _ v u (Cb X.K H G Q) I rx ry ⟨i,j,rfl,rfl,_,_,.refl ab,.bl _,q⟩) fun _ _ z=>.of z
  | _=>exact bT q
 | _=>exact bT q
mutual
noncomputable def pd:D->PyData
 | .eK=>.none
 | .bl b=>.bool b
 | .int i=>.int i
 | .str x=>.str x
 | .tup ds=>.tuple (mU ds)
 | .fJ ds=>.list (mU ds)
 | .yE _=>.none
 | .exc _=>.none
 | .ref _=>.none
noncomputable def mU:List D->List PyData
 | []=>[]
 | d :: r=>pd d :: mU r
end
mutual
theorem ve:∀ (s t:D),nr s=true->nr t=true->vH (pd s) (pd t)=jw s t
 | .eK,t,_,ht=>by cases t <;> first | rfl | (exact cU (show false=true from ht))
 | .bl a,t,_,ht=>by cases t <;> first | rfl | (exact cU (show false=true from ht))
 | .int a,t,_,ht=>by cases t <;> first | rfl | (exact cU (show false=true from ht))
 | .str a,t,_,ht=>by cases t <;> first | rfl | (exact cU (show false=true from ht))
 | .tup a,t,hs,ht=>by
  cases t with
  | tup b=>exact E4 a b hs ht
  | ref _=>exact cU (show false=true from ht)
  | exc _=>exact cU (show false=true from ht)
  | yE _=>exact cU (show false=true from ht)
  | _=>rfl
 | .fJ a,t,hs,ht=>by
  cases t with
  | fJ b=>exact E4 a b hs ht
  | ref _=>exact cU (show false=true from ht)
  | exc _=>exact cU (show false=true from ht)
  | yE _=>exact cU (show false=true from ht)
  | _=>rfl
 | .ref _,_,hs,_=>cU (show false=true from hs)
 | .exc _,_,hs,_=>cU (show false=true from hs)
 | .yE _,_,hs,_=>cU (show false=true from hs)
theorem E4:∀ (s t:List D),rj s=true->rj t=true->PyData.eqvAll (mU s) (mU t)=ll s t
 | [],[],_,_=>rfl
 | [],_ :: _,_,_=>rfl
 | _ :: _,[],_,_=>rfl
 | a :: r,b :: t,hs,ht=>by
  have UP:nr a=true/\rj r=true:=(kO).mp hs;have UO:nr b=true/\rj t=true:=(kO).mp ht;show (vH (pd a) (pd b)&&PyData.eqvAll (mU r) (mU t))=(jw a b&&ll r t);rw [ve a b UP.1 UO.1,E4 r t UP.2 UO.2]
end
mutual
theorem lg:∀ (s:D),nr s=true->(pd s).canLay0=true
 | .eK,_=>rfl
 | .bl a,_=>rfl
 | .int a,_=>rfl
 | .str a,h=>h
 | .tup a,h=>wO a h
 | .fJ a,h=>wO a h
 | .exc _,_=>rfl
 | .ref _,_=>rfl
 | .yE _,_=>rfl
theorem wO:∀ (s:List D),rj s=true->PyData.canLayAll0 (mU s)=true
 | [],_=>rfl
 | a :: r,h=>by
  have h':nr a=true/\rj r=true:=(kO).mp h;show ((pd a).canLay0&&PyData.canLayAll0 (mU r))=true;rw [lg a h'.1,wO r h'.2]; rfl
end
theorem E7{G:Gp}{n:Nat}{d t:D}(h:Sn G n d t):(pd t).depth<=n:=by
 induction h with
 | eK=>exact cX _
 | bl b=>exact cX _
 | int i=>exact cX _
 | str x h=>exact cX _
 | Gf=>exact vC (cX _)
 | qZ _ _ OT OS =>
  exact vC (Nat.max_le.mpr ⟨OT,vI OS⟩)
 | N0=>exact vC (cX _)
 | Gz _ _ OT OS =>
  exact vC (Nat.max_le.mpr ⟨OT,vI OS⟩)
 | ref _ _ ih=>exact ih
theorem jM{pins:List (Addr×Obj)}{σ:L2.St}{H:Hp}{s:aF}{G:Gp}(I:Inv X pins σ H s)(ab:oB X.K H G){n:Nat}{d t:D}(h:Sn G n d t) :
  (∀ v u,dh X.K H v d->RelV v u->∃ as,Reads s.heap u (pd t) as) /\
  (∀ ds ss,(d=.fJ ds/\t=.fJ ss)\/(d=.tup ds/\t=.tup ss)->∀ vs us,bA X.K H vs ds->Vals vs us->∃ as,iN s.heap us (mU ss) as):=by
 have RF:∀ {ds ss:List D},(∀ vs us,bA X.K H vs ds->Vals vs us->∃ as,iN s.heap us (mU ss) as)->∀ v u,dh X.K H v (.tup ds)->RelV v u->∃ as,Reads s.heap u (pd (.tup ss)) as:=by
  intro ds ss k v u r ru;cases r with
  | tup hq rs =>
   cases ru;obtain⟨bO,rv,⟨o,ho,hc,n,hd⟩,hz⟩:=I.tuple (.of hq);obtain⟨as,ra⟩:=k _ bO rs rv;exact⟨as,.tuple ho hc hd (by simpa using ra)⟩
 have RM:∀ {ds ss:List D},(∀ vs us,bA X.K H vs ds->Vals vs us->∃ as,iN s.heap us (mU ss) as)->∀ v u,dh X.K H v (.fJ ds)->RelV v u->∃ as,Reads s.heap u (pd (.fJ ss)) as:=by
  intro ds ss k v u r ru;cases r with
  | fJ hq rs =>
   cases ru;obtain⟨bO,rv,pl,hz⟩:=I.list hq.sq;obtain⟨o,ho,hc,n,hd⟩:=pl.isList;obtain⟨as,ra⟩:=k _ bO rs rv;exact⟨_,.list ho hc hd (by simpa using ra)⟩
 induction h with
 | eK=>exact⟨fun v u r ru=>by cases r; cases ru; exact⟨_,.none⟩,fun ds ss e=>by rcases e with ⟨e,_⟩ | ⟨e,_⟩ <;> cases e⟩
 | bl b=>exact⟨fun v u r ru=>by cases r; cases ru; exact⟨_,.bool b⟩,fun ds ss e=>by rcases e with ⟨e,_⟩ | ⟨e,_⟩ <;> cases e⟩
 | int i=>exact⟨fun v u r ru=>by cases r; obtain⟨t,rfl⟩:=ru; exact⟨_,.int i t⟩,fun ds ss e=>by rcases e with ⟨e,_⟩ | ⟨e,_⟩ <;> cases e⟩
 | str x hx=>exact⟨fun v u r ru=>by cases r; obtain⟨t,rfl⟩:=ru; exact⟨_,.str x t⟩,fun ds ss e=>by rcases e with ⟨e,_⟩ | ⟨e,_⟩ <;> cases e⟩
 | Gf =>
  have k:∀ vs us,bA X.K H vs []->Vals vs us->∃ as,iN s.heap us (mU []) as:=fun vs us r ru=>by
   have e:=r.zero;subst e;cases ru;exact⟨_,.nil⟩
  refine⟨RF k,fun ds ss e=>?_⟩;rcases e with ⟨e,_⟩ | ⟨e,e2⟩
  ·cases e
  ·cases e; cases e2; exact k
 | qZ h1 h2 OT OS =>
  have k2:=OS.2 _ _ (.inr ⟨rfl,rfl⟩);have k:∀ vs us,bA X.K H vs (_ :: _)->Vals vs us->∃ as,iN s.heap us (mU (_ :: _)) as:=fun vs us r ru=>by
   cases r with
   | cons r1 r2 =>
    cases ru with
    | cons u1 u2 =>
     obtain⟨as,ra⟩:=OT.1 _ _ r1 u1;obtain⟨bs,rb⟩:=k2 _ _ r2 u2;exact⟨_,.cons ra rb⟩
  refine⟨RF k,fun ds ss e=>?_⟩;rcases e with ⟨e,_⟩ | ⟨e,e2⟩
  ·cases e
  ·cases e; cases e2; exact k
 | N0 =>
  have k:∀ vs us,bA X.K H vs []->Vals vs us->∃ as,iN s.heap us (mU []) as:=fun vs us r ru=>by
   have e:=r.zero;subst e;cases ru;exact⟨_,.nil⟩
  refine⟨RM k,fun ds ss e=>?_⟩;rcases e with ⟨e,e2⟩ | ⟨e,_⟩
  ·cases e; cases e2; exact k
  ·cases e
 | Gz h1 h2 OT OS =>
  have k2:=OS.2 _ _ (.inl ⟨rfl,rfl⟩);have k:∀ vs us,bA X.K H vs (_ :: _)->Vals vs us->∃ as,iN s.heap us (mU (_ :: _)) as:=fun vs us r ru=>by
   cases r with
   | cons r1 r2 =>
    cases ru with
    | cons u1 u2 =>
     obtain⟨as,ra⟩:=OT.1 _ _ r1 u1;obtain⟨bs,rb⟩:=k2 _ _ r2 u2;exact⟨_,.cons ra rb⟩
  refine⟨RM k,fun ds ss e=>?_⟩;rcases e with ⟨e,e2⟩ | ⟨e,_⟩
  ·cases e; cases e2; exact k
  ·cases e
 | ref hg h1 ih =>
  refine⟨fun v u r ru=>?_,fun ds ss e=>by rcases e with ⟨e,_⟩ | ⟨e,_⟩ <;> cases e⟩;cases r;cases ru;obtain⟨vs,hv,rs⟩:=ab.lst hg;obtain⟨bO,rv,pl,hz⟩:=I.list (.of hv);obtain⟨o,ho,hc,n,hd⟩:=pl.isList;obtain⟨as,ra⟩:=ih.2 _ _ (.inl ⟨rfl,rfl⟩) vs bO rs rv;exact⟨_,.list ho hc hd (by simpa using ra)⟩
theorem gu(hu:X.A.units+64 < cLine):vt X (gw .Eq) (nu false):=by
 intro pins s σ H G x y dx dy v u Q I ab rx ry dX dY q;obtain⟨a,b,sa,sb,q⟩:=q;obtain⟨as,ra⟩:=(jM I ab sa).1 x v dX rx;obtain⟨bs,rb⟩:=(jM I ab sb).1 y u dY ry;have d1:=E7 sa;refine SeqAt.compareEq_reads ra rb (lg _ sa.nr) (lg _ sb.nr) (by unfold SN at d1; lia) ?_;rw [ve _ _ sa.nr sb.nr];exact⟨.bl _,H,.bl _,G,I,.refl ab,rfl,.bl _,q⟩
theorem lU(hu:X.A.units+64 < cLine):vt X (gw .NotEq) (nu true):=by
 intro pins s σ H G x y dx dy v u Q I ab rx ry dX dY q;obtain⟨a,b,sa,sb,q⟩:=q;obtain⟨as,ra⟩:=(jM I ab sa).1 x v dX rx;obtain⟨bs,rb⟩:=(jM I ab sb).1 y u dY ry;have d1:=E7 sa;refine SeqAt.compareNe_reads ra rb (lg _ sa.nr) (lg _ sb.nr) (by unfold SN at d1; lia) ?_;rw [ve _ _ sa.nr sb.nr];exact⟨.bl _,H,.bl _,G,I,.refl ab,rfl,.bl _,q⟩
end
end K2
end
section
namespace K2
open PySem PySem.Spec PyProof.Rows L2
theorem w4(j k:Key):jw (gP j) (gP k)=decide (j=k):=by
 cases j with
 | inl a=>cases k with
  | inl b=>rw [OL]; rfl
  | inr b=>exact(decide_eq_false (fun z=>nomatch z)).symm
 | inr a=>cases k with
  | inl b=>exact(decide_eq_false (fun z=>nomatch z)).symm
  | inr b=>rw [OK]; exact(P0 a b)
theorem Dv:∀ (js ks:List Key),ll (js.map gP) (ks.map gP)=decide (js=ks)
 | [],[]=>(decide_eq_true rfl).symm
 | [],_ :: _=>(decide_eq_false (fun z=>nomatch z)).symm
 | _ :: _,[]=>(decide_eq_false (fun z=>nomatch z)).symm
 | j :: js,k :: ks=>by
  show (jw (gP j) (gP k)&&ll (js.map gP) (ks.map gP))=_;rw [w4,Dv js ks,BD]
theorem wZ(js ks:List Key):jw (.tup (js.map gP)) (.tup (ks.map gP))=decide (js=ks):=by
 exact Dv js ks
section
variable {K:aw} {H:Hp}
theorem Ez{d:D}(h:gY d=true):∃ k:Key,d=gP k:=by
 cases d with
 | int i=>exact⟨.inl i,rfl⟩
 | str x=>exact⟨.inr x,rfl⟩
 | _=>exact absurd h (by simp [gY])
theorem KJ:∀ {ds:List D},ds.all gY=true->∃ ks:List Key,ds=ks.map gP
 | [],_=>⟨[],rfl⟩
 | d :: r,h=>by
  rw [M4,aZ] at h;obtain⟨k,rfl⟩:=Ez h.1;obtain⟨ks,rfl⟩:=KJ h.2;exact⟨k :: ks,rfl⟩
theorem KL{d:D}(h:uZ d=true):∃ ks:List Key,d=.tup (ks.map gP):=by
 cases d with
 | tup ds=>obtain⟨ks,rfl⟩:=KJ (ds:=ds) h; exact⟨ks,rfl⟩
 | _=>exact absurd h (by simp [uZ])
theorem Ed{v:V}{k:Key}(r:dh K H v (gP k)):v=kV k:=by
 cases k with
 | inl i=>cases r; rfl
 | inr x=>cases r; rfl
theorem Gx:∀ {vs:List V} {ks:List Key},bA K H vs (ks.map gP)->vs=ks.map kV
 | _,[],r=>r.zero
 | _,k :: ks,r=>by
  rw [aq] at r;cases r with
  | cons r1 r2=>rw [Ed r1,Gx r2]; rfl
theorem Gy{v:V}{ks:List Key}(r:dh K H v (.tup (ks.map gP))):∃ b,v=.ref b/\H b=some (.tup (ks.map kV)):=by
 cases r with
 | tup h rs=>have e:=Gx rs; subst e; exact⟨_,rfl,h⟩
theorem rN.look{kv:List (Key×V)}{bB:List (D×D)}(r:rN K H kv bB)(k:Key):(∃ v d,ni kv k=some v/\K2.look bB (gP k)=some d/\dh K H v d)\/(ni kv k=none/\K2.look bB (gP k)=none):=by
 induction r using rN.ind with
 | nil=>exact .inr ⟨rfl,rfl⟩
 | @cons j v d r t rd rs ih =>
  by_cases e:j=k
  ·left;refine⟨v,d,rW (p:=(j,v)) e,?_,rd⟩;unfold K2.look;rw [Nt (by show jw (gP j) (gP k)=true; rw [w4]; exact decide_eq_true e)]; rfl
  ·have e1:ni ((j,v) :: r) k=ni r k:=rX (p:=(j,v)) e;have e2:K2.look ((gP j,d) :: t) (gP k)=K2.look t (gP k):=by
    unfold K2.look;rw [Nu (by show ¬ jw (gP j) (gP k)=true; rw [w4]; simpa using e)]
   rw [e1,e2];exact ih
theorem tM.look{kv:List (List Key×V)}{bB:List (D×D)}(r:tM K H kv bB)(k:List Key):(∃ v d,ni kv k=some v/\K2.look bB (.tup (k.map gP))=some d/\dh K H v d)\/(ni kv k=none/\K2.look bB (.tup (k.map gP))=none):=by
 induction r using tM.ind with
 | nil=>exact .inr ⟨rfl,rfl⟩
 | @cons j v d r t rd rs ih =>
  by_cases e:j=k
  ·left;refine⟨v,d,rW (p:=(j,v)) e,?_,rd⟩;unfold K2.look;rw [Nt (by show jw (.tup (j.map gP)) (.tup (k.map gP))=true; rw [wZ]; exact decide_eq_true e)]; rfl
  ·have e1:ni ((j,v) :: r) k=ni r k:=rX (p:=(j,v)) e;have e2:K2.look ((.tup (j.map gP),d) :: t) (.tup (k.map gP))=K2.look t (.tup (k.map gP)):=by
    unfold K2.look;rw [Nu (by show ¬ jw (.tup (j.map gP)) (.tup (k.map gP))=true; rw [wZ]; simpa using e)]
   rw [e1,e2];exact ih
theorem rN.any{kv:List (Key×V)}{bB:List (D×D)}(r:rN K H kv bB)(k:Key):(kv.any fun p=>decide (p.1=k))=bB.any fun p=>jw p.1 (gP k):=by
 induction r using rN.ind with
 | nil=>rfl
 | @cons j v d r t rd rs ih=>simp only [pN]; rw [ih,w4]
theorem tM.any{kv:List (List Key×V)}{bB:List (D×D)}(r:tM K H kv bB)(k:List Key):(kv.any fun p=>decide (p.1=k))=bB.any fun p=>jw p.1 (.tup (k.map gP)):=by
 induction r using tM.ind with
 | nil=>rfl
 | @cons j v d r t rd rs ih=>simp only [pN]; rw [ih,wZ]
theorem rN.put{kv:List (Key×V)}{bB:List (D×D)}(r:rN K H kv bB)(k:Key){v:V}{d:D}(rd:dh K H v d):rN K H (putK kv k v) (K2.put bB (gP k) d):=by
 unfold putK K2.put;rw [r.any k];by_cases h:(bB.any fun p=>jw p.1 (gP k))=true
 ·rw [if_pos h,if_pos h];clear h;induction r using rN.ind with
  | nil=>exact .nil
  | @cons j w e r t re rs ih =>
   simp only [aq];rw [w4];by_cases e:j=k
   ·simp only [e,if_true,decide_true]; exact .cons rd ih
   ·simp only [e,if_false,decide_false,ai]; exact .cons re ih
 ·rw [if_neg h,if_neg h];clear h;induction r using rN.ind with
  | nil=>exact .cons rd .nil
  | cons re rs ih=>exact .cons re ih
theorem tM.put{kv:List (List Key×V)}{bB:List (D×D)}(r:tM K H kv bB)(k:List Key){v:V}{d:D}(rd:dh K H v d):tM K H (putK kv k v) (K2.put bB (.tup (k.map gP)) d):=by
 unfold putK K2.put;rw [r.any k];by_cases h:(bB.any fun p=>jw p.1 (.tup (k.map gP)))=true
 ·rw [if_pos h,if_pos h];clear h;induction r using tM.ind with
  | nil=>exact .nil
  | @cons j w e r t re rs ih =>
   simp only [aq];rw [wZ];by_cases e:j=k
   ·simp only [e,if_true,decide_true]; exact .cons rd ih
   ·simp only [e,if_false,decide_false,ai]; exact .cons re ih
 ·rw [if_neg h,if_neg h];clear h;induction r using tM.ind with
  | nil=>exact .cons rd .nil
  | cons re rs ih=>exact .cons re ih
end
theorem Kp.putD{H:Hp}{p:Addr}{o o':HO}(hp:H p=some o)(h:(∃ k,o=.dK k)\/∃ k,o=.dT k):Kp H (upd H p o') :=
 ⟨fun a ys e=>by rw [cw (by rintro rfl; rw [hp] at e; rcases h with ⟨_,rfl⟩ | ⟨_,rfl⟩ <;> cases e)]; exact e,fun a ob u e=>by rw [cw (by rintro rfl; rw [hp] at e; rcases h with ⟨_,rfl⟩ | ⟨_,rfl⟩ <;> cases e)]; exact e⟩
section
variable {X:Cx} {pins:List (Addr×Obj)} {σ:L2.St} {H:Hp} {s:aF} {G:Gp} {a:Addr} {bB:List (D×D)} {k:D} {y:V}
theorem toT(I:Inv X pins σ H s)(e:H a=some (.dK [])):Inv X pins σ (upd H a (.dT [])) s:=by
 obtain⟨z,hd,vs,rel,dd⟩:=K8 I.fB e;have hv:vs=[]:=by cases rel; rfl
 subst hv;obtain⟨o,es,ep,ho,hx,MC,hko,hl,nd⟩:=dd;have he:es=#[]:=by
  cases hq:es.toList with
  | nil=>simpa using hq
  | cons _ _=>rw [hq] at hl; cases hl
 subst he;exact I.write (h':=s.heap) (t':=s.toks) (x:=a) (e:=a) (by rw [e]; exact jH) (.inl rfl) (fun b u _ q=>q) ⟨o,ho⟩ ⟨cX _,hd,[],.nil,o,#[],ep,ho,hx,MC,rfl,lB⟩
theorem toK(I:Inv X pins σ H s)(e:H a=some (.dT [])):Inv X pins σ (upd H a (.dK [])) s:=by
 obtain⟨z,hd,xs,rel,o,es,ep,ho,hx,MC,hl,nd⟩:=I.fB a _ e;have hv:xs=[]:=by cases rel; rfl
 subst hv;have he:es=#[]:=by simpa using hl
 subst he;exact I.write (h':=s.heap) (t':=s.toks) (x:=a) (e:=a) (by rw [e]; exact jH) (.inl rfl) (fun b u _ q=>q) ⟨o,ho⟩ ⟨cX _,hd,[],.nil,o,#[],ep,ho,hx,MC,(fun _ h=>by simp at h),.nil,lB⟩
theorem KD{o:HO}(ab:oB X.K H G)(hg:G a=some (.oq bB))(k:Kp H (upd H a o))(ho:PV X.K (upd H a o) a (.oq bB)):Mv X.K H G (upd H a o) G:=by
 have m:=Mv.put ab hg k ho;have e:cW G a (.oq bB)=G:=by
  funext b; unfold cW; split
  ·rename_i z; rw [z,hg]
  ·rfl
 rw [e] at m;exact m
theorem K9(I:Inv X pins σ H s)(ab:oB X.K H G)(hg:G a=some (.oq bB))(hk:jD bB k=true)(ry:dh X.K H y k) :
  ∃ H',Inv X pins σ H' s/\Mv X.K H G H' G/\((∃ (kv:List (Key×V)) (kk:Key),H' a=some (.dK kv)/\rN X.K H' kv bB/\k=gP kk/\y=kV kk)\/∃ (kv:List (List Key×V)) (kk:List Key) (b:Addr),H' a=some (.dT kv)/\tM X.K H' kv bB/\k=.tup (kk.map gP)/\y=.ref b/\H' b=some (.tup (kk.map kV))):=by
 unfold jD at hk;rw [mO,aZ,aZ] at hk;rcases hk with ⟨h1,h2⟩ | ⟨h1,h2⟩
 ·obtain⟨kk,rfl⟩:=Ez h1;have ey:=Ed ry;subst ey;rcases ab a _ hg with ⟨kv,hv,rs⟩ | ⟨kv,hv,rs⟩
  ·exact⟨H,I,.refl ab,.inl ⟨kv,kk,hv,rs,rfl,rfl⟩⟩
  ·cases rs with
   | nil =>
    refine⟨_,toK I hv,KD ab hg (.putD hv (.inr ⟨_,rfl⟩)) (.inl ⟨[],dv,.nil⟩),.inl ⟨[],kk,dv,.nil,rfl,rfl⟩⟩
   | cons _ _=>simp [gY] at h2
 ·obtain⟨kk,rfl⟩:=KL h1;obtain⟨b,rfl,hb⟩:=Gy ry;rcases ab a _ hg with ⟨kv,hv,rs⟩ | ⟨kv,hv,rs⟩
  ·cases rs with
   | nil =>
    have kp:Kp H (upd H a (.dT [])):=.putD hv (.inl ⟨_,rfl⟩);exact⟨_,toT I hv,KD ab hg kp (.inr ⟨[],dv,.nil⟩),.inr ⟨[],kk,b,dv,.nil,rfl,rfl,kp.tup _ _ hb⟩⟩
   | @cons j _ _ _ _ _ _=>cases j <;> simp [gP,uZ] at h2
  ·exact⟨H,I,.refl ab,.inr ⟨kv,kk,b,hv,rs,rfl,rfl,hb⟩⟩
theorem HE(I:Inv X pins σ H s)(ab:oB X.K H G)(hg:G a=some (.oq bB))(hk:jD bB k=true)(ry:dh X.K H y k) :
  ∃ H' o,Inv X pins σ H' s/\Mv X.K H G H' G/\BZ H' a y o/\o.isSome=(look bB k).isSome/\∀ d,look bB k=some d->∃ v,o=some v/\dh X.K H' v d:=by
 obtain⟨H',I',m,h⟩:=K9 I ab hg hk ry;rcases h with ⟨kv,kk,hv,rs,rfl,rfl⟩ | ⟨kv,kk,b,hv,rs,rfl,rfl,hb⟩
 ·refine⟨H',ni kv kk,I',m,.k hv,?_,fun d hd=>?_⟩
  ·rcases rs.look kk with ⟨v,d,e1,e2,_⟩ | ⟨e1,e2⟩ <;> rw [e1,e2] <;> rfl
  ·rcases rs.look kk with ⟨v,d',e1,e2,r⟩ | ⟨e1,e2⟩
   ·rw [e2] at hd; cases hd; exact⟨v,e1,r⟩
   ·rw [e2] at hd; cases hd
 ·refine⟨H',ni kv kk,I',m,.t hv hb,?_,fun d hd=>?_⟩
  ·rcases rs.look kk with ⟨v,d,e1,e2,_⟩ | ⟨e1,e2⟩ <;> rw [e1,e2] <;> rfl
  ·rcases rs.look kk with ⟨v,d',e1,e2,r⟩ | ⟨e1,e2⟩
   ·rw [e2] at hd; cases hd; exact⟨v,e1,r⟩
   ·rw [e2] at hd; cases hd
theorem Ec{x:V}(I:Inv X pins σ H s)(rd:dh X.K H x (.yE bB))(hk:jD bB k=true)(ry:dh X.K H y k) :
  ∃ a o,x=.ref a/\(bB=[]\/BZ H a y o)/\o.isSome=(look bB k).isSome/\∀ d,look bB k=some d->∃ v,o=some v/\dh X.K H v d:=by
 unfold jD at hk;rw [mO,aZ,aZ] at hk;cases rd with
 | wb h rs =>
  rename_i a ob kv;rcases hk with ⟨h1,h2⟩ | ⟨h1,h2⟩
  ·obtain⟨kk,rfl⟩:=Ez h1;have ey:=Ed ry;subst ey;refine⟨a,ni kv kk,rfl,.inr (.inl ⟨kv,kk,.inr ⟨_,h⟩,rfl,rfl⟩),?_,fun d hd=>?_⟩
   ·rcases rs.look kk with ⟨v,d,e1,e2,_⟩ | ⟨e1,e2⟩ <;> rw [e1,e2] <;> rfl
   ·rcases rs.look kk with ⟨v,d',e1,e2,r⟩ | ⟨e1,e2⟩
    ·rw [e2] at hd; cases hd; exact⟨v,e1,r⟩
    ·rw [e2] at hd; cases hd
  ·cases rs with
   | nil=>exact⟨a,none,rfl,.inl rfl,rfl,fun d hd=>by cases hd⟩
   | cons _ _ =>
    rename_i kx _ _ _ _ _ _;rw [M4,aZ] at h2;cases kx <;> exact absurd h2.1 (by simp [gP,uZ])
 | wa h rs =>
  rename_i a ob kv;rcases hk with ⟨h1,h2⟩ | ⟨h1,h2⟩
  ·cases rs with
   | nil=>exact⟨a,none,rfl,.inl rfl,rfl,fun d hd=>by cases hd⟩
   | cons _ _ =>
    rw [M4,aZ] at h2;exact absurd h2.1 (by simp [gY])
  ·obtain⟨kk,rfl⟩:=KL h1;obtain⟨b,rfl,hb⟩:=Gy ry;refine⟨a,ni kv kk,rfl,.inr (.inr ⟨kv,kk,b,.inr ⟨_,h⟩,rfl,hb,rfl⟩),?_,fun d hd=>?_⟩
   ·rcases rs.look kk with ⟨v,d,e1,e2,_⟩ | ⟨e1,e2⟩ <;> rw [e1,e2] <;> rfl
   ·rcases rs.look kk with ⟨v,d',e1,e2,r⟩ | ⟨e1,e2⟩
    ·rw [e2] at hd; cases hd; exact⟨v,e1,r⟩
    ·rw [e2] at hd; cases hd
theorem Po{v:V}{d:D}(I:Inv X pins σ H s)(ab:oB X.K H G)(hg:G a=some (.oq bB))(hk:jD bB k=true)(hz:bB.length < SZ)(ry:dh X.K H y k)(rv:dh X.K H v d) :
  ∃ H' H'',Inv X pins σ H' s/\MY H' a y v H''/\Mv X.K H G H'' (cW G a (.oq (put bB k d))):=by
 obtain⟨H',I',m,h⟩:=K9 I ab hg hk ry;have rv':=rv.mono (m.kp ab);have sz:br=16777216:=dm;rcases h with ⟨kv,kk,hv,rs,rfl,rfl⟩ | ⟨kv,kk,b,hv,rs,rfl,rfl,hb⟩
 ·have kp:Kp H' (upd H' a (.dK (putK kv kk v))):=.putD hv (.inl ⟨_,rfl⟩);exact⟨H',_,I',.k hv (by rw [rs.length,sz]; exact hz),m.trans (.put m.ab hg kp (.inl ⟨_,dv,(rs.put kk rv').mono kp⟩))⟩
 ·have kp:Kp H' (upd H' a (.dT (putK kv kk v))):=.putD hv (.inr ⟨_,rfl⟩);exact⟨H',_,I',.t hv hb (by rw [rs.length,sz]; exact hz),m.trans (.put m.ab hg kp (.inr ⟨_,dv,(rs.put kk rv').mono kp⟩))⟩
end
end K2
end
section
namespace K2
open PySem PySem.Spec PyProof.Rows L2
section
variable {X:Cx} {a b c e:Expr} {es:List Expr} {ta tb tc te:hW} {t:DN} {pos p p2 apos pI:Pos} {x:Str}
theorem fG{k:Bool}{j}:iD X (.Constant (.bool k) j pos) (dC (.bl k)):=tZ VE fun _ _=>.bl k
theorem k8{y:Str}{j}:iD X (.Constant (.str y) j pos) (dC (.str y)):=tZ S3 fun _ _=>.str y
theorem kG{st:Stmt}:Iq X st qT:=fun _ _ _ _ _ _ _ _ _ _ h=>h.elim
theorem oE:W3 X (unaryOp .USub) Cm:=by
 intro pins s σ H G x dx v Q I ab rx dX q;cases dX with
 | int i=>exact iy (Sv pins s σ H _ v (Cb X.K H G Q) I rx ⟨i,rfl,_,_,.refl ab,.int _,q⟩) fun _ _ z=>.of z
 | _=>exact bT q
theorem ba(hu:X.A.units+64 < cLine)(ha:iD X a ta)(hb:iD X b tb)(hs:RA b):iD X (.Subscript a b pos) (aM eY ta tb):=by
 intro E pins s σ H τ G Q hE I h;refine Subscript_ (PG ha hb hE I h fun v u s2 x y dx dy H2 G2 J m rx ry dX dY q=>?_);have fin:∀ {rb:R2},IxR X rb->rb x y H2 (Cb X.K H2 G2 Q)->wpAny (model X.prog X.w) X.A (subscriptTail a b v u) (tK X pins σ H G Q) X.xe s2:=fun hr hq =>
  iy (hr a b pins s2 σ H2 x y v u _ J.inv rx ry hq (hs _ _)) fun _ _ z=>(tK.of z).trans m
 cases dX with
 | tup hq rs =>
  cases dY with
  | int i =>
   rw [cM] at q;split at q
   ·rename_i d hd;obtain⟨w,hw,oH⟩:=rs.pQ hd;exact fin Tz ⟨_,_,i,w,rfl,rfl,.of hq,hw,d,G2,.refl J.ab,oH,q⟩
   ·exact q.elim
  | _=>exact bT q
 | fJ hq rs =>
  cases dY with
  | int i =>
   rw [pW] at q;split at q
   ·rename_i d hd;obtain⟨w,hw,oH⟩:=rs.pQ hd;exact fin KN ⟨_,_,i,w,rfl,rfl,hq.sq,hw,d,G2,.refl J.ab,oH,q⟩
   ·exact q.elim
  | _=>exact bT q
 | wb h rs =>
  rw [Eg] at q;obtain⟨hk,q⟩:=q;split at q
  ·rename_i d hd;obtain⟨a',o,ea,g,_,hv⟩:=Ec J.inv (.wb h rs) hk dY;obtain⟨w,rfl,oH⟩:=hv d hd;cases ea;rcases g with rfl | g
   ·cases hd
   ·cases rx;exact tail_any (sV J.inv g) PySem.F.slot_dict_getitem.lookup (yh (by lia) J.inv g ry fun w' s3 I4 rv=>⟨w,H2,d,G2,I4,m,rv,oH,q⟩) (hs _ _)
  ·exact q.elim
 | wa h rs =>
  rw [Eg] at q;obtain⟨hk,q⟩:=q;split at q
  ·rename_i d hd;obtain⟨a',o,ea,g,_,hv⟩:=Ec J.inv (.wa h rs) hk dY;obtain⟨w,rfl,oH⟩:=hv d hd;cases ea;rcases g with rfl | g
   ·cases hd
   ·cases rx;exact tail_any (sV J.inv g) PySem.F.slot_dict_getitem.lookup (yh (by lia) J.inv g ry fun w' s3 I4 rv=>⟨w,H2,d,G2,I4,m,rv,oH,q⟩) (hs _ _)
  ·exact q.elim
 | ref l =>
  rw [QK] at q;split at q
  ·rename_i ds hl;obtain⟨vs,hv,rs⟩:=J.ab.lst hl;cases dY with
   | int i =>
    dsimp only at q;split at q
    ·rename_i d hd;obtain⟨w,hw,oH⟩:=rs.pQ hd;exact fin KN ⟨_,_,i,w,rfl,rfl,.of hv,hw,d,G2,.refl J.ab,oH,q⟩
    ·exact q.elim
   | _=>exact bT q
  ·rename_i bB hl;obtain⟨hk,q⟩:=q;split at q
   ·rename_i d hd;obtain⟨H3,o,I3,m3,g,_,hv⟩:=HE J.inv J.ab hl hk dY;obtain⟨w,rfl,oH⟩:=hv d hd;cases rx;exact tail_any (sV I3 g) PySem.F.slot_dict_getitem.lookup (yh (by lia) I3 g ry fun w' s3 I4 rv=>⟨w,H3,d,G2,I4,m.trans m3,rv,oH,q⟩) (hs _ _)
   ·exact q.elim
  ·exact q.elim
 | _=>exact bT q
noncomputable def W7(X:Cx)(e:Option Expr)(t:Uw):Prop :=
 ∀ (E:mW) (pins:List (Addr×Obj)) (s:aF) (σ:L2.St) (H:Hp) (τ:iP) (G:Gp) (Q:Option Int->Gp->Prop),Lk X E->I2 X pins σ H τ G s->t E τ G Q ->
  wpAny (model X.prog X.w) X.A (evalPart e X.env) (fun u s'=>∃ o H' G',Inv X pins σ H' s'/\Mv X.K H G H' G'/\IsPart u o/\Q o G') X.xe s
theorem iJ:W7 X none eV:=by
 intro E pins s σ H τ G Q hE I h;rw [evalPart_none];exact bM ⟨none,H,G,I.inv,.refl I.ab,.none,h⟩
theorem ie(h:iD X e te):W7 X (some e) (mV te):=by
 intro E pins s σ H τ G Q hE I hw;rw [evalPart_some];refine lO h hE I hw fun x H1 d G1 u s1 I1 m1 r1 j0 q1=>?_;cases j0 with
 | int i =>
  obtain⟨t,rfl⟩:=r1;exact⟨some i,H1,G1,I1.inv,m1,.int i t,q1⟩
 | _=>exact bT q1
theorem gN{lo hi:Option Expr}{tl th:Uw}(he:iD X a ta)(hl:W7 X lo tl)(hu:W7 X hi th):iD X (.Subscript a (.Slice lo hi none p2) pos) (zC ta tl th):=by
 intro E pins s σ H τ G Q hE I h;refine Subscript_ (lO he hE I h fun x H1 d G1 v s1 I1 m1 r1 j0 q1=>?_);refine wpAny_Slice (iy (hl E pins s1 σ H1 τ G1 _ hE I1 q1) ?_);rintro vl s2 ⟨l,H2,G2,mX,m2,pl,q2⟩;refine iy (hu E pins s2 σ H2 τ G2 _ hE (I1.mv mX m2) q2) ?_;rintro vu s3 ⟨r,H3,G3,I3,m3,pu,q3⟩;rw [evalPart_none];refine bM ?_;have m13:=m2.trans m3;have mm:=m1.trans m13;have I4:Inv X pins σ H3 { s3 with heap:=s3.heap.push { cls:=.type "slice",data:=.fields #[vl,vu,.none] } }:=I3.kept (t':=s3.toks) fun b ob q=>aY _ q;have Vz:=j0.mono (m13.kp I1.ab);have Sf:=m3.ab;have key:∀ {rb:V->Option Int->Option Int->Hp->VK->Prop},SlR X rb->rb x l r H3 (Cb X.K H3 G3 Q)->wpAny (model X.prog X.w) X.A (subscriptTail a (.Slice lo hi none p2) v (.ref s3.heap.objs.size)) (tK X pins σ H G Q) X.xe { s3 with heap:=s3.heap.push { cls:=.type "slice",data:=.fields #[vl,vu,.none] } }:=fun hr hq=>by
  obtain⟨T,id,hT,ht,hg⟩:=hr pins { s3 with heap:=s3.heap.push { cls:=.type "slice",data:=.fields #[vl,vu,.none] } } σ H3 x v vl vu l r s3.heap.objs.size _ I4 r1 (FU ..) pl pu hq;exact iy (tail_any (ops:=[.ref s3.heap.objs.size,v]) ht hT hg (by with_unfolding_all rfl)) fun _ _ z=>(tK.of z).trans mm
 cases Vz with
 | tup hq rs =>
  obtain⟨hw,q⟩:=q3;refine key SI ⟨_,_,rfl,.of hq,?_,fun p hp=>⟨_,G3,.R5 Sf hp,.tup dv ((rs.cut l r).mono (.new hp)),q⟩⟩;rw [Ea,Ea,rs.length];exact hw
 | fJ hq rs=>exact key Kn ⟨_,_,rfl,hq.sq,fun p hp=>⟨_,_,.GK Sf hp (rs.cut l r),.ref _,q3 p (Sf.free hp)⟩⟩
 | ref g =>
  rw [wD] at q3;split at q3
  ·rename_i ds hg;obtain⟨vs,hv,rs⟩:=Sf.lst hg;exact key Kn ⟨_,_,rfl,.of hv,fun p hp=>⟨_,_,.GK Sf hp (rs.cut l r),.ref _,q3 p (Sf.free hp)⟩⟩
  ·exact q3.elim
 | _=>exact bT q3
theorem QY(ss:List D)(s:D)(h1:rj ss=true)(h2:nr s=true):((mU ss).any fun y=>vH y (pd s))=ss.any (jw · s):=by
 induction ss with
 | nil=>rfl
 | cons d r ih =>
  have h':nr d=true/\rj r=true:=(kO).mp h1;show (vH (pd d) (pd s)||(mU r).any _)=_;rw [ih h'.2,ve d s h'.1 h2]; rfl
theorem La{G:Gp}{n:Nat}{ds ss:List D}(h:Sn G (n+1) (.fJ ds) (.fJ ss)):cD (mU ss)<=n:=by
 exact vI (E7 h)
theorem ED(hu:X.A.units+64 < cLine)(neg:Bool){pins:List (Addr×Obj)}{s:aF}{σ:L2.St}{H:Hp}{G:Gp}{x y:V}{dx t:D}{ds ss:List D}{v u:Value}{Q:DK}(I:Inv X pins σ H s)(ab:oB X.K H G)(rx:RelV x v)(dX:dh X.K H x dx)
  (hy:(∃ l vs bO,u=.ref l/\Vals vs bO/\bA X.K H vs ds/\(s.heap.IsList l bO.toArray\/s.heap.IsTuple l bO.toArray))) (s1:Sn G SN dx t) (s2:Sn G SN (.fJ ds) (.fJ ss))
  (q:Q (.bl (if neg then !ss.any (jw · t) else ss.any (jw · t))) G):wpAny (model X.prog X.w) X.A (gw (if neg then .NotIn else .In) v u) (tK X pins σ H G Q) X.xe s:=by
 obtain⟨l,vs,bO,rfl,rv,rs,hl⟩:=hy;obtain⟨as,ra⟩:=(jM I ab s1).1 x v dX rx;obtain⟨bs,rb⟩:=(jM I ab s2).2 ds ss (.inl ⟨rfl,rfl⟩) vs bO rs rv;have d2:=La (n:=7) s2;have n2:rj ss=true:=s2.nr;have Bg:=wO _ n2;have e:=QY ss t n2 s1.nr;have M9:X.A.units+1+min (cD (mU ss)) (pd t).depth < cLine:=by lia
 have N7:iN s.heap bO.toArray.toList (mU ss) bs:=by simpa using rb
 have fin:∀ k:Bool,k=(if neg then !ss.any (jw · t) else ss.any (jw · t))->tK X pins σ H G Q (.bool k) s:=fun k hk=>by subst hk; exact⟨.bl _,H,.bl _,G,I,.refl ab,rfl,.bl _,q⟩
 cases neg with
 | false =>
  rcases hl with hl | hl
  ·exact SeqAt.in_listAt _ hl (ot N7 ra Bg (lg _ s1.nr) M9) (by rw [rT N7 Bg,e]; exact fin _ rfl)
  ·exact SeqAt.in_tupleAt _ hl (ot N7 ra Bg (lg _ s1.nr) M9) (by rw [rT N7 Bg,e]; exact fin _ rfl)
 | true =>
  rcases hl with hl | hl
  ·exact SeqAt.notIn_listAt _ hl (ot N7 ra Bg (lg _ s1.nr) M9) (by rw [rT N7 Bg,e]; exact fin _ rfl)
  ·exact SeqAt.notIn_tupleAt _ hl (ot N7 ra Bg (lg _ s1.nr) M9) (by rw [rT N7 Bg,e]; exact fin _ rfl)
theorem OR(hu:X.A.units+64 < cLine)(neg:Bool){pins:List (Addr×Obj)}{s:aF}{σ:L2.St}{H:Hp}{G:Gp}{x y:V}{dx:D}{bB:List (D×D)}{v u:Value}{Q:DK}(I:Inv X pins σ H s)(ab:oB X.K H G)(rx:RelV x v)(ry:RelV y u)(dY:dh X.K H y (.yE bB))(dX:dh X.K H x dx)
  (q:Co neg dx (.yE bB) G Q):wpAny (model X.prog X.w) X.A (gw (if neg then .NotIn else .In) v u) (tK X pins σ H G Q) X.xe s:=by
 obtain⟨mz,hk,q⟩:=q;have go:∀ (a:Addr) (o:Option V),y=.ref a->BZ H a x o->o.isSome=(look bB dx).isSome->wpAny (model X.prog X.w) X.A (gw (if neg then .NotIn else .In) v u) (tK X pins σ H G Q) X.xe s:=by
  intro a o ea g ho;subst ea;cases ry;cases neg with
  | false=>exact WQ (by lia) I g rx fun s3 I4=>⟨.bl _,H,.bl _,G,I4,.refl ab,rfl,.bl _,by rw [ho]; exact q⟩
  | true=>exact Le (by lia) I g rx fun s3 I4=>⟨.bl _,H,.bl _,G,I4,.refl ab,rfl,.bl _,by rw [ho]; exact q⟩
 obtain⟨a,o,ea,g,ho,_⟩:=Ec I dY hk dX;rcases g with rfl | g
 ·exact absurd rfl mz
 ·exact go a o ea g ho
theorem KA(hu:X.A.units+64 < cLine)(neg:Bool):vt X (gw (if neg then .NotIn else .In)) (Co neg):=by
 intro pins s σ H G x y dx dy v u Q I ab rx ry dX dY q;cases dY with
 | tup hq rs =>
  obtain⟨t,ss,s1,s2,q⟩:=q;cases ry;obtain⟨bO,rv,pl,hz⟩:=I.tuple (.of hq);exact ED hu neg (y:=x) I ab rx dX ⟨_,_,bO,rfl,rv,rs,.inr pl⟩ s1 s2 q
 | fJ hq rs =>
  obtain⟨t,ss,s1,s2,q⟩:=q;cases ry;obtain⟨bO,rv,pl,hz⟩:=I.list hq.sq;exact ED hu neg (y:=x) I ab rx dX ⟨_,_,bO,rfl,rv,rs,.inl pl.isList⟩ s1 s2 q
 | wb h rs=>exact OR hu neg I ab rx ry (.wb h rs) dX q
 | wa h rs=>exact OR hu neg I ab rx ry (.wa h rs) dX q
 | ref l =>
  unfold Co at q;dsimp only at q;split at q
  ·rename_i bB hl;obtain⟨hk,q⟩:=q;obtain⟨H3,o,I3,m3,g,ho,_⟩:=HE I ab hl hk dX;cases ry;cases neg with
   | false=>exact WQ (by lia) I3 g rx fun s3 I4=>⟨.bl _,H3,.bl _,G,I4,m3,rfl,.bl _,by rw [ho]; exact q⟩
   | true=>exact Le (by lia) I3 g rx fun s3 I4=>⟨.bl _,H3,.bl _,G,I4,m3,rfl,.bl _,by rw [ho]; exact q⟩
  ·rename_i ds hl;obtain⟨t,ss,s1,s2,q⟩:=q;cases ry;obtain⟨vs,hv,rs⟩:=ab.lst hl;obtain⟨bO,rv,pl,hz⟩:=I.list (.of hv);exact ED hu neg (y:=x) I ab rx dX ⟨_,_,bO,rfl,rv,rs,.inl pl.isList⟩ s1 s2 q
  ·exact q.elim
 | _=>exact bT q
theorem IZ(hu:X.A.units+64 < cLine):vt X (gw .In) (Co false):=KA hu false
theorem lT(hu:X.A.units+64 < cLine):vt X (gw .NotIn) (Co true):=KA hu true
end
end K2
end
section
namespace K2
open PySem PySem.Spec PyProof.Rows L2
section
variable {X:Cx} {a b c e o:Expr} {es:List Expr} {ta tb tc te to:hW} {t:DN} {pos p p2 apos pI:Pos} {x name:Str} {id T:String}
theorem cP:yu X (.builtin "len") i7:=by
 intro pins s σ H G xs ds us Q I ab rx rd q;unfold i7 at q;split at q
 ·rename_i x;obtain⟨v,rfl,r⟩:=rd.one;have Qr:∀ (n:Nat),W9 X.K v H n->Q (.int (n:Int)) G->wpAny (model X.prog X.w) X.A (call (.builtin "len") us) (tK X pins σ H G Q) X.xe s:=fun n hn hq =>
   iy (PA pins s σ H [v] us (Cb X.K H G Q) I rx ⟨v,n,rfl,hn,_,_,.refl ab,.int _,hq⟩) fun _ _ z=>.of z
  have sz:br=16777216:=dm;cases r with
  | tup hq rs=>exact Qr _ (.inr ⟨_,.of hq,by rw [rs.length]⟩) q
  | fJ hq rs=>exact Qr _ (.inl ⟨_,hq.sq,by rw [rs.length]⟩) q
  | str y =>
   unfold lenOf at q;dsimp only at q;by_cases hz:y.length<=SZ
   ·rw [if_pos hz] at q; exact Qr _ ⟨by rw [sz]; exact hz,rfl⟩ q
   ·rw [if_neg hz] at q; exact q.elim
  | wb h rs =>
   rename_i l o kv bB;obtain⟨u,rfl,ru⟩:=rx.one;cases ru;unfold lenOf at q;dsimp only at q;by_cases ha:(bB.all fun p=>gY p.1)=true
   ·rw [if_pos ha] at q;exact Sb I (.inr ⟨_,h⟩) fun t s' I'=>⟨.int kv.length,H,_,G,I',.refl ab,⟨t,rfl⟩,.int _,by rw [rs.length]; exact q⟩
   ·rw [if_neg ha] at q; exact q.elim
  | wa h rs =>
   rename_i l o kv bB;obtain⟨u,rfl,ru⟩:=rx.one;cases ru;unfold lenOf at q;dsimp only at q;by_cases ha:(bB.all fun p=>gY p.1)=true
   ·rw [if_pos ha] at q;cases rs with
    | nil =>
     obtain⟨z,hS,xs,rel,ob,es,ep,ho,hx,MC,hl,nd⟩:=(I.fB l _ h).2;have Zt:xs=[]:=by cases rel; rfl
     subst Zt;have he:es=#[]:=by simpa using hl
     subst he;have dd:s.heap.DictOf (iE X.prog X.w) l []:=⟨ob,#[],ep,ho,hx,MC,(fun _ h=>by simp at h),.nil,lB⟩;refine call_len_dict hS dd (by simp) ?_;exact⟨.int 0,H,_,G,I.tok _,.refl ab,⟨_,rfl⟩,.int _,q⟩
    | cons _ _=>simp [gY] at ha
   ·rw [if_neg ha] at q; exact q.elim
  | ref l =>
   unfold lenOf at q;dsimp only at q;cases hg:G l with
   | none=>rw [hg] at q; exact q.elim
   | some g =>
    rw [hg] at q;cases g with
    | lst ds =>
     obtain⟨vs,hv,rs⟩:=ab.lst hg;exact Qr _ (.inl ⟨_,.of hv,by rw [rs.length]⟩) q
    | ins _ _=>exact q.elim
    | oq bB =>
     obtain⟨u,rfl,ru⟩:=rx.one;cases ru;dsimp only at q;by_cases ha:(bB.all fun p=>gY p.1)=true
     ·rw [if_pos ha] at q;rcases ab l _ hg with ⟨kv,hv,rs⟩ | ⟨kv,hv,rs⟩
      ·exact Sb I (.inl hv) fun t s' I'=>⟨.int kv.length,H,_,G,I',.refl ab,⟨t,rfl⟩,.int _,by rw [rs.length]; exact q⟩
      ·cases rs with
       | nil =>
        obtain⟨z,hd,vs,rel,dd⟩:=K8 (toK I hv).fB dv;have hvs:vs=[]:=by cases rel; rfl
        subst hvs;refine call_len_dict hd dd (by simp) ?_;exact⟨.int 0,H,_,G,I.tok _,.refl ab,⟨_,rfl⟩,.int _,q⟩
       | cons _ _=>simp [gY] at ha
     ·rw [if_neg ha] at q; exact q.elim
  | _=>exact bT q
 ·exact q.elim
theorem oa:yu X (.type "list") rD:=by
 intro pins s σ H G xs ds us Q I ab rx rd q;unfold rD at q;split at q
 ·rename_i x;obtain⟨v,rfl,r⟩:=rd.one;have Yi:∀ (l:Addr) (ys:List V) (zs:List D),v=.ref l->(qy X.K H l ys\/BQ X.K H l ys)->bA X.K H ys zs->l0 G (.lst zs) Q->wpAny (model X.prog X.w) X.A (call (.type "list") us) (tK X pins σ H G Q) X.xe s:=fun l ys zs e h rs hq=>by
   subst e;exact iy (Fg pins s σ H _ us (Cb X.K H G Q) I rx ⟨l,ys,rfl,h,fun p hp=>⟨_,_,.GK ab hp rs,.ref _,hq p (ab.free hp)⟩⟩) fun _ _ z=>.of z
  cases r with
  | tup hq rs=>exact Yi _ _ _ rfl (.inr (.of hq)) rs q
  | fJ hq rs=>exact Yi _ _ _ rfl (.inl hq.sq) rs q
  | ref l =>
   unfold itemsOf at q;dsimp only at q;cases hg:G l with
   | none=>rw [hg] at q; exact q.elim
   | some g =>
    rw [hg] at q;cases g with
    | lst ds =>
     obtain⟨vs,hv,rs⟩:=ab.lst hg;exact Yi _ _ _ rfl (.inl (.of hv)) rs q
    | ins _ _=>exact q.elim
    | oq bB=>exact q.elim
  | _=>exact bT q
 ·exact q.elim
theorem nS {r:List D->Gp->DK->Prop} (hc:yu X (.type T) r) (hg:Gl X x) (hm:X.mg x=none) (hv:eN x=some (.type T)) (ha:FN X (e :: es) t) (hn:autoParam (x≠"__name__") Ad._auto_1) (O0:autoParam ((x == ("__debug__" : Str))=false) Ad._auto_1)
  (he:autoParam (cq (e :: es) X.env=(false,eval e X.env) :: cq es X.env) Ar._auto_1) (u0:autoParam ((nG pos (cq es X.env)).any (·.1)=false) Ar._auto_1):iD X (.Call (.Name x p) (e :: es) [] pos) (ju r t):=by
 intro E pins s σ H τ G Q hE I h;refine nC (qO I.inv hg hm hv ?_ hn O0);exact fi (zg ha pos hE I h fun vs H1 ds G1 us s1 I1 m1 r1 j0 q1=>iy (hc pins s1 σ H1 G1 vs ds us Q I1.inv I1.ab r1 j0 q1) fun _ _ z=>z.trans m1) he u0
theorem Tv (K:aw):∀ C∈["int","bool","list","tuple","dict","str"],∀ T∈["NoneType","bool","int","str","tuple","list","dict"],PySem.W.kitOne K (.type T) (.type C)=some (T == C||(T == "bool" && C == "int")):=by
 intro C hC T hT;simp only [dD,cR,or_false] at hC hT;rcases hC with rfl | rfl | rfl | rfl | rfl | rfl <;> rcases hT with rfl | rfl | rfl | rfl | rfl | rfl | rfl <;> kernel_rfl
theorem OP (C:String) (hC:C∈["int","bool","list","tuple","dict","str"]) {pins:List (Addr×Obj)} {s:aF} {σ:L2.St} {H:Hp} {G:Gp} {v:V} {d:D} {u:Value} {k:Bool} {Q:DK} (I:Inv X pins σ H s) (ab:oB X.K H G) (ru:RelV v u) (r:dh X.K H v d)
  (hk:RY C d G=some k) (q:Q (.bl k) G):wpAny (model X.prog X.w) X.A (call (.builtin "isinstance") [u,.type C]) (tK X pins σ H G Q) X.xe s:=by
 have fin:∀ tk,tK X pins σ H G Q (.bool k) { s with toks:=tk }:=fun tk=>⟨.bl k,H,.bl k,G,I.tok _,.refl ab,rfl,.bl k,q⟩;have hl:∀ T∈["NoneType","bool","int","str","tuple","list","dict"],k=(T == C||(T == "bool" && C == "int"))->PySem.W.kitOne X.K (.type T) (.type C)=some k:=fun T hT e=>by rw [Tv X.K C hC T hT,e]
 have tl:∀ {l:Addr} {o:Obj},s.heap.get? l=some o->o.cls=.type "list"->k=("list" == C||("list" == "bool" && C == "int"))->v=.ref l->wpAny (model X.prog X.w) X.A (call (.builtin "isinstance") [u,.type C]) (tK X pins σ H G Q) X.xe s:=fun ho hc e ev=>by
  subst ev;cases ru;exact jV PySem.W.kitx_list I.Cw ⟨_,ho,hc⟩ (hl "list" (by decide) e) (fun z=>nomatch z) fin
 have td:∀ {l:Addr} {o:Obj},s.heap.get? l=some o->o.cls=.type "dict"->k=("dict" == C||("dict" == "bool" && C == "int"))->v=.ref l->wpAny (model X.prog X.w) X.A (call (.builtin "isinstance") [u,.type C]) (tK X pins σ H G Q) X.xe s:=fun ho hc e ev=>by
  subst ev;cases ru;exact jV PySem.W.kitx_dict I.Cw ⟨_,ho,hc⟩ (hl "dict" (by decide) e) (fun z=>nomatch z) fin
 have pJ:∀ P:String->Prop,(∀ C'∈["int","bool","list","tuple","dict","str"],P C')->P C:=fun P h=>h C hC;cases r with
 | eK =>
  cases ru;have e:k=("NoneType" == C||("NoneType" == "bool" && C == "int")):=by
   have:k=false:=(bY hk).symm;rw [this];exact pJ (fun C=>false=("NoneType" == C||("NoneType" == "bool" && C == "int"))) (by decide)
  exact jV PySem.W.kitx_none I.Cw jH (hl _ (by decide) e) (fun z=>nomatch z) fin
 | bl y =>
  cases ru;have e:k=("bool" == C||("bool" == "bool" && C == "int")):=by
   have:k=(C == "bool" || C == "int"):=(bY hk).symm;rw [this];exact pJ (fun C=>(C == "bool" || C == "int")=("bool" == C||("bool" == "bool" && C == "int"))) (by decide)
  exact jV PySem.W.kitx_bool I.Cw jH (hl _ (by decide) e) (fun z=>nomatch z) fin
 | int y =>
  obtain⟨t,rfl⟩:=ru;have e:k=("int" == C||("int" == "bool" && C == "int")):=by
   have:k=(C == "int"):=(bY hk).symm;rw [this];exact pJ (fun C=>(C == "int")=("int" == C||("int" == "bool" && C == "int"))) (by decide)
  exact jV PySem.W.kitx_int I.Cw jH (hl _ (by decide) e) (fun z=>nomatch z) fin
 | str y =>
  obtain⟨t,rfl⟩:=ru;have e:k=("str" == C||("str" == "bool" && C == "int")):=by
   have:k=(C == "str"):=(bY hk).symm;rw [this];exact pJ (fun C=>(C == "str")=("str" == C||("str" == "bool" && C == "int"))) (by decide)
  exact jV PySem.W.kitx_str I.Cw jH (hl _ (by decide) e) (fun z=>nomatch z) fin
 | tup hq rs =>
  cases ru;have e:k=("tuple" == C||("tuple" == "bool" && C == "int")):=by
   have:k=(C == "tuple"):=(bY hk).symm;rw [this];exact pJ (fun C=>(C == "tuple")=("tuple" == C||("tuple" == "bool" && C == "int"))) (by decide)
  obtain⟨bO,rv,⟨o,h1,h2,_⟩,hz⟩:=I.tuple (.of hq);exact jV PySem.W.kitx_tuple I.Cw ⟨o,h1,h2⟩ (hl _ (by decide) e) (fun z=>nomatch z) fin
 | fJ hq rs =>
  obtain⟨bO,rv,pl,hz⟩:=I.list hq.sq;obtain⟨o,h1,h2,_⟩:=pl.isList;refine tl h1 h2 ?_ rfl;have:k=(C == "list"):=(bY hk).symm;rw [this];exact pJ (fun C=>(C == "list")=("list" == C||("list" == "bool" && C == "int"))) (by decide)
 | wb h rs =>
  have e:k=("dict" == C||("dict" == "bool" && C == "int")):=by
   have:k=(C == "dict"):=(bY hk).symm;rw [this];exact pJ (fun C=>(C == "dict")=("dict" == C||("dict" == "bool" && C == "int"))) (by decide)
  obtain⟨_,_,vs,_,ob,_,_,h1,h2,_⟩:=yZ I.fB (.inr ⟨_,h⟩);exact td h1 h2.1 e rfl
 | wa h rs =>
  have e:k=("dict" == C||("dict" == "bool" && C == "int")):=by
   have:k=(C == "dict"):=(bY hk).symm;rw [this];exact pJ (fun C=>(C == "dict")=("dict" == C||("dict" == "bool" && C == "int"))) (by decide)
  obtain⟨_,_,ys,_,ob,_,_,h1,h2,_⟩:=DA I.fB (.inr ⟨_,h⟩);exact td h1 h2.1 e rfl
 | exc h=>simp [RY] at hk
 | ref l =>
  unfold RY at hk;dsimp only at hk;cases hg:G l with
  | none=>rw [hg] at hk; cases hk
  | some g =>
   rw [hg] at hk;cases g with
   | lst ds =>
    obtain⟨vs,hv,rs⟩:=ab.lst hg;obtain⟨bO,rv,pl,hz⟩:=I.list (.of hv);obtain⟨o,h1,h2,_⟩:=pl.isList;refine tl h1 h2 ?_ rfl;have:k=(C == "list"):=(bY hk).symm;rw [this];exact pJ (fun C=>(C == "list")=("list" == C||("list" == "bool" && C == "int"))) (by decide)
   | ins _ _=>cases hk
   | oq bB =>
    have e:k=("dict" == C||("dict" == "bool" && C == "int")):=by
     have:k=(C == "dict"):=(bY hk).symm;rw [this];exact pJ (fun C=>(C == "dict")=("dict" == C||("dict" == "bool" && C == "int"))) (by decide)
    rcases ab l _ hg with ⟨kv,hv,rs⟩ | ⟨kv,hv,rs⟩
    ·obtain⟨_,_,vs,_,ob,_,_,h1,h2,_⟩:=K8 I.fB hv;exact td h1 h2.1 e rfl
    ·obtain⟨_,_,ys,_,ob,_,_,h1,h2,_⟩:=R9 I.fB hv;exact td h1 h2.1 e rfl
theorem l8 (C:String) (hC:C∈["int","bool","list","tuple","dict","str"]) {y:Str} {py:Pos} (hg:Gl X "isinstance") (hm:X.mg "isinstance" = none) (hgC:Gl X y) (hmC:X.mg y=none) (hvC:eN y=some (.type C)) (ha:iD X a ta) (hn:autoParam (y≠"__name__") Ad._auto_1) (O0:autoParam ((y == ("__debug__" : Str))=false) Ad._auto_1)
  (he:autoParam (cq [a,.Name y py] X.env=(false,eval a X.env) :: cq [.Name y py] X.env) Ar._auto_1) (u0:autoParam ((nG pos (cq [Expr.Name y py] X.env)).any (·.1)=false) Ar._auto_1) (Z4:autoParam (cq [.Name y py] X.env=[(false,eval (.Name y py) X.env)]) Ar._auto_1) :
  iD X (.Call (.Name "isinstance" p) [a,.Name y py] [] pos) (ux C ta):=by
 intro E pins s σ H τ G Q hE I h;refine nC (qO I.inv hg hm PyProof.Rows.boot_isinstance ?_);refine xE ?_ he u0;rw [he];show wpAny _ _ (spliced ((false,eval a X.env) :: nG pos (cq [.Name y py] X.env))) _ _ s;refine Az (lO ha hE I h fun v H1 d G1 u s1 I1 m1 r1 j0 q1=>?_);rw [Z4];show wpAny _ _ (spliced [(false,eval (.Name y py) X.env)]) _ _ s1;refine Az (qO I1.inv hgC hmC hvC (Calls.spliced_nil ?_) hn O0)
 try dsimp only at q1
 split at q1
 ·rename_i k hk;exact iy (OP C hC I1.inv I1.ab r1 j0 hk q1) fun _ _ z=>z.trans m1
 ·exact q1.elim
end
end K2
end
section
namespace K2
open PySem PySem.Spec PyProof.Rows L2
section
variable {X:Cx} {a b c e o:Expr} {es:List Expr} {ta tb tc te to:hW} {t:DN} {pos p p2 apos pI:Pos} {x name:Str} {id T:String}
noncomputable def PQ(X:Cx)(id:String)(r:D->List D->Gp->DK->Prop):Prop :=
 ∀ (pins:List (Addr×Obj)) (s:aF) (σ:L2.St) (H:Hp) (G:Gp) (x:V) (d:D) (xs:List V) (ds:List D) (v:Value) (us:List Value) (Q:DK),Inv X pins σ H s->oB X.K H G->RelV x v->dh X.K H x d->Vals xs us->bA X.K H xs ds->r d ds G Q ->
  wpAny (model X.prog X.w) X.A (call (.builtin id) (v :: us)) (tK X pins σ H G Q) X.xe s
noncomputable def W4(X:Cx)(T:String)(ty:D->Gp->Prop):Prop:=∀ (pins:List (Addr×Obj)) (s:aF) (σ:L2.St) (H:Hp) (G:Gp) (x:V) (d:D) (v:Value),Inv X pins σ H s->oB X.K H G->RelV x v->dh X.K H x d->ty d G ->
  s.TypeIs v T/\∀ a,v=.ref a->∃ ob,s.heap.get? a=some ob/\ob.dict=none
theorem fX:W4 X "list" vL:=by
 intro pins s σ H G x d v I ab r rd h;cases rd with
 | fJ hq rs=>exact NB I r (.inl ⟨rfl,_,hq.sq⟩)
 | ref l =>
  unfold vL at h;dsimp only at h;split at h
  ·rename_i ds hg;obtain⟨vs,hv,rs⟩:=ab.lst hg;exact NB I r (.inl ⟨rfl,vs,.of hv⟩)
  ·exact h.elim
 | _=>exact bT h
theorem jB {ty:D->Gp->Prop} {r:D->List D->Gp->DK->Prop} (pa:PlainAttrs T) (slot:Slot T name id) (hty:typeOf (.builtin id)=pure (.type "method_descriptor")) (ht:W4 X T ty) (hm:PQ X id r) (ho:iD X o to) (ha:FN X (e :: es) t)
  (WA:autoParam (xC o name X.env (eval o X.env)=eval o X.env) Ar._auto_1)
  (Z3:autoParam (((nG pI (cq (e :: es) X.env)).all (fun x=>!x.1)&&(backToKw pI (DP [] X.env)).all (fun x=>x.1.isSome)
   && decide ((e :: es).length+([]:List Nw).length+(if ([]:List Nw).isEmpty then 0 else 1) < 30))=true) Ar._auto_1)
  (Wo:autoParam ((apos.endLine == pI.line)=true) Ar._auto_1) (hs:autoParam (cq (e :: es) X.env=(false,eval e X.env) :: cq es X.env) Ar._auto_1) (TM:autoParam ((nG pI (cq es X.env)).any (·.1)=false) Ar._auto_1) :
  iD X (.Call (.Attribute o name apos) (e :: es) [] pI) (qU ty r to t):=by
 intro E pins s σ H τ G Q hE I h;refine wpAny_Call_method_late WA Z3 Wo rfl (lO ho hE I h ?_);rintro x H1 d G1 v s1 I1 m1 r1 j0 ⟨hy,q1⟩;obtain⟨h1,h2⟩:=ht pins s1 σ H1 G1 x d v I1.inv I1.ab r1 j0 hy;refine⟨T,id,pa,slot,hty,h1,h2,?_⟩;have hA:=ha pI E pins s1 σ H1 τ G1 _ hE I1 q1;rw [hs] at hA ⊢;refine Calls.callWith_builtin (by show (false||(nG pI (cq es X.env)).any (·.1))=false; rw [TM] <;> rfl) (Calls.evalArgs_plain ?_);exact iy hA (by rintro us s2 ⟨vs,H2,ds,G2,mX,m2,r2,Ee,q2⟩; exact iy (hm pins s2 σ H2 G2 x d vs ds v us Q mX m2.ab r1 (j0.mono (m2.kp I1.ab)) r2 Ee q2) fun _ _ z=>z.trans (m1.trans m2))
theorem gX:PQ X "list.append" ig:=by
 intro pins s σ H G x d xs ds v us Q I ab rx rd SM Kr q;unfold ig at q;split at q
 ·rename_i l d';cases rd;obtain⟨w,rfl,oH⟩:=Kr.one;split at q
  ·rename_i zs hg;obtain⟨hz,q⟩:=q;obtain⟨vs,hv,rs⟩:=ab.lst hg;exact iy (De pins s σ H _ _ v us (Cb X.K H G Q) I rx SM ⟨l,vs,w,rfl,rfl,hv,by rw [rs.length,dm]; exact hz,_,_,.putL ab hg hv (rs.append (.cons oH .nil)),.eK,q⟩) fun _ _ z=>.of z
  ·exact q.elim
 ·exact q.elim
theorem JK(l:Addr)(xs:Array Value)(n:Nat)(b:Addr)(ys:Array Value)(n2:Nat)(dd:Option Addr)(sl:Array (Option Value))(R3:¬(!xs.isEmpty&&kq (xs.size+ys.size))=true)(hx:xs.size<=br)(hxy:xs.size+ys.size<=br+1) :
  Meets (Builtin.«list.extend» ⟨[.ref l,.ref b],[]⟩) (fun _ R s=>s.heap.get? l=some { cls:=.type "list",dict:=none,data:=.seq xs n,slots:=#[] }/\s.heap.get? b=some { cls:=.type "list",dict:=dd,data:=.seq ys n2,slots:=sl }/\R (.ok (.ret mY)) { s with heap:=s.heap.update l (jT fun x=>x++ys),toks:=s.toks }) :=
 .of_wp fun prog w A R s h=>by
  obtain⟨hp,g,d,tk,os⟩:=s;obtain⟨h1,h2,h3⟩:=h;have e1:=AutoSeq1.idx_int;have e2:=qY;have e3:=IG;have e4:=AutoSeq1.sub_tuple_list;have e5:=AutoSeq1.sub_list_tuple;have hz':(xs++ys).size<=br+1:=by rw [Array.size_append]; exact hxy
  wp_walk using (Ag h1 rfl (hz:=hx) (_hz':=hz')),cx h1,cx h2
  exact⟨_,rfl,h3⟩
theorem Jf:PQ X "list.extend" zZ:=by
 intro pins s σ H G x d xs ds v us Q I ab rx rd SM Kr q;unfold zZ at q;split at q
 ·rename_i l y;cases rd;obtain⟨w,rfl,oH⟩:=Kr.one;obtain⟨u,rfl,ru⟩:=SM.one;split at q
  ·rename_i zs ys hg TU;obtain⟨hz,q⟩:=q;obtain⟨vs,hv,rs⟩:=ab.lst hg;obtain⟨b,ws,ur,rfl,LO,RL,hb,_⟩:=oe I ab ru oH TU;cases rx;obtain⟨z,bO,n,r,hl,e⟩:=I.Tt hv;obtain⟨⟨cl,dd,dt,sl⟩,ho,KZ,n2,hdt⟩:=hb;simp only at KZ hdt;subst KZ hdt;have h1:=LO.length;have h2:=RL.length;have h3:=rs.length;have h4:=r.length;have h5:br=16777216:=dm;have h6:SZ=16777216:=rfl;have hsz:bO.toArray.size+ur.toArray.size<=br:=by rw [a9,a9]; lia
   have R3:¬ (!bO.toArray.isEmpty&&kq (bO.toArray.size+ur.toArray.size))=true:=by
    rw [OA hsz,Kf];exact jZ
   refine B3 F.slot_list_extend ⟨_,e,rfl⟩ F.entry_list_extend (F.args_list_extend_2 _ _) (JK l bO.toArray n b ur.toArray n2 dd sl R3 (by rw [a9]; lia) (by lia)) ⟨e,ho,?_⟩;refine⟨.eK,_,.eK,_,I.Tu (its':=bO++ur) hv e (by simp) (r.append LO) ?_,.putL ab hg hv (rs.append RL),rfl,.eK,q⟩;rw [aL];lia
  ·exact q.elim
 ·exact q.elim
theorem TB{bO:List Value}{u:Value}{k:Nat}(hk:k<=bO.length):(bO.toArray.extract 0 k).push u++bO.toArray.extract k=(bO.take k++u :: bO.drop k).toArray:=by
 simp [List.extract_eq_take_drop];rw [nc (by rw [cT]; lia)]
theorem Je:PQ X "list.insert" zY:=by
 intro pins s σ H G x d xs ds v us Q I ab rx rd SM Kr q;unfold zY at q;split at q
 ·rename_i l i d';cases rd;obtain⟨w,w2,rfl,LN,Vt⟩:=Kr.two;cases LN;split at q
  ·rename_i zs hg;obtain⟨h0,h1,hz,q⟩:=q;obtain⟨vs,hv,rs⟩:=ab.lst hg;obtain⟨u1,u2,rfl,⟨t,rfl⟩,SO⟩:=vals2 SM;cases rx;obtain⟨z,bO,n,r,hl,e⟩:=I.Tt hv;have sz:br=16777216:=dm;have hlen:bO.length=zs.length:=by rw [<-hl,rs.length]
   have hs:SZ=16777216:=rfl;have Z2:¬ (!Builtin.List.listFitsIndex i)=true:=by
    rw [fitsIndex_both (by lia) (by lia)];exact jZ
   refine B3 F.slot_list_insert ⟨_,e,rfl⟩ F.entry_list_insert (F.args_list_insert_3 _ _ _)
    (AutoSeq1.list_insert_list_int_val_1 l bO.toArray n i t u2 Z2 (by rw [a9]; lia)) ⟨e,?_⟩
   have hi:i.toNat<=bO.length:=by lia
   refine⟨.eK,_,.eK,_,I.Tu (its':=bO.take i.toNat++u2 :: bO.drop i.toNat) (ys:=vs.take i.toNat++w2 :: vs.drop i.toNat) hv e ?_ ((r.take _).append (.cons SO (r.drop _))) ?_,.putL ab hg hv ((rs.take _).append (.cons Vt (rs.drop _))),rfl,.eK,q⟩
   ·dsimp only;have e1:(if i < 0 then (i+(bO.toArray.size:Int)).toNat else min i.toNat bO.toArray.size)=i.toNat:=by
     rw [if_neg (by lia),a9]; lia
    rw [e1];exact TB hi
   ·rw [aL,ag,cS,cT];lia
  ·exact q.elim
 ·exact q.elim
theorem t6 (hu : X.A.units + 64 < cLine) : PQ X "list.index" sI := by
  intro pins s σ H G x d xs ds v us Q I ab rx rd SM Kr q;unfold sI at q;split at q
  · rename_i d'
    obtain⟨hy, zs, sn, ss, hi, s1, s2, q⟩ := q;obtain⟨w, rfl, oH⟩ := Kr.one;obtain⟨u, rfl, ru⟩ := SM.one;have lists : ∃ l vs bO, v = .ref l ∧ Vals vs bO ∧ bA X.K H vs zs ∧ s.heap.IsList l bO.toArray ∧ vs.length ≤ br := by
      cases rd with
      | fJ hq rs =>
        cases hi;cases rx;obtain⟨bO, rv, pl, hz⟩ := I.list hq.sq;exact⟨_, _, bO, rfl, rv, rs, pl.isList, hz⟩
      | ref l =>
        unfold itemsOf at hi;dsimp only at hi;cases hg : G l with
        | none => rw [hg] at hi; cases hi
        | some g =>
          rw [hg] at hi;cases g with
          | lst ds =>
            cases hi;cases rx;obtain⟨vs, hv, rs⟩ := ab.lst hg;obtain⟨bO, rv, pl, hz⟩ := I.list (.of hv);exact⟨_, _, bO, rfl, rv, rs, pl.isList, hz⟩
          | ins _ _ => cases hi
          | oq _ => cases hi
      | _ => exact bT hy
    obtain⟨l, vs, bO, rfl, rv, rs, hl, hz⟩ := lists;obtain⟨as, ra⟩ := (jM I ab s1).1 w u oH ru;obtain⟨bs, rb⟩ := (jM I ab s2).2 zs ss (.inl ⟨rfl, rfl⟩) vs bO rs rv;have d2 := La (n := 7) s2;have n2 : rj ss = true := s2.nr;have Bg := wO _ n2;have M9 : X.A.units + 1 + min (cD (mU ss)) (pd sn).depth < cLine := by lia
    have N7 : iN s.heap bO.toArray.toList (mU ss) bs := by simpa using rb
    have mp := SeqAt.readsAll_map _ _ _ Bg N7;split at q
    · rename_i k hk
      obtain⟨EG, ZZ, R0⟩ := List.findIdx?_eq_some_iff_getElem.mp hk;have pdl : ∀ (zz : List D), (mU zz).length = zz.length := by
        intro zz;induction zz with
        | nil => rfl
        | cons a r ih => exact congrArg Nat.succ ih
      have hlen : bO.length = ss.length := by
        have := congrArg dE mp;rw [ax, pdl] at this;simpa using this
      have at_ : ∀ (m : Nat) (h1 : m < bO.toArray.size) (h2 : m < ss.length), vH (CY s.heap bO.toArray[m]) (pd sn) = jw ss[m] sn := by
        intro m h1 h2;have e1 : (bO.toArray.toList.map (CY s.heap))[m]? = (mU ss)[m]? := by rw [mp]
        have pdg : ∀ (zz : List D) (m : Nat) (h : m < zz.length), (mU zz)[m]? = some (pd zz[m]) := by
          intro zz;induction zz with
          | nil => intro m h; simp at h
          | cons a r ih => intro m h; cases m with
            | zero => rfl
            | succ m => exact ih m (Nat.lt_of_succ_lt_succ h)
        rw [pdg ss m h2] at e1;have h1' : m < bO.length := by simpa using h1
        have e2 : CY s.heap bO.toArray[m] = pd ss[m] := by
          simpa [h1'] using e1
        rw [e2];have nrm : nr ss[m] = true := by
          have : ∀ (zz : List D) (m : Nat) (h : m < zz.length), rj zz = true -> nr zz[m] = true := by
            intro zz;induction zz with
            | nil => intro m h; simp at h
            | cons a r ih => intro m h hn; have UR : nr a = true ∧ rj r = true := (kO).mp hn
                             cases m with
                             | zero => exact UR.1
                             | succ m => exact ih m (by simpa using h) UR.2
          exact this ss m h2 n2
        exact ve _ _ nrm s1.nr
      have sz : br = 16777216 := dm;have hvl : vs.length = bO.length := rv.length;obtain⟨⟨cls, dd, data, sl⟩, ho, hc, n, hd⟩ := id hl;simp only at hc hd;subst hc hd;have hki : k < bO.toArray.size := by rw [a9]; lia
      refine B3 jj ⟨_, ho, rfl⟩ PySem.F.entry_list_index (PySem.F.args_list_index_2 _ _)
        (SeqAt.list_indexAt l bO.toArray n dd sl u (fun y => vH (CY s.heap y) (pd sn)) k hki (by lia) ?_ ?_) ⟨ho, ot N7 ra Bg (lg _ s1.nr) M9, ?_⟩
      · rw [at_ k hki EG]; exact ZZ
      · intro m hm hmk
        have US : m < ss.length := by lia
        rw [at_ m hm US];simpa using R0 m hmk
      · exact⟨.int k, H, .int k, G, I.tok _, .refl ab, ⟨_, rfl⟩, .int _, q⟩
    · exact q.elim
  · exact q.elim
theorem QW:iD X (.Dict [] [] pos) JP:=by
 intro E pins s σ H τ G Q hE I h;exact iy (Oq pins s σ H (Cb X.K H G Q) I.inv fun p hp=>⟨_,_,.new I.ab hp (.dk dv .nil),.ref _,h p (I.ab.free hp)⟩) fun _ _ z=>.of z
end
end K2
end
section
namespace K2
open PySem PySem.Spec PyProof.Rows L2
noncomputable def ia(env:Env):List (Str×uC)->List (Str×Addr)->List (Str×Addr)
 | [],acc=>acc
 | (n,k) :: r,acc=>if k=.free then ia env r ((n,(env.cells.lookup n).getD 0) :: acc) else ia env r acc
theorem vo(env:Env)(f:Str×uC->List (Str×Addr)->Sem (ForInStep (List (Str×Addr))))(hf:∀ n k c,f (n,k) c=if (k == lK)=true then (cellOf env n >>= fun a=>pure (uk ((n,a) :: c))) else pure (uk c)) :
  ∀ (ns:List (Str×uC)) (acc:List (Str×Addr)),(∀ x∈ns,x.2=.free->∃ c,env.cells.lookup x.1=some c)->forIn ns acc f=(pure (ia env ns acc):Sem (List (Str×Addr)))
 | [],acc,_=>rfl
 | (n,k) :: r,acc,h=>by
  rw [List.forIn_cons,hf];have hr:∀ x∈r,x.2=.free->∃ c,env.cells.lookup x.1=some c:=fun x hx=>h x (aU _ hx);by_cases hk:k=.free
  ·subst hk;obtain⟨c,hc⟩:=h (n,.free) bb rfl;have ec:cellOf env n=pure c:=by unfold cellOf; rw [hc]
   rw [if_pos (by decide),ec,pure_bind,pure_bind];show forIn r ((n,c) :: acc) f=_;rw [vo env f hf r _ hr];show _=(pure (ia env ((n,.free) :: r) acc):Sem (List (Str×Addr)));rw [ia,if_pos rfl,hc]; rfl
  ·rw [if_neg (by simpa using hk),pure_bind];show forIn r acc f=_;rw [vo env f hf r _ hr];show _=(pure (ia env ((n,k) :: r) acc):Sem (List (Str×Addr)));rw [ia,if_neg hk]
theorem CN{env:Env}{scope:Scope}(h:∀ x∈scope.names,x.2=.free->∃ c,env.cells.lookup x.1=some c):closureFor scope env=pure (ia env scope.names []):=by
 unfold closureFor;dsimp only;rw [vo env _ (fun n k c=>?_) scope.names [] h]
 ·rfl
 ·by_cases hk:(k == lK)=true
  ·simp only [hk,if_true]
  ·simp only [hk,if_false,ai]
theorem vO{env:Env}{x:Str}{c:Addr}:∀ {ns:List (Str×uC)} {acc:List (Str×Addr)},(∀ y∈ns,y.2=.free->∃ c,env.cells.lookup y.1=some c)->(∀ y c,acc.lookup y=some c->env.cells.lookup y=some c)->(ia env ns acc).lookup x=some c->env.cells.lookup x=some c
 | [],_,_,ha,e=>ha _ _ e
 | (n,k) :: r,acc,h,ha,e=>by
  have hr:∀ y∈r,y.2=.free->∃ c,env.cells.lookup y.1=some c:=fun y hy=>h y (aU _ hy);unfold ia at e;by_cases hk:k=.free
  ·rw [if_pos hk] at e;refine vO hr (fun y c' q=>?_) e;rw [oC] at q;by_cases hy:(y == n)=true
   ·rw [hy] at q;have e1:y=n:=eq_of_beq hy;subst e1;obtain⟨c0,hc0⟩:=h (y,k) bb hk;rw [hc0] at q ⊢;exact q
   ·have Zs:(y == n)=false:=by simpa using hy
    rw [Zs] at q;exact ha y c' q
  ·rw [if_neg hk] at e;exact vO hr ha e
theorem qA{env:Env}{x:Str}:∀ {ns:List (Str×uC)} {acc:List (Str×Addr)},((x,lK)∈ns\/∃ c,acc.lookup x=some c)->∃ c,(ia env ns acc).lookup x=some c
 | [],_,h=>by rcases h with h | h; exact absurd h (by simp); exact h
 | (n,k) :: r,acc,h=>by
  unfold ia;have grow:∀ a,(∃ c,acc.lookup x=some c)->∃ c,((n,a) :: acc).lookup x=some c:=fun a TN=>by
   obtain⟨c,hc⟩:=TN;rw [oC];by_cases hy:(x == n)=true
   ·rw [hy]; exact⟨_,rfl⟩
   ·have Zs:(x == n)=false:=by simpa using hy
    rw [Zs]; exact⟨c,hc⟩
  by_cases hk:k=.free
  ·rw [if_pos hk];refine qA ?_;rcases h with h | h
   ·rcases List.mem_cons.mp h with e | h
    ·injection e with e1 e2
     subst e1;exact .inr ⟨(env.cells.lookup x).getD 0,by rw [oC]; simp⟩
    ·exact .inl h
   ·exact .inr (grow _ h)
  ·rw [if_neg hk];refine qA ?_;rcases h with h | h
   ·rcases List.mem_cons.mp h with e | h
    ·injection e with e1 e2
     exact absurd e2.symm hk
    ·exact .inl h
   ·exact .inr h
noncomputable abbrev eP(X:Cx)(N:List Str)(scope:Scope)(C:Addr)(s:aF)(H:Hp)(fp:List Addr):Cx :=
 { X with env:=compEnvC scope (ia X.env scope.names []) C X.env,N:=N,oy:=s,PS:=H,outer:=X.stack,stack:=X.stack,ex:=fp,fn:=fun _=>false,pn:=[],xe:=fun _ _=>False }
theorem wc{scope:Scope}{env:Env}{x:Str}(h:(Iy scope env).names.lookup x=some .cell\/(Iy scope env).names.lookup x=some .free)(rp:∀ y∈scope.names,y.2≠.cell):(x,lK)∈scope.names:=by
 have go:∀ k,(Iy scope env).names.lookup x=some k->k=.cell\/k=.free->(x,lK)∈scope.names:=by
  intro k hk hkk;have hm:=jr hk;unfold Iy at hm;dsimp only at hm;obtain⟨⟨n,j⟩,hj,e⟩:=List.mem_map.mp hm;dsimp only at e;by_cases hc:(j == lK&&env.scope.kind == .function&&env.kindOf n == some .cell)=true
  ·rw [if_pos hc] at e;rw [aZ,aZ] at hc;injection e with e1 e2
   have ej:j=.free:=eq_of_beq hc.1.1;rw [ej,e1] at hj;exact hj
  ·rw [if_neg hc] at e;injection e with e1 e2
   subst e1;rcases hkk with r | r
   ·exact absurd (e2.trans r) (rp _ hj)
   ·rw [e2.trans r] at hj; exact hj
 rcases h with h | h
 ·exact go _ h (.inl rfl)
 ·exact go _ h (.inr rfl)
section
variable {X:Cx} {N:List Str} {scope:Scope} {fp:List Addr} {pins:List (Addr×Obj)} {σ:L2.St} {H:Hp} {s:aF} {C:Addr}
theorem Uo(I:Inv X pins σ H s)(rp:∀ y∈scope.names,y.2≠.cell)(Dp:scope.kind=.function)(rm:∀ y∈scope.names,y.2=.free->X.env.kindOf y.1=some .cell)(hC:s.heap.objs.size<=C)(Wv:∀ b∈fp,qm X pins H b/\b < s.heap.objs.size):(eP X N scope C s H fp).Ok:=by
 have KZ:∀ y∈scope.names,y.2=.free->∃ c,X.env.cells.lookup y.1=some c:=fun y hy hf=>I.ok.has _ (.inl (rm y hy hf));have SD:∀ x c,(ia X.env scope.names []).lookup x=some c->X.env.cells.lookup x=some c:=fun x c e=>vO KZ (fun y c q=>by simp at q) e;refine⟨I.ok.mod,Dp,I.ok.glob,I.ok.blt,hC,fun x y c h1 h2=>I.ok.inj x y c (SD x c h1) (SD y c h2),fun x hx=>?_,fun x c h=>absurd h (by simp),I.ok.hd,I.ok.frames,.inl rfl,fun b hb=>?_,I.bs,eC I.ok.Qb I.sz,fun b o e hb=>?_,fun b hb=>?_,I.stack,I.Kk⟩
 ·exact qA (.inl (wc hx rp))
 ·obtain⟨⟨f0,f1,f2,f3,f4,f5⟩,EG⟩:=Wv b hb;exact⟨bS (bV EG hC),fun x c e=>f4 x c (SD x c e)⟩
 ·obtain⟨⟨f0,f1,f2,f3,f4,f5⟩,EG⟩:=Wv b hb;rcases f3 with f3 | f3
  ·exact I.ok.L5 b o e f3
  ·exact absurd (bV (bc e) (eC I.ok.Qb f3)) (jA _)
 ·obtain⟨⟨f0,f1,f2,f3,f4,f5⟩,EG⟩:=Wv b hb;intro z;rcases List.mem_cons.mp (I.IL b z) with e | e
  ·exact f1 e
  ·exact f2 e
theorem Rv{uv:Heap}{m:Nat}{fr:List Nat}{tk:Nat}(I:Inv X pins σ H s)(ok:(eP X N scope s.heap.objs.size s H fp).Ok)(TV:∀ y∈scope.names,y.2≠.cell)(rm:∀ y∈scope.names,y.2=.free->X.env.kindOf y.1=some .cell)(hN:N.length=m+fr.length)
  (R6:∀ j i x,fr[j]?=some i->N[m+j]?=some x->X.N[i]?=some x/\X.env.scope.names.lookup x=some .cell/\(Iy scope X.env).names.lookup x=some .cell) (Cy:∃ mm,uv.Ns s.heap.objs.size mm) (hk:∀ b o,s.heap.get? b=some o->uv.get? b=some o) :
  Inv (eP X N scope s.heap.objs.size s H fp) [] (a0 m none++fr.map fun i=>(σ[i]?).getD none) H { s with heap:=uv,toks:=tk }:=by
 have KZ:∀ y∈scope.names,y.2=.free->∃ c,X.env.cells.lookup y.1=some c:=fun y hy hf=>I.ok.has _ (.inl (rm y hy hf));have SD:∀ x c,(ia X.env scope.names []).lookup x=some c->X.env.cells.lookup x=some c:=fun x c e=>vO KZ (fun y c q=>by simp at q) e;obtain⟨mm,Cy⟩:=Cy;refine⟨ok,rfl,I.bare,Un.kept hk,⟨mm,Cy,fun i x v h1 h2 h3=>?_⟩,fun x c e=>?_,I.fB.fresh (aT _),fun x c e=>?_,fun p hp=>absurd hp (by simp),I.fB.kept hk,?_⟩
 ·by_cases hi:i < m
  ·rw [cN (by simpa using hi),mK] at h2;split at h2 <;> cases h2
  ·obtain⟨j,rfl⟩:∃ j,i=m+j:=⟨i - m,by lia⟩;rw [bQ (by simp),gC,uT,dJ] at h2;cases hj:fr[j]? with
   | none=>rw [hj] at h2; cases h2
   | some k =>
    rw [hj] at h2;have O4:(σ[k]?).getD none=some v:=by simpa using h2
    have ZX:σ[k]?=some (some v):=by
     cases q:σ[k]? with
     | none=>rw [q] at O4; cases O4
     | some o=>rw [q] at O4; simp at O4; rw [O4]
    obtain⟨e1,e2,e3⟩:=R6 j k x hj h1;obtain⟨m0,hn0,hl0⟩:=I.loc;obtain⟨u,r,l⟩:=hl0 k x v e1 ZX (.inr (.inl e2));refine⟨u,r,.inr ⟨.inl e3,?_⟩⟩;rcases l with ⟨l1,_⟩ | ⟨_,c,hc,rp⟩
    ·have:X.env.scope.names.lookup x=some .local:=l1;rw [e2] at this; cases this
    ·have hx:(x,lK)∈scope.names:=wc (.inl e3) TV;obtain⟨c',R8⟩:=qA (env:=X.env) (x:=x) (ns:=scope.names) (acc:=[]) (.inl hx);have:=SD x c' R8;rw [hc] at this;have ec:c=c':=bY this;subst ec;obtain⟨oc,UQ,hd⟩:=rp;exact⟨c,R8,oc,hk _ _ UQ,hd⟩
 ·obtain⟨v,oc,UQ,hd⟩:=I.cell x c (SD x c e);exact⟨v,oc,hk _ _ UQ,hd⟩
 ·exact I.rz x c (SD x c e)
 ·rw [aL,gC,ax];exact hN.symm
theorem Fc{prog:bU}{w:World}{A:eO}{R:Result->aF->Prop}{s:aF}{elt target iter:Expr}{ifs:List Expr}{sc:Scope}{pos:Pos}{it acc:Value}{env:Env}(J:Nat->aF->Prop)
  (turn:∀ n s,J n s->wpAny (model prog w) A (pyNext it) (fun r gF=>match r with
   | none=>R (.ok .next) gF
   | some v=>wpAny (model prog w) A (Ap target it v) (fun _ Vm=>wpAny (model prog w) A (Nk target env v) (fun _ lQ =>
     wpAny (model prog w) A (forIn ifs true fun c r=>if r=true then do let ok ← isTrue c env (eval c env); pure (uk ok) else pure (uk r)) (fun k NK =>
      if k=true then wpAny (model prog w) A (eval elt env) (fun x LF=>wpAny (model prog w) A (call (.builtin "list.append") [acc,x]) (fun _ NJ=>∃ m,m < n/\J m NJ) (fun _ _=>False) LF) (fun _ _=>False) NK
      else ∃ m,m < n/\J m NK) (fun _ _=>False) lQ) (fun _ _=>False) Vm) (fun _ _=>False) gF) (fun _ _=>False) s) (n:Nat) (h:J n s) :
  xB (model prog w) A (.compLoop (.ListComp elt [⟨target,iter,ifs,0⟩] sc pos) 0 it acc env) R s:=by
 have no:∀ {α:Type} {t:Sem α} {Q:α->aF->Prop} {E:Value->aF->Prop} {s:aF},wpAny (model prog w) A t Q (fun _ _=>False) s->wpAny (model prog w) A t Q E s:=fun h=>Iw h (fun _ _ q=>q) fun _ _ z=>z.elim;refine codeAny_loop rfl J (fun n s hJ=>?_) n h;show wpAny _ A ((compTurn (.ListComp elt [⟨target,iter,ifs,0⟩] sc pos) 0 it acc env).onRaise (fun x=>do noteFrame x env; theTreesLotGoes x)) _ _ s;refine wpAny_noted ?_;rw [compTurn_list];refine aQ (wpAny_standAt (aQ (iy (no (turn n s hJ)) fun r gF uv=>?_)));cases r with
 | none=>exact bM uv
 | some v =>
  refine aQ (iy (no uv) fun _ lQ Js=>aQ (iy (no Js) fun _ NK Zp=>aQ (iy (no Zp) fun k LF We=>?_)));cases k with
  | false=>exact bM ⟨rfl,We⟩
  | true=>exact aQ (aQ (iy (no We) fun x NJ Zo=>aQ (iy (no Zo) fun _ acH Zn=>bM (bM ⟨rfl,Zn⟩))))
noncomputable def CompEnd(X:Cx)(pins:List (Addr×Obj))(σ:L2.St)(H:Hp)(G:Gp)(Q:DK)(C Dd:Addr)(s':aF):Prop :=
 ∃ m H' G',Inv X pins σ H' s'/\s'.heap.Ns C m/\qm X pins H' C/\Mv X.K H G H' G'/\Q (.ref Dd) G'
inductive Uy (Xc:Cx):List Expr->Option zE->Prop
 | none:Uy Xc [] none
 | some {c:Expr} {t:zE}:Ln Xc c t->Uy Xc [c] (some t)
theorem DC{τ:iP}{G G2:Gp}{H2:Hp}{s2:aF}{tg elt iter:Expr}{ifs:List Expr}{pos:Pos}{m:Nat}{fr:List Nat}{E:mW}{g:DM}{c:Option zE}{te:hW}{J:It}{tn:Nat->Heap->Prop}{it:Addr}{ds:List D}{ok:Gp->Prop}{Q:DK}{Rr:Value->Addr->Result->aF->Prop}{E0:Value->aF->Prop}
  (hc:X.calm=true) (rp:∀ y∈scope.names,y.2≠.cell) (Dp:scope.kind=.function) (rm:∀ y∈scope.names,y.2=.free->X.env.kindOf y.1=some .cell) (hN:N.length=m+fr.length)
  (R6:∀ j i x,fr[j]?=some i->N[m+j]?=some x->X.N[i]?=some x/\X.env.scope.names.lookup x=some .cell/\(Iy scope X.env).names.lookup x=some .cell)
  (hg:∀ C s H fp,Nc (eP X N scope C s H fp) tg g) (hi:∀ C s H fp,Uy (eP X N scope C s H fp) ifs c) (he:∀ C s H fp,iD (eP X N scope C s H fp) elt te)
  (I:I2 X pins σ H2 τ G2 s2) (m2:Mv X.K H G H2 G2) (T:Turn X.prog X.w X.K tg J fp it tn) (P2:tn 0 s2.heap) (f2:∀ b∈fp,qm X pins H2 b) (wk:Sg X.K J H2 ds ok) (hz:ds.length<=SZ)
  (hE0:∀ ex G,¬ E ex G) (q:kA g c te ok ds E (vn m fr τ) G2 [] fun xs G3=>l0 G3 (.lst xs) Q)
  (fin:∀ C s',CompEnd X pins σ H G Q C s2.heap.objs.size s'->Rr (.ref s2.heap.objs.size) C (.ok .next) s') :
  wpAny (model X.prog X.w) X.A (newList []) (fun acc NK=>wpAny (model X.prog X.w) X.A (newFunctionEnv scope X.env.globals (ia X.env scope.names []) [] X.env.qual none .none (some X.env)) (fun WU LF =>
   xB (model X.prog X.w) X.A (.compStart (.ListComp elt [⟨tg,iter,ifs,0⟩] scope pos) 0 (.ref it) acc { WU with scope:=Iy scope X.env }) (Rr acc WU.locals) LF) E0 NK) E0 s2:=by
 have sz:br=16777216:=dm;have xZ:H2 s2.heap.objs.size=none:=I.inv.fB.fresh (aT _);have T7:G2 s2.heap.objs.size=none:=I.ab.free xZ;refine lD (wpAny_newFunctionEnv rp (by intro y hy; simp at hy) (fun uv OX OV=>?_) Dp);dsimp only at OX OV ⊢;have I3:Inv X pins σ (upd H2 s2.heap.objs.size (.lst [])) { s2 with heap:=s2.heap.push { cls:=.type "list",data:=.seq ([]:List Value).toArray },toks:=s2.toks }:=I.inv.Zf (ys:=[]) .nil (cX _);generalize hs3:({ s2 with heap:=s2.heap.push { cls:=.type "list",data:=.seq ([]:List Value).toArray },toks:=s2.toks }:aF)=s3 at I3;generalize WH:upd H2 s2.heap.objs.size (.lst [])=H3 at I3;have eH3:∀ b,b≠s2.heap.objs.size->H3 b=H2 b:=fun b hb=>by rw [<-WH,cw hb]
 have He:s3.heap=s2.heap.push { cls:=.type "list",data:=.seq ([]:List Value).toArray }:=by rw [<-hs3]
 have Vp:s3.heap.objs.size=s2.heap.objs.size+1:=by rw [He,jI]
 have OZ:∀ b∈fp,b < s2.heap.objs.size:=fun b hb=>by
  obtain⟨o,e,_⟩:=T.obj _ _ P2 b hb;exact bc e
 have Wu:∀ b∈fp,qm X pins H3 b/\b < s3.heap.objs.size:=fun b hb=>by
  have UU:=OZ b hb;obtain⟨f0,f1⟩:=f2 b hb;exact⟨⟨by rw [eH3 b (bS UU)]; exact f0,f1⟩,bV UU (by rw [Vp]; exact Ax _)⟩
 have Xl:(eP X N scope s3.heap.objs.size s3 H3 fp).Ok:=Uo I3 rp Dp rm (aT _) Wu;have R4:∀ b o,s3.heap.get? b=some o->uv.get? b=some o:=fun b o e=>by
  have hb:b < s3.heap.objs.size:=bc e;refine OV.extBut b o ?_ (aY _ ?_)
  ·rw [<-He]; exact bS hb
  ·rw [<-He]; exact e
 have ZL:∃ mm,uv.Ns s3.heap.objs.size mm:=⟨_,by rw [He]; exact OX⟩;have I4:=Rv (tk:=s3.toks+([]:List (Str×Value)).length) I3 Xl rp rm hN R6 ZL R4;have Zl:Kp H2 H3:=by rw [<-WH]; exact .new xZ
 have Sf:oB X.K H3 G2:=by rw [<-WH]; exact(Mv.R5 I.ab xZ).ab
 have mv3:Mv X.K H2 G2 H3 G2:=by rw [<-WH]; exact .R5 I.ab xZ
 have Xh:Qe X.K H3 (a0 m none++fr.map fun i=>(σ[i]?).getD none) (vn m fr τ):=by
  refine⟨by unfold vn; rw [aL,aL,ax,ax,gC,gC],fun i d h2=>?_⟩;unfold vn at h2;by_cases hi:i < m
  ·rw [cN (by simpa using hi),mK] at h2;split at h2 <;> cases h2
  ·obtain⟨j,rfl⟩:∃ j,i=m+j:=⟨i - m,by lia⟩;rw [bQ (by simp),gC,uT,dJ] at h2;rw [bQ (by simp),gC,uT,dJ];cases hj:fr[j]? with
   | none=>rw [hj] at h2; cases h2
   | some k =>
    rw [hj] at h2;have O4:(τ[k]?).getD none=some d:=by simpa using h2
    have ZX:τ[k]?=some (some d):=by
     cases qq:τ[k]? with
     | none=>rw [qq] at O4; cases O4
     | some o=>rw [qq] at O4; simp at O4; rw [O4]
    obtain⟨v,e1,e2⟩:=I.st.at' k d ZX;exact⟨v,by simp [e1],e2.mono Zl⟩
 have hD3:H3 s2.heap.objs.size=some (.lst []):=by rw [<-WH,dv]
 have Vn:tn 0 uv:=T.keep _ _ _ P2 fun b hb o e=>R4 b o (by rw [He]; exact aY _ e);have NL:∀ {Hc:Hp},(∀ b∈fp,Hc b=none)->∀ b∈fp,qm (eP X N scope s3.heap.objs.size s3 H3 fp) [] Hc b:=fun hn b hb =>
  ⟨hn b hb,(Xl.XH b hb).1,Xl.Pc b hb,.inl hb,fun x c e=>(Xl.XH b hb).2 x c e,fun p hp=>absurd hp (by simp)⟩
 have neD:∀ b∈fp,b≠s2.heap.objs.size:=fun b hb=>bS (OZ b hb);have loop:xB (model X.prog X.w) X.A (.compLoop (.ListComp elt [⟨tg,iter,ifs,0⟩] scope pos) 0 (.ref it) (.ref s2.heap.objs.size) (eP X N scope s3.heap.objs.size s3 H3 fp).env) (Rr (.ref s2.heap.objs.size) s3.heap.objs.size)
   { s3 with heap:=uv,toks:=s3.toks+([]:List (Str×Value)).length }:=by
  refine Fc (fun n s'=>∃ i P1 Hc Ny Gc vr xi,I2 (eP X N scope s3.heap.objs.size s3 H3 fp) [] P1 Hc Ny Gc s'/\Gc s2.heap.objs.size=none/\Hc s2.heap.objs.size=some (.lst vr)/\bA X.K Hc vr xi/\xi.length<=i/\Mv X.K H2 G2 Hc Gc/\tn i s'.heap/\(∀ b∈fp,Hc b=none) /\
   n=ds.length - i/\i<=ds.length/\kA g c te ok (ds.drop i) E Ny Gc xi fun xs G3=>l0 G3 (.lst xs) Q) ?_ ds.length
   ⟨0,_,H3,_,G2,[],[],⟨I4,Xh,Sf⟩,T7,hD3,.nil,aT _,mv3,Vn,fun b hb=>by rw [eH3 b (neD b hb)]; exact(f2 b hb).1,rfl,cX _,q⟩
  rintro n s4 ⟨i,P1,Hc,Ny,Gc,vr,xi,Ic,gD,hD,rA,hA,mc,stc,frc,rfl,hle,wq⟩;have kpc:Kp H2 Hc:=mc.kp I.ab;by_cases EG:i < ds.length
  ·rw [iQ EG] at wq;obtain⟨VM,wq⟩:=wq;obtain⟨go,yl⟩:=(wk i Hc Gc kpc Ic.ab VM).1 ds[i] (by simp [EG]);refine iy (T.item (eP X N scope s3.heap.objs.size s3 H3 fp) rfl rfl rfl hc i [] s4 P1 Hc (fun _ _=>False) Ic.inv (NL frc) stc go) ?_;rintro r s5 ⟨u,hr,h5⟩;subst hr;refine iy h5 ?_;rintro _ s6 ⟨x,H6,I6,r6,y6,Yn,fr6⟩;obtain⟨rd6,m6⟩:=yl x H6 y6;have I6':=I6.pinned (NL fr6) (T.obj _ _ Yn);have J6:I2 (eP X N scope s3.heap.objs.size s3 H3 fp) ([]++sC fp s6.heap) P1 H6 Ny Gc s6:=⟨I6',Ic.st.mono (m6.kp Ic.ab),m6.ab⟩;have back:∀ {Yd:L2.St} {H9:Hp} {Xb:iP} {G9:Gp} {s9:aF} {aV:List V} {aD:List D},I2 (eP X N scope s3.heap.objs.size s3 H3 fp) ([]++sC fp s6.heap) Yd H9 Xb G9 s9->Mv X.K H2 G2 H9 G9->G9 s2.heap.objs.size=none->H9 s2.heap.objs.size=some (.lst aV)->bA X.K H9 aV aD->aD.length<=i+1 ->
     (kA g c te ok (ds.drop (i+1)) E Xb G9 aD fun xs G3=>l0 G3 (.lst xs) Q)->∃ mm,mm < ds.length - i/\∃ i P1 Hc Ny Gc vr xi,I2 (eP X N scope s3.heap.objs.size s3 H3 fp) [] P1 Hc Ny Gc s9/\Gc s2.heap.objs.size=none/\Hc s2.heap.objs.size=some (.lst vr)/\bA X.K Hc vr xi/\xi.length<=i /\
      Mv X.K H2 G2 Hc Gc/\tn i s9.heap/\(∀ b∈fp,Hc b=none)/\mm=ds.length - i/\i<=ds.length/\kA g c te ok (ds.drop i) E Ny Gc xi fun xs G3=>l0 G3 (.lst xs) Q:=fun {Yd H9 Xb G9 s9 aV aD} I9 m9 g9 h9 r9 l9 n9=>by
    refine⟨ds.length - (i+1),by lia,i+1,Yd,H9,Xb,G9,aV,aD,⟨I9.inv.vK,I9.st,I9.ab⟩,g9,h9,r9,l9,m9,T.keep _ _ _ Yn fun b hb o e=>(I9.inv.pin (b,o) (bN _ (bN _ (qL hb e)))).1,fun b hb=>?_,rfl,EG,n9⟩;obtain⟨o,e,d⟩:=T.obj _ _ Yn b hb;exact(I9.inv.pin (b,o) (bN _ (bN _ (qL hb e)))).2.1
   have mc6:=mc.trans m6;have hD6:=m6.keep _ _ hD gD;refine iy (hg _ _ _ _ E _ s6 P1 H6 Ny Gc x ds[i] u _ (Lk.none hE0) J6 r6 rd6 wq) ?_;rintro _ s7 ⟨M7,H7,M6,G7,I7,m7,q7⟩;have XG:=m7.keep _ _ hD6.1 gD;have mc7:=mc6.trans m7;have rA7:=rA.mono ((m6.trans m7).kp Ic.ab);have WO:∀ (H8:Hp) (G8:Gp) (s8:aF),I2 (eP X N scope s3.heap.objs.size s3 H3 fp) ([]++sC fp s6.heap) M7 H8 M6 G8 s8->Mv X.K H7 G7 H8 G8->(te E M6 G8 fun y G9=>kA g c te ok (ds.drop (i+1)) E M6 G9 (xi++[y]) fun xs G3=>l0 G3 (.lst xs) Q) ->
     wpAny (model X.prog X.w) X.A (eval elt (eP X N scope s3.heap.objs.size s3 H3 fp).env) (fun y LF=>wpAny (model X.prog X.w) X.A (call (.builtin "list.append") [.ref s2.heap.objs.size,y]) (fun _ NJ=>∃ mm,mm < ds.length - i/\∃ i P1 Hc Ny Gc vr xi,I2 (eP X N scope s3.heap.objs.size s3 H3 fp) [] P1 Hc Ny Gc NJ/\Gc s2.heap.objs.size=none/\Hc s2.heap.objs.size=some (.lst vr)/\bA X.K Hc vr xi/\xi.length<=i /\
      Mv X.K H2 G2 Hc Gc/\tn i NJ.heap/\(∀ b∈fp,Hc b=none)/\mm=ds.length - i/\i<=ds.length/\kA g c te ok (ds.drop i) E Ny Gc xi fun xs G3=>l0 G3 (.lst xs) Q) (fun _ _=>False) LF) (fun _ _=>False) s8:=fun H8 G8 s8 I8 m8 q8=>by
    refine lO (he _ _ _ _) (Lk.none hE0) I8 q8 fun v H9 d9 G9 u9 s9 I9 m9 r9 rd9 q9=>?_;have Ze:=m8.trans m9;have XF:=Ze.keep _ _ XG.1 XG.2;have rA9:=rA7.mono (Ze.kp I7.ab);have mc9:=mc7.trans Ze;refine iy (De (X:=eP X N scope s3.heap.objs.size s3 H3 fp) _ s9 M7 H9 (.ref s2.heap.objs.size) [v] _ [u9] (fun _ H'=>H'=upd H9 s2.heap.objs.size (.lst (vr++[v]))) I9.inv rfl (.cons r9 .nil)
     ⟨_,vr,v,rfl,rfl,XF.1,by rw [rA.length,sz]; have:SZ=16777216:=rfl; lia,rfl⟩) ?_
    rintro _ s10 ⟨v10,H10,I10,_,e10⟩;subst e10;have Zk:Kp H9 (upd H9 s2.heap.objs.size (.lst (vr++[v]))):=.putL XF.1;have abA:oB X.K (upd H9 s2.heap.objs.size (.lst (vr++[v]))) G9:=fun a g' e=>by
     have ne:a≠s2.heap.objs.size:=by rintro rfl; rw [XF.2] at e; cases e
     exact(I9.ab a g' e).mono Zk (cw ne)
    have mA:Mv X.K H2 G2 (upd H9 s2.heap.objs.size (.lst (vr++[v]))) G9:=⟨fun a o e n=>by
      have ne:a≠s2.heap.objs.size:=fm e xZ;obtain⟨e1,e2⟩:=mc9.keep a o e n;exact⟨by rw [cw ne]; exact e1,e2⟩,fun a n=>by
      by_cases ha:a=s2.heap.objs.size
      ·rw [ha,dv]; simp
      ·rw [cw ha]; exact mc9.o9 a n,abA⟩
    exact back ⟨I10,I9.st.mono Zk,abA⟩ mA XF.2 dv ((rA9.append (.cons rd9 .nil)).mono Zk) (by rw [aL,gB]; lia) q9
   cases hi s3.heap.objs.size s3 H3 fp with
   | none =>
    refine wpAny_tests_nil ?_;rw [if_pos rfl];exact WO H7 G7 s7 I7 (.refl I7.ab) q7
   | some Wy =>
    refine wpAny_tests_one (LD Wy (Lk.none hE0) I7 q7 fun k H8 G8 s8 I8 m8 q8=>?_);cases k with
    | true =>
     rw [if_pos rfl] at q8 ⊢;exact WO H8 G8 s8 I8 m8 q8
    | false =>
     rw [if_neg jZ] at q8 ⊢;have hD8:=m8.keep _ _ XG.1 XG.2;exact back I8 (mc7.trans m8) hD8.2 hD8.1 (rA7.mono (m8.kp I7.ab)) (by lia) q8
  ·have hn:ds.length<=i:=by lia
   rw [ng hn] at wq;obtain⟨VM,qn⟩:=wq;have stop:=(wk i Hc Gc kpc Ic.ab VM).2 hn;refine iy (T.done (eP X N scope s3.heap.objs.size s3 H3 fp) rfl rfl rfl hc i [] s4 P1 Hc (fun _ _=>False) Ic.inv (NL frc) stc stop) ?_;rintro r s5 ⟨hr,I5⟩;subst hr;refine fin s3.heap.objs.size s5 ?_;obtain⟨mm,ZM,_⟩:=I5.loc;have hC5:Hc s3.heap.objs.size=none:=I5.free;have I6:Inv X pins σ Hc s5:=by
    obtain⟨h5,g5,d5,t5,o5⟩:=s5;have eo:o5=s3.os:=I5.os;subst eo;exact I3.call (h':=h5) (g':=g5) (d':=d5) (t':=t5) (ch:=fp) I5.base I5.fB I5.bare fun b hb=>by
     obtain⟨⟨f0,f1,f2',f3,f4,f5⟩,hl⟩:=Wu b hb;exact⟨f3,f1,f4,f5⟩
   have mvF:Mv X.K H2 G2 Hc (cW Gc s2.heap.objs.size (.lst xi)):=⟨fun a o e n=>by
     have ne:a≠s2.heap.objs.size:=fm e xZ;obtain⟨e1,e2⟩:=mc.keep a o e n;exact⟨e1,by rw [eR ne]; exact e2⟩,mc.o9,fun a g' e=>by
     by_cases ha:a=s2.heap.objs.size
     ·subst ha;rw [aC] at e;cases e;exact⟨vr,hD,rA⟩
     ·rw [eR ha] at e;exact Ic.ab a g' e⟩
   exact⟨mm,Hc,_,I6,ZM,I3.JC (aT _) hC5,m2.trans mvF,qn _ gD⟩
 have all:xB (model X.prog X.w) X.A (.compStart (.ListComp elt [⟨tg,iter,ifs,0⟩] scope pos) 0 (.ref it) (.ref s2.heap.objs.size) (eP X N scope s3.heap.objs.size s3 H3 fp).env) (Rr (.ref s2.heap.objs.size) s3.heap.objs.size)
   { s3 with heap:=uv,toks:=s3.toks+([]:List (Str×Value)).length }:=codeAny_compStart_list loop (T.self _ 0 _ _ _ Vn loop)
 subst hs3;exact all
end
end K2
end
section
namespace K2
open PySem PySem.Spec PyProof.Rows L2
section
variable {X:Cx} {N:List Str} {scope:Scope} {tg elt iter:Expr} {ifs:List Expr} {pos:Pos} {m:Nat} {fr:List Nat} {wi:PM} {g:DM} {c:Option zE} {te:hW}
structure B0(X:Cx)(N:List Str)(scope:Scope)(m:Nat)(fr:List Nat):Prop where
 cell:∀ y∈scope.names,y.2≠.cell
 kind:scope.kind=.function
 names:∀ y∈scope.names,y.2=.local->scope.names.lookup y.1=some .local
 free:∀ y∈scope.names,y.2=.free->X.env.kindOf y.1=some .cell
 len:N.length=m+fr.length
 at':∀ j i x,fr[j]?=some i->N[m+j]?=some x->X.N[i]?=some x/\X.env.scope.names.lookup x=some .cell/\(Iy scope X.env).names.lookup x=some .cell
theorem B0.closed{X:Cx}{N:List Str}{scope:Scope}{m:Nat}{fr:List Nat}(k:B0 X N scope m fr){pins:List (Addr×Obj)}{σ:L2.St}{H:Hp}{s:aF}(I:Inv X pins σ H s):closureFor scope X.env=pure (ia X.env scope.names []) :=
 CN fun y hy hf=>I.ok.has _ (.inl (k.free y hy hf))
theorem LX(hc:X.calm=true)(k:B0 X N scope m fr)(hi:PN X tg iter wi)(hg:∀ C s H fp,Nc (eP X N scope C s H fp) tg g)(TR:∀ C s H fp,Uy (eP X N scope C s H fp) ifs c)(he:∀ C s H fp,iD (eP X N scope C s H fp) elt te)
  (hs:autoParam (∀ x,o6 iter X.env x=pure x) Ai._auto_1):iD X (.ListComp elt [⟨tg,iter,ifs,0⟩] scope pos) (hU m fr wi g c te):=by
 intro E pins s σ H τ G Q hE I h;rw [eval_ListComp];refine wpAny_comprehension_free (use:=none) rfl hs (k.closed I.inv) k.kind k.names (iy (hi E pins s σ H τ G _ hE I h) fun xv gF uv=>iy uv fun RX lQ Js=>?_);obtain⟨it,fp,tn,J,H2,G2,ds,ok,e,mX,m2,T,P2,f2,wk,hz,q⟩:=Js;subst e;refine DC (Rr:=fun acc C=>compPost (model X.prog X.w) X.A X.xe none (tK X pins σ H G Q) acc C) hc k.cell k.kind k.free k.len k.at' hg TR he (I.mv mX m2) m2 T P2 f2 wk hz (fun _ _ z=>z) q ?_;rintro C s' ⟨mm,H',G',I',Cy,fpC,mv,q'⟩;refine⟨mm,Cy,fun h' UP=>?_⟩;obtain⟨f0,f1,_,f3,f4,f5⟩:=fpC;exact⟨.ref _,H',.ref _,G',I'.turned (t':=s'.toks) (fun b o hb e=>UP.extBut b o hb e) f0 f1 f3 f4 f5,mv,rfl,.ref _,q'⟩
theorem GD{i:Nat}{y:Str}{py NN:Pos}(hN:X.N.Nodup)(Zr:X.N[i]?=some y)(hy:X.env.scope.names.lookup y=some .local)(hc:X.calm=true)(k:B0 X N scope m fr)(hi:PN X tg iter wi)(hg:∀ C s H fp,Nc (eP X N scope C s H fp) tg g)
  (TR:∀ C s H fp,Uy (eP X N scope C s H fp) ifs c) (he:∀ C s H fp,iD (eP X N scope C s H fp) elt te) (ZA:autoParam (FP (.ListComp elt [⟨tg,iter,ifs,0⟩] scope pos) (some (.Name y py)) NN.line X.env=pure true) Ar._auto_1)
  (hs:autoParam (∀ x,o6 iter X.env x=pure x) Ai._auto_1):Iq X (.Assign [.Name y py] (.ListComp elt [⟨tg,iter,ifs,0⟩] scope pos) NN) (bH (hU m fr wi g c te) (aI i)):=by
 intro E pins s σ H τ G D hE I h;rw [exec_Assign_Name_used _ _ _ _ ZA];refine aQ (wpAny_standAt (aQ ?_));show wpAny _ X.A (do let _ ← comprehension (.ListComp elt [⟨tg,iter,ifs,0⟩] scope pos) scope X.env _ (newList []) false (eval iter X.env) (some (Nk (.Name y py) X.env))) _ _ s;refine aQ (iy (wpAny_comprehension_free (use:=some (Nk (.Name y py) X.env)) (Q:=fun _ s'=>Ux X pins H G D .next s') rfl hs (k.closed I.inv) k.kind k.names (iy (hi E pins s σ H τ G _ hE I h) fun xv gF uv=>iy uv fun RX lQ Js=>?_)) fun _ s' hq=>bM (bM hq));obtain⟨it,fp,tn,J,H2,G2,ds,ok,e,mX,m2,T,P2,f2,wk,hz,q⟩:=Js;subst e;refine DC (Rr:=fun acc C=>compPost (model X.prog X.w) X.A X.xe (some (Nk (.Name y py) X.env)) (fun _ s'=>Ux X pins H G D .next s') acc C) hc k.cell k.kind k.free k.len k.at' hg TR he (I.mv mX m2) m2 T P2 f2 wk hz (fun _ _ z=>z) q ?_;rintro C s' ⟨mm,H',G',I',Cy,fpC,mv,q'⟩;show wpAny (model X.prog X.w) X.A (Nk (.Name y py) X.env (.ref lQ.heap.objs.size)) _ X.xe s';obtain⟨f0,f1,_,f3,f4,f5⟩:=fpC;refine wpAny_assign_Name (C5 (v:=.ref lQ.heap.objs.size) I' hN Zr (.inl hy) rfl (?_) (.inr hy));rintro s3 I3 ⟨a,hsb,ha⟩;have hCa:C≠a:=by
  rcases ha with rfl | ha
  ·exact f1
  ·exact fun e=>f4 y a ha e.symm
 refine⟨mm,Cy.sameBut hsb hCa,fun h' UP=>?_⟩;exact⟨_,H',_,G',⟨I3.turned (t':=s3.toks) (fun b o hb e=>UP.extBut b o hb e) f0 f1 f3 f4 f5,(I.st.mono (mv.kp I.ab)).set i (.ref _),mv.ab⟩,mv,q'⟩
theorem t8{i:Nat}{u:Fm}{n:Nat}(h:∀ E ds τ G Q,u E ds τ G Q->ds.length=n):∀ E ds τ G Q,uS (aI i) u E ds τ G Q->ds.length=n+1 :=
 MF h (fun _ _ _ _ _ _ q k=>k _ _ q) fun _ _ _ _ q=>q
theorem aS (i:Nat) {x:Str} {pos:Pos} (hN:autoParam (X.N[i]?=some x) Ar._auto_1) (hv:autoParam (XO X.env.scope x) Ao._auto_1) (hd:autoParam ((x == ("__debug__" : Str))=false) Ad._auto_1)
  (K0:autoParam ((x == ("__classdict__" : Str))=false) Ad._auto_1):iD X (.Name x pos) (aj i):=QU hN hv hd K0
theorem Jm{pins:List (Addr×Obj)}{s:aF}{σ:L2.St}{H:Hp}{G:Gp}{x:V}{d:D}{v:Value}{zs:List D}(I:Inv X pins σ H s)(ab:oB X.K H G)(rx:RelV x v)(rd:dh X.K H x d)(hi:itemsOf d G=some zs) :
  ∃ l vs bO,v=.ref l/\Vals vs bO/\bA X.K H vs zs/\(s.heap.IsList l bO.toArray\/s.heap.IsTuple l bO.toArray)/\vs.length<=br:=by
 cases rd with
 | fJ hq rs =>
  cases hi;cases rx;obtain⟨bO,rv,pl,hz⟩:=I.list hq.sq;exact⟨_,_,bO,rfl,rv,rs,.inl pl.isList,hz⟩
 | tup hq rs =>
  cases hi;cases rx;obtain⟨bO,rv,pl,hz⟩:=I.tuple (.of hq);exact⟨_,_,bO,rfl,rv,rs,.inr pl,hz⟩
 | ref l =>
  unfold itemsOf at hi;dsimp only at hi;cases hg:G l with
  | none=>rw [hg] at hi; cases hi
  | some gg =>
   rw [hg] at hi;cases gg with
   | lst ds =>
    cases hi;cases rx;obtain⟨vs,hv,rs⟩:=ab.lst hg;obtain⟨bO,rv,pl,hz⟩:=I.list (.of hv);exact⟨_,_,bO,rfl,rv,rs,.inl pl.isList,hz⟩
   | ins _ _=>cases hi
   | oq _=>cases hi
 | _=>cases hi
theorem SX{body:List Stmt}{t2:g7}(h:BR X body t2){E:mW}(hE:Lk X E):U0 X body (fun D σ H=>∃ (τ:iP) (G:Gp) (D2:lM),Qe X.K H σ τ/\oB X.K H G/\t2 E D2 τ G /\
  (∀ kE H' lH G',Mv X.K H G H' G'->D2.nx lH G'->D.nx kE H')/\(∀ v H' d G',Mv X.K H G H' G'->dh X.K H' v d->D2.rt d G'->D.rt v H')/\(∀ τ G,¬ D2.bk τ G)/\(∀ τ G,¬ D2.ct τ G)):=by
 rintro pins s σ H D I ⟨τ,G,D2,st,ab,q,k1,k2,k3,k4⟩;refine iy (h E pins s σ H τ G D2 hE ⟨I,st,ab⟩ q) fun f s1 z=>?_;cases f with
 | next=>obtain⟨kE,H',lH,G',J,mv,z⟩:=z; exact⟨kE,H',J.inv,k1 kE H' lH G' mv z⟩
 | brk=>obtain⟨kE,H',lH,G',J,mv,z⟩:=z; exact(k3 _ _ z).elim
 | cont=>obtain⟨kE,H',lH,G',J,mv,z⟩:=z; exact(k4 _ _ z).elim
 | ret u=>obtain⟨v,kE,H',d,G',J,mv,r,rd,z⟩:=z; exact⟨v,kE,H',J,r,k2 v H' d G' mv rd z⟩
theorem NM{K:aw}{H:Hp}{Nn:List Str}{vs:List V}{ds:List D}(r:bA K H vs ds):Qe K H (L2.start Nn vs) (aX Nn.length ds):=by
 unfold L2.start aX;refine⟨by simp [r.length],fun i d h=>?_⟩;by_cases hi:i < ds.length
 ·rw [cN (by simpa using hi),dJ] at h;cases hd:ds[i]? with
  | none=>rw [hd] at h; cases h
  | some d' =>
   rw [hd] at h;have e:d'=d:=by simpa using h
   subst e;obtain⟨v,h1,h2⟩:=r.get hd;refine⟨v,?_,h2⟩;rw [cN (by simpa [r.length] using hi),dJ,h1]; rfl
 ·rw [bQ (by simpa using hi),mK] at h;split at h <;> cases h
theorem Rk{P:bU}{w:World}{K:aw}{mg:Str->Option Value}{base:Heap}{x qual:Str}{st:Stmt}{f:Addr}{fd:ay}{Nn ps:List Str}{k:Nat}{sp:jx}{rd:g7}(F:kP K x qual st f fd)(S:bJ Nn ps (aW st))(len:∀ ds G Q E,sp ds G Q E->ds.length=ps.length)
  (hr:∀ ds G Q,sp ds G Q (fun _ _=>False)->rd (fun _ _=>False) (ends Q) (aX Nn.length ds) G)
  (hb:∀ (oR:Value) (A:eO) (outer:List Env) (s:aF) (H:Hp) (E:XK),kK k (A.deeper (FQ qual (aW st) s.heap.objs.size f oR))->BR (HP eB P w K mg base Nn qual (aW st) f oR A outer s H E).UK (i4 st) rd):eA P w K mg base eB (k+1) f fd ps (bK K sp):=by
 refine F.ok S ((by rintro vs H Q E ⟨ds,G,Q2,r,ab,q,_⟩; exact by rw [r.length]; exact len _ _ _ _ q)) ?_;rintro oR A outer s H vs Q E Wi ⟨ds,G,Q2,r,ab,q,kk⟩;refine⟨_,SX (hb oR A outer s H E Wi) (E:=fun _ _=>False) (Lk.none fun _ _ z=>z),?_⟩;exact⟨aX Nn.length ds,G,ends Q2,NM r,ab,hr ds G Q2 q,fun kE H' lH G' mv z=>kk _ _ _ _ z mv .eK,fun v H' d G' mv Yv z=>kk _ _ _ _ z mv Yv,fun _ _ z=>z,fun _ _ z=>z⟩
section
variable {prog:bU} {w:World} {A:eO} {R:Result->aF->Prop} {XT:Addr} {fq wr:List Addr} {n:Nat} {P:Nat->Value->Prop} {Sx:Nat->Heap->Prop}
theorem Tp(W:Walks prog w A.in1 XT fq wr n P Sx)(bt:Nat->Nat->Bool)(T:Heap->Prop)(B:Addr)(hB:B∉fq)(hT:∀ h h',T h->(∀ b o,b∉wr->b≠B->h.get? b=some o->h'.get? b=some o)->T h')
  (cmp:∀ i j x y s (Q:Value->aF->Prop) (E:Value->aF->Prop),T s.heap->P i x->P j y->Q (.bool (bt i j)) s->wpAny (model prog w) A.in1 (rP .Lt x y) Q E s) :
  ∀ (k j:Nat) (s:aF) (best:Value) (cc:Nat),n - (j+1)=k->j+1<=n->Sx (j+1) s.heap->T s.heap->P (rS bt j) best ->
  s.heap.get? B=some { cls:=.type "list",dict:=none,data:=.seq #[best,best] cc,slots:=#[] } ->
  (∀ v h' tk,P (rS bt (n - 1)) v->(∀ b o,b∉wr->b≠B->s.heap.get? b=some o->h'.get? b=some o)->R (.ok (.ret v)) { s with heap:=h',toks:=tk }) ->
  xB (model prog w) A (.builtin "min.loop" ⟨[.ref XT,.none,.ref B],[]⟩) R s:=by
 have hBw:B∉wr:=fun z=>hB (W.sub _ z);have nm:(toString "min"++toString ".loop" : String) = "min.loop":=by decide
 intro k;induction k with
 | zero =>
  intro j s best cc hk hj hs ht hp hb hR;have ej:j+1=n:=by lia
  refine rR IF ?_; rw [kD jX _];show wpAny _ A.in1 (seqItems? (.ref B) >>= _) _ _ s; refine aQ (Qf hb rfl ?_);show wpAny _ A.in1 (tryCatch (pyNext (.ref XT)) _ >>= _) _ _ s; refine aQ (CW (W.done s _ _ (ej ▸ hs) fun h' tk kept=>?_));have Jv:=kept B _ hBw hb;show wpAny _ A.in1 (updateSeq B (fun _=>#[]) >>= _) _ _ _; refine aQ ?_;refine Ag Jv rfl (aQ (Nd (bM ?_)));exact hR best _ tk (by rw [<-ej]; exact hp) fun b o z1 z2 e=>(dM _ _ (gv z2)).trans (kept b o z1 e)
 | succ k ih =>
  intro j s best cc hk hj hs ht hp hb hR;have lt:j+1 < n:=by lia
  refine rR IF ?_; rw [kD jX _];show wpAny _ A.in1 (seqItems? (.ref B) >>= _) _ _ s; refine aQ (Qf hb rfl ?_);show wpAny _ A.in1 (tryCatch (pyNext (.ref XT)) _ >>= _) _ _ s; refine aQ (CW (W.item (j+1) s _ _ lt hs fun v h' tk pv C6 kept=>?_));have Jv:=kept B _ hBw hb;have UO:T h':=hT _ _ ht fun b o z1 _ e=>kept b o z1 e;show wpAny _ A.in1 (tryCatch (Ni [v,v] (rP .Lt v best >>= _)) _ >>= _) _ _ _;refine aQ (CW (lE (aQ (cmp (j+1) (rS bt j) v best _ _ _ UO pv hp ?_)))); refine aQ (lE (vE ?_)); refine aQ (Nd (bM ?_));cases hbt:bt (j+1) (rS bt j) with
  | true =>
   simp only [if_true]; refine aQ ?_;refine Ag Jv rfl (aQ (Nd ?_)); rw [nm];refine bM ⟨rF jX _,ih (j+1) _ v _ (by lia) lt (W.frame _ _ _ C6 fun b z o e=>?_) (hT _ _ UO fun b o _ z2 e=>?_) (by simp only [rS,hbt,if_true]; exact pv) (xu _ Jv rfl) fun v' T4 NH VD kk=>?_⟩
   ·exact(dM _ _ (fun z':B=b=>hB (by rw [z']; exact z))).trans e
   ·exact(dM _ _ (gv z2)).trans e
   ·exact hR v' T4 NH VD fun b o z1 z2 e=>kk b o z1 z2 ((dM _ _ (gv z2)).trans (kept b o z1 e))
  | false =>
   simp only [ai,if_false]; refine aQ (Nd ?_); rw [nm];refine bM ⟨rF jX _,ih (j+1) _ best cc (by lia) lt C6 UO (by simp only [rS,hbt,ai,if_false]; exact hp) Jv fun v' T4 NH VD kk=>?_⟩;exact hR v' T4 NH VD fun b o z1 z2 e=>kk b o z1 z2 (kept b o z1 e)
end
theorem GP{prog:bU}{w:World}{A:eO}{E:Value->aF->Prop}{s:aF}{x:Value}{Q:Value->aF->Prop}
  (h:wpAny (model prog w) A.in1 (pyIter x) (fun it lQ=>∃ (I:Addr) (fq wr:List Addr) (n:Nat) (P:Nat->Value->Prop) (Sx:Nat->Heap->Prop) (bt:Nat->Nat->Bool) (T:Heap->Prop),it=.ref I/\Walks prog w A.in1 I fq wr n P Sx/\Sx 0 lQ.heap/\(∀ b∈fq,b < lQ.heap.objs.size)/\0 < n/\T lQ.heap/\(∀ (h h':Heap) (B:Addr),lQ.heap.objs.size<=B->T h->(∀ b o,b∉wr->b≠B->h.get? b=some o->h'.get? b=some o)->T h') /\
   (∀ i j x y s (Q:Value->aF->Prop) (E:Value->aF->Prop),T s.heap->P i x->P j y->Q (.bool (bt i j)) s->wpAny (model prog w) A.in1 (rP .Lt x y) Q E s) /\
   ∀ v h' tk,P (rS bt (n - 1)) v->(∀ b o,b∉wr->lQ.heap.get? b=some o->h'.get? b=some o)->Q v { lQ with heap:=h',toks:=tk }) E s) :
  wpAny (model prog w) A (call (.builtin "min") [x]) Q E s:=by
 have nm:(toString "min"++toString ".loop" : String) = "min.loop":=by decide
 refine call_function_tree F.kind_min F.plain_min F.entry_min (F.args_min1 _) ?_;show wpAny _ A.in1 (xw "min" ["key","default"] 0 ⟨[],[]⟩ >>= _) _ _ s; refine aQ (wpAny_of_eq (show xw "min" ["key","default"] 0 ⟨[],[]⟩=pure [none,none] from rfl) ?_);refine aQ (bM ?_); refine aQ (Iw h (fun it lQ Js=>?_) fun _ _ e=>e);obtain⟨I,fq,wr,n,P,Sx,bt,T,rfl,W,TH,Wv,hn,ht,hT,cmp,hQ⟩:=Js;refine aQ (lD ?_);have hSf:lQ.heap.objs.size∉fq:=fun z=>jA _ (Wv _ z);have hSw:lQ.heap.objs.size∉wr:=fun z=>hSf (W.sub _ z);rw [nm];generalize hh:lQ.heap.push { cls:=.type "list",data:=.seq ([]:List Value).toArray } = hp;have hb:hp.get? lQ.heap.objs.size=some { cls:=.type "list",dict:=none,data:=.seq #[] 0,slots:=#[] }:=by rw [<-hh]; exact cf _ rfl
 have old:∀ b o,lQ.heap.get? b=some o->hp.get? b=some o:=fun b o e=>by rw [<-hh]; exact aY _ e
 have Yp:Sx 0 hp:=W.frame _ _ _ TH fun b _ o e=>old b o e;have ht0:T hp:=hT _ _ _ (aT _) ht fun b o _ _ e=>old b o e;refine bM ⟨rF jX _,?_⟩;refine rR IF ?_; rw [kD jX _];show wpAny _ A.in1 (seqItems? (.ref lQ.heap.objs.size) >>= _) _ _ _; refine aQ (Qf hb rfl ?_);show wpAny _ A.in1 (tryCatch (pyNext (.ref I)) _ >>= _) _ _ _; refine aQ (CW (W.item 0 _ _ _ hn Yp fun v h' tk pv C6 kept=>?_));have Jv:=kept _ _ hSw hb;show wpAny _ A.in1 (updateSeq lQ.heap.objs.size (fun _=>#[v,v]) >>= _) _ _ _; refine aQ ?_;refine Ag Jv rfl ?_; rw [nm];refine bM ⟨rF jX _,Tp W bt T _ hSf (fun h h'=>hT h h' _ (aT _)) cmp _ 0 _ v _ rfl hn (W.frame _ _ _ C6 fun b z o e=>?_) (hT _ _ _ (aT _) (hT _ _ _ (aT _) ht0 fun b o z1 _ e=>kept b o z1 e) fun b o _ z2 e=>?_) pv (xu _ Jv rfl) fun v' T4 NH VD kk=>?_⟩
 ·exact(dM _ _ (fun z':lQ.heap.objs.size=b=>hSf (by rw [z']; exact z))).trans e
 ·exact(dM _ _ (gv z2)).trans e
 ·refine hQ v' T4 NH VD fun b o z1 e=>?_;have nb:b≠lQ.heap.objs.size:=bS (bc e);exact kk b o z1 nb ((dM _ _ (gv nb)).trans (kept b o z1 (old b o e)))
theorem HX{α:Type}(lt:α->α->Bool)(l:List α)(a:α)(f:Nat->α)(hf:∀ i,i < l.length+1->f i=(a :: l).getD i a) :
  f (rS (fun i j=>lt (f i) (f j)) l.length)=l.foldl (fun m x=>if lt x m=true then x else m) a:=by
 have key:∀ k,k<=l.length->f (rS (fun i j=>lt (f i) (f j)) k)=(l.take k).foldl (fun m x=>if lt x m=true then x else m) a:=by
  intro k;induction k with
  | zero=>intro _; rw [rS,hf 0 (by lia)]; rfl
  | succ k ih =>
   intro hk;have ih':=ih (by lia);rw [List.take_succ_eq_append_getElem (by lia),List.foldl_append,<-ih'];have e:f (k+1)=l[k]:=by
    rw [hf (k+1) (by lia),eQ];simp [show k < l.length by lia]
   show f (if lt (f (k+1)) (f (rS _ k))=true then k+1 else rS _ k)=(if lt l[k] _=true then l[k] else _);rw [<-e];split <;> rfl
 rw [key l.length (aT _),List.take_length]
theorem DE (hc : X.calm = true) (hu : X.A.units + 64 < cLine) : yu X (.builtin "min") MP := by
  intro pins s σ H G xs ds us Q I ab rx rd q;unfold MP at q;split at q
  · rename_i x
    obtain⟨v, rfl, r⟩ := rd.one;obtain⟨u, rfl, ru⟩ := rx.one;have main : ∀ {α : Type} (zs : List α) (a : α) (enc : α -> D) (lt : α -> α -> Bool) (T : Heap -> Prop), itemsOf x G = some ((a :: zs).map enc) -> T s.heap -> (∀ (h h' : Heap) (B : Addr), s.heap.objs.size ≤ B -> T h -> (∀ b o, b < s.heap.objs.size -> b ≠ B -> h.get? b = some o -> h'.get? b = some o) -> T h') ->
        (∀ y z vy vz uy uz (s' : aF) (Q' : Value -> aF -> Prop) (E' : Value -> aF -> Prop), T s'.heap -> dh X.K H vy (enc y) -> RelV vy uy -> dh X.K H vz (enc z) -> RelV vz uz -> Q' (.bool (lt y z)) s' -> wpAny (model X.prog X.w) X.A.in1 (rP .Lt uy uz) Q' E' s') ->
        Q (enc (zs.foldl (fun m x => if lt x m = true then x else m) a)) G -> wpAny (model X.prog X.w) X.A (call (.builtin "min") [u]) (tK X pins σ H G Q) X.xe s := by
      intro α zs a enc lt T hi ht hT cmp hq;obtain⟨l, vs, bO, rfl, rv, rs, hl, hz⟩ := Jm I ab ru r hi;have hlen : bO.length = zs.length + 1 := by rw [<-rv.length, rs.length, ax, ag]
      have mz : ∀ {o : Obj}, s.heap.get? l = some o -> l ≠ s.heap.objs.size := fun e => bS (bc e);have at_ : ∀ i uu, bO.toArray[i]? = some uu -> ∃ vv, RelV vv uu ∧ dh X.K H vv (enc ((a :: zs).getD i a)) := fun i uu e => by
        have e' : bO[i]? = some uu := by simpa using e
        have XA : i < bO.length := (List.getElem?_eq_some_iff.mp e').1;have hd : ((a :: zs).map enc)[i]? = some (enc ((a :: zs).getD i a)) := by
          rw [dJ, eQ];cases h9 : (a :: zs)[i]? with
          | none => rw [List.getElem?_eq_none_iff] at h9; simp at h9; lia
          | some z => rfl
        obtain⟨vv, h1, h2⟩ := rs.get hd;obtain⟨uu', h3, h4⟩ := rv.get h1;rw [e'] at h3;cases h3;exact⟨vv, h4, h2⟩
      have WT : ∀ i j p9 q9 s' (Q' : Value -> aF -> Prop) (E' : Value -> aF -> Prop), T s'.heap -> bO.toArray[i]? = some p9 -> bO.toArray[j]? = some q9 -> Q' (.bool (lt ((a :: zs).getD i a) ((a :: zs).getD j a))) s' -> wpAny (model X.prog X.w) X.A.in1 (rP .Lt p9 q9) Q' E' s' := fun i j p9 q9 s' Q' E' t' h1 h2 h3 => by
        obtain⟨v1, r1, d1⟩ := at_ i p9 h1;obtain⟨v2, r2, d2⟩ := at_ j q9 h2;exact cmp _ _ v1 v2 p9 q9 s' Q' E' t' d1 r1 d2 r2 h3
      have fin : ∀ vv h' tk, bO.toArray[rS (fun i j => lt ((a :: zs).getD i a) ((a :: zs).getD j a)) (bO.toArray.size - 1)]? = some vv -> (∀ b o, b ∉ [s.heap.objs.size] -> s.heap.get? b = some o -> h'.get? b = some o) -> tK X pins σ H G Q vv { s with heap := h', toks := tk } := fun vv h' tk e hk => by
        obtain⟨v1, r1, d1⟩ := at_ _ vv e;have es : bO.toArray.size - 1 = zs.length := by rw [a9]; lia
        rw [es, HX lt zs a (fun i => (a :: zs).getD i a) (fun i _ => rfl)] at d1;exact⟨v1, H, _, G, I.kept fun b o e => hk b o (by simpa using bS (bc e)) e, .refl ab, r1, d1, hq⟩
      have TL : 0 < bO.toArray.size := by rw [a9]; lia
      have hTp : ∀ (oo : Obj), T (s.heap.push oo) := fun oo => hT _ _ (s.heap.objs.size + 1) (Ax _) ht fun b o hb _ e => aY _ e;have hT2 : ∀ (oo : Obj) (h h' : Heap) (B : Addr), (s.heap.push oo).objs.size ≤ B -> T h -> (∀ b o, b ∉ [s.heap.objs.size] -> b ≠ B -> h.get? b = some o -> h'.get? b = some o) -> T h' := fun oo h h' B hB t kk => hT h h' B (by rw [jI] at hB; exact Nat.le_of_succ_le hB) t fun b o hb hn e => kk b o (by simpa using bS hb) hn e;rcases hl with hl | hl
      · refine GP (wpAny_pyIter_list hl ?_)
        obtain⟨o, ho, KZ, n, hd⟩ := id hl;exact⟨s.heap.objs.size, _, _, _, _, _, _, T, rfl, Walks.list (A := X.A.in1) (show X.A.in1.handled = none from I.ok.hd hc) _ l (mz ho) bO.toArray, ⟨⟨_, cf _ rfl, rfl, rfl⟩, ⟨o, aY _ ho, KZ, n, hd⟩⟩,
          fun b hb => by rcases (by simpa using hb : b = s.heap.objs.size ∨ b = l) with rfl | rfl
                         · rw [jI]; exact lJ _
                         · rw [jI]; exact DS (bc ho), TL, hTp _, hT2 _, WT, fun vv h' tk e hk => fin vv h' tk e fun b o hb e => hk b o hb (aY _ e)⟩
      · refine GP (wpAny_pyIter_tuple hl ?_)
        obtain⟨o, ho, KZ, n, hd⟩ := id hl;exact⟨s.heap.objs.size, _, _, _, _, _, _, T, rfl, Walks.tuple (A := X.A.in1) (show X.A.in1.handled = none from I.ok.hd hc) _ l (mz ho) bO.toArray, ⟨⟨_, cf _ rfl, rfl, rfl⟩, ⟨o, aY _ ho, KZ, n, hd⟩⟩,
          fun b hb => by rcases (by simpa using hb : b = s.heap.objs.size ∨ b = l) with rfl | rfl
                         · rw [jI]; exact lJ _
                         · rw [jI]; exact DS (bc ho), TL, hTp _, hT2 _, WT, fun vv h' tk e hk => fin vv h' tk e fun b o hb e => hk b o hb (aY _ e)⟩
    rcases q with ⟨ns, mm, hi, hm, q⟩ | ⟨Xo, mm, hi, hm, q⟩
    · cases ns with
      | nil => cases hm
      | cons a zs =>
        cases hm;have e : (fun m x : Int => if x < m then x else m) = fun m x => if decide (x < m) = true then x else m := by funext m x; simp
        rw [e] at q;refine main zs a D.int (fun x y => decide (x < y)) (fun _ => True) hi trivial (fun _ _ _ _ _ _ => trivial) (fun y z vy vz uy uz s' Q' E' _ d1 r1 d2 r2 hq => ?_) q;cases d1;cases d2;obtain⟨t1, rfl⟩ := r1;obtain⟨t2, rfl⟩ := r2;exact HT.AW X.A.in1 s' y t1 z t2 X.prog X.w E' Q' hq
    · cases Xo with
      | nil => cases hm
      | cons a zs =>
        cases hm;have el : ∀ xs ys : List Int, HT.lexLt xs ys = K2.lexLt xs ys := by
          intro xs;induction xs with
          | nil => intro ys; cases ys <;> rfl
          | cons x xs ih => intro ys; cases ys with
            | nil => rfl
            | cons y ys => unfold HT.lexLt K2.lexLt; rw [ih]
        refine main zs a tI K2.lexLt (fun h => ∀ b o, b < s.heap.objs.size -> s.heap.get? b = some o -> h.get? b = some o) hi (fun b o _ e => e) (fun h h' B hB t kk b o hb e => kk b o hb (bS (bV hb hB)) (t b o hb e)) (fun y z vy vz uy uz s' Q' E' t' d1 r1 d2 r2 hq => ?_) q;cases d1 with
        | tup h1 rs1 =>
          cases d2 with
          | tup h2 RL =>
            cases r1;cases r2;have z1 := rs1.ints;have z2 := RL.ints;subst z1 z2;obtain⟨OO, UD, ⟨o1, ho1, hc1, n1, Wx⟩, _⟩ := I.tuple (.of h1);obtain⟨ur, LO, ⟨o2, Dm, EI, n2, hd2⟩, _⟩ := I.tuple (.of h2);have p1 : IsTup s'.heap _ OO.toArray := ⟨o1, t' _ _ (bc ho1) ho1, hc1, n1, Wx⟩;have p2 : IsTup s'.heap _ ur.toArray := ⟨o2, t' _ _ (bc Dm) Dm, EI, n2, hd2⟩;rw [<-el] at hq;have i1 : nI OO.toArray.toList y := intsAre_of UD;have i2 : nI ur.toArray.toList z := intsAre_of LO;exact(HT.A3 p1 p2 i1 i2 (show X.A.units + 1 < cLine by lia) hq : wpAny (model X.prog X.w) X.A.in1 (gw .Lt _ _) Q' E' s')
  · exact q.elim
noncomputable def Yu(scope sc:Scope):List (Str×uC):=scope.names.map fun (n,k)=>if (k == .free&&sc.kind == .function&&sc.names.lookup n == some .cell) then (n,.cell) else (n,k)
noncomputable def Ae(N:List Str)(scope:Scope)(m:Nat)(fr:List Nat)(sc:Scope)(XN:List Str):Bool :=
 scope.names.all (fun y=>decide (y.2≠.cell))&&decide (scope.kind=.function)&&scope.names.all (fun y=>!decide (y.2=.local)||decide (scope.names.lookup y.1=some .local)) &&
 scope.names.all (fun y=>!decide (y.2=.free)||decide (sc.names.lookup y.1=some .cell))&&decide (N.length=m+fr.length) &&
 (e7 fr.length).all (fun j=>match fr[j]?,N[m+j]? with
  | some i,some x=>decide (XN[i]?=some x)&&decide (sc.names.lookup x=some .cell)&&decide ((Yu scope sc).lookup x=some .cell)
  | _,_=>false)
theorem DD{sc:Scope}{XN:List Str}(Wh:X.env.scope=sc)(WG:X.N=XN)(hb:Ae N scope m fr sc XN=true):B0 X N scope m fr:=by
 subst Wh WG;unfold Ae at hb;simp only [aZ] at hb;obtain⟨⟨⟨⟨⟨h1,h2⟩,h3⟩,h4⟩,h5⟩,h6⟩:=hb;refine⟨fun y hy=>of_decide_eq_true (List.all_eq_true.mp h1 y hy),of_decide_eq_true h2,fun y hy hl=>?_,fun y hy hl=>?_,of_decide_eq_true h5,fun j i x e1 e2=>?_⟩
 ·have:=List.all_eq_true.mp h3 y hy;simp only [hl,decide_true,aK,B9] at this;exact of_decide_eq_true this
 ·have:=List.all_eq_true.mp h4 y hy;simp only [hl,decide_true,aK,B9] at this;exact of_decide_eq_true this
 ·have hj:j < fr.length:=(List.getElem?_eq_some_iff.mp e1).1;have:=List.all_eq_true.mp h6 j (List.mem_range.mpr hj);rw [e1,e2] at this;simp only [aZ] at this;exact⟨of_decide_eq_true this.1.1,of_decide_eq_true this.1.2,of_decide_eq_true this.2⟩
theorem p8(N:List Str){sc:Scope}{XN:List Str}(hi:PN X tg iter wi)(hg:∀ C s H fp,Nc (eP X N scope C s H fp) tg g)(TR:∀ C s H fp,Uy (eP X N scope C s H fp) ifs c)(he:∀ C s H fp,iD (eP X N scope C s H fp) elt te)
  (Wh:autoParam (X.env.scope=sc) Ar._auto_1) (WG:autoParam (X.N=XN) Ar._auto_1) (hb:autoParam (Ae N scope m fr sc XN=true) Ak._auto_1) (hc:autoParam (X.calm=true) Ar._auto_1) (hs:autoParam (∀ x,o6 iter X.env x=pure x) Ai._auto_1):iD X (.ListComp elt [⟨tg,iter,ifs,0⟩] scope pos) (hU m fr wi g c te) :=
 LX hc (DD Wh WG hb) hi hg TR he hs
theorem sx(N:List Str){sc:Scope}{XN:List Str}{i:Nat}{y:Str}{py NN:Pos}(hN:X.N.Nodup)(Zr:X.N[i]?=some y)(hy:X.env.scope.names.lookup y=some .local)(hi:PN X tg iter wi)(hg:∀ C s H fp,Nc (eP X N scope C s H fp) tg g)
  (TR:∀ C s H fp,Uy (eP X N scope C s H fp) ifs c) (he:∀ C s H fp,iD (eP X N scope C s H fp) elt te) (Wh:autoParam (X.env.scope=sc) Ar._auto_1) (WG:autoParam (X.N=XN) Ar._auto_1) (hb:autoParam (Ae N scope m fr sc XN=true) Ak._auto_1) (hc:autoParam (X.calm=true) Ar._auto_1)
  (ZA:autoParam (FP (.ListComp elt [⟨tg,iter,ifs,0⟩] scope pos) (some (.Name y py)) NN.line X.env=pure true) Ar._auto_1) (hs:autoParam (∀ x,o6 iter X.env x=pure x) Ai._auto_1) :
  Iq X (.Assign [.Name y py] (.ListComp elt [⟨tg,iter,ifs,0⟩] scope pos) NN) (bH (hU m fr wi g c te) (aI i)) :=
 GD hN Zr hy hc (DD Wh WG hb) hi hg TR he ZA hs
theorem Mh{K:aw}{H:Hp}{a:Addr}{ns:List Int}(hO:RC H)(hS:qy K H a (ns.map V.int))(hl:ns.length<=63):bK K C7 [.ref a] H (fun v _=>v=.bl true) fun _ _ _=>False:=by
 have hF:UY K H a (ns.map V.int):=by
  rcases hS with (h | ⟨o,h⟩) | h
  ·rcases hO a with z | ⟨o,xs,z⟩
   ·rw [z] at h; cases h
   ·rw [z] at h; cases h
  ·exact .inl ⟨o,h⟩
  ·exact .inr h
 refine⟨[.fJ (ns.map D.int)],fun _=>none,fun d _=>d=.bl true,.cons (.fJ hF (bA.KC ns)) .nil,fun a g e=>(by cases e),⟨ns,rfl,hl,fun _=>rfl,fun _=>rfl⟩,fun d G' v H' e mv r=>?_⟩;subst e;cases r;rfl
theorem OI{l:DR}{q:bU}{loose:List Str}{XP:(Str->Option Value)->Heap->Prop}{YP:World->Heap->Prop}{d:DefRec}{K:nH->aw}{k:Nat}{x:Str}(hn:l.most=some 63)(Ww:d.params.defaults=[])(hr:kK k Iz)
  (hY:∀ (w:World) (h:Heap),YP w h->(K w.params).In h)
  (F:∀ (w:World) (mg:Str->Option Value) (fa:Addr) (h:Heap),(K w.params).In h->h.Ns bu mg->mg d.name=some (.ref fa) ->
   ∃ fd:ay,(∀ (s:aF) (u:Value),Nx s fd ⟨[u],[]⟩ [(x,u)])/\∀ base:Heap,(K w.params).In base->base.Ns bu mg->eA l.prog w (K w.params) mg base eB k fa fd [x] (bK (K w.params) C7)) :
  PySem.W.WalkO q loose XP YP l.row.toRowW d [] (fun f vs=>J7 f vs) :=
 L2.Qq (n:=63) (k:=k) (x:=x) (CX:=fun _=>eB) (sp:=fun w=>bK (K w.params) C7) hn (by decide) Ww hr hY F (fun _ _ _ _ hl hO hS=>Mh hO hS hl) fun _ _ _ _ _ z=>z
end
end K2
end
section
namespace K2
open PySem PySem.Spec PyProof.Rows L2
noncomputable def Pz:HO->Bool
 | .lst _=>true
 | .dK _=>true
 | .dT _=>true
 | _=>false
noncomputable def qi(h:Heap)(S:Addr->Bool)(H:Hp):Hp:=fun a=>match H a with
 | some u=>if (Pz u&&S a)=true then (match h.get? a with
  | some o=>some (.rq o u)
  | none=>some u) else some u
 | none=>none
section
variable {h:Heap} {S:Addr->Bool} {H:Hp} {a:Addr}
theorem JB(n:∀ u,H a=some u->Pz u=false):qi h S H a=H a:=by
 unfold qi;cases e:H a with
 | none=>rfl
 | some u=>simp only [n u e,Ke,ai,if_false]
theorem Bp(hs:S a=false):qi h S H a=H a:=by
 unfold qi;cases e:H a with
 | none=>rfl
 | some u=>simp only [hs,Kf,ai,if_false]
theorem Ab{u:HO}{o:Obj}(hs:S a=true)(e:H a=some u)(hu:Pz u=true)(ho:h.get? a=some o):qi h S H a=some (.rq o u):=by
 unfold qi;simp only [e,hs,hu,Bool.and_self,if_true,ho]
theorem qh(e:H a=none):qi h S H a=none:=by unfold qi; rw [e]
theorem oP{u:HO}(e:H a=some u)(hu:Pz u=false):qi h S H a=some u:=by rw [JB (fun v z=>by rw [e] at z; cases z; exact hu)]; exact e
theorem wV:Kp H (qi h S H):=⟨fun a xs e=>oP e rfl,fun a o u e=>oP e rfl⟩
end
section
variable {X:Cx} {pins:List (Addr×Obj)} {σ:L2.St} {H:Hp} {s:aF} {G:Gp}
theorem Inv.freeze(I : Inv X pins σ H s)(S : Addr -> Bool) : Inv X pins σ (qi s.heap S H) s where
  ok := I.ok
  os := I.os
  bare := I.bare
  base := { keep := I.base.keep, slot := I.base.slot, there := I.base.there
            free := fun b o q n hx => qh (I.base.free b o q n hx)
            Ce := fun b xs q => oP (I.base.Ce b xs q) rfl
            Bo := fun b o u q => oP (I.base.Bo b o u q) rfl
            Cg := fun b ps q => oP (I.base.Cg b ps q) rfl }
  loc := I.loc
  cell := I.cell
  free := qh I.free
  rz := fun x c e => qh (I.rz x c e)
  pin := fun p hp => let ⟨h1, h2, h3⟩ := I.pin p hp; ⟨h1, qh h2, h3⟩
  fB := fun a o q => by
    have st : ∀ u, H a = some u -> je X.prog X.w (qi s.heap S H) s.heap a u := fun u e =>
      (I.fB a u e).o9 (fun b v _ r => r) (fun b r => oP r rfl) (fun b xs r => oP r rfl)
    cases e : H a with
    | none => rw [qh e] at q; cases q
    | some u =>
      by_cases hc : Pz u = true
      · by_cases hs : S a = true
        · obtain⟨ob, ho⟩ := qa (I.fB a _ e)
          rw [Ab hs e hc ho] at q;cases q;exact⟨ho, st _ e⟩
        · rw [Bp (by simpa using hs), e] at q
          cases q;exact st _ e
      · rw [oP e (by simpa using hc)] at q
        cases q;exact st _ e
  len := I.len
noncomputable def q0(R:Nat->Bool)(G:Gp):Addr->Bool:=fun a=>R a&&(G a).isSome
theorem Du(I:Inv X pins σ H s)(ab:oB X.K H G)(R:Nat->Bool):Mv X.K H G (qi s.heap (q0 R G) H) (CI R G) where
 keep:=fun a o e n=>by
  refine⟨by rw [Bp (by simp [q0,n])]; exact e,?_⟩;unfold CI; split
  ·rfl
  ·exact n
 o9:=fun a n=>by
  cases q:G a with
  | none=>exact absurd q n
  | some g =>
   have t:=(ab a g q).tracked;cases e:H a with
   | none=>exact absurd e t
   | some u =>
    unfold qi;rw [e];dsimp only;split
    ·split <;> simp
    ·simp
 ab:=fun a g e=>by
  unfold CI at e;split at e
  ·cases e
  ·rename_i hr;exact(ab a g e).mono wV (Bp (by simp [q0,hr]))
theorem O7(I:Inv X pins σ H s)(ab:oB X.K H G){R:Nat->Bool}:∀ {d t:D} {v:V},Fz G R d t->dh X.K H v d->dh X.K (qi s.heap (q0 R G) H) v t:=by
 intro d t v h;revert v;refine Fz.rec (motive_1:=fun d t _=>∀ {v:V},dh X.K H v d->dh X.K (qi s.heap (q0 R G) H) v t)
  (motive_2:=fun ds ts _=>∀ {vs:List V},bA X.K H vs ds->bA X.K (qi s.heap (q0 R G) H) vs ts)
  (motive_3:=fun ds ts _=>(∀ {vs:List (Key×V)},rN X.K H vs ds->rN X.K (qi s.heap (q0 R G) H) vs ts)/\∀ {vs:List (List Key×V)},tM X.K H vs ds->tM X.K (qi s.heap (q0 R G) H) vs ts)
  ?_ ?_ ?_ ?_ ?_ ?_ ?_ ?_ ?_ h
 ·intro d v r; exact r.mono wV
 ·intro ds ss _ ih v r;cases r with
  | tup h rs=>exact .tup (wV.tup _ _ h) (ih rs)
 ·intro ds ss _ ih v r;cases r with
  | fJ h rs=>exact .fJ (wV.RH h) (ih rs)
 ·intro a ds ss g hr _ ih v r;cases r;obtain⟨vs,hv,rs⟩:=ab a _ g;obtain⟨ob,ho⟩:=qa (I.fB a _ hv);exact .fJ (.inl ⟨_,Ab (by simp [q0,hr,g]) hv rfl ho⟩) (ih rs)
 ·intro a ds ss g hr _ ih v r;cases r;rcases ab a _ g with ⟨kv,hv,rs⟩ | ⟨kv,hv,rs⟩
  ·obtain⟨ob,ho⟩:=qa (I.fB a _ hv);exact .wb (Ab (by simp [q0,hr,g]) hv rfl ho) (ih.1 rs)
  ·obtain⟨ob,ho⟩:=qa (I.fB a _ hv);exact .wa (Ab (by simp [q0,hr,g]) hv rfl ho) (ih.2 rs)
 ·intro vs r; cases r; exact .nil
 ·intro d s ds ss _ _ i1 i2 vs r;cases r with
  | cons r rs=>exact .cons (i1 r) (i2 rs)
 ·exact⟨fun r=>by cases r; exact .nil,fun r=>by cases r; exact .nil⟩
 ·intro k d s ds ss _ _ i1 i2;exact⟨fun r=>by cases r with | cons r rs=>exact .cons (i1 r) (i2.1 rs),fun r=>by cases r with | cons r rs=>exact .cons (i1 r) (i2.2 rs)⟩
variable {e:Expr} {te:hW} {st:Stmt} {t:g7}
theorem bo(he:iD X e te):iD X e (c7 te):=by
 intro E pins s σ H τ G Q hE I h;refine iy (he E pins s σ H τ G _ hE I h) ?_;rintro u s1 ⟨v,H1,d,G1,I1,m,r,rd,R,t,hf,q⟩;exact⟨v,_,t,_,Inv.freeze I1 _,m.trans (Du I1 m.ab R),r,O7 I1 m.ab hf rd,q⟩
theorem Ej{i:Nat}(h1:Iq X st t):Iq X st (Pw i t):=by
 intro E pins s σ H τ G D hE I h;refine iy (h1 E pins s σ H τ G _ hE I h) fun f s1 z=>?_;cases f with
 | next =>
  obtain⟨kE,H',lH,G',I',m,q⟩:=z;simp only at q;split at q
  ·rename_i d hd;obtain⟨R,t,hf,q⟩:=q;obtain⟨v,hv,rv⟩:=I'.st.at' i d hd;have a1:=(I'.st.mono (H':=qi s1.heap (q0 R G') H') wV).set i (O7 I'.inv I'.ab hf rv);have es:kE.set i (some v)=kE:=by
    have hi:i < kE.length:=(List.getElem?_eq_some_iff.mp hv).1;have e2:=(List.getElem?_eq_some_iff.mp hv).2;rw [<-e2]; exact List.set_getElem_self hi
   rw [es] at a1;have m2:=Du I'.inv I'.ab R;exact⟨kE,_,_,_,⟨Inv.freeze I'.inv _,a1,m2.ab⟩,m.trans m2,q⟩
  ·exact q.elim
 | ret v=>exact z
 | brk=>exact z
 | cont=>exact z
end
end K2
end
section
namespace K2
open PySem PySem.Spec PyProof.Rows L2
theorem gf:eN "len" = some (.builtin "len"):=by decide +kernel
theorem PD:eN "min" = some (.builtin "min"):=by decide +kernel
theorem yk:eN "sorted" = some (.builtin "sorted"):=by decide +kernel
theorem qX:eN "list" = some (.type "list"):=by decide +kernel
theorem xf:eN "tuple" = some (.type "tuple"):=by decide +kernel
theorem Us:eN "int" = some (.type "int"):=by decide +kernel
theorem Ry:eN "bool" = some (.type "bool"):=by decide +kernel
theorem PC:eN "str" = some (.type "str"):=by decide +kernel
section
variable {X:Cx} {a b c e o:Expr} {es:List Expr} {ta tb tc te to:hW} {t:DN} {pos p p2 apos pI:Pos} {x name:Str} {id T:String} {k:Nat} {f:Addr} {fd:ay} {ps:List Str} {sp:jx}
theorem aR(F:eA X.prog X.w X.K X.mg X.base eB k f fd ps (bK X.K sp))(hr:kK k X.A)(hg:Gl X x)(hm:X.mg x=some (.ref f))(hk:gh X.K (.ref f)=true)(hb:Binds X.K fd ps [])
  (ha:FN X (e :: es) t) (O0:autoParam ((x == ("__debug__" : Str))=false) Ad._auto_1) (he:autoParam (cq (e :: es) X.env=(false,eval e X.env) :: cq es X.env) Ar._auto_1) (u0:autoParam ((nG pos (cq es X.env)).any (·.1)=false) Ar._auto_1) :
  iD X (.Call (.Name x p) (e :: es) [] pos) (a8 sp t):=Ou F hr hg hm hk hb ha O0 he u0
end
end K2
end
section
namespace L2
open PySem PySem.Spec PyProof.Rows
section
variable {X:Cx} {pins:List (Addr×Obj)} {σ:St} {H:Hp} {s:aF} {h':Heap}
theorem Inv.zR{t':Nat}{fp:List Addr}(I:Inv X pins σ H s)(hf:∀ b∈fp,qm X pins H b)(k:∀ b o,b∉fp->s.heap.get? b=some o->h'.get? b=some o):Inv X pins σ H { s with heap:=h',toks:=t' }:=by
 have nt:∀ b u,H b=some u->b∉fp:=fun b u e z=>by rw [(hf b z).1] at e; cases e
 refine I.step (g':=s.gens) (d':=s.drawn) (ch:=fp) (fun b hb=>?_) (fun b o _ _ hc e _=>k b o hc e) (fun b o _ _ hc e _=>⟨o.slots,k b o hc e⟩) (fun _ _ _ _ n=>n)
  (fun b o hc e=>⟨o,k b o hc e⟩) (fun _ _ e=>e) (fun _ _ _ e=>e) (fun _ _ e=>e) (fun m hm=>?_) (fun b u e=>?_) I.bare
 ·obtain⟨f0,f1,f2,f3,f4,f5⟩:=hf b hb;exact⟨f3,f1,f4,f5⟩
 ·obtain⟨o,es,ep,ho,r⟩:=hm;exact⟨o,es,ep,k _ _ (fun z=>(hf _ z).2.1 rfl) ho,r⟩
 ·refine(I.fB b u e).o9 (fun c v hc r=>k c v ?_ r) (fun _ z=>z) (fun _ _ z=>z);rcases hc with rfl | hc
  ·exact nt _ _ e
  ·exact nt _ _ hc
theorem Inv.Kh{t':Nat}{fp:List Addr}{T:Addr}{vs:List V}(I:Inv X pins σ H s)(hf:∀ b∈fp,qm X pins H b)(k:∀ b o,b∉fp->s.heap.get? b=some o->h'.get? b=some o)(hT:s.heap.objs.size<=T)
  (new:je X.prog X.w (upd H T (.tup vs)) h' T (.tup vs)):Inv X pins σ (upd H T (.tup vs)) { s with heap:=h',toks:=t' }:=by
 have hn:H T=none:=I.fB.fresh hT;have ht:∀ b o,s.heap.get? b=some o->b≠T:=fun b o e z=>by subst z; exact absurd (bc e) (Nat.not_lt.mpr hT)
 have nt:∀ b u,H b=some u->b∉fp:=fun b u e z=>by rw [(hf b z).1] at e; cases e
 have ne:∀ b u,H b=some u->b≠T:=fun b u e=>fm e hn;refine I.step (g':=s.gens) (d':=s.drawn) (ch:=fp) (fun b hb=>?_) (fun b o _ _ hc e _=>k b o hc e) (fun b o _ _ hc e _=>⟨o.slots,k b o hc e⟩) (fun b o _ e n=>by rw [cw (ht b o e)]; exact n)
  (fun b o hc e=>⟨o,k b o hc e⟩) (fun b xs e=>by rw [cw (ne _ _ e)]; exact e) (fun b o u e=>by rw [cw (ne _ _ e)]; exact e) (fun b ps e=>by rw [cw (ne _ _ e)]; exact e) (fun m hm=>?_) (fun b u e=>?_) I.bare
 ·obtain⟨f0,f1,f2,f3,f4,f5⟩:=hf b hb;exact⟨f3,f1,f4,f5⟩
 ·obtain⟨o,es,ep,ho,r⟩:=hm;exact⟨o,es,ep,k _ _ (fun z=>(hf _ z).2.1 rfl) ho,r⟩
 ·by_cases hb:b=T
  ·subst hb; rw [dv] at e; cases e; exact new
  ·rw [cw hb] at e;refine(I.fB b u e).o9 (fun c v hc r=>k c v ?_ r) (fun c z=>by rw [cw (ne _ _ z)]; exact z) (fun c xs z=>by rw [cw (ne _ _ z)]; exact z);rcases hc with rfl | hc
   ·exact nt _ _ e
   ·exact nt _ _ hc
theorem qm.upd{b T:Addr}{o:HO}(h:qm X pins H b)(hb:b≠T):qm X pins (L2.upd H T o) b:=by
 obtain⟨f0,r⟩:=h;exact⟨by rw [cw hb]; exact f0,r⟩
end
noncomputable def Ite(K:aw)(a:Addr):It :=
  ⟨fun i H=>∃ xs x,qy K H a xs/\xs[i]?=some x,
   fun i H v H'=>∃ T y,v=.ref T/\H T=none/\H'=upd H T (.tup [.int i,y])/\∀ xs,qy K H a xs->xs[i]?=some y,
   fun i H=>∃ xs,qy K H a xs/\xs.length<=i⟩
theorem LA{P:bU}{w:World}{K:aw}{elts:List Expr}{kk:Nat}{pos:Pos}(a e it:Addr)(mz:e≠it) :
  Turn P w K (.Tuple elts kk pos) (Ite K a) [e,it] e (fun i h=>(∃ old,IsEnum h e it i old)/\h.IsListIter it a i) where
 mem:=by simp
 obj:=fun i h TN b hb=>by
  obtain⟨⟨old,he⟩,hit⟩:=TN;rcases List.mem_cons.mp hb with rfl | hb
  ·exact⟨_,he,fun v z=>by cases z⟩
  ·have e:b=it:=by simpa using hb
   subst e;obtain⟨o,e,c,d⟩:=hit;exact⟨o,e,fun v z=>by rw [d] at z; cases z⟩
 keep:=(by rintro i h h' ⟨⟨old,he⟩,hit⟩ k; exact⟨⟨old,k e (by simp) _ he⟩,hit.at fun o q=>k it (by simp) o q⟩)
 item:=by
  intro X hP hw hK hc i pins s σ H E I hf st hg;obtain⟨⟨old,he⟩,hit⟩:=st;subst hP hw hK;obtain⟨xs,x,hq,hx⟩:=hg;obtain⟨bO,rv,p,hz⟩:=I.list hq;obtain⟨u,hu,ru⟩:=rv.get hx;have hTn:H s.heap.objs.size=none:=I.fB.fresh (aT _);have heT:e≠s.heap.objs.size:=bS (bc he);have hiT:it≠s.heap.objs.size:=by obtain⟨o,q,_⟩:=hit; exact bS (bc q)
  refine wpAny_pyNext_enum_item he hit p.isList (x:=u) (by simpa using hu) mz fun h' ho ZY hT hsz kk=>?_;refine⟨_,rfl,?_⟩;have I1:Inv X pins σ (upd H s.heap.objs.size (.tup [.int i,x])) { s with heap:=h',toks:=s.toks+1 } :=
   I.Kh (fp:=[e,it]) hf (fun b o hb q=>kk b o (fun z=>hb (by simp [z])) (fun z=>hb (by simp [z])) q) (aT _)
    ⟨by show 2<=br; decide,[.int i s.toks,u],.cons ⟨_,rfl⟩ (.cons ru .nil),⟨_,hT,rfl,_,rfl⟩⟩
  refine wpAny_letOwnedTupleGo_enum (s:={ s with heap:=h',toks:=s.toks+1 }) ho fun h2 Z4 FK=>?_;have f1:∀ b∈[e,it],qm X pins (upd H s.heap.objs.size (.tup [.int i,x])) b:=fun b hb=>(hf b hb).upd (by
   rcases List.mem_cons.mp hb with rfl | hb
   ·exact heT
   ·rw [List.mem_singleton.mp hb]; exact hiT)
  have I2:Inv X pins σ (upd H s.heap.objs.size (.tup [.int i,x])) { s with heap:=h2,toks:=s.toks+1 } :=
   Inv.zR (s:={ s with heap:=h',toks:=s.toks+1 }) (t':=s.toks+1) (fp:=[e,it]) I1 f1 fun b o hb q=>(FK.2 b (fun z=>hb (by simp [z]))).trans q
  refine⟨.ref s.heap.objs.size,_,I2,rfl,⟨_,x,rfl,hTn,rfl,fun ys hy=>by rw [I.sM hy hq]; exact hx⟩,⟨⟨u,?_⟩,?_⟩,fun b hb=>(f1 b hb).1⟩
  ·simpa using Z4
  ·exact ZY.at fun o q=>(FK.2 it (gv mz)).trans q
 done:=by
  intro X hP hw hK hc i pins s σ H E I hf st hg;obtain⟨⟨old,he⟩,hit⟩:=st;subst hP hw hK;obtain⟨xs,hq,hx⟩:=hg;obtain⟨bO,rv,p,hz⟩:=I.list hq;have hl:=rv.length;refine wpAny_pyNext_enum_end (I.ok.hd hc) he hit p.isList (by simp; lia) fun h' eb=>⟨rfl,?_⟩;exact I.zR (t':=s.toks) (fp:=[e,it]) hf fun b o hb q=>eb b o (fun z=>hb (by simp [z])) q
 self:=(by rintro A i s Q E ⟨⟨old,he⟩,_⟩ h; exact wpAny_pyIter_enum he h)
end L2
namespace K2
open PySem PySem.Spec PyProof.Rows L2
section
variable {X:Cx} {elts:List Expr} {kk:Nat} {Qu:Pos} {a b:Expr} {ta tb:hW} {pos p:Pos}
theorem K6{pins:List (Addr×Obj)}{σ:L2.St}{H H1:Hp}{G G1:Gp}{s1:aF}{l:Addr}{vs:List V}{ds:List D}{ok:Gp->Prop}{R:List D->(Gp->Prop)->Gp->Prop}(I1:Inv X pins σ H1 s1)(m:Mv X.K H G H1 G1)(hq:qy X.K H1 l vs)
  (hk:∀ H2 G2,Kp H1 H2->oB X.K H2 G2->ok G2->∃ ws,qy X.K H2 l ws/\bA X.K H2 ws ds) (q:R (nX 0 ds) ok G1) :
  wpAny (model X.prog X.w) X.A (call (.type "enumerate") [.ref l]) (fun v s2=>wpAny (model X.prog X.w) X.A (pyIter v) (MV X pins σ (.Tuple elts kk Qu) H G R) X.xe s2) X.xe s1:=by
 obtain⟨bO,rv,pl,hz⟩:=I1.list hq;refine call_enumerate_list pl.isList fun h' he hit hsz kp=>?_;refine wpAny_pyIter_enum he ?_;refine⟨_,[s1.heap.objs.size+1,s1.heap.objs.size],_,_,H1,G1,nX 0 ds,ok,rfl,I1.kept (t':=s1.toks) kp,m,LA l _ _ (Nat.succ_ne_self _),⟨⟨_,he⟩,hit⟩,fun b hb=>?_,fun i H2 G2 k ab o=>?_,q⟩
 ·have Jv:s1.heap.objs.size<=b:=by
   rcases List.mem_cons.mp hb with rfl | hb
   ·lia
   ·rw [List.mem_singleton.mp hb]; exact aT _
  exact I1.JC Jv (I1.fB.fresh Jv)
 ·obtain⟨ws,hw,rd⟩:=hk H2 G2 k ab o;refine⟨fun d hd=>?_,fun hl=>⟨ws,hw,by rw [rd.length,<-Dx ds 0]; exact hl⟩⟩;rw [Dy] at hd;cases Z5:ds[i]? with
  | none=>rw [Z5] at hd; cases hd
  | some d' =>
   rw [Z5] at hd;obtain⟨v,hv,r⟩:=rd.get Z5;refine⟨⟨ws,v,hw,hv⟩,?_⟩;rintro x H3 ⟨T,y,ex,hT,e3,hy⟩;subst ex e3;have:=hy ws hw;rw [hv] at this;cases this;have ed:D.tup [.int ((0+i:Nat):Int),d']=d:=by simpa using hd
   subst ed;refine⟨.tup dv (.cons (by rw [ou]; exact .int _) (.cons (r.mono (.new hT)) .nil)),.R5 ab hT⟩
theorem Fh:eN "enumerate" = some (.type "enumerate"):=by decide +kernel
theorem Ur:eN "zip" = some (.type "zip"):=by decide +kernel
theorem Om (hg:Gl X "enumerate") (hm:X.mg "enumerate" = none) (ha:iD X a ta) (hs:autoParam (cq [a] X.env=[(false,eval a X.env)]) Ar._auto_1):PN X (.Tuple elts kk Qu) (.Call (.Name "enumerate" p) [a] [] pos) (OU ta):=by
 intro E pins s σ H τ G R hE I h;have hA:FN X [a] (ah ta aH):=af ha av hs;refine Call_ (qO I.inv hg hm Fh (fi (zg hA pos hE I (R:=VL fun x G1=>wQ x G1 R) h fun vs H1 ds G1 us s1 I1 m1 r1 j0 q1=>?_) hs rfl))
 match ds,q1 with
 | [x],q1 =>
  change wQ x G1 R at q1;obtain⟨w,rfl,LN⟩:=j0.one;obtain⟨u,rfl,ru⟩:=r1.one;cases LN with
  | fJ hq rs=>cases ru; exact K6 I1.inv m1 hq.sq (fun H2 G2 k ab _=>⟨_,(k.RH hq).sq,rs.mono k⟩) q1
  | ref p =>
   cases ru;unfold wQ at q1;dsimp only at q1;split at q1
   ·rename_i ds e;obtain⟨vs,hv,rs⟩:=I1.ab.lst e;refine K6 I1.inv m1 (.of hv) (fun H2 G2 k ab o=>?_) q1;obtain⟨ws,hw,oH⟩:=ab.lst o;exact⟨ws,.of hw,oH⟩
   ·exact q1.elim
  | tup _ _=>exact q1.elim
  | wb _ _=>exact q1.elim
  | wa _ _=>exact q1.elim
  | eK=>exact q1.elim
  | bl _=>exact q1.elim
  | int _=>exact q1.elim
  | str _=>exact q1.elim
  | exc _=>exact q1.elim
 | [],q1=>exact q1.elim
 | _ :: _ :: _,q1=>exact q1.elim
end
end K2
end
section
namespace K2
open PySem PySem.Spec PyProof.Rows L2
section
variable {X:Cx} {o i a b:Expr} {to ti ta tb:hW} {pos p:Pos}
theorem Kw(hu:X.A.units+64 < cLine)(ho:iD X o to)(hi:iD X i ti)
  (ha:autoParam (∀ v,Nk (.Subscript o i pos) X.env v=(do
   let ov ← Ni [v] (eval o X.env)
   let iv ← Ni [v,ov] (eval i X.env)
   standAt pos
   Ni [v,ov,iv] (setItem ov iv v)
   release [v,ov,iv] [])) Ai._auto_1):Nc X (.Subscript o i pos) (O6 to ti):=by
 intro E pins s σ H τ G w d u Q hE I r rd h;rw [ha];refine aQ (lE (lO ho hE I h fun x H1 dx G1 ov s1 I1 m1 r1 j0 q1=>?_));refine aQ (lE (lO hi hE I1 q1 fun y H2 dy G2 iv s2 mX m2 r2 Ee q2=>?_));refine aQ (wpAny_standAt (aQ (lE ?_)));have Xs:=m1.trans m2;have P5:=rd.mono (Xs.kp I.ab);have C6:=I.st.mono (Xs.kp I.ab);have rx':=j0.mono (m2.kp I1.ab);unfold Gq at q2;split at q2
 ·rename_i l;cases rx';cases r1;split at q2
  ·rename_i xs hg;obtain⟨vs,hv,rs⟩:=mX.ab.lst hg;split at q2
   ·rename_i k;cases Ee;split at q2
    ·rename_i j hj;have m3:Mv X.K H2 G2 (upd H2 l (.lst (vs.set j w))) (cW G2 l (.lst (xs.set j d))):=.putL mX.ab hg hv (rs.set P5 j);refine iy (set_list pins s2 σ H2 (.ref l) (.int k) w _ _ _ (fun H3=>H3=upd H2 l (.lst (vs.set j w))) mX.inv rfl r2 r ⟨l,vs,k,j,rfl,rfl,hv,?_,rfl⟩) ?_
     ·rw [rs.length]; exact hj
     ·rintro _ s3 ⟨H3,I3,e3⟩;subst e3;exact wpAny_release ⟨σ,_,τ,_,⟨I3,C6.mono (m3.kp mX.ab),m3.ab⟩,Xs.trans m3,q2⟩
    ·exact q2.elim
   ·exact q2.elim
  ·rename_i bB hg;obtain⟨hk,hz,q⟩:=q2;obtain⟨H3,H4,I3,dp,m3⟩:=Po mX.inv mX.ab hg hk hz Ee P5;exact MM (by lia) I3 dp r2 r fun s4 I4=>wpAny_release ⟨σ,H4,τ,_,⟨I4,C6.mono (m3.kp mX.ab),m3.ab⟩,Xs.trans m3,q⟩
  ·exact q2.elim
 ·exact q2.elim
end
end K2
end
section
namespace L2
open PySem PySem.Spec PyProof.Rows
theorem vQ{X:Cx}{pins:List (Addr×Obj)}{σ:St}{H:Hp}{s:aF}{l b:Addr}{xs:List V}(I:Inv X pins σ H s)(hq:qy X.K H l xs)(hf:qm X pins H b):l≠b:=by
 rintro rfl;obtain⟨f0,f1,f2,f3,f4,f5⟩:=hf;rcases hq with (h | ⟨o,h⟩) | ⟨o,bO,n,h,_⟩
 ·rw [f0] at h; cases h
 ·rw [f0] at h; cases h
 ·have hb:=I.ok.mod.UN _ _ h;rcases f3 with f3 | f3
  ·exact I.ok.L5 _ _ hb f3
  ·exact absurd (bc (I.ok.bs _ _ hb).1) (Nat.not_lt.mpr f3)
noncomputable def Itz(K:aw)(a b:Addr):It :=
  ⟨fun i H=>∃ xs x ys y,qy K H a xs/\xs[i]?=some x/\qy K H b ys/\ys[i]?=some y,
   fun i H v H'=>∃ T x y,v=.ref T/\H T=none/\H'=upd H T (.tup [x,y])/\(∀ xs,qy K H a xs->xs[i]?=some x)/\∀ ys,qy K H b ys->ys[i]?=some y,
   fun i H=>∃ xs ys,qy K H a xs/\qy K H b ys/\(xs.length<=i\/ys.length<=i)⟩
structure W2(z TI TO i1 i2 a b:Addr)(i:Nat)(h:Heap):Prop where
 hz:IsZip h z TI TO .none
 hI:IsPair h TI (.ref i1) (.ref i2)
 hO:∃ x y,IsPair h TO x y
 h1:h.IsListIter i1 a i
 h2:h.IsListIter i2 b i
theorem ND{P:bU}{w:World}{K:aw}{elts:List Expr}{kk:Nat}{pos:Pos}(a b z TI TO i1 i2:Addr)(nd:[z,TI,TO,i1,i2].Nodup) :
  Turn P w K (.Tuple elts kk pos) (Itz K a b) [z,TI,TO,i1,i2] z (W2 z TI TO i1 i2 a b) where
 mem:=by simp
 obj:=fun i h st c hc=>by
  simp only [dD,cR,or_false] at hc;rcases hc with rfl | rfl | rfl | rfl | rfl
  ·exact⟨_,st.hz,fun v q=>by cases q⟩
  ·exact⟨_,st.hI,fun v q=>by cases q⟩
  ·obtain⟨x,y,h⟩:=st.hO; exact⟨_,h,fun v q=>by cases q⟩
  ·obtain⟨o,e,_,d⟩:=st.h1; exact⟨o,e,fun v q=>by rw [d] at q; cases q⟩
  ·obtain⟨o,e,_,d⟩:=st.h2; exact⟨o,e,fun v q=>by rw [d] at q; cases q⟩
 keep:=fun i h h' st k=>⟨k _ (by simp) _ st.hz,k _ (by simp) _ st.hI,let ⟨x,y,q⟩:=st.hO; ⟨x,y,k _ (by simp) _ q⟩,st.h1.at fun o q=>k _ (by simp) o q,st.h2.at fun o q=>k _ (by simp) o q⟩
 item:=by
  intro X hP hw hK hc i pins s σ H E I hf st hg;subst hP hw hK;obtain⟨xs,x,ys,y,RZ,hx,KU,hy⟩:=hg;obtain⟨OO,UD,p1,hz1⟩:=I.list RZ;obtain⟨ur,LO,p2,Wg⟩:=I.list KU;obtain⟨u1,hu1,Vu⟩:=UD.get hx;obtain⟨u2,hu2,SO⟩:=LO.get hy;obtain⟨xo,yo,hO⟩:=st.hO;have ap:∀ c∈[z,TI,TO,i1,i2],a≠c/\b≠c:=fun c hc=>⟨vQ I RZ (hf c hc),vQ I KU (hf c hc)⟩;simp only [ff,dD,cR,or_false,not_or] at nd;obtain⟨⟨n1,n2,n3,n4⟩,⟨n5,n6,n7⟩,⟨n8,n9⟩,Za,_⟩:=nd;have Dz:ZipApart z TI TO i1 i2 a b:=⟨gv n1,gv n2,gv n3,gv n4,n5,n6,n7,n8,n9,Za,(ap z (by simp)).1,(ap TO (by simp)).1,(ap i1 (by simp)).1,(ap i2 (by simp)).1,(ap z (by simp)).2,(ap TO (by simp)).2,(ap i1 (by simp)).2,(ap i2 (by simp)).2⟩;have hTn:H s.heap.objs.size=none:=I.fB.fresh (aT _);have inH:∀ c∈[z,TI,TO,i1,i2],c≠s.heap.objs.size:=fun c hc=>by
   simp only [dD,cR,or_false] at hc;rcases hc with rfl | rfl | rfl | rfl | rfl
   ·exact bS (bc st.hz)
   ·exact bS (bc st.hI)
   ·exact bS (bc hO)
   ·obtain⟨o,e,_⟩:=st.h1; exact bS (bc e)
   ·obtain⟨o,e,_⟩:=st.h2; exact bS (bc e)
  refine wpAny_pyNext_zip_item Dz st.hz st.hI hO st.h1 st.h2 p1.isList p2.isList (x:=u1) (y:=u2) (by simpa using hu1) (by simpa using hu2) fun h' a1 a2 a3 a4 a5 a6 a7=>?_;refine⟨_,rfl,?_⟩;have k1:∀ c o,c∉[z,TI,TO,i1,i2]->s.heap.get? c=some o->h'.get? c=some o:=fun c o hc q =>
   a7 c o (fun e=>hc (by simp [e])) (fun e=>hc (by simp [e])) (fun e=>hc (by simp [e])) (fun e=>hc (by simp [e])) q
  have I1:Inv X pins σ (upd H s.heap.objs.size (.tup [x,y])) { s with heap:=h' } :=
   I.Kh (t':=s.toks) (fp:=[z,TI,TO,i1,i2]) hf k1 (aT _) ⟨by show 2<=br; decide,[u1,u2],.cons Vu (.cons SO .nil),⟨_,a5,rfl,_,rfl⟩⟩
  refine wpAny_letOwnedTupleGo_zip (s:={ s with heap:=h' }) a1 fun h2 Wg FK=>?_;have f1:∀ c∈[z,TI,TO,i1,i2],qm X pins (upd H s.heap.objs.size (.tup [x,y])) c:=fun c hc=>(hf c hc).upd (inH c hc);have I2:Inv X pins σ (upd H s.heap.objs.size (.tup [x,y])) { s with heap:=h2 } :=
   Inv.zR (s:={ s with heap:=h' }) (t':=s.toks) (fp:=[z,TI,TO,i1,i2]) I1 f1 fun c o hc q=>(FK.2 c (fun e=>hc (by simp [e]))).trans q
  have hI':IsPair h' TI (.ref i1) (.ref i2):=a7 TI _ (gv n1) n5 n6 n7 st.hI;refine⟨.ref s.heap.objs.size,_,I2,rfl,⟨_,x,y,rfl,hTn,rfl,fun zs hs=>by rw [I.sM hs RZ]; exact hx,fun zs hs=>by rw [I.sM hs KU]; exact hy⟩,⟨Wg,?_,⟨u1,u2,?_⟩,?_,?_⟩,fun c hc=>(f1 c hc).1⟩
  ·exact(FK.2 TI (gv n1)).trans hI'
  ·exact(FK.2 TO (gv n2)).trans a2
  ·exact a3.at fun o q=>(FK.2 i1 (gv n3)).trans q
  ·exact a4.at fun o q=>(FK.2 i2 (gv n4)).trans q
 done:=by
  intro X hP hw hK hc i pins s σ H E I hf st hg;subst hP hw hK;obtain⟨xs,ys,RZ,KU,hx⟩:=hg;obtain⟨OO,UD,p1,hz1⟩:=I.list RZ;obtain⟨ur,LO,p2,Wg⟩:=I.list KU;have Mx:=UD.length;have KY:=LO.length;obtain⟨xo,yo,hO⟩:=st.hO;have ap:∀ c∈[z,TI,TO,i1,i2],a≠c/\b≠c:=fun c hc=>⟨vQ I RZ (hf c hc),vQ I KU (hf c hc)⟩;simp only [ff,dD,cR,or_false,not_or] at nd;obtain⟨⟨n1,n2,n3,n4⟩,⟨n5,n6,n7⟩,⟨n8,n9⟩,Za,_⟩:=nd;have Dz:ZipApart z TI TO i1 i2 a b:=⟨gv n1,gv n2,gv n3,gv n4,n5,n6,n7,n8,n9,Za,(ap z (by simp)).1,(ap TO (by simp)).1,(ap i1 (by simp)).1,(ap i2 (by simp)).1,(ap z (by simp)).2,(ap TO (by simp)).2,(ap i1 (by simp)).2,(ap i2 (by simp)).2⟩;refine wpAny_pyNext_zip_end (I.ok.hd hc) Dz st.hz st.hI hO st.h1 st.h2 p1.isList p2.isList (by
   rcases hx with hx | hx
   ·left; simp; lia
   ·right; simp; lia) fun h' k1=>⟨rfl,?_⟩
  exact I.zR (t':=s.toks) (fp:=[z,TI,TO,i1,i2]) hf fun c o hc q=>k1 c o (fun e=>hc (by simp [e])) (fun e=>hc (by simp [e])) (fun e=>hc (by simp [e])) (fun e=>hc (by simp [e])) q
 self:=fun A i s Q E st h=>wpAny_pyIter_zip st.hz h
end L2
namespace K2
open PySem PySem.Spec PyProof.Rows L2
section
variable {X:Cx} {elts:List Expr} {kk:Nat} {Qu:Pos} {a b:Expr} {ta tb:hW} {pos p:Pos}
theorem GV{pins:List (Addr×Obj)}{s:aF}{σ:L2.St}{H:Hp}{G:Gp}{x:V}{d:D}{v:Value}{ds:List D}{ok:Gp->Prop}(I:Inv X pins σ H s)(ab:oB X.K H G)(rx:RelV x v)(rd:dh X.K H x d)(hi:A7 d G=some (ds,ok)) :
  ∃ l vs,v=.ref l/\qy X.K H l vs/\bA X.K H vs ds/\∀ H2 G2,Kp H H2->oB X.K H2 G2->ok G2->∃ ws,qy X.K H2 l ws/\bA X.K H2 ws ds:=by
 cases rd with
 | fJ hq rs=>cases hi; cases rx; exact⟨_,_,rfl,hq.sq,rs,fun H2 G2 k ab _=>⟨_,(k.RH hq).sq,rs.mono k⟩⟩
 | ref l =>
  unfold A7 at hi;dsimp only at hi;cases hg:G l with
  | none=>rw [hg] at hi; cases hi
  | some gg =>
   rw [hg] at hi;cases gg with
   | lst zs =>
    cases hi;cases rx;obtain⟨vs,hv,rs⟩:=ab.lst hg;refine⟨_,_,rfl,.of hv,rs,fun H2 G2 k ab o=>?_⟩;obtain⟨ws,hw,oH⟩:=ab.lst o;exact⟨ws,.of hw,oH⟩
   | ins _ _=>cases hi
   | oq _=>cases hi
 | _=>cases hi
theorem QR (hg:Gl X "zip") (hm:X.mg "zip" = none) (ha:iD X a ta) (hb:iD X b tb) (hs:autoParam (cq [a,b] X.env=[(false,eval a X.env),(false,eval b X.env)]) Ar._auto_1) (FK:autoParam (cq [b] X.env=[(false,eval b X.env)]) Ar._auto_1) :
  PN X (.Tuple elts kk Qu) (.Call (.Name "zip" p) [a,b] [] pos) (TC ta tb):=by
 intro E pins s σ H τ G R hE I h;have hA:FN X [a,b] (ah ta (ah tb aH)):=af ha (af hb av FK) (by rw [hs,FK]);refine Call_ (qO I.inv hg hm Ur (fi (zg hA pos hE I (R:=YG fun x y G1=>Bl x y G1 R) h fun vs H1 ds G1 us s1 I1 m1 r1 j0 q1=>?_) (by rw [hs,FK]) (by rw [FK]; rfl)))
 match ds,q1 with
 | [x,y],q1 =>
  change Bl x y G1 R at q1;obtain⟨w1,w2,rfl,LN,Vt⟩:=j0.two;obtain⟨u1,u2,rfl,Vu,SO⟩:=vals2 r1;unfold Bl at q1;split at q1
  ·rename_i xs k1 ys k2 e1 e2;obtain⟨l1,v1,rfl,RZ,rs1,st1⟩:=GV I1.inv I1.ab Vu LN e1;obtain⟨l2,v2,rfl,KU,RL,P2⟩:=GV I1.inv I1.ab SO Vt e2;obtain⟨OO,UD,pl1,_⟩:=I1.inv.list RZ;obtain⟨ur,LO,pl2,_⟩:=I1.inv.list KU;refine call_zip_2 pl1.isList pl2.isList fun h' z1 z2 z3 z4 z5 z6 z7=>?_;refine wpAny_pyIter_zip z1 ?_;refine⟨_,[s1.heap.objs.size+4,s1.heap.objs.size+2,s1.heap.objs.size+3,s1.heap.objs.size,s1.heap.objs.size+1],_,_,H1,G1,um xs ys,_,rfl,I1.inv.kept (t':=s1.toks) z7,m1,
    ND l1 l2 _ _ _ _ _ (by simp),⟨z1,z2,⟨_,_,z3⟩,z4,z5⟩,fun c hc=>?_,fun i H2 G2 k ab o=>?_,q1⟩
   ·have R8:s1.heap.objs.size<=c:=by
     simp only [dD,cR,or_false] at hc;rcases hc with rfl | rfl | rfl | rfl | rfl
     ·exact vD _ _
     ·exact vD _ _
     ·exact vD _ _
     ·exact aT _
     ·exact vD _ _
    exact I1.inv.JC R8 (I1.inv.fB.fresh R8)
   ·obtain⟨Yh,Zw,j0⟩:=st1 H2 G2 k ab o.1;obtain⟨Yg,Xv,Ee⟩:=P2 H2 G2 k ab o.2;refine⟨fun d hd=>?_,fun hl=>⟨Yh,Yg,Zw,Xv,?_⟩⟩
    ·rw [FW] at hd;cases hx:xs[i]? with
     | none=>rw [hx] at hd; cases hd
     | some x' =>
      cases hy:ys[i]? with
      | none=>rw [hx,hy] at hd; cases hd
      | some y' =>
       rw [hx,hy] at hd;have ed:D.tup [x',y']=d:=by simpa using hd
       subst ed;obtain⟨vx,hvx,rx⟩:=j0.get hx;obtain⟨vy,hvy,ry⟩:=Ee.get hy;refine⟨⟨Yh,vx,Yg,vy,Zw,hvx,Xv,hvy⟩,?_⟩;rintro v H3 ⟨T,px,py,ex,hT,e3,hx3,hy3⟩;subst ex e3;have q1:=hx3 Yh Zw;have q2:=hy3 Yg Xv;rw [hvx] at q1;rw [hvy] at q2;cases q1; cases q2;exact⟨.tup dv (.cons (rx.mono (.new hT)) (.cons (ry.mono (.new hT)) .nil)),.R5 ab hT⟩
    ·rw [FV] at hl;rw [j0.length,Ee.length];lia
  ·exact q1.elim
 | [],q1=>exact q1.elim
 | [_],q1=>exact q1.elim
 | _ :: _ :: _ :: _,q1=>exact q1.elim
end
end K2
end
section
namespace K2
open PySem PySem.W PyProof.Rows
noncomputable def jl{α:Type}(lt:Nat->Nat->Bool):KasT α->α
 | .ret a=>a
 | .ask i j k=>jl lt (k (lt i j))
theorem ny{α β:Type}(lt:Nat->Nat->Bool)(f:α->KasT β):∀ t:KasT α,jl lt (t.bind f)=jl lt (f (jl lt t))
 | .ret _=>rfl
 | .ask i j k=>ny lt f (k (lt i j))
noncomputable abbrev gA(p:Array Nat)(k:Nat):Nat:=p.getD k 0
theorem Ds(p:Array Nat)(k:Nat):gA p k=(p[k]?).getD 0:=by
 unfold gA; rw [Array.getD_eq_getD_getElem?]
structure MT(lt:Nat->Nat->Bool):Prop where
 asymm:∀ i j,lt i j=true->lt j i=false
 trans:∀ i j k,lt j i=false->lt k j=false->lt k i=false
theorem MT.refl{lt:Nat->Nat->Bool}(w:MT lt)(i:Nat):lt i i=false:=by
 cases h:lt i i with
 | false=>rfl
 | true=>rw [w.asymm _ _ h] at h; cases h
noncomputable def Up(lt:Nat->Nat->Bool)(p:Array Nat)(m:Nat):Prop:=∀ i j,i<=j->j < m->lt (gA p j) (gA p i)=false
noncomputable def Dn(lt:Nat->Nat->Bool)(p:Array Nat)(m:Nat):Prop:=∀ i j,i<=j->j < m->lt (gA p i) (gA p j)=false
section
variable {lt:Nat->Nat->Bool}
theorem Up.more(w:MT lt){p:Array Nat}{n m:Nat}(h1:1<=n)(h:Up lt p n)(hs:∀ k,n<=k->k < m->lt (gA p k) (gA p (k - 1))=false):Up lt p m:=by
 intro i j Mz hjm;induction j with
 | zero =>
  have:i=0:=by lia
  subst this; exact w.refl _
 | succ j ih =>
  by_cases hj:j+1 < n
  ·exact h i (j+1) Mz hj
  ·by_cases e:i=j+1
   ·subst e; exact w.refl _
   ·have h1:=ih (by lia) (by lia);have h2:=hs (j+1) (by lia) hjm;exact w.trans _ _ _ h1 h2
theorem Kq(p:Array Nat):∀ (f n:Nat),n<=jl lt (rQ p f n)/\jl lt (rQ p f n)<=n+f/\(∀ k,n<=k->k < jl lt (rQ p f n)->lt (gA p k) (gA p (k - 1))=false) /\
  (jl lt (rQ p f n) < n+f->lt (gA p (jl lt (rQ p f n))) (gA p (jl lt (rQ p f n) - 1))=true):=by
 intro f;induction f with
 | zero=>intro n; exact⟨aT _,aT _,fun k h1 h2=>absurd (show k < n from h2) (by lia),fun h=>absurd (show n < n+0 from h) (by lia)⟩
 | succ f ih =>
  intro n;have e:jl lt (rQ p (f+1) n)=if lt (gA p n) (gA p (n - 1))=true then n else jl lt (rQ p f (n+1)):=by
   show jl lt (if lt (gA p n) (gA p (n - 1))=true then xG n else rQ p f (n+1))=_;split <;> rfl
  rw [e];by_cases c:lt (gA p n) (gA p (n - 1))=true
  ·rw [if_pos c];exact⟨aT _,by lia,fun k h1 h2=>absurd h2 (by lia),fun _=>c⟩
  ·rw [if_neg c];obtain⟨h1,h2,h3,h4⟩:=ih (n+1);refine⟨by lia,by lia,fun k k1 k2=>?_,fun h=>h4 (by lia)⟩;by_cases e:k=n
   ·subst e; simpa using c
   ·exact h3 k (by lia) k2
theorem ji{p:Array Nat}{i j:Nat}(hj:j<=p.size)(k:Nat):gA (iG p i j) k=if i<=k/\k < j then gA p (i+j - 1 - k) else gA p k:=by
 rw [Ds,iG,getElem?_mirror_all hj];split <;> rw [Ds]
theorem nN(p:Array Nat)(i j:Nat):(iG p i j).size=p.size:=mirror_size _ _ _ _
theorem k6(p:Array Nat)(i j:Nat):(iG p i j).Perm p:=mirror_perm _ _ _ _
theorem Dn.rev{p:Array Nat}{a n:Nat}(w:MT lt)(hn:n<=p.size)(h:Dn lt p n)(he:∀ k,a<=k->k < n->lt (gA p (n - 1)) (gA p k)=false):Dn lt (iG p a n) n:=by
 intro i j Mz Wr;rw [ji hn,ji hn];by_cases hi:a<=i
 ·rw [if_pos ⟨hi,by lia⟩,if_pos ⟨by lia,Wr⟩];exact w.trans _ _ _ (he (a+n - 1 - j) (by lia) (by lia)) (h (a+n - 1 - i) (n - 1) (by lia) (by lia))
 ·rw [if_neg (by lia)];by_cases hj:a<=j
  ·rw [if_pos ⟨hj,Wr⟩];exact h i (a+n - 1 - j) (by lia) (by lia)
  ·rw [if_neg (by lia)];exact h i j Mz Wr
noncomputable def Eqs(lt:Nat->Nat->Bool)(p:Array Nat)(n q:Nat):Prop:=q+1<=n/\∀ k,n - (q+1)<=k->k < n->lt (gA p (n - 1)) (gA p k)=false
theorem Dn.one(w:MT lt){p:Array Nat}{n:Nat}(h1:1<=n)(h:Dn lt p n)(hc:lt (gA p (n - 1)) (gA p n)=false):Dn lt p (n+1):=by
 intro i j Mz hj;by_cases e:j=n
 ·subst e;by_cases e2:i=j
  ·subst e2; exact w.refl _
  ·exact w.trans _ _ _ hc (h i (j - 1) (by lia) (by lia))
 ·exact h i j Mz (by lia)
theorem NV(w:MT lt):∀ (f:Nat) (p:Array Nat) (n q:Nat),n+f<=p.size->Dn lt p n->Eqs lt p n q->∃ p' n' q',jl lt (mJ f p n q)=(p',n',q')/\p'.Perm p/\p'.size=p.size/\n<=n'/\n'<=n+f/\Dn lt p' n'/\Eqs lt p' n' q':=by
 intro f;induction f with
 | zero=>intro p n q _ hd he; exact⟨p,n,q,rfl,oi _,rfl,aT _,aT _,hd,he⟩
 | succ f ih =>
  intro p n q hs hd he;have h1:1<=n:=by have:=he.1; lia
  have e:jl lt (mJ (f+1) p n q)=if lt (gA p n) (gA p (n - 1))=true then (if q > 0 then jl lt (mJ f (iG p (n - (q+1)) n) (n+1) 0) else jl lt (mJ f p (n+1) 0))
    else if lt (gA p (n - 1)) (gA p n)=true then (p,n,q) else jl lt (mJ f p (n+1) (q+1)):=by
   show jl lt (if lt (gA p n) (gA p (n - 1))=true then (if q > 0 then mJ f (iG p (n - (q+1)) n) (n+1) 0 else mJ f p (n+1) 0) else .ask (gA p (n - 1)) (gA p n) fun d=>if d=true then .ret (p,n,q) else mJ f p (n+1) (q+1))=_;split
   ·split <;> rfl
   ·show jl lt (if lt (gA p (n - 1)) (gA p n)=true then xG (p,n,q) else mJ f p (n+1) (q+1))=_;split <;> rfl
  rw [e];by_cases c:lt (gA p n) (gA p (n - 1))=true
  ·rw [if_pos c];have ca:=w.asymm _ _ c;by_cases hq:q > 0
   ·rw [if_pos hq];have d1:Dn lt (iG p (n - (q+1)) n) n:=hd.rev w (by lia) he.2;have en:gA (iG p (n - (q+1)) n) n=gA p n:=by rw [ji (by lia),if_neg (by lia)]
    have ca':lt (gA (iG p (n - (q+1)) n) (n - 1)) (gA (iG p (n - (q+1)) n) n)=false:=by
     rw [en,ji (by lia)];split
     ·-- an item of Yl Xf is above p n
      exact w.trans _ _ _ ca (hd _ (n - 1) (by lia) (by lia))
     ·exact ca
    obtain⟨p',n',q',z,h2,h3,h4,h5,h6,h7⟩:=ih (iG p (n - (q+1)) n) (n+1) 0 (by rw [nN]; lia) (d1.one w h1 ca') ⟨by lia,fun k k1 k2=>by
     have:k=n:=by lia
     subst this; exact w.refl _⟩
    exact⟨p',n',q',z,h2.trans (k6 _ _ _),h3.trans (nN _ _ _),by lia,by lia,h6,h7⟩
   ·rw [if_neg hq];obtain⟨p',n',q',z,h2,h3,h4,h5,h6,h7⟩:=ih p (n+1) 0 (by lia) (hd.one w h1 ca) ⟨by lia,fun k k1 k2=>by
     have:k=n:=by lia
     subst this; exact w.refl _⟩
    exact⟨p',n',q',z,h2,h3,by lia,by lia,h6,h7⟩
  ·rw [if_neg c];have c':lt (gA p n) (gA p (n - 1))=false:=by simpa using c
   by_cases d:lt (gA p (n - 1)) (gA p n)=true
   ·rw [if_pos d];exact⟨p,n,q,rfl,oi _,rfl,aT _,by lia,hd,he⟩
   ·rw [if_neg d];have d':lt (gA p (n - 1)) (gA p n)=false:=by simpa using d
    obtain⟨p',n',q',z,h2,h3,h4,h5,h6,h7⟩:=ih p (n+1) (q+1) (by lia) (hd.one w h1 d') ⟨by have:=he.1; lia,fun k k1 k2=>by
     rw [Nat.add_sub_cancel];by_cases e:k=n
     ·subst e; exact w.refl _
     ·exact w.trans _ _ _ (he.2 k (by lia) (by lia)) c'⟩
    exact⟨p',n',q',z,h2,h3,by lia,by lia,h6,h7⟩
theorem Dn.up{p:Array Nat}{n:Nat}(hn:n<=p.size)(h:Dn lt p n):Up lt (iG p 0 n) n:=by
 intro i j Mz Wr;rw [ji hn,ji hn,if_pos ⟨by lia,Wr⟩,if_pos ⟨by lia,by lia⟩];exact h _ _ (by lia) (by lia)
theorem Gw(w:MT lt){p:Array Nat}{n nrem:Nat}(h1:1<=n)(hn:n<=nrem)(hs:nrem<=p.size)(h:Dn lt p n):∃ p' m,jl lt (Nh n nrem p)=(m,p')/\p'.Perm p/\p'.size=p.size/\n<=m/\m<=nrem/\Up lt p' m:=by
 obtain⟨a1,a2,a3,_⟩:=Kq (lt:=lt) (iG p 0 n) (nrem - n) n;refine⟨iG p 0 n,jl lt (rQ (iG p 0 n) (nrem - n) n),by rw [Nh,ny]; rfl,k6 _ _ _,nN _ _ _,a1,by lia,?_⟩;exact(h.up (by lia)).more w h1 a3
theorem v9(w:MT lt){p:Array Nat}{n nrem:Nat}(h1:1<=n)(hn:n < nrem)(hs:nrem<=p.size)(h:Dn lt p n)(hc:lt (gA p (n - 1)) (gA p n)=false) :
  ∃ p' m,jl lt (As n nrem p)=(m,p')/\p'.Perm p/\p'.size=p.size/\n<=m/\m<=nrem/\Up lt p' m:=by
 obtain⟨p1,n1,q1,z,z2,z3,z4,z5,z6,z7⟩:=NV w (nrem - (n+1)) p (n+1) 0 (by lia) (h.one w h1 hc) ⟨by lia,fun k k1 k2=>by
  have:k=n:=by lia
  subst this; exact w.refl _⟩
 rw [As,ny,z];show ∃ p' m,jl lt (if q1 > 0 then Nh n1 nrem (iG p1 (n1 - (q1+1)) n1) else Nh n1 nrem p1)=(m,p')/\_;by_cases hq:q1 > 0
 ·rw [if_pos hq];obtain⟨p',m,y1,y2,y3,y4,y5,y6⟩:=Gw (nrem:=nrem) w (p:=iG p1 (n1 - (q1+1)) n1) (by lia) (by lia) (by rw [nN]; lia) (z6.rev w (by lia) z7.2);exact⟨p',m,y1,(y2.trans (k6 _ _ _)).trans z2,(y3.trans (nN _ _ _)).trans z3,by lia,y5,y6⟩
 ·rw [if_neg hq];obtain⟨p',m,y1,y2,y3,y4,y5,y6⟩:=Gw (nrem:=nrem) w (p:=p1) (by lia) (by lia) (by lia) z6;exact⟨p',m,y1,y2.trans z2,y3.trans z3,by lia,y5,y6⟩
theorem LQ(w:MT lt){p:Array Nat}{nrem:Nat}(h1:1<=nrem)(hs:nrem<=p.size):∃ p' m,jl lt (kas_count nrem p)=(m,p')/\p'.Perm p/\p'.size=p.size/\1<=m/\m<=nrem/\Up lt p' m:=by
 obtain⟨a1,a2,a3,a4⟩:=Kq (lt:=lt) p (nrem - 1) 1;rw [kas_count,ny];generalize jl lt (rQ p (nrem - 1) 1)=n at a1 a2 a3 a4;have u1:Up lt p 1:=fun i j Mz hj=>by
  have:i=j:=by lia
  subst this; exact w.refl _
 have up:Up lt p n:=u1.more w (aT _) a3;by_cases e:n=nrem
 ·subst e;rw [if_pos (by simp)];exact⟨p,n,rfl,oi _,rfl,a1,aT _,up⟩
 ·rw [if_neg (by simpa using e)];have hb:=a4 (by lia);by_cases h2:n > 1
  ·rw [if_pos h2];show ∃ p' m,jl lt (if lt (gA p 0) (gA p (n - 1))=true then xG (n,p) else As n nrem (iG p 0 n))=(m,p')/\_;by_cases c:lt (gA p 0) (gA p (n - 1))=true
   ·rw [if_pos c];exact⟨p,n,rfl,oi _,rfl,a1,by lia,up⟩
   ·rw [if_neg c];have c':lt (gA p 0) (gA p (n - 1))=false:=by simpa using c
    have all:∀ i j,i < n->j < n->lt (gA p i) (gA p j)=false:=fun i j hi hj =>
     w.trans _ _ _ (w.trans _ _ _ (up j (n - 1) (by lia) (by lia)) c') (up 0 i (by lia) hi)
    have d1:Dn lt (iG p 0 n) n:=fun i j Mz hj=>by
     rw [ji (by lia),ji (by lia),if_pos ⟨by lia,by lia⟩,if_pos ⟨by lia,hj⟩];exact all _ _ (by lia) (by lia)
    have hl:lt (gA (iG p 0 n) (n - 1)) (gA (iG p 0 n) n)=false:=by
     rw [ji (by lia),ji (by lia),if_pos ⟨by lia,by lia⟩,if_neg (by lia)];exact w.trans _ _ _ (w.asymm _ _ hb) (all _ _ (by lia) (by lia))
    obtain⟨p',m,y1,y2,y3,y4,y5,y6⟩:=v9 (nrem:=nrem) w (p:=iG p 0 n) a1 (by lia) (by rw [nN]; lia) d1 hl;exact⟨p',m,y1,y2.trans (k6 _ _ _),y3.trans (nN _ _ _),by lia,y5,y6⟩
  ·rw [if_neg h2];have e1:n=1:=by lia
   subst e1;have d1:Dn lt p 1:=fun i j Mz hj=>by
    have:i=j:=by lia
    subst this; exact w.refl _
   obtain⟨p',m,y1,y2,y3,y4,y5,y6⟩:=v9 (nrem:=nrem) w (p:=p) (aT _) (by lia) hs d1 (w.asymm _ _ hb);exact⟨p',m,y1,y2,y3,by lia,y5,y6⟩
theorem LP(w:MT lt){p:Array Nat}{k:Nat}:∀ (f l r:Nat),l<=r->r<=k->r - l<=f->Up lt p k->(∀ i,i < l->lt (gA p k) (gA p i)=false)->(∀ i,r<=i->i < k->lt (gA p k) (gA p i)=true) ->
  ∃ m,jl lt (kR p k f l r)=m/\m<=k/\(∀ i,i < m->lt (gA p k) (gA p i)=false)/\(∀ i,m<=i->i < k->lt (gA p k) (gA p i)=true):=by
 intro f;induction f with
 | zero =>
  intro l r hlr Xw hf up h1 h2;have:l=r:=by lia
  subst this;exact⟨l,rfl,Xw,h1,h2⟩
 | succ f ih =>
  intro l r hlr Xw hf up h1 h2;have e:jl lt (kR p k (f+1) l r)=if l>=r then l else if lt (gA p k) (gA p ((l+r) / 2))=true then jl lt (kR p k f l ((l+r) / 2)) else jl lt (kR p k f ((l+r) / 2+1) r):=by
   show jl lt (if l>=r then xG l else .ask (gA p k) (gA p ((l+r) / 2)) fun c=>if c=true then kR p k f l ((l+r) / 2) else kR p k f ((l+r) / 2+1) r)=_;split
   ·rfl
   ·show jl lt (if lt (gA p k) (gA p ((l+r) / 2))=true then kR p k f l ((l+r) / 2) else kR p k f ((l+r) / 2+1) r)=_;split <;> rfl
  rw [e];by_cases c:l>=r
  ·rw [if_pos c];have:l=r:=by lia
   subst this;exact⟨l,rfl,Xw,h1,h2⟩
  ·rw [if_neg c];by_cases d:lt (gA p k) (gA p ((l+r) / 2))=true
   ·rw [if_pos d];refine ih l ((l+r) / 2) (by lia) (by lia) (by lia) up h1 fun i i1 i2=>?_;cases q:lt (gA p k) (gA p i) with
    | true=>rfl
    | false=>rw [w.trans _ _ _ (up ((l+r) / 2) i i1 i2) q] at d; cases d
   ·rw [if_neg d];refine ih ((l+r) / 2+1) r (by lia) Xw (by lia) up (fun i hi=>?_) h2;exact w.trans _ _ _ (up i ((l+r) / 2) (by lia) (by lia)) (by simpa using d)
theorem Dt{p:Array Nat}{src d:Nat}(hs:src < p.size)(hd:d<=src)(k:Nat):gA (bubble p src d) k=if k=src - d then gA p src else if src - d < k/\k<=src then gA p (k - 1) else gA p k:=by
 rw [Ds,getElem?_bubble hs d hd,Ds p src,Ds p (k - 1),Ds p k];by_cases h1:k=src - d
 ·rw [if_pos h1,if_pos h1]
 ·rw [if_neg h1,if_neg h1];by_cases h2:src - d < k/\k<=src
  ·rw [if_pos h2,if_pos h2]
  ·rw [if_neg h2,if_neg h2]
theorem QB(w:MT lt):∀ (f:Nat) (p:Array Nat) (k:Nat),k+f<=p.size->Up lt p k->∃ p',jl lt (kas_bin f p k)=p'/\p'.Perm p/\p'.size=p.size/\Up lt p' (k+f):=by
 intro f;induction f with
 | zero=>intro p k _ up; exact⟨p,rfl,oi _,rfl,up⟩
 | succ f ih =>
  intro p k hs up;obtain⟨m,e,hm,h1,h2⟩:=LP w k 0 k (cX _) (aT _) (aT _) up (fun i hi=>absurd hi (by lia)) (fun i i1 i2=>absurd i1 (by lia));have up':Up lt (bubble p k (k - m)) (k+1):=by
   intro i j Mz hj;rw [Dt (by lia) (by lia),Dt (by lia) (by lia)];have ek:k - (k - m)=m:=by lia
   rw [ek];by_cases j1:j=m
   ·rw [if_pos j1];by_cases i1:i=m
    ·rw [if_pos i1]; exact w.refl _
    ·rw [if_neg i1,if_neg (by lia)]; exact h1 i (by lia)
   ·rw [if_neg j1];by_cases j2:m < j/\j<=k
    ·rw [if_pos j2];by_cases i1:i=m
     ·rw [if_pos i1]; exact w.asymm _ _ (h2 (j - 1) (by lia) (by lia))
     ·rw [if_neg i1];by_cases i2:m < i/\i<=k
      ·rw [if_pos i2]; exact up _ _ (by lia) (by lia)
      ·rw [if_neg i2]; exact up _ _ (by lia) (by lia)
    ·rw [if_neg j2,if_neg (by lia),if_neg (by lia)]; exact up _ _ Mz (by lia)
  obtain⟨p',z,z1,z2,z3⟩:=ih (bubble p k (k - m)) (k+1) (by rw [bubble_size]; lia) up';refine⟨p',?_,z1.trans (bubble_perm _ _ _),z2.trans (bubble_size _ _ _),by rw [show k+(f+1)=k+1+f by lia]; exact z3⟩;rw [kas_bin,ny,e]; exact z
theorem NT(w:MT lt){n:Nat}(h1:1<=n):∃ p,jl lt (kas_sort n)=p/\p.toList.Perm (e7 n)/\p.size=n/\Up lt p n:=by
 obtain⟨p,m,z,z1,z2,z3,z4,z5⟩:=LQ w (p:=(e7 n).toArray) h1 (by simp);have zs:p.size=n:=by rw [z2]; simp
 have zp:p.toList.Perm (e7 n):=by simpa using z1.toList
 rw [kas_sort,ny,z];show ∃ q,jl lt (if m < n then kas_bin (n - max m 1) p (max m 1) else .ret p)=q/\_;by_cases c:m < n
 ·rw [if_pos c];have em:max m 1=m:=by lia
  rw [em];obtain⟨p',y,y1,y2,y3⟩:=QB w (n - m) p m (by lia) z5;exact⟨p',y,(by simpa using y1.toList:p'.toList.Perm p.toList).trans zp,y2.trans zs,by rw [show n=m+(n - m) by lia]; exact y3⟩
 ·rw [if_neg c];have:m=n:=by lia
  subst this;exact⟨p,rfl,zp,zs,z5⟩
end
end K2
end
section
namespace K2
open PySem PySem.Spec PyProof.Rows L2
open PySem.AutoSeq1 (wpAny_loadPart')
open PySem.MeetsSeq PySem.MeetsSeq2 PySem.MeetsSeq3 PySem.SeqAt
noncomputable def BX(A:eO)(s:aF)(y x:Value)(b:Bool):Prop :=
 ∀ (prog:bU) (w:World) (E:Value->aF->Prop) (Q:Value->aF->Prop),Q (.bool b) s->wpAny (model prog w) A (rP .Lt y x) Q E s
noncomputable def uq(e l:Nat->Bool)(n m:Nat):Nat->Nat->Bool
 | 0,_=>decide (n < m)
 | f+1,i=>if e i=true then uq e l n m f (i+1) else l i
theorem Q8(l b:Addr)(xs ys:Array Value)(n m:Nat)(dd de:Option Addr)(sl sm:Array (Option Value))(e lt:Nat->Bool)(k:Nat) :
  ∀ i:Nat,i<=min xs.size ys.size->min xs.size ys.size - i=k->Meets (Builtin.«list.__eq__.loop» ⟨[.ref l,.ref b,rawInt i,rawInt 0],[]⟩)
   (fun A R s=>s.heap.get? l=some { cls:=.type "list",dict:=dd,data:=.seq xs n,slots:=sl }/\s.heap.get? b=some { cls:=.type "list",dict:=de,data:=.seq ys m,slots:=sm } /\
    (∀ j (h1:j < xs.size) (h2:j < ys.size),EqAt A.in1 s xs[j] ys[j] (e j)/\BX A.in1 s xs[j] ys[j] (lt j)) /\
    R (.ok (.ret (.bool (uq e lt xs.size ys.size k i)))) s):=by
 induction k with
 | zero =>
  intro i hi hk prog w A R s h;obtain⟨hp,g,d,tk,os⟩:=s;obtain⟨hl,hb,he,h⟩:=h
  wp_walk using cx hl,cx hb
  by_cases c:xs.size<=ys.size
  ·have h1:xs[((i:Nat):Int).toNat]?=none:=by simp; lia
   rw [h1]
   wp_walk using cx hl,cx hb
   exact h
  ·have h2:ys[((i:Nat):Int).toNat]?=none:=by simp; lia
   rw [h2];cases q:xs[((i:Nat):Int).toNat]? with
   | none =>
    wp_walk using cx hl,cx hb
    exact h
   | some v =>
    wp_walk using cx hl,cx hb
    exact h
 | succ k ih =>
  intro i hi hk prog w A R s h;obtain⟨hp,g,d,tk,os⟩:=s;obtain⟨hl,hb,he,h⟩:=h
  wp_walk using cx hl,cx hb
  have l1:i < xs.size:=by lia
  have l2:i < ys.size:=by lia
  have h1:xs[((i:Nat):Int).toNat]?=some xs[i]:=by simp [l1]
  have h2:ys[((i:Nat):Int).toNat]?=some ys[i]:=by simp [l2]
  have hc:((i:Int)+1)=((i+1:Nat):Int):=by push_cast; rfl
  rw [h1,h2];refine aQ ((he i l1 l2).1 prog w _ _ ?_);cases q:e i with
  | true =>
   rw [uq,q,if_pos rfl] at h
   wp_walk
   rw [hc];exact⟨rF plain_eq_loop _,rR entry_eq_loop (by
    rw [kD plain_eq_loop _];exact ih (i+1) (by lia) (by lia) prog w A R _ ⟨hl,hb,he,h⟩)⟩
  | false =>
   rw [uq,q,if_neg (by simp)] at h
   wp_walk using cx hl,cx hb
   rw [h1,h2];have Wj:=(he i l1 l2).2 prog w
   wp_walk using Wj
   exact h
theorem Dj(l b:Addr)(xs ys:Array Value)(n m:Nat)(dd de:Option Addr)(sl sm:Array (Option Value))(e lt:Nat->Bool) :
  Meets (Builtin.«list.__lt__» ⟨[.ref l,.ref b],[]⟩)
   (fun A R s=>s.heap.get? l=some { cls:=.type "list",dict:=dd,data:=.seq xs n,slots:=sl }/\s.heap.get? b=some { cls:=.type "list",dict:=de,data:=.seq ys m,slots:=sm } /\
    (∀ j (h1:j < xs.size) (h2:j < ys.size),EqAt A.in1 s xs[j] ys[j] (e j)/\BX A.in1 s xs[j] ys[j] (lt j)) /\
    R (.ok (.ret (.bool (uq e lt xs.size ys.size (min xs.size ys.size) 0)))) s):=by
 intro prog w A R s h;obtain⟨hp,g,d,tk,os⟩:=s;obtain⟨hl,hb,he,h⟩:=h;have f3:=IG
 wp_walk using cx hl,cx hb
 exact⟨rF plain_eq_loop _,rR entry_eq_loop (by
  rw [kD plain_eq_loop _];exact Q8 l b xs ys n m dd de sl sm e lt _ 0 (cX _) rfl prog w A R _ ⟨hl,hb,he,h⟩)⟩
theorem AB(l b:Addr)(xs ys:Array Value)(n m:Nat)(dd de:Option Addr)(sl sm:Array (Option Value))(e lt:Nat->Bool) :
  Meets (Builtin.«tuple.__lt__» ⟨[.ref l,.ref b],[]⟩)
   (fun A R s=>s.heap.get? l=some { cls:=.type "tuple",dict:=dd,data:=.seq xs n,slots:=sl }/\s.heap.get? b=some { cls:=.type "tuple",dict:=de,data:=.seq ys m,slots:=sm } /\
    (∀ j (h1:j < xs.size) (h2:j < ys.size),EqAt A.in1 s xs[j] ys[j] (e j)/\BX A.in1 s xs[j] ys[j] (lt j)) /\
    R (.ok (.ret (.bool (uq e lt xs.size ys.size (min xs.size ys.size) 0)))) s) :=
 .of_wp fun prog w A R s h=>by
  obtain⟨hp,g,d,tk,os⟩:=s;obtain⟨hl,hb,he,h⟩:=h;have f2:=qY;have zl:(xs.toList.zip ys.toList).length=min xs.size ys.size:=by simp
  wp_walk using cx hl,cx hb,wpAny_forIn_list _ (fun rest c s'=>c.1=none/\s'=⟨hp,g,d,tk,os⟩/\∃ i,i<=min xs.size ys.size/\rest=(xs.toList.zip ys.toList).drop i /\
   R (.ok (.ret (.bool (uq e lt xs.size ys.size (min xs.size ys.size - i) i)))) ⟨hp,g,d,tk,os⟩) _
  case turn =>
   rintro⟨y,x⟩ rest c s' ⟨hc,rfl,i,hi,hz,hR⟩;have il:i < min xs.size ys.size:=by
    have:=congrArg dE hz;rw [cT,zl,ag] at this;lia
   have l1:i < xs.size:=by lia
   have l2:i < ys.size:=by lia
   rw [iQ (by rw [zl]; exact il)] at hz;injection hz with Zq OW
   have ey:y=xs[i]/\x=ys[i]:=by simpa using Zq
   obtain⟨rfl,rfl⟩:=ey;obtain⟨k,ek⟩:∃ k,min xs.size ys.size - i=k+1:=⟨min xs.size ys.size - i - 1,by lia⟩;rw [ek,uq] at hR;refine aQ ((he i l1 l2).1 prog w _ _ ?_);cases q:e i with
   | true =>
    rw [q,if_pos rfl] at hR
    wp_walk
    exact⟨rfl,rfl,i+1,by lia,OW,by rw [show min xs.size ys.size - (i+1)=k by lia]; exact hR⟩
   | false =>
    rw [q,if_neg (by simp)] at hR;have Wj:=(he i l1 l2).2 prog w
    wp_walk using Wj
    exact⟨_,rfl,by simpa using hR⟩
  case fin =>
   rintro⟨c1,c2⟩ s' ⟨hc,rfl,i,hi,hz,hR⟩;simp only at hc;subst hc;have il:min xs.size ys.size - i=0:=by
    have:=congrArg dE hz;rw [cT,zl,au] at this;lia
   rw [il,uq] at hR
   wp_walk
   exact⟨_,rfl,by simpa [vJ] using hR⟩
  case h =>
   exact⟨rfl,rfl,0,cX _,rfl,by simpa using h⟩
theorem L9{A:eO}{s:aF}{l b:Addr}{xs ys:Array Value}{e lt:Nat->Bool}(hl:s.heap.IsList l xs)(hb:s.heap.IsList b ys)(hu:A.units < cLine)
  (he:∀ j (h1:j < xs.size) (h2:j < ys.size),EqAt A.in1 s xs[j] ys[j] (e j)/\BX A.in1 s xs[j] ys[j] (lt j)):BX A s (.ref l) (.ref b) (uq e lt xs.size ys.size (min xs.size ys.size) 0):=by
 intro prog w E Q hq;obtain⟨⟨cls,dd,data,sl⟩,ho,hc,n,hd⟩:=id hl;obtain⟨⟨Px,Lc,data2,Ko⟩,Dm,EI,n2,hd2⟩:=id hb;simp only at hc hd EI hd2;subst hc hd EI hd2;exact ze (op:=.Lt) ⟨_,ho,rfl⟩ ⟨_,Dm,rfl⟩ vG Lu (Ka _ _) (Dj l b xs ys n n2 dd Lc sl Ko e lt)
  ⟨ho,Dm,he,(fun x=>nomatch x),hq⟩ hu
theorem Jl{A:eO}{s:aF}{l b:Addr}{xs ys:Array Value}{e lt:Nat->Bool}(hl:s.heap.IsTuple l xs)(hb:s.heap.IsTuple b ys)(hu:A.units < cLine)
  (he:∀ j (h1:j < xs.size) (h2:j < ys.size),EqAt A.in1 s xs[j] ys[j] (e j)/\BX A.in1 s xs[j] ys[j] (lt j)):BX A s (.ref l) (.ref b) (uq e lt xs.size ys.size (min xs.size ys.size) 0):=by
 intro prog w E Q hq;obtain⟨⟨cls,dd,data,sl⟩,ho,hc,n,hd⟩:=id hl;obtain⟨⟨Px,Lc,data2,Ko⟩,Dm,EI,n2,hd2⟩:=id hb;simp only at hc hd EI hd2;subst hc hd EI hd2;exact ze (op:=.Lt) ⟨_,ho,rfl⟩ ⟨_,Dm,rfl⟩ mZ uj (rV _ _) (AB l b xs ys n n2 dd Lc sl Ko e lt)
  ⟨ho,Dm,he,(fun x=>nomatch x),hq⟩ hu
theorem qe(xs ys:List D):∀ (k i:Nat),i<=min xs.length ys.length->min xs.length ys.length - i=k ->
  uq (fun j=>jw (xs.getD j .eK) (ys.getD j .eK)) (fun j=>qx (xs.getD j .eK) (ys.getD j .eK)) xs.length ys.length k i=oA (xs.drop i) (ys.drop i)
 | 0,i,hi,hk=>by
  rw [uq];by_cases c:xs.length<=ys.length
  ·have e1:xs.drop i=[]:=ng (by lia);rw [e1];cases q:ys.drop i with
   | nil =>
    have:=congrArg dE q;rw [cT,au] at this;exact decide_eq_false (by lia)
   | cons y r =>
    have:=congrArg dE q;rw [cT,ag] at this;exact decide_eq_true (by lia)
  ·have e1:ys.drop i=[]:=ng (by lia);rw [e1];cases q:xs.drop i with
   | nil =>
    have:=congrArg dE q;rw [cT,au] at this;exact decide_eq_false (by lia)
   | cons y r=>exact decide_eq_false (by lia)
 | k+1,i,hi,hk=>by
  have l1:i < xs.length:=by lia
  have l2:i < ys.length:=by lia
  rw [uq,iQ l1,iQ l2,qM,qe xs ys k (i+1) (by lia) (by lia)];have g1:xs.getD i .eK=xs[i]:=by rw [eQ,aP l1]; rfl
  have g2:ys.getD i .eK=ys[i]:=by rw [eQ,aP l2]; rfl
  rw [g1,g2]
theorem k7{h:Heap}:∀ {ds:List D} {vs:List Value} {as:List Addr},iN h vs (mU ds) as->∀ j (hj:j < vs.length),∃ bs,Reads h vs[j] (pd (ds.getD j .eK)) bs
 | [],vs,as,r,j,hj=>by cases r; exact absurd hj (IE _)
 | d :: ds,_,_,.cons (v:=v) (vs:=vs) r1 r2,j,hj=>by
  cases j with
  | zero=>exact⟨_,r1⟩
  | succ j=>exact k7 r2 j (by simpa using hj)
theorem readsAll_len{h:Heap}:∀ {ds:List D} {vs:List Value} {as:List Addr},iN h vs (mU ds) as->vs.length=ds.length
 | [],_,_,r=>by cases r; rfl
 | d :: ds,_,_,.cons r1 r2=>by rw [ag,ag,readsAll_len r2]
theorem qI:∀ {ds:List D},rj ds=true->∀ j,nr (ds.getD j .eK)=true
 | [],_,j=>by rw [List.getD_nil]; rfl
 | d :: ds,h,0=>by
  have h:(nr d&&rj ds)=true:=h;rw [aZ] at h; simpa using h.1
 | d :: ds,h,j+1=>by
  have h:(nr d&&rj ds)=true:=h;rw [aZ] at h; simpa using qI h.2 j
theorem mD:∀ (ds:List D) (j:Nat),(pd (ds.getD j .eK)).depth<=cD (mU ds)
 | [],j=>by rw [List.getD_nil]; exact aT _
 | d :: ds,0=>by
  show (pd d).depth<=cD (pd d :: mU ds);simp only [cD]; lia
 | d :: ds,j+1=>by
  have:=mD ds j;show (pd (ds.getD j .eK)).depth<=cD (pd d :: mU ds);simp only [cD]; lia
theorem sN:∀ {l:List oX} {ds:List D},gk l ds=true->∀ j,j < ds.length->∃ s∈l,du s (ds.getD j .eK)=true/\l[j]?=some s
 | [],[],_,j,hj=>absurd hj (IE _)
 | [],_ :: _,h,_,_=>by cases h
 | _ :: _,[],h,_,_=>by cases h
 | s :: l,d :: ds,h,0,_=>by
  have h:(du s d&&gk l ds)=true:=h;rw [aZ] at h;exact⟨s,by simp,by simpa using h.1,by simp⟩
 | s :: l,d :: ds,h,j+1,hj=>by
  have h:(du s d&&gk l ds)=true:=h;rw [aZ] at h;obtain⟨s',h1,h2,h3⟩:=sN h.2 j (by simpa using hj);exact⟨s',aU _ h1,by simpa using h2,by simpa using h3⟩
theorem sO:∀ {s:oX} {ds:List D},iL s ds=true->∀ j,j < ds.length->du s (ds.getD j .eK)=true
 | s,[],_,j,hj=>absurd hj (IE _)
 | s,d :: ds,h,0,_=>by
  have h:(du s d&&iL s ds)=true:=h;rw [aZ] at h; simpa using h.1
 | s,d :: ds,h,j+1,hj=>by
  have h:(du s d&&iL s ds)=true:=h;rw [aZ] at h; simpa using sO h.2 j (by simpa using hj)
theorem E5{A:eO}{s:aF}{xs ys:List D}{vs ws:Array Value}{as bs:List Addr}(r1:iN s.heap vs.toList (mU xs) as)(r2:iN s.heap ws.toList (mU ys) bs)(n1:rj xs=true)(n2:rj ys=true)
  (hu:A.units+cD (mU xs) < cLine) (j:Nat) (h1:j < vs.size) (h2:j < ws.size):EqAt A s vs[j] ws[j] (jw (xs.getD j .eK) (ys.getD j .eK)):=by
 obtain⟨WZ,q1⟩:=k7 r1 j (by simpa using h1);obtain⟨WW,q2⟩:=k7 r2 j (by simpa using h2);have m1:=qI n1 j;have m2:=qI n2 j;have dp:=mD xs j;have:=eqAt_reads (pd (xs.getD j .eK)) (pd (ys.getD j .eK)) A s _ _ _ _ q1 q2 (lg _ m1) (lg _ m2) (by lia);rw [ve _ _ m1 m2] at this;simpa using this
theorem A6:∀ (n:Nat) (sh:oX) (a b:D) (A:eO) (s:aF) (u v:Value) (as bs:List Addr),(pd a).depth<=n->du sh a=true->du sh b=true->nr a=true->nr b=true->Reads s.heap u (pd a) as->Reads s.heap v (pd b) bs->A.units+n < cLine->BX A s u v (qx a b):=by
 intro n;induction n using Nat.strongRecOn with
 | _ n ih =>
 intro sh a b A s u v as bs hn h1 h2 n1 n2 r1 r2 hu;cases sh with
 | int =>
  first | obtain⟨_,rfl⟩:=dP h1 | obtain⟨_,rfl⟩:=dN h1 | obtain⟨_,rfl⟩:=dO h1
  first | obtain⟨_,rfl⟩:=dP h2 | obtain⟨_,rfl⟩:=dN h2 | obtain⟨_,rfl⟩:=dO h2
  cases r1; cases r2;intro prog w E Q hq;exact HT.AW A s _ _ _ _ prog w E Q hq
 | tup l =>
  first | obtain⟨_,rfl⟩:=dP h1 | obtain⟨_,rfl⟩:=dN h1 | obtain⟨_,rfl⟩:=dO h1
  first | obtain⟨_,rfl⟩:=dP h2 | obtain⟨_,rfl⟩:=dN h2 | obtain⟨_,rfl⟩:=dO h2
  rename_i xs ys;have n1:rj xs=true:=n1;have n2:rj ys=true:=n2;cases r1 with
  | tuple k1 k2 k3 k4 =>
   cases r2 with
   | tuple m1 m2 m3 m4 =>
    rename_i p o vs c p' o' ws c';have hd:(pd (.tup xs)).depth=cD (mU xs)+1:=rfl;obtain⟨n',rfl⟩:∃ n',n=n'+1:=⟨n - 1,by lia⟩;have z1:=readsAll_len k4;have z2:=readsAll_len m4;have e1:vs.size=xs.length:=by simpa using z1
    have e2:ws.size=ys.length:=by simpa using z2
    have base:=Jl (A:=A) (s:=s) (e:=fun j=>jw (xs.getD j .eK) (ys.getD j .eK)) (lt:=fun j=>qx (xs.getD j .eK) (ys.getD j .eK)) ⟨_,k1,k2,_,k3⟩ ⟨_,m1,m2,_,m3⟩ (by lia) (fun j j1 j2=>by
     refine⟨E5 k4 m4 n1 n2 (by show A.units+1+_ < _; lia) j j1 j2,?_⟩;obtain⟨WZ,q1⟩:=k7 k4 j (by simpa using j1);obtain⟨WW,q2⟩:=k7 m4 j (by simpa using j2);obtain⟨sj,hsj,g1,g2⟩:=sN (l:=l) (ds:=xs) h1 j (by lia);obtain⟨sj',ZD,g1',WJ⟩:=sN (l:=l) (ds:=ys) h2 j (by lia);rw [g2] at WJ; cases WJ;have dp:=mD xs j;have:=ih n' (by lia) sj (xs.getD j .eK) (ys.getD j .eK) A.in1 s _ _ _ _ (by lia) g1 g1' (qI n1 j) (qI n2 j) q1 q2 (by show A.units+1+n' < cLine; lia);simpa using this)
    have fin:=qe xs ys (min xs.length ys.length) 0 (cX _) rfl;rw [e1,e2,fin] at base;exact base
 | lst l =>
  first | obtain⟨_,rfl⟩:=dP h1 | obtain⟨_,rfl⟩:=dN h1 | obtain⟨_,rfl⟩:=dO h1
  first | obtain⟨_,rfl⟩:=dP h2 | obtain⟨_,rfl⟩:=dN h2 | obtain⟨_,rfl⟩:=dO h2
  rename_i xs ys;have n1:rj xs=true:=n1;have n2:rj ys=true:=n2;cases r1 with
  | list k1 k2 k3 k4 =>
   cases r2 with
   | list m1 m2 m3 m4 =>
    rename_i p o vs c p' WZ o' ws c' WW;have hd:(pd (.fJ xs)).depth=cD (mU xs)+1:=rfl;obtain⟨n',rfl⟩:∃ n',n=n'+1:=⟨n - 1,by lia⟩;have z1:=readsAll_len k4;have z2:=readsAll_len m4;have e1:vs.size=xs.length:=by simpa using z1
    have e2:ws.size=ys.length:=by simpa using z2
    have base:=L9 (A:=A) (s:=s) (e:=fun j=>jw (xs.getD j .eK) (ys.getD j .eK)) (lt:=fun j=>qx (xs.getD j .eK) (ys.getD j .eK)) ⟨_,k1,k2,_,k3⟩ ⟨_,m1,m2,_,m3⟩ (by lia) (fun j j1 j2=>by
     refine⟨E5 k4 m4 n1 n2 (by show A.units+1+_ < _; lia) j j1 j2,?_⟩;obtain⟨WZ,q1⟩:=k7 k4 j (by simpa using j1);obtain⟨WW,q2⟩:=k7 m4 j (by simpa using j2);have dp:=mD xs j;have:=ih n' (by lia) l (xs.getD j .eK) (ys.getD j .eK) A.in1 s _ _ _ _ (by lia) (sO (s:=l) (ds:=xs) h1 j (by lia)) (sO (s:=l) (ds:=ys) h2 j (by lia)) (qI n1 j) (qI n2 j) q1 q2 (by show A.units+1+n' < cLine; lia);simpa using this)
    have fin:=qe xs ys (min xs.length ys.length) 0 (cX _) rfl;rw [e1,e2,fin] at base;exact base
end K2
end
section
namespace K2
open PySem PySem.Spec PyProof.Rows L2 PySem.W
section
variable {prog:bU} {w:World} {A:eO} {E:Value->aF->Prop} {s:aF}
theorem NP {at':Addr} {bO:List Value} {n:Nat} {P:PySem.Fin->aF->Prop} (Jw:s.heap.get? at'=some (Aj "list" bO.toArray n)) (zw:bO.length < 2)
  (done:P (.done (.ret .none)) { s with heap:=sortedHeap s.heap at' bO bO.toArray }):wpAny (model prog w) A (Builtin.«list.sort» ⟨[.ref at'],[]⟩) P E s:=by
 rw [list_sort_plain];have lt':at' < s.heap.objs.size:=bc Jw;refine aQ (listItems_at Jw rfl (aQ (listUpdate_at Jw rfl ?_)));obtain⟨c,hc⟩:∃ c,(s.heap.update at' (jT fun _=>#[])).get? at'=some (Aj "list" #[] c):=⟨_,get?_update_seq Jw (fun _=>#[])⟩;refine aQ (seqEpoch_at hc rfl (aQ (wpAny_newTuple (aQ (wpAny_newList (lE ?_))))));have h6:(((s.heap.update at' (jT fun _=>#[])).push (Aj "tuple" bO.toArray 0)).push (Aj "list" #[] 0)).get? at'=some (Aj "list" #[] c):=by
  rw [Heap.get?_push_ne _ _ _ (by rw [size_push',FI]; exact bS (DS lt')),Heap.get?_push_ne _ _ _ (by rw [FI]; exact bS lt')];exact hc
 show wpAny (model prog w) A _ P E { s with heap:=((s.heap.update at' (jT fun _=>#[])).push (Aj "tuple" bO.toArray 0)).push (Aj "list" #[] 0) };dsimp only;have sz2:bO.toArray.size < 2:=by simpa using zw
 rw [if_pos sz2,if_pos sz2];refine aQ (bM ?_);rw [StateT.run_pure];refine aQ (bM ?_);dsimp only;have es:(bO.toArray.zip bO.toArray).map (·.2)=bO.toArray:=by
  apply Array.toList_inj.mp;simp [List.map_snd_zip]
 refine aQ (seqEpoch_at h6 rfl (aQ (listUpdate_at h6 rfl ?_ (hsz2:=by rw [show (arrOf (SortSt.mk' general' (bO.toArray.zip bO.toArray) #[] 7 none)).map (·.2)=bO.toArray from es,dm]; simp; lia))));simp only [bne_self_eq_false,ai,if_false];refine bM ?_;rw [show (arrOf (SortSt.mk' general' (bO.toArray.zip bO.toArray) #[] 7 none)).map (·.2)=bO.toArray from es];exact done
theorem IM{l:Addr}{bO:List Value}{Q:Value->aF->Prop}(hl:s.heap.IsList l bO.toArray)(zw:bO.length < 2)
  (done:Q (.ref (s.heap.objs.size+1)) { s with heap:=sortedAll s.heap bO bO.toArray }):wpAny (model prog w) A (call (.builtin "sorted") [.ref l]) Q E s:=by
 refine Calls.call_function_entry kind_sorted plain_sorted entry_sorted (args_sorted1 _) ?_;unfold Builtin.«sorted»;refine aQ (m:=checkCount "sorted" 1 1 _) (bM (aQ (collect_list hl (aQ (wpAny_newList ?_)))));have e1:((s.heap.push (Aj "list" #[] 0)).update s.heap.objs.size (jT (·++bO.toArray))).objs.size=s.heap.objs.size+1:=by rw [FI,size_push']
 have e2:(((s.heap.push (Aj "list" #[] 0)).update s.heap.objs.size (jT (·++bO.toArray))).push (Aj "list" bO.toArray 0)).get? (s.heap.objs.size+1)=some (Aj "list" bO.toArray 0):=by
  rw [<-e1]; exact cf _ rfl
 show wpAny _ _ _ _ _ { s with heap:=((s.heap.push (Aj "list" #[] 0)).update s.heap.objs.size (jT (·++bO.toArray))).push (Aj "list" bO.toArray 0) };rw [e1];refine aQ (lE (wpAny_call_entry slot_list_sort ⟨_,e2,rfl⟩ entry_list_sort (NP e2 zw ⟨_,rfl,?_⟩) (args_list_sort _)));exact bM ⟨_,rfl,done⟩
end
section
open PySem.SeqAt
noncomputable def PO(A:eO)(s:aF)(y x:Value)(b:Bool):Prop :=
 ∀ (prog:bU) (w:World) (E:Value->aF->Prop) (Q:Bool->aF->Prop),Q b s->wpAny (model prog w) A (oneLt' true y x) Q E s
theorem I0{A:eO}{s:aF}{l b:Addr}{xs ys:Array Value}{e lt:Nat->Bool}(hl:s.heap.IsList l xs)(hb:s.heap.IsList b ys)(hu:A.units < cLine)
  (he:∀ j (h1:j < xs.size) (h2:j < ys.size),EqAt A.in1 s xs[j] ys[j] (e j)/\BX A.in1 s xs[j] ys[j] (lt j)):PO A s (.ref l) (.ref b) (uq e lt xs.size ys.size (min xs.size ys.size) 0):=by
 intro prog w E Q hq;obtain⟨⟨cls,dd,data,sl⟩,ho,hc,n,hd⟩:=id hl;obtain⟨⟨Px,Lc,data2,Ko⟩,Dm,EI,n2,hd2⟩:=id hb;simp only at hc hd EI hd2;subst hc hd EI hd2;rw [oneLt'_eq];simp only [if_true];refine aQ (wpAny_cRoomFor hu (aQ (J2 (T:="list") ⟨_,ho,rfl⟩ vG ?_)));exact B3 vG ⟨_,ho,rfl⟩ Lu (Ka _ _) (Dj l b xs ys n n2 dd Lc sl Ko e lt) ⟨ho,Dm,he,vE hq⟩
theorem GG{A:eO}{s:aF}{l b:Addr}{xs ys:Array Value}{e lt:Nat->Bool}(hl:s.heap.IsTuple l xs)(hb:s.heap.IsTuple b ys)(hu:A.units < cLine)
  (he:∀ j (h1:j < xs.size) (h2:j < ys.size),EqAt A.in1 s xs[j] ys[j] (e j)/\BX A.in1 s xs[j] ys[j] (lt j)):PO A s (.ref l) (.ref b) (uq e lt xs.size ys.size (min xs.size ys.size) 0):=by
 intro prog w E Q hq;obtain⟨⟨cls,dd,data,sl⟩,ho,hc,n,hd⟩:=id hl;obtain⟨⟨Px,Lc,data2,Ko⟩,Dm,EI,n2,hd2⟩:=id hb;simp only at hc hd EI hd2;subst hc hd EI hd2;rw [oneLt'_eq];simp only [if_true];refine aQ (wpAny_cRoomFor hu (aQ (J2 (T:="tuple") ⟨_,ho,rfl⟩ mZ ?_)));exact B3 mZ ⟨_,ho,rfl⟩ uj (rV _ _) (AB l b xs ys n n2 dd Lc sl Ko e lt) ⟨ho,Dm,he,vE hq⟩
theorem GZ{n:Nat}{A:eO}{s:aF}{xs ys:List D}{vs ws:Array Value}{as bs:List Addr}(r1:iN s.heap vs.toList (mU xs) as)(r2:iN s.heap ws.toList (mU ys) bs)(n1:rj xs=true)(n2:rj ys=true)(hd:cD (mU xs)<=n)
  (hu:A.units+n < cLine) (hs:∀ j,j < xs.length->j < ys.length->∃ sh,du sh (xs.getD j .eK)=true/\du sh (ys.getD j .eK)=true) (j:Nat) (h1:j < vs.size) (h2:j < ws.size) :
  EqAt A s vs[j] ws[j] (jw (xs.getD j .eK) (ys.getD j .eK))/\BX A s vs[j] ws[j] (qx (xs.getD j .eK) (ys.getD j .eK)):=by
 have z1:=readsAll_len r1;have z2:=readsAll_len r2;have e1:vs.size=xs.length:=by simpa using z1
 have e2:ws.size=ys.length:=by simpa using z2
 refine⟨E5 r1 r2 n1 n2 (by lia) j h1 h2,?_⟩;obtain⟨WZ,q1⟩:=k7 r1 j (by simpa using h1);obtain⟨WW,q2⟩:=k7 r2 j (by simpa using h2);obtain⟨sh,g1,g2⟩:=hs j (by lia) (by lia);have dp:=mD xs j;have:=A6 n sh (xs.getD j .eK) (ys.getD j .eK) A s _ _ _ _ (by lia) g1 g2 (qI n1 j) (qI n2 j) q1 q2 hu;simpa using this
theorem yS{n:Nat}{sh:oX}{a b:D}{A:eO}{s:aF}{u v:Value}{as bs:List Addr}(hn:(pd a).depth<=n)(h1:du sh a=true)(h2:du sh b=true)(n1:nr a=true)(n2:nr b=true)(r1:Reads s.heap u (pd a) as)(r2:Reads s.heap v (pd b) bs)
  (hu:A.units+n < cLine):PO A s u v (qx a b):=by
 cases sh with
 | int =>
  first | obtain⟨_,rfl⟩:=dP h1 | obtain⟨_,rfl⟩:=dN h1 | obtain⟨_,rfl⟩:=dO h1
  first | obtain⟨_,rfl⟩:=dP h2 | obtain⟨_,rfl⟩:=dN h2 | obtain⟨_,rfl⟩:=dO h2
  cases r1; cases r2;intro prog w E Q hq;exact oneLt_int hq
 | tup l =>
  first | obtain⟨_,rfl⟩:=dP h1 | obtain⟨_,rfl⟩:=dN h1 | obtain⟨_,rfl⟩:=dO h1
  first | obtain⟨_,rfl⟩:=dP h2 | obtain⟨_,rfl⟩:=dN h2 | obtain⟨_,rfl⟩:=dO h2
  rename_i xs ys;have n1:rj xs=true:=n1;have n2:rj ys=true:=n2;cases r1 with
  | tuple k1 k2 k3 k4 =>
   cases r2 with
   | tuple m1 m2 m3 m4 =>
    rename_i p o vs c p' o' ws c';have hd:(pd (.tup xs)).depth=cD (mU xs)+1:=rfl;obtain⟨n',rfl⟩:∃ n',n=n'+1:=⟨n - 1,by lia⟩;have z1:=readsAll_len k4;have z2:=readsAll_len m4;have e1:vs.size=xs.length:=by simpa using z1
    have e2:ws.size=ys.length:=by simpa using z2
    have base:=GG (A:=A) (s:=s) ⟨_,k1,k2,_,k3⟩ ⟨_,m1,m2,_,m3⟩ (by lia) (GZ (A:=A.in1) (n:=n') k4 m4 n1 n2 (by lia) (by show A.units+1+n' < cLine; lia) fun j j1 j2=>by
     obtain⟨sj,hsj,g1,g2⟩:=sN (l:=l) (ds:=xs) h1 j j1;obtain⟨sj',ZD,g1',WJ⟩:=sN (l:=l) (ds:=ys) h2 j j2;rw [g2] at WJ; cases WJ;exact⟨sj,g1,g1'⟩)
    have fin:=qe xs ys (min xs.length ys.length) 0 (cX _) rfl;rw [e1,e2,fin] at base;exact base
 | lst l =>
  first | obtain⟨_,rfl⟩:=dP h1 | obtain⟨_,rfl⟩:=dN h1 | obtain⟨_,rfl⟩:=dO h1
  first | obtain⟨_,rfl⟩:=dP h2 | obtain⟨_,rfl⟩:=dN h2 | obtain⟨_,rfl⟩:=dO h2
  rename_i xs ys;have n1:rj xs=true:=n1;have n2:rj ys=true:=n2;cases r1 with
  | list k1 k2 k3 k4 =>
   cases r2 with
   | list m1 m2 m3 m4 =>
    rename_i p o vs c p' WZ o' ws c' WW;have hd:(pd (.fJ xs)).depth=cD (mU xs)+1:=rfl;obtain⟨n',rfl⟩:∃ n',n=n'+1:=⟨n - 1,by lia⟩;have z1:=readsAll_len k4;have z2:=readsAll_len m4;have e1:vs.size=xs.length:=by simpa using z1
    have e2:ws.size=ys.length:=by simpa using z2
    have base:=I0 (A:=A) (s:=s) ⟨_,k1,k2,_,k3⟩ ⟨_,m1,m2,_,m3⟩ (by lia) (GZ (A:=A.in1) (n:=n') k4 m4 n1 n2 (by lia) (by show A.units+1+n' < cLine; lia) fun j j1 j2=>⟨l,sO (s:=l) (ds:=xs) h1 j j1,sO (s:=l) (ds:=ys) h2 j j2⟩);have fin:=qe xs ys (min xs.length ys.length) 0 (cX _) rfl;rw [e1,e2,fin] at base;exact base
theorem EB{prog:bU}{w:World}{A:eO}{s:aF}{b fin:Bool}{Q:Bool->aF->Prop}{n:Nat}(hu:A.units+n < cLine):∀ (l:List oX) (xs ys:List D) (vs ws:List Value) (as bs:List Addr) (i:Nat),gk l xs=true->gk l ys=true->rj xs=true->rj ys=true ->
  iN s.heap vs (mU xs) as->iN s.heap ws (mU ys) bs->cD (mU xs)<=n->fin=false->Q (oA xs ys) s->KatLex prog w A b fin Q (vs.zip ws) i s:=by
 intro l xs;induction xs generalizing l with
 | nil =>
  intro ys vs ws as bs i h1 h2 n1 n2 r1 r2 hd hf hq;cases r1;cases l with
  | nil =>
   cases ys with
   | nil=>cases r2; subst hf; exact hq
   | cons _ _=>cases h2
  | cons _ _=>cases h1
 | cons x xs ih =>
  intro ys vs ws as bs i h1 h2 n1 n2 r1 r2 hd hf hq;cases l with
  | nil=>cases h1
  | cons sh l =>
  cases ys with
  | nil=>cases h2
  | cons y ys =>
  cases r1 with
  | @cons v vs _ _ _ _ a1 a2 =>
  cases r2 with
  | @cons u ws _ _ _ _ b1 b2 =>
  have h1:(du sh x&&gk l xs)=true:=h1;have h2:(du sh y&&gk l ys)=true:=h2;have n1:(nr x&&rj xs)=true:=n1;have n2:(nr y&&rj ys)=true:=n2;rw [aZ] at h1 h2 n1 n2;have Wx:(pd x).depth<=n/\cD (mU xs)<=n:=by
   have hd:cD (pd x :: mU xs)<=n:=hd;simp only [cD] at hd;lia
  show KatLex prog w A b fin Q ((v,u) :: vs.zip ws) i s;have eq:=eqAt_reads (pd x) (pd y) A s _ _ _ _ a1 b1 (lg _ n1.1) (lg _ n2.1) (by lia);rw [ve _ _ n1.1 n2.1] at eq;refine kat_cons (eq prog w _ _ ?_);rw [qM] at hq;cases q:jw x y with
  | true =>
   rw [q,if_pos rfl] at hq;exact kat_yes (ih l ys vs ws _ _ (i+1) h1.2 h2.2 n1.2 n2.2 a2 b2 Wx.2 hf hq)
  | false =>
   rw [q,if_neg (by simp)] at hq;refine kat_no ?_;cases c:(b&&i == 0) with
   | true=>exact yS Wx.1 h1.1 h2.1 n1.1 n2.1 a1 b1 hu prog w _ Q hq
   | false=>exact kat_one v u (A6 n sh x y A s _ _ _ _ Wx.1 h1.1 h2.1 n1.1 n2.1 a1 b1 hu prog w _ _ hq)
end
noncomputable def mI{α:Type}(n:Nat)(P:α->Prop):KasT α->Prop
 | .ret a=>P a
 | .ask i j k=>i < n/\j < n/\∀ b,mI n P (k b)
theorem mI.bind{α β:Type}{n:Nat}{P:α->Prop}{P':β->Prop}{f:α->KasT β}:∀ {t:KasT α},mI n P t->(∀ a,P a->mI n P' (f a))->mI n P' (t.bind f)
 | .ret a,q,h=>h a q
 | .ask i j k,⟨q1,q2,q3⟩,h=>⟨q1,q2,fun b=>mI.bind (q3 b) h⟩
theorem GX{α:Type}{n:Nat}{lt:Nat->Nat->Bool}{cmp:Nat->Nat->(Bool->aF->Prop)->aF->Prop}{s:aF}{Q:α->aF->Prop}(hc:∀ i j,i < n->j < n->∀ C:Bool->aF->Prop,C (lt i j) s->cmp i j C s) :
  ∀ (t:KasT α),mI n (fun _=>True) t->Q (jl lt t) s->t.kasWp cmp Q s
 | .ret a,_,q=>q
 | .ask i j k,⟨h1,h2,h3⟩,q=>hc i j h1 h2 _ (GX hc (k (lt i j)) (h3 _) q)
noncomputable def Bd(n:Nat)(p:Array Nat):Prop:=0 < n/\∀ x∈p,x < n
theorem Bd.at{n:Nat}{p:Array Nat}(h:Bd n p)(k:Nat):p.getD k 0 < n:=by
 by_cases hk:k < p.size
 ·have:p.getD k 0=p[k]:=by simp [Kg,hk]
  rw [this]; exact h.2 _ (Array.getElem_mem hk)
 ·have:p.getD k 0=0:=by simp [Kg,hk]
  rw [this]; exact h.1
theorem Bd.perm{n:Nat}{p q:Array Nat}(h:Bd n p)(hp:q.Perm p):Bd n q:=⟨h.1,fun x hx=>h.2 x (hp.mem_iff.mp hx)⟩
theorem Fi{n:Nat}{p:Array Nat}(h:Bd n p):∀ (f k:Nat),mI n (fun _=>True) (rQ p f k)
 | 0,k=>trivial
 | f+1,k=>⟨h.at _,h.at _,fun b=>by
  show mI n _ (if b=true then xG k else rQ p f (k+1));split
  ·trivial
  ·exact Fi h f (k+1)⟩
theorem xh{n:Nat}:∀ (f:Nat) (p:Array Nat) (k q:Nat),Bd n p->mI n (fun r=>Bd n r.1) (mJ f p k q)
 | 0,p,k,q,h=>h
 | f+1,p,k,q,h=>⟨h.at _,h.at _,fun b=>by
  show mI n _ (if b=true then (if q > 0 then mJ f (iG p (k - (q+1)) k) (k+1) 0 else mJ f p (k+1) 0) else .ask (p.getD (k - 1) 0) (p.getD k 0) fun d=>if d=true then .ret (p,k,q) else mJ f p (k+1) (q+1));split
  ·split
   ·exact xh f _ _ _ (h.perm (k6 _ _ _))
   ·exact xh f _ _ _ h
  ·refine⟨h.at _,h.at _,fun d=>?_⟩;show mI n _ (if d=true then xG (p,k,q) else mJ f p (k+1) (q+1));split
   ·exact h
   ·exact xh f _ _ _ h⟩
theorem HW{n:Nat}{p:Array Nat}(h:Bd n p)(k m:Nat):mI n (fun r=>Bd n r.2) (Nh k m p) :=
 mI.bind (Fi (h.perm (k6 _ _ _)) _ _) fun _ _=>h.perm (k6 _ _ _)
theorem xg{n:Nat}{p:Array Nat}(h:Bd n p)(k m:Nat):mI n (fun r=>Bd n r.2) (As k m p) :=
 mI.bind (xh _ _ _ _ h) fun r hr=>by
  split
  ·exact HW (hr.perm (k6 _ _ _)) _ _
  ·exact HW hr _ _
theorem MR{n:Nat}{p:Array Nat}(h:Bd n p)(m:Nat):mI n (fun r=>Bd n r.2) (kas_count m p) :=
 mI.bind (Fi h _ _) fun k _=>by
  split
  ·exact h
  ·split
   ·refine⟨h.at _,h.at _,fun b=>?_⟩;show mI n _ (if b=true then xG (k,p) else As k m (iG p 0 k));split
    ·exact h
    ·exact xg (h.perm (k6 _ _ _)) _ _
   ·exact xg h _ _
theorem ym{n:Nat}{p:Array Nat}(h:Bd n p)(k:Nat):∀ (f l r:Nat),mI n (fun _=>True) (kR p k f l r)
 | 0,l,r=>trivial
 | f+1,l,r=>by
  show mI n _ (if l>=r then xG l else .ask (p.getD k 0) (p.getD ((l+r) / 2) 0) fun c=>if c=true then kR p k f l ((l+r) / 2) else kR p k f ((l+r) / 2+1) r);split
  ·trivial
  ·refine⟨h.at _,h.at _,fun b=>?_⟩;show mI n _ (if b=true then kR p k f l ((l+r) / 2) else kR p k f ((l+r) / 2+1) r);split
   ·exact ym h k f _ _
   ·exact ym h k f _ _
theorem Ll{n:Nat}:∀ (f:Nat) (p:Array Nat) (k:Nat),Bd n p->mI n (fun _=>True) (kas_bin f p k)
 | 0,p,k,h=>trivial
 | f+1,p,k,h=>mI.bind (ym h k _ _ _) fun l _=>Ll f _ _ (h.perm (bubble_perm _ _ _))
theorem PI{n:Nat}(h:0 < n):mI n (fun _=>True) (kas_sort n) :=
 mI.bind (MR ⟨h,fun x hx=>by simpa using hx⟩ n) fun r hr=>by
  split
  ·exact Ll _ _ _ hr
  ·trivial
end K2
end
section
namespace K2
open PySem PySem.Spec PyProof.Rows L2 PySem.W
mutual
theorem yF{h h':Heap}(hk:∀ b o vs n,o.data=.seq vs n->h.get? b=some o->h'.get? b=some o):∀ (d:D) {v:Value} {as:List Addr},nr d=true->Reads h v (pd d) as->Reads h' v (pd d) as
 | .eK,_,_,_,r=>by cases r; exact .none
 | .bl b,_,_,_,r=>by cases r; exact .bool b
 | .int i,_,_,_,r=>by cases r; exact .int i _
 | .str x,_,_,_,r=>by cases r; exact .str x _
 | .tup ds,_,_,n,r=>by
  cases r with
  | tuple h1 h2 h3 h4=>exact .tuple (hk _ _ _ _ h3 h1) h2 h3 (nO hk ds n h4)
 | .fJ ds,_,_,n,r=>by
  cases r with
  | list h1 h2 h3 h4=>exact .list (hk _ _ _ _ h3 h1) h2 h3 (nO hk ds n h4)
 | .yE _,_,_,n,_=>by cases n
 | .ref _,_,_,n,_=>by cases n
 | .exc _,_,_,n,_=>by cases n
theorem nO{h h':Heap}(hk:∀ b o vs n,o.data=.seq vs n->h.get? b=some o->h'.get? b=some o):∀ (ds:List D) {vs:List Value} {as:List Addr},rj ds=true->iN h vs (mU ds) as->iN h' vs (mU ds) as
 | [],_,_,_,r=>by cases r; exact .nil
 | d :: ds,_,_,n,r=>by
  have n:(nr d&&rj ds)=true:=n;rw [aZ] at n;cases r with
  | cons r1 r2=>exact .cons (yF hk d n.1 r1) (nO hk ds n.2 r2)
end
mutual
theorem IP(G:Gp):∀ (sh:oX) (d:D) (n:Nat),du sh d=true->Sa sh<=n->Sn G n d d
 | .int,.int i,n,_,_=>.int i
 | .tup l,.tup ds,n,h,hn=>by
  have hn:Ph l+1<=n:=hn;obtain⟨m,rfl⟩:∃ m,n=m+1:=⟨n - 1,by lia⟩;exact Kl G l ds m h (by lia)
 | .lst s,.fJ ds,n,h,hn=>by
  have hn:Sa s+1<=n:=hn;obtain⟨m,rfl⟩:∃ m,n=m+1:=⟨n - 1,by lia⟩;exact Km G s ds m h (by lia)
theorem Kl(G:Gp):∀ (l:List oX) (ds:List D) (m:Nat),gk l ds=true->Ph l<=m->Sn G (m+1) (.tup ds) (.tup ds)
 | [],[],m,_,_=>.Gf
 | s :: l,d :: ds,m,h,hm=>by
  have h:(du s d&&gk l ds)=true:=h;have hm:max (Sa s) (Ph l)<=m:=hm;rw [aZ] at h;exact .qZ (IP G s d m h.1 (by lia)) (Kl G l ds m h.2 (by lia))
theorem Km(G:Gp):∀ (s:oX) (ds:List D) (m:Nat),iL s ds=true->Sa s<=m->Sn G (m+1) (.fJ ds) (.fJ ds)
 | s,[],m,_,_=>.N0
 | s,d :: ds,m,h,hm=>by
  have h:(du s d&&iL s ds)=true:=h;rw [aZ] at h;exact .Gz (IP G s d m h.1 hm) (Km G s ds m h.2 hm)
end
theorem getD_at{α:Type}(xs:List α)(d:α){i:Nat}(h:i < xs.length):xs.getD i d=xs[i]:=by
 rw [eQ,aP h]; rfl
theorem A2{α:Type}(xs:List α)(d:α):(e7 xs.length).map (fun i=>xs.getD i d)=xs:=by
 refine List.ext_getElem (by simp) fun i h1 h2=>?_;rw [dI,rH];exact getD_at _ _ h2
theorem Ge{h:Heap}{s1:oX}{l:List oX}:∀ (zs:List D) (vs:List Value),(∀ z∈zs,du (.tup (s1 :: l)) z=true)->(∀ i,i < vs.length->∃ as,Reads h (vs.getD i .none) (pd (zs.getD i .eK)) as)->vs.length=zs.length ->
  ∃ fs,KatTups h vs fs/\fs.length=vs.length/\∀ f∈fs,∃ d as,du s1 d=true/\Reads h f (pd d) as:=by
 intro zs;induction zs with
 | nil =>
  intro vs _ _ h;have:vs=[]:=List.length_eq_zero_iff.mp h;subst this;exact⟨[],trivial,rfl,fun _ h=>by cases h⟩
 | cons z zs ih =>
 intro vs hs hr hl;cases vs with
 | nil=>cases hl
 | cons v vs =>
  obtain⟨fs,h1,h2,h3⟩:=ih vs (fun z hz=>hs z (aU _ hz)) (fun i hi=>by
   obtain⟨as,r⟩:=hr (i+1) (by simpa using hi);exact⟨as,by simpa using r⟩) (by simpa using hl)
  obtain⟨as,r⟩:=hr 0 (by simp);have hz:=hs z (by simp);simp only [List.getD_cons_zero] at r;cases z <;> first | (cases hz; done) | skip
  rename_i ds;cases ds with
  | nil=>cases hz
  | cons d ds =>
   have hz:(du s1 d&&gk l ds)=true:=hz;rw [aZ] at hz;cases r with
   | tuple k1 k2 k3 k4 =>
    rename_i p o ws c;have k5:iN h ws.toList (pd d :: mU ds) as:=k4;cases q:ws.toList with
    | nil=>rw [q] at k5; cases k5
    | cons f rest =>
     rw [q] at k5;cases k5 with
     | cons r1 r2 =>
      have hf:ws[0]?=some f:=by
       have:ws.toList[0]?=some f:=by rw [q]; rfl
       simpa using this
      refine⟨f :: fs,.cons k1 k2 k3 hf h1,by simp [h2],fun g hg=>?_⟩;rcases List.mem_cons.mp hg with rfl | hg
      ·exact⟨d,_,hz.1,r1⟩
      ·exact h3 g hg
noncomputable def NC:oX->Value
 | .int=>.type "int"
 | .tup _=>.type "tuple"
 | .lst _=>.type "list"
theorem Dh{M:Model}{h:Heap}{sh:oX}{d:D}{v:Value}{as:List Addr}(hs:du sh d=true)(r:Reads h v (pd d) as):Looks M h (typeOf v) (NC sh):=by
 cases sh with
 | int =>
  cases d <;> first | (cases hs; done) | skip
  cases r;exact .now
 | tup l =>
  cases d <;> first | (cases hs; done) | skip
  cases r with
  | tuple k1 k2 k3 k4 =>
   rename_i p o ws c;have:Looks M h (typeOf (.ref p)) o.cls:=(Looks.ld k1).andThen .now;rw [k2] at this; exact this
 | lst l =>
  cases d <;> first | (cases hs; done) | skip
  cases r with
  | list k1 k2 k3 k4 =>
   rename_i p o ws c as;have:Looks M h (typeOf (.ref p)) o.cls:=(Looks.ld k1).andThen .now;rw [k2] at this; exact this
theorem Ml{prog:bU}{w:World}{A:eO}{s:aF}{E:Value->aF->Prop}{Q:Bool->aF->Prop}{n:Nat}{b:Bool}{l:List oX}{a c:D}{u v:Value}{as bs:List Addr}(hn:(pd a).depth<=n+1)(h1:du (.tup l) a=true)(h2:du (.tup l) c=true)(n1:nr a=true)(n2:nr c=true)
  (r1:Reads s.heap u (pd a) as) (r2:Reads s.heap v (pd c) bs) (hu:A.units+n < cLine) (hq:Q (qx a c) s):wpAny (model prog w) A (keyLt' (tuples' b) u v) Q E s:=by
 first | obtain⟨_,rfl⟩:=dP h1 | obtain⟨_,rfl⟩:=dN h1 | obtain⟨_,rfl⟩:=dO h1
 first | obtain⟨_,rfl⟩:=dP h2 | obtain⟨_,rfl⟩:=dN h2 | obtain⟨_,rfl⟩:=dO h2
 rename_i xs ys;cases r1 with
 | tuple k1 k2 k3 k4 =>
  cases r2 with
  | tuple m1 m2 m3 m4 =>
   rename_i p o vs c p' o' ws c';have z1:=readsAll_len k4;have z2:=readsAll_len m4;have e1:vs.size=xs.length:=by simpa using z1
   have e2:ws.size=ys.length:=by simpa using z2
   have el:∀ (l:List oX) (xs ys:List D),gk l xs=true->gk l ys=true->xs.length=ys.length:=by
    intro l;induction l with
    | nil =>
     intro xs ys h1 h2;cases xs with
     | nil=>cases ys with
      | nil=>rfl
      | cons _ _=>cases h2
     | cons _ _=>cases h1
    | cons s l ih =>
     intro xs ys h1 h2;cases xs with
     | nil=>cases h1
     | cons x xs =>
      cases ys with
      | nil=>cases h2
      | cons y ys =>
       have h1:(du s x&&gk l xs)=true:=h1;have h2:(du s y&&gk l ys)=true:=h2;rw [aZ] at h1 h2;rw [ag,ag,ih xs ys h1.2 h2.2]
   have hd:(pd (.tup xs)).depth=cD (mU xs)+1:=rfl;refine kat_lt k1 k3 m1 m3 (EB (n:=n) hu l xs ys _ _ _ _ 0 h1 h2 n1 n2 k4 m4 (by lia) (decide_eq_false (by rw [e1,e2,el l xs ys h1 h2]; lia)) hq)
section
variable {X:Cx}
theorem Ma{x:D}{G:Gp}{zs:List D}(ty:vL x G)(hi:itemsOf x G=some zs):uR x G=some zs:=by
 cases x <;> first | exact ty.elim | exact hi
theorem qV (hc:X.calm=true) (hu:X.A.units+64 < cLine):yu X (.builtin "sorted") uf:=by
 intro pins s σ H G xs ds us Q I ab rx rd q;unfold uf at q;split at q
 ·rename_i x;obtain⟨sh,zs,ty,hi,O2,fB,h64,q⟩:=q;obtain⟨w1,rfl,LN⟩:=rd.one;obtain⟨u,rfl,ru⟩:=rx.one;obtain⟨l,vs,bO,rfl,rv,rs,hl,_⟩:=oe I ab ru LN (Ma ty hi);have Mx:=rv.length;have KY:=rs.length;have hsz:br=16777216:=dm;have hz:∀ z∈zs,du sh z=true:=fun z h=>List.all_eq_true.mp O2 z h;by_cases zw:bO.length < 2
  ·refine IM hl zw ?_;obtain⟨e,he⟩:=sortedAll_at s.heap bO bO.toArray;have hp:H (s.heap.objs.size+1)=none:=I.fB.fresh (Ax _);have es:r0 zs=zs:=vR sh hz (.refl _) (by
    match zs,KY,zw with
    | [],_,_=>exact .nil
    | [z],_,_=>exact List.pairwise_singleton _ _
    | _ :: _ :: _,h,f=>exact absurd f (by rw [<-Mx,h]; simp))
   rw [es] at q;refine⟨.ref (s.heap.objs.size+1),upd H (s.heap.objs.size+1) (.lst vs),.ref _,_,I.laid (t':=s.toks) (fun b o e=>sortedAll_old e) (Ax _) ?_,.GK ab hp rs,rfl,.ref _,q _ (ab.free hp)⟩;exact⟨by lia,bO,e,rv,he⟩
  ·obtain⟨m,F0⟩:=I.fr;have nz:0 < zs.length:=by lia
   have nL:∀ b o vs n,o.data=.seq vs n->s.heap.get? b=some o->b≠X.env.locals:=fun b o vs n e1 e2 z=>by
    obtain⟨o',es,ep,Rh,MC,_⟩:=F0.ns;rw [z,Rh] at e2; cases e2; rw [MC] at e1; cases e1
   unfold Td at fB;rw [aZ] at fB;have hdp:Sa sh<=7:=of_decide_eq_true fB.1;have sn:∀ z∈zs,Sn G 7 z z:=fun z h=>IP G sh z 7 (hz z h) hdp;refine kat_sorted F0 GJ hl (by lia) (by lia) fun Dd e1 h' F N EG=>?_;obtain⟨kk,ns⟩:=xV I F0 F fun p hp=>N p (aU _ hp);have Kr:∀ i,i < bO.length->∃ as,Reads h' (bO.getD i .none) (pd (zs.getD i .eK)) as:=fun i hi=>by
    have i1:i < zs.length:=by lia
    have i2:i < vs.length:=by lia
    have g1:zs.getD i .eK=zs[i]:=getD_at _ _ i1;have g2:bO.getD i .none=bO[i]:=getD_at _ _ hi;obtain⟨v,hv,Yv⟩:=rs.get (aP i1);obtain⟨u,M9,Yr⟩:=rv.get hv;rw [aP hi] at M9;cases M9;obtain⟨as,r⟩:=(jM I ab (sn _ (fg i1))).1 v _ Yv Yr;rw [g1,g2];exact⟨as,yF (fun b o vs n e1 e2=>kk b o (nL b o vs n e1 e2) e2) _ (sn _ (fg i1)).nr r⟩
   have Gm:∀ i,i < zs.length->du sh (zs.getD i .eK)=true:=fun i hi=>by rw [getD_at _ _ hi]; exact hz _ (fg hi)
   have Xq:∀ i,i < zs.length->nr (zs.getD i .eK)=true:=fun i hi=>by rw [getD_at _ _ hi]; exact(sn _ (fg hi)).nr
   have dpz:∀ i,i < zs.length->(pd (zs.getD i .eK)).depth<=7:=fun i hi=>by rw [getD_at _ _ hi]; exact E7 (sn _ (fg hi))
   let zz:Nat->D:=fun i=>if i < zs.length then zs.getD i .eK else zs.getD 0 .eK
   have Vc:∀ i,du sh (zz i)=true:=fun i=>by
    show du sh (if i < zs.length then zs.getD i .eK else zs.getD 0 .eK)=true;split
    ·exact Gm i (by assumption)
    ·exact Gm 0 nz
   let lt:Nat->Nat->Bool:=fun i j=>qx (zz i) (zz j)
   have swo:MT lt:=⟨fun i j h=>Dg sh (Vc i) (Vc j) h,fun i j k h1 h2=>A5 sh (Vc i) (Vc j) (Vc k) h1 h2⟩;have lte:∀ i j,i < zs.length->j < zs.length->lt i j=qx (zs.getD i .eK) (zs.getD j .eK):=fun i j hi hj=>by
    show qx (if i < zs.length then _ else _) (if j < zs.length then _ else _)=_;rw [if_pos hi,if_pos hj]
   obtain⟨p,ep,Hd,psz,hup⟩:=NT swo (n:=bO.length) (by lia);have hA2:X.A.in1.in1.units=X.A.units+2:=rfl;have ask:∀ κ:SortKind,(∀ i j,i < bO.length->j < bO.length->∀ C:Bool->aF->Prop,C (qx (zs.getD i .eK) (zs.getD j .eK)) { s with heap:=h' }->kas_ask X.prog X.w X.A.in1.in1 κ bO i j C { s with heap:=h' }) ->
     (kas_sort bO.length).kasWp (kas_ask X.prog X.w X.A.in1.in1 κ bO) (fun p Vs=>KasFin X.base X.env.locals m Dd e1 (p.toList.map fun i=>bO.getD i mY) (fun s3=>tK X pins σ H G Q (.ref Dd) s3) Vs) { s with heap:=h' }:=by
    intro κ hk;refine GX (lt:=lt) (n:=bO.length) (fun i j i1 i2 C hC=>hk i j i1 i2 C (by rw [<-lte i j (by lia) (by lia)]; exact hC)) _ (PI (by lia)) ?_;rw [ep];refine KasFin.intro (g:=fun o=>(Dd,o) :: uh X.base s.heap X.env.locals) F N (.head (fun q hq z=>absurd (EG q hq) (by rw [z]; exact jA _))) fun h2 c F2 N2=>?_;obtain⟨k2,ns2⟩:=xV I F0 F2 fun p hp=>N2 p (aU _ hp);have hD:s.heap.get? Dd=none:=by
     have nD:=N _ bb;cases qd:s.heap.get? Dd with
     | none=>rfl
     | some o=>exact absurd (EG _ (yT nD.2.1 nD.2.2 qd)) (jA _)
    have hp:H Dd=none:=K4 I.fB hD;have rvp:Vals (p.toList.map fun i=>vs.getD i .eK) (p.toList.map fun i=>bO.getD i mY):=by
     have:∀ (ps:List Nat),(∀ i∈ps,i < bO.length)->Vals (ps.map fun i=>vs.getD i .eK) (ps.map fun i=>bO.getD i mY):=by
      intro ps;induction ps with
      | nil=>intro _; exact .nil
      | cons i ps ih =>
       intro hh;have hi:=hh i (by simp);refine .cons ?_ (ih fun j hj=>hh j (aU _ hj));have i2:i < vs.length:=by lia
       obtain⟨u,M9,Yr⟩:=rv.get (aP i2);rw [aP hi] at M9;cases M9;show RelV (vs.getD i .eK) (bO.getD i .none);rw [getD_at _ _ i2,getD_at _ _ hi]; exact Yr
     exact this _ fun i hi=>by simpa using Hd.mem_iff.mp hi
    have rsp:bA X.K H (p.toList.map fun i=>vs.getD i .eK) (p.toList.map fun i=>zs.getD i .eK):=by
     have:∀ (ps:List Nat),(∀ i∈ps,i < bO.length)->bA X.K H (ps.map fun i=>vs.getD i .eK) (ps.map fun i=>zs.getD i .eK):=by
      intro ps;induction ps with
      | nil=>intro _; exact .nil
      | cons i ps ih =>
       intro hh;have hi:=hh i (by simp);refine .cons ?_ (ih fun j hj=>hh j (aU _ hj));have i2:i < vs.length:=by lia
       have i1:i < zs.length:=by lia
       obtain⟨v,hv,r⟩:=rs.get (aP i1);rw [aP i2] at hv;cases hv;show dh X.K H (vs.getD i .eK) (zs.getD i .eK);rw [getD_at _ _ i2,getD_at _ _ i1]; exact r
     exact this _ fun i hi=>by simpa using Hd.mem_iff.mp hi
    have es:r0 zs=p.toList.map fun i=>zs.getD i .eK:=by
     refine vR sh hz ?_ ?_
     ·have h1:(p.toList.map fun i=>zs.getD i .eK).Perm ((e7 zs.length).map fun i=>zs.getD i .eK):=by
       have:bO.length=zs.length:=by lia
       rw [<-this];exact Hd.map _
      rw [A2] at h1;exact h1
     ·rw [tQ,List.pairwise_iff_getElem];intro i j hi hj Mz;have g1:gA p i=p.toList[i]:=by
       have:i < p.size:=by simpa using hi
       simp [gA,Kg,this]
      have g2:gA p j=p.toList[j]:=by
       have:j < p.size:=by simpa using hj
       simp [gA,Kg,this]
      have bi:p.toList[i] < bO.length:=by simpa using Hd.mem_iff.mp (fg hi)
      have bj:p.toList[j] < bO.length:=by simpa using Hd.mem_iff.mp (fg hj)
      have:=hup i j (by lia) (by have:j < p.toList.length:=hj; rw [lG,psz] at this; exact this);rw [g1,g2,lte _ _ (by lia) (by lia)] at this;exact this
    rw [es] at q;have ln:(p.toList.map fun i=>vs.getD i .eK).length<=br:=by rw [ax,lG,psz]; lia
    refine⟨.ref Dd,upd H Dd (.lst (p.toList.map fun i=>vs.getD i .eK)),.ref _,_,Inv.RV (t':=s.toks) I k2 ns2 hD ?_,.GK ab hp rsp,rfl,.ref _,q _ (ab.free hp)⟩;exact⟨ln,_,c,rvp,(N2 _ bb).1⟩
   have gen:∀ i j,i < bO.length->j < bO.length->∀ C:Bool->aF->Prop,C (qx (zs.getD i .eK) (zs.getD j .eK)) { s with heap:=h' }->wpAny (model X.prog X.w) X.A.in1.in1 (keyLt' oneType' (bO.getD i mY) (bO.getD j mY)) C (fun _ _=>False) { s with heap:=h' }:=by
    intro i j hi hj C hC;obtain⟨as,r1⟩:=Kr i hi;obtain⟨bs,r2⟩:=Kr j hj;rw [keyLt'_oneType];exact yS (s:={ s with heap:=h' }) (n:=7) (dpz i (by lia)) (Gm i (by lia)) (Gm j (by lia)) (Xq i (by lia)) (Xq j (by lia)) r1 r2 (by rw [hA2]; lia) X.prog X.w _ C hC
   have lk:∀ v∈bO,Looks (model X.prog X.w) h' (typeOf v) (NC sh):=fun v hv=>by
    obtain⟨i,hi,rfl⟩:=List.getElem_of_mem hv;obtain⟨as,r⟩:=Kr i hi;rw [getD_at _ _ hi] at r;exact Dh (Gm i (by lia)) r
   cases sh with
   | int=>exact kas_kind (s:={ s with heap:=h' }) (T:=.type "int") (by lia) lk rfl rfl (ask oneType' gen)
   | lst ss=>exact kas_kind (s:={ s with heap:=h' }) (T:=.type "list") (by lia) lk rfl rfl (ask oneType' gen)
   | tup ss =>
    cases ss with
    | nil=>exact absurd fB.2 (by simp)
    | cons s1 ss =>
     obtain⟨fs,t1,t2,t3⟩:=Ge (h:=h') zs bO hz Kr (by lia);refine kat_kind (s:={ s with heap:=h' }) (T:=NC s1) t1 (by lia) (fun f hf=>?_) (by cases s1 <;> rfl) (ask _ fun i j hi hj C hC=>?_)
     ·obtain⟨d,as,h1,h2⟩:=t3 f hf;exact Dh h1 h2
     ·obtain⟨as,r1⟩:=Kr i hi;obtain⟨bs,r2⟩:=Kr j hj;exact Ml (s:={ s with heap:=h' }) (n:=7) (by have:=dpz i (by lia); lia) (Gm i (by lia)) (Gm j (by lia)) (Xq i (by lia)) (Xq j (by lia)) r1 r2 (by rw [hA2]; lia) hC
 ·exact q.elim
end
end K2
end
section
namespace K2
open PySem PySem.Spec PyProof.Rows L2 PySem.W
section
variable {X:Cx}
variable {es:List Expr} {t:TF2} {e v1 v2:Expr} {te:hW} {pos:Pos} {c:Str} {k:Nat}
theorem HU:eN "reversed" = some (.type "reversed"):=by decide +kernel
variable {a:Expr} {ta:hW} {p p2 ac1:Pos}
end
end K2
end
section
namespace K2
open PySem PySem.Spec PyProof.Rows L2
section
variable {K:aw} {h:Heap} {C:Addr} {WX:List Value} {newId:String}
inductive UA (h:Heap) (C:Addr) (WX:List Value) (newId:String):Prop
 | mk (bm N nm qn bs Z6 sn sub ab col dd k0 k1 k2 k3 k5 mN) (o:h.get? C=some (excClassObj nm qn C N bs bm Z6 sn sub ab col dd k0 k1 k2 k3 k5 newId)) (n:h.Ns N mN) (i:mN "__init__" = none) (t:OwnTail h WX bm):UA h C WX newId
end
end K2
end
section
namespace K2
open PySem PySem.Spec PyProof.Rows L2
noncomputable def kp1:HO->Bool
 | .tup _=>true
 | .rq _ (.lst _)=>true
 | .rq _ (.dK _)=>true
 | .rq _ (.dT _)=>true
 | .rq _ (.ext _)=>true
 | _=>false
noncomputable def hr(H:Hp):Hp:=fun b=>(H b).bind fun o=>if kp1 o=true then some o else none
end K2
end
section
namespace K2
open PySem PySem.Spec PyProof.Rows L2
noncomputable def subIn(K:aw)(C:Addr)(v:Value):Bool:=match K.lookup C with
 | some ⟨_,_,.cls cd,_⟩=>cd.mro.contains v
 | _=>false
section
variable {X:Cx} {x cn n:Str} {D f:Addr} {fd:ay} {ps:List Str} {k i:Nat} {sp:jx} {bmD:List Value} {newD:String} {cat:List Str} {e:Expr} {es:List Expr} {p np pos ep TL tp:Pos} {Yp:Stmt} {aaX:List Stmt} {t:DN} {th:g7}
structure acs(X:Cx):Prop where
 st:X.stack=X.env :: X.outer
 fr:X.env.frame=some X.env.locals
 ex:X.ex=[]
structure Clause(X:Cx)(i:Nat)(n cn:Str)(D:Addr)(cat:List Str):Prop where
 nd:X.N.Nodup
 DL:X.N[i]?=some n
 loc:X.env.scope.names.lookup n=some .local
 gl:Gl X cn
 mg:X.mg cn=some (.ref D)
 cls:∃ bmD newD,PySem.W.excIn X.K D bmD newD=true/\bmD.contains (.type "BaseException")=true
 cat:∀ c,cat.contains c=true->∃ C WX newId,dj X.K bu c=some (some (.ref C))/\PySem.W.excIn X.K C WX newId=true/\subIn X.K C (.ref D)=true
end
end K2
end
section
namespace K2
open PySem PySem.Spec PyProof.Rows L2 PySem.W PySem.Calls PySem.Builtin PySem.Builtin.Getset_descriptor
section
variable {prog:bU} {w:World} {A:eO} {E:Value->aF->Prop} {s:aF} {K:aw} {a C:Addr} {ox:Obj}
structure acp(K:aw)(C:Addr):Prop where
 ga:findIn K (.ref C) "__getattribute__" = some (some (.builtin "BaseException.__getattribute__"))
 gn:findIn K (.ref C) "__getattr__" = some none
 DL:findIn K (.ref C) "__class__" = some (some (.builtin "object.__class__"))
 sp:specialIn K (.builtin "object.__class__") "__get__" = some (some (.builtin "getset_descriptor.__get__"))
 tk:takesIn K (.builtin "object.__class__")=some true
 mo:mroIn K C (.type "object")=some true
 mb:mroIn K C (.type "BaseException")=some true
 is:(clsIn K C).isSome=true
end
end K2
end
section
namespace K2
open PySem PySem.Spec PyProof.Rows L2
section
variable {X:Cx} {e:Expr} {te:hW} {pos:Pos}
theorem j6{i:Nat}{x:Str}{pos':Pos}(hN:X.N.Nodup)(hi:X.N[i]?=some x)(he:iD X e te)(hx:autoParam (Loc X.env.scope x) Ao._auto_1)(hs:autoParam (FP e (some (.Name x pos')) pos.line X.env=pure false) Ar._auto_1)(hf:autoParam (X.fn x=true\/X.env.scope.names.lookup x=some .local) Ao._auto_1) :
  Iq X (.Assign [.Name x pos'] e pos) (bH te (aI i)):=QP hN hi hx he hs hf
theorem pe{i:Nat}{x:Str}(hN:X.N.Nodup)(hi:X.N[i]?=some x)(hx:autoParam (Loc X.env.scope x) Ao._auto_1)(hf:autoParam (X.fn x=true\/X.env.scope.names.lookup x=some .local) Ao._auto_1):Nc X (.Name x pos) (aI i):=Oo hN hi hx hf
theorem mS{P:bU}{w:World}{K:aw}{mg:Str->Option Value}{base:Heap}{x qual:Str}{st:Stmt}{f:Addr}{fd:ay}{Nn ps:List Str}{k:Nat}{sp:jx}{rd:g7}(F:kP K x qual st f fd)(S:bJ Nn ps (aW st))
  (hr:∀ ds G Q,sp ds G Q (fun _ _=>False)->rd (fun _ _=>False) (ends Q) (aX Nn.length ds) G)
  (hb:∀ (oR:Value) (A:eO) (outer:List Env) (s:aF) (H:Hp) (E:XK),kK k (A.deeper (FQ qual (aW st) s.heap.objs.size f oR))->BR (HP eB P w K mg base Nn qual (aW st) f oR A outer s H E).UK (i4 st) rd)
  (len:autoParam (∀ ds G Q E,sp ds G Q E->ds.length=ps.length) Al._auto_1):eA P w K mg base eB (k+1) f fd ps (bK K sp):=Rk F S len hr hb
theorem mQ{N ps:List Str}{sc:Scope}(h1:autoParam (sc.kind=.function) Ar._auto_1)(h2:autoParam (sc.isCoroutine=false) Ar._auto_1)(h3:autoParam (sc.isGenerator=false) Ar._auto_1)(h4:autoParam N.Nodup Ak._auto_1)(h5:autoParam (N.take ps.length=ps) Ar._auto_1)
  (h6:autoParam (∀ x∈ps,sc.names.lookup x=some .local\/sc.names.lookup x=some .cell) Ak._auto_1) (h7:autoParam (∀ y∈sc.names,y.2≠.free) Ak._auto_1):bJ N ps sc:=⟨h1,h2,h3,h4,h5,h6,h7⟩
end
end K2
end
section
namespace K2
open PySem PySem.Spec PyProof.Rows L2
section
variable {X:Cx} {a b c:Expr} {ta tb tc:hW} {pos:Pos}
theorem QX {x:Str} {i:Int} {t:Tok} {p:Pos} (hg:Gl X x) (hm:X.mg x=some (.int i t)) (hd:autoParam ((x == ("__debug__" : Str))=false) Ad._auto_1):iD X (.Name x p) (dC (.int i)):=tZ (QT (v:=.int i) hg hm ⟨t,rfl⟩ hd) fun _ _=>.int i
end
end K2
end
section
namespace K2
open PySem PySem.Spec PyProof.Rows L2
theorem rK{α:Type}{us:List α}(h:us.length=1):∃ a,us=[a]:=List.length_eq_one_iff.mp h
theorem Q9{α:Type}{us:List α}{n:Nat}(h:us.length=n+1):∃ a t,us=a :: t/\t.length=n:=by
 cases us with
 | nil=>cases h
 | cons a t=>exact⟨a,t,rfl,Nat.succ.inj h⟩
theorem pj{α:Type}{us:List α}(h:us.length=2):∃ a b,us=[a,b]:=by
 obtain⟨a,t,rfl,h2⟩:=Q9 h; obtain⟨b,rfl⟩:=rK h2; exact⟨a,b,rfl⟩
theorem Cv{α:Type}{us:List α}(h:us.length=3):∃ a b c,us=[a,b,c]:=by
 obtain⟨a,t,rfl,h2⟩:=Q9 h; obtain⟨b,c,rfl⟩:=pj h2; exact⟨a,b,c,rfl⟩
theorem Ra{α:Type}{us:List α}(h:us.length=4):∃ a b c d,us=[a,b,c,d]:=by
 obtain⟨a,t,rfl,h2⟩:=Q9 h; obtain⟨b,c,d,rfl⟩:=Cv h2; exact⟨a,b,c,d,rfl⟩
theorem Wb{α:Type}{us:List α}(h:us.length=5):∃ a b c d e,us=[a,b,c,d,e]:=by
 obtain⟨a,t,rfl,h2⟩:=Q9 h; obtain⟨b,c,d,e,rfl⟩:=Ra h2; exact⟨a,b,c,d,e,rfl⟩
section
variable {X:Cx} {a b tg:Expr} {ta tb:hW} {p pos:Pos}
theorem IW (hg:Gl X "range") (hm:X.mg "range" = none) (ha:iD X a ta) (hb:iD X b tb) (hs:autoParam (cq [a,b] X.env=(false,eval a X.env) :: cq [b] X.env) Ar._auto_1) (FK:autoParam (cq [b] X.env=[(false,eval b X.env)]) Ar._auto_1) (u0:autoParam ((nG pos (cq [b] X.env)).any (·.1)=false) Ar._auto_1):PN X tg (.Call (.Name "range" p) [a,b] [] pos) (KQ ta tb):=by
 intro E pins s σ H τ G R hE I h;have hA:FN X [a,b] (ah ta (ah tb aH)):=af ha (af hb av FK) hs;refine Call_ (qO I.inv hg hm boot_range (fi (zg hA pos hE I (R:=fun ds G1=>match ds with | [.int i,.int j]=>(-(2 ^ 62)<=i/\i < 2 ^ 62/\-(2 ^ 62)<=j/\j < 2 ^ 62)/\R (fj i (j - i).toNat) (fun _=>True) G1 | _=>False) ?_ fun vs H1 ds G1 us s1 I1 m1 r1 j0 q1=>?_) hs u0))
 ·show ta E τ G fun x G1=>tb E τ G1 fun y G2=>_;have e:(fun (x:D) (G1:Gp)=>tb E τ G1 fun y G2=>match [x,y] with | [.int i,.int j]=>(-(2 ^ 62)<=i/\i < 2 ^ 62/\-(2 ^ 62)<=j/\j < 2 ^ 62)/\R (fj i (j - i).toNat) (fun _=>True) G2 | _=>False)=fun x G1=>tb E τ G1 fun y G2=>match x,y with | .int i,.int j=>(-(2 ^ 62)<=i/\i < 2 ^ 62/\-(2 ^ 62)<=j/\j < 2 ^ 62)/\R (fj i (j - i).toNat) (fun _=>True) G2 | _,_=>False:=by
   funext x G1;congr 1;funext y G2;cases x <;> cases y <;> rfl
  exact e ▸ h
 ·split at q1
  ·rename_i i j;obtain⟨w1,w2,rfl,LN,Vt⟩:=j0.two;cases LN; cases Vt;obtain⟨u1,u2,rfl,Vu,SO⟩:=r1.two;obtain⟨t1,rfl⟩:=Vu;obtain⟨t2,rfl⟩:=SO;obtain⟨⟨q1,q2,q3,q4⟩,q⟩:=q1;exact call_range_2 (N5 I1.inv m1 q1 q2 q3 q4 q)
  ·exact q1.elim
end
end K2
end
section
namespace K2
open PySem PySem.Spec PyProof.Rows L2
noncomputable def Itv(K:aw)(a:Addr)(n:Nat):It :=
 ⟨fun i H=>∃ xs x,qy K H a xs/\xs.length=n/\i < n/\xs[n - 1 - i]?=some x,fun i H x H'=>H'=H/\∀ xs,qy K H a xs->xs[n - 1 - i]?=some x,fun i _=>n<=i⟩
theorem NF{P:bU}{w:World}{K:aw}{tg:Expr}(a it:Addr)(n:Nat):Turn P w K tg (Itv K a n) [it] it (fun i h=>i<=n/\h.IsRevIter it a ((n:Int) - 1 - (i:Int))) where
 mem:=List.mem_singleton.mpr rfl
 obj:=by
  rintro i h ⟨_,o,q,c,d⟩ b hb;have z:=List.mem_singleton.mp hb;subst z;exact⟨o,q,fun v z=>by rw [d] at z; cases z⟩
 keep:=by
  rintro i h h' ⟨hi,st⟩ k;exact⟨hi,st.at fun o e=>k it (List.mem_singleton.mpr rfl) o e⟩
 item:=by
  rintro X rfl rfl rfl hc i pins s σ H E I hf ⟨hi,st⟩ ⟨xs,x,hq,hlen,hin,hx⟩;obtain⟨bO,rv,p,hz⟩:=I.list hq;obtain⟨u,hu,ru⟩:=rv.get hx;obtain⟨f0,f1,f2,f3,f4,f5⟩:=hf it (List.mem_singleton.mpr rfl);have e0:((n:Int) - 1 - (i:Int))=((n - 1 - i:Nat):Int):=by lia
  rw [e0] at st;refine wpAny_pyNext_rev_item st p.isList (x:=u) (by simpa using hu) fun h' C6 sb=>?_;have J1:Inv X pins σ H { s with heap:=h' }:=I.turned (t':=s.toks) (fun b o hb e=>(sb.2 b hb).trans e) f0 f1 f3 f4 f5;have e1:((n - 1 - i:Nat):Int) - 1=(n:Int) - 1 - ((i+1:Nat):Int):=by lia
  rw [e1] at C6;obtain⟨o,e,c,d⟩:=id C6;refine⟨u,rfl,K1 (s:={ s with heap:=h' }) e c d (by decide) ⟨x,H,J1,ru,⟨rfl,fun ys hy=>?_⟩,⟨by lia,C6⟩,fun b hb=>(hf b hb).1⟩⟩;rw [I.sM hy hq]; exact hx
 done:=by
  rintro X rfl rfl rfl hc i pins s σ H E I hf ⟨hi,st⟩ hg;have hg:n<=i:=hg;obtain⟨f0,f1,f2,f3,f4,f5⟩:=hf it (List.mem_singleton.mpr rfl);have e0:((n:Int) - 1 - (i:Int))=-1:=by lia
  rw [e0] at st;exact wpAny_pyNext_rev_end (I.ok.hd hc) st fun h' eb=>⟨rfl,I.turned (t':=s.toks) (fun b o hb e=>eb b o hb e) f0 f1 f3 f4 f5⟩
 self:=fun _ _ _ _ _ st h=>wpAny_pyIter_revIter st.2 h
section
variable {X:Cx} {tg a:Expr} {ta:hW} {pos p:Pos}
theorem QS (hg:Gl X "reversed") (hm:X.mg "reversed" = none) (ha:iD X a ta) (hs:autoParam (cq [a] X.env=[(false,eval a X.env)]) Ar._auto_1):PN X tg (.Call (.Name "reversed" p) [a] [] pos) (TF ta):=by
 intro E pins s σ H τ G R hE I h;have hA:FN X [a] (ah ta aH):=af ha av hs;refine Call_ (qO I.inv hg hm HU (fi (zg hA pos hE I (R:=VL fun x G1=>match x with
  | .fJ ds=>R ds.reverse (fun _=>True) G1
  | _=>False) h fun vs H1 ds G1 us s1 I1 m1 r1 j0 q1=>?_) hs rfl))
 match ds,q1 with
 | [x],q1 =>
  obtain⟨w,rfl,LN⟩:=j0.one;obtain⟨u,rfl,ru⟩:=r1.one;cases LN with
  | fJ hq rs =>
   cases ru;rename_i l vs zs;obtain⟨bO,rv,pl,hz⟩:=I1.inv.list hq.sq;refine call_reversed_list pl.isList ?_;have hsz:bO.toArray.size=vs.length:=by rw [a9,rv.length]
   rw [hsz];refine wpAny_pyIter_revIter (i:=(vs.length:Int) - 1) ⟨_,cf _ rfl,rfl,rfl⟩ ?_;refine⟨s1.heap.objs.size,[s1.heap.objs.size],_,_,H1,G1,zs.reverse,fun _=>True,rfl,I1.inv.kept (t':=s1.toks) fun b o e=>aY _ e,m1,NF l _ vs.length,⟨cX _,by rw [show ((vs.length:Int) - 1 - ((0:Nat):Int))=(vs.length:Int) - 1 by lia]; exact⟨_,cf _ rfl,rfl,rfl⟩⟩,fun b hb=>?_,fun i H2 G2 k ab o=>?_,q1⟩
   ·have e:=List.mem_singleton.mp hb;subst e;exact I1.inv.JC (aT _) (I1.inv.fB.fresh (aT _))
   ·have hw:=(k.RH hq).sq;have rd:=rs.mono k;have hlen:=rs.length;refine⟨fun d hd=>?_,fun hl=>by show vs.length<=i; rw [hlen,<-qt]; exact hl⟩;have hi:i < zs.length:=by have:=(List.getElem?_eq_some_iff.mp hd).1; rwa [qt] at this
    rw [List.getElem?_reverse hi] at hd;obtain⟨v,hv,r⟩:=rd.get hd;rw [<-hlen] at hv;refine⟨⟨vs,v,hw,rfl,by lia,hv⟩,?_⟩;rintro x H3 ⟨e,y⟩;subst e;have:=y vs hw;rw [hv] at this;cases this;exact⟨r,.refl ab⟩
  | _=>exact q1.elim
end
end K2
end
section
namespace K2
open PySem PySem.Spec PyProof.Rows L2
section
variable {X:Cx} {a st:Expr} {ta:hW} {ts:Uw} {p2 pos:Pos}
theorem Oj(u v:Value):slicePick #[u,v] none none (some (-1))=#[v,u]:=by kernel_rfl
theorem Ot(he:iD X a ta)(hs:W7 X (some st) ts)(ZC:autoParam (∀ l k:Addr,∃ ops,subscripted (.Slice none none (some st) p2) false (.ref l) (.ref k)=operate ops (Nj (.ref l) (.ref k))) Ay._auto_1):iD X (.Subscript a (.Slice none none (some st) p2) pos) (Pt ta ts):=by
 intro E pins s σ H τ G Q hE I h;refine Subscript_ (lO he hE I h fun x H1 d G1 v s1 I1 m1 r1 j0 q1=>?_);refine wpAny_Slice ?_;rw [evalPart_none];refine bM ?_;refine bM ?_;refine iy (hs E pins s1 σ H1 τ G1 _ hE I1 q1) ?_;rintro vk s3 ⟨k,H3,G3,I3,m3,pk,rfl,xa,xb,hl,q⟩;have mm:=m1.trans m3;have Vz:=j0.mono (m3.kp I1.ab);have I4:Inv X pins σ H3 { s3 with heap:=s3.heap.push { cls:=.type "slice",data:=.fields #[.none,.none,vk] } }:=I3.kept (t':=s3.toks) fun b ob q=>aY _ q;obtain⟨l,vs,bO,rfl,rv,rs,hL,hz⟩:=oe I3 m3.ab r1 Vz hl;cases rs with
 | cons ra rs=>cases rs with
  | cons rb rs=>cases rs with
   | nil =>
    cases rv with
    | cons ua rv=>cases rv with
     | cons ub rv=>cases rv with
      | nil =>
       rename_i va vb ka kb;have hT:Shared.TypeIs { s3 with heap:=s3.heap.push { cls:=.type "slice",data:=.fields #[.none,.none,vk] } } (.ref l) "list":=(hL.push _).typeIs;obtain⟨ops,ho⟩:=ZC l s3.heap.objs.size;refine iy (tail_any (Q:=tK X pins σ H3 G3 Q) (ops:=ops) hT slot_list_getitem.lookup ?_ ho) fun _ _ z=>z.trans mm;refine wpAny_getItem_list_slice (hL.push _) (FU ..) .none .none pk (by simp) ?_ (by size_fits);rw [show ([ka,kb]:List Value).toArray=#[ka,kb] from rfl,Oj];have hf:H3 (s3.heap.push { cls:=.type "slice",data:=.fields #[.none,.none,vk] }).objs.size=none:=I4.fB.fresh (aT _);refine⟨.ref _,upd H3 _ (.lst [vb,va]),.ref _,cW G3 _ (.lst [xb,xa]),I4.laid (t':=s3.toks) (o:=.lst [vb,va]) (fun b u e=>aY _ e) (aT _) ⟨ko rfl,[kb,ka],0,.cons ub (.cons ua .nil),cf _ rfl⟩,.GK m3.ab hf (.cons rb (.cons ra .nil)),rfl,.ref _,q _ (m3.ab.free hf)⟩
end
end K2
end
section
namespace K2
open PySem PySem.Spec PyProof.Rows L2
noncomputable def gz(K:aw)(f c:Str):Prop:=∃ C,dj K bu c=some (some (.ref C))/\Qd K C/\yt K C f
theorem IU{K:aw}{H:Hp}{f:Str}{d:D}:∀ {fs:List (Str×D)} {fv:List (Str×V)},fv.map (·.1)=fs.map (·.1)->bA K H (fv.map (·.2)) (fs.map (·.2))->fs.lookup f=some d->∃ v,fv.lookup f=some v/\dh K H v d:=by
 intro fs;induction fs with
 | nil=>intro fv _ _ h; cases h
 | cons p fs ih =>
  intro fv hn r h;cases fv with
  | nil=>cases hn
  | cons q fv =>
   rw [aq,aq] at hn;injection hn with h1 h2
   cases r with
   | cons r1 r2 =>
    obtain⟨pk,pd⟩:=p;obtain⟨qk,qv⟩:=q;have h1:qk=pk:=h1;subst h1;rw [oC] at h ⊢;cases hb:f == qk with
    | true =>
     rw [hb] at h;cases h;exact⟨qv,rfl,r1⟩
    | false =>
     rw [hb] at h;exact ih h2 r2 h
section
variable {X:Cx} {e:Expr} {te:hW} {f:Str} {al:List Str} {pos:Pos}
theorem cb(cl:∀ c∈al,gz X.K f c)(he:iD X e te)(hb:autoParam (xC e f X.env (eval e X.env)=eval e X.env) Ar._auto_1):iD X (.Attribute e f pos) (di al f te):=by
 intro E pins s σ H τ G Q hE I h;refine Rz hb (lO he hE I h fun x H1 d G1 u s1 I1 m1 r1 j0 q1=>?_);obtain⟨a,c,fs,d',rfl,hg,hc,hl,q⟩:=q1;cases j0;cases r1;obtain⟨C,dx,fv,hH,Cy,hn,rs⟩:=I1.ab a _ hg;obtain⟨C',EF,KZ,ZP⟩:=cl c hc;rw [Cy] at EF;cases EF;obtain⟨v,hv,rv⟩:=IU hn rs hl;exact Jx I1.inv hH KZ ZP hv fun u' s2 I2 ru=>⟨v,H1,d',G1,I2,m1,ru,rv,q⟩
end
end K2
end
section
namespace K2
open PySem PySem.Spec PyProof.Rows L2
theorem LS{f:Str}{v:V}{d:D}:∀ {fs:List (Str×D)} {fv:List (Str×V)},fv.map (·.1)=fs.map (·.1)->(oz f v fv).map (·.1)=(putD f d fs).map (·.1):=by
 intro fs;induction fs with
 | nil =>
  intro fv h;have:fv=[]:=by simpa using h
  subst this; rfl
 | cons p fs ih =>
  intro fv h;cases fv with
  | nil=>cases h
  | cons q fv =>
   obtain⟨pk,pd⟩:=p;obtain⟨qk,qv⟩:=q;rw [aq,aq] at h;injection h with h1 h2
   have h1:qk=pk:=h1;subst h1;unfold oz putD;split
   ·rw [aq,aq,h2]
   ·rw [aq,aq,ih h2]
theorem Of{K:aw}{H:Hp}{f:Str}{v:V}{d:D}(rv:dh K H v d):∀ {fs:List (Str×D)} {fv:List (Str×V)},fv.map (·.1)=fs.map (·.1)->bA K H (fv.map (·.2)) (fs.map (·.2))->bA K H ((oz f v fv).map (·.2)) ((putD f d fs).map (·.2)):=by
 intro fs;induction fs with
 | nil =>
  intro fv h _;have:fv=[]:=by simpa using h
  subst this;exact .cons rv .nil
 | cons p fs ih =>
  intro fv h r;cases fv with
  | nil=>cases h
  | cons q fv =>
   obtain⟨pk,pd⟩:=p;obtain⟨qk,qv⟩:=q;rw [aq,aq] at h;injection h with h1 h2
   have h1:qk=pk:=h1;subst h1;cases r with
   | cons r1 r2 =>
    unfold oz putD;split
    ·exact .cons rv r2
    ·exact .cons r1 (ih h2 r2)
theorem Kp.YD{H:Hp}{p:Addr}{C dx:Addr}{fv:List (Str×V)}{o:HO}(hp:H p=some (.ins C dx fv)):Kp H (upd H p o) :=
 ⟨fun a xs e=>by rw [cw (by rintro rfl; rw [hp] at e; cases e)]; exact e,fun a ob u e=>by rw [cw (by rintro rfl; rw [hp] at e; cases e)]; exact e⟩
section
variable {X:Cx} {o value:Expr} {to tv:hW} {f:Str} {al:List Str} {pos pos':Pos}
theorem gb(cl:∀ c∈al,gz X.K f c)(ho:iD X o to)(hv:iD X value tv)(hs:autoParam (FP value (some (.Attribute o f pos')) pos.line X.env=pure false) Ar._auto_1):Iq X (.Assign [.Attribute o f pos'] value pos) (lr al f to tv):=by
 intro E pins s σ H τ G D hE I h;refine plainObj_wpAny_Assign_Attribute (lO hv hE I h fun y H1 d G1 u s1 I1 m1 r1 j0 q1=>lO ho hE I1 q1 fun x H2 d2 G2 ov s2 mX m2 r2 Ee q2=>?_) hs;obtain⟨a,c,fs,rfl,hg,hc,hl,q⟩:=q2;cases Ee;cases r2;obtain⟨C,dx,fv,hH,Cy,hn,rs⟩:=mX.ab a _ hg;obtain⟨C',EF,KZ,ZP⟩:=cl c hc;rw [Cy] at EF;cases EF;have hlen:fv.length=fs.length:=by have:=congrArg dE hn; simpa using this
 have Yw:=j0.mono (m2.kp I1.ab);refine IQ mX.inv hH KZ ZP (by lia) r1 fun s3 I3=>?_;have k:Kp H2 (upd H2 a (.ins C dx (oz f y fv))):=.YD hH;have m3:Mv X.K H2 G2 (upd H2 a (.ins C dx (oz f y fv))) (cW G2 a (.ins c (putD f d fs))):=.put mX.ab hg k ⟨C,dx,oz f y fv,dv,Cy,LS hn,(Of Yw hn rs).mono k⟩;exact⟨σ,_,τ,_,mX.mv I3 m3,(m1.trans m2).trans m3,q⟩
end
section
variable {X:Cx} {k:Nat} {C f:Addr} {fd:ay} {ps:List Str} {sp:jx} {x:Str} {p pos:Pos} {e:Expr} {es:List Expr} {t:DN}
theorem j7(M:Mk X.K C f)(Cy:dj X.K bu x=some (some (.ref C)))(F:eA X.prog X.w X.K X.mg X.base eB k f fd ps (bK X.K sp))(hr:kK (k+1) X.A)(hg:Gl X x)(hm:X.mg x=some (.ref C))(hb:Binds X.K fd ps [])
  (ha:FN X (e :: es) t) (O0:autoParam ((x == ("__debug__" : Str))=false) Ad._auto_1) (he:autoParam (cq (e :: es) X.env=(false,eval e X.env) :: cq es X.env) Ar._auto_1) (u0:autoParam ((nG pos (cq es X.env)).any (·.1)=false) Ar._auto_1) :
  iD X (.Call (.Name x p) (e :: es) [] pos) (kH x sp t):=by
 intro E pins s σ H τ G Q hE I h;refine nC (Ew I.inv hg hm ?_ O0);refine zf (h₀:=X.base) I.inv.ok.mod.UN M.kp (zg ha pos hE I h fun vs H1 ds G1 us s1 I1 m1 r rd q=>⟨I1.inv.Cw,?_⟩) he u0;refine iy (NU M F hr hb .nil Kx I1.inv r (Q:=Cb X.K H1 G1 Q) fun y dx hy hdx mz=>?_) fun _ _ z=>(tK.of z).trans m1;rw [dc];have m2:Mv X.K H1 G1 (upd H1 dx (.own y)) G1:=.R5 I1.ab hdx;have hy2:(upd H1 dx (.own y)) y=none:=by rw [cw mz.symm]; exact hy
 have m3:Mv X.K (upd H1 dx (.own y)) G1 (upd (upd H1 dx (.own y)) y (.ins C dx [])) (cW G1 y (.ins x [])):=.new m2.ab hy2 ⟨C,dx,[],dv,Cy,rfl,.nil⟩;have m:=m2.trans m3;refine⟨.ref y :: ds,cW G1 y (.ins x []),fun v G2=>v=.eK/\Q (.ref y) G2,.cons (.ref y) (rd.mono (m.kp I1.ab)),m.ab,q y (I1.ab.free hy),fun d G' v H' q' m' P5=>?_⟩;obtain⟨rfl,q'⟩:=q';cases P5;exact⟨rfl,.ref y,G',m.trans m',.ref y,q'⟩
end
end K2
end
section
namespace K2
open PySem PySem.Spec PyProof.Rows L2
theorem Di{m:Str}:∀ (fs:List (Str×D)) (fv:List (Str×V)),fv.map (·.1)=fs.map (·.1)->fs.lookup m=none->fv.lookup m=none:=by
 intro fs;induction fs with
 | nil =>
  intro fv h _;have:fv=[]:=by simpa using h
  subst this; rfl
 | cons p fs ih =>
  intro fv h hl;cases fv with
  | nil=>cases h
  | cons q fv =>
   obtain⟨pk,pd⟩:=p;obtain⟨qk,qv⟩:=q;rw [aq,aq] at h;injection h with h1 h2
   have h1:qk=pk:=h1;subst h1;rw [oC] at hl ⊢;cases hb:m == qk with
   | true=>rw [hb] at hl; cases hl
   | false=>rw [hb] at hl; exact ih fv h2 hl
section
variable {X:Cx} {k:Nat} {C f:Addr} {fd:ay} {ps:List Str} {sp:jx} {cn m:Str} {apos pos:Pos} {o e:Expr} {es:List Expr} {to:hW} {t:DN}
structure Lp(K:aw)(cn m:Str)(C f:Addr):Prop where
 ns:dj K bu cn=some (some (.ref C))
 cl:Qd K C
 me:Meth K C m f
end
end K2
end
section
namespace K2
open PySem PySem.Spec PyProof.Rows L2
structure ack(K:aw)(C:Addr):Prop where
 cl:Qd K C
 DL:bD K (.ref C) "__class__" = some (some (.builtin "object.__class__"))
 sp:Au K (.builtin "object.__class__") "__get__" = some (some (.builtin "getset_descriptor.__get__"))
 tk:PySem.W.takesIn K (.builtin "object.__class__")=some true
 mo:PySem.W.mroIn K C (.type "object")=some true
end K2
end
section
namespace K2
open PySem PySem.Spec PyProof.Rows L2
noncomputable def PR(X:Cx)(m:Str)(p:Str×jx):Prop:=∃ (C f:Addr) (fd:ay) (ps:List Str) (k:Nat),Lp X.K p.1 m C f/\eA X.prog X.w X.K X.mg X.base eB k f fd ps (bK X.K p.2)/\kK k X.A/\Binds X.K fd ps []
theorem iK{X:Cx}{m:Str}:∀ p∈([]:List (Str×jx)),PR X m p:=fun p h=>by cases h
theorem gO{X:Cx}{m c:Str}{sp:jx}{ms:List (Str×jx)}{C f:Addr}{fd:ay}{ps:List Str}{k:Nat}(M:Lp X.K c m C f)(F:eA X.prog X.w X.K X.mg X.base eB k f fd ps (bK X.K sp))(hr:kK k X.A)(hb:Binds X.K fd ps [])(t:∀ p∈ms,PR X m p):∀ p∈(c,sp) :: ms,PR X m p:=fun p h=>by
 rcases List.mem_cons.mp h with rfl | h
 ·exact⟨C,f,fd,ps,k,M,F,hr,hb⟩
 ·exact t p h
section
variable {X:Cx} {ms:List (Str×jx)} {m:Str} {apos pos:Pos} {o e:Expr} {es:List Expr} {to:hW} {t:DN}
theorem jh{pl:Sem Bool}(Ms:∀ p∈ms,PR X m p)(ho:iD X o to)(ha:FN X (e :: es) t)
  (TH:autoParam (cq (e :: es) X.env=(false,eval e X.env) :: cq es X.env) Ar._auto_1) (u0:autoParam ((nG pos (cq es X.env)).any (·.1)=false) Ar._auto_1)
  (ht:autoParam (eval (.Call (.Attribute o m apos) (e :: es) [] pos) X.env=(do
   let ov ← eval o X.env
   standAt apos.atName
   let (f,first) ← Ni [ov] (getMethod ov m pl)
   callWith pos f first (nG pos (cq (e :: es) X.env)) (backToKw pos (DP [] X.env)))) Ar._auto_1) :
  iD X (.Call (.Attribute o m apos) (e :: es) [] pos) (fN ms m to t):=by
 intro E pins s σ H τ G Q hE I h;refine Lr (pl:=pl) (lO ho hE I h fun x H1 d G1 u s1 I1 m1 r1 j0 q1=>?_) ht;obtain⟨a,c,fs,sp,rfl,hg,ZQ,hl,q⟩:=q1;obtain⟨C,f,fd,ps,k,M,F,hr,hb⟩:=Ms _ ZQ;cases j0;cases r1;obtain⟨C',dx,fv,hH,Cy,hn,rs⟩:=I1.ab a _ hg;have EF:=M.ns.symm.trans Cy;cases EF;refine Bn I1.inv hH M.cl M.me (Di fs fv hn hl) ?_;refine zf (first:=[.ref a]) (h₀:=X.base) I.inv.ok.mod.UN M.me.kp (zg ha pos hE I1 q fun vs H2 ds G2 us s2 mX m2 r rd q2=>⟨mX.inv.Cw,?_⟩) TH u0;refine iy (IT (us:=.ref a :: us) (vs:=.ref a :: vs) F hr hb .nil Kx mX.inv (.cons rfl r) (Q:=Cb X.K H2 G2 Q) ?_) fun _ _ z=>(tK.of z).trans (m1.trans m2);rw [dc];exact⟨.ref a :: ds,G2,Q,.cons (.ref a) rd,mX.ab,q2,fun d G' v H' q' m' P5=>⟨d,G',m',P5,q'⟩⟩
theorem uY{pl:Sem Bool}(Ms:∀ p∈ms,PR X m p)(ho:iD X o to)
  (ht:autoParam (eval (.Call (.Attribute o m apos) [] [] pos) X.env=(do
   let ov ← eval o X.env
   standAt apos.atName
   let (f,first) ← Ni [ov] (getMethod ov m pl)
   callWith pos f first (nG pos (cq [] X.env)) (backToKw pos (DP [] X.env)))) Ar._auto_1) :
  iD X (.Call (.Attribute o m apos) [] [] pos) (fN ms m to aH):=by
 intro E pins s σ H τ G Q hE I h;refine Lr (pl:=pl) (lO ho hE I h fun x H1 d G1 u s1 I1 m1 r1 j0 q1=>?_) ht;obtain⟨a,c,fs,sp,rfl,hg,ZQ,hl,q⟩:=q1;obtain⟨C,f,fd,ps,k,M,F,hr,hb⟩:=Ms _ ZQ;cases j0;cases r1;obtain⟨C',dx,fv,hH,Cy,hnm,rs⟩:=I1.ab a _ hg;have EF:=M.ns.symm.trans Cy;cases EF;refine Bn I1.inv hH M.cl M.me (Di fs fv hnm hl) ?_;refine PySem.W.callWith_K0 (first:=[.ref a]) I1.inv.Cw M.me.kp (iy (IT (us:=[.ref a]) (vs:=[.ref a]) F hr hb .nil Kx I1.inv (.cons rfl .nil) (Q:=Cb X.K H1 G1 Q) ?_) fun _ _ z=>(tK.of z).trans m1);exact⟨[.ref a],G1,Q,.cons (.ref a) .nil,I1.ab,q,fun d G' v H' q' m' P5=>⟨d,G',m',P5,q'⟩⟩
end
end K2
end
section
namespace K2
open PySem PySem.W PySem.Spec PyProof.Rows L2
theorem Zh{α:Type}{us:List α}(h:us.length=7):∃ a b c d e f g,us=[a,b,c,d,e,f,g]:=by
 match us,h with
 | [a,b,c,d,e,f,g],_=>exact⟨a,b,c,d,e,f,g,rfl⟩
theorem Rw{K:Frag}{f:Str}:∀ c∈([]:List Str),gz K f c:=fun c h=>by cases h
theorem Py{K:Frag}{f x:Str}{l:List Str}(h:gz K f x)(t:∀ c∈l,gz K f c):∀ c∈x :: l,gz K f c:=fun c hc=>by
 rcases List.mem_cons.mp hc with rfl | hc
 ·exact h
 ·exact t c hc
theorem fO{K:Frag}{f x:Str}(h:gz K f x):∀ c∈[x],gz K f c:=Py h Rw
structure RE(K:Frag)(cn:Str)(C:Addr):Prop where
 ns:nsIn K bu cn=some (some (.ref C))
 cl:Qd K C
theorem BM {K:Frag} {cn:Str} {C:Addr} (a:autoParam (nsIn K bu cn=some (some (.ref C))) Aq._auto_1) (pg:autoParam (plainGet K C Str.empty=true) Aq._auto_1) (hd:autoParam (hasDictIn K C=true) Aq._auto_1) (po:autoParam (plainOver K C=true) Aq._auto_1) (sa:autoParam (findIn K (.ref C) "__setattr__" = some (some (.builtin "object.__setattr__"))) Aq._auto_1):RE K cn C:=⟨a,⟨pg,hd,po,sa⟩⟩
theorem RE.fld{K:Frag}{cn f:Str}{C:Addr}(c:RE K cn C)(n:yt K C f):gz K f cn:=⟨C,c.ns,c.cl,n⟩
structure FO(K:Frag)(C:Addr)(m q:Str)(st:Stmt)(f:Addr)(fd:ay):Prop where
 at_:findIn K (.ref C) m=some (some (.ref f))
 fn:isFn K (.ref f)=true
 F:L2.kP K m q st f fd
theorem lW{K:Frag}{m q:Str}{C:Addr}{st:Stmt}{f:Addr}{oc:Value}{od an:Option Addr}{L0:Array (Option Value)}{kV doc pm oR ct:Value}(a:autoParam (findIn K (.ref C) m=some (some (.ref f))) Aq._auto_1)(fn:autoParam (isFn K (.ref f)=true) Aq._auto_1)(l:autoParam (K.lookup f=some ⟨oc,od,.func (fnOf m q (L2.kn st) (L2.i4 st) (L2.aW st) .none kV doc pm an oR ct),L0⟩) Aq._auto_1)
  (c:autoParam (codeIn K oR q=true) Aq._auto_1) (k:autoParam (keepIn K (.ref f)=true) Aq._auto_1):FO K C m q st f (fnOf m q (L2.kn st) (L2.i4 st) (L2.aW st) .none kV doc pm an oR ct):=⟨a,fn,L2.O8 l c k⟩
theorem FO.me{K:Frag}{C:Addr}{cn m q:Str}{st:Stmt}{f:Addr}{fd:ay}(z:FO K C m q st f fd)(c:RE K cn C):Lp K cn m C f:=⟨c.ns,c.cl,⟨z.at_,z.fn,z.F.kp⟩⟩
theorem FO.maker {K:Frag} {C:Addr} {q:Str} {st:Stmt} {f:Addr} {fd:ay} (z:FO K C "__init__" q st f fd) (mk:makesIn K C=true) (kp:keepIn K (.ref C)=true):Mk K C f:=⟨mk,z.at_,z.fn,kp⟩
structure B1(P:bU)(w:World)(K:Frag)(mg:Str->Option Value)(base:Heap)(CX:L2.Lq)(k:Nat)(f:Addr)(fd:ay)(C:Addr)(cn m:Str)(ps:List Str)(sp:L2.Sp):Prop where
 ok:L2.eA P w K mg base CX k f fd ps sp
 bi:L2.Binds K fd ps []
 me:Lp K cn m C f
structure FE(P:bU)(w:World)(K:Frag)(mg:Str->Option Value)(base:Heap)(k:Nat)(f:Addr)(fd:ay)(C:Addr)(cn:Str)(ps:List Str)(sp:L2.Sp):Prop where
 ok:L2.eA P w K mg base eB k f fd ps sp
 bi:L2.Binds K fd ps []
 P7:Mk K C f
 ns:nsIn K bu cn=some (some (.ref C))
 mg:mg cn=some (.ref C)
structure CIs(K:Frag)(mg:Str->Option Value)(cn:Str)(C:Addr):Prop where
 ns:nsIn K bu cn=some (some (.ref C))
 mg:mg cn=some (.ref C)
end K2
end
section
namespace K2
open PySem PySem.W PySem.Spec PyProof.Rows PySem.Calls
theorem Mf{p q:bU}{loose:List Str}{Xt:aF->Bool}{α:Type}{Yf:aF->α}{Ya:World->α}{N:Nat}(e:opening p=plainProg p.main.scope.names)(hN:Nat.ble 600 N=true)(f:∀ s,fenceModules? p s=some s)
  (h:∀ (w:World) (os:mP),(topFrom jy p w N ⟨hZ w.params,lC [],jz,vF,os⟩).map (fun s=>(openSeen q loose (nE p.main.body) Xt true s,Yf s))=some (MZ q loose,Ya w)):LeftO p q loose Xt Yf Ya N:=fun w=>by
 obtain⟨⟨h',gs,d,k,os⟩,e1,e2⟩:=Option.map_eq_some_iff.mp (boot_open e hN f w);obtain⟨rfl,rfl,rfl,rfl⟩:h'=hZ w.params/\gs=lC []/\d=jz/\k=vF:=by simpa using e2
 unfold openEnds;rw [e1];exact h w os
noncomputable abbrev Ki(l:OpenLaw)(q:bU):Bool:=chainsOk q&&opensWell l.row.prog&&(frees l.row.toRowW&&l.row.within.isEmpty)
noncomputable abbrev Sr(l:OpenLaw)(q:bU)(s:aF):Bool:=xlAt q [] s&&recOk l.row.records s
theorem MB{l:OpenLaw}{q:bU}{loose:List Str}{K:nH->Frag}{as:List Addr}{d:DefRec}{N:Nat}(ok:l.wellSaid=true)(e:opening l.row.prog=plainProg l.row.prog.main.scope.names)(hN:Nat.ble 600 N=true)(f:∀ s,fenceModules? l.row.prog s=some s)(hK:∀ P,as=(K P).map (·.1))
  (h:∀ (w:World) (os:mP),(topFrom jy l.row.prog w N ⟨hZ w.params,lC [],jz,vF,os⟩).map (fun s=>(openSeen q loose (nE l.row.prog.main.body) (Sr l q) true s,as.map s.heap.get?))=some (MZ q loose,(K w.params).map fun p=>some p.2))
  (hd:defOf q l.row.name=some (d,[])) (hp:l.row.prog.theDef l.row.name=some (d.params,d.body,d.scope)) (hk:kwWritten? d.params.kwonlyargs d.params.kw_defaults=some []) (hr:(!l.row.writes||l.row.records.isEmpty)=true) (ht:Ki l q=true) (hb:l.row.prog.bare) (hw:l.row.toRowW.promised)
  (c:WalkO q loose (XL q []) (InK K) l.row.toRowW d [] fun f vs=>J7 f vs):l.Holds :=
 holds_law ok fun k1=>holds_open (Mf (Yf:=Hook.obs (kHook K as hK)) (Ya:=Hook.val (kHook K as hK)) e hN f h) (Hook.of (kHook K as hK)) (Hook.keeps (kHook K as hK)) (fun s x=>xl_of s (Bool.and_eq_true_iff.mp x).1) XL.keeps hd hp hk (fun s x=>recFacts_of (Bool.and_eq_true_iff.mp x).2) hr k1 ht hb hw c
structure At(K:Frag)(x:Str)(st:Stmt)(f:Addr)(fd:ay):Prop where
 a:nsIn K bu x=some (some (.ref f))
 F:L2.kP K x x st f fd
theorem At.mg{K:Frag}{h:Heap}{mg:Str->Option Value}{x:Str}{st:Stmt}{f:Addr}{fd:ay}(z:At K x st f fd)(X:K.In h)(G:h.Ns bu mg):mg x=some (.ref f):=mg_of X G z.a
theorem fF{K:Frag}{x:Str}{st:Stmt}{f:Addr}{oc:Value}{od an:Option Addr}{L0:Array (Option Value)}{kV doc pm oR ct:Value}(a:autoParam (nsIn K bu x=some (some (.ref f))) Aq._auto_1)(l:autoParam (K.lookup f=some ⟨oc,od,.func (fnOf x x (L2.kn st) (L2.i4 st) (L2.aW st) .none kV doc pm an oR ct),L0⟩) Aq._auto_1)
  (c:autoParam (codeIn K oR x=true) Aq._auto_1) (k:autoParam (keepIn K (.ref f)=true) Aq._auto_1):At K x st f (fnOf x x (L2.kn st) (L2.i4 st) (L2.aW st) .none kV doc pm an oR ct):=⟨a,L2.O8 l c k⟩
structure kL(P:bU)(w:World)(K:Frag)(mg:Str->Option Value)(base:Heap)(CX:L2.Lq)(k:Nat)(f:Addr)(fd:ay)(x:Str)(ps:List Str)(sp:L2.Sp):Prop where
 ok:L2.eA P w K mg base CX k f fd ps sp
 mg:mg x=some (.ref f)
 kp:keepIn K (.ref f)=true
 bi:L2.Binds K fd ps []
end K2
end
section
namespace K2
open PySem PySem.W PySem.Spec PyProof.Rows PySem.Calls
noncomputable def vN(tb:String->Option Builtin)(p:bU)(w:World)(qb:Nat)(ann:Option Value):Nat->o7->Thread->Option o7
 | 0,_,_=>none
 | n+1,s,t=>match through t with
  | true=>some s
  | false=>match stepOk qb ann t with
   | false=>none
   | true=>match stepT (denote tb) p w s t with
    | some (s',t')=>vN tb p w qb ann n s' t'
    | none=>none
theorem QC{tb:String->Option Builtin}{p:bU}{w:World}{qb:Nat}{ann:Option Value}:∀ {n:Nat} {s s':o7} {t:Thread},vN tb p w qb ann n s t=some s'->topRun tb p w qb ann n s.abs t=some s'.abs:=by
 intro n;induction n with
 | zero=>intro s s' t h; cases h
 | succ n ih =>
  intro s s' t h;unfold vN at h;unfold topRun;cases ht:through t with
  | true=>rw [ht] at h; cases h; rfl
  | false =>
   rw [ht] at h;cases hk:stepOk qb ann t with
   | false=>rw [hk] at h; cases h
   | true =>
    rw [hk] at h;cases hs:stepT (denote tb) p w s t with
    | none=>rw [hs] at h; cases h
    | some r =>
     obtain⟨lQ,Yj⟩:=r;rw [hs] at h;rw [stepT_spec hs];exact ih h
noncomputable def bt(l:List Obj):BT:=(l.foldl (fun (p:BT×Nat) o=>(p.1.ins p.2 o,p.2+1)) (BT.nil,0)).1
noncomputable def PF(P:nH)(os:mP):o7:=⟨bt (hZ P).objs.toList,(hZ P).objs.size,(hZ P).life,lC [],jz,vF,os⟩
theorem MQ(P:nH)(os:mP):(PF P os).abs=⟨hZ P,lC [],jz,vF,os⟩:=by kernel_rfl
noncomputable abbrev RU{α:Type}(p q:bU)(loose:List Str)(Xt:aF->Bool)(Yf:aF->α)(P:nH)(s:aF):=((staticsOk (nE p.main.body) (hZ P) s.heap&&namesBound p s.heap&&gensDone s&&laidKept (hZ P) s.heap),openSeen q loose (nE p.main.body) Xt true s,Yf s)
end K2
end
section
namespace K2
open PySem PySem.W PySem.Spec PyProof.Rows PySem.Calls
noncomputable def WI(tb:String->Option Builtin)(p:bU)(w:World)(qb:Nat)(ann:Option Value):Nat->o7->Thread->Option (o7×Thread)
 | 0,s,t=>some (s,t)
 | n+1,s,t=>match through t with
  | true=>none
  | false=>match stepOk qb ann t with
   | false=>none
   | true=>match stepT (denote tb) p w s t with
    | some (s',t')=>WI tb p w qb ann n s' t'
    | none=>none
section
variable {tb:String->Option Builtin} {p:bU} {w:World} {qb:Nat} {ann:Option Value} {b:List Stmt} {env:Env} {c:Code} {q pos p':Pos}
theorem T6:∀ {n:Nat} {s s':o7} {t t':Thread},WI tb p w qb ann n s t=some (s',t')->topGo tb p w qb ann n s.abs t=some (s'.abs,t'):=by
 intro n;induction n with
 | zero=>intro s s' t t' h; cases h; rfl
 | succ n ih =>
  intro s s' t t' h;unfold WI at h;unfold topGo;cases ht:through t with
  | true=>rw [ht] at h; cases h
  | false =>
   rw [ht] at h;cases hk:stepOk qb ann t with
   | false=>rw [hk] at h; cases h
   | true =>
    rw [hk] at h;cases hs:stepT (denote tb) p w s t with
    | none=>rw [hs] at h; cases h
    | some r =>
     obtain⟨lQ,Yj⟩:=r;rw [hs] at h;rw [stepT_spec hs];exact ih h
theorem MO{nA nB N:Nat}{s0 sA sB:o7}{r:aF}(h1:WI tb p w qb ann nA s0 (topStub p)=some (sA,⟨denote tb (.body b env),c,pos,[pM q]⟩))(h2:segRunT tb p w qb ann 1 nB sA (blockOf b env c pos [pM q])=some (.next,sB,c,p'))
  (k:topRun tb p w qb ann N sB.abs (restOf b env c p' [pM q])=some r):topRun tb p w qb ann (nA+(nB+N)) s0.abs (topStub p)=some r:=go_top (T6 h1) (piece_block (segRun_of h2) k)
theorem BI(k:Nat){n N:Nat}{s s':o7}{r:aF}(h:segRunT tb p w qb ann 1 n s (piecesOf (b.take k) env c pos [pM q])=some (.next,s',c,p'))
  (hk:topRun tb p w qb ann N s'.abs (restOf (b.drop k) env c p' [pM q])=some r):topRun tb p w qb ann (n+N) s.abs (restOf b env c pos [pM q])=some r:=by
 have:=piece_app (segRun_of h) hk
 rwa [da] at this
end
theorem Qw{p q:bU}{loose:List Str}{Xt:aF->Bool}{α:Type}{Yf:aF->α}{Ya:World->α}{N M:Nat}{w:World}{os:mP}{Q6:Nat}{ann:Option Value}{sL:o7}{tL:Thread}
  (hz:((hZ w.params).isNs bu,(hZ w.params).objs.size,(hZ w.params).nsMap bu "__annotations__")=(true,Q6,ann))
  (h:(vN jy p w Q6 ann M sL tL).map (fun s=>RU p q loose Xt Yf w.params s.abs)=some (true,MZ q loose,Ya w))
  (k:∀ r,topRun jy p w Q6 ann M sL.abs tL=some r->topRun jy p w Q6 ann N (PF w.params os).abs (topStub p)=some r) :
  (topFrom jy p w N ⟨hZ w.params,lC [],jz,vF,os⟩).map (fun s=>(openSeen q loose (nE p.main.body) Xt true s,Yf s))=some (MZ q loose,Ya w):=by
 obtain⟨s,e1,e2⟩:=Option.map_eq_some_iff.mp h;have r:=k _ (QC e1);rw [MQ] at r;obtain⟨z1,z2,z3⟩:_/\_/\_:=by simpa only [ID] using hz
 obtain⟨l1,l2,l3⟩:_/\_/\_:=by simpa only [ID] using e2
 have t:topFrom jy p w N ⟨hZ w.params,lC [],jz,vF,os⟩=some s.abs:=by
  unfold topFrom;dsimp only;have g:((lC []:Array GenState).size == 0)=true:=rfl;rw [z1,z2,z3,g,pO,r];dsimp only [Option.bind_some];rw [l1]
 rw [t];exact congrArg some (Prod.ext l2 l3)
end K2
end
section
namespace K2
open PySem (Str)
open Enc (enc)
theorem Pg{α:Type} [DecidableEq α] [Enc α](xs:List α):(enc xs:D)=.fJ (xs.map enc):=rfl
theorem kz{α:Type} [DecidableEq α] [Enc α]{G G1:Gp}{p:Nat}{xs:List α}{Q:DK}(l:fy G G1)(hp:G p=none)(h1:G1 p=some (.lst (xs.map enc)))(q:Q (enc xs) G):PT G1 (.ref p) Q :=
 Jz l hp h1 (Fx.same _) q
theorem gJ{α:Type}{f:α->D}{g:DM}{body:g7}{ok:Gp->Prop}{xs:List α}{E:mW}{K:lM}{τ:iP}{G:Gp}(I:List α->iP->Gp->Prop)
  (h0:I [] τ G) (fB:∀ pre τ G,I pre τ G->ok G)
  (step:∀ (pre:List α) (x:α) (post:List α) τ G (N:iP->Gp->Prop),xs=pre++x :: post->I pre τ G->(∀ C1 G2,I (pre++[x]) C1 G2->N C1 G2) ->
   g E (f x) τ G fun uF G1=>body E { K with nx:=N,ct:=N,bk:=K.nx } uF G1)
  (fin:∀ τ G,I xs τ G->K.nx τ G):sP g body ok (xs.map f) E K τ G:=by
 have main:∀ (post pre:List α) τ G,xs=pre++post->I pre τ G->sP g body ok (post.map f) E K τ G:=by
  intro post;induction post with
  | nil =>
   intro pre τ G e h;rw [dc] at e;subst e;exact⟨fB _ _ _ h,fin _ _ h⟩
  | cons d post ih =>
   intro pre τ G e h;refine⟨fB _ _ _ h,?_⟩;exact step pre d post τ G _ e h fun C1 G2 h2=>ih (pre++[d]) C1 G2 (by rw [e,bW]; rfl) h2
 exact main xs [] τ G rfl h0
theorem lx{α:Type}{f:α->D}{g:DM}{c:Option zE}{e:hW}{ok:Gp->Prop}{xs:List α}{E:mW}{τ:iP}{G:Gp}{Q:List D->Gp->Prop}(I:List α->List D->iP->Gp->Prop)
  (h0:I [] [] τ G) (fB:∀ pre acc τ G,I pre acc τ G->ok G)
  (step:∀ (pre:List α) (x:α) (post:List α) (acc:List D) τ G (N:iP->List D->Gp->Prop),xs=pre++x :: post->I pre acc τ G->(∀ C1 MS G2,I (pre++[x]) MS C1 G2->N C1 MS G2) ->
   g E (f x) τ G fun uF G1=>match c with
    | none=>e E uF G1 fun x G2=>N uF (acc++[x]) G2
    | some c=>c E uF G1 fun k G2=>if k=true then e E uF G2 fun x G3=>N uF (acc++[x]) G3 else N uF acc G2)
  (fin:∀ acc τ G,I xs acc τ G->Q acc G):kA g c e ok (xs.map f) E τ G [] Q:=by
 have main:∀ (post pre:List α) (acc:List D) τ G,xs=pre++post->I pre acc τ G->kA g c e ok (post.map f) E τ G acc Q:=by
  intro post;induction post with
  | nil =>
   intro pre acc τ G e h;rw [dc] at e;subst e;exact⟨fB _ _ _ _ h,fin _ _ _ h⟩
  | cons d post ih =>
   intro pre acc τ G e' h;refine⟨fB _ _ _ _ h,?_⟩;have:=step pre d post acc τ G (fun C1 MS G2=>kA g c e ok (post.map f) E C1 G2 MS Q) e' h fun C1 MS G2 h2=>ih (pre++[d]) MS C1 G2 (by rw [e',bW]; rfl) h2;cases c with
   | none=>exact this
   | some c=>exact this
 exact main xs [] [] τ G rfl h0
theorem iF{α:Type} [DecidableEq α] [Enc α]{xs:List α}{G:Gp}{R:List D->(Gp->Prop)->Gp->Prop}(h:R (xs.map enc) (fun _=>True) G):Qa (enc xs) G R:=h
theorem Hb{α:Type} [DecidableEq α] [Enc α]{xs:List α}{G:Gp}{R:List D->(Gp->Prop)->Gp->Prop}(h:R (nX 0 (xs.map enc)) (fun _=>True) G):wQ (enc xs) G R:=h
theorem FJ{n:Nat}(h:n<=1000):n<=SZ:=by unfold SZ; lia
theorem zh{n:Nat}(h:n<=1000):n < SZ:=by unfold SZ; lia
noncomputable abbrev Rows:=List (List T3)
noncomputable def T3.s(p:T3):T2:=⟨p.a,p.b⟩
structure Dr(rows:Rows):Prop where
 nd:(rows.flatten.map T3.s).Nodup
 way:∀ p∈rows.flatten,p.b=0\/p.b=1
 hand:∀ p∈rows.flatten,p.c=1\/p.c=-1
 zo:∀ p∈rows.flatten,(⟨p.a,1 - p.b,p.c⟩:T3)∈rows.flatten
 zw:rows.flatten.length<=24
 str:rows.length<=3
namespace P
noncomputable def iH:jx:=SH (fun rows:Rows=>rows.flatten.length<=1000) fun rows=>rows.flatten
noncomputable def sf:g7 :=
 (bE (bH (fh aH) (aI 1))
 (bE (eZ (ky (aj 0)) (aI 2) (eG (qU vL zZ (aj 1) (ah (aj 2) aH))))
 (bw (c7 (aj 1)))))
theorem BS(ds:List D)(G:Gp)(Q:DK)(h:iH ds G Q fun _ _=>False):sf (fun _ _=>False) (ends Q) (aX 3 ds) G:=by
 obtain⟨rows,rfl,hl,q⟩:=h;unfold sf;simp only [ends,aX,aq,aO,ag,au,a0,aB,aG,fI,bH,fh,aH,aI,ao,ak];refine⟨by decide,fun p hp=>?_⟩;refine bL (fun τ G'=>(∃ b,τ=[some (enc rows),some (.ref p),b])/\fy G G'/\G' p=some (.lst (rows.flatten.map enc))) ?_ ?_
 ·intro N hN;simp only [eZ,dw,aj,aa];refine iF ?_;refine gJ (xs:=rows) (fun pre τ G'=>(∃ b,τ=[some (enc rows),some (.ref p),b])/\fy G G'/\G' p=some (.lst (pre.flatten.map enc))) ⟨⟨_,rfl⟩,.new hp,aC⟩ (fun _ _ _ _=>trivial) ?_ ?_
  ·rintro pre r post τ G' N2 e ⟨⟨b,rfl⟩,l,gp⟩ Bm;have hlen:pre.flatten.length+r.length<=rows.flatten.length:=by
    rw [e]; simp only [qw,bP,aL]; lia
   simp only [aI,eG,qU,aj,ao,ak,ae,aa,iY,gp,ah,aH,mr,mw (IsL.enc r),true_and];refine⟨FJ (by simp only [ax]; lia),?_⟩;refine Bm _ _ ⟨⟨_,rfl⟩,l.put hp,?_⟩;rw [aC]; simp
  ·rintro τ G' ⟨⟨b,rfl⟩,l,gp⟩;exact hN _ _ ⟨⟨_,rfl⟩,l,gp⟩
 ·rintro _ G' ⟨⟨b,rfl⟩,l,gp⟩;simp only [bw,c7,aj,ae,aa];exact kz l hp gp q
theorem pD(p:T3):(enc p:D)=.tup [.int p.a,.int p.b,.int p.c]:=rfl
theorem K7(i:Int):(enc i:D)=.int i:=rfl
theorem JS{a:D}{r:List D}:pQ (a :: r) 0=some a:=by
 rw [gm _ (by lia) (by simp)]; rfl
theorem DL{a b:D}{r:List D}:pQ (a :: b :: r) 1=some b:=by
 rw [gm _ (by lia) (by simp; lia)]; rfl
theorem at2{a b c:D}{r:List D}:pQ (a :: b :: c :: r) 2=some c:=by
 rw [gm _ (by lia) (by simp; lia)]; rfl
noncomputable def names(rows:Rows):List Int:=D3 ((rows.flatten.filter fun p=>p.b == 0).map (·.a))
noncomputable def handOf(rows:Rows)(n:Int):Int:=((rows.flatten.find? fun p=>p.a == n).map (·.c)).getD 0
noncomputable def kr:jx:=Vo (fun (rows:Rows) (n:Int)=>rows.flatten.length<=1000/\∃ p∈rows.flatten,p.a=n) handOf
noncomputable def AV:g7 :=
 (bE (eZ (ky (a8 iH (ah (aj 0) aH))) (aI 2) (cA (c8 (aM (nu false) (aM eY (aj 2) (dC (.int 0))) (aj 1))) (bw (c7 (aM eY (aj 2) (dC (.int 2))))) bz))
 qT)
theorem JY(ds:List D)(G:Gp)(Q:DK)(h:kr ds G Q fun _ _=>False):AV (fun _ _=>False) (ends Q) (aX 3 ds) G:=by
 obtain⟨rows,n,rfl,⟨hl,hn⟩,q⟩:=h;unfold AV;refine bL (fun τ G'=>False) ?_ (fun _ _ h=>h.elim);intro N hN;simp only [eZ,aX,aq,aO,ag,au,a0,aB,aG,ends,dw,a8,ah,aj,aa,aH];refine⟨rows,rfl,hl,iF ?_⟩;refine gJ (xs:=rows.flatten) (fun pre τ G'=>G=G'/\(∃ a,τ=[some (enc rows),some (enc n),a])/\∀ p∈pre,p.a≠n) ⟨rfl,⟨_,rfl⟩,by simp⟩ (fun _ _ _ _=>trivial) ?_ ?_
 ·rintro pre x post τ G' N2 e ⟨rfl,⟨a,rfl⟩,hp⟩ Bm;simp only [aI,cA,K7,pD,ao,ak,bw,c7,aM,aj,ae,aa,dC,cM,at2,bz,bI,JS];refine⟨_,_,.int _,.int _,?_⟩;simp only [ai,sU,if_false,aN];by_cases hx:x.a=n
  ·simp only [hx,beq_self_eq_true,if_true];refine fD ?_;have:handOf rows n=x.c:=by
    unfold handOf;have:rows.flatten.find? (fun p=>p.a == n)=some x:=by
     rw [e,C0];have:pre.find? (fun p=>p.a == n)=none:=by
      rw [rJ]; intro p ZI; simpa using hp p ZI
     rw [this];simp [hx]
    rw [this]; rfl
   rw [<-this]; exact q
  ·have:(x.a == n)=false:=by simpa using hx
   simp only [this,ai,if_false];refine Bm _ _ ⟨rfl,⟨_,rfl⟩,fun p ZI=>?_⟩;rcases List.mem_append.mp ZI with h | h
   ·exact hp p h
   ·rw [List.mem_singleton.mp h]; exact hx
 ·rintro τ G' ⟨rfl,_,hp⟩;obtain⟨p,KW,pP⟩:=hn;exact absurd pP (hp p KW)
noncomputable def bC(row:List T3)(i:Int):List T2:=if row=[] then [⟨i,2⟩] else row.map T3.s
noncomputable def iR:jx:=Vo (fun (row:List T3) (_:Int)=>row.length<=1000) bC
noncomputable def yH:g7 :=
 (bE (cA (fH (c8 (aj 0))) (bw (c7 (fh (ah (dW (ah (aj 1) (ah (dC (.int 2)) aH))) aH)))) bz)
 (bw (c7 (hU 1 [] (ky (aj 0)) (aI 0) none (zC (aj 0) eV (mV (dC (.int 2))))))))
theorem Ia(ds:List D)(G:Gp)(Q:DK)(h:iR ds G Q fun _ _=>False):yH (fun _ _=>False) (ends Q) (aX 2 ds) G:=by
 obtain⟨row,i,rfl,hl,q⟩:=h;unfold yH;refine bL (fun τ G'=>G=G'/\τ=[some (enc row),some (enc i)]/\row≠[]) ?_ ?_
 ·intro N hN;simp only [cA,fH,aX,aq,aO,ag,au,aB,aG,bw,c7,fh,ah,dW,aj,ae,aa,dC,aH,ends,bz,bI];refine AD (IsL.enc row) ?_;cases row with
  | nil =>
   simp only [aO,uV,aK,bp,if_true];refine⟨by decide,by decide,fun p hp=>kz (xs:=[(⟨i,2⟩:T2)]) (.new hp) hp aC ?_⟩;exact q
  | cons a r =>
   simp only [aq,tR,bp,aK,ai,if_false];exact hN _ _ ⟨rfl,rfl,by simp⟩
 rintro _ _ ⟨rfl,rfl,mz⟩;simp only [bw,c7,hU,ends,dw,aj,aa];refine iF ⟨FJ (by rw [ax]; exact hl),?_⟩;refine lx (xs:=row) (fun pre acc τ G'=>G=G'/\(∃ a,τ=[a])/\acc=(pre.map T3.s).map enc) ⟨rfl,⟨_,rfl⟩,rfl⟩ (fun _ _ _ _ _=>trivial) ?_ ?_
 ·rintro pre x post acc τ G' N e ⟨rfl,⟨a,rfl⟩,rfl⟩ hN;simp only [aI,zC,aj,pD,ak,aa,eV,tU,ag,au,jc,dC,gW];refine⟨by decide,hN _ _ _ ⟨rfl,⟨_,rfl⟩,?_⟩⟩;rw [aJ,aJ]; rfl
 ·rintro acc τ G' ⟨rfl,⟨a,rfl⟩,rfl⟩ p hp;refine kz (.new hp) hp aC ?_;have:bC row i=row.map T3.s:=by unfold bC; rw [if_neg mz]
  rw [<-this]; exact q
noncomputable def bq:Rows->Nat->List T2
 | [],_=>[]
 | r :: rs,k=>bC r (k:Int)++bq rs (k+1)
theorem qC:∀ (a b:Rows) (k:Nat),bq (a++b) k=bq a k++bq b (k+a.length)
 | [],b,k=>by simp [bq]
 | r :: a,b,k=>by rw [aB,bq,bq,qC a b (k+1),bW,ag]; congr 3; lia
noncomputable def RI(rows:Rows):List T2:=D3 (bq rows 0)
theorem Pf(xs:List (List T3)):nX 0 (xs.map enc)=(xs.zipIdx 0).map fun p=>D.tup [.int (p.2:Int),enc p.1]:=by
 have:∀ (xs:List (List T3)) (k:Nat),nX k (xs.map enc)=(xs.zipIdx k).map fun p=>D.tup [.int (p.2:Int),enc p.1]:=by
  intro xs;induction xs with
  | nil=>intro k; rfl
  | cons x xs ih=>intro k; rw [aq,nX,ih,uU,aq]
 exact this xs 0
theorem DY{α:Type}{xs:List α}{pre post:List (α×Nat)}{x:α×Nat}(h:xs.zipIdx 0=pre++x :: post):∃ l r,xs=l++x.1 :: r/\x.2=l.length/\pre=l.zipIdx 0:=by
 have e1:xs=(pre.map (·.1))++x.1 :: post.map (·.1):=by
  have:=congrArg (List.map (·.1)) h;rw [List.zipIdx_map_fst] at this;rw [this]; simp
 have hl:pre.length < (xs.zipIdx 0).length:=by rw [h]; simp
 have hx:(xs.zipIdx 0)[pre.length]?=some x:=by rw [h]; simp
 refine⟨pre.map (·.1),post.map (·.1),e1,?_,?_⟩
 ·rw [Qk] at hx;rw [ax];cases q:xs[pre.length]? with
  | none=>rw [q] at hx; cases hx
  | some y=>rw [q] at hx; simp at hx; rw [<-hx]
 ·have:(pre.map (·.1)).zipIdx 0=(xs.zipIdx 0).take pre.length:=by
   conv=>rhs; rw [e1,rG]
   rw [FF (by simp)];rw [nc (by simp)]
  rw [this,h]; simp
theorem aao{a b c:D}:cut [a,b,c] none (some 2)=[a,b]:=rfl
theorem Mc{α:Type} [DecidableEq α] [Enc α](xs:List α)(G:Gp):A7 (enc xs) G=some (xs.map enc,fun _=>True):=rfl
theorem Mb{a:Nat}{ds:List D}{G:Gp}(h:G a=some (.lst ds)):A7 (.ref a) G=some (ds,fun G2=>G2 a=some (.lst ds)):=by unfold A7; simp only [h]
theorem FX{α β:Type} [DecidableEq α] [Enc α] [DecidableEq β] [Enc β]:∀ (xs:List α) (ys:List β),um (xs.map enc) (ys.map enc)=(xs.zip ys).map fun p=>D.tup [enc p.1,enc p.2]
 | [],ys=>by simp [um]
 | x :: xs,[]=>by simp [um]
 | x :: xs,y :: ys=>by simp [um,FX xs ys]
theorem LK{κ α:Type} [DecidableEq κ] [Enc κ] [tJ κ] [DecidableEq α] [Enc α]{a:Nat}{l:List (κ×α)}{k:κ}{v:α}{G:Gp}{Q:Gp->Prop}(h:G a=some (.oq (ke l)))(hl:l.length<=1000)(q:Q (cW G a (.oq (ke (yn l k v))))):Gq (.ref a) (enc k) (enc v) G Q:=by
 unfold Gq;simp only [h];refine⟨Bh l k,?_,by rw [QO]; exact q⟩;unfold ke; rw [ax]; exact zh hl
noncomputable def h8(r:List T3):List T3:=r.drop 1++r.take 1
noncomputable def pairsOf(rows:Rows):List (T3×T3):=rows.flatMap fun r=>r.zip (h8 r)
noncomputable def jq(ps:List (T3×T3)):List (T2×T2):=ps.foldl (fun l p=>yn l p.1.s p.2.s) []
theorem L6(ps:List (T3×T3)):(jq ps).length<=ps.length:=by
 have:∀ (ps:List (T3×T3)) (l:List (T2×T2)),(ps.foldl (fun l p=>yn l p.1.s p.2.s) l).length<=l.length+ps.length:=by
  intro ps;induction ps with
  | nil=>intro l; simp
  | cons p ps ih =>
   intro l;rw [qu,ag];have h1:=ih (yn l p.1.s p.2.s);have h2:=PK l p.1.s p.2.s;lia
 simpa [jq] using this ps []
theorem Jd(ps:List (T3×T3))(p:T3×T3):jq (ps++[p])=yn (jq ps) p.1.s p.2.s:=by unfold jq; rw [List.foldl_append]; rfl
noncomputable def lR:jx:=fun ds G Q _=>∃ rows:Rows,ds=[enc rows]/\rows.flatten.length<=500/\Q (.yE (ke (jq (pairsOf rows)))) G
theorem pairs_len(rows:Rows):(pairsOf rows).length<=rows.flatten.length:=by
 unfold pairsOf;induction rows with
 | nil=>simp
 | cons r rs ih=>simp only [cO,bP,aL,List.length_zip]; lia
noncomputable def AQ:g7 :=
 (bE (bH JP (aI 1))
 (bE (eZ (ky (aj 0)) (aI 2) (eZ (TC (aj 2) (aM kJ (zC (aj 2) (mV (dC (.int 1))) eV) (zC (aj 2) eV (mV (dC (.int 1)))))) (MG (uS (aI 3) (uS (aI 4) Jy))) (bH (zC (aj 4) eV (mV (dC (.int 2)))) (O6 (aj 1) (zC (aj 3) eV (mV (dC (.int 2))))))))
 (bw (c7 (aj 1)))))
theorem JW(ds:List D)(G:Gp)(Q:DK)(h:lR ds G Q fun _ _=>False):AQ (fun _ _=>False) (ends Q) (aX 5 ds) G:=by
 obtain⟨rows,rfl,hl,q⟩:=h;unfold AQ;simp only [ends,aX,aq,aO,ag,au,a0,aB,aG,fI,bH,JP,l0,aI,ao,ak];intro d hd;refine bL (fun τ G'=>(∃ a b c,τ=[some (enc rows),some (.ref d),a,b,c])/\fy G G'/\G' d=some (.oq (ke (jq (pairsOf rows))))) ?_ ?_
 ·intro N hN;simp only [eZ,dw,aj,aa];refine iF ?_;refine gJ (xs:=rows) (fun pre τ G'=>(∃ a b c,τ=[some (enc rows),some (.ref d),a,b,c])/\fy G G'/\G' d=some (.oq (ke (jq (pairsOf pre))))) ⟨⟨_,_,_,rfl⟩,.new hd,aC⟩ (fun _ _ _ _=>trivial) ?_ ?_
  ·rintro pre r post τ G' N2 e ⟨⟨a,b,c,rfl⟩,l,gd⟩ Bm;have hr:pre.flatten.length+r.length<=rows.flatten.length:=by
    rw [e]; simp only [qw,bP,aL]; lia
   simp only [aI,eZ,TC,aj,ao,ak,ae,aa,aM,zC,eV,jc,dC,gW];refine pb (IsL.enc r) fun p1 h1=>?_;refine pb (IsL.enc r) fun p2 h2=>?_;have d1:d≠p1:=by rintro rfl; rw [gd] at h1; cases h1
   have l1:=l.trans (fy.new (o:=.lst (cut (r.map enc) (some 1) none)) h1);have d2:d≠p2:=by rintro rfl; rw [eR d1,gd] at h2; cases h2
   have h12:p1≠p2:=by rintro rfl; rw [aC] at h2; cases h2
   refine tW (IsL.ref (by rw [eR h12,aC])) (IsL.ref aC) ?_ fun p3 h3=>?_
   ·rw [oQ,oQ,ax,ax];have e1:(cut r (some 1) none).length<=r.length:=by unfold cut; rw [cS,cT]; lia
    have e2:(cut r none (some 1)).length<=r.length:=by unfold cut; rw [cS,cT]; lia
    exact FJ (by lia)
   have d3:d≠p3:=by rintro rfl; rw [eR d2,eR d1,gd] at h3; cases h3
   have et:cut (r.map enc) (some 1) none++cut (r.map enc) none (some 1)=(h8 r).map enc:=by
    rw [oQ,oQ,<-aJ];congr 1;cases r with
    | nil=>rfl
    | cons x r=>rw [show (1:Int)=((1:Nat):Int) from rfl,BJ _ _ (by simp),JR _ _ (by simp)]; rfl
   rw [et];generalize hG3:cW (cW (cW G' p1 (.lst (cut (r.map enc) (some 1) none))) p2 (.lst (cut (r.map enc) none (some 1)))) p3 (.lst ((h8 r).map enc))=G3;have g3:G3 p3=some (.lst ((h8 r).map enc)):=by rw [<-hG3,aC]
   have gd3:G3 d=some (.oq (ke (jq (pairsOf pre)))):=by rw [<-hG3,eR d3,eR d2,eR d1]; exact gd
   have l3:fy G G3:=by rw [<-hG3]; exact(l1.trans (.new h2)).trans (.new h3)
   unfold Bl;rw [Mc,Mb g3];dsimp only;rw [FX];refine gJ (xs:=r.zip (h8 r)) (fun pp τ G'=>(∃ a b c,τ=[some (enc rows),some (.ref d),a,b,c])/\fy G G'/\G' d=some (.oq (ke (jq (pairsOf pre++pp))))/\G' p3=some (.lst ((h8 r).map enc)))
    ⟨⟨_,_,_,rfl⟩,l3,by rw [dc]; exact gd3,g3⟩ (fun _ _ _ h=>⟨trivial,h.2.2.2⟩) ?_ ?_
   ·rintro pp x post τ G4 N3 e4 ⟨⟨a,b,c,rfl⟩,l4,Ri,T5⟩ FL;have hz:(pairsOf pre++pp).length<=1000:=by
     have:=pairs_len pre;have h5:pp.length < (r.zip (h8 r)).length:=by rw [e4]; simp
     rw [List.length_zip] at h5;rw [aL]; lia
    simp only [MG,uS,aI,Jy,bH,zC,aj,pD,ao,ak,ae,aa,eV,O6,tU,ag,au,jc,dC,gW,aao];refine⟨by decide,by decide,?_⟩;refine LK (k:=x.1.s) (v:=x.2.s) Ri (eC (L6 _) hz) ?_;refine FL _ _ ⟨⟨_,_,_,rfl⟩,l4.put hd,?_,by rw [eR (gv d3)]; exact T5⟩;rw [aC,<-bW,Jd]
   ·rintro τ G4 ⟨⟨a,b,c,rfl⟩,l4,Ri,T5⟩;refine Bm _ _ ⟨⟨_,_,_,rfl⟩,l4,?_⟩;have:pairsOf (pre++[r])=pairsOf pre++r.zip (h8 r):=by unfold pairsOf; simp
    rw [this]; exact Ri
  ·rintro τ G' ⟨⟨a,b,c,rfl⟩,l,gd⟩;exact hN _ _ ⟨⟨_,_,_,rfl⟩,l,gd⟩
 ·rintro _ G' ⟨⟨a,b,c,rfl⟩,l,gd⟩;simp only [bw,c7,aj,ae,aa];exact T8 l hd gd q
noncomputable def Wa(s:T2):T3:=⟨s.a,s.b,0⟩
noncomputable def Vy(s:T2):T3:=⟨s.a,s.b,1⟩
noncomputable def SJ(ss:List T2):List T3:=ss.flatMap fun s=>[Wa s,Vy s]
end P
end K2
end
section
namespace K2
open PySem (Str)
open Enc (enc)
class inductive Cn {α:Type} (ps:List (α×α)):α->α->Prop
 | refl (x:α):Cn ps x x
 | pair {x y:α}:(x,y)∈ps->Cn ps x y
 | symm {x y:α}:Cn ps x y->Cn ps y x
 | trans {x y z:α}:Cn ps x y->Cn ps y z->Cn ps x z
theorem tV{α:Type} [DecidableEq α] [Enc α]{neg:Bool}{x:α}{xs:List α}{G:Gp}{Q:DK}(hd:Enc.dep α<=7)(q:Q (.bl (if neg then !decide (x∈xs) else decide (x∈xs))) G):Co neg (enc x) (enc xs) G Q:=by
 refine⟨enc x,xs.map enc,Enc.sn _ _ _ (by unfold SN; lia),qE G 7 hd xs,?_⟩;rw [Fj]; exact q
theorem eD{α:Type} [DecidableEq α] [Enc α]{neg:Bool}{x y:α}{G:Gp}{Q:DK}(hd:Enc.dep α<=8)(q:Q (.bl (if neg then !decide (x=y) else decide (x=y))) G):nu neg (enc x) (enc y) G Q:=by
 refine⟨enc x,enc y,Enc.sn _ _ _ hd,Enc.sn _ _ _ hd,?_⟩;rw [Enc.eqv]; exact q
class Fy (α:Type) [DecidableEq α] [Enc α] [cm α] where
 mn:∀ {x:D} {G:Gp} {xs:List α} {Q:DK},itemsOf x G=some (xs.map enc)->xs≠[]->(∀ m∈xs,(∀ y∈xs,Bf m y=true)->Q (enc m) G)->MP [x] G Q
theorem lY{α:Type} [DecidableEq α] [Enc α] [cm α]:∀ (r:List α) (a:α),r.foldl (fun m x=>if cm.lt x m=true then x else m) a∈a :: r/\∀ y∈a :: r,Bf (r.foldl (fun m x=>if cm.lt x m=true then x else m) a) y=true
 | [],a=>⟨by simp,fun y hy=>by rw [List.mem_singleton.mp hy]; unfold Bf; rw [List.foldl_nil,cm.P9]; rfl⟩
 | b :: r,a=>by
  rw [qu];by_cases c:cm.lt b a=true
  ·rw [if_pos c];obtain⟨h1,h2⟩:=lY r b;refine⟨aU _ h1,fun y hy=>?_⟩;rcases List.mem_cons.mp hy with rfl | hy
   ·refine xX _ _ _ (h2 b (by simp)) ?_;unfold Bf;cases q:cm.lt y b with
    | false=>rfl
    | true=>have:=cm.trans _ _ _ q c; rw [cm.P9] at this; cases this
   ·exact h2 y hy
  ·rw [if_neg c];obtain⟨h1,h2⟩:=lY r a;refine⟨?_,fun y hy=>?_⟩
   ·rcases List.mem_cons.mp h1 with h | h
    ·rw [h]; simp
    ·exact aU _ (aU _ h)
   ·rcases List.mem_cons.mp hy with rfl | hy
    ·exact h2 y (by simp)
    ·rcases List.mem_cons.mp hy with rfl | hy
     ·refine xX _ _ _ (h2 a (by simp)) ?_;unfold Bf; simpa using c
     ·exact h2 y (aU _ hy)
noncomputable instance:Fy Int where
 mn:=by
  intro x G xs Q hi mz k;cases xs with
  | nil=>exact absurd rfl mz
  | cons a r =>
   obtain⟨h1,h2⟩:=lY r a;refine .inl ⟨a :: r,_,hi,rfl,?_⟩;have:(fun (m x:Int)=>if x < m then x else m)=fun m x=>if cm.lt x m=true then x else m:=by
    funext m x;show (if x < m then x else m)=if decide (x < m)=true then x else m
    simp
   show Q (enc (r.foldl (fun m x=>if x < m then x else m) a)) G;rw [this];exact k _ h1 h2
theorem A9:∀ (x y:List Int),wN (fun a b=>decide (a < b)) x y=lexLt x y
 | [],[]=>rfl
 | [],_ :: _=>rfl
 | _ :: _,[]=>rfl
 | a :: x,b :: y=>by simp only [Ba,lexLt,A9 x y]
noncomputable instance:Fy T3 where
 mn:=by
  intro x G xs Q hi mz k;cases xs with
  | nil=>exact absurd rfl mz
  | cons a r =>
   obtain⟨h1,h2⟩:=lY r a;have ei:itemsOf x G=some (((a :: r).map T3.l).map tI):=by rw [hi,jt]; rfl
   refine .inr ⟨(a :: r).map T3.l,_,ei,rfl,?_⟩;have:∀ (r:List T3) (a:T3),(r.map T3.l).foldl (fun m x=>if lexLt x m=true then x else m) a.l=(r.foldl (fun m x=>if cm.lt x m=true then x else m) a).l:=by
    intro r;induction r with
    | nil=>intro a; rfl
    | cons b r ih =>
     intro a;rw [aq,qu,qu];have e:(if lexLt b.l a.l=true then b.l else a.l)=(if cm.lt b a=true then b else a).l:=by
      have:cm.lt b a=lexLt b.l a.l:=A9 _ _;rw [this];split <;> rfl
     rw [e]; exact ih _
   rw [this r a];exact k _ h1 h2
namespace P
section
variable {α:Type} [DecidableEq α] [Enc α] [cm α] [tJ α] [Fy α]
noncomputable def told(ms:List α)(gr:α->List α):List (List α):=D3 ((ms.filter fun m=>(gr m).all fun y=>Bf m y).map fun m=>D3 (gr m))
structure GI(ms:List α)(ps:List (α×α))(l:List (α×List α)):Prop where
 len:l.length<=64
 at':∀ m∈ms,∃ g,lI l m=some g/\g.Nodup/\∀ x,x∈g↔Cn ps m x
end
end P
end K2
end
section
namespace K2
open PySem (Str)
open Enc (enc)
namespace P
theorem PJ{κ β:Type} [DecidableEq κ]{l:List (κ×β)}{k:κ}{v:β}(h:k∉l.map (·.1)):yn l k v=l++[(k,v)]:=by
 unfold yn;rw [if_neg];intro q;obtain⟨p,h1,h2⟩:=List.any_eq_true.mp q;exact h (List.mem_map.mpr ⟨p,h1,by simpa using h2⟩)
theorem Hg{κ β γ:Type} [DecidableEq κ](kf:γ->κ)(vf:γ->β):∀ (ps:List γ) (l:List (κ×β)),(l.map (·.1)++ps.map kf).Nodup->ps.foldl (fun l p=>yn l (kf p) (vf p)) l=l++ps.map fun p=>(kf p,vf p)
 | [],l,_=>by simp
 | p :: ps,l,h=>by
  rw [qu,PJ (fun z=>by
   rw [aq,jf] at h;exact h.2.2 _ z _ (by simp) rfl),Hg kf vf ps _ (by simpa using h)]
  simp
theorem y8{κ β:Type} [DecidableEq κ]:∀ {l:List (κ×β)} {p:κ×β},(l.map (·.1)).Nodup->p∈l->lI l p.1=some p.2
 | q :: l,p,hn,h=>by
  unfold lI;rw [gE];rcases List.mem_cons.mp h with rfl | h
  ·simp
  ·rw [aq,ff] at hn;have:q.1≠p.1:=fun z=>hn.1 (by rw [z]; exact qo h);simp only [this,decide_false];exact y8 hn.2 h
theorem Gb(r:List T3):(h8 r).length=r.length:=by unfold h8; rw [aL,cT,cS]; lia
theorem LZ(rows:Rows):(pairsOf rows).map (·.1)=rows.flatten:=by
 unfold pairsOf;induction rows with
 | nil=>rfl
 | cons r rs ih =>
  rw [cO,aJ,ih,bP];congr 1;rw [List.map_fst_zip]; rw [Gb]; exact aT _
variable {rows:Rows}
theorem O9(d:Dr rows):((pairsOf rows).map fun p=>p.1.s).Nodup:=by
 have:((pairsOf rows).map fun p=>p.1.s)=rows.flatten.map T3.s:=by rw [<-LZ,jt]; rfl
 rw [this]; exact d.nd
theorem OB(d:Dr rows):jq (pairsOf rows)=(pairsOf rows).map fun p=>(p.1.s,p.2.s):=by
 unfold jq;rw [Hg (fun p:T3×T3=>p.1.s) (fun p=>p.2.s) _ _ (by simpa using O9 d)]; rfl
noncomputable def UI(rows:Rows)(s:T2):T3:=(rows.flatten.find? fun p=>decide (p.s=s)).getD ⟨0,0,0⟩
noncomputable def Xn(rows:Rows)(s:T2):T2:=(lI ((pairsOf rows).map fun p=>(p.1.s,p.2.s)) s).getD s
noncomputable def cmg(rows:Rows)(s:T2):T2:=(lI ((pairsOf rows).map fun p=>(p.2.s,p.1.s)) s).getD s
noncomputable def mt(p:T3):T2:=⟨p.a,1 - p.b⟩
noncomputable def fst(p:T3):Bool:=decide (p.b=0) == decide (p.c=1)
theorem Ky(d:Dr rows){p:T3}(h:p∈rows.flatten):UI rows p.s=p:=by
 unfold UI;cases q:rows.flatten.find? (fun x=>decide (x.s=p.s)) with
 | none=>rw [rJ] at q; exact absurd (by simp) (q p h)
 | some x =>
  have h1:=List.find?_some q;have h2:=Kc q;have h1:x.s=p.s:=by simpa using h1
  have:∀ (L:List T3),(L.map T3.s).Nodup->x∈L->p∈L->x=p:=by
   intro L;induction L with
   | nil=>intro _ h; cases h
   | cons y L ih =>
    intro hn hx hp;rw [aq,ff] at hn;rcases List.mem_cons.mp hx with e1 | hx2
    ·rcases List.mem_cons.mp hp with e2 | pP
     ·rw [e1,e2]
     ·exact absurd (by rw [<-e1,h1]; exact qo pP) hn.1
    ·rcases List.mem_cons.mp hp with e2 | pP
     ·exact absurd (by rw [<-e2,<-h1]; exact qo hx2) hn.1
     ·exact ih hn.2 hx2 pP
  exact this _ d.nd h2 h
theorem Tj(d:Dr rows){p q:T3}(h:(p,q)∈pairsOf rows):lI ((pairsOf rows).map fun p=>(p.1.s,p.2.s)) p.s=some q.s/\Xn rows p.s=q.s:=by
 have:=y8 (l:=(pairsOf rows).map fun p=>(p.1.s,p.2.s)) (p:=(p.s,q.s)) (by rw [jt]; exact O9 d) (List.mem_map.mpr ⟨_,h,rfl⟩);refine⟨this,?_⟩;unfold Xn; rw [this]; rfl
noncomputable def om(p:T3):T3:=⟨p.a,1 - p.b,p.c⟩
theorem Oz(d:Dr rows){p:T3}(h:p∈rows.flatten):om p∈rows.flatten:=d.zo p h
theorem RR(p:T3):om (om p)=p:=by
 unfold om; cases p; simp only [T3.mk.injEq,true_and,and_true]; lia
noncomputable def step(rows:Rows)(x:T3):T3 :=
 if x.b=2 then x else
 let al:=decide (x.c=0)
 let p:=if al=true then UI rows (Xn rows x.s) else UI rows x.s
 if (fst p == al)=true then Wa (mt p) else Vy (cmg rows (mt p))
noncomputable def back(rows:Rows)(y:T3):T3 :=
 if y.b=2 then y else
 if y.c=0 then (let p:=UI rows y.s; if fst p=true then Vy (mt p) else Wa (cmg rows (mt p)))
 else (let p:=UI rows (Xn rows y.s); if fst p=true then Wa (cmg rows (mt p)) else Vy (mt p))
theorem xW{n:Int}:n∈names rows↔∃ p∈rows.flatten,p.b=0/\p.a=n:=by
 unfold names;rw [Qy,List.mem_map];constructor
 ·rintro⟨p,h,rfl⟩;obtain⟨h1,h2⟩:=List.mem_filter.mp h;exact⟨p,h1,by simpa using h2,rfl⟩
 ·rintro⟨p,h1,h2,rfl⟩;exact⟨p,List.mem_filter.mpr ⟨h1,by simpa using h2⟩,rfl⟩
theorem EJ(d:Dr rows){p:T3}(h:p∈rows.flatten):handOf rows p.a=p.c:=by
 unfold handOf;cases q:rows.flatten.find? (fun x=>x.a == p.a) with
 | none=>rw [rJ] at q; exact absurd (by simp) (q p h)
 | some x =>
  have h1:x.a=p.a:=by simpa using List.find?_some q
  have h2:=Kc q;show x.c=p.c;have hw:=d.way p h;have Xv:=d.way x h2;by_cases e:x.b=p.b
  ·have:x.s=p.s:=by unfold T3.s; rw [h1,e]
   have e1:=Ky d h2;rw [this,Ky d h] at e1;rw [e1]
  ·have:(om x).s=p.s:=by unfold T3.s om; rw [h1]; congr 1; dsimp only; lia
   have e1:=Ky d (Oz d h2);rw [this,Ky d h] at e1;rw [e1]; rfl
end P
end K2
end
section
namespace K2
open PySem (Str)
open Enc (enc)
namespace P
variable {rows:Rows}
theorem AG{p:T3}(h:p∈rows.flatten):p.s∈bq rows 0:=by
 have:∀ (rs:Rows) (k:Nat),p∈rs.flatten->p.s∈bq rs k:=by
  intro rs;induction rs with
  | nil=>intro k h; cases h
  | cons r rs ih =>
   intro k h;rw [bq,Io];rw [bP,Io] at h;rcases h with h | h
   ·left;unfold bC;rw [if_neg (by rintro rfl; cases h)];exact qo h
   ·exact .inr (ih _ h)
 exact this rows 0 h
theorem qB(rows:Rows):(bq rows 0).length<=rows.flatten.length+rows.length:=by
 have:∀ (rs:Rows) (k:Nat),(bq rs k).length<=rs.flatten.length+rs.length:=by
  intro rs;induction rs with
  | nil=>intro k; simp [bq]
  | cons r rs ih =>
   intro k;have:=ih (k+1);rw [bq,aL,bP,aL,ag];have:(bC r (k:Int)).length<=r.length+1:=by
    unfold bC; split <;> simp
   lia
 exact this rows 0
noncomputable def Vq(rows:Rows):List T3:=SJ (RI rows)
theorem LG(d:Dr rows):(bq rows 0).length<=27:=by
 have:=qB rows;have:=d.zw;have:=d.str;lia
end P
end K2
end
section
namespace K2
open PySem (Str)
open Enc (enc)
namespace o4
open K2.P
noncomputable def yN:g7 :=
 (bE (cA (c8 (aM Xj (aj 1) (ju i7 (ah (aj 0) aH)))) (bw (c7 (aM eY (aj 0) (aj 1)))) bz)
 (bw (c7 (dC (.int 0)))))
noncomputable def iW(ns:List Int)(k:Int):Int:=ns.getD k.toNat 0
noncomputable def oF:jx:=fun ds G Q _=>∃ (ns:List Int) (k:Int),ds=[.fJ (ns.map D.int),.int k]/\0<=k/\Q (.int (iW ns k)) G
theorem zd(ds:List D)(G:Gp)(Q:DK)(h:oF ds G Q fun _ _=>False):yN (fun _ _=>False) (ends Q) (aX 2 ds) G:=by
 obtain⟨ns,k,rfl,h0,q⟩:=h;unfold yN;simp only [bE,cA,aX,aq,aO,ag,au,aB,aG,bw,c7,aM,aj,aa,ae,ends,pW,bz,dC,bI,ju,ah,aH,tx,wF,aN];split
 ·rename_i h;have h1:k < (ns.map D.int).length:=by simpa using h
  rw [gm _ h0 h1];simp only [dI];rw [ax] at h1;have e:iW ns k=ns[k.toNat]:=by unfold iW; rw [eQ,aP (by lia)]; rfl
  rw [<-e]; exact fD q
 ·rename_i h;have h1:¬ k < (ns.map D.int).length:=by simpa using h
  rw [ax] at h1;have e:iW ns k=0:=by unfold iW; rw [eQ,PW (by lia)]; rfl
  rw [<-e]; exact fD q
structure HR(G G':Gp)(p0:Nat)(as:List Nat)(rs:Rows):Prop where
 le:fy G G'
 fp:G p0=none
 gp:G' p0=some (.lst (as.map D.ref))
 np:p0∉as
 nd:as.Nodup
 fr:∀ a∈as,G a=none
 len:as.length=rs.length
 at':∀ (i a:Nat) (r:List T3),as[i]?=some a->rs[i]?=some r->G' a=some (.lst (r.map enc))
theorem HR.put{G G':Gp}{p0:Nat}{as:List Nat}{rs:Rows}(h:HR G G' p0 as rs){j a:Nat}{r':List T3}(ha:as[j]?=some a):HR G (cW G' a (.lst (r'.map enc))) p0 as (rs.set j r'):=by
 have hm:a∈as:=eX ha;have hj:j < as.length:=(List.getElem?_eq_some_iff.mp ha).1;refine⟨h.le.put (h.fr a hm),h.fp,?_,h.np,h.nd,h.fr,by rw [qr]; exact h.len,fun i b r hb hr=>?_⟩
 ·rw [eR (by rintro rfl; exact h.np hm)]; exact h.gp
 ·by_cases e:i=j
  ·subst e;rw [ha] at hb; cases hb;rw [iz (by have:=h.len; lia)] at hr;cases hr;exact aC
  ·have:b≠a:=by
    rintro rfl;have h1:=List.getElem?_eq_some_iff.mp hb;have h2:=List.getElem?_eq_some_iff.mp ha;have pw:=List.pairwise_iff_getElem.mp h.nd;rcases Nat.lt_trichotomy i j with lt | eq | gt
    ·exact pw i j h1.1 h2.1 lt (h1.2.trans h2.2.symm)
    ·exact e eq
    ·exact pw j i h2.1 h1.1 gt (h2.2.trans h1.2.symm)
   rw [eR this];rw [kM (fun z=>e z.symm)] at hr;exact h.at' i b r hb hr
theorem HR.fz{G G':Gp}{p0:Nat}{as:List Nat}{rs:Rows}(h:HR G G' p0 as rs){Q:DK}(q:Q (enc rs) G):PT G' (.ref p0) Q:=by
 refine Jz h.le h.fp h.gp (ss:=rs.map enc) ?_ q;have:∀ (as:List Nat) (rs:Rows),as.length=rs.length->(∀ a∈as,G a=none)->(∀ (i a:Nat) (r:List T3),as[i]?=some a->rs[i]?=some r->G' a=some (.lst (r.map enc)))->Fx G' (fun a=>(G a).isNone) (as.map D.ref) (rs.map enc):=by
  intro as;induction as with
  | nil=>intro rs hl _ _; cases rs with
   | nil=>exact .nil
   | cons _ _=>cases hl
  | cons a as ih =>
   intro rs hl hf Jw;cases rs with
   | nil=>cases hl
   | cons r rs =>
    refine .cons (.ref (Jw 0 a r rfl rfl) (by simp [hf a (by simp)]) (Fx.same _)) ?_;exact ih rs (by simpa using hl) (fun b hb=>hf b (aU _ hb)) fun i b s h1 h2=>Jw (i+1) b s h1 h2
 exact this as rs h.len h.fr h.at'
theorem Gn{x:T3}{r r':List T3}(hr:r'.Perm (x :: r)):∀ (rs:Rows) (j:Nat),rs[j]?=some r->(rs.set j r').flatten.Perm (x :: rs.flatten)
 | [],j,h=>by cases h
 | s :: rs,0,h=>by
  cases h;rw [ak,bP,bP];exact hr.append_right _
 | s :: rs,j+1,h=>by
  rw [ao,bP,bP];exact((Gn hr rs j h).append_left s).trans List.perm_middle
structure MI(st:Int)(n:Nat)(name:Int)(L:List T3):Prop where
 off:∃ off:Int,0<=off/\off<=83 * n/\name=(st+off) % 999/\∀ p∈L,∃ o:Int,0 < o/\o<=off/\p.a=(st+o) % 999+1
 nd:(L.map T3.s).Nodup
 way:∀ p∈L,p.b=0\/p.b=1
 hand:∀ p∈L,p.c=1\/p.c=-1
 zo:∀ p∈L,(⟨p.a,1 - p.b,p.c⟩:T3)∈L
 len:L.length=2 * n
theorem Rg{G G2:Gp}{d:D}{ds:List D}{R:List D->(Gp->Prop)->Gp->Prop}(h:IsL G d ds)(l:fy G G2)(k:∀ ok:Gp->Prop,(∀ G',fy G G'->ok G')->R ds ok G2):Qa d G2 R:=by
 rcases h with rfl | ⟨a,rfl,e⟩
 ·exact k _ fun _ _=>trivial
 ·rw [oO (l a _ e)]; exact k _ fun G' l=>l a _ e
theorem nU{r:List T3}:∀ {rs:Rows},r∈rs->r.length<=rs.flatten.length
 | a :: rs,h=>by
  rw [bP,aL];rcases List.mem_cons.mp h with rfl | h
  ·lia
  ·have:=nU h; lia
theorem NI(x:T3)(r:List T3)(i:Nat):(r.take i++x :: r.drop i).Perm (x :: r):=by
 refine List.perm_middle.trans (.cons _ ?_);rw [da]
end o4
end K2
end
section
namespace K2
open PySem (Str)
open Enc (enc)
namespace Mo
open K2.P
theorem uo{G:Gp}{p:Nat}{a b:GO}:cW (cW G p a) p b=cW G p b:=by
 funext c; unfold cW; by_cases h:c=p <;> simp [h]
theorem at_{al:List Str}{f c:Str}{a:Nat}{fs:List (Str×D)}{d:D}{G:Gp}{Q:DK}(h:G a=some (.ins c fs))(q:Q d G)(hc:autoParam (c∈al) Am._auto_1)(hl:autoParam (fs.lookup f=some d) Ar._auto_1):PH al f (.ref a) G Q:=⟨a,c,fs,d,rfl,h,hc,hl,q⟩
noncomputable def setAt(al:List Str)(f:Str)(x d:D)(G:Gp)(K:Gp->Prop):Prop:=∃ a c fs,x=.ref a/\G a=some (.ins c fs)/\c∈al/\fs.length < 1000/\K (cW G a (.ins c (putD f d fs)))
theorem tf{al:List Str}{f:Str}{to tv:hW}{E:mW}{K:lM}{τ:iP}{G:Gp}:lr al f to tv E K τ G=tv E τ G fun d G1=>to E τ G1 fun x G2=>setAt al f x d G2 (K.nx τ):=rfl
theorem Gi{al:List Str}{f c:Str}{a:Nat}{fs:List (Str×D)}{d:D}{G:Gp}{K:Gp->Prop}(h:G a=some (.ins c fs))(q:K (cW G a (.ins c (putD f d fs))))(hc:autoParam (c∈al) Am._auto_1)(hl:autoParam (fs.length < 1000) An._auto_1):setAt al f (.ref a) d G K:=⟨a,c,fs,rfl,h,hc,hl,q⟩
inductive Lo where
 | un (n:Int)
 | cu (n:Int) (s:T2) (f h:Int)
 | pa (a b:Int)
 | la (a b:Int) (o u:T2) (t h:Int)
 | sl (a b c t:Int)
noncomputable def cn:Lo->Str
 | .un _=>"Uncurl" | .cu ..=>"Curl" | .pa ..=>"Part" | .la ..=>"Lay" | .sl ..=>"Slide"
noncomputable def wd:Lo->Str
 | .un _=>"uncurl" | .cu ..=>"curl" | .pa ..=>"part" | .la ..=>"lay" | .sl ..=>"slide"
noncomputable def ar:Lo->List D
 | .un n=>[.int n] | .cu n s f h=>[.int n,enc s,.int f,.int h] | .pa a b=>[.int a,.int b] | .la a b o u t h=>[.int a,.int b,enc o,enc u,.int t,.int h] | .sl a b c t=>[.int a,.int b,.int c,.int t]
noncomputable def fl:Lo->List (Str×D)
 | .un n=>[("name",.int n)] | .cu n s f h=>[("name",.int n),("spot",enc s),("first",.int f),("hand",.int h)] | .pa a b=>[("name",.int a),("second",.int b)] | .la a b o u t h=>[("name",.int a),("second",.int b),("over",enc o),("under",enc u),("turned",.int t),("hand",.int h)] | .sl a b c t=>[("name",.int a),("second",.int b),("third",.int c),("turn",.int t)]
noncomputable def td(m:Lo):D:=.tup (.str (wd m) :: ar m)
noncomputable def ob(m:Lo):GO:=.ins (cn m) (fl m)
noncomputable abbrev Iu(G:Gp)(p:Nat)(m:Lo):Prop:=G p=some (ob m)
noncomputable def nQ:g7 :=
 (lr ["Uncurl"] "name" (aj 0) (aj 1))
noncomputable def iZ:jx:=fun ds G Q _=>∃ (p:Nat) (n:Int),ds=[.ref p,.int n]/\G p=some (.ins "Uncurl" [])/\Q .eK (cW G p (ob (.un n)))
theorem vA(ds:List D)(G:Gp)(Q:DK)(h:iZ ds G Q fun _ _=>False):nQ (fun _ _=>False) (ends Q) (aX 2 ds) G:=by
 obtain⟨p,n,rfl,g,q⟩:=h;unfold nQ;simp only [ends,aX,aq,aO,ag,au,aB,aG,tf,aj,ae,aa];refine Gi g ?_;exact q
noncomputable def pU:g7 :=
 (bE (lr ["Curl"] "name" (aj 0) (aj 1))
 (bE (lr ["Curl"] "spot" (aj 0) (aj 2))
 (bE (lr ["Curl"] "first" (aj 0) (aj 3))
 (lr ["Curl"] "hand" (aj 0) (aj 4)))))
noncomputable def jL:jx:=fun ds G Q _=>∃ (p:Nat) (n:Int) (s:T2) (f:Int) (h:Int),ds=[.ref p,.int n,enc s,.int f,.int h]/\G p=some (.ins "Curl" [])/\Q .eK (cW G p (ob (.cu n s f h)))
theorem yr(ds:List D)(G:Gp)(Q:DK)(h:jL ds G Q fun _ _=>False):pU (fun _ _=>False) (ends Q) (aX 5 ds) G:=by
 obtain⟨p,n,s,f,h,rfl,g,q⟩:=h;unfold pU;simp only [ends,aX,aq,aO,ag,au,aB,aG,fK,tf,aj,ae,aa];refine Gi g ?_;refine Gi aC ?_;refine Gi aC ?_;refine Gi aC ?_;simp only [uo];exact q
noncomputable def pT:g7 :=
 (bE (lr ["Part"] "name" (aj 0) (aj 1))
 (lr ["Part"] "second" (aj 0) (aj 2)))
noncomputable def dZ:jx:=fun ds G Q _=>∃ (p:Nat) (a:Int) (b:Int),ds=[.ref p,.int a,.int b]/\G p=some (.ins "Part" [])/\Q .eK (cW G p (ob (.pa a b)))
theorem yq(ds:List D)(G:Gp)(Q:DK)(h:dZ ds G Q fun _ _=>False):pT (fun _ _=>False) (ends Q) (aX 3 ds) G:=by
 obtain⟨p,a,b,rfl,g,q⟩:=h;unfold pT;simp only [ends,aX,aq,aO,ag,au,aB,aG,fK,tf,aj,ae,aa];refine Gi g ?_;refine Gi aC ?_;simp only [uo];exact q
noncomputable def wA:g7 :=
 (bw (c7 (dW (ah (dC (.str "part")) (ah (di ["Part"] "name" (aj 0)) (ah (di ["Part"] "second" (aj 0)) aH))))))
noncomputable def kW:jx:=fun ds G Q _=>∃ (p:Nat) (a:Int) (b:Int),ds=[.ref p]/\Iu G p (.pa a b)/\Q (td (.pa a b)) G
theorem Fu(ds:List D)(G:Gp)(Q:DK)(h:kW ds G Q fun _ _=>False):wA (fun _ _=>False) (ends Q) (aX 1 ds) G:=by
 obtain⟨p,a,b,rfl,g,q⟩:=h;unfold wA;simp only [bw,c7,dW,ah,dC,di,aj,aX,aq,aO,ag,au,aB,aG,aa,aH,ends];refine at_ g ?_;refine at_ g ?_;exact⟨by decide,fD q⟩
noncomputable def rh:g7 :=
 (bE (lr ["Lay"] "name" (aj 0) (aj 1))
 (bE (lr ["Lay"] "second" (aj 0) (aj 2))
 (bE (lr ["Lay"] "over" (aj 0) (aj 3))
 (bE (lr ["Lay"] "under" (aj 0) (aj 4))
 (bE (lr ["Lay"] "turned" (aj 0) (aj 5))
 (lr ["Lay"] "hand" (aj 0) (aj 6)))))))
noncomputable def fC:jx:=fun ds G Q _=>∃ (p:Nat) (a:Int) (b:Int) (o:T2) (u:T2) (t:Int) (h:Int),ds=[.ref p,.int a,.int b,enc o,enc u,.int t,.int h]/\G p=some (.ins "Lay" [])/\Q .eK (cW G p (ob (.la a b o u t h)))
theorem zH(ds:List D)(G:Gp)(Q:DK)(h:fC ds G Q fun _ _=>False):rh (fun _ _=>False) (ends Q) (aX 7 ds) G:=by
 obtain⟨p,a,b,o,u,t,h,rfl,g,q⟩:=h;unfold rh;simp only [ends,aX,aq,aO,ag,au,aB,aG,fK,tf,aj,ae,aa];refine Gi g ?_;refine Gi aC ?_;refine Gi aC ?_;refine Gi aC ?_;refine Gi aC ?_;refine Gi aC ?_;simp only [uo];exact q
noncomputable def yO:g7 :=
 (bw (c7 (dW (ah (dC (.str "lay")) (ah (di ["Lay"] "name" (aj 0)) (ah (di ["Lay"] "second" (aj 0)) (ah (di ["Lay"] "over" (aj 0)) (ah (di ["Lay"] "under" (aj 0)) (ah (di ["Lay"] "turned" (aj 0)) (ah (di ["Lay"] "hand" (aj 0)) aH))))))))))
noncomputable def iU:jx:=fun ds G Q _=>∃ (p:Nat) (a:Int) (b:Int) (o:T2) (u:T2) (t:Int) (h:Int),ds=[.ref p]/\Iu G p (.la a b o u t h)/\Q (td (.la a b o u t h)) G
theorem Ie(ds:List D)(G:Gp)(Q:DK)(h:iU ds G Q fun _ _=>False):yO (fun _ _=>False) (ends Q) (aX 1 ds) G:=by
 obtain⟨p,a,b,o,u,t,h,rfl,g,q⟩:=h;unfold yO;simp only [bw,c7,dW,ah,dC,di,aj,aX,aq,aO,ag,au,aB,aG,aa,aH,ends];refine at_ g ?_;refine at_ g ?_;refine at_ g ?_;refine at_ g ?_;refine at_ g ?_;refine at_ g ?_;exact⟨by decide,fD q⟩
noncomputable def oM:g7 :=
 (bE (lr ["Slide"] "name" (aj 0) (aj 1))
 (bE (lr ["Slide"] "second" (aj 0) (aj 2))
 (bE (lr ["Slide"] "third" (aj 0) (aj 3))
 (lr ["Slide"] "turn" (aj 0) (aj 4)))))
noncomputable def jn:jx:=fun ds G Q _=>∃ (p:Nat) (a:Int) (b:Int) (c:Int) (t:Int),ds=[.ref p,.int a,.int b,.int c,.int t]/\G p=some (.ins "Slide" [])/\Q .eK (cW G p (ob (.sl a b c t)))
theorem xp(ds:List D)(G:Gp)(Q:DK)(h:jn ds G Q fun _ _=>False):oM (fun _ _=>False) (ends Q) (aX 5 ds) G:=by
 obtain⟨p,a,b,c,t,rfl,g,q⟩:=h;unfold oM;simp only [ends,aX,aq,aO,ag,au,aB,aG,fK,tf,aj,ae,aa];refine Gi g ?_;refine Gi aC ?_;refine Gi aC ?_;refine Gi aC ?_;simp only [uo];exact q
end Mo
end K2
end
section
namespace K2
open PySem (Str)
open Enc (enc)
namespace Mo
open K2.P
theorem Ug{neg:Bool}{a:Str}{G:Gp}{Q:DK}(q:Q (.bl (!neg)) G)(ha:autoParam (a.cps.all (· < 0x110000)=true) Ak._auto_1):nu neg (.str a) (.str a) G Q:=⟨_,_,.str a ha,.str a ha,by
 have:jw (.str a) (.str a)=true:=by show (a == a)=true; exact beq_self_eq_true a
 rw [this]; cases neg <;> exact q⟩
theorem P6{neg:Bool}{a b:Str}{G:Gp}{Q:DK}(q:Q (.bl neg) G)(h:autoParam ((a == b)=false) Ak._auto_1)(ha:autoParam (a.cps.all (· < 0x110000)=true) Ak._auto_1)(hb:autoParam (b.cps.all (· < 0x110000)=true) Ak._auto_1):nu neg (.str a) (.str b) G Q:=⟨_,_,.str a ha,.str b hb,by
 have:jw (.str a) (.str b)=false:=h;rw [this]; cases neg <;> exact q⟩
noncomputable def rn(kv:List (Int×Int))(n:Int):Int:=(lI kv n).getD n
noncomputable def rs(kv:List (Int×Int))(s:T2):T2:=if s.b=2 then s else ⟨rn kv s.a,s.b⟩
noncomputable def Yt(kv:List (Int×Int)):Lo->Lo
 | .un n=>.un (rn kv n) | .cu n s f h=>.cu (rn kv n) (rs kv s) f h | .pa a b=>.pa (rn kv a) (rn kv b) | .la a b o u t h=>.la (rn kv a) (rn kv b) (rs kv o) (rs kv u) t h | .sl a b c t=>.sl (rn kv a) (rn kv b) (rn kv c) t
theorem WN(s:T2):(enc s:D)=.tup [.int s.a,.int s.b]:=rfl
noncomputable def AR:g7 :=
 (bE (cA (c8 (aM (nu false) (aM eY (aj 0) (dC (.int 0))) (dC (.str "uncurl")))) (bw (c7 (kH "Uncurl" iZ (ah (aM eY (aj 0) (dC (.int 1))) aH)))) bz)
 (bE (cA (c8 (aM (nu false) (aM eY (aj 0) (dC (.int 0))) (dC (.str "curl")))) (bw (c7 (kH "Curl" jL (ah (aM eY (aj 0) (dC (.int 1))) (ah (aM eY (aj 0) (dC (.int 2))) (ah (aM eY (aj 0) (dC (.int 3))) (ah (aM eY (aj 0) (dC (.int 4))) aH))))))) bz)
 (bE (cA (c8 (aM (nu false) (aM eY (aj 0) (dC (.int 0))) (dC (.str "part")))) (bw (c7 (kH "Part" dZ (ah (aM eY (aj 0) (dC (.int 1))) (ah (aM eY (aj 0) (dC (.int 2))) aH))))) bz)
 (bE (cA (c8 (aM (nu false) (aM eY (aj 0) (dC (.int 0))) (dC (.str "lay")))) (bw (c7 (kH "Lay" fC (ah (aM eY (aj 0) (dC (.int 1))) (ah (aM eY (aj 0) (dC (.int 2))) (ah (aM eY (aj 0) (dC (.int 3))) (ah (aM eY (aj 0) (dC (.int 4))) (ah (aM eY (aj 0) (dC (.int 5))) (ah (aM eY (aj 0) (dC (.int 6))) aH))))))))) bz)
 (bE (cA (c8 (aM (nu false) (aM eY (aj 0) (dC (.int 0))) (dC (.str "slide")))) (bw (c7 (kH "Slide" jn (ah (aM eY (aj 0) (dC (.int 1))) (ah (aM eY (aj 0) (dC (.int 2))) (ah (aM eY (aj 0) (dC (.int 3))) (ah (aM eY (aj 0) (dC (.int 4))) aH))))))) bz)
 qT)))))
noncomputable def qD:jx:=fun ds G Q _=>∃ m:Lo,ds=[td m]/\∀ p,G p=none->Q (.ref p) (cW G p (ob m))
theorem JX(ds:List D)(G:Gp)(Q:DK)(h:qD ds G Q fun _ _=>False):AR (fun _ _=>False) (ends Q) (aX 1 ds) G:=by
 obtain⟨m,rfl,q⟩:=h;unfold AR;cases m with
 | un n =>
  simp only [ends,aX,td,wd,ar,aq,aO,ag,au,aB,aG,fK,cA,bw,c7,kH,ah,aM,aj,aa,dC,aH,cM,DL,bz,bI,JS];refine Ug ?_;simp only [bp,aN,if_true];exact fun p hp=>⟨p,n,rfl,aC,rfl,fD (by rw [uo]; exact q p hp)⟩
 | cu n s f h =>
  simp only [ends,aX,td,wd,ar,aq,aO,ag,au,aB,aG,fK,cA,bw,c7,kH,ah,aM,aj,aa,dC,aH,cM,DL,bz,bI,JS];refine P6 ?_;simp only [aN,ai,if_false];refine Ug ?_;simp only [bp,aN,if_true];exact fun p hp=>⟨p,n,s,f,h,rfl,aC,rfl,fD (by rw [uo]; exact q p hp)⟩
 | pa a b =>
  simp only [ends,aX,td,wd,ar,aq,aO,ag,au,aB,aG,fK,cA,bw,c7,kH,ah,aM,aj,aa,dC,aH,cM,DL,bz,bI,JS];refine P6 ?_;simp only [aN,ai,if_false];refine P6 ?_;simp only [aN,ai,if_false];refine Ug ?_;simp only [bp,aN,if_true];exact fun p hp=>⟨p,a,b,rfl,aC,rfl,fD (by rw [uo]; exact q p hp)⟩
 | la a b o u t h =>
  simp only [ends,aX,td,wd,ar,aq,aO,ag,au,aB,aG,fK,cA,bw,c7,kH,ah,aM,aj,aa,dC,aH,cM,DL,bz,bI,JS];refine P6 ?_;simp only [aN,ai,if_false];refine P6 ?_;simp only [aN,ai,if_false];refine P6 ?_;simp only [aN,ai,if_false];refine Ug ?_;simp only [bp,aN,if_true];exact fun p hp=>⟨p,a,b,o,u,t,h,rfl,aC,rfl,fD (by rw [uo]; exact q p hp)⟩
 | sl a b c t =>
  simp only [ends,aX,td,wd,ar,aq,aO,ag,au,aB,aG,fK,cA,bw,c7,kH,ah,aM,aj,aa,dC,aH,cM,DL,bz,bI,JS];refine P6 ?_;simp only [aN,ai,if_false];refine P6 ?_;simp only [aN,ai,if_false];refine P6 ?_;simp only [aN,ai,if_false];refine P6 ?_;simp only [aN,ai,if_false];refine Ug ?_;simp only [bp,aN,if_true];exact fun p hp=>⟨p,a,b,c,t,rfl,aC,rfl,fD (by rw [uo]; exact q p hp)⟩
end Mo
end K2
end
section
namespace K2
open PySem (Str)
open Enc (enc)
namespace Mo
open K2.P
open K2.o4 (iW oF zd)
theorem Ys{lo:Int}{n:Nat}{pre post:List D}{d:D}(h:fj lo n=pre++d :: post):d=.int (lo+(pre.length:Int))/\pre.length < n:=by
 have hl:pre.length < n:=by
  have:=congrArg dE h;simp [fj] at this; lia
 have:(fj lo n)[pre.length]?=some d:=by rw [h]; simp
 simp only [fj,dJ,zK hl] at this;exact⟨by simpa using this.symm,hl⟩
noncomputable def wm:g7 :=
 (bw (c7 (BH (ux "int" (aj 0)) (Pu (ux "bool" (aj 0))))))
noncomputable def fQ:jx:=fun ds G Q _=>∃ i:Int,ds=[.int i]/\Q (.bl true) G
theorem Fq(ds:List D)(G:Gp)(Q:DK)(h:fQ ds G Q fun _ _=>False):wm (fun _ _=>False) (ends Q) (aX 1 ds) G:=by
 obtain⟨i,rfl,q⟩:=h;unfold wm;simp only [bw,c7,aX,aq,aO,ag,au,aB,aG,ends,mG,tj,lu,aj,aa,qg,aN];simpa using fD q
noncomputable def dQ:g7 :=
 (bE (cA (uw (fH (c8 (ux "tuple" (aj 0)))) (c8 (aM (nu true) (ju i7 (ah (aj 0) aH)) (ju i7 (ah (aj 1) aH))))) (bw (c7 (dC (.bl false)))) bz)
 (bE (eZ (ky (aj 0)) (aI 2) (cA (fH (c8 (a8 fQ (ah (aj 2) aH)))) (bw (c7 (dC (.bl false)))) bz))
 (bw (c7 (aM (nu false) (aj 0) (aj 1))))))
noncomputable def bX:jx:=fun ds G Q _=>∃ ns:List Int,ds=[tI ns,tI ns]/\Q (.bl true) G
theorem dR(ds:List D)(G:Gp)(Q:DK)(h:bX ds G Q fun _ _=>False):dQ (fun _ _=>False) (ends Q) (aX 3 ds) G:=by
 obtain⟨ns,rfl,q⟩:=h;unfold dQ;simp only [ends,aX,aq,aO,ag,au,a0,aB,aG,fK,cA,uw,fH,bw,c7,dC,bz,if_true,bI,aM,ju,ah,aj,aa,aH,ae,lz,lu,my,beq_self_eq_true,aN,aK,ai,if_false];refine eD (α:=Int) (by decide) ?_;simp only [decide_true,aK,if_true,eZ,dw,aj,aa,wR,aN,ai,if_false];refine gJ (f:=D.int) (xs:=ns) (fun pre τ G'=>G=G'/\∃ a,τ=[some (tI ns),some (tI ns),a]) ⟨rfl,_,rfl⟩ (fun _ _ _ _=>trivial) ?_ ?_
 ·rintro pre i post τ G' N e ⟨rfl,a,rfl⟩ hN;simp only [aI,cA,fH,ao,ak,bw,c7,dC,bz,bI,a8,ah,aj,ae,aa,aH];refine⟨i,rfl,?_⟩;simp only [aN,aK,ai,if_false];exact hN _ _ ⟨rfl,_,rfl⟩
 ·rintro τ G' ⟨rfl,a,rfl⟩;simp only [bw,c7,aM,aj,aa,ae];refine⟨_,_,.tI ns,.tI ns,?_⟩;rw [Ui];simp only [decide_true,if_false,ai];exact fD q
noncomputable def Pl(d:D):Prop:=(∃ i,d=.int i)\/∃ ns,d=tI ns
noncomputable abbrev Xm(w:Str):Prop:=w.cps.all (· < 0x110000)=true
noncomputable def eU:g7 :=
 (bE (cA (uw (fH (c8 (ux "tuple" (aj 0)))) (c8 (aM (nu true) (ju i7 (ah (aj 0) aH)) (ju i7 (ah (aj 1) aH))))) (bw (c7 (dC (.bl false)))) bz)
 (bE (cA (uw (fH (c8 (ux "str" (aM eY (aj 0) (dC (.int 0)))))) (c8 (aM (nu true) (aM eY (aj 0) (dC (.int 0))) (aM eY (aj 1) (dC (.int 0)))))) (bw (c7 (dC (.bl false)))) bz)
 (bE (eZ (KQ (dC (.int 1)) (ju i7 (ah (aj 1) aH))) (aI 2) (cA (c8 (ux "tuple" (aM eY (aj 1) (aj 2)))) (cA (fH (c8 (a8 bX (ah (aM eY (aj 0) (aj 2)) (ah (aM eY (aj 1) (aj 2)) aH))))) (bw (c7 (dC (.bl false)))) bz) (cA (uw (fH (c8 (a8 fQ (ah (aM eY (aj 0) (aj 2)) aH)))) (c8 (aM (nu true) (aM eY (aj 0) (aj 2)) (aM eY (aj 1) (aj 2))))) (bw (c7 (dC (.bl false)))) bz)))
 (bw (c7 (dC (.bl true)))))))
noncomputable def bZ:jx:=fun ds G Q _=>∃ (w:Str) (as:List D),ds=[.tup (.str w :: as),.tup (.str w :: as)]/\(as.length<=10/\Xm w/\∀ a∈as,Pl a)/\Q (.bl true) G
theorem eW(ds:List D)(G:Gp)(Q:DK)(h:bZ ds G Q fun _ _=>False):eU (fun _ _=>False) (ends Q) (aX 3 ds) G:=by
 obtain⟨w,as,rfl,⟨hl,hw,hp⟩,q⟩:=h;unfold eU;simp only [ends,aX,aq,aO,ag,au,a0,aB,aG,fK,cA,uw,fH,bw,c7,dC,bz,if_true,bI,aM,aj,aa,ae,cM,lu,ju,ah,aH,lz,my,beq_self_eq_true,aN,aK,ai,if_false];refine eD (α:=Int) (by decide) ?_;simp only [decide_true,aK,if_true,JS,aN,ai,if_false];show isAt "str" (.str w) G _;unfold isAt RY;simp only [beq_self_eq_true,aN,aK,ai,if_false];refine Ug ?_ hw;simp only [aK,eZ,KQ,dC,ju,ah,aj,ae,aa,aH,lz,ag,aN,ai,if_false];refine⟨by lia,?_⟩;refine pz (fun pre τ G'=>G=G'/\∃ a,τ=[some (.tup (.str w :: as)),some (.tup (.str w :: as)),a]) ⟨rfl,_,rfl⟩ (fun _ _ _ _=>trivial) ?_ ?_
 ·rintro pre d post τ G' N e ⟨rfl,a,rfl⟩ hN;obtain⟨rfl,Mt⟩:=Ys e;have u0:pre.length < as.length:=by lia
  have ha:pQ (D.str w :: as) (1+(pre.length:Int))=some as[pre.length]:=by
   rw [gm _ (by lia) (by rw [ag]; lia)];have:(1+(pre.length:Int)).toNat=pre.length+1:=by lia
   simp only [this,Nr]
  simp only [aI,cA,ao,ak,fH,bw,c7,dC,bz,bI,a8,ah,aM,aj,aa,ae,aH,cM,ha,uw,if_true,lu];rcases hp _ (fg u0) with ⟨i,ei⟩ | ⟨ns,ei⟩
  ·rw [ei];simp only [qg,aN];rw [show ("tuple" == "int")=false from by decide];simp only [ai,if_false];refine⟨i,rfl,?_⟩;simp only [aN,aK,ai,if_false];refine eD (α:=Int) (by decide) ?_;simp only [decide_true,aK,if_true,aN,ai,if_false];exact hN _ _ ⟨rfl,_,rfl⟩
  ·rw [ei];simp only [my,beq_self_eq_true,aN,if_true];refine⟨ns,rfl,?_⟩;simp only [aN,aK,ai,if_false];exact hN _ _ ⟨rfl,_,rfl⟩
 ·rintro τ G' ⟨rfl,a,rfl⟩;simp only [bw,c7,dC];exact fD q
theorem Xk(s:T2):Pl (enc s):=.inr ⟨[s.a,s.b],rfl⟩
theorem UH(i:Int):Pl (.int i):=.inl ⟨i,rfl⟩
theorem W0(m:Lo):∀ a∈ar m,Pl a:=by
 cases m <;> intro a h <;> simp only [ar,dD,cR,or_false] at h <;> rcases h with rfl | h <;> (try exact UH _) <;> (try (rcases h with rfl | h)) <;> (try exact UH _) <;> (try exact Xk _) <;> (try (rcases h with rfl | h)) <;> (try exact UH _) <;> (try exact Xk _) <;> (try (rcases h with rfl | h)) <;> (try exact UH _) <;> (try exact Xk _) <;> (try (rcases h with rfl | h)) <;> (try exact UH _) <;> (try exact Xk _) <;> (try (subst h; exact UH _))
theorem Uu(m:Lo):(ar m).length<=10:=by cases m <;> exact ko rfl
theorem Vj(m:Lo):Xm (wd m):=by
 have h:∀ w∈(["uncurl","curl","part","lay","slide"]:List Str),Xm w:=by decide +kernel
 cases m <;> exact h _ (by simp [wd])
theorem tells_of{m:Lo}{G:Gp}{Q:DK}(q:Q (.bl true) G):bZ [td m,td m] G Q fun _ _=>False:=⟨wd m,ar m,rfl,⟨Uu m,Vj m,W0 m⟩,q⟩
end Mo
end K2
end
section
namespace K2
namespace rE
noncomputable def ab(c:Int):Int:=if c < 0 then -c else c
variable {α:Type}
noncomputable def rnd(f:Int->Int)(r:Int->List α):Nat->Int->List Int->List α->List α×List Int
 | 0,_,NG,ps=>(ps,NG)
 | k+1,p,NG,ps=>if p∈NG then (ps,NG) else rnd f r k (f p) (NG++[p]) (ps++r p)
noncomputable def cls(f:Int->Int)(r:Int->List α):List Int->List (List α)->List Int->List (List α)
 | [],rows,_=>rows
 | t :: ts,rows,met=>if t∈met then cls f r ts rows met else
  let s:=rnd f r 4 t [] []
  cls f r ts (rows++[s.1]) (met++s.2)
end rE
end K2
end
section
namespace K2
open PySem (Str)
open Enc (enc)
namespace rE
open K2.P
noncomputable def Ok(n:Int)(cs:List Int):Prop:=n<=3/\cs.length<=40/\∀ c∈cs,1<=ab c/\ab c < n
end rE
end K2
end
section
namespace K2
open PySem (Str)
open Enc (enc)
namespace rE
open K2.P
noncomputable def Good(n:Int)(cs:List Int):Prop:=(1<=n/\n<=3)/\cs.length<=12/\∀ c∈cs,1<=ab c/\ab c < n
noncomputable instance (n:Int) (cs:List Int):Decidable (Good n cs):=by unfold Good; exact inferInstance
end rE
end K2
end
section
namespace K2
open PySem (Str)
open Enc (enc)
namespace rE
open K2.P
noncomputable def jP:List T3->T3
 | []=>⟨0,0,0⟩
 | a :: r=>r.foldl (fun m x=>if cm.lt x m=true then x else m) a
theorem kd{r:List T3}(h:r≠[]):jP r∈r:=by
 cases r with
 | nil=>exact absurd rfl h
 | cons a r=>exact(lY r a).1
theorem oN{r:List T3}{y:T3}(hy:y∈r):Bf (jP r) y=true:=by
 cases r with
 | nil=>cases hy
 | cons a r=>exact(lY r a).2 y hy
noncomputable def cy(r:List T3):List T3:=r.drop (r.idxOf (jP r))++r.take (r.idxOf (jP r))
theorem ql{x:D}{G:Gp}{r:List T3}{Q:DK}(hi:itemsOf x G=some (r.map enc))(mz:r≠[])(q:Q (enc (jP r)) G):MP [x] G Q :=
 Fy.mn hi mz fun m hm hl=>by
  have:m=jP r:=Be _ _ (hl _ (kd mz)) (oN hm);rw [this]; exact q
theorem lX{x:D}{G:Gp}{r:List T3}{Q:DK}(ht:vL x G)(hi:itemsOf x G=some (r.map enc))(mz:r≠[])(q:Q (.int ((r.idxOf (jP r):Nat):Int)) G):sI x [enc (jP r)] G Q:=by
 refine⟨ht,r.map enc,enc (jP r),r.map enc,hi,Enc.sn G 8 _ (by decide),qE G 7 (by decide) r,?_⟩;have e:(r.map enc).findIdx? (jw · (enc (jP r)))=some (r.idxOf (jP r)):=by
  have hf:(fun y:T3=>jw (enc y) (enc (jP r)))=fun y=>y == jP r:=by
   funext y;rw [Enc.eqv];by_cases h:y=jP r <;> simp [h]
  rw [List.findIdx?_map];show List.findIdx? (fun y=>jw (enc y) (enc (jP r))) r=_;rw [hf];have hm:=kd mz;rw [List.idxOf];rw [List.findIdx?_eq_some_iff_findIdx_eq];exact⟨List.findIdx_lt_length.mpr ⟨_,hm,by simp⟩,rfl⟩
 rw [e]; exact q
end rE
end K2
end
section
namespace K2
open PySem (Str)
open Enc (enc)
namespace P
variable {rows:Rows}
noncomputable def D1(rows:Rows)(s:T2):Nat:=(((rows.zipIdx 0).find? fun p=>decide (s∈bC p.1 (p.2:Int))).map (·.2)).getD 0
noncomputable def jJ:jx:=fun ds G Q _=>∃ (rows:Rows) (s:T2),ds=[enc rows,enc s]/\((∀ r∈rows,r.length<=1000)/\∃ p∈rows.zipIdx 0,s∈bC p.1 (p.2:Int))/\Q (.int (D1 rows s)) G
noncomputable def wg:g7 :=
 (bE (eZ (OU (aj 0)) (MG (uS (aI 2) (uS (aI 3) Jy))) (cA (c8 (aM (Co false) (aj 1) (a8 iR (ah (aj 3) (ah (aj 2) aH))))) (bw (c7 (aj 2))) bz))
 qT)
theorem Fo(ds:List D)(G:Gp)(Q:DK)(h:jJ ds G Q fun _ _=>False):wg (fun _ _=>False) (ends Q) (aX 4 ds) G:=by
 obtain⟨rows,s,rfl,⟨hr,hs⟩,q⟩:=h;unfold wg;refine bL (fun τ G'=>False) ?_ (fun _ _ h=>h.elim);intro N hN;simp only [eZ,OU,aj,aX,aq,aO,ag,au,a0,aB,aG,aa,ends];refine Hb ?_;rw [Pf];refine gJ (xs:=rows.zipIdx 0) (fun pre τ G'=>G=G'/\(∃ a b,τ=[some (enc rows),some (enc s),a,b])/\∀ p∈pre,s∉bC p.1 (p.2:Int)) ⟨rfl,⟨_,_,rfl⟩,fun _ h=>by cases h⟩ (fun _ _ _ _=>trivial) ?_ ?_
 ·rintro pre x post τ G' N2 e ⟨rfl,⟨a,b,rfl⟩,hp⟩ Bm;obtain⟨lf,rt,e1,e2,e3⟩:=DY e;simp only [MG,uS,aI,Jy,cA,ao,ak,bw,c7,aj,ae,aa,bz,bI,aM,a8,ah,aH];refine⟨x.1,(x.2:Int),rfl,hr x.1 (by rw [e1]; simp),?_⟩;refine tV (by decide) ?_;simp only [ai,if_false,aN];by_cases hx:s∈bC x.1 (x.2:Int)
  ·simp only [hx,decide_true,ai,if_false,if_true];have:D1 rows s=x.2:=by
    unfold D1;have:(rows.zipIdx 0).find? (fun p=>decide (s∈bC p.1 (p.2:Int)))=some x:=by
     rw [e,C0];have:pre.find? (fun p=>decide (s∈bC p.1 (p.2:Int)))=none:=by
      rw [rJ]; intro p h; simpa using hp p h
     rw [this];simp [hx]
    rw [this]; rfl
   rw [<-this];exact fD q
  ·simp only [hx,decide_false,ai,if_false];refine Bm _ _ ⟨rfl,⟨_,_,rfl⟩,fun p h=>?_⟩;rcases List.mem_append.mp h with h | h
   ·exact hp p h
   ·rw [List.mem_singleton.mp h]; exact hx
 ·rintro τ G' ⟨rfl,_,hp⟩;obtain⟨p,h1,h2⟩:=hs;exact absurd h2 (hp p h1)
theorem BG{i:Nat}{t:g7}{E:mW}{K:lM}{τ:iP}{G:Gp}:Pw i t E K τ G=t E { K with nx:=fun uF G1=>match uF[i]? with
 | some (some d)=>PT G1 d fun t G2=>K.nx (uF.set i (some t)) G2
 | _=>False } τ G:=rfl
end P
end K2
end
section
namespace K2
open PySem (Str)
open Enc (enc)
namespace K3
open K2.P K2.o4
inductive Rl (G:Gp):List D->Rows->Prop
 | nil:Rl G [] []
 | cons {x:D} {r:List T3} {xs:List D} {rs:Rows}:IsL G x (r.map enc)->Rl G xs rs->Rl G (x :: xs) (r :: rs)
theorem zV{α:Type} [DecidableEq α] [Enc α]{neg:Bool}{x:α}{xs:List α}{a:Nat}{G:Gp}{Q:DK}(hd:Enc.dep α<=7)(h:G a=some (.lst (xs.map enc)))(q:Q (.bl (if neg then !decide (x∈xs) else decide (x∈xs))) G):Co neg (enc x) (.ref a) G Q:=by
 unfold Co;simp only [h];refine⟨_,_,Enc.sn G 8 x (by lia),qE G 7 hd xs,?_⟩;rw [Fj]; exact q
theorem EE{c:zE}{a b:g7}{E:mW}{K:lM}{τ:iP}{G:Gp}:cA c a b E K τ G=c E τ G fun k G1=>if k=true then a E K τ G1 else b E K τ G1:=rfl
end K3
end K2
end
section
namespace K2
open PySem (Str)
open Enc (enc)
namespace K3
open K2.P K2.o4
noncomputable def fnx(n:Int):Int:=n % 999+1
noncomputable def fit(n:Int):Nat->Int
 | 0=>n
 | k+1=>fnx (fit n k)
theorem By{n:Int}(h1:1<=n)(h2:n<=999):∀ k:Nat,fit n k=(n - 1+k) % 999+1
 | 0=>by show n=_; lia
 | k+1=>by
  show fnx (fit n k)=_;rw [By h1 h2 k];unfold fnx;lia
theorem uQ:∀ (xs ys:List Int),xs.Nodup->(∀ x∈xs,x∈ys)->xs.length<=ys.length
 | [],_,_,_=>cX _
 | x :: xs,ys,hn,h=>by
  rw [ff] at hn;have:=uQ xs (ys.erase x) hn.2 fun y hy=>(Qj (show y≠x from fun z=>hn.1 (by rw [<-z]; exact hy))).mpr (h y (aU _ hy));have hx:=h x (by simp);rw [Lv hx] at this;have:=Nq hx;rw [ag]; lia
theorem Pa{n:Int}{ns:List Int}(h1:1<=n)(h2:n<=999)(hl:ns.length<=500):∃ k,k<=ns.length/\fit n k∉ns:=by
 apply DW;intro R0;have O2:∀ k,k<=ns.length->fit n k∈ns:=fun k hk=>DW fun z=>R0 ⟨k,hk,z⟩;have nd:((e7 (ns.length+1)).map fun k=>fit n k).Nodup:=by
  refine List.pairwise_iff_getElem.mpr fun i j hi hj Mz=>?_;simp only [ax,fA] at hi hj;rw [dI,dI,rH,rH,By h1 h2,By h1 h2];lia
 have:=uQ _ ns nd fun x hx=>by
  obtain⟨k,hk,rfl⟩:=List.mem_map.mp hx;exact O2 k (by have:=List.mem_range.mp hk; lia)
 simp at this;lia
noncomputable def ins(r:List T3)(k:Nat)(p:T3):List T3:=r.take k++p :: r.drop k
theorem Ha(r:List T3)(k:Nat)(p:T3):(ins r k p).Perm (p :: r):=NI p r k
theorem Rf(r:List T3)(k:Nat)(p:T3):(r.map enc).take k++enc p :: (r.map enc).drop k=(ins r k p).map (enc:T3->D):=by
 unfold ins; rw [aJ,aq,uD,uE]
structure DF(L:List T3):Prop where
 nd:(L.map T3.s).Nodup
 way:∀ p∈L,p.b=0\/p.b=1
 hand:∀ p∈L,p.c=1\/p.c=-1
 zo:∀ p∈L,(⟨p.a,1 - p.b,p.c⟩:T3)∈L
theorem DF.perm{L L':List T3}(h:DF L)(p:L'.Perm L):DF L' :=
 ⟨(p.map _).nodup_iff.mpr h.nd,fun x hx=>h.way x (p.mem_iff.mp hx),fun x hx=>h.hand x (p.mem_iff.mp hx),fun x hx=>p.mem_iff.mpr (h.zo x (p.mem_iff.mp hx))⟩
theorem DF.add{L:List T3}(h:DF L){m hd:Int}(hm:m∉L.map (·.a))(hh:hd=1\/hd=-1):DF (⟨m,1,hd⟩ :: ⟨m,0,hd⟩ :: L):=by
 have no:∀ w,(⟨m,w⟩:T2)∉L.map T3.s:=fun w z=>by
  obtain⟨p,hp,e⟩:=List.mem_map.mp z;exact hm (List.mem_map.mpr ⟨p,hp,by have:=congrArg T2.a e; exact this⟩)
 refine⟨?_,?_,?_,?_⟩
 ·rw [aq,aq,ff,ff];refine⟨fun z=>?_,no 0,h.nd⟩;rcases List.mem_cons.mp z with e | z
  ·have:=congrArg T2.b e;exact absurd (show (1:Int)=0 from this) (by decide)
  ·exact no 1 z
 ·intro p hp;rcases List.mem_cons.mp hp with rfl | hp
  ·exact .inr rfl
  ·rcases List.mem_cons.mp hp with rfl | hp
   ·exact .inl rfl
   ·exact h.way p hp
 ·intro p hp;rcases List.mem_cons.mp hp with rfl | hp
  ·exact hh
  ·rcases List.mem_cons.mp hp with rfl | hp
   ·exact hh
   ·exact h.hand p hp
 ·intro p hp;rcases List.mem_cons.mp hp with rfl | hp
  ·exact aU _ bb
  ·rcases List.mem_cons.mp hp with rfl | hp
   ·exact bb
   ·exact aU _ (aU _ (h.zo p hp))
theorem HR.at_{G G':Gp}{p0:Nat}{as:List Nat}{rs:Rows}(h:HR G G' p0 as rs){j:Int}(j1:0<=j)(j2:j < rs.length):∃ a r,as[j.toNat]?=some a/\rs[j.toNat]?=some r/\G' a=some (.lst (r.map enc))/\pQ (as.map D.ref) j=some (.ref a):=by
 have hj:j.toNat < as.length:=by have:=h.len; lia
 refine⟨as[j.toNat],rs[j.toNat]'(by lia),aP hj,aP _,h.at' _ _ _ (aP hj) (aP _),?_⟩;rw [gm _ j1 (by rw [ax]; have:=h.len; lia),dI]
end K3
end K2
end
section
namespace K2
open PySem (Str)
open Enc (enc)
namespace ui
open K2.P
open K2.rE (cy jP)
noncomputable abbrev Cs:=List Rows
noncomputable def ap1(a:Rows)(x:List T3):Rows:=a++[x]
noncomputable def pk1(m:List (List T3))(a:Rows):Cs:=m.map (ap1 a)
noncomputable def pick(ls:List (List (List T3))):Cs:=ls.foldl (fun acc m=>acc.flatMap (pk1 m)) [[]]
end ui
end K2
end
section
namespace K2
open PySem (Str)
open Enc (enc)
namespace ui
open K2.P
open K2.rE (cy jP)
noncomputable abbrev M:=List (Int×Int)
noncomputable def rn1(m:M)(t:T3):T3:=⟨(lI m t.a).getD 0,t.b,t.c⟩
noncomputable def Yt(m:M)(r:List T3):List T3:=r.map (rn1 m)
noncomputable def mR(r:List T3)(k:Nat):List T3:=r.drop k++r.take k
noncomputable def WY(r:List T3):List (List T3):=(e7 (max 1 r.length)).map (mR r)
theorem SR{r:List T3}{k:Nat}{G:Gp}{Q:DK}{d:D}(hd:IsL G d (r.map enc))(hk:k<=r.length)(hl:r.length<=1000)(q:Q (enc (mR r k)) G) :
  N9 d (some (k:Int)) none G fun x G1=>N9 d none (some (k:Int)) G1 fun y G2=>kJ x y G2 fun z G3=>PT G3 z Q:=by
 refine pb hd ?_;rw [oQ,BJ r k hk];intro p hp;refine pb (hd.mono (.new hp)) ?_;rw [oQ,JR r k hk];intro p2 pP;have Mw:p≠p2:=fun z=>by rw [<-z,aC] at pP; cases pP
 have g1:cW (cW G p (.lst ((r.drop k).map enc))) p2 (.lst ((r.take k).map enc)) p=some (.lst ((r.drop k).map enc)):=by rw [eR Mw,aC]
 have gl:fy G (cW (cW G p (.lst ((r.drop k).map enc))) p2 (.lst ((r.take k).map enc))):=(fy.new hp).trans (.new pP);show BO _ _ _ _;unfold BO;rw [mw (IsL.ref (ds:=(r.drop k).map enc) g1),mw (IsL.ref (ds:=(r.take k).map enc) aC)];refine⟨FJ (by simp; lia),fun p3 Ju=>?_⟩;refine kz (xs:=mR r k) (gl.trans (.new Ju)) (gl.free Ju) ?_ q;rw [aC];unfold mR;rw [aJ]
noncomputable def Zd(m:M)(n:Int):M:=if (lI m n).isSome=true then m else yn m n ((m.length:Int)+1)
noncomputable def met(L:List T3):M:=L.foldl (fun m t=>Zd m t.a) []
end ui
end K2
end
section
namespace K2
open PySem (Str)
open Enc (enc)
namespace ui
open K2.P
open K2.rE (cy jP kd oN)
structure Gd(m:M):Prop where
 nd:(m.map (·.1)).Nodup
 vs:m.map (·.2)=(e7 m.length).map fun i:Nat=>(i:Int)+1
theorem kZ(r:List T3)(k:Nat):(mR r k).Perm r:=by
 unfold mR;exact List.perm_append_comm.trans (by rw [da])
theorem D5{r a b:List T3}{x:T3}(hx:x=jP r)(e:r=a++x :: b)(hn:x∉a):cy r=x :: b++a:=by
 have hi:r.idxOf (jP r)=a.length:=by
  rw [<-hx,e,CZ,if_neg hn,yv]; simp
 unfold cy;rw [hi,e,Kd,Kb]
theorem Md{r r':List T3}(p:r'.Perm r)(mz:r≠[]):jP r'=jP r:=by
 have ZN:r'≠[]:=fun z=>mz (by rw [z] at p; exact p.symm.eq_nil);exact Be _ _ (oN (p.mem_iff.mpr (kd mz))) (oN (p.mem_iff.mp (kd ZN)))
theorem nJ{r:List T3}(hn:(r.map T3.s).Nodup)(k:Nat):cy (mR r k)=cy r:=by
 by_cases mz:r=[]
 ·subst mz; unfold mR; simp
 have nd:r.Nodup:=by
  refine List.Pairwise.imp ?_ (List.pairwise_map.mp hn);intro a b h e;exact h (congrArg _ e)
 have hl:=Md (kZ r k) mz;obtain⟨a,b,e⟩:=mM (kd mz);generalize hx:jP r=x at e;rw [hx] at hl;have ZO:(a++x :: b).Nodup:=by rw [<-e]; exact nd
 rw [jf] at ZO;have ha:x∉a:=fun z=>ZO.2.2 x z x bb rfl;have hb:x∉b:=(List.nodup_cons.mp ZO.2.1).1;rw [D5 hx.symm e ha];by_cases hk:k<=a.length
 ·have e2:mR r k=a.drop k++x :: (b++a.take k):=by
   unfold mR;rw [e,List.drop_append_of_le_length hk,FF hk]; simp
  rw [D5 hl.symm e2 fun z=>ha (Qi z)];simp only [aB,bW,da]
 ·obtain⟨j,rfl⟩:∃ j,k=a.length+(j+1):=⟨k - a.length - 1,by lia⟩;have e2:mR r (a.length+(j+1))=(b.drop j++a)++x :: b.take j:=by
   unfold mR;rw [e,List.drop_length_add_append,List.take_length_add_append,List.drop_succ_cons,List.take_succ_cons]; simp
  rw [D5 hl.symm e2 fun z=>(List.mem_append.mp z).elim (fun z=>hb (Qi z)) ha];simp only [aB,<-bW,da]
inductive Ro:Rows->Rows->Prop
 | nil:Ro [] []
 | cons {r x:List T3} {rs xs:Rows}:(∃ k,k<=r.length/\x=mR r k)->Ro rs xs->Ro (r :: rs) (x :: xs)
noncomputable def XJ(rows:Rows):Cs:=pick (rows.map WY)
noncomputable def sm(rows:Rows):Rows:=(rows.map (Yt (met rows.flatten))).map cy
noncomputable def bi(rows:Rows):Nat:=bst (fun i j=>cm.lt (sm ((XJ rows).getD i [])) (sm ((XJ rows).getD j []))) ((XJ rows).length - 1)
end ui
end K2
end
section
namespace K2
open PySem (Str)
open Enc (enc)
namespace ui
open K2.P
open K2.rE (cy jP kd oN)
noncomputable def tp(c:Rows):D:=.tup [enc (sm c),.yE (ke (met c.flatten))]
structure Sz(rows:Rows):Prop where
 n:rows.length<=3
 f:rows.flatten.length<=24
end ui
end K2
end
section
namespace K2
open PySem (Str)
open Enc (enc)
namespace o4
open K2.P
variable {rows:Rows}
end o4
end K2
end
section
namespace K2
open PySem (Str)
open Enc (enc)
namespace o4
open K2.P
variable {rows:Rows}
end o4
end K2
end
section
namespace K2
open PySem (Str)
open Enc (enc)
namespace ui
open K2.P
open K2.rE (cy jP kd oN)
open K2.o4 (oF iW HR HR.fz)
open K2.K3 (DF)
theorem QE{r:List T3}{k:Nat}{G:Gp}{Q:DK}{d:D}(hd:IsL G d (r.map enc))(hk:k<=r.length)(hl:r.length<=1000)(q:∀ p G1,fy G G1->G p=none->G1 p=some (.lst ((mR r k).map enc))->Q (.ref p) G1) :
  N9 d (some (k:Int)) none G fun x G1=>N9 d none (some (k:Int)) G1 fun y G2=>kJ x y G2 Q:=by
 refine pb hd ?_;rw [oQ,BJ r k hk];intro p hp;refine pb (hd.mono (.new hp)) ?_;rw [oQ,JR r k hk];intro p2 pP;have Mw:p≠p2:=fun z=>by rw [<-z,aC] at pP; cases pP
 have g1:cW (cW G p (.lst ((r.drop k).map enc))) p2 (.lst ((r.take k).map enc)) p=some (.lst ((r.drop k).map enc)):=by rw [eR Mw,aC]
 have gl:fy G (cW (cW G p (.lst ((r.drop k).map enc))) p2 (.lst ((r.take k).map enc))):=(fy.new hp).trans (.new pP);show BO _ _ _ _;unfold BO;rw [mw (IsL.ref (ds:=(r.drop k).map enc) g1),mw (IsL.ref (ds:=(r.take k).map enc) aC)];refine⟨FJ (by simp; lia),fun p3 Ju=>?_⟩;refine q _ _ (gl.trans (.new Ju)) (gl.free Ju) ?_;rw [aC];unfold mR;rw [aJ]
end ui
end K2
end
section
namespace K2
open PySem (Str)
open Enc (enc)
namespace ui
open K2.P
open K2.rE (cy jP kd oN)
open K2.K3 (DF)
variable {rows c:Rows}
end ui
end K2
end
section
namespace K2
open Enc (enc)
namespace Af
open K2.P K2.ui
open K2.rE (cy jP kd oN)
open K2.K3 (DF)
theorem i3(a b:List T3):mR (a++b) a.length=b++a:=by unfold mR; rw [Kd,Kb]
theorem oI{r:List T3}{k j:Nat}(hk:k<=r.length)(hj:j<=r.length):∃ i,i<=r.length/\mR (mR r k) j=mR r i:=by
 obtain⟨a,b,rfl,rfl⟩:∃ a b,r=a++b/\k=a.length:=⟨r.take k,r.drop k,(da k r).symm,by rw [cS]; lia⟩;rw [i3];rw [aL] at hj;by_cases h:j<=b.length
 ·obtain⟨b1,b2,rfl,rfl⟩:∃ b1 b2,b=b1++b2/\j=b1.length:=⟨b.take j,b.drop j,(da j b).symm,by rw [cS]; lia⟩;refine⟨(a++b1).length,by simp,?_⟩;rw [bW,i3,<-bW a b1 b2,i3,bW]
 ·obtain⟨i,rfl⟩:∃ i,j=b.length+i:=⟨j - b.length,by lia⟩;obtain⟨a1,a2,rfl,rfl⟩:∃ a1 a2,a=a1++a2/\i=a1.length:=⟨a.take i,a.drop i,(da i a).symm,by rw [cS]; lia⟩;refine⟨a1.length,by simp,?_⟩;rw [<-bW,show b.length+a1.length=(b++a1).length by simp,i3,bW a1 a2 b,i3,bW]
theorem nM{r:List T3}{k:Nat}(hk:k<=r.length):∃ i,i<=(mR r k).length/\r=mR (mR r k) i:=by
 obtain⟨a,b,rfl,rfl⟩:∃ a b,r=a++b/\k=a.length:=⟨r.take k,r.drop k,(da k r).symm,by rw [cS]; lia⟩;rw [i3];exact⟨b.length,by simp,(i3 b a).symm⟩
theorem oJ(r:List T3)(k:Nat):(mR r k).length=r.length:=(kZ r k).length_eq
theorem gi:∀ rows:Rows,Ro rows rows
 | []=>.nil
 | r :: rows=>.cons ⟨0,cX _,by unfold mR; simp⟩ (gi rows)
theorem i8{r1 r2 r3:Rows}(h1:Ro r1 r2):Ro r2 r3->Ro r1 r3:=by
 induction h1 generalizing r3 with
 | nil=>intro h; exact h
 | cons q _ ih =>
  intro h;cases h with
  | cons q2 h2 =>
   obtain⟨k,hk,rfl⟩:=q;obtain⟨j,hj,rfl⟩:=q2;rw [oJ] at hj;exact .cons (oI hk hj) (ih h2)
theorem kl{r1 r2:Rows}(h:Ro r1 r2):Ro r2 r1:=by
 induction h with
 | nil=>exact .nil
 | cons q _ ih =>
  obtain⟨k,hk,rfl⟩:=q;exact .cons (nM hk) ih
theorem e8(rows:Rows):Ro rows (rows.map cy):=by
 induction rows with
 | nil=>exact .nil
 | cons r rows ih=>exact .cons ⟨_,o8,rfl⟩ ih
end Af
end K2
end
section
namespace K2
open PySem (Str)
open Enc (enc)
namespace Mo
open K2.P
open K2.rE (cy)
open K2.ui (mR Ro kZ nJ)
open K2.Af (i3 oI nM oJ gi i8 kl e8)
noncomputable def j3(r x:List T3):Prop:=∃ k,k<=r.length/\x=mR r k
theorem j3.refl(r:List T3):j3 r r:=⟨0,cX _,by simp [mR]⟩
theorem j3.trans{a b c:List T3}(h:j3 a b)(h2:j3 b c):j3 a c:=by
 obtain⟨k,hk,rfl⟩:=h;obtain⟨j,hj,rfl⟩:=h2;rw [oJ] at hj;exact oI hk hj
theorem j3.app(a b:List T3):j3 (a++b) (b++a):=⟨a.length,by simp,(i3 a b).symm⟩
theorem j3.perm{a b:List T3}(h:j3 a b):b.Perm a:=by
 obtain⟨k,_,rfl⟩:=h;exact kZ a k
theorem j3.parts{a b:List T3}(h:j3 a b):∃ u v,a=u++v/\b=v++u:=by
 obtain⟨k,_,rfl⟩:=h;exact⟨a.take k,a.drop k,(da k a).symm,rfl⟩
theorem j3.of{a b u v:List T3}(h1:a=u++v)(h2:b=v++u):j3 a b:=by rw [h1,h2]; exact .app u v
theorem j3.flat{a b:List T3}{f:T3->List T3}(h:j3 a b):j3 (a.flatMap f) (b.flatMap f):=by
 obtain⟨u,v,rfl,rfl⟩:=h.parts;exact .of (u:=u.flatMap f) (v:=v.flatMap f) (by rw [jv]) (by rw [jv])
theorem j3.Ue{a b:List T3}{f:T3->Bool}(h:j3 a b):j3 (a.filter f) (b.filter f):=by
 obtain⟨u,v,rfl,rfl⟩:=h.parts;exact .of (u:=u.filter f) (v:=v.filter f) (by rw [cI]) (by rw [cI])
theorem j3.Yq{a b:List T3}(h:j3 a b)(nd:(a.map T3.s).Nodup):cy b=cy a:=by
 obtain⟨k,_,rfl⟩:=h;exact nJ nd k
theorem NX(r:List T3):j3 r (cy r):=⟨_,o8,rfl⟩
theorem j3.nil{b:List T3}(h:j3 [] b):b=[]:=by have:=h.perm; exact this.eq_nil
theorem j3.uniq{f:T3}{T r:List T3}(h:j3 (f :: T) r)(nd:(r.map T3.s).Nodup):mR r (r.map T3.s |>.idxOf f.s)=f :: T:=by
 obtain⟨u,v,e,rfl⟩:=h.parts;cases u with
 | nil =>
  rw [aG] at e;subst e;simp [mR]
 | cons g u =>
  rw [aB] at e;injection e with e1 e2
  subst e1 e2;have hn:f.s∉v.map T3.s:=fun z=>by
   rw [aJ,jf] at nd;exact nd.2.2 _ z _ (bb) rfl
  have:((v++f :: u).map T3.s).idxOf f.s=v.length:=by
   rw [aJ,CZ,if_neg hn,aq,yv]; simp
  rw [this,i3]; rfl
structure rL(rows:Rows):Prop where
 nd:(rows.flatten.map T3.s).Nodup
 way:∀ p∈rows.flatten,p.b=0\/p.b=1
theorem _root_.Internal.K2.Dr.dn{rows:Rows}(d:Dr rows):rL rows:=⟨d.nd,d.way⟩
noncomputable def xA(s:T2)(ps:List T3)(p:T3):List T3:=if p.s=s then p :: ps else [p]
noncomputable def gU(s:T2)(ps:List T3)(k:Nat)(r:List T3):List T3:=(if s=⟨k,2⟩ then ps else [])++r.flatMap (xA s ps)
noncomputable def ku(s:T2)(ps:List T3):Rows->Nat->Rows
 | [],_=>[]
 | r :: rs,k=>gU s ps k r :: ku s ps rs (k+1)
theorem sv(s:T2)(ps:List T3):∀ (a b:Rows) (k:Nat),ku s ps (a++b) k=ku s ps a k++ku s ps b (k+a.length)
 | [],b,k=>by simp [ku]
 | r :: a,b,k=>by
  rw [aB,ku,ku,sv s ps a b (k+1),aB,ag];congr 3; lia
theorem uc{s:T2}{ps:List T3}:∀ {r:List T3},(∀ p∈r,p.s≠s)->r.flatMap (xA s ps)=r
 | [],_=>rfl
 | a :: r,h=>by
  rw [cO,uc fun p hp=>h p (aU _ hp)];unfold xA;rw [if_neg (h a bb)]; rfl
theorem pZ{s:T2}{ps:List T3}:∀ {R:Rows} {k:Nat},(∀ p∈R.flatten,p.s≠s)->(∀ j:Nat,k<=j->j < k+R.length->s≠⟨j,2⟩)->ku s ps R k=R
 | [],k,_,_=>rfl
 | r :: R,k,h,h2=>by
  rw [ku,pZ (fun p hp=>h p (by rw [bP]; exact bN _ hp)) (fun j h3 h4=>h2 j (by lia) (by rw [ag]; lia))];unfold gU;rw [if_neg (h2 k (aT _) (by rw [ag]; lia)),aG,uc fun p hp=>h p (by rw [bP]; exact cZ _ hp)]
inductive Spl (rows:Rows) (s:T2):Prop
 | at (R1 R2:Rows) (A B:List T3) (x:T3) (e:rows=R1++(A++x :: B) :: R2) (hs:x.s=s)
 | mt (R1 R2:Rows) (e:rows=R1++[] :: R2) (hs:s=⟨(R1.length:Nat),2⟩)
theorem NO{s:T2}:∀ {rows:Rows} {k:Nat},s∈bq rows k->(∃ R1 R2 A B x,rows=R1++(A++x :: B) :: R2/\x.s=s)\/∃ R1 R2:Rows,rows=R1++[] :: R2/\s=⟨((k+R1.length:Nat):Int),2⟩
 | [],_,h=>by cases h
 | r :: rs,k,h=>by
  rw [bq] at h;rcases List.mem_append.mp h with h | h
  ·unfold bC at h;split at h
   ·rename_i e;rw [iO] at h;exact .inr ⟨[],rs,by rw [e]; rfl,h⟩
   ·obtain⟨x,hx,e⟩:=List.mem_map.mp h;obtain⟨A,B,e2⟩:=mM hx;exact .inl ⟨[],rs,A,B,x,by rw [e2]; rfl,e⟩
  ·rcases NO h with ⟨R1,R2,A,B,x,e,e2⟩ | ⟨R1,R2,e,e2⟩
   ·exact .inl ⟨r :: R1,R2,A,B,x,by rw [e]; rfl,e2⟩
   ·exact .inr ⟨r :: R1,R2,by rw [e]; rfl,by rw [e2,ag]; congr 2; lia⟩
theorem M8{rows:Rows}{s:T2}(h:s∈bq rows 0):Spl rows s:=by
 rcases NO h with ⟨R1,R2,A,B,x,e,e2⟩ | ⟨R1,R2,e,e2⟩
 ·exact .at R1 R2 A B x e e2
 ·exact .mt R1 R2 e (by rw [e2,ou])
theorem s_b(p:T3):p.s.b=p.b:=rfl
theorem rL.RT{rows:Rows}(d:rL rows){p:T3}(h:p∈rows.flatten)(j:Int):p.s≠⟨j,2⟩:=fun e=>by
 have:=congrArg T2.b e;rw [s_b] at this;have h2:p.b=2:=this;rcases d.way p h with h | h <;> lia
theorem fL(R1 R2:Rows)(r:List T3):(R1++r :: R2).flatten=R1.flatten++(r++R2.flatten):=by rw [qw,bP]
theorem Ei{R1 R2:Rows}{A B ps:List T3}{x:T3}(d:rL (R1++(A++x :: B) :: R2)):ku x.s ps (R1++(A++x :: B) :: R2) 0=R1++(A++x :: (ps++B)) :: R2:=by
 have nd:=d.nd;rw [fL] at nd;simp only [aJ,aq,bW,aB] at nd;have nd1:=List.nodup_append.mp nd;have nd2:=List.nodup_append.mp nd1.2.1;have nd3:=List.nodup_cons.mp nd2.2.1;have hx:x∈(R1++(A++x :: B) :: R2).flatten:=by rw [fL]; simp
 have h1:∀ p∈R1.flatten,p.s≠x.s:=fun p hp e=>nd1.2.2 _ (List.mem_map.mpr ⟨p,hp,e⟩) _ (by simp) rfl;have h2:∀ p∈A,p.s≠x.s:=fun p hp e=>nd2.2.2 _ (List.mem_map.mpr ⟨p,hp,e⟩) _ (by simp) rfl;have h3:∀ p∈B,p.s≠x.s:=fun p hp e=>nd3.1 (cZ _ (List.mem_map.mpr ⟨p,hp,e⟩));have h4:∀ p∈R2.flatten,p.s≠x.s:=fun p hp e=>nd3.1 (bN _ (List.mem_map.mpr ⟨p,hp,e⟩));rw [sv,ku,pZ h1 fun j _ _=>d.RT hx _,pZ h4 fun j _ _=>d.RT hx _];congr 2;unfold gU;rw [if_neg (d.RT hx _),aG,jv,cO,uc h2,uc h3];congr 1;unfold xA;rw [if_pos rfl]; rfl
theorem Eh{R1 R2:Rows}{ps:List T3}(d:rL (R1++[] :: R2)):ku ⟨(R1.length:Nat),2⟩ ps (R1++[] :: R2) 0=R1++ps :: R2:=by
 have h1:∀ p∈R1.flatten,p.s≠⟨(R1.length:Nat),2⟩:=fun p hp=>d.RT (by rw [fL]; simp [hp]) _;have h4:∀ p∈R2.flatten,p.s≠⟨(R1.length:Nat),2⟩:=fun p hp=>d.RT (by rw [fL]; simp [hp]) _;have ne:∀ j:Nat,j≠R1.length->(⟨(R1.length:Nat),2⟩:T2)≠⟨(j:Nat),2⟩:=fun j hj e=>by
  have:=congrArg T2.a e;simp only at this;lia
 rw [sv,ku,pZ h1 fun j _ hj=>ne j (by lia),pZ h4 fun j hj _=>ne j (by lia)];congr 2;unfold gU;rw [if_pos (by rw [ou])]; simp
theorem Gg{R1 R2:Rows}{r:List T3}{s:T2}(h:s∈bC r (R1.length:Nat))(hn:∀ p∈R1.zipIdx 0,s∉bC p.1 (p.2:Int)):D1 (R1++r :: R2) s=R1.length:=by
 unfold D1;rw [rG,C0];have:(List.zipIdx R1 0).find? (fun p=>decide (s∈bC p.1 (p.2:Int)))=none:=List.find?_eq_none.mpr fun p hp=>by simpa using hn p hp
 rw [this,Option.none_or,uU,gE];have h':s∈bC r ((0+R1.length:Nat):Int):=by rw [ou]; exact h
 simp only [h',decide_true];simp
theorem Nz{R:Rows}{p:List T3×Nat}(h:p∈R.zipIdx 0):p.1∈R/\p.2 < R.length:=by
 obtain⟨i,hi⟩:=kN h;rw [Qk] at hi;obtain⟨r,hr,e⟩:=Option.map_eq_some_iff.mp hi;subst e;exact⟨eX hr,by have:=(List.getElem?_eq_some_iff.mp hr).1; simpa using this⟩
theorem Kj{R1 R2:Rows}{A B:List T3}{x:T3}(d:rL (R1++(A++x :: B) :: R2)):D1 (R1++(A++x :: B) :: R2) x.s=R1.length:=by
 have hx:x∈(R1++(A++x :: B) :: R2).flatten:=by rw [fL]; simp
 refine Gg (by unfold bC; rw [if_neg (by simp)]; simp) fun p hp=>?_;obtain⟨h1,h2⟩:=Nz hp;unfold bC;split
 ·rw [iO]; exact d.RT hx _
 ·intro z;obtain⟨y,hy,e⟩:=List.mem_map.mp z;have nd:=d.nd;rw [fL,aJ] at nd;exact(List.nodup_append.mp nd).2.2 _ (List.mem_map.mpr ⟨y,List.mem_flatten.mpr ⟨_,h1,hy⟩,e⟩) _ (by simp) rfl
theorem Qx{R1 R2:Rows}(d:rL (R1++[] :: R2)):D1 (R1++[] :: R2) ⟨(R1.length:Nat),2⟩=R1.length:=by
 refine Gg (by unfold bC; rw [if_pos rfl]; simp) fun p hp=>?_;obtain⟨h1,h2⟩:=Nz hp;unfold bC;split
 ·rw [iO];intro e;have:=congrArg T2.a e;simp only at this;lia
 ·intro z;obtain⟨y,hy,e⟩:=List.mem_map.mp z;exact d.RT (by rw [fL]; exact cZ _ (List.mem_flatten.mpr ⟨_,h1,hy⟩)) _ e
end Mo
end K2
end
section
namespace K2
open PySem (Str)
open Enc (enc)
namespace Mo
open K2.P
open K2.rE (cy)
open K2.ui (mR Ro kZ nJ)
open K2.Af (i3 oI nM oJ gi i8 kl e8)
noncomputable def OkS(s:T2)(rows:Rows)(k:Nat):Prop:=∀ (j:Nat) (r:List T3),rows[j]?=some r->s=⟨((k+j:Nat):Int),2⟩->r=[]
theorem Ja{rows:Rows}{s:T2}(d:rL rows)(h:Spl rows s):OkS s rows 0:=by
 intro j r hj e;cases h with
 | «at» R1 R2 A B x e1 hs =>
  subst e1 hs;exact absurd e (d.RT (by rw [fL]; simp) _)
 | mt R1 R2 e1 hs =>
  subst e1 hs;have:=congrArg T2.a e;simp only [ou] at this;have hj':j=R1.length:=by lia
  subst hj';simpa using hj.symm
theorem Oe{s:T2}{ps:List T3}{rows yD:Rows}(h:Ro rows yD):∀ {k:Nat},OkS s rows k->Ro (ku s ps rows k) (ku s ps yD k):=by
 induction h with
 | nil=>intro k _; exact .nil
 | @cons r x rs xs q _ ih =>
  intro k ok;refine .cons ?_ (ih fun j r' hj e=>ok (j+1) r' (by simpa using hj) (by rw [e]; congr 2; lia));have q:j3 r x:=q;show j3 _ _;unfold gU;by_cases hs:s=⟨(k:Nat),2⟩
  ·have:r=[]:=ok 0 r rfl (by simpa using hs);subst this;rw [q.nil]; exact .refl _
  ·rw [if_neg hs,aG,aG]; exact q.flat
theorem Ro.Zi{a b:Rows}(h:Ro a b):b.length=a.length:=by
 induction h with
 | nil=>rfl
 | cons _ _ ih=>rw [ag,ag,ih]
theorem Gj{a b:Rows}(h:Ro a b){s:T2}:∀ {k:Nat},s∈bq a k->s∈bq b k:=by
 induction h with
 | nil=>intro k h; exact h
 | @cons r x rs xs q _ ih =>
  intro k h;have q:j3 r x:=q;rw [bq] at h ⊢;rcases List.mem_append.mp h with h | h
  ·refine cZ _ ?_;unfold bC at h ⊢;by_cases hr:r=[]
   ·subst hr; rw [q.nil]; exact h
   ·rw [if_neg hr] at h;have hx:x≠[]:=fun z=>hr (by have:=q.perm; rw [z] at this; exact this.symm.eq_nil);rw [if_neg hx];exact((q.perm.map T3.s).mem_iff).mpr h
  ·exact bN _ (ih h)
theorem tT{a b:Rows}(h:Ro a b):b.flatten.Perm a.flatten:=by
 induction h with
 | nil=>exact .refl _
 | cons q _ ih =>
  have q:j3 _ _:=q;rw [bP,bP];exact q.perm.append ih
theorem rL.ro{a b:Rows}(d:rL a)(h:Ro a b):rL b :=
 ⟨((tT h).map T3.s).nodup_iff.mpr d.nd,fun p hp=>d.way p ((tT h).mem_iff.mp hp)⟩
theorem _root_.Internal.K2.Dr.ro{a b:Rows}(d:Dr a)(h:Ro a b):Dr b :=
 ⟨(d.dn.ro h).nd,(d.dn.ro h).way,fun p hp=>d.hand p ((tT h).mem_iff.mp hp),fun p hp=>(tT h).mem_iff.mpr (d.zo p ((tT h).mem_iff.mp hp)),by rw [(tT h).length_eq]; exact d.zw,by rw [Ro.Zi h]; exact d.str⟩
theorem rL.row{rows:Rows}(d:rL rows){r:List T3}(h:r∈rows):(r.map T3.s).Nodup:=by
 obtain⟨A,B,rfl⟩:=mM h;have:=d.nd;rw [fL,aJ,aJ] at this;exact(List.nodup_append.mp (List.nodup_append.mp this).2.1).1
theorem NQ{a b:Rows}(h:Ro a b):(∀ r∈a,(r.map T3.s).Nodup)->b.map cy=a.map cy:=by
 induction h with
 | nil=>intro _; rfl
 | cons q _ ih =>
  intro hn;have q:j3 _ _:=q;rw [aq,aq,ih fun r hr=>hn r (aU _ hr),q.Yq (hn _ bb)]
theorem rL.NR{a b:Rows}(d:rL a)(h:Ro a b):b.map cy=a.map cy:=NQ h fun r hr=>d.row hr
noncomputable def rB(ns:List Int)(rows:Rows):Rows:=rows.map (zM fun p=>!decide (p.a∈ns))
theorem Ub{ns:List Int}{a b:Rows}(h:Ro a b):Ro (rB ns a) (rB ns b):=by
 induction h with
 | nil=>exact .nil
 | cons q _ ih =>
  have q:j3 _ _:=q;exact .cons (show j3 _ _ from q.Ue) ih
theorem MJ{ns:List Int}{r:List T3}(h:∀ p∈r,p.a∉ns):r.filter (fun p=>!decide (p.a∈ns))=r:=List.filter_eq_self.mpr fun p hp=>by simpa using h p hp
theorem Ht{ns:List Int}{r:List T3}(h:∀ p∈r,p.a∈ns):r.filter (fun p=>!decide (p.a∈ns))=[]:=List.filter_eq_nil_iff.mpr fun p hp=>by simpa using h p hp
theorem pY{rows:Rows}{s:T2}{ps:List T3}(d:rL rows)(h:Spl rows s):(ku s ps rows 0).flatten.Perm (ps++rows.flatten):=by
 cases h with
 | «at» R1 R2 A B x e hs =>
  subst e hs;rw [Ei d,fL,fL];simp only [bW,aB];have:(R1.flatten++(A++x :: (ps++(B++R2.flatten))))=(R1.flatten++(A++[x]))++(ps++(B++R2.flatten)):=by simp
  rw [this];have e2:ps++(R1.flatten++(A++x :: (B++R2.flatten)))=ps++((R1.flatten++(A++[x]))++(B++R2.flatten)):=by simp
  rw [e2];exact Il _ _ _
 | mt R1 R2 e hs =>
  subst e hs;rw [Eh d,fL,fL,aG];exact Il _ _ _
theorem qG(s:T2)(ps:List T3):∀ (rows:Rows) (k:Nat),(ku s ps rows k).length=rows.length
 | [],_=>rfl
 | r :: rows,k=>by rw [ku,ag,ag,qG s ps rows (k+1)]
theorem Qn{r:List T3}{p q:T3}(h:(∃ A B,r=A++p :: q :: B)\/(∃ M,r=q :: M++[p])\/(r=[p]/\q=p)):(p,q)∈r.zip (h8 r):=by
 have go:∀ i:Nat,r[i]?=some p->(h8 r)[i]?=some q->(p,q)∈r.zip (h8 r):=fun i h1 h2=>eX (i:=i) (List.getElem?_zip_eq_some.mpr ⟨h1,h2⟩);rcases h with ⟨A,B,rfl⟩ | ⟨M,rfl⟩ | ⟨rfl,rfl⟩
 ·refine go A.length (by simp) ?_;unfold h8;rw [cN (by simp),List.getElem?_drop,Nat.add_comm,bQ (by lia)];simp
 ·refine go (M.length+1) ?_ ?_
  ·rw [bQ (by simp)]; simp
  ·unfold h8;rw [bQ (by simp)]; simp
 ·exact go 0 rfl rfl
theorem j3.adj{p q:T3}{T r:List T3}(h:j3 (p :: q :: T) r):(p,q)∈r.zip (h8 r):=by
 obtain⟨u,v,e,rfl⟩:=h.parts;refine Qn ?_
 match u,e with
 | [],e=>exact .inl ⟨[],T,by simpa using e.symm⟩
 | [a],e =>
  simp at e;obtain⟨rfl,rfl⟩:=e;exact .inr (.inl ⟨T,rfl⟩)
 | a :: b :: u,e =>
  simp at e;obtain⟨rfl,rfl,rfl⟩:=e;exact .inl ⟨v,u,rfl⟩
theorem LY{R1 R2:Rows}{r:List T3}{x:T3×T3}(h:x∈r.zip (h8 r)):x∈pairsOf (R1++r :: R2):=by
 unfold pairsOf;rw [jv,cO];exact bN _ (cZ _ h)
theorem qc{R1 R2:Rows}{p q:T3}{T r:List T3}(d:Dr (R1++r :: R2))(h:j3 (p :: q :: T) r):lI (jq (pairsOf (R1++r :: R2))) p.s=some q.s:=by
 rw [OB d];exact(Tj d (LY h.adj)).1
structure Cu(rows:Rows)(n:Int)(s:T2)(y z:T3):Prop where
 ex:∃ (R1 R2:Rows) (r M:List T3),rows=R1++r :: R2/\j3 (y :: z :: M) r/\((M=[]/\s=⟨(R1.length:Nat),2⟩)\/∃ M' x,M=M'++[x]/\x.s=s)/\∀ p∈M,p.a≠n
end Mo
end K2
end
section
namespace K2
open PySem (Str)
open Enc (enc)
namespace K3
open K2.P K2.o4
noncomputable def iS:jx:=fun ds G Q _=>∃ rows:Rows,ds=[enc rows]/\rows.flatten.length < 64/\∀ p,G p=none->Q (.ref p) (cW G p (.lst ((names rows).map enc)))
noncomputable def yI:g7 :=
 (bw (c7 (ju uf (ah (hU 1 [] (ky (a8 iH (ah (aj 0) aH))) (aI 0) (some (c8 (aM (nu false) (aM eY (aj 0) (dC (.int 1))) (dC (.int 0))))) (aM eY (aj 0) (dC (.int 0)))) aH))))
theorem y9(ds:List D)(G:Gp)(Q:DK)(h:iS ds G Q fun _ _=>False):yI (fun _ _=>False) (ends Q) (aX 1 ds) G:=by
 obtain⟨rows,rfl,hl,q⟩:=h;unfold yI;simp only [bw,c7,ju,ah,hU,aX,aq,aO,ag,au,aB,aG,aH,ends,dw,a8,aj,aa];refine⟨rows,rfl,(show rows.flatten.length<=1000 by lia),iF ⟨FJ (by rw [ax]; show rows.flatten.length<=1000; lia),?_⟩⟩;refine lx (xs:=rows.flatten) (fun pre acc τ G'=>G=G'/\(∃ a,τ=[a])/\acc=((pre.filter fun p=>p.b == 0).map (·.a)).map enc) ⟨rfl,⟨_,rfl⟩,rfl⟩ (fun _ _ _ _ _=>trivial) ?_ ?_
 ·rintro pre x post acc τ G' N e ⟨rfl,⟨a,rfl⟩,rfl⟩ hN;simp only [aI,pD,ak,aM,aj,aa,dC,cM,JS,bI,DL];refine⟨_,_,.int _,.int _,?_⟩;simp only [ai,sU,if_false,aN];split
  ·rename_i h;refine hN _ _ _ ⟨rfl,⟨_,rfl⟩,?_⟩;simp [cI,uW,h,K7]
  ·rename_i h;refine hN _ _ _ ⟨rfl,⟨_,rfl⟩,?_⟩;simp [cI,uW,h]
 ·rintro acc τ G' ⟨rfl,⟨a,rfl⟩,rfl⟩ p hp;refine vq (IsL.ref aC) (by rw [ax]; exact Nat.lt_of_le_of_lt (oh _ _) hl) fun p2 pP=>?_;exact JA ((fy.new hp).trans (.new pP)) ((fy.new hp).free pP) aC (q _ ((fy.new hp).free pP))
noncomputable def AF:Rows->Nat->List (T2×Int)
 | [],_=>[]
 | r :: rs,k=>(bC r (k:Int)).map (fun s=>(s,(k:Int)))++AF rs (k+1)
theorem yw:∀ (rows:Rows) (k:Nat),(AF rows k).map (·.1)=bq rows k
 | [],k=>rfl
 | r :: rs,k=>by
  rw [AF,bq,aJ,yw rs,jt];congr 1
  conv=>rhs; rw [<-List.map_id (bC r (k:Int))]
  rfl
theorem eq_int(i j:Int):jw (.int i) (.int j)=decide (i=j):=Enc.eqv i j
theorem NW{rows:Rows}{k:Nat}(h:k < rows.length):pQ (rows.map (enc:List T3->D)) (0+(k:Int))=some (enc rows[k]):=by
 rw [Int.zero_add,gm _ (by lia) (by rw [ax]; lia),dI]; rfl
end K3
end K2
end
section
namespace K2
open PySem (Str)
open Enc (enc)
namespace Af
open K2.P
open K2.ui (M met Yt rn1 mR WY XJ sm bi Sz Ro)
open K2.rE (cy jP ql lX)
open K2.o4 (HR HR.fz)
open K2.K3 (Rl)
noncomputable def C9:g7 :=
 (bE (cA (fH (c8 (aj 0))) (bw (c7 (fh aH))) bz)
 (bE (bH (qU vL sI (aj 0) (ah (ju MP (ah (aj 0) aH)) aH)) (aI 1))
 (bw (c7 (aM kJ (zC (aj 0) (mV (aj 1)) eV) (zC (aj 0) eV (mV (aj 1))))))))
noncomputable def pR:jx:=fun ds G Q _=>∃ r:List T3,ds=[enc r]/\r.length<=1000/\∀ p,G p=none->Q (.ref p) (cW G p (.lst ((cy r).map enc)))
theorem DO(ds:List D)(G:Gp)(Q:DK)(h:pR ds G Q fun _ _=>False):C9 (fun _ _=>False) (ends Q) (aX 2 ds) G:=by
 obtain⟨r,rfl,hl,q⟩:=h;unfold C9;refine bL (fun τ G'=>G=G'/\r≠[]/\τ=[some (enc r),none]) ?_ ?_
 ·intro N hN;simp only [cA,fH,aX,aq,aO,ag,au,a0,aB,aG,bw,c7,fh,aH,ends,bz,bI,aj,aa];cases r with
  | nil=>exact⟨by decide,fun p hp=>JA (.new hp) hp aC (q p hp)⟩
  | cons a t=>exact hN _ _ ⟨rfl,by simp,rfl⟩
 ·rintro _ _ ⟨rfl,mz,rfl⟩;simp only [ends,fI,bH,qU,aj,aa,ah,ju,aH,aI,bw,c7,aM,zC,ao,ak,eV,jc,ae];refine⟨trivial,ql rfl mz (lX trivial rfl mz ?_)⟩;have Xz:r.idxOf (jP r)<=r.length:=o8;refine ui.QE (IsL.enc r) Xz hl fun p G1 l f g=>?_;exact JA l f g (q p f)
noncomputable def se:g7 :=
 (bw (c7 (hU 1 [] (ky (aj 0)) (aI 0) none (a8 pR (ah (aj 0) aH)))))
noncomputable def bR:jx:=fun ds G Q _=>∃ rows:Rows,ds=[enc rows]/\(rows.length<=1000/\∀ r∈rows,r.length<=1000)/\∀ p as G',HR G G' p as (rows.map cy)->Q (.ref p) G'
theorem tD(ds:List D)(G:Gp)(Q:DK)(h:bR ds G Q fun _ _=>False):se (fun _ _=>False) (ends Q) (aX 1 ds) G:=by
 obtain⟨rows,rfl,⟨hl,hr⟩,q⟩:=h;unfold se;simp only [bw,c7,hU,aX,aq,aO,ag,au,aB,aG,ends,dw,aj,aa];refine iF ⟨FJ (by rw [ax]; exact hl),?_⟩;refine lx (xs:=rows) (fun pre acc τ G'=>(∃ a,τ=[a])/\∃ bs:List Nat,acc=bs.map D.ref/\bs.length=pre.length/\bs.Nodup/\(∀ a∈bs,G a=none)/\fy G G'/\∀ (i a:Nat) (r:List T3),bs[i]?=some a->pre[i]?=some r->G' a=some (.lst ((cy r).map enc))) ⟨⟨_,rfl⟩,[],rfl,rfl,lB,(fun a h=>by cases h),.refl _,fun i a r h=>by simp at h⟩ (fun _ _ _ _ _=>trivial) ?_ ?_
 ·rintro pre r post acc τ G' N e ⟨⟨a,rfl⟩,bs,rfl,hl,nd,fr,le,Jw⟩ hN;simp only [aI,a8,ah,aj,ak,aa,aH];refine⟨r,rfl,hr r (by rw [e]; simp),fun p hp=>?_⟩;have Wm:p∉bs:=fun z=>by
   obtain⟨i,hi⟩:=kN z;have h1:i < pre.length:=by rw [<-hl]; exact(List.getElem?_eq_some_iff.mp hi).1
   rw [Jw i p pre[i] hi (aP h1)] at hp; cases hp
  refine hN _ _ _ ⟨⟨_,rfl⟩,bs++[p],by simp,by simp [hl],?_,?_,le.trans (.new hp),?_⟩
  ·rw [jf];refine⟨nd,by simp,fun a h b hb e=>?_⟩;rw [iO] at hb;subst hb e;exact Wm h
  ·intro a h0;rcases List.mem_append.mp h0 with h | h
   ·exact fr a h
   ·rw [iO] at h; subst h; exact le.free hp
  ·intro i b s h1 h2;by_cases hi:i < bs.length
   ·rw [cN hi] at h1;rw [cN (by lia)] at h2;have:b≠p:=by rintro rfl; exact Wm (eX h1)
    rw [eR this];exact Jw i b s h1 h2
   ·rw [bQ (by lia)] at h1 h2;have i0:i - bs.length=0:=by have:=(List.getElem?_eq_some_iff.mp h1).1; simp at this; lia
    rw [i0] at h1;rw [<-hl,i0] at h2;simp at h1 h2;subst h1 h2;exact aC
 ·rintro acc τ G5 ⟨⟨a',rfl⟩,bs,rfl,hl,nd,fr,le,Jw⟩ p3 Ju;refine fD (q p3 bs _ ⟨le.trans (.new Ju),le.free Ju,aC,fun z=>?_,nd,fr,by rw [ax]; exact hl,fun i b r h1 h2=>?_⟩)
  ·obtain⟨i,hi⟩:=kN z;have h1:i < rows.length:=by rw [<-hl]; exact(List.getElem?_eq_some_iff.mp hi).1
   rw [Jw i p3 rows[i] hi (aP h1)] at Ju; cases Ju
  ·rw [dJ] at h2;obtain⟨r',TK,rfl⟩:=Option.map_eq_some_iff.mp h2;exact(fy.new Ju) _ _ (Jw i b r' h1 TK)
end Af
end K2
end
section
namespace K2
open PySem (Str)
open Enc (enc)
namespace Mo
open K2.P
open K2.K3 (iS zV)
open K2.rE (cy)
open K2.o4 (HR)
open K2.Af (bR)
theorem Ob{κ α:Type} [DecidableEq κ] [Enc κ] [tJ κ] [DecidableEq α] [Enc α]{l:List (κ×α)}{k:κ}{v:α}{G:Gp}{Q:DK}(hv:lI l k=some v)(q:Q (enc v) G):eY (.yE (ke l)) (enc k) G Q:=by
 rw [Eg,OH,hv];exact⟨Bh l k,q⟩
noncomputable def uO:g7 :=
 (bw (c7 (Ru (aM (nu false) (aM eY (aj 0) (aj 1)) (aj 2)) (aM (nu false) (aM eY (aj 0) (aj 2)) (aj 1)))))
noncomputable def j5:jx:=fun ds G Q _=>∃ (l:List (T2×T2)) (a b va vb:T2),ds=[.yE (ke l),enc a,enc b]/\(lI l a=some va/\lI l b=some vb)/\Q (.bl (decide (va=b)||decide (vb=a))) G
theorem CU(ds:List D)(G:Gp)(Q:DK)(h:j5 ds G Q fun _ _=>False):uO (fun _ _=>False) (ends Q) (aX 3 ds) G:=by
 obtain⟨l,a,b,va,vb,rfl,⟨ha,hb⟩,q⟩:=h;unfold uO;simp only [bw,c7,aX,aq,aO,ag,au,aB,aG,ends,w6,aM,aj,aa,ae];refine Ob ha (eD (by decide) ?_);simp only [ai,if_false,aN];by_cases h1:va=b
 ·simp only [h1,decide_true,if_true];rw [h1] at q;simp only [decide_true,Bool.true_or] at q;exact fD q
 ·simp only [h1,decide_false,ai,if_false];refine Ob hb (eD (by decide) ?_);simp only [h1,decide_false,B9] at q;exact fD q
noncomputable def oK:g7 :=
 (bE (bH (a8 iS (ah (aj 0) aH)) (aI 2))
 (eZ (ky (aj 1)) (aI 3) (cA (c8 (aM (Co true) (aj 3) (aj 2))) qT bz)))
noncomputable def jm:jx:=fun ds G Q _=>∃ (rows:Rows) (d:D) (ns:List Int),ds=[enc rows,d]/\IsL G d (ns.map enc)/\(rows.flatten.length < 64/\∀ n∈ns,n∈names rows)/\∀ G',fy G G'->Q .eK G'
theorem xj(ds:List D)(G:Gp)(Q:DK)(h:jm ds G Q fun _ _=>False):oK (fun _ _=>False) (ends Q) (aX 4 ds) G:=by
 obtain⟨rows,d,ns,rfl,hd,⟨hl,hn⟩,q⟩:=h;unfold oK;simp only [ends,aX,aq,aO,ag,au,a0,aB,aG,fI,bH,a8,ah,aj,aa,aH,aI,ao,ak];refine⟨rows,rfl,hl,fun p hp=>?_⟩;have le:=fy.new (o:=.lst ((names rows).map enc)) hp;simp only [eZ,dw,aj,ae,aa];refine TG (hd.mono le) fun ok fB=>?_;refine gJ (xs:=ns) (fun pre τ G'=>cW G p (.lst ((names rows).map enc))=G'/\∃ a,τ=[some (enc rows),some d,some (.ref p),a]) ⟨rfl,_,rfl⟩ (fun _ _ G' h=>fB G' (by rw [h.1]; exact .refl _)) ?_ ?_
 ·rintro pre n post τ G' N e ⟨rfl,a,rfl⟩ hN;simp only [aI,cA,ao,ak,bz,bI,aM,aj,ae,aa];refine zV (x:=n) (xs:=names rows) (by decide) aC ?_;have:n∈names rows:=hn n (by rw [e]; simp);simp only [this,decide_true,aK,if_true,aN,ai,if_false];exact hN _ _ ⟨rfl,_,rfl⟩
 ·rintro τ G' ⟨rfl,a,rfl⟩;exact q _ le
noncomputable def q5:g7 :=
 (cA (fH (c8 (aj 0))) qT bz)
noncomputable def ki:jx:=fun ds G Q _=>∃ b:Bool,ds=[.bl b]/\b=true/\Q .eK G
theorem zF(ds:List D)(G:Gp)(Q:DK)(h:ki ds G Q fun _ _=>False):q5 (fun _ _=>False) (ends Q) (aX 1 ds) G:=by
 obtain⟨b,rfl,rfl,q⟩:=h;unfold q5;simp only [cA,fH,aX,aq,aO,ag,au,aB,aG,ends,bz,bI,aj,aa,aN,aK,ai,if_false];exact q
noncomputable def uN:g7 :=
 (bE (bH (a8 iS (ah (aj 0) aH)) (aI 2))
 (bE (cA (c8 (aM YC (aM kJ (ju i7 (ah (aj 2) aH)) (ju i7 (ah (aj 1) aH))) (dC (.int 12)))) qT bz)
 (eZ (ky (aj 1)) (aI 3) (bE (cA (c8 (aM (Co false) (aj 3) (aj 2))) qT bz)
 (eG (qU vL ig (aj 2) (ah (aj 3) aH)))))))
noncomputable def l7:jx:=fun ds G Q _=>∃ (rows:Rows) (d:D) (ns:List Int),ds=[enc rows,d]/\IsL G d (ns.map enc)/\(rows.flatten.length < 64/\(names rows).length+ns.length<=12/\ns.Nodup/\∀ n∈ns,n∉names rows)/\∀ G',fy G G'->Q .eK G'
theorem CT(ds:List D)(G:Gp)(Q:DK)(h:l7 ds G Q fun _ _=>False):uN (fun _ _=>False) (ends Q) (aX 4 ds) G:=by
 obtain⟨rows,d,ns,rfl,hd,⟨hl,hm,nd,hn⟩,q⟩:=h;unfold uN;simp only [ends,aX,aq,aO,ag,au,a0,aB,aG,fI,bH,a8,ah,aj,aa,aH,aI,ao,ak];refine⟨rows,rfl,hl,fun p hp=>?_⟩;have le:=fy.new (o:=.lst ((names rows).map enc)) hp;have gp:=aC (G:=G) (a:=p) (o:=.lst ((names rows).map enc));have hdp:d≠.ref p:=fun e=>by
  rcases hd with e1 | ⟨a,e1,e2⟩
  ·rw [e] at e1; cases e1
  ·rw [e] at e1; cases e1; rw [hp] at e2; cases e2
 generalize cW G p (.lst ((names rows).map enc))=G1 at le gp ⊢;simp only [fK,cA,bz,bI,aM,ju,ah,aj,ae,aa,aH,dC];refine gZ (.ref gp) (gZ (hd.mono le) ?_);simp only [ax,ic,wG,aN];have:¬ ((names rows).length:Int)+(ns.length:Int) > 12:=by lia
 simp only [this,decide_false,ai,eZ,dw,aj,ae,aa,if_false];refine o4.Rg hd le fun ok VM=>?_;refine gJ (xs:=ns) (fun pre τ G'=>fy G G'/\G' p=some (.lst ((names rows++pre).map enc))/\∃ a,τ=[some (enc rows),some d,some (.ref p),a]) ⟨le,by rw [dc]; exact gp,_,rfl⟩ (fun _ _ G' h=>VM G' h.1) ?_ ?_
 ·rintro pre n post τ G' N e ⟨l,g,a,rfl⟩ hN;simp only [aI,ao,ak,fK,cA,bz,eG,qU,aj,ae,aa,iY,ah,aH,e9,bI,aM];refine zV (x:=n) (xs:=names rows++pre) (by decide) g ?_;have h1:n∉names rows++pre:=fun z=>by
   rcases List.mem_append.mp z with z | z
   ·exact hn n (by rw [e]; simp) z
   ·rw [e,jf] at nd;exact nd.2.2 n z n (bb) rfl
  simp only [ai,h1,decide_false,bp,if_false,aN,g,true_and];refine⟨?_,hN _ _ ⟨l.put hp,?_,_,rfl⟩⟩
  ·have:=congrArg dE e;simp at this;exact zh (by rw [ax,aL]; lia)
  ·rw [aC,<-bW,aJ (l₁:=names rows++pre)]; rfl
 ·rintro τ G' ⟨l,g,a,rfl⟩;exact q _ l
theorem Rj{G:Gp}{R:Nat->Bool}:∀ {a a' b b':List D},Fx G R a a'->Fx G R b b'->Fx G R (a++b) (a'++b'):=by
 intro a a' b b' h1 h2;induction a generalizing a' with
 | nil=>cases h1; exact h2
 | cons x a ih=>cases h1 with | cons h t=>exact .cons h (ih t)
theorem ON{α:Type} [DecidableEq α] [Enc α]{xs:List α}{x:α}{G:Gp}{Q:DK}(hd:Enc.dep α<=7)(h:x∈xs)(q:Q (.int ((xs.idxOf x:Nat):Int)) G):sI (enc xs) [enc x] G Q:=by
 refine⟨trivial,xs.map enc,enc x,xs.map enc,rfl,Enc.sn _ _ _ (by unfold SN; lia),qE G 7 hd xs,?_⟩;rw [Hs xs h]; exact q
theorem Es{α:Type}{R1 R2:List α}{r:α}{f:α->D}:pQ ((R1++r :: R2).map f) ((R1.length:Nat):Int)=some (f r):=by
 rw [gm _ (by lia) (by rw [ax]; simp; lia)];simp
theorem Gk{rows:Rows}{s:T2}(h:s∈bq rows 0):∃ p∈rows.zipIdx 0,s∈bC p.1 (p.2:Int):=by
 cases M8 h with
 | «at» R1 R2 A B x e hx =>
  subst e hx;refine⟨(A++x :: B,R1.length),by rw [rG,uU]; simp,?_⟩;unfold bC; rw [if_neg (by simp)]; simp
 | mt R1 R2 e hx =>
  subst e hx;refine⟨([],R1.length),by rw [rG,uU]; simp,?_⟩;unfold bC; rw [if_pos rfl]; simp
theorem LR{rows:Rows}{s:T2}(d:rL rows)(h:s∈bq rows 0):∃ (R1 R2:Rows) (r:List T3) (k:Nat),rows=R1++r :: R2/\D1 rows s=R1.length/\s∈bC r (R1.length:Nat)/\(bC r (R1.length:Nat)).idxOf s=k/\k<=r.length/\∀ ps,ku s ps rows 0=R1++(r.take (k+1)++ps++r.drop (k+1)) :: R2:=by
 cases M8 h with
 | «at» R1 R2 A B x e hx =>
  subst e hx;have hi:(bC (A++x :: B) (R1.length:Nat)).idxOf x.s=A.length:=by
   have nd:=d.row (r:=A++x :: B) (by simp);have hn:x.s∉A.map T3.s:=fun z=>by
    rw [aJ,jf] at nd;exact nd.2.2 _ z _ bb rfl
   unfold bC;rw [if_neg (by simp),aJ,CZ,if_neg hn,aq,yv]; simp
  refine⟨R1,R2,A++x :: B,A.length,rfl,Kj d,by unfold bC; rw [if_neg (by simp)]; simp,hi,by simp,fun ps=>?_⟩;rw [Ei d];have e:A++x :: B=(A++[x])++B:=by simp
  have hl:A.length+1=(A++[x]).length:=by simp
  rw [e,hl,Kb,Kd];simp
 | mt R1 R2 e hx =>
  subst e hx;refine⟨R1,R2,[],0,rfl,Qx d,by unfold bC; rw [if_pos rfl]; simp,by unfold bC; rw [if_pos rfl]; simp,aT _,fun ps=>?_⟩;rw [Eh d]; simp
theorem Vr(n d i:Nat):kj n d (some (i:Int))=min i n:=by
 show (if ((i:Int) < 0) then ((i:Int)+(n:Int)).toNat else min (i:Int).toNat n)=_;rw [if_neg (by lia)]; simp
theorem Lg{α:Type}(xs:List α)(i:Nat):cut xs none (some (i:Int))=xs.take i:=by
 unfold cut;rw [Vr];show (xs.drop 0).take (min i xs.length - 0)=_;rw [List.drop_zero,Nat.sub_zero];exact List.take_eq_take_iff.mpr (by lia)
theorem DB{α:Type}(xs:List α)(i:Nat):cut xs (some (i:Int)) none=xs.drop i:=by
 unfold cut;rw [Vr];show (xs.drop (min i xs.length)).take (xs.length - min i xs.length)=_;rw [nc (by rw [cT]; lia)];by_cases h:i<=xs.length
 ·rw [qz h]
 ·rw [Nat.min_eq_right (by lia),Nv (by lia),Nv (by lia)]
noncomputable def yG:g7 :=
 (bE (bH (a8 jJ (ah (aj 0) (ah (aj 1) aH))) (aI 3))
 (bE (bH (ju rD (ah (aj 0) aH)) (aI 4))
 (bE (bH (aM kJ (qU vL sI (a8 iR (ah (aM eY (aj 4) (aj 3)) (ah (aj 3) aH))) (ah (aj 1) aH)) (dC (.int 1))) (aI 5))
 (bE (bH (aM kJ (aM kJ (zC (aM eY (aj 4) (aj 3)) eV (mV (aj 5))) (aj 2)) (zC (aM eY (aj 4) (aj 3)) (mV (aj 5)) eV)) (O6 (aj 4) (aj 3)))
 (bw (c7 (aj 4)))))))
noncomputable def mf:jx:=fun ds G Q _=>∃ (rows:Rows) (s:T2) (d:D) (ps:List T3),ds=[enc rows,enc s,d]/\IsL G d (ps.map enc)/\(rL rows/\s∈bq rows 0/\rows.length<=500/\(∀ r∈rows,r.length<=500)/\ps.length<=100)/\Q (enc (ku s ps rows 0)) G
theorem H0(ds:List D)(G:Gp)(Q:DK)(h:mf ds G Q fun _ _=>False):yG (fun _ _=>False) (ends Q) (aX 6 ds) G:=by
 obtain⟨rows,s,d,ps,rfl,hd,⟨dn,hs,hl,hr,hps⟩,q⟩:=h;obtain⟨R1,R2,r,k,e,es,hsr,hk,Xz,ZG⟩:=LR dn hs;rw [ZG] at q;unfold yG;simp only [ends,aX,aq,aO,ag,au,a0,aB,aG,fI,bH,a8,ah,aj,aa,ae,aH,aI,ao,ak,ju,aM,qU,dC,zC,eV,jc];refine⟨rows,s,rfl,⟨fun r h=>by have:=hr r h; lia,Gk hs⟩,?_⟩;rw [es];simp only [c7,aX,ends,bI,aM,CM,aj,ju,qU,ah,aH,bw,Lf,eG,bH,aI,dC,bz,dW,fh,JP,lu,JQ,uw,fH,mG,w6,tj,zC,jc,eV,dw,ik,a8,hU,ic,wH,mj,pX,pV,nR,fZ,jN,i9,wF,zT,wG,zW,cM,pW,tU,zS,wD,tx,lz,ug,e9,mr,mq,km,iY,zQ,zP,zO,true_and,and_true,Aa,wR,gW,aN,gj,qg,z9,my,aq,aO,aB,aG,aa,ae,ak,ao,ag,au,a0,if_true,if_false,aK,bp,ai,fI,mi];refine BN (IsL.enc rows) fun p4 Wk=>?_;have l1:=fy.new (o:=.lst (rows.map enc)) Wk;have g4:=aC (G:=G) (a:=p4) (o:=.lst (rows.map enc));generalize cW G p4 (.lst (rows.map enc))=G1 at l1 g4 ⊢;subst e;have TJ:=hr r (by simp);refine hV (.ref g4) Es ?_;refine⟨r,_,rfl,(show r.length<=1000 by lia),?_⟩;refine⟨trivial,ON (by decide) hsr ?_⟩;rw [hk];simp only [ic,gW];have ek:((k:Nat):Int)+1=((k+1:Nat):Int):=by lia
 rw [ek];refine hV (.ref g4) Es ?_;refine pb (IsL.enc r) fun p1 KW=>?_;rw [Lg,<-uD];have l2:=fy.new (o:=.lst ((r.take (k+1)).map enc)) KW;refine tW (.ref aC) (hd.mono (l1.trans l2)) (FJ (by simp only [ax,cS]; lia)) fun p2 pP=>?_;have l3:=fy.new (o:=.lst ((r.take (k+1)).map enc++ps.map enc)) pP;refine hV (.ref (l3 _ _ (l2 _ _ g4))) Es ?_;refine pb (IsL.enc r) fun p3 Ju=>?_;rw [DB,<-uE];have l4:=fy.new (o:=.lst ((r.drop (k+1)).map enc)) Ju;refine tW (.ref (l4 _ _ aC)) (.ref aC) (FJ (by simp only [aL,ax,cS,cT]; lia)) fun p5 Na=>?_;have e5:(r.take (k+1)).map enc++ps.map enc++(r.drop (k+1)).map enc=(r.take (k+1)++ps++r.drop (k+1)).map (enc (α:=T3)):=by simp
 rw [e5];generalize r.take (k+1)++ps++r.drop (k+1)=r' at q ⊢;have l5:=fy.new (o:=.lst (r'.map enc)) Na;have g5:=aC (G:=cW (cW (cW G1 p1 (.lst ((r.take (k+1)).map enc))) p2 (.lst ((r.take (k+1)).map enc++ps.map enc))) p3 (.lst ((r.drop (k+1)).map enc))) (a:=p5) (o:=.lst (r'.map enc));have Zj:=((l2.trans l3).trans l4).trans l5;have mz:p5≠p4:=by
  rintro rfl;rw [((l2.trans l3).trans l4) _ _ g4] at Na; cases Na
 have hf5:G p5=none:=(l1.trans ((l2.trans l3).trans l4)).free Na;generalize cW (cW (cW (cW G1 p1 (.lst ((r.take (k+1)).map enc))) p2 (.lst ((r.take (k+1)).map enc++ps.map enc))) p3 (.lst ((r.drop (k+1)).map enc))) p5 (.lst (r'.map enc))=G5 at Zj g5 ⊢;simp only [O6,aj,ae,aa,bw,c7];unfold Gq;simp only [Zj _ _ g4];have ei:Jp ((R1++r :: R2).map (enc (α:=List T3))).length ((R1.length:Nat):Int)=some R1.length:=by
  unfold Jp;rw [if_pos (by lia),if_pos (by rw [ax]; simp; lia)]; simp
 simp only [ei];have e6:((R1++r :: R2).map enc).set R1.length (.ref p5)=R1.map enc++D.ref p5 :: R2.map enc:=by
  rw [aJ,aq];have:R1.length=(R1.map (enc (α:=List T3))).length:=by rw [ax]
  rw [this,List.set_append_right _ _ (aT _)]; simp
 rw [e6];have hle:fy G (cW G5 p4 (.lst (R1.map enc++D.ref p5 :: R2.map enc))):=(l1.trans Zj).put Wk;have q':Q (.fJ (R1.map enc++D.fJ (r'.map enc) :: R2.map enc)) G:=by
  have:(enc (R1++r' :: R2):D)=.fJ (R1.map enc++D.fJ (r'.map enc) :: R2.map enc):=by rw [Pg,aJ]; rfl
  rw [<-this]; exact q
 refine Jz hle Wk aC (Rj (Fx.same _) (.cons (.ref ?_ ?_ (Fx.same _)) (Fx.same _))) q'
 ·rw [eR mz]; exact g5
 ·simp [hf5]
theorem RP{α:Type} [DecidableEq α] [Enc α]{neg:Bool}{x:α}{xs:List α}{d:D}{G:Gp}{Q:DK}(hd:Enc.dep α<=7)(h:IsL G d (xs.map enc))(q:Q (.bl (if neg then !decide (x∈xs) else decide (x∈xs))) G):Co neg (enc x) d G Q:=by
 rcases h with rfl | ⟨a,rfl,e⟩
 ·exact tV hd q
 ·exact zV hd e q
noncomputable def we:g7 :=
 (bE (bH (fh aH) (aI 2))
 (bE (eZ (ky (aj 0)) (aI 3) (eG (qU vL ig (aj 2) (ah (c7 (hU 1 [1] (ky (aj 3)) (aI 0) (some (c8 (aM (Co true) (aM eY (aj 0) (dC (.int 0))) (aj 1)))) (aj 0))) aH))))
 (bw (c7 (a8 bR (ah (c7 (aj 2)) aH))))))
noncomputable def nj:jx:=fun ds G Q _=>∃ (rows:Rows) (d:D) (ns:List Int),ds=[enc rows,d]/\IsL G d (ns.map enc)/\(rows.length<=500/\∀ r∈rows,r.length<=500)/\∀ p as G',HR G G' p as ((rB ns rows).map cy)->Q (.ref p) G'
theorem Fn(ds:List D)(G:Gp)(Q:DK)(h:nj ds G Q fun _ _=>False):we (fun _ _=>False) (ends Q) (aX 4 ds) G:=by
 obtain⟨rows,d,ns,rfl,hd,⟨hl,hr⟩,q⟩:=h;unfold we;simp only [ends,aX,aq,aO,ag,au,a0,aB,aG,fI,bH,fh,aH,aI,ao,ak];refine⟨by decide,fun p hp=>?_⟩;refine bL (fun τ G'=>fy G G'/\G' p=some (.lst ((rB ns rows).map enc))/\∃ a,τ=[some (enc rows),some d,some (.ref p),a]) ?_ ?_
 ·intro N hN;simp only [eZ,dw,aj,aa];refine iF ?_;refine gJ (xs:=rows) (fun pre τ G'=>fy G G'/\G' p=some (.lst ((rB ns pre).map enc))/\∃ a,τ=[some (enc rows),some d,some (.ref p),a]) ⟨.new hp,aC,_,rfl⟩ (fun _ _ _ _=>trivial) ?_ ?_
  ·rintro pre r post τ G' N2 e ⟨l,g,a,rfl⟩ Bm;have TJ:=hr r (by rw [e]; simp);have u0:pre.length < rows.length:=by have:=congrArg dE e; simp at this; lia
   simp only [aI,eG,qU,aj,ao,ak,ae,aa,iY,g,ah,c7,hU,aH,e9,dw,true_and];refine iF ⟨FJ (by rw [ax]; lia),?_⟩;refine lx (xs:=r) (fun pr acc τ G2=>G'=G2/\acc=(pr.filter fun p=>!decide (p.a∈ns)).map enc/\∃ b,τ=[b,some d]) ⟨rfl,rfl,_,rfl⟩ (fun _ _ _ _ _=>trivial) ?_ ?_
   ·rintro pr t po acc τ G2 N3 e3 ⟨rfl,rfl,b,rfl⟩ FL;simp only [aI,pD,ak,aj,aa,bI,aM,dC,ae,cM,JS];refine RP (x:=t.a) (by decide) (hd.mono l) ?_;simp only [if_true,aN];by_cases ht:t.a∈ns
    ·simp only [ht,decide_true,aK,ai,if_false];exact FL _ _ _ ⟨rfl,by rw [cI]; simp [ht],_,rfl⟩
    ·simp only [ht,decide_false,bp,if_true];exact FL _ _ _ ⟨rfl,by rw [cI,aJ]; simp [ht,pD],_,rfl⟩
   ·rintro acc τ G2 ⟨rfl,rfl,b,rfl⟩ p2 pP;refine kz (xs:=r.filter fun p=>!decide (p.a∈ns)) (.new pP) pP aC ?_;simp only [g];refine⟨zh (by rw [ax]; unfold rB; rw [ax]; lia),Bm _ _ ⟨l.put hp,?_,_,rfl⟩⟩;rw [aC];unfold rB;rw [aJ,aJ]; rfl
  ·rintro τ G' ⟨l,g,a,rfl⟩;exact hN _ _ ⟨l,g,a,rfl⟩
 ·rintro _ G' ⟨l,g,a,rfl⟩;simp only [bw,c7,a8,ah,aj,ae,aa,aH];refine kz (xs:=rB ns rows) l hp g ?_;refine⟨rB ns rows,rfl,⟨by unfold rB; rw [ax]; lia,fun r h=>?_⟩,fun p' as G2 hr2=>fD (q p' as G2 hr2)⟩;obtain⟨r',TK,rfl⟩:=List.mem_map.mp h;have:=hr r' TK;have h2:=oh (fun p:T3=>!decide (p.a∈ns)) r';lia
end Mo
end K2
end
section
namespace K2
open PySem (Str)
open Enc (enc)
namespace Mo
open K2.P
open K2.rE (cy)
open K2.o4 (HR)
open K2.ui (mR)
open K2.Af (bR)
noncomputable def JT(i:Nat)(gone:List T2)(L:List T3):T2:=(((L.map T3.s).filter fun s=>!decide (s∈gone)).getLast?).getD ⟨(i:Int),2⟩
noncomputable def uM:g7 :=
 (bE (bH (a8 jJ (ah (aj 0) (ah (aj 1) aH))) (aI 3))
 (bE (bH (a8 iR (ah (aM eY (aj 0) (aj 3)) (ah (aj 3) aH))) (aI 4))
 (bE (bH (qU vL sI (aj 4) (ah (aj 1) aH)) (aI 5))
 (bE (bH (hU 1 [2] (ky (aM kJ (zC (aj 4) (mV (aj 5)) eV) (zC (aj 4) eV (mV (aj 5))))) (aI 0) (some (c8 (aM (Co true) (aj 0) (aj 1)))) (aj 0)) (aI 6))
 (bE (cA (fH (c8 (aj 6))) (bw (c7 (dW (ah (aj 3) (ah (dC (.int 2)) aH))))) bz)
 (bw (c7 (aM eY (aj 6) (CM Cm (dC (.int 1)))))))))))
noncomputable def j4:jx:=fun ds G Q _=>∃ (R1 R2:Rows) (r T:List T3) (f:T3) (d:D) (gone:List T2),ds=[enc (R1++r :: R2),enc f.s,d]/\IsL G d (gone.map enc)/\(rL (R1++r :: R2)/\j3 (f :: T) r/\∀ x∈R1++r :: R2,x.length<=500)/\Q (enc (JT R1.length gone (f :: T))) G
theorem Vw(r:List T3)(k:Nat):(mR r k).map T3.s=(r.map T3.s).drop k++(r.map T3.s).take k:=by unfold mR; rw [aJ,uE,uD]
theorem CS(ds:List D)(G:Gp)(Q:DK)(h:j4 ds G Q fun _ _=>False):uM (fun _ _=>False) (ends Q) (aX 7 ds) G:=by
 obtain⟨R1,R2,r,T,f,d,gone,rfl,hd,⟨dn,ro,hl⟩,q⟩:=h;have R6:f∈r:=ro.perm.mem_iff.mpr bb;obtain⟨A,B,er⟩:=mM R6;have TJ:=hl r (by simp);have mz:r≠[]:=B7 R6;have Jt:f.s∈bq (R1++r :: R2) 0:=AG (by rw [fL]; simp [R6]);have TH:D1 (R1++r :: R2) f.s=R1.length:=by rw [er] at dn ⊢; exact Kj dn
 have hso:bC r ((R1.length:Nat):Int)=r.map T3.s:=by unfold bC; rw [if_neg mz]
 have hu:=ro.uniq (dn.row (by simp));unfold uM;simp only [ends,aX,aq,aO,ag,au,a0,aB,aG,fI,bH,a8,ah,aj,aa,ae,aH,aI,ao,ak,aM,qU,hU,dw,zC,eV,jc];refine⟨_,f.s,rfl,⟨fun x h=>by have:=hl x h; lia,Gk Jt⟩,?_⟩;rw [TH];refine hV (IsL.enc _) Es ?_;refine⟨r,_,rfl,(show r.length<=1000 by lia),?_⟩;rw [hso];simp only [c7,aX,ends,bI,aM,CM,aj,ju,qU,ah,aH,bw,Lf,eG,bH,aI,dC,bz,dW,fh,JP,lu,JQ,uw,fH,mG,w6,tj,zC,jc,eV,dw,ik,a8,hU,ic,wH,mj,pX,pV,nR,fZ,jN,i9,wF,zT,wG,zW,cM,pW,tU,zS,wD,tx,lz,ug,e9,mr,mq,km,iY,zQ,zP,zO,true_and,and_true,Aa,wR,gW,aN,gj,qg,z9,my,aq,aO,aB,aG,aa,ae,ak,ao,ag,au,a0,if_true,if_false,aK,bp,ai,fI,mi];refine⟨trivial,ON (by decide) (List.mem_map.mpr ⟨f,R6,rfl⟩) ?_⟩;generalize hk:(r.map T3.s).idxOf f.s=k at hu ⊢;simp only [gW];refine pb (IsL.enc (r.map T3.s)) fun p1 KW=>?_;rw [DB,<-uE];have l1:=fy.new (o:=.lst (((r.map T3.s).drop k).map enc)) KW;refine pb (IsL.enc (r.map T3.s)) fun p2 pP=>?_;rw [Lg,<-uD];have l2:=fy.new (o:=.lst (((r.map T3.s).take k).map enc)) pP;refine tW (.ref (l2 _ _ aC)) (.ref aC) (FJ (by simp only [ax,cT,cS]; lia)) fun p3 Ju=>?_;have e3:((r.map T3.s).drop k).map enc++((r.map T3.s).take k).map enc=((f :: T).map T3.s).map (enc (α:=T2)):=by rw [<-aJ,<-Vw,hu]
 rw [e3];have l3:=fy.new (o:=.lst (((f :: T).map T3.s).map enc)) Ju;have L:=(l1.trans l2).trans l3;have g3:=aC (G:=cW (cW G p1 (.lst (((r.map T3.s).drop k).map enc))) p2 (.lst (((r.map T3.s).take k).map enc))) (a:=p3) (o:=.lst (((f :: T).map T3.s).map enc));generalize cW (cW (cW G p1 (.lst (((r.map T3.s).drop k).map enc))) p2 (.lst (((r.map T3.s).take k).map enc))) p3 (.lst (((f :: T).map T3.s).map enc))=G3 at L g3 ⊢;rw [oO g3];have hlen:((f :: T).map T3.s).length<=1000:=by rw [ax,<-ro.perm.length_eq]; lia
 refine⟨FJ (by rw [ax]; exact hlen),?_⟩;refine lx (xs:=(f :: T).map T3.s) (fun pre acc τ G2=>G3=G2/\acc=(pre.filter fun s=>!decide (s∈gone)).map enc/\∃ b,τ=[b,some d]) ⟨rfl,rfl,_,rfl⟩ (fun _ _ _ _ h=>by rw [<-h.1]; exact g3) ?_ ?_
 ·rintro pre s post acc τ G2 N e ⟨rfl,rfl,b,rfl⟩ hN;simp only [aI,ak,aj,aa,bI,aM,ae];refine RP (x:=s) (by decide) (hd.mono L) ?_;simp only [if_true,aN];by_cases ht:s∈gone
  ·simp only [ht,decide_true,aK,ai,if_false];exact hN _ _ _ ⟨rfl,by rw [cI]; simp [ht],_,rfl⟩
  ·simp only [ht,decide_false,bp,if_true];exact hN _ _ _ ⟨rfl,by rw [cI,aJ]; simp [ht],_,rfl⟩
 ·rintro acc τ G2 ⟨rfl,rfl,b,rfl⟩ p4 Wk;have l4:=fy.new (o:=.lst ((((f :: T).map T3.s).filter fun s=>!decide (s∈gone)).map enc)) Wk;have g4:=aC (G:=G3) (a:=p4) (o:=.lst ((((f :: T).map T3.s).filter fun s=>!decide (s∈gone)).map enc));have L4:=L.trans l4;unfold JT at q;generalize ((f :: T).map T3.s).filter (fun s=>!decide (s∈gone))=left at q l4 g4 L4 ⊢;generalize cW G3 p4 (.lst (left.map enc))=G4 at g4 L4 ⊢;simp only [fK,cA,fH,bw,c7,dW,ah,aj,ae,aa,dC,aH,ag,au,bz,aM,CM,i9,bI,C4 g4];cases ZT:left with
  | nil =>
   rw [ZT] at q;simp only [aO,uV,aK,bp,if_true];exact⟨by decide,t9 L4 q⟩
  | cons a t =>
   rw [ZT] at q;simp only [aq,tR,bp,aK,ai,if_false];rw [ZT] at g4;have hln:((a :: t).map (enc (α:=T2))).length=t.length+1:=by simp
   refine hV (.ref g4) (x:=enc ((a :: t).getLast (by simp))) ?_ ?_
   ·unfold pQ Jp;rw [hln,if_neg (by lia),if_pos (by lia)];have:(-1+((t.length+1:Nat):Int)).toNat=t.length:=by lia
    rw [this];show ((a :: t).map enc)[t.length]?=_;rw [dJ,List.getLast_eq_getElem,aP (by simp)];simp
   ·rw [List.getLast?_eq_some_getLast (by simp:a :: t≠[])] at q;exact t9 L4 q
end Mo
end K2
end
section
namespace K2
open PySem (Str)
open Enc (enc)
namespace Mo
open K2.P
open K2.rE (cy)
open K2.ui (mR Ro kZ nJ)
open K2.Af (i3 oI nM oJ gi i8 kl e8)
theorem j3.begun{x:T3}{M A B:List T3}(h:j3 (M++[x]) (A++x :: B))(nd:((A++x :: B).map T3.s).Nodup):M=B++A:=by
 have h1:j3 (x :: M) (A++x :: B):=j3.trans (j3.app [x] M) h;have h2:j3 (x :: (B++A)) (A++x :: B):=j3.of (u:=x :: B) (v:=A) (by simp) (by simp);have e:=(h1.uniq nd).symm.trans (h2.uniq nd);injection e
theorem NZ{R1 R2:Rows}{r x:List T3}(h:j3 r x):Ro (R1++r :: R2) (R1++x :: R2):=by
 induction R1 with
 | nil=>exact .cons h (gi R2)
 | cons a R1 ih=>exact .cons (show j3 a a from .refl a) ih
theorem To{R1 R2:Rows}{r:List T3}(nd:((R1++r :: R2).flatten.map T3.s).Nodup):(∀ p∈R1.flatten,∀ q∈r,p.s≠q.s)/\∀ p∈R2.flatten,∀ q∈r,p.s≠q.s:=by
 rw [fL,aJ,aJ] at nd;have n1:=List.nodup_append.mp nd;have n2:=List.nodup_append.mp n1.2.1;exact⟨fun p hp q hq e=>n1.2.2 _ (List.mem_map.mpr ⟨p,hp,rfl⟩) _ (cZ _ (List.mem_map.mpr ⟨q,hq,e.symm⟩)) rfl,fun p hp q hq e=>n2.2.2 _ (List.mem_map.mpr ⟨q,hq,rfl⟩) _ (List.mem_map.mpr ⟨p,hp,e⟩) rfl⟩
theorem Uk{ns:List Int}{rows:Rows}(d:rL rows):rL (rB ns rows):=by
 have sub:∀ rows:Rows,(rB ns rows).flatten=rows.flatten.filter (fun p=>!decide (p.a∈ns)):=by
  intro rows;induction rows with
  | nil=>rfl
  | cons r rows ih =>
   show (r.filter _++(rB ns rows).flatten)=_;rw [ih,bP,cI]
 refine⟨?_,fun p hp=>?_⟩
 ·rw [sub];exact Lw ((List.filter_sublist).map _) d.nd
 ·rw [sub] at hp;exact d.way p (List.mem_filter.mp hp).1
end Mo
end K2
end
section
namespace K2
open PySem (Str)
open Enc (enc)
namespace Mo
open K2.P
open K2.rE (cy)
open K2.o4 (HR)
open K2.ui (mR Ro)
open K2.Af (bR gi)
theorem KS{G G1 G':Gp}{p:Nat}{as:List Nat}{rs:Rows}(h:HR G1 G' p as rs)(l:fy G G1):HR G G' p as rs :=
 ⟨l.trans h.le,l.free h.fp,h.gp,h.np,h.nd,fun a ha=>l.free (h.fr a ha),h.len,h.at'⟩
theorem qR{rows:Rows}(d:Dr rows):rows.length<=500/\(∀ r∈rows,r.length<=500)/\rows.flatten.length < 64:=by
 have:=d.zw;have h3:=d.str;refine⟨by lia,fun r hr=>?_,by lia⟩;have:=o4.nU hr;lia
structure UnF(rows:Rows)(n:Int)(v0 v1:T2):Prop where
 len:rows.flatten.length < 64
 nm:n∈names rows
 h0:lI (jq (pairsOf rows)) ⟨n,0⟩=some v0
 h1:lI (jq (pairsOf rows)) ⟨n,1⟩=some v1
 ft:v0=⟨n,1⟩\/v1=⟨n,0⟩
end Mo
end K2
end
section
namespace K2
open PySem (Str)
open Enc (enc)
namespace Mo
open K2.P
open K2.rE (cy)
open K2.ui (mR Ro kZ nJ)
open K2.Af (i3 oI nM oJ gi i8 kl e8)
noncomputable def Ac(gs:List T2)(rows:Rows):Rows:=rows.map (zM fun p=>!decide (p.s∈gs))
theorem Bx(gs:List T2):∀ rows:Rows,(Ac gs rows).flatten=rows.flatten.filter (fun p=>!decide (p.s∈gs))
 | []=>rfl
 | r :: rows=>by
  show (r.filter _++(Ac gs rows).flatten)=_;rw [Bx gs rows,bP,cI]
theorem Pj{gs:List T2}{rows:Rows}(d:rL rows):rL (Ac gs rows):=by
 refine⟨?_,fun p hp=>?_⟩
 ·rw [Bx]; exact Lw ((List.filter_sublist).map _) d.nd
 ·rw [Bx] at hp; exact d.way p (List.mem_filter.mp hp).1
theorem Bz{gs:List T2}{r:List T3}(h:∀ p∈r,p.s∉gs):r.filter (fun p=>!decide (p.s∈gs))=r:=List.filter_eq_self.mpr fun p hp=>by simpa using h p hp
theorem Rm{gs:List T2}{R1 R2:Rows}{r:List T3}(h1:∀ p∈R1.flatten,p.s∉gs)(h2:∀ p∈R2.flatten,p.s∉gs):Ac gs (R1++r :: R2)=R1++r.filter (fun p=>!decide (p.s∈gs)) :: R2:=by
 have go:∀ R:Rows,(∀ p∈R.flatten,p.s∉gs)->R.map (zM fun p=>!decide (p.s∈gs))=R:=fun R h=>by
  have:R.map (zM fun p=>!decide (p.s∈gs))=R.map id:=lL fun r hr=>Bz fun p hp=>h p (List.mem_flatten.mpr ⟨r,hr,hp⟩);rw [this,List.map_id]
 unfold Ac;rw [aJ,aq,go R1 h1,go R2 h2]
structure Pr(rows:Rows)(s:T2)(y z:T3):Prop where
 ex:∃ (R1 R2:Rows) (r M:List T3),rows=R1++r :: R2/\j3 (y :: z :: M) r/\((M=[]/\s=⟨(R1.length:Nat),2⟩)\/∃ M' x,M=M'++[x]/\x.s=s)
theorem SS{L r:List T3}(h:j3 L r)(nd:(r.map T3.s).Nodup):(L.map T3.s).Nodup:=((h.perm.map T3.s).nodup_iff).mp nd
theorem tX{rows:Rows}{R1 R2:Rows}{r M:List T3}{y z:T3}(d:rL rows)(e:rows=R1++r :: R2)(ro:j3 (y :: z :: M) r):(∀ p∈R1.flatten,p.s∉[y.s,z.s])/\(∀ p∈R2.flatten,p.s∉[y.s,z.s])/\(∀ p∈M,p.s∉[y.s,z.s])/\y.s≠z.s:=by
 subst e;have nm:=To d.nd;have y1:y∈r:=ro.perm.mem_iff.mpr bb;have y2:z∈r:=ro.perm.mem_iff.mpr (aU _ bb);have nd:=SS ro (d.row (by simp));rw [aq,aq,ff,ff] at nd;have two:∀ (p:T3),p.s≠y.s->p.s≠z.s->p.s∉[y.s,z.s]:=fun p h1 h2 h=>by
  rcases List.mem_cons.mp h with h | h
  ·exact h1 h
  ·exact h2 (List.mem_singleton.mp h)
 refine⟨fun p hp=>two p (nm.1 p hp y y1) (nm.1 p hp z y2),fun p hp=>two p (nm.2 p hp y y1) (nm.2 p hp z y2),fun p hp=>two p (fun h=>nd.1 (aU _ (List.mem_map.mpr ⟨p,hp,h⟩))) (fun h=>nd.2.1 (List.mem_map.mpr ⟨p,hp,h⟩)),fun h=>nd.1 (by rw [h]; exact bb)⟩
theorem Og{rows:Rows}{s:T2}{y z:T3}(d:rL rows)(c:Pr rows s y z):s∈bq (Ac [y.s,z.s] rows) 0/\Ro (ku s [y,z] (Ac [y.s,z.s] rows) 0) rows:=by
 obtain⟨R1,R2,r,M,e,ro,hM⟩:=c.ex;obtain⟨o1,o2,o3,_⟩:=tX d e ro;subst e;have dF:=Pj (gs:=[y.s,z.s]) d;rw [Rm o1 o2] at dF ⊢;have Xi:j3 M (r.filter fun p=>!decide (p.s∈[y.s,z.s])):=by
  have h1:=ro.Ue (f:=fun p:T3=>!decide (p.s∈[y.s,z.s]));have e1:(y :: z :: M:List T3).filter (fun p=>!decide (p.s∈[y.s,z.s]))=M:=by
   rw [mL (by simp),mL (by simp)];exact Bz o3
  rw [e1] at h1;exact h1
 generalize r.filter (fun p=>!decide (p.s∈[y.s,z.s]))=r' at Xi dF ⊢;rcases hM with ⟨rfl,hs⟩ | ⟨M',x,rfl,hs⟩
 ·rw [Xi.nil] at dF ⊢;refine⟨?_,?_⟩
  ·rw [qC,bq,hs];unfold bC;simp
  ·rw [hs,Eh dF];exact NZ ro
 ·have hx:x∈r':=Xi.perm.mem_iff.mpr (by simp);obtain⟨A,B,rfl⟩:=mM hx;subst hs;refine⟨AG (by rw [fL]; simp),?_⟩;rw [Ei dF];have eM:=Xi.begun (dF.row (by simp));subst eM;refine NZ (j3.trans ?_ ro);exact .of (u:=A++[x]) (v:=y :: z :: B) (by simp) (by simp)
theorem Oh{rows:Rows}{s:T2}{y z:T3}(d:rL rows)(hs:s∈bq rows 0):Pr (ku s [y,z] rows 0) s y z:=by
 cases M8 hs with
 | «at» R1 R2 A B x e hx =>
  subst e hx;rw [Ei d];exact⟨_,_,_,B++(A++[x]),rfl,.of (u:=y :: z :: B) (v:=A++[x]) (by simp) (by simp),.inr ⟨B++A,x,by simp,rfl⟩⟩
 | mt R1 R2 e hx =>
  subst e hx;rw [Eh d];exact⟨_,_,_,[],rfl,.refl _,.inl ⟨rfl,rfl⟩⟩
theorem NY{R1 R2:Rows}{r:List T3}{b:Rows}(h:Ro (R1++r :: R2) b):∃ UZ r' W6,b=UZ++r' :: W6/\j3 r r'/\UZ.length=R1.length:=by
 induction R1 generalizing b with
 | nil=>cases h with | cons q h=>exact⟨[],_,_,rfl,q,rfl⟩
 | cons a R1 ih =>
  cases h with
  | cons q h =>
   obtain⟨UZ,r',W6,rfl,hr,hl⟩:=ih h;exact⟨_ :: UZ,r',W6,rfl,hr,by rw [ag,ag,hl]⟩
theorem Pr.ro{a b:Rows}{s:T2}{y z:T3}(c:Pr a s y z)(h:Ro a b):Pr b s y z:=by
 obtain⟨R1,R2,r,M,e,ro,hM⟩:=c.ex;subst e;obtain⟨UZ,r',W6,rfl,hr,hl⟩:=NY h;refine⟨UZ,W6,r',M,rfl,ro.trans hr,?_⟩;rw [hl]; exact hM
theorem Oi{R1 R2:Rows}{r M:List T3}{y z:T3}(ro:j3 (y :: z :: M) r):∃ s,Pr (R1++r :: R2) s y z:=by
 rcases PX M with rfl | ⟨M',x,rfl⟩
 ·exact⟨_,R1,R2,r,[],rfl,ro,.inl ⟨rfl,rfl⟩⟩
 ·exact⟨_,R1,R2,r,M'.concat x,rfl,ro,.inr ⟨M',x,by simp,rfl⟩⟩
theorem LU{s:T2}{ps:List T3}(R1 R2:Rows)(r:List T3):ku s ps (R1++r :: R2) 0=ku s ps R1 0++gU s ps R1.length r :: ku s ps R2 (R1.length+1):=by
 rw [sv,ku]; simp
theorem QQ{rows:Rows}{s u:T2}{y z:T3}{ps:List T3}(c:Pr rows s y z)(hu:u≠y.s)(hk:OkS u rows 0):∃ s',Pr (ku u ps rows 0) s' y z:=by
 obtain⟨R1,R2,r,M,e,ro,_⟩:=c.ex;subst e;rw [LU];have mz:u≠⟨(R1.length:Nat),2⟩:=fun z0=>by
  have:=hk R1.length r (by simp) (by rw [z0]; simp);subst this;have:=ro.perm;exact absurd this.symm.eq_nil (by simp)
 have ZF:gU u ps R1.length r=r.flatMap (xA u ps):=by unfold gU; rw [if_neg mz,aG]
 rw [ZF];have h2:=ro.flat (f:=xA u ps);have e1:(y :: z :: M).flatMap (xA u ps)=y :: z :: ((if z.s=u then ps else [])++M.flatMap (xA u ps)):=by
  rw [cO,cO];unfold xA;rw [if_neg fun q=>hu q.symm];split <;> simp
 rw [e1] at h2;exact Oi h2
theorem K5{ns:List Int}{s:T2}{ps:List T3}(hp:∀ p∈ps,p.a∈ns):∀ {r:List T3},(r.flatMap (xA s ps)).filter (fun p=>!decide (p.a∈ns))=r.filter (fun p=>!decide (p.a∈ns))
 | []=>rfl
 | a :: r=>by
  rw [cO,cI,K5 hp,show a :: r=[a]++r from rfl,cI];congr 1;unfold xA;split
  ·rw [show a :: ps=[a]++ps from rfl,cI,Ht hp,dc]
  ·rfl
theorem Bw{ns:List Int}{s:T2}{ps:List T3}(hp:∀ p∈ps,p.a∈ns):∀ {rows:Rows} {k:Nat},rB ns (ku s ps rows k)=rB ns rows
 | [],_=>rfl
 | r :: rows,k=>by
  show (gU s ps k r).filter _ :: rB ns (ku s ps rows (k+1))=r.filter _ :: rB ns rows;rw [Bw hp];unfold gU;rw [cI,K5 hp];congr 1;split
  ·rw [Ht hp]; rfl
  ·rfl
theorem Uc{ns:List Int}{rows:Rows}(h:∀ p∈rows.flatten,p.a∉ns):rB ns rows=rows:=by
 unfold rB;have:rows.map (zM fun p=>!decide (p.a∈ns))=rows.map id:=lL fun r hr=>MJ fun p hp=>h p (List.mem_flatten.mpr ⟨r,hr,hp⟩);rw [this,List.map_id]
end Mo
end K2
end
section
namespace K2
open PySem (Str)
open Enc (enc)
namespace Mo
open K2.P
open K2.rE (cy)
open K2.ui (mR Ro kZ nJ)
open K2.Af (i3 oI nM oJ gi i8 kl e8)
open K2.K3 (DF)
noncomputable def oj(a b w h:Int):List T3:=[⟨a,w,h⟩,⟨b,w,-h⟩]
noncomputable def Df(a b t h:Int):List T3:=if t=0 then oj a b 1 h else [⟨b,1,-h⟩,⟨a,1,h⟩]
theorem sJ(a b t h:Int):(Df a b t h).Perm (oj a b 1 h):=by
 unfold Df oj;split
 ·exact .refl _
 ·exact .swap _ _ _
structure BY(rows:Rows)(a b:Int)(o u:T2)(t h:Int):Prop where
 d:Dr rows
 zw:rows.flatten.length<=20
 ne:a≠b
 fa:∀ p∈rows.flatten,p.a≠a
 fb:∀ p∈rows.flatten,p.a≠b
 ho:o∈bq rows 0
 hu:u∈bq (ku o (oj a b 0 h) rows 0) 0
 hn:u≠⟨a,0⟩
 ht:t=0\/t=1
 hh:h=1\/h=-1
noncomputable def AA(rows:Rows)(a b:Int)(o:T2)(h:Int):Rows:=ku o (oj a b 0 h) rows 0
noncomputable def raw(rows:Rows)(a b:Int)(o u:T2)(t h:Int):Rows:=ku u (Df a b t h) (AA rows a b o h) 0
noncomputable def laid(rows:Rows)(a b:Int)(o u:T2)(t h:Int):Rows:=(raw rows a b o u t h).map cy
theorem xK{rows:Rows}{a b:Int}{o u:T2}{t h:Int}(c:BY rows a b o u t h):rL (AA rows a b o h):=by
 have pp:=pY (ps:=oj a b 0 h) c.d.dn (M8 c.ho);have fr:∀ (n:Int),(∀ p∈rows.flatten,p.a≠n)->∀ w:Int,(⟨n,w⟩:T2)∉rows.flatten.map T3.s:=fun n hn w z=>by
  obtain⟨p,hp,e⟩:=List.mem_map.mp z;exact hn p hp (congrArg T2.a e)
 refine⟨?_,fun p hp=>?_⟩
 ·show ((ku o (oj a b 0 h) rows 0).flatten.map T3.s).Nodup;rw [(pp.map T3.s).nodup_iff,aJ];show (⟨a,0⟩ :: ⟨b,0⟩ :: rows.flatten.map T3.s).Nodup;rw [ff,ff];refine⟨fun z=>?_,fr b c.fb 0,c.d.nd⟩;rcases List.mem_cons.mp z with z | z
  ·exact c.ne (congrArg T2.a z)
  ·exact fr a c.fa 0 z
 ·rcases List.mem_append.mp (pp.mem_iff.mp hp) with h | h
  ·simp only [oj,dD,cR,or_false] at h;rcases h with rfl | rfl <;> exact .inl rfl
  ·exact c.d.way p h
theorem GC{rows:Rows}{a b:Int}{o u:T2}{t h:Int}(c:BY rows a b o u t h):(raw rows a b o u t h).flatten.Perm (⟨b,1,-h⟩ :: ⟨b,0,-h⟩ :: ⟨a,1,h⟩ :: ⟨a,0,h⟩ :: rows.flatten):=by
 have p1:=pY (ps:=oj a b 0 h) c.d.dn (M8 c.ho);have p2:=pY (ps:=Df a b t h) (xK c) (M8 c.hu);refine p2.trans (((sJ a b t h).append p1).trans ?_);show (([⟨a,1,h⟩,⟨b,1,-h⟩]:List T3)++(([⟨a,0,h⟩,⟨b,0,-h⟩]:List T3)++rows.flatten)).Perm _;simp only [aB,aG];refine(DU _ _ _).trans (.cons _ ?_);refine(List.Perm.cons _ (DU _ _ _)).trans ?_;exact DU _ _ _
theorem Ef{rows:Rows}{a b:Int}{o u:T2}{t h:Int}(c:BY rows a b o u t h):Dr (raw rows a b o u t h):=by
 have df:DF rows.flatten:=⟨c.d.nd,c.d.way,c.d.hand,c.d.zo⟩;have d1:=df.add (m:=a) (hd:=h) (fun z=>by obtain⟨p,hp,e⟩:=List.mem_map.mp z; exact c.fa p hp e) c.hh;have d2:=d1.add (m:=b) (hd:=-h) (fun z=>by
  obtain⟨p,hp,e⟩:=List.mem_map.mp z;rcases List.mem_cons.mp hp with rfl | hp
  ·exact c.ne e
  ·rcases List.mem_cons.mp hp with rfl | hp
   ·exact c.ne e
   ·exact c.fb p hp e) (by have:=c.hh; lia)
 have d3:=d2.perm (GC c);have hf:=c.zw;refine⟨d3.nd,d3.way,d3.hand,d3.zo,?_,?_⟩
 ·rw [(GC c).length_eq]; simp only [ag]; lia
 ·show (ku u (Df a b t h) (ku o (oj a b 0 h) rows 0) 0).length<=3;rw [qG,qG]; exact c.d.str
structure MU(rows:Rows)(a b h:Int):Prop where
 d:Dr rows
 ne:a≠b
 hh:h=1\/h=-1
 ov:(∃ s,Pr rows s ⟨a,0,h⟩ ⟨b,0,-h⟩)\/∃ s,Pr rows s ⟨b,0,-h⟩ ⟨a,0,h⟩
 un:(∃ s,Pr rows s ⟨a,1,h⟩ ⟨b,1,-h⟩)\/∃ s,Pr rows s ⟨b,1,-h⟩ ⟨a,1,h⟩
theorem MU.turn{rows:Rows}{a b h:Int}(c:MU rows a b h):MU rows b a (-h):=by
 have e:- -h=h:=by lia
 refine⟨c.d,c.ne.symm,by have:=c.hh; lia,?_,?_⟩
 ·rw [e]; exact c.ov.symm
 ·rw [e]; exact c.un.symm
theorem SV{rows:Rows}{a b:Int}{o u:T2}{t h:Int}(c:BY rows a b o u t h):MU (raw rows a b o u t h) a b h:=by
 have p1:Pr (AA rows a b o h) o ⟨a,0,h⟩ ⟨b,0,-h⟩:=Oh c.d.dn c.ho;have p2:=QQ (ps:=Df a b t h) p1 c.hn (Ja (xK c) (M8 c.hu));refine⟨Ef c,c.ne,c.hh,.inl p2,?_⟩;unfold raw;rcases c.ht with rfl | rfl
 ·have e:Df a b 0 h=[⟨a,1,h⟩,⟨b,1,-h⟩]:=rfl;rw [e];exact .inl ⟨u,Oh (xK c) c.hu⟩
 ·have e:Df a b 1 h=[⟨b,1,-h⟩,⟨a,1,h⟩]:=rfl;rw [e];exact .inr ⟨u,Oh (xK c) c.hu⟩
theorem MU.ro{x y:Rows}{a b h:Int}(c:MU x a b h)(r:Ro x y):MU y a b h :=
 ⟨c.d.ro r,c.ne,c.hh,c.ov.imp (fun ⟨s,p⟩=>⟨s,p.ro r⟩) fun ⟨s,p⟩=>⟨s,p.ro r⟩,c.un.imp (fun ⟨s,p⟩=>⟨s,p.ro r⟩) fun ⟨s,p⟩=>⟨s,p.ro r⟩⟩
theorem QG{rows:Rows}{a b:Int}{o u:T2}{t h:Int}(c:BY rows a b o u t h)(ns:List Int)(ha:a∈ns)(hb:b∈ns)(hn:∀ n∈ns,n=a\/n=b):rB ns (raw rows a b o u t h)=rows:=by
 have h0:∀ p∈oj a b 0 h,p.a∈ns:=fun p hp=>by simp only [oj,dD,cR,or_false] at hp; rcases hp with rfl | rfl <;> assumption
 have h1:∀ p∈Df a b t h,p.a∈ns:=fun p hp=>by
  have hp:=(sJ a b t h).mem_iff.mp hp;simp only [oj,dD,cR,or_false] at hp; rcases hp with rfl | rfl <;> assumption
 unfold raw AA;rw [Bw h1,Bw h0];exact Uc fun p hp z=>by
  rcases hn _ z with e | e
  ·exact c.fa p hp e
  ·exact c.fb p hp e
structure Lb(rows:Rows)(a b:Int)(F O:Int)(o u:T2)(t h:Int):Prop where
 nm:(F=a/\O=b)\/(F=b/\O=a)
 ht:t=0\/t=1
 hh:h=1\/h=-1
 ho:o∈bq (rB [a,b] rows) 0
 hn:u≠⟨F,0⟩
 ex:∃ Y,Ro (ku o (oj F O 0 h) (rB [a,b] rows) 0) Y/\rL Y/\u∈bq Y 0/\Ro (ku u (Df F O t h) Y 0) rows
theorem Rq(gs hs:List T2)(rows:Rows):Ac gs (Ac hs rows)=Ac (gs++hs) rows:=by
 unfold Ac;rw [jt];refine lL fun r _=>?_;show (r.filter _).filter _=_;rw [List.filter_filter];refine tS fun p _=>?_;by_cases h1:p.s∈gs <;> by_cases h2:p.s∈hs <;> simp [h1,h2]
theorem Rp{a b:Int}{gs:List T2}{rows:Rows}(d:rL rows)(h:∀ s:T2,(s.b=0\/s.b=1)->(s∈gs↔s.a∈[a,b])):Ac gs rows=rB [a,b] rows:=by
 unfold Ac rB;refine lL fun r hr=>tS fun p hp=>?_;have:=h p.s (d.way p (List.mem_flatten.mpr ⟨r,hr,hp⟩));by_cases h1:p.s∈gs
 ·have h2:p.a∈[a,b]:=this.mp h1;rw [decide_eq_true h1,decide_eq_true h2]
 ·have h2:¬ p.a∈[a,b]:=fun z=>h1 (this.mpr z);rw [decide_eq_false h1,decide_eq_false h2]
end Mo
end K2
end
section
namespace K2
open PySem (Str)
open Enc (enc)
namespace Mo
open K2.P
open K2.rE (cy)
open K2.ui (mR Ro kZ nJ)
open K2.Af (i3 oI nM oJ gi i8 kl e8)
theorem KG(gone:List T2):∀ M:List T3,(M.map T3.s).filter (fun t=>!decide (t∈gone))=(M.filter fun p=>!decide (p.s∈gone)).map T3.s
 | []=>rfl
 | a :: M=>by
  rw [aq,uW,uW,KG gone M];split <;> rfl
theorem PL{i:Nat}{gone:List T2}{y z:T3}{M:List T3}(hy:y.s∈gone)(hz:z.s∈gone):(M.filter (fun p=>!decide (p.s∈gone))=[]/\JT i gone (y :: z :: M)=⟨(i:Nat),2⟩)\/∃ K' x,M.filter (fun p=>!decide (p.s∈gone))=K'++[x]/\x.s=JT i gone (y :: z :: M):=by
 have e:JT i gone (y :: z :: M)=(((M.filter fun p=>!decide (p.s∈gone)).map T3.s).getLast?).getD ⟨(i:Int),2⟩:=by
  unfold JT;rw [aq,aq,mL (by simpa using hy),mL (by simpa using hz),KG]
 rw [e];rcases PX (M.filter fun p=>!decide (p.s∈gone)) with h | ⟨K',x,h⟩
 ·left; rw [h]; exact⟨rfl,rfl⟩
 ·right; rw [h]; exact⟨K',x,by simp,by simp⟩
theorem Rn(gs:List T2)(R:Rows):(Ac gs R).length=R.length:=by unfold Ac; rw [ax]
theorem Ud{gs:List T2}(R1 R2:Rows)(r:List T3):Ac gs (R1++r :: R2)=Ac gs R1++r.filter (fun p=>!decide (p.s∈gs)) :: Ac gs R2:=by unfold Ac; rw [aJ,aq]
theorem Wc{rows:Rows}{a b F O hF:Int}{R1 R2 S1 S2:Rows}{r M q N:List T3}{Lx Ly:T3}{t:Int}(d:Dr rows)(ne:a≠b)(nm:(F=a/\O=b)\/(F=b/\O=a))(hh:hF=1\/hF=-1)(e1:rows=R1++r :: R2)(UE:j3 (⟨F,0,hF⟩ :: ⟨O,0,-hF⟩ :: M) r)
  (e2:rows=S1++q :: S2) (P4:j3 (Lx :: Ly :: N) q) (hL:(t=0/\Lx=⟨F,1,hF⟩/\Ly=⟨O,1,-hF⟩)\/(t=1/\Lx=⟨O,1,-hF⟩/\Ly=⟨F,1,hF⟩)) {g1 g2:List T2} (XB:∀ s,s∈g1↔s=⟨a,0⟩\/s=⟨b,0⟩\/s=⟨a,1⟩\/s=⟨b,1⟩) (TU:∀ s,s∈g2↔s=⟨a,1⟩\/s=⟨b,1⟩) :
  Lb rows a b F O (JT R1.length g1 (⟨F,0,hF⟩ :: ⟨O,0,-hF⟩ :: M)) (JT S1.length g2 (Lx :: Ly :: N)) t hF:=by
 have eq2:∀ s:T2,s∈g2↔s∈[Lx.s,Ly.s]:=fun s=>by
  rw [TU];simp only [dD,cR,or_false];rcases hL with ⟨_,rfl,rfl⟩ | ⟨_,rfl,rfl⟩ <;> rcases nm with ⟨rfl,rfl⟩ | ⟨rfl,rfl⟩ <;> first | exact Iff.rfl | exact or_comm
 have ZR:Df F O t hF=[Lx,Ly]:=by
  rcases hL with ⟨rfl,rfl,rfl⟩ | ⟨rfl,rfl,rfl⟩ <;> rfl
 have ZU:Lx.s.b=1/\Ly.s.b=1:=by rcases hL with ⟨_,rfl,rfl⟩ | ⟨_,rfl,rfl⟩ <;> exact⟨rfl,rfl⟩
 have Ca:=tX d.dn e2 P4;have hfe:∀ L:List T3,L.filter (fun p=>!decide (p.s∈g2))=L.filter (fun p=>!decide (p.s∈[Lx.s,Ly.s])):=fun L=>tS fun p _=>by
  by_cases h:p.s∈g2
  ·rw [decide_eq_true h,decide_eq_true ((eq2 _).mp h)]
  ·rw [decide_eq_false h,decide_eq_false fun z=>h ((eq2 _).mpr z)]
 have pu:Pr rows (JT S1.length g2 (Lx :: Ly :: N)) Lx Ly:=by
  refine⟨S1,S2,q,N,e2,P4,?_⟩;have:=PL (i:=S1.length) (M:=N) ((eq2 Lx.s).mpr (by simp)) ((eq2 Ly.s).mpr (by simp));rw [hfe N,Bz Ca.2.2.1] at this;exact this
 obtain⟨su,ru⟩:=Og d.dn pu;have dY:=Pj (gs:=[Lx.s,Ly.s]) d.dn;have hF1:(⟨F,0,hF⟩:T3).s∈g1:=(XB _).mpr (by rcases nm with ⟨rfl,rfl⟩ | ⟨rfl,rfl⟩; exact .inl rfl; exact .inr (.inl rfl));have hO1:(⟨O,0,-hF⟩:T3).s∈g1:=(XB _).mpr (by rcases nm with ⟨rfl,rfl⟩ | ⟨rfl,rfl⟩; exact .inr (.inl rfl); exact .inl rfl);have YE:=tX d.dn e1 UE;have hge:M.filter (fun p=>!decide (p.s∈g1))=M.filter (fun p=>!decide (p.s∈[Lx.s,Ly.s])):=tS fun p hp=>by
  by_cases h:p.s∈[Lx.s,Ly.s]
  ·have:p.s∈g1:=(XB _).mpr (.inr (.inr ((TU _).mp ((eq2 _).mpr h))));rw [decide_eq_true h,decide_eq_true this]
  ·have:¬ p.s∈g1:=fun z=>by
    have R0:=YE.2.2.1 p hp;rcases (XB _).mp z with z | z | z | z
    ·refine R0 ?_;rcases nm with ⟨rfl,rfl⟩ | ⟨rfl,rfl⟩
     ·rw [z]; exact bb
     ·rw [z]; exact aU _ bb
    ·refine R0 ?_;rcases nm with ⟨rfl,rfl⟩ | ⟨rfl,rfl⟩
     ·rw [z]; exact aU _ bb
     ·rw [z]; exact bb
    ·exact h ((eq2 _).mp ((TU _).mpr (.inl z)))
    ·exact h ((eq2 _).mp ((TU _).mpr (.inr z)))
   rw [decide_eq_false h,decide_eq_false this]
 have po:Pr (Ac [Lx.s,Ly.s] rows) (JT R1.length g1 (⟨F,0,hF⟩ :: ⟨O,0,-hF⟩ :: M)) ⟨F,0,hF⟩ ⟨O,0,-hF⟩:=by
  refine⟨Ac [Lx.s,Ly.s] R1,Ac [Lx.s,Ly.s] R2,r.filter (fun p=>!decide (p.s∈[Lx.s,Ly.s])),M.filter (fun p=>!decide (p.s∈[Lx.s,Ly.s])),by rw [e1,Ud],?_,?_⟩
  ·have h1:=UE.Ue (f:=fun p:T3=>!decide (p.s∈[Lx.s,Ly.s]));have n1:∀ x w:Int,(⟨x,0,w⟩:T3).s∉[Lx.s,Ly.s]:=fun x w z=>by
    have:(⟨x,0,w⟩:T3).s.b=1:=by
     rcases List.mem_cons.mp z with z | z
     ·rw [z]; exact ZU.1
     ·rw [List.mem_singleton.mp z]; exact ZU.2
    exact absurd this (by show ¬ (0:Int)=1; decide)
   rw [M3 (by simpa using n1 F hF),M3 (by simpa using n1 O (-hF))] at h1;exact h1
  ·rw [Rn];have:=PL (i:=R1.length) (M:=M) hF1 hO1;rw [hge] at this;exact this
 obtain⟨so,ro⟩:=Og dY po;have hz:Ac [(⟨F,0,hF⟩:T3).s,(⟨O,0,-hF⟩:T3).s] (Ac [Lx.s,Ly.s] rows)=rB [a,b] rows:=by
  rw [Rq];refine Rp d.dn fun s hs=>?_;have h2:=(eq2 s).symm.trans (TU s);simp only [Io];rw [h2];simp only [dD,cR,or_false];obtain⟨sa,sb⟩:=s;have t2:∀ x y:Int,(⟨sa,sb⟩:T2)=⟨x,y⟩↔sa=x/\sb=y:=fun x y=>⟨fun z=>⟨congrArg T2.a z,congrArg T2.b z⟩,fun ⟨h1,h2⟩=>by rw [h1,h2]⟩;show ((⟨sa,sb⟩:T2)=⟨F,0⟩\/(⟨sa,sb⟩:T2)=⟨O,0⟩)\/((⟨sa,sb⟩:T2)=⟨a,1⟩\/(⟨sa,sb⟩:T2)=⟨b,1⟩)↔sa=a\/sa=b;rw [t2,t2,t2,t2];simp only at hs;rcases nm with ⟨rfl,rfl⟩ | ⟨rfl,rfl⟩ <;> lia
 rw [hz] at so ro;refine⟨nm,by rcases hL with ⟨h,_⟩ | ⟨h,_⟩; exact .inl h; exact .inr h,hh,so,?_,_,ro,dY,su,by rw [ZR]; exact ru⟩;intro WB;obtain⟨S1',S2',q',N',e',ro',hN'⟩:=pu.ex;have d1:Dr (R1++r :: R2):=by rw [<-e1]; exact d
 have d2:Dr (S1'++q' :: S2'):=by rw [<-e']; exact d
 have x1:=qc d1 UE;rw [<-e1] at x1;rcases hN' with ⟨_,hs⟩ | ⟨K',x,rfl,hs⟩
 ·rw [WB] at hs;have:=congrArg T2.b hs;exact absurd this (by show ¬ (0:Int)=2; decide)
 ·have ro3:j3 (x :: Lx :: (Ly :: K')) q':=j3.trans (j3.of (u:=[x]) (v:=Lx :: Ly :: K') (by simp) (by simp)) ro';have x2:=qc d2 ro3;rw [<-e',hs,WB] at x2;have x3:=x1.symm.trans x2;injection x3 with x3
  have:=congrArg T2.b x3;rw [ZU.1] at this;exact absurd this (by show ¬ (0:Int)=1; decide)
end Mo
end K2
end
section
namespace K2
open PySem (Str)
open Enc (enc)
namespace K3
open K2.P K2.o4
theorem LH{rows:Rows}(h:rows≠[])(k:Nat):AF rows k≠[]:=by
 cases rows with
 | nil=>exact absurd rfl h
 | cons r rs =>
  rw [AF];intro z;have:=(List.append_eq_nil_iff.mp z).1;rw [List.map_eq_nil_iff] at this;unfold bC at this;split at this
  ·cases this
  ·rename_i h0; exact h0 (List.map_eq_nil_iff.mp this)
end K3
end K2
end
section
namespace K2
open PySem (Str)
open Enc (enc)
namespace K3
open K2.P K2.o4
variable {rows:Rows}
end K3
end K2
end
section
namespace K2
open PySem (Str)
open Enc (enc)
namespace Ir
open K2.P K2.o4
open K2.K3
variable {rows:Rows}
noncomputable def tg{α:Type} [DecidableEq α](gs:List (List α))(x y:α):Bool:=gs.any fun g=>decide (x∈g)&&decide (y∈g)
end Ir
end K2
end
section
namespace K2
open PySem (Str)
open Enc (enc)
namespace Ir
open K2.P K2.o4
open K2.K3
variable {rows:Rows}
noncomputable def AU:g7 :=
 (bE (cA (c8 (aM Xj (aj 1) (ju i7 (ah (aj 0) aH)))) (bw (c7 (aM eY (aj 0) (aj 1)))) bz)
 (bw (c7 (dC (.int 0)))))
noncomputable def cL:jx:=oF
theorem tF(ds:List D)(G:Gp)(Q:DK)(h:cL ds G Q fun _ _=>False):AU (fun _ _=>False) (ends Q) (aX 2 ds) G:=zd ds G Q h
noncomputable def mixed(c:Int):Int:=c % 1000003 * 48271 % 1000003
noncomputable def kT:jx:=fun ds G Q _=>∃ c:Int,ds=[.int c]/\Q (.int (mixed c)) G
noncomputable def wy:g7 :=
 (bw (c7 (aM sr (aM Oa (aM sr (aj 0) (dC (.int 1000003))) (dC (.int 48271))) (dC (.int 1000003)))))
theorem xm(ds:List D)(G:Gp)(Q:DK)(h:kT ds G Q fun _ _=>False):wy (fun _ _=>False) (ends Q) (aX 1 ds) G:=by
 obtain⟨c,rfl,q⟩:=h;unfold wy;simp only [bw,c7,aM,aj,aX,aq,aO,ag,au,aB,aG,aa,dC,ends,fZ,nR];exact⟨by decide,.inr ⟨by decide,by decide⟩,by decide,fD q⟩
noncomputable def qH(L:List T3):List Int:=(L.filter fun p=>p.b == 0).map (·.a)
noncomputable def gH:jx:=SH (fun rows:Rows=>rows.flatten.length<=500) fun rows=>qH rows.flatten
noncomputable def wx:g7 :=
 (bE (bH (fh aH) (aI 1))
 (bE (eZ (ky (aj 0)) (aI 2) (eZ (ky (aj 2)) (aI 3) (cA (c8 (aM (nu false) (aM eY (aj 3) (dC (.int 1))) (dC (.int 0)))) (eG (qU vL ig (aj 1) (ah (aM eY (aj 3) (dC (.int 0))) aH))) bz)))
 (bw (c7 (aj 1)))))
theorem wJ(L:List T3):(qH L).length<=L.length:=by unfold qH; rw [ax]; exact oh _ _
theorem Q3(a b:List T3):qH (a++b)=qH a++qH b:=by unfold qH; rw [cI,aJ]
theorem xl(ds:List D)(G:Gp)(Q:DK)(h:gH ds G Q fun _ _=>False):wx (fun _ _=>False) (ends Q) (aX 4 ds) G:=by
 obtain⟨rows,rfl,hl,q⟩:=h;unfold wx;simp only [ends,aX,aq,aO,ag,au,a0,aB,aG,fI,bH,fh,aH,aI,ao,ak];refine⟨by decide,fun p hp=>?_⟩;refine bL (fun τ G'=>(∃ a b,τ=[some (enc rows),some (.ref p),a,b])/\fy G G'/\G' p=some (.lst ((qH rows.flatten).map enc))) ?_ ?_
 ·intro N hN;simp only [eZ,dw,aj,aa];refine iF ?_;refine gJ (xs:=rows) (fun pre τ G'=>(∃ a b,τ=[some (enc rows),some (.ref p),a,b])/\fy G G'/\G' p=some (.lst ((qH pre.flatten).map enc))) ⟨⟨_,_,rfl⟩,.new hp,aC⟩ (fun _ _ _ _=>trivial) ?_ ?_
  ·rintro pre r post τ G' N2 e ⟨⟨a,b,rfl⟩,l,gp⟩ Bm;have hlen:pre.flatten.length+r.length<=rows.flatten.length:=by
    rw [e]; simp only [qw,bP,aL]; lia
   simp only [aI,eZ,ao,ak,dw,aj,ae,aa];refine iF ?_;refine gJ (xs:=r) (fun pp τ G'=>(∃ a b,τ=[some (enc rows),some (.ref p),a,b])/\fy G G'/\G' p=some (.lst ((qH (pre.flatten++pp)).map enc))) ⟨⟨_,_,rfl⟩,l,by rw [dc]; exact gp⟩ (fun _ _ _ _=>trivial) ?_ ?_
   ·rintro pp t pt τ G4 N3 e4 ⟨⟨a,b,rfl⟩,l4,T5⟩ FL;have hpp:pp.length < r.length:=by have:=congrArg dE e4; simp at this; lia
    have hz:=wJ (pre.flatten++pp);rw [aL] at hz;simp only [aI,pD,ao,ak,EE,eG,qU,aj,ae,aa,iY,ah,aM,dC,aH,e9,cM,JS,bz,bI,DL];refine⟨_,_,.int _,.int _,?_⟩;rw [eq_int];have eu:qH (pre.flatten++(pp++[t]))=qH (pre.flatten++pp)++qH [t]:=by rw [<-bW,Q3]
    by_cases hb:t.b=0
    ·simp only [ai,hb,decide_true,aK,if_false,aN,T5,true_and,if_true];refine⟨zh (by rw [ax]; lia),FL _ _ ⟨⟨_,_,rfl⟩,l4.put hp,?_⟩⟩;rw [aC,eu,aJ];have:qH [t]=[t.a]:=by simp [qH,hb]
     rw [this]; rfl
    ·simp only [ai,hb,decide_false,bp,if_false,aN];refine FL _ _ ⟨⟨_,_,rfl⟩,l4,?_⟩;have:qH [t]=[]:=by simp [qH,hb]
     rw [eu,this,dc]; exact T5
   ·rintro τ G4 ⟨⟨a,b,rfl⟩,l4,T5⟩;refine Bm _ _ ⟨⟨_,_,rfl⟩,l4,?_⟩;have:(pre++[r]).flatten=pre.flatten++r:=by simp
    rw [this]; exact T5
  ·rintro τ G' ⟨⟨a,b,rfl⟩,l,gp⟩;exact hN _ _ ⟨⟨_,_,rfl⟩,l,gp⟩
 ·rintro _ G' ⟨⟨a,b,rfl⟩,l,gp⟩;simp only [bw,c7,aj,ae,aa];exact kz l hp gp q
noncomputable def gL:jx:=fun ds G Q _=>∃ (ns:List Int) (c:Int),ds=[enc ns,.int c]/\ns.length<=500/\∀ m:Int,m∉ns->1<=m->m<=999->Q (.int m) G
noncomputable def yL:g7 :=
 (bE (bH (aM kJ (dC (.int 1)) (aM sr (aj 1) (dC (.int 999)))) (aI 2))
 (bE (Pq (c8 (aM (Co false) (aj 2) (aj 0))) (bH (aM kJ (dC (.int 1)) (aM sr (aj 2) (dC (.int 999)))) (aI 2)))
 (bw (c7 (aj 2)))))
theorem zb(ds:List D)(G:Gp)(Q:DK)(h:gL ds G Q fun _ _=>False):yL (fun _ _=>False) (ends Q) (aX 3 ds) G:=by
 obtain⟨ns,c,rfl,hl,q⟩:=h;unfold yL;simp only [ends,aX,aq,aO,ag,au,a0,aB,aG,fI,bH,aM,dC,aj,ae,aa,aI,ao,ak,fZ,ic];refine⟨by decide,?_⟩;have b1:1<=1+c % 999:=by lia
 have b2:1+c % 999<=999:=by lia
 generalize 1+c % 999=n at *;refine bL (fun τ G'=>G=G'/\∃ m:Int,(m∉ns/\1<=m/\m<=999)/\τ=[some (enc ns),some (.int c),some (.int m)]) ?_ ?_
 ·intro N hN;obtain⟨k,hk,rm⟩:=Pa (ns:=ns) b1 b2 hl;have main:∀ (j:Nat),j<=k->FZ (c8 (aM (Co false) (aj 2) (aj 0))) (bH (aM kJ (dC (.int 1)) (aM sr (aj 2) (dC (.int 999)))) (aI 2)) (j+1) (fun _ _=>False) { ends Q with nx:=N } [some (enc ns),some (.int c),some (.int (fit n (k - j)))] G:=by
   intro j;induction j with
   | zero =>
    intro _;show FZ _ _ (0+1) _ _ _ _;rw [FZ];simp only [bH,aM,dC,aj,ae,aa,aI,ends,ao,ak,fZ,ic,bI];refine tV (x:=fit n (k - 0)) (by decide) ?_;simp only [ai,Nat.sub_zero,rm,decide_false,bp,if_false,aN];have:=By b1 b2 k;exact hN _ _ ⟨rfl,_,⟨rm,by lia,by lia⟩,rfl⟩
   | succ j ih =>
    intro hj;rw [FZ];simp only [bH,aM,dC,aj,ae,aa,aI,ends,ao,ak,fZ,ic,bI];refine tV (x:=fit n (k - (j+1))) (by decide) ?_;have hb:=By b1 b2 (k - (j+1));by_cases hm:fit n (k - (j+1))∈ns
    ·simp only [ai,hm,decide_true,aK,if_false,aN,if_true];refine⟨by decide,?_⟩;have e:1+fit n (k - (j+1)) % 999=fit n (k - j):=by
      rw [show k - j=(k - (j+1))+1 by lia,Int.add_comm]; rfl
     rw [e];exact ih (by lia)
    ·simp only [ai,hm,decide_false,bp,if_false,aN];exact hN _ _ ⟨rfl,_,⟨hm,by lia,by lia⟩,rfl⟩
  have:=main k (aT _);rw [Nat.sub_self] at this;exact⟨k+1,this⟩
 ·rintro _ _ ⟨rfl,m,⟨m1,m2,m3⟩,rfl⟩;simp only [bw,c7,aj,ae,aa];exact fD (q m m1 m2 m3)
structure HA(G G':Gp)(as:List Nat)(rs:Rows):Prop where
 le:fy G G'
 nd:as.Nodup
 fr:∀ a∈as,G a=none
 len:as.length=rs.length
 at':∀ (i a:Nat) (r:List T3),as[i]?=some a->rs[i]?=some r->G' a=some (.lst (r.map enc))
theorem HA.nil(G:Gp):HA G G [] []:=⟨.refl _,lB,(fun a h=>by cases h),rfl,fun i a r h=>by simp at h⟩
theorem HA.new{G G':Gp}{as:List Nat}{rs:Rows}(h:HA G G' as rs){p:Nat}(hp:G' p=none):p∉as:=fun z=>by
 obtain⟨i,hi⟩:=kN z;have h1:i < rs.length:=by rw [<-h.len]; exact(List.getElem?_eq_some_iff.mp hi).1
 rw [h.at' i p rs[i] hi (aP h1)] at hp; cases hp
theorem HA.push{G G':Gp}{as:List Nat}{rs:Rows}(h:HA G G' as rs){p:Nat}(hp:G' p=none)(r:List T3):HA G (cW G' p (.lst (r.map enc))) (as++[p]) (rs++[r]):=by
 have Wm:=h.new hp;refine⟨h.le.trans (.new hp),?_,?_,by simp [h.len],?_⟩
 ·rw [jf];refine⟨h.nd,by simp,fun a ha b hb e=>?_⟩;rw [iO] at hb;subst hb e;exact Wm ha
 ·intro a h0;rcases List.mem_append.mp h0 with z | z
  ·exact h.fr a z
  ·rw [iO] at z; subst z; exact h.le.free hp
 ·intro i b s h1 h2;by_cases hi:i < as.length
  ·rw [cN hi] at h1;rw [cN (by rw [<-h.len]; lia)] at h2;have:b≠p:=by rintro rfl; exact Wm (eX h1)
   rw [eR this];exact h.at' i b s h1 h2
  ·rw [bQ (by lia)] at h1;rw [bQ (by rw [<-h.len]; lia)] at h2;have i0:i - as.length=0:=by have:=(List.getElem?_eq_some_iff.mp h1).1; simp at this; lia
   rw [i0] at h1;rw [<-h.len,i0] at h2;simp at h1 h2;subst h1 h2;exact aC
theorem HA.top{G G':Gp}{as:List Nat}{rs:Rows}(h:HA G G' as rs){p:Nat}(hp:G' p=none):HR G (cW G' p (.lst (as.map D.ref))) p as rs :=
 ⟨h.le.trans (.new hp),h.le.free hp,aC,h.new hp,h.nd,h.fr,h.len,fun i b r h1 h2=>(fy.new hp) _ _ (h.at' i b r h1 h2)⟩
theorem w9{rows:Rows}{G:Gp}{Q:DK}(hl:rows.length<=1000){τ:iP}(q:∀ G' p as,HR G G' p as rows->Q (.ref p) G') :
  Qa (enc rows) G fun ds ok G1=>ds.length<=SZ/\kA (aI 0) none (ju rD (ah (aj 0) aH)) ok ds (fun _ _=>False) (vn 1 [] τ) G1 [] fun xs G2=>l0 G2 (.lst xs) Q:=by
 refine iF ⟨FJ (by rw [ax]; exact hl),?_⟩;refine lx (xs:=rows) (fun pre acc τ G'=>(∃ a,τ=[a])/\∃ as:List Nat,acc=as.map D.ref/\HA G G' as pre) ⟨⟨_,rfl⟩,[],rfl,.nil G⟩ (fun _ _ _ _ _=>trivial) ?_ ?_
 ·rintro pre r post acc τ G' N e ⟨⟨a,rfl⟩,as,rfl,h⟩ hN;simp only [aI,ju,ah,aj,ak,aa,aH];refine BN (IsL.enc r) fun p hp=>?_;exact hN _ _ _ ⟨⟨_,rfl⟩,as++[p],by simp,h.push hp r⟩
 ·rintro acc τ G' ⟨⟨a,rfl⟩,as,rfl,h⟩ p hp;exact q _ p as (h.top hp)
noncomputable def gT:jx:=fun ds G Q _=>∃ (rows:Rows) (c:Int),ds=[enc rows,.int c]/\(1<=rows.length/\rows.length<=3/\rows.flatten.length<=22) /\
 ∀ (yD:Rows) (m hd:Int),yD.length=rows.length->yD.flatten.Perm (⟨m,1,hd⟩ :: ⟨m,0,hd⟩ :: rows.flatten)->m∉qH rows.flatten->(hd=1\/hd=-1)->Q (enc yD) G
noncomputable def si:g7 :=
 (bE (bH (a8 gL (ah (a8 gH (ah (aj 0) aH)) (ah (aj 1) aH))) (aI 2))
 (bE (bH (a8 kT (ah (aj 1) aH)) (aI 3))
 (bE (bH (aM QH (dC (.int 1)) (aM Oa (dC (.int 2)) (aM sr (aj 3) (dC (.int 2))))) (aI 4))
 (bE (bH (aM AX (aj 3) (dC (.int 2))) (aI 3))
 (bE (bH (hU 1 [] (ky (aj 0)) (aI 0) none (ju rD (ah (aj 0) aH))) (aI 5))
 (bE (eZ (rk (dC (.int 2))) (aI 6) (bE (bH (aM eY (aj 5) (aM sr (aj 3) (ju i7 (ah (aj 5) aH)))) (aI 7))
 (bE (bH (aM AX (aj 3) (ju i7 (ah (aj 5) aH))) (aI 3))
 (bE (eG (qU vL zY (aj 7) (ah (aM sr (aj 3) (aM kJ (ju i7 (ah (aj 7) aH)) (dC (.int 1)))) (ah (dW (ah (aj 2) (ah (aj 6) (ah (aj 4) aH)))) aH))))
 (bH (aM AX (aj 3) (ju i7 (ah (aj 7) aH))) (aI 3))))))
 (bw (c7 (aj 5)))))))))
theorem tE(ds:List D)(G:Gp)(Q:DK)(h:gT ds G Q fun _ _=>False):si (fun _ _=>False) (ends Q) (aX 8 ds) G:=by
 obtain⟨rows,c,rfl,⟨n1,n3,hf⟩,q⟩:=h;unfold si;simp only [ends,aX,aq,aO,ag,au,a0,aB,aG,fI,bH,a8,ah,aj,aa,aH,ae,aI,ao,ak,aM,dC,hU,dw];refine⟨rows,rfl,(show rows.flatten.length<=500 by lia),?_⟩;have ol:=wJ rows.flatten;refine⟨qH rows.flatten,c,rfl,by lia,fun m hm m1 m2=>?_⟩;simp only [c7,aX,ends,bI,aM,CM,aj,ju,qU,ah,aH,bw,Lf,eG,bH,aI,dC,bz,dW,fh,JP,lu,JQ,uw,fH,mG,w6,tj,zC,jc,eV,dw,ik,a8,hU,ic,wH,mj,pX,pV,nR,fZ,jN,i9,wF,zT,wG,zW,cM,pW,tU,zS,wD,tx,lz,ug,e9,mr,mq,km,iY,zQ,zP,zO,true_and,and_true,Aa,wR,gW,aN,gj,qg,z9,my,aq,aO,aB,aG,aa,ae,ak,ao,ag,au,a0,if_true,if_false,aK,bp,ai,fI,mi];refine⟨c,rfl,?_⟩;simp only [jN,fZ,nR,pV];have mx:0<=mixed c:=by unfold mixed; lia
 generalize mixed c=x at *;refine⟨by decide,.inl ⟨by decide,by decide⟩,by decide,by decide,?_⟩;have hh:1 - 2 * (x % 2)=1\/1 - 2 * (x % 2)=-1:=by lia
 generalize 1 - 2 * (x % 2)=hd at *;have x2:0<=x / 2:=by lia
 generalize x / 2=x at *;refine w9 (rows:=rows) (by lia) fun G1 p0 as hr=>?_;refine bL (fun τ G'=>(∃ a b e,τ=[some (enc rows),some (.int c),some (.int m),a,some (.int hd),some (.ref p0),b,e])/\∃ SQ,HR G G' p0 as SQ/\SQ.length=rows.length/\SQ.flatten.Perm (⟨m,1,hd⟩ :: ⟨m,0,hd⟩ :: rows.flatten)) ?_ ?_
 ·intro N hN;simp only [eZ,ik,dC,gj];refine⟨by decide,by decide,?_⟩;unfold fj;refine gJ (xs:=e7 (2:Int).toNat) (fun pw τ G'=>∃ SQ y,0<=y/\(∃ b e,τ=[some (enc rows),some (.int c),some (.int m),some (.int y),some (.int hd),some (.ref p0),b,e])/\HR G G' p0 as SQ/\SQ.length=rows.length/\SQ.flatten.Perm ((pw.map fun (i:Nat)=>(⟨m,0+(i:Int),hd⟩:T3)).reverse++rows.flatten)) ⟨rows,x,x2,⟨_,_,rfl⟩,hr,rfl,.refl _⟩ (fun _ _ _ _=>trivial) ?_ ?_
  ·rintro pw w post τ G2 N2 e ⟨rs,y,y0,⟨b1,b2,rfl⟩,h2,l2,p2⟩ Bm;have hw:pw.length < 2:=by
    have:=congrArg dE e;rw [fA,aL,ag] at this;have h4:(2:Int).toNat=2:=rfl;lia
   simp only [aI,ao,ak,fK,bH,aM,aj,ae,aa,ju,ah,aH,eG,qU,dC,dW,ag,au];refine gZ (IsL.ref h2.gp) ?_;rw [ax,h2.len];simp only [fZ];refine⟨by lia,?_⟩;have j1:0<=y % (rs.length:Int):=xH _ (by lia);have j2:y % (rs.length:Int) < rs.length:=rM _ (by lia);generalize y % (rs.length:Int)=j at *;obtain⟨a,r,ea,er,ga,xa⟩:=HR.at_ h2 j1 j2;refine hV (IsL.ref h2.gp) xa ?_;refine gZ (IsL.ref h2.gp) ?_;rw [ax,h2.len];have y3:0<=y / (rs.length:Int):=Int.ediv_nonneg y0 (by lia);simp only [iY,jN,ga,true_and];refine⟨by lia,by lia,?_⟩;generalize y / (rs.length:Int)=y at *;refine gZ (IsL.ref ga) ?_;rw [ax];simp only [ic,fZ,mq];have k1:0<=y % ((r.length:Int)+1):=xH _ (by lia);have k2:y % ((r.length:Int)+1) < (r.length:Int)+1:=rM _ (by lia);refine⟨by lia,by decide,?_⟩;generalize y % ((r.length:Int)+1)=k at *;have rl:r.length<=24:=by
    have h3:=nU (eX er);have h4:=p2.length_eq;rw [aL,qt,ax] at h4;lia
   simp only [ga];refine⟨k1,by rw [ax]; lia,zh (by rw [ax]; lia),?_⟩;rw [show (D.tup [.int m,.int (0+(w:Int)),.int hd])=enc (⟨m,0+(w:Int),hd⟩:T3) from rfl,Rf];have h5:=h2.put (r':=ins r k.toNat ⟨m,0+(w:Int),hd⟩) ea;have g5:(cW G2 a (.lst ((ins r k.toNat ⟨m,0+(w:Int),hd⟩).map enc))) a=some (.lst ((ins r k.toNat ⟨m,0+(w:Int),hd⟩).map enc)):=aC;generalize cW G2 a (.lst ((ins r k.toNat ⟨m,0+(w:Int),hd⟩).map enc))=G5 at *;refine gZ (IsL.ref g5) ?_;rw [ax];simp only [jN];have li:(ins r k.toNat (⟨m,0+(w:Int),hd⟩:T3)).length=r.length+1:=by
    have:=(Ha r k.toNat (⟨m,0+(w:Int),hd⟩:T3)).length_eq;rw [ag] at this; exact this
   rw [li];refine⟨by lia,by lia,?_⟩;refine Bm _ _ ⟨_,_,Int.ediv_nonneg y3 (by lia),⟨_,_,rfl⟩,h5,by rw [qr]; exact l2,?_⟩;refine(Gn (Ha _ _ _) rs _ er).trans ?_;rw [aJ,List.reverse_append];exact .cons _ p2
  ·rintro τ G2 ⟨rs,y,y0,⟨b1,b2,rfl⟩,h2,l2,p2⟩;exact hN _ _ ⟨⟨_,_,_,rfl⟩,rs,h2,l2,p2⟩
 ·rintro _ G2 ⟨⟨a,b,e,rfl⟩,rs,h2,l2,p2⟩;simp only [bw,c7,aj,ae,aa];exact h2.fz (q rs m hd l2 p2 hm hh)
end Ir
end K2
end
section
namespace K2
open PySem (Str)
open Enc (enc)
namespace Ir
open K2.P K2.o4
open K2.K3
variable {rows:Rows}
section
variable {κ:Type} [DecidableEq κ]
structure LI(ms:List κ)(ps:List (κ×κ))(l:List (κ×Int)):Prop where
 keys:l.map (·.1)=ms
 same:∀ x y vx vy,lI l x=some vx->lI l y=some vy->(vx=vy↔Cn ps x y)
end
end Ir
end K2
end
section
namespace K2
open PySem (Str)
open Enc (enc)
namespace MX
open K2.P
open K2.Mo
open K2.rE (cy jP ql lX)
open K2.o4 (HR iW)
open K2.ui (mR Ro)
open K2.Af (bR gi)
theorem Od{s:T2}{ps:List T3}(a:Rows)(r:List T3):ku s ps (a++[r]) 0=ku s ps a 0++[gU s ps a.length r]:=by
 rw [sv]; simp [ku]
theorem Eb{s:T2}{ps:List T3}:∀ (r:List T3),(r.flatMap (xA s ps)).length<=r.length * (ps.length+1)
 | []=>by simp
 | a :: r=>by
  rw [cO,aL,ag,Nat.add_mul];have:=Eb (s:=s) (ps:=ps) r;have h2:(xA s ps a).length<=ps.length+1:=by unfold xA; split <;> simp
  lia
noncomputable def AS:g7 :=
 (bE (bH (fh aH) (aI 3))
 (bE (eZ (rk (ju i7 (ah (aj 0) aH))) (aI 4) (bE (bH (fh aH) (aI 5))
 (bE (cA (c8 (aM (nu false) (aj 1) (dW (ah (aj 4) (ah (dC (.int 2)) aH))))) (bH (ju rD (ah (aj 2) aH)) (aI 5)) bz)
 (bE (eZ (ky (aM eY (aj 0) (aj 4))) (aI 6) (bE (eG (qU vL ig (aj 5) (ah (c7 (aj 6)) aH)))
 (cA (c8 (aM (nu false) (aj 1) (dW (ah (aM eY (aj 6) (dC (.int 0))) (ah (aM eY (aj 6) (dC (.int 1))) aH))))) (bH (aM kJ (aj 5) (aj 2)) (aI 5)) bz)))
 (eG (qU vL ig (aj 3) (ah (c7 (aj 5)) aH)))))))
 (bw (c7 (aj 3)))))
noncomputable def iA:jx:=fun ds G Q _=>∃ (rows:Rows) (s:T2) (d:D) (ps:List T3),ds=[enc rows,enc s,d]/\IsL G d (ps.map enc)/\(rows.length<=100/\(∀ r∈rows,r.length<=100)/\ps.length<=4)/\Q (enc (ku s ps rows 0)) G
theorem BU(ds:List D)(G:Gp)(Q:DK)(h:iA ds G Q fun _ _=>False):AS (fun _ _=>False) (ends Q) (aX 7 ds) G:=by
 obtain⟨rows,s,d,ps,rfl,hd,⟨hl,hr,hps⟩,q⟩:=h;unfold AS;simp only [ends,aX,aq,aO,ag,au,a0,aB,aG,fI,bH,fh,aH,aI,ao,ak];refine⟨by decide,fun p hp=>?_⟩;refine bL (fun τ G'=>fy G G'/\G' p=some (.lst ((ku s ps rows 0).map enc))/\∃ a b c,τ=[some (enc rows),some (enc s),some d,some (.ref p),a,b,c]) ?_ ?_
 ·intro N hN;simp only [eZ,ik,ju,ah,aj,aa,aH];refine gZ (IsL.enc rows) ?_;simp only [ax,gj];refine⟨by lia,by lia,?_⟩;refine pz (fun pre τ G'=>fy G G'/\G' p=some (.lst ((ku s ps (rows.take pre.length) 0).map enc))/\∃ a b c,τ=[some (enc rows),some (enc s),some d,some (.ref p),a,b,c]) ⟨.new hp,aC,_,_,_,rfl⟩ (fun _ _ _ _=>trivial) ?_ ?_
  ·rintro pre x post τ G1 N1 e ⟨l1,g1,a,b,c,rfl⟩ O3;obtain⟨rfl,hk⟩:=qF e;have hk:pre.length < rows.length:=by simpa using hk
   obtain⟨r,er⟩:∃ r,rows[pre.length]?=some r:=⟨rows[pre.length],aP hk⟩;have TJ:=hr r (eX er);have Jw:pQ (rows.map enc) ((pre.length:Nat):Int)=some (enc r):=by
    rw [gm _ (by lia) (by rw [ax]; lia)];simp only [jk,dI];rw [aP hk] at er;injection er with er
    rw [er]
   simp only [aI,ao,ak,fI,bH,fh,aH,au];refine⟨by decide,fun p5 Na=>?_⟩
   let X:List T3:=if s=⟨(pre.length:Nat),2⟩ then ps else []
   let lH:D->Option D->iP:=fun x c=>[some (enc rows),some (enc s),some d,some (.ref p),some (.int (pre.length:Nat)),some x,c]
   have hX:X.length<=4:=by
    show (if s=⟨(pre.length:Nat),2⟩ then ps else []).length<=4;split
    ·lia
    ·simp
   refine bL (fun τ G2=>∃ a,fy G1 G2/\G1 a=none/\G2 a=some (.lst (X.map enc))/\τ=lH (.ref a) c) ?_ ?_
   ·intro N hN;simp only [cA,bH,ju,ah,aj,ae,aa,aH,aI,ao,ak,bz,bI,aM,dW,dC,ag,au];refine⟨by decide,?_⟩;refine eD (x:=s) (y:=(⟨(pre.length:Nat),2⟩:T2)) (by decide) ?_;by_cases hs:s=⟨(pre.length:Nat),2⟩
    ·rw [show decide (s=(⟨(pre.length:Nat),2⟩:T2))=true from decide_eq_true hs];simp only [ai,aK,if_false,aN,if_true];refine BN (hd.mono (l1.trans (.new Na))) fun p6 Xx=>hN _ _ ⟨p6,(fy.new Na).trans (.new Xx),(fy.new Na).free Xx,?_,rfl⟩;show _=some (GO.lst ((if s=⟨(pre.length:Nat),2⟩ then ps else []).map enc));rw [if_pos hs]; exact aC
    ·simp only [ai,hs,decide_false,bp,if_false,aN];refine hN _ _ ⟨p5,.new Na,Na,?_,rfl⟩;show _=some (GO.lst ((if s=⟨(pre.length:Nat),2⟩ then ps else []).map enc));rw [if_neg hs]; exact aC
   rintro _ G2 ⟨a2,l2,f2,g2,rfl⟩;refine bL (fun τ G3=>∃ a c,fy G1 G3/\G1 a=none/\G3 a=some (.lst ((gU s ps pre.length r).map enc))/\τ=lH (.ref a) c) ?_ ?_
   ·intro N hN;simp only [eZ,dw,aM,aj,aa,ae,lH];refine hV (IsL.enc rows) Jw (iF ?_);refine gJ (xs:=r) (fun pr τ G3=>∃ a c,fy G1 G3/\G1 a=none/\G3 a=some (.lst ((X++pr.flatMap (xA s ps)).map enc))/\τ=lH (.ref a) c) ⟨a2,c,l2,f2,by simpa using g2,rfl⟩ (fun _ _ _ _=>trivial) ?_ ?_
    ·rintro pr t po τ G3 N3 e3 ⟨a3,c3,l3,f3,g3,rfl⟩ FL;have u0:pr.length < r.length:=by have:=congrArg dE e3; simp at this; lia
     have hz:=Eb (s:=s) (ps:=ps) pr;have Wg:pr.length * (ps.length+1)<=100 * 5:=Nat.mul_le_mul (by lia) (by lia);simp only [aI,ao,ak,mi,eG,qU,aj,ae,aa,iY,g3,ah,c7,aH,e9,true_and,lH];refine fD ?_;simp only [g3];refine⟨zh (by rw [ax,aL]; lia),?_⟩;simp only [cA,pD,bH,aM,aj,ae,aa,aI,ao,ak,mj,bz,bI,dW,ah,dC,aH,ag,au,cM,DL,JS];refine⟨by decide,?_⟩;refine eD (x:=s) (y:=t.s) (by decide) ?_;have e4:(X++pr.flatMap (xA s ps)).map enc++[D.tup [.int t.a,.int t.b,.int t.c]]=(X++pr.flatMap (xA s ps)++[t]).map (enc (α:=T3)):=by rw [aJ (l₁:=X++pr.flatMap (xA s ps))]; rfl
     rw [e4];by_cases hs:s=t.s
     ·rw [show decide (s=t.s)=true from decide_eq_true hs];simp only [ai,aK,if_false,aN,if_true];refine tW (.ref aC) (hd.mono ((l1.trans l3).put (l1.free f3))) (FJ (by simp only [ax,aL,gB]; lia)) fun p7 hp7=>?_;refine FL _ _ ⟨p7,_,(l3.put f3).trans (.new hp7),(l3.put f3).free hp7,?_,rfl⟩;rw [aC,jv,cO,List.flatMap_nil];have:xA s ps t=t :: ps:=by unfold xA; rw [if_pos hs.symm]
      rw [this,<-aJ];simp
     ·simp only [ai,hs,decide_false,bp,if_false,aN];refine FL _ _ ⟨a3,_,l3.put f3,f3,?_,rfl⟩;rw [aC,jv,cO,List.flatMap_nil];have:xA s ps t=[t]:=by unfold xA; rw [if_neg fun z=>hs z.symm]
      rw [this,dc,bW]
    ·rintro τ G3 ⟨a3,c3,l3,f3,g3,rfl⟩;exact hN _ _ ⟨a3,c3,l3,f3,g3,rfl⟩
   rintro _ G3 ⟨a3,c3,l3,f3,g3,rfl⟩;simp only [eG,qU,aj,ae,aa,iY,l3 _ _ g1,ah,c7,aH,e9,true_and,lH];have hz:=Eb (s:=s) (ps:=ps) r;have Wg:r.length * (ps.length+1)<=100 * 5:=Nat.mul_le_mul (by lia) (by lia);refine kz (xs:=gU s ps pre.length r) l3 f3 g3 ?_;simp only [g1];have hrp:rows.take (pre.length+1)=rows.take pre.length++[r]:=by
    rw [List.take_succ,er]; rfl
   refine⟨zh (by rw [ax,qG,cS]; lia),O3 _ _ ⟨l1.put hp,?_,_,_,_,rfl⟩⟩;rw [aC,aL,gB,hrp,Od,cS,qz (by lia)];rw [aJ (l₁:=ku s ps (rows.take pre.length) 0)]; rfl
  ·rintro τ G' ⟨l,g,a,b,c,rfl⟩;refine hN _ _ ⟨l,?_,a,b,c,rfl⟩;have:rows.take (fj 0 (rows.length:Int).toNat).length=rows:=by unfold fj; simp
   rw [this] at g;exact g
 ·rintro _ G' ⟨l,g,a,b,c,rfl⟩;simp only [bw,c7,aj,ae,aa];exact kz l hp g q
end MX
end K2
end
section
namespace K2
open PySem (Str)
open Enc (enc)
namespace MX
open K2.P
open K2.Mo
open K2.rE (cy jP ql lX)
open K2.o4 (HR iW)
open K2.ui (mR Ro)
open K2.Af (bR gi)
theorem AI(r:List T3):(cy r).length=r.length:=(NX r).perm.length_eq
noncomputable def wz:g7 :=
 (bE (bH (fh aH) (aI 1))
 (bE (eZ (ky (aj 0)) (aI 2) (bE (bH (dC (.int 0)) (aI 3))
 (bE (cA (c8 (aj 2)) (bH (qU vL sI (aj 2) (ah (ju MP (ah (aj 2) aH)) aH)) (aI 3)) bz)
 (eG (qU vL ig (aj 1) (ah (c7 (aM kJ (zC (aj 2) (mV (aj 3)) eV) (zC (aj 2) eV (mV (aj 3))))) aH))))))
 (bw (c7 (aj 1)))))
noncomputable def eS:jx:=fun ds G Q _=>∃ rows:Rows,ds=[enc rows]/\(rows.length<=500/\∀ r∈rows,r.length<=500)/\Q (enc (rows.map cy)) G
theorem xn(ds:List D)(G:Gp)(Q:DK)(h:eS ds G Q fun _ _=>False):wz (fun _ _=>False) (ends Q) (aX 4 ds) G:=by
 obtain⟨rows,rfl,⟨hl,hr⟩,q⟩:=h;unfold wz;simp only [ends,aX,aq,aO,ag,au,a0,aB,aG,fI,bH,fh,aH,aI,ao,ak];refine⟨by decide,fun p hp=>?_⟩;refine bL (fun τ G'=>fy G G'/\G' p=some (.lst ((rows.map cy).map enc))/\∃ a b,τ=[some (enc rows),some (.ref p),a,b]) ?_ ?_
 ·intro N hN;simp only [eZ,dw,aj,aa];refine iF ?_;refine gJ (xs:=rows) (fun pre τ G'=>fy G G'/\G' p=some (.lst ((pre.map cy).map enc))/\∃ a b,τ=[some (enc rows),some (.ref p),a,b]) ⟨.new hp,aC,_,_,rfl⟩ (fun _ _ _ _=>trivial) ?_ ?_
  ·rintro pre r post τ G1 N1 e ⟨l1,g1,a,b,rfl⟩ O3;have TJ:=hr r (by rw [e]; simp);have u0:pre.length < rows.length:=by have:=congrArg dE e; simp at this; lia
   simp only [aI,ao,ak,fI,bH,dC];refine bL (fun τ G'=>G1=G'/\τ=[some (enc rows),some (.ref p),some (enc r),some (.int ((r.idxOf (jP r):Nat):Int))]) ?_ ?_
   ·intro N hN;simp only [cA,bH,qU,aj,ae,aa,ah,ju,aH,aI,ao,ak,bz,bI];refine AD (IsL.enc r) ?_;cases r with
    | nil =>
     simp only [aO,uV,aK,ai,if_false];exact hN _ _ ⟨rfl,rfl⟩
    | cons x r =>
     simp only [aq,tR,bp,if_true];refine⟨trivial,ql rfl (by simp) (lX trivial rfl (by simp) ?_)⟩;exact hN _ _ ⟨rfl,rfl⟩
   rintro _ _ ⟨rfl,rfl⟩;simp only [eG,qU,aj,ae,aa,iY,g1,ah,c7,aM,zC,eV,aH,e9,jc,gW,true_and];have Xz:r.idxOf (jP r)<=r.length:=o8;refine ui.SR (IsL.enc r) Xz (by lia) ?_;simp only [g1];refine⟨zh (by simp only [ax]; lia),O3 _ _ ⟨l1.put hp,?_,_,_,rfl⟩⟩;rw [aC,aJ,aJ]; rfl
  ·rintro τ G' ⟨l,g,a,b,rfl⟩;exact hN _ _ ⟨l,g,a,b,rfl⟩
 ·rintro _ G' ⟨l,g,a,b,rfl⟩;simp only [bw,c7,aj,ae,aa];exact kz l hp g q
noncomputable def wu:g7 :=
 (bE (bH (fh aH) (aI 1))
 (bE (eZ (ky (aj 0)) (aI 2) (eG (qU vL ig (aj 1) (ah (c7 (hU 1 [] (TF (aj 2)) (aI 0) none (dW (ah (aM eY (aj 0) (dC (.int 0))) (ah (aM eY (aj 0) (dC (.int 1))) (ah (CM Cm (aM eY (aj 0) (dC (.int 2)))) aH)))))) aH))))
 (bw (c7 (aj 1)))))
noncomputable def Ca(rows:Rows):Rows:=rows.map fun r=>r.reverse.map fun t=>⟨t.a,t.b,-t.c⟩
noncomputable def jK:jx:=fun ds G Q _=>∃ rows:Rows,ds=[enc rows]/\(rows.length<=500/\∀ r∈rows,r.length<=500)/\Q (enc (Ca rows)) G
theorem xk(ds:List D)(G:Gp)(Q:DK)(h:jK ds G Q fun _ _=>False):wu (fun _ _=>False) (ends Q) (aX 3 ds) G:=by
 obtain⟨rows,rfl,⟨hl,hr⟩,q⟩:=h;unfold wu;simp only [ends,aX,aq,aO,ag,au,a0,aB,aG,fI,bH,fh,aH,aI,ao,ak];refine⟨by decide,fun p hp=>?_⟩;refine bL (fun τ G'=>fy G G'/\G' p=some (.lst ((Ca rows).map enc))/\∃ a,τ=[some (enc rows),some (.ref p),a]) ?_ ?_
 ·intro N hN;simp only [eZ,dw,aj,aa];refine iF ?_;refine gJ (xs:=rows) (fun pre τ G'=>fy G G'/\G' p=some (.lst ((Ca pre).map enc))/\∃ a,τ=[some (enc rows),some (.ref p),a]) ⟨.new hp,aC,_,rfl⟩ (fun _ _ _ _=>trivial) ?_ ?_
  ·rintro pre r post τ G1 N1 e ⟨l1,g1,a,rfl⟩ O3;have TJ:=hr r (by rw [e]; simp);have u0:pre.length < rows.length:=by have:=congrArg dE e; simp at this; lia
   simp only [aI,eG,qU,aj,ao,ak,ae,aa,iY,g1,ah,c7,hU,TF,aH,e9,true_and];rw [show (enc r:D)=.fJ (r.map enc) from rfl];refine⟨FJ (by simp only [qt,ax]; lia),?_⟩;rw [<-List.map_reverse];refine lx (xs:=r.reverse) (fun pr acc τ G2=>G1=G2/\acc=(pr.map fun t:T3=>(⟨t.a,t.b,-t.c⟩:T3)).map enc/\∃ b,τ=[b]) ⟨rfl,rfl,_,rfl⟩ (fun _ _ _ _ _=>trivial) ?_ ?_
   ·rintro pr t po acc τ G2 N3 e3 ⟨rfl,rfl,b,rfl⟩ FL;simp only [aI,dW,ah,aM,aj,pD,ak,aa,dC,CM,aH,ag,au,cM,at2,i9,DL,JS];exact⟨by decide,FL _ _ _ ⟨rfl,by rw [aJ,aJ]; rfl,_,rfl⟩⟩
   ·rintro acc τ G2 ⟨rfl,rfl,b,rfl⟩ p2 pP;refine kz (xs:=r.reverse.map fun t:T3=>(⟨t.a,t.b,-t.c⟩:T3)) (.new pP) pP aC ?_;simp only [g1];refine⟨zh (by unfold Ca; simp only [ax]; lia),O3 _ _ ⟨l1.put hp,?_,_,rfl⟩⟩;rw [aC];unfold Ca;rw [aJ,aJ]; rfl
  ·rintro τ G' ⟨l,g,a,rfl⟩;exact hN _ _ ⟨l,g,a,rfl⟩
 ·rintro _ G' ⟨l,g,a,rfl⟩;simp only [bw,c7,aj,ae,aa];exact kz l hp g q
noncomputable def dQ:g7 :=
 (bE (cA (uw (fH (c8 (ux "tuple" (aj 0)))) (c8 (aM (nu true) (ju i7 (ah (aj 0) aH)) (ju i7 (ah (aj 1) aH))))) (bw (c7 (dC (.bl false)))) bz)
 (bE (eZ (ky (aj 0)) (aI 2) (cA (fH (c8 (a8 fQ (ah (aj 2) aH)))) (bw (c7 (dC (.bl false)))) bz))
 (bw (c7 (aM (nu false) (aj 0) (aj 1))))))
noncomputable def bX:jx:=Mo.bX
theorem dR(ds:List D)(G:Gp)(Q:DK)(h:bX ds G Q fun _ _=>False):dQ (fun _ _=>False) (ends Q) (aX 3 ds) G:=Mo.dR ds G Q h
noncomputable def eU:g7 :=
 (bE (cA (uw (fH (c8 (ux "tuple" (aj 0)))) (c8 (aM (nu true) (ju i7 (ah (aj 0) aH)) (ju i7 (ah (aj 1) aH))))) (bw (c7 (dC (.bl false)))) bz)
 (bE (cA (uw (fH (c8 (ux "str" (aM eY (aj 0) (dC (.int 0)))))) (c8 (aM (nu true) (aM eY (aj 0) (dC (.int 0))) (aM eY (aj 1) (dC (.int 0)))))) (bw (c7 (dC (.bl false)))) bz)
 (bE (eZ (KQ (dC (.int 1)) (ju i7 (ah (aj 1) aH))) (aI 2) (cA (c8 (ux "tuple" (aM eY (aj 1) (aj 2)))) (cA (fH (c8 (a8 bX (ah (aM eY (aj 0) (aj 2)) (ah (aM eY (aj 1) (aj 2)) aH))))) (bw (c7 (dC (.bl false)))) bz) (cA (uw (fH (c8 (a8 fQ (ah (aM eY (aj 0) (aj 2)) aH)))) (c8 (aM (nu true) (aM eY (aj 0) (aj 2)) (aM eY (aj 1) (aj 2))))) (bw (c7 (dC (.bl false)))) bz)))
 (bw (c7 (dC (.bl true)))))))
noncomputable def bZ:jx:=Mo.bZ
theorem eW(ds:List D)(G:Gp)(Q:DK)(h:bZ ds G Q fun _ _=>False):eU (fun _ _=>False) (ends Q) (aX 3 ds) G:=Mo.eW ds G Q h
noncomputable def yJ:g7 :=
 (bE (cA (uw (fH (c8 (ux "list" (aj 0)))) (c8 (aM (nu true) (ju i7 (ah (aj 0) aH)) (ju i7 (ah (aj 1) aH))))) (bw (c7 (dC (.bl false)))) bz)
 (bE (eZ (rk (ju i7 (ah (aj 1) aH))) (aI 2) (bE (cA (uw (fH (c8 (ux "list" (aM eY (aj 0) (aj 2))))) (c8 (aM (nu true) (ju i7 (ah (aM eY (aj 0) (aj 2)) aH)) (ju i7 (ah (aM eY (aj 1) (aj 2)) aH))))) (bw (c7 (dC (.bl false)))) bz)
 (eZ (rk (ju i7 (ah (aM eY (aj 1) (aj 2)) aH))) (aI 3) (cA (fH (c8 (a8 bX (ah (aM eY (aM eY (aj 0) (aj 2)) (aj 3)) (ah (aM eY (aM eY (aj 1) (aj 2)) (aj 3)) aH))))) (bw (c7 (dC (.bl false)))) bz))))
 (bw (c7 (dC (.bl true))))))
noncomputable def ib:jx:=fun ds G Q _=>∃ (p:Nat) (as:List Nat) (rows:Rows) (G0:Gp),ds=[.ref p,enc rows]/\HR G0 G p as rows/\(rows.length<=500/\∀ r∈rows,r.length<=500)/\Q (.bl true) G
theorem za(ds:List D)(G:Gp)(Q:DK)(h:ib ds G Q fun _ _=>False):yJ (fun _ _=>False) (ends Q) (aX 4 ds) G:=by
 obtain⟨p,as,rows,G0,rfl,hr,⟨hl,TJ⟩,q⟩:=h;unfold yJ;simp only [ends,aX,aq,aO,ag,au,a0,aB,aG,fK,cA,uw,fH,bw,c7,dC,bz,if_true,bI,aM,ju,ah,aj,aa,aH,ae,lu];refine KP (.ref hr.gp) ?_;simp only [beq_self_eq_true,aN,aK,ai,if_false];refine gZ (.ref hr.gp) (gZ (IsL.enc rows) ?_);simp only [ax];refine eD (α:=Int) (by decide) ?_;rw [hr.len];simp only [decide_true,aK,if_true,eZ,ik,ju,ah,aj,ae,aa,aH,aN,ai,if_false];refine gZ (IsL.enc rows) ?_;simp only [ax,gj];refine⟨by lia,by lia,?_⟩;refine pz (fun pre τ G'=>G=G'/\∃ a b,τ=[some (.ref p),some (enc rows),a,b]) ⟨rfl,_,_,rfl⟩ (fun _ _ _ _=>trivial) ?_ ?_
 ·rintro pre x post τ G' N e ⟨rfl,a,b,rfl⟩ hN;obtain⟨rfl,hk⟩:=qF e;have hk:pre.length < rows.length:=by simpa using hk
  obtain⟨r,er⟩:∃ r,rows[pre.length]?=some r:=⟨rows[pre.length],aP hk⟩;obtain⟨c,ec⟩:∃ c,as[pre.length]?=some c:=⟨as[pre.length]'(by rw [hr.len]; exact hk),aP _⟩;have gc:=hr.at' _ _ _ ec er;have hlr:=TJ r (eX er);have a1:pQ (rows.map enc) ((pre.length:Nat):Int)=some (enc r):=by
   rw [gm _ (by lia) (by rw [ax]; lia)];simp only [jk,dI];rw [aP hk] at er;injection er with er
   rw [er]
  have a2:pQ (as.map D.ref) ((pre.length:Nat):Int)=some (.ref c):=by
   have ZW:pre.length < as.length:=by rw [hr.len]; exact hk
   rw [gm _ (by lia) (by rw [ax]; lia)];simp only [jk,dI];rw [aP ZW] at ec;injection ec with ec
   rw [ec]
  simp only [aI,ao,ak,fK,cA,uw,fH,bw,c7,dC,bz,if_true,bI,aM,ju,ah,aj,aa,ae,aH,lu];refine hV (.ref hr.gp) a2 (KP (.ref gc) ?_);simp only [beq_self_eq_true,aN,aK,ai,if_false];refine hV (.ref hr.gp) a2 (gZ (.ref gc) ?_);refine hV (IsL.enc rows) a1 (gZ (IsL.enc r) ?_);simp only [ax];refine eD (α:=Int) (by decide) ?_;simp only [decide_true,aK,if_true,eZ,ik,ju,ah,aM,aj,ae,aa,aH,aN,ai,if_false];refine hV (IsL.enc rows) a1 (gZ (IsL.enc r) ?_);simp only [ax,gj];refine⟨by lia,by lia,?_⟩;refine pz (fun pr τ G'=>G=G'/\∃ b,τ=[some (.ref p),some (enc rows),some (.int (pre.length:Nat)),b]) ⟨rfl,_,rfl⟩ (fun _ _ _ _=>trivial) ?_ ?_
  ·rintro pr y po τ G' N2 e2 ⟨rfl,b,rfl⟩ Bm;obtain⟨rfl,hj⟩:=qF e2;have hj:pr.length < r.length:=by simpa using hj
   have a3:pQ (r.map enc) ((pr.length:Nat):Int)=some (enc r[pr.length]):=by
    rw [gm _ (by lia) (by rw [ax]; lia)];simp only [jk,dI]
   simp only [aI,cA,fH,ao,ak,bw,c7,dC,bz,bI,a8,ah,aM,aj,aa,ae,aH];refine hV (.ref hr.gp) a2 (hV (.ref gc) a3 ?_);refine hV (IsL.enc rows) a1 (hV (IsL.enc r) a3 ?_);refine⟨[r[pr.length].a,r[pr.length].b,r[pr.length].c],rfl,?_⟩;simp only [aN,aK,ai,if_false];exact Bm _ _ ⟨rfl,_,rfl⟩
  ·rintro τ G' ⟨rfl,b,rfl⟩;exact hN _ _ ⟨rfl,_,_,rfl⟩
 ·rintro τ G' ⟨rfl,a,b,rfl⟩;simp only [bw,c7,dC];exact fD q
end MX
end K2
end
section
namespace K2
open PySem (Str)
open Enc (enc)
namespace U1
open K2.P
section
variable {α β:Type} [DecidableEq α] [DecidableEq β]
structure Tr(V:List α)(R:α->α->Prop)(A:List α):Prop where
 pw:A.Pairwise fun a b=>¬ R a b
 cov:∀ v∈V,∃ a∈A,R v a
 in':∀ a∈A,a∈V
structure Eqv(R:α->α->Prop):Prop where
 rf:∀ x,R x x
 sy:∀ {x y},R x y->R y x
 tr:∀ {x y z},R x y->R y z->R x z
variable {V:List α} {R:α->α->Prop}
noncomputable def it(f:α->α):Nat->α->α
 | 0,a=>a
 | n+1,a=>f (it f n a)
structure Pm(V:List α)(f:α->α):Prop where
 cl:∀ a∈V,f a∈V
 inj:∀ a∈V,∀ b∈V,f a=f b->a=b
variable {f:α->α}
theorem OC:∀ (xs ys:List α),xs.Nodup->(∀ x∈xs,x∈ys)->xs.length<=ys.length
 | [],_,_,_=>cX _
 | x :: xs,ys,hn,h=>by
  rw [ff] at hn;have:=OC xs (ys.erase x) hn.2 fun y hy=>(Qj (show y≠x from fun z=>hn.1 (by rw [<-z]; exact hy))).mpr (h y (aU _ hy));have hx:=h x (by simp);rw [Lv hx] at this;have:=Nq hx;rw [ag]; lia
noncomputable def gr(V:List α)(f:α->α):List (α×α):=V.map fun a=>(a,f a)
end
end U1
end K2
end
section
namespace K2
open PySem (Str)
open Enc (enc)
namespace U1
open K2.P
variable {rows:Rows}
noncomputable def flp(z:T3):T3:=⟨z.a,z.b,1 - z.c⟩
noncomputable def swp(off:List T2)(z:T3):T3:=if z.s∈off then flp z else z
noncomputable def phi(rows:Rows)(off:List T2)(a:T3):T3:=swp off (step rows a)
noncomputable def aaz(rows:Rows):List T2:=rows.flatten.map T3.s
noncomputable def aan(rows:Rows):List T2:=(RI rows).filter fun s=>decide (s.b=2)
noncomputable def pr(s:T2):T3×T3:=(Wa s,Vy s)
noncomputable def base(rows:Rows):List (T3×T3):=gr (Vq rows) (phi rows (aaz rows))++(aan rows).map pr
end U1
end K2
end
section
namespace K2
open PySem (Str)
open Enc (enc)
namespace K13
open K2.P K2.o4
variable {rows:Rows}
theorem EE{c:zE}{a b:g7}{E:mW}{K:lM}{τ:iP}{G:Gp}:cA c a b E K τ G=c E τ G fun k G1=>if k=true then a E K τ G1 else b E K τ G1:=rfl
end K13
end K2
end
section
namespace K2
open PySem (Str)
open Enc (enc)
namespace K13
open K2.P K2.o4
variable {rows:Rows}
structure HI(n:Nat)(ps:List (Int×Int))(Mu:List Int):Prop where
 len:Mu.length=n
 Vx:∀ x∈Mu,0<=x/\x < (n:Int)
 eq:∀ i j:Nat,i < n->j < n->(Mu.getD i 0=Mu.getD j 0↔Cn ps (i:Int) (j:Int))
noncomputable def cls(Mu:List Int)(f:Int):List Int:=((Mu.zipIdx 0).filter fun p=>decide (p.1=f)).map fun p=>(p.2:Int)
end K13
end K2
end
section
namespace K2
open PySem (Str)
open Enc (enc)
namespace U1
open K2.P
variable {rows:Rows}
theorem twice(d:Dr rows):rows.flatten.length=2 * (names rows).length:=by
 have e0:(names rows).length=(rows.flatten.filter fun p=>p.b == 0).length:=by unfold names; rw [Qz,ax]
 have nd:rows.flatten.Nodup:=by
  have:=d.nd;unfold List.Nodup at this;rw [tQ] at this;exact this.imp fun {u v} q z=>q (by rw [z])
 have h1:rows.flatten.length=(rows.flatten.filter fun p=>p.b == 0).length+(rows.flatten.filter fun p=>!(p.b == 0)).length:=by
  rw [<-FT,<-FT];rw [List.length_eq_countP_add_countP (fun p:T3=>p.b == 0) (l:=rows.flatten)];congr 1;refine List.countP_congr fun x _=>?_;simp
 have RS:∀ {L:List T3},L.Nodup->(L.map om).Nodup:=by
  intro L h;unfold List.Nodup;rw [tQ];exact h.imp fun {u v} q z=>q (by rw [<-RR u,z,RR])
 have a1:=OC ((rows.flatten.filter fun p=>p.b == 0).map om) (rows.flatten.filter fun p=>!(p.b == 0)) (RS (nd.filter _)) fun x hx=>by
  obtain⟨p,hp,rfl⟩:=List.mem_map.mp hx;obtain⟨h1,h2⟩:=List.mem_filter.mp hp;have h2:p.b=0:=by simpa using h2
  refine List.mem_filter.mpr ⟨Oz d h1,?_⟩;show (!(1 - p.b == 0))=true;rw [h2]; rfl
 have a2:=OC ((rows.flatten.filter fun p=>!(p.b == 0)).map om) (rows.flatten.filter fun p=>p.b == 0) (RS (nd.filter _)) fun x hx=>by
  obtain⟨p,hp,rfl⟩:=List.mem_map.mp hx;obtain⟨h1,h2⟩:=List.mem_filter.mp hp;have h2:p.b≠0:=by simpa using h2
  have h3:=(d.way p h1).resolve_left h2;refine List.mem_filter.mpr ⟨Oz d h1,?_⟩;show (1 - p.b == 0)=true;rw [h3]; rfl
 rw [ax] at a1 a2;lia
end U1
end K2
end
section
namespace K2
open PySem (Str)
open Enc (enc)
namespace Mo
open K2.P
open K2.rE (cy)
open K2.o4 (HR)
open K2.ui (mR Ro)
open K2.Af (bR gi)
structure CuF(rows:Rows)(n:Int)(s:T2):Prop where
 d:Dr rows
 zw:rows.flatten.length<=22
 hs:s∈bq rows 0
 fr:∀ p∈rows.flatten,p.a≠n
theorem yR{rows:Rows}{s:T2}{ps:List T3}(d:rL rows)(h:s∈bq rows 0):∀ r∈ku s ps rows 0,r.length<=rows.flatten.length+ps.length:=fun r hr=>by
 have h1:=o4.nU hr;rw [(pY (ps:=ps) d (M8 h)).length_eq,aL] at h1;lia
end Mo
end K2
end
section
namespace K2
open PySem (Str)
open Enc (enc)
namespace Mo
open K2.P
open K2.rE (cy)
open K2.o4 (HR)
open K2.ui (mR Ro)
open K2.Af (bR gi e8)
noncomputable def rg:g7 :=
 (bw (c7 (fh (ah (dW (ah (di ["Lay"] "name" (aj 0)) (ah (aj 1) (ah (di ["Lay"] "hand" (aj 0)) aH)))) (ah (dW (ah (di ["Lay"] "second" (aj 0)) (ah (aj 1) (ah (CM Cm (di ["Lay"] "hand" (aj 0))) aH)))) aH)))))
noncomputable def eT:jx:=fun ds G Q _=>∃ (p:Nat) (a b:Int) (o u:T2) (t h w:Int),ds=[.ref p,.int w]/\Iu G p (.la a b o u t h)/\∀ q,G q=none->Q (.ref q) (cW G q (.lst ((oj a b w h).map enc)))
theorem zG(ds:List D)(G:Gp)(Q:DK)(h:eT ds G Q fun _ _=>False):rg (fun _ _=>False) (ends Q) (aX 2 ds) G:=by
 obtain⟨p,a,b,o,u,t,h,w,rfl,g,q⟩:=h;unfold rg;simp only [bw,c7,fh,ah,dW,di,aj,aX,↓aq,↓aO,↓ag,↓au,↓aB,↓aG,↓aa,↓ae,aH,CM,ends];refine at_ g (at_ g ⟨by decide,at_ g (at_ g ?_)⟩);simp only [↓i9];exact⟨by decide,by decide,fun q' Mr=>fD (q q' Mr)⟩
theorem Qt{rows:Rows}{a b:Int}{o u:T2}{t h:Int}(c:BY rows a b o u t h):(AA rows a b o h).length<=500/\∀ r∈AA rows a b o h,r.length<=500:=by
 have:=c.d.str;have:=c.zw;refine⟨by unfold AA; rw [qG]; lia,fun r hr=>?_⟩;have:=yR (ps:=oj a b 0 h) c.d.dn c.ho r hr;rw [show (oj a b 0 h).length=2 from rfl] at this;lia
theorem QF{rows:Rows}{a b:Int}{o u:T2}{t h:Int}(c:BY rows a b o u t h):(raw rows a b o u t h).length<=500/\∀ r∈raw rows a b o u t h,r.length<=500:=by
 obtain⟨h1,h2,_⟩:=qR (Ef c);exact⟨h1,h2⟩
theorem L7{rows:Rows}(d:Dr rows)(h:rows.flatten.length<=20):(names rows).length<=10:=by
 have:=U1.twice d;lia
noncomputable def yP:g7 :=
 (bE (eG (a8 l7 (ah (aj 1) (ah (fh (ah (di ["Lay"] "name" (aj 0)) (ah (di ["Lay"] "second" (aj 0)) aH))) aH))))
 (bE (cA (c8 (aM (nu false) (di ["Lay"] "under" (aj 0)) (dW (ah (di ["Lay"] "name" (aj 0)) (ah (dC (.int 0)) aH))))) qT bz)
 (bE (bH (a8 mf (ah (aj 1) (ah (di ["Lay"] "over" (aj 0)) (ah (fN [("Lay",eT)] "passings" (aj 0) (ah (dC (.int 0)) aH)) aH)))) (aI 2))
 (bE (bH (Um (c8 (aM (nu false) (di ["Lay"] "turned" (aj 0)) (dC (.int 0)))) (fN [("Lay",eT)] "passings" (aj 0) (ah (dC (.int 1)) aH)) (Pt (fN [("Lay",eT)] "passings" (aj 0) (ah (dC (.int 1)) aH)) (mV (CM Cm (dC (.int 1)))))) (aI 3))
 (bw (c7 (a8 bR (ah (a8 mf (ah (aj 2) (ah (di ["Lay"] "under" (aj 0)) (ah (aj 3) aH)))) aH))))))))
noncomputable def iV:jx:=fun ds G Q _=>∃ (p:Nat) (a b:Int) (o u:T2) (t h:Int) (rows:Rows),ds=[.ref p,enc rows]/\Iu G p (.la a b o u t h)/\BY rows a b o u t h/\∀ q as G',HR G G' q as (laid rows a b o u t h)->Q (.ref q) G'
theorem Ig(ds:List D)(G:Gp)(Q:DK)(h:iV ds G Q fun _ _=>False):yP (fun _ _=>False) (ends Q) (aX 4 ds) G:=by
 obtain⟨p,a,b,o,u,t,h,rows,rfl,g,c,q⟩:=h;obtain⟨Mx,KY,Wq⟩:=qR c.d;unfold yP;refine bL (fun τ G'=>fy G G'/\τ=[some (.ref p),some (enc rows),none,none]) ?_ ?_
 ·intro N hN;simp only [eG,a8,ah,aj,aX,↓aq,↓aO,↓ag,↓au,a0,↓aB,↓aG,↓ae,↓aa,fh,di,aH];refine at_ g (at_ g ⟨by decide,fun pl u0=>?_⟩);refine⟨rows,_,[a,b],rfl,.ref aC,⟨Wq,by have:=L7 c.d c.zw; simp; lia,by simp [c.ne],fun m hm z=>?_⟩,fun G1 l1=>hN _ _ ⟨(fy.new u0).trans l1,rfl⟩⟩;obtain⟨x,hx,_,e⟩:=xW.mp z;simp only [dD,cR,or_false] at hm;rcases hm with rfl | rfl
  ·exact c.fa x hx e
  ·exact c.fb x hx e
 rintro _ G1 ⟨l1,rfl⟩;have g1:=l1 _ _ g;refine bL (fun τ G'=>G1=G'/\τ=[some (.ref p),some (enc rows),none,none]) ?_ ?_
 ·intro N hN;simp only [cA,↓bI,aM,di,aj,↓aa,dW,ah,dC,aH,↓ag,↓au,ends,bz];refine at_ g1 (at_ g1 ⟨by decide,?_⟩);refine eD (x:=u) (y:=(⟨a,0⟩:T2)) (by decide) ?_;rw [show decide (u=(⟨a,0⟩:T2))=false from decide_eq_false c.hn];simp only [↓aN,↓ai,↓bp,↓if_false];exact hN _ _ ⟨rfl,rfl⟩
 rintro _ _ ⟨rfl,rfl⟩;refine bL (fun τ G'=>fy G G'/\τ=[some (.ref p),some (enc rows),some (enc (AA rows a b o h)),none]) ?_ ?_
 ·intro N hN;simp only [bH,a8,ah,aj,↓ae,↓aa,di,fN,dC,aH,aI,↓ao,↓ak];refine at_ g1 ⟨p,_,_,eT,rfl,g1,List.mem_singleton.mpr rfl,rfl,⟨p,a,b,o,u,t,h,0,rfl,g1,fun q2 KU=>?_⟩⟩;exact⟨rows,o,_,oj a b 0 h,rfl,.ref aC,⟨c.d.dn,c.ho,Mx,KY,by simp [oj]⟩,hN _ _ ⟨l1.trans (.new KU),rfl⟩⟩
 clear g1 l1;rintro _ G1 ⟨l1,rfl⟩;have g1:=l1 _ _ g;refine bL (fun τ G'=>∃ q3,fy G G'/\G' q3=some (.lst ((Df a b t h).map enc))/\τ=[some (.ref p),some (enc rows),some (enc (AA rows a b o h)),some (.ref q3)]) ?_ ?_
 ·intro N hN;simp only [bH,Um,↓bI,aM,di,aj,↓aa,dC,fN,ah,aH,aI,↓ao,↓ak];refine at_ g1 ?_;refine eD (α:=Int) (x:=t) (y:=0) (by decide) ?_;by_cases ht:t=0
  ·rw [show decide (t=0)=true from decide_eq_true ht];simp only [↓aN,↓ai,↓aK,↓if_false,↓if_true];refine⟨p,_,_,eT,rfl,g1,List.mem_singleton.mpr rfl,rfl,⟨p,a,b,o,u,t,h,1,rfl,g1,fun q2 KU=>hN _ _ ⟨q2,l1.trans (.new KU),?_,rfl⟩⟩⟩;unfold Df;rw [if_pos ht]; exact aC
  ·rw [show decide (t=0)=false from decide_eq_false ht];simp only [↓aN,↓ai,↓bp,↓if_false,Pt,fN,aj,↓aa,ah,dC,aH,↓jc,CM,↓i9,↓gW];refine⟨p,_,_,eT,rfl,g1,List.mem_singleton.mpr rfl,rfl,⟨p,a,b,o,u,t,h,1,rfl,g1,fun q2 KU=>?_⟩⟩;simp only [↓c7,↓aX,↓ends,↓bI,↓aM,↓CM,↓aj,↓ju,↓qU,↓ah,↓aH,↓bw,↓Lf,↓eG,↓bH,↓aI,↓dC,↓bz,↓dW,↓fh,↓JP,↓lu,↓JQ,↓uw,↓fH,↓mG,↓w6,↓tj,↓zC,↓jc,↓eV,↓dw,↓ik,↓a8,↓hU,↓ic,↓wH,↓mj,↓pX,↓pV,↓nR,↓fZ,↓jN,↓i9,↓wF,↓zT,↓wG,↓zW,↓cM,↓pW,↓tU,↓zS,↓wD,↓tx,↓lz,↓ug,↓e9,↓mr,↓mq,↓km,↓iY,↓zQ,↓zP,↓zO,↓true_and,↓and_true,↓Aa,↓wR,↓gW,↓aN,↓gj,↓qg,↓z9,↓my,↓aq,↓aO,↓aB,↓aG,↓aa,↓ae,↓ak,↓ao,↓ag,↓au,↓a0,↓if_true,↓if_false,↓aK,↓bp,↓ai,↓fI,↓mi];refine⟨rfl,_,_,mw (.ref aC),fun q3 hq3=>hN _ _ ⟨q3,(l1.trans (.new KU)).trans (.new hq3),?_,rfl⟩⟩;unfold Df;rw [if_neg ht]; exact aC
 clear g1 l1;rintro _ G1 ⟨q3,l1,gq,rfl⟩;simp only [bw,c7,a8,ah,aj,↓ae,↓aa,di,aH,ends];refine at_ (l1 _ _ g) ?_;obtain⟨u1,u2⟩:=Qt c;refine⟨_,u,_,Df a b t h,rfl,.ref gq,⟨xK c,c.hu,u1,u2,by rw [(sJ a b t h).length_eq]; simp [oj]⟩,?_⟩;obtain⟨r1,r2⟩:=QF c;exact⟨_,rfl,⟨eC r1 (by decide),fun r hr=>eC (r2 r hr) (by decide)⟩,fun q' as G' hr=>fD (q q' as G' (KS hr l1))⟩
noncomputable def yQ:g7 :=
 (bE (eG (fN [("Lay",iV)] "done" (aj 0) (ah (aj 1) aH)))
 (bw (c7 (kH "Part" dZ (ah (di ["Lay"] "name" (aj 0)) (ah (di ["Lay"] "second" (aj 0)) aH))))))
noncomputable def mh:jx:=fun ds G Q _=>∃ (p:Nat) (a b:Int) (o u:T2) (t h:Int) (rows:Rows),ds=[.ref p,enc rows]/\Iu G p (.la a b o u t h)/\BY rows a b o u t h/\∀ q G',fy G G'->G q=none->Iu G' q (.pa a b)->Q (.ref q) G'
theorem Ih(ds:List D)(G:Gp)(Q:DK)(h:mh ds G Q fun _ _=>False):yQ (fun _ _=>False) (ends Q) (aX 2 ds) G:=by
 obtain⟨p,a,b,o,u,t,h,rows,rfl,g,c,q⟩:=h;unfold yQ;simp only [↓mi,eG,fN,aj,aX,↓aq,↓aO,↓ag,↓au,↓aB,↓aG,↓aa,ah,↓ae,aH,bw,c7,kH,di,ends];refine⟨p,_,_,iV,rfl,g,List.mem_singleton.mpr rfl,rfl,⟨p,a,b,o,u,t,h,rows,rfl,g,c,fun q1 as G1 hr=>?_⟩⟩;refine at_ (hr.le _ _ g) (at_ (hr.le _ _ g) fun q' Mr=>⟨q',a,b,rfl,aC,rfl,fD (q q' _ ?_ ?_ ?_)⟩)
 ·rw [uo]; exact hr.le.trans (.new Mr)
 ·exact hr.le.free Mr
 ·rw [uo]; exact aC
noncomputable def V7(rows:Rows)(n:Int):Prop:=n∈names rows/\∃ p∈rows.flatten,p.a=n
noncomputable def SY(rows:Rows)(a b:Int)(xy xx xJ xI:T2):Bool:=!decide (handOf rows a=handOf rows b)&&((decide (xy=⟨b,0⟩)||decide (xx=⟨a,0⟩))&&(decide (xJ=⟨b,1⟩)||decide (xI=⟨a,1⟩)))
structure XS(rows:Rows)(a b:Int)(xy xx xJ xI:T2):Prop where
 len:rows.flatten.length < 64
 na:V7 rows a
 nb:V7 rows b
 h0:lI (jq (pairsOf rows)) ⟨a,0⟩=some xy
 h1:lI (jq (pairsOf rows)) ⟨b,0⟩=some xx
 h2:lI (jq (pairsOf rows)) ⟨a,1⟩=some xJ
 h3:lI (jq (pairsOf rows)) ⟨b,1⟩=some xI
noncomputable def wj:g7 :=
 (bE (cA (c8 (aM (nu false) (a8 kr (ah (aj 0) (ah (aj 1) aH))) (a8 kr (ah (aj 0) (ah (aj 2) aH))))) (bw (c7 (dC (.bl false)))) bz)
 (bE (bH (a8 lR (ah (aj 0) aH)) (aI 3))
 (bw (c7 (BH (a8 j5 (ah (aj 3) (ah (dW (ah (aj 1) (ah (dC (.int 0)) aH))) (ah (dW (ah (aj 2) (ah (dC (.int 0)) aH))) aH)))) (a8 j5 (ah (aj 3) (ah (dW (ah (aj 1) (ah (dC (.int 1)) aH))) (ah (dW (ah (aj 2) (ah (dC (.int 1)) aH))) aH)))))))))
noncomputable def nk:jx:=fun ds G Q _=>∃ (rows:Rows) (a b:Int) (xy xx xJ xI:T2),ds=[enc rows,.int a,.int b]/\XS rows a b xy xx xJ xI/\Q (.bl (SY rows a b xy xx xJ xI)) G
theorem Fp(ds:List D)(G:Gp)(Q:DK)(h:nk ds G Q fun _ _=>False):wj (fun _ _=>False) (ends Q) (aX 4 ds) G:=by
 obtain⟨rows,a,b,xy,xx,xJ,xI,rfl,c,q⟩:=h;have hl:=c.len;unfold wj;refine bL (fun τ G'=>G=G'/\handOf rows a≠handOf rows b/\τ=[some (enc rows),some (.int a),some (.int b),none]) ?_ ?_
 ·intro N hN;simp only [cA,↓bI,aM,a8,ah,aj,aX,↓aq,↓aO,↓ag,↓au,a0,↓aB,↓aG,↓aa,↓ae,aH,bw,c7,dC,ends,bz];refine⟨rows,a,rfl,⟨by lia,c.na.2⟩,rows,b,rfl,⟨by lia,c.nb.2⟩,?_⟩;refine eD (α:=Int) (by decide) ?_;by_cases h:handOf rows a=handOf rows b
  ·rw [show decide (handOf rows a=handOf rows b)=true from decide_eq_true h];simp only [↓aN,↓ai,↓aK,↓if_false,↓if_true];unfold SY at q;rw [decide_eq_true h] at q;exact fD q
  ·rw [show decide (handOf rows a=handOf rows b)=false from decide_eq_false h];simp only [↓aN,↓ai,↓bp,↓if_false];exact hN _ _ ⟨rfl,h,rfl⟩
 rintro _ _ ⟨rfl,mz,rfl⟩;unfold SY at q;rw [decide_eq_false mz,bp,pO] at q;simp only [↓fI,bH,a8,ah,aj,↓aa,aH,aI,bw,c7,↓mG,↓ao,↓ak,↓ae,dW,dC,↓ag,↓au,ends];refine⟨rows,rfl,by lia,⟨by decide,by decide,_,⟨a,0⟩,⟨b,0⟩,xy,xx,rfl,⟨c.h0,c.h1⟩,?_⟩⟩;cases hb:(decide (xy=(⟨b,0⟩:T2))||decide (xx=(⟨a,0⟩:T2))) with
 | false =>
  rw [hb] at q;simp only [↓aN,↓ai,↓if_false];exact fD q
 | true =>
  rw [hb,pO] at q;simp only [↓aN,↓if_true];exact⟨by decide,by decide,_,⟨a,1⟩,⟨b,1⟩,xJ,xI,rfl,⟨c.h2,c.h3⟩,fD q⟩
end Mo
end K2
end
section
namespace K2
open PySem (Str)
open Enc (enc)
namespace Mo
open K2.P
open K2.rE (cy)
open K2.o4 (HR)
open K2.ui (mR Ro)
open K2.Af (bR gi e8)
noncomputable def sk:g7 :=
 (bE (eG (a8 jm (ah (aj 1) (ah (fh (ah (di ["Part"] "name" (aj 0)) (ah (di ["Part"] "second" (aj 0)) aH))) aH))))
 (eG (a8 ki (ah (a8 nk (ah (aj 1) (ah (di ["Part"] "name" (aj 0)) (ah (di ["Part"] "second" (aj 0)) aH)))) aH))))
noncomputable def fY:jx:=fun ds G Q _=>∃ (p:Nat) (a b:Int) (rows:Rows) (xy xx xJ xI:T2),ds=[.ref p,enc rows]/\Iu G p (.pa a b)/\(XS rows a b xy xx xJ xI/\SY rows a b xy xx xJ xI=true)/\∀ G',fy G G'->Q .eK G'
theorem BW(ds:List D)(G:Gp)(Q:DK)(h:fY ds G Q fun _ _=>False):sk (fun _ _=>False) (ends Q) (aX 2 ds) G:=by
 obtain⟨p,a,b,rows,xy,xx,xJ,xI,rfl,g,⟨c,hp⟩,q⟩:=h;unfold sk;simp only [↓mi,eG,a8,ah,aj,aX,↓aq,↓aO,↓ag,↓au,↓aB,↓aG,↓ae,↓aa,fh,di,aH,ends];refine at_ g (at_ g ⟨by decide,fun pl u0=>?_⟩);refine⟨rows,_,[a,b],rfl,.ref aC,⟨c.len,fun m hm=>?_⟩,fun G1 l1=>?_⟩
 ·simp only [dD,cR,or_false] at hm;rcases hm with rfl | rfl
  ·exact c.na.1
  ·exact c.nb.1
 have L:=(fy.new u0).trans l1;refine at_ (L _ _ g) (at_ (L _ _ g) ?_);exact⟨rows,a,b,xy,xx,xJ,xI,rfl,c,_,rfl,hp,q _ L⟩
noncomputable def wB:g7 :=
 (bE (eG (fN [("Part",fY)] "refuse" (aj 0) (ah (aj 1) aH)))
 (bw (c7 (a8 nj (ah (aj 1) (ah (fh (ah (di ["Part"] "name" (aj 0)) (ah (di ["Part"] "second" (aj 0)) aH))) aH))))))
noncomputable def kX:jx:=fun ds G Q _=>∃ (p:Nat) (a b:Int) (rows:Rows) (xy xx xJ xI:T2),ds=[.ref p,enc rows]/\Iu G p (.pa a b)/\(XS rows a b xy xx xJ xI/\SY rows a b xy xx xJ xI=true/\rows.length<=500)/\∀ q as G',HR G G' q as ((rB [a,b] rows).map cy)->Q (.ref q) G'
theorem Fv(ds:List D)(G:Gp)(Q:DK)(h:kX ds G Q fun _ _=>False):wB (fun _ _=>False) (ends Q) (aX 2 ds) G:=by
 obtain⟨p,a,b,rows,xy,xx,xJ,xI,rfl,g,⟨c,hp,hl⟩,q⟩:=h;have hlen:=c.len;unfold wB;simp only [↓mi,eG,fN,aj,aX,↓aq,↓aO,↓ag,↓au,↓aB,↓aG,↓aa,ah,↓ae,aH,bw,c7,a8,fh,di,ends];refine⟨p,_,_,fY,rfl,g,List.mem_singleton.mpr rfl,rfl,⟨p,a,b,rows,xy,xx,xJ,xI,rfl,g,⟨c,hp⟩,fun G1 l1=>?_⟩⟩;refine at_ (l1 _ _ g) (at_ (l1 _ _ g) ⟨by decide,fun pl u0=>?_⟩);exact⟨rows,_,[a,b],rfl,.ref aC,⟨hl,fun r hr=>by have:=o4.nU hr; lia⟩,fun p' as G' hr=>fD (q p' as G' (KS hr (l1.trans (.new u0))))⟩
noncomputable def pS:g7 :=
 (bE (cA (c8 (aM (nu false) (aM eY (a8 lR (ah (aj 0) aH)) (dW (ah (aj 1) (ah (aj 3) aH)))) (dW (ah (aj 2) (ah (aj 3) aH))))) (bw (c7 (aj 1))) bz)
 (bw (c7 (aj 2))))
noncomputable def iI:jx:=fun ds G Q _=>∃ (rows:Rows) (a b w:Int) (v:T2),ds=[enc rows,.int a,.int b,.int w]/\(rows.flatten.length<=500/\lI (jq (pairsOf rows)) ⟨a,w⟩=some v)/\Q (.int (if v=⟨b,w⟩ then a else b)) G
theorem yp(ds:List D)(G:Gp)(Q:DK)(h:iI ds G Q fun _ _=>False):pS (fun _ _=>False) (ends Q) (aX 4 ds) G:=by
 obtain⟨rows,a,b,w,v,rfl,⟨hl,hv⟩,q⟩:=h;unfold pS;refine bL (fun τ G'=>G=G'/\v≠⟨b,w⟩/\τ=[some (enc rows),some (.int a),some (.int b),some (.int w)]) ?_ ?_
 ·intro N hN;simp only [cA,↓bI,aM,a8,ah,aj,aX,↓aq,↓aO,↓ag,↓au,↓aB,↓aG,↓aa,aH,dW,↓ae,bw,c7,ends,bz];refine⟨rows,rfl,hl,⟨by decide,?_⟩⟩;refine Ob (k:=(⟨a,w⟩:T2)) hv ?_;refine⟨by decide,eD (x:=v) (y:=(⟨b,w⟩:T2)) (by decide) ?_⟩;by_cases h:v=⟨b,w⟩
  ·rw [show decide (v=(⟨b,w⟩:T2))=true from decide_eq_true h];simp only [↓aN,↓ai,↓aK,↓if_false,↓if_true];rw [if_pos h] at q;exact fD q
  ·rw [show decide (v=(⟨b,w⟩:T2))=false from decide_eq_false h];simp only [↓aN,↓ai,↓bp,↓if_false];exact hN _ _ ⟨rfl,h,rfl⟩
 rintro _ _ ⟨rfl,h,rfl⟩;rw [if_neg h] at q;simp only [bw,c7,aj,↓ae,↓aa,ends];exact fD q
theorem vM{rows:Rows}{a b w ha hb:Int}(d:Dr rows)(ne:a≠b)(h:(∃ s,Pr rows s ⟨a,w,ha⟩ ⟨b,w,hb⟩)\/∃ s,Pr rows s ⟨b,w,hb⟩ ⟨a,w,ha⟩):∃ v,lI (jq (pairsOf rows)) ⟨a,w⟩=some v/\((v=⟨b,w⟩/\∃ s,Pr rows s ⟨a,w,ha⟩ ⟨b,w,hb⟩)\/(v≠⟨b,w⟩/\∃ s,Pr rows s ⟨b,w,hb⟩ ⟨a,w,ha⟩)):=by
 have one:∀ {s:T2} {y z:T3},Pr rows s y z->lI (jq (pairsOf rows)) y.s=some z.s:=fun c=>by
  obtain⟨R1,R2,r,M,e,ro,_⟩:=c.ex;subst e;exact qc d ro
 rcases h with ⟨s,c⟩ | ⟨s,c⟩
 ·exact⟨_,one c,.inl ⟨rfl,s,c⟩⟩
 ·obtain⟨R1,R2,r,M,e,ro,hM⟩:=c.ex;subst e;cases M with
  | nil =>
   have P4:j3 [⟨a,w,ha⟩,⟨b,w,hb⟩] r:=j3.trans (j3.app [⟨a,w,ha⟩] [⟨b,w,hb⟩]) ro;exact⟨_,qc d P4,.inl ⟨rfl,Oi P4⟩⟩
  | cons m M =>
   have P4:j3 (⟨a,w,ha⟩ :: m :: (M++[⟨b,w,hb⟩])) r:=j3.trans (j3.of (u:=⟨a,w,ha⟩ :: m :: M) (v:=[⟨b,w,hb⟩]) (by simp) (by simp)) ro;refine⟨_,qc d P4,.inr ⟨fun z=>?_,s,c⟩⟩;have:=(tX d.dn rfl ro).2.2.1 m bb;exact this (by rw [z]; exact bb)
theorem MU.mem{rows:Rows}{a b h:Int}(c:MU rows a b h):(⟨a,0,h⟩:T3)∈rows.flatten/\(⟨b,0,-h⟩:T3)∈rows.flatten/\(⟨a,1,h⟩:T3)∈rows.flatten/\(⟨b,1,-h⟩:T3)∈rows.flatten:=by
 have two:∀ {s:T2} {y z:T3},Pr rows s y z->y∈rows.flatten/\z∈rows.flatten:=fun p=>by
  obtain⟨R1,R2,r,M,e,ro,_⟩:=p.ex;subst e;have y1:=ro.perm.mem_iff.mpr (bb);have y2:=ro.perm.mem_iff.mpr (aU _ bb);exact⟨by rw [fL]; simp [y1],by rw [fL]; simp [y2]⟩
 have h1:(⟨a,0,h⟩:T3)∈rows.flatten/\(⟨b,0,-h⟩:T3)∈rows.flatten:=by
  rcases c.ov with ⟨s,p⟩ | ⟨s,p⟩
  ·exact two p
  ·exact⟨(two p).2,(two p).1⟩
 have h2:(⟨a,1,h⟩:T3)∈rows.flatten/\(⟨b,1,-h⟩:T3)∈rows.flatten:=by
  rcases c.un with ⟨s,p⟩ | ⟨s,p⟩
  ·exact two p
  ·exact⟨(two p).2,(two p).1⟩
 exact⟨h1.1,h1.2,h2.1,h2.2⟩
theorem Ow{rows:Rows}{a b h:Int}(c:MU rows a b h):∃ xy xx xJ xI,XS rows a b xy xx xJ xI/\SY rows a b xy xx xJ xI=true:=by
 obtain⟨m1,m2,m3,m4⟩:=c.mem;obtain⟨xy,e0,c0⟩:=vM c.d c.ne c.ov;obtain⟨xJ,e1,c1⟩:=vM c.d c.ne c.un;obtain⟨xx,e2,c2⟩:=vM c.d c.ne.symm c.ov.symm;obtain⟨xI,e3,c3⟩:=vM c.d c.ne.symm c.un.symm;have one:∀ {s:T2} {y z:T3},Pr rows s y z->lI (jq (pairsOf rows)) y.s=some z.s:=fun p=>by
  obtain⟨R1,R2,r,M,e,ro,_⟩:=p.ex;subst e;exact qc c.d ro
 refine⟨xy,xx,xJ,xI,⟨(qR c.d).2.2,⟨xW.mpr ⟨_,m1,rfl,rfl⟩,_,m1,rfl⟩,⟨xW.mpr ⟨_,m2,rfl,rfl⟩,_,m2,rfl⟩,e0,e2,e1,e3⟩,?_⟩;have ha:handOf rows a=h:=EJ c.d m1;have hb:handOf rows b=-h:=EJ c.d m2;unfold SY;rw [ha,hb];have mz:¬ h=-h:=by have:=c.hh; lia
 rw [decide_eq_false mz,bp,pO,aZ,mO,mO,decide_eq_true_iff,decide_eq_true_iff,decide_eq_true_iff,decide_eq_true_iff];refine⟨?_,?_⟩
 ·rcases c0 with ⟨h,_⟩ | ⟨_,s,p⟩
  ·exact .inl h
  ·have:=one p;rw [show (⟨b,0,-h⟩:T3).s=⟨b,0⟩ from rfl,e2] at this;injection this with this
   exact .inr this
 ·rcases c1 with ⟨h,_⟩ | ⟨_,s,p⟩
  ·exact .inl h
  ·have:=one p;rw [show (⟨b,1,-h⟩:T3).s=⟨b,1⟩ from rfl,e3] at this;injection this with this
   exact .inr this
end Mo
end K2
end
section
namespace K2
open PySem (Str)
open Enc (enc)
namespace Mo
open K2.P
open K2.rE (cy)
open K2.o4 (HR)
open K2.ui (mR Ro)
open K2.Af (bR gi e8)
theorem HY{rows:Rows}{a b w h:Int}(d:Dr rows)(ne:a≠b)(hp:(∃ s,Pr rows s ⟨a,w,h⟩ ⟨b,w,-h⟩)\/∃ s,Pr rows s ⟨b,w,-h⟩ ⟨a,w,h⟩):∃ v F O hF s,lI (jq (pairsOf rows)) ⟨a,w⟩=some v/\(if v=⟨b,w⟩ then a else b)=F/\((F=a/\O=b/\hF=h)\/(F=b/\O=a/\hF=-h))/\Pr rows s ⟨F,w,hF⟩ ⟨O,w,-hF⟩:=by
 obtain⟨v,e,c⟩:=vM d ne hp;rcases c with ⟨hv,s,p⟩ | ⟨hv,s,p⟩
 ·exact⟨v,a,b,h,s,e,if_pos hv,.inl ⟨rfl,rfl,rfl⟩,p⟩
 ·exact⟨v,b,a,-h,s,e,if_neg hv,.inr ⟨rfl,rfl,rfl⟩,by rw [show - -h=h by lia]; exact p⟩
noncomputable def wC:g7 :=
 (bE (eG (fN [("Part",fY)] "refuse" (aj 0) (ah (aj 1) aH)))
 (bE (bH (a8 iI (ah (aj 1) (ah (di ["Part"] "name" (aj 0)) (ah (di ["Part"] "second" (aj 0)) (ah (dC (.int 0)) aH))))) (aI 2))
 (bE (bH (Um (c8 (aM (nu false) (aj 2) (di ["Part"] "name" (aj 0)))) (di ["Part"] "second" (aj 0)) (di ["Part"] "name" (aj 0))) (aI 3))
 (bE (bH (a8 iI (ah (aj 1) (ah (di ["Part"] "name" (aj 0)) (ah (di ["Part"] "second" (aj 0)) (ah (dC (.int 1)) aH))))) (aI 4))
 (bE (bH (fh (ah (dW (ah (di ["Part"] "name" (aj 0)) (ah (dC (.int 0)) aH))) (ah (dW (ah (di ["Part"] "second" (aj 0)) (ah (dC (.int 0)) aH))) aH))) (aI 5))
 (bE (bH (fh (ah (dW (ah (di ["Part"] "name" (aj 0)) (ah (dC (.int 1)) aH))) (ah (dW (ah (di ["Part"] "second" (aj 0)) (ah (dC (.int 1)) aH))) aH))) (aI 6))
 (bE (bH (a8 j4 (ah (aj 1) (ah (dW (ah (aj 2) (ah (dC (.int 0)) aH))) (ah (aM kJ (aj 5) (aj 6)) aH)))) (aI 7))
 (bE (bH (a8 j4 (ah (aj 1) (ah (dW (ah (aj 4) (ah (dC (.int 1)) aH))) (ah (aj 6) aH)))) (aI 8))
 (bE (bH (Um (c8 (aM (nu false) (aj 4) (aj 2))) (dC (.int 0)) (dC (.int 1))) (aI 9))
 (bw (c7 (kH "Lay" fC (ah (aj 2) (ah (aj 3) (ah (aj 7) (ah (aj 8) (ah (aj 9) (ah (a8 kr (ah (aj 1) (ah (aj 2) aH))) aH))))))))))))))))))
noncomputable def kY:jx:=fun ds G Q _=>∃ (p:Nat) (a b h:Int) (rows:Rows),ds=[.ref p,enc rows]/\Iu G p (.pa a b)/\MU rows a b h/\∀ F O o u t h' q G',Lb rows a b F O o u t h'->fy G G'->G q=none->Iu G' q (.la F O o u t h')->Q (.ref q) G'
theorem Fw(ds:List D)(G:Gp)(Q:DK)(h:kY ds G Q fun _ _=>False):wC (fun _ _=>False) (ends Q) (aX 10 ds) G:=by
 obtain⟨p,a,b,h,rows,rfl,g,c,q⟩:=h;obtain⟨Mx,KY,Wq⟩:=qR c.d;obtain⟨xy,xx,xJ,xI,pn,pf⟩:=Ow c;obtain⟨v0,F,O,hF,s0,ev0,eF,nF,pF⟩:=HY c.d c.ne c.ov;obtain⟨v1,L,L',hL,s1,ev1,eL,nL,pL⟩:=HY c.d c.ne c.un;obtain⟨R1,R2,r,M,e1,UE,_⟩:=pF.ex;obtain⟨S1,S2,r2,N',e2,P4,_⟩:=pL.ex;have mz:=c.ne;have hhF:hF=1\/hF=-1:=by have:=c.hh; rcases nF with ⟨_,_,rfl⟩ | ⟨_,_,rfl⟩ <;> lia
 have nm:(F=a/\O=b)\/(F=b/\O=a):=by rcases nF with ⟨h1,h2,_⟩ | ⟨h1,h2,_⟩; exact .inl ⟨h1,h2⟩; exact .inr ⟨h1,h2⟩
 have hfl:∃ t:Int,(if L=F then (0:Int) else 1)=t/\((t=0/\(⟨L,1,hL⟩:T3)=⟨F,1,hF⟩/\(⟨L',1,-hL⟩:T3)=⟨O,1,-hF⟩)\/(t=1/\(⟨L,1,hL⟩:T3)=⟨O,1,-hF⟩/\(⟨L',1,-hL⟩:T3)=⟨F,1,hF⟩)):=by
  rcases nF with ⟨rfl,rfl,rfl⟩ | ⟨rfl,rfl,rfl⟩ <;> rcases nL with ⟨rfl,rfl,rfl⟩ | ⟨rfl,rfl,rfl⟩
  ·exact⟨0,if_pos rfl,.inl ⟨rfl,rfl,rfl⟩⟩
  ·exact⟨1,if_neg fun z=>mz z.symm,.inr ⟨rfl,rfl,by rw [show - -hF=hF by lia]⟩⟩
  ·exact⟨1,if_neg mz,.inr ⟨rfl,by rw [show - -hL=hL by lia],rfl⟩⟩
  ·exact⟨0,if_pos rfl,.inl ⟨rfl,rfl,rfl⟩⟩
 obtain⟨t,et,hLs⟩:=hfl;have hmF:∃ x∈rows.flatten,x.a=F/\x.c=hF:=by
  obtain⟨m1,m2,_,_⟩:=c.mem;rcases nF with ⟨rfl,rfl,rfl⟩ | ⟨rfl,rfl,rfl⟩
  ·exact⟨_,m1,rfl,rfl⟩
  ·exact⟨_,m2,rfl,rfl⟩
 obtain⟨xF,hxF,eaF,ecF⟩:=hmF;have hho:handOf rows F=hF:=by rw [<-eaF,EJ c.d hxF,ecF]
 unfold wC;refine bL (fun τ G'=>fy G G'/\τ=[some (.ref p),some (enc rows),none,none,none,none,none,none,none,none]) ?_ ?_
 ·intro N hN;simp only [eG,fN,aj,aX,↓aq,↓aO,↓ag,↓au,a0,↓aB,↓aG,↓aa,ah,↓ae,aH];exact⟨p,_,_,fY,rfl,g,List.mem_singleton.mpr rfl,rfl,⟨p,a,b,rows,xy,xx,xJ,xI,rfl,g,⟨pn,pf⟩,fun G1 l1=>hN _ _ ⟨l1,rfl⟩⟩⟩
 rintro _ G1 ⟨l1,rfl⟩;have g1:=l1 _ _ g;refine bL (fun τ G'=>G1=G'/\τ=[some (.ref p),some (enc rows),some (.int F),none,none,none,none,none,none,none]) ?_ ?_
 ·intro N hN;simp only [bH,a8,ah,aj,↓ae,↓aa,di,dC,aH,aI,↓ao,↓ak];refine at_ g1 (at_ g1 ⟨rows,a,b,0,v0,rfl,⟨by lia,ev0⟩,?_⟩);rw [eF];exact hN _ _ ⟨rfl,rfl⟩
 rintro _ _ ⟨rfl,rfl⟩;refine bL (fun τ G'=>G1=G'/\τ=[some (.ref p),some (enc rows),some (.int F),some (.int O),none,none,none,none,none,none]) ?_ ?_
 ·intro N hN;simp only [bH,Um,↓bI,aM,aj,↓ae,↓aa,di,aI,↓ao,↓ak];refine at_ g1 ?_;refine eD (α:=Int) (x:=F) (y:=a) (by decide) ?_;rcases nm with ⟨h1,h2⟩ | ⟨h1,h2⟩
  ·rw [show decide (F=a)=true from decide_eq_true h1];simp only [↓aN,↓ai,↓aK,↓if_false,↓if_true];refine at_ g1 (hN _ _ ⟨rfl,?_⟩);rw [h2]
  ·rw [show decide (F=a)=false from decide_eq_false (by rw [h1]; exact mz.symm)];simp only [↓aN,↓ai,↓bp,↓if_false];refine at_ g1 (hN _ _ ⟨rfl,?_⟩);rw [h2]
 rintro _ _ ⟨rfl,rfl⟩;refine bL (fun τ G'=>G1=G'/\τ=[some (.ref p),some (enc rows),some (.int F),some (.int O),some (.int L),none,none,none,none,none]) ?_ ?_
 ·intro N hN;simp only [bH,a8,ah,aj,↓ae,↓aa,di,dC,aH,aI,↓ao,↓ak];refine at_ g1 (at_ g1 ⟨rows,a,b,1,v1,rfl,⟨by lia,ev1⟩,?_⟩);rw [eL];exact hN _ _ ⟨rfl,rfl⟩
 rintro _ _ ⟨rfl,rfl⟩
 let ov:List T2:=[⟨a,0⟩,⟨b,0⟩]
 let un:List T2:=[⟨a,1⟩,⟨b,1⟩]
 refine bL (fun τ G'=>∃ p5,fy G1 G'/\G' p5=some (.lst (ov.map enc))/\τ=[some (.ref p),some (enc rows),some (.int F),some (.int O),some (.int L),some (.ref p5),none,none,none,none]) ?_ ?_
 ·intro N hN;simp only [bH,fh,ah,dW,di,aj,↓aa,dC,aH,↓ag,↓au,aI,↓ao,↓ak];exact at_ g1 ⟨by decide,at_ g1 ⟨by decide,by decide,fun p5 Na=>hN _ _ ⟨p5,.new Na,aC,rfl⟩⟩⟩
 rintro _ G2 ⟨p5,l2,g5,rfl⟩;have g2:=l2 _ _ g1;refine bL (fun τ G'=>∃ p6,fy G2 G'/\G' p6=some (.lst (un.map enc))/\τ=[some (.ref p),some (enc rows),some (.int F),some (.int O),some (.int L),some (.ref p5),some (.ref p6),none,none,none]) ?_ ?_
 ·intro N hN;simp only [bH,fh,ah,dW,di,aj,↓aa,dC,aH,↓ag,↓au,aI,↓ao,↓ak];exact at_ g2 ⟨by decide,at_ g2 ⟨by decide,by decide,fun p6 Xx=>hN _ _ ⟨p6,.new Xx,aC,rfl⟩⟩⟩
 rintro _ G3 ⟨p6,l3,g6,rfl⟩;have L3:=(l1.trans l2).trans l3;refine bL (fun τ G'=>fy G3 G'/\τ=[some (.ref p),some (enc rows),some (.int F),some (.int O),some (.int L),some (.ref p5),some (.ref p6),some (enc (JT R1.length (ov++un) (⟨F,0,hF⟩ :: ⟨O,0,-hF⟩ :: M))),none,none]) ?_ ?_
 ·intro N hN;simp only [bH,a8,ah,aj,↓ae,↓aa,dW,dC,aH,↓ag,↓au,aM,↓mj,aI,↓ao,↓ak];refine⟨by decide,?_⟩;refine Lm (.ref (l3 _ _ g5)) (.ref g6) (by simp [ov,un,SZ]) fun pg hpg=>?_;have eg:ov.map enc++un.map enc=(ov++un).map (enc (α:=T2)):=by rw [aJ]
  rw [eg];refine⟨R1,R2,r,_,⟨F,0,hF⟩,_,ov++un,by rw [e1]; rfl,.ref aC,⟨by rw [<-e1]; exact c.d.dn,UE,by rw [<-e1]; exact KY⟩,hN _ _ ⟨.new hpg,rfl⟩⟩
 rintro _ G4 ⟨l4,rfl⟩;refine bL (fun τ G'=>G4=G'/\τ=[some (.ref p),some (enc rows),some (.int F),some (.int O),some (.int L),some (.ref p5),some (.ref p6),some (enc (JT R1.length (ov++un) (⟨F,0,hF⟩ :: ⟨O,0,-hF⟩ :: M))),some (enc (JT S1.length un (⟨L,1,hL⟩ :: ⟨L',1,-hL⟩ :: N'))),none]) ?_ ?_
 ·intro N hN;simp only [bH,a8,ah,aj,↓ae,↓aa,dW,dC,aH,↓ag,↓au,aI,↓ao,↓ak];refine⟨by decide,?_⟩;exact⟨S1,S2,r2,_,⟨L,1,hL⟩,_,un,by rw [e2]; rfl,.ref (l4 _ _ g6),⟨by rw [<-e2]; exact c.d.dn,P4,by rw [<-e2]; exact KY⟩,hN _ _ ⟨rfl,rfl⟩⟩
 rintro _ _ ⟨rfl,rfl⟩;refine bL (fun τ G'=>G4=G'/\τ=[some (.ref p),some (enc rows),some (.int F),some (.int O),some (.int L),some (.ref p5),some (.ref p6),some (enc (JT R1.length (ov++un) (⟨F,0,hF⟩ :: ⟨O,0,-hF⟩ :: M))),some (enc (JT S1.length un (⟨L,1,hL⟩ :: ⟨L',1,-hL⟩ :: N'))),some (.int t)]) ?_ ?_
 ·intro N hN;simp only [bH,Um,↓bI,aM,aj,↓ae,↓aa,dC,aI,↓ao,↓ak];refine eD (α:=Int) (x:=L) (y:=F) (by decide) ?_;by_cases XE:L=F
  ·rw [show decide (L=F)=true from decide_eq_true XE];rw [if_pos XE] at et;simp only [↓aN,↓ai,↓aK,↓if_false,↓if_true];exact hN _ _ ⟨rfl,by rw [<-et]⟩
  ·rw [show decide (L=F)=false from decide_eq_false XE];rw [if_neg XE] at et;simp only [↓aN,↓ai,↓bp,↓if_false];exact hN _ _ ⟨rfl,by rw [<-et]⟩
 rintro _ _ ⟨rfl,rfl⟩;simp only [bw,c7,kH,ah,aj,↓ae,↓aa,a8,aH,ends];refine⟨rows,F,rfl,⟨by lia,⟨xF,hxF,eaF⟩⟩,?_⟩;rw [hho];have lb:=Wc (t:=t) (g1:=ov++un) (g2:=un) c.d mz nm hhF e1 UE e2 P4 hLs (fun s=>by simp [ov,un]) (fun s=>by simp [un]);refine fun q' Mr=>⟨q',F,O,_,_,t,hF,rfl,aC,rfl,fD (q F O _ _ t hF q' _ lb ?_ ?_ ?_)⟩
 ·rw [uo]; exact(L3.trans l4).trans (.new Mr)
 ·exact(L3.trans l4).free Mr
 ·rw [uo]; exact aC
end Mo
end K2
end
section
namespace K2
open PySem (Str)
open Enc (enc)
namespace MX
open K2.P
open K2.Mo hiding bX dQ dR bZ eU eW
open K2.rE (cy jP ql lX)
open K2.o4 (HR iW)
open K2.ui (mR Ro)
open K2.Af (bR gi e8)
noncomputable def yM:g7 :=
 (bE (cA (uw (fH (c8 (ux "tuple" (aj 0)))) (c8 (aM (nu true) (ju i7 (ah (aj 0) aH)) (aM kJ (dC (.int 1)) (ju i7 (ah (aj 2) aH)))))) (bw (c7 (dC (.bl false)))) bz)
 (bE (cA (uw (fH (c8 (ux "str" (aM eY (aj 0) (dC (.int 0)))))) (c8 (aM (nu true) (aM eY (aj 0) (dC (.int 0))) (aj 1)))) (bw (c7 (dC (.bl false)))) bz)
 (bE (eZ (rk (ju i7 (ah (aj 2) aH))) (aI 3) (cA (c8 (aM (nu false) (aM eY (aj 2) (aj 3)) (dC (.int 2)))) (cA (uw (fH (c8 (a8 bX (ah (aM eY (aj 0) (aM kJ (aj 3) (dC (.int 1)))) (ah (aM eY (aj 0) (aM kJ (aj 3) (dC (.int 1)))) aH))))) (c8 (aM (nu true) (ju i7 (ah (aM eY (aj 0) (aM kJ (aj 3) (dC (.int 1)))) aH)) (dC (.int 2))))) (bw (c7 (dC (.bl false)))) bz) (cA (fH (c8 (a8 fQ (ah (aM eY (aj 0) (aM kJ (aj 3) (dC (.int 1)))) aH)))) (bw (c7 (dC (.bl false)))) bz)))
 (bw (c7 (dC (.bl true)))))))
noncomputable def Fit(as:List D)(sh:List Int):Prop:=as.length=sh.length/\∀ (i:Nat) (a:D) (k:Int),as[i]?=some a->sh[i]?=some k->(k=2/\∃ t:T2,a=enc t)\/(k≠2/\∃ j,a=.int j)
noncomputable def kF:jx:=fun ds G Q _=>∃ (w:Str) (as:List D) (d:D) (sh:List Int),ds=[.tup (.str w :: as),.str w,d]/\IsL G d (sh.map enc)/\(Fit as sh/\as.length<=10/\Mo.Xm w)/\Q (.bl true) G
theorem zc(ds:List D)(G:Gp)(Q:DK)(h:kF ds G Q fun _ _=>False):yM (fun _ _=>False) (ends Q) (aX 4 ds) G:=by
 obtain⟨w,as,d,sh,rfl,hd,⟨⟨hl,hf⟩,ad1,hw⟩,q⟩:=h;unfold yM;simp only [ends,aX,aq,aO,ag,au,a0,aB,aG,fK,cA,uw,fH,bw,c7,dC,bz,if_true,bI,aM,aj,aa,ae,cM,lu,ju,ah,aH,lz,my,beq_self_eq_true,aN,aK,ai,if_false];refine gZ hd ?_;simp only [ax,ic];refine eD (α:=Int) (by decide) ?_;have e1:((as.length+1:Nat):Int)=1+(sh.length:Int):=by lia
 simp only [e1,decide_true,aK,if_true,JS,aN,ai,if_false];show isAt "str" (.str w) G _;unfold isAt RY;simp only [beq_self_eq_true,aN,aK,ai,if_false];refine Ug ?_ hw;simp only [aK,eZ,ik,ju,ah,aj,ae,aa,aH,aN,ai,if_false];refine gZ hd ?_;simp only [ax,gj];refine⟨by lia,by lia,?_⟩;refine pz (fun pre τ G'=>G=G'/\∃ a,τ=[some (.tup (.str w :: as)),some (.str w),some d,a]) ⟨rfl,_,rfl⟩ (fun _ _ _ _=>trivial) ?_ ?_
 ·rintro pre x post τ G' N e ⟨rfl,a,rfl⟩ hN;obtain⟨rfl,hk⟩:=qF e;have hk:pre.length < sh.length:=by simpa using hk
  have ZW:pre.length < as.length:=by lia
  have ha:pQ (D.str w :: as) ((pre.length:Int)+1)=some as[pre.length]:=by
   rw [gm _ (by lia) (by rw [ag]; lia)];have:((pre.length:Int)+1).toNat=pre.length+1:=by lia
   simp only [this,Nr]
  have hs:pQ (sh.map enc) ((pre.length:Nat):Int)=some (enc sh[pre.length]):=by
   rw [gm _ (by lia) (by rw [ax]; lia)];simp only [jk,dI]
  simp only [aI,cA,ao,ak,uw,fH,bw,c7,dC,bz,if_true,bI,aM,ju,ah,aj,aa,ae,aH,ic,cM,a8];refine hV hd hs ?_;refine eD (α:=Int) (y:=2) (by decide) ?_;rcases hf pre.length _ _ (aP ZW) (aP hk) with ⟨h2,t,et⟩ | ⟨h2,j,ej⟩
  ·simp only [ai,h2,decide_true,aK,if_false,ha,et,WN,lz,ag,au,aN,if_true];refine⟨[t.a,t.b],rfl,?_⟩;simp only [aN,aK,ai,if_false];refine eD (α:=Int) (x:=2) (y:=2) (by decide) ?_;simp only [decide_true,aK,if_true,aN,ai,if_false];exact hN _ _ ⟨rfl,_,rfl⟩
  ·simp only [ai,h2,decide_false,bp,if_false,ha,ej,aN];refine⟨j,rfl,?_⟩;simp only [aN,aK,ai,if_false];exact hN _ _ ⟨rfl,_,rfl⟩
 ·rintro τ G' ⟨rfl,a,rfl⟩;simp only [bw,c7,dC];exact fD q
theorem zU{α:Type} [DecidableEq α] [Enc α]{neg:Bool}{x:α}{xs:List α}{G:Gp}{Q:DK}(hd:Enc.dep α<=7)(q:Q (.bl (if neg then !decide (x∈xs) else decide (x∈xs))) G):Co neg (enc x) (.tup (xs.map enc)) G Q:=by
 refine⟨enc x,xs.map enc,Enc.sn _ _ _ (by unfold SN; lia),qE G 7 hd xs,?_⟩;rw [Fj]; exact q
theorem Se{a b c d:D}{r:List D}:pQ (a :: b :: c :: d :: r) 3=some d:=by
 rw [gm _ (by decide) (by simp; lia)]; rfl
theorem Ut{a b c d e:D}{r:List D}:pQ (a :: b :: c :: d :: e :: r) 4=some e:=by
 rw [gm _ (by decide) (by simp; lia)]; rfl
theorem E6{rows:Rows}(d:Dr rows):rows.length<=100/\∀ r∈rows,r.length<=100:=by
 have:=d.str;have:=d.zw;refine⟨by lia,fun r hr=>?_⟩;have:=o4.nU hr;lia
end MX
end K2
end
section
namespace K2
open PySem (Str)
open Enc (enc)
namespace Mo
open K2.P
open K2.rE (cy)
open K2.o4 (HR)
theorem RJ{j:Nat}{G1 G2:Gp}{q:Nat}{as:List Nat}{rows:Rows}{E:mW}{K:lM}{τ:iP}(hr:HR G1 G2 q as rows)(hl:rows.length<=500/\∀ r∈rows,r.length<=500)(hj:j < τ.length)
  (k:∀ lH G',(lH=τ\/∃ x,lH=τ.set j (some x))->fy G1 G'->K.nx lH G') :
  sP (aI j) (eG (qU vL ig (aj j) (ah (dW (ah (dC (.int 0)) (ah (dC (.int 0)) (ah (dC (.int 0)) aH)))) aH))) (fun G'=>G' q=some (.lst (as.map D.ref))) (as.map D.ref) E K τ G2:=by
 refine gJ (f:=D.ref) (xs:=as) (fun pre lH G'=>(lH=τ\/∃ x,lH=τ.set j (some x))/\fy G1 G'/\G' q=some (.lst (as.map D.ref))/\(∀ a∈as,∃ xs:List D,G' a=some (.lst xs)/\xs.length<=500+pre.length)) ⟨.inl rfl,hr.le,hr.gp,fun a ha=>?_⟩ (fun _ _ _ h=>h.2.2.1) ?_ (fun lH G' h=>k lH G' h.1 h.2.1)
 ·obtain⟨i,hi⟩:=kN ha;have hil:i < rows.length:=by rw [<-hr.len]; exact(List.getElem?_eq_some_iff.mp hi).1
  refine⟨_,hr.at' i a _ hi (aP hil),?_⟩;rw [ax];have:=hl.2 rows[i] (fg hil);simp; lia
 ·rintro pre a post lH G' N e ⟨Wf,l,g,hs⟩ hN;have ha:a∈as:=by rw [e]; simp
  have ZE:lH.set j (some (.ref a))=τ.set j (some (.ref a)):=by
   rcases Wf with rfl | ⟨x,rfl⟩
   ·rfl
   ·rw [List.set_set]
  have Z0:(τ.set j (some (D.ref a)))[j]?=some (some (.ref a)):=by rw [iz hj]
  obtain⟨xs,gx,hx⟩:=hs a ha;have mz:q≠a:=by rintro rfl; exact hr.np ha
  unfold aI;rw [ZE];unfold eG qU aj;simp only [Z0];refine⟨by unfold vL; simp only [gx],?_⟩;show (3<=SZ/\ig (.ref a) [.tup [.int 0,.int 0,.int 0]] G' fun _ G1=>N (τ.set j (some (D.ref a))) G1);refine⟨by decide,?_⟩;unfold ig;simp only [gx];have u0:pre.length < as.length:=by have:=congrArg dE e; simp at this; lia
  have hal:=hr.len;have Mx:=hl.1
  ·refine⟨zh (by lia),hN _ _ ⟨.inr ⟨_,rfl⟩,l.put (hr.fr a ha),by rw [eR mz]; exact g,fun b hb=>?_⟩⟩;by_cases hba:b=a
   ·subst hba;exact⟨_,aC,by simp; lia⟩
   ·rw [eR hba];obtain⟨ys,gy,hy⟩:=hs b hb;exact⟨ys,gy,by simp; lia⟩
end Mo
end K2
end
section
namespace K2
open PySem (Str)
open Enc (enc)
namespace Qc
open K2.P
open K2.Mo hiding bX dQ dR bZ eU eW
open K2.rE (cy)
open K2.o4 (HR)
open K2.K3 (NW EE)
open K2.ui (mR Ro)
open K2.Af (bR gi e8 i8 kl)
open K2.MX (iA eS E6 Se Ut zU)
noncomputable def gG:jx:=SH (fun rows:Rows=>rows.length<=100/\rows.flatten.length<=300) fun rows=>bq rows 0
noncomputable def wt:g7 :=
 (bE (bH (fh aH) (aI 1))
 (bE (eZ (rk (ju i7 (ah (aj 0) aH))) (aI 2) (bE (cA (fH (c8 (aM eY (aj 0) (aj 2)))) (eG (qU vL ig (aj 1) (ah (dW (ah (aj 2) (ah (dC (.int 2)) aH))) aH))) bz)
 (eZ (ky (aM eY (aj 0) (aj 2))) (aI 3) (eG (qU vL ig (aj 1) (ah (dW (ah (aM eY (aj 3) (dC (.int 0))) (ah (aM eY (aj 3) (dC (.int 1))) aH))) aH))))))
 (bw (c7 (aj 1)))))
theorem Ft(ds:List D)(G:Gp)(Q:DK)(h:gG ds G Q fun _ _=>False):wt (fun _ _=>False) (ends Q) (aX 4 ds) G:=by
 obtain⟨rows,rfl,hd,q⟩:=h;have str:rows.length<=100:=hd.1;have zw:rows.flatten.length<=300:=hd.2;have sl:=qB rows;clear hd;unfold wt;simp only [ends,aX,aq,aO,ag,au,a0,aB,aG,fI,bH,fh,aH,aI,ao,ak];refine⟨by decide,fun d hd=>?_⟩;refine bL (fun τ G'=>(∃ a b,τ=[some (enc rows),some (.ref d),a,b])/\fy G G'/\G' d=some (.lst ((bq rows 0).map enc))) ?_ ?_
 ·intro N hN;simp only [eZ,ik,ju,ah,aj,aa,aH];refine gZ (IsL.enc rows) ?_;rw [ax];simp only [gj];refine⟨by lia,by lia,?_⟩;unfold fj;refine gJ (xs:=e7 (rows.length:Int).toNat) (fun ks τ G'=>(∃ a b,τ=[some (enc rows),some (.ref d),a,b])/\fy G G'/\G' d=some (.lst ((bq (rows.take ks.length) 0).map enc))) ⟨⟨_,_,rfl⟩,.new hd,aC⟩ (fun _ _ _ _=>trivial) ?_ ?_
  ·rintro ks k post τ G1 N2 e ⟨⟨a1,a2,rfl⟩,l1,gd1⟩ Bm;have ek:k=ks.length:=by
    have:=congrArg (fun l=>l[ks.length]?) e;simp only [bQ (aT _),Nat.sub_self,aa] at this;have hl:=congrArg dE e;rw [fA,aL,ag] at hl;rw [zK (by lia)] at this;injection this with this; exact this.symm
   have hk:k < rows.length:=by
    have:k∈e7 (rows.length:Int).toNat:=by rw [e]; simp
    have:=List.mem_range.mp this; lia
   subst ek;have et:rows.take (ks.length+1)=rows.take ks.length++[rows[ks.length]]:=by rw [List.take_add_one,aP hk]; rfl
   have esp:bq (rows.take (ks.length+1)) 0=bq (rows.take ks.length) 0++bC rows[ks.length] (ks.length:Int):=by
    rw [et,qC,bq,bq,dc,cS,qz (by lia),ou]
   have rK:(bq (rows.take ks.length) 0).length+(bC rows[ks.length] (ks.length:Int)).length<=400:=by
    have h1:(bq rows 0).length<=400:=by lia
    have:=qC (rows.take (ks.length+1)) (rows.drop (ks.length+1)) 0;rw [da] at this;rw [this,aL,esp,aL] at h1;lia
   generalize hro:rows[ks.length]=r at *;have xr:pQ (rows.map (enc:List T3->D)) (0+(ks.length:Int))=some (enc r):=by rw [NW hk,hro]
   generalize bq (rows.take ks.length) 0=L at *;simp only [aI,ao,ak];refine bL (fun τ G'=>(∃ b,τ=[some (enc rows),some (.ref d),some (.int (0+(ks.length:Int))),b])/\fy G G'/\((r=[]/\G' d=some (.lst ((L++bC r (ks.length:Int)).map enc)))\/(r≠[]/\G' d=some (.lst (L.map enc))))) ?_ ?_
   ·intro N3 FL;simp only [EE,fH,eG,qU,aj,ae,aa,iY,ah,dW,dC,aH,ag,au,e9,bz,bI,aM];refine hV (IsL.enc rows) xr ?_;refine AD (IsL.enc r) ?_;cases r with
    | nil =>
     simp only [aO,uV,aK,bp,gd1,true_and,if_true];refine⟨by decide,zh (by rw [ax]; lia),FL _ _ ⟨⟨_,rfl⟩,l1.put hd,.inl ⟨rfl,?_⟩⟩⟩;rw [aC,Int.zero_add,aJ]; rfl
    | cons t r =>
     simp only [aq,tR,bp,aK,ai,if_false];exact FL _ _ ⟨⟨_,rfl⟩,l1,.inr ⟨by simp,gd1⟩⟩
   ·rintro _ G3 ⟨⟨b,rfl⟩,l3,gd3⟩;simp only [eZ,dw,aM,aj,aa,ae];refine hV (IsL.enc rows) xr ?_;refine iF ?_;refine gJ (xs:=r) (fun pp τ G'=>(∃ b,τ=[some (enc rows),some (.ref d),some (.int (0+(ks.length:Int))),b])/\fy G G'/\((r=[]/\G' d=some (.lst ((L++bC r (ks.length:Int)).map enc)))\/(r≠[]/\G' d=some (.lst ((L++pp.map T3.s).map enc))))) ⟨⟨_,rfl⟩,l3,?_⟩ (fun _ _ _ _=>trivial) ?_ ?_
    ·rcases gd3 with h | ⟨h1,h2⟩
     ·exact .inl h
     ·exact .inr ⟨h1,by rw [aO,dc]; exact h2⟩
    ·rintro pp t pt τ G4 N4 e4 ⟨⟨b,rfl⟩,l4,Ri⟩ hN4;have mz:r≠[]:=by rw [e4]; simp
     rcases Ri with ⟨h1,_⟩ | ⟨_,Ri⟩
     ·exact absurd h1 mz
     have eo:bC r (ks.length:Int)=r.map T3.s:=by unfold bC; rw [if_neg mz]
     have hl4:(L++pp.map T3.s).length<=1000:=by
      rw [eo,ax] at rK;have:=congrArg dE e4;rw [aL,ag] at this;rw [aL,ax]; lia
     simp only [aI,eG,qU,aj,pD,ao,ak,ae,aa,iY,Ri,ah,dW,aM,dC,aH,ag,au,e9,cM,DL,JS,true_and];refine⟨by decide,zh (by rw [ax]; exact hl4),hN4 _ _ ⟨⟨_,rfl⟩,l4.put hd,.inr ⟨mz,?_⟩⟩⟩;rw [aC,aJ (l₁:=pp),<-bW,aJ (l₁:=L++_)]; rfl
    ·rintro τ G4 ⟨⟨b,rfl⟩,l4,Ri⟩;refine Bm _ _ ⟨⟨_,_,rfl⟩,l4,?_⟩;rw [aL,ag,au,ou,esp];rcases Ri with ⟨_,h⟩ | ⟨h1,h⟩
     ·exact h
     ·have eo:bC r (ks.length:Int)=r.map T3.s:=by unfold bC; rw [if_neg h1]
      rw [eo]; exact h
  ·rintro τ G' ⟨⟨a,b,rfl⟩,l,gd⟩;refine hN _ _ ⟨⟨_,_,rfl⟩,l,?_⟩;have:rows.take (e7 (rows.length:Int).toNat).length=rows:=by rw [fA]; simp
   rw [this] at gd; exact gd
 ·rintro _ G' ⟨⟨a,b,rfl⟩,l,gd⟩;simp only [bw,c7,aj,ae,aa];exact kz l hd gd q
noncomputable def C3(rows:Rows)(a b:Int)(o:T2):List T2:=(bq (ku o (oj a b 0 1) rows 0) 0).filter fun s=>!decide (s=⟨a,0⟩)
theorem YH{r r':List T3}(k:Int)(h:r.map T3.s=r'.map T3.s):bC r k=bC r' k:=by
 unfold bC;cases r with
 | nil=>cases r' with
  | nil=>rfl
  | cons x r'=>cases h
 | cons y r=>cases r' with
  | nil=>cases h
  | cons x r'=>rw [if_neg (by simp),if_neg (by simp),h]
theorem WL{s:T2}{ps ps':List T3}(h:ps.map T3.s=ps'.map T3.s):∀ r:List T3,(r.flatMap (xA s ps)).map T3.s=(r.flatMap (xA s ps')).map T3.s
 | []=>rfl
 | p :: r=>by
  rw [cO,cO,aJ,aJ,WL h r];congr 1;unfold xA;split
  ·rw [aq,aq,h]
  ·rfl
theorem Vv{s:T2}{ps ps':List T3}(h:ps.map T3.s=ps'.map T3.s)(k:Nat)(r:List T3):(gU s ps k r).map T3.s=(gU s ps' k r).map T3.s:=by
 unfold gU;rw [aJ,aJ,WL h r];split
 ·rw [h]
 ·rfl
theorem Dc{s:T2}{ps ps':List T3}(h:ps.map T3.s=ps'.map T3.s):∀ (rows:Rows) (k j:Nat),bq (ku s ps rows k) j=bq (ku s ps' rows k) j
 | [],_,_=>rfl
 | r :: rows,k,j=>by
  show bC (gU s ps k r) _++bq (ku s ps rows (k+1)) (j+1)=bC (gU s ps' k r) _++bq (ku s ps' rows (k+1)) (j+1);rw [YH _ (Vv h k r),Dc h rows]
theorem D0{rows:Rows}{a b h:Int}{o u:T2}:u∈C3 rows a b o↔u∈bq (ku o (oj a b 0 h) rows 0) 0/\u≠⟨a,0⟩:=by
 unfold C3;rw [List.mem_filter,Dc (ps:=oj a b 0 1) (ps':=oj a b 0 h) rfl];simp
theorem AY{rows:Rows}{s:T2}{ps:List T3}(d:Dr rows)(hs:s∈bq rows 0)(hp:ps.length<=4):(ku s ps rows 0).length<=100/\(ku s ps rows 0).flatten.length<=30:=by
 have:=d.str;have:=d.zw;refine⟨by rw [qG]; lia,?_⟩;rw [(pY (ps:=ps) d.dn (M8 hs)).length_eq,aL];lia
noncomputable def nP:g7 :=
 (bE (bH (a8 iA (ah (aj 0) (ah (aj 3) (ah (fh (ah (dW (ah (aj 1) (ah (dC (.int 0)) (ah (dC (.int 1)) aH)))) (ah (dW (ah (aj 2) (ah (dC (.int 0)) (ah (CM Cm (dC (.int 1))) aH)))) aH))) aH)))) (aI 4))
 (bw (c7 (hU 1 [1] (ky (a8 gG (ah (aj 4) aH))) (aI 0) (some (c8 (aM (nu true) (aj 0) (dW (ah (aj 1) (ah (dC (.int 0)) aH)))))) (aj 0)))))
noncomputable def fM:jx:=fun ds G Q _=>∃ (rows:Rows) (a b:Int) (o:T2),ds=[enc rows,.int a,.int b,enc o]/\(Dr rows/\o∈bq rows 0)/\Q (enc (C3 rows a b o)) G
theorem vw(ds:List D)(G:Gp)(Q:DK)(h:fM ds G Q fun _ _=>False):nP (fun _ _=>False) (ends Q) (aX 5 ds) G:=by
 obtain⟨rows,a,b,o,rfl,⟨d,ho⟩,q⟩:=h;obtain⟨h1,h2⟩:=E6 d;obtain⟨k1,k2⟩:=AY (ps:=oj a b 0 1) d ho (by simp [oj]);unfold nP;refine bL (fun τ G'=>fy G G'/\τ=[some (enc rows),some (.int a),some (.int b),some (enc o),some (enc (ku o (oj a b 0 1) rows 0))]) ?_ ?_
 ·intro N hN;simp only [bH,a8,ah,aj,aX,↓aq,↓aO,↓ag,↓au,a0,↓aB,↓aG,↓aa,↓ae,fh,dW,dC,aH,CM,↓i9,aI,↓ao,↓ak];refine⟨by decide,by decide,by decide,fun p hp=>?_⟩;exact⟨rows,o,_,oj a b 0 1,rfl,.ref aC,⟨h1,h2,by simp [oj]⟩,hN _ _ ⟨.new hp,rfl⟩⟩
 rintro _ G1 ⟨l1,rfl⟩;simp only [bw,c7,hU,↓dw,a8,ah,aj,↓ae,↓aa,aH,ends];refine⟨_,rfl,⟨k1,by lia⟩,?_⟩;refine iF ⟨FJ (by rw [ax]; have:=qB (ku o (oj a b 0 1) rows 0); show (bq (ku o (oj a b 0 1) rows 0) 0).length<=_; lia),?_⟩;refine lx (xs:=bq (ku o (oj a b 0 1) rows 0) 0) (fun pr acc τ G2=>G1=G2/\acc=(pr.filter fun s=>!decide (s=⟨a,0⟩)).map enc/\∃ x,τ=[x,some (.int a)]) ⟨rfl,rfl,_,rfl⟩ (fun _ _ _ _ _=>trivial) ?_ ?_
 ·rintro pr t po acc τ G2 N3 e3 ⟨rfl,rfl,x,rfl⟩ FL;simp only [aI,↓bI,aM,aj,↓ak,↓aa,dW,ah,↓ae,dC,aH,↓ag,↓au];refine⟨by decide,?_⟩;refine eD (x:=t) (y:=(⟨a,0⟩:T2)) (by decide) ?_;simp only [↓aN,↓if_true];by_cases ht:t=⟨a,0⟩
  ·simp only [ht,decide_true];exact FL _ _ _ ⟨rfl,by simp [ht],_,rfl⟩
  ·simp only [ht,decide_false];exact FL _ _ _ ⟨rfl,by simp [ht],_,rfl⟩
 ·rintro acc τ G2 ⟨rfl,rfl,x,rfl⟩ p2 pP;exact kz (xs:=C3 rows a b o) (l1.trans (.new pP)) (l1.free pP) aC q
theorem uH (a b:Int) (o u:T2) (t h:Int):td (.la a b o u t h)=.tup [.str "lay",.int a,.int b,enc o,enc u,.int t,.int h]:=rfl
theorem at5{a b c d e f:D}{r:List D}:pQ (a :: b :: c :: d :: e :: f :: r) 5=some f:=by
 rw [gm _ (by decide) (by simp; lia)]; rfl
theorem XM{a b c d e f g:D}{r:List D}:pQ (a :: b :: c :: d :: e :: f :: g :: r) 6=some g:=by
 rw [gm _ (by decide) (by simp; lia)]; rfl
end Qc
end K2
end
section
namespace K2
open PySem (Str)
open Enc (enc)
namespace Qc
open K2.P
open K2.Mo hiding bX dQ dR bZ eU eW
open K2.rE (cy)
open K2.o4 (HR)
open K2.ui (mR Ro)
open K2.Af (bR gi e8 i8 kl)
open K2.MX (iA eS E6 Se Ut zU kF Fit)
theorem Mi{rows:Rows}{a b:Int}{o u:T2}{t h:Int}(d:Dr rows)(ho:o∈bq rows 0)(hu:u∈bq (AA rows a b o h) 0)(dn:rL (AA rows a b o h)):((AA rows a b o h).length<=100/\∀ r∈AA rows a b o h,r.length<=100)/\(raw rows a b o u t h).length<=500/\∀ r∈raw rows a b o u t h,r.length<=500:=by
 obtain⟨k1,k2⟩:=AY (ps:=oj a b 0 h) d ho (by simp [oj]);have k1:(AA rows a b o h).length<=100:=k1;have k2:(AA rows a b o h).flatten.length<=30:=k2;refine⟨⟨k1,fun r hr=>?_⟩,?_,fun r hr=>?_⟩
 ·have:=o4.nU hr; lia
 ·unfold raw; rw [qG]; lia
 ·have:=yR (ps:=Df a b t h) dn hu r hr;have e:(Df a b t h).length=2:=(sJ a b t h).length_eq;lia
noncomputable def yK:g7 :=
 (bE (bH (fh (ah (dW (ah (aM eY (aj 1) (dC (.int 1))) (ah (dC (.int 0)) (ah (aM eY (aj 1) (dC (.int 6))) aH)))) (ah (dW (ah (aM eY (aj 1) (dC (.int 2))) (ah (dC (.int 0)) (ah (CM Cm (aM eY (aj 1) (dC (.int 6)))) aH)))) aH))) (aI 2))
 (bE (bH (fh (ah (dW (ah (aM eY (aj 1) (dC (.int 1))) (ah (dC (.int 1)) (ah (aM eY (aj 1) (dC (.int 6))) aH)))) (ah (dW (ah (aM eY (aj 1) (dC (.int 2))) (ah (dC (.int 1)) (ah (CM Cm (aM eY (aj 1) (dC (.int 6)))) aH)))) aH))) (aI 3))
 (bE (cA (c8 (aM (nu false) (aM eY (aj 1) (dC (.int 5))) (dC (.int 1)))) (bH (fh (ah (aM eY (aj 3) (dC (.int 1))) (ah (aM eY (aj 3) (dC (.int 0))) aH))) (aI 3)) bz)
 (bw (c7 (a8 eS (ah (a8 iA (ah (a8 iA (ah (aj 0) (ah (aM eY (aj 1) (dC (.int 3))) (ah (aj 2) aH)))) (ah (aM eY (aj 1) (dC (.int 4))) (ah (aj 3) aH)))) aH)))))))
noncomputable def iT:jx:=fun ds G Q _=>∃ (rows:Rows) (a b:Int) (o u:T2) (t h:Int),ds=[enc rows,td (.la a b o u t h)]/\(Dr rows/\o∈bq rows 0/\u∈bq (AA rows a b o h) 0/\rL (AA rows a b o h)/\(t=0\/t=1)/\(h=1\/h=-1))/\Q (enc (laid rows a b o u t h)) G
theorem Ib(ds:List D)(G:Gp)(Q:DK)(h:iT ds G Q fun _ _=>False):yK (fun _ _=>False) (ends Q) (aX 4 ds) G:=by
 obtain⟨rows,a,b,o,u,t,h,rfl,⟨d,ho,hu,dn,ht,hh⟩,q⟩:=h;obtain⟨h1,h2⟩:=E6 d;obtain⟨⟨k1,k2⟩,k3⟩:=Mi (t:=t) d ho hu dn;have nh:h.natAbs=1:=by lia
 unfold yK;rw [uH];refine bL (fun τ G'=>∃ p2,fy G G'/\G' p2=some (.lst ((oj a b 0 h).map enc))/\τ=[some (enc rows),some (td (.la a b o u t h)),some (.ref p2),none]) ?_ ?_
 ·intro N hN;simp only [bH,fh,ah,dW,aM,aj,aX,↓aq,↓aO,↓ag,↓au,a0,↓aB,↓aG,↓ae,↓aa,dC,↓cM,↓DL,↓XM,aH,↓at2,CM,↓i9,aI,↓ao,↓ak];exact⟨by decide,by decide,by decide,fun p hp=>hN _ _ ⟨p,.new hp,aC,rfl⟩⟩
 rintro _ G1 ⟨p2,l1,g2,rfl⟩;rw [uH];refine bL (fun τ G'=>∃ p3,fy G1 G'/\G' p3=some (.lst ((oj a b 1 h).map enc))/\τ=[some (enc rows),some (td (.la a b o u t h)),some (.ref p2),some (.ref p3)]) ?_ ?_
 ·intro N hN;simp only [bH,fh,ah,dW,aM,aj,↓ae,↓aa,dC,↓cM,↓DL,↓XM,aH,↓ag,↓au,↓at2,CM,↓i9,aI,↓ao,↓ak];exact⟨by decide,by decide,by decide,fun p hp=>hN _ _ ⟨p,.new hp,aC,rfl⟩⟩
 rintro _ G2 ⟨p3,l2,g3,rfl⟩;rw [uH];refine bL (fun τ G'=>∃ p3,fy G2 G'/\G' p3=some (.lst ((Df a b t h).map enc))/\τ=[some (enc rows),some (td (.la a b o u t h)),some (.ref p2),some (.ref p3)]) ?_ ?_
 ·intro N hN;simp only [cA,↓bI,aM,aj,↓ae,↓aa,dC,↓cM,↓at5,bH,fh,ah,aH,↓ag,↓au,aI,↓ao,↓ak,bz];refine eD (x:=t) (y:=(1:Int)) (by decide) ?_;rcases ht with rfl | rfl
  ·simp only [↓aN,↓ai,↓if_false];exact hN _ _ ⟨p3,.refl _,g3,rfl⟩
  ·simp only [↓aN,↓ai,decide_true,↓aK,↓if_false,↓if_true];refine hV (.ref g3) (x:=enc (⟨b,1,-h⟩:T3)) (i:=1) DL ?_;refine hV (.ref g3) (x:=enc (⟨a,1,h⟩:T3)) (i:=0) JS ?_;exact⟨by decide,fun p hp=>hN _ _ ⟨p,.new hp,aC,rfl⟩⟩
 rintro _ G3 ⟨p3,l3,g3,rfl⟩;rw [uH];simp only [bw,c7,a8,ah,aj,↓aa,aM,↓ae,dC,↓cM,↓Se,aH,↓Ut,ends];refine⟨rows,o,_,oj a b 0 h,rfl,.ref ((l2.trans l3) _ _ g2),⟨h1,h2,by simp [oj]⟩,?_⟩;refine⟨_,u,_,Df a b t h,rfl,.ref g3,⟨k1,k2,by rw [(sJ a b t h).length_eq]; simp [oj]⟩,?_⟩;exact⟨_,rfl,k3,t9 ((l1.trans l2).trans l3) q⟩
theorem SW{α:Type} [DecidableEq α] [Enc α]{neg:Bool}{xs ys:List α}{a b:Nat}{G:Gp}{Q:DK}(hd:Enc.dep α<=7)(h:G a=some (.lst (xs.map enc)))(h2:G b=some (.lst (ys.map enc)))(q:Q (.bl (if neg then !decide (xs=ys) else decide (xs=ys))) G):nu neg (.ref a) (.ref b) G Q:=by
 refine⟨enc xs,enc ys,.ref h (qE G 7 hd xs),.ref h2 (qE G 7 hd ys),?_⟩;rw [Enc.eqv]; exact q
noncomputable def sg:g7 :=
 (bE (cA (fH (c8 (a8 kF (ah (aj 0) (ah (dC (.str "lay")) (ah (fh (ah (dC (.int 0)) (ah (dC (.int 0)) (ah (dC (.int 2)) (ah (dC (.int 2)) (ah (dC (.int 0)) (ah (dC (.int 0)) aH))))))) aH)))))) (bw (c7 (dC (.bl false)))) bz)
 (bE (cA (uw (c8 (aM (nu true) (ju uf (ah (fh (ah (aM eY (aj 0) (dC (.int 1))) (ah (aM eY (aj 0) (dC (.int 2))) aH))) aH)) (ju uf (ah (aj 1) aH)))) (c8 (aM (Co true) (aM eY (aj 0) (dC (.int 3))) (a8 gG (ah (aj 2) aH))))) (bw (c7 (dC (.bl false)))) bz)
 (bE (cA (c8 (aM (Co true) (aM eY (aj 0) (dC (.int 4))) (a8 fM (ah (aj 2) (ah (aM eY (aj 0) (dC (.int 1))) (ah (aM eY (aj 0) (dC (.int 2))) (ah (aM eY (aj 0) (dC (.int 3))) aH))))))) (bw (c7 (dC (.bl false)))) bz)
 (bE (cA (uw (c8 (aM (Co true) (aM eY (aj 0) (dC (.int 5))) (dW (ah (dC (.int 0)) (ah (dC (.int 1)) aH))))) (c8 (aM (Co true) (aM eY (aj 0) (dC (.int 6))) (dW (ah (dC (.int 1)) (ah (CM Cm (dC (.int 1))) aH)))))) (bw (c7 (dC (.bl false)))) bz)
 (bw (c7 (aM (nu false) (a8 iT (ah (aj 2) (ah (aj 0) aH))) (aj 3))))))))
structure LT(rows oH:Rows)(a b F O:Int)(o u:T2)(t h:Int):Prop where
 nm:(F=a/\O=b)\/(F=b/\O=a)
 d:Dr rows
 ho:o∈bq rows 0
 hu:u∈bq (AA rows F O o h) 0
 hn:u≠⟨F,0⟩
 dn:rL (AA rows F O o h)
 ht:t=0\/t=1
 hh:h=1\/h=-1
 e:laid rows F O o u t h=oH
noncomputable def kU:jx:=fun ds G Q _=>∃ (rows oH:Rows) (a b F O:Int) (o u:T2) (t h:Int) (d:D),ds=[td (.la F O o u t h),d,enc rows,enc oH]/\IsL G d [.int a,.int b]/\LT rows oH a b F O o u t h/\Q (.bl true) G
theorem BV(ds:List D)(G:Gp)(Q:DK)(h:kU ds G Q fun _ _=>False):sg (fun _ _=>False) (ends Q) (aX 4 ds) G:=by
 obtain⟨rows,oH,a,b,F,O,o,u,t,h,dl,rfl,hl,⟨nm,d,ho,hu,hn,dn,ht,hh,rfl⟩,q⟩:=h
 let S:iP:=[some (td (.la F O o u t h)),some dl,some (enc rows),some (enc (laid rows F O o u t h))]
 unfold sg;refine bL (fun τ G'=>fy G G'/\τ=S) ?_ ?_
 ·intro N hN;simp only [cA,fH,↓bI,a8,ah,aj,aX,↓aq,↓aO,↓ag,↓au,↓aB,↓aG,↓aa,dC,fh,aH,bw,c7,ends,bz];refine⟨by decide,fun p hp=>?_⟩;refine⟨"lay",ar (.la F O o u t h),_,[0,0,2,2,0,0],rfl,.ref aC,⟨⟨rfl,?_⟩,by simp [ar],by decide +kernel⟩,?_⟩
  ·intro i a k ha hk
   match i,ha,hk with
   | 0,ha,hk=>cases ha; cases hk; exact .inr ⟨by decide,_,rfl⟩
   | 1,ha,hk=>cases ha; cases hk; exact .inr ⟨by decide,_,rfl⟩
   | 2,ha,hk=>cases ha; cases hk; exact .inl ⟨rfl,_,rfl⟩
   | 3,ha,hk=>cases ha; cases hk; exact .inl ⟨rfl,_,rfl⟩
   | 4,ha,hk=>cases ha; cases hk; exact .inr ⟨by decide,_,rfl⟩
   | 5,ha,hk=>cases ha; cases hk; exact .inr ⟨by decide,_,rfl⟩
   | i+6,ha,hk=>simp [ar] at ha
  ·simp only [↓aN,↓aK,↓ai,↓if_false];exact hN _ _ ⟨.new hp,rfl⟩
 rintro _ G1 ⟨l1,rfl⟩;refine bL (fun τ G'=>fy G G'/\τ=S) ?_ ?_
 ·intro N hN;show cA _ _ _ _ _ [some (td (.la F O o u t h)),_,_,_] _;rw [uH];simp only [cA,uw,↓bI,aM,ju,ah,fh,aj,↓aa,dC,↓cM,↓DL,↓at2,aH,↓ag,↓au,↓ae,bw,c7,ends,bz,↓if_true,↓Se,a8];refine⟨by decide,fun p hp=>?_⟩;refine vq (xs:=[F,O]) (.ref aC) (by simp) fun p1 KW=>?_;refine vq (xs:=[a,b]) (hl.mono ((l1.trans (.new hp)).trans (.new KW))) (by simp) fun p2 pP=>?_;have es:D3 [F,O]=D3 [a,b]:=by
   rcases nm with ⟨rfl,rfl⟩ | ⟨rfl,rfl⟩
   ·rfl
   ·exact SG (.swap _ _ _)
  refine SW (xs:=D3 [F,O]) (ys:=D3 [a,b]) (by decide) (fy.new pP _ _ aC) aC ?_;have ed:decide (D3 [F,O]=D3 [a,b])=true:=decide_eq_true es;simp only [↓aN,ed,↓aK,↓if_true,↓ai,↓if_false];refine⟨rows,rfl,⟨by have:=d.str; lia,by have:=d.zw; lia⟩,tV (x:=o) (by decide) ?_⟩;simp only [↓aN,ho,decide_true,↓aK,↓if_true,↓ai,↓if_false];exact hN _ _ ⟨((l1.trans (.new hp)).trans (.new KW)).trans (.new pP),rfl⟩
 clear l1;rintro _ G1 ⟨l1,rfl⟩;refine bL (fun τ G'=>G1=G'/\τ=S) ?_ ?_
 ·intro N hN;show cA _ _ _ _ _ [some (td (.la F O o u t h)),_,_,_] _;rw [uH];simp only [cA,↓bI,aM,aj,↓aa,dC,↓cM,↓Ut,a8,ah,↓ae,↓DL,↓at2,↓Se,aH,bw,c7,ends,bz];refine⟨rows,F,O,o,rfl,⟨d,ho⟩,tV (x:=u) (by decide) ?_⟩;have hm:u∈C3 rows F O o:=D0.mpr ⟨hu,hn⟩;simp only [↓aN,hm,decide_true,↓aK,↓if_true,↓ai,↓if_false];exact hN _ _ ⟨rfl,rfl⟩
 rintro _ _ ⟨rfl,rfl⟩;refine bL (fun τ G'=>G1=G'/\τ=S) ?_ ?_
 ·intro N hN;show cA _ _ _ _ _ [some (td (.la F O o u t h)),_,_,_] _;rw [uH];simp only [cA,uw,↓bI,aM,aj,↓aa,dC,↓cM,↓at5,dW,ah,aH,↓ag,↓au,bw,c7,ends,bz,↓if_true,↓XM,CM,↓i9];refine⟨by decide,?_⟩;refine zU (x:=t) (xs:=[0,1]) (by decide) ?_;have hf':t∈([0,1]:List Int):=by simpa using ht
  simp only [↓aN,hf',decide_true,↓aK,↓if_true,↓ai,↓if_false];refine⟨by decide,?_⟩;refine zU (x:=h) (xs:=[1,-1]) (by decide) ?_;have hh':h∈([1,-1]:List Int):=by simpa using hh
  simp only [↓aN,hh',decide_true,↓aK,↓if_true,↓ai,↓if_false];exact hN _ _ ⟨rfl,rfl⟩
 rintro _ _ ⟨rfl,rfl⟩;simp only [bw,c7,aM,a8,ah,aj,↓ae,↓aa,aH,ends,S];refine⟨rows,F,O,o,u,t,h,rfl,⟨d,ho,hu,dn,ht,hh⟩,?_⟩;refine eD (x:=laid rows F O o u t h) (y:=laid rows F O o u t h) (by decide) ?_;simp only [↓ai,decide_true,↓aK,↓if_false];exact t9 l1 q
end Qc
end K2
end
section
namespace K2
open PySem (Str)
open Enc (enc)
namespace Qc
open K2.P
open K2.Mo hiding bX dQ dR bZ eU eW
open K2.rE (cy)
open K2.o4 (HR)
open K2.ui (mR Ro)
open K2.Af (bR gi e8 i8 kl)
open K2.Ir (w9)
open K2.MX (eS ib bZ Se Ut AI)
variable {rows:Rows} {a b:Int} {o u:T2} {t h:Int}
theorem Ey(c:BY rows a b o u t h):Dr (laid rows a b o u t h):=(Ef c).ro (e8 _)
theorem KI(c:BY rows a b o u t h):MU (laid rows a b o u t h) a b h:=(SV c).ro (e8 _)
theorem GW(c:BY rows a b o u t h){ns:List Int}(ha:a∈ns)(hb:b∈ns)(hn:∀ n∈ns,n=a\/n=b):(rB ns (laid rows a b o u t h)).map cy=rows.map cy:=by
 have h2:=Ub (ns:=ns) (e8 (raw rows a b o u t h));rw [QG c ns ha hb hn] at h2;exact c.d.dn.NR h2
theorem Mj{x y F O:Int}{o' u':T2}{t' h':Int}(c:BY rows a b o u t h)(nm:(x=a/\y=b)\/(x=b/\y=a))(lb:Lb (laid rows a b o u t h) x y F O o' u' t' h'):LT (rows.map cy) (laid rows a b o u t h) a b F O o' u' t' h':=by
 obtain⟨nm',ht,hh,ho,hn,Y,rY,dY,hu,rU⟩:=lb;have ef:(rB [x,y] (laid rows a b o u t h)).map cy=rows.map cy:=GW c (by rcases nm with ⟨rfl,rfl⟩ | ⟨rfl,rfl⟩ <;> simp) (by rcases nm with ⟨rfl,rfl⟩ | ⟨rfl,rfl⟩ <;> simp) (fun n hn=>by rcases nm with ⟨rfl,rfl⟩ | ⟨rfl,rfl⟩ <;> simp at hn <;> rcases hn with rfl | rfl <;> simp);have dl:=Ey c;have dS:=c.d.ro (e8 rows);have hrf:Ro (rB [x,y] (laid rows a b o u t h)) (rows.map cy):=by rw [<-ef]; exact e8 _
 have dF:rL (rB [x,y] (laid rows a b o u t h)):=Uk dl.dn;have r1:=Oe (s:=o') (ps:=oj F O 0 h') hrf (Ja dF (M8 ho));have r2:Ro Y (AA (rows.map cy) F O o' h'):=i8 (kl rY) r1;have dU:rL (AA (rows.map cy) F O o' h'):=dY.ro r2;have r3:=Oe (s:=u') (ps:=Df F O t' h') r2 (Ja dY (M8 hu));have r4:Ro (laid rows a b o u t h) (raw (rows.map cy) F O o' u' t' h'):=i8 (kl rU) r3;refine⟨?_,dS,Gj hrf ho,Gj r2 hu,hn,dU,ht,hh,?_⟩
 ·rcases nm with ⟨rfl,rfl⟩ | ⟨rfl,rfl⟩ <;> rcases nm' with ⟨rfl,rfl⟩ | ⟨rfl,rfl⟩ <;> simp
 ·show (raw (rows.map cy) F O o' u' t' h').map cy=_;rw [dl.dn.NR r4];exact rL.NR (Ef c).dn (e8 _)
theorem BY.RW(c:BY rows a b o u t h):Dr rows/\o∈bq rows 0/\u∈bq (AA rows a b o h) 0/\rL (AA rows a b o h)/\(t=0\/t=1)/\(h=1\/h=-1):=⟨c.d,c.ho,c.hu,xK c,c.ht,c.hh⟩
noncomputable def uP:g7 :=
 (bE (bH (a8 iT (ah (aj 1) (ah (aj 2) aH))) (aI 3))
 (bE (eZ (rk (dC (.int 2))) (aI 4) (bE (Pw 5 (bH (hU 1 [] (ky (aj 3)) (aI 0) none (ju rD (ah (aj 0) aH))) (aI 5)))
 (bE (bH (fN [("Part",kX)] "done" (aj 0) (ah (aj 5) aH)) (aI 6))
 (bE (cA (fH (c8 (a8 ib (ah (aj 6) (ah (a8 eS (ah (aj 1) aH)) aH))))) (bw (c7 (dC (.bl false)))) bz)
 (bE (eZ (ky (aj 6)) (aI 7) (eG (qU vL ig (aj 7) (ah (dW (ah (dC (.int 0)) (ah (dC (.int 0)) (ah (dC (.int 0)) aH)))) aH))))
 (cA (c8 (aM (nu true) (aj 5) (aj 3))) (bw (c7 (dC (.bl false)))) bz))))))
 (bE (bH (fN [("Lay",iU)] "told" (fN [("Part",kY)] "back" (aj 0) (ah (aj 5) aH)) aH) (aI 8))
 (bw (c7 (BH (aM (nu false) (aj 5) (aj 3)) (a8 kU (ah (aj 8) (ah (fh (ah (aM eY (aj 2) (dC (.int 1))) (ah (aM eY (aj 2) (dC (.int 2))) aH))) (ah (a8 eS (ah (aj 1) aH)) (ah (aj 3) aH)))))))))))
noncomputable def jg:jx:=fun ds G Q _=>∃ (p:Nat) (rows:Rows) (x y a b:Int) (o u:T2) (t h:Int),ds=[.ref p,enc rows,td (.la a b o u t h)]/\Iu G p (.pa x y)/\(BY rows a b o u t h/\((x=a/\y=b)\/(x=b/\y=a)))/\Q (.bl true) G
theorem CV(ds:List D)(G:Gp)(Q:DK)(h:jg ds G Q fun _ _=>False):uP (fun _ _=>False) (ends Q) (aX 9 ds) G:=by
 obtain⟨p,rows,x,y,a,b,o,u,t,h,rfl,g,⟨c,nm⟩,q⟩:=h;have d:=c.d;obtain⟨Mx,KY,Wq⟩:=qR d;have db:=Ey c;obtain⟨XD,UU,hb3⟩:=qR db;obtain⟨h',pa⟩:∃ h',MU (laid rows a b o u t h) x y h':=by
  rcases nm with ⟨rfl,rfl⟩ | ⟨rfl,rfl⟩
  ·exact⟨h,KI c⟩
  ·exact⟨-h,(KI c).turn⟩
 obtain⟨xy,xx,xJ,xI,pn,pf⟩:=Ow pa;have ef:(rB [x,y] (laid rows a b o u t h)).map cy=rows.map cy:=GW c (by rcases nm with ⟨rfl,rfl⟩ | ⟨rfl,rfl⟩ <;> simp) (by rcases nm with ⟨rfl,rfl⟩ | ⟨rfl,rfl⟩ <;> simp) (fun n hn=>by rcases nm with ⟨rfl,rfl⟩ | ⟨rfl,rfl⟩ <;> simp at hn <;> rcases hn with rfl | rfl <;> simp);have hsl:(rows.map cy).length<=500/\∀ r∈rows.map cy,r.length<=500:=⟨by rw [ax]; exact Mx,fun r hr=>by
  obtain⟨r',TK,rfl⟩:=List.mem_map.mp hr;rw [AI]; exact KY r' TK⟩
 let S:Option D->Option D->Option D->Option D->Option D->iP:=fun z1 z2 z3 z4 z5=>[some (.ref p),some (enc rows),some (td (.la a b o u t h)),some (enc (laid rows a b o u t h)),z1,z2,z3,z4,z5]
 unfold uP;refine bL (fun τ G'=>G=G'/\τ=S none none none none none) ?_ ?_
 ·intro N hN;simp only [bH,a8,ah,aj,aX,↓aq,↓aO,↓ag,↓au,a0,↓aB,↓aG,↓ae,↓aa,aH,aI,↓ao,↓ak];exact⟨rows,a,b,o,u,t,h,rfl,BY.RW c,hN _ _ ⟨rfl,rfl⟩⟩
 rintro _ _ ⟨rfl,rfl⟩;refine bL (fun τ G'=>fy G G'/\∃ z1 z3 z4,τ=S z1 (some (enc (laid rows a b o u t h))) z3 z4 none) ?_ ?_
 ·intro N hN;simp only [eZ,↓ik,dC,↓gj,ends,S];refine⟨by decide,by decide,?_⟩;refine pz (fun pre τ G'=>fy G G'/\(pre≠[]->∃ z1 z3 z4,τ=S z1 (some (enc (laid rows a b o u t h))) z3 z4 none)/\∃ z1 z2 z3 z4,τ=S z1 z2 z3 z4 none) ⟨.refl _,fun h=>absurd rfl h,_,_,_,_,rfl⟩ (fun _ _ _ _=>trivial) ?_ (fun τ G' h=>hN τ G' ⟨h.1,h.2.1 (by decide)⟩);rintro pre x' post τ G1 N1 e ⟨l1,-,z1,z2,z3,z4,rfl⟩ O3;simp only [↓aI,S,ak,ao];refine bL (fun τ G'=>G1=G'/\τ=S (some x') (some (enc (laid rows a b o u t h))) z3 z4 none) ?_ ?_
  ·intro N hN;rw [BG];simp only [bH,hU,↓dw,aj,↓ae,↓aa,aI,↓ao,↓ak];exact w9 (by lia) fun G' p' as hr=>hr.fz (hN _ _ ⟨rfl,rfl⟩)
  rintro _ _ ⟨rfl,rfl⟩;refine bL (fun τ G'=>∃ q as,HR G1 G' q as (rows.map cy)/\τ=S (some x') (some (enc (laid rows a b o u t h))) (some (.ref q)) z4 none) ?_ ?_
  ·intro N hN;simp only [bH,fN,aj,↓aa,ah,↓ae,aH,aI,↓ao,↓ak,S];refine⟨p,_,_,kX,rfl,l1 _ _ g,List.mem_singleton.mpr rfl,rfl,⟨p,x,y,_,xy,xx,xJ,xI,rfl,l1 _ _ g,⟨pn,pf,XD⟩,fun q' as G' hr=>hN _ _ ⟨q',as,?_,rfl⟩⟩⟩;rw [<-ef]; exact hr
  rintro _ G2 ⟨q',as,hr,rfl⟩;refine bL (fun τ G'=>G2=G'/\τ=S (some x') (some (enc (laid rows a b o u t h))) (some (.ref q')) z4 none) ?_ ?_
  ·intro N hN;simp only [cA,fH,↓bI,a8,ah,aj,↓ae,↓aa,aH,bw,c7,dC,bz,S];refine⟨rows,rfl,⟨Mx,KY⟩,q',as,_,G1,rfl,hr,hsl,?_⟩;simp only [↓aN,↓aK,↓ai,↓if_false];exact hN _ _ ⟨rfl,rfl⟩
  rintro _ _ ⟨rfl,rfl⟩;refine bL (fun τ G'=>fy G1 G'/\∃ z4,τ=S (some x') (some (enc (laid rows a b o u t h))) (some (.ref q')) z4 none) ?_ ?_
  ·intro N hN;simp only [eZ,↓dw,aj,↓ae,↓aa,S];rw [oO hr.gp];refine RJ hr hsl (ko rfl) fun lH G' Wf l=>hN _ _ ⟨l,?_⟩;rcases Wf with rfl | ⟨w,rfl⟩
   ·exact⟨_,rfl⟩
   ·exact⟨_,rfl⟩
  rintro _ G4 ⟨l4,c4,rfl⟩;simp only [cA,↓bI,aM,aj,↓ae,↓aa,bw,c7,dC,bz,S];refine eD (x:=laid rows a b o u t h) (y:=laid rows a b o u t h) (by decide) ?_;simp only [↓aN,decide_true,↓aK,↓if_true,↓ai,↓if_false];exact O3 _ _ ⟨l1.trans l4,fun _=>⟨_,_,_,rfl⟩,_,_,_,_,rfl⟩
 rintro _ G1 ⟨l1,z1,z3,z4,rfl⟩;refine bL (fun τ G'=>∃ F O o' u' t' h',fy G G'/\Lb (laid rows a b o u t h) x y F O o' u' t' h'/\τ=S z1 (some (enc (laid rows a b o u t h))) z3 z4 (some (td (.la F O o' u' t' h')))) ?_ ?_
 ·intro N hN;simp only [bH,fN,aj,↓aa,ah,↓ae,aH,aI,↓ao,↓ak,S];refine⟨p,_,_,kY,rfl,l1 _ _ g,List.mem_singleton.mpr rfl,rfl,⟨p,x,y,h',_,rfl,l1 _ _ g,pa,fun F O o' u' t' h' q' G' lb l _ hq=>?_⟩⟩;exact⟨q',_,_,iU,rfl,hq,List.mem_singleton.mpr rfl,rfl,⟨q',F,O,o',u',t',h',rfl,hq,hN _ _ ⟨F,O,o',u',t',h',l1.trans l,lb,rfl⟩⟩⟩
 clear l1;rintro _ G1 ⟨F,O,o',u',t',T4,l1,lb,rfl⟩;simp only [bw,c7,↓mG,aM,aj,↓ae,↓aa,a8,ah,fh,dC,aH,↓ag,↓au,ends,S];refine eD (x:=laid rows a b o u t h) (y:=laid rows a b o u t h) (by decide) ?_;rw [uH a b];simp only [↓aN,↓ai,decide_true,↓aK,↓if_false,↓cM,↓DL,↓at2,↓if_true];refine⟨by decide,fun pn' ZH=>?_⟩;refine⟨rows,rfl,⟨Mx,KY⟩,?_⟩;exact⟨rows.map cy,_,a,b,F,O,o',u',t',T4,_,rfl,.ref aC,Mj c nm lb,t9 (l1.trans (.new ZH)) q⟩
end Qc
end K2
end
section
namespace K2
open PySem (Str)
open Enc (enc)
namespace Qc
open K2.P
open K2.Mo hiding bX dQ dR bZ eU eW
open K2.rE (cy)
open K2.o4 (HR)
open K2.ui (mR Ro)
open K2.Af (bR gi e8 i8 kl)
open K2.Ir (w9)
open K2.MX (eS ib bZ Se Ut AI)
noncomputable def wo:g7 :=
 (bE (Pw 3 (bH (hU 1 [] (ky (aj 1)) (aI 0) none (ju rD (ah (aj 0) aH))) (aI 3)))
 (bE (bH (a8 iT (ah (aj 1) (ah (aj 2) aH))) (aI 4))
 (bE (eZ (rk (dC (.int 2))) (aI 5) (bE (bH (fN [("Lay",iV)] "done" (aj 0) (ah (aj 3) aH)) (aI 6))
 (bE (cA (uw (fH (c8 (a8 ib (ah (aj 6) (ah (aj 4) aH))))) (c8 (aM (nu true) (aj 3) (aj 1)))) (bw (c7 (dC (.bl false)))) bz)
 (eZ (ky (aj 6)) (aI 7) (eG (qU vL ig (aj 7) (ah (dW (ah (dC (.int 0)) (ah (dC (.int 0)) (ah (dC (.int 0)) aH)))) aH)))))))
 (bE (bH (fN [("Lay",mh)] "back" (aj 0) (ah (aj 3) aH)) (aI 8))
 (bE (bH (fN [("Part",kW)] "told" (aj 8) aH) (aI 9))
 (bE (cA (JQ (fH (c8 (a8 bZ (ah (aj 9) (ah (dW (ah (dC (.str "part")) (ah (aM eY (aj 2) (dC (.int 1))) (ah (aM eY (aj 2) (dC (.int 2))) aH)))) aH))))) (fH (c8 (a8 bZ (ah (aj 9) (ah (dW (ah (dC (.str "part")) (ah (aM eY (aj 2) (dC (.int 2))) (ah (aM eY (aj 2) (dC (.int 1))) aH)))) aH)))))) (bw (c7 (dC (.bl false)))) bz)
 (bw (c7 (BH (aM (nu false) (aj 3) (aj 1)) (a8 jg (ah (aj 8) (ah (aj 1) (ah (aj 2) aH)))))))))))))
noncomputable def nq:jx:=fun ds G Q _=>∃ (p:Nat) (rows:Rows) (a b:Int) (o u:T2) (t h:Int),ds=[.ref p,enc rows,td (.la a b o u t h)]/\Iu G p (.la a b o u t h)/\BY rows a b o u t h/\Q (.bl true) G
theorem Fs(ds:List D)(G:Gp)(Q:DK)(h:nq ds G Q fun _ _=>False):wo (fun _ _=>False) (ends Q) (aX 10 ds) G:=by
 obtain⟨p,rows,a,b,o,u,t,h,rfl,g,c,q⟩:=h;have d:=c.d;obtain⟨Mx,KY,Wq⟩:=qR d;have db:=Ey c;obtain⟨XD,UU,hb3⟩:=qR db
 let S:Option D->Option D->Option D->Option D->Option D->iP:=fun z1 z2 z3 z4 z5=>[some (.ref p),some (enc rows),some (td (.la a b o u t h)),some (enc rows),some (enc (laid rows a b o u t h)),z1,z2,z3,z4,z5]
 unfold wo;refine bL (fun τ G'=>G=G'/\τ=[some (.ref p),some (enc rows),some (td (.la a b o u t h)),some (enc rows),none,none,none,none,none,none]) ?_ ?_
 ·intro N hN;rw [BG];simp only [bH,hU,↓dw,aj,aX,↓aq,↓aO,↓ag,↓au,a0,↓aB,↓aG,↓ae,↓aa,aI,↓ao,↓ak];exact w9 (by lia) fun G' p' as hr=>hr.fz (hN _ _ ⟨rfl,rfl⟩)
 rintro _ _ ⟨rfl,rfl⟩;refine bL (fun τ G'=>G=G'/\τ=S none none none none none) ?_ ?_
 ·intro N hN;simp only [bH,a8,ah,aj,↓ae,↓aa,aH,aI,↓ao,↓ak];exact⟨rows,a,b,o,u,t,h,rfl,BY.RW c,hN _ _ ⟨rfl,rfl⟩⟩
 rintro _ _ ⟨rfl,rfl⟩;refine bL (fun τ G'=>fy G G'/\∃ z1 z2 z3,τ=S z1 z2 z3 none none) ?_ ?_
 ·intro N hN;simp only [eZ,↓ik,dC,↓gj,ends,S];refine⟨by decide,by decide,?_⟩;refine pz (fun pre τ G'=>fy G G'/\∃ z1 z2 z3,τ=S z1 z2 z3 none none) ⟨.refl _,_,_,_,rfl⟩ (fun _ _ _ _=>trivial) ?_ (fun τ G' h=>hN τ G' h);rintro pre x post τ G1 N1 e ⟨l1,z1,z2,z3,rfl⟩ O3;simp only [↓aI,S,ak,ao];refine bL (fun τ G'=>∃ q as,HR G1 G' q as (laid rows a b o u t h)/\τ=S (some x) (some (.ref q)) z3 none none) ?_ ?_
  ·intro N hN;simp only [bH,fN,aj,↓aa,ah,↓ae,aH,aI,↓ao,↓ak];exact⟨p,_,_,iV,rfl,l1 _ _ g,List.mem_singleton.mpr rfl,rfl,⟨p,a,b,o,u,t,h,rows,rfl,l1 _ _ g,c,fun q' as G' hr=>hN _ _ ⟨q',as,hr,rfl⟩⟩⟩
  rintro _ G2 ⟨q',as,hr,rfl⟩;refine bL (fun τ G'=>G2=G'/\τ=S (some x) (some (.ref q')) z3 none none) ?_ ?_
  ·intro N hN;simp only [cA,uw,fH,↓bI,a8,ah,aj,↓ae,↓aa,aH,bw,c7,dC,bz,↓if_true,aM,S];refine⟨q',as,_,G1,rfl,hr,⟨XD,UU⟩,?_⟩;simp only [↓aN,↓aK,↓ai,↓if_false];refine eD (x:=rows) (y:=rows) (by decide) ?_;simp only [↓aN,decide_true,↓aK,↓if_true,↓ai,↓if_false];exact hN _ _ ⟨rfl,rfl⟩
  rintro _ _ ⟨rfl,rfl⟩;simp only [eZ,↓dw,aj,↓ae,↓aa,S];rw [oO hr.gp];refine RJ hr ⟨XD,UU⟩ (ko rfl) fun lH G' Wf l=>O3 _ _ ⟨l1.trans l,?_⟩;rcases Wf with rfl | ⟨y,rfl⟩
  ·exact⟨_,_,_,rfl⟩
  ·exact⟨_,_,_,rfl⟩
 rintro _ G1 ⟨l1,z1,z2,z3,rfl⟩;refine bL (fun τ G'=>∃ q8,fy G G'/\Iu G' q8 (.pa a b)/\τ=S z1 z2 z3 (some (.ref q8)) none) ?_ ?_
 ·intro N hN;simp only [bH,fN,aj,↓aa,ah,↓ae,aH,aI,↓ao,↓ak,S];exact⟨p,_,_,mh,rfl,l1 _ _ g,List.mem_singleton.mpr rfl,rfl,⟨p,a,b,o,u,t,h,rows,rfl,l1 _ _ g,c,fun q' G' l _ hq=>hN _ _ ⟨q',l1.trans l,hq,rfl⟩⟩⟩
 clear l1;rintro _ G1 ⟨q8,l1,g8,rfl⟩;refine bL (fun τ G'=>G1=G'/\τ=S z1 z2 z3 (some (.ref q8)) (some (td (.pa a b)))) ?_ ?_
 ·intro N hN;simp only [bH,fN,aj,↓ae,↓aa,aH,aI,↓ao,↓ak,S];exact⟨q8,_,_,kW,rfl,g8,List.mem_singleton.mpr rfl,rfl,⟨q8,a,b,rfl,g8,hN _ _ ⟨rfl,rfl⟩⟩⟩
 rintro _ _ ⟨rfl,rfl⟩;refine bL (fun τ G'=>G1=G'/\τ=S z1 z2 z3 (some (.ref q8)) (some (td (.pa a b)))) ?_ ?_
 ·intro N hN;simp only [cA,JQ,fH,↓bI,a8,ah,aj,↓ae,↓aa,dW,dC,aM,aH,↓ag,↓au,bw,c7,ends,bz,↓ai,↓if_false,S];rw [uH];simp only [↓cM,↓DL,↓at2];refine⟨by decide,tells_of (m:=.pa a b) ?_⟩;simp only [↓aN,↓aK,↓ai,↓if_false];exact hN _ _ ⟨rfl,rfl⟩
 rintro _ _ ⟨rfl,rfl⟩;simp only [bw,c7,↓mG,aM,aj,↓ae,↓aa,a8,ah,aH,ends,S];refine eD (x:=rows) (y:=rows) (by decide) ?_;simp only [↓aN,↓ai,decide_true,↓aK,↓if_false,↓if_true];exact⟨q8,rows,a,b,a,b,o,u,t,h,rfl,g8,⟨c,.inl ⟨rfl,rfl⟩⟩,t9 l1 q⟩
end Qc
end K2
end
section
namespace K2
open PySem (Str)
open Enc (enc)
namespace Ir
open K2.P K2.o4
open K2.K3
variable {rows:Rows}
end Ir
end K2
end
section
namespace K2
open PySem (Str)
open Enc (enc)
namespace Ir
open K2.P K2.o4
open K2.K3
variable {rows:Rows}
end Ir
end K2
end
section
namespace K2
open PySem (Str)
open Enc (enc)
namespace Ir
open K2.P K2.o4
open K2.K3
variable {rows:Rows}
theorem xS(df:DF rows.flatten){m:Int}(h:m∉qH rows.flatten):m∉rows.flatten.map (·.a):=fun z=>by
 obtain⟨p,hp,e⟩:=List.mem_map.mp z;refine h ?_;unfold qH;rcases df.way p hp with h0 | h1
 ·exact List.mem_map.mpr ⟨p,List.mem_filter.mpr ⟨hp,by simp [h0]⟩,e⟩
 ·exact List.mem_map.mpr ⟨_,List.mem_filter.mpr ⟨df.zo p hp,by simp [h1]⟩,e⟩
theorem xM(h:rows≠[]):bq rows 0≠[]:=fun z=>by
 have:=LH h 0;have e:=yw rows 0;rw [z] at e;exact this (List.map_eq_nil_iff.mp e)
theorem Em{k:Int}(k1:1<=k)(k3:k<=3){G:Gp}{Q:DK}{τ:iP}(q:∀ G' p as,HR G G' p as (a0 k.toNat [])->Q (.ref p) G') :
  (fj 0 k.toNat).length<=SZ/\kA (aI 0) none (fh aH) (fun _=>True) (fj 0 k.toNat) (fun _ _=>False) (vn 1 [] τ) G [] fun xs G2=>l0 G2 (.lst xs) Q:=by
 refine⟨FJ (by unfold fj; rw [ax,fA]; lia),?_⟩;unfold fj;refine lx (xs:=e7 k.toNat) (fun pre acc τ G'=>(∃ a,τ=[a])/\∃ as:List Nat,acc=as.map D.ref/\HA G G' as (a0 pre.length [])) ⟨⟨_,rfl⟩,[],rfl,.nil G⟩ (fun _ _ _ _ _=>trivial) ?_ ?_
 ·rintro pre x post acc τ G' N e ⟨⟨a,rfl⟩,as,rfl,h⟩ hN;simp only [aI,fh,aH,au,ak];refine⟨by decide,fun p hp=>?_⟩;refine hN _ _ _ ⟨⟨_,rfl⟩,as++[p],by simp,?_⟩;have:=h.push hp [];rw [aL,gB,List.replicate_succ'];exact this
 ·rintro acc τ G' ⟨⟨a,rfl⟩,as,rfl,h⟩ p hp;rw [fA] at h;exact q _ p as (h.top hp)
noncomputable abbrev Yp(s:D)(rows:Rows)(a b c d e f g h i j k l m:Option D):iP:=[some s,some (enc rows),a,b,c,d,e,f,g,h,i,j,k,l,m]
end Ir
end K2
end
section
namespace K2
open PySem (Str)
open Enc (enc)
namespace MX
open K2.P
open K2.Mo hiding bX dQ dR bZ eU eW
open K2.rE (cy)
open K2.o4 (HR iW)
open K2.Ir (gH gL gT cL qH wJ Em xS xM)
open K2.K3 (DF)
theorem nT(rows:Rows):(Ca rows).flatten.Perm (rows.flatten.map fun t=>⟨t.a,t.b,-t.c⟩):=by
 unfold Ca;induction rows with
 | nil=>exact .refl _
 | cons r rows ih =>
  rw [aq,bP,bP,aJ];exact((List.reverse_perm r).map _).append ih
theorem VF(rows:Rows):((Ca rows).flatten.map T3.s).Perm (rows.flatten.map T3.s):=by
 have:=(nT rows).map T3.s;rw [jt] at this;exact this
theorem Ox{rows:Rows}(d:Dr rows):Dr (Ca rows):=by
 have mem:∀ p,p∈(Ca rows).flatten↔∃ t∈rows.flatten,p=⟨t.a,t.b,-t.c⟩:=fun p=>by
  rw [(nT rows).mem_iff,List.mem_map];exact⟨fun ⟨t,h,e⟩=>⟨t,h,e.symm⟩,fun ⟨t,h,e⟩=>⟨t,h,e.symm⟩⟩
 refine⟨(VF rows).nodup_iff.mpr d.nd,?_,?_,?_,?_,?_⟩
 ·intro p hp; obtain⟨t,ht,rfl⟩:=(mem p).mp hp; exact d.way t ht
 ·intro p hp; obtain⟨t,ht,rfl⟩:=(mem p).mp hp; have:=d.hand t ht; show -t.c=1\/-t.c=-1; lia
 ·intro p hp; obtain⟨t,ht,rfl⟩:=(mem p).mp hp; exact(mem _).mpr ⟨_,d.zo t ht,rfl⟩
 ·rw [(nT rows).length_eq,ax]; exact d.zw
 ·unfold Ca; rw [ax]; exact d.str
theorem xR{s:T2}:∀ {rows:Rows} {k:Nat},s∈bq rows k->s∈bq (Ca rows) k
 | [],_,h=>h
 | r :: rows,k,h=>by
  show s∈bC (r.reverse.map fun t=>(⟨t.a,t.b,-t.c⟩:T3)) _++bq (Ca rows) (k+1);rw [bq] at h;rcases List.mem_append.mp h with h | h
  ·refine cZ _ ?_;unfold bC at h ⊢;by_cases hr:r=[]
   ·subst hr; exact h
   ·rw [if_neg hr] at h;rw [if_neg (by simpa using hr),jt];obtain⟨t,ht,e⟩:=List.mem_map.mp h;exact List.mem_map.mpr ⟨t,by simpa using ht,e⟩
  ·exact bN _ (xR h)
end MX
end K2
end
section
namespace K2
open PySem (Str)
open Enc (enc)
namespace Qc
open K2.P
open K2.Mo hiding bX dQ dR bZ eU eW
open K2.rE (cy)
open K2.o4 (HR iW)
open K2.MX (Ca nT Ox xR jK bZ Se Ut)
open K2.Ir (gH gL gT cL qH wJ Em xS xM)
open K2.K3 (DF)
theorem Q4{r r':List T3}{k:Int}{u:T2}(h:(r.map T3.s).Perm (r'.map T3.s))(hu:u∈bC r k):u∈bC r' k:=by
 unfold bC at hu ⊢;by_cases hr:r=[]
 ·subst hr;have:r'=[]:=by
   have:=h.length_eq;simp at this;exact List.eq_nil_of_length_eq_zero this.symm
  rw [this]; exact hu
 ·have TK:r'≠[]:=fun z=>hr (by
   have:=h.length_eq;rw [z] at this;simp at this;exact this)
  rw [if_neg hr] at hu;rw [if_neg TK];exact h.mem_iff.mp hu
theorem QD(s:T2)(ps:List T3)(k:Nat)(r:List T3):((gU s ps k r).map T3.s).Perm ((gU s ps k (r.reverse.map fun t=>(⟨t.a,t.b,-t.c⟩:T3))).map T3.s):=by
 unfold gU;rw [aJ,aJ];refine List.Perm.append_left _ ?_;have e:∀ r:List T3,((r.map fun t=>(⟨t.a,t.b,-t.c⟩:T3)).flatMap (xA s ps)).map T3.s=(r.flatMap (xA s ps)).map T3.s:=fun r=>by
  induction r with
  | nil=>rfl
  | cons p r ih =>
   rw [aq,cO,cO,aJ,aJ,ih];congr 1;unfold xA;show List.map T3.s (if p.s=s then _ else _)=_;split <;> rfl
 rw [e];exact((List.reverse_perm r).symm.flatMap_right _).map _
theorem Ks{s u:T2}{ps:List T3}:∀ (rows:Rows) (k j:Nat),u∈bq (ku s ps rows k) j->u∈bq (ku s ps (Ca rows) k) j
 | [],_,_,h=>h
 | r :: rows,k,j,h=>by
  show u∈bC (gU s ps k (r.reverse.map fun t=>(⟨t.a,t.b,-t.c⟩:T3))) _++bq (ku s ps (Ca rows) (k+1)) (j+1);rcases List.mem_append.mp (show u∈bC (gU s ps k r) _++bq (ku s ps rows (k+1)) (j+1) from h) with h | h
  ·exact cZ _ (Q4 (QD s ps k r) h)
  ·exact bN _ (Ks rows _ _ h)
theorem Rb{rows:Rows}{a b:Int}{o u:T2}{t h:Int}(c:BY rows a b o u t h):BY (Ca rows) a b o u t h :=
 ⟨Ox c.d,by rw [(nT rows).length_eq,ax]; exact c.zw,c.ne,fun p hp=>by
  obtain⟨t,ht,rfl⟩:=List.mem_map.mp ((nT rows).mem_iff.mp hp);exact c.fa t ht,fun p hp=>by
  obtain⟨t,ht,rfl⟩:=List.mem_map.mp ((nT rows).mem_iff.mp hp);exact c.fb t ht,xR c.ho,Ks _ _ _ c.hu,c.hn,c.ht,c.hh⟩
theorem RK{p:T3}:∀ {rows:Rows} {k:Nat},p∈rows.flatten->p.s∈bq rows k
 | r :: rows,k,h=>by
  rw [bq];rcases List.mem_append.mp (by simpa using h:p∈r++rows.flatten) with h | h
  ·refine cZ _ ?_;unfold bC;rw [if_neg (B7 h)];exact List.mem_map.mpr ⟨p,h,rfl⟩
  ·exact bN _ (RK h)
theorem Ss{rows:Rows}{a b:Int}{o:T2}(d:Dr rows)(ho:o∈bq rows 0)(ne:a≠b):C3 rows a b o≠[]:=by
 have:(⟨b,0⟩:T2)∈C3 rows a b o:=by
  rw [D0 (h:=1)];refine⟨RK (p:=⟨b,0,-1⟩) ?_,fun z=>ne (congrArg T2.a z).symm⟩;exact(pY (ps:=oj a b 0 1) d.dn (M8 ho)).mem_iff.mpr (by simp [oj])
 exact B7 this
theorem Qs{rows:Rows}{a b:Int}{o:T2}(d:Dr rows)(ho:o∈bq rows 0):(C3 rows a b o).length<=200:=by
 unfold C3;have h1:=oh (fun s=>!decide (s=(⟨a,0⟩:T2))) (bq (ku o (oj a b 0 1) rows 0) 0);have h2:=qB (ku o (oj a b 0 1) rows 0);obtain⟨k1,k2⟩:=AY (ps:=oj a b 0 1) d ho (by simp [oj]);lia
theorem Oy{rows:Rows}{m:Int}(dr:Dr rows)(hm:m∉qH rows.flatten)(p:T3)(hp:p∈rows.flatten):p.a≠m:=fun e=>hm (by
 rcases dr.way p hp with hb | hb
 ·exact List.mem_map.mpr ⟨p,List.mem_filter.mpr ⟨hp,by simpa using hb⟩,e⟩
 ·have hm':=dr.zo p hp;exact List.mem_map.mpr ⟨_,List.mem_filter.mpr ⟨hm',by simp [hb]⟩,e⟩)
noncomputable def N6:g7 :=
 (bE (Pw 1 (bH (hU 1 [] (rk (aM kJ (dC (.int 1)) (aM sr (a8 cL (ah (aj 0) (ah (dC (.int 0)) aH))) (dC (.int 3))))) (aI 0) none (fh aH)) (aI 1)))
 (bE (eZ (rk (aM sr (a8 cL (ah (aj 0) (ah (dC (.int 1)) aH))) (dC (.int 11)))) (aI 2) (bH (c7 (a8 gT (ah (aj 1) (ah (a8 cL (ah (aj 0) (ah (aM kJ (dC (.int 7)) (aj 2)) aH))) aH)))) (aI 1)))
 (bE (bH (a8 gH (ah (aj 1) aH)) (aI 3))
 (bE (bH (a8 gL (ah (c7 (aj 3)) (ah (c7 (a8 cL (ah (aj 0) (ah (dC (.int 2)) aH)))) aH))) (aI 4))
 (bE (bH (a8 gL (ah (c7 (aM kJ (aj 3) (fh (ah (aj 4) aH)))) (ah (c7 (a8 cL (ah (aj 0) (ah (dC (.int 3)) aH)))) aH))) (aI 5))
 (bE (bH (aM eY (a8 gG (ah (aj 1) aH)) (aM sr (a8 cL (ah (aj 0) (ah (dC (.int 4)) aH))) (ju i7 (ah (a8 gG (ah (aj 1) aH)) aH)))) (aI 6))
 (bE (bH (a8 fM (ah (aj 1) (ah (aj 4) (ah (aj 5) (ah (aj 6) aH))))) (aI 7))
 (bE (bH (aM eY (aj 7) (aM sr (a8 cL (ah (aj 0) (ah (dC (.int 5)) aH))) (ju i7 (ah (aj 7) aH)))) (aI 8))
 (bE (bH (aM sr (a8 cL (ah (aj 0) (ah (dC (.int 6)) aH))) (dC (.int 8))) (aI 9))
 (bE (bH (dW (ah (dC (.str "lay")) (ah (aj 4) (ah (aj 5) (ah (aj 6) (ah (aj 8) (ah (aM sr (aj 9) (dC (.int 2))) (ah (aM QH (dC (.int 1)) (aM Oa (dC (.int 2)) (aM sr (aM AX (aj 9) (dC (.int 2))) (dC (.int 2))))) aH)))))))) (aI 10))
 (bE (bH (fh (ah (aj 1) (ah (a8 jK (ah (aj 1) aH)) (ah (aj 1) aH)))) (aI 11))
 (bE (bH (kH "Lay" fC (ah (aj 4) (ah (aj 5) (ah (aj 6) (ah (aj 8) (ah (aM eY (aj 10) (dC (.int 5))) (ah (aM eY (aj 10) (dC (.int 6))) aH))))))) (aI 12))
 (bE (cA (c8 (aM (nu false) (aM AX (aj 9) (dC (.int 4))) (dC (.int 1)))) (bH (a8 qD (ah (aj 10) aH)) (aI 12)) bz)
 (bE (eZ (ky (aj 11)) (aI 13) (cA (uw (fH (c8 (a8 bZ (ah (fN [("Lay",iU)] "told" (aj 12) aH) (ah (aj 10) aH))))) (fH (c8 (a8 nq (ah (aj 12) (ah (aj 13) (ah (aj 10) aH))))))) (bw (c7 (dC (.bl false)))) bz))
 (bE (eZ (ky (fh (ah (kH "Part" dZ (ah (aj 4) (ah (aj 5) aH))) (ah (kH "Part" dZ (ah (aj 5) (ah (aj 4) aH))) aH)))) (aI 12) (eZ (ky (aj 11)) (aI 13) (cA (fH (c8 (a8 jg (ah (aj 12) (ah (aj 13) (ah (aj 10) aH)))))) (bw (c7 (dC (.bl false)))) bz)))
 (bw (c7 (dC (.bl true)))))))))))))))))))
theorem Uz(ds:List D)(G:Gp)(Q:DK)(h:C7 ds G Q fun _ _=>False):N6 (fun _ _=>False) (ends Q) (aX 14 ds) G:=by
 obtain⟨ns,rfl,hn,g0,q⟩:=h;have cell:∀ (k:Int) (G:Gp) (Q:DK),0<=k->Q (.int (iW ns k)) G->cL [.fJ (ns.map D.int),.int k] G Q fun _ _=>False:=fun k G Q hk h=>⟨ns,k,rfl,hk,h⟩;unfold N6;generalize hs:D.fJ (ns.map D.int)=S at cell ⊢;refine bL (fun τ G'=>G=G'/\∃ n:Nat,1<=n/\n<=3/\τ=[some S,some (enc (a0 n ([]:List T3))),none,none,none,none,none,none,none,none,none,none,none,none]) ?_ ?_
 ·intro N hN;rw [BG];simp only [bH,hU,↓ik,aM,dC,a8,ah,aj,aX,↓aq,↓aO,↓ag,↓au,a0,↓aB,↓aG,↓aa,aH,aI,↓ao,↓ak,↓ae];refine cell 0 _ _ (by decide) ?_;simp only [↓fZ,↓ic,↓gj];have k1:1<=1+iW ns 0 % 3:=by lia
  have k3:1+iW ns 0 % 3<=3:=by lia
  refine⟨by decide,?_⟩;generalize 1+iW ns 0 % 3=k at *;refine⟨by lia,by lia,?_⟩;refine Em k1 k3 fun G' p as hr=>?_;exact hr.fz (hN _ _ ⟨rfl,k.toNat,by lia,by lia,rfl⟩)
 rintro _ _ ⟨rfl,n,n1,n3,rfl⟩;refine bL (fun τ G'=>G=G'/\∃ (rows:Rows) (a:Option D),(Dr rows/\rows≠[]/\rows.flatten.length<=20)/\τ=[some S,some (enc rows),a,none,none,none,none,none,none,none,none,none,none,none]) ?_ ?_
 ·intro N hN;simp only [eZ,↓ik,aM,a8,ah,aj,↓aa,dC,aH,ends];refine cell 1 _ _ (by decide) ?_;simp only [↓fZ,↓gj];have j1:0<=iW ns 1 % 11:=by lia
  have j2:iW ns 1 % 11<=10:=by lia
  refine⟨by decide,?_⟩;generalize iW ns 1 % 11=k at *;refine⟨by lia,by lia,?_⟩;unfold fj;refine gJ (xs:=e7 k.toNat) (fun pre τ G'=>G=G'/\∃ (rows:Rows) (a:Option D),(DF rows.flatten/\rows.flatten.length=2 * pre.length/\rows.length=n)/\τ=[some S,some (enc rows),a,none,none,none,none,none,none,none,none,none,none,none]) ⟨rfl,a0 n [],none,⟨?_,?_,by simp⟩,rfl⟩ (fun _ _ _ _=>trivial) ?_ ?_
  ·have:(a0 n ([]:List T3)).flatten=[]:=by simp
   rw [this];exact⟨lB,(fun p h=>by cases h),(fun p h=>by cases h),(fun p h=>by cases h)⟩
  ·simp
  ·rintro pre x post τ G' N2 e ⟨rfl,rows,a,⟨df,fl,rn⟩,rfl⟩ Bm;have Mt:pre.length < 10:=by
    have:=congrArg dE e;rw [fA,aL,ag] at this; lia
   simp only [aI,bH,c7,a8,ah,aj,↓ao,↓ak,↓ae,↓aa,aM,dC,↓ic,aH];refine cell _ _ _ (by lia) ?_;refine⟨rows,_,rfl,⟨by lia,by lia,by lia⟩,fun yD m hd h1 h2 h3 h4=>?_⟩;refine fD (Bm _ _ ⟨rfl,yD,_,⟨(df.add (xS df h3) h4).perm h2,?_,by lia⟩,rfl⟩);have:=h2.length_eq;rw [ag,ag] at this;rw [aL,gB]; lia
  ·rintro τ G' ⟨rfl,rows,a,⟨df,fl,rn⟩,rfl⟩;rw [fA] at fl;refine hN _ _ ⟨rfl,rows,a,⟨⟨df.nd,df.way,df.hand,df.zo,by lia,by lia⟩,fun z=>?_,by lia⟩,rfl⟩;rw [z,au] at rn; lia
 rintro _ _ ⟨rfl,rows,a2,⟨dr,mz,zw⟩,rfl⟩;have sl:=LG dr;have pos:=List.length_pos_iff.mpr (xM mz);obtain⟨Mx,KY,Wq⟩:=qR dr;have ol:=wJ rows.flatten;refine bL (fun τ G'=>G=G'/\τ=[some S,some (enc rows),a2,some (enc (qH rows.flatten)),none,none,none,none,none,none,none,none,none,none]) ?_ ?_
 ·intro N hN;simp only [bH,a8,ah,aj,↓ae,↓aa,aH,aI,↓ao,↓ak];exact⟨rows,rfl,(show rows.flatten.length<=500 by lia),hN _ _ ⟨rfl,rfl⟩⟩
 rintro _ _ ⟨rfl,rfl⟩;refine bL (fun τ G'=>G=G'/\∃ m:Int,m∉qH rows.flatten/\τ=[some S,some (enc rows),a2,some (enc (qH rows.flatten)),some (.int m),none,none,none,none,none,none,none,none,none]) ?_ ?_
 ·intro N hN;simp only [bH,a8,ah,c7,aj,↓ae,↓aa,dC,aH,aI,↓ao,↓ak];refine fD (cell 2 _ _ (by decide) (fD ⟨qH rows.flatten,_,rfl,by lia,fun m hm _ _=>hN _ _ ⟨rfl,m,hm,rfl⟩⟩))
 rintro _ _ ⟨rfl,m,hm,rfl⟩;refine bL (fun τ G'=>G=G'/\∃ m2:Int,m2∉qH rows.flatten++[m]/\τ=[some S,some (enc rows),a2,some (enc (qH rows.flatten)),some (.int m),some (.int m2),none,none,none,none,none,none,none,none]) ?_ ?_
 ·intro N hN;simp only [bH,a8,ah,c7,aM,aj,↓ae,↓aa,fh,aH,↓ag,↓au,dC,aI,↓ao,↓ak];refine⟨by decide,fun p hp=>?_⟩;refine tW (IsL.enc _) (.ref aC) (FJ (by simp only [ax,ag,au]; lia)) fun p2 pP=>?_;refine kz (xs:=qH rows.flatten++[m]) ((fy.new hp).trans (.new pP)) ((fy.new hp).free pP) (by rw [aJ]; exact aC) ?_;refine cell 3 _ _ (by decide) (fD ⟨qH rows.flatten++[m],_,rfl,by rw [aL,gB]; lia,fun m hm _ _=>hN _ _ ⟨rfl,m,hm,rfl⟩⟩)
 rintro _ _ ⟨rfl,m2,US,rfl⟩;have Mw:m≠m2:=fun z=>US (by rw [z]; simp);have US:m2∉qH rows.flatten:=fun z=>US (cZ _ z);refine bL (fun τ G'=>G=G'/\∃ s,s∈bq rows 0/\τ=[some S,some (enc rows),a2,some (enc (qH rows.flatten)),some (.int m),some (.int m2),some (enc s),none,none,none,none,none,none,none]) ?_ ?_
 ·intro N hN;simp only [bH,aM,a8,ah,aj,↓ae,↓aa,aH,dC,ju,aI,↓ao,↓ak];refine⟨rows,rfl,⟨by have:=dr.str; lia,by lia⟩,cell 4 _ _ (by decide) ⟨rows,rfl,⟨by have:=dr.str; lia,by lia⟩,?_⟩⟩;refine gZ (IsL.enc _) ?_;rw [ax];simp only [↓fZ];have i1:0<=iW ns 4 % ((bq rows 0).length:Int):=xH _ (by lia);have i2:iW ns 4 % ((bq rows 0).length:Int) < (bq rows 0).length:=rM _ (by lia);refine⟨by lia,?_⟩;generalize iW ns 4 % ((bq rows 0).length:Int)=i at *;refine hV (IsL.enc _) (x:=enc ((bq rows 0)[i.toNat]'(by lia))) ?_ (hN _ _ ⟨rfl,_,fg _,rfl⟩);rw [gm _ i1 (by rw [ax]; exact i2),dI]
 rintro _ _ ⟨rfl,s,Jt,rfl⟩;have ul:=Qs (a:=m) (b:=m2) dr Jt;have acz:=List.length_pos_iff.mpr (Ss dr Jt Mw);refine bL (fun τ G'=>G=G'/\τ=[some S,some (enc rows),a2,some (enc (qH rows.flatten)),some (.int m),some (.int m2),some (enc s),some (enc (C3 rows m m2 s)),none,none,none,none,none,none]) ?_ ?_
 ·intro N hN;simp only [bH,a8,ah,aj,↓ae,↓aa,aH,aI,↓ao,↓ak];exact⟨rows,m,m2,s,rfl,⟨dr,Jt⟩,hN _ _ ⟨rfl,rfl⟩⟩
 rintro _ _ ⟨rfl,rfl⟩;refine bL (fun τ G'=>G=G'/\∃ u,u∈C3 rows m m2 s/\τ=[some S,some (enc rows),a2,some (enc (qH rows.flatten)),some (.int m),some (.int m2),some (enc s),some (enc (C3 rows m m2 s)),some (enc u),none,none,none,none,none]) ?_ ?_
 ·intro N hN;simp only [bH,aM,aj,↓ae,↓aa,a8,ah,dC,aH,ju,aI,↓ao,↓ak];refine cell 5 _ _ (by decide) ?_;refine gZ (IsL.enc _) ?_;rw [ax];simp only [↓fZ];have i1:0<=iW ns 5 % ((C3 rows m m2 s).length:Int):=xH _ (by lia);have i2:iW ns 5 % ((C3 rows m m2 s).length:Int) < (C3 rows m m2 s).length:=rM _ (by lia);refine⟨by lia,?_⟩;generalize iW ns 5 % ((C3 rows m m2 s).length:Int)=i at *;refine hV (IsL.enc _) (x:=enc ((C3 rows m m2 s)[i.toNat]'(by lia))) ?_ (hN _ _ ⟨rfl,_,fg _,rfl⟩);rw [gm _ i1 (by rw [ax]; exact i2),dI]
 rintro _ _ ⟨rfl,u,Zz,rfl⟩;refine bL (fun τ G'=>G=G'/\∃ v:Int,0<=v/\v < 8/\τ=[some S,some (enc rows),a2,some (enc (qH rows.flatten)),some (.int m),some (.int m2),some (enc s),some (enc (C3 rows m m2 s)),some (enc u),some (.int v),none,none,none,none]) ?_ ?_
 ·intro N hN;simp only [bH,aM,a8,ah,aj,↓aa,dC,aH,aI,↓ao,↓ak];refine cell 6 _ _ (by decide) ?_;simp only [↓fZ];exact⟨by decide,hN _ _ ⟨rfl,iW ns 6 % 8,by lia,by lia,rfl⟩⟩
 rintro _ _ ⟨rfl,v,v0,v8,rfl⟩;refine bL (fun τ G'=>G=G'/\∃ t h:Int,(t=0\/t=1)/\(h=1\/h=-1)/\τ=[some S,some (enc rows),a2,some (enc (qH rows.flatten)),some (.int m),some (.int m2),some (enc s),some (enc (C3 rows m m2 s)),some (enc u),some (.int v),some (td (.la m m2 s u t h)),none,none,none]) ?_ ?_
 ·intro N hN;simp only [bH,dW,ah,dC,aj,↓ae,↓aa,aM,↓fZ,↓jN,↓nR,↓pV,aH,↓ag,↓au,aI,↓ao,↓ak];refine⟨by decide,by decide,by decide,by decide,.inl ⟨by decide,by decide⟩,by decide,?_⟩;exact hN _ _ ⟨rfl,v % 2,1 - 2 * (v / 2 % 2),by lia,by lia,rfl⟩
 rintro _ _ ⟨rfl,t,h,ht,hh,rfl⟩;obtain⟨hu,UR⟩:=(D0 (h:=h)).mp Zz;have c:BY rows m m2 s u t h:=⟨dr,zw,Mw,Oy dr hm,Oy dr US,Jt,hu,UR,ht,hh⟩;have co:=Rb c
 let T:D->Option D->Option D->iP:=fun p9 a b=>[some S,some (enc rows),a2,some (enc (qH rows.flatten)),some (.int m),some (.int m2),some (enc s),some (enc (C3 rows m m2 s)),some (enc u),some (.int v),some (td (.la m m2 s u t h)),some p9,a,b]
 have each:∀ x∈[(enc rows:D),enc (Ca rows),enc rows],∃ oH:Rows,x=enc oH/\BY oH m m2 s u t h:=fun x hx=>by
  simp only [dD,cR,or_false] at hx;rcases hx with rfl | rfl | rfl
  ·exact⟨rows,rfl,c⟩
  ·exact⟨Ca rows,rfl,co⟩
  ·exact⟨rows,rfl,c⟩
 refine bL (fun τ G'=>∃ p9,G' p9=some (.lst [enc rows,enc (Ca rows),enc rows])/\τ=T (.ref p9) none none) ?_ ?_
 ·intro N hN;simp only [bH,fh,ah,aj,↓ae,↓aa,a8,aH,↓ag,↓au,aI,↓ao,↓ak];exact⟨rows,rfl,⟨Mx,KY⟩,by decide,fun p9 hp9=>hN _ _ ⟨p9,aC,rfl⟩⟩
 rintro _ G9 ⟨p9,g9,rfl⟩;refine bL (fun τ G'=>∃ p1,fy G9 G'/\Iu G' p1 (.la m m2 s u t h)/\τ=T (.ref p9) (some (.ref p1)) none) ?_ ?_
 ·intro N hN;simp only [bH,kH,ah,aj,↓ae,↓aa,aM,dC,aH,aI,↓ao,↓ak,T];rw [uH];simp only [↓cM,↓at5,↓XM];refine fun p1 KW=>⟨p1,m,m2,s,u,t,h,rfl,aC,rfl,?_⟩;rw [uo];exact hN _ _ ⟨p1,.new KW,aC,rfl⟩
 rintro _ GA ⟨p1,lA,b1,rfl⟩;refine bL (fun τ G'=>∃ p1,fy G9 G'/\Iu G' p1 (.la m m2 s u t h)/\τ=T (.ref p9) (some (.ref p1)) none) ?_ ?_
 ·intro N hN;simp only [cA,↓bI,aM,aj,↓ae,↓aa,dC,↓jN,bH,a8,ah,aH,aI,↓ao,↓ak,bz,T];refine⟨by decide,by decide,?_⟩;refine eD (x:=v / 4) (y:=(1:Int)) (by decide) ?_;simp only [↓aN,↓ai,↓if_false];split
  ·refine⟨.la m m2 s u t h,rfl,fun p2 pP=>hN _ _ ⟨p2,lA.trans (.new pP),aC,rfl⟩⟩
  ·exact hN _ _ ⟨p1,lA,b1,rfl⟩
 clear lA b1;rintro _ GA ⟨p,L,ap,rfl⟩;refine bL (fun τ G'=>fy GA G'/\∃ b,τ=T (.ref p9) (some (.ref p)) b) ?_ ?_
 ·intro N hN;simp only [eZ,↓dw,aj,↓ae,↓aa,ends,T];rw [oO (L _ _ g9)];refine pz (fun pr τ G'=>fy GA G'/\∃ b,τ=T (.ref p9) (some (.ref p)) b) ⟨.refl _,_,rfl⟩ (fun _ _ _ h=>h.1 _ _ (L _ _ g9)) ?_ (fun τ G' h=>hN _ _ ⟨h.1,h.2⟩);rintro pr y po τ G6 N2 e2 ⟨l6,z3,rfl⟩ Bm;obtain⟨oH,rfl,c'⟩:=each y (by rw [e2]; simp);simp only [aI,cA,uw,fH,↓bI,a8,ah,fN,aj,↓ao,↓ak,↓ae,↓aa,aH,bw,c7,dC,bz,↓if_true,T];refine⟨p,_,_,iU,rfl,l6 _ _ ap,List.mem_singleton.mpr rfl,rfl,⟨p,m,m2,s,u,t,h,rfl,l6 _ _ ap,?_⟩⟩;refine tells_of ?_;simp only [↓aN,↓aK,↓ai,↓if_false];refine⟨p,oH,m,m2,s,u,t,h,rfl,l6 _ _ ap,c',?_⟩;simp only [↓aN,↓aK,↓ai,↓if_false];exact Bm _ _ ⟨l6,_,rfl⟩
 rintro _ G2 ⟨l2,z,rfl⟩;refine bL (fun τ G'=>True) ?_ ?_
 ·intro N hN;simp only [eZ,↓dw,fh,ah,kH,aj,↓ae,↓aa,aH,↓ag,↓au,ends,T];refine fun p1 KW=>⟨p1,m,m2,rfl,aC,rfl,?_⟩;rw [uo];refine fun p2 pP=>⟨p2,m2,m,rfl,aC,rfl,?_⟩;rw [uo];refine⟨by decide,fun pl u0=>?_⟩;have l1:=fy.new (o:=ob (.pa m m2)) KW;have l2':=fy.new (o:=ob (.pa m2 m)) pP;have l3:=fy.new (o:=.lst [.ref p1,.ref p2]) u0;have b1:=l3 _ _ (l2' _ _ (aC (G:=G2) (a:=p1) (o:=ob (.pa m m2))));have b2:=l3 _ _ (aC (G:=cW G2 p1 (ob (.pa m m2))) (a:=p2) (o:=ob (.pa m2 m)));have b3:=aC (G:=cW (cW G2 p1 (ob (.pa m m2))) p2 (ob (.pa m2 m))) (a:=pl) (o:=.lst [.ref p1,.ref p2]);have LL:=((L.trans l2).trans (l1.trans l2')).trans l3;generalize cW (cW (cW G2 p1 (ob (.pa m m2))) p2 (ob (.pa m2 m))) pl (.lst [.ref p1,.ref p2])=GB at b1 b2 b3 LL ⊢;rw [oO b3];refine pz (fun pre τ G'=>fy GB G'/\∃ a b,τ=T (.ref p9) a b) ⟨.refl _,_,_,rfl⟩ (fun _ _ _ h=>h.1 _ _ b3) ?_ (fun τ G' h=>hN _ _ trivial);rintro pre x post τ G5 N1 e ⟨l5,z1,z2,rfl⟩ O3;have hx:∃ p x' y',x=.ref p/\Iu GB p (.pa x' y')/\((x'=m/\y'=m2)\/(x'=m2/\y'=m)):=by
   have:x∈[D.ref p1,D.ref p2]:=by rw [e]; simp
   simp only [dD,cR,or_false] at this;rcases this with rfl | rfl
   ·exact⟨p1,m,m2,rfl,b1,.inl ⟨rfl,rfl⟩⟩
   ·exact⟨p2,m2,m,rfl,b2,.inr ⟨rfl,rfl⟩⟩
  obtain⟨p',x',y',rfl,ap',nm⟩:=hx;simp only [aI,eZ,↓dw,aj,↓ao,↓ak,↓ae,↓aa,T];rw [oO (l5 _ _ (LL _ _ g9))];refine pz (fun pr τ G'=>fy GB G'/\∃ b,τ=T (.ref p9) (some (.ref p')) b) ⟨l5,_,rfl⟩ (fun _ _ _ h=>h.1 _ _ (LL _ _ g9)) ?_ (fun τ G' h=>O3 _ _ ⟨h.1,_,h.2⟩);rintro pr y po τ G6 N2 e2 ⟨l6,z3,rfl⟩ Bm;obtain⟨oH,rfl,c'⟩:=each y (by rw [e2]; simp);simp only [aI,cA,fH,↓bI,a8,ah,aj,↓ao,↓ak,↓ae,↓aa,aH,bw,c7,dC,bz,T];refine⟨p',oH,x',y',m,m2,s,u,t,h,rfl,l6 _ _ ap',⟨c',nm⟩,?_⟩;simp only [↓aN,↓aK,↓ai,↓if_false];exact Bm _ _ ⟨l6,_,rfl⟩
 ·rintro τ G' _;simp only [bw,c7,dC,ends];exact fD (q _)
end Qc
end K2
end
namespace Fin
open PySem PySem.Spec PyProof.Rows L2 K2
open K2.MX (iA BU eS xn jK xk ib za kF zc bX dR bZ eW)
open K2.Qc
open K2.Ir (cL tF kT xm gH xl gL zb gT tE)
open K2.K3 (iS y9)
open K2.Af (pR DO bR tD)
open K2.Mo hiding bX dQ dR bZ eU eW
open K2.P
noncomputable def top(i:Nat):Stmt:=PySem.Challenge.pw_knotwise_k22_lays_there_and_back.main.body.getD i (.Pass ⟨0,0,0,0⟩)
noncomputable def kc(i j:Nat):Stmt:=match top i with | .ClassDef _ _ _ b _ _ _ _ _ _ _=>b.getD j (.Pass ⟨0,0,0,0⟩) | s=>s
section
open PySem.W PySem.Calls
noncomputable def hC (n:Str) (t:Nat) (l:List Value):Obj:=⟨.type "code",none,.fields (.str n t :: .str n (t+1) :: .str "/claim/cut.py" (t+2) :: l).toArray,#[]⟩
noncomputable def hI(n:Int):Value:=.int n 0
noncomputable def hR(n:Nat):Value:=.ref n
noncomputable def hN:Value:=.none
noncomputable def hT:Value:=.bool true
noncomputable def hS (n:Nat):Value:=.str "/claim/cut.py" n
noncomputable def hD(n:Str)(t:Nat)(l a:Int)(r:Nat)(x y z:Value)(u:Nat):Obj:=hC n t [hI l,hI a,hI 0,hI 0,hI 3,hR r,hT,hI 181,hR (r+1),hN,x,y,z,hI (u - 1),hI l,hS u]
noncomputable abbrev hF (i:Nat) (n:Str) (m c:Value):Obj:=⟨.type "function",none,.func (jW n n (kn (top i)) (i4 (top i)) (aW (top i)) .none .none .none m none c .none),#[]⟩
noncomputable abbrev hM (i j:Nat) (n q:Str) (m c:Value):Obj:=⟨.type "function",none,.func (jW n q (kn (kc i j)) (i4 (kc i j)) (aW (kc i j)) .none .none .none m none c .none),#[]⟩
noncomputable abbrev hE(P:nH)(s:Str)(t:Nat)(v:Value):DictEntry:=⟨PyData.keyHash P s,.str s t,v⟩
noncomputable def hQ:bU:=PySem.W.view PySem.Challenge.pw_knotwise_k22_lays_there_and_back [1,2,3,4,5,6,7,9,10,11,12,13,14,15,16,17,19,20,21,22,23,24,26,27,28,29,30,31,32,33,34,35,36,37,38,39,40,41,43,44,45,46,47,48,49,50,51,52,53,54,55,56,57,58,59,60,61,62]
noncomputable def hK (P:nH):aw:=(nat_lit 3,⟨(.type "dict"),none,(.dict #[hE P "__name__" 165 (.str "law_knotwise_k22_lays_there_and_back" 891),hE P "__doc__" 166 .none,hE P "__package__" 167 .none,hE P "__loader__" 168 (.builtin "__main__.__loader__#opaque"),hE P "__spec__" 169 .none,hE P "__annotations__" 170 (.ref 6),hE P "__builtins__" 171 (.ref 4),hE P "__file__" 173 (.str "/claim/cut.py" 172),hE P "__cached__" 174 .none,hE P "KnotError" 206 (.ref 24),hE P "NoName" 222 (.ref 37),hE P "NameTaken" 238 (.ref 49),hE P "NoSpot" 254 (.ref 61),hE P "TooMany" 270 (.ref 73),hE P "NoFit" 286 (.ref 85),hE P "NoMove" 302 (.ref 97),hE P "MOST_CROSSINGS" 306 (.int 12 305),hE P "passings_of" 315 (.ref 106),hE P "seated" 323 (.ref 113),hE P "seated_rows" 329 (.ref 118),hE P "names_of" 335 (.ref 123),hE P "hand_of" 344 (.ref 130),hE P "spots_on" 350 (.ref 135),hE P "next_of" 361 (.ref 142),hE P "string_of" 371 (.ref 149),hE P "neighbours" 382 (.ref 156),hE P "uncurl_fits" 390 (.ref 163),hE P "part_fits" 400 (.ref 170),hE P "in_turn" 409 (.ref 177),hE P "slide_pairs" 423 (.ref 184),hE P "slide_fits" 429 (.ref 189),hE P "refuse_unknown" 441 (.ref 196),hE P "refuse_unfit" 448 (.ref 203),hE P "refuse_new" 458 (.ref 210),hE P "with_put" 470 (.ref 217),hE P "taken_out" 476 (.ref 222),hE P "spot_ahead" 482 (.ref 227),hE P "first_in_turn" 492 (.ref 234),hE P "with_changed" 498 (.ref 239),hE P "renamed_spot" 506 (.ref 246),hE P "Move" 526 (.ref 256),hE P "Uncurl" 594 (.ref 312),hE P "Curl" 657 (.ref 359),hE P "Part" 731 (.ref 413),hE P "Lay" 811 (.ref 467),hE P "Slide" 883 (.ref 521),hE P "move_of" 890 (.ref 530),hE P "_law_cell_at" 900 (.ref 537),hE P "_law_whole" 907 (.ref 544),hE P "_law_mixed" 914 (.ref 551),hE P "_law_names" 924 (.ref 558),hE P "_law_free" 933 (.ref 565),hE P "_law_crossed" 939 (.ref 570),hE P "_law_spots" 949 (.ref 577),hE P "_law_put" 962 (.ref 584),hE P "_law_begun" 972 (.ref 591),hE P "_law_wholes" 981 (.ref 598),hE P "_law_same" 991 (.ref 605),hE P "_law_tells" 1000 (.ref 612),hE P "_law_form" 1010 (.ref 619),hE P "_law_laid" 1020 (.ref 626),hE P "_law_under_spots" 1026 (.ref 631),hE P "_law_lays_to" 1036 (.ref 638),hE P "_law_there" 1042 (.ref 643),hE P "_law_parted" 1048 (.ref 648),hE P "_law_other" 1054 (.ref 653),hE P "law" 1060 (.ref 658)] 67),#[]⟩) ::
(nat_lit 15,⟨(.type "tuple"),none,(.seq #[(.type "ValueError")] 0),#[]⟩) ::
(nat_lit 22,⟨(.type "tuple"),none,(.seq #[] 0),#[]⟩) ::
(nat_lit 23,⟨(.type "dict"),none,(.dict #[hE P "__module__" 196 (.str "knotwise.errors" 187),hE P "__firstlineno__" 200 (.int 2 199),hE P "__static_attributes__" 201 (.ref 22),hE P "__weakref__" 203 (.ref 25),hE P "__doc__" 204 .none] 3),#[]⟩) ::
(nat_lit 24,⟨(.type "type"),none,(.cls ⟨"KnotError",[(.type "ValueError")],[(.ref 24),(.type "ValueError"),(.type "Exception"),(.type "BaseException"),(.type "object")],23,"KnotError",.true,[],[(.ref 37),(.ref 49),(.ref 61),(.ref 73),(.ref 85),(.ref 97)],.false,none,.false⟩),#[(some (.ref 15)),none,(some (.str "KnotError" 189)),(some (.str "KnotError" 197)),(some (.builtin "ValueError.__new__")),(some (.bool .true))]⟩) ::
(nat_lit 25,⟨(.type "getset_descriptor"),none,(.fields #[(.str "__weakref__" 202),(.ref 24),(.builtin "ExceptionGroup.__weakref__"),.none]),#[]⟩) ::
(nat_lit 28,⟨(.type "tuple"),none,(.seq #[(.ref 24)] 0),#[]⟩) ::
(nat_lit 35,⟨(.type "tuple"),none,(.seq #[] 0),#[]⟩) ::
(nat_lit 36,⟨(.type "dict"),none,(.dict #[hE P "__module__" 214 (.str "knotwise.errors" 187),hE P "__firstlineno__" 218 (.int 4 217),hE P "__static_attributes__" 219 (.ref 35),hE P "__doc__" 220 .none] 2),#[]⟩) ::
(nat_lit 37,⟨(.type "type"),none,(.cls ⟨"NoName",[(.ref 24)],[(.ref 37),(.ref 24),(.type "ValueError"),(.type "Exception"),(.type "BaseException"),(.type "object")],36,"NoName",.true,[],[],.false,none,.false⟩),#[(some (.ref 28)),none,(some (.str "NoName" 207)),(some (.str "NoName" 215)),(some (.builtin "ValueError.__new__")),(some (.bool .true))]⟩) ::
(nat_lit 40,⟨(.type "tuple"),none,(.seq #[(.ref 24)] 0),#[]⟩) ::
(nat_lit 47,⟨(.type "tuple"),none,(.seq #[] 0),#[]⟩) ::
(nat_lit 48,⟨(.type "dict"),none,(.dict #[hE P "__module__" 230 (.str "knotwise.errors" 187),hE P "__firstlineno__" 234 (.int 6 233),hE P "__static_attributes__" 235 (.ref 47),hE P "__doc__" 236 .none] 2),#[]⟩) ::
(nat_lit 49,⟨(.type "type"),none,(.cls ⟨"NameTaken",[(.ref 24)],[(.ref 49),(.ref 24),(.type "ValueError"),(.type "Exception"),(.type "BaseException"),(.type "object")],48,"NameTaken",.true,[],[],.false,none,.false⟩),#[(some (.ref 40)),none,(some (.str "NameTaken" 223)),(some (.str "NameTaken" 231)),(some (.builtin "ValueError.__new__")),(some (.bool .true))]⟩) ::
(nat_lit 52,⟨(.type "tuple"),none,(.seq #[(.ref 24)] 0),#[]⟩) ::
(nat_lit 59,⟨(.type "tuple"),none,(.seq #[] 0),#[]⟩) ::
(nat_lit 60,⟨(.type "dict"),none,(.dict #[hE P "__module__" 246 (.str "knotwise.errors" 187),hE P "__firstlineno__" 250 (.int 8 249),hE P "__static_attributes__" 251 (.ref 59),hE P "__doc__" 252 .none] 2),#[]⟩) ::
(nat_lit 61,⟨(.type "type"),none,(.cls ⟨"NoSpot",[(.ref 24)],[(.ref 61),(.ref 24),(.type "ValueError"),(.type "Exception"),(.type "BaseException"),(.type "object")],60,"NoSpot",.true,[],[],.false,none,.false⟩),#[(some (.ref 52)),none,(some (.str "NoSpot" 239)),(some (.str "NoSpot" 247)),(some (.builtin "ValueError.__new__")),(some (.bool .true))]⟩) ::
(nat_lit 64,⟨(.type "tuple"),none,(.seq #[(.ref 24)] 0),#[]⟩) ::
(nat_lit 71,⟨(.type "tuple"),none,(.seq #[] 0),#[]⟩) ::
(nat_lit 72,⟨(.type "dict"),none,(.dict #[hE P "__module__" 262 (.str "knotwise.errors" 187),hE P "__firstlineno__" 266 (.int 10 265),hE P "__static_attributes__" 267 (.ref 71),hE P "__doc__" 268 .none] 2),#[]⟩) ::
(nat_lit 73,⟨(.type "type"),none,(.cls ⟨"TooMany",[(.ref 24)],[(.ref 73),(.ref 24),(.type "ValueError"),(.type "Exception"),(.type "BaseException"),(.type "object")],72,"TooMany",.true,[],[],.false,none,.false⟩),#[(some (.ref 64)),none,(some (.str "TooMany" 255)),(some (.str "TooMany" 263)),(some (.builtin "ValueError.__new__")),(some (.bool .true))]⟩) ::
(nat_lit 76,⟨(.type "tuple"),none,(.seq #[(.ref 24)] 0),#[]⟩) ::
(nat_lit 83,⟨(.type "tuple"),none,(.seq #[] 0),#[]⟩) ::
(nat_lit 84,⟨(.type "dict"),none,(.dict #[hE P "__module__" 278 (.str "knotwise.errors" 187),hE P "__firstlineno__" 282 (.int 12 281),hE P "__static_attributes__" 283 (.ref 83),hE P "__doc__" 284 .none] 2),#[]⟩) ::
(nat_lit 85,⟨(.type "type"),none,(.cls ⟨"NoFit",[(.ref 24)],[(.ref 85),(.ref 24),(.type "ValueError"),(.type "Exception"),(.type "BaseException"),(.type "object")],84,"NoFit",.true,[],[],.false,none,.false⟩),#[(some (.ref 76)),none,(some (.str "NoFit" 271)),(some (.str "NoFit" 279)),(some (.builtin "ValueError.__new__")),(some (.bool .true))]⟩) ::
(nat_lit 88,⟨(.type "tuple"),none,(.seq #[(.ref 24)] 0),#[]⟩) ::
(nat_lit 95,⟨(.type "tuple"),none,(.seq #[] 0),#[]⟩) ::
(nat_lit 96,⟨(.type "dict"),none,(.dict #[hE P "__module__" 294 (.str "knotwise.errors" 187),hE P "__firstlineno__" 298 (.int 14 297),hE P "__static_attributes__" 299 (.ref 95),hE P "__doc__" 300 .none] 2),#[]⟩) ::
(nat_lit 97,⟨(.type "type"),none,(.cls ⟨"NoMove",[(.ref 24)],[(.ref 97),(.ref 24),(.type "ValueError"),(.type "Exception"),(.type "BaseException"),(.type "object")],96,"NoMove",.true,[],[],.false,none,.false⟩),#[(some (.ref 88)),none,(some (.str "NoMove" 287)),(some (.str "NoMove" 295)),(some (.builtin "ValueError.__new__")),(some (.bool .true))]⟩) ::
(nat_lit 105,hD "passings_of" 307 18 1 100 (hR 102) (hR 103) (hR 104) 314) ::
(nat_lit 106,hF 10 "passings_of" (.str "knotwise.drawings" 303) (.ref 105)) ::
(nat_lit 112,hD "seated" 316 23 1 107 (hR 109) (hR 110) (hR 111) 322) ::
(nat_lit 113,hF 11 "seated" (.str "knotwise.drawings" 303) (.ref 112)) ::
(nat_lit 117,hD "seated_rows" 324 28 1 114 hN hN (hR 116) 328) ::
(nat_lit 118,hF 12 "seated_rows" (.str "knotwise.drawings" 303) (.ref 117)) ::
(nat_lit 122,hD "names_of" 330 30 1 119 hN hN (hR 121) 334) ::
(nat_lit 123,hF 13 "names_of" (.str "knotwise.drawings" 303) (.ref 122)) ::
(nat_lit 129,hD "hand_of" 336 32 2 124 (hR 126) (hR 127) (hR 128) 343) ::
(nat_lit 130,hF 14 "hand_of" (.str "knotwise.drawings" 303) (.ref 129)) ::
(nat_lit 134,hD "spots_on" 345 37 2 131 hN hN (hR 133) 349) ::
(nat_lit 135,hF 15 "spots_on" (.str "knotwise.drawings" 303) (.ref 134)) ::
(nat_lit 141,hD "next_of" 351 41 1 136 (hR 138) (hR 139) (hR 140) 360) ::
(nat_lit 142,hF 16 "next_of" (.str "knotwise.drawings" 303) (.ref 141)) ::
(nat_lit 148,hD "string_of" 362 47 2 143 (hR 145) (hR 146) (hR 147) 370) ::
(nat_lit 149,hF 17 "string_of" (.str "knotwise.drawings" 303) (.ref 148)) ::
(nat_lit 155,hD "neighbours" 374 53 3 150 (hR 152) (hR 153) (hR 154) 381) ::
(nat_lit 156,hF 19 "neighbours" (.str "knotwise.fits" 372) (.ref 155)) ::
(nat_lit 162,hD "uncurl_fits" 383 55 2 157 (hR 159) (hR 160) (hR 161) 389) ::
(nat_lit 163,hF 20 "uncurl_fits" (.str "knotwise.fits" 372) (.ref 162)) ::
(nat_lit 169,hD "part_fits" 391 57 3 164 (hR 166) (hR 167) (hR 168) 399) ::
(nat_lit 170,hF 21 "part_fits" (.str "knotwise.fits" 372) (.ref 169)) ::
(nat_lit 176,hD "in_turn" 401 62 3 171 (hR 173) (hR 174) (hR 175) 408) ::
(nat_lit 177,hF 22 "in_turn" (.str "knotwise.fits" 372) (.ref 176)) ::
(nat_lit 183,hD "slide_pairs" 410 66 5 178 (hR 180) (hR 181) (hR 182) 422) ::
(nat_lit 184,hF 23 "slide_pairs" (.str "knotwise.fits" 372) (.ref 183)) ::
(nat_lit 188,hD "slide_fits" 424 71 5 185 hN hN (hR 187) 428) ::
(nat_lit 189,hF 24 "slide_fits" (.str "knotwise.fits" 372) (.ref 188)) ::
(nat_lit 195,hD "refuse_unknown" 432 77 2 190 (hR 192) (hR 193) (hR 194) 440) ::
(nat_lit 196,hF 26 "refuse_unknown" (.str "knotwise.moves" 430) (.ref 195)) ::
(nat_lit 202,hD "refuse_unfit" 442 82 1 197 (hR 199) (hR 200) (hR 201) 447) ::
(nat_lit 203,hF 27 "refuse_unfit" (.str "knotwise.moves" 430) (.ref 202)) ::
(nat_lit 209,hD "refuse_new" 449 85 2 204 (hR 206) (hR 207) (hR 208) 457) ::
(nat_lit 210,hF 28 "refuse_new" (.str "knotwise.moves" 430) (.ref 209)) ::
(nat_lit 216,hD "with_put" 459 93 3 211 (hR 213) (hR 214) (hR 215) 469) ::
(nat_lit 217,hF 29 "with_put" (.str "knotwise.moves" 430) (.ref 216)) ::
(nat_lit 221,hD "taken_out" 471 99 2 218 hN hN (hR 220) 475) ::
(nat_lit 222,hF 30 "taken_out" (.str "knotwise.moves" 430) (.ref 221)) ::
(nat_lit 226,hD "spot_ahead" 477 104 3 223 hN hN (hR 225) 481) ::
(nat_lit 227,hF 31 "spot_ahead" (.str "knotwise.moves" 430) (.ref 226)) ::
(nat_lit 233,hD "first_in_turn" 483 112 4 228 (hR 230) (hR 231) (hR 232) 491) ::
(nat_lit 234,hF 32 "first_in_turn" (.str "knotwise.moves" 430) (.ref 233)) ::
(nat_lit 238,hD "with_changed" 493 116 2 235 hN hN (hR 237) 497) ::
(nat_lit 239,hF 33 "with_changed" (.str "knotwise.moves" 430) (.ref 238)) ::
(nat_lit 245,hD "renamed_spot" 499 126 2 240 (hR 242) (hR 243) (hR 244) 505) ::
(nat_lit 246,hF 34 "renamed_spot" (.str "knotwise.moves" 430) (.ref 245)) ::
(nat_lit 254,⟨(.type "tuple"),none,(.seq #[] 0),#[]⟩) ::
(nat_lit 255,⟨(.type "dict"),none,(.dict #[hE P "__module__" 514 (.str "knotwise.moves" 430),hE P "__firstlineno__" 518 (.int 130 517),hE P "__static_attributes__" 519 (.ref 254),hE P "__dict__" 521 (.ref 257),hE P "__weakref__" 523 (.ref 258),hE P "__doc__" 524 .none] 4),#[]⟩) ::
(nat_lit 256,⟨(.type "type"),none,(.cls ⟨"Move",[(.type "object")],[(.ref 256),(.type "object")],255,"Move",.true,[],[(.ref 312),(.ref 359),(.ref 413),(.ref 467),(.ref 521)],.false,none,.false⟩),#[none,none,(some (.str "Move" 507)),(some (.str "Move" 515)),(some (.builtin "object.__new__")),(some (.bool .true))]⟩) ::
(nat_lit 257,⟨(.type "getset_descriptor"),none,(.fields #[(.str "__dict__" 520),(.ref 256),(.builtin "function.__dict__"),(.builtin "function.__dict__#set")]),#[]⟩) ::
(nat_lit 258,⟨(.type "getset_descriptor"),none,(.fields #[(.str "__weakref__" 522),(.ref 256),(.builtin "ExceptionGroup.__weakref__"),.none]),#[]⟩) ::
(nat_lit 261,⟨(.type "tuple"),none,(.seq #[(.ref 256)] 0),#[]⟩) ::
(nat_lit 273,⟨(.type "code"),none,(.fields #[(.str "__init__" 539),(.str "Uncurl.__init__" 540),(.str "/claim/cut.py" 541),(.int 134 0),(.int 2 0),(.int 0 0),(.int 0 0),(.int 3 0),(.ref 268),(.bool .true),(.int 181 0),(.ref 269),.none,(.ref 270),(.ref 271),(.ref 272),(.int 544 0),(.int 134 0),(.str "/claim/cut.py" 545)]),#[]⟩) ::
(nat_lit 274,hM 36 0 "__init__" "Uncurl.__init__" (.str "knotwise.moves" 430) (.ref 273)) ::
(nat_lit 280,⟨(.type "code"),none,(.fields #[(.str "told" 547),(.str "Uncurl.told" 548),(.str "/claim/cut.py" 549),(.int 137 0),(.int 1 0),(.int 0 0),(.int 0 0),(.int 3 0),(.ref 275),(.bool .true),(.int 181 0),(.ref 276),.none,(.ref 277),(.ref 278),(.ref 279),(.int 551 0),(.int 137 0),(.str "/claim/cut.py" 552)]),#[]⟩) ::
(nat_lit 281,hM 36 1 "told" "Uncurl.told" (.str "knotwise.moves" 430) (.ref 280)) ::
(nat_lit 287,⟨(.type "code"),none,(.fields #[(.str "refuse" 554),(.str "Uncurl.refuse" 555),(.str "/claim/cut.py" 556),(.int 140 0),(.int 2 0),(.int 0 0),(.int 0 0),(.int 3 0),(.ref 282),(.bool .true),(.int 181 0),(.ref 283),.none,(.ref 284),(.ref 285),(.ref 286),(.int 559 0),(.int 140 0),(.str "/claim/cut.py" 560)]),#[]⟩) ::
(nat_lit 288,hM 36 2 "refuse" "Uncurl.refuse" (.str "knotwise.moves" 430) (.ref 287)) ::
(nat_lit 294,⟨(.type "code"),none,(.fields #[(.str "done" 562),(.str "Uncurl.done" 563),(.str "/claim/cut.py" 564),(.int 144 0),(.int 2 0),(.int 0 0),(.int 0 0),(.int 3 0),(.ref 289),(.bool .true),(.int 181 0),(.ref 290),.none,(.ref 291),(.ref 292),(.ref 293),(.int 567 0),(.int 144 0),(.str "/claim/cut.py" 568)]),#[]⟩) ::
(nat_lit 295,hM 36 3 "done" "Uncurl.done" (.str "knotwise.moves" 430) (.ref 294)) ::
(nat_lit 301,⟨(.type "code"),none,(.fields #[(.str "back" 570),(.str "Uncurl.back" 571),(.str "/claim/cut.py" 572),(.int 148 0),(.int 2 0),(.int 0 0),(.int 0 0),(.int 3 0),(.ref 296),(.bool .true),(.int 181 0),(.ref 297),.none,(.ref 298),(.ref 299),(.ref 300),(.int 579 0),(.int 148 0),(.str "/claim/cut.py" 580)]),#[]⟩) ::
(nat_lit 302,hM 36 4 "back" "Uncurl.back" (.str "knotwise.moves" 430) (.ref 301)) ::
(nat_lit 308,⟨(.type "code"),none,(.fields #[(.str "renamed" 582),(.str "Uncurl.renamed" 583),(.str "/claim/cut.py" 584),(.int 156 0),(.int 2 0),(.int 0 0),(.int 0 0),(.int 3 0),(.ref 303),(.bool .true),(.int 181 0),(.ref 304),.none,(.ref 305),(.ref 306),(.ref 307),(.int 587 0),(.int 156 0),(.str "/claim/cut.py" 588)]),#[]⟩) ::
(nat_lit 309,hM 36 5 "renamed" "Uncurl.renamed" (.str "knotwise.moves" 430) (.ref 308)) ::
(nat_lit 310,⟨(.type "tuple"),none,(.seq #[(.str "name" 590)] 0),#[]⟩) ::
(nat_lit 311,⟨(.type "dict"),none,(.dict #[hE P "__module__" 534 (.str "knotwise.moves" 430),hE P "__firstlineno__" 538 (.int 132 537),hE P "__init__" 546 (.ref 274),hE P "told" 553 (.ref 281),hE P "refuse" 561 (.ref 288),hE P "done" 569 (.ref 295),hE P "back" 581 (.ref 302),hE P "renamed" 589 (.ref 309),hE P "__static_attributes__" 591 (.ref 310),hE P "__doc__" 592 .none] 2),#[]⟩) ::
(nat_lit 312,⟨(.type "type"),none,(.cls ⟨"Uncurl",[(.ref 256)],[(.ref 312),(.ref 256),(.type "object")],311,"Uncurl",.true,[],[],.false,none,.false⟩),#[(some (.ref 261)),none,(some (.str "Uncurl" 527)),(some (.str "Uncurl" 535)),(some (.builtin "object.__new__")),(some (.bool .true))]⟩) ::
(nat_lit 315,⟨(.type "tuple"),none,(.seq #[(.ref 256)] 0),#[]⟩) ::
(nat_lit 327,⟨(.type "code"),none,(.fields #[(.str "__init__" 607),(.str "Curl.__init__" 608),(.str "/claim/cut.py" 609),(.int 160 0),(.int 5 0),(.int 0 0),(.int 0 0),(.int 3 0),(.ref 322),(.bool .true),(.int 181 0),(.ref 323),.none,(.ref 324),(.ref 325),(.ref 326),(.int 615 0),(.int 160 0),(.str "/claim/cut.py" 616)]),#[]⟩) ::
(nat_lit 328,hM 37 0 "__init__" "Curl.__init__" (.str "knotwise.moves" 430) (.ref 327)) ::
(nat_lit 334,⟨(.type "code"),none,(.fields #[(.str "told" 618),(.str "Curl.told" 619),(.str "/claim/cut.py" 620),(.int 166 0),(.int 1 0),(.int 0 0),(.int 0 0),(.int 3 0),(.ref 329),(.bool .true),(.int 181 0),(.ref 330),.none,(.ref 331),(.ref 332),(.ref 333),(.int 622 0),(.int 166 0),(.str "/claim/cut.py" 623)]),#[]⟩) ::
(nat_lit 335,hM 37 1 "told" "Curl.told" (.str "knotwise.moves" 430) (.ref 334)) ::
(nat_lit 341,⟨(.type "code"),none,(.fields #[(.str "done" 625),(.str "Curl.done" 626),(.str "/claim/cut.py" 627),(.int 169 0),(.int 2 0),(.int 0 0),(.int 0 0),(.int 3 0),(.ref 336),(.bool .true),(.int 181 0),(.ref 337),.none,(.ref 338),(.ref 339),(.ref 340),(.int 631 0),(.int 169 0),(.str "/claim/cut.py" 632)]),#[]⟩) ::
(nat_lit 342,hM 37 2 "done" "Curl.done" (.str "knotwise.moves" 430) (.ref 341)) ::
(nat_lit 348,⟨(.type "code"),none,(.fields #[(.str "back" 634),(.str "Curl.back" 635),(.str "/claim/cut.py" 636),(.int 174 0),(.int 2 0),(.int 0 0),(.int 0 0),(.int 3 0),(.ref 343),(.bool .true),(.int 181 0),(.ref 344),.none,(.ref 345),(.ref 346),(.ref 347),(.int 639 0),(.int 174 0),(.str "/claim/cut.py" 640)]),#[]⟩) ::
(nat_lit 349,hM 37 3 "back" "Curl.back" (.str "knotwise.moves" 430) (.ref 348)) ::
(nat_lit 355,⟨(.type "code"),none,(.fields #[(.str "renamed" 642),(.str "Curl.renamed" 643),(.str "/claim/cut.py" 644),(.int 178 0),(.int 2 0),(.int 0 0),(.int 0 0),(.int 3 0),(.ref 350),(.bool .true),(.int 181 0),(.ref 351),.none,(.ref 352),(.ref 353),(.ref 354),(.int 647 0),(.int 178 0),(.str "/claim/cut.py" 648)]),#[]⟩) ::
(nat_lit 356,hM 37 4 "renamed" "Curl.renamed" (.str "knotwise.moves" 430) (.ref 355)) ::
(nat_lit 357,⟨(.type "tuple"),none,(.seq #[(.str "first" 650),(.str "hand" 651),(.str "name" 652),(.str "spot" 653)] 0),#[]⟩) ::
(nat_lit 358,⟨(.type "dict"),none,(.dict #[hE P "__module__" 602 (.str "knotwise.moves" 430),hE P "__firstlineno__" 606 (.int 158 605),hE P "__init__" 617 (.ref 328),hE P "told" 624 (.ref 335),hE P "done" 633 (.ref 342),hE P "back" 641 (.ref 349),hE P "renamed" 649 (.ref 356),hE P "__static_attributes__" 654 (.ref 357),hE P "__doc__" 655 .none] 2),#[]⟩) ::
(nat_lit 359,⟨(.type "type"),none,(.cls ⟨"Curl",[(.ref 256)],[(.ref 359),(.ref 256),(.type "object")],358,"Curl",.true,[],[],.false,none,.false⟩),#[(some (.ref 315)),none,(some (.str "Curl" 595)),(some (.str "Curl" 603)),(some (.builtin "object.__new__")),(some (.bool .true))]⟩) ::
(nat_lit 362,⟨(.type "tuple"),none,(.seq #[(.ref 256)] 0),#[]⟩) ::
(nat_lit 374,⟨(.type "code"),none,(.fields #[(.str "__init__" 670),(.str "Part.__init__" 671),(.str "/claim/cut.py" 672),(.int 182 0),(.int 3 0),(.int 0 0),(.int 0 0),(.int 3 0),(.ref 369),(.bool .true),(.int 181 0),(.ref 370),.none,(.ref 371),(.ref 372),(.ref 373),(.int 676 0),(.int 182 0),(.str "/claim/cut.py" 677)]),#[]⟩) ::
(nat_lit 375,hM 38 0 "__init__" "Part.__init__" (.str "knotwise.moves" 430) (.ref 374)) ::
(nat_lit 381,⟨(.type "code"),none,(.fields #[(.str "told" 679),(.str "Part.told" 680),(.str "/claim/cut.py" 681),(.int 186 0),(.int 1 0),(.int 0 0),(.int 0 0),(.int 3 0),(.ref 376),(.bool .true),(.int 181 0),(.ref 377),.none,(.ref 378),(.ref 379),(.ref 380),(.int 683 0),(.int 186 0),(.str "/claim/cut.py" 684)]),#[]⟩) ::
(nat_lit 382,hM 38 1 "told" "Part.told" (.str "knotwise.moves" 430) (.ref 381)) ::
(nat_lit 388,⟨(.type "code"),none,(.fields #[(.str "refuse" 686),(.str "Part.refuse" 687),(.str "/claim/cut.py" 688),(.int 189 0),(.int 2 0),(.int 0 0),(.int 0 0),(.int 3 0),(.ref 383),(.bool .true),(.int 181 0),(.ref 384),.none,(.ref 385),(.ref 386),(.ref 387),(.int 691 0),(.int 189 0),(.str "/claim/cut.py" 692)]),#[]⟩) ::
(nat_lit 389,hM 38 2 "refuse" "Part.refuse" (.str "knotwise.moves" 430) (.ref 388)) ::
(nat_lit 395,⟨(.type "code"),none,(.fields #[(.str "done" 694),(.str "Part.done" 695),(.str "/claim/cut.py" 696),(.int 193 0),(.int 2 0),(.int 0 0),(.int 0 0),(.int 3 0),(.ref 390),(.bool .true),(.int 181 0),(.ref 391),.none,(.ref 392),(.ref 393),(.ref 394),(.int 699 0),(.int 193 0),(.str "/claim/cut.py" 700)]),#[]⟩) ::
(nat_lit 396,hM 38 3 "done" "Part.done" (.str "knotwise.moves" 430) (.ref 395)) ::
(nat_lit 402,⟨(.type "code"),none,(.fields #[(.str "back" 702),(.str "Part.back" 703),(.str "/claim/cut.py" 704),(.int 197 0),(.int 2 0),(.int 0 0),(.int 0 0),(.int 3 0),(.ref 397),(.bool .true),(.int 181 0),(.ref 398),.none,(.ref 399),(.ref 400),(.ref 401),(.int 715 0),(.int 197 0),(.str "/claim/cut.py" 716)]),#[]⟩) ::
(nat_lit 403,hM 38 4 "back" "Part.back" (.str "knotwise.moves" 430) (.ref 402)) ::
(nat_lit 409,⟨(.type "code"),none,(.fields #[(.str "renamed" 718),(.str "Part.renamed" 719),(.str "/claim/cut.py" 720),(.int 209 0),(.int 2 0),(.int 0 0),(.int 0 0),(.int 3 0),(.ref 404),(.bool .true),(.int 181 0),(.ref 405),.none,(.ref 406),(.ref 407),(.ref 408),(.int 723 0),(.int 209 0),(.str "/claim/cut.py" 724)]),#[]⟩) ::
(nat_lit 410,hM 38 5 "renamed" "Part.renamed" (.str "knotwise.moves" 430) (.ref 409)) ::
(nat_lit 411,⟨(.type "tuple"),none,(.seq #[(.str "name" 726),(.str "second" 727)] 0),#[]⟩) ::
(nat_lit 412,⟨(.type "dict"),none,(.dict #[hE P "__module__" 665 (.str "knotwise.moves" 430),hE P "__firstlineno__" 669 (.int 180 668),hE P "__init__" 678 (.ref 375),hE P "told" 685 (.ref 382),hE P "refuse" 693 (.ref 389),hE P "done" 701 (.ref 396),hE P "back" 717 (.ref 403),hE P "renamed" 725 (.ref 410),hE P "__static_attributes__" 728 (.ref 411),hE P "__doc__" 729 .none] 2),#[]⟩) ::
(nat_lit 413,⟨(.type "type"),none,(.cls ⟨"Part",[(.ref 256)],[(.ref 413),(.ref 256),(.type "object")],412,"Part",.true,[],[],.false,none,.false⟩),#[(some (.ref 362)),none,(some (.str "Part" 658)),(some (.str "Part" 666)),(some (.builtin "object.__new__")),(some (.bool .true))]⟩) ::
(nat_lit 416,⟨(.type "tuple"),none,(.seq #[(.ref 256)] 0),#[]⟩) ::
(nat_lit 428,⟨(.type "code"),none,(.fields #[(.str "__init__" 744),(.str "Lay.__init__" 745),(.str "/claim/cut.py" 746),(.int 213 0),(.int 7 0),(.int 0 0),(.int 0 0),(.int 3 0),(.ref 423),(.bool .true),(.int 181 0),(.ref 424),.none,(.ref 425),(.ref 426),(.ref 427),(.int 754 0),(.int 213 0),(.str "/claim/cut.py" 755)]),#[]⟩) ::
(nat_lit 429,hM 39 0 "__init__" "Lay.__init__" (.str "knotwise.moves" 430) (.ref 428)) ::
(nat_lit 435,⟨(.type "code"),none,(.fields #[(.str "told" 757),(.str "Lay.told" 758),(.str "/claim/cut.py" 759),(.int 221 0),(.int 1 0),(.int 0 0),(.int 0 0),(.int 3 0),(.ref 430),(.bool .true),(.int 181 0),(.ref 431),.none,(.ref 432),(.ref 433),(.ref 434),(.int 761 0),(.int 221 0),(.str "/claim/cut.py" 762)]),#[]⟩) ::
(nat_lit 436,hM 39 1 "told" "Lay.told" (.str "knotwise.moves" 430) (.ref 435)) ::
(nat_lit 442,⟨(.type "code"),none,(.fields #[(.str "passings" 764),(.str "Lay.passings" 765),(.str "/claim/cut.py" 766),(.int 224 0),(.int 2 0),(.int 0 0),(.int 0 0),(.int 3 0),(.ref 437),(.bool .true),(.int 181 0),(.ref 438),.none,(.ref 439),(.ref 440),(.ref 441),(.int 769 0),(.int 224 0),(.str "/claim/cut.py" 770)]),#[]⟩) ::
(nat_lit 443,hM 39 2 "passings" "Lay.passings" (.str "knotwise.moves" 430) (.ref 442)) ::
(nat_lit 449,⟨(.type "code"),none,(.fields #[(.str "done" 772),(.str "Lay.done" 773),(.str "/claim/cut.py" 774),(.int 227 0),(.int 2 0),(.int 0 0),(.int 0 0),(.int 3 0),(.ref 444),(.bool .true),(.int 181 0),(.ref 445),.none,(.ref 446),(.ref 447),(.ref 448),(.int 779 0),(.int 227 0),(.str "/claim/cut.py" 780)]),#[]⟩) ::
(nat_lit 450,hM 39 3 "done" "Lay.done" (.str "knotwise.moves" 430) (.ref 449)) ::
(nat_lit 456,⟨(.type "code"),none,(.fields #[(.str "back" 782),(.str "Lay.back" 783),(.str "/claim/cut.py" 784),(.int 235 0),(.int 2 0),(.int 0 0),(.int 0 0),(.int 3 0),(.ref 451),(.bool .true),(.int 181 0),(.ref 452),.none,(.ref 453),(.ref 454),(.ref 455),(.int 787 0),(.int 235 0),(.str "/claim/cut.py" 788)]),#[]⟩) ::
(nat_lit 457,hM 39 4 "back" "Lay.back" (.str "knotwise.moves" 430) (.ref 456)) ::
(nat_lit 463,⟨(.type "code"),none,(.fields #[(.str "renamed" 790),(.str "Lay.renamed" 791),(.str "/claim/cut.py" 792),(.int 239 0),(.int 2 0),(.int 0 0),(.int 0 0),(.int 3 0),(.ref 458),(.bool .true),(.int 181 0),(.ref 459),.none,(.ref 460),(.ref 461),(.ref 462),(.int 799 0),(.int 239 0),(.str "/claim/cut.py" 800)]),#[]⟩) ::
(nat_lit 464,hM 39 5 "renamed" "Lay.renamed" (.str "knotwise.moves" 430) (.ref 463)) ::
(nat_lit 465,⟨(.type "tuple"),none,(.seq #[(.str "hand" 802),(.str "name" 803),(.str "over" 804),(.str "second" 805),(.str "turned" 806),(.str "under" 807)] 0),#[]⟩) ::
(nat_lit 466,⟨(.type "dict"),none,(.dict #[hE P "__module__" 739 (.str "knotwise.moves" 430),hE P "__firstlineno__" 743 (.int 211 742),hE P "__init__" 756 (.ref 429),hE P "told" 763 (.ref 436),hE P "passings" 771 (.ref 443),hE P "done" 781 (.ref 450),hE P "back" 789 (.ref 457),hE P "renamed" 801 (.ref 464),hE P "__static_attributes__" 808 (.ref 465),hE P "__doc__" 809 .none] 2),#[]⟩) ::
(nat_lit 467,⟨(.type "type"),none,(.cls ⟨"Lay",[(.ref 256)],[(.ref 467),(.ref 256),(.type "object")],466,"Lay",.true,[],[],.false,none,.false⟩),#[(some (.ref 416)),none,(some (.str "Lay" 732)),(some (.str "Lay" 740)),(some (.builtin "object.__new__")),(some (.bool .true))]⟩) ::
(nat_lit 470,⟨(.type "tuple"),none,(.seq #[(.ref 256)] 0),#[]⟩) ::
(nat_lit 482,⟨(.type "code"),none,(.fields #[(.str "__init__" 824),(.str "Slide.__init__" 825),(.str "/claim/cut.py" 826),(.int 247 0),(.int 5 0),(.int 0 0),(.int 0 0),(.int 3 0),(.ref 477),(.bool .true),(.int 181 0),(.ref 478),.none,(.ref 479),(.ref 480),(.ref 481),(.int 832 0),(.int 247 0),(.str "/claim/cut.py" 833)]),#[]⟩) ::
(nat_lit 483,hM 40 0 "__init__" "Slide.__init__" (.str "knotwise.moves" 430) (.ref 482)) ::
(nat_lit 489,⟨(.type "code"),none,(.fields #[(.str "told" 835),(.str "Slide.told" 836),(.str "/claim/cut.py" 837),(.int 253 0),(.int 1 0),(.int 0 0),(.int 0 0),(.int 3 0),(.ref 484),(.bool .true),(.int 181 0),(.ref 485),.none,(.ref 486),(.ref 487),(.ref 488),(.int 839 0),(.int 253 0),(.str "/claim/cut.py" 840)]),#[]⟩) ::
(nat_lit 490,hM 40 1 "told" "Slide.told" (.str "knotwise.moves" 430) (.ref 489)) ::
(nat_lit 496,⟨(.type "code"),none,(.fields #[(.str "refuse" 842),(.str "Slide.refuse" 843),(.str "/claim/cut.py" 844),(.int 256 0),(.int 2 0),(.int 0 0),(.int 0 0),(.int 3 0),(.ref 491),(.bool .true),(.int 181 0),(.ref 492),.none,(.ref 493),(.ref 494),(.ref 495),(.int 847 0),(.int 256 0),(.str "/claim/cut.py" 848)]),#[]⟩) ::
(nat_lit 497,hM 40 2 "refuse" "Slide.refuse" (.str "knotwise.moves" 430) (.ref 496)) ::
(nat_lit 503,⟨(.type "code"),none,(.fields #[(.str "done" 850),(.str "Slide.done" 851),(.str "/claim/cut.py" 852),(.int 260 0),(.int 2 0),(.int 0 0),(.int 0 0),(.int 3 0),(.ref 498),(.bool .true),(.int 181 0),(.ref 499),.none,(.ref 500),(.ref 501),(.ref 502),(.int 855 0),(.int 260 0),(.str "/claim/cut.py" 856)]),#[]⟩) ::
(nat_lit 504,hM 40 3 "done" "Slide.done" (.str "knotwise.moves" 430) (.ref 503)) ::
(nat_lit 510,⟨(.type "code"),none,(.fields #[(.str "back" 858),(.str "Slide.back" 859),(.str "/claim/cut.py" 860),(.int 264 0),(.int 2 0),(.int 0 0),(.int 0 0),(.int 3 0),(.ref 505),(.bool .true),(.int 181 0),(.ref 506),.none,(.ref 507),(.ref 508),(.ref 509),(.int 863 0),(.int 264 0),(.str "/claim/cut.py" 864)]),#[]⟩) ::
(nat_lit 511,hM 40 4 "back" "Slide.back" (.str "knotwise.moves" 430) (.ref 510)) ::
(nat_lit 517,⟨(.type "code"),none,(.fields #[(.str "renamed" 866),(.str "Slide.renamed" 867),(.str "/claim/cut.py" 868),(.int 268 0),(.int 2 0),(.int 0 0),(.int 0 0),(.int 3 0),(.ref 512),(.bool .true),(.int 181 0),(.ref 513),.none,(.ref 514),(.ref 515),(.ref 516),(.int 873 0),(.int 268 0),(.str "/claim/cut.py" 874)]),#[]⟩) ::
(nat_lit 518,hM 40 5 "renamed" "Slide.renamed" (.str "knotwise.moves" 430) (.ref 517)) ::
(nat_lit 519,⟨(.type "tuple"),none,(.seq #[(.str "name" 876),(.str "second" 877),(.str "third" 878),(.str "turn" 879)] 0),#[]⟩) ::
(nat_lit 520,⟨(.type "dict"),none,(.dict #[hE P "__module__" 819 (.str "knotwise.moves" 430),hE P "__firstlineno__" 823 (.int 245 822),hE P "__init__" 834 (.ref 483),hE P "told" 841 (.ref 490),hE P "refuse" 849 (.ref 497),hE P "done" 857 (.ref 504),hE P "back" 865 (.ref 511),hE P "renamed" 875 (.ref 518),hE P "__static_attributes__" 880 (.ref 519),hE P "__doc__" 881 .none] 2),#[]⟩) ::
(nat_lit 521,⟨(.type "type"),none,(.cls ⟨"Slide",[(.ref 256)],[(.ref 521),(.ref 256),(.type "object")],520,"Slide",.true,[],[],.false,none,.false⟩),#[(some (.ref 470)),none,(some (.str "Slide" 812)),(some (.str "Slide" 820)),(some (.builtin "object.__new__")),(some (.bool .true))]⟩) ::
(nat_lit 529,hD "move_of" 884 272 1 524 (hR 526) (hR 527) (hR 528) 889) ::
(nat_lit 530,hF 41 "move_of" (.str "knotwise.moves" 430) (.ref 529)) ::
(nat_lit 536,hD "_law_cell_at" 893 285 2 531 (hR 533) (hR 534) (hR 535) 899) ::
(nat_lit 537,hF 43 "_law_cell_at" (.str "law_knotwise_k22_lays_there_and_back" 891) (.ref 536)) ::
(nat_lit 543,hD "_law_whole" 901 289 1 538 (hR 540) (hR 541) (hR 542) 906) ::
(nat_lit 544,hF 44 "_law_whole" (.str "law_knotwise_k22_lays_there_and_back" 891) (.ref 543)) ::
(nat_lit 550,hD "_law_mixed" 908 291 1 545 (hR 547) (hR 548) (hR 549) 913) ::
(nat_lit 551,hF 45 "_law_mixed" (.str "law_knotwise_k22_lays_there_and_back" 891) (.ref 550)) ::
(nat_lit 557,hD "_law_names" 915 293 1 552 (hR 554) (hR 555) (hR 556) 923) ::
(nat_lit 558,hF 46 "_law_names" (.str "law_knotwise_k22_lays_there_and_back" 891) (.ref 557)) ::
(nat_lit 564,hD "_law_free" 925 300 2 559 (hR 561) (hR 562) (hR 563) 932) ::
(nat_lit 565,hF 47 "_law_free" (.str "law_knotwise_k22_lays_there_and_back" 891) (.ref 564)) ::
(nat_lit 569,hD "_law_crossed" 934 305 2 566 hN hN (hR 568) 938) ::
(nat_lit 570,hF 48 "_law_crossed" (.str "law_knotwise_k22_lays_there_and_back" 891) (.ref 569)) ::
(nat_lit 576,hD "_law_spots" 940 317 1 571 (hR 573) (hR 574) (hR 575) 948) ::
(nat_lit 577,hF 49 "_law_spots" (.str "law_knotwise_k22_lays_there_and_back" 891) (.ref 576)) ::
(nat_lit 583,hD "_law_put" 950 325 3 578 (hR 580) (hR 581) (hR 582) 961) ::
(nat_lit 584,hF 50 "_law_put" (.str "law_knotwise_k22_lays_there_and_back" 891) (.ref 583)) ::
(nat_lit 590,hD "_law_begun" 963 337 1 585 (hR 587) (hR 588) (hR 589) 971) ::
(nat_lit 591,hF 51 "_law_begun" (.str "law_knotwise_k22_lays_there_and_back" 891) (.ref 590)) ::
(nat_lit 597,hD "_law_wholes" 973 345 2 592 (hR 594) (hR 595) (hR 596) 980) ::
(nat_lit 598,hF 52 "_law_wholes" (.str "law_knotwise_k22_lays_there_and_back" 891) (.ref 597)) ::
(nat_lit 604,hD "_law_same" 982 352 2 599 (hR 601) (hR 602) (hR 603) 990) ::
(nat_lit 605,hF 53 "_law_same" (.str "law_knotwise_k22_lays_there_and_back" 891) (.ref 604)) ::
(nat_lit 611,hD "_law_tells" 992 362 2 606 (hR 608) (hR 609) (hR 610) 999) ::
(nat_lit 612,hF 54 "_law_tells" (.str "law_knotwise_k22_lays_there_and_back" 891) (.ref 611)) ::
(nat_lit 618,hD "_law_form" 1001 374 3 613 (hR 615) (hR 616) (hR 617) 1009) ::
(nat_lit 619,hF 55 "_law_form" (.str "law_knotwise_k22_lays_there_and_back" 891) (.ref 618)) ::
(nat_lit 625,hD "_law_laid" 1011 386 2 620 (hR 622) (hR 623) (hR 624) 1019) ::
(nat_lit 626,hF 56 "_law_laid" (.str "law_knotwise_k22_lays_there_and_back" 891) (.ref 625)) ::
(nat_lit 630,hD "_law_under_spots" 1021 392 4 627 hN hN (hR 629) 1025) ::
(nat_lit 631,hF 57 "_law_under_spots" (.str "law_knotwise_k22_lays_there_and_back" 891) (.ref 630)) ::
(nat_lit 637,hD "_law_lays_to" 1027 395 4 632 (hR 634) (hR 635) (hR 636) 1035) ::
(nat_lit 638,hF 58 "_law_lays_to" (.str "law_knotwise_k22_lays_there_and_back" 891) (.ref 637)) ::
(nat_lit 642,hD "_law_there" 1037 405 3 639 hN hN (hR 641) 1041) ::
(nat_lit 643,hF 59 "_law_there" (.str "law_knotwise_k22_lays_there_and_back" 891) (.ref 642)) ::
(nat_lit 647,hD "_law_parted" 1043 419 3 644 hN hN (hR 646) 1047) ::
(nat_lit 648,hF 60 "_law_parted" (.str "law_knotwise_k22_lays_there_and_back" 891) (.ref 647)) ::
(nat_lit 652,hD "_law_other" 1049 432 1 649 hN hN (hR 651) 1053) ::
(nat_lit 653,hF 61 "_law_other" (.str "law_knotwise_k22_lays_there_and_back" 891) (.ref 652)) ::
(nat_lit 657,hD "law" 1055 437 1 654 hN hN (hR 656) 1059) ::
(nat_lit 658,hF 62 "law" (.str "law_knotwise_k22_lays_there_and_back" 891) (.ref 657)) :: []
noncomputable def hA:List Addr:=[3,15,22,23,24,25,28,35,36,37,40,47,48,49,52,59,60,61,64,71,72,73,76,83,84,85,88,95,96,97,105,106,112,113,117,118,122,123,129,130,134,135,141,142,148,149,155,156,162,163,169,170,176,177,183,184,188,189,195,196,202,203,209,210,216,217,221,222,226,227,233,234,238,239,245,246,254,255,256,257,258,261,273,274,280,281,287,288,294,295,301,302,308,309,310,311,312,315,327,328,334,335,341,342,348,349,355,356,357,358,359,362,374,375,381,382,388,389,395,396,402,403,409,410,411,412,413,416,428,429,435,436,442,443,449,450,456,457,463,464,465,466,467,470,482,483,489,490,496,497,503,504,510,511,517,518,519,520,521,529,530,536,537,543,544,550,551,557,558,564,565,569,570,576,577,583,584,590,591,597,598,604,605,611,612,618,619,625,626,630,631,637,638,642,643,647,648,652,653,657,658]
noncomputable abbrev hG(st:Stmt)(n q:Str)(g b:Addr):Obj:=⟨.none,none,.func ⟨n,q,kn st,.stmts (i4 st),aW st,g,[],.none,.none,.none,.none,none,.none,.none,b⟩,#[]⟩
noncomputable def cE:Env:={ scope:=PySem.Challenge.rw_knotwise_k22_lays_there_and_back.row.prog.main.scope,locals:=mainNs,globals:=mainNs,cells:=[],code:=(.ref 13),frame:=some 14 }
noncomputable def cB:List Stmt:=behindTheImports PySem.Challenge.rw_knotwise_k22_lays_there_and_back.row.prog
noncomputable def cC:Code:=.body cB cE
noncomputable def cQ:Pos:=⟨0,0,0,0⟩
noncomputable def WS(P:nH)(t:List Obj):List Obj:=boot_o_4 P ::
boot_o_5 P ::
boot_o_6 P ::
boot_o_7 P ::
boot_o_8 P ::
boot_o_9 P ::
boot_o_10 P ::
⟨(.type "tuple"),none,(.seq #[] 0),#[]⟩ :: t
noncomputable def WR (P:nH) (t:List Obj):List Obj:=hC "<module>" 182 [hI 1,hI 0,hI 0,hI 0,hI 0,hR 11,(.bool .false),hI 181,hR 12,hN,hN,hN,hN,hI 185,hI 1,hS 186] ::
⟨(.type "frame"),none,.plain,#[(some (.ref 13)),(some (.ref 3)),(some (.ref 3)),none,(some (.str "__main__" 164)),none,(some (.ref 0))]⟩ :: t
noncomputable def cr2 (P:nH) (t:List Obj):List Obj:=⟨(.type "tuple"),none,(.seq #[(.type "ValueError")] 0),#[]⟩ ::
⟨(.type "builtin_function_or_method"),none,(.fields #[(.builtin "type.__prepare__"),(.type "type")]),#[]⟩ ::
⟨(.type "dict"),none,(.dict #[hE P "__module__" 196 (.str "knotwise.errors" 187),hE P "__qualname__" 198 (.str "KnotError" 197),hE P "__firstlineno__" 200 (.int 2 199),hE P "__static_attributes__" 201 (.ref 22)] 4),#[]⟩ ::
⟨(.type "tuple"),none,(.seq #[] 0),#[]⟩ ::
⟨.none,none,(.fields #[]),#[]⟩ ::
hC "KnotError" 191 [hI 2,hI 0,hI 0,hI 0,hI 0,hR 18,(.bool .false),hI 181,hR 19,hN,hN,hN,hN,hI 194,hI 2,hS 195] ::
⟨(.type "frame"),none,.plain,#[(some (.ref 20)),(some (.ref 3)),(some (.ref 17)),none,(some (.str "knotwise.errors" 187)),none,(some (.ref 0))]⟩ ::
⟨(.type "tuple"),none,(.seq #[] 0),#[]⟩ ::
⟨(.type "dict"),none,(.dict #[hE P "__module__" 196 (.str "knotwise.errors" 187),hE P "__firstlineno__" 200 (.int 2 199),hE P "__static_attributes__" 201 (.ref 22),hE P "__weakref__" 203 (.ref 25),hE P "__doc__" 204 .none] 3),#[]⟩ ::
⟨(.type "type"),none,(.cls ⟨"KnotError",[(.type "ValueError")],[(.ref 24),(.type "ValueError"),(.type "Exception"),(.type "BaseException"),(.type "object")],23,"KnotError",.true,[],[(.ref 37),(.ref 49),(.ref 61),(.ref 73),(.ref 85),(.ref 97)],.false,none,.false⟩),#[(some (.ref 15)),none,(some (.str "KnotError" 189)),(some (.str "KnotError" 197)),(some (.builtin "ValueError.__new__")),(some (.bool .true))]⟩ ::
⟨(.type "getset_descriptor"),none,(.fields #[(.str "__weakref__" 202),(.ref 24),(.builtin "ExceptionGroup.__weakref__"),.none]),#[]⟩ ::
⟨(.type "super"),none,(.fields #[(.ref 24),(.ref 24),(.ref 24)]),#[]⟩ ::
⟨(.type "builtin_function_or_method"),none,(.fields #[(.builtin "object.__init_subclass__"),(.ref 24)]),#[]⟩ ::
⟨(.type "tuple"),none,(.seq #[(.ref 24)] 0),#[]⟩ ::
⟨(.type "builtin_function_or_method"),none,(.fields #[(.builtin "type.__prepare__"),(.type "type")]),#[]⟩ ::
⟨(.type "dict"),none,(.dict #[hE P "__module__" 214 (.str "knotwise.errors" 187),hE P "__qualname__" 216 (.str "NoName" 215),hE P "__firstlineno__" 218 (.int 4 217),hE P "__static_attributes__" 219 (.ref 35)] 4),#[]⟩ ::
⟨(.type "tuple"),none,(.seq #[] 0),#[]⟩ ::
⟨.none,none,(.fields #[]),#[]⟩ ::
hC "NoName" 209 [hI 4,hI 0,hI 0,hI 0,hI 0,hR 31,(.bool .false),hI 181,hR 32,hN,hN,hN,hN,hI 212,hI 4,hS 213] ::
⟨(.type "frame"),none,.plain,#[(some (.ref 33)),(some (.ref 3)),(some (.ref 30)),none,(some (.str "knotwise.errors" 187)),none,(some (.ref 0))]⟩ ::
⟨(.type "tuple"),none,(.seq #[] 0),#[]⟩ ::
⟨(.type "dict"),none,(.dict #[hE P "__module__" 214 (.str "knotwise.errors" 187),hE P "__firstlineno__" 218 (.int 4 217),hE P "__static_attributes__" 219 (.ref 35),hE P "__doc__" 220 .none] 2),#[]⟩ ::
⟨(.type "type"),none,(.cls ⟨"NoName",[(.ref 24)],[(.ref 37),(.ref 24),(.type "ValueError"),(.type "Exception"),(.type "BaseException"),(.type "object")],36,"NoName",.true,[],[],.false,none,.false⟩),#[(some (.ref 28)),none,(some (.str "NoName" 207)),(some (.str "NoName" 215)),(some (.builtin "ValueError.__new__")),(some (.bool .true))]⟩ ::
⟨(.type "super"),none,(.fields #[(.ref 37),(.ref 37),(.ref 37)]),#[]⟩ ::
⟨(.type "builtin_function_or_method"),none,(.fields #[(.builtin "object.__init_subclass__"),(.ref 37)]),#[]⟩ ::
⟨(.type "tuple"),none,(.seq #[(.ref 24)] 0),#[]⟩ ::
⟨(.type "builtin_function_or_method"),none,(.fields #[(.builtin "type.__prepare__"),(.type "type")]),#[]⟩ ::
⟨(.type "dict"),none,(.dict #[hE P "__module__" 230 (.str "knotwise.errors" 187),hE P "__qualname__" 232 (.str "NameTaken" 231),hE P "__firstlineno__" 234 (.int 6 233),hE P "__static_attributes__" 235 (.ref 47)] 4),#[]⟩ ::
⟨(.type "tuple"),none,(.seq #[] 0),#[]⟩ ::
⟨.none,none,(.fields #[]),#[]⟩ ::
hC "NameTaken" 225 [hI 6,hI 0,hI 0,hI 0,hI 0,hR 43,(.bool .false),hI 181,hR 44,hN,hN,hN,hN,hI 228,hI 6,hS 229] ::
⟨(.type "frame"),none,.plain,#[(some (.ref 45)),(some (.ref 3)),(some (.ref 42)),none,(some (.str "knotwise.errors" 187)),none,(some (.ref 0))]⟩ ::
⟨(.type "tuple"),none,(.seq #[] 0),#[]⟩ ::
⟨(.type "dict"),none,(.dict #[hE P "__module__" 230 (.str "knotwise.errors" 187),hE P "__firstlineno__" 234 (.int 6 233),hE P "__static_attributes__" 235 (.ref 47),hE P "__doc__" 236 .none] 2),#[]⟩ ::
⟨(.type "type"),none,(.cls ⟨"NameTaken",[(.ref 24)],[(.ref 49),(.ref 24),(.type "ValueError"),(.type "Exception"),(.type "BaseException"),(.type "object")],48,"NameTaken",.true,[],[],.false,none,.false⟩),#[(some (.ref 40)),none,(some (.str "NameTaken" 223)),(some (.str "NameTaken" 231)),(some (.builtin "ValueError.__new__")),(some (.bool .true))]⟩ ::
⟨(.type "super"),none,(.fields #[(.ref 49),(.ref 49),(.ref 49)]),#[]⟩ ::
⟨(.type "builtin_function_or_method"),none,(.fields #[(.builtin "object.__init_subclass__"),(.ref 49)]),#[]⟩ ::
⟨(.type "tuple"),none,(.seq #[(.ref 24)] 0),#[]⟩ ::
⟨(.type "builtin_function_or_method"),none,(.fields #[(.builtin "type.__prepare__"),(.type "type")]),#[]⟩ ::
⟨(.type "dict"),none,(.dict #[hE P "__module__" 246 (.str "knotwise.errors" 187),hE P "__qualname__" 248 (.str "NoSpot" 247),hE P "__firstlineno__" 250 (.int 8 249),hE P "__static_attributes__" 251 (.ref 59)] 4),#[]⟩ ::
⟨(.type "tuple"),none,(.seq #[] 0),#[]⟩ ::
⟨.none,none,(.fields #[]),#[]⟩ ::
hC "NoSpot" 241 [hI 8,hI 0,hI 0,hI 0,hI 0,hR 55,(.bool .false),hI 181,hR 56,hN,hN,hN,hN,hI 244,hI 8,hS 245] ::
⟨(.type "frame"),none,.plain,#[(some (.ref 57)),(some (.ref 3)),(some (.ref 54)),none,(some (.str "knotwise.errors" 187)),none,(some (.ref 0))]⟩ ::
⟨(.type "tuple"),none,(.seq #[] 0),#[]⟩ ::
⟨(.type "dict"),none,(.dict #[hE P "__module__" 246 (.str "knotwise.errors" 187),hE P "__firstlineno__" 250 (.int 8 249),hE P "__static_attributes__" 251 (.ref 59),hE P "__doc__" 252 .none] 2),#[]⟩ ::
⟨(.type "type"),none,(.cls ⟨"NoSpot",[(.ref 24)],[(.ref 61),(.ref 24),(.type "ValueError"),(.type "Exception"),(.type "BaseException"),(.type "object")],60,"NoSpot",.true,[],[],.false,none,.false⟩),#[(some (.ref 52)),none,(some (.str "NoSpot" 239)),(some (.str "NoSpot" 247)),(some (.builtin "ValueError.__new__")),(some (.bool .true))]⟩ ::
⟨(.type "super"),none,(.fields #[(.ref 61),(.ref 61),(.ref 61)]),#[]⟩ ::
⟨(.type "builtin_function_or_method"),none,(.fields #[(.builtin "object.__init_subclass__"),(.ref 61)]),#[]⟩ ::
⟨(.type "tuple"),none,(.seq #[(.ref 24)] 0),#[]⟩ ::
⟨(.type "builtin_function_or_method"),none,(.fields #[(.builtin "type.__prepare__"),(.type "type")]),#[]⟩ ::
⟨(.type "dict"),none,(.dict #[hE P "__module__" 262 (.str "knotwise.errors" 187),hE P "__qualname__" 264 (.str "TooMany" 263),hE P "__firstlineno__" 266 (.int 10 265),hE P "__static_attributes__" 267 (.ref 71)] 4),#[]⟩ ::
⟨(.type "tuple"),none,(.seq #[] 0),#[]⟩ ::
⟨.none,none,(.fields #[]),#[]⟩ ::
hC "TooMany" 257 [hI 10,hI 0,hI 0,hI 0,hI 0,hR 67,(.bool .false),hI 181,hR 68,hN,hN,hN,hN,hI 260,hI 10,hS 261] ::
⟨(.type "frame"),none,.plain,#[(some (.ref 69)),(some (.ref 3)),(some (.ref 66)),none,(some (.str "knotwise.errors" 187)),none,(some (.ref 0))]⟩ ::
⟨(.type "tuple"),none,(.seq #[] 0),#[]⟩ ::
⟨(.type "dict"),none,(.dict #[hE P "__module__" 262 (.str "knotwise.errors" 187),hE P "__firstlineno__" 266 (.int 10 265),hE P "__static_attributes__" 267 (.ref 71),hE P "__doc__" 268 .none] 2),#[]⟩ ::
⟨(.type "type"),none,(.cls ⟨"TooMany",[(.ref 24)],[(.ref 73),(.ref 24),(.type "ValueError"),(.type "Exception"),(.type "BaseException"),(.type "object")],72,"TooMany",.true,[],[],.false,none,.false⟩),#[(some (.ref 64)),none,(some (.str "TooMany" 255)),(some (.str "TooMany" 263)),(some (.builtin "ValueError.__new__")),(some (.bool .true))]⟩ ::
⟨(.type "super"),none,(.fields #[(.ref 73),(.ref 73),(.ref 73)]),#[]⟩ ::
⟨(.type "builtin_function_or_method"),none,(.fields #[(.builtin "object.__init_subclass__"),(.ref 73)]),#[]⟩ ::
⟨(.type "tuple"),none,(.seq #[(.ref 24)] 0),#[]⟩ ::
⟨(.type "builtin_function_or_method"),none,(.fields #[(.builtin "type.__prepare__"),(.type "type")]),#[]⟩ ::
⟨(.type "dict"),none,(.dict #[hE P "__module__" 278 (.str "knotwise.errors" 187),hE P "__qualname__" 280 (.str "NoFit" 279),hE P "__firstlineno__" 282 (.int 12 281),hE P "__static_attributes__" 283 (.ref 83)] 4),#[]⟩ ::
⟨(.type "tuple"),none,(.seq #[] 0),#[]⟩ ::
⟨.none,none,(.fields #[]),#[]⟩ ::
hC "NoFit" 273 [hI 12,hI 0,hI 0,hI 0,hI 0,hR 79,(.bool .false),hI 181,hR 80,hN,hN,hN,hN,hI 276,hI 12,hS 277] ::
⟨(.type "frame"),none,.plain,#[(some (.ref 81)),(some (.ref 3)),(some (.ref 78)),none,(some (.str "knotwise.errors" 187)),none,(some (.ref 0))]⟩ ::
⟨(.type "tuple"),none,(.seq #[] 0),#[]⟩ ::
⟨(.type "dict"),none,(.dict #[hE P "__module__" 278 (.str "knotwise.errors" 187),hE P "__firstlineno__" 282 (.int 12 281),hE P "__static_attributes__" 283 (.ref 83),hE P "__doc__" 284 .none] 2),#[]⟩ ::
⟨(.type "type"),none,(.cls ⟨"NoFit",[(.ref 24)],[(.ref 85),(.ref 24),(.type "ValueError"),(.type "Exception"),(.type "BaseException"),(.type "object")],84,"NoFit",.true,[],[],.false,none,.false⟩),#[(some (.ref 76)),none,(some (.str "NoFit" 271)),(some (.str "NoFit" 279)),(some (.builtin "ValueError.__new__")),(some (.bool .true))]⟩ ::
⟨(.type "super"),none,(.fields #[(.ref 85),(.ref 85),(.ref 85)]),#[]⟩ ::
⟨(.type "builtin_function_or_method"),none,(.fields #[(.builtin "object.__init_subclass__"),(.ref 85)]),#[]⟩ ::
⟨(.type "tuple"),none,(.seq #[(.ref 24)] 0),#[]⟩ ::
⟨(.type "builtin_function_or_method"),none,(.fields #[(.builtin "type.__prepare__"),(.type "type")]),#[]⟩ ::
⟨(.type "dict"),none,(.dict #[hE P "__module__" 294 (.str "knotwise.errors" 187),hE P "__qualname__" 296 (.str "NoMove" 295),hE P "__firstlineno__" 298 (.int 14 297),hE P "__static_attributes__" 299 (.ref 95)] 4),#[]⟩ ::
⟨(.type "tuple"),none,(.seq #[] 0),#[]⟩ ::
⟨.none,none,(.fields #[]),#[]⟩ ::
hC "NoMove" 289 [hI 14,hI 0,hI 0,hI 0,hI 0,hR 91,(.bool .false),hI 181,hR 92,hN,hN,hN,hN,hI 292,hI 14,hS 293] ::
⟨(.type "frame"),none,.plain,#[(some (.ref 93)),(some (.ref 3)),(some (.ref 90)),none,(some (.str "knotwise.errors" 187)),none,(some (.ref 0))]⟩ ::
⟨(.type "tuple"),none,(.seq #[] 0),#[]⟩ ::
⟨(.type "dict"),none,(.dict #[hE P "__module__" 294 (.str "knotwise.errors" 187),hE P "__firstlineno__" 298 (.int 14 297),hE P "__static_attributes__" 299 (.ref 95),hE P "__doc__" 300 .none] 2),#[]⟩ ::
⟨(.type "type"),none,(.cls ⟨"NoMove",[(.ref 24)],[(.ref 97),(.ref 24),(.type "ValueError"),(.type "Exception"),(.type "BaseException"),(.type "object")],96,"NoMove",.true,[],[],.false,none,.false⟩),#[(some (.ref 88)),none,(some (.str "NoMove" 287)),(some (.str "NoMove" 295)),(some (.builtin "ValueError.__new__")),(some (.bool .true))]⟩ ::
⟨(.type "super"),none,(.fields #[(.ref 97),(.ref 97),(.ref 97)]),#[]⟩ ::
⟨(.type "builtin_function_or_method"),none,(.fields #[(.builtin "object.__init_subclass__"),(.ref 97)]),#[]⟩ :: t
noncomputable def cr3 (P:nH) (t:List Obj):List Obj:=⟨(.type "tuple"),none,(.seq #[] 0),#[]⟩ ::
⟨.none,none,(.fields #[]),#[]⟩ ::
⟨(.type "tuple"),none,(.seq #[(.str "rows" 310),(.str "passings" 311),(.str "row" 312)] 0),#[]⟩ ::
⟨(.type "tuple"),none,(.seq #[] 0),#[]⟩ ::
hG (top 10) "passings_of" "passings_of" 0 0 ::
hD "passings_of" 307 18 1 100 (hR 102) (hR 103) (hR 104) 314 ::
hF 10 "passings_of" (.str "knotwise.drawings" 303) (.ref 105) ::
⟨(.type "tuple"),none,(.seq #[] 0),#[]⟩ ::
⟨.none,none,(.fields #[]),#[]⟩ ::
⟨(.type "tuple"),none,(.seq #[(.str "row" 319),(.str "start" 320)] 0),#[]⟩ ::
⟨(.type "tuple"),none,(.seq #[] 0),#[]⟩ ::
hG (top 11) "seated" "seated" 0 0 ::
hD "seated" 316 23 1 107 (hR 109) (hR 110) (hR 111) 322 ::
hF 11 "seated" (.str "knotwise.drawings" 303) (.ref 112) ::
⟨(.type "tuple"),none,(.seq #[] 0),#[]⟩ ::
⟨.none,none,(.fields #[]),#[]⟩ ::
hG (top 12) "seated_rows" "seated_rows" 0 0 ::
hD "seated_rows" 324 28 1 114 hN hN (hR 116) 328 ::
hF 12 "seated_rows" (.str "knotwise.drawings" 303) (.ref 117) ::
⟨(.type "tuple"),none,(.seq #[] 0),#[]⟩ ::
⟨.none,none,(.fields #[]),#[]⟩ ::
hG (top 13) "names_of" "names_of" 0 0 ::
hD "names_of" 330 30 1 119 hN hN (hR 121) 334 ::
hF 13 "names_of" (.str "knotwise.drawings" 303) (.ref 122) ::
⟨(.type "tuple"),none,(.seq #[] 0),#[]⟩ ::
⟨.none,none,(.fields #[]),#[]⟩ ::
⟨(.type "tuple"),none,(.seq #[(.str "drawing" 339),(.str "name" 340),(.str "passing" 341)] 0),#[]⟩ ::
⟨(.type "tuple"),none,(.seq #[] 0),#[]⟩ ::
hG (top 14) "hand_of" "hand_of" 0 0 ::
hD "hand_of" 336 32 2 124 (hR 126) (hR 127) (hR 128) 343 ::
hF 14 "hand_of" (.str "knotwise.drawings" 303) (.ref 129) ::
⟨(.type "tuple"),none,(.seq #[] 0),#[]⟩ ::
⟨.none,none,(.fields #[]),#[]⟩ ::
hG (top 15) "spots_on" "spots_on" 0 0 ::
hD "spots_on" 345 37 2 131 hN hN (hR 133) 349 ::
hF 15 "spots_on" (.str "knotwise.drawings" 303) (.ref 134) ::
⟨(.type "tuple"),none,(.seq #[] 0),#[]⟩ ::
⟨.none,none,(.fields #[]),#[]⟩ ::
⟨(.type "tuple"),none,(.seq #[(.str "drawing" 354),(.str "behind" 355),(.str "row" 356),(.str "passing" 357),(.str "follower" 358)] 0),#[]⟩ ::
⟨(.type "tuple"),none,(.seq #[] 0),#[]⟩ ::
hG (top 16) "next_of" "next_of" 0 0 ::
hD "next_of" 351 41 1 136 (hR 138) (hR 139) (hR 140) 360 ::
hF 16 "next_of" (.str "knotwise.drawings" 303) (.ref 141) ::
⟨(.type "tuple"),none,(.seq #[] 0),#[]⟩ ::
⟨.none,none,(.fields #[]),#[]⟩ ::
⟨(.type "tuple"),none,(.seq #[(.str "drawing" 365),(.str "spot" 366),(.str "string" 367),(.str "row" 368)] 0),#[]⟩ ::
⟨(.type "tuple"),none,(.seq #[] 0),#[]⟩ ::
hG (top 17) "string_of" "string_of" 0 0 ::
hD "string_of" 362 47 2 143 (hR 145) (hR 146) (hR 147) 370 ::
hF 17 "string_of" (.str "knotwise.drawings" 303) (.ref 148) ::
⟨(.type "tuple"),none,(.seq #[] 0),#[]⟩ ::
⟨.none,none,(.fields #[]),#[]⟩ ::
⟨(.type "tuple"),none,(.seq #[(.str "behind" 377),(.str "one" 378),(.str "other" 379)] 0),#[]⟩ ::
⟨(.type "tuple"),none,(.seq #[] 0),#[]⟩ ::
hG (top 19) "neighbours" "neighbours" 0 0 ::
hD "neighbours" 374 53 3 150 (hR 152) (hR 153) (hR 154) 381 ::
hF 19 "neighbours" (.str "knotwise.fits" 372) (.ref 155) ::
⟨(.type "tuple"),none,(.seq #[] 0),#[]⟩ ::
⟨.none,none,(.fields #[]),#[]⟩ ::
⟨(.type "tuple"),none,(.seq #[(.str "drawing" 386),(.str "name" 387)] 0),#[]⟩ ::
⟨(.type "tuple"),none,(.seq #[] 0),#[]⟩ ::
hG (top 20) "uncurl_fits" "uncurl_fits" 0 0 ::
hD "uncurl_fits" 383 55 2 157 (hR 159) (hR 160) (hR 161) 389 ::
hF 20 "uncurl_fits" (.str "knotwise.fits" 372) (.ref 162) ::
⟨(.type "tuple"),none,(.seq #[] 0),#[]⟩ ::
⟨.none,none,(.fields #[]),#[]⟩ ::
⟨(.type "tuple"),none,(.seq #[(.str "drawing" 394),(.str "name" 395),(.str "second" 396),(.str "behind" 397)] 0),#[]⟩ ::
⟨(.type "tuple"),none,(.seq #[] 0),#[]⟩ ::
hG (top 21) "part_fits" "part_fits" 0 0 ::
hD "part_fits" 391 57 3 164 (hR 166) (hR 167) (hR 168) 399 ::
hF 21 "part_fits" (.str "knotwise.fits" 372) (.ref 169) ::
⟨(.type "tuple"),none,(.seq #[] 0),#[]⟩ ::
⟨.none,none,(.fields #[]),#[]⟩ ::
⟨(.type "tuple"),none,(.seq #[(.str "one" 404),(.str "other" 405),(.str "turn" 406)] 0),#[]⟩ ::
⟨(.type "tuple"),none,(.seq #[] 0),#[]⟩ ::
hG (top 22) "in_turn" "in_turn" 0 0 ::
hD "in_turn" 401 62 3 171 (hR 173) (hR 174) (hR 175) 408 ::
hF 22 "in_turn" (.str "knotwise.fits" 372) (.ref 176) ::
⟨(.type "tuple"),none,(.seq #[] 0),#[]⟩ ::
⟨.none,none,(.fields #[]),#[]⟩ ::
⟨(.type "tuple"),none,(.seq #[(.str "drawing" 413),(.str "name" 414),(.str "second" 415),(.str "third" 416),(.str "turn" 417),(.str "first_hand" 418),(.str "second_hand" 419),(.str "third_hand" 420)] 0),#[]⟩ ::
⟨(.type "tuple"),none,(.seq #[] 0),#[]⟩ ::
hG (top 23) "slide_pairs" "slide_pairs" 0 0 ::
hD "slide_pairs" 410 66 5 178 (hR 180) (hR 181) (hR 182) 422 ::
hF 23 "slide_pairs" (.str "knotwise.fits" 372) (.ref 183) ::
⟨(.type "tuple"),none,(.seq #[] 0),#[]⟩ ::
⟨.none,none,(.fields #[]),#[]⟩ ::
hG (top 24) "slide_fits" "slide_fits" 0 0 ::
hD "slide_fits" 424 71 5 185 hN hN (hR 187) 428 ::
hF 24 "slide_fits" (.str "knotwise.fits" 372) (.ref 188) ::
⟨(.type "tuple"),none,(.seq #[] 0),#[]⟩ ::
⟨.none,none,(.fields #[]),#[]⟩ ::
⟨(.type "tuple"),none,(.seq #[(.str "drawing" 435),(.str "names" 436),(.str "known" 437),(.str "name" 438)] 0),#[]⟩ ::
⟨(.type "tuple"),none,(.seq #[] 0),#[]⟩ ::
hG (top 26) "refuse_unknown" "refuse_unknown" 0 0 ::
hD "refuse_unknown" 432 77 2 190 (hR 192) (hR 193) (hR 194) 440 ::
hF 26 "refuse_unknown" (.str "knotwise.moves" 430) (.ref 195) ::
⟨(.type "tuple"),none,(.seq #[] 0),#[]⟩ ::
⟨.none,none,(.fields #[]),#[]⟩ ::
⟨(.type "tuple"),none,(.seq #[(.str "fits" 445)] 0),#[]⟩ ::
⟨(.type "tuple"),none,(.seq #[] 0),#[]⟩ ::
hG (top 27) "refuse_unfit" "refuse_unfit" 0 0 ::
hD "refuse_unfit" 442 82 1 197 (hR 199) (hR 200) (hR 201) 447 ::
hF 27 "refuse_unfit" (.str "knotwise.moves" 430) (.ref 202) ::
⟨(.type "tuple"),none,(.seq #[] 0),#[]⟩ ::
⟨.none,none,(.fields #[]),#[]⟩ ::
⟨(.type "tuple"),none,(.seq #[(.str "drawing" 452),(.str "names" 453),(.str "taken" 454),(.str "name" 455)] 0),#[]⟩ ::
⟨(.type "tuple"),none,(.seq #[] 0),#[]⟩ ::
hG (top 28) "refuse_new" "refuse_new" 0 0 ::
hD "refuse_new" 449 85 2 204 (hR 206) (hR 207) (hR 208) 457 ::
hF 28 "refuse_new" (.str "knotwise.moves" 430) (.ref 209) ::
⟨(.type "tuple"),none,(.seq #[] 0),#[]⟩ ::
⟨.none,none,(.fields #[]),#[]⟩ ::
⟨(.type "tuple"),none,(.seq #[(.str "drawing" 462),(.str "spot" 463),(.str "passings" 464),(.str "string" 465),(.str "rows" 466),(.str "place" 467)] 0),#[]⟩ ::
⟨(.type "tuple"),none,(.seq #[] 0),#[]⟩ ::
hG (top 29) "with_put" "with_put" 0 0 ::
hD "with_put" 459 93 3 211 (hR 213) (hR 214) (hR 215) 469 ::
hF 29 "with_put" (.str "knotwise.moves" 430) (.ref 216) ::
⟨(.type "tuple"),none,(.seq #[] 0),#[]⟩ ::
⟨.none,none,(.fields #[]),#[]⟩ ::
hG (top 30) "taken_out" "taken_out" 0 0 ::
hD "taken_out" 471 99 2 218 hN hN (hR 220) 475 ::
hF 30 "taken_out" (.str "knotwise.moves" 430) (.ref 221) ::
⟨(.type "tuple"),none,(.seq #[] 0),#[]⟩ ::
⟨.none,none,(.fields #[]),#[]⟩ ::
hG (top 31) "spot_ahead" "spot_ahead" 0 0 ::
hD "spot_ahead" 477 104 3 223 hN hN (hR 225) 481 ::
hF 31 "spot_ahead" (.str "knotwise.moves" 430) (.ref 226) ::
⟨(.type "tuple"),none,(.seq #[] 0),#[]⟩ ::
⟨.none,none,(.fields #[]),#[]⟩ ::
⟨(.type "tuple"),none,(.seq #[(.str "drawing" 486),(.str "name" 487),(.str "second" 488),(.str "way" 489)] 0),#[]⟩ ::
⟨(.type "tuple"),none,(.seq #[] 0),#[]⟩ ::
hG (top 32) "first_in_turn" "first_in_turn" 0 0 ::
hD "first_in_turn" 483 112 4 228 (hR 230) (hR 231) (hR 232) 491 ::
hF 32 "first_in_turn" (.str "knotwise.moves" 430) (.ref 233) ::
⟨(.type "tuple"),none,(.seq #[] 0),#[]⟩ ::
⟨.none,none,(.fields #[]),#[]⟩ ::
hG (top 33) "with_changed" "with_changed" 0 0 ::
hD "with_changed" 493 116 2 235 hN hN (hR 237) 497 ::
hF 33 "with_changed" (.str "knotwise.moves" 430) (.ref 238) ::
⟨(.type "tuple"),none,(.seq #[] 0),#[]⟩ ::
⟨.none,none,(.fields #[]),#[]⟩ ::
⟨(.type "tuple"),none,(.seq #[(.str "spot" 502),(.str "names" 503)] 0),#[]⟩ ::
⟨(.type "tuple"),none,(.seq #[] 0),#[]⟩ ::
hG (top 34) "renamed_spot" "renamed_spot" 0 0 ::
hD "renamed_spot" 499 126 2 240 (hR 242) (hR 243) (hR 244) 505 ::
hF 34 "renamed_spot" (.str "knotwise.moves" 430) (.ref 245) ::
⟨(.type "tuple"),none,(.seq #[] 0),#[]⟩ ::
⟨(.type "builtin_function_or_method"),none,(.fields #[(.builtin "type.__prepare__"),(.type "type")]),#[]⟩ ::
⟨(.type "dict"),none,(.dict #[hE P "__module__" 514 (.str "knotwise.moves" 430),hE P "__qualname__" 516 (.str "Move" 515),hE P "__firstlineno__" 518 (.int 130 517),hE P "__static_attributes__" 519 (.ref 254)] 4),#[]⟩ ::
⟨(.type "tuple"),none,(.seq #[] 0),#[]⟩ ::
⟨.none,none,(.fields #[]),#[]⟩ ::
hC "Move" 509 [hI 130,hI 0,hI 0,hI 0,hI 0,hR 250,(.bool .false),hI 181,hR 251,hN,hN,hN,hN,hI 512,hI 130,hS 513] ::
⟨(.type "frame"),none,.plain,#[(some (.ref 252)),(some (.ref 3)),(some (.ref 249)),none,(some (.str "knotwise.moves" 430)),none,(some (.ref 0))]⟩ ::
⟨(.type "tuple"),none,(.seq #[] 0),#[]⟩ ::
⟨(.type "dict"),none,(.dict #[hE P "__module__" 514 (.str "knotwise.moves" 430),hE P "__firstlineno__" 518 (.int 130 517),hE P "__static_attributes__" 519 (.ref 254),hE P "__dict__" 521 (.ref 257),hE P "__weakref__" 523 (.ref 258),hE P "__doc__" 524 .none] 4),#[]⟩ :: t
noncomputable def cr4 (P:nH) (t:List Obj):List Obj:=⟨(.type "getset_descriptor"),none,(.fields #[(.str "__dict__" 520),(.ref 256),(.builtin "function.__dict__"),(.builtin "function.__dict__#set")]),#[]⟩ ::
⟨(.type "getset_descriptor"),none,(.fields #[(.str "__weakref__" 522),(.ref 256),(.builtin "ExceptionGroup.__weakref__"),.none]),#[]⟩ ::
⟨(.type "super"),none,(.fields #[(.ref 256),(.ref 256),(.ref 256)]),#[]⟩ ::
⟨(.type "builtin_function_or_method"),none,(.fields #[(.builtin "object.__init_subclass__"),(.ref 256)]),#[]⟩ ::
⟨(.type "tuple"),none,(.seq #[(.ref 256)] 0),#[]⟩ ::
⟨(.type "builtin_function_or_method"),none,(.fields #[(.builtin "type.__prepare__"),(.type "type")]),#[]⟩ ::
⟨(.type "dict"),none,(.dict #[hE P "__module__" 534 (.str "knotwise.moves" 430),hE P "__qualname__" 536 (.str "Uncurl" 535),hE P "__firstlineno__" 538 (.int 132 537),hE P "__init__" 546 (.ref 274),hE P "told" 553 (.ref 281),hE P "refuse" 561 (.ref 288),hE P "done" 569 (.ref 295),hE P "back" 581 (.ref 302),hE P "renamed" 589 (.ref 309),hE P "__static_attributes__" 591 (.ref 310)] 10),#[]⟩ ::
⟨(.type "tuple"),none,(.seq #[] 0),#[]⟩ ::
⟨.none,none,(.fields #[(.int 134 0),(.int 4 0),(.ref 273),(.int 137 0),(.int 4 0),(.ref 280),(.int 140 0),(.int 4 0),(.ref 287),(.int 144 0),(.int 4 0),(.ref 294),(.int 148 0),(.int 4 0),(.ref 301),(.int 156 0),(.int 4 0),(.ref 308)]),#[]⟩ ::
hC "Uncurl" 529 [hI 132,hI 0,hI 0,hI 0,hI 0,hR 264,(.bool .false),hI 181,hR 265,hN,hN,hN,hN,hI 532,hI 132,hS 533] ::
⟨(.type "frame"),none,.plain,#[(some (.ref 266)),(some (.ref 3)),(some (.ref 263)),none,(some (.str "knotwise.moves" 430)),none,(some (.ref 0))]⟩ ::
⟨(.type "tuple"),none,(.seq #[] 0),#[]⟩ ::
⟨.none,none,(.fields #[]),#[]⟩ ::
⟨(.type "tuple"),none,(.seq #[(.str "self" 542),(.str "name" 543)] 0),#[]⟩ ::
⟨(.type "tuple"),none,(.seq #[] 0),#[]⟩ ::
hG (kc 36 0) "__init__" "Uncurl.__init__" 0 0 ::
⟨(.type "code"),none,(.fields #[(.str "__init__" 539),(.str "Uncurl.__init__" 540),(.str "/claim/cut.py" 541),(.int 134 0),(.int 2 0),(.int 0 0),(.int 0 0),(.int 3 0),(.ref 268),(.bool .true),(.int 181 0),(.ref 269),.none,(.ref 270),(.ref 271),(.ref 272),(.int 544 0),(.int 134 0),(.str "/claim/cut.py" 545)]),#[]⟩ ::
hM 36 0 "__init__" "Uncurl.__init__" (.str "knotwise.moves" 430) (.ref 273) ::
⟨(.type "tuple"),none,(.seq #[] 0),#[]⟩ ::
⟨.none,none,(.fields #[]),#[]⟩ ::
⟨(.type "tuple"),none,(.seq #[(.str "self" 550)] 0),#[]⟩ ::
⟨(.type "tuple"),none,(.seq #[] 0),#[]⟩ ::
hG (kc 36 1) "told" "Uncurl.told" 0 0 ::
⟨(.type "code"),none,(.fields #[(.str "told" 547),(.str "Uncurl.told" 548),(.str "/claim/cut.py" 549),(.int 137 0),(.int 1 0),(.int 0 0),(.int 0 0),(.int 3 0),(.ref 275),(.bool .true),(.int 181 0),(.ref 276),.none,(.ref 277),(.ref 278),(.ref 279),(.int 551 0),(.int 137 0),(.str "/claim/cut.py" 552)]),#[]⟩ ::
hM 36 1 "told" "Uncurl.told" (.str "knotwise.moves" 430) (.ref 280) ::
⟨(.type "tuple"),none,(.seq #[] 0),#[]⟩ ::
⟨.none,none,(.fields #[]),#[]⟩ ::
⟨(.type "tuple"),none,(.seq #[(.str "self" 557),(.str "drawing" 558)] 0),#[]⟩ ::
⟨(.type "tuple"),none,(.seq #[] 0),#[]⟩ ::
hG (kc 36 2) "refuse" "Uncurl.refuse" 0 0 ::
⟨(.type "code"),none,(.fields #[(.str "refuse" 554),(.str "Uncurl.refuse" 555),(.str "/claim/cut.py" 556),(.int 140 0),(.int 2 0),(.int 0 0),(.int 0 0),(.int 3 0),(.ref 282),(.bool .true),(.int 181 0),(.ref 283),.none,(.ref 284),(.ref 285),(.ref 286),(.int 559 0),(.int 140 0),(.str "/claim/cut.py" 560)]),#[]⟩ ::
hM 36 2 "refuse" "Uncurl.refuse" (.str "knotwise.moves" 430) (.ref 287) ::
⟨(.type "tuple"),none,(.seq #[] 0),#[]⟩ ::
⟨.none,none,(.fields #[]),#[]⟩ ::
⟨(.type "tuple"),none,(.seq #[(.str "self" 565),(.str "drawing" 566)] 0),#[]⟩ ::
⟨(.type "tuple"),none,(.seq #[] 0),#[]⟩ ::
hG (kc 36 3) "done" "Uncurl.done" 0 0 ::
⟨(.type "code"),none,(.fields #[(.str "done" 562),(.str "Uncurl.done" 563),(.str "/claim/cut.py" 564),(.int 144 0),(.int 2 0),(.int 0 0),(.int 0 0),(.int 3 0),(.ref 289),(.bool .true),(.int 181 0),(.ref 290),.none,(.ref 291),(.ref 292),(.ref 293),(.int 567 0),(.int 144 0),(.str "/claim/cut.py" 568)]),#[]⟩ ::
hM 36 3 "done" "Uncurl.done" (.str "knotwise.moves" 430) (.ref 294) ::
⟨(.type "tuple"),none,(.seq #[] 0),#[]⟩ ::
⟨.none,none,(.fields #[]),#[]⟩ ::
⟨(.type "tuple"),none,(.seq #[(.str "self" 573),(.str "drawing" 574),(.str "over" 575),(.str "under" 576),(.str "first" 577),(.str "spot" 578)] 0),#[]⟩ ::
⟨(.type "tuple"),none,(.seq #[] 0),#[]⟩ ::
hG (kc 36 4) "back" "Uncurl.back" 0 0 ::
⟨(.type "code"),none,(.fields #[(.str "back" 570),(.str "Uncurl.back" 571),(.str "/claim/cut.py" 572),(.int 148 0),(.int 2 0),(.int 0 0),(.int 0 0),(.int 3 0),(.ref 296),(.bool .true),(.int 181 0),(.ref 297),.none,(.ref 298),(.ref 299),(.ref 300),(.int 579 0),(.int 148 0),(.str "/claim/cut.py" 580)]),#[]⟩ ::
hM 36 4 "back" "Uncurl.back" (.str "knotwise.moves" 430) (.ref 301) ::
⟨(.type "tuple"),none,(.seq #[] 0),#[]⟩ ::
⟨.none,none,(.fields #[]),#[]⟩ ::
⟨(.type "tuple"),none,(.seq #[(.str "self" 585),(.str "names" 586)] 0),#[]⟩ ::
⟨(.type "tuple"),none,(.seq #[] 0),#[]⟩ ::
hG (kc 36 5) "renamed" "Uncurl.renamed" 0 0 ::
⟨(.type "code"),none,(.fields #[(.str "renamed" 582),(.str "Uncurl.renamed" 583),(.str "/claim/cut.py" 584),(.int 156 0),(.int 2 0),(.int 0 0),(.int 0 0),(.int 3 0),(.ref 303),(.bool .true),(.int 181 0),(.ref 304),.none,(.ref 305),(.ref 306),(.ref 307),(.int 587 0),(.int 156 0),(.str "/claim/cut.py" 588)]),#[]⟩ ::
hM 36 5 "renamed" "Uncurl.renamed" (.str "knotwise.moves" 430) (.ref 308) ::
⟨(.type "tuple"),none,(.seq #[(.str "name" 590)] 0),#[]⟩ ::
⟨(.type "dict"),none,(.dict #[hE P "__module__" 534 (.str "knotwise.moves" 430),hE P "__firstlineno__" 538 (.int 132 537),hE P "__init__" 546 (.ref 274),hE P "told" 553 (.ref 281),hE P "refuse" 561 (.ref 288),hE P "done" 569 (.ref 295),hE P "back" 581 (.ref 302),hE P "renamed" 589 (.ref 309),hE P "__static_attributes__" 591 (.ref 310),hE P "__doc__" 592 .none] 2),#[]⟩ ::
⟨(.type "type"),none,(.cls ⟨"Uncurl",[(.ref 256)],[(.ref 312),(.ref 256),(.type "object")],311,"Uncurl",.true,[],[],.false,none,.false⟩),#[(some (.ref 261)),none,(some (.str "Uncurl" 527)),(some (.str "Uncurl" 535)),(some (.builtin "object.__new__")),(some (.bool .true))]⟩ ::
⟨(.type "super"),none,(.fields #[(.ref 312),(.ref 312),(.ref 312)]),#[]⟩ ::
⟨(.type "builtin_function_or_method"),none,(.fields #[(.builtin "object.__init_subclass__"),(.ref 312)]),#[]⟩ :: t
noncomputable def cL0(P:nH):List Obj:=boot_o_0 P ::
boot_o_1 P ::
boot_o_2 P ::
boot_o_3 P ::
WS P (⟨.none,none,(.fields #[]),#[]⟩ ::
WR P ([]))
noncomputable def cS0(w:World)(os:mP):o7:=⟨K2.bt (cL0 w.params),15,{},lC [],jz,187,os⟩
noncomputable def cL1(P:nH):List Obj:=boot_o_0 P ::
boot_o_1 P ::
boot_o_2 P ::
boot_o_3 P ::
WS P (⟨.none,none,(.fields #[]),#[]⟩ ::
WR P ([]))
noncomputable def cS1(w:World)(os:mP):o7:=⟨K2.bt (cL1 w.params),15,{},lC [],jz,187,os⟩
noncomputable def cL2(P:nH):List Obj:=boot_o_0 P ::
boot_o_1 P ::
boot_o_2 P ::
⟨(.type "dict"),none,(.dict #[hE P "__name__" 165 (.str "knotwise.errors" 187),hE P "__doc__" 166 .none,hE P "__package__" 167 .none,hE P "__loader__" 168 (.builtin "__main__.__loader__#opaque"),hE P "__spec__" 169 .none,hE P "__annotations__" 170 (.ref 6),hE P "__builtins__" 171 (.ref 4),hE P "__file__" 173 (.str "/claim/cut.py" 172),hE P "__cached__" 174 .none,hE P "KnotError" 206 (.ref 24),hE P "NoName" 222 (.ref 37),hE P "NameTaken" 238 (.ref 49),hE P "NoSpot" 254 (.ref 61),hE P "TooMany" 270 (.ref 73),hE P "NoFit" 286 (.ref 85),hE P "NoMove" 302 (.ref 97)] 16),#[]⟩ ::
WS P (⟨.none,none,(.fields #[(.int 2 0),(.int 0 0),(.ref 20),(.int 4 0),(.int 0 0),(.ref 33),(.int 6 0),(.int 0 0),(.ref 45),(.int 8 0),(.int 0 0),(.ref 57),(.int 10 0),(.int 0 0),(.ref 69),(.int 12 0),(.int 0 0),(.ref 81),(.int 14 0),(.int 0 0),(.ref 93)]),#[]⟩ ::
WR P (cr2 P ([])))
noncomputable def cS2(w:World)(os:mP):o7:=⟨K2.bt (cL2 w.params),100,{},lC [],jz,303,os⟩
noncomputable def cL3(P:nH):List Obj:=boot_o_0 P ::
boot_o_1 P ::
boot_o_2 P ::
⟨(.type "dict"),none,(.dict #[hE P "__name__" 165 (.str "knotwise.moves" 430),hE P "__doc__" 166 .none,hE P "__package__" 167 .none,hE P "__loader__" 168 (.builtin "__main__.__loader__#opaque"),hE P "__spec__" 169 .none,hE P "__annotations__" 170 (.ref 6),hE P "__builtins__" 171 (.ref 4),hE P "__file__" 173 (.str "/claim/cut.py" 172),hE P "__cached__" 174 .none,hE P "KnotError" 206 (.ref 24),hE P "NoName" 222 (.ref 37),hE P "NameTaken" 238 (.ref 49),hE P "NoSpot" 254 (.ref 61),hE P "TooMany" 270 (.ref 73),hE P "NoFit" 286 (.ref 85),hE P "NoMove" 302 (.ref 97),hE P "MOST_CROSSINGS" 306 (.int 12 305),hE P "passings_of" 315 (.ref 106),hE P "seated" 323 (.ref 113),hE P "seated_rows" 329 (.ref 118),hE P "names_of" 335 (.ref 123),hE P "hand_of" 344 (.ref 130),hE P "spots_on" 350 (.ref 135),hE P "next_of" 361 (.ref 142),hE P "string_of" 371 (.ref 149),hE P "neighbours" 382 (.ref 156),hE P "uncurl_fits" 390 (.ref 163),hE P "part_fits" 400 (.ref 170),hE P "in_turn" 409 (.ref 177),hE P "slide_pairs" 423 (.ref 184),hE P "slide_fits" 429 (.ref 189),hE P "refuse_unknown" 441 (.ref 196),hE P "refuse_unfit" 448 (.ref 203),hE P "refuse_new" 458 (.ref 210),hE P "with_put" 470 (.ref 217),hE P "taken_out" 476 (.ref 222),hE P "spot_ahead" 482 (.ref 227),hE P "first_in_turn" 492 (.ref 234),hE P "with_changed" 498 (.ref 239),hE P "renamed_spot" 506 (.ref 246),hE P "Move" 526 (.ref 256),hE P "Uncurl" 594 (.ref 312)] 42),#[]⟩ ::
WS P (⟨.none,none,(.fields #[(.int 2 0),(.int 0 0),(.ref 20),(.int 4 0),(.int 0 0),(.ref 33),(.int 6 0),(.int 0 0),(.ref 45),(.int 8 0),(.int 0 0),(.ref 57),(.int 10 0),(.int 0 0),(.ref 69),(.int 12 0),(.int 0 0),(.ref 81),(.int 14 0),(.int 0 0),(.ref 93),(.int 18 0),(.int 0 0),(.ref 105),(.int 23 0),(.int 0 0),(.ref 112),(.int 28 0),(.int 0 0),(.ref 117),(.int 30 0),(.int 0 0),(.ref 122),(.int 32 0),(.int 0 0),(.ref 129),(.int 37 0),(.int 0 0),(.ref 134),(.int 41 0),(.int 0 0),(.ref 141),(.int 47 0),(.int 0 0),(.ref 148),(.int 53 0),(.int 0 0),(.ref 155),(.int 55 0),(.int 0 0),(.ref 162),(.int 57 0),(.int 0 0),(.ref 169),(.int 62 0),(.int 0 0),(.ref 176),(.int 66 0),(.int 0 0),(.ref 183),(.int 71 0),(.int 0 0),(.ref 188),(.int 77 0),(.int 0 0),(.ref 195),(.int 82 0),(.int 0 0),(.ref 202),(.int 85 0),(.int 0 0),(.ref 209),(.int 93 0),(.int 0 0),(.ref 216),(.int 99 0),(.int 0 0),(.ref 221),(.int 104 0),(.int 0 0),(.ref 226),(.int 112 0),(.int 0 0),(.ref 233),(.int 116 0),(.int 0 0),(.ref 238),(.int 126 0),(.int 0 0),(.ref 245),(.int 130 0),(.int 0 0),(.ref 252),(.int 132 0),(.int 0 0),(.ref 266)]),#[]⟩ ::
WR P (cr2 P (cr3 P (⟨(.type "type"),none,(.cls ⟨"Move",[(.type "object")],[(.ref 256),(.type "object")],255,"Move",.true,[],[(.ref 312)],.false,none,.false⟩),#[none,none,(some (.str "Move" 507)),(some (.str "Move" 515)),(some (.builtin "object.__new__")),(some (.bool .true))]⟩ ::
cr4 P ([])))))
noncomputable def cS3(w:World)(os:mP):o7:=⟨K2.bt (cL3 w.params),315,{},lC [],jz,595,os⟩
noncomputable def cL4(P:nH):List Obj:=boot_o_0 P ::
boot_o_1 P ::
boot_o_2 P ::
⟨(.type "dict"),none,(.dict #[hE P "__name__" 165 (.str "knotwise.moves" 430),hE P "__doc__" 166 .none,hE P "__package__" 167 .none,hE P "__loader__" 168 (.builtin "__main__.__loader__#opaque"),hE P "__spec__" 169 .none,hE P "__annotations__" 170 (.ref 6),hE P "__builtins__" 171 (.ref 4),hE P "__file__" 173 (.str "/claim/cut.py" 172),hE P "__cached__" 174 .none,hE P "KnotError" 206 (.ref 24),hE P "NoName" 222 (.ref 37),hE P "NameTaken" 238 (.ref 49),hE P "NoSpot" 254 (.ref 61),hE P "TooMany" 270 (.ref 73),hE P "NoFit" 286 (.ref 85),hE P "NoMove" 302 (.ref 97),hE P "MOST_CROSSINGS" 306 (.int 12 305),hE P "passings_of" 315 (.ref 106),hE P "seated" 323 (.ref 113),hE P "seated_rows" 329 (.ref 118),hE P "names_of" 335 (.ref 123),hE P "hand_of" 344 (.ref 130),hE P "spots_on" 350 (.ref 135),hE P "next_of" 361 (.ref 142),hE P "string_of" 371 (.ref 149),hE P "neighbours" 382 (.ref 156),hE P "uncurl_fits" 390 (.ref 163),hE P "part_fits" 400 (.ref 170),hE P "in_turn" 409 (.ref 177),hE P "slide_pairs" 423 (.ref 184),hE P "slide_fits" 429 (.ref 189),hE P "refuse_unknown" 441 (.ref 196),hE P "refuse_unfit" 448 (.ref 203),hE P "refuse_new" 458 (.ref 210),hE P "with_put" 470 (.ref 217),hE P "taken_out" 476 (.ref 222),hE P "spot_ahead" 482 (.ref 227),hE P "first_in_turn" 492 (.ref 234),hE P "with_changed" 498 (.ref 239),hE P "renamed_spot" 506 (.ref 246),hE P "Move" 526 (.ref 256),hE P "Uncurl" 594 (.ref 312),hE P "Curl" 657 (.ref 359),hE P "Part" 731 (.ref 413),hE P "Lay" 811 (.ref 467)] 45),#[]⟩ ::
WS P (⟨.none,none,(.fields #[(.int 2 0),(.int 0 0),(.ref 20),(.int 4 0),(.int 0 0),(.ref 33),(.int 6 0),(.int 0 0),(.ref 45),(.int 8 0),(.int 0 0),(.ref 57),(.int 10 0),(.int 0 0),(.ref 69),(.int 12 0),(.int 0 0),(.ref 81),(.int 14 0),(.int 0 0),(.ref 93),(.int 18 0),(.int 0 0),(.ref 105),(.int 23 0),(.int 0 0),(.ref 112),(.int 28 0),(.int 0 0),(.ref 117),(.int 30 0),(.int 0 0),(.ref 122),(.int 32 0),(.int 0 0),(.ref 129),(.int 37 0),(.int 0 0),(.ref 134),(.int 41 0),(.int 0 0),(.ref 141),(.int 47 0),(.int 0 0),(.ref 148),(.int 53 0),(.int 0 0),(.ref 155),(.int 55 0),(.int 0 0),(.ref 162),(.int 57 0),(.int 0 0),(.ref 169),(.int 62 0),(.int 0 0),(.ref 176),(.int 66 0),(.int 0 0),(.ref 183),(.int 71 0),(.int 0 0),(.ref 188),(.int 77 0),(.int 0 0),(.ref 195),(.int 82 0),(.int 0 0),(.ref 202),(.int 85 0),(.int 0 0),(.ref 209),(.int 93 0),(.int 0 0),(.ref 216),(.int 99 0),(.int 0 0),(.ref 221),(.int 104 0),(.int 0 0),(.ref 226),(.int 112 0),(.int 0 0),(.ref 233),(.int 116 0),(.int 0 0),(.ref 238),(.int 126 0),(.int 0 0),(.ref 245),(.int 130 0),(.int 0 0),(.ref 252),(.int 132 0),(.int 0 0),(.ref 266),(.int 158 0),(.int 0 0),(.ref 320),(.int 180 0),(.int 0 0),(.ref 367),(.int 211 0),(.int 0 0),(.ref 421)]),#[]⟩ ::
WR P (cr2 P (cr3 P (⟨(.type "type"),none,(.cls ⟨"Move",[(.type "object")],[(.ref 256),(.type "object")],255,"Move",.true,[],[(.ref 312),(.ref 359),(.ref 413),(.ref 467)],.false,none,.false⟩),#[none,none,(some (.str "Move" 507)),(some (.str "Move" 515)),(some (.builtin "object.__new__")),(some (.bool .true))]⟩ ::
cr4 P (⟨(.type "tuple"),none,(.seq #[(.ref 256)] 0),#[]⟩ ::
⟨(.type "builtin_function_or_method"),none,(.fields #[(.builtin "type.__prepare__"),(.type "type")]),#[]⟩ ::
⟨(.type "dict"),none,(.dict #[hE P "__module__" 602 (.str "knotwise.moves" 430),hE P "__qualname__" 604 (.str "Curl" 603),hE P "__firstlineno__" 606 (.int 158 605),hE P "__init__" 617 (.ref 328),hE P "told" 624 (.ref 335),hE P "done" 633 (.ref 342),hE P "back" 641 (.ref 349),hE P "renamed" 649 (.ref 356),hE P "__static_attributes__" 654 (.ref 357)] 9),#[]⟩ ::
⟨(.type "tuple"),none,(.seq #[] 0),#[]⟩ ::
⟨.none,none,(.fields #[(.int 160 0),(.int 4 0),(.ref 327),(.int 166 0),(.int 4 0),(.ref 334),(.int 169 0),(.int 4 0),(.ref 341),(.int 174 0),(.int 4 0),(.ref 348),(.int 178 0),(.int 4 0),(.ref 355)]),#[]⟩ ::
hC "Curl" 597 [hI 158,hI 0,hI 0,hI 0,hI 0,hR 318,(.bool .false),hI 181,hR 319,hN,hN,hN,hN,hI 600,hI 158,hS 601] ::
⟨(.type "frame"),none,.plain,#[(some (.ref 320)),(some (.ref 3)),(some (.ref 317)),none,(some (.str "knotwise.moves" 430)),none,(some (.ref 0))]⟩ ::
⟨(.type "tuple"),none,(.seq #[] 0),#[]⟩ ::
⟨.none,none,(.fields #[]),#[]⟩ ::
⟨(.type "tuple"),none,(.seq #[(.str "self" 610),(.str "name" 611),(.str "spot" 612),(.str "first" 613),(.str "hand" 614)] 0),#[]⟩ ::
⟨(.type "tuple"),none,(.seq #[] 0),#[]⟩ ::
hG (kc 37 0) "__init__" "Curl.__init__" 0 0 ::
⟨(.type "code"),none,(.fields #[(.str "__init__" 607),(.str "Curl.__init__" 608),(.str "/claim/cut.py" 609),(.int 160 0),(.int 5 0),(.int 0 0),(.int 0 0),(.int 3 0),(.ref 322),(.bool .true),(.int 181 0),(.ref 323),.none,(.ref 324),(.ref 325),(.ref 326),(.int 615 0),(.int 160 0),(.str "/claim/cut.py" 616)]),#[]⟩ ::
hM 37 0 "__init__" "Curl.__init__" (.str "knotwise.moves" 430) (.ref 327) ::
⟨(.type "tuple"),none,(.seq #[] 0),#[]⟩ ::
⟨.none,none,(.fields #[]),#[]⟩ ::
⟨(.type "tuple"),none,(.seq #[(.str "self" 621)] 0),#[]⟩ ::
⟨(.type "tuple"),none,(.seq #[] 0),#[]⟩ ::
hG (kc 37 1) "told" "Curl.told" 0 0 ::
⟨(.type "code"),none,(.fields #[(.str "told" 618),(.str "Curl.told" 619),(.str "/claim/cut.py" 620),(.int 166 0),(.int 1 0),(.int 0 0),(.int 0 0),(.int 3 0),(.ref 329),(.bool .true),(.int 181 0),(.ref 330),.none,(.ref 331),(.ref 332),(.ref 333),(.int 622 0),(.int 166 0),(.str "/claim/cut.py" 623)]),#[]⟩ ::
hM 37 1 "told" "Curl.told" (.str "knotwise.moves" 430) (.ref 334) ::
⟨(.type "tuple"),none,(.seq #[] 0),#[]⟩ ::
⟨.none,none,(.fields #[]),#[]⟩ ::
⟨(.type "tuple"),none,(.seq #[(.str "self" 628),(.str "drawing" 629),(.str "passings" 630)] 0),#[]⟩ ::
⟨(.type "tuple"),none,(.seq #[] 0),#[]⟩ ::
hG (kc 37 2) "done" "Curl.done" 0 0 ::
⟨(.type "code"),none,(.fields #[(.str "done" 625),(.str "Curl.done" 626),(.str "/claim/cut.py" 627),(.int 169 0),(.int 2 0),(.int 0 0),(.int 0 0),(.int 3 0),(.ref 336),(.bool .true),(.int 181 0),(.ref 337),.none,(.ref 338),(.ref 339),(.ref 340),(.int 631 0),(.int 169 0),(.str "/claim/cut.py" 632)]),#[]⟩ ::
hM 37 2 "done" "Curl.done" (.str "knotwise.moves" 430) (.ref 341) ::
⟨(.type "tuple"),none,(.seq #[] 0),#[]⟩ ::
⟨.none,none,(.fields #[]),#[]⟩ ::
⟨(.type "tuple"),none,(.seq #[(.str "self" 637),(.str "drawing" 638)] 0),#[]⟩ ::
⟨(.type "tuple"),none,(.seq #[] 0),#[]⟩ ::
hG (kc 37 3) "back" "Curl.back" 0 0 ::
⟨(.type "code"),none,(.fields #[(.str "back" 634),(.str "Curl.back" 635),(.str "/claim/cut.py" 636),(.int 174 0),(.int 2 0),(.int 0 0),(.int 0 0),(.int 3 0),(.ref 343),(.bool .true),(.int 181 0),(.ref 344),.none,(.ref 345),(.ref 346),(.ref 347),(.int 639 0),(.int 174 0),(.str "/claim/cut.py" 640)]),#[]⟩ ::
hM 37 3 "back" "Curl.back" (.str "knotwise.moves" 430) (.ref 348) ::
⟨(.type "tuple"),none,(.seq #[] 0),#[]⟩ ::
⟨.none,none,(.fields #[]),#[]⟩ ::
⟨(.type "tuple"),none,(.seq #[(.str "self" 645),(.str "names" 646)] 0),#[]⟩ ::
⟨(.type "tuple"),none,(.seq #[] 0),#[]⟩ ::
hG (kc 37 4) "renamed" "Curl.renamed" 0 0 ::
⟨(.type "code"),none,(.fields #[(.str "renamed" 642),(.str "Curl.renamed" 643),(.str "/claim/cut.py" 644),(.int 178 0),(.int 2 0),(.int 0 0),(.int 0 0),(.int 3 0),(.ref 350),(.bool .true),(.int 181 0),(.ref 351),.none,(.ref 352),(.ref 353),(.ref 354),(.int 647 0),(.int 178 0),(.str "/claim/cut.py" 648)]),#[]⟩ ::
hM 37 4 "renamed" "Curl.renamed" (.str "knotwise.moves" 430) (.ref 355) ::
⟨(.type "tuple"),none,(.seq #[(.str "first" 650),(.str "hand" 651),(.str "name" 652),(.str "spot" 653)] 0),#[]⟩ ::
⟨(.type "dict"),none,(.dict #[hE P "__module__" 602 (.str "knotwise.moves" 430),hE P "__firstlineno__" 606 (.int 158 605),hE P "__init__" 617 (.ref 328),hE P "told" 624 (.ref 335),hE P "done" 633 (.ref 342),hE P "back" 641 (.ref 349),hE P "renamed" 649 (.ref 356),hE P "__static_attributes__" 654 (.ref 357),hE P "__doc__" 655 .none] 2),#[]⟩ ::
⟨(.type "type"),none,(.cls ⟨"Curl",[(.ref 256)],[(.ref 359),(.ref 256),(.type "object")],358,"Curl",.true,[],[],.false,none,.false⟩),#[(some (.ref 315)),none,(some (.str "Curl" 595)),(some (.str "Curl" 603)),(some (.builtin "object.__new__")),(some (.bool .true))]⟩ ::
⟨(.type "super"),none,(.fields #[(.ref 359),(.ref 359),(.ref 359)]),#[]⟩ ::
⟨(.type "builtin_function_or_method"),none,(.fields #[(.builtin "object.__init_subclass__"),(.ref 359)]),#[]⟩ ::
⟨(.type "tuple"),none,(.seq #[(.ref 256)] 0),#[]⟩ ::
⟨(.type "builtin_function_or_method"),none,(.fields #[(.builtin "type.__prepare__"),(.type "type")]),#[]⟩ ::
⟨(.type "dict"),none,(.dict #[hE P "__module__" 665 (.str "knotwise.moves" 430),hE P "__qualname__" 667 (.str "Part" 666),hE P "__firstlineno__" 669 (.int 180 668),hE P "__init__" 678 (.ref 375),hE P "told" 685 (.ref 382),hE P "refuse" 693 (.ref 389),hE P "done" 701 (.ref 396),hE P "back" 717 (.ref 403),hE P "renamed" 725 (.ref 410),hE P "__static_attributes__" 728 (.ref 411)] 10),#[]⟩ ::
⟨(.type "tuple"),none,(.seq #[] 0),#[]⟩ ::
⟨.none,none,(.fields #[(.int 182 0),(.int 4 0),(.ref 374),(.int 186 0),(.int 4 0),(.ref 381),(.int 189 0),(.int 4 0),(.ref 388),(.int 193 0),(.int 4 0),(.ref 395),(.int 197 0),(.int 4 0),(.ref 402),(.int 209 0),(.int 4 0),(.ref 409)]),#[]⟩ ::
hC "Part" 660 [hI 180,hI 0,hI 0,hI 0,hI 0,hR 365,(.bool .false),hI 181,hR 366,hN,hN,hN,hN,hI 663,hI 180,hS 664] ::
⟨(.type "frame"),none,.plain,#[(some (.ref 367)),(some (.ref 3)),(some (.ref 364)),none,(some (.str "knotwise.moves" 430)),none,(some (.ref 0))]⟩ ::
⟨(.type "tuple"),none,(.seq #[] 0),#[]⟩ ::
⟨.none,none,(.fields #[]),#[]⟩ ::
⟨(.type "tuple"),none,(.seq #[(.str "self" 673),(.str "name" 674),(.str "second" 675)] 0),#[]⟩ ::
⟨(.type "tuple"),none,(.seq #[] 0),#[]⟩ ::
hG (kc 38 0) "__init__" "Part.__init__" 0 0 ::
⟨(.type "code"),none,(.fields #[(.str "__init__" 670),(.str "Part.__init__" 671),(.str "/claim/cut.py" 672),(.int 182 0),(.int 3 0),(.int 0 0),(.int 0 0),(.int 3 0),(.ref 369),(.bool .true),(.int 181 0),(.ref 370),.none,(.ref 371),(.ref 372),(.ref 373),(.int 676 0),(.int 182 0),(.str "/claim/cut.py" 677)]),#[]⟩ ::
hM 38 0 "__init__" "Part.__init__" (.str "knotwise.moves" 430) (.ref 374) ::
⟨(.type "tuple"),none,(.seq #[] 0),#[]⟩ ::
⟨.none,none,(.fields #[]),#[]⟩ ::
⟨(.type "tuple"),none,(.seq #[(.str "self" 682)] 0),#[]⟩ ::
⟨(.type "tuple"),none,(.seq #[] 0),#[]⟩ ::
hG (kc 38 1) "told" "Part.told" 0 0 ::
⟨(.type "code"),none,(.fields #[(.str "told" 679),(.str "Part.told" 680),(.str "/claim/cut.py" 681),(.int 186 0),(.int 1 0),(.int 0 0),(.int 0 0),(.int 3 0),(.ref 376),(.bool .true),(.int 181 0),(.ref 377),.none,(.ref 378),(.ref 379),(.ref 380),(.int 683 0),(.int 186 0),(.str "/claim/cut.py" 684)]),#[]⟩ ::
hM 38 1 "told" "Part.told" (.str "knotwise.moves" 430) (.ref 381) ::
⟨(.type "tuple"),none,(.seq #[] 0),#[]⟩ ::
⟨.none,none,(.fields #[]),#[]⟩ ::
⟨(.type "tuple"),none,(.seq #[(.str "self" 689),(.str "drawing" 690)] 0),#[]⟩ ::
⟨(.type "tuple"),none,(.seq #[] 0),#[]⟩ ::
hG (kc 38 2) "refuse" "Part.refuse" 0 0 ::
⟨(.type "code"),none,(.fields #[(.str "refuse" 686),(.str "Part.refuse" 687),(.str "/claim/cut.py" 688),(.int 189 0),(.int 2 0),(.int 0 0),(.int 0 0),(.int 3 0),(.ref 383),(.bool .true),(.int 181 0),(.ref 384),.none,(.ref 385),(.ref 386),(.ref 387),(.int 691 0),(.int 189 0),(.str "/claim/cut.py" 692)]),#[]⟩ ::
hM 38 2 "refuse" "Part.refuse" (.str "knotwise.moves" 430) (.ref 388) ::
⟨(.type "tuple"),none,(.seq #[] 0),#[]⟩ ::
⟨.none,none,(.fields #[]),#[]⟩ ::
⟨(.type "tuple"),none,(.seq #[(.str "self" 697),(.str "drawing" 698)] 0),#[]⟩ ::
⟨(.type "tuple"),none,(.seq #[] 0),#[]⟩ ::
hG (kc 38 3) "done" "Part.done" 0 0 ::
⟨(.type "code"),none,(.fields #[(.str "done" 694),(.str "Part.done" 695),(.str "/claim/cut.py" 696),(.int 193 0),(.int 2 0),(.int 0 0),(.int 0 0),(.int 3 0),(.ref 390),(.bool .true),(.int 181 0),(.ref 391),.none,(.ref 392),(.ref 393),(.ref 394),(.int 699 0),(.int 193 0),(.str "/claim/cut.py" 700)]),#[]⟩ ::
hM 38 3 "done" "Part.done" (.str "knotwise.moves" 430) (.ref 395) ::
⟨(.type "tuple"),none,(.seq #[] 0),#[]⟩ ::
⟨.none,none,(.fields #[]),#[]⟩ ::
⟨(.type "tuple"),none,(.seq #[(.str "self" 705),(.str "drawing" 706),(.str "first" 707),(.str "other" 708),(.str "lower" 709),(.str "overs" 710),(.str "unders" 711),(.str "over" 712),(.str "under" 713),(.str "turned" 714)] 0),#[]⟩ ::
⟨(.type "tuple"),none,(.seq #[] 0),#[]⟩ ::
hG (kc 38 4) "back" "Part.back" 0 0 ::
⟨(.type "code"),none,(.fields #[(.str "back" 702),(.str "Part.back" 703),(.str "/claim/cut.py" 704),(.int 197 0),(.int 2 0),(.int 0 0),(.int 0 0),(.int 3 0),(.ref 397),(.bool .true),(.int 181 0),(.ref 398),.none,(.ref 399),(.ref 400),(.ref 401),(.int 715 0),(.int 197 0),(.str "/claim/cut.py" 716)]),#[]⟩ ::
hM 38 4 "back" "Part.back" (.str "knotwise.moves" 430) (.ref 402) ::
⟨(.type "tuple"),none,(.seq #[] 0),#[]⟩ ::
⟨.none,none,(.fields #[]),#[]⟩ ::
⟨(.type "tuple"),none,(.seq #[(.str "self" 721),(.str "names" 722)] 0),#[]⟩ ::
⟨(.type "tuple"),none,(.seq #[] 0),#[]⟩ ::
hG (kc 38 5) "renamed" "Part.renamed" 0 0 ::
⟨(.type "code"),none,(.fields #[(.str "renamed" 718),(.str "Part.renamed" 719),(.str "/claim/cut.py" 720),(.int 209 0),(.int 2 0),(.int 0 0),(.int 0 0),(.int 3 0),(.ref 404),(.bool .true),(.int 181 0),(.ref 405),.none,(.ref 406),(.ref 407),(.ref 408),(.int 723 0),(.int 209 0),(.str "/claim/cut.py" 724)]),#[]⟩ ::
hM 38 5 "renamed" "Part.renamed" (.str "knotwise.moves" 430) (.ref 409) ::
⟨(.type "tuple"),none,(.seq #[(.str "name" 726),(.str "second" 727)] 0),#[]⟩ ::
⟨(.type "dict"),none,(.dict #[hE P "__module__" 665 (.str "knotwise.moves" 430),hE P "__firstlineno__" 669 (.int 180 668),hE P "__init__" 678 (.ref 375),hE P "told" 685 (.ref 382),hE P "refuse" 693 (.ref 389),hE P "done" 701 (.ref 396),hE P "back" 717 (.ref 403),hE P "renamed" 725 (.ref 410),hE P "__static_attributes__" 728 (.ref 411),hE P "__doc__" 729 .none] 2),#[]⟩ ::
⟨(.type "type"),none,(.cls ⟨"Part",[(.ref 256)],[(.ref 413),(.ref 256),(.type "object")],412,"Part",.true,[],[],.false,none,.false⟩),#[(some (.ref 362)),none,(some (.str "Part" 658)),(some (.str "Part" 666)),(some (.builtin "object.__new__")),(some (.bool .true))]⟩ ::
⟨(.type "super"),none,(.fields #[(.ref 413),(.ref 413),(.ref 413)]),#[]⟩ ::
⟨(.type "builtin_function_or_method"),none,(.fields #[(.builtin "object.__init_subclass__"),(.ref 413)]),#[]⟩ ::
⟨(.type "tuple"),none,(.seq #[(.ref 256)] 0),#[]⟩ ::
⟨(.type "builtin_function_or_method"),none,(.fields #[(.builtin "type.__prepare__"),(.type "type")]),#[]⟩ ::
⟨(.type "dict"),none,(.dict #[hE P "__module__" 739 (.str "knotwise.moves" 430),hE P "__qualname__" 741 (.str "Lay" 740),hE P "__firstlineno__" 743 (.int 211 742),hE P "__init__" 756 (.ref 429),hE P "told" 763 (.ref 436),hE P "passings" 771 (.ref 443),hE P "done" 781 (.ref 450),hE P "back" 789 (.ref 457),hE P "renamed" 801 (.ref 464),hE P "__static_attributes__" 808 (.ref 465)] 10),#[]⟩ ::
⟨(.type "tuple"),none,(.seq #[] 0),#[]⟩ ::
⟨.none,none,(.fields #[(.int 213 0),(.int 4 0),(.ref 428),(.int 221 0),(.int 4 0),(.ref 435),(.int 224 0),(.int 4 0),(.ref 442),(.int 227 0),(.int 4 0),(.ref 449),(.int 235 0),(.int 4 0),(.ref 456),(.int 239 0),(.int 4 0),(.ref 463)]),#[]⟩ ::
hC "Lay" 734 [hI 211,hI 0,hI 0,hI 0,hI 0,hR 419,(.bool .false),hI 181,hR 420,hN,hN,hN,hN,hI 737,hI 211,hS 738] ::
⟨(.type "frame"),none,.plain,#[(some (.ref 421)),(some (.ref 3)),(some (.ref 418)),none,(some (.str "knotwise.moves" 430)),none,(some (.ref 0))]⟩ ::
⟨(.type "tuple"),none,(.seq #[] 0),#[]⟩ ::
⟨.none,none,(.fields #[]),#[]⟩ ::
⟨(.type "tuple"),none,(.seq #[(.str "self" 747),(.str "name" 748),(.str "second" 749),(.str "over" 750),(.str "under" 751),(.str "turned" 752),(.str "hand" 753)] 0),#[]⟩ ::
⟨(.type "tuple"),none,(.seq #[] 0),#[]⟩ ::
hG (kc 39 0) "__init__" "Lay.__init__" 0 0 ::
⟨(.type "code"),none,(.fields #[(.str "__init__" 744),(.str "Lay.__init__" 745),(.str "/claim/cut.py" 746),(.int 213 0),(.int 7 0),(.int 0 0),(.int 0 0),(.int 3 0),(.ref 423),(.bool .true),(.int 181 0),(.ref 424),.none,(.ref 425),(.ref 426),(.ref 427),(.int 754 0),(.int 213 0),(.str "/claim/cut.py" 755)]),#[]⟩ ::
hM 39 0 "__init__" "Lay.__init__" (.str "knotwise.moves" 430) (.ref 428) ::
⟨(.type "tuple"),none,(.seq #[] 0),#[]⟩ ::
⟨.none,none,(.fields #[]),#[]⟩ ::
⟨(.type "tuple"),none,(.seq #[(.str "self" 760)] 0),#[]⟩ ::
⟨(.type "tuple"),none,(.seq #[] 0),#[]⟩ ::
hG (kc 39 1) "told" "Lay.told" 0 0 ::
⟨(.type "code"),none,(.fields #[(.str "told" 757),(.str "Lay.told" 758),(.str "/claim/cut.py" 759),(.int 221 0),(.int 1 0),(.int 0 0),(.int 0 0),(.int 3 0),(.ref 430),(.bool .true),(.int 181 0),(.ref 431),.none,(.ref 432),(.ref 433),(.ref 434),(.int 761 0),(.int 221 0),(.str "/claim/cut.py" 762)]),#[]⟩ ::
hM 39 1 "told" "Lay.told" (.str "knotwise.moves" 430) (.ref 435) ::
⟨(.type "tuple"),none,(.seq #[] 0),#[]⟩ ::
⟨.none,none,(.fields #[]),#[]⟩ ::
⟨(.type "tuple"),none,(.seq #[(.str "self" 767),(.str "way" 768)] 0),#[]⟩ ::
⟨(.type "tuple"),none,(.seq #[] 0),#[]⟩ ::
hG (kc 39 2) "passings" "Lay.passings" 0 0 ::
⟨(.type "code"),none,(.fields #[(.str "passings" 764),(.str "Lay.passings" 765),(.str "/claim/cut.py" 766),(.int 224 0),(.int 2 0),(.int 0 0),(.int 0 0),(.int 3 0),(.ref 437),(.bool .true),(.int 181 0),(.ref 438),.none,(.ref 439),(.ref 440),(.ref 441),(.int 769 0),(.int 224 0),(.str "/claim/cut.py" 770)]),#[]⟩ ::
hM 39 2 "passings" "Lay.passings" (.str "knotwise.moves" 430) (.ref 442) ::
⟨(.type "tuple"),none,(.seq #[] 0),#[]⟩ ::
⟨.none,none,(.fields #[]),#[]⟩ ::
⟨(.type "tuple"),none,(.seq #[(.str "self" 775),(.str "drawing" 776),(.str "above" 777),(.str "unders" 778)] 0),#[]⟩ ::
⟨(.type "tuple"),none,(.seq #[] 0),#[]⟩ ::
hG (kc 39 3) "done" "Lay.done" 0 0 ::
⟨(.type "code"),none,(.fields #[(.str "done" 772),(.str "Lay.done" 773),(.str "/claim/cut.py" 774),(.int 227 0),(.int 2 0),(.int 0 0),(.int 0 0),(.int 3 0),(.ref 444),(.bool .true),(.int 181 0),(.ref 445),.none,(.ref 446),(.ref 447),(.ref 448),(.int 779 0),(.int 227 0),(.str "/claim/cut.py" 780)]),#[]⟩ ::
hM 39 3 "done" "Lay.done" (.str "knotwise.moves" 430) (.ref 449) ::
⟨(.type "tuple"),none,(.seq #[] 0),#[]⟩ ::
⟨.none,none,(.fields #[]),#[]⟩ ::
⟨(.type "tuple"),none,(.seq #[(.str "self" 785),(.str "drawing" 786)] 0),#[]⟩ ::
⟨(.type "tuple"),none,(.seq #[] 0),#[]⟩ ::
hG (kc 39 4) "back" "Lay.back" 0 0 ::
⟨(.type "code"),none,(.fields #[(.str "back" 782),(.str "Lay.back" 783),(.str "/claim/cut.py" 784),(.int 235 0),(.int 2 0),(.int 0 0),(.int 0 0),(.int 3 0),(.ref 451),(.bool .true),(.int 181 0),(.ref 452),.none,(.ref 453),(.ref 454),(.ref 455),(.int 787 0),(.int 235 0),(.str "/claim/cut.py" 788)]),#[]⟩ ::
hM 39 4 "back" "Lay.back" (.str "knotwise.moves" 430) (.ref 456) ::
⟨(.type "tuple"),none,(.seq #[] 0),#[]⟩ ::
⟨.none,none,(.fields #[]),#[]⟩ ::
⟨(.type "tuple"),none,(.seq #[(.str "self" 793),(.str "names" 794),(.str "name" 795),(.str "second" 796),(.str "over" 797),(.str "under" 798)] 0),#[]⟩ ::
⟨(.type "tuple"),none,(.seq #[] 0),#[]⟩ ::
hG (kc 39 5) "renamed" "Lay.renamed" 0 0 ::
⟨(.type "code"),none,(.fields #[(.str "renamed" 790),(.str "Lay.renamed" 791),(.str "/claim/cut.py" 792),(.int 239 0),(.int 2 0),(.int 0 0),(.int 0 0),(.int 3 0),(.ref 458),(.bool .true),(.int 181 0),(.ref 459),.none,(.ref 460),(.ref 461),(.ref 462),(.int 799 0),(.int 239 0),(.str "/claim/cut.py" 800)]),#[]⟩ ::
hM 39 5 "renamed" "Lay.renamed" (.str "knotwise.moves" 430) (.ref 463) ::
⟨(.type "tuple"),none,(.seq #[(.str "hand" 802),(.str "name" 803),(.str "over" 804),(.str "second" 805),(.str "turned" 806),(.str "under" 807)] 0),#[]⟩ ::
⟨(.type "dict"),none,(.dict #[hE P "__module__" 739 (.str "knotwise.moves" 430),hE P "__firstlineno__" 743 (.int 211 742),hE P "__init__" 756 (.ref 429),hE P "told" 763 (.ref 436),hE P "passings" 771 (.ref 443),hE P "done" 781 (.ref 450),hE P "back" 789 (.ref 457),hE P "renamed" 801 (.ref 464),hE P "__static_attributes__" 808 (.ref 465),hE P "__doc__" 809 .none] 2),#[]⟩ ::
⟨(.type "type"),none,(.cls ⟨"Lay",[(.ref 256)],[(.ref 467),(.ref 256),(.type "object")],466,"Lay",.true,[],[],.false,none,.false⟩),#[(some (.ref 416)),none,(some (.str "Lay" 732)),(some (.str "Lay" 740)),(some (.builtin "object.__new__")),(some (.bool .true))]⟩ ::
⟨(.type "super"),none,(.fields #[(.ref 467),(.ref 467),(.ref 467)]),#[]⟩ ::
⟨(.type "builtin_function_or_method"),none,(.fields #[(.builtin "object.__init_subclass__"),(.ref 467)]),#[]⟩ ::
[])))))
noncomputable def cS4(w:World)(os:mP):o7:=⟨K2.bt (cL4 w.params),470,{},lC [],jz,812,os⟩
noncomputable def hL:List Str:=[]
theorem h_z (P:nH):((hZ P).isNs bu,(hZ P).objs.size,(hZ P).nsMap bu "__annotations__")=(true,11,(some (.ref 6))):=by kernel_rfl
theorem WC(w:World)(os:mP):K2.WI jy PySem.Challenge.rw_knotwise_k22_lays_there_and_back.row.prog w 11 (some (.ref 6)) 12 (K2.PF w.params os) (topStub PySem.Challenge.rw_knotwise_k22_lays_there_and_back.row.prog)=some (cS0 w os,⟨denote jy cC,cC,⟨0,0,0,0⟩,[pM cQ]⟩):=by kernel_rfl
theorem WE(w:World)(os:mP):segRunT jy PySem.Challenge.rw_knotwise_k22_lays_there_and_back.row.prog w 11 (some (.ref 6)) 1 1 (cS0 w os) (blockOf cB cE cC ⟨0,0,0,0⟩ [pM cQ])=some (.next,cS1 w os,cC,⟨0,0,0,0⟩):=by kernel_rfl
theorem aaa(w:World)(os:mP):segRunT jy PySem.Challenge.rw_knotwise_k22_lays_there_and_back.row.prog w 11 (some (.ref 6)) 1 1474 (cS1 w os) (piecesOf (cB.take 8) cE cC ⟨0,0,0,0⟩ [pM cQ])=some (.next,cS2 w os,cC,⟨14,0,15,8⟩):=by kernel_rfl
theorem Z9(w:World)(os:mP):segRunT jy PySem.Challenge.rw_knotwise_k22_lays_there_and_back.row.prog w 11 (some (.ref 6)) 1 1323 (cS2 w os) (piecesOf ((cB.drop 8).take 29) cE cC ⟨14,0,15,8⟩ [pM cQ])=some (.next,cS3 w os,cC,⟨132,0,157,54⟩):=by kernel_rfl
theorem Z8(w:World)(os:mP):segRunT jy PySem.Challenge.rw_knotwise_k22_lays_there_and_back.row.prog w 11 (some (.ref 6)) 1 1214 (cS3 w os) (piecesOf (((cB.drop 8).drop 29).take 3) cE cC ⟨132,0,157,54⟩ [pM cQ])=some (.next,cS4 w os,cC,⟨211,0,244,69⟩):=by kernel_rfl
theorem WD(w:World)(os:mP):(K2.vN jy PySem.Challenge.rw_knotwise_k22_lays_there_and_back.row.prog w 11 (some (.ref 6)) 1048 (cS4 w os) (restOf (((cB.drop 8).drop 29).drop 3) cE cC ⟨211,0,244,69⟩ [pM cQ])).map (fun s=>K2.RU PySem.Challenge.rw_knotwise_k22_lays_there_and_back.row.prog hQ hL (K2.Sr PySem.Challenge.rw_knotwise_k22_lays_there_and_back hQ) (fun s=>hA.map s.heap.get?) w.params s.abs)=some (true,MZ hQ hL,(hK w.params).map fun p=>some p.2):=by kernel_rfl
theorem T1(w:World)(os:mP):(topFrom jy (PySem.Challenge.rw_knotwise_k22_lays_there_and_back).row.prog w (12+(1+(1474+(1323+(1214+1048))))) ⟨hZ w.params,lC [],jz,vF,os⟩).map (fun s=>(openSeen hQ hL (nE (PySem.Challenge.rw_knotwise_k22_lays_there_and_back).row.prog.main.body) (K2.Sr PySem.Challenge.rw_knotwise_k22_lays_there_and_back hQ) true s,hA.map s.heap.get?))=some (MZ hQ hL,(hK w.params).map fun p=>some p.2) :=
 K2.Qw (Yf:=fun s=>hA.map s.heap.get?) (Ya:=fun w=>(hK w.params).map fun p=>some p.2) (h_z w.params) (WD w os) fun _ k=>K2.MO (WC w os) (WE w os) <| K2.BI 8 (aaa w os) <| K2.BI 29 (Z9 w os) <| K2.BI 3 (Z8 w os) <| k
theorem TZ:(PySem.Challenge.rw_knotwise_k22_lays_there_and_back).wellSaid=true:=by kernel_rfl
theorem TY:K2.Ki PySem.Challenge.rw_knotwise_k22_lays_there_and_back hQ=true:=by kernel_rfl
end
section
variable {P:bU} {w:World} {K:aw} {mg:Str->Option Value} {base:Heap}
theorem AN:bJ ["_law_script","_law_k"] ["_law_script","_law_k"] (aW (top 43)):=mQ
theorem Bu {f:Addr} {fd:ay} (F:kP K "_law_cell_at" "_law_cell_at" (top 43) f fd) (cV:mg "len" = none):eA P w K mg base eB 1 f fd ["_law_script","_law_k"] (bK K cL) :=
 mS F AN tF fun _ _ _ _ _ _ hr=>have hu:=hr.units; have hu0:=hr.Su; (az (cH (cj (Tb hu0) (aS 1) (ck cP rfl cV gf (af (aS 0) av)) (dq _)) (aE (bf (bo (ba hu (aS 0) (aS 1) (fun _ _=>rfl))))) bG)
 (aE (bf (bo aA))))
theorem yA:bJ ["_law_names_here","_law_number","_law_name"] ["_law_names_here","_law_number"] (aW (top 47)):=mQ
theorem Hm {f:Addr} {fd:ay} (F:kP K "_law_free" "_law_free" (top 47) f fd):eA P w K mg base eB 1 f fd ["_law_names_here","_law_number"] (bK K gL) :=
 mS F yA zb fun _ _ _ _ _ _ hr=>have nd:=yA.nd; have hu:=hr.units; (az (j6 (i:=2) nd rfl (cY fR aA (cY jo (aS 1) aA)))
 (az (LV bh (cj (IZ hu) (aS 2) (aS 0) (by with_unfolding_all rfl)) (aE (j6 (i:=2) nd rfl (cY fR aA (cY jo (aS 2) aA)))))
 (aE (bf (bo (aS 2))))))
theorem vZ:bJ ["_law_drawing","_law_names_here","_law_row","_law_passing"] ["_law_drawing"] (aW (top 46)):=mQ
theorem EU {f:Addr} {fd:ay} (F:kP K "_law_names" "_law_names" (top 46) f fd):eA P w K mg base eB 1 f fd ["_law_drawing"] (bK K gH) :=
 mS F vZ xl fun _ _ _ _ _ _ hr=>have nd:=vZ.nd; have hu:=hr.units; (az (j6 (i:=1) nd rfl (eh av))
 (az (dB bh rfl (ee (aS 0)) (pe (i:=2) nd rfl) (aE (dB bh rfl (ee (aS 2)) (pe (i:=3) nd rfl) (aE (cH (cj (gu hu) (ba hu (aS 3) aA (fun _ _=>rfl)) aA (dq _)) (aE (fk (jB bx cG cF fX gX (aS 1) (af (ba hu (aS 3) aA (fun _ _=>rfl)) av)))) bG)))))
 (aE (bf (bo (aS 1))))))
theorem D7:bJ ["_law_cell"] ["_law_cell"] (aW (top 45)):=mQ
theorem EV {f:Addr} {fd:ay} (F:kP K "_law_mixed" "_law_mixed" (top 45) f fd):eA P w K mg base eB 1 f fd ["_law_cell"] (bK K kT) :=
 mS F D7 xm fun _ _ _ _ _ _ hr=>(aE (bf (bo (cY jo (cY Ek (cY jo (aS 0) aA) aA) aA))))
theorem sd:bJ ["_law_drawing","_law_cell","_law_name","_law_rest","_law_hand","_law_made","_law_way","_law_row"] ["_law_drawing","_law_cell"] (aW (top 48)):=mQ
theorem Bt {f:Addr} {fd:ay} (F:kP K "_law_crossed" "_law_crossed" (top 48) f fd) (cV:mg "len" = none) (gI:mg "list" = none) (c5:mg "range" = none) {u7:Addr} {vi:ay} (fP:kL P w K mg base eB 1 u7 vi "_law_free" ["_law_names_here","_law_number"] (bK K gL)) {sS:Addr} {sY:ay} (iw:kL P w K mg base eB 1 sS sY "_law_names" ["_law_drawing"] (bK K gH)) {Hy:Addr} {HK:ay} (oW:kL P w K mg base eB 1 Hy HK "_law_mixed" ["_law_cell"] (bK K kT)):eA P w K mg base eB 2 f fd ["_law_drawing","_law_cell"] (bK K gT) :=
 mS F sd tE fun _ _ _ _ _ _ hr=>have nd:=sd.nd; have hu:=hr.units; (az (j6 (i:=2) nd rfl (aR fP.ok (hr.mono (by decide)) rfl fP.mg fP.kp fP.bi (af (aR iw.ok (hr.mono (by decide)) rfl iw.mg iw.kp iw.bi (af (aS 0) av)) (af (aS 1) av))))
 (az (j6 (i:=3) nd rfl (aR oW.ok (hr.mono (by decide)) rfl oW.mg oW.kp oW.bi (af (aS 1) av)))
 (az (j6 (i:=4) nd rfl (cY Kz aA (cY Ek aA (cY jo (aS 3) aA))))
 (az (j6 (i:=3) nd rfl (cY sE (aS 3) aA))
 (az (sx ["_law_row"] (sc:=aW (top 48)) (XN:=["_law_drawing","_law_cell","_law_name","_law_rest","_law_hand","_law_made","_law_way","_law_row"]) (i:=5) nd rfl rfl (ee (aS 0)) (fun _ _ _ _=>(pe (i:=0) (show (["_law_row"]:List Str).Nodup by decide +kernel) rfl)) (fun _ _ _ _=>.none) (fun _ _ _ _=>(nS oa rfl gI qX (af (aS 0) av))))
 (az (dB bh rfl (iB rfl c5 aA) (pe (i:=6) nd rfl) (az (j6 (i:=7) nd rfl (ba hu (aS 5) (cY jo (aS 3) (ck cP rfl cV gf (af (aS 5) av))) (fun _ _=>rfl)))
 (az (j6 (i:=3) nd rfl (cY sE (aS 3) (ck cP rfl cV gf (af (aS 5) av))))
 (az (fk (jB bx PySem.F.slot_list_insert PySem.F.type_list_insert fX Je (aS 7) (af (cY jo (aS 3) (cY fR (ck cP rfl cV gf (af (aS 7) av)) aA)) (af (cK (af (aS 2) (af (aS 6) (af (aS 4) av)))) av))))
 (aE (j6 (i:=3) nd rfl (cY sE (aS 3) (ck cP rfl cV gf (af (aS 7) av)))))))))
 (aE (bf (bo (aS 5))))))))))
theorem vX:bJ ["_law_drawing","_law_spots_here","_law_k","_law_passing"] ["_law_drawing"] (aW (top 49)):=mQ
theorem ES {f:Addr} {fd:ay} (F:kP K "_law_spots" "_law_spots" (top 49) f fd) (cV:mg "len" = none) (c5:mg "range" = none):eA P w K mg base eB 1 f fd ["_law_drawing"] (bK K gG) :=
 mS F vX Ft fun _ _ _ _ _ _ hr=>have nd:=vX.nd; have hu:=hr.units; (az (j6 (i:=1) nd rfl (eh av))
 (az (dB bh rfl (iB rfl c5 (ck cP rfl cV gf (af (aS 0) av))) (pe (i:=2) nd rfl) (az (cH (eE (cJ (ba hu (aS 0) (aS 2) (fun _ _=>rfl)))) (aE (fk (jB bx cG cF fX gX (aS 1) (af (cK (af (aS 2) (af aA av))) av)))) bG)
 (aE (dB bh rfl (ee (ba hu (aS 0) (aS 2) (fun _ _=>rfl))) (pe (i:=3) nd rfl) (aE (fk (jB bx cG cF fX gX (aS 1) (af (cK (af (ba hu (aS 3) aA (fun _ _=>rfl)) (af (ba hu (aS 3) aA (fun _ _=>rfl)) av))) av))))))))
 (aE (bf (bo (aS 1))))))
theorem AL:bJ ["_law_drawing","_law_spot","_law_passings","_law_made","_law_k","_law_row","_law_passing"] ["_law_drawing","_law_spot","_law_passings"] (aW (top 50)):=mQ
theorem JF {f:Addr} {fd:ay} (F:kP K "_law_put" "_law_put" (top 50) f fd) (cV:mg "len" = none) (gI:mg "list" = none) (c5:mg "range" = none):eA P w K mg base eB 1 f fd ["_law_drawing","_law_spot","_law_passings"] (bK K iA) :=
 mS F AL BU fun _ _ _ _ _ _ hr=>have nd:=AL.nd; have hu:=hr.units; (az (j6 (i:=3) nd rfl (eh av))
 (az (dB bh rfl (iB rfl c5 (ck cP rfl cV gf (af (aS 0) av))) (pe (i:=4) nd rfl) (az (j6 (i:=5) nd rfl (eh av))
 (az (cH (cj (gu hu) (aS 1) (cK (af (aS 4) (af aA av))) (dq _)) (aE (j6 (i:=5) nd rfl (nS oa rfl gI qX (af (aS 2) av)))) bG)
 (az (dB bh rfl (ee (ba hu (aS 0) (aS 4) (fun _ _=>rfl))) (pe (i:=6) nd rfl) (az (fk (jB bx cG cF fX gX (aS 5) (af (bo (aS 6)) av)))
 (aE (cH (cj (gu hu) (aS 1) (cK (af (ba hu (aS 6) aA (fun _ _=>rfl)) (af (ba hu (aS 6) aA (fun _ _=>rfl)) av))) (dq _)) (aE (j6 (i:=5) nd rfl (cY fR (aS 5) (aS 2)))) bG))))
 (aE (fk (jB bx cG cF fX gX (aS 3) (af (bo (aS 5)) av))))))))
 (aE (bf (bo (aS 3))))))
theorem nK:bJ ["_law_drawing","_law_one","_law_two","_law_over","_law_laid_here"] ["_law_drawing","_law_one","_law_two","_law_over"] (aW (top 57)):=mQ
theorem u3 {f:Addr} {fd:ay} (F:kP K "_law_under_spots" "_law_under_spots" (top 57) f fd) {ya:Addr} {yf:ay} (gQ:kL P w K mg base eB 1 ya yf "_law_put" ["_law_drawing","_law_spot","_law_passings"] (bK K iA)) {mC:Addr} {mF:ay} (dg:kL P w K mg base eB 1 mC mF "_law_spots" ["_law_drawing"] (bK K gG)):eA P w K mg base eB 2 f fd ["_law_drawing","_law_one","_law_two","_law_over"] (bK K fM) :=
 mS F nK vw fun _ _ _ _ _ _ hr=>have nd:=nK.nd; have hu:=hr.units; (az (j6 (i:=4) nd rfl (aR gQ.ok (hr.mono (by decide)) rfl gQ.mg gQ.kp gQ.bi (af (aS 0) (af (aS 3) (af (eh (af (cK (af (aS 1) (af aA (af aA av)))) (af (cK (af (aS 2) (af aA (af (sD oE aA) av)))) av))) av)))))
 (aE (bf (bo (p8 ["_law_spot","_law_one"] (sc:=aW (top 57)) (XN:=["_law_drawing","_law_one","_law_two","_law_over","_law_laid_here"]) (ee (aR dg.ok (hr.mono (by decide)) rfl dg.mg dg.kp dg.bi (af (aS 4) av))) (fun _ _ _ _=>(pe (i:=0) (show (["_law_spot","_law_one"]:List Str).Nodup by decide +kernel) rfl)) (fun _ _ _ _=>(.some (cj (lU hu) (aS 0) (cK (af (aS 1) (af aA av))) (dq _)))) (fun _ _ _ _=>(aS 0)))))))
theorem vY:bJ ["_law_drawing","_law_made","_law_row"] ["_law_drawing"] (aW (top 61)):=mQ
theorem ET {f:Addr} {fd:ay} (F:kP K "_law_other" "_law_other" (top 61) f fd) (sF:mg "reversed" = none):eA P w K mg base eB 1 f fd ["_law_drawing"] (bK K jK) :=
 mS F vY xk fun _ _ _ _ _ _ hr=>have nd:=vY.nd; have hu:=hr.units; (az (j6 (i:=1) nd rfl (eh av))
 (az (dB bh rfl (ee (aS 0)) (pe (i:=2) nd rfl) (aE (fk (jB bx cG cF fX gX (aS 1) (af (bo (p8 ["_law_passing"] (sc:=aW (top 61)) (XN:=["_law_drawing","_law_made","_law_row"]) (QS rfl sF (aS 2)) (fun _ _ _ _=>(pe (i:=0) (show (["_law_passing"]:List Str).Nodup by decide +kernel) rfl)) (fun _ _ _ _=>.none) (fun _ _ _ _=>(cK (af (ba hu (aS 0) aA (fun _ _=>rfl)) (af (ba hu (aS 0) aA (fun _ _=>rfl)) (af (sD oE (ba hu (aS 0) aA (fun _ _=>rfl))) av))))))) av)))))
 (aE (bf (bo (aS 1))))))
theorem zk:bJ ["self","name","second","over","under","turned","hand"] ["self","name","second","over","under","turned","hand"] (aW (kc 39 0)):=mQ
theorem zv {f:Addr} {fd:ay} (F:kP K "__init__" "Lay.__init__" (kc 39 0) f fd) (gM:gz K "name" "Lay") (fS:gz K "second" "Lay") (mH:gz K "over" "Lay") (jQ:gz K "under" "Lay") (kg:gz K "turned" "Lay") (kI:gz K "hand" "Lay"):eA P w K mg base eB 1 f fd ["self","name","second","over","under","turned","hand"] (bK K fC) :=
 mS F zk zH fun _ _ _ _ _ _ hr=>(az (gb (fO gM) (aS 0) (aS 1))
 (az (gb (fO fS) (aS 0) (aS 2))
 (az (gb (fO mH) (aS 0) (aS 3))
 (az (gb (fO jQ) (aS 0) (aS 4))
 (az (gb (fO kg) (aS 0) (aS 5))
 (aE (gb (fO kI) (aS 0) (aS 6))))))))
theorem uX:bJ ["self","name"] ["self","name"] (aW (kc 36 0)):=mQ
theorem u4 {f:Addr} {fd:ay} (F:kP K "__init__" "Uncurl.__init__" (kc 36 0) f fd) (BK:gz K "name" "Uncurl"):eA P w K mg base eB 1 f fd ["self","name"] (bK K iZ) :=
 mS F uX vA fun _ _ _ _ _ _ hr=>(aE (gb (fO BK) (aS 0) (aS 1)))
theorem xQ:bJ ["self","name","spot","first","hand"] ["self","name","spot","first","hand"] (aW (kc 37 0)):=mQ
theorem x6 {f:Addr} {fd:ay} (F:kP K "__init__" "Curl.__init__" (kc 37 0) f fd) (Fe:gz K "name" "Curl") (Fd:gz K "spot" "Curl") (CQ:gz K "first" "Curl") (Ff:gz K "hand" "Curl"):eA P w K mg base eB 1 f fd ["self","name","spot","first","hand"] (bK K jL) :=
 mS F xQ yr fun _ _ _ _ _ _ hr=>(az (gb (fO Fe) (aS 0) (aS 1))
 (az (gb (fO Fd) (aS 0) (aS 2))
 (az (gb (fO CQ) (aS 0) (aS 3))
 (aE (gb (fO Ff) (aS 0) (aS 4))))))
theorem xP:bJ ["self","name","second"] ["self","name","second"] (aW (kc 38 0)):=mQ
theorem x5 {f:Addr} {fd:ay} (F:kP K "__init__" "Part.__init__" (kc 38 0) f fd) (dA:gz K "name" "Part") (c6:gz K "second" "Part"):eA P w K mg base eB 1 f fd ["self","name","second"] (bK K dZ) :=
 mS F xP yq fun _ _ _ _ _ _ hr=>(az (gb (fO dA) (aS 0) (aS 1))
 (aE (gb (fO c6) (aS 0) (aS 2))))
theorem v5:bJ ["self","name","second","third","turn"] ["self","name","second","third","turn"] (aW (kc 40 0)):=mQ
theorem wX {f:Addr} {fd:ay} (F:kP K "__init__" "Slide.__init__" (kc 40 0) f fd) (CP:gz K "name" "Slide") (zD:gz K "second" "Slide") (BL:gz K "third" "Slide") (CO:gz K "turn" "Slide"):eA P w K mg base eB 1 f fd ["self","name","second","third","turn"] (bK K jn) :=
 mS F v5 xp fun _ _ _ _ _ _ hr=>(az (gb (fO CP) (aS 0) (aS 1))
 (az (gb (fO zD) (aS 0) (aS 2))
 (az (gb (fO BL) (aS 0) (aS 3))
 (aE (gb (fO CO) (aS 0) (aS 4))))))
theorem IS:bJ ["told"] ["told"] (aW (top 41)):=mQ
theorem JE {f:Addr} {fd:ay} (F:kP K "move_of" "move_of" (top 41) f fd) {PU:Addr} {wY:Addr} {w5:ay} (ix:FE P w K mg base 1 wY w5 PU "Uncurl" ["self","name"] (bK K iZ)) {UB:Addr} {zy:Addr} {zB:ay} (jd:FE P w K mg base 1 zy zB UB "Curl" ["self","name","spot","first","hand"] (bK K jL)) {B2:Addr} {ja:Addr} {jb:ay} (bF:FE P w K mg base 1 ja jb B2 "Part" ["self","name","second"] (bK K dZ)) {Ij:Addr} {jE:Addr} {jF:ay} (cz:FE P w K mg base 1 jE jF Ij "Lay" ["self","name","second","over","under","turned","hand"] (bK K fC)) {RD:Addr} {yc:Addr} {yi:ay} (iM:FE P w K mg base 1 yc yi RD "Slide" ["self","name","second","third","turn"] (bK K jn)):eA P w K mg base eB 3 f fd ["told"] (bK K qD) :=
 mS F IS JX fun _ _ _ _ _ _ hr=>have hu:=hr.units; (az (cH (cj (gu hu) (ba hu (aS 0) aA (fun _ _=>rfl)) k8 (dq _)) (aE (bf (bo (j7 ix.P7 ix.ns ix.ok (hr.mono (by decide)) rfl ix.mg ix.bi (af (ba hu (aS 0) aA (fun _ _=>rfl)) av))))) bG)
 (az (cH (cj (gu hu) (ba hu (aS 0) aA (fun _ _=>rfl)) k8 (dq _)) (aE (bf (bo (j7 jd.P7 jd.ns jd.ok (hr.mono (by decide)) rfl jd.mg jd.bi (af (ba hu (aS 0) aA (fun _ _=>rfl)) (af (ba hu (aS 0) aA (fun _ _=>rfl)) (af (ba hu (aS 0) aA (fun _ _=>rfl)) (af (ba hu (aS 0) aA (fun _ _=>rfl)) av)))))))) bG)
 (az (cH (cj (gu hu) (ba hu (aS 0) aA (fun _ _=>rfl)) k8 (dq _)) (aE (bf (bo (j7 bF.P7 bF.ns bF.ok (hr.mono (by decide)) rfl bF.mg bF.bi (af (ba hu (aS 0) aA (fun _ _=>rfl)) (af (ba hu (aS 0) aA (fun _ _=>rfl)) av)))))) bG)
 (az (cH (cj (gu hu) (ba hu (aS 0) aA (fun _ _=>rfl)) k8 (dq _)) (aE (bf (bo (j7 cz.P7 cz.ns cz.ok (hr.mono (by decide)) rfl cz.mg cz.bi (af (ba hu (aS 0) aA (fun _ _=>rfl)) (af (ba hu (aS 0) aA (fun _ _=>rfl)) (af (ba hu (aS 0) aA (fun _ _=>rfl)) (af (ba hu (aS 0) aA (fun _ _=>rfl)) (af (ba hu (aS 0) aA (fun _ _=>rfl)) (af (ba hu (aS 0) aA (fun _ _=>rfl)) av)))))))))) bG)
 (az (cH (cj (gu hu) (ba hu (aS 0) aA (fun _ _=>rfl)) k8 (dq _)) (aE (bf (bo (j7 iM.P7 iM.ns iM.ok (hr.mono (by decide)) rfl iM.mg iM.bi (af (ba hu (aS 0) aA (fun _ _=>rfl)) (af (ba hu (aS 0) aA (fun _ _=>rfl)) (af (ba hu (aS 0) aA (fun _ _=>rfl)) (af (ba hu (aS 0) aA (fun _ _=>rfl)) av)))))))) bG)
 (aE kG))))))
theorem D6:bJ ["_law_found"] ["_law_found"] (aW (top 44)):=mQ
theorem EN {f:Addr} {fd:ay} (F:kP K "_law_whole" "_law_whole" (top 44) f fd) (El:mg "bool" = none) (Jc:mg "int" = none) (cg:mg "isinstance" = none):eA P w K mg base eB 1 f fd ["_law_found"] (bK K fQ) :=
 mS F D6 Fq fun _ _ _ _ _ _ hr=>(aE (bf (bo (zX (l8 "int" (by decide) rfl cg rfl Jc Us (aS 0)) (wI (QV (l8 "bool" (by decide) rfl cg rfl El Ry (aS 0))))))))
theorem uK:bJ ["_law_found","_law_due","_law_part"] ["_law_found","_law_due"] (aW (top 52)):=mQ
theorem CC {f:Addr} {fd:ay} (F:kP K "_law_wholes" "_law_wholes" (top 52) f fd) (cg:mg "isinstance" = none) (cV:mg "len" = none) (j8:mg "tuple" = none) {mB:Addr} {mE:ay} (eI:kL P w K mg base eB 1 mB mE "_law_whole" ["_law_found"] (bK K fQ)):eA P w K mg base eB 2 f fd ["_law_found","_law_due"] (bK K bX) :=
 mS F uK dR fun _ _ _ _ _ _ hr=>have nd:=uK.nd; have hu:=hr.units; (az (cH (Cc.pt (lS (eE (cJ (l8 "tuple" (by decide) rfl cg rfl j8 xf (aS 0)))) (jO (cj (lU hu) (ck cP rfl cV gf (af (aS 0) av)) (ck cP rfl cV gf (af (aS 1) av)) (dq _))))) (aE (bf (bo fG))) bG)
 (az (dB bh rfl (ee (aS 0)) (pe (i:=2) nd rfl) (aE (cH (eE (cJ (aR eI.ok (hr.mono (by decide)) rfl eI.mg eI.kp eI.bi (af (aS 2) av)))) (aE (bf (bo fG))) bG)))
 (aE (bf (bo (t4 (gu hu) (aS 0) (aS 1) (dq _)))))))
theorem vW:bJ ["_law_found","_law_due","_law_k"] ["_law_found","_law_due"] (aW (top 54)):=mQ
theorem ER {f:Addr} {fd:ay} (F:kP K "_law_tells" "_law_tells" (top 54) f fd) (cg:mg "isinstance" = none) (cV:mg "len" = none) (c5:mg "range" = none) (xT:mg "str" = none) (j8:mg "tuple" = none) {lh:Addr} {lp:ay} (dG:kL P w K mg base eB 2 lh lp "_law_wholes" ["_law_found","_law_due"] (bK K bX)) {mB:Addr} {mE:ay} (eI:kL P w K mg base eB 1 mB mE "_law_whole" ["_law_found"] (bK K fQ)):eA P w K mg base eB 3 f fd ["_law_found","_law_due"] (bK K bZ) :=
 mS F vW eW fun _ _ _ _ _ _ hr=>have nd:=vW.nd; have hu:=hr.units; (az (cH (Cc.pt (lS (eE (cJ (l8 "tuple" (by decide) rfl cg rfl j8 xf (aS 0)))) (jO (cj (lU hu) (ck cP rfl cV gf (af (aS 0) av)) (ck cP rfl cV gf (af (aS 1) av)) (dq _))))) (aE (bf (bo fG))) bG)
 (az (cH (Cc.pt (lS (eE (cJ (l8 "str" (by decide) rfl cg rfl xT PC (ba hu (aS 0) aA (fun _ _=>rfl))))) (jO (cj (lU hu) (ba hu (aS 0) aA (fun _ _=>rfl)) (ba hu (aS 1) aA (fun _ _=>rfl)) (dq _))))) (aE (bf (bo fG))) bG)
 (az (dB bh rfl (IW rfl c5 aA (ck cP rfl cV gf (af (aS 1) av))) (pe (i:=2) nd rfl) (aE (cH (cJ (l8 "tuple" (by decide) rfl cg rfl j8 xf (ba hu (aS 1) (aS 2) (fun _ _=>rfl)))) (aE (cH (eE (cJ (aR dG.ok (hr.mono (by decide)) rfl dG.mg dG.kp dG.bi (af (ba hu (aS 0) (aS 2) (fun _ _=>rfl)) (af (ba hu (aS 1) (aS 2) (fun _ _=>rfl)) av))))) (aE (bf (bo fG))) bG)) (aE (cH (Cc.pt (lS (eE (cJ (aR eI.ok (hr.mono (by decide)) rfl eI.mg eI.kp eI.bi (af (ba hu (aS 0) (aS 2) (fun _ _=>rfl)) av)))) (jO (cj (lU hu) (ba hu (aS 0) (aS 2) (fun _ _=>rfl)) (ba hu (aS 1) (aS 2) (fun _ _=>rfl)) (dq _))))) (aE (bf (bo fG))) bG)))))
 (aE (bf (bo fG))))))
theorem Gu:bJ ["self"] ["self"] (aW (kc 39 1)):=mQ
theorem Ho {f:Addr} {fd:ay} (F:kP K "told" "Lay.told" (kc 39 1) f fd) (kI:gz K "hand" "Lay") (kg:gz K "turned" "Lay") (jQ:gz K "under" "Lay") (mH:gz K "over" "Lay") (fS:gz K "second" "Lay") (gM:gz K "name" "Lay"):eA P w K mg base eB 1 f fd ["self"] (bK K iU) :=
 mS F Gu Ie fun _ _ _ _ _ _ hr=>(aE (bf (bo (cK (af k8 (af (cb (fO gM) (aS 0)) (af (cb (fO fS) (aS 0)) (af (cb (fO mH) (aS 0)) (af (cb (fO jQ) (aS 0)) (af (cb (fO kg) (aS 0)) (af (cb (fO kI) (aS 0)) av)))))))))))
theorem v3:bJ ["_law_drawing","_law_made","_law_row","_law_at"] ["_law_drawing"] (aW (top 51)):=mQ
theorem EW {f:Addr} {fd:ay} (F:kP K "_law_begun" "_law_begun" (top 51) f fd) (xU:mg "min" = none):eA P w K mg base eB 1 f fd ["_law_drawing"] (bK K eS) :=
 mS F v3 xn fun _ _ _ _ _ _ hr=>have nd:=v3.nd; have hu:=hr.units; (az (j6 (i:=1) nd rfl (eh av))
 (az (dB bh rfl (ee (aS 0)) (pe (i:=2) nd rfl) (az (j6 (i:=3) nd rfl aA)
 (az (cH (cJ (aS 2)) (aE (j6 (i:=3) nd rfl (jB bx jj lN fX (t6 hu) (aS 2) (af (ck (DE rfl hu) rfl xU PD (af (aS 2) av)) av)))) bG)
 (aE (fk (jB bx cG cF fX gX (aS 1) (af (bo (cY fR (gN (aS 2) (ie (aS 3)) iJ) (gN (aS 2) iJ (ie (aS 3))))) av)))))))
 (aE (bf (bo (aS 1))))))
theorem yz:bJ ["_law_drawing","_law_told","_law_overs","_law_unders"] ["_law_drawing","_law_told"] (aW (top 56)):=mQ
theorem Hl {f:Addr} {fd:ay} (F:kP K "_law_laid" "_law_laid" (top 56) f fd) {sT:Addr} {sZ:ay} (fe:kL P w K mg base eB 1 sT sZ "_law_begun" ["_law_drawing"] (bK K eS)) {ya:Addr} {yf:ay} (gQ:kL P w K mg base eB 1 ya yf "_law_put" ["_law_drawing","_law_spot","_law_passings"] (bK K iA)):eA P w K mg base eB 2 f fd ["_law_drawing","_law_told"] (bK K iT) :=
 mS F yz Ib fun _ _ _ _ _ _ hr=>have nd:=yz.nd; have hu:=hr.units; (az (j6 (i:=2) nd rfl (eh (af (cK (af (ba hu (aS 1) aA (fun _ _=>rfl)) (af aA (af (ba hu (aS 1) aA (fun _ _=>rfl)) av)))) (af (cK (af (ba hu (aS 1) aA (fun _ _=>rfl)) (af aA (af (sD oE (ba hu (aS 1) aA (fun _ _=>rfl))) av)))) av))))
 (az (j6 (i:=3) nd rfl (eh (af (cK (af (ba hu (aS 1) aA (fun _ _=>rfl)) (af aA (af (ba hu (aS 1) aA (fun _ _=>rfl)) av)))) (af (cK (af (ba hu (aS 1) aA (fun _ _=>rfl)) (af aA (af (sD oE (ba hu (aS 1) aA (fun _ _=>rfl))) av)))) av))))
 (az (cH (cj (gu hu) (ba hu (aS 1) aA (fun _ _=>rfl)) aA (dq _)) (aE (j6 (i:=3) nd rfl (eh (af (ba hu (aS 3) aA (fun _ _=>rfl)) (af (ba hu (aS 3) aA (fun _ _=>rfl)) av))))) bG)
 (aE (bf (bo (aR fe.ok (hr.mono (by decide)) rfl fe.mg fe.kp fe.bi (af (aR gQ.ok (hr.mono (by decide)) rfl gQ.mg gQ.kp gQ.bi (af (aR gQ.ok (hr.mono (by decide)) rfl gQ.mg gQ.kp gQ.bi (af (aS 0) (af (ba hu (aS 1) aA (fun _ _=>rfl)) (af (aS 2) av)))) (af (ba hu (aS 1) aA (fun _ _=>rfl)) (af (aS 3) av)))) av))))))))
theorem r8:bJ ["rows","passings","row"] ["rows"] (aW (top 10)):=mQ
theorem Br {f:Addr} {fd:ay} (F:kP K "passings_of" "passings_of" (top 10) f fd):eA P w K mg base eB 1 f fd ["rows"] (bK K iH) :=
 mS F r8 BS fun _ _ _ _ _ _ hr=>have nd:=r8.nd; (az (j6 (i:=1) nd rfl (eh av))
 (az (dB bh rfl (ee (aS 0)) (pe (i:=2) nd rfl) (aE (fk (jB bx PySem.F.slot_list_extend PySem.F.type_list_extend fX Jf (aS 1) (af (aS 2) av)))))
 (aE (bf (bo (aS 1))))))
theorem Gs:bJ ["drawing"] ["drawing"] (aW (top 13)):=mQ
theorem Hj {f:Addr} {fd:ay} (F:kP K "names_of" "names_of" (top 13) f fd) (lV:mg "sorted" = none) {pB:Addr} {pG:ay} (fV:kL P w K mg base eB 1 pB pG "passings_of" ["rows"] (bK K iH)):eA P w K mg base eB 2 f fd ["drawing"] (bK K iS) :=
 mS F Gs y9 fun _ _ _ _ _ _ hr=>have hu:=hr.units; (aE (bf (bo (ck (qV rfl hu) rfl lV yk (af (p8 ["passing"] (sc:=aW (top 13)) (XN:=["drawing"]) (ee (aR fV.ok (hr.mono (by decide)) rfl fV.mg fV.kp fV.bi (af (aS 0) av))) (fun _ _ _ _=>(pe (i:=0) (show (["passing"]:List Str).Nodup by decide +kernel) rfl)) (fun _ _ _ _=>(.some (cj (gu hu) (ba hu (aS 0) aA (fun _ _=>rfl)) aA (dq _)))) (fun _ _ _ _=>(ba hu (aS 0) aA (fun _ _=>rfl)))) av)))))
theorem uJ:bJ ["drawing","names","taken","name"] ["drawing","names"] (aW (top 28)):=mQ
theorem CA {f:Addr} {fd:ay} (F:kP K "refuse_new" "refuse_new" (top 28) f fd) (cV:mg "len" = none) {lP:Tok} (w8:mg "MOST_CROSSINGS" = some (.int 12 lP)) {u5:Addr} {vg:ay} (i5:kL P w K mg base eB 2 u5 vg "names_of" ["drawing"] (bK K iS)):eA P w K mg base eB 3 f fd ["drawing","names"] (bK K l7) :=
 mS F uJ CT fun _ _ _ _ _ _ hr=>have nd:=uJ.nd; have hu:=hr.units; (az (j6 (i:=2) nd rfl (aR i5.ok (hr.mono (by decide)) rfl i5.mg i5.kp i5.bi (af (aS 0) av)))
 (az (cH (cj Tc (cY fR (ck cP rfl cV gf (af (aS 2) av)) (ck cP rfl cV gf (af (aS 1) av))) (QX rfl w8) (dq _)) (aE kG) bG)
 (aE (dB bh rfl (ee (aS 1)) (pe (i:=3) nd rfl) (az (cH (cj (IZ hu) (aS 3) (aS 2) (by with_unfolding_all rfl)) (aE kG) bG)
 (aE (fk (jB bx cG cF fX gX (aS 2) (af (aS 3) av)))))))))
theorem Gr:bJ ["row","string"] ["row","string"] (aW (top 15)):=mQ
theorem Hi {f:Addr} {fd:ay} (F:kP K "spots_on" "spots_on" (top 15) f fd):eA P w K mg base eB 1 f fd ["row","string"] (bK K iR) :=
 mS F Gr Ia fun _ _ _ _ _ _ hr=>(az (cH (eE (cJ (aS 0))) (aE (bf (bo (eh (af (cK (af (aS 1) (af aA av))) av))))) bG)
 (aE (bf (bo (p8 ["passing"] (sc:=aW (top 15)) (XN:=["row","string"]) (ee (aS 0)) (fun _ _ _ _=>(pe (i:=0) (show (["passing"]:List Str).Nodup by decide +kernel) rfl)) (fun _ _ _ _=>.none) (fun _ _ _ _=>(gN (aS 0) iJ (ie aA))))))))
theorem vT:bJ ["drawing","spot","string","row"] ["drawing","spot"] (aW (top 17)):=mQ
theorem EL {f:Addr} {fd:ay} (F:kP K "string_of" "string_of" (top 17) f fd) (qJ:mg "enumerate" = none) {nV:Addr} {nY:ay} (fu:kL P w K mg base eB 1 nV nY "spots_on" ["row","string"] (bK K iR)):eA P w K mg base eB 2 f fd ["drawing","spot"] (bK K jJ) :=
 mS F vT Fo fun _ _ _ _ _ _ hr=>have nd:=vT.nd; have hu:=hr.units; (az (dB bh rfl (Om rfl qJ (aS 0)) (Kv rfl (tY (pe (i:=2) nd rfl) (tY (pe (i:=3) nd rfl) GF)) (t8 (t8 Hf))) (aE (cH (cj (IZ hu) (aS 1) (aR fu.ok (hr.mono (by decide)) rfl fu.mg fu.kp fu.bi (af (aS 3) (af (aS 2) av))) (by with_unfolding_all rfl)) (aE (bf (bo (aS 2)))) bG)))
 (aE kG))
theorem yx:bJ ["drawing","spot","passings","string","rows","place"] ["drawing","spot","passings"] (aW (top 29)):=mQ
theorem Hh {f:Addr} {fd:ay} (F:kP K "with_put" "with_put" (top 29) f fd) (gI:mg "list" = none) {sQ:Addr} {sW:ay} (ip:kL P w K mg base eB 2 sQ sW "string_of" ["drawing","spot"] (bK K jJ)) {nV:Addr} {nY:ay} (fu:kL P w K mg base eB 1 nV nY "spots_on" ["row","string"] (bK K iR)):eA P w K mg base eB 3 f fd ["drawing","spot","passings"] (bK K mf) :=
 mS F yx H0 fun _ _ _ _ _ _ hr=>have nd:=yx.nd; have hu:=hr.units; (az (j6 (i:=3) nd rfl (aR ip.ok (hr.mono (by decide)) rfl ip.mg ip.kp ip.bi (af (aS 0) (af (aS 1) av))))
 (az (j6 (i:=4) nd rfl (nS oa rfl gI qX (af (aS 0) av)))
 (az (j6 (i:=5) nd rfl (cY fR (jB bx jj lN fX (t6 hu) (aR fu.ok (hr.mono (by decide)) rfl fu.mg fu.kp fu.bi (af (ba hu (aS 4) (aS 3) (fun _ _=>rfl)) (af (aS 3) av))) (af (aS 1) av)) aA))
 (az (Kt (cY fR (cY fR (gN (ba hu (aS 4) (aS 3) (fun _ _=>rfl)) iJ (ie (aS 5))) (aS 2)) (gN (ba hu (aS 4) (aS 3) (fun _ _=>rfl)) (ie (aS 5)) iJ)) (Kw hu (aS 4) (aS 3)))
 (aE (bf (bo (aS 4))))))))
theorem zj:bJ ["self","way"] ["self","way"] (aW (kc 39 2)):=mQ
theorem zu {f:Addr} {fd:ay} (F:kP K "passings" "Lay.passings" (kc 39 2) f fd) (kI:gz K "hand" "Lay") (fS:gz K "second" "Lay") (gM:gz K "name" "Lay"):eA P w K mg base eB 1 f fd ["self","way"] (bK K eT) :=
 mS F zj zG fun _ _ _ _ _ _ hr=>(aE (bf (bo (eh (af (cK (af (cb (fO gM) (aS 0)) (af (aS 1) (af (cb (fO kI) (aS 0)) av)))) (af (cK (af (cb (fO fS) (aS 0)) (af (aS 1) (af (sD oE (cb (fO kI) (aS 0))) av)))) av))))))
theorem C8:bJ ["row","start"] ["row"] (aW (top 11)):=mQ
theorem MH {f:Addr} {fd:ay} (F:kP K "seated" "seated" (top 11) f fd) (xU:mg "min" = none):eA P w K mg base eB 1 f fd ["row"] (bK K pR) :=
 mS F C8 DO fun _ _ _ _ _ _ hr=>have nd:=C8.nd; have hu:=hr.units; (az (cH (eE (cJ (aS 0))) (aE (bf (bo (eh av)))) bG)
 (az (j6 (i:=1) nd rfl (jB bx jj lN fX (t6 hu) (aS 0) (af (ck (DE rfl hu) rfl xU PD (af (aS 0) av)) av)))
 (aE (bf (bo (cY fR (gN (aS 0) (ie (aS 1)) iJ) (gN (aS 0) iJ (ie (aS 1)))))))))
theorem AJ:bJ ["rows"] ["rows"] (aW (top 12)):=mQ
theorem Bq {f:Addr} {fd:ay} (F:kP K "seated_rows" "seated_rows" (top 12) f fd) {Pb:Addr} {Pp:ay} (xc:kL P w K mg base eB 1 Pb Pp "seated" ["row"] (bK K pR)):eA P w K mg base eB 2 f fd ["rows"] (bK K bR) :=
 mS F AJ tD fun _ _ _ _ _ _ hr=>(aE (bf (bo (p8 ["row"] (sc:=aW (top 12)) (XN:=["rows"]) (ee (aS 0)) (fun _ _ _ _=>(pe (i:=0) (show (["row"]:List Str).Nodup by decide +kernel) rfl)) (fun _ _ _ _=>.none) (fun _ _ _ _=>(aR xc.ok (hr.mono (by decide)) rfl xc.mg xc.kp xc.bi (af (aS 0) av)))))))
theorem yC:bJ ["self","drawing","above","unders"] ["self","drawing"] (aW (kc 39 3)):=mQ
theorem Hq {f:Addr} {fd:ay} (F:kP K "done" "Lay.done" (kc 39 3) f fd) (fS:gz K "second" "Lay") (gM:gz K "name" "Lay") (jQ:gz K "under" "Lay") (mH:gz K "over" "Lay") (kg:gz K "turned" "Lay") {E2:Addr} {E9:ay} (nv:kL P w K mg base eB 3 E2 E9 "refuse_new" ["drawing","names"] (bK K l7)) {JH:Addr} {JM:ay} (jG:kL P w K mg base eB 3 JH JM "with_put" ["drawing","spot","passings"] (bK K mf)) {zI:Addr} {BB:Addr} {BF:ay} (fx:B1 P w K mg base eB 1 BB BF zI "Lay" "passings" ["self","way"] (bK K eT)) {pA:Addr} {pE:ay} (fU:kL P w K mg base eB 2 pA pE "seated_rows" ["rows"] (bK K bR)):eA P w K mg base eB 4 f fd ["self","drawing"] (bK K iV) :=
 mS F yC Ig fun _ _ _ _ _ _ hr=>have nd:=yC.nd; have hu:=hr.units; (az (fk (aR nv.ok (hr.mono (by decide)) rfl nv.mg nv.kp nv.bi (af (aS 1) (af (eh (af (cb (fO gM) (aS 0)) (af (cb (fO fS) (aS 0)) av))) av))))
 (az (cH (cj (gu hu) (cb (fO jQ) (aS 0)) (cK (af (cb (fO gM) (aS 0)) (af aA av))) (dq _)) (aE kG) bG)
 (az (j6 (i:=2) nd rfl (aR jG.ok (hr.mono (by decide)) rfl jG.mg jG.kp jG.bi (af (aS 1) (af (cb (fO mH) (aS 0)) (af (jh (gO fx.me fx.ok (hr.mono (by decide)) fx.bi iK) (aS 0) (af aA av)) av)))))
 (az (j6 (i:=3) nd rfl (IX (cj (gu hu) (cb (fO kg) (aS 0)) aA (dq _)) (jh (gO fx.me fx.ok (hr.mono (by decide)) fx.bi iK) (aS 0) (af aA av)) (Ot (jh (gO fx.me fx.ok (hr.mono (by decide)) fx.bi iK) (aS 0) (af aA av)) (ie (sD oE aA)))))
 (aE (bf (bo (aR fU.ok (hr.mono (by decide)) rfl fU.mg fU.kp fU.bi (af (aR jG.ok (hr.mono (by decide)) rfl jG.mg jG.kp jG.bi (af (aS 2) (af (cb (fO jQ) (aS 0)) (af (aS 3) av)))) av)))))))))
theorem yy:bJ ["_law_found","_law_due","_law_k","_law_j"] ["_law_found","_law_due"] (aW (top 53)):=mQ
theorem Hk {f:Addr} {fd:ay} (F:kP K "_law_same" "_law_same" (top 53) f fd) (cg:mg "isinstance" = none) (cV:mg "len" = none) (gI:mg "list" = none) (c5:mg "range" = none) {lh:Addr} {lp:ay} (dG:kL P w K mg base eB 2 lh lp "_law_wholes" ["_law_found","_law_due"] (bK K bX)):eA P w K mg base eB 3 f fd ["_law_found","_law_due"] (bK K ib) :=
 mS F yy za fun _ _ _ _ _ _ hr=>have nd:=yy.nd; have hu:=hr.units; (az (cH (Cc.pt (lS (eE (cJ (l8 "list" (by decide) rfl cg rfl gI qX (aS 0)))) (jO (cj (lU hu) (ck cP rfl cV gf (af (aS 0) av)) (ck cP rfl cV gf (af (aS 1) av)) (dq _))))) (aE (bf (bo fG))) bG)
 (az (dB bh rfl (iB rfl c5 (ck cP rfl cV gf (af (aS 1) av))) (pe (i:=2) nd rfl) (az (cH (Cc.pt (lS (eE (cJ (l8 "list" (by decide) rfl cg rfl gI qX (ba hu (aS 0) (aS 2) (fun _ _=>rfl))))) (jO (cj (lU hu) (ck cP rfl cV gf (af (ba hu (aS 0) (aS 2) (fun _ _=>rfl)) av)) (ck cP rfl cV gf (af (ba hu (aS 1) (aS 2) (fun _ _=>rfl)) av)) (dq _))))) (aE (bf (bo fG))) bG)
 (aE (dB bh rfl (iB rfl c5 (ck cP rfl cV gf (af (ba hu (aS 1) (aS 2) (fun _ _=>rfl)) av))) (pe (i:=3) nd rfl) (aE (cH (eE (cJ (aR dG.ok (hr.mono (by decide)) rfl dG.mg dG.kp dG.bi (af (ba hu (ba hu (aS 0) (aS 2) (fun _ _=>rfl)) (aS 3) (fun _ _=>rfl)) (af (ba hu (ba hu (aS 1) (aS 2) (fun _ _=>rfl)) (aS 3) (fun _ _=>rfl)) av))))) (aE (bf (bo fG))) bG))))))
 (aE (bf (bo fG)))))
theorem Gv:bJ ["self","drawing"] ["self","drawing"] (aW (kc 39 4)):=mQ
theorem Hr {f:Addr} {fd:ay} (F:kP K "back" "Lay.back" (kc 39 4) f fd) (fS:gz K "second" "Lay") (gM:gz K "name" "Lay") {tO:Addr} {vd:Addr} {vm:ay} (kC:B1 P w K mg base eB 4 vd vm tO "Lay" "done" ["self","drawing"] (bK K iV)) {B2:Addr} {ja:Addr} {jb:ay} (bF:FE P w K mg base 1 ja jb B2 "Part" ["self","name","second"] (bK K dZ)):eA P w K mg base eB 5 f fd ["self","drawing"] (bK K mh) :=
 mS F Gv Ih fun _ _ _ _ _ _ hr=>(az (fk (jh (gO kC.me kC.ok (hr.mono (by decide)) kC.bi iK) (aS 0) (af (aS 1) av)))
 (aE (bf (bo (j7 bF.P7 bF.ns bF.ok (hr.mono (by decide)) rfl bF.mg bF.bi (af (cb (fO gM) (aS 0)) (af (cb (fO fS) (aS 0)) av)))))))
theorem D8:bJ ["self"] ["self"] (aW (kc 38 1)):=mQ
theorem EX {f:Addr} {fd:ay} (F:kP K "told" "Part.told" (kc 38 1) f fd) (c6:gz K "second" "Part") (dA:gz K "name" "Part"):eA P w K mg base eB 1 f fd ["self"] (bK K kW) :=
 mS F D8 Fu fun _ _ _ _ _ _ hr=>(aE (bf (bo (cK (af k8 (af (cb (fO dA) (aS 0)) (af (cb (fO c6) (aS 0)) av)))))))
theorem oG:bJ ["drawing","names","known","name"] ["drawing","names"] (aW (top 26)):=mQ
theorem wW {f:Addr} {fd:ay} (F:kP K "refuse_unknown" "refuse_unknown" (top 26) f fd) {u5:Addr} {vg:ay} (i5:kL P w K mg base eB 2 u5 vg "names_of" ["drawing"] (bK K iS)):eA P w K mg base eB 3 f fd ["drawing","names"] (bK K jm) :=
 mS F oG xj fun _ _ _ _ _ _ hr=>have nd:=oG.nd; have hu:=hr.units; (az (j6 (i:=2) nd rfl (aR i5.ok (hr.mono (by decide)) rfl i5.mg i5.kp i5.bi (af (aS 0) av)))
 (aE (dB bh rfl (ee (aS 1)) (pe (i:=3) nd rfl) (aE (cH (cj (lT hu) (aS 3) (aS 2) (by with_unfolding_all rfl)) (aE kG) bG)))))
theorem zi:bJ ["fits"] ["fits"] (aW (top 27)):=mQ
theorem zt {f:Addr} {fd:ay} (F:kP K "refuse_unfit" "refuse_unfit" (top 27) f fd):eA P w K mg base eB 1 f fd ["fits"] (bK K ki) :=
 mS F zi zF fun _ _ _ _ _ _ hr=>(aE (cH (eE (cJ (aS 0))) (aE kG) bG))
theorem AO:bJ ["drawing","name","passing"] ["drawing","name"] (aW (top 14)):=mQ
theorem JG {f:Addr} {fd:ay} (F:kP K "hand_of" "hand_of" (top 14) f fd) {pB:Addr} {pG:ay} (fV:kL P w K mg base eB 1 pB pG "passings_of" ["rows"] (bK K iH)):eA P w K mg base eB 2 f fd ["drawing","name"] (bK K kr) :=
 mS F AO JY fun _ _ _ _ _ _ hr=>have nd:=AO.nd; have hu:=hr.units; (az (dB bh rfl (ee (aR fV.ok (hr.mono (by decide)) rfl fV.mg fV.kp fV.bi (af (aS 0) av))) (pe (i:=2) nd rfl) (aE (cH (cj (gu hu) (ba hu (aS 2) aA (fun _ _=>rfl)) (aS 1) (dq _)) (aE (bf (bo (ba hu (aS 2) aA (fun _ _=>rfl))))) bG)))
 (aE kG))
theorem AK:bJ ["drawing","behind","row","passing","follower"] ["drawing"] (aW (top 16)):=mQ
theorem JD {f:Addr} {fd:ay} (F:kP K "next_of" "next_of" (top 16) f fd) (Jb:mg "zip" = none):eA P w K mg base eB 1 f fd ["drawing"] (bK K lR) :=
 mS F AK JW fun _ _ _ _ _ _ hr=>have nd:=AK.nd; have hu:=hr.units; (az (j6 (i:=1) nd rfl QW)
 (az (dB bh rfl (ee (aS 0)) (pe (i:=2) nd rfl) (aE (dB bh rfl (QR rfl Jb (aS 2) (cY fR (gN (aS 2) (ie aA) iJ) (gN (aS 2) iJ (ie aA)))) (Kv rfl (tY (pe (i:=3) nd rfl) (tY (pe (i:=4) nd rfl) GF)) (t8 (t8 Hf))) (aE (Kt (gN (aS 4) iJ (ie aA)) (Kw hu (aS 1) (gN (aS 3) iJ (ie aA))))))))
 (aE (bf (bo (aS 1))))))
theorem Ck:bJ ["behind","one","other"] ["behind","one","other"] (aW (top 19)):=mQ
theorem CB {f:Addr} {fd:ay} (F:kP K "neighbours" "neighbours" (top 19) f fd):eA P w K mg base eB 1 f fd ["behind","one","other"] (bK K j5) :=
 mS F Ck CU fun _ _ _ _ _ _ hr=>have hu:=hr.units; (aE (bf (bo (S5 (t4 (gu hu) (ba hu (aS 0) (aS 1) (fun _ _=>rfl)) (aS 2) (dq _)) (wI (t4 (gu hu) (ba hu (aS 0) (aS 2) (fun _ _=>rfl)) (aS 1) (dq _)))))))
theorem vU:bJ ["drawing","name","second","behind"] ["drawing","name","second"] (aW (top 21)):=mQ
theorem EM {f:Addr} {fd:ay} (F:kP K "part_fits" "part_fits" (top 21) f fd) {yb:Addr} {yg:ay} (gR:kL P w K mg base eB 2 yb yg "hand_of" ["drawing","name"] (bK K kr)) {x9:Addr} {ye:ay} (jS:kL P w K mg base eB 1 x9 ye "next_of" ["drawing"] (bK K lR)) {E3:Addr} {Fb:ay} (iu:kL P w K mg base eB 1 E3 Fb "neighbours" ["behind","one","other"] (bK K j5)):eA P w K mg base eB 3 f fd ["drawing","name","second"] (bK K nk) :=
 mS F vU Fp fun _ _ _ _ _ _ hr=>have nd:=vU.nd; have hu:=hr.units; (az (cH (cj (gu hu) (aR gR.ok (hr.mono (by decide)) rfl gR.mg gR.kp gR.bi (af (aS 0) (af (aS 1) av))) (aR gR.ok (hr.mono (by decide)) rfl gR.mg gR.kp gR.bi (af (aS 0) (af (aS 2) av))) (dq _)) (aE (bf (bo fG))) bG)
 (az (j6 (i:=3) nd rfl (aR jS.ok (hr.mono (by decide)) rfl jS.mg jS.kp jS.bi (af (aS 0) av)))
 (aE (bf (bo (zX (aR iu.ok (hr.mono (by decide)) rfl iu.mg iu.kp iu.bi (af (aS 3) (af (cK (af (aS 1) (af aA av))) (af (cK (af (aS 2) (af aA av))) av)))) (wI (aR iu.ok (hr.mono (by decide)) rfl iu.mg iu.kp iu.bi (af (aS 3) (af (cK (af (aS 1) (af aA av))) (af (cK (af (aS 2) (af aA av))) av)))))))))))
theorem AP:bJ ["self","drawing"] ["self","drawing"] (aW (kc 38 2)):=mQ
theorem Bv {f:Addr} {fd:ay} (F:kP K "refuse" "Part.refuse" (kc 38 2) f fd) (c6:gz K "second" "Part") (dA:gz K "name" "Part") {x8:Addr} {yd:ay} (jR:kL P w K mg base eB 3 x8 yd "refuse_unknown" ["drawing","names"] (bK K jm)) {BA:Addr} {BE:ay} (ly:kL P w K mg base eB 1 BA BE "refuse_unfit" ["fits"] (bK K ki)) {Hv:Addr} {HG:ay} (oT:kL P w K mg base eB 3 Hv HG "part_fits" ["drawing","name","second"] (bK K nk)):eA P w K mg base eB 4 f fd ["self","drawing"] (bK K fY) :=
 mS F AP BW fun _ _ _ _ _ _ hr=>(az (fk (aR jR.ok (hr.mono (by decide)) rfl jR.mg jR.kp jR.bi (af (aS 1) (af (eh (af (cb (fO dA) (aS 0)) (af (cb (fO c6) (aS 0)) av))) av))))
 (aE (fk (aR ly.ok (hr.mono (by decide)) rfl ly.mg ly.kp ly.bi (af (aR oT.ok (hr.mono (by decide)) rfl oT.mg oT.kp oT.bi (af (aS 1) (af (cb (fO dA) (aS 0)) (af (cb (fO c6) (aS 0)) av)))) av)))))
theorem vS:bJ ["drawing","names","rows","row"] ["drawing","names"] (aW (top 30)):=mQ
theorem EK {f:Addr} {fd:ay} (F:kP K "taken_out" "taken_out" (top 30) f fd) {pA:Addr} {pE:ay} (fU:kL P w K mg base eB 2 pA pE "seated_rows" ["rows"] (bK K bR)):eA P w K mg base eB 3 f fd ["drawing","names"] (bK K nj) :=
 mS F vS Fn fun _ _ _ _ _ _ hr=>have nd:=vS.nd; have hu:=hr.units; (az (j6 (i:=2) nd rfl (eh av))
 (az (dB bh rfl (ee (aS 0)) (pe (i:=3) nd rfl) (aE (fk (jB bx cG cF fX gX (aS 2) (af (bo (p8 ["passing","names"] (sc:=aW (top 30)) (XN:=["drawing","names","rows","row"]) (ee (aS 3)) (fun _ _ _ _=>(pe (i:=0) (show (["passing","names"]:List Str).Nodup by decide +kernel) rfl)) (fun _ _ _ _=>(.some (cj (lT hu) (ba hu (aS 0) aA (fun _ _=>rfl)) (aS 1) (by with_unfolding_all rfl)))) (fun _ _ _ _=>(aS 0)))) av)))))
 (aE (bf (bo (aR fU.ok (hr.mono (by decide)) rfl fU.mg fU.kp fU.bi (af (bo (aS 2)) av)))))))
theorem D9:bJ ["self","drawing"] ["self","drawing"] (aW (kc 38 3)):=mQ
theorem EY {f:Addr} {fd:ay} (F:kP K "done" "Part.done" (kc 38 3) f fd) (c6:gz K "second" "Part") (dA:gz K "name" "Part") {og:Addr} {pC:Addr} {pH:ay} (iC:B1 P w K mg base eB 4 pC pH og "Part" "refuse" ["self","drawing"] (bK K fY)) {Hu:Addr} {HF:ay} (oS:kL P w K mg base eB 3 Hu HF "taken_out" ["drawing","names"] (bK K nj)):eA P w K mg base eB 5 f fd ["self","drawing"] (bK K kX) :=
 mS F D9 Fv fun _ _ _ _ _ _ hr=>(az (fk (jh (gO iC.me iC.ok (hr.mono (by decide)) iC.bi iK) (aS 0) (af (aS 1) av)))
 (aE (bf (bo (aR oS.ok (hr.mono (by decide)) rfl oS.mg oS.kp oS.bi (af (aS 1) (af (eh (af (cb (fO dA) (aS 0)) (af (cb (fO c6) (aS 0)) av))) av)))))))
theorem xO:bJ ["drawing","name","second","way"] ["drawing","name","second","way"] (aW (top 32)):=mQ
theorem x4 {f:Addr} {fd:ay} (F:kP K "first_in_turn" "first_in_turn" (top 32) f fd) {x9:Addr} {ye:ay} (jS:kL P w K mg base eB 1 x9 ye "next_of" ["drawing"] (bK K lR)):eA P w K mg base eB 2 f fd ["drawing","name","second","way"] (bK K iI) :=
 mS F xO yp fun _ _ _ _ _ _ hr=>have hu:=hr.units; (az (cH (cj (gu hu) (ba hu (aR jS.ok (hr.mono (by decide)) rfl jS.mg jS.kp jS.bi (af (aS 0) av)) (cK (af (aS 1) (af (aS 3) av))) (fun _ _=>rfl)) (cK (af (aS 2) (af (aS 3) av))) (dq _)) (aE (bf (bo (aS 1)))) bG)
 (aE (bf (bo (aS 2)))))
theorem uI:bJ ["drawing","spot","gone","string","row","start","left"] ["drawing","spot","gone"] (aW (top 31)):=mQ
theorem Cz {f:Addr} {fd:ay} (F:kP K "spot_ahead" "spot_ahead" (top 31) f fd) {sQ:Addr} {sW:ay} (ip:kL P w K mg base eB 2 sQ sW "string_of" ["drawing","spot"] (bK K jJ)) {nV:Addr} {nY:ay} (fu:kL P w K mg base eB 1 nV nY "spots_on" ["row","string"] (bK K iR)):eA P w K mg base eB 3 f fd ["drawing","spot","gone"] (bK K j4) :=
 mS F uI CS fun _ _ _ _ _ _ hr=>have nd:=uI.nd; have hu:=hr.units; (az (j6 (i:=3) nd rfl (aR ip.ok (hr.mono (by decide)) rfl ip.mg ip.kp ip.bi (af (aS 0) (af (aS 1) av))))
 (az (j6 (i:=4) nd rfl (aR fu.ok (hr.mono (by decide)) rfl fu.mg fu.kp fu.bi (af (ba hu (aS 0) (aS 3) (fun _ _=>rfl)) (af (aS 3) av))))
 (az (j6 (i:=5) nd rfl (jB bx jj lN fX (t6 hu) (aS 4) (af (aS 1) av)))
 (az (sx ["other","gone"] (sc:=aW (top 31)) (XN:=["drawing","spot","gone","string","row","start","left"]) (i:=6) nd rfl rfl (ee (cY fR (gN (aS 4) (ie (aS 5)) iJ) (gN (aS 4) iJ (ie (aS 5))))) (fun _ _ _ _=>(pe (i:=0) (show (["other","gone"]:List Str).Nodup by decide +kernel) rfl)) (fun _ _ _ _=>(.some (cj (lT hu) (aS 0) (aS 1) (by with_unfolding_all rfl)))) (fun _ _ _ _=>(aS 0)))
 (az (cH (eE (cJ (aS 6))) (aE (bf (bo (cK (af (aS 3) (af aA av)))))) bG)
 (aE (bf (bo (ba hu (aS 6) (sD oE aA) (fun _ _=>rfl))))))))))
theorem v7:bJ ["self","drawing","first","other","lower","overs","unders","over","under","turned"] ["self","drawing"] (aW (kc 38 4)):=mQ
theorem EZ {f:Addr} {fd:ay} (F:kP K "back" "Part.back" (kc 38 4) f fd) (c6:gz K "second" "Part") (dA:gz K "name" "Part") {og:Addr} {pC:Addr} {pH:ay} (iC:B1 P w K mg base eB 4 pC pH og "Part" "refuse" ["self","drawing"] (bK K fY)) {zx:Addr} {zA:ay} (fE:kL P w K mg base eB 2 zx zA "first_in_turn" ["drawing","name","second","way"] (bK K iI)) {E1:Addr} {E8:ay} (iq:kL P w K mg base eB 3 E1 E8 "spot_ahead" ["drawing","spot","gone"] (bK K j4)) {Ij:Addr} {jE:Addr} {jF:ay} (cz:FE P w K mg base 1 jE jF Ij "Lay" ["self","name","second","over","under","turned","hand"] (bK K fC)) {yb:Addr} {yg:ay} (gR:kL P w K mg base eB 2 yb yg "hand_of" ["drawing","name"] (bK K kr)):eA P w K mg base eB 5 f fd ["self","drawing"] (bK K kY) :=
 mS F v7 Fw fun _ _ _ _ _ _ hr=>have nd:=v7.nd; have hu:=hr.units; (az (fk (jh (gO iC.me iC.ok (hr.mono (by decide)) iC.bi iK) (aS 0) (af (aS 1) av)))
 (az (j6 (i:=2) nd rfl (aR fE.ok (hr.mono (by decide)) rfl fE.mg fE.kp fE.bi (af (aS 1) (af (cb (fO dA) (aS 0)) (af (cb (fO c6) (aS 0)) (af aA av))))))
 (az (j6 (i:=3) nd rfl (IX (cj (gu hu) (aS 2) (cb (fO dA) (aS 0)) (dq _)) (cb (fO c6) (aS 0)) (cb (fO dA) (aS 0))))
 (az (j6 (i:=4) nd rfl (aR fE.ok (hr.mono (by decide)) rfl fE.mg fE.kp fE.bi (af (aS 1) (af (cb (fO dA) (aS 0)) (af (cb (fO c6) (aS 0)) (af aA av))))))
 (az (j6 (i:=5) nd rfl (eh (af (cK (af (cb (fO dA) (aS 0)) (af aA av))) (af (cK (af (cb (fO c6) (aS 0)) (af aA av))) av))))
 (az (j6 (i:=6) nd rfl (eh (af (cK (af (cb (fO dA) (aS 0)) (af aA av))) (af (cK (af (cb (fO c6) (aS 0)) (af aA av))) av))))
 (az (j6 (i:=7) nd rfl (aR iq.ok (hr.mono (by decide)) rfl iq.mg iq.kp iq.bi (af (aS 1) (af (cK (af (aS 2) (af aA av))) (af (cY fR (aS 5) (aS 6)) av)))))
 (az (j6 (i:=8) nd rfl (aR iq.ok (hr.mono (by decide)) rfl iq.mg iq.kp iq.bi (af (aS 1) (af (cK (af (aS 4) (af aA av))) (af (aS 6) av)))))
 (az (j6 (i:=9) nd rfl (IX (cj (gu hu) (aS 4) (aS 2) (dq _)) aA aA))
 (aE (bf (bo (j7 cz.P7 cz.ns cz.ok (hr.mono (by decide)) rfl cz.mg cz.bi (af (aS 2) (af (aS 3) (af (aS 7) (af (aS 8) (af (aS 9) (af (aR gR.ok (hr.mono (by decide)) rfl gR.mg gR.kp gR.bi (af (aS 1) (af (aS 2) av))) av)))))))))))))))))))
theorem yB:bJ ["_law_found","_law_word","_law_shape","_law_k"] ["_law_found","_law_word","_law_shape"] (aW (top 55)):=mQ
theorem Hn {f:Addr} {fd:ay} (F:kP K "_law_form" "_law_form" (top 55) f fd) (cg:mg "isinstance" = none) (cV:mg "len" = none) (c5:mg "range" = none) (xT:mg "str" = none) (j8:mg "tuple" = none) {lh:Addr} {lp:ay} (dG:kL P w K mg base eB 2 lh lp "_law_wholes" ["_law_found","_law_due"] (bK K bX)) {mB:Addr} {mE:ay} (eI:kL P w K mg base eB 1 mB mE "_law_whole" ["_law_found"] (bK K fQ)):eA P w K mg base eB 3 f fd ["_law_found","_law_word","_law_shape"] (bK K kF) :=
 mS F yB zc fun _ _ _ _ _ _ hr=>have nd:=yB.nd; have hu:=hr.units; (az (cH (Cc.pt (lS (eE (cJ (l8 "tuple" (by decide) rfl cg rfl j8 xf (aS 0)))) (jO (cj (lU hu) (ck cP rfl cV gf (af (aS 0) av)) (cY fR aA (ck cP rfl cV gf (af (aS 2) av))) (dq _))))) (aE (bf (bo fG))) bG)
 (az (cH (Cc.pt (lS (eE (cJ (l8 "str" (by decide) rfl cg rfl xT PC (ba hu (aS 0) aA (fun _ _=>rfl))))) (jO (cj (lU hu) (ba hu (aS 0) aA (fun _ _=>rfl)) (aS 1) (dq _))))) (aE (bf (bo fG))) bG)
 (az (dB bh rfl (iB rfl c5 (ck cP rfl cV gf (af (aS 2) av))) (pe (i:=3) nd rfl) (aE (cH (cj (gu hu) (ba hu (aS 2) (aS 3) (fun _ _=>rfl)) aA (dq _)) (aE (cH (Cc.pt (lS (eE (cJ (aR dG.ok (hr.mono (by decide)) rfl dG.mg dG.kp dG.bi (af (ba hu (aS 0) (cY fR (aS 3) aA) (fun _ _=>rfl)) (af (ba hu (aS 0) (cY fR (aS 3) aA) (fun _ _=>rfl)) av))))) (jO (cj (lU hu) (ck cP rfl cV gf (af (ba hu (aS 0) (cY fR (aS 3) aA) (fun _ _=>rfl)) av)) aA (dq _))))) (aE (bf (bo fG))) bG)) (aE (cH (eE (cJ (aR eI.ok (hr.mono (by decide)) rfl eI.mg eI.kp eI.bi (af (ba hu (aS 0) (cY fR (aS 3) aA) (fun _ _=>rfl)) av)))) (aE (bf (bo fG))) bG)))))
 (aE (bf (bo fG))))))
theorem AM:bJ ["_law_told","_law_names_here","_law_ahead","_law_behind"] ["_law_told","_law_names_here","_law_ahead","_law_behind"] (aW (top 58)):=mQ
theorem Bs {f:Addr} {fd:ay} (F:kP K "_law_lays_to" "_law_lays_to" (top 58) f fd) (lV:mg "sorted" = none) {JI:Addr} {JN:ay} (qW:kL P w K mg base eB 3 JI JN "_law_form" ["_law_found","_law_word","_law_shape"] (bK K kF)) {mC:Addr} {mF:ay} (dg:kL P w K mg base eB 1 mC mF "_law_spots" ["_law_drawing"] (bK K gG)) {lj:Addr} {lq:ay} (dH:kL P w K mg base eB 2 lj lq "_law_under_spots" ["_law_drawing","_law_one","_law_two","_law_over"] (bK K fM)) {nW:Addr} {nZ:ay} (fw:kL P w K mg base eB 2 nW nZ "_law_laid" ["_law_drawing","_law_told"] (bK K iT)):eA P w K mg base eB 4 f fd ["_law_told","_law_names_here","_law_ahead","_law_behind"] (bK K kU) :=
 mS F AM BV fun _ _ _ _ _ _ hr=>have hu:=hr.units; (az (cH (eE (cJ (aR qW.ok (hr.mono (by decide)) rfl qW.mg qW.kp qW.bi (af (aS 0) (af k8 (af (eh (af aA (af aA (af aA (af aA (af aA (af aA av))))))) av)))))) (aE (bf (bo fG))) bG)
 (az (cH (Cc.pt (lS (cj (lU hu) (ck (qV rfl hu) rfl lV yk (af (eh (af (ba hu (aS 0) aA (fun _ _=>rfl)) (af (ba hu (aS 0) aA (fun _ _=>rfl)) av))) av)) (ck (qV rfl hu) rfl lV yk (af (aS 1) av)) (dq _)) (jO (cj (lT hu) (ba hu (aS 0) aA (fun _ _=>rfl)) (aR dg.ok (hr.mono (by decide)) rfl dg.mg dg.kp dg.bi (af (aS 2) av)) (by with_unfolding_all rfl))))) (aE (bf (bo fG))) bG)
 (az (cH (cj (lT hu) (ba hu (aS 0) aA (fun _ _=>rfl)) (aR dH.ok (hr.mono (by decide)) rfl dH.mg dH.kp dH.bi (af (aS 2) (af (ba hu (aS 0) aA (fun _ _=>rfl)) (af (ba hu (aS 0) aA (fun _ _=>rfl)) (af (ba hu (aS 0) aA (fun _ _=>rfl)) av))))) (by with_unfolding_all rfl)) (aE (bf (bo fG))) bG)
 (az (cH (Cc.pt (lS (cj (lT hu) (ba hu (aS 0) aA (fun _ _=>rfl)) (cK (af aA (af aA av))) (by with_unfolding_all rfl)) (jO (cj (lT hu) (ba hu (aS 0) aA (fun _ _=>rfl)) (cK (af aA (af (sD oE aA) av))) (by with_unfolding_all rfl))))) (aE (bf (bo fG))) bG)
 (aE (bf (bo (t4 (gu hu) (aR fw.ok (hr.mono (by decide)) rfl fw.mg fw.kp fw.bi (af (aS 2) (af (aS 0) av))) (aS 3) (dq _)))))))))
theorem uL:bJ ["_law_move","_law_drawing","_law_told","_law_behind","_law_turn","_law_handed","_law_made","_law_row","_law_found"] ["_law_move","_law_drawing","_law_told"] (aW (top 60)):=mQ
theorem CD {f:Addr} {fd:ay} (F:kP K "_law_parted" "_law_parted" (top 60) f fd) (gI:mg "list" = none) (c5:mg "range" = none) {nW:Addr} {nZ:ay} (fw:kL P w K mg base eB 2 nW nZ "_law_laid" ["_law_drawing","_law_told"] (bK K iT)) {FC:Addr} {HB:Addr} {HM:ay} (tu:B1 P w K mg base eB 5 HB HM FC "Part" "done" ["self","drawing"] (bK K kX)) {u6:Addr} {vh:ay} (i6:kL P w K mg base eB 3 u6 vh "_law_same" ["_law_found","_law_due"] (bK K ib)) {sT:Addr} {sZ:ay} (fe:kL P w K mg base eB 1 sT sZ "_law_begun" ["_law_drawing"] (bK K eS)) {FD:Addr} {HC:Addr} {HN:ay} (tw:B1 P w K mg base eB 5 HC HN FD "Part" "back" ["self","drawing"] (bK K kY)) {tN:Addr} {vc:Addr} {vj:ay} (kB:B1 P w K mg base eB 1 vc vj tN "Lay" "told" ["self"] (bK K iU)) {CF:Addr} {CJ:ay} (ma:kL P w K mg base eB 4 CF CJ "_law_lays_to" ["_law_told","_law_names_here","_law_ahead","_law_behind"] (bK K kU)):eA P w K mg base eB 6 f fd ["_law_move","_law_drawing","_law_told"] (bK K jg) :=
 mS F uL CV fun _ _ _ _ _ _ hr=>have nd:=uL.nd; have hu:=hr.units; (az (j6 (i:=3) nd rfl (aR fw.ok (hr.mono (by decide)) rfl fw.mg fw.kp fw.bi (af (aS 1) (af (aS 2) av))))
 (az (dB bh rfl (iB rfl c5 aA) (pe (i:=4) nd rfl) (az (Ej (sx ["_law_row"] (sc:=aW (top 60)) (XN:=["_law_move","_law_drawing","_law_told","_law_behind","_law_turn","_law_handed","_law_made","_law_row","_law_found"]) (i:=5) nd rfl rfl (ee (aS 3)) (fun _ _ _ _=>(pe (i:=0) (show (["_law_row"]:List Str).Nodup by decide +kernel) rfl)) (fun _ _ _ _=>.none) (fun _ _ _ _=>(nS oa rfl gI qX (af (aS 0) av)))))
 (az (j6 (i:=6) nd rfl (jh (gO tu.me tu.ok (hr.mono (by decide)) tu.bi iK) (aS 0) (af (aS 5) av)))
 (az (cH (eE (cJ (aR i6.ok (hr.mono (by decide)) rfl i6.mg i6.kp i6.bi (af (aS 6) (af (aR fe.ok (hr.mono (by decide)) rfl fe.mg fe.kp fe.bi (af (aS 1) av)) av))))) (aE (bf (bo fG))) bG)
 (az (dB bh rfl (ee (aS 6)) (pe (i:=7) nd rfl) (aE (fk (jB bx cG cF fX gX (aS 7) (af (cK (af aA (af aA (af aA av)))) av)))))
 (aE (cH (cj (lU hu) (aS 5) (aS 3) (dq _)) (aE (bf (bo fG))) bG)))))))
 (az (j6 (i:=8) nd rfl (uY (gO kB.me kB.ok (hr.mono (by decide)) kB.bi iK) (jh (gO tw.me tw.ok (hr.mono (by decide)) tw.bi iK) (aS 0) (af (aS 5) av))))
 (aE (bf (bo (zX (t4 (gu hu) (aS 5) (aS 3) (dq _)) (wI (aR ma.ok (hr.mono (by decide)) rfl ma.mg ma.kp ma.bi (af (aS 8) (af (eh (af (ba hu (aS 2) aA (fun _ _=>rfl)) (af (ba hu (aS 2) aA (fun _ _=>rfl)) av))) (af (aR fe.ok (hr.mono (by decide)) rfl fe.mg fe.kp fe.bi (af (aS 1) av)) (af (aS 3) av)))))))))))))
theorem vV:bJ ["_law_move","_law_drawing","_law_told","_law_handed","_law_behind","_law_turn","_law_made","_law_row","_law_back","_law_found"] ["_law_move","_law_drawing","_law_told"] (aW (top 59)):=mQ
theorem EO {f:Addr} {fd:ay} (F:kP K "_law_there" "_law_there" (top 59) f fd) (gI:mg "list" = none) (c5:mg "range" = none) {nW:Addr} {nZ:ay} (fw:kL P w K mg base eB 2 nW nZ "_law_laid" ["_law_drawing","_law_told"] (bK K iT)) {tO:Addr} {vd:Addr} {vm:ay} (kC:B1 P w K mg base eB 4 vd vm tO "Lay" "done" ["self","drawing"] (bK K iV)) {u6:Addr} {vh:ay} (i6:kL P w K mg base eB 3 u6 vh "_law_same" ["_law_found","_law_due"] (bK K ib)) {Ii:Addr} {JJ:Addr} {JO:ay} (vp:B1 P w K mg base eB 5 JJ JO Ii "Lay" "back" ["self","drawing"] (bK K mh)) {FA:Addr} {Hz:Addr} {HL:ay} (tm:B1 P w K mg base eB 1 Hz HL FA "Part" "told" ["self"] (bK K kW)) {sR:Addr} {sX:ay} (fc:kL P w K mg base eB 3 sR sX "_law_tells" ["_law_found","_law_due"] (bK K bZ)) {qP:Addr} {qS:ay} (gK:kL P w K mg base eB 6 qP qS "_law_parted" ["_law_move","_law_drawing","_law_told"] (bK K jg)):eA P w K mg base eB 7 f fd ["_law_move","_law_drawing","_law_told"] (bK K nq) :=
 mS F vV Fs fun _ _ _ _ _ _ hr=>have nd:=vV.nd; have hu:=hr.units; (az (Ej (sx ["_law_row"] (sc:=aW (top 59)) (XN:=["_law_move","_law_drawing","_law_told","_law_handed","_law_behind","_law_turn","_law_made","_law_row","_law_back","_law_found"]) (i:=3) nd rfl rfl (ee (aS 1)) (fun _ _ _ _=>(pe (i:=0) (show (["_law_row"]:List Str).Nodup by decide +kernel) rfl)) (fun _ _ _ _=>.none) (fun _ _ _ _=>(nS oa rfl gI qX (af (aS 0) av)))))
 (az (j6 (i:=4) nd rfl (aR fw.ok (hr.mono (by decide)) rfl fw.mg fw.kp fw.bi (af (aS 1) (af (aS 2) av))))
 (az (dB bh rfl (iB rfl c5 aA) (pe (i:=5) nd rfl) (az (j6 (i:=6) nd rfl (jh (gO kC.me kC.ok (hr.mono (by decide)) kC.bi iK) (aS 0) (af (aS 3) av)))
 (az (cH (Cc.pt (lS (eE (cJ (aR i6.ok (hr.mono (by decide)) rfl i6.mg i6.kp i6.bi (af (aS 6) (af (aS 4) av))))) (jO (cj (lU hu) (aS 3) (aS 1) (dq _))))) (aE (bf (bo fG))) bG)
 (aE (dB bh rfl (ee (aS 6)) (pe (i:=7) nd rfl) (aE (fk (jB bx cG cF fX gX (aS 7) (af (cK (af aA (af aA (af aA av)))) av)))))))))
 (az (j6 (i:=8) nd rfl (jh (gO vp.me vp.ok (hr.mono (by decide)) vp.bi iK) (aS 0) (af (aS 3) av)))
 (az (j6 (i:=9) nd rfl (uY (gO tm.me tm.ok (hr.mono (by decide)) tm.bi iK) (aS 8)))
 (az (cH (Cc.pt (QN (eE (cJ (aR fc.ok (hr.mono (by decide)) rfl fc.mg fc.kp fc.bi (af (aS 9) (af (cK (af k8 (af (ba hu (aS 2) aA (fun _ _=>rfl)) (af (ba hu (aS 2) aA (fun _ _=>rfl)) av)))) av))))) (Oc (eE (cJ (aR fc.ok (hr.mono (by decide)) rfl fc.mg fc.kp fc.bi (af (aS 9) (af (cK (af k8 (af (ba hu (aS 2) aA (fun _ _=>rfl)) (af (ba hu (aS 2) aA (fun _ _=>rfl)) av)))) av)))))))) (aE (bf (bo fG))) bG)
 (aE (bf (bo (zX (t4 (gu hu) (aS 3) (aS 1) (dq _)) (wI (aR gK.ok (hr.mono (by decide)) rfl gK.mg gK.kp gK.bi (af (aS 8) (af (aS 1) (af (aS 2) av)))))))))))))))
theorem NS:bJ ["_law_script","_law_drawing","_law_k","_law_names_here","_law_one","_law_two","_law_over","_law_spots_here","_law_under","_law_bits","_law_told","_law_three","_law_move","_law_rows"] ["_law_script"] (aW (top 62)):=mQ
theorem Ua {f:Addr} {fd:ay} (F:kP K "law" "law" (top 62) f fd) (cV:mg "len" = none) (c5:mg "range" = none) {CH:Addr} {CL:ay} (bg:kL P w K mg base eB 1 CH CL "_law_cell_at" ["_law_script","_law_k"] (bK K cL)) {CG:Addr} {CK:ay} (md:kL P w K mg base eB 2 CG CK "_law_crossed" ["_law_drawing","_law_cell"] (bK K gT)) {sS:Addr} {sY:ay} (iw:kL P w K mg base eB 1 sS sY "_law_names" ["_law_drawing"] (bK K gH)) {u7:Addr} {vi:ay} (fP:kL P w K mg base eB 1 u7 vi "_law_free" ["_law_names_here","_law_number"] (bK K gL)) {mC:Addr} {mF:ay} (dg:kL P w K mg base eB 1 mC mF "_law_spots" ["_law_drawing"] (bK K gG)) {lj:Addr} {lq:ay} (dH:kL P w K mg base eB 2 lj lq "_law_under_spots" ["_law_drawing","_law_one","_law_two","_law_over"] (bK K fM)) {Hx:Addr} {HJ:ay} (oV:kL P w K mg base eB 1 Hx HJ "_law_other" ["_law_drawing"] (bK K jK)) {Ij:Addr} {jE:Addr} {jF:ay} (cz:FE P w K mg base 1 jE jF Ij "Lay" ["self","name","second","over","under","turned","hand"] (bK K fC)) {MK:Addr} {MN:ay} (ue:kL P w K mg base eB 3 MK MN "move_of" ["told"] (bK K qD)) {sR:Addr} {sX:ay} (fc:kL P w K mg base eB 3 sR sX "_law_tells" ["_law_found","_law_due"] (bK K bZ)) {tN:Addr} {vc:Addr} {vj:ay} (kB:B1 P w K mg base eB 1 vc vj tN "Lay" "told" ["self"] (bK K iU)) {Hw:Addr} {HH:ay} (oU:kL P w K mg base eB 7 Hw HH "_law_there" ["_law_move","_law_drawing","_law_told"] (bK K nq)) {B2:Addr} {ja:Addr} {jb:ay} (bF:FE P w K mg base 1 ja jb B2 "Part" ["self","name","second"] (bK K dZ)) {qP:Addr} {qS:ay} (gK:kL P w K mg base eB 6 qP qS "_law_parted" ["_law_move","_law_drawing","_law_told"] (bK K jg)):eA P w K mg base eB 8 f fd ["_law_script"] (bK K K2.C7) :=
 mS F NS Uz fun _ _ _ _ _ _ hr=>have nd:=NS.nd; have hu:=hr.units; (az (Ej (sx ["_law_k"] (sc:=aW (top 62)) (XN:=["_law_script","_law_drawing","_law_k","_law_names_here","_law_one","_law_two","_law_over","_law_spots_here","_law_under","_law_bits","_law_told","_law_three","_law_move","_law_rows"]) (i:=1) nd rfl rfl (iB rfl c5 (cY fR aA (cY jo (aR bg.ok (hr.mono (by decide)) rfl bg.mg bg.kp bg.bi (af (aS 0) (af aA av))) aA))) (fun _ _ _ _=>(pe (i:=0) (show (["_law_k"]:List Str).Nodup by decide +kernel) rfl)) (fun _ _ _ _=>.none) (fun _ _ _ _=>(eh av))))
 (az (dB bh rfl (iB rfl c5 (cY jo (aR bg.ok (hr.mono (by decide)) rfl bg.mg bg.kp bg.bi (af (aS 0) (af aA av))) aA)) (pe (i:=2) nd rfl) (aE (j6 (i:=1) nd rfl (bo (aR md.ok (hr.mono (by decide)) rfl md.mg md.kp md.bi (af (aS 1) (af (aR bg.ok (hr.mono (by decide)) rfl bg.mg bg.kp bg.bi (af (aS 0) (af (cY fR aA (aS 2)) av))) av)))))))
 (az (j6 (i:=3) nd rfl (aR iw.ok (hr.mono (by decide)) rfl iw.mg iw.kp iw.bi (af (aS 1) av)))
 (az (j6 (i:=4) nd rfl (aR fP.ok (hr.mono (by decide)) rfl fP.mg fP.kp fP.bi (af (bo (aS 3)) (af (bo (aR bg.ok (hr.mono (by decide)) rfl bg.mg bg.kp bg.bi (af (aS 0) (af aA av)))) av))))
 (az (j6 (i:=5) nd rfl (aR fP.ok (hr.mono (by decide)) rfl fP.mg fP.kp fP.bi (af (bo (cY fR (aS 3) (eh (af (aS 4) av)))) (af (bo (aR bg.ok (hr.mono (by decide)) rfl bg.mg bg.kp bg.bi (af (aS 0) (af aA av)))) av))))
 (az (j6 (i:=6) nd rfl (ba hu (aR dg.ok (hr.mono (by decide)) rfl dg.mg dg.kp dg.bi (af (aS 1) av)) (cY jo (aR bg.ok (hr.mono (by decide)) rfl bg.mg bg.kp bg.bi (af (aS 0) (af aA av))) (ck cP rfl cV gf (af (aR dg.ok (hr.mono (by decide)) rfl dg.mg dg.kp dg.bi (af (aS 1) av)) av))) (fun _ _=>rfl)))
 (az (j6 (i:=7) nd rfl (aR dH.ok (hr.mono (by decide)) rfl dH.mg dH.kp dH.bi (af (aS 1) (af (aS 4) (af (aS 5) (af (aS 6) av))))))
 (az (j6 (i:=8) nd rfl (ba hu (aS 7) (cY jo (aR bg.ok (hr.mono (by decide)) rfl bg.mg bg.kp bg.bi (af (aS 0) (af aA av))) (ck cP rfl cV gf (af (aS 7) av))) (fun _ _=>rfl)))
 (az (j6 (i:=9) nd rfl (cY jo (aR bg.ok (hr.mono (by decide)) rfl bg.mg bg.kp bg.bi (af (aS 0) (af aA av))) aA))
 (az (j6 (i:=10) nd rfl (cK (af k8 (af (aS 4) (af (aS 5) (af (aS 6) (af (aS 8) (af (cY jo (aS 9) aA) (af (cY Kz aA (cY Ek aA (cY jo (cY sE (aS 9) aA) aA))) av)))))))))
 (az (j6 (i:=11) nd rfl (eh (af (aS 1) (af (aR oV.ok (hr.mono (by decide)) rfl oV.mg oV.kp oV.bi (af (aS 1) av)) (af (aS 1) av)))))
 (az (j6 (i:=12) nd rfl (j7 cz.P7 cz.ns cz.ok (hr.mono (by decide)) rfl cz.mg cz.bi (af (aS 4) (af (aS 5) (af (aS 6) (af (aS 8) (af (ba hu (aS 10) aA (fun _ _=>rfl)) (af (ba hu (aS 10) aA (fun _ _=>rfl)) av))))))))
 (az (cH (cj (gu hu) (cY sE (aS 9) aA) aA (dq _)) (aE (j6 (i:=12) nd rfl (aR ue.ok (hr.mono (by decide)) rfl ue.mg ue.kp ue.bi (af (aS 10) av)))) bG)
 (az (dB bh rfl (ee (aS 11)) (pe (i:=13) nd rfl) (aE (cH (Cc.pt (lS (eE (cJ (aR fc.ok (hr.mono (by decide)) rfl fc.mg fc.kp fc.bi (af (uY (gO kB.me kB.ok (hr.mono (by decide)) kB.bi iK) (aS 12)) (af (aS 10) av))))) (jO (eE (cJ (aR oU.ok (hr.mono (by decide)) rfl oU.mg oU.kp oU.bi (af (aS 12) (af (aS 13) (af (aS 10) av))))))))) (aE (bf (bo fG))) bG)))
 (az (dB bh rfl (ee (eh (af (j7 bF.P7 bF.ns bF.ok (hr.mono (by decide)) rfl bF.mg bF.bi (af (aS 4) (af (aS 5) av))) (af (j7 bF.P7 bF.ns bF.ok (hr.mono (by decide)) rfl bF.mg bF.bi (af (aS 5) (af (aS 4) av))) av)))) (pe (i:=12) nd rfl) (aE (dB bh rfl (ee (aS 11)) (pe (i:=13) nd rfl) (aE (cH (eE (cJ (aR gK.ok (hr.mono (by decide)) rfl gK.mg gK.kp gK.bi (af (aS 12) (af (aS 13) (af (aS 10) av)))))) (aE (bf (bo fG))) bG)))))
 (aE (bf (bo fG))))))))))))))))))
end
theorem all_mk {l:DR} {w:World} {K:aw} {h:Heap} {mg:Str->Option Value} {fa:Addr} (X:K.In h) (G:h.Ns bu mg) (hfa:mg "law" = some (.ref fa)) {oZ:Addr} (ez:RE K "Lay" oZ) {tG:Addr} (yj:RE K "Uncurl" tG) {tH:Addr} (ud:RE K "Curl" tH) {pK:Addr} (fT:RE K "Part" pK) {oY:Addr} (qj:RE K "Slide" oY)
  {f0:Addr} {d0:ay} (F0:At K "_law_cell_at" (top 43) f0 d0)
  {f1:Addr} {d1:ay} (F1:At K "_law_free" (top 47) f1 d1)
  {f2:Addr} {d2:ay} (F2:At K "_law_names" (top 46) f2 d2)
  {f3:Addr} {d3:ay} (F3:At K "_law_mixed" (top 45) f3 d3)
  {f4:Addr} {d4:ay} (F4:At K "_law_crossed" (top 48) f4 d4)
  {f5:Addr} {d5:ay} (F5:At K "_law_spots" (top 49) f5 d5)
  {f6:Addr} {d6:ay} (F6:At K "_law_put" (top 50) f6 d6)
  {f7:Addr} {d7:ay} (F7:At K "_law_under_spots" (top 57) f7 d7)
  {f8:Addr} {d8:ay} (F8:At K "_law_other" (top 61) f8 d8)
  {f9:Addr} {d9:ay} (F9:FO K oZ "__init__" "Lay.__init__" (kc 39 0) f9 d9)
  {f10:Addr} {d10:ay} (F10:FO K tG "__init__" "Uncurl.__init__" (kc 36 0) f10 d10)
  {f11:Addr} {d11:ay} (F11:FO K tH "__init__" "Curl.__init__" (kc 37 0) f11 d11)
  {f12:Addr} {d12:ay} (Xa:FO K pK "__init__" "Part.__init__" (kc 38 0) f12 d12)
  {f13:Addr} {d13:ay} (F13:FO K oY "__init__" "Slide.__init__" (kc 40 0) f13 d13)
  {f14:Addr} {d14:ay} (Yc:At K "move_of" (top 41) f14 d14)
  {f15:Addr} {d15:ay} (Sk:At K "_law_whole" (top 44) f15 d15)
  {f16:Addr} {d16:ay} (Sj:At K "_law_wholes" (top 52) f16 d16)
  {f17:Addr} {d17:ay} (Vb:At K "_law_tells" (top 54) f17 d17)
  {f18:Addr} {d18:ay} (Yb:FO K oZ "told" "Lay.told" (kc 39 1) f18 d18)
  {f19:Addr} {d19:ay} (Va:At K "_law_begun" (top 51) f19 d19)
  {f20:Addr} {d20:ay} (Si:At K "_law_laid" (top 56) f20 d20)
  {f21:Addr} {d21:ay} (U9:At K "passings_of" (top 10) f21 d21)
  {f22:Addr} {d22:ay} (U8:At K "names_of" (top 13) f22 d22)
  {f23:Addr} {d23:ay} (X9:At K "refuse_new" (top 28) f23 d23)
  {f24:Addr} {d24:ay} (Sh:At K "spots_on" (top 15) f24 d24)
  {f25:Addr} {d25:ay} (U7:At K "string_of" (top 17) f25 d25)
  {f26:Addr} {d26:ay} (X8:At K "with_put" (top 29) f26 d26)
  {f27:Addr} {d27:ay} (F27:FO K oZ "passings" "Lay.passings" (kc 39 2) f27 d27)
  {f28:Addr} {d28:ay} (X7:At K "seated" (top 11) f28 d28)
  {f29:Addr} {d29:ay} (U6:At K "seated_rows" (top 12) f29 d29)
  {f30:Addr} {d30:ay} (X6:FO K oZ "done" "Lay.done" (kc 39 3) f30 d30)
  {f31:Addr} {d31:ay} (U5:At K "_law_same" (top 53) f31 d31)
  {f32:Addr} {d32:ay} (F32:FO K oZ "back" "Lay.back" (kc 39 4) f32 d32)
  {f33:Addr} {d33:ay} (F33:FO K pK "told" "Part.told" (kc 38 1) f33 d33)
  {f34:Addr} {d34:ay} (X5:At K "refuse_unknown" (top 26) f34 d34)
  {f35:Addr} {d35:ay} (X4:At K "refuse_unfit" (top 27) f35 d35)
  {f36:Addr} {d36:ay} (U4:At K "hand_of" (top 14) f36 d36)
  {f37:Addr} {d37:ay} (U3:At K "next_of" (top 16) f37 d37)
  {f38:Addr} {d38:ay} (X3:At K "neighbours" (top 19) f38 d38)
  {f39:Addr} {d39:ay} (X2:At K "part_fits" (top 21) f39 d39)
  {f40:Addr} {d40:ay} (X1:FO K pK "refuse" "Part.refuse" (kc 38 2) f40 d40)
  {f41:Addr} {d41:ay} (X0:At K "taken_out" (top 30) f41 d41)
  {f42:Addr} {d42:ay} (F42:FO K pK "done" "Part.done" (kc 38 3) f42 d42)
  {f43:Addr} {d43:ay} (XZ:At K "first_in_turn" (top 32) f43 d43)
  {f44:Addr} {d44:ay} (XY:At K "spot_ahead" (top 31) f44 d44)
  {f45:Addr} {d45:ay} (F45:FO K pK "back" "Part.back" (kc 38 4) f45 d45)
  {f46:Addr} {d46:ay} (XX:At K "_law_form" (top 55) f46 d46)
  {f47:Addr} {d47:ay} (XW:At K "_law_lays_to" (top 58) f47 d47)
  {f48:Addr} {d48:ay} (U2:At K "_law_parted" (top 60) f48 d48)
  {f49:Addr} {d49:ay} (XU:At K "_law_there" (top 59) f49 d49)
  {f50:Addr} {d50:ay} (F50:At K "law" (top 62) f50 d50)
  (Vg:autoParam (dj K bu "len" = some none) Aq._auto_1) (So:autoParam (dj K bu "list" = some none) Aq._auto_1) (Qp:autoParam (dj K bu "range" = some none) Aq._auto_1) (IH:autoParam (dj K bu "reversed" = some none) Aq._auto_1) (Sq:autoParam (dj K bu "bool" = some none) Aq._auto_1) (Vh:autoParam (dj K bu "int" = some none) Aq._auto_1) (DZ:autoParam (dj K bu "isinstance" = some none) Aq._auto_1) (Qo:autoParam (dj K bu "tuple" = some none) Aq._auto_1) (Ve:autoParam (dj K bu "str" = some none) Aq._auto_1) (Vf:autoParam (dj K bu "min" = some none) Aq._auto_1) (NA:autoParam (dj K bu "sorted" = some none) Aq._auto_1) (FY:autoParam (dj K bu "enumerate" = some none) Aq._auto_1) (Vd:autoParam (dj K bu "zip" = some none) Aq._auto_1) {lP:Tok} (w7:autoParam (dj K bu "MOST_CROSSINGS" = some (some (.int 12 lP))) Aq._auto_1) (ml:autoParam (bD K (.ref oZ) "name" = some none) Aq._auto_1) (j9:autoParam (bD K (.ref oZ) "second" = some none) Aq._auto_1) (sG:autoParam (bD K (.ref oZ) "over" = some none) Aq._auto_1) (qK:autoParam (bD K (.ref oZ) "under" = some none) Aq._auto_1) (ph:autoParam (bD K (.ref oZ) "turned" = some none) Aq._auto_1) (sH:autoParam (bD K (.ref oZ) "hand" = some none) Aq._auto_1) (A0:autoParam (bD K (.ref tG) "name" = some none) Aq._auto_1) (Ep:autoParam (bD K (.ref tH) "name" = some none) Aq._auto_1) (Eo:autoParam (bD K (.ref tH) "spot" = some none) Aq._auto_1) (Cr:autoParam (bD K (.ref tH) "first" = some none) Aq._auto_1) (Er:autoParam (bD K (.ref tH) "hand" = some none) Aq._auto_1) (k9:autoParam (bD K (.ref pK) "name" = some none) Aq._auto_1) (jC:autoParam (bD K (.ref pK) "second" = some none) Aq._auto_1) (Cq:autoParam (bD K (.ref oY) "name" = some none) Aq._auto_1) (zm:autoParam (bD K (.ref oY) "second" = some none) Aq._auto_1) (A1:autoParam (bD K (.ref oY) "third" = some none) Aq._auto_1) (Cp:autoParam (bD K (.ref oY) "turn" = some none) Aq._auto_1) (L8:autoParam (jU K tG=true) Aq._auto_1) (Mp:autoParam (gh K (.ref tG)=true) Aq._auto_1) (Q7:autoParam (jU K tH=true) Aq._auto_1) (Rc:autoParam (gh K (.ref tH)=true) Aq._auto_1) (Et:autoParam (jU K pK=true) Aq._auto_1) (EA:autoParam (gh K (.ref pK)=true) Aq._auto_1) (Jg:autoParam (jU K oZ=true) Aq._auto_1) (Jo:autoParam (gh K (.ref oZ)=true) Aq._auto_1) (OD:autoParam (jU K oY=true) Aq._auto_1) (OM:autoParam (gh K (.ref oY)=true) Aq._auto_1) :
  ∃ fd:ay,(∀ (s:aF) (v:Value),Nx s fd ⟨[v],[]⟩ [("_law_script",v)])/\∀ base:Heap,K.In base->base.Ns bu mg->eA l.prog w K mg base eB 8 fa fd ["_law_script"] (bK K K2.C7):=by
 have e:=hfa.symm.trans (gS X G F50.a);cases e;have b0:=F0.F.binds (ps:=["_law_script","_law_k"]) fun _ _ _ _ _ _ us hl=>by obtain⟨_,_,rfl⟩:=pj hl; rfl
 have b1:=F1.F.binds (ps:=["_law_names_here","_law_number"]) fun _ _ _ _ _ _ us hl=>by obtain⟨_,_,rfl⟩:=pj hl; rfl
 have b2:=F2.F.binds (ps:=["_law_drawing"]) fun _ _ _ _ _ _ us hl=>by obtain⟨_,rfl⟩:=rK hl; rfl
 have b3:=F3.F.binds (ps:=["_law_cell"]) fun _ _ _ _ _ _ us hl=>by obtain⟨_,rfl⟩:=rK hl; rfl
 have b4:=F4.F.binds (ps:=["_law_drawing","_law_cell"]) fun _ _ _ _ _ _ us hl=>by obtain⟨_,_,rfl⟩:=pj hl; rfl
 have b5:=F5.F.binds (ps:=["_law_drawing"]) fun _ _ _ _ _ _ us hl=>by obtain⟨_,rfl⟩:=rK hl; rfl
 have b6:=F6.F.binds (ps:=["_law_drawing","_law_spot","_law_passings"]) fun _ _ _ _ _ _ us hl=>by obtain⟨_,_,_,rfl⟩:=Cv hl; rfl
 have b7:=F7.F.binds (ps:=["_law_drawing","_law_one","_law_two","_law_over"]) fun _ _ _ _ _ _ us hl=>by obtain⟨_,_,_,_,rfl⟩:=Ra hl; rfl
 have b8:=F8.F.binds (ps:=["_law_drawing"]) fun _ _ _ _ _ _ us hl=>by obtain⟨_,rfl⟩:=rK hl; rfl
 have b9:=F9.F.binds (ps:=["self","name","second","over","under","turned","hand"]) fun _ _ _ _ _ _ us hl=>by obtain⟨_,_,_,_,_,_,_,rfl⟩:=Zh hl; rfl
 have b10:=F10.F.binds (ps:=["self","name"]) fun _ _ _ _ _ _ us hl=>by obtain⟨_,_,rfl⟩:=pj hl; rfl
 have b11:=F11.F.binds (ps:=["self","name","spot","first","hand"]) fun _ _ _ _ _ _ us hl=>by obtain⟨_,_,_,_,_,rfl⟩:=Wb hl; rfl
 have b12:=Xa.F.binds (ps:=["self","name","second"]) fun _ _ _ _ _ _ us hl=>by obtain⟨_,_,_,rfl⟩:=Cv hl; rfl
 have b13:=F13.F.binds (ps:=["self","name","second","third","turn"]) fun _ _ _ _ _ _ us hl=>by obtain⟨_,_,_,_,_,rfl⟩:=Wb hl; rfl
 have b14:=Yc.F.binds (ps:=["told"]) fun _ _ _ _ _ _ us hl=>by obtain⟨_,rfl⟩:=rK hl; rfl
 have b15:=Sk.F.binds (ps:=["_law_found"]) fun _ _ _ _ _ _ us hl=>by obtain⟨_,rfl⟩:=rK hl; rfl
 have b16:=Sj.F.binds (ps:=["_law_found","_law_due"]) fun _ _ _ _ _ _ us hl=>by obtain⟨_,_,rfl⟩:=pj hl; rfl
 have b17:=Vb.F.binds (ps:=["_law_found","_law_due"]) fun _ _ _ _ _ _ us hl=>by obtain⟨_,_,rfl⟩:=pj hl; rfl
 have b18:=Yb.F.binds (ps:=["self"]) fun _ _ _ _ _ _ us hl=>by obtain⟨_,rfl⟩:=rK hl; rfl
 have b19:=Va.F.binds (ps:=["_law_drawing"]) fun _ _ _ _ _ _ us hl=>by obtain⟨_,rfl⟩:=rK hl; rfl
 have b20:=Si.F.binds (ps:=["_law_drawing","_law_told"]) fun _ _ _ _ _ _ us hl=>by obtain⟨_,_,rfl⟩:=pj hl; rfl
 have b21:=U9.F.binds (ps:=["rows"]) fun _ _ _ _ _ _ us hl=>by obtain⟨_,rfl⟩:=rK hl; rfl
 have b22:=U8.F.binds (ps:=["drawing"]) fun _ _ _ _ _ _ us hl=>by obtain⟨_,rfl⟩:=rK hl; rfl
 have b23:=X9.F.binds (ps:=["drawing","names"]) fun _ _ _ _ _ _ us hl=>by obtain⟨_,_,rfl⟩:=pj hl; rfl
 have b24:=Sh.F.binds (ps:=["row","string"]) fun _ _ _ _ _ _ us hl=>by obtain⟨_,_,rfl⟩:=pj hl; rfl
 have b25:=U7.F.binds (ps:=["drawing","spot"]) fun _ _ _ _ _ _ us hl=>by obtain⟨_,_,rfl⟩:=pj hl; rfl
 have b26:=X8.F.binds (ps:=["drawing","spot","passings"]) fun _ _ _ _ _ _ us hl=>by obtain⟨_,_,_,rfl⟩:=Cv hl; rfl
 have b27:=F27.F.binds (ps:=["self","way"]) fun _ _ _ _ _ _ us hl=>by obtain⟨_,_,rfl⟩:=pj hl; rfl
 have b28:=X7.F.binds (ps:=["row"]) fun _ _ _ _ _ _ us hl=>by obtain⟨_,rfl⟩:=rK hl; rfl
 have b29:=U6.F.binds (ps:=["rows"]) fun _ _ _ _ _ _ us hl=>by obtain⟨_,rfl⟩:=rK hl; rfl
 have b30:=X6.F.binds (ps:=["self","drawing"]) fun _ _ _ _ _ _ us hl=>by obtain⟨_,_,rfl⟩:=pj hl; rfl
 have b31:=U5.F.binds (ps:=["_law_found","_law_due"]) fun _ _ _ _ _ _ us hl=>by obtain⟨_,_,rfl⟩:=pj hl; rfl
 have b32:=F32.F.binds (ps:=["self","drawing"]) fun _ _ _ _ _ _ us hl=>by obtain⟨_,_,rfl⟩:=pj hl; rfl
 have b33:=F33.F.binds (ps:=["self"]) fun _ _ _ _ _ _ us hl=>by obtain⟨_,rfl⟩:=rK hl; rfl
 have b34:=X5.F.binds (ps:=["drawing","names"]) fun _ _ _ _ _ _ us hl=>by obtain⟨_,_,rfl⟩:=pj hl; rfl
 have b35:=X4.F.binds (ps:=["fits"]) fun _ _ _ _ _ _ us hl=>by obtain⟨_,rfl⟩:=rK hl; rfl
 have b36:=U4.F.binds (ps:=["drawing","name"]) fun _ _ _ _ _ _ us hl=>by obtain⟨_,_,rfl⟩:=pj hl; rfl
 have b37:=U3.F.binds (ps:=["drawing"]) fun _ _ _ _ _ _ us hl=>by obtain⟨_,rfl⟩:=rK hl; rfl
 have b38:=X3.F.binds (ps:=["behind","one","other"]) fun _ _ _ _ _ _ us hl=>by obtain⟨_,_,_,rfl⟩:=Cv hl; rfl
 have b39:=X2.F.binds (ps:=["drawing","name","second"]) fun _ _ _ _ _ _ us hl=>by obtain⟨_,_,_,rfl⟩:=Cv hl; rfl
 have b40:=X1.F.binds (ps:=["self","drawing"]) fun _ _ _ _ _ _ us hl=>by obtain⟨_,_,rfl⟩:=pj hl; rfl
 have b41:=X0.F.binds (ps:=["drawing","names"]) fun _ _ _ _ _ _ us hl=>by obtain⟨_,_,rfl⟩:=pj hl; rfl
 have b42:=F42.F.binds (ps:=["self","drawing"]) fun _ _ _ _ _ _ us hl=>by obtain⟨_,_,rfl⟩:=pj hl; rfl
 have b43:=XZ.F.binds (ps:=["drawing","name","second","way"]) fun _ _ _ _ _ _ us hl=>by obtain⟨_,_,_,_,rfl⟩:=Ra hl; rfl
 have b44:=XY.F.binds (ps:=["drawing","spot","gone"]) fun _ _ _ _ _ _ us hl=>by obtain⟨_,_,_,rfl⟩:=Cv hl; rfl
 have b45:=F45.F.binds (ps:=["self","drawing"]) fun _ _ _ _ _ _ us hl=>by obtain⟨_,_,rfl⟩:=pj hl; rfl
 have b46:=XX.F.binds (ps:=["_law_found","_law_word","_law_shape"]) fun _ _ _ _ _ _ us hl=>by obtain⟨_,_,_,rfl⟩:=Cv hl; rfl
 have b47:=XW.F.binds (ps:=["_law_told","_law_names_here","_law_ahead","_law_behind"]) fun _ _ _ _ _ _ us hl=>by obtain⟨_,_,_,_,rfl⟩:=Ra hl; rfl
 have b48:=U2.F.binds (ps:=["_law_move","_law_drawing","_law_told"]) fun _ _ _ _ _ _ us hl=>by obtain⟨_,_,_,rfl⟩:=Cv hl; rfl
 have b49:=XU.F.binds (ps:=["_law_move","_law_drawing","_law_told"]) fun _ _ _ _ _ _ us hl=>by obtain⟨_,_,_,rfl⟩:=Cv hl; rfl
 have cV:=c9 X G Vg;have gI:=c9 X G So;have c5:=c9 X G Qp;have sF:=c9 X G IH;have El:=c9 X G Sq;have Jc:=c9 X G Vh;have cg:=c9 X G DZ;have j8:=c9 X G Qo;have xT:=c9 X G Ve;have xU:=c9 X G Vf;have lV:=c9 X G NA;have qJ:=c9 X G FY;have Jb:=c9 X G Vd;obtain⟨Fa,Fl⟩:=F50;obtain⟨oc,od,kV,doc,pm,an,oR,ct,L0,rfl,lk,K0⟩:=Fl.ex;refine⟨jW "law" "law" (kn (top 62)) (i4 (top 62)) (aW (top 62)) .none kV doc pm an oR ct,fun s v=>.of_eq rfl,fun base _ _=>?_⟩;have ok0:=Bu (P:=l.prog) (w:=w) (mg:=mg) (base:=base) F0.F cV;have ok1:=Hm (P:=l.prog) (w:=w) (mg:=mg) (base:=base) F1.F;have ok2:=EU (P:=l.prog) (w:=w) (mg:=mg) (base:=base) F2.F;have VT:=EV (P:=l.prog) (w:=w) (mg:=mg) (base:=base) F3.F;have ok4:=Bt (P:=l.prog) (w:=w) (mg:=mg) (base:=base) F4.F cV gI c5 ⟨ok1,F1.mg X G,F1.F.kp,b1⟩ ⟨ok2,F2.mg X G,F2.F.kp,b2⟩ ⟨VT,F3.mg X G,F3.F.kp,b3⟩;have YJ:=ES (P:=l.prog) (w:=w) (mg:=mg) (base:=base) F5.F cV c5;have ok6:=JF (P:=l.prog) (w:=w) (mg:=mg) (base:=base) F6.F cV gI c5;have ok7:=u3 (P:=l.prog) (w:=w) (mg:=mg) (base:=base) F7.F ⟨ok6,F6.mg X G,F6.F.kp,b6⟩ ⟨YJ,F5.mg X G,F5.F.kp,b5⟩;have ok8:=ET (P:=l.prog) (w:=w) (mg:=mg) (base:=base) F8.F sF;have YI:=zv (P:=l.prog) (w:=w) (mg:=mg) (base:=base) F9.F (ez.fld ml) (ez.fld j9) (ez.fld sG) (ez.fld qK) (ez.fld ph) (ez.fld sH);have Y6:=u4 (P:=l.prog) (w:=w) (mg:=mg) (base:=base) F10.F (yj.fld A0);have Y5:=x6 (P:=l.prog) (w:=w) (mg:=mg) (base:=base) F11.F (ud.fld Ep) (ud.fld Eo) (ud.fld Cr) (ud.fld Er);have Ti:=x5 (P:=l.prog) (w:=w) (mg:=mg) (base:=base) Xa.F (fT.fld k9) (fT.fld jC);have Y4:=wX (P:=l.prog) (w:=w) (mg:=mg) (base:=base) F13.F (qj.fld Cq) (qj.fld zm) (qj.fld A1) (qj.fld Cp);have Y3:=JE (P:=l.prog) (w:=w) (mg:=mg) (base:=base) Yc.F ⟨Y6,b10,F10.maker L8 Mp,yj.ns,gS X G yj.ns⟩ ⟨Y5,b11,F11.maker Q7 Rc,ud.ns,gS X G ud.ns⟩ ⟨Ti,b12,Xa.maker Et EA,fT.ns,gS X G fT.ns⟩ ⟨YI,b9,F9.maker Jg Jo,ez.ns,gS X G ez.ns⟩ ⟨Y4,b13,F13.maker OD OM,qj.ns,gS X G qj.ns⟩;have Th:=EN (P:=l.prog) (w:=w) (mg:=mg) (base:=base) Sk.F El Jc cg;have Tg:=CC (P:=l.prog) (w:=w) (mg:=mg) (base:=base) Sj.F cg cV j8 ⟨Th,Sk.mg X G,Sk.F.kp,b15⟩;have V0:=ER (P:=l.prog) (w:=w) (mg:=mg) (base:=base) Vb.F cg cV c5 xT j8 ⟨Tg,Sj.mg X G,Sj.F.kp,b16⟩ ⟨Th,Sk.mg X G,Sk.F.kp,b15⟩;have VZ:=Ho (P:=l.prog) (w:=w) (mg:=mg) (base:=base) Yb.F (ez.fld sH) (ez.fld ph) (ez.fld qK) (ez.fld sG) (ez.fld j9) (ez.fld ml);have VY:=EW (P:=l.prog) (w:=w) (mg:=mg) (base:=base) Va.F xU;have Tf:=Hl (P:=l.prog) (w:=w) (mg:=mg) (base:=base) Si.F ⟨VY,Va.mg X G,Va.F.kp,b19⟩ ⟨ok6,F6.mg X G,F6.F.kp,b6⟩;have VX:=Br (P:=l.prog) (w:=w) (mg:=mg) (base:=base) U9.F;have VW:=Hj (P:=l.prog) (w:=w) (mg:=mg) (base:=base) U8.F lV ⟨VX,U9.mg X G,U9.F.kp,b21⟩;have Y2:=CA (P:=l.prog) (w:=w) (mg:=mg) (base:=base) X9.F cV (gS X G w7) ⟨VW,U8.mg X G,U8.F.kp,b22⟩;have Te:=Hi (P:=l.prog) (w:=w) (mg:=mg) (base:=base) Sh.F;have VV:=EL (P:=l.prog) (w:=w) (mg:=mg) (base:=base) U7.F qJ ⟨Te,Sh.mg X G,Sh.F.kp,b24⟩;have Y1:=Hh (P:=l.prog) (w:=w) (mg:=mg) (base:=base) X8.F gI ⟨VV,U7.mg X G,U7.F.kp,b25⟩ ⟨Te,Sh.mg X G,Sh.F.kp,b24⟩;have Y0:=zu (P:=l.prog) (w:=w) (mg:=mg) (base:=base) F27.F (ez.fld sH) (ez.fld j9) (ez.fld ml);have YZ:=MH (P:=l.prog) (w:=w) (mg:=mg) (base:=base) X7.F xU;have VU:=Bq (P:=l.prog) (w:=w) (mg:=mg) (base:=base) U6.F ⟨YZ,X7.mg X G,X7.F.kp,b28⟩;have VS:=Hq (P:=l.prog) (w:=w) (mg:=mg) (base:=base) X6.F (ez.fld j9) (ez.fld ml) (ez.fld qK) (ez.fld sG) (ez.fld ph) ⟨Y2,X9.mg X G,X9.F.kp,b23⟩ ⟨Y1,X8.mg X G,X8.F.kp,b26⟩ ⟨Y0,b27,F27.me ez⟩ ⟨VU,U6.mg X G,U6.F.kp,b29⟩;have VR:=Hk (P:=l.prog) (w:=w) (mg:=mg) (base:=base) U5.F cg cV gI c5 ⟨Tg,Sj.mg X G,Sj.F.kp,b16⟩;have YY:=Hr (P:=l.prog) (w:=w) (mg:=mg) (base:=base) F32.F (ez.fld j9) (ez.fld ml) ⟨VS,b30,X6.me ez⟩ ⟨Ti,b12,Xa.maker Et EA,fT.ns,gS X G fT.ns⟩;have YX:=EX (P:=l.prog) (w:=w) (mg:=mg) (base:=base) F33.F (fT.fld jC) (fT.fld k9);have YW:=wW (P:=l.prog) (w:=w) (mg:=mg) (base:=base) X5.F ⟨VW,U8.mg X G,U8.F.kp,b22⟩;have YV:=zt (P:=l.prog) (w:=w) (mg:=mg) (base:=base) X4.F;have VQ:=JG (P:=l.prog) (w:=w) (mg:=mg) (base:=base) U4.F ⟨VX,U9.mg X G,U9.F.kp,b21⟩;have VP:=JD (P:=l.prog) (w:=w) (mg:=mg) (base:=base) U3.F Jb;have YU:=CB (P:=l.prog) (w:=w) (mg:=mg) (base:=base) X3.F;have YT:=EM (P:=l.prog) (w:=w) (mg:=mg) (base:=base) X2.F ⟨VQ,U4.mg X G,U4.F.kp,b36⟩ ⟨VP,U3.mg X G,U3.F.kp,b37⟩ ⟨YU,X3.mg X G,X3.F.kp,b38⟩;have VO:=Bv (P:=l.prog) (w:=w) (mg:=mg) (base:=base) X1.F (fT.fld jC) (fT.fld k9) ⟨YW,X5.mg X G,X5.F.kp,b34⟩ ⟨YV,X4.mg X G,X4.F.kp,b35⟩ ⟨YT,X2.mg X G,X2.F.kp,b39⟩;have YS:=EK (P:=l.prog) (w:=w) (mg:=mg) (base:=base) X0.F ⟨VU,U6.mg X G,U6.F.kp,b29⟩;have YR:=EY (P:=l.prog) (w:=w) (mg:=mg) (base:=base) F42.F (fT.fld jC) (fT.fld k9) ⟨VO,b40,X1.me fT⟩ ⟨YS,X0.mg X G,X0.F.kp,b41⟩;have YQ:=x4 (P:=l.prog) (w:=w) (mg:=mg) (base:=base) XZ.F ⟨VP,U3.mg X G,U3.F.kp,b37⟩;have YO:=Cz (P:=l.prog) (w:=w) (mg:=mg) (base:=base) XY.F ⟨VV,U7.mg X G,U7.F.kp,b25⟩ ⟨Te,Sh.mg X G,Sh.F.kp,b24⟩;have YN:=EZ (P:=l.prog) (w:=w) (mg:=mg) (base:=base) F45.F (fT.fld jC) (fT.fld k9) ⟨VO,b40,X1.me fT⟩ ⟨YQ,XZ.mg X G,XZ.F.kp,b43⟩ ⟨YO,XY.mg X G,XY.F.kp,b44⟩ ⟨YI,b9,F9.maker Jg Jo,ez.ns,gS X G ez.ns⟩ ⟨VQ,U4.mg X G,U4.F.kp,b36⟩;have YM:=Hn (P:=l.prog) (w:=w) (mg:=mg) (base:=base) XX.F cg cV c5 xT j8 ⟨Tg,Sj.mg X G,Sj.F.kp,b16⟩ ⟨Th,Sk.mg X G,Sk.F.kp,b15⟩;have YL:=Bs (P:=l.prog) (w:=w) (mg:=mg) (base:=base) XW.F lV ⟨YM,XX.mg X G,XX.F.kp,b46⟩ ⟨YJ,F5.mg X G,F5.F.kp,b5⟩ ⟨ok7,F7.mg X G,F7.F.kp,b7⟩ ⟨Tf,Si.mg X G,Si.F.kp,b20⟩;have VN:=CD (P:=l.prog) (w:=w) (mg:=mg) (base:=base) U2.F gI c5 ⟨Tf,Si.mg X G,Si.F.kp,b20⟩ ⟨YR,b42,F42.me fT⟩ ⟨VR,U5.mg X G,U5.F.kp,b31⟩ ⟨VY,Va.mg X G,Va.F.kp,b19⟩ ⟨YN,b45,F45.me fT⟩ ⟨VZ,b18,Yb.me ez⟩ ⟨YL,XW.mg X G,XW.F.kp,b47⟩;have YK:=EO (P:=l.prog) (w:=w) (mg:=mg) (base:=base) XU.F gI c5 ⟨Tf,Si.mg X G,Si.F.kp,b20⟩ ⟨VS,b30,X6.me ez⟩ ⟨VR,U5.mg X G,U5.F.kp,b31⟩ ⟨YY,b32,F32.me ez⟩ ⟨YX,b33,F33.me fT⟩ ⟨V0,Vb.mg X G,Vb.F.kp,b17⟩ ⟨VN,U2.mg X G,U2.F.kp,b48⟩;exact Ua Fl cV c5 ⟨ok0,F0.mg X G,F0.F.kp,b0⟩ ⟨ok4,F4.mg X G,F4.F.kp,b4⟩ ⟨ok2,F2.mg X G,F2.F.kp,b2⟩ ⟨ok1,F1.mg X G,F1.F.kp,b1⟩ ⟨YJ,F5.mg X G,F5.F.kp,b5⟩ ⟨ok7,F7.mg X G,F7.F.kp,b7⟩ ⟨ok8,F8.mg X G,F8.F.kp,b8⟩ ⟨YI,b9,F9.maker Jg Jo,ez.ns,gS X G ez.ns⟩ ⟨Y3,Yc.mg X G,Yc.F.kp,b14⟩ ⟨V0,Vb.mg X G,Vb.F.kp,b17⟩ ⟨VZ,b18,Yb.me ez⟩ ⟨YK,XU.mg X G,XU.F.kp,b49⟩ ⟨Ti,b12,Xa.maker Et EA,fT.ns,gS X G fT.ns⟩ ⟨VN,U2.mg X G,U2.F.kp,b48⟩
end Fin
end Internal
open Internal
open PySem PySem.W PyProof.Rows
set_option maxRecDepth 100000 in
set_option maxHeartbeats 0 in
theorem PySem.Challenge.cw_knotwise_k22_lays_there_and_back_holds : PySem.Challenge.rw_knotwise_k22_lays_there_and_back.Holds := by
 w_on
 refine K2.MB (q:=Fin.hQ) (K:=Fin.hK) (as:=Fin.hA) (N:=(12+(1+(1474+(1323+(1214+1048)))))) Fin.TZ (by kernel_rfl) (by kernel_rfl) (fun _=>by kernel_rfl) (fun _=>by kernel_rfl) Fin.T1 (by rfl) (by rfl) (by rfl) (by rfl) Fin.TY ⟨rfl,rfl,rfl,rfl,rfl,by decide +kernel⟩ ?hw ?hc
 (case hw=>w_witness2)
 k_fill
 refine K2.OI (l:=PySem.Challenge.rw_knotwise_k22_lays_there_and_back) (k:=8) (x:="_law_script") rfl rfl ⟨rfl,by decide,by decide⟩ (fun w h Y=>Y) ?F
 case F =>
  intro w mg fa h KX G Wn;exact Fin.all_mk KX G Wn K2.BM K2.BM K2.BM K2.BM K2.BM K2.fF K2.fF K2.fF K2.fF K2.fF K2.fF K2.fF K2.fF K2.fF K2.lW K2.lW K2.lW K2.lW K2.lW K2.fF K2.fF K2.fF K2.fF K2.lW K2.fF K2.fF K2.fF K2.fF K2.fF K2.fF K2.fF K2.fF K2.lW K2.fF K2.fF K2.lW K2.fF K2.lW K2.lW K2.fF K2.fF K2.fF K2.fF K2.fF K2.fF K2.lW K2.fF K2.lW K2.fF K2.fF K2.lW K2.fF K2.fF K2.fF K2.fF K2.fF
