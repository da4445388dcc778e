import PyProof.Rows.All
import Wide.All
import OpenK.AllK
import Wide.FinOn
import Lean
import PyProof.EqAt
import PyProof.EqKinds
import PyProof.TupleCall
import PySem.Challenge.RW_knotwise_k21_curls_there_and_back
open Array renaming mk -> ko, length_toList -> ky, getD -> Io
open Array.Perm renaming refl -> mG
open Bool renaming false_eq_true -> ah, not_true -> aJ, and_eq_true -> aU, not_false -> bL, noConfusion -> cF, false_ne_true -> jv, and_eq_true_iff -> jW, or_eq_true -> oV, false_or -> Aj, false_and -> Il, and_false -> Im, true_and -> KS, beq_eq_decide_eq -> NK
open Classical renaming byContradiction -> B5
open False renaming elim -> bN
open ForInStep renaming yield -> si
open Int renaming toNat_natCast -> iI, emod_lt_of_pos -> As, emod_nonneg -> Gj
open List renaming getElem?_cons_zero -> aa, getElem?_cons_succ -> ae, length_cons -> ag, set_cons_zero -> aj, set_cons_succ -> aq, map_cons -> au, length_map -> av, length_nil -> aw, cons_append -> aA, nil_append -> aE, length_append -> aI, map_append -> aL, getElem?_eq_getElem -> aM, map_nil -> aO, mem_cons_of_mem -> aR, replicate -> aZ, size_toArray -> a8, mem_cons_self -> bf, flatten_cons -> bz, getElem?_append_right -> bF, mem_append_right -> bJ, append_assoc -> bS, take_append_drop -> cy, getElem?_append_left -> cz, length_take -> cA, length_drop -> cD, filter_append -> cT, append_nil -> c9, length -> dh, getElem?_map -> dq, mem_append_left -> du, not_mem_nil -> dI, getElem_map -> dJ, getD_eq_getElem?_getD -> eh, mem_of_getElem? -> eC, range -> eE, length_range -> eR, flatMap_cons -> eS, mem_cons -> e7, getElem_mem -> fb, length_replicate -> fG, find?_cons -> fH, nodup_append -> fZ, getElem?_set_self -> gI, mem_singleton -> hU, length_singleton -> hV, drop_eq_getElem_cons -> hW, nodup_cons -> iD, flatMap_append -> iP, map_map -> jD, getElem?_set_ne -> jU, getElem?_of_mem -> jV, nodup_nil -> kn, mem_map_of_mem -> kE, getElem?_replicate -> lA, filter_cons_of_neg -> lB, append_of_mem -> lC, take_of_length_le -> lP, drop_eq_nil_of_le -> lQ, lookup_cons -> mR, idxOf_le_length -> nH, any_cons -> og, lookup -> oQ, length_set -> oR, length_reverse -> oS, foldl_cons -> oT, flatten_append -> oU, zipIdx_append -> qc, getElem_range -> qe, find?_eq_none -> qf, pairwise_map -> rP, isEmpty_cons -> rQ, map_take -> sI, map_drop -> sJ, zipIdx_cons -> tf, isEmpty_nil -> tj, length_filter_le -> vG, idxOf_cons_self -> wJ, getElem?_range -> xS, filterMap_cons -> xT, take_nil -> Ag, drop_nil -> Ah, idxOf_append -> Be, find?_append -> Bf, set_nil -> B3, take_append_of_le_length -> DT, all_eq_true -> DU, countP_eq_length_filter -> D5, perm_append_comm_assoc -> FR, of_mem_zip -> FT, mem_append -> FU, take_left -> Ii, mem_of_find?_eq_some -> Ij, drop_left -> Ik, length_erase_of_mem -> JA, all_cons -> KR, length_pos_of_mem -> Lf, getElem_cons_succ -> Lg, find?_cons_of_pos -> Lh, find?_cons_of_neg -> Li, drop_of_length_le -> Lj, getElem?_eq_none -> NH, all_map -> NI, mem_of_mem_drop -> N7, mem_erase_of_ne -> N8, getElem?_zipIdx -> N9
open Nat renaming le_refl -> aQ, ne_of_lt -> bM, lt_of_lt_of_le -> bR, zero_le -> cI, le_trans -> eU, lt_irrefl -> iT, lt_succ_self -> kC, zero_add -> mJ, le_of_ble_eq_true -> mK, min_eq_left -> o3, add_sub_cancel_left -> sZ, succ_le_succ -> tV, le_add_right -> tW, le_of_succ_le_succ -> t6, le_succ -> yr, lt_succ_of_lt -> B2, not_lt_zero -> Gi, le_of_lt -> N6
open Ne renaming symm -> fD
open Option renaming isSome_map -> Af
open Option.some renaming inj -> bT
open Prod.mk renaming injEq -> Gh
open PyProof.Rows renaming callWith_type1 -> eL, IntsAre -> mh, slot_tuple_getitem -> vF, callWith_builtin1 -> vN, seqObj -> yj, AllBare -> B6, envOfC -> D3
open PySem renaming FuncData -> ax, Shared -> aB, wpAny_bind -> aN, sizeLine -> bh, mainGlobals -> bo, wpAny_pure -> bG, Program -> bO, starEach -> bY, wpAny_loadPart' -> cf, sizeLine_eq -> c6, bootBuiltins -> dR, Around -> dU, compareOp -> fE, ReadsAll -> g7, mem_of_lookup -> iO, treeTable -> iR, wpAny_passesOwn -> jX, wpAny_newObj_type -> kq, wpAny_holding -> kr, binaryOp -> ku, OsState -> lD, sysModules -> lJ, wpAny_Call_Name_kw -> ma, importedModules -> md, backTo -> mf, foldedSetIterable -> nF, plainId_quiet -> qb, sliceBounds -> qj, richCompare -> ql, codeAny_builtin -> qo, argBest -> qp, tupleKind_room_in1 -> sF, Params -> sG, NameKind -> sH, wpAny_truthy_bool -> tX, codeAny -> vK, attributeBase -> vL, richCompare_meets_room -> xt, wpAny_updateSeq -> yh, wpAny_execs_nil -> yi, letOwnedTupleGo -> yk, call_meets -> Ac, assignEach -> Ae, wpAny_tryCatch -> Bb, keywordEach -> BZ, swapsWith -> D1, wpAny_truthy_dict -> FY, wpAny_mono -> FZ, relabel -> Ga, callerA -> Gb, wpAny_callSpecialIfBound?_slot -> HZ, codeAny_mono -> H0, call -> Ib, wpAny_letGo -> K5, valueAt -> K6, tupleKind -> K7, holding -> K9, assign -> Lb, Within -> Le, Keyword -> Ll, BindsTo -> Lm, wpAny_seqItems -> N0
open PySem.Around renaming under_plainId -> jQ, under -> KU
open PySem.AutoSeq1 renaming sub_tuple_tuple -> pM, sub_list_list -> Gm
open PySem.Builtin.Builtins renaming bindParams -> vI
open PySem.Builtin.List renaming listTooLong -> jN
open PySem.Builtin.Slice renaming slicePlaces -> ju, sliceAdjust -> mL, sliceApplied -> xU
open PySem.Builtin.Tuple renaming tupleExact -> jE, tupleCompareSizes -> t7
open PySem.Calls renaming spliced_cons -> yt, Name_function_global -> FV
open PySem.Code renaming isFrame -> NJ
open PySem.F renaming plainAttrs_list -> bq, type_list_append -> ck, slot_list_append -> cm, slot_list_index -> iH, plain_min_loop -> jt, type_list_index -> kG, slot_tuple_lt -> lO, args_tuple_lt_2 -> qt, entry_tuple_lt -> sg, slot_list_lt -> tZ, args_tuple_add_2 -> FQ, entry_tuple_add -> Gg, entry_min_loop -> Gk, slot_tuple_add -> Ig, args_list_lt_2 -> Ih, entry_list_lt -> Jz
open PySem.Heap renaming get?_push_of_some -> a0, lt_size -> a9, get?_push_size -> cb, get?_update_other -> dv, size_push -> jb, get?_update_self -> vH, SameBut -> B4, size_update -> DV, get?_none_of_le -> Oa
open PySem.NameKind renaming free -> kD
open PySem.Obj renaming mapSeq -> jl
open PySem.Paired renaming length -> xR
open PySem.PassesOwn renaming never -> bb
open PySem.PyData renaming depthAll -> cg, eqv -> t4
open PySem.SeqAt renaming items_eqAt -> mI, any_by_data -> qr, readOf -> Bc
open PySem.Value renaming ref -> jZ, none -> lN, bool -> Ia, str -> Lc, int -> Ld
open PySem.W renaming Frag -> ao, findIn -> bw, mg_none_of -> cP, nsIn -> c5, emptyDict -> fk, keepIn -> fw, mg_of -> fR, boot_heap -> gb, kas_rev -> gQ, instObj -> ic, boot_drawn -> iS, makesIn -> jo, kia_one -> jq, fnOf -> jr, kas_place -> jY, kas_desc -> lz, SharedT -> nG, topFrame -> oe, kas_asc -> qm, plainGet -> rO, boot_toks -> tY, lookIn -> vE, plainGet_of -> vM, callWith_K -> xu, kas_descPart -> ym, specialIn -> yn, methodObj -> yp, hasDictIn -> yq, takerIn -> B0, OpenLaw -> B1, codeIn -> D4, cellsFrom_some -> Ie, methodCall_KW -> Jx, isFn -> Jy, openGood -> KQ, kas_tail3 -> K8, boot_o_10 -> La, plainOver -> N5
open PySem.W.KasT renaming ret -> vO
open Sum renaming inr -> Ge, inl -> Gf
open True renaming intro -> ja
set_option Elab.async false
set_option linter.all false
set_option maxRecDepth 100000
set_option maxHeartbeats 4000000
set_option genSizeOf false
set_option genInjectivity false
set_option compiler.extract_closed false
namespace Internal
theorem Ad(h:0=0:=by decide):0=0:=h
theorem Ai(h:0=0:=by intro _; rfl):0=0:=h
theorem Ak(h:0=0:=by decide +kernel):0=0:=h
theorem Al(h:0=0:=by intro _ _ _ _ h; repeat (first | (cases h.1; rfl) | (cases h <;> rename_i h))):0=0:=h
theorem Am(h:0=0:=by exact bf):0=0:=h
theorem An(h:0=0:=by exact mK rfl):0=0:=h
theorem Ao(h:0=0:=by first | exact .inl rfl | exact .inr rfl | exact .inr (.inl rfl) | exact .inr (.inr rfl) | assumption):0=0:=h
theorem Aq(h:0=0:=by k_is):0=0:=h
theorem Ar(h:0=0:=by rfl):0=0:=h
namespace L2
open PySem PySem.Spec PyProof.Rows
noncomputable abbrev Key:=Sum Int Str
noncomputable def BA:Key->Value->Bool
 | .inl k,v=>Value.isInt k v
 | .inr x,v=>Value.isStrOf x v
noncomputable def WK(w:World):Key->Int
 | .inl k=>hashInt k
 | .inr x=>hashStr w x
theorem gu:∀ {k:Key} {v:Value},BA k v=true->(∃ i t,k=Gf i/\v=Ld i t)\/(∃ x t,k=Ge x/\v=Lc x t)
 | .inl i,v,h=>by
  obtain⟨t,e⟩:=Value.isInt_shape (k:=i) (v:=v) h;exact .inl ⟨i,t,rfl,e⟩
 | .inr x,v,h=>by
  obtain⟨t,e⟩:=Value.isStrOf_shape (x:=x) (v:=v) h;exact .inr ⟨x,t,rfl,e⟩
theorem Kd(i:Int)(t:Tok):BA (.inl i) (.int i t)=true:=by simp [BA,Value.isInt]
theorem Kc(x:Str)(t:Tok):BA (.inr x) (.str x t)=true:=by simp [BA,Value.isStrOf]
theorem Mp(a b:Int):decide ((Gf a:Key)=Gf b)=(a == b):=by
 by_cases e:a=b
 ·subst e; simp
 ·have h:¬ (Gf a:Key)=Gf b:=fun q=>e (Sum.inl.inj q);rw [decide_eq_false h];exact(beq_eq_false_iff_ne.mpr e).symm
theorem Mn(a b:Str):decide ((Ge a:Key)=Ge b)=decide (a=b):=by
 by_cases e:a=b
 ·subst e; simp
 ·have h:¬ (Ge a:Key)=Ge b:=fun q=>e (Sum.inr.inj q);rw [decide_eq_false h,decide_eq_false e]
theorem QT(a:Int)(b:Str):decide ((Gf a:Key)=Ge b)=false:=decide_eq_false (fun q=>nomatch q)
theorem QS(a:Str)(b:Int):decide ((Ge a:Key)=Gf b)=false:=decide_eq_false (fun q=>nomatch q)
noncomputable def gP(prog:bO)(w:World):PySem.KeyKind prog w Key where
 is:=BA
 hash:=WK w
 inj:=fun v a b ha hb=>by
  rcases gu ha with ⟨i,t,rfl,rfl⟩ | ⟨x,t,rfl,rfl⟩
  ·rcases gu hb with ⟨j,u,rfl,e⟩ | ⟨y,u,rfl,e⟩
   ·injection e with e1 _; rw [e1]
   ·exact nomatch e
  ·rcases gu hb with ⟨j,u,rfl,e⟩ | ⟨y,u,rfl,e⟩
   ·exact nomatch e
   ·injection e with e1 _; rw [e1]
 byValue:=fun k v h=>by
  rcases gu h with ⟨i,t,rfl,rfl⟩ | ⟨x,t,rfl,rfl⟩ <;> rfl
 pyHash:=fun hv h=>by
  rcases gu hv with ⟨i,t,rfl,rfl⟩ | ⟨x,t,rfl,rfl⟩
  ·exact wpAny_pyHash_int h
  ·exact wpAny_pyHash_str h
 eqBool:=fun hu hv h=>by
  rcases gu hu with ⟨i,t,rfl,rfl⟩ | ⟨x,t,rfl,rfl⟩
  ·rcases gu hv with ⟨j,u,rfl,rfl⟩ | ⟨y,u,rfl,rfl⟩
   ·rw [Mp] at h; exact wpAny_eqBool_int h
   ·rw [QT] at h; exact SeqAt.EqAt.int_str i t y u _ _ _ _ h
  ·rcases gu hv with ⟨j,u,rfl,rfl⟩ | ⟨y,u,rfl,rfl⟩
   ·rw [QS] at h; exact SeqAt.EqAt.str_int x t j u _ _ _ _ h
   ·rw [Mn] at h; exact wpAny_eqBool_str h
 «strs»:=fun k x t v h=>by
  rcases gu h with ⟨i,u,rfl,e⟩ | ⟨y,u,rfl,e⟩
  ·exact nomatch e
  ·injection e with e1 _
   subst e1;cases v <;> rfl
theorem EK(prog:bO)(w:World)(i:Int)(t:Tok):(gP prog w).is (.inl i) (.int i t)=true:=Kd i t
theorem EJ(prog:bO)(w:World)(x:Str)(t:Tok):(gP prog w).is (.inr x) (.str x t)=true:=Kc x t
inductive V where
 | dQ | bl (b:Bool) | int (i:Int) | str (x:Str) | PV (b:Array UInt8) | tG (b:UInt64) | ref (a:Addr) | ty (n:String)
noncomputable def RelV:V->Value->Prop
 | .dQ,u=>u=lN
 | .bl b,u=>u=Ia b
 | .int i,u=>∃ t,u=Ld i t
 | .str x,u=>∃ t,u=Lc x t
 | .PV b,u=>∃ t,u=Value.bytes b t
 | .tG b,u=>∃ t,u=Value.float b t
 | .ref a,u=>u=jZ a
 | .ty n,u=>u=Value.type n
noncomputable abbrev Vals:List V->List Value->Prop:=Paired RelV
theorem Vals.length{xs:List V}{us:List Value}(r:Vals xs us):xs.length=us.length:=xR r
theorem Vals.get:∀ {xs:List V} {us:List Value} {i:Nat} {x:V},Vals xs us->xs[i]?=some x->∃ u,us[i]?=some u/\RelV x u:=by
 intro xs us i x h;induction h generalizing i with
 | nil=>intro e; cases e
 | cons r t ih =>
  intro e;cases i with
  | zero=>cases e; exact⟨_,rfl,r⟩
  | succ i=>exact ih e
theorem Vals.set{x:V}{u:Value}(r:RelV x u):∀ {xs:List V} {us:List Value} (i:Nat),Vals xs us->Vals (xs.set i x) (us.set i u):=by
 intro xs us i h;induction h generalizing i with
 | nil=>rw [B3,B3]; exact .nil
 | cons q t ih =>
  cases i with
  | zero=>exact .cons r t
  | succ i=>exact .cons q (ih i)
theorem Vals.append:∀ {xs ys:List V} {us ws:List Value},Vals xs us->Vals ys ws->Vals (xs++ys) (us++ws):=by
 intro xs ys us ws h s;induction h with
 | nil=>exact s
 | cons r t ih=>exact .cons r ih
theorem Vals.take:∀ {xs:List V} {us:List Value} (n:Nat),Vals xs us->Vals (xs.take n) (us.take n):=by
 intro xs us n h;induction h generalizing n with
 | nil=>rw [Ag,Ag]; exact .nil
 | cons r t ih =>
  cases n with
  | zero=>exact .nil
  | succ n=>exact .cons r (ih n)
theorem Vals.drop:∀ {xs:List V} {us:List Value} (n:Nat),Vals xs us->Vals (xs.drop n) (us.drop n):=by
 intro xs us n h;induction h generalizing n with
 | nil=>rw [Ah,Ah]; exact .nil
 | cons r t ih =>
  cases n with
  | zero=>exact .cons r t
  | succ n=>exact ih n
noncomputable def sE:Option V->Option Value->Prop
 | some v,some u=>RelV v u
 | none,none=>True
 | _,_=>False
noncomputable def KV{κ:Type}:List (κ×V)->List (κ×Value)->Prop:=Paired fun (p:κ×V) (q:κ×Value)=>p.1=q.1/\RelV p.2 q.2
noncomputable def kV:Key->V
 | .inl i=>.int i
 | .inr x=>.str x
inductive HO where
 | lst (xs:List V)
 | tup (xs:List V)
 | dK (bu:List (Key×V)) | dT (bu:List (List Key×V))
 | set (S:Int->Bool) (n:Nat)
 | ins (C dx:Addr) (fs:List (Str×V))
 | own (x:Addr)
 | xd (fs:List (Str×V))
 | met (f x:Addr)
 | SJ (lo hi:Int)
 | pX (o:Obj) (u:HO)
 | Pn (q:Str)
 | ext (φ:Heap->Prop)
noncomputable abbrev Hp:=Addr->Option HO
noncomputable def upd(H:Hp)(a:Addr)(o:HO):Hp:=fun b=>if b=a then some o else H b
theorem c8{H:Hp}{a:Addr}{o:HO}:upd H a o a=some o:=by unfold upd; rw [if_pos rfl]
theorem bZ{H:Hp}{a b:Addr}{o:HO}(h:b≠a):upd H a o b=H b:=by unfold upd; rw [if_neg h]
theorem Th{H:Hp}{a b:Addr}{o u:HO}(h:H a=some o)(h':H b=some u)(d:o≠u):a≠b:=by
 intro e; subst e; rw [h] at h'; exact d (bT h')
theorem eP{H:Hp}{a b:Addr}{o:HO}(h:H a=some o)(h':H b=none):a≠b:=by
 intro e; subst e; rw [h] at h'; cases h'
section
variable (P:bO) (w:World)
noncomputable def iC(H:Hp)(h:Heap)(a:Addr):HO->Prop
 | .lst xs=>xs.length<=bh/\∃ (bB:List Value) (n:Nat),Vals xs bB/\h.get? a=some { cls:=.type "list",data:=.seq bB.toArray n }
 | .tup xs=>xs.length<=bh/\∃ bB:List Value,Vals xs bB/\IsTup h a bB.toArray
 | .dK bu=>bu.length<=bh/\(a == lJ)=false/\∃ vs,KV bu vs/\h.DictOf (gP P w) a vs
 | .dT bu=>bu.length<=bh/\(a == lJ)=false/\∃ xs:List (List Key×Addr×Value),
   Paired (fun (p:List Key×V) (q:List Key×Addr×Value)=>p.1=q.1/\H q.2.1=some (.tup (p.1.map kV))/\RelV p.2 q.2.2) bu xs /\
   ∃ o es ep,h.get? a=some o/\o.ExactDict/\o.data=.dict es ep/\es.toList=xs.map (entryOfKey (K7 (gP P w)))/\(xs.map (·.1)).Nodup
 | .set S n=>h.SetOf (intKind P w) a S n
 | .ins C dx fs=>H dx=some (.own a)/\fs.length<=1000/\dx≠a/\h.get? a=some (ic C dx) /\
   ∃ mA,h.Ns1 dx mA/\(∀ f,sE (fs.lookup f) (mA f))/\Le mA (fs.map (·.1))
 | .own _=>∃ o,h.get? a=some o
 | .xd fs=>∃ mA,h.Ns1 a mA/\∀ f,sE (fs.lookup f) (mA f)
 | .SJ lo hi=>∃ t u v,h.get? a=some { cls:=.type "range",data:=.fields #[.int lo t,.int hi u,.int 1 v] }
 | .pX o u=>h.get? a=some o/\iC H h a u
 | .Pn q=>∃ ps,h.get? a=some { cls:=.none,data:=.fields ps }/\TriplesOk ps.toList/\∀ pos cv,codeAmong pos ps.toList=some cv->∃ c',cv=.ref c'/\H c'=some (.own a)/\h.CodeRec (.ref c') q
 | .met f x=>h.get? a=some (yp (.ref f) (.ref x))
 | .ext φ=>φ h/\(∃ o,h.get? a=some o)/\∀ h1 h2:Heap,φ h1->(∀ o,h1.get? a=some o->h2.get? a=some o)->φ h2
noncomputable def tU(H:Hp)(h:Heap):Prop:=∀ a o,H a=some o->iC P w H h a o
end
section
variable {P:bO} {w:World} {H H':Hp} {h h':Heap} {a:Addr} {o:HO}
theorem iC.lt(x:iC P w H h a o):a < h.objs.size:=by
 cases o with
 | lst xs=>obtain⟨_,_,_,_,e⟩:=x; exact a9 e
 | tup xs=>obtain⟨_,_,_,p⟩:=x; exact p.lt
 | dK bu=>obtain⟨_,_,_,_,o,_,_,e,_⟩:=x; exact a9 e
 | dT bu=>obtain⟨_,_,_,_,o,_,_,e,_⟩:=x; exact a9 e
 | set S n=>obtain⟨o,_,_,_,e,_⟩:=x; exact a9 e
 | ins C dx fs=>obtain⟨_,_,_,e,_⟩:=x; exact a9 e
 | own y=>obtain⟨_,e⟩:=x; exact a9 e
 | xd fs=>obtain⟨_,⟨_,_,_,e,_⟩,_⟩:=x; exact a9 e
 | SJ lo hi=>obtain⟨_,_,_,e⟩:=x; exact a9 e
 | pX ob u=>obtain⟨e,_⟩:=x; exact a9 e
 | Pn q=>obtain⟨_,e,_⟩:=x; exact a9 e
 | met f y=>exact a9 (show h.get? a=some _ from x)
 | ext φ=>obtain⟨_,⟨_,e⟩,_⟩:=x; exact a9 e
theorem Paired.Tn{α β:Type}{F G:α->β->Prop}:∀ {l₁:List α} {QN:List β},Paired F l₁ QN->(∀ a b,F a b->G a b)->Paired G l₁ QN:=by
 intro l₁ QN h f;induction h with
 | nil=>exact .nil
 | cons r t ih=>exact .cons (f _ _ r) ih
theorem iC.nI(x:iC P w H h a o)(k:∀ b u,(b=a\/H b=some (.own a))->h.get? b=some u->h'.get? b=some u)
  (ho:∀ b,H b=some (.own a)->H' b=some (.own a)) (ht:∀ b xs,H b=some (.tup xs)->H' b=some (.tup xs)):iC P w H' h' a o:=by
 induction o with
 | lst xs=>obtain⟨z,bB,n,r,e⟩:=x; exact⟨z,bB,n,r,k _ _ (.inl rfl) e⟩
 | tup xs=>obtain⟨z,bB,r,ob,e,c⟩:=x; exact⟨z,bB,r,ob,k _ _ (.inl rfl) e,c⟩
 | dK bu=>obtain⟨z,y,vs,r,ob,es,ep,e,c⟩:=x; exact⟨z,y,vs,r,ob,es,ep,k _ _ (.inl rfl) e,c⟩
 | dT bu =>
  obtain⟨z,y,xs,r,ob,es,ep,e,c⟩:=x;exact⟨z,y,xs,Paired.Tn r fun p q z=>⟨z.1,ht _ _ z.2.1,z.2.2⟩,ob,es,ep,k _ _ (.inl rfl) e,c⟩
 | set S n=>obtain⟨ob,es,ep,t,e,c⟩:=x; exact⟨ob,es,ep,t,k _ _ (.inl rfl) e,c⟩
 | ins C dx fs =>
  obtain⟨d,z,ne,e,mA,⟨od,es,ep,e2,c⟩,r⟩:=x;exact⟨ho _ d,z,ne,k _ _ (.inl rfl) e,mA,⟨od,es,ep,k _ _ (.inr d) e2,c⟩,r⟩
 | own y=>obtain⟨ob,e⟩:=x; exact⟨ob,k _ _ (.inl rfl) e⟩
 | xd fs=>obtain⟨mA,⟨od,es,ep,e,c⟩,r⟩:=x; exact⟨mA,⟨od,es,ep,k _ _ (.inl rfl) e,c⟩,r⟩
 | SJ lo hi=>obtain⟨t,u,v,e⟩:=x; exact⟨t,u,v,k _ _ (.inl rfl) e⟩
 | pX ob u ih=>obtain⟨e,q⟩:=x; exact⟨k _ _ (.inl rfl) e,ih q⟩
 | Pn q =>
  obtain⟨ps,e,t,z⟩:=x;refine⟨ps,k _ _ (.inl rfl) e,t,fun pos cv y=>?_⟩;obtain⟨c',e1,e2,c2,oc,vs,tq,e3,e4,r⟩:=z pos cv y;cases e3;exact⟨c',e1,ho _ e2,c',oc,vs,tq,rfl,k _ _ (.inr e2) e4,r⟩
 | met f y =>
  have e:h.get? a=some (yp (.ref f) (.ref y)):=x;show h'.get? a=some (yp (.ref f) (.ref y));exact k a _ (.inl rfl) e
 | ext φ=>obtain⟨p,⟨o,e⟩,st⟩:=x; exact⟨st _ _ p fun o q=>k _ _ (.inl rfl) q,⟨o,k _ _ (.inl rfl) e⟩,st⟩
theorem tU.lt(x:tU P w H h)(e:H a=some o):a < h.objs.size:=(x a o e).lt
theorem tU.fresh(x:tU P w H h)(e:h.objs.size<=a):H a=none:=by
 cases q:H a with
 | none=>rfl
 | some u=>exact absurd (bR (x.lt q) e) (iT _)
theorem tU.kept(x:tU P w H h)(k:∀ b u,h.get? b=some u->h'.get? b=some u):tU P w H h':=fun a o e =>
 (x a o e).nI (fun b u _ q=>k b u q) (fun _ q=>q) fun _ _ q=>q
theorem tU.laid(x:tU P w H h)(k:∀ b u,h.get? b=some u->h'.get? b=some u)(hp:h.objs.size<=a)(new:iC P w (upd H a o) h' a o):tU P w (upd H a o) h':=fun b u e=>by
 have hn:=x.fresh hp;by_cases hb:b=a
 ·subst hb; rw [c8] at e; cases e; exact new
 ·rw [bZ hb] at e;exact(x b u e).nI (fun c v _ q=>k c v q) (fun c q=>by rw [bZ (eP q hn)]; exact q) fun c xs q=>by rw [bZ (eP q hn)]; exact q
end
noncomputable def Rd(H:Hp)(a:Addr)(u:HO):Prop:=H a=some u\/∃ o,H a=some (.pX o u)
theorem Rd.ok{P:bO}{w:World}{H:Hp}{h:Heap}{a:Addr}{u:HO}(r:Rd H a u)(x:tU P w H h):iC P w H h a u:=by
 rcases r with r | ⟨o,r⟩
 ·exact x a u r
 ·obtain⟨_,q⟩:=x a _ r;exact q
noncomputable def UA:Option HO->Prop
 | some (.lst _)=>True
 | some (.dK _)=>True
 | some (.dT _)=>True
 | some (.set _ _)=>True
 | some (.ins _ _ _)=>True
 | some (.ext _)=>True
 | _=>False
section
variable {P:bO} {w:World} {H:Hp} {h h':Heap} {x e:Addr} {o':HO}
theorem tU.write(ok:tU P w H h)(mu:UA (H x))(he:e=x\/H e=some (.own x))(k:∀ b u,b≠e->h.get? b=some u->h'.get? b=some u)(R3:∃ u,h'.get? e=some u)
  (new:iC P w (upd H x o') h' x o'):tU P w (upd H x o') h':=fun b u q=>by
 have Td:∀ c y,H c=some (.own y)->c≠x:=fun c y r z=>by subst z; rw [r] at mu; exact mu
 have Wu:∀ c xs,H c=some (.tup xs)->c≠x:=fun c xs r z=>by subst z; rw [r] at mu; exact mu
 by_cases hb:b=x
 ·subst hb; rw [c8] at q; cases q; exact new
 ·rw [bZ hb] at q;by_cases Rc:b=e
  ·have q':H b=some (.own x):=by
    rcases he with z | z
    ·exact absurd (Rc.trans z) hb
    ·rw [Rc]; exact z
   rw [q] at q'; cases q';obtain⟨v,hv⟩:=R3;exact⟨v,by rw [Rc]; exact hv⟩
  ·refine(ok b u q).nI (fun c v hc r=>k c v ?_ r) (fun c r=>by rw [bZ (Td c b r)]; exact r) fun c xs r=>by rw [bZ (Wu c xs r)]; exact r
   rcases hc with rfl | hc
   ·exact Rc
   ·rintro rfl;rcases he with z | z
    ·exact Td c b hc z
    ·rw [hc] at z; cases z; exact hb rfl
end
structure Un(fs ex:List Addr)(H H':Hp)(h h':Heap):Prop where
 keep:∀ b o,h.get? b=some o->H b=none->b∉fs->b∉ex->h'.get? b=some o
 slot:∀ b o,h.get? b=some o->H b=none->b∈fs->b∉ex->∃ sl,h'.get? b=some { o with slots:=sl }
 free:∀ b o,h.get? b=some o->H b=none->b∉ex->H' b=none
 there:∀ b o,h.get? b=some o->b∉ex->∃ o',h'.get? b=some o'
 Av:∀ b xs,H b=some (.tup xs)->H' b=some (.tup xs)
 zj:∀ b o u,H b=some (.pX o u)->H' b=some (.pX o u)
 Ax:∀ b q,H b=some (.Pn q)->H' b=some (.Pn q)
section
variable {fs fs' ex ex':List Addr} {H H1 H2:Hp} {h h1 h2 h':Heap} {a x e:Addr} {o:HO}
theorem Un.any(u:Un fs ex H H1 h h1){b:Addr}{ob:Obj}(q:h.get? b=some ob)(n:H b=none)(hx:b∉ex):∃ sl,h1.get? b=some { ob with slots:=sl }:=by
 by_cases hb:b∈fs
 ·exact u.slot b ob q n hb hx
 ·exact⟨ob.slots,u.keep b ob q n hb hx⟩
theorem Un.kept(k:∀ b u,h.get? b=some u->h'.get? b=some u):Un fs ex H H h h' :=
 ⟨fun b ob q _ _ _=>k b ob q,fun b ob q _ _ _=>⟨ob.slots,k b ob q⟩,fun _ _ _ n _=>n,fun b ob q _=>⟨ob,k b ob q⟩,fun _ _ q=>q,fun _ _ _ q=>q,fun _ _ q=>q⟩
theorem Un.refl:Un fs ex H H h h:=Un.kept fun _ _ q=>q
theorem Un.laid(k:∀ b u,h.get? b=some u->h'.get? b=some u)(hp:h.objs.size<=a)(hn:H a=none):Un fs ex H (upd H a o) h h' where
 keep:=fun b u q _ _ _=>k b u q
 slot:=fun b u q _ _ _=>⟨u.slots,k b u q⟩
 free:=fun b u q n _=>by rw [bZ (bM (bR (a9 q) hp))]; exact n
 there:=fun b u q _=>⟨u,k b u q⟩
 Av:=fun b xs q=>by rw [bZ (eP q hn)]; exact q
 zj:=fun b u xs q=>by rw [bZ (eP q hn)]; exact q
 Ax:=fun b ps q=>by rw [bZ (eP q hn)]; exact q
theorem Un.write(mu:UA (H x))(he:e=x\/H e=some (.own x))(k:∀ b u,b≠e->h.get? b=some u->h'.get? b=some u)(R3:∃ u,h'.get? e=some u):Un fs ex H (upd H x o) h h':=by
 have hx:∀ b,H b=none->b≠x:=fun b n z=>by subst z; rw [n] at mu; exact mu
 have hb:∀ b,H b=none->b≠e:=fun b n z=>by
  subst z;rcases he with r | r
  ·exact hx b n r
  ·rw [n] at r; cases r
 have hm:∀ b u,H b=some u->¬ UA (some u)->b≠x:=fun b u q nm z=>by subst z; rw [q] at mu; exact nm mu
 refine⟨fun b u q n _ _=>k b u (hb b n) q,fun b u q n _ _=>⟨u.slots,k b u (hb b n) q⟩,fun b u q n _=>by rw [bZ (hx b n)]; exact n,fun b u q _=>?_,
  fun b xs q=>by rw [bZ (hm b _ q fun z=>z)]; exact q,fun b u xs q=>by rw [bZ (hm b _ q fun z=>z)]; exact q,fun b ps q=>by rw [bZ (hm b _ q fun z=>z)]; exact q⟩
 by_cases Rc:b=e
 ·subst Rc; exact R3
 ·exact⟨u,k b u Rc q⟩
end
noncomputable def UG(h:Heap)(H:Hp):List Addr:=(eE h.objs.size).filter fun a=>(H a).isSome
noncomputable def C0(h:Heap)(H:Hp):Heap:=PySem.W.hideAll h (UG h H)
theorem Kk(h:Heap)(H:Hp):(C0 h H).objs.size=h.objs.size:=PySem.W.hideAll_size _ _
theorem MH{h:Heap}{H:Hp}{b:Addr}{o:Obj}(e:h.get? b=some o)(n:H b=none):(C0 h H).get? b=some o :=
 PySem.W.hideAll_get _ e fun hm=>by
  have q:(H b).isSome=true:=(List.mem_filter.mp hm).2;rw [n] at q; simp at q
theorem OP{h:Heap}{H:Hp}{b:Addr}{o:Obj}(e:(C0 h H).get? b=some o):h.get? b=some o/\H b=none:=by
 have e':h.get? b=some o:=PySem.W.of_hideAll (UG h H) e;refine⟨e',?_⟩;cases q:H b with
 | none=>rfl
 | some x =>
  have hm:b∈UG h H:=List.mem_filter.mpr ⟨List.mem_range.mpr (a9 e'),by simp [q]⟩;have z:(C0 h H).get? b=none:=PySem.W.hideAll_none (UG h H) hm;rw [z] at e; cases e
noncomputable def se(g h:Heap)(L:Addr):List (Addr×Obj):=(eE h.objs.size).filterMap fun a=>if a=L\/(g.get? a).isSome=true then none else (h.get? a).map fun o=>(a,o)
theorem xc{g h:Heap}{L a:Addr}{o:Obj}(h1:a≠L)(h2:g.get? a=none)(h3:h.get? a=some o):(a,o)∈se g h L :=
 List.mem_filterMap.mpr ⟨a,List.mem_range.mpr (a9 h3),by simp [h1,h2,h3]⟩
theorem yP{g h:Heap}{L:Addr}{p:Addr×Obj}(hp:p∈se g h L):p.1≠L/\g.get? p.1=none/\h.get? p.1=some p.2:=by
 obtain⟨b,_,e⟩:=List.mem_filterMap.mp hp;split at e
 ·cases e
 ·rename_i hn;cases q:h.get? b with
  | none=>rw [q] at e; simp at e
  | some u =>
   rw [q] at e;simp only [Option.map_some,Option.some.injEq] at e;subst e;refine⟨fun z=>hn (.inl z),?_,q⟩;show g.get? b=none;cases r:g.get? b with
   | none=>rfl
   | some v=>exact(hn (.inr (by simp [r]))).elim
noncomputable def rest(g h:Heap)(L d:Addr):List (Addr×Obj):=(se g h L).filter fun p=>decide (p.1≠d)
theorem EF{g h:Heap}{L:Addr}:News g L h (se g h L):=fun p hp=>let ⟨a,b,c⟩:=yP hp; ⟨c,a,b⟩
structure Mod(K:ao)(mg:Str->Option Value)(base:Heap):Prop where
 RX:K.In base
 glob:base.Ns bo mg
 blt:∃ mb,base.Ns builtinsNs mb/\∀ x:Str,x≠"__name__"->mb x=dR x
 nolimit:base.NoLimit
structure Cx where
 prog:bO
 w:World
 K:ao
 mg:Str->Option Value
 base:Heap
 A:dU
 N:List Str
 mM:aB
 ND:Hp
 env:Env
 outer:List Env
 stack:List Env
 ex:List Addr
 fn:Str->Bool
 calm:Bool
 pn:List (Addr×Obj)
 xe:Value->aB->Prop
noncomputable def K0(l:List Env):List Addr:=l.filterMap (·.frame)
noncomputable abbrev Cx.fs(X:Cx):List Addr:=K0 X.outer
noncomputable def Vd(sc:Scope)(x:Str):Prop:=sc.names.lookup x=some .local\/sc.names.lookup x=some .cell\/sc.names.lookup x=some .free
noncomputable def Loc(sc:Scope)(x:Str):Prop:=sc.names.lookup x=some .local\/sc.names.lookup x=some .cell
noncomputable def Look(env:Env)(h:Heap)(m:Str->Option Value)(x:Str)(u:Value):Prop :=
 (env.kindOf x=some .local/\m x=some u)\/((env.kindOf x=some .cell\/env.kindOf x=some .free)/\∃ c,env.cells.lookup x=some c/\h.IsCell c (some u))
structure Cx.Ok(X:Cx):Prop where
 mod:Mod X.K X.mg X.base
 kind:X.env.scope.kind=.function
 glob:X.env.globals=bo
 blt:X.env.builtins=builtinsNs
 above:X.mM.heap.objs.size<=X.env.locals
 inj:∀ x y c,X.env.cells.lookup x=some c->X.env.cells.lookup y=some c->x=y
 has:∀ x,(X.env.kindOf x=some .cell\/X.env.kindOf x=some .free)->∃ c,X.env.cells.lookup x=some c
 Uo:∀ x c,X.fn x=true->X.env.cells.lookup x=some c->X.mM.heap.objs.size<=c
 hd:X.calm=true->X.A.handled=none
 frames:X.A.frames=some X.stack
 UJ:X.stack=X.outer\/(X.stack=X.env :: X.outer/\X.env.frame=some X.env.locals)
 U8:∀ b∈X.ex,b≠X.env.locals/\∀ x c,X.env.cells.lookup x=some c->c≠b
 bs:∀ b o,X.base.get? b=some o->X.mM.heap.get? b=some o/\X.ND b=none
 NU:X.base.objs.size<=X.mM.heap.objs.size
 JX:∀ b o,X.base.get? b=some o->b∉X.ex
 MX:∀ b∈X.ex,b∉X.fs
 xD:X.mM.heap.FunFrames X.base X.outer
 Rn:∀ b∈X.fs,X.ND b=none
structure Inv(X:Cx)(pins:List (Addr×Obj))(σ:List (Option V))(H:Hp)(s:aB):Prop where
 ok:X.Ok
 os:s.os=X.mM.os
 bare:B6 s.gens
 base:Un X.fs X.ex X.ND H X.mM.heap s.heap
 loc:∃ m,s.heap.Ns X.env.locals m/\∀ (i:Nat) (x:Str) (v:V),X.N[i]?=some x->σ[i]?=some (some v)->Vd X.env.scope x->∃ u,RelV v u/\Look X.env s.heap m x u
 cell:∀ x c,X.env.cells.lookup x=some c->∃ v,s.heap.IsCell c v
 free:H X.env.locals=none
 pY:∀ x c,X.env.cells.lookup x=some c->H c=none
 pin:∀ p∈X.pn++pins,s.heap.get? p.1=some p.2/\H p.1=none/\p.1≠X.env.locals/\p.1∉X.fs/\∀ v,p.2.data≠.cell v
 eV:tU X.prog X.w H s.heap
 len:σ.length=X.N.length
section
variable {X:Cx} {pins:List (Addr×Obj)} {σ:List (Option V)} {H H':Hp} {s:aB} {h':Heap}
theorem Cx.Ok.Ww(ok:X.Ok){b:Addr}{o:Obj}(e:X.base.get? b=some o):b∉X.fs:=fun hb=>by
 have:=(ok.xD.mem hb).1;rw [e] at this; cases this
theorem Inv.bs(I:Inv X pins σ H s):∀ b o,X.base.get? b=some o->s.heap.get? b=some o/\H b=none:=fun b o e =>
 ⟨I.base.keep b o (I.ok.bs b o e).1 (I.ok.bs b o e).2 (I.ok.Ww e) (I.ok.JX b o e),I.base.free b o (I.ok.bs b o e).1 (I.ok.bs b o e).2 (I.ok.JX b o e)⟩
theorem Inv.bk(I:Inv X pins σ H s):∀ b o,X.base.get? b=some o->s.heap.get? b=some o:=fun b o e=>(I.bs b o e).1
theorem Inv.mod(I:Inv X pins σ H s):Mod X.K X.mg X.base:=I.ok.mod
theorem Inv.AG(I:Inv X pins σ H s):X.K.In s.heap:=I.ok.mod.RX.keeps I.bk
theorem Inv.fr(I:Inv X pins σ H s):∃ m,Fr X.base X.env.locals s.heap m :=
 let ⟨m,hn,_⟩:=I.loc
 ⟨m,hn,I.bk,eU I.ok.NU I.ok.above⟩
theorem Inv.lt(I:Inv X pins σ H s):X.env.locals < s.heap.objs.size:=let ⟨_,hn,_⟩:=I.loc; hn.lt
theorem Inv.sz(I:Inv X pins σ H s):X.mM.heap.objs.size<=s.heap.objs.size:=eU I.ok.above (N6 I.lt)
theorem Inv.Wv(I:Inv X pins σ H s){a:Addr}(h:s.heap.objs.size<=a):a∉X.fs:=fun hb=>by
 obtain⟨_,o,ho,_⟩:=I.ok.xD.mem hb;exact absurd (bR (a9 ho) (eU I.sz h)) (iT _)
theorem Inv.RC(I:Inv X pins σ H s):∀ x c,X.env.cells.lookup x=some c->c≠X.env.locals:=fun x c e z=>by
 obtain⟨v,o,ho,hd⟩:=I.cell x c e;obtain⟨m,⟨o',es,ep,OZ,Km,_⟩,_⟩:=I.loc;rw [z,OZ] at ho; cases ho; rw [Km] at hd; cases hd
theorem Inv.xD(I:Inv X pins σ H s):s.heap.FunFrames X.base X.outer:=by
 have all:∀ (l:List Env),(∀ b∈K0 l,b∈X.fs)->X.mM.heap.FunFrames X.base l->s.heap.FunFrames X.base l:=by
  intro l;induction l with
  | nil=>intro _ _; trivial
  | cons env r ih =>
   intro hs hl;obtain⟨hk,⟨L,o,hf,hn,ho,hd⟩,hr⟩:=hl;have hL:L∈X.fs:=hs L (by unfold K0; rw [xT,hf]; exact bf);obtain⟨sl,e⟩:=I.base.slot L o ho (I.ok.Rn L hL) hL fun z=>I.ok.MX L z hL;exact⟨hk,⟨L,_,hf,hn,e,hd⟩,ih (fun b hb=>hs b (by unfold K0; rw [xT,hf]; exact aR _ hb)) hr⟩
 exact all X.outer (fun _ hb=>hb) I.ok.xD
theorem Inv.stack(I:Inv X pins σ H s):s.heap.FunFrames X.base X.stack:=by
 rcases I.ok.UJ with e | ⟨e,hf⟩
 ·rw [e]; exact I.xD
 ·rw [e];obtain⟨m,hn,_⟩:=I.loc;refine .cons (by rw [I.ok.kind]; decide) hf hn ?_ I.xD;exact Oa (eU I.ok.NU I.ok.above)
theorem Inv.Gu(I:Inv X pins σ H s):∀ b∈K0 X.stack,b∈X.env.locals :: X.fs:=fun b hb=>by
 rcases I.ok.UJ with e | ⟨e,hf⟩
 ·rw [e] at hb; exact aR _ hb
 ·rw [e] at hb;unfold K0 at hb;rw [xT,hf] at hb;exact hb
theorem Inv.Iu(I:Inv X pins σ H s):∀ b∈K0 X.stack,H b=none:=fun b hb=>by
 rcases List.mem_cons.mp (I.Gu b hb) with e | hb
 ·rw [e]; exact I.free
 ·obtain⟨_,o,ho,_⟩:=I.ok.xD.mem hb;exact I.base.free b o ho (I.ok.Rn b hb) fun z=>I.ok.MX b z hb
theorem Inv.step{g':Array GenState}{t':Nat}{d':Drawn}{ch:List Addr}(I:Inv X pins σ H s)
  (PN:∀ b∈ch,(b∈X.ex\/X.mM.heap.objs.size<=b)/\b≠X.env.locals/\(∀ x c,X.env.cells.lookup x=some c->c≠b)/\∀ p∈X.pn++pins,p.1≠b)
  (keep:∀ b o,b≠X.env.locals->b∉X.fs->b∉ch->s.heap.get? b=some o->H b=none->h'.get? b=some o)
  (slot:∀ b o,b≠X.env.locals->b∈X.fs->b∉ch->s.heap.get? b=some o->H b=none->∃ sl,h'.get? b=some { o with slots:=sl }) (free:∀ b o,b∉ch->s.heap.get? b=some o->H b=none->H' b=none)
  (there:∀ b o,b∉ch->s.heap.get? b=some o->∃ o',h'.get? b=some o')
  (Av:∀ b xs,H b=some (.tup xs)->H' b=some (.tup xs)) (zj:∀ b o u,H b=some (.pX o u)->H' b=some (.pX o u)) (Ax:∀ b q,H b=some (.Pn q)->H' b=some (.Pn q))
  (ns:∀ m,s.heap.Ns X.env.locals m->h'.Ns X.env.locals m) (eV:tU X.prog X.w H' h') (hg:B6 g') :
  Inv X pins σ H' { s with heap:=h',gens:=g',drawn:=d',toks:=t' }:=by
 have YB:∀ b o,X.mM.heap.get? b=some o->b≠X.env.locals:=fun b o e=>bM (bR (a9 e) I.ok.above);have UW:∀ b o,X.mM.heap.get? b=some o->b∉X.ex->b∉ch:=fun b o e hx hb=>by
  rcases (PN b hb).1 with z | z
  ·exact hx z
  ·exact absurd (bR (a9 e) z) (iT _)
 have cellK:∀ x c,X.env.cells.lookup x=some c->∀ v,s.heap.IsCell c v->h'.IsCell c v:=fun x c e v ⟨o,ho,hd⟩=>by
  have Ti:c∉ch:=fun z=>(PN c z).2.2.1 x c e rfl;by_cases hc:c∈X.fs
  ·obtain⟨sl,q⟩:=slot c o (I.RC x c e) hc Ti ho (I.pY x c e);exact⟨_,q,hd⟩
  ·exact⟨o,keep c o (I.RC x c e) hc Ti ho (I.pY x c e),hd⟩
 refine⟨I.ok,I.os,hg,⟨fun b o e n hb hx=>?_,fun b o e n hb hx=>?_,fun b o e n hx=>?_,fun b o e hx=>?_,fun b xs e=>Av b xs (I.base.Av b xs e),fun b o xs e=>zj b o xs (I.base.zj b o xs e),fun b ps e=>?_⟩,?_,fun x c e=>?_,?_,fun x c e=>?_,fun p hp=>?_,eV,I.len⟩
 ·exact keep b o (YB b o e) hb (UW b o e hx) (I.base.keep b o e n hb hx) (I.base.free b o e n hx)
 ·obtain⟨sl,e1⟩:=I.base.slot b o e n hb hx;obtain⟨Z4,e2⟩:=slot b _ (YB b o e) hb (UW b o e hx) e1 (I.base.free b o e n hx);exact⟨Z4,e2⟩
 ·obtain⟨o',e1⟩:=I.base.there b o e hx;exact free b o' (UW b o e hx) e1 (I.base.free b o e n hx)
 ·obtain⟨o',e1⟩:=I.base.there b o e hx;exact there b o' (UW b o e hx) e1
 ·exact Ax b _ (I.base.Ax b ps e)
 ·obtain⟨m,hn,hl⟩:=I.loc;refine⟨m,ns m hn,fun i x v e1 e2 e3=>?_⟩;obtain⟨u,r,l⟩:=hl i x v e1 e2 e3;refine⟨u,r,?_⟩;rcases l with l | ⟨k,c,e,z⟩
  ·exact .inl l
  ·exact .inr ⟨k,c,e,cellK x c e _ z⟩
 ·obtain⟨v,z⟩:=I.cell x c e;exact⟨v,cellK x c e v z⟩
 ·obtain⟨m,⟨o,_,_,ho,_⟩,_⟩:=I.loc;exact free _ o (fun z=>(PN _ z).2.1 rfl) ho I.free
 ·obtain⟨v,o,ho,hd⟩:=I.cell x c e;exact free c o (fun z=>(PN c z).2.2.1 x c e rfl) ho (I.pY x c e)
 ·obtain⟨e,n,ne,nf,d⟩:=I.pin p hp;have Ti:p.1∉ch:=fun z=>(PN p.1 z).2.2.2 p hp rfl;exact⟨keep p.1 p.2 ne nf Ti e n,free p.1 p.2 Ti e n,ne,nf,d⟩
theorem Inv.un{t':Nat}(I:Inv X pins σ H s)(u:Un X.fs [] H H' s.heap h')(eV:tU X.prog X.w H' h'):Inv X pins σ H' { s with heap:=h',toks:=t' }:=by
 obtain⟨m,⟨o,es,ep,ho,r⟩,_⟩:=id I.loc;obtain⟨sl,hL⟩:=u.any ho I.free (by simp);exact I.step (g':=s.gens) (d':=s.drawn) (ch:=[]) (fun _ z=>nomatch z) (fun b o _ hb _ e n=>u.keep b o e n hb (by simp)) (fun b o _ hb _ e n=>u.slot b o e n hb (by simp)) (fun b o _ e n=>u.free b o e n (by simp)) (fun b o _ e=>u.there b o e (by simp)) u.Av u.zj u.Ax (fun m' hm=>by
  obtain⟨o',XH,XI,OZ,r'⟩:=hm;rw [ho] at OZ; cases OZ;exact⟨_,XH,XI,hL,r'⟩) eV I.bare
theorem Inv.call{g':Array GenState}{t':Nat}{d':Drawn}{ch:List Addr}(I:Inv X pins σ H s)(u:Un (K0 X.stack) ch H H' s.heap h')(eV:tU X.prog X.w H' h')(hg:B6 g')
  (PN:∀ b∈ch,(b∈X.ex\/X.mM.heap.objs.size<=b)/\b≠X.env.locals/\(∀ x c,X.env.cells.lookup x=some c->c≠b)/\∀ p∈X.pn++pins,p.1≠b) :
  Inv X pins σ H' { s with heap:=h',gens:=g',drawn:=d',toks:=t' }:=by
 obtain⟨m,⟨o,es,ep,ho,r⟩,_⟩:=id I.loc;obtain⟨sl,hL⟩:=u.any ho I.free fun z=>(PN _ z).2.1 rfl;exact I.step (ch:=ch) PN (fun b o hL hb hc e n=>u.keep b o e n (fun z=>(List.mem_cons.mp (I.Gu b z)).elim hL hb) hc) (fun b o _ _ hc e n=>u.any e n hc) (fun b o hc e n=>u.free b o e n hc) (fun b o hc e=>u.there b o e hc) u.Av u.zj u.Ax (fun m' hm=>by
  obtain⟨o',XH,XI,OZ,r'⟩:=hm;rw [ho] at OZ; cases OZ;exact⟨_,XH,XI,hL,r'⟩) eV hg
theorem Inv.turned{t':Nat}{it:Addr}(I:Inv X pins σ H s)(k:∀ b o,b≠it->s.heap.get? b=some o->h'.get? b=some o)(hn:H it=none)(hL:it≠X.env.locals)
  (h1:it∈X.ex\/X.mM.heap.objs.size<=it) (h2:∀ x c,X.env.cells.lookup x=some c->c≠it) (h3:∀ p∈X.pn++pins,p.1≠it):Inv X pins σ H { s with heap:=h',toks:=t' }:=by
 have YA:∀ b u,H b=some u->b≠it:=fun b u e z=>by rw [z,hn] at e; cases e
 refine I.step (g':=s.gens) (d':=s.drawn) (ch:=[it]) (fun b hb=>?_) (fun b o _ _ hc e _=>k b o (fun z=>hc (by simp [z])) e) (fun b o _ _ hc e _=>⟨o.slots,k b o (fun z=>hc (by simp [z])) e⟩) (fun _ _ _ _ n=>n)
  (fun b o hc e=>⟨o,k b o (fun z=>hc (by simp [z])) e⟩) (fun _ _ e=>e) (fun _ _ _ e=>e) (fun _ _ e=>e) (fun m hm=>?_) (fun b u e=>?_) I.bare
 ·have e:b=it:=by simpa using hb
  subst e;exact⟨h1,hL,h2,h3⟩
 ·obtain⟨o,es,ep,ho,r⟩:=hm;exact⟨o,es,ep,k _ o (fD hL) ho,r⟩
 ·refine(I.eV b u e).nI (fun c v hc q=>k c v ?_ q) (fun _ q=>q) fun _ _ q=>q;rcases hc with z | z
  ·rw [z]; exact YA b u e
  ·exact YA c _ z
theorem Inv.tok(I:Inv X pins σ H s)(t:Nat):Inv X pins σ H { s with toks:=t }:=I.un (h':=s.heap) (t':=t) Un.refl I.eV
theorem Inv.kept{t':Nat}(I:Inv X pins σ H s)(k:∀ b u,s.heap.get? b=some u->h'.get? b=some u):Inv X pins σ H { s with heap:=h',toks:=t' }:=I.un (Un.kept k) (I.eV.kept k)
theorem Inv.laid{a:Addr}{o:HO}{t':Nat}(I:Inv X pins σ H s)(k:∀ b u,s.heap.get? b=some u->h'.get? b=some u)(hp:s.heap.objs.size<=a)(new:iC X.prog X.w (upd H a o) h' a o) :
  Inv X pins σ (upd H a o) { s with heap:=h',toks:=t' }:=I.un (Un.laid k hp (I.eV.fresh hp)) (I.eV.laid k hp new)
theorem Inv.write{x e:Addr}{o:HO}{t':Nat}(I:Inv X pins σ H s)(mu:UA (H x))(he:e=x\/H e=some (.own x))(k:∀ b u,b≠e->s.heap.get? b=some u->h'.get? b=some u)(R3:∃ u,h'.get? e=some u)
  (new:iC X.prog X.w (upd H x o) h' x o):Inv X pins σ (upd H x o) { s with heap:=h',toks:=t' }:=I.un (Un.write mu he k R3) (I.eV.write mu he k R3 new)
theorem Inv.IE{Py:List (Addr×Obj)}(I:Inv X pins σ H s)(h:∀ p∈Py,s.heap.get? p.1=some p.2/\H p.1=none/\p.1≠X.env.locals/\p.1∉X.fs/\∀ v,p.2.data≠.cell v):Inv X Py σ H s :=
 ⟨I.ok,I.os,I.bare,I.base,I.loc,I.cell,I.free,I.pY,fun p hp=>(List.mem_append.mp hp).elim (fun z=>I.pin p (du _ z)) (h p),I.eV,I.len⟩
theorem ED{N:List Str}(hN:N.Nodup){i j:Nat}{x:Str}(a:N[i]?=some x)(b:N[j]?=some x):i=j:=by
 obtain⟨h1,e1⟩:=List.getElem?_eq_some_iff.mp a;obtain⟨h2,e2⟩:=List.getElem?_eq_some_iff.mp b;exact(List.getElem_inj hN).mp (e1.trans e2.symm)
theorem Bj{M:Model}{A:dU}{E:Value->aB->Prop}{i:Nat}{x:Str}{v:V}{u:Value}{Q:Unit->aB->Prop}(I:Inv X pins σ H s)(hN:X.N.Nodup)(hi:X.N[i]?=some x)(hx:Loc X.env.scope x)(r:RelV v u)
  (h:∀ s',Inv X pins (σ.set i (some v)) H s'->(∃ a,B4 a s.heap s'.heap/\(a=X.env.locals\/X.env.cells.lookup x=some a))->Q () s') (hf:autoParam (X.fn x=true\/X.env.scope.names.lookup x=some .local) Ao._auto_1):wpAny M A (storeName X.env x u) Q E s:=by
 obtain⟨m,hn,hl⟩:=id I.loc;have Xr:(X.env.scope.kind == .class||(X.env.scope.kind == .module&&X.env.locals != X.env.globals))=false:=by rw [I.ok.kind]; rfl
 have TN:i < σ.length:=by rw [I.len]; exact(List.getElem?_eq_some_iff.mp hi).1
 have RC:=I.RC;have tracked:∀ {a:Addr} {h':Heap},(∃ o,s.heap.get? a=some o/\H a=none)->B4 a s.heap h'->tU X.prog X.w H h':=fun {a h'} ha hs b ob e=>by
  obtain⟨_,_,pV⟩:=ha;refine(I.eV b ob e).nI (fun c w' hc q=>(hs.2 c ?_).trans q) (fun _ q=>q) fun _ _ q=>q;rintro rfl;rcases hc with rfl | hc
  ·rw [pV] at e; cases e
  ·rw [pV] at hc; cases hc
 rcases hx with hk | hk
 ·refine wpAny_storeName_local hk hn (fun h' U2 hs=>?_) Xr;obtain⟨oL,_,_,hoL,_⟩:=id hn;refine h _ ⟨I.ok,I.os,I.bare,⟨fun b o e n hb hx=>?_,fun b o e n hb hx=>?_,I.base.free,fun b o e hx=>?_,I.base.Av,I.base.zj,I.base.Ax⟩,⟨_,U2,fun j y v' e1 e2 e3=>?_⟩,fun y c e=>?_,I.free,I.pY,fun p hp=>?_,tracked ⟨oL,hoL,I.free⟩ hs,by simpa using I.len⟩ ⟨_,hs,.inl rfl⟩
  ·exact(hs.2 b (bM (bR (a9 e) I.ok.above))).trans (I.base.keep b o e n hb hx)
  ·obtain⟨sl,e1⟩:=I.base.slot b o e n hb hx;exact⟨sl,(hs.2 b (bM (bR (a9 e) I.ok.above))).trans e1⟩
  ·obtain⟨o',e1⟩:=I.base.there b o e hx;exact⟨o',(hs.2 b (bM (bR (a9 e) I.ok.above))).trans e1⟩
  ·by_cases hj:j=i
   ·subst hj;rw [hi] at e1; cases e1;rw [gI TN] at e2;cases e2;exact⟨u,r,.inl ⟨hk,by simp⟩⟩
   ·rw [jU (fD hj)] at e2;obtain⟨u',r',q⟩:=hl j y v' e1 e2 e3;refine⟨u',r',?_⟩;rcases q with ⟨k,e⟩ | ⟨k,c,e,z⟩
    ·refine .inl ⟨k,?_⟩;have:y≠x:=fun e=>hj (ED hN e1 (e ▸ hi));simp [this,e]
    ·exact .inr ⟨k,c,e,z.sameBut hs (RC y c e)⟩
  ·obtain⟨w',z⟩:=I.cell y c e;exact⟨w',z.sameBut hs (RC y c e)⟩
  ·obtain⟨e,n,ne,nf,d⟩:=I.pin p hp;exact⟨(hs.2 p.1 ne).trans e,n,ne,nf,d⟩
 ·have Xm:X.fn x=true:=by
   rcases hf with z | z
   ·exact z
   ·rw [z] at hk; cases hk
  obtain⟨c,hc⟩:=I.ok.has x (.inl hk);obtain⟨w',z⟩:=I.cell x c hc;refine wpAny_storeName_cell I.ok.kind hk hc z (fun h' PO hs=>?_);obtain⟨oc,R0,W6⟩:=id z;refine h { s with heap:=h' } ⟨I.ok,I.os,I.bare,⟨fun b o e n hb hx=>?_,fun b o e n hb hx=>?_,I.base.free,fun b o e hx=>?_,I.base.Av,I.base.zj,I.base.Ax⟩,⟨m,hn.sameBut hs (fD (RC x c hc)),fun j y v' e1 e2 e3=>?_⟩,fun y c' e=>?_,I.free,I.pY,fun p hp=>?_,tracked ⟨oc,R0,I.pY x c hc⟩ hs,by simpa using I.len⟩ ⟨c,hs,.inr hc⟩
  ·exact(hs.2 b (bM (bR (a9 e) (I.ok.Uo x c Xm hc)))).trans (I.base.keep b o e n hb hx)
  ·obtain⟨sl,e1⟩:=I.base.slot b o e n hb hx;exact⟨sl,(hs.2 b (bM (bR (a9 e) (I.ok.Uo x c Xm hc)))).trans e1⟩
  ·obtain⟨o',e1⟩:=I.base.there b o e hx;exact⟨o',(hs.2 b (bM (bR (a9 e) (I.ok.Uo x c Xm hc)))).trans e1⟩
  ·by_cases hj:j=i
   ·subst hj;rw [hi] at e1; cases e1;rw [gI TN] at e2;cases e2;exact⟨u,r,.inr ⟨.inl hk,c,hc,PO⟩⟩
   ·rw [jU (fD hj)] at e2;obtain⟨u',r',q⟩:=hl j y v' e1 e2 e3;refine⟨u',r',?_⟩;rcases q with q | ⟨k,c',e,z'⟩
    ·exact .inl q
    ·refine .inr ⟨k,c',e,z'.sameBut hs ?_⟩;rintro rfl;exact hj (ED hN e1 (I.ok.inj _ _ _ e hc ▸ hi))
  ·by_cases Y5:c'=c
   ·subst Y5; exact⟨_,PO⟩
   ·obtain⟨w2,z2⟩:=I.cell y c' e;exact⟨w2,z2.sameBut hs Y5⟩
  ·obtain⟨e,n,ne,nf,d⟩:=I.pin p hp;refine⟨(hs.2 p.1 ?_).trans e,n,ne,nf,d⟩;intro q;rw [q,R0] at e;have q':oc=p.2:=bT e;exact d w' (by rw [<-q']; exact W6)
theorem Eg{M:Model}{A:dU}{E:Value->aB->Prop}{i:Nat}{x:Str}{v:V}{u:Value}{Q:Unit->aB->Prop}(I:Inv X pins σ H s)(hN:X.N.Nodup)(hi:X.N[i]?=some x)(hx:Loc X.env.scope x)(r:RelV v u)
  (h:∀ s',Inv X pins (σ.set i (some v)) H s'->Q () s') (hf:autoParam (X.fn x=true\/X.env.scope.names.lookup x=some .local) Ao._auto_1):wpAny M A (storeName X.env x u) Q E s :=
 Bj I hN hi hx r (fun s' I' _=>h s' I') hf
end
noncomputable abbrev XK:=Value->Option Addr->Hp->Prop
noncomputable abbrev St:=List (Option V)
noncomputable abbrev VK:=V->Hp->Prop
noncomputable abbrev TE:=St->Hp->VK->Prop
noncomputable abbrev TT:=St->Hp->(Bool->Hp->Prop)->Prop
noncomputable abbrev TA:=St->Hp->(List V->Hp->Prop)->Prop
structure Ends where
 nx:St->Hp->Prop
 rt:VK
 bk:St->Hp->Prop:=fun _ _=>False
 ct:St->Hp->Prop:=fun _ _=>False
noncomputable abbrev TS:=Ends->St->Hp->Prop
noncomputable def EP(X:Cx)(pins:List (Addr×Obj))(σ:St)(Q:VK)(u:Value)(s':aB):Prop:=∃ v H',Inv X pins σ H' s'/\RelV v u/\Q v H'
noncomputable def TP(X:Cx)(pins:List (Addr×Obj))(σ:St)(Q:Bool->Hp->Prop)(b:Bool)(s':aB):Prop:=∃ H',Inv X pins σ H' s'/\Q b H'
noncomputable def SP(X:Cx)(pins:List (Addr×Obj))(D:Ends)(f:Flow)(s':aB):Prop :=
 match f with
 | .next=>∃ jR H',Inv X pins jR H' s'/\D.nx jR H'
 | .brk=>∃ jR H',Inv X pins jR H' s'/\D.bk jR H'
 | .cont=>∃ jR H',Inv X pins jR H' s'/\D.ct jR H'
 | .ret u=>∃ v jR H',Inv X pins jR H' s'/\RelV v u/\D.rt v H'
noncomputable def PE(X:Cx)(e:Expr)(t:TE):Prop :=
 ∀ (pins:List (Addr×Obj)) (s:aB) (σ:St) (H:Hp) (Q:VK),Inv X pins σ H s->t σ H Q->wpAny (model X.prog X.w) X.A (eval e X.env) (EP X pins σ Q) X.xe s
noncomputable def R7(X:Cx)(st:List Stmt)(t:TS):Prop :=
 ∀ (pins:List (Addr×Obj)) (s:aB) (σ:St) (H:Hp) (D:Ends),Inv X pins σ H s->t D σ H->wpAny (model X.prog X.w) X.A (execs st X.env) (SP X pins D) X.xe s
theorem gO{α:Type}{t:Sem α}{Q Q':α->aB->Prop}{M:Model}{A:dU}{E:Value->aB->Prop}{s:aB}(h:wpAny M A t Q E s)(hQ:∀ a s,Q a s->Q' a s):wpAny M A t Q' E s:=FZ h hQ fun _ _ x=>x
section
variable {X:Cx}
noncomputable def VI(i:Nat):TE:=fun σ H Q=>∃ v,σ[i]?=some (some v)/\Q v H
noncomputable def tC(v:V):TE:=fun _ H Q=>Q v H
theorem Qr {i:Nat} {x:Str} {pos:Pos} (hN:X.N[i]?=some x) (hv:Vd X.env.scope x) (hd:autoParam ((x == ("__debug__" : Str))=false) Ad._auto_1) (Ja:autoParam ((x == ("__classdict__" : Str))=false) Ad._auto_1):PE X (.Name x pos) (VI i):=by
 intro pins s σ H Q I h;obtain⟨v,e,h⟩:=h;obtain⟨m,hn,hl⟩:=I.loc;obtain⟨u,r,l⟩:=hl i x v hN e hv;have fin:EP X pins σ Q u s:=⟨v,H,I,r,h⟩;rcases l with ⟨hk,hm⟩ | ⟨hk,c,hc,pW⟩
 ·exact wpAny_Name (wpAny_loadName_local I.ok.kind hk hn hm fin) hd
 ·rcases hk with hk | hk
  ·exact wpAny_Name (wpAny_loadName_cell I.ok.kind hk hc pW fin) hd
  ·exact wpAny_Name (wpAny_loadName_free I.ok.kind hk hc pW fin Ja) hd
theorem Qt{i j pos}:PE X (.Constant (.int i) j pos) (tC (.int i)):=fun _ _ _ H _ I h=>wpAny_Constant_int ⟨.int i,H,I.tok _,⟨_,rfl⟩,h⟩
theorem SR{b j pos}:PE X (.Constant (.bool b) j pos) (tC (.bl b)):=fun _ _ _ H _ I h=>Constant_bool ⟨.bl b,H,I,rfl,h⟩
theorem Qs{x j pos}:PE X (.Constant (.str x) j pos) (tC (.str x)):=fun _ _ _ H _ I h=>Calls.Constant_str ⟨.str x,H,I.tok _,⟨_,rfl⟩,h⟩
noncomputable def Gl(X:Cx)(x:Str):Prop:=X.env.kindOf x=some .globalImplicit
theorem CO{E:Value->aB->Prop}{pins:List (Addr×Obj)}{s:aB}{σ:St}{H:Hp}{x:Str}{u:Value}{pos:Pos}{Q:Value->aB->Prop}(I:Inv X pins σ H s)(hg:Gl X x)(hm:X.mg x=some u)(h:Q u s)
  (hd:autoParam ((x == ("__debug__" : Str))=false) Ad._auto_1):wpAny (model X.prog X.w) X.A (eval (.Name x pos) X.env) Q E s :=
 FV I.ok.kind hg (Calls.loadGlobal_global (by rw [I.ok.glob]; exact I.mod.glob.keeps I.bk) hm h) hd
theorem pB{E:Value->aB->Prop}{pins:List (Addr×Obj)}{s:aB}{σ:St}{H:Hp}{x:Str}{u:Value}{pos:Pos}{Q:Value->aB->Prop}(I:Inv X pins σ H s)(hg:Gl X x)(hm:X.mg x=none)(hv:dR x=some u)(h:Q u s)
  (hn:autoParam (x≠"__name__") Ad._auto_1) (hd:autoParam ((x == ("__debug__" : Str))=false) Ad._auto_1):wpAny (model X.prog X.w) X.A (eval (.Name x pos) X.env) Q E s:=by
 obtain⟨mb,h1,h2⟩:=I.mod.blt;exact FV I.ok.kind hg (Calls.loadGlobal_builtin (by rw [I.ok.glob]; exact I.mod.glob.keeps I.bk) hm (by rw [I.ok.blt]; exact h1.keeps I.bk) ((h2 x hn).trans hv) h) hd
theorem OF {x:Str} {v:V} {u:Value} {pos:Pos} (hg:Gl X x) (hm:X.mg x=some u) (r:RelV v u) (hd:autoParam ((x == ("__debug__" : Str))=false) Ad._auto_1):PE X (.Name x pos) (tC v) :=
 fun _ _ _ H _ I h=>CO I hg hm ⟨v,H,I,r,h⟩ hd
variable {a b:Expr} {ta tb:TE} {pos:Pos}
noncomputable def tB(t:TE):TT:=fun σ H Q=>t σ H fun x H1=>∃ c,x=.bl c/\Q c H1
variable {tA tB':TT} {rest:List Expr}
end
noncomputable def oZ(K:ao)(H:Hp)(a:Addr)(xs:List V):Prop :=
 Rd H a (.lst xs) \/
  ∃ (o:Obj) (bB:Array Value) (n:Nat),K.lookup a=some o/\o.cls=.type "list"/\o.dict=none/\o.data=.seq bB n/\bB.size<=bh/\Vals xs bB.toList
noncomputable def zR(K:ao)(H:Hp)(a:Addr)(xs:List V):Prop :=
 Rd H a (.tup xs) \/
  ∃ (o:Obj) (bB:Array Value) (n:Nat),K.lookup a=some o/\o.cls=.type "tuple"/\o.data=.seq bB n/\bB.size<=bh/\Vals xs bB.toList
noncomputable def X0:Value->Option V
 | .none=>some .dQ
 | .bool b=>some (.bl b)
 | .int i _=>some (.int i)
 | .str x _=>some (.str x)
 | .bytes b _=>some (.PV b)
 | .float b _=>some (.tG b)
 | .ref a=>some (.ref a)
 | .type n=>some (.ty n)
 | _=>none
theorem RelV.abs{x:V}{u:Value}(r:RelV x u):X0 u=some x:=by
 cases x with
 | dQ=>cases r; rfl
 | bl _=>cases r; rfl
 | int _=>obtain⟨t,rfl⟩:=r; rfl
 | str _=>obtain⟨t,rfl⟩:=r; rfl
 | PV _=>obtain⟨t,rfl⟩:=r; rfl
 | tG _=>obtain⟨t,rfl⟩:=r; rfl
 | ref _=>cases r; rfl
 | ty _=>cases r; rfl
theorem RelV.inj{x y:V}{u:Value}(r:RelV x u)(q:RelV y u):x=y:=bT (r.abs.symm.trans q.abs)
theorem Vals.inj:∀ {xs ys:List V} {us:List Value},Vals xs us->Vals ys us->xs=ys:=by
 intro xs ys us h;induction h generalizing ys with
 | nil=>intro k; cases k; rfl
 | cons r t ih =>
  intro k;cases k with
  | cons r' t'=>rw [r.inj r',ih t']
section
variable {X:Cx} {pins:List (Addr×Obj)} {σ:St} {H:Hp} {s:aB} {a:Addr} {xs ys:List V}
theorem oZ.of{K:ao}(h:H a=some (.lst xs)):oZ K H a xs:=.inl (.inl h)
theorem zR.of{K:ao}(h:H a=some (.tup xs)):zR K H a xs:=.inl (.inl h)
theorem Inv.list(I:Inv X pins σ H s)(h:oZ X.K H a xs):∃ bB:List Value,Vals xs bB/\PlainL s.heap a bB.toArray/\xs.length<=bh:=by
 rcases h with h | ⟨o,bB,n,hk,hc,hd,hs,hz,r⟩
 ·obtain⟨z,bB,n,r,e⟩:=h.ok I.eV;exact⟨bB,r,⟨_,n,e,rfl,rfl,rfl⟩,z⟩
 ·refine⟨bB.toList,r,⟨o,n,I.AG a o hk,hc,hd,by simpa using hs⟩,?_⟩;have e:=r.length;simp only [ky] at e;lia
theorem Inv.tuple(I:Inv X pins σ H s)(h:zR X.K H a xs):∃ bB:List Value,Vals xs bB/\IsTup s.heap a bB.toArray/\xs.length<=bh:=by
 rcases h with h | ⟨o,bB,n,hk,hc,hs,hz,r⟩
 ·obtain⟨z,bB,r,p⟩:=h.ok I.eV;exact⟨bB,r,p,z⟩
 ·refine⟨bB.toList,r,⟨o,I.AG a o hk,hc,n,by simpa using hs⟩,?_⟩;have e:=r.length;simp only [ky] at e;lia
theorem Inv.qS(I:Inv X pins σ H s)(h:oZ X.K H a xs)(h':oZ X.K H a ys):xs=ys:=by
 obtain⟨bB,r,⟨o,n,e,_,_,d⟩,_⟩:=I.list h;obtain⟨its',r',⟨o',n',e',_,_,d'⟩,_⟩:=I.list h';rw [e] at e'; cases e';rw [d] at d';injection d' with d1 _
 have:bB=its':=by simpa using congrArg Array.toList d1
 subst this;exact r.inj r'
theorem Inv.JD(I:Inv X pins σ H s)(h:zR X.K H a xs)(h':zR X.K H a ys):xs=ys:=by
 obtain⟨bB,r,⟨o,e,_,n,d⟩,_⟩:=I.tuple h;obtain⟨its',r',⟨o',e',_,n',d'⟩,_⟩:=I.tuple h';rw [e] at e'; cases e';rw [d] at d';injection d' with d1 _
 have:bB=its':=by simpa using congrArg Array.toList d1
 subst this;exact r.inj r'
end
noncomputable abbrev Cx.Au(X:Cx)(E:Value->aB->Prop):Cx:={ X with xe:=E }
noncomputable abbrev Cx.RU(X:Cx):Cx:=X.Au fun _ _=>False
theorem Cx.Ok.Au{X:Cx}(ok:X.Ok)(E:Value->aB->Prop):(X.Au E).Ok :=
 ⟨ok.mod,ok.kind,ok.glob,ok.blt,ok.above,ok.inj,ok.has,ok.Uo,ok.hd,ok.frames,ok.UJ,ok.U8,ok.bs,ok.NU,ok.JX,ok.MX,ok.xD,ok.Rn⟩
theorem Cx.Ok.qx{X:Cx}{E:Value->aB->Prop}(ok:(X.Au E).Ok):X.Ok :=
 ⟨ok.mod,ok.kind,ok.glob,ok.blt,ok.above,ok.inj,ok.has,ok.Uo,ok.hd,ok.frames,ok.UJ,ok.U8,ok.bs,ok.NU,ok.JX,ok.MX,ok.xD,ok.Rn⟩
section
variable {X:Cx} {pins:List (Addr×Obj)} {σ:St} {H:Hp} {s:aB} {E:Value->aB->Prop}
theorem Inv.Au(I:Inv X pins σ H s)(E:Value->aB->Prop):Inv (X.Au E) pins σ H s:=⟨I.ok.Au E,I.os,I.bare,I.base,I.loc,I.cell,I.free,I.pY,I.pin,I.eV,I.len⟩
theorem Inv.qx(I:Inv (X.Au E) pins σ H s):Inv X pins σ H s:=⟨I.ok.qx,I.os,I.bare,I.base,I.loc,I.cell,I.free,I.pY,I.pin,I.eV,I.len⟩
theorem SP.qx{D:Ends}{f:Flow}{s':aB}(h:SP (X.Au E) pins D f s'):SP X pins D f s':=by
 cases f with
 | next=>obtain⟨jR,H',I,q⟩:=h; exact⟨jR,H',I.qx,q⟩
 | brk=>obtain⟨jR,H',I,q⟩:=h; exact⟨jR,H',I.qx,q⟩
 | cont=>obtain⟨jR,H',I,q⟩:=h; exact⟨jR,H',I.qx,q⟩
 | ret u=>obtain⟨v,jR,H',I,r,q⟩:=h; exact⟨v,jR,H',I.qx,r,q⟩
theorem R7.RU{st:List Stmt}{t:TS}(h:R7 X.RU st t):R7 X st t:=fun pins s σ H D I hw =>
 FZ (h pins s σ H D (I.Au _) hw) (fun _ _ q=>q.qx) fun _ _ z=>bN z
end
section
variable {X:Cx} {st:Stmt} {rest:List Stmt} {t u:TS} {e:Expr} {te:TE} {pos:Pos}
theorem Inv.quiet{pins:List (Addr×Obj)}{σ:St}{H:Hp}{s:aB}(I:Inv X pins σ H s):interactive X.env=false:=by simp [interactive,I.ok.kind]
end
noncomputable abbrev X3:=V->V->V->Hp->(Hp->Prop)->Prop
noncomputable def X6(X:Cx)(t:X3):Prop :=
 ∀ (pins:List (Addr×Obj)) (s:aB) (σ:St) (H:Hp) (o i v:V) (ov iv u:Value) (Q:Hp->Prop),Inv X pins σ H s->RelV o ov->RelV i iv->RelV v u->t o i v H Q ->
  wpAny (model X.prog X.w) X.A (setItem ov iv u) (fun _ s'=>∃ H',Inv X pins σ H' s'/\Q H') X.xe s
structure It where
 go:Nat->Hp->Prop
 Yl:Nat->Hp->V->Hp->Prop
 stop:Nat->Hp->Prop
noncomputable def oP(X:Cx)(pins:List (Addr×Obj))(H:Hp)(b:Addr):Prop :=
 H b=none/\b≠X.env.locals/\b∉X.fs/\(b∈X.ex\/X.mM.heap.objs.size<=b)/\(∀ x c,X.env.cells.lookup x=some c->c≠b)/\∀ p∈X.pn++pins,p.1≠b
theorem Inv.Ht{X:Cx}{pins:List (Addr×Obj)}{σ:St}{H H':Hp}{s:aB}{b:Addr}(I:Inv X pins σ H s)(hb:s.heap.objs.size<=b)(hn:H' b=none):oP X pins H' b:=by
 refine⟨hn,Nat.ne_of_gt (bR I.lt hb),I.Wv hb,.inr (eU I.sz hb),fun x c e z=>?_,fun p hp z=>?_⟩
 ·obtain⟨v,q⟩:=I.cell x c e;exact absurd (bR q.lt (by rw [z]; exact hb)) (iT _)
 ·exact absurd (bR (a9 (I.pin p hp).1) (by rw [z]; exact hb)) (iT _)
structure Turn(P:bO)(w:World)(K:ao)(tg:Expr)(J:It)(fp:List Addr)(it:Addr)(tn:Nat->Heap->Prop):Prop where
 mem:it∈fp
 obj:∀ i h,tn i h->∀ b∈fp,∃ o,h.get? b=some o/\∀ v,o.data≠.cell v
 keep:∀ i h h',tn i h->(∀ b∈fp,∀ o,h.get? b=some o->h'.get? b=some o)->tn i h'
 item:∀ (X:Cx),X.prog=P->X.w=w->X.K=K->X.calm=true->∀ (i:Nat) (pins:List (Addr×Obj)) (s:aB) (σ:St) (H:Hp) (E:Value->aB->Prop),Inv X pins σ H s->(∀ b∈fp,oP X pins H b)->tn i s.heap->J.go i H ->
  wpAny (model P w) X.A (pyNext (.ref it)) (fun r s1=>∃ u,r=some u /\
   wpAny (model P w) X.A (yk tg (.ref it) u) (fun _ s2=>∃ x H',Inv X pins σ H' s2/\RelV x u/\J.Yl i H x H'/\tn (i+1) s2.heap/\∀ b∈fp,H' b=none) E s1) E s
 done:∀ (X:Cx),X.prog=P->X.w=w->X.K=K->X.calm=true->∀ (i:Nat) (pins:List (Addr×Obj)) (s:aB) (σ:St) (H:Hp) (E:Value->aB->Prop),Inv X pins σ H s->(∀ b∈fp,oP X pins H b)->tn i s.heap->J.stop i H ->
  wpAny (model P w) X.A (pyNext (.ref it)) (fun r s1=>r=none/\Inv X pins σ H s1) E s
 self:∀ (A:dU) (i:Nat) (s:aB) (Q:Value->aB->Prop) (E:Value->aB->Prop),tn i s.heap->Q (.ref it) s->wpAny (model P w) A (pyIter (.ref it)) Q E s
noncomputable abbrev TI:=St->Hp->(It->Hp->Prop)->Prop
noncomputable def PIE(X:Cx)(pins:List (Addr×Obj))(σ:St)(tg:Expr)(R:It->Hp->Prop)(PF:Value)(s2:aB):Prop :=
 ∃ (it:Addr) (fp:List Addr) (tn:Nat->Heap->Prop) (J:It) (H':Hp),PF=.ref it/\Inv X pins σ H' s2/\Turn X.prog X.w X.K tg J fp it tn/\tn 0 s2.heap/\(∀ b∈fp,oP X pins H' b)/\R J H'
theorem Jb{M:Model}{A:dU}{E:Value->aB->Prop}{s:aB}{tg:Expr}{it:Addr}{u:Value}{o:Obj}{n:String}{vs:Array Value}{Q:Unit->aB->Prop}(ho:s.heap.get? it=some o)(hc:o.cls=.type n)(hd:o.data=.fields vs)
    (hn:["enumerate","zip","dict_itemiterator","dict_reverseitemiterator","odict_iterator","itertools.zip_longest","itertools.pairwise"].contains n=false) (hQ:Q () s):wpAny M A (yk tg (.ref it) u) Q E s:=by
  unfold yk;cases tg <;> first
    | exact bG hQ
    | (cases u <;> first
        | exact bG hQ
        | (refine aN (wpAny_load ho ?_)
           rw [hc,hd];show wpAny M A (if (["enumerate","zip","dict_itemiterator","dict_reverseitemiterator","odict_iterator","itertools.zip_longest","itertools.pairwise"].contains n&&vs[0]? == some (rawInt _))=true then _ else _) Q E s;rw [if_neg (by intro h; rw [hn,Il] at h; cases h)];exact bG hQ))
noncomputable def Itl(K:ao)(a:Addr):It :=
 ⟨fun i H=>∃ xs x,oZ K H a xs/\xs[i]?=some x,fun i H x H'=>H'=H/\∀ xs,oZ K H a xs->xs[i]?=some x,fun i H=>∃ xs,oZ K H a xs/\xs.length<=i⟩
noncomputable def Itt(K:ao)(a:Addr):It :=
 ⟨fun i H=>∃ xs x,zR K H a xs/\xs[i]?=some x,fun i H x H'=>H'=H/\∀ xs,zR K H a xs->xs[i]?=some x,fun i H=>∃ xs,zR K H a xs/\xs.length<=i⟩
noncomputable def Yb(lo:Int)(n:Nat):It:=⟨fun i _=>i < n,fun i H x H'=>H'=H/\x=.int (lo+i),fun i _=>n<=i⟩
theorem JB{P:bO}{w:World}{K:ao}{tg:Expr}(a it:Addr):Turn P w K tg (Itl K a) [it] it (fun i h=>h.IsListIter it a i) where
 mem:=by simp
 obj:=fun i h st b hb=>by
  have e:b=it:=by simpa using hb
  subst e;obtain⟨o,e,c,d⟩:=st;exact⟨o,e,fun v z=>by rw [d] at z; cases z⟩
 keep:=fun i h h' st k=>st.at fun o e=>k it (by simp) o e
 item:=by
  intro X hP hw hK hc i pins s σ H E I hf st hg;subst hP hw hK;obtain⟨xs,x,hq,hx⟩:=hg;obtain⟨bB,rv,p,hz⟩:=I.list hq;obtain⟨u,hu,ru⟩:=rv.get hx;obtain⟨f0,f1,f2,f3,f4,f5⟩:=hf it (by simp);refine wpAny_pyNext_list_item st p.isList (x:=u) (by simpa using hu) fun h' Bk sb=>?_;have I1:Inv X pins σ H { s with heap:=h' }:=I.turned (t':=s.toks) (fun b o hb e=>(sb.2 b hb).trans e) f0 f1 f3 f4 f5;obtain⟨o,e,c,d⟩:=id Bk;exact⟨u,rfl,Jb (s:={ s with heap:=h' }) e c d (by decide) ⟨x,H,I1,ru,⟨rfl,fun ys hy=>by rw [I.qS hy hq]; exact hx⟩,Bk,fun b hb=>(hf b hb).1⟩⟩
 done:=by
  intro X hP hw hK hc i pins s σ H E I hf st hg;subst hP hw hK;obtain⟨xs,hq,hx⟩:=hg;obtain⟨bB,rv,p,hz⟩:=I.list hq;obtain⟨f0,f1,f2,f3,f4,f5⟩:=hf it (by simp);have hl:=rv.length;exact wpAny_pyNext_list_end (I.ok.hd hc) st p.isList (by simp; lia) fun h' eb=>⟨rfl,I.turned (t':=s.toks) (fun b o hb e=>eb b o hb e) f0 f1 f3 f4 f5⟩
 self:=fun _ _ _ _ _ st h=>wpAny_pyIter_listiter st h
theorem Gq{P:bO}{w:World}{K:ao}{tg:Expr}(a it:Addr):Turn P w K tg (Itt K a) [it] it (fun i h=>h.IsTupleIter it a i) where
 mem:=by simp
 obj:=fun i h st b hb=>by
  have e:b=it:=by simpa using hb
  subst e;obtain⟨o,e,c,d⟩:=st;exact⟨o,e,fun v z=>by rw [d] at z; cases z⟩
 keep:=fun i h h' st k=>st.at fun o e=>k it (by simp) o e
 item:=by
  intro X hP hw hK hc i pins s σ H E I hf st hg;subst hP hw hK;obtain⟨xs,x,hq,hx⟩:=hg;obtain⟨bB,rv,p,hz⟩:=I.tuple hq;obtain⟨u,hu,ru⟩:=rv.get hx;obtain⟨f0,f1,f2,f3,f4,f5⟩:=hf it (by simp);refine wpAny_pyNext_tuple_item st (show s.heap.IsTuple a bB.toArray from p) (x:=u) (by simpa using hu) fun h' Bk sb=>?_;have I1:Inv X pins σ H { s with heap:=h' }:=I.turned (t':=s.toks) (fun b o hb e=>(sb.2 b hb).trans e) f0 f1 f3 f4 f5;obtain⟨o,e,c,d⟩:=id Bk;exact⟨u,rfl,Jb (s:={ s with heap:=h' }) e c d (by decide) ⟨x,H,I1,ru,⟨rfl,fun ys hy=>by rw [I.JD hy hq]; exact hx⟩,Bk,fun b hb=>(hf b hb).1⟩⟩
 done:=by
  intro X hP hw hK hc i pins s σ H E I hf st hg;subst hP hw hK;obtain⟨xs,hq,hx⟩:=hg;obtain⟨bB,rv,p,hz⟩:=I.tuple hq;obtain⟨f0,f1,f2,f3,f4,f5⟩:=hf it (by simp);have hl:=rv.length;exact wpAny_pyNext_tuple_end (I.ok.hd hc) st (show s.heap.IsTuple a bB.toArray from p) (by simp; lia) fun h' eb=>⟨rfl,I.turned (t':=s.toks) (fun b o hb e=>eb b o hb e) f0 f1 f3 f4 f5⟩
 self:=fun _ _ _ _ _ st h=>wpAny_pyIter_tupleiter st h
theorem Gr{P:bO}{w:World}{K:ao}{tg:Expr}(it:Addr)(lo:Int)(n:Nat):Turn P w K tg (Yb lo n) [it] it (fun i h=>IsRangeIter h it (lo+(i:Nat) * 1) ((n:Int) - (i:Nat)) 1) where
 mem:=by simp
 obj:=fun i h st b hb=>by
  have e:b=it:=by simpa using hb
  subst e;exact⟨_,st,fun v z=>by
   have z':Data.fields _=Data.cell v:=z;cases z'⟩
 keep:=fun i h h' st k=>k it (by simp) _ st
 item:=by
  intro X hP hw hK hc i pins s σ H E I hf st hg;subst hP hw hK;obtain⟨f0,f1,f2,f3,f4,f5⟩:=hf it (by simp);have W:=Walks.range (prog:=X.prog) (w:=X.w) (I.ok.hd hc) it lo 1 n;refine W.item i s _ _ hg st fun v h' tk hv Bk kk=>?_;obtain⟨t,rfl⟩:=hv;have I1:Inv X pins σ H { s with heap:=h',toks:=tk }:=I.turned (fun b o hb e=>kk b o (by simpa using hb) e) f0 f1 f3 f4 f5;refine⟨_,rfl,Jb (s:={ s with heap:=h',toks:=tk }) (n:="range_iterator") Bk rfl rfl (by decide) ⟨.int (lo+i),H,I1,⟨t,?_⟩,⟨rfl,rfl⟩,Bk,fun b hb=>(hf b hb).1⟩⟩;rw [Int.mul_one]
 done:=by
  intro X hP hw hK hc i pins s σ H E I hf st hg;subst hP hw hK;obtain⟨f0,f1,f2,f3,f4,f5⟩:=hf it (by simp);exact wpAny_pyNext_range_end (I.ok.hd hc) st (by have:n<=i:=hg; lia) fun h' eb=>⟨rfl,I.turned (t':=s.toks) (fun b o hb e=>eb b o hb e) f0 f1 f3 f4 f5⟩
 self:=fun _ _ _ _ _ st h=>wpAny_pyIter_rangeiter st h
section
variable {X:Cx} {tg:Expr}
theorem LW{pins:List (Addr×Obj)}{σ:St}{H:Hp}{s:aB}{R:It->Hp->Prop}{E:Value->aB->Prop}{lo hi:Int}{t u v:Tok}{tk:Nat}(I:Inv X pins σ H s)(h1:-(2 ^ 62)<=lo)(h2:lo < 2 ^ 62)(h3:-(2 ^ 62)<=hi)(h4:hi < 2 ^ 62)
  (q:R (Yb lo (hi - lo).toNat) H):wpAny (model X.prog X.w) X.A (pyIter (.ref s.heap.objs.size)) (PIE X pins σ tg R) E { s with heap:=s.heap.push { cls:=.type "range",data:=.fields #[.int lo t,.int hi u,.int 1 v] },toks:=tk }:=by
 refine wpAny_pyIter_range (IsRange.new ..) (small_one h1 h2 h3 h4) ?_;have I1:Inv X pins σ H { s with heap:=s.heap.push { cls:=.type "range",data:=.fields #[.int lo t,.int hi u,.int 1 v] },toks:=tk }:=I.kept fun b o e=>a0 _ e
 refine⟨(s.heap.push { cls:=.type "range",data:=.fields #[.int lo t,.int hi u,.int 1 v] }).objs.size,[(s.heap.push { cls:=.type "range",data:=.fields #[.int lo t,.int hi u,.int 1 v] }).objs.size],_,_,H,rfl,
  I1.kept (t':=tk) fun b o e=>a0 _ e,Gr _ lo (hi - lo).toNat,?_,fun b hb=>?_,q⟩
 ·have e1:lo+((0:Nat):Int) * 1=lo:=by simp
  have e2:(((hi - lo).toNat:Nat):Int) - ((0:Nat):Int)=Builtin.Range.rangeSize lo hi 1:=by rw [rangeSize_one]; split <;> lia
  show IsRangeIter _ _ (lo+((0:Nat):Int) * 1) ((((hi - lo).toNat:Nat):Int) - ((0:Nat):Int)) 1;rw [e1,e2];exact cb _ rfl
 ·have e:b=(s.heap.push { cls:=.type "range",data:=.fields #[.int lo t,.int hi u,.int 1 v] }).objs.size:=by simpa using hb
  subst e;exact I1.Ht (aQ _) (I1.eV.fresh (aQ _))
noncomputable def qN(fp:List Addr)(h:Heap):List (Addr×Obj):=fp.filterMap fun b=>(h.get? b).map fun o=>(b,o)
theorem pq{fp:List Addr}{h:Heap}{b:Addr}{o:Obj}(hb:b∈fp)(e:h.get? b=some o):(b,o)∈qN fp h:=List.mem_filterMap.mpr ⟨b,hb,by rw [e]; rfl⟩
theorem JW{fp:List Addr}{h:Heap}{p:Addr×Obj}(hp:p∈qN fp h):p.1∈fp/\h.get? p.1=some p.2:=by
 obtain⟨b,hb,e⟩:=List.mem_filterMap.mp hp;cases q:h.get? b with
 | none=>rw [q] at e; cases e
 | some o =>
  rw [q] at e;have e':(b,o)=p:=bT e;subst e';exact⟨hb,q⟩
theorem Inv.pinned{pins:List (Addr×Obj)}{σ:St}{H:Hp}{s:aB}{fp:List Addr}(I:Inv X pins σ H s)(hf:∀ b∈fp,oP X pins H b)(ho:∀ b∈fp,∃ o,s.heap.get? b=some o/\∀ v,o.data≠.cell v):Inv X (pins++qN fp s.heap) σ H s :=
 I.IE fun p hp=>(List.mem_append.mp hp).elim (fun z=>I.pin p (bJ _ z)) fun z=>by
  obtain⟨hb,e⟩:=JW z;obtain⟨f0,f1,f2,_⟩:=hf p.1 hb;obtain⟨o,e',d⟩:=ho p.1 hb;rw [e] at e'; cases e';exact⟨e,f0,f1,f2,d⟩
theorem Inv.t8{pins pl:List (Addr×Obj)}{σ:St}{H:Hp}{s:aB}(I:Inv X (pins++pl) σ H s):Inv X pins σ H s:=I.IE fun p hp=>I.pin p (bJ _ (du _ hp))
end
noncomputable abbrev R2:=V->V->Hp->VK->Prop
noncomputable def KN(X:Cx)(f:Value->Value->Sem Value)(r:R2):Prop :=
 ∀ (pins:List (Addr×Obj)) (s:aB) (σ:St) (H:Hp) (x y:V) (v u:Value) (Q:VK),Inv X pins σ H s->RelV x v->RelV y u->r x y H Q ->
  wpAny (model X.prog X.w) X.A (f v u) (EP X pins σ Q) X.xe s
noncomputable def ZD(X:Cx)(f:Value->Sem Value)(r:V->Hp->VK->Prop):Prop :=
 ∀ (pins:List (Addr×Obj)) (s:aB) (σ:St) (H:Hp) (x:V) (v:Value) (Q:VK),Inv X pins σ H s->RelV x v->r x H Q ->
  wpAny (model X.prog X.w) X.A (f v) (EP X pins σ Q) X.xe s
noncomputable def P1(X:Cx)(f:Value)(r:List V->Hp->VK->Prop):Prop :=
 ∀ (pins:List (Addr×Obj)) (s:aB) (σ:St) (H:Hp) (xs:List V) (us:List Value) (Q:VK),Inv X pins σ H s->Vals xs us->r xs H Q ->
  wpAny (model X.prog X.w) X.A (call f us) (EP X pins σ Q) X.xe s
noncomputable def X2(X:Cx)(r:V->Hp->(Bool->Hp->Prop)->Prop):Prop :=
 ∀ (pins:List (Addr×Obj)) (s:aB) (σ:St) (H:Hp) (x:V) (v:Value) (Q:Bool->Hp->Prop),Inv X pins σ H s->RelV x v->r x H Q ->
  wpAny (model X.prog X.w) X.A (truthy v) (TP X pins σ Q) X.xe s
noncomputable def rI(C:Int->Int->Prop)(g:Int->Int->V):R2:=fun x y H Q=>∃ i j,x=.int i/\y=.int j/\C i j/\Q (g i j) H
noncomputable def RQ(g:Int->Int->V):R2:=fun x y H Q=>∃ i j,x=.int i/\y=.int j/\Q (g i j) H
noncomputable def rU(g:Int->V):V->Hp->VK->Prop:=fun x H Q=>∃ i,x=.int i/\Q (g i) H
section
variable {X:Cx} {a b c:Expr} {ta tb tc:TE} {pos:Pos}
theorem V2{f:Value->Value->Sem Value}{C:Int->Int->Prop}{g:Int->Int->Int}
  (rule:∀ (i j:Int) (t u:Tok) (s:aB) (Q:Value->aB->Prop) (E:Value->aB->Prop),C i j->Q (.int (g i j) s.toks) { s with toks:=s.toks+1 }->wpAny (model X.prog X.w) X.A (f (.int i t) (.int j u)) Q E s) :
  KN X f (rI C fun i j=>.int (g i j)):=by
 intro pins s σ H x y v u Q I rx ry h;obtain⟨i,j,rfl,rfl,hc,q⟩:=h;obtain⟨t,rfl⟩:=rx;obtain⟨t',rfl⟩:=ry;exact rule i j t t' s _ _ hc ⟨.int (g i j),H,I.tok _,⟨_,rfl⟩,q⟩
theorem SW{f:Value->Value->Sem Value}{g:Int->Int->Int}
  (rule:∀ (i j:Int) (t u:Tok) (s:aB) (Q:Value->aB->Prop) (E:Value->aB->Prop),Q (.int (g i j) s.toks) { s with toks:=s.toks+1 }->wpAny (model X.prog X.w) X.A (f (.int i t) (.int j u)) Q E s) :
  KN X f (RQ fun i j=>.int (g i j)):=by
 intro pins s σ H x y v u Q I rx ry h;obtain⟨i,j,rfl,rfl,q⟩:=h;obtain⟨t,rfl⟩:=rx;obtain⟨t',rfl⟩:=ry;exact rule i j t t' s _ _ ⟨.int (g i j),H,I.tok _,⟨_,rfl⟩,q⟩
theorem SX{f:Value->Value->Sem Value}{g:Int->Int->Bool}
  (rule:∀ (i j:Int) (t u:Tok) (s:aB) (Q:Value->aB->Prop) (E:Value->aB->Prop),Q (.bool (g i j)) s->wpAny (model X.prog X.w) X.A (f (.int i t) (.int j u)) Q E s) :
  KN X f (RQ fun i j=>.bl (g i j)):=by
 intro pins s σ H x y v u Q I rx ry h;obtain⟨i,j,rfl,rfl,q⟩:=h;obtain⟨t,rfl⟩:=rx;obtain⟨t',rfl⟩:=ry;exact rule i j t t' s _ _ ⟨.bl (g i j),H,I,rfl,q⟩
noncomputable def Yj(i j:Int):Prop:=0 < j/\j < 1073741824
noncomputable def RN(i j:Int):Prop:=(-(2 ^ 64) < i/\i < 2 ^ 64)\/(-(2 ^ 64) < j/\j < 2 ^ 64)
theorem RN.ok{i j:Int}(h:RN i j):IntMulOk i j:=by
 rcases h with ⟨h1,h2⟩ | ⟨h1,h2⟩
 ·exact .of_left (intBits_le_64 h1 h2)
 ·exact .of_right (intBits_le_64 h1 h2)
theorem QB:KN X (ku .Add) (RQ fun i j=>.int (i+j)):=SW fun _ _ _ _ _ _ _ q=>add_int q
theorem Qx:KN X (ku .Sub) (RQ fun i j=>.int (i - j)):=SW fun _ _ _ _ _ _ _ q=>sub_int q
theorem Qy:KN X (ku .Mult) (rI RN fun i j=>.int (i * j)):=V2 fun _ _ _ _ _ _ _ hc q=>mul_int q hc.ok
theorem OL:KN X (ku .FloorDiv) (rI Yj fun i j=>.int (i / j)):=V2 fun i j _ _ _ _ _ hc q=>by
 have h1:(0:Int) < j:=hc.1;have h2:j < 1073741824:=hc.2;exact floordiv_int (by lia) (by rw [Int.fdiv_eq_ediv_of_nonneg i (by lia)]; exact q) (.inl (PyProof.noPylong_small (by lia)))
theorem Qz:KN X (ku .Mod) (rI (fun _ j=>0 < j) fun i j=>.int (i % j)):=V2 fun i j _ _ _ _ _ hc q=>by
 have h1:(0:Int) < j:=hc;exact mod_int' (by lia) (by rw [Int.fmod_eq_emod_of_nonneg i (by lia)]; exact q)
theorem ZT{f:Value->Sem Value}{g:Int->Int}
  (rule:∀ (i:Int) (t:Tok) (s:aB) (Q:Value->aB->Prop) (E:Value->aB->Prop),Q (.int (g i) s.toks) { s with toks:=s.toks+1 }->wpAny (model X.prog X.w) X.A (f (.int i t)) Q E s) :
  ZD X f (rU fun i=>.int (g i)):=by
 intro pins s σ H x v Q I rx h;obtain⟨i,rfl,q⟩:=h;obtain⟨t,rfl⟩:=rx;exact rule i t s _ _ ⟨.int (g i),H,I.tok _,⟨_,rfl⟩,q⟩
theorem P8:ZD X (unaryOp .USub) (rU fun i=>.int (-i)):=ZT fun _ _ _ _ _ q=>neg_int q
end
section
variable {X:Cx} {a b c:Expr} {ta tb tc:TE} {pos:Pos}
theorem SU:KN X (fE .Lt) (RQ fun i j=>.bl (decide (i < j))):=SX fun _ _ _ _ _ _ _ q=>lt_int q
theorem SV:KN X (fE .Gt) (RQ fun i j=>.bl (decide (j < i))):=SX fun _ _ _ _ _ _ _ q=>gt_int q
theorem dZ(b:Expr){op:CmpOp}(h:autoParam (op≠.In) Ad._auto_1)(h2:autoParam (op≠.NotIn) Ad._auto_1):behindInMarks op b=false:=by
 have e1:(op == CmpOp.In)=false:=by cases op <;> first | rfl | exact absurd rfl h
 have e2:(op == CmpOp.NotIn)=false:=by cases op <;> first | rfl | exact absurd rfl h2
 cases b with
 | Set es k _ =>
  show (k == 0&&(op == .In||op == .NotIn)&&es.all (constantsAlone 8))=false;rw [e1,e2,Bool.or_false,Im,Il]
 | _=>rfl
noncomputable def RH(K:ao)(x:V)(H:Hp)(k:Bool):Prop :=
 match x with
 | .dQ=>k=false
 | .bl b=>k=b
 | .int i=>k=(i != 0)
 | .str y=>y.length<=bh/\k=((y.length:Int) != 0)
 | .PV y=>y.size<=bh/\k=((y.size:Int) != 0)
 | .ref p=>(∃ xs,oZ K H p xs/\k=!xs.isEmpty)\/(∃ xs,zR K H p xs/\k=!xs.isEmpty)\/∃ bu,H p=some (.dK bu)/\k=!bu.isEmpty
 | _=>False
theorem He{κ:Type}{bu:List (κ×V)}{vs:List (κ×Value)}(r:KV bu vs):(!vs.isEmpty)=!bu.isEmpty:=by
 cases r <;> rfl
theorem zf{xs:List V}{bB:List Value}(r:Vals xs bB):(!bB.toArray.isEmpty)=!xs.isEmpty:=by
 cases r <;> simp
theorem yZ:(bh:Nat) < 2 ^ 63:=by rw [c6]; decide
theorem Qb:X2 X (fun x H Q=>∃ k,RH X.K x H k/\Q k H):=by
 intro pins s σ H x v Q I rx h;obtain⟨k,e,q⟩:=h;have hl:=yZ;have hs:bh=16777216:=c6;cases x with
 | dQ =>
  cases rx;have e':k=false:=e;subst e';exact truthy_none ⟨H,I,q⟩
 | bl b =>
  cases rx;have e':k=b:=e;subst e';exact tX ⟨H,I,q⟩
 | int i =>
  obtain⟨t,rfl⟩:=rx;have e':k=(i != 0):=e;subst e';exact PySem.P.truthy_int ⟨H,I,q⟩
 | str y =>
  obtain⟨t,rfl⟩:=rx;obtain⟨hy,e'⟩:y.length<=bh/\k=((y.length:Int) != 0):=e;subst e';exact PySem.P.truthy_str (by lia) ⟨H,I.tok _,q⟩
 | PV y =>
  obtain⟨t,rfl⟩:=rx;obtain⟨hy,e'⟩:y.size<=bh/\k=((y.size:Int) != 0):=e;subst e';exact PySem.W.truthy_bytes (by lia) ⟨H,I.tok _,q⟩
 | ref p =>
  cases rx;have e':(∃ xs,oZ X.K H p xs/\k=!xs.isEmpty)\/(∃ xs,zR X.K H p xs/\k=!xs.isEmpty)\/∃ bu,H p=some (.dK bu)/\k=!bu.isEmpty:=e;rcases e' with ⟨xs,hx,e'⟩ | ⟨xs,hx,e'⟩ | ⟨bu,hx,e'⟩
  ·subst e';obtain⟨bB,r,pl,hz⟩:=I.list hx;have hlen:=r.length;exact wpAny_truthy_list pl.isList (by simp only [a8]; lia) ⟨H,I.tok _,by rw [zf r]; exact q⟩
  ·subst e';obtain⟨bB,r,pl,hz⟩:=I.tuple hx;have hlen:=r.length;exact truthy_tuple pl (by simp only [a8]; lia) ⟨H,I.tok _,by rw [zf r]; exact q⟩
  ·subst e';obtain⟨hz,hS,vs,r,m⟩:bu.length<=bh/\(p == lJ)=false/\∃ vs,KV bu vs/\s.heap.DictOf (gP X.prog X.w) p vs:=I.eV p _ hx;have hlen:bu.length=vs.length:=xR r;exact FY hS m (by lia) ⟨H,I.tok _,by rw [He r]; exact q⟩
 | _=>exact(show False from e).elim
theorem GJ:KN X (ku .Add) (fun x y H Q=>∃ i j,x=.str i/\y=.str j/\i.length+j.length<=bh/\Q (.str (i++j)) H):=by
 intro pins s σ H x y v u Q I rx ry h;obtain⟨i,j,rfl,rfl,hz,q⟩:=h;obtain⟨t,rfl⟩:=rx;obtain⟨t',rfl⟩:=ry;exact add_str (fun t' tk=>⟨.str (i++j),H,I.tok _,⟨_,rfl⟩,q⟩) hz
theorem vals1{x:V}{us:List Value}(r:Vals [x] us):∃ u,us=[u]/\RelV x u:=by
 cases r with
 | cons r1 r2=>cases r2; exact⟨_,rfl,r1⟩
theorem vals2{x y:V}{us:List Value}(r:Vals [x,y] us):∃ u w',us=[u,w']/\RelV x u/\RelV y w':=by
 cases r with
 | cons r1 r2 =>
  cases r2 with
  | cons r3 r4=>cases r4; exact⟨_,_,rfl,r1,r3⟩
noncomputable def UB(K:ao)(x:V)(H:Hp)(n:Nat):Prop :=
 match x with
 | .str y=>y.length<=bh/\n=y.length
 | .PV y=>y.size<=bh/\n=y.size
 | .ref p=>(∃ xs,oZ K H p xs/\n=xs.length)\/∃ xs,zR K H p xs/\n=xs.length
 | _=>False
theorem Nk:P1 X (.builtin "len") (fun xs H Q=>∃ x n,xs=[x]/\UB X.K x H n/\Q (.int n) H):=by
 intro pins s σ H xs us Q I r h;obtain⟨x,n,rfl,e,q⟩:=h;obtain⟨u,rfl,rx⟩:=vals1 r;have hl:=yZ;have hs:bh=16777216:=c6;cases x with
 | str y =>
  obtain⟨t,rfl⟩:=rx;obtain⟨hy,e'⟩:y.length<=bh/\n=y.length:=e;subst e';exact len_str (by lia) ⟨.int _,H,I.tok _,⟨_,rfl⟩,q⟩
 | PV y =>
  obtain⟨t,rfl⟩:=rx;obtain⟨hy,e'⟩:y.size<=bh/\n=y.size:=e;subst e';exact PySem.W.len_bytes (by lia) ⟨.int _,H,I.tok _,⟨_,rfl⟩,q⟩
 | ref p =>
  cases rx;have e':(∃ xs,oZ X.K H p xs/\n=xs.length)\/∃ xs,zR X.K H p xs/\n=xs.length:=e;rcases e' with ⟨xs,hx,e'⟩ | ⟨xs,hx,e'⟩
  ·subst e';obtain⟨bB,r',pl,hz⟩:=I.list hx;have hlen:=r'.length;exact Calls.call_len_list pl.isList (by simp only [a8]; lia) ⟨.int xs.length,H,I.tok _,⟨_,by simp only [a8]; rw [hlen]⟩,q⟩
  ·subst e';obtain⟨bB,r',pl,hz⟩:=I.tuple hx;have hlen:=r'.length;exact len_tuple pl (by simp only [a8]; lia) ⟨.int xs.length,H,I.tok _,⟨_,by simp only [a8]; rw [hlen]⟩,q⟩
 | _=>exact(show False from e).elim
end
structure HN(h:Heap)(x dx C:Addr)(mA:Str->Option Value):Prop where
 obj:h.get? x=some (ic C dx)
 ns:h.Ns1 dx mA
 ne:dx≠x
theorem J8{h:Heap}{dx:Addr}{mA:Str->Option Value}(n:h.Ns1 dx mA):∃ od,h.get? dx=some od/\∀ name,vE name od=some (mA name):=by
 obtain⟨o,es,ep,ho,hd,hk,_,hm⟩:=n;refine⟨o,ho,fun name=>?_⟩;have e:=hm name;unfold nsFind findBy at e;rw [<-Array.find?_toList] at e;unfold vE;rw [hd];dsimp only;split
 ·rename_i y q;rw [q] at e;exact congrArg some e
 ·rename_i q;rw [q] at e;have a:es.toList.any (·.refKey)=false:=by
   rw [List.any_eq_false];intro y hy;obtain⟨z,t,Xg⟩:=hk y (Array.mem_toList_iff.mp hy);simp [DictEntry.refKey,Xg]
  have a':¬ es.toList.any (·.refKey)=true:=by rw [a]; exact jv
  rw [if_neg a'];exact congrArg some e
theorem HN.look{h:Heap}{x dx C:Addr}{mA:Str->Option Value}(I:HN h x dx C mA):∃ od,PySem.W.InstAt h x (ic C dx) C (some od)/\∀ name,vE name od=some (mA name) :=
 let ⟨od,ho,hl⟩:=J8 I.ns
 ⟨od,⟨I.obj,rfl,rfl,ho⟩,hl⟩
section
variable {prog:bO} {w:World} {A:dU} {E:Value->aB->Prop} {s:aB} {K:ao} {x dx C f:Addr} {mA:Str->Option Value} {name:Str} {v:Value}
theorem get_map{expr:Bool}{Q:Value->aB->Prop}(X:K.In s.heap)(I:HN s.heap x dx C mA)(hg:rO K C name=true)(hh:yq K C=true)
  (ha:bw K (.ref C) name=some none) (hv:mA name=some v) (hv':PySem.W.handedIn v=true) (h:Q v { s with toks:=s.toks+1 }) :
  wpAny (model prog w) A (getAttr (.ref x) name expr) Q E s:=by
 obtain⟨od,J,hl⟩:=I.look;exact PySem.W.get_value X J (vM hg).1 (PySem.W.findObj_own hh ha rfl (by rw [hl,hv])) hv' h
theorem MQ{pl:Sem Bool}{Q:Value×List Value->aB->Prop}(X:K.In s.heap)(I:HN s.heap x dx C mA)(hg:rO K C name=true)
  (hf:bw K (.ref C) name=some (some (.ref f))) (ht:Jy K (.ref f)=true) (hv:mA name=none) (h:Q (.ref f,[.ref x]) s) :
  wpAny (model prog w) A (getMethod (.ref x) name pl) Q E s:=by
 obtain⟨od,J,hl⟩:=I.look;exact PySem.W.method_fn X J (vM hg).1 (vM hg).2 hf (beq_iff_eq.mp ht) (by show (vE name od).map (·.isSome)=some false; rw [hl,hv]; rfl) h
theorem Oq{ns:List Str}{Q:Unit->aB->Prop}(X:K.In s.heap)(I:HN s.heap x dx C mA)
  (hs:bw K (.ref C) "__setattr__" = some (some (.builtin "object.__setattr__"))) (hp:N5 K C=true) (ht:B0 K C name=some none) (hh:yq K C=true)
  (hw:Le mA ns) (hsz:ns.length<=bh)
  (h:∀ h',HN h' x dx C (fun y=>if y=name then some v else mA y)->B4 dx s.heap h'->Q () { s with heap:=h',toks:=s.toks+2 }) :
  wpAny (model prog w) A (setAttr (.ref x) name v) Q E s:=by
 obtain⟨od,J,hl⟩:=I.look;refine PySem.W.set_plain X J hs (PySem.W.osa_open (s:={ s with toks:=s.toks+1 }) (r:=none) X J hp ht fun b=>?_);obtain⟨cd,hc,Km⟩:=PySem.W.any_some hh;have hx:s.heap.get? x=some ⟨.ref C,some dx,.plain,#[]⟩:=I.obj;refine aN (bG (aN (aN (wpAny_loadPart hx (aN (PySem.W.Looks.here (s:={ s with toks:=s.toks+1 }) (PySem.W.looks_clsIn X hc) ?_))))));rw [Km];refine bG (a:=some dx) (aN (bG (aN ?_)));refine wpAny_nsSet1 (s:={ s with toks:=s.toks+1 }) I.ns fun h' U1 DX=>?_;obtain⟨oD,esD,epD,hoD,hdD,hcD⟩:=U1.count (PySem.Within.cons name v hw);refine aN (wpAny_lookBehind hoD (by rw [hdD]; exact pastItsLine_dict (eU hcD (by rw [ag]; lia))) ?_);exact bG (h _ ⟨(DX.2 _ (fD I.ne)).trans I.obj,U1,I.ne⟩ DX)
theorem Mg{R:Result->aB->Prop}{vs:List Value}{kw:List (Str×Value)}(X:K.In s.heap)(hm:jo K C=true)
  (hi:bw K (.ref C) "__init__" = some (some (.ref f))) (hf:PySem.W.typeIn K (.ref f)=some (.type "function"))
  (h:vK (model prog w) (A.under (.builtin "type.__call__" ⟨.ref C :: vs,kw⟩)) (.call (.ref f) ⟨.ref (s.heap.objs.size+1) :: vs,kw⟩) (PySem.W.InitBack (s.heap.objs.size+1) R)
   { s with heap:=(s.heap.push fk).push (ic C s.heap.objs.size) }) :
  vK (model prog w) A (.call (.ref C) ⟨vs,kw⟩) R s:=by
 obtain⟨hh,g,d,t,os⟩:=s;exact PySem.W.make_core (PySem.W.makes_of X hm) (PySem.W.looks_findIn X hi) (fun self=>PySem.W.bind_fn X self hf) (.inl rfl) h
end
noncomputable def mO(f:Str)(v:V):List (Str×V)->List (Str×V)
 | []=>[(f,v)]
 | (g,x) :: r=>if g=f then (g,v) :: r else (g,x) :: mO f v r
theorem xf(f g:Str)(v:V):∀ fs:List (Str×V),(mO f v fs).lookup g=if g=f then some v else fs.lookup g
 | []=>by
  show oQ g [(f,v)]=_;by_cases h:g=f
  ·have hb:(g == f)=true:=beq_iff_eq.mpr h;simp only [oQ,hb,if_pos h]
  ·have hb:(g == f)=false:=beq_eq_false_iff_ne.mpr h;simp only [oQ,hb,if_neg h]
 | (k,x) :: r=>by
  have ih:=xf f g v r;rw [show mO f v ((k,x) :: r)=(if k=f then (k,v) :: r else (k,x) :: mO f v r) from rfl];by_cases hk:k=f
  ·rw [if_pos hk];by_cases h:g=k
   ·have hb:(g == k)=true:=beq_iff_eq.mpr h;simp only [oQ,hb,if_pos (h.trans hk)]
   ·have hb:(g == k)=false:=beq_eq_false_iff_ne.mpr h;simp only [oQ,hb,if_neg (fun e:g=f=>h (e.trans hk.symm))]
  ·rw [if_neg hk];by_cases h:g=k
   ·have hb:(g == k)=true:=beq_iff_eq.mpr h;simp only [oQ,hb,if_neg (fun e:g=f=>hk (h.symm.trans e))]
   ·have hb:(g == k)=false:=beq_eq_false_iff_ne.mpr h;simp only [oQ,hb];exact ih
theorem v3(f:Str)(v:V):∀ fs:List (Str×V),f∈(mO f v fs).map (·.1)/\∀ g,g∈fs.map (·.1)->g∈(mO f v fs).map (·.1)
 | []=>⟨by simp [mO],fun g h=>by simp at h⟩
 | (k,x) :: r=>by
  obtain⟨i1,i2⟩:=v3 f v r;rw [show mO f v ((k,x) :: r)=(if k=f then (k,v) :: r else (k,x) :: mO f v r) from rfl];by_cases hk:k=f
  ·rw [if_pos hk];subst hk;exact⟨by simp,fun g h=>by simpa using h⟩
  ·rw [if_neg hk];refine⟨?_,fun g h=>?_⟩
   ·rw [au];exact aR _ i1
   ·rw [au] at h ⊢;rcases List.mem_cons.mp h with e | e
    ·exact List.mem_cons.mpr (.inl e)
    ·exact aR _ (i2 g e)
theorem xh(f:Str)(v:V):∀ fs:List (Str×V),(mO f v fs).length<=fs.length+1
 | []=>by simp [mO]
 | (k,x) :: r=>by
  have ih:=xh f v r;rw [show mO f v ((k,x) :: r)=(if k=f then (k,v) :: r else (k,x) :: mO f v r) from rfl];by_cases hk:k=f
  ·rw [if_pos hk,ag,ag]; lia
  ·rw [if_neg hk,ag,ag]; lia
theorem sE.some_of{v:V}{o:Option Value}(r:sE (some v) o):∃ u,o=some u/\RelV v u:=by
 cases o with
 | none=>exact(show False from r).elim
 | some u=>exact⟨u,rfl,r⟩
theorem sE.none_of{o:Option Value}(r:sE none o):o=none:=by
 cases o with
 | none=>rfl
 | some u=>exact(show False from r).elim
theorem Ko{v:V}{u:Value}(r:RelV v u):PySem.W.handedIn u=true:=by
 cases v with
 | dQ=>cases (show u=lN from r); rfl
 | bl b=>cases (show u=Ia b from r); rfl
 | int i=>obtain⟨t,e⟩:=(show ∃ t,u=Ld i t from r); cases e; rfl
 | str x=>obtain⟨t,e⟩:=(show ∃ t,u=Lc x t from r); cases e; rfl
 | PV b=>obtain⟨t,e⟩:=(show ∃ t,u=Value.bytes b t from r); cases e; rfl
 | tG b=>obtain⟨t,e⟩:=(show ∃ t,u=Value.float b t from r); cases e; rfl
 | ref a=>cases (show u=jZ a from r); rfl
 | ty n=>cases (show u=Value.type n from r); rfl
section
variable {P:bO} {w:World} {H H':Hp} {h h':Heap} {a C dx:Addr} {fs fs':List (Str×V)}
theorem CU(eV:tU P w H h)(e:H a=some (.ins C dx fs)):∃ mA,HN h a dx C mA/\(∀ f,sE (fs.lookup f) (mA f))/\Le mA (fs.map (·.1))/\fs.length<=1000/\H dx=some (.own a):=by
 obtain⟨d,z,ne,ob,mA,n,r,q⟩:=(show iC P w H h a (.ins C dx fs) from eV a _ e);exact⟨mA,⟨ob,n,ne⟩,r,q,z,d⟩
end
structure NY(K:ao)(C:Addr):Prop where
 pg:rO K C Str.empty=true
 hd:yq K C=true
 po:N5 K C=true
 sa:bw K (.ref C) "__setattr__" = some (some (.builtin "object.__setattr__"))
theorem NY.get{K:ao}{C:Addr}(c:NY K C)(f:Str):rO K C f=true:=c.pg
noncomputable def wF(K:ao)(C:Addr)(f:Str):Prop:=bw K (.ref C) f=some none
theorem wF.Su{K:ao}{C:Addr}{f:Str}(n:wF K C f):B0 K C f=some none:=by
 unfold B0;rw [show bw K (.ref C) f=some none from n];rfl
structure Con(K:ao)(C:Addr)(f:Str)(v:V)(u:Value):Prop where
 at_:bw K (.ref C) f=some (some u)
 rel:RelV v u
 get:yn K u "__get__" = some none
 cp:PySem.W.copiedNames.contains f=false
structure Meth(K:ao)(C:Addr)(m:Str)(f:Addr):Prop where
 at_:bw K (.ref C) m=some (some (.ref f))
 fn:Jy K (.ref f)=true
 kp:fw K (.ref f)=true
section
variable {X:Cx} {pins:List (Addr×Obj)} {σ:St} {H:Hp} {s:aB} {a C dx:Addr} {fs:List (Str×V)} {f:Str} {v:V} {A:dU} {E:Value->aB->Prop}
theorem Hn{b:Bool}{Q:Value->aB->Prop}(I:Inv X pins σ H s)(e:H a=some (.ins C dx fs))(c:NY X.K C)(n:wF X.K C f)(l:fs.lookup f=some v)
  (h:∀ u s',Inv X pins σ H s'->RelV v u->Q u s'):wpAny (model X.prog X.w) A (getAttr (.ref a) f b) Q E s:=by
 obtain⟨mA,O,r,_,_,_⟩:=CU I.eV e;obtain⟨u,hu,ru⟩:=sE.some_of (v:=v) (o:=mA f) (by rw [<-l]; exact r f);exact get_map I.AG O (c.get f) c.hd n hu (Ko ru) (h u _ (I.tok _) ru)
theorem zi{m:Str}{g:Addr}{pl:Sem Bool}{Q:Value×List Value->aB->Prop}(I:Inv X pins σ H s)(e:H a=some (.ins C dx fs))(c:NY X.K C)(k:Meth X.K C m g)(l:fs.lookup m=none)
  (h:Q (.ref g,[.ref a]) s):wpAny (model X.prog X.w) A (getMethod (.ref a) m pl) Q E s:=by
 obtain⟨mA,O,r,_,_,_⟩:=CU I.eV e;have hn:mA m=none:=sE.none_of (by rw [<-l]; exact r m);exact MQ I.AG O (c.get m) k.at_ k.fn hn h
theorem Gy{y:V}{u:Value}{Q:Unit->aB->Prop}(I:Inv X pins σ H s)(e:H a=some (.ins C dx fs))(c:NY X.K C)(n:wF X.K C f)(hl:fs.length < 1000)(ry:RelV y u)
  (h:∀ s',Inv X pins σ (upd H a (.ins C dx (mO f y fs))) s'->Q () s'):wpAny (model X.prog X.w) A (setAttr (.ref a) f u) Q E s:=by
 obtain⟨mA,O,r,wi,_,ho⟩:=CU I.eV e;have hz:(fs.map (·.1)).length<=bh:=by rw [av,c6]; lia
 refine Oq I.AG O c.sa c.po n.Su c.hd wi hz fun h' O' sb=>h _ ?_;have hd:∃ o,h'.get? dx=some o:=let ⟨o,_,_,e',_⟩:=O'.ns; ⟨o,e'⟩
 refine I.write (x:=a) (e:=dx) (by rw [e]; exact ja) (.inr ho) (fun b q hb z=>(sb.2 b hb).trans z) hd ?_;refine⟨by rw [bZ O.ne]; exact ho,?_,O.ne,O'.obj,_,O'.ns,fun g=>?_,fun g hg=>?_⟩
 ·have:=xh f y fs; lia
 ·show sE ((mO f y fs).lookup g) (if g=f then some u else mA g);rw [xf];by_cases q:g=f
  ·rw [if_pos q,if_pos q]; exact ry
  ·rw [if_neg q,if_neg q]; exact r g
 ·by_cases q:g=f
  ·rw [q]; exact(v3 f y fs).1
  ·refine(v3 f y fs).2 g (wi g fun z=>hg ?_);show (if g=f then some u else mA g)=none;rw [if_neg q]; exact z
theorem Inv.made(I:Inv X pins σ H s):Inv X pins σ (upd (upd H s.heap.objs.size (.own (s.heap.objs.size+1))) (s.heap.objs.size+1) (.ins C s.heap.objs.size []))
  { s with heap:=(s.heap.push fk).push (ic C s.heap.objs.size) }:=by
 have e1:(s.heap.push fk).get? s.heap.objs.size=some fk:=cb s.heap rfl;have e2:((s.heap.push fk).push (ic C s.heap.objs.size)).get? (s.heap.objs.size+1)=some (ic C s.heap.objs.size):=by
  have:=cb (s.heap.push fk) (o:=ic C s.heap.objs.size) rfl
  rwa [jb] at this
 have e3:(s.heap.push fk).Ns s.heap.objs.size (fun _=>none):=⟨fk,#[],_,e1,rfl,(fun e he=>absurd he (by simp)),fun _=>rfl⟩;have I1:=I.laid (a:=s.heap.objs.size) (o:=.own (s.heap.objs.size+1)) (h':=s.heap.push fk) (t':=s.toks) (fun b u q=>a0 _ q) (aQ _) ⟨_,e1⟩;refine I1.laid (a:=s.heap.objs.size+1) (o:=.ins C s.heap.objs.size []) (t':=s.toks) (fun b u q=>a0 _ q) (Nat.le_of_eq (jb _ _)) ?_;have ne:s.heap.objs.size≠s.heap.objs.size+1:=bM (kC _);refine⟨by rw [bZ ne,c8],cI _,ne,e2,fun _=>none,(Heap.Ns1.of_empty e3).at fun o q=>a0 _ q,fun _=>ja,fun y hy=>absurd rfl hy⟩
theorem Pc{prog:bO}{w:World}{env:Env}{e:Expr}{f:Str}{pos:Pos}{s:aB}{Q:Value->aB->Prop}(hb:vL e f env (eval e env)=eval e env)
  (h:wpAny (model prog w) A (eval e env) (fun o fJ=>wpAny (model prog w) A (getAttr o f true) Q E fJ) E s):wpAny (model prog w) A (eval (.Attribute e f pos) env) Q E s :=
 Attribute_any_ h (by rw [arm_eval_Attribute,hb])
end
section
variable {X:Cx} {pins:List (Addr×Obj)} {σ:St} {H:Hp} {s:aB} {A:dU} {E:Value->aB->Prop} {Q:Value->aB->Prop} {c:Value} {b:Bool}
inductive zQ (K:ao) (H:Hp):V->Value->Prop where
 | dQ:zQ K H .dQ (.type "NoneType")
 | bl (x:Bool):zQ K H (.bl x) (.type "bool")
 | int (i:Int):zQ K H (.int i) (.type "int")
 | str (x:Str):zQ K H (.str x) (.type "str")
 | tG (x:UInt64):zQ K H (.tG x) (.type "float")
 | lst {a:Addr} {xs:List V} (e:H a=some (.lst xs)):zQ K H (.ref a) (.type "list")
 | pX {a:Addr} {o:Obj} {xs:List V} (e:H a=some (.pX o (.lst xs))):zQ K H (.ref a) (.type "list")
 | tup {a:Addr} {xs:List V} (e:H a=some (.tup xs)):zQ K H (.ref a) (.type "tuple")
 | dK {a:Addr} {bu:List (Key×V)} (e:H a=some (.dK bu)):zQ K H (.ref a) (.type "dict")
 | dT {a:Addr} {bu:List (List Key×V)} (e:H a=some (.dT bu)):zQ K H (.ref a) (.type "dict")
 | ins {a C dx:Addr} {fs:List (Str×V)} (e:H a=some (.ins C dx fs)) (cl:NY K C) (ha:bw K (.ref C) "__class__" = some (some (.builtin "object.__class__")))
   (hn:yn K (.builtin "object.__class__") "__get__" = some (some (.builtin "getset_descriptor.__get__"))) (htk:PySem.W.takesIn K (.builtin "object.__class__")=some true)
   (hm:PySem.W.mroIn K C (.type "object")=some true):zQ K H (.ref a) (.ref C)
end
structure jT(k:Nat)(A:dU):Prop where
 hd:A.handled=none
 dp:A.depth+3 * k+5 < recursionLimit
 un:A.units+16 * k+200 < cLine
theorem jT.mono{j k:Nat}{A:dU}(r:jT k A)(h:j<=k):jT j A:=⟨r.hd,by have:=r.dp; lia,by have:=r.un; lia⟩
theorem jT.deeper{k:Nat}{A:dU}(r:jT (k+1) A)(env:Env):jT k (A.deeper env) :=
 ⟨r.hd,by have:=r.dp; show A.depth+1+3 * k+5 < _; lia,by have:=r.un; show A.units+3+16 * k+200 < _; lia⟩
theorem GX {A:dU} {C:Addr} {us:List Value} {kw:List (Str×Value)}:(A.under (.builtin "type.__call__" ⟨.ref C :: us,kw⟩)).depth=A.depth+1:=by
 first | rfl | simp [KU,Code.weight,Code.isCreation,Code.isGuard,Code.isCaller,Code.frames,NJ,guardIds]
theorem GW {A:dU} {C:Addr} {us:List Value} {kw:List (Str×Value)}:(A.under (.builtin "type.__call__" ⟨.ref C :: us,kw⟩)).units=A.units+1:=by
 first | rfl | simp [KU,Code.cUnits,Code.frames,NJ]
theorem jT.make {k:Nat} {A:dU} (r:jT (k+1) A) (C:Addr) (us:List Value) (kw:List (Str×Value)):jT k (A.under (.builtin "type.__call__" ⟨.ref C :: us,kw⟩)) :=
 ⟨r.hd,by have:=r.dp; rw [GX]; lia,by have:=r.un; rw [GW]; lia⟩
theorem jT.depth{k:Nat}{A:dU}(r:jT k A):A.depth < recursionLimit:=by have:=r.dp; lia
theorem jT.units{k:Nat}{A:dU}(r:jT k A):A.units+64 < cLine:=by have:=r.un; lia
theorem jT.P7{k:Nat}{A:dU}(r:jT k A):A.units < cLine:=by have:=r.un; lia
noncomputable abbrev Sp:=List V->Hp->VK->XK->Prop
noncomputable abbrev Jw:=List Env->Hp->aB->XK->Value->aB->Prop
structure HY(P:bO)(w:World)(K:ao)(mg:Str->Option Value)(base:Heap)(A:dU)(outer:List Env)(s:aB)(H:Hp):Prop where
 frames:A.frames=some outer
 mod:Mod K mg base
 bs:∀ b o,base.get? b=some o->s.heap.get? b=some o/\H b=none
 NU:base.objs.size<=s.heap.objs.size
 xD:s.heap.FunFrames base outer
 Rn:∀ b∈K0 outer,H b=none
 eV:tU P w H s.heap
 bare:B6 s.gens
noncomputable def CE(outer:List Env)(P:bO)(w:World)(H:Hp)(s:aB)(Q:VK)(u:Value)(s':aB):Prop :=
 ∃ v H',s'.os=s.os/\B6 s'.gens/\Un (K0 outer) [] H H' s.heap s'.heap/\tU P w H' s'.heap/\RelV v u/\Q v H'
noncomputable def CR(CX:Jw)(outer:List Env)(P:bO)(w:World)(H:Hp)(s:aB)(Q:VK)(E:XK)(r:Result)(s':aB):Prop :=
 match r with
 | .ok (.ret u)=>CE outer P w H s Q u s'
 | .ok _=>False
 | .error e=>CX outer H s E e s'
structure dP(P:bO)(w:World)(K:ao)(mg:Str->Option Value)(base:Heap)(CX:Jw)(k:Nat)(f:Addr)(fd:ax)(ps:List Str)(sp:Sp):Prop where
 len:∀ vs H Q E,sp vs H Q E->vs.length=ps.length
 run:∀ (A:dU) (outer:List Env) (s:aB) (H:Hp) (args:Args) (us:List Value) (vs:List V) (Q:VK) (E:XK),jT k A->HY P w K mg base A outer s H->Lm s fd args (ps.zip us)->Vals vs us->sp vs H Q E ->
  vK (model P w) A (.call (.ref f) args) (CR CX outer P w H s Q E) s
theorem HY.make{P:bO}{w:World}{K:ao}{mg:Str->Option Value}{base:Heap}{A:dU}{outer:List Env}{s:aB}{H:Hp}(e:HY P w K mg base A outer s H)(C:Addr)(us:List Value)(kw:List (Str×Value)) :
  HY P w K mg base (A.under (.builtin "type.__call__" ⟨.ref C :: us,kw⟩)) outer s H:=⟨by first | exact e.frames | (simpa [KU,Code.envs,NJ,pushEnvs] using e.frames),e.mod,e.bs,e.NU,e.xD,e.Rn,e.eV,e.bare⟩
section
variable {X:Cx} {pins:List (Addr×Obj)} {σ:St} {H:Hp} {s s':aB}
theorem Inv.Ui(I:Inv X pins σ H s):HY X.prog X.w X.K X.mg X.base X.A X.stack s H :=
 ⟨I.ok.frames,I.ok.mod,I.bs,eU I.ok.NU I.sz,I.stack,I.Iu,I.eV,I.bare⟩
theorem Inv.after{Q:VK}{u:Value}(I:Inv X pins σ H s)(h:CE X.stack X.prog X.w H s Q u s'):EP X pins σ Q u s':=by
 obtain⟨v,H',os,bare,un,eV,r,q⟩:=h;obtain⟨hh,g,d,t,os'⟩:=s';obtain rfl:os'=s.os:=os;exact⟨v,H',I.call (h':=hh) (g':=g) (d':=d) (t':=t) (ch:=[]) un eV bare (fun b z=>absurd z (by simp)),r,q⟩
end
noncomputable def Binds(K:ao)(fd:ax)(ps:List Str)(ds:List Value):Prop :=
 ∀ (s:aB) (us:List Value),K.In s.heap->(us++ds).length=ps.length->Lm s fd ⟨us,[]⟩ (ps.zip (us++ds))
theorem Binds.all{K:ao}{fd:ax}{ps:List Str}(h:∀ us:List Value,us.length=ps.length->bindArgs fd ⟨us,[]⟩=pure (ps.zip us)):Binds K fd ps []:=fun s us _ hl=>by
 rw [c9] at hl ⊢;exact .of_eq (h us hl)
noncomputable def Passes(CX:Jw)(X:Cx)(E:XK):Prop:=∀ (pins:List (Addr×Obj)) (σ:St) (H:Hp) (s:aB) (e:Value) (s':aB),Inv X pins σ H s->CX X.stack H s E e s'->X.xe e s'
section
variable {X:Cx} {CX:Jw} {k:Nat} {f C:Addr} {fd:ax} {ps:List Str} {sp:Sp} {Rw:List V} {ds:List Value} {E:XK} {x m:Str} {p pos apos:Pos} {e o:Expr} {es:List Expr} {ta:TE} {t:TA}
theorem GB{pins:List (Addr×Obj)}{σ:St}{H:Hp}{s:aB}{Q:VK}{us:List Value}{vs:List V}(F:dP X.prog X.w X.K X.mg X.base CX k f fd ps sp)(hr:jT k X.A)(hb:Binds X.K fd ps ds)(hd:Vals Rw ds)(hx:Passes CX X E)
  (I:Inv X pins σ H s) (r:Vals vs us) (h:sp (vs++Rw) H Q E):wpAny (model X.prog X.w) X.A (call (.ref f) us) (EP X pins σ Q) X.xe s:=by
 have r2:Vals (vs++Rw) (us++ds):=r.append hd;have hl:(us++ds).length=ps.length:=by rw [<-r2.length]; exact F.len _ _ _ _ h
 refine wpAny_call (H0 (F.run X.A X.stack s H ⟨us,[]⟩ (us++ds) (vs++Rw) Q E hr I.Ui (hb s us I.AG hl) r2 h) fun r s' hq=>?_);cases r with
 | error e=>exact hx pins σ H s e s' I hq
 | ok fl =>
  cases fl with
  | ret u=>exact I.after hq
  | next=>exact bN hq
  | brk=>exact bN hq
  | cont=>exact bN hq
structure Mk(K:ao)(C f:Addr):Prop where
 makes:jo K C=true
 init:bw K (.ref C) "__init__" = some (some (.ref f))
 fn:Jy K (.ref f)=true
 kp:fw K (.ref C)=true
theorem LO{pins:List (Addr×Obj)}{σ:St}{H:Hp}{s:aB}{Q:VK}{us:List Value}{vs:List V}(M:Mk X.K C f)(F:dP X.prog X.w X.K X.mg X.base CX k f fd ps sp)(hr:jT (k+1) X.A)(hb:Binds X.K fd ps ds)(hd:Vals Rw ds)
  (hx:Passes CX X E) (I:Inv X pins σ H s) (r:Vals vs us)
  (h:∀ x dx,H x=none->H dx=none->dx≠x->sp (.ref x :: (vs++Rw)) (upd (upd H dx (.own x)) x (.ins C dx [])) (fun v H2=>v=.dQ/\Q (.ref x) H2) E) :
  wpAny (model X.prog X.w) X.A (call (.ref C) us) (EP X pins σ Q) X.xe s:=by
 have hq:=h (s.heap.objs.size+1) s.heap.objs.size (I.eV.fresh (yr _)) (I.eV.fresh (aQ _)) (bM (kC _));have I2:=Inv.made (C:=C) I;have r2:Vals (V.ref (s.heap.objs.size+1) :: (vs++Rw)) (jZ (s.heap.objs.size+1) :: (us++ds)):=.cons rfl (r.append hd);have hl:(jZ (s.heap.objs.size+1) :: us++ds).length=ps.length:=by
  have e:=r2.length;rw [F.len _ _ _ _ hq] at e;exact e.symm
 refine wpAny_call (Mg (f:=f) I.AG M.makes M.init (beq_iff_eq.mp M.fn) (H0 (F.run _ X.stack _ _ ⟨jZ (s.heap.objs.size+1) :: us,[]⟩ (jZ (s.heap.objs.size+1) :: (us++ds)) _ _ E (hr.make C us [])
  (I2.Ui.make C us []) (hb _ (jZ (s.heap.objs.size+1) :: us) I2.AG hl) r2 hq) fun r s' ME=>?_))
 cases r with
 | error e=>exact hx pins σ _ _ e s' I2 ME
 | ok fl =>
  cases fl with
  | ret u =>
   obtain⟨v,H',I3,rv,ev,q3⟩:=I2.after ME;subst ev;exact⟨rv,⟨V.ref (s.heap.objs.size+1),H',I3,rfl,q3⟩⟩
  | next=>exact bN ME
  | brk=>exact bN ME
  | cont=>exact bN ME
end
section
variable {X:Cx} {CX:Jw} {k:Nat} {f C:Addr} {fd:ax} {ps ks:List Str} {sp:Sp} {E:XK} {x m:Str} {p pos apos aaz:Pos} {e o:Expr} {es:List Expr} {kws:List Ll} {te ta:TE} {t tk:TA} {nm:Option Str}
structure X7(K:ao)(fd:ax)(ps ks:List Str)(g:List Value->List Value->List Value)(gV:List V->List V->List V):Prop where
 to:∀ (s:aB) (us ws:List Value),K.In s.heap->(g us ws).length=ps.length->Lm s fd ⟨us,ks.zip ws⟩ (ps.zip (g us ws))
 rel:∀ {vs:List V} {us:List Value} {zs:List V} {ws:List Value},Vals vs us->Vals zs ws->Vals (gV vs zs) (g us ws)
variable {g:List Value->List Value->List Value} {gV:List V->List V->List V}
end
structure bC(N P:List Str)(sc:Scope):Prop where
 kind:sc.kind=.function
 co:sc.isCoroutine=false
 gen:sc.isGenerator=false
 nd:N.Nodup
 pre:N.take P.length=P
 par:∀ x∈P,sc.names.lookup x=some .local\/sc.names.lookup x=some .cell
 QJ:∀ y∈sc.names,y.2≠.free
theorem BR{kindOf:Str->Option sH}{x:Str}:∀ {binds:List (Str×Value)} {m:Str->Option Value},(∀ v,(x,v)∉binds)->bindL kindOf binds m x=m x
 | [],_,_=>rfl
 | (n,v) :: r,m,h=>by
  unfold bindL;rw [BR fun w hw=>h w (aR _ hw)];split
  ·have:x≠n:=by rintro rfl; exact h v bf
   simp [this]
  ·rfl
theorem BU{kindOf:Str->Option sH}{x:Str}:∀ {binds:List (Str×Value)} {m:Str->Option Value},(∀ v,(x,v)∉binds)->bindC kindOf binds m x=m x
 | [],_,_=>rfl
 | (n,v) :: r,m,h=>by
  unfold bindC;rw [BU fun w hw=>h w (aR _ hw)];split
  ·rfl
  ·have:x≠n:=by rintro rfl; exact h v bf
   simp [this]
theorem BS{kindOf:Str->Option sH}{x:Str}{v:Value}:∀ {P:List Str} {vs:List Value} {i:Nat} {m:Str->Option Value},P.Nodup->P[i]?=some x->vs[i]?=some v->kindOf x=some .local ->
  bindL kindOf (P.zip vs) m x=some v
 | [],_,_,_,_,h,_,_=>by simp at h
 | _ :: _,[],_,_,_,_,h,_=>by simp at h
 | p :: P,w :: vs,0,m,nd,h1,h2,hk=>by
  simp at h1 h2; subst h1; subst h2;show bindL kindOf ((p,w) :: P.zip vs) m p=_;unfold bindL;rw [BR fun v hv=>(List.nodup_cons.mp nd).1 (FT hv).1,if_pos hk];simp
 | p :: P,w :: vs,i+1,m,nd,h1,h2,hk=>by
  show bindL kindOf ((p,w) :: P.zip vs) m x=_;unfold bindL;exact BS (i:=i) (List.nodup_cons.mp nd).2 (by simpa using h1) (by simpa using h2) hk
theorem BV{kindOf:Str->Option sH}{x:Str}{v:Value}:∀ {P:List Str} {vs:List Value} {i:Nat} {m:Str->Option Value},P.Nodup->P[i]?=some x->vs[i]?=some v->kindOf x≠some .local ->
  bindC kindOf (P.zip vs) m x=some v
 | [],_,_,_,_,h,_,_=>by simp at h
 | _ :: _,[],_,_,_,_,h,_=>by simp at h
 | p :: P,w :: vs,0,m,nd,h1,h2,hk=>by
  simp at h1 h2; subst h1; subst h2;show bindC kindOf ((p,w) :: P.zip vs) m p=_;unfold bindC;rw [BU fun v hv=>(List.nodup_cons.mp nd).1 (FT hv).1,if_neg hk];simp
 | p :: P,w :: vs,i+1,m,nd,h1,h2,hk=>by
  show bindC kindOf ((p,w) :: P.zip vs) m x=_;unfold bindC;exact BV (i:=i) (List.nodup_cons.mp nd).2 (by simpa using h1) (by simpa using h2) hk
noncomputable def start(N:List Str)(vs:List V):St:=vs.map some++aZ (N.length - vs.length) none
noncomputable def Fw(CX:Jw)(P:bO)(w:World)(K:ao)(mg:Str->Option Value)(base:Heap)(N:List Str)(qual:Str)(scope:Scope)(f:Addr)(cd:Value)(A:dU)(outer:List Env)(s:aB)(H:Hp)(E:XK):Cx where
 prog:=P
 w:=w
 K:=K
 mg:=mg
 base:=base
 A:=A.deeper (D3 qual scope s.heap.objs.size f cd)
 N:=N
 mM:=s
 ND:=H
 env:=D3 qual scope s.heap.objs.size f cd
 outer:=outer
 stack:=D3 qual scope s.heap.objs.size f cd :: outer
 ex:=[]
 calm:=true
 fn:=fun _=>true
 pn:=[]
 xe:=fun e s'=>wpAny (model P w) (A.deeper (D3 qual scope s.heap.objs.size f cd)) (leaving (D3 qual scope s.heap.objs.size f cd) e) (fun _ SF=>CX outer H s E e SF) (fun e' SF=>CX outer H s E e' SF) s'
theorem FD{sc:Scope}{n:Nat}{x:Str}(h:sc.names.lookup x=some .cell):∃ c,(cellsFrom n sc.names []).lookup x=some c:=by
 have q:=Ie sc.names n [] (.inl h);exact Option.isSome_iff_exists.mp q
theorem Ke{CX:Jw}{P:bO}{w:World}{K:ao}{mg:Str->Option Value}{base:Heap}{N ps:List Str}{qual:Str}{scope:Scope}{f:Addr}{cd:Value}{A:dU}{outer:List Env}{s s1:aB}{H:Hp}{E:XK}{us:List Value}{vs:List V}
  (S:bC N ps scope) (hd:A.handled=none) (e0:HY P w K mg base A outer s H) (hl:vs.length=ps.length) (r:Vals vs us)
  (x:InCallC s s.heap.objs.size (bindL (D3 qual scope s.heap.objs.size f cd).kindOf (ps.zip us) fun _=>none) (cellsFrom (s.heap.objs.size+1) scope.names []) (bindC (D3 qual scope s.heap.objs.size f cd).kindOf (ps.zip us) fun _=>none) s1) :
  Inv (Fw CX P w K mg base N qual scope f cd A outer s H E) [] (start N vs) H s1:=by
 have sv:ps.length<=N.length:=by have:=congrArg dh S.pre; rw [cA] at this; lia
 obtain⟨h1,tk,rfl,hk⟩:=x.done;have Tg:∀ b:Addr,b∉(Fw CX P w K mg base N qual scope f cd A outer s H E).ex:=fun b z=>absurd (show b∈([]:List Addr) from z) (by simp);refine⟨⟨e0.mod,S.kind,rfl,rfl,aQ _,fun y z c h1 h2=>?_,fun y hy=>?_,fun y c _ h=>?_,fun _=>hd,Around.frames_deeper e0.frames,.inr ⟨rfl,rfl⟩,fun b z=>absurd z (Tg b),e0.bs,e0.NU,fun b _ _=>Tg b,fun b z=>absurd z (Tg b),e0.xD,e0.Rn⟩,
  rfl,e0.bare,Un.kept hk,⟨_,x.toInCall.ns,fun i y v h1 h2 h3=>?_⟩,fun y c h=>⟨_,x.cell y c h⟩,e0.eV.fresh (aQ _),fun y c h=>?_,fun p hp=>absurd (show p∈([]:List (Addr×Obj)) from hp) (by simp),e0.eV.kept hk,?_⟩
 ·exact name_of_addr x.apart (iO h1) (iO h2)
 ·have hy:scope.names.lookup y=some .cell\/scope.names.lookup y=some .free:=hy;rcases hy with hy | hy
  ·exact FD hy
  ·exact absurd rfl (S.QJ _ (iO hy))
 ·exact N6 (x.above y c (iO h))
 ·have hi:i < vs.length:=by
   unfold start at h2;by_cases hi:i < vs.length
   ·exact hi
   ·rw [bF (by simpa using hi)] at h2;rw [lA] at h2;split at h2 <;> cases h2
  have ha:vs[i]?=some v:=by
   unfold start at h2;rw [cz (by simpa using hi),dq] at h2;cases e:vs[i]? with
   | none=>rw [e] at h2; cases h2
   | some a=>rw [e] at h2; cases h2; rfl
  obtain⟨u,hu,rv⟩:=r.get ha;have hp:ps[i]?=some y:=by
   rw [<-S.pre,List.getElem?_take_of_lt (by lia)]; exact h1
  have YC:ps.Nodup:=by rw [<-S.pre]; exact S.nd.sublist (List.take_sublist _ _)
  refine⟨u,rv,?_⟩;rcases S.par y (eC hp) with k | k
  ·exact .inl ⟨k,BS YC hp hu k⟩
  ·obtain⟨c,e⟩:=FD (n:=s.heap.objs.size+1) k;refine .inr ⟨.inl k,c,e,?_⟩;have q:=x.cell y c e;rw [BV YC hp hu (by show scope.names.lookup y≠_; rw [k]; decide)] at q;exact q
 ·exact e0.eV.fresh (N6 (x.above y c (iO h)))
 ·unfold start;show _=N.length;rw [aI,av,fG];lia
theorem Ug{CX:Jw}{P:bO}{w:World}{K:ao}{mg:Str->Option Value}{base:Heap}{k:Nat}{f:Addr}{name qual:Str}{params:Arguments}{body:List Stmt}{scope:Scope}{dV kV doc pm nk ct oc:Value}{an od:Option Addr}
  {JV:Array (Option Value)} {N ps:List Str} {sp:Sp} (lk:K.lookup f=some ⟨oc,od,.func (jr name qual params body scope dV kV doc pm an nk ct),JV⟩) (Ja:D4 K nk qual=true) (S:bC N ps scope)
  (len:∀ vs H Q E,sp vs H Q E->vs.length=ps.length)
  (ML:∀ (A:dU) (outer:List Env) (s:aB) (H:Hp) (vs:List V) (Q:VK) (E:XK),jT k (A.deeper (D3 qual scope s.heap.objs.size f nk))->sp vs H Q E ->
   ∃ t,R7 (Fw CX P w K mg base N qual scope f nk A outer s H E) body t/\t { nx:=fun _ H'=>Q .dQ H',rt:=Q } (start N vs) H) :
  dP P w K mg base CX (k+1) f (jr name qual params body scope dV kV doc pm an nk ct) ps sp:=by
 refine⟨len,fun A outer s H args us vs Q E hr e0 hb r Hi=>?_⟩;have hl:=len _ _ _ _ Hi;have KX:K.In s.heap:=e0.mod.RX.keeps fun b o e=>(e0.bs b o e).1;have lim:s.heap.NoLimit:=e0.mod.nolimit.keeps fun b o e=>(e0.bs b o e).1;have BD:∀ y∈ps.zip us,scope.names.lookup y.1=some .local\/(scope.names.lookup y.1=some .cell/\((cellsFrom (s.heap.objs.size+1) scope.names []).lookup y.1).isSome=true):=fun ⟨n,v⟩ hy=>by
  rcases S.par n (FT hy).1 with q | q
  ·exact .inl q
  ·exact .inr ⟨q,Ie _ _ _ (.inl q)⟩
 refine codeAny_call_function hr.depth (KX _ _ lk) rfl S.co S.gen rfl (PySem.W.codeRec_of KX Ja) (hb _ _ _ _ ?_);refine wpAny_newFunctionEnv_cells S.kind BD fun env he s1 x=>?_;subst he;refine⟨lim.keeps x.toInCall.keep,codeAny_func ?_⟩;obtain⟨t,ht,hq⟩:=ML A outer s H vs Q E (hr.deeper _) Hi;have I:Inv (Fw CX P w K mg base N qual scope f nk A outer s H E) [] (start N vs) H s1:=Ke S hr.hd e0 hl r x;refine FZ (ht [] s1 (start N vs) H _ I hq) (fun fl s' hs=>?_) fun e s' hs=>hs;have fin:∀ {jR:St} {H':Hp} {v:V} {u:Value},Inv (Fw CX P w K mg base N qual scope f nk A outer s H E) [] jR H' s'->RelV v u->Q v H'->CE outer P w H s Q u s' :=
  fun {jR H' v u} J rv q=>⟨v,H',J.os,J.bare,J.base,J.eV,rv,q⟩
 cases fl with
 | ret u =>
  obtain⟨v,jR,H',J,rv,q⟩:=hs;exact fin J rv q
 | next =>
  obtain⟨jR,H',J,q⟩:=hs;exact fin (v:=V.dQ) (u:=lN) J rfl q
 | brk =>
  obtain⟨_,_,_,q⟩:=hs;exact bN q
 | cont =>
  obtain⟨_,_,_,q⟩:=hs;exact bN q
end L2
namespace HT
open PySem PyProof.Rows
noncomputable def lexLt:List Int->List Int->Bool
 | [],[]=>false
 | [],_ :: _=>true
 | _ :: _,[]=>false
 | x :: xs,y :: ys=>if x=y then lexLt xs ys else decide (x < y)
theorem Hb(x y:Int)(xs ys:List Int):lexLt (x :: xs) (y :: ys)=if x=y then lexLt xs ys else decide (x < y):=rfl
theorem AF:lexLt [] []=false:=rfl
theorem y9(y:Int)(ys:List Int):lexLt [] (y :: ys)=true:=rfl
theorem za(x:Int)(xs:List Int):lexLt (x :: xs) []=false:=rfl
theorem MZ(A:dU)(s:aB)(a:Int)(t:Tok)(c:Int)(u:Tok):∃ e,SeqAt.EqAt A s (.int a t) (.int c u) e/\(e=true↔a=c) :=
 ⟨(a == c),SeqAt.EqAt.int_int a t c u,by simp⟩
theorem yN(A:dU)(s:aB)(a:Int)(t:Tok)(c:Int)(u:Tok)(prog:bO)(w:World)(E:Value->aB->Prop)(Q:Value->aB->Prop)(h:Q (.bool (decide (a < c))) s) :
  wpAny (model prog w) A (ql .Lt (.int a t) (.int c u)) Q E s :=
 (PyProof.Rows.lt_int h:wpAny (model prog w) A (fE .Lt (.int a t) (.int c u)) Q E s)
section
open PySem.SeqAt
open PySem.AutoSeq1 (wpAny_loadPart')
open PySem.MeetsSeq PySem.MeetsSeq2 PySem.MeetsSeq3
theorem Aw(l b:Addr)(items nO:Array Value)(n n2:Nat)(dd Jj:Option Addr)(sl Iz:Array (Option Value))(ns ms:List Int)(hi:mh items.toList ns)(hj:mh nO.toList ms) :
  Meets (Builtin.«tuple.__lt__» ⟨[.ref l,.ref b],[]⟩)
   (fun _ R s=>s.heap.get? l=some { cls:=.type "tuple",dict:=dd,data:=.seq items n,slots:=sl }/\s.heap.get? b=some { cls:=.type "tuple",dict:=Jj,data:=.seq nO n2,slots:=Iz } /\
    R (.ok (.ret (.bool (lexLt ns ms)))) s) :=
 .of_wp fun prog w A R s h=>by
  obtain⟨hp,g,d,tk,os⟩:=s; obtain⟨hl,hb,h⟩:=h;have f2:=pM;have z1:items.size=ns.length:=by rw [<-hi.length]; simp
  have z2:nO.size=ms.length:=by rw [<-hj.length]; simp
  wp_walk using cf hl,cf hb,wpAny_forIn_list _ (fun rest b s'=>b.1=none/\s'=⟨hp,g,d,tk,os⟩/\∃ (vs ws:List Value) (RT RV:List Int),rest=vs.zip ws /\
   mh vs RT/\mh ws RV/\RT.length+nO.size=RV.length+items.size/\R (.ok (.ret (.bool (lexLt RT RV)))) ⟨hp,g,d,tk,os⟩) _
  case turn =>
   rintro⟨y,x⟩ rest b s' ⟨Hk,rfl,vs,ws,RT,RV,hz,WX,UY,hlen,hR⟩;cases WX with
   | nil=>rw [List.zip_nil_left] at hz; cases hz
   | cons a t WW =>
    cases UY with
    | nil=>rw [List.zip_nil_right] at hz; cases hz
    | cons c u WU =>
     rw [List.zip_cons_cons] at hz;injection hz with WO MD
     injection WO with hy hx
     subst hy hx;rw [Hb] at hR;simp only [ag] at hlen;obtain⟨e,he,TQ⟩:=MZ A.in1 ⟨hp,g,d,tk,os⟩ a t c u;refine aN (he prog w _ _ ?_);cases e with
     | true =>
      rw [if_pos (TQ.mp rfl)] at hR
      wp_walk
      exact⟨rfl,rfl,_,_,_,_,MD,WW,WU,by lia,hR⟩
     | false =>
      rw [if_neg (fun q=>absurd (TQ.mpr q) jv)] at hR;have Tz:=yN A.in1 ⟨hp,g,d,tk,os⟩ a t c u prog w
      wp_walk using Tz
      exact⟨_,rfl,by simpa using hR⟩
  case fin =>
   rintro⟨b1,b2⟩ s' ⟨Hk,rfl,vs,ws,RT,RV,hz,WX,UY,hlen,hR⟩;simp only at Hk;subst Hk;have hv:lexLt RT RV=decide (items.size < nO.size):=by
    cases WX with
    | nil =>
     cases UY with
     | nil =>
      simp only [aw] at hlen;rw [AF];exact(decide_eq_false (by lia)).symm
     | cons c u hw =>
      simp only [aw,ag] at hlen;rw [y9];exact(decide_eq_true (by lia)).symm
    | cons a t hv =>
     cases UY with
     | nil =>
      simp only [aw,ag] at hlen;rw [za];exact(decide_eq_false (by lia)).symm
     | cons c u hw =>
      rw [List.zip_cons_cons] at hz;cases hz
   rw [hv] at hR
   wp_walk
   exact⟨_,rfl,by simpa [t7] using hR⟩
  case h =>
   exact⟨rfl,rfl,items.toList,nO.toList,ns,ms,rfl,hi,hj,by lia,h⟩
end
section
variable {prog:bO} {w:World} {A:dU} {E:Value->aB->Prop} {s:aB}
theorem yU{l b:Addr}{items nO:Array Value}{ns ms:List Int}{Q:Value->aB->Prop}(hl:IsTup s.heap l items)(hb:IsTup s.heap b nO)(hi:mh items.toList ns)(hj:mh nO.toList ms)
  (hu:A.units < cLine) (h:Q (.bool (lexLt ns ms)) s):wpAny (model prog w) A (fE .Lt (.ref l) (.ref b)) Q E s:=by
 obtain⟨⟨cls,dd,data,sl⟩,ho,hc,n,hd⟩:=id hl;obtain⟨⟨Nh,Jj,data2,Iz⟩,BC,C1,n2,hd2⟩:=id hb;simp only at hc hd C1 hd2;subst hc hd C1 hd2;exact xt (op:=.Lt) ⟨_,ho,rfl⟩ ⟨_,BC,rfl⟩ lO sg (qt _ _) (Aw l b items nO n n2 dd Jj sl Iz ns ms hi hj)
  ⟨ho,BC,show Ia (lexLt ns ms)≠Value.notImplemented/\Q (.bool (lexLt ns ms)) s from⟨(fun x=>nomatch x),h⟩⟩ hu
theorem Pa{t b:Addr}{vs ws:List Value}{Q:Value->aB->Prop}(ht:IsTup s.heap t vs.toArray)(hb:IsTup s.heap b ws.toArray)(hv:vs≠[])
  (h1:ws=[]->Q (.ref t) s) (h2:ws≠[]->Q (.ref s.heap.objs.size) { s with heap:=s.heap.push { cls:=.type "tuple",data:=.seq (vs++ws).toArray } })
  (hsz:vs.length+ws.length<=bh):wpAny (model prog w) A (ku .Add (.ref t) (.ref b)) Q E s:=by
 obtain⟨⟨cls,dd,data,sl⟩,ho,hc,n,hd⟩:=id ht;obtain⟨⟨Nh,Jj,data2,Iz⟩,BC,C1,n2,hd2⟩:=id hb;simp only at hc hd C1 hd2;subst hc hd C1 hd2;have e:vs.toArray++ws.toArray=(vs++ws).toArray:=by simp
 by_cases hw:ws=[]
 ·exact concat_meets ⟨_,ho,rfl⟩ ⟨_,BC,rfl⟩ noFill_tuple_add seq_tuple_add Ig Gg (FQ _ _)
   (tuple_addW1 t b vs.toArray ws.toArray n n2 dd Jj sl Iz (by simpa using hv) (by simp [hw])) ⟨ho,BC,h1 hw⟩
 ·refine concat_meets ⟨_,ho,rfl⟩ ⟨_,BC,rfl⟩ noFill_tuple_add seq_tuple_add Ig Gg (FQ _ _)
   (tuple_addW2 t b vs.toArray ws.toArray n n2 dd Jj sl Iz (by simpa using hv) (by simpa using hw) (by rw [a8,a8]; exact hsz)) ⟨ho,BC,?_⟩
  rw [e];exact h2 hw
noncomputable def jI(n d:Nat):Option Int->Nat
 | none=>d
 | some v=>if v < 0 then (v+(n:Int)).toNat else min v.toNat n
theorem Qi(n d:Nat)(hd:d<=n)(o:Option Int):jI n d o<=n:=by
 cases o with
 | none=>exact hd
 | some v =>
  show (if v < 0 then (v+(n:Int)).toNat else min v.toNat n)<=n;by_cases hv:v < 0
  ·rw [if_pos hv]; lia
  ·rw [if_neg hv]; exact Nat.min_le_right _ _
theorem Jo(v:Int)(n d:Nat):(if v < 0 then max (v+(n:Int)) 0 else min v (n:Int))=((jI n d (some v):Nat):Int):=by
 show (if v < 0 then max (v+(n:Int)) 0 else min v (n:Int))=(((if v < 0 then (v+(n:Int)).toNat else min v.toNat n):Nat):Int);by_cases hv:v < 0
 ·simp only [if_pos hv]; lia
 ·simp only [if_neg hv]; lia
theorem HM(lo hi:Option Int)(n:Nat):mL lo hi 1 (n:Int)=(((jI n 0 lo:Nat):Int),((jI n n hi:Nat):Int)):=by
 have h1:¬ ((1:Int) < 0):=by lia
 unfold mL;simp only [h1,if_false];refine Prod.ext ?_ ?_
 ·cases lo with
  | none=>rfl
  | some v=>exact Jo v n 0
 ·cases hi with
  | none=>rfl
  | some v=>exact Jo v n n
theorem GF(i j:Nat):ju (i:Int) (j:Int) 1=j - i:=by
 unfold ju;have h1:(1:Int) > 0:=by lia
 simp only [h1,if_true,Int.ediv_one];split <;> lia
theorem yy{v:Value}{o:Option Int}{Q:Option Int->aB->Prop}(p:IsPart v o)(h:Q o s):wpAny (model prog w) A (Builtin.Slice.slicePartIndex v) Q E s:=by
 cases p with
 | none=>exact slicePart_none h
 | int i t=>exact slicePart_int h
theorem vQ{sl:Addr}{vl vu:Value}{lo hi:Option Int}{n:Nat}{Q:Int×Int×Nat->aB->Prop}(hs:s.heap.IsSliceOf sl vl vu .none)(pl:IsPart vl lo)(pu:IsPart vu hi)
  (h:Q (((jI n 0 lo:Nat):Int),1,jI n n hi - jI n 0 lo) s):wpAny (model prog w) A (xU (.ref sl) (pure (n:Int))) Q E s:=by
 obtain⟨os,TF,Y4,U5⟩:=id hs;unfold xU Builtin.Slice.sliceFields;refine aN (aN (wpAny_field TF U5 (x:=vl) rfl (aN (wpAny_field TF U5 (x:=vu) rfl (aN (wpAny_field TF U5 (x:=.none) rfl (bG ?_)))))));refine aN (slicePart_none ?_);show wpAny _ _ (if ((1:Int) == 0)=true then _ else _) _ _ s;rw [if_neg (by decide)];refine aN (yy pl (aN (yy pu (aN (bG ?_)))));show wpAny _ _ (match mL lo hi 1 (n:Int) with | (lo,hi)=>pure (lo,(1:Int),ju lo hi 1)) _ _ s;rw [HM lo hi n];show wpAny _ _ (pure (((jI n 0 lo:Nat):Int),(1:Int),ju ((jI n 0 lo:Nat):Int) ((jI n n hi:Nat):Int) 1)) _ _ s;rw [GF];exact bG h
theorem L3(xs:Array Value)(i k:Nat):((eE k).filterMap fun (m:Nat)=>xs[((i:Int)+(m:Int) * 1).toNat]?).toArray=((xs.toList.drop i).take k).toArray:=by
 have e:(fun (m:Nat)=>xs[((i:Int)+(m:Int) * 1).toNat]?)=fun m=>xs[i+m]?:=by
  funext m;have:((i:Int)+(m:Int) * 1).toNat=i+m:=by lia
  rw [this]
 rw [e];have:=pick_run xs i k;rw [List.filterMap_map] at this;have e2:((fun x=>xs[x]?)∘fun x=>i+x)=fun m=>xs[i+m]?:=rfl;rw [e2] at this;rw [this]
theorem vc{t sl:Addr}{items:Array Value}{vl vu:Value}{lo hi:Option Int}{Q:Value->aB->Prop}(ht:IsTup s.heap t items)(hs:s.heap.IsSliceOf sl vl vu .none)(pl:IsPart vl lo)(pu:IsPart vu hi)
  (hw:¬ (jI items.size 0 lo=0/\jI items.size items.size hi=items.size))
  (h:Q (.ref s.heap.objs.size) { s with heap:=s.heap.push { cls:=.type "tuple",data:=.seq ((items.toList.drop (jI items.size 0 lo)).take (jI items.size items.size hi - jI items.size 0 lo)).toArray } })
  (hsz:items.size<=bh):wpAny (model prog w) A (getItem (.ref t) (.ref sl)) Q E s:=by
 have IY:sizeOk (.seq ((items.toList.drop (jI items.size 0 lo)).take (jI items.size items.size hi - jI items.size 0 lo)).toArray):=by
  show ((items.toList.drop (jI items.size 0 lo)).take (jI items.size items.size hi - jI items.size 0 lo)).toArray.size<=bh;rw [a8];exact eU (eU (List.length_take_le' _ _) (by rw [cD,ky]; exact Nat.sub_le _ _)) hsz
 have hj:jI items.size items.size hi<=items.size:=Qi _ _ (aQ _) hi;obtain⟨os,TF,Y4,U5⟩:=id hs;have hTs:s.TypeIs (.ref sl) "slice":=⟨os,TF,Y4⟩;unfold getItem
 try with_reducible refine kr ?_
 first | refine aN (bG ?_) | skip
 refine aN (wpAny_sequenceKey ht.typeIs (by decide) ?_);refine aN (wpAny_callSpecial?_slot (name:=Str.ofString "__getitem__") ht.typeIs vF
  (wpAny_call_entry vF ht.typeIs entry_tuple_getitem ?_ (args_tuple_getitem _ _)))
 show wpAny _ _ (Builtin.Tuple.tupleItemsOf (.ref t) >>= _) _ _ s;refine aN (tupleItemsOf_ ht ?_);refine aN (wpAny_typeOf hTs ?_);rw [if_pos (by decide)];refine aN (vQ hs pl pu ?_);have TG:¬ ((((jI items.size 0 lo:Nat):Int) == 0&&(1:Int) == 1&&(jI items.size items.size hi - jI items.size 0 lo) == items.size)=true):=by
  intro q;rw [aU,aU] at q;have q1:((jI items.size 0 lo:Nat):Int)=0:=eq_of_beq q.1.1;have q2:jI items.size items.size hi - jI items.size 0 lo=items.size:=eq_of_beq q.2;exact hw ⟨by lia,by lia⟩
 show wpAny _ _ (if (((jI items.size 0 lo:Nat):Int) == 0&&(1:Int) == 1&&(jI items.size items.size hi - jI items.size 0 lo) == items.size)=true then _ else _) _ _ s;rw [if_neg TG,L3]
 first
  | exact aN (m:=jE _) (kq (bG ⟨_,rfl,bG h⟩) IY)
  | exact aN (m:=jE _) (kq (aN (bG (bG ⟨_,rfl,bG h⟩))) IY)
  | exact aN (aN (m:=jE _) (kq (bG (bG ⟨_,rfl,bG h⟩)) IY))
  | exact aN (aN (m:=jE _) (kq (bG ⟨_,rfl,bG h⟩) IY))
end
end HT
namespace L2
open PySem PySem.Spec PyProof.Rows
noncomputable abbrev TO:=St->Hp->(Option Int->Hp->Prop)->Prop
theorem intsAre_of{ns:List Int}:∀ {us:List Value},Vals (ns.map V.int) us->mh us ns:=by
 induction ns with
 | nil=>intro us r; rw [aO] at r; cases r; exact .nil
 | cons n ns ih =>
  intro us r;rw [au] at r;cases r with
  | cons r1 r2 =>
   obtain⟨t,e⟩:=r1;subst e;exact .cons n t (ih r2)
section
variable {X:Cx} {e:Expr} {te:TE} {lo hi:Option Expr} {tl th:TO} {pos p2:Pos}
noncomputable def X5(X:Cx)(r:V->Option Int->Option Int->Hp->VK->Prop):Prop :=
 ∀ (pins:List (Addr×Obj)) (s:aB) (σ:St) (H:Hp) (x:V) (v vl vu:Value) (lo hi:Option Int) (sl:Addr) (Q:VK),Inv X pins σ H s->RelV x v->s.heap.IsSliceOf sl vl vu .none->IsPart vl lo->IsPart vu hi->r x lo hi H Q ->
  ∃ T id,typeLookup (.type T) "__getitem__" = pure (some (.builtin id))/\s.TypeIs v T/\wpAny (model X.prog X.w) X.A (getItem v (.ref sl)) (EP X pins σ Q) X.xe s
noncomputable def Fx(xs:List V)(lo hi:Option Int):List V:=(xs.drop (HT.jI xs.length 0 lo)).take (HT.jI xs.length xs.length hi - HT.jI xs.length 0 lo)
theorem xl(xs:List V)(lo hi:Option Int):(Fx xs lo hi).length<=xs.length:=by
 unfold Fx;rw [cA,cD];lia
noncomputable def VV(K:ao):V->Option Int->Option Int->Hp->VK->Prop:=fun x lo hi H Q=>∃ a xs,x=.ref a/\zR K H a xs /\
 ¬ (HT.jI xs.length 0 lo=0/\HT.jI xs.length xs.length hi=xs.length)/\∀ p,H p=none->Q (.ref p) (upd H p (.tup (Fx xs lo hi)))
theorem Qg:X5 X (VV X.K):=by
 intro pins s σ H x v vl vu lo hi sl Q I rx hs pl pu h;obtain⟨a,xs,rfl,hx,hw,q⟩:=h;cases rx;obtain⟨bB,r,ht,hz⟩:=I.tuple hx;have hlen:bB.toArray.size=xs.length:=by rw [a8]; exact r.length.symm
 refine⟨"tuple",_,PyProof.Rows.slot_tuple_getitem.lookup,ht.typeIs,?_⟩;refine HT.vc ht hs pl pu (by rw [hlen]; exact hw) ?_ (by rw [hlen]; exact hz);rw [hlen];refine⟨.ref s.heap.objs.size,_,I.laid (t':=s.toks) (o:=.tup (Fx xs lo hi)) (fun b ob q=>a0 _ q) (aQ _) ?_,rfl,q _ (I.eV.fresh (aQ _))⟩;exact⟨eU (xl xs lo hi) hz,_,(r.drop (HT.jI xs.length 0 lo)).take (HT.jI xs.length xs.length hi - HT.jI xs.length 0 lo),IsTup.new _ _⟩
noncomputable def VX(K:ao):R2:=fun x y H Q=>∃ a b ns ms,x=.ref a/\y=.ref b/\zR K H a (ns.map V.int)/\zR K H b (ms.map V.int)/\Q (.bl (HT.lexLt ns ms)) H
theorem QA(hu:X.A.units < cLine):KN X (fE .Lt) (VX X.K):=by
 intro pins s σ H x y v u Q I rx ry h;obtain⟨a,b,ns,ms,rfl,rfl,ha,hb,q⟩:=h;cases rx;cases ry;obtain⟨bB,r1,p1,_⟩:=I.tuple ha;obtain⟨sr,r2,p2,_⟩:=I.tuple hb;have i1:mh bB.toArray.toList ns:=intsAre_of r1;have i2:mh sr.toArray.toList ms:=intsAre_of r2;exact HT.yU p1 p2 i1 i2 hu ⟨.bl (HT.lexLt ns ms),H,I,rfl,q⟩
noncomputable def SO(K:ao):R2:=fun x y H Q=>∃ a b xs ys,x=.ref a/\y=.ref b/\zR K H a xs/\zR K H b ys/\xs≠[]/\xs.length+ys.length<=bh /\
 (ys=[]->Q (.ref a) H)/\(ys≠[]->∀ p,H p=none->Q (.ref p) (upd H p (.tup (xs++ys))))
theorem Vals.CH{xs:List V}{us:List Value}(r:Vals xs us):us=[]↔xs=[]:=by
 cases r with
 | nil=>simp
 | cons _ _=>simp
theorem OM:KN X (ku .Add) (SO X.K):=by
 intro pins s σ H x y v u Q I rx ry h;obtain⟨a,b,xs,ys,rfl,rfl,ha,hb,hx,hz,q1,q2⟩:=h;cases rx;cases ry;obtain⟨bB,r1,p1,_⟩:=I.tuple ha;obtain⟨sr,r2,p2,_⟩:=I.tuple hb;refine HT.Pa p1 p2 (fun z=>hx (r1.CH.mp z)) (fun z=>⟨.ref a,H,I,rfl,q1 (r2.CH.mp z)⟩) (fun z=>?_) (by rw [<-r1.length,<-r2.length]; exact hz);refine⟨.ref s.heap.objs.size,_,I.laid (t':=s.toks) (o:=.tup (xs++ys)) (fun b ob q=>a0 _ q) (aQ _) ?_,rfl,q2 (fun w=>z (r2.CH.mpr w)) _ (I.eV.fresh (aQ _))⟩;exact⟨by rw [aI]; exact hz,_,r1.append r2,IsTup.new _ _⟩
end
noncomputable def Hd(n:Nat)(i:Int):Option Nat:=if 0<=i then (if i < n then some i.toNat else none) else if -(n:Int)<=i then some (i+n).toNat else none
noncomputable def oY{α:Type}(xs:List α)(i:Int):Option α:=(Hd xs.length i).bind fun j=>xs[j]?
theorem IV{n:Nat}{i:Int}{j:Nat}(h:Hd n i=some j):seqIndex? i n=some j/\j < n/\-(n:Int)<=i/\i < n:=by
 unfold Hd at h;by_cases h0:0<=i
 ·rw [if_pos h0] at h;by_cases h1:i < n
  ·rw [if_pos h1] at h;have e:i.toNat=j:=bT h;exact⟨by rw [seqIndex_of h0 h1,e],by lia,by lia,h1⟩
  ·rw [if_neg h1] at h; cases h
 ·rw [if_neg h0] at h;by_cases h1:-(n:Int)<=i
  ·rw [if_pos h1] at h;have e:(i+n).toNat=j:=bT h;exact⟨by rw [seqIndex_neg (by lia) h1,e],by lia,h1,by lia⟩
  ·rw [if_neg h1] at h; cases h
theorem Jr{α:Type}{xs:List α}{i:Int}{v:α}(h:oY xs i=some v):∃ j,seqIndex? i xs.length=some j/\xs[j]?=some v/\j < xs.length/\-(xs.length:Int)<=i/\i < xs.length:=by
 unfold oY at h;cases e:Hd xs.length i with
 | none=>rw [e] at h; cases h
 | some j =>
  rw [e] at h;obtain⟨h1,h2,h3,h4⟩:=IV e;exact⟨j,h1,h,h2,h3,h4⟩
noncomputable def Pe(b:Expr):Prop:=∀ o i,subscripted b false o i=operate [o,i] (getItem o i)
noncomputable def X9(X:Cx)(r:R2):Prop :=
 ∀ (value slice:Expr) (pins:List (Addr×Obj)) (s:aB) (σ:St) (H:Hp) (x y:V) (v u:Value) (Q:VK),Inv X pins σ H s->RelV x v->RelV y u->r x y H Q ->
  subscripted slice false v u=operate [v,u] (getItem v u)->wpAny (model X.prog X.w) X.A (subscriptTail value slice v u) (EP X pins σ Q) X.xe s
noncomputable def MtR(X:Cx)(id:String)(r:V->List V->Hp->VK->Prop):Prop :=
 ∀ (pins:List (Addr×Obj)) (s:aB) (σ:St) (H:Hp) (x:V) (xs:List V) (v:Value) (us:List Value) (Q:VK),Inv X pins σ H s->RelV x v->Vals xs us->r x xs H Q ->
  wpAny (model X.prog X.w) X.A (call (.builtin id) (v :: us)) (EP X pins σ Q) X.xe s
section
variable {X:Cx} {a b:Expr} {ta tb:TE} {pos:Pos}
noncomputable def VZ(K:ao):R2:=fun x y H Q=>∃ p xs i v,x=.ref p/\y=.int i/\oZ K H p xs/\oY xs i=some v/\Q v H
noncomputable def VY(K:ao):R2:=fun x y H Q=>∃ p xs i v,x=.ref p/\y=.int i/\zR K H p xs/\oY xs i=some v/\Q v H
theorem IU:X9 X (VZ X.K):=by
 intro value slice pins s σ H x y v u Q I rx ry h hs;obtain⟨p,xs,i,z,rfl,rfl,hq,he,q⟩:=h;cases rx;obtain⟨t,rfl⟩:=ry;obtain⟨bB,r,pl,hz⟩:=I.list hq;obtain⟨j,h1,h2,h3,h4,h5⟩:=Jr he;obtain⟨w,ew,oh⟩:=r.get h2;have hl:=r.length;have hn:=yZ;have fin:EP X pins σ Q w s:=⟨z,H,I,oh,q⟩;by_cases h0:0<=i
 ·have hj:i.toNat=j:=by
   rw [seqIndex_of h0 h5] at h1;exact bT h1
  exact item_listR pl.isList h0 (by lia) (by rw [hj]; simpa using ew) fin hs
 ·have hj:(i+(bB.toArray.size:Int)).toNat=j:=by
   rw [seqIndex_neg (by lia) h4] at h1;rw [a8,<-hl];exact bT h1
  exact subscriptTail_builtinR (x:=w) pl.isList.typeIs slot_list_getitem.lookup
   (wpAny_getItem_list_neg (Q:=fun r s'=>r=w/\EP X pins σ Q r s') pl.isList (by lia) (by rw [a8] <;> lia) (by lia) (by rw [hj]; simpa using ew) ⟨rfl,fin⟩) hs
theorem QV:X9 X (VY X.K):=by
 intro value slice pins s σ H x y v u Q I rx ry h hs;obtain⟨p,xs,i,z,rfl,rfl,hq,he,q⟩:=h;cases rx;obtain⟨t,rfl⟩:=ry;obtain⟨bB,r,pl,hz⟩:=I.tuple hq;obtain⟨j,h1,h2,h3,h4,h5⟩:=Jr he;obtain⟨w,ew,oh⟩:=r.get h2;have hl:=r.length;have hn:=yZ;have fin:EP X pins σ Q w s:=⟨z,H,I,oh,q⟩;exact subscriptTail_builtinR (x:=w) pl.typeIs slot_tuple_getitem.lookup
  (getItem_tuple (j:=j) (Q:=fun r s'=>r=w/\EP X pins σ Q r s') pl (by lia) (by lia) (by rw [a8,<-hl]; exact h1) (by simpa using ew) ⟨rfl,fin⟩) hs
theorem GV (bB:List Value) (n j:Nat) (u:Value):jl (·.setIfInBounds j u) { cls:=.type "list",data:=.seq bB.toArray n } = { cls:=.type "list",data:=.seq (bB.set j u).toArray n }:=by
 simp [jl]
theorem Inv.lst{pins:List (Addr×Obj)}{σ:St}{H:Hp}{s:aB}{p:Addr}{xs:List V}(I:Inv X pins σ H s)(h:H p=some (.lst xs)) :
  ∃ (bB:List Value) (n:Nat),Vals xs bB/\s.heap.get? p=some { cls:=.type "list",data:=.seq bB.toArray n }/\xs.length<=bh:=by
 obtain⟨z,bB,n,r,e⟩:=I.eV p _ h;exact⟨bB,n,r,e,z⟩
theorem Inv.QO{pins:List (Addr×Obj)}{σ:St}{H:Hp}{s:aB}{p:Addr}{xs ys:List V}{bB its':List Value}{n n':Nat}{f:Obj->Obj}(I:Inv X pins σ H s)(h:H p=some (.lst xs))
  (ho:s.heap.get? p=some { cls:=.type "list",data:=.seq bB.toArray n }) (hf:f { cls:=.type "list",data:=.seq bB.toArray n } = { cls:=.type "list",data:=.seq its'.toArray n' }) (r:Vals ys its') (hz:ys.length<=bh) (t:Nat) :
  Inv X pins σ (upd H p (.lst ys)) { s with heap:=s.heap.update p f,toks:=t }:=by
 have e:(s.heap.update p f).get? p=some { cls:=.type "list",data:=.seq its'.toArray n' }:=by
  rw [vH f ho (by rw [hf] <;> rfl),hf]
 refine I.write (x:=p) (e:=p) (by rw [h]; trivial) (.inl rfl) (fun b u hb q=>(dv _ _ (fD hb)).trans q) ⟨_,e⟩ ?_;exact⟨hz,its',n',r,e⟩
noncomputable def SM:V->V->V->Hp->(Hp->Prop)->Prop:=fun o i v H Q=>∃ p xs k j,o=.ref p/\i=.int k/\H p=some (.lst xs)/\Hd xs.length k=some j/\Q (upd H p (.lst (xs.set j v)))
theorem set_list:X6 X SM:=by
 intro pins s σ H o i v ov iv u Q I ro ri rv h;obtain⟨p,xs,k,j,rfl,rfl,hp,hj,q⟩:=h;cases ro;obtain⟨t,rfl⟩:=ri;obtain⟨bB,n,r,ho,hz⟩:=I.lst hp;obtain⟨h1,h2,h3,h4⟩:=IV hj;have hl:=r.length;have hn:=yZ;have I':Inv X pins σ (upd H p (.lst (xs.set j v))) { s with heap:=s.heap.update p (jl (·.setIfInBounds j u)) } :=
  I.QO hp ho (GV bB n j u) (r.set rv j) (by rw [oR]; exact hz) s.toks
 by_cases h0:0<=k
 ·have hk:k.toNat=j:=by
   rw [seqIndex_of h0 h4] at h1;exact bT h1
  exact PySem.W.ki_setAt ho h0 (by lia) (by rw [a8,<-hl]; exact h4) (by rw [hk]; exact⟨_,I',q⟩)
 ·have hk:(k+(bB.toArray.size:Int)).toNat=j:=by
   rw [seqIndex_neg (by lia) h3] at h1;rw [a8,<-hl];exact bT h1
  exact PySem.W.ki_setBack ho (by lia) (by rw [a8,<-hl]; exact h3) (by lia) (by rw [hk]; exact⟨_,I',q⟩)
theorem Cf(lo hi:Option Int)(n:Nat):(qj lo hi none n).1=((HT.jI n 0 lo:Nat):Int)/\(qj lo hi none n).2.1=((HT.jI n n hi:Nat):Int)/\(qj lo hi none n).2.2=1:=by
 refine⟨?_,?_,rfl⟩
 ·cases lo with
  | none=>simp [qj,HT.jI]
  | some i =>
   simp only [qj,HT.jI,Option.getD_none,show (1:Int) > 0 by decide,if_true];by_cases h:i < 0
   ·simp only [h,if_true] <;> lia
   ·simp only [h,if_false] <;> lia
 ·cases hi with
  | none=>simp [qj,HT.jI]
  | some i =>
   simp only [qj,HT.jI,Option.getD_none,show (1:Int) > 0 by decide,if_true];by_cases h:i < 0
   ·simp only [h,if_true] <;> lia
   ·simp only [h,if_false] <;> lia
theorem Ay(bB:List Value)(lo hi:Option Int):slicePick bB.toArray lo hi none=((bB.drop (HT.jI bB.length 0 lo)).take (HT.jI bB.length bB.length hi - HT.jI bB.length 0 lo)).toArray:=by
 obtain⟨h1,h2,h3⟩:=Cf lo hi bB.toArray.size;unfold slicePick;rw [h1,h2,h3];simp only [sliceRange_one,pick_run,a8] <;> rfl
noncomputable def VW(K:ao):V->Option Int->Option Int->Hp->VK->Prop:=fun x lo hi H Q=>∃ a xs,x=.ref a/\oZ K H a xs/\∀ p,H p=none->Q (.ref p) (upd H p (.lst (Fx xs lo hi)))
theorem Iy:X5 X (VW X.K):=by
 intro pins s σ H x v vl vu lo hi sl Q I rx hs pl pu h;obtain⟨a,xs,rfl,hx,q⟩:=h;cases rx;obtain⟨bB,r,ht,hz⟩:=I.list hx;have hlen:=r.length;refine⟨"list",_,slot_list_getitem.lookup,ht.isList.typeIs,?_⟩;refine wpAny_getItem_list_slice ht.isList hs pl pu .none (by simp) ?_ (by rw [a8] <;> lia);rw [Ay,<-hlen];refine⟨.ref s.heap.objs.size,_,I.laid (t':=s.toks) (o:=.lst (Fx xs lo hi)) (fun b ob q=>a0 _ q) (aQ _) ?_,rfl,q _ (I.eV.fresh (aQ _))⟩;exact⟨eU (xl xs lo hi) hz,_,0,(r.drop (HT.jI xs.length 0 lo)).take (HT.jI xs.length xs.length hi - HT.jI xs.length 0 lo),cb _ rfl⟩
theorem Dx:P1 X (.type "list") (fun xs H Q=>∃ p ys,xs=[.ref p]/\(oZ X.K H p ys\/zR X.K H p ys)/\∀ l,H l=none->Q (.ref l) (upd H l (.lst ys))):=by
 intro pins s σ H xs us Q I r h;obtain⟨p,ys,rfl,hq,q⟩:=h;obtain⟨u,rfl,rx⟩:=vals1 r;cases rx;have fin:∀ (bB:List Value),Vals ys bB->ys.length<=bh->∀ (h':Heap) (c':Nat),(∀ b o',s.heap.get? b=some o'->h'.get? b=some o') ->
   h'.get? s.heap.objs.size=some { cls:=.type "list",dict:=none,data:=.seq bB.toArray c',slots:=#[] }->EP X pins σ Q (.ref s.heap.objs.size) { s with heap:=h' }:=fun bB r' hz h' c' kp e =>
  ⟨.ref s.heap.objs.size,_,I.laid (t':=s.toks) kp (aQ _) (show iC X.prog X.w _ h' _ (.lst ys) from⟨hz,bB,c',r',e⟩),rfl,q _ (I.eV.fresh (aQ _))⟩
 rcases hq with hq | hq
 ·obtain⟨bB,r',pl,hz⟩:=I.list hq;have hlen:=r'.length;obtain⟨o,ho,hc,n,hd⟩:=pl.isList;exact call_list_seq p (.inl rfl) ho hc hd (fun h' c' kp e=>fin bB r' hz h' c' kp e) (by simp only [a8] <;> lia)
 ·obtain⟨bB,r',pl,hz⟩:=I.tuple hq;have hlen:=r'.length;obtain⟨o,ho,hc,n,hd⟩:=pl;exact call_list_seq p (.inr rfl) ho hc hd (fun h' c' kp e=>fin bB r' hz h' c' kp e) (by simp only [a8] <;> lia)
noncomputable def ZU(K:ao)(T:String)(x:V)(H:Hp):Prop:=match x with
 | .str _=>T = "str"
 | .int _=>T = "int"
 | .ref p=>(T = "list"/\∃ xs,oZ K H p xs)\/(T = "tuple"/\∃ o,K.lookup p=some o/\o.cls=.type "tuple"/\o.dict=none) \/
   (T = "dict"/\((∃ bu,H p=some (.dK bu))\/∃ bu,H p=some (.dT bu)))\/(T = "set"/\∃ S n,H p=some (.set S n))
 | _=>False
theorem Lq{pins:List (Addr×Obj)}{σ:St}{H:Hp}{s:aB}{T:String}{x:V}{v:Value}(I:Inv X pins σ H s)(r:RelV x v)(ty:ZU X.K T x H) :
  s.TypeIs v T/\∀ a,v=.ref a->∃ ob,s.heap.get? a=some ob/\ob.dict=none:=by
 cases x with
 | str z =>
  obtain⟨t,rfl⟩:=r;cases (show T = "str" from ty);exact⟨typeIs_str s z t,fun _ e=>nomatch e⟩
 | int i =>
  obtain⟨t,rfl⟩:=r;cases (show T = "int" from ty);exact⟨typeIs_int s i t,fun _ e=>nomatch e⟩
 | ref p =>
  cases r;rcases ty with ⟨rfl,xs,hq⟩ | ⟨rfl,o,hk,hc,hd⟩ | ⟨rfl,hk⟩ | ⟨rfl,S,n,hk⟩
  ·obtain⟨bB,_,pl,_⟩:=I.list hq;refine⟨pl.isList.typeIs,fun a e=>?_⟩;cases e;obtain⟨o,n,e,c,hd,_⟩:=pl;exact⟨o,e,hd⟩
  ·refine⟨⟨o,I.AG p o hk,hc⟩,fun a e=>?_⟩;cases e;exact⟨o,I.AG _ o hk,hd⟩
  ·have z:∃ o,s.heap.get? p=some o/\o.ExactDict:=by
    rcases hk with ⟨bu,hk⟩ | ⟨bu,hk⟩
    ·obtain⟨_,_,_,_,o,_,_,e,ex,_⟩:=I.eV p _ hk;exact⟨o,e,ex⟩
    ·obtain⟨_,_,_,_,o,_,_,e,ex,_⟩:=I.eV p _ hk;exact⟨o,e,ex⟩
   obtain⟨o,e,ex⟩:=z;refine⟨⟨o,e,ex.1⟩,fun a e2=>?_⟩;cases e2;exact⟨o,e,ex.2.1⟩
  ·obtain⟨o,_,_,_,e,ex,_⟩:=I.eV p _ hk;refine⟨⟨o,e,ex.1⟩,fun a e2=>?_⟩;cases e2;exact⟨o,e,ex.2.1⟩
 | _=>exact bN ty
variable {o e:Expr} {es:List Expr} {to:TE} {t:TA} {name:Str} {apos nV:Pos} {T id:String} {r:V->List V->Hp->VK->Prop}
/- xs.append(e),list.index on a Tj tuple .. are MtR facts of 06m -/
end
noncomputable def MtM(X:Cx)(id:String)(r:V->List V->Hp->VK->Prop):Prop :=
 ∀ (pins:List (Addr×Obj)) (s:aB) (σ:St) (H:Hp) (x:V) (xs:List V) (v:Value) (us:List Value) (Q:VK),Inv X pins σ H s->RelV x v->Vals xs us->r x xs H Q ->
  wpAny (model X.prog X.w) X.A (call (.builtin id) (v :: us)) (EP X pins σ Q) X.xe s
theorem Vals.one:∀ {x:V} {us:List Value},Vals [x] us->∃ u,us=[u]/\RelV x u:=by
 intro x us h;cases h with
 | cons r t=>cases t; exact⟨_,rfl,r⟩
theorem Vals.two:∀ {x y:V} {us:List Value},Vals [x,y] us->∃ u v,us=[u,v]/\RelV x u/\RelV y v:=by
 intro x y us h;cases h with
 | cons r t =>
  obtain⟨v,rfl,q⟩:=Vals.one t;exact⟨_,_,rfl,r,q⟩
section
variable {X:Cx} {pins:List (Addr×Obj)} {σ:St} {H:Hp} {s:aB} {l b:Addr} {xs ys zs:List V}
theorem Inv.QQ{bB its':List Value}{n:Nat}{f:Array Value->Array Value}{t':Nat}(I:Inv X pins σ H s)(hH:H l=some (.lst xs))
  (e:s.heap.get? l=some { cls:=.type "list",data:=.seq bB.toArray n }) (hf:f bB.toArray=its'.toArray) (hv:Vals ys its') (hz:ys.length<=bh) :
  Inv X pins σ (upd H l (.lst ys)) { s with heap:=s.heap.update l (jl f),toks:=t' }:=by
 have q:=PySem.IsL.update e f;rw [hf] at q;refine I.write (x:=l) (e:=l) (by rw [hH]; exact trivial) (.inl rfl) (fun b' u hb hu=>(dv s.heap (jl f) (fD hb)).trans hu) ⟨_,q⟩ ?_;exact⟨hz,its',_,hv,q⟩
theorem Inv.WC{bB:List Value}{t':Nat}(I:Inv X pins σ H s)(hv:Vals ys bB)(hz:ys.length<=bh) :
  Inv X pins σ (upd H s.heap.objs.size (.lst ys)) { s with heap:=s.heap.push { cls:=.type "list",data:=.seq bB.toArray },toks:=t' } :=
 I.laid (fun _ _ q=>a0 _ q) (aQ _) ⟨hz,bB,0,hv,cb _ rfl⟩
theorem Inv.QP (I:Inv X pins σ H s) (hH:H l=some (.lst xs)):xs.length<=bh/\∃ (bB:List Value) (n:Nat),Vals xs bB/\xs.length=bB.length/\s.heap.get? l=some { cls:=.type "list",data:=.seq bB.toArray n }:=by
 obtain⟨z,bB,n,r,e⟩:=I.eV l _ hH;exact⟨z,bB,n,r,r.length,e⟩
theorem Md{n:Nat}(h:n<=bh):jN n=false:=by
 unfold jN;exact decide_eq_false (by lia)
end
section
variable {X:Cx}
noncomputable def OA:V->List V->Hp->VK->Prop:=fun x vs H Q=>∃ l xs y,x=.ref l/\vs=[y]/\H l=some (.lst xs)/\xs.length < bh/\Q .dQ (upd H l (.lst (xs++[y])))
theorem Bu:MtM X "list.append" OA:=by
 intro pins s σ H x vs v us Q I rx rv h;obtain⟨l,xs,y,rfl,rfl,hH,hz,q⟩:=h;cases rx;obtain⟨u,rfl,ru⟩:=rv.one;obtain⟨z,bB,n,r,hl,e⟩:=I.QP hH;refine Ac F.slot_list_append ⟨_,e,rfl⟩ F.entry_list_append (F.args_list_append_2 _ _) (PySem.list_append l bB.toArray n u (by rw [a8]; lia)) ⟨e,?_⟩;refine⟨.dQ,_,I.QQ (its':=bB++[u]) hH e (by simp) (r.append (.cons ru .nil)) ?_,rfl,q⟩;rw [aI,hV];lia
end
section
variable {κ:Type} [DecidableEq κ]
noncomputable def lR(bu:List (κ×V))(k:κ):Option V:=(bu.find? fun kv=>decide (kv.1=k)).map (·.2)
noncomputable def putK(bu:List (κ×V))(k:κ)(v:V):List (κ×V) :=
 if (bu.any fun kv=>decide (kv.1=k))=true then bu.map (fun kv=>if kv.1=k then (kv.1,v) else kv) else bu++[(k,v)]
theorem qu{p:κ×V}{r:List (κ×V)}{k:κ}(e:p.1=k):lR (p :: r) k=some p.2:=by simp [lR,fH,e]
theorem qw{p:κ×V}{r:List (κ×V)}{k:κ}(e:¬ p.1=k):lR (p :: r) k=lR r k:=by simp [lR,fH,e]
theorem Eb(k:κ):∀ bu:List (κ×V),(bu.any fun kv=>decide (kv.1=k))=(lR bu k).isSome
 | []=>rfl
 | p :: r=>by
  rw [og];by_cases e:p.1=k
  ·simp only [qu e,decide_eq_true e,Bool.true_or,Option.isSome_some]
  ·rw [qw e,decide_eq_false e,Aj]; exact Eb k r
theorem xg(bu:List (κ×V))(k:κ)(v:V):(putK bu k v).length<=bu.length+1:=by
 unfold putK;split
 ·rw [av]; lia
 ·rw [aI,ag,aw]; lia
theorem sE.oK{o:Option V}{u:Option Value}(r:sE o u):o.isSome=u.isSome:=by
 cases o with
 | none=>cases u with
  | none=>rfl
  | some _=>exact(show False from r).elim
 | some _=>cases u with
  | none=>exact(show False from r).elim
  | some _=>rfl
theorem KV.val{bu:List (κ×V)}{vs:List (κ×Value)}(r:KV bu vs)(k:κ):sE (lR bu k) (K6 vs k):=by
 unfold KV at r;induction r with
 | nil=>exact ja
 | @cons p q ps qs h t ih =>
  obtain⟨h1,h2⟩:=h;by_cases e:p.1=k
  ·have e':q.1=k:=h1.symm.trans e;have b:K6 (q :: qs) k=some q.2:=by simp [K6,fH,e']
   rw [qu e,b]; exact h2
  ·have e':¬ q.1=k:=fun z=>e (h1.trans z);have b:K6 (q :: qs) k=K6 qs k:=by simp [K6,fH,e']
   rw [qw e,b]; exact ih
theorem KV.any{bu:List (κ×V)}{vs:List (κ×Value)}(r:KV bu vs)(k:κ):(bu.any fun kv=>decide (kv.1=k))=vs.any fun kv=>decide (kv.1=k):=by
 unfold KV at r;induction r with
 | nil=>rfl
 | cons h t ih=>rw [og,og,ih,h.1]
theorem KV.Qo{bu:List (κ×V)}{vs:List (κ×Value)}(r:KV bu vs)(k:κ){y:V}{u:Value}(ry:RelV y u) :
  KV (bu.map fun kv=>if kv.1=k then (kv.1,y) else kv) (vs.map fun kv=>if kv.1=k then (kv.1,u) else kv):=by
 unfold KV at r ⊢;induction r with
 | nil=>exact .nil
 | @cons p q ps qs h t ih =>
  rw [au,au];refine .cons ?_ ih;obtain⟨h1,h2⟩:=h;by_cases e:p.1=k
  ·rw [if_pos e,if_pos (h1.symm.trans e)]; exact⟨h1,ry⟩
  ·rw [if_neg e,if_neg (fun z=>e (h1.trans z))]; exact⟨h1,h2⟩
theorem KV.put{bu:List (κ×V)}{vs:List (κ×Value)}(r:KV bu vs)(k:κ){y:V}{u:Value}(ry:RelV y u):KV (putK bu k y) (stored vs k u):=by
 unfold putK stored;rw [r.any k];by_cases e:(vs.any fun kv=>decide (kv.1=k))=true
 ·rw [if_pos e,if_pos e]; exact r.Qo k ry
 ·rw [if_neg e,if_neg e]; exact Paired.snoc r ⟨rfl,ry⟩
theorem KV.length{bu:List (κ×V)}{vs:List (κ×Value)}(r:KV bu vs):bu.length=vs.length:=xR r
end
theorem EW{P:bO}{w:World}{k:Key}{u:Value}(r:RelV (kV k) u):(gP P w).is k u=true:=by
 cases k with
 | inl i=>obtain⟨t,e⟩:=(show ∃ t,u=Ld i t from r); subst e; exact EK P w i t
 | inr x=>obtain⟨t,e⟩:=(show ∃ t,u=Lc x t from r); subst e; exact EJ P w x t
theorem BB{P:bO}{w:World}:∀ {ks:List Key} {us:List Value},Vals (ks.map kV) us->ItemsAre (gP P w) ks us
 | [],_,r=>by rw [aO] at r; cases r; exact .nil
 | k :: ks,_,r=>by
  rw [au] at r;cases r with
  | cons h t=>exact .cons (EW h) (BB t)
noncomputable abbrev KT(H:Hp):List (List Key×V)->List (List Key×Addr×Value)->Prop:=Paired fun p q=>p.1=q.1/\H q.2.1=some (.tup (p.1.map kV))/\RelV p.2 q.2.2
theorem KT.val{H:Hp}{bu:List (List Key×V)}{xs:List (List Key×Addr×Value)}(r:KT H bu xs)(k:List Key):sE (lR bu k) ((atKey xs k).map (·.2)):=by
 induction r with
 | nil=>exact ja
 | @cons p q ps qs h t ih =>
  obtain⟨h1,_,h2⟩:=h;by_cases e:p.1=k
  ·have e':q.1=k:=h1.symm.trans e;have b:atKey (q :: qs) k=some q.2:=by simp [atKey,fH,e']
   rw [qu e,b]; exact h2
  ·have e':¬ q.1=k:=fun z=>e (h1.trans z);have b:atKey (q :: qs) k=atKey qs k:=by simp [atKey,fH,e']
   rw [qw e,b]; exact ih
theorem KT.Qo{H:Hp}{bu:List (List Key×V)}{xs:List (List Key×Addr×Value)}(r:KT H bu xs)(k:List Key){y:V}{u:Value}(ry:RelV y u) :
  KT H (bu.map fun kv=>if kv.1=k then (kv.1,y) else kv) (xs.map (putAt k u)):=by
 induction r with
 | nil=>exact .nil
 | @cons p q ps qs h t ih =>
  rw [au,au];refine .cons ?_ ih;obtain⟨h1,h2,h3⟩:=h;unfold putAt;by_cases e:p.1=k
  ·rw [if_pos e,if_pos (h1.symm.trans e)]; exact⟨h1,h2,ry⟩
  ·rw [if_neg e,if_neg (fun z=>e (h1.trans z))]; exact⟨h1,h2,h3⟩
theorem KT.put{H:Hp}{bu:List (List Key×V)}{xs:List (List Key×Addr×Value)}(r:KT H bu xs)(k:List Key){b:Addr}{y:V}{u:Value}(hb:H b=some (.tup (k.map kV)))(ry:RelV y u) :
  KT H (putK bu k y) (storedH xs k b u):=by
 have e:(bu.any fun kv=>decide (kv.1=k))=(atKey xs k).isSome:=by
  rw [Eb,(r.val k).oK,Af]
 unfold putK storedH;rw [e];by_cases q:(atKey xs k).isSome=true
 ·rw [if_pos q,if_pos q]; exact r.Qo k ry
 ·rw [if_neg q,if_neg q]; exact Paired.snoc r ⟨rfl,hb,ry⟩
theorem KT.keeps{H H':Hp}{bu:List (List Key×V)}{xs:List (List Key×Addr×Value)}(r:KT H bu xs)(ht:∀ b ys,H b=some (.tup ys)->H' b=some (.tup ys)):KT H' bu xs :=
 Paired.Tn r fun _ _ z=>⟨z.1,ht _ _ z.2.1,z.2.2⟩
section
variable {P:bO} {w:World} {H:Hp} {h:Heap} {a:Addr}
theorem Pw{u:HO}(ok:tU P w H h)(e:Rd H a u):iC P w H h a u:=e.ok ok
theorem xk{bu:List (Key×V)}(ok:tU P w H h)(e:Rd H a (.dK bu)):bu.length<=bh/\(a == lJ)=false/\∃ vs,KV bu vs/\h.DictOf (gP P w) a vs :=
 show iC P w H h a (.dK bu) from Pw ok e
theorem Jg{bu:List (Key×V)}(ok:tU P w H h)(e:H a=some (.dK bu)):bu.length<=bh/\(a == lJ)=false/\∃ vs,KV bu vs/\h.DictOf (gP P w) a vs:=xk ok (.inl e)
theorem zd{ks:List Key}(ok:tU P w H h)(e:H a=some (.tup (ks.map kV))):(K7 (gP P w)).is h ks a:=by
 obtain⟨_,bB,r,o,h1,h2,n,h3⟩:=(show iC P w H h a (.tup (ks.map kV)) from ok a _ e);exact⟨o,bB.toArray,n,h1,h2,h3,by simpa using BB r⟩
theorem BM{bu:List (List Key×V)}(ok:tU P w H h)(e:Rd H a (.dT bu)):bu.length<=bh/\(a == lJ)=false /\
  ∃ xs,KT H bu xs/\h.DictOfH (K7 (gP P w)) a xs:=by
 obtain⟨z,y,xs,r,o,es,ep,h1,h2,h3,h4,h5⟩:=(show iC P w H h a (.dT bu) from Pw ok e);refine⟨z,y,xs,r,o,es,ep,h1,h2,h3,h4,fun x hx=>?_,h5⟩;have all:∀ {l:List (List Key×V)} {m:List (List Key×Addr×Value)},KT H l m->∀ x∈m,(K7 (gP P w)).is h x.1 x.2.1:=by
  intro l m q;induction q with
  | nil=>intro x hx; exact nomatch hx
  | @cons p q ps qs hq t ih =>
   intro x hx;rcases List.mem_cons.mp hx with e | hx
   ·subst e;exact zd ok (by rw [<-hq.1]; exact hq.2.1)
   ·exact ih x hx
 exact all r x hx
theorem PR{bu:List (List Key×V)}(ok:tU P w H h)(e:H a=some (.dT bu)):bu.length<=bh/\(a == lJ)=false /\
  ∃ xs,KT H bu xs/\h.DictOfH (K7 (gP P w)) a xs:=BM ok (.inl e)
end
noncomputable def zZ(H:Hp)(a:Addr)(y:V)(r:Option V):Prop :=
 (∃ bu k,Rd H a (.dK bu)/\y=kV k/\r=lR bu k)\/∃ bu k b,Rd H a (.dT bu)/\y=.ref b/\H b=some (.tup (k.map kV))/\r=lR bu k
noncomputable def KO(H:Hp)(a:Addr)(y v:V)(H':Hp):Prop :=
 (∃ bu k,H a=some (.dK bu)/\y=kV k/\bu.length < bh/\H'=upd H a (.dK (putK bu k v))) \/
 ∃ bu k b,H a=some (.dT bu)/\y=.ref b/\H b=some (.tup (k.map kV))/\bu.length < bh/\H'=upd H a (.dT (putK bu k v))
theorem zZ.k{H:Hp}{a:Addr}{bu:List (Key×V)}{k:Key}(e:H a=some (.dK bu)):zZ H a (kV k) (lR bu k):=.inl ⟨bu,k,.inl e,rfl,rfl⟩
theorem zZ.t{H:Hp}{a b:Addr}{bu:List (List Key×V)}{k:List Key}(e:H a=some (.dT bu))(eb:H b=some (.tup (k.map kV))):zZ H a (.ref b) (lR bu k):=.inr ⟨bu,k,b,.inl e,rfl,eb,rfl⟩
theorem KO.k{H:Hp}{a:Addr}{bu:List (Key×V)}{k:Key}{v:V}(e:H a=some (.dK bu))(hl:bu.length < bh):KO H a (kV k) v (upd H a (.dK (putK bu k v))):=.inl ⟨bu,k,e,rfl,hl,rfl⟩
theorem KO.t{H:Hp}{a b:Addr}{bu:List (List Key×V)}{k:List Key}{v:V}(e:H a=some (.dT bu))(eb:H b=some (.tup (k.map kV)))(hl:bu.length < bh) :
  KO H a (.ref b) v (upd H a (.dT (putK bu k v))):=.inr ⟨bu,k,b,e,rfl,eb,hl,rfl⟩
section
variable {X:Cx} {pins:List (Addr×Obj)} {σ:St} {H:Hp} {s:aB} {a:Addr} {y v:V} {u r:Value} {o:Option V} {A:dU} {E:Value->aB->Prop}
theorem Inv.big(I:Inv X pins σ H s):lJ < s.heap.objs.size:=by
 have h:bo < s.heap.objs.size:=(I.mod.glob.keeps I.bk).lt;exact Nat.lt_trans (by decide) h
theorem wu{Q:Value->aB->Prop}(hu:A.units+1 < cLine)(I:Inv X pins σ H s)(g:zZ H a y (some v))(ry:RelV y u)(h:∀ w' s',Inv X pins σ H s'->RelV v w'->Q w' s') :
  wpAny (model X.prog X.w) A (getItem (.ref a) u) Q E s:=by
 rcases g with ⟨bu,k,e,ey,l⟩ | ⟨bu,k,b,e,ey,eb,l⟩
 ·subst ey;obtain⟨z,hd,vs,rel,dd⟩:=xk I.eV e;obtain⟨w',hw,oh⟩:=sE.some_of (v:=v) (o:=K6 vs k) (by rw [l]; exact rel.val k);exact wpAny_getItem_of (EW ry) dd.mapOf hw (h w' _ (I.tok _) oh)
 ·subst ey;cases (show u=jZ b from ry);obtain⟨z,hd,xs,rel,dd⟩:=BM I.eV e;obtain⟨w',hw,oh⟩:=sE.some_of (v:=v) (o:=(atKey xs k).map (·.2)) (by rw [l]; exact rel.val k);obtain⟨p,hp,sx⟩:=Option.map_eq_some_iff.mp hw;refine wpAny_getItem_heap (sF hu) (zd I.eV eb) dd hp ?_;rw [sx];exact h w' _ (I.tok _) oh
theorem Uk{Q:Value->aB->Prop}(hu:A.units+1 < cLine)(I:Inv X pins σ H s)(g:zZ H a y o)(ry:RelV y u)(h:∀ s',Inv X pins σ H s'->Q (.bool o.isSome) s') :
  wpAny (model X.prog X.w) A (fE .In u (.ref a)) Q E s:=by
 rcases g with ⟨bu,k,e,ey,l⟩ | ⟨bu,k,b,e,ey,eb,l⟩
 ·subst ey;obtain⟨z,hd,vs,rel,dd⟩:=xk I.eV e;refine wpAny_in_of (EW ry) hd dd.mapOf ?_;rw [<-(rel.val k).oK,<-l];exact h _ (I.tok _)
 ·subst ey;cases (show u=jZ b from ry);obtain⟨z,hd,xs,rel,dd⟩:=BM I.eV e;refine wpAny_in_heap (sF hu) (zd I.eV eb) hd dd ?_;have q:=(rel.val k).oK;rw [Af] at q;rw [<-q,<-l];exact h _ (I.tok _)
theorem Jl{Q:Value->aB->Prop}(hu:A.units+1 < cLine)(I:Inv X pins σ H s)(g:zZ H a y o)(ry:RelV y u)(h:∀ s',Inv X pins σ H s'->Q (.bool (!o.isSome)) s') :
  wpAny (model X.prog X.w) A (fE .NotIn u (.ref a)) Q E s:=by
 rcases g with ⟨bu,k,e,ey,l⟩ | ⟨bu,k,b,e,ey,eb,l⟩
 ·subst ey;obtain⟨z,hd,vs,rel,dd⟩:=xk I.eV e;refine wpAny_notIn_of (EW ry) hd dd.mapOf ?_;rw [<-(rel.val k).oK,<-l];exact h _ (I.tok _)
 ·subst ey;cases (show u=jZ b from ry);obtain⟨z,hd,xs,rel,dd⟩:=BM I.eV e;refine wpAny_notIn_heap (sF hu) (zd I.eV eb) hd dd ?_;have q:=(rel.val k).oK;rw [Af] at q;rw [<-q,<-l];exact h _ (I.tok _)
theorem Jk{h':Heap}{t':Nat}{ob:HO}(I:Inv X pins σ H s)(mu:UA (H a))(hs:B4 a s.heap h')(he:∃ q,h'.get? a=some q)(new:iC X.prog X.w (upd H a ob) h' a ob) :
  Inv X pins σ (upd H a ob) { s with heap:=h',toks:=t' } :=
 I.write (x:=a) (e:=a) mu (.inl rfl) (fun b q hb z=>(hs.2 b hb).trans z) he new
theorem Rx{P:bO}{w:World}{H':Hp}{h':Heap}{bu:List (Key×V)}{vs:List (Key×Value)}(z:bu.length<=bh)(hd:(a == lJ)=false)(rel:KV bu vs)(dd:h'.DictOf (gP P w) a vs) :
  iC P w H' h' a (.dK bu):=⟨z,hd,vs,rel,dd⟩
theorem Kw{H':Hp}{Q:Unit->aB->Prop}(hu:A.units+1 < cLine)(I:Inv X pins σ H s)(g:KO H a y v H')(ry:RelV y u)(rv:RelV v r)(h:∀ s',Inv X pins σ H' s'->Q () s') :
  wpAny (model X.prog X.w) A (setItem (.ref a) u r) Q E s:=by
 rcases g with ⟨bu,k,e,ey,l,eH⟩ | ⟨bu,k,b,e,ey,eb,l,eH⟩
 ·subst ey eH;obtain⟨z,hd,vs,rel,dd⟩:=Jg I.eV e;have hz:vs.length<=bh:=by rw [<-rel.length]; exact z
  have hl:(putK bu k v).length<=bh:=by have:=xg bu k v; lia
  refine wpAny_setItem_pairs (hsz:=hz) (EW ry) dd fun h' U9 hs=>h _ ?_;have he:∃ q,h'.get? a=some q:=let ⟨q,_,_,hq,_⟩:=U9; ⟨q,hq⟩
  exact Jk I (by rw [e]; exact ja) hs he (Rx hl hd (rel.put k rv) U9)
 ·subst ey eH;cases (show u=jZ b from ry);obtain⟨z,hd,xs,rel,dd⟩:=PR I.eV e;have hz:xs.length<=bh:=by rw [<-xR rel]; exact z
  have hl:(putK bu k v).length<=bh:=by have:=xg bu k v; lia
  refine wpAny_setItem_heap (hsz:=hz) (sF hu) (zd I.eV eb) dd fun h' U9 hs=>h _ ?_;obtain⟨q,es,ep,hq,h2,h3,h4,_,h5⟩:=U9;refine Jk I (by rw [e]; exact ja) hs ⟨q,hq⟩ ⟨hl,hd,_,(rel.put k eb rv).keeps fun c ys ec=>?_,q,es,ep,hq,h2,h3,h4,h5⟩;rw [bZ (Th ec e (fun z=>nomatch z))];exact ec
end
section
variable {X:Cx} {pins:List (Addr×Obj)} {σ:St} {H:Hp} {s:aB} {a:Addr} {bu:List (Key×V)} {k:Key} {u:Value} {A:dU} {E:Value->aB->Prop}
theorem PT {Q:Value->aB->Prop} (I:Inv X pins σ H s) (e:Rd H a (.dK bu)) (h:∀ t s',Inv X pins σ H s'->Q (.int bu.length t) s'):wpAny (model X.prog X.w) A (call (.builtin "len") [.ref a]) Q E s:=by
 obtain⟨z,hd,vs,rel,dd⟩:=xk I.eV e;refine call_len_dict hd dd (by rw [<-rel.length]; rw [c6] at z; lia) ?_;rw [<-rel.length];exact h _ _ (I.tok _)
theorem O5{Q:Bool->aB->Prop}(I:Inv X pins σ H s)(e:Rd H a (.dK bu))(h:∀ s',Inv X pins σ H s'->Q (!bu.isEmpty) s'):wpAny (model X.prog X.w) A (truthy (.ref a)) Q E s:=by
 obtain⟨z,hd,vs,rel,dd⟩:=xk I.eV e;refine FY hd dd (by rw [<-rel.length]; rw [c6] at z; lia) ?_;have q:bu.isEmpty=vs.isEmpty:=by cases rel <;> rfl
 rw [<-q];exact h _ (I.tok _)
end
theorem rj {X:Cx} {pins:List (Addr×Obj)} {σ:St} {H:Hp} {s:aB} {a:Addr} {y:V} {o:Option V} (I:Inv X pins σ H s) (g:zZ H a y o):s.TypeIs (.ref a) "dict":=by
 rcases g with ⟨bu,k,e,_,_⟩ | ⟨bu,k,b,e,_,_,_⟩
 ·obtain⟨_,_,vs,_,dd⟩:=xk I.eV e;exact dd.typeIs
 ·obtain⟨_,_,xs,_,dd⟩:=BM I.eV e;exact dd.typeIs
theorem M7 {P:bO} {w:World} {H:Hp} (h:Heap) (hb:lJ < h.objs.size):iC P w H (h.push { cls:=.type "dict",data:=.dict #[] }) h.objs.size (.dK []) :=
 ⟨cI _,beq_eq_false_iff_ne.mpr (fD (bM hb)),[],.nil,Heap.DictOf.new h⟩
noncomputable def Qd:TE:=fun _ H Q=>∀ p,H p=none->Q (.ref p) (upd H p (.dK []))
section
variable {X:Cx} {pos:Pos}
theorem L7:PE X (.Dict [] [] pos) Qd:=fun pins s σ H Q I h =>
 wpAny_Dict_empty ⟨.ref s.heap.objs.size,_,I.laid (a:=s.heap.objs.size) (o:=.dK []) (t':=s.toks) (fun _ _ q=>a0 _ q) (aQ _) (M7 s.heap I.big),rfl,h _ (I.eV.fresh (aQ _))⟩
end
structure M1(X:Cx)(o:Expr)(m:Str)(apos:Pos)(e:Expr)(nV:Pos):Prop where
 base:vL o m X.env (eval o X.env)=eval o X.env
 xH:((mf nV (bY [e] X.env)).all (fun x=>!x.1)&&(backToKw nV (BZ [] X.env)).all (fun x=>x.1.isSome)
  && decide (([e]:List Expr).length+([]:List Ll).length+(if ([]:List Ll).isEmpty then 0 else 1) < 30))=true
 line:(apos.endLine == nV.line)=true
 trees:mf nV (bY [e] X.env)=[(false,eval e X.env)]
structure M2(X:Cx)(o:Expr)(m:Str)(apos:Pos)(e f:Expr)(nV:Pos):Prop where
 base:vL o m X.env (eval o X.env)=eval o X.env
 xH:((mf nV (bY [e,f] X.env)).all (fun x=>!x.1)&&(backToKw nV (BZ [] X.env)).all (fun x=>x.1.isSome)
  && decide (([e,f]:List Expr).length+([]:List Ll).length+(if ([]:List Ll).isEmpty then 0 else 1) < 30))=true
 line:(apos.endLine == nV.line)=true
 trees:mf nV (bY [e,f] X.env)=[(false,eval e X.env),(false,eval f X.env)]
end L2
namespace ZL
open PySem PySem.W PySem.Calls PyProof.Rows
theorem xC{P:sG}{h:Heap}:∀ (ns:List Int) (vs:List Value),WellAll P h vs (ns.map WData.int)->mh vs ns:=by
 intro ns;induction ns with
 | nil =>
  intro vs w;rw [aO] at w;cases w;exact .nil
 | cons n ns ih =>
  intro vs w;rw [au] at w;cases w with
  | cons a b =>
   cases a;exact .cons _ _ (ih _ b)
theorem JJ{l:OpenLaw}{n:Nat}(hn:l.most=some n){P:sG}{h:Heap}{args:List WData}{vals:List Value}
  (Kf:l.row.toRowW.claim.pre args=true) (WT:WellAll P h vals args) :
  ∃ a vs ns,vals=[jZ a]/\args=[WData.list (ns.map WData.int)]/\h.get? a=some { cls:=.type "list",data:=.seq vs.toArray }/\mh vs ns/\ns.length<=n:=by
 have hsh:WShape.hasAll [] args [.list .int]=true:=(pre_splitW Kf).1;have hc:l.pre.holds [] { args:=args } = true:=(pre_splitW Kf).2;obtain⟨d,r,rfl,h1,h2⟩:=hasAllW_cons hsh;obtain rfl:=hasAllW_nil h2;obtain⟨xs,rfl,h3⟩:=hasW_list h1;obtain⟨ns,rfl⟩:=items_int h3;have hlen:ns.length<=n:=by
  unfold OpenLaw.pre at hc;have h4:(WTm.not (.lt (.lit (.int (n:Int))) (.len (.arg 0)))).holds [] { args:=[.list (ns.map .int)] } = true:=by
   have h4:=(holds_andW hc).1;rw [hn] at h4;exact h4
  have h5:=condW_of h4 (w_not (w_lt w_lit (w_len_list (w_arg rfl))));rw [av] at h5;refine Nat.le_of_not_lt fun q=>?_;have q':(n:Int) < ((ns.length:Nat):Int):=by lia
  first
   | (rw [decide_eq_true q'] at h5; exact absurd h5 (by decide))
   | (simp at h5; lia)
 cases WT with
 | cons w1 w2 =>
  cases w2;cases w1 with
  | list ho MN=>exact⟨_,_,ns,rfl,rfl,ho,xC ns _ MN,hlen⟩
theorem JR(l:OpenLaw)(args:List WData):l.row.toRowW.claim.post args (.bool true) args=true :=
 postW_of (r:=l.row.toRowW) (X:=(true == true))
  (show WShape.has [] (.bool true) .bool=true by first | rfl | decide | simp [WShape.has,WShape.arms,WShape.armsAll])
  (show (WTm.eq .res (.lit (.bool true))).value [] { args:=args,res:=some (.bool true),after:=args } = some (.bool (true == true)) from w_eq_bool (w_res rfl) w_lit) rfl
theorem FF{l:OpenLaw}{n:Nat}{q:bO}{loose:List Str}{XP:(Str->Option Value)->Heap->Prop}{YP:World->Heap->Prop}{d:DefRec}
  (hn:l.most=some n) (TY:d.params.defaults=[])
  (call:∀ (w:World) (mM fJ:aB) (mg mb:Str->Option Value) (fa:Addr) (o:Obj) (pm cd doc:Value) (a:Addr) (vs:List Value) (ns:List Int),
   Ground q loose [] XP w mM mg mb fJ.heap->YP w fJ.heap ->
   fJ.heap.get? fa=some o->o.data=.func (docDef d.name d.params d.body d.scope pm cd doc)->fJ.heap.CodeRec cd d.name->mg d.name=some (.ref fa) ->
   fJ.heap.get? a=some { cls:=.type "list",data:=.seq vs.toArray }->mh vs ns->ns.length<=n->fJ.gens=#[] ->
   vK (model l.prog w) Gb (.call (.ref fa) ⟨[.ref a],[]⟩) (fun r s'=>r=.ok (.ret (.bool true))/\OldK fJ.heap s'.heap/\s'.os=fJ.os/\B6 s'.gens) fJ) :
  WalkO q loose XP YP l.row.toRowW d [] (fun f vs=>Ib f vs):=by
 intro w mM fJ mg mb G Y fa o pm cd doc dV kV ho hd Ja hD TJ hg args vals as Kf aa9 hrd WT hlo;obtain rfl:dV=.none:=Dflts.none hD TY;obtain rfl:kV=.none:=Dflts.noKw hD;obtain⟨a,vs,ns,rfl,rfl,Q7,hints,hlen⟩:=JJ hn Kf WT;refine enter_call (H0 (call w mM fJ mg mb fa o pm cd doc a vs ns G Y ho (fd_plain hd) Ja TJ Q7 hints hlen hg) fun r s' hq=>?_);obtain⟨rfl,h2,h3,h4⟩:=hq;exact⟨.inl ⟨.bool true,.bool true,[],rfl,fun _=>rfl,.bool true,JR l _,fun _=>⟨List.Pairwise.nil,fun _ hm=>(nomatch hm)⟩⟩,h2,h3,h4⟩
end ZL
namespace L2
open PySem PySem.Spec PyProof.Rows
theorem Bh:∀ {vs:List Value} {ns:List Int},mh vs ns->Vals (ns.map V.int) vs
 | _,_,.nil=>.nil
 | _,_,.cons n t h=>.cons ⟨t,rfl⟩ (Bh h)
noncomputable def Pg(H:Hp):Prop:=∀ b,H b=none\/∃ o xs,H b=some (.pX o (.lst xs))
theorem Mm{P:bO}{w:World}{K:ao}{mg mb:Str->Option Value}{CX:Jw}{k:Nat}{fa a:Addr}{fd:ax}{x:Str}{sp:Sp}{fJ:aB}{vs:List Value}{ns:List Int}
  (KX:K.In fJ.heap) (AH:fJ.heap.Ns bo mg) (hb:fJ.heap.Ns builtinsNs mb) (hbb:∀ x:Str,x≠"__name__"->mb x=dR x) (Xe:fJ.heap.NoLimit) (hg:fJ.gens=#[])
  (ha:fJ.heap.get? a=some { cls:=.type "list",data:=.seq vs.toArray }) (hi:mh vs ns) (hl:ns.length<=bh) (hr:jT k Gb)
  (F:∀ base:Heap,K.In base->base.Ns bo mg->dP P w K mg base CX k fa fd [x] sp) (T4:∀ (s:aB) (u:Value),Lm s fd ⟨[u],[]⟩ [(x,u)])
  (Hi:∀ H:Hp,Pg H->oZ K H a (ns.map V.int)->sp [.ref a] H (fun v _=>v=.bl true) fun _ _ _=>False)
  (XB:∀ H e s',CX [] H fJ (fun _ _ _=>False) e s'->False) :
  vK (model P w) Gb (.call (.ref fa) ⟨[.ref a],[]⟩) (fun r s'=>r=.ok (.ret (.bool true))/\OldK fJ.heap s'.heap/\s'.os=fJ.os/\B6 s'.gens) fJ:=by
 have rv:=Bh hi;have WD:=hi.length;have core:∀ H:Hp,Pg H->oZ K H a (ns.map V.int)->tU P w H fJ.heap->(∀ b,H b≠none->b=a)->(H a≠none->K.lookup a=none) ->
   vK (model P w) Gb (.call (.ref fa) ⟨[.ref a],[]⟩) (fun r s'=>r=.ok (.ret (.bool true))/\OldK fJ.heap s'.heap/\s'.os=fJ.os/\B6 s'.gens) fJ:=by
  intro H hO hS eV hA hK;have Jq:∀ {b:Addr} {o:Obj},fJ.heap.get? b=some o->H b=none->(C0 fJ.heap H).get? b=some o:=fun e n=>MH e n;have Tg:∀ {b:Addr} {o:Obj} {es:Array DictEntry} {ep:Nat},fJ.heap.get? b=some o->o.data=.dict es ep->H b=none:=fun {b o es ep} e d=>by
   cases q:H b with
   | none=>rfl
   | some u =>
    have e':b=a:=hA b (by rw [q]; simp);subst e';rw [ha] at e; cases e;have d':Data.seq vs.toArray _=Data.dict es ep:=d;cases d'
  have UT:∀ {b:Addr} {m:Str->Option Value},fJ.heap.Ns b m->(C0 fJ.heap H).Ns b m:=fun {b m} ⟨o,es,ep,e,d,r⟩=>⟨o,es,ep,Jq e (Tg e d),d,r⟩;have Za:K.In (C0 fJ.heap H):=fun b o e=>Jq (KX b o e) (by
   cases q:H b with
   | none=>rfl
   | some u =>
    have e':b=a:=hA b (by rw [q]; simp);subst e';rw [hK (by rw [q]; simp)] at e; cases e)
  have hM:Mod K mg (C0 fJ.heap H):=⟨Za,UT AH,⟨mb,UT hb,hbb⟩,let ⟨mc,h1,h2⟩:=Xe; ⟨mc,UT h1,h2⟩⟩;have e0:HY P w K mg (C0 fJ.heap H) Gb [] fJ H:=⟨rfl,hM,fun b o e=>OP e,Nat.le_of_eq (Kk _ _),trivial,fun b hb=>absurd (show b∈([]:List Addr) from hb) (by simp),eV,.of_eq hg⟩;refine H0 ((F _ Za (UT AH)).run Gb [] fJ H ⟨[.ref a],[]⟩ [.ref a] [.ref a] _ _ hr e0 (T4 fJ (.ref a)) (.cons rfl .nil) (Hi H hO hS)) fun r s' h=>?_;cases r with
  | error e=>exact(XB H e s' h).elim
  | ok fl =>
   cases fl with
   | next=>exact bN h
   | brk=>exact bN h
   | cont=>exact bN h
   | ret u =>
    obtain⟨v,H',os,bare,un,W5,r',q⟩:=h;have q':v=.bl true:=q;subst q';obtain rfl:u=Ia true:=r';refine⟨rfl,OldK.of_keep fun b o e=>?_,os,bare⟩;cases q:H b with
    | none=>exact un.keep b o e q (by intro z; exact absurd (show b∈([]:List Addr) from z) (by simp)) (by simp)
    | some u =>
     rcases hO b with z | ⟨ob,xs,z⟩
     ·rw [q] at z; cases z
     ·have z2:=un.zj b ob _ z;obtain⟨e1,_⟩:=eV b _ z;obtain⟨e2,_⟩:=W5 b _ z2;rw [e] at e1; cases e1;exact e2
 cases hk:K.lookup a with
 | some o =>
  have e:=KX a o hk;rw [ha] at e;cases e;refine core (fun _=>none) (fun _=>.inl rfl) (.inr ⟨_,vs.toArray,_,hk,rfl,rfl,rfl,by rw [a8,WD]; exact hl,by simpa using rv⟩) (fun b u z=>by have z':(none:Option HO)=some u:=z; cases z') (fun b z=>absurd rfl z) fun z=>absurd rfl z
 | none =>
  refine core (fun b=>if b=a then some (.pX { cls:=.type "list",data:=.seq vs.toArray } (.lst (ns.map V.int))) else none) (fun b=>?_) (.inl (.inr ⟨{ cls:=.type "list",data:=.seq vs.toArray },if_pos rfl⟩)) (fun b u z=>?_) (fun b z=>?_) fun _=>hk
  ·by_cases hb:b=a
   ·exact .inr ⟨_,_,if_pos hb⟩
   ·exact .inl (if_neg hb)
  ·by_cases hb:b=a
   ·have z':=(if_pos hb).symm.trans z;cases z';subst hb;exact⟨ha,by rw [av]; exact hl,vs,_,rv,ha⟩
   ·have z':=(if_neg hb).symm.trans z;cases z'
  ·by_cases hb:b=a
   ·exact hb
   ·exact absurd (if_neg hb) z
theorem Of{l:B1}{n k:Nat}{q:bO}{loose:List Str}{XP:(Str->Option Value)->Heap->Prop}{YP:World->Heap->Prop}{d:DefRec}{K:sG->ao}{CX:World->Jw}{sp:World->Sp}{x:Str}
  (hn:l.most=some n) (U1:n<=bh) (TY:d.params.defaults=[]) (hr:jT k Gb)
  (hY:∀ (w:World) (h:Heap),YP w h->(K w.params).In h)
  (F:∀ (w:World) (mg:Str->Option Value) (fa:Addr) (h:Heap),(K w.params).In h->h.Ns bo mg->mg d.name=some (.ref fa) ->
   ∃ fd:ax,(∀ (s:aB) (u:Value),Lm s fd ⟨[u],[]⟩ [(x,u)]) /\
    ∀ base:Heap,(K w.params).In base->base.Ns bo mg->dP l.prog w (K w.params) mg base (CX w) k fa fd [x] (sp w))
  (Hi:∀ (w:World) (H:Hp) (a:Addr) (ns:List Int),ns.length<=n->Pg H->oZ (K w.params) H a (ns.map V.int)->sp w [.ref a] H (fun v _=>v=.bl true) fun _ _ _=>False)
  (XB:∀ (w:World) (H:Hp) (s:aB) (e:Value) (s':aB),CX w [] H s (fun _ _ _=>False) e s'->False) :
  PySem.W.WalkO q loose XP YP l.row.toRowW d [] (fun f vs=>Ib f vs):=by
 refine ZL.FF hn TY fun w mM fJ mg mb fa o pm cd doc a vs ns G Y ho hd Ja TJ Q7 hints hlen hg=>?_;have KX:=hY w _ Y;obtain⟨fd,hb,hF⟩:=F w mg fa _ KX G.T.g TJ;exact Mm KX G.T.g G.T.b G.T.builtins G.T.nolimit hg Q7 hints (eU hlen U1) hr hF hb (fun H hO hS=>Hi w H a ns hlen hO hS) fun H e s'=>XB w H fJ e s'
end L2
/- THE adL Ve (shape; LID,My.* are Yk):
   My.Adr: a structure of UH addresses ZX ZQ YK names (classes,R4); My.Txt K t: a structure (Prop) of UH equations over K;
   My.VH:{K} {implicit addresses ..} (e1:nsIn K bo "law" = some (some (.ref f))) (e2:K.lookup f=some ⟨oc,od,.func (fnOf "law" "law" params body scope dV kV doc pm an nk ct),sl⟩) (e3:codeIn K nk "law" = true) ..:∃ t,My.Txt K t
(UH tactic k_is has no namespace: write k_is) -/
namespace L2
open PySem PySem.Spec PyProof.Rows
noncomputable def jM(s:Stmt):Arguments:=match s with
 | .FunctionDef _ a _ _ _ _ _ _ _ _=>a
 | _=>{ posonlyargs:=[],args:=[],vararg:=none,kwonlyargs:=[],kw_defaults:=[],kwarg:=none,defaults:=[] }
noncomputable def ik(s:Stmt):List Stmt:=match s with
 | .FunctionDef _ _ b _ _ _ _ _ _ _=>b
 | _=>[]
noncomputable def aT(s:Stmt):Scope:=match s with
 | .FunctionDef _ _ _ _ _ _ sc _ _ _=>sc
 | _=>{ kind:=.function,names:=[],isGenerator:=false,isCoroutine:=false }
noncomputable abbrev eB:Jw:=fun _ _ _ _ _ _=>False
noncomputable abbrev E0:XK:=fun _ _ _=>False
theorem II{X:Cx}:Passes eB X E0:=fun _ _ _ _ _ _ _ h=>h.elim
structure kB(K:ao)(x qual:Str)(st:Stmt)(f:Addr)(fd:ax):Prop where
 ex:∃ (oc:Value) (od:Option Addr) (kV doc pm:Value) (an:Option Addr) (nk ct:Value) (JV:Array (Option Value)),
  fd=jr x qual (jM st) (ik st) (aT st) .none kV doc pm an nk ct/\K.lookup f=some ⟨oc,od,.func fd,JV⟩/\D4 K nk qual=true
 kp:fw K (.ref f)=true
section
variable {P:bO} {w:World} {K:ao} {mg:Str->Option Value} {base:Heap}
theorem kB.ok{x qual:Str}{st:Stmt}{f:Addr}{fd:ax}{N ps:List Str}{k:Nat}{sp:Sp}(F:kB K x qual st f fd)(S:bC N ps (aT st))(len:∀ vs H Q E,sp vs H Q E->vs.length=ps.length)
  (ML:∀ (nk:Value) (A:dU) (outer:List Env) (s:aB) (H:Hp) (vs:List V) (Q:VK) (E:XK),jT k (A.deeper (D3 qual (aT st) s.heap.objs.size f nk))->sp vs H Q E ->
   ∃ t,R7 (Fw eB P w K mg base N qual (aT st) f nk A outer s H E).RU (ik st) t/\t { nx:=fun _ H'=>Q .dQ H',rt:=Q } (start N vs) H):dP P w K mg base eB (k+1) f fd ps sp:=by
 obtain⟨oc,od,kV,doc,pm,an,nk,ct,JV,rfl,lk,Ja⟩:=F.ex;refine Ug lk Ja S len fun A outer s H vs Q E hr Hi=>?_;obtain⟨t,h,q⟩:=ML nk A outer s H vs Q E hr Hi;exact⟨t,h.RU,q⟩
theorem kB.binds{x qual:Str}{st:Stmt}{f:Addr}{fd:ax}{ps:List Str}(F:kB K x qual st f fd)
  (h:∀ (kV doc pm:Value) (an:Option Addr) (nk ct:Value) (us:List Value),us.length=ps.length->bindArgs (jr x qual (jM st) (ik st) (aT st) .none kV doc pm an nk ct) ⟨us,[]⟩=pure (ps.zip us)):Binds K fd ps []:=by
 obtain⟨oc,od,kV,doc,pm,an,nk,ct,JV,rfl,lk,Ja⟩:=F.ex;exact .all (h kV doc pm an nk ct)
theorem MT{x qual:Str}{st:Stmt}{f:Addr}{oc:Value}{od an:Option Addr}{JV:Array (Option Value)}{kV doc pm nk ct:Value}(l:K.lookup f=some ⟨oc,od,.func (jr x qual (jM st) (ik st) (aT st) .none kV doc pm an nk ct),JV⟩)
  (c:D4 K nk qual=true) (k:fw K (.ref f)=true):kB K x qual st f (jr x qual (jM st) (ik st) (aT st) .none kV doc pm an nk ct):=⟨⟨oc,od,kV,doc,pm,an,nk,ct,JV,rfl,l,c⟩,k⟩
end
end L2
set_option autoImplicit false
section
namespace K2
open PySem (Str)
inductive D where
 | dQ | bl (b:Bool) | int (i:Int) | str (x:Str) | tup (ds:List D) | eY (ds:List D) | wV (bu:List (D×D)) | ref (a:Nat) | exc (c:Str)
 deriving Inhabited
inductive GO where
 | lst (ds:List D)
 | mH (bu:List (D×D))
 | ins (c:Str) (fs:List (Str×D))
noncomputable abbrev Gp:=Nat->Option GO
noncomputable def cH(G:Gp)(a:Nat)(o:GO):Gp:=fun b=>if b=a then some o else G b
theorem aF{G:Gp}{a:Nat}{o:GO}:cH G a o a=some o:=by unfold cH; rw [if_pos rfl]
theorem ez{G:Gp}{a b:Nat}{o:GO}(h:b≠a):cH G a o b=G b:=by unfold cH; rw [if_neg h]
noncomputable abbrev SZ:Nat:=16777216
structure Ex where
 cls:Str
 abN:List (Str×D)
noncomputable abbrev lL:=Ex->Gp->Prop
noncomputable abbrev ib:=List (Option D)
noncomputable abbrev DK:=D->Gp->Prop
noncomputable abbrev gH:=lL->ib->Gp->DK->Prop
noncomputable abbrev xM:=lL->ib->Gp->(Bool->Gp->Prop)->Prop
noncomputable abbrev BX:=lL->ib->Gp->(List D->Gp->Prop)->Prop
structure kF where
 nx:ib->Gp->Prop
 rt:DK
 bk:ib->Gp->Prop
 ct:ib->Gp->Prop
noncomputable abbrev fY:=lL->kF->ib->Gp->Prop
noncomputable abbrev jk:=List D->Gp->DK->lL->Prop
noncomputable abbrev FI:=D->D->Gp->DK->Prop
noncomputable def Hd(n:Nat)(i:Int):Option Nat:=if 0<=i then (if i < n then some i.toNat else none) else if -(n:Int)<=i then some (i+n).toNat else none
noncomputable def oY{α:Type}(xs:List α)(i:Int):Option α:=(Hd xs.length i).bind fun j=>xs[j]?
noncomputable def jI(n d:Nat):Option Int->Nat
 | none=>d
 | some v=>if v < 0 then (v+(n:Int)).toNat else min v.toNat n
noncomputable def cut{α:Type}(xs:List α)(lo hi:Option Int):List α:=(xs.drop (jI xs.length 0 lo)).take (jI xs.length xs.length hi - jI xs.length 0 lo)
mutual
noncomputable def iQ:D->D->Bool
 | .dQ,.dQ=>true
 | .bl a,.bl b=>a == b
 | .bl a,.int b=>(if a then 1 else 0) == b
 | .int a,.bl b=>a == (if b then 1 else 0)
 | .int a,.int b=>a == b
 | .str a,.str b=>a == b
 | .tup a,.tup b=>kc a b
 | .eY a,.eY b=>kc a b
 | _,_=>false
noncomputable def kc:List D->List D->Bool
 | [],[]=>true
 | a :: r,b :: t=>iQ a b&&kc r t
 | _,_=>false
end
mutual
noncomputable def nr:D->Bool
 | .ref _=>false
 | .exc _=>false
 | .wV _=>false
 | .str x=>x.cps.all (· < 0x110000)
 | .tup ds=>pT ds
 | .eY ds=>pT ds
 | _=>true
noncomputable def pT:List D->Bool
 | []=>true
 | d :: r=>nr d&&pT r
end
class inductive Sn (G:Gp):Nat->D->D->Prop
 | dQ {n:Nat}:Sn G n .dQ .dQ
 | bl {n:Nat} (b:Bool):Sn G n (.bl b) (.bl b)
 | int {n:Nat} (i:Int):Sn G n (.int i) (.int i)
 | str {n:Nat} (x:Str) (h:x.cps.all (· < 0x110000)=true):Sn G n (.str x) (.str x)
 | Ed {n:Nat}:Sn G (n+1) (.tup []) (.tup [])
 | pN {n:Nat} {d s:D} {ds ss:List D}:Sn G n d s->Sn G (n+1) (.tup ds) (.tup ss)->Sn G (n+1) (.tup (d :: ds)) (.tup (s :: ss))
 | LR {n:Nat}:Sn G (n+1) (.eY []) (.eY [])
 | Et {n:Nat} {d s:D} {ds ss:List D}:Sn G n d s->Sn G (n+1) (.eY ds) (.eY ss)->Sn G (n+1) (.eY (d :: ds)) (.eY (s :: ss))
 | ref {n:Nat} {a:Nat} {ds ss:List D}:G a=some (.lst ds)->Sn G n (.eY ds) (.eY ss)->Sn G n (.ref a) (.eY ss)
noncomputable abbrev SN:Nat:=8
theorem Sn.nr{G:Gp}{n:Nat}{d t:D}(h:Sn G n d t):K2.nr t=true:=by
 induction h with
 | dQ=>rfl
 | bl b=>rfl
 | int i=>rfl
 | str x h=>exact h
 | Ed=>rfl
 | pN _ _ MA Mz =>
  show (K2.nr _&&K2.pT _)=true;rw [MA];exact Mz
 | LR=>rfl
 | Et _ _ MA Mz =>
  show (K2.nr _&&K2.pT _)=true;rw [MA];exact Mz
 | ref _ _ ih=>exact ih
noncomputable def fU:D->Bool
 | .int _=>true
 | .str _=>true
 | _=>false
noncomputable def JE:D->Gp->Option Bool
 | .dQ,_=>some false
 | .bl b,_=>some b
 | .int i,_=>some (i != 0)
 | .str x,_=>if x.length<=SZ then some ((x.length:Int) != 0) else none
 | .tup ds,_=>some (!ds.isEmpty)
 | .eY ds,_=>some (!ds.isEmpty)
 | .exc _,_=>none
 | .wV bu,_=>if (bu.all fun p=>fU p.1)=true then some (!bu.isEmpty) else none
 | .ref a,G=>match G a with
  | some (.lst ds)=>some (!ds.isEmpty)
  | some (.mH bu)=>if (bu.all fun p=>fU p.1)=true then some (!bu.isEmpty) else none
  | _=>none
noncomputable def ai(i:Nat):gH:=fun _ τ G Q=>match τ[i]? with
 | some (some d)=>Q d G
 | _=>False
noncomputable def dC(d:D):gH:=fun _ _ G Q=>Q d G
noncomputable def aH:BX:=fun _ _ G Q=>Q [] G
noncomputable def ak(a:gH)(r:BX):BX:=fun E τ G Q=>a E τ G fun x G1=>r E τ G1 fun xs G2=>Q (x :: xs) G2
noncomputable def fF(t:BX):gH:=fun E τ G Q=>t E τ G fun ds G1=>ds.length<=SZ/\Q (.tup ds) G1
noncomputable def fW(t:BX):gH:=fun E τ G Q=>t E τ G fun ds G1=>ds.length<=SZ/\∀ p,G1 p=none->Q (.ref p) (cH G1 p (.lst ds))
noncomputable def aP(r:FI)(a b:gH):gH:=fun E τ G Q=>a E τ G fun x G1=>b E τ G1 fun y G2=>r x y G2 Q
noncomputable def NT(r:D->Gp->DK->Prop)(a:gH):gH:=fun E τ G Q=>a E τ G fun x G1=>r x G1 Q
noncomputable def lr(G:Gp)(o:GO)(Q:DK):Prop:=∀ p,G p=none->Q (.ref p) (cH G p o)
noncomputable def MulOk(i j:Int):Prop:=(-(2 ^ 64) < i/\i < 2 ^ 64)\/(-(2 ^ 64) < j/\j < 2 ^ 64)
noncomputable def u0:D->Gp->Option (List D)
 | .eY ds,_=>some ds
 | .ref a,G=>match G a with
  | some (.lst ds)=>some ds
  | _=>none
 | _,_=>none
noncomputable def zP(x y:D)(G:Gp)(Q:DK):Prop:=match u0 x G,u0 y G with
 | some xs,some ys=>xs.length+ys.length<=SZ/\lr G (.lst (xs++ys)) Q
 | _,_=>False
noncomputable def kA:FI
 | .int i,.int j,G,Q=>Q (.int (i+j)) G
 | .str a,.str b,G,Q=>a.length+b.length<=SZ/\Q (.str (a++b)) G
 | .tup a,.tup b,G,Q=>a≠[]/\a.length+b.length<=SZ/\Q (.tup (a++b)) G
 | x,y,G,Q=>zP x y G Q
noncomputable def GD:FI
 | .int i,.int j,G,Q=>Q (.int (i - j)) G
 | _,_,_,_=>False
noncomputable def LZ:FI
 | .int i,.int j,G,Q=>MulOk i j/\Q (.int (i * j)) G
 | _,_,_,_=>False
noncomputable def tx:FI
 | .int i,.int j,G,Q=>0 < j/\Q (.int (i % j)) G
 | _,_,_,_=>False
noncomputable def Bq:FI
 | .int i,.int j,G,Q=>0 < j/\j < 2 ^ 30/\Q (.int (i / j)) G
 | _,_,_,_=>False
noncomputable def LY:D->Gp->DK->Prop
 | .int i,G,Q=>Q (.int (-i)) G
 | _,_,_=>False
noncomputable def oW(neg:Bool):FI:=fun x y G Q=>∃ a b,Sn G SN x a/\Sn G SN y b/\Q (.bl (if neg then !iQ a b else iQ a b)) G
noncomputable def lexLt:List Int->List Int->Bool
 | [],[]=>false
 | [],_ :: _=>true
 | _ :: _,[]=>false
 | x :: xs,y :: ys=>if x=y then lexLt xs ys else decide (x < y)
noncomputable def UN:FI
 | .int i,.int j,G,Q=>Q (.bl (decide (i < j))) G
 | .tup a,.tup b,G,Q=>∃ xs ys,a=xs.map D.int/\b=ys.map D.int/\Q (.bl (lexLt xs ys)) G
 | _,_,_,_=>False
noncomputable def rLe:FI
 | .int i,.int j,G,Q=>Q (.bl (decide (i<=j))) G
 | _,_,_,_=>False
noncomputable def V0:FI
 | .int i,.int j,G,Q=>Q (.bl (decide (i > j))) G
 | _,_,_,_=>False
noncomputable def rGe:FI
 | .int i,.int j,G,Q=>Q (.bl (decide (i>=j))) G
 | _,_,_,_=>False
noncomputable def itemsOf:D->Gp->Option (List D)
 | .tup ds,_=>some ds
 | .eY ds,_=>some ds
 | .ref a,G=>match G a with
  | some (.lst ds)=>some ds
  | _=>none
 | _,_=>none
noncomputable def tE:D->Bool
 | .tup ds=>ds.all fU
 | _=>false
noncomputable def i3(bu:List (D×D))(k:D):Bool:=(fU k&&bu.all fun p=>fU p.1)||(tE k&&bu.all fun p=>tE p.1)
noncomputable def look(bu:List (D×D))(k:D):Option D:=(bu.find? fun p=>iQ p.1 k).map (·.2)
noncomputable def put(bu:List (D×D))(k v:D):List (D×D) :=
 if (bu.any fun p=>iQ p.1 k)=true then bu.map (fun p=>if iQ p.1 k=true then (p.1,v) else p) else bu++[(k,v)]
noncomputable def Bp(neg:Bool):FI:=fun x y G Q=>match y with
 | .ref a=>(match G a with
  | some (.mH bu)=>i3 bu x=true/\Q (.bl (if neg then !(look bu x).isSome else (look bu x).isSome)) G
  | some (.lst ds)=>∃ s ss,Sn G SN x s/\Sn G SN (.eY ds) (.eY ss)/\Q (.bl (if neg then !ss.any (iQ · s) else ss.any (iQ · s))) G
  | _=>False)
 | .wV bu=>bu≠[]/\i3 bu x=true/\Q (.bl (if neg then !(look bu x).isSome else (look bu x).isSome)) G
 | .tup ds=>∃ s ss,Sn G SN x s/\Sn G SN (.eY ds) (.eY ss)/\Q (.bl (if neg then !ss.any (iQ · s) else ss.any (iQ · s))) G
 | .eY ds=>∃ s ss,Sn G SN x s/\Sn G SN (.eY ds) (.eY ss)/\Q (.bl (if neg then !ss.any (iQ · s) else ss.any (iQ · s))) G
 | _=>False
noncomputable def eW:FI
 | .tup ds,.int i,G,Q=>(match oY ds i with
  | some d=>Q d G
  | none=>False)
 | .eY ds,.int i,G,Q=>(match oY ds i with
  | some d=>Q d G
  | none=>False)
 | .wV bu,k,G,Q=>i3 bu k=true/\(match look bu k with
  | some d=>Q d G
  | none=>False)
 | .ref a,k,G,Q=>(match G a with
  | some (.lst ds)=>(match k with
   | .int i=>(match oY ds i with
    | some d=>Q d G
    | none=>False)
   | _=>False)
  | some (.mH bu)=>i3 bu k=true/\(match look bu k with
   | some d=>Q d G
   | none=>False)
  | _=>False)
 | _,_,_,_=>False
noncomputable abbrev Uz:=lL->ib->Gp->(Option Int->Gp->Prop)->Prop
noncomputable def eI:Uz:=fun _ _ G Q=>Q none G
noncomputable def mC(t:gH):Uz:=fun E τ G Q=>t E τ G fun x G1=>match x with
 | .int i=>Q (some i) G1
 | _=>False
noncomputable def LX:D->Option Int->Option Int->Gp->DK->Prop
 | .tup ds,lo,hi,G,Q=>¬ (jI ds.length 0 lo=0/\jI ds.length ds.length hi=ds.length)/\Q (.tup (cut ds lo hi)) G
 | .eY ds,lo,hi,G,Q=>lr G (.lst (cut ds lo hi)) Q
 | .ref a,lo,hi,G,Q=>(match G a with
  | some (.lst ds)=>lr G (.lst (cut ds lo hi)) Q
  | _=>False)
 | _,_,_,_,_=>False
noncomputable def yb(a:gH)(lo hi:Uz):gH:=fun E τ G Q=>a E τ G fun x G1=>lo E τ G1 fun l G2=>hi E τ G2 fun h G3=>LX x l h G3 Q
noncomputable def da(a:gH):xM:=fun E τ G Q=>a E τ G fun x G1=>match JE x G1 with
 | some b=>Q b G1
 | none=>False
noncomputable def Ry(a b:xM):xM:=fun E τ G Q=>a E τ G fun c G1=>if c=true then b E τ G1 Q else Q false G1
noncomputable def sC(a b:xM):xM:=fun E τ G Q=>a E τ G fun c G1=>if c=true then Q true G1 else b E τ G1 Q
noncomputable def e8(a:xM):xM:=fun E τ G Q=>a E τ G fun c G1=>Q (!c) G1
noncomputable def Fv(a b:gH):gH:=fun E τ G Q=>a E τ G fun x G1=>match JE x G1 with
 | some true=>b E τ G1 Q
 | some false=>Q x G1
 | none=>False
noncomputable def O6(a b:gH):gH:=fun E τ G Q=>a E τ G fun x G1=>match JE x G1 with
 | some true=>Q x G1
 | some false=>b E τ G1 Q
 | none=>False
noncomputable def Nd(a:gH):gH:=fun E τ G Q=>a E τ G fun x G1=>match JE x G1 with
 | some c=>Q (.bl (!c)) G1
 | none=>False
noncomputable def Zk(c:xM)(a b:gH):gH:=fun E τ G Q=>c E τ G fun k G1=>if k=true then a E τ G1 Q else b E τ G1 Q
noncomputable def bg(sp:jk)(t:BX):gH:=fun E τ G Q=>t E τ G fun ds G1=>sp ds G1 Q fun _ _=>False
noncomputable def jw(r:List D->Gp->DK->Prop)(t:BX):gH:=fun E τ G Q=>t E τ G fun ds G1=>r ds G1 Q
noncomputable def t9(x:D)(G:Gp):Prop:=match x with
 | .ref a=>(match G a with
  | some (.lst _)=>True
  | _=>False)
 | .eY _=>True
 | _=>False
noncomputable def ZW(x:D)(G:Gp):Prop:=match x with
 | .wV _=>True
 | .ref a=>(match G a with
  | some (.mH _)=>True
  | _=>False)
 | _=>False
noncomputable def ZV(x:D)(_:Gp):Prop:=match x with
 | .str _=>True
 | _=>False
noncomputable def p8(ty:D->Gp->Prop)(r:D->List D->Gp->DK->Prop)(o:gH)(t:BX):gH:=fun E τ G Q=>o E τ G fun x G1=>ty x G1/\t E τ G1 fun ds G2=>r x ds G2 Q
noncomputable def lenOf:D->Gp->Option Nat
 | .tup ds,_=>some ds.length
 | .eY ds,_=>some ds.length
 | .str x,_=>if x.length<=SZ then some x.length else none
 | .wV bu,_=>if (bu.all fun p=>fU p.1)=true then some bu.length else none
 | .ref a,G=>match G a with
  | some (.lst ds)=>some ds.length
  | some (.mH bu)=>if (bu.all fun p=>fU p.1)=true then some bu.length else none
  | _=>none
 | _,_=>none
noncomputable def iB(ds:List D)(G:Gp)(Q:DK):Prop:=match ds with
 | [x]=>(match lenOf x G with
  | some n=>Q (.int (n:Int)) G
  | none=>False)
 | _=>False
noncomputable def qa(ds:List D)(G:Gp)(Q:DK):Prop:=match ds with
 | [x]=>(match itemsOf x G with
  | some xs=>lr G (.lst xs) Q
  | none=>False)
 | _=>False
noncomputable def PG(C:String):D->Gp->Option Bool
 | .dQ,_=>some false
 | .bl _,_=>some (C == "bool" || C == "int")
 | .int _,_=>some (C == "int")
 | .str _,_=>some (C == "str")
 | .tup _,_=>some (C == "tuple")
 | .eY _,_=>some (C == "list")
 | .wV _,_=>some (C == "dict")
 | .exc _,_=>none
 | .ref a,G=>match G a with
  | some (.lst _)=>some (C == "list")
  | some (.mH _)=>some (C == "dict")
  | _=>none
noncomputable def sD(C:String)(a:gH):gH:=fun E τ G Q=>a E τ G fun x G1=>match PG C x G1 with
 | some b=>Q (.bl b) G1
 | none=>False
noncomputable def gq(x:D)(ds:List D)(G:Gp)(Q:DK):Prop:=match x,ds with
 | .ref a,[d]=>(match G a with
  | some (.lst xs)=>xs.length < SZ/\Q .dQ (cH G a (.lst (xs++[d])))
  | _=>False)
 | _,_=>False
noncomputable def x6(x:D)(ds:List D)(G:Gp)(Q:DK):Prop:=match x,ds with
 | .ref a,[y]=>(match G a,u0 y G with
  | some (.lst xs),some ys=>xs.length+ys.length<=SZ/\Q .dQ (cH G a (.lst (xs++ys)))
  | _,_=>False)
 | _,_=>False
noncomputable def x5(x:D)(ds:List D)(G:Gp)(Q:DK):Prop:=match x,ds with
 | .ref a,[.int i,d]=>(match G a with
  | some (.lst xs)=>0<=i/\i<=xs.length/\xs.length < SZ/\Q .dQ (cH G a (.lst (xs.take i.toNat++d :: xs.drop i.toNat)))
  | _=>False)
 | _,_=>False
noncomputable def qR(x:D)(ds:List D)(G:Gp)(Q:DK):Prop:=match ds with
 | [d]=>t9 x G/\∃ xs s ss,itemsOf x G=some xs/\Sn G SN d s/\Sn G SN (.eY xs) (.eY ss)/\(match ss.findIdx? (iQ · s) with
  | some k=>Q (.int (k:Int)) G
  | none=>False)
 | _=>False
noncomputable def EM(x:D)(ds:List D)(G:Gp)(Q:DK):Prop:=match x,ds with
 | .ref a,[k,d]=>(match G a with
  | some (.mH bu)=>i3 bu k=true/\fU k=true/\(match look bu k with
   | some v=>Q v G
   | none=>bu.length < SZ/\Q d (cH G a (.mH (put bu k d))))
  | _=>False)
 | _,_=>False
noncomputable def bD:fY:=fun _ K τ G=>K.nx τ G
noncomputable def bI(a b:fY):fY:=fun E K τ G=>a E { K with nx:=b E K } τ G
noncomputable def ee(a:gH):fY:=fun E K τ G=>a E τ G fun _ G1=>K.nx τ G1
noncomputable def bA(a:gH):fY:=fun E K τ G=>a E τ G K.rt
noncomputable def Nc:fY:=fun _ K _ G=>K.rt .dQ G
noncomputable def cN(c:xM)(a b:fY):fY:=fun E K τ G=>c E τ G fun k G1=>if k=true then a E K τ G1 else b E K τ G1
noncomputable def rD:fY:=fun _ _ _ _=>False
noncomputable abbrev BW:=lL->D->ib->Gp->(ib->Gp->Prop)->Prop
noncomputable abbrev DD:=lL->List D->ib->Gp->(ib->Gp->Prop)->Prop
noncomputable def aK(i:Nat):BW:=fun _ d τ G Q=>Q (τ.set i (some d)) G
noncomputable def Ho:DD:=fun _ ds τ G Q=>match ds with
 | []=>Q τ G
 | _=>False
noncomputable def sX(t:BW)(r:DD):DD:=fun E ds τ G Q=>match ds with
 | d :: ds=>t E d τ G fun sM G1=>r E ds sM G1 Q
 | _=>False
noncomputable def Kr(t:DD):BW:=fun E d τ G Q=>match d with
 | .tup ds=>t E ds τ G Q
 | _=>False
noncomputable def Em(o k d:D)(G:Gp)(Q:Gp->Prop):Prop:=match o with
 | .ref a=>(match G a with
  | some (.lst xs)=>(match k with
   | .int i=>(match Hd xs.length i with
    | some j=>Q (cH G a (.lst (xs.set j d)))
    | none=>False)
   | _=>False)
  | some (.mH bu)=>i3 bu k=true/\bu.length < SZ/\Q (cH G a (.mH (put bu k d)))
  | _=>False)
 | _=>False
noncomputable def MR(o k:gH):BW:=fun E d τ G Q=>o E τ G fun x G1=>k E τ G1 fun y G2=>Em x y d G2 fun G3=>Q τ G3
noncomputable def bU(a:gH)(g:BW):fY:=fun E K τ G=>a E τ G fun x G1=>g E x τ G1 K.nx
noncomputable abbrev Ny:=lL->ib->Gp->(List D->(Gp->Prop)->Gp->Prop)->Prop
noncomputable def jS(a:gH):Ny:=fun E τ G R=>a E τ G fun x G1=>match x with
 | .tup ds=>R ds (fun _=>True) G1
 | .eY ds=>R ds (fun _=>True) G1
 | .ref p=>(match G1 p with
  | some (.lst ds)=>R ds (fun G2=>G2 p=some (.lst ds)) G1
  | _=>False)
 | _=>False
noncomputable def eN(lo:Int)(n:Nat):List D:=(eE n).map fun (i:Nat)=>D.int (lo+(i:Int))
noncomputable def pU(a:gH):Ny:=fun E τ G R=>a E τ G fun x G1=>match x with
 | .int n=>-(2 ^ 62)<=n/\n < 2 ^ 62/\R (eN 0 n.toNat) (fun _=>True) G1
 | _=>False
noncomputable def IX(a b:gH):Ny:=fun E τ G R=>a E τ G fun x G1=>b E τ G1 fun y G2=>match x,y with
 | .int i,.int j=>(-(2 ^ 62)<=i/\i < 2 ^ 62/\-(2 ^ 62)<=j/\j < 2 ^ 62)/\R (eN i (j - i).toNat) (fun _=>True) G2
 | _,_=>False
noncomputable def qW(g:BW)(body:fY)(ok:Gp->Prop):List D->fY
 | []=>fun _ K τ G=>ok G/\K.nx τ G
 | d :: r=>fun E K τ G=>ok G/\g E d τ G fun sM G1=>body E { K with nx:=qW g body ok r E K,ct:=qW g body ok r E K,bk:=K.nx } sM G1
noncomputable def eD(i:Ny)(g:BW)(body:fY):fY:=fun E K τ G=>i E τ G fun ds ok G1=>qW g body ok ds E K τ G1
noncomputable def Ea(c:xM)(body:fY):Nat->fY
 | 0=>fun _ _ _ _=>False
 | n+1=>fun E K τ G=>c E τ G fun k G1=>if k=true then body E { K with nx:=Ea c body n E K,ct:=Ea c body n E K,bk:=K.nx } τ G1 else K.nx τ G1
noncomputable def Nb(c:xM)(body:fY):fY:=fun E K τ G=>∃ n,Ea c body n E K τ G
noncomputable def jP(g:BW)(c:Option xM)(e:gH)(ok:Gp->Prop):List D->lL->ib->Gp->List D->(List D->Gp->Prop)->Prop
 | [],_,_,G,acc,Q=>ok G/\Q acc G
 | d :: r,E,τ,G,acc,Q=>ok G/\g E d τ G fun sM G1=>match c with
  | none=>e E sM G1 fun x G2=>jP g c e ok r E sM G2 (acc++[x]) Q
  | some c=>c E sM G1 fun k G2=>if k=true then e E sM G2 fun x G3=>jP g (some c) e ok r E sM G3 (acc++[x]) Q else jP g (some c) e ok r E sM G2 acc Q
noncomputable def tP(m:Nat)(fr:List Nat)(τ:ib):ib:=aZ m none++fr.map fun i=>(τ[i]?).getD none
noncomputable def gZ(m:Nat)(fr:List Nat)(i:Ny)(g:BW)(c:Option xM)(e:gH):gH:=fun E τ G Q =>
 i E τ G fun ds ok G1=>ds.length<=SZ/\jP g c e ok ds (fun _ _=>False) (tP m fr τ) G1 [] fun xs G2=>lr G2 (.lst xs) Q
noncomputable abbrev tI(ns:List Int):D:=.tup (ns.map D.int)
noncomputable def Wz:List Int->Option Int
 | []=>none
 | a :: r=>some (r.foldl (fun m x=>if x < m then x else m) a)
noncomputable def Wy:List (List Int)->Option (List Int)
 | []=>none
 | a :: r=>some (r.foldl (fun m x=>if lexLt x m=true then x else m) a)
noncomputable def KC(ds:List D)(G:Gp)(Q:DK):Prop:=match ds with
 | [x]=>(∃ ns m,itemsOf x G=some (ns.map D.int)/\Wz ns=some m/\Q (.int m) G)\/∃ US m,itemsOf x G=some (US.map tI)/\Wy US=some m/\Q (tI m) G
 | _=>False
noncomputable def Kz:gH:=fun _ _ G Q=>lr G (.mH []) Q
noncomputable def fy(G G':Gp):Prop:=∀ a o,G a=some o->G' a=some o
theorem fy.refl(G:Gp):fy G G:=fun _ _ h=>h
theorem fy.trans{G G1 G2:Gp}(a:fy G G1)(b:fy G1 G2):fy G G2:=fun c o h=>b c o (a c o h)
theorem fy.new{G:Gp}{p:Nat}{o:GO}(h:G p=none):fy G (cH G p o):=fun a ob e=>by
 by_cases ha:a=p
 ·subst ha; rw [h] at e; cases e
 ·rw [ez ha]; exact e
theorem fy.free{G G':Gp}{p:Nat}(l:fy G G')(h:G' p=none):G p=none:=by
 cases q:G p with
 | none=>rfl
 | some o=>rw [l p o q] at h; cases h
theorem fy.put{G G':Gp}{p:Nat}{o:GO}(l:fy G G')(h:G p=none):fy G (cH G' p o):=fun a ob e=>by
 by_cases ha:a=p
 ·subst ha; rw [h] at e; cases e
 ·rw [ez ha]; exact l a ob e
noncomputable def ends(Q:DK):kF:=⟨fun _ G=>Q .dQ G,Q,fun _ _=>False,fun _ _=>False⟩
noncomputable def aW(n:Nat)(ds:List D):ib:=ds.map some++aZ (n - ds.length) none
noncomputable def NR(x:D)(G1:Gp)(R:List D->(Gp->Prop)->Gp->Prop):Prop:=match x with
 | .tup ds=>R ds (fun _=>True) G1
 | .eY ds=>R ds (fun _=>True) G1
 | .ref p=>(match G1 p with
  | some (.lst ds)=>R ds (fun G2=>G2 p=some (.lst ds)) G1
  | _=>False)
 | _=>False
noncomputable def L9(x:D)(G1:Gp)(Q:Option Int->Gp->Prop):Prop:=match x with
 | .int i=>Q (some i) G1
 | _=>False
noncomputable def sN(x:D)(G1:Gp)(Q:Bool->Gp->Prop):Prop:=match JE x G1 with
 | some b=>Q b G1
 | none=>False
noncomputable def Pu(x:D)(G1:Gp)(R:List D->(Gp->Prop)->Gp->Prop):Prop:=match x with
 | .int n=>-(2 ^ 62)<=n/\n < 2 ^ 62/\R (eN 0 n.toNat) (fun _=>True) G1
 | _=>False
noncomputable def isAt(C:String)(x:D)(G1:Gp)(Q:DK):Prop:=match PG C x G1 with
 | some b=>Q (.bl b) G1
 | none=>False
theorem gT{i j:Int}{G:Gp}{Q:DK}:kA (.int i) (.int j) G Q=Q (.int (i+j)) G:=rfl
theorem yO{a b:List D}{G:Gp}{Q:DK}:kA (.tup a) (.tup b) G Q=(a≠[]/\a.length+b.length<=SZ/\Q (.tup (a++b)) G):=rfl
theorem lg{i j:Int}{G:Gp}{Q:DK}:GD (.int i) (.int j) G Q=Q (.int (i - j)) G:=rfl
theorem oC{i j:Int}{G:Gp}{Q:DK}:LZ (.int i) (.int j) G Q=(MulOk i j/\Q (.int (i * j)) G):=rfl
theorem fS{i j:Int}{G:Gp}{Q:DK}:tx (.int i) (.int j) G Q=(0 < j/\Q (.int (i % j)) G):=rfl
theorem kL{i j:Int}{G:Gp}{Q:DK}:Bq (.int i) (.int j) G Q=(0 < j/\j < 2 ^ 30/\Q (.int (i / j)) G):=rfl
theorem oB{i:Int}{G:Gp}{Q:DK}:LY (.int i) G Q=Q (.int (-i)) G:=rfl
theorem xX{i j:Int}{G:Gp}{Q:DK}:UN (.int i) (.int j) G Q=Q (.bl (decide (i < j))) G:=rfl
theorem Cw{i j:Int}{G:Gp}{Q:DK}:rLe (.int i) (.int j) G Q=Q (.bl (decide (i<=j))) G:=rfl
theorem xZ{i j:Int}{G:Gp}{Q:DK}:V0 (.int i) (.int j) G Q=Q (.bl (decide (i > j))) G:=rfl
theorem Cz{i j:Int}{G:Gp}{Q:DK}:rGe (.int i) (.int j) G Q=Q (.bl (decide (i>=j))) G:=rfl
theorem Ox{ds:List D}{i:Int}{d:D}{G:Gp}{Q:DK}(h:oY ds i=some d):eW (.eY ds) (.int i) G Q=Q d G:=by unfold eW; simp only [h]
theorem Oz{a:Nat}{ds:List D}{i:Int}{d:D}{G:Gp}{Q:DK}(h1:G a=some (.lst ds))(h:oY ds i=some d):eW (.ref a) (.int i) G Q=Q d G:=by unfold eW; simp only [h1,h]
theorem uR{ds:List D}{lo hi:Option Int}{G:Gp}{Q:DK}:LX (.tup ds) lo hi G Q=(¬ (jI ds.length 0 lo=0/\jI ds.length ds.length hi=ds.length)/\Q (.tup (cut ds lo hi)) G):=rfl
theorem Cv{ds:List D}{lo hi:Option Int}{G:Gp}{Q:DK}:LX (.eY ds) lo hi G Q=lr G (.lst (cut ds lo hi)) Q:=rfl
theorem Ow{a:Nat}{ds:List D}{lo hi:Option Int}{G:Gp}{Q:DK}(h:G a=some (.lst ds)):LX (.ref a) lo hi G Q=lr G (.lst (cut ds lo hi)) Q:=by unfold LX; simp only [h]
theorem vo{ds:List D}{G:Gp}{Q:DK}:iB [.eY ds] G Q=Q (.int (ds.length:Int)) G:=rfl
theorem lx{ds:List D}{G:Gp}{Q:DK}:iB [.tup ds] G Q=Q (.int (ds.length:Int)) G:=rfl
theorem Nl{a:Nat}{ds:List D}{G:Gp}{Q:DK}(h:G a=some (.lst ds)):iB [.ref a] G Q=Q (.int (ds.length:Int)) G:=by unfold iB lenOf; simp only [h]
theorem dj{a:gH}{E:lL}{τ:ib}{G:Gp}{R:List D->(Gp->Prop)->Gp->Prop}:jS a E τ G R=a E τ G fun x G1=>NR x G1 R:=by
 unfold jS NR; rfl
theorem CW{ds:List D}{G:Gp}{R:List D->(Gp->Prop)->Gp->Prop}:NR (.eY ds) G R=R ds (fun _=>True) G:=rfl
theorem x9{ds:List D}{G:Gp}{R:List D->(Gp->Prop)->Gp->Prop}:NR (.tup ds) G R=R ds (fun _=>True) G:=rfl
theorem nh{a:Nat}{ds:List D}{G:Gp}{R:List D->(Gp->Prop)->Gp->Prop}(h:G a=some (.lst ds)):NR (.ref a) G R=R ds (fun G2=>G2 a=some (.lst ds)) G:=by unfold NR; simp only [h]
theorem jC{t:gH}{E:lL}{τ:ib}{G:Gp}{Q:Option Int->Gp->Prop}:mC t E τ G Q=t E τ G fun x G1=>L9 x G1 Q:=rfl
theorem ig{i:Int}{G:Gp}{Q:Option Int->Gp->Prop}:L9 (.int i) G Q=Q (some i) G:=rfl
theorem bX{a:gH}{E:lL}{τ:ib}{G:Gp}{Q:Bool->Gp->Prop}:da a E τ G Q=a E τ G fun x G1=>sN x G1 Q:=rfl
theorem aS{b:Bool}{G:Gp}{Q:Bool->Gp->Prop}:sN (.bl b) G Q=Q b G:=rfl
theorem Bi{a:Nat}{ds:List D}{G:Gp}{Q:Bool->Gp->Prop}(h:G a=some (.lst ds)):sN (.ref a) G Q=Q (!ds.isEmpty) G:=by unfold sN JE; simp only [h]
theorem gX{a:gH}{E:lL}{τ:ib}{G:Gp}{R:List D->(Gp->Prop)->Gp->Prop}:pU a E τ G R=a E τ G fun x G1=>Pu x G1 R:=rfl
theorem fO{n:Int}{G:Gp}{R:List D->(Gp->Prop)->Gp->Prop}:Pu (.int n) G R=(-(2 ^ 62)<=n/\n < 2 ^ 62/\R (eN 0 n.toNat) (fun _=>True) G):=rfl
theorem kZ{C:String}{a:gH}{E:lL}{τ:ib}{G:Gp}{Q:DK}:sD C a E τ G Q=a E τ G fun x G1=>isAt C x G1 Q:=rfl
theorem qT {C:String} {i:Int} {G:Gp} {Q:DK}:isAt C (.int i) G Q=Q (.bl (C == "int")) G:=rfl
theorem mw {C:String} {ds:List D} {G:Gp} {Q:DK}:isAt C (.tup ds) G Q=Q (.bl (C == "tuple")) G:=rfl
theorem Mw {C:String} {a:Nat} {ds:List D} {G:Gp} {Q:DK} (h:G a=some (.lst ds)):isAt C (.ref a) G Q=Q (.bl (C == "list")) G:=by unfold isAt PG; simp only [h]
theorem rE{a b:gH}{E:lL}{τ:ib}{G:Gp}{Q:DK}:Fv a b E τ G Q=a E τ G fun x G1=>sN x G1 fun k G2=>if k=true then b E τ G2 Q else Q x G2:=by
 unfold Fv sN;refine congrArg (a E τ G) ?_;funext x G1;cases JE x G1 with
 | none=>rfl
 | some k=>cases k <;> simp
theorem yc{a b:gH}{E:lL}{τ:ib}{G:Gp}{Q:DK}:O6 a b E τ G Q=a E τ G fun x G1=>sN x G1 fun k G2=>if k=true then Q x G2 else b E τ G2 Q:=by
 unfold O6 sN;refine congrArg (a E τ G) ?_;funext x G1;cases JE x G1 with
 | none=>rfl
 | some k=>cases k <;> simp
theorem vj{a:gH}{E:lL}{τ:ib}{G:Gp}{Q:DK}:Nd a E τ G Q=a E τ G fun x G1=>sN x G1 fun k G2=>Q (.bl (!k)) G2:=rfl
theorem oE{a:Nat}{y:D}{G:Gp}{Q:DK}:kA (.ref a) y G Q=zP (.ref a) y G Q:=by cases y <;> rfl
theorem qL{a:List D}{y:D}{G:Gp}{Q:DK}:kA (.eY a) y G Q=zP (.eY a) y G Q:=by cases y <;> rfl
theorem xW{a:Nat}{lo hi:Option Int}{G:Gp}{Q:DK}:LX (.ref a) lo hi G Q=(match G a with
  | some (.lst ds)=>lr G (.lst (cut ds lo hi)) Q
  | _=>False):=rfl
theorem Oy{a:Nat}{k:D}{G:Gp}{Q:DK}:eW (.ref a) k G Q=(match G a with
  | some (.lst ds)=>(match k with
   | .int i=>(match oY ds i with
    | some d=>Q d G
    | none=>False)
   | _=>False)
  | some (.mH bu)=>i3 bu k=true/\(match look bu k with
   | some d=>Q d G
   | none=>False)
  | _=>False):=by unfold eW; cases k <;> rfl
theorem cX{ds:List D}{i:Int}{G:Gp}{Q:DK}:eW (.tup ds) (.int i) G Q=(match oY ds i with
  | some d=>Q d G
  | none=>False):=rfl
theorem qK{ds:List D}{i:Int}{G:Gp}{Q:DK}:eW (.eY ds) (.int i) G Q=(match oY ds i with
  | some d=>Q d G
  | none=>False):=rfl
theorem wy{a:Nat}{G:Gp}{Q:DK}:qa [.ref a] G Q=(match G a with
  | some (.lst ds)=>lr G (.lst ds) Q
  | _=>False):=by
 unfold qa itemsOf;cases h:G a with
 | none=>simp only [h]
 | some g=>cases g <;> simp only [h]
theorem eX{a:Nat}{d:D}{G:Gp}{Q:DK}:gq (.ref a) [d] G Q=(match G a with
  | some (.lst xs)=>xs.length < SZ/\Q .dQ (cH G a (.lst (xs++[d])))
  | _=>False):=rfl
theorem nc{a:Nat}{y:D}{G:Gp}{Q:DK}:x6 (.ref a) [y] G Q=(match G a,u0 y G with
  | some (.lst xs),some ys=>xs.length+ys.length<=SZ/\Q .dQ (cH G a (.lst (xs++ys)))
  | _,_=>False):=rfl
theorem mZ{a:Nat}{i:Int}{d:D}{G:Gp}{Q:DK}:x5 (.ref a) [.int i,d] G Q=(match G a with
  | some (.lst xs)=>0<=i/\i<=xs.length/\xs.length < SZ/\Q .dQ (cH G a (.lst (xs.take i.toNat++d :: xs.drop i.toNat)))
  | _=>False):=rfl
theorem lG{a:Nat}{k d:D}{G:Gp}{Q:DK}:EM (.ref a) [k,d] G Q=(match G a with
  | some (.mH bu)=>i3 bu k=true/\fU k=true/\(match look bu k with
   | some v=>Q v G
   | none=>bu.length < SZ/\Q d (cH G a (.mH (put bu k d))))
  | _=>False):=rfl
theorem CT {C:String} {b:Bool} {G:Gp} {Q:DK}:isAt C (.bl b) G Q=Q (.bl (C == "bool" || C == "int")) G:=rfl
theorem iL{a:Nat}{G:Gp}:t9 (.ref a) G=(match G a with
  | some (.lst _)=>True
  | _=>False):=rfl
theorem Cc{a:Nat}{G:Gp}:ZW (.ref a) G=(match G a with
  | some (.mH _)=>True
  | _=>False):=rfl
theorem Cb{ds:List D}{G:Gp}:t9 (.eY ds) G=True:=rfl
theorem Cy{bu:List (D×D)}{k:D}{G:Gp}{Q:DK}:eW (.wV bu) k G Q=(i3 bu k=true/\(match look bu k with
  | some d=>Q d G
  | none=>False)):=by unfold eW; cases k <;> rfl
theorem Ca{x:Str}{G:Gp}:ZV (.str x) G=True:=rfl
end K2
end
section
namespace K2
open PySem (Str)
noncomputable def AU(R:Nat->Bool)(G:Gp):Gp:=fun a=>if R a=true then none else G a
mutual
inductive Fz (G:Gp) (R:Nat->Bool):D->D->Prop
 | same (d:D):Fz G R d d
 | tup {ds ss:List D}:DP G R ds ss->Fz G R (.tup ds) (.tup ss)
 | eY {ds ss:List D}:DP G R ds ss->Fz G R (.eY ds) (.eY ss)
 | ref {a:Nat} {ds ss:List D}:G a=some (.lst ds)->R a=true->DP G R ds ss->Fz G R (.ref a) (.eY ss)
 | mH {a:Nat} {bu YL:List (D×D)}:G a=some (.mH bu)->R a=true->HX G R bu YL->Fz G R (.ref a) (.wV YL)
inductive DP (G:Gp) (R:Nat->Bool):List D->List D->Prop
 | nil:DP G R [] []
 | cons {d s:D} {ds ss:List D}:Fz G R d s->DP G R ds ss->DP G R (d :: ds) (s :: ss)
inductive HX (G:Gp) (R:Nat->Bool):List (D×D)->List (D×D)->Prop
 | nil:HX G R [] []
 | cons {k d s:D} {ds ss:List (D×D)}:Fz G R d s->HX G R ds ss->HX G R ((k,d) :: ds) ((k,s) :: ss)
end
theorem HX.same{G:Gp}{R:Nat->Bool}:∀ (bu:List (D×D)),HX G R bu bu
 | []=>.nil
 | (k,v) :: r=>.cons (.same v) (HX.same r)
noncomputable def NF(G:Gp)(x:D)(Q:DK):Prop:=∃ (R:Nat->Bool) (t:D),Fz G R x t/\Q t (AU R G)
noncomputable def dc(e:gH):gH:=fun E τ G Q=>e E τ G fun x G1=>NF G1 x Q
noncomputable def Nf(i:Nat)(t:fY):fY:=fun E K τ G=>t E { K with nx:=fun sM G1=>match sM[i]? with
 | some (some d)=>NF G1 d fun t G2=>K.nx (sM.set i (some t)) G2
 | _=>False } τ G
theorem DP.same{G:Gp}{R:Nat->Bool}:∀ (ds:List D),DP G R ds ds
 | []=>.nil
 | d :: ds=>.cons (.same d) (DP.same ds)
theorem zC{G G1:Gp}(l:fy G G1):AU (fun a=>(G a).isNone) G1=G:=by
 funext a;unfold AU;cases h:G a with
 | none=>simp [h]
 | some o=>simp [l a o h,h]
theorem Kv{G G1:Gp}{p:Nat}{o:GO}(l:fy G G1)(hp:G p=none)(h1:G1 p=some o):AU (fun a=>(G a).isNone&&decide (a≠p)) G1=cH G p o:=by
 funext a;unfold AU cH;by_cases ha:a=p
 ·subst ha; simp [h1]
 ·cases h:G a with
  | none=>simp [ha,h]
  | some o=>simp [l a o h,ha,h]
theorem fX{G:Gp}{d:D}{Q:DK}(q:Q d G):NF G d Q:=⟨fun _=>false,d,.same d,by
 have e:AU (fun _=>false) G=G:=by funext a; simp [AU]
 rw [e]; exact q⟩
theorem rZ{G G1:Gp}{d:D}{Q:DK}(l:fy G G1)(q:Q d G):NF G1 d Q:=⟨_,d,.same d,by rw [zC l]; exact q⟩
theorem Hr{G G1:Gp}{p:Nat}{o:GO}{Q:DK}(l:fy G G1)(hp:G p=none)(h1:G1 p=some o)(q:Q (.ref p) (cH G p o)):NF G1 (.ref p) Q :=
 ⟨_,.ref p,.same _,by rw [Kv l hp h1]; exact q⟩
theorem Hq{G G1:Gp}{p:Nat}{ds ss:List D}{Q:DK}(l:fy G G1)(hp:G p=none)(h1:G1 p=some (.lst ds))(hs:DP G1 (fun a=>(G a).isNone) ds ss)(q:Q (.eY ss) G):NF G1 (.ref p) Q :=
 ⟨_,.eY ss,.ref h1 (by simp [hp]) hs,by rw [zC l]; exact q⟩
theorem Rm{G G1:Gp}{p:Nat}{bu:List (D×D)}{Q:DK}(l:fy G G1)(hp:G p=none)(h1:G1 p=some (.mH bu))(q:Q (.wV bu) G):NF G1 (.ref p) Q :=
 ⟨fun a=>(G a).isNone,.wV bu,.mH h1 (by simp [hp]) (.same _),by rw [zC l]; exact q⟩
noncomputable def Bm:jk:=fun ds G Q _=>∃ ns:List Int,ds=[.eY (ns.map D.int)]/\ns.length<=63/\(∀ a,G a=none)/\∀ G',Q (.bl true) G'
theorem cJ{a b:fY}{E:lL}{K:kF}{τ:ib}{G:Gp}(P:ib->Gp->Prop)(h1:∀ N,(∀ τ G,P τ G->N τ G)->a E { K with nx:=N } τ G)(h2:∀ τ G,P τ G->b E K τ G):bI a b E K τ G:=h1 (b E K) h2
theorem eZ{a b:fY}{E:lL}{K:kF}{τ:ib}{G:Gp}:bI a b E K τ G=a E { K with nx:=b E K } τ G:=rfl
theorem dE{a:gH}{g:BW}{b:fY}{E:lL}{K:kF}{τ:ib}{G:Gp}:bI (bU a g) b E K τ G=bU a g E { K with nx:=b E K } τ G:=rfl
theorem lb{a:gH}{b:fY}{E:lL}{K:kF}{τ:ib}{G:Gp}:bI (ee a) b E K τ G=ee a E { K with nx:=b E K } τ G:=rfl
theorem nP{g:BW}{body:fY}{ok:Gp->Prop}{ds:List D}{E:lL}{K:kF}{τ:ib}{G:Gp}(I:List D->ib->Gp->Prop)
  (h0:I [] τ G) (eV:∀ pre τ G,I pre τ G->ok G)
  (step:∀ (pre:List D) (d:D) (post:List D) τ G (N:ib->Gp->Prop),ds=pre++d :: post->I pre τ G->(∀ Bg G2,I (pre++[d]) Bg G2->N Bg G2) ->
   g E d τ G fun sM G1=>body E { K with nx:=N,ct:=N,bk:=K.nx } sM G1)
  (fin:∀ τ G,I ds τ G->K.nx τ G):qW g body ok ds E K τ G:=by
 have main:∀ (post pre:List D) τ G,ds=pre++post->I pre τ G->qW g body ok post E K τ G:=by
  intro post;induction post with
  | nil =>
   intro pre τ G e h;rw [c9] at e;subst e;exact⟨eV _ _ _ h,fin _ _ h⟩
  | cons d post ih =>
   intro pre τ G e h;refine⟨eV _ _ _ h,?_⟩;exact step pre d post τ G _ e h fun Bg G2 h2=>ih (pre++[d]) Bg G2 (by rw [e,bS]; rfl) h2
 exact main ds [] τ G rfl h0
theorem Sn.tI{G:Gp}{n:Nat}:∀ (ns:List Int),Sn G (n+1) (.tup (ns.map D.int)) (.tup (ns.map D.int))
 | []=>.Ed
 | i :: ns=>.pN (.int i) (Sn.tI ns)
theorem pD(a b:D)(r t:List D):kc (a :: r) (b :: t)=(iQ a b&&kc r t):=rfl
theorem rh(a b:Int):iQ (.int a) (.int b)=(a == b):=rfl
theorem HE(a b:List D):iQ (.tup a) (.tup b)=kc a b:=rfl
theorem zD{α:Type} [DecidableEq α](a b:α)(as bs:List α):(decide (a=b)&&decide (as=bs))=decide (a :: as=b :: bs):=by
 by_cases h:a=b <;> by_cases h2:as=bs <;> simp [h,h2]
theorem BJ:∀ (a b:List Int),kc (a.map D.int) (b.map D.int)=decide (a=b)
 | [],[]=>(decide_eq_true rfl).symm
 | [],b :: bs=>(decide_eq_false (fun z=>nomatch z)).symm
 | a :: as,[]=>(decide_eq_false (fun z=>nomatch z)).symm
 | a :: as,b :: bs=>by
  show (decide (a=b)&&kc (as.map D.int) (bs.map D.int))=_;rw [BJ as bs,zD]
theorem Rv(a b:List Int):iQ (tI a) (tI b)=decide (a=b):=by
 show kc _ _=_;exact BJ a b
end K2
end
section
namespace K2
open PySem (Str)
set_option genInjectivity true in structure T2 where
 a:Int
 b:Int
 deriving DecidableEq
set_option genInjectivity true in structure T3 where
 a:Int
 b:Int
 c:Int
 deriving DecidableEq
class Enc (α:Type) [DecidableEq α] where
 enc:α->D
 dep:Nat
 eqv:∀ a b,iQ (enc a) (enc b)=decide (a=b)
 sn:∀ (G:Gp) (n:Nat) (a:α),dep<=n->Sn G n (enc a) (enc a)
open Enc (enc)
noncomputable instance:Enc Int where
 enc:=D.int
 dep:=0
 eqv:=fun a b=>rfl
 sn:=fun G n a _=>.int a
noncomputable instance:Enc Bool where
 enc:=D.bl
 dep:=0
 eqv:=fun a b=>NK a b
 sn:=fun G n a _=>.bl a
noncomputable instance:Enc T2 where
 enc:=fun t=>.tup [.int t.a,.int t.b]
 dep:=1
 eqv:=fun x y=>by
  cases x; cases y;rw [HE,pD,pD,rh,rh]; simp only [T2.mk.injEq]; rename_i a b c d; by_cases h:a=c <;> by_cases h2:b=d <;> simp [h,h2,show kc [] []=true from rfl]
 sn:=fun G n t h=>by
  obtain⟨m,rfl⟩:∃ m,n=m+1:=⟨n - 1,by lia⟩;exact .pN (.int _) (.pN (.int _) .Ed)
noncomputable instance:Enc T3 where
 enc:=fun t=>.tup [.int t.a,.int t.b,.int t.c]
 dep:=1
 eqv:=fun x y=>by
  cases x; cases y;rw [HE,pD,pD,pD,rh,rh,rh]; simp only [T3.mk.injEq]; rename_i a b e c d f; by_cases h:a=c <;> by_cases h2:b=d <;> by_cases h3:e=f <;> simp [h,h2,h3,show kc [] []=true from rfl]
 sn:=fun G n t h=>by
  obtain⟨m,rfl⟩:∃ m,n=m+1:=⟨n - 1,by lia⟩;exact .pN (.int _) (.pN (.int _) (.pN (.int _) .Ed))
noncomputable instance {α β:Type} [DecidableEq α] [DecidableEq β] [Enc α] [Enc β]:Enc (α×β) where
 enc:=fun t=>.tup [enc t.1,enc t.2]
 dep:=max (Enc.dep α) (Enc.dep β)+1
 eqv:=fun x y=>by
  cases x; cases y;rw [HE,pD,pD,Enc.eqv,Enc.eqv]; simp only [Gh]; rename_i a b c d; by_cases h:a=c <;> by_cases h2:b=d <;> simp [h,h2,show kc [] []=true from rfl]
 sn:=fun G n t h=>by
  obtain⟨m,rfl⟩:∃ m,n=m+1:=⟨n - 1,by lia⟩;exact .pN (Enc.sn _ _ _ (by lia)) (.pN (Enc.sn _ _ _ (by lia)) .Ed)
theorem Fn{α:Type} [DecidableEq α] [Enc α]:∀ (a b:List α),kc (a.map enc) (b.map enc)=decide (a=b)
 | [],[]=>(decide_eq_true rfl).symm
 | [],b :: bs=>(decide_eq_false (fun z=>nomatch z)).symm
 | a :: as,[]=>(decide_eq_false (fun z=>nomatch z)).symm
 | a :: as,b :: bs=>by
  show (iQ (enc a) (enc b)&&kc (as.map enc) (bs.map enc))=_;rw [Enc.eqv,Fn as bs,zD]
theorem tu{α:Type} [DecidableEq α] [Enc α](G:Gp)(n:Nat)(h:Enc.dep α<=n):∀ (xs:List α),Sn G (n+1) (.eY (xs.map enc)) (.eY (xs.map enc))
 | []=>.LR
 | a :: as=>.Et (Enc.sn _ _ _ h) (tu G n h as)
noncomputable instance {α:Type} [DecidableEq α] [Enc α]:Enc (List α) where
 enc:=fun xs=>.eY (xs.map enc)
 dep:=Enc.dep α+1
 eqv:=fun a b=>by
  show kc _ _=_;exact Fn a b
 sn:=fun G n t h=>by
  obtain⟨m,rfl⟩:∃ m,n=m+1:=⟨n - 1,by lia⟩;exact tu G m (by lia) t
section
variable {α:Type} [DecidableEq α] [Enc α]
theorem DC(L:List α)(t:α):(L.map enc).any (iQ · (enc t))=decide (t∈L):=by
 induction L with
 | nil=>simp
 | cons a r ih =>
  simp only [au,og,Enc.eqv,ih,e7];by_cases h:a=t
  ·simp [h]
  ·have h':¬ t=a:=fun z=>h z.symm;by_cases h2:t∈r <;> simp [h,h',h2]
theorem Fd(L:List α){m:α}(h:m∈L):(L.map enc).findIdx? (iQ · (enc m))=some (L.idxOf m):=by
 induction L with
 | nil=>cases h
 | cons a r ih =>
  rw [au,List.findIdx?_cons,Enc.eqv,List.idxOf_cons];by_cases e:a=m
  ·simp [e]
  ·have hm:m∈r:=by rcases List.mem_cons.mp h with z | z; exact absurd z.symm e; exact z
   rw [ih hm];have z:(a == m)=false:=by simpa using e
   simp [e,z]
end
section
variable {κ α:Type} [DecidableEq κ] [Enc κ] [DecidableEq α] [Enc α]
noncomputable def jB(l:List (κ×α)):List (D×D):=l.map fun p=>(enc p.1,enc p.2)
noncomputable def oa(l:List (κ×α))(k:κ):Option α:=(l.find? fun p=>p.1=k).map (·.2)
noncomputable def wA(l:List (κ×α))(k:κ)(v:α):List (κ×α):=if (l.any fun p=>p.1=k)=true then l.map (fun p=>if p.1=k then (p.1,v) else p) else l++[(k,v)]
theorem Mj(l:List (κ×α))(k:κ):look (jB l) (enc k)=(oa l k).map enc:=by
 unfold look oa jB;induction l with
 | nil=>rfl
 | cons p r ih =>
  rw [au,fH,fH];simp only [Enc.eqv];by_cases h:p.1=k
  ·simp [h]
  ·simp only [h,decide_false]; exact ih
theorem OB(l:List (κ×α))(k:κ)(v:α):put (jB l) (enc k) (enc v)=jB (wA l k v):=by
 unfold put wA;have e:((jB l).any fun p=>iQ p.1 (enc k))=l.any fun p=>decide (p.1=k):=by
  unfold jB; rw [List.any_map]; congr 1; funext p; exact Enc.eqv _ _
 rw [e];split
 ·unfold jB; rw [jD,jD];refine List.map_congr_left fun p _=>?_;simp only [Function.comp,Enc.eqv,decide_eq_true_eq];split <;> rfl
 ·unfold jB; rw [aL]; rfl
theorem Nx(l:List (κ×α))(k:κ)(v:α):(wA l k v).length<=l.length+1:=by
 unfold wA; split <;> simp
end
class rL (κ:Type) [DecidableEq κ] [Enc κ] where
 ok:(∀ k:κ,fU (enc k)=true)\/∀ k:κ,tE (enc k)=true
noncomputable instance:rL Int:=⟨.inl fun _=>rfl⟩
noncomputable instance:rL T2:=⟨.inr fun _=>rfl⟩
noncomputable instance:rL T3:=⟨.inr fun _=>rfl⟩
theorem zc{κ α:Type} [DecidableEq κ] [Enc κ] [rL κ] [DecidableEq α] [Enc α](l:List (κ×α))(k:κ):i3 (jB l) (enc k)=true:=by
 unfold i3 jB;rcases rL.ok (κ:=κ) with h | h
 ·rw [oV]; left;rw [h k,KS,NI,DU];intro p _; exact h p.1
 ·rw [oV]; right;rw [h k,KS,NI,DU];intro p _; exact h p.1
end K2
end
section
namespace K2
open PySem (Str)
open Enc (enc)
mutual
noncomputable def oX:D->D->Bool
 | .int a,.int b=>decide (a < b)
 | .tup a,.tup b=>mP a b
 | .eY a,.eY b=>mP a b
 | _,_=>false
noncomputable def mP:List D->List D->Bool
 | [],[]=>false
 | [],_ :: _=>true
 | _ :: _,[]=>false
 | x :: xs,y :: ys=>if iQ x y=true then mP xs ys else oX x y
end
theorem pz(x y:D)(xs ys:List D):mP (x :: xs) (y :: ys)=if iQ x y=true then mP xs ys else oX x y:=rfl
theorem Mi(a b:Int):oX (.int a) (.int b)=decide (a < b):=rfl
inductive nC where
 | int | tup (l:List nC) | lst (s:nC)
mutual
noncomputable def c7:nC->D->Bool
 | .int,.int _=>true
 | .tup l,.tup ds=>fx l ds
 | .lst s,.eY ds=>gY s ds
 | _,_=>false
noncomputable def fx:List nC->List D->Bool
 | [],[]=>true
 | s :: l,d :: ds=>c7 s d&&fx l ds
 | _,_=>false
noncomputable def gY:nC->List D->Bool
 | _,[]=>true
 | s,d :: ds=>c7 s d&&gY s ds
end
theorem dD{a:D}(h:c7 .int a=true):∃ i,a=.int i:=by cases a <;> first | exact⟨_,rfl⟩ | exact cF (show false=true from h)
theorem dA{l:List nC}{a:D}(h:c7 (.tup l) a=true):∃ x,a=.tup x:=by cases a <;> first | exact⟨_,rfl⟩ | exact cF (show false=true from h)
theorem dB{l:nC}{a:D}(h:c7 (.lst l) a=true):∃ x,a=.eY x:=by cases a <;> first | exact⟨_,rfl⟩ | exact cF (show false=true from h)
mutual
noncomputable def PS:nC->Nat
 | .int=>0
 | .tup l=>M5 l+1
 | .lst s=>PS s+1
noncomputable def M5:List nC->Nat
 | []=>0
 | s :: l=>max (PS s) (M5 l)
end
noncomputable def QE(sh:nC):Bool:=decide (PS sh<=7)&&(match sh with
 | .tup []=>false
 | _=>true)
noncomputable def NQ(a b:D):Bool:=!oX b a
noncomputable def qy(ds:List D):List D:=ds.mergeSort NQ
noncomputable def yg(ds:List D)(G:Gp)(Q:DK):Prop:=match ds with
 | [x]=>∃ (sh:nC) (xs:List D),t9 x G/\itemsOf x G=some xs/\xs.all (c7 sh)=true/\QE sh=true/\xs.length < 64/\lr G (.lst (qy xs)) Q
 | _=>False
class cj (α:Type) [DecidableEq α] [Enc α] where
 lt:α->α->Bool
 Ek:nC
 Kn:∀ a:α,c7 Ek (enc a)=true
 RW:∀ a b:α,oX (enc a) (enc b)=lt a b
 OW:∀ a,lt a a=false
 trans:∀ a b c,lt a b=true->lt b c=true->lt a c=true
 Oi:∀ a b,lt a b=false->lt b a=false->a=b
noncomputable instance:cj Int where
 lt:=fun a b=>decide (a < b)
 Ek:=.int
 Kn:=fun _=>rfl
 RW:=fun a b=>rfl
 OW:=fun a=>by simp
 trans:=fun a b c h1 h2=>by simp at *; lia
 Oi:=fun a b h1 h2=>by simp at *; lia
noncomputable def u5{α:Type} [DecidableEq α](lt:α->α->Bool):List α->List α->Bool
 | [],[]=>false
 | [],_ :: _=>true
 | _ :: _,[]=>false
 | x :: xs,y :: ys=>if x=y then u5 lt xs ys else lt x y
theorem y8{α:Type} [DecidableEq α](lt:α->α->Bool)(x y:α)(xs ys:List α):u5 lt (x :: xs) (y :: ys)=if x=y then u5 lt xs ys else lt x y:=rfl
section
variable {α:Type} [DecidableEq α] {lt:α->α->Bool}
theorem u4:∀ x:List α,u5 lt x x=false
 | []=>rfl
 | a :: x=>by simp only [y8,if_true]; exact u4 x
theorem u3(t:∀ a b,lt a b=false->lt b a=false->a=b):∀ (x y:List α),u5 lt x y=false->u5 lt y x=false->x=y
 | [],[],_,_=>rfl
 | [],_ :: _,h,_=>by cases h
 | _ :: _,[],_,h=>by cases h
 | a :: x,b :: y,h1,h2=>by
  simp only [y8] at h1 h2;by_cases e:a=b
  ·subst e;simp only [if_true] at h1 h2;rw [u3 t x y h1 h2]
  ·rw [if_neg e] at h1;rw [if_neg (fD e)] at h2;exact absurd (t a b h1 h2) e
theorem pA(ir:∀ a,lt a a=false)(tr:∀ a b c,lt a b=true->lt b c=true->lt a c=true):∀ (x y z:List α),u5 lt x y=true->u5 lt y z=true->u5 lt x z=true
 | [],[],_,h,_=>by cases h
 | [],_ :: _,[],_,h=>by cases h
 | [],_ :: _,_ :: _,_,_=>rfl
 | _ :: _,[],_,h,_=>by cases h
 | _ :: _,_ :: _,[],_,h=>by cases h
 | a :: x,b :: y,c :: z,h1,h2=>by
  simp only [y8] at h1 h2 ⊢;by_cases e1:a=b
  ·subst e1;simp only [if_true] at h1;by_cases e2:a=c
   ·subst e2;simp only [if_true] at h2 ⊢;exact pA ir tr x y z h1 h2
   ·rw [if_neg e2] at h2 ⊢; exact h2
  ·rw [if_neg e1] at h1;by_cases e2:b=c
   ·subst e2;rw [if_neg e1]; exact h1
   ·rw [if_neg e2] at h2;have h3:=tr _ _ _ h1 h2;rw [if_neg (by rintro rfl; rw [ir] at h3; cases h3)]; exact h3
end
theorem uZ{α:Type} [DecidableEq α] [Enc α] [cj α]:∀ (x y:List α),mP (x.map enc) (y.map enc)=u5 (cj.lt (α:=α)) x y
 | [],[]=>rfl
 | [],_ :: _=>rfl
 | _ :: _,[]=>rfl
 | a :: x,b :: y=>by simp only [au,pz,y8,Enc.eqv,uZ x y,cj.RW,decide_eq_true_eq]
theorem BE{α:Type} [DecidableEq α] [Enc α] [cj α]:∀ (x:List α),gY (cj.Ek α) (x.map enc)=true
 | []=>rfl
 | a :: x=>by simp only [au,gY,cj.Kn,BE x,Bool.and_self]
noncomputable instance {α:Type} [DecidableEq α] [Enc α] [cj α]:cj (List α) where
 lt:=u5 cj.lt
 Ek:=.lst (cj.Ek α)
 Kn:=fun a=>BE a
 RW:=fun a b=>uZ a b
 OW:=u4
 trans:=pA cj.OW cj.trans
 Oi:=u3 cj.Oi
noncomputable def T2.l(t:T2):List Int:=[t.a,t.b]
noncomputable def T3.l(t:T3):List Int:=[t.a,t.b,t.c]
noncomputable instance:cj T2 where
 lt:=fun x y=>u5 (fun a b=>decide (a < b)) x.l y.l
 Ek:=.tup [.int,.int]
 Kn:=fun _=>rfl
 RW:=fun a b=>uZ a.l b.l
 OW:=fun a=>u4 _
 trans:=fun a b c=>pA (α:=Int) cj.OW cj.trans _ _ _
 Oi:=fun ⟨a,b⟩ ⟨c,d⟩ h1 h2=>by
  have:=u3 (α:=Int) cj.Oi _ _ h1 h2;simpa [T2.l] using this
noncomputable instance:cj T3 where
 lt:=fun x y=>u5 (fun a b=>decide (a < b)) x.l y.l
 Ek:=.tup [.int,.int,.int]
 Kn:=fun _=>rfl
 RW:=fun a b=>uZ a.l b.l
 OW:=fun a=>u4 _
 trans:=fun a b c=>pA (α:=Int) cj.OW cj.trans _ _ _
 Oi:=fun ⟨a,b,e⟩ ⟨c,d,f⟩ h1 h2=>by
  have:=u3 (α:=Int) cj.Oi _ _ h1 h2;simpa [T3.l] using this
section
variable {α:Type} [DecidableEq α] [Enc α] [cj α]
noncomputable def EU(a b:α):Bool:=!cj.lt b a
noncomputable def NN(xs:List α):List α:=xs.mergeSort EU
theorem JH(xs:List α):qy (xs.map enc)=(NN xs).map enc:=by
 unfold qy NN;symm;exact List.map_mergeSort fun a _ b _=>by unfold EU NQ; rw [cj.RW]
theorem Bz(a b c:α)(h1:EU a b=true)(h2:EU b c=true):EU a c=true:=by
 unfold EU at *;simp only [Bool.not_eq_true'] at *;cases h:cj.lt c a with
 | false=>rfl
 | true =>
  by_cases e:a=b
  ·subst e; rw [h] at h2; cases h2
  ·have hab:cj.lt a b=true:=by
    cases q:cj.lt a b with
    | true=>rfl
    | false=>exact absurd (cj.Oi _ _ q h1) e
   rw [cj.trans _ _ _ h hab] at h2; cases h2
theorem ET(a b:α)(h1:EU a b=true)(h2:EU b a=true):a=b:=by
 unfold EU at *;exact cj.Oi a b (by simpa using h2) (by simpa using h1)
theorem Ei(xs:List α):(NN xs).Perm xs:=List.mergeSort_perm xs EU
theorem Om{xs:List α}{x:α}:x∈NN xs↔x∈xs:=(Ei xs).mem_iff
theorem Oo(xs:List α):(NN xs).length=xs.length:=(Ei xs).length_eq
end
end K2
end
section
namespace K2
open PySem (Str)
mutual
theorem kQ:∀ (sh:nC) (a:D),c7 sh a=true->iQ a a=true
 | .int,.int i,_=>by show (i == i)=true; exact beq_self_eq_true i
 | .tup l,.tup xs,h=>by show kc xs xs=true; exact xi l xs h
 | .lst l,.eY xs,h=>by show kc xs xs=true; exact xj l xs h
theorem xi:∀ (l:List nC) (xs:List D),fx l xs=true->kc xs xs=true
 | [],[],_=>rfl
 | s :: l,x :: xs,h=>by
  have h:(c7 s x&&fx l xs)=true:=h;rw [aU] at h;show (iQ x x&&kc xs xs)=true;rw [kQ s x h.1,xi l xs h.2]; rfl
theorem xj:∀ (s:nC) (xs:List D),gY s xs=true->kc xs xs=true
 | _,[],_=>rfl
 | s,x :: xs,h=>by
  have h:(c7 s x&&gY s xs)=true:=h;rw [aU] at h;show (iQ x x&&kc xs xs)=true;rw [kQ s x h.1,xj s xs h.2]; rfl
end
theorem Ru(s:nC)(ih:∀ (a b:D),c7 s a=true->c7 s b=true->iQ a b=true->a=b):∀ (xs ys:List D),gY s xs=true->gY s ys=true->kc xs ys=true->xs=ys:=by
 intro xs;induction xs with
 | nil=>intro ys _ _ h; cases ys with
  | nil=>rfl
  | cons _ _=>cases h
 | cons x xs Ts =>
  intro ys h1 h2 h;cases ys with
  | nil=>cases h
  | cons y ys =>
   have h1:(c7 s x&&gY s xs)=true:=h1;have h2:(c7 s y&&gY s ys)=true:=h2;have h:(iQ x y&&kc xs ys)=true:=h;rw [aU] at h1 h2 h;rw [ih x y h1.1 h2.1 h.1,Ts ys h1.2 h2.2 h.2]
mutual
theorem pZ:∀ (sh:nC) (a b:D),c7 sh a=true->c7 sh b=true->iQ a b=true->a=b
 | .int,a,b,h1,h2,h=>by
  first | obtain⟨_,rfl⟩:=dD h1 | obtain⟨_,rfl⟩:=dA h1 | obtain⟨_,rfl⟩:=dB h1
  first | obtain⟨_,rfl⟩:=dD h2 | obtain⟨_,rfl⟩:=dA h2 | obtain⟨_,rfl⟩:=dB h2
  rw [rh] at h; rw [beq_iff_eq.mp h]
 | .tup l,a,b,h1,h2,h=>by
  first | obtain⟨_,rfl⟩:=dD h1 | obtain⟨_,rfl⟩:=dA h1 | obtain⟨_,rfl⟩:=dB h1
  first | obtain⟨_,rfl⟩:=dD h2 | obtain⟨_,rfl⟩:=dA h2 | obtain⟨_,rfl⟩:=dB h2
  rw [MY l _ _ h1 h2 h]
 | .lst l,a,b,h1,h2,h=>by
  first | obtain⟨_,rfl⟩:=dD h1 | obtain⟨_,rfl⟩:=dA h1 | obtain⟨_,rfl⟩:=dB h1
  first | obtain⟨_,rfl⟩:=dD h2 | obtain⟨_,rfl⟩:=dA h2 | obtain⟨_,rfl⟩:=dB h2
  rw [Ru l (pZ l) _ _ h1 h2 h]
theorem MY:∀ (l:List nC) (xs ys:List D),fx l xs=true->fx l ys=true->kc xs ys=true->xs=ys
 | [],xs,ys,h1,h2,_=>by
  cases xs with
  | nil=>cases ys with
   | nil=>rfl
   | cons _ _=>cases h2
  | cons _ _=>cases h1
 | s :: l,xs,ys,h1,h2,h=>by
  cases xs with
  | nil=>cases h1
  | cons x xs =>
   cases ys with
   | nil=>cases h2
   | cons y ys =>
    have h1:(c7 s x&&fx l xs)=true:=h1;have h2:(c7 s y&&fx l ys)=true:=h2;have h:(iQ x y&&kc xs ys)=true:=h;rw [aU] at h1 h2 h;rw [pZ s x y h1.1 h2.1 h.1,MY l xs ys h1.2 h2.2 h.2]
end
theorem Mh(s:nC)(ih:∀ (a b:D),c7 s a=true->c7 s b=true->oX a b=false->oX b a=false->a=b):∀ (xs ys:List D),gY s xs=true->gY s ys=true->mP xs ys=false->mP ys xs=false->xs=ys:=by
 intro xs;induction xs with
 | nil=>intro ys _ _ h _; cases ys with
  | nil=>rfl
  | cons _ _=>cases h
 | cons x xs Ts =>
  intro ys h1 h2 h3 h4;cases ys with
  | nil=>cases h4
  | cons y ys =>
   have h1:(c7 s x&&gY s xs)=true:=h1;have h2:(c7 s y&&gY s ys)=true:=h2;rw [aU] at h1 h2;simp only [pz] at h3 h4;by_cases e:iQ x y=true
   ·have XG:=pZ s x y h1.1 h2.1 e;subst XG;rw [if_pos e] at h3 h4;rw [Ts ys h1.2 h2.2 h3 h4]
   ·rw [if_neg e] at h3;by_cases e2:iQ y x=true
    ·have:=pZ s y x h2.1 h1.1 e2;subst this; exact absurd e2 e
    ·rw [if_neg e2] at h4;have:=ih x y h1.1 h2.1 h3 h4;subst this;exact absurd (kQ s x h1.1) e
mutual
theorem x8:∀ (sh:nC) (a b:D),c7 sh a=true->c7 sh b=true->oX a b=false->oX b a=false->a=b
 | .int,a,b,h1,h2,h3,h4=>by
  first | obtain⟨_,rfl⟩:=dD h1 | obtain⟨_,rfl⟩:=dA h1 | obtain⟨_,rfl⟩:=dB h1
  first | obtain⟨_,rfl⟩:=dD h2 | obtain⟨_,rfl⟩:=dA h2 | obtain⟨_,rfl⟩:=dB h2
  simp [Mi] at h3 h4; congr 1; lia
 | .tup l,a,b,h1,h2,h3,h4=>by
  first | obtain⟨_,rfl⟩:=dD h1 | obtain⟨_,rfl⟩:=dA h1 | obtain⟨_,rfl⟩:=dB h1
  first | obtain⟨_,rfl⟩:=dD h2 | obtain⟨_,rfl⟩:=dA h2 | obtain⟨_,rfl⟩:=dB h2
  rw [EN l _ _ h1 h2 h3 h4]
 | .lst l,a,b,h1,h2,h3,h4=>by
  first | obtain⟨_,rfl⟩:=dD h1 | obtain⟨_,rfl⟩:=dA h1 | obtain⟨_,rfl⟩:=dB h1
  first | obtain⟨_,rfl⟩:=dD h2 | obtain⟨_,rfl⟩:=dA h2 | obtain⟨_,rfl⟩:=dB h2
  rw [Mh l (x8 l) _ _ h1 h2 h3 h4]
theorem EN:∀ (l:List nC) (xs ys:List D),fx l xs=true->fx l ys=true->mP xs ys=false->mP ys xs=false->xs=ys
 | [],xs,ys,h1,h2,_,_=>by
  cases xs with
  | nil=>cases ys with
   | nil=>rfl
   | cons _ _=>cases h2
  | cons _ _=>cases h1
 | s :: l,xs,ys,h1,h2,h3,h4=>by
  cases xs with
  | nil=>cases h1
  | cons x xs =>
   cases ys with
   | nil=>cases h2
   | cons y ys =>
    have h1:(c7 s x&&fx l xs)=true:=h1;have h2:(c7 s y&&fx l ys)=true:=h2;rw [aU] at h1 h2;simp only [pz] at h3 h4;by_cases e:iQ x y=true
    ·have XG:=pZ s x y h1.1 h2.1 e;subst XG;rw [if_pos e] at h3 h4;rw [EN l xs ys h1.2 h2.2 h3 h4]
    ·rw [if_neg e] at h3;by_cases e2:iQ y x=true
     ·have:=pZ s y x h2.1 h1.1 e2;subst this; exact absurd e2 e
     ·rw [if_neg e2] at h4;have:=x8 s x y h1.1 h2.1 h3 h4;subst this;exact absurd (kQ s x h1.1) e
end
mutual
theorem CM:∀ (sh:nC) (a:D),c7 sh a=true->oX a a=false
 | .int,.int i,_=>by rw [Mi]; exact decide_eq_false (Int.lt_irrefl _)
 | .tup l,.tup xs,h=>by show mP xs xs=false; exact EO l xs h
 | .lst l,.eY xs,h=>by show mP xs xs=false; exact ER l xs h
theorem EO:∀ (l:List nC) (xs:List D),fx l xs=true->mP xs xs=false
 | [],[],_=>rfl
 | s :: l,x :: xs,h=>by
  have h:(c7 s x&&fx l xs)=true:=h;rw [aU] at h;simp only [pz,kQ s x h.1,if_true]; exact EO l xs h.2
theorem ER:∀ (s:nC) (xs:List D),gY s xs=true->mP xs xs=false
 | _,[],_=>rfl
 | s,x :: xs,h=>by
  have h:(c7 s x&&gY s xs)=true:=h;rw [aU] at h;simp only [pz,kQ s x h.1,if_true]; exact ER s xs h.2
end
theorem GY(s:nC)(ih:∀ (a b c:D),c7 s a=true->c7 s b=true->c7 s c=true->oX a b=true->oX b c=true->oX a c=true):∀ (xs ys zs:List D),gY s xs=true->gY s ys=true->gY s zs=true->mP xs ys=true->mP ys zs=true->mP xs zs=true:=by
 intro xs;induction xs with
 | nil =>
  intro ys zs _ _ _ h4 h5;cases ys with
  | nil=>cases h4
  | cons _ _=>cases zs with
   | nil=>cases h5
   | cons _ _=>rfl
 | cons x xs Ts =>
  intro ys zs h1 h2 h3 h4 h5;cases ys with
  | nil=>cases h4
  | cons y ys =>
   cases zs with
   | nil=>cases h5
   | cons z zs =>
    have h1:(c7 s x&&gY s xs)=true:=h1;have h2:(c7 s y&&gY s ys)=true:=h2;have h3:(c7 s z&&gY s zs)=true:=h3;rw [aU] at h1 h2 h3;simp only [pz] at h4 h5 ⊢;by_cases e1:iQ x y=true
    ·have:=pZ s x y h1.1 h2.1 e1;subst this;rw [if_pos e1] at h4;by_cases e2:iQ x z=true
     ·rw [if_pos e2] at h5 ⊢;exact Ts ys zs h1.2 h2.2 h3.2 h4 h5
     ·rw [if_neg e2] at h5 ⊢; exact h5
    ·rw [if_neg e1] at h4;by_cases e2:iQ y z=true
     ·have:=pZ s y z h2.1 h3.1 e2;subst this;rw [if_neg e1]; exact h4
     ·rw [if_neg e2] at h5;have h6:=ih x y z h1.1 h2.1 h3.1 h4 h5;rw [if_neg (fun e3=>by
       have:=pZ s x z h1.1 h3.1 e3;subst this;rw [CM s x h1.1] at h6; cases h6)]
      exact h6
mutual
theorem rX:∀ (sh:nC) (a b c:D),c7 sh a=true->c7 sh b=true->c7 sh c=true->oX a b=true->oX b c=true->oX a c=true
 | .int,a,b,c,h1,h2,h3,h4,h5=>by
  first | obtain⟨_,rfl⟩:=dD h1 | obtain⟨_,rfl⟩:=dA h1 | obtain⟨_,rfl⟩:=dB h1
  first | obtain⟨_,rfl⟩:=dD h2 | obtain⟨_,rfl⟩:=dA h2 | obtain⟨_,rfl⟩:=dB h2
  first | obtain⟨_,rfl⟩:=dD h3 | obtain⟨_,rfl⟩:=dA h3 | obtain⟨_,rfl⟩:=dB h3
  simp [Mi] at *; lia
 | .tup l,a,b,c,h1,h2,h3,h4,h5=>by
  first | obtain⟨_,rfl⟩:=dD h1 | obtain⟨_,rfl⟩:=dA h1 | obtain⟨_,rfl⟩:=dB h1
  first | obtain⟨_,rfl⟩:=dD h2 | obtain⟨_,rfl⟩:=dA h2 | obtain⟨_,rfl⟩:=dB h2
  first | obtain⟨_,rfl⟩:=dD h3 | obtain⟨_,rfl⟩:=dA h3 | obtain⟨_,rfl⟩:=dB h3
  exact yV l _ _ _ h1 h2 h3 h4 h5
 | .lst l,a,b,c,h1,h2,h3,h4,h5=>by
  first | obtain⟨_,rfl⟩:=dD h1 | obtain⟨_,rfl⟩:=dA h1 | obtain⟨_,rfl⟩:=dB h1
  first | obtain⟨_,rfl⟩:=dD h2 | obtain⟨_,rfl⟩:=dA h2 | obtain⟨_,rfl⟩:=dB h2
  first | obtain⟨_,rfl⟩:=dD h3 | obtain⟨_,rfl⟩:=dA h3 | obtain⟨_,rfl⟩:=dB h3
  exact GY l (rX l) _ _ _ h1 h2 h3 h4 h5
theorem yV:∀ (l:List nC) (xs ys zs:List D),fx l xs=true->fx l ys=true->fx l zs=true->mP xs ys=true->mP ys zs=true->mP xs zs=true
 | [],xs,ys,zs,h1,h2,_,h,_=>by
  cases xs with
  | nil=>cases ys with
   | nil=>cases h
   | cons _ _=>cases h2
  | cons _ _=>cases h1
 | s :: l,xs,ys,zs,h1,h2,h3,h4,h5=>by
  cases xs with
  | nil=>cases h1
  | cons x xs =>
   cases ys with
   | nil=>cases h2
   | cons y ys =>
    cases zs with
    | nil=>cases h3
    | cons z zs =>
     have h1:(c7 s x&&fx l xs)=true:=h1;have h2:(c7 s y&&fx l ys)=true:=h2;have h3:(c7 s z&&fx l zs)=true:=h3;rw [aU] at h1 h2 h3;simp only [pz] at h4 h5 ⊢;by_cases e1:iQ x y=true
     ·have:=pZ s x y h1.1 h2.1 e1;subst this;rw [if_pos e1] at h4;by_cases e2:iQ x z=true
      ·rw [if_pos e2] at h5 ⊢;exact yV l xs ys zs h1.2 h2.2 h3.2 h4 h5
      ·rw [if_neg e2] at h5 ⊢; exact h5
     ·rw [if_neg e1] at h4;by_cases e2:iQ y z=true
      ·have:=pZ s y z h2.1 h3.1 e2;subst this;rw [if_neg e1]; exact h4
      ·rw [if_neg e2] at h5;have h6:=rX s x y z h1.1 h2.1 h3.1 h4 h5;rw [if_neg (fun e3=>by
        have:=pZ s x z h1.1 h3.1 e3;subst this;rw [CM s x h1.1] at h6; cases h6)]
       exact h6
end
theorem Bv(sh:nC){a b:D}(h1:c7 sh a=true)(h2:c7 sh b=true)(h:oX a b=true):oX b a=false:=by
 cases q:oX b a with
 | false=>rfl
 | true=>have:=rX sh a b a h1 h2 h1 h q; rw [CM sh a h1] at this; cases this
theorem yW(sh:nC){a b c:D}(h1:c7 sh a=true)(h2:c7 sh b=true)(h3:c7 sh c=true)(q1:oX b a=false)(q2:oX c b=false):oX c a=false:=by
 cases h:oX c a with
 | false=>rfl
 | true =>
  exfalso;cases q:oX a b with
  | false =>
   have:=x8 sh a b h1 h2 q q1;subst this; rw [h] at q2; cases q2
  | true=>rw [rX sh c a b h3 h1 h2 h q] at q2; cases q2
theorem ud(sh:nC){xs ys:List D}(hx:∀ x∈xs,c7 sh x=true)(hp:ys.Perm xs)(hs:ys.Pairwise fun a b=>oX b a=false):qy xs=ys:=by
 have hy:∀ y∈ys,c7 sh y=true:=fun y h=>hx y (hp.mem_iff.mp h);have p1:(qy xs).Perm xs:=List.mergeSort_perm xs NQ;have hz:∀ z∈qy xs,c7 sh z=true:=fun z h=>hx z (p1.mem_iff.mp h);have s1:(qy xs).Pairwise fun a b=>oX b a=false:=by
  let Sq:List { d:D // c7 sh d=true }:=xs.attach.map fun x=>⟨x.1,hx x.1 x.2⟩
  have ex:xs=Sq.map (·.1):=by
   simp only [Sq,jD]
   conv=>lhs; rw [<-List.attach_map_subtype_val xs]
   rfl
  have e2:qy xs=(Sq.mergeSort fun a b=>NQ a.1 b.1).map (·.1):=by
   unfold qy;rw [ex];exact(List.map_mergeSort (r:=fun (a b:{ d:D // c7 sh d=true })=>NQ a.1 b.1) (s:=NQ) (f:=fun x=>x.1) (l:=Sq) fun a _ b _=>rfl).symm
  rw [e2,rP]
  have:=List.pairwise_mergeSort (le:=fun (a b:{ d:D // c7 sh d=true })=>NQ a.1 b.1) (fun a b c h1 h2=>by
   unfold NQ at *;simp only [Bool.not_eq_true'] at *;exact yW sh a.2 b.2 c.2 h1 h2) (fun a b=>by
   unfold NQ;cases q:oX b.1 a.1 with
   | false=>rfl
   | true=>rw [Bv sh b.2 a.2 q]; rfl) Sq
  exact this.imp fun h=>by unfold NQ at h; simpa using h
 refine List.Perm.eq_of_pairwise (le:=fun a b=>oX b a=false) (fun a b ha hb h h'=>?_) s1 hs (p1.trans hp.symm);exact x8 sh a b (hz a ha) (hy b hb) h' h
end K2
end
section
namespace K2
open PySem (Str)
open Enc (enc)
noncomputable def mz(k:Nat):List D->List D
 | []=>[]
 | d :: r=>.tup [.int (k:Int),d] :: mz (k+1) r
theorem BL:∀ (ds:List D) (k i:Nat),(mz k ds)[i]?=(ds[i]?).map fun d=>D.tup [.int ((k+i:Nat):Int),d]
 | [],k,i=>by simp [mz]
 | d :: r,k,0=>by simp [mz]
 | d :: r,k,i+1=>by
  rw [mz,ae,BL r (k+1) i,ae];congr 1; funext x; congr 3; lia
theorem BK:∀ (ds:List D) (k:Nat),(mz k ds).length=ds.length
 | [],_=>rfl
 | d :: r,k=>by rw [mz,ag,ag,BK r]
noncomputable def u7(x:D)(G1:Gp)(R:List D->(Gp->Prop)->Gp->Prop):Prop:=match x with
 | .eY ds=>R (mz 0 ds) (fun _=>True) G1
 | .ref p=>(match G1 p with
  | some (.lst ds)=>R (mz 0 ds) (fun G2=>G2 p=some (.lst ds)) G1
  | _=>False)
 | _=>False
noncomputable def MB(a:gH):Ny:=fun E τ G R=>a E τ G fun x G1=>u7 x G1 R
noncomputable def SY(P:D->Gp->Prop):List D->Gp->Prop
 | [x],G=>P x G
 | _,_=>False
noncomputable def V3(P:D->D->Gp->Prop):List D->Gp->Prop
 | [x,y],G=>P x y G
 | _,_=>False
noncomputable def sk:List D->List D->List D
 | x :: xs,y :: ys=>.tup [x,y] :: sk xs ys
 | _,_=>[]
theorem D7:∀ (xs ys:List D) (i:Nat),(sk xs ys)[i]?=(xs[i]?).bind fun x=>(ys[i]?).map fun y=>D.tup [x,y]
 | [],ys,i=>by simp [sk]
 | x :: xs,[],i=>by cases h:(x :: xs)[i]? <;> simp [sk]
 | x :: xs,y :: ys,0=>by simp [sk]
 | x :: xs,y :: ys,i+1=>by rw [sk,ae,D7 xs ys i,ae,ae]
theorem D6:∀ (xs ys:List D),(sk xs ys).length=min xs.length ys.length
 | [],ys=>by simp [sk]
 | x :: xs,[]=>by simp [sk]
 | x :: xs,y :: ys=>by rw [sk,ag,D6 xs ys,ag,ag]; lia
noncomputable def yY(x:D)(G:Gp):Option (List D×(Gp->Prop)):=match x with
 | .eY ds=>some (ds,fun _=>True)
 | .ref p=>(match G p with
  | some (.lst ds)=>some (ds,fun G2=>G2 p=some (.lst ds))
  | _=>none)
 | _=>none
noncomputable def zg(x y:D)(G1:Gp)(R:List D->(Gp->Prop)->Gp->Prop):Prop:=match yY x G1,yY y G1 with
 | some (xs,k1),some (ys,k2)=>R (sk xs ys) (fun G2=>k1 G2/\k2 G2) G1
 | _,_=>False
noncomputable def QX(a b:gH):Ny:=fun E τ G R=>a E τ G fun x G1=>b E τ G1 fun y G2=>zg x y G2 R
noncomputable def IsL(G:Gp)(d:D)(ds:List D):Prop:=d=.eY ds\/∃ a,d=.ref a/\G a=some (.lst ds)
theorem IsL.enc{α:Type} [DecidableEq α] [Enc α]{G:Gp}(xs:List α):IsL G (enc xs) (xs.map enc):=.inl rfl
theorem IsL.ref{G:Gp}{a:Nat}{ds:List D}(h:G a=some (.lst ds)):IsL G (.ref a) ds:=.inr ⟨a,rfl,h⟩
theorem IsL.mono{G G':Gp}{d:D}{ds:List D}(h:IsL G d ds)(l:fy G G'):IsL G' d ds:=by
 rcases h with h | ⟨a,h,e⟩
 ·exact .inl h
 ·exact .inr ⟨a,h,l a _ e⟩
theorem QZ{G:Gp}{d:D}{ds:List D}{R:List D->(Gp->Prop)->Gp->Prop}(h:IsL G d ds)(k:∀ ok:Gp->Prop,(∀ G',fy G G'->ok G')->R ds ok G):NR d G R:=by
 rcases h with rfl | ⟨a,rfl,e⟩
 ·exact k _ fun _ _=>trivial
 ·rw [nh e]; exact k _ fun G' l=>l a _ e
theorem IW {G:Gp} {d:D} {ds:List D} {C:String} {Q:DK} (h:IsL G d ds) (k:Q (.bl (C == "list")) G):isAt C d G Q:=by
 rcases h with rfl | ⟨a,rfl,e⟩
 ·exact k
 ·rw [Mw e]; exact k
theorem yv{G:Gp}{d:D}{ds:List D}{Q:Bool->Gp->Prop}(h:IsL G d ds)(k:Q (!ds.isEmpty) G):sN d G Q:=by
 rcases h with rfl | ⟨a,rfl,e⟩
 ·exact k
 ·rw [Bi e]; exact k
theorem ze{G:Gp}{d:D}{ds:List D}(h:IsL G d ds):itemsOf d G=some ds:=by
 rcases h with rfl | ⟨a,rfl,e⟩
 ·rfl
 ·unfold itemsOf; simp only [e]
theorem P9{G:Gp}{d:D}{ds:List D}(h:IsL G d ds):t9 d G:=by
 rcases h with rfl | ⟨a,rfl,e⟩
 ·trivial
 ·unfold t9; simp only [e]
theorem nJ{G:Gp}{d:D}{ds:List D}{lo hi:Option Int}{Q:DK}(h:IsL G d ds)(k:lr G (.lst (cut ds lo hi)) Q):LX d lo hi G Q:=by
 rcases h with rfl | ⟨a,rfl,e⟩
 ·exact k
 ·rw [Ow e]; exact k
theorem gF{G:Gp}{d:D}{ds:List D}{Q:DK}(h:IsL G d ds)(k:Q (.int (ds.length:Int)) G):iB [d] G Q:=by
 rcases h with rfl | ⟨a,rfl,e⟩
 ·exact k
 ·rw [Nl e]; exact k
theorem zN{G:Gp}{d:D}{ds:List D}{Q:DK}(h:IsL G d ds)(k:lr G (.lst ds) Q):qa [d] G Q:=by
 unfold qa; simp only [ze h]; exact k
theorem HL{α:Type} [DecidableEq α] [Enc α] [cj α]{G:Gp}{d:D}{xs:List α}{Q:DK}(h:IsL G d (xs.map enc))(hl:xs.length < 64)(k:lr G (.lst ((NN xs).map enc)) Q)(ok:autoParam (QE (cj.Ek α)=true) Ad._auto_1):yg [d] G Q :=
 ⟨cj.Ek α,xs.map enc,P9 h,ze h,by rw [NI,DU]; intro x _; exact cj.Kn x,ok,by rw [av]; exact hl,by rw [JH]; exact k⟩
theorem ie{G:Gp}{d x:D}{ds:List D}{i:Int}{Q:DK}(h:IsL G d ds)(e:oY ds i=some x)(k:Q x G):eW d (.int i) G Q:=by
 rcases h with rfl | ⟨a,rfl,e2⟩
 ·rw [Ox e]; exact k
 ·rw [Oz e2 e]; exact k
theorem mr{G:Gp}{d:D}{ds:List D}(h:IsL G d ds):u0 d G=some ds:=by
 rcases h with rfl | ⟨a,rfl,e⟩
 ·rfl
 ·unfold u0; simp only [e]
theorem Pd{G:Gp}{d e:D}{ds es:List D}{Q:DK}(h:IsL G d ds)(h':IsL G e es)(hz:ds.length+es.length<=SZ)(k:lr G (.lst (ds++es)) Q):zP d e G Q:=by
 unfold zP; simp only [mr h,mr h']; exact⟨hz,k⟩
theorem uT{G:Gp}{d e:D}{ds es:List D}{Q:DK}(h:IsL G d ds)(h':IsL G e es)(hz:ds.length+es.length<=SZ)(k:lr G (.lst (ds++es)) Q):kA d e G Q:=by
 have:=Pd h h' hz k;rcases h with rfl | ⟨a,rfl,_⟩
 ·rw [qL]; exact this
 ·rw [oE]; exact this
theorem zJ{α:Type}(xs:List α)(i:Nat)(h:i<=xs.length):cut xs (some (i:Int)) none=xs.drop i:=by
 unfold cut jI;simp only;rw [if_neg (by lia),iI,o3 h];exact lP (by rw [cD]; lia)
theorem HK{α:Type}(xs:List α)(i:Nat)(h:i<=xs.length):cut xs none (some (i:Int))=xs.take i:=by
 unfold cut jI;simp only;rw [if_neg (by lia),iI,o3 h];simp
theorem nj{α β:Type}(f:α->β)(xs:List α)(lo hi:Option Int):cut (xs.map f) lo hi=(cut xs lo hi).map f:=by
 unfold cut; rw [av,sI,sJ]
theorem gG{α:Type}(xs:List α){k:Int}(h0:0<=k)(h1:k < xs.length):oY xs k=some (xs[k.toNat]'(by lia)):=by
 unfold oY Hd;rw [if_pos h0,if_pos h1];show xs[k.toNat]?=_;exact aM (by lia)
theorem o9{n:Nat}{pre post:List D}{d:D}(h:eN 0 n=pre++d :: post):d=.int (pre.length:Int)/\pre.length < n:=by
 have hl:pre.length < n:=by
  have:=congrArg dh h;simp [eN] at this; lia
 have:=congrArg (fun l=>l[pre.length]?) h;simp only [eN,dq,xS hl] at this;rw [bF (aQ _)] at this;simp at this;exact⟨this.symm,hl⟩
noncomputable def Qf{α β:Type} [DecidableEq α] [Enc α] [DecidableEq β] [Enc β](pre:α->Prop)(f:α->β):jk:=fun ds G Q _=>∃ a:α,ds=[enc a]/\pre a/\Q (enc (f a)) G
noncomputable def Sy{α β γ:Type} [DecidableEq α] [Enc α] [DecidableEq β] [Enc β] [DecidableEq γ] [Enc γ](pre:α->β->Prop)(f:α->β->γ):jk:=fun ds G Q _=>∃ (a:α) (b:β),ds=[enc a,enc b]/\pre a b/\Q (enc (f a b)) G
end K2
end
section
namespace K2
open PySem (Str)
open Enc (enc)
noncomputable abbrev TF2:=lL->ib->Gp->(List Str->Gp->Prop)->Prop
end K2
end
section
namespace K2
open PySem (Str)
open Enc (enc)
noncomputable def h2(t:T2):Int:=PySem.reduceHash (PySem.Builtin.Tuple.tupleHashOf [PySem.hashInt t.a,PySem.hashInt t.b])
end K2
end
section
namespace K2
open Enc (enc)
noncomputable def XR(lt:Nat->Nat->Bool):Nat->Nat
 | 0=>0
 | j+1=>if lt (j+1) (XR lt j)=true then j+1 else XR lt j
end K2
end
section
namespace K2
open PySem (Str)
noncomputable def Nu(al:List Str)(f:Str)(x:D)(G:Gp)(Q:DK):Prop:=∃ a c fs d,x=.ref a/\G a=some (.ins c fs)/\c∈al/\fs.lookup f=some d/\Q d G
noncomputable def fV(al:List Str)(f:Str)(te:gH):gH:=fun E τ G Q=>te E τ G fun x G1=>Nu al f x G1 Q
end K2
namespace K2
open PySem (Str)
noncomputable def putD(f:Str)(d:D):List (Str×D)->List (Str×D)
 | []=>[(f,d)]
 | (g,x) :: r=>if g=f then (g,d) :: r else (g,x) :: putD f d r
noncomputable def ke(al:List Str)(f:Str)(to tv:gH):fY:=fun E K τ G=>tv E τ G fun d G1=>to E τ G1 fun x G2=>∃ a c fs,x=.ref a/\G2 a=some (.ins c fs)/\c∈al/\fs.length < 1000/\K.nx τ (cH G2 a (.ins c (putD f d fs)))
noncomputable def kg(c:Str)(sp:jk)(t:BX):gH:=fun E τ G Q=>t E τ G fun ds G1=>∀ p,G1 p=none->sp (.ref p :: ds) (cH G1 p (.ins c [])) (fun v G2=>v=.dQ/\Q (.ref p) G2) fun _ _=>False
end K2
namespace K2
open PySem (Str)
noncomputable def gL(ms:List (Str×jk))(m:Str)(to:gH)(t:BX):gH:=fun E τ G Q=>to E τ G fun x G1=>∃ a c fs sp,x=.ref a/\G1 a=some (.ins c fs)/\(c,sp)∈ms/\fs.lookup m=none/\t E τ G1 fun ds G2=>sp (x :: ds) G2 Q fun _ _=>False
end K2
end
section
namespace K2
open PySem (Str)
noncomputable def QY(a:gH):Ny:=fun E τ G R=>a E τ G fun x G1=>match x with
 | .eY ds=>R ds.reverse (fun _=>True) G1
 | _=>False
end K2
end
section
namespace K2
open PySem PySem.Spec PyProof.Rows L2
noncomputable def R6(K:ao)(H:Hp)(a:Addr)(xs:List V):Prop :=
 (∃ o,H a=some (.pX o (.lst xs))) \/
  ∃ (o:Obj) (bB:Array Value) (n:Nat),K.lookup a=some o/\o.cls=.type "list"/\o.dict=none/\o.data=.seq bB n/\bB.size<=bh/\Vals xs bB.toList
theorem R6.sq{K:ao}{H:Hp}{a:Addr}{xs:List V}(h:R6 K H a xs):oZ K H a xs:=by
 rcases h with ⟨o,h⟩ | h
 ·exact .inl (.inr ⟨o,h⟩)
 ·exact .inr h
noncomputable def fQ:Key->D
 | .inl i=>.int i
 | .inr x=>.str x
noncomputable def ExcAt(K:ao)(H:Hp)(a:Addr)(c:Str):Prop:=∃ (o:Obj) (C:Addr),H a=some (.pX o (.ext fun h=>h.get? a=some o))/\o.cls=.ref C/\c5 K bo c=some (some (.ref C))
mutual
inductive cV (K:ao) (H:Hp):V->D->Prop
 | dQ:cV K H .dQ .dQ
 | bl (b:Bool):cV K H (.bl b) (.bl b)
 | int (i:Int):cV K H (.int i) (.int i)
 | str (x:Str):cV K H (.str x) (.str x)
 | tup {a:Addr} {vs:List V} {ds:List D}:H a=some (.tup vs)->br K H vs ds->cV K H (.ref a) (.tup ds)
 | eY {a:Addr} {vs:List V} {ds:List D}:R6 K H a vs->br K H vs ds->cV K H (.ref a) (.eY ds)
 | uC {a:Addr} {o:Obj} {kv:List (Key×V)} {bu:List (D×D)}:H a=some (.pX o (.dK kv))->qi K H kv bu->cV K H (.ref a) (.wV bu)
 | uB {a:Addr} {o:Obj} {kv:List (List Key×V)} {bu:List (D×D)}:H a=some (.pX o (.dT kv))->rM K H kv bu->cV K H (.ref a) (.wV bu)
 | ref (a:Addr):cV K H (.ref a) (.ref a)
 | exc {a:Addr} {c:Str}:ExcAt K H a c->cV K H (.ref a) (.exc c)
inductive br (K:ao) (H:Hp):List V->List D->Prop
 | nil:br K H [] []
 | cons {v:V} {d:D} {vs:List V} {ds:List D}:cV K H v d->br K H vs ds->br K H (v :: vs) (d :: ds)
inductive qi (K:ao) (H:Hp):List (Key×V)->List (D×D)->Prop
 | nil:qi K H [] []
 | cons {k:Key} {v:V} {d:D} {r:List (Key×V)} {t:List (D×D)}:cV K H v d->qi K H r t->qi K H ((k,v) :: r) ((fQ k,d) :: t)
inductive rM (K:ao) (H:Hp):List (List Key×V)->List (D×D)->Prop
 | nil:rM K H [] []
 | cons {k:List Key} {v:V} {d:D} {r:List (List Key×V)} {t:List (D×D)}:cV K H v d->rM K H r t->rM K H ((k,v) :: r) ((.tup (k.map fQ),d) :: t)
end
structure Kp(H H':Hp):Prop where
 tup:∀ a xs,H a=some (.tup xs)->H' a=some (.tup xs)
 pX:∀ a o u,H a=some (.pX o u)->H' a=some (.pX o u)
theorem Kp.refl(H:Hp):Kp H H:=⟨fun _ _ h=>h,fun _ _ _ h=>h⟩
theorem Kp.trans{H H1 H2:Hp}(a:Kp H H1)(b:Kp H1 H2):Kp H H2:=⟨fun c xs h=>b.tup c xs (a.tup c xs h),fun c o u h=>b.pX c o u (a.pX c o u h)⟩
theorem Kp.Z3{K:ao}{H H':Hp}{a:Addr}{xs:List V}(k:Kp H H')(h:zR K H a xs):zR K H' a xs:=by
 rcases h with (h | ⟨o,h⟩) | h
 ·exact .inl (.inl (k.tup _ _ h))
 ·exact .inl (.inr ⟨o,k.pX _ _ _ h⟩)
 ·exact .inr h
theorem Kp.Po{K:ao}{H H':Hp}{a:Addr}{xs:List V}(k:Kp H H')(h:R6 K H a xs):R6 K H' a xs:=by
 rcases h with ⟨o,h⟩ | h
 ·exact .inl ⟨o,k.pX _ _ _ h⟩
 ·exact .inr h
theorem ExcAt.mono{K:ao}{H H':Hp}(k:Kp H H'){a:Addr}{c:Str}(h:ExcAt K H a c):ExcAt K H' a c :=
 let ⟨o,C,h1,h2,h3⟩:=h
 ⟨o,C,k.pX _ _ _ h1,h2,h3⟩
theorem br.Hf{K:ao}{H:Hp}{P:List V->List D->Prop}(h0:P [] [])(h1:∀ {v:V} {d:D} {vs:List V} {ds:List D},cV K H v d->br K H vs ds->P vs ds->P (v :: vs) (d :: ds)){vs:List V}{ds:List D}(h:br K H vs ds):P vs ds :=
 br.rec (motive_1:=fun _ _ _=>True) (motive_2:=fun vs ds _=>P vs ds) (motive_3:=fun _ _ _=>True) (motive_4:=fun _ _ _=>True) trivial (fun _=>trivial) (fun _=>trivial) (fun _=>trivial) (fun _ _ _=>trivial) (fun _ _ _=>trivial) (fun _ _ _=>trivial) (fun _ _ _=>trivial) (fun _=>trivial) (fun _=>trivial) h0 (fun a b _ ih=>h1 a b ih) trivial (fun _ _ _ _=>trivial) trivial (fun _ _ _ _=>trivial) h
theorem cV.mono{K:ao}{H H':Hp}(k:Kp H H'):∀ {v:V} {d:D},cV K H v d->cV K H' v d:=fun h =>
 cV.rec (motive_1:=fun v d _=>cV K H' v d) (motive_2:=fun v d _=>br K H' v d) (motive_3:=fun v d _=>qi K H' v d) (motive_4:=fun v d _=>rM K H' v d)
  .dQ .bl .int .str (fun h _ r=>.tup (k.tup _ _ h) r) (fun h _ r=>.eY (k.Po h) r) (fun h _ r=>.uC (k.pX _ _ _ h) r) (fun h _ r=>.uB (k.pX _ _ _ h) r) .ref (fun h=>.exc (h.mono k)) .nil (fun _ _ a b=>.cons a b) .nil (fun _ _ a b=>.cons a b) .nil (fun _ _ a b=>.cons a b) h
theorem br.mono{K:ao}{H H':Hp}(k:Kp H H'){v:List V}{d:List D}(h:br K H v d):br K H' v d :=
 br.Hf (P:=fun v d=>br K H' v d) .nil (fun r _ ih=>.cons (r.mono k) ih) h
theorem qi.mono{K:ao}{H H':Hp}(k:Kp H H'){v:List (Key×V)}{d:List (D×D)}(h:qi K H v d):qi K H' v d :=
 qi.rec (motive_1:=fun v d _=>cV K H' v d) (motive_2:=fun v d _=>br K H' v d) (motive_3:=fun v d _=>qi K H' v d) (motive_4:=fun v d _=>rM K H' v d)
  .dQ .bl .int .str (fun h _ r=>.tup (k.tup _ _ h) r) (fun h _ r=>.eY (k.Po h) r) (fun h _ r=>.uC (k.pX _ _ _ h) r) (fun h _ r=>.uB (k.pX _ _ _ h) r) .ref (fun h=>.exc (h.mono k)) .nil (fun _ _ a b=>.cons a b) .nil (fun _ _ a b=>.cons a b) .nil (fun _ _ a b=>.cons a b) h
theorem rM.mono{K:ao}{H H':Hp}(k:Kp H H'){v:List (List Key×V)}{d:List (D×D)}(h:rM K H v d):rM K H' v d :=
 rM.rec (motive_1:=fun v d _=>cV K H' v d) (motive_2:=fun v d _=>br K H' v d) (motive_3:=fun v d _=>qi K H' v d) (motive_4:=fun v d _=>rM K H' v d)
  .dQ .bl .int .str (fun h _ r=>.tup (k.tup _ _ h) r) (fun h _ r=>.eY (k.Po h) r) (fun h _ r=>.uC (k.pX _ _ _ h) r) (fun h _ r=>.uB (k.pX _ _ _ h) r) .ref (fun h=>.exc (h.mono k)) .nil (fun _ _ a b=>.cons a b) .nil (fun _ _ a b=>.cons a b) .nil (fun _ _ a b=>.cons a b) h
theorem br.length{K:ao}{H:Hp}:∀ {vs:List V} {ds:List D},br K H vs ds->vs.length=ds.length:=fun h =>
 br.Hf (P:=fun vs ds=>vs.length=ds.length) rfl (fun _ _ ih=>congrArg (· + 1) ih) h
theorem br.get{K:ao}{H:Hp}:∀ {vs:List V} {ds:List D} {i:Nat} {d:D},br K H vs ds->ds[i]?=some d->∃ v,vs[i]?=some v/\cV K H v d:=by
 intro vs ds i d h;refine br.Hf (P:=fun vs ds=>∀ (i:Nat) (d:D),ds[i]?=some d->∃ v,vs[i]?=some v/\cV K H v d) (fun i d e=>by cases e) (fun r _ ih i d e=>?_) h i d;cases i with
 | zero=>cases e; exact⟨_,rfl,r⟩
 | succ i=>exact ih i d e
theorem br.append{K:ao}{H:Hp}:∀ {vs ws:List V} {ds es:List D},br K H vs ds->br K H ws es->br K H (vs++ws) (ds++es):=fun {_ ws _ es} h s =>
 br.Hf (P:=fun vs ds=>br K H (vs++ws) (ds++es)) s (fun r _ ih=>.cons r ih) h
theorem br.take{K:ao}{H:Hp}:∀ {vs:List V} {ds:List D} (n:Nat),br K H vs ds->br K H (vs.take n) (ds.take n):=fun {_ _} n h =>
 br.Hf (P:=fun vs ds=>∀ n,br K H (vs.take n) (ds.take n)) (fun n=>by rw [Ag,Ag]; exact .nil) (fun r _ ih n=>by
  cases n with
  | zero=>exact .nil
  | succ n=>exact .cons r (ih n)) h n
theorem br.drop{K:ao}{H:Hp}:∀ {vs:List V} {ds:List D} (n:Nat),br K H vs ds->br K H (vs.drop n) (ds.drop n):=fun {_ _} n h =>
 br.Hf (P:=fun vs ds=>∀ n,br K H (vs.drop n) (ds.drop n)) (fun n=>by rw [Ah,Ah]; exact .nil) (fun r t ih n=>by
  cases n with
  | zero=>exact .cons r t
  | succ n=>exact ih n) h n
theorem br.set{K:ao}{H:Hp}{v:V}{d:D}(r:cV K H v d):∀ {vs:List V} {ds:List D} (i:Nat),br K H vs ds->br K H (vs.set i v) (ds.set i d):=fun {_ _} i h =>
 br.Hf (P:=fun vs ds=>∀ i,br K H (vs.set i v) (ds.set i d)) (fun i=>by rw [B3,B3]; exact .nil) (fun q t ih i=>by
  cases i with
  | zero=>exact .cons r t
  | succ i=>exact .cons q (ih i)) h i
theorem br.one{K:ao}{H:Hp}:∀ {vs:List V} {d:D},br K H vs [d]->∃ v,vs=[v]/\cV K H v d:=by
 intro vs d h;cases h with
 | cons r t=>cases t; exact⟨_,rfl,r⟩
theorem br.two{K:ao}{H:Hp}:∀ {vs:List V} {d e:D},br K H vs [d,e]->∃ v u,vs=[v,u]/\cV K H v d/\cV K H u e:=by
 intro vs d e h;cases h with
 | cons r t =>
  obtain⟨u,rfl,q⟩:=br.one t;exact⟨_,_,rfl,r,q⟩
theorem br.zero{K:ao}{H:Hp}:∀ {vs:List V},br K H vs []->vs=[]
 | _,.nil=>rfl
theorem br.ints{K:ao}{H:Hp}:∀ {vs:List V} {ns:List Int},br K H vs (ns.map D.int)->vs=ns.map V.int:=by
 intro vs ns;induction ns generalizing vs with
 | nil=>intro h; exact h.zero
 | cons n ns ih =>
  intro h;cases h with
  | cons r t =>
   cases r;rw [ih t]; rfl
theorem br.IL{K:ao}{H:Hp}:∀ (ns:List Int),br K H (ns.map V.int) (ns.map D.int)
 | []=>.nil
 | n :: ns=>.cons (.int n) (br.IL ns)
theorem qi.ind{K:ao}{H:Hp}{motive:∀ (kv:List (Key×V)) (bu:List (D×D)),qi K H kv bu->Prop}(nil:motive [] [] .nil)
  (cons:∀ {k:Key} {v:V} {d:D} {r:List (Key×V)} {t:List (D×D)} (re:cV K H v d) (rs:qi K H r t),motive r t rs->motive ((k,v) :: r) ((fQ k,d) :: t) (.cons re rs)):∀ {kv:List (Key×V)} {bu:List (D×D)} (h:qi K H kv bu),motive kv bu h:=fun h =>
 qi.rec (motive_1:=fun _ _ _=>True) (motive_2:=fun _ _ _=>True) (motive_3:=motive) (motive_4:=fun _ _ _=>True) trivial (fun _=>trivial) (fun _=>trivial) (fun _=>trivial) (fun _ _ _=>trivial) (fun _ _ _=>trivial) (fun _ _ _=>trivial) (fun _ _ _=>trivial) (fun _=>trivial) (fun _=>trivial) trivial (fun _ _ _ _=>trivial) nil (fun a b _ ih=>cons a b ih) trivial (fun _ _ _ _=>trivial) h
theorem rM.ind{K:ao}{H:Hp}{motive:∀ (kv:List (List Key×V)) (bu:List (D×D)),rM K H kv bu->Prop}(nil:motive [] [] .nil)
  (cons:∀ {k:List Key} {v:V} {d:D} {r:List (List Key×V)} {t:List (D×D)} (re:cV K H v d) (rs:rM K H r t),motive r t rs->motive ((k,v) :: r) ((.tup (k.map fQ),d) :: t) (.cons re rs)):∀ {kv:List (List Key×V)} {bu:List (D×D)} (h:rM K H kv bu),motive kv bu h:=fun h =>
 rM.rec (motive_1:=fun _ _ _=>True) (motive_2:=fun _ _ _=>True) (motive_3:=fun _ _ _=>True) (motive_4:=motive) trivial (fun _=>trivial) (fun _=>trivial) (fun _=>trivial) (fun _ _ _=>trivial) (fun _ _ _=>trivial) (fun _ _ _=>trivial) (fun _ _ _=>trivial) (fun _=>trivial) (fun _=>trivial) trivial (fun _ _ _ _=>trivial) trivial (fun _ _ _ _=>trivial) nil (fun a b _ ih=>cons a b ih) h
theorem qi.length{K:ao}{H:Hp}:∀ {v:List (Key×V)} {d:List (D×D)},qi K H v d->v.length=d.length:=fun h =>
 qi.ind (motive:=fun v d _=>v.length=d.length) rfl (fun _ _ ih=>congrArg (· + 1) ih) h
theorem rM.length{K:ao}{H:Hp}:∀ {v:List (List Key×V)} {d:List (D×D)},rM K H v d->v.length=d.length:=fun h =>
 rM.ind (motive:=fun v d _=>v.length=d.length) rfl (fun _ _ ih=>congrArg (· + 1) ih) h
noncomputable def NG(K:ao)(H:Hp)(a:Addr):GO->Prop
 | .lst ds=>∃ vs,H a=some (.lst vs)/\br K H vs ds
 | .mH bu=>(∃ kv,H a=some (.dK kv)/\qi K H kv bu)\/∃ kv,H a=some (.dT kv)/\rM K H kv bu
 | .ins c fs=>∃ C dx fv,H a=some (.ins C dx fv)/\c5 K bo c=some (some (.ref C))/\fv.map (·.1)=fs.map (·.1)/\br K H (fv.map (·.2)) (fs.map (·.2))
noncomputable def mQ(K:ao)(H:Hp)(G:Gp):Prop:=∀ a g,G a=some g->NG K H a g
theorem NG.dk{K:ao}{H:Hp}{a:Addr}{kv:List (Key×V)}{bu:List (D×D)}(h:H a=some (.dK kv))(r:qi K H kv bu):NG K H a (.mH bu):=.inl ⟨kv,h,r⟩
theorem NG.mono{K:ao}{H H':Hp}{a:Addr}{g:GO}(k:Kp H H')(e:H' a=H a)(h:NG K H a g):NG K H' a g:=by
 cases g with
 | lst ds=>obtain⟨vs,q,r⟩:=h; exact⟨vs,e.trans q,r.mono k⟩
 | ins c fs=>obtain⟨C,dx,fv,q,h1,h2,r⟩:=h; exact⟨C,dx,fv,e.trans q,h1,h2,r.mono k⟩
 | mH bu =>
  rcases h with ⟨kv,q,r⟩ | ⟨kv,q,r⟩
  ·exact .inl ⟨kv,e.trans q,r.mono k⟩
  ·exact .inr ⟨kv,e.trans q,r.mono k⟩
theorem NG.tracked{K:ao}{H:Hp}{a:Addr}{g:GO}(h:NG K H a g):H a≠none:=by
 cases g with
 | lst ds=>obtain⟨vs,q,r⟩:=h; rw [q]; simp
 | ins c fs=>obtain⟨C,dx,fv,q,_⟩:=h; rw [q]; simp
 | mH bu =>
  rcases h with ⟨kv,q,r⟩ | ⟨kv,q,r⟩
  ·rw [q]; simp
  ·rw [q]; simp
theorem mQ.free{K:ao}{H:Hp}{G:Gp}{a:Addr}(h:mQ K H G)(e:H a=none):G a=none:=by
 cases q:G a with
 | none=>rfl
 | some g=>exact absurd e (h a g q).tracked
theorem mQ.Te{K:ao}{H:Hp}{G:Gp}{a:Addr}{xs:List V}(h:mQ K H G)(e:H a=some (.tup xs)):G a=none:=by
 cases q:G a with
 | none=>rfl
 | some g =>
  have z:=h a g q;cases g with
  | lst ds=>obtain⟨vs,q,r⟩:=z; rw [e] at q; cases q
  | ins c fs=>obtain⟨C,dx,fv,q,_⟩:=z; rw [e] at q; cases q
  | mH bu =>
   rcases z with ⟨kv,q,r⟩ | ⟨kv,q,r⟩
   ·rw [e] at q; cases q
   ·rw [e] at q; cases q
theorem mQ.Tf{K:ao}{H:Hp}{G:Gp}{a:Addr}{o:Obj}{u:HO}(h:mQ K H G)(e:H a=some (.pX o u)):G a=none:=by
 cases q:G a with
 | none=>rfl
 | some g =>
  have z:=h a g q;cases g with
  | lst ds=>obtain⟨vs,q,r⟩:=z; rw [e] at q; cases q
  | ins c fs=>obtain⟨C,dx,fv,q,_⟩:=z; rw [e] at q; cases q
  | mH bu =>
   rcases z with ⟨kv,q,r⟩ | ⟨kv,q,r⟩
   ·rw [e] at q; cases q
   ·rw [e] at q; cases q
structure Mv(K:ao)(H:Hp)(G:Gp)(H':Hp)(G':Gp):Prop where
 keep:∀ a o,H a=some o->G a=none->H' a=some o/\G' a=none
 nI:∀ a,G a≠none->H' a≠none
 ab:mQ K H' G'
theorem Mv.refl{K:ao}{H:Hp}{G:Gp}(h:mQ K H G):Mv K H G H G:=⟨fun _ _ e n=>⟨e,n⟩,fun a n=>by
 cases q:G a with
 | none=>exact absurd q n
 | some g=>exact(h a g q).tracked,h⟩
theorem Mv.trans{K:ao}{H H1 H2:Hp}{G G1 G2:Gp}(a:Mv K H G H1 G1)(b:Mv K H1 G1 H2 G2):Mv K H G H2 G2 :=
 ⟨fun c o e n=>let ⟨e1,n1⟩:=a.keep c o e n; b.keep c o e1 n1,fun c n=>by
  have h1:=a.nI c n;cases q:G1 c with
  | some g=>exact b.nI c (by rw [q]; simp)
  | none =>
   cases q1:H1 c with
   | none=>exact absurd q1 h1
   | some o=>rw [(b.keep c o q1 q).1]; simp,b.ab⟩
theorem Mv.kp{K:ao}{H H':Hp}{G G':Gp}(m:Mv K H G H' G')(h:mQ K H G):Kp H H' :=
 ⟨fun a xs e=>(m.keep a _ e (h.Te e)).1,fun a o u e=>(m.keep a _ e (h.Tf e)).1⟩
theorem Kp.new{H:Hp}{p:Addr}{o:HO}(hp:H p=none):Kp H (upd H p o):=⟨fun a xs e=>by rw [bZ (eP e hp)]; exact e,fun a ob u e=>by rw [bZ (eP e hp)]; exact e⟩
theorem Kp.putL{H:Hp}{p:Addr}{xs:List V}{o:HO}(hp:H p=some (.lst xs)):Kp H (upd H p o) :=
 ⟨fun a ys e=>by rw [bZ (by rintro rfl; rw [hp] at e; cases e)]; exact e,fun a ob u e=>by rw [bZ (by rintro rfl; rw [hp] at e; cases e)]; exact e⟩
theorem Mv.new{K:ao}{H:Hp}{G:Gp}{p:Addr}{o:HO}{g:GO}(h:mQ K H G)(hp:H p=none)(ho:NG K (upd H p o) p g):Mv K H G (upd H p o) (cH G p g) where
 keep:=fun a ob e n=>by
  have ne:=eP e hp;exact⟨by rw [bZ ne]; exact e,by rw [ez ne]; exact n⟩
 nI:=fun a n=>by
  have ne:a≠p:=by rintro rfl; exact n (h.free hp)
  rw [bZ ne];exact(Mv.refl h).nI a n
 ab:=fun a g' e=>by
  by_cases ha:a=p
  ·subst ha; rw [aF] at e; cases e; exact ho
  ·rw [ez ha] at e;exact(h a g' e).mono (.new hp) (bZ ha)
theorem Mv.PL{K:ao}{H:Hp}{G:Gp}{p:Addr}{o:HO}(h:mQ K H G)(hp:H p=none):Mv K H G (upd H p o) G where
 keep:=fun a ob e n=>⟨by rw [bZ (eP e hp)]; exact e,n⟩
 nI:=fun a n=>by
  have ne:a≠p:=by rintro rfl; exact n (h.free hp)
  rw [bZ ne];exact(Mv.refl h).nI a n
 ab:=fun a g' e=>by
  have ne:a≠p:=by rintro rfl; rw [h.free hp] at e; cases e
  exact(h a g' e).mono (.new hp) (bZ ne)
theorem Mv.put{K:ao}{H:Hp}{G:Gp}{p:Addr}{o:HO}{g g0:GO}(h:mQ K H G)(hg:G p=some g0)(k:Kp H (upd H p o))(ho:NG K (upd H p o) p g):Mv K H G (upd H p o) (cH G p g) where
 keep:=fun a ob e n=>by
  have ne:a≠p:=by rintro rfl; rw [hg] at n; cases n
  exact⟨by rw [bZ ne]; exact e,by rw [ez ne]; exact n⟩
 nI:=fun a n=>by
  by_cases ha:a=p
  ·subst ha; rw [c8]; simp
  ·rw [bZ ha]; exact(Mv.refl h).nI a n
 ab:=fun a g' e=>by
  by_cases ha:a=p
  ·subst ha; rw [aF] at e; cases e; exact ho
  ·rw [ez ha] at e;exact(h a g' e).mono k (bZ ha)
theorem mQ.lst{K:ao}{H:Hp}{G:Gp}{a:Addr}{ds:List D}(h:mQ K H G)(e:G a=some (.lst ds)):∃ vs,H a=some (.lst vs)/\br K H vs ds:=h a _ e
theorem Mv.GR{K:ao}{H:Hp}{G:Gp}{p:Addr}{vs:List V}{ds:List D}(h:mQ K H G)(hp:H p=none)(r:br K H vs ds):Mv K H G (upd H p (.lst vs)) (cH G p (.lst ds)) :=
 .new h hp ⟨vs,c8,r.mono (.new hp)⟩
theorem Mv.putL{K:ao}{H:Hp}{G:Gp}{p:Addr}{ZR vs:List V}{ds0 ds:List D}(h:mQ K H G)(hg:G p=some (.lst ds0))(hp:H p=some (.lst ZR))(r:br K H vs ds):Mv K H G (upd H p (.lst vs)) (cH G p (.lst ds)) :=
 .put h hg (.putL hp) ⟨vs,c8,r.mono (.putL hp)⟩
structure NZ(K:ao)(H:Hp)(σ:L2.St)(τ:ib):Prop where
 len:σ.length=τ.length
 at':∀ (i:Nat) (d:D),τ[i]?=some (some d)->∃ v,σ[i]?=some (some v)/\cV K H v d
theorem NZ.mono{K:ao}{H H':Hp}{σ:L2.St}{τ:ib}(k:Kp H H')(a:NZ K H σ τ):NZ K H' σ τ :=
 ⟨a.len,fun i d e=>let ⟨v,h1,h2⟩:=a.at' i d e; ⟨v,h1,h2.mono k⟩⟩
theorem NZ.set{K:ao}{H:Hp}{σ:L2.St}{τ:ib}{v:V}{d:D}(a:NZ K H σ τ)(i:Nat)(r:cV K H v d):NZ K H (σ.set i (some v)) (τ.set i (some d)):=by
 refine⟨by rw [oR,oR]; exact a.len,fun j e h=>?_⟩;by_cases hj:i=j
 ·subst hj;by_cases hi:i < τ.length
  ·rw [gI hi] at h;cases h;exact⟨v,by rw [gI (by rw [a.len]; exact hi)],r⟩
  ·rw [List.set_eq_of_length_le (by lia)] at h;rw [NH (by lia)] at h;cases h
 ·rw [jU hj] at h;obtain⟨w,h1,h2⟩:=a.at' j e h;exact⟨w,by rw [jU hj]; exact h1,h2⟩
structure I2(X:Cx)(pins:List (Addr×Obj))(σ:L2.St)(H:Hp)(τ:ib)(G:Gp)(s:aB):Prop where
 inv:Inv X pins σ H s
 st:NZ X.K H σ τ
 ab:mQ X.K H G
theorem I2.mv{X:Cx}{pins:List (Addr×Obj)}{σ:L2.St}{H H':Hp}{τ:ib}{G G':Gp}{s s':aB}(I:I2 X pins σ H τ G s)(I':Inv X pins σ H' s')(m:Mv X.K H G H' G'):I2 X pins σ H' τ G' s' :=
 ⟨I',I.st.mono (m.kp I.ab),m.ab⟩
noncomputable def CXe(P:bO)(w:World):Jw:=fun outer H s E e s'=>∃ (a C t:Addr) (B:Heap) (H':Hp),e=.ref a/\s'.os=s.os/\B6 s'.gens/\Un (K0 outer) [] H H' s.heap s'.heap/\tU P w H' s'.heap /\
 (∀ b o,s'.heap.get? b=some o->b∉K0 outer->(s.heap.get? b≠none\/H' b≠none)->B.get? b=some o)/\PySem.Heap.FlyingW B outer a (.ref C) (.ref t) s'.heap/\H' a=none/\s.heap.get? a=none/\E (.ref C) none H'
noncomputable def exK(mg:Str->Option Value)(E:lL):XK:=fun cls _ _=>∃ (ex:Ex) (C:Addr),cls=.ref C/\mg ex.cls=some (.ref C)/\E ex (fun _=>none)
structure Lk(X:Cx)(E:lL):Prop where
 made:∀ (pins:List (Addr×Obj)) (σ:L2.St) (H:Hp) (s:aB) (h1:Heap) (a C:Addr) (args:List Value) (ex:Ex),Inv X pins σ H s->PySem.Heap.MadeExcOf s.heap h1 a (.ref C) args->X.mg ex.cls=some (.ref C)->E ex (fun _=>none)->X.xe (.ref a) { s with heap:=h1 }
 pass:∀ (pins:List (Addr×Obj)) (σ:L2.St) (H:Hp) (s s':aB) (e:Value),Inv X pins σ H s->CXe X.prog X.w X.stack H s (exK X.mg E) e s'->X.xe e s'
theorem Lk.none{X:Cx}{E:lL}(h:∀ ex G,¬ E ex G):Lk X E where
 made:=fun _ _ _ _ _ _ _ _ ex _ _ _ z=>absurd z (h ex _)
 pass:=fun _ _ _ _ _ _ _ hc=>by
  obtain⟨_,_,_,_,_,_,_,_,_,_,_,_,_,_,hz⟩:=hc;obtain⟨ex,_,_,_,z⟩:=hz;exact absurd z (h ex _)
inductive sf (X:Cx) (pins:List (Addr×Obj)) (σ:L2.St) (H:Hp) (G:Gp) (Q:DK) (u:Value) (s':aB):Prop
 | mk (v:V) (H':Hp) (d:D) (G':Gp) (i:Inv X pins σ H' s') (m:Mv X.K H G H' G') (r:RelV v u) (rd:cV X.K H' v d) (q:Q d G'):sf X pins σ H G Q u s'
inductive R5 (X:Cx) (pins:List (Addr×Obj)) (σ:L2.St) (H:Hp) (G:Gp) (Q:Bool->Gp->Prop) (b:Bool) (s':aB):Prop
 | mk (H':Hp) (G':Gp) (i:Inv X pins σ H' s') (m:Mv X.K H G H' G') (q:Q b G'):R5 X pins σ H G Q b s'
inductive ZN (X:Cx) (pins:List (Addr×Obj)) (σ:L2.St) (H:Hp) (G:Gp) (Q:List D->Gp->Prop) (us:List Value) (s':aB):Prop
 | mk (vs:List V) (H':Hp) (ds:List D) (G':Gp) (i:Inv X pins σ H' s') (m:Mv X.K H G H' G') (r:Vals vs us) (rd:br X.K H' vs ds) (q:Q ds G'):ZN X pins σ H G Q us s'
inductive Vf (X:Cx) (pins:List (Addr×Obj)) (H:Hp) (G:Gp) (P:ib->Gp->Prop) (s':aB):Prop
 | mk (jR:L2.St) (H':Hp) (kz:ib) (G':Gp) (i:I2 X pins jR H' kz G' s') (m:Mv X.K H G H' G') (q:P kz G'):Vf X pins H G P s'
inductive ZE (X:Cx) (pins:List (Addr×Obj)) (H:Hp) (G:Gp) (P:D->Gp->Prop) (u:Value) (s':aB):Prop
 | mk (v:V) (jR:L2.St) (H':Hp) (d:D) (G':Gp) (i:Inv X pins jR H' s') (m:Mv X.K H G H' G') (r:RelV v u) (rd:cV X.K H' v d) (q:P d G'):ZE X pins H G P u s'
noncomputable def RI(X:Cx)(pins:List (Addr×Obj))(H:Hp)(G:Gp)(D:kF)(f:Flow)(s':aB):Prop :=
 match f with
 | .next=>Vf X pins H G D.nx s'
 | .brk=>Vf X pins H G D.bk s'
 | .cont=>Vf X pins H G D.ct s'
 | .ret u=>ZE X pins H G D.rt u s'
noncomputable def gN(X:Cx)(e:Expr)(t:gH):Prop :=
 ∀ (E:lL) (pins:List (Addr×Obj)) (s:aB) (σ:L2.St) (H:Hp) (τ:ib) (G:Gp) (Q:DK),Lk X E->I2 X pins σ H τ G s->t E τ G Q->wpAny (model X.prog X.w) X.A (eval e X.env) (sf X pins σ H G Q) X.xe s
noncomputable def K1(X:Cx)(e:Expr)(t:xM):Prop :=
 ∀ (E:lL) (pins:List (Addr×Obj)) (s:aB) (σ:L2.St) (H:Hp) (τ:ib) (G:Gp) (Q:Bool->Gp->Prop),Lk X E->I2 X pins σ H τ G s->t E τ G Q->wpAny (model X.prog X.w) X.A (isTrue e X.env (eval e X.env)) (R5 X pins σ H G Q) X.xe s
noncomputable def DZ(X:Cx)(e:Expr)(t:xM):Prop :=
 ∀ (wh:Sem Value) (E:lL) (pins:List (Addr×Obj)) (s:aB) (σ:L2.St) (H:Hp) (τ:ib) (G:Gp) (Q:Bool->Gp->Prop),Lk X E->I2 X pins σ H τ G s->t E τ G Q->wpAny (model X.prog X.w) X.A (isTrue e X.env wh) (R5 X pins σ H G Q) X.xe s
noncomputable def D0(X:Cx)(es:List Expr)(t:BX):Prop :=
 ∀ (pos:Pos) (E:lL) (pins:List (Addr×Obj)) (s:aB) (σ:L2.St) (H:Hp) (τ:ib) (G:Gp) (Q:List D->Gp->Prop),Lk X E->I2 X pins σ H τ G s->t E τ G Q->wpAny (model X.prog X.w) X.A (spliced (mf pos (bY es X.env))) (ZN X pins σ H G Q) X.xe s
noncomputable def FX(X:Cx)(st:Stmt)(t:fY):Prop :=
 ∀ (E:lL) (pins:List (Addr×Obj)) (s:aB) (σ:L2.St) (H:Hp) (τ:ib) (G:Gp) (D:kF),Lk X E->I2 X pins σ H τ G s->t E D τ G->wpAny (model X.prog X.w) X.A (exec st X.env) (RI X pins H G D) X.xe s
noncomputable def zS(X:Cx)(st:List Stmt)(t:fY):Prop :=
 ∀ (E:lL) (pins:List (Addr×Obj)) (s:aB) (σ:L2.St) (H:Hp) (τ:ib) (G:Gp) (D:kF),Lk X E->I2 X pins σ H τ G s->t E D τ G->wpAny (model X.prog X.w) X.A (execs st X.env) (RI X pins H G D) X.xe s
theorem RI.trans{X:Cx}{pins:List (Addr×Obj)}{H H1:Hp}{G G1:Gp}{D:kF}{f:Flow}{s':aB}(m:Mv X.K H G H1 G1)(h:RI X pins H1 G1 D f s'):RI X pins H G D f s':=by
 cases f with
 | next=>obtain⟨jR,H',kz,G',I,m',q⟩:=h; exact⟨jR,H',kz,G',I,m.trans m',q⟩
 | brk=>obtain⟨jR,H',kz,G',I,m',q⟩:=h; exact⟨jR,H',kz,G',I,m.trans m',q⟩
 | cont=>obtain⟨jR,H',kz,G',I,m',q⟩:=h; exact⟨jR,H',kz,G',I,m.trans m',q⟩
 | ret u=>obtain⟨v,jR,H',d,G',I,m',r,rd,q⟩:=h; exact⟨v,jR,H',d,G',I,m.trans m',r,rd,q⟩
section
variable {X:Cx} {a b c:Expr} {ta tb tc:gH} {pos:Pos}
theorem k8{pins:List (Addr×Obj)}{σ:L2.St}{H:Hp}{τ:ib}{G:Gp}{s:aB}{E:lL}{R:DK}{Q:Value->aB->Prop}(ha:gN X a ta)(hE:Lk X E)(I:I2 X pins σ H τ G s)(h:ta E τ G R)
  (k:∀ v H1 d G1 u s1,I2 X pins σ H1 τ G1 s1->Mv X.K H G H1 G1->RelV v u->cV X.K H1 v d->R d G1->Q u s1):wpAny (model X.prog X.w) X.A (eval a X.env) Q X.xe s :=
 gO (ha E pins s σ H τ G R hE I h) (by rintro u s1 ⟨v,H1,d,G1,I1,m,r,rd,q⟩; exact k v H1 d G1 u s1 (I.mv I1 m) m r rd q)
theorem sf.trans{pins:List (Addr×Obj)}{σ:L2.St}{H H1:Hp}{G G1:Gp}{Q:DK}{u:Value}{s':aB}(m:Mv X.K H G H1 G1)(h:sf X pins σ H1 G1 Q u s'):sf X pins σ H G Q u s':=by
 obtain⟨v,H',d,G',I,m',r,rd,q⟩:=h;exact⟨v,H',d,G',I,m.trans m',r,rd,q⟩
theorem R5.trans{pins:List (Addr×Obj)}{σ:L2.St}{H H1:Hp}{G G1:Gp}{Q:Bool->Gp->Prop}{u:Bool}{s':aB}(m:Mv X.K H G H1 G1)(h:R5 X pins σ H1 G1 Q u s'):R5 X pins σ H G Q u s':=by
 obtain⟨H',G',I,m',r⟩:=h;exact⟨H',G',I,m.trans m',r⟩
theorem OG {i:Nat} {x:Str} (hN:X.N[i]?=some x) (hv:Vd X.env.scope x) (hd:autoParam ((x == ("__debug__" : Str))=false) Ad._auto_1) (Ja:autoParam ((x == ("__classdict__" : Str))=false) Ad._auto_1):gN X (.Name x pos) (ai i):=by
 intro E pins s σ H τ G Q hE I h;unfold ai at h;split at h
 ·rename_i d e;obtain⟨v,h1,h2⟩:=I.st.at' i d e;exact gO (Qr hN hv hd Ja pins s σ H (fun v' H'=>v'=v/\H'=H) I.inv ⟨v,h1,rfl,rfl⟩) fun u s1 Q6=>by
   obtain⟨v',H',I1,r,e1,e2⟩:=Q6;subst e1; subst e2;exact⟨_,_,d,G,I1,.refl I.ab,r,h2,h⟩
 ·exact h.elim
theorem rT{e:Expr}{v:V}{d:D}(h:PE X e (tC v))(r:∀ K H,cV K H v d):gN X e (dC d):=by
 intro E pins s σ H τ G Q hE I hq;exact gO (h pins s σ H (fun v' H'=>v'=v/\H'=H) I.inv ⟨rfl,rfl⟩) fun u s1 MF=>by
  obtain⟨v',H',I1,rr,e1,e2⟩:=MF;subst e1; subst e2;exact⟨_,_,d,G,I1,.refl I.ab,rr,r _ _,hq⟩
theorem aG{i j}:gN X (.Constant (.int i) j pos) (dC (.int i)):=rT Qt fun _ _=>.int i
noncomputable def tS(X:Cx)(f:Value->Value->Sem Value)(r:FI):Prop :=
 ∀ (pins:List (Addr×Obj)) (s:aB) (σ:L2.St) (H:Hp) (G:Gp) (x y:V) (dx dy:D) (v u:Value) (Q:DK),Inv X pins σ H s->mQ X.K H G->RelV x v->RelV y u->cV X.K H x dx->cV X.K H y dy->r dx dy G Q ->
  wpAny (model X.prog X.w) X.A (f v u) (sf X pins σ H G Q) X.xe s
noncomputable def Uw(X:Cx)(f:Value->Sem Value)(r:D->Gp->DK->Prop):Prop :=
 ∀ (pins:List (Addr×Obj)) (s:aB) (σ:L2.St) (H:Hp) (G:Gp) (x:V) (dx:D) (v:Value) (Q:DK),Inv X pins σ H s->mQ X.K H G->RelV x v->cV X.K H x dx->r dx G Q ->
  wpAny (model X.prog X.w) X.A (f v) (sf X pins σ H G Q) X.xe s
noncomputable def wI(X:Cx)(f:Value)(r:List D->Gp->DK->Prop):Prop :=
 ∀ (pins:List (Addr×Obj)) (s:aB) (σ:L2.St) (H:Hp) (G:Gp) (xs:List V) (ds:List D) (us:List Value) (Q:DK),Inv X pins σ H s->mQ X.K H G->Vals xs us->br X.K H xs ds->r ds G Q ->
  wpAny (model X.prog X.w) X.A (call f us) (sf X pins σ H G Q) X.xe s
noncomputable abbrev Ap(K:ao)(H:Hp)(G:Gp)(Q:DK):VK:=fun v H'=>∃ d G',Mv K H G H' G'/\cV K H' v d/\Q d G'
theorem sf.of{pins:List (Addr×Obj)}{σ:L2.St}{H:Hp}{G:Gp}{Q:DK}{u:Value}{s':aB}(h:EP X pins σ (Ap X.K H G Q) u s'):sf X pins σ H G Q u s':=by
 obtain⟨v,H',I,r,d,G',m,rd,q⟩:=h;exact⟨v,H',d,G',I,m,r,rd,q⟩
theorem Nr(ha:gN X a ta)(hb:gN X b tb){E:lL}{pins:List (Addr×Obj)}{s:aB}{σ:L2.St}{H:Hp}{τ:ib}{G:Gp}{R:D->D->Gp->Prop}(hE:Lk X E)(I:I2 X pins σ H τ G s)
  (h:ta E τ G fun x G1=>tb E τ G1 fun y G2=>R x y G2) {Q:Value->aB->Prop} {f:Value->Value->Sem Value}
  (hf:∀ v u s2 x y dx dy H2 G2,I2 X pins σ H2 τ G2 s2->Mv X.K H G H2 G2->RelV x v->RelV y u->cV X.K H2 x dx->cV X.K H2 y dy->R dx dy G2->wpAny (model X.prog X.w) X.A (f v u) Q X.xe s2) :
  wpAny (model X.prog X.w) X.A (eval a X.env) (fun v fJ=>wpAny (model X.prog X.w) X.A (eval b X.env) (fun u kI=>wpAny (model X.prog X.w) X.A (f v u) Q X.xe kI) X.xe fJ) X.xe s:=by
 refine k8 ha hE I h fun x H1 dx G1 v s1 I1 m1 r1 jK q1=>?_;refine k8 hb hE I1 q1 fun y H2 dy G2 u s2 lM m2 r2 Ct q2=>?_;exact hf v u s2 x y dx dy H2 G2 lM (m1.trans m2) r1 r2 (jK.mono (m2.kp I1.ab)) Ct q2
theorem cS{op:Operator}{r:FI}(ho:tS X (ku op) r)(ha:gN X a ta)(hb:gN X b tb):gN X (.BinOp a op b pos) (aP r ta tb):=by
 intro E pins s σ H τ G Q hE I h;exact wpAny_BinOp (Nr ha hb hE I h fun v u s2 x y dx dy H2 G2 lM m rx ry dX dY q=>gO (ho pins s2 σ H2 G2 x y dx dy v u Q lM.inv lM.ab rx ry dX dY q) fun _ _ z=>z.trans m)
theorem GH{op:UnaryOp}{r:D->Gp->DK->Prop}(ho:Uw X (unaryOp op) r)(ha:gN X a ta):gN X (.UnaryOp op a pos) (NT r ta):=by
 intro E pins s σ H τ G Q hE I h;exact UnaryOp_ (k8 ha hE I h fun x H1 dx G1 v s1 I1 m1 r1 jK q1=>gO (ho pins s1 σ H1 G1 x dx v Q I1.inv I1.ab r1 jK q1) fun _ _ z=>z.trans m1)
theorem rV{op:CmpOp}{r:FI}(ho:tS X (fE op) r)(ha:gN X a ta)(hb:gN X b tb)(hm:behindInMarks op b=false):gN X (.Compare a [op] [b] pos) (aP r ta tb):=by
 intro E pins s σ H τ G Q hE I h;exact wpAny_Compare1 (Nr ha hb hE I h fun v u s2 x y dx dy H2 G2 lM m rx ry dX dY q=>gO (ho pins s2 σ H2 G2 x y dx dy v u Q lM.inv lM.ab rx ry dX dY q) fun _ _ z=>z.trans m) hm
end
end K2
end
section
namespace K2
open PySem PySem.Spec PyProof.Rows L2
theorem Ss{K:ao}{H:Hp}{G:Gp}{x:V}{d:D}{k:Bool}(ab:mQ K H G)(r:cV K H x d)(e:JE d G=some k):(∃ p,x=.ref p/\Rd H p (.dT [])/\k=false)\/(∃ p kv,x=.ref p/\Rd H p (.dK kv)/\k=!kv.isEmpty)\/RH K x H k:=by
 have M8:∀ bu:List (D×D),(if (bu.all fun p=>fU p.1)=true then some (!bu.isEmpty) else none)=some k->∀ p,((∃ kv,Rd H p (.dK kv)/\qi K H kv bu)\/∃ kv,Rd H p (.dT kv)/\rM K H kv bu) ->
   (∃ p',V.ref p=.ref p'/\Rd H p' (.dT [])/\k=false)\/(∃ p' kv,V.ref p=.ref p'/\Rd H p' (.dK kv)/\k=!kv.isEmpty)\/RH K (.ref p) H k:=by
  intro bu e p z;by_cases ha:(bu.all fun p=>fU p.1)=true
  ·rw [if_pos ha] at e;cases e;rcases z with ⟨kv,hv,rs⟩ | ⟨kv,hv,rs⟩
   ·right; left;refine⟨p,kv,rfl,hv,?_⟩;cases rs <;> rfl
   ·left;cases rs with
    | nil=>exact⟨p,rfl,hv,rfl⟩
    | cons _ _=>simp [fU] at ha
  ·rw [if_neg ha] at e; cases e
 cases r with
 | dQ=>right; right; cases e; rfl
 | bl b=>right; right; cases e; rfl
 | int i=>right; right; cases e; rfl
 | str y =>
  right; right;unfold JE at e;dsimp only at e;by_cases h:y.length<=SZ
  ·rw [if_pos h] at e; cases e; exact⟨by rw [c6]; exact h,rfl⟩
  ·rw [if_neg h] at e; cases e
 | tup h rs =>
  right; right;cases e;refine .inr (.inl ⟨_,.of h,?_⟩);cases rs <;> rfl
 | eY h rs =>
  right; right;cases e;refine .inl ⟨_,h.sq,?_⟩;cases rs <;> rfl
 | uC h rs=>exact M8 _ e _ (.inl ⟨_,.inr ⟨_,h⟩,rs⟩)
 | uB h rs=>exact M8 _ e _ (.inr ⟨_,.inr ⟨_,h⟩,rs⟩)
 | exc h=>simp [JE] at e
 | ref a =>
  unfold JE at e;dsimp only at e;cases q:G a with
  | none=>rw [q] at e; cases e
  | some g =>
   rw [q] at e;have z:=ab a g q;cases g with
   | lst ds =>
    right; right;obtain⟨vs,hv,rs⟩:=z;cases e;refine .inl ⟨vs,.of hv,?_⟩;cases rs <;> rfl
   | ins _ _=>cases e
   | mH bu =>
    refine M8 bu e a ?_;rcases z with ⟨kv,hv,rs⟩ | ⟨kv,hv,rs⟩
    ·exact .inl ⟨kv,.inl hv,rs⟩
    ·exact .inr ⟨kv,.inl hv,rs⟩
section
variable {X:Cx} {a b c:Expr} {ta tb tc:gH} {pos:Pos}
noncomputable def Uy(X:Cx):Prop:=∀ (pins:List (Addr×Obj)) (s:aB) (σ:L2.St) (H:Hp) (G:Gp) (x:V) (d:D) (v:Value) (k:Bool) (Q:Bool->aB->Prop),Inv X pins σ H s->mQ X.K H G->RelV x v->cV X.K H x d->JE d G=some k ->
  (∀ s',Inv X pins σ H s'->Q k s')->wpAny (model X.prog X.w) X.A (truthy v) Q X.xe s
theorem Gs:Uy X:=by
 intro pins s σ H G x d v k Q I ab rx rd e q;rcases Ss ab rd e with ⟨p,rfl,hv,hk⟩ | ⟨p,kv,rfl,hv,hk⟩ | h
 ·obtain⟨z,hS,xs,rel,o,es,ep,ho,hx,Km,hl,nd⟩:=hv.ok I.eV;have WS:xs=[]:=by cases rel; rfl
  subst WS;have he:es=#[]:=by simpa using hl
  subst he;cases rx;have dd:s.heap.DictOf (gP X.prog X.w) p []:=⟨o,#[],ep,ho,hx,Km,(fun _ h=>by simp at h),.nil,kn⟩;refine FY hS dd (by simp) ?_;subst hk;exact q _ (I.tok _)
 ·cases rx;subst hk;exact O5 I hv q
 ·exact gO (Qb pins s σ H x v (fun k' H'=>k'=k/\H'=H) I rx ⟨k,h,rfl,rfl⟩) fun k' s' Q6=>by
   obtain⟨H',I',e1,e2⟩:=Q6;subst e1; subst e2; exact q s' I'
theorem cw(ha:gN X a ta)(he:autoParam (∀ whole,isTrue a X.env whole=(do let v ← whole; standAt a.pos; K9 [v] (truthy v))) Ai._auto_1):K1 X a (da ta):=by
 intro E pins s σ H τ G Q hE I h;refine isTrue_plain (k8 ha hE I h fun x H1 d G1 v s1 I1 m1 r1 jK q1=>?_) (he _)
 try dsimp only at q1
 split at q1
 ·rename_i k e;exact Gs pins s1 σ H1 G1 x d v k _ I1.inv I1.ab r1 jK e fun s' I'=>⟨H1,G1,I',m1,q1⟩
 ·exact q1.elim
theorem cM{op:CmpOp}{r:FI}(ho:tS X (fE op) r)(ha:gN X a ta)(hb:gN X b tb)(hm:behindInMarks op b=false):K1 X (.Compare a [op] [b] pos) (da (aP r ta tb)):=by
 intro E pins s σ H τ G Q hE I h;refine wpAny_isTrue_Compare1 (k8 ha hE I h fun x H1 dx G1 v s1 I1 m1 r1 jK q1=>k8 hb hE I1 q1 fun y H2 dy G2 u s2 lM m2 r2 Ct q2 =>
  gO (ho pins s2 σ H2 G2 x y dx dy v u _ lM.inv lM.ab r1 r2 (jK.mono (m2.kp I1.ab)) Ct q2) ?_) hm
 rintro c s3 ⟨z,H3,dz,G3,I3,m3,r3,VT,q3⟩
 try dsimp only at q3
 split at q3
 ·rename_i k e;exact Gs pins s3 σ H3 G3 z dz c k _ I3 m3.ab r3 VT e fun s' I'=>⟨H3,G3,I',(m1.trans m2).trans m3,q3⟩
 ·exact q3.elim
variable {tA tB:xM} {rest:List Expr}
theorem DZ.pt{e:Expr}{t:xM}(h:DZ X e t):K1 X e t:=fun E pins s σ H τ G Q hE I q=>h _ E pins s σ H τ G Q hE I q
theorem Lx{pins:List (Addr×Obj)}{σ:L2.St}{H:Hp}{τ:ib}{G:Gp}{s:aB}{E:lL}{R:Bool->Gp->Prop}{Q:Bool->aB->Prop}(ha:K1 X a tA)(hE:Lk X E)(I:I2 X pins σ H τ G s)(h:tA E τ G R)
  (k:∀ c H1 G1 s1,I2 X pins σ H1 τ G1 s1->Mv X.K H G H1 G1->R c G1->Q c s1):wpAny (model X.prog X.w) X.A (isTrue a X.env (eval a X.env)) Q X.xe s :=
 gO (ha E pins s σ H τ G R hE I h) (by rintro c s1 ⟨H1,G1,I1,m,q⟩; exact k c H1 G1 s1 (I.mv I1 m) m q)
theorem jf(ha:K1 X a tA):DZ X (.BoolOp .Or [a] pos) tA:=by
 intro wh E pins s σ H τ G Q hE I h;refine isTrue_or (gO (ha E pins s σ H τ G Q hE I h) fun c s1 e=>?_);cases c with
 | false=>exact isTrue_or_nil e
 | true=>exact e
theorem j8(ha:K1 X a tA)(hb:DZ X (.BoolOp .Or (b :: rest) pos) tB):DZ X (.BoolOp .Or (a :: b :: rest) pos) (sC tA tB):=by
 intro wh E pins s σ H τ G Q hE I h;refine isTrue_or (Lx ha hE I h fun c H1 G1 s1 I1 m1 q1=>?_);cases c with
 | false=>exact gO (hb wh E pins s1 σ H1 τ G1 Q hE I1 (by simpa using q1)) fun _ _ z=>z.trans m1
 | true=>exact⟨H1,G1,I1.inv,m1,by simpa using q1⟩
theorem eA(ha:K1 X a tA):K1 X (.UnaryOp .Not a pos) (e8 tA):=by
 intro E pins s σ H τ G Q hE I h;exact isTrue_not (gO (ha E pins s σ H τ G (fun c H1=>Q (!c) H1) hE I h) (by rintro c s' ⟨H',G',i,m,q⟩; exact⟨H',G',i,m,q⟩))
theorem CD{op}{t:gH}(h:gN X a t):gN X (.BoolOp op [a] pos) t:=fun E pins s σ H τ G Q hE I hw=>BoolOp_one (h E pins s σ H τ G Q hE I hw)
theorem IH(ha:gN X a ta)(hb:gN X (.BoolOp .And (b :: rest) pos) tb):gN X (.BoolOp .And (a :: b :: rest) pos) (Fv ta tb):=by
 intro E pins s σ H τ G Q hE I h;refine BoolOp_and (k8 ha hE I h fun x H1 d G1 v s1 I1 m1 r1 jK q1=>?_)
 try dsimp only at q1
 split at q1
 ·rename_i e;exact Gs pins s1 σ H1 G1 x d v true _ I1.inv I1.ab r1 jK e fun s' I'=>gO (hb E pins s' σ H1 τ G1 Q hE ⟨I',I1.st,I1.ab⟩ q1) fun _ _ z=>z.trans m1
 ·rename_i e;exact Gs pins s1 σ H1 G1 x d v false _ I1.inv I1.ab r1 jK e fun s' I'=>⟨x,H1,d,G1,I',m1,r1,jK,q1⟩
 ·exact q1.elim
theorem Qu(ha:gN X a ta)(hb:gN X (.BoolOp .Or (b :: rest) pos) tb):gN X (.BoolOp .Or (a :: b :: rest) pos) (O6 ta tb):=by
 intro E pins s σ H τ G Q hE I h;refine BoolOp_or (k8 ha hE I h fun x H1 d G1 v s1 I1 m1 r1 jK q1=>?_)
 try dsimp only at q1
 split at q1
 ·rename_i e;exact Gs pins s1 σ H1 G1 x d v true _ I1.inv I1.ab r1 jK e fun s' I'=>⟨x,H1,d,G1,I',m1,r1,jK,q1⟩
 ·rename_i e;exact Gs pins s1 σ H1 G1 x d v false _ I1.inv I1.ab r1 jK e fun s' I'=>gO (hb E pins s' σ H1 τ G1 Q hE ⟨I',I1.st,I1.ab⟩ q1) fun _ _ z=>z.trans m1
 ·exact q1.elim
theorem OH(ha:gN X a ta):gN X (.UnaryOp .Not a pos) (Nd ta):=by
 intro E pins s σ H τ G Q hE I h;refine UnaryOp_ (k8 ha hE I h fun x H1 d G1 v s1 I1 m1 r1 jK q1=>?_)
 try dsimp only at q1
 split at q1
 ·rename_i k e;exact not_of (Gs pins s1 σ H1 G1 x d v k _ I1.inv I1.ab r1 jK e fun s' I'=>⟨.bl (!k),H1,.bl (!k),G1,I',m1,rfl,.bl _,q1⟩)
 ·exact q1.elim
theorem Qv(hc:K1 X c tA)(ha:gN X a ta)(hb:gN X b tb):gN X (.IfExp c a b pos) (Zk tA ta tb):=by
 intro E pins s σ H τ G Q hE I h;refine wpAny_IfExp (Lx hc hE I h fun d H1 G1 s1 I1 m1 q1=>?_);cases d with
 | true=>exact gO (ha E pins s1 σ H1 τ G1 Q hE I1 (by simpa using q1)) fun _ _ z=>z.trans m1
 | false=>exact gO (hb E pins s1 σ H1 τ G1 Q hE I1 (by simpa using q1)) fun _ _ z=>z.trans m1
variable {e:Expr} {es:List Expr} {te:gH} {t:BX}
theorem ay:D0 X [] aH:=fun _ _ _ _ _ H _ G Q _ I h=>Calls.spliced_nil ⟨[],H,[],G,I.inv,.refl I.ab,.nil,.nil,h⟩
theorem af(ha:gN X e te)(hr:D0 X es t)(hs:autoParam (bY (e :: es) X.env=(false,eval e X.env) :: bY es X.env) Ar._auto_1):D0 X (e :: es) (ak te t):=by
 intro pos E pins s σ H τ G Q hE I h;rw [hs];show wpAny _ _ (spliced ((false,eval e X.env) :: mf pos (bY es X.env))) _ _ s;refine yt (k8 ha hE I h fun x H1 d G1 u s1 I1 m1 r1 jK q1=>?_);exact gO (hr pos E pins s1 σ H1 τ G1 _ hE I1 q1) (by rintro us s2 ⟨xs,H2,ds,G2,lM,m2,r2,Ct,q2⟩; exact⟨x :: xs,H2,d :: ds,G2,lM,m1.trans m2,.cons r1 r2,.cons (jK.mono (m2.kp I1.ab)) Ct,q2⟩)
theorem xw{pins:List (Addr×Obj)}{σ:L2.St}{H:Hp}{τ:ib}{G:Gp}{s:aB}{E:lL}{R:List D->Gp->Prop}{Q:List Value->aB->Prop}(ha:D0 X es t)(pos:Pos)(hE:Lk X E)(I:I2 X pins σ H τ G s)(h:t E τ G R)
  (k:∀ vs H1 ds G1 us s1,I2 X pins σ H1 τ G1 s1->Mv X.K H G H1 G1->Vals vs us->br X.K H1 vs ds->R ds G1->Q us s1):wpAny (model X.prog X.w) X.A (spliced (mf pos (bY es X.env))) Q X.xe s :=
 gO (ha pos E pins s σ H τ G R hE I h) (by rintro us s1 ⟨vs,H1,ds,G1,I1,m,r,rd,q⟩; exact k vs H1 ds G1 us s1 (I.mv I1 m) m r rd q)
theorem dN{x1}(h:D0 X es t):gN X (.Tuple es x1 pos) (fF t):=by
 intro E pins s σ H τ G Q hE I hq;refine wpAny_Tuple_spliced (xw h pos hE I hq ?_);rintro xs H1 ds G1 us s1 I1 m1 r rd ⟨z,q⟩;refine⟨by rw [<-r.length,rd.length,c6]; exact z,?_⟩;have hf:H1 s1.heap.objs.size=none:=I1.inv.eV.fresh (aQ _);refine⟨.ref s1.heap.objs.size,upd H1 s1.heap.objs.size (.tup xs),.tup ds,G1,I1.inv.laid (t':=s1.toks) (fun b u e=>a0 _ e) (aQ _) ?_,m1.trans (.PL I1.ab hf),rfl,?_,q⟩
 ·exact⟨by rw [rd.length,c6]; exact z,us,r,⟨_,cb _ rfl,rfl,_,rfl⟩⟩
 ·exact .tup c8 (rd.mono (.new hf))
theorem fh(h:D0 X es t):gN X (.List es pos) (fW t):=by
 intro E pins s σ H τ G Q hE I hq;refine wpAny_List_spliced (xw h pos hE I hq ?_);rintro xs H1 ds G1 us s1 I1 m1 r rd ⟨z,q⟩;refine⟨by rw [<-r.length,rd.length,c6]; exact z,?_⟩;have hf:H1 s1.heap.objs.size=none:=I1.inv.eV.fresh (aQ _);refine⟨.ref s1.heap.objs.size,upd H1 s1.heap.objs.size (.lst xs),.ref _,cH G1 s1.heap.objs.size (.lst ds),I1.inv.laid (t':=s1.toks) (fun b u e=>a0 _ e) (aQ _) ?_,m1.trans (.GR I1.ab hf rd),rfl,.ref _,q _ (I1.ab.free hf)⟩;exact⟨by rw [rd.length,c6]; exact z,us,0,r,cb _ rfl⟩
noncomputable def bH(K:ao)(sp:jk):Sp:=fun vs H Q _=>∃ ds G Q2,br K H vs ds/\mQ K H G/\sp ds G Q2 (fun _ _=>False)/\∀ d G' v H',Q2 d G'->Mv K H G H' G'->cV K H' v d->Q v H'
variable {k:Nat} {f:Addr} {fd:ax} {ps:List Str} {sp:jk} {x:Str} {p:Pos} {r:List D->Gp->DK->Prop} {id:String}
theorem L8(F:dP X.prog X.w X.K X.mg X.base eB k f fd ps (bH X.K sp))(hr:jT k X.A)(hg:Gl X x)(hm:X.mg x=some (.ref f))(hk:fw X.K (.ref f)=true)(hb:Binds X.K fd ps [])
  (ha:D0 X (e :: es) t) (MK:autoParam ((x == ("__debug__" : Str))=false) Ad._auto_1) (he:autoParam (bY (e :: es) X.env=(false,eval e X.env) :: bY es X.env) Ar._auto_1) (sv:autoParam ((mf pos (bY es X.env)).any (·.1)=false) Ar._auto_1) :
  gN X (.Call (.Name x p) (e :: es) [] pos) (fun E τ G Q=>bg (fun ds G1 Q1 _=>sp ds G1 Q1 fun _ _=>False) t E τ G Q):=by
 intro E pins s σ H τ G Q hE I h;refine ma (CO I.inv hg hm ?_ MK);refine xu (h₀:=X.base) I.inv.ok.mod.RX hk (xw ha pos hE I h fun vs H1 ds G1 us s1 I1 m1 r rd q=>⟨I1.inv.AG,?_⟩) he sv;refine gO (GB F hr hb .nil II I1.inv r (Q:=Ap X.K H1 G1 Q) ?_) fun _ _ z=>(sf.of z).trans m1;rw [c9];exact⟨ds,G1,Q,rd,I1.ab,q,fun d G' v H' q' m' NO=>⟨d,G',m',NO,q'⟩⟩
theorem cq (hc:wI X (.builtin id) r) (hg:Gl X x) (hm:X.mg x=none) (hv:dR x=some (.builtin id)) (ha:D0 X (e :: es) t) (hn:autoParam (x≠"__name__") Ad._auto_1) (MK:autoParam ((x == ("__debug__" : Str))=false) Ad._auto_1)
  (he:autoParam (bY (e :: es) X.env=(false,eval e X.env) :: bY es X.env) Ar._auto_1) (sv:autoParam ((mf pos (bY es X.env)).any (·.1)=false) Ar._auto_1):gN X (.Call (.Name x p) (e :: es) [] pos) (jw r t):=by
 intro E pins s σ H τ G Q hE I h;refine ma (pB I.inv hg hm hv ?_ hn MK);exact vN (xw ha pos hE I h fun vs H1 ds G1 us s1 I1 m1 r1 jK q1=>gO (hc pins s1 σ H1 G1 vs ds us Q I1.inv I1.ab r1 jK q1) fun _ _ z=>z.trans m1) he sv
variable {st:Stmt} {Yo:List Stmt} {u v:fY}
theorem bP:zS X [] bD:=fun _ _ _ σ H τ G _ _ I h=>yi ⟨σ,H,τ,G,I,.refl I.ab,h⟩
theorem az(h1:FX X st u)(h2:zS X Yo v):zS X (st :: Yo) (bI u v):=by
 intro E pins s σ H τ G D hE I h;refine wpAny_execs_cons (gO (h1 E pins s σ H τ G { D with nx:=v E D } hE I h) fun f s1 q=>?_);cases f with
 | next =>
  obtain⟨jR,H',kz,G',I',m,q⟩:=q;exact gO (h2 E pins s1 jR H' kz G' D hE I' q) fun _ _ z=>z.trans m
 | ret v=>exact q
 | brk=>exact q
 | cont=>exact q
theorem aC(h1:FX X st u):zS X [st] u:=by
 intro E pins s σ H τ G D hE I h;refine wpAny_execs_cons (gO (h1 E pins s σ H τ G D hE I h) fun f s1 q=>?_);cases f with
 | next=>exact yi q
 | ret v=>exact q
 | brk=>exact q
 | cont=>exact q
theorem bc(he:gN X e te):FX X (.Return (some e) pos) (bA te):=by
 intro E pins s σ H τ G D hE I h;exact wpAny_Return_some (gO (he E pins s σ H τ G _ hE I h) (by rintro v s1 ⟨x,H1,d,G1,I1,m,r1,rd,q1⟩; exact⟨x,σ,H1,d,G1,I1,m,r1,rd,q1⟩))
theorem cR{sa sb:List Stmt}(hc:K1 X c tA)(ha:zS X sa u)(hb:zS X sb v):FX X (.If c sa sb pos) (cN tA u v):=by
 intro E pins s σ H τ G D hE I h;refine wpAny_If (Lx hc hE I h fun d H1 G1 s1 I1 m1 q1=>?_);cases d with
 | true=>exact gO (ha E pins s1 σ H1 τ G1 D hE I1 (by simpa using q1)) fun _ _ z=>z.trans m1
 | false=>exact gO (hb E pins s1 σ H1 τ G1 D hE I1 (by simpa using q1)) fun _ _ z=>z.trans m1
noncomputable def K4(X:Cx)(target:Expr)(t:BW):Prop :=
 ∀ (E:lL) (pins:List (Addr×Obj)) (s:aB) (σ:L2.St) (H:Hp) (τ:ib) (G:Gp) (w:V) (d:D) (u:Value) (Q:ib->Gp->Prop),Lk X E->I2 X pins σ H τ G s->RelV w u->cV X.K H w d->t E d τ G Q ->
  wpAny (model X.prog X.w) X.A (Lb target X.env u) (fun _ s'=>∃ jR H' kz G',I2 X pins jR H' kz G' s'/\Mv X.K H G H' G'/\Q kz G') X.xe s
noncomputable def Pf(X:Cx)(ts:List Expr)(t:DD):Prop :=
 ∀ (E:lL) (pins:List (Addr×Obj)) (s:aB) (σ:L2.St) (H:Hp) (τ:ib) (G:Gp) (ws:List V) (ds:List D) (us:List Value) (Q:ib->Gp->Prop),Lk X E->I2 X pins σ H τ G s->Vals ws us->br X.K H ws ds->t E ds τ G Q ->
  wpAny (model X.prog X.w) X.A (assignInOrder ((Ae ts X.env).map (·.2)) us) (fun _ s'=>∃ jR H' kz G',I2 X pins jR H' kz G' s'/\Mv X.K H G H' G'/\Q kz G') X.xe s
theorem L6{i:Nat}{x:Str}(hN:X.N.Nodup)(hi:X.N[i]?=some x)(hx:Loc X.env.scope x)(hf:autoParam (X.fn x=true\/X.env.scope.names.lookup x=some .local) Ao._auto_1):K4 X (.Name x pos) (aK i):=by
 intro E pins s σ H τ G w d u Q hE I r rd h;exact wpAny_assign_Name (Eg I.inv hN hi hx r (fun s' I'=>⟨_,H,_,G,⟨I',I.st.set i rd,I.ab⟩,.refl I.ab,h⟩) hf)
theorem EB:Pf X [] Ho:=by
 intro E pins s σ H τ G ws ds us Q hE I r rd h;unfold Ho at h;split at h
 ·have e:=rd.zero;subst e;cases r;exact assignInOrder_nil ⟨σ,H,τ,G,I,.refl I.ab,h⟩
 ·exact h.elim
theorem rS{t:BW}{u:DD}(h1:K4 X e t)(h2:Pf X es u)
  (hs:autoParam ((Ae (e :: es) X.env).map (·.2)=Lb e X.env :: (Ae es X.env).map (·.2)) Ar._auto_1):Pf X (e :: es) (sX t u):=by
 intro E pins s σ H τ G ws ds us Q hE I r rd h;unfold sX at h;split at h
 ·cases rd with
  | cons jK Ct =>
   cases r with
   | cons r1 r2 =>
    rw [hs];refine assignInOrder_cons (gO (h1 E pins s σ H τ G _ _ _ _ hE I r1 jK h) ?_);rintro _ s1 ⟨UE,H1,sM,G1,I1,m1,q1⟩;exact gO (h2 E pins s1 UE H1 sM G1 _ _ _ Q hE I1 r2 (Ct.mono (m1.kp I.ab)) q1) (by rintro _ _ ⟨VC,H2,Bg,G2,lM,m2,q2⟩; exact⟨VC,H2,Bg,G2,lM,m1.trans m2,q2⟩)
 ·exact h.elim
theorem IF{k:Nat}{t:DD}{n:Nat}(hc:X.calm=true)(h:Pf X es t)(hgl:∀ E ds τ G Q,t E ds τ G Q->ds.length=n)
  (hn:autoParam ((Ae es X.env).length=n) Ar._auto_1) (Q0:autoParam ((Ae es X.env).findIdx? (·.1)=none) Ar._auto_1):K4 X (.Tuple es k pos) (Kr t):=by
 intro E pins s σ H τ G w d u Q hE I r rd hw;unfold Kr at hw;split at hw
 ·cases rd with
  | tup hq rs =>
   cases r;obtain⟨bB,rv,ht,hz⟩:=I.inv.tuple (.of hq);refine assign_Tuple_tuple (I.inv.ok.hd hc) ht (by rw [hn,a8,<-rv.length,rs.length]; exact(hgl _ _ _ _ _ hw).symm) Q0 fun h' hx=>?_;have I1:Inv X pins σ H { s with heap:=h' }:=I.inv.kept (t':=s.toks) fun b o e=>hx b o (bM (a9 e)) e;exact h E pins _ σ H τ G _ _ _ Q hE ⟨I1,I.st,I.ab⟩ (by simpa using rv) rs hw
 ·exact hw.elim
theorem E3:∀ E ds τ G Q,Ho E ds τ G Q->ds.length=0:=by
 intro E ds τ G Q h;cases ds with
 | nil=>rfl
 | cons _ _=>exact h.elim
theorem Kq{t:BW}{u:DD}{n:Nat}(h:∀ E ds τ G Q,u E ds τ G Q->ds.length=n)(hm:∀ E d τ G (Q Q':ib->Gp->Prop),t E d τ G Q->(∀ kz G',Q kz G'->Q' kz G')->t E d τ G Q')(hx:∀ E d τ G,¬ t E d τ G fun _ _=>False) :
  ∀ E ds τ G Q,sX t u E ds τ G Q->ds.length=n+1:=by
 intro E ds τ G Q q;cases ds with
 | nil=>exact q.elim
 | cons d ds =>
  by_cases hl:ds.length=n
  ·rw [ag,hl]
  ·exact absurd (hm E d τ G _ (fun _ _=>False) q fun kz G' z=>hl (h _ _ _ _ _ z)) (hx E d τ G)
theorem ID{tg:Expr}{g:BW}(he:gN X e te)(hg:K4 X tg g)(hs:autoParam (swapsWithSole [tg] e pos.line X.env=pure false) Ar._auto_1)(hw:autoParam (swappedStores [tg] e X.env=pure none) Ar._auto_1)
  (h1:autoParam ((Ae [tg] X.env).map (·.2)=[Lb tg X.env]) Ar._auto_1):FX X (.Assign [tg] e pos) (bU te g):=by
 intro E pins s σ H τ G D hE I h;refine wpAny_Assign_stores (k8 he hE I h fun x H1 d G1 v s1 I1 m1 r1 jK q1=>?_) hs hw;rw [h1];exact gO (hg E pins s1 σ H1 τ G1 x d v _ hE I1 r1 jK q1) (by rintro _ s2 ⟨VC,H2,Bg,G2,lM,m2,q2⟩; exact⟨VC,H2,Bg,G2,lM,m1.trans m2,q2⟩)
theorem OC{i:Nat}{x:Str}{pos':Pos}(hN:X.N.Nodup)(hi:X.N[i]?=some x)(hx:Loc X.env.scope x)(he:gN X e te)(hs:autoParam (D1 e (some (.Name x pos')) pos.line X.env=pure false) Ar._auto_1)(hf:autoParam (X.fn x=true\/X.env.scope.names.lookup x=some .local) Ao._auto_1) :
  FX X (.Assign [.Name x pos'] e pos) (bU te (aK i)):=by
 intro E pins s σ H τ G D hE I h;refine wpAny_Assign_Name (k8 he hE I h fun y H1 d G1 v s1 I1 m1 r1 jK q1=>?_) hs;exact Eg I1.inv hN hi hx r1 (fun s2 lM=>⟨_,H1,_,G1,⟨lM,I1.st.set i jK,I1.ab⟩,m1,q1⟩) hf
theorem eO(he:gN X e te)(hs:autoParam (D1 e none pos.line X.env=pure false) Ar._auto_1):FX X (.Expr e pos) (ee te):=by
 intro E pins s σ H τ G D hE I h;exact wpAny_Expr_any (k8 he hE I h fun y H1 d G1 v s1 I1 m1 r1 jK q1=>⟨σ,H1,τ,G1,I1,m1,q1⟩) I.inv.quiet hs
end
end K2
end
section
namespace K2
open PySem PySem.Spec PyProof.Rows L2
noncomputable def PX(K:ao)(J:It)(H':Hp)(ds:List D)(ok:Gp->Prop):Prop :=
 ∀ i H1 G1,Kp H' H1->mQ K H1 G1->ok G1->(∀ d,ds[i]?=some d->J.go i H1/\∀ x H2,J.Yl i H1 x H2->cV K H2 x d/\Mv K H1 G1 H2 G1)/\(ds.length<=i->J.stop i H1)
inductive KL (X:Cx) (pins:List (Addr×Obj)) (σ:L2.St) (tg:Expr) (H:Hp) (G:Gp) (R:List D->(Gp->Prop)->Gp->Prop) (PF:Value) (s2:aB):Prop
 | mk (it:Addr) (fp:List Addr) (tn:Nat->Heap->Prop) (J:It) (H':Hp) (G':Gp) (ds:List D) (ok:Gp->Prop) (e:PF=.ref it) (i:Inv X pins σ H' s2) (m:Mv X.K H G H' G') (T:Turn X.prog X.w X.K tg J fp it tn) (t0:tn 0 s2.heap) (f:∀ b∈fp,oP X pins H' b)
  (wk:PX X.K J H' ds ok) (q:R ds ok G'):KL X pins σ tg H G R PF s2
noncomputable def Nz(X:Cx)(tg iter:Expr)(wi:Ny):Prop :=
 ∀ (E:lL) (pins:List (Addr×Obj)) (s:aB) (σ:L2.St) (H:Hp) (τ:ib) (G:Gp) (R:List D->(Gp->Prop)->Gp->Prop),Lk X E->I2 X pins σ H τ G s->wi E τ G R ->
  wpAny (model X.prog X.w) X.A (eval iter X.env) (fun v s1=>wpAny (model X.prog X.w) X.A (pyIter v) (KL X pins σ tg H G R) X.xe s1) X.xe s
section
variable {X:Cx} {tg:Expr} {a b:Expr} {ta tb:gH} {pos p:Pos}
theorem IQ{pins:List (Addr×Obj)}{σ:L2.St}{H H1:Hp}{G G1:Gp}{s1:aB}{l:Addr}{vs:List V}{ds:List D}{ok:Gp->Prop}{R:List D->(Gp->Prop)->Gp->Prop}(I1:Inv X pins σ H1 s1)(m:Mv X.K H G H1 G1)(hq:oZ X.K H1 l vs)
  (hk:∀ H2 G2,Kp H1 H2->mQ X.K H2 G2->ok G2->∃ ws,oZ X.K H2 l ws/\br X.K H2 ws ds) (q:R ds ok G1):wpAny (model X.prog X.w) X.A (pyIter (.ref l)) (KL X pins σ tg H G R) X.xe s1:=by
 obtain⟨bB,rv,pl,hz⟩:=I1.list hq;refine wpAny_pyIter_list pl.isList ?_;refine⟨s1.heap.objs.size,[s1.heap.objs.size],_,_,H1,G1,ds,ok,rfl,I1.kept (t':=s1.toks) fun b o e=>a0 _ e,m,JB l _,⟨_,cb _ rfl,rfl,rfl⟩,fun b hb=>?_,fun i H2 G2 k ab o=>?_,q⟩
 ·have e:b=s1.heap.objs.size:=by simpa using hb
  subst e;exact I1.Ht (aQ _) (I1.eV.fresh (aQ _))
 ·obtain⟨ws,hw,rd⟩:=hk H2 G2 k ab o;refine⟨fun d hd=>?_,fun hl=>⟨ws,hw,by rw [rd.length]; exact hl⟩⟩;obtain⟨v,hv,r⟩:=rd.get hd;refine⟨⟨ws,v,hw,hv⟩,?_⟩;rintro x H3 ⟨e,y⟩;subst e;have:=y ws hw;rw [hv] at this;cases this;exact⟨r,.refl ab⟩
theorem Qa{pins:List (Addr×Obj)}{σ:L2.St}{H H1:Hp}{G G1:Gp}{s1:aB}{l:Addr}{vs:List V}{ds:List D}{R:List D->(Gp->Prop)->Gp->Prop}(I1:Inv X pins σ H1 s1)(m:Mv X.K H G H1 G1)(hq:zR X.K H1 l vs)(rd:br X.K H1 vs ds)
  (q:R ds (fun _=>True) G1):wpAny (model X.prog X.w) X.A (pyIter (.ref l)) (KL X pins σ tg H G R) X.xe s1:=by
 obtain⟨bB,rv,pl,hz⟩:=I1.tuple hq;refine wpAny_pyIter_tuple (show s1.heap.IsTuple l bB.toArray from pl) ?_;refine⟨s1.heap.objs.size,[s1.heap.objs.size],_,_,H1,G1,ds,_,rfl,I1.kept (t':=s1.toks) fun b o e=>a0 _ e,m,Gq l _,⟨_,cb _ rfl,rfl,rfl⟩,fun b hb=>?_,fun i H2 G2 k ab _=>?_,q⟩
 ·have e:b=s1.heap.objs.size:=by simpa using hb
  subst e;exact I1.Ht (aQ _) (I1.eV.fresh (aQ _))
 ·have hw:=k.Z3 hq;have Ct:=rd.mono k;refine⟨fun d hd=>?_,fun hl=>⟨vs,hw,by rw [rd.length]; exact hl⟩⟩;obtain⟨v,hv,r⟩:=Ct.get hd;refine⟨⟨vs,v,hw,hv⟩,?_⟩;rintro x H3 ⟨e,y⟩;subst e;have:=y vs hw;rw [hv] at this;cases this;exact⟨r,.refl ab⟩
theorem dM(ha:gN X a ta):Nz X tg a (jS ta):=by
 intro E pins s σ H τ G R hE I h;refine k8 ha hE I h fun x H1 d G1 v s1 I1 m1 r1 jK q1=>?_;cases jK with
 | tup hq rs=>cases r1; exact Qa I1.inv m1 (.of hq) rs q1
 | eY hq rs=>cases r1; exact IQ I1.inv m1 hq.sq (fun H2 G2 k ab _=>⟨_,(k.Po hq).sq,rs.mono k⟩) q1
 | ref p =>
  cases r1;dsimp only at q1;split at q1
  ·rename_i ds e;obtain⟨vs,hv,rs⟩:=I1.ab.lst e;refine IQ I1.inv m1 (.of hv) (fun H2 G2 k ab o=>?_) q1;obtain⟨ws,hw,oh⟩:=ab.lst o;exact⟨ws,.of hw,oh⟩
  ·exact q1.elim
 | uC _ _=>exact q1.elim
 | uB _ _=>exact q1.elim
 | dQ=>exact q1.elim
 | bl _=>exact q1.elim
 | int _=>exact q1.elim
 | str _=>exact q1.elim
 | exc _=>exact q1.elim
theorem LS{pins:List (Addr×Obj)}{σ:L2.St}{H H1:Hp}{G G1:Gp}{s:aB}{R:List D->(Gp->Prop)->Gp->Prop}{lo hi:Int}{t u v:Tok}{tk:Nat}(I:Inv X pins σ H1 s)(m:Mv X.K H G H1 G1)(h1:-(2 ^ 62)<=lo)(h2:lo < 2 ^ 62)(h3:-(2 ^ 62)<=hi)(h4:hi < 2 ^ 62)
  (q:R (eN lo (hi - lo).toNat) (fun _=>True) G1):wpAny (model X.prog X.w) X.A (pyIter (.ref s.heap.objs.size)) (KL X pins σ tg H G R) X.xe { s with heap:=s.heap.push { cls:=.type "range",data:=.fields #[.int lo t,.int hi u,.int 1 v] },toks:=tk }:=by
 refine gO (LW (tg:=tg) I h1 h2 h3 h4 (R:=fun J H'=>J=Yb lo (hi - lo).toNat/\H'=H1) ⟨rfl,rfl⟩) ?_;rintro PF s2 ⟨it,fp,tn,J,H',e,lM,T,st,fo,eJ,eH⟩;subst eJ; subst eH;refine⟨it,fp,tn,_,H',G1,_,_,e,lM,m,T,st,fo,fun i H2 G2 k ab _=>⟨fun d hd=>?_,fun hl=>?_⟩,q⟩
 ·unfold eN at hd;rw [dq] at hd;cases U4:(eE (hi - lo).toNat)[i]? with
  | none=>rw [U4] at hd; cases hd
  | some j =>
   rw [U4] at hd;obtain⟨CZ,ej⟩:=List.getElem?_eq_some_iff.mp U4;rw [eR] at CZ;rw [qe] at ej;subst ej;cases hd;refine⟨CZ,?_⟩;rintro x H3 ⟨e1,e2⟩;subst e1; subst e2;exact⟨.int _,.refl ab⟩
 ·unfold eN at hl;rw [av,eR] at hl;exact hl
theorem gK (hg:Gl X "range") (hm:X.mg "range" = none) (ha:gN X a ta) (hs:autoParam (bY [a] X.env=[(false,eval a X.env)]) Ar._auto_1):Nz X tg (.Call (.Name "range" p) [a] [] pos) (pU ta):=by
 intro E pins s σ H τ G R hE I h;have hA:D0 X [a] (ak ta aH):=af ha ay hs;refine Call_ (pB I.inv hg hm boot_range (eL (xw hA pos hE I (R:=fun ds G1=>match ds with | [.int n]=>-(2 ^ 62)<=n/\n < 2 ^ 62/\R (eN 0 n.toNat) (fun _=>True) G1 | _=>False) ?_ fun vs H1 ds G1 us s1 I1 m1 r1 jK q1=>?_) hs rfl))
 ·show ta E τ G _;have e:(fun (x:D) (G1:Gp)=>match [x] with | [.int n]=>-(2 ^ 62)<=n/\n < 2 ^ 62/\R (eN 0 n.toNat) (fun _=>True) G1 | _=>False)=fun x G1=>match x with | .int n=>-(2 ^ 62)<=n/\n < 2 ^ 62/\R (eN 0 n.toNat) (fun _=>True) G1 | _=>False:=by
   funext x G1; cases x <;> rfl
  exact e ▸ h
 ·split at q1
  ·rename_i n;obtain⟨w,rfl,JK⟩:=jK.one;cases JK;obtain⟨u,rfl,ru⟩:=r1.one;obtain⟨t,rfl⟩:=ru;obtain⟨q1,q2,q⟩:=q1;exact call_range_1 (LS I1.inv m1 (by lia) (by lia) q1 q2 (by simpa using q))
  ·exact q1.elim
theorem dg{iter:Expr}{body:List Stmt}{wi:Ny}{g:BW}{t:fY}(hp:PassesOwn (model X.prog X.w) X.A X.env X.xe)(hc:X.calm=true)(hi:Nz X tg iter wi)(hg:K4 X tg g)(hb:zS X body t)
  (hs:autoParam (∀ x,nF iter X.env x=pure x) Ai._auto_1):FX X (.For tg iter body [] pos) (eD wi g t):=by
 intro E pins s σ H τ G D hE I h;refine wpAny_For (gO (hi E pins s σ H τ G _ hE I h) fun v s1 h1=>gO h1 fun PF s2 h2=>?_) hs;obtain⟨it,fp,tn,J,H2,G2,ds,ok,e,lM,m2,T,NM,f2,wk,q⟩:=h2;subst e;have Qe:∀ {H':Hp},(∀ b∈fp,H' b=none)->∀ b∈fp,oP X pins H' b:=fun hn b hb=>⟨hn b hb,(f2 b hb).2⟩;refine codeAny_forLoop_any (fun n s'=>∃ i jR H' kz G',I2 X pins jR H' kz G' s'/\Mv X.K H G H' G'/\Kp H2 H'/\tn i s'.heap/\(∀ b∈fp,H' b=none)/\n=ds.length - i/\i<=ds.length/\qW g t ok (ds.drop i) E D kz G') ?_ ds.length
  ⟨0,σ,H2,τ,G2,I.mv lM m2,m2,.refl _,NM,fun b hb=>(f2 b hb).1,rfl,cI _,q⟩
 rintro n s3 ⟨i,Ob,H3,P2,G3,I3,m3,k3,UK,Zg,rfl,hle,w3⟩;by_cases CZ:i < ds.length
 ·rw [hW CZ] at w3;obtain⟨S3,w3⟩:=w3;obtain⟨go,yl⟩:=(wk i H3 G3 k3 I3.ab S3).1 ds[i] (by simp [CZ]);refine jX hp (gO (T.item X rfl rfl rfl hc i pins s3 Ob H3 X.xe I3.inv (Qe Zg) UK go) ?_);rintro r s4 ⟨u,hr,h4⟩;subst hr;refine jX hp (gO h4 ?_);rintro _ s5 ⟨x,H5,I5,r5,y5,VL,fr5⟩;obtain⟨rd5,m5⟩:=yl x H5 y5;have I5':=I5.pinned (Qe fr5) (T.obj _ _ VL);have J5:I2 X (pins++qN fp s5.heap) Ob H5 P2 G3 s5:=⟨I5',I3.st.mono (m5.kp I3.ab),m5.ab⟩;refine jX hp (gO (hg E _ s5 Ob H5 P2 G3 x ds[i] u _ hE J5 r5 rd5 w3) ?_);rintro _ s6 ⟨ZP,H6,ZO,G6,I6,m6,q6⟩;refine jX hp (gO (hb E _ s6 ZP H6 ZO G6 _ hE I6 q6) fun f s7 q7=>?_);have again:∀ {KY:L2.St} {H7:Hp} {KW:ib} {G7:Gp},I2 X (pins++qN fp s5.heap) KY H7 KW G7 s7->Mv X.K H6 G6 H7 G7->qW g t ok (ds.drop (i+1)) E D KW G7 ->
    ∃ m,m < ds.length - i/\∃ i jR H' kz G',I2 X pins jR H' kz G' s7/\Mv X.K H G H' G'/\Kp H2 H'/\tn i s7.heap/\(∀ b∈fp,H' b=none)/\m=ds.length - i/\i<=ds.length/\qW g t ok (ds.drop i) E D kz G':=fun {KY H7 KW G7} I7 m7 n7=>by
   have mm:=m5.trans (m6.trans m7);refine⟨ds.length - (i+1),by lia,i+1,KY,H7,KW,G7,⟨I7.inv.t8,I7.st,I7.ab⟩,m3.trans mm,k3.trans (mm.kp I3.ab),T.keep _ _ _ VL fun b hb o e=>(I7.inv.pin (b,o) (bJ _ (bJ _ (pq hb e)))).1,fun b hb=>?_,rfl,CZ,n7⟩;obtain⟨o,e,d⟩:=T.obj _ _ VL b hb;exact(I7.inv.pin (b,o) (bJ _ (bJ _ (pq hb e)))).2.1
  cases f with
  | next=>obtain⟨KY,H7,KW,G7,I7,m7,n7⟩:=q7; exact again I7 m7 n7
  | cont=>obtain⟨KY,H7,KW,G7,I7,m7,n7⟩:=q7; exact again I7 m7 n7
  | brk=>obtain⟨KY,H7,KW,G7,I7,m7,q7⟩:=q7; exact⟨KY,H7,KW,G7,⟨I7.inv.t8,I7.st,I7.ab⟩,m3.trans (m5.trans (m6.trans m7)),q7⟩
  | ret v=>obtain⟨x7,KY,H7,d7,G7,I7,m7,r7,rd7,q7⟩:=q7; exact⟨x7,KY,H7,d7,G7,I7.t8,m3.trans (m5.trans (m6.trans m7)),r7,rd7,q7⟩
 ·have hn:ds.length<=i:=by lia
  rw [lQ hn] at w3;obtain⟨S3,qn⟩:=w3;have stop:=(wk i H3 G3 k3 I3.ab S3).2 hn;refine jX hp (gO (T.done X rfl rfl rfl hc i pins s3 Ob H3 X.xe I3.inv (Qe Zg) UK stop) ?_);rintro r s4 ⟨hr,I4⟩;subst hr;exact yi ⟨Ob,H3,P2,G3,⟨I4,I3.st,I3.ab⟩,m3,qn⟩
theorem JQ{c:Expr}{body:List Stmt}{tc:xM}{t:fY}(hp:PassesOwn (model X.prog X.w) X.A X.env X.xe)(hc:K1 X c tc)(hb:zS X body t):FX X (.While c body [] pos) (Nb tc t):=by
 intro E pins s σ H τ G D hE I h;obtain⟨n0,w0⟩:=h;refine wpAny_While (codeAny_whileLoop (fun n s'=>∃ jR H' kz G',I2 X pins jR H' kz G' s'/\Mv X.K H G H' G'/\Ea tc t n E D kz G') ?_ n0 ⟨σ,H,τ,G,I,.refl I.ab,w0⟩);rintro n s1 ⟨UE,H1,sM,G1,I1,m1,w1⟩;cases n with
 | zero=>exact w1.elim
 | succ n =>
  refine jX hp (Lx hc hE I1 w1 fun b H2 G2 s2 lM m2 q2=>?_);cases b with
  | true =>
   rw [if_pos rfl] at q2 ⊢;refine jX hp (gO (hb E pins s2 UE H2 sM G2 _ hE lM q2) fun f s3 q3=>?_);cases f with
   | next=>obtain⟨Ob,H3,P2,G3,I3,m3,n3⟩:=q3; exact⟨n,kC _,Ob,H3,P2,G3,I3,m1.trans (m2.trans m3),n3⟩
   | cont=>obtain⟨Ob,H3,P2,G3,I3,m3,n3⟩:=q3; exact⟨n,kC _,Ob,H3,P2,G3,I3,m1.trans (m2.trans m3),n3⟩
   | brk=>exact q3.trans (m1.trans m2)
   | ret v=>exact q3.trans (m1.trans m2)
  | false =>
   rw [if_neg jv] at q2 ⊢;exact yi ⟨UE,H2,sM,G2,lM,m1.trans m2,q2⟩
end
end K2
end
section
namespace K2
open PySem PySem.Spec PyProof.Rows L2
theorem Co(n d:Nat)(o:Option Int):HT.jI n d o=jI n d o:=by cases o <;> rfl
theorem br.cut{K:ao}{H:Hp}{vs:List V}{ds:List D}(r:br K H vs ds)(lo hi:Option Int):br K H (Fx vs lo hi) (K2.cut ds lo hi):=by
 unfold Fx K2.cut;rw [Co,Co,r.length];exact(r.drop _).take _
theorem br.oY{K:ao}{H:Hp}{vs:List V}{ds:List D}{i:Int}{d:D}(r:br K H vs ds)(h:K2.oY ds i=some d):∃ v,L2.oY vs i=some v/\cV K H v d:=by
 unfold K2.oY at h;cases e:K2.Hd ds.length i with
 | none=>rw [e] at h; cases h
 | some j =>
  rw [e] at h;obtain⟨v,h1,h2⟩:=r.get (show ds[j]?=some d from h);refine⟨v,?_,h2⟩;show (L2.Hd vs.length i).bind _=_;have e':L2.Hd vs.length i=some j:=by rw [r.length]; exact e
  rw [e'];exact h1
section
variable {X:Cx} {a b c e:Expr} {ta tb tc te:gH} {pos p2:Pos}
theorem pJ{pins:List (Addr×Obj)}{s:aB}{σ:L2.St}{H:Hp}{G:Gp}{x:V}{d:D}{v:Value}{zs:List D}(I:Inv X pins σ H s)(ab:mQ X.K H G)(rx:RelV x v)(rd:cV X.K H x d)(hi:u0 d G=some zs) :
  ∃ l vs bB,v=.ref l/\Vals vs bB/\br X.K H vs zs/\s.heap.IsList l bB.toArray/\vs.length<=bh:=by
 cases rd with
 | eY hq rs =>
  cases hi;cases rx;obtain⟨bB,rv,pl,hz⟩:=I.list hq.sq;exact⟨_,_,bB,rfl,rv,rs,pl.isList,hz⟩
 | ref l =>
  unfold u0 at hi;dsimp only at hi;cases hg:G l with
  | none=>rw [hg] at hi; cases hi
  | some gg =>
   rw [hg] at hi;cases gg with
   | lst ds =>
    cases hi;cases rx;obtain⟨vs,hv,rs⟩:=ab.lst hg;obtain⟨bB,rv,pl,hz⟩:=I.list (.of hv);exact⟨_,_,bB,rfl,rv,rs,pl.isList,hz⟩
   | ins _ _=>cases hi
   | mH _=>cases hi
 | _=>cases hi
theorem vX{pins:List (Addr×Obj)}{s:aB}{σ:L2.St}{H:Hp}(I:Inv X pins σ H s){m:Str->Option Value}(F0:Fr X.base X.env.locals s.heap m){h':Heap}(F:Fr X.base X.env.locals h' m)(N:News X.base X.env.locals h' (se X.base s.heap X.env.locals)) :
  (∀ b o,b≠X.env.locals->s.heap.get? b=some o->h'.get? b=some o)/\∀ m',s.heap.Ns X.env.locals m'->h'.Ns X.env.locals m':=by
 refine⟨fun b o hb e=>?_,fun m' hm=>?_⟩
 ·cases q:X.base.get? b with
  | some u =>
   have:=I.bk b u q;rw [e] at this; cases this;exact F.keep b _ q
  | none=>exact(N (b,o) (xc hb q e)).1
 ·have e1:=hm.eq_nsMap;have e2:=F0.ns.eq_nsMap;rw [e1,<-e2]; exact F.ns
theorem oG{P:bO}{w:World}{H:Hp}{h:Heap}{a:Addr}:∀ {o:HO},iC P w H h a o->∃ ob,h.get? a=some ob:=by
 intro o x;cases o with
 | lst _=>obtain⟨_,_,_,_,e⟩:=x; exact⟨_,e⟩
 | tup _=>obtain⟨_,_,_,ob,e,_⟩:=x; exact⟨ob,e⟩
 | dK _=>obtain⟨_,_,_,_,ob,_,_,e,_⟩:=x; exact⟨ob,e⟩
 | dT _=>obtain⟨_,_,_,_,ob,_,_,e,_⟩:=x; exact⟨ob,e⟩
 | set _ _=>obtain⟨ob,_,_,_,e,_⟩:=x; exact⟨ob,e⟩
 | ins _ _ _=>obtain⟨_,_,_,e,_⟩:=x; exact⟨_,e⟩
 | own _=>exact x
 | xd _=>obtain⟨_,⟨ob,_,_,e,_⟩,_⟩:=x; exact⟨ob,e⟩
 | met _ _=>exact⟨_,x⟩
 | SJ _ _=>obtain⟨_,_,_,e⟩:=x; exact⟨_,e⟩
 | pX _ _=>exact⟨_,x.1⟩
 | Pn _=>obtain⟨_,e,_⟩:=x; exact⟨_,e⟩
 | ext _=>exact x.2.1
theorem Jc{P:bO}{w:World}{H:Hp}{h:Heap}{a:Addr}(ok:tU P w H h)(e:h.get? a=none):H a=none:=by
 cases q:H a with
 | none=>rfl
 | some o =>
  obtain⟨ob,z⟩:=oG (ok a o q);rw [e] at z; cases z
theorem Inv.PD{pins:List (Addr×Obj)}{s:aB}{σ:L2.St}{H:Hp}(I:Inv X pins σ H s){h':Heap}{t':Nat}{a:Addr}{o:HO}(k:∀ b o,b≠X.env.locals->s.heap.get? b=some o->h'.get? b=some o)(ns:∀ m',s.heap.Ns X.env.locals m'->h'.Ns X.env.locals m')
  (hp:s.heap.get? a=none) (new:iC X.prog X.w (upd H a o) h' a o):Inv X pins σ (upd H a o) { s with heap:=h',toks:=t' }:=by
 have hn:H a=none:=Jc I.eV hp;have ne:∀ b u,H b=some u->b≠a:=fun b u e=>eP e hn;have nL:∀ b u,H b=some u->b≠X.env.locals:=fun b u e=>eP e I.free;have ht:∀ b u,s.heap.get? b=some u->b≠a:=fun b u e z=>by subst z; rw [hp] at e; cases e
 have ZY:∃ o',h'.get? X.env.locals=some o':=by
  obtain⟨m,hm,_⟩:=I.loc;obtain⟨o',_,_,ho,_⟩:=ns m hm;exact⟨o',ho⟩
 refine I.step (g':=s.gens) (d':=s.drawn) (ch:=[]) (fun b hb=>absurd hb (by simp)) (fun b o hL _ _ e _=>k b o hL e) (fun b o hL _ _ e _=>⟨o.slots,k b o hL e⟩) (fun b o _ e n=>by rw [bZ (ht b o e)]; exact n)
  (fun b o _ e=>?_) (fun b xs e=>by rw [bZ (ne _ _ e)]; exact e) (fun b o u e=>by rw [bZ (ne _ _ e)]; exact e) (fun b ps e=>by rw [bZ (ne _ _ e)]; exact e) ns (fun b u e=>?_) I.bare
 ·by_cases hb:b=X.env.locals
  ·rw [hb]; exact ZY
  ·exact⟨o,k b o hb e⟩
 ·by_cases hb:b=a
  ·subst hb; rw [c8] at e; cases e; exact new
  ·rw [bZ hb] at e;refine(I.eV b u e).nI (fun c v hc r=>k c v ?_ r) (fun c z=>by rw [bZ (ne _ _ z)]; exact z) (fun c xs z=>by rw [bZ (ne _ _ z)]; exact z);rcases hc with rfl | hc
   ·exact nL _ _ e
   ·exact nL _ _ hc
theorem fK:tS X (ku .Add) kA:=by
 intro pins s σ H G x y dx dy v u Q I ab rx ry dX dY q;have lists:zP dx dy G Q->wpAny (model X.prog X.w) X.A (ku .Add v u) (sf X pins σ H G Q) X.xe s:=by
  intro q;unfold zP at q;split at q
  ·rename_i xs ys e1 e2;obtain⟨hz,q⟩:=q;obtain⟨l,vs,bB,rfl,rv,rs,hl,_⟩:=pJ I ab rx dX e1;obtain⟨b,ws,sr,rfl,JL,Pr,hb,_⟩:=pJ I ab ry dY e2;obtain⟨m,F0⟩:=I.fr;have hsz:bB.length+sr.length<=bh:=by rw [<-rv.length,<-JL.length,rs.length,Pr.length,c6]; exact hz
   refine PyProof.Rows.add_lists F0 EF hl hb (fun h' F N=>?_) hsz;obtain⟨kk,ns⟩:=vX I F0 F fun p hp=>N p (aR _ hp);have hp:H s.heap.objs.size=none:=I.eV.fresh (aQ _);refine⟨.ref s.heap.objs.size,upd H s.heap.objs.size (.lst (vs++ws)),.ref _,_,Inv.PD (t':=s.toks) I kk ns (Oa (aQ _)) ?_,.GR ab hp (rs.append Pr),rfl,.ref _,q _ (ab.free hp)⟩;exact⟨by rw [aI,rv.length,JL.length]; exact hsz,bB++sr,0,rv.append JL,(N _ bf).1⟩
  ·exact q.elim
 cases dX with
 | int i =>
  cases dY with
  | int j=>exact gO (QB pins s σ H _ _ v u (Ap X.K H G Q) I rx ry ⟨i,j,rfl,rfl,_,_,.refl ab,.int _,q⟩) fun _ _ z=>.of z
  | _=>exact lists q
 | str i =>
  cases dY with
  | str j =>
   obtain⟨hz,q⟩:=q;exact gO (GJ pins s σ H _ _ v u (Ap X.K H G Q) I rx ry ⟨i,j,rfl,rfl,by rw [c6]; exact hz,_,_,.refl ab,.str _,q⟩) fun _ _ z=>.of z
  | _=>exact lists q
 | tup h1 r1 =>
  cases dY with
  | tup h2 r2 =>
   obtain⟨hn,hz,q⟩:=q;refine gO (OM pins s σ H _ _ v u (Ap X.K H G Q) I rx ry ⟨_,_,_,_,rfl,rfl,.of h1,.of h2,?_,?_,fun e=>?_,fun e p hp=>?_⟩) fun _ _ z=>.of z
   ·rintro rfl; cases r1; exact hn rfl
   ·rw [r1.length,r2.length,c6]; exact hz
   ·subst e;cases r2;rw [c9] at q;exact⟨_,_,.refl ab,.tup h1 r1,q⟩
   ·exact⟨_,_,.PL ab hp,.tup c8 ((r1.append r2).mono (.new hp)),q⟩
  | _=>exact lists q
 | ref l=>exact lists (by rw [oE] at q; exact q)
 | eY _ _=>exact lists (by rw [qL] at q; exact q)
 | _=>exact lists (by cases dY <;> exact q)
theorem uW:tS X (ku .Sub) GD:=by
 intro pins s σ H G x y dx dy v u Q I ab rx ry dX dY q;cases dX with
 | int i =>
  cases dY with
  | int j=>exact gO (Qx pins s σ H _ _ v u (Ap X.K H G Q) I rx ry ⟨i,j,rfl,rfl,_,_,.refl ab,.int _,q⟩) fun _ _ z=>.of z
  | _=>exact bN q
 | _=>exact bN q
theorem CF:tS X (ku .Mult) LZ:=by
 intro pins s σ H G x y dx dy v u Q I ab rx ry dX dY q;cases dX with
 | int i =>
  cases dY with
  | int j=>exact gO (Qy pins s σ H _ _ v u (Ap X.K H G Q) I rx ry ⟨i,j,rfl,rfl,q.1,_,_,.refl ab,.int _,q.2⟩) fun _ _ z=>.of z
  | _=>exact bN q
 | _=>exact bN q
theorem jL:tS X (ku .Mod) tx:=by
 intro pins s σ H G x y dx dy v u Q I ab rx ry dX dY q;cases dX with
 | int i =>
  cases dY with
  | int j=>exact gO (Qz pins s σ H _ _ v u (Ap X.K H G Q) I rx ry ⟨i,j,rfl,rfl,q.1,_,_,.refl ab,.int _,q.2⟩) fun _ _ z=>.of z
  | _=>exact bN q
 | _=>exact bN q
theorem uX:tS X (ku .FloorDiv) Bq:=by
 intro pins s σ H G x y dx dy v u Q I ab rx ry dX dY q;cases dX with
 | int i =>
  cases dY with
  | int j=>exact gO (OL pins s σ H _ _ v u (Ap X.K H G Q) I rx ry ⟨i,j,rfl,rfl,⟨q.1,q.2.1⟩,_,_,.refl ab,.int _,q.2.2⟩) fun _ _ z=>.of z
  | _=>exact bN q
 | _=>exact bN q
theorem QC(hu:X.A.units < cLine):tS X (fE .Lt) UN:=by
 intro pins s σ H G x y dx dy v u Q I ab rx ry dX dY q;cases dX with
 | int i =>
  cases dY with
  | int j=>exact gO (SU pins s σ H _ _ v u (Ap X.K H G Q) I rx ry ⟨i,j,rfl,rfl,_,_,.refl ab,.bl _,q⟩) fun _ _ z=>.of z
  | _=>exact bN q
 | tup h1 r1 =>
  cases dY with
  | tup h2 r2 =>
   obtain⟨xs,ys,e1,e2,q⟩:=q;subst e1 e2;have z1:=r1.ints;have z2:=r2.ints;subst z1 z2;have el:∀ xs ys:List Int,HT.lexLt xs ys=K2.lexLt xs ys:=by
    intro xs;induction xs with
    | nil=>intro ys; cases ys <;> rfl
    | cons x xs ih=>intro ys; cases ys with
     | nil=>rfl
     | cons y ys=>unfold HT.lexLt K2.lexLt; rw [ih]
   exact gO (QA hu pins s σ H _ _ v u (Ap X.K H G Q) I rx ry ⟨_,_,xs,ys,rfl,rfl,.of h1,.of h2,_,_,.refl ab,.bl _,by rw [el]; exact q⟩) fun _ _ z=>.of z
  | _=>exact bN q
 | _=>exact bN q
theorem QD:tS X (fE .Gt) V0:=by
 intro pins s σ H G x y dx dy v u Q I ab rx ry dX dY q;cases dX with
 | int i =>
  cases dY with
  | int j=>exact gO (SV pins s σ H _ _ v u (Ap X.K H G Q) I rx ry ⟨i,j,rfl,rfl,_,_,.refl ab,.bl _,q⟩) fun _ _ z=>.of z
  | _=>exact bN q
 | _=>exact bN q
mutual
noncomputable def pd:D->PyData
 | .dQ=>.none
 | .bl b=>.bool b
 | .int i=>.int i
 | .str x=>.str x
 | .tup ds=>.tuple (lK ds)
 | .eY ds=>.list (lK ds)
 | .wV _=>.none
 | .exc _=>.none
 | .ref _=>.none
noncomputable def lK:List D->List PyData
 | []=>[]
 | d :: r=>pd d :: lK r
end
mutual
theorem tK:∀ (s t:D),nr s=true->nr t=true->t4 (pd s) (pd t)=iQ s t
 | .dQ,t,_,ht=>by cases t <;> first | rfl | (exact cF (show false=true from ht))
 | .bl a,t,_,ht=>by cases t <;> first | rfl | (exact cF (show false=true from ht))
 | .int a,t,_,ht=>by cases t <;> first | rfl | (exact cF (show false=true from ht))
 | .str a,t,_,ht=>by cases t <;> first | rfl | (exact cF (show false=true from ht))
 | .tup a,t,hs,ht=>by
  cases t with
  | tup b=>exact Dl a b hs ht
  | ref _=>exact cF (show false=true from ht)
  | exc _=>exact cF (show false=true from ht)
  | wV _=>exact cF (show false=true from ht)
  | _=>rfl
 | .eY a,t,hs,ht=>by
  cases t with
  | eY b=>exact Dl a b hs ht
  | ref _=>exact cF (show false=true from ht)
  | exc _=>exact cF (show false=true from ht)
  | wV _=>exact cF (show false=true from ht)
  | _=>rfl
 | .ref _,_,hs,_=>cF (show false=true from hs)
 | .exc _,_,hs,_=>cF (show false=true from hs)
 | .wV _,_,hs,_=>cF (show false=true from hs)
theorem Dl:∀ (s t:List D),pT s=true->pT t=true->PyData.eqvAll (lK s) (lK t)=kc s t
 | [],[],_,_=>rfl
 | [],_ :: _,_,_=>rfl
 | _ :: _,[],_,_=>rfl
 | a :: r,b :: t,hs,ht=>by
  have RZ:nr a=true/\pT r=true:=(jW).mp hs;have RY:nr b=true/\pT t=true:=(jW).mp ht;show (t4 (pd a) (pd b)&&PyData.eqvAll (lK r) (lK t))=(iQ a b&&kc r t);rw [tK a b RZ.1 RY.1,Dl r t RZ.2 RY.2]
end
mutual
theorem ka:∀ (s:D),nr s=true->(pd s).canLay0=true
 | .dQ,_=>rfl
 | .bl a,_=>rfl
 | .int a,_=>rfl
 | .str a,h=>h
 | .tup a,h=>u6 a h
 | .eY a,h=>u6 a h
 | .exc _,_=>rfl
 | .ref _,_=>rfl
 | .wV _,_=>rfl
theorem u6:∀ (s:List D),pT s=true->PyData.canLayAll0 (lK s)=true
 | [],_=>rfl
 | a :: r,h=>by
  have h':nr a=true/\pT r=true:=(jW).mp h;show ((pd a).canLay0&&PyData.canLayAll0 (lK r))=true;rw [ka a h'.1,u6 r h'.2]; rfl
end
theorem Dp{G:Gp}{n:Nat}{d t:D}(h:Sn G n d t):(pd t).depth<=n:=by
 induction h with
 | dQ=>exact cI _
 | bl b=>exact cI _
 | int i=>exact cI _
 | str x h=>exact cI _
 | Ed=>exact tV (cI _)
 | pN _ _ MA Mz =>
  exact tV (Nat.max_le.mpr ⟨MA,t6 Mz⟩)
 | LR=>exact tV (cI _)
 | Et _ _ MA Mz =>
  exact tV (Nat.max_le.mpr ⟨MA,t6 Mz⟩)
 | ref _ _ ih=>exact ih
theorem je{pins:List (Addr×Obj)}{σ:L2.St}{H:Hp}{s:aB}{G:Gp}(I:Inv X pins σ H s)(ab:mQ X.K H G){n:Nat}{d t:D}(h:Sn G n d t) :
  (∀ v u,cV X.K H v d->RelV v u->∃ as,Reads s.heap u (pd t) as) /\
  (∀ ds ss,(d=.eY ds/\t=.eY ss)\/(d=.tup ds/\t=.tup ss)->∀ vs us,br X.K H vs ds->Vals vs us->∃ as,g7 s.heap us (lK ss) as):=by
 have Pk:∀ {ds ss:List D},(∀ vs us,br X.K H vs ds->Vals vs us->∃ as,g7 s.heap us (lK ss) as)->∀ v u,cV X.K H v (.tup ds)->RelV v u->∃ as,Reads s.heap u (pd (.tup ss)) as:=by
  intro ds ss k v u r ru;cases r with
  | tup hq rs =>
   cases ru;obtain⟨bB,rv,⟨o,ho,hc,n,hd⟩,hz⟩:=I.tuple (.of hq);obtain⟨as,ra⟩:=k _ bB rs rv;exact⟨as,.tuple ho hc hd (by simpa using ra)⟩
 have Pt:∀ {ds ss:List D},(∀ vs us,br X.K H vs ds->Vals vs us->∃ as,g7 s.heap us (lK ss) as)->∀ v u,cV X.K H v (.eY ds)->RelV v u->∃ as,Reads s.heap u (pd (.eY ss)) as:=by
  intro ds ss k v u r ru;cases r with
  | eY hq rs =>
   cases ru;obtain⟨bB,rv,pl,hz⟩:=I.list hq.sq;obtain⟨o,ho,hc,n,hd⟩:=pl.isList;obtain⟨as,ra⟩:=k _ bB rs rv;exact⟨_,.list ho hc hd (by simpa using ra)⟩
 induction h with
 | dQ=>exact⟨fun v u r ru=>by cases r; cases ru; exact⟨_,.none⟩,fun ds ss e=>by rcases e with ⟨e,_⟩ | ⟨e,_⟩ <;> cases e⟩
 | bl b=>exact⟨fun v u r ru=>by cases r; cases ru; exact⟨_,.bool b⟩,fun ds ss e=>by rcases e with ⟨e,_⟩ | ⟨e,_⟩ <;> cases e⟩
 | int i=>exact⟨fun v u r ru=>by cases r; obtain⟨t,rfl⟩:=ru; exact⟨_,.int i t⟩,fun ds ss e=>by rcases e with ⟨e,_⟩ | ⟨e,_⟩ <;> cases e⟩
 | str x hx=>exact⟨fun v u r ru=>by cases r; obtain⟨t,rfl⟩:=ru; exact⟨_,.str x t⟩,fun ds ss e=>by rcases e with ⟨e,_⟩ | ⟨e,_⟩ <;> cases e⟩
 | Ed =>
  have k:∀ vs us,br X.K H vs []->Vals vs us->∃ as,g7 s.heap us (lK []) as:=fun vs us r ru=>by
   have e:=r.zero;subst e;cases ru;exact⟨_,.nil⟩
  refine⟨Pk k,fun ds ss e=>?_⟩;rcases e with ⟨e,_⟩ | ⟨e,e2⟩
  ·cases e
  ·cases e; cases e2; exact k
 | pN h1 h2 MA Mz =>
  have k2:=Mz.2 _ _ (.inr ⟨rfl,rfl⟩);have k:∀ vs us,br X.K H vs (_ :: _)->Vals vs us->∃ as,g7 s.heap us (lK (_ :: _)) as:=fun vs us r ru=>by
   cases r with
   | cons r1 r2 =>
    cases ru with
    | cons u1 u2 =>
     obtain⟨as,ra⟩:=MA.1 _ _ r1 u1;obtain⟨bs,rb⟩:=k2 _ _ r2 u2;exact⟨_,.cons ra rb⟩
  refine⟨Pk k,fun ds ss e=>?_⟩;rcases e with ⟨e,_⟩ | ⟨e,e2⟩
  ·cases e
  ·cases e; cases e2; exact k
 | LR =>
  have k:∀ vs us,br X.K H vs []->Vals vs us->∃ as,g7 s.heap us (lK []) as:=fun vs us r ru=>by
   have e:=r.zero;subst e;cases ru;exact⟨_,.nil⟩
  refine⟨Pt k,fun ds ss e=>?_⟩;rcases e with ⟨e,e2⟩ | ⟨e,_⟩
  ·cases e; cases e2; exact k
  ·cases e
 | Et h1 h2 MA Mz =>
  have k2:=Mz.2 _ _ (.inl ⟨rfl,rfl⟩);have k:∀ vs us,br X.K H vs (_ :: _)->Vals vs us->∃ as,g7 s.heap us (lK (_ :: _)) as:=fun vs us r ru=>by
   cases r with
   | cons r1 r2 =>
    cases ru with
    | cons u1 u2 =>
     obtain⟨as,ra⟩:=MA.1 _ _ r1 u1;obtain⟨bs,rb⟩:=k2 _ _ r2 u2;exact⟨_,.cons ra rb⟩
  refine⟨Pt k,fun ds ss e=>?_⟩;rcases e with ⟨e,e2⟩ | ⟨e,_⟩
  ·cases e; cases e2; exact k
  ·cases e
 | ref hg h1 ih =>
  refine⟨fun v u r ru=>?_,fun ds ss e=>by rcases e with ⟨e,_⟩ | ⟨e,_⟩ <;> cases e⟩;cases r;cases ru;obtain⟨vs,hv,rs⟩:=ab.lst hg;obtain⟨bB,rv,pl,hz⟩:=I.list (.of hv);obtain⟨o,ho,hc,n,hd⟩:=pl.isList;obtain⟨as,ra⟩:=ih.2 _ _ (.inl ⟨rfl,rfl⟩) vs bB rs rv;exact⟨_,.list ho hc hd (by simpa using ra)⟩
theorem iK(hu:X.A.units+64 < cLine):tS X (fE .Eq) (oW false):=by
 intro pins s σ H G x y dx dy v u Q I ab rx ry dX dY q;obtain⟨a,b,sa,sb,q⟩:=q;obtain⟨as,ra⟩:=(je I ab sa).1 x v dX rx;obtain⟨bs,rb⟩:=(je I ab sb).1 y u dY ry;have d1:=Dp sa;refine SeqAt.compareEq_reads ra rb (ka _ sa.nr) (ka _ sb.nr) (by unfold SN at d1; lia) ?_;rw [tK _ _ sa.nr sb.nr];exact⟨.bl _,H,.bl _,G,I,.refl ab,rfl,.bl _,q⟩
theorem lE(hu:X.A.units+64 < cLine):tS X (fE .NotEq) (oW true):=by
 intro pins s σ H G x y dx dy v u Q I ab rx ry dX dY q;obtain⟨a,b,sa,sb,q⟩:=q;obtain⟨as,ra⟩:=(je I ab sa).1 x v dX rx;obtain⟨bs,rb⟩:=(je I ab sb).1 y u dY ry;have d1:=Dp sa;refine SeqAt.compareNe_reads ra rb (ka _ sa.nr) (ka _ sb.nr) (by unfold SN at d1; lia) ?_;rw [tK _ _ sa.nr sb.nr];exact⟨.bl _,H,.bl _,G,I,.refl ab,rfl,.bl _,q⟩
end
end K2
end
section
namespace K2
open PySem PySem.Spec PyProof.Rows L2
theorem vi(j k:Key):iQ (fQ j) (fQ k)=decide (j=k):=by
 cases j with
 | inl a=>cases k with
  | inl b=>rw [Mp]; rfl
  | inr b=>exact(decide_eq_false (fun z=>nomatch z)).symm
 | inr a=>cases k with
  | inl b=>exact(decide_eq_false (fun z=>nomatch z)).symm
  | inr b=>rw [Mn]; exact(NK a b)
theorem BI:∀ (js ks:List Key),kc (js.map fQ) (ks.map fQ)=decide (js=ks)
 | [],[]=>(decide_eq_true rfl).symm
 | [],_ :: _=>(decide_eq_false (fun z=>nomatch z)).symm
 | _ :: _,[]=>(decide_eq_false (fun z=>nomatch z)).symm
 | j :: js,k :: ks=>by
  show (iQ (fQ j) (fQ k)&&kc (js.map fQ) (ks.map fQ))=_;rw [vi,BI js ks,zD]
theorem vh(js ks:List Key):iQ (.tup (js.map fQ)) (.tup (ks.map fQ))=decide (js=ks):=by
 exact BI js ks
section
variable {K:ao} {H:Hp}
theorem CP{d:D}(h:fU d=true):∃ k:Key,d=fQ k:=by
 cases d with
 | int i=>exact⟨.inl i,rfl⟩
 | str x=>exact⟨.inr x,rfl⟩
 | _=>exact absurd h (by simp [fU])
theorem IS:∀ {ds:List D},ds.all fU=true->∃ ks:List Key,ds=ks.map fQ
 | [],_=>⟨[],rfl⟩
 | d :: r,h=>by
  rw [KR,aU] at h;obtain⟨k,rfl⟩:=CP h.1;obtain⟨ks,rfl⟩:=IS h.2;exact⟨k :: ks,rfl⟩
theorem IT{d:D}(h:tE d=true):∃ ks:List Key,d=.tup (ks.map fQ):=by
 cases d with
 | tup ds=>obtain⟨ks,rfl⟩:=IS (ds:=ds) h; exact⟨ks,rfl⟩
 | _=>exact absurd h (by simp [tE])
theorem Cr{v:V}{k:Key}(r:cV K H v (fQ k)):v=kV k:=by
 cases k with
 | inl i=>cases r; rfl
 | inr x=>cases r; rfl
theorem Er:∀ {vs:List V} {ks:List Key},br K H vs (ks.map fQ)->vs=ks.map kV
 | _,[],r=>r.zero
 | _,k :: ks,r=>by
  rw [au] at r;cases r with
  | cons r1 r2=>rw [Cr r1,Er r2]; rfl
theorem Es{v:V}{ks:List Key}(r:cV K H v (.tup (ks.map fQ))):∃ b,v=.ref b/\H b=some (.tup (ks.map kV)):=by
 cases r with
 | tup h rs=>have e:=Er rs; subst e; exact⟨_,rfl,h⟩
theorem qi.look{kv:List (Key×V)}{bu:List (D×D)}(r:qi K H kv bu)(k:Key):(∃ v d,lR kv k=some v/\K2.look bu (fQ k)=some d/\cV K H v d)\/(lR kv k=none/\K2.look bu (fQ k)=none):=by
 induction r using qi.ind with
 | nil=>exact .inr ⟨rfl,rfl⟩
 | @cons j v d r t rd rs ih =>
  by_cases e:j=k
  ·left;refine⟨v,d,qu (p:=(j,v)) e,?_,rd⟩;unfold K2.look;rw [Lh (by show iQ (fQ j) (fQ k)=true; rw [vi]; exact decide_eq_true e)]; rfl
  ·have e1:lR ((j,v) :: r) k=lR r k:=qw (p:=(j,v)) e;have e2:K2.look ((fQ j,d) :: t) (fQ k)=K2.look t (fQ k):=by
    unfold K2.look;rw [Li (by show ¬ iQ (fQ j) (fQ k)=true; rw [vi]; simpa using e)]
   rw [e1,e2];exact ih
theorem rM.look{kv:List (List Key×V)}{bu:List (D×D)}(r:rM K H kv bu)(k:List Key):(∃ v d,lR kv k=some v/\K2.look bu (.tup (k.map fQ))=some d/\cV K H v d)\/(lR kv k=none/\K2.look bu (.tup (k.map fQ))=none):=by
 induction r using rM.ind with
 | nil=>exact .inr ⟨rfl,rfl⟩
 | @cons j v d r t rd rs ih =>
  by_cases e:j=k
  ·left;refine⟨v,d,qu (p:=(j,v)) e,?_,rd⟩;unfold K2.look;rw [Lh (by show iQ (.tup (j.map fQ)) (.tup (k.map fQ))=true; rw [vh]; exact decide_eq_true e)]; rfl
  ·have e1:lR ((j,v) :: r) k=lR r k:=qw (p:=(j,v)) e;have e2:K2.look ((.tup (j.map fQ),d) :: t) (.tup (k.map fQ))=K2.look t (.tup (k.map fQ)):=by
    unfold K2.look;rw [Li (by show ¬ iQ (.tup (j.map fQ)) (.tup (k.map fQ))=true; rw [vh]; simpa using e)]
   rw [e1,e2];exact ih
theorem qi.any{kv:List (Key×V)}{bu:List (D×D)}(r:qi K H kv bu)(k:Key):(kv.any fun p=>decide (p.1=k))=bu.any fun p=>iQ p.1 (fQ k):=by
 induction r using qi.ind with
 | nil=>rfl
 | @cons j v d r t rd rs ih=>simp only [og]; rw [ih,vi]
theorem rM.any{kv:List (List Key×V)}{bu:List (D×D)}(r:rM K H kv bu)(k:List Key):(kv.any fun p=>decide (p.1=k))=bu.any fun p=>iQ p.1 (.tup (k.map fQ)):=by
 induction r using rM.ind with
 | nil=>rfl
 | @cons j v d r t rd rs ih=>simp only [og]; rw [ih,vh]
theorem qi.put{kv:List (Key×V)}{bu:List (D×D)}(r:qi K H kv bu)(k:Key){v:V}{d:D}(rd:cV K H v d):qi K H (putK kv k v) (K2.put bu (fQ k) d):=by
 unfold putK K2.put;rw [r.any k];by_cases h:(bu.any fun p=>iQ p.1 (fQ k))=true
 ·rw [if_pos h,if_pos h];clear h;induction r using qi.ind with
  | nil=>exact .nil
  | @cons j w e r t re rs ih =>
   simp only [au];rw [vi];by_cases e:j=k
   ·simp only [e,if_true,decide_true]; exact .cons rd ih
   ·simp only [e,if_false,decide_false,ah]; exact .cons re ih
 ·rw [if_neg h,if_neg h];clear h;induction r using qi.ind with
  | nil=>exact .cons rd .nil
  | cons re rs ih=>exact .cons re ih
theorem rM.put{kv:List (List Key×V)}{bu:List (D×D)}(r:rM K H kv bu)(k:List Key){v:V}{d:D}(rd:cV K H v d):rM K H (putK kv k v) (K2.put bu (.tup (k.map fQ)) d):=by
 unfold putK K2.put;rw [r.any k];by_cases h:(bu.any fun p=>iQ p.1 (.tup (k.map fQ)))=true
 ·rw [if_pos h,if_pos h];clear h;induction r using rM.ind with
  | nil=>exact .nil
  | @cons j w e r t re rs ih =>
   simp only [au];rw [vh];by_cases e:j=k
   ·simp only [e,if_true,decide_true]; exact .cons rd ih
   ·simp only [e,if_false,decide_false,ah]; exact .cons re ih
 ·rw [if_neg h,if_neg h];clear h;induction r using rM.ind with
  | nil=>exact .cons rd .nil
  | cons re rs ih=>exact .cons re ih
end
theorem Kp.putD{H:Hp}{p:Addr}{o o':HO}(hp:H p=some o)(h:(∃ k,o=.dK k)\/∃ k,o=.dT k):Kp H (upd H p o') :=
 ⟨fun a ys e=>by rw [bZ (by rintro rfl; rw [hp] at e; rcases h with ⟨_,rfl⟩ | ⟨_,rfl⟩ <;> cases e)]; exact e,fun a ob u e=>by rw [bZ (by rintro rfl; rw [hp] at e; rcases h with ⟨_,rfl⟩ | ⟨_,rfl⟩ <;> cases e)]; exact e⟩
section
variable {X:Cx} {pins:List (Addr×Obj)} {σ:L2.St} {H:Hp} {s:aB} {G:Gp} {a:Addr} {bu:List (D×D)} {k:D} {y:V}
theorem toT(I:Inv X pins σ H s)(e:H a=some (.dK [])):Inv X pins σ (upd H a (.dT [])) s:=by
 obtain⟨z,hd,vs,rel,dd⟩:=Jg I.eV e;have hv:vs=[]:=by cases rel; rfl
 subst hv;obtain⟨o,es,ep,ho,hx,Km,hko,hl,nd⟩:=dd;have he:es=#[]:=by
  cases hq:es.toList with
  | nil=>simpa using hq
  | cons _ _=>rw [hq] at hl; cases hl
 subst he;exact I.write (h':=s.heap) (t':=s.toks) (x:=a) (e:=a) (by rw [e]; exact ja) (.inl rfl) (fun b u _ q=>q) ⟨o,ho⟩ ⟨cI _,hd,[],.nil,o,#[],ep,ho,hx,Km,rfl,kn⟩
theorem toK(I:Inv X pins σ H s)(e:H a=some (.dT [])):Inv X pins σ (upd H a (.dK [])) s:=by
 obtain⟨z,hd,xs,rel,o,es,ep,ho,hx,Km,hl,nd⟩:=I.eV a _ e;have hv:xs=[]:=by cases rel; rfl
 subst hv;have he:es=#[]:=by simpa using hl
 subst he;exact I.write (h':=s.heap) (t':=s.toks) (x:=a) (e:=a) (by rw [e]; exact ja) (.inl rfl) (fun b u _ q=>q) ⟨o,ho⟩ ⟨cI _,hd,[],.nil,o,#[],ep,ho,hx,Km,(fun _ h=>by simp at h),.nil,kn⟩
theorem IP{o:HO}(ab:mQ X.K H G)(hg:G a=some (.mH bu))(k:Kp H (upd H a o))(ho:NG X.K (upd H a o) a (.mH bu)):Mv X.K H G (upd H a o) G:=by
 have m:=Mv.put ab hg k ho;have e:cH G a (.mH bu)=G:=by
  funext b; unfold cH; split
  ·rename_i z; rw [z,hg]
  ·rfl
 rw [e] at m;exact m
theorem Jh(I:Inv X pins σ H s)(ab:mQ X.K H G)(hg:G a=some (.mH bu))(hk:i3 bu k=true)(ry:cV X.K H y k) :
  ∃ H',Inv X pins σ H' s/\Mv X.K H G H' G/\((∃ (kv:List (Key×V)) (kk:Key),H' a=some (.dK kv)/\qi X.K H' kv bu/\k=fQ kk/\y=kV kk)\/∃ (kv:List (List Key×V)) (kk:List Key) (b:Addr),H' a=some (.dT kv)/\rM X.K H' kv bu/\k=.tup (kk.map fQ)/\y=.ref b/\H' b=some (.tup (kk.map kV))):=by
 unfold i3 at hk;rw [oV,aU,aU] at hk;rcases hk with ⟨h1,h2⟩ | ⟨h1,h2⟩
 ·obtain⟨kk,rfl⟩:=CP h1;have ey:=Cr ry;subst ey;rcases ab a _ hg with ⟨kv,hv,rs⟩ | ⟨kv,hv,rs⟩
  ·exact⟨H,I,.refl ab,.inl ⟨kv,kk,hv,rs,rfl,rfl⟩⟩
  ·cases rs with
   | nil =>
    refine⟨_,toK I hv,IP ab hg (.putD hv (.inr ⟨_,rfl⟩)) (.inl ⟨[],c8,.nil⟩),.inl ⟨[],kk,c8,.nil,rfl,rfl⟩⟩
   | cons _ _=>simp [fU] at h2
 ·obtain⟨kk,rfl⟩:=IT h1;obtain⟨b,rfl,hb⟩:=Es ry;rcases ab a _ hg with ⟨kv,hv,rs⟩ | ⟨kv,hv,rs⟩
  ·cases rs with
   | nil =>
    have kp:Kp H (upd H a (.dT [])):=.putD hv (.inl ⟨_,rfl⟩);exact⟨_,toT I hv,IP ab hg kp (.inr ⟨[],c8,.nil⟩),.inr ⟨[],kk,b,c8,.nil,rfl,rfl,kp.tup _ _ hb⟩⟩
   | @cons j _ _ _ _ _ _=>cases j <;> simp [fQ,tE] at h2
  ·exact⟨H,I,.refl ab,.inr ⟨kv,kk,b,hv,rs,rfl,rfl,hb⟩⟩
theorem Fo(I:Inv X pins σ H s)(ab:mQ X.K H G)(hg:G a=some (.mH bu))(hk:i3 bu k=true)(ry:cV X.K H y k) :
  ∃ H' o,Inv X pins σ H' s/\Mv X.K H G H' G/\zZ H' a y o/\o.isSome=(look bu k).isSome/\∀ d,look bu k=some d->∃ v,o=some v/\cV X.K H' v d:=by
 obtain⟨H',I',m,h⟩:=Jh I ab hg hk ry;rcases h with ⟨kv,kk,hv,rs,rfl,rfl⟩ | ⟨kv,kk,b,hv,rs,rfl,rfl,hb⟩
 ·refine⟨H',lR kv kk,I',m,.k hv,?_,fun d hd=>?_⟩
  ·rcases rs.look kk with ⟨v,d,e1,e2,_⟩ | ⟨e1,e2⟩ <;> rw [e1,e2] <;> rfl
  ·rcases rs.look kk with ⟨v,d',e1,e2,r⟩ | ⟨e1,e2⟩
   ·rw [e2] at hd; cases hd; exact⟨v,e1,r⟩
   ·rw [e2] at hd; cases hd
 ·refine⟨H',lR kv kk,I',m,.t hv hb,?_,fun d hd=>?_⟩
  ·rcases rs.look kk with ⟨v,d,e1,e2,_⟩ | ⟨e1,e2⟩ <;> rw [e1,e2] <;> rfl
  ·rcases rs.look kk with ⟨v,d',e1,e2,r⟩ | ⟨e1,e2⟩
   ·rw [e2] at hd; cases hd; exact⟨v,e1,r⟩
   ·rw [e2] at hd; cases hd
theorem Cq{x:V}(I:Inv X pins σ H s)(rd:cV X.K H x (.wV bu))(hk:i3 bu k=true)(ry:cV X.K H y k) :
  ∃ a o,x=.ref a/\(bu=[]\/zZ H a y o)/\o.isSome=(look bu k).isSome/\∀ d,look bu k=some d->∃ v,o=some v/\cV X.K H v d:=by
 unfold i3 at hk;rw [oV,aU,aU] at hk;cases rd with
 | uC h rs =>
  rename_i a ob kv;rcases hk with ⟨h1,h2⟩ | ⟨h1,h2⟩
  ·obtain⟨kk,rfl⟩:=CP h1;have ey:=Cr ry;subst ey;refine⟨a,lR kv kk,rfl,.inr (.inl ⟨kv,kk,.inr ⟨_,h⟩,rfl,rfl⟩),?_,fun d hd=>?_⟩
   ·rcases rs.look kk with ⟨v,d,e1,e2,_⟩ | ⟨e1,e2⟩ <;> rw [e1,e2] <;> rfl
   ·rcases rs.look kk with ⟨v,d',e1,e2,r⟩ | ⟨e1,e2⟩
    ·rw [e2] at hd; cases hd; exact⟨v,e1,r⟩
    ·rw [e2] at hd; cases hd
  ·cases rs with
   | nil=>exact⟨a,none,rfl,.inl rfl,rfl,fun d hd=>by cases hd⟩
   | cons _ _ =>
    rename_i kx _ _ _ _ _ _;rw [KR,aU] at h2;cases kx <;> exact absurd h2.1 (by simp [fQ,tE])
 | uB h rs =>
  rename_i a ob kv;rcases hk with ⟨h1,h2⟩ | ⟨h1,h2⟩
  ·cases rs with
   | nil=>exact⟨a,none,rfl,.inl rfl,rfl,fun d hd=>by cases hd⟩
   | cons _ _ =>
    rw [KR,aU] at h2;exact absurd h2.1 (by simp [fU])
  ·obtain⟨kk,rfl⟩:=IT h1;obtain⟨b,rfl,hb⟩:=Es ry;refine⟨a,lR kv kk,rfl,.inr (.inr ⟨kv,kk,b,.inr ⟨_,h⟩,rfl,hb,rfl⟩),?_,fun d hd=>?_⟩
   ·rcases rs.look kk with ⟨v,d,e1,e2,_⟩ | ⟨e1,e2⟩ <;> rw [e1,e2] <;> rfl
   ·rcases rs.look kk with ⟨v,d',e1,e2,r⟩ | ⟨e1,e2⟩
    ·rw [e2] at hd; cases hd; exact⟨v,e1,r⟩
    ·rw [e2] at hd; cases hd
theorem M9{v:V}{d:D}(I:Inv X pins σ H s)(ab:mQ X.K H G)(hg:G a=some (.mH bu))(hk:i3 bu k=true)(hz:bu.length < SZ)(ry:cV X.K H y k)(rv:cV X.K H v d) :
  ∃ H' ZH,Inv X pins σ H' s/\KO H' a y v ZH/\Mv X.K H G ZH (cH G a (.mH (put bu k d))):=by
 obtain⟨H',I',m,h⟩:=Jh I ab hg hk ry;have Yq:=rv.mono (m.kp ab);have sz:bh=16777216:=c6;rcases h with ⟨kv,kk,hv,rs,rfl,rfl⟩ | ⟨kv,kk,b,hv,rs,rfl,rfl,hb⟩
 ·have kp:Kp H' (upd H' a (.dK (putK kv kk v))):=.putD hv (.inl ⟨_,rfl⟩);exact⟨H',_,I',.k hv (by rw [rs.length,sz]; exact hz),m.trans (.put m.ab hg kp (.inl ⟨_,c8,(rs.put kk Yq).mono kp⟩))⟩
 ·have kp:Kp H' (upd H' a (.dT (putK kv kk v))):=.putD hv (.inr ⟨_,rfl⟩);exact⟨H',_,I',.t hv hb (by rw [rs.length,sz]; exact hz),m.trans (.put m.ab hg kp (.inr ⟨_,c8,(rs.put kk Yq).mono kp⟩))⟩
end
end K2
end
section
namespace K2
open PySem PySem.Spec PyProof.Rows L2
section
variable {X:Cx} {a b c e:Expr} {es:List Expr} {ta tb tc te:gH} {t:BX} {pos p p2 apos nV:Pos} {x:Str}
theorem fA{k:Bool}{j}:gN X (.Constant (.bool k) j pos) (dC (.bl k)):=rT SR fun _ _=>.bl k
theorem kX{y:Str}{j}:gN X (.Constant (.str y) j pos) (dC (.str y)):=rT Qs fun _ _=>.str y
theorem kM{st:Stmt}:FX X st rD:=fun _ _ _ _ _ _ _ _ _ _ h=>h.elim
theorem B9:Uw X (unaryOp .USub) LY:=by
 intro pins s σ H G x dx v Q I ab rx dX q;cases dX with
 | int i=>exact gO (P8 pins s σ H _ v (Ap X.K H G Q) I rx ⟨i,rfl,_,_,.refl ab,.int _,q⟩) fun _ _ z=>.of z
 | _=>exact bN q
theorem ba(hu:X.A.units+64 < cLine)(ha:gN X a ta)(hb:gN X b tb)(hs:Pe b):gN X (.Subscript a b pos) (aP eW ta tb):=by
 intro E pins s σ H τ G Q hE I h;refine Subscript_ (Nr ha hb hE I h fun v u s2 x y dx dy H2 G2 J m rx ry dX dY q=>?_);have fin:∀ {rb:R2},X9 X rb->rb x y H2 (Ap X.K H2 G2 Q)->wpAny (model X.prog X.w) X.A (subscriptTail a b v u) (sf X pins σ H G Q) X.xe s2:=fun hr hq =>
  gO (hr a b pins s2 σ H2 x y v u _ J.inv rx ry hq (hs _ _)) fun _ _ z=>(sf.of z).trans m
 cases dX with
 | tup hq rs =>
  cases dY with
  | int i =>
   rw [cX] at q;split at q
   ·rename_i d hd;obtain⟨w,hw,oh⟩:=rs.oY hd;exact fin QV ⟨_,_,i,w,rfl,rfl,.of hq,hw,d,G2,.refl J.ab,oh,q⟩
   ·exact q.elim
  | _=>exact bN q
 | eY hq rs =>
  cases dY with
  | int i =>
   rw [qK] at q;split at q
   ·rename_i d hd;obtain⟨w,hw,oh⟩:=rs.oY hd;exact fin IU ⟨_,_,i,w,rfl,rfl,hq.sq,hw,d,G2,.refl J.ab,oh,q⟩
   ·exact q.elim
  | _=>exact bN q
 | uC h rs =>
  rw [Cy] at q;obtain⟨hk,q⟩:=q;split at q
  ·rename_i d hd;obtain⟨a',o,ea,g,_,hv⟩:=Cq J.inv (.uC h rs) hk dY;obtain⟨w,rfl,oh⟩:=hv d hd;cases ea;rcases g with rfl | g
   ·cases hd
   ·cases rx;exact tail_any (rj J.inv g) PySem.F.slot_dict_getitem.lookup (wu (by lia) J.inv g ry fun w' s3 I4 rv=>⟨w,H2,d,G2,I4,m,rv,oh,q⟩) (hs _ _)
  ·exact q.elim
 | uB h rs =>
  rw [Cy] at q;obtain⟨hk,q⟩:=q;split at q
  ·rename_i d hd;obtain⟨a',o,ea,g,_,hv⟩:=Cq J.inv (.uB h rs) hk dY;obtain⟨w,rfl,oh⟩:=hv d hd;cases ea;rcases g with rfl | g
   ·cases hd
   ·cases rx;exact tail_any (rj J.inv g) PySem.F.slot_dict_getitem.lookup (wu (by lia) J.inv g ry fun w' s3 I4 rv=>⟨w,H2,d,G2,I4,m,rv,oh,q⟩) (hs _ _)
  ·exact q.elim
 | ref l =>
  rw [Oy] at q;split at q
  ·rename_i ds hl;obtain⟨vs,hv,rs⟩:=J.ab.lst hl;cases dY with
   | int i =>
    dsimp only at q;split at q
    ·rename_i d hd;obtain⟨w,hw,oh⟩:=rs.oY hd;exact fin IU ⟨_,_,i,w,rfl,rfl,.of hv,hw,d,G2,.refl J.ab,oh,q⟩
    ·exact q.elim
   | _=>exact bN q
  ·rename_i bu hl;obtain⟨hk,q⟩:=q;split at q
   ·rename_i d hd;obtain⟨H3,o,I3,m3,g,_,hv⟩:=Fo J.inv J.ab hl hk dY;obtain⟨w,rfl,oh⟩:=hv d hd;cases rx;exact tail_any (rj I3 g) PySem.F.slot_dict_getitem.lookup (wu (by lia) I3 g ry fun w' s3 I4 rv=>⟨w,H3,d,G2,I4,m.trans m3,rv,oh,q⟩) (hs _ _)
   ·exact q.elim
  ·exact q.elim
 | _=>exact bN q
noncomputable def Vg(X:Cx)(e:Option Expr)(t:Uz):Prop :=
 ∀ (E:lL) (pins:List (Addr×Obj)) (s:aB) (σ:L2.St) (H:Hp) (τ:ib) (G:Gp) (Q:Option Int->Gp->Prop),Lk X E->I2 X pins σ H τ G s->t E τ G Q ->
  wpAny (model X.prog X.w) X.A (evalPart e X.env) (fun u s'=>∃ o H' G',Inv X pins σ H' s'/\Mv X.K H G H' G'/\IsPart u o/\Q o G') X.xe s
theorem gW:Vg X none eI:=by
 intro E pins s σ H τ G Q hE I h;rw [evalPart_none];exact bG ⟨none,H,G,I.inv,.refl I.ab,.none,h⟩
theorem gU(h:gN X e te):Vg X (some e) (mC te):=by
 intro E pins s σ H τ G Q hE I hw;rw [evalPart_some];refine k8 h hE I hw fun x H1 d G1 u s1 I1 m1 r1 jK q1=>?_;cases jK with
 | int i =>
  obtain⟨t,rfl⟩:=r1;exact⟨some i,H1,G1,I1.inv,m1,.int i t,q1⟩
 | _=>exact bN q1
theorem fP{lo hi:Option Expr}{tl th:Uz}(he:gN X a ta)(hl:Vg X lo tl)(hu:Vg X hi th):gN X (.Subscript a (.Slice lo hi none p2) pos) (yb ta tl th):=by
 intro E pins s σ H τ G Q hE I h;refine Subscript_ (k8 he hE I h fun x H1 d G1 v s1 I1 m1 r1 jK q1=>?_);refine wpAny_Slice (gO (hl E pins s1 σ H1 τ G1 _ hE I1 q1) ?_);rintro vl s2 ⟨l,H2,G2,lM,m2,pl,q2⟩;refine gO (hu E pins s2 σ H2 τ G2 _ hE (I1.mv lM m2) q2) ?_;rintro vu s3 ⟨r,H3,G3,I3,m3,pu,q3⟩;rw [evalPart_none];refine bG ?_;have YI:=m2.trans m3;have mm:=m1.trans YI;have I4:Inv X pins σ H3 { s3 with heap:=s3.heap.push { cls:=.type "slice",data:=.fields #[vl,vu,.none] } }:=I3.kept (t':=s3.toks) fun b ob q=>a0 _ q;have VT:=jK.mono (YI.kp I1.ab);have PW:=m3.ab;have key:∀ {rb:V->Option Int->Option Int->Hp->VK->Prop},X5 X rb->rb x l r H3 (Ap X.K H3 G3 Q)->wpAny (model X.prog X.w) X.A (subscriptTail a (.Slice lo hi none p2) v (.ref s3.heap.objs.size)) (sf X pins σ H G Q) X.xe { s3 with heap:=s3.heap.push { cls:=.type "slice",data:=.fields #[vl,vu,.none] } }:=fun hr hq=>by
  obtain⟨T,id,hT,ht,hg⟩:=hr pins { s3 with heap:=s3.heap.push { cls:=.type "slice",data:=.fields #[vl,vu,.none] } } σ H3 x v vl vu l r s3.heap.objs.size _ I4 r1 (Heap.IsSliceOf.new ..) pl pu hq;exact gO (tail_any (ops:=[.ref s3.heap.objs.size,v]) ht hT hg (by with_unfolding_all rfl)) fun _ _ z=>(sf.of z).trans mm
 cases VT with
 | tup hq rs =>
  obtain⟨hw,q⟩:=q3;refine key Qg ⟨_,_,rfl,.of hq,?_,fun p hp=>⟨_,G3,.PL PW hp,.tup c8 ((rs.cut l r).mono (.new hp)),q⟩⟩;rw [Co,Co,rs.length];exact hw
 | eY hq rs=>exact key Iy ⟨_,_,rfl,hq.sq,fun p hp=>⟨_,_,.GR PW hp (rs.cut l r),.ref _,q3 p (PW.free hp)⟩⟩
 | ref g =>
  rw [xW] at q3;split at q3
  ·rename_i ds hg;obtain⟨vs,hv,rs⟩:=PW.lst hg;exact key Iy ⟨_,_,rfl,.of hv,fun p hp=>⟨_,_,.GR PW hp (rs.cut l r),.ref _,q3 p (PW.free hp)⟩⟩
  ·exact q3.elim
 | _=>exact bN q3
theorem OK(ss:List D)(s:D)(h1:pT ss=true)(h2:nr s=true):((lK ss).any fun y=>t4 y (pd s))=ss.any (iQ · s):=by
 induction ss with
 | nil=>rfl
 | cons d r ih =>
  have h':nr d=true/\pT r=true:=(jW).mp h1;show (t4 (pd d) (pd s)||(lK r).any _)=_;rw [ih h'.2,tK d s h'.1 h2]; rfl
theorem Ji{G:Gp}{n:Nat}{ds ss:List D}(h:Sn G (n+1) (.eY ds) (.eY ss)):cg (lK ss)<=n:=by
 exact t6 (Dp h)
theorem CV(hu:X.A.units+64 < cLine)(neg:Bool){pins:List (Addr×Obj)}{s:aB}{σ:L2.St}{H:Hp}{G:Gp}{x y:V}{dx t:D}{ds ss:List D}{v u:Value}{Q:DK}(I:Inv X pins σ H s)(ab:mQ X.K H G)(rx:RelV x v)(dX:cV X.K H x dx)
  (hy:(∃ l vs bB,u=.ref l/\Vals vs bB/\br X.K H vs ds/\(s.heap.IsList l bB.toArray\/s.heap.IsTuple l bB.toArray))) (s1:Sn G SN dx t) (s2:Sn G SN (.eY ds) (.eY ss))
  (q:Q (.bl (if neg then !ss.any (iQ · t) else ss.any (iQ · t))) G):wpAny (model X.prog X.w) X.A (fE (if neg then .NotIn else .In) v u) (sf X pins σ H G Q) X.xe s:=by
 obtain⟨l,vs,bB,rfl,rv,rs,hl⟩:=hy;obtain⟨as,ra⟩:=(je I ab s1).1 x v dX rx;obtain⟨bs,rb⟩:=(je I ab s2).2 ds ss (.inl ⟨rfl,rfl⟩) vs bB rs rv;have d2:=Ji (n:=7) s2;have n2:pT ss=true:=s2.nr;have zb:=u6 _ n2;have e:=OK ss t n2 s1.nr;have KZ:X.A.units+1+min (cg (lK ss)) (pd t).depth < cLine:=by lia
 have LV:g7 s.heap bB.toArray.toList (lK ss) bs:=by simpa using rb
 have fin:∀ k:Bool,k=(if neg then !ss.any (iQ · t) else ss.any (iQ · t))->sf X pins σ H G Q (.bool k) s:=fun k hk=>by subst hk; exact⟨.bl _,H,.bl _,G,I,.refl ab,rfl,.bl _,q⟩
 cases neg with
 | false =>
  rcases hl with hl | hl
  ·exact SeqAt.in_listAt _ hl (mI LV ra zb (ka _ s1.nr) KZ) (by rw [qr LV zb,e]; exact fin _ rfl)
  ·exact SeqAt.in_tupleAt _ hl (mI LV ra zb (ka _ s1.nr) KZ) (by rw [qr LV zb,e]; exact fin _ rfl)
 | true =>
  rcases hl with hl | hl
  ·exact SeqAt.notIn_listAt _ hl (mI LV ra zb (ka _ s1.nr) KZ) (by rw [qr LV zb,e]; exact fin _ rfl)
  ·exact SeqAt.notIn_tupleAt _ hl (mI LV ra zb (ka _ s1.nr) KZ) (by rw [qr LV zb,e]; exact fin _ rfl)
theorem Mx(hu:X.A.units+64 < cLine)(neg:Bool){pins:List (Addr×Obj)}{s:aB}{σ:L2.St}{H:Hp}{G:Gp}{x y:V}{dx:D}{bu:List (D×D)}{v u:Value}{Q:DK}(I:Inv X pins σ H s)(ab:mQ X.K H G)(rx:RelV x v)(ry:RelV y u)(dY:cV X.K H y (.wV bu))(dX:cV X.K H x dx)
  (q:Bp neg dx (.wV bu) G Q):wpAny (model X.prog X.w) X.A (fE (if neg then .NotIn else .In) v u) (sf X pins σ H G Q) X.xe s:=by
 obtain⟨ot,hk,q⟩:=q;have go:∀ (a:Addr) (o:Option V),y=.ref a->zZ H a x o->o.isSome=(look bu dx).isSome->wpAny (model X.prog X.w) X.A (fE (if neg then .NotIn else .In) v u) (sf X pins σ H G Q) X.xe s:=by
  intro a o ea g ho;subst ea;cases ry;cases neg with
  | false=>exact Uk (by lia) I g rx fun s3 I4=>⟨.bl _,H,.bl _,G,I4,.refl ab,rfl,.bl _,by rw [ho]; exact q⟩
  | true=>exact Jl (by lia) I g rx fun s3 I4=>⟨.bl _,H,.bl _,G,I4,.refl ab,rfl,.bl _,by rw [ho]; exact q⟩
 obtain⟨a,o,ea,g,ho,_⟩:=Cq I dY hk dX;rcases g with rfl | g
 ·exact absurd rfl ot
 ·exact go a o ea g ho
theorem IK(hu:X.A.units+64 < cLine)(neg:Bool):tS X (fE (if neg then .NotIn else .In)) (Bp neg):=by
 intro pins s σ H G x y dx dy v u Q I ab rx ry dX dY q;cases dY with
 | tup hq rs =>
  obtain⟨t,ss,s1,s2,q⟩:=q;cases ry;obtain⟨bB,rv,pl,hz⟩:=I.tuple (.of hq);exact CV hu neg (y:=x) I ab rx dX ⟨_,_,bB,rfl,rv,rs,.inr pl⟩ s1 s2 q
 | eY hq rs =>
  obtain⟨t,ss,s1,s2,q⟩:=q;cases ry;obtain⟨bB,rv,pl,hz⟩:=I.list hq.sq;exact CV hu neg (y:=x) I ab rx dX ⟨_,_,bB,rfl,rv,rs,.inl pl.isList⟩ s1 s2 q
 | uC h rs=>exact Mx hu neg I ab rx ry (.uC h rs) dX q
 | uB h rs=>exact Mx hu neg I ab rx ry (.uB h rs) dX q
 | ref l =>
  unfold Bp at q;dsimp only at q;split at q
  ·rename_i bu hl;obtain⟨hk,q⟩:=q;obtain⟨H3,o,I3,m3,g,ho,_⟩:=Fo I ab hl hk dX;cases ry;cases neg with
   | false=>exact Uk (by lia) I3 g rx fun s3 I4=>⟨.bl _,H3,.bl _,G,I4,m3,rfl,.bl _,by rw [ho]; exact q⟩
   | true=>exact Jl (by lia) I3 g rx fun s3 I4=>⟨.bl _,H3,.bl _,G,I4,m3,rfl,.bl _,by rw [ho]; exact q⟩
  ·rename_i ds hl;obtain⟨t,ss,s1,s2,q⟩:=q;cases ry;obtain⟨vs,hv,rs⟩:=ab.lst hl;obtain⟨bB,rv,pl,hz⟩:=I.list (.of hv);exact CV hu neg (y:=x) I ab rx dX ⟨_,_,bB,rfl,rv,rs,.inl pl.isList⟩ s1 s2 q
  ·exact q.elim
 | _=>exact bN q
theorem GK(hu:X.A.units+64 < cLine):tS X (fE .In) (Bp false):=IK hu false
theorem l7(hu:X.A.units+64 < cLine):tS X (fE .NotIn) (Bp true):=IK hu true
end
end K2
end
section
namespace K2
open PySem PySem.Spec PyProof.Rows L2
section
variable {X:Cx} {a b c e o:Expr} {es:List Expr} {ta tb tc te to:gH} {t:BX} {pos p p2 apos nV:Pos} {x name:Str} {id T:String}
theorem cL:wI X (.builtin "len") iB:=by
 intro pins s σ H G xs ds us Q I ab rx rd q;unfold iB at q;split at q
 ·rename_i x;obtain⟨v,rfl,r⟩:=rd.one;have Og:∀ (n:Nat),UB X.K v H n->Q (.int (n:Int)) G->wpAny (model X.prog X.w) X.A (call (.builtin "len") us) (sf X pins σ H G Q) X.xe s:=fun n hn hq =>
   gO (Nk pins s σ H [v] us (Ap X.K H G Q) I rx ⟨v,n,rfl,hn,_,_,.refl ab,.int _,hq⟩) fun _ _ z=>.of z
  have sz:bh=16777216:=c6;cases r with
  | tup hq rs=>exact Og _ (.inr ⟨_,.of hq,by rw [rs.length]⟩) q
  | eY hq rs=>exact Og _ (.inl ⟨_,hq.sq,by rw [rs.length]⟩) q
  | str y =>
   unfold lenOf at q;dsimp only at q;by_cases hz:y.length<=SZ
   ·rw [if_pos hz] at q; exact Og _ ⟨by rw [sz]; exact hz,rfl⟩ q
   ·rw [if_neg hz] at q; exact q.elim
  | uC h rs =>
   rename_i l o kv bu;obtain⟨u,rfl,ru⟩:=rx.one;cases ru;unfold lenOf at q;dsimp only at q;by_cases ha:(bu.all fun p=>fU p.1)=true
   ·rw [if_pos ha] at q;exact PT I (.inr ⟨_,h⟩) fun t s' I'=>⟨.int kv.length,H,_,G,I',.refl ab,⟨t,rfl⟩,.int _,by rw [rs.length]; exact q⟩
   ·rw [if_neg ha] at q; exact q.elim
  | uB h rs =>
   rename_i l o kv bu;obtain⟨u,rfl,ru⟩:=rx.one;cases ru;unfold lenOf at q;dsimp only at q;by_cases ha:(bu.all fun p=>fU p.1)=true
   ·rw [if_pos ha] at q;cases rs with
    | nil =>
     obtain⟨z,hS,xs,rel,ob,es,ep,ho,hx,Km,hl,nd⟩:=(I.eV l _ h).2;have WS:xs=[]:=by cases rel; rfl
     subst WS;have he:es=#[]:=by simpa using hl
     subst he;have dd:s.heap.DictOf (gP X.prog X.w) l []:=⟨ob,#[],ep,ho,hx,Km,(fun _ h=>by simp at h),.nil,kn⟩;refine call_len_dict hS dd (by simp) ?_;exact⟨.int 0,H,_,G,I.tok _,.refl ab,⟨_,rfl⟩,.int _,q⟩
    | cons _ _=>simp [fU] at ha
   ·rw [if_neg ha] at q; exact q.elim
  | ref l =>
   unfold lenOf at q;dsimp only at q;cases hg:G l with
   | none=>rw [hg] at q; exact q.elim
   | some g =>
    rw [hg] at q;cases g with
    | lst ds =>
     obtain⟨vs,hv,rs⟩:=ab.lst hg;exact Og _ (.inl ⟨_,.of hv,by rw [rs.length]⟩) q
    | ins _ _=>exact q.elim
    | mH bu =>
     obtain⟨u,rfl,ru⟩:=rx.one;cases ru;dsimp only at q;by_cases ha:(bu.all fun p=>fU p.1)=true
     ·rw [if_pos ha] at q;rcases ab l _ hg with ⟨kv,hv,rs⟩ | ⟨kv,hv,rs⟩
      ·exact PT I (.inl hv) fun t s' I'=>⟨.int kv.length,H,_,G,I',.refl ab,⟨t,rfl⟩,.int _,by rw [rs.length]; exact q⟩
      ·cases rs with
       | nil =>
        obtain⟨z,hd,vs,rel,dd⟩:=Jg (toK I hv).eV c8;have hvs:vs=[]:=by cases rel; rfl
        subst hvs;refine call_len_dict hd dd (by simp) ?_;exact⟨.int 0,H,_,G,I.tok _,.refl ab,⟨_,rfl⟩,.int _,q⟩
       | cons _ _=>simp [fU] at ha
     ·rw [if_neg ha] at q; exact q.elim
  | _=>exact bN q
 ·exact q.elim
theorem mD:wI X (.type "list") qa:=by
 intro pins s σ H G xs ds us Q I ab rx rd q;unfold qa at q;split at q
 ·rename_i x;obtain⟨v,rfl,r⟩:=rd.one;have VF:∀ (l:Addr) (ys:List V) (zs:List D),v=.ref l->(oZ X.K H l ys\/zR X.K H l ys)->br X.K H ys zs->lr G (.lst zs) Q->wpAny (model X.prog X.w) X.A (call (.type "list") us) (sf X pins σ H G Q) X.xe s:=fun l ys zs e h rs hq=>by
   subst e;exact gO (Dx pins s σ H _ us (Ap X.K H G Q) I rx ⟨l,ys,rfl,h,fun p hp=>⟨_,_,.GR ab hp rs,.ref _,hq p (ab.free hp)⟩⟩) fun _ _ z=>.of z
  cases r with
  | tup hq rs=>exact VF _ _ _ rfl (.inr (.of hq)) rs q
  | eY hq rs=>exact VF _ _ _ rfl (.inl hq.sq) rs q
  | ref l =>
   unfold itemsOf at q;dsimp only at q;cases hg:G l with
   | none=>rw [hg] at q; exact q.elim
   | some g =>
    rw [hg] at q;cases g with
    | lst ds =>
     obtain⟨vs,hv,rs⟩:=ab.lst hg;exact VF _ _ _ rfl (.inl (.of hv)) rs q
    | ins _ _=>exact q.elim
    | mH bu=>exact q.elim
  | _=>exact bN q
 ·exact q.elim
theorem mq {r:List D->Gp->DK->Prop} (hc:wI X (.type T) r) (hg:Gl X x) (hm:X.mg x=none) (hv:dR x=some (.type T)) (ha:D0 X (e :: es) t) (hn:autoParam (x≠"__name__") Ad._auto_1) (MK:autoParam ((x == ("__debug__" : Str))=false) Ad._auto_1)
  (he:autoParam (bY (e :: es) X.env=(false,eval e X.env) :: bY es X.env) Ar._auto_1) (sv:autoParam ((mf pos (bY es X.env)).any (·.1)=false) Ar._auto_1):gN X (.Call (.Name x p) (e :: es) [] pos) (jw r t):=by
 intro E pins s σ H τ G Q hE I h;refine ma (pB I.inv hg hm hv ?_ hn MK);exact eL (xw ha pos hE I h fun vs H1 ds G1 us s1 I1 m1 r1 jK q1=>gO (hc pins s1 σ H1 G1 vs ds us Q I1.inv I1.ab r1 jK q1) fun _ _ z=>z.trans m1) he sv
theorem QR (K:ao):∀ C∈["int","bool","list","tuple","dict","str"],∀ T∈["NoneType","bool","int","str","tuple","list","dict"],PySem.W.kitOne K (.type T) (.type C)=some (T == C||(T == "bool" && C == "int")):=by
 intro C hC T hT;simp only [e7,dI,or_false] at hC hT;rcases hC with rfl | rfl | rfl | rfl | rfl | rfl <;> rcases hT with rfl | rfl | rfl | rfl | rfl | rfl | rfl <;> kernel_rfl
theorem Mu (C:String) (hC:C∈["int","bool","list","tuple","dict","str"]) {pins:List (Addr×Obj)} {s:aB} {σ:L2.St} {H:Hp} {G:Gp} {v:V} {d:D} {u:Value} {k:Bool} {Q:DK} (I:Inv X pins σ H s) (ab:mQ X.K H G) (ru:RelV v u) (r:cV X.K H v d)
  (hk:PG C d G=some k) (q:Q (.bl k) G):wpAny (model X.prog X.w) X.A (call (.builtin "isinstance") [u,.type C]) (sf X pins σ H G Q) X.xe s:=by
 have fin:∀ tk,sf X pins σ H G Q (.bool k) { s with toks:=tk }:=fun tk=>⟨.bl k,H,.bl k,G,I.tok _,.refl ab,rfl,.bl k,q⟩;have hl:∀ T∈["NoneType","bool","int","str","tuple","list","dict"],k=(T == C||(T == "bool" && C == "int"))->PySem.W.kitOne X.K (.type T) (.type C)=some k:=fun T hT e=>by rw [QR X.K C hC T hT,e]
 have tl:∀ {l:Addr} {o:Obj},s.heap.get? l=some o->o.cls=.type "list"->k=("list" == C||("list" == "bool" && C == "int"))->v=.ref l->wpAny (model X.prog X.w) X.A (call (.builtin "isinstance") [u,.type C]) (sf X pins σ H G Q) X.xe s:=fun ho hc e ev=>by
  subst ev;cases ru;exact jq PySem.W.kitx_list I.AG ⟨_,ho,hc⟩ (hl "list" (by decide) e) (fun z=>nomatch z) fin
 have td:∀ {l:Addr} {o:Obj},s.heap.get? l=some o->o.cls=.type "dict"->k=("dict" == C||("dict" == "bool" && C == "int"))->v=.ref l->wpAny (model X.prog X.w) X.A (call (.builtin "isinstance") [u,.type C]) (sf X pins σ H G Q) X.xe s:=fun ho hc e ev=>by
  subst ev;cases ru;exact jq PySem.W.kitx_dict I.AG ⟨_,ho,hc⟩ (hl "dict" (by decide) e) (fun z=>nomatch z) fin
 have nW:∀ P:String->Prop,(∀ C'∈["int","bool","list","tuple","dict","str"],P C')->P C:=fun P h=>h C hC;cases r with
 | dQ =>
  cases ru;have e:k=("NoneType" == C||("NoneType" == "bool" && C == "int")):=by
   have:k=false:=(bT hk).symm;rw [this];exact nW (fun C=>false=("NoneType" == C||("NoneType" == "bool" && C == "int"))) (by decide)
  exact jq PySem.W.kitx_none I.AG ja (hl _ (by decide) e) (fun z=>nomatch z) fin
 | bl y =>
  cases ru;have e:k=("bool" == C||("bool" == "bool" && C == "int")):=by
   have:k=(C == "bool" || C == "int"):=(bT hk).symm;rw [this];exact nW (fun C=>(C == "bool" || C == "int")=("bool" == C||("bool" == "bool" && C == "int"))) (by decide)
  exact jq PySem.W.kitx_bool I.AG ja (hl _ (by decide) e) (fun z=>nomatch z) fin
 | int y =>
  obtain⟨t,rfl⟩:=ru;have e:k=("int" == C||("int" == "bool" && C == "int")):=by
   have:k=(C == "int"):=(bT hk).symm;rw [this];exact nW (fun C=>(C == "int")=("int" == C||("int" == "bool" && C == "int"))) (by decide)
  exact jq PySem.W.kitx_int I.AG ja (hl _ (by decide) e) (fun z=>nomatch z) fin
 | str y =>
  obtain⟨t,rfl⟩:=ru;have e:k=("str" == C||("str" == "bool" && C == "int")):=by
   have:k=(C == "str"):=(bT hk).symm;rw [this];exact nW (fun C=>(C == "str")=("str" == C||("str" == "bool" && C == "int"))) (by decide)
  exact jq PySem.W.kitx_str I.AG ja (hl _ (by decide) e) (fun z=>nomatch z) fin
 | tup hq rs =>
  cases ru;have e:k=("tuple" == C||("tuple" == "bool" && C == "int")):=by
   have:k=(C == "tuple"):=(bT hk).symm;rw [this];exact nW (fun C=>(C == "tuple")=("tuple" == C||("tuple" == "bool" && C == "int"))) (by decide)
  obtain⟨bB,rv,⟨o,h1,h2,_⟩,hz⟩:=I.tuple (.of hq);exact jq PySem.W.kitx_tuple I.AG ⟨o,h1,h2⟩ (hl _ (by decide) e) (fun z=>nomatch z) fin
 | eY hq rs =>
  obtain⟨bB,rv,pl,hz⟩:=I.list hq.sq;obtain⟨o,h1,h2,_⟩:=pl.isList;refine tl h1 h2 ?_ rfl;have:k=(C == "list"):=(bT hk).symm;rw [this];exact nW (fun C=>(C == "list")=("list" == C||("list" == "bool" && C == "int"))) (by decide)
 | uC h rs =>
  have e:k=("dict" == C||("dict" == "bool" && C == "int")):=by
   have:k=(C == "dict"):=(bT hk).symm;rw [this];exact nW (fun C=>(C == "dict")=("dict" == C||("dict" == "bool" && C == "int"))) (by decide)
  obtain⟨_,_,vs,_,ob,_,_,h1,h2,_⟩:=xk I.eV (.inr ⟨_,h⟩);exact td h1 h2.1 e rfl
 | uB h rs =>
  have e:k=("dict" == C||("dict" == "bool" && C == "int")):=by
   have:k=(C == "dict"):=(bT hk).symm;rw [this];exact nW (fun C=>(C == "dict")=("dict" == C||("dict" == "bool" && C == "int"))) (by decide)
  obtain⟨_,_,ys,_,ob,_,_,h1,h2,_⟩:=BM I.eV (.inr ⟨_,h⟩);exact td h1 h2.1 e rfl
 | exc h=>simp [PG] at hk
 | ref l =>
  unfold PG at hk;dsimp only at hk;cases hg:G l with
  | none=>rw [hg] at hk; cases hk
  | some g =>
   rw [hg] at hk;cases g with
   | lst ds =>
    obtain⟨vs,hv,rs⟩:=ab.lst hg;obtain⟨bB,rv,pl,hz⟩:=I.list (.of hv);obtain⟨o,h1,h2,_⟩:=pl.isList;refine tl h1 h2 ?_ rfl;have:k=(C == "list"):=(bT hk).symm;rw [this];exact nW (fun C=>(C == "list")=("list" == C||("list" == "bool" && C == "int"))) (by decide)
   | ins _ _=>cases hk
   | mH bu =>
    have e:k=("dict" == C||("dict" == "bool" && C == "int")):=by
     have:k=(C == "dict"):=(bT hk).symm;rw [this];exact nW (fun C=>(C == "dict")=("dict" == C||("dict" == "bool" && C == "int"))) (by decide)
    rcases ab l _ hg with ⟨kv,hv,rs⟩ | ⟨kv,hv,rs⟩
    ·obtain⟨_,_,vs,_,ob,_,_,h1,h2,_⟩:=Jg I.eV hv;exact td h1 h2.1 e rfl
    ·obtain⟨_,_,ys,_,ob,_,_,h1,h2,_⟩:=PR I.eV hv;exact td h1 h2.1 e rfl
theorem kY (C:String) (hC:C∈["int","bool","list","tuple","dict","str"]) {y:Str} {py:Pos} (hg:Gl X "isinstance") (hm:X.mg "isinstance" = none) (hgC:Gl X y) (hmC:X.mg y=none) (hvC:dR y=some (.type C)) (ha:gN X a ta) (hn:autoParam (y≠"__name__") Ad._auto_1) (MK:autoParam ((y == ("__debug__" : Str))=false) Ad._auto_1)
  (he:autoParam (bY [a,.Name y py] X.env=(false,eval a X.env) :: bY [.Name y py] X.env) Ar._auto_1) (sv:autoParam ((mf pos (bY [Expr.Name y py] X.env)).any (·.1)=false) Ar._auto_1) (Xo:autoParam (bY [.Name y py] X.env=[(false,eval (.Name y py) X.env)]) Ar._auto_1) :
  gN X (.Call (.Name "isinstance" p) [a,.Name y py] [] pos) (sD C ta):=by
 intro E pins s σ H τ G Q hE I h;refine ma (pB I.inv hg hm PyProof.Rows.boot_isinstance ?_);refine vN ?_ he sv;rw [he];show wpAny _ _ (spliced ((false,eval a X.env) :: mf pos (bY [.Name y py] X.env))) _ _ s;refine yt (k8 ha hE I h fun v H1 d G1 u s1 I1 m1 r1 jK q1=>?_);rw [Xo];show wpAny _ _ (spliced [(false,eval (.Name y py) X.env)]) _ _ s1;refine yt (pB I1.inv hgC hmC hvC (Calls.spliced_nil ?_) hn MK)
 try dsimp only at q1
 split at q1
 ·rename_i k hk;exact gO (Mu C hC I1.inv I1.ab r1 jK hk q1) fun _ _ z=>z.trans m1
 ·exact q1.elim
end
end K2
end
section
namespace K2
open PySem PySem.Spec PyProof.Rows L2
section
variable {X:Cx} {a b c e o:Expr} {es:List Expr} {ta tb tc te to:gH} {t:BX} {pos p p2 apos nV:Pos} {x name:Str} {id T:String}
noncomputable def NB(X:Cx)(id:String)(r:D->List D->Gp->DK->Prop):Prop :=
 ∀ (pins:List (Addr×Obj)) (s:aB) (σ:L2.St) (H:Hp) (G:Gp) (x:V) (d:D) (xs:List V) (ds:List D) (v:Value) (us:List Value) (Q:DK),Inv X pins σ H s->mQ X.K H G->RelV x v->cV X.K H x d->Vals xs us->br X.K H xs ds->r d ds G Q ->
  wpAny (model X.prog X.w) X.A (call (.builtin id) (v :: us)) (sf X pins σ H G Q) X.xe s
noncomputable def Ux(X:Cx)(T:String)(ty:D->Gp->Prop):Prop:=∀ (pins:List (Addr×Obj)) (s:aB) (σ:L2.St) (H:Hp) (G:Gp) (x:V) (d:D) (v:Value),Inv X pins σ H s->mQ X.K H G->RelV x v->cV X.K H x d->ty d G ->
  s.TypeIs v T/\∀ a,v=.ref a->∃ ob,s.heap.get? a=some ob/\ob.dict=none
theorem fm:Ux X "list" t9:=by
 intro pins s σ H G x d v I ab r rd h;cases rd with
 | eY hq rs=>exact Lq I r (.inl ⟨rfl,_,hq.sq⟩)
 | ref l =>
  unfold t9 at h;dsimp only at h;split at h
  ·rename_i ds hg;obtain⟨vs,hv,rs⟩:=ab.lst hg;exact Lq I r (.inl ⟨rfl,vs,.of hv⟩)
  ·exact h.elim
 | _=>exact bN h
theorem iX {ty:D->Gp->Prop} {r:D->List D->Gp->DK->Prop} (pa:PlainAttrs T) (slot:Slot T name id) (hty:typeOf (.builtin id)=pure (.type "method_descriptor")) (ht:Ux X T ty) (hm:NB X id r) (ho:gN X o to) (ha:D0 X (e :: es) t)
  (T5:autoParam (vL o name X.env (eval o X.env)=eval o X.env) Ar._auto_1)
  (TX:autoParam (((mf nV (bY (e :: es) X.env)).all (fun x=>!x.1)&&(backToKw nV (BZ [] X.env)).all (fun x=>x.1.isSome)
   && decide ((e :: es).length+([]:List Ll).length+(if ([]:List Ll).isEmpty then 0 else 1) < 30))=true) Ar._auto_1)
  (TK:autoParam ((apos.endLine == nV.line)=true) Ar._auto_1) (hs:autoParam (bY (e :: es) X.env=(false,eval e X.env) :: bY es X.env) Ar._auto_1) (Q5:autoParam ((mf nV (bY es X.env)).any (·.1)=false) Ar._auto_1) :
  gN X (.Call (.Attribute o name apos) (e :: es) [] nV) (p8 ty r to t):=by
 intro E pins s σ H τ G Q hE I h;refine wpAny_Call_method_late T5 TX TK rfl (k8 ho hE I h ?_);rintro x H1 d G1 v s1 I1 m1 r1 jK ⟨hy,q1⟩;obtain⟨h1,h2⟩:=ht pins s1 σ H1 G1 x d v I1.inv I1.ab r1 jK hy;refine⟨T,id,pa,slot,hty,h1,h2,?_⟩;have hA:=ha nV E pins s1 σ H1 τ G1 _ hE I1 q1;rw [hs] at hA ⊢;refine Calls.callWith_builtin (by show (false||(mf nV (bY es X.env)).any (·.1))=false; rw [Q5] <;> rfl) (Calls.evalArgs_plain ?_);exact gO hA (by rintro us s2 ⟨vs,H2,ds,G2,lM,m2,r2,Ct,q2⟩; exact gO (hm pins s2 σ H2 G2 x d vs ds v us Q lM m2.ab r1 (jK.mono (m2.kp I1.ab)) r2 Ct q2) fun _ _ z=>z.trans (m1.trans m2))
theorem fT:NB X "list.append" gq:=by
 intro pins s σ H G x d xs ds v us Q I ab rx rd Qj IB q;unfold gq at q;split at q
 ·rename_i l d';cases rd;obtain⟨w,rfl,oh⟩:=IB.one;split at q
  ·rename_i zs hg;obtain⟨hz,q⟩:=q;obtain⟨vs,hv,rs⟩:=ab.lst hg;exact gO (Bu pins s σ H _ _ v us (Ap X.K H G Q) I rx Qj ⟨l,vs,w,rfl,rfl,hv,by rw [rs.length,c6]; exact hz,_,_,.putL ab hg hv (rs.append (.cons oh .nil)),.dQ,q⟩) fun _ _ z=>.of z
  ·exact q.elim
 ·exact q.elim
theorem HD(l:Addr)(xs:Array Value)(n:Nat)(b:Addr)(ys:Array Value)(n2:Nat)(dd:Option Addr)(sl:Array (Option Value))(PJ:¬(!xs.isEmpty&&jN (xs.size+ys.size))=true)(hx:xs.size<=bh)(hxy:xs.size+ys.size<=bh+1) :
  Meets (Builtin.«list.extend» ⟨[.ref l,.ref b],[]⟩) (fun _ R s=>s.heap.get? l=some { cls:=.type "list",dict:=none,data:=.seq xs n,slots:=#[] }/\s.heap.get? b=some { cls:=.type "list",dict:=dd,data:=.seq ys n2,slots:=sl }/\R (.ok (.ret lN)) { s with heap:=s.heap.update l (jl fun x=>x++ys),toks:=s.toks }) :=
 .of_wp fun prog w A R s h=>by
  obtain⟨hp,g,d,tk,os⟩:=s;obtain⟨h1,h2,h3⟩:=h;have e1:=AutoSeq1.idx_int;have e2:=pM;have e3:=Gm;have e4:=AutoSeq1.sub_tuple_list;have e5:=AutoSeq1.sub_list_tuple;have hz':(xs++ys).size<=bh+1:=by rw [Array.size_append]; exact hxy
  wp_walk using (yh h1 rfl (hz:=hx) (_hz':=hz')),cf h1,cf h2
  exact⟨_,rfl,h3⟩
theorem GU:NB X "list.extend" x6:=by
 intro pins s σ H G x d xs ds v us Q I ab rx rd Qj IB q;unfold x6 at q;split at q
 ·rename_i l y;cases rd;obtain⟨w,rfl,oh⟩:=IB.one;obtain⟨u,rfl,ru⟩:=Qj.one;split at q
  ·rename_i zs ys hg hg2;obtain⟨hz,q⟩:=q;obtain⟨vs,hv,rs⟩:=ab.lst hg;obtain⟨b,ws,sr,rfl,JL,Pr,hb,_⟩:=pJ I ab ru oh hg2;cases rx;obtain⟨z,bB,n,r,hl,e⟩:=I.QP hv;obtain⟨⟨cl,dd,dt,sl⟩,ho,I0,n2,Y2⟩:=hb;simp only at I0 Y2;subst I0 Y2;have h1:=JL.length;have h2:=Pr.length;have h3:=rs.length;have h4:=r.length;have h5:bh=16777216:=c6;have h6:SZ=16777216:=rfl;have hsz:bB.toArray.size+sr.toArray.size<=bh:=by rw [a8,a8]; lia
   have PJ:¬ (!bB.toArray.isEmpty&&jN (bB.toArray.size+sr.toArray.size))=true:=by
    rw [Md hsz,Im];exact jv
   refine Ac F.slot_list_extend ⟨_,e,rfl⟩ F.entry_list_extend (F.args_list_extend_2 _ _) (HD l bB.toArray n b sr.toArray n2 dd sl PJ (by rw [a8]; lia) (by lia)) ⟨e,ho,?_⟩;refine⟨.dQ,_,.dQ,_,I.QQ (its':=bB++sr) hv e (by simp) (r.append JL) ?_,.putL ab hg hv (rs.append Pr),rfl,.dQ,q⟩;rw [aI];lia
  ·exact q.elim
 ·exact q.elim
theorem QW{bB:List Value}{u:Value}{k:Nat}(hk:k<=bB.length):(bB.toArray.extract 0 k).push u++bB.toArray.extract k=(bB.take k++u :: bB.drop k).toArray:=by
 simp [List.extract_eq_take_drop];rw [lP (by rw [cD]; lia)]
theorem GS:NB X "list.insert" x5:=by
 intro pins s σ H G x d xs ds v us Q I ab rx rd Qj IB q;unfold x5 at q;split at q
 ·rename_i l i d';cases rd;obtain⟨w,w2,rfl,JK,SG⟩:=IB.two;cases JK;split at q
  ·rename_i zs hg;obtain⟨h0,h1,hz,q⟩:=q;obtain⟨vs,hv,rs⟩:=ab.lst hg;obtain⟨u1,u2,rfl,⟨t,rfl⟩,Qk⟩:=vals2 Qj;cases rx;obtain⟨z,bB,n,r,hl,e⟩:=I.QP hv;have sz:bh=16777216:=c6;have hlen:bB.length=zs.length:=by rw [<-hl,rs.length]
   have hs:SZ=16777216:=rfl;have Xn:¬ (!Builtin.List.listFitsIndex i)=true:=by
    rw [fitsIndex_both (by lia) (by lia)];exact jv
   refine Ac F.slot_list_insert ⟨_,e,rfl⟩ F.entry_list_insert (F.args_list_insert_3 _ _ _)
    (AutoSeq1.list_insert_list_int_val_1 l bB.toArray n i t u2 Xn (by rw [a8]; lia)) ⟨e,?_⟩
   have hi:i.toNat<=bB.length:=by lia
   refine⟨.dQ,_,.dQ,_,I.QQ (its':=bB.take i.toNat++u2 :: bB.drop i.toNat) (ys:=vs.take i.toNat++w2 :: vs.drop i.toNat) hv e ?_ ((r.take _).append (.cons Qk (r.drop _))) ?_,.putL ab hg hv ((rs.take _).append (.cons SG (rs.drop _))),rfl,.dQ,q⟩
   ·dsimp only;have e1:(if i < 0 then (i+(bB.toArray.size:Int)).toNat else min i.toNat bB.toArray.size)=i.toNat:=by
     rw [if_neg (by lia),a8]; lia
    rw [e1];exact QW hi
   ·rw [aI,ag,cA,cD];lia
  ·exact q.elim
 ·exact q.elim
theorem rW (hu : X.A.units + 64 < cLine) : NB X "list.index" qR := by
  intro pins s σ H G x d xs ds v us Q I ab rx rd Qj IB q;unfold qR at q;split at q
  · rename_i d'
    obtain⟨hy, zs, sn, ss, hi, s1, s2, q⟩ := q;obtain⟨w, rfl, oh⟩ := IB.one;obtain⟨u, rfl, ru⟩ := Qj.one;have lists : ∃ l vs bB, v = .ref l ∧ Vals vs bB ∧ br X.K H vs zs ∧ s.heap.IsList l bB.toArray ∧ vs.length ≤ bh := by
      cases rd with
      | eY hq rs =>
        cases hi;cases rx;obtain⟨bB, rv, pl, hz⟩ := I.list hq.sq;exact⟨_, _, bB, rfl, rv, rs, pl.isList, hz⟩
      | ref l =>
        unfold itemsOf at hi;dsimp only at hi;cases hg : G l with
        | none => rw [hg] at hi; cases hi
        | some g =>
          rw [hg] at hi;cases g with
          | lst ds =>
            cases hi;cases rx;obtain⟨vs, hv, rs⟩ := ab.lst hg;obtain⟨bB, rv, pl, hz⟩ := I.list (.of hv);exact⟨_, _, bB, rfl, rv, rs, pl.isList, hz⟩
          | ins _ _ => cases hi
          | mH _ => cases hi
      | _ => exact bN hy
    obtain⟨l, vs, bB, rfl, rv, rs, hl, hz⟩ := lists;obtain⟨as, ra⟩ := (je I ab s1).1 w u oh ru;obtain⟨bs, rb⟩ := (je I ab s2).2 zs ss (.inl ⟨rfl, rfl⟩) vs bB rs rv;have d2 := Ji (n := 7) s2;have n2 : pT ss = true := s2.nr;have zb := u6 _ n2;have KZ : X.A.units + 1 + min (cg (lK ss)) (pd sn).depth < cLine := by lia
    have LV : g7 s.heap bB.toArray.toList (lK ss) bs := by simpa using rb
    have mp := SeqAt.readsAll_map _ _ _ zb LV;split at q
    · rename_i k hk
      obtain⟨CZ, Xk, TG⟩ := List.findIdx?_eq_some_iff_getElem.mp hk;have pdl : ∀ (zz : List D), (lK zz).length = zz.length := by
        intro zz;induction zz with
        | nil => rfl
        | cons a r ih => exact congrArg Nat.succ ih
      have hlen : bB.length = ss.length := by
        have := congrArg dh mp;rw [av, pdl] at this;simpa using this
      have at_ : ∀ (m : Nat) (h1 : m < bB.toArray.size) (h2 : m < ss.length), t4 (Bc s.heap bB.toArray[m]) (pd sn) = iQ ss[m] sn := by
        intro m h1 h2;have e1 : (bB.toArray.toList.map (Bc s.heap))[m]? = (lK ss)[m]? := by rw [mp]
        have pdg : ∀ (zz : List D) (m : Nat) (h : m < zz.length), (lK zz)[m]? = some (pd zz[m]) := by
          intro zz;induction zz with
          | nil => intro m h; simp at h
          | cons a r ih => intro m h; cases m with
            | zero => rfl
            | succ m => exact ih m (Nat.lt_of_succ_lt_succ h)
        rw [pdg ss m h2] at e1;have h1' : m < bB.length := by simpa using h1
        have e2 : Bc s.heap bB.toArray[m] = pd ss[m] := by
          simpa [h1'] using e1
        rw [e2];have nrm : nr ss[m] = true := by
          have : ∀ (zz : List D) (m : Nat) (h : m < zz.length), pT zz = true -> nr zz[m] = true := by
            intro zz;induction zz with
            | nil => intro m h; simp at h
            | cons a r ih => intro m h hn; have U2 : nr a = true ∧ pT r = true := (jW).mp hn
                             cases m with
                             | zero => exact U2.1
                             | succ m => exact ih m (by simpa using h) U2.2
          exact this ss m h2 n2
        exact tK _ _ nrm s1.nr
      have sz : bh = 16777216 := c6;have hvl : vs.length = bB.length := rv.length;obtain⟨⟨cls, dd, data, sl⟩, ho, hc, n, hd⟩ := id hl;simp only at hc hd;subst hc hd;have Y0 : k < bB.toArray.size := by rw [a8]; lia
      refine Ac iH ⟨_, ho, rfl⟩ PySem.F.entry_list_index (PySem.F.args_list_index_2 _ _)
        (SeqAt.list_indexAt l bB.toArray n dd sl u (fun y => t4 (Bc s.heap y) (pd sn)) k Y0 (by lia) ?_ ?_) ⟨ho, mI LV ra zb (ka _ s1.nr) KZ, ?_⟩
      · rw [at_ k Y0 CZ]; exact Xk
      · intro m hm hmk
        have hm2 : m < ss.length := by lia
        rw [at_ m hm hm2];simpa using TG m hmk
      · exact⟨.int k, H, .int k, G, I.tok _, .refl ab, ⟨_, rfl⟩, .int _, q⟩
    · exact q.elim
  · exact q.elim
theorem OI:gN X (.Dict [] [] pos) Kz:=by
 intro E pins s σ H τ G Q hE I h;exact gO (L7 pins s σ H (Ap X.K H G Q) I.inv fun p hp=>⟨_,_,.new I.ab hp (.dk c8 .nil),.ref _,h p (I.ab.free hp)⟩) fun _ _ z=>.of z
end
end K2
end
section
namespace K2
open PySem PySem.Spec PyProof.Rows L2
noncomputable def gf(env:Env):List (Str×sH)->List (Str×Addr)->List (Str×Addr)
 | [],acc=>acc
 | (n,k) :: r,acc=>if k=.free then gf env r ((n,(env.cells.lookup n).getD 0) :: acc) else gf env r acc
theorem tQ(env:Env)(f:Str×sH->List (Str×Addr)->Sem (ForInStep (List (Str×Addr))))(hf:∀ n k c,f (n,k) c=if (k == kD)=true then (cellOf env n >>= fun a=>pure (si ((n,a) :: c))) else pure (si c)) :
  ∀ (ns:List (Str×sH)) (acc:List (Str×Addr)),(∀ x∈ns,x.2=.free->∃ c,env.cells.lookup x.1=some c)->forIn ns acc f=(pure (gf env ns acc):Sem (List (Str×Addr)))
 | [],acc,_=>rfl
 | (n,k) :: r,acc,h=>by
  rw [List.forIn_cons,hf];have hr:∀ x∈r,x.2=.free->∃ c,env.cells.lookup x.1=some c:=fun x hx=>h x (aR _ hx);by_cases hk:k=.free
  ·subst hk;obtain⟨c,hc⟩:=h (n,.free) bf rfl;have ec:cellOf env n=pure c:=by unfold cellOf; rw [hc]
   rw [if_pos (by decide),ec,pure_bind,pure_bind];show forIn r ((n,c) :: acc) f=_;rw [tQ env f hf r _ hr];show _=(pure (gf env ((n,.free) :: r) acc):Sem (List (Str×Addr)));rw [gf,if_pos rfl,hc]; rfl
  ·rw [if_neg (by simpa using hk),pure_bind];show forIn r acc f=_;rw [tQ env f hf r _ hr];show _=(pure (gf env ((n,k) :: r) acc):Sem (List (Str×Addr)));rw [gf,if_neg hk]
theorem A1{env:Env}{scope:Scope}(h:∀ x∈scope.names,x.2=.free->∃ c,env.cells.lookup x.1=some c):closureFor scope env=pure (gf env scope.names []):=by
 unfold closureFor;dsimp only;rw [tQ env _ (fun n k c=>?_) scope.names [] h]
 ·rfl
 ·by_cases hk:(k == kD)=true
  ·simp only [hk,if_true]
  ·simp only [hk,if_false,ah]
theorem ub{env:Env}{x:Str}{c:Addr}:∀ {ns:List (Str×sH)} {acc:List (Str×Addr)},(∀ y∈ns,y.2=.free->∃ c,env.cells.lookup y.1=some c)->(∀ y c,acc.lookup y=some c->env.cells.lookup y=some c)->(gf env ns acc).lookup x=some c->env.cells.lookup x=some c
 | [],_,_,ha,e=>ha _ _ e
 | (n,k) :: r,acc,h,ha,e=>by
  have hr:∀ y∈r,y.2=.free->∃ c,env.cells.lookup y.1=some c:=fun y hy=>h y (aR _ hy);unfold gf at e;by_cases hk:k=.free
  ·rw [if_pos hk] at e;refine ub hr (fun y c' q=>?_) e;rw [mR] at q;by_cases hy:(y == n)=true
   ·rw [hy] at q;have e1:y=n:=eq_of_beq hy;subst e1;obtain⟨c0,hc0⟩:=h (y,k) bf hk;rw [hc0] at q ⊢;exact q
   ·have WR:(y == n)=false:=by simpa using hy
    rw [WR] at q;exact ha y c' q
  ·rw [if_neg hk] at e;exact ub hr ha e
theorem o4{env:Env}{x:Str}:∀ {ns:List (Str×sH)} {acc:List (Str×Addr)},((x,kD)∈ns\/∃ c,acc.lookup x=some c)->∃ c,(gf env ns acc).lookup x=some c
 | [],_,h=>by rcases h with h | h; exact absurd h (by simp); exact h
 | (n,k) :: r,acc,h=>by
  unfold gf;have grow:∀ a,(∃ c,acc.lookup x=some c)->∃ c,((n,a) :: acc).lookup x=some c:=fun a Q6=>by
   obtain⟨c,hc⟩:=Q6;rw [mR];by_cases hy:(x == n)=true
   ·rw [hy]; exact⟨_,rfl⟩
   ·have WR:(x == n)=false:=by simpa using hy
    rw [WR]; exact⟨c,hc⟩
  by_cases hk:k=.free
  ·rw [if_pos hk];refine o4 ?_;rcases h with h | h
   ·rcases List.mem_cons.mp h with e | h
    ·injection e with e1 e2
     subst e1;exact .inr ⟨(env.cells.lookup x).getD 0,by rw [mR]; simp⟩
    ·exact .inl h
   ·exact .inr (grow _ h)
  ·rw [if_neg hk];refine o4 ?_;rcases h with h | h
   ·rcases List.mem_cons.mp h with e | h
    ·injection e with e1 e2
     exact absurd e2.symm hk
    ·exact .inl h
   ·exact .inr h
noncomputable abbrev eg(X:Cx)(N:List Str)(scope:Scope)(C:Addr)(s:aB)(H:Hp)(fp:List Addr):Cx :=
 { X with env:=compEnvC scope (gf X.env scope.names []) C X.env,N:=N,mM:=s,ND:=H,outer:=X.stack,stack:=X.stack,ex:=fp,fn:=fun _=>false,pn:=[],xe:=fun _ _=>False }
theorem uE{scope:Scope}{env:Env}{x:Str}(h:(Ga scope env).names.lookup x=some .cell\/(Ga scope env).names.lookup x=some .free)(pW:∀ y∈scope.names,y.2≠.cell):(x,kD)∈scope.names:=by
 have go:∀ k,(Ga scope env).names.lookup x=some k->k=.cell\/k=.free->(x,kD)∈scope.names:=by
  intro k hk hkk;have hm:=iO hk;unfold Ga at hm;dsimp only at hm;obtain⟨⟨n,j⟩,hj,e⟩:=List.mem_map.mp hm;dsimp only at e;by_cases hc:(j == kD&&env.scope.kind == .function&&env.kindOf n == some .cell)=true
  ·rw [if_pos hc] at e;rw [aU,aU] at hc;injection e with e1 e2
   have ej:j=.free:=eq_of_beq hc.1.1;rw [ej,e1] at hj;exact hj
  ·rw [if_neg hc] at e;injection e with e1 e2
   subst e1;rcases hkk with r | r
   ·exact absurd (e2.trans r) (pW _ hj)
   ·rw [e2.trans r] at hj; exact hj
 rcases h with h | h
 ·exact go _ h (.inl rfl)
 ·exact go _ h (.inr rfl)
section
variable {X:Cx} {N:List Str} {scope:Scope} {fp:List Addr} {pins:List (Addr×Obj)} {σ:L2.St} {H:Hp} {s:aB} {C:Addr}
theorem RB(I:Inv X pins σ H s)(pW:∀ y∈scope.names,y.2≠.cell)(BD:scope.kind=.function)(pV:∀ y∈scope.names,y.2=.free->X.env.kindOf y.1=some .cell)(hC:s.heap.objs.size<=C)(TV:∀ b∈fp,oP X pins H b/\b < s.heap.objs.size):(eg X N scope C s H fp).Ok:=by
 have I0:∀ y∈scope.names,y.2=.free->∃ c,X.env.cells.lookup y.1=some c:=fun y hy hf=>I.ok.has _ (.inl (pV y hy hf));have Qc:∀ x c,(gf X.env scope.names []).lookup x=some c->X.env.cells.lookup x=some c:=fun x c e=>ub I0 (fun y c q=>by simp at q) e;refine⟨I.ok.mod,BD,I.ok.glob,I.ok.blt,hC,fun x y c h1 h2=>I.ok.inj x y c (Qc x c h1) (Qc y c h2),fun x hx=>?_,fun x c h=>absurd h (by simp),I.ok.hd,I.ok.frames,.inl rfl,fun b hb=>?_,I.bs,eU I.ok.NU I.sz,fun b o e hb=>?_,fun b hb=>?_,I.stack,I.Iu⟩
 ·exact o4 (.inl (uE hx pW))
 ·obtain⟨⟨f0,f1,f2,f3,f4,f5⟩,CZ⟩:=TV b hb;exact⟨bM (bR CZ hC),fun x c e=>f4 x c (Qc x c e)⟩
 ·obtain⟨⟨f0,f1,f2,f3,f4,f5⟩,CZ⟩:=TV b hb;rcases f3 with f3 | f3
  ·exact I.ok.JX b o e f3
  ·exact absurd (bR (a9 e) (eU I.ok.NU f3)) (iT _)
 ·obtain⟨⟨f0,f1,f2,f3,f4,f5⟩,CZ⟩:=TV b hb;intro z;rcases List.mem_cons.mp (I.Gu b z) with e | e
  ·exact f1 e
  ·exact f2 e
theorem O8{su:Heap}{m:Nat}{fr:List Nat}{tk:Nat}(I:Inv X pins σ H s)(ok:(eg X N scope s.heap.objs.size s H fp).Ok)(Rb:∀ y∈scope.names,y.2≠.cell)(pV:∀ y∈scope.names,y.2=.free->X.env.kindOf y.1=some .cell)(hN:N.length=m+fr.length)
  (PM:∀ j i x,fr[j]?=some i->N[m+j]?=some x->X.N[i]?=some x/\X.env.scope.names.lookup x=some .cell/\(Ga scope X.env).names.lookup x=some .cell) (AH:∃ mm,su.Ns s.heap.objs.size mm) (hk:∀ b o,s.heap.get? b=some o->su.get? b=some o) :
  Inv (eg X N scope s.heap.objs.size s H fp) [] (aZ m none++fr.map fun i=>(σ[i]?).getD none) H { s with heap:=su,toks:=tk }:=by
 have I0:∀ y∈scope.names,y.2=.free->∃ c,X.env.cells.lookup y.1=some c:=fun y hy hf=>I.ok.has _ (.inl (pV y hy hf));have Qc:∀ x c,(gf X.env scope.names []).lookup x=some c->X.env.cells.lookup x=some c:=fun x c e=>ub I0 (fun y c q=>by simp at q) e;obtain⟨mm,AH⟩:=AH;refine⟨ok,rfl,I.bare,Un.kept hk,⟨mm,AH,fun i x v h1 h2 h3=>?_⟩,fun x c e=>?_,I.eV.fresh (aQ _),fun x c e=>?_,fun p hp=>absurd hp (by simp),I.eV.kept hk,?_⟩
 ·by_cases hi:i < m
  ·rw [cz (by simpa using hi),lA] at h2;split at h2 <;> cases h2
  ·obtain⟨j,rfl⟩:∃ j,i=m+j:=⟨i - m,by lia⟩;rw [bF (by simp),fG,sZ,dq] at h2;cases hj:fr[j]? with
   | none=>rw [hj] at h2; cases h2
   | some k =>
    rw [hj] at h2;have MP:(σ[k]?).getD none=some v:=by simpa using h2
    have Xi:σ[k]?=some (some v):=by
     cases q:σ[k]? with
     | none=>rw [q] at MP; cases MP
     | some o=>rw [q] at MP; simp at MP; rw [MP]
    obtain⟨e1,e2,e3⟩:=PM j k x hj h1;obtain⟨m0,hn0,hl0⟩:=I.loc;obtain⟨u,r,l⟩:=hl0 k x v e1 Xi (.inr (.inl e2));refine⟨u,r,.inr ⟨.inl e3,?_⟩⟩;rcases l with ⟨l1,_⟩ | ⟨_,c,hc,pW⟩
    ·have:X.env.scope.names.lookup x=some .local:=l1;rw [e2] at this; cases this
    ·have hx:(x,kD)∈scope.names:=uE (.inl e3) Rb;obtain⟨c',PO⟩:=o4 (env:=X.env) (x:=x) (ns:=scope.names) (acc:=[]) (.inl hx);have:=Qc x c' PO;rw [hc] at this;have ec:c=c':=bT this;subst ec;obtain⟨oc,R0,hd⟩:=pW;exact⟨c,PO,oc,hk _ _ R0,hd⟩
 ·obtain⟨v,oc,R0,hd⟩:=I.cell x c (Qc x c e);exact⟨v,oc,hk _ _ R0,hd⟩
 ·exact I.pY x c (Qc x c e)
 ·rw [aI,fG,av];exact hN.symm
theorem Du{prog:bO}{w:World}{A:dU}{R:Result->aB->Prop}{s:aB}{elt target iter:Expr}{ifs:List Expr}{sc:Scope}{pos:Pos}{it acc:Value}{env:Env}(J:Nat->aB->Prop)
  (turn:∀ n s,J n s->wpAny (model prog w) A (pyNext it) (fun r fJ=>match r with
   | none=>R (.ok .next) fJ
   | some v=>wpAny (model prog w) A (yk target it v) (fun _ Sv=>wpAny (model prog w) A (Lb target env v) (fun _ kI =>
     wpAny (model prog w) A (forIn ifs true fun c r=>if r=true then do let ok ← isTrue c env (eval c env); pure (si ok) else pure (si r)) (fun k LA =>
      if k=true then wpAny (model prog w) A (eval elt env) (fun x JF=>wpAny (model prog w) A (call (.builtin "list.append") [acc,x]) (fun _ Lz=>∃ m,m < n/\J m Lz) (fun _ _=>False) JF) (fun _ _=>False) LA
      else ∃ m,m < n/\J m LA) (fun _ _=>False) kI) (fun _ _=>False) Sv) (fun _ _=>False) fJ) (fun _ _=>False) s) (n:Nat) (h:J n s) :
  vK (model prog w) A (.compLoop (.ListComp elt [⟨target,iter,ifs,0⟩] sc pos) 0 it acc env) R s:=by
 have no:∀ {α:Type} {t:Sem α} {Q:α->aB->Prop} {E:Value->aB->Prop} {s:aB},wpAny (model prog w) A t Q (fun _ _=>False) s->wpAny (model prog w) A t Q E s:=fun h=>FZ h (fun _ _ q=>q) fun _ _ z=>z.elim;refine codeAny_loop rfl J (fun n s hJ=>?_) n h;show wpAny _ A ((compTurn (.ListComp elt [⟨target,iter,ifs,0⟩] sc pos) 0 it acc env).onRaise (fun x=>do noteFrame x env; theTreesLotGoes x)) _ _ s;refine wpAny_noted ?_;rw [compTurn_list];refine aN (wpAny_standAt (aN (gO (no (turn n s hJ)) fun r fJ su=>?_)));cases r with
 | none=>exact bG su
 | some v =>
  refine aN (gO (no su) fun _ kI Hh=>aN (gO (no Hh) fun _ LA WN=>aN (gO (no WN) fun k JF Tt=>?_)));cases k with
  | false=>exact bG ⟨rfl,Tt⟩
  | true=>exact aN (aN (gO (no Tt) fun x Lz WM=>aN (gO (no WM) fun _ ZZ WL=>bG (bG ⟨rfl,WL⟩))))
noncomputable def CompEnd(X:Cx)(pins:List (Addr×Obj))(σ:L2.St)(H:Hp)(G:Gp)(Q:DK)(C Dd:Addr)(s':aB):Prop :=
 ∃ m H' G',Inv X pins σ H' s'/\s'.heap.Ns C m/\oP X pins H' C/\Mv X.K H G H' G'/\Q (.ref Dd) G'
inductive RJ (Xc:Cx):List Expr->Option xM->Prop
 | none:RJ Xc [] none
 | some {c:Expr} {t:xM}:K1 Xc c t->RJ Xc [c] (some t)
theorem BO{τ:ib}{G G2:Gp}{H2:Hp}{s2:aB}{tg elt iter:Expr}{ifs:List Expr}{pos:Pos}{m:Nat}{fr:List Nat}{E:lL}{g:BW}{c:Option xM}{te:gH}{J:It}{tn:Nat->Heap->Prop}{it:Addr}{ds:List D}{ok:Gp->Prop}{Q:DK}{Rr:Value->Addr->Result->aB->Prop}{E0:Value->aB->Prop}
  (hc:X.calm=true) (pW:∀ y∈scope.names,y.2≠.cell) (BD:scope.kind=.function) (pV:∀ y∈scope.names,y.2=.free->X.env.kindOf y.1=some .cell) (hN:N.length=m+fr.length)
  (PM:∀ j i x,fr[j]?=some i->N[m+j]?=some x->X.N[i]?=some x/\X.env.scope.names.lookup x=some .cell/\(Ga scope X.env).names.lookup x=some .cell)
  (hg:∀ C s H fp,K4 (eg X N scope C s H fp) tg g) (hi:∀ C s H fp,RJ (eg X N scope C s H fp) ifs c) (he:∀ C s H fp,gN (eg X N scope C s H fp) elt te)
  (I:I2 X pins σ H2 τ G2 s2) (m2:Mv X.K H G H2 G2) (T:Turn X.prog X.w X.K tg J fp it tn) (NM:tn 0 s2.heap) (f2:∀ b∈fp,oP X pins H2 b) (wk:PX X.K J H2 ds ok) (hz:ds.length<=SZ)
  (XA:∀ ex G,¬ E ex G) (q:jP g c te ok ds E (tP m fr τ) G2 [] fun xs G3=>lr G3 (.lst xs) Q)
  (fin:∀ C s',CompEnd X pins σ H G Q C s2.heap.objs.size s'->Rr (.ref s2.heap.objs.size) C (.ok .next) s') :
  wpAny (model X.prog X.w) X.A (newList []) (fun acc LA=>wpAny (model X.prog X.w) X.A (newFunctionEnv scope X.env.globals (gf X.env scope.names []) [] X.env.qual none .none (some X.env)) (fun Um JF =>
   vK (model X.prog X.w) X.A (.compStart (.ListComp elt [⟨tg,iter,ifs,0⟩] scope pos) 0 (.ref it) acc { Um with scope:=Ga scope X.env }) (Rr acc Um.locals) JF) E0 LA) E0 s2:=by
 have sz:bh=16777216:=c6;have v7:H2 s2.heap.objs.size=none:=I.inv.eV.fresh (aQ _);have Rk:G2 s2.heap.objs.size=none:=I.ab.free v7;refine kq (wpAny_newFunctionEnv pW (by intro y hy; simp at hy) (fun su MG MC=>?_) BD);dsimp only at MG MC ⊢;have I3:Inv X pins σ (upd H2 s2.heap.objs.size (.lst [])) { s2 with heap:=s2.heap.push { cls:=.type "list",data:=.seq ([]:List Value).toArray },toks:=s2.toks }:=I.inv.WC (ys:=[]) .nil (cI _);generalize YT:({ s2 with heap:=s2.heap.push { cls:=.type "list",data:=.seq ([]:List Value).toArray },toks:=s2.toks }:aB)=s3 at I3;generalize Ub:upd H2 s2.heap.objs.size (.lst [])=H3 at I3;have Zi:∀ b,b≠s2.heap.objs.size->H3 b=H2 b:=fun b hb=>by rw [<-Ub,bZ hb]
 have E2:s3.heap=s2.heap.push { cls:=.type "list",data:=.seq ([]:List Value).toArray }:=by rw [<-YT]
 have SA:s3.heap.objs.size=s2.heap.objs.size+1:=by rw [E2,jb]
 have MJ:∀ b∈fp,b < s2.heap.objs.size:=fun b hb=>by
  obtain⟨o,e,_⟩:=T.obj _ _ NM b hb;exact a9 e
 have TU:∀ b∈fp,oP X pins H3 b/\b < s3.heap.objs.size:=fun b hb=>by
  have T6:=MJ b hb;obtain⟨f0,f1⟩:=f2 b hb;exact⟨⟨by rw [Zi b (bM T6)]; exact f0,f1⟩,bR T6 (by rw [SA]; exact yr _)⟩
 have UP:(eg X N scope s3.heap.objs.size s3 H3 fp).Ok:=RB I3 pW BD pV (aQ _) TU;have PK:∀ b o,s3.heap.get? b=some o->su.get? b=some o:=fun b o e=>by
  have hb:b < s3.heap.objs.size:=a9 e;refine MC.extBut b o ?_ (a0 _ ?_)
  ·rw [<-E2]; exact bM hb
  ·rw [<-E2]; exact e
 have W7:∃ mm,su.Ns s3.heap.objs.size mm:=⟨_,by rw [E2]; exact MG⟩;have I4:=O8 (tk:=s3.toks+([]:List (Str×Value)).length) I3 UP pW pV hN PM W7 PK;have WJ:Kp H2 H3:=by rw [<-Ub]; exact .new v7
 have PW:mQ X.K H3 G2:=by rw [<-Ub]; exact(Mv.PL I.ab v7).ab
 have mv3:Mv X.K H2 G2 H3 G2:=by rw [<-Ub]; exact .PL I.ab v7
 have UK:NZ X.K H3 (aZ m none++fr.map fun i=>(σ[i]?).getD none) (tP m fr τ):=by
  refine⟨by unfold tP; rw [aI,aI,av,av,fG,fG],fun i d h2=>?_⟩;unfold tP at h2;by_cases hi:i < m
  ·rw [cz (by simpa using hi),lA] at h2;split at h2 <;> cases h2
  ·obtain⟨j,rfl⟩:∃ j,i=m+j:=⟨i - m,by lia⟩;rw [bF (by simp),fG,sZ,dq] at h2;rw [bF (by simp),fG,sZ,dq];cases hj:fr[j]? with
   | none=>rw [hj] at h2; cases h2
   | some k =>
    rw [hj] at h2;have MP:(τ[k]?).getD none=some d:=by simpa using h2
    have Xi:τ[k]?=some (some d):=by
     cases qq:τ[k]? with
     | none=>rw [qq] at MP; cases MP
     | some o=>rw [qq] at MP; simp at MP; rw [MP]
    obtain⟨v,e1,e2⟩:=I.st.at' k d Xi;exact⟨v,by simp [e1],e2.mono WJ⟩
 have hD3:H3 s2.heap.objs.size=some (.lst []):=by rw [<-Ub,c8]
 have Sw:tn 0 su:=T.keep _ _ _ NM fun b hb o e=>PK b o (by rw [E2]; exact a0 _ e);have LB:∀ {Hc:Hp},(∀ b∈fp,Hc b=none)->∀ b∈fp,oP (eg X N scope s3.heap.objs.size s3 H3 fp) [] Hc b:=fun hn b hb =>
  ⟨hn b hb,(UP.U8 b hb).1,UP.MX b hb,.inl hb,fun x c e=>(UP.U8 b hb).2 x c e,fun p hp=>absurd hp (by simp)⟩
 have neD:∀ b∈fp,b≠s2.heap.objs.size:=fun b hb=>bM (MJ b hb);have loop:vK (model X.prog X.w) X.A (.compLoop (.ListComp elt [⟨tg,iter,ifs,0⟩] scope pos) 0 (.ref it) (.ref s2.heap.objs.size) (eg X N scope s3.heap.objs.size s3 H3 fp).env) (Rr (.ref s2.heap.objs.size) s3.heap.objs.size)
   { s3 with heap:=su,toks:=s3.toks+([]:List (Str×Value)).length }:=by
  refine Du (fun n s'=>∃ i NL Hc Ln Gc tR vt,I2 (eg X N scope s3.heap.objs.size s3 H3 fp) [] NL Hc Ln Gc s'/\Gc s2.heap.objs.size=none/\Hc s2.heap.objs.size=some (.lst tR)/\br X.K Hc tR vt/\vt.length<=i/\Mv X.K H2 G2 Hc Gc/\tn i s'.heap/\(∀ b∈fp,Hc b=none) /\
   n=ds.length - i/\i<=ds.length/\jP g c te ok (ds.drop i) E Ln Gc vt fun xs G3=>lr G3 (.lst xs) Q) ?_ ds.length
   ⟨0,_,H3,_,G2,[],[],⟨I4,UK,PW⟩,Rk,hD3,.nil,aQ _,mv3,Sw,fun b hb=>by rw [Zi b (neD b hb)]; exact(f2 b hb).1,rfl,cI _,q⟩
  rintro n s4 ⟨i,NL,Hc,Ln,Gc,tR,vt,Ic,gD,hD,rA,hA,mc,Yp,Zf,rfl,hle,wq⟩;have YM:Kp H2 Hc:=mc.kp I.ab;by_cases CZ:i < ds.length
  ·rw [hW CZ] at wq;obtain⟨S0,wq⟩:=wq;obtain⟨go,yl⟩:=(wk i Hc Gc YM Ic.ab S0).1 ds[i] (by simp [CZ]);refine gO (T.item (eg X N scope s3.heap.objs.size s3 H3 fp) rfl rfl rfl hc i [] s4 NL Hc (fun _ _=>False) Ic.inv (LB Zf) Yp go) ?_;rintro r s5 ⟨u,hr,h5⟩;subst hr;refine gO h5 ?_;rintro _ s6 ⟨x,H6,I6,r6,y6,VJ,fr6⟩;obtain⟨rd6,m6⟩:=yl x H6 y6;have I6':=I6.pinned (LB fr6) (T.obj _ _ VJ);have J6:I2 (eg X N scope s3.heap.objs.size s3 H3 fp) ([]++qN fp s6.heap) NL H6 Ln Gc s6:=⟨I6',Ic.st.mono (m6.kp Ic.ab),m6.ab⟩;have back:∀ {VB:L2.St} {H9:Hp} {UD:ib} {G9:Gp} {s9:aB} {aV:List V} {aD:List D},I2 (eg X N scope s3.heap.objs.size s3 H3 fp) ([]++qN fp s6.heap) VB H9 UD G9 s9->Mv X.K H2 G2 H9 G9->G9 s2.heap.objs.size=none->H9 s2.heap.objs.size=some (.lst aV)->br X.K H9 aV aD->aD.length<=i+1 ->
     (jP g c te ok (ds.drop (i+1)) E UD G9 aD fun xs G3=>lr G3 (.lst xs) Q)->∃ mm,mm < ds.length - i/\∃ i NL Hc Ln Gc tR vt,I2 (eg X N scope s3.heap.objs.size s3 H3 fp) [] NL Hc Ln Gc s9/\Gc s2.heap.objs.size=none/\Hc s2.heap.objs.size=some (.lst tR)/\br X.K Hc tR vt/\vt.length<=i /\
      Mv X.K H2 G2 Hc Gc/\tn i s9.heap/\(∀ b∈fp,Hc b=none)/\mm=ds.length - i/\i<=ds.length/\jP g c te ok (ds.drop i) E Ln Gc vt fun xs G3=>lr G3 (.lst xs) Q:=fun {VB H9 UD G9 s9 aV aD} I9 m9 g9 h9 r9 l9 n9=>by
    refine⟨ds.length - (i+1),by lia,i+1,VB,H9,UD,G9,aV,aD,⟨I9.inv.t8,I9.st,I9.ab⟩,g9,h9,r9,l9,m9,T.keep _ _ _ VJ fun b hb o e=>(I9.inv.pin (b,o) (bJ _ (bJ _ (pq hb e)))).1,fun b hb=>?_,rfl,CZ,n9⟩;obtain⟨o,e,d⟩:=T.obj _ _ VJ b hb;exact(I9.inv.pin (b,o) (bJ _ (bJ _ (pq hb e)))).2.1
   have mc6:=mc.trans m6;have hD6:=m6.keep _ _ hD gD;refine gO (hg _ _ _ _ E _ s6 NL H6 Ln Gc x ds[i] u _ (Lk.none XA) J6 r6 rd6 wq) ?_;rintro _ s7 ⟨KY,H7,KW,G7,I7,m7,q7⟩;have U7:=m7.keep _ _ hD6.1 gD;have YH:=mc6.trans m7;have Yu:=rA.mono ((m6.trans m7).kp Ic.ab);have Uj:∀ (H8:Hp) (G8:Gp) (s8:aB),I2 (eg X N scope s3.heap.objs.size s3 H3 fp) ([]++qN fp s6.heap) KY H8 KW G8 s8->Mv X.K H7 G7 H8 G8->(te E KW G8 fun y G9=>jP g c te ok (ds.drop (i+1)) E KW G9 (vt++[y]) fun xs G3=>lr G3 (.lst xs) Q) ->
     wpAny (model X.prog X.w) X.A (eval elt (eg X N scope s3.heap.objs.size s3 H3 fp).env) (fun y JF=>wpAny (model X.prog X.w) X.A (call (.builtin "list.append") [.ref s2.heap.objs.size,y]) (fun _ Lz=>∃ mm,mm < ds.length - i/\∃ i NL Hc Ln Gc tR vt,I2 (eg X N scope s3.heap.objs.size s3 H3 fp) [] NL Hc Ln Gc Lz/\Gc s2.heap.objs.size=none/\Hc s2.heap.objs.size=some (.lst tR)/\br X.K Hc tR vt/\vt.length<=i /\
      Mv X.K H2 G2 Hc Gc/\tn i Lz.heap/\(∀ b∈fp,Hc b=none)/\mm=ds.length - i/\i<=ds.length/\jP g c te ok (ds.drop i) E Ln Gc vt fun xs G3=>lr G3 (.lst xs) Q) (fun _ _=>False) JF) (fun _ _=>False) s8:=fun H8 G8 s8 I8 m8 q8=>by
    refine k8 (he _ _ _ _) (Lk.none XA) I8 q8 fun v H9 d9 G9 u9 s9 I9 m9 r9 rd9 q9=>?_;have WB:=m8.trans m9;have U6:=WB.keep _ _ U7.1 U7.2;have rA9:=Yu.mono (WB.kp I7.ab);have YG:=YH.trans WB;refine gO (Bu (X:=eg X N scope s3.heap.objs.size s3 H3 fp) _ s9 KY H9 (.ref s2.heap.objs.size) [v] _ [u9] (fun _ H'=>H'=upd H9 s2.heap.objs.size (.lst (tR++[v]))) I9.inv rfl (.cons r9 .nil)
     ⟨_,tR,v,rfl,rfl,U6.1,by rw [rA.length,sz]; have:SZ=16777216:=rfl; lia,rfl⟩) ?_
    rintro _ s10 ⟨v10,H10,I10,_,e10⟩;subst e10;have WI:Kp H9 (upd H9 s2.heap.objs.size (.lst (tR++[v]))):=.putL U6.1;have ZC:mQ X.K (upd H9 s2.heap.objs.size (.lst (tR++[v]))) G9:=fun a g' e=>by
     have ne:a≠s2.heap.objs.size:=by rintro rfl; rw [U6.2] at e; cases e
     exact(I9.ab a g' e).mono WI (bZ ne)
    have mA:Mv X.K H2 G2 (upd H9 s2.heap.objs.size (.lst (tR++[v]))) G9:=⟨fun a o e n=>by
      have ne:a≠s2.heap.objs.size:=eP e v7;obtain⟨e1,e2⟩:=YG.keep a o e n;exact⟨by rw [bZ ne]; exact e1,e2⟩,fun a n=>by
      by_cases ha:a=s2.heap.objs.size
      ·rw [ha,c8]; simp
      ·rw [bZ ha]; exact YG.nI a n,ZC⟩
    exact back ⟨I10,I9.st.mono WI,ZC⟩ mA U6.2 c8 ((rA9.append (.cons rd9 .nil)).mono WI) (by rw [aI,hV]; lia) q9
   cases hi s3.heap.objs.size s3 H3 fp with
   | none =>
    refine wpAny_tests_nil ?_;rw [if_pos rfl];exact Uj H7 G7 s7 I7 (.refl I7.ab) q7
   | some T1 =>
    refine wpAny_tests_one (Lx T1 (Lk.none XA) I7 q7 fun k H8 G8 s8 I8 m8 q8=>?_);cases k with
    | true =>
     rw [if_pos rfl] at q8 ⊢;exact Uj H8 G8 s8 I8 m8 q8
    | false =>
     rw [if_neg jv] at q8 ⊢;have Zb:=m8.keep _ _ U7.1 U7.2;exact back I8 (YH.trans m8) Zb.2 Zb.1 (Yu.mono (m8.kp I7.ab)) (by lia) q8
  ·have hn:ds.length<=i:=by lia
   rw [lQ hn] at wq;obtain⟨S0,qn⟩:=wq;have stop:=(wk i Hc Gc YM Ic.ab S0).2 hn;refine gO (T.done (eg X N scope s3.heap.objs.size s3 H3 fp) rfl rfl rfl hc i [] s4 NL Hc (fun _ _=>False) Ic.inv (LB Zf) Yp stop) ?_;rintro r s5 ⟨hr,I5⟩;subst hr;refine fin s3.heap.objs.size s5 ?_;obtain⟨mm,W8,_⟩:=I5.loc;have hC5:Hc s3.heap.objs.size=none:=I5.free;have I6:Inv X pins σ Hc s5:=by
    obtain⟨h5,g5,d5,t5,o5⟩:=s5;have eo:o5=s3.os:=I5.os;subst eo;exact I3.call (h':=h5) (g':=g5) (d':=d5) (t':=t5) (ch:=fp) I5.base I5.eV I5.bare fun b hb=>by
     obtain⟨⟨f0,f1,f2',f3,f4,f5⟩,hl⟩:=TU b hb;exact⟨f3,f1,f4,f5⟩
   have mvF:Mv X.K H2 G2 Hc (cH Gc s2.heap.objs.size (.lst vt)):=⟨fun a o e n=>by
     have ne:a≠s2.heap.objs.size:=eP e v7;obtain⟨e1,e2⟩:=mc.keep a o e n;exact⟨e1,by rw [ez ne]; exact e2⟩,mc.nI,fun a g' e=>by
     by_cases ha:a=s2.heap.objs.size
     ·subst ha;rw [aF] at e;cases e;exact⟨tR,hD,rA⟩
     ·rw [ez ha] at e;exact Ic.ab a g' e⟩
   exact⟨mm,Hc,_,I6,W8,I3.Ht (aQ _) hC5,m2.trans mvF,qn _ gD⟩
 have all:vK (model X.prog X.w) X.A (.compStart (.ListComp elt [⟨tg,iter,ifs,0⟩] scope pos) 0 (.ref it) (.ref s2.heap.objs.size) (eg X N scope s3.heap.objs.size s3 H3 fp).env) (Rr (.ref s2.heap.objs.size) s3.heap.objs.size)
   { s3 with heap:=su,toks:=s3.toks+([]:List (Str×Value)).length }:=codeAny_compStart_list loop (T.self _ 0 _ _ _ Sw loop)
 subst YT;exact all
end
end K2
end
section
namespace K2
open PySem PySem.Spec PyProof.Rows L2
section
variable {X:Cx} {N:List Str} {scope:Scope} {tg elt iter:Expr} {ifs:List Expr} {pos:Pos} {m:Nat} {fr:List Nat} {wi:Ny} {g:BW} {c:Option xM} {te:gH}
structure z0(X:Cx)(N:List Str)(scope:Scope)(m:Nat)(fr:List Nat):Prop where
 cell:∀ y∈scope.names,y.2≠.cell
 kind:scope.kind=.function
 names:∀ y∈scope.names,y.2=.local->scope.names.lookup y.1=some .local
 free:∀ y∈scope.names,y.2=.free->X.env.kindOf y.1=some .cell
 len:N.length=m+fr.length
 at':∀ j i x,fr[j]?=some i->N[m+j]?=some x->X.N[i]?=some x/\X.env.scope.names.lookup x=some .cell/\(Ga scope X.env).names.lookup x=some .cell
theorem z0.closed{X:Cx}{N:List Str}{scope:Scope}{m:Nat}{fr:List Nat}(k:z0 X N scope m fr){pins:List (Addr×Obj)}{σ:L2.St}{H:Hp}{s:aB}(I:Inv X pins σ H s):closureFor scope X.env=pure (gf X.env scope.names []) :=
 A1 fun y hy hf=>I.ok.has _ (.inl (k.free y hy hf))
theorem JS(hc:X.calm=true)(k:z0 X N scope m fr)(hi:Nz X tg iter wi)(hg:∀ C s H fp,K4 (eg X N scope C s H fp) tg g)(Q9:∀ C s H fp,RJ (eg X N scope C s H fp) ifs c)(he:∀ C s H fp,gN (eg X N scope C s H fp) elt te)
  (hs:autoParam (∀ x,nF iter X.env x=pure x) Ai._auto_1):gN X (.ListComp elt [⟨tg,iter,ifs,0⟩] scope pos) (gZ m fr wi g c te):=by
 intro E pins s σ H τ G Q hE I h;rw [eval_ListComp];refine wpAny_comprehension_free (use:=none) rfl hs (k.closed I.inv) k.kind k.names (gO (hi E pins s σ H τ G _ hE I h) fun xv fJ su=>gO su fun PF kI Hh=>?_);obtain⟨it,fp,tn,J,H2,G2,ds,ok,e,lM,m2,T,NM,f2,wk,hz,q⟩:=Hh;subst e;refine BO (Rr:=fun acc C=>compPost (model X.prog X.w) X.A X.xe none (sf X pins σ H G Q) acc C) hc k.cell k.kind k.free k.len k.at' hg Q9 he (I.mv lM m2) m2 T NM f2 wk hz (fun _ _ z=>z) q ?_;rintro C s' ⟨mm,H',G',I',AH,XE,mv,q'⟩;refine⟨mm,AH,fun h' RZ=>?_⟩;obtain⟨f0,f1,_,f3,f4,f5⟩:=XE;exact⟨.ref _,H',.ref _,G',I'.turned (t':=s'.toks) (fun b o hb e=>RZ.extBut b o hb e) f0 f1 f3 f4 f5,mv,rfl,.ref _,q'⟩
theorem Ez{i:Nat}{y:Str}{py LF:Pos}(hN:X.N.Nodup)(WQ:X.N[i]?=some y)(hy:X.env.scope.names.lookup y=some .local)(hc:X.calm=true)(k:z0 X N scope m fr)(hi:Nz X tg iter wi)(hg:∀ C s H fp,K4 (eg X N scope C s H fp) tg g)
  (Q9:∀ C s H fp,RJ (eg X N scope C s H fp) ifs c) (he:∀ C s H fp,gN (eg X N scope C s H fp) elt te) (WY:autoParam (D1 (.ListComp elt [⟨tg,iter,ifs,0⟩] scope pos) (some (.Name y py)) LF.line X.env=pure true) Ar._auto_1)
  (hs:autoParam (∀ x,nF iter X.env x=pure x) Ai._auto_1):FX X (.Assign [.Name y py] (.ListComp elt [⟨tg,iter,ifs,0⟩] scope pos) LF) (bU (gZ m fr wi g c te) (aK i)):=by
 intro E pins s σ H τ G D hE I h;rw [exec_Assign_Name_used _ _ _ _ WY];refine aN (wpAny_standAt (aN ?_));show wpAny _ X.A (do let _ ← comprehension (.ListComp elt [⟨tg,iter,ifs,0⟩] scope pos) scope X.env _ (newList []) false (eval iter X.env) (some (Lb (.Name y py) X.env))) _ _ s;refine aN (gO (wpAny_comprehension_free (use:=some (Lb (.Name y py) X.env)) (Q:=fun _ s'=>RI X pins H G D .next s') rfl hs (k.closed I.inv) k.kind k.names (gO (hi E pins s σ H τ G _ hE I h) fun xv fJ su=>gO su fun PF kI Hh=>?_)) fun _ s' hq=>bG (bG hq));obtain⟨it,fp,tn,J,H2,G2,ds,ok,e,lM,m2,T,NM,f2,wk,hz,q⟩:=Hh;subst e;refine BO (Rr:=fun acc C=>compPost (model X.prog X.w) X.A X.xe (some (Lb (.Name y py) X.env)) (fun _ s'=>RI X pins H G D .next s') acc C) hc k.cell k.kind k.free k.len k.at' hg Q9 he (I.mv lM m2) m2 T NM f2 wk hz (fun _ _ z=>z) q ?_;rintro C s' ⟨mm,H',G',I',AH,XE,mv,q'⟩;show wpAny (model X.prog X.w) X.A (Lb (.Name y py) X.env (.ref kI.heap.objs.size)) _ X.xe s';obtain⟨f0,f1,_,f3,f4,f5⟩:=XE;refine wpAny_assign_Name (Bj (v:=.ref kI.heap.objs.size) I' hN WQ (.inl hy) rfl (?_) (.inr hy));rintro s3 I3 ⟨a,hsb,ha⟩;have hCa:C≠a:=by
  rcases ha with rfl | ha
  ·exact f1
  ·exact fun e=>f4 y a ha e.symm
 refine⟨mm,AH.sameBut hsb hCa,fun h' RZ=>?_⟩;exact⟨_,H',_,G',⟨I3.turned (t':=s3.toks) (fun b o hb e=>RZ.extBut b o hb e) f0 f1 f3 f4 f5,(I.st.mono (mv.kp I.ab)).set i (.ref _),mv.ab⟩,mv,q'⟩
theorem rY{i:Nat}{u:DD}{n:Nat}(h:∀ E ds τ G Q,u E ds τ G Q->ds.length=n):∀ E ds τ G Q,sX (aK i) u E ds τ G Q->ds.length=n+1 :=
 Kq h (fun _ _ _ _ _ _ q k=>k _ _ q) fun _ _ _ _ q=>q
theorem aY (i:Nat) {x:Str} {pos:Pos} (hN:autoParam (X.N[i]?=some x) Ar._auto_1) (hv:autoParam (Vd X.env.scope x) Ao._auto_1) (hd:autoParam ((x == ("__debug__" : Str))=false) Ad._auto_1)
  (Ja:autoParam ((x == ("__classdict__" : Str))=false) Ad._auto_1):gN X (.Name x pos) (ai i):=OG hN hv hd Ja
theorem Ha{pins:List (Addr×Obj)}{s:aB}{σ:L2.St}{H:Hp}{G:Gp}{x:V}{d:D}{v:Value}{zs:List D}(I:Inv X pins σ H s)(ab:mQ X.K H G)(rx:RelV x v)(rd:cV X.K H x d)(hi:itemsOf d G=some zs) :
  ∃ l vs bB,v=.ref l/\Vals vs bB/\br X.K H vs zs/\(s.heap.IsList l bB.toArray\/s.heap.IsTuple l bB.toArray)/\vs.length<=bh:=by
 cases rd with
 | eY hq rs =>
  cases hi;cases rx;obtain⟨bB,rv,pl,hz⟩:=I.list hq.sq;exact⟨_,_,bB,rfl,rv,rs,.inl pl.isList,hz⟩
 | tup hq rs =>
  cases hi;cases rx;obtain⟨bB,rv,pl,hz⟩:=I.tuple (.of hq);exact⟨_,_,bB,rfl,rv,rs,.inr pl,hz⟩
 | ref l =>
  unfold itemsOf at hi;dsimp only at hi;cases hg:G l with
  | none=>rw [hg] at hi; cases hi
  | some gg =>
   rw [hg] at hi;cases gg with
   | lst ds =>
    cases hi;cases rx;obtain⟨vs,hv,rs⟩:=ab.lst hg;obtain⟨bB,rv,pl,hz⟩:=I.list (.of hv);exact⟨_,_,bB,rfl,rv,rs,.inl pl.isList,hz⟩
   | ins _ _=>cases hi
   | mH _=>cases hi
 | _=>cases hi
theorem Qq{body:List Stmt}{t2:fY}(h:zS X body t2){E:lL}(hE:Lk X E):R7 X body (fun D σ H=>∃ (τ:ib) (G:Gp) (D2:kF),NZ X.K H σ τ/\mQ X.K H G/\t2 E D2 τ G /\
  (∀ jR H' kz G',Mv X.K H G H' G'->D2.nx kz G'->D.nx jR H')/\(∀ v H' d G',Mv X.K H G H' G'->cV X.K H' v d->D2.rt d G'->D.rt v H')/\(∀ τ G,¬ D2.bk τ G)/\(∀ τ G,¬ D2.ct τ G)):=by
 rintro pins s σ H D I ⟨τ,G,D2,st,ab,q,k1,k2,k3,k4⟩;refine gO (h E pins s σ H τ G D2 hE ⟨I,st,ab⟩ q) fun f s1 z=>?_;cases f with
 | next=>obtain⟨jR,H',kz,G',J,mv,z⟩:=z; exact⟨jR,H',J.inv,k1 jR H' kz G' mv z⟩
 | brk=>obtain⟨jR,H',kz,G',J,mv,z⟩:=z; exact(k3 _ _ z).elim
 | cont=>obtain⟨jR,H',kz,G',J,mv,z⟩:=z; exact(k4 _ _ z).elim
 | ret u=>obtain⟨v,jR,H',d,G',J,mv,r,rd,z⟩:=z; exact⟨v,jR,H',J,r,k2 v H' d G' mv rd z⟩
theorem LC{K:ao}{H:Hp}{Nn:List Str}{vs:List V}{ds:List D}(r:br K H vs ds):NZ K H (L2.start Nn vs) (aW Nn.length ds):=by
 unfold L2.start aW;refine⟨by simp [r.length],fun i d h=>?_⟩;by_cases hi:i < ds.length
 ·rw [cz (by simpa using hi),dq] at h;cases hd:ds[i]? with
  | none=>rw [hd] at h; cases h
  | some d' =>
   rw [hd] at h;have e:d'=d:=by simpa using h
   subst e;obtain⟨v,h1,h2⟩:=r.get hd;refine⟨v,?_,h2⟩;rw [cz (by simpa [r.length] using hi),dq,h1]; rfl
 ·rw [bF (by simpa using hi),lA] at h;split at h <;> cases h
theorem O3{P:bO}{w:World}{K:ao}{mg:Str->Option Value}{base:Heap}{x qual:Str}{st:Stmt}{f:Addr}{fd:ax}{Nn ps:List Str}{k:Nat}{sp:jk}{rd:fY}(F:kB K x qual st f fd)(S:bC Nn ps (aT st))(len:∀ ds G Q E,sp ds G Q E->ds.length=ps.length)
  (hr:∀ ds G Q,sp ds G Q (fun _ _=>False)->rd (fun _ _=>False) (ends Q) (aW Nn.length ds) G)
  (hb:∀ (nk:Value) (A:dU) (outer:List Env) (s:aB) (H:Hp) (E:XK),jT k (A.deeper (D3 qual (aT st) s.heap.objs.size f nk))->zS (Fw eB P w K mg base Nn qual (aT st) f nk A outer s H E).RU (ik st) rd):dP P w K mg base eB (k+1) f fd ps (bH K sp):=by
 refine F.ok S ((by rintro vs H Q E ⟨ds,G,Q2,r,ab,q,_⟩; exact by rw [r.length]; exact len _ _ _ _ q)) ?_;rintro nk A outer s H vs Q E Tx ⟨ds,G,Q2,r,ab,q,kk⟩;refine⟨_,Qq (hb nk A outer s H E Tx) (E:=fun _ _=>False) (Lk.none fun _ _ z=>z),?_⟩;exact⟨aW Nn.length ds,G,ends Q2,LC r,ab,hr ds G Q2 q,fun jR H' kz G' mv z=>kk _ _ _ _ z mv .dQ,fun v H' d G' mv VS z=>kk _ _ _ _ z mv VS,fun _ _ z=>z,fun _ _ z=>z⟩
section
variable {prog:bO} {w:World} {A:dU} {R:Result->aB->Prop} {Vh:Addr} {fq wr:List Addr} {n:Nat} {P:Nat->Value->Prop} {Sx:Nat->Heap->Prop}
theorem QL(W:Walks prog w A.in1 Vh fq wr n P Sx)(bt:Nat->Nat->Bool)(T:Heap->Prop)(B:Addr)(hB:B∉fq)(hT:∀ h h',T h->(∀ b o,b∉wr->b≠B->h.get? b=some o->h'.get? b=some o)->T h')
  (cmp:∀ i j x y s (Q:Value->aB->Prop) (E:Value->aB->Prop),T s.heap->P i x->P j y->Q (.bool (bt i j)) s->wpAny (model prog w) A.in1 (ql .Lt x y) Q E s) :
  ∀ (k j:Nat) (s:aB) (best:Value) (cc:Nat),n - (j+1)=k->j+1<=n->Sx (j+1) s.heap->T s.heap->P (qp bt j) best ->
  s.heap.get? B=some { cls:=.type "list",dict:=none,data:=.seq #[best,best] cc,slots:=#[] } ->
  (∀ v h' tk,P (qp bt (n - 1)) v->(∀ b o,b∉wr->b≠B->s.heap.get? b=some o->h'.get? b=some o)->R (.ok (.ret v)) { s with heap:=h',toks:=tk }) ->
  vK (model prog w) A (.builtin "min.loop" ⟨[.ref Vh,.none,.ref B],[]⟩) R s:=by
 have Zc:B∉wr:=fun z=>hB (W.sub _ z);have nm:(toString "min"++toString ".loop" : String) = "min.loop":=by decide
 intro k;induction k with
 | zero =>
  intro j s best cc hk hj hs ht hp hb hR;have ej:j+1=n:=by lia
  refine qo Gk ?_; rw [jQ jt _];show wpAny _ A.in1 (seqItems? (.ref B) >>= _) _ _ s; refine aN (N0 hb rfl ?_);show wpAny _ A.in1 (tryCatch (pyNext (.ref Vh)) _ >>= _) _ _ s; refine aN (Bb (W.done s _ _ (ej ▸ hs) fun h' tk kept=>?_));have Hk:=kept B _ Zc hb;show wpAny _ A.in1 (updateSeq B (fun _=>#[]) >>= _) _ _ _; refine aN ?_;refine yh Hk rfl (aN (K5 (bG ?_)));exact hR best _ tk (by rw [<-ej]; exact hp) fun b o z1 z2 e=>(dv _ _ (fD z2)).trans (kept b o z1 e)
 | succ k ih =>
  intro j s best cc hk hj hs ht hp hb hR;have lt:j+1 < n:=by lia
  refine qo Gk ?_; rw [jQ jt _];show wpAny _ A.in1 (seqItems? (.ref B) >>= _) _ _ s; refine aN (N0 hb rfl ?_);show wpAny _ A.in1 (tryCatch (pyNext (.ref Vh)) _ >>= _) _ _ s; refine aN (Bb (W.item (j+1) s _ _ lt hs fun v h' tk pv Bk kept=>?_));have Hk:=kept B _ Zc hb;have RY:T h':=hT _ _ ht fun b o z1 _ e=>kept b o z1 e;show wpAny _ A.in1 (tryCatch (K9 [v,v] (ql .Lt v best >>= _)) _ >>= _) _ _ _;refine aN (Bb (kr (aN (cmp (j+1) (qp bt j) v best _ _ _ RY pv hp ?_)))); refine aN (kr (tX ?_)); refine aN (K5 (bG ?_));cases Y6:bt (j+1) (qp bt j) with
  | true =>
   simp only [if_true]; refine aN ?_;refine yh Hk rfl (aN (K5 ?_)); rw [nm];refine bG ⟨qb jt _,ih (j+1) _ v _ (by lia) lt (W.frame _ _ _ Bk fun b z o e=>?_) (hT _ _ RY fun b o _ z2 e=>?_) (by simp only [qp,Y6,if_true]; exact pv) (vH _ Hk rfl) fun v' Uc Lw SQ kk=>?_⟩
   ·exact(dv _ _ (fun z':B=b=>hB (by rw [z']; exact z))).trans e
   ·exact(dv _ _ (fD z2)).trans e
   ·exact hR v' Uc Lw SQ fun b o z1 z2 e=>kk b o z1 z2 ((dv _ _ (fD z2)).trans (kept b o z1 e))
  | false =>
   simp only [ah,if_false]; refine aN (K5 ?_); rw [nm];refine bG ⟨qb jt _,ih (j+1) _ best cc (by lia) lt Bk RY (by simp only [qp,Y6,ah,if_false]; exact hp) Hk fun v' Uc Lw SQ kk=>?_⟩;exact hR v' Uc Lw SQ fun b o z1 z2 e=>kk b o z1 z2 (kept b o z1 e)
end
theorem EL{prog:bO}{w:World}{A:dU}{E:Value->aB->Prop}{s:aB}{x:Value}{Q:Value->aB->Prop}
  (h:wpAny (model prog w) A.in1 (pyIter x) (fun it kI=>∃ (I:Addr) (fq wr:List Addr) (n:Nat) (P:Nat->Value->Prop) (Sx:Nat->Heap->Prop) (bt:Nat->Nat->Bool) (T:Heap->Prop),it=.ref I/\Walks prog w A.in1 I fq wr n P Sx/\Sx 0 kI.heap/\(∀ b∈fq,b < kI.heap.objs.size)/\0 < n/\T kI.heap/\(∀ (h h':Heap) (B:Addr),kI.heap.objs.size<=B->T h->(∀ b o,b∉wr->b≠B->h.get? b=some o->h'.get? b=some o)->T h') /\
   (∀ i j x y s (Q:Value->aB->Prop) (E:Value->aB->Prop),T s.heap->P i x->P j y->Q (.bool (bt i j)) s->wpAny (model prog w) A.in1 (ql .Lt x y) Q E s) /\
   ∀ v h' tk,P (qp bt (n - 1)) v->(∀ b o,b∉wr->kI.heap.get? b=some o->h'.get? b=some o)->Q v { kI with heap:=h',toks:=tk }) E s) :
  wpAny (model prog w) A (call (.builtin "min") [x]) Q E s:=by
 have nm:(toString "min"++toString ".loop" : String) = "min.loop":=by decide
 refine call_function_tree F.kind_min F.plain_min F.entry_min (F.args_min1 _) ?_;show wpAny _ A.in1 (vI "min" ["key","default"] 0 ⟨[],[]⟩ >>= _) _ _ s; refine aN (wpAny_of_eq (show vI "min" ["key","default"] 0 ⟨[],[]⟩=pure [none,none] from rfl) ?_);refine aN (bG ?_); refine aN (FZ h (fun it kI Hh=>?_) fun _ _ e=>e);obtain⟨I,fq,wr,n,P,Sx,bt,T,rfl,W,Q0,TV,hn,ht,hT,cmp,hQ⟩:=Hh;refine aN (kq ?_);have Xy:kI.heap.objs.size∉fq:=fun z=>iT _ (TV _ z);have hSw:kI.heap.objs.size∉wr:=fun z=>Xy (W.sub _ z);rw [nm];generalize hh:kI.heap.push { cls:=.type "list",data:=.seq ([]:List Value).toArray } = hp;have hb:hp.get? kI.heap.objs.size=some { cls:=.type "list",dict:=none,data:=.seq #[] 0,slots:=#[] }:=by rw [<-hh]; exact cb _ rfl
 have old:∀ b o,kI.heap.get? b=some o->hp.get? b=some o:=fun b o e=>by rw [<-hh]; exact a0 _ e
 have VM:Sx 0 hp:=W.frame _ _ _ Q0 fun b _ o e=>old b o e;have ht0:T hp:=hT _ _ _ (aQ _) ht fun b o _ _ e=>old b o e;refine bG ⟨qb jt _,?_⟩;refine qo Gk ?_; rw [jQ jt _];show wpAny _ A.in1 (seqItems? (.ref kI.heap.objs.size) >>= _) _ _ _; refine aN (N0 hb rfl ?_);show wpAny _ A.in1 (tryCatch (pyNext (.ref I)) _ >>= _) _ _ _; refine aN (Bb (W.item 0 _ _ _ hn VM fun v h' tk pv Bk kept=>?_));have Hk:=kept _ _ hSw hb;show wpAny _ A.in1 (updateSeq kI.heap.objs.size (fun _=>#[v,v]) >>= _) _ _ _; refine aN ?_;refine yh Hk rfl ?_; rw [nm];refine bG ⟨qb jt _,QL W bt T _ Xy (fun h h'=>hT h h' _ (aQ _)) cmp _ 0 _ v _ rfl hn (W.frame _ _ _ Bk fun b z o e=>?_) (hT _ _ _ (aQ _) (hT _ _ _ (aQ _) ht0 fun b o z1 _ e=>kept b o z1 e) fun b o _ z2 e=>?_) pv (vH _ Hk rfl) fun v' Uc Lw SQ kk=>?_⟩
 ·exact(dv _ _ (fun z':kI.heap.objs.size=b=>Xy (by rw [z']; exact z))).trans e
 ·exact(dv _ _ (fD z2)).trans e
 ·refine hQ v' Uc Lw SQ fun b o z1 e=>?_;have nb:b≠kI.heap.objs.size:=bM (a9 e);exact kk b o z1 nb ((dv _ _ (fD nb)).trans (kept b o z1 (old b o e)))
theorem FH{α:Type}(lt:α->α->Bool)(l:List α)(a:α)(f:Nat->α)(hf:∀ i,i < l.length+1->f i=(a :: l).getD i a) :
  f (qp (fun i j=>lt (f i) (f j)) l.length)=l.foldl (fun m x=>if lt x m=true then x else m) a:=by
 have key:∀ k,k<=l.length->f (qp (fun i j=>lt (f i) (f j)) k)=(l.take k).foldl (fun m x=>if lt x m=true then x else m) a:=by
  intro k;induction k with
  | zero=>intro _; rw [qp,hf 0 (by lia)]; rfl
  | succ k ih =>
   intro hk;have ih':=ih (by lia);rw [List.take_succ_eq_append_getElem (by lia),List.foldl_append,<-ih'];have e:f (k+1)=l[k]:=by
    rw [hf (k+1) (by lia),eh];simp [show k < l.length by lia]
   show f (if lt (f (k+1)) (f (qp _ k))=true then k+1 else qp _ k)=(if lt l[k] _=true then l[k] else _);rw [<-e];split <;> rfl
 rw [key l.length (aQ _),List.take_length]
theorem BQ (hc : X.calm = true) (hu : X.A.units + 64 < cLine) : wI X (.builtin "min") KC := by
  intro pins s σ H G xs ds us Q I ab rx rd q;unfold KC at q;split at q
  · rename_i x
    obtain⟨v, rfl, r⟩ := rd.one;obtain⟨u, rfl, ru⟩ := rx.one;have main : ∀ {α : Type} (zs : List α) (a : α) (enc : α -> D) (lt : α -> α -> Bool) (T : Heap -> Prop), itemsOf x G = some ((a :: zs).map enc) -> T s.heap -> (∀ (h h' : Heap) (B : Addr), s.heap.objs.size ≤ B -> T h -> (∀ b o, b < s.heap.objs.size -> b ≠ B -> h.get? b = some o -> h'.get? b = some o) -> T h') ->
        (∀ y z vy vz uy uz (s' : aB) (Q' : Value -> aB -> Prop) (E' : Value -> aB -> Prop), T s'.heap -> cV X.K H vy (enc y) -> RelV vy uy -> cV X.K H vz (enc z) -> RelV vz uz -> Q' (.bool (lt y z)) s' -> wpAny (model X.prog X.w) X.A.in1 (ql .Lt uy uz) Q' E' s') ->
        Q (enc (zs.foldl (fun m x => if lt x m = true then x else m) a)) G -> wpAny (model X.prog X.w) X.A (call (.builtin "min") [u]) (sf X pins σ H G Q) X.xe s := by
      intro α zs a enc lt T hi ht hT cmp hq;obtain⟨l, vs, bB, rfl, rv, rs, hl, hz⟩ := Ha I ab ru r hi;have hlen : bB.length = zs.length + 1 := by rw [<-rv.length, rs.length, av, ag]
      have ot : ∀ {o : Obj}, s.heap.get? l = some o -> l ≠ s.heap.objs.size := fun e => bM (a9 e);have at_ : ∀ i uu, bB.toArray[i]? = some uu -> ∃ vv, RelV vv uu ∧ cV X.K H vv (enc ((a :: zs).getD i a)) := fun i uu e => by
        have e' : bB[i]? = some uu := by simpa using e
        have U4 : i < bB.length := (List.getElem?_eq_some_iff.mp e').1;have hd : ((a :: zs).map enc)[i]? = some (enc ((a :: zs).getD i a)) := by
          rw [dq, eh];cases h9 : (a :: zs)[i]? with
          | none => rw [List.getElem?_eq_none_iff] at h9; simp at h9; lia
          | some z => rfl
        obtain⟨vv, h1, h2⟩ := rs.get hd;obtain⟨uu', h3, h4⟩ := rv.get h1;rw [e'] at h3;cases h3;exact⟨vv, h4, h2⟩
      have Ul : ∀ i j p9 q9 s' (Q' : Value -> aB -> Prop) (E' : Value -> aB -> Prop), T s'.heap -> bB.toArray[i]? = some p9 -> bB.toArray[j]? = some q9 -> Q' (.bool (lt ((a :: zs).getD i a) ((a :: zs).getD j a))) s' -> wpAny (model X.prog X.w) X.A.in1 (ql .Lt p9 q9) Q' E' s' := fun i j p9 q9 s' Q' E' t' h1 h2 h3 => by
        obtain⟨v1, r1, d1⟩ := at_ i p9 h1;obtain⟨v2, r2, d2⟩ := at_ j q9 h2;exact cmp _ _ v1 v2 p9 q9 s' Q' E' t' d1 r1 d2 r2 h3
      have fin : ∀ vv h' tk, bB.toArray[qp (fun i j => lt ((a :: zs).getD i a) ((a :: zs).getD j a)) (bB.toArray.size - 1)]? = some vv -> (∀ b o, b ∉ [s.heap.objs.size] -> s.heap.get? b = some o -> h'.get? b = some o) -> sf X pins σ H G Q vv { s with heap := h', toks := tk } := fun vv h' tk e hk => by
        obtain⟨v1, r1, d1⟩ := at_ _ vv e;have es : bB.toArray.size - 1 = zs.length := by rw [a8]; lia
        rw [es, FH lt zs a (fun i => (a :: zs).getD i a) (fun i _ => rfl)] at d1;exact⟨v1, H, _, G, I.kept fun b o e => hk b o (by simpa using bM (a9 e)) e, .refl ab, r1, d1, hq⟩
      have Q4 : 0 < bB.toArray.size := by rw [a8]; lia
      have Y8 : ∀ (oo : Obj), T (s.heap.push oo) := fun oo => hT _ _ (s.heap.objs.size + 1) (yr _) ht fun b o hb _ e => a0 _ e;have Y9 : ∀ (oo : Obj) (h h' : Heap) (B : Addr), (s.heap.push oo).objs.size ≤ B -> T h -> (∀ b o, b ∉ [s.heap.objs.size] -> b ≠ B -> h.get? b = some o -> h'.get? b = some o) -> T h' := fun oo h h' B hB t kk => hT h h' B (by rw [jb] at hB; exact Nat.le_of_succ_le hB) t fun b o hb hn e => kk b o (by simpa using bM hb) hn e;rcases hl with hl | hl
      · refine EL (wpAny_pyIter_list hl ?_)
        obtain⟨o, ho, I0, n, hd⟩ := id hl;exact⟨s.heap.objs.size, _, _, _, _, _, _, T, rfl, Walks.list (A := X.A.in1) (show X.A.in1.handled = none from I.ok.hd hc) _ l (ot ho) bB.toArray, ⟨⟨_, cb _ rfl, rfl, rfl⟩, ⟨o, a0 _ ho, I0, n, hd⟩⟩,
          fun b hb => by rcases (by simpa using hb : b = s.heap.objs.size ∨ b = l) with rfl | rfl
                         · rw [jb]; exact kC _
                         · rw [jb]; exact B2 (a9 ho), Q4, Y8 _, Y9 _, Ul, fun vv h' tk e hk => fin vv h' tk e fun b o hb e => hk b o hb (a0 _ e)⟩
      · refine EL (wpAny_pyIter_tuple hl ?_)
        obtain⟨o, ho, I0, n, hd⟩ := id hl;exact⟨s.heap.objs.size, _, _, _, _, _, _, T, rfl, Walks.tuple (A := X.A.in1) (show X.A.in1.handled = none from I.ok.hd hc) _ l (ot ho) bB.toArray, ⟨⟨_, cb _ rfl, rfl, rfl⟩, ⟨o, a0 _ ho, I0, n, hd⟩⟩,
          fun b hb => by rcases (by simpa using hb : b = s.heap.objs.size ∨ b = l) with rfl | rfl
                         · rw [jb]; exact kC _
                         · rw [jb]; exact B2 (a9 ho), Q4, Y8 _, Y9 _, Ul, fun vv h' tk e hk => fin vv h' tk e fun b o hb e => hk b o hb (a0 _ e)⟩
    rcases q with ⟨ns, mm, hi, hm, q⟩ | ⟨US, mm, hi, hm, q⟩
    · cases ns with
      | nil => cases hm
      | cons a zs =>
        cases hm;have e : (fun m x : Int => if x < m then x else m) = fun m x => if decide (x < m) = true then x else m := by funext m x; simp
        rw [e] at q;refine main zs a D.int (fun x y => decide (x < y)) (fun _ => True) hi trivial (fun _ _ _ _ _ _ => trivial) (fun y z vy vz uy uz s' Q' E' _ d1 r1 d2 r2 hq => ?_) q;cases d1;cases d2;obtain⟨t1, rfl⟩ := r1;obtain⟨t2, rfl⟩ := r2;exact HT.yN X.A.in1 s' y t1 z t2 X.prog X.w E' Q' hq
    · cases US with
      | nil => cases hm
      | cons a zs =>
        cases hm;have el : ∀ xs ys : List Int, HT.lexLt xs ys = K2.lexLt xs ys := by
          intro xs;induction xs with
          | nil => intro ys; cases ys <;> rfl
          | cons x xs ih => intro ys; cases ys with
            | nil => rfl
            | cons y ys => unfold HT.lexLt K2.lexLt; rw [ih]
        refine main zs a tI K2.lexLt (fun h => ∀ b o, b < s.heap.objs.size -> s.heap.get? b = some o -> h.get? b = some o) hi (fun b o _ e => e) (fun h h' B hB t kk b o hb e => kk b o hb (bM (bR hb hB)) (t b o hb e)) (fun y z vy vz uy uz s' Q' E' t' d1 r1 d2 r2 hq => ?_) q;cases d1 with
        | tup h1 Yr =>
          cases d2 with
          | tup h2 Pr =>
            cases r1;cases r2;have z1 := Yr.ints;have z2 := Pr.ints;subst z1 z2;obtain⟨Mt, RP, ⟨o1, YY, hc1, n1, TZ⟩, _⟩ := I.tuple (.of h1);obtain⟨sr, JL, ⟨o2, BC, C1, n2, hd2⟩, _⟩ := I.tuple (.of h2);have p1 : IsTup s'.heap _ Mt.toArray := ⟨o1, t' _ _ (a9 YY) YY, hc1, n1, TZ⟩;have p2 : IsTup s'.heap _ sr.toArray := ⟨o2, t' _ _ (a9 BC) BC, C1, n2, hd2⟩;rw [<-el] at hq;have i1 : mh Mt.toArray.toList y := intsAre_of RP;have i2 : mh sr.toArray.toList z := intsAre_of JL;exact(HT.yU p1 p2 i1 i2 (show X.A.units + 1 < cLine by lia) hq : wpAny (model X.prog X.w) X.A.in1 (fE .Lt _ _) Q' E' s')
  · exact q.elim
noncomputable def VR(scope sc:Scope):List (Str×sH):=scope.names.map fun (n,k)=>if (k == .free&&sc.kind == .function&&sc.names.lookup n == some .cell) then (n,.cell) else (n,k)
noncomputable def ye(N:List Str)(scope:Scope)(m:Nat)(fr:List Nat)(sc:Scope)(XN:List Str):Bool :=
 scope.names.all (fun y=>decide (y.2≠.cell))&&decide (scope.kind=.function)&&scope.names.all (fun y=>!decide (y.2=.local)||decide (scope.names.lookup y.1=some .local)) &&
 scope.names.all (fun y=>!decide (y.2=.free)||decide (sc.names.lookup y.1=some .cell))&&decide (N.length=m+fr.length) &&
 (eE fr.length).all (fun j=>match fr[j]?,N[m+j]? with
  | some i,some x=>decide (XN[i]?=some x)&&decide (sc.names.lookup x=some .cell)&&decide ((VR scope sc).lookup x=some .cell)
  | _,_=>false)
theorem BP{sc:Scope}{XN:List Str}(Tw:X.env.scope=sc)(Ua:X.N=XN)(hb:ye N scope m fr sc XN=true):z0 X N scope m fr:=by
 subst Tw Ua;unfold ye at hb;simp only [aU] at hb;obtain⟨⟨⟨⟨⟨h1,h2⟩,h3⟩,h4⟩,h5⟩,h6⟩:=hb;refine⟨fun y hy=>of_decide_eq_true (List.all_eq_true.mp h1 y hy),of_decide_eq_true h2,fun y hy hl=>?_,fun y hy hl=>?_,of_decide_eq_true h5,fun j i x e1 e2=>?_⟩
 ·have:=List.all_eq_true.mp h3 y hy;simp only [hl,decide_true,aJ,Aj] at this;exact of_decide_eq_true this
 ·have:=List.all_eq_true.mp h4 y hy;simp only [hl,decide_true,aJ,Aj] at this;exact of_decide_eq_true this
 ·have hj:j < fr.length:=(List.getElem?_eq_some_iff.mp e1).1;have:=List.all_eq_true.mp h6 j (List.mem_range.mpr hj);rw [e1,e2] at this;simp only [aU] at this;exact⟨of_decide_eq_true this.1.1,of_decide_eq_true this.1.2,of_decide_eq_true this.2⟩
theorem qO(N:List Str){sc:Scope}{XN:List Str}(hi:Nz X tg iter wi)(hg:∀ C s H fp,K4 (eg X N scope C s H fp) tg g)(Q9:∀ C s H fp,RJ (eg X N scope C s H fp) ifs c)(he:∀ C s H fp,gN (eg X N scope C s H fp) elt te)
  (Tw:autoParam (X.env.scope=sc) Ar._auto_1) (Ua:autoParam (X.N=XN) Ar._auto_1) (hb:autoParam (ye N scope m fr sc XN=true) Ak._auto_1) (hc:autoParam (X.calm=true) Ar._auto_1) (hs:autoParam (∀ x,nF iter X.env x=pure x) Ai._auto_1):gN X (.ListComp elt [⟨tg,iter,ifs,0⟩] scope pos) (gZ m fr wi g c te) :=
 JS hc (BP Tw Ua hb) hi hg Q9 he hs
theorem qM(N:List Str){sc:Scope}{XN:List Str}{i:Nat}{y:Str}{py LF:Pos}(hN:X.N.Nodup)(WQ:X.N[i]?=some y)(hy:X.env.scope.names.lookup y=some .local)(hi:Nz X tg iter wi)(hg:∀ C s H fp,K4 (eg X N scope C s H fp) tg g)
  (Q9:∀ C s H fp,RJ (eg X N scope C s H fp) ifs c) (he:∀ C s H fp,gN (eg X N scope C s H fp) elt te) (Tw:autoParam (X.env.scope=sc) Ar._auto_1) (Ua:autoParam (X.N=XN) Ar._auto_1) (hb:autoParam (ye N scope m fr sc XN=true) Ak._auto_1) (hc:autoParam (X.calm=true) Ar._auto_1)
  (WY:autoParam (D1 (.ListComp elt [⟨tg,iter,ifs,0⟩] scope pos) (some (.Name y py)) LF.line X.env=pure true) Ar._auto_1) (hs:autoParam (∀ x,nF iter X.env x=pure x) Ai._auto_1) :
  FX X (.Assign [.Name y py] (.ListComp elt [⟨tg,iter,ifs,0⟩] scope pos) LF) (bU (gZ m fr wi g c te) (aK i)) :=
 Ez hN WQ hy hc (BP Tw Ua hb) hi hg Q9 he WY hs
theorem Ka{K:ao}{H:Hp}{a:Addr}{ns:List Int}(hO:Pg H)(hS:oZ K H a (ns.map V.int))(hl:ns.length<=63):bH K Bm [.ref a] H (fun v _=>v=.bl true) fun _ _ _=>False:=by
 have hF:R6 K H a (ns.map V.int):=by
  rcases hS with (h | ⟨o,h⟩) | h
  ·rcases hO a with z | ⟨o,xs,z⟩
   ·rw [z] at h; cases h
   ·rw [z] at h; cases h
  ·exact .inl ⟨o,h⟩
  ·exact .inr h
 refine⟨[.eY (ns.map D.int)],fun _=>none,fun d _=>d=.bl true,.cons (.eY hF (br.IL ns)) .nil,fun a g e=>(by cases e),⟨ns,rfl,hl,fun _=>rfl,fun _=>rfl⟩,fun d G' v H' e mv r=>?_⟩;subst e;cases r;rfl
theorem Ml{l:B1}{q:bO}{loose:List Str}{XP:(Str->Option Value)->Heap->Prop}{YP:World->Heap->Prop}{d:DefRec}{K:sG->ao}{k:Nat}{x:Str}(hn:l.most=some 63)(TY:d.params.defaults=[])(hr:jT k Gb)
  (hY:∀ (w:World) (h:Heap),YP w h->(K w.params).In h)
  (F:∀ (w:World) (mg:Str->Option Value) (fa:Addr) (h:Heap),(K w.params).In h->h.Ns bo mg->mg d.name=some (.ref fa) ->
   ∃ fd:ax,(∀ (s:aB) (u:Value),Lm s fd ⟨[u],[]⟩ [(x,u)])/\∀ base:Heap,(K w.params).In base->base.Ns bo mg->dP l.prog w (K w.params) mg base eB k fa fd [x] (bH (K w.params) Bm)) :
  PySem.W.WalkO q loose XP YP l.row.toRowW d [] (fun f vs=>Ib f vs) :=
 L2.Of (n:=63) (k:=k) (x:=x) (CX:=fun _=>eB) (sp:=fun w=>bH (K w.params) Bm) hn (by decide) TY hr hY F (fun _ _ _ _ hl hO hS=>Ka hO hS hl) fun _ _ _ _ _ z=>z
end
end K2
end
section
namespace K2
open PySem PySem.Spec PyProof.Rows L2
noncomputable def Nj:HO->Bool
 | .lst _=>true
 | .dK _=>true
 | .dT _=>true
 | _=>false
noncomputable def oN(h:Heap)(S:Addr->Bool)(H:Hp):Hp:=fun a=>match H a with
 | some u=>if (Nj u&&S a)=true then (match h.get? a with
  | some o=>some (.pX o u)
  | none=>some u) else some u
 | none=>none
section
variable {h:Heap} {S:Addr->Bool} {H:Hp} {a:Addr}
theorem Hs(n:∀ u,H a=some u->Nj u=false):oN h S H a=H a:=by
 unfold oN;cases e:H a with
 | none=>rfl
 | some u=>simp only [n u e,Il,ah,if_false]
theorem zk(hs:S a=false):oN h S H a=H a:=by
 unfold oN;cases e:H a with
 | none=>rfl
 | some u=>simp only [hs,Im,ah,if_false]
theorem ya{u:HO}{o:Obj}(hs:S a=true)(e:H a=some u)(hu:Nj u=true)(ho:h.get? a=some o):oN h S H a=some (.pX o u):=by
 unfold oN;simp only [e,hs,hu,Bool.and_self,if_true,ho]
theorem oM(e:H a=none):oN h S H a=none:=by unfold oN; rw [e]
theorem ni{u:HO}(e:H a=some u)(hu:Nj u=false):oN h S H a=some u:=by rw [Hs (fun v z=>by rw [e] at z; cases z; exact hu)]; exact e
theorem vd:Kp H (oN h S H):=⟨fun a xs e=>ni e rfl,fun a o u e=>ni e rfl⟩
end
section
variable {X:Cx} {pins:List (Addr×Obj)} {σ:L2.St} {H:Hp} {s:aB} {G:Gp}
theorem Inv.freeze(I : Inv X pins σ H s)(S : Addr -> Bool) : Inv X pins σ (oN s.heap S H) s where
  ok := I.ok
  os := I.os
  bare := I.bare
  base := { keep := I.base.keep, slot := I.base.slot, there := I.base.there
            free := fun b o q n hx => oM (I.base.free b o q n hx)
            Av := fun b xs q => ni (I.base.Av b xs q) rfl
            zj := fun b o u q => ni (I.base.zj b o u q) rfl
            Ax := fun b ps q => ni (I.base.Ax b ps q) rfl }
  loc := I.loc
  cell := I.cell
  free := oM I.free
  pY := fun x c e => oM (I.pY x c e)
  pin := fun p hp => let ⟨h1, h2, h3⟩ := I.pin p hp; ⟨h1, oM h2, h3⟩
  eV := fun a o q => by
    have st : ∀ u, H a = some u -> iC X.prog X.w (oN s.heap S H) s.heap a u := fun u e =>
      (I.eV a u e).nI (fun b v _ r => r) (fun b r => ni r rfl) (fun b xs r => ni r rfl)
    cases e : H a with
    | none => rw [oM e] at q; cases q
    | some u =>
      by_cases hc : Nj u = true
      · by_cases hs : S a = true
        · obtain⟨ob, ho⟩ := oG (I.eV a _ e)
          rw [ya hs e hc ho] at q;cases q;exact⟨ho, st _ e⟩
        · rw [zk (by simpa using hs), e] at q
          cases q;exact st _ e
      · rw [ni e (by simpa using hc)] at q
        cases q;exact st _ e
  len := I.len
noncomputable def pO(R:Nat->Bool)(G:Gp):Addr->Bool:=fun a=>R a&&(G a).isSome
theorem BH(I:Inv X pins σ H s)(ab:mQ X.K H G)(R:Nat->Bool):Mv X.K H G (oN s.heap (pO R G) H) (AU R G) where
 keep:=fun a o e n=>by
  refine⟨by rw [zk (by simp [pO,n])]; exact e,?_⟩;unfold AU; split
  ·rfl
  ·exact n
 nI:=fun a n=>by
  cases q:G a with
  | none=>exact absurd q n
  | some g =>
   have t:=(ab a g q).tracked;cases e:H a with
   | none=>exact absurd e t
   | some u =>
    unfold oN;rw [e];dsimp only;split
    ·split <;> simp
    ·simp
 ab:=fun a g e=>by
  unfold AU at e;split at e
  ·cases e
  ·rename_i hr;exact(ab a g e).mono vd (zk (by simp [pO,hr]))
theorem MS(I:Inv X pins σ H s)(ab:mQ X.K H G){R:Nat->Bool}:∀ {d t:D} {v:V},Fz G R d t->cV X.K H v d->cV X.K (oN s.heap (pO R G) H) v t:=by
 intro d t v h;revert v;refine Fz.rec (motive_1:=fun d t _=>∀ {v:V},cV X.K H v d->cV X.K (oN s.heap (pO R G) H) v t)
  (motive_2:=fun ds ts _=>∀ {vs:List V},br X.K H vs ds->br X.K (oN s.heap (pO R G) H) vs ts)
  (motive_3:=fun ds ts _=>(∀ {vs:List (Key×V)},qi X.K H vs ds->qi X.K (oN s.heap (pO R G) H) vs ts)/\∀ {vs:List (List Key×V)},rM X.K H vs ds->rM X.K (oN s.heap (pO R G) H) vs ts)
  ?_ ?_ ?_ ?_ ?_ ?_ ?_ ?_ ?_ h
 ·intro d v r; exact r.mono vd
 ·intro ds ss _ ih v r;cases r with
  | tup h rs=>exact .tup (vd.tup _ _ h) (ih rs)
 ·intro ds ss _ ih v r;cases r with
  | eY h rs=>exact .eY (vd.Po h) (ih rs)
 ·intro a ds ss g hr _ ih v r;cases r;obtain⟨vs,hv,rs⟩:=ab a _ g;obtain⟨ob,ho⟩:=oG (I.eV a _ hv);exact .eY (.inl ⟨_,ya (by simp [pO,hr,g]) hv rfl ho⟩) (ih rs)
 ·intro a ds ss g hr _ ih v r;cases r;rcases ab a _ g with ⟨kv,hv,rs⟩ | ⟨kv,hv,rs⟩
  ·obtain⟨ob,ho⟩:=oG (I.eV a _ hv);exact .uC (ya (by simp [pO,hr,g]) hv rfl ho) (ih.1 rs)
  ·obtain⟨ob,ho⟩:=oG (I.eV a _ hv);exact .uB (ya (by simp [pO,hr,g]) hv rfl ho) (ih.2 rs)
 ·intro vs r; cases r; exact .nil
 ·intro d s ds ss _ _ i1 i2 vs r;cases r with
  | cons r rs=>exact .cons (i1 r) (i2 rs)
 ·exact⟨fun r=>by cases r; exact .nil,fun r=>by cases r; exact .nil⟩
 ·intro k d s ds ss _ _ i1 i2;exact⟨fun r=>by cases r with | cons r rs=>exact .cons (i1 r) (i2.1 rs),fun r=>by cases r with | cons r rs=>exact .cons (i1 r) (i2.2 rs)⟩
variable {e:Expr} {te:gH} {st:Stmt} {t:fY}
theorem bx(he:gN X e te):gN X e (dc te):=by
 intro E pins s σ H τ G Q hE I h;refine gO (he E pins s σ H τ G _ hE I h) ?_;rintro u s1 ⟨v,H1,d,G1,I1,m,r,rd,R,t,hf,q⟩;exact⟨v,_,t,_,Inv.freeze I1 _,m.trans (BH I1 m.ab R),r,MS I1 m.ab hf rd,q⟩
theorem CC{i:Nat}(h1:FX X st t):FX X st (Nf i t):=by
 intro E pins s σ H τ G D hE I h;refine gO (h1 E pins s σ H τ G _ hE I h) fun f s1 z=>?_;cases f with
 | next =>
  obtain⟨jR,H',kz,G',I',m,q⟩:=z;simp only at q;split at q
  ·rename_i d hd;obtain⟨R,t,hf,q⟩:=q;obtain⟨v,hv,rv⟩:=I'.st.at' i d hd;have a1:=(I'.st.mono (H':=oN s1.heap (pO R G') H') vd).set i (MS I'.inv I'.ab hf rv);have es:jR.set i (some v)=jR:=by
    have hi:i < jR.length:=(List.getElem?_eq_some_iff.mp hv).1;have e2:=(List.getElem?_eq_some_iff.mp hv).2;rw [<-e2]; exact List.set_getElem_self hi
   rw [es] at a1;have m2:=BH I'.inv I'.ab R;exact⟨jR,_,_,_,⟨Inv.freeze I'.inv _,a1,m2.ab⟩,m.trans m2,q⟩
  ·exact q.elim
 | ret v=>exact z
 | brk=>exact z
 | cont=>exact z
end
end K2
end
section
namespace K2
open PySem PySem.Spec PyProof.Rows L2
theorem fC:dR "len" = some (.builtin "len"):=by decide +kernel
theorem Np:dR "min" = some (.builtin "min"):=by decide +kernel
theorem KD:dR "sorted" = some (.builtin "sorted"):=by decide +kernel
theorem pI:dR "list" = some (.type "list"):=by decide +kernel
theorem vp:dR "tuple" = some (.type "tuple"):=by decide +kernel
theorem RE:dR "int" = some (.type "int"):=by decide +kernel
theorem Pb:dR "bool" = some (.type "bool"):=by decide +kernel
theorem Nm:dR "str" = some (.type "str"):=by decide +kernel
section
variable {X:Cx} {a b c e o:Expr} {es:List Expr} {ta tb tc te to:gH} {t:BX} {pos p p2 apos nV:Pos} {x name:Str} {id T:String} {k:Nat} {f:Addr} {fd:ax} {ps:List Str} {sp:jk}
theorem aX(F:dP X.prog X.w X.K X.mg X.base eB k f fd ps (bH X.K sp))(hr:jT k X.A)(hg:Gl X x)(hm:X.mg x=some (.ref f))(hk:fw X.K (.ref f)=true)(hb:Binds X.K fd ps [])
  (ha:D0 X (e :: es) t) (MK:autoParam ((x == ("__debug__" : Str))=false) Ad._auto_1) (he:autoParam (bY (e :: es) X.env=(false,eval e X.env) :: bY es X.env) Ar._auto_1) (sv:autoParam ((mf pos (bY es X.env)).any (·.1)=false) Ar._auto_1) :
  gN X (.Call (.Name x p) (e :: es) [] pos) (bg sp t):=L8 F hr hg hm hk hb ha MK he sv
end
end K2
end
section
namespace L2
open PySem PySem.Spec PyProof.Rows
section
variable {X:Cx} {pins:List (Addr×Obj)} {σ:St} {H:Hp} {s:aB} {h':Heap}
theorem Inv.xV{t':Nat}{fp:List Addr}(I:Inv X pins σ H s)(hf:∀ b∈fp,oP X pins H b)(k:∀ b o,b∉fp->s.heap.get? b=some o->h'.get? b=some o):Inv X pins σ H { s with heap:=h',toks:=t' }:=by
 have nt:∀ b u,H b=some u->b∉fp:=fun b u e z=>by rw [(hf b z).1] at e; cases e
 refine I.step (g':=s.gens) (d':=s.drawn) (ch:=fp) (fun b hb=>?_) (fun b o _ _ hc e _=>k b o hc e) (fun b o _ _ hc e _=>⟨o.slots,k b o hc e⟩) (fun _ _ _ _ n=>n)
  (fun b o hc e=>⟨o,k b o hc e⟩) (fun _ _ e=>e) (fun _ _ _ e=>e) (fun _ _ e=>e) (fun m hm=>?_) (fun b u e=>?_) I.bare
 ·obtain⟨f0,f1,f2,f3,f4,f5⟩:=hf b hb;exact⟨f3,f1,f4,f5⟩
 ·obtain⟨o,es,ep,ho,r⟩:=hm;exact⟨o,es,ep,k _ _ (fun z=>(hf _ z).2.1 rfl) ho,r⟩
 ·refine(I.eV b u e).nI (fun c v hc r=>k c v ?_ r) (fun _ z=>z) (fun _ _ z=>z);rcases hc with rfl | hc
  ·exact nt _ _ e
  ·exact nt _ _ hc
theorem Inv.Ip{t':Nat}{fp:List Addr}{T:Addr}{vs:List V}(I:Inv X pins σ H s)(hf:∀ b∈fp,oP X pins H b)(k:∀ b o,b∉fp->s.heap.get? b=some o->h'.get? b=some o)(hT:s.heap.objs.size<=T)
  (new:iC X.prog X.w (upd H T (.tup vs)) h' T (.tup vs)):Inv X pins σ (upd H T (.tup vs)) { s with heap:=h',toks:=t' }:=by
 have hn:H T=none:=I.eV.fresh hT;have ht:∀ b o,s.heap.get? b=some o->b≠T:=fun b o e z=>by subst z; exact absurd (a9 e) (Nat.not_lt.mpr hT)
 have nt:∀ b u,H b=some u->b∉fp:=fun b u e z=>by rw [(hf b z).1] at e; cases e
 have ne:∀ b u,H b=some u->b≠T:=fun b u e=>eP e hn;refine I.step (g':=s.gens) (d':=s.drawn) (ch:=fp) (fun b hb=>?_) (fun b o _ _ hc e _=>k b o hc e) (fun b o _ _ hc e _=>⟨o.slots,k b o hc e⟩) (fun b o _ e n=>by rw [bZ (ht b o e)]; exact n)
  (fun b o hc e=>⟨o,k b o hc e⟩) (fun b xs e=>by rw [bZ (ne _ _ e)]; exact e) (fun b o u e=>by rw [bZ (ne _ _ e)]; exact e) (fun b ps e=>by rw [bZ (ne _ _ e)]; exact e) (fun m hm=>?_) (fun b u e=>?_) I.bare
 ·obtain⟨f0,f1,f2,f3,f4,f5⟩:=hf b hb;exact⟨f3,f1,f4,f5⟩
 ·obtain⟨o,es,ep,ho,r⟩:=hm;exact⟨o,es,ep,k _ _ (fun z=>(hf _ z).2.1 rfl) ho,r⟩
 ·by_cases hb:b=T
  ·subst hb; rw [c8] at e; cases e; exact new
  ·rw [bZ hb] at e;refine(I.eV b u e).nI (fun c v hc r=>k c v ?_ r) (fun c z=>by rw [bZ (ne _ _ z)]; exact z) (fun c xs z=>by rw [bZ (ne _ _ z)]; exact z);rcases hc with rfl | hc
   ·exact nt _ _ e
   ·exact nt _ _ hc
theorem oP.upd{b T:Addr}{o:HO}(h:oP X pins H b)(hb:b≠T):oP X pins (L2.upd H T o) b:=by
 obtain⟨f0,r⟩:=h;exact⟨by rw [bZ hb]; exact f0,r⟩
end
noncomputable def Ite(K:ao)(a:Addr):It :=
  ⟨fun i H=>∃ xs x,oZ K H a xs/\xs[i]?=some x,
   fun i H v H'=>∃ T y,v=.ref T/\H T=none/\H'=upd H T (.tup [.int i,y])/\∀ xs,oZ K H a xs->xs[i]?=some y,
   fun i H=>∃ xs,oZ K H a xs/\xs.length<=i⟩
theorem JC{P:bO}{w:World}{K:ao}{elts:List Expr}{kk:Nat}{pos:Pos}(a e it:Addr)(ot:e≠it) :
  Turn P w K (.Tuple elts kk pos) (Ite K a) [e,it] e (fun i h=>(∃ old,IsEnum h e it i old)/\h.IsListIter it a i) where
 mem:=by simp
 obj:=fun i h Q6 b hb=>by
  obtain⟨⟨old,he⟩,hit⟩:=Q6;rcases List.mem_cons.mp hb with rfl | hb
  ·exact⟨_,he,fun v z=>by cases z⟩
  ·have e:b=it:=by simpa using hb
   subst e;obtain⟨o,e,c,d⟩:=hit;exact⟨o,e,fun v z=>by rw [d] at z; cases z⟩
 keep:=(by rintro i h h' ⟨⟨old,he⟩,hit⟩ k; exact⟨⟨old,k e (by simp) _ he⟩,hit.at fun o q=>k it (by simp) o q⟩)
 item:=by
  intro X hP hw hK hc i pins s σ H E I hf st hg;obtain⟨⟨old,he⟩,hit⟩:=st;subst hP hw hK;obtain⟨xs,x,hq,hx⟩:=hg;obtain⟨bB,rv,p,hz⟩:=I.list hq;obtain⟨u,hu,ru⟩:=rv.get hx;have Xx:H s.heap.objs.size=none:=I.eV.fresh (aQ _);have heT:e≠s.heap.objs.size:=bM (a9 he);have hiT:it≠s.heap.objs.size:=by obtain⟨o,q,_⟩:=hit; exact bM (a9 q)
  refine wpAny_pyNext_enum_item he hit p.isList (x:=u) (by simpa using hu) ot fun h' ho Xj hT hsz kk=>?_;refine⟨_,rfl,?_⟩;have I1:Inv X pins σ (upd H s.heap.objs.size (.tup [.int i,x])) { s with heap:=h',toks:=s.toks+1 } :=
   I.Ip (fp:=[e,it]) hf (fun b o hb q=>kk b o (fun z=>hb (by simp [z])) (fun z=>hb (by simp [z])) q) (aQ _)
    ⟨by show 2<=bh; decide,[.int i s.toks,u],.cons ⟨_,rfl⟩ (.cons ru .nil),⟨_,hT,rfl,_,rfl⟩⟩
  refine wpAny_letOwnedTupleGo_enum (s:={ s with heap:=h',toks:=s.toks+1 }) ho fun h2 Xo DX=>?_;have f1:∀ b∈[e,it],oP X pins (upd H s.heap.objs.size (.tup [.int i,x])) b:=fun b hb=>(hf b hb).upd (by
   rcases List.mem_cons.mp hb with rfl | hb
   ·exact heT
   ·rw [List.mem_singleton.mp hb]; exact hiT)
  have I2:Inv X pins σ (upd H s.heap.objs.size (.tup [.int i,x])) { s with heap:=h2,toks:=s.toks+1 } :=
   Inv.xV (s:={ s with heap:=h',toks:=s.toks+1 }) (t':=s.toks+1) (fp:=[e,it]) I1 f1 fun b o hb q=>(DX.2 b (fun z=>hb (by simp [z]))).trans q
  refine⟨.ref s.heap.objs.size,_,I2,rfl,⟨_,x,rfl,Xx,rfl,fun ys hy=>by rw [I.qS hy hq]; exact hx⟩,⟨⟨u,?_⟩,?_⟩,fun b hb=>(f1 b hb).1⟩
  ·simpa using Xo
  ·exact Xj.at fun o q=>(DX.2 it (fD ot)).trans q
 done:=by
  intro X hP hw hK hc i pins s σ H E I hf st hg;obtain⟨⟨old,he⟩,hit⟩:=st;subst hP hw hK;obtain⟨xs,hq,hx⟩:=hg;obtain⟨bB,rv,p,hz⟩:=I.list hq;have hl:=rv.length;refine wpAny_pyNext_enum_end (I.ok.hd hc) he hit p.isList (by simp; lia) fun h' eb=>⟨rfl,?_⟩;exact I.xV (t':=s.toks) (fp:=[e,it]) hf fun b o hb q=>eb b o (fun z=>hb (by simp [z])) q
 self:=(by rintro A i s Q E ⟨⟨old,he⟩,_⟩ h; exact wpAny_pyIter_enum he h)
end L2
namespace K2
open PySem PySem.Spec PyProof.Rows L2
section
variable {X:Cx} {elts:List Expr} {kk:Nat} {Oh:Pos} {a b:Expr} {ta tb:gH} {pos p:Pos}
theorem Je{pins:List (Addr×Obj)}{σ:L2.St}{H H1:Hp}{G G1:Gp}{s1:aB}{l:Addr}{vs:List V}{ds:List D}{ok:Gp->Prop}{R:List D->(Gp->Prop)->Gp->Prop}(I1:Inv X pins σ H1 s1)(m:Mv X.K H G H1 G1)(hq:oZ X.K H1 l vs)
  (hk:∀ H2 G2,Kp H1 H2->mQ X.K H2 G2->ok G2->∃ ws,oZ X.K H2 l ws/\br X.K H2 ws ds) (q:R (mz 0 ds) ok G1) :
  wpAny (model X.prog X.w) X.A (call (.type "enumerate") [.ref l]) (fun v s2=>wpAny (model X.prog X.w) X.A (pyIter v) (KL X pins σ (.Tuple elts kk Oh) H G R) X.xe s2) X.xe s1:=by
 obtain⟨bB,rv,pl,hz⟩:=I1.list hq;refine call_enumerate_list pl.isList fun h' he hit hsz kp=>?_;refine wpAny_pyIter_enum he ?_;refine⟨_,[s1.heap.objs.size+1,s1.heap.objs.size],_,_,H1,G1,mz 0 ds,ok,rfl,I1.kept (t':=s1.toks) kp,m,JC l _ _ (Nat.succ_ne_self _),⟨⟨_,he⟩,hit⟩,fun b hb=>?_,fun i H2 G2 k ab o=>?_,q⟩
 ·have Hk:s1.heap.objs.size<=b:=by
   rcases List.mem_cons.mp hb with rfl | hb
   ·lia
   ·rw [List.mem_singleton.mp hb]; exact aQ _
  exact I1.Ht Hk (I1.eV.fresh Hk)
 ·obtain⟨ws,hw,rd⟩:=hk H2 G2 k ab o;refine⟨fun d hd=>?_,fun hl=>⟨ws,hw,by rw [rd.length,<-BK ds 0]; exact hl⟩⟩;rw [BL] at hd;cases Xp:ds[i]? with
  | none=>rw [Xp] at hd; cases hd
  | some d' =>
   rw [Xp] at hd;obtain⟨v,hv,r⟩:=rd.get Xp;refine⟨⟨ws,v,hw,hv⟩,?_⟩;rintro x H3 ⟨T,y,ex,hT,e3,hy⟩;subst ex e3;have:=hy ws hw;rw [hv] at this;cases this;have ed:D.tup [.int ((0+i:Nat):Int),d']=d:=by simpa using hd
   subst ed;refine⟨.tup c8 (.cons (by rw [mJ]; exact .int _) (.cons (r.mono (.new hT)) .nil)),.PL ab hT⟩
theorem DA:dR "enumerate" = some (.type "enumerate"):=by decide +kernel
theorem RD:dR "zip" = some (.type "zip"):=by decide +kernel
theorem L5 (hg:Gl X "enumerate") (hm:X.mg "enumerate" = none) (ha:gN X a ta) (hs:autoParam (bY [a] X.env=[(false,eval a X.env)]) Ar._auto_1):Nz X (.Tuple elts kk Oh) (.Call (.Name "enumerate" p) [a] [] pos) (MB ta):=by
 intro E pins s σ H τ G R hE I h;have hA:D0 X [a] (ak ta aH):=af ha ay hs;refine Call_ (pB I.inv hg hm DA (eL (xw hA pos hE I (R:=SY fun x G1=>u7 x G1 R) h fun vs H1 ds G1 us s1 I1 m1 r1 jK q1=>?_) hs rfl))
 match ds,q1 with
 | [x],q1 =>
  change u7 x G1 R at q1;obtain⟨w,rfl,JK⟩:=jK.one;obtain⟨u,rfl,ru⟩:=r1.one;cases JK with
  | eY hq rs=>cases ru; exact Je I1.inv m1 hq.sq (fun H2 G2 k ab _=>⟨_,(k.Po hq).sq,rs.mono k⟩) q1
  | ref p =>
   cases ru;unfold u7 at q1;dsimp only at q1;split at q1
   ·rename_i ds e;obtain⟨vs,hv,rs⟩:=I1.ab.lst e;refine Je I1.inv m1 (.of hv) (fun H2 G2 k ab o=>?_) q1;obtain⟨ws,hw,oh⟩:=ab.lst o;exact⟨ws,.of hw,oh⟩
   ·exact q1.elim
  | tup _ _=>exact q1.elim
  | uC _ _=>exact q1.elim
  | uB _ _=>exact q1.elim
  | dQ=>exact q1.elim
  | bl _=>exact q1.elim
  | int _=>exact q1.elim
  | str _=>exact q1.elim
  | exc _=>exact q1.elim
 | [],q1=>exact q1.elim
 | _ :: _ :: _,q1=>exact q1.elim
end
end K2
end
section
namespace K2
open PySem PySem.Spec PyProof.Rows L2
section
variable {X:Cx} {o i a b:Expr} {to ti ta tb:gH} {pos p:Pos}
theorem IG(hu:X.A.units+64 < cLine)(ho:gN X o to)(hi:gN X i ti)
  (ha:autoParam (∀ v,Lb (.Subscript o i pos) X.env v=(do
   let ov ← K9 [v] (eval o X.env)
   let iv ← K9 [v,ov] (eval i X.env)
   standAt pos
   K9 [v,ov,iv] (setItem ov iv v)
   release [v,ov,iv] [])) Ai._auto_1):K4 X (.Subscript o i pos) (MR to ti):=by
 intro E pins s σ H τ G w d u Q hE I r rd h;rw [ha];refine aN (kr (k8 ho hE I h fun x H1 dx G1 ov s1 I1 m1 r1 jK q1=>?_));refine aN (kr (k8 hi hE I1 q1 fun y H2 dy G2 iv s2 lM m2 r2 Ct q2=>?_));refine aN (wpAny_standAt (aN (kr ?_)));have UX:=m1.trans m2;have NO:=rd.mono (UX.kp I.ab);have Bk:=I.st.mono (UX.kp I.ab);have Z7:=jK.mono (m2.kp I1.ab);unfold Em at q2;split at q2
 ·rename_i l;cases Z7;cases r1;split at q2
  ·rename_i xs hg;obtain⟨vs,hv,rs⟩:=lM.ab.lst hg;split at q2
   ·rename_i k;cases Ct;split at q2
    ·rename_i j hj;have m3:Mv X.K H2 G2 (upd H2 l (.lst (vs.set j w))) (cH G2 l (.lst (xs.set j d))):=.putL lM.ab hg hv (rs.set NO j);refine gO (set_list pins s2 σ H2 (.ref l) (.int k) w _ _ _ (fun H3=>H3=upd H2 l (.lst (vs.set j w))) lM.inv rfl r2 r ⟨l,vs,k,j,rfl,rfl,hv,?_,rfl⟩) ?_
     ·rw [rs.length]; exact hj
     ·rintro _ s3 ⟨H3,I3,e3⟩;subst e3;exact wpAny_release ⟨σ,_,τ,_,⟨I3,Bk.mono (m3.kp lM.ab),m3.ab⟩,UX.trans m3,q2⟩
    ·exact q2.elim
   ·exact q2.elim
  ·rename_i bu hg;obtain⟨hk,hz,q⟩:=q2;obtain⟨H3,H4,I3,dp,m3⟩:=M9 lM.inv lM.ab hg hk hz Ct NO;exact Kw (by lia) I3 dp r2 r fun s4 I4=>wpAny_release ⟨σ,H4,τ,_,⟨I4,Bk.mono (m3.kp lM.ab),m3.ab⟩,UX.trans m3,q⟩
  ·exact q2.elim
 ·exact q2.elim
end
end K2
end
section
namespace L2
open PySem PySem.Spec PyProof.Rows
theorem uc{X:Cx}{pins:List (Addr×Obj)}{σ:St}{H:Hp}{s:aB}{l b:Addr}{xs:List V}(I:Inv X pins σ H s)(hq:oZ X.K H l xs)(hf:oP X pins H b):l≠b:=by
 rintro rfl;obtain⟨f0,f1,f2,f3,f4,f5⟩:=hf;rcases hq with (h | ⟨o,h⟩) | ⟨o,bB,n,h,_⟩
 ·rw [f0] at h; cases h
 ·rw [f0] at h; cases h
 ·have hb:=I.ok.mod.RX _ _ h;rcases f3 with f3 | f3
  ·exact I.ok.JX _ _ hb f3
  ·exact absurd (a9 (I.ok.bs _ _ hb).1) (Nat.not_lt.mpr f3)
noncomputable def Itz(K:ao)(a b:Addr):It :=
  ⟨fun i H=>∃ xs x ys y,oZ K H a xs/\xs[i]?=some x/\oZ K H b ys/\ys[i]?=some y,
   fun i H v H'=>∃ T x y,v=.ref T/\H T=none/\H'=upd H T (.tup [x,y])/\(∀ xs,oZ K H a xs->xs[i]?=some x)/\∀ ys,oZ K H b ys->ys[i]?=some y,
   fun i H=>∃ xs ys,oZ K H a xs/\oZ K H b ys/\(xs.length<=i\/ys.length<=i)⟩
structure Uv(z TI TO i1 i2 a b:Addr)(i:Nat)(h:Heap):Prop where
 hz:IsZip h z TI TO .none
 hI:IsPair h TI (.ref i1) (.ref i2)
 hO:∃ x y,IsPair h TO x y
 h1:h.IsListIter i1 a i
 h2:h.IsListIter i2 b i
theorem Ls{P:bO}{w:World}{K:ao}{elts:List Expr}{kk:Nat}{pos:Pos}(a b z TI TO i1 i2:Addr)(nd:[z,TI,TO,i1,i2].Nodup) :
  Turn P w K (.Tuple elts kk pos) (Itz K a b) [z,TI,TO,i1,i2] z (Uv z TI TO i1 i2 a b) where
 mem:=by simp
 obj:=fun i h st c hc=>by
  simp only [e7,dI,or_false] at hc;rcases hc with rfl | rfl | rfl | rfl | rfl
  ·exact⟨_,st.hz,fun v q=>by cases q⟩
  ·exact⟨_,st.hI,fun v q=>by cases q⟩
  ·obtain⟨x,y,h⟩:=st.hO; exact⟨_,h,fun v q=>by cases q⟩
  ·obtain⟨o,e,_,d⟩:=st.h1; exact⟨o,e,fun v q=>by rw [d] at q; cases q⟩
  ·obtain⟨o,e,_,d⟩:=st.h2; exact⟨o,e,fun v q=>by rw [d] at q; cases q⟩
 keep:=fun i h h' st k=>⟨k _ (by simp) _ st.hz,k _ (by simp) _ st.hI,let ⟨x,y,q⟩:=st.hO; ⟨x,y,k _ (by simp) _ q⟩,st.h1.at fun o q=>k _ (by simp) o q,st.h2.at fun o q=>k _ (by simp) o q⟩
 item:=by
  intro X hP hw hK hc i pins s σ H E I hf st hg;subst hP hw hK;obtain⟨xs,x,ys,y,PI,hx,PH,hy⟩:=hg;obtain⟨Mt,RP,p1,hz1⟩:=I.list PI;obtain⟨sr,JL,p2,Tv⟩:=I.list PH;obtain⟨u1,hu1,SH⟩:=RP.get hx;obtain⟨u2,hu2,Qk⟩:=JL.get hy;obtain⟨xo,yo,hO⟩:=st.hO;have ap:∀ c∈[z,TI,TO,i1,i2],a≠c/\b≠c:=fun c hc=>⟨uc I PI (hf c hc),uc I PH (hf c hc)⟩;simp only [iD,e7,dI,or_false,not_or] at nd;obtain⟨⟨n1,n2,n3,n4⟩,⟨n5,n6,n7⟩,⟨n8,n9⟩,Wx,_⟩:=nd;have Dz:ZipApart z TI TO i1 i2 a b:=⟨fD n1,fD n2,fD n3,fD n4,n5,n6,n7,n8,n9,Wx,(ap z (by simp)).1,(ap TO (by simp)).1,(ap i1 (by simp)).1,(ap i2 (by simp)).1,(ap z (by simp)).2,(ap TO (by simp)).2,(ap i1 (by simp)).2,(ap i2 (by simp)).2⟩;have Xx:H s.heap.objs.size=none:=I.eV.fresh (aQ _);have inH:∀ c∈[z,TI,TO,i1,i2],c≠s.heap.objs.size:=fun c hc=>by
   simp only [e7,dI,or_false] at hc;rcases hc with rfl | rfl | rfl | rfl | rfl
   ·exact bM (a9 st.hz)
   ·exact bM (a9 st.hI)
   ·exact bM (a9 hO)
   ·obtain⟨o,e,_⟩:=st.h1; exact bM (a9 e)
   ·obtain⟨o,e,_⟩:=st.h2; exact bM (a9 e)
  refine wpAny_pyNext_zip_item Dz st.hz st.hI hO st.h1 st.h2 p1.isList p2.isList (x:=u1) (y:=u2) (by simpa using hu1) (by simpa using hu2) fun h' a1 a2 a3 a4 a5 a6 a7=>?_;refine⟨_,rfl,?_⟩;have k1:∀ c o,c∉[z,TI,TO,i1,i2]->s.heap.get? c=some o->h'.get? c=some o:=fun c o hc q =>
   a7 c o (fun e=>hc (by simp [e])) (fun e=>hc (by simp [e])) (fun e=>hc (by simp [e])) (fun e=>hc (by simp [e])) q
  have I1:Inv X pins σ (upd H s.heap.objs.size (.tup [x,y])) { s with heap:=h' } :=
   I.Ip (t':=s.toks) (fp:=[z,TI,TO,i1,i2]) hf k1 (aQ _) ⟨by show 2<=bh; decide,[u1,u2],.cons SH (.cons Qk .nil),⟨_,a5,rfl,_,rfl⟩⟩
  refine wpAny_letOwnedTupleGo_zip (s:={ s with heap:=h' }) a1 fun h2 Tv DX=>?_;have f1:∀ c∈[z,TI,TO,i1,i2],oP X pins (upd H s.heap.objs.size (.tup [x,y])) c:=fun c hc=>(hf c hc).upd (inH c hc);have I2:Inv X pins σ (upd H s.heap.objs.size (.tup [x,y])) { s with heap:=h2 } :=
   Inv.xV (s:={ s with heap:=h' }) (t':=s.toks) (fp:=[z,TI,TO,i1,i2]) I1 f1 fun c o hc q=>(DX.2 c (fun e=>hc (by simp [e]))).trans q
  have hI':IsPair h' TI (.ref i1) (.ref i2):=a7 TI _ (fD n1) n5 n6 n7 st.hI;refine⟨.ref s.heap.objs.size,_,I2,rfl,⟨_,x,y,rfl,Xx,rfl,fun zs hs=>by rw [I.qS hs PI]; exact hx,fun zs hs=>by rw [I.qS hs PH]; exact hy⟩,⟨Tv,?_,⟨u1,u2,?_⟩,?_,?_⟩,fun c hc=>(f1 c hc).1⟩
  ·exact(DX.2 TI (fD n1)).trans hI'
  ·exact(DX.2 TO (fD n2)).trans a2
  ·exact a3.at fun o q=>(DX.2 i1 (fD n3)).trans q
  ·exact a4.at fun o q=>(DX.2 i2 (fD n4)).trans q
 done:=by
  intro X hP hw hK hc i pins s σ H E I hf st hg;subst hP hw hK;obtain⟨xs,ys,PI,PH,hx⟩:=hg;obtain⟨Mt,RP,p1,hz1⟩:=I.list PI;obtain⟨sr,JL,p2,Tv⟩:=I.list PH;have Ki:=RP.length;have Kh:=JL.length;obtain⟨xo,yo,hO⟩:=st.hO;have ap:∀ c∈[z,TI,TO,i1,i2],a≠c/\b≠c:=fun c hc=>⟨uc I PI (hf c hc),uc I PH (hf c hc)⟩;simp only [iD,e7,dI,or_false,not_or] at nd;obtain⟨⟨n1,n2,n3,n4⟩,⟨n5,n6,n7⟩,⟨n8,n9⟩,Wx,_⟩:=nd;have Dz:ZipApart z TI TO i1 i2 a b:=⟨fD n1,fD n2,fD n3,fD n4,n5,n6,n7,n8,n9,Wx,(ap z (by simp)).1,(ap TO (by simp)).1,(ap i1 (by simp)).1,(ap i2 (by simp)).1,(ap z (by simp)).2,(ap TO (by simp)).2,(ap i1 (by simp)).2,(ap i2 (by simp)).2⟩;refine wpAny_pyNext_zip_end (I.ok.hd hc) Dz st.hz st.hI hO st.h1 st.h2 p1.isList p2.isList (by
   rcases hx with hx | hx
   ·left; simp; lia
   ·right; simp; lia) fun h' k1=>⟨rfl,?_⟩
  exact I.xV (t':=s.toks) (fp:=[z,TI,TO,i1,i2]) hf fun c o hc q=>k1 c o (fun e=>hc (by simp [e])) (fun e=>hc (by simp [e])) (fun e=>hc (by simp [e])) (fun e=>hc (by simp [e])) q
 self:=fun A i s Q E st h=>wpAny_pyIter_zip st.hz h
end L2
namespace K2
open PySem PySem.Spec PyProof.Rows L2
section
variable {X:Cx} {elts:List Expr} {kk:Nat} {Oh:Pos} {a b:Expr} {ta tb:gH} {pos p:Pos}
theorem ES{pins:List (Addr×Obj)}{s:aB}{σ:L2.St}{H:Hp}{G:Gp}{x:V}{d:D}{v:Value}{ds:List D}{ok:Gp->Prop}(I:Inv X pins σ H s)(ab:mQ X.K H G)(rx:RelV x v)(rd:cV X.K H x d)(hi:yY d G=some (ds,ok)) :
  ∃ l vs,v=.ref l/\oZ X.K H l vs/\br X.K H vs ds/\∀ H2 G2,Kp H H2->mQ X.K H2 G2->ok G2->∃ ws,oZ X.K H2 l ws/\br X.K H2 ws ds:=by
 cases rd with
 | eY hq rs=>cases hi; cases rx; exact⟨_,_,rfl,hq.sq,rs,fun H2 G2 k ab _=>⟨_,(k.Po hq).sq,rs.mono k⟩⟩
 | ref l =>
  unfold yY at hi;dsimp only at hi;cases hg:G l with
  | none=>rw [hg] at hi; cases hi
  | some gg =>
   rw [hg] at hi;cases gg with
   | lst zs =>
    cases hi;cases rx;obtain⟨vs,hv,rs⟩:=ab.lst hg;refine⟨_,_,rfl,.of hv,rs,fun H2 G2 k ab o=>?_⟩;obtain⟨ws,hw,oh⟩:=ab.lst o;exact⟨ws,.of hw,oh⟩
   | ins _ _=>cases hi
   | mH _=>cases hi
 | _=>cases hi
theorem OD (hg:Gl X "zip") (hm:X.mg "zip" = none) (ha:gN X a ta) (hb:gN X b tb) (hs:autoParam (bY [a,b] X.env=[(false,eval a X.env),(false,eval b X.env)]) Ar._auto_1) (DX:autoParam (bY [b] X.env=[(false,eval b X.env)]) Ar._auto_1) :
  Nz X (.Tuple elts kk Oh) (.Call (.Name "zip" p) [a,b] [] pos) (QX ta tb):=by
 intro E pins s σ H τ G R hE I h;have hA:D0 X [a,b] (ak ta (ak tb aH)):=af ha (af hb ay DX) (by rw [hs,DX]);refine Call_ (pB I.inv hg hm RD (eL (xw hA pos hE I (R:=V3 fun x y G1=>zg x y G1 R) h fun vs H1 ds G1 us s1 I1 m1 r1 jK q1=>?_) (by rw [hs,DX]) (by rw [DX]; rfl)))
 match ds,q1 with
 | [x,y],q1 =>
  change zg x y G1 R at q1;obtain⟨w1,w2,rfl,JK,SG⟩:=jK.two;obtain⟨u1,u2,rfl,SH,Qk⟩:=vals2 r1;unfold zg at q1;split at q1
  ·rename_i xs k1 ys k2 e1 e2;obtain⟨l1,v1,rfl,PI,Yr,Z2⟩:=ES I1.inv I1.ab SH JK e1;obtain⟨l2,v2,rfl,PH,Pr,NM⟩:=ES I1.inv I1.ab Qk SG e2;obtain⟨Mt,RP,pl1,_⟩:=I1.inv.list PI;obtain⟨sr,JL,pl2,_⟩:=I1.inv.list PH;refine call_zip_2 pl1.isList pl2.isList fun h' z1 z2 z3 z4 z5 z6 z7=>?_;refine wpAny_pyIter_zip z1 ?_;refine⟨_,[s1.heap.objs.size+4,s1.heap.objs.size+2,s1.heap.objs.size+3,s1.heap.objs.size,s1.heap.objs.size+1],_,_,H1,G1,sk xs ys,_,rfl,I1.inv.kept (t':=s1.toks) z7,m1,
    Ls l1 l2 _ _ _ _ _ (by simp),⟨z1,z2,⟨_,_,z3⟩,z4,z5⟩,fun c hc=>?_,fun i H2 G2 k ab o=>?_,q1⟩
   ·have PO:s1.heap.objs.size<=c:=by
     simp only [e7,dI,or_false] at hc;rcases hc with rfl | rfl | rfl | rfl | rfl
     ·exact tW _ _
     ·exact tW _ _
     ·exact tW _ _
     ·exact aQ _
     ·exact tW _ _
    exact I1.inv.Ht PO (I1.inv.eV.fresh PO)
   ·obtain⟨VE,WV,jK⟩:=Z2 H2 G2 k ab o.1;obtain⟨VD,UZ,Ct⟩:=NM H2 G2 k ab o.2;refine⟨fun d hd=>?_,fun hl=>⟨VE,VD,WV,UZ,?_⟩⟩
    ·rw [D7] at hd;cases hx:xs[i]? with
     | none=>rw [hx] at hd; cases hd
     | some x' =>
      cases hy:ys[i]? with
      | none=>rw [hx,hy] at hd; cases hd
      | some y' =>
       rw [hx,hy] at hd;have ed:D.tup [x',y']=d:=by simpa using hd
       subst ed;obtain⟨vx,YR,rx⟩:=jK.get hx;obtain⟨vy,YQ,ry⟩:=Ct.get hy;refine⟨⟨VE,vx,VD,vy,WV,YR,UZ,YQ⟩,?_⟩;rintro v H3 ⟨T,px,py,ex,hT,e3,hx3,hy3⟩;subst ex e3;have q1:=hx3 VE WV;have q2:=hy3 VD UZ;rw [YR] at q1;rw [YQ] at q2;cases q1; cases q2;exact⟨.tup c8 (.cons (rx.mono (.new hT)) (.cons (ry.mono (.new hT)) .nil)),.PL ab hT⟩
    ·rw [D6] at hl;rw [jK.length,Ct.length];lia
  ·exact q1.elim
 | [],q1=>exact q1.elim
 | [_],q1=>exact q1.elim
 | _ :: _ :: _ :: _,q1=>exact q1.elim
end
end K2
end
section
namespace K2
open PySem PySem.W PyProof.Rows
noncomputable def iJ{α:Type}(lt:Nat->Nat->Bool):KasT α->α
 | .ret a=>a
 | .ask i j k=>iJ lt (k (lt i j))
theorem l0{α β:Type}(lt:Nat->Nat->Bool)(f:α->KasT β):∀ t:KasT α,iJ lt (t.bind f)=iJ lt (f (iJ lt t))
 | .ret _=>rfl
 | .ask i j k=>l0 lt f (k (lt i j))
noncomputable abbrev gA(p:Array Nat)(k:Nat):Nat:=p.getD k 0
theorem BF(p:Array Nat)(k:Nat):gA p k=(p[k]?).getD 0:=by
 unfold gA; rw [Array.getD_eq_getD_getElem?]
structure KJ(lt:Nat->Nat->Bool):Prop where
 asymm:∀ i j,lt i j=true->lt j i=false
 trans:∀ i j k,lt j i=false->lt k j=false->lt k i=false
theorem KJ.refl{lt:Nat->Nat->Bool}(w:KJ lt)(i:Nat):lt i i=false:=by
 cases h:lt i i with
 | false=>rfl
 | true=>rw [w.asymm _ _ h] at h; cases h
noncomputable def Up(lt:Nat->Nat->Bool)(p:Array Nat)(m:Nat):Prop:=∀ i j,i<=j->j < m->lt (gA p j) (gA p i)=false
noncomputable def Dn(lt:Nat->Nat->Bool)(p:Array Nat)(m:Nat):Prop:=∀ i j,i<=j->j < m->lt (gA p i) (gA p j)=false
section
variable {lt:Nat->Nat->Bool}
theorem Up.more(w:KJ lt){p:Array Nat}{n m:Nat}(h1:1<=n)(h:Up lt p n)(hs:∀ k,n<=k->k < m->lt (gA p k) (gA p (k - 1))=false):Up lt p m:=by
 intro i j Kj hjm;induction j with
 | zero =>
  have:i=0:=by lia
  subst this; exact w.refl _
 | succ j ih =>
  by_cases hj:j+1 < n
  ·exact h i (j+1) Kj hj
  ·by_cases e:i=j+1
   ·subst e; exact w.refl _
   ·have h1:=ih (by lia) (by lia);have h2:=hs (j+1) (by lia) hjm;exact w.trans _ _ _ h1 h2
theorem IA(p:Array Nat):∀ (f n:Nat),n<=iJ lt (qm p f n)/\iJ lt (qm p f n)<=n+f/\(∀ k,n<=k->k < iJ lt (qm p f n)->lt (gA p k) (gA p (k - 1))=false) /\
  (iJ lt (qm p f n) < n+f->lt (gA p (iJ lt (qm p f n))) (gA p (iJ lt (qm p f n) - 1))=true):=by
 intro f;induction f with
 | zero=>intro n; exact⟨aQ _,aQ _,fun k h1 h2=>absurd (show k < n from h2) (by lia),fun h=>absurd (show n < n+0 from h) (by lia)⟩
 | succ f ih =>
  intro n;have e:iJ lt (qm p (f+1) n)=if lt (gA p n) (gA p (n - 1))=true then n else iJ lt (qm p f (n+1)):=by
   show iJ lt (if lt (gA p n) (gA p (n - 1))=true then vO n else qm p f (n+1))=_;split <;> rfl
  rw [e];by_cases c:lt (gA p n) (gA p (n - 1))=true
  ·rw [if_pos c];exact⟨aQ _,by lia,fun k h1 h2=>absurd h2 (by lia),fun _=>c⟩
  ·rw [if_neg c];obtain⟨h1,h2,h3,h4⟩:=ih (n+1);refine⟨by lia,by lia,fun k k1 k2=>?_,fun h=>h4 (by lia)⟩;by_cases e:k=n
   ·subst e; simpa using c
   ·exact h3 k (by lia) k2
theorem iF{p:Array Nat}{i j:Nat}(hj:j<=p.size)(k:Nat):gA (gQ p i j) k=if i<=k/\k < j then gA p (i+j - 1 - k) else gA p k:=by
 rw [BF,gQ,getElem?_mirror_all hj];split <;> rw [BF]
theorem mi(p:Array Nat)(i j:Nat):(gQ p i j).size=p.size:=mirror_size _ _ _ _
theorem j6(p:Array Nat)(i j:Nat):(gQ p i j).Perm p:=mirror_perm _ _ _ _
theorem Dn.rev{p:Array Nat}{a n:Nat}(w:KJ lt)(hn:n<=p.size)(h:Dn lt p n)(he:∀ k,a<=k->k < n->lt (gA p (n - 1)) (gA p k)=false):Dn lt (gQ p a n) n:=by
 intro i j Kj TM;rw [iF hn,iF hn];by_cases hi:a<=i
 ·rw [if_pos ⟨hi,by lia⟩,if_pos ⟨by lia,TM⟩];exact w.trans _ _ _ (he (a+n - 1 - j) (by lia) (by lia)) (h (a+n - 1 - i) (n - 1) (by lia) (by lia))
 ·rw [if_neg (by lia)];by_cases hj:a<=j
  ·rw [if_pos ⟨hj,TM⟩];exact h i (a+n - 1 - j) (by lia) (by lia)
  ·rw [if_neg (by lia)];exact h i j Kj TM
noncomputable def ZK(lt:Nat->Nat->Bool)(p:Array Nat)(n q:Nat):Prop:=q+1<=n/\∀ k,n - (q+1)<=k->k < n->lt (gA p (n - 1)) (gA p k)=false
theorem Dn.one(w:KJ lt){p:Array Nat}{n:Nat}(h1:1<=n)(h:Dn lt p n)(hc:lt (gA p (n - 1)) (gA p n)=false):Dn lt p (n+1):=by
 intro i j Kj hj;by_cases e:j=n
 ·subst e;by_cases e2:i=j
  ·subst e2; exact w.refl _
  ·exact w.trans _ _ _ hc (h i (j - 1) (by lia) (by lia))
 ·exact h i j Kj (by lia)
theorem LP(w:KJ lt):∀ (f:Nat) (p:Array Nat) (n q:Nat),n+f<=p.size->Dn lt p n->ZK lt p n q->∃ p' n' q',iJ lt (lz f p n q)=(p',n',q')/\p'.Perm p/\p'.size=p.size/\n<=n'/\n'<=n+f/\Dn lt p' n'/\ZK lt p' n' q':=by
 intro f;induction f with
 | zero=>intro p n q _ hd he; exact⟨p,n,q,rfl,mG _,rfl,aQ _,aQ _,hd,he⟩
 | succ f ih =>
  intro p n q hs hd he;have h1:1<=n:=by have:=he.1; lia
  have e:iJ lt (lz (f+1) p n q)=if lt (gA p n) (gA p (n - 1))=true then (if q > 0 then iJ lt (lz f (gQ p (n - (q+1)) n) (n+1) 0) else iJ lt (lz f p (n+1) 0))
    else if lt (gA p (n - 1)) (gA p n)=true then (p,n,q) else iJ lt (lz f p (n+1) (q+1)):=by
   show iJ lt (if lt (gA p n) (gA p (n - 1))=true then (if q > 0 then lz f (gQ p (n - (q+1)) n) (n+1) 0 else lz f p (n+1) 0) else .ask (gA p (n - 1)) (gA p n) fun d=>if d=true then .ret (p,n,q) else lz f p (n+1) (q+1))=_;split
   ·split <;> rfl
   ·show iJ lt (if lt (gA p (n - 1)) (gA p n)=true then vO (p,n,q) else lz f p (n+1) (q+1))=_;split <;> rfl
  rw [e];by_cases c:lt (gA p n) (gA p (n - 1))=true
  ·rw [if_pos c];have ca:=w.asymm _ _ c;by_cases hq:q > 0
   ·rw [if_pos hq];have d1:Dn lt (gQ p (n - (q+1)) n) n:=hd.rev w (by lia) he.2;have en:gA (gQ p (n - (q+1)) n) n=gA p n:=by rw [iF (by lia),if_neg (by lia)]
    have ca':lt (gA (gQ p (n - (q+1)) n) (n - 1)) (gA (gQ p (n - (q+1)) n) n)=false:=by
     rw [en,iF (by lia)];split
     ·-- an item of UH UI is above p n
      exact w.trans _ _ _ ca (hd _ (n - 1) (by lia) (by lia))
     ·exact ca
    obtain⟨p',n',q',z,h2,h3,h4,h5,h6,h7⟩:=ih (gQ p (n - (q+1)) n) (n+1) 0 (by rw [mi]; lia) (d1.one w h1 ca') ⟨by lia,fun k k1 k2=>by
     have:k=n:=by lia
     subst this; exact w.refl _⟩
    exact⟨p',n',q',z,h2.trans (j6 _ _ _),h3.trans (mi _ _ _),by lia,by lia,h6,h7⟩
   ·rw [if_neg hq];obtain⟨p',n',q',z,h2,h3,h4,h5,h6,h7⟩:=ih p (n+1) 0 (by lia) (hd.one w h1 ca) ⟨by lia,fun k k1 k2=>by
     have:k=n:=by lia
     subst this; exact w.refl _⟩
    exact⟨p',n',q',z,h2,h3,by lia,by lia,h6,h7⟩
  ·rw [if_neg c];have c':lt (gA p n) (gA p (n - 1))=false:=by simpa using c
   by_cases d:lt (gA p (n - 1)) (gA p n)=true
   ·rw [if_pos d];exact⟨p,n,q,rfl,mG _,rfl,aQ _,by lia,hd,he⟩
   ·rw [if_neg d];have d':lt (gA p (n - 1)) (gA p n)=false:=by simpa using d
    obtain⟨p',n',q',z,h2,h3,h4,h5,h6,h7⟩:=ih p (n+1) (q+1) (by lia) (hd.one w h1 d') ⟨by have:=he.1; lia,fun k k1 k2=>by
     rw [Nat.add_sub_cancel];by_cases e:k=n
     ·subst e; exact w.refl _
     ·exact w.trans _ _ _ (he.2 k (by lia) (by lia)) c'⟩
    exact⟨p',n',q',z,h2,h3,by lia,by lia,h6,h7⟩
theorem Dn.up{p:Array Nat}{n:Nat}(hn:n<=p.size)(h:Dn lt p n):Up lt (gQ p 0 n) n:=by
 intro i j Kj TM;rw [iF hn,iF hn,if_pos ⟨by lia,TM⟩,if_pos ⟨by lia,by lia⟩];exact h _ _ (by lia) (by lia)
theorem Ep(w:KJ lt){p:Array Nat}{n nrem:Nat}(h1:1<=n)(hn:n<=nrem)(hs:nrem<=p.size)(h:Dn lt p n):∃ p' m,iJ lt (K8 n nrem p)=(m,p')/\p'.Perm p/\p'.size=p.size/\n<=m/\m<=nrem/\Up lt p' m:=by
 obtain⟨a1,a2,a3,_⟩:=IA (lt:=lt) (gQ p 0 n) (nrem - n) n;refine⟨gQ p 0 n,iJ lt (qm (gQ p 0 n) (nrem - n) n),by rw [K8,l0]; rfl,j6 _ _ _,mi _ _ _,a1,by lia,?_⟩;exact(h.up (by lia)).more w h1 a3
theorem uv(w:KJ lt){p:Array Nat}{n nrem:Nat}(h1:1<=n)(hn:n < nrem)(hs:nrem<=p.size)(h:Dn lt p n)(hc:lt (gA p (n - 1)) (gA p n)=false) :
  ∃ p' m,iJ lt (ym n nrem p)=(m,p')/\p'.Perm p/\p'.size=p.size/\n<=m/\m<=nrem/\Up lt p' m:=by
 obtain⟨p1,n1,q1,z,z2,z3,z4,z5,z6,z7⟩:=LP w (nrem - (n+1)) p (n+1) 0 (by lia) (h.one w h1 hc) ⟨by lia,fun k k1 k2=>by
  have:k=n:=by lia
  subst this; exact w.refl _⟩
 rw [ym,l0,z];show ∃ p' m,iJ lt (if q1 > 0 then K8 n1 nrem (gQ p1 (n1 - (q1+1)) n1) else K8 n1 nrem p1)=(m,p')/\_;by_cases hq:q1 > 0
 ·rw [if_pos hq];obtain⟨p',m,y1,y2,y3,y4,y5,y6⟩:=Ep (nrem:=nrem) w (p:=gQ p1 (n1 - (q1+1)) n1) (by lia) (by lia) (by rw [mi]; lia) (z6.rev w (by lia) z7.2);exact⟨p',m,y1,(y2.trans (j6 _ _ _)).trans z2,(y3.trans (mi _ _ _)).trans z3,by lia,y5,y6⟩
 ·rw [if_neg hq];obtain⟨p',m,y1,y2,y3,y4,y5,y6⟩:=Ep (nrem:=nrem) w (p:=p1) (by lia) (by lia) (by lia) z6;exact⟨p',m,y1,y2.trans z2,y3.trans z3,by lia,y5,y6⟩
theorem JN(w:KJ lt){p:Array Nat}{nrem:Nat}(h1:1<=nrem)(hs:nrem<=p.size):∃ p' m,iJ lt (kas_count nrem p)=(m,p')/\p'.Perm p/\p'.size=p.size/\1<=m/\m<=nrem/\Up lt p' m:=by
 obtain⟨a1,a2,a3,a4⟩:=IA (lt:=lt) p (nrem - 1) 1;rw [kas_count,l0];generalize iJ lt (qm p (nrem - 1) 1)=n at a1 a2 a3 a4;have u1:Up lt p 1:=fun i j Kj hj=>by
  have:i=j:=by lia
  subst this; exact w.refl _
 have up:Up lt p n:=u1.more w (aQ _) a3;by_cases e:n=nrem
 ·subst e;rw [if_pos (by simp)];exact⟨p,n,rfl,mG _,rfl,a1,aQ _,up⟩
 ·rw [if_neg (by simpa using e)];have hb:=a4 (by lia);by_cases h2:n > 1
  ·rw [if_pos h2];show ∃ p' m,iJ lt (if lt (gA p 0) (gA p (n - 1))=true then vO (n,p) else ym n nrem (gQ p 0 n))=(m,p')/\_;by_cases c:lt (gA p 0) (gA p (n - 1))=true
   ·rw [if_pos c];exact⟨p,n,rfl,mG _,rfl,a1,by lia,up⟩
   ·rw [if_neg c];have c':lt (gA p 0) (gA p (n - 1))=false:=by simpa using c
    have all:∀ i j,i < n->j < n->lt (gA p i) (gA p j)=false:=fun i j hi hj =>
     w.trans _ _ _ (w.trans _ _ _ (up j (n - 1) (by lia) (by lia)) c') (up 0 i (by lia) hi)
    have d1:Dn lt (gQ p 0 n) n:=fun i j Kj hj=>by
     rw [iF (by lia),iF (by lia),if_pos ⟨by lia,by lia⟩,if_pos ⟨by lia,hj⟩];exact all _ _ (by lia) (by lia)
    have hl:lt (gA (gQ p 0 n) (n - 1)) (gA (gQ p 0 n) n)=false:=by
     rw [iF (by lia),iF (by lia),if_pos ⟨by lia,by lia⟩,if_neg (by lia)];exact w.trans _ _ _ (w.asymm _ _ hb) (all _ _ (by lia) (by lia))
    obtain⟨p',m,y1,y2,y3,y4,y5,y6⟩:=uv (nrem:=nrem) w (p:=gQ p 0 n) a1 (by lia) (by rw [mi]; lia) d1 hl;exact⟨p',m,y1,y2.trans (j6 _ _ _),y3.trans (mi _ _ _),by lia,y5,y6⟩
  ·rw [if_neg h2];have e1:n=1:=by lia
   subst e1;have d1:Dn lt p 1:=fun i j Kj hj=>by
    have:i=j:=by lia
    subst this; exact w.refl _
   obtain⟨p',m,y1,y2,y3,y4,y5,y6⟩:=uv (nrem:=nrem) w (p:=p) (aQ _) (by lia) hs d1 (w.asymm _ _ hb);exact⟨p',m,y1,y2,y3,by lia,y5,y6⟩
theorem JM(w:KJ lt){p:Array Nat}{k:Nat}:∀ (f l r:Nat),l<=r->r<=k->r - l<=f->Up lt p k->(∀ i,i < l->lt (gA p k) (gA p i)=false)->(∀ i,r<=i->i < k->lt (gA p k) (gA p i)=true) ->
  ∃ m,iJ lt (jY p k f l r)=m/\m<=k/\(∀ i,i < m->lt (gA p k) (gA p i)=false)/\(∀ i,m<=i->i < k->lt (gA p k) (gA p i)=true):=by
 intro f;induction f with
 | zero =>
  intro l r YZ U0 hf up h1 h2;have:l=r:=by lia
  subst this;exact⟨l,rfl,U0,h1,h2⟩
 | succ f ih =>
  intro l r YZ U0 hf up h1 h2;have e:iJ lt (jY p k (f+1) l r)=if l>=r then l else if lt (gA p k) (gA p ((l+r) / 2))=true then iJ lt (jY p k f l ((l+r) / 2)) else iJ lt (jY p k f ((l+r) / 2+1) r):=by
   show iJ lt (if l>=r then vO l else .ask (gA p k) (gA p ((l+r) / 2)) fun c=>if c=true then jY p k f l ((l+r) / 2) else jY p k f ((l+r) / 2+1) r)=_;split
   ·rfl
   ·show iJ lt (if lt (gA p k) (gA p ((l+r) / 2))=true then jY p k f l ((l+r) / 2) else jY p k f ((l+r) / 2+1) r)=_;split <;> rfl
  rw [e];by_cases c:l>=r
  ·rw [if_pos c];have:l=r:=by lia
   subst this;exact⟨l,rfl,U0,h1,h2⟩
  ·rw [if_neg c];by_cases d:lt (gA p k) (gA p ((l+r) / 2))=true
   ·rw [if_pos d];refine ih l ((l+r) / 2) (by lia) (by lia) (by lia) up h1 fun i i1 i2=>?_;cases q:lt (gA p k) (gA p i) with
    | true=>rfl
    | false=>rw [w.trans _ _ _ (up ((l+r) / 2) i i1 i2) q] at d; cases d
   ·rw [if_neg d];refine ih ((l+r) / 2+1) r (by lia) U0 (by lia) up (fun i hi=>?_) h2;exact w.trans _ _ _ (up i ((l+r) / 2) (by lia) (by lia)) (by simpa using d)
theorem BG{p:Array Nat}{src d:Nat}(hs:src < p.size)(hd:d<=src)(k:Nat):gA (bubble p src d) k=if k=src - d then gA p src else if src - d < k/\k<=src then gA p (k - 1) else gA p k:=by
 rw [BF,getElem?_bubble hs d hd,BF p src,BF p (k - 1),BF p k];by_cases h1:k=src - d
 ·rw [if_pos h1,if_pos h1]
 ·rw [if_neg h1,if_neg h1];by_cases h2:src - d < k/\k<=src
  ·rw [if_pos h2,if_pos h2]
  ·rw [if_neg h2,if_neg h2]
theorem Ot(w:KJ lt):∀ (f:Nat) (p:Array Nat) (k:Nat),k+f<=p.size->Up lt p k->∃ p',iJ lt (kas_bin f p k)=p'/\p'.Perm p/\p'.size=p.size/\Up lt p' (k+f):=by
 intro f;induction f with
 | zero=>intro p k _ up; exact⟨p,rfl,mG _,rfl,up⟩
 | succ f ih =>
  intro p k hs up;obtain⟨m,e,hm,h1,h2⟩:=JM w k 0 k (cI _) (aQ _) (aQ _) up (fun i hi=>absurd hi (by lia)) (fun i i1 i2=>absurd i1 (by lia));have ZS:Up lt (bubble p k (k - m)) (k+1):=by
   intro i j Kj hj;rw [BG (by lia) (by lia),BG (by lia) (by lia)];have ek:k - (k - m)=m:=by lia
   rw [ek];by_cases j1:j=m
   ·rw [if_pos j1];by_cases i1:i=m
    ·rw [if_pos i1]; exact w.refl _
    ·rw [if_neg i1,if_neg (by lia)]; exact h1 i (by lia)
   ·rw [if_neg j1];by_cases j2:m < j/\j<=k
    ·rw [if_pos j2];by_cases i1:i=m
     ·rw [if_pos i1]; exact w.asymm _ _ (h2 (j - 1) (by lia) (by lia))
     ·rw [if_neg i1];by_cases i2:m < i/\i<=k
      ·rw [if_pos i2]; exact up _ _ (by lia) (by lia)
      ·rw [if_neg i2]; exact up _ _ (by lia) (by lia)
    ·rw [if_neg j2,if_neg (by lia),if_neg (by lia)]; exact up _ _ Kj (by lia)
  obtain⟨p',z,z1,z2,z3⟩:=ih (bubble p k (k - m)) (k+1) (by rw [bubble_size]; lia) ZS;refine⟨p',?_,z1.trans (bubble_perm _ _ _),z2.trans (bubble_size _ _ _),by rw [show k+(f+1)=k+1+f by lia]; exact z3⟩;rw [kas_bin,l0,e]; exact z
theorem LN(w:KJ lt){n:Nat}(h1:1<=n):∃ p,iJ lt (kas_sort n)=p/\p.toList.Perm (eE n)/\p.size=n/\Up lt p n:=by
 obtain⟨p,m,z,z1,z2,z3,z4,z5⟩:=JN w (p:=(eE n).toArray) h1 (by simp);have zs:p.size=n:=by rw [z2]; simp
 have zp:p.toList.Perm (eE n):=by simpa using z1.toList
 rw [kas_sort,l0,z];show ∃ q,iJ lt (if m < n then kas_bin (n - max m 1) p (max m 1) else .ret p)=q/\_;by_cases c:m < n
 ·rw [if_pos c];have em:max m 1=m:=by lia
  rw [em];obtain⟨p',y,y1,y2,y3⟩:=Ot w (n - m) p m (by lia) z5;exact⟨p',y,(by simpa using y1.toList:p'.toList.Perm p.toList).trans zp,y2.trans zs,by rw [show n=m+(n - m) by lia]; exact y3⟩
 ·rw [if_neg c];have:m=n:=by lia
  subst this;exact⟨p,rfl,zp,zs,z5⟩
end
end K2
end
section
namespace K2
open PySem PySem.Spec PyProof.Rows L2
open PySem.AutoSeq1 (wpAny_loadPart')
open PySem.MeetsSeq PySem.MeetsSeq2 PySem.MeetsSeq3 PySem.SeqAt
noncomputable def zY(A:dU)(s:aB)(y x:Value)(b:Bool):Prop :=
 ∀ (prog:bO) (w:World) (E:Value->aB->Prop) (Q:Value->aB->Prop),Q (.bool b) s->wpAny (model prog w) A (ql .Lt y x) Q E s
noncomputable def so(e l:Nat->Bool)(n m:Nat):Nat->Nat->Bool
 | 0,_=>decide (n < m)
 | f+1,i=>if e i=true then so e l n m f (i+1) else l i
theorem OT(l b:Addr)(xs ys:Array Value)(n m:Nat)(dd de:Option Addr)(sl sm:Array (Option Value))(e lt:Nat->Bool)(k:Nat) :
  ∀ i:Nat,i<=min xs.size ys.size->min xs.size ys.size - i=k->Meets (Builtin.«list.__eq__.loop» ⟨[.ref l,.ref b,rawInt i,rawInt 0],[]⟩)
   (fun A R s=>s.heap.get? l=some { cls:=.type "list",dict:=dd,data:=.seq xs n,slots:=sl }/\s.heap.get? b=some { cls:=.type "list",dict:=de,data:=.seq ys m,slots:=sm } /\
    (∀ j (h1:j < xs.size) (h2:j < ys.size),EqAt A.in1 s xs[j] ys[j] (e j)/\zY A.in1 s xs[j] ys[j] (lt j)) /\
    R (.ok (.ret (.bool (so e lt xs.size ys.size k i)))) s):=by
 induction k with
 | zero =>
  intro i hi hk prog w A R s h;obtain⟨hp,g,d,tk,os⟩:=s;obtain⟨hl,hb,he,h⟩:=h
  wp_walk using cf hl,cf hb
  by_cases c:xs.size<=ys.size
  ·have h1:xs[((i:Nat):Int).toNat]?=none:=by simp; lia
   rw [h1]
   wp_walk using cf hl,cf hb
   exact h
  ·have h2:ys[((i:Nat):Int).toNat]?=none:=by simp; lia
   rw [h2];cases q:xs[((i:Nat):Int).toNat]? with
   | none =>
    wp_walk using cf hl,cf hb
    exact h
   | some v =>
    wp_walk using cf hl,cf hb
    exact h
 | succ k ih =>
  intro i hi hk prog w A R s h;obtain⟨hp,g,d,tk,os⟩:=s;obtain⟨hl,hb,he,h⟩:=h
  wp_walk using cf hl,cf hb
  have l1:i < xs.size:=by lia
  have l2:i < ys.size:=by lia
  have h1:xs[((i:Nat):Int).toNat]?=some xs[i]:=by simp [l1]
  have h2:ys[((i:Nat):Int).toNat]?=some ys[i]:=by simp [l2]
  have hc:((i:Int)+1)=((i+1:Nat):Int):=by push_cast; rfl
  rw [h1,h2];refine aN ((he i l1 l2).1 prog w _ _ ?_);cases q:e i with
  | true =>
   rw [so,q,if_pos rfl] at h
   wp_walk
   rw [hc];exact⟨qb plain_eq_loop _,qo entry_eq_loop (by
    rw [jQ plain_eq_loop _];exact ih (i+1) (by lia) (by lia) prog w A R _ ⟨hl,hb,he,h⟩)⟩
  | false =>
   rw [so,q,if_neg (by simp)] at h
   wp_walk using cf hl,cf hb
   rw [h1,h2];have Tz:=(he i l1 l2).2 prog w
   wp_walk using Tz
   exact h
theorem By(l b:Addr)(xs ys:Array Value)(n m:Nat)(dd de:Option Addr)(sl sm:Array (Option Value))(e lt:Nat->Bool) :
  Meets (Builtin.«list.__lt__» ⟨[.ref l,.ref b],[]⟩)
   (fun A R s=>s.heap.get? l=some { cls:=.type "list",dict:=dd,data:=.seq xs n,slots:=sl }/\s.heap.get? b=some { cls:=.type "list",dict:=de,data:=.seq ys m,slots:=sm } /\
    (∀ j (h1:j < xs.size) (h2:j < ys.size),EqAt A.in1 s xs[j] ys[j] (e j)/\zY A.in1 s xs[j] ys[j] (lt j)) /\
    R (.ok (.ret (.bool (so e lt xs.size ys.size (min xs.size ys.size) 0)))) s):=by
 intro prog w A R s h;obtain⟨hp,g,d,tk,os⟩:=s;obtain⟨hl,hb,he,h⟩:=h;have f3:=Gm
 wp_walk using cf hl,cf hb
 exact⟨qb plain_eq_loop _,qo entry_eq_loop (by
  rw [jQ plain_eq_loop _];exact OT l b xs ys n m dd de sl sm e lt _ 0 (cI _) rfl prog w A R _ ⟨hl,hb,he,h⟩)⟩
theorem yu(l b:Addr)(xs ys:Array Value)(n m:Nat)(dd de:Option Addr)(sl sm:Array (Option Value))(e lt:Nat->Bool) :
  Meets (Builtin.«tuple.__lt__» ⟨[.ref l,.ref b],[]⟩)
   (fun A R s=>s.heap.get? l=some { cls:=.type "tuple",dict:=dd,data:=.seq xs n,slots:=sl }/\s.heap.get? b=some { cls:=.type "tuple",dict:=de,data:=.seq ys m,slots:=sm } /\
    (∀ j (h1:j < xs.size) (h2:j < ys.size),EqAt A.in1 s xs[j] ys[j] (e j)/\zY A.in1 s xs[j] ys[j] (lt j)) /\
    R (.ok (.ret (.bool (so e lt xs.size ys.size (min xs.size ys.size) 0)))) s) :=
 .of_wp fun prog w A R s h=>by
  obtain⟨hp,g,d,tk,os⟩:=s;obtain⟨hl,hb,he,h⟩:=h;have f2:=pM;have zl:(xs.toList.zip ys.toList).length=min xs.size ys.size:=by simp
  wp_walk using cf hl,cf hb,wpAny_forIn_list _ (fun rest c s'=>c.1=none/\s'=⟨hp,g,d,tk,os⟩/\∃ i,i<=min xs.size ys.size/\rest=(xs.toList.zip ys.toList).drop i /\
   R (.ok (.ret (.bool (so e lt xs.size ys.size (min xs.size ys.size - i) i)))) ⟨hp,g,d,tk,os⟩) _
  case turn =>
   rintro⟨y,x⟩ rest c s' ⟨hc,rfl,i,hi,hz,hR⟩;have il:i < min xs.size ys.size:=by
    have:=congrArg dh hz;rw [cD,zl,ag] at this;lia
   have l1:i < xs.size:=by lia
   have l2:i < ys.size:=by lia
   rw [hW (by rw [zl]; exact il)] at hz;injection hz with WO MD
   have ey:y=xs[i]/\x=ys[i]:=by simpa using WO
   obtain⟨rfl,rfl⟩:=ey;obtain⟨k,ek⟩:∃ k,min xs.size ys.size - i=k+1:=⟨min xs.size ys.size - i - 1,by lia⟩;rw [ek,so] at hR;refine aN ((he i l1 l2).1 prog w _ _ ?_);cases q:e i with
   | true =>
    rw [q,if_pos rfl] at hR
    wp_walk
    exact⟨rfl,rfl,i+1,by lia,MD,by rw [show min xs.size ys.size - (i+1)=k by lia]; exact hR⟩
   | false =>
    rw [q,if_neg (by simp)] at hR;have Tz:=(he i l1 l2).2 prog w
    wp_walk using Tz
    exact⟨_,rfl,by simpa using hR⟩
  case fin =>
   rintro⟨c1,c2⟩ s' ⟨hc,rfl,i,hi,hz,hR⟩;simp only at hc;subst hc;have il:min xs.size ys.size - i=0:=by
    have:=congrArg dh hz;rw [cD,zl,aw] at this;lia
   rw [il,so] at hR
   wp_walk
   exact⟨_,rfl,by simpa [t7] using hR⟩
  case h =>
   exact⟨rfl,rfl,0,cI _,rfl,by simpa using h⟩
theorem J0{A:dU}{s:aB}{l b:Addr}{xs ys:Array Value}{e lt:Nat->Bool}(hl:s.heap.IsList l xs)(hb:s.heap.IsList b ys)(hu:A.units < cLine)
  (he:∀ j (h1:j < xs.size) (h2:j < ys.size),EqAt A.in1 s xs[j] ys[j] (e j)/\zY A.in1 s xs[j] ys[j] (lt j)):zY A s (.ref l) (.ref b) (so e lt xs.size ys.size (min xs.size ys.size) 0):=by
 intro prog w E Q hq;obtain⟨⟨cls,dd,data,sl⟩,ho,hc,n,hd⟩:=id hl;obtain⟨⟨Nh,Jj,data2,Iz⟩,BC,C1,n2,hd2⟩:=id hb;simp only at hc hd C1 hd2;subst hc hd C1 hd2;exact xt (op:=.Lt) ⟨_,ho,rfl⟩ ⟨_,BC,rfl⟩ tZ Jz (Ih _ _) (By l b xs ys n n2 dd Jj sl Iz e lt)
  ⟨ho,BC,he,(fun x=>nomatch x),hq⟩ hu
theorem GZ{A:dU}{s:aB}{l b:Addr}{xs ys:Array Value}{e lt:Nat->Bool}(hl:s.heap.IsTuple l xs)(hb:s.heap.IsTuple b ys)(hu:A.units < cLine)
  (he:∀ j (h1:j < xs.size) (h2:j < ys.size),EqAt A.in1 s xs[j] ys[j] (e j)/\zY A.in1 s xs[j] ys[j] (lt j)):zY A s (.ref l) (.ref b) (so e lt xs.size ys.size (min xs.size ys.size) 0):=by
 intro prog w E Q hq;obtain⟨⟨cls,dd,data,sl⟩,ho,hc,n,hd⟩:=id hl;obtain⟨⟨Nh,Jj,data2,Iz⟩,BC,C1,n2,hd2⟩:=id hb;simp only at hc hd C1 hd2;subst hc hd C1 hd2;exact xt (op:=.Lt) ⟨_,ho,rfl⟩ ⟨_,BC,rfl⟩ lO sg (qt _ _) (yu l b xs ys n n2 dd Jj sl Iz e lt)
  ⟨ho,BC,he,(fun x=>nomatch x),hq⟩ hu
theorem oI(xs ys:List D):∀ (k i:Nat),i<=min xs.length ys.length->min xs.length ys.length - i=k ->
  so (fun j=>iQ (xs.getD j .dQ) (ys.getD j .dQ)) (fun j=>oX (xs.getD j .dQ) (ys.getD j .dQ)) xs.length ys.length k i=mP (xs.drop i) (ys.drop i)
 | 0,i,hi,hk=>by
  rw [so];by_cases c:xs.length<=ys.length
  ·have e1:xs.drop i=[]:=lQ (by lia);rw [e1];cases q:ys.drop i with
   | nil =>
    have:=congrArg dh q;rw [cD,aw] at this;exact decide_eq_false (by lia)
   | cons y r =>
    have:=congrArg dh q;rw [cD,ag] at this;exact decide_eq_true (by lia)
  ·have e1:ys.drop i=[]:=lQ (by lia);rw [e1];cases q:xs.drop i with
   | nil =>
    have:=congrArg dh q;rw [cD,aw] at this;exact decide_eq_false (by lia)
   | cons y r=>exact decide_eq_false (by lia)
 | k+1,i,hi,hk=>by
  have l1:i < xs.length:=by lia
  have l2:i < ys.length:=by lia
  rw [so,hW l1,hW l2,pz,oI xs ys k (i+1) (by lia) (by lia)];have g1:xs.getD i .dQ=xs[i]:=by rw [eh,aM l1]; rfl
  have g2:ys.getD i .dQ=ys[i]:=by rw [eh,aM l2]; rfl
  rw [g1,g2]
theorem j7{h:Heap}:∀ {ds:List D} {vs:List Value} {as:List Addr},g7 h vs (lK ds) as->∀ j (hj:j < vs.length),∃ bs,Reads h vs[j] (pd (ds.getD j .dQ)) bs
 | [],vs,as,r,j,hj=>by cases r; exact absurd hj (Gi _)
 | d :: ds,_,_,.cons (v:=v) (vs:=vs) r1 r2,j,hj=>by
  cases j with
  | zero=>exact⟨_,r1⟩
  | succ j=>exact j7 r2 j (by simpa using hj)
theorem readsAll_len{h:Heap}:∀ {ds:List D} {vs:List Value} {as:List Addr},g7 h vs (lK ds) as->vs.length=ds.length
 | [],_,_,r=>by cases r; rfl
 | d :: ds,_,_,.cons r1 r2=>by rw [ag,ag,readsAll_len r2]
theorem pb:∀ {ds:List D},pT ds=true->∀ j,nr (ds.getD j .dQ)=true
 | [],_,j=>by rw [List.getD_nil]; rfl
 | d :: ds,h,0=>by
  have h:(nr d&&pT ds)=true:=h;rw [aU] at h; simpa using h.1
 | d :: ds,h,j+1=>by
  have h:(nr d&&pT ds)=true:=h;rw [aU] at h; simpa using pb h.2 j
theorem lp:∀ (ds:List D) (j:Nat),(pd (ds.getD j .dQ)).depth<=cg (lK ds)
 | [],j=>by rw [List.getD_nil]; exact aQ _
 | d :: ds,0=>by
  show (pd d).depth<=cg (pd d :: lK ds);simp only [cg]; lia
 | d :: ds,j+1=>by
  have:=lp ds j;show (pd (ds.getD j .dQ)).depth<=cg (pd d :: lK ds);simp only [cg]; lia
theorem qU:∀ {l:List nC} {ds:List D},fx l ds=true->∀ j,j < ds.length->∃ s∈l,c7 s (ds.getD j .dQ)=true/\l[j]?=some s
 | [],[],_,j,hj=>absurd hj (Gi _)
 | [],_ :: _,h,_,_=>by cases h
 | _ :: _,[],h,_,_=>by cases h
 | s :: l,d :: ds,h,0,_=>by
  have h:(c7 s d&&fx l ds)=true:=h;rw [aU] at h;exact⟨s,by simp,by simpa using h.1,by simp⟩
 | s :: l,d :: ds,h,j+1,hj=>by
  have h:(c7 s d&&fx l ds)=true:=h;rw [aU] at h;obtain⟨s',h1,h2,h3⟩:=qU h.2 j (by simpa using hj);exact⟨s',aR _ h1,by simpa using h2,by simpa using h3⟩
theorem qV:∀ {s:nC} {ds:List D},gY s ds=true->∀ j,j < ds.length->c7 s (ds.getD j .dQ)=true
 | s,[],_,j,hj=>absurd hj (Gi _)
 | s,d :: ds,h,0,_=>by
  have h:(c7 s d&&gY s ds)=true:=h;rw [aU] at h; simpa using h.1
 | s,d :: ds,h,j+1,hj=>by
  have h:(c7 s d&&gY s ds)=true:=h;rw [aU] at h; simpa using qV h.2 j (by simpa using hj)
theorem Dm{A:dU}{s:aB}{xs ys:List D}{vs ws:Array Value}{as bs:List Addr}(r1:g7 s.heap vs.toList (lK xs) as)(r2:g7 s.heap ws.toList (lK ys) bs)(n1:pT xs=true)(n2:pT ys=true)
  (hu:A.units+cg (lK xs) < cLine) (j:Nat) (h1:j < vs.size) (h2:j < ws.size):EqAt A s vs[j] ws[j] (iQ (xs.getD j .dQ) (ys.getD j .dQ)):=by
 obtain⟨Ut,q1⟩:=j7 r1 j (by simpa using h1);obtain⟨Uq,q2⟩:=j7 r2 j (by simpa using h2);have m1:=pb n1 j;have m2:=pb n2 j;have dp:=lp xs j;have:=eqAt_reads (pd (xs.getD j .dQ)) (pd (ys.getD j .dQ)) A s _ _ _ _ q1 q2 (ka _ m1) (ka _ m2) (by lia);rw [tK _ _ m1 m2] at this;simpa using this
theorem yX:∀ (n:Nat) (sh:nC) (a b:D) (A:dU) (s:aB) (u v:Value) (as bs:List Addr),(pd a).depth<=n->c7 sh a=true->c7 sh b=true->nr a=true->nr b=true->Reads s.heap u (pd a) as->Reads s.heap v (pd b) bs->A.units+n < cLine->zY A s u v (oX a b):=by
 intro n;induction n using Nat.strongRecOn with
 | _ n ih =>
 intro sh a b A s u v as bs hn h1 h2 n1 n2 r1 r2 hu;cases sh with
 | int =>
  first | obtain⟨_,rfl⟩:=dD h1 | obtain⟨_,rfl⟩:=dA h1 | obtain⟨_,rfl⟩:=dB h1
  first | obtain⟨_,rfl⟩:=dD h2 | obtain⟨_,rfl⟩:=dA h2 | obtain⟨_,rfl⟩:=dB h2
  cases r1; cases r2;intro prog w E Q hq;exact HT.yN A s _ _ _ _ prog w E Q hq
 | tup l =>
  first | obtain⟨_,rfl⟩:=dD h1 | obtain⟨_,rfl⟩:=dA h1 | obtain⟨_,rfl⟩:=dB h1
  first | obtain⟨_,rfl⟩:=dD h2 | obtain⟨_,rfl⟩:=dA h2 | obtain⟨_,rfl⟩:=dB h2
  rename_i xs ys;have n1:pT xs=true:=n1;have n2:pT ys=true:=n2;cases r1 with
  | tuple k1 k2 k3 k4 =>
   cases r2 with
   | tuple m1 m2 m3 m4 =>
    rename_i p o vs c p' o' ws c';have hd:(pd (.tup xs)).depth=cg (lK xs)+1:=rfl;obtain⟨n',rfl⟩:∃ n',n=n'+1:=⟨n - 1,by lia⟩;have z1:=readsAll_len k4;have z2:=readsAll_len m4;have e1:vs.size=xs.length:=by simpa using z1
    have e2:ws.size=ys.length:=by simpa using z2
    have base:=GZ (A:=A) (s:=s) (e:=fun j=>iQ (xs.getD j .dQ) (ys.getD j .dQ)) (lt:=fun j=>oX (xs.getD j .dQ) (ys.getD j .dQ)) ⟨_,k1,k2,_,k3⟩ ⟨_,m1,m2,_,m3⟩ (by lia) (fun j j1 j2=>by
     refine⟨Dm k4 m4 n1 n2 (by show A.units+1+_ < _; lia) j j1 j2,?_⟩;obtain⟨Ut,q1⟩:=j7 k4 j (by simpa using j1);obtain⟨Uq,q2⟩:=j7 m4 j (by simpa using j2);obtain⟨sj,hsj,g1,g2⟩:=qU (l:=l) (ds:=xs) h1 j (by lia);obtain⟨Z5,WZ,XD,Ue⟩:=qU (l:=l) (ds:=ys) h2 j (by lia);rw [g2] at Ue; cases Ue;have dp:=lp xs j;have:=ih n' (by lia) sj (xs.getD j .dQ) (ys.getD j .dQ) A.in1 s _ _ _ _ (by lia) g1 XD (pb n1 j) (pb n2 j) q1 q2 (by show A.units+1+n' < cLine; lia);simpa using this)
    have fin:=oI xs ys (min xs.length ys.length) 0 (cI _) rfl;rw [e1,e2,fin] at base;exact base
 | lst l =>
  first | obtain⟨_,rfl⟩:=dD h1 | obtain⟨_,rfl⟩:=dA h1 | obtain⟨_,rfl⟩:=dB h1
  first | obtain⟨_,rfl⟩:=dD h2 | obtain⟨_,rfl⟩:=dA h2 | obtain⟨_,rfl⟩:=dB h2
  rename_i xs ys;have n1:pT xs=true:=n1;have n2:pT ys=true:=n2;cases r1 with
  | list k1 k2 k3 k4 =>
   cases r2 with
   | list m1 m2 m3 m4 =>
    rename_i p o vs c p' Ut o' ws c' Uq;have hd:(pd (.eY xs)).depth=cg (lK xs)+1:=rfl;obtain⟨n',rfl⟩:∃ n',n=n'+1:=⟨n - 1,by lia⟩;have z1:=readsAll_len k4;have z2:=readsAll_len m4;have e1:vs.size=xs.length:=by simpa using z1
    have e2:ws.size=ys.length:=by simpa using z2
    have base:=J0 (A:=A) (s:=s) (e:=fun j=>iQ (xs.getD j .dQ) (ys.getD j .dQ)) (lt:=fun j=>oX (xs.getD j .dQ) (ys.getD j .dQ)) ⟨_,k1,k2,_,k3⟩ ⟨_,m1,m2,_,m3⟩ (by lia) (fun j j1 j2=>by
     refine⟨Dm k4 m4 n1 n2 (by show A.units+1+_ < _; lia) j j1 j2,?_⟩;obtain⟨Ut,q1⟩:=j7 k4 j (by simpa using j1);obtain⟨Uq,q2⟩:=j7 m4 j (by simpa using j2);have dp:=lp xs j;have:=ih n' (by lia) l (xs.getD j .dQ) (ys.getD j .dQ) A.in1 s _ _ _ _ (by lia) (qV (s:=l) (ds:=xs) h1 j (by lia)) (qV (s:=l) (ds:=ys) h2 j (by lia)) (pb n1 j) (pb n2 j) q1 q2 (by show A.units+1+n' < cLine; lia);simpa using this)
    have fin:=oI xs ys (min xs.length ys.length) 0 (cI _) rfl;rw [e1,e2,fin] at base;exact base
end K2
end
section
namespace K2
open PySem PySem.Spec PyProof.Rows L2 PySem.W
section
variable {prog:bO} {w:World} {A:dU} {E:Value->aB->Prop} {s:aB}
theorem LH {at':Addr} {bB:List Value} {n:Nat} {P:PySem.Fin->aB->Prop} (Hl:s.heap.get? at'=some (yj "list" bB.toArray n)) (xH:bB.length < 2)
  (done:P (.done (.ret .none)) { s with heap:=sortedHeap s.heap at' bB bB.toArray }):wpAny (model prog w) A (Builtin.«list.sort» ⟨[.ref at'],[]⟩) P E s:=by
 rw [list_sort_plain];have lt':at' < s.heap.objs.size:=a9 Hl;refine aN (listItems_at Hl rfl (aN (listUpdate_at Hl rfl ?_)));obtain⟨c,hc⟩:∃ c,(s.heap.update at' (jl fun _=>#[])).get? at'=some (yj "list" #[] c):=⟨_,get?_update_seq Hl (fun _=>#[])⟩;refine aN (seqEpoch_at hc rfl (aN (wpAny_newTuple (aN (wpAny_newList (kr ?_))))));have h6:(((s.heap.update at' (jl fun _=>#[])).push (yj "tuple" bB.toArray 0)).push (yj "list" #[] 0)).get? at'=some (yj "list" #[] c):=by
  rw [Heap.get?_push_ne _ _ _ (by rw [size_push',DV]; exact bM (B2 lt')),Heap.get?_push_ne _ _ _ (by rw [DV]; exact bM lt')];exact hc
 show wpAny (model prog w) A _ P E { s with heap:=((s.heap.update at' (jl fun _=>#[])).push (yj "tuple" bB.toArray 0)).push (yj "list" #[] 0) };dsimp only;have Ym:bB.toArray.size < 2:=by simpa using xH
 rw [if_pos Ym,if_pos Ym];refine aN (bG ?_);rw [StateT.run_pure];refine aN (bG ?_);dsimp only;have es:(bB.toArray.zip bB.toArray).map (·.2)=bB.toArray:=by
  apply Array.toList_inj.mp;simp [List.map_snd_zip]
 refine aN (seqEpoch_at h6 rfl (aN (listUpdate_at h6 rfl ?_ (hsz2:=by rw [show (arrOf (SortSt.mk' general' (bB.toArray.zip bB.toArray) #[] 7 none)).map (·.2)=bB.toArray from es,c6]; simp; lia))));simp only [bne_self_eq_false,ah,if_false];refine bG ?_;rw [show (arrOf (SortSt.mk' general' (bB.toArray.zip bB.toArray) #[] 7 none)).map (·.2)=bB.toArray from es];exact done
theorem Gw{l:Addr}{bB:List Value}{Q:Value->aB->Prop}(hl:s.heap.IsList l bB.toArray)(xH:bB.length < 2)
  (done:Q (.ref (s.heap.objs.size+1)) { s with heap:=sortedAll s.heap bB bB.toArray }):wpAny (model prog w) A (call (.builtin "sorted") [.ref l]) Q E s:=by
 refine Calls.call_function_entry kind_sorted plain_sorted entry_sorted (args_sorted1 _) ?_;unfold Builtin.«sorted»;refine aN (m:=checkCount "sorted" 1 1 _) (bG (aN (collect_list hl (aN (wpAny_newList ?_)))));have e1:((s.heap.push (yj "list" #[] 0)).update s.heap.objs.size (jl (·++bB.toArray))).objs.size=s.heap.objs.size+1:=by rw [DV,size_push']
 have e2:(((s.heap.push (yj "list" #[] 0)).update s.heap.objs.size (jl (·++bB.toArray))).push (yj "list" bB.toArray 0)).get? (s.heap.objs.size+1)=some (yj "list" bB.toArray 0):=by
  rw [<-e1]; exact cb _ rfl
 show wpAny _ _ _ _ _ { s with heap:=((s.heap.push (yj "list" #[] 0)).update s.heap.objs.size (jl (·++bB.toArray))).push (yj "list" bB.toArray 0) };rw [e1];refine aN (kr (wpAny_call_entry slot_list_sort ⟨_,e2,rfl⟩ entry_list_sort (LH e2 xH ⟨_,rfl,?_⟩) (args_list_sort _)));exact bG ⟨_,rfl,done⟩
end
section
open PySem.SeqAt
noncomputable def NA(A:dU)(s:aB)(y x:Value)(b:Bool):Prop :=
 ∀ (prog:bO) (w:World) (E:Value->aB->Prop) (Q:Bool->aB->Prop),Q b s->wpAny (model prog w) A (oneLt' true y x) Q E s
theorem GL{A:dU}{s:aB}{l b:Addr}{xs ys:Array Value}{e lt:Nat->Bool}(hl:s.heap.IsList l xs)(hb:s.heap.IsList b ys)(hu:A.units < cLine)
  (he:∀ j (h1:j < xs.size) (h2:j < ys.size),EqAt A.in1 s xs[j] ys[j] (e j)/\zY A.in1 s xs[j] ys[j] (lt j)):NA A s (.ref l) (.ref b) (so e lt xs.size ys.size (min xs.size ys.size) 0):=by
 intro prog w E Q hq;obtain⟨⟨cls,dd,data,sl⟩,ho,hc,n,hd⟩:=id hl;obtain⟨⟨Nh,Jj,data2,Iz⟩,BC,C1,n2,hd2⟩:=id hb;simp only at hc hd C1 hd2;subst hc hd C1 hd2;rw [oneLt'_eq];simp only [if_true];refine aN (wpAny_cRoomFor hu (aN (HZ (T:="list") ⟨_,ho,rfl⟩ tZ ?_)));exact Ac tZ ⟨_,ho,rfl⟩ Jz (Ih _ _) (By l b xs ys n n2 dd Jj sl Iz e lt) ⟨ho,BC,he,tX hq⟩
theorem EC{A:dU}{s:aB}{l b:Addr}{xs ys:Array Value}{e lt:Nat->Bool}(hl:s.heap.IsTuple l xs)(hb:s.heap.IsTuple b ys)(hu:A.units < cLine)
  (he:∀ j (h1:j < xs.size) (h2:j < ys.size),EqAt A.in1 s xs[j] ys[j] (e j)/\zY A.in1 s xs[j] ys[j] (lt j)):NA A s (.ref l) (.ref b) (so e lt xs.size ys.size (min xs.size ys.size) 0):=by
 intro prog w E Q hq;obtain⟨⟨cls,dd,data,sl⟩,ho,hc,n,hd⟩:=id hl;obtain⟨⟨Nh,Jj,data2,Iz⟩,BC,C1,n2,hd2⟩:=id hb;simp only at hc hd C1 hd2;subst hc hd C1 hd2;rw [oneLt'_eq];simp only [if_true];refine aN (wpAny_cRoomFor hu (aN (HZ (T:="tuple") ⟨_,ho,rfl⟩ lO ?_)));exact Ac lO ⟨_,ho,rfl⟩ sg (qt _ _) (yu l b xs ys n n2 dd Jj sl Iz e lt) ⟨ho,BC,he,tX hq⟩
theorem EX{n:Nat}{A:dU}{s:aB}{xs ys:List D}{vs ws:Array Value}{as bs:List Addr}(r1:g7 s.heap vs.toList (lK xs) as)(r2:g7 s.heap ws.toList (lK ys) bs)(n1:pT xs=true)(n2:pT ys=true)(hd:cg (lK xs)<=n)
  (hu:A.units+n < cLine) (hs:∀ j,j < xs.length->j < ys.length->∃ sh,c7 sh (xs.getD j .dQ)=true/\c7 sh (ys.getD j .dQ)=true) (j:Nat) (h1:j < vs.size) (h2:j < ws.size) :
  EqAt A s vs[j] ws[j] (iQ (xs.getD j .dQ) (ys.getD j .dQ))/\zY A s vs[j] ws[j] (oX (xs.getD j .dQ) (ys.getD j .dQ)):=by
 have z1:=readsAll_len r1;have z2:=readsAll_len r2;have e1:vs.size=xs.length:=by simpa using z1
 have e2:ws.size=ys.length:=by simpa using z2
 refine⟨Dm r1 r2 n1 n2 (by lia) j h1 h2,?_⟩;obtain⟨Ut,q1⟩:=j7 r1 j (by simpa using h1);obtain⟨Uq,q2⟩:=j7 r2 j (by simpa using h2);obtain⟨sh,g1,g2⟩:=hs j (by lia) (by lia);have dp:=lp xs j;have:=yX n sh (xs.getD j .dQ) (ys.getD j .dQ) A s _ _ _ _ (by lia) g1 g2 (pb n1 j) (pb n2 j) q1 q2 hu;simpa using this
theorem xb{n:Nat}{sh:nC}{a b:D}{A:dU}{s:aB}{u v:Value}{as bs:List Addr}(hn:(pd a).depth<=n)(h1:c7 sh a=true)(h2:c7 sh b=true)(n1:nr a=true)(n2:nr b=true)(r1:Reads s.heap u (pd a) as)(r2:Reads s.heap v (pd b) bs)
  (hu:A.units+n < cLine):NA A s u v (oX a b):=by
 cases sh with
 | int =>
  first | obtain⟨_,rfl⟩:=dD h1 | obtain⟨_,rfl⟩:=dA h1 | obtain⟨_,rfl⟩:=dB h1
  first | obtain⟨_,rfl⟩:=dD h2 | obtain⟨_,rfl⟩:=dA h2 | obtain⟨_,rfl⟩:=dB h2
  cases r1; cases r2;intro prog w E Q hq;exact oneLt_int hq
 | tup l =>
  first | obtain⟨_,rfl⟩:=dD h1 | obtain⟨_,rfl⟩:=dA h1 | obtain⟨_,rfl⟩:=dB h1
  first | obtain⟨_,rfl⟩:=dD h2 | obtain⟨_,rfl⟩:=dA h2 | obtain⟨_,rfl⟩:=dB h2
  rename_i xs ys;have n1:pT xs=true:=n1;have n2:pT ys=true:=n2;cases r1 with
  | tuple k1 k2 k3 k4 =>
   cases r2 with
   | tuple m1 m2 m3 m4 =>
    rename_i p o vs c p' o' ws c';have hd:(pd (.tup xs)).depth=cg (lK xs)+1:=rfl;obtain⟨n',rfl⟩:∃ n',n=n'+1:=⟨n - 1,by lia⟩;have z1:=readsAll_len k4;have z2:=readsAll_len m4;have e1:vs.size=xs.length:=by simpa using z1
    have e2:ws.size=ys.length:=by simpa using z2
    have base:=EC (A:=A) (s:=s) ⟨_,k1,k2,_,k3⟩ ⟨_,m1,m2,_,m3⟩ (by lia) (EX (A:=A.in1) (n:=n') k4 m4 n1 n2 (by lia) (by show A.units+1+n' < cLine; lia) fun j j1 j2=>by
     obtain⟨sj,hsj,g1,g2⟩:=qU (l:=l) (ds:=xs) h1 j j1;obtain⟨Z5,WZ,XD,Ue⟩:=qU (l:=l) (ds:=ys) h2 j j2;rw [g2] at Ue; cases Ue;exact⟨sj,g1,XD⟩)
    have fin:=oI xs ys (min xs.length ys.length) 0 (cI _) rfl;rw [e1,e2,fin] at base;exact base
 | lst l =>
  first | obtain⟨_,rfl⟩:=dD h1 | obtain⟨_,rfl⟩:=dA h1 | obtain⟨_,rfl⟩:=dB h1
  first | obtain⟨_,rfl⟩:=dD h2 | obtain⟨_,rfl⟩:=dA h2 | obtain⟨_,rfl⟩:=dB h2
  rename_i xs ys;have n1:pT xs=true:=n1;have n2:pT ys=true:=n2;cases r1 with
  | list k1 k2 k3 k4 =>
   cases r2 with
   | list m1 m2 m3 m4 =>
    rename_i p o vs c p' Ut o' ws c' Uq;have hd:(pd (.eY xs)).depth=cg (lK xs)+1:=rfl;obtain⟨n',rfl⟩:∃ n',n=n'+1:=⟨n - 1,by lia⟩;have z1:=readsAll_len k4;have z2:=readsAll_len m4;have e1:vs.size=xs.length:=by simpa using z1
    have e2:ws.size=ys.length:=by simpa using z2
    have base:=GL (A:=A) (s:=s) ⟨_,k1,k2,_,k3⟩ ⟨_,m1,m2,_,m3⟩ (by lia) (EX (A:=A.in1) (n:=n') k4 m4 n1 n2 (by lia) (by show A.units+1+n' < cLine; lia) fun j j1 j2=>⟨l,qV (s:=l) (ds:=xs) h1 j j1,qV (s:=l) (ds:=ys) h2 j j2⟩);have fin:=oI xs ys (min xs.length ys.length) 0 (cI _) rfl;rw [e1,e2,fin] at base;exact base
theorem CS{prog:bO}{w:World}{A:dU}{s:aB}{b fin:Bool}{Q:Bool->aB->Prop}{n:Nat}(hu:A.units+n < cLine):∀ (l:List nC) (xs ys:List D) (vs ws:List Value) (as bs:List Addr) (i:Nat),fx l xs=true->fx l ys=true->pT xs=true->pT ys=true ->
  g7 s.heap vs (lK xs) as->g7 s.heap ws (lK ys) bs->cg (lK xs)<=n->fin=false->Q (mP xs ys) s->KatLex prog w A b fin Q (vs.zip ws) i s:=by
 intro l xs;induction xs generalizing l with
 | nil =>
  intro ys vs ws as bs i h1 h2 n1 n2 r1 r2 hd hf hq;cases r1;cases l with
  | nil =>
   cases ys with
   | nil=>cases r2; subst hf; exact hq
   | cons _ _=>cases h2
  | cons _ _=>cases h1
 | cons x xs ih =>
  intro ys vs ws as bs i h1 h2 n1 n2 r1 r2 hd hf hq;cases l with
  | nil=>cases h1
  | cons sh l =>
  cases ys with
  | nil=>cases h2
  | cons y ys =>
  cases r1 with
  | @cons v vs _ _ _ _ a1 a2 =>
  cases r2 with
  | @cons u ws _ _ _ _ b1 b2 =>
  have h1:(c7 sh x&&fx l xs)=true:=h1;have h2:(c7 sh y&&fx l ys)=true:=h2;have n1:(nr x&&pT xs)=true:=n1;have n2:(nr y&&pT ys)=true:=n2;rw [aU] at h1 h2 n1 n2;have TZ:(pd x).depth<=n/\cg (lK xs)<=n:=by
   have hd:cg (pd x :: lK xs)<=n:=hd;simp only [cg] at hd;lia
  show KatLex prog w A b fin Q ((v,u) :: vs.zip ws) i s;have eq:=eqAt_reads (pd x) (pd y) A s _ _ _ _ a1 b1 (ka _ n1.1) (ka _ n2.1) (by lia);rw [tK _ _ n1.1 n2.1] at eq;refine kat_cons (eq prog w _ _ ?_);rw [pz] at hq;cases q:iQ x y with
  | true =>
   rw [q,if_pos rfl] at hq;exact kat_yes (ih l ys vs ws _ _ (i+1) h1.2 h2.2 n1.2 n2.2 a2 b2 TZ.2 hf hq)
  | false =>
   rw [q,if_neg (by simp)] at hq;refine kat_no ?_;cases c:(b&&i == 0) with
   | true=>exact xb TZ.1 h1.1 h2.1 n1.1 n2.1 a1 b1 hu prog w _ Q hq
   | false=>exact kat_one v u (yX n sh x y A s _ _ _ _ TZ.1 h1.1 h2.1 n1.1 n2.1 a1 b1 hu prog w _ _ hq)
end
noncomputable def ly{α:Type}(n:Nat)(P:α->Prop):KasT α->Prop
 | .ret a=>P a
 | .ask i j k=>i < n/\j < n/\∀ b,ly n P (k b)
theorem ly.bind{α β:Type}{n:Nat}{P:α->Prop}{P':β->Prop}{f:α->KasT β}:∀ {t:KasT α},ly n P t->(∀ a,P a->ly n P' (f a))->ly n P' (t.bind f)
 | .ret a,q,h=>h a q
 | .ask i j k,⟨q1,q2,q3⟩,h=>⟨q1,q2,fun b=>ly.bind (q3 b) h⟩
theorem EV{α:Type}{n:Nat}{lt:Nat->Nat->Bool}{cmp:Nat->Nat->(Bool->aB->Prop)->aB->Prop}{s:aB}{Q:α->aB->Prop}(hc:∀ i j,i < n->j < n->∀ C:Bool->aB->Prop,C (lt i j) s->cmp i j C s) :
  ∀ (t:KasT α),ly n (fun _=>True) t->Q (iJ lt t) s->t.kasWp cmp Q s
 | .ret a,_,q=>q
 | .ask i j k,⟨h1,h2,h3⟩,q=>hc i j h1 h2 _ (EV hc (k (lt i j)) (h3 _) q)
noncomputable def Bd(n:Nat)(p:Array Nat):Prop:=0 < n/\∀ x∈p,x < n
theorem Bd.at{n:Nat}{p:Array Nat}(h:Bd n p)(k:Nat):p.getD k 0 < n:=by
 by_cases hk:k < p.size
 ·have:p.getD k 0=p[k]:=by simp [Io,hk]
  rw [this]; exact h.2 _ (Array.getElem_mem hk)
 ·have:p.getD k 0=0:=by simp [Io,hk]
  rw [this]; exact h.1
theorem Bd.perm{n:Nat}{p q:Array Nat}(h:Bd n p)(hp:q.Perm p):Bd n q:=⟨h.1,fun x hx=>h.2 x (hp.mem_iff.mp hx)⟩
theorem DB{n:Nat}{p:Array Nat}(h:Bd n p):∀ (f k:Nat),ly n (fun _=>True) (qm p f k)
 | 0,k=>trivial
 | f+1,k=>⟨h.at _,h.at _,fun b=>by
  show ly n _ (if b=true then vO k else qm p f (k+1));split
  ·trivial
  ·exact DB h f (k+1)⟩
theorem vr{n:Nat}:∀ (f:Nat) (p:Array Nat) (k q:Nat),Bd n p->ly n (fun r=>Bd n r.1) (lz f p k q)
 | 0,p,k,q,h=>h
 | f+1,p,k,q,h=>⟨h.at _,h.at _,fun b=>by
  show ly n _ (if b=true then (if q > 0 then lz f (gQ p (k - (q+1)) k) (k+1) 0 else lz f p (k+1) 0) else .ask (p.getD (k - 1) 0) (p.getD k 0) fun d=>if d=true then .ret (p,k,q) else lz f p (k+1) (q+1));split
  ·split
   ·exact vr f _ _ _ (h.perm (j6 _ _ _))
   ·exact vr f _ _ _ h
  ·refine⟨h.at _,h.at _,fun d=>?_⟩;show ly n _ (if d=true then vO (p,k,q) else lz f p (k+1) (q+1));split
   ·exact h
   ·exact vr f _ _ _ h⟩
theorem FG{n:Nat}{p:Array Nat}(h:Bd n p)(k m:Nat):ly n (fun r=>Bd n r.2) (K8 k m p) :=
 ly.bind (DB (h.perm (j6 _ _ _)) _ _) fun _ _=>h.perm (j6 _ _ _)
theorem vq{n:Nat}{p:Array Nat}(h:Bd n p)(k m:Nat):ly n (fun r=>Bd n r.2) (ym k m p) :=
 ly.bind (vr _ _ _ _ h) fun r hr=>by
  split
  ·exact FG (hr.perm (j6 _ _ _)) _ _
  ·exact FG hr _ _
theorem KH{n:Nat}{p:Array Nat}(h:Bd n p)(m:Nat):ly n (fun r=>Bd n r.2) (kas_count m p) :=
 ly.bind (DB h _ _) fun k _=>by
  split
  ·exact h
  ·split
   ·refine⟨h.at _,h.at _,fun b=>?_⟩;show ly n _ (if b=true then vO (k,p) else ym k m (gQ p 0 k));split
    ·exact h
    ·exact vq (h.perm (j6 _ _ _)) _ _
   ·exact vq h _ _
theorem wz{n:Nat}{p:Array Nat}(h:Bd n p)(k:Nat):∀ (f l r:Nat),ly n (fun _=>True) (jY p k f l r)
 | 0,l,r=>trivial
 | f+1,l,r=>by
  show ly n _ (if l>=r then vO l else .ask (p.getD k 0) (p.getD ((l+r) / 2) 0) fun c=>if c=true then jY p k f l ((l+r) / 2) else jY p k f ((l+r) / 2+1) r);split
  ·trivial
  ·refine⟨h.at _,h.at _,fun b=>?_⟩;show ly n _ (if b=true then jY p k f l ((l+r) / 2) else jY p k f ((l+r) / 2+1) r);split
   ·exact wz h k f _ _
   ·exact wz h k f _ _
theorem Jt{n:Nat}:∀ (f:Nat) (p:Array Nat) (k:Nat),Bd n p->ly n (fun _=>True) (kas_bin f p k)
 | 0,p,k,h=>trivial
 | f+1,p,k,h=>ly.bind (wz h k _ _ _) fun l _=>Jt f _ _ (h.perm (bubble_perm _ _ _))
theorem Nv{n:Nat}(h:0 < n):ly n (fun _=>True) (kas_sort n) :=
 ly.bind (KH ⟨h,fun x hx=>by simpa using hx⟩ n) fun r hr=>by
  split
  ·exact Jt _ _ _ hr
  ·trivial
end K2
end
section
namespace K2
open PySem PySem.Spec PyProof.Rows L2 PySem.W
mutual
theorem wW{h h':Heap}(hk:∀ b o vs n,o.data=.seq vs n->h.get? b=some o->h'.get? b=some o):∀ (d:D) {v:Value} {as:List Addr},nr d=true->Reads h v (pd d) as->Reads h' v (pd d) as
 | .dQ,_,_,_,r=>by cases r; exact .none
 | .bl b,_,_,_,r=>by cases r; exact .bool b
 | .int i,_,_,_,r=>by cases r; exact .int i _
 | .str x,_,_,_,r=>by cases r; exact .str x _
 | .tup ds,_,_,n,r=>by
  cases r with
  | tuple h1 h2 h3 h4=>exact .tuple (hk _ _ _ _ h3 h1) h2 h3 (mj hk ds n h4)
 | .eY ds,_,_,n,r=>by
  cases r with
  | list h1 h2 h3 h4=>exact .list (hk _ _ _ _ h3 h1) h2 h3 (mj hk ds n h4)
 | .wV _,_,_,n,_=>by cases n
 | .ref _,_,_,n,_=>by cases n
 | .exc _,_,_,n,_=>by cases n
theorem mj{h h':Heap}(hk:∀ b o vs n,o.data=.seq vs n->h.get? b=some o->h'.get? b=some o):∀ (ds:List D) {vs:List Value} {as:List Addr},pT ds=true->g7 h vs (lK ds) as->g7 h' vs (lK ds) as
 | [],_,_,_,r=>by cases r; exact .nil
 | d :: ds,_,_,n,r=>by
  have n:(nr d&&pT ds)=true:=n;rw [aU] at n;cases r with
  | cons r1 r2=>exact .cons (wW hk d n.1 r1) (mj hk ds n.2 r2)
end
mutual
theorem Gx(G:Gp):∀ (sh:nC) (d:D) (n:Nat),c7 sh d=true->PS sh<=n->Sn G n d d
 | .int,.int i,n,_,_=>.int i
 | .tup l,.tup ds,n,h,hn=>by
  have hn:M5 l+1<=n:=hn;obtain⟨m,rfl⟩:∃ m,n=m+1:=⟨n - 1,by lia⟩;exact Iv G l ds m h (by lia)
 | .lst s,.eY ds,n,h,hn=>by
  have hn:PS s+1<=n:=hn;obtain⟨m,rfl⟩:∃ m,n=m+1:=⟨n - 1,by lia⟩;exact Iw G s ds m h (by lia)
theorem Iv(G:Gp):∀ (l:List nC) (ds:List D) (m:Nat),fx l ds=true->M5 l<=m->Sn G (m+1) (.tup ds) (.tup ds)
 | [],[],m,_,_=>.Ed
 | s :: l,d :: ds,m,h,hm=>by
  have h:(c7 s d&&fx l ds)=true:=h;have hm:max (PS s) (M5 l)<=m:=hm;rw [aU] at h;exact .pN (Gx G s d m h.1 (by lia)) (Iv G l ds m h.2 (by lia))
theorem Iw(G:Gp):∀ (s:nC) (ds:List D) (m:Nat),gY s ds=true->PS s<=m->Sn G (m+1) (.eY ds) (.eY ds)
 | s,[],m,_,_=>.LR
 | s,d :: ds,m,h,hm=>by
  have h:(c7 s d&&gY s ds)=true:=h;rw [aU] at h;exact .Et (Gx G s d m h.1 hm) (Iw G s ds m h.2 hm)
end
theorem getD_at{α:Type}(xs:List α)(d:α){i:Nat}(h:i < xs.length):xs.getD i d=xs[i]:=by
 rw [eh,aM h]; rfl
theorem yT{α:Type}(xs:List α)(d:α):(eE xs.length).map (fun i=>xs.getD i d)=xs:=by
 refine List.ext_getElem (by simp) fun i h1 h2=>?_;rw [dJ,qe];exact getD_at _ _ h2
theorem Ec{h:Heap}{s1:nC}{l:List nC}:∀ (zs:List D) (vs:List Value),(∀ z∈zs,c7 (.tup (s1 :: l)) z=true)->(∀ i,i < vs.length->∃ as,Reads h (vs.getD i .none) (pd (zs.getD i .dQ)) as)->vs.length=zs.length ->
  ∃ fs,KatTups h vs fs/\fs.length=vs.length/\∀ f∈fs,∃ d as,c7 s1 d=true/\Reads h f (pd d) as:=by
 intro zs;induction zs with
 | nil =>
  intro vs _ _ h;have:vs=[]:=List.length_eq_zero_iff.mp h;subst this;exact⟨[],trivial,rfl,fun _ h=>by cases h⟩
 | cons z zs ih =>
 intro vs hs hr hl;cases vs with
 | nil=>cases hl
 | cons v vs =>
  obtain⟨fs,h1,h2,h3⟩:=ih vs (fun z hz=>hs z (aR _ hz)) (fun i hi=>by
   obtain⟨as,r⟩:=hr (i+1) (by simpa using hi);exact⟨as,by simpa using r⟩) (by simpa using hl)
  obtain⟨as,r⟩:=hr 0 (by simp);have hz:=hs z (by simp);simp only [List.getD_cons_zero] at r;cases z <;> first | (cases hz; done) | skip
  rename_i ds;cases ds with
  | nil=>cases hz
  | cons d ds =>
   have hz:(c7 s1 d&&fx l ds)=true:=hz;rw [aU] at hz;cases r with
   | tuple k1 k2 k3 k4 =>
    rename_i p o ws c;have k5:g7 h ws.toList (pd d :: lK ds) as:=k4;cases q:ws.toList with
    | nil=>rw [q] at k5; cases k5
    | cons f rest =>
     rw [q] at k5;cases k5 with
     | cons r1 r2 =>
      have hf:ws[0]?=some f:=by
       have:ws.toList[0]?=some f:=by rw [q]; rfl
       simpa using this
      refine⟨f :: fs,.cons k1 k2 k3 hf h1,by simp [h2],fun g hg=>?_⟩;rcases List.mem_cons.mp hg with rfl | hg
      ·exact⟨d,_,hz.1,r1⟩
      ·exact h3 g hg
noncomputable def Lr:nC->Value
 | .int=>.type "int"
 | .tup _=>.type "tuple"
 | .lst _=>.type "list"
theorem Bw{M:Model}{h:Heap}{sh:nC}{d:D}{v:Value}{as:List Addr}(hs:c7 sh d=true)(r:Reads h v (pd d) as):Looks M h (typeOf v) (Lr sh):=by
 cases sh with
 | int =>
  cases d <;> first | (cases hs; done) | skip
  cases r;exact .now
 | tup l =>
  cases d <;> first | (cases hs; done) | skip
  cases r with
  | tuple k1 k2 k3 k4 =>
   rename_i p o ws c;have:Looks M h (typeOf (.ref p)) o.cls:=(Looks.ld k1).andThen .now;rw [k2] at this; exact this
 | lst l =>
  cases d <;> first | (cases hs; done) | skip
  cases r with
  | list k1 k2 k3 k4 =>
   rename_i p o ws c as;have:Looks M h (typeOf (.ref p)) o.cls:=(Looks.ld k1).andThen .now;rw [k2] at this; exact this
theorem Kb{prog:bO}{w:World}{A:dU}{s:aB}{E:Value->aB->Prop}{Q:Bool->aB->Prop}{n:Nat}{b:Bool}{l:List nC}{a c:D}{u v:Value}{as bs:List Addr}(hn:(pd a).depth<=n+1)(h1:c7 (.tup l) a=true)(h2:c7 (.tup l) c=true)(n1:nr a=true)(n2:nr c=true)
  (r1:Reads s.heap u (pd a) as) (r2:Reads s.heap v (pd c) bs) (hu:A.units+n < cLine) (hq:Q (oX a c) s):wpAny (model prog w) A (keyLt' (tuples' b) u v) Q E s:=by
 first | obtain⟨_,rfl⟩:=dD h1 | obtain⟨_,rfl⟩:=dA h1 | obtain⟨_,rfl⟩:=dB h1
 first | obtain⟨_,rfl⟩:=dD h2 | obtain⟨_,rfl⟩:=dA h2 | obtain⟨_,rfl⟩:=dB h2
 rename_i xs ys;cases r1 with
 | tuple k1 k2 k3 k4 =>
  cases r2 with
  | tuple m1 m2 m3 m4 =>
   rename_i p o vs c p' o' ws c';have z1:=readsAll_len k4;have z2:=readsAll_len m4;have e1:vs.size=xs.length:=by simpa using z1
   have e2:ws.size=ys.length:=by simpa using z2
   have el:∀ (l:List nC) (xs ys:List D),fx l xs=true->fx l ys=true->xs.length=ys.length:=by
    intro l;induction l with
    | nil =>
     intro xs ys h1 h2;cases xs with
     | nil=>cases ys with
      | nil=>rfl
      | cons _ _=>cases h2
     | cons _ _=>cases h1
    | cons s l ih =>
     intro xs ys h1 h2;cases xs with
     | nil=>cases h1
     | cons x xs =>
      cases ys with
      | nil=>cases h2
      | cons y ys =>
       have h1:(c7 s x&&fx l xs)=true:=h1;have h2:(c7 s y&&fx l ys)=true:=h2;rw [aU] at h1 h2;rw [ag,ag,ih xs ys h1.2 h2.2]
   have hd:(pd (.tup xs)).depth=cg (lK xs)+1:=rfl;refine kat_lt k1 k3 m1 m3 (CS (n:=n) hu l xs ys _ _ _ _ 0 h1 h2 n1 n2 k4 m4 (by lia) (decide_eq_false (by rw [e1,e2,el l xs ys h1 h2]; lia)) hq)
section
variable {X:Cx}
theorem J2{x:D}{G:Gp}{zs:List D}(ty:t9 x G)(hi:itemsOf x G=some zs):u0 x G=some zs:=by
 cases x <;> first | exact ty.elim | exact hi
theorem Dy (hc:X.calm=true) (hu:X.A.units+64 < cLine):wI X (.builtin "sorted") yg:=by
 intro pins s σ H G xs ds us Q I ab rx rd q;unfold yg at q;split at q
 ·rename_i x;obtain⟨sh,zs,ty,hi,MN,eV,h64,q⟩:=q;obtain⟨w1,rfl,JK⟩:=rd.one;obtain⟨u,rfl,ru⟩:=rx.one;obtain⟨l,vs,bB,rfl,rv,rs,hl,_⟩:=pJ I ab ru JK (J2 ty hi);have Ki:=rv.length;have Kh:=rs.length;have hsz:bh=16777216:=c6;have hz:∀ z∈zs,c7 sh z=true:=fun z h=>List.all_eq_true.mp MN z h;by_cases xH:bB.length < 2
  ·refine Gw hl xH ?_;obtain⟨e,he⟩:=sortedAll_at s.heap bB bB.toArray;have hp:H (s.heap.objs.size+1)=none:=I.eV.fresh (yr _);have es:qy zs=zs:=ud sh hz (.refl _) (by
    match zs,Kh,xH with
    | [],_,_=>exact .nil
    | [z],_,_=>exact List.pairwise_singleton _ _
    | _ :: _ :: _,h,f=>exact absurd f (by rw [<-Ki,h]; simp))
   rw [es] at q;refine⟨.ref (s.heap.objs.size+1),upd H (s.heap.objs.size+1) (.lst vs),.ref _,_,I.laid (t':=s.toks) (fun b o e=>sortedAll_old e) (yr _) ?_,.GR ab hp rs,rfl,.ref _,q _ (ab.free hp)⟩;exact⟨by lia,bB,e,rv,he⟩
  ·obtain⟨m,F0⟩:=I.fr;have nz:0 < zs.length:=by lia
   have nL:∀ b o vs n,o.data=.seq vs n->s.heap.get? b=some o->b≠X.env.locals:=fun b o vs n e1 e2 z=>by
    obtain⟨o',es,ep,OZ,Km,_⟩:=F0.ns;rw [z,OZ] at e2; cases e2; rw [Km] at e1; cases e1
   unfold QE at eV;rw [aU] at eV;have Y3:PS sh<=7:=of_decide_eq_true eV.1;have sn:∀ z∈zs,Sn G 7 z z:=fun z h=>Gx G sh z 7 (hz z h) Y3;refine kat_sorted F0 EF hl (by lia) (by lia) fun Dd e1 h' F N CZ=>?_;obtain⟨kk,ns⟩:=vX I F0 F fun p hp=>N p (aR _ hp);have IB:∀ i,i < bB.length->∃ as,Reads h' (bB.getD i .none) (pd (zs.getD i .dQ)) as:=fun i hi=>by
    have i1:i < zs.length:=by lia
    have i2:i < vs.length:=by lia
    have g1:zs.getD i .dQ=zs[i]:=getD_at _ _ i1;have g2:bB.getD i .none=bB[i]:=getD_at _ _ hi;obtain⟨v,hv,VS⟩:=rs.get (aM i1);obtain⟨u,KZ,VO⟩:=rv.get hv;rw [aM hi] at KZ;cases KZ;obtain⟨as,r⟩:=(je I ab (sn _ (fb i1))).1 v _ VS VO;rw [g1,g2];exact⟨as,wW (fun b o vs n e1 e2=>kk b o (nL b o vs n e1 e2) e2) _ (sn _ (fb i1)).nr r⟩
   have Ek:∀ i,i < zs.length->c7 sh (zs.getD i .dQ)=true:=fun i hi=>by rw [getD_at _ _ hi]; exact hz _ (fb hi)
   have UU:∀ i,i < zs.length->nr (zs.getD i .dQ)=true:=fun i hi=>by rw [getD_at _ _ hi]; exact(sn _ (fb hi)).nr
   have Zj:∀ i,i < zs.length->(pd (zs.getD i .dQ)).depth<=7:=fun i hi=>by rw [getD_at _ _ hi]; exact Dp (sn _ (fb hi))
   let zz:Nat->D:=fun i=>if i < zs.length then zs.getD i .dQ else zs.getD 0 .dQ
   have Si:∀ i,c7 sh (zz i)=true:=fun i=>by
    show c7 sh (if i < zs.length then zs.getD i .dQ else zs.getD 0 .dQ)=true;split
    ·exact Ek i (by assumption)
    ·exact Ek 0 nz
   let lt:Nat->Nat->Bool:=fun i j=>oX (zz i) (zz j)
   have Z1:KJ lt:=⟨fun i j h=>Bv sh (Si i) (Si j) h,fun i j k h1 h2=>yW sh (Si i) (Si j) (Si k) h1 h2⟩;have YJ:∀ i j,i < zs.length->j < zs.length->lt i j=oX (zs.getD i .dQ) (zs.getD j .dQ):=fun i j hi hj=>by
    show oX (if i < zs.length then _ else _) (if j < zs.length then _ else _)=_;rw [if_pos hi,if_pos hj]
   obtain⟨p,ep,E1,Yv,hup⟩:=LN Z1 (n:=bB.length) (by lia);have Zd:X.A.in1.in1.units=X.A.units+2:=rfl;have ask:∀ κ:SortKind,(∀ i j,i < bB.length->j < bB.length->∀ C:Bool->aB->Prop,C (oX (zs.getD i .dQ) (zs.getD j .dQ)) { s with heap:=h' }->kas_ask X.prog X.w X.A.in1.in1 κ bB i j C { s with heap:=h' }) ->
     (kas_sort bB.length).kasWp (kas_ask X.prog X.w X.A.in1.in1 κ bB) (fun p SF=>KasFin X.base X.env.locals m Dd e1 (p.toList.map fun i=>bB.getD i lN) (fun s3=>sf X pins σ H G Q (.ref Dd) s3) SF) { s with heap:=h' }:=by
    intro κ hk;refine EV (lt:=lt) (n:=bB.length) (fun i j i1 i2 C hC=>hk i j i1 i2 C (by rw [<-YJ i j (by lia) (by lia)]; exact hC)) _ (Nv (by lia)) ?_;rw [ep];refine KasFin.intro (g:=fun o=>(Dd,o) :: se X.base s.heap X.env.locals) F N (.head (fun q hq z=>absurd (CZ q hq) (by rw [z]; exact iT _))) fun h2 c F2 N2=>?_;obtain⟨k2,ns2⟩:=vX I F0 F2 fun p hp=>N2 p (aR _ hp);have hD:s.heap.get? Dd=none:=by
     have nD:=N _ bf;cases qd:s.heap.get? Dd with
     | none=>rfl
     | some o=>exact absurd (CZ _ (xc nD.2.1 nD.2.2 qd)) (iT _)
    have hp:H Dd=none:=Jc I.eV hD;have Z8:Vals (p.toList.map fun i=>vs.getD i .dQ) (p.toList.map fun i=>bB.getD i lN):=by
     have:∀ (ps:List Nat),(∀ i∈ps,i < bB.length)->Vals (ps.map fun i=>vs.getD i .dQ) (ps.map fun i=>bB.getD i lN):=by
      intro ps;induction ps with
      | nil=>intro _; exact .nil
      | cons i ps ih =>
       intro hh;have hi:=hh i (by simp);refine .cons ?_ (ih fun j hj=>hh j (aR _ hj));have i2:i < vs.length:=by lia
       obtain⟨u,KZ,VO⟩:=rv.get (aM i2);rw [aM hi] at KZ;cases KZ;show RelV (vs.getD i .dQ) (bB.getD i .none);rw [getD_at _ _ i2,getD_at _ _ hi]; exact VO
     exact this _ fun i hi=>by simpa using E1.mem_iff.mp hi
    have Z9:br X.K H (p.toList.map fun i=>vs.getD i .dQ) (p.toList.map fun i=>zs.getD i .dQ):=by
     have:∀ (ps:List Nat),(∀ i∈ps,i < bB.length)->br X.K H (ps.map fun i=>vs.getD i .dQ) (ps.map fun i=>zs.getD i .dQ):=by
      intro ps;induction ps with
      | nil=>intro _; exact .nil
      | cons i ps ih =>
       intro hh;have hi:=hh i (by simp);refine .cons ?_ (ih fun j hj=>hh j (aR _ hj));have i2:i < vs.length:=by lia
       have i1:i < zs.length:=by lia
       obtain⟨v,hv,r⟩:=rs.get (aM i1);rw [aM i2] at hv;cases hv;show cV X.K H (vs.getD i .dQ) (zs.getD i .dQ);rw [getD_at _ _ i2,getD_at _ _ i1]; exact r
     exact this _ fun i hi=>by simpa using E1.mem_iff.mp hi
    have es:qy zs=p.toList.map fun i=>zs.getD i .dQ:=by
     refine ud sh hz ?_ ?_
     ·have h1:(p.toList.map fun i=>zs.getD i .dQ).Perm ((eE zs.length).map fun i=>zs.getD i .dQ):=by
       have:bB.length=zs.length:=by lia
       rw [<-this];exact E1.map _
      rw [yT] at h1;exact h1
     ·rw [rP,List.pairwise_iff_getElem];intro i j hi hj Kj;have g1:gA p i=p.toList[i]:=by
       have:i < p.size:=by simpa using hi
       simp [gA,Io,this]
      have g2:gA p j=p.toList[j]:=by
       have:j < p.size:=by simpa using hj
       simp [gA,Io,this]
      have bi:p.toList[i] < bB.length:=by simpa using E1.mem_iff.mp (fb hi)
      have bj:p.toList[j] < bB.length:=by simpa using E1.mem_iff.mp (fb hj)
      have:=hup i j (by lia) (by have:j < p.toList.length:=hj; rw [ky,Yv] at this; exact this);rw [g1,g2,YJ _ _ (by lia) (by lia)] at this;exact this
    rw [es] at q;have ln:(p.toList.map fun i=>vs.getD i .dQ).length<=bh:=by rw [av,ky,Yv]; lia
    refine⟨.ref Dd,upd H Dd (.lst (p.toList.map fun i=>vs.getD i .dQ)),.ref _,_,Inv.PD (t':=s.toks) I k2 ns2 hD ?_,.GR ab hp Z9,rfl,.ref _,q _ (ab.free hp)⟩;exact⟨ln,_,c,Z8,(N2 _ bf).1⟩
   have gen:∀ i j,i < bB.length->j < bB.length->∀ C:Bool->aB->Prop,C (oX (zs.getD i .dQ) (zs.getD j .dQ)) { s with heap:=h' }->wpAny (model X.prog X.w) X.A.in1.in1 (keyLt' oneType' (bB.getD i lN) (bB.getD j lN)) C (fun _ _=>False) { s with heap:=h' }:=by
    intro i j hi hj C hC;obtain⟨as,r1⟩:=IB i hi;obtain⟨bs,r2⟩:=IB j hj;rw [keyLt'_oneType];exact xb (s:={ s with heap:=h' }) (n:=7) (Zj i (by lia)) (Ek i (by lia)) (Ek j (by lia)) (UU i (by lia)) (UU j (by lia)) r1 r2 (by rw [Zd]; lia) X.prog X.w _ C hC
   have lk:∀ v∈bB,Looks (model X.prog X.w) h' (typeOf v) (Lr sh):=fun v hv=>by
    obtain⟨i,hi,rfl⟩:=List.getElem_of_mem hv;obtain⟨as,r⟩:=IB i hi;rw [getD_at _ _ hi] at r;exact Bw (Ek i (by lia)) r
   cases sh with
   | int=>exact kas_kind (s:={ s with heap:=h' }) (T:=.type "int") (by lia) lk rfl rfl (ask oneType' gen)
   | lst ss=>exact kas_kind (s:={ s with heap:=h' }) (T:=.type "list") (by lia) lk rfl rfl (ask oneType' gen)
   | tup ss =>
    cases ss with
    | nil=>exact absurd eV.2 (by simp)
    | cons s1 ss =>
     obtain⟨fs,t1,t2,t3⟩:=Ec (h:=h') zs bB hz IB (by lia);refine kat_kind (s:={ s with heap:=h' }) (T:=Lr s1) t1 (by lia) (fun f hf=>?_) (by cases s1 <;> rfl) (ask _ fun i j hi hj C hC=>?_)
     ·obtain⟨d,as,h1,h2⟩:=t3 f hf;exact Bw h1 h2
     ·obtain⟨as,r1⟩:=IB i hi;obtain⟨bs,r2⟩:=IB j hj;exact Kb (s:={ s with heap:=h' }) (n:=7) (by have:=Zj i (by lia); lia) (Ek i (by lia)) (Ek j (by lia)) (UU i (by lia)) (UU j (by lia)) r1 r2 (by rw [Zd]; lia) hC
 ·exact q.elim
end
end K2
end
section
namespace K2
open PySem PySem.Spec PyProof.Rows L2 PySem.W
section
variable {X:Cx}
variable {es:List Expr} {t:TF2} {e v1 v2:Expr} {te:gH} {pos:Pos} {c:Str} {k:Nat}
theorem FE:dR "reversed" = some (.type "reversed"):=by decide +kernel
variable {a:Expr} {ta:gH} {p p2 aah:Pos}
end
end K2
end
section
namespace K2
open PySem PySem.Spec PyProof.Rows L2
section
variable {K:ao} {h:Heap} {C:Addr} {Ur:List Value} {newId:String}
inductive RL (h:Heap) (C:Addr) (Ur:List Value) (newId:String):Prop
 | mk (bm N nm qn bs Xq sn sub ab col dd k0 k1 k2 k3 k5 mN) (o:h.get? C=some (excClassObj nm qn C N bs bm Xq sn sub ab col dd k0 k1 k2 k3 k5 newId)) (n:h.Ns N mN) (i:mN "__init__" = none) (t:OwnTail h Ur bm):RL h C Ur newId
end
end K2
end
section
namespace K2
open PySem PySem.Spec PyProof.Rows L2
noncomputable def kp1:HO->Bool
 | .tup _=>true
 | .pX _ (.lst _)=>true
 | .pX _ (.dK _)=>true
 | .pX _ (.dT _)=>true
 | .pX _ (.ext _)=>true
 | _=>false
noncomputable def hr(H:Hp):Hp:=fun b=>(H b).bind fun o=>if kp1 o=true then some o else none
end K2
end
section
namespace K2
open PySem PySem.Spec PyProof.Rows L2
noncomputable def subIn(K:ao)(C:Addr)(v:Value):Bool:=match K.lookup C with
 | some ⟨_,_,.cls cd,_⟩=>cd.mro.contains v
 | _=>false
section
variable {X:Cx} {x cn n:Str} {D f:Addr} {fd:ax} {ps:List Str} {k i:Nat} {sp:jk} {XS:List Value} {newD:String} {cat:List Str} {e:Expr} {es:List Expr} {p np pos ep Q4 tp:Pos} {VM:Stmt} {Yn:List Stmt} {t:BX} {th:fY}
structure ZM(X:Cx):Prop where
 st:X.stack=X.env :: X.outer
 fr:X.env.frame=some X.env.locals
 ex:X.ex=[]
structure Clause(X:Cx)(i:Nat)(n cn:Str)(D:Addr)(cat:List Str):Prop where
 nd:X.N.Nodup
 DY:X.N[i]?=some n
 loc:X.env.scope.names.lookup n=some .local
 gl:Gl X cn
 mg:X.mg cn=some (.ref D)
 cls:∃ XS newD,PySem.W.excIn X.K D XS newD=true/\XS.contains (.type "BaseException")=true
 cat:∀ c,cat.contains c=true->∃ C Ur newId,c5 X.K bo c=some (some (.ref C))/\PySem.W.excIn X.K C Ur newId=true/\subIn X.K C (.ref D)=true
end
end K2
end
section
namespace K2
open PySem PySem.Spec PyProof.Rows L2 PySem.W PySem.Calls PySem.Builtin PySem.Builtin.Getset_descriptor
section
variable {prog:bO} {w:World} {A:dU} {E:Value->aB->Prop} {s:aB} {K:ao} {a C:Addr} {ox:Obj}
structure ZJ(K:ao)(C:Addr):Prop where
 ga:findIn K (.ref C) "__getattribute__" = some (some (.builtin "BaseException.__getattribute__"))
 gn:findIn K (.ref C) "__getattr__" = some none
 DY:findIn K (.ref C) "__class__" = some (some (.builtin "object.__class__"))
 sp:specialIn K (.builtin "object.__class__") "__get__" = some (some (.builtin "getset_descriptor.__get__"))
 tk:takesIn K (.builtin "object.__class__")=some true
 mo:mroIn K C (.type "object")=some true
 mb:mroIn K C (.type "BaseException")=some true
 is:(clsIn K C).isSome=true
end
end K2
end
section
namespace K2
open PySem PySem.Spec PyProof.Rows L2
section
variable {X:Cx} {e:Expr} {te:gH} {pos:Pos}
theorem lh{i:Nat}{x:Str}{pos':Pos}(hN:X.N.Nodup)(hi:X.N[i]?=some x)(he:gN X e te)(hx:autoParam (Loc X.env.scope x) Ao._auto_1)(hs:autoParam (D1 e (some (.Name x pos')) pos.line X.env=pure false) Ar._auto_1)(hf:autoParam (X.fn x=true\/X.env.scope.names.lookup x=some .local) Ao._auto_1) :
  FX X (.Assign [.Name x pos'] e pos) (bU te (aK i)):=OC hN hi hx he hs hf
theorem oq{i:Nat}{x:Str}(hN:X.N.Nodup)(hi:X.N[i]?=some x)(hx:autoParam (Loc X.env.scope x) Ao._auto_1)(hf:autoParam (X.fn x=true\/X.env.scope.names.lookup x=some .local) Ao._auto_1):K4 X (.Name x pos) (aK i):=L6 hN hi hx hf
theorem l8{P:bO}{w:World}{K:ao}{mg:Str->Option Value}{base:Heap}{x qual:Str}{st:Stmt}{f:Addr}{fd:ax}{Nn ps:List Str}{k:Nat}{sp:jk}{rd:fY}(F:kB K x qual st f fd)(S:bC Nn ps (aT st))
  (hr:∀ ds G Q,sp ds G Q (fun _ _=>False)->rd (fun _ _=>False) (ends Q) (aW Nn.length ds) G)
  (hb:∀ (nk:Value) (A:dU) (outer:List Env) (s:aB) (H:Hp) (E:XK),jT k (A.deeper (D3 qual (aT st) s.heap.objs.size f nk))->zS (Fw eB P w K mg base Nn qual (aT st) f nk A outer s H E).RU (ik st) rd)
  (len:autoParam (∀ ds G Q E,sp ds G Q E->ds.length=ps.length) Al._auto_1):dP P w K mg base eB (k+1) f fd ps (bH K sp):=O3 F S len hr hb
theorem lZ{N ps:List Str}{sc:Scope}(h1:autoParam (sc.kind=.function) Ar._auto_1)(h2:autoParam (sc.isCoroutine=false) Ar._auto_1)(h3:autoParam (sc.isGenerator=false) Ar._auto_1)(h4:autoParam N.Nodup Ak._auto_1)(h5:autoParam (N.take ps.length=ps) Ar._auto_1)
  (h6:autoParam (∀ x∈ps,sc.names.lookup x=some .local\/sc.names.lookup x=some .cell) Ak._auto_1) (h7:autoParam (∀ y∈sc.names,y.2≠.free) Ak._auto_1):bC N ps sc:=⟨h1,h2,h3,h4,h5,h6,h7⟩
end
end K2
end
section
namespace K2
open PySem PySem.Spec PyProof.Rows L2
section
variable {X:Cx} {a b c:Expr} {ta tb tc:gH} {pos:Pos}
theorem OJ {x:Str} {i:Int} {t:Tok} {p:Pos} (hg:Gl X x) (hm:X.mg x=some (.int i t)) (hd:autoParam ((x == ("__debug__" : Str))=false) Ad._auto_1):gN X (.Name x p) (dC (.int i)):=rT (OF (v:=.int i) hg hm ⟨t,rfl⟩ hd) fun _ _=>.int i
end
end K2
end
section
namespace K2
open PySem PySem.Spec PyProof.Rows L2
theorem qg{α:Type}{us:List α}(h:us.length=1):∃ a,us=[a]:=List.length_eq_one_iff.mp h
theorem OU{α:Type}{us:List α}{n:Nat}(h:us.length=n+1):∃ a t,us=a :: t/\t.length=n:=by
 cases us with
 | nil=>cases h
 | cons a t=>exact⟨a,t,rfl,Nat.succ.inj h⟩
theorem nN{α:Type}{us:List α}(h:us.length=2):∃ a b,us=[a,b]:=by
 obtain⟨a,t,rfl,h2⟩:=OU h; obtain⟨b,rfl⟩:=qg h2; exact⟨a,b,rfl⟩
theorem CN{α:Type}{us:List α}(h:us.length=3):∃ a b c,us=[a,b,c]:=by
 obtain⟨a,t,rfl,h2⟩:=OU h; obtain⟨b,c,rfl⟩:=nN h2; exact⟨a,b,c,rfl⟩
theorem Tq{α:Type}{us:List α}(h:us.length=4):∃ a b c d,us=[a,b,c,d]:=by
 obtain⟨a,t,rfl,h2⟩:=OU h; obtain⟨b,c,d,rfl⟩:=CN h2; exact⟨a,b,c,d,rfl⟩
theorem Tp{α:Type}{us:List α}(h:us.length=5):∃ a b c d e,us=[a,b,c,d,e]:=by
 obtain⟨a,t,rfl,h2⟩:=OU h; obtain⟨b,c,d,e,rfl⟩:=Tq h2; exact⟨a,b,c,d,e,rfl⟩
section
variable {X:Cx} {a b tg:Expr} {ta tb:gH} {p pos:Pos}
theorem GG (hg:Gl X "range") (hm:X.mg "range" = none) (ha:gN X a ta) (hb:gN X b tb) (hs:autoParam (bY [a,b] X.env=(false,eval a X.env) :: bY [b] X.env) Ar._auto_1) (DX:autoParam (bY [b] X.env=[(false,eval b X.env)]) Ar._auto_1) (sv:autoParam ((mf pos (bY [b] X.env)).any (·.1)=false) Ar._auto_1):Nz X tg (.Call (.Name "range" p) [a,b] [] pos) (IX ta tb):=by
 intro E pins s σ H τ G R hE I h;have hA:D0 X [a,b] (ak ta (ak tb aH)):=af ha (af hb ay DX) hs;refine Call_ (pB I.inv hg hm boot_range (eL (xw hA pos hE I (R:=fun ds G1=>match ds with | [.int i,.int j]=>(-(2 ^ 62)<=i/\i < 2 ^ 62/\-(2 ^ 62)<=j/\j < 2 ^ 62)/\R (eN i (j - i).toNat) (fun _=>True) G1 | _=>False) ?_ fun vs H1 ds G1 us s1 I1 m1 r1 jK q1=>?_) hs sv))
 ·show ta E τ G fun x G1=>tb E τ G1 fun y G2=>_;have e:(fun (x:D) (G1:Gp)=>tb E τ G1 fun y G2=>match [x,y] with | [.int i,.int j]=>(-(2 ^ 62)<=i/\i < 2 ^ 62/\-(2 ^ 62)<=j/\j < 2 ^ 62)/\R (eN i (j - i).toNat) (fun _=>True) G2 | _=>False)=fun x G1=>tb E τ G1 fun y G2=>match x,y with | .int i,.int j=>(-(2 ^ 62)<=i/\i < 2 ^ 62/\-(2 ^ 62)<=j/\j < 2 ^ 62)/\R (eN i (j - i).toNat) (fun _=>True) G2 | _,_=>False:=by
   funext x G1;congr 1;funext y G2;cases x <;> cases y <;> rfl
  exact e ▸ h
 ·split at q1
  ·rename_i i j;obtain⟨w1,w2,rfl,JK,SG⟩:=jK.two;cases JK; cases SG;obtain⟨u1,u2,rfl,SH,Qk⟩:=r1.two;obtain⟨t1,rfl⟩:=SH;obtain⟨t2,rfl⟩:=Qk;obtain⟨⟨q1,q2,q3,q4⟩,q⟩:=q1;exact call_range_2 (LS I1.inv m1 q1 q2 q3 q4 q)
  ·exact q1.elim
end
end K2
end
section
namespace K2
open PySem PySem.Spec PyProof.Rows L2
noncomputable def Itv(K:ao)(a:Addr)(n:Nat):It :=
 ⟨fun i H=>∃ xs x,oZ K H a xs/\xs.length=n/\i < n/\xs[n - 1 - i]?=some x,fun i H x H'=>H'=H/\∀ xs,oZ K H a xs->xs[n - 1 - i]?=some x,fun i _=>n<=i⟩
theorem Lu{P:bO}{w:World}{K:ao}{tg:Expr}(a it:Addr)(n:Nat):Turn P w K tg (Itv K a n) [it] it (fun i h=>i<=n/\h.IsRevIter it a ((n:Int) - 1 - (i:Int))) where
 mem:=List.mem_singleton.mpr rfl
 obj:=by
  rintro i h ⟨_,o,q,c,d⟩ b hb;have z:=List.mem_singleton.mp hb;subst z;exact⟨o,q,fun v z=>by rw [d] at z; cases z⟩
 keep:=by
  rintro i h h' ⟨hi,st⟩ k;exact⟨hi,st.at fun o e=>k it (List.mem_singleton.mpr rfl) o e⟩
 item:=by
  rintro X rfl rfl rfl hc i pins s σ H E I hf ⟨hi,st⟩ ⟨xs,x,hq,hlen,hin,hx⟩;obtain⟨bB,rv,p,hz⟩:=I.list hq;obtain⟨u,hu,ru⟩:=rv.get hx;obtain⟨f0,f1,f2,f3,f4,f5⟩:=hf it (List.mem_singleton.mpr rfl);have e0:((n:Int) - 1 - (i:Int))=((n - 1 - i:Nat):Int):=by lia
  rw [e0] at st;refine wpAny_pyNext_rev_item st p.isList (x:=u) (by simpa using hu) fun h' Bk sb=>?_;have J1:Inv X pins σ H { s with heap:=h' }:=I.turned (t':=s.toks) (fun b o hb e=>(sb.2 b hb).trans e) f0 f1 f3 f4 f5;have e1:((n - 1 - i:Nat):Int) - 1=(n:Int) - 1 - ((i+1:Nat):Int):=by lia
  rw [e1] at Bk;obtain⟨o,e,c,d⟩:=id Bk;refine⟨u,rfl,Jb (s:={ s with heap:=h' }) e c d (by decide) ⟨x,H,J1,ru,⟨rfl,fun ys hy=>?_⟩,⟨by lia,Bk⟩,fun b hb=>(hf b hb).1⟩⟩;rw [I.qS hy hq]; exact hx
 done:=by
  rintro X rfl rfl rfl hc i pins s σ H E I hf ⟨hi,st⟩ hg;have hg:n<=i:=hg;obtain⟨f0,f1,f2,f3,f4,f5⟩:=hf it (List.mem_singleton.mpr rfl);have e0:((n:Int) - 1 - (i:Int))=-1:=by lia
  rw [e0] at st;exact wpAny_pyNext_rev_end (I.ok.hd hc) st fun h' eb=>⟨rfl,I.turned (t':=s.toks) (fun b o hb e=>eb b o hb e) f0 f1 f3 f4 f5⟩
 self:=fun _ _ _ _ _ st h=>wpAny_pyIter_revIter st.2 h
section
variable {X:Cx} {tg a:Expr} {ta:gH} {pos p:Pos}
theorem OE (hg:Gl X "reversed") (hm:X.mg "reversed" = none) (ha:gN X a ta) (hs:autoParam (bY [a] X.env=[(false,eval a X.env)]) Ar._auto_1):Nz X tg (.Call (.Name "reversed" p) [a] [] pos) (QY ta):=by
 intro E pins s σ H τ G R hE I h;have hA:D0 X [a] (ak ta aH):=af ha ay hs;refine Call_ (pB I.inv hg hm FE (eL (xw hA pos hE I (R:=SY fun x G1=>match x with
  | .eY ds=>R ds.reverse (fun _=>True) G1
  | _=>False) h fun vs H1 ds G1 us s1 I1 m1 r1 jK q1=>?_) hs rfl))
 match ds,q1 with
 | [x],q1 =>
  obtain⟨w,rfl,JK⟩:=jK.one;obtain⟨u,rfl,ru⟩:=r1.one;cases JK with
  | eY hq rs =>
   cases ru;rename_i l vs zs;obtain⟨bB,rv,pl,hz⟩:=I1.inv.list hq.sq;refine call_reversed_list pl.isList ?_;have hsz:bB.toArray.size=vs.length:=by rw [a8,rv.length]
   rw [hsz];refine wpAny_pyIter_revIter (i:=(vs.length:Int) - 1) ⟨_,cb _ rfl,rfl,rfl⟩ ?_;refine⟨s1.heap.objs.size,[s1.heap.objs.size],_,_,H1,G1,zs.reverse,fun _=>True,rfl,I1.inv.kept (t':=s1.toks) fun b o e=>a0 _ e,m1,Lu l _ vs.length,⟨cI _,by rw [show ((vs.length:Int) - 1 - ((0:Nat):Int))=(vs.length:Int) - 1 by lia]; exact⟨_,cb _ rfl,rfl,rfl⟩⟩,fun b hb=>?_,fun i H2 G2 k ab o=>?_,q1⟩
   ·have e:=List.mem_singleton.mp hb;subst e;exact I1.inv.Ht (aQ _) (I1.inv.eV.fresh (aQ _))
   ·have hw:=(k.Po hq).sq;have rd:=rs.mono k;have hlen:=rs.length;refine⟨fun d hd=>?_,fun hl=>by show vs.length<=i; rw [hlen,<-oS]; exact hl⟩;have hi:i < zs.length:=by have:=(List.getElem?_eq_some_iff.mp hd).1; rwa [oS] at this
    rw [List.getElem?_reverse hi] at hd;obtain⟨v,hv,r⟩:=rd.get hd;rw [<-hlen] at hv;refine⟨⟨vs,v,hw,rfl,by lia,hv⟩,?_⟩;rintro x H3 ⟨e,y⟩;subst e;have:=y vs hw;rw [hv] at this;cases this;exact⟨r,.refl ab⟩
  | _=>exact q1.elim
end
end K2
end
section
namespace K2
open PySem PySem.Spec PyProof.Rows L2
noncomputable def iw(K:ao)(f c:Str):Prop:=∃ C,c5 K bo c=some (some (.ref C))/\NY K C/\wF K C f
theorem GC{K:ao}{H:Hp}{f:Str}{d:D}:∀ {fs:List (Str×D)} {fv:List (Str×V)},fv.map (·.1)=fs.map (·.1)->br K H (fv.map (·.2)) (fs.map (·.2))->fs.lookup f=some d->∃ v,fv.lookup f=some v/\cV K H v d:=by
 intro fs;induction fs with
 | nil=>intro fv _ _ h; cases h
 | cons p fs ih =>
  intro fv hn r h;cases fv with
  | nil=>cases hn
  | cons q fv =>
   rw [au,au] at hn;injection hn with h1 h2
   cases r with
   | cons r1 r2 =>
    obtain⟨pk,pd⟩:=p;obtain⟨qk,qv⟩:=q;have h1:qk=pk:=h1;subst h1;rw [mR] at h ⊢;cases hb:f == qk with
    | true =>
     rw [hb] at h;cases h;exact⟨qv,rfl,r1⟩
    | false =>
     rw [hb] at h;exact ih h2 r2 h
section
variable {X:Cx} {e:Expr} {te:gH} {f:Str} {al:List Str} {pos:Pos}
theorem dW(cl:∀ c∈al,iw X.K f c)(he:gN X e te)(hb:autoParam (vL e f X.env (eval e X.env)=eval e X.env) Ar._auto_1):gN X (.Attribute e f pos) (fV al f te):=by
 intro E pins s σ H τ G Q hE I h;refine Pc hb (k8 he hE I h fun x H1 d G1 u s1 I1 m1 r1 jK q1=>?_);obtain⟨a,c,fs,d',rfl,hg,hc,hl,q⟩:=q1;cases jK;cases r1;obtain⟨C,dx,fv,hH,AH,hn,rs⟩:=I1.ab a _ hg;obtain⟨C',CY,I0,Xb⟩:=cl c hc;rw [AH] at CY;cases CY;obtain⟨v,hv,rv⟩:=GC hn rs hl;exact Hn I1.inv hH I0 Xb hv fun u' s2 I2 ru=>⟨v,H1,d',G1,I2,m1,ru,rv,q⟩
end
end K2
end
section
namespace K2
open PySem PySem.Spec PyProof.Rows L2
theorem JP{f:Str}{v:V}{d:D}:∀ {fs:List (Str×D)} {fv:List (Str×V)},fv.map (·.1)=fs.map (·.1)->(mO f v fv).map (·.1)=(putD f d fs).map (·.1):=by
 intro fs;induction fs with
 | nil =>
  intro fv h;have:fv=[]:=by simpa using h
  subst this; rfl
 | cons p fs ih =>
  intro fv h;cases fv with
  | nil=>cases h
  | cons q fv =>
   obtain⟨pk,pd⟩:=p;obtain⟨qk,qv⟩:=q;rw [au,au] at h;injection h with h1 h2
   have h1:qk=pk:=h1;subst h1;unfold mO putD;split
   ·rw [au,au,h2]
   ·rw [au,au,ih h2]
theorem L1{K:ao}{H:Hp}{f:Str}{v:V}{d:D}(rv:cV K H v d):∀ {fs:List (Str×D)} {fv:List (Str×V)},fv.map (·.1)=fs.map (·.1)->br K H (fv.map (·.2)) (fs.map (·.2))->br K H ((mO f v fv).map (·.2)) ((putD f d fs).map (·.2)):=by
 intro fs;induction fs with
 | nil =>
  intro fv h _;have:fv=[]:=by simpa using h
  subst this;exact .cons rv .nil
 | cons p fs ih =>
  intro fv h r;cases fv with
  | nil=>cases h
  | cons q fv =>
   obtain⟨pk,pd⟩:=p;obtain⟨qk,qv⟩:=q;rw [au,au] at h;injection h with h1 h2
   have h1:qk=pk:=h1;subst h1;cases r with
   | cons r1 r2 =>
    unfold mO putD;split
    ·exact .cons rv r2
    ·exact .cons r1 (ih h2 r2)
theorem Kp.V1{H:Hp}{p:Addr}{C dx:Addr}{fv:List (Str×V)}{o:HO}(hp:H p=some (.ins C dx fv)):Kp H (upd H p o) :=
 ⟨fun a xs e=>by rw [bZ (by rintro rfl; rw [hp] at e; cases e)]; exact e,fun a ob u e=>by rw [bZ (by rintro rfl; rw [hp] at e; cases e)]; exact e⟩
section
variable {X:Cx} {o value:Expr} {to tv:gH} {f:Str} {al:List Str} {pos pos':Pos}
theorem fu(cl:∀ c∈al,iw X.K f c)(ho:gN X o to)(hv:gN X value tv)(hs:autoParam (D1 value (some (.Attribute o f pos')) pos.line X.env=pure false) Ar._auto_1):FX X (.Assign [.Attribute o f pos'] value pos) (ke al f to tv):=by
 intro E pins s σ H τ G D hE I h;refine plainObj_wpAny_Assign_Attribute (k8 hv hE I h fun y H1 d G1 u s1 I1 m1 r1 jK q1=>k8 ho hE I1 q1 fun x H2 d2 G2 ov s2 lM m2 r2 Ct q2=>?_) hs;obtain⟨a,c,fs,rfl,hg,hc,hl,q⟩:=q2;cases Ct;cases r2;obtain⟨C,dx,fv,hH,AH,hn,rs⟩:=lM.ab a _ hg;obtain⟨C',CY,I0,Xb⟩:=cl c hc;rw [AH] at CY;cases CY;have hlen:fv.length=fs.length:=by have:=congrArg dh hn; simpa using this
 have VU:=jK.mono (m2.kp I1.ab);refine Gy lM.inv hH I0 Xb (by lia) r1 fun s3 I3=>?_;have k:Kp H2 (upd H2 a (.ins C dx (mO f y fv))):=.V1 hH;have m3:Mv X.K H2 G2 (upd H2 a (.ins C dx (mO f y fv))) (cH G2 a (.ins c (putD f d fs))):=.put lM.ab hg k ⟨C,dx,mO f y fv,c8,AH,JP hn,(L1 VU hn rs).mono k⟩;exact⟨σ,_,τ,_,lM.mv I3 m3,(m1.trans m2).trans m3,q⟩
end
section
variable {X:Cx} {k:Nat} {C f:Addr} {fd:ax} {ps:List Str} {sp:jk} {x:Str} {p pos:Pos} {e:Expr} {es:List Expr} {t:BX}
theorem j9(M:Mk X.K C f)(AH:c5 X.K bo x=some (some (.ref C)))(F:dP X.prog X.w X.K X.mg X.base eB k f fd ps (bH X.K sp))(hr:jT (k+1) X.A)(hg:Gl X x)(hm:X.mg x=some (.ref C))(hb:Binds X.K fd ps [])
  (ha:D0 X (e :: es) t) (MK:autoParam ((x == ("__debug__" : Str))=false) Ad._auto_1) (he:autoParam (bY (e :: es) X.env=(false,eval e X.env) :: bY es X.env) Ar._auto_1) (sv:autoParam ((mf pos (bY es X.env)).any (·.1)=false) Ar._auto_1) :
  gN X (.Call (.Name x p) (e :: es) [] pos) (kg x sp t):=by
 intro E pins s σ H τ G Q hE I h;refine ma (CO I.inv hg hm ?_ MK);refine xu (h₀:=X.base) I.inv.ok.mod.RX M.kp (xw ha pos hE I h fun vs H1 ds G1 us s1 I1 m1 r rd q=>⟨I1.inv.AG,?_⟩) he sv;refine gO (LO M F hr hb .nil II I1.inv r (Q:=Ap X.K H1 G1 Q) fun y dx hy hdx ot=>?_) fun _ _ z=>(sf.of z).trans m1;rw [c9];have m2:Mv X.K H1 G1 (upd H1 dx (.own y)) G1:=.PL I1.ab hdx;have hy2:(upd H1 dx (.own y)) y=none:=by rw [bZ ot.symm]; exact hy
 have m3:Mv X.K (upd H1 dx (.own y)) G1 (upd (upd H1 dx (.own y)) y (.ins C dx [])) (cH G1 y (.ins x [])):=.new m2.ab hy2 ⟨C,dx,[],c8,AH,rfl,.nil⟩;have m:=m2.trans m3;refine⟨.ref y :: ds,cH G1 y (.ins x []),fun v G2=>v=.dQ/\Q (.ref y) G2,.cons (.ref y) (rd.mono (m.kp I1.ab)),m.ab,q y (I1.ab.free hy),fun d G' v H' q' m' NO=>?_⟩;obtain⟨rfl,q'⟩:=q';cases NO;exact⟨rfl,.ref y,G',m.trans m',.ref y,q'⟩
end
end K2
end
section
namespace K2
open PySem PySem.Spec PyProof.Rows L2
theorem Bx{m:Str}:∀ (fs:List (Str×D)) (fv:List (Str×V)),fv.map (·.1)=fs.map (·.1)->fs.lookup m=none->fv.lookup m=none:=by
 intro fs;induction fs with
 | nil =>
  intro fv h _;have:fv=[]:=by simpa using h
  subst this; rfl
 | cons p fs ih =>
  intro fv h hl;cases fv with
  | nil=>cases h
  | cons q fv =>
   obtain⟨pk,pd⟩:=p;obtain⟨qk,qv⟩:=q;rw [au,au] at h;injection h with h1 h2
   have h1:qk=pk:=h1;subst h1;rw [mR] at hl ⊢;cases hb:m == qk with
   | true=>rw [hb] at hl; cases hl
   | false=>rw [hb] at hl; exact ih fv h2 hl
section
variable {X:Cx} {k:Nat} {C f:Addr} {fd:ax} {ps:List Str} {sp:jk} {cn m:Str} {apos pos:Pos} {o e:Expr} {es:List Expr} {to:gH} {t:BX}
structure Jv(K:ao)(cn m:Str)(C f:Addr):Prop where
 ns:c5 K bo cn=some (some (.ref C))
 cl:NY K C
 me:Meth K C m f
end
end K2
end
section
namespace K2
open PySem PySem.Spec PyProof.Rows L2
structure ZG(K:ao)(C:Addr):Prop where
 cl:NY K C
 DY:bw K (.ref C) "__class__" = some (some (.builtin "object.__class__"))
 sp:yn K (.builtin "object.__class__") "__get__" = some (some (.builtin "getset_descriptor.__get__"))
 tk:PySem.W.takesIn K (.builtin "object.__class__")=some true
 mo:PySem.W.mroIn K C (.type "object")=some true
end K2
end
section
namespace K2
open PySem PySem.Spec PyProof.Rows L2
noncomputable def NC(X:Cx)(m:Str)(p:Str×jk):Prop:=∃ (C f:Addr) (fd:ax) (ps:List Str) (k:Nat),Jv X.K p.1 m C f/\dP X.prog X.w X.K X.mg X.base eB k f fd ps (bH X.K p.2)/\jT k X.A/\Binds X.K fd ps []
theorem jz{X:Cx}{m:Str}:∀ p∈([]:List (Str×jk)),NC X m p:=fun p h=>by cases h
theorem iE{X:Cx}{m c:Str}{sp:jk}{ms:List (Str×jk)}{C f:Addr}{fd:ax}{ps:List Str}{k:Nat}(M:Jv X.K c m C f)(F:dP X.prog X.w X.K X.mg X.base eB k f fd ps (bH X.K sp))(hr:jT k X.A)(hb:Binds X.K fd ps [])(t:∀ p∈ms,NC X m p):∀ p∈(c,sp) :: ms,NC X m p:=fun p h=>by
 rcases List.mem_cons.mp h with rfl | h
 ·exact⟨C,f,fd,ps,k,M,F,hr,hb⟩
 ·exact t p h
section
variable {X:Cx} {ms:List (Str×jk)} {m:Str} {apos pos:Pos} {o e:Expr} {es:List Expr} {to:gH} {t:BX}
theorem kN{pl:Sem Bool}(Ms:∀ p∈ms,NC X m p)(ho:gN X o to)(ha:D0 X (e :: es) t)
  (Q0:autoParam (bY (e :: es) X.env=(false,eval e X.env) :: bY es X.env) Ar._auto_1) (sv:autoParam ((mf pos (bY es X.env)).any (·.1)=false) Ar._auto_1)
  (ht:autoParam (eval (.Call (.Attribute o m apos) (e :: es) [] pos) X.env=(do
   let ov ← eval o X.env
   standAt apos.atName
   let (f,first) ← K9 [ov] (getMethod ov m pl)
   callWith pos f first (mf pos (bY (e :: es) X.env)) (backToKw pos (BZ [] X.env)))) Ar._auto_1) :
  gN X (.Call (.Attribute o m apos) (e :: es) [] pos) (gL ms m to t):=by
 intro E pins s σ H τ G Q hE I h;refine Jx (pl:=pl) (k8 ho hE I h fun x H1 d G1 u s1 I1 m1 r1 jK q1=>?_) ht;obtain⟨a,c,fs,sp,rfl,hg,Xd,hl,q⟩:=q1;obtain⟨C,f,fd,ps,k,M,F,hr,hb⟩:=Ms _ Xd;cases jK;cases r1;obtain⟨C',dx,fv,hH,AH,hn,rs⟩:=I1.ab a _ hg;have CY:=M.ns.symm.trans AH;cases CY;refine zi I1.inv hH M.cl M.me (Bx fs fv hn hl) ?_;refine xu (first:=[.ref a]) (h₀:=X.base) I.inv.ok.mod.RX M.me.kp (xw ha pos hE I1 q fun vs H2 ds G2 us s2 lM m2 r rd q2=>⟨lM.inv.AG,?_⟩) Q0 sv;refine gO (GB (us:=.ref a :: us) (vs:=.ref a :: vs) F hr hb .nil II lM.inv (.cons rfl r) (Q:=Ap X.K H2 G2 Q) ?_) fun _ _ z=>(sf.of z).trans (m1.trans m2);rw [c9];exact⟨.ref a :: ds,G2,Q,.cons (.ref a) rd,lM.ab,q2,fun d G' v H' q' m' NO=>⟨d,G',m',NO,q'⟩⟩
theorem tD{pl:Sem Bool}(Ms:∀ p∈ms,NC X m p)(ho:gN X o to)
  (ht:autoParam (eval (.Call (.Attribute o m apos) [] [] pos) X.env=(do
   let ov ← eval o X.env
   standAt apos.atName
   let (f,first) ← K9 [ov] (getMethod ov m pl)
   callWith pos f first (mf pos (bY [] X.env)) (backToKw pos (BZ [] X.env)))) Ar._auto_1) :
  gN X (.Call (.Attribute o m apos) [] [] pos) (gL ms m to aH):=by
 intro E pins s σ H τ G Q hE I h;refine Jx (pl:=pl) (k8 ho hE I h fun x H1 d G1 u s1 I1 m1 r1 jK q1=>?_) ht;obtain⟨a,c,fs,sp,rfl,hg,Xd,hl,q⟩:=q1;obtain⟨C,f,fd,ps,k,M,F,hr,hb⟩:=Ms _ Xd;cases jK;cases r1;obtain⟨C',dx,fv,hH,AH,hnm,rs⟩:=I1.ab a _ hg;have CY:=M.ns.symm.trans AH;cases CY;refine zi I1.inv hH M.cl M.me (Bx fs fv hnm hl) ?_;refine PySem.W.callWith_K0 (first:=[.ref a]) I1.inv.AG M.me.kp (gO (GB (us:=[.ref a]) (vs:=[.ref a]) F hr hb .nil II I1.inv (.cons rfl .nil) (Q:=Ap X.K H1 G1 Q) ?_) fun _ _ z=>(sf.of z).trans m1);exact⟨[.ref a],G1,Q,.cons (.ref a) .nil,I1.ab,q,fun d G' v H' q' m' NO=>⟨d,G',m',NO,q'⟩⟩
end
end K2
end
section
namespace K2
open PySem PySem.W PySem.Spec PyProof.Rows L2
theorem WE{α:Type}{us:List α}(h:us.length=7):∃ a b c d e f g,us=[a,b,c,d,e,f,g]:=by
 match us,h with
 | [a,b,c,d,e,f,g],_=>exact⟨a,b,c,d,e,f,g,rfl⟩
theorem O9{K:Frag}{f:Str}:∀ c∈([]:List Str),iw K f c:=fun c h=>by cases h
theorem Ni{K:Frag}{f x:Str}{l:List Str}(h:iw K f x)(t:∀ c∈l,iw K f c):∀ c∈x :: l,iw K f c:=fun c hc=>by
 rcases List.mem_cons.mp hc with rfl | hc
 ·exact h
 ·exact t c hc
theorem iz{K:Frag}{f x:Str}(h:iw K f x):∀ c∈[x],iw K f c:=Ni h O9
structure Pj(K:Frag)(cn:Str)(C:Addr):Prop where
 ns:nsIn K bo cn=some (some (.ref C))
 cl:NY K C
theorem zM {K:Frag} {cn:Str} {C:Addr} (a:autoParam (nsIn K bo cn=some (some (.ref C))) Aq._auto_1) (pg:autoParam (plainGet K C Str.empty=true) Aq._auto_1) (hd:autoParam (hasDictIn K C=true) Aq._auto_1) (po:autoParam (plainOver K C=true) Aq._auto_1) (sa:autoParam (findIn K (.ref C) "__setattr__" = some (some (.builtin "object.__setattr__"))) Aq._auto_1):Pj K cn C:=⟨a,⟨pg,hd,po,sa⟩⟩
theorem Pj.fld{K:Frag}{cn f:Str}{C:Addr}(c:Pj K cn C)(n:wF K C f):iw K f cn:=⟨C,c.ns,c.cl,n⟩
structure FP(K:Frag)(C:Addr)(m q:Str)(st:Stmt)(f:Addr)(fd:ax):Prop where
 at_:findIn K (.ref C) m=some (some (.ref f))
 fn:isFn K (.ref f)=true
 F:L2.kB K m q st f fd
theorem lF{K:Frag}{m q:Str}{C:Addr}{st:Stmt}{f:Addr}{oc:Value}{od an:Option Addr}{JV:Array (Option Value)}{kV doc pm nk ct:Value}(a:autoParam (findIn K (.ref C) m=some (some (.ref f))) Aq._auto_1)(fn:autoParam (isFn K (.ref f)=true) Aq._auto_1)(l:autoParam (K.lookup f=some ⟨oc,od,.func (fnOf m q (L2.jM st) (L2.ik st) (L2.aT st) .none kV doc pm an nk ct),JV⟩) Aq._auto_1)
  (c:autoParam (codeIn K nk q=true) Aq._auto_1) (k:autoParam (keepIn K (.ref f)=true) Aq._auto_1):FP K C m q st f (fnOf m q (L2.jM st) (L2.ik st) (L2.aT st) .none kV doc pm an nk ct):=⟨a,fn,L2.MT l c k⟩
theorem FP.me{K:Frag}{C:Addr}{cn m q:Str}{st:Stmt}{f:Addr}{fd:ax}(z:FP K C m q st f fd)(c:Pj K cn C):Jv K cn m C f:=⟨c.ns,c.cl,⟨z.at_,z.fn,z.F.kp⟩⟩
theorem FP.maker {K:Frag} {C:Addr} {q:Str} {st:Stmt} {f:Addr} {fd:ax} (z:FP K C "__init__" q st f fd) (mk:makesIn K C=true) (kp:keepIn K (.ref C)=true):Mk K C f:=⟨mk,z.at_,z.fn,kp⟩
structure Ba(P:bO)(w:World)(K:Frag)(mg:Str->Option Value)(base:Heap)(CX:L2.Jw)(k:Nat)(f:Addr)(fd:ax)(C:Addr)(cn m:Str)(ps:List Str)(sp:L2.Sp):Prop where
 ok:L2.dP P w K mg base CX k f fd ps sp
 bi:L2.Binds K fd ps []
 me:Jv K cn m C f
structure DS(P:bO)(w:World)(K:Frag)(mg:Str->Option Value)(base:Heap)(k:Nat)(f:Addr)(fd:ax)(C:Addr)(cn:Str)(ps:List Str)(sp:L2.Sp):Prop where
 ok:L2.dP P w K mg base eB k f fd ps sp
 bi:L2.Binds K fd ps []
 OR:Mk K C f
 ns:nsIn K bo cn=some (some (.ref C))
 mg:mg cn=some (.ref C)
structure CIs(K:Frag)(mg:Str->Option Value)(cn:Str)(C:Addr):Prop where
 ns:nsIn K bo cn=some (some (.ref C))
 mg:mg cn=some (.ref C)
end K2
end
section
namespace K2
open PySem PySem.W PySem.Spec PyProof.Rows PySem.Calls
theorem J9{p q:bO}{loose:List Str}{Xt:aB->Bool}{α:Type}{Yf:aB->α}{Ya:World->α}{N:Nat}(e:opening p=plainProg p.main.scope.names)(hN:Nat.ble 600 N=true)(f:∀ s,fenceModules? p s=some s)
  (h:∀ (w:World) (os:lD),(topFrom iR p w N ⟨gb w.params,ko [],iS,tY,os⟩).map (fun s=>(openSeen q loose (md p.main.body) Xt true s,Yf s))=some (KQ q loose,Ya w)):LeftO p q loose Xt Yf Ya N:=fun w=>by
 obtain⟨⟨h',gs,d,k,os⟩,e1,e2⟩:=Option.map_eq_some_iff.mp (boot_open e hN f w);obtain⟨rfl,rfl,rfl,rfl⟩:h'=gb w.params/\gs=ko []/\d=iS/\k=tY:=by simpa using e2
 unfold openEnds;rw [e1];exact h w os
noncomputable abbrev Iq(l:OpenLaw)(q:bO):Bool:=chainsOk q&&opensWell l.row.prog&&(frees l.row.toRowW&&l.row.within.isEmpty)
noncomputable abbrev P6(l:OpenLaw)(q:bO)(s:aB):Bool:=xlAt q [] s&&recOk l.row.records s
theorem Kl{l:OpenLaw}{q:bO}{loose:List Str}{K:sG->Frag}{as:List Addr}{d:DefRec}{N:Nat}(ok:l.wellSaid=true)(e:opening l.row.prog=plainProg l.row.prog.main.scope.names)(hN:Nat.ble 600 N=true)(f:∀ s,fenceModules? l.row.prog s=some s)(hK:∀ P,as=(K P).map (·.1))
  (h:∀ (w:World) (os:lD),(topFrom iR l.row.prog w N ⟨gb w.params,ko [],iS,tY,os⟩).map (fun s=>(openSeen q loose (md l.row.prog.main.body) (P6 l q) true s,as.map s.heap.get?))=some (KQ q loose,(K w.params).map fun p=>some p.2))
  (hd:defOf q l.row.name=some (d,[])) (hp:l.row.prog.theDef l.row.name=some (d.params,d.body,d.scope)) (hk:kwWritten? d.params.kwonlyargs d.params.kw_defaults=some []) (hr:(!l.row.writes||l.row.records.isEmpty)=true) (ht:Iq l q=true) (hb:l.row.prog.bare) (hw:l.row.toRowW.promised)
  (c:WalkO q loose (XL q []) (InK K) l.row.toRowW d [] fun f vs=>Ib f vs):l.Holds :=
 holds_law ok fun k1=>holds_open (J9 (Yf:=Hook.obs (kHook K as hK)) (Ya:=Hook.val (kHook K as hK)) e hN f h) (Hook.of (kHook K as hK)) (Hook.keeps (kHook K as hK)) (fun s x=>xl_of s (Bool.and_eq_true_iff.mp x).1) XL.keeps hd hp hk (fun s x=>recFacts_of (Bool.and_eq_true_iff.mp x).2) hr k1 ht hb hw c
structure At(K:Frag)(x:Str)(st:Stmt)(f:Addr)(fd:ax):Prop where
 a:nsIn K bo x=some (some (.ref f))
 F:L2.kB K x x st f fd
theorem At.mg{K:Frag}{h:Heap}{mg:Str->Option Value}{x:Str}{st:Stmt}{f:Addr}{fd:ax}(z:At K x st f fd)(X:K.In h)(G:h.Ns bo mg):mg x=some (.ref f):=mg_of X G z.a
theorem e9{K:Frag}{x:Str}{st:Stmt}{f:Addr}{oc:Value}{od an:Option Addr}{JV:Array (Option Value)}{kV doc pm nk ct:Value}(a:autoParam (nsIn K bo x=some (some (.ref f))) Aq._auto_1)(l:autoParam (K.lookup f=some ⟨oc,od,.func (fnOf x x (L2.jM st) (L2.ik st) (L2.aT st) .none kV doc pm an nk ct),JV⟩) Aq._auto_1)
  (c:autoParam (codeIn K nk x=true) Aq._auto_1) (k:autoParam (keepIn K (.ref f)=true) Aq._auto_1):At K x st f (fnOf x x (L2.jM st) (L2.ik st) (L2.aT st) .none kV doc pm an nk ct):=⟨a,L2.MT l c k⟩
structure kS(P:bO)(w:World)(K:Frag)(mg:Str->Option Value)(base:Heap)(CX:L2.Jw)(k:Nat)(f:Addr)(fd:ax)(x:Str)(ps:List Str)(sp:L2.Sp):Prop where
 ok:L2.dP P w K mg base CX k f fd ps sp
 mg:mg x=some (.ref f)
 kp:keepIn K (.ref f)=true
 bi:L2.Binds K fd ps []
end K2
end
section
namespace K2
open PySem PySem.W PySem.Spec PyProof.Rows PySem.Calls
noncomputable def ua(tb:String->Option Builtin)(p:bO)(w:World)(oH:Nat)(ann:Option Value):Nat->nG->Thread->Option nG
 | 0,_,_=>none
 | n+1,s,t=>match through t with
  | true=>some s
  | false=>match stepOk oH ann t with
   | false=>none
   | true=>match stepT (denote tb) p w s t with
    | some (s',t')=>ua tb p w oH ann n s' t'
    | none=>none
theorem Ou{tb:String->Option Builtin}{p:bO}{w:World}{oH:Nat}{ann:Option Value}:∀ {n:Nat} {s s':nG} {t:Thread},ua tb p w oH ann n s t=some s'->topRun tb p w oH ann n s.abs t=some s'.abs:=by
 intro n;induction n with
 | zero=>intro s s' t h; cases h
 | succ n ih =>
  intro s s' t h;unfold ua at h;unfold topRun;cases ht:through t with
  | true=>rw [ht] at h; cases h; rfl
  | false =>
   rw [ht] at h;cases hk:stepOk oH ann t with
   | false=>rw [hk] at h; cases h
   | true =>
    rw [hk] at h;cases hs:stepT (denote tb) p w s t with
    | none=>rw [hs] at h; cases h
    | some r =>
     obtain⟨kI,VG⟩:=r;rw [hs] at h;rw [stepT_spec hs];exact ih h
noncomputable def bt(l:List Obj):BT:=(l.foldl (fun (p:BT×Nat) o=>(p.1.ins p.2 o,p.2+1)) (BT.nil,0)).1
noncomputable def Nq(P:sG)(os:lD):nG:=⟨bt (gb P).objs.toList,(gb P).objs.size,(gb P).life,ko [],iS,tY,os⟩
theorem KG(P:sG)(os:lD):(Nq P os).abs=⟨gb P,ko [],iS,tY,os⟩:=by kernel_rfl
noncomputable abbrev PC{α:Type}(p q:bO)(loose:List Str)(Xt:aB->Bool)(Yf:aB->α)(P:sG)(s:aB):=((staticsOk (md p.main.body) (gb P) s.heap&&namesBound p s.heap&&gensDone s&&laidKept (gb P) s.heap),openSeen q loose (md p.main.body) Xt true s,Yf s)
end K2
end
section
namespace K2
open PySem PySem.W PySem.Spec PyProof.Rows PySem.Calls
noncomputable def Ud(tb:String->Option Builtin)(p:bO)(w:World)(oH:Nat)(ann:Option Value):Nat->nG->Thread->Option (nG×Thread)
 | 0,s,t=>some (s,t)
 | n+1,s,t=>match through t with
  | true=>none
  | false=>match stepOk oH ann t with
   | false=>none
   | true=>match stepT (denote tb) p w s t with
    | some (s',t')=>Ud tb p w oH ann n s' t'
    | none=>none
section
variable {tb:String->Option Builtin} {p:bO} {w:World} {oH:Nat} {ann:Option Value} {b:List Stmt} {env:Env} {c:Code} {q pos p':Pos}
theorem Rj:∀ {n:Nat} {s s':nG} {t t':Thread},Ud tb p w oH ann n s t=some (s',t')->topGo tb p w oH ann n s.abs t=some (s'.abs,t'):=by
 intro n;induction n with
 | zero=>intro s s' t t' h; cases h; rfl
 | succ n ih =>
  intro s s' t t' h;unfold Ud at h;unfold topGo;cases ht:through t with
  | true=>rw [ht] at h; cases h
  | false =>
   rw [ht] at h;cases hk:stepOk oH ann t with
   | false=>rw [hk] at h; cases h
   | true =>
    rw [hk] at h;cases hs:stepT (denote tb) p w s t with
    | none=>rw [hs] at h; cases h
    | some r =>
     obtain⟨kI,VG⟩:=r;rw [hs] at h;rw [stepT_spec hs];exact ih h
theorem KA{nA nB N:Nat}{s0 sA sB:nG}{r:aB}(h1:Ud tb p w oH ann nA s0 (topStub p)=some (sA,⟨denote tb (.body b env),c,pos,[oe q]⟩))(h2:segRunT tb p w oH ann 1 nB sA (blockOf b env c pos [oe q])=some (.next,sB,c,p'))
  (k:topRun tb p w oH ann N sB.abs (restOf b env c p' [oe q])=some r):topRun tb p w oH ann (nA+(nB+N)) s0.abs (topStub p)=some r:=go_top (Rj h1) (piece_block (segRun_of h2) k)
theorem zI(k:Nat){n N:Nat}{s s':nG}{r:aB}(h:segRunT tb p w oH ann 1 n s (piecesOf (b.take k) env c pos [oe q])=some (.next,s',c,p'))
  (hk:topRun tb p w oH ann N s'.abs (restOf (b.drop k) env c p' [oe q])=some r):topRun tb p w oH ann (n+N) s.abs (restOf b env c pos [oe q])=some r:=by
 have:=piece_app (segRun_of h) hk
 rwa [cy] at this
end
theorem Oj{p q:bO}{loose:List Str}{Xt:aB->Bool}{α:Type}{Yf:aB->α}{Ya:World->α}{N M:Nat}{w:World}{os:lD}{OQ:Nat}{ann:Option Value}{sL:nG}{tL:Thread}
  (hz:((gb w.params).isNs bo,(gb w.params).objs.size,(gb w.params).nsMap bo "__annotations__")=(true,OQ,ann))
  (h:(ua iR p w OQ ann M sL tL).map (fun s=>PC p q loose Xt Yf w.params s.abs)=some (true,KQ q loose,Ya w))
  (k:∀ r,topRun iR p w OQ ann M sL.abs tL=some r->topRun iR p w OQ ann N (Nq w.params os).abs (topStub p)=some r) :
  (topFrom iR p w N ⟨gb w.params,ko [],iS,tY,os⟩).map (fun s=>(openSeen q loose (md p.main.body) Xt true s,Yf s))=some (KQ q loose,Ya w):=by
 obtain⟨s,e1,e2⟩:=Option.map_eq_some_iff.mp h;have r:=k _ (Ou e1);rw [KG] at r;obtain⟨z1,z2,z3⟩:_/\_/\_:=by simpa only [Gh] using hz
 obtain⟨l1,l2,l3⟩:_/\_/\_:=by simpa only [Gh] using e2
 have t:topFrom iR p w N ⟨gb w.params,ko [],iS,tY,os⟩=some s.abs:=by
  unfold topFrom;dsimp only;have g:((ko []:Array GenState).size == 0)=true:=rfl;rw [z1,z2,z3,g,KS,r];dsimp only [Option.bind_some];rw [l1]
 rw [t];exact congrArg some (Prod.ext l2 l3)
end K2
end
section
namespace K2
open PySem (Str)
open Enc (enc)
theorem M3{α:Type} [DecidableEq α] [Enc α](xs:List α):(enc xs:D)=.eY (xs.map enc):=rfl
theorem kO{α:Type} [DecidableEq α] [Enc α]{G G1:Gp}{p:Nat}{xs:List α}{Q:DK}(l:fy G G1)(hp:G p=none)(h1:G1 p=some (.lst (xs.map enc)))(q:Q (enc xs) G):NF G1 (.ref p) Q :=
 Hq l hp h1 (DP.same _) q
theorem fL{α:Type}{f:α->D}{g:BW}{body:fY}{ok:Gp->Prop}{xs:List α}{E:lL}{K:kF}{τ:ib}{G:Gp}(I:List α->ib->Gp->Prop)
  (h0:I [] τ G) (eV:∀ pre τ G,I pre τ G->ok G)
  (step:∀ (pre:List α) (x:α) (post:List α) τ G (N:ib->Gp->Prop),xs=pre++x :: post->I pre τ G->(∀ Bg G2,I (pre++[x]) Bg G2->N Bg G2) ->
   g E (f x) τ G fun sM G1=>body E { K with nx:=N,ct:=N,bk:=K.nx } sM G1)
  (fin:∀ τ G,I xs τ G->K.nx τ G):qW g body ok (xs.map f) E K τ G:=by
 have main:∀ (post pre:List α) τ G,xs=pre++post->I pre τ G->qW g body ok (post.map f) E K τ G:=by
  intro post;induction post with
  | nil =>
   intro pre τ G e h;rw [c9] at e;subst e;exact⟨eV _ _ _ h,fin _ _ h⟩
  | cons d post ih =>
   intro pre τ G e h;refine⟨eV _ _ _ h,?_⟩;exact step pre d post τ G _ e h fun Bg G2 h2=>ih (pre++[d]) Bg G2 (by rw [e,bS]; rfl) h2
 exact main xs [] τ G rfl h0
theorem lu{α:Type}{f:α->D}{g:BW}{c:Option xM}{e:gH}{ok:Gp->Prop}{xs:List α}{E:lL}{τ:ib}{G:Gp}{Q:List D->Gp->Prop}(I:List α->List D->ib->Gp->Prop)
  (h0:I [] [] τ G) (eV:∀ pre acc τ G,I pre acc τ G->ok G)
  (step:∀ (pre:List α) (x:α) (post:List α) (acc:List D) τ G (N:ib->List D->Gp->Prop),xs=pre++x :: post->I pre acc τ G->(∀ Bg KI G2,I (pre++[x]) KI Bg G2->N Bg KI G2) ->
   g E (f x) τ G fun sM G1=>match c with
    | none=>e E sM G1 fun x G2=>N sM (acc++[x]) G2
    | some c=>c E sM G1 fun k G2=>if k=true then e E sM G2 fun x G3=>N sM (acc++[x]) G3 else N sM acc G2)
  (fin:∀ acc τ G,I xs acc τ G->Q acc G):jP g c e ok (xs.map f) E τ G [] Q:=by
 have main:∀ (post pre:List α) (acc:List D) τ G,xs=pre++post->I pre acc τ G->jP g c e ok (post.map f) E τ G acc Q:=by
  intro post;induction post with
  | nil =>
   intro pre acc τ G e h;rw [c9] at e;subst e;exact⟨eV _ _ _ _ h,fin _ _ _ h⟩
  | cons d post ih =>
   intro pre acc τ G e' h;refine⟨eV _ _ _ _ h,?_⟩;have:=step pre d post acc τ G (fun Bg KI G2=>jP g c e ok (post.map f) E Bg G2 KI Q) e' h fun Bg KI G2 h2=>ih (pre++[d]) KI Bg G2 (by rw [e',bS]; rfl) h2;cases c with
   | none=>exact this
   | some c=>exact this
 exact main xs [] [] τ G rfl h0
theorem ij{α:Type} [DecidableEq α] [Enc α]{xs:List α}{G:Gp}{R:List D->(Gp->Prop)->Gp->Prop}(h:R (xs.map enc) (fun _=>True) G):NR (enc xs) G R:=h
theorem EZ{α:Type} [DecidableEq α] [Enc α]{xs:List α}{G:Gp}{R:List D->(Gp->Prop)->Gp->Prop}(h:R (mz 0 (xs.map enc)) (fun _=>True) G):u7 (enc xs) G R:=h
theorem FW{n:Nat}(h:n<=1000):n<=SZ:=by unfold SZ; lia
theorem xx{n:Nat}(h:n<=1000):n < SZ:=by unfold SZ; lia
noncomputable abbrev Rows:=List (List T3)
noncomputable def T3.s(p:T3):T2:=⟨p.a,p.b⟩
structure Dr(rows:Rows):Prop where
 nd:(rows.flatten.map T3.s).Nodup
 way:∀ p∈rows.flatten,p.b=0\/p.b=1
 hand:∀ p∈rows.flatten,p.c=1\/p.c=-1
 yS:∀ p∈rows.flatten,(⟨p.a,1 - p.b,p.c⟩:T3)∈rows.flatten
 xH:rows.flatten.length<=24
 str:rows.length<=3
namespace P
noncomputable def gR:jk:=Qf (fun rows:Rows=>rows.flatten.length<=1000) fun rows=>rows.flatten
noncomputable def qF:fY :=
 (bI (bU (fW aH) (aK 1))
 (bI (eD (jS (ai 0)) (aK 2) (ee (p8 t9 x6 (ai 1) (ak (ai 2) aH))))
 (bA (dc (ai 1)))))
theorem zU(ds:List D)(G:Gp)(Q:DK)(h:gR ds G Q fun _ _=>False):qF (fun _ _=>False) (ends Q) (aW 3 ds) G:=by
 obtain⟨rows,rfl,hl,q⟩:=h;unfold qF;simp only [ends,aW,au,aO,ag,aw,aZ,aA,aE,dE,bU,fW,aH,aK,aq,aj];refine⟨by decide,fun p hp=>?_⟩;refine cJ (fun τ G'=>(∃ b,τ=[some (enc rows),some (.ref p),b])/\fy G G'/\G' p=some (.lst (rows.flatten.map enc))) ?_ ?_
 ·intro N hN;simp only [eD,dj,ai,aa];refine ij ?_;refine fL (xs:=rows) (fun pre τ G'=>(∃ b,τ=[some (enc rows),some (.ref p),b])/\fy G G'/\G' p=some (.lst (pre.flatten.map enc))) ⟨⟨_,rfl⟩,.new hp,aF⟩ (fun _ _ _ _=>trivial) ?_ ?_
  ·rintro pre r post τ G' N2 e ⟨⟨b,rfl⟩,l,gp⟩ zh;have hlen:pre.flatten.length+r.length<=rows.flatten.length:=by
    rw [e]; simp only [oU,bz,aI]; lia
   simp only [aK,ee,p8,ai,aq,aj,ae,aa,iL,gp,ak,aH,nc,mr (IsL.enc r),true_and];refine⟨FW (by simp only [av]; lia),?_⟩;refine zh _ _ ⟨⟨_,rfl⟩,l.put hp,?_⟩;rw [aF]; simp
  ·rintro τ G' ⟨⟨b,rfl⟩,l,gp⟩;exact hN _ _ ⟨⟨_,rfl⟩,l,gp⟩
 ·rintro _ G' ⟨⟨b,rfl⟩,l,gp⟩;simp only [bA,dc,ai,ae,aa];exact kO l hp gp q
theorem nS(p:T3):(enc p:D)=.tup [.int p.a,.int p.b,.int p.c]:=rfl
theorem Jf(i:Int):(enc i:D)=.int i:=rfl
theorem Js{a:D}{r:List D}:oY (a :: r) 0=some a:=by
 rw [gG _ (by lia) (by simp)]; rfl
theorem DY{a b:D}{r:List D}:oY (a :: b :: r) 1=some b:=by
 rw [gG _ (by lia) (by simp; lia)]; rfl
theorem at2{a b c:D}{r:List D}:oY (a :: b :: c :: r) 2=some c:=by
 rw [gG _ (by lia) (by simp; lia)]; rfl
noncomputable def names(rows:Rows):List Int:=NN ((rows.flatten.filter fun p=>p.b == 0).map (·.a))
noncomputable def handOf(rows:Rows)(n:Int):Int:=((rows.flatten.find? fun p=>p.a == n).map (·.c)).getD 0
noncomputable def o8:jk:=Sy (fun (rows:Rows) (n:Int)=>rows.flatten.length<=1000/\∃ p∈rows.flatten,p.a=n) handOf
noncomputable def yM:fY :=
 (bI (eD (jS (bg gR (ak (ai 0) aH))) (aK 2) (cN (da (aP (oW false) (aP eW (ai 2) (dC (.int 0))) (ai 1))) (bA (dc (aP eW (ai 2) (dC (.int 2))))) bD))
 rD)
theorem HU(ds:List D)(G:Gp)(Q:DK)(h:o8 ds G Q fun _ _=>False):yM (fun _ _=>False) (ends Q) (aW 3 ds) G:=by
 obtain⟨rows,n,rfl,⟨hl,hn⟩,q⟩:=h;unfold yM;refine cJ (fun τ G'=>False) ?_ (fun _ _ h=>h.elim);intro N hN;simp only [eD,aW,au,aO,ag,aw,aZ,aA,aE,ends,dj,bg,ak,ai,aa,aH];refine⟨rows,rfl,hl,ij ?_⟩;refine fL (xs:=rows.flatten) (fun pre τ G'=>G=G'/\(∃ a,τ=[some (enc rows),some (enc n),a])/\∀ p∈pre,p.a≠n) ⟨rfl,⟨_,rfl⟩,by simp⟩ (fun _ _ _ _=>trivial) ?_ ?_
 ·rintro pre x post τ G' N2 e ⟨rfl,⟨a,rfl⟩,hp⟩ zh;simp only [aK,cN,Jf,nS,aq,aj,bA,dc,aP,ai,ae,aa,dC,cX,at2,bD,bX,Js];refine⟨_,_,.int _,.int _,?_⟩;simp only [ah,rh,if_false,aS];by_cases hx:x.a=n
  ·simp only [hx,beq_self_eq_true,if_true];refine fX ?_;have:handOf rows n=x.c:=by
    unfold handOf;have:rows.flatten.find? (fun p=>p.a == n)=some x:=by
     rw [e,Bf];have:pre.find? (fun p=>p.a == n)=none:=by
      rw [qf]; intro p W4; simpa using hp p W4
     rw [this];simp [hx]
    rw [this]; rfl
   rw [<-this]; exact q
  ·have:(x.a == n)=false:=by simpa using hx
   simp only [this,ah,if_false];refine zh _ _ ⟨rfl,⟨_,rfl⟩,fun p W4=>?_⟩;rcases List.mem_append.mp W4 with h | h
   ·exact hp p h
   ·rw [List.mem_singleton.mp h]; exact hx
 ·rintro τ G' ⟨rfl,_,hp⟩;obtain⟨p,MF,sx⟩:=hn;exact absurd sx (hp p MF)
noncomputable def bQ(row:List T3)(i:Int):List T2:=if row=[] then [⟨i,2⟩] else row.map T3.s
noncomputable def hZ:jk:=Sy (fun (row:List T3) (_:Int)=>row.length<=1000) bQ
noncomputable def wY:fY :=
 (bI (cN (e8 (da (ai 0))) (bA (dc (fW (ak (fF (ak (ai 1) (ak (dC (.int 2)) aH))) aH)))) bD)
 (bA (dc (gZ 1 [] (jS (ai 0)) (aK 0) none (yb (ai 0) eI (mC (dC (.int 2))))))))
theorem FK(ds:List D)(G:Gp)(Q:DK)(h:hZ ds G Q fun _ _=>False):wY (fun _ _=>False) (ends Q) (aW 2 ds) G:=by
 obtain⟨row,i,rfl,hl,q⟩:=h;unfold wY;refine cJ (fun τ G'=>G=G'/\τ=[some (enc row),some (enc i)]/\row≠[]) ?_ ?_
 ·intro N hN;simp only [cN,e8,aW,au,aO,ag,aw,aA,aE,bA,dc,fW,ak,fF,ai,ae,aa,dC,aH,ends,bD,bX];refine yv (IsL.enc row) ?_;cases row with
  | nil =>
   simp only [aO,tj,aJ,bL,if_true];refine⟨by decide,by decide,fun p hp=>kO (xs:=[(⟨i,2⟩:T2)]) (.new hp) hp aF ?_⟩;exact q
  | cons a r =>
   simp only [au,rQ,bL,aJ,ah,if_false];exact hN _ _ ⟨rfl,rfl,by simp⟩
 rintro _ _ ⟨rfl,rfl,ot⟩;simp only [bA,dc,gZ,ends,dj,ai,aa];refine ij ⟨FW (by rw [av]; exact hl),?_⟩;refine lu (xs:=row) (fun pre acc τ G'=>G=G'/\(∃ a,τ=[a])/\acc=(pre.map T3.s).map enc) ⟨rfl,⟨_,rfl⟩,rfl⟩ (fun _ _ _ _ _=>trivial) ?_ ?_
 ·rintro pre x post acc τ G' N e ⟨rfl,⟨a,rfl⟩,rfl⟩ hN;simp only [aK,yb,ai,nS,aj,aa,eI,uR,ag,aw,jC,dC,ig];refine⟨by decide,hN _ _ _ ⟨rfl,⟨_,rfl⟩,?_⟩⟩;rw [aL,aL]; rfl
 ·rintro acc τ G' ⟨rfl,⟨a,rfl⟩,rfl⟩ p hp;refine kO (.new hp) hp aF ?_;have:bQ row i=row.map T3.s:=by unfold bQ; rw [if_neg ot]
  rw [<-this]; exact q
noncomputable def bK:Rows->Nat->List T2
 | [],_=>[]
 | r :: rs,k=>bQ r (k:Int)++bK rs (k+1)
theorem o6:∀ (a b:Rows) (k:Nat),bK (a++b) k=bK a k++bK b (k+a.length)
 | [],b,k=>by simp [bK]
 | r :: a,b,k=>by rw [aA,bK,bK,o6 a b (k+1),bS,ag]; congr 3; lia
noncomputable def Pp(rows:Rows):List T2:=NN (bK rows 0)
theorem M0(xs:List (List T3)):mz 0 (xs.map enc)=(xs.zipIdx 0).map fun p=>D.tup [.int (p.2:Int),enc p.1]:=by
 have:∀ (xs:List (List T3)) (k:Nat),mz k (xs.map enc)=(xs.zipIdx k).map fun p=>D.tup [.int (p.2:Int),enc p.1]:=by
  intro xs;induction xs with
  | nil=>intro k; rfl
  | cons x xs ih=>intro k; rw [au,mz,ih,tf,au]
 exact this xs 0
theorem B7{α:Type}{xs:List α}{pre post:List (α×Nat)}{x:α×Nat}(h:xs.zipIdx 0=pre++x :: post):∃ l r,xs=l++x.1 :: r/\x.2=l.length/\pre=l.zipIdx 0:=by
 have e1:xs=(pre.map (·.1))++x.1 :: post.map (·.1):=by
  have:=congrArg (List.map (·.1)) h;rw [List.zipIdx_map_fst] at this;rw [this]; simp
 have hl:pre.length < (xs.zipIdx 0).length:=by rw [h]; simp
 have hx:(xs.zipIdx 0)[pre.length]?=some x:=by rw [h]; simp
 refine⟨pre.map (·.1),post.map (·.1),e1,?_,?_⟩
 ·rw [N9] at hx;rw [av];cases q:xs[pre.length]? with
  | none=>rw [q] at hx; cases hx
  | some y=>rw [q] at hx; simp at hx; rw [<-hx]
 ·have:(pre.map (·.1)).zipIdx 0=(xs.zipIdx 0).take pre.length:=by
   conv=>rhs; rw [e1,qc]
   rw [DT (by simp)];rw [lP (by simp)]
  rw [this,h]; simp
theorem XM{a b c:D}:cut [a,b,c] none (some 2)=[a,b]:=rfl
theorem J4{α:Type} [DecidableEq α] [Enc α](xs:List α)(G:Gp):yY (enc xs) G=some (xs.map enc,fun _=>True):=rfl
theorem J3{a:Nat}{ds:List D}{G:Gp}(h:G a=some (.lst ds)):yY (.ref a) G=some (ds,fun G2=>G2 a=some (.lst ds)):=by unfold yY; simp only [h]
theorem D8{α β:Type} [DecidableEq α] [Enc α] [DecidableEq β] [Enc β]:∀ (xs:List α) (ys:List β),sk (xs.map enc) (ys.map enc)=(xs.zip ys).map fun p=>D.tup [enc p.1,enc p.2]
 | [],ys=>by simp [sk]
 | x :: xs,[]=>by simp [sk]
 | x :: xs,y :: ys=>by simp [sk,D8 xs ys]
theorem JI{κ α:Type} [DecidableEq κ] [Enc κ] [rL κ] [DecidableEq α] [Enc α]{a:Nat}{l:List (κ×α)}{k:κ}{v:α}{G:Gp}{Q:Gp->Prop}(h:G a=some (.mH (jB l)))(hl:l.length<=1000)(q:Q (cH G a (.mH (jB (wA l k v))))):Em (.ref a) (enc k) (enc v) G Q:=by
 unfold Em;simp only [h];refine⟨zc l k,?_,by rw [OB]; exact q⟩;unfold jB; rw [av]; exact xx hl
noncomputable def fI(r:List T3):List T3:=r.drop 1++r.take 1
noncomputable def pairsOf(rows:Rows):List (T3×T3):=rows.flatMap fun r=>r.zip (fI r)
noncomputable def lj(ps:List (T3×T3)):List (T2×T2):=ps.foldl (fun l p=>wA l p.1.s p.2.s) []
theorem JY(ps:List (T3×T3)):(lj ps).length<=ps.length:=by
 have:∀ (ps:List (T3×T3)) (l:List (T2×T2)),(ps.foldl (fun l p=>wA l p.1.s p.2.s) l).length<=l.length+ps.length:=by
  intro ps;induction ps with
  | nil=>intro l; simp
  | cons p ps ih =>
   intro l;rw [oT,ag];have h1:=ih (wA l p.1.s p.2.s);have h2:=Nx l p.1.s p.2.s;lia
 simpa [lj] using this ps []
theorem GQ(ps:List (T3×T3))(p:T3×T3):lj (ps++[p])=wA (lj ps) p.1.s p.2.s:=by unfold lj; rw [List.foldl_append]; rfl
noncomputable def kJ:jk:=fun ds G Q _=>∃ rows:Rows,ds=[enc rows]/\rows.flatten.length<=500/\Q (.wV (jB (lj (pairsOf rows)))) G
theorem pairs_len(rows:Rows):(pairsOf rows).length<=rows.flatten.length:=by
 unfold pairsOf;induction rows with
 | nil=>simp
 | cons r rs ih=>simp only [eS,bz,aI,List.length_zip]; lia
noncomputable def yI:fY :=
 (bI (bU Kz (aK 1))
 (bI (eD (jS (ai 0)) (aK 2) (eD (QX (ai 2) (aP kA (yb (ai 2) (mC (dC (.int 1))) eI) (yb (ai 2) eI (mC (dC (.int 1)))))) (Kr (sX (aK 3) (sX (aK 4) Ho))) (bU (yb (ai 4) eI (mC (dC (.int 2)))) (MR (ai 1) (yb (ai 3) eI (mC (dC (.int 2))))))))
 (bA (dc (ai 1)))))
theorem HP(ds:List D)(G:Gp)(Q:DK)(h:kJ ds G Q fun _ _=>False):yI (fun _ _=>False) (ends Q) (aW 5 ds) G:=by
 obtain⟨rows,rfl,hl,q⟩:=h;unfold yI;simp only [ends,aW,au,aO,ag,aw,aZ,aA,aE,dE,bU,Kz,lr,aK,aq,aj];intro d hd;refine cJ (fun τ G'=>(∃ a b c,τ=[some (enc rows),some (.ref d),a,b,c])/\fy G G'/\G' d=some (.mH (jB (lj (pairsOf rows))))) ?_ ?_
 ·intro N hN;simp only [eD,dj,ai,aa];refine ij ?_;refine fL (xs:=rows) (fun pre τ G'=>(∃ a b c,τ=[some (enc rows),some (.ref d),a,b,c])/\fy G G'/\G' d=some (.mH (jB (lj (pairsOf pre))))) ⟨⟨_,_,_,rfl⟩,.new hd,aF⟩ (fun _ _ _ _=>trivial) ?_ ?_
  ·rintro pre r post τ G' N2 e ⟨⟨a,b,c,rfl⟩,l,gd⟩ zh;have hr:pre.flatten.length+r.length<=rows.flatten.length:=by
    rw [e]; simp only [oU,bz,aI]; lia
   simp only [aK,eD,QX,ai,aq,aj,ae,aa,aP,yb,eI,jC,dC,ig];refine nJ (IsL.enc r) fun p1 h1=>?_;refine nJ (IsL.enc r) fun p2 h2=>?_;have d1:d≠p1:=by rintro rfl; rw [gd] at h1; cases h1
   have l1:=l.trans (fy.new (o:=.lst (cut (r.map enc) (some 1) none)) h1);have d2:d≠p2:=by rintro rfl; rw [ez d1,gd] at h2; cases h2
   have h12:p1≠p2:=by rintro rfl; rw [aF] at h2; cases h2
   refine uT (IsL.ref (by rw [ez h12,aF])) (IsL.ref aF) ?_ fun p3 h3=>?_
   ·rw [nj,nj,av,av];have e1:(cut r (some 1) none).length<=r.length:=by unfold cut; rw [cA,cD]; lia
    have e2:(cut r none (some 1)).length<=r.length:=by unfold cut; rw [cA,cD]; lia
    exact FW (by lia)
   have d3:d≠p3:=by rintro rfl; rw [ez d2,ez d1,gd] at h3; cases h3
   have et:cut (r.map enc) (some 1) none++cut (r.map enc) none (some 1)=(fI r).map enc:=by
    rw [nj,nj,<-aL];congr 1;cases r with
    | nil=>rfl
    | cons x r=>rw [show (1:Int)=((1:Nat):Int) from rfl,zJ _ _ (by simp),HK _ _ (by simp)]; rfl
   rw [et];generalize Xz:cH (cH (cH G' p1 (.lst (cut (r.map enc) (some 1) none))) p2 (.lst (cut (r.map enc) none (some 1)))) p3 (.lst ((fI r).map enc))=G3;have g3:G3 p3=some (.lst ((fI r).map enc)):=by rw [<-Xz,aF]
   have XC:G3 d=some (.mH (jB (lj (pairsOf pre)))):=by rw [<-Xz,ez d3,ez d2,ez d1]; exact gd
   have l3:fy G G3:=by rw [<-Xz]; exact(l1.trans (.new h2)).trans (.new h3)
   unfold zg;rw [J4,J3 g3];dsimp only;rw [D8];refine fL (xs:=r.zip (fI r)) (fun pp τ G'=>(∃ a b c,τ=[some (enc rows),some (.ref d),a,b,c])/\fy G G'/\G' d=some (.mH (jB (lj (pairsOf pre++pp))))/\G' p3=some (.lst ((fI r).map enc)))
    ⟨⟨_,_,_,rfl⟩,l3,by rw [c9]; exact XC,g3⟩ (fun _ _ _ h=>⟨trivial,h.2.2.2⟩) ?_ ?_
   ·rintro pp x post τ G4 N3 e4 ⟨⟨a,b,c,rfl⟩,l4,O1,Ri⟩ Hm;have hz:(pairsOf pre++pp).length<=1000:=by
     have:=pairs_len pre;have h5:pp.length < (r.zip (fI r)).length:=by rw [e4]; simp
     rw [List.length_zip] at h5;rw [aI]; lia
    simp only [Kr,sX,aK,Ho,bU,yb,ai,nS,aq,aj,ae,aa,eI,MR,uR,ag,aw,jC,dC,ig,XM];refine⟨by decide,by decide,?_⟩;refine JI (k:=x.1.s) (v:=x.2.s) O1 (eU (JY _) hz) ?_;refine Hm _ _ ⟨⟨_,_,_,rfl⟩,l4.put hd,?_,by rw [ez (fD d3)]; exact Ri⟩;rw [aF,<-bS,GQ]
   ·rintro τ G4 ⟨⟨a,b,c,rfl⟩,l4,O1,Ri⟩;refine zh _ _ ⟨⟨_,_,_,rfl⟩,l4,?_⟩;have:pairsOf (pre++[r])=pairsOf pre++r.zip (fI r):=by unfold pairsOf; simp
    rw [this]; exact O1
  ·rintro τ G' ⟨⟨a,b,c,rfl⟩,l,gd⟩;exact hN _ _ ⟨⟨_,_,_,rfl⟩,l,gd⟩
 ·rintro _ G' ⟨⟨a,b,c,rfl⟩,l,gd⟩;simp only [bA,dc,ai,ae,aa];exact Rm l hd gd q
noncomputable def To(s:T2):T3:=⟨s.a,s.b,0⟩
noncomputable def SK(s:T2):T3:=⟨s.a,s.b,1⟩
noncomputable def Qh(ss:List T2):List T3:=ss.flatMap fun s=>[To s,SK s]
end P
end K2
end
section
namespace K2
open PySem (Str)
open Enc (enc)
class inductive Cn {α:Type} (ps:List (α×α)):α->α->Prop
 | refl (x:α):Cn ps x x
 | pair {x y:α}:(x,y)∈ps->Cn ps x y
 | symm {x y:α}:Cn ps x y->Cn ps y x
 | trans {x y z:α}:Cn ps x y->Cn ps y z->Cn ps x z
theorem uS{α:Type} [DecidableEq α] [Enc α]{neg:Bool}{x:α}{xs:List α}{G:Gp}{Q:DK}(hd:Enc.dep α<=7)(q:Q (.bl (if neg then !decide (x∈xs) else decide (x∈xs))) G):Bp neg (enc x) (enc xs) G Q:=by
 refine⟨enc x,xs.map enc,Enc.sn _ _ _ (by unfold SN; lia),tu G 7 hd xs,?_⟩;rw [DC]; exact q
theorem fg{α:Type} [DecidableEq α] [Enc α]{neg:Bool}{x y:α}{G:Gp}{Q:DK}(hd:Enc.dep α<=8)(q:Q (.bl (if neg then !decide (x=y) else decide (x=y))) G):oW neg (enc x) (enc y) G Q:=by
 refine⟨enc x,enc y,Enc.sn _ _ _ hd,Enc.sn _ _ _ hd,?_⟩;rw [Enc.eqv]; exact q
class DQ (α:Type) [DecidableEq α] [Enc α] [cj α] where
 mn:∀ {x:D} {G:Gp} {xs:List α} {Q:DK},itemsOf x G=some (xs.map enc)->xs≠[]->(∀ m∈xs,(∀ y∈xs,EU m y=true)->Q (enc m) G)->KC [x] G Q
theorem kP{α:Type} [DecidableEq α] [Enc α] [cj α]:∀ (r:List α) (a:α),r.foldl (fun m x=>if cj.lt x m=true then x else m) a∈a :: r/\∀ y∈a :: r,EU (r.foldl (fun m x=>if cj.lt x m=true then x else m) a) y=true
 | [],a=>⟨by simp,fun y hy=>by rw [List.mem_singleton.mp hy]; unfold EU; rw [List.foldl_nil,cj.OW]; rfl⟩
 | b :: r,a=>by
  rw [oT];by_cases c:cj.lt b a=true
  ·rw [if_pos c];obtain⟨h1,h2⟩:=kP r b;refine⟨aR _ h1,fun y hy=>?_⟩;rcases List.mem_cons.mp hy with rfl | hy
   ·refine Bz _ _ _ (h2 b (by simp)) ?_;unfold EU;cases q:cj.lt y b with
    | false=>rfl
    | true=>have:=cj.trans _ _ _ q c; rw [cj.OW] at this; cases this
   ·exact h2 y hy
  ·rw [if_neg c];obtain⟨h1,h2⟩:=kP r a;refine⟨?_,fun y hy=>?_⟩
   ·rcases List.mem_cons.mp h1 with h | h
    ·rw [h]; simp
    ·exact aR _ (aR _ h)
   ·rcases List.mem_cons.mp hy with rfl | hy
    ·exact h2 y (by simp)
    ·rcases List.mem_cons.mp hy with rfl | hy
     ·refine Bz _ _ _ (h2 a (by simp)) ?_;unfold EU; simpa using c
     ·exact h2 y (aR _ hy)
noncomputable instance:DQ Int where
 mn:=by
  intro x G xs Q hi ot k;cases xs with
  | nil=>exact absurd rfl ot
  | cons a r =>
   obtain⟨h1,h2⟩:=kP r a;refine .inl ⟨a :: r,_,hi,rfl,?_⟩;have:(fun (m x:Int)=>if x < m then x else m)=fun m x=>if cj.lt x m=true then x else m:=by
    funext m x;show (if x < m then x else m)=if decide (x < m)=true then x else m
    simp
   show Q (enc (r.foldl (fun m x=>if x < m then x else m) a)) G;rw [this];exact k _ h1 h2
theorem y7:∀ (x y:List Int),u5 (fun a b=>decide (a < b)) x y=lexLt x y
 | [],[]=>rfl
 | [],_ :: _=>rfl
 | _ :: _,[]=>rfl
 | a :: x,b :: y=>by simp only [y8,lexLt,y7 x y]
noncomputable instance:DQ T3 where
 mn:=by
  intro x G xs Q hi ot k;cases xs with
  | nil=>exact absurd rfl ot
  | cons a r =>
   obtain⟨h1,h2⟩:=kP r a;have ei:itemsOf x G=some (((a :: r).map T3.l).map tI):=by rw [hi,jD]; rfl
   refine .inr ⟨(a :: r).map T3.l,_,ei,rfl,?_⟩;have:∀ (r:List T3) (a:T3),(r.map T3.l).foldl (fun m x=>if lexLt x m=true then x else m) a.l=(r.foldl (fun m x=>if cj.lt x m=true then x else m) a).l:=by
    intro r;induction r with
    | nil=>intro a; rfl
    | cons b r ih =>
     intro a;rw [au,oT,oT];have e:(if lexLt b.l a.l=true then b.l else a.l)=(if cj.lt b a=true then b else a).l:=by
      have:cj.lt b a=lexLt b.l a.l:=y7 _ _;rw [this];split <;> rfl
     rw [e]; exact ih _
   rw [this r a];exact k _ h1 h2
namespace P
section
variable {α:Type} [DecidableEq α] [Enc α] [cj α] [rL α] [DQ α]
noncomputable def told(ms:List α)(gr:α->List α):List (List α):=NN ((ms.filter fun m=>(gr m).all fun y=>EU m y).map fun m=>NN (gr m))
structure GI(ms:List α)(ps:List (α×α))(l:List (α×List α)):Prop where
 len:l.length<=64
 at':∀ m∈ms,∃ g,oa l m=some g/\g.Nodup/\∀ x,x∈g↔Cn ps m x
end
end P
end K2
end
section
namespace K2
open PySem (Str)
open Enc (enc)
namespace P
theorem Nw{κ β:Type} [DecidableEq κ]{l:List (κ×β)}{k:κ}{v:β}(h:k∉l.map (·.1)):wA l k v=l++[(k,v)]:=by
 unfold wA;rw [if_neg];intro q;obtain⟨p,h1,h2⟩:=List.any_eq_true.mp q;exact h (List.mem_map.mpr ⟨p,h1,by simpa using h2⟩)
theorem E4{κ β γ:Type} [DecidableEq κ](kf:γ->κ)(vf:γ->β):∀ (ps:List γ) (l:List (κ×β)),(l.map (·.1)++ps.map kf).Nodup->ps.foldl (fun l p=>wA l (kf p) (vf p)) l=l++ps.map fun p=>(kf p,vf p)
 | [],l,_=>by simp
 | p :: ps,l,h=>by
  rw [oT,Nw (fun z=>by
   rw [au,fZ] at h;exact h.2.2 _ z _ (by simp) rfl),E4 kf vf ps _ (by simpa using h)]
  simp
theorem xm{κ β:Type} [DecidableEq κ]:∀ {l:List (κ×β)} {p:κ×β},(l.map (·.1)).Nodup->p∈l->oa l p.1=some p.2
 | q :: l,p,hn,h=>by
  unfold oa;rw [fH];rcases List.mem_cons.mp h with rfl | h
  ·simp
  ·rw [au,iD] at hn;have:q.1≠p.1:=fun z=>hn.1 (by rw [z]; exact kE h);simp only [this,decide_false];exact xm hn.2 h
theorem wK(r:List T3):(fI r).length=r.length:=by unfold fI; rw [aI,cD,cA]; lia
theorem Cd(r:List T3):(fI r).Perm r:=by
 unfold fI;exact List.perm_append_comm.trans (by rw [cy])
theorem Br(rows:Rows):(pairsOf rows).map (·.1)=rows.flatten:=by
 unfold pairsOf;induction rows with
 | nil=>rfl
 | cons r rs ih =>
  rw [eS,aL,ih,bz];congr 1;rw [List.map_fst_zip]; rw [wK]; exact aQ _
theorem JT(rows:Rows):((pairsOf rows).map (·.2)).Perm rows.flatten:=by
 unfold pairsOf;induction rows with
 | nil=>exact .refl _
 | cons r rs ih =>
  rw [eS,aL,bz];refine List.Perm.append ?_ ih;rw [List.map_snd_zip]
  ·exact Cd r
  ·rw [wK]; exact aQ _
variable {rows:Rows}
theorem MU(d:Dr rows):((pairsOf rows).map fun p=>p.1.s).Nodup:=by
 have:((pairsOf rows).map fun p=>p.1.s)=rows.flatten.map T3.s:=by rw [<-Br,jD]; rfl
 rw [this]; exact d.nd
theorem EE(d:Dr rows):lj (pairsOf rows)=(pairsOf rows).map fun p=>(p.1.s,p.2.s):=by
 unfold lj;rw [E4 (fun p:T3×T3=>p.1.s) (fun p=>p.2.s) _ _ (by simpa using MU d)]; rfl
noncomputable def RS(rows:Rows)(s:T2):T3:=(rows.flatten.find? fun p=>decide (p.s=s)).getD ⟨0,0,0⟩
noncomputable def UR(rows:Rows)(s:T2):T2:=(oa ((pairsOf rows).map fun p=>(p.1.s,p.2.s)) s).getD s
noncomputable def XQ(rows:Rows)(s:T2):T2:=(oa ((pairsOf rows).map fun p=>(p.2.s,p.1.s)) s).getD s
noncomputable def mt(p:T3):T2:=⟨p.a,1 - p.b⟩
noncomputable def fst(p:T3):Bool:=decide (p.b=0) == decide (p.c=1)
theorem IJ(d:Dr rows){p:T3}(h:p∈rows.flatten):RS rows p.s=p:=by
 unfold RS;cases q:rows.flatten.find? (fun x=>decide (x.s=p.s)) with
 | none=>rw [qf] at q; exact absurd (by simp) (q p h)
 | some x =>
  have h1:=List.find?_some q;have h2:=Ij q;have h1:x.s=p.s:=by simpa using h1
  have:∀ (L:List T3),(L.map T3.s).Nodup->x∈L->p∈L->x=p:=by
   intro L;induction L with
   | nil=>intro _ h; cases h
   | cons y L ih =>
    intro hn hx hp;rw [au,iD] at hn;rcases List.mem_cons.mp hx with e1 | YO
    ·rcases List.mem_cons.mp hp with e2 | sx
     ·rw [e1,e2]
     ·exact absurd (by rw [<-e1,h1]; exact kE sx) hn.1
    ·rcases List.mem_cons.mp hp with e2 | sx
     ·exact absurd (by rw [<-e2,<-h1]; exact kE YO) hn.1
     ·exact ih hn.2 YO sx
  exact this _ d.nd h2 h
theorem Mc(d:Dr rows){p q:T3}(h:(p,q)∈pairsOf rows):oa ((pairsOf rows).map fun p=>(p.1.s,p.2.s)) p.s=some q.s/\UR rows p.s=q.s:=by
 have:=xm (l:=(pairsOf rows).map fun p=>(p.1.s,p.2.s)) (p:=(p.s,q.s)) (by rw [jD]; exact MU d) (List.mem_map.mpr ⟨_,h,rfl⟩);refine⟨this,?_⟩;unfold UR; rw [this]; rfl
theorem MM{p:T3}(h:p∈rows.flatten):∃ q,(p,q)∈pairsOf rows/\q∈rows.flatten:=by
 rw [<-Br] at h;obtain⟨x,hx,rfl⟩:=List.mem_map.mp h;exact⟨x.2,hx,(JT rows).mem_iff.mp (kE hx)⟩
noncomputable def om(p:T3):T3:=⟨p.a,1 - p.b,p.c⟩
theorem Mb(d:Dr rows){p:T3}(h:p∈rows.flatten):om p∈rows.flatten:=d.yS p h
theorem Pz(p:T3):om (om p)=p:=by
 unfold om; cases p; simp only [T3.mk.injEq,true_and,and_true]; lia
noncomputable def step(rows:Rows)(x:T3):T3 :=
 if x.b=2 then x else
 let al:=decide (x.c=0)
 let p:=if al=true then RS rows (UR rows x.s) else RS rows x.s
 if (fst p == al)=true then To (mt p) else SK (XQ rows (mt p))
noncomputable def back(rows:Rows)(y:T3):T3 :=
 if y.b=2 then y else
 if y.c=0 then (let p:=RS rows y.s; if fst p=true then SK (mt p) else To (XQ rows (mt p)))
 else (let p:=RS rows (UR rows y.s); if fst p=true then To (XQ rows (mt p)) else SK (mt p))
theorem vY{n:Int}:n∈names rows↔∃ p∈rows.flatten,p.b=0/\p.a=n:=by
 unfold names;rw [Om,List.mem_map];constructor
 ·rintro⟨p,h,rfl⟩;obtain⟨h1,h2⟩:=List.mem_filter.mp h;exact⟨p,h1,by simpa using h2,rfl⟩
 ·rintro⟨p,h1,h2,rfl⟩;exact⟨p,List.mem_filter.mpr ⟨h1,by simpa using h2⟩,rfl⟩
theorem O0(d:Dr rows){p:T3}(h:p∈rows.flatten):handOf rows p.a=p.c:=by
 unfold handOf;cases q:rows.flatten.find? (fun x=>x.a == p.a) with
 | none=>rw [qf] at q; exact absurd (by simp) (q p h)
 | some x =>
  have h1:x.a=p.a:=by simpa using List.find?_some q
  have h2:=Ij q;show x.c=p.c;have hw:=d.way p h;have UZ:=d.way x h2;by_cases e:x.b=p.b
  ·have:x.s=p.s:=by unfold T3.s; rw [h1,e]
   have e1:=IJ d h2;rw [this,IJ d h] at e1;rw [e1]
  ·have:(om x).s=p.s:=by unfold T3.s om; rw [h1]; congr 1; dsimp only; lia
   have e1:=IJ d (Mb d h2);rw [this,IJ d h] at e1;rw [e1]; rfl
end P
end K2
end
section
namespace K2
open PySem (Str)
open Enc (enc)
namespace P
variable {rows:Rows}
theorem yx{p:T3}(h:p∈rows.flatten):p.s∈bK rows 0:=by
 have:∀ (rs:Rows) (k:Nat),p∈rs.flatten->p.s∈bK rs k:=by
  intro rs;induction rs with
  | nil=>intro k h; cases h
  | cons r rs ih =>
   intro k h;rw [bK,FU];rw [bz,FU] at h;rcases h with h | h
   ·left;unfold bQ;rw [if_neg (by rintro rfl; cases h)];exact kE h
   ·exact .inr (ih _ h)
 exact this rows 0 h
theorem Gv(rows:Rows):(bK rows 0).length<=rows.flatten.length+rows.length:=by
 have:∀ (rs:Rows) (k:Nat),(bK rs k).length<=rs.flatten.length+rs.length:=by
  intro rs;induction rs with
  | nil=>intro k; simp [bK]
  | cons r rs ih =>
   intro k;have:=ih (k+1);rw [bK,aI,bz,aI,ag];have:(bQ r (k:Int)).length<=r.length+1:=by
    unfold bQ; split <;> simp
   lia
 exact this rows 0
noncomputable def SD(rows:Rows):List T3:=Qh (Pp rows)
theorem vP(d:Dr rows):(bK rows 0).length<=27:=by
 have:=Gv rows;have:=d.xH;have:=d.str;lia
end P
end K2
end
section
namespace K2
open PySem (Str)
open Enc (enc)
namespace qh
open K2.P
noncomputable def w7:fY :=
 (bI (cN (da (aP UN (ai 1) (jw iB (ak (ai 0) aH)))) (bA (dc (aP eW (ai 0) (ai 1)))) bD)
 (bA (dc (dC (.int 0)))))
noncomputable def jn(ns:List Int)(k:Int):Int:=ns.getD k.toNat 0
noncomputable def mU:jk:=fun ds G Q _=>∃ (ns:List Int) (k:Int),ds=[.eY (ns.map D.int),.int k]/\0<=k/\Q (.int (jn ns k)) G
theorem xq(ds:List D)(G:Gp)(Q:DK)(h:mU ds G Q fun _ _=>False):w7 (fun _ _=>False) (ends Q) (aW 2 ds) G:=by
 obtain⟨ns,k,rfl,h0,q⟩:=h;unfold w7;simp only [bI,cN,aW,au,aO,ag,aw,aA,aE,bA,dc,aP,ai,aa,ae,ends,qK,bD,dC,bX,jw,ak,aH,vo,xX,aS];split
 ·rename_i h;have h1:k < (ns.map D.int).length:=by simpa using h
  rw [gG _ h0 h1];simp only [dJ];rw [av] at h1;have e:jn ns k=ns[k.toNat]:=by unfold jn; rw [eh,aM (by lia)]; rfl
  rw [<-e]; exact fX q
 ·rename_i h;have h1:¬ k < (ns.map D.int).length:=by simpa using h
  rw [av] at h1;have e:jn ns k=0:=by unfold jn; rw [eh,NH (by lia)]; rfl
  rw [<-e]; exact fX q
structure HR(G G':Gp)(p0:Nat)(as:List Nat)(rs:Rows):Prop where
 le:fy G G'
 fp:G p0=none
 gp:G' p0=some (.lst (as.map D.ref))
 np:p0∉as
 nd:as.Nodup
 fr:∀ a∈as,G a=none
 len:as.length=rs.length
 at':∀ (i a:Nat) (r:List T3),as[i]?=some a->rs[i]?=some r->G' a=some (.lst (r.map enc))
theorem HR.put{G G':Gp}{p0:Nat}{as:List Nat}{rs:Rows}(h:HR G G' p0 as rs){j a:Nat}{r':List T3}(ha:as[j]?=some a):HR G (cH G' a (.lst (r'.map enc))) p0 as (rs.set j r'):=by
 have hm:a∈as:=eC ha;have hj:j < as.length:=(List.getElem?_eq_some_iff.mp ha).1;refine⟨h.le.put (h.fr a hm),h.fp,?_,h.np,h.nd,h.fr,by rw [oR]; exact h.len,fun i b r hb hr=>?_⟩
 ·rw [ez (by rintro rfl; exact h.np hm)]; exact h.gp
 ·by_cases e:i=j
  ·subst e;rw [ha] at hb; cases hb;rw [gI (by have:=h.len; lia)] at hr;cases hr;exact aF
  ·have:b≠a:=by
    rintro rfl;have h1:=List.getElem?_eq_some_iff.mp hb;have h2:=List.getElem?_eq_some_iff.mp ha;have pw:=List.pairwise_iff_getElem.mp h.nd;rcases Nat.lt_trichotomy i j with lt | eq | gt
    ·exact pw i j h1.1 h2.1 lt (h1.2.trans h2.2.symm)
    ·exact e eq
    ·exact pw j i h2.1 h1.1 gt (h2.2.trans h1.2.symm)
   rw [ez this];rw [jU (fun z=>e z.symm)] at hr;exact h.at' i b r hb hr
theorem HR.fz{G G':Gp}{p0:Nat}{as:List Nat}{rs:Rows}(h:HR G G' p0 as rs){Q:DK}(q:Q (enc rs) G):NF G' (.ref p0) Q:=by
 refine Hq h.le h.fp h.gp (ss:=rs.map enc) ?_ q;have:∀ (as:List Nat) (rs:Rows),as.length=rs.length->(∀ a∈as,G a=none)->(∀ (i a:Nat) (r:List T3),as[i]?=some a->rs[i]?=some r->G' a=some (.lst (r.map enc)))->DP G' (fun a=>(G a).isNone) (as.map D.ref) (rs.map enc):=by
  intro as;induction as with
  | nil=>intro rs hl _ _; cases rs with
   | nil=>exact .nil
   | cons _ _=>cases hl
  | cons a as ih =>
   intro rs hl hf Hl;cases rs with
   | nil=>cases hl
   | cons r rs =>
    refine .cons (.ref (Hl 0 a r rfl rfl) (by simp [hf a (by simp)]) (DP.same _)) ?_;exact ih rs (by simpa using hl) (fun b hb=>hf b (aR _ hb)) fun i b s h1 h2=>Hl (i+1) b s h1 h2
 exact this as rs h.len h.fr h.at'
theorem El{x:T3}{r r':List T3}(hr:r'.Perm (x :: r)):∀ (rs:Rows) (j:Nat),rs[j]?=some r->(rs.set j r').flatten.Perm (x :: rs.flatten)
 | [],j,h=>by cases h
 | s :: rs,0,h=>by
  cases h;rw [aj,bz,bz];exact hr.append_right _
 | s :: rs,j+1,h=>by
  rw [aq,bz,bz];exact((El hr rs j h).append_left s).trans List.perm_middle
structure MI(st:Int)(n:Nat)(name:Int)(L:List T3):Prop where
 off:∃ off:Int,0<=off/\off<=83 * n/\name=(st+off) % 999/\∀ p∈L,∃ o:Int,0 < o/\o<=off/\p.a=(st+o) % 999+1
 nd:(L.map T3.s).Nodup
 way:∀ p∈L,p.b=0\/p.b=1
 hand:∀ p∈L,p.c=1\/p.c=-1
 yS:∀ p∈L,(⟨p.a,1 - p.b,p.c⟩:T3)∈L
 len:L.length=2 * n
theorem OY{G G2:Gp}{d:D}{ds:List D}{R:List D->(Gp->Prop)->Gp->Prop}(h:IsL G d ds)(l:fy G G2)(k:∀ ok:Gp->Prop,(∀ G',fy G G'->ok G')->R ds ok G2):NR d G2 R:=by
 rcases h with rfl | ⟨a,rfl,e⟩
 ·exact k _ fun _ _=>trivial
 ·rw [nh (l a _ e)]; exact k _ fun G' l=>l a _ e
theorem oJ{r:List T3}:∀ {rs:Rows},r∈rs->r.length<=rs.flatten.length
 | a :: rs,h=>by
  rw [bz,aI];rcases List.mem_cons.mp h with rfl | h
  ·lia
  ·have:=oJ h; lia
theorem Ly(x:T3)(r:List T3)(i:Nat):(r.take i++x :: r.drop i).Perm (x :: r):=by
 refine List.perm_middle.trans (.cons _ ?_);rw [cy]
end qh
end K2
end
section
namespace K2
open PySem (Str)
open Enc (enc)
namespace Mo
open K2.P
theorem tm{G:Gp}{p:Nat}{a b:GO}:cH (cH G p a) p b=cH G p b:=by
 funext c; unfold cH; by_cases h:c=p <;> simp [h]
theorem at_{al:List Str}{f c:Str}{a:Nat}{fs:List (Str×D)}{d:D}{G:Gp}{Q:DK}(h:G a=some (.ins c fs))(q:Q d G)(hc:autoParam (c∈al) Am._auto_1)(hl:autoParam (fs.lookup f=some d) Ar._auto_1):Nu al f (.ref a) G Q:=⟨a,c,fs,d,rfl,h,hc,hl,q⟩
noncomputable def setAt(al:List Str)(f:Str)(x d:D)(G:Gp)(K:Gp->Prop):Prop:=∃ a c fs,x=.ref a/\G a=some (.ins c fs)/\c∈al/\fs.length < 1000/\K (cH G a (.ins c (putD f d fs)))
theorem rC{al:List Str}{f:Str}{to tv:gH}{E:lL}{K:kF}{τ:ib}{G:Gp}:ke al f to tv E K τ G=tv E τ G fun d G1=>to E τ G1 fun x G2=>setAt al f x d G2 (K.nx τ):=rfl
theorem Eh{al:List Str}{f c:Str}{a:Nat}{fs:List (Str×D)}{d:D}{G:Gp}{K:Gp->Prop}(h:G a=some (.ins c fs))(q:K (cH G a (.ins c (putD f d fs))))(hc:autoParam (c∈al) Am._auto_1)(hl:autoParam (fs.length < 1000) An._auto_1):setAt al f (.ref a) d G K:=⟨a,c,fs,rfl,h,hc,hl,q⟩
inductive Ju where
 | un (n:Int)
 | cu (n:Int) (s:T2) (f h:Int)
 | pa (a b:Int)
 | la (a b:Int) (o u:T2) (t h:Int)
 | sl (a b c t:Int)
noncomputable def cn:Ju->Str
 | .un _=>"Uncurl" | .cu ..=>"Curl" | .pa ..=>"Part" | .la ..=>"Lay" | .sl ..=>"Slide"
noncomputable def wd:Ju->Str
 | .un _=>"uncurl" | .cu ..=>"curl" | .pa ..=>"part" | .la ..=>"lay" | .sl ..=>"slide"
noncomputable def ar:Ju->List D
 | .un n=>[.int n] | .cu n s f h=>[.int n,enc s,.int f,.int h] | .pa a b=>[.int a,.int b] | .la a b o u t h=>[.int a,.int b,enc o,enc u,.int t,.int h] | .sl a b c t=>[.int a,.int b,.int c,.int t]
noncomputable def fl:Ju->List (Str×D)
 | .un n=>[("name",.int n)] | .cu n s f h=>[("name",.int n),("spot",enc s),("first",.int f),("hand",.int h)] | .pa a b=>[("name",.int a),("second",.int b)] | .la a b o u t h=>[("name",.int a),("second",.int b),("over",enc o),("under",enc u),("turned",.int t),("hand",.int h)] | .sl a b c t=>[("name",.int a),("second",.int b),("third",.int c),("turn",.int t)]
noncomputable def td(m:Ju):D:=.tup (.str (wd m) :: ar m)
noncomputable def ob(m:Ju):GO:=.ins (cn m) (fl m)
noncomputable abbrev KP(G:Gp)(p:Nat)(m:Ju):Prop:=G p=some (ob m)
noncomputable def ml:fY :=
 (ke ["Uncurl"] "name" (ai 0) (ai 1))
noncomputable def dw:jk:=fun ds G Q _=>∃ (p:Nat) (n:Int),ds=[.ref p,.int n]/\G p=some (.ins "Uncurl" [])/\Q .dQ (cH G p (ob (.un n)))
theorem tT(ds:List D)(G:Gp)(Q:DK)(h:dw ds G Q fun _ _=>False):ml (fun _ _=>False) (ends Q) (aW 2 ds) G:=by
 obtain⟨p,n,rfl,g,q⟩:=h;unfold ml;simp only [ends,aW,au,aO,ag,aw,aA,aE,rC,ai,ae,aa];refine Eh g ?_;exact q
noncomputable def qH:fY :=
 (bA (dc (fF (ak (dC (.str "uncurl")) (ak (fV ["Uncurl"] "name" (ai 0)) aH)))))
noncomputable def iU:jk:=fun ds G Q _=>∃ (p:Nat) (n:Int),ds=[.ref p]/\KP G p (.un n)/\Q (td (.un n)) G
theorem zV(ds:List D)(G:Gp)(Q:DK)(h:iU ds G Q fun _ _=>False):qH (fun _ _=>False) (ends Q) (aW 1 ds) G:=by
 obtain⟨p,n,rfl,g,q⟩:=h;unfold qH;simp only [bA,dc,fF,ak,dC,fV,ai,aW,au,aO,ag,aw,aA,aE,aa,aH,ends];refine at_ g ?_;exact⟨by decide,fX q⟩
noncomputable def oA:fY :=
 (bI (ke ["Curl"] "name" (ai 0) (ai 1))
 (bI (ke ["Curl"] "spot" (ai 0) (ai 2))
 (bI (ke ["Curl"] "first" (ai 0) (ai 3))
 (ke ["Curl"] "hand" (ai 0) (ai 4)))))
noncomputable def eG:jk:=fun ds G Q _=>∃ (p:Nat) (n:Int) (s:T2) (f:Int) (h:Int),ds=[.ref p,.int n,enc s,.int f,.int h]/\G p=some (.ins "Curl" [])/\Q .dQ (cH G p (ob (.cu n s f h)))
theorem wD(ds:List D)(G:Gp)(Q:DK)(h:eG ds G Q fun _ _=>False):oA (fun _ _=>False) (ends Q) (aW 5 ds) G:=by
 obtain⟨p,n,s,f,h,rfl,g,q⟩:=h;unfold oA;simp only [ends,aW,au,aO,ag,aw,aA,aE,eZ,rC,ai,ae,aa];refine Eh g ?_;refine Eh aF ?_;refine Eh aF ?_;refine Eh aF ?_;simp only [tm];exact q
noncomputable def uO:fY :=
 (bA (dc (fF (ak (dC (.str "curl")) (ak (fV ["Curl"] "name" (ai 0)) (ak (fV ["Curl"] "spot" (ai 0)) (ak (fV ["Curl"] "first" (ai 0)) (ak (fV ["Curl"] "hand" (ai 0)) aH))))))))
noncomputable def gi:jk:=fun ds G Q _=>∃ (p:Nat) (n:Int) (s:T2) (f:Int) (h:Int),ds=[.ref p]/\KP G p (.cu n s f h)/\Q (td (.cu n s f h)) G
theorem DM(ds:List D)(G:Gp)(Q:DK)(h:gi ds G Q fun _ _=>False):uO (fun _ _=>False) (ends Q) (aW 1 ds) G:=by
 obtain⟨p,n,s,f,h,rfl,g,q⟩:=h;unfold uO;simp only [bA,dc,fF,ak,dC,fV,ai,aW,au,aO,ag,aw,aA,aE,aa,aH,ends];refine at_ g ?_;refine at_ g ?_;refine at_ g ?_;refine at_ g ?_;exact⟨by decide,fX q⟩
noncomputable def oz:fY :=
 (bI (ke ["Part"] "name" (ai 0) (ai 1))
 (ke ["Part"] "second" (ai 0) (ai 2)))
noncomputable def jd:jk:=fun ds G Q _=>∃ (p:Nat) (a:Int) (b:Int),ds=[.ref p,.int a,.int b]/\G p=some (.ins "Part" [])/\Q .dQ (cH G p (ob (.pa a b)))
theorem wC(ds:List D)(G:Gp)(Q:DK)(h:jd ds G Q fun _ _=>False):oz (fun _ _=>False) (ends Q) (aW 3 ds) G:=by
 obtain⟨p,a,b,rfl,g,q⟩:=h;unfold oz;simp only [ends,aW,au,aO,ag,aw,aA,aE,eZ,rC,ai,ae,aa];refine Eh g ?_;refine Eh aF ?_;simp only [tm];exact q
noncomputable def pS:fY :=
 (bI (ke ["Lay"] "name" (ai 0) (ai 1))
 (bI (ke ["Lay"] "second" (ai 0) (ai 2))
 (bI (ke ["Lay"] "over" (ai 0) (ai 3))
 (bI (ke ["Lay"] "under" (ai 0) (ai 4))
 (bI (ke ["Lay"] "turned" (ai 0) (ai 5))
 (ke ["Lay"] "hand" (ai 0) (ai 6)))))))
noncomputable def jH:jk:=fun ds G Q _=>∃ (p:Nat) (a:Int) (b:Int) (o:T2) (u:T2) (t:Int) (h:Int),ds=[.ref p,.int a,.int b,enc o,enc u,.int t,.int h]/\G p=some (.ins "Lay" [])/\Q .dQ (cH G p (ob (.la a b o u t h)))
theorem xP(ds:List D)(G:Gp)(Q:DK)(h:jH ds G Q fun _ _=>False):pS (fun _ _=>False) (ends Q) (aW 7 ds) G:=by
 obtain⟨p,a,b,o,u,t,h,rfl,g,q⟩:=h;unfold pS;simp only [ends,aW,au,aO,ag,aw,aA,aE,eZ,rC,ai,ae,aa];refine Eh g ?_;refine Eh aF ?_;refine Eh aF ?_;refine Eh aF ?_;refine Eh aF ?_;refine Eh aF ?_;simp only [tm];exact q
noncomputable def mY:fY :=
 (bI (ke ["Slide"] "name" (ai 0) (ai 1))
 (bI (ke ["Slide"] "second" (ai 0) (ai 2))
 (bI (ke ["Slide"] "third" (ai 0) (ai 3))
 (ke ["Slide"] "turn" (ai 0) (ai 4)))))
noncomputable def iN:jk:=fun ds G Q _=>∃ (p:Nat) (a:Int) (b:Int) (c:Int) (t:Int),ds=[.ref p,.int a,.int b,.int c,.int t]/\G p=some (.ins "Slide" [])/\Q .dQ (cH G p (ob (.sl a b c t)))
theorem vD(ds:List D)(G:Gp)(Q:DK)(h:iN ds G Q fun _ _=>False):mY (fun _ _=>False) (ends Q) (aW 5 ds) G:=by
 obtain⟨p,a,b,c,t,rfl,g,q⟩:=h;unfold mY;simp only [ends,aW,au,aO,ag,aw,aA,aE,eZ,rC,ai,ae,aa];refine Eh g ?_;refine Eh aF ?_;refine Eh aF ?_;refine Eh aF ?_;simp only [tm];exact q
end Mo
end K2
end
section
namespace K2
open PySem (Str)
open Enc (enc)
namespace Mo
open K2.P
theorem Rt{neg:Bool}{a:Str}{G:Gp}{Q:DK}(q:Q (.bl (!neg)) G)(ha:autoParam (a.cps.all (· < 0x110000)=true) Ak._auto_1):oW neg (.str a) (.str a) G Q:=⟨_,_,.str a ha,.str a ha,by
 have:iQ (.str a) (.str a)=true:=by show (a == a)=true; exact beq_self_eq_true a
 rw [this]; cases neg <;> exact q⟩
theorem NP{neg:Bool}{a b:Str}{G:Gp}{Q:DK}(q:Q (.bl neg) G)(h:autoParam ((a == b)=false) Ak._auto_1)(ha:autoParam (a.cps.all (· < 0x110000)=true) Ak._auto_1)(hb:autoParam (b.cps.all (· < 0x110000)=true) Ak._auto_1):oW neg (.str a) (.str b) G Q:=⟨_,_,.str a ha,.str b hb,by
 have:iQ (.str a) (.str b)=false:=h;rw [this]; cases neg <;> exact q⟩
noncomputable def rn(kv:List (Int×Int))(n:Int):Int:=(oa kv n).getD n
noncomputable def rs(kv:List (Int×Int))(s:T2):T2:=if s.b=2 then s else ⟨rn kv s.a,s.b⟩
noncomputable def VQ(kv:List (Int×Int)):Ju->Ju
 | .un n=>.un (rn kv n) | .cu n s f h=>.cu (rn kv n) (rs kv s) f h | .pa a b=>.pa (rn kv a) (rn kv b) | .la a b o u t h=>.la (rn kv a) (rn kv b) (rs kv o) (rs kv u) t h | .sl a b c t=>.sl (rn kv a) (rn kv b) (rn kv c) t
theorem PQ(s:T2):(enc s:D)=.tup [.int s.a,.int s.b]:=rfl
noncomputable def yJ:fY :=
 (bI (cN (da (aP (oW false) (aP eW (ai 0) (dC (.int 0))) (dC (.str "uncurl")))) (bA (dc (kg "Uncurl" dw (ak (aP eW (ai 0) (dC (.int 1))) aH)))) bD)
 (bI (cN (da (aP (oW false) (aP eW (ai 0) (dC (.int 0))) (dC (.str "curl")))) (bA (dc (kg "Curl" eG (ak (aP eW (ai 0) (dC (.int 1))) (ak (aP eW (ai 0) (dC (.int 2))) (ak (aP eW (ai 0) (dC (.int 3))) (ak (aP eW (ai 0) (dC (.int 4))) aH))))))) bD)
 (bI (cN (da (aP (oW false) (aP eW (ai 0) (dC (.int 0))) (dC (.str "part")))) (bA (dc (kg "Part" jd (ak (aP eW (ai 0) (dC (.int 1))) (ak (aP eW (ai 0) (dC (.int 2))) aH))))) bD)
 (bI (cN (da (aP (oW false) (aP eW (ai 0) (dC (.int 0))) (dC (.str "lay")))) (bA (dc (kg "Lay" jH (ak (aP eW (ai 0) (dC (.int 1))) (ak (aP eW (ai 0) (dC (.int 2))) (ak (aP eW (ai 0) (dC (.int 3))) (ak (aP eW (ai 0) (dC (.int 4))) (ak (aP eW (ai 0) (dC (.int 5))) (ak (aP eW (ai 0) (dC (.int 6))) aH))))))))) bD)
 (bI (cN (da (aP (oW false) (aP eW (ai 0) (dC (.int 0))) (dC (.str "slide")))) (bA (dc (kg "Slide" iN (ak (aP eW (ai 0) (dC (.int 1))) (ak (aP eW (ai 0) (dC (.int 2))) (ak (aP eW (ai 0) (dC (.int 3))) (ak (aP eW (ai 0) (dC (.int 4))) aH))))))) bD)
 rD)))))
noncomputable def o7:jk:=fun ds G Q _=>∃ m:Ju,ds=[td m]/\∀ p,G p=none->Q (.ref p) (cH G p (ob m))
theorem HQ(ds:List D)(G:Gp)(Q:DK)(h:o7 ds G Q fun _ _=>False):yJ (fun _ _=>False) (ends Q) (aW 1 ds) G:=by
 obtain⟨m,rfl,q⟩:=h;unfold yJ;cases m with
 | un n =>
  simp only [ends,aW,td,wd,ar,au,aO,ag,aw,aA,aE,eZ,cN,bA,dc,kg,ak,aP,ai,aa,dC,aH,cX,DY,bD,bX,Js];refine Rt ?_;simp only [bL,aS,if_true];exact fun p hp=>⟨p,n,rfl,aF,rfl,fX (by rw [tm]; exact q p hp)⟩
 | cu n s f h =>
  simp only [ends,aW,td,wd,ar,au,aO,ag,aw,aA,aE,eZ,cN,bA,dc,kg,ak,aP,ai,aa,dC,aH,cX,DY,bD,bX,Js];refine NP ?_;simp only [aS,ah,if_false];refine Rt ?_;simp only [bL,aS,if_true];exact fun p hp=>⟨p,n,s,f,h,rfl,aF,rfl,fX (by rw [tm]; exact q p hp)⟩
 | pa a b =>
  simp only [ends,aW,td,wd,ar,au,aO,ag,aw,aA,aE,eZ,cN,bA,dc,kg,ak,aP,ai,aa,dC,aH,cX,DY,bD,bX,Js];refine NP ?_;simp only [aS,ah,if_false];refine NP ?_;simp only [aS,ah,if_false];refine Rt ?_;simp only [bL,aS,if_true];exact fun p hp=>⟨p,a,b,rfl,aF,rfl,fX (by rw [tm]; exact q p hp)⟩
 | la a b o u t h =>
  simp only [ends,aW,td,wd,ar,au,aO,ag,aw,aA,aE,eZ,cN,bA,dc,kg,ak,aP,ai,aa,dC,aH,cX,DY,bD,bX,Js];refine NP ?_;simp only [aS,ah,if_false];refine NP ?_;simp only [aS,ah,if_false];refine NP ?_;simp only [aS,ah,if_false];refine Rt ?_;simp only [bL,aS,if_true];exact fun p hp=>⟨p,a,b,o,u,t,h,rfl,aF,rfl,fX (by rw [tm]; exact q p hp)⟩
 | sl a b c t =>
  simp only [ends,aW,td,wd,ar,au,aO,ag,aw,aA,aE,eZ,cN,bA,dc,kg,ak,aP,ai,aa,dC,aH,cX,DY,bD,bX,Js];refine NP ?_;simp only [aS,ah,if_false];refine NP ?_;simp only [aS,ah,if_false];refine NP ?_;simp only [aS,ah,if_false];refine NP ?_;simp only [aS,ah,if_false];refine Rt ?_;simp only [bL,aS,if_true];exact fun p hp=>⟨p,a,b,c,t,rfl,aF,rfl,fX (by rw [tm]; exact q p hp)⟩
end Mo
end K2
end
section
namespace K2
open PySem (Str)
open Enc (enc)
namespace Mo
open K2.P
open K2.qh (jn mU xq)
theorem VP{lo:Int}{n:Nat}{pre post:List D}{d:D}(h:eN lo n=pre++d :: post):d=.int (lo+(pre.length:Int))/\pre.length < n:=by
 have hl:pre.length < n:=by
  have:=congrArg dh h;simp [eN] at this; lia
 have:(eN lo n)[pre.length]?=some d:=by rw [h]; simp
 simp only [eN,dq,xS hl] at this;exact⟨by simpa using this.symm,hl⟩
noncomputable def uH:fY :=
 (bA (dc (Fv (sD "int" (ai 0)) (Nd (sD "bool" (ai 0))))))
noncomputable def fc:jk:=fun ds G Q _=>∃ i:Int,ds=[.int i]/\Q (.bl true) G
theorem DH(ds:List D)(G:Gp)(Q:DK)(h:fc ds G Q fun _ _=>False):uH (fun _ _=>False) (ends Q) (aW 1 ds) G:=by
 obtain⟨i,rfl,q⟩:=h;unfold uH;simp only [bA,dc,aW,au,aO,ag,aw,aA,aE,ends,rE,vj,kZ,ai,aa,qT,aS];simpa using fX q
noncomputable def fN:fY :=
 (bI (cN (sC (e8 (da (sD "tuple" (ai 0)))) (da (aP (oW true) (jw iB (ak (ai 0) aH)) (jw iB (ak (ai 1) aH))))) (bA (dc (dC (.bl false)))) bD)
 (bI (eD (jS (ai 0)) (aK 2) (cN (e8 (da (bg fc (ak (ai 2) aH)))) (bA (dc (dC (.bl false)))) bD))
 (bA (dc (aP (oW false) (ai 0) (ai 1))))))
noncomputable def cG:jk:=fun ds G Q _=>∃ ns:List Int,ds=[tI ns,tI ns]/\Q (.bl true) G
theorem gM(ds:List D)(G:Gp)(Q:DK)(h:cG ds G Q fun _ _=>False):fN (fun _ _=>False) (ends Q) (aW 3 ds) G:=by
 obtain⟨ns,rfl,q⟩:=h;unfold fN;simp only [ends,aW,au,aO,ag,aw,aZ,aA,aE,eZ,cN,sC,e8,bA,dc,dC,bD,if_true,bX,aP,jw,ak,ai,aa,aH,ae,lx,kZ,mw,beq_self_eq_true,aS,aJ,ah,if_false];refine fg (α:=Int) (by decide) ?_;simp only [decide_true,aJ,if_true,eD,dj,ai,aa,x9,aS,ah,if_false];refine fL (f:=D.int) (xs:=ns) (fun pre τ G'=>G=G'/\∃ a,τ=[some (tI ns),some (tI ns),a]) ⟨rfl,_,rfl⟩ (fun _ _ _ _=>trivial) ?_ ?_
 ·rintro pre i post τ G' N e ⟨rfl,a,rfl⟩ hN;simp only [aK,cN,e8,aq,aj,bA,dc,dC,bD,bX,bg,ak,ai,ae,aa,aH];refine⟨i,rfl,?_⟩;simp only [aS,aJ,ah,if_false];exact hN _ _ ⟨rfl,_,rfl⟩
 ·rintro τ G' ⟨rfl,a,rfl⟩;simp only [bA,dc,aP,ai,aa,ae];refine⟨_,_,.tI ns,.tI ns,?_⟩;rw [Rv];simp only [decide_true,if_false,ah];exact fX q
noncomputable def Pl(d:D):Prop:=(∃ i,d=.int i)\/∃ ns,d=tI ns
noncomputable abbrev UQ(w:Str):Prop:=w.cps.all (· < 0x110000)=true
noncomputable def gk:fY :=
 (bI (cN (sC (e8 (da (sD "tuple" (ai 0)))) (da (aP (oW true) (jw iB (ak (ai 0) aH)) (jw iB (ak (ai 1) aH))))) (bA (dc (dC (.bl false)))) bD)
 (bI (cN (sC (e8 (da (sD "str" (aP eW (ai 0) (dC (.int 0)))))) (da (aP (oW true) (aP eW (ai 0) (dC (.int 0))) (aP eW (ai 1) (dC (.int 0)))))) (bA (dc (dC (.bl false)))) bD)
 (bI (eD (IX (dC (.int 1)) (jw iB (ak (ai 1) aH))) (aK 2) (cN (da (sD "tuple" (aP eW (ai 1) (ai 2)))) (cN (e8 (da (bg cG (ak (aP eW (ai 0) (ai 2)) (ak (aP eW (ai 1) (ai 2)) aH))))) (bA (dc (dC (.bl false)))) bD) (cN (sC (e8 (da (bg fc (ak (aP eW (ai 0) (ai 2)) aH)))) (da (aP (oW true) (aP eW (ai 0) (ai 2)) (aP eW (ai 1) (ai 2))))) (bA (dc (dC (.bl false)))) bD)))
 (bA (dc (dC (.bl true)))))))
noncomputable def di:jk:=fun ds G Q _=>∃ (w:Str) (as:List D),ds=[.tup (.str w :: as),.tup (.str w :: as)]/\(as.length<=10/\UQ w/\∀ a∈as,Pl a)/\Q (.bl true) G
theorem iu(ds:List D)(G:Gp)(Q:DK)(h:di ds G Q fun _ _=>False):gk (fun _ _=>False) (ends Q) (aW 3 ds) G:=by
 obtain⟨w,as,rfl,⟨hl,hw,hp⟩,q⟩:=h;unfold gk;simp only [ends,aW,au,aO,ag,aw,aZ,aA,aE,eZ,cN,sC,e8,bA,dc,dC,bD,if_true,bX,aP,ai,aa,ae,cX,kZ,jw,ak,aH,lx,mw,beq_self_eq_true,aS,aJ,ah,if_false];refine fg (α:=Int) (by decide) ?_;simp only [decide_true,aJ,if_true,Js,aS,ah,if_false];show isAt "str" (.str w) G _;unfold isAt PG;simp only [beq_self_eq_true,aS,aJ,ah,if_false];refine Rt ?_ hw;simp only [aJ,eD,IX,dC,jw,ak,ai,ae,aa,aH,lx,ag,aS,ah,if_false];refine⟨by lia,?_⟩;refine nP (fun pre τ G'=>G=G'/\∃ a,τ=[some (.tup (.str w :: as)),some (.tup (.str w :: as)),a]) ⟨rfl,_,rfl⟩ (fun _ _ _ _=>trivial) ?_ ?_
 ·rintro pre d post τ G' N e ⟨rfl,a,rfl⟩ hN;obtain⟨rfl,Kf⟩:=VP e;have sv:pre.length < as.length:=by lia
  have ha:oY (D.str w :: as) (1+(pre.length:Int))=some as[pre.length]:=by
   rw [gG _ (by lia) (by rw [ag]; lia)];have:(1+(pre.length:Int)).toNat=pre.length+1:=by lia
   simp only [this,Lg]
  simp only [aK,cN,aq,aj,e8,bA,dc,dC,bD,bX,bg,ak,aP,ai,aa,ae,aH,cX,ha,sC,if_true,kZ];rcases hp _ (fb sv) with ⟨i,ei⟩ | ⟨ns,ei⟩
  ·rw [ei];simp only [qT,aS];rw [show ("tuple" == "int")=false from by decide];simp only [ah,if_false];refine⟨i,rfl,?_⟩;simp only [aS,aJ,ah,if_false];refine fg (α:=Int) (by decide) ?_;simp only [decide_true,aJ,if_true,aS,ah,if_false];exact hN _ _ ⟨rfl,_,rfl⟩
  ·rw [ei];simp only [mw,beq_self_eq_true,aS,if_true];refine⟨ns,rfl,?_⟩;simp only [aS,aJ,ah,if_false];exact hN _ _ ⟨rfl,_,rfl⟩
 ·rintro τ G' ⟨rfl,a,rfl⟩;simp only [bA,dc,dC];exact fX q
theorem UO(s:T2):Pl (enc s):=.inr ⟨[s.a,s.b],rfl⟩
theorem RR(i:Int):Pl (.int i):=.inl ⟨i,rfl⟩
theorem Uu(m:Ju):∀ a∈ar m,Pl a:=by
 cases m <;> intro a h <;> simp only [ar,e7,dI,or_false] at h <;> rcases h with rfl | h <;> (try exact RR _) <;> (try (rcases h with rfl | h)) <;> (try exact RR _) <;> (try exact UO _) <;> (try (rcases h with rfl | h)) <;> (try exact RR _) <;> (try exact UO _) <;> (try (rcases h with rfl | h)) <;> (try exact RR _) <;> (try exact UO _) <;> (try (rcases h with rfl | h)) <;> (try exact RR _) <;> (try exact UO _) <;> (try (subst h; exact RR _))
theorem RF(m:Ju):(ar m).length<=10:=by cases m <;> exact mK rfl
theorem Sr(m:Ju):UQ (wd m):=by
 have h:∀ w∈(["uncurl","curl","part","lay","slide"]:List Str),UQ w:=by decide +kernel
 cases m <;> exact h _ (by simp [wd])
theorem tells_of{m:Ju}{G:Gp}{Q:DK}(q:Q (.bl true) G):di [td m,td m] G Q fun _ _=>False:=⟨wd m,ar m,rfl,⟨RF m,Sr m,Uu m⟩,q⟩
end Mo
end K2
end
section
namespace K2
namespace vJ
noncomputable def ab(c:Int):Int:=if c < 0 then -c else c
variable {α:Type}
noncomputable def Ys(f:Int->Int)(r:Int->List α):Nat->Int->List Int->List α->List α×List Int
 | 0,_,Lv,ps=>(ps,Lv)
 | k+1,p,Lv,ps=>if p∈Lv then (ps,Lv) else Ys f r k (f p) (Lv++[p]) (ps++r p)
noncomputable def cls(f:Int->Int)(r:Int->List α):List Int->List (List α)->List Int->List (List α)
 | [],rows,_=>rows
 | t :: ts,rows,met=>if t∈met then cls f r ts rows met else
  let s:=Ys f r 4 t [] []
  cls f r ts (rows++[s.1]) (met++s.2)
end vJ
end K2
end
section
namespace K2
open PySem (Str)
open Enc (enc)
namespace vJ
open K2.P
noncomputable def Ok(n:Int)(cs:List Int):Prop:=n<=3/\cs.length<=40/\∀ c∈cs,1<=ab c/\ab c < n
end vJ
end K2
end
section
namespace K2
open PySem (Str)
open Enc (enc)
namespace vJ
open K2.P
noncomputable def Good(n:Int)(cs:List Int):Prop:=(1<=n/\n<=3)/\cs.length<=12/\∀ c∈cs,1<=ab c/\ab c < n
noncomputable instance (n:Int) (cs:List Int):Decidable (Good n cs):=by unfold Good; exact inferInstance
end vJ
end K2
end
section
namespace K2
open PySem (Str)
open Enc (enc)
namespace vJ
open K2.P
noncomputable def iZ:List T3->T3
 | []=>⟨0,0,0⟩
 | a :: r=>r.foldl (fun m x=>if cj.lt x m=true then x else m) a
theorem jA{r:List T3}(h:r≠[]):iZ r∈r:=by
 cases r with
 | nil=>exact absurd rfl h
 | cons a r=>exact(kP r a).1
theorem ng{r:List T3}{y:T3}(hy:y∈r):EU (iZ r) y=true:=by
 cases r with
 | nil=>cases hy
 | cons a r=>exact(kP r a).2 y hy
noncomputable def cU(r:List T3):List T3:=r.drop (r.idxOf (iZ r))++r.take (r.idxOf (iZ r))
theorem mE{x:D}{G:Gp}{r:List T3}{Q:DK}(hi:itemsOf x G=some (r.map enc))(ot:r≠[])(q:Q (enc (iZ r)) G):KC [x] G Q :=
 DQ.mn hi ot fun m hm hl=>by
  have:m=iZ r:=ET _ _ (hl _ (jA ot)) (ng hm);rw [this]; exact q
theorem jO{x:D}{G:Gp}{r:List T3}{Q:DK}(ht:t9 x G)(hi:itemsOf x G=some (r.map enc))(ot:r≠[])(q:Q (.int ((r.idxOf (iZ r):Nat):Int)) G):qR x [enc (iZ r)] G Q:=by
 refine⟨ht,r.map enc,enc (iZ r),r.map enc,hi,Enc.sn G 8 _ (by decide),tu G 7 (by decide) r,?_⟩;have e:(r.map enc).findIdx? (iQ · (enc (iZ r)))=some (r.idxOf (iZ r)):=by
  have hf:(fun y:T3=>iQ (enc y) (enc (iZ r)))=fun y=>y == iZ r:=by
   funext y;rw [Enc.eqv];by_cases h:y=iZ r <;> simp [h]
  rw [List.findIdx?_map];show List.findIdx? (fun y=>iQ (enc y) (enc (iZ r))) r=_;rw [hf];have hm:=jA ot;rw [List.idxOf];rw [List.findIdx?_eq_some_iff_findIdx_eq];exact⟨List.findIdx_lt_length.mpr ⟨_,hm,by simp⟩,rfl⟩
 rw [e]; exact q
end vJ
end K2
end
section
namespace K2
open PySem (Str)
open Enc (enc)
namespace P
variable {rows:Rows}
noncomputable def Ce(rows:Rows)(s:T2):Nat:=(((rows.zipIdx 0).find? fun p=>decide (s∈bQ p.1 (p.2:Int))).map (·.2)).getD 0
noncomputable def jc:jk:=fun ds G Q _=>∃ (rows:Rows) (s:T2),ds=[enc rows,enc s]/\((∀ r∈rows,r.length<=1000)/\∃ p∈rows.zipIdx 0,s∈bQ p.1 (p.2:Int))/\Q (.int (Ce rows s)) G
noncomputable def uG:fY :=
 (bI (eD (MB (ai 0)) (Kr (sX (aK 2) (sX (aK 3) Ho))) (cN (da (aP (Bp false) (ai 1) (bg hZ (ak (ai 3) (ak (ai 2) aH))))) (bA (dc (ai 2))) bD))
 rD)
theorem DG(ds:List D)(G:Gp)(Q:DK)(h:jc ds G Q fun _ _=>False):uG (fun _ _=>False) (ends Q) (aW 4 ds) G:=by
 obtain⟨rows,s,rfl,⟨hr,hs⟩,q⟩:=h;unfold uG;refine cJ (fun τ G'=>False) ?_ (fun _ _ h=>h.elim);intro N hN;simp only [eD,MB,ai,aW,au,aO,ag,aw,aZ,aA,aE,aa,ends];refine EZ ?_;rw [M0];refine fL (xs:=rows.zipIdx 0) (fun pre τ G'=>G=G'/\(∃ a b,τ=[some (enc rows),some (enc s),a,b])/\∀ p∈pre,s∉bQ p.1 (p.2:Int)) ⟨rfl,⟨_,_,rfl⟩,fun _ h=>by cases h⟩ (fun _ _ _ _=>trivial) ?_ ?_
 ·rintro pre x post τ G' N2 e ⟨rfl,⟨a,b,rfl⟩,hp⟩ zh;obtain⟨lf,rt,e1,e2,e3⟩:=B7 e;simp only [Kr,sX,aK,Ho,cN,aq,aj,bA,dc,ai,ae,aa,bD,bX,aP,bg,ak,aH];refine⟨x.1,(x.2:Int),rfl,hr x.1 (by rw [e1]; simp),?_⟩;refine uS (by decide) ?_;simp only [ah,if_false,aS];by_cases hx:s∈bQ x.1 (x.2:Int)
  ·simp only [hx,decide_true,ah,if_false,if_true];have:Ce rows s=x.2:=by
    unfold Ce;have:(rows.zipIdx 0).find? (fun p=>decide (s∈bQ p.1 (p.2:Int)))=some x:=by
     rw [e,Bf];have:pre.find? (fun p=>decide (s∈bQ p.1 (p.2:Int)))=none:=by
      rw [qf]; intro p h; simpa using hp p h
     rw [this];simp [hx]
    rw [this]; rfl
   rw [<-this];exact fX q
  ·simp only [hx,decide_false,ah,if_false];refine zh _ _ ⟨rfl,⟨_,_,rfl⟩,fun p h=>?_⟩;rcases List.mem_append.mp h with h | h
   ·exact hp p h
   ·rw [List.mem_singleton.mp h]; exact hx
 ·rintro τ G' ⟨rfl,_,hp⟩;obtain⟨p,h1,h2⟩:=hs;exact absurd h2 (hp p h1)
theorem zH{i:Nat}{t:fY}{E:lL}{K:kF}{τ:ib}{G:Gp}:Nf i t E K τ G=t E { K with nx:=fun sM G1=>match sM[i]? with
 | some (some d)=>NF G1 d fun t G2=>K.nx (sM.set i (some t)) G2
 | _=>False } τ G:=rfl
end P
end K2
end
section
namespace K2
open PySem (Str)
open Enc (enc)
namespace K3
open K2.P K2.qh
inductive Rl (G:Gp):List D->Rows->Prop
 | nil:Rl G [] []
 | cons {x:D} {r:List T3} {xs:List D} {rs:Rows}:IsL G x (r.map enc)->Rl G xs rs->Rl G (x :: xs) (r :: rs)
theorem xY{α:Type} [DecidableEq α] [Enc α]{neg:Bool}{x:α}{xs:List α}{a:Nat}{G:Gp}{Q:DK}(hd:Enc.dep α<=7)(h:G a=some (.lst (xs.map enc)))(q:Q (.bl (if neg then !decide (x∈xs) else decide (x∈xs))) G):Bp neg (enc x) (.ref a) G Q:=by
 unfold Bp;simp only [h];refine⟨_,_,Enc.sn G 8 x (by lia),tu G 7 hd xs,?_⟩;rw [DC]; exact q
theorem Hg{c:xM}{a b:fY}{E:lL}{K:kF}{τ:ib}{G:Gp}:cN c a b E K τ G=c E τ G fun k G1=>if k=true then a E K τ G1 else b E K τ G1:=rfl
end K3
end K2
end
section
namespace K2
open PySem (Str)
open Enc (enc)
namespace K3
open K2.P K2.qh
noncomputable def XF(n:Int):Int:=n % 999+1
noncomputable def fit(n:Int):Nat->Int
 | 0=>n
 | k+1=>XF (fit n k)
theorem zx{n:Int}(h1:1<=n)(h2:n<=999):∀ k:Nat,fit n k=(n - 1+k) % 999+1
 | 0=>by show n=_; lia
 | k+1=>by
  show XF (fit n k)=_;rw [zx h1 h2 k];unfold XF;lia
theorem sW:∀ (xs ys:List Int),xs.Nodup->(∀ x∈xs,x∈ys)->xs.length<=ys.length
 | [],_,_,_=>cI _
 | x :: xs,ys,hn,h=>by
  rw [iD] at hn;have:=sW xs (ys.erase x) hn.2 fun y hy=>(N8 (show y≠x from fun z=>hn.1 (by rw [<-z]; exact hy))).mpr (h y (aR _ hy));have hx:=h x (by simp);rw [JA hx] at this;have:=Lf hx;rw [ag]; lia
theorem MV{n:Int}{ns:List Int}(h1:1<=n)(h2:n<=999)(hl:ns.length<=500):∃ k,k<=ns.length/\fit n k∉ns:=by
 apply B5;intro TG;have MN:∀ k,k<=ns.length->fit n k∈ns:=fun k hk=>B5 fun z=>TG ⟨k,hk,z⟩;have nd:((eE (ns.length+1)).map fun k=>fit n k).Nodup:=by
  refine List.pairwise_iff_getElem.mpr fun i j hi hj Kj=>?_;simp only [av,eR] at hi hj;rw [dJ,dJ,qe,qe,zx h1 h2,zx h1 h2];lia
 have:=sW _ ns nd fun x hx=>by
  obtain⟨k,hk,rfl⟩:=List.mem_map.mp hx;exact MN k (by have:=List.mem_range.mp hk; lia)
 simp at this;lia
noncomputable def ins(r:List T3)(k:Nat)(p:T3):List T3:=r.take k++p :: r.drop k
theorem EY(r:List T3)(k:Nat)(p:T3):(ins r k p).Perm (p :: r):=Ly p r k
theorem OX(r:List T3)(k:Nat)(p:T3):(r.map enc).take k++enc p :: (r.map enc).drop k=(ins r k p).map (enc:T3->D):=by
 unfold ins; rw [aL,au,sI,sJ]
structure DF(L:List T3):Prop where
 nd:(L.map T3.s).Nodup
 way:∀ p∈L,p.b=0\/p.b=1
 hand:∀ p∈L,p.c=1\/p.c=-1
 yS:∀ p∈L,(⟨p.a,1 - p.b,p.c⟩:T3)∈L
theorem DF.perm{L L':List T3}(h:DF L)(p:L'.Perm L):DF L' :=
 ⟨(p.map _).nodup_iff.mpr h.nd,fun x hx=>h.way x (p.mem_iff.mp hx),fun x hx=>h.hand x (p.mem_iff.mp hx),fun x hx=>p.mem_iff.mpr (h.yS x (p.mem_iff.mp hx))⟩
theorem DF.add{L:List T3}(h:DF L){m hd:Int}(hm:m∉L.map (·.a))(hh:hd=1\/hd=-1):DF (⟨m,1,hd⟩ :: ⟨m,0,hd⟩ :: L):=by
 have no:∀ w,(⟨m,w⟩:T2)∉L.map T3.s:=fun w z=>by
  obtain⟨p,hp,e⟩:=List.mem_map.mp z;exact hm (List.mem_map.mpr ⟨p,hp,by have:=congrArg T2.a e; exact this⟩)
 refine⟨?_,?_,?_,?_⟩
 ·rw [au,au,iD,iD];refine⟨fun z=>?_,no 0,h.nd⟩;rcases List.mem_cons.mp z with e | z
  ·have:=congrArg T2.b e;exact absurd (show (1:Int)=0 from this) (by decide)
  ·exact no 1 z
 ·intro p hp;rcases List.mem_cons.mp hp with rfl | hp
  ·exact .inr rfl
  ·rcases List.mem_cons.mp hp with rfl | hp
   ·exact .inl rfl
   ·exact h.way p hp
 ·intro p hp;rcases List.mem_cons.mp hp with rfl | hp
  ·exact hh
  ·rcases List.mem_cons.mp hp with rfl | hp
   ·exact hh
   ·exact h.hand p hp
 ·intro p hp;rcases List.mem_cons.mp hp with rfl | hp
  ·exact aR _ bf
  ·rcases List.mem_cons.mp hp with rfl | hp
   ·exact bf
   ·exact aR _ (aR _ (h.yS p hp))
theorem HR.at_{G G':Gp}{p0:Nat}{as:List Nat}{rs:Rows}(h:HR G G' p0 as rs){j:Int}(j1:0<=j)(j2:j < rs.length):∃ a r,as[j.toNat]?=some a/\rs[j.toNat]?=some r/\G' a=some (.lst (r.map enc))/\oY (as.map D.ref) j=some (.ref a):=by
 have hj:j.toNat < as.length:=by have:=h.len; lia
 refine⟨as[j.toNat],rs[j.toNat]'(by lia),aM hj,aM _,h.at' _ _ _ (aM hj) (aM _),?_⟩;rw [gG _ j1 (by rw [av]; have:=h.len; lia),dJ]
end K3
end K2
end
section
namespace K2
open PySem (Str)
open Enc (enc)
namespace xQ
open K2.P
open K2.vJ (cU iZ)
noncomputable abbrev Cs:=List Rows
noncomputable def ap1(a:Rows)(x:List T3):Rows:=a++[x]
noncomputable def pk1(m:List (List T3))(a:Rows):Cs:=m.map (ap1 a)
noncomputable def pick(ls:List (List (List T3))):Cs:=ls.foldl (fun acc m=>acc.flatMap (pk1 m)) [[]]
end xQ
end K2
end
section
namespace K2
open PySem (Str)
open Enc (enc)
namespace xQ
open K2.P
open K2.vJ (cU iZ)
noncomputable abbrev M:=List (Int×Int)
noncomputable def Yt(m:M)(t:T3):T3:=⟨(oa m t.a).getD 0,t.b,t.c⟩
noncomputable def VQ(m:M)(r:List T3):List T3:=r.map (Yt m)
noncomputable def oi(r:List T3)(k:Nat):List T3:=r.drop k++r.take k
noncomputable def Us(r:List T3):List (List T3):=(eE (max 1 r.length)).map (oi r)
theorem Qn{r:List T3}{k:Nat}{G:Gp}{Q:DK}{d:D}(hd:IsL G d (r.map enc))(hk:k<=r.length)(hl:r.length<=1000)(q:Q (enc (oi r k)) G) :
  LX d (some (k:Int)) none G fun x G1=>LX d none (some (k:Int)) G1 fun y G2=>kA x y G2 fun z G3=>NF G3 z Q:=by
 refine nJ hd ?_;rw [nj,zJ r k hk];intro p hp;refine nJ (hd.mono (.new hp)) ?_;rw [nj,HK r k hk];intro p2 sx;have Q8:p≠p2:=fun z=>by rw [<-z,aF] at sx; cases sx
 have g1:cH (cH G p (.lst ((r.drop k).map enc))) p2 (.lst ((r.take k).map enc)) p=some (.lst ((r.drop k).map enc)):=by rw [ez Q8,aF]
 have gl:fy G (cH (cH G p (.lst ((r.drop k).map enc))) p2 (.lst ((r.take k).map enc))):=(fy.new hp).trans (.new sx);show zP _ _ _ _;unfold zP;rw [mr (IsL.ref (ds:=(r.drop k).map enc) g1),mr (IsL.ref (ds:=(r.take k).map enc) aF)];refine⟨FW (by simp; lia),fun p3 Hj=>?_⟩;refine kO (xs:=oi r k) (gl.trans (.new Hj)) (gl.free Hj) ?_ q;rw [aF];unfold oi;rw [aL]
noncomputable def WA(m:M)(n:Int):M:=if (oa m n).isSome=true then m else wA m n ((m.length:Int)+1)
noncomputable def met(L:List T3):M:=L.foldl (fun m t=>WA m t.a) []
end xQ
end K2
end
section
namespace K2
open PySem (Str)
open Enc (enc)
namespace xQ
open K2.P
open K2.vJ (cU iZ jA ng)
structure Gd(m:M):Prop where
 nd:(m.map (·.1)).Nodup
 vs:m.map (·.2)=(eE m.length).map fun i:Nat=>(i:Int)+1
theorem ow(r:List T3)(k:Nat):(oi r k).Perm r:=by
 unfold oi;exact List.perm_append_comm.trans (by rw [cy])
theorem Cg{r a b:List T3}{x:T3}(hx:x=iZ r)(e:r=a++x :: b)(hn:x∉a):cU r=x :: b++a:=by
 have hi:r.idxOf (iZ r)=a.length:=by
  rw [<-hx,e,Be,if_neg hn,wJ]; simp
 unfold cU;rw [hi,e,Ik,Ii]
theorem J7{r r':List T3}(p:r'.Perm r)(ot:r≠[]):iZ r'=iZ r:=by
 have W9:r'≠[]:=fun z=>ot (by rw [z] at p; exact p.symm.eq_nil);exact ET _ _ (ng (p.mem_iff.mpr (jA ot))) (ng (p.mem_iff.mp (jA W9)))
theorem ue{r:List T3}(hn:(r.map T3.s).Nodup)(k:Nat):cU (oi r k)=cU r:=by
 by_cases ot:r=[]
 ·subst ot; unfold oi; simp
 have nd:r.Nodup:=by
  refine List.Pairwise.imp ?_ (List.pairwise_map.mp hn);intro a b h e;exact h (congrArg _ e)
 have hl:=J7 (ow r k) ot;obtain⟨a,b,e⟩:=lC (jA ot);generalize hx:iZ r=x at e;rw [hx] at hl;have Xa:(a++x :: b).Nodup:=by rw [<-e]; exact nd
 rw [fZ] at Xa;have ha:x∉a:=fun z=>Xa.2.2 x z x bf rfl;have hb:x∉b:=(List.nodup_cons.mp Xa.2.1).1;rw [Cg hx.symm e ha];by_cases hk:k<=a.length
 ·have e2:oi r k=a.drop k++x :: (b++a.take k):=by
   unfold oi;rw [e,List.drop_append_of_le_length hk,DT hk]; simp
  rw [Cg hl.symm e2 fun z=>ha (N7 z)];simp only [aA,bS,cy]
 ·obtain⟨j,rfl⟩:∃ j,k=a.length+(j+1):=⟨k - a.length - 1,by lia⟩;have e2:oi r (a.length+(j+1))=(b.drop j++a)++x :: b.take j:=by
   unfold oi;rw [e,List.drop_length_add_append,List.take_length_add_append,List.drop_succ_cons,List.take_succ_cons]; simp
  rw [Cg hl.symm e2 fun z=>(List.mem_append.mp z).elim (fun z=>hb (N7 z)) ha];simp only [aA,<-bS,cy]
inductive Ro:Rows->Rows->Prop
 | nil:Ro [] []
 | cons {r x:List T3} {rs xs:Rows}:(∃ k,k<=r.length/\x=oi r k)->Ro rs xs->Ro (r :: rs) (x :: xs)
noncomputable def Va(rows:Rows):Cs:=pick (rows.map Us)
noncomputable def sm(rows:Rows):Rows:=(rows.map (VQ (met rows.flatten))).map cU
noncomputable def bi(rows:Rows):Nat:=XR (fun i j=>cj.lt (sm ((Va rows).getD i [])) (sm ((Va rows).getD j []))) ((Va rows).length - 1)
end xQ
end K2
end
section
namespace K2
open PySem (Str)
open Enc (enc)
namespace xQ
open K2.P
open K2.vJ (cU iZ jA ng)
noncomputable def tp(c:Rows):D:=.tup [enc (sm c),.wV (jB (met c.flatten))]
structure Sz(rows:Rows):Prop where
 n:rows.length<=3
 f:rows.flatten.length<=24
end xQ
end K2
end
section
namespace K2
open PySem (Str)
open Enc (enc)
namespace qh
open K2.P
variable {rows:Rows}
end qh
end K2
end
section
namespace K2
open PySem (Str)
open Enc (enc)
namespace qh
open K2.P
variable {rows:Rows}
end qh
end K2
end
section
namespace K2
open PySem (Str)
open Enc (enc)
namespace xQ
open K2.P
open K2.vJ (cU iZ jA ng)
open K2.qh (mU jn HR HR.fz)
open K2.K3 (DF)
theorem Ov{r:List T3}{k:Nat}{G:Gp}{Q:DK}{d:D}(hd:IsL G d (r.map enc))(hk:k<=r.length)(hl:r.length<=1000)(q:∀ p G1,fy G G1->G p=none->G1 p=some (.lst ((oi r k).map enc))->Q (.ref p) G1) :
  LX d (some (k:Int)) none G fun x G1=>LX d none (some (k:Int)) G1 fun y G2=>kA x y G2 Q:=by
 refine nJ hd ?_;rw [nj,zJ r k hk];intro p hp;refine nJ (hd.mono (.new hp)) ?_;rw [nj,HK r k hk];intro p2 sx;have Q8:p≠p2:=fun z=>by rw [<-z,aF] at sx; cases sx
 have g1:cH (cH G p (.lst ((r.drop k).map enc))) p2 (.lst ((r.take k).map enc)) p=some (.lst ((r.drop k).map enc)):=by rw [ez Q8,aF]
 have gl:fy G (cH (cH G p (.lst ((r.drop k).map enc))) p2 (.lst ((r.take k).map enc))):=(fy.new hp).trans (.new sx);show zP _ _ _ _;unfold zP;rw [mr (IsL.ref (ds:=(r.drop k).map enc) g1),mr (IsL.ref (ds:=(r.take k).map enc) aF)];refine⟨FW (by simp; lia),fun p3 Hj=>?_⟩;refine q _ _ (gl.trans (.new Hj)) (gl.free Hj) ?_;rw [aF];unfold oi;rw [aL]
end xQ
end K2
end
section
namespace K2
open PySem (Str)
open Enc (enc)
namespace xQ
open K2.P
open K2.vJ (cU iZ jA ng)
open K2.K3 (DF)
variable {rows c:Rows}
end xQ
end K2
end
section
namespace K2
open Enc (enc)
namespace HV
open K2.P K2.xQ
open K2.vJ (cU iZ jA ng)
open K2.K3 (DF)
theorem jJ(a b:List T3):oi (a++b) a.length=b++a:=by unfold oi; rw [Ik,Ii]
theorem uw{r:List T3}{k j:Nat}(hk:k<=r.length)(hj:j<=r.length):∃ i,i<=r.length/\oi (oi r k) j=oi r i:=by
 obtain⟨a,b,rfl,rfl⟩:∃ a b,r=a++b/\k=a.length:=⟨r.take k,r.drop k,(cy k r).symm,by rw [cA]; lia⟩;rw [jJ];rw [aI] at hj;by_cases h:j<=b.length
 ·obtain⟨b1,b2,rfl,rfl⟩:∃ b1 b2,b=b1++b2/\j=b1.length:=⟨b.take j,b.drop j,(cy j b).symm,by rw [cA]; lia⟩;refine⟨(a++b1).length,by simp,?_⟩;rw [bS,jJ,<-bS a b1 b2,jJ,bS]
 ·obtain⟨i,rfl⟩:∃ i,j=b.length+i:=⟨j - b.length,by lia⟩;obtain⟨a1,a2,rfl,rfl⟩:∃ a1 a2,a=a1++a2/\i=a1.length:=⟨a.take i,a.drop i,(cy i a).symm,by rw [cA]; lia⟩;refine⟨a1.length,by simp,?_⟩;rw [<-bS,show b.length+a1.length=(b++a1).length by simp,jJ,bS a1 a2 b,jJ,bS]
theorem uA{r:List T3}{k:Nat}(hk:k<=r.length):∃ i,i<=(oi r k).length/\r=oi (oi r k) i:=by
 obtain⟨a,b,rfl,rfl⟩:∃ a b,r=a++b/\k=a.length:=⟨r.take k,r.drop k,(cy k r).symm,by rw [cA]; lia⟩;rw [jJ];exact⟨b.length,by simp,(jJ b a).symm⟩
theorem ux(r:List T3)(k:Nat):(oi r k).length=r.length:=(ow r k).length_eq
theorem j5:∀ rows:Rows,Ro rows rows
 | []=>.nil
 | r :: rows=>.cons ⟨0,cI _,by unfold oi; simp⟩ (j5 rows)
theorem qC{r1 r2 r3:Rows}(h1:Ro r1 r2):Ro r2 r3->Ro r1 r3:=by
 induction h1 generalizing r3 with
 | nil=>intro h; exact h
 | cons q _ ih =>
  intro h;cases h with
  | cons q2 h2 =>
   obtain⟨k,hk,rfl⟩:=q;obtain⟨j,hj,rfl⟩:=q2;rw [ux] at hj;exact .cons (uw hk hj) (ih h2)
theorem uD{r1 r2:Rows}(h:Ro r1 r2):Ro r2 r1:=by
 induction h with
 | nil=>exact .nil
 | cons q _ ih =>
  obtain⟨k,hk,rfl⟩:=q;exact .cons (uA hk) ih
theorem jx(rows:Rows):Ro rows (rows.map cU):=by
 induction rows with
 | nil=>exact .nil
 | cons r rows ih=>exact .cons ⟨_,nH,rfl⟩ ih
end HV
end K2
end
section
namespace K2
open PySem (Str)
open Enc (enc)
namespace Mo
open K2.P
open K2.vJ (cU)
open K2.xQ (oi Ro ow ue)
open K2.HV (jJ uw uA ux j5 qC uD jx)
noncomputable def kl(r x:List T3):Prop:=∃ k,k<=r.length/\x=oi r k
theorem kl.refl(r:List T3):kl r r:=⟨0,cI _,by simp [oi]⟩
theorem kl.trans{a b c:List T3}(h:kl a b)(h2:kl b c):kl a c:=by
 obtain⟨k,hk,rfl⟩:=h;obtain⟨j,hj,rfl⟩:=h2;rw [ux] at hj;exact uw hk hj
theorem kl.app(a b:List T3):kl (a++b) (b++a):=⟨a.length,by simp,(jJ a b).symm⟩
theorem kl.perm{a b:List T3}(h:kl a b):b.Perm a:=by
 obtain⟨k,_,rfl⟩:=h;exact ow a k
theorem kl.parts{a b:List T3}(h:kl a b):∃ u v,a=u++v/\b=v++u:=by
 obtain⟨k,_,rfl⟩:=h;exact⟨a.take k,a.drop k,(cy k a).symm,rfl⟩
theorem kl.of{a b u v:List T3}(h1:a=u++v)(h2:b=v++u):kl a b:=by rw [h1,h2]; exact .app u v
theorem kl.flat{a b:List T3}{f:T3->List T3}(h:kl a b):kl (a.flatMap f) (b.flatMap f):=by
 obtain⟨u,v,rfl,rfl⟩:=h.parts;exact .of (u:=u.flatMap f) (v:=v.flatMap f) (by rw [iP]) (by rw [iP])
theorem kl.Uh{a b:List T3}{f:T3->Bool}(h:kl a b):kl (a.filter f) (b.filter f):=by
 obtain⟨u,v,rfl,rfl⟩:=h.parts;exact .of (u:=u.filter f) (v:=v.filter f) (by rw [cT]) (by rw [cT])
theorem kl.VN{a b:List T3}(h:kl a b)(nd:(a.map T3.s).Nodup):cU b=cU a:=by
 obtain⟨k,_,rfl⟩:=h;exact ue nd k
theorem yH(r:List T3):kl r (cU r):=⟨_,nH,rfl⟩
theorem kl.nil{b:List T3}(h:kl [] b):b=[]:=by have:=h.perm; exact this.eq_nil
theorem kl.uniq{f:T3}{T r:List T3}(h:kl (f :: T) r)(nd:(r.map T3.s).Nodup):oi r (r.map T3.s |>.idxOf f.s)=f :: T:=by
 obtain⟨u,v,e,rfl⟩:=h.parts;cases u with
 | nil =>
  rw [aE] at e;subst e;simp [oi]
 | cons g u =>
  rw [aA] at e;injection e with e1 e2
  subst e1 e2;have hn:f.s∉v.map T3.s:=fun z=>by
   rw [aL,fZ] at nd;exact nd.2.2 _ z _ (bf) rfl
  have:((v++f :: u).map T3.s).idxOf f.s=v.length:=by
   rw [aL,Be,if_neg hn,au,wJ]; simp
  rw [this,jJ]; rfl
structure wH(rows:Rows):Prop where
 nd:(rows.flatten.map T3.s).Nodup
 way:∀ p∈rows.flatten,p.b=0\/p.b=1
theorem _root_.Internal.K2.Dr.dn{rows:Rows}(d:Dr rows):wH rows:=⟨d.nd,d.way⟩
noncomputable def EA(s:T2)(ps:List T3)(p:T3):List T3:=if p.s=s then p :: ps else [p]
noncomputable def nK(s:T2)(ps:List T3)(k:Nat)(r:List T3):List T3:=(if s=⟨k,2⟩ then ps else [])++r.flatMap (EA s ps)
noncomputable def oj(s:T2)(ps:List T3):Rows->Nat->Rows
 | [],_=>[]
 | r :: rs,k=>nK s ps k r :: oj s ps rs (k+1)
theorem uV(s:T2)(ps:List T3):∀ (a b:Rows) (k:Nat),oj s ps (a++b) k=oj s ps a k++oj s ps b (k+a.length)
 | [],b,k=>by simp [oj]
 | r :: a,b,k=>by
  rw [aA,oj,oj,uV s ps a b (k+1),aA,ag];congr 3; lia
theorem r0{s:T2}{ps:List T3}:∀ {r:List T3},(∀ p∈r,p.s≠s)->r.flatMap (EA s ps)=r
 | [],_=>rfl
 | a :: r,h=>by
  rw [eS,r0 fun p hp=>h p (aR _ hp)];unfold EA;rw [if_neg (h a bf)]; rfl
theorem oF{s:T2}{ps:List T3}:∀ {R:Rows} {k:Nat},(∀ p∈R.flatten,p.s≠s)->(∀ j:Nat,k<=j->j < k+R.length->s≠⟨j,2⟩)->oj s ps R k=R
 | [],k,_,_=>rfl
 | r :: R,k,h,h2=>by
  rw [oj,oF (fun p hp=>h p (by rw [bz]; exact bJ _ hp)) (fun j h3 h4=>h2 j (by lia) (by rw [ag]; lia))];unfold nK;rw [if_neg (h2 k (aQ _) (by rw [ag]; lia)),aE,r0 fun p hp=>h p (by rw [bz]; exact du _ hp)]
inductive X4 (rows:Rows) (s:T2):Prop
 | at (R1 R2:Rows) (A B:List T3) (x:T3) (e:rows=R1++(A++x :: B) :: R2) (hs:x.s=s)
 | mt (R1 R2:Rows) (e:rows=R1++[] :: R2) (hs:s=⟨(R1.length:Nat),2⟩)
theorem LG{s:T2}:∀ {rows:Rows} {k:Nat},s∈bK rows k->(∃ R1 R2 A B x,rows=R1++(A++x :: B) :: R2/\x.s=s)\/∃ R1 R2:Rows,rows=R1++[] :: R2/\s=⟨((k+R1.length:Nat):Int),2⟩
 | [],_,h=>by cases h
 | r :: rs,k,h=>by
  rw [bK] at h;rcases List.mem_append.mp h with h | h
  ·unfold bQ at h;split at h
   ·rename_i e;rw [hU] at h;exact .inr ⟨[],rs,by rw [e]; rfl,h⟩
   ·obtain⟨x,hx,e⟩:=List.mem_map.mp h;obtain⟨A,B,e2⟩:=lC hx;exact .inl ⟨[],rs,A,B,x,by rw [e2]; rfl,e⟩
  ·rcases LG h with ⟨R1,R2,A,B,x,e,e2⟩ | ⟨R1,R2,e,e2⟩
   ·exact .inl ⟨r :: R1,R2,A,B,x,by rw [e]; rfl,e2⟩
   ·exact .inr ⟨r :: R1,R2,by rw [e]; rfl,by rw [e2,ag]; congr 2; lia⟩
theorem RO{rows:Rows}{s:T2}(h:s∈bK rows 0):X4 rows s:=by
 rcases LG h with ⟨R1,R2,A,B,x,e,e2⟩ | ⟨R1,R2,e,e2⟩
 ·exact .at R1 R2 A B x e e2
 ·exact .mt R1 R2 e (by rw [e2,mJ])
theorem Z6(p:T3):p.s.b=p.b:=rfl
theorem wH.PB{rows:Rows}(d:wH rows){p:T3}(h:p∈rows.flatten)(j:Int):p.s≠⟨j,2⟩:=fun e=>by
 have:=congrArg T2.b e;rw [Z6] at this;have h2:p.b=2:=this;rcases d.way p h with h | h <;> lia
theorem dH(R1 R2:Rows)(r:List T3):(R1++r :: R2).flatten=R1.flatten++(r++R2.flatten):=by rw [oU,bz]
theorem CB{R1 R2:Rows}{A B ps:List T3}{x:T3}(d:wH (R1++(A++x :: B) :: R2)):oj x.s ps (R1++(A++x :: B) :: R2) 0=R1++(A++x :: (ps++B)) :: R2:=by
 have nd:=d.nd;rw [dH] at nd;simp only [aL,au,bS,aA] at nd;have YF:=List.nodup_append.mp nd;have YE:=List.nodup_append.mp YF.2.1;have YD:=List.nodup_cons.mp YE.2.1;have hx:x∈(R1++(A++x :: B) :: R2).flatten:=by rw [dH]; simp
 have h1:∀ p∈R1.flatten,p.s≠x.s:=fun p hp e=>YF.2.2 _ (List.mem_map.mpr ⟨p,hp,e⟩) _ (by simp) rfl;have h2:∀ p∈A,p.s≠x.s:=fun p hp e=>YE.2.2 _ (List.mem_map.mpr ⟨p,hp,e⟩) _ (by simp) rfl;have h3:∀ p∈B,p.s≠x.s:=fun p hp e=>YD.1 (du _ (List.mem_map.mpr ⟨p,hp,e⟩));have h4:∀ p∈R2.flatten,p.s≠x.s:=fun p hp e=>YD.1 (bJ _ (List.mem_map.mpr ⟨p,hp,e⟩));rw [uV,oj,oF h1 fun j _ _=>d.PB hx _,oF h4 fun j _ _=>d.PB hx _];congr 2;unfold nK;rw [if_neg (d.PB hx _),aE,iP,eS,r0 h2,r0 h3];congr 1;unfold EA;rw [if_pos rfl]; rfl
theorem CA{R1 R2:Rows}{ps:List T3}(d:wH (R1++[] :: R2)):oj ⟨(R1.length:Nat),2⟩ ps (R1++[] :: R2) 0=R1++ps :: R2:=by
 have h1:∀ p∈R1.flatten,p.s≠⟨(R1.length:Nat),2⟩:=fun p hp=>d.PB (by rw [dH]; simp [hp]) _;have h4:∀ p∈R2.flatten,p.s≠⟨(R1.length:Nat),2⟩:=fun p hp=>d.PB (by rw [dH]; simp [hp]) _;have ne:∀ j:Nat,j≠R1.length->(⟨(R1.length:Nat),2⟩:T2)≠⟨(j:Nat),2⟩:=fun j hj e=>by
  have:=congrArg T2.a e;simp only at this;lia
 rw [uV,oj,oF h1 fun j _ hj=>ne j (by lia),oF h4 fun j hj _=>ne j (by lia)];congr 2;unfold nK;rw [if_pos (by rw [mJ])]; simp
theorem Ef{R1 R2:Rows}{r:List T3}{s:T2}(h:s∈bQ r (R1.length:Nat))(hn:∀ p∈R1.zipIdx 0,s∉bQ p.1 (p.2:Int)):Ce (R1++r :: R2) s=R1.length:=by
 unfold Ce;rw [qc,Bf];have:(List.zipIdx R1 0).find? (fun p=>decide (s∈bQ p.1 (p.2:Int)))=none:=List.find?_eq_none.mpr fun p hp=>by simpa using hn p hp
 rw [this,Option.none_or,tf,fH];have h':s∈bQ r ((0+R1.length:Nat):Int):=by rw [mJ]; exact h
 simp only [h',decide_true];simp
theorem Lo{R:Rows}{p:List T3×Nat}(h:p∈R.zipIdx 0):p.1∈R/\p.2 < R.length:=by
 obtain⟨i,hi⟩:=jV h;rw [N9] at hi;obtain⟨r,hr,e⟩:=Option.map_eq_some_iff.mp hi;subst e;exact⟨eC hr,by have:=(List.getElem?_eq_some_iff.mp hr).1; simpa using this⟩
theorem Ir{R1 R2:Rows}{A B:List T3}{x:T3}(d:wH (R1++(A++x :: B) :: R2)):Ce (R1++(A++x :: B) :: R2) x.s=R1.length:=by
 have hx:x∈(R1++(A++x :: B) :: R2).flatten:=by rw [dH]; simp
 refine Ef (by unfold bQ; rw [if_neg (by simp)]; simp) fun p hp=>?_;obtain⟨h1,h2⟩:=Lo hp;unfold bQ;split
 ·rw [hU]; exact d.PB hx _
 ·intro z;obtain⟨y,hy,e⟩:=List.mem_map.mp z;have nd:=d.nd;rw [dH,aL] at nd;exact(List.nodup_append.mp nd).2.2 _ (List.mem_map.mpr ⟨y,List.mem_flatten.mpr ⟨_,h1,hy⟩,e⟩) _ (by simp) rfl
theorem Ol{R1 R2:Rows}(d:wH (R1++[] :: R2)):Ce (R1++[] :: R2) ⟨(R1.length:Nat),2⟩=R1.length:=by
 refine Ef (by unfold bQ; rw [if_pos rfl]; simp) fun p hp=>?_;obtain⟨h1,h2⟩:=Lo hp;unfold bQ;split
 ·rw [hU];intro e;have:=congrArg T2.a e;simp only at this;lia
 ·intro z;obtain⟨y,hy,e⟩:=List.mem_map.mp z;exact d.PB (by rw [dH]; exact du _ (List.mem_flatten.mpr ⟨_,h1,hy⟩)) _ e
end Mo
end K2
end
section
namespace K2
open PySem (Str)
open Enc (enc)
namespace Mo
open K2.P
open K2.vJ (cU)
open K2.xQ (oi Ro ow ue)
open K2.HV (jJ uw uA ux j5 qC uD jx)
noncomputable def ZF(s:T2)(rows:Rows)(k:Nat):Prop:=∀ (j:Nat) (r:List T3),rows[j]?=some r->s=⟨((k+j:Nat):Int),2⟩->r=[]
theorem QF{rows:Rows}{s:T2}(d:wH rows)(h:X4 rows s):ZF s rows 0:=by
 intro j r hj e;cases h with
 | «at» R1 R2 A B x e1 hs =>
  subst e1 hs;exact absurd e (d.PB (by rw [dH]; simp) _)
 | mt R1 R2 e1 hs =>
  subst e1 hs;have:=congrArg T2.a e;simp only [mJ] at this;have hj':j=R1.length:=by lia
  subst hj';simpa using hj.symm
theorem Qp{s:T2}{ps:List T3}{rows wU:Rows}(h:Ro rows wU):∀ {k:Nat},ZF s rows k->Ro (oj s ps rows k) (oj s ps wU k):=by
 induction h with
 | nil=>intro k _; exact .nil
 | @cons r x rs xs q _ ih =>
  intro k ok;refine .cons ?_ (ih fun j r' hj e=>ok (j+1) r' (by simpa using hj) (by rw [e]; congr 2; lia));have q:kl r x:=q;show kl _ _;unfold nK;by_cases hs:s=⟨(k:Nat),2⟩
  ·have:r=[]:=ok 0 r rfl (by simpa using hs);subst this;rw [q.nil]; exact .refl _
  ·rw [if_neg hs,aE,aE]; exact q.flat
theorem Ro.WG{a b:Rows}(h:Ro a b):b.length=a.length:=by
 induction h with
 | nil=>rfl
 | cons _ _ ih=>rw [ag,ag,ih]
theorem LD{a b:Rows}(h:Ro a b){s:T2}:∀ {k:Nat},s∈bK a k->s∈bK b k:=by
 induction h with
 | nil=>intro k h; exact h
 | @cons r x rs xs q _ ih =>
  intro k h;have q:kl r x:=q;rw [bK] at h ⊢;rcases List.mem_append.mp h with h | h
  ·refine du _ ?_;unfold bQ at h ⊢;by_cases hr:r=[]
   ·subst hr; rw [q.nil]; exact h
   ·rw [if_neg hr] at h;have hx:x≠[]:=fun z=>hr (by have:=q.perm; rw [z] at this; exact this.symm.eq_nil);rw [if_neg hx];exact((q.perm.map T3.s).mem_iff).mpr h
  ·exact bJ _ (ih h)
theorem rR{a b:Rows}(h:Ro a b):b.flatten.Perm a.flatten:=by
 induction h with
 | nil=>exact .refl _
 | cons q _ ih =>
  have q:kl _ _:=q;rw [bz,bz];exact q.perm.append ih
theorem wH.ro{a b:Rows}(d:wH a)(h:Ro a b):wH b :=
 ⟨((rR h).map T3.s).nodup_iff.mpr d.nd,fun p hp=>d.way p ((rR h).mem_iff.mp hp)⟩
theorem _root_.Internal.K2.Dr.ro{a b:Rows}(d:Dr a)(h:Ro a b):Dr b :=
 ⟨(d.dn.ro h).nd,(d.dn.ro h).way,fun p hp=>d.hand p ((rR h).mem_iff.mp hp),fun p hp=>(rR h).mem_iff.mpr (d.yS p ((rR h).mem_iff.mp hp)),by rw [(rR h).length_eq]; exact d.xH,by rw [Ro.WG h]; exact d.str⟩
theorem wH.row{rows:Rows}(d:wH rows){r:List T3}(h:r∈rows):(r.map T3.s).Nodup:=by
 obtain⟨A,B,rfl⟩:=lC h;have:=d.nd;rw [dH,aL,aL] at this;exact(List.nodup_append.mp (List.nodup_append.mp this).2.1).1
theorem LJ{a b:Rows}(h:Ro a b):(∀ r∈a,(r.map T3.s).Nodup)->b.map cU=a.map cU:=by
 induction h with
 | nil=>intro _; rfl
 | cons q _ ih =>
  intro hn;have q:kl _ _:=q;rw [au,au,ih fun r hr=>hn r (aR _ hr),q.VN (hn _ bf)]
theorem wH.LK{a b:Rows}(d:wH a)(h:Ro a b):b.map cU=a.map cU:=LJ h fun r hr=>d.row hr
noncomputable def tG(ns:List Int)(rows:Rows):Rows:=rows.map (List.filter fun p=>!decide (p.a∈ns))
theorem Rq{ns:List Int}{a b:Rows}(h:Ro a b):Ro (tG ns a) (tG ns b):=by
 induction h with
 | nil=>exact .nil
 | cons q _ ih =>
  have q:kl _ _:=q;exact .cons (show kl _ _ from q.Uh) ih
theorem wb{ns:List Int}{r:List T3}(h:∀ p∈r,p.a∉ns):r.filter (fun p=>!decide (p.a∈ns))=r:=List.filter_eq_self.mpr fun p hp=>by simpa using h p hp
theorem Ff{ns:List Int}{r:List T3}(h:∀ p∈r,p.a∈ns):r.filter (fun p=>!decide (p.a∈ns))=[]:=List.filter_eq_nil_iff.mpr fun p hp=>by simpa using h p hp
theorem Fe{ns:List Int}{s:T2}{ps:List T3}(hp:∀ p∈ps,p.a∈ns):∀ {r:List T3},(∀ p∈r,p.a∉ns)->(r.flatMap (EA s ps)).filter (fun p=>!decide (p.a∈ns))=r
 | [],_=>rfl
 | a :: r,h=>by
  rw [eS,cT,Fe hp fun p hp=>h p (aR _ hp)];have h1:([a]:List T3).filter (fun p=>!decide (p.a∈ns))=[a]:=wb fun p hp=>by rw [List.mem_singleton.mp hp]; exact h a bf
  unfold EA;split
  ·rw [show a :: ps=[a]++ps from rfl,cT,h1,Ff hp]; rfl
  ·rw [h1]; rfl
theorem Jd{ns:List Int}{s:T2}{ps:List T3}(hp:∀ p∈ps,p.a∈ns):∀ {rows:Rows} {k:Nat},(∀ p∈rows.flatten,p.a∉ns)->tG ns (oj s ps rows k)=rows
 | [],_,_=>rfl
 | r :: rows,k,h=>by
  show (nK s ps k r).filter _ :: tG ns (oj s ps rows (k+1))=_;rw [Jd hp fun p hp=>h p (by rw [bz]; exact bJ _ hp)];unfold nK;rw [cT,Fe hp fun p hp=>h p (by rw [bz]; exact du _ hp)];congr 1;split
  ·rw [Ff hp]; rfl
  ·rfl
theorem Ew{rows:Rows}{s:T2}{ps:List T3}(d:wH rows)(h:X4 rows s):(oj s ps rows 0).flatten.Perm (ps++rows.flatten):=by
 cases h with
 | «at» R1 R2 A B x e hs =>
  subst e hs;rw [CB d,dH,dH];simp only [bS,aA];have:(R1.flatten++(A++x :: (ps++(B++R2.flatten))))=(R1.flatten++(A++[x]))++(ps++(B++R2.flatten)):=by simp
  rw [this];have e2:ps++(R1.flatten++(A++x :: (B++R2.flatten)))=ps++((R1.flatten++(A++[x]))++(B++R2.flatten)):=by simp
  rw [e2];exact FR _ _ _
 | mt R1 R2 e hs =>
  subst e hs;rw [CA d,dH,dH,aE];exact FR _ _ _
theorem uU(s:T2)(ps:List T3):∀ (rows:Rows) (k:Nat),(oj s ps rows k).length=rows.length
 | [],_=>rfl
 | r :: rows,k=>by rw [oj,ag,ag,uU s ps rows (k+1)]
noncomputable def cps(n f h:Int):List T3:=[⟨n,f,h⟩,⟨n,1 - f,h⟩]
theorem Jn{rows:Rows}{s:T2}{n f h:Int}(d:Dr rows)(hs:s∈bK rows 0)(hn:∀ p∈rows.flatten,p.a≠n)(hf:f=0\/f=1)(hh:h=1\/h=-1)(hl:rows.flatten.length<=22):Dr (oj s (cps n f h) rows 0):=by
 have pp:=Ew (ps:=cps n f h) d.dn (RO hs);have mem:∀ p,p∈(oj s (cps n f h) rows 0).flatten↔p=⟨n,f,h⟩\/p=⟨n,1 - f,h⟩\/p∈rows.flatten:=fun p=>by
  rw [pp.mem_iff]; simp [cps]
 have fr:∀ w:Int,(⟨n,w⟩:T2)∉rows.flatten.map T3.s:=fun w z=>by
  obtain⟨p,hp,e⟩:=List.mem_map.mp z;exact hn p hp (congrArg T2.a e)
 refine⟨?_,?_,?_,?_,?_,?_⟩
 ·rw [(pp.map T3.s).nodup_iff,aL,fZ];refine⟨?_,d.nd,?_⟩
  ·have:(⟨n,f⟩:T2)≠⟨n,1 - f⟩:=fun e=>by have:=congrArg T2.b e; simp only at this; lia
   simp [cps,T3.s,this]
  ·intro a ha b hb e;subst e;simp only [cps,au,aO,e7,dI,or_false] at ha;rcases ha with rfl | rfl
   ·exact fr f hb
   ·exact fr (1 - f) hb
 ·intro p hp;rcases (mem p).mp hp with rfl | rfl | hp
  ·exact hf
  ·show 1 - f=0\/1 - f=1; lia
  ·exact d.way p hp
 ·intro p hp;rcases (mem p).mp hp with rfl | rfl | hp
  ·exact hh
  ·exact hh
  ·exact d.hand p hp
 ·intro p hp;rcases (mem p).mp hp with rfl | rfl | hp
  ·exact(mem _).mpr (.inr (.inl rfl))
  ·exact(mem _).mpr (.inl (by show (⟨n,1 - (1 - f),h⟩:T3)=_; congr 1; lia))
  ·exact(mem _).mpr (.inr (.inr (d.yS p hp)))
 ·rw [pp.length_eq,aI]; simp only [cps,ag,aw]; lia
 ·rw [uU]; exact d.str
theorem Oc{r:List T3}{p q:T3}(h:(∃ A B,r=A++p :: q :: B)\/(∃ M,r=q :: M++[p])\/(r=[p]/\q=p)):(p,q)∈r.zip (fI r):=by
 have go:∀ i:Nat,r[i]?=some p->(fI r)[i]?=some q->(p,q)∈r.zip (fI r):=fun i h1 h2=>eC (i:=i) (List.getElem?_zip_eq_some.mpr ⟨h1,h2⟩);rcases h with ⟨A,B,rfl⟩ | ⟨M,rfl⟩ | ⟨rfl,rfl⟩
 ·refine go A.length (by simp) ?_;unfold fI;rw [cz (by simp),List.getElem?_drop,Nat.add_comm,bF (by lia)];simp
 ·refine go (M.length+1) ?_ ?_
  ·rw [bF (by simp)]; simp
  ·unfold fI;rw [bF (by simp)]; simp
 ·exact go 0 rfl rfl
theorem kl.adj{p q:T3}{T r:List T3}(h:kl (p :: q :: T) r):(p,q)∈r.zip (fI r):=by
 obtain⟨u,v,e,rfl⟩:=h.parts;refine Oc ?_
 match u,e with
 | [],e=>exact .inl ⟨[],T,by simpa using e.symm⟩
 | [a],e =>
  simp at e;obtain⟨rfl,rfl⟩:=e;exact .inr (.inl ⟨T,rfl⟩)
 | a :: b :: u,e =>
  simp at e;obtain⟨rfl,rfl,rfl⟩:=e;exact .inl ⟨v,u,rfl⟩
theorem JU{R1 R2:Rows}{r:List T3}{x:T3×T3}(h:x∈r.zip (fI r)):x∈pairsOf (R1++r :: R2):=by
 unfold pairsOf;rw [iP,eS];exact bJ _ (du _ h)
theorem uY{R1 R2:Rows}{p q:T3}{T r:List T3}(d:Dr (R1++r :: R2))(h:kl (p :: q :: T) r):oa (lj (pairsOf (R1++r :: R2))) p.s=some q.s:=by
 rw [EE d];exact(Mc d (JU h.adj)).1
structure Cu(rows:Rows)(n:Int)(s:T2)(y z:T3):Prop where
 ex:∃ (R1 R2:Rows) (r M:List T3),rows=R1++r :: R2/\kl (y :: z :: M) r/\((M=[]/\s=⟨(R1.length:Nat),2⟩)\/∃ M' x,M=M'++[x]/\x.s=s)/\∀ p∈M,p.a≠n
theorem PU{rows:Rows}{s:T2}{n f h:Int}(d:wH rows)(hs:s∈bK rows 0)(hn:∀ p∈rows.flatten,p.a≠n):Cu ((oj s (cps n f h) rows 0).map cU) n s ⟨n,f,h⟩ ⟨n,1 - f,h⟩:=by
 cases RO hs with
 | «at» R1 R2 A B x e hx =>
  subst e hx;rw [CB d,aL,au];refine⟨_,_,_,B++(A++[x]),rfl,?_,.inr ⟨B++A,x,by simp,rfl⟩,fun p hp=>hn p ?_⟩
  ·refine kl.trans ?_ (yH _);refine .of (u:=⟨n,f,h⟩ :: ⟨n,1 - f,h⟩ :: B) (v:=A++[x]) (by simp) (by simp [cps])
  ·rw [dH];simp only [FU,e7,dI,or_false] at hp ⊢;rcases hp with h | h | h
   ·exact .inr (.inl (.inr (.inr h)))
   ·exact .inr (.inl (.inl h))
   ·exact .inr (.inl (.inr (.inl h)))
 | mt R1 R2 e hx =>
  subst e hx;rw [CA d,aL,au];exact⟨_,_,_,[],rfl,yH _,.inl ⟨rfl,by rw [av]⟩,fun p hp=>by cases hp⟩
end Mo
end K2
end
section
namespace K2
open PySem (Str)
open Enc (enc)
namespace K3
open K2.P K2.qh
noncomputable def h8:jk:=fun ds G Q _=>∃ rows:Rows,ds=[enc rows]/\rows.flatten.length < 64/\∀ p,G p=none->Q (.ref p) (cH G p (.lst ((names rows).map enc)))
noncomputable def wZ:fY :=
 (bA (dc (jw yg (ak (gZ 1 [] (jS (bg gR (ak (ai 0) aH))) (aK 0) (some (da (aP (oW false) (aP eW (ai 0) (dC (.int 1))) (dC (.int 0))))) (aP eW (ai 0) (dC (.int 0)))) aH))))
theorem xn(ds:List D)(G:Gp)(Q:DK)(h:h8 ds G Q fun _ _=>False):wZ (fun _ _=>False) (ends Q) (aW 1 ds) G:=by
 obtain⟨rows,rfl,hl,q⟩:=h;unfold wZ;simp only [bA,dc,jw,ak,gZ,aW,au,aO,ag,aw,aA,aE,aH,ends,dj,bg,ai,aa];refine⟨rows,rfl,(show rows.flatten.length<=1000 by lia),ij ⟨FW (by rw [av]; show rows.flatten.length<=1000; lia),?_⟩⟩;refine lu (xs:=rows.flatten) (fun pre acc τ G'=>G=G'/\(∃ a,τ=[a])/\acc=((pre.filter fun p=>p.b == 0).map (·.a)).map enc) ⟨rfl,⟨_,rfl⟩,rfl⟩ (fun _ _ _ _ _=>trivial) ?_ ?_
 ·rintro pre x post acc τ G' N e ⟨rfl,⟨a,rfl⟩,rfl⟩ hN;simp only [aK,nS,aj,aP,ai,aa,dC,cX,Js,bX,DY];refine⟨_,_,.int _,.int _,?_⟩;simp only [ah,rh,if_false,aS];split
  ·rename_i h;refine hN _ _ _ ⟨rfl,⟨_,rfl⟩,?_⟩;simp [cT,List.filter_cons,h,Jf]
  ·rename_i h;refine hN _ _ _ ⟨rfl,⟨_,rfl⟩,?_⟩;simp [cT,List.filter_cons,h]
 ·rintro acc τ G' ⟨rfl,⟨a,rfl⟩,rfl⟩ p hp;refine HL (IsL.ref aF) (by rw [av]; exact Nat.lt_of_le_of_lt (vG _ _) hl) fun p2 sx=>?_;exact Hr ((fy.new hp).trans (.new sx)) ((fy.new hp).free sx) aF (q _ ((fy.new hp).free sx))
noncomputable def yw:Rows->Nat->List (T2×Int)
 | [],_=>[]
 | r :: rs,k=>(bQ r (k:Int)).map (fun s=>(s,(k:Int)))++yw rs (k+1)
theorem wL:∀ (rows:Rows) (k:Nat),(yw rows k).map (·.1)=bK rows k
 | [],k=>rfl
 | r :: rs,k=>by
  rw [yw,bK,aL,wL rs,jD];congr 1
  conv=>rhs; rw [<-List.map_id (bQ r (k:Int))]
  rfl
theorem eq_int(i j:Int):iQ (.int i) (.int j)=decide (i=j):=Enc.eqv i j
theorem Qm{rows:Rows}{k:Nat}(h:k < rows.length):oY (rows.map (enc:List T3->D)) (0+(k:Int))=some (enc rows[k]):=by
 rw [Int.zero_add,gG _ (by lia) (by rw [av]; lia),dJ]; rfl
end K3
end K2
end
section
namespace K2
open PySem (Str)
open Enc (enc)
namespace HV
open K2.P
open K2.xQ (M met VQ Yt oi Us Va sm bi Sz Ro)
open K2.vJ (cU iZ mE jO)
open K2.qh (HR HR.fz)
open K2.K3 (Rl)
noncomputable def Bo:fY :=
 (bI (cN (e8 (da (ai 0))) (bA (dc (fW aH))) bD)
 (bI (bU (p8 t9 qR (ai 0) (ak (jw KC (ak (ai 0) aH)) aH)) (aK 1))
 (bA (dc (aP kA (yb (ai 0) (mC (ai 1)) eI) (yb (ai 0) eI (mC (ai 1))))))))
noncomputable def ou:jk:=fun ds G Q _=>∃ r:List T3,ds=[enc r]/\r.length<=1000/\∀ p,G p=none->Q (.ref p) (cH G p (.lst ((cU r).map enc)))
theorem BY(ds:List D)(G:Gp)(Q:DK)(h:ou ds G Q fun _ _=>False):Bo (fun _ _=>False) (ends Q) (aW 2 ds) G:=by
 obtain⟨r,rfl,hl,q⟩:=h;unfold Bo;refine cJ (fun τ G'=>G=G'/\r≠[]/\τ=[some (enc r),none]) ?_ ?_
 ·intro N hN;simp only [cN,e8,aW,au,aO,ag,aw,aZ,aA,aE,bA,dc,fW,aH,ends,bD,bX,ai,aa];cases r with
  | nil=>exact⟨by decide,fun p hp=>Hr (.new hp) hp aF (q p hp)⟩
  | cons a t=>exact hN _ _ ⟨rfl,by simp,rfl⟩
 ·rintro _ _ ⟨rfl,ot,rfl⟩;simp only [ends,dE,bU,p8,ai,aa,ak,jw,aH,aK,bA,dc,aP,yb,aq,aj,eI,jC,ae];refine⟨trivial,mE rfl ot (jO trivial rfl ot ?_)⟩;have U3:r.idxOf (iZ r)<=r.length:=nH;refine xQ.Ov (IsL.enc r) U3 hl fun p G1 l f g=>?_;exact Hr l f g (q p f)
noncomputable def qE:fY :=
 (bA (dc (gZ 1 [] (jS (ai 0)) (aK 0) none (bg ou (ak (ai 0) aH)))))
noncomputable def cx:jk:=fun ds G Q _=>∃ rows:Rows,ds=[enc rows]/\(rows.length<=1000/\∀ r∈rows,r.length<=1000)/\∀ p as G',HR G G' p as (rows.map cU)->Q (.ref p) G'
theorem rH(ds:List D)(G:Gp)(Q:DK)(h:cx ds G Q fun _ _=>False):qE (fun _ _=>False) (ends Q) (aW 1 ds) G:=by
 obtain⟨rows,rfl,⟨hl,hr⟩,q⟩:=h;unfold qE;simp only [bA,dc,gZ,aW,au,aO,ag,aw,aA,aE,ends,dj,ai,aa];refine ij ⟨FW (by rw [av]; exact hl),?_⟩;refine lu (xs:=rows) (fun pre acc τ G'=>(∃ a,τ=[a])/\∃ bs:List Nat,acc=bs.map D.ref/\bs.length=pre.length/\bs.Nodup/\(∀ a∈bs,G a=none)/\fy G G'/\∀ (i a:Nat) (r:List T3),bs[i]?=some a->pre[i]?=some r->G' a=some (.lst ((cU r).map enc))) ⟨⟨_,rfl⟩,[],rfl,rfl,kn,(fun a h=>by cases h),.refl _,fun i a r h=>by simp at h⟩ (fun _ _ _ _ _=>trivial) ?_ ?_
 ·rintro pre r post acc τ G' N e ⟨⟨a,rfl⟩,bs,rfl,hl,nd,fr,le,Hl⟩ hN;simp only [aK,bg,ak,ai,aj,aa,aH];refine⟨r,rfl,hr r (by rw [e]; simp),fun p hp=>?_⟩;have TH:p∉bs:=fun z=>by
   obtain⟨i,hi⟩:=jV z;have h1:i < pre.length:=by rw [<-hl]; exact(List.getElem?_eq_some_iff.mp hi).1
   rw [Hl i p pre[i] hi (aM h1)] at hp; cases hp
  refine hN _ _ _ ⟨⟨_,rfl⟩,bs++[p],by simp,by simp [hl],?_,?_,le.trans (.new hp),?_⟩
  ·rw [fZ];refine⟨nd,by simp,fun a h b hb e=>?_⟩;rw [hU] at hb;subst hb e;exact TH h
  ·intro a h0;rcases List.mem_append.mp h0 with h | h
   ·exact fr a h
   ·rw [hU] at h; subst h; exact le.free hp
  ·intro i b s h1 h2;by_cases hi:i < bs.length
   ·rw [cz hi] at h1;rw [cz (by lia)] at h2;have:b≠p:=by rintro rfl; exact TH (eC h1)
    rw [ez this];exact Hl i b s h1 h2
   ·rw [bF (by lia)] at h1 h2;have i0:i - bs.length=0:=by have:=(List.getElem?_eq_some_iff.mp h1).1; simp at this; lia
    rw [i0] at h1;rw [<-hl,i0] at h2;simp at h1 h2;subst h1 h2;exact aF
 ·rintro acc τ G5 ⟨⟨a',rfl⟩,bs,rfl,hl,nd,fr,le,Hl⟩ p3 Hj;refine fX (q p3 bs _ ⟨le.trans (.new Hj),le.free Hj,aF,fun z=>?_,nd,fr,by rw [av]; exact hl,fun i b r h1 h2=>?_⟩)
  ·obtain⟨i,hi⟩:=jV z;have h1:i < rows.length:=by rw [<-hl]; exact(List.getElem?_eq_some_iff.mp hi).1
   rw [Hl i p3 rows[i] hi (aM h1)] at Hj; cases Hj
  ·rw [dq] at h2;obtain⟨r',TB,rfl⟩:=Option.map_eq_some_iff.mp h2;exact(fy.new Hj) _ _ (Hl i b r' h1 TB)
end HV
end K2
end
section
namespace K2
open PySem (Str)
open Enc (enc)
namespace Mo
open K2.P
open K2.K3 (h8 xY)
open K2.vJ (cU)
open K2.qh (HR)
open K2.HV (cx)
theorem Eu{κ α:Type} [DecidableEq κ] [Enc κ] [rL κ] [DecidableEq α] [Enc α]{l:List (κ×α)}{k:κ}{v:α}{G:Gp}{Q:DK}(hv:oa l k=some v)(q:Q (enc v) G):eW (.wV (jB l)) (enc k) G Q:=by
 rw [Cy,Mj,hv];exact⟨zc l k,q⟩
noncomputable def sU:fY :=
 (bA (dc (O6 (aP (oW false) (aP eW (ai 0) (ai 1)) (ai 2)) (aP (oW false) (aP eW (ai 0) (ai 2)) (ai 1)))))
noncomputable def kW:jk:=fun ds G Q _=>∃ (l:List (T2×T2)) (a b va vb:T2),ds=[.wV (jB l),enc a,enc b]/\(oa l a=some va/\oa l b=some vb)/\Q (.bl (decide (va=b)||decide (vb=a))) G
theorem A8(ds:List D)(G:Gp)(Q:DK)(h:kW ds G Q fun _ _=>False):sU (fun _ _=>False) (ends Q) (aW 3 ds) G:=by
 obtain⟨l,a,b,va,vb,rfl,⟨ha,hb⟩,q⟩:=h;unfold sU;simp only [bA,dc,aW,au,aO,ag,aw,aA,aE,ends,yc,aP,ai,aa,ae];refine Eu ha (fg (by decide) ?_);simp only [ah,if_false,aS];by_cases h1:va=b
 ·simp only [h1,decide_true,if_true];rw [h1] at q;simp only [decide_true,Bool.true_or] at q;exact fX q
 ·simp only [h1,decide_false,ah,if_false];refine Eu hb (fg (by decide) ?_);simp only [h1,decide_false,Aj] at q;exact fX q
noncomputable def qD:fY :=
 (bA (dc (bg kW (ak (bg kJ (ak (ai 0) aH)) (ak (fF (ak (ai 1) (ak (dC (.int 0)) aH))) (ak (fF (ak (ai 1) (ak (dC (.int 1)) aH))) aH))))))
noncomputable def j0:jk:=fun ds G Q _=>∃ (rows:Rows) (n:Int) (v0 v1:T2),ds=[enc rows,.int n]/\(rows.flatten.length<=500/\oa (lj (pairsOf rows)) ⟨n,0⟩=some v0/\oa (lj (pairsOf rows)) ⟨n,1⟩=some v1)/\Q (.bl (decide (v0=⟨n,1⟩)||decide (v1=⟨n,0⟩))) G
theorem zT(ds:List D)(G:Gp)(Q:DK)(h:j0 ds G Q fun _ _=>False):qD (fun _ _=>False) (ends Q) (aW 2 ds) G:=by
 obtain⟨rows,n,v0,v1,rfl,⟨hl,h0,h1⟩,q⟩:=h;unfold qD;simp only [bA,dc,bg,ak,ai,aW,au,aO,ag,aw,aA,aE,aa,aH,fF,ae,dC,ends];exact⟨rows,rfl,hl,⟨by decide,by decide,_,⟨n,0⟩,⟨n,1⟩,v0,v1,rfl,⟨h0,h1⟩,fX q⟩⟩
noncomputable def mX:fY :=
 (bI (bU (bg h8 (ak (ai 0) aH)) (aK 2))
 (eD (jS (ai 1)) (aK 3) (cN (da (aP (Bp true) (ai 3) (ai 2))) rD bD)))
noncomputable def iM:jk:=fun ds G Q _=>∃ (rows:Rows) (d:D) (ns:List Int),ds=[enc rows,d]/\IsL G d (ns.map enc)/\(rows.flatten.length < 64/\∀ n∈ns,n∈names rows)/\∀ G',fy G G'->Q .dQ G'
theorem vw(ds:List D)(G:Gp)(Q:DK)(h:iM ds G Q fun _ _=>False):mX (fun _ _=>False) (ends Q) (aW 4 ds) G:=by
 obtain⟨rows,d,ns,rfl,hd,⟨hl,hn⟩,q⟩:=h;unfold mX;simp only [ends,aW,au,aO,ag,aw,aZ,aA,aE,dE,bU,bg,ak,ai,aa,aH,aK,aq,aj];refine⟨rows,rfl,hl,fun p hp=>?_⟩;have le:=fy.new (o:=.lst ((names rows).map enc)) hp;simp only [eD,dj,ai,ae,aa];refine QZ (hd.mono le) fun ok eV=>?_;refine fL (xs:=ns) (fun pre τ G'=>cH G p (.lst ((names rows).map enc))=G'/\∃ a,τ=[some (enc rows),some d,some (.ref p),a]) ⟨rfl,_,rfl⟩ (fun _ _ G' h=>eV G' (by rw [h.1]; exact .refl _)) ?_ ?_
 ·rintro pre n post τ G' N e ⟨rfl,a,rfl⟩ hN;simp only [aK,cN,aq,aj,bD,bX,aP,ai,ae,aa];refine xY (x:=n) (xs:=names rows) (by decide) aF ?_;have:n∈names rows:=hn n (by rw [e]; simp);simp only [this,decide_true,aJ,if_true,aS,ah,if_false];exact hN _ _ ⟨rfl,_,rfl⟩
 ·rintro τ G' ⟨rfl,a,rfl⟩;exact q _ le
noncomputable def pQ:fY :=
 (cN (e8 (da (ai 0))) rD bD)
noncomputable def jF:jk:=fun ds G Q _=>∃ b:Bool,ds=[.bl b]/\b=true/\Q .dQ G
theorem xN(ds:List D)(G:Gp)(Q:DK)(h:jF ds G Q fun _ _=>False):pQ (fun _ _=>False) (ends Q) (aW 1 ds) G:=by
 obtain⟨b,rfl,rfl,q⟩:=h;unfold pQ;simp only [cN,e8,aW,au,aO,ag,aw,aA,aE,ends,bD,bX,ai,aa,aS,aJ,ah,if_false];exact q
noncomputable def sT:fY :=
 (bI (bU (bg h8 (ak (ai 0) aH)) (aK 2))
 (bI (cN (da (aP V0 (aP kA (jw iB (ak (ai 2) aH)) (jw iB (ak (ai 1) aH))) (dC (.int 12)))) rD bD)
 (eD (jS (ai 1)) (aK 3) (bI (cN (da (aP (Bp false) (ai 3) (ai 2))) rD bD)
 (ee (p8 t9 gq (ai 2) (ak (ai 3) aH)))))))
noncomputable def kU:jk:=fun ds G Q _=>∃ (rows:Rows) (d:D) (ns:List Int),ds=[enc rows,d]/\IsL G d (ns.map enc)/\(rows.flatten.length < 64/\(names rows).length+ns.length<=12/\ns.Nodup/\∀ n∈ns,n∉names rows)/\∀ G',fy G G'->Q .dQ G'
theorem A7(ds:List D)(G:Gp)(Q:DK)(h:kU ds G Q fun _ _=>False):sT (fun _ _=>False) (ends Q) (aW 4 ds) G:=by
 obtain⟨rows,d,ns,rfl,hd,⟨hl,hm,nd,hn⟩,q⟩:=h;unfold sT;simp only [ends,aW,au,aO,ag,aw,aZ,aA,aE,dE,bU,bg,ak,ai,aa,aH,aK,aq,aj];refine⟨rows,rfl,hl,fun p hp=>?_⟩;have le:=fy.new (o:=.lst ((names rows).map enc)) hp;have gp:=aF (G:=G) (a:=p) (o:=.lst ((names rows).map enc));have Y3:d≠.ref p:=fun e=>by
  rcases hd with e1 | ⟨a,e1,e2⟩
  ·rw [e] at e1; cases e1
  ·rw [e] at e1; cases e1; rw [hp] at e2; cases e2
 generalize cH G p (.lst ((names rows).map enc))=G1 at le gp ⊢;simp only [eZ,cN,bD,bX,aP,jw,ak,ai,ae,aa,aH,dC];refine gF (.ref gp) (gF (hd.mono le) ?_);simp only [av,gT,xZ,aS];have:¬ ((names rows).length:Int)+(ns.length:Int) > 12:=by lia
 simp only [this,decide_false,ah,eD,dj,ai,ae,aa,if_false];refine qh.OY hd le fun ok S0=>?_;refine fL (xs:=ns) (fun pre τ G'=>fy G G'/\G' p=some (.lst ((names rows++pre).map enc))/\∃ a,τ=[some (enc rows),some d,some (.ref p),a]) ⟨le,by rw [c9]; exact gp,_,rfl⟩ (fun _ _ G' h=>S0 G' h.1) ?_ ?_
 ·rintro pre n post τ G' N e ⟨l,g,a,rfl⟩ hN;simp only [aK,aq,aj,eZ,cN,bD,ee,p8,ai,ae,aa,iL,ak,aH,eX,bX,aP];refine xY (x:=n) (xs:=names rows++pre) (by decide) g ?_;have h1:n∉names rows++pre:=fun z=>by
   rcases List.mem_append.mp z with z | z
   ·exact hn n (by rw [e]; simp) z
   ·rw [e,fZ] at nd;exact nd.2.2 n z n (bf) rfl
  simp only [ah,h1,decide_false,bL,if_false,aS,g,true_and];refine⟨?_,hN _ _ ⟨l.put hp,?_,_,rfl⟩⟩
  ·have:=congrArg dh e;simp at this;exact xx (by rw [av,aI]; lia)
  ·rw [aF,<-bS,aL (l₁:=names rows++pre)]; rfl
 ·rintro τ G' ⟨l,g,a,rfl⟩;exact q _ l
theorem O2{G:Gp}{R:Nat->Bool}:∀ {a a' b b':List D},DP G R a a'->DP G R b b'->DP G R (a++b) (a'++b'):=by
 intro a a' b b' h1 h2;induction a generalizing a' with
 | nil=>cases h1; exact h2
 | cons x a ih=>cases h1 with | cons h t=>exact .cons h (ih t)
theorem Mr{α:Type} [DecidableEq α] [Enc α]{xs:List α}{x:α}{G:Gp}{Q:DK}(hd:Enc.dep α<=7)(h:x∈xs)(q:Q (.int ((xs.idxOf x:Nat):Int)) G):qR (enc xs) [enc x] G Q:=by
 refine⟨trivial,xs.map enc,enc x,xs.map enc,rfl,Enc.sn _ _ _ (by unfold SN; lia),tu G 7 hd xs,?_⟩;rw [Fd xs h]; exact q
theorem CK{α:Type}{R1 R2:List α}{r:α}{f:α->D}:oY ((R1++r :: R2).map f) ((R1.length:Nat):Int)=some (f r):=by
 rw [gG _ (by lia) (by rw [av]; simp; lia)];simp
theorem Ej{rows:Rows}{s:T2}(h:s∈bK rows 0):∃ p∈rows.zipIdx 0,s∈bQ p.1 (p.2:Int):=by
 cases RO h with
 | «at» R1 R2 A B x e hx =>
  subst e hx;refine⟨(A++x :: B,R1.length),by rw [qc,tf]; simp,?_⟩;unfold bQ; rw [if_neg (by simp)]; simp
 | mt R1 R2 e hx =>
  subst e hx;refine⟨([],R1.length),by rw [qc,tf]; simp,?_⟩;unfold bQ; rw [if_pos rfl]; simp
theorem JO{rows:Rows}{s:T2}(d:wH rows)(h:s∈bK rows 0):∃ (R1 R2:Rows) (r:List T3) (k:Nat),rows=R1++r :: R2/\Ce rows s=R1.length/\s∈bQ r (R1.length:Nat)/\(bQ r (R1.length:Nat)).idxOf s=k/\k<=r.length/\∀ ps,oj s ps rows 0=R1++(r.take (k+1)++ps++r.drop (k+1)) :: R2:=by
 cases RO h with
 | «at» R1 R2 A B x e hx =>
  subst e hx;have hi:(bQ (A++x :: B) (R1.length:Nat)).idxOf x.s=A.length:=by
   have nd:=d.row (r:=A++x :: B) (by simp);have hn:x.s∉A.map T3.s:=fun z=>by
    rw [aL,fZ] at nd;exact nd.2.2 _ z _ bf rfl
   unfold bQ;rw [if_neg (by simp),aL,Be,if_neg hn,au,wJ]; simp
  refine⟨R1,R2,A++x :: B,A.length,rfl,Ir d,by unfold bQ; rw [if_neg (by simp)]; simp,hi,by simp,fun ps=>?_⟩;rw [CB d];have e:A++x :: B=(A++[x])++B:=by simp
  have hl:A.length+1=(A++[x]).length:=by simp
  rw [e,hl,Ii,Ik];simp
 | mt R1 R2 e hx =>
  subst e hx;refine⟨R1,R2,[],0,rfl,Ol d,by unfold bQ; rw [if_pos rfl]; simp,by unfold bQ; rw [if_pos rfl]; simp,aQ _,fun ps=>?_⟩;rw [CA d]; simp
theorem SE(n d i:Nat):jI n d (some (i:Int))=min i n:=by
 show (if ((i:Int) < 0) then ((i:Int)+(n:Int)).toNat else min (i:Int).toNat n)=_;rw [if_neg (by lia)]; simp
theorem Jm{α:Type}(xs:List α)(i:Nat):cut xs none (some (i:Int))=xs.take i:=by
 unfold cut;rw [SE];show (xs.drop 0).take (min i xs.length - 0)=_;rw [List.drop_zero,Nat.sub_zero];exact List.take_eq_take_iff.mpr (by lia)
theorem BN{α:Type}(xs:List α)(i:Nat):cut xs (some (i:Int)) none=xs.drop i:=by
 unfold cut;rw [SE];show (xs.drop (min i xs.length)).take (xs.length - min i xs.length)=_;rw [lP (by rw [cD]; lia)];by_cases h:i<=xs.length
 ·rw [o3 h]
 ·rw [Nat.min_eq_right (by lia),Lj (by lia),Lj (by lia)]
noncomputable def wX:fY :=
 (bI (bU (bg jc (ak (ai 0) (ak (ai 1) aH))) (aK 3))
 (bI (bU (jw qa (ak (ai 0) aH)) (aK 4))
 (bI (bU (aP kA (p8 t9 qR (bg hZ (ak (aP eW (ai 4) (ai 3)) (ak (ai 3) aH))) (ak (ai 1) aH)) (dC (.int 1))) (aK 5))
 (bI (bU (aP kA (aP kA (yb (aP eW (ai 4) (ai 3)) eI (mC (ai 5))) (ai 2)) (yb (aP eW (ai 4) (ai 3)) (mC (ai 5)) eI)) (MR (ai 4) (ai 3)))
 (bA (dc (ai 4)))))))
noncomputable def mS:jk:=fun ds G Q _=>∃ (rows:Rows) (s:T2) (d:D) (ps:List T3),ds=[enc rows,enc s,d]/\IsL G d (ps.map enc)/\(wH rows/\s∈bK rows 0/\rows.length<=500/\(∀ r∈rows,r.length<=500)/\ps.length<=100)/\Q (enc (oj s ps rows 0)) G
theorem FJ(ds:List D)(G:Gp)(Q:DK)(h:mS ds G Q fun _ _=>False):wX (fun _ _=>False) (ends Q) (aW 6 ds) G:=by
 obtain⟨rows,s,d,ps,rfl,hd,⟨dn,hs,hl,hr,hps⟩,q⟩:=h;obtain⟨R1,R2,r,k,e,es,hsr,hk,U3,W3⟩:=JO dn hs;rw [W3] at q;unfold wX;simp only [ends,aW,au,aO,ag,aw,aZ,aA,aE,dE,bU,bg,ak,ai,aa,ae,aH,aK,aq,aj,jw,aP,p8,dC,yb,eI,jC];refine⟨rows,s,rfl,⟨fun r h=>by have:=hr r h; lia,Ej hs⟩,?_⟩;rw [es];simp only [dc,aW,ends,bX,aP,NT,ai,jw,p8,ak,aH,bA,Nc,ee,bU,aK,dC,bD,fF,fW,Kz,kZ,Ry,sC,e8,rE,yc,vj,yb,jC,eI,dj,gX,bg,gZ,gT,yO,oE,qL,lg,oC,fS,kL,oB,xX,Cw,xZ,Cz,cX,qK,uR,Cv,xW,vo,lx,wy,eX,nc,mZ,lG,iL,Cc,Cb,Ca,true_and,and_true,CW,x9,ig,aS,fO,qT,CT,mw,au,aO,aA,aE,aa,ae,aj,aq,ag,aw,aZ,if_true,if_false,aJ,bL,ah,dE,lb];refine zN (IsL.enc rows) fun p4 TC=>?_;have l1:=fy.new (o:=.lst (rows.map enc)) TC;have g4:=aF (G:=G) (a:=p4) (o:=.lst (rows.map enc));generalize cH G p4 (.lst (rows.map enc))=G1 at l1 g4 ⊢;subst e;have Q3:=hr r (by simp);refine ie (.ref g4) CK ?_;refine⟨r,_,rfl,(show r.length<=1000 by lia),?_⟩;refine⟨trivial,Mr (by decide) hsr ?_⟩;rw [hk];simp only [gT,ig];have ek:((k:Nat):Int)+1=((k+1:Nat):Int):=by lia
 rw [ek];refine ie (.ref g4) CK ?_;refine nJ (IsL.enc r) fun p1 MF=>?_;rw [Jm,<-sI];have l2:=fy.new (o:=.lst ((r.take (k+1)).map enc)) MF;refine uT (.ref aF) (hd.mono (l1.trans l2)) (FW (by simp only [av,cA]; lia)) fun p2 sx=>?_;have l3:=fy.new (o:=.lst ((r.take (k+1)).map enc++ps.map enc)) sx;refine ie (.ref (l3 _ _ (l2 _ _ g4))) CK ?_;refine nJ (IsL.enc r) fun p3 Hj=>?_;rw [BN,<-sJ];have l4:=fy.new (o:=.lst ((r.drop (k+1)).map enc)) Hj;refine uT (.ref (l4 _ _ aF)) (.ref aF) (FW (by simp only [aI,av,cA,cD]; lia)) fun p5 NS=>?_;have e5:(r.take (k+1)).map enc++ps.map enc++(r.drop (k+1)).map enc=(r.take (k+1)++ps++r.drop (k+1)).map (enc (α:=T3)):=by simp
 rw [e5];generalize r.take (k+1)++ps++r.drop (k+1)=r' at q ⊢;have l5:=fy.new (o:=.lst (r'.map enc)) NS;have g5:=aF (G:=cH (cH (cH G1 p1 (.lst ((r.take (k+1)).map enc))) p2 (.lst ((r.take (k+1)).map enc++ps.map enc))) p3 (.lst ((r.drop (k+1)).map enc))) (a:=p5) (o:=.lst (r'.map enc));have WH:=((l2.trans l3).trans l4).trans l5;have ot:p5≠p4:=by
  rintro rfl;rw [((l2.trans l3).trans l4) _ _ g4] at NS; cases NS
 have hf5:G p5=none:=(l1.trans ((l2.trans l3).trans l4)).free NS;generalize cH (cH (cH (cH G1 p1 (.lst ((r.take (k+1)).map enc))) p2 (.lst ((r.take (k+1)).map enc++ps.map enc))) p3 (.lst ((r.drop (k+1)).map enc))) p5 (.lst (r'.map enc))=G5 at WH g5 ⊢;simp only [MR,ai,ae,aa,bA,dc];unfold Em;simp only [WH _ _ g4];have ei:Hd ((R1++r :: R2).map (enc (α:=List T3))).length ((R1.length:Nat):Int)=some R1.length:=by
  unfold Hd;rw [if_pos (by lia),if_pos (by rw [av]; simp; lia)]; simp
 simp only [ei];have e6:((R1++r :: R2).map enc).set R1.length (.ref p5)=R1.map enc++D.ref p5 :: R2.map enc:=by
  rw [aL,au];have:R1.length=(R1.map (enc (α:=List T3))).length:=by rw [av]
  rw [this,List.set_append_right _ _ (aQ _)]; simp
 rw [e6];have hle:fy G (cH G5 p4 (.lst (R1.map enc++D.ref p5 :: R2.map enc))):=(l1.trans WH).put TC;have q':Q (.eY (R1.map enc++D.eY (r'.map enc) :: R2.map enc)) G:=by
  have:(enc (R1++r' :: R2):D)=.eY (R1.map enc++D.eY (r'.map enc) :: R2.map enc):=by rw [M3,aL]; rfl
  rw [<-this]; exact q
 refine Hq hle TC aF (O2 (DP.same _) (.cons (.ref ?_ ?_ (DP.same _)) (DP.same _))) q'
 ·rw [ez ot]; exact g5
 ·simp [hf5]
theorem Px{α:Type} [DecidableEq α] [Enc α]{neg:Bool}{x:α}{xs:List α}{d:D}{G:Gp}{Q:DK}(hd:Enc.dep α<=7)(h:IsL G d (xs.map enc))(q:Q (.bl (if neg then !decide (x∈xs) else decide (x∈xs))) G):Bp neg (enc x) d G Q:=by
 rcases h with rfl | ⟨a,rfl,e⟩
 ·exact uS hd q
 ·exact xY hd e q
noncomputable def uF:fY :=
 (bI (bU (fW aH) (aK 2))
 (bI (eD (jS (ai 0)) (aK 3) (ee (p8 t9 gq (ai 2) (ak (dc (gZ 1 [1] (jS (ai 3)) (aK 0) (some (da (aP (Bp true) (aP eW (ai 0) (dC (.int 0))) (ai 1)))) (ai 0))) aH))))
 (bA (dc (bg cx (ak (dc (ai 2)) aH))))))
noncomputable def lS:jk:=fun ds G Q _=>∃ (rows:Rows) (d:D) (ns:List Int),ds=[enc rows,d]/\IsL G d (ns.map enc)/\(rows.length<=500/\∀ r∈rows,r.length<=500)/\∀ p as G',HR G G' p as ((tG ns rows).map cU)->Q (.ref p) G'
theorem DE(ds:List D)(G:Gp)(Q:DK)(h:lS ds G Q fun _ _=>False):uF (fun _ _=>False) (ends Q) (aW 4 ds) G:=by
 obtain⟨rows,d,ns,rfl,hd,⟨hl,hr⟩,q⟩:=h;unfold uF;simp only [ends,aW,au,aO,ag,aw,aZ,aA,aE,dE,bU,fW,aH,aK,aq,aj];refine⟨by decide,fun p hp=>?_⟩;refine cJ (fun τ G'=>fy G G'/\G' p=some (.lst ((tG ns rows).map enc))/\∃ a,τ=[some (enc rows),some d,some (.ref p),a]) ?_ ?_
 ·intro N hN;simp only [eD,dj,ai,aa];refine ij ?_;refine fL (xs:=rows) (fun pre τ G'=>fy G G'/\G' p=some (.lst ((tG ns pre).map enc))/\∃ a,τ=[some (enc rows),some d,some (.ref p),a]) ⟨.new hp,aF,_,rfl⟩ (fun _ _ _ _=>trivial) ?_ ?_
  ·rintro pre r post τ G' N2 e ⟨l,g,a,rfl⟩ zh;have Q3:=hr r (by rw [e]; simp);have sv:pre.length < rows.length:=by have:=congrArg dh e; simp at this; lia
   simp only [aK,ee,p8,ai,aq,aj,ae,aa,iL,g,ak,dc,gZ,aH,eX,dj,true_and];refine ij ⟨FW (by rw [av]; lia),?_⟩;refine lu (xs:=r) (fun pr acc τ G2=>G'=G2/\acc=(pr.filter fun p=>!decide (p.a∈ns)).map enc/\∃ b,τ=[b,some d]) ⟨rfl,rfl,_,rfl⟩ (fun _ _ _ _ _=>trivial) ?_ ?_
   ·rintro pr t po acc τ G2 N3 e3 ⟨rfl,rfl,b,rfl⟩ Hm;simp only [aK,nS,aj,ai,aa,bX,aP,dC,ae,cX,Js];refine Px (x:=t.a) (by decide) (hd.mono l) ?_;simp only [if_true,aS];by_cases ht:t.a∈ns
    ·simp only [ht,decide_true,aJ,ah,if_false];exact Hm _ _ _ ⟨rfl,by rw [cT]; simp [ht],_,rfl⟩
    ·simp only [ht,decide_false,bL,if_true];exact Hm _ _ _ ⟨rfl,by rw [cT,aL]; simp [ht,nS],_,rfl⟩
   ·rintro acc τ G2 ⟨rfl,rfl,b,rfl⟩ p2 sx;refine kO (xs:=r.filter fun p=>!decide (p.a∈ns)) (.new sx) sx aF ?_;simp only [g];refine⟨xx (by rw [av]; unfold tG; rw [av]; lia),zh _ _ ⟨l.put hp,?_,_,rfl⟩⟩;rw [aF];unfold tG;rw [aL,aL]; rfl
  ·rintro τ G' ⟨l,g,a,rfl⟩;exact hN _ _ ⟨l,g,a,rfl⟩
 ·rintro _ G' ⟨l,g,a,rfl⟩;simp only [bA,dc,bg,ak,ai,ae,aa,aH];refine kO (xs:=tG ns rows) l hp g ?_;refine⟨tG ns rows,rfl,⟨by unfold tG; rw [av]; lia,fun r h=>?_⟩,fun p' as G2 hr2=>fX (q p' as G2 hr2)⟩;obtain⟨r',TB,rfl⟩:=List.mem_map.mp h;have:=hr r' TB;have h2:=vG (fun p:T3=>!decide (p.a∈ns)) r';lia
end Mo
end K2
end
section
namespace K2
open PySem (Str)
open Enc (enc)
namespace Mo
open K2.P
open K2.vJ (cU)
open K2.qh (HR)
open K2.xQ (oi)
open K2.HV (cx)
noncomputable def Vc(i:Nat)(gone:List T2)(L:List T3):T2:=(((L.map T3.s).filter fun s=>!decide (s∈gone)).getLast?).getD ⟨(i:Int),2⟩
noncomputable def sS:fY :=
 (bI (bU (bg jc (ak (ai 0) (ak (ai 1) aH))) (aK 3))
 (bI (bU (bg hZ (ak (aP eW (ai 0) (ai 3)) (ak (ai 3) aH))) (aK 4))
 (bI (bU (p8 t9 qR (ai 4) (ak (ai 1) aH)) (aK 5))
 (bI (bU (gZ 1 [2] (jS (aP kA (yb (ai 4) (mC (ai 5)) eI) (yb (ai 4) eI (mC (ai 5))))) (aK 0) (some (da (aP (Bp true) (ai 0) (ai 1)))) (ai 0)) (aK 6))
 (bI (cN (e8 (da (ai 6))) (bA (dc (fF (ak (ai 3) (ak (dC (.int 2)) aH))))) bD)
 (bA (dc (aP eW (ai 6) (NT LY (dC (.int 1)))))))))))
noncomputable def kT:jk:=fun ds G Q _=>∃ (R1 R2:Rows) (r T:List T3) (f:T3) (d:D) (gone:List T2),ds=[enc (R1++r :: R2),enc f.s,d]/\IsL G d (gone.map enc)/\(wH (R1++r :: R2)/\kl (f :: T) r/\∀ x∈R1++r :: R2,x.length<=500)/\Q (enc (Vc R1.length gone (f :: T))) G
theorem SI(r:List T3)(k:Nat):(oi r k).map T3.s=(r.map T3.s).drop k++(r.map T3.s).take k:=by unfold oi; rw [aL,sJ,sI]
theorem A6(ds:List D)(G:Gp)(Q:DK)(h:kT ds G Q fun _ _=>False):sS (fun _ _=>False) (ends Q) (aW 7 ds) G:=by
 obtain⟨R1,R2,r,T,f,d,gone,rfl,hd,⟨dn,ro,hl⟩,q⟩:=h;have PM:f∈r:=ro.perm.mem_iff.mpr bf;obtain⟨A,B,er⟩:=lC PM;have Q3:=hl r (by simp);have ot:r≠[]:=List.ne_nil_of_mem PM;have Hi:f.s∈bK (R1++r :: R2) 0:=yx (by rw [dH]; simp [PM]);have Q0:Ce (R1++r :: R2) f.s=R1.length:=by rw [er] at dn ⊢; exact Ir dn
 have hso:bQ r ((R1.length:Nat):Int)=r.map T3.s:=by unfold bQ; rw [if_neg ot]
 have hu:=ro.uniq (dn.row (by simp));unfold sS;simp only [ends,aW,au,aO,ag,aw,aZ,aA,aE,dE,bU,bg,ak,ai,aa,ae,aH,aK,aq,aj,aP,p8,gZ,dj,yb,eI,jC];refine⟨_,f.s,rfl,⟨fun x h=>by have:=hl x h; lia,Ej Hi⟩,?_⟩;rw [Q0];refine ie (IsL.enc _) CK ?_;refine⟨r,_,rfl,(show r.length<=1000 by lia),?_⟩;rw [hso];simp only [dc,aW,ends,bX,aP,NT,ai,jw,p8,ak,aH,bA,Nc,ee,bU,aK,dC,bD,fF,fW,Kz,kZ,Ry,sC,e8,rE,yc,vj,yb,jC,eI,dj,gX,bg,gZ,gT,yO,oE,qL,lg,oC,fS,kL,oB,xX,Cw,xZ,Cz,cX,qK,uR,Cv,xW,vo,lx,wy,eX,nc,mZ,lG,iL,Cc,Cb,Ca,true_and,and_true,CW,x9,ig,aS,fO,qT,CT,mw,au,aO,aA,aE,aa,ae,aj,aq,ag,aw,aZ,if_true,if_false,aJ,bL,ah,dE,lb];refine⟨trivial,Mr (by decide) (List.mem_map.mpr ⟨f,PM,rfl⟩) ?_⟩;generalize hk:(r.map T3.s).idxOf f.s=k at hu ⊢;simp only [ig];refine nJ (IsL.enc (r.map T3.s)) fun p1 MF=>?_;rw [BN,<-sJ];have l1:=fy.new (o:=.lst (((r.map T3.s).drop k).map enc)) MF;refine nJ (IsL.enc (r.map T3.s)) fun p2 sx=>?_;rw [Jm,<-sI];have l2:=fy.new (o:=.lst (((r.map T3.s).take k).map enc)) sx;refine uT (.ref (l2 _ _ aF)) (.ref aF) (FW (by simp only [av,cD,cA]; lia)) fun p3 Hj=>?_;have e3:((r.map T3.s).drop k).map enc++((r.map T3.s).take k).map enc=((f :: T).map T3.s).map (enc (α:=T2)):=by rw [<-aL,<-SI,hu]
 rw [e3];have l3:=fy.new (o:=.lst (((f :: T).map T3.s).map enc)) Hj;have L:=(l1.trans l2).trans l3;have g3:=aF (G:=cH (cH G p1 (.lst (((r.map T3.s).drop k).map enc))) p2 (.lst (((r.map T3.s).take k).map enc))) (a:=p3) (o:=.lst (((f :: T).map T3.s).map enc));generalize cH (cH (cH G p1 (.lst (((r.map T3.s).drop k).map enc))) p2 (.lst (((r.map T3.s).take k).map enc))) p3 (.lst (((f :: T).map T3.s).map enc))=G3 at L g3 ⊢;rw [nh g3];have hlen:((f :: T).map T3.s).length<=1000:=by rw [av,<-ro.perm.length_eq]; lia
 refine⟨FW (by rw [av]; exact hlen),?_⟩;refine lu (xs:=(f :: T).map T3.s) (fun pre acc τ G2=>G3=G2/\acc=(pre.filter fun s=>!decide (s∈gone)).map enc/\∃ b,τ=[b,some d]) ⟨rfl,rfl,_,rfl⟩ (fun _ _ _ _ h=>by rw [<-h.1]; exact g3) ?_ ?_
 ·rintro pre s post acc τ G2 N e ⟨rfl,rfl,b,rfl⟩ hN;simp only [aK,aj,ai,aa,bX,aP,ae];refine Px (x:=s) (by decide) (hd.mono L) ?_;simp only [if_true,aS];by_cases ht:s∈gone
  ·simp only [ht,decide_true,aJ,ah,if_false];exact hN _ _ _ ⟨rfl,by rw [cT]; simp [ht],_,rfl⟩
  ·simp only [ht,decide_false,bL,if_true];exact hN _ _ _ ⟨rfl,by rw [cT,aL]; simp [ht],_,rfl⟩
 ·rintro acc τ G2 ⟨rfl,rfl,b,rfl⟩ p4 TC;have l4:=fy.new (o:=.lst ((((f :: T).map T3.s).filter fun s=>!decide (s∈gone)).map enc)) TC;have g4:=aF (G:=G3) (a:=p4) (o:=.lst ((((f :: T).map T3.s).filter fun s=>!decide (s∈gone)).map enc));have L4:=L.trans l4;unfold Vc at q;generalize ((f :: T).map T3.s).filter (fun s=>!decide (s∈gone))=left at q l4 g4 L4 ⊢;generalize cH G3 p4 (.lst (left.map enc))=G4 at g4 L4 ⊢;simp only [eZ,cN,e8,bA,dc,fF,ak,ai,ae,aa,dC,aH,ag,aw,bD,aP,NT,oB,bX,Bi g4];cases Xf:left with
  | nil =>
   rw [Xf] at q;simp only [aO,tj,aJ,bL,if_true];exact⟨by decide,rZ L4 q⟩
  | cons a t =>
   rw [Xf] at q;simp only [au,rQ,bL,aJ,ah,if_false];rw [Xf] at g4;have hln:((a :: t).map (enc (α:=T2))).length=t.length+1:=by simp
   refine ie (.ref g4) (x:=enc ((a :: t).getLast (by simp))) ?_ ?_
   ·unfold oY Hd;rw [hln,if_neg (by lia),if_pos (by lia)];have:(-1+((t.length+1:Nat):Int)).toNat=t.length:=by lia
    rw [this];show ((a :: t).map enc)[t.length]?=_;rw [dq,List.getLast_eq_getElem,aM (by simp)];simp
   ·rw [List.getLast?_eq_some_getLast (by simp:a :: t≠[])] at q;exact rZ L4 q
end Mo
end K2
end
section
namespace K2
open PySem (Str)
open Enc (enc)
namespace Mo
open K2.P
open K2.vJ (cU)
open K2.xQ (oi Ro ow ue)
open K2.HV (jJ uw uA ux j5 qC uD jx)
theorem kl.begun{x:T3}{M A B:List T3}(h:kl (M++[x]) (A++x :: B))(nd:((A++x :: B).map T3.s).Nodup):M=B++A:=by
 have h1:kl (x :: M) (A++x :: B):=kl.trans (kl.app [x] M) h;have h2:kl (x :: (B++A)) (A++x :: B):=kl.of (u:=x :: B) (v:=A) (by simp) (by simp);have e:=(h1.uniq nd).symm.trans (h2.uniq nd);injection e
theorem LQ{R1 R2:Rows}{r x:List T3}(h:kl r x):Ro (R1++r :: R2) (R1++x :: R2):=by
 induction R1 with
 | nil=>exact .cons h (j5 R2)
 | cons a R1 ih=>exact .cons (show kl a a from .refl a) ih
theorem O4{ns:List Int}{R1 R2:Rows}{r:List T3}(h1:∀ p∈R1.flatten,p.a∉ns)(h2:∀ p∈R2.flatten,p.a∉ns):tG ns (R1++r :: R2)=R1++r.filter (fun p=>!decide (p.a∈ns)) :: R2:=by
 have go:∀ R:Rows,(∀ p∈R.flatten,p.a∉ns)->R.map (List.filter fun p=>!decide (p.a∈ns))=R:=fun R h=>by
  have:R.map (List.filter fun p=>!decide (p.a∈ns))=R.map id:=List.map_congr_left fun r hr=>wb fun p hp=>h p (List.mem_flatten.mpr ⟨r,hr,hp⟩);rw [this,List.map_id]
 unfold tG;rw [aL,au,go R1 h1,go R2 h2]
theorem QK{R1 R2:Rows}{r:List T3}(nd:((R1++r :: R2).flatten.map T3.s).Nodup):(∀ p∈R1.flatten,∀ q∈r,p.s≠q.s)/\∀ p∈R2.flatten,∀ q∈r,p.s≠q.s:=by
 rw [dH,aL,aL] at nd;have n1:=List.nodup_append.mp nd;have n2:=List.nodup_append.mp n1.2.1;exact⟨fun p hp q hq e=>n1.2.2 _ (List.mem_map.mpr ⟨p,hp,rfl⟩) _ (du _ (List.mem_map.mpr ⟨q,hq,e.symm⟩)) rfl,fun p hp q hq e=>n2.2.2 _ (List.mem_map.mpr ⟨q,hq,rfl⟩) _ (List.mem_map.mpr ⟨p,hp,e⟩) rfl⟩
theorem M6{ns:List Int}{rows:Rows}(d:wH rows):wH (tG ns rows):=by
 have sub:∀ rows:Rows,(tG ns rows).flatten=rows.flatten.filter (fun p=>!decide (p.a∈ns)):=by
  intro rows;induction rows with
  | nil=>rfl
  | cons r rows ih =>
   show (r.filter _++(tG ns rows).flatten)=_;rw [ih,bz,cT]
 refine⟨?_,fun p hp=>?_⟩
 ·rw [sub];exact List.Nodup.sublist ((List.filter_sublist).map _) d.nd
 ·rw [sub] at hp;exact d.way p (List.mem_filter.mp hp).1
theorem Ma{R1 R2:Rows}{r M:List T3}{n f h:Int}(d:wH (R1++r :: R2))(ro:kl (⟨n,f,h⟩ :: ⟨n,1 - f,h⟩ :: M) r)(hf:f=0\/f=1):(∀ p∈R1.flatten,p.a∉[n])/\∀ p∈R2.flatten,p.a∉[n]:=by
 have nm:=QK d.nd;have y1:(⟨n,f,h⟩:T3)∈r:=ro.perm.mem_iff.mpr bf;have y2:(⟨n,1 - f,h⟩:T3)∈r:=ro.perm.mem_iff.mpr (aR _ bf);have go:∀ p:T3,(p.b=0\/p.b=1)->(∀ q∈r,p.s≠q.s)->p.a∉[n]:=fun p hb hq z=>by
  have z:=List.mem_singleton.mp z;have:p.b=f\/p.b=1 - f:=by lia
  rcases this with e | e
  ·exact hq _ y1 (show (⟨p.a,p.b⟩:T2)=⟨n,f⟩ by rw [z,e])
  ·exact hq _ y2 (show (⟨p.a,p.b⟩:T2)=⟨n,1 - f⟩ by rw [z,e])
 exact⟨fun p hp=>go p (d.way p (by rw [dH]; simp [hp])) (nm.1 p hp),fun p hp=>go p (d.way p (by rw [dH]; simp [hp])) (nm.2 p hp)⟩
theorem Rz{rows:Rows}{s:T2}{n f h:Int}(d:wH rows)(c:Cu rows n s ⟨n,f,h⟩ ⟨n,1 - f,h⟩)(hf:f=0\/f=1):s∈bK (tG [n] rows) 0/\Ro (oj s (cps n f h) (tG [n] rows) 0) rows:=by
 obtain⟨R1,R2,r,M,e,ro,hM,hn⟩:=c.ex;subst e;obtain⟨o1,o2⟩:=Ma d ro hf;have dF:=M6 (ns:=[n]) d;rw [O4 o1 o2] at dF ⊢;have UL:kl M (r.filter fun p=>!decide (p.a∈[n])):=by
  have h1:=ro.Uh (f:=fun p:T3=>!decide (p.a∈[n]));have e1:(⟨n,f,h⟩ :: ⟨n,1 - f,h⟩ :: M:List T3).filter (fun p=>!decide (p.a∈[n]))=M:=by
   rw [lB (by simp),lB (by simp)];exact wb fun p hp z=>hn p hp (List.mem_singleton.mp z)
  rw [e1] at h1;exact h1
 generalize r.filter (fun p=>!decide (p.a∈[n]))=r' at UL dF ⊢;rcases hM with ⟨rfl,hs⟩ | ⟨M',x,rfl,hs⟩
 ·rw [UL.nil] at dF ⊢;refine⟨?_,?_⟩
  ·rw [o6,bK,hs];unfold bQ;simp
  ·rw [hs,CA dF];exact LQ ro
 ·have hx:x∈r':=UL.perm.mem_iff.mpr (by simp);obtain⟨A,B,rfl⟩:=lC hx;subst hs;refine⟨yx (by rw [dH]; simp),?_⟩;rw [CB dF];have eM:=UL.begun (dF.row (by simp));subst eM;refine LQ (kl.trans ?_ ro);exact .of (u:=A++[x]) (v:=⟨n,f,h⟩ :: ⟨n,1 - f,h⟩ :: B) (by simp [cps]) (by simp)
end Mo
end K2
end
section
namespace K2
open PySem (Str)
open Enc (enc)
namespace Mo
open K2.P
open K2.vJ (cU)
open K2.qh (HR)
open K2.xQ (oi Ro)
open K2.HV (cx j5)
theorem IZ{G G1 G':Gp}{p:Nat}{as:List Nat}{rs:Rows}(h:HR G1 G' p as rs)(l:fy G G1):HR G G' p as rs :=
 ⟨l.trans h.le,l.free h.fp,h.gp,h.np,h.nd,fun a ha=>l.free (h.fr a ha),h.len,h.at'⟩
theorem tM{rows:Rows}(d:Dr rows):rows.length<=500/\(∀ r∈rows,r.length<=500)/\rows.flatten.length < 64:=by
 have:=d.xH;have h3:=d.str;refine⟨by lia,fun r hr=>?_,by lia⟩;have:=qh.oJ hr;lia
structure X1(rows:Rows)(n:Int)(v0 v1:T2):Prop where
 len:rows.flatten.length < 64
 nm:n∈names rows
 h0:oa (lj (pairsOf rows)) ⟨n,0⟩=some v0
 h1:oa (lj (pairsOf rows)) ⟨n,1⟩=some v1
 ft:v0=⟨n,1⟩\/v1=⟨n,0⟩
noncomputable def oy:fY :=
 (bI (ee (bg iM (ak (ai 1) (ak (fW (ak (fV ["Uncurl"] "name" (ai 0)) aH)) aH))))
 (ee (bg jF (ak (bg j0 (ak (ai 1) (ak (fV ["Uncurl"] "name" (ai 0)) aH))) aH))))
noncomputable def eF:jk:=fun ds G Q _=>∃ (p:Nat) (n:Int) (rows:Rows) (v0 v1:T2),ds=[.ref p,enc rows]/\KP G p (.un n)/\X1 rows n v0 v1/\∀ G',fy G G'->Q .dQ G'
theorem wB(ds:List D)(G:Gp)(Q:DK)(h:eF ds G Q fun _ _=>False):oy (fun _ _=>False) (ends Q) (aW 2 ds) G:=by
 obtain⟨p,n,rows,v0,v1,rfl,g,u,q⟩:=h;have hlen:=u.len;unfold oy;simp only [ends,aW,au,aO,ag,aw,aA,aE,lb,ee,bg,ak,ai,ae,aa,fW,fV,aH];refine at_ g ⟨by decide,fun pl sv=>?_⟩;refine⟨rows,_,[n],rfl,.ref aF,⟨u.len,fun m hm=>by rw [List.mem_singleton.mp hm]; exact u.nm⟩,fun G1 l1=>?_⟩;have L:=(fy.new sv).trans l1;refine at_ (L _ _ g) ?_;refine⟨rows,n,v0,v1,rfl,⟨by lia,u.h0,u.h1⟩,_,rfl,?_,q _ L⟩;rw [oV,decide_eq_true_iff,decide_eq_true_iff];exact u.ft
noncomputable def qI:fY :=
 (bI (ee (gL [("Uncurl",eF)] "refuse" (ai 0) (ak (ai 1) aH)))
 (bA (dc (bg lS (ak (ai 1) (ak (fW (ak (fV ["Uncurl"] "name" (ai 0)) aH)) aH))))))
noncomputable def iV:jk:=fun ds G Q _=>∃ (p:Nat) (n:Int) (rows:Rows) (v0 v1:T2),ds=[.ref p,enc rows]/\KP G p (.un n)/\(X1 rows n v0 v1/\rows.length<=500)/\∀ q as G',HR G G' q as ((tG [n] rows).map cU)->Q (.ref q) G'
theorem zW(ds:List D)(G:Gp)(Q:DK)(h:iV ds G Q fun _ _=>False):qI (fun _ _=>False) (ends Q) (aW 2 ds) G:=by
 obtain⟨p,n,rows,v0,v1,rfl,g,⟨u,hl⟩,q⟩:=h;have hlen:=u.len;unfold qI;simp only [ends,aW,au,aO,ag,aw,aA,aE,lb,ee,gL,ai,aa,ak,ae,aH,bA,dc,bg,fW,fV];refine⟨p,_,_,eF,rfl,g,List.mem_singleton.mpr rfl,rfl,⟨p,n,rows,v0,v1,rfl,g,u,fun G1 l1=>?_⟩⟩;refine at_ (l1 _ _ g) ⟨by decide,fun pl sv=>?_⟩;refine⟨rows,_,[n],rfl,.ref aF,⟨hl,fun r hr=>by have:=qh.oJ hr; lia⟩,fun p' as G' hr=>fX (q p' as G' (IZ hr (l1.trans (.new sv))))⟩
noncomputable def qJ:fY :=
 (bI (ee (gL [("Uncurl",eF)] "refuse" (ai 0) (ak (ai 1) aH)))
 (bI (bU (fF (ak (fV ["Uncurl"] "name" (ai 0)) (ak (dC (.int 0)) aH))) (aK 2))
 (bI (bU (fF (ak (fV ["Uncurl"] "name" (ai 0)) (ak (dC (.int 1)) aH))) (aK 3))
 (bI (bU (Zk (da (aP (oW false) (aP eW (bg kJ (ak (ai 1) aH)) (ai 2)) (ai 3))) (ai 2) (ai 3)) (aK 4))
 (bI (bU (bg kT (ak (ai 1) (ak (ai 4) (ak (fW (ak (ai 2) (ak (ai 3) aH))) aH)))) (aK 5))
 (bA (dc (kg "Curl" eG (ak (fV ["Uncurl"] "name" (ai 0)) (ak (ai 5) (ak (aP eW (ai 4) (dC (.int 1))) (ak (bg o8 (ak (ai 1) (ak (fV ["Uncurl"] "name" (ai 0)) aH))) aH))))))))))))
noncomputable def iW:jk:=fun ds G Q _=>∃ (p:Nat) (rows:Rows) (n f h:Int) (s:T2),ds=[.ref p,enc rows]/\KP G p (.un n)/\(Dr rows/\(f=0\/f=1)/\Cu rows n s ⟨n,f,h⟩ ⟨n,1 - f,h⟩)/\∀ f' q G',(f'=0\/f'=1)->Cu rows n s ⟨n,f',h⟩ ⟨n,1 - f',h⟩->fy G G'->G q=none->KP G' q (.cu n s f' h)->Q (.ref q) G'
theorem Ng{rows:Rows}{n f h:Int}{s:T2}(d:Dr rows)(hf:f=0\/f=1)(c:Cu rows n s ⟨n,f,h⟩ ⟨n,1 - f,h⟩):∃ v0 v1,X1 rows n v0 v1:=by
 obtain⟨R1,R2,r,M,e,ro,hM,hn⟩:=c.ex;subst e;have Yz:=uY d ro;have y1:(⟨n,f,h⟩:T3)∈r:=ro.perm.mem_iff.mpr bf;have y2:(⟨n,1 - f,h⟩:T3)∈r:=ro.perm.mem_iff.mpr (aR _ bf);have iny:(⟨n,f,h⟩:T3)∈(R1++r :: R2).flatten:=by rw [dH]; simp [y1]
 have YN:(⟨n,1 - f,h⟩:T3)∈(R1++r :: R2).flatten:=by rw [dH]; simp [y2]
 obtain⟨w,hw,_⟩:=MM YN;have Wt:=(Mc d hw).1;rw [<-EE d] at Wt;have hlen:=(tM d).2.2;rcases hf with rfl | rfl
 ·exact⟨_,_,hlen,vY.mpr ⟨_,iny,rfl,rfl⟩,Yz,Wt,.inl rfl⟩
 ·exact⟨_,_,hlen,vY.mpr ⟨_,YN,rfl,rfl⟩,Wt,Yz,.inr rfl⟩
theorem RG{i:Nat}{n f h:Int}{s:T2}{M:List T3}{gone:List T2}(hg:∀ t:T2,t∈gone↔t=⟨n,f⟩\/t=⟨n,1 - f⟩)(hM:(M=[]/\s=⟨(i:Nat),2⟩)\/∃ M' x,M=M'++[x]/\x.s=s)(hn:∀ p∈M,p.a≠n):Vc i gone (⟨n,f,h⟩ :: ⟨n,1 - f,h⟩ :: M)=s:=by
 have e:((⟨n,f,h⟩ :: ⟨n,1 - f,h⟩ :: M:List T3).map T3.s).filter (fun t=>!decide (t∈gone))=M.map T3.s:=by
  have g1:(⟨n,f,h⟩:T3).s∈gone:=(hg _).mpr (.inl rfl);have g2:(⟨n,1 - f,h⟩:T3).s∈gone:=(hg _).mpr (.inr rfl);rw [au,au,lB (by simpa using g1),lB (by simpa using g2)];refine List.filter_eq_self.mpr fun t ht=>?_;obtain⟨p,hp,rfl⟩:=List.mem_map.mp ht;have:p.s∉gone:=fun z=>by
   rcases (hg _).mp z with e | e
   ·exact hn p hp (congrArg T2.a e)
   ·exact hn p hp (congrArg T2.a e)
  simpa using this
 unfold Vc;rw [e];rcases hM with ⟨rfl,rfl⟩ | ⟨M',x,rfl,rfl⟩
 ·rfl
 ·rw [aL]; simp
theorem zX(ds:List D)(G:Gp)(Q:DK)(h:iW ds G Q fun _ _=>False):qJ (fun _ _=>False) (ends Q) (aW 6 ds) G:=by
 obtain⟨p,rows,n,f,h,s,rfl,g,⟨d,hf,c⟩,q⟩:=h;obtain⟨v0,v1,u⟩:=Ng d hf c;obtain⟨Ki,Kh,TL⟩:=tM d;have TR:∃ p∈rows.flatten,p.a=n/\p.c=h:=by
  obtain⟨R1,R2,r,M,e,ro,_⟩:=c.ex;subst e;exact⟨⟨n,f,h⟩,by rw [dH]; simp [ro.perm.mem_iff],rfl,rfl⟩
 obtain⟨ph,YV,ea,ec⟩:=TR;have hho:handOf rows n=h:=by rw [<-ea,O0 d YV,ec]
 unfold qJ
 let S:Option D->ib:=fun x=>[some (.ref p),some (enc rows),some (enc (⟨n,0⟩:T2)),some (enc (⟨n,1⟩:T2)),x,none]
 let X:Int->Prop:=fun f'=>∃ (R1 R2:Rows) (r M:List T3),rows=R1++r :: R2/\kl (⟨n,f',h⟩ :: ⟨n,1 - f',h⟩ :: M) r/\((M=[]/\s=⟨(R1.length:Nat),2⟩)\/∃ M' x,M=M'++[x]/\x.s=s)/\∀ p∈M,p.a≠n
 refine cJ (fun τ G'=>fy G G'/\τ=[some (.ref p),some (enc rows),none,none,none,none]) ?_ ?_
 ·intro N hN;simp only [ee,gL,ai,aW,au,aO,ag,aw,aZ,aA,aE,aa,ak,ae,aH];exact⟨p,_,_,eF,rfl,g,List.mem_singleton.mpr rfl,rfl,⟨p,n,rows,v0,v1,rfl,g,u,fun G1 l1=>hN _ _ ⟨l1,rfl⟩⟩⟩
 rintro _ G1 ⟨l1,rfl⟩;have g1:=l1 _ _ g;refine cJ (fun τ G'=>G1=G'/\τ=[some (.ref p),some (enc rows),some (enc (⟨n,0⟩:T2)),none,none,none]) ?_ ?_
 ·intro N hN;simp only [bU,fF,ak,fV,ai,aa,dC,aH,ag,aw,aK,aq,aj];exact at_ g1 ⟨by decide,hN _ _ ⟨rfl,rfl⟩⟩
 rintro _ _ ⟨rfl,rfl⟩;refine cJ (fun τ G'=>G1=G'/\τ=S none) ?_ ?_
 ·intro N hN;simp only [bU,fF,ak,fV,ai,aa,dC,aH,ag,aw,aK,aq,aj];exact at_ g1 ⟨by decide,hN _ _ ⟨rfl,rfl⟩⟩
 rintro _ _ ⟨rfl,rfl⟩;refine cJ (fun τ G'=>G1=G'/\∃ f',(f'=0\/f'=1)/\X f'/\τ=S (some (enc (⟨n,f'⟩:T2)))) ?_ ?_
 ·intro N hN;simp only [bU,aK,aq,aj,S];refine⟨rows,rfl,by lia,?_⟩;obtain⟨R1,R2,r,M,e,ro,hM,hn⟩:=c.ex;have d':Dr (R1++r :: R2):=by rw [<-e]; exact d
  simp only [ai,ae,aa];rcases hf with rfl | rfl
  ·refine Eu (k:=(⟨n,0⟩:T2)) (v:=(⟨n,1⟩:T2)) (by rw [e]; exact uY d' ro) ?_;refine fg (x:=(⟨n,1⟩:T2)) (y:=(⟨n,1⟩:T2)) (by decide) ?_;simp only [ah,decide_true,aJ,if_false];exact hN _ _ ⟨rfl,0,.inl rfl,⟨R1,R2,r,M,e,ro,hM,hn⟩,rfl⟩
  ·cases M with
   | nil =>
    have UM:kl [⟨n,0,h⟩,⟨n,1,h⟩] r:=kl.trans (kl.app [⟨n,0,h⟩] [⟨n,1,h⟩]) ro;refine Eu (k:=(⟨n,0⟩:T2)) (v:=(⟨n,1⟩:T2)) (by rw [e]; exact uY d' UM) ?_;refine fg (x:=(⟨n,1⟩:T2)) (y:=(⟨n,1⟩:T2)) (by decide) ?_;simp only [ah,decide_true,aJ,if_false];refine hN _ _ ⟨rfl,0,.inl rfl,⟨R1,R2,r,[],e,UM,?_,fun p hp=>by cases hp⟩,rfl⟩;rcases hM with h | ⟨M',x,e,_⟩
    ·exact .inl h
    ·cases M' <;> cases e
   | cons m M =>
    have UM:kl (⟨n,0,h⟩ :: m :: (M++[⟨n,1,h⟩])) r:=kl.trans (kl.of (u:=⟨n,0,h⟩ :: m :: M) (v:=[⟨n,1,h⟩]) (by simp) (by simp)) ro;refine Eu (k:=(⟨n,0⟩:T2)) (v:=m.s) (by rw [e]; exact uY d' UM) ?_;refine fg (x:=m.s) (y:=(⟨n,1⟩:T2)) (by decide) ?_;have:m.s≠⟨n,1⟩:=fun z=>hn m bf (congrArg T2.a z);simp only [ah,this,decide_false,bL,if_false];exact hN _ _ ⟨rfl,1,.inr rfl,⟨R1,R2,r,m :: M,e,ro,hM,hn⟩,rfl⟩
 rintro _ _ ⟨rfl,f',Ra,⟨R1,R2,r,M,e,ro,hM,hn⟩,rfl⟩;have XO:Cu rows n s ⟨n,f',h⟩ ⟨n,1 - f',h⟩:=⟨R1,R2,r,M,e,ro,hM,hn⟩;simp only [ends,dE,bU,bg,ak,ai,ae,aa,fW,aH,ag,aw,aK,bA,dc,kg,fV,aq,aj,aP,dC,S];refine⟨by decide,fun pl sv=>?_⟩;have l2:=fy.new (o:=.lst [enc (⟨n,0⟩:T2),enc (⟨n,1⟩:T2)]) sv;subst e;refine⟨R1,R2,r,_,⟨n,f',h⟩,_,[⟨n,0⟩,⟨n,1⟩],rfl,.ref aF,⟨d.dn,ro,Kh⟩,?_⟩;rw [RG (n:=n) (f:=f') (h:=h) (fun t=>?_) hM hn]
 ·refine at_ (l2 _ _ g1) ?_;simp only [PQ,cX,DY];refine at_ (l2 _ _ g1) ?_;refine⟨_,n,rfl,⟨by lia,⟨ph,YV,ea⟩⟩,?_⟩;rw [hho];refine fun q' ME=>⟨q',n,s,f',h,rfl,aF,rfl,fX (q f' q' _ Ra XO ?_ ?_ ?_)⟩
  ·rw [tm]; exact(l1.trans l2).trans (.new ME)
  ·exact(l1.trans l2).free ME
  ·rw [tm]; exact aF
 ·simp only [e7,dI,or_false];rcases Ra with rfl | rfl
  ·exact Iff.rfl
  ·exact or_comm
end Mo
end K2
end
section
namespace K2
open PySem (Str)
open Enc (enc)
namespace K3
open K2.P K2.qh
theorem JG{rows:Rows}(h:rows≠[])(k:Nat):yw rows k≠[]:=by
 cases rows with
 | nil=>exact absurd rfl h
 | cons r rs =>
  rw [yw];intro z;have:=(List.append_eq_nil_iff.mp z).1;rw [List.map_eq_nil_iff] at this;unfold bQ at this;split at this
  ·cases this
  ·rename_i h0; exact h0 (List.map_eq_nil_iff.mp this)
end K3
end K2
end
section
namespace K2
open PySem (Str)
open Enc (enc)
namespace K3
open K2.P K2.qh
variable {rows:Rows}
end K3
end K2
end
section
namespace K2
open PySem (Str)
open Enc (enc)
namespace HW
open K2.P K2.qh
open K2.K3
variable {rows:Rows}
noncomputable def tg{α:Type} [DecidableEq α](gs:List (List α))(x y:α):Bool:=gs.any fun g=>decide (x∈g)&&decide (y∈g)
end HW
end K2
end
section
namespace K2
open PySem (Str)
open Enc (enc)
namespace HW
open K2.P K2.qh
open K2.K3
variable {rows:Rows}
noncomputable def yL:fY :=
 (bI (cN (da (aP UN (ai 1) (jw iB (ak (ai 0) aH)))) (bA (dc (aP eW (ai 0) (ai 1)))) bD)
 (bA (dc (dC (.int 0)))))
noncomputable def cW:jk:=mU
theorem rK(ds:List D)(G:Gp)(Q:DK)(h:cW ds G Q fun _ _=>False):yL (fun _ _=>False) (ends Q) (aW 2 ds) G:=xq ds G Q h
noncomputable def mixed(c:Int):Int:=c % 1000003 * 48271 % 1000003
noncomputable def j3:jk:=fun ds G Q _=>∃ c:Int,ds=[.int c]/\Q (.int (mixed c)) G
noncomputable def uM:fY :=
 (bA (dc (aP tx (aP LZ (aP tx (ai 0) (dC (.int 1000003))) (dC (.int 48271))) (dC (.int 1000003)))))
theorem vC(ds:List D)(G:Gp)(Q:DK)(h:j3 ds G Q fun _ _=>False):uM (fun _ _=>False) (ends Q) (aW 1 ds) G:=by
 obtain⟨c,rfl,q⟩:=h;unfold uM;simp only [bA,dc,aP,ai,aW,au,aO,ag,aw,aA,aE,aa,dC,ends,fS,oC];exact⟨by decide,.inr ⟨by decide,by decide⟩,by decide,fX q⟩
noncomputable def x4(L:List T3):List Int:=(L.filter fun p=>p.b == 0).map (·.a)
noncomputable def gh:jk:=Qf (fun rows:Rows=>rows.flatten.length<=500) fun rows=>x4 rows.flatten
noncomputable def uL:fY :=
 (bI (bU (fW aH) (aK 1))
 (bI (eD (jS (ai 0)) (aK 2) (eD (jS (ai 2)) (aK 3) (cN (da (aP (oW false) (aP eW (ai 3) (dC (.int 1))) (dC (.int 0)))) (ee (p8 t9 gq (ai 1) (ak (aP eW (ai 3) (dC (.int 0))) aH))) bD)))
 (bA (dc (ai 1)))))
theorem x3(L:List T3):(x4 L).length<=L.length:=by unfold x4; rw [av]; exact vG _ _
theorem ON(a b:List T3):x4 (a++b)=x4 a++x4 b:=by unfold x4; rw [cT,aL]
theorem vB(ds:List D)(G:Gp)(Q:DK)(h:gh ds G Q fun _ _=>False):uL (fun _ _=>False) (ends Q) (aW 4 ds) G:=by
 obtain⟨rows,rfl,hl,q⟩:=h;unfold uL;simp only [ends,aW,au,aO,ag,aw,aZ,aA,aE,dE,bU,fW,aH,aK,aq,aj];refine⟨by decide,fun p hp=>?_⟩;refine cJ (fun τ G'=>(∃ a b,τ=[some (enc rows),some (.ref p),a,b])/\fy G G'/\G' p=some (.lst ((x4 rows.flatten).map enc))) ?_ ?_
 ·intro N hN;simp only [eD,dj,ai,aa];refine ij ?_;refine fL (xs:=rows) (fun pre τ G'=>(∃ a b,τ=[some (enc rows),some (.ref p),a,b])/\fy G G'/\G' p=some (.lst ((x4 pre.flatten).map enc))) ⟨⟨_,_,rfl⟩,.new hp,aF⟩ (fun _ _ _ _=>trivial) ?_ ?_
  ·rintro pre r post τ G' N2 e ⟨⟨a,b,rfl⟩,l,gp⟩ zh;have hlen:pre.flatten.length+r.length<=rows.flatten.length:=by
    rw [e]; simp only [oU,bz,aI]; lia
   simp only [aK,eD,aq,aj,dj,ai,ae,aa];refine ij ?_;refine fL (xs:=r) (fun pp τ G'=>(∃ a b,τ=[some (enc rows),some (.ref p),a,b])/\fy G G'/\G' p=some (.lst ((x4 (pre.flatten++pp)).map enc))) ⟨⟨_,_,rfl⟩,l,by rw [c9]; exact gp⟩ (fun _ _ _ _=>trivial) ?_ ?_
   ·rintro pp t pt τ G4 N3 e4 ⟨⟨a,b,rfl⟩,l4,Ri⟩ Hm;have hpp:pp.length < r.length:=by have:=congrArg dh e4; simp at this; lia
    have hz:=x3 (pre.flatten++pp);rw [aI] at hz;simp only [aK,nS,aq,aj,Hg,ee,p8,ai,ae,aa,iL,ak,aP,dC,aH,eX,cX,Js,bD,bX,DY];refine⟨_,_,.int _,.int _,?_⟩;rw [eq_int];have eu:x4 (pre.flatten++(pp++[t]))=x4 (pre.flatten++pp)++x4 [t]:=by rw [<-bS,ON]
    by_cases hb:t.b=0
    ·simp only [ah,hb,decide_true,aJ,if_false,aS,Ri,true_and,if_true];refine⟨xx (by rw [av]; lia),Hm _ _ ⟨⟨_,_,rfl⟩,l4.put hp,?_⟩⟩;rw [aF,eu,aL];have:x4 [t]=[t.a]:=by simp [x4,hb]
     rw [this]; rfl
    ·simp only [ah,hb,decide_false,bL,if_false,aS];refine Hm _ _ ⟨⟨_,_,rfl⟩,l4,?_⟩;have:x4 [t]=[]:=by simp [x4,hb]
     rw [eu,this,c9]; exact Ri
   ·rintro τ G4 ⟨⟨a,b,rfl⟩,l4,Ri⟩;refine zh _ _ ⟨⟨_,_,rfl⟩,l4,?_⟩;have:(pre++[r]).flatten=pre.flatten++r:=by simp
    rw [this]; exact Ri
  ·rintro τ G' ⟨⟨a,b,rfl⟩,l,gp⟩;exact hN _ _ ⟨⟨_,_,rfl⟩,l,gp⟩
 ·rintro _ G' ⟨⟨a,b,rfl⟩,l,gp⟩;simp only [bA,dc,ai,ae,aa];exact kO l hp gp q
noncomputable def ia:jk:=fun ds G Q _=>∃ (ns:List Int) (c:Int),ds=[enc ns,.int c]/\ns.length<=500/\∀ m:Int,m∉ns->1<=m->m<=999->Q (.int m) G
noncomputable def w5:fY :=
 (bI (bU (aP kA (dC (.int 1)) (aP tx (ai 1) (dC (.int 999)))) (aK 2))
 (bI (Nb (da (aP (Bp false) (ai 2) (ai 0))) (bU (aP kA (dC (.int 1)) (aP tx (ai 2) (dC (.int 999)))) (aK 2)))
 (bA (dc (ai 2)))))
theorem xp(ds:List D)(G:Gp)(Q:DK)(h:ia ds G Q fun _ _=>False):w5 (fun _ _=>False) (ends Q) (aW 3 ds) G:=by
 obtain⟨ns,c,rfl,hl,q⟩:=h;unfold w5;simp only [ends,aW,au,aO,ag,aw,aZ,aA,aE,dE,bU,aP,dC,ai,ae,aa,aK,aq,aj,fS,gT];refine⟨by decide,?_⟩;have b1:1<=1+c % 999:=by lia
 have b2:1+c % 999<=999:=by lia
 generalize 1+c % 999=n at *;refine cJ (fun τ G'=>G=G'/\∃ m:Int,(m∉ns/\1<=m/\m<=999)/\τ=[some (enc ns),some (.int c),some (.int m)]) ?_ ?_
 ·intro N hN;obtain⟨k,hk,pV⟩:=MV (ns:=ns) b1 b2 hl;have main:∀ (j:Nat),j<=k->Ea (da (aP (Bp false) (ai 2) (ai 0))) (bU (aP kA (dC (.int 1)) (aP tx (ai 2) (dC (.int 999)))) (aK 2)) (j+1) (fun _ _=>False) { ends Q with nx:=N } [some (enc ns),some (.int c),some (.int (fit n (k - j)))] G:=by
   intro j;induction j with
   | zero =>
    intro _;show Ea _ _ (0+1) _ _ _ _;rw [Ea];simp only [bU,aP,dC,ai,ae,aa,aK,ends,aq,aj,fS,gT,bX];refine uS (x:=fit n (k - 0)) (by decide) ?_;simp only [ah,Nat.sub_zero,pV,decide_false,bL,if_false,aS];have:=zx b1 b2 k;exact hN _ _ ⟨rfl,_,⟨pV,by lia,by lia⟩,rfl⟩
   | succ j ih =>
    intro hj;rw [Ea];simp only [bU,aP,dC,ai,ae,aa,aK,ends,aq,aj,fS,gT,bX];refine uS (x:=fit n (k - (j+1))) (by decide) ?_;have hb:=zx b1 b2 (k - (j+1));by_cases hm:fit n (k - (j+1))∈ns
    ·simp only [ah,hm,decide_true,aJ,if_false,aS,if_true];refine⟨by decide,?_⟩;have e:1+fit n (k - (j+1)) % 999=fit n (k - j):=by
      rw [show k - j=(k - (j+1))+1 by lia,Int.add_comm]; rfl
     rw [e];exact ih (by lia)
    ·simp only [ah,hm,decide_false,bL,if_false,aS];exact hN _ _ ⟨rfl,_,⟨hm,by lia,by lia⟩,rfl⟩
  have:=main k (aQ _);rw [Nat.sub_self] at this;exact⟨k+1,this⟩
 ·rintro _ _ ⟨rfl,m,⟨m1,m2,m3⟩,rfl⟩;simp only [bA,dc,ai,ae,aa];exact fX (q m m1 m2 m3)
structure HA(G G':Gp)(as:List Nat)(rs:Rows):Prop where
 le:fy G G'
 nd:as.Nodup
 fr:∀ a∈as,G a=none
 len:as.length=rs.length
 at':∀ (i a:Nat) (r:List T3),as[i]?=some a->rs[i]?=some r->G' a=some (.lst (r.map enc))
theorem HA.nil(G:Gp):HA G G [] []:=⟨.refl _,kn,(fun a h=>by cases h),rfl,fun i a r h=>by simp at h⟩
theorem HA.new{G G':Gp}{as:List Nat}{rs:Rows}(h:HA G G' as rs){p:Nat}(hp:G' p=none):p∉as:=fun z=>by
 obtain⟨i,hi⟩:=jV z;have h1:i < rs.length:=by rw [<-h.len]; exact(List.getElem?_eq_some_iff.mp hi).1
 rw [h.at' i p rs[i] hi (aM h1)] at hp; cases hp
theorem HA.push{G G':Gp}{as:List Nat}{rs:Rows}(h:HA G G' as rs){p:Nat}(hp:G' p=none)(r:List T3):HA G (cH G' p (.lst (r.map enc))) (as++[p]) (rs++[r]):=by
 have TH:=h.new hp;refine⟨h.le.trans (.new hp),?_,?_,by simp [h.len],?_⟩
 ·rw [fZ];refine⟨h.nd,by simp,fun a ha b hb e=>?_⟩;rw [hU] at hb;subst hb e;exact TH ha
 ·intro a h0;rcases List.mem_append.mp h0 with z | z
  ·exact h.fr a z
  ·rw [hU] at z; subst z; exact h.le.free hp
 ·intro i b s h1 h2;by_cases hi:i < as.length
  ·rw [cz hi] at h1;rw [cz (by rw [<-h.len]; lia)] at h2;have:b≠p:=by rintro rfl; exact TH (eC h1)
   rw [ez this];exact h.at' i b s h1 h2
  ·rw [bF (by lia)] at h1;rw [bF (by rw [<-h.len]; lia)] at h2;have i0:i - as.length=0:=by have:=(List.getElem?_eq_some_iff.mp h1).1; simp at this; lia
   rw [i0] at h1;rw [<-h.len,i0] at h2;simp at h1 h2;subst h1 h2;exact aF
theorem HA.top{G G':Gp}{as:List Nat}{rs:Rows}(h:HA G G' as rs){p:Nat}(hp:G' p=none):HR G (cH G' p (.lst (as.map D.ref))) p as rs :=
 ⟨h.le.trans (.new hp),h.le.free hp,aF,h.new hp,h.nd,h.fr,h.len,fun i b r h1 h2=>(fy.new hp) _ _ (h.at' i b r h1 h2)⟩
theorem yd{rows:Rows}{G:Gp}{Q:DK}(hl:rows.length<=1000){τ:ib}(q:∀ G' p as,HR G G' p as rows->Q (.ref p) G') :
  NR (enc rows) G fun ds ok G1=>ds.length<=SZ/\jP (aK 0) none (jw qa (ak (ai 0) aH)) ok ds (fun _ _=>False) (tP 1 [] τ) G1 [] fun xs G2=>lr G2 (.lst xs) Q:=by
 refine ij ⟨FW (by rw [av]; exact hl),?_⟩;refine lu (xs:=rows) (fun pre acc τ G'=>(∃ a,τ=[a])/\∃ as:List Nat,acc=as.map D.ref/\HA G G' as pre) ⟨⟨_,rfl⟩,[],rfl,.nil G⟩ (fun _ _ _ _ _=>trivial) ?_ ?_
 ·rintro pre r post acc τ G' N e ⟨⟨a,rfl⟩,as,rfl,h⟩ hN;simp only [aK,jw,ak,ai,aj,aa,aH];refine zN (IsL.enc r) fun p hp=>?_;exact hN _ _ _ ⟨⟨_,rfl⟩,as++[p],by simp,h.push hp r⟩
 ·rintro acc τ G' ⟨⟨a,rfl⟩,as,rfl,h⟩ p hp;exact q _ p as (h.top hp)
noncomputable def gS:jk:=fun ds G Q _=>∃ (rows:Rows) (c:Int),ds=[enc rows,.int c]/\(1<=rows.length/\rows.length<=3/\rows.flatten.length<=22) /\
 ∀ (wU:Rows) (m hd:Int),wU.length=rows.length->wU.flatten.Perm (⟨m,1,hd⟩ :: ⟨m,0,hd⟩ :: rows.flatten)->m∉x4 rows.flatten->(hd=1\/hd=-1)->Q (enc wU) G
noncomputable def qG:fY :=
 (bI (bU (bg ia (ak (bg gh (ak (ai 0) aH)) (ak (ai 1) aH))) (aK 2))
 (bI (bU (bg j3 (ak (ai 1) aH)) (aK 3))
 (bI (bU (aP GD (dC (.int 1)) (aP LZ (dC (.int 2)) (aP tx (ai 3) (dC (.int 2))))) (aK 4))
 (bI (bU (aP Bq (ai 3) (dC (.int 2))) (aK 3))
 (bI (bU (gZ 1 [] (jS (ai 0)) (aK 0) none (jw qa (ak (ai 0) aH))) (aK 5))
 (bI (eD (pU (dC (.int 2))) (aK 6) (bI (bU (aP eW (ai 5) (aP tx (ai 3) (jw iB (ak (ai 5) aH)))) (aK 7))
 (bI (bU (aP Bq (ai 3) (jw iB (ak (ai 5) aH))) (aK 3))
 (bI (ee (p8 t9 x5 (ai 7) (ak (aP tx (ai 3) (aP kA (jw iB (ak (ai 7) aH)) (dC (.int 1)))) (ak (fF (ak (ai 2) (ak (ai 6) (ak (ai 4) aH)))) aH))))
 (bU (aP Bq (ai 3) (jw iB (ak (ai 7) aH))) (aK 3))))))
 (bA (dc (ai 5)))))))))
theorem rJ(ds:List D)(G:Gp)(Q:DK)(h:gS ds G Q fun _ _=>False):qG (fun _ _=>False) (ends Q) (aW 8 ds) G:=by
 obtain⟨rows,c,rfl,⟨n1,n3,hf⟩,q⟩:=h;unfold qG;simp only [ends,aW,au,aO,ag,aw,aZ,aA,aE,dE,bU,bg,ak,ai,aa,aH,ae,aK,aq,aj,aP,dC,gZ,dj];refine⟨rows,rfl,(show rows.flatten.length<=500 by lia),?_⟩;have ol:=x3 rows.flatten;refine⟨x4 rows.flatten,c,rfl,by lia,fun m hm m1 m2=>?_⟩;simp only [dc,aW,ends,bX,aP,NT,ai,jw,p8,ak,aH,bA,Nc,ee,bU,aK,dC,bD,fF,fW,Kz,kZ,Ry,sC,e8,rE,yc,vj,yb,jC,eI,dj,gX,bg,gZ,gT,yO,oE,qL,lg,oC,fS,kL,oB,xX,Cw,xZ,Cz,cX,qK,uR,Cv,xW,vo,lx,wy,eX,nc,mZ,lG,iL,Cc,Cb,Ca,true_and,and_true,CW,x9,ig,aS,fO,qT,CT,mw,au,aO,aA,aE,aa,ae,aj,aq,ag,aw,aZ,if_true,if_false,aJ,bL,ah,dE,lb];refine⟨c,rfl,?_⟩;simp only [kL,fS,oC,lg];have mx:0<=mixed c:=by unfold mixed; lia
 generalize mixed c=x at *;refine⟨by decide,.inl ⟨by decide,by decide⟩,by decide,by decide,?_⟩;have hh:1 - 2 * (x % 2)=1\/1 - 2 * (x % 2)=-1:=by lia
 generalize 1 - 2 * (x % 2)=hd at *;have x2:0<=x / 2:=by lia
 generalize x / 2=x at *;refine yd (rows:=rows) (by lia) fun G1 p0 as hr=>?_;refine cJ (fun τ G'=>(∃ a b e,τ=[some (enc rows),some (.int c),some (.int m),a,some (.int hd),some (.ref p0),b,e])/\∃ Ql,HR G G' p0 as Ql/\Ql.length=rows.length/\Ql.flatten.Perm (⟨m,1,hd⟩ :: ⟨m,0,hd⟩ :: rows.flatten)) ?_ ?_
 ·intro N hN;simp only [eD,gX,dC,fO];refine⟨by decide,by decide,?_⟩;unfold eN;refine fL (xs:=eE (2:Int).toNat) (fun pw τ G'=>∃ Ql y,0<=y/\(∃ b e,τ=[some (enc rows),some (.int c),some (.int m),some (.int y),some (.int hd),some (.ref p0),b,e])/\HR G G' p0 as Ql/\Ql.length=rows.length/\Ql.flatten.Perm ((pw.map fun (i:Nat)=>(⟨m,0+(i:Int),hd⟩:T3)).reverse++rows.flatten)) ⟨rows,x,x2,⟨_,_,rfl⟩,hr,rfl,.refl _⟩ (fun _ _ _ _=>trivial) ?_ ?_
  ·rintro pw w post τ G2 N2 e ⟨rs,y,y0,⟨b1,b2,rfl⟩,h2,l2,p2⟩ zh;have hw:pw.length < 2:=by
    have:=congrArg dh e;rw [eR,aI,ag] at this;have h4:(2:Int).toNat=2:=rfl;lia
   simp only [aK,aq,aj,eZ,bU,aP,ai,ae,aa,jw,ak,aH,ee,p8,dC,fF,ag,aw];refine gF (IsL.ref h2.gp) ?_;rw [av,h2.len];simp only [fS];refine⟨by lia,?_⟩;have j1:0<=y % (rs.length:Int):=Gj _ (by lia);have j2:y % (rs.length:Int) < rs.length:=As _ (by lia);generalize y % (rs.length:Int)=j at *;obtain⟨a,r,ea,er,ga,xa⟩:=HR.at_ h2 j1 j2;refine ie (IsL.ref h2.gp) xa ?_;refine gF (IsL.ref h2.gp) ?_;rw [av,h2.len];have y3:0<=y / (rs.length:Int):=Int.ediv_nonneg y0 (by lia);simp only [iL,kL,ga,true_and];refine⟨by lia,by lia,?_⟩;generalize y / (rs.length:Int)=y at *;refine gF (IsL.ref ga) ?_;rw [av];simp only [gT,fS,mZ];have k1:0<=y % ((r.length:Int)+1):=Gj _ (by lia);have k2:y % ((r.length:Int)+1) < (r.length:Int)+1:=As _ (by lia);refine⟨by lia,by decide,?_⟩;generalize y % ((r.length:Int)+1)=k at *;have rl:r.length<=24:=by
    have h3:=oJ (eC er);have h4:=p2.length_eq;rw [aI,oS,av] at h4;lia
   simp only [ga];refine⟨k1,by rw [av]; lia,xx (by rw [av]; lia),?_⟩;rw [show (D.tup [.int m,.int (0+(w:Int)),.int hd])=enc (⟨m,0+(w:Int),hd⟩:T3) from rfl,OX];have h5:=h2.put (r':=ins r k.toNat ⟨m,0+(w:Int),hd⟩) ea;have g5:(cH G2 a (.lst ((ins r k.toNat ⟨m,0+(w:Int),hd⟩).map enc))) a=some (.lst ((ins r k.toNat ⟨m,0+(w:Int),hd⟩).map enc)):=aF;generalize cH G2 a (.lst ((ins r k.toNat ⟨m,0+(w:Int),hd⟩).map enc))=G5 at *;refine gF (IsL.ref g5) ?_;rw [av];simp only [kL];have li:(ins r k.toNat (⟨m,0+(w:Int),hd⟩:T3)).length=r.length+1:=by
    have:=(EY r k.toNat (⟨m,0+(w:Int),hd⟩:T3)).length_eq;rw [ag] at this; exact this
   rw [li];refine⟨by lia,by lia,?_⟩;refine zh _ _ ⟨_,_,Int.ediv_nonneg y3 (by lia),⟨_,_,rfl⟩,h5,by rw [oR]; exact l2,?_⟩;refine(El (EY _ _ _) rs _ er).trans ?_;rw [aL,List.reverse_append];exact .cons _ p2
  ·rintro τ G2 ⟨rs,y,y0,⟨b1,b2,rfl⟩,h2,l2,p2⟩;exact hN _ _ ⟨⟨_,_,_,rfl⟩,rs,h2,l2,p2⟩
 ·rintro _ G2 ⟨⟨a,b,e,rfl⟩,rs,h2,l2,p2⟩;simp only [bA,dc,ai,ae,aa];exact h2.fz (q rs m hd l2 p2 hm hh)
end HW
end K2
end
section
namespace K2
open PySem (Str)
open Enc (enc)
namespace HW
open K2.P K2.qh
open K2.K3
variable {rows:Rows}
noncomputable def fe:jk:=Qf Dr fun rows=>bK rows 0
noncomputable def uJ:fY :=
 (bI (bU (fW aH) (aK 1))
 (bI (eD (pU (jw iB (ak (ai 0) aH))) (aK 2) (bI (cN (e8 (da (aP eW (ai 0) (ai 2)))) (ee (p8 t9 gq (ai 1) (ak (fF (ak (ai 2) (ak (dC (.int 2)) aH))) aH))) bD)
 (eD (jS (aP eW (ai 0) (ai 2))) (aK 3) (ee (p8 t9 gq (ai 1) (ak (fF (ak (aP eW (ai 3) (dC (.int 0))) (ak (aP eW (ai 3) (dC (.int 1))) aH))) aH))))))
 (bA (dc (ai 1)))))
theorem vA(ds:List D)(G:Gp)(Q:DK)(h:fe ds G Q fun _ _=>False):uJ (fun _ _=>False) (ends Q) (aW 4 ds) G:=by
 obtain⟨rows,rfl,dr,q⟩:=h;have dr:Dr rows:=dr;have xH:=dr.xH;have sl:=vP dr;have str:=dr.str;unfold uJ;simp only [ends,aW,au,aO,ag,aw,aZ,aA,aE,dE,bU,fW,aH,aK,aq,aj];refine⟨by decide,fun d hd=>?_⟩;refine cJ (fun τ G'=>(∃ a b,τ=[some (enc rows),some (.ref d),a,b])/\fy G G'/\G' d=some (.lst ((bK rows 0).map enc))) ?_ ?_
 ·intro N hN;simp only [eD,gX,jw,ak,ai,aa,aH];refine gF (IsL.enc rows) ?_;rw [av];simp only [fO];refine⟨by lia,by lia,?_⟩;unfold eN;refine fL (xs:=eE (rows.length:Int).toNat) (fun ks τ G'=>(∃ a b,τ=[some (enc rows),some (.ref d),a,b])/\fy G G'/\G' d=some (.lst ((bK (rows.take ks.length) 0).map enc))) ⟨⟨_,_,rfl⟩,.new hd,aF⟩ (fun _ _ _ _=>trivial) ?_ ?_
  ·rintro ks k post τ G1 N2 e ⟨⟨a1,a2,rfl⟩,l1,Ze⟩ zh;have ek:k=ks.length:=by
    have:=congrArg (fun l=>l[ks.length]?) e;simp only [bF (aQ _),Nat.sub_self,aa] at this;have hl:=congrArg dh e;rw [eR,aI,ag] at hl;rw [xS (by lia)] at this;injection this with this; exact this.symm
   have hk:k < rows.length:=by
    have:k∈eE (rows.length:Int).toNat:=by rw [e]; simp
    have:=List.mem_range.mp this; lia
   subst ek;have et:rows.take (ks.length+1)=rows.take ks.length++[rows[ks.length]]:=by rw [List.take_add_one,aM hk]; rfl
   have Zh:bK (rows.take (ks.length+1)) 0=bK (rows.take ks.length) 0++bQ rows[ks.length] (ks.length:Int):=by
    rw [et,o6,bK,bK,c9,cA,o3 (by lia),mJ]
   have qg:(bK (rows.take ks.length) 0).length+(bQ rows[ks.length] (ks.length:Int)).length<=27:=by
    have h1:(bK rows 0).length<=27:=vP dr;have:=o6 (rows.take (ks.length+1)) (rows.drop (ks.length+1)) 0;rw [cy] at this;rw [this,aI,Zh,aI] at h1;lia
   generalize W2:rows[ks.length]=r at *;have xr:oY (rows.map (enc:List T3->D)) (0+(ks.length:Int))=some (enc r):=by rw [Qm hk,W2]
   generalize bK (rows.take ks.length) 0=L at *;simp only [aK,aq,aj];refine cJ (fun τ G'=>(∃ b,τ=[some (enc rows),some (.ref d),some (.int (0+(ks.length:Int))),b])/\fy G G'/\((r=[]/\G' d=some (.lst ((L++bQ r (ks.length:Int)).map enc)))\/(r≠[]/\G' d=some (.lst (L.map enc))))) ?_ ?_
   ·intro N3 Hm;simp only [Hg,e8,ee,p8,ai,ae,aa,iL,ak,fF,dC,aH,ag,aw,eX,bD,bX,aP];refine ie (IsL.enc rows) xr ?_;refine yv (IsL.enc r) ?_;cases r with
    | nil =>
     simp only [aO,tj,aJ,bL,Ze,true_and,if_true];refine⟨by decide,xx (by rw [av]; lia),Hm _ _ ⟨⟨_,rfl⟩,l1.put hd,.inl ⟨rfl,?_⟩⟩⟩;rw [aF,Int.zero_add,aL]; rfl
    | cons t r =>
     simp only [au,rQ,bL,aJ,ah,if_false];exact Hm _ _ ⟨⟨_,rfl⟩,l1,.inr ⟨by simp,Ze⟩⟩
   ·rintro _ G3 ⟨⟨b,rfl⟩,l3,XC⟩;simp only [eD,dj,aP,ai,aa,ae];refine ie (IsL.enc rows) xr ?_;refine ij ?_;refine fL (xs:=r) (fun pp τ G'=>(∃ b,τ=[some (enc rows),some (.ref d),some (.int (0+(ks.length:Int))),b])/\fy G G'/\((r=[]/\G' d=some (.lst ((L++bQ r (ks.length:Int)).map enc)))\/(r≠[]/\G' d=some (.lst ((L++pp.map T3.s).map enc))))) ⟨⟨_,rfl⟩,l3,?_⟩ (fun _ _ _ _=>trivial) ?_ ?_
    ·rcases XC with h | ⟨h1,h2⟩
     ·exact .inl h
     ·exact .inr ⟨h1,by rw [aO,c9]; exact h2⟩
    ·rintro pp t pt τ G4 N4 e4 ⟨⟨b,rfl⟩,l4,O1⟩ hN4;have ot:r≠[]:=by rw [e4]; simp
     rcases O1 with ⟨h1,_⟩ | ⟨_,O1⟩
     ·exact absurd h1 ot
     have eo:bQ r (ks.length:Int)=r.map T3.s:=by unfold bQ; rw [if_neg ot]
     have hl4:(L++pp.map T3.s).length<=1000:=by
      rw [eo,av] at qg;have:=congrArg dh e4;rw [aI,ag] at this;rw [aI,av]; lia
     simp only [aK,ee,p8,ai,nS,aq,aj,ae,aa,iL,O1,ak,fF,aP,dC,aH,ag,aw,eX,cX,DY,Js,true_and];refine⟨by decide,xx (by rw [av]; exact hl4),hN4 _ _ ⟨⟨_,rfl⟩,l4.put hd,.inr ⟨ot,?_⟩⟩⟩;rw [aF,aL (l₁:=pp),<-bS,aL (l₁:=L++_)]; rfl
    ·rintro τ G4 ⟨⟨b,rfl⟩,l4,O1⟩;refine zh _ _ ⟨⟨_,_,rfl⟩,l4,?_⟩;rw [aI,ag,aw,mJ,Zh];rcases O1 with ⟨_,h⟩ | ⟨h1,h⟩
     ·exact h
     ·have eo:bQ r (ks.length:Int)=r.map T3.s:=by unfold bQ; rw [if_neg h1]
      rw [eo]; exact h
  ·rintro τ G' ⟨⟨a,b,rfl⟩,l,gd⟩;refine hN _ _ ⟨⟨_,_,rfl⟩,l,?_⟩;have:rows.take (eE (rows.length:Int).toNat).length=rows:=by rw [eR]; simp
   rw [this] at gd; exact gd
 ·rintro _ G' ⟨⟨a,b,rfl⟩,l,gd⟩;simp only [bA,dc,ai,ae,aa];exact kO l hd gd q
section
variable {κ:Type} [DecidableEq κ]
structure LI(ms:List κ)(ps:List (κ×κ))(l:List (κ×Int)):Prop where
 keys:l.map (·.1)=ms
 same:∀ x y vx vy,oa l x=some vx->oa l y=some vy->(vx=vy↔Cn ps x y)
end
end HW
end K2
end
section
namespace K2
open PySem (Str)
open Enc (enc)
namespace NV
open K2.P
open K2.Mo
open K2.vJ (cU iZ mE jO)
open K2.qh (HR jn)
open K2.xQ (oi Ro)
open K2.HV (cx j5)
theorem L0{s:T2}{ps:List T3}(a:Rows)(r:List T3):oj s ps (a++[r]) 0=oj s ps a 0++[nK s ps a.length r]:=by
 rw [uV]; simp [oj]
theorem Cp{s:T2}{ps:List T3}:∀ (r:List T3),(r.flatMap (EA s ps)).length<=r.length * (ps.length+1)
 | []=>by simp
 | a :: r=>by
  rw [eS,aI,ag,Nat.add_mul];have:=Cp (s:=s) (ps:=ps) r;have h2:(EA s ps a).length<=ps.length+1:=by unfold EA; split <;> simp
  lia
noncomputable def yK:fY :=
 (bI (bU (fW aH) (aK 3))
 (bI (eD (pU (jw iB (ak (ai 0) aH))) (aK 4) (bI (bU (fW aH) (aK 5))
 (bI (cN (da (aP (oW false) (ai 1) (fF (ak (ai 4) (ak (dC (.int 2)) aH))))) (bU (jw qa (ak (ai 2) aH)) (aK 5)) bD)
 (bI (eD (jS (aP eW (ai 0) (ai 4))) (aK 6) (bI (ee (p8 t9 gq (ai 5) (ak (dc (ai 6)) aH)))
 (cN (da (aP (oW false) (ai 1) (fF (ak (aP eW (ai 6) (dC (.int 0))) (ak (aP eW (ai 6) (dC (.int 1))) aH))))) (bU (aP kA (ai 5) (ai 2)) (aK 5)) bD)))
 (ee (p8 t9 gq (ai 3) (ak (dc (ai 5)) aH)))))))
 (bA (dc (ai 3)))))
noncomputable def kK:jk:=fun ds G Q _=>∃ (rows:Rows) (s:T2) (d:D) (ps:List T3),ds=[enc rows,enc s,d]/\IsL G d (ps.map enc)/\(rows.length<=100/\(∀ r∈rows,r.length<=100)/\ps.length<=4)/\Q (enc (oj s ps rows 0)) G
theorem HS(ds:List D)(G:Gp)(Q:DK)(h:kK ds G Q fun _ _=>False):yK (fun _ _=>False) (ends Q) (aW 7 ds) G:=by
 obtain⟨rows,s,d,ps,rfl,hd,⟨hl,hr,hps⟩,q⟩:=h;unfold yK;simp only [ends,aW,au,aO,ag,aw,aZ,aA,aE,dE,bU,fW,aH,aK,aq,aj];refine⟨by decide,fun p hp=>?_⟩;refine cJ (fun τ G'=>fy G G'/\G' p=some (.lst ((oj s ps rows 0).map enc))/\∃ a b c,τ=[some (enc rows),some (enc s),some d,some (.ref p),a,b,c]) ?_ ?_
 ·intro N hN;simp only [eD,gX,jw,ak,ai,aa,aH];refine gF (IsL.enc rows) ?_;simp only [av,fO];refine⟨by lia,by lia,?_⟩;refine nP (fun pre τ G'=>fy G G'/\G' p=some (.lst ((oj s ps (rows.take pre.length) 0).map enc))/\∃ a b c,τ=[some (enc rows),some (enc s),some d,some (.ref p),a,b,c]) ⟨.new hp,aF,_,_,_,rfl⟩ (fun _ _ _ _=>trivial) ?_ ?_
  ·rintro pre x post τ G1 N1 e ⟨l1,g1,a,b,c,rfl⟩ MO;obtain⟨rfl,hk⟩:=o9 e;have hk:pre.length < rows.length:=by simpa using hk
   obtain⟨r,er⟩:∃ r,rows[pre.length]?=some r:=⟨rows[pre.length],aM hk⟩;have Q3:=hr r (eC er);have Hl:oY (rows.map enc) ((pre.length:Nat):Int)=some (enc r):=by
    rw [gG _ (by lia) (by rw [av]; lia)];simp only [iI,dJ];rw [aM hk] at er;injection er with er
    rw [er]
   simp only [aK,aq,aj,dE,bU,fW,aH,aw];refine⟨by decide,fun p5 NS=>?_⟩
   let X:List T3:=if s=⟨(pre.length:Nat),2⟩ then ps else []
   let kz:D->Option D->ib:=fun x c=>[some (enc rows),some (enc s),some d,some (.ref p),some (.int (pre.length:Nat)),some x,c]
   have hX:X.length<=4:=by
    show (if s=⟨(pre.length:Nat),2⟩ then ps else []).length<=4;split
    ·lia
    ·simp
   refine cJ (fun τ G2=>∃ a,fy G1 G2/\G1 a=none/\G2 a=some (.lst (X.map enc))/\τ=kz (.ref a) c) ?_ ?_
   ·intro N hN;simp only [cN,bU,jw,ak,ai,ae,aa,aH,aK,aq,aj,bD,bX,aP,fF,dC,ag,aw];refine⟨by decide,?_⟩;refine fg (x:=s) (y:=(⟨(pre.length:Nat),2⟩:T2)) (by decide) ?_;by_cases hs:s=⟨(pre.length:Nat),2⟩
    ·rw [show decide (s=(⟨(pre.length:Nat),2⟩:T2))=true from decide_eq_true hs];simp only [ah,aJ,if_false,aS,if_true];refine zN (hd.mono (l1.trans (.new NS))) fun p6 YX=>hN _ _ ⟨p6,(fy.new NS).trans (.new YX),(fy.new NS).free YX,?_,rfl⟩;show _=some (GO.lst ((if s=⟨(pre.length:Nat),2⟩ then ps else []).map enc));rw [if_pos hs]; exact aF
    ·simp only [ah,hs,decide_false,bL,if_false,aS];refine hN _ _ ⟨p5,.new NS,NS,?_,rfl⟩;show _=some (GO.lst ((if s=⟨(pre.length:Nat),2⟩ then ps else []).map enc));rw [if_neg hs]; exact aF
   rintro _ G2 ⟨a2,l2,f2,g2,rfl⟩;refine cJ (fun τ G3=>∃ a c,fy G1 G3/\G1 a=none/\G3 a=some (.lst ((nK s ps pre.length r).map enc))/\τ=kz (.ref a) c) ?_ ?_
   ·intro N hN;simp only [eD,dj,aP,ai,aa,ae,kz];refine ie (IsL.enc rows) Hl (ij ?_);refine fL (xs:=r) (fun pr τ G3=>∃ a c,fy G1 G3/\G1 a=none/\G3 a=some (.lst ((X++pr.flatMap (EA s ps)).map enc))/\τ=kz (.ref a) c) ⟨a2,c,l2,f2,by simpa using g2,rfl⟩ (fun _ _ _ _=>trivial) ?_ ?_
    ·rintro pr t po τ G3 N3 e3 ⟨a3,c3,l3,f3,g3,rfl⟩ Hm;have sv:pr.length < r.length:=by have:=congrArg dh e3; simp at this; lia
     have hz:=Cp (s:=s) (ps:=ps) pr;have Tv:pr.length * (ps.length+1)<=100 * 5:=Nat.mul_le_mul (by lia) (by lia);simp only [aK,aq,aj,lb,ee,p8,ai,ae,aa,iL,g3,ak,dc,aH,eX,true_and,kz];refine fX ?_;simp only [g3];refine⟨xx (by rw [av,aI]; lia),?_⟩;simp only [cN,nS,bU,aP,ai,ae,aa,aK,aq,aj,oE,bD,bX,fF,ak,dC,aH,ag,aw,cX,DY,Js];refine⟨by decide,?_⟩;refine fg (x:=s) (y:=t.s) (by decide) ?_;have e4:(X++pr.flatMap (EA s ps)).map enc++[D.tup [.int t.a,.int t.b,.int t.c]]=(X++pr.flatMap (EA s ps)++[t]).map (enc (α:=T3)):=by rw [aL (l₁:=X++pr.flatMap (EA s ps))]; rfl
     rw [e4];by_cases hs:s=t.s
     ·rw [show decide (s=t.s)=true from decide_eq_true hs];simp only [ah,aJ,if_false,aS,if_true];refine uT (.ref aF) (hd.mono ((l1.trans l3).put (l1.free f3))) (FW (by simp only [av,aI,hV]; lia)) fun p7 YW=>?_;refine Hm _ _ ⟨p7,_,(l3.put f3).trans (.new YW),(l3.put f3).free YW,?_,rfl⟩;rw [aF,iP,eS,List.flatMap_nil];have:EA s ps t=t :: ps:=by unfold EA; rw [if_pos hs.symm]
      rw [this,<-aL];simp
     ·simp only [ah,hs,decide_false,bL,if_false,aS];refine Hm _ _ ⟨a3,_,l3.put f3,f3,?_,rfl⟩;rw [aF,iP,eS,List.flatMap_nil];have:EA s ps t=[t]:=by unfold EA; rw [if_neg fun z=>hs z.symm]
      rw [this,c9,bS]
    ·rintro τ G3 ⟨a3,c3,l3,f3,g3,rfl⟩;exact hN _ _ ⟨a3,c3,l3,f3,g3,rfl⟩
   rintro _ G3 ⟨a3,c3,l3,f3,g3,rfl⟩;simp only [ee,p8,ai,ae,aa,iL,l3 _ _ g1,ak,dc,aH,eX,true_and,kz];have hz:=Cp (s:=s) (ps:=ps) r;have Tv:r.length * (ps.length+1)<=100 * 5:=Nat.mul_le_mul (by lia) (by lia);refine kO (xs:=nK s ps pre.length r) l3 f3 g3 ?_;simp only [g1];have hrp:rows.take (pre.length+1)=rows.take pre.length++[r]:=by
    rw [List.take_succ,er]; rfl
   refine⟨xx (by rw [av,uU,cA]; lia),MO _ _ ⟨l1.put hp,?_,_,_,_,rfl⟩⟩;rw [aF,aI,hV,hrp,L0,cA,o3 (by lia)];rw [aL (l₁:=oj s ps (rows.take pre.length) 0)]; rfl
  ·rintro τ G' ⟨l,g,a,b,c,rfl⟩;refine hN _ _ ⟨l,?_,a,b,c,rfl⟩;have:rows.take (eN 0 (rows.length:Int).toNat).length=rows:=by unfold eN; simp
   rw [this] at g;exact g
 ·rintro _ G' ⟨l,g,a,b,c,rfl⟩;simp only [bA,dc,ai,ae,aa];exact kO l hp g q
end NV
end K2
end
section
namespace K2
open PySem (Str)
open Enc (enc)
namespace NV
open K2.P
open K2.Mo
open K2.vJ (cU iZ mE jO)
open K2.qh (HR jn)
open K2.xQ (oi Ro)
open K2.HV (cx j5)
theorem LL(r:List T3):(cU r).length=r.length:=(yH r).perm.length_eq
noncomputable def uN:fY :=
 (bI (bU (fW aH) (aK 1))
 (bI (eD (jS (ai 0)) (aK 2) (bI (bU (dC (.int 0)) (aK 3))
 (bI (cN (da (ai 2)) (bU (p8 t9 qR (ai 2) (ak (jw KC (ak (ai 2) aH)) aH)) (aK 3)) bD)
 (ee (p8 t9 gq (ai 1) (ak (dc (aP kA (yb (ai 2) (mC (ai 3)) eI) (yb (ai 2) eI (mC (ai 3))))) aH))))))
 (bA (dc (ai 1)))))
noncomputable def ff:jk:=fun ds G Q _=>∃ rows:Rows,ds=[enc rows]/\(rows.length<=500/\∀ r∈rows,r.length<=500)/\Q (enc (rows.map cU)) G
theorem DL(ds:List D)(G:Gp)(Q:DK)(h:ff ds G Q fun _ _=>False):uN (fun _ _=>False) (ends Q) (aW 4 ds) G:=by
 obtain⟨rows,rfl,⟨hl,hr⟩,q⟩:=h;unfold uN;simp only [ends,aW,au,aO,ag,aw,aZ,aA,aE,dE,bU,fW,aH,aK,aq,aj];refine⟨by decide,fun p hp=>?_⟩;refine cJ (fun τ G'=>fy G G'/\G' p=some (.lst ((rows.map cU).map enc))/\∃ a b,τ=[some (enc rows),some (.ref p),a,b]) ?_ ?_
 ·intro N hN;simp only [eD,dj,ai,aa];refine ij ?_;refine fL (xs:=rows) (fun pre τ G'=>fy G G'/\G' p=some (.lst ((pre.map cU).map enc))/\∃ a b,τ=[some (enc rows),some (.ref p),a,b]) ⟨.new hp,aF,_,_,rfl⟩ (fun _ _ _ _=>trivial) ?_ ?_
  ·rintro pre r post τ G1 N1 e ⟨l1,g1,a,b,rfl⟩ MO;have Q3:=hr r (by rw [e]; simp);have sv:pre.length < rows.length:=by have:=congrArg dh e; simp at this; lia
   simp only [aK,aq,aj,dE,bU,dC];refine cJ (fun τ G'=>G1=G'/\τ=[some (enc rows),some (.ref p),some (enc r),some (.int ((r.idxOf (iZ r):Nat):Int))]) ?_ ?_
   ·intro N hN;simp only [cN,bU,p8,ai,ae,aa,ak,jw,aH,aK,aq,aj,bD,bX];refine yv (IsL.enc r) ?_;cases r with
    | nil =>
     simp only [aO,tj,aJ,ah,if_false];exact hN _ _ ⟨rfl,rfl⟩
    | cons x r =>
     simp only [au,rQ,bL,if_true];refine⟨trivial,mE rfl (by simp) (jO trivial rfl (by simp) ?_)⟩;exact hN _ _ ⟨rfl,rfl⟩
   rintro _ _ ⟨rfl,rfl⟩;simp only [ee,p8,ai,ae,aa,iL,g1,ak,dc,aP,yb,eI,aH,eX,jC,ig,true_and];have U3:r.idxOf (iZ r)<=r.length:=nH;refine xQ.Qn (IsL.enc r) U3 (by lia) ?_;simp only [g1];refine⟨xx (by simp only [av]; lia),MO _ _ ⟨l1.put hp,?_,_,_,rfl⟩⟩;rw [aF,aL,aL]; rfl
  ·rintro τ G' ⟨l,g,a,b,rfl⟩;exact hN _ _ ⟨l,g,a,b,rfl⟩
 ·rintro _ G' ⟨l,g,a,b,rfl⟩;simp only [bA,dc,ai,ae,aa];exact kO l hp g q
noncomputable def uK:fY :=
 (bI (bU (fW aH) (aK 1))
 (bI (eD (jS (ai 0)) (aK 2) (ee (p8 t9 gq (ai 1) (ak (dc (gZ 1 [] (QY (ai 2)) (aK 0) none (fF (ak (aP eW (ai 0) (dC (.int 0))) (ak (aP eW (ai 0) (dC (.int 1))) (ak (NT LY (aP eW (ai 0) (dC (.int 2)))) aH)))))) aH))))
 (bA (dc (ai 1)))))
noncomputable def DW(rows:Rows):Rows:=rows.map fun r=>r.reverse.map fun t=>⟨t.a,t.b,-t.c⟩
noncomputable def lU:jk:=fun ds G Q _=>∃ rows:Rows,ds=[enc rows]/\(rows.length<=500/\∀ r∈rows,r.length<=500)/\Q (enc (DW rows)) G
theorem DJ(ds:List D)(G:Gp)(Q:DK)(h:lU ds G Q fun _ _=>False):uK (fun _ _=>False) (ends Q) (aW 3 ds) G:=by
 obtain⟨rows,rfl,⟨hl,hr⟩,q⟩:=h;unfold uK;simp only [ends,aW,au,aO,ag,aw,aZ,aA,aE,dE,bU,fW,aH,aK,aq,aj];refine⟨by decide,fun p hp=>?_⟩;refine cJ (fun τ G'=>fy G G'/\G' p=some (.lst ((DW rows).map enc))/\∃ a,τ=[some (enc rows),some (.ref p),a]) ?_ ?_
 ·intro N hN;simp only [eD,dj,ai,aa];refine ij ?_;refine fL (xs:=rows) (fun pre τ G'=>fy G G'/\G' p=some (.lst ((DW pre).map enc))/\∃ a,τ=[some (enc rows),some (.ref p),a]) ⟨.new hp,aF,_,rfl⟩ (fun _ _ _ _=>trivial) ?_ ?_
  ·rintro pre r post τ G1 N1 e ⟨l1,g1,a,rfl⟩ MO;have Q3:=hr r (by rw [e]; simp);have sv:pre.length < rows.length:=by have:=congrArg dh e; simp at this; lia
   simp only [aK,ee,p8,ai,aq,aj,ae,aa,iL,g1,ak,dc,gZ,QY,aH,eX,true_and];rw [show (enc r:D)=.eY (r.map enc) from rfl];refine⟨FW (by simp only [oS,av]; lia),?_⟩;rw [<-List.map_reverse];refine lu (xs:=r.reverse) (fun pr acc τ G2=>G1=G2/\acc=(pr.map fun t:T3=>(⟨t.a,t.b,-t.c⟩:T3)).map enc/\∃ b,τ=[b]) ⟨rfl,rfl,_,rfl⟩ (fun _ _ _ _ _=>trivial) ?_ ?_
   ·rintro pr t po acc τ G2 N3 e3 ⟨rfl,rfl,b,rfl⟩ Hm;simp only [aK,fF,ak,aP,ai,nS,aj,aa,dC,NT,aH,ag,aw,cX,at2,oB,DY,Js];exact⟨by decide,Hm _ _ _ ⟨rfl,by rw [aL,aL]; rfl,_,rfl⟩⟩
   ·rintro acc τ G2 ⟨rfl,rfl,b,rfl⟩ p2 sx;refine kO (xs:=r.reverse.map fun t:T3=>(⟨t.a,t.b,-t.c⟩:T3)) (.new sx) sx aF ?_;simp only [g1];refine⟨xx (by unfold DW; simp only [av]; lia),MO _ _ ⟨l1.put hp,?_,_,rfl⟩⟩;rw [aF];unfold DW;rw [aL,aL]; rfl
  ·rintro τ G' ⟨l,g,a,rfl⟩;exact hN _ _ ⟨l,g,a,rfl⟩
 ·rintro _ G' ⟨l,g,a,rfl⟩;simp only [bA,dc,ai,ae,aa];exact kO l hp g q
noncomputable def fN:fY :=
 (bI (cN (sC (e8 (da (sD "tuple" (ai 0)))) (da (aP (oW true) (jw iB (ak (ai 0) aH)) (jw iB (ak (ai 1) aH))))) (bA (dc (dC (.bl false)))) bD)
 (bI (eD (jS (ai 0)) (aK 2) (cN (e8 (da (bg fc (ak (ai 2) aH)))) (bA (dc (dC (.bl false)))) bD))
 (bA (dc (aP (oW false) (ai 0) (ai 1))))))
noncomputable def cG:jk:=Mo.cG
theorem gM(ds:List D)(G:Gp)(Q:DK)(h:cG ds G Q fun _ _=>False):fN (fun _ _=>False) (ends Q) (aW 3 ds) G:=Mo.gM ds G Q h
noncomputable def gk:fY :=
 (bI (cN (sC (e8 (da (sD "tuple" (ai 0)))) (da (aP (oW true) (jw iB (ak (ai 0) aH)) (jw iB (ak (ai 1) aH))))) (bA (dc (dC (.bl false)))) bD)
 (bI (cN (sC (e8 (da (sD "str" (aP eW (ai 0) (dC (.int 0)))))) (da (aP (oW true) (aP eW (ai 0) (dC (.int 0))) (aP eW (ai 1) (dC (.int 0)))))) (bA (dc (dC (.bl false)))) bD)
 (bI (eD (IX (dC (.int 1)) (jw iB (ak (ai 1) aH))) (aK 2) (cN (da (sD "tuple" (aP eW (ai 1) (ai 2)))) (cN (e8 (da (bg cG (ak (aP eW (ai 0) (ai 2)) (ak (aP eW (ai 1) (ai 2)) aH))))) (bA (dc (dC (.bl false)))) bD) (cN (sC (e8 (da (bg fc (ak (aP eW (ai 0) (ai 2)) aH)))) (da (aP (oW true) (aP eW (ai 0) (ai 2)) (aP eW (ai 1) (ai 2))))) (bA (dc (dC (.bl false)))) bD)))
 (bA (dc (dC (.bl true)))))))
noncomputable def di:jk:=Mo.di
theorem iu(ds:List D)(G:Gp)(Q:DK)(h:di ds G Q fun _ _=>False):gk (fun _ _=>False) (ends Q) (aW 3 ds) G:=Mo.iu ds G Q h
noncomputable def w4:fY :=
 (bI (cN (sC (e8 (da (sD "list" (ai 0)))) (da (aP (oW true) (jw iB (ak (ai 0) aH)) (jw iB (ak (ai 1) aH))))) (bA (dc (dC (.bl false)))) bD)
 (bI (eD (pU (jw iB (ak (ai 1) aH))) (aK 2) (bI (cN (sC (e8 (da (sD "list" (aP eW (ai 0) (ai 2))))) (da (aP (oW true) (jw iB (ak (aP eW (ai 0) (ai 2)) aH)) (jw iB (ak (aP eW (ai 1) (ai 2)) aH))))) (bA (dc (dC (.bl false)))) bD)
 (eD (pU (jw iB (ak (aP eW (ai 1) (ai 2)) aH))) (aK 3) (cN (e8 (da (bg cG (ak (aP eW (aP eW (ai 0) (ai 2)) (ai 3)) (ak (aP eW (aP eW (ai 1) (ai 2)) (ai 3)) aH))))) (bA (dc (dC (.bl false)))) bD))))
 (bA (dc (dC (.bl true))))))
noncomputable def k9:jk:=fun ds G Q _=>∃ (p:Nat) (as:List Nat) (rows:Rows) (G0:Gp),ds=[.ref p,enc rows]/\HR G0 G p as rows/\(rows.length<=500/\∀ r∈rows,r.length<=500)/\Q (.bl true) G
theorem FL(ds:List D)(G:Gp)(Q:DK)(h:k9 ds G Q fun _ _=>False):w4 (fun _ _=>False) (ends Q) (aW 4 ds) G:=by
 obtain⟨p,as,rows,G0,rfl,hr,⟨hl,Q3⟩,q⟩:=h;unfold w4;simp only [ends,aW,au,aO,ag,aw,aZ,aA,aE,eZ,cN,sC,e8,bA,dc,dC,bD,if_true,bX,aP,jw,ak,ai,aa,aH,ae,kZ];refine IW (.ref hr.gp) ?_;simp only [beq_self_eq_true,aS,aJ,ah,if_false];refine gF (.ref hr.gp) (gF (IsL.enc rows) ?_);simp only [av];refine fg (α:=Int) (by decide) ?_;rw [hr.len];simp only [decide_true,aJ,if_true,eD,gX,jw,ak,ai,ae,aa,aH,aS,ah,if_false];refine gF (IsL.enc rows) ?_;simp only [av,fO];refine⟨by lia,by lia,?_⟩;refine nP (fun pre τ G'=>G=G'/\∃ a b,τ=[some (.ref p),some (enc rows),a,b]) ⟨rfl,_,_,rfl⟩ (fun _ _ _ _=>trivial) ?_ ?_
 ·rintro pre x post τ G' N e ⟨rfl,a,b,rfl⟩ hN;obtain⟨rfl,hk⟩:=o9 e;have hk:pre.length < rows.length:=by simpa using hk
  obtain⟨r,er⟩:∃ r,rows[pre.length]?=some r:=⟨rows[pre.length],aM hk⟩;obtain⟨c,ec⟩:∃ c,as[pre.length]?=some c:=⟨as[pre.length]'(by rw [hr.len]; exact hk),aM _⟩;have gc:=hr.at' _ _ _ ec er;have YZ:=Q3 r (eC er);have a1:oY (rows.map enc) ((pre.length:Nat):Int)=some (enc r):=by
   rw [gG _ (by lia) (by rw [av]; lia)];simp only [iI,dJ];rw [aM hk] at er;injection er with er
   rw [er]
  have a2:oY (as.map D.ref) ((pre.length:Nat):Int)=some (.ref c):=by
   have Xh:pre.length < as.length:=by rw [hr.len]; exact hk
   rw [gG _ (by lia) (by rw [av]; lia)];simp only [iI,dJ];rw [aM Xh] at ec;injection ec with ec
   rw [ec]
  simp only [aK,aq,aj,eZ,cN,sC,e8,bA,dc,dC,bD,if_true,bX,aP,jw,ak,ai,aa,ae,aH,kZ];refine ie (.ref hr.gp) a2 (IW (.ref gc) ?_);simp only [beq_self_eq_true,aS,aJ,ah,if_false];refine ie (.ref hr.gp) a2 (gF (.ref gc) ?_);refine ie (IsL.enc rows) a1 (gF (IsL.enc r) ?_);simp only [av];refine fg (α:=Int) (by decide) ?_;simp only [decide_true,aJ,if_true,eD,gX,jw,ak,aP,ai,ae,aa,aH,aS,ah,if_false];refine ie (IsL.enc rows) a1 (gF (IsL.enc r) ?_);simp only [av,fO];refine⟨by lia,by lia,?_⟩;refine nP (fun pr τ G'=>G=G'/\∃ b,τ=[some (.ref p),some (enc rows),some (.int (pre.length:Nat)),b]) ⟨rfl,_,rfl⟩ (fun _ _ _ _=>trivial) ?_ ?_
  ·rintro pr y po τ G' N2 e2 ⟨rfl,b,rfl⟩ zh;obtain⟨rfl,hj⟩:=o9 e2;have hj:pr.length < r.length:=by simpa using hj
   have a3:oY (r.map enc) ((pr.length:Nat):Int)=some (enc r[pr.length]):=by
    rw [gG _ (by lia) (by rw [av]; lia)];simp only [iI,dJ]
   simp only [aK,cN,e8,aq,aj,bA,dc,dC,bD,bX,bg,ak,aP,ai,aa,ae,aH];refine ie (.ref hr.gp) a2 (ie (.ref gc) a3 ?_);refine ie (IsL.enc rows) a1 (ie (IsL.enc r) a3 ?_);refine⟨[r[pr.length].a,r[pr.length].b,r[pr.length].c],rfl,?_⟩;simp only [aS,aJ,ah,if_false];exact zh _ _ ⟨rfl,_,rfl⟩
  ·rintro τ G' ⟨rfl,b,rfl⟩;exact hN _ _ ⟨rfl,_,_,rfl⟩
 ·rintro τ G' ⟨rfl,a,b,rfl⟩;simp only [bA,dc,dC];exact fX q
end NV
end K2
end
section
namespace K2
open PySem (Str)
open Enc (enc)
namespace R8
open K2.P
section
variable {α β:Type} [DecidableEq α] [DecidableEq β]
structure Tr(V:List α)(R:α->α->Prop)(A:List α):Prop where
 pw:A.Pairwise fun a b=>¬ R a b
 cov:∀ v∈V,∃ a∈A,R v a
 in':∀ a∈A,a∈V
structure Eqv(R:α->α->Prop):Prop where
 rf:∀ x,R x x
 sy:∀ {x y},R x y->R y x
 tr:∀ {x y z},R x y->R y z->R x z
variable {V:List α} {R:α->α->Prop}
noncomputable def it(f:α->α):Nat->α->α
 | 0,a=>a
 | n+1,a=>f (it f n a)
structure Pm(V:List α)(f:α->α):Prop where
 cl:∀ a∈V,f a∈V
 inj:∀ a∈V,∀ b∈V,f a=f b->a=b
variable {f:α->α}
theorem Me:∀ (xs ys:List α),xs.Nodup->(∀ x∈xs,x∈ys)->xs.length<=ys.length
 | [],_,_,_=>cI _
 | x :: xs,ys,hn,h=>by
  rw [iD] at hn;have:=Me xs (ys.erase x) hn.2 fun y hy=>(N8 (show y≠x from fun z=>hn.1 (by rw [<-z]; exact hy))).mpr (h y (aR _ hy));have hx:=h x (by simp);rw [JA hx] at this;have:=Lf hx;rw [ag]; lia
noncomputable def gr(V:List α)(f:α->α):List (α×α):=V.map fun a=>(a,f a)
end
end R8
end K2
end
section
namespace K2
open PySem (Str)
open Enc (enc)
namespace R8
open K2.P
variable {rows:Rows}
noncomputable def flp(z:T3):T3:=⟨z.a,z.b,1 - z.c⟩
noncomputable def Z0(off:List T2)(z:T3):T3:=if z.s∈off then flp z else z
noncomputable def phi(rows:Rows)(off:List T2)(a:T3):T3:=Z0 off (step rows a)
noncomputable def XZ(rows:Rows):List T2:=rows.flatten.map T3.s
noncomputable def XJ(rows:Rows):List T2:=(Pp rows).filter fun s=>decide (s.b=2)
noncomputable def pr(s:T2):T3×T3:=(To s,SK s)
noncomputable def base(rows:Rows):List (T3×T3):=gr (SD rows) (phi rows (XZ rows))++(XJ rows).map pr
end R8
end K2
end
section
namespace K2
open PySem (Str)
open Enc (enc)
namespace X8
open K2.P K2.qh
variable {rows:Rows}
theorem Hg{c:xM}{a b:fY}{E:lL}{K:kF}{τ:ib}{G:Gp}:cN c a b E K τ G=c E τ G fun k G1=>if k=true then a E K τ G1 else b E K τ G1:=rfl
end X8
end K2
end
section
namespace K2
open PySem (Str)
open Enc (enc)
namespace X8
open K2.P K2.qh
variable {rows:Rows}
structure HI(n:Nat)(ps:List (Int×Int))(Kg:List Int):Prop where
 len:Kg.length=n
 SJ:∀ x∈Kg,0<=x/\x < (n:Int)
 eq:∀ i j:Nat,i < n->j < n->(Kg.getD i 0=Kg.getD j 0↔Cn ps (i:Int) (j:Int))
noncomputable def cls(Kg:List Int)(f:Int):List Int:=((Kg.zipIdx 0).filter fun p=>decide (p.1=f)).map fun p=>(p.2:Int)
end X8
end K2
end
section
namespace K2
open PySem (Str)
open Enc (enc)
namespace R8
open K2.P
variable {rows:Rows}
theorem twice(d:Dr rows):rows.flatten.length=2 * (names rows).length:=by
 have e0:(names rows).length=(rows.flatten.filter fun p=>p.b == 0).length:=by unfold names; rw [Oo,av]
 have nd:rows.flatten.Nodup:=by
  have:=d.nd;unfold List.Nodup at this;rw [rP] at this;exact this.imp fun {u v} q z=>q (by rw [z])
 have h1:rows.flatten.length=(rows.flatten.filter fun p=>p.b == 0).length+(rows.flatten.filter fun p=>!(p.b == 0)).length:=by
  rw [<-D5,<-D5];rw [List.length_eq_countP_add_countP (fun p:T3=>p.b == 0) (l:=rows.flatten)];congr 1;refine List.countP_congr fun x _=>?_;simp
 have PA:∀ {L:List T3},L.Nodup->(L.map om).Nodup:=by
  intro L h;unfold List.Nodup;rw [rP];exact h.imp fun {u v} q z=>q (by rw [<-Pz u,z,Pz])
 have a1:=Me ((rows.flatten.filter fun p=>p.b == 0).map om) (rows.flatten.filter fun p=>!(p.b == 0)) (PA (nd.filter _)) fun x hx=>by
  obtain⟨p,hp,rfl⟩:=List.mem_map.mp hx;obtain⟨h1,h2⟩:=List.mem_filter.mp hp;have h2:p.b=0:=by simpa using h2
  refine List.mem_filter.mpr ⟨Mb d h1,?_⟩;show (!(1 - p.b == 0))=true;rw [h2]; rfl
 have a2:=Me ((rows.flatten.filter fun p=>!(p.b == 0)).map om) (rows.flatten.filter fun p=>p.b == 0) (PA (nd.filter _)) fun x hx=>by
  obtain⟨p,hp,rfl⟩:=List.mem_map.mp hx;obtain⟨h1,h2⟩:=List.mem_filter.mp hp;have h2:p.b≠0:=by simpa using h2
  have h3:=(d.way p h1).resolve_left h2;refine List.mem_filter.mpr ⟨Mb d h1,?_⟩;show (1 - p.b == 0)=true;rw [h3]; rfl
 rw [av] at a1 a2;lia
end R8
end K2
end
section
namespace K2
open PySem (Str)
open Enc (enc)
namespace Mo
open K2.P
open K2.vJ (cU)
open K2.qh (HR)
open K2.xQ (oi Ro)
open K2.HV (cx j5)
structure NX(rows:Rows)(n:Int)(s:T2):Prop where
 d:Dr rows
 xH:rows.flatten.length<=22
 hs:s∈bK rows 0
 fr:∀ p∈rows.flatten,p.a≠n
theorem JZ{rows:Rows}(d:Dr rows)(h:rows.flatten.length<=22):(names rows).length<=11:=by
 have:=R8.twice d;lia
theorem w9{rows:Rows}{s:T2}{ps:List T3}(d:wH rows)(h:s∈bK rows 0):∀ r∈oj s ps rows 0,r.length<=rows.flatten.length+ps.length:=fun r hr=>by
 have h1:=qh.oJ hr;rw [(Ew (ps:=ps) d (RO h)).length_eq,aI] at h1;lia
noncomputable def uP:fY :=
 (bI (ee (bg kU (ak (ai 1) (ak (fW (ak (fV ["Curl"] "name" (ai 0)) aH)) aH))))
 (bI (bU (fW (ak (fF (ak (fV ["Curl"] "name" (ai 0)) (ak (fV ["Curl"] "first" (ai 0)) (ak (fV ["Curl"] "hand" (ai 0)) aH)))) (ak (fF (ak (fV ["Curl"] "name" (ai 0)) (ak (aP GD (dC (.int 1)) (fV ["Curl"] "first" (ai 0))) (ak (fV ["Curl"] "hand" (ai 0)) aH)))) aH))) (aK 2))
 (bA (dc (bg cx (ak (bg mS (ak (ai 1) (ak (fV ["Curl"] "spot" (ai 0)) (ak (ai 2) aH)))) aH))))))
noncomputable def gj:jk:=fun ds G Q _=>∃ (p:Nat) (n:Int) (s:T2) (f h:Int) (rows:Rows),ds=[.ref p,enc rows]/\KP G p (.cu n s f h)/\NX rows n s/\∀ q as G',HR G G' q as ((oj s (cps n f h) rows 0).map cU)->Q (.ref q) G'
theorem DN(ds:List D)(G:Gp)(Q:DK)(h:gj ds G Q fun _ _=>False):uP (fun _ _=>False) (ends Q) (aW 3 ds) G:=by
 obtain⟨p,n,s,f,h,rows,rfl,g,c,q⟩:=h;obtain⟨Ki,Kh,TL⟩:=tM c.d;have TX:=c.xH;unfold uP;simp only [ends,aW,au,aO,ag,aw,aZ,aA,aE,lb,ee,bg,ak,ai,ae,aa,fW,fV,aH,dE,bU,fF,aP,dC,aK,bA,dc,aq,aj];refine at_ g ⟨by decide,fun pl sv=>?_⟩;refine⟨rows,_,[n],rfl,.ref aF,⟨TL,by have:=JZ c.d c.xH; simp; lia,by simp,fun m hm z=>?_⟩,fun G1 l1=>?_⟩
 ·rw [List.mem_singleton.mp hm] at z;obtain⟨x,hx,_,e⟩:=vY.mp z;exact c.fr x hx e
 have L:=(fy.new sv).trans l1;have g1:=L _ _ g;refine at_ g1 (at_ g1 (at_ g1 ⟨by decide,at_ g1 (at_ g1 ?_)⟩));simp only [lg];refine at_ g1 ⟨by decide,by decide,fun p2 sx=>?_⟩;have l2:=fy.new (o:=.lst ((cps n f h).map enc)) sx;refine at_ (l2 _ _ g1) ?_;refine⟨rows,s,_,cps n f h,rfl,.ref aF,⟨c.d.dn,c.hs,Ki,Kh,by simp [cps]⟩,?_⟩;refine⟨_,rfl,⟨by rw [uU]; lia,fun r hr=>?_⟩,fun q' as G' hr=>fX (q q' as G' (IZ hr (L.trans l2)))⟩;have:=w9 (ps:=cps n f h) c.d.dn c.hs r hr;rw [show (cps n f h).length=2 from rfl] at this;lia
noncomputable def uQ:fY :=
 (bI (ee (gL [("Curl",gj)] "done" (ai 0) (ak (ai 1) aH)))
 (bA (dc (kg "Uncurl" dw (ak (fV ["Curl"] "name" (ai 0)) aH)))))
noncomputable def j4:jk:=fun ds G Q _=>∃ (p:Nat) (n:Int) (s:T2) (f h:Int) (rows:Rows),ds=[.ref p,enc rows]/\KP G p (.cu n s f h)/\NX rows n s/\∀ q G',fy G G'->G q=none->KP G' q (.un n)->Q (.ref q) G'
theorem DO(ds:List D)(G:Gp)(Q:DK)(h:j4 ds G Q fun _ _=>False):uQ (fun _ _=>False) (ends Q) (aW 2 ds) G:=by
 obtain⟨p,n,s,f,h,rows,rfl,g,c,q⟩:=h;unfold uQ;simp only [ends,aW,au,aO,ag,aw,aA,aE,lb,ee,gL,ai,aa,ak,ae,aH,bA,dc,kg,fV];refine⟨p,_,_,gj,rfl,g,List.mem_singleton.mpr rfl,rfl,⟨p,n,s,f,h,rows,rfl,g,c,fun q1 as G1 hr=>?_⟩⟩;refine at_ (hr.le _ _ g) fun q' ME=>⟨q',n,rfl,aF,rfl,fX (q q' _ ?_ ?_ ?_)⟩
 ·rw [tm]; exact hr.le.trans (.new ME)
 ·exact hr.le.free ME
 ·rw [tm]; exact aF
end Mo
end K2
end
section
namespace K2
open PySem (Str)
open Enc (enc)
namespace NV
open K2.P
open K2.Mo hiding cG fN gM di gk iu
open K2.vJ (cU iZ mE jO)
open K2.qh (HR jn)
open K2.xQ (oi Ro)
open K2.HV (cx j5 jx)
open K2.HW (fe)
noncomputable def w6:fY :=
 (bI (cN (sC (e8 (da (sD "tuple" (ai 0)))) (da (aP (oW true) (jw iB (ak (ai 0) aH)) (aP kA (dC (.int 1)) (jw iB (ak (ai 2) aH)))))) (bA (dc (dC (.bl false)))) bD)
 (bI (cN (sC (e8 (da (sD "str" (aP eW (ai 0) (dC (.int 0)))))) (da (aP (oW true) (aP eW (ai 0) (dC (.int 0))) (ai 1)))) (bA (dc (dC (.bl false)))) bD)
 (bI (eD (pU (jw iB (ak (ai 2) aH))) (aK 3) (cN (da (aP (oW false) (aP eW (ai 2) (ai 3)) (dC (.int 2)))) (cN (sC (e8 (da (bg cG (ak (aP eW (ai 0) (aP kA (ai 3) (dC (.int 1)))) (ak (aP eW (ai 0) (aP kA (ai 3) (dC (.int 1)))) aH))))) (da (aP (oW true) (jw iB (ak (aP eW (ai 0) (aP kA (ai 3) (dC (.int 1)))) aH)) (dC (.int 2))))) (bA (dc (dC (.bl false)))) bD) (cN (e8 (da (bg fc (ak (aP eW (ai 0) (aP kA (ai 3) (dC (.int 1)))) aH)))) (bA (dc (dC (.bl false)))) bD)))
 (bA (dc (dC (.bl true)))))))
noncomputable def Fit(as:List D)(sh:List Int):Prop:=as.length=sh.length/\∀ (i:Nat) (a:D) (k:Int),as[i]?=some a->sh[i]?=some k->(k=2/\∃ t:T2,a=enc t)\/(k≠2/\∃ j,a=.int j)
noncomputable def mT:jk:=fun ds G Q _=>∃ (w:Str) (as:List D) (d:D) (sh:List Int),ds=[.tup (.str w :: as),.str w,d]/\IsL G d (sh.map enc)/\(Fit as sh/\as.length<=10/\Mo.UQ w)/\Q (.bl true) G
theorem FN(ds:List D)(G:Gp)(Q:DK)(h:mT ds G Q fun _ _=>False):w6 (fun _ _=>False) (ends Q) (aW 4 ds) G:=by
 obtain⟨w,as,d,sh,rfl,hd,⟨⟨hl,hf⟩,abb,hw⟩,q⟩:=h;unfold w6;simp only [ends,aW,au,aO,ag,aw,aZ,aA,aE,eZ,cN,sC,e8,bA,dc,dC,bD,if_true,bX,aP,ai,aa,ae,cX,kZ,jw,ak,aH,lx,mw,beq_self_eq_true,aS,aJ,ah,if_false];refine gF hd ?_;simp only [av,gT];refine fg (α:=Int) (by decide) ?_;have e1:((as.length+1:Nat):Int)=1+(sh.length:Int):=by lia
 simp only [e1,decide_true,aJ,if_true,Js,aS,ah,if_false];show isAt "str" (.str w) G _;unfold isAt PG;simp only [beq_self_eq_true,aS,aJ,ah,if_false];refine Rt ?_ hw;simp only [aJ,eD,gX,jw,ak,ai,ae,aa,aH,aS,ah,if_false];refine gF hd ?_;simp only [av,fO];refine⟨by lia,by lia,?_⟩;refine nP (fun pre τ G'=>G=G'/\∃ a,τ=[some (.tup (.str w :: as)),some (.str w),some d,a]) ⟨rfl,_,rfl⟩ (fun _ _ _ _=>trivial) ?_ ?_
 ·rintro pre x post τ G' N e ⟨rfl,a,rfl⟩ hN;obtain⟨rfl,hk⟩:=o9 e;have hk:pre.length < sh.length:=by simpa using hk
  have Xh:pre.length < as.length:=by lia
  have ha:oY (D.str w :: as) ((pre.length:Int)+1)=some as[pre.length]:=by
   rw [gG _ (by lia) (by rw [ag]; lia)];have:((pre.length:Int)+1).toNat=pre.length+1:=by lia
   simp only [this,Lg]
  have hs:oY (sh.map enc) ((pre.length:Nat):Int)=some (enc sh[pre.length]):=by
   rw [gG _ (by lia) (by rw [av]; lia)];simp only [iI,dJ]
  simp only [aK,cN,aq,aj,sC,e8,bA,dc,dC,bD,if_true,bX,aP,jw,ak,ai,aa,ae,aH,gT,cX,bg];refine ie hd hs ?_;refine fg (α:=Int) (y:=2) (by decide) ?_;rcases hf pre.length _ _ (aM Xh) (aM hk) with ⟨h2,t,et⟩ | ⟨h2,j,ej⟩
  ·simp only [ah,h2,decide_true,aJ,if_false,ha,et,PQ,lx,ag,aw,aS,if_true];refine⟨[t.a,t.b],rfl,?_⟩;simp only [aS,aJ,ah,if_false];refine fg (α:=Int) (x:=2) (y:=2) (by decide) ?_;simp only [decide_true,aJ,if_true,aS,ah,if_false];exact hN _ _ ⟨rfl,_,rfl⟩
  ·simp only [ah,h2,decide_false,bL,if_false,ha,ej,aS];refine⟨j,rfl,?_⟩;simp only [aS,aJ,ah,if_false];exact hN _ _ ⟨rfl,_,rfl⟩
 ·rintro τ G' ⟨rfl,a,rfl⟩;simp only [bA,dc,dC];exact fX q
theorem IC{α:Type} [DecidableEq α] [Enc α]{neg:Bool}{x:α}{xs:List α}{G:Gp}{Q:DK}(hd:Enc.dep α<=7)(q:Q (.bl (if neg then !decide (x∈xs) else decide (x∈xs))) G):Bp neg (enc x) (.tup (xs.map enc)) G Q:=by
 refine⟨enc x,xs.map enc,Enc.sn _ _ _ (by unfold SN; lia),tu G 7 hd xs,?_⟩;rw [DC]; exact q
theorem XY{a b c d:D}{r:List D}:oY (a :: b :: c :: d :: r) 3=some d:=by
 rw [gG _ (by decide) (by simp; lia)]; rfl
theorem XX{a b c d e:D}{r:List D}:oY (a :: b :: c :: d :: e :: r) 4=some e:=by
 rw [gG _ (by decide) (by simp; lia)]; rfl
theorem Ee (n:Int) (s:T2) (f h:Int):td (.cu n s f h)=.tup [.str "curl",.int n,enc s,.int f,.int h]:=rfl
noncomputable def zO(rows:Rows)(n:Int)(s:T2)(f h:Int):Rows:=(oj s (cps n f h) rows 0).map cU
theorem Ey{rows:Rows}{s:T2}{ps:List T3}(d:Dr rows)(hs:s∈bK rows 0)(hp:ps.length<=4):(oj s ps rows 0).length<=500/\∀ r∈oj s ps rows 0,r.length<=500:=by
 have:=d.str;have:=d.xH;refine⟨by rw [uU]; lia,fun r hr=>?_⟩;have:=w9 (ps:=ps) d.dn hs r hr;lia
theorem M4{rows:Rows}(d:Dr rows):rows.length<=100/\∀ r∈rows,r.length<=100:=by
 have:=d.str;have:=d.xH;refine⟨by lia,fun r hr=>?_⟩;have:=qh.oJ hr;lia
noncomputable def sV:fY :=
 (bI (bU (fW (ak (fF (ak (aP eW (ai 1) (dC (.int 1))) (ak (aP eW (ai 1) (dC (.int 3))) (ak (aP eW (ai 1) (dC (.int 4))) aH)))) (ak (fF (ak (aP eW (ai 1) (dC (.int 1))) (ak (aP GD (dC (.int 1)) (aP eW (ai 1) (dC (.int 3)))) (ak (aP eW (ai 1) (dC (.int 4))) aH)))) aH))) (aK 2))
 (bA (dc (bg ff (ak (bg kK (ak (ai 0) (ak (aP eW (ai 1) (dC (.int 2))) (ak (ai 2) aH)))) aH)))))
noncomputable def gJ:jk:=fun ds G Q _=>∃ (rows:Rows) (n:Int) (s:T2) (f h:Int),ds=[enc rows,td (.cu n s f h)]/\(Dr rows/\s∈bK rows 0)/\Q (enc (zO rows n s f h)) G
theorem A9(ds:List D)(G:Gp)(Q:DK)(h:gJ ds G Q fun _ _=>False):sV (fun _ _=>False) (ends Q) (aW 3 ds) G:=by
 obtain⟨rows,n,s,f,h,rfl,⟨d,hs⟩,q⟩:=h;obtain⟨h1,h2⟩:=M4 d;unfold sV;rw [Ee];simp only [↓dE,bU,fW,ak,fF,aP,ai,aW,↓au,↓aO,↓ag,↓aw,aZ,↓aA,↓aE,↓ae,↓aa,dC,↓cX,↓DY,↓XY,↓XX,aH,↓lg,aK,bA,dc,bg,↓aq,↓aj,↓at2,ends];refine⟨by decide,by decide,by decide,fun p hp=>?_⟩;refine⟨rows,s,_,cps n f h,rfl,.ref aF,⟨h1,h2,by simp [cps]⟩,?_⟩;exact⟨_,rfl,Ey d hs (by simp [cps]),rZ (.new hp) q⟩
noncomputable def pR:fY :=
 (bI (cN (sC (e8 (da (bg mT (ak (ai 0) (ak (dC (.str "curl")) (ak (fW (ak (dC (.int 0)) (ak (dC (.int 2)) (ak (dC (.int 0)) (ak (dC (.int 0)) aH))))) aH)))))) (da (aP (oW true) (aP eW (ai 0) (dC (.int 1))) (ai 1)))) (bA (dc (dC (.bl false)))) bD)
 (bI (cN (sC (da (aP (Bp true) (aP eW (ai 0) (dC (.int 2))) (bg fe (ak (ai 2) aH)))) (sC (da (aP (Bp true) (aP eW (ai 0) (dC (.int 3))) (fF (ak (dC (.int 0)) (ak (dC (.int 1)) aH))))) (da (aP (Bp true) (aP eW (ai 0) (dC (.int 4))) (fF (ak (dC (.int 1)) (ak (NT LY (dC (.int 1))) aH))))))) (bA (dc (dC (.bl false)))) bD)
 (bI (bU (fW (ak (fF (ak (ai 1) (ak (aP eW (ai 0) (dC (.int 3))) (ak (aP eW (ai 0) (dC (.int 4))) aH)))) (ak (fF (ak (ai 1) (ak (aP GD (dC (.int 1)) (aP eW (ai 0) (dC (.int 3)))) (ak (aP eW (ai 0) (dC (.int 4))) aH)))) aH))) (aK 4))
 (bA (dc (aP (oW false) (bg ff (ak (bg kK (ak (ai 2) (ak (aP eW (ai 0) (dC (.int 2))) (ak (ai 4) aH)))) aH)) (ai 3)))))))
noncomputable def jG:jk:=fun ds G Q _=>∃ (rows oh:Rows) (n:Int) (s:T2) (f h:Int),ds=[td (.cu n s f h),.int n,enc rows,enc oh]/\(Dr rows/\s∈bK rows 0/\(f=0\/f=1)/\(h=1\/h=-1)/\zO rows n s f h=oh)/\Q (.bl true) G
theorem xO(ds:List D)(G:Gp)(Q:DK)(h:jG ds G Q fun _ _=>False):pR (fun _ _=>False) (ends Q) (aW 5 ds) G:=by
 obtain⟨rows,oh,n,s,f,h,rfl,⟨d,hs,hf,hh,rfl⟩,q⟩:=h;obtain⟨h1,h2⟩:=M4 d;unfold pR;refine cJ (fun τ G'=>fy G G'/\τ=[some (td (.cu n s f h)),some (.int n),some (enc rows),some (enc (zO rows n s f h)),none]) ?_ ?_
 ·intro N hN;simp only [cN,sC,e8,aW,au,aO,ag,aw,aZ,aA,aE,bA,dc,dC,ends,bD,if_true,bX,aP,ai,aa,ae,bg,ak,fW,aH];refine⟨by decide,fun p hp=>?_⟩;refine⟨"curl",ar (.cu n s f h),_,[0,2,0,0],rfl,.ref aF,⟨⟨rfl,?_⟩,by simp [ar],by decide +kernel⟩,?_⟩
  ·intro i a k ha hk
   match i,ha,hk with
   | 0,ha,hk=>cases ha; cases hk; exact .inr ⟨by decide,_,rfl⟩
   | 1,ha,hk=>cases ha; cases hk; exact .inl ⟨rfl,_,rfl⟩
   | 2,ha,hk=>cases ha; cases hk; exact .inr ⟨by decide,_,rfl⟩
   | 3,ha,hk=>cases ha; cases hk; exact .inr ⟨by decide,_,rfl⟩
   | i+4,ha,hk=>simp [ar] at ha
  ·simp only [td,wd,ar,cX,DY,aS,aJ,ah,if_false];refine fg (α:=Int) (by decide) ?_;simp only [decide_true,aJ,if_true,aS,ah,if_false];exact hN _ _ ⟨.new hp,rfl⟩
 rintro _ G1 ⟨l1,rfl⟩;refine cJ (fun τ G'=>G1=G'/\τ=[some (td (.cu n s f h)),some (.int n),some (enc rows),some (enc (zO rows n s f h)),none]) ?_ ?_
 ·intro N hN;rw [Ee];simp only [cN,sC,↓bX,aP,ai,↓aa,dC,↓cX,↓at2,bg,ak,↓ae,aH,bA,dc,ends,bD,↓if_true,↓XY,fF,↓ag,↓aw,↓XX,NT,↓oB];refine⟨rows,rfl,d,uS (x:=s) (by decide) ?_⟩;simp only [hs,decide_true,aJ,if_true,aS,ah,if_false];refine⟨by decide,?_⟩;refine IC (x:=f) (xs:=[0,1]) (by decide) ?_;have Ra:f∈([0,1]:List Int):=by simpa using hf
  simp only [Ra,decide_true,aJ,if_true,aS,ah,if_false];refine⟨by decide,?_⟩;refine IC (x:=h) (xs:=[1,-1]) (by decide) ?_;have hh':h∈([1,-1]:List Int):=by simpa using hh
  simp only [hh',decide_true,aJ,if_true,aS,ah,if_false];exact hN _ _ ⟨rfl,rfl⟩
 rintro _ _ ⟨rfl,rfl⟩;rw [Ee];simp only [↓dE,bU,fW,ak,fF,ai,↓ae,↓aa,aP,dC,↓cX,↓XY,↓XX,aH,↓ag,↓aw,↓lg,aK,bA,dc,bg,↓aq,↓aj,↓at2,ends];refine⟨by decide,by decide,by decide,fun p hp=>?_⟩;refine⟨rows,s,_,cps n f h,rfl,.ref aF,⟨h1,h2,by simp [cps]⟩,?_⟩;refine⟨_,rfl,Ey d hs (by simp [cps]),?_⟩;refine fg (x:=zO rows n s f h) (y:=zO rows n s f h) (by decide) ?_;simp only [ah,decide_true,aJ,if_false];exact rZ (l1.trans (.new hp)) q
end NV
end K2
end
section
namespace K2
open PySem (Str)
open Enc (enc)
namespace Mo
open K2.P
open K2.vJ (cU)
open K2.qh (HR)
theorem Pq{j:Nat}{G1 G2:Gp}{q:Nat}{as:List Nat}{rows:Rows}{E:lL}{K:kF}{τ:ib}(hr:HR G1 G2 q as rows)(hl:rows.length<=500/\∀ r∈rows,r.length<=500)(hj:j < τ.length)
  (k:∀ kz G',(kz=τ\/∃ x,kz=τ.set j (some x))->fy G1 G'->K.nx kz G') :
  qW (aK j) (ee (p8 t9 gq (ai j) (ak (fF (ak (dC (.int 0)) (ak (dC (.int 0)) (ak (dC (.int 0)) aH)))) aH))) (fun G'=>G' q=some (.lst (as.map D.ref))) (as.map D.ref) E K τ G2:=by
 refine fL (f:=D.ref) (xs:=as) (fun pre kz G'=>(kz=τ\/∃ x,kz=τ.set j (some x))/\fy G1 G'/\G' q=some (.lst (as.map D.ref))/\(∀ a∈as,∃ xs:List D,G' a=some (.lst xs)/\xs.length<=500+pre.length)) ⟨.inl rfl,hr.le,hr.gp,fun a ha=>?_⟩ (fun _ _ _ h=>h.2.2.1) ?_ (fun kz G' h=>k kz G' h.1 h.2.1)
 ·obtain⟨i,hi⟩:=jV ha;have Y1:i < rows.length:=by rw [<-hr.len]; exact(List.getElem?_eq_some_iff.mp hi).1
  refine⟨_,hr.at' i a _ hi (aM Y1),?_⟩;rw [av];have:=hl.2 rows[i] (fb Y1);simp; lia
 ·rintro pre a post kz G' N e ⟨Tu,l,g,hs⟩ hN;have ha:a∈as:=by rw [e]; simp
  have W0:kz.set j (some (.ref a))=τ.set j (some (.ref a)):=by
   rcases Tu with rfl | ⟨x,rfl⟩
   ·rfl
   ·rw [List.set_set]
  have Xl:(τ.set j (some (D.ref a)))[j]?=some (some (.ref a)):=by rw [gI hj]
  obtain⟨xs,gx,hx⟩:=hs a ha;have ot:q≠a:=by rintro rfl; exact hr.np ha
  unfold aK;rw [W0];unfold ee p8 ai;simp only [Xl];refine⟨by unfold t9; simp only [gx],?_⟩;show (3<=SZ/\gq (.ref a) [.tup [.int 0,.int 0,.int 0]] G' fun _ G1=>N (τ.set j (some (D.ref a))) G1);refine⟨by decide,?_⟩;unfold gq;simp only [gx];have sv:pre.length < as.length:=by have:=congrArg dh e; simp at this; lia
  have hal:=hr.len;have Ki:=hl.1
  ·refine⟨xx (by lia),hN _ _ ⟨.inr ⟨_,rfl⟩,l.put (hr.fr a ha),by rw [ez ot]; exact g,fun b hb=>?_⟩⟩;by_cases Y7:b=a
   ·subst Y7;exact⟨_,aF,by simp; lia⟩
   ·rw [ez Y7];obtain⟨ys,gy,hy⟩:=hs b hb;exact⟨ys,gy,by simp; lia⟩
end Mo
namespace NV
open K2.P
open K2.Mo hiding cG fN gM di gk iu
open K2.vJ (cU iZ mE jO)
open K2.qh (HR jn)
open K2.xQ (oi Ro)
open K2.HV (cx j5 jx qC uD)
open K2.HW (fe yd)
theorem Nt{rows:Rows}{n:Int}{s:T2}{f h:Int}(c:NX rows n s)(hf:f=0\/f=1)(hh:h=1\/h=-1):Dr (zO rows n s f h) :=
 (Jn c.d c.hs c.fr hf hh c.xH).ro (jx _)
theorem Jp{rows:Rows}{n:Int}{s:T2}{f h:Int}(c:NX rows n s)(hf:f=0\/f=1)(hh:h=1\/h=-1):(tG [n] (zO rows n s f h)).map cU=rows.map cU:=by
 have h1:tG [n] (oj s (cps n f h) rows 0)=rows:=Jd (fun p hp=>by simp [cps] at hp; rcases hp with rfl | rfl <;> simp) fun p hp z=>c.fr p hp (List.mem_singleton.mp z);have h2:=Rq (ns:=[n]) (jx (oj s (cps n f h) rows 0));rw [h1] at h2;exact c.d.dn.LK h2
noncomputable def uI:fY :=
 (bI (Nf 3 (bU (gZ 1 [] (jS (ai 1)) (aK 0) none (jw qa (ak (ai 0) aH))) (aK 3)))
 (bI (bU (bg gJ (ak (ai 1) (ak (ai 2) aH))) (aK 4))
 (bI (eD (pU (dC (.int 2))) (aK 5) (bI (bU (gL [("Curl",gj)] "done" (ai 0) (ak (ai 3) aH)) (aK 6))
 (bI (cN (sC (e8 (da (bg k9 (ak (ai 6) (ak (ai 4) aH))))) (da (aP (oW true) (ai 3) (ai 1)))) (bA (dc (dC (.bl false)))) bD)
 (eD (jS (ai 6)) (aK 7) (ee (p8 t9 gq (ai 7) (ak (fF (ak (dC (.int 0)) (ak (dC (.int 0)) (ak (dC (.int 0)) aH)))) aH)))))))
 (bI (bU (gL [("Curl",j4)] "back" (ai 0) (ak (ai 3) aH)) (aK 8))
 (bI (cN (e8 (da (bg di (ak (gL [("Uncurl",iU)] "told" (ai 8) aH) (ak (fF (ak (dC (.str "uncurl")) (ak (aP eW (ai 2) (dC (.int 1))) aH))) aH))))) (bA (dc (dC (.bl false)))) bD)
 (bI (eD (pU (dC (.int 2))) (aK 5) (bI (Nf 6 (bU (gZ 1 [] (jS (ai 4)) (aK 0) none (jw qa (ak (ai 0) aH))) (aK 6)))
 (bI (bU (gL [("Uncurl",iV)] "done" (ai 8) (ak (ai 6) aH)) (aK 9))
 (bI (cN (e8 (da (bg k9 (ak (ai 9) (ak (bg ff (ak (ai 1) aH)) aH))))) (bA (dc (dC (.bl false)))) bD)
 (bI (eD (jS (ai 9)) (aK 7) (ee (p8 t9 gq (ai 7) (ak (fF (ak (dC (.int 0)) (ak (dC (.int 0)) (ak (dC (.int 0)) aH)))) aH))))
 (cN (da (aP (oW true) (ai 6) (ai 4))) (bA (dc (dC (.bl false)))) bD))))))
 (bA (dc (aP (oW false) (ai 3) (ai 1))))))))))
noncomputable def lT:jk:=fun ds G Q _=>∃ (p:Nat) (rows:Rows) (n:Int) (s:T2) (f h:Int),ds=[.ref p,enc rows,td (.cu n s f h)]/\KP G p (.cu n s f h)/\(NX rows n s/\(f=0\/f=1)/\(h=1\/h=-1))/\Q (.bl true) G
theorem DI(ds:List D)(G:Gp)(Q:DK)(h:lT ds G Q fun _ _=>False):uI (fun _ _=>False) (ends Q) (aW 10 ds) G:=by
 obtain⟨p,rows,n,s,f,h,rfl,g,⟨c,hf,hh⟩,q⟩:=h;have d:=c.d;obtain⟨Ki,Kh,TL⟩:=tM d;have db:=Nt c hf hh;obtain⟨Xs,T6,hb3⟩:=tM db;have cu:=PU (f:=f) (h:=h) d.dn c.hs c.fr;obtain⟨v0,v1,u⟩:=Ng db hf cu;have ef:=Jp c hf hh
 let S:Option D->Option D->Option D->Option D->Option D->ib:=fun a b c' d' e=>[some (.ref p),some (enc rows),some (td (.cu n s f h)),some (enc rows),some (enc (zO rows n s f h)),a,b,c',d',e]
 unfold uI;refine cJ (fun τ G'=>G=G'/\τ=[some (.ref p),some (enc rows),some (td (.cu n s f h)),some (enc rows),none,none,none,none,none,none]) ?_ ?_
 ·intro N hN;rw [zH];simp only [bU,gZ,↓dj,ai,aW,↓au,↓aO,↓ag,↓aw,aZ,↓aA,↓aE,↓ae,↓aa,aK,↓aq,↓aj];exact yd (by lia) fun G' p' as hr=>hr.fz (hN _ _ ⟨rfl,rfl⟩)
 rintro _ _ ⟨rfl,rfl⟩;refine cJ (fun τ G'=>G=G'/\τ=S none none none none none) ?_ ?_
 ·intro N hN;simp only [bU,bg,ak,ai,↓ae,↓aa,aH,aK,↓aq,↓aj];exact⟨rows,n,s,f,h,rfl,⟨d,c.hs⟩,hN _ _ ⟨rfl,rfl⟩⟩
 rintro _ _ ⟨rfl,rfl⟩;refine cJ (fun τ G'=>fy G G'/\∃ a b c',τ=S a b c' none none) ?_ ?_
 ·intro N hN;simp only [eD,↓gX,dC,↓fO,ends,S];refine⟨by decide,by decide,?_⟩;refine nP (fun pre τ G'=>fy G G'/\∃ a b c',τ=S a b c' none none) ⟨.refl _,_,_,_,rfl⟩ (fun _ _ _ _=>trivial) ?_ (fun τ G' h=>hN τ G' h);rintro pre x post τ G1 N1 e ⟨l1,a,b,c',rfl⟩ MO;simp only [↓aK,S,aj,aq];refine cJ (fun τ G'=>∃ q as,HR G1 G' q as (zO rows n s f h)/\τ=S (some x) (some (.ref q)) c' none none) ?_ ?_
  ·intro N hN;simp only [bU,gL,ai,↓aa,ak,↓ae,aH,aK,↓aq,↓aj];exact⟨p,_,_,gj,rfl,l1 _ _ g,List.mem_singleton.mpr rfl,rfl,⟨p,n,s,f,h,rows,rfl,l1 _ _ g,c,fun q' as G' hr=>hN _ _ ⟨q',as,hr,rfl⟩⟩⟩
  rintro _ G2 ⟨q',as,hr,rfl⟩;refine cJ (fun τ G'=>G2=G'/\τ=S (some x) (some (.ref q')) c' none none) ?_ ?_
  ·intro N hN;simp only [cN,sC,e8,↓bX,bg,ak,ai,↓ae,↓aa,aH,bA,dc,dC,bD,↓if_true,aP,S];refine⟨q',as,_,G1,rfl,hr,⟨Xs,T6⟩,?_⟩;simp only [↓aS,↓aJ,↓ah,↓if_false];refine fg (x:=rows) (y:=rows) (by decide) ?_;simp only [↓aS,decide_true,↓aJ,↓if_true,↓ah,↓if_false];exact hN _ _ ⟨rfl,rfl⟩
  rintro _ _ ⟨rfl,rfl⟩;simp only [eD,↓dj,ai,↓ae,↓aa,S];rw [nh hr.gp];refine Pq hr ⟨Xs,T6⟩ (mK rfl) fun kz G' Tu l=>MO _ _ ⟨l1.trans l,?_⟩;rcases Tu with rfl | ⟨y,rfl⟩
  ·exact⟨_,_,_,rfl⟩
  ·exact⟨_,_,_,rfl⟩
 rintro _ G1 ⟨l1,a1,b1,c1,rfl⟩;refine cJ (fun τ G'=>∃ q8,fy G G'/\KP G' q8 (.un n)/\τ=S a1 b1 c1 (some (.ref q8)) none) ?_ ?_
 ·intro N hN;simp only [bU,gL,ai,↓aa,ak,↓ae,aH,aK,↓aq,↓aj,S];exact⟨p,_,_,j4,rfl,l1 _ _ g,List.mem_singleton.mpr rfl,rfl,⟨p,n,s,f,h,rows,rfl,l1 _ _ g,c,fun q' G' l _ hq=>hN _ _ ⟨q',l1.trans l,hq,rfl⟩⟩⟩
 clear l1;rintro _ G1 ⟨q8,l1,g8,rfl⟩;refine cJ (fun τ G'=>G1=G'/\τ=S a1 b1 c1 (some (.ref q8)) none) ?_ ?_
 ·intro N hN;simp only [cN,e8,↓bX,bg,ak,gL,ai,↓ae,↓aa,aH,fF,dC,aP,↓ag,↓aw,bA,dc,ends,bD,S];refine⟨q8,_,_,iU,rfl,g8,List.mem_singleton.mpr rfl,rfl,⟨q8,n,rfl,g8,?_⟩⟩;rw [Ee];simp only [↓cX,↓DY];refine⟨by decide,tells_of (m:=.un n) ?_⟩;simp only [↓aS,↓aJ,↓ah,↓if_false];exact hN _ _ ⟨rfl,rfl⟩
 rintro _ _ ⟨rfl,rfl⟩;refine cJ (fun τ G'=>fy G G'/\∃ a b c' e,τ=S a b c' (some (.ref q8)) e) ?_ ?_
 ·intro N hN;simp only [eD,↓gX,dC,↓fO,ends,S];refine⟨by decide,by decide,?_⟩;refine nP (fun pre τ G'=>fy G1 G'/\∃ a b c' e,τ=S a b c' (some (.ref q8)) e) ⟨.refl _,_,_,_,_,rfl⟩ (fun _ _ _ _=>trivial) ?_ (fun τ G' h=>hN τ G' ⟨l1.trans h.1,h.2⟩);rintro pre x post τ G2 N1 e ⟨l2,a,b,c',e',rfl⟩ MO;simp only [↓aK,S,aj,aq];refine cJ (fun τ G'=>G2=G'/\τ=S (some x) (some (enc (zO rows n s f h))) c' (some (.ref q8)) e') ?_ ?_
  ·intro N hN;rw [zH];simp only [bU,gZ,↓dj,ai,↓ae,↓aa,aK,↓aq,↓aj];exact yd (by lia) fun G' p' as hr=>hr.fz (hN _ _ ⟨rfl,rfl⟩)
  rintro _ _ ⟨rfl,rfl⟩;refine cJ (fun τ G'=>∃ q as,HR G2 G' q as (rows.map cU)/\τ=S (some x) (some (enc (zO rows n s f h))) c' (some (.ref q8)) (some (.ref q))) ?_ ?_
  ·intro N hN;simp only [bU,gL,ai,↓ae,↓aa,ak,aH,aK,↓aq,↓aj,S];refine⟨q8,_,_,iV,rfl,l2 _ _ g8,List.mem_singleton.mpr rfl,rfl,⟨q8,n,_,v0,v1,rfl,l2 _ _ g8,⟨u,Xs⟩,fun q' as G' hr=>hN _ _ ⟨q',as,?_,rfl⟩⟩⟩;rw [<-ef]; exact hr
  rintro _ G3 ⟨q',as,hr,rfl⟩;have YS:(rows.map cU).length<=500/\∀ r∈rows.map cU,r.length<=500:=⟨by rw [av]; exact Ki,fun r hr=>by
   obtain⟨r',TB,rfl⟩:=List.mem_map.mp hr;rw [LL]; exact Kh r' TB⟩
  refine cJ (fun τ G'=>G3=G'/\τ=S (some x) (some (enc (zO rows n s f h))) c' (some (.ref q8)) (some (.ref q'))) ?_ ?_
  ·intro N hN;simp only [cN,e8,↓bX,bg,ak,ai,↓ae,↓aa,aH,bA,dc,dC,bD,S];refine⟨rows,rfl,⟨Ki,Kh⟩,q',as,_,G2,rfl,hr,YS,?_⟩;simp only [↓aS,↓aJ,↓ah,↓if_false];exact hN _ _ ⟨rfl,rfl⟩
  rintro _ _ ⟨rfl,rfl⟩;refine cJ (fun τ G'=>fy G2 G'/\∃ c',τ=S (some x) (some (enc (zO rows n s f h))) c' (some (.ref q8)) (some (.ref q'))) ?_ ?_
  ·intro N hN;simp only [eD,↓dj,ai,↓ae,↓aa,S];rw [nh hr.gp];refine Pq hr YS (mK rfl) fun kz G' Tu l=>hN _ _ ⟨l,?_⟩;rcases Tu with rfl | ⟨y,rfl⟩
   ·exact⟨_,rfl⟩
   ·exact⟨_,rfl⟩
  rintro _ G4 ⟨l4,c4,rfl⟩;simp only [cN,↓bX,aP,ai,↓ae,↓aa,bA,dc,dC,bD,S];refine fg (x:=zO rows n s f h) (y:=zO rows n s f h) (by decide) ?_;simp only [↓aS,decide_true,↓aJ,↓if_true,↓ah,↓if_false];exact MO _ _ ⟨l2.trans l4,_,_,_,_,rfl⟩
 rintro _ G2 ⟨l2,a2,b2,c2,e2,rfl⟩;simp only [bA,dc,aP,ai,↓ae,↓aa,ends,S];refine fg (x:=rows) (y:=rows) (by decide) ?_;simp only [↓ah,decide_true,↓aJ,↓if_false];exact rZ l2 q
noncomputable def w8:fY :=
 (bI (bU (bg gJ (ak (ai 1) (ak (ai 2) aH))) (aK 3))
 (bI (bU (gL [("Curl",gi)] "told" (gL [("Uncurl",iW)] "back" (ai 0) (ak (ai 3) aH)) aH) (aK 4))
 (bA (dc (Fv (aP (oW false) (ai 3) (bg gJ (ak (ai 1) (ak (ai 2) aH)))) (bg jG (ak (ai 4) (ak (aP eW (ai 2) (dC (.int 1))) (ak (bg ff (ak (ai 1) aH)) (ak (ai 3) aH))))))))))
noncomputable def mV:jk:=fun ds G Q _=>∃ (p:Nat) (rows:Rows) (n:Int) (s:T2) (f h:Int),ds=[.ref p,enc rows,td (.cu n s f h)]/\KP G p (.un n)/\(NX rows n s/\(f=0\/f=1)/\(h=1\/h=-1))/\Q (.bl true) G
theorem FO(ds:List D)(G:Gp)(Q:DK)(h:mV ds G Q fun _ _=>False):w8 (fun _ _=>False) (ends Q) (aW 5 ds) G:=by
 obtain⟨p,rows,n,s,f,h,rfl,g,⟨c,hf,hh⟩,q⟩:=h;have d:=c.d;obtain⟨Ki,Kh,TL⟩:=tM d;have db:=Nt c hf hh;have cu:=PU (f:=f) (h:=h) d.dn c.hs c.fr;have ef:=Jp c hf hh;unfold w8;simp only [↓dE,bU,bg,ak,ai,aW,↓au,↓aO,↓ag,↓aw,aZ,↓aA,↓aE,↓ae,↓aa,aH,aK,gL,↓aq,↓aj,bA,dc,↓rE,aP,dC,ends];refine⟨rows,n,s,f,h,rfl,⟨d,c.hs⟩,?_⟩;refine⟨p,_,_,iW,rfl,g,List.mem_singleton.mpr rfl,rfl,⟨p,_,n,f,h,s,rfl,g,⟨db,hf,cu⟩,fun f' q' G' Ra XO l _ hq=>?_⟩⟩;refine⟨q',_,_,gi,rfl,hq,List.mem_singleton.mpr rfl,rfl,⟨q',n,s,f',h,rfl,hq,?_⟩⟩;refine⟨rows,n,s,f,h,rfl,⟨d,c.hs⟩,?_⟩;refine fg (x:=zO rows n s f h) (y:=zO rows n s f h) (by decide) ?_;simp only [↓aS,↓ah,decide_true,↓aJ,↓if_false,↓if_true];rw [Ee];simp only [↓cX,↓DY];refine⟨rows,rfl,⟨Ki,Kh⟩,?_⟩;obtain⟨Hi,W2⟩:=Rz db.dn XO Ra;have dS:=d.ro (jx rows);have YU:Ro (tG [n] (zO rows n s f h)) (rows.map cU):=by rw [<-ef]; exact jx _
 refine⟨rows.map cU,zO rows n s f h,n,s,f',h,rfl,⟨dS,LD YU Hi,Ra,hh,?_⟩,rZ l q⟩;have dF:wH (tG [n] (zO rows n s f h)):=M6 db.dn;have r1:=Qp (s:=s) (ps:=cps n f' h) YU (QF dF (RO Hi));have r2:Ro (zO rows n s f h) (oj s (cps n f' h) (rows.map cU) 0):=qC (uD W2) r1;show (oj s (cps n f' h) (rows.map cU) 0).map cU=_;rw [db.dn.LK r2];unfold zO;exact(wH.LK (Jn d c.hs c.fr hf hh c.xH).dn (jx _))
end NV
end K2
end
section
namespace K2
open PySem (Str)
open Enc (enc)
namespace HW
open K2.P K2.qh
open K2.K3
variable {rows:Rows}
end HW
end K2
end
section
namespace K2
open PySem (Str)
open Enc (enc)
namespace HW
open K2.P K2.qh
open K2.K3
variable {rows:Rows}
end HW
end K2
end
section
namespace K2
open PySem (Str)
open Enc (enc)
namespace HW
open K2.P K2.qh
open K2.K3
variable {rows:Rows}
theorem Bt(df:DF rows.flatten){m:Int}(h:m∉x4 rows.flatten):m∉rows.flatten.map (·.a):=fun z=>by
 obtain⟨p,hp,e⟩:=List.mem_map.mp z;refine h ?_;unfold x4;rcases df.way p hp with h0 | h1
 ·exact List.mem_map.mpr ⟨p,List.mem_filter.mpr ⟨hp,by simp [h0]⟩,e⟩
 ·exact List.mem_map.mpr ⟨_,List.mem_filter.mpr ⟨df.yS p hp,by simp [h1]⟩,e⟩
theorem Bl(h:rows≠[]):bK rows 0≠[]:=fun z=>by
 have:=JG h 0;have e:=wL rows 0;rw [z] at e;exact this (List.map_eq_nil_iff.mp e)
theorem IM{k:Int}(k1:1<=k)(k3:k<=3){G:Gp}{Q:DK}{τ:ib}(q:∀ G' p as,HR G G' p as (aZ k.toNat [])->Q (.ref p) G') :
  (eN 0 k.toNat).length<=SZ/\jP (aK 0) none (fW aH) (fun _=>True) (eN 0 k.toNat) (fun _ _=>False) (tP 1 [] τ) G [] fun xs G2=>lr G2 (.lst xs) Q:=by
 refine⟨FW (by unfold eN; rw [av,eR]; lia),?_⟩;unfold eN;refine lu (xs:=eE k.toNat) (fun pre acc τ G'=>(∃ a,τ=[a])/\∃ as:List Nat,acc=as.map D.ref/\HA G G' as (aZ pre.length [])) ⟨⟨_,rfl⟩,[],rfl,.nil G⟩ (fun _ _ _ _ _=>trivial) ?_ ?_
 ·rintro pre x post acc τ G' N e ⟨⟨a,rfl⟩,as,rfl,h⟩ hN;simp only [aK,fW,aH,aw,aj];refine⟨by decide,fun p hp=>?_⟩;refine hN _ _ _ ⟨⟨_,rfl⟩,as++[p],by simp,?_⟩;have:=h.push hp [];rw [aI,hV,List.replicate_succ'];exact this
 ·rintro acc τ G' ⟨⟨a,rfl⟩,as,rfl,h⟩ p hp;rw [eR] at h;exact q _ p as (h.top hp)
noncomputable abbrev VM(s:D)(rows:Rows)(a b c d e f g h i j k l m:Option D):ib:=[some s,some (enc rows),a,b,c,d,e,f,g,h,i,j,k,l,m]
end HW
end K2
end
section
namespace K2
open PySem (Str)
open Enc (enc)
namespace NV
open K2.P
open K2.Mo hiding cG fN gM di gk iu
open K2.vJ (cU)
open K2.qh (HR jn)
open K2.HW (fe gh ia gS cW x4 x3 IM Bt Bl)
open K2.K3 (DF)
theorem qP(rows:Rows):(DW rows).flatten.Perm (rows.flatten.map fun t=>⟨t.a,t.b,-t.c⟩):=by
 unfold DW;induction rows with
 | nil=>exact .refl _
 | cons r rows ih =>
  rw [au,bz,bz,aL];exact((List.reverse_perm r).map _).append ih
theorem SS(rows:Rows):((DW rows).flatten.map T3.s).Perm (rows.flatten.map T3.s):=by
 have:=(qP rows).map T3.s;rw [jD] at this;exact this
theorem Qw{rows:Rows}(d:Dr rows):Dr (DW rows):=by
 have mem:∀ p,p∈(DW rows).flatten↔∃ t∈rows.flatten,p=⟨t.a,t.b,-t.c⟩:=fun p=>by
  rw [(qP rows).mem_iff,List.mem_map];exact⟨fun ⟨t,h,e⟩=>⟨t,h,e.symm⟩,fun ⟨t,h,e⟩=>⟨t,h,e.symm⟩⟩
 refine⟨(SS rows).nodup_iff.mpr d.nd,?_,?_,?_,?_,?_⟩
 ·intro p hp; obtain⟨t,ht,rfl⟩:=(mem p).mp hp; exact d.way t ht
 ·intro p hp; obtain⟨t,ht,rfl⟩:=(mem p).mp hp; have:=d.hand t ht; show -t.c=1\/-t.c=-1; lia
 ·intro p hp; obtain⟨t,ht,rfl⟩:=(mem p).mp hp; exact(mem _).mpr ⟨_,d.yS t ht,rfl⟩
 ·rw [(qP rows).length_eq,av]; exact d.xH
 ·unfold DW; rw [av]; exact d.str
theorem Bs{s:T2}:∀ {rows:Rows} {k:Nat},s∈bK rows k->s∈bK (DW rows) k
 | [],_,h=>h
 | r :: rows,k,h=>by
  show s∈bQ (r.reverse.map fun t=>(⟨t.a,t.b,-t.c⟩:T3)) _++bK (DW rows) (k+1);rw [bK] at h;rcases List.mem_append.mp h with h | h
  ·refine du _ ?_;unfold bQ at h ⊢;by_cases hr:r=[]
   ·subst hr; exact h
   ·rw [if_neg hr] at h;rw [if_neg (by simpa using hr),jD];obtain⟨t,ht,e⟩:=List.mem_map.mp h;exact List.mem_map.mpr ⟨t,by simpa using ht,e⟩
  ·exact bJ _ (Bs h)
theorem O7{rows:Rows}{n:Int}{s:T2}(c:NX rows n s):NX (DW rows) n s :=
 ⟨Qw c.d,by rw [(qP rows).length_eq,av]; exact c.xH,Bs c.hs,fun p hp=>by
  obtain⟨t,ht,rfl⟩:=List.mem_map.mp ((qP rows).mem_iff.mp hp);exact c.fr t ht⟩
noncomputable def LU:fY :=
 (bI (Nf 1 (bU (gZ 1 [] (pU (aP kA (dC (.int 1)) (aP tx (bg cW (ak (ai 0) (ak (dC (.int 0)) aH))) (dC (.int 3))))) (aK 0) none (fW aH)) (aK 1)))
 (bI (eD (pU (aP tx (bg cW (ak (ai 0) (ak (dC (.int 1)) aH))) (dC (.int 12)))) (aK 2) (bU (dc (bg gS (ak (ai 1) (ak (bg cW (ak (ai 0) (ak (aP kA (dC (.int 5)) (ai 2)) aH))) aH)))) (aK 1)))
 (bI (bU (bg fe (ak (ai 1) aH)) (aK 3))
 (bI (bU (aP eW (ai 3) (aP tx (bg cW (ak (ai 0) (ak (dC (.int 2)) aH))) (jw iB (ak (ai 3) aH)))) (aK 4))
 (bI (bU (bg ia (ak (bg gh (ak (ai 1) aH)) (ak (bg cW (ak (ai 0) (ak (dC (.int 3)) aH))) aH))) (aK 5))
 (bI (bU (aP tx (bg cW (ak (ai 0) (ak (dC (.int 4)) aH))) (dC (.int 2))) (aK 6))
 (bI (bU (aP GD (dC (.int 1)) (aP LZ (dC (.int 2)) (aP tx (aP Bq (bg cW (ak (ai 0) (ak (dC (.int 4)) aH))) (dC (.int 2))) (dC (.int 2))))) (aK 7))
 (bI (bU (fF (ak (dC (.str "curl")) (ak (ai 5) (ak (ai 4) (ak (ai 6) (ak (ai 7) aH)))))) (aK 8))
 (bI (bU (fW (ak (ai 1) (ak (bg lU (ak (ai 1) aH)) (ak (ai 1) aH)))) (aK 9))
 (bI (eD (jS (fW (ak (kg "Curl" eG (ak (ai 5) (ak (ai 4) (ak (ai 6) (ak (ai 7) aH))))) (ak (bg o7 (ak (ai 8) aH)) aH)))) (aK 10) (eD (jS (ai 9)) (aK 11) (cN (sC (e8 (da (bg di (ak (gL [("Curl",gi)] "told" (ai 10) aH) (ak (ai 8) aH))))) (e8 (da (bg lT (ak (ai 10) (ak (ai 11) (ak (ai 8) aH))))))) (bA (dc (dC (.bl false)))) bD)))
 (bI (bU (kg "Uncurl" dw (ak (ai 5) aH)) (aK 10))
 (bI (eD (jS (ai 9)) (aK 11) (cN (e8 (da (bg mV (ak (ai 10) (ak (ai 11) (ak (ai 8) aH)))))) (bA (dc (dC (.bl false)))) bD))
 (bA (dc (dC (.bl true))))))))))))))))
theorem RK(ds:List D)(G:Gp)(Q:DK)(h:Bm ds G Q fun _ _=>False):LU (fun _ _=>False) (ends Q) (aW 12 ds) G:=by
 obtain⟨ns,rfl,hn,g0,q⟩:=h;have cell:∀ (k:Int) (G:Gp) (Q:DK),0<=k->Q (.int (jn ns k)) G->cW [.eY (ns.map D.int),.int k] G Q fun _ _=>False:=fun k G Q hk h=>⟨ns,k,rfl,hk,h⟩;unfold LU;generalize hs:D.eY (ns.map D.int)=S at cell ⊢;refine cJ (fun τ G'=>G=G'/\∃ n:Nat,1<=n/\n<=3/\τ=[some S,some (enc (aZ n ([]:List T3))),none,none,none,none,none,none,none,none,none,none]) ?_ ?_
 ·intro N hN;rw [zH];simp only [bU,gZ,↓gX,aP,dC,bg,ak,ai,aW,↓au,↓aO,↓ag,↓aw,aZ,↓aA,↓aE,↓aa,aH,aK,↓aq,↓aj,↓ae];refine cell 0 _ _ (by decide) ?_;simp only [↓fS,↓gT,↓fO];have k1:1<=1+jn ns 0 % 3:=by lia
  have k3:1+jn ns 0 % 3<=3:=by lia
  refine⟨by decide,?_⟩;generalize 1+jn ns 0 % 3=k at *;refine⟨by lia,by lia,?_⟩;refine IM k1 k3 fun G' p as hr=>?_;exact hr.fz (hN _ _ ⟨rfl,k.toNat,by lia,by lia,rfl⟩)
 rintro _ _ ⟨rfl,n,n1,n3,rfl⟩;refine cJ (fun τ G'=>G=G'/\∃ (rows:Rows) (a:Option D),(Dr rows/\rows≠[]/\rows.flatten.length<=22)/\τ=[some S,some (enc rows),a,none,none,none,none,none,none,none,none,none]) ?_ ?_
 ·intro N hN;simp only [eD,↓gX,aP,bg,ak,ai,↓aa,dC,aH,ends];refine cell 1 _ _ (by decide) ?_;simp only [↓fS,↓fO];have j1:0<=jn ns 1 % 12:=by lia
  have j2:jn ns 1 % 12<=11:=by lia
  refine⟨by decide,?_⟩;generalize jn ns 1 % 12=k at *;refine⟨by lia,by lia,?_⟩;unfold eN;refine fL (xs:=eE k.toNat) (fun pre τ G'=>G=G'/\∃ (rows:Rows) (a:Option D),(DF rows.flatten/\rows.flatten.length=2 * pre.length/\rows.length=n)/\τ=[some S,some (enc rows),a,none,none,none,none,none,none,none,none,none]) ⟨rfl,aZ n [],none,⟨?_,?_,by simp⟩,rfl⟩ (fun _ _ _ _=>trivial) ?_ ?_
  ·have:(aZ n ([]:List T3)).flatten=[]:=by simp
   rw [this];exact⟨kn,(fun p h=>by cases h),(fun p h=>by cases h),(fun p h=>by cases h)⟩
  ·simp
  ·rintro pre x post τ G' N2 e ⟨rfl,rows,a,⟨df,fl,rn⟩,rfl⟩ zh;have Kf:pre.length < 11:=by
    have:=congrArg dh e;rw [eR,aI,ag] at this; lia
   simp only [aK,bU,dc,bg,ak,ai,↓aq,↓aj,↓ae,↓aa,aP,dC,↓gT,aH];refine cell _ _ _ (by lia) ?_;refine⟨rows,_,rfl,⟨by lia,by lia,by lia⟩,fun wU m hd h1 h2 h3 h4=>?_⟩;refine fX (zh _ _ ⟨rfl,wU,_,⟨(df.add (Bt df h3) h4).perm h2,?_,by lia⟩,rfl⟩);have:=h2.length_eq;rw [ag,ag] at this;rw [aI,hV]; lia
  ·rintro τ G' ⟨rfl,rows,a,⟨df,fl,rn⟩,rfl⟩;rw [eR] at fl;refine hN _ _ ⟨rfl,rows,a,⟨⟨df.nd,df.way,df.hand,df.yS,by lia,by lia⟩,fun z=>?_,by lia⟩,rfl⟩;rw [z,aw] at rn; lia
 rintro _ _ ⟨rfl,rows,a2,⟨dr,ot,xH⟩,rfl⟩;have sl:=vP dr;have pos:=List.length_pos_iff.mpr (Bl ot);obtain⟨Ki,Kh,TL⟩:=tM dr;refine cJ (fun τ G'=>G=G'/\τ=[some S,some (enc rows),a2,some (enc (bK rows 0)),none,none,none,none,none,none,none,none]) ?_ ?_
 ·intro N hN;simp only [bU,bg,ak,ai,↓ae,↓aa,aH,aK,↓aq,↓aj];exact⟨rows,rfl,dr,hN _ _ ⟨rfl,rfl⟩⟩
 rintro _ _ ⟨rfl,rfl⟩;refine cJ (fun τ G'=>G=G'/\∃ s,s∈bK rows 0/\τ=[some S,some (enc rows),a2,some (enc (bK rows 0)),some (enc s),none,none,none,none,none,none,none]) ?_ ?_
 ·intro N hN;simp only [bU,aP,ai,↓ae,↓aa,bg,ak,dC,aH,jw,aK,↓aq,↓aj];refine cell 2 _ _ (by decide) ?_;refine gF (IsL.enc _) ?_;rw [av];simp only [↓fS];have i1:0<=jn ns 2 % ((bK rows 0).length:Int):=Gj _ (by lia);have i2:jn ns 2 % ((bK rows 0).length:Int) < (bK rows 0).length:=As _ (by lia);refine⟨by lia,?_⟩;generalize jn ns 2 % ((bK rows 0).length:Int)=i at *;refine ie (IsL.enc _) (x:=enc ((bK rows 0)[i.toNat]'(by lia))) ?_ (hN _ _ ⟨rfl,_,fb _,rfl⟩);rw [gG _ i1 (by rw [av]; exact i2),dJ]
 rintro _ _ ⟨rfl,s,Hi,rfl⟩;refine cJ (fun τ G'=>G=G'/\∃ m:Int,m∉x4 rows.flatten/\τ=[some S,some (enc rows),a2,some (enc (bK rows 0)),some (enc s),some (.int m),none,none,none,none,none,none]) ?_ ?_
 ·intro N hN;simp only [bU,bg,ak,ai,↓ae,↓aa,aH,dC,aK,↓aq,↓aj];refine⟨rows,rfl,(show rows.flatten.length<=500 by lia),cell 3 _ _ (by decide) ⟨x4 rows.flatten,_,rfl,by have:=x3 rows.flatten; lia,fun m hm _ _=>hN _ _ ⟨rfl,m,hm,rfl⟩⟩⟩
 rintro _ _ ⟨rfl,m,hm,rfl⟩;have c:NX rows m s:=⟨dr,xH,Hi,fun p hp e=>hm ?_⟩
 ·refine cJ (fun τ G'=>G=G'/\∃ f,(f=0\/f=1)/\τ=[some S,some (enc rows),a2,some (enc (bK rows 0)),some (enc s),some (.int m),some (.int f),none,none,none,none,none]) ?_ ?_
  ·intro N hN;simp only [bU,aP,bg,ak,ai,↓aa,dC,aH,aK,↓aq,↓aj];refine cell 4 _ _ (by decide) ?_;simp only [↓fS];exact⟨by decide,hN _ _ ⟨rfl,_,by lia,rfl⟩⟩
  rintro _ _ ⟨rfl,f,hf,rfl⟩;refine cJ (fun τ G'=>G=G'/\∃ h,(h=1\/h=-1)/\τ=[some S,some (enc rows),a2,some (enc (bK rows 0)),some (enc s),some (.int m),some (.int f),some (.int h),none,none,none,none]) ?_ ?_
  ·intro N hN;simp only [bU,aP,dC,bg,ak,ai,↓aa,aH,aK,↓aq,↓aj];refine cell 4 _ _ (by decide) ?_;simp only [↓kL,↓fS,↓oC,↓lg];exact⟨by decide,by decide,by decide,.inl ⟨by decide,by decide⟩,hN _ _ ⟨rfl,_,by lia,rfl⟩⟩
  rintro _ _ ⟨rfl,h,hh,rfl⟩;simp only [↓dE,bU,fF,ak,dC,ai,↓ae,↓aa,aH,↓ag,↓aw,aK,fW,↓aq,↓aj,bg,ends];refine⟨by decide,?_⟩;refine⟨rows,rfl,⟨Ki,Kh⟩,?_⟩;refine⟨by decide,fun p9 hp9=>?_⟩;have co:=O7 c
  let T:Option D->Option D->ib:=fun a b=>[some S,some (enc rows),a2,some (enc (bK rows 0)),some (enc s),some (.int m),some (.int f),some (.int h),some (td (.cu m s f h)),some (.ref p9),a,b]
  have g9:=aF (G:=G) (a:=p9) (o:=.lst [enc rows,enc (DW rows),enc rows]);generalize cH G p9 (.lst [enc rows,enc (DW rows),enc rows])=G9 at g9 ⊢;have each:∀ x∈[(enc rows:D),enc (DW rows),enc rows],∃ oh:Rows,x=enc oh/\NX oh m s:=fun x hx=>by
   simp only [e7,dI,or_false] at hx;rcases hx with rfl | rfl | rfl
   ·exact⟨rows,rfl,c⟩
   ·exact⟨DW rows,rfl,co⟩
   ·exact⟨rows,rfl,c⟩
  refine cJ (fun τ G'=>fy G9 G'/\∃ a b,τ=T a b) ?_ ?_
  ·intro N hN;simp only [eD,↓dj,fW,ak,kg,ai,↓ae,↓aa,aH,bg,↓ag,↓aw];refine fun p1 MF=>⟨p1,m,s,f,h,rfl,aF,rfl,?_⟩;rw [tm];refine⟨.cu m s f h,rfl,fun p2 sx=>⟨by decide,fun pl sv=>?_⟩⟩;have l1:=fy.new (o:=ob (.cu m s f h)) MF;have l2:=fy.new (o:=ob (.cu m s f h)) sx;have l3:=fy.new (o:=.lst [.ref p1,.ref p2]) sv;have b1:=l3 _ _ (l2 _ _ (aF (G:=G9) (a:=p1) (o:=ob (.cu m s f h))));have b2:=l3 _ _ (aF (G:=cH G9 p1 (ob (.cu m s f h))) (a:=p2) (o:=ob (.cu m s f h)));have b3:=aF (G:=cH (cH G9 p1 (ob (.cu m s f h))) p2 (ob (.cu m s f h))) (a:=pl) (o:=.lst [.ref p1,.ref p2]);have L:=(l1.trans l2).trans l3;generalize cH (cH (cH G9 p1 (ob (.cu m s f h))) p2 (ob (.cu m s f h))) pl (.lst [.ref p1,.ref p2])=GA at b1 b2 b3 L ⊢;rw [nh b3];refine nP (fun pre τ G'=>fy GA G'/\∃ a b,τ=T a b) ⟨.refl _,_,_,rfl⟩ (fun _ _ _ h=>h.1 _ _ b3) ?_ (fun τ G' h=>hN _ _ ⟨L.trans h.1,h.2⟩);rintro pre x post τ G5 N1 e ⟨l5,z1,z2,rfl⟩ MO;have hx:∃ p,x=.ref p/\KP GA p (.cu m s f h):=by
    have:x∈[D.ref p1,D.ref p2]:=by rw [e]; simp
    simp only [e7,dI,or_false] at this;rcases this with rfl | rfl
    ·exact⟨p1,rfl,b1⟩
    ·exact⟨p2,rfl,b2⟩
   obtain⟨p,rfl,ap⟩:=hx;simp only [aK,eD,↓dj,ai,↓aq,↓aj,↓ae,↓aa,T];rw [nh (l5 _ _ (L _ _ g9))];refine nP (fun pr τ G'=>fy GA G'/\∃ b,τ=T (some (.ref p)) b) ⟨l5,_,rfl⟩ (fun _ _ _ h=>h.1 _ _ (L _ _ g9)) ?_ (fun τ G' h=>MO _ _ ⟨h.1,_,h.2⟩);rintro pr y po τ G6 N2 e2 ⟨l6,z3,rfl⟩ zh;obtain⟨oh,rfl,c'⟩:=each y (by rw [e2]; simp);simp only [aK,cN,sC,e8,↓bX,bg,ak,gL,ai,↓aq,↓aj,↓ae,↓aa,aH,bA,dc,dC,bD,↓if_true,T];refine⟨p,_,_,gi,rfl,l6 _ _ ap,List.mem_singleton.mpr rfl,rfl,⟨p,m,s,f,h,rfl,l6 _ _ ap,?_⟩⟩;refine tells_of ?_;simp only [↓aS,↓aJ,↓ah,↓if_false];refine⟨p,oh,m,s,f,h,rfl,l6 _ _ ap,⟨c',hf,hh⟩,?_⟩;simp only [↓aS,↓aJ,↓ah,↓if_false];exact zh _ _ ⟨l6,_,rfl⟩
  rintro _ G2 ⟨l2,a,b,rfl⟩;simp only [↓dE,bU,kg,ak,ai,↓ae,↓aa,aH,aK,↓aq,↓aj,T];refine fun p1 MF=>⟨p1,m,rfl,aF,rfl,?_⟩;rw [tm];have l3:=fy.new (o:=ob (.un m)) MF;have ap:=aF (G:=G2) (a:=p1) (o:=ob (.un m));generalize cH G2 p1 (ob (.un m))=G3 at l3 ap ⊢;refine cJ (fun τ G'=>True) ?_ ?_
  ·intro N hN;simp only [eD,↓dj,ai,↓ae,↓aa];rw [nh (l3 _ _ (l2 _ _ g9))];refine nP (fun pr τ G'=>G3=G'/\∃ b,τ=T (some (.ref p1)) b) ⟨rfl,_,rfl⟩ (fun _ _ _ h=>by rw [<-h.1]; exact l3 _ _ (l2 _ _ g9)) ?_ (fun τ G' h=>hN _ _ trivial);rintro pr y po τ G6 N2 e2 ⟨rfl,z3,rfl⟩ zh;obtain⟨oh,rfl,c'⟩:=each y (by rw [e2]; simp);simp only [aK,cN,e8,↓bX,bg,ak,ai,↓aq,↓aj,↓ae,↓aa,aH,bA,dc,dC,bD,T];refine⟨p1,oh,m,s,f,h,rfl,ap,⟨c',hf,hh⟩,?_⟩;simp only [↓aS,↓aJ,↓ah,↓if_false];exact zh _ _ ⟨rfl,_,rfl⟩
  ·rintro τ G' _;simp only [bA,dc,dC];exact fX (q _)
 ·-- UH name is no RA
  rcases dr.way p hp with hb | hb
  ·exact List.mem_map.mpr ⟨p,List.mem_filter.mpr ⟨hp,by simpa using hb⟩,e⟩
  ·have hm':=dr.yS p hp;exact List.mem_map.mpr ⟨_,List.mem_filter.mpr ⟨hm',by simp [hb]⟩,e⟩
end NV
end K2
end
namespace Fin
open PySem PySem.Spec PyProof.Rows L2 K2
open K2.NV
open K2.HW (cW rK j3 vC gh vB ia xp gS rJ fe vA)
open K2.K3 (h8 xn)
open K2.HV (ou BY cx rH)
open K2.Mo hiding cG fN gM di gk iu
open K2.P
noncomputable def top(i:Nat):Stmt:=PySem.Challenge.pw_knotwise_k21_curls_there_and_back.main.body.getD i (.Pass ⟨0,0,0,0⟩)
noncomputable def jm(i j:Nat):Stmt:=match top i with | .ClassDef _ _ _ b _ _ _ _ _ _ _=>b.getD j (.Pass ⟨0,0,0,0⟩) | s=>s
section
open PySem.W PySem.Calls
noncomputable def hC (n:Str) (t:Nat) (l:List Value):Obj:=⟨.type "code",none,.fields (.str n t :: .str n (t+1) :: .str "/claim/cut.py" (t+2) :: l).toArray,#[]⟩
noncomputable def hI(n:Int):Value:=.int n 0
noncomputable def hR(n:Nat):Value:=.ref n
noncomputable def hN:Value:=.none
noncomputable def hT:Value:=.bool true
noncomputable def hS (n:Nat):Value:=.str "/claim/cut.py" n
noncomputable def hD(n:Str)(t:Nat)(l a:Int)(r:Nat)(x y z:Value)(u:Nat):Obj:=hC n t [hI l,hI a,hI 0,hI 0,hI 3,hR r,hT,hI 181,hR (r+1),hN,x,y,z,hI (u - 1),hI l,hS u]
noncomputable abbrev hF (i:Nat) (n:Str) (m c:Value):Obj:=⟨.type "function",none,.func (jr n n (jM (top i)) (ik (top i)) (aT (top i)) .none .none .none m none c .none),#[]⟩
noncomputable abbrev hM (i j:Nat) (n q:Str) (m c:Value):Obj:=⟨.type "function",none,.func (jr n q (jM (jm i j)) (ik (jm i j)) (aT (jm i j)) .none .none .none m none c .none),#[]⟩
noncomputable abbrev hE(P:sG)(s:Str)(t:Nat)(v:Value):DictEntry:=⟨PyData.keyHash P s,.str s t,v⟩
noncomputable def hQ:bO:=PySem.W.view PySem.Challenge.pw_knotwise_k21_curls_there_and_back [1,2,3,4,5,6,7,9,10,11,12,13,14,15,16,17,19,20,21,22,23,24,26,27,28,29,30,31,32,33,34,35,36,37,38,39,40,41,43,44,45,46,47,48,49,50,51,52,53,54,55,56,57,58,59,60,61]
noncomputable def hK (P:sG):ao:=(nat_lit 3,⟨(.type "dict"),none,(.dict #[hE P "__name__" 165 (.str "law_knotwise_k21_curls_there_and_back" 891),hE P "__doc__" 166 .none,hE P "__package__" 167 .none,hE P "__loader__" 168 (.builtin "__main__.__loader__#opaque"),hE P "__spec__" 169 .none,hE P "__annotations__" 170 (.ref 6),hE P "__builtins__" 171 (.ref 4),hE P "__file__" 173 (.str "/claim/cut.py" 172),hE P "__cached__" 174 .none,hE P "KnotError" 206 (.ref 24),hE P "NoName" 222 (.ref 37),hE P "NameTaken" 238 (.ref 49),hE P "NoSpot" 254 (.ref 61),hE P "TooMany" 270 (.ref 73),hE P "NoFit" 286 (.ref 85),hE P "NoMove" 302 (.ref 97),hE P "MOST_CROSSINGS" 306 (.int 12 305),hE P "passings_of" 315 (.ref 106),hE P "seated" 323 (.ref 113),hE P "seated_rows" 329 (.ref 118),hE P "names_of" 335 (.ref 123),hE P "hand_of" 344 (.ref 130),hE P "spots_on" 350 (.ref 135),hE P "next_of" 361 (.ref 142),hE P "string_of" 371 (.ref 149),hE P "neighbours" 382 (.ref 156),hE P "uncurl_fits" 390 (.ref 163),hE P "part_fits" 400 (.ref 170),hE P "in_turn" 409 (.ref 177),hE P "slide_pairs" 423 (.ref 184),hE P "slide_fits" 429 (.ref 189),hE P "refuse_unknown" 441 (.ref 196),hE P "refuse_unfit" 448 (.ref 203),hE P "refuse_new" 458 (.ref 210),hE P "with_put" 470 (.ref 217),hE P "taken_out" 476 (.ref 222),hE P "spot_ahead" 482 (.ref 227),hE P "first_in_turn" 492 (.ref 234),hE P "with_changed" 498 (.ref 239),hE P "renamed_spot" 506 (.ref 246),hE P "Move" 526 (.ref 256),hE P "Uncurl" 594 (.ref 312),hE P "Curl" 657 (.ref 359),hE P "Part" 731 (.ref 413),hE P "Lay" 811 (.ref 467),hE P "Slide" 883 (.ref 521),hE P "move_of" 890 (.ref 530),hE P "_law_cell_at" 900 (.ref 537),hE P "_law_whole" 907 (.ref 544),hE P "_law_mixed" 914 (.ref 551),hE P "_law_names" 924 (.ref 558),hE P "_law_free" 933 (.ref 565),hE P "_law_crossed" 939 (.ref 570),hE P "_law_spots" 949 (.ref 577),hE P "_law_put" 962 (.ref 584),hE P "_law_begun" 972 (.ref 591),hE P "_law_wholes" 981 (.ref 598),hE P "_law_same" 991 (.ref 605),hE P "_law_tells" 1000 (.ref 612),hE P "_law_form" 1010 (.ref 619),hE P "_law_curls_to" 1021 (.ref 626),hE P "_law_behind" 1030 (.ref 633),hE P "_law_there" 1036 (.ref 638),hE P "_law_back" 1047 (.ref 645),hE P "_law_other" 1053 (.ref 650),hE P "law" 1059 (.ref 655)] 66),#[]⟩) ::
(nat_lit 15,⟨(.type "tuple"),none,(.seq #[(.type "ValueError")] 0),#[]⟩) ::
(nat_lit 22,⟨(.type "tuple"),none,(.seq #[] 0),#[]⟩) ::
(nat_lit 23,⟨(.type "dict"),none,(.dict #[hE P "__module__" 196 (.str "knotwise.errors" 187),hE P "__firstlineno__" 200 (.int 2 199),hE P "__static_attributes__" 201 (.ref 22),hE P "__weakref__" 203 (.ref 25),hE P "__doc__" 204 .none] 3),#[]⟩) ::
(nat_lit 24,⟨(.type "type"),none,(.cls ⟨"KnotError",[(.type "ValueError")],[(.ref 24),(.type "ValueError"),(.type "Exception"),(.type "BaseException"),(.type "object")],23,"KnotError",.true,[],[(.ref 37),(.ref 49),(.ref 61),(.ref 73),(.ref 85),(.ref 97)],.false,none,.false⟩),#[(some (.ref 15)),none,(some (.str "KnotError" 189)),(some (.str "KnotError" 197)),(some (.builtin "ValueError.__new__")),(some (.bool .true))]⟩) ::
(nat_lit 25,⟨(.type "getset_descriptor"),none,(.fields #[(.str "__weakref__" 202),(.ref 24),(.builtin "ExceptionGroup.__weakref__"),.none]),#[]⟩) ::
(nat_lit 28,⟨(.type "tuple"),none,(.seq #[(.ref 24)] 0),#[]⟩) ::
(nat_lit 35,⟨(.type "tuple"),none,(.seq #[] 0),#[]⟩) ::
(nat_lit 36,⟨(.type "dict"),none,(.dict #[hE P "__module__" 214 (.str "knotwise.errors" 187),hE P "__firstlineno__" 218 (.int 4 217),hE P "__static_attributes__" 219 (.ref 35),hE P "__doc__" 220 .none] 2),#[]⟩) ::
(nat_lit 37,⟨(.type "type"),none,(.cls ⟨"NoName",[(.ref 24)],[(.ref 37),(.ref 24),(.type "ValueError"),(.type "Exception"),(.type "BaseException"),(.type "object")],36,"NoName",.true,[],[],.false,none,.false⟩),#[(some (.ref 28)),none,(some (.str "NoName" 207)),(some (.str "NoName" 215)),(some (.builtin "ValueError.__new__")),(some (.bool .true))]⟩) ::
(nat_lit 40,⟨(.type "tuple"),none,(.seq #[(.ref 24)] 0),#[]⟩) ::
(nat_lit 47,⟨(.type "tuple"),none,(.seq #[] 0),#[]⟩) ::
(nat_lit 48,⟨(.type "dict"),none,(.dict #[hE P "__module__" 230 (.str "knotwise.errors" 187),hE P "__firstlineno__" 234 (.int 6 233),hE P "__static_attributes__" 235 (.ref 47),hE P "__doc__" 236 .none] 2),#[]⟩) ::
(nat_lit 49,⟨(.type "type"),none,(.cls ⟨"NameTaken",[(.ref 24)],[(.ref 49),(.ref 24),(.type "ValueError"),(.type "Exception"),(.type "BaseException"),(.type "object")],48,"NameTaken",.true,[],[],.false,none,.false⟩),#[(some (.ref 40)),none,(some (.str "NameTaken" 223)),(some (.str "NameTaken" 231)),(some (.builtin "ValueError.__new__")),(some (.bool .true))]⟩) ::
(nat_lit 52,⟨(.type "tuple"),none,(.seq #[(.ref 24)] 0),#[]⟩) ::
(nat_lit 59,⟨(.type "tuple"),none,(.seq #[] 0),#[]⟩) ::
(nat_lit 60,⟨(.type "dict"),none,(.dict #[hE P "__module__" 246 (.str "knotwise.errors" 187),hE P "__firstlineno__" 250 (.int 8 249),hE P "__static_attributes__" 251 (.ref 59),hE P "__doc__" 252 .none] 2),#[]⟩) ::
(nat_lit 61,⟨(.type "type"),none,(.cls ⟨"NoSpot",[(.ref 24)],[(.ref 61),(.ref 24),(.type "ValueError"),(.type "Exception"),(.type "BaseException"),(.type "object")],60,"NoSpot",.true,[],[],.false,none,.false⟩),#[(some (.ref 52)),none,(some (.str "NoSpot" 239)),(some (.str "NoSpot" 247)),(some (.builtin "ValueError.__new__")),(some (.bool .true))]⟩) ::
(nat_lit 64,⟨(.type "tuple"),none,(.seq #[(.ref 24)] 0),#[]⟩) ::
(nat_lit 71,⟨(.type "tuple"),none,(.seq #[] 0),#[]⟩) ::
(nat_lit 72,⟨(.type "dict"),none,(.dict #[hE P "__module__" 262 (.str "knotwise.errors" 187),hE P "__firstlineno__" 266 (.int 10 265),hE P "__static_attributes__" 267 (.ref 71),hE P "__doc__" 268 .none] 2),#[]⟩) ::
(nat_lit 73,⟨(.type "type"),none,(.cls ⟨"TooMany",[(.ref 24)],[(.ref 73),(.ref 24),(.type "ValueError"),(.type "Exception"),(.type "BaseException"),(.type "object")],72,"TooMany",.true,[],[],.false,none,.false⟩),#[(some (.ref 64)),none,(some (.str "TooMany" 255)),(some (.str "TooMany" 263)),(some (.builtin "ValueError.__new__")),(some (.bool .true))]⟩) ::
(nat_lit 76,⟨(.type "tuple"),none,(.seq #[(.ref 24)] 0),#[]⟩) ::
(nat_lit 83,⟨(.type "tuple"),none,(.seq #[] 0),#[]⟩) ::
(nat_lit 84,⟨(.type "dict"),none,(.dict #[hE P "__module__" 278 (.str "knotwise.errors" 187),hE P "__firstlineno__" 282 (.int 12 281),hE P "__static_attributes__" 283 (.ref 83),hE P "__doc__" 284 .none] 2),#[]⟩) ::
(nat_lit 85,⟨(.type "type"),none,(.cls ⟨"NoFit",[(.ref 24)],[(.ref 85),(.ref 24),(.type "ValueError"),(.type "Exception"),(.type "BaseException"),(.type "object")],84,"NoFit",.true,[],[],.false,none,.false⟩),#[(some (.ref 76)),none,(some (.str "NoFit" 271)),(some (.str "NoFit" 279)),(some (.builtin "ValueError.__new__")),(some (.bool .true))]⟩) ::
(nat_lit 88,⟨(.type "tuple"),none,(.seq #[(.ref 24)] 0),#[]⟩) ::
(nat_lit 95,⟨(.type "tuple"),none,(.seq #[] 0),#[]⟩) ::
(nat_lit 96,⟨(.type "dict"),none,(.dict #[hE P "__module__" 294 (.str "knotwise.errors" 187),hE P "__firstlineno__" 298 (.int 14 297),hE P "__static_attributes__" 299 (.ref 95),hE P "__doc__" 300 .none] 2),#[]⟩) ::
(nat_lit 97,⟨(.type "type"),none,(.cls ⟨"NoMove",[(.ref 24)],[(.ref 97),(.ref 24),(.type "ValueError"),(.type "Exception"),(.type "BaseException"),(.type "object")],96,"NoMove",.true,[],[],.false,none,.false⟩),#[(some (.ref 88)),none,(some (.str "NoMove" 287)),(some (.str "NoMove" 295)),(some (.builtin "ValueError.__new__")),(some (.bool .true))]⟩) ::
(nat_lit 105,hD "passings_of" 307 18 1 100 (hR 102) (hR 103) (hR 104) 314) ::
(nat_lit 106,hF 10 "passings_of" (.str "knotwise.drawings" 303) (.ref 105)) ::
(nat_lit 112,hD "seated" 316 23 1 107 (hR 109) (hR 110) (hR 111) 322) ::
(nat_lit 113,hF 11 "seated" (.str "knotwise.drawings" 303) (.ref 112)) ::
(nat_lit 117,hD "seated_rows" 324 28 1 114 hN hN (hR 116) 328) ::
(nat_lit 118,hF 12 "seated_rows" (.str "knotwise.drawings" 303) (.ref 117)) ::
(nat_lit 122,hD "names_of" 330 30 1 119 hN hN (hR 121) 334) ::
(nat_lit 123,hF 13 "names_of" (.str "knotwise.drawings" 303) (.ref 122)) ::
(nat_lit 129,hD "hand_of" 336 32 2 124 (hR 126) (hR 127) (hR 128) 343) ::
(nat_lit 130,hF 14 "hand_of" (.str "knotwise.drawings" 303) (.ref 129)) ::
(nat_lit 134,hD "spots_on" 345 37 2 131 hN hN (hR 133) 349) ::
(nat_lit 135,hF 15 "spots_on" (.str "knotwise.drawings" 303) (.ref 134)) ::
(nat_lit 141,hD "next_of" 351 41 1 136 (hR 138) (hR 139) (hR 140) 360) ::
(nat_lit 142,hF 16 "next_of" (.str "knotwise.drawings" 303) (.ref 141)) ::
(nat_lit 148,hD "string_of" 362 47 2 143 (hR 145) (hR 146) (hR 147) 370) ::
(nat_lit 149,hF 17 "string_of" (.str "knotwise.drawings" 303) (.ref 148)) ::
(nat_lit 155,hD "neighbours" 374 53 3 150 (hR 152) (hR 153) (hR 154) 381) ::
(nat_lit 156,hF 19 "neighbours" (.str "knotwise.fits" 372) (.ref 155)) ::
(nat_lit 162,hD "uncurl_fits" 383 55 2 157 (hR 159) (hR 160) (hR 161) 389) ::
(nat_lit 163,hF 20 "uncurl_fits" (.str "knotwise.fits" 372) (.ref 162)) ::
(nat_lit 169,hD "part_fits" 391 57 3 164 (hR 166) (hR 167) (hR 168) 399) ::
(nat_lit 170,hF 21 "part_fits" (.str "knotwise.fits" 372) (.ref 169)) ::
(nat_lit 176,hD "in_turn" 401 62 3 171 (hR 173) (hR 174) (hR 175) 408) ::
(nat_lit 177,hF 22 "in_turn" (.str "knotwise.fits" 372) (.ref 176)) ::
(nat_lit 183,hD "slide_pairs" 410 66 5 178 (hR 180) (hR 181) (hR 182) 422) ::
(nat_lit 184,hF 23 "slide_pairs" (.str "knotwise.fits" 372) (.ref 183)) ::
(nat_lit 188,hD "slide_fits" 424 71 5 185 hN hN (hR 187) 428) ::
(nat_lit 189,hF 24 "slide_fits" (.str "knotwise.fits" 372) (.ref 188)) ::
(nat_lit 195,hD "refuse_unknown" 432 77 2 190 (hR 192) (hR 193) (hR 194) 440) ::
(nat_lit 196,hF 26 "refuse_unknown" (.str "knotwise.moves" 430) (.ref 195)) ::
(nat_lit 202,hD "refuse_unfit" 442 82 1 197 (hR 199) (hR 200) (hR 201) 447) ::
(nat_lit 203,hF 27 "refuse_unfit" (.str "knotwise.moves" 430) (.ref 202)) ::
(nat_lit 209,hD "refuse_new" 449 85 2 204 (hR 206) (hR 207) (hR 208) 457) ::
(nat_lit 210,hF 28 "refuse_new" (.str "knotwise.moves" 430) (.ref 209)) ::
(nat_lit 216,hD "with_put" 459 93 3 211 (hR 213) (hR 214) (hR 215) 469) ::
(nat_lit 217,hF 29 "with_put" (.str "knotwise.moves" 430) (.ref 216)) ::
(nat_lit 221,hD "taken_out" 471 99 2 218 hN hN (hR 220) 475) ::
(nat_lit 222,hF 30 "taken_out" (.str "knotwise.moves" 430) (.ref 221)) ::
(nat_lit 226,hD "spot_ahead" 477 104 3 223 hN hN (hR 225) 481) ::
(nat_lit 227,hF 31 "spot_ahead" (.str "knotwise.moves" 430) (.ref 226)) ::
(nat_lit 233,hD "first_in_turn" 483 112 4 228 (hR 230) (hR 231) (hR 232) 491) ::
(nat_lit 234,hF 32 "first_in_turn" (.str "knotwise.moves" 430) (.ref 233)) ::
(nat_lit 238,hD "with_changed" 493 116 2 235 hN hN (hR 237) 497) ::
(nat_lit 239,hF 33 "with_changed" (.str "knotwise.moves" 430) (.ref 238)) ::
(nat_lit 245,hD "renamed_spot" 499 126 2 240 (hR 242) (hR 243) (hR 244) 505) ::
(nat_lit 246,hF 34 "renamed_spot" (.str "knotwise.moves" 430) (.ref 245)) ::
(nat_lit 254,⟨(.type "tuple"),none,(.seq #[] 0),#[]⟩) ::
(nat_lit 255,⟨(.type "dict"),none,(.dict #[hE P "__module__" 514 (.str "knotwise.moves" 430),hE P "__firstlineno__" 518 (.int 130 517),hE P "__static_attributes__" 519 (.ref 254),hE P "__dict__" 521 (.ref 257),hE P "__weakref__" 523 (.ref 258),hE P "__doc__" 524 .none] 4),#[]⟩) ::
(nat_lit 256,⟨(.type "type"),none,(.cls ⟨"Move",[(.type "object")],[(.ref 256),(.type "object")],255,"Move",.true,[],[(.ref 312),(.ref 359),(.ref 413),(.ref 467),(.ref 521)],.false,none,.false⟩),#[none,none,(some (.str "Move" 507)),(some (.str "Move" 515)),(some (.builtin "object.__new__")),(some (.bool .true))]⟩) ::
(nat_lit 257,⟨(.type "getset_descriptor"),none,(.fields #[(.str "__dict__" 520),(.ref 256),(.builtin "function.__dict__"),(.builtin "function.__dict__#set")]),#[]⟩) ::
(nat_lit 258,⟨(.type "getset_descriptor"),none,(.fields #[(.str "__weakref__" 522),(.ref 256),(.builtin "ExceptionGroup.__weakref__"),.none]),#[]⟩) ::
(nat_lit 261,⟨(.type "tuple"),none,(.seq #[(.ref 256)] 0),#[]⟩) ::
(nat_lit 273,⟨(.type "code"),none,(.fields #[(.str "__init__" 539),(.str "Uncurl.__init__" 540),(.str "/claim/cut.py" 541),(.int 134 0),(.int 2 0),(.int 0 0),(.int 0 0),(.int 3 0),(.ref 268),(.bool .true),(.int 181 0),(.ref 269),.none,(.ref 270),(.ref 271),(.ref 272),(.int 544 0),(.int 134 0),(.str "/claim/cut.py" 545)]),#[]⟩) ::
(nat_lit 274,hM 36 0 "__init__" "Uncurl.__init__" (.str "knotwise.moves" 430) (.ref 273)) ::
(nat_lit 280,⟨(.type "code"),none,(.fields #[(.str "told" 547),(.str "Uncurl.told" 548),(.str "/claim/cut.py" 549),(.int 137 0),(.int 1 0),(.int 0 0),(.int 0 0),(.int 3 0),(.ref 275),(.bool .true),(.int 181 0),(.ref 276),.none,(.ref 277),(.ref 278),(.ref 279),(.int 551 0),(.int 137 0),(.str "/claim/cut.py" 552)]),#[]⟩) ::
(nat_lit 281,hM 36 1 "told" "Uncurl.told" (.str "knotwise.moves" 430) (.ref 280)) ::
(nat_lit 287,⟨(.type "code"),none,(.fields #[(.str "refuse" 554),(.str "Uncurl.refuse" 555),(.str "/claim/cut.py" 556),(.int 140 0),(.int 2 0),(.int 0 0),(.int 0 0),(.int 3 0),(.ref 282),(.bool .true),(.int 181 0),(.ref 283),.none,(.ref 284),(.ref 285),(.ref 286),(.int 559 0),(.int 140 0),(.str "/claim/cut.py" 560)]),#[]⟩) ::
(nat_lit 288,hM 36 2 "refuse" "Uncurl.refuse" (.str "knotwise.moves" 430) (.ref 287)) ::
(nat_lit 294,⟨(.type "code"),none,(.fields #[(.str "done" 562),(.str "Uncurl.done" 563),(.str "/claim/cut.py" 564),(.int 144 0),(.int 2 0),(.int 0 0),(.int 0 0),(.int 3 0),(.ref 289),(.bool .true),(.int 181 0),(.ref 290),.none,(.ref 291),(.ref 292),(.ref 293),(.int 567 0),(.int 144 0),(.str "/claim/cut.py" 568)]),#[]⟩) ::
(nat_lit 295,hM 36 3 "done" "Uncurl.done" (.str "knotwise.moves" 430) (.ref 294)) ::
(nat_lit 301,⟨(.type "code"),none,(.fields #[(.str "back" 570),(.str "Uncurl.back" 571),(.str "/claim/cut.py" 572),(.int 148 0),(.int 2 0),(.int 0 0),(.int 0 0),(.int 3 0),(.ref 296),(.bool .true),(.int 181 0),(.ref 297),.none,(.ref 298),(.ref 299),(.ref 300),(.int 579 0),(.int 148 0),(.str "/claim/cut.py" 580)]),#[]⟩) ::
(nat_lit 302,hM 36 4 "back" "Uncurl.back" (.str "knotwise.moves" 430) (.ref 301)) ::
(nat_lit 308,⟨(.type "code"),none,(.fields #[(.str "renamed" 582),(.str "Uncurl.renamed" 583),(.str "/claim/cut.py" 584),(.int 156 0),(.int 2 0),(.int 0 0),(.int 0 0),(.int 3 0),(.ref 303),(.bool .true),(.int 181 0),(.ref 304),.none,(.ref 305),(.ref 306),(.ref 307),(.int 587 0),(.int 156 0),(.str "/claim/cut.py" 588)]),#[]⟩) ::
(nat_lit 309,hM 36 5 "renamed" "Uncurl.renamed" (.str "knotwise.moves" 430) (.ref 308)) ::
(nat_lit 310,⟨(.type "tuple"),none,(.seq #[(.str "name" 590)] 0),#[]⟩) ::
(nat_lit 311,⟨(.type "dict"),none,(.dict #[hE P "__module__" 534 (.str "knotwise.moves" 430),hE P "__firstlineno__" 538 (.int 132 537),hE P "__init__" 546 (.ref 274),hE P "told" 553 (.ref 281),hE P "refuse" 561 (.ref 288),hE P "done" 569 (.ref 295),hE P "back" 581 (.ref 302),hE P "renamed" 589 (.ref 309),hE P "__static_attributes__" 591 (.ref 310),hE P "__doc__" 592 .none] 2),#[]⟩) ::
(nat_lit 312,⟨(.type "type"),none,(.cls ⟨"Uncurl",[(.ref 256)],[(.ref 312),(.ref 256),(.type "object")],311,"Uncurl",.true,[],[],.false,none,.false⟩),#[(some (.ref 261)),none,(some (.str "Uncurl" 527)),(some (.str "Uncurl" 535)),(some (.builtin "object.__new__")),(some (.bool .true))]⟩) ::
(nat_lit 315,⟨(.type "tuple"),none,(.seq #[(.ref 256)] 0),#[]⟩) ::
(nat_lit 327,⟨(.type "code"),none,(.fields #[(.str "__init__" 607),(.str "Curl.__init__" 608),(.str "/claim/cut.py" 609),(.int 160 0),(.int 5 0),(.int 0 0),(.int 0 0),(.int 3 0),(.ref 322),(.bool .true),(.int 181 0),(.ref 323),.none,(.ref 324),(.ref 325),(.ref 326),(.int 615 0),(.int 160 0),(.str "/claim/cut.py" 616)]),#[]⟩) ::
(nat_lit 328,hM 37 0 "__init__" "Curl.__init__" (.str "knotwise.moves" 430) (.ref 327)) ::
(nat_lit 334,⟨(.type "code"),none,(.fields #[(.str "told" 618),(.str "Curl.told" 619),(.str "/claim/cut.py" 620),(.int 166 0),(.int 1 0),(.int 0 0),(.int 0 0),(.int 3 0),(.ref 329),(.bool .true),(.int 181 0),(.ref 330),.none,(.ref 331),(.ref 332),(.ref 333),(.int 622 0),(.int 166 0),(.str "/claim/cut.py" 623)]),#[]⟩) ::
(nat_lit 335,hM 37 1 "told" "Curl.told" (.str "knotwise.moves" 430) (.ref 334)) ::
(nat_lit 341,⟨(.type "code"),none,(.fields #[(.str "done" 625),(.str "Curl.done" 626),(.str "/claim/cut.py" 627),(.int 169 0),(.int 2 0),(.int 0 0),(.int 0 0),(.int 3 0),(.ref 336),(.bool .true),(.int 181 0),(.ref 337),.none,(.ref 338),(.ref 339),(.ref 340),(.int 631 0),(.int 169 0),(.str "/claim/cut.py" 632)]),#[]⟩) ::
(nat_lit 342,hM 37 2 "done" "Curl.done" (.str "knotwise.moves" 430) (.ref 341)) ::
(nat_lit 348,⟨(.type "code"),none,(.fields #[(.str "back" 634),(.str "Curl.back" 635),(.str "/claim/cut.py" 636),(.int 174 0),(.int 2 0),(.int 0 0),(.int 0 0),(.int 3 0),(.ref 343),(.bool .true),(.int 181 0),(.ref 344),.none,(.ref 345),(.ref 346),(.ref 347),(.int 639 0),(.int 174 0),(.str "/claim/cut.py" 640)]),#[]⟩) ::
(nat_lit 349,hM 37 3 "back" "Curl.back" (.str "knotwise.moves" 430) (.ref 348)) ::
(nat_lit 355,⟨(.type "code"),none,(.fields #[(.str "renamed" 642),(.str "Curl.renamed" 643),(.str "/claim/cut.py" 644),(.int 178 0),(.int 2 0),(.int 0 0),(.int 0 0),(.int 3 0),(.ref 350),(.bool .true),(.int 181 0),(.ref 351),.none,(.ref 352),(.ref 353),(.ref 354),(.int 647 0),(.int 178 0),(.str "/claim/cut.py" 648)]),#[]⟩) ::
(nat_lit 356,hM 37 4 "renamed" "Curl.renamed" (.str "knotwise.moves" 430) (.ref 355)) ::
(nat_lit 357,⟨(.type "tuple"),none,(.seq #[(.str "first" 650),(.str "hand" 651),(.str "name" 652),(.str "spot" 653)] 0),#[]⟩) ::
(nat_lit 358,⟨(.type "dict"),none,(.dict #[hE P "__module__" 602 (.str "knotwise.moves" 430),hE P "__firstlineno__" 606 (.int 158 605),hE P "__init__" 617 (.ref 328),hE P "told" 624 (.ref 335),hE P "done" 633 (.ref 342),hE P "back" 641 (.ref 349),hE P "renamed" 649 (.ref 356),hE P "__static_attributes__" 654 (.ref 357),hE P "__doc__" 655 .none] 2),#[]⟩) ::
(nat_lit 359,⟨(.type "type"),none,(.cls ⟨"Curl",[(.ref 256)],[(.ref 359),(.ref 256),(.type "object")],358,"Curl",.true,[],[],.false,none,.false⟩),#[(some (.ref 315)),none,(some (.str "Curl" 595)),(some (.str "Curl" 603)),(some (.builtin "object.__new__")),(some (.bool .true))]⟩) ::
(nat_lit 362,⟨(.type "tuple"),none,(.seq #[(.ref 256)] 0),#[]⟩) ::
(nat_lit 374,⟨(.type "code"),none,(.fields #[(.str "__init__" 670),(.str "Part.__init__" 671),(.str "/claim/cut.py" 672),(.int 182 0),(.int 3 0),(.int 0 0),(.int 0 0),(.int 3 0),(.ref 369),(.bool .true),(.int 181 0),(.ref 370),.none,(.ref 371),(.ref 372),(.ref 373),(.int 676 0),(.int 182 0),(.str "/claim/cut.py" 677)]),#[]⟩) ::
(nat_lit 375,hM 38 0 "__init__" "Part.__init__" (.str "knotwise.moves" 430) (.ref 374)) ::
(nat_lit 381,⟨(.type "code"),none,(.fields #[(.str "told" 679),(.str "Part.told" 680),(.str "/claim/cut.py" 681),(.int 186 0),(.int 1 0),(.int 0 0),(.int 0 0),(.int 3 0),(.ref 376),(.bool .true),(.int 181 0),(.ref 377),.none,(.ref 378),(.ref 379),(.ref 380),(.int 683 0),(.int 186 0),(.str "/claim/cut.py" 684)]),#[]⟩) ::
(nat_lit 382,hM 38 1 "told" "Part.told" (.str "knotwise.moves" 430) (.ref 381)) ::
(nat_lit 388,⟨(.type "code"),none,(.fields #[(.str "refuse" 686),(.str "Part.refuse" 687),(.str "/claim/cut.py" 688),(.int 189 0),(.int 2 0),(.int 0 0),(.int 0 0),(.int 3 0),(.ref 383),(.bool .true),(.int 181 0),(.ref 384),.none,(.ref 385),(.ref 386),(.ref 387),(.int 691 0),(.int 189 0),(.str "/claim/cut.py" 692)]),#[]⟩) ::
(nat_lit 389,hM 38 2 "refuse" "Part.refuse" (.str "knotwise.moves" 430) (.ref 388)) ::
(nat_lit 395,⟨(.type "code"),none,(.fields #[(.str "done" 694),(.str "Part.done" 695),(.str "/claim/cut.py" 696),(.int 193 0),(.int 2 0),(.int 0 0),(.int 0 0),(.int 3 0),(.ref 390),(.bool .true),(.int 181 0),(.ref 391),.none,(.ref 392),(.ref 393),(.ref 394),(.int 699 0),(.int 193 0),(.str "/claim/cut.py" 700)]),#[]⟩) ::
(nat_lit 396,hM 38 3 "done" "Part.done" (.str "knotwise.moves" 430) (.ref 395)) ::
(nat_lit 402,⟨(.type "code"),none,(.fields #[(.str "back" 702),(.str "Part.back" 703),(.str "/claim/cut.py" 704),(.int 197 0),(.int 2 0),(.int 0 0),(.int 0 0),(.int 3 0),(.ref 397),(.bool .true),(.int 181 0),(.ref 398),.none,(.ref 399),(.ref 400),(.ref 401),(.int 715 0),(.int 197 0),(.str "/claim/cut.py" 716)]),#[]⟩) ::
(nat_lit 403,hM 38 4 "back" "Part.back" (.str "knotwise.moves" 430) (.ref 402)) ::
(nat_lit 409,⟨(.type "code"),none,(.fields #[(.str "renamed" 718),(.str "Part.renamed" 719),(.str "/claim/cut.py" 720),(.int 209 0),(.int 2 0),(.int 0 0),(.int 0 0),(.int 3 0),(.ref 404),(.bool .true),(.int 181 0),(.ref 405),.none,(.ref 406),(.ref 407),(.ref 408),(.int 723 0),(.int 209 0),(.str "/claim/cut.py" 724)]),#[]⟩) ::
(nat_lit 410,hM 38 5 "renamed" "Part.renamed" (.str "knotwise.moves" 430) (.ref 409)) ::
(nat_lit 411,⟨(.type "tuple"),none,(.seq #[(.str "name" 726),(.str "second" 727)] 0),#[]⟩) ::
(nat_lit 412,⟨(.type "dict"),none,(.dict #[hE P "__module__" 665 (.str "knotwise.moves" 430),hE P "__firstlineno__" 669 (.int 180 668),hE P "__init__" 678 (.ref 375),hE P "told" 685 (.ref 382),hE P "refuse" 693 (.ref 389),hE P "done" 701 (.ref 396),hE P "back" 717 (.ref 403),hE P "renamed" 725 (.ref 410),hE P "__static_attributes__" 728 (.ref 411),hE P "__doc__" 729 .none] 2),#[]⟩) ::
(nat_lit 413,⟨(.type "type"),none,(.cls ⟨"Part",[(.ref 256)],[(.ref 413),(.ref 256),(.type "object")],412,"Part",.true,[],[],.false,none,.false⟩),#[(some (.ref 362)),none,(some (.str "Part" 658)),(some (.str "Part" 666)),(some (.builtin "object.__new__")),(some (.bool .true))]⟩) ::
(nat_lit 416,⟨(.type "tuple"),none,(.seq #[(.ref 256)] 0),#[]⟩) ::
(nat_lit 428,⟨(.type "code"),none,(.fields #[(.str "__init__" 744),(.str "Lay.__init__" 745),(.str "/claim/cut.py" 746),(.int 213 0),(.int 7 0),(.int 0 0),(.int 0 0),(.int 3 0),(.ref 423),(.bool .true),(.int 181 0),(.ref 424),.none,(.ref 425),(.ref 426),(.ref 427),(.int 754 0),(.int 213 0),(.str "/claim/cut.py" 755)]),#[]⟩) ::
(nat_lit 429,hM 39 0 "__init__" "Lay.__init__" (.str "knotwise.moves" 430) (.ref 428)) ::
(nat_lit 435,⟨(.type "code"),none,(.fields #[(.str "told" 757),(.str "Lay.told" 758),(.str "/claim/cut.py" 759),(.int 221 0),(.int 1 0),(.int 0 0),(.int 0 0),(.int 3 0),(.ref 430),(.bool .true),(.int 181 0),(.ref 431),.none,(.ref 432),(.ref 433),(.ref 434),(.int 761 0),(.int 221 0),(.str "/claim/cut.py" 762)]),#[]⟩) ::
(nat_lit 436,hM 39 1 "told" "Lay.told" (.str "knotwise.moves" 430) (.ref 435)) ::
(nat_lit 442,⟨(.type "code"),none,(.fields #[(.str "passings" 764),(.str "Lay.passings" 765),(.str "/claim/cut.py" 766),(.int 224 0),(.int 2 0),(.int 0 0),(.int 0 0),(.int 3 0),(.ref 437),(.bool .true),(.int 181 0),(.ref 438),.none,(.ref 439),(.ref 440),(.ref 441),(.int 769 0),(.int 224 0),(.str "/claim/cut.py" 770)]),#[]⟩) ::
(nat_lit 443,hM 39 2 "passings" "Lay.passings" (.str "knotwise.moves" 430) (.ref 442)) ::
(nat_lit 449,⟨(.type "code"),none,(.fields #[(.str "done" 772),(.str "Lay.done" 773),(.str "/claim/cut.py" 774),(.int 227 0),(.int 2 0),(.int 0 0),(.int 0 0),(.int 3 0),(.ref 444),(.bool .true),(.int 181 0),(.ref 445),.none,(.ref 446),(.ref 447),(.ref 448),(.int 779 0),(.int 227 0),(.str "/claim/cut.py" 780)]),#[]⟩) ::
(nat_lit 450,hM 39 3 "done" "Lay.done" (.str "knotwise.moves" 430) (.ref 449)) ::
(nat_lit 456,⟨(.type "code"),none,(.fields #[(.str "back" 782),(.str "Lay.back" 783),(.str "/claim/cut.py" 784),(.int 235 0),(.int 2 0),(.int 0 0),(.int 0 0),(.int 3 0),(.ref 451),(.bool .true),(.int 181 0),(.ref 452),.none,(.ref 453),(.ref 454),(.ref 455),(.int 787 0),(.int 235 0),(.str "/claim/cut.py" 788)]),#[]⟩) ::
(nat_lit 457,hM 39 4 "back" "Lay.back" (.str "knotwise.moves" 430) (.ref 456)) ::
(nat_lit 463,⟨(.type "code"),none,(.fields #[(.str "renamed" 790),(.str "Lay.renamed" 791),(.str "/claim/cut.py" 792),(.int 239 0),(.int 2 0),(.int 0 0),(.int 0 0),(.int 3 0),(.ref 458),(.bool .true),(.int 181 0),(.ref 459),.none,(.ref 460),(.ref 461),(.ref 462),(.int 799 0),(.int 239 0),(.str "/claim/cut.py" 800)]),#[]⟩) ::
(nat_lit 464,hM 39 5 "renamed" "Lay.renamed" (.str "knotwise.moves" 430) (.ref 463)) ::
(nat_lit 465,⟨(.type "tuple"),none,(.seq #[(.str "hand" 802),(.str "name" 803),(.str "over" 804),(.str "second" 805),(.str "turned" 806),(.str "under" 807)] 0),#[]⟩) ::
(nat_lit 466,⟨(.type "dict"),none,(.dict #[hE P "__module__" 739 (.str "knotwise.moves" 430),hE P "__firstlineno__" 743 (.int 211 742),hE P "__init__" 756 (.ref 429),hE P "told" 763 (.ref 436),hE P "passings" 771 (.ref 443),hE P "done" 781 (.ref 450),hE P "back" 789 (.ref 457),hE P "renamed" 801 (.ref 464),hE P "__static_attributes__" 808 (.ref 465),hE P "__doc__" 809 .none] 2),#[]⟩) ::
(nat_lit 467,⟨(.type "type"),none,(.cls ⟨"Lay",[(.ref 256)],[(.ref 467),(.ref 256),(.type "object")],466,"Lay",.true,[],[],.false,none,.false⟩),#[(some (.ref 416)),none,(some (.str "Lay" 732)),(some (.str "Lay" 740)),(some (.builtin "object.__new__")),(some (.bool .true))]⟩) ::
(nat_lit 470,⟨(.type "tuple"),none,(.seq #[(.ref 256)] 0),#[]⟩) ::
(nat_lit 482,⟨(.type "code"),none,(.fields #[(.str "__init__" 824),(.str "Slide.__init__" 825),(.str "/claim/cut.py" 826),(.int 247 0),(.int 5 0),(.int 0 0),(.int 0 0),(.int 3 0),(.ref 477),(.bool .true),(.int 181 0),(.ref 478),.none,(.ref 479),(.ref 480),(.ref 481),(.int 832 0),(.int 247 0),(.str "/claim/cut.py" 833)]),#[]⟩) ::
(nat_lit 483,hM 40 0 "__init__" "Slide.__init__" (.str "knotwise.moves" 430) (.ref 482)) ::
(nat_lit 489,⟨(.type "code"),none,(.fields #[(.str "told" 835),(.str "Slide.told" 836),(.str "/claim/cut.py" 837),(.int 253 0),(.int 1 0),(.int 0 0),(.int 0 0),(.int 3 0),(.ref 484),(.bool .true),(.int 181 0),(.ref 485),.none,(.ref 486),(.ref 487),(.ref 488),(.int 839 0),(.int 253 0),(.str "/claim/cut.py" 840)]),#[]⟩) ::
(nat_lit 490,hM 40 1 "told" "Slide.told" (.str "knotwise.moves" 430) (.ref 489)) ::
(nat_lit 496,⟨(.type "code"),none,(.fields #[(.str "refuse" 842),(.str "Slide.refuse" 843),(.str "/claim/cut.py" 844),(.int 256 0),(.int 2 0),(.int 0 0),(.int 0 0),(.int 3 0),(.ref 491),(.bool .true),(.int 181 0),(.ref 492),.none,(.ref 493),(.ref 494),(.ref 495),(.int 847 0),(.int 256 0),(.str "/claim/cut.py" 848)]),#[]⟩) ::
(nat_lit 497,hM 40 2 "refuse" "Slide.refuse" (.str "knotwise.moves" 430) (.ref 496)) ::
(nat_lit 503,⟨(.type "code"),none,(.fields #[(.str "done" 850),(.str "Slide.done" 851),(.str "/claim/cut.py" 852),(.int 260 0),(.int 2 0),(.int 0 0),(.int 0 0),(.int 3 0),(.ref 498),(.bool .true),(.int 181 0),(.ref 499),.none,(.ref 500),(.ref 501),(.ref 502),(.int 855 0),(.int 260 0),(.str "/claim/cut.py" 856)]),#[]⟩) ::
(nat_lit 504,hM 40 3 "done" "Slide.done" (.str "knotwise.moves" 430) (.ref 503)) ::
(nat_lit 510,⟨(.type "code"),none,(.fields #[(.str "back" 858),(.str "Slide.back" 859),(.str "/claim/cut.py" 860),(.int 264 0),(.int 2 0),(.int 0 0),(.int 0 0),(.int 3 0),(.ref 505),(.bool .true),(.int 181 0),(.ref 506),.none,(.ref 507),(.ref 508),(.ref 509),(.int 863 0),(.int 264 0),(.str "/claim/cut.py" 864)]),#[]⟩) ::
(nat_lit 511,hM 40 4 "back" "Slide.back" (.str "knotwise.moves" 430) (.ref 510)) ::
(nat_lit 517,⟨(.type "code"),none,(.fields #[(.str "renamed" 866),(.str "Slide.renamed" 867),(.str "/claim/cut.py" 868),(.int 268 0),(.int 2 0),(.int 0 0),(.int 0 0),(.int 3 0),(.ref 512),(.bool .true),(.int 181 0),(.ref 513),.none,(.ref 514),(.ref 515),(.ref 516),(.int 873 0),(.int 268 0),(.str "/claim/cut.py" 874)]),#[]⟩) ::
(nat_lit 518,hM 40 5 "renamed" "Slide.renamed" (.str "knotwise.moves" 430) (.ref 517)) ::
(nat_lit 519,⟨(.type "tuple"),none,(.seq #[(.str "name" 876),(.str "second" 877),(.str "third" 878),(.str "turn" 879)] 0),#[]⟩) ::
(nat_lit 520,⟨(.type "dict"),none,(.dict #[hE P "__module__" 819 (.str "knotwise.moves" 430),hE P "__firstlineno__" 823 (.int 245 822),hE P "__init__" 834 (.ref 483),hE P "told" 841 (.ref 490),hE P "refuse" 849 (.ref 497),hE P "done" 857 (.ref 504),hE P "back" 865 (.ref 511),hE P "renamed" 875 (.ref 518),hE P "__static_attributes__" 880 (.ref 519),hE P "__doc__" 881 .none] 2),#[]⟩) ::
(nat_lit 521,⟨(.type "type"),none,(.cls ⟨"Slide",[(.ref 256)],[(.ref 521),(.ref 256),(.type "object")],520,"Slide",.true,[],[],.false,none,.false⟩),#[(some (.ref 470)),none,(some (.str "Slide" 812)),(some (.str "Slide" 820)),(some (.builtin "object.__new__")),(some (.bool .true))]⟩) ::
(nat_lit 529,hD "move_of" 884 272 1 524 (hR 526) (hR 527) (hR 528) 889) ::
(nat_lit 530,hF 41 "move_of" (.str "knotwise.moves" 430) (.ref 529)) ::
(nat_lit 536,hD "_law_cell_at" 893 285 2 531 (hR 533) (hR 534) (hR 535) 899) ::
(nat_lit 537,hF 43 "_law_cell_at" (.str "law_knotwise_k21_curls_there_and_back" 891) (.ref 536)) ::
(nat_lit 543,hD "_law_whole" 901 289 1 538 (hR 540) (hR 541) (hR 542) 906) ::
(nat_lit 544,hF 44 "_law_whole" (.str "law_knotwise_k21_curls_there_and_back" 891) (.ref 543)) ::
(nat_lit 550,hD "_law_mixed" 908 291 1 545 (hR 547) (hR 548) (hR 549) 913) ::
(nat_lit 551,hF 45 "_law_mixed" (.str "law_knotwise_k21_curls_there_and_back" 891) (.ref 550)) ::
(nat_lit 557,hD "_law_names" 915 293 1 552 (hR 554) (hR 555) (hR 556) 923) ::
(nat_lit 558,hF 46 "_law_names" (.str "law_knotwise_k21_curls_there_and_back" 891) (.ref 557)) ::
(nat_lit 564,hD "_law_free" 925 300 2 559 (hR 561) (hR 562) (hR 563) 932) ::
(nat_lit 565,hF 47 "_law_free" (.str "law_knotwise_k21_curls_there_and_back" 891) (.ref 564)) ::
(nat_lit 569,hD "_law_crossed" 934 305 2 566 hN hN (hR 568) 938) ::
(nat_lit 570,hF 48 "_law_crossed" (.str "law_knotwise_k21_curls_there_and_back" 891) (.ref 569)) ::
(nat_lit 576,hD "_law_spots" 940 317 1 571 (hR 573) (hR 574) (hR 575) 948) ::
(nat_lit 577,hF 49 "_law_spots" (.str "law_knotwise_k21_curls_there_and_back" 891) (.ref 576)) ::
(nat_lit 583,hD "_law_put" 950 325 3 578 (hR 580) (hR 581) (hR 582) 961) ::
(nat_lit 584,hF 50 "_law_put" (.str "law_knotwise_k21_curls_there_and_back" 891) (.ref 583)) ::
(nat_lit 590,hD "_law_begun" 963 337 1 585 (hR 587) (hR 588) (hR 589) 971) ::
(nat_lit 591,hF 51 "_law_begun" (.str "law_knotwise_k21_curls_there_and_back" 891) (.ref 590)) ::
(nat_lit 597,hD "_law_wholes" 973 345 2 592 (hR 594) (hR 595) (hR 596) 980) ::
(nat_lit 598,hF 52 "_law_wholes" (.str "law_knotwise_k21_curls_there_and_back" 891) (.ref 597)) ::
(nat_lit 604,hD "_law_same" 982 352 2 599 (hR 601) (hR 602) (hR 603) 990) ::
(nat_lit 605,hF 53 "_law_same" (.str "law_knotwise_k21_curls_there_and_back" 891) (.ref 604)) ::
(nat_lit 611,hD "_law_tells" 992 362 2 606 (hR 608) (hR 609) (hR 610) 999) ::
(nat_lit 612,hF 54 "_law_tells" (.str "law_knotwise_k21_curls_there_and_back" 891) (.ref 611)) ::
(nat_lit 618,hD "_law_form" 1001 374 3 613 (hR 615) (hR 616) (hR 617) 1009) ::
(nat_lit 619,hF 55 "_law_form" (.str "law_knotwise_k21_curls_there_and_back" 891) (.ref 618)) ::
(nat_lit 625,hD "_law_curls_to" 1011 386 4 620 (hR 622) (hR 623) (hR 624) 1020) ::
(nat_lit 626,hF 56 "_law_curls_to" (.str "law_knotwise_k21_curls_there_and_back" 891) (.ref 625)) ::
(nat_lit 632,hD "_law_behind" 1022 393 2 627 (hR 629) (hR 630) (hR 631) 1029) ::
(nat_lit 633,hF 57 "_law_behind" (.str "law_knotwise_k21_curls_there_and_back" 891) (.ref 632)) ::
(nat_lit 637,hD "_law_there" 1031 396 3 634 hN hN (hR 636) 1035) ::
(nat_lit 638,hF 58 "_law_there" (.str "law_knotwise_k21_curls_there_and_back" 891) (.ref 637)) ::
(nat_lit 644,hD "_law_back" 1037 418 3 639 (hR 641) (hR 642) (hR 643) 1046) ::
(nat_lit 645,hF 59 "_law_back" (.str "law_knotwise_k21_curls_there_and_back" 891) (.ref 644)) ::
(nat_lit 649,hD "_law_other" 1048 422 1 646 hN hN (hR 648) 1052) ::
(nat_lit 650,hF 60 "_law_other" (.str "law_knotwise_k21_curls_there_and_back" 891) (.ref 649)) ::
(nat_lit 654,hD "law" 1054 427 1 651 hN hN (hR 653) 1058) ::
(nat_lit 655,hF 61 "law" (.str "law_knotwise_k21_curls_there_and_back" 891) (.ref 654)) :: []
noncomputable def hA:List Addr:=[3,15,22,23,24,25,28,35,36,37,40,47,48,49,52,59,60,61,64,71,72,73,76,83,84,85,88,95,96,97,105,106,112,113,117,118,122,123,129,130,134,135,141,142,148,149,155,156,162,163,169,170,176,177,183,184,188,189,195,196,202,203,209,210,216,217,221,222,226,227,233,234,238,239,245,246,254,255,256,257,258,261,273,274,280,281,287,288,294,295,301,302,308,309,310,311,312,315,327,328,334,335,341,342,348,349,355,356,357,358,359,362,374,375,381,382,388,389,395,396,402,403,409,410,411,412,413,416,428,429,435,436,442,443,449,450,456,457,463,464,465,466,467,470,482,483,489,490,496,497,503,504,510,511,517,518,519,520,521,529,530,536,537,543,544,550,551,557,558,564,565,569,570,576,577,583,584,590,591,597,598,604,605,611,612,618,619,625,626,632,633,637,638,644,645,649,650,654,655]
noncomputable abbrev hG(st:Stmt)(n q:Str)(g b:Addr):Obj:=⟨.none,none,.func ⟨n,q,jM st,.stmts (ik st),aT st,g,[],.none,.none,.none,.none,none,.none,.none,b⟩,#[]⟩
noncomputable def cE:Env:={ scope:=PySem.Challenge.rw_knotwise_k21_curls_there_and_back.row.prog.main.scope,locals:=mainNs,globals:=mainNs,cells:=[],code:=(.ref 13),frame:=some 14 }
noncomputable def cB:List Stmt:=behindTheImports PySem.Challenge.rw_knotwise_k21_curls_there_and_back.row.prog
noncomputable def cC:Code:=.body cB cE
noncomputable def cQ:Pos:=⟨0,0,0,0⟩
noncomputable def cL0(P:sG):List Obj:=boot_o_0 P ::
boot_o_1 P ::
boot_o_2 P ::
boot_o_3 P ::
boot_o_4 P ::
boot_o_5 P ::
boot_o_6 P ::
boot_o_7 P ::
boot_o_8 P ::
boot_o_9 P ::
La P ::
⟨(.type "tuple"),none,(.seq #[] 0),#[]⟩ ::
⟨.none,none,(.fields #[]),#[]⟩ ::
hC "<module>" 182 [hI 1,hI 0,hI 0,hI 0,hI 0,hR 11,(.bool .false),hI 181,hR 12,hN,hN,hN,hN,hI 185,hI 1,hS 186] ::
⟨(.type "frame"),none,.plain,#[(some (.ref 13)),(some (.ref 3)),(some (.ref 3)),none,(some (.str "__main__" 164)),none,(some (.ref 0))]⟩ :: []
noncomputable def Zp(w:World)(os:lD):nG:=⟨K2.bt (cL0 w.params),15,{},ko [],iS,187,os⟩
noncomputable def cL1(P:sG):List Obj:=boot_o_0 P ::
boot_o_1 P ::
boot_o_2 P ::
boot_o_3 P ::
boot_o_4 P ::
boot_o_5 P ::
boot_o_6 P ::
boot_o_7 P ::
boot_o_8 P ::
boot_o_9 P ::
La P ::
⟨(.type "tuple"),none,(.seq #[] 0),#[]⟩ ::
⟨.none,none,(.fields #[]),#[]⟩ ::
hC "<module>" 182 [hI 1,hI 0,hI 0,hI 0,hI 0,hR 11,(.bool .false),hI 181,hR 12,hN,hN,hN,hN,hI 185,hI 1,hS 186] ::
⟨(.type "frame"),none,.plain,#[(some (.ref 13)),(some (.ref 3)),(some (.ref 3)),none,(some (.str "__main__" 164)),none,(some (.ref 0))]⟩ :: []
noncomputable def Zo(w:World)(os:lD):nG:=⟨K2.bt (cL1 w.params),15,{},ko [],iS,187,os⟩
noncomputable def cL2(P:sG):List Obj:=boot_o_0 P ::
boot_o_1 P ::
boot_o_2 P ::
⟨(.type "dict"),none,(.dict #[hE P "__name__" 165 (.str "knotwise.errors" 187),hE P "__doc__" 166 .none,hE P "__package__" 167 .none,hE P "__loader__" 168 (.builtin "__main__.__loader__#opaque"),hE P "__spec__" 169 .none,hE P "__annotations__" 170 (.ref 6),hE P "__builtins__" 171 (.ref 4),hE P "__file__" 173 (.str "/claim/cut.py" 172),hE P "__cached__" 174 .none,hE P "KnotError" 206 (.ref 24),hE P "NoName" 222 (.ref 37),hE P "NameTaken" 238 (.ref 49),hE P "NoSpot" 254 (.ref 61),hE P "TooMany" 270 (.ref 73),hE P "NoFit" 286 (.ref 85)] 15),#[]⟩ ::
boot_o_4 P ::
boot_o_5 P ::
boot_o_6 P ::
boot_o_7 P ::
boot_o_8 P ::
boot_o_9 P ::
La P ::
⟨(.type "tuple"),none,(.seq #[] 0),#[]⟩ ::
⟨.none,none,(.fields #[(.int 2 0),(.int 0 0),(.ref 20),(.int 4 0),(.int 0 0),(.ref 33),(.int 6 0),(.int 0 0),(.ref 45),(.int 8 0),(.int 0 0),(.ref 57),(.int 10 0),(.int 0 0),(.ref 69),(.int 12 0),(.int 0 0),(.ref 81)]),#[]⟩ ::
hC "<module>" 182 [hI 1,hI 0,hI 0,hI 0,hI 0,hR 11,(.bool .false),hI 181,hR 12,hN,hN,hN,hN,hI 185,hI 1,hS 186] ::
⟨(.type "frame"),none,.plain,#[(some (.ref 13)),(some (.ref 3)),(some (.ref 3)),none,(some (.str "__main__" 164)),none,(some (.ref 0))]⟩ ::
⟨(.type "tuple"),none,(.seq #[(.type "ValueError")] 0),#[]⟩ ::
⟨(.type "builtin_function_or_method"),none,(.fields #[(.builtin "type.__prepare__"),(.type "type")]),#[]⟩ ::
⟨(.type "dict"),none,(.dict #[hE P "__module__" 196 (.str "knotwise.errors" 187),hE P "__qualname__" 198 (.str "KnotError" 197),hE P "__firstlineno__" 200 (.int 2 199),hE P "__static_attributes__" 201 (.ref 22)] 4),#[]⟩ ::
⟨(.type "tuple"),none,(.seq #[] 0),#[]⟩ ::
⟨.none,none,(.fields #[]),#[]⟩ ::
hC "KnotError" 191 [hI 2,hI 0,hI 0,hI 0,hI 0,hR 18,(.bool .false),hI 181,hR 19,hN,hN,hN,hN,hI 194,hI 2,hS 195] ::
⟨(.type "frame"),none,.plain,#[(some (.ref 20)),(some (.ref 3)),(some (.ref 17)),none,(some (.str "knotwise.errors" 187)),none,(some (.ref 0))]⟩ ::
⟨(.type "tuple"),none,(.seq #[] 0),#[]⟩ ::
⟨(.type "dict"),none,(.dict #[hE P "__module__" 196 (.str "knotwise.errors" 187),hE P "__firstlineno__" 200 (.int 2 199),hE P "__static_attributes__" 201 (.ref 22),hE P "__weakref__" 203 (.ref 25),hE P "__doc__" 204 .none] 3),#[]⟩ ::
⟨(.type "type"),none,(.cls ⟨"KnotError",[(.type "ValueError")],[(.ref 24),(.type "ValueError"),(.type "Exception"),(.type "BaseException"),(.type "object")],23,"KnotError",.true,[],[(.ref 37),(.ref 49),(.ref 61),(.ref 73),(.ref 85)],.false,none,.false⟩),#[(some (.ref 15)),none,(some (.str "KnotError" 189)),(some (.str "KnotError" 197)),(some (.builtin "ValueError.__new__")),(some (.bool .true))]⟩ ::
⟨(.type "getset_descriptor"),none,(.fields #[(.str "__weakref__" 202),(.ref 24),(.builtin "ExceptionGroup.__weakref__"),.none]),#[]⟩ ::
⟨(.type "super"),none,(.fields #[(.ref 24),(.ref 24),(.ref 24)]),#[]⟩ ::
⟨(.type "builtin_function_or_method"),none,(.fields #[(.builtin "object.__init_subclass__"),(.ref 24)]),#[]⟩ ::
⟨(.type "tuple"),none,(.seq #[(.ref 24)] 0),#[]⟩ ::
⟨(.type "builtin_function_or_method"),none,(.fields #[(.builtin "type.__prepare__"),(.type "type")]),#[]⟩ ::
⟨(.type "dict"),none,(.dict #[hE P "__module__" 214 (.str "knotwise.errors" 187),hE P "__qualname__" 216 (.str "NoName" 215),hE P "__firstlineno__" 218 (.int 4 217),hE P "__static_attributes__" 219 (.ref 35)] 4),#[]⟩ ::
⟨(.type "tuple"),none,(.seq #[] 0),#[]⟩ ::
⟨.none,none,(.fields #[]),#[]⟩ ::
hC "NoName" 209 [hI 4,hI 0,hI 0,hI 0,hI 0,hR 31,(.bool .false),hI 181,hR 32,hN,hN,hN,hN,hI 212,hI 4,hS 213] ::
⟨(.type "frame"),none,.plain,#[(some (.ref 33)),(some (.ref 3)),(some (.ref 30)),none,(some (.str "knotwise.errors" 187)),none,(some (.ref 0))]⟩ ::
⟨(.type "tuple"),none,(.seq #[] 0),#[]⟩ ::
⟨(.type "dict"),none,(.dict #[hE P "__module__" 214 (.str "knotwise.errors" 187),hE P "__firstlineno__" 218 (.int 4 217),hE P "__static_attributes__" 219 (.ref 35),hE P "__doc__" 220 .none] 2),#[]⟩ ::
⟨(.type "type"),none,(.cls ⟨"NoName",[(.ref 24)],[(.ref 37),(.ref 24),(.type "ValueError"),(.type "Exception"),(.type "BaseException"),(.type "object")],36,"NoName",.true,[],[],.false,none,.false⟩),#[(some (.ref 28)),none,(some (.str "NoName" 207)),(some (.str "NoName" 215)),(some (.builtin "ValueError.__new__")),(some (.bool .true))]⟩ ::
⟨(.type "super"),none,(.fields #[(.ref 37),(.ref 37),(.ref 37)]),#[]⟩ ::
⟨(.type "builtin_function_or_method"),none,(.fields #[(.builtin "object.__init_subclass__"),(.ref 37)]),#[]⟩ ::
⟨(.type "tuple"),none,(.seq #[(.ref 24)] 0),#[]⟩ ::
⟨(.type "builtin_function_or_method"),none,(.fields #[(.builtin "type.__prepare__"),(.type "type")]),#[]⟩ ::
⟨(.type "dict"),none,(.dict #[hE P "__module__" 230 (.str "knotwise.errors" 187),hE P "__qualname__" 232 (.str "NameTaken" 231),hE P "__firstlineno__" 234 (.int 6 233),hE P "__static_attributes__" 235 (.ref 47)] 4),#[]⟩ ::
⟨(.type "tuple"),none,(.seq #[] 0),#[]⟩ ::
⟨.none,none,(.fields #[]),#[]⟩ ::
hC "NameTaken" 225 [hI 6,hI 0,hI 0,hI 0,hI 0,hR 43,(.bool .false),hI 181,hR 44,hN,hN,hN,hN,hI 228,hI 6,hS 229] ::
⟨(.type "frame"),none,.plain,#[(some (.ref 45)),(some (.ref 3)),(some (.ref 42)),none,(some (.str "knotwise.errors" 187)),none,(some (.ref 0))]⟩ ::
⟨(.type "tuple"),none,(.seq #[] 0),#[]⟩ ::
⟨(.type "dict"),none,(.dict #[hE P "__module__" 230 (.str "knotwise.errors" 187),hE P "__firstlineno__" 234 (.int 6 233),hE P "__static_attributes__" 235 (.ref 47),hE P "__doc__" 236 .none] 2),#[]⟩ ::
⟨(.type "type"),none,(.cls ⟨"NameTaken",[(.ref 24)],[(.ref 49),(.ref 24),(.type "ValueError"),(.type "Exception"),(.type "BaseException"),(.type "object")],48,"NameTaken",.true,[],[],.false,none,.false⟩),#[(some (.ref 40)),none,(some (.str "NameTaken" 223)),(some (.str "NameTaken" 231)),(some (.builtin "ValueError.__new__")),(some (.bool .true))]⟩ ::
⟨(.type "super"),none,(.fields #[(.ref 49),(.ref 49),(.ref 49)]),#[]⟩ ::
⟨(.type "builtin_function_or_method"),none,(.fields #[(.builtin "object.__init_subclass__"),(.ref 49)]),#[]⟩ ::
⟨(.type "tuple"),none,(.seq #[(.ref 24)] 0),#[]⟩ ::
⟨(.type "builtin_function_or_method"),none,(.fields #[(.builtin "type.__prepare__"),(.type "type")]),#[]⟩ ::
⟨(.type "dict"),none,(.dict #[hE P "__module__" 246 (.str "knotwise.errors" 187),hE P "__qualname__" 248 (.str "NoSpot" 247),hE P "__firstlineno__" 250 (.int 8 249),hE P "__static_attributes__" 251 (.ref 59)] 4),#[]⟩ ::
⟨(.type "tuple"),none,(.seq #[] 0),#[]⟩ ::
⟨.none,none,(.fields #[]),#[]⟩ ::
hC "NoSpot" 241 [hI 8,hI 0,hI 0,hI 0,hI 0,hR 55,(.bool .false),hI 181,hR 56,hN,hN,hN,hN,hI 244,hI 8,hS 245] ::
⟨(.type "frame"),none,.plain,#[(some (.ref 57)),(some (.ref 3)),(some (.ref 54)),none,(some (.str "knotwise.errors" 187)),none,(some (.ref 0))]⟩ ::
⟨(.type "tuple"),none,(.seq #[] 0),#[]⟩ ::
⟨(.type "dict"),none,(.dict #[hE P "__module__" 246 (.str "knotwise.errors" 187),hE P "__firstlineno__" 250 (.int 8 249),hE P "__static_attributes__" 251 (.ref 59),hE P "__doc__" 252 .none] 2),#[]⟩ ::
⟨(.type "type"),none,(.cls ⟨"NoSpot",[(.ref 24)],[(.ref 61),(.ref 24),(.type "ValueError"),(.type "Exception"),(.type "BaseException"),(.type "object")],60,"NoSpot",.true,[],[],.false,none,.false⟩),#[(some (.ref 52)),none,(some (.str "NoSpot" 239)),(some (.str "NoSpot" 247)),(some (.builtin "ValueError.__new__")),(some (.bool .true))]⟩ ::
⟨(.type "super"),none,(.fields #[(.ref 61),(.ref 61),(.ref 61)]),#[]⟩ ::
⟨(.type "builtin_function_or_method"),none,(.fields #[(.builtin "object.__init_subclass__"),(.ref 61)]),#[]⟩ ::
⟨(.type "tuple"),none,(.seq #[(.ref 24)] 0),#[]⟩ ::
⟨(.type "builtin_function_or_method"),none,(.fields #[(.builtin "type.__prepare__"),(.type "type")]),#[]⟩ ::
⟨(.type "dict"),none,(.dict #[hE P "__module__" 262 (.str "knotwise.errors" 187),hE P "__qualname__" 264 (.str "TooMany" 263),hE P "__firstlineno__" 266 (.int 10 265),hE P "__static_attributes__" 267 (.ref 71)] 4),#[]⟩ ::
⟨(.type "tuple"),none,(.seq #[] 0),#[]⟩ ::
⟨.none,none,(.fields #[]),#[]⟩ ::
hC "TooMany" 257 [hI 10,hI 0,hI 0,hI 0,hI 0,hR 67,(.bool .false),hI 181,hR 68,hN,hN,hN,hN,hI 260,hI 10,hS 261] ::
⟨(.type "frame"),none,.plain,#[(some (.ref 69)),(some (.ref 3)),(some (.ref 66)),none,(some (.str "knotwise.errors" 187)),none,(some (.ref 0))]⟩ ::
⟨(.type "tuple"),none,(.seq #[] 0),#[]⟩ ::
⟨(.type "dict"),none,(.dict #[hE P "__module__" 262 (.str "knotwise.errors" 187),hE P "__firstlineno__" 266 (.int 10 265),hE P "__static_attributes__" 267 (.ref 71),hE P "__doc__" 268 .none] 2),#[]⟩ ::
⟨(.type "type"),none,(.cls ⟨"TooMany",[(.ref 24)],[(.ref 73),(.ref 24),(.type "ValueError"),(.type "Exception"),(.type "BaseException"),(.type "object")],72,"TooMany",.true,[],[],.false,none,.false⟩),#[(some (.ref 64)),none,(some (.str "TooMany" 255)),(some (.str "TooMany" 263)),(some (.builtin "ValueError.__new__")),(some (.bool .true))]⟩ ::
⟨(.type "super"),none,(.fields #[(.ref 73),(.ref 73),(.ref 73)]),#[]⟩ ::
⟨(.type "builtin_function_or_method"),none,(.fields #[(.builtin "object.__init_subclass__"),(.ref 73)]),#[]⟩ ::
⟨(.type "tuple"),none,(.seq #[(.ref 24)] 0),#[]⟩ ::
⟨(.type "builtin_function_or_method"),none,(.fields #[(.builtin "type.__prepare__"),(.type "type")]),#[]⟩ ::
⟨(.type "dict"),none,(.dict #[hE P "__module__" 278 (.str "knotwise.errors" 187),hE P "__qualname__" 280 (.str "NoFit" 279),hE P "__firstlineno__" 282 (.int 12 281),hE P "__static_attributes__" 283 (.ref 83)] 4),#[]⟩ ::
⟨(.type "tuple"),none,(.seq #[] 0),#[]⟩ ::
⟨.none,none,(.fields #[]),#[]⟩ ::
hC "NoFit" 273 [hI 12,hI 0,hI 0,hI 0,hI 0,hR 79,(.bool .false),hI 181,hR 80,hN,hN,hN,hN,hI 276,hI 12,hS 277] ::
⟨(.type "frame"),none,.plain,#[(some (.ref 81)),(some (.ref 3)),(some (.ref 78)),none,(some (.str "knotwise.errors" 187)),none,(some (.ref 0))]⟩ ::
⟨(.type "tuple"),none,(.seq #[] 0),#[]⟩ ::
⟨(.type "dict"),none,(.dict #[hE P "__module__" 278 (.str "knotwise.errors" 187),hE P "__firstlineno__" 282 (.int 12 281),hE P "__static_attributes__" 283 (.ref 83),hE P "__doc__" 284 .none] 2),#[]⟩ ::
⟨(.type "type"),none,(.cls ⟨"NoFit",[(.ref 24)],[(.ref 85),(.ref 24),(.type "ValueError"),(.type "Exception"),(.type "BaseException"),(.type "object")],84,"NoFit",.true,[],[],.false,none,.false⟩),#[(some (.ref 76)),none,(some (.str "NoFit" 271)),(some (.str "NoFit" 279)),(some (.builtin "ValueError.__new__")),(some (.bool .true))]⟩ ::
⟨(.type "super"),none,(.fields #[(.ref 85),(.ref 85),(.ref 85)]),#[]⟩ ::
⟨(.type "builtin_function_or_method"),none,(.fields #[(.builtin "object.__init_subclass__"),(.ref 85)]),#[]⟩ :: []
noncomputable def Zn(w:World)(os:lD):nG:=⟨K2.bt (cL2 w.params),88,{},ko [],iS,287,os⟩
noncomputable def cL3(P:sG):List Obj:=boot_o_0 P ::
boot_o_1 P ::
boot_o_2 P ::
⟨(.type "dict"),none,(.dict #[hE P "__name__" 165 (.str "knotwise.moves" 430),hE P "__doc__" 166 .none,hE P "__package__" 167 .none,hE P "__loader__" 168 (.builtin "__main__.__loader__#opaque"),hE P "__spec__" 169 .none,hE P "__annotations__" 170 (.ref 6),hE P "__builtins__" 171 (.ref 4),hE P "__file__" 173 (.str "/claim/cut.py" 172),hE P "__cached__" 174 .none,hE P "KnotError" 206 (.ref 24),hE P "NoName" 222 (.ref 37),hE P "NameTaken" 238 (.ref 49),hE P "NoSpot" 254 (.ref 61),hE P "TooMany" 270 (.ref 73),hE P "NoFit" 286 (.ref 85),hE P "NoMove" 302 (.ref 97),hE P "MOST_CROSSINGS" 306 (.int 12 305),hE P "passings_of" 315 (.ref 106),hE P "seated" 323 (.ref 113),hE P "seated_rows" 329 (.ref 118),hE P "names_of" 335 (.ref 123),hE P "hand_of" 344 (.ref 130),hE P "spots_on" 350 (.ref 135),hE P "next_of" 361 (.ref 142),hE P "string_of" 371 (.ref 149),hE P "neighbours" 382 (.ref 156),hE P "uncurl_fits" 390 (.ref 163),hE P "part_fits" 400 (.ref 170),hE P "in_turn" 409 (.ref 177),hE P "slide_pairs" 423 (.ref 184),hE P "slide_fits" 429 (.ref 189),hE P "refuse_unknown" 441 (.ref 196),hE P "refuse_unfit" 448 (.ref 203),hE P "refuse_new" 458 (.ref 210),hE P "with_put" 470 (.ref 217),hE P "taken_out" 476 (.ref 222),hE P "spot_ahead" 482 (.ref 227),hE P "first_in_turn" 492 (.ref 234),hE P "with_changed" 498 (.ref 239),hE P "renamed_spot" 506 (.ref 246),hE P "Move" 526 (.ref 256),hE P "Uncurl" 594 (.ref 312)] 42),#[]⟩ ::
boot_o_4 P ::
boot_o_5 P ::
boot_o_6 P ::
boot_o_7 P ::
boot_o_8 P ::
boot_o_9 P ::
La P ::
⟨(.type "tuple"),none,(.seq #[] 0),#[]⟩ ::
⟨.none,none,(.fields #[(.int 2 0),(.int 0 0),(.ref 20),(.int 4 0),(.int 0 0),(.ref 33),(.int 6 0),(.int 0 0),(.ref 45),(.int 8 0),(.int 0 0),(.ref 57),(.int 10 0),(.int 0 0),(.ref 69),(.int 12 0),(.int 0 0),(.ref 81),(.int 14 0),(.int 0 0),(.ref 93),(.int 18 0),(.int 0 0),(.ref 105),(.int 23 0),(.int 0 0),(.ref 112),(.int 28 0),(.int 0 0),(.ref 117),(.int 30 0),(.int 0 0),(.ref 122),(.int 32 0),(.int 0 0),(.ref 129),(.int 37 0),(.int 0 0),(.ref 134),(.int 41 0),(.int 0 0),(.ref 141),(.int 47 0),(.int 0 0),(.ref 148),(.int 53 0),(.int 0 0),(.ref 155),(.int 55 0),(.int 0 0),(.ref 162),(.int 57 0),(.int 0 0),(.ref 169),(.int 62 0),(.int 0 0),(.ref 176),(.int 66 0),(.int 0 0),(.ref 183),(.int 71 0),(.int 0 0),(.ref 188),(.int 77 0),(.int 0 0),(.ref 195),(.int 82 0),(.int 0 0),(.ref 202),(.int 85 0),(.int 0 0),(.ref 209),(.int 93 0),(.int 0 0),(.ref 216),(.int 99 0),(.int 0 0),(.ref 221),(.int 104 0),(.int 0 0),(.ref 226),(.int 112 0),(.int 0 0),(.ref 233),(.int 116 0),(.int 0 0),(.ref 238),(.int 126 0),(.int 0 0),(.ref 245),(.int 130 0),(.int 0 0),(.ref 252),(.int 132 0),(.int 0 0),(.ref 266)]),#[]⟩ ::
hC "<module>" 182 [hI 1,hI 0,hI 0,hI 0,hI 0,hR 11,(.bool .false),hI 181,hR 12,hN,hN,hN,hN,hI 185,hI 1,hS 186] ::
⟨(.type "frame"),none,.plain,#[(some (.ref 13)),(some (.ref 3)),(some (.ref 3)),none,(some (.str "__main__" 164)),none,(some (.ref 0))]⟩ ::
⟨(.type "tuple"),none,(.seq #[(.type "ValueError")] 0),#[]⟩ ::
⟨(.type "builtin_function_or_method"),none,(.fields #[(.builtin "type.__prepare__"),(.type "type")]),#[]⟩ ::
⟨(.type "dict"),none,(.dict #[hE P "__module__" 196 (.str "knotwise.errors" 187),hE P "__qualname__" 198 (.str "KnotError" 197),hE P "__firstlineno__" 200 (.int 2 199),hE P "__static_attributes__" 201 (.ref 22)] 4),#[]⟩ ::
⟨(.type "tuple"),none,(.seq #[] 0),#[]⟩ ::
⟨.none,none,(.fields #[]),#[]⟩ ::
hC "KnotError" 191 [hI 2,hI 0,hI 0,hI 0,hI 0,hR 18,(.bool .false),hI 181,hR 19,hN,hN,hN,hN,hI 194,hI 2,hS 195] ::
⟨(.type "frame"),none,.plain,#[(some (.ref 20)),(some (.ref 3)),(some (.ref 17)),none,(some (.str "knotwise.errors" 187)),none,(some (.ref 0))]⟩ ::
⟨(.type "tuple"),none,(.seq #[] 0),#[]⟩ ::
⟨(.type "dict"),none,(.dict #[hE P "__module__" 196 (.str "knotwise.errors" 187),hE P "__firstlineno__" 200 (.int 2 199),hE P "__static_attributes__" 201 (.ref 22),hE P "__weakref__" 203 (.ref 25),hE P "__doc__" 204 .none] 3),#[]⟩ ::
⟨(.type "type"),none,(.cls ⟨"KnotError",[(.type "ValueError")],[(.ref 24),(.type "ValueError"),(.type "Exception"),(.type "BaseException"),(.type "object")],23,"KnotError",.true,[],[(.ref 37),(.ref 49),(.ref 61),(.ref 73),(.ref 85),(.ref 97)],.false,none,.false⟩),#[(some (.ref 15)),none,(some (.str "KnotError" 189)),(some (.str "KnotError" 197)),(some (.builtin "ValueError.__new__")),(some (.bool .true))]⟩ ::
⟨(.type "getset_descriptor"),none,(.fields #[(.str "__weakref__" 202),(.ref 24),(.builtin "ExceptionGroup.__weakref__"),.none]),#[]⟩ ::
⟨(.type "super"),none,(.fields #[(.ref 24),(.ref 24),(.ref 24)]),#[]⟩ ::
⟨(.type "builtin_function_or_method"),none,(.fields #[(.builtin "object.__init_subclass__"),(.ref 24)]),#[]⟩ ::
⟨(.type "tuple"),none,(.seq #[(.ref 24)] 0),#[]⟩ ::
⟨(.type "builtin_function_or_method"),none,(.fields #[(.builtin "type.__prepare__"),(.type "type")]),#[]⟩ ::
⟨(.type "dict"),none,(.dict #[hE P "__module__" 214 (.str "knotwise.errors" 187),hE P "__qualname__" 216 (.str "NoName" 215),hE P "__firstlineno__" 218 (.int 4 217),hE P "__static_attributes__" 219 (.ref 35)] 4),#[]⟩ ::
⟨(.type "tuple"),none,(.seq #[] 0),#[]⟩ ::
⟨.none,none,(.fields #[]),#[]⟩ ::
hC "NoName" 209 [hI 4,hI 0,hI 0,hI 0,hI 0,hR 31,(.bool .false),hI 181,hR 32,hN,hN,hN,hN,hI 212,hI 4,hS 213] ::
⟨(.type "frame"),none,.plain,#[(some (.ref 33)),(some (.ref 3)),(some (.ref 30)),none,(some (.str "knotwise.errors" 187)),none,(some (.ref 0))]⟩ ::
⟨(.type "tuple"),none,(.seq #[] 0),#[]⟩ ::
⟨(.type "dict"),none,(.dict #[hE P "__module__" 214 (.str "knotwise.errors" 187),hE P "__firstlineno__" 218 (.int 4 217),hE P "__static_attributes__" 219 (.ref 35),hE P "__doc__" 220 .none] 2),#[]⟩ ::
⟨(.type "type"),none,(.cls ⟨"NoName",[(.ref 24)],[(.ref 37),(.ref 24),(.type "ValueError"),(.type "Exception"),(.type "BaseException"),(.type "object")],36,"NoName",.true,[],[],.false,none,.false⟩),#[(some (.ref 28)),none,(some (.str "NoName" 207)),(some (.str "NoName" 215)),(some (.builtin "ValueError.__new__")),(some (.bool .true))]⟩ ::
⟨(.type "super"),none,(.fields #[(.ref 37),(.ref 37),(.ref 37)]),#[]⟩ ::
⟨(.type "builtin_function_or_method"),none,(.fields #[(.builtin "object.__init_subclass__"),(.ref 37)]),#[]⟩ ::
⟨(.type "tuple"),none,(.seq #[(.ref 24)] 0),#[]⟩ ::
⟨(.type "builtin_function_or_method"),none,(.fields #[(.builtin "type.__prepare__"),(.type "type")]),#[]⟩ ::
⟨(.type "dict"),none,(.dict #[hE P "__module__" 230 (.str "knotwise.errors" 187),hE P "__qualname__" 232 (.str "NameTaken" 231),hE P "__firstlineno__" 234 (.int 6 233),hE P "__static_attributes__" 235 (.ref 47)] 4),#[]⟩ ::
⟨(.type "tuple"),none,(.seq #[] 0),#[]⟩ ::
⟨.none,none,(.fields #[]),#[]⟩ ::
hC "NameTaken" 225 [hI 6,hI 0,hI 0,hI 0,hI 0,hR 43,(.bool .false),hI 181,hR 44,hN,hN,hN,hN,hI 228,hI 6,hS 229] ::
⟨(.type "frame"),none,.plain,#[(some (.ref 45)),(some (.ref 3)),(some (.ref 42)),none,(some (.str "knotwise.errors" 187)),none,(some (.ref 0))]⟩ ::
⟨(.type "tuple"),none,(.seq #[] 0),#[]⟩ ::
⟨(.type "dict"),none,(.dict #[hE P "__module__" 230 (.str "knotwise.errors" 187),hE P "__firstlineno__" 234 (.int 6 233),hE P "__static_attributes__" 235 (.ref 47),hE P "__doc__" 236 .none] 2),#[]⟩ ::
⟨(.type "type"),none,(.cls ⟨"NameTaken",[(.ref 24)],[(.ref 49),(.ref 24),(.type "ValueError"),(.type "Exception"),(.type "BaseException"),(.type "object")],48,"NameTaken",.true,[],[],.false,none,.false⟩),#[(some (.ref 40)),none,(some (.str "NameTaken" 223)),(some (.str "NameTaken" 231)),(some (.builtin "ValueError.__new__")),(some (.bool .true))]⟩ ::
⟨(.type "super"),none,(.fields #[(.ref 49),(.ref 49),(.ref 49)]),#[]⟩ ::
⟨(.type "builtin_function_or_method"),none,(.fields #[(.builtin "object.__init_subclass__"),(.ref 49)]),#[]⟩ ::
⟨(.type "tuple"),none,(.seq #[(.ref 24)] 0),#[]⟩ ::
⟨(.type "builtin_function_or_method"),none,(.fields #[(.builtin "type.__prepare__"),(.type "type")]),#[]⟩ ::
⟨(.type "dict"),none,(.dict #[hE P "__module__" 246 (.str "knotwise.errors" 187),hE P "__qualname__" 248 (.str "NoSpot" 247),hE P "__firstlineno__" 250 (.int 8 249),hE P "__static_attributes__" 251 (.ref 59)] 4),#[]⟩ ::
⟨(.type "tuple"),none,(.seq #[] 0),#[]⟩ ::
⟨.none,none,(.fields #[]),#[]⟩ ::
hC "NoSpot" 241 [hI 8,hI 0,hI 0,hI 0,hI 0,hR 55,(.bool .false),hI 181,hR 56,hN,hN,hN,hN,hI 244,hI 8,hS 245] ::
⟨(.type "frame"),none,.plain,#[(some (.ref 57)),(some (.ref 3)),(some (.ref 54)),none,(some (.str "knotwise.errors" 187)),none,(some (.ref 0))]⟩ ::
⟨(.type "tuple"),none,(.seq #[] 0),#[]⟩ ::
⟨(.type "dict"),none,(.dict #[hE P "__module__" 246 (.str "knotwise.errors" 187),hE P "__firstlineno__" 250 (.int 8 249),hE P "__static_attributes__" 251 (.ref 59),hE P "__doc__" 252 .none] 2),#[]⟩ ::
⟨(.type "type"),none,(.cls ⟨"NoSpot",[(.ref 24)],[(.ref 61),(.ref 24),(.type "ValueError"),(.type "Exception"),(.type "BaseException"),(.type "object")],60,"NoSpot",.true,[],[],.false,none,.false⟩),#[(some (.ref 52)),none,(some (.str "NoSpot" 239)),(some (.str "NoSpot" 247)),(some (.builtin "ValueError.__new__")),(some (.bool .true))]⟩ ::
⟨(.type "super"),none,(.fields #[(.ref 61),(.ref 61),(.ref 61)]),#[]⟩ ::
⟨(.type "builtin_function_or_method"),none,(.fields #[(.builtin "object.__init_subclass__"),(.ref 61)]),#[]⟩ ::
⟨(.type "tuple"),none,(.seq #[(.ref 24)] 0),#[]⟩ ::
⟨(.type "builtin_function_or_method"),none,(.fields #[(.builtin "type.__prepare__"),(.type "type")]),#[]⟩ ::
⟨(.type "dict"),none,(.dict #[hE P "__module__" 262 (.str "knotwise.errors" 187),hE P "__qualname__" 264 (.str "TooMany" 263),hE P "__firstlineno__" 266 (.int 10 265),hE P "__static_attributes__" 267 (.ref 71)] 4),#[]⟩ ::
⟨(.type "tuple"),none,(.seq #[] 0),#[]⟩ ::
⟨.none,none,(.fields #[]),#[]⟩ ::
hC "TooMany" 257 [hI 10,hI 0,hI 0,hI 0,hI 0,hR 67,(.bool .false),hI 181,hR 68,hN,hN,hN,hN,hI 260,hI 10,hS 261] ::
⟨(.type "frame"),none,.plain,#[(some (.ref 69)),(some (.ref 3)),(some (.ref 66)),none,(some (.str "knotwise.errors" 187)),none,(some (.ref 0))]⟩ ::
⟨(.type "tuple"),none,(.seq #[] 0),#[]⟩ ::
⟨(.type "dict"),none,(.dict #[hE P "__module__" 262 (.str "knotwise.errors" 187),hE P "__firstlineno__" 266 (.int 10 265),hE P "__static_attributes__" 267 (.ref 71),hE P "__doc__" 268 .none] 2),#[]⟩ ::
⟨(.type "type"),none,(.cls ⟨"TooMany",[(.ref 24)],[(.ref 73),(.ref 24),(.type "ValueError"),(.type "Exception"),(.type "BaseException"),(.type "object")],72,"TooMany",.true,[],[],.false,none,.false⟩),#[(some (.ref 64)),none,(some (.str "TooMany" 255)),(some (.str "TooMany" 263)),(some (.builtin "ValueError.__new__")),(some (.bool .true))]⟩ ::
⟨(.type "super"),none,(.fields #[(.ref 73),(.ref 73),(.ref 73)]),#[]⟩ ::
⟨(.type "builtin_function_or_method"),none,(.fields #[(.builtin "object.__init_subclass__"),(.ref 73)]),#[]⟩ ::
⟨(.type "tuple"),none,(.seq #[(.ref 24)] 0),#[]⟩ ::
⟨(.type "builtin_function_or_method"),none,(.fields #[(.builtin "type.__prepare__"),(.type "type")]),#[]⟩ ::
⟨(.type "dict"),none,(.dict #[hE P "__module__" 278 (.str "knotwise.errors" 187),hE P "__qualname__" 280 (.str "NoFit" 279),hE P "__firstlineno__" 282 (.int 12 281),hE P "__static_attributes__" 283 (.ref 83)] 4),#[]⟩ ::
⟨(.type "tuple"),none,(.seq #[] 0),#[]⟩ ::
⟨.none,none,(.fields #[]),#[]⟩ ::
hC "NoFit" 273 [hI 12,hI 0,hI 0,hI 0,hI 0,hR 79,(.bool .false),hI 181,hR 80,hN,hN,hN,hN,hI 276,hI 12,hS 277] ::
⟨(.type "frame"),none,.plain,#[(some (.ref 81)),(some (.ref 3)),(some (.ref 78)),none,(some (.str "knotwise.errors" 187)),none,(some (.ref 0))]⟩ ::
⟨(.type "tuple"),none,(.seq #[] 0),#[]⟩ ::
⟨(.type "dict"),none,(.dict #[hE P "__module__" 278 (.str "knotwise.errors" 187),hE P "__firstlineno__" 282 (.int 12 281),hE P "__static_attributes__" 283 (.ref 83),hE P "__doc__" 284 .none] 2),#[]⟩ ::
⟨(.type "type"),none,(.cls ⟨"NoFit",[(.ref 24)],[(.ref 85),(.ref 24),(.type "ValueError"),(.type "Exception"),(.type "BaseException"),(.type "object")],84,"NoFit",.true,[],[],.false,none,.false⟩),#[(some (.ref 76)),none,(some (.str "NoFit" 271)),(some (.str "NoFit" 279)),(some (.builtin "ValueError.__new__")),(some (.bool .true))]⟩ ::
⟨(.type "super"),none,(.fields #[(.ref 85),(.ref 85),(.ref 85)]),#[]⟩ ::
⟨(.type "builtin_function_or_method"),none,(.fields #[(.builtin "object.__init_subclass__"),(.ref 85)]),#[]⟩ ::
⟨(.type "tuple"),none,(.seq #[(.ref 24)] 0),#[]⟩ ::
⟨(.type "builtin_function_or_method"),none,(.fields #[(.builtin "type.__prepare__"),(.type "type")]),#[]⟩ ::
⟨(.type "dict"),none,(.dict #[hE P "__module__" 294 (.str "knotwise.errors" 187),hE P "__qualname__" 296 (.str "NoMove" 295),hE P "__firstlineno__" 298 (.int 14 297),hE P "__static_attributes__" 299 (.ref 95)] 4),#[]⟩ ::
⟨(.type "tuple"),none,(.seq #[] 0),#[]⟩ ::
⟨.none,none,(.fields #[]),#[]⟩ ::
hC "NoMove" 289 [hI 14,hI 0,hI 0,hI 0,hI 0,hR 91,(.bool .false),hI 181,hR 92,hN,hN,hN,hN,hI 292,hI 14,hS 293] ::
⟨(.type "frame"),none,.plain,#[(some (.ref 93)),(some (.ref 3)),(some (.ref 90)),none,(some (.str "knotwise.errors" 187)),none,(some (.ref 0))]⟩ ::
⟨(.type "tuple"),none,(.seq #[] 0),#[]⟩ ::
⟨(.type "dict"),none,(.dict #[hE P "__module__" 294 (.str "knotwise.errors" 187),hE P "__firstlineno__" 298 (.int 14 297),hE P "__static_attributes__" 299 (.ref 95),hE P "__doc__" 300 .none] 2),#[]⟩ ::
⟨(.type "type"),none,(.cls ⟨"NoMove",[(.ref 24)],[(.ref 97),(.ref 24),(.type "ValueError"),(.type "Exception"),(.type "BaseException"),(.type "object")],96,"NoMove",.true,[],[],.false,none,.false⟩),#[(some (.ref 88)),none,(some (.str "NoMove" 287)),(some (.str "NoMove" 295)),(some (.builtin "ValueError.__new__")),(some (.bool .true))]⟩ ::
⟨(.type "super"),none,(.fields #[(.ref 97),(.ref 97),(.ref 97)]),#[]⟩ ::
⟨(.type "builtin_function_or_method"),none,(.fields #[(.builtin "object.__init_subclass__"),(.ref 97)]),#[]⟩ ::
⟨(.type "tuple"),none,(.seq #[] 0),#[]⟩ ::
⟨.none,none,(.fields #[]),#[]⟩ ::
⟨(.type "tuple"),none,(.seq #[(.str "rows" 310),(.str "passings" 311),(.str "row" 312)] 0),#[]⟩ ::
⟨(.type "tuple"),none,(.seq #[] 0),#[]⟩ ::
hG (top 10) "passings_of" "passings_of" 0 0 ::
hD "passings_of" 307 18 1 100 (hR 102) (hR 103) (hR 104) 314 ::
hF 10 "passings_of" (.str "knotwise.drawings" 303) (.ref 105) ::
⟨(.type "tuple"),none,(.seq #[] 0),#[]⟩ ::
⟨.none,none,(.fields #[]),#[]⟩ ::
⟨(.type "tuple"),none,(.seq #[(.str "row" 319),(.str "start" 320)] 0),#[]⟩ ::
⟨(.type "tuple"),none,(.seq #[] 0),#[]⟩ ::
hG (top 11) "seated" "seated" 0 0 ::
hD "seated" 316 23 1 107 (hR 109) (hR 110) (hR 111) 322 ::
hF 11 "seated" (.str "knotwise.drawings" 303) (.ref 112) ::
⟨(.type "tuple"),none,(.seq #[] 0),#[]⟩ ::
⟨.none,none,(.fields #[]),#[]⟩ ::
hG (top 12) "seated_rows" "seated_rows" 0 0 ::
hD "seated_rows" 324 28 1 114 hN hN (hR 116) 328 ::
hF 12 "seated_rows" (.str "knotwise.drawings" 303) (.ref 117) ::
⟨(.type "tuple"),none,(.seq #[] 0),#[]⟩ ::
⟨.none,none,(.fields #[]),#[]⟩ ::
hG (top 13) "names_of" "names_of" 0 0 ::
hD "names_of" 330 30 1 119 hN hN (hR 121) 334 ::
hF 13 "names_of" (.str "knotwise.drawings" 303) (.ref 122) ::
⟨(.type "tuple"),none,(.seq #[] 0),#[]⟩ ::
⟨.none,none,(.fields #[]),#[]⟩ ::
⟨(.type "tuple"),none,(.seq #[(.str "drawing" 339),(.str "name" 340),(.str "passing" 341)] 0),#[]⟩ ::
⟨(.type "tuple"),none,(.seq #[] 0),#[]⟩ ::
hG (top 14) "hand_of" "hand_of" 0 0 ::
hD "hand_of" 336 32 2 124 (hR 126) (hR 127) (hR 128) 343 ::
hF 14 "hand_of" (.str "knotwise.drawings" 303) (.ref 129) ::
⟨(.type "tuple"),none,(.seq #[] 0),#[]⟩ ::
⟨.none,none,(.fields #[]),#[]⟩ ::
hG (top 15) "spots_on" "spots_on" 0 0 ::
hD "spots_on" 345 37 2 131 hN hN (hR 133) 349 ::
hF 15 "spots_on" (.str "knotwise.drawings" 303) (.ref 134) ::
⟨(.type "tuple"),none,(.seq #[] 0),#[]⟩ ::
⟨.none,none,(.fields #[]),#[]⟩ ::
⟨(.type "tuple"),none,(.seq #[(.str "drawing" 354),(.str "behind" 355),(.str "row" 356),(.str "passing" 357),(.str "follower" 358)] 0),#[]⟩ ::
⟨(.type "tuple"),none,(.seq #[] 0),#[]⟩ ::
hG (top 16) "next_of" "next_of" 0 0 ::
hD "next_of" 351 41 1 136 (hR 138) (hR 139) (hR 140) 360 ::
hF 16 "next_of" (.str "knotwise.drawings" 303) (.ref 141) ::
⟨(.type "tuple"),none,(.seq #[] 0),#[]⟩ ::
⟨.none,none,(.fields #[]),#[]⟩ ::
⟨(.type "tuple"),none,(.seq #[(.str "drawing" 365),(.str "spot" 366),(.str "string" 367),(.str "row" 368)] 0),#[]⟩ ::
⟨(.type "tuple"),none,(.seq #[] 0),#[]⟩ ::
hG (top 17) "string_of" "string_of" 0 0 ::
hD "string_of" 362 47 2 143 (hR 145) (hR 146) (hR 147) 370 ::
hF 17 "string_of" (.str "knotwise.drawings" 303) (.ref 148) ::
⟨(.type "tuple"),none,(.seq #[] 0),#[]⟩ ::
⟨.none,none,(.fields #[]),#[]⟩ ::
⟨(.type "tuple"),none,(.seq #[(.str "behind" 377),(.str "one" 378),(.str "other" 379)] 0),#[]⟩ ::
⟨(.type "tuple"),none,(.seq #[] 0),#[]⟩ ::
hG (top 19) "neighbours" "neighbours" 0 0 ::
hD "neighbours" 374 53 3 150 (hR 152) (hR 153) (hR 154) 381 ::
hF 19 "neighbours" (.str "knotwise.fits" 372) (.ref 155) ::
⟨(.type "tuple"),none,(.seq #[] 0),#[]⟩ ::
⟨.none,none,(.fields #[]),#[]⟩ ::
⟨(.type "tuple"),none,(.seq #[(.str "drawing" 386),(.str "name" 387)] 0),#[]⟩ ::
⟨(.type "tuple"),none,(.seq #[] 0),#[]⟩ ::
hG (top 20) "uncurl_fits" "uncurl_fits" 0 0 ::
hD "uncurl_fits" 383 55 2 157 (hR 159) (hR 160) (hR 161) 389 ::
hF 20 "uncurl_fits" (.str "knotwise.fits" 372) (.ref 162) ::
⟨(.type "tuple"),none,(.seq #[] 0),#[]⟩ ::
⟨.none,none,(.fields #[]),#[]⟩ ::
⟨(.type "tuple"),none,(.seq #[(.str "drawing" 394),(.str "name" 395),(.str "second" 396),(.str "behind" 397)] 0),#[]⟩ ::
⟨(.type "tuple"),none,(.seq #[] 0),#[]⟩ ::
hG (top 21) "part_fits" "part_fits" 0 0 ::
hD "part_fits" 391 57 3 164 (hR 166) (hR 167) (hR 168) 399 ::
hF 21 "part_fits" (.str "knotwise.fits" 372) (.ref 169) ::
⟨(.type "tuple"),none,(.seq #[] 0),#[]⟩ ::
⟨.none,none,(.fields #[]),#[]⟩ ::
⟨(.type "tuple"),none,(.seq #[(.str "one" 404),(.str "other" 405),(.str "turn" 406)] 0),#[]⟩ ::
⟨(.type "tuple"),none,(.seq #[] 0),#[]⟩ ::
hG (top 22) "in_turn" "in_turn" 0 0 ::
hD "in_turn" 401 62 3 171 (hR 173) (hR 174) (hR 175) 408 ::
hF 22 "in_turn" (.str "knotwise.fits" 372) (.ref 176) ::
⟨(.type "tuple"),none,(.seq #[] 0),#[]⟩ ::
⟨.none,none,(.fields #[]),#[]⟩ ::
⟨(.type "tuple"),none,(.seq #[(.str "drawing" 413),(.str "name" 414),(.str "second" 415),(.str "third" 416),(.str "turn" 417),(.str "first_hand" 418),(.str "second_hand" 419),(.str "third_hand" 420)] 0),#[]⟩ ::
⟨(.type "tuple"),none,(.seq #[] 0),#[]⟩ ::
hG (top 23) "slide_pairs" "slide_pairs" 0 0 ::
hD "slide_pairs" 410 66 5 178 (hR 180) (hR 181) (hR 182) 422 ::
hF 23 "slide_pairs" (.str "knotwise.fits" 372) (.ref 183) ::
⟨(.type "tuple"),none,(.seq #[] 0),#[]⟩ ::
⟨.none,none,(.fields #[]),#[]⟩ ::
hG (top 24) "slide_fits" "slide_fits" 0 0 ::
hD "slide_fits" 424 71 5 185 hN hN (hR 187) 428 ::
hF 24 "slide_fits" (.str "knotwise.fits" 372) (.ref 188) ::
⟨(.type "tuple"),none,(.seq #[] 0),#[]⟩ ::
⟨.none,none,(.fields #[]),#[]⟩ ::
⟨(.type "tuple"),none,(.seq #[(.str "drawing" 435),(.str "names" 436),(.str "known" 437),(.str "name" 438)] 0),#[]⟩ ::
⟨(.type "tuple"),none,(.seq #[] 0),#[]⟩ ::
hG (top 26) "refuse_unknown" "refuse_unknown" 0 0 ::
hD "refuse_unknown" 432 77 2 190 (hR 192) (hR 193) (hR 194) 440 ::
hF 26 "refuse_unknown" (.str "knotwise.moves" 430) (.ref 195) ::
⟨(.type "tuple"),none,(.seq #[] 0),#[]⟩ ::
⟨.none,none,(.fields #[]),#[]⟩ ::
⟨(.type "tuple"),none,(.seq #[(.str "fits" 445)] 0),#[]⟩ ::
⟨(.type "tuple"),none,(.seq #[] 0),#[]⟩ ::
hG (top 27) "refuse_unfit" "refuse_unfit" 0 0 ::
hD "refuse_unfit" 442 82 1 197 (hR 199) (hR 200) (hR 201) 447 ::
hF 27 "refuse_unfit" (.str "knotwise.moves" 430) (.ref 202) ::
⟨(.type "tuple"),none,(.seq #[] 0),#[]⟩ ::
⟨.none,none,(.fields #[]),#[]⟩ ::
⟨(.type "tuple"),none,(.seq #[(.str "drawing" 452),(.str "names" 453),(.str "taken" 454),(.str "name" 455)] 0),#[]⟩ ::
⟨(.type "tuple"),none,(.seq #[] 0),#[]⟩ ::
hG (top 28) "refuse_new" "refuse_new" 0 0 ::
hD "refuse_new" 449 85 2 204 (hR 206) (hR 207) (hR 208) 457 ::
hF 28 "refuse_new" (.str "knotwise.moves" 430) (.ref 209) ::
⟨(.type "tuple"),none,(.seq #[] 0),#[]⟩ ::
⟨.none,none,(.fields #[]),#[]⟩ ::
⟨(.type "tuple"),none,(.seq #[(.str "drawing" 462),(.str "spot" 463),(.str "passings" 464),(.str "string" 465),(.str "rows" 466),(.str "place" 467)] 0),#[]⟩ ::
⟨(.type "tuple"),none,(.seq #[] 0),#[]⟩ ::
hG (top 29) "with_put" "with_put" 0 0 ::
hD "with_put" 459 93 3 211 (hR 213) (hR 214) (hR 215) 469 ::
hF 29 "with_put" (.str "knotwise.moves" 430) (.ref 216) ::
⟨(.type "tuple"),none,(.seq #[] 0),#[]⟩ ::
⟨.none,none,(.fields #[]),#[]⟩ ::
hG (top 30) "taken_out" "taken_out" 0 0 ::
hD "taken_out" 471 99 2 218 hN hN (hR 220) 475 ::
hF 30 "taken_out" (.str "knotwise.moves" 430) (.ref 221) ::
⟨(.type "tuple"),none,(.seq #[] 0),#[]⟩ ::
⟨.none,none,(.fields #[]),#[]⟩ ::
hG (top 31) "spot_ahead" "spot_ahead" 0 0 ::
hD "spot_ahead" 477 104 3 223 hN hN (hR 225) 481 ::
hF 31 "spot_ahead" (.str "knotwise.moves" 430) (.ref 226) ::
⟨(.type "tuple"),none,(.seq #[] 0),#[]⟩ ::
⟨.none,none,(.fields #[]),#[]⟩ ::
⟨(.type "tuple"),none,(.seq #[(.str "drawing" 486),(.str "name" 487),(.str "second" 488),(.str "way" 489)] 0),#[]⟩ ::
⟨(.type "tuple"),none,(.seq #[] 0),#[]⟩ ::
hG (top 32) "first_in_turn" "first_in_turn" 0 0 ::
hD "first_in_turn" 483 112 4 228 (hR 230) (hR 231) (hR 232) 491 ::
hF 32 "first_in_turn" (.str "knotwise.moves" 430) (.ref 233) ::
⟨(.type "tuple"),none,(.seq #[] 0),#[]⟩ ::
⟨.none,none,(.fields #[]),#[]⟩ ::
hG (top 33) "with_changed" "with_changed" 0 0 ::
hD "with_changed" 493 116 2 235 hN hN (hR 237) 497 ::
hF 33 "with_changed" (.str "knotwise.moves" 430) (.ref 238) ::
⟨(.type "tuple"),none,(.seq #[] 0),#[]⟩ ::
⟨.none,none,(.fields #[]),#[]⟩ ::
⟨(.type "tuple"),none,(.seq #[(.str "spot" 502),(.str "names" 503)] 0),#[]⟩ ::
⟨(.type "tuple"),none,(.seq #[] 0),#[]⟩ ::
hG (top 34) "renamed_spot" "renamed_spot" 0 0 ::
hD "renamed_spot" 499 126 2 240 (hR 242) (hR 243) (hR 244) 505 ::
hF 34 "renamed_spot" (.str "knotwise.moves" 430) (.ref 245) ::
⟨(.type "tuple"),none,(.seq #[] 0),#[]⟩ ::
⟨(.type "builtin_function_or_method"),none,(.fields #[(.builtin "type.__prepare__"),(.type "type")]),#[]⟩ ::
⟨(.type "dict"),none,(.dict #[hE P "__module__" 514 (.str "knotwise.moves" 430),hE P "__qualname__" 516 (.str "Move" 515),hE P "__firstlineno__" 518 (.int 130 517),hE P "__static_attributes__" 519 (.ref 254)] 4),#[]⟩ ::
⟨(.type "tuple"),none,(.seq #[] 0),#[]⟩ ::
⟨.none,none,(.fields #[]),#[]⟩ ::
hC "Move" 509 [hI 130,hI 0,hI 0,hI 0,hI 0,hR 250,(.bool .false),hI 181,hR 251,hN,hN,hN,hN,hI 512,hI 130,hS 513] ::
⟨(.type "frame"),none,.plain,#[(some (.ref 252)),(some (.ref 3)),(some (.ref 249)),none,(some (.str "knotwise.moves" 430)),none,(some (.ref 0))]⟩ ::
⟨(.type "tuple"),none,(.seq #[] 0),#[]⟩ ::
⟨(.type "dict"),none,(.dict #[hE P "__module__" 514 (.str "knotwise.moves" 430),hE P "__firstlineno__" 518 (.int 130 517),hE P "__static_attributes__" 519 (.ref 254),hE P "__dict__" 521 (.ref 257),hE P "__weakref__" 523 (.ref 258),hE P "__doc__" 524 .none] 4),#[]⟩ ::
⟨(.type "type"),none,(.cls ⟨"Move",[(.type "object")],[(.ref 256),(.type "object")],255,"Move",.true,[],[(.ref 312)],.false,none,.false⟩),#[none,none,(some (.str "Move" 507)),(some (.str "Move" 515)),(some (.builtin "object.__new__")),(some (.bool .true))]⟩ ::
⟨(.type "getset_descriptor"),none,(.fields #[(.str "__dict__" 520),(.ref 256),(.builtin "function.__dict__"),(.builtin "function.__dict__#set")]),#[]⟩ ::
⟨(.type "getset_descriptor"),none,(.fields #[(.str "__weakref__" 522),(.ref 256),(.builtin "ExceptionGroup.__weakref__"),.none]),#[]⟩ ::
⟨(.type "super"),none,(.fields #[(.ref 256),(.ref 256),(.ref 256)]),#[]⟩ ::
⟨(.type "builtin_function_or_method"),none,(.fields #[(.builtin "object.__init_subclass__"),(.ref 256)]),#[]⟩ ::
⟨(.type "tuple"),none,(.seq #[(.ref 256)] 0),#[]⟩ ::
⟨(.type "builtin_function_or_method"),none,(.fields #[(.builtin "type.__prepare__"),(.type "type")]),#[]⟩ ::
⟨(.type "dict"),none,(.dict #[hE P "__module__" 534 (.str "knotwise.moves" 430),hE P "__qualname__" 536 (.str "Uncurl" 535),hE P "__firstlineno__" 538 (.int 132 537),hE P "__init__" 546 (.ref 274),hE P "told" 553 (.ref 281),hE P "refuse" 561 (.ref 288),hE P "done" 569 (.ref 295),hE P "back" 581 (.ref 302),hE P "renamed" 589 (.ref 309),hE P "__static_attributes__" 591 (.ref 310)] 10),#[]⟩ ::
⟨(.type "tuple"),none,(.seq #[] 0),#[]⟩ ::
⟨.none,none,(.fields #[(.int 134 0),(.int 4 0),(.ref 273),(.int 137 0),(.int 4 0),(.ref 280),(.int 140 0),(.int 4 0),(.ref 287),(.int 144 0),(.int 4 0),(.ref 294),(.int 148 0),(.int 4 0),(.ref 301),(.int 156 0),(.int 4 0),(.ref 308)]),#[]⟩ ::
hC "Uncurl" 529 [hI 132,hI 0,hI 0,hI 0,hI 0,hR 264,(.bool .false),hI 181,hR 265,hN,hN,hN,hN,hI 532,hI 132,hS 533] ::
⟨(.type "frame"),none,.plain,#[(some (.ref 266)),(some (.ref 3)),(some (.ref 263)),none,(some (.str "knotwise.moves" 430)),none,(some (.ref 0))]⟩ ::
⟨(.type "tuple"),none,(.seq #[] 0),#[]⟩ ::
⟨.none,none,(.fields #[]),#[]⟩ ::
⟨(.type "tuple"),none,(.seq #[(.str "self" 542),(.str "name" 543)] 0),#[]⟩ ::
⟨(.type "tuple"),none,(.seq #[] 0),#[]⟩ ::
hG (jm 36 0) "__init__" "Uncurl.__init__" 0 0 ::
⟨(.type "code"),none,(.fields #[(.str "__init__" 539),(.str "Uncurl.__init__" 540),(.str "/claim/cut.py" 541),(.int 134 0),(.int 2 0),(.int 0 0),(.int 0 0),(.int 3 0),(.ref 268),(.bool .true),(.int 181 0),(.ref 269),.none,(.ref 270),(.ref 271),(.ref 272),(.int 544 0),(.int 134 0),(.str "/claim/cut.py" 545)]),#[]⟩ ::
hM 36 0 "__init__" "Uncurl.__init__" (.str "knotwise.moves" 430) (.ref 273) ::
⟨(.type "tuple"),none,(.seq #[] 0),#[]⟩ ::
⟨.none,none,(.fields #[]),#[]⟩ ::
⟨(.type "tuple"),none,(.seq #[(.str "self" 550)] 0),#[]⟩ ::
⟨(.type "tuple"),none,(.seq #[] 0),#[]⟩ ::
hG (jm 36 1) "told" "Uncurl.told" 0 0 ::
⟨(.type "code"),none,(.fields #[(.str "told" 547),(.str "Uncurl.told" 548),(.str "/claim/cut.py" 549),(.int 137 0),(.int 1 0),(.int 0 0),(.int 0 0),(.int 3 0),(.ref 275),(.bool .true),(.int 181 0),(.ref 276),.none,(.ref 277),(.ref 278),(.ref 279),(.int 551 0),(.int 137 0),(.str "/claim/cut.py" 552)]),#[]⟩ ::
hM 36 1 "told" "Uncurl.told" (.str "knotwise.moves" 430) (.ref 280) ::
⟨(.type "tuple"),none,(.seq #[] 0),#[]⟩ ::
⟨.none,none,(.fields #[]),#[]⟩ ::
⟨(.type "tuple"),none,(.seq #[(.str "self" 557),(.str "drawing" 558)] 0),#[]⟩ ::
⟨(.type "tuple"),none,(.seq #[] 0),#[]⟩ ::
hG (jm 36 2) "refuse" "Uncurl.refuse" 0 0 ::
⟨(.type "code"),none,(.fields #[(.str "refuse" 554),(.str "Uncurl.refuse" 555),(.str "/claim/cut.py" 556),(.int 140 0),(.int 2 0),(.int 0 0),(.int 0 0),(.int 3 0),(.ref 282),(.bool .true),(.int 181 0),(.ref 283),.none,(.ref 284),(.ref 285),(.ref 286),(.int 559 0),(.int 140 0),(.str "/claim/cut.py" 560)]),#[]⟩ ::
hM 36 2 "refuse" "Uncurl.refuse" (.str "knotwise.moves" 430) (.ref 287) ::
⟨(.type "tuple"),none,(.seq #[] 0),#[]⟩ ::
⟨.none,none,(.fields #[]),#[]⟩ ::
⟨(.type "tuple"),none,(.seq #[(.str "self" 565),(.str "drawing" 566)] 0),#[]⟩ ::
⟨(.type "tuple"),none,(.seq #[] 0),#[]⟩ ::
hG (jm 36 3) "done" "Uncurl.done" 0 0 ::
⟨(.type "code"),none,(.fields #[(.str "done" 562),(.str "Uncurl.done" 563),(.str "/claim/cut.py" 564),(.int 144 0),(.int 2 0),(.int 0 0),(.int 0 0),(.int 3 0),(.ref 289),(.bool .true),(.int 181 0),(.ref 290),.none,(.ref 291),(.ref 292),(.ref 293),(.int 567 0),(.int 144 0),(.str "/claim/cut.py" 568)]),#[]⟩ ::
hM 36 3 "done" "Uncurl.done" (.str "knotwise.moves" 430) (.ref 294) ::
⟨(.type "tuple"),none,(.seq #[] 0),#[]⟩ ::
⟨.none,none,(.fields #[]),#[]⟩ ::
⟨(.type "tuple"),none,(.seq #[(.str "self" 573),(.str "drawing" 574),(.str "over" 575),(.str "under" 576),(.str "first" 577),(.str "spot" 578)] 0),#[]⟩ ::
⟨(.type "tuple"),none,(.seq #[] 0),#[]⟩ ::
hG (jm 36 4) "back" "Uncurl.back" 0 0 ::
⟨(.type "code"),none,(.fields #[(.str "back" 570),(.str "Uncurl.back" 571),(.str "/claim/cut.py" 572),(.int 148 0),(.int 2 0),(.int 0 0),(.int 0 0),(.int 3 0),(.ref 296),(.bool .true),(.int 181 0),(.ref 297),.none,(.ref 298),(.ref 299),(.ref 300),(.int 579 0),(.int 148 0),(.str "/claim/cut.py" 580)]),#[]⟩ ::
hM 36 4 "back" "Uncurl.back" (.str "knotwise.moves" 430) (.ref 301) ::
⟨(.type "tuple"),none,(.seq #[] 0),#[]⟩ ::
⟨.none,none,(.fields #[]),#[]⟩ ::
⟨(.type "tuple"),none,(.seq #[(.str "self" 585),(.str "names" 586)] 0),#[]⟩ ::
⟨(.type "tuple"),none,(.seq #[] 0),#[]⟩ ::
hG (jm 36 5) "renamed" "Uncurl.renamed" 0 0 ::
⟨(.type "code"),none,(.fields #[(.str "renamed" 582),(.str "Uncurl.renamed" 583),(.str "/claim/cut.py" 584),(.int 156 0),(.int 2 0),(.int 0 0),(.int 0 0),(.int 3 0),(.ref 303),(.bool .true),(.int 181 0),(.ref 304),.none,(.ref 305),(.ref 306),(.ref 307),(.int 587 0),(.int 156 0),(.str "/claim/cut.py" 588)]),#[]⟩ ::
hM 36 5 "renamed" "Uncurl.renamed" (.str "knotwise.moves" 430) (.ref 308) ::
⟨(.type "tuple"),none,(.seq #[(.str "name" 590)] 0),#[]⟩ ::
⟨(.type "dict"),none,(.dict #[hE P "__module__" 534 (.str "knotwise.moves" 430),hE P "__firstlineno__" 538 (.int 132 537),hE P "__init__" 546 (.ref 274),hE P "told" 553 (.ref 281),hE P "refuse" 561 (.ref 288),hE P "done" 569 (.ref 295),hE P "back" 581 (.ref 302),hE P "renamed" 589 (.ref 309),hE P "__static_attributes__" 591 (.ref 310),hE P "__doc__" 592 .none] 2),#[]⟩ ::
⟨(.type "type"),none,(.cls ⟨"Uncurl",[(.ref 256)],[(.ref 312),(.ref 256),(.type "object")],311,"Uncurl",.true,[],[],.false,none,.false⟩),#[(some (.ref 261)),none,(some (.str "Uncurl" 527)),(some (.str "Uncurl" 535)),(some (.builtin "object.__new__")),(some (.bool .true))]⟩ ::
⟨(.type "super"),none,(.fields #[(.ref 312),(.ref 312),(.ref 312)]),#[]⟩ ::
⟨(.type "builtin_function_or_method"),none,(.fields #[(.builtin "object.__init_subclass__"),(.ref 312)]),#[]⟩ :: []
noncomputable def Zm(w:World)(os:lD):nG:=⟨K2.bt (cL3 w.params),315,{},ko [],iS,595,os⟩
noncomputable def cL4(P:sG):List Obj:=boot_o_0 P ::
boot_o_1 P ::
boot_o_2 P ::
⟨(.type "dict"),none,(.dict #[hE P "__name__" 165 (.str "knotwise.moves" 430),hE P "__doc__" 166 .none,hE P "__package__" 167 .none,hE P "__loader__" 168 (.builtin "__main__.__loader__#opaque"),hE P "__spec__" 169 .none,hE P "__annotations__" 170 (.ref 6),hE P "__builtins__" 171 (.ref 4),hE P "__file__" 173 (.str "/claim/cut.py" 172),hE P "__cached__" 174 .none,hE P "KnotError" 206 (.ref 24),hE P "NoName" 222 (.ref 37),hE P "NameTaken" 238 (.ref 49),hE P "NoSpot" 254 (.ref 61),hE P "TooMany" 270 (.ref 73),hE P "NoFit" 286 (.ref 85),hE P "NoMove" 302 (.ref 97),hE P "MOST_CROSSINGS" 306 (.int 12 305),hE P "passings_of" 315 (.ref 106),hE P "seated" 323 (.ref 113),hE P "seated_rows" 329 (.ref 118),hE P "names_of" 335 (.ref 123),hE P "hand_of" 344 (.ref 130),hE P "spots_on" 350 (.ref 135),hE P "next_of" 361 (.ref 142),hE P "string_of" 371 (.ref 149),hE P "neighbours" 382 (.ref 156),hE P "uncurl_fits" 390 (.ref 163),hE P "part_fits" 400 (.ref 170),hE P "in_turn" 409 (.ref 177),hE P "slide_pairs" 423 (.ref 184),hE P "slide_fits" 429 (.ref 189),hE P "refuse_unknown" 441 (.ref 196),hE P "refuse_unfit" 448 (.ref 203),hE P "refuse_new" 458 (.ref 210),hE P "with_put" 470 (.ref 217),hE P "taken_out" 476 (.ref 222),hE P "spot_ahead" 482 (.ref 227),hE P "first_in_turn" 492 (.ref 234),hE P "with_changed" 498 (.ref 239),hE P "renamed_spot" 506 (.ref 246),hE P "Move" 526 (.ref 256),hE P "Uncurl" 594 (.ref 312),hE P "Curl" 657 (.ref 359),hE P "Part" 731 (.ref 413),hE P "Lay" 811 (.ref 467)] 45),#[]⟩ ::
boot_o_4 P ::
boot_o_5 P ::
boot_o_6 P ::
boot_o_7 P ::
boot_o_8 P ::
boot_o_9 P ::
La P ::
⟨(.type "tuple"),none,(.seq #[] 0),#[]⟩ ::
⟨.none,none,(.fields #[(.int 2 0),(.int 0 0),(.ref 20),(.int 4 0),(.int 0 0),(.ref 33),(.int 6 0),(.int 0 0),(.ref 45),(.int 8 0),(.int 0 0),(.ref 57),(.int 10 0),(.int 0 0),(.ref 69),(.int 12 0),(.int 0 0),(.ref 81),(.int 14 0),(.int 0 0),(.ref 93),(.int 18 0),(.int 0 0),(.ref 105),(.int 23 0),(.int 0 0),(.ref 112),(.int 28 0),(.int 0 0),(.ref 117),(.int 30 0),(.int 0 0),(.ref 122),(.int 32 0),(.int 0 0),(.ref 129),(.int 37 0),(.int 0 0),(.ref 134),(.int 41 0),(.int 0 0),(.ref 141),(.int 47 0),(.int 0 0),(.ref 148),(.int 53 0),(.int 0 0),(.ref 155),(.int 55 0),(.int 0 0),(.ref 162),(.int 57 0),(.int 0 0),(.ref 169),(.int 62 0),(.int 0 0),(.ref 176),(.int 66 0),(.int 0 0),(.ref 183),(.int 71 0),(.int 0 0),(.ref 188),(.int 77 0),(.int 0 0),(.ref 195),(.int 82 0),(.int 0 0),(.ref 202),(.int 85 0),(.int 0 0),(.ref 209),(.int 93 0),(.int 0 0),(.ref 216),(.int 99 0),(.int 0 0),(.ref 221),(.int 104 0),(.int 0 0),(.ref 226),(.int 112 0),(.int 0 0),(.ref 233),(.int 116 0),(.int 0 0),(.ref 238),(.int 126 0),(.int 0 0),(.ref 245),(.int 130 0),(.int 0 0),(.ref 252),(.int 132 0),(.int 0 0),(.ref 266),(.int 158 0),(.int 0 0),(.ref 320),(.int 180 0),(.int 0 0),(.ref 367),(.int 211 0),(.int 0 0),(.ref 421)]),#[]⟩ ::
hC "<module>" 182 [hI 1,hI 0,hI 0,hI 0,hI 0,hR 11,(.bool .false),hI 181,hR 12,hN,hN,hN,hN,hI 185,hI 1,hS 186] ::
⟨(.type "frame"),none,.plain,#[(some (.ref 13)),(some (.ref 3)),(some (.ref 3)),none,(some (.str "__main__" 164)),none,(some (.ref 0))]⟩ ::
⟨(.type "tuple"),none,(.seq #[(.type "ValueError")] 0),#[]⟩ ::
⟨(.type "builtin_function_or_method"),none,(.fields #[(.builtin "type.__prepare__"),(.type "type")]),#[]⟩ ::
⟨(.type "dict"),none,(.dict #[hE P "__module__" 196 (.str "knotwise.errors" 187),hE P "__qualname__" 198 (.str "KnotError" 197),hE P "__firstlineno__" 200 (.int 2 199),hE P "__static_attributes__" 201 (.ref 22)] 4),#[]⟩ ::
⟨(.type "tuple"),none,(.seq #[] 0),#[]⟩ ::
⟨.none,none,(.fields #[]),#[]⟩ ::
hC "KnotError" 191 [hI 2,hI 0,hI 0,hI 0,hI 0,hR 18,(.bool .false),hI 181,hR 19,hN,hN,hN,hN,hI 194,hI 2,hS 195] ::
⟨(.type "frame"),none,.plain,#[(some (.ref 20)),(some (.ref 3)),(some (.ref 17)),none,(some (.str "knotwise.errors" 187)),none,(some (.ref 0))]⟩ ::
⟨(.type "tuple"),none,(.seq #[] 0),#[]⟩ ::
⟨(.type "dict"),none,(.dict #[hE P "__module__" 196 (.str "knotwise.errors" 187),hE P "__firstlineno__" 200 (.int 2 199),hE P "__static_attributes__" 201 (.ref 22),hE P "__weakref__" 203 (.ref 25),hE P "__doc__" 204 .none] 3),#[]⟩ ::
⟨(.type "type"),none,(.cls ⟨"KnotError",[(.type "ValueError")],[(.ref 24),(.type "ValueError"),(.type "Exception"),(.type "BaseException"),(.type "object")],23,"KnotError",.true,[],[(.ref 37),(.ref 49),(.ref 61),(.ref 73),(.ref 85),(.ref 97)],.false,none,.false⟩),#[(some (.ref 15)),none,(some (.str "KnotError" 189)),(some (.str "KnotError" 197)),(some (.builtin "ValueError.__new__")),(some (.bool .true))]⟩ ::
⟨(.type "getset_descriptor"),none,(.fields #[(.str "__weakref__" 202),(.ref 24),(.builtin "ExceptionGroup.__weakref__"),.none]),#[]⟩ ::
⟨(.type "super"),none,(.fields #[(.ref 24),(.ref 24),(.ref 24)]),#[]⟩ ::
⟨(.type "builtin_function_or_method"),none,(.fields #[(.builtin "object.__init_subclass__"),(.ref 24)]),#[]⟩ ::
⟨(.type "tuple"),none,(.seq #[(.ref 24)] 0),#[]⟩ ::
⟨(.type "builtin_function_or_method"),none,(.fields #[(.builtin "type.__prepare__"),(.type "type")]),#[]⟩ ::
⟨(.type "dict"),none,(.dict #[hE P "__module__" 214 (.str "knotwise.errors" 187),hE P "__qualname__" 216 (.str "NoName" 215),hE P "__firstlineno__" 218 (.int 4 217),hE P "__static_attributes__" 219 (.ref 35)] 4),#[]⟩ ::
⟨(.type "tuple"),none,(.seq #[] 0),#[]⟩ ::
⟨.none,none,(.fields #[]),#[]⟩ ::
hC "NoName" 209 [hI 4,hI 0,hI 0,hI 0,hI 0,hR 31,(.bool .false),hI 181,hR 32,hN,hN,hN,hN,hI 212,hI 4,hS 213] ::
⟨(.type "frame"),none,.plain,#[(some (.ref 33)),(some (.ref 3)),(some (.ref 30)),none,(some (.str "knotwise.errors" 187)),none,(some (.ref 0))]⟩ ::
⟨(.type "tuple"),none,(.seq #[] 0),#[]⟩ ::
⟨(.type "dict"),none,(.dict #[hE P "__module__" 214 (.str "knotwise.errors" 187),hE P "__firstlineno__" 218 (.int 4 217),hE P "__static_attributes__" 219 (.ref 35),hE P "__doc__" 220 .none] 2),#[]⟩ ::
⟨(.type "type"),none,(.cls ⟨"NoName",[(.ref 24)],[(.ref 37),(.ref 24),(.type "ValueError"),(.type "Exception"),(.type "BaseException"),(.type "object")],36,"NoName",.true,[],[],.false,none,.false⟩),#[(some (.ref 28)),none,(some (.str "NoName" 207)),(some (.str "NoName" 215)),(some (.builtin "ValueError.__new__")),(some (.bool .true))]⟩ ::
⟨(.type "super"),none,(.fields #[(.ref 37),(.ref 37),(.ref 37)]),#[]⟩ ::
⟨(.type "builtin_function_or_method"),none,(.fields #[(.builtin "object.__init_subclass__"),(.ref 37)]),#[]⟩ ::
⟨(.type "tuple"),none,(.seq #[(.ref 24)] 0),#[]⟩ ::
⟨(.type "builtin_function_or_method"),none,(.fields #[(.builtin "type.__prepare__"),(.type "type")]),#[]⟩ ::
⟨(.type "dict"),none,(.dict #[hE P "__module__" 230 (.str "knotwise.errors" 187),hE P "__qualname__" 232 (.str "NameTaken" 231),hE P "__firstlineno__" 234 (.int 6 233),hE P "__static_attributes__" 235 (.ref 47)] 4),#[]⟩ ::
⟨(.type "tuple"),none,(.seq #[] 0),#[]⟩ ::
⟨.none,none,(.fields #[]),#[]⟩ ::
hC "NameTaken" 225 [hI 6,hI 0,hI 0,hI 0,hI 0,hR 43,(.bool .false),hI 181,hR 44,hN,hN,hN,hN,hI 228,hI 6,hS 229] ::
⟨(.type "frame"),none,.plain,#[(some (.ref 45)),(some (.ref 3)),(some (.ref 42)),none,(some (.str "knotwise.errors" 187)),none,(some (.ref 0))]⟩ ::
⟨(.type "tuple"),none,(.seq #[] 0),#[]⟩ ::
⟨(.type "dict"),none,(.dict #[hE P "__module__" 230 (.str "knotwise.errors" 187),hE P "__firstlineno__" 234 (.int 6 233),hE P "__static_attributes__" 235 (.ref 47),hE P "__doc__" 236 .none] 2),#[]⟩ ::
⟨(.type "type"),none,(.cls ⟨"NameTaken",[(.ref 24)],[(.ref 49),(.ref 24),(.type "ValueError"),(.type "Exception"),(.type "BaseException"),(.type "object")],48,"NameTaken",.true,[],[],.false,none,.false⟩),#[(some (.ref 40)),none,(some (.str "NameTaken" 223)),(some (.str "NameTaken" 231)),(some (.builtin "ValueError.__new__")),(some (.bool .true))]⟩ ::
⟨(.type "super"),none,(.fields #[(.ref 49),(.ref 49),(.ref 49)]),#[]⟩ ::
⟨(.type "builtin_function_or_method"),none,(.fields #[(.builtin "object.__init_subclass__"),(.ref 49)]),#[]⟩ ::
⟨(.type "tuple"),none,(.seq #[(.ref 24)] 0),#[]⟩ ::
⟨(.type "builtin_function_or_method"),none,(.fields #[(.builtin "type.__prepare__"),(.type "type")]),#[]⟩ ::
⟨(.type "dict"),none,(.dict #[hE P "__module__" 246 (.str "knotwise.errors" 187),hE P "__qualname__" 248 (.str "NoSpot" 247),hE P "__firstlineno__" 250 (.int 8 249),hE P "__static_attributes__" 251 (.ref 59)] 4),#[]⟩ ::
⟨(.type "tuple"),none,(.seq #[] 0),#[]⟩ ::
⟨.none,none,(.fields #[]),#[]⟩ ::
hC "NoSpot" 241 [hI 8,hI 0,hI 0,hI 0,hI 0,hR 55,(.bool .false),hI 181,hR 56,hN,hN,hN,hN,hI 244,hI 8,hS 245] ::
⟨(.type "frame"),none,.plain,#[(some (.ref 57)),(some (.ref 3)),(some (.ref 54)),none,(some (.str "knotwise.errors" 187)),none,(some (.ref 0))]⟩ ::
⟨(.type "tuple"),none,(.seq #[] 0),#[]⟩ ::
⟨(.type "dict"),none,(.dict #[hE P "__module__" 246 (.str "knotwise.errors" 187),hE P "__firstlineno__" 250 (.int 8 249),hE P "__static_attributes__" 251 (.ref 59),hE P "__doc__" 252 .none] 2),#[]⟩ ::
⟨(.type "type"),none,(.cls ⟨"NoSpot",[(.ref 24)],[(.ref 61),(.ref 24),(.type "ValueError"),(.type "Exception"),(.type "BaseException"),(.type "object")],60,"NoSpot",.true,[],[],.false,none,.false⟩),#[(some (.ref 52)),none,(some (.str "NoSpot" 239)),(some (.str "NoSpot" 247)),(some (.builtin "ValueError.__new__")),(some (.bool .true))]⟩ ::
⟨(.type "super"),none,(.fields #[(.ref 61),(.ref 61),(.ref 61)]),#[]⟩ ::
⟨(.type "builtin_function_or_method"),none,(.fields #[(.builtin "object.__init_subclass__"),(.ref 61)]),#[]⟩ ::
⟨(.type "tuple"),none,(.seq #[(.ref 24)] 0),#[]⟩ ::
⟨(.type "builtin_function_or_method"),none,(.fields #[(.builtin "type.__prepare__"),(.type "type")]),#[]⟩ ::
⟨(.type "dict"),none,(.dict #[hE P "__module__" 262 (.str "knotwise.errors" 187),hE P "__qualname__" 264 (.str "TooMany" 263),hE P "__firstlineno__" 266 (.int 10 265),hE P "__static_attributes__" 267 (.ref 71)] 4),#[]⟩ ::
⟨(.type "tuple"),none,(.seq #[] 0),#[]⟩ ::
⟨.none,none,(.fields #[]),#[]⟩ ::
hC "TooMany" 257 [hI 10,hI 0,hI 0,hI 0,hI 0,hR 67,(.bool .false),hI 181,hR 68,hN,hN,hN,hN,hI 260,hI 10,hS 261] ::
⟨(.type "frame"),none,.plain,#[(some (.ref 69)),(some (.ref 3)),(some (.ref 66)),none,(some (.str "knotwise.errors" 187)),none,(some (.ref 0))]⟩ ::
⟨(.type "tuple"),none,(.seq #[] 0),#[]⟩ ::
⟨(.type "dict"),none,(.dict #[hE P "__module__" 262 (.str "knotwise.errors" 187),hE P "__firstlineno__" 266 (.int 10 265),hE P "__static_attributes__" 267 (.ref 71),hE P "__doc__" 268 .none] 2),#[]⟩ ::
⟨(.type "type"),none,(.cls ⟨"TooMany",[(.ref 24)],[(.ref 73),(.ref 24),(.type "ValueError"),(.type "Exception"),(.type "BaseException"),(.type "object")],72,"TooMany",.true,[],[],.false,none,.false⟩),#[(some (.ref 64)),none,(some (.str "TooMany" 255)),(some (.str "TooMany" 263)),(some (.builtin "ValueError.__new__")),(some (.bool .true))]⟩ ::
⟨(.type "super"),none,(.fields #[(.ref 73),(.ref 73),(.ref 73)]),#[]⟩ ::
⟨(.type "builtin_function_or_method"),none,(.fields #[(.builtin "object.__init_subclass__"),(.ref 73)]),#[]⟩ ::
⟨(.type "tuple"),none,(.seq #[(.ref 24)] 0),#[]⟩ ::
⟨(.type "builtin_function_or_method"),none,(.fields #[(.builtin "type.__prepare__"),(.type "type")]),#[]⟩ ::
⟨(.type "dict"),none,(.dict #[hE P "__module__" 278 (.str "knotwise.errors" 187),hE P "__qualname__" 280 (.str "NoFit" 279),hE P "__firstlineno__" 282 (.int 12 281),hE P "__static_attributes__" 283 (.ref 83)] 4),#[]⟩ ::
⟨(.type "tuple"),none,(.seq #[] 0),#[]⟩ ::
⟨.none,none,(.fields #[]),#[]⟩ ::
hC "NoFit" 273 [hI 12,hI 0,hI 0,hI 0,hI 0,hR 79,(.bool .false),hI 181,hR 80,hN,hN,hN,hN,hI 276,hI 12,hS 277] ::
⟨(.type "frame"),none,.plain,#[(some (.ref 81)),(some (.ref 3)),(some (.ref 78)),none,(some (.str "knotwise.errors" 187)),none,(some (.ref 0))]⟩ ::
⟨(.type "tuple"),none,(.seq #[] 0),#[]⟩ ::
⟨(.type "dict"),none,(.dict #[hE P "__module__" 278 (.str "knotwise.errors" 187),hE P "__firstlineno__" 282 (.int 12 281),hE P "__static_attributes__" 283 (.ref 83),hE P "__doc__" 284 .none] 2),#[]⟩ ::
⟨(.type "type"),none,(.cls ⟨"NoFit",[(.ref 24)],[(.ref 85),(.ref 24),(.type "ValueError"),(.type "Exception"),(.type "BaseException"),(.type "object")],84,"NoFit",.true,[],[],.false,none,.false⟩),#[(some (.ref 76)),none,(some (.str "NoFit" 271)),(some (.str "NoFit" 279)),(some (.builtin "ValueError.__new__")),(some (.bool .true))]⟩ ::
⟨(.type "super"),none,(.fields #[(.ref 85),(.ref 85),(.ref 85)]),#[]⟩ ::
⟨(.type "builtin_function_or_method"),none,(.fields #[(.builtin "object.__init_subclass__"),(.ref 85)]),#[]⟩ ::
⟨(.type "tuple"),none,(.seq #[(.ref 24)] 0),#[]⟩ ::
⟨(.type "builtin_function_or_method"),none,(.fields #[(.builtin "type.__prepare__"),(.type "type")]),#[]⟩ ::
⟨(.type "dict"),none,(.dict #[hE P "__module__" 294 (.str "knotwise.errors" 187),hE P "__qualname__" 296 (.str "NoMove" 295),hE P "__firstlineno__" 298 (.int 14 297),hE P "__static_attributes__" 299 (.ref 95)] 4),#[]⟩ ::
⟨(.type "tuple"),none,(.seq #[] 0),#[]⟩ ::
⟨.none,none,(.fields #[]),#[]⟩ ::
hC "NoMove" 289 [hI 14,hI 0,hI 0,hI 0,hI 0,hR 91,(.bool .false),hI 181,hR 92,hN,hN,hN,hN,hI 292,hI 14,hS 293] ::
⟨(.type "frame"),none,.plain,#[(some (.ref 93)),(some (.ref 3)),(some (.ref 90)),none,(some (.str "knotwise.errors" 187)),none,(some (.ref 0))]⟩ ::
⟨(.type "tuple"),none,(.seq #[] 0),#[]⟩ ::
⟨(.type "dict"),none,(.dict #[hE P "__module__" 294 (.str "knotwise.errors" 187),hE P "__firstlineno__" 298 (.int 14 297),hE P "__static_attributes__" 299 (.ref 95),hE P "__doc__" 300 .none] 2),#[]⟩ ::
⟨(.type "type"),none,(.cls ⟨"NoMove",[(.ref 24)],[(.ref 97),(.ref 24),(.type "ValueError"),(.type "Exception"),(.type "BaseException"),(.type "object")],96,"NoMove",.true,[],[],.false,none,.false⟩),#[(some (.ref 88)),none,(some (.str "NoMove" 287)),(some (.str "NoMove" 295)),(some (.builtin "ValueError.__new__")),(some (.bool .true))]⟩ ::
⟨(.type "super"),none,(.fields #[(.ref 97),(.ref 97),(.ref 97)]),#[]⟩ ::
⟨(.type "builtin_function_or_method"),none,(.fields #[(.builtin "object.__init_subclass__"),(.ref 97)]),#[]⟩ ::
⟨(.type "tuple"),none,(.seq #[] 0),#[]⟩ ::
⟨.none,none,(.fields #[]),#[]⟩ ::
⟨(.type "tuple"),none,(.seq #[(.str "rows" 310),(.str "passings" 311),(.str "row" 312)] 0),#[]⟩ ::
⟨(.type "tuple"),none,(.seq #[] 0),#[]⟩ ::
hG (top 10) "passings_of" "passings_of" 0 0 ::
hD "passings_of" 307 18 1 100 (hR 102) (hR 103) (hR 104) 314 ::
hF 10 "passings_of" (.str "knotwise.drawings" 303) (.ref 105) ::
⟨(.type "tuple"),none,(.seq #[] 0),#[]⟩ ::
⟨.none,none,(.fields #[]),#[]⟩ ::
⟨(.type "tuple"),none,(.seq #[(.str "row" 319),(.str "start" 320)] 0),#[]⟩ ::
⟨(.type "tuple"),none,(.seq #[] 0),#[]⟩ ::
hG (top 11) "seated" "seated" 0 0 ::
hD "seated" 316 23 1 107 (hR 109) (hR 110) (hR 111) 322 ::
hF 11 "seated" (.str "knotwise.drawings" 303) (.ref 112) ::
⟨(.type "tuple"),none,(.seq #[] 0),#[]⟩ ::
⟨.none,none,(.fields #[]),#[]⟩ ::
hG (top 12) "seated_rows" "seated_rows" 0 0 ::
hD "seated_rows" 324 28 1 114 hN hN (hR 116) 328 ::
hF 12 "seated_rows" (.str "knotwise.drawings" 303) (.ref 117) ::
⟨(.type "tuple"),none,(.seq #[] 0),#[]⟩ ::
⟨.none,none,(.fields #[]),#[]⟩ ::
hG (top 13) "names_of" "names_of" 0 0 ::
hD "names_of" 330 30 1 119 hN hN (hR 121) 334 ::
hF 13 "names_of" (.str "knotwise.drawings" 303) (.ref 122) ::
⟨(.type "tuple"),none,(.seq #[] 0),#[]⟩ ::
⟨.none,none,(.fields #[]),#[]⟩ ::
⟨(.type "tuple"),none,(.seq #[(.str "drawing" 339),(.str "name" 340),(.str "passing" 341)] 0),#[]⟩ ::
⟨(.type "tuple"),none,(.seq #[] 0),#[]⟩ ::
hG (top 14) "hand_of" "hand_of" 0 0 ::
hD "hand_of" 336 32 2 124 (hR 126) (hR 127) (hR 128) 343 ::
hF 14 "hand_of" (.str "knotwise.drawings" 303) (.ref 129) ::
⟨(.type "tuple"),none,(.seq #[] 0),#[]⟩ ::
⟨.none,none,(.fields #[]),#[]⟩ ::
hG (top 15) "spots_on" "spots_on" 0 0 ::
hD "spots_on" 345 37 2 131 hN hN (hR 133) 349 ::
hF 15 "spots_on" (.str "knotwise.drawings" 303) (.ref 134) ::
⟨(.type "tuple"),none,(.seq #[] 0),#[]⟩ ::
⟨.none,none,(.fields #[]),#[]⟩ ::
⟨(.type "tuple"),none,(.seq #[(.str "drawing" 354),(.str "behind" 355),(.str "row" 356),(.str "passing" 357),(.str "follower" 358)] 0),#[]⟩ ::
⟨(.type "tuple"),none,(.seq #[] 0),#[]⟩ ::
hG (top 16) "next_of" "next_of" 0 0 ::
hD "next_of" 351 41 1 136 (hR 138) (hR 139) (hR 140) 360 ::
hF 16 "next_of" (.str "knotwise.drawings" 303) (.ref 141) ::
⟨(.type "tuple"),none,(.seq #[] 0),#[]⟩ ::
⟨.none,none,(.fields #[]),#[]⟩ ::
⟨(.type "tuple"),none,(.seq #[(.str "drawing" 365),(.str "spot" 366),(.str "string" 367),(.str "row" 368)] 0),#[]⟩ ::
⟨(.type "tuple"),none,(.seq #[] 0),#[]⟩ ::
hG (top 17) "string_of" "string_of" 0 0 ::
hD "string_of" 362 47 2 143 (hR 145) (hR 146) (hR 147) 370 ::
hF 17 "string_of" (.str "knotwise.drawings" 303) (.ref 148) ::
⟨(.type "tuple"),none,(.seq #[] 0),#[]⟩ ::
⟨.none,none,(.fields #[]),#[]⟩ ::
⟨(.type "tuple"),none,(.seq #[(.str "behind" 377),(.str "one" 378),(.str "other" 379)] 0),#[]⟩ ::
⟨(.type "tuple"),none,(.seq #[] 0),#[]⟩ ::
hG (top 19) "neighbours" "neighbours" 0 0 ::
hD "neighbours" 374 53 3 150 (hR 152) (hR 153) (hR 154) 381 ::
hF 19 "neighbours" (.str "knotwise.fits" 372) (.ref 155) ::
⟨(.type "tuple"),none,(.seq #[] 0),#[]⟩ ::
⟨.none,none,(.fields #[]),#[]⟩ ::
⟨(.type "tuple"),none,(.seq #[(.str "drawing" 386),(.str "name" 387)] 0),#[]⟩ ::
⟨(.type "tuple"),none,(.seq #[] 0),#[]⟩ ::
hG (top 20) "uncurl_fits" "uncurl_fits" 0 0 ::
hD "uncurl_fits" 383 55 2 157 (hR 159) (hR 160) (hR 161) 389 ::
hF 20 "uncurl_fits" (.str "knotwise.fits" 372) (.ref 162) ::
⟨(.type "tuple"),none,(.seq #[] 0),#[]⟩ ::
⟨.none,none,(.fields #[]),#[]⟩ ::
⟨(.type "tuple"),none,(.seq #[(.str "drawing" 394),(.str "name" 395),(.str "second" 396),(.str "behind" 397)] 0),#[]⟩ ::
⟨(.type "tuple"),none,(.seq #[] 0),#[]⟩ ::
hG (top 21) "part_fits" "part_fits" 0 0 ::
hD "part_fits" 391 57 3 164 (hR 166) (hR 167) (hR 168) 399 ::
hF 21 "part_fits" (.str "knotwise.fits" 372) (.ref 169) ::
⟨(.type "tuple"),none,(.seq #[] 0),#[]⟩ ::
⟨.none,none,(.fields #[]),#[]⟩ ::
⟨(.type "tuple"),none,(.seq #[(.str "one" 404),(.str "other" 405),(.str "turn" 406)] 0),#[]⟩ ::
⟨(.type "tuple"),none,(.seq #[] 0),#[]⟩ ::
hG (top 22) "in_turn" "in_turn" 0 0 ::
hD "in_turn" 401 62 3 171 (hR 173) (hR 174) (hR 175) 408 ::
hF 22 "in_turn" (.str "knotwise.fits" 372) (.ref 176) ::
⟨(.type "tuple"),none,(.seq #[] 0),#[]⟩ ::
⟨.none,none,(.fields #[]),#[]⟩ ::
⟨(.type "tuple"),none,(.seq #[(.str "drawing" 413),(.str "name" 414),(.str "second" 415),(.str "third" 416),(.str "turn" 417),(.str "first_hand" 418),(.str "second_hand" 419),(.str "third_hand" 420)] 0),#[]⟩ ::
⟨(.type "tuple"),none,(.seq #[] 0),#[]⟩ ::
hG (top 23) "slide_pairs" "slide_pairs" 0 0 ::
hD "slide_pairs" 410 66 5 178 (hR 180) (hR 181) (hR 182) 422 ::
hF 23 "slide_pairs" (.str "knotwise.fits" 372) (.ref 183) ::
⟨(.type "tuple"),none,(.seq #[] 0),#[]⟩ ::
⟨.none,none,(.fields #[]),#[]⟩ ::
hG (top 24) "slide_fits" "slide_fits" 0 0 ::
hD "slide_fits" 424 71 5 185 hN hN (hR 187) 428 ::
hF 24 "slide_fits" (.str "knotwise.fits" 372) (.ref 188) ::
⟨(.type "tuple"),none,(.seq #[] 0),#[]⟩ ::
⟨.none,none,(.fields #[]),#[]⟩ ::
⟨(.type "tuple"),none,(.seq #[(.str "drawing" 435),(.str "names" 436),(.str "known" 437),(.str "name" 438)] 0),#[]⟩ ::
⟨(.type "tuple"),none,(.seq #[] 0),#[]⟩ ::
hG (top 26) "refuse_unknown" "refuse_unknown" 0 0 ::
hD "refuse_unknown" 432 77 2 190 (hR 192) (hR 193) (hR 194) 440 ::
hF 26 "refuse_unknown" (.str "knotwise.moves" 430) (.ref 195) ::
⟨(.type "tuple"),none,(.seq #[] 0),#[]⟩ ::
⟨.none,none,(.fields #[]),#[]⟩ ::
⟨(.type "tuple"),none,(.seq #[(.str "fits" 445)] 0),#[]⟩ ::
⟨(.type "tuple"),none,(.seq #[] 0),#[]⟩ ::
hG (top 27) "refuse_unfit" "refuse_unfit" 0 0 ::
hD "refuse_unfit" 442 82 1 197 (hR 199) (hR 200) (hR 201) 447 ::
hF 27 "refuse_unfit" (.str "knotwise.moves" 430) (.ref 202) ::
⟨(.type "tuple"),none,(.seq #[] 0),#[]⟩ ::
⟨.none,none,(.fields #[]),#[]⟩ ::
⟨(.type "tuple"),none,(.seq #[(.str "drawing" 452),(.str "names" 453),(.str "taken" 454),(.str "name" 455)] 0),#[]⟩ ::
⟨(.type "tuple"),none,(.seq #[] 0),#[]⟩ ::
hG (top 28) "refuse_new" "refuse_new" 0 0 ::
hD "refuse_new" 449 85 2 204 (hR 206) (hR 207) (hR 208) 457 ::
hF 28 "refuse_new" (.str "knotwise.moves" 430) (.ref 209) ::
⟨(.type "tuple"),none,(.seq #[] 0),#[]⟩ ::
⟨.none,none,(.fields #[]),#[]⟩ ::
⟨(.type "tuple"),none,(.seq #[(.str "drawing" 462),(.str "spot" 463),(.str "passings" 464),(.str "string" 465),(.str "rows" 466),(.str "place" 467)] 0),#[]⟩ ::
⟨(.type "tuple"),none,(.seq #[] 0),#[]⟩ ::
hG (top 29) "with_put" "with_put" 0 0 ::
hD "with_put" 459 93 3 211 (hR 213) (hR 214) (hR 215) 469 ::
hF 29 "with_put" (.str "knotwise.moves" 430) (.ref 216) ::
⟨(.type "tuple"),none,(.seq #[] 0),#[]⟩ ::
⟨.none,none,(.fields #[]),#[]⟩ ::
hG (top 30) "taken_out" "taken_out" 0 0 ::
hD "taken_out" 471 99 2 218 hN hN (hR 220) 475 ::
hF 30 "taken_out" (.str "knotwise.moves" 430) (.ref 221) ::
⟨(.type "tuple"),none,(.seq #[] 0),#[]⟩ ::
⟨.none,none,(.fields #[]),#[]⟩ ::
hG (top 31) "spot_ahead" "spot_ahead" 0 0 ::
hD "spot_ahead" 477 104 3 223 hN hN (hR 225) 481 ::
hF 31 "spot_ahead" (.str "knotwise.moves" 430) (.ref 226) ::
⟨(.type "tuple"),none,(.seq #[] 0),#[]⟩ ::
⟨.none,none,(.fields #[]),#[]⟩ ::
⟨(.type "tuple"),none,(.seq #[(.str "drawing" 486),(.str "name" 487),(.str "second" 488),(.str "way" 489)] 0),#[]⟩ ::
⟨(.type "tuple"),none,(.seq #[] 0),#[]⟩ ::
hG (top 32) "first_in_turn" "first_in_turn" 0 0 ::
hD "first_in_turn" 483 112 4 228 (hR 230) (hR 231) (hR 232) 491 ::
hF 32 "first_in_turn" (.str "knotwise.moves" 430) (.ref 233) ::
⟨(.type "tuple"),none,(.seq #[] 0),#[]⟩ ::
⟨.none,none,(.fields #[]),#[]⟩ ::
hG (top 33) "with_changed" "with_changed" 0 0 ::
hD "with_changed" 493 116 2 235 hN hN (hR 237) 497 ::
hF 33 "with_changed" (.str "knotwise.moves" 430) (.ref 238) ::
⟨(.type "tuple"),none,(.seq #[] 0),#[]⟩ ::
⟨.none,none,(.fields #[]),#[]⟩ ::
⟨(.type "tuple"),none,(.seq #[(.str "spot" 502),(.str "names" 503)] 0),#[]⟩ ::
⟨(.type "tuple"),none,(.seq #[] 0),#[]⟩ ::
hG (top 34) "renamed_spot" "renamed_spot" 0 0 ::
hD "renamed_spot" 499 126 2 240 (hR 242) (hR 243) (hR 244) 505 ::
hF 34 "renamed_spot" (.str "knotwise.moves" 430) (.ref 245) ::
⟨(.type "tuple"),none,(.seq #[] 0),#[]⟩ ::
⟨(.type "builtin_function_or_method"),none,(.fields #[(.builtin "type.__prepare__"),(.type "type")]),#[]⟩ ::
⟨(.type "dict"),none,(.dict #[hE P "__module__" 514 (.str "knotwise.moves" 430),hE P "__qualname__" 516 (.str "Move" 515),hE P "__firstlineno__" 518 (.int 130 517),hE P "__static_attributes__" 519 (.ref 254)] 4),#[]⟩ ::
⟨(.type "tuple"),none,(.seq #[] 0),#[]⟩ ::
⟨.none,none,(.fields #[]),#[]⟩ ::
hC "Move" 509 [hI 130,hI 0,hI 0,hI 0,hI 0,hR 250,(.bool .false),hI 181,hR 251,hN,hN,hN,hN,hI 512,hI 130,hS 513] ::
⟨(.type "frame"),none,.plain,#[(some (.ref 252)),(some (.ref 3)),(some (.ref 249)),none,(some (.str "knotwise.moves" 430)),none,(some (.ref 0))]⟩ ::
⟨(.type "tuple"),none,(.seq #[] 0),#[]⟩ ::
⟨(.type "dict"),none,(.dict #[hE P "__module__" 514 (.str "knotwise.moves" 430),hE P "__firstlineno__" 518 (.int 130 517),hE P "__static_attributes__" 519 (.ref 254),hE P "__dict__" 521 (.ref 257),hE P "__weakref__" 523 (.ref 258),hE P "__doc__" 524 .none] 4),#[]⟩ ::
⟨(.type "type"),none,(.cls ⟨"Move",[(.type "object")],[(.ref 256),(.type "object")],255,"Move",.true,[],[(.ref 312),(.ref 359),(.ref 413),(.ref 467)],.false,none,.false⟩),#[none,none,(some (.str "Move" 507)),(some (.str "Move" 515)),(some (.builtin "object.__new__")),(some (.bool .true))]⟩ ::
⟨(.type "getset_descriptor"),none,(.fields #[(.str "__dict__" 520),(.ref 256),(.builtin "function.__dict__"),(.builtin "function.__dict__#set")]),#[]⟩ ::
⟨(.type "getset_descriptor"),none,(.fields #[(.str "__weakref__" 522),(.ref 256),(.builtin "ExceptionGroup.__weakref__"),.none]),#[]⟩ ::
⟨(.type "super"),none,(.fields #[(.ref 256),(.ref 256),(.ref 256)]),#[]⟩ ::
⟨(.type "builtin_function_or_method"),none,(.fields #[(.builtin "object.__init_subclass__"),(.ref 256)]),#[]⟩ ::
⟨(.type "tuple"),none,(.seq #[(.ref 256)] 0),#[]⟩ ::
⟨(.type "builtin_function_or_method"),none,(.fields #[(.builtin "type.__prepare__"),(.type "type")]),#[]⟩ ::
⟨(.type "dict"),none,(.dict #[hE P "__module__" 534 (.str "knotwise.moves" 430),hE P "__qualname__" 536 (.str "Uncurl" 535),hE P "__firstlineno__" 538 (.int 132 537),hE P "__init__" 546 (.ref 274),hE P "told" 553 (.ref 281),hE P "refuse" 561 (.ref 288),hE P "done" 569 (.ref 295),hE P "back" 581 (.ref 302),hE P "renamed" 589 (.ref 309),hE P "__static_attributes__" 591 (.ref 310)] 10),#[]⟩ ::
⟨(.type "tuple"),none,(.seq #[] 0),#[]⟩ ::
⟨.none,none,(.fields #[(.int 134 0),(.int 4 0),(.ref 273),(.int 137 0),(.int 4 0),(.ref 280),(.int 140 0),(.int 4 0),(.ref 287),(.int 144 0),(.int 4 0),(.ref 294),(.int 148 0),(.int 4 0),(.ref 301),(.int 156 0),(.int 4 0),(.ref 308)]),#[]⟩ ::
hC "Uncurl" 529 [hI 132,hI 0,hI 0,hI 0,hI 0,hR 264,(.bool .false),hI 181,hR 265,hN,hN,hN,hN,hI 532,hI 132,hS 533] ::
⟨(.type "frame"),none,.plain,#[(some (.ref 266)),(some (.ref 3)),(some (.ref 263)),none,(some (.str "knotwise.moves" 430)),none,(some (.ref 0))]⟩ ::
⟨(.type "tuple"),none,(.seq #[] 0),#[]⟩ ::
⟨.none,none,(.fields #[]),#[]⟩ ::
⟨(.type "tuple"),none,(.seq #[(.str "self" 542),(.str "name" 543)] 0),#[]⟩ ::
⟨(.type "tuple"),none,(.seq #[] 0),#[]⟩ ::
hG (jm 36 0) "__init__" "Uncurl.__init__" 0 0 ::
⟨(.type "code"),none,(.fields #[(.str "__init__" 539),(.str "Uncurl.__init__" 540),(.str "/claim/cut.py" 541),(.int 134 0),(.int 2 0),(.int 0 0),(.int 0 0),(.int 3 0),(.ref 268),(.bool .true),(.int 181 0),(.ref 269),.none,(.ref 270),(.ref 271),(.ref 272),(.int 544 0),(.int 134 0),(.str "/claim/cut.py" 545)]),#[]⟩ ::
hM 36 0 "__init__" "Uncurl.__init__" (.str "knotwise.moves" 430) (.ref 273) ::
⟨(.type "tuple"),none,(.seq #[] 0),#[]⟩ ::
⟨.none,none,(.fields #[]),#[]⟩ ::
⟨(.type "tuple"),none,(.seq #[(.str "self" 550)] 0),#[]⟩ ::
⟨(.type "tuple"),none,(.seq #[] 0),#[]⟩ ::
hG (jm 36 1) "told" "Uncurl.told" 0 0 ::
⟨(.type "code"),none,(.fields #[(.str "told" 547),(.str "Uncurl.told" 548),(.str "/claim/cut.py" 549),(.int 137 0),(.int 1 0),(.int 0 0),(.int 0 0),(.int 3 0),(.ref 275),(.bool .true),(.int 181 0),(.ref 276),.none,(.ref 277),(.ref 278),(.ref 279),(.int 551 0),(.int 137 0),(.str "/claim/cut.py" 552)]),#[]⟩ ::
hM 36 1 "told" "Uncurl.told" (.str "knotwise.moves" 430) (.ref 280) ::
⟨(.type "tuple"),none,(.seq #[] 0),#[]⟩ ::
⟨.none,none,(.fields #[]),#[]⟩ ::
⟨(.type "tuple"),none,(.seq #[(.str "self" 557),(.str "drawing" 558)] 0),#[]⟩ ::
⟨(.type "tuple"),none,(.seq #[] 0),#[]⟩ ::
hG (jm 36 2) "refuse" "Uncurl.refuse" 0 0 ::
⟨(.type "code"),none,(.fields #[(.str "refuse" 554),(.str "Uncurl.refuse" 555),(.str "/claim/cut.py" 556),(.int 140 0),(.int 2 0),(.int 0 0),(.int 0 0),(.int 3 0),(.ref 282),(.bool .true),(.int 181 0),(.ref 283),.none,(.ref 284),(.ref 285),(.ref 286),(.int 559 0),(.int 140 0),(.str "/claim/cut.py" 560)]),#[]⟩ ::
hM 36 2 "refuse" "Uncurl.refuse" (.str "knotwise.moves" 430) (.ref 287) ::
⟨(.type "tuple"),none,(.seq #[] 0),#[]⟩ ::
⟨.none,none,(.fields #[]),#[]⟩ ::
⟨(.type "tuple"),none,(.seq #[(.str "self" 565),(.str "drawing" 566)] 0),#[]⟩ ::
⟨(.type "tuple"),none,(.seq #[] 0),#[]⟩ ::
hG (jm 36 3) "done" "Uncurl.done" 0 0 ::
⟨(.type "code"),none,(.fields #[(.str "done" 562),(.str "Uncurl.done" 563),(.str "/claim/cut.py" 564),(.int 144 0),(.int 2 0),(.int 0 0),(.int 0 0),(.int 3 0),(.ref 289),(.bool .true),(.int 181 0),(.ref 290),.none,(.ref 291),(.ref 292),(.ref 293),(.int 567 0),(.int 144 0),(.str "/claim/cut.py" 568)]),#[]⟩ ::
hM 36 3 "done" "Uncurl.done" (.str "knotwise.moves" 430) (.ref 294) ::
⟨(.type "tuple"),none,(.seq #[] 0),#[]⟩ ::
⟨.none,none,(.fields #[]),#[]⟩ ::
⟨(.type "tuple"),none,(.seq #[(.str "self" 573),(.str "drawing" 574),(.str "over" 575),(.str "under" 576),(.str "first" 577),(.str "spot" 578)] 0),#[]⟩ ::
⟨(.type "tuple"),none,(.seq #[] 0),#[]⟩ ::
hG (jm 36 4) "back" "Uncurl.back" 0 0 ::
⟨(.type "code"),none,(.fields #[(.str "back" 570),(.str "Uncurl.back" 571),(.str "/claim/cut.py" 572),(.int 148 0),(.int 2 0),(.int 0 0),(.int 0 0),(.int 3 0),(.ref 296),(.bool .true),(.int 181 0),(.ref 297),.none,(.ref 298),(.ref 299),(.ref 300),(.int 579 0),(.int 148 0),(.str "/claim/cut.py" 580)]),#[]⟩ ::
hM 36 4 "back" "Uncurl.back" (.str "knotwise.moves" 430) (.ref 301) ::
⟨(.type "tuple"),none,(.seq #[] 0),#[]⟩ ::
⟨.none,none,(.fields #[]),#[]⟩ ::
⟨(.type "tuple"),none,(.seq #[(.str "self" 585),(.str "names" 586)] 0),#[]⟩ ::
⟨(.type "tuple"),none,(.seq #[] 0),#[]⟩ ::
hG (jm 36 5) "renamed" "Uncurl.renamed" 0 0 ::
⟨(.type "code"),none,(.fields #[(.str "renamed" 582),(.str "Uncurl.renamed" 583),(.str "/claim/cut.py" 584),(.int 156 0),(.int 2 0),(.int 0 0),(.int 0 0),(.int 3 0),(.ref 303),(.bool .true),(.int 181 0),(.ref 304),.none,(.ref 305),(.ref 306),(.ref 307),(.int 587 0),(.int 156 0),(.str "/claim/cut.py" 588)]),#[]⟩ ::
hM 36 5 "renamed" "Uncurl.renamed" (.str "knotwise.moves" 430) (.ref 308) ::
⟨(.type "tuple"),none,(.seq #[(.str "name" 590)] 0),#[]⟩ ::
⟨(.type "dict"),none,(.dict #[hE P "__module__" 534 (.str "knotwise.moves" 430),hE P "__firstlineno__" 538 (.int 132 537),hE P "__init__" 546 (.ref 274),hE P "told" 553 (.ref 281),hE P "refuse" 561 (.ref 288),hE P "done" 569 (.ref 295),hE P "back" 581 (.ref 302),hE P "renamed" 589 (.ref 309),hE P "__static_attributes__" 591 (.ref 310),hE P "__doc__" 592 .none] 2),#[]⟩ ::
⟨(.type "type"),none,(.cls ⟨"Uncurl",[(.ref 256)],[(.ref 312),(.ref 256),(.type "object")],311,"Uncurl",.true,[],[],.false,none,.false⟩),#[(some (.ref 261)),none,(some (.str "Uncurl" 527)),(some (.str "Uncurl" 535)),(some (.builtin "object.__new__")),(some (.bool .true))]⟩ ::
⟨(.type "super"),none,(.fields #[(.ref 312),(.ref 312),(.ref 312)]),#[]⟩ ::
⟨(.type "builtin_function_or_method"),none,(.fields #[(.builtin "object.__init_subclass__"),(.ref 312)]),#[]⟩ ::
⟨(.type "tuple"),none,(.seq #[(.ref 256)] 0),#[]⟩ ::
⟨(.type "builtin_function_or_method"),none,(.fields #[(.builtin "type.__prepare__"),(.type "type")]),#[]⟩ ::
⟨(.type "dict"),none,(.dict #[hE P "__module__" 602 (.str "knotwise.moves" 430),hE P "__qualname__" 604 (.str "Curl" 603),hE P "__firstlineno__" 606 (.int 158 605),hE P "__init__" 617 (.ref 328),hE P "told" 624 (.ref 335),hE P "done" 633 (.ref 342),hE P "back" 641 (.ref 349),hE P "renamed" 649 (.ref 356),hE P "__static_attributes__" 654 (.ref 357)] 9),#[]⟩ ::
⟨(.type "tuple"),none,(.seq #[] 0),#[]⟩ ::
⟨.none,none,(.fields #[(.int 160 0),(.int 4 0),(.ref 327),(.int 166 0),(.int 4 0),(.ref 334),(.int 169 0),(.int 4 0),(.ref 341),(.int 174 0),(.int 4 0),(.ref 348),(.int 178 0),(.int 4 0),(.ref 355)]),#[]⟩ ::
hC "Curl" 597 [hI 158,hI 0,hI 0,hI 0,hI 0,hR 318,(.bool .false),hI 181,hR 319,hN,hN,hN,hN,hI 600,hI 158,hS 601] ::
⟨(.type "frame"),none,.plain,#[(some (.ref 320)),(some (.ref 3)),(some (.ref 317)),none,(some (.str "knotwise.moves" 430)),none,(some (.ref 0))]⟩ ::
⟨(.type "tuple"),none,(.seq #[] 0),#[]⟩ ::
⟨.none,none,(.fields #[]),#[]⟩ ::
⟨(.type "tuple"),none,(.seq #[(.str "self" 610),(.str "name" 611),(.str "spot" 612),(.str "first" 613),(.str "hand" 614)] 0),#[]⟩ ::
⟨(.type "tuple"),none,(.seq #[] 0),#[]⟩ ::
hG (jm 37 0) "__init__" "Curl.__init__" 0 0 ::
⟨(.type "code"),none,(.fields #[(.str "__init__" 607),(.str "Curl.__init__" 608),(.str "/claim/cut.py" 609),(.int 160 0),(.int 5 0),(.int 0 0),(.int 0 0),(.int 3 0),(.ref 322),(.bool .true),(.int 181 0),(.ref 323),.none,(.ref 324),(.ref 325),(.ref 326),(.int 615 0),(.int 160 0),(.str "/claim/cut.py" 616)]),#[]⟩ ::
hM 37 0 "__init__" "Curl.__init__" (.str "knotwise.moves" 430) (.ref 327) ::
⟨(.type "tuple"),none,(.seq #[] 0),#[]⟩ ::
⟨.none,none,(.fields #[]),#[]⟩ ::
⟨(.type "tuple"),none,(.seq #[(.str "self" 621)] 0),#[]⟩ ::
⟨(.type "tuple"),none,(.seq #[] 0),#[]⟩ ::
hG (jm 37 1) "told" "Curl.told" 0 0 ::
⟨(.type "code"),none,(.fields #[(.str "told" 618),(.str "Curl.told" 619),(.str "/claim/cut.py" 620),(.int 166 0),(.int 1 0),(.int 0 0),(.int 0 0),(.int 3 0),(.ref 329),(.bool .true),(.int 181 0),(.ref 330),.none,(.ref 331),(.ref 332),(.ref 333),(.int 622 0),(.int 166 0),(.str "/claim/cut.py" 623)]),#[]⟩ ::
hM 37 1 "told" "Curl.told" (.str "knotwise.moves" 430) (.ref 334) ::
⟨(.type "tuple"),none,(.seq #[] 0),#[]⟩ ::
⟨.none,none,(.fields #[]),#[]⟩ ::
⟨(.type "tuple"),none,(.seq #[(.str "self" 628),(.str "drawing" 629),(.str "passings" 630)] 0),#[]⟩ ::
⟨(.type "tuple"),none,(.seq #[] 0),#[]⟩ ::
hG (jm 37 2) "done" "Curl.done" 0 0 ::
⟨(.type "code"),none,(.fields #[(.str "done" 625),(.str "Curl.done" 626),(.str "/claim/cut.py" 627),(.int 169 0),(.int 2 0),(.int 0 0),(.int 0 0),(.int 3 0),(.ref 336),(.bool .true),(.int 181 0),(.ref 337),.none,(.ref 338),(.ref 339),(.ref 340),(.int 631 0),(.int 169 0),(.str "/claim/cut.py" 632)]),#[]⟩ ::
hM 37 2 "done" "Curl.done" (.str "knotwise.moves" 430) (.ref 341) ::
⟨(.type "tuple"),none,(.seq #[] 0),#[]⟩ ::
⟨.none,none,(.fields #[]),#[]⟩ ::
⟨(.type "tuple"),none,(.seq #[(.str "self" 637),(.str "drawing" 638)] 0),#[]⟩ ::
⟨(.type "tuple"),none,(.seq #[] 0),#[]⟩ ::
hG (jm 37 3) "back" "Curl.back" 0 0 ::
⟨(.type "code"),none,(.fields #[(.str "back" 634),(.str "Curl.back" 635),(.str "/claim/cut.py" 636),(.int 174 0),(.int 2 0),(.int 0 0),(.int 0 0),(.int 3 0),(.ref 343),(.bool .true),(.int 181 0),(.ref 344),.none,(.ref 345),(.ref 346),(.ref 347),(.int 639 0),(.int 174 0),(.str "/claim/cut.py" 640)]),#[]⟩ ::
hM 37 3 "back" "Curl.back" (.str "knotwise.moves" 430) (.ref 348) ::
⟨(.type "tuple"),none,(.seq #[] 0),#[]⟩ ::
⟨.none,none,(.fields #[]),#[]⟩ ::
⟨(.type "tuple"),none,(.seq #[(.str "self" 645),(.str "names" 646)] 0),#[]⟩ ::
⟨(.type "tuple"),none,(.seq #[] 0),#[]⟩ ::
hG (jm 37 4) "renamed" "Curl.renamed" 0 0 ::
⟨(.type "code"),none,(.fields #[(.str "renamed" 642),(.str "Curl.renamed" 643),(.str "/claim/cut.py" 644),(.int 178 0),(.int 2 0),(.int 0 0),(.int 0 0),(.int 3 0),(.ref 350),(.bool .true),(.int 181 0),(.ref 351),.none,(.ref 352),(.ref 353),(.ref 354),(.int 647 0),(.int 178 0),(.str "/claim/cut.py" 648)]),#[]⟩ ::
hM 37 4 "renamed" "Curl.renamed" (.str "knotwise.moves" 430) (.ref 355) ::
⟨(.type "tuple"),none,(.seq #[(.str "first" 650),(.str "hand" 651),(.str "name" 652),(.str "spot" 653)] 0),#[]⟩ ::
⟨(.type "dict"),none,(.dict #[hE P "__module__" 602 (.str "knotwise.moves" 430),hE P "__firstlineno__" 606 (.int 158 605),hE P "__init__" 617 (.ref 328),hE P "told" 624 (.ref 335),hE P "done" 633 (.ref 342),hE P "back" 641 (.ref 349),hE P "renamed" 649 (.ref 356),hE P "__static_attributes__" 654 (.ref 357),hE P "__doc__" 655 .none] 2),#[]⟩ ::
⟨(.type "type"),none,(.cls ⟨"Curl",[(.ref 256)],[(.ref 359),(.ref 256),(.type "object")],358,"Curl",.true,[],[],.false,none,.false⟩),#[(some (.ref 315)),none,(some (.str "Curl" 595)),(some (.str "Curl" 603)),(some (.builtin "object.__new__")),(some (.bool .true))]⟩ ::
⟨(.type "super"),none,(.fields #[(.ref 359),(.ref 359),(.ref 359)]),#[]⟩ ::
⟨(.type "builtin_function_or_method"),none,(.fields #[(.builtin "object.__init_subclass__"),(.ref 359)]),#[]⟩ ::
⟨(.type "tuple"),none,(.seq #[(.ref 256)] 0),#[]⟩ ::
⟨(.type "builtin_function_or_method"),none,(.fields #[(.builtin "type.__prepare__"),(.type "type")]),#[]⟩ ::
⟨(.type "dict"),none,(.dict #[hE P "__module__" 665 (.str "knotwise.moves" 430),hE P "__qualname__" 667 (.str "Part" 666),hE P "__firstlineno__" 669 (.int 180 668),hE P "__init__" 678 (.ref 375),hE P "told" 685 (.ref 382),hE P "refuse" 693 (.ref 389),hE P "done" 701 (.ref 396),hE P "back" 717 (.ref 403),hE P "renamed" 725 (.ref 410),hE P "__static_attributes__" 728 (.ref 411)] 10),#[]⟩ ::
⟨(.type "tuple"),none,(.seq #[] 0),#[]⟩ ::
⟨.none,none,(.fields #[(.int 182 0),(.int 4 0),(.ref 374),(.int 186 0),(.int 4 0),(.ref 381),(.int 189 0),(.int 4 0),(.ref 388),(.int 193 0),(.int 4 0),(.ref 395),(.int 197 0),(.int 4 0),(.ref 402),(.int 209 0),(.int 4 0),(.ref 409)]),#[]⟩ ::
hC "Part" 660 [hI 180,hI 0,hI 0,hI 0,hI 0,hR 365,(.bool .false),hI 181,hR 366,hN,hN,hN,hN,hI 663,hI 180,hS 664] ::
⟨(.type "frame"),none,.plain,#[(some (.ref 367)),(some (.ref 3)),(some (.ref 364)),none,(some (.str "knotwise.moves" 430)),none,(some (.ref 0))]⟩ ::
⟨(.type "tuple"),none,(.seq #[] 0),#[]⟩ ::
⟨.none,none,(.fields #[]),#[]⟩ ::
⟨(.type "tuple"),none,(.seq #[(.str "self" 673),(.str "name" 674),(.str "second" 675)] 0),#[]⟩ ::
⟨(.type "tuple"),none,(.seq #[] 0),#[]⟩ ::
hG (jm 38 0) "__init__" "Part.__init__" 0 0 ::
⟨(.type "code"),none,(.fields #[(.str "__init__" 670),(.str "Part.__init__" 671),(.str "/claim/cut.py" 672),(.int 182 0),(.int 3 0),(.int 0 0),(.int 0 0),(.int 3 0),(.ref 369),(.bool .true),(.int 181 0),(.ref 370),.none,(.ref 371),(.ref 372),(.ref 373),(.int 676 0),(.int 182 0),(.str "/claim/cut.py" 677)]),#[]⟩ ::
hM 38 0 "__init__" "Part.__init__" (.str "knotwise.moves" 430) (.ref 374) ::
⟨(.type "tuple"),none,(.seq #[] 0),#[]⟩ ::
⟨.none,none,(.fields #[]),#[]⟩ ::
⟨(.type "tuple"),none,(.seq #[(.str "self" 682)] 0),#[]⟩ ::
⟨(.type "tuple"),none,(.seq #[] 0),#[]⟩ ::
hG (jm 38 1) "told" "Part.told" 0 0 ::
⟨(.type "code"),none,(.fields #[(.str "told" 679),(.str "Part.told" 680),(.str "/claim/cut.py" 681),(.int 186 0),(.int 1 0),(.int 0 0),(.int 0 0),(.int 3 0),(.ref 376),(.bool .true),(.int 181 0),(.ref 377),.none,(.ref 378),(.ref 379),(.ref 380),(.int 683 0),(.int 186 0),(.str "/claim/cut.py" 684)]),#[]⟩ ::
hM 38 1 "told" "Part.told" (.str "knotwise.moves" 430) (.ref 381) ::
⟨(.type "tuple"),none,(.seq #[] 0),#[]⟩ ::
⟨.none,none,(.fields #[]),#[]⟩ ::
⟨(.type "tuple"),none,(.seq #[(.str "self" 689),(.str "drawing" 690)] 0),#[]⟩ ::
⟨(.type "tuple"),none,(.seq #[] 0),#[]⟩ ::
hG (jm 38 2) "refuse" "Part.refuse" 0 0 ::
⟨(.type "code"),none,(.fields #[(.str "refuse" 686),(.str "Part.refuse" 687),(.str "/claim/cut.py" 688),(.int 189 0),(.int 2 0),(.int 0 0),(.int 0 0),(.int 3 0),(.ref 383),(.bool .true),(.int 181 0),(.ref 384),.none,(.ref 385),(.ref 386),(.ref 387),(.int 691 0),(.int 189 0),(.str "/claim/cut.py" 692)]),#[]⟩ ::
hM 38 2 "refuse" "Part.refuse" (.str "knotwise.moves" 430) (.ref 388) ::
⟨(.type "tuple"),none,(.seq #[] 0),#[]⟩ ::
⟨.none,none,(.fields #[]),#[]⟩ ::
⟨(.type "tuple"),none,(.seq #[(.str "self" 697),(.str "drawing" 698)] 0),#[]⟩ ::
⟨(.type "tuple"),none,(.seq #[] 0),#[]⟩ ::
hG (jm 38 3) "done" "Part.done" 0 0 ::
⟨(.type "code"),none,(.fields #[(.str "done" 694),(.str "Part.done" 695),(.str "/claim/cut.py" 696),(.int 193 0),(.int 2 0),(.int 0 0),(.int 0 0),(.int 3 0),(.ref 390),(.bool .true),(.int 181 0),(.ref 391),.none,(.ref 392),(.ref 393),(.ref 394),(.int 699 0),(.int 193 0),(.str "/claim/cut.py" 700)]),#[]⟩ ::
hM 38 3 "done" "Part.done" (.str "knotwise.moves" 430) (.ref 395) ::
⟨(.type "tuple"),none,(.seq #[] 0),#[]⟩ ::
⟨.none,none,(.fields #[]),#[]⟩ ::
⟨(.type "tuple"),none,(.seq #[(.str "self" 705),(.str "drawing" 706),(.str "first" 707),(.str "other" 708),(.str "lower" 709),(.str "overs" 710),(.str "unders" 711),(.str "over" 712),(.str "under" 713),(.str "turned" 714)] 0),#[]⟩ ::
⟨(.type "tuple"),none,(.seq #[] 0),#[]⟩ ::
hG (jm 38 4) "back" "Part.back" 0 0 ::
⟨(.type "code"),none,(.fields #[(.str "back" 702),(.str "Part.back" 703),(.str "/claim/cut.py" 704),(.int 197 0),(.int 2 0),(.int 0 0),(.int 0 0),(.int 3 0),(.ref 397),(.bool .true),(.int 181 0),(.ref 398),.none,(.ref 399),(.ref 400),(.ref 401),(.int 715 0),(.int 197 0),(.str "/claim/cut.py" 716)]),#[]⟩ ::
hM 38 4 "back" "Part.back" (.str "knotwise.moves" 430) (.ref 402) ::
⟨(.type "tuple"),none,(.seq #[] 0),#[]⟩ ::
⟨.none,none,(.fields #[]),#[]⟩ ::
⟨(.type "tuple"),none,(.seq #[(.str "self" 721),(.str "names" 722)] 0),#[]⟩ ::
⟨(.type "tuple"),none,(.seq #[] 0),#[]⟩ ::
hG (jm 38 5) "renamed" "Part.renamed" 0 0 ::
⟨(.type "code"),none,(.fields #[(.str "renamed" 718),(.str "Part.renamed" 719),(.str "/claim/cut.py" 720),(.int 209 0),(.int 2 0),(.int 0 0),(.int 0 0),(.int 3 0),(.ref 404),(.bool .true),(.int 181 0),(.ref 405),.none,(.ref 406),(.ref 407),(.ref 408),(.int 723 0),(.int 209 0),(.str "/claim/cut.py" 724)]),#[]⟩ ::
hM 38 5 "renamed" "Part.renamed" (.str "knotwise.moves" 430) (.ref 409) ::
⟨(.type "tuple"),none,(.seq #[(.str "name" 726),(.str "second" 727)] 0),#[]⟩ ::
⟨(.type "dict"),none,(.dict #[hE P "__module__" 665 (.str "knotwise.moves" 430),hE P "__firstlineno__" 669 (.int 180 668),hE P "__init__" 678 (.ref 375),hE P "told" 685 (.ref 382),hE P "refuse" 693 (.ref 389),hE P "done" 701 (.ref 396),hE P "back" 717 (.ref 403),hE P "renamed" 725 (.ref 410),hE P "__static_attributes__" 728 (.ref 411),hE P "__doc__" 729 .none] 2),#[]⟩ ::
⟨(.type "type"),none,(.cls ⟨"Part",[(.ref 256)],[(.ref 413),(.ref 256),(.type "object")],412,"Part",.true,[],[],.false,none,.false⟩),#[(some (.ref 362)),none,(some (.str "Part" 658)),(some (.str "Part" 666)),(some (.builtin "object.__new__")),(some (.bool .true))]⟩ ::
⟨(.type "super"),none,(.fields #[(.ref 413),(.ref 413),(.ref 413)]),#[]⟩ ::
⟨(.type "builtin_function_or_method"),none,(.fields #[(.builtin "object.__init_subclass__"),(.ref 413)]),#[]⟩ ::
⟨(.type "tuple"),none,(.seq #[(.ref 256)] 0),#[]⟩ ::
⟨(.type "builtin_function_or_method"),none,(.fields #[(.builtin "type.__prepare__"),(.type "type")]),#[]⟩ ::
⟨(.type "dict"),none,(.dict #[hE P "__module__" 739 (.str "knotwise.moves" 430),hE P "__qualname__" 741 (.str "Lay" 740),hE P "__firstlineno__" 743 (.int 211 742),hE P "__init__" 756 (.ref 429),hE P "told" 763 (.ref 436),hE P "passings" 771 (.ref 443),hE P "done" 781 (.ref 450),hE P "back" 789 (.ref 457),hE P "renamed" 801 (.ref 464),hE P "__static_attributes__" 808 (.ref 465)] 10),#[]⟩ ::
⟨(.type "tuple"),none,(.seq #[] 0),#[]⟩ ::
⟨.none,none,(.fields #[(.int 213 0),(.int 4 0),(.ref 428),(.int 221 0),(.int 4 0),(.ref 435),(.int 224 0),(.int 4 0),(.ref 442),(.int 227 0),(.int 4 0),(.ref 449),(.int 235 0),(.int 4 0),(.ref 456),(.int 239 0),(.int 4 0),(.ref 463)]),#[]⟩ ::
hC "Lay" 734 [hI 211,hI 0,hI 0,hI 0,hI 0,hR 419,(.bool .false),hI 181,hR 420,hN,hN,hN,hN,hI 737,hI 211,hS 738] ::
⟨(.type "frame"),none,.plain,#[(some (.ref 421)),(some (.ref 3)),(some (.ref 418)),none,(some (.str "knotwise.moves" 430)),none,(some (.ref 0))]⟩ ::
⟨(.type "tuple"),none,(.seq #[] 0),#[]⟩ ::
⟨.none,none,(.fields #[]),#[]⟩ ::
⟨(.type "tuple"),none,(.seq #[(.str "self" 747),(.str "name" 748),(.str "second" 749),(.str "over" 750),(.str "under" 751),(.str "turned" 752),(.str "hand" 753)] 0),#[]⟩ ::
⟨(.type "tuple"),none,(.seq #[] 0),#[]⟩ ::
hG (jm 39 0) "__init__" "Lay.__init__" 0 0 ::
⟨(.type "code"),none,(.fields #[(.str "__init__" 744),(.str "Lay.__init__" 745),(.str "/claim/cut.py" 746),(.int 213 0),(.int 7 0),(.int 0 0),(.int 0 0),(.int 3 0),(.ref 423),(.bool .true),(.int 181 0),(.ref 424),.none,(.ref 425),(.ref 426),(.ref 427),(.int 754 0),(.int 213 0),(.str "/claim/cut.py" 755)]),#[]⟩ ::
hM 39 0 "__init__" "Lay.__init__" (.str "knotwise.moves" 430) (.ref 428) ::
⟨(.type "tuple"),none,(.seq #[] 0),#[]⟩ ::
⟨.none,none,(.fields #[]),#[]⟩ ::
⟨(.type "tuple"),none,(.seq #[(.str "self" 760)] 0),#[]⟩ ::
⟨(.type "tuple"),none,(.seq #[] 0),#[]⟩ ::
hG (jm 39 1) "told" "Lay.told" 0 0 ::
⟨(.type "code"),none,(.fields #[(.str "told" 757),(.str "Lay.told" 758),(.str "/claim/cut.py" 759),(.int 221 0),(.int 1 0),(.int 0 0),(.int 0 0),(.int 3 0),(.ref 430),(.bool .true),(.int 181 0),(.ref 431),.none,(.ref 432),(.ref 433),(.ref 434),(.int 761 0),(.int 221 0),(.str "/claim/cut.py" 762)]),#[]⟩ ::
hM 39 1 "told" "Lay.told" (.str "knotwise.moves" 430) (.ref 435) ::
⟨(.type "tuple"),none,(.seq #[] 0),#[]⟩ ::
⟨.none,none,(.fields #[]),#[]⟩ ::
⟨(.type "tuple"),none,(.seq #[(.str "self" 767),(.str "way" 768)] 0),#[]⟩ ::
⟨(.type "tuple"),none,(.seq #[] 0),#[]⟩ ::
hG (jm 39 2) "passings" "Lay.passings" 0 0 ::
⟨(.type "code"),none,(.fields #[(.str "passings" 764),(.str "Lay.passings" 765),(.str "/claim/cut.py" 766),(.int 224 0),(.int 2 0),(.int 0 0),(.int 0 0),(.int 3 0),(.ref 437),(.bool .true),(.int 181 0),(.ref 438),.none,(.ref 439),(.ref 440),(.ref 441),(.int 769 0),(.int 224 0),(.str "/claim/cut.py" 770)]),#[]⟩ ::
hM 39 2 "passings" "Lay.passings" (.str "knotwise.moves" 430) (.ref 442) ::
⟨(.type "tuple"),none,(.seq #[] 0),#[]⟩ ::
⟨.none,none,(.fields #[]),#[]⟩ ::
⟨(.type "tuple"),none,(.seq #[(.str "self" 775),(.str "drawing" 776),(.str "above" 777),(.str "unders" 778)] 0),#[]⟩ ::
⟨(.type "tuple"),none,(.seq #[] 0),#[]⟩ ::
hG (jm 39 3) "done" "Lay.done" 0 0 ::
⟨(.type "code"),none,(.fields #[(.str "done" 772),(.str "Lay.done" 773),(.str "/claim/cut.py" 774),(.int 227 0),(.int 2 0),(.int 0 0),(.int 0 0),(.int 3 0),(.ref 444),(.bool .true),(.int 181 0),(.ref 445),.none,(.ref 446),(.ref 447),(.ref 448),(.int 779 0),(.int 227 0),(.str "/claim/cut.py" 780)]),#[]⟩ ::
hM 39 3 "done" "Lay.done" (.str "knotwise.moves" 430) (.ref 449) ::
⟨(.type "tuple"),none,(.seq #[] 0),#[]⟩ ::
⟨.none,none,(.fields #[]),#[]⟩ ::
⟨(.type "tuple"),none,(.seq #[(.str "self" 785),(.str "drawing" 786)] 0),#[]⟩ ::
⟨(.type "tuple"),none,(.seq #[] 0),#[]⟩ ::
hG (jm 39 4) "back" "Lay.back" 0 0 ::
⟨(.type "code"),none,(.fields #[(.str "back" 782),(.str "Lay.back" 783),(.str "/claim/cut.py" 784),(.int 235 0),(.int 2 0),(.int 0 0),(.int 0 0),(.int 3 0),(.ref 451),(.bool .true),(.int 181 0),(.ref 452),.none,(.ref 453),(.ref 454),(.ref 455),(.int 787 0),(.int 235 0),(.str "/claim/cut.py" 788)]),#[]⟩ ::
hM 39 4 "back" "Lay.back" (.str "knotwise.moves" 430) (.ref 456) ::
⟨(.type "tuple"),none,(.seq #[] 0),#[]⟩ ::
⟨.none,none,(.fields #[]),#[]⟩ ::
⟨(.type "tuple"),none,(.seq #[(.str "self" 793),(.str "names" 794),(.str "name" 795),(.str "second" 796),(.str "over" 797),(.str "under" 798)] 0),#[]⟩ ::
⟨(.type "tuple"),none,(.seq #[] 0),#[]⟩ ::
hG (jm 39 5) "renamed" "Lay.renamed" 0 0 ::
⟨(.type "code"),none,(.fields #[(.str "renamed" 790),(.str "Lay.renamed" 791),(.str "/claim/cut.py" 792),(.int 239 0),(.int 2 0),(.int 0 0),(.int 0 0),(.int 3 0),(.ref 458),(.bool .true),(.int 181 0),(.ref 459),.none,(.ref 460),(.ref 461),(.ref 462),(.int 799 0),(.int 239 0),(.str "/claim/cut.py" 800)]),#[]⟩ ::
hM 39 5 "renamed" "Lay.renamed" (.str "knotwise.moves" 430) (.ref 463) ::
⟨(.type "tuple"),none,(.seq #[(.str "hand" 802),(.str "name" 803),(.str "over" 804),(.str "second" 805),(.str "turned" 806),(.str "under" 807)] 0),#[]⟩ ::
⟨(.type "dict"),none,(.dict #[hE P "__module__" 739 (.str "knotwise.moves" 430),hE P "__firstlineno__" 743 (.int 211 742),hE P "__init__" 756 (.ref 429),hE P "told" 763 (.ref 436),hE P "passings" 771 (.ref 443),hE P "done" 781 (.ref 450),hE P "back" 789 (.ref 457),hE P "renamed" 801 (.ref 464),hE P "__static_attributes__" 808 (.ref 465),hE P "__doc__" 809 .none] 2),#[]⟩ ::
⟨(.type "type"),none,(.cls ⟨"Lay",[(.ref 256)],[(.ref 467),(.ref 256),(.type "object")],466,"Lay",.true,[],[],.false,none,.false⟩),#[(some (.ref 416)),none,(some (.str "Lay" 732)),(some (.str "Lay" 740)),(some (.builtin "object.__new__")),(some (.bool .true))]⟩ ::
⟨(.type "super"),none,(.fields #[(.ref 467),(.ref 467),(.ref 467)]),#[]⟩ ::
⟨(.type "builtin_function_or_method"),none,(.fields #[(.builtin "object.__init_subclass__"),(.ref 467)]),#[]⟩ :: []
noncomputable def Zl(w:World)(os:lD):nG:=⟨K2.bt (cL4 w.params),470,{},ko [],iS,812,os⟩
noncomputable def hL:List Str:=[]
theorem h_z (P:sG):((gb P).isNs bo,(gb P).objs.size,(gb P).nsMap bo "__annotations__")=(true,11,(some (.ref 6))):=by kernel_rfl
theorem T7(w:World)(os:lD):K2.Ud iR PySem.Challenge.rw_knotwise_k21_curls_there_and_back.row.prog w 11 (some (.ref 6)) 12 (K2.Nq w.params os) (topStub PySem.Challenge.rw_knotwise_k21_curls_there_and_back.row.prog)=some (Zp w os,⟨denote iR cC,cC,⟨0,0,0,0⟩,[oe cQ]⟩):=by kernel_rfl
theorem T9(w:World)(os:lD):segRunT iR PySem.Challenge.rw_knotwise_k21_curls_there_and_back.row.prog w 11 (some (.ref 6)) 1 1 (Zp w os) (blockOf cB cE cC ⟨0,0,0,0⟩ [oe cQ])=some (.next,Zo w os,cC,⟨0,0,0,0⟩):=by kernel_rfl
theorem Xw(w:World)(os:lD):segRunT iR PySem.Challenge.rw_knotwise_k21_curls_there_and_back.row.prog w 11 (some (.ref 6)) 1 1261 (Zo w os) (piecesOf (cB.take 7) cE cC ⟨0,0,0,0⟩ [oe cQ])=some (.next,Zn w os,cC,⟨12,0,13,8⟩):=by kernel_rfl
theorem Xv(w:World)(os:lD):segRunT iR PySem.Challenge.rw_knotwise_k21_curls_there_and_back.row.prog w 11 (some (.ref 6)) 1 1536 (Zn w os) (piecesOf ((cB.drop 7).take 30) cE cC ⟨12,0,13,8⟩ [oe cQ])=some (.next,Zm w os,cC,⟨132,0,157,54⟩):=by kernel_rfl
theorem Xu(w:World)(os:lD):segRunT iR PySem.Challenge.rw_knotwise_k21_curls_there_and_back.row.prog w 11 (some (.ref 6)) 1 1214 (Zm w os) (piecesOf (((cB.drop 7).drop 30).take 3) cE cC ⟨132,0,157,54⟩ [oe cQ])=some (.next,Zl w os,cC,⟨211,0,244,69⟩):=by kernel_rfl
theorem T8(w:World)(os:lD):(K2.ua iR PySem.Challenge.rw_knotwise_k21_curls_there_and_back.row.prog w 11 (some (.ref 6)) 1029 (Zl w os) (restOf (((cB.drop 7).drop 30).drop 3) cE cC ⟨211,0,244,69⟩ [oe cQ])).map (fun s=>K2.PC PySem.Challenge.rw_knotwise_k21_curls_there_and_back.row.prog hQ hL (K2.P6 PySem.Challenge.rw_knotwise_k21_curls_there_and_back hQ) (fun s=>hA.map s.heap.get?) w.params s.abs)=some (true,KQ hQ hL,(hK w.params).map fun p=>some p.2):=by kernel_rfl
theorem Rh(w:World)(os:lD):(topFrom iR (PySem.Challenge.rw_knotwise_k21_curls_there_and_back).row.prog w (12+(1+(1261+(1536+(1214+1029))))) ⟨gb w.params,ko [],iS,tY,os⟩).map (fun s=>(openSeen hQ hL (md (PySem.Challenge.rw_knotwise_k21_curls_there_and_back).row.prog.main.body) (K2.P6 PySem.Challenge.rw_knotwise_k21_curls_there_and_back hQ) true s,hA.map s.heap.get?))=some (KQ hQ hL,(hK w.params).map fun p=>some p.2) :=
 K2.Oj (Yf:=fun s=>hA.map s.heap.get?) (Ya:=fun w=>(hK w.params).map fun p=>some p.2) (h_z w.params) (T8 w os) fun _ k=>K2.KA (T7 w os) (T9 w os) <| K2.zI 7 (Xw w os) <| K2.zI 30 (Xv w os) <| K2.zI 3 (Xu w os) <| k
theorem Rg:(PySem.Challenge.rw_knotwise_k21_curls_there_and_back).wellSaid=true:=by kernel_rfl
theorem Rf:K2.Iq PySem.Challenge.rw_knotwise_k21_curls_there_and_back hQ=true:=by kernel_rfl
end
section
variable {P:bO} {w:World} {K:ao} {mg:Str->Option Value} {base:Heap}
theorem yD:bC ["_law_script","_law_k"] ["_law_script","_law_k"] (aT (top 43)):=lZ
theorem zt {f:Addr} {fd:ax} (F:kB K "_law_cell_at" "_law_cell_at" (top 43) f fd) (cK:mg "len" = none):dP P w K mg base eB 1 f fd ["_law_script","_law_k"] (bH K cW) :=
 l8 F yD rK fun _ _ _ _ _ _ hr=>have hu:=hr.units; have hu0:=hr.P7; (az (cR (cM (QC hu0) (aY 1) (cq cL rfl cK fC (af (aY 0) ay)) (dZ _)) (aC (bc (bx (ba hu (aY 0) (aY 1) (fun _ _=>rfl))))) bP)
 (aC (bc (bx aG))))
theorem wO:bC ["_law_names_here","_law_number","_law_name"] ["_law_names_here","_law_number"] (aT (top 47)):=lZ
theorem E9 {f:Addr} {fd:ax} (F:kB K "_law_free" "_law_free" (top 47) f fd):dP P w K mg base eB 1 f fd ["_law_names_here","_law_number"] (bH K ia) :=
 l8 F wO xp fun _ _ _ _ _ _ hr=>have nd:=wO.nd; have hu:=hr.units; (az (lh (i:=2) nd rfl (cS fK aG (cS jL (aY 1) aG)))
 (az (JQ bb (cM (GK hu) (aY 2) (aY 0) (by with_unfolding_all rfl)) (aC (lh (i:=2) nd rfl (cS fK aG (cS jL (aY 2) aG)))))
 (aC (bc (bx (aY 2))))))
theorem um:bC ["_law_drawing","_law_names_here","_law_row","_law_passing"] ["_law_drawing"] (aT (top 46)):=lZ
theorem C9 {f:Addr} {fd:ax} (F:kB K "_law_names" "_law_names" (top 46) f fd):dP P w K mg base eB 1 f fd ["_law_drawing"] (bH K gh) :=
 l8 F um vB fun _ _ _ _ _ _ hr=>have nd:=um.nd; have hu:=hr.units; (az (lh (i:=1) nd rfl (fh ay))
 (az (dg bb rfl (dM (aY 0)) (oq (i:=2) nd rfl) (aC (dg bb rfl (dM (aY 2)) (oq (i:=3) nd rfl) (aC (cR (cM (iK hu) (ba hu (aY 3) aG (fun _ _=>rfl)) aG (dZ _)) (aC (eO (iX bq cm ck fm fT (aY 1) (af (ba hu (aY 3) aG (fun _ _=>rfl)) ay)))) bP)))))
 (aC (bc (bx (aY 1))))))
theorem Cj:bC ["_law_cell"] ["_law_cell"] (aT (top 45)):=lZ
theorem Dc {f:Addr} {fd:ax} (F:kB K "_law_mixed" "_law_mixed" (top 45) f fd):dP P w K mg base eB 1 f fd ["_law_cell"] (bH K j3) :=
 l8 F Cj vC fun _ _ _ _ _ _ hr=>(aC (bc (bx (cS jL (cS CF (cS jL (aY 0) aG) aG) aG))))
theorem qA:bC ["_law_drawing","_law_cell","_law_name","_law_rest","_law_hand","_law_made","_law_way","_law_row"] ["_law_drawing","_law_cell"] (aT (top 48)):=lZ
theorem zr {f:Addr} {fd:ax} (F:kB K "_law_crossed" "_law_crossed" (top 48) f fd) (cK:mg "len" = none) (gm:mg "list" = none) (cY:mg "range" = none) {tJ:Addr} {tO:ax} (iq:kS P w K mg base eB 1 tJ tO "_law_free" ["_law_names_here","_law_number"] (bH K ia)) {q0:Addr} {rq:ax} (gE:kS P w K mg base eB 1 q0 rq "_law_names" ["_law_drawing"] (bH K gh)) {Fj:Addr} {Ft:ax} (ny:kS P w K mg base eB 1 Fj Ft "_law_mixed" ["_law_cell"] (bH K j3)):dP P w K mg base eB 2 f fd ["_law_drawing","_law_cell"] (bH K gS) :=
 l8 F qA rJ fun _ _ _ _ _ _ hr=>have nd:=qA.nd; have hu:=hr.units; (az (lh (i:=2) nd rfl (aX iq.ok (hr.mono (by decide)) rfl iq.mg iq.kp iq.bi (af (aX gE.ok (hr.mono (by decide)) rfl gE.mg gE.kp gE.bi (af (aY 0) ay)) (af (aY 1) ay))))
 (az (lh (i:=3) nd rfl (aX ny.ok (hr.mono (by decide)) rfl ny.mg ny.kp ny.bi (af (aY 1) ay)))
 (az (lh (i:=4) nd rfl (cS uW aG (cS CF aG (cS jL (aY 3) aG))))
 (az (lh (i:=3) nd rfl (cS uX (aY 3) aG))
 (az (qM ["_law_row"] (sc:=aT (top 48)) (XN:=["_law_drawing","_law_cell","_law_name","_law_rest","_law_hand","_law_made","_law_way","_law_row"]) (i:=5) nd rfl rfl (dM (aY 0)) (fun _ _ _ _=>(oq (i:=0) (show (["_law_row"]:List Str).Nodup by decide +kernel) rfl)) (fun _ _ _ _=>.none) (fun _ _ _ _=>(mq mD rfl gm pI (af (aY 0) ay))))
 (az (dg bb rfl (gK rfl cY aG) (oq (i:=6) nd rfl) (az (lh (i:=7) nd rfl (ba hu (aY 5) (cS jL (aY 3) (cq cL rfl cK fC (af (aY 5) ay))) (fun _ _=>rfl)))
 (az (lh (i:=3) nd rfl (cS uX (aY 3) (cq cL rfl cK fC (af (aY 5) ay))))
 (az (eO (iX bq PySem.F.slot_list_insert PySem.F.type_list_insert fm GS (aY 7) (af (cS jL (aY 3) (cS fK (cq cL rfl cK fC (af (aY 7) ay)) aG)) (af (dN (af (aY 2) (af (aY 6) (af (aY 4) ay)))) ay))))
 (aC (lh (i:=3) nd rfl (cS uX (aY 3) (cq cL rfl cK fC (af (aY 7) ay)))))))))
 (aC (bc (bx (aY 5))))))))))
theorem uj:bC ["_law_drawing","_law_spots_here","_law_k","_law_passing"] ["_law_drawing"] (aT (top 49)):=lZ
theorem C7 {f:Addr} {fd:ax} (F:kB K "_law_spots" "_law_spots" (top 49) f fd) (cK:mg "len" = none) (cY:mg "range" = none):dP P w K mg base eB 1 f fd ["_law_drawing"] (bH K fe) :=
 l8 F uj vA fun _ _ _ _ _ _ hr=>have nd:=uj.nd; have hu:=hr.units; (az (lh (i:=1) nd rfl (fh ay))
 (az (dg bb rfl (gK rfl cY (cq cL rfl cK fC (af (aY 0) ay))) (oq (i:=2) nd rfl) (az (cR (eA (cw (ba hu (aY 0) (aY 2) (fun _ _=>rfl)))) (aC (eO (iX bq cm ck fm fT (aY 1) (af (dN (af (aY 2) (af aG ay))) ay)))) bP)
 (aC (dg bb rfl (dM (ba hu (aY 0) (aY 2) (fun _ _=>rfl))) (oq (i:=3) nd rfl) (aC (eO (iX bq cm ck fm fT (aY 1) (af (dN (af (ba hu (aY 3) aG (fun _ _=>rfl)) (af (ba hu (aY 3) aG (fun _ _=>rfl)) ay))) ay))))))))
 (aC (bc (bx (aY 1))))))
theorem uk:bC ["_law_drawing","_law_made","_law_row"] ["_law_drawing"] (aT (top 60)):=lZ
theorem C8 {f:Addr} {fd:ax} (F:kB K "_law_other" "_law_other" (top 60) f fd) (qQ:mg "reversed" = none):dP P w K mg base eB 1 f fd ["_law_drawing"] (bH K lU) :=
 l8 F uk DJ fun _ _ _ _ _ _ hr=>have nd:=uk.nd; have hu:=hr.units; (az (lh (i:=1) nd rfl (fh ay))
 (az (dg bb rfl (dM (aY 0)) (oq (i:=2) nd rfl) (aC (eO (iX bq cm ck fm fT (aY 1) (af (bx (qO ["_law_passing"] (sc:=aT (top 60)) (XN:=["_law_drawing","_law_made","_law_row"]) (OE rfl qQ (aY 2)) (fun _ _ _ _=>(oq (i:=0) (show (["_law_passing"]:List Str).Nodup by decide +kernel) rfl)) (fun _ _ _ _=>.none) (fun _ _ _ _=>(dN (af (ba hu (aY 0) aG (fun _ _=>rfl)) (af (ba hu (aY 0) aG (fun _ _=>rfl)) (af (GH B9 (ba hu (aY 0) aG (fun _ _=>rfl))) ay))))))) ay)))))
 (aC (bc (bx (aY 1))))))
theorem tw:bC ["self","name"] ["self","name"] (aT (jm 36 0)):=lZ
theorem tF {f:Addr} {fd:ax} (F:kB K "__init__" "Uncurl.__init__" (jm 36 0) f fd) (cZ:iw K "name" "Uncurl"):dP P w K mg base eB 1 f fd ["self","name"] (bH K dw) :=
 l8 F tw tT fun _ _ _ _ _ _ hr=>(aC (fu (iz cZ) (aY 0) (aY 1)))
theorem vT:bC ["self","name","spot","first","hand"] ["self","name","spot","first","hand"] (aT (jm 37 0)):=lZ
theorem wa {f:Addr} {fd:ax} (F:kB K "__init__" "Curl.__init__" (jm 37 0) f fd) (fM:iw K "name" "Curl") (kh:iw K "spot" "Curl") (iG:iw K "first" "Curl") (jg:iw K "hand" "Curl"):dP P w K mg base eB 1 f fd ["self","name","spot","first","hand"] (bH K eG) :=
 l8 F vT wD fun _ _ _ _ _ _ hr=>(az (fu (iz fM) (aY 0) (aY 1))
 (az (fu (iz kh) (aY 0) (aY 2))
 (az (fu (iz iG) (aY 0) (aY 3))
 (aC (fu (iz jg) (aY 0) (aY 4))))))
theorem vS:bC ["self","name","second"] ["self","name","second"] (aT (jm 38 0)):=lZ
theorem v9 {f:Addr} {fd:ax} (F:kB K "__init__" "Part.__init__" (jm 38 0) f fd) (Dv:iw K "name" "Part") (zL:iw K "second" "Part"):dP P w K mg base eB 1 f fd ["self","name","second"] (bH K jd) :=
 l8 F vS wC fun _ _ _ _ _ _ hr=>(az (fu (iz Dv) (aY 0) (aY 1))
 (aC (fu (iz zL) (aY 0) (aY 2))))
theorem xA:bC ["self","name","second","over","under","turned","hand"] ["self","name","second","over","under","turned","hand"] (aT (jm 39 0)):=lZ
theorem xG {f:Addr} {fd:ax} (F:kB K "__init__" "Lay.__init__" (jm 39 0) f fd) (FA:iw K "name" "Lay") (A5:iw K "second" "Lay") (Fy:iw K "over" "Lay") (Dw:iw K "under" "Lay") (A4:iw K "turned" "Lay") (FC:iw K "hand" "Lay"):dP P w K mg base eB 1 f fd ["self","name","second","over","under","turned","hand"] (bH K jH) :=
 l8 F xA xP fun _ _ _ _ _ _ hr=>(az (fu (iz FA) (aY 0) (aY 1))
 (az (fu (iz A5) (aY 0) (aY 2))
 (az (fu (iz Fy) (aY 0) (aY 3))
 (az (fu (iz Dw) (aY 0) (aY 4))
 (az (fu (iz A4) (aY 0) (aY 5))
 (aC (fu (iz FC) (aY 0) (aY 6))))))))
theorem uq:bC ["self","name","second","third","turn"] ["self","name","second","third","turn"] (aT (jm 40 0)):=lZ
theorem vg {f:Addr} {fd:ax} (F:kB K "__init__" "Slide.__init__" (jm 40 0) f fd) (A3:iw K "name" "Slide") (xK:iw K "second" "Slide") (zK:iw K "third" "Slide") (A2:iw K "turn" "Slide"):dP P w K mg base eB 1 f fd ["self","name","second","third","turn"] (bH K iN) :=
 l8 F uq vD fun _ _ _ _ _ _ hr=>(az (fu (iz A3) (aY 0) (aY 1))
 (az (fu (iz xK) (aY 0) (aY 2))
 (az (fu (iz zK) (aY 0) (aY 3))
 (aC (fu (iz A2) (aY 0) (aY 4))))))
theorem Gz:bC ["told"] ["told"] (aT (top 41)):=lZ
theorem Hv {f:Addr} {fd:ax} (F:kB K "move_of" "move_of" (top 41) f fd) {rN:Addr} {gv:Addr} {gw:ax} (bE:DS P w K mg base 1 gv gw rN "Uncurl" ["self","name"] (bH K dw)) {Ab:Addr} {ix:Addr} {iy:ax} (bV:DS P w K mg base 1 ix iy Ab "Curl" ["self","name","spot","first","hand"] (bH K eG)) {RM:Addr} {xI:Addr} {xJ:ax} (iA:DS P w K mg base 1 xI xJ RM "Part" ["self","name","second"] (bH K jd)) {UC:Addr} {zB:Addr} {zG:ax} (i7:DS P w K mg base 1 zB zG UC "Lay" ["self","name","second","over","under","turned","hand"] (bH K jH)) {Ph:Addr} {wj:Addr} {wx:ax} (g6:DS P w K mg base 1 wj wx Ph "Slide" ["self","name","second","third","turn"] (bH K iN)):dP P w K mg base eB 3 f fd ["told"] (bH K o7) :=
 l8 F Gz HQ fun _ _ _ _ _ _ hr=>have hu:=hr.units; (az (cR (cM (iK hu) (ba hu (aY 0) aG (fun _ _=>rfl)) kX (dZ _)) (aC (bc (bx (j9 bE.OR bE.ns bE.ok (hr.mono (by decide)) rfl bE.mg bE.bi (af (ba hu (aY 0) aG (fun _ _=>rfl)) ay))))) bP)
 (az (cR (cM (iK hu) (ba hu (aY 0) aG (fun _ _=>rfl)) kX (dZ _)) (aC (bc (bx (j9 bV.OR bV.ns bV.ok (hr.mono (by decide)) rfl bV.mg bV.bi (af (ba hu (aY 0) aG (fun _ _=>rfl)) (af (ba hu (aY 0) aG (fun _ _=>rfl)) (af (ba hu (aY 0) aG (fun _ _=>rfl)) (af (ba hu (aY 0) aG (fun _ _=>rfl)) ay)))))))) bP)
 (az (cR (cM (iK hu) (ba hu (aY 0) aG (fun _ _=>rfl)) kX (dZ _)) (aC (bc (bx (j9 iA.OR iA.ns iA.ok (hr.mono (by decide)) rfl iA.mg iA.bi (af (ba hu (aY 0) aG (fun _ _=>rfl)) (af (ba hu (aY 0) aG (fun _ _=>rfl)) ay)))))) bP)
 (az (cR (cM (iK hu) (ba hu (aY 0) aG (fun _ _=>rfl)) kX (dZ _)) (aC (bc (bx (j9 i7.OR i7.ns i7.ok (hr.mono (by decide)) rfl i7.mg i7.bi (af (ba hu (aY 0) aG (fun _ _=>rfl)) (af (ba hu (aY 0) aG (fun _ _=>rfl)) (af (ba hu (aY 0) aG (fun _ _=>rfl)) (af (ba hu (aY 0) aG (fun _ _=>rfl)) (af (ba hu (aY 0) aG (fun _ _=>rfl)) (af (ba hu (aY 0) aG (fun _ _=>rfl)) ay)))))))))) bP)
 (az (cR (cM (iK hu) (ba hu (aY 0) aG (fun _ _=>rfl)) kX (dZ _)) (aC (bc (bx (j9 g6.OR g6.ns g6.ok (hr.mono (by decide)) rfl g6.mg g6.bi (af (ba hu (aY 0) aG (fun _ _=>rfl)) (af (ba hu (aY 0) aG (fun _ _=>rfl)) (af (ba hu (aY 0) aG (fun _ _=>rfl)) (af (ba hu (aY 0) aG (fun _ _=>rfl)) ay)))))))) bP)
 (aC kM))))))
theorem Ci:bC ["_law_found"] ["_law_found"] (aT (top 44)):=lZ
theorem C4 {f:Addr} {fd:ax} (F:kB K "_law_whole" "_law_whole" (top 44) f fd) (CG:mg "bool" = none) (GP:mg "int" = none) (bW:mg "isinstance" = none):dP P w K mg base eB 1 f fd ["_law_found"] (bH K fc) :=
 l8 F Ci DH fun _ _ _ _ _ _ hr=>(aC (bc (bx (IH (kY "int" (by decide) rfl bW rfl GP RE (aY 0)) (CD (OH (kY "bool" (by decide) rfl bW rfl CG Pb (aY 0))))))))
theorem sQ:bC ["_law_found","_law_due","_law_part"] ["_law_found","_law_due"] (aT (top 52)):=lZ
theorem AL {f:Addr} {fd:ax} (F:kB K "_law_wholes" "_law_wholes" (top 52) f fd) (bW:mg "isinstance" = none) (cK:mg "len" = none) (jy:mg "tuple" = none) {ll:Addr} {lq:ax} (dO:kS P w K mg base eB 1 ll lq "_law_whole" ["_law_found"] (bH K fc)):dP P w K mg base eB 2 f fd ["_law_found","_law_due"] (bH K cG) :=
 l8 F sQ gM fun _ _ _ _ _ _ hr=>have nd:=sQ.nd; have hu:=hr.units; (az (cR (DZ.pt (j8 (eA (cw (kY "tuple" (by decide) rfl bW rfl jy vp (aY 0)))) (jf (cM (lE hu) (cq cL rfl cK fC (af (aY 0) ay)) (cq cL rfl cK fC (af (aY 1) ay)) (dZ _))))) (aC (bc (bx fA))) bP)
 (az (dg bb rfl (dM (aY 0)) (oq (i:=2) nd rfl) (aC (cR (eA (cw (aX dO.ok (hr.mono (by decide)) rfl dO.mg dO.kp dO.bi (af (aY 2) ay)))) (aC (bc (bx fA))) bP)))
 (aC (bc (bx (rV (iK hu) (aY 0) (aY 1) (dZ _)))))))
theorem ui:bC ["_law_found","_law_due","_law_k"] ["_law_found","_law_due"] (aT (top 54)):=lZ
theorem C6 {f:Addr} {fd:ax} (F:kB K "_law_tells" "_law_tells" (top 54) f fd) (bW:mg "isinstance" = none) (cK:mg "len" = none) (cY:mg "range" = none) (vU:mg "str" = none) (jy:mg "tuple" = none) {kb:Addr} {kd:ax} (dm:kS P w K mg base eB 2 kb kd "_law_wholes" ["_law_found","_law_due"] (bH K cG)) {ll:Addr} {lq:ax} (dO:kS P w K mg base eB 1 ll lq "_law_whole" ["_law_found"] (bH K fc)):dP P w K mg base eB 3 f fd ["_law_found","_law_due"] (bH K di) :=
 l8 F ui iu fun _ _ _ _ _ _ hr=>have nd:=ui.nd; have hu:=hr.units; (az (cR (DZ.pt (j8 (eA (cw (kY "tuple" (by decide) rfl bW rfl jy vp (aY 0)))) (jf (cM (lE hu) (cq cL rfl cK fC (af (aY 0) ay)) (cq cL rfl cK fC (af (aY 1) ay)) (dZ _))))) (aC (bc (bx fA))) bP)
 (az (cR (DZ.pt (j8 (eA (cw (kY "str" (by decide) rfl bW rfl vU Nm (ba hu (aY 0) aG (fun _ _=>rfl))))) (jf (cM (lE hu) (ba hu (aY 0) aG (fun _ _=>rfl)) (ba hu (aY 1) aG (fun _ _=>rfl)) (dZ _))))) (aC (bc (bx fA))) bP)
 (az (dg bb rfl (GG rfl cY aG (cq cL rfl cK fC (af (aY 1) ay))) (oq (i:=2) nd rfl) (aC (cR (cw (kY "tuple" (by decide) rfl bW rfl jy vp (ba hu (aY 1) (aY 2) (fun _ _=>rfl)))) (aC (cR (eA (cw (aX dm.ok (hr.mono (by decide)) rfl dm.mg dm.kp dm.bi (af (ba hu (aY 0) (aY 2) (fun _ _=>rfl)) (af (ba hu (aY 1) (aY 2) (fun _ _=>rfl)) ay))))) (aC (bc (bx fA))) bP)) (aC (cR (DZ.pt (j8 (eA (cw (aX dO.ok (hr.mono (by decide)) rfl dO.mg dO.kp dO.bi (af (ba hu (aY 0) (aY 2) (fun _ _=>rfl)) ay)))) (jf (cM (lE hu) (ba hu (aY 0) (aY 2) (fun _ _=>rfl)) (ba hu (aY 1) (aY 2) (fun _ _=>rfl)) (dZ _))))) (aC (bc (bx fA))) bP)))))
 (aC (bc (bx fA))))))
theorem Ck:bC ["self"] ["self"] (aT (jm 37 1)):=lZ
theorem Df {f:Addr} {fd:ax} (F:kB K "told" "Curl.told" (jm 37 1) f fd) (jg:iw K "hand" "Curl") (iG:iw K "first" "Curl") (kh:iw K "spot" "Curl") (fM:iw K "name" "Curl"):dP P w K mg base eB 1 f fd ["self"] (bH K gi) :=
 l8 F Ck DM fun _ _ _ _ _ _ hr=>(aC (bc (bx (dN (af kX (af (dW (iz fM) (aY 0)) (af (dW (iz kh) (aY 0)) (af (dW (iz iG) (aY 0)) (af (dW (iz jg) (aY 0)) ay)))))))))
theorem uo:bC ["_law_drawing","_law_made","_law_row","_law_at"] ["_law_drawing"] (aT (top 51)):=lZ
theorem De {f:Addr} {fd:ax} (F:kB K "_law_begun" "_law_begun" (top 51) f fd) (vW:mg "min" = none):dP P w K mg base eB 1 f fd ["_law_drawing"] (bH K ff) :=
 l8 F uo DL fun _ _ _ _ _ _ hr=>have nd:=uo.nd; have hu:=hr.units; (az (lh (i:=1) nd rfl (fh ay))
 (az (dg bb rfl (dM (aY 0)) (oq (i:=2) nd rfl) (az (lh (i:=3) nd rfl aG)
 (az (cR (cw (aY 2)) (aC (lh (i:=3) nd rfl (iX bq iH kG fm (rW hu) (aY 2) (af (cq (BQ rfl hu) rfl vW Np (af (aY 2) ay)) ay)))) bP)
 (aC (eO (iX bq cm ck fm fT (aY 1) (af (bx (cS fK (fP (aY 2) (gU (aY 3)) gW) (fP (aY 2) gW (gU (aY 3))))) ay)))))))
 (aC (bc (bx (aY 1))))))
theorem yC:bC ["_law_drawing","_law_spot","_law_passings","_law_made","_law_k","_law_row","_law_passing"] ["_law_drawing","_law_spot","_law_passings"] (aT (top 50)):=lZ
theorem Hw {f:Addr} {fd:ax} (F:kB K "_law_put" "_law_put" (top 50) f fd) (cK:mg "len" = none) (gm:mg "list" = none) (cY:mg "range" = none):dP P w K mg base eB 1 f fd ["_law_drawing","_law_spot","_law_passings"] (bH K kK) :=
 l8 F yC HS fun _ _ _ _ _ _ hr=>have nd:=yC.nd; have hu:=hr.units; (az (lh (i:=3) nd rfl (fh ay))
 (az (dg bb rfl (gK rfl cY (cq cL rfl cK fC (af (aY 0) ay))) (oq (i:=4) nd rfl) (az (lh (i:=5) nd rfl (fh ay))
 (az (cR (cM (iK hu) (aY 1) (dN (af (aY 4) (af aG ay))) (dZ _)) (aC (lh (i:=5) nd rfl (mq mD rfl gm pI (af (aY 2) ay)))) bP)
 (az (dg bb rfl (dM (ba hu (aY 0) (aY 4) (fun _ _=>rfl))) (oq (i:=6) nd rfl) (az (eO (iX bq cm ck fm fT (aY 5) (af (bx (aY 6)) ay)))
 (aC (cR (cM (iK hu) (aY 1) (dN (af (ba hu (aY 6) aG (fun _ _=>rfl)) (af (ba hu (aY 6) aG (fun _ _=>rfl)) ay))) (dZ _)) (aC (lh (i:=5) nd rfl (cS fK (aY 5) (aY 2)))) bP))))
 (aC (eO (iX bq cm ck fm fT (aY 3) (af (bx (aY 5)) ay))))))))
 (aC (bc (bx (aY 3))))))
theorem sR:bC ["_law_drawing","_law_told","_law_fresh"] ["_law_drawing","_law_told"] (aT (top 57)):=lZ
theorem AM {f:Addr} {fd:ax} (F:kB K "_law_behind" "_law_behind" (top 57) f fd) {i4:Addr} {i5:ax} (cO:kS P w K mg base eB 1 i4 i5 "_law_begun" ["_law_drawing"] (bH K ff)) {wg:Addr} {wt:ax} (jj:kS P w K mg base eB 1 wg wt "_law_put" ["_law_drawing","_law_spot","_law_passings"] (bH K kK)):dP P w K mg base eB 2 f fd ["_law_drawing","_law_told"] (bH K gJ) :=
 l8 F sR A9 fun _ _ _ _ _ _ hr=>have nd:=sR.nd; have hu:=hr.units; (az (lh (i:=2) nd rfl (fh (af (dN (af (ba hu (aY 1) aG (fun _ _=>rfl)) (af (ba hu (aY 1) aG (fun _ _=>rfl)) (af (ba hu (aY 1) aG (fun _ _=>rfl)) ay)))) (af (dN (af (ba hu (aY 1) aG (fun _ _=>rfl)) (af (cS uW aG (ba hu (aY 1) aG (fun _ _=>rfl))) (af (ba hu (aY 1) aG (fun _ _=>rfl)) ay)))) ay))))
 (aC (bc (bx (aX cO.ok (hr.mono (by decide)) rfl cO.mg cO.kp cO.bi (af (aX jj.ok (hr.mono (by decide)) rfl jj.mg jj.kp jj.bi (af (aY 0) (af (ba hu (aY 1) aG (fun _ _=>rfl)) (af (aY 2) ay)))) ay))))))
theorem qz:bC ["rows","passings","row"] ["rows"] (aT (top 10)):=lZ
theorem zq {f:Addr} {fd:ax} (F:kB K "passings_of" "passings_of" (top 10) f fd):dP P w K mg base eB 1 f fd ["rows"] (bH K gR) :=
 l8 F qz zU fun _ _ _ _ _ _ hr=>have nd:=qz.nd; (az (lh (i:=1) nd rfl (fh ay))
 (az (dg bb rfl (dM (aY 0)) (oq (i:=2) nd rfl) (aC (eO (iX bq PySem.F.slot_list_extend PySem.F.type_list_extend fm GU (aY 1) (af (aY 2) ay)))))
 (aC (bc (bx (aY 1))))))
theorem Eo:bC ["drawing"] ["drawing"] (aT (top 13)):=lZ
theorem E7 {f:Addr} {fd:ax} (F:kB K "names_of" "names_of" (top 13) f fd) (vV:mg "sorted" = none) {nR:Addr} {nU:ax} (fj:kS P w K mg base eB 1 nR nU "passings_of" ["rows"] (bH K gR)):dP P w K mg base eB 2 f fd ["drawing"] (bH K h8) :=
 l8 F Eo xn fun _ _ _ _ _ _ hr=>have hu:=hr.units; (aC (bc (bx (cq (Dy rfl hu) rfl vV KD (af (qO ["passing"] (sc:=aT (top 13)) (XN:=["drawing"]) (dM (aX fj.ok (hr.mono (by decide)) rfl fj.mg fj.kp fj.bi (af (aY 0) ay))) (fun _ _ _ _=>(oq (i:=0) (show (["passing"]:List Str).Nodup by decide +kernel) rfl)) (fun _ _ _ _=>(.some (cM (iK hu) (ba hu (aY 0) aG (fun _ _=>rfl)) aG (dZ _)))) (fun _ _ _ _=>(ba hu (aY 0) aG (fun _ _=>rfl)))) ay)))))
theorem sP:bC ["drawing","names","taken","name"] ["drawing","names"] (aT (top 28)):=lZ
theorem AJ {f:Addr} {fd:ax} (F:kB K "refuse_new" "refuse_new" (top 28) f fd) (cK:mg "len" = none) {kH:Tok} (vm:mg "MOST_CROSSINGS" = some (.int 12 kH)) {tH:Addr} {tN:ax} (ip:kS P w K mg base eB 2 tH tN "names_of" ["drawing"] (bH K h8)):dP P w K mg base eB 3 f fd ["drawing","names"] (bH K kU) :=
 l8 F sP A7 fun _ _ _ _ _ _ hr=>have nd:=sP.nd; have hu:=hr.units; (az (lh (i:=2) nd rfl (aX ip.ok (hr.mono (by decide)) rfl ip.mg ip.kp ip.bi (af (aY 0) ay)))
 (az (cR (cM QD (cS fK (cq cL rfl cK fC (af (aY 2) ay)) (cq cL rfl cK fC (af (aY 1) ay))) (OJ rfl vm) (dZ _)) (aC kM) bP)
 (aC (dg bb rfl (dM (aY 1)) (oq (i:=3) nd rfl) (az (cR (cM (GK hu) (aY 3) (aY 2) (by with_unfolding_all rfl)) (aC kM) bP)
 (aC (eO (iX bq cm ck fm fT (aY 2) (af (aY 3) ay)))))))))
theorem Bn:bC ["row","start"] ["row"] (aT (top 11)):=lZ
theorem Ks {f:Addr} {fd:ax} (F:kB K "seated" "seated" (top 11) f fd) (vW:mg "min" = none):dP P w K mg base eB 1 f fd ["row"] (bH K ou) :=
 l8 F Bn BY fun _ _ _ _ _ _ hr=>have nd:=Bn.nd; have hu:=hr.units; (az (cR (eA (cw (aY 0))) (aC (bc (bx (fh ay)))) bP)
 (az (lh (i:=1) nd rfl (iX bq iH kG fm (rW hu) (aY 0) (af (cq (BQ rfl hu) rfl vW Np (af (aY 0) ay)) ay)))
 (aC (bc (bx (cS fK (fP (aY 0) (gU (aY 1)) gW) (fP (aY 0) gW (gU (aY 1)))))))))
theorem yA:bC ["rows"] ["rows"] (aT (top 12)):=lZ
theorem zo {f:Addr} {fd:ax} (F:kB K "seated_rows" "seated_rows" (top 12) f fd) {MW:Addr} {Na:ax} (vn:kS P w K mg base eB 1 MW Na "seated" ["row"] (bH K ou)):dP P w K mg base eB 2 f fd ["rows"] (bH K cx) :=
 l8 F yA rH fun _ _ _ _ _ _ hr=>(aC (bc (bx (qO ["row"] (sc:=aT (top 12)) (XN:=["rows"]) (dM (aY 0)) (fun _ _ _ _=>(oq (i:=0) (show (["row"]:List Str).Nodup by decide +kernel) rfl)) (fun _ _ _ _=>.none) (fun _ _ _ _=>(aX vn.ok (hr.mono (by decide)) rfl vn.mg vn.kp vn.bi (af (aY 0) ay)))))))
theorem En:bC ["row","string"] ["row","string"] (aT (top 15)):=lZ
theorem E6 {f:Addr} {fd:ax} (F:kB K "spots_on" "spots_on" (top 15) f fd):dP P w K mg base eB 1 f fd ["row","string"] (bH K hZ) :=
 l8 F En FK fun _ _ _ _ _ _ hr=>(az (cR (eA (cw (aY 0))) (aC (bc (bx (fh (af (dN (af (aY 1) (af aG ay))) ay))))) bP)
 (aC (bc (bx (qO ["passing"] (sc:=aT (top 15)) (XN:=["row","string"]) (dM (aY 0)) (fun _ _ _ _=>(oq (i:=0) (show (["passing"]:List Str).Nodup by decide +kernel) rfl)) (fun _ _ _ _=>.none) (fun _ _ _ _=>(fP (aY 0) gW (gU aG))))))))
theorem ug:bC ["drawing","spot","string","row"] ["drawing","spot"] (aT (top 17)):=lZ
theorem C3 {f:Addr} {fd:ax} (F:kB K "string_of" "string_of" (top 17) f fd) (pe:mg "enumerate" = none) {my:Addr} {mB:ax} (eQ:kS P w K mg base eB 1 my mB "spots_on" ["row","string"] (bH K hZ)):dP P w K mg base eB 2 f fd ["drawing","spot"] (bH K jc) :=
 l8 F ug DG fun _ _ _ _ _ _ hr=>have nd:=ug.nd; have hu:=hr.units; (az (dg bb rfl (L5 rfl pe (aY 0)) (IF rfl (rS (oq (i:=2) nd rfl) (rS (oq (i:=3) nd rfl) EB)) (rY (rY E3))) (aC (cR (cM (GK hu) (aY 1) (aX eQ.ok (hr.mono (by decide)) rfl eQ.mg eQ.kp eQ.bi (af (aY 3) (af (aY 2) ay))) (by with_unfolding_all rfl)) (aC (bc (bx (aY 2)))) bP)))
 (aC kM))
theorem wM:bC ["drawing","spot","passings","string","rows","place"] ["drawing","spot","passings"] (aT (top 29)):=lZ
theorem E5 {f:Addr} {fd:ax} (F:kB K "with_put" "with_put" (top 29) f fd) (gm:mg "list" = none) {qX:Addr} {rk:ax} (gz:kS P w K mg base eB 2 qX rk "string_of" ["drawing","spot"] (bH K jc)) {my:Addr} {mB:ax} (eQ:kS P w K mg base eB 1 my mB "spots_on" ["row","string"] (bH K hZ)):dP P w K mg base eB 3 f fd ["drawing","spot","passings"] (bH K mS) :=
 l8 F wM FJ fun _ _ _ _ _ _ hr=>have nd:=wM.nd; have hu:=hr.units; (az (lh (i:=3) nd rfl (aX gz.ok (hr.mono (by decide)) rfl gz.mg gz.kp gz.bi (af (aY 0) (af (aY 1) ay))))
 (az (lh (i:=4) nd rfl (mq mD rfl gm pI (af (aY 0) ay)))
 (az (lh (i:=5) nd rfl (cS fK (iX bq iH kG fm (rW hu) (aX eQ.ok (hr.mono (by decide)) rfl eQ.mg eQ.kp eQ.bi (af (ba hu (aY 4) (aY 3) (fun _ _=>rfl)) (af (aY 3) ay))) (af (aY 1) ay)) aG))
 (az (ID (cS fK (cS fK (fP (ba hu (aY 4) (aY 3) (fun _ _=>rfl)) gW (gU (aY 5))) (aY 2)) (fP (ba hu (aY 4) (aY 3) (fun _ _=>rfl)) (gU (aY 5)) gW)) (IG hu (aY 4) (aY 3)))
 (aC (bc (bx (aY 4))))))))
theorem ur:bC ["self","drawing","passings"] ["self","drawing"] (aT (jm 37 2)):=lZ
theorem Dg {f:Addr} {fd:ax} (F:kB K "done" "Curl.done" (jm 37 2) f fd) (fM:iw K "name" "Curl") (jg:iw K "hand" "Curl") (iG:iw K "first" "Curl") (kh:iw K "spot" "Curl") {Dj:Addr} {Ds:ax} (lX:kS P w K mg base eB 3 Dj Ds "refuse_new" ["drawing","names"] (bH K kU)) {nQ:Addr} {nT:ax} (fi:kS P w K mg base eB 2 nQ nT "seated_rows" ["rows"] (bH K cx)) {Hy:Addr} {HF:ax} (pF:kS P w K mg base eB 3 Hy HF "with_put" ["drawing","spot","passings"] (bH K mS)):dP P w K mg base eB 4 f fd ["self","drawing"] (bH K gj) :=
 l8 F ur DN fun _ _ _ _ _ _ hr=>have nd:=ur.nd; (az (eO (aX lX.ok (hr.mono (by decide)) rfl lX.mg lX.kp lX.bi (af (aY 1) (af (fh (af (dW (iz fM) (aY 0)) ay)) ay))))
 (az (lh (i:=2) nd rfl (fh (af (dN (af (dW (iz fM) (aY 0)) (af (dW (iz iG) (aY 0)) (af (dW (iz jg) (aY 0)) ay)))) (af (dN (af (dW (iz fM) (aY 0)) (af (cS uW aG (dW (iz iG) (aY 0))) (af (dW (iz jg) (aY 0)) ay)))) ay))))
 (aC (bc (bx (aX fi.ok (hr.mono (by decide)) rfl fi.mg fi.kp fi.bi (af (aX pF.ok (hr.mono (by decide)) rfl pF.mg pF.kp pF.bi (af (aY 1) (af (dW (iz kh) (aY 0)) (af (aY 2) ay)))) ay)))))))
theorem wN:bC ["_law_found","_law_due","_law_k","_law_j"] ["_law_found","_law_due"] (aT (top 53)):=lZ
theorem E8 {f:Addr} {fd:ax} (F:kB K "_law_same" "_law_same" (top 53) f fd) (bW:mg "isinstance" = none) (cK:mg "len" = none) (gm:mg "list" = none) (cY:mg "range" = none) {kb:Addr} {kd:ax} (dm:kS P w K mg base eB 2 kb kd "_law_wholes" ["_law_found","_law_due"] (bH K cG)):dP P w K mg base eB 3 f fd ["_law_found","_law_due"] (bH K k9) :=
 l8 F wN FL fun _ _ _ _ _ _ hr=>have nd:=wN.nd; have hu:=hr.units; (az (cR (DZ.pt (j8 (eA (cw (kY "list" (by decide) rfl bW rfl gm pI (aY 0)))) (jf (cM (lE hu) (cq cL rfl cK fC (af (aY 0) ay)) (cq cL rfl cK fC (af (aY 1) ay)) (dZ _))))) (aC (bc (bx fA))) bP)
 (az (dg bb rfl (gK rfl cY (cq cL rfl cK fC (af (aY 1) ay))) (oq (i:=2) nd rfl) (az (cR (DZ.pt (j8 (eA (cw (kY "list" (by decide) rfl bW rfl gm pI (ba hu (aY 0) (aY 2) (fun _ _=>rfl))))) (jf (cM (lE hu) (cq cL rfl cK fC (af (ba hu (aY 0) (aY 2) (fun _ _=>rfl)) ay)) (cq cL rfl cK fC (af (ba hu (aY 1) (aY 2) (fun _ _=>rfl)) ay)) (dZ _))))) (aC (bc (bx fA))) bP)
 (aC (dg bb rfl (gK rfl cY (cq cL rfl cK fC (af (ba hu (aY 1) (aY 2) (fun _ _=>rfl)) ay))) (oq (i:=3) nd rfl) (aC (cR (eA (cw (aX dm.ok (hr.mono (by decide)) rfl dm.mg dm.kp dm.bi (af (ba hu (ba hu (aY 0) (aY 2) (fun _ _=>rfl)) (aY 3) (fun _ _=>rfl)) (af (ba hu (ba hu (aY 1) (aY 2) (fun _ _=>rfl)) (aY 3) (fun _ _=>rfl)) ay))))) (aC (bc (bx fA))) bP))))))
 (aC (bc (bx fA)))))
theorem Cm:bC ["self","drawing"] ["self","drawing"] (aT (jm 37 3)):=lZ
theorem Dh {f:Addr} {fd:ax} (F:kB K "back" "Curl.back" (jm 37 3) f fd) (fM:iw K "name" "Curl") {pL:Addr} {rg:Addr} {rB:ax} (i9:Ba P w K mg base eB 4 rg rB pL "Curl" "done" ["self","drawing"] (bH K gj)) {rN:Addr} {gv:Addr} {gw:ax} (bE:DS P w K mg base 1 gv gw rN "Uncurl" ["self","name"] (bH K dw)):dP P w K mg base eB 5 f fd ["self","drawing"] (bH K j4) :=
 l8 F Cm DO fun _ _ _ _ _ _ hr=>(az (eO (kN (iE i9.me i9.ok (hr.mono (by decide)) i9.bi jz) (aY 0) (af (aY 1) ay)))
 (aC (bc (bx (j9 bE.OR bE.ns bE.ok (hr.mono (by decide)) rfl bE.mg bE.bi (af (dW (iz fM) (aY 0)) ay))))))
theorem yF:bC ["self"] ["self"] (aT (jm 36 1)):=lZ
theorem zu {f:Addr} {fd:ax} (F:kB K "told" "Uncurl.told" (jm 36 1) f fd) (cZ:iw K "name" "Uncurl"):dP P w K mg base eB 1 f fd ["self"] (bH K iU) :=
 l8 F yF zV fun _ _ _ _ _ _ hr=>(aC (bc (bx (dN (af kX (af (dW (iz cZ) (aY 0)) ay))))))
theorem mW:bC ["drawing","names","known","name"] ["drawing","names"] (aT (top 26)):=lZ
theorem ve {f:Addr} {fd:ax} (F:kB K "refuse_unknown" "refuse_unknown" (top 26) f fd) {tH:Addr} {tN:ax} (ip:kS P w K mg base eB 2 tH tN "names_of" ["drawing"] (bH K h8)):dP P w K mg base eB 3 f fd ["drawing","names"] (bH K iM) :=
 l8 F mW vw fun _ _ _ _ _ _ hr=>have nd:=mW.nd; have hu:=hr.units; (az (lh (i:=2) nd rfl (aX ip.ok (hr.mono (by decide)) rfl ip.mg ip.kp ip.bi (af (aY 0) ay)))
 (aC (dg bb rfl (dM (aY 1)) (oq (i:=3) nd rfl) (aC (cR (cM (l7 hu) (aY 3) (aY 2) (by with_unfolding_all rfl)) (aC kM) bP)))))
theorem xy:bC ["fits"] ["fits"] (aT (top 27)):=lZ
theorem xE {f:Addr} {fd:ax} (F:kB K "refuse_unfit" "refuse_unfit" (top 27) f fd):dP P w K mg base eB 1 f fd ["fits"] (bH K jF) :=
 l8 F xy xN fun _ _ _ _ _ _ hr=>(aC (cR (eA (cw (aY 0))) (aC kM) bP))
theorem Az:bC ["behind","one","other"] ["behind","one","other"] (aT (top 19)):=lZ
theorem AK {f:Addr} {fd:ax} (F:kB K "neighbours" "neighbours" (top 19) f fd):dP P w K mg base eB 1 f fd ["behind","one","other"] (bH K kW) :=
 l8 F Az A8 fun _ _ _ _ _ _ hr=>have hu:=hr.units; (aC (bc (bx (Qu (rV (iK hu) (ba hu (aY 0) (aY 1) (fun _ _=>rfl)) (aY 2) (dZ _)) (CD (rV (iK hu) (ba hu (aY 0) (aY 2) (fun _ _=>rfl)) (aY 1) (dZ _)))))))
theorem yB:bC ["drawing","behind","row","passing","follower"] ["drawing"] (aT (top 16)):=lZ
theorem Hu {f:Addr} {fd:ax} (F:kB K "next_of" "next_of" (top 16) f fd) (GN:mg "zip" = none):dP P w K mg base eB 1 f fd ["drawing"] (bH K kJ) :=
 l8 F yB HP fun _ _ _ _ _ _ hr=>have nd:=yB.nd; have hu:=hr.units; (az (lh (i:=1) nd rfl OI)
 (az (dg bb rfl (dM (aY 0)) (oq (i:=2) nd rfl) (aC (dg bb rfl (OD rfl GN (aY 2) (cS fK (fP (aY 2) (gU aG) gW) (fP (aY 2) gW (gU aG)))) (IF rfl (rS (oq (i:=3) nd rfl) (rS (oq (i:=4) nd rfl) EB)) (rY (rY E3))) (aC (ID (fP (aY 4) gW (gU aG)) (IG hu (aY 1) (fP (aY 3) gW (gU aG))))))))
 (aC (bc (bx (aY 1))))))
theorem yz:bC ["drawing","name"] ["drawing","name"] (aT (top 20)):=lZ
theorem zm {f:Addr} {fd:ax} (F:kB K "uncurl_fits" "uncurl_fits" (top 20) f fd) {Dk:Addr} {Dt:ax} (lY:kS P w K mg base eB 1 Dk Dt "neighbours" ["behind","one","other"] (bH K kW)) {we:Addr} {wo:ax} (ji:kS P w K mg base eB 1 we wo "next_of" ["drawing"] (bH K kJ)):dP P w K mg base eB 2 f fd ["drawing","name"] (bH K j0) :=
 l8 F yz zT fun _ _ _ _ _ _ hr=>(aC (bc (bx (aX lY.ok (hr.mono (by decide)) rfl lY.mg lY.kp lY.bi (af (aX ji.ok (hr.mono (by decide)) rfl ji.mg ji.kp ji.bi (af (aY 0) ay)) (af (dN (af (aY 1) (af aG ay))) (af (dN (af (aY 1) (af aG ay))) ay)))))))
theorem vR:bC ["self","drawing"] ["self","drawing"] (aT (jm 36 2)):=lZ
theorem v8 {f:Addr} {fd:ax} (F:kB K "refuse" "Uncurl.refuse" (jm 36 2) f fd) (cZ:iw K "name" "Uncurl") {wc:Addr} {wm:ax} (jh:kS P w K mg base eB 3 wc wm "refuse_unknown" ["drawing","names"] (bH K iM)) {zy:Addr} {zE:ax} (ki:kS P w K mg base eB 1 zy zE "refuse_unfit" ["fits"] (bH K jF)) {AN:Addr} {AV:ax} (k6:kS P w K mg base eB 2 AN AV "uncurl_fits" ["drawing","name"] (bH K j0)):dP P w K mg base eB 4 f fd ["self","drawing"] (bH K eF) :=
 l8 F vR wB fun _ _ _ _ _ _ hr=>(az (eO (aX jh.ok (hr.mono (by decide)) rfl jh.mg jh.kp jh.bi (af (aY 1) (af (fh (af (dW (iz cZ) (aY 0)) ay)) ay))))
 (aC (eO (aX ki.ok (hr.mono (by decide)) rfl ki.mg ki.kp ki.bi (af (aX k6.ok (hr.mono (by decide)) rfl k6.mg k6.kp k6.bi (af (aY 1) (af (dW (iz cZ) (aY 0)) ay))) ay)))))
theorem uf:bC ["drawing","names","rows","row"] ["drawing","names"] (aT (top 30)):=lZ
theorem C2 {f:Addr} {fd:ax} (F:kB K "taken_out" "taken_out" (top 30) f fd) {nQ:Addr} {nT:ax} (fi:kS P w K mg base eB 2 nQ nT "seated_rows" ["rows"] (bH K cx)):dP P w K mg base eB 3 f fd ["drawing","names"] (bH K lS) :=
 l8 F uf DE fun _ _ _ _ _ _ hr=>have nd:=uf.nd; have hu:=hr.units; (az (lh (i:=2) nd rfl (fh ay))
 (az (dg bb rfl (dM (aY 0)) (oq (i:=3) nd rfl) (aC (eO (iX bq cm ck fm fT (aY 2) (af (bx (qO ["passing","names"] (sc:=aT (top 30)) (XN:=["drawing","names","rows","row"]) (dM (aY 3)) (fun _ _ _ _=>(oq (i:=0) (show (["passing","names"]:List Str).Nodup by decide +kernel) rfl)) (fun _ _ _ _=>(.some (cM (l7 hu) (ba hu (aY 0) aG (fun _ _=>rfl)) (aY 1) (by with_unfolding_all rfl)))) (fun _ _ _ _=>(aY 0)))) ay)))))
 (aC (bc (bx (aX fi.ok (hr.mono (by decide)) rfl fi.mg fi.kp fi.bi (af (bx (aY 2)) ay)))))))
theorem yG:bC ["self","drawing"] ["self","drawing"] (aT (jm 36 3)):=lZ
theorem zv {f:Addr} {fd:ax} (F:kB K "done" "Uncurl.done" (jm 36 3) f fd) (cZ:iw K "name" "Uncurl") {kR:Addr} {lH:Addr} {lI:ax} (fB:Ba P w K mg base eB 4 lH lI kR "Uncurl" "refuse" ["self","drawing"] (bH K eF)) {Fg:Addr} {Fp:ax} (nq:kS P w K mg base eB 3 Fg Fp "taken_out" ["drawing","names"] (bH K lS)):dP P w K mg base eB 5 f fd ["self","drawing"] (bH K iV) :=
 l8 F yG zW fun _ _ _ _ _ _ hr=>(az (eO (kN (iE fB.me fB.ok (hr.mono (by decide)) fB.bi jz) (aY 0) (af (aY 1) ay)))
 (aC (bc (bx (aX nq.ok (hr.mono (by decide)) rfl nq.mg nq.kp nq.bi (af (aY 1) (af (fh (af (dW (iz cZ) (aY 0)) ay)) ay)))))))
theorem uh:bC ["_law_move","_law_drawing","_law_told","_law_handed","_law_behind_here","_law_turn","_law_made","_law_row","_law_back_here","_law_found"] ["_law_move","_law_drawing","_law_told"] (aT (top 58)):=lZ
theorem C5 {f:Addr} {fd:ax} (F:kB K "_law_there" "_law_there" (top 58) f fd) (gm:mg "list" = none) (cY:mg "range" = none) {pC:Addr} {pE:ax} (dG:kS P w K mg base eB 2 pC pE "_law_behind" ["_law_drawing","_law_told"] (bH K gJ)) {pL:Addr} {rg:Addr} {rB:ax} (i9:Ba P w K mg base eB 4 rg rB pL "Curl" "done" ["self","drawing"] (bH K gj)) {Hz:Addr} {HG:ax} (i6:kS P w K mg base eB 3 Hz HG "_law_same" ["_law_found","_law_due"] (bH K k9)) {DR:Addr} {Fm:Addr} {Fu:ax} (rG:Ba P w K mg base eB 5 Fm Fu DR "Curl" "back" ["self","drawing"] (bH K j4)) {qY:Addr} {rm:ax} (gB:kS P w K mg base eB 3 qY rm "_law_tells" ["_law_found","_law_due"] (bH K di)) {z8:Addr} {AQ:Addr} {AY:ax} (nX:Ba P w K mg base eB 1 AQ AY z8 "Uncurl" "told" ["self"] (bH K iU)) {z9:Addr} {AR:Addr} {AZ:ax} (nY:Ba P w K mg base eB 5 AR AZ z9 "Uncurl" "done" ["self","drawing"] (bH K iV)) {i4:Addr} {i5:ax} (cO:kS P w K mg base eB 1 i4 i5 "_law_begun" ["_law_drawing"] (bH K ff)):dP P w K mg base eB 6 f fd ["_law_move","_law_drawing","_law_told"] (bH K lT) :=
 l8 F uh DI fun _ _ _ _ _ _ hr=>have nd:=uh.nd; have hu:=hr.units; (az (CC (qM ["_law_row"] (sc:=aT (top 58)) (XN:=["_law_move","_law_drawing","_law_told","_law_handed","_law_behind_here","_law_turn","_law_made","_law_row","_law_back_here","_law_found"]) (i:=3) nd rfl rfl (dM (aY 1)) (fun _ _ _ _=>(oq (i:=0) (show (["_law_row"]:List Str).Nodup by decide +kernel) rfl)) (fun _ _ _ _=>.none) (fun _ _ _ _=>(mq mD rfl gm pI (af (aY 0) ay)))))
 (az (lh (i:=4) nd rfl (aX dG.ok (hr.mono (by decide)) rfl dG.mg dG.kp dG.bi (af (aY 1) (af (aY 2) ay))))
 (az (dg bb rfl (gK rfl cY aG) (oq (i:=5) nd rfl) (az (lh (i:=6) nd rfl (kN (iE i9.me i9.ok (hr.mono (by decide)) i9.bi jz) (aY 0) (af (aY 3) ay)))
 (az (cR (DZ.pt (j8 (eA (cw (aX i6.ok (hr.mono (by decide)) rfl i6.mg i6.kp i6.bi (af (aY 6) (af (aY 4) ay))))) (jf (cM (lE hu) (aY 3) (aY 1) (dZ _))))) (aC (bc (bx fA))) bP)
 (aC (dg bb rfl (dM (aY 6)) (oq (i:=7) nd rfl) (aC (eO (iX bq cm ck fm fT (aY 7) (af (dN (af aG (af aG (af aG ay)))) ay)))))))))
 (az (lh (i:=8) nd rfl (kN (iE rG.me rG.ok (hr.mono (by decide)) rG.bi jz) (aY 0) (af (aY 3) ay)))
 (az (cR (eA (cw (aX gB.ok (hr.mono (by decide)) rfl gB.mg gB.kp gB.bi (af (tD (iE nX.me nX.ok (hr.mono (by decide)) nX.bi jz) (aY 8)) (af (dN (af kX (af (ba hu (aY 2) aG (fun _ _=>rfl)) ay))) ay))))) (aC (bc (bx fA))) bP)
 (az (dg bb rfl (gK rfl cY aG) (oq (i:=5) nd rfl) (az (CC (qM ["_law_row"] (sc:=aT (top 58)) (XN:=["_law_move","_law_drawing","_law_told","_law_handed","_law_behind_here","_law_turn","_law_made","_law_row","_law_back_here","_law_found"]) (i:=6) nd rfl rfl (dM (aY 4)) (fun _ _ _ _=>(oq (i:=0) (show (["_law_row"]:List Str).Nodup by decide +kernel) rfl)) (fun _ _ _ _=>.none) (fun _ _ _ _=>(mq mD rfl gm pI (af (aY 0) ay)))))
 (az (lh (i:=9) nd rfl (kN (iE nY.me nY.ok (hr.mono (by decide)) nY.bi jz) (aY 8) (af (aY 6) ay)))
 (az (cR (eA (cw (aX i6.ok (hr.mono (by decide)) rfl i6.mg i6.kp i6.bi (af (aY 9) (af (aX cO.ok (hr.mono (by decide)) rfl cO.mg cO.kp cO.bi (af (aY 1) ay)) ay))))) (aC (bc (bx fA))) bP)
 (az (dg bb rfl (dM (aY 9)) (oq (i:=7) nd rfl) (aC (eO (iX bq cm ck fm fT (aY 7) (af (dN (af aG (af aG (af aG ay)))) ay)))))
 (aC (cR (cM (lE hu) (aY 6) (aY 4) (dZ _)) (aC (bc (bx fA))) bP)))))))
 (aC (bc (bx (rV (iK hu) (aY 3) (aY 1) (dZ _)))))))))))
theorem sO:bC ["drawing","spot","gone","string","row","start","left"] ["drawing","spot","gone"] (aT (top 31)):=lZ
theorem AI {f:Addr} {fd:ax} (F:kB K "spot_ahead" "spot_ahead" (top 31) f fd) {qX:Addr} {rk:ax} (gz:kS P w K mg base eB 2 qX rk "string_of" ["drawing","spot"] (bH K jc)) {my:Addr} {mB:ax} (eQ:kS P w K mg base eB 1 my mB "spots_on" ["row","string"] (bH K hZ)):dP P w K mg base eB 3 f fd ["drawing","spot","gone"] (bH K kT) :=
 l8 F sO A6 fun _ _ _ _ _ _ hr=>have nd:=sO.nd; have hu:=hr.units; (az (lh (i:=3) nd rfl (aX gz.ok (hr.mono (by decide)) rfl gz.mg gz.kp gz.bi (af (aY 0) (af (aY 1) ay))))
 (az (lh (i:=4) nd rfl (aX eQ.ok (hr.mono (by decide)) rfl eQ.mg eQ.kp eQ.bi (af (ba hu (aY 0) (aY 3) (fun _ _=>rfl)) (af (aY 3) ay))))
 (az (lh (i:=5) nd rfl (iX bq iH kG fm (rW hu) (aY 4) (af (aY 1) ay)))
 (az (qM ["other","gone"] (sc:=aT (top 31)) (XN:=["drawing","spot","gone","string","row","start","left"]) (i:=6) nd rfl rfl (dM (cS fK (fP (aY 4) (gU (aY 5)) gW) (fP (aY 4) gW (gU (aY 5))))) (fun _ _ _ _=>(oq (i:=0) (show (["other","gone"]:List Str).Nodup by decide +kernel) rfl)) (fun _ _ _ _=>(.some (cM (l7 hu) (aY 0) (aY 1) (by with_unfolding_all rfl)))) (fun _ _ _ _=>(aY 0)))
 (az (cR (eA (cw (aY 6))) (aC (bc (bx (dN (af (aY 3) (af aG ay)))))) bP)
 (aC (bc (bx (ba hu (aY 6) (GH B9 aG) (fun _ _=>rfl))))))))))
theorem yE:bC ["drawing","name","passing"] ["drawing","name"] (aT (top 14)):=lZ
theorem Hx {f:Addr} {fd:ax} (F:kB K "hand_of" "hand_of" (top 14) f fd) {nR:Addr} {nU:ax} (fj:kS P w K mg base eB 1 nR nU "passings_of" ["rows"] (bH K gR)):dP P w K mg base eB 2 f fd ["drawing","name"] (bH K o8) :=
 l8 F yE HU fun _ _ _ _ _ _ hr=>have nd:=yE.nd; have hu:=hr.units; (az (dg bb rfl (dM (aX fj.ok (hr.mono (by decide)) rfl fj.mg fj.kp fj.bi (af (aY 0) ay))) (oq (i:=2) nd rfl) (aC (cR (cM (iK hu) (ba hu (aY 2) aG (fun _ _=>rfl)) (aY 1) (dZ _)) (aC (bc (bx (ba hu (aY 2) aG (fun _ _=>rfl))))) bP)))
 (aC kM))
theorem qB:bC ["self","drawing","over","under","first","spot"] ["self","drawing"] (aT (jm 36 4)):=lZ
theorem zw {f:Addr} {fd:ax} (F:kB K "back" "Uncurl.back" (jm 36 4) f fd) (cZ:iw K "name" "Uncurl") {kR:Addr} {lH:Addr} {lI:ax} (fB:Ba P w K mg base eB 4 lH lI kR "Uncurl" "refuse" ["self","drawing"] (bH K eF)) {we:Addr} {wo:ax} (ji:kS P w K mg base eB 1 we wo "next_of" ["drawing"] (bH K kJ)) {Di:Addr} {Dq:ax} (lW:kS P w K mg base eB 3 Di Dq "spot_ahead" ["drawing","spot","gone"] (bH K kT)) {Ab:Addr} {ix:Addr} {iy:ax} (bV:DS P w K mg base 1 ix iy Ab "Curl" ["self","name","spot","first","hand"] (bH K eG)) {Ku:Addr} {Ky:ax} (sd:kS P w K mg base eB 2 Ku Ky "hand_of" ["drawing","name"] (bH K o8)):dP P w K mg base eB 5 f fd ["self","drawing"] (bH K iW) :=
 l8 F qB zX fun _ _ _ _ _ _ hr=>have nd:=qB.nd; have hu:=hr.units; (az (eO (kN (iE fB.me fB.ok (hr.mono (by decide)) fB.bi jz) (aY 0) (af (aY 1) ay)))
 (az (lh (i:=2) nd rfl (dN (af (dW (iz cZ) (aY 0)) (af aG ay))))
 (az (lh (i:=3) nd rfl (dN (af (dW (iz cZ) (aY 0)) (af aG ay))))
 (az (lh (i:=4) nd rfl (Qv (cM (iK hu) (ba hu (aX ji.ok (hr.mono (by decide)) rfl ji.mg ji.kp ji.bi (af (aY 1) ay)) (aY 2) (fun _ _=>rfl)) (aY 3) (dZ _)) (aY 2) (aY 3)))
 (az (lh (i:=5) nd rfl (aX lW.ok (hr.mono (by decide)) rfl lW.mg lW.kp lW.bi (af (aY 1) (af (aY 4) (af (fh (af (aY 2) (af (aY 3) ay))) ay)))))
 (aC (bc (bx (j9 bV.OR bV.ns bV.ok (hr.mono (by decide)) rfl bV.mg bV.bi (af (dW (iz cZ) (aY 0)) (af (aY 5) (af (ba hu (aY 4) aG (fun _ _=>rfl)) (af (aX sd.ok (hr.mono (by decide)) rfl sd.mg sd.kp sd.bi (af (aY 1) (af (dW (iz cZ) (aY 0)) ay))) ay)))))))))))))
theorem wQ:bC ["_law_found","_law_word","_law_shape","_law_k"] ["_law_found","_law_word","_law_shape"] (aT (top 55)):=lZ
theorem Fb {f:Addr} {fd:ax} (F:kB K "_law_form" "_law_form" (top 55) f fd) (bW:mg "isinstance" = none) (cK:mg "len" = none) (cY:mg "range" = none) (vU:mg "str" = none) (jy:mg "tuple" = none) {kb:Addr} {kd:ax} (dm:kS P w K mg base eB 2 kb kd "_law_wholes" ["_law_found","_law_due"] (bH K cG)) {ll:Addr} {lq:ax} (dO:kS P w K mg base eB 1 ll lq "_law_whole" ["_law_found"] (bH K fc)):dP P w K mg base eB 3 f fd ["_law_found","_law_word","_law_shape"] (bH K mT) :=
 l8 F wQ FN fun _ _ _ _ _ _ hr=>have nd:=wQ.nd; have hu:=hr.units; (az (cR (DZ.pt (j8 (eA (cw (kY "tuple" (by decide) rfl bW rfl jy vp (aY 0)))) (jf (cM (lE hu) (cq cL rfl cK fC (af (aY 0) ay)) (cS fK aG (cq cL rfl cK fC (af (aY 2) ay))) (dZ _))))) (aC (bc (bx fA))) bP)
 (az (cR (DZ.pt (j8 (eA (cw (kY "str" (by decide) rfl bW rfl vU Nm (ba hu (aY 0) aG (fun _ _=>rfl))))) (jf (cM (lE hu) (ba hu (aY 0) aG (fun _ _=>rfl)) (aY 1) (dZ _))))) (aC (bc (bx fA))) bP)
 (az (dg bb rfl (gK rfl cY (cq cL rfl cK fC (af (aY 2) ay))) (oq (i:=3) nd rfl) (aC (cR (cM (iK hu) (ba hu (aY 2) (aY 3) (fun _ _=>rfl)) aG (dZ _)) (aC (cR (DZ.pt (j8 (eA (cw (aX dm.ok (hr.mono (by decide)) rfl dm.mg dm.kp dm.bi (af (ba hu (aY 0) (cS fK (aY 3) aG) (fun _ _=>rfl)) (af (ba hu (aY 0) (cS fK (aY 3) aG) (fun _ _=>rfl)) ay))))) (jf (cM (lE hu) (cq cL rfl cK fC (af (ba hu (aY 0) (cS fK (aY 3) aG) (fun _ _=>rfl)) ay)) aG (dZ _))))) (aC (bc (bx fA))) bP)) (aC (cR (eA (cw (aX dO.ok (hr.mono (by decide)) rfl dO.mg dO.kp dO.bi (af (ba hu (aY 0) (cS fK (aY 3) aG) (fun _ _=>rfl)) ay)))) (aC (bc (bx fA))) bP)))))
 (aC (bc (bx fA))))))
theorem pP:bC ["_law_told","_law_name","_law_ahead","_law_behind_here","_law_fresh"] ["_law_told","_law_name","_law_ahead","_law_behind_here"] (aT (top 56)):=lZ
theorem xF {f:Addr} {fd:ax} (F:kB K "_law_curls_to" "_law_curls_to" (top 56) f fd) {HB:Addr} {HH:ax} (pG:kS P w K mg base eB 3 HB HH "_law_form" ["_law_found","_law_word","_law_shape"] (bH K mT)) {qZ:Addr} {rp:ax} (gC:kS P w K mg base eB 1 qZ rp "_law_spots" ["_law_drawing"] (bH K fe)) {i4:Addr} {i5:ax} (cO:kS P w K mg base eB 1 i4 i5 "_law_begun" ["_law_drawing"] (bH K ff)) {wg:Addr} {wt:ax} (jj:kS P w K mg base eB 1 wg wt "_law_put" ["_law_drawing","_law_spot","_law_passings"] (bH K kK)):dP P w K mg base eB 4 f fd ["_law_told","_law_name","_law_ahead","_law_behind_here"] (bH K jG) :=
 l8 F pP xO fun _ _ _ _ _ _ hr=>have nd:=pP.nd; have hu:=hr.units; (az (cR (DZ.pt (j8 (eA (cw (aX pG.ok (hr.mono (by decide)) rfl pG.mg pG.kp pG.bi (af (aY 0) (af kX (af (fh (af aG (af aG (af aG (af aG ay))))) ay)))))) (jf (cM (lE hu) (ba hu (aY 0) aG (fun _ _=>rfl)) (aY 1) (dZ _))))) (aC (bc (bx fA))) bP)
 (az (cR (DZ.pt (j8 (cM (l7 hu) (ba hu (aY 0) aG (fun _ _=>rfl)) (aX gC.ok (hr.mono (by decide)) rfl gC.mg gC.kp gC.bi (af (aY 2) ay)) (by with_unfolding_all rfl)) (j8 (cM (l7 hu) (ba hu (aY 0) aG (fun _ _=>rfl)) (dN (af aG (af aG ay))) (by with_unfolding_all rfl)) (jf (cM (l7 hu) (ba hu (aY 0) aG (fun _ _=>rfl)) (dN (af aG (af (GH B9 aG) ay))) (by with_unfolding_all rfl)))))) (aC (bc (bx fA))) bP)
 (az (lh (i:=4) nd rfl (fh (af (dN (af (aY 1) (af (ba hu (aY 0) aG (fun _ _=>rfl)) (af (ba hu (aY 0) aG (fun _ _=>rfl)) ay)))) (af (dN (af (aY 1) (af (cS uW aG (ba hu (aY 0) aG (fun _ _=>rfl))) (af (ba hu (aY 0) aG (fun _ _=>rfl)) ay)))) ay))))
 (aC (bc (bx (rV (iK hu) (aX cO.ok (hr.mono (by decide)) rfl cO.mg cO.kp cO.bi (af (aX jj.ok (hr.mono (by decide)) rfl jj.mg jj.kp jj.bi (af (aY 2) (af (ba hu (aY 0) aG (fun _ _=>rfl)) (af (aY 4) ay)))) ay)) (aY 3) (dZ _))))))))
theorem wR:bC ["_law_move","_law_drawing","_law_told","_law_handed","_law_found"] ["_law_move","_law_drawing","_law_told"] (aT (top 59)):=lZ
theorem Fc {f:Addr} {fd:ax} (F:kB K "_law_back" "_law_back" (top 59) f fd) {pC:Addr} {pE:ax} (dG:kS P w K mg base eB 2 pC pE "_law_behind" ["_law_drawing","_law_told"] (bH K gJ)) {Aa:Addr} {AS:Addr} {A0:ax} (nZ:Ba P w K mg base eB 5 AS A0 Aa "Uncurl" "back" ["self","drawing"] (bH K iW)) {pK:Addr} {q5:Addr} {rz:ax} (i8:Ba P w K mg base eB 1 q5 rz pK "Curl" "told" ["self"] (bH K gi)) {zA:Addr} {zF:ax} (kj:kS P w K mg base eB 4 zA zF "_law_curls_to" ["_law_told","_law_name","_law_ahead","_law_behind_here"] (bH K jG)) {i4:Addr} {i5:ax} (cO:kS P w K mg base eB 1 i4 i5 "_law_begun" ["_law_drawing"] (bH K ff)):dP P w K mg base eB 6 f fd ["_law_move","_law_drawing","_law_told"] (bH K mV) :=
 l8 F wR FO fun _ _ _ _ _ _ hr=>have nd:=wR.nd; have hu:=hr.units; (az (lh (i:=3) nd rfl (aX dG.ok (hr.mono (by decide)) rfl dG.mg dG.kp dG.bi (af (aY 1) (af (aY 2) ay))))
 (az (lh (i:=4) nd rfl (tD (iE i8.me i8.ok (hr.mono (by decide)) i8.bi jz) (kN (iE nZ.me nZ.ok (hr.mono (by decide)) nZ.bi jz) (aY 0) (af (aY 3) ay))))
 (aC (bc (bx (IH (rV (iK hu) (aY 3) (aX dG.ok (hr.mono (by decide)) rfl dG.mg dG.kp dG.bi (af (aY 1) (af (aY 2) ay))) (dZ _)) (CD (aX kj.ok (hr.mono (by decide)) rfl kj.mg kj.kp kj.bi (af (aY 4) (af (ba hu (aY 2) aG (fun _ _=>rfl)) (af (aX cO.ok (hr.mono (by decide)) rfl cO.mg cO.kp cO.bi (af (aY 1) ay)) (af (aY 3) ay))))))))))))
theorem LM:bC ["_law_script","_law_drawing","_law_k","_law_spots_here","_law_spot","_law_name","_law_first","_law_hand","_law_told","_law_three","_law_move","_law_rows"] ["_law_script"] (aT (top 61)):=lZ
theorem Rp {f:Addr} {fd:ax} (F:kB K "law" "law" (top 61) f fd) (cK:mg "len" = none) (cY:mg "range" = none) {AP:Addr} {AX:ax} (bp:kS P w K mg base eB 1 AP AX "_law_cell_at" ["_law_script","_law_k"] (bH K cW)) {AO:Addr} {AW:ax} (k7:kS P w K mg base eB 2 AO AW "_law_crossed" ["_law_drawing","_law_cell"] (bH K gS)) {qZ:Addr} {rp:ax} (gC:kS P w K mg base eB 1 qZ rp "_law_spots" ["_law_drawing"] (bH K fe)) {tJ:Addr} {tO:ax} (iq:kS P w K mg base eB 1 tJ tO "_law_free" ["_law_names_here","_law_number"] (bH K ia)) {q0:Addr} {rq:ax} (gE:kS P w K mg base eB 1 q0 rq "_law_names" ["_law_drawing"] (bH K gh)) {Fi:Addr} {Fs:ax} (nv:kS P w K mg base eB 1 Fi Fs "_law_other" ["_law_drawing"] (bH K lU)) {Kt:Addr} {Kx:ax} (r8:kS P w K mg base eB 3 Kt Kx "move_of" ["told"] (bH K o7)) {Ab:Addr} {ix:Addr} {iy:ax} (bV:DS P w K mg base 1 ix iy Ab "Curl" ["self","name","spot","first","hand"] (bH K eG)) {qY:Addr} {rm:ax} (gB:kS P w K mg base eB 3 qY rm "_law_tells" ["_law_found","_law_due"] (bH K di)) {pK:Addr} {q5:Addr} {rz:ax} (i8:Ba P w K mg base eB 1 q5 rz pK "Curl" "told" ["self"] (bH K gi)) {Fh:Addr} {Fq:ax} (nu:kS P w K mg base eB 6 Fh Fq "_law_there" ["_law_move","_law_drawing","_law_told"] (bH K lT)) {rN:Addr} {gv:Addr} {gw:ax} (bE:DS P w K mg base 1 gv gw rN "Uncurl" ["self","name"] (bH K dw)) {HC:Addr} {HJ:ax} (pH:kS P w K mg base eB 6 HC HJ "_law_back" ["_law_move","_law_drawing","_law_told"] (bH K mV)):dP P w K mg base eB 7 f fd ["_law_script"] (bH K K2.Bm) :=
 l8 F LM RK fun _ _ _ _ _ _ hr=>have nd:=LM.nd; have hu:=hr.units; (az (CC (qM ["_law_k"] (sc:=aT (top 61)) (XN:=["_law_script","_law_drawing","_law_k","_law_spots_here","_law_spot","_law_name","_law_first","_law_hand","_law_told","_law_three","_law_move","_law_rows"]) (i:=1) nd rfl rfl (gK rfl cY (cS fK aG (cS jL (aX bp.ok (hr.mono (by decide)) rfl bp.mg bp.kp bp.bi (af (aY 0) (af aG ay))) aG))) (fun _ _ _ _=>(oq (i:=0) (show (["_law_k"]:List Str).Nodup by decide +kernel) rfl)) (fun _ _ _ _=>.none) (fun _ _ _ _=>(fh ay))))
 (az (dg bb rfl (gK rfl cY (cS jL (aX bp.ok (hr.mono (by decide)) rfl bp.mg bp.kp bp.bi (af (aY 0) (af aG ay))) aG)) (oq (i:=2) nd rfl) (aC (lh (i:=1) nd rfl (bx (aX k7.ok (hr.mono (by decide)) rfl k7.mg k7.kp k7.bi (af (aY 1) (af (aX bp.ok (hr.mono (by decide)) rfl bp.mg bp.kp bp.bi (af (aY 0) (af (cS fK aG (aY 2)) ay))) ay)))))))
 (az (lh (i:=3) nd rfl (aX gC.ok (hr.mono (by decide)) rfl gC.mg gC.kp gC.bi (af (aY 1) ay)))
 (az (lh (i:=4) nd rfl (ba hu (aY 3) (cS jL (aX bp.ok (hr.mono (by decide)) rfl bp.mg bp.kp bp.bi (af (aY 0) (af aG ay))) (cq cL rfl cK fC (af (aY 3) ay))) (fun _ _=>rfl)))
 (az (lh (i:=5) nd rfl (aX iq.ok (hr.mono (by decide)) rfl iq.mg iq.kp iq.bi (af (aX gE.ok (hr.mono (by decide)) rfl gE.mg gE.kp gE.bi (af (aY 1) ay)) (af (aX bp.ok (hr.mono (by decide)) rfl bp.mg bp.kp bp.bi (af (aY 0) (af aG ay))) ay))))
 (az (lh (i:=6) nd rfl (cS jL (aX bp.ok (hr.mono (by decide)) rfl bp.mg bp.kp bp.bi (af (aY 0) (af aG ay))) aG))
 (az (lh (i:=7) nd rfl (cS uW aG (cS CF aG (cS jL (cS uX (aX bp.ok (hr.mono (by decide)) rfl bp.mg bp.kp bp.bi (af (aY 0) (af aG ay))) aG) aG))))
 (az (lh (i:=8) nd rfl (dN (af kX (af (aY 5) (af (aY 4) (af (aY 6) (af (aY 7) ay)))))))
 (az (lh (i:=9) nd rfl (fh (af (aY 1) (af (aX nv.ok (hr.mono (by decide)) rfl nv.mg nv.kp nv.bi (af (aY 1) ay)) (af (aY 1) ay)))))
 (az (dg bb rfl (dM (fh (af (j9 bV.OR bV.ns bV.ok (hr.mono (by decide)) rfl bV.mg bV.bi (af (aY 5) (af (aY 4) (af (aY 6) (af (aY 7) ay))))) (af (aX r8.ok (hr.mono (by decide)) rfl r8.mg r8.kp r8.bi (af (aY 8) ay)) ay)))) (oq (i:=10) nd rfl) (aC (dg bb rfl (dM (aY 9)) (oq (i:=11) nd rfl) (aC (cR (DZ.pt (j8 (eA (cw (aX gB.ok (hr.mono (by decide)) rfl gB.mg gB.kp gB.bi (af (tD (iE i8.me i8.ok (hr.mono (by decide)) i8.bi jz) (aY 10)) (af (aY 8) ay))))) (jf (eA (cw (aX nu.ok (hr.mono (by decide)) rfl nu.mg nu.kp nu.bi (af (aY 10) (af (aY 11) (af (aY 8) ay))))))))) (aC (bc (bx fA))) bP)))))
 (az (lh (i:=10) nd rfl (j9 bE.OR bE.ns bE.ok (hr.mono (by decide)) rfl bE.mg bE.bi (af (aY 5) ay)))
 (az (dg bb rfl (dM (aY 9)) (oq (i:=11) nd rfl) (aC (cR (eA (cw (aX pH.ok (hr.mono (by decide)) rfl pH.mg pH.kp pH.bi (af (aY 10) (af (aY 11) (af (aY 8) ay)))))) (aC (bc (bx fA))) bP)))
 (aC (bc (bx fA)))))))))))))))
end
theorem all_mk {l:B1} {w:World} {K:ao} {h:Heap} {mg:Str->Option Value} {fa:Addr} (X:K.In h) (G:h.Ns bo mg) (hfa:mg "law" = some (.ref fa)) {km:Addr} (eT:Pj K "Uncurl" km) {mF:Addr} (eK:Pj K "Curl" mF) {wG:Addr} (yf:Pj K "Part" wG) {sY:Addr} (rF:Pj K "Lay" sY) {nE:Addr} (oO:Pj K "Slide" nE)
  {f0:Addr} {d0:ax} (F0:At K "_law_cell_at" (top 43) f0 d0)
  {f1:Addr} {d1:ax} (F1:At K "_law_free" (top 47) f1 d1)
  {f2:Addr} {d2:ax} (F2:At K "_law_names" (top 46) f2 d2)
  {f3:Addr} {d3:ax} (F3:At K "_law_mixed" (top 45) f3 d3)
  {f4:Addr} {d4:ax} (F4:At K "_law_crossed" (top 48) f4 d4)
  {f5:Addr} {d5:ax} (F5:At K "_law_spots" (top 49) f5 d5)
  {f6:Addr} {d6:ax} (F6:At K "_law_other" (top 60) f6 d6)
  {f7:Addr} {d7:ax} (F7:FP K km "__init__" "Uncurl.__init__" (jm 36 0) f7 d7)
  {f8:Addr} {d8:ax} (F8:FP K mF "__init__" "Curl.__init__" (jm 37 0) f8 d8)
  {f9:Addr} {d9:ax} (F9:FP K wG "__init__" "Part.__init__" (jm 38 0) f9 d9)
  {f10:Addr} {d10:ax} (Yi:FP K sY "__init__" "Lay.__init__" (jm 39 0) f10 d10)
  {f11:Addr} {d11:ax} (Yh:FP K nE "__init__" "Slide.__init__" (jm 40 0) f11 d11)
  {f12:Addr} {d12:ax} (VA:At K "move_of" (top 41) f12 d12)
  {f13:Addr} {d13:ax} (P0:At K "_law_whole" (top 44) f13 d13)
  {f14:Addr} {d14:ax} (PZ:At K "_law_wholes" (top 52) f14 d14)
  {f15:Addr} {d15:ax} (Sh:At K "_law_tells" (top 54) f15 d15)
  {f16:Addr} {d16:ax} (Vz:FP K mF "told" "Curl.told" (jm 37 1) f16 d16)
  {f17:Addr} {d17:ax} (NW:At K "_law_begun" (top 51) f17 d17)
  {f18:Addr} {d18:ax} (Sg:At K "_law_put" (top 50) f18 d18)
  {f19:Addr} {d19:ax} (Sf:At K "_law_behind" (top 57) f19 d19)
  {f20:Addr} {d20:ax} (Se:At K "passings_of" (top 10) f20 d20)
  {f21:Addr} {d21:ax} (Sd:At K "names_of" (top 13) f21 d21)
  {f22:Addr} {d22:ax} (Vy:At K "refuse_new" (top 28) f22 d22)
  {f23:Addr} {d23:ax} (Vx:At K "seated" (top 11) f23 d23)
  {f24:Addr} {d24:ax} (Sb:At K "seated_rows" (top 12) f24 d24)
  {f25:Addr} {d25:ax} (PY:At K "spots_on" (top 15) f25 d25)
  {f26:Addr} {d26:ax} (Sa:At K "string_of" (top 17) f26 d26)
  {f27:Addr} {d27:ax} (Vw:At K "with_put" (top 29) f27 d27)
  {f28:Addr} {d28:ax} (Vv:FP K mF "done" "Curl.done" (jm 37 2) f28 d28)
  {f29:Addr} {d29:ax} (Vu:At K "_law_same" (top 53) f29 d29)
  {f30:Addr} {d30:ax} (Yg:FP K mF "back" "Curl.back" (jm 37 3) f30 d30)
  {f31:Addr} {d31:ax} (Ye:FP K km "told" "Uncurl.told" (jm 36 1) f31 d31)
  {f32:Addr} {d32:ax} (Vt:At K "refuse_unknown" (top 26) f32 d32)
  {f33:Addr} {d33:ax} (Vs:At K "refuse_unfit" (top 27) f33 d33)
  {f34:Addr} {d34:ax} (Vr:At K "neighbours" (top 19) f34 d34)
  {f35:Addr} {d35:ax} (R9:At K "next_of" (top 16) f35 d35)
  {f36:Addr} {d36:ax} (Vq:At K "uncurl_fits" (top 20) f36 d36)
  {f37:Addr} {d37:ax} (Vp:FP K km "refuse" "Uncurl.refuse" (jm 36 2) f37 d37)
  {f38:Addr} {d38:ax} (Vo:At K "taken_out" (top 30) f38 d38)
  {f39:Addr} {d39:ax} (Yd:FP K km "done" "Uncurl.done" (jm 36 3) f39 d39)
  {f40:Addr} {d40:ax} (Vn:At K "_law_there" (top 58) f40 d40)
  {f41:Addr} {d41:ax} (Vm:At K "spot_ahead" (top 31) f41 d41)
  {f42:Addr} {d42:ax} (Vl:At K "hand_of" (top 14) f42 d42)
  {f43:Addr} {d43:ax} (Yc:FP K km "back" "Uncurl.back" (jm 36 4) f43 d43)
  {f44:Addr} {d44:ax} (Vk:At K "_law_form" (top 55) f44 d44)
  {f45:Addr} {d45:ax} (Vj:At K "_law_curls_to" (top 56) f45 d45)
  {f46:Addr} {d46:ax} (Vi:At K "_law_back" (top 59) f46 d46)
  {f47:Addr} {d47:ax} (ZI:At K "law" (top 61) f47 d47)
  (Sm:autoParam (c5 K bo "len" = some none) Aq._auto_1) (P4:autoParam (c5 K bo "list" = some none) Aq._auto_1) (Oe:autoParam (c5 K bo "range" = some none) Aq._auto_1) (Gn:autoParam (c5 K bo "reversed" = some none) Aq._auto_1) (P5:autoParam (c5 K bo "bool" = some none) Aq._auto_1) (So:autoParam (c5 K bo "int" = some none) Aq._auto_1) (B8:autoParam (c5 K bo "isinstance" = some none) Aq._auto_1) (Od:autoParam (c5 K bo "tuple" = some none) Aq._auto_1) (Sk:autoParam (c5 K bo "str" = some none) Aq._auto_1) (Sl:autoParam (c5 K bo "min" = some none) Aq._auto_1) (Lp:autoParam (c5 K bo "sorted" = some none) Aq._auto_1) (D9:autoParam (c5 K bo "enumerate" = some none) Aq._auto_1) (Sj:autoParam (c5 K bo "zip" = some none) Aq._auto_1) {kH:Tok} (vk:autoParam (c5 K bo "MOST_CROSSINGS" = some (some (.int 12 kH))) Aq._auto_1) (iY:autoParam (bw K (.ref km) "name" = some none) Aq._auto_1) (lV:autoParam (bw K (.ref mF) "name" = some none) Aq._auto_1) (pf:autoParam (bw K (.ref mF) "spot" = some none) Aq._auto_1) (nM:autoParam (bw K (.ref mF) "first" = some none) Aq._auto_1) (pj:autoParam (bw K (.ref mF) "hand" = some none) Aq._auto_1) (CI:autoParam (bw K (.ref wG) "name" = some none) Aq._auto_1) (yR:autoParam (bw K (.ref wG) "second" = some none) Aq._auto_1) (EH:autoParam (bw K (.ref sY) "name" = some none) Aq._auto_1) (AE:autoParam (bw K (.ref sY) "second" = some none) Aq._auto_1) (EG:autoParam (bw K (.ref sY) "over" = some none) Aq._auto_1) (CJ:autoParam (bw K (.ref sY) "under" = some none) Aq._auto_1) (AD:autoParam (bw K (.ref sY) "turned" = some none) Aq._auto_1) (EI:autoParam (bw K (.ref sY) "hand" = some none) Aq._auto_1) (AB:autoParam (bw K (.ref nE) "name" = some none) Aq._auto_1) (xB:autoParam (bw K (.ref nE) "second" = some none) Aq._auto_1) (yQ:autoParam (bw K (.ref nE) "third" = some none) Aq._auto_1) (AA:autoParam (bw K (.ref nE) "turn" = some none) Aq._auto_1) (vZ:autoParam (jo K km=true) Aq._auto_1) (v5:autoParam (fw K (.ref km)=true) Aq._auto_1) (CL:autoParam (jo K mF=true) Aq._auto_1) (CQ:autoParam (fw K (.ref mF)=true) Aq._auto_1) (OS:autoParam (jo K wG=true) Aq._auto_1) (OV:autoParam (fw K (.ref wG)=true) Aq._auto_1) (QM:autoParam (jo K sY=true) Aq._auto_1) (QU:autoParam (fw K (.ref sY)=true) Aq._auto_1) (Mf:autoParam (jo K nE=true) Aq._auto_1) (Mq:autoParam (fw K (.ref nE)=true) Aq._auto_1) :
  ∃ fd:ax,(∀ (s:aB) (v:Value),Lm s fd ⟨[v],[]⟩ [("_law_script",v)])/\∀ base:Heap,K.In base->base.Ns bo mg->dP l.prog w K mg base eB 7 fa fd ["_law_script"] (bH K K2.Bm):=by
 have e:=hfa.symm.trans (fR X G ZI.a);cases e;have b0:=F0.F.binds (ps:=["_law_script","_law_k"]) fun _ _ _ _ _ _ us hl=>by obtain⟨_,_,rfl⟩:=nN hl; rfl
 have b1:=F1.F.binds (ps:=["_law_names_here","_law_number"]) fun _ _ _ _ _ _ us hl=>by obtain⟨_,_,rfl⟩:=nN hl; rfl
 have b2:=F2.F.binds (ps:=["_law_drawing"]) fun _ _ _ _ _ _ us hl=>by obtain⟨_,rfl⟩:=qg hl; rfl
 have b3:=F3.F.binds (ps:=["_law_cell"]) fun _ _ _ _ _ _ us hl=>by obtain⟨_,rfl⟩:=qg hl; rfl
 have b4:=F4.F.binds (ps:=["_law_drawing","_law_cell"]) fun _ _ _ _ _ _ us hl=>by obtain⟨_,_,rfl⟩:=nN hl; rfl
 have b5:=F5.F.binds (ps:=["_law_drawing"]) fun _ _ _ _ _ _ us hl=>by obtain⟨_,rfl⟩:=qg hl; rfl
 have b6:=F6.F.binds (ps:=["_law_drawing"]) fun _ _ _ _ _ _ us hl=>by obtain⟨_,rfl⟩:=qg hl; rfl
 have b7:=F7.F.binds (ps:=["self","name"]) fun _ _ _ _ _ _ us hl=>by obtain⟨_,_,rfl⟩:=nN hl; rfl
 have b8:=F8.F.binds (ps:=["self","name","spot","first","hand"]) fun _ _ _ _ _ _ us hl=>by obtain⟨_,_,_,_,_,rfl⟩:=Tp hl; rfl
 have b9:=F9.F.binds (ps:=["self","name","second"]) fun _ _ _ _ _ _ us hl=>by obtain⟨_,_,_,rfl⟩:=CN hl; rfl
 have b10:=Yi.F.binds (ps:=["self","name","second","over","under","turned","hand"]) fun _ _ _ _ _ _ us hl=>by obtain⟨_,_,_,_,_,_,_,rfl⟩:=WE hl; rfl
 have b11:=Yh.F.binds (ps:=["self","name","second","third","turn"]) fun _ _ _ _ _ _ us hl=>by obtain⟨_,_,_,_,_,rfl⟩:=Tp hl; rfl
 have b12:=VA.F.binds (ps:=["told"]) fun _ _ _ _ _ _ us hl=>by obtain⟨_,rfl⟩:=qg hl; rfl
 have XW:=P0.F.binds (ps:=["_law_found"]) fun _ _ _ _ _ _ us hl=>by obtain⟨_,rfl⟩:=qg hl; rfl
 have XU:=PZ.F.binds (ps:=["_law_found","_law_due"]) fun _ _ _ _ _ _ us hl=>by obtain⟨_,_,rfl⟩:=nN hl; rfl
 have ZA:=Sh.F.binds (ps:=["_law_found","_law_due"]) fun _ _ _ _ _ _ us hl=>by obtain⟨_,_,rfl⟩:=nN hl; rfl
 have Zz:=Vz.F.binds (ps:=["self"]) fun _ _ _ _ _ _ us hl=>by obtain⟨_,rfl⟩:=qg hl; rfl
 have Vb:=NW.F.binds (ps:=["_law_drawing"]) fun _ _ _ _ _ _ us hl=>by obtain⟨_,rfl⟩:=qg hl; rfl
 have Zy:=Sg.F.binds (ps:=["_law_drawing","_law_spot","_law_passings"]) fun _ _ _ _ _ _ us hl=>by obtain⟨_,_,_,rfl⟩:=CN hl; rfl
 have Zx:=Sf.F.binds (ps:=["_law_drawing","_law_told"]) fun _ _ _ _ _ _ us hl=>by obtain⟨_,_,rfl⟩:=nN hl; rfl
 have Zw:=Se.F.binds (ps:=["rows"]) fun _ _ _ _ _ _ us hl=>by obtain⟨_,rfl⟩:=qg hl; rfl
 have Zv:=Sd.F.binds (ps:=["drawing"]) fun _ _ _ _ _ _ us hl=>by obtain⟨_,rfl⟩:=qg hl; rfl
 have b22:=Vy.F.binds (ps:=["drawing","names"]) fun _ _ _ _ _ _ us hl=>by obtain⟨_,_,rfl⟩:=nN hl; rfl
 have b23:=Vx.F.binds (ps:=["row"]) fun _ _ _ _ _ _ us hl=>by obtain⟨_,rfl⟩:=qg hl; rfl
 have Zu:=Sb.F.binds (ps:=["rows"]) fun _ _ _ _ _ _ us hl=>by obtain⟨_,rfl⟩:=qg hl; rfl
 have XT:=PY.F.binds (ps:=["row","string"]) fun _ _ _ _ _ _ us hl=>by obtain⟨_,_,rfl⟩:=nN hl; rfl
 have Zt:=Sa.F.binds (ps:=["drawing","spot"]) fun _ _ _ _ _ _ us hl=>by obtain⟨_,_,rfl⟩:=nN hl; rfl
 have b27:=Vw.F.binds (ps:=["drawing","spot","passings"]) fun _ _ _ _ _ _ us hl=>by obtain⟨_,_,_,rfl⟩:=CN hl; rfl
 have Zs:=Vv.F.binds (ps:=["self","drawing"]) fun _ _ _ _ _ _ us hl=>by obtain⟨_,_,rfl⟩:=nN hl; rfl
 have b29:=Vu.F.binds (ps:=["_law_found","_law_due"]) fun _ _ _ _ _ _ us hl=>by obtain⟨_,_,rfl⟩:=nN hl; rfl
 have b30:=Yg.F.binds (ps:=["self","drawing"]) fun _ _ _ _ _ _ us hl=>by obtain⟨_,_,rfl⟩:=nN hl; rfl
 have b31:=Ye.F.binds (ps:=["self"]) fun _ _ _ _ _ _ us hl=>by obtain⟨_,rfl⟩:=qg hl; rfl
 have b32:=Vt.F.binds (ps:=["drawing","names"]) fun _ _ _ _ _ _ us hl=>by obtain⟨_,_,rfl⟩:=nN hl; rfl
 have b33:=Vs.F.binds (ps:=["fits"]) fun _ _ _ _ _ _ us hl=>by obtain⟨_,rfl⟩:=qg hl; rfl
 have b34:=Vr.F.binds (ps:=["behind","one","other"]) fun _ _ _ _ _ _ us hl=>by obtain⟨_,_,_,rfl⟩:=CN hl; rfl
 have Zr:=R9.F.binds (ps:=["drawing"]) fun _ _ _ _ _ _ us hl=>by obtain⟨_,rfl⟩:=qg hl; rfl
 have b36:=Vq.F.binds (ps:=["drawing","name"]) fun _ _ _ _ _ _ us hl=>by obtain⟨_,_,rfl⟩:=nN hl; rfl
 have Zq:=Vp.F.binds (ps:=["self","drawing"]) fun _ _ _ _ _ _ us hl=>by obtain⟨_,_,rfl⟩:=nN hl; rfl
 have b38:=Vo.F.binds (ps:=["drawing","names"]) fun _ _ _ _ _ _ us hl=>by obtain⟨_,_,rfl⟩:=nN hl; rfl
 have b39:=Yd.F.binds (ps:=["self","drawing"]) fun _ _ _ _ _ _ us hl=>by obtain⟨_,_,rfl⟩:=nN hl; rfl
 have b40:=Vn.F.binds (ps:=["_law_move","_law_drawing","_law_told"]) fun _ _ _ _ _ _ us hl=>by obtain⟨_,_,_,rfl⟩:=CN hl; rfl
 have b41:=Vm.F.binds (ps:=["drawing","spot","gone"]) fun _ _ _ _ _ _ us hl=>by obtain⟨_,_,_,rfl⟩:=CN hl; rfl
 have b42:=Vl.F.binds (ps:=["drawing","name"]) fun _ _ _ _ _ _ us hl=>by obtain⟨_,_,rfl⟩:=nN hl; rfl
 have b43:=Yc.F.binds (ps:=["self","drawing"]) fun _ _ _ _ _ _ us hl=>by obtain⟨_,_,rfl⟩:=nN hl; rfl
 have b44:=Vk.F.binds (ps:=["_law_found","_law_word","_law_shape"]) fun _ _ _ _ _ _ us hl=>by obtain⟨_,_,_,rfl⟩:=CN hl; rfl
 have b45:=Vj.F.binds (ps:=["_law_told","_law_name","_law_ahead","_law_behind_here"]) fun _ _ _ _ _ _ us hl=>by obtain⟨_,_,_,_,rfl⟩:=Tq hl; rfl
 have b46:=Vi.F.binds (ps:=["_law_move","_law_drawing","_law_told"]) fun _ _ _ _ _ _ us hl=>by obtain⟨_,_,_,rfl⟩:=CN hl; rfl
 have cK:=cP X G Sm;have gm:=cP X G P4;have cY:=cP X G Oe;have qQ:=cP X G Gn;have CG:=cP X G P5;have GP:=cP X G So;have bW:=cP X G B8;have jy:=cP X G Od;have vU:=cP X G Sk;have vW:=cP X G Sl;have vV:=cP X G Lp;have pe:=cP X G D9;have GN:=cP X G Sj;obtain⟨Fa,Fl⟩:=ZI;obtain⟨oc,od,kV,doc,pm,an,nk,ct,JV,rfl,lk,Ja⟩:=Fl.ex;refine⟨jr "law" "law" (jM (top 61)) (ik (top 61)) (aT (top 61)) .none kV doc pm an nk ct,fun s v=>.of_eq rfl,fun base _ _=>?_⟩;have ok0:=zt (P:=l.prog) (w:=w) (mg:=mg) (base:=base) F0.F cK;have Yy:=E9 (P:=l.prog) (w:=w) (mg:=mg) (base:=base) F1.F;have Yx:=C9 (P:=l.prog) (w:=w) (mg:=mg) (base:=base) F2.F;have S3:=Dc (P:=l.prog) (w:=w) (mg:=mg) (base:=base) F3.F;have ok4:=zr (P:=l.prog) (w:=w) (mg:=mg) (base:=base) F4.F cK gm cY ⟨Yy,F1.mg X G,F1.F.kp,b1⟩ ⟨Yx,F2.mg X G,F2.F.kp,b2⟩ ⟨S3,F3.mg X G,F3.F.kp,b3⟩;have Yw:=C7 (P:=l.prog) (w:=w) (mg:=mg) (base:=base) F5.F cK cY;have ok6:=C8 (P:=l.prog) (w:=w) (mg:=mg) (base:=base) F6.F qQ;have V5:=tF (P:=l.prog) (w:=w) (mg:=mg) (base:=base) F7.F (eT.fld iY);have V4:=wa (P:=l.prog) (w:=w) (mg:=mg) (base:=base) F8.F (eK.fld lV) (eK.fld pf) (eK.fld nM) (eK.fld pj);have ok9:=v9 (P:=l.prog) (w:=w) (mg:=mg) (base:=base) F9.F (yf.fld CI) (yf.fld yR);have Ws:=xG (P:=l.prog) (w:=w) (mg:=mg) (base:=base) Yi.F (rF.fld EH) (rF.fld AE) (rF.fld EG) (rF.fld CJ) (rF.fld AD) (rF.fld EI);have Wr:=vg (P:=l.prog) (w:=w) (mg:=mg) (base:=base) Yh.F (oO.fld AB) (oO.fld xB) (oO.fld yQ) (oO.fld AA);have Wq:=Hv (P:=l.prog) (w:=w) (mg:=mg) (base:=base) VA.F ⟨V5,b7,F7.maker vZ v5,eT.ns,fR X G eT.ns⟩ ⟨V4,b8,F8.maker CL CQ,eK.ns,fR X G eK.ns⟩ ⟨ok9,b9,F9.maker OS OV,yf.ns,fR X G yf.ns⟩ ⟨Ws,b10,Yi.maker QM QU,rF.ns,fR X G rF.ns⟩ ⟨Wr,b11,Yh.maker Mf Mq,oO.ns,fR X G oO.ns⟩;have QI:=C4 (P:=l.prog) (w:=w) (mg:=mg) (base:=base) P0.F CG GP bW;have QH:=AL (P:=l.prog) (w:=w) (mg:=mg) (base:=base) PZ.F bW cK jy ⟨QI,P0.mg X G,P0.F.kp,XW⟩;have Tc:=C6 (P:=l.prog) (w:=w) (mg:=mg) (base:=base) Sh.F bW cK cY vU jy ⟨QH,PZ.mg X G,PZ.F.kp,XU⟩ ⟨QI,P0.mg X G,P0.F.kp,XW⟩;have Tb:=Df (P:=l.prog) (w:=w) (mg:=mg) (base:=base) Vz.F (eK.fld pj) (eK.fld nM) (eK.fld pf) (eK.fld lV);have OO:=De (P:=l.prog) (w:=w) (mg:=mg) (base:=base) NW.F vW;have Ta:=Hw (P:=l.prog) (w:=w) (mg:=mg) (base:=base) Sg.F cK gm cY;have S9:=AM (P:=l.prog) (w:=w) (mg:=mg) (base:=base) Sf.F ⟨OO,NW.mg X G,NW.F.kp,Vb⟩ ⟨Ta,Sg.mg X G,Sg.F.kp,Zy⟩;have S8:=zq (P:=l.prog) (w:=w) (mg:=mg) (base:=base) Se.F;have S7:=E7 (P:=l.prog) (w:=w) (mg:=mg) (base:=base) Sd.F vV ⟨S8,Se.mg X G,Se.F.kp,Zw⟩;have Wo:=AJ (P:=l.prog) (w:=w) (mg:=mg) (base:=base) Vy.F cK (fR X G vk) ⟨S7,Sd.mg X G,Sd.F.kp,Zv⟩;have Wn:=Ks (P:=l.prog) (w:=w) (mg:=mg) (base:=base) Vx.F vW;have S6:=zo (P:=l.prog) (w:=w) (mg:=mg) (base:=base) Sb.F ⟨Wn,Vx.mg X G,Vx.F.kp,b23⟩;have QG:=E6 (P:=l.prog) (w:=w) (mg:=mg) (base:=base) PY.F;have S5:=C3 (P:=l.prog) (w:=w) (mg:=mg) (base:=base) Sa.F pe ⟨QG,PY.mg X G,PY.F.kp,XT⟩;have Wm:=E5 (P:=l.prog) (w:=w) (mg:=mg) (base:=base) Vw.F gm ⟨S5,Sa.mg X G,Sa.F.kp,Zt⟩ ⟨QG,PY.mg X G,PY.F.kp,XT⟩;have S4:=Dg (P:=l.prog) (w:=w) (mg:=mg) (base:=base) Vv.F (eK.fld lV) (eK.fld pj) (eK.fld nM) (eK.fld pf) ⟨Wo,Vy.mg X G,Vy.F.kp,b22⟩ ⟨S6,Sb.mg X G,Sb.F.kp,Zu⟩ ⟨Wm,Vw.mg X G,Vw.F.kp,b27⟩;have Wl:=E8 (P:=l.prog) (w:=w) (mg:=mg) (base:=base) Vu.F bW cK gm cY ⟨QH,PZ.mg X G,PZ.F.kp,XU⟩;have Wk:=Dh (P:=l.prog) (w:=w) (mg:=mg) (base:=base) Yg.F (eK.fld lV) ⟨S4,Zs,Vv.me eK⟩ ⟨V5,b7,F7.maker vZ v5,eT.ns,fR X G eT.ns⟩;have Wj:=zu (P:=l.prog) (w:=w) (mg:=mg) (base:=base) Ye.F (eT.fld iY);have Wi:=ve (P:=l.prog) (w:=w) (mg:=mg) (base:=base) Vt.F ⟨S7,Sd.mg X G,Sd.F.kp,Zv⟩;have Wh:=xE (P:=l.prog) (w:=w) (mg:=mg) (base:=base) Vs.F;have Wg:=AK (P:=l.prog) (w:=w) (mg:=mg) (base:=base) Vr.F;have S2:=Hu (P:=l.prog) (w:=w) (mg:=mg) (base:=base) R9.F GN;have Wf:=zm (P:=l.prog) (w:=w) (mg:=mg) (base:=base) Vq.F ⟨Wg,Vr.mg X G,Vr.F.kp,b34⟩ ⟨S2,R9.mg X G,R9.F.kp,Zr⟩;have S1:=v8 (P:=l.prog) (w:=w) (mg:=mg) (base:=base) Vp.F (eT.fld iY) ⟨Wi,Vt.mg X G,Vt.F.kp,b32⟩ ⟨Wh,Vs.mg X G,Vs.F.kp,b33⟩ ⟨Wf,Vq.mg X G,Vq.F.kp,b36⟩;have We:=C2 (P:=l.prog) (w:=w) (mg:=mg) (base:=base) Vo.F ⟨S6,Sb.mg X G,Sb.F.kp,Zu⟩;have Wd:=zv (P:=l.prog) (w:=w) (mg:=mg) (base:=base) Yd.F (eT.fld iY) ⟨S1,Zq,Vp.me eT⟩ ⟨We,Vo.mg X G,Vo.F.kp,b38⟩;have Wc:=C5 (P:=l.prog) (w:=w) (mg:=mg) (base:=base) Vn.F gm cY ⟨S9,Sf.mg X G,Sf.F.kp,Zx⟩ ⟨S4,Zs,Vv.me eK⟩ ⟨Wl,Vu.mg X G,Vu.F.kp,b29⟩ ⟨Wk,b30,Yg.me eK⟩ ⟨Tc,Sh.mg X G,Sh.F.kp,ZA⟩ ⟨Wj,b31,Ye.me eT⟩ ⟨Wd,b39,Yd.me eT⟩ ⟨OO,NW.mg X G,NW.F.kp,Vb⟩;have Wb:=AI (P:=l.prog) (w:=w) (mg:=mg) (base:=base) Vm.F ⟨S5,Sa.mg X G,Sa.F.kp,Zt⟩ ⟨QG,PY.mg X G,PY.F.kp,XT⟩;have Wa:=Hx (P:=l.prog) (w:=w) (mg:=mg) (base:=base) Vl.F ⟨S8,Se.mg X G,Se.F.kp,Zw⟩;have V9:=zw (P:=l.prog) (w:=w) (mg:=mg) (base:=base) Yc.F (eT.fld iY) ⟨S1,Zq,Vp.me eT⟩ ⟨S2,R9.mg X G,R9.F.kp,Zr⟩ ⟨Wb,Vm.mg X G,Vm.F.kp,b41⟩ ⟨V4,b8,F8.maker CL CQ,eK.ns,fR X G eK.ns⟩ ⟨Wa,Vl.mg X G,Vl.F.kp,b42⟩;have V8:=Fb (P:=l.prog) (w:=w) (mg:=mg) (base:=base) Vk.F bW cK cY vU jy ⟨QH,PZ.mg X G,PZ.F.kp,XU⟩ ⟨QI,P0.mg X G,P0.F.kp,XW⟩;have V7:=xF (P:=l.prog) (w:=w) (mg:=mg) (base:=base) Vj.F ⟨V8,Vk.mg X G,Vk.F.kp,b44⟩ ⟨Yw,F5.mg X G,F5.F.kp,b5⟩ ⟨OO,NW.mg X G,NW.F.kp,Vb⟩ ⟨Ta,Sg.mg X G,Sg.F.kp,Zy⟩;have V6:=Fc (P:=l.prog) (w:=w) (mg:=mg) (base:=base) Vi.F ⟨S9,Sf.mg X G,Sf.F.kp,Zx⟩ ⟨V9,b43,Yc.me eT⟩ ⟨Tb,Zz,Vz.me eK⟩ ⟨V7,Vj.mg X G,Vj.F.kp,b45⟩ ⟨OO,NW.mg X G,NW.F.kp,Vb⟩;exact Rp Fl cK cY ⟨ok0,F0.mg X G,F0.F.kp,b0⟩ ⟨ok4,F4.mg X G,F4.F.kp,b4⟩ ⟨Yw,F5.mg X G,F5.F.kp,b5⟩ ⟨Yy,F1.mg X G,F1.F.kp,b1⟩ ⟨Yx,F2.mg X G,F2.F.kp,b2⟩ ⟨ok6,F6.mg X G,F6.F.kp,b6⟩ ⟨Wq,VA.mg X G,VA.F.kp,b12⟩ ⟨V4,b8,F8.maker CL CQ,eK.ns,fR X G eK.ns⟩ ⟨Tc,Sh.mg X G,Sh.F.kp,ZA⟩ ⟨Tb,Zz,Vz.me eK⟩ ⟨Wc,Vn.mg X G,Vn.F.kp,b40⟩ ⟨V5,b7,F7.maker vZ v5,eT.ns,fR X G eT.ns⟩ ⟨V6,Vi.mg X G,Vi.F.kp,b46⟩
end Fin
end Internal
open Internal
open PySem PySem.W PyProof.Rows
set_option maxRecDepth 100000 in
set_option maxHeartbeats 0 in
theorem PySem.Challenge.cw_knotwise_k21_curls_there_and_back_holds : PySem.Challenge.rw_knotwise_k21_curls_there_and_back.Holds := by
 w_on
 refine K2.Kl (q:=Fin.hQ) (K:=Fin.hK) (as:=Fin.hA) (N:=(12+(1+(1261+(1536+(1214+1029)))))) Fin.Rg (by kernel_rfl) (by kernel_rfl) (fun _=>by kernel_rfl) (fun _=>by kernel_rfl) Fin.Rh (by rfl) (by rfl) (by rfl) (by rfl) Fin.Rf ⟨rfl,rfl,rfl,rfl,rfl,by decide +kernel⟩ ?hw ?hc
 (case hw=>w_witness2)
 k_fill
 refine K2.Ml (l:=PySem.Challenge.rw_knotwise_k21_curls_there_and_back) (k:=7) (x:="_law_script") rfl rfl ⟨rfl,by decide,by decide⟩ (fun w h Y=>Y) ?F
 case F =>
  intro w mg fa h KX G TJ;exact Fin.all_mk KX G TJ K2.zM K2.zM K2.zM K2.zM K2.zM K2.e9 K2.e9 K2.e9 K2.e9 K2.e9 K2.e9 K2.e9 K2.lF K2.lF K2.lF K2.lF K2.lF K2.e9 K2.e9 K2.e9 K2.e9 K2.lF K2.e9 K2.e9 K2.e9 K2.e9 K2.e9 K2.e9 K2.e9 K2.e9 K2.e9 K2.e9 K2.e9 K2.lF K2.e9 K2.lF K2.lF K2.e9 K2.e9 K2.e9 K2.e9 K2.e9 K2.lF K2.e9 K2.lF K2.e9 K2.e9 K2.e9 K2.lF K2.e9 K2.e9 K2.e9 K2.e9
