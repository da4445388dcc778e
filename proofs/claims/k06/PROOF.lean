import PyProof.Rows.All
import Wide.All
import OpenK.AllK
import Wide.FinOn
import Lean
import PyProof.EqAt
import PyProof.EqKinds
import PyProof.TupleCall
import PySem.Challenge.RW_knotwise_k06_refusals_made
open Array renaming mk -> kY, length_toList -> DR
open Bool renaming and_eq_true -> aP, noConfusion -> a6, false_eq_true -> bj, not_true -> cy, false_ne_true -> nD, and_eq_true_iff -> qH, false_and -> qX, and_false -> qY, or_eq_true -> w4, beq_eq_decide_eq -> Dy
open False renaming elim -> bJ
open ForInStep renaming yield -> oF
open List renaming getElem?_cons_zero -> aJ, getElem?_cons_succ -> aN, size_toArray -> bx, length_cons -> bE, set_cons_zero -> bY, length_append -> bZ, mem_append_right -> b7, length_nil -> cb, set_cons_succ -> cw, map_cons -> cF, getElem?_append_right -> cH, nil_append -> cM, length_replicate -> cN, length_map -> cO, mem_cons_of_mem -> cW, replicate -> c1, getElem?_map -> c4, mem_cons_self -> dI, getElem?_append_left -> dN, map_nil -> fh, cons_append -> fW, append_nil -> ia, lookup_cons -> jW, range -> jZ, getElem?_replicate -> k7, find?_cons -> k8, getElem?_set_self -> lD, getElem?_set_ne -> mh, lookup -> mK, map_append -> qa, nodup_nil -> qW, filterMap_cons -> rh, zip_cons_cons -> sD, of_mem_zip -> wZ, getD_eq_getElem?_getD -> xn, drop_eq_getElem_cons -> yH, getElem?_eq_getElem -> zm, all_cons -> Bg, find?_cons_of_pos -> Bv, find?_cons_of_neg -> Bw, drop_eq_nil_of_le -> Bx, length_singleton -> Du, getElem?_eq_none -> Dv, mem_append_left -> DP
open Nat renaming lt_of_lt_of_le -> aY, le_trans -> b8, le_refl -> ck, ne_of_lt -> cA, le_of_ble_eq_true -> cP, zero_le -> fq, lt_irrefl -> my, add_sub_cancel_left -> oO, succ_le_succ -> o7, le_succ -> xm, le_of_succ_le_succ -> Dt, le_of_lt -> DO
open Ne renaming symm -> Ds
open Option.some renaming inj -> bu
open Prod.mk renaming injEq -> xl
open PyProof.Rows renaming callWith_builtin1 -> cG, boot_isinstance -> lB, IntsAre -> mO, toString_length_le -> p9, ofString_length -> qV, envOfC -> tu, AllBare -> t9, tail_any -> vo
open PySem renaming mainGlobals -> ao, Shared -> au, wpAny_bind -> aL, starEach -> aX, sizeLine -> aZ, wpAny_pure -> bg, FuncData -> bh, Program -> bo, sizeLine_eq -> bR, Around -> cZ, wpAny_Call_Name_kw -> eA, mem_of_lookup -> fg, codeAny_call_builtin -> fj, treeTable -> hU, backTo -> i4, bootBuiltins -> i7, wpAny_loadPart_at -> jV, ExcBaseFacts -> lC, wpAny_holding -> lR, wpAny_getItem_str_slice -> lS, importedModules -> lT, OsState -> lU, wpAny_call -> mf, Params -> mx, binaryOp -> nC, wpAny_passesOwn -> nG, excClassObj -> nH, compareOp -> nI, codeAny_mono -> oG, NameKind -> oH, codeAny -> oN, wpAny_mono -> ph, sysModules -> pj, spliced -> qe, attributeBase -> qf, ReadsAll -> qg, ExcAttrBase -> qi, wpAny_execs_cons -> qG, wpAny_loadPart' -> rp, wpAny_execs_nil -> rq, post_val_or_str -> rz, letOwnedTupleGo -> rB, isInstance -> sC, keywordEach -> t7, swapsWith -> vp, wpAny_truthy_dict -> w8, typeIs_str -> w9, relabel -> xa, plainObj_wpAny_Assign_Attribute -> xb, foldedSetIterable -> xc, callerA -> xf, call -> yD, valueAt -> Bp, tupleKind -> Bq, Within -> Bs, OwnTail -> Bu, Keyword -> By, BindsTo -> Bz, wpAny_loadPart -> DI, wpAny_check_type_call_sub -> DJ, codeAny_call_builtin_code -> DL
open PySem.Around renaming under -> Bh
open PySem.AutoSeq1 renaming sub_tuple_tuple -> vt
open PySem.Builtin.List renaming listTooLong -> ie
open PySem.Calls renaming spliced_cons -> cD, spliced_nil -> lE, Name_function_global -> w0
open PySem.Code renaming quiet_builtin -> k9, isFrame -> Dx
open PySem.F renaming attrBase_ValueError -> az, type_list_extend -> cK, slot_list_extend -> cL, plainAttrs_list -> cT, excBase_ValueError -> h8, args_tuple_add_2 -> wY, entry_tuple_add -> xk, slot_tuple_add -> yF
open PySem.Heap renaming get?_push_of_some -> aM, lt_size -> aU, get?_push_size -> da, get?_update_other -> o8, get?_update_self -> qb, size_push -> yI, SameBut -> Dw, get?_none_of_le -> DQ
open PySem.NameKind renaming free -> jX
open PySem.Paired renaming length -> yG
open PySem.Str renaming empty -> xi
open PySem.Txt renaming slice_le -> vm
open PySem.Value renaming ref -> fm, builtin -> oE, str -> vq, none -> yB, bool -> yC, int -> Br
open PySem.W renaming kitOne -> aa, Frag -> af, findIn -> ak, nsIn -> ay, mg_of -> aI, mroIn -> aO, specialIn -> a5, takesIn -> bD, clsIn -> b6, kia_one -> cu, boot_heap -> c5, keepIn -> fk, mg_none_of -> fV, fnOf -> fZ, hasDictIn -> hV, boot_drawn -> hZ, SharedT -> mM, topFrame -> nz, excIn -> nJ, boot_toks -> pk, looks_findIn -> pq, InstAt -> p8, looks_clsIn -> qh, isNs_of_in -> qT, callWith_K -> qU, methodObj -> rC, handedIn -> sF, any_some -> sG, findIn -> tm, OpenLaw -> t8, codeIn -> vr, Looks -> xj, cellsFrom_some -> yE, openGood -> Bf, looks_mroIn -> Bt, tail_of_in -> Dr, set_plain -> DM, kitx_none -> DN
open PySem.W.Looks renaming here -> wX
open Sum renaming inr -> xg, inl -> xh
open True renaming intro -> dA
set_option Elab.async false
set_option linter.all false
set_option maxRecDepth 100000
set_option maxHeartbeats 4000000
set_option genSizeOf false
set_option genInjectivity false
set_option compiler.extract_closed false
namespace Internal
theorem Ab(h:0=0:=by exact K2.Gv):0=0:=h
theorem Ac(h:0=0:=by kernel_rfl):0=0:=h
theorem Ad(h:0=0:=by decide):0=0:=h
theorem Af(h:0=0:=by first | k_is | rfl):0=0:=h
theorem Ai(h:0=0:=by intro _; rfl):0=0:=h
theorem Ak(h:0=0:=by decide +kernel):0=0:=h
theorem Al(h:0=0:=by intro _ _ _ _ h; repeat (first | (cases h.1; rfl) | (cases h <;> rename_i h))):0=0:=h
theorem Ao(h:0=0:=by first | exact .inl rfl | exact .inr rfl | exact .inr (.inl rfl) | exact .inr (.inr rfl) | assumption):0=0:=h
theorem Ap(h:0=0:=by exact K2.Fy):0=0:=h
theorem Aq(h:0=0:=by k_is):0=0:=h
theorem Ar(h:0=0:=by rfl):0=0:=h
theorem Ax(h:0=0:=by k_exc):0=0:=h
theorem Az(h:0=0:=by first | k_is | kit_is):0=0:=h
namespace L2
open PySem PySem.Spec PyProof.Rows
noncomputable abbrev Key:=Sum Int Str
noncomputable def tJ:Key->Value->Bool
 | .inl k,v=>Value.isInt k v
 | .inr x,v=>Value.isStrOf x v
noncomputable def JT(w:World):Key->Int
 | .inl k=>hashInt k
 | .inr x=>hashStr w x
theorem c9:∀ {k:Key} {v:Value},tJ k v=true->(∃ i t,k=xh i/\v=Br i t)\/(∃ x t,k=xg x/\v=vq x t)
 | .inl i,v,h=>by
  obtain⟨t,e⟩:=Value.isInt_shape (k:=i) (v:=v) h;exact .inl ⟨i,t,rfl,e⟩
 | .inr x,v,h=>by
  obtain⟨t,e⟩:=Value.isStrOf_shape (x:=x) (v:=v) h;exact .inr ⟨x,t,rfl,e⟩
theorem AR(i:Int)(t:Tok):tJ (.inl i) (.int i t)=true:=by simp [tJ,Value.isInt]
theorem AQ(x:Str)(t:Tok):tJ (.inr x) (.str x t)=true:=by simp [tJ,Value.isStrOf]
theorem Cr(a b:Int):decide ((xh a:Key)=xh b)=(a == b):=by
 by_cases e:a=b
 ·subst e; simp
 ·have h:¬ (xh a:Key)=xh b:=fun q=>e (Sum.inl.inj q);rw [decide_eq_false h];exact(beq_eq_false_iff_ne.mpr e).symm
theorem Cp(a b:Str):decide ((xg a:Key)=xg b)=decide (a=b):=by
 by_cases e:a=b
 ·subst e; simp
 ·have h:¬ (xg a:Key)=xg b:=fun q=>e (Sum.inr.inj q);rw [decide_eq_false h,decide_eq_false e]
theorem FT(a:Int)(b:Str):decide ((xh a:Key)=xg b)=false:=decide_eq_false (fun q=>nomatch q)
theorem FR(a:Str)(b:Int):decide ((xg a:Key)=xh b)=false:=decide_eq_false (fun q=>nomatch q)
noncomputable def dQ(prog:bo)(w:World):PySem.KeyKind prog w Key where
 is:=tJ
 hash:=JT w
 inj:=fun v a b ha hb=>by
  rcases c9 ha with ⟨i,t,rfl,rfl⟩ | ⟨x,t,rfl,rfl⟩
  ·rcases c9 hb with ⟨j,u,rfl,e⟩ | ⟨y,u,rfl,e⟩
   ·injection e with e1 _; rw [e1]
   ·exact nomatch e
  ·rcases c9 hb with ⟨j,u,rfl,e⟩ | ⟨y,u,rfl,e⟩
   ·exact nomatch e
   ·injection e with e1 _; rw [e1]
 byValue:=fun k v h=>by
  rcases c9 h with ⟨i,t,rfl,rfl⟩ | ⟨x,t,rfl,rfl⟩ <;> rfl
 pyHash:=fun hv h=>by
  rcases c9 hv with ⟨i,t,rfl,rfl⟩ | ⟨x,t,rfl,rfl⟩
  ·exact wpAny_pyHash_int h
  ·exact wpAny_pyHash_str h
 eqBool:=fun hu hv h=>by
  rcases c9 hu with ⟨i,t,rfl,rfl⟩ | ⟨x,t,rfl,rfl⟩
  ·rcases c9 hv with ⟨j,u,rfl,rfl⟩ | ⟨y,u,rfl,rfl⟩
   ·rw [Cr] at h; exact wpAny_eqBool_int h
   ·rw [FT] at h; exact SeqAt.EqAt.int_str i t y u _ _ _ _ h
  ·rcases c9 hv with ⟨j,u,rfl,rfl⟩ | ⟨y,u,rfl,rfl⟩
   ·rw [FR] at h; exact SeqAt.EqAt.str_int x t j u _ _ _ _ h
   ·rw [Cp] at h; exact wpAny_eqBool_str h
 «strs»:=fun k x t v h=>by
  rcases c9 h with ⟨i,u,rfl,e⟩ | ⟨y,u,rfl,e⟩
  ·exact nomatch e
  ·injection e with e1 _
   subst e1;cases v <;> rfl
theorem v9(prog:bo)(w:World)(i:Int)(t:Tok):(dQ prog w).is (.inl i) (.int i t)=true:=AR i t
theorem v8(prog:bo)(w:World)(x:Str)(t:Tok):(dQ prog w).is (.inr x) (.str x t)=true:=AQ x t
inductive V where
 | l7 | bl (b:Bool) | int (i:Int) | str (x:Str) | GX (b:Array UInt8) | Je (b:UInt64) | ref (a:Addr) | ty (n:String)
noncomputable def RelV:V->Value->Prop
 | .l7,u=>u=yB
 | .bl b,u=>u=yC b
 | .int i,u=>∃ t,u=Br i t
 | .str x,u=>∃ t,u=vq x t
 | .GX b,u=>∃ t,u=Value.bytes b t
 | .Je b,u=>∃ t,u=Value.float b t
 | .ref a,u=>u=fm a
 | .ty n,u=>u=Value.type n
noncomputable abbrev Vals:List V->List Value->Prop:=Paired RelV
theorem Vals.length{xs:List V}{us:List Value}(r:Vals xs us):xs.length=us.length:=yG r
theorem Vals.get:∀ {xs:List V} {us:List Value} {i:Nat} {x:V},Vals xs us->xs[i]?=some x->∃ u,us[i]?=some u/\RelV x u:=by
 intro xs us i x h;induction h generalizing i with
 | nil=>intro e; cases e
 | cons r t ih =>
  intro e;cases i with
  | zero=>cases e; exact⟨_,rfl,r⟩
  | succ i=>exact ih e
theorem Vals.append:∀ {xs ys:List V} {us ws:List Value},Vals xs us->Vals ys ws->Vals (xs++ys) (us++ws):=by
 intro xs ys us ws h s;induction h with
 | nil=>exact s
 | cons r t ih=>exact .cons r ih
noncomputable def rf:Option V->Option Value->Prop
 | some v,some u=>RelV v u
 | none,none=>True
 | _,_=>False
noncomputable def KV{κ:Type}:List (κ×V)->List (κ×Value)->Prop:=Paired fun (p:κ×V) (q:κ×Value)=>p.1=q.1/\RelV p.2 q.2
noncomputable def kV:Key->V
 | .inl i=>.int i
 | .inr x=>.str x
inductive HO where
 | lst (xs:List V)
 | tup (xs:List V)
 | dK (bF:List (Key×V)) | dT (bF:List (List Key×V))
 | set (S:Int->Bool) (n:Nat)
 | ins (C dx:Addr) (fs:List (Str×V))
 | own (x:Addr)
 | xd (fs:List (Str×V))
 | met (f x:Addr)
 | IU (lo hi:Int)
 | la (o:Obj) (u:HO)
 | ER (q:Str)
 | ext (φ:Heap->Prop)
noncomputable abbrev Hp:=Addr->Option HO
noncomputable def upd(H:Hp)(a:Addr)(o:HO):Hp:=fun b=>if b=a then some o else H b
theorem cj{H:Hp}{a:Addr}{o:HO}:upd H a o a=some o:=by unfold upd; rw [if_pos rfl]
theorem bc{H:Hp}{a b:Addr}{o:HO}(h:b≠a):upd H a o b=H b:=by unfold upd; rw [if_neg h]
theorem cz{H:Hp}{a b:Addr}{o:HO}(h:H a=some o)(h':H b=none):a≠b:=by
 intro e; subst e; rw [h] at h'; cases h'
section
variable (P:bo) (w:World)
noncomputable def dH(H:Hp)(h:Heap)(a:Addr):HO->Prop
 | .lst xs=>xs.length<=aZ/\∃ (cY:List Value) (n:Nat),Vals xs cY/\h.get? a=some { cls:=.type "list",data:=.seq cY.toArray n }
 | .tup xs=>xs.length<=aZ/\∃ cY:List Value,Vals xs cY/\IsTup h a cY.toArray
 | .dK bF=>bF.length<=aZ/\(a == pj)=false/\∃ vs,KV bF vs/\h.DictOf (dQ P w) a vs
 | .dT bF=>bF.length<=aZ/\(a == pj)=false/\∃ xs:List (List Key×Addr×Value),
   Paired (fun (p:List Key×V) (q:List Key×Addr×Value)=>p.1=q.1/\H q.2.1=some (.tup (p.1.map kV))/\RelV p.2 q.2.2) bF xs /\
   ∃ o es ep,h.get? a=some o/\o.ExactDict/\o.data=.dict es ep/\es.toList=xs.map (entryOfKey (Bq (dQ P w)))/\(xs.map (·.1)).Nodup
 | .set S n=>h.SetOf (intKind P w) a S n
 | .ins C dx fs=>H dx=some (.own a)/\fs.length<=1000/\dx≠a/\h.get? a=some (PySem.W.instObj C dx) /\
   ∃ mA,h.Ns1 dx mA/\(∀ f,rf (fs.lookup f) (mA f))/\Bs mA (fs.map (·.1))
 | .own _=>∃ o,h.get? a=some o
 | .xd fs=>∃ mA,h.Ns1 a mA/\∀ f,rf (fs.lookup f) (mA f)
 | .IU lo hi=>∃ t u v,h.get? a=some { cls:=.type "range",data:=.fields #[.int lo t,.int hi u,.int 1 v] }
 | .la o u=>h.get? a=some o/\dH H h a u
 | .ER q=>∃ ps,h.get? a=some { cls:=.none,data:=.fields ps }/\TriplesOk ps.toList/\∀ pos cv,codeAmong pos ps.toList=some cv->∃ c',cv=.ref c'/\H c'=some (.own a)/\h.CodeRec (.ref c') q
 | .met f x=>h.get? a=some (rC (.ref f) (.ref x))
 | .ext φ=>φ h/\(∃ o,h.get? a=some o)/\∀ h1 h2:Heap,φ h1->(∀ o,h1.get? a=some o->h2.get? a=some o)->φ h2
noncomputable def pf(H:Hp)(h:Heap):Prop:=∀ a o,H a=some o->dH P w H h a o
end
section
variable {P:bo} {w:World} {H H':Hp} {h h':Heap} {a:Addr} {o:HO}
theorem dH.lt(x:dH P w H h a o):a < h.objs.size:=by
 cases o with
 | lst xs=>obtain⟨_,_,_,_,e⟩:=x; exact aU e
 | tup xs=>obtain⟨_,_,_,p⟩:=x; exact p.lt
 | dK bF=>obtain⟨_,_,_,_,o,_,_,e,_⟩:=x; exact aU e
 | dT bF=>obtain⟨_,_,_,_,o,_,_,e,_⟩:=x; exact aU e
 | set S n=>obtain⟨o,_,_,_,e,_⟩:=x; exact aU e
 | ins C dx fs=>obtain⟨_,_,_,e,_⟩:=x; exact aU e
 | own y=>obtain⟨_,e⟩:=x; exact aU e
 | xd fs=>obtain⟨_,⟨_,_,_,e,_⟩,_⟩:=x; exact aU e
 | IU lo hi=>obtain⟨_,_,_,e⟩:=x; exact aU e
 | la ob u=>obtain⟨e,_⟩:=x; exact aU e
 | ER q=>obtain⟨_,e,_⟩:=x; exact aU e
 | met f y=>exact aU (show h.get? a=some _ from x)
 | ext φ=>obtain⟨_,⟨_,e⟩,_⟩:=x; exact aU e
theorem Paired.JL{α β:Type}{F G:α->β->Prop}:∀ {FN:List α} {FL:List β},Paired F FN FL->(∀ a b,F a b->G a b)->Paired G FN FL:=by
 intro FN FL h f;induction h with
 | nil=>exact .nil
 | cons r t ih=>exact .cons (f _ _ r) ih
theorem dH.mR(x:dH P w H h a o)(k:∀ b u,(b=a\/H b=some (.own a))->h.get? b=some u->h'.get? b=some u)
  (ho:∀ b,H b=some (.own a)->H' b=some (.own a)) (ht:∀ b xs,H b=some (.tup xs)->H' b=some (.tup xs)):dH P w H' h' a o:=by
 induction o with
 | lst xs=>obtain⟨z,cY,n,r,e⟩:=x; exact⟨z,cY,n,r,k _ _ (.inl rfl) e⟩
 | tup xs=>obtain⟨z,cY,r,ob,e,c⟩:=x; exact⟨z,cY,r,ob,k _ _ (.inl rfl) e,c⟩
 | dK bF=>obtain⟨z,y,vs,r,ob,es,ep,e,c⟩:=x; exact⟨z,y,vs,r,ob,es,ep,k _ _ (.inl rfl) e,c⟩
 | dT bF =>
  obtain⟨z,y,xs,r,ob,es,ep,e,c⟩:=x;exact⟨z,y,xs,Paired.JL r fun p q z=>⟨z.1,ht _ _ z.2.1,z.2.2⟩,ob,es,ep,k _ _ (.inl rfl) e,c⟩
 | set S n=>obtain⟨ob,es,ep,t,e,c⟩:=x; exact⟨ob,es,ep,t,k _ _ (.inl rfl) e,c⟩
 | ins C dx fs =>
  obtain⟨d,z,ne,e,mA,⟨od,es,ep,e2,c⟩,r⟩:=x;exact⟨ho _ d,z,ne,k _ _ (.inl rfl) e,mA,⟨od,es,ep,k _ _ (.inr d) e2,c⟩,r⟩
 | own y=>obtain⟨ob,e⟩:=x; exact⟨ob,k _ _ (.inl rfl) e⟩
 | xd fs=>obtain⟨mA,⟨od,es,ep,e,c⟩,r⟩:=x; exact⟨mA,⟨od,es,ep,k _ _ (.inl rfl) e,c⟩,r⟩
 | IU lo hi=>obtain⟨t,u,v,e⟩:=x; exact⟨t,u,v,k _ _ (.inl rfl) e⟩
 | la ob u ih=>obtain⟨e,q⟩:=x; exact⟨k _ _ (.inl rfl) e,ih q⟩
 | ER q =>
  obtain⟨ps,e,t,z⟩:=x;refine⟨ps,k _ _ (.inl rfl) e,t,fun pos cv y=>?_⟩;obtain⟨c',e1,e2,c2,oc,vs,tq,e3,e4,r⟩:=z pos cv y;cases e3;exact⟨c',e1,ho _ e2,c',oc,vs,tq,rfl,k _ _ (.inr e2) e4,r⟩
 | met f y =>
  have e:h.get? a=some (rC (.ref f) (.ref y)):=x;show h'.get? a=some (rC (.ref f) (.ref y));exact k a _ (.inl rfl) e
 | ext φ=>obtain⟨p,⟨o,e⟩,st⟩:=x; exact⟨st _ _ p fun o q=>k _ _ (.inl rfl) q,⟨o,k _ _ (.inl rfl) e⟩,st⟩
theorem pf.lt(x:pf P w H h)(e:H a=some o):a < h.objs.size:=(x a o e).lt
theorem pf.fresh(x:pf P w H h)(e:h.objs.size<=a):H a=none:=by
 cases q:H a with
 | none=>rfl
 | some u=>exact absurd (aY (x.lt q) e) (my _)
theorem pf.kept(x:pf P w H h)(k:∀ b u,h.get? b=some u->h'.get? b=some u):pf P w H h':=fun a o e =>
 (x a o e).mR (fun b u _ q=>k b u q) (fun _ q=>q) fun _ _ q=>q
theorem pf.laid(x:pf P w H h)(k:∀ b u,h.get? b=some u->h'.get? b=some u)(hp:h.objs.size<=a)(new:dH P w (upd H a o) h' a o):pf P w (upd H a o) h':=fun b u e=>by
 have hn:=x.fresh hp;by_cases hb:b=a
 ·subst hb; rw [cj] at e; cases e; exact new
 ·rw [bc hb] at e;exact(x b u e).mR (fun c v _ q=>k c v q) (fun c q=>by rw [bc (cz q hn)]; exact q) fun c xs q=>by rw [bc (cz q hn)]; exact q
end
noncomputable def Rd(H:Hp)(a:Addr)(u:HO):Prop:=H a=some u\/∃ o,H a=some (.la o u)
theorem Rd.ok{P:bo}{w:World}{H:Hp}{h:Heap}{a:Addr}{u:HO}(r:Rd H a u)(x:pf P w H h):dH P w H h a u:=by
 rcases r with r | ⟨o,r⟩
 ·exact x a u r
 ·obtain⟨_,q⟩:=x a _ r;exact q
noncomputable def Jo:Option HO->Prop
 | some (.lst _)=>True
 | some (.dK _)=>True
 | some (.dT _)=>True
 | some (.set _ _)=>True
 | some (.ins _ _ _)=>True
 | some (.ext _)=>True
 | _=>False
section
variable {P:bo} {w:World} {H:Hp} {h h':Heap} {x e:Addr} {o':HO}
theorem pf.write(ok:pf P w H h)(mu:Jo (H x))(he:e=x\/H e=some (.own x))(k:∀ b u,b≠e->h.get? b=some u->h'.get? b=some u)(GS:∃ u,h'.get? e=some u)
  (new:dH P w (upd H x o') h' x o'):pf P w (upd H x o') h':=fun b u q=>by
 have Hx:∀ c y,H c=some (.own y)->c≠x:=fun c y r z=>by subst z; rw [r] at mu; exact mu
 have JI:∀ c xs,H c=some (.tup xs)->c≠x:=fun c xs r z=>by subst z; rw [r] at mu; exact mu
 by_cases hb:b=x
 ·subst hb; rw [cj] at q; cases q; exact new
 ·rw [bc hb] at q;by_cases Ge:b=e
  ·have q':H b=some (.own x):=by
    rcases he with z | z
    ·exact absurd (Ge.trans z) hb
    ·rw [Ge]; exact z
   rw [q] at q'; cases q';obtain⟨v,hv⟩:=GS;exact⟨v,by rw [Ge]; exact hv⟩
  ·refine(ok b u q).mR (fun c v hc r=>k c v ?_ r) (fun c r=>by rw [bc (Hx c b r)]; exact r) fun c xs r=>by rw [bc (JI c xs r)]; exact r
   rcases hc with rfl | hc
   ·exact Ge
   ·rintro rfl;rcases he with z | z
    ·exact Hx c b hc z
    ·rw [hc] at z; cases z; exact hb rfl
end
structure Un(fs ex:List Addr)(H H':Hp)(h h':Heap):Prop where
 keep:∀ b o,h.get? b=some o->H b=none->b∉fs->b∉ex->h'.get? b=some o
 slot:∀ b o,h.get? b=some o->H b=none->b∈fs->b∉ex->∃ sl,h'.get? b=some { o with slots:=sl }
 free:∀ b o,h.get? b=some o->H b=none->b∉ex->H' b=none
 there:∀ b o,h.get? b=some o->b∉ex->∃ o',h'.get? b=some o'
 sI:∀ b xs,H b=some (.tup xs)->H' b=some (.tup xs)
 si:∀ b o u,H b=some (.la o u)->H' b=some (.la o u)
 sM:∀ b q,H b=some (.ER q)->H' b=some (.ER q)
 sQ:∀ b x,H b=some (.own x)->H' b=some (.own x)
section
variable {fs NX ex NZ:List Addr} {H H1 H2:Hp} {h h1 h2 h':Heap} {a x e:Addr} {o:HO}
theorem Un.any(u:Un fs ex H H1 h h1){b:Addr}{ob:Obj}(q:h.get? b=some ob)(n:H b=none)(hx:b∉ex):∃ sl,h1.get? b=some { ob with slots:=sl }:=by
 by_cases hb:b∈fs
 ·exact u.slot b ob q n hb hx
 ·exact⟨ob.slots,u.keep b ob q n hb hx⟩
theorem Un.kept(k:∀ b u,h.get? b=some u->h'.get? b=some u):Un fs ex H H h h' :=
 ⟨fun b ob q _ _ _=>k b ob q,fun b ob q _ _ _=>⟨ob.slots,k b ob q⟩,fun _ _ _ n _=>n,fun b ob q _=>⟨ob,k b ob q⟩,fun _ _ q=>q,fun _ _ _ q=>q,fun _ _ q=>q,fun _ _ q=>q⟩
theorem Un.refl:Un fs ex H H h h:=Un.kept fun _ _ q=>q
theorem Un.laid(k:∀ b u,h.get? b=some u->h'.get? b=some u)(hp:h.objs.size<=a)(hn:H a=none):Un fs ex H (upd H a o) h h' where
 keep:=fun b u q _ _ _=>k b u q
 slot:=fun b u q _ _ _=>⟨u.slots,k b u q⟩
 free:=fun b u q n _=>by rw [bc (cA (aY (aU q) hp))]; exact n
 there:=fun b u q _=>⟨u,k b u q⟩
 sI:=fun b xs q=>by rw [bc (cz q hn)]; exact q
 si:=fun b u xs q=>by rw [bc (cz q hn)]; exact q
 sM:=fun b ps q=>by rw [bc (cz q hn)]; exact q
 sQ:=fun b ps q=>by rw [bc (cz q hn)]; exact q
theorem Un.write(mu:Jo (H x))(he:e=x\/H e=some (.own x))(k:∀ b u,b≠e->h.get? b=some u->h'.get? b=some u)(GS:∃ u,h'.get? e=some u):Un fs ex H (upd H x o) h h':=by
 have hx:∀ b,H b=none->b≠x:=fun b n z=>by subst z; rw [n] at mu; exact mu
 have hb:∀ b,H b=none->b≠e:=fun b n z=>by
  subst z;rcases he with r | r
  ·exact hx b n r
  ·rw [n] at r; cases r
 have hm:∀ b u,H b=some u->¬ Jo (some u)->b≠x:=fun b u q nm z=>by subst z; rw [q] at mu; exact nm mu
 refine⟨fun b u q n _ _=>k b u (hb b n) q,fun b u q n _ _=>⟨u.slots,k b u (hb b n) q⟩,fun b u q n _=>by rw [bc (hx b n)]; exact n,fun b u q _=>?_,
  fun b xs q=>by rw [bc (hm b _ q fun z=>z)]; exact q,fun b u xs q=>by rw [bc (hm b _ q fun z=>z)]; exact q,fun b ps q=>by rw [bc (hm b _ q fun z=>z)]; exact q,fun b ps q=>by rw [bc (hm b _ q fun z=>z)]; exact q⟩
 by_cases Ge:b=e
 ·subst Ge; exact GS
 ·exact⟨u,k b u Ge q⟩
end
noncomputable def IP(h:Heap)(H:Hp):List Addr:=(jZ h.objs.size).filter fun a=>(H a).isSome
noncomputable def uU(h:Heap)(H:Hp):Heap:=PySem.W.hideAll h (IP h H)
theorem AV(h:Heap)(H:Hp):(uU h H).objs.size=h.objs.size:=PySem.W.hideAll_size _ _
theorem CB{h:Heap}{H:Hp}{b:Addr}{o:Obj}(e:h.get? b=some o)(n:H b=none):(uU h H).get? b=some o :=
 PySem.W.hideAll_get _ e fun hm=>by
  have q:(H b).isSome=true:=(List.mem_filter.mp hm).2;rw [n] at q; simp at q
theorem Ea{h:Heap}{H:Hp}{b:Addr}{o:Obj}(e:(uU h H).get? b=some o):h.get? b=some o/\H b=none:=by
 have e':h.get? b=some o:=PySem.W.of_hideAll (IP h H) e;refine⟨e',?_⟩;cases q:H b with
 | none=>rfl
 | some x =>
  have hm:b∈IP h H:=List.mem_filter.mpr ⟨List.mem_range.mpr (aU e'),by simp [q]⟩;have z:(uU h H).get? b=none:=PySem.W.hideAll_none (IP h H) hm;rw [z] at e; cases e
noncomputable def p3(g h:Heap)(L:Addr):List (Addr×Obj):=(jZ h.objs.size).filterMap fun a=>if a=L\/(g.get? a).isSome=true then none else (h.get? a).map fun o=>(a,o)
theorem wb{g h:Heap}{L a:Addr}{o:Obj}(h1:a≠L)(h2:g.get? a=none)(h3:h.get? a=some o):(a,o)∈p3 g h L :=
 List.mem_filterMap.mpr ⟨a,List.mem_range.mpr (aU h3),by simp [h1,h2,h3]⟩
theorem rU{g h:Heap}{L:Addr}{p:Addr×Obj}(hp:p∈p3 g h L):p.1≠L/\g.get? p.1=none/\h.get? p.1=some p.2:=by
 obtain⟨b,_,e⟩:=List.mem_filterMap.mp hp;split at e
 ·cases e
 ·rename_i hn;cases q:h.get? b with
  | none=>rw [q] at e; simp at e
  | some u =>
   rw [q] at e;simp only [Option.map_some,Option.some.injEq] at e;subst e;refine⟨fun z=>hn (.inl z),?_,q⟩;show g.get? b=none;cases r:g.get? b with
   | none=>rfl
   | some v=>exact(hn (.inr (by simp [r]))).elim
noncomputable def rest(g h:Heap)(L d:Addr):List (Addr×Obj):=(p3 g h L).filter fun p=>decide (p.1≠d)
theorem Cg{g h:Heap}{L:Addr}:News g L h (p3 g h L):=fun p hp=>let ⟨a,b,c⟩:=rU hp; ⟨c,a,b⟩
structure Mod(K:af)(mg:Str->Option Value)(base:Heap):Prop where
 HJ:K.In base
 glob:base.Ns ao mg
 blt:∃ mb,base.Ns builtinsNs mb/\∀ x:Str,x≠"__name__"->mb x=i7 x
 nolimit:base.NoLimit
structure Cx where
 prog:bo
 w:World
 K:af
 mg:Str->Option Value
 base:Heap
 A:cZ
 N:List Str
 l6:au
 Dk:Hp
 env:Env
 outer:List Env
 stack:List Env
 ex:List Addr
 fn:Str->Bool
 calm:Bool
 pn:List (Addr×Obj)
 xe:Value->au->Prop
noncomputable def Bk(l:List Env):List Addr:=l.filterMap (·.frame)
noncomputable abbrev Cx.fs(X:Cx):List Addr:=Bk X.outer
noncomputable def IC(sc:Scope)(x:Str):Prop:=sc.names.lookup x=some .local\/sc.names.lookup x=some .cell\/sc.names.lookup x=some .free
noncomputable def Loc(sc:Scope)(x:Str):Prop:=sc.names.lookup x=some .local\/sc.names.lookup x=some .cell
noncomputable def Look(env:Env)(h:Heap)(m:Str->Option Value)(x:Str)(u:Value):Prop :=
 (env.kindOf x=some .local/\m x=some u)\/((env.kindOf x=some .cell\/env.kindOf x=some .free)/\∃ c,env.cells.lookup x=some c/\h.IsCell c (some u))
structure Cx.Ok(X:Cx):Prop where
 mod:Mod X.K X.mg X.base
 kind:X.env.scope.kind=.function
 glob:X.env.globals=ao
 blt:X.env.builtins=builtinsNs
 above:X.l6.heap.objs.size<=X.env.locals
 inj:∀ x y c,X.env.cells.lookup x=some c->X.env.cells.lookup y=some c->x=y
 has:∀ x,(X.env.kindOf x=some .cell\/X.env.kindOf x=some .free)->∃ c,X.env.cells.lookup x=some c
 IB:∀ x c,X.fn x=true->X.env.cells.lookup x=some c->X.l6.heap.objs.size<=c
 hd:X.calm=true->X.A.handled=none
 frames:X.A.frames=some X.stack
 IQ:X.stack=X.outer\/(X.stack=X.env :: X.outer/\X.env.frame=some X.env.locals)
 Jf:∀ b∈X.ex,b≠X.env.locals/\∀ x c,X.env.cells.lookup x=some c->c≠b
 bs:∀ b o,X.base.get? b=some o->X.l6.heap.get? b=some o/\X.Dk b=none
 DE:X.base.objs.size<=X.l6.heap.objs.size
 Cf:∀ b o,X.base.get? b=some o->b∉X.ex
 CN:∀ b∈X.ex,b∉X.fs
 q4:X.l6.heap.FunFrames X.base X.outer
 Gm:∀ b∈X.fs,X.Dk b=none
structure Inv(X:Cx)(pins:List (Addr×Obj))(σ:List (Option V))(H:Hp)(s:au):Prop where
 ok:X.Ok
 os:s.os=X.l6.os
 bare:t9 s.gens
 base:Un X.fs X.ex X.Dk H X.l6.heap s.heap
 loc:∃ m,s.heap.Ns X.env.locals m/\∀ (i:Nat) (x:Str) (v:V),X.N[i]?=some x->σ[i]?=some (some v)->IC X.env.scope x->∃ u,RelV v u/\Look X.env s.heap m x u
 cell:∀ x c,X.env.cells.lookup x=some c->∃ v,s.heap.IsCell c v
 free:H X.env.locals=none
 nv:∀ x c,X.env.cells.lookup x=some c->H c=none
 pin:∀ p∈X.pn++pins,s.heap.get? p.1=some p.2/\H p.1=none/\p.1≠X.env.locals/\p.1∉X.fs/\∀ v,p.2.data≠.cell v
 dr:pf X.prog X.w H s.heap
 len:σ.length=X.N.length
section
variable {X:Cx} {pins:List (Addr×Obj)} {σ:List (Option V)} {H H':Hp} {s:au} {h':Heap}
theorem Cx.Ok.JK(ok:X.Ok){b:Addr}{o:Obj}(e:X.base.get? b=some o):b∉X.fs:=fun hb=>by
 have:=(ok.q4.mem hb).1;rw [e] at this; cases this
theorem Inv.bs(I:Inv X pins σ H s):∀ b o,X.base.get? b=some o->s.heap.get? b=some o/\H b=none:=fun b o e =>
 ⟨I.base.keep b o (I.ok.bs b o e).1 (I.ok.bs b o e).2 (I.ok.JK e) (I.ok.Cf b o e),I.base.free b o (I.ok.bs b o e).1 (I.ok.bs b o e).2 (I.ok.Cf b o e)⟩
theorem Inv.bk(I:Inv X pins σ H s):∀ b o,X.base.get? b=some o->s.heap.get? b=some o:=fun b o e=>(I.bs b o e).1
theorem Inv.mod(I:Inv X pins σ H s):Mod X.K X.mg X.base:=I.ok.mod
theorem Inv.o9(I:Inv X pins σ H s):X.K.In s.heap:=I.ok.mod.HJ.keeps I.bk
theorem Inv.fr(I:Inv X pins σ H s):∃ m,Fr X.base X.env.locals s.heap m :=
 let ⟨m,hn,_⟩:=I.loc
 ⟨m,hn,I.bk,b8 I.ok.DE I.ok.above⟩
theorem Inv.lt(I:Inv X pins σ H s):X.env.locals < s.heap.objs.size:=let ⟨_,hn,_⟩:=I.loc; hn.lt
theorem Inv.sz(I:Inv X pins σ H s):X.l6.heap.objs.size<=s.heap.objs.size:=b8 I.ok.above (DO I.lt)
theorem Inv.JJ(I:Inv X pins σ H s){a:Addr}(h:s.heap.objs.size<=a):a∉X.fs:=fun hb=>by
 obtain⟨_,o,ho,_⟩:=I.ok.q4.mem hb;exact absurd (aY (aU ho) (b8 I.sz h)) (my _)
theorem Inv.Gz(I:Inv X pins σ H s):∀ x c,X.env.cells.lookup x=some c->c≠X.env.locals:=fun x c e z=>by
 obtain⟨v,o,ho,hd⟩:=I.cell x c e;obtain⟨m,⟨o',es,ep,Ga,AX,_⟩,_⟩:=I.loc;rw [z,Ga] at ho; cases ho; rw [AX] at hd; cases hd
theorem Inv.q4(I:Inv X pins σ H s):s.heap.FunFrames X.base X.outer:=by
 have all:∀ (l:List Env),(∀ b∈Bk l,b∈X.fs)->X.l6.heap.FunFrames X.base l->s.heap.FunFrames X.base l:=by
  intro l;induction l with
  | nil=>intro _ _; trivial
  | cons env r ih =>
   intro hs hl;obtain⟨hk,⟨L,o,hf,hn,ho,hd⟩,hr⟩:=hl;have hL:L∈X.fs:=hs L (by unfold Bk; rw [rh,hf]; exact dI);obtain⟨sl,e⟩:=I.base.slot L o ho (I.ok.Gm L hL) hL fun z=>I.ok.CN L z hL;exact⟨hk,⟨L,_,hf,hn,e,hd⟩,ih (fun b hb=>hs b (by unfold Bk; rw [rh,hf]; exact cW _ hb)) hr⟩
 exact all X.outer (fun _ hb=>hb) I.ok.q4
theorem Inv.stack(I:Inv X pins σ H s):s.heap.FunFrames X.base X.stack:=by
 rcases I.ok.IQ with e | ⟨e,hf⟩
 ·rw [e]; exact I.q4
 ·rw [e];obtain⟨m,hn,_⟩:=I.loc;refine .cons (by rw [I.ok.kind]; decide) hf hn ?_ I.q4;exact DQ (b8 I.ok.DE I.ok.above)
theorem Inv.xU(I:Inv X pins σ H s):∀ b∈Bk X.stack,b∈X.env.locals :: X.fs:=fun b hb=>by
 rcases I.ok.IQ with e | ⟨e,hf⟩
 ·rw [e] at hb; exact cW _ hb
 ·rw [e] at hb;unfold Bk at hb;rw [rh,hf] at hb;exact hb
theorem Inv.yL(I:Inv X pins σ H s):∀ b∈Bk X.stack,H b=none:=fun b hb=>by
 rcases List.mem_cons.mp (I.xU b hb) with e | hb
 ·rw [e]; exact I.free
 ·obtain⟨_,o,ho,_⟩:=I.ok.q4.mem hb;exact I.base.free b o ho (I.ok.Gm b hb) fun z=>I.ok.CN b z hb
theorem Inv.step{g':Array GenState}{t':Nat}{d':Drawn}{ch:List Addr}(I:Inv X pins σ H s)
  (E6:∀ b∈ch,(b∈X.ex\/X.l6.heap.objs.size<=b)/\b≠X.env.locals/\(∀ x c,X.env.cells.lookup x=some c->c≠b)/\∀ p∈X.pn++pins,p.1≠b)
  (keep:∀ b o,b≠X.env.locals->b∉X.fs->b∉ch->s.heap.get? b=some o->H b=none->h'.get? b=some o)
  (slot:∀ b o,b≠X.env.locals->b∈X.fs->b∉ch->s.heap.get? b=some o->H b=none->∃ sl,h'.get? b=some { o with slots:=sl }) (free:∀ b o,b∉ch->s.heap.get? b=some o->H b=none->H' b=none)
  (there:∀ b o,b∉ch->s.heap.get? b=some o->∃ o',h'.get? b=some o')
  (sI:∀ b xs,H b=some (.tup xs)->H' b=some (.tup xs)) (si:∀ b o u,H b=some (.la o u)->H' b=some (.la o u)) (sM:∀ b q,H b=some (.ER q)->H' b=some (.ER q)) (sQ:∀ b x,H b=some (.own x)->H' b=some (.own x))
  (ns:∀ m,s.heap.Ns X.env.locals m->h'.Ns X.env.locals m) (dr:pf X.prog X.w H' h') (hg:t9 g') :
  Inv X pins σ H' { s with heap:=h',gens:=g',drawn:=d',toks:=t' }:=by
 have K4:∀ b o,X.l6.heap.get? b=some o->b≠X.env.locals:=fun b o e=>cA (aY (aU e) I.ok.above);have IY:∀ b o,X.l6.heap.get? b=some o->b∉X.ex->b∉ch:=fun b o e hx hb=>by
  rcases (E6 b hb).1 with z | z
  ·exact hx z
  ·exact absurd (aY (aU e) z) (my _)
 have cellK:∀ x c,X.env.cells.lookup x=some c->∀ v,s.heap.IsCell c v->h'.IsCell c v:=fun x c e v ⟨o,ho,hd⟩=>by
  have HC:c∉ch:=fun z=>(E6 c z).2.2.1 x c e rfl;by_cases hc:c∈X.fs
  ·obtain⟨sl,q⟩:=slot c o (I.Gz x c e) hc HC ho (I.nv x c e);exact⟨_,q,hd⟩
  ·exact⟨o,keep c o (I.Gz x c e) hc HC ho (I.nv x c e),hd⟩
 refine⟨I.ok,I.os,hg,⟨fun b o e n hb hx=>?_,fun b o e n hb hx=>?_,fun b o e n hx=>?_,fun b o e hx=>?_,fun b xs e=>sI b xs (I.base.sI b xs e),fun b o xs e=>si b o xs (I.base.si b o xs e),fun b ps e=>?_,fun b x e=>sQ b x (I.base.sQ b x e)⟩,?_,fun x c e=>?_,?_,fun x c e=>?_,fun p hp=>?_,dr,I.len⟩
 ·exact keep b o (K4 b o e) hb (IY b o e hx) (I.base.keep b o e n hb hx) (I.base.free b o e n hx)
 ·obtain⟨sl,e1⟩:=I.base.slot b o e n hb hx;obtain⟨LV,e2⟩:=slot b _ (K4 b o e) hb (IY b o e hx) e1 (I.base.free b o e n hx);exact⟨LV,e2⟩
 ·obtain⟨o',e1⟩:=I.base.there b o e hx;exact free b o' (IY b o e hx) e1 (I.base.free b o e n hx)
 ·obtain⟨o',e1⟩:=I.base.there b o e hx;exact there b o' (IY b o e hx) e1
 ·exact sM b _ (I.base.sM b ps e)
 ·obtain⟨m,hn,hl⟩:=I.loc;refine⟨m,ns m hn,fun i x v e1 e2 e3=>?_⟩;obtain⟨u,r,l⟩:=hl i x v e1 e2 e3;refine⟨u,r,?_⟩;rcases l with l | ⟨k,c,e,z⟩
  ·exact .inl l
  ·exact .inr ⟨k,c,e,cellK x c e _ z⟩
 ·obtain⟨v,z⟩:=I.cell x c e;exact⟨v,cellK x c e v z⟩
 ·obtain⟨m,⟨o,_,_,ho,_⟩,_⟩:=I.loc;exact free _ o (fun z=>(E6 _ z).2.1 rfl) ho I.free
 ·obtain⟨v,o,ho,hd⟩:=I.cell x c e;exact free c o (fun z=>(E6 c z).2.2.1 x c e rfl) ho (I.nv x c e)
 ·obtain⟨e,n,ne,nf,d⟩:=I.pin p hp;have HC:p.1∉ch:=fun z=>(E6 p.1 z).2.2.2 p hp rfl;exact⟨keep p.1 p.2 ne nf HC e n,free p.1 p.2 HC e n,ne,nf,d⟩
theorem Inv.un{t':Nat}(I:Inv X pins σ H s)(u:Un X.fs [] H H' s.heap h')(dr:pf X.prog X.w H' h'):Inv X pins σ H' { s with heap:=h',toks:=t' }:=by
 obtain⟨m,⟨o,es,ep,ho,r⟩,_⟩:=id I.loc;obtain⟨sl,hL⟩:=u.any ho I.free (by simp);exact I.step (g':=s.gens) (d':=s.drawn) (ch:=[]) (fun _ z=>nomatch z) (fun b o _ hb _ e n=>u.keep b o e n hb (by simp)) (fun b o _ hb _ e n=>u.slot b o e n hb (by simp)) (fun b o _ e n=>u.free b o e n (by simp)) (fun b o _ e=>u.there b o e (by simp)) u.sI u.si u.sM u.sQ (fun m' hm=>by
  obtain⟨o',Jg,KA,Ga,r'⟩:=hm;rw [ho] at Ga; cases Ga;exact⟨_,Jg,KA,hL,r'⟩) dr I.bare
theorem Inv.call{g':Array GenState}{t':Nat}{d':Drawn}{ch:List Addr}(I:Inv X pins σ H s)(u:Un (Bk X.stack) ch H H' s.heap h')(dr:pf X.prog X.w H' h')(hg:t9 g')
  (E6:∀ b∈ch,(b∈X.ex\/X.l6.heap.objs.size<=b)/\b≠X.env.locals/\(∀ x c,X.env.cells.lookup x=some c->c≠b)/\∀ p∈X.pn++pins,p.1≠b) :
  Inv X pins σ H' { s with heap:=h',gens:=g',drawn:=d',toks:=t' }:=by
 obtain⟨m,⟨o,es,ep,ho,r⟩,_⟩:=id I.loc;obtain⟨sl,hL⟩:=u.any ho I.free fun z=>(E6 _ z).2.1 rfl;exact I.step (ch:=ch) E6 (fun b o hL hb hc e n=>u.keep b o e n (fun z=>(List.mem_cons.mp (I.xU b z)).elim hL hb) hc) (fun b o _ _ hc e n=>u.any e n hc) (fun b o hc e n=>u.free b o e n hc) (fun b o hc e=>u.there b o e hc) u.sI u.si u.sM u.sQ (fun m' hm=>by
  obtain⟨o',Jg,KA,Ga,r'⟩:=hm;rw [ho] at Ga; cases Ga;exact⟨_,Jg,KA,hL,r'⟩) dr hg
theorem Inv.turned{t':Nat}{it:Addr}(I:Inv X pins σ H s)(k:∀ b o,b≠it->s.heap.get? b=some o->h'.get? b=some o)(hn:H it=none)(hL:it≠X.env.locals)
  (h1:it∈X.ex\/X.l6.heap.objs.size<=it) (h2:∀ x c,X.env.cells.lookup x=some c->c≠it) (h3:∀ p∈X.pn++pins,p.1≠it):Inv X pins σ H { s with heap:=h',toks:=t' }:=by
 have K3:∀ b u,H b=some u->b≠it:=fun b u e z=>by rw [z,hn] at e; cases e
 refine I.step (g':=s.gens) (d':=s.drawn) (ch:=[it]) (fun b hb=>?_) (fun b o _ _ hc e _=>k b o (fun z=>hc (by simp [z])) e) (fun b o _ _ hc e _=>⟨o.slots,k b o (fun z=>hc (by simp [z])) e⟩) (fun _ _ _ _ n=>n)
  (fun b o hc e=>⟨o,k b o (fun z=>hc (by simp [z])) e⟩) (fun _ _ e=>e) (fun _ _ _ e=>e) (fun _ _ e=>e) (fun _ _ e=>e) (fun m hm=>?_) (fun b u e=>?_) I.bare
 ·have e:b=it:=by simpa using hb
  subst e;exact⟨h1,hL,h2,h3⟩
 ·obtain⟨o,es,ep,ho,r⟩:=hm;exact⟨o,es,ep,k _ o (Ds hL) ho,r⟩
 ·refine(I.dr b u e).mR (fun c v hc q=>k c v ?_ q) (fun _ q=>q) fun _ _ q=>q;rcases hc with z | z
  ·rw [z]; exact K3 b u e
  ·exact K3 c _ z
theorem Inv.tok(I:Inv X pins σ H s)(t:Nat):Inv X pins σ H { s with toks:=t }:=I.un (h':=s.heap) (t':=t) Un.refl I.dr
theorem Inv.kept{t':Nat}(I:Inv X pins σ H s)(k:∀ b u,s.heap.get? b=some u->h'.get? b=some u):Inv X pins σ H { s with heap:=h',toks:=t' }:=I.un (Un.kept k) (I.dr.kept k)
theorem Inv.laid{a:Addr}{o:HO}{t':Nat}(I:Inv X pins σ H s)(k:∀ b u,s.heap.get? b=some u->h'.get? b=some u)(hp:s.heap.objs.size<=a)(new:dH X.prog X.w (upd H a o) h' a o) :
  Inv X pins σ (upd H a o) { s with heap:=h',toks:=t' }:=I.un (Un.laid k hp (I.dr.fresh hp)) (I.dr.laid k hp new)
theorem Inv.write{x e:Addr}{o:HO}{t':Nat}(I:Inv X pins σ H s)(mu:Jo (H x))(he:e=x\/H e=some (.own x))(k:∀ b u,b≠e->s.heap.get? b=some u->h'.get? b=some u)(GS:∃ u,h'.get? e=some u)
  (new:dH X.prog X.w (upd H x o) h' x o):Inv X pins σ (upd H x o) { s with heap:=h',toks:=t' }:=I.un (Un.write mu he k GS) (I.dr.write mu he k GS new)
theorem Inv.yU{EW:List (Addr×Obj)}(I:Inv X pins σ H s)(h:∀ p∈EW,s.heap.get? p.1=some p.2/\H p.1=none/\p.1≠X.env.locals/\p.1∉X.fs/\∀ v,p.2.data≠.cell v):Inv X EW σ H s :=
 ⟨I.ok,I.os,I.bare,I.base,I.loc,I.cell,I.free,I.nv,fun p hp=>(List.mem_append.mp hp).elim (fun z=>I.pin p (DP _ z)) (h p),I.dr,I.len⟩
theorem v7{N:List Str}(hN:N.Nodup){i j:Nat}{x:Str}(a:N[i]?=some x)(b:N[j]?=some x):i=j:=by
 obtain⟨h1,e1⟩:=List.getElem?_eq_some_iff.mp a;obtain⟨h2,e2⟩:=List.getElem?_eq_some_iff.mp b;exact(List.getElem_inj hN).mp (e1.trans e2.symm)
theorem As{M:Model}{A:cZ}{E:Value->au->Prop}{i:Nat}{x:Str}{v:V}{u:Value}{Q:Unit->au->Prop}(I:Inv X pins σ H s)(hN:X.N.Nodup)(hi:X.N[i]?=some x)(hx:Loc X.env.scope x)(r:RelV v u)
  (h:∀ s',Inv X pins (σ.set i (some v)) H s'->(∃ a,Dw a s.heap s'.heap/\(a=X.env.locals\/X.env.cells.lookup x=some a))->Q () s') (hf:autoParam (X.fn x=true\/X.env.scope.names.lookup x=some .local) Ao._auto_1):wpAny M A (storeName X.env x u) Q E s:=by
 obtain⟨m,hn,hl⟩:=id I.loc;have Kq:(X.env.scope.kind == .class||(X.env.scope.kind == .module&&X.env.locals != X.env.globals))=false:=by rw [I.ok.kind]; rfl
 have HV:i < σ.length:=by rw [I.len]; exact(List.getElem?_eq_some_iff.mp hi).1
 have Gz:=I.Gz;have tracked:∀ {a:Addr} {h':Heap},(∃ o,s.heap.get? a=some o/\H a=none)->Dw a s.heap h'->pf X.prog X.w H h':=fun {a h'} ha hs b ob e=>by
  obtain⟨_,_,pT⟩:=ha;refine(I.dr b ob e).mR (fun c w' hc q=>(hs.2 c ?_).trans q) (fun _ q=>q) fun _ _ q=>q;rintro rfl;rcases hc with rfl | hc
  ·rw [pT] at e; cases e
  ·rw [pT] at hc; cases hc
 rcases hx with hk | hk
 ·refine wpAny_storeName_local hk hn (fun h' Jb hs=>?_) Kq;obtain⟨oL,_,_,MO,_⟩:=id hn;refine h _ ⟨I.ok,I.os,I.bare,⟨fun b o e n hb hx=>?_,fun b o e n hb hx=>?_,I.base.free,fun b o e hx=>?_,I.base.sI,I.base.si,I.base.sM,I.base.sQ⟩,⟨_,Jb,fun j y v' e1 e2 e3=>?_⟩,fun y c e=>?_,I.free,I.nv,fun p hp=>?_,tracked ⟨oL,MO,I.free⟩ hs,by simpa using I.len⟩ ⟨_,hs,.inl rfl⟩
  ·exact(hs.2 b (cA (aY (aU e) I.ok.above))).trans (I.base.keep b o e n hb hx)
  ·obtain⟨sl,e1⟩:=I.base.slot b o e n hb hx;exact⟨sl,(hs.2 b (cA (aY (aU e) I.ok.above))).trans e1⟩
  ·obtain⟨o',e1⟩:=I.base.there b o e hx;exact⟨o',(hs.2 b (cA (aY (aU e) I.ok.above))).trans e1⟩
  ·by_cases hj:j=i
   ·subst hj;rw [hi] at e1; cases e1;rw [lD HV] at e2;cases e2;exact⟨u,r,.inl ⟨hk,by simp⟩⟩
   ·rw [mh (Ds hj)] at e2;obtain⟨u',r',q⟩:=hl j y v' e1 e2 e3;refine⟨u',r',?_⟩;rcases q with ⟨k,e⟩ | ⟨k,c,e,z⟩
    ·refine .inl ⟨k,?_⟩;have:y≠x:=fun e=>hj (v7 hN e1 (e ▸ hi));simp [this,e]
    ·exact .inr ⟨k,c,e,z.sameBut hs (Gz y c e)⟩
  ·obtain⟨w',z⟩:=I.cell y c e;exact⟨w',z.sameBut hs (Gz y c e)⟩
  ·obtain⟨e,n,ne,nf,d⟩:=I.pin p hp;exact⟨(hs.2 p.1 ne).trans e,n,ne,nf,d⟩
 ·have Kl:X.fn x=true:=by
   rcases hf with z | z
   ·exact z
   ·rw [z] at hk; cases hk
  obtain⟨c,hc⟩:=I.ok.has x (.inl hk);obtain⟨w',z⟩:=I.cell x c hc;refine wpAny_storeName_cell I.ok.kind hk hc z (fun h' Ig hs=>?_);obtain⟨oc,GR,J4⟩:=id z;refine h { s with heap:=h' } ⟨I.ok,I.os,I.bare,⟨fun b o e n hb hx=>?_,fun b o e n hb hx=>?_,I.base.free,fun b o e hx=>?_,I.base.sI,I.base.si,I.base.sM,I.base.sQ⟩,⟨m,hn.sameBut hs (Ds (Gz x c hc)),fun j y v' e1 e2 e3=>?_⟩,fun y c' e=>?_,I.free,I.nv,fun p hp=>?_,tracked ⟨oc,GR,I.nv x c hc⟩ hs,by simpa using I.len⟩ ⟨c,hs,.inr hc⟩
  ·exact(hs.2 b (cA (aY (aU e) (I.ok.IB x c Kl hc)))).trans (I.base.keep b o e n hb hx)
  ·obtain⟨sl,e1⟩:=I.base.slot b o e n hb hx;exact⟨sl,(hs.2 b (cA (aY (aU e) (I.ok.IB x c Kl hc)))).trans e1⟩
  ·obtain⟨o',e1⟩:=I.base.there b o e hx;exact⟨o',(hs.2 b (cA (aY (aU e) (I.ok.IB x c Kl hc)))).trans e1⟩
  ·by_cases hj:j=i
   ·subst hj;rw [hi] at e1; cases e1;rw [lD HV] at e2;cases e2;exact⟨u,r,.inr ⟨.inl hk,c,hc,Ig⟩⟩
   ·rw [mh (Ds hj)] at e2;obtain⟨u',r',q⟩:=hl j y v' e1 e2 e3;refine⟨u',r',?_⟩;rcases q with q | ⟨k,c',e,z'⟩
    ·exact .inl q
    ·refine .inr ⟨k,c',e,z'.sameBut hs ?_⟩;rintro rfl;exact hj (v7 hN e1 (I.ok.inj _ _ _ e hc ▸ hi))
  ·by_cases Lh:c'=c
   ·subst Lh; exact⟨_,Ig⟩
   ·obtain⟨w2,z2⟩:=I.cell y c' e;exact⟨w2,z2.sameBut hs Lh⟩
  ·obtain⟨e,n,ne,nf,d⟩:=I.pin p hp;refine⟨(hs.2 p.1 ?_).trans e,n,ne,nf,d⟩;intro q;rw [q,GR] at e;have q':oc=p.2:=bu e;exact d w' (by rw [<-q']; exact J4)
theorem vO{M:Model}{A:cZ}{E:Value->au->Prop}{i:Nat}{x:Str}{v:V}{u:Value}{Q:Unit->au->Prop}(I:Inv X pins σ H s)(hN:X.N.Nodup)(hi:X.N[i]?=some x)(hx:Loc X.env.scope x)(r:RelV v u)
  (h:∀ s',Inv X pins (σ.set i (some v)) H s'->Q () s') (hf:autoParam (X.fn x=true\/X.env.scope.names.lookup x=some .local) Ao._auto_1):wpAny M A (storeName X.env x u) Q E s :=
 As I hN hi hx r (fun s' I' _=>h s' I') hf
end
noncomputable abbrev XK:=Value->Option Addr->Hp->Prop
noncomputable abbrev St:=List (Option V)
noncomputable abbrev VK:=V->Hp->Prop
noncomputable abbrev TE:=St->Hp->VK->Prop
noncomputable abbrev TT:=St->Hp->(Bool->Hp->Prop)->Prop
noncomputable abbrev TA:=St->Hp->(List V->Hp->Prop)->Prop
structure Ends where
 nx:St->Hp->Prop
 rt:VK
 bk:St->Hp->Prop:=fun _ _=>False
 ct:St->Hp->Prop:=fun _ _=>False
noncomputable abbrev TS:=Ends->St->Hp->Prop
noncomputable def EP(X:Cx)(pins:List (Addr×Obj))(σ:St)(Q:VK)(u:Value)(s':au):Prop:=∃ v H',Inv X pins σ H' s'/\RelV v u/\Q v H'
noncomputable def TP(X:Cx)(pins:List (Addr×Obj))(σ:St)(Q:Bool->Hp->Prop)(b:Bool)(s':au):Prop:=∃ H',Inv X pins σ H' s'/\Q b H'
noncomputable def SP(X:Cx)(pins:List (Addr×Obj))(D:Ends)(f:Flow)(s':au):Prop :=
 match f with
 | .next=>∃ j0 H',Inv X pins j0 H' s'/\D.nx j0 H'
 | .brk=>∃ j0 H',Inv X pins j0 H' s'/\D.bk j0 H'
 | .cont=>∃ j0 H',Inv X pins j0 H' s'/\D.ct j0 H'
 | .ret u=>∃ v j0 H',Inv X pins j0 H' s'/\RelV v u/\D.rt v H'
noncomputable def PE(X:Cx)(e:Expr)(t:TE):Prop :=
 ∀ (pins:List (Addr×Obj)) (s:au) (σ:St) (H:Hp) (Q:VK),Inv X pins σ H s->t σ H Q->wpAny (model X.prog X.w) X.A (eval e X.env) (EP X pins σ Q) X.xe s
noncomputable def PS(X:Cx)(st:Stmt)(t:TS):Prop :=
 ∀ (pins:List (Addr×Obj)) (s:au) (σ:St) (H:Hp) (D:Ends),Inv X pins σ H s->t D σ H->wpAny (model X.prog X.w) X.A (exec st X.env) (SP X pins D) X.xe s
noncomputable def DG(X:Cx)(st:List Stmt)(t:TS):Prop :=
 ∀ (pins:List (Addr×Obj)) (s:au) (σ:St) (H:Hp) (D:Ends),Inv X pins σ H s->t D σ H->wpAny (model X.prog X.w) X.A (execs st X.env) (SP X pins D) X.xe s
theorem fX{α:Type}{t:Sem α}{Q Q':α->au->Prop}{M:Model}{A:cZ}{E:Value->au->Prop}{s:au}(h:wpAny M A t Q E s)(hQ:∀ a s,Q a s->Q' a s):wpAny M A t Q' E s:=ph h hQ fun _ _ x=>x
section
variable {X:Cx}
noncomputable def xS(i:Nat):TE:=fun σ H Q=>∃ v,σ[i]?=some (some v)/\Q v H
noncomputable def tC(v:V):TE:=fun _ H Q=>Q v H
theorem Ca {i:Nat} {x:Str} {pos:Pos} (hN:X.N[i]?=some x) (hv:IC X.env.scope x) (hd:autoParam ((x == ("__debug__" : Str))=false) Ad._auto_1) (w7:autoParam ((x == ("__classdict__" : Str))=false) Ad._auto_1):PE X (.Name x pos) (xS i):=by
 intro pins s σ H Q I h;obtain⟨v,e,h⟩:=h;obtain⟨m,hn,hl⟩:=I.loc;obtain⟨u,r,l⟩:=hl i x v hN e hv;have fin:EP X pins σ Q u s:=⟨v,H,I,r,h⟩;rcases l with ⟨hk,hm⟩ | ⟨hk,c,hc,nu⟩
 ·exact wpAny_Name (wpAny_loadName_local I.ok.kind hk hn hm fin) hd
 ·rcases hk with hk | hk
  ·exact wpAny_Name (wpAny_loadName_cell I.ok.kind hk hc nu fin) hd
  ·exact wpAny_Name (wpAny_loadName_free I.ok.kind hk hc nu fin w7) hd
theorem FC{i j pos}:PE X (.Constant (.int i) j pos) (tC (.int i)):=fun _ _ _ H _ I h=>wpAny_Constant_int ⟨.int i,H,I.tok _,⟨_,rfl⟩,h⟩
theorem Hs{b j pos}:PE X (.Constant (.bool b) j pos) (tC (.bl b)):=fun _ _ _ H _ I h=>Constant_bool ⟨.bl b,H,I,rfl,h⟩
theorem FA{x j pos}:PE X (.Constant (.str x) j pos) (tC (.str x)):=fun _ _ _ H _ I h=>Calls.Constant_str ⟨.str x,H,I.tok _,⟨_,rfl⟩,h⟩
noncomputable def Gl(X:Cx)(x:Str):Prop:=X.env.kindOf x=some .globalImplicit
theorem pO{E:Value->au->Prop}{pins:List (Addr×Obj)}{s:au}{σ:St}{H:Hp}{x:Str}{u:Value}{pos:Pos}{Q:Value->au->Prop}(I:Inv X pins σ H s)(hg:Gl X x)(hm:X.mg x=some u)(h:Q u s)
  (hd:autoParam ((x == ("__debug__" : Str))=false) Ad._auto_1):wpAny (model X.prog X.w) X.A (eval (.Name x pos) X.env) Q E s :=
 w0 I.ok.kind hg (Calls.loadGlobal_global (by rw [I.ok.glob]; exact I.mod.glob.keeps I.bk) hm h) hd
theorem oT{E:Value->au->Prop}{pins:List (Addr×Obj)}{s:au}{σ:St}{H:Hp}{x:Str}{u:Value}{pos:Pos}{Q:Value->au->Prop}(I:Inv X pins σ H s)(hg:Gl X x)(hm:X.mg x=none)(hv:i7 x=some u)(h:Q u s)
  (hn:autoParam (x≠"__name__") Ad._auto_1) (hd:autoParam ((x == ("__debug__" : Str))=false) Ad._auto_1):wpAny (model X.prog X.w) X.A (eval (.Name x pos) X.env) Q E s:=by
 obtain⟨mb,h1,h2⟩:=I.mod.blt;exact w0 I.ok.kind hg (Calls.loadGlobal_builtin (by rw [I.ok.glob]; exact I.mod.glob.keeps I.bk) hm (by rw [I.ok.blt]; exact h1.keeps I.bk) ((h2 x hn).trans hv) h) hd
variable {a b:Expr} {ta tb:TE} {pos:Pos}
noncomputable def tB(t:TE):TT:=fun σ H Q=>t σ H fun x H1=>∃ c,x=.bl c/\Q c H1
variable {tA NL:TT} {rest:List Expr}
end
noncomputable def zj(K:af)(H:Hp)(a:Addr)(xs:List V):Prop :=
 Rd H a (.lst xs) \/
  ∃ (o:Obj) (cY:Array Value) (n:Nat),K.lookup a=some o/\o.cls=.type "list"/\o.dict=none/\o.data=.seq cY n/\cY.size<=aZ/\Vals xs cY.toList
noncomputable def Bm(K:af)(H:Hp)(a:Addr)(xs:List V):Prop :=
 Rd H a (.tup xs) \/
  ∃ (o:Obj) (cY:Array Value) (n:Nat),K.lookup a=some o/\o.cls=.type "tuple"/\o.data=.seq cY n/\cY.size<=aZ/\Vals xs cY.toList
section
variable {X:Cx} {pins:List (Addr×Obj)} {σ:St} {H:Hp} {s:au} {a:Addr} {xs ys:List V}
theorem zj.of{K:af}(h:H a=some (.lst xs)):zj K H a xs:=.inl (.inl h)
theorem Bm.of{K:af}(h:H a=some (.tup xs)):Bm K H a xs:=.inl (.inl h)
theorem Inv.list(I:Inv X pins σ H s)(h:zj X.K H a xs):∃ cY:List Value,Vals xs cY/\PlainL s.heap a cY.toArray/\xs.length<=aZ:=by
 rcases h with h | ⟨o,cY,n,hk,hc,hd,hs,hz,r⟩
 ·obtain⟨z,cY,n,r,e⟩:=h.ok I.dr;exact⟨cY,r,⟨_,n,e,rfl,rfl,rfl⟩,z⟩
 ·refine⟨cY.toList,r,⟨o,n,I.o9 a o hk,hc,hd,by simpa using hs⟩,?_⟩;have e:=r.length;simp only [DR] at e;lia
theorem Inv.tuple(I:Inv X pins σ H s)(h:Bm X.K H a xs):∃ cY:List Value,Vals xs cY/\IsTup s.heap a cY.toArray/\xs.length<=aZ:=by
 rcases h with h | ⟨o,cY,n,hk,hc,hs,hz,r⟩
 ·obtain⟨z,cY,r,p⟩:=h.ok I.dr;exact⟨cY,r,p,z⟩
 ·refine⟨cY.toList,r,⟨o,I.o9 a o hk,hc,n,by simpa using hs⟩,?_⟩;have e:=r.length;simp only [DR] at e;lia
end
noncomputable abbrev Cx.sH(X:Cx)(E:Value->au->Prop):Cx:={ X with xe:=E }
noncomputable abbrev Cx.FI(X:Cx):Cx:=X.sH fun _ _=>False
theorem Cx.Ok.sH{X:Cx}(ok:X.Ok)(E:Value->au->Prop):(X.sH E).Ok :=
 ⟨ok.mod,ok.kind,ok.glob,ok.blt,ok.above,ok.inj,ok.has,ok.IB,ok.hd,ok.frames,ok.IQ,ok.Jf,ok.bs,ok.DE,ok.Cf,ok.CN,ok.q4,ok.Gm⟩
theorem Cx.Ok.nK{X:Cx}{E:Value->au->Prop}(ok:(X.sH E).Ok):X.Ok :=
 ⟨ok.mod,ok.kind,ok.glob,ok.blt,ok.above,ok.inj,ok.has,ok.IB,ok.hd,ok.frames,ok.IQ,ok.Jf,ok.bs,ok.DE,ok.Cf,ok.CN,ok.q4,ok.Gm⟩
section
variable {X:Cx} {pins:List (Addr×Obj)} {σ:St} {H:Hp} {s:au} {E:Value->au->Prop}
theorem Inv.sH(I:Inv X pins σ H s)(E:Value->au->Prop):Inv (X.sH E) pins σ H s:=⟨I.ok.sH E,I.os,I.bare,I.base,I.loc,I.cell,I.free,I.nv,I.pin,I.dr,I.len⟩
theorem Inv.nK(I:Inv (X.sH E) pins σ H s):Inv X pins σ H s:=⟨I.ok.nK,I.os,I.bare,I.base,I.loc,I.cell,I.free,I.nv,I.pin,I.dr,I.len⟩
theorem SP.nK{D:Ends}{f:Flow}{s':au}(h:SP (X.sH E) pins D f s'):SP X pins D f s':=by
 cases f with
 | next=>obtain⟨j0,H',I,q⟩:=h; exact⟨j0,H',I.nK,q⟩
 | brk=>obtain⟨j0,H',I,q⟩:=h; exact⟨j0,H',I.nK,q⟩
 | cont=>obtain⟨j0,H',I,q⟩:=h; exact⟨j0,H',I.nK,q⟩
 | ret u=>obtain⟨v,j0,H',I,r,q⟩:=h; exact⟨v,j0,H',I.nK,r,q⟩
theorem DG.FI{st:List Stmt}{t:TS}(h:DG X.FI st t):DG X st t:=fun pins s σ H D I hw =>
 ph (h pins s σ H D (I.sH _) hw) (fun _ _ q=>q.nK) fun _ _ z=>bJ z
end
section
variable {X:Cx} {st:Stmt} {rest:List Stmt} {t u:TS} {e:Expr} {te:TE} {pos:Pos}
noncomputable def Fo(t u:TS):TS:=fun D σ H=>t { D with nx:=u D } σ H
theorem pE(h1:PS X st t)(h2:DG X rest u):DG X (st :: rest) (Fo t u):=by
 intro pins s σ H D I h;refine qG (fX (h1 pins s σ H { D with nx:=u D } I h) fun f s1 q=>?_);cases f with
 | next =>
  obtain⟨j0,H',I',q⟩:=q;exact h2 pins s1 j0 H' D I' q
 | ret v=>exact q
 | brk=>exact q
 | cont=>exact q
theorem yR(h1:PS X st t):DG X [st] t:=by
 intro pins s σ H D I h;refine qG (fX (h1 pins s σ H D I h) fun f s1 q=>?_);cases f with
 | next=>exact rq q
 | ret v=>exact q
 | brk=>exact q
 | cont=>exact q
theorem Inv.quiet{pins:List (Addr×Obj)}{σ:St}{H:Hp}{s:au}(I:Inv X pins σ H s):interactive X.env=false:=by simp [interactive,I.ok.kind]
end
structure It where
 go:Nat->Hp->Prop
 KR:Nat->Hp->V->Hp->Prop
 stop:Nat->Hp->Prop
noncomputable def rg(X:Cx)(pins:List (Addr×Obj))(H:Hp)(b:Addr):Prop :=
 H b=none/\b≠X.env.locals/\b∉X.fs/\(b∈X.ex\/X.l6.heap.objs.size<=b)/\(∀ x c,X.env.cells.lookup x=some c->c≠b)/\∀ p∈X.pn++pins,p.1≠b
theorem Inv.Iq{X:Cx}{pins:List (Addr×Obj)}{σ:St}{H H':Hp}{s:au}{b:Addr}(I:Inv X pins σ H s)(hb:s.heap.objs.size<=b)(hn:H' b=none):rg X pins H' b:=by
 refine⟨hn,Nat.ne_of_gt (aY I.lt hb),I.JJ hb,.inr (b8 I.sz hb),fun x c e z=>?_,fun p hp z=>?_⟩
 ·obtain⟨v,q⟩:=I.cell x c e;exact absurd (aY q.lt (by rw [z]; exact hb)) (my _)
 ·exact absurd (aY (aU (I.pin p hp).1) (by rw [z]; exact hb)) (my _)
structure Turn(P:bo)(w:World)(K:af)(tg:Expr)(J:It)(fp:List Addr)(it:Addr)(tn:Nat->Heap->Prop):Prop where
 mem:it∈fp
 obj:∀ i h,tn i h->∀ b∈fp,∃ o,h.get? b=some o/\∀ v,o.data≠.cell v
 keep:∀ i h h',tn i h->(∀ b∈fp,∀ o,h.get? b=some o->h'.get? b=some o)->tn i h'
 item:∀ (X:Cx),X.prog=P->X.w=w->X.K=K->X.calm=true->∀ (i:Nat) (pins:List (Addr×Obj)) (s:au) (σ:St) (H:Hp) (E:Value->au->Prop),Inv X pins σ H s->(∀ b∈fp,rg X pins H b)->tn i s.heap->J.go i H ->
  wpAny (model P w) X.A (pyNext (.ref it)) (fun r s1=>∃ u,r=some u /\
   wpAny (model P w) X.A (rB tg (.ref it) u) (fun _ s2=>∃ x H',Inv X pins σ H' s2/\RelV x u/\J.KR i H x H'/\tn (i+1) s2.heap/\∀ b∈fp,H' b=none) E s1) E s
 done:∀ (X:Cx),X.prog=P->X.w=w->X.K=K->X.calm=true->∀ (i:Nat) (pins:List (Addr×Obj)) (s:au) (σ:St) (H:Hp) (E:Value->au->Prop),Inv X pins σ H s->(∀ b∈fp,rg X pins H b)->tn i s.heap->J.stop i H ->
  wpAny (model P w) X.A (pyNext (.ref it)) (fun r s1=>r=none/\Inv X pins σ H s1) E s
 self:∀ (A:cZ) (i:Nat) (s:au) (Q:Value->au->Prop) (E:Value->au->Prop),tn i s.heap->Q (.ref it) s->wpAny (model P w) A (pyIter (.ref it)) Q E s
noncomputable abbrev TI:=St->Hp->(It->Hp->Prop)->Prop
noncomputable def Ny(X:Cx)(pins:List (Addr×Obj))(σ:St)(tg:Expr)(R:It->Hp->Prop)(FW:Value)(s2:au):Prop :=
 ∃ (it:Addr) (fp:List Addr) (tn:Nat->Heap->Prop) (J:It) (H':Hp),FW=.ref it/\Inv X pins σ H' s2/\Turn X.prog X.w X.K tg J fp it tn/\tn 0 s2.heap/\(∀ b∈fp,rg X pins H' b)/\R J H'
theorem Io{M:Model}{A:cZ}{E:Value->au->Prop}{s:au}{tg:Expr}{it:Addr}{u:Value}{o:Obj}{n:String}{vs:Array Value}{Q:Unit->au->Prop}(ho:s.heap.get? it=some o)(hc:o.cls=.type n)(hd:o.data=.fields vs)
    (hn:["enumerate","zip","dict_itemiterator","dict_reverseitemiterator","odict_iterator","itertools.zip_longest","itertools.pairwise"].contains n=false) (hQ:Q () s):wpAny M A (rB tg (.ref it) u) Q E s:=by
  unfold rB;cases tg <;> first
    | exact bg hQ
    | (cases u <;> first
        | exact bg hQ
        | (refine aL (wpAny_load ho ?_)
           rw [hc,hd];show wpAny M A (if (["enumerate","zip","dict_itemiterator","dict_reverseitemiterator","odict_iterator","itertools.zip_longest","itertools.pairwise"].contains n&&vs[0]? == some (rawInt _))=true then _ else _) Q E s;rw [if_neg (by intro h; rw [hn,qX] at h; cases h)];exact bg hQ))
noncomputable def KN(lo:Int)(n:Nat):It:=⟨fun i _=>i < n,fun i H x H'=>H'=H/\x=.int (lo+i),fun i _=>n<=i⟩
theorem xQ{P:bo}{w:World}{K:af}{tg:Expr}(it:Addr)(lo:Int)(n:Nat):Turn P w K tg (KN lo n) [it] it (fun i h=>IsRangeIter h it (lo+(i:Nat) * 1) ((n:Int) - (i:Nat)) 1) where
 mem:=by simp
 obj:=fun i h st b hb=>by
  have e:b=it:=by simpa using hb
  subst e;exact⟨_,st,fun v z=>by
   have z':Data.fields _=Data.cell v:=z;cases z'⟩
 keep:=fun i h h' st k=>k it (by simp) _ st
 item:=by
  intro X hP hw hK hc i pins s σ H E I hf st hg;subst hP hw hK;obtain⟨f0,f1,f2,f3,f4,f5⟩:=hf it (by simp);have W:=Walks.range (prog:=X.prog) (w:=X.w) (I.ok.hd hc) it lo 1 n;refine W.item i s _ _ hg st fun v h' tk hv KZ kk=>?_;obtain⟨t,rfl⟩:=hv;have I1:Inv X pins σ H { s with heap:=h',toks:=tk }:=I.turned (fun b o hb e=>kk b o (by simpa using hb) e) f0 f1 f3 f4 f5;refine⟨_,rfl,Io (s:={ s with heap:=h',toks:=tk }) (n:="range_iterator") KZ rfl rfl (by decide) ⟨.int (lo+i),H,I1,⟨t,?_⟩,⟨rfl,rfl⟩,KZ,fun b hb=>(hf b hb).1⟩⟩;rw [Int.mul_one]
 done:=by
  intro X hP hw hK hc i pins s σ H E I hf st hg;subst hP hw hK;obtain⟨f0,f1,f2,f3,f4,f5⟩:=hf it (by simp);exact wpAny_pyNext_range_end (I.ok.hd hc) st (by have:n<=i:=hg; lia) fun h' eb=>⟨rfl,I.turned (t':=s.toks) (fun b o hb e=>eb b o hb e) f0 f1 f3 f4 f5⟩
 self:=fun _ _ _ _ _ st h=>wpAny_pyIter_rangeiter st h
section
variable {X:Cx} {tg:Expr}
theorem BZ{pins:List (Addr×Obj)}{σ:St}{H:Hp}{s:au}{R:It->Hp->Prop}{E:Value->au->Prop}{lo hi:Int}{t u v:Tok}{tk:Nat}(I:Inv X pins σ H s)(h1:-(2 ^ 62)<=lo)(h2:lo < 2 ^ 62)(h3:-(2 ^ 62)<=hi)(h4:hi < 2 ^ 62)
  (q:R (KN lo (hi - lo).toNat) H):wpAny (model X.prog X.w) X.A (pyIter (.ref s.heap.objs.size)) (Ny X pins σ tg R) E { s with heap:=s.heap.push { cls:=.type "range",data:=.fields #[.int lo t,.int hi u,.int 1 v] },toks:=tk }:=by
 refine wpAny_pyIter_range (IsRange.new ..) (small_one h1 h2 h3 h4) ?_;have I1:Inv X pins σ H { s with heap:=s.heap.push { cls:=.type "range",data:=.fields #[.int lo t,.int hi u,.int 1 v] },toks:=tk }:=I.kept fun b o e=>aM _ e
 refine⟨(s.heap.push { cls:=.type "range",data:=.fields #[.int lo t,.int hi u,.int 1 v] }).objs.size,[(s.heap.push { cls:=.type "range",data:=.fields #[.int lo t,.int hi u,.int 1 v] }).objs.size],_,_,H,rfl,
  I1.kept (t':=tk) fun b o e=>aM _ e,xQ _ lo (hi - lo).toNat,?_,fun b hb=>?_,q⟩
 ·have e1:lo+((0:Nat):Int) * 1=lo:=by simp
  have e2:(((hi - lo).toNat:Nat):Int) - ((0:Nat):Int)=Builtin.Range.rangeSize lo hi 1:=by rw [rangeSize_one]; split <;> lia
  show IsRangeIter _ _ (lo+((0:Nat):Int) * 1) ((((hi - lo).toNat:Nat):Int) - ((0:Nat):Int)) 1;rw [e1,e2];exact da _ rfl
 ·have e:b=(s.heap.push { cls:=.type "range",data:=.fields #[.int lo t,.int hi u,.int 1 v] }).objs.size:=by simpa using hb
  subst e;exact I1.Iq (ck _) (I1.dr.fresh (ck _))
noncomputable def nU(fp:List Addr)(h:Heap):List (Addr×Obj):=fp.filterMap fun b=>(h.get? b).map fun o=>(b,o)
theorem mV{fp:List Addr}{h:Heap}{b:Addr}{o:Obj}(hb:b∈fp)(e:h.get? b=some o):(b,o)∈nU fp h:=List.mem_filterMap.mpr ⟨b,hb,by rw [e]; rfl⟩
theorem AJ{fp:List Addr}{h:Heap}{p:Addr×Obj}(hp:p∈nU fp h):p.1∈fp/\h.get? p.1=some p.2:=by
 obtain⟨b,hb,e⟩:=List.mem_filterMap.mp hp;cases q:h.get? b with
 | none=>rw [q] at e; cases e
 | some o =>
  rw [q] at e;have e':(b,o)=p:=bu e;subst e';exact⟨hb,q⟩
theorem Inv.pinned{pins:List (Addr×Obj)}{σ:St}{H:Hp}{s:au}{fp:List Addr}(I:Inv X pins σ H s)(hf:∀ b∈fp,rg X pins H b)(ho:∀ b∈fp,∃ o,s.heap.get? b=some o/\∀ v,o.data≠.cell v):Inv X (pins++nU fp s.heap) σ H s :=
 I.yU fun p hp=>(List.mem_append.mp hp).elim (fun z=>I.pin p (b7 _ z)) fun z=>by
  obtain⟨hb,e⟩:=AJ z;obtain⟨f0,f1,f2,_⟩:=hf p.1 hb;obtain⟨o,e',d⟩:=ho p.1 hb;rw [e] at e'; cases e';exact⟨e,f0,f1,f2,d⟩
theorem Inv.pz{pins pl:List (Addr×Obj)}{σ:St}{H:Hp}{s:au}(I:Inv X (pins++pl) σ H s):Inv X pins σ H s:=I.yU fun p hp=>I.pin p (b7 _ (DP _ hp))
end
noncomputable abbrev R2:=V->V->Hp->VK->Prop
noncomputable def DH(X:Cx)(f:Value->Value->Sem Value)(r:R2):Prop :=
 ∀ (pins:List (Addr×Obj)) (s:au) (σ:St) (H:Hp) (x y:V) (v u:Value) (Q:VK),Inv X pins σ H s->RelV x v->RelV y u->r x y H Q ->
  wpAny (model X.prog X.w) X.A (f v u) (EP X pins σ Q) X.xe s
noncomputable def IL(X:Cx)(f:Value)(r:List V->Hp->VK->Prop):Prop :=
 ∀ (pins:List (Addr×Obj)) (s:au) (σ:St) (H:Hp) (xs:List V) (us:List Value) (Q:VK),Inv X pins σ H s->Vals xs us->r xs H Q ->
  wpAny (model X.prog X.w) X.A (call f us) (EP X pins σ Q) X.xe s
noncomputable def KI(X:Cx)(r:V->Hp->(Bool->Hp->Prop)->Prop):Prop :=
 ∀ (pins:List (Addr×Obj)) (s:au) (σ:St) (H:Hp) (x:V) (v:Value) (Q:Bool->Hp->Prop),Inv X pins σ H s->RelV x v->r x H Q ->
  wpAny (model X.prog X.w) X.A (truthy v) (TP X pins σ Q) X.xe s
noncomputable def rI(C:Int->Int->Prop)(g:Int->Int->V):R2:=fun x y H Q=>∃ i j,x=.int i/\y=.int j/\C i j/\Q (g i j) H
noncomputable def IV(g:Int->Int->V):R2:=fun x y H Q=>∃ i j,x=.int i/\y=.int j/\Q (g i j) H
section
variable {X:Cx} {a b c:Expr} {ta tb tc:TE} {pos:Pos}
theorem K1{f:Value->Value->Sem Value}{C:Int->Int->Prop}{g:Int->Int->Int}
  (rule:∀ (i j:Int) (t u:Tok) (s:au) (Q:Value->au->Prop) (E:Value->au->Prop),C i j->Q (.int (g i j) s.toks) { s with toks:=s.toks+1 }->wpAny (model X.prog X.w) X.A (f (.int i t) (.int j u)) Q E s) :
  DH X f (rI C fun i j=>.int (g i j)):=by
 intro pins s σ H x y v u Q I rx ry h;obtain⟨i,j,rfl,rfl,hc,q⟩:=h;obtain⟨t,rfl⟩:=rx;obtain⟨t',rfl⟩:=ry;exact rule i j t t' s _ _ hc ⟨.int (g i j),H,I.tok _,⟨_,rfl⟩,q⟩
theorem JF{f:Value->Value->Sem Value}{g:Int->Int->Int}
  (rule:∀ (i j:Int) (t u:Tok) (s:au) (Q:Value->au->Prop) (E:Value->au->Prop),Q (.int (g i j) s.toks) { s with toks:=s.toks+1 }->wpAny (model X.prog X.w) X.A (f (.int i t) (.int j u)) Q E s) :
  DH X f (IV fun i j=>.int (g i j)):=by
 intro pins s σ H x y v u Q I rx ry h;obtain⟨i,j,rfl,rfl,q⟩:=h;obtain⟨t,rfl⟩:=rx;obtain⟨t',rfl⟩:=ry;exact rule i j t t' s _ _ ⟨.int (g i j),H,I.tok _,⟨_,rfl⟩,q⟩
theorem JG{f:Value->Value->Sem Value}{g:Int->Int->Bool}
  (rule:∀ (i j:Int) (t u:Tok) (s:au) (Q:Value->au->Prop) (E:Value->au->Prop),Q (.bool (g i j)) s->wpAny (model X.prog X.w) X.A (f (.int i t) (.int j u)) Q E s) :
  DH X f (IV fun i j=>.bl (g i j)):=by
 intro pins s σ H x y v u Q I rx ry h;obtain⟨i,j,rfl,rfl,q⟩:=h;obtain⟨t,rfl⟩:=rx;obtain⟨t',rfl⟩:=ry;exact rule i j t t' s _ _ ⟨.bl (g i j),H,I,rfl,q⟩
noncomputable def KP(i j:Int):Prop:=0<=j/\j<=1000000/\i.natAbs < 2 ^ 64
theorem FG:DH X (nC .Add) (IV fun i j=>.int (i+j)):=JF fun _ _ _ _ _ _ _ q=>add_int q
theorem FE:DH X (nC .Mod) (rI (fun _ j=>0 < j) fun i j=>.int (i % j)):=K1 fun i j _ _ _ _ _ hc q=>by
 have h1:(0:Int) < j:=hc;exact mod_int' (by lia) (by rw [Int.fmod_eq_emod_of_nonneg i (by lia)]; exact q)
theorem FD:DH X (nC .Pow) (rI KP fun i j=>.int (i ^ j.toNat)):=K1 fun _ _ _ _ _ _ _ hc q=>pow_int_small hc.1 hc.2.1 hc.2.2 q
end
section
variable {X:Cx} {a b c:Expr} {ta tb tc:TE} {pos:Pos}
theorem Hu:DH X (nI .Lt) (IV fun i j=>.bl (decide (i < j))):=JG fun _ _ _ _ _ _ _ q=>lt_int q
theorem nV(b:Expr){op:CmpOp}(h:autoParam (op≠.In) Ad._auto_1)(h2:autoParam (op≠.NotIn) Ad._auto_1):behindInMarks op b=false:=by
 have e1:(op == CmpOp.In)=false:=by cases op <;> first | rfl | exact absurd rfl h
 have e2:(op == CmpOp.NotIn)=false:=by cases op <;> first | rfl | exact absurd rfl h2
 cases b with
 | Set es k _ =>
  show (k == 0&&(op == .In||op == .NotIn)&&es.all (constantsAlone 8))=false;rw [e1,e2,Bool.or_false,qY,qX]
 | _=>rfl
noncomputable def GC(K:af)(x:V)(H:Hp)(k:Bool):Prop :=
 match x with
 | .l7=>k=false
 | .bl b=>k=b
 | .int i=>k=(i != 0)
 | .str y=>y.length<=aZ/\k=((y.length:Int) != 0)
 | .GX y=>y.size<=aZ/\k=((y.size:Int) != 0)
 | .ref p=>(∃ xs,zj K H p xs/\k=!xs.isEmpty)\/(∃ xs,Bm K H p xs/\k=!xs.isEmpty)\/∃ bF,H p=some (.dK bF)/\k=!bF.isEmpty
 | _=>False
theorem yh{κ:Type}{bF:List (κ×V)}{vs:List (κ×Value)}(r:KV bF vs):(!vs.isEmpty)=!bF.isEmpty:=by
 cases r <;> rfl
theorem sf{xs:List V}{cY:List Value}(r:Vals xs cY):(!cY.toArray.isEmpty)=!xs.isEmpty:=by
 cases r <;> simp
theorem uQ:(aZ:Nat) < 2 ^ 63:=by rw [bR]; decide
theorem Fh:KI X (fun x H Q=>∃ k,GC X.K x H k/\Q k H):=by
 intro pins s σ H x v Q I rx h;obtain⟨k,e,q⟩:=h;have hl:=uQ;have hs:aZ=16777216:=bR;cases x with
 | l7 =>
  cases rx;have e':k=false:=e;subst e';exact truthy_none ⟨H,I,q⟩
 | bl b =>
  cases rx;have e':k=b:=e;subst e';exact wpAny_truthy_bool ⟨H,I,q⟩
 | int i =>
  obtain⟨t,rfl⟩:=rx;have e':k=(i != 0):=e;subst e';exact PySem.P.truthy_int ⟨H,I,q⟩
 | str y =>
  obtain⟨t,rfl⟩:=rx;obtain⟨hy,e'⟩:y.length<=aZ/\k=((y.length:Int) != 0):=e;subst e';exact PySem.P.truthy_str (by lia) ⟨H,I.tok _,q⟩
 | GX y =>
  obtain⟨t,rfl⟩:=rx;obtain⟨hy,e'⟩:y.size<=aZ/\k=((y.size:Int) != 0):=e;subst e';exact PySem.W.truthy_bytes (by lia) ⟨H,I.tok _,q⟩
 | ref p =>
  cases rx;have e':(∃ xs,zj X.K H p xs/\k=!xs.isEmpty)\/(∃ xs,Bm X.K H p xs/\k=!xs.isEmpty)\/∃ bF,H p=some (.dK bF)/\k=!bF.isEmpty:=e;rcases e' with ⟨xs,hx,e'⟩ | ⟨xs,hx,e'⟩ | ⟨bF,hx,e'⟩
  ·subst e';obtain⟨cY,r,pl,hz⟩:=I.list hx;have hlen:=r.length;exact wpAny_truthy_list pl.isList (by simp only [bx]; lia) ⟨H,I.tok _,by rw [sf r]; exact q⟩
  ·subst e';obtain⟨cY,r,pl,hz⟩:=I.tuple hx;have hlen:=r.length;exact truthy_tuple pl (by simp only [bx]; lia) ⟨H,I.tok _,by rw [sf r]; exact q⟩
  ·subst e';obtain⟨hz,hS,vs,r,m⟩:bF.length<=aZ/\(p == pj)=false/\∃ vs,KV bF vs/\s.heap.DictOf (dQ X.prog X.w) p vs:=I.dr p _ hx;have hlen:bF.length=vs.length:=yG r;exact w8 hS m (by lia) ⟨H,I.tok _,by rw [yh r]; exact q⟩
 | _=>exact(show False from e).elim
theorem x8:DH X (nC .Add) (fun x y H Q=>∃ i j,x=.str i/\y=.str j/\i.length+j.length<=aZ/\Q (.str (i++j)) H):=by
 intro pins s σ H x y v u Q I rx ry h;obtain⟨i,j,rfl,rfl,hz,q⟩:=h;obtain⟨t,rfl⟩:=rx;obtain⟨t',rfl⟩:=ry;exact add_str (fun t' tk=>⟨.str (i++j),H,I.tok _,⟨_,rfl⟩,q⟩) hz
theorem vals1{x:V}{us:List Value}(r:Vals [x] us):∃ u,us=[u]/\RelV x u:=by
 cases r with
 | cons r1 r2=>cases r2; exact⟨_,rfl,r1⟩
noncomputable def IJ(K:af)(x:V)(H:Hp)(n:Nat):Prop :=
 match x with
 | .str y=>y.length<=aZ/\n=y.length
 | .GX y=>y.size<=aZ/\n=y.size
 | .ref p=>(∃ xs,zj K H p xs/\n=xs.length)\/∃ xs,Bm K H p xs/\n=xs.length
 | _=>False
theorem C9:IL X (.builtin "len") (fun xs H Q=>∃ x n,xs=[x]/\IJ X.K x H n/\Q (.int n) H):=by
 intro pins s σ H xs us Q I r h;obtain⟨x,n,rfl,e,q⟩:=h;obtain⟨u,rfl,rx⟩:=vals1 r;have hl:=uQ;have hs:aZ=16777216:=bR;cases x with
 | str y =>
  obtain⟨t,rfl⟩:=rx;obtain⟨hy,e'⟩:y.length<=aZ/\n=y.length:=e;subst e';exact len_str (by lia) ⟨.int _,H,I.tok _,⟨_,rfl⟩,q⟩
 | GX y =>
  obtain⟨t,rfl⟩:=rx;obtain⟨hy,e'⟩:y.size<=aZ/\n=y.size:=e;subst e';exact PySem.W.len_bytes (by lia) ⟨.int _,H,I.tok _,⟨_,rfl⟩,q⟩
 | ref p =>
  cases rx;have e':(∃ xs,zj X.K H p xs/\n=xs.length)\/∃ xs,Bm X.K H p xs/\n=xs.length:=e;rcases e' with ⟨xs,hx,e'⟩ | ⟨xs,hx,e'⟩
  ·subst e';obtain⟨cY,r',pl,hz⟩:=I.list hx;have hlen:=r'.length;exact Calls.call_len_list pl.isList (by simp only [bx]; lia) ⟨.int xs.length,H,I.tok _,⟨_,by simp only [bx]; rw [hlen]⟩,q⟩
  ·subst e';obtain⟨cY,r',pl,hz⟩:=I.tuple hx;have hlen:=r'.length;exact len_tuple pl (by simp only [bx]; lia) ⟨.int xs.length,H,I.tok _,⟨_,by simp only [bx]; rw [hlen]⟩,q⟩
 | _=>exact(show False from e).elim
end
structure Nz(h:Heap)(x dx C:Addr)(mA:Str->Option Value):Prop where
 obj:h.get? x=some (PySem.W.instObj C dx)
 ns:h.Ns1 dx mA
 ne:dx≠x
theorem AN{h:Heap}{dx:Addr}{mA:Str->Option Value}(n:h.Ns1 dx mA):∃ od,h.get? dx=some od/\∀ name,PySem.W.lookIn name od=some (mA name):=by
 obtain⟨o,es,ep,ho,hd,hk,_,hm⟩:=n;refine⟨o,ho,fun name=>?_⟩;have e:=hm name;unfold nsFind findBy at e;rw [<-Array.find?_toList] at e;unfold PySem.W.lookIn;rw [hd];dsimp only;split
 ·rename_i y q;rw [q] at e;exact congrArg some e
 ·rename_i q;rw [q] at e;have a:es.toList.any (·.refKey)=false:=by
   rw [List.any_eq_false];intro y hy;obtain⟨z,t,Kd⟩:=hk y (Array.mem_toList_iff.mp hy);simp [DictEntry.refKey,Kd]
  have a':¬ es.toList.any (·.refKey)=true:=by rw [a]; exact nD
  rw [if_neg a'];exact congrArg some e
noncomputable def vV(f:Str)(v:V):List (Str×V)->List (Str×V)
 | []=>[(f,v)]
 | (g,x) :: r=>if g=f then (g,v) :: r else (g,x) :: vV f v r
theorem qM(f g:Str)(v:V):∀ fs:List (Str×V),(vV f v fs).lookup g=if g=f then some v else fs.lookup g
 | []=>by
  show mK g [(f,v)]=_;by_cases h:g=f
  ·have hb:(g == f)=true:=beq_iff_eq.mpr h;simp only [mK,hb,if_pos h]
  ·have hb:(g == f)=false:=beq_eq_false_iff_ne.mpr h;simp only [mK,hb,if_neg h]
 | (k,x) :: r=>by
  have ih:=qM f g v r;rw [show vV f v ((k,x) :: r)=(if k=f then (k,v) :: r else (k,x) :: vV f v r) from rfl];by_cases hk:k=f
  ·rw [if_pos hk];by_cases h:g=k
   ·have hb:(g == k)=true:=beq_iff_eq.mpr h;simp only [mK,hb,if_pos (h.trans hk)]
   ·have hb:(g == k)=false:=beq_eq_false_iff_ne.mpr h;simp only [mK,hb,if_neg (fun e:g=f=>h (e.trans hk.symm))]
  ·rw [if_neg hk];by_cases h:g=k
   ·have hb:(g == k)=true:=beq_iff_eq.mpr h;simp only [mK,hb,if_neg (fun e:g=f=>hk (h.symm.trans e))]
   ·have hb:(g == k)=false:=beq_eq_false_iff_ne.mpr h;simp only [mK,hb];exact ih
theorem rf.some_of{v:V}{o:Option Value}(r:rf (some v) o):∃ u,o=some u/\RelV v u:=by
 cases o with
 | none=>exact(show False from r).elim
 | some u=>exact⟨u,rfl,r⟩
theorem AY{v:V}{u:Value}(r:RelV v u):sF u=true:=by
 cases v with
 | l7=>cases (show u=yB from r); rfl
 | bl b=>cases (show u=yC b from r); rfl
 | int i=>obtain⟨t,e⟩:=(show ∃ t,u=Br i t from r); cases e; rfl
 | str x=>obtain⟨t,e⟩:=(show ∃ t,u=vq x t from r); cases e; rfl
 | GX b=>obtain⟨t,e⟩:=(show ∃ t,u=Value.bytes b t from r); cases e; rfl
 | Je b=>obtain⟨t,e⟩:=(show ∃ t,u=Value.float b t from r); cases e; rfl
 | ref a=>cases (show u=fm a from r); rfl
 | ty n=>cases (show u=Value.type n from r); rfl
structure NH(K:af)(C:Addr):Prop where
 pg:PySem.W.plainGet K C xi=true
 hd:hV K C=true
 po:PySem.W.plainOver K C=true
 sa:ak K (.ref C) "__setattr__" = some (some (.builtin "object.__setattr__"))
structure N6(K:af)(C:Addr)(f:Str)(v:V)(u:Value):Prop where
 at_:ak K (.ref C) f=some (some u)
 rel:RelV v u
 get:a5 K u "__get__" = some none
 cp:PySem.W.copiedNames.contains f=false
structure Meth(K:af)(C:Addr)(m:Str)(f:Addr):Prop where
 at_:ak K (.ref C) m=some (some (.ref f))
 fn:PySem.W.isFn K (.ref f)=true
 kp:fk K (.ref f)=true
section
variable {X:Cx} {pins:List (Addr×Obj)} {σ:St} {H:Hp} {s:au} {a C dx:Addr} {fs:List (Str×V)} {f:Str} {v:V} {A:cZ} {E:Value->au->Prop}
theorem ED{prog:bo}{w:World}{env:Env}{e:Expr}{f:Str}{pos:Pos}{s:au}{Q:Value->au->Prop}(hb:qf e f env (eval e env)=eval e env)
  (h:wpAny (model prog w) A (eval e env) (fun o cS=>wpAny (model prog w) A (getAttr o f true) Q E cS) E s):wpAny (model prog w) A (eval (.Attribute e f pos) env) Q E s :=
 Attribute_any_ h (by rw [arm_eval_Attribute,hb])
end
section
variable {X:Cx} {pins:List (Addr×Obj)} {σ:St} {H:Hp} {s:au} {A:cZ} {E:Value->au->Prop} {Q:Value->au->Prop} {c:Value} {b:Bool}
inductive so (K:af) (H:Hp):V->Value->Prop where
 | l7:so K H .l7 (.type "NoneType")
 | bl (x:Bool):so K H (.bl x) (.type "bool")
 | int (i:Int):so K H (.int i) (.type "int")
 | str (x:Str):so K H (.str x) (.type "str")
 | Je (x:UInt64):so K H (.Je x) (.type "float")
 | lst {a:Addr} {xs:List V} (e:H a=some (.lst xs)):so K H (.ref a) (.type "list")
 | la {a:Addr} {o:Obj} {xs:List V} (e:H a=some (.la o (.lst xs))):so K H (.ref a) (.type "list")
 | tup {a:Addr} {xs:List V} (e:H a=some (.tup xs)):so K H (.ref a) (.type "tuple")
 | dK {a:Addr} {bF:List (Key×V)} (e:H a=some (.dK bF)):so K H (.ref a) (.type "dict")
 | dT {a:Addr} {bF:List (List Key×V)} (e:H a=some (.dT bF)):so K H (.ref a) (.type "dict")
 | ins {a C dx:Addr} {fs:List (Str×V)} (e:H a=some (.ins C dx fs)) (cl:NH K C) (ha:ak K (.ref C) "__class__" = some (some (.builtin "object.__class__")))
   (hn:a5 K (.builtin "object.__class__") "__get__" = some (some (.builtin "getset_descriptor.__get__"))) (NP:bD K (.builtin "object.__class__")=some true)
   (hm:aO K C (.type "object")=some true):so K H (.ref a) (.ref C)
end
structure jU(k:Nat)(A:cZ):Prop where
 hd:A.handled=none
 dp:A.depth+3 * k+5 < recursionLimit
 un:A.units+16 * k+200 < cLine
theorem jU.mono{j k:Nat}{A:cZ}(r:jU k A)(h:j<=k):jU j A:=⟨r.hd,by have:=r.dp; lia,by have:=r.un; lia⟩
theorem jU.deeper{k:Nat}{A:cZ}(r:jU (k+1) A)(env:Env):jU k (A.deeper env) :=
 ⟨r.hd,by have:=r.dp; show A.depth+1+3 * k+5 < _; lia,by have:=r.un; show A.units+3+16 * k+200 < _; lia⟩
theorem yc {A:cZ} {C:Addr} {us:List Value} {kw:List (Str×Value)}:(A.under (.builtin "type.__call__" ⟨.ref C :: us,kw⟩)).depth=A.depth+1:=by
 first | rfl | simp [Bh,Code.weight,Code.isCreation,Code.isGuard,Code.isCaller,Code.frames,Dx,guardIds]
theorem yb {A:cZ} {C:Addr} {us:List Value} {kw:List (Str×Value)}:(A.under (.builtin "type.__call__" ⟨.ref C :: us,kw⟩)).units=A.units+1:=by
 first | rfl | simp [Bh,Code.cUnits,Code.frames,Dx]
theorem jU.make {k:Nat} {A:cZ} (r:jU (k+1) A) (C:Addr) (us:List Value) (kw:List (Str×Value)):jU k (A.under (.builtin "type.__call__" ⟨.ref C :: us,kw⟩)) :=
 ⟨r.hd,by have:=r.dp; rw [yc]; lia,by have:=r.un; rw [yb]; lia⟩
theorem jU.depth{k:Nat}{A:cZ}(r:jU k A):A.depth < recursionLimit:=by have:=r.dp; lia
theorem jU.units{k:Nat}{A:cZ}(r:jU k A):A.units+64 < cLine:=by have:=r.un; lia
theorem jU.Fg{k:Nat}{A:cZ}(r:jU k A):A.units < cLine:=by have:=r.un; lia
noncomputable abbrev Sp:=List V->Hp->VK->XK->Prop
noncomputable abbrev Be:=List Env->Hp->au->XK->Value->au->Prop
structure yw(P:bo)(w:World)(K:af)(mg:Str->Option Value)(base:Heap)(A:cZ)(outer:List Env)(s:au)(H:Hp):Prop where
 frames:A.frames=some outer
 mod:Mod K mg base
 bs:∀ b o,base.get? b=some o->s.heap.get? b=some o/\H b=none
 DE:base.objs.size<=s.heap.objs.size
 q4:s.heap.FunFrames base outer
 Gm:∀ b∈Bk outer,H b=none
 dr:pf P w H s.heap
 bare:t9 s.gens
noncomputable def CE(outer:List Env)(P:bo)(w:World)(H:Hp)(s:au)(Q:VK)(u:Value)(s':au):Prop :=
 ∃ v H',s'.os=s.os/\t9 s'.gens/\Un (Bk outer) [] H H' s.heap s'.heap/\pf P w H' s'.heap/\RelV v u/\Q v H'
noncomputable def CR(CX:Be)(outer:List Env)(P:bo)(w:World)(H:Hp)(s:au)(Q:VK)(E:XK)(r:Result)(s':au):Prop :=
 match r with
 | .ok (.ret u)=>CE outer P w H s Q u s'
 | .ok _=>False
 | .error e=>CX outer H s E e s'
structure l4(P:bo)(w:World)(K:af)(mg:Str->Option Value)(base:Heap)(CX:Be)(k:Nat)(f:Addr)(fd:bh)(ps:List Str)(sp:Sp):Prop where
 len:∀ vs H Q E,sp vs H Q E->vs.length=ps.length
 run:∀ (A:cZ) (outer:List Env) (s:au) (H:Hp) (args:Args) (us:List Value) (vs:List V) (Q:VK) (E:XK),jU k A->yw P w K mg base A outer s H->Bz s fd args (ps.zip us)->Vals vs us->sp vs H Q E ->
  oN (model P w) A (.call (.ref f) args) (CR CX outer P w H s Q E) s
theorem yw.make{P:bo}{w:World}{K:af}{mg:Str->Option Value}{base:Heap}{A:cZ}{outer:List Env}{s:au}{H:Hp}(e:yw P w K mg base A outer s H)(C:Addr)(us:List Value)(kw:List (Str×Value)) :
  yw P w K mg base (A.under (.builtin "type.__call__" ⟨.ref C :: us,kw⟩)) outer s H:=⟨by first | exact e.frames | (simpa [Bh,Code.envs,Dx,pushEnvs] using e.frames),e.mod,e.bs,e.DE,e.q4,e.Gm,e.dr,e.bare⟩
section
variable {X:Cx} {pins:List (Addr×Obj)} {σ:St} {H:Hp} {s s':au}
theorem Inv.Iv(I:Inv X pins σ H s):yw X.prog X.w X.K X.mg X.base X.A X.stack s H :=
 ⟨I.ok.frames,I.ok.mod,I.bs,b8 I.ok.DE I.sz,I.stack,I.yL,I.dr,I.bare⟩
theorem Inv.after{Q:VK}{u:Value}(I:Inv X pins σ H s)(h:CE X.stack X.prog X.w H s Q u s'):EP X pins σ Q u s':=by
 obtain⟨v,H',os,bare,un,dr,r,q⟩:=h;obtain⟨hh,g,d,t,Me⟩:=s';obtain rfl:Me=s.os:=os;exact⟨v,H',I.call (h':=hh) (g':=g) (d':=d) (t':=t) (ch:=[]) un dr bare (fun b z=>absurd z (by simp)),r,q⟩
end
noncomputable def Binds(K:af)(fd:bh)(ps:List Str)(ds:List Value):Prop :=
 ∀ (s:au) (us:List Value),K.In s.heap->(us++ds).length=ps.length->Bz s fd ⟨us,[]⟩ (ps.zip (us++ds))
theorem Binds.all{K:af}{fd:bh}{ps:List Str}(h:∀ us:List Value,us.length=ps.length->bindArgs fd ⟨us,[]⟩=pure (ps.zip us)):Binds K fd ps []:=fun s us _ hl=>by
 rw [ia] at hl ⊢;exact .of_eq (h us hl)
noncomputable def Passes(CX:Be)(X:Cx)(E:XK):Prop:=∀ (pins:List (Addr×Obj)) (σ:St) (H:Hp) (s:au) (e:Value) (s':au),Inv X pins σ H s->CX X.stack H s E e s'->X.xe e s'
section
variable {X:Cx} {CX:Be} {k:Nat} {f C:Addr} {fd:bh} {ps:List Str} {sp:Sp} {Jh:List V} {ds:List Value} {E:XK} {x m:Str} {p pos apos:Pos} {e o:Expr} {es:List Expr} {ta:TE} {t:TA}
theorem Fu{pins:List (Addr×Obj)}{σ:St}{H:Hp}{s:au}{Q:VK}{us:List Value}{vs:List V}(F:l4 X.prog X.w X.K X.mg X.base CX k f fd ps sp)(hr:jU k X.A)(hb:Binds X.K fd ps ds)(hd:Vals Jh ds)(hx:Passes CX X E)
  (I:Inv X pins σ H s) (r:Vals vs us) (h:sp (vs++Jh) H Q E):wpAny (model X.prog X.w) X.A (call (.ref f) us) (EP X pins σ Q) X.xe s:=by
 have r2:Vals (vs++Jh) (us++ds):=r.append hd;have hl:(us++ds).length=ps.length:=by rw [<-r2.length]; exact F.len _ _ _ _ h
 refine mf (oG (F.run X.A X.stack s H ⟨us,[]⟩ (us++ds) (vs++Jh) Q E hr I.Iv (hb s us I.o9 hl) r2 h) fun r s' hq=>?_);cases r with
 | error e=>exact hx pins σ H s e s' I hq
 | ok fl =>
  cases fl with
  | ret u=>exact I.after hq
  | next=>exact bJ hq
  | brk=>exact bJ hq
  | cont=>exact bJ hq
structure Mk(K:af)(C f:Addr):Prop where
 makes:PySem.W.makesIn K C=true
 init:ak K (.ref C) "__init__" = some (some (.ref f))
 fn:PySem.W.isFn K (.ref f)=true
 kp:fk K (.ref C)=true
end
section
variable {X:Cx} {CX:Be} {k:Nat} {f C:Addr} {fd:bh} {ps ks:List Str} {sp:Sp} {E:XK} {x m:Str} {p pos apos Mp:Pos} {e o:Expr} {es:List Expr} {NO:List By} {te ta:TE} {t tk:TA} {nm:Option Str}
structure KJ(K:af)(fd:bh)(ps ks:List Str)(g:List Value->List Value->List Value)(gV:List V->List V->List V):Prop where
 to:∀ (s:au) (us ws:List Value),K.In s.heap->(g us ws).length=ps.length->Bz s fd ⟨us,ks.zip ws⟩ (ps.zip (g us ws))
 rel:∀ {vs:List V} {us:List Value} {zs:List V} {ws:List Value},Vals vs us->Vals zs ws->Vals (gV vs zs) (g us ws)
variable {g:List Value->List Value->List Value} {gV:List V->List V->List V}
end
structure ff(N P:List Str)(sc:Scope):Prop where
 kind:sc.kind=.function
 co:sc.isCoroutine=false
 gen:sc.isGenerator=false
 nd:N.Nodup
 pre:N.take P.length=P
 par:∀ x∈P,sc.names.lookup x=some .local\/sc.names.lookup x=some .cell
 FJ:∀ y∈sc.names,y.2≠.free
theorem tT{kindOf:Str->Option oH}{x:Str}:∀ {binds:List (Str×Value)} {m:Str->Option Value},(∀ v,(x,v)∉binds)->bindL kindOf binds m x=m x
 | [],_,_=>rfl
 | (n,v) :: r,m,h=>by
  unfold bindL;rw [tT fun w hw=>h w (cW _ hw)];split
  ·have:x≠n:=by rintro rfl; exact h v dI
   simp [this]
  ·rfl
theorem tV{kindOf:Str->Option oH}{x:Str}:∀ {binds:List (Str×Value)} {m:Str->Option Value},(∀ v,(x,v)∉binds)->bindC kindOf binds m x=m x
 | [],_,_=>rfl
 | (n,v) :: r,m,h=>by
  unfold bindC;rw [tV fun w hw=>h w (cW _ hw)];split
  ·rfl
  ·have:x≠n:=by rintro rfl; exact h v dI
   simp [this]
theorem tU{kindOf:Str->Option oH}{x:Str}{v:Value}:∀ {P:List Str} {vs:List Value} {i:Nat} {m:Str->Option Value},P.Nodup->P[i]?=some x->vs[i]?=some v->kindOf x=some .local ->
  bindL kindOf (P.zip vs) m x=some v
 | [],_,_,_,_,h,_,_=>by simp at h
 | _ :: _,[],_,_,_,_,h,_=>by simp at h
 | p :: P,w :: vs,0,m,nd,h1,h2,hk=>by
  simp at h1 h2; subst h1; subst h2;show bindL kindOf ((p,w) :: P.zip vs) m p=_;unfold bindL;rw [tT fun v hv=>(List.nodup_cons.mp nd).1 (wZ hv).1,if_pos hk];simp
 | p :: P,w :: vs,i+1,m,nd,h1,h2,hk=>by
  show bindL kindOf ((p,w) :: P.zip vs) m x=_;unfold bindL;exact tU (i:=i) (List.nodup_cons.mp nd).2 (by simpa using h1) (by simpa using h2) hk
theorem tW{kindOf:Str->Option oH}{x:Str}{v:Value}:∀ {P:List Str} {vs:List Value} {i:Nat} {m:Str->Option Value},P.Nodup->P[i]?=some x->vs[i]?=some v->kindOf x≠some .local ->
  bindC kindOf (P.zip vs) m x=some v
 | [],_,_,_,_,h,_,_=>by simp at h
 | _ :: _,[],_,_,_,_,h,_=>by simp at h
 | p :: P,w :: vs,0,m,nd,h1,h2,hk=>by
  simp at h1 h2; subst h1; subst h2;show bindC kindOf ((p,w) :: P.zip vs) m p=_;unfold bindC;rw [tV fun v hv=>(List.nodup_cons.mp nd).1 (wZ hv).1,if_neg hk];simp
 | p :: P,w :: vs,i+1,m,nd,h1,h2,hk=>by
  show bindC kindOf ((p,w) :: P.zip vs) m x=_;unfold bindC;exact tW (i:=i) (List.nodup_cons.mp nd).2 (by simpa using h1) (by simpa using h2) hk
noncomputable def start(N:List Str)(vs:List V):St:=vs.map some++c1 (N.length - vs.length) none
noncomputable def u7(CX:Be)(P:bo)(w:World)(K:af)(mg:Str->Option Value)(base:Heap)(N:List Str)(qual:Str)(scope:Scope)(f:Addr)(cd:Value)(A:cZ)(outer:List Env)(s:au)(H:Hp)(E:XK):Cx where
 prog:=P
 w:=w
 K:=K
 mg:=mg
 base:=base
 A:=A.deeper (tu qual scope s.heap.objs.size f cd)
 N:=N
 l6:=s
 Dk:=H
 env:=tu qual scope s.heap.objs.size f cd
 outer:=outer
 stack:=tu qual scope s.heap.objs.size f cd :: outer
 ex:=[]
 calm:=true
 fn:=fun _=>true
 pn:=[]
 xe:=fun e s'=>wpAny (model P w) (A.deeper (tu qual scope s.heap.objs.size f cd)) (leaving (tu qual scope s.heap.objs.size f cd) e) (fun _ Jy=>CX outer H s E e Jy) (fun e' Jy=>CX outer H s E e' Jy) s'
theorem wK{sc:Scope}{n:Nat}{x:Str}(h:sc.names.lookup x=some .cell):∃ c,(cellsFrom n sc.names []).lookup x=some c:=by
 have q:=yE sc.names n [] (.inl h);exact Option.isSome_iff_exists.mp q
theorem AS{CX:Be}{P:bo}{w:World}{K:af}{mg:Str->Option Value}{base:Heap}{N ps:List Str}{qual:Str}{scope:Scope}{f:Addr}{cd:Value}{A:cZ}{outer:List Env}{s s1:au}{H:Hp}{E:XK}{us:List Value}{vs:List V}
  (S:ff N ps scope) (hd:A.handled=none) (e0:yw P w K mg base A outer s H) (hl:vs.length=ps.length) (r:Vals vs us)
  (x:InCallC s s.heap.objs.size (bindL (tu qual scope s.heap.objs.size f cd).kindOf (ps.zip us) fun _=>none) (cellsFrom (s.heap.objs.size+1) scope.names []) (bindC (tu qual scope s.heap.objs.size f cd).kindOf (ps.zip us) fun _=>none) s1) :
  Inv (u7 CX P w K mg base N qual scope f cd A outer s H E) [] (start N vs) H s1:=by
 have sE:ps.length<=N.length:=by have:=congrArg List.length S.pre; rw [List.length_take] at this; lia
 obtain⟨h1,tk,rfl,hk⟩:=x.done;have HA:∀ b:Addr,b∉(u7 CX P w K mg base N qual scope f cd A outer s H E).ex:=fun b z=>absurd (show b∈([]:List Addr) from z) (by simp);refine⟨⟨e0.mod,S.kind,rfl,rfl,ck _,fun y z c h1 h2=>?_,fun y hy=>?_,fun y c _ h=>?_,fun _=>hd,Around.frames_deeper e0.frames,.inr ⟨rfl,rfl⟩,fun b z=>absurd z (HA b),e0.bs,e0.DE,fun b _ _=>HA b,fun b z=>absurd z (HA b),e0.q4,e0.Gm⟩,
  rfl,e0.bare,Un.kept hk,⟨_,x.toInCall.ns,fun i y v h1 h2 h3=>?_⟩,fun y c h=>⟨_,x.cell y c h⟩,e0.dr.fresh (ck _),fun y c h=>?_,fun p hp=>absurd (show p∈([]:List (Addr×Obj)) from hp) (by simp),e0.dr.kept hk,?_⟩
 ·exact name_of_addr x.apart (fg h1) (fg h2)
 ·have hy:scope.names.lookup y=some .cell\/scope.names.lookup y=some .free:=hy;rcases hy with hy | hy
  ·exact wK hy
  ·exact absurd rfl (S.FJ _ (fg hy))
 ·exact DO (x.above y c (fg h))
 ·have hi:i < vs.length:=by
   unfold start at h2;by_cases hi:i < vs.length
   ·exact hi
   ·rw [cH (by simpa using hi)] at h2;rw [k7] at h2;split at h2 <;> cases h2
  have ha:vs[i]?=some v:=by
   unfold start at h2;rw [dN (by simpa using hi),c4] at h2;cases e:vs[i]? with
   | none=>rw [e] at h2; cases h2
   | some a=>rw [e] at h2; cases h2; rfl
  obtain⟨u,hu,rv⟩:=r.get ha;have hp:ps[i]?=some y:=by
   rw [<-S.pre,List.getElem?_take_of_lt (by lia)]; exact h1
  have K5:ps.Nodup:=by rw [<-S.pre]; exact S.nd.sublist (List.take_sublist _ _)
  refine⟨u,rv,?_⟩;rcases S.par y (List.mem_of_getElem? hp) with k | k
  ·exact .inl ⟨k,tU K5 hp hu k⟩
  ·obtain⟨c,e⟩:=wK (n:=s.heap.objs.size+1) k;refine .inr ⟨.inl k,c,e,?_⟩;have q:=x.cell y c e;rw [tW K5 hp hu (by show scope.names.lookup y≠_; rw [k]; decide)] at q;exact q
 ·exact e0.dr.fresh (DO (x.above y c (fg h)))
 ·unfold start;show _=N.length;rw [bZ,cO,cN];lia
theorem Iu{CX:Be}{P:bo}{w:World}{K:af}{mg:Str->Option Value}{base:Heap}{k:Nat}{f:Addr}{name qual:Str}{params:Arguments}{body:List Stmt}{scope:Scope}{dV kV doc pm lO ct oc:Value}{an od:Option Addr}
  {AI:Array (Option Value)} {N ps:List Str} {sp:Sp} (lk:K.lookup f=some ⟨oc,od,.func (fZ name qual params body scope dV kV doc pm an lO ct),AI⟩) (w7:vr K lO qual=true) (S:ff N ps scope)
  (len:∀ vs H Q E,sp vs H Q E->vs.length=ps.length)
  (wo:∀ (A:cZ) (outer:List Env) (s:au) (H:Hp) (vs:List V) (Q:VK) (E:XK),jU k (A.deeper (tu qual scope s.heap.objs.size f lO))->sp vs H Q E ->
   ∃ t,DG (u7 CX P w K mg base N qual scope f lO A outer s H E) body t/\t { nx:=fun _ H'=>Q .l7 H',rt:=Q } (start N vs) H) :
  l4 P w K mg base CX (k+1) f (fZ name qual params body scope dV kV doc pm an lO ct) ps sp:=by
 refine⟨len,fun A outer s H args us vs Q E hr e0 hb r AU=>?_⟩;have hl:=len _ _ _ _ AU;have KX:K.In s.heap:=e0.mod.HJ.keeps fun b o e=>(e0.bs b o e).1;have lim:s.heap.NoLimit:=e0.mod.nolimit.keeps fun b o e=>(e0.bs b o e).1;have tM:∀ y∈ps.zip us,scope.names.lookup y.1=some .local\/(scope.names.lookup y.1=some .cell/\((cellsFrom (s.heap.objs.size+1) scope.names []).lookup y.1).isSome=true):=fun ⟨n,v⟩ hy=>by
  rcases S.par n (wZ hy).1 with q | q
  ·exact .inl q
  ·exact .inr ⟨q,yE _ _ _ (.inl q)⟩
 refine codeAny_call_function hr.depth (KX _ _ lk) rfl S.co S.gen rfl (PySem.W.codeRec_of KX w7) (hb _ _ _ _ ?_);refine wpAny_newFunctionEnv_cells S.kind tM fun env he s1 x=>?_;subst he;refine⟨lim.keeps x.toInCall.keep,codeAny_func ?_⟩;obtain⟨t,ht,hq⟩:=wo A outer s H vs Q E (hr.deeper _) AU;have I:Inv (u7 CX P w K mg base N qual scope f lO A outer s H E) [] (start N vs) H s1:=AS S hr.hd e0 hl r x;refine ph (ht [] s1 (start N vs) H _ I hq) (fun fl s' hs=>?_) fun e s' hs=>hs;have fin:∀ {j0:St} {H':Hp} {v:V} {u:Value},Inv (u7 CX P w K mg base N qual scope f lO A outer s H E) [] j0 H' s'->RelV v u->Q v H'->CE outer P w H s Q u s' :=
  fun {j0 H' v u} J rv q=>⟨v,H',J.os,J.bare,J.base,J.dr,rv,q⟩
 cases fl with
 | ret u =>
  obtain⟨v,j0,H',J,rv,q⟩:=hs;exact fin J rv q
 | next =>
  obtain⟨j0,H',J,q⟩:=hs;exact fin (v:=V.l7) (u:=yB) J rfl q
 | brk =>
  obtain⟨_,_,_,q⟩:=hs;exact bJ q
 | cont =>
  obtain⟨_,_,_,q⟩:=hs;exact bJ q
end L2
namespace HT
open PySem PyProof.Rows
noncomputable def lexLt:List Int->List Int->Bool
 | [],[]=>false
 | [],_ :: _=>true
 | _ :: _,[]=>false
 | x :: xs,y :: ys=>if x=y then lexLt xs ys else decide (x < y)
theorem yg(x y:Int)(xs ys:List Int):lexLt (x :: xs) (y :: ys)=if x=y then lexLt xs ys else decide (x < y):=rfl
theorem sR:lexLt [] []=false:=rfl
theorem r4(y:Int)(ys:List Int):lexLt [] (y :: ys)=true:=rfl
theorem r8(x:Int)(xs:List Int):lexLt (x :: xs) []=false:=rfl
theorem CT(A:cZ)(s:au)(a:Int)(t:Tok)(c:Int)(u:Tok):∃ e,SeqAt.EqAt A s (.int a t) (.int c u) e/\(e=true↔a=c) :=
 ⟨(a == c),SeqAt.EqAt.int_int a t c u,by simp⟩
theorem BY(A:cZ)(s:au)(a:Int)(t:Tok)(c:Int)(u:Tok)(prog:bo)(w:World)(E:Value->au->Prop)(Q:Value->au->Prop)(h:Q (.bool (decide (a < c))) s) :
  wpAny (model prog w) A (richCompare .Lt (.int a t) (.int c u)) Q E s :=
 (PyProof.Rows.lt_int h:wpAny (model prog w) A (nI .Lt (.int a t) (.int c u)) Q E s)
section
open PySem.SeqAt
open PySem.AutoSeq1 (wpAny_loadPart')
open PySem.MeetsSeq PySem.MeetsSeq2 PySem.MeetsSeq3
theorem sJ(l b:Addr)(items mj:Array Value)(n n2:Nat)(dd GW:Option Addr)(sl GI:Array (Option Value))(ns ms:List Int)(hi:mO items.toList ns)(hj:mO mj.toList ms) :
  Meets (Builtin.«tuple.__lt__» ⟨[.ref l,.ref b],[]⟩)
   (fun _ R s=>s.heap.get? l=some { cls:=.type "tuple",dict:=dd,data:=.seq items n,slots:=sl }/\s.heap.get? b=some { cls:=.type "tuple",dict:=GW,data:=.seq mj n2,slots:=GI } /\
    R (.ok (.ret (.bool (lexLt ns ms)))) s) :=
 .of_wp fun prog w A R s h=>by
  obtain⟨hp,g,d,tk,os⟩:=s; obtain⟨hl,hb,h⟩:=h;have f2:=vt;have z1:items.size=ns.length:=by rw [<-hi.length]; simp
  have z2:mj.size=ms.length:=by rw [<-hj.length]; simp
  wp_walk using rp hl,rp hb,wpAny_forIn_list _ (fun rest b s'=>b.1=none/\s'=⟨hp,g,d,tk,os⟩/\∃ (vs ws:List Value) (GK GL:List Int),rest=vs.zip ws /\
   mO vs GK/\mO ws GL/\GK.length+mj.size=GL.length+items.size/\R (.ok (.ret (.bool (lexLt GK GL)))) ⟨hp,g,d,tk,os⟩) _
  case turn =>
   rintro⟨y,x⟩ rest b s' ⟨Ks,rfl,vs,ws,GK,GL,hz,J0,IZ,hlen,hR⟩;cases J0 with
   | nil=>rw [List.zip_nil_left] at hz; cases hz
   | cons a t JZ =>
    cases IZ with
    | nil=>rw [List.zip_nil_right] at hz; cases hz
    | cons c u JY =>
     rw [sD] at hz;injection hz with Ms hrest
     injection Ms with hy hx
     subst hy hx;rw [yg] at hR;simp only [bE] at hlen;obtain⟨e,he,HW⟩:=CT A.in1 ⟨hp,g,d,tk,os⟩ a t c u;refine aL (he prog w _ _ ?_);cases e with
     | true =>
      rw [if_pos (HW.mp rfl)] at hR
      wp_walk
      exact⟨rfl,rfl,_,_,_,_,hrest,JZ,JY,by lia,hR⟩
     | false =>
      rw [if_neg (fun q=>absurd (HW.mpr q) nD)] at hR;have MI:=BY A.in1 ⟨hp,g,d,tk,os⟩ a t c u prog w
      wp_walk using MI
      exact⟨_,rfl,by simpa using hR⟩
  case fin =>
   rintro⟨b1,b2⟩ s' ⟨Ks,rfl,vs,ws,GK,GL,hz,J0,IZ,hlen,hR⟩;simp only at Ks;subst Ks;have hv:lexLt GK GL=decide (items.size < mj.size):=by
    cases J0 with
    | nil =>
     cases IZ with
     | nil =>
      simp only [cb] at hlen;rw [sR];exact(decide_eq_false (by lia)).symm
     | cons c u hw =>
      simp only [cb,bE] at hlen;rw [r4];exact(decide_eq_true (by lia)).symm
    | cons a t hv =>
     cases IZ with
     | nil =>
      simp only [cb,bE] at hlen;rw [r8];exact(decide_eq_false (by lia)).symm
     | cons c u hw =>
      rw [sD] at hz;cases hz
   rw [hv] at hR
   wp_walk
   exact⟨_,rfl,by simpa [Builtin.Tuple.tupleCompareSizes] using hR⟩
  case h =>
   exact⟨rfl,rfl,items.toList,mj.toList,ns,ms,rfl,hi,hj,by lia,h⟩
end
section
variable {prog:bo} {w:World} {A:cZ} {E:Value->au->Prop} {s:au}
theorem yd{l b:Addr}{items mj:Array Value}{ns ms:List Int}{Q:Value->au->Prop}(hl:IsTup s.heap l items)(hb:IsTup s.heap b mj)(hi:mO items.toList ns)(hj:mO mj.toList ms)
  (hu:A.units < cLine) (h:Q (.bool (lexLt ns ms)) s):wpAny (model prog w) A (nI .Lt (.ref l) (.ref b)) Q E s:=by
 obtain⟨⟨cls,dd,data,sl⟩,ho,hc,n,hd⟩:=id hl;obtain⟨⟨KD,GW,data2,GI⟩,F9,Ie,n2,hd2⟩:=id hb;simp only at hc hd Ie hd2;subst hc hd Ie hd2;exact richCompare_meets_room (op:=.Lt) ⟨_,ho,rfl⟩ ⟨_,F9,rfl⟩ PySem.F.slot_tuple_lt PySem.F.entry_tuple_lt (PySem.F.args_tuple_lt_2 _ _) (sJ l b items mj n n2 dd GW sl GI ns ms hi hj)
  ⟨ho,F9,show yC (lexLt ns ms)≠Value.notImplemented/\Q (.bool (lexLt ns ms)) s from⟨(fun x=>nomatch x),h⟩⟩ hu
theorem EA{t b:Addr}{vs ws:List Value}{Q:Value->au->Prop}(ht:IsTup s.heap t vs.toArray)(hb:IsTup s.heap b ws.toArray)(hv:vs≠[])
  (h1:ws=[]->Q (.ref t) s) (h2:ws≠[]->Q (.ref s.heap.objs.size) { s with heap:=s.heap.push { cls:=.type "tuple",data:=.seq (vs++ws).toArray } })
  (FZ:vs.length+ws.length<=aZ):wpAny (model prog w) A (nC .Add (.ref t) (.ref b)) Q E s:=by
 obtain⟨⟨cls,dd,data,sl⟩,ho,hc,n,hd⟩:=id ht;obtain⟨⟨KD,GW,data2,GI⟩,F9,Ie,n2,hd2⟩:=id hb;simp only at hc hd Ie hd2;subst hc hd Ie hd2;have e:vs.toArray++ws.toArray=(vs++ws).toArray:=by simp
 by_cases hw:ws=[]
 ·exact concat_meets ⟨_,ho,rfl⟩ ⟨_,F9,rfl⟩ noFill_tuple_add seq_tuple_add yF xk (wY _ _)
   (tuple_addW1 t b vs.toArray ws.toArray n n2 dd GW sl GI (by simpa using hv) (by simp [hw])) ⟨ho,F9,h1 hw⟩
 ·refine concat_meets ⟨_,ho,rfl⟩ ⟨_,F9,rfl⟩ noFill_tuple_add seq_tuple_add yF xk (wY _ _)
   (tuple_addW2 t b vs.toArray ws.toArray n n2 dd GW sl GI (by simpa using hv) (by simpa using hw) (by rw [bx,bx]; exact FZ)) ⟨ho,F9,?_⟩
  rw [e];exact h2 hw
end
end HT
namespace L2
open PySem PySem.Spec PyProof.Rows
noncomputable abbrev TO:=St->Hp->(Option Int->Hp->Prop)->Prop
theorem intsAre_of{ns:List Int}:∀ {us:List Value},Vals (ns.map V.int) us->mO us ns:=by
 induction ns with
 | nil=>intro us r; rw [fh] at r; cases r; exact .nil
 | cons n ns ih =>
  intro us r;rw [cF] at r;cases r with
  | cons r1 r2 =>
   obtain⟨t,e⟩:=r1;subst e;exact .cons n t (ih r2)
section
variable {X:Cx} {e:Expr} {te:TE} {lo hi:Option Expr} {tl th:TO} {pos p2:Pos}
noncomputable def JA(K:af):R2:=fun x y H Q=>∃ a b ns ms,x=.ref a/\y=.ref b/\Bm K H a (ns.map V.int)/\Bm K H b (ms.map V.int)/\Q (.bl (HT.lexLt ns ms)) H
theorem FF(hu:X.A.units < cLine):DH X (nI .Lt) (JA X.K):=by
 intro pins s σ H x y v u Q I rx ry h;obtain⟨a,b,ns,ms,rfl,rfl,ha,hb,q⟩:=h;cases rx;cases ry;obtain⟨cY,r1,p1,_⟩:=I.tuple ha;obtain⟨sS,r2,p2,_⟩:=I.tuple hb;have i1:mO cY.toArray.toList ns:=intsAre_of r1;have i2:mO sS.toArray.toList ms:=intsAre_of r2;exact HT.yd p1 p2 i1 i2 hu ⟨.bl (HT.lexLt ns ms),H,I,rfl,q⟩
noncomputable def Hq(K:af):R2:=fun x y H Q=>∃ a b xs ys,x=.ref a/\y=.ref b/\Bm K H a xs/\Bm K H b ys/\xs≠[]/\xs.length+ys.length<=aZ /\
 (ys=[]->Q (.ref a) H)/\(ys≠[]->∀ p,H p=none->Q (.ref p) (upd H p (.tup (xs++ys))))
theorem Vals.uO{xs:List V}{us:List Value}(r:Vals xs us):us=[]↔xs=[]:=by
 cases r with
 | nil=>simp
 | cons _ _=>simp
theorem D9:DH X (nC .Add) (Hq X.K):=by
 intro pins s σ H x y v u Q I rx ry h;obtain⟨a,b,xs,ys,rfl,rfl,ha,hb,hx,hz,q1,q2⟩:=h;cases rx;cases ry;obtain⟨cY,r1,p1,_⟩:=I.tuple ha;obtain⟨sS,r2,p2,_⟩:=I.tuple hb;refine HT.EA p1 p2 (fun z=>hx (r1.uO.mp z)) (fun z=>⟨.ref a,H,I,rfl,q1 (r2.uO.mp z)⟩) (fun z=>?_) (by rw [<-r1.length,<-r2.length]; exact hz);refine⟨.ref s.heap.objs.size,_,I.laid (t':=s.toks) (o:=.tup (xs++ys)) (fun b ob q=>aM _ q) (ck _) ?_,rfl,q2 (fun w=>z (r2.uO.mpr w)) _ (I.dr.fresh (ck _))⟩;exact⟨by rw [bZ]; exact hz,_,r1.append r2,IsTup.new _ _⟩
end
noncomputable def DB(n:Nat)(i:Int):Option Nat:=if 0<=i then (if i < n then some i.toNat else none) else if -(n:Int)<=i then some (i+n).toNat else none
noncomputable def rn{α:Type}(xs:List α)(i:Int):Option α:=(DB xs.length i).bind fun j=>xs[j]?
theorem Ed{n:Nat}{i:Int}{j:Nat}(h:DB n i=some j):seqIndex? i n=some j/\j < n/\-(n:Int)<=i/\i < n:=by
 unfold DB at h;by_cases h0:0<=i
 ·rw [if_pos h0] at h;by_cases h1:i < n
  ·rw [if_pos h1] at h;have e:i.toNat=j:=bu h;exact⟨by rw [seqIndex_of h0 h1,e],by lia,by lia,h1⟩
  ·rw [if_neg h1] at h; cases h
 ·rw [if_neg h0] at h;by_cases h1:-(n:Int)<=i
  ·rw [if_pos h1] at h;have e:(i+n).toNat=j:=bu h;exact⟨by rw [seqIndex_neg (by lia) h1,e],by lia,h1,by lia⟩
  ·rw [if_neg h1] at h; cases h
theorem zi{α:Type}{xs:List α}{i:Int}{v:α}(h:rn xs i=some v):∃ j,seqIndex? i xs.length=some j/\xs[j]?=some v/\j < xs.length/\-(xs.length:Int)<=i/\i < xs.length:=by
 unfold rn at h;cases e:DB xs.length i with
 | none=>rw [e] at h; cases h
 | some j =>
  rw [e] at h;obtain⟨h1,h2,h3,h4⟩:=Ed e;exact⟨j,h1,h,h2,h3,h4⟩
noncomputable def EG(b:Expr):Prop:=∀ o i,subscripted b false o i=operate [o,i] (getItem o i)
noncomputable def KL(X:Cx)(r:R2):Prop :=
 ∀ (value slice:Expr) (pins:List (Addr×Obj)) (s:au) (σ:St) (H:Hp) (x y:V) (v u:Value) (Q:VK),Inv X pins σ H s->RelV x v->RelV y u->r x y H Q ->
  subscripted slice false v u=operate [v,u] (getItem v u)->wpAny (model X.prog X.w) X.A (subscriptTail value slice v u) (EP X pins σ Q) X.xe s
noncomputable def NA(X:Cx)(id:String)(r:V->List V->Hp->VK->Prop):Prop :=
 ∀ (pins:List (Addr×Obj)) (s:au) (σ:St) (H:Hp) (x:V) (xs:List V) (v:Value) (us:List Value) (Q:VK),Inv X pins σ H s->RelV x v->Vals xs us->r x xs H Q ->
  wpAny (model X.prog X.w) X.A (call (.builtin id) (v :: us)) (EP X pins σ Q) X.xe s
section
variable {X:Cx} {a b:Expr} {ta tb:TE} {pos:Pos}
noncomputable def JD(K:af):R2:=fun x y H Q=>∃ p xs i v,x=.ref p/\y=.int i/\zj K H p xs/\rn xs i=some v/\Q v H
noncomputable def JC(K:af):R2:=fun x y H Q=>∃ p xs i v,x=.ref p/\y=.int i/\Bm K H p xs/\rn xs i=some v/\Q v H
theorem y7:KL X (JD X.K):=by
 intro value slice pins s σ H x y v u Q I rx ry h hs;obtain⟨p,xs,i,z,rfl,rfl,hq,he,q⟩:=h;cases rx;obtain⟨t,rfl⟩:=ry;obtain⟨cY,r,pl,hz⟩:=I.list hq;obtain⟨j,h1,h2,h3,h4,h5⟩:=zi he;obtain⟨w,ew,sN⟩:=r.get h2;have hl:=r.length;have hn:=uQ;have fin:EP X pins σ Q w s:=⟨z,H,I,sN,q⟩;by_cases h0:0<=i
 ·have hj:i.toNat=j:=by
   rw [seqIndex_of h0 h5] at h1;exact bu h1
  exact item_listR pl.isList h0 (by lia) (by rw [hj]; simpa using ew) fin hs
 ·have hj:(i+(cY.toArray.size:Int)).toNat=j:=by
   rw [seqIndex_neg (by lia) h4] at h1;rw [bx,<-hl];exact bu h1
  exact subscriptTail_builtinR (x:=w) pl.isList.typeIs slot_list_getitem.lookup
   (wpAny_getItem_list_neg (Q:=fun r s'=>r=w/\EP X pins σ Q r s') pl.isList (by lia) (by rw [bx] <;> lia) (by lia) (by rw [hj]; simpa using ew) ⟨rfl,fin⟩) hs
theorem FU:KL X (JC X.K):=by
 intro value slice pins s σ H x y v u Q I rx ry h hs;obtain⟨p,xs,i,z,rfl,rfl,hq,he,q⟩:=h;cases rx;obtain⟨t,rfl⟩:=ry;obtain⟨cY,r,pl,hz⟩:=I.tuple hq;obtain⟨j,h1,h2,h3,h4,h5⟩:=zi he;obtain⟨w,ew,sN⟩:=r.get h2;have hl:=r.length;have hn:=uQ;have fin:EP X pins σ Q w s:=⟨z,H,I,sN,q⟩;exact subscriptTail_builtinR (x:=w) pl.typeIs slot_tuple_getitem.lookup
  (getItem_tuple (j:=j) (Q:=fun r s'=>r=w/\EP X pins σ Q r s') pl (by lia) (by lia) (by rw [bx,<-hl]; exact h1) (by simpa using ew) ⟨rfl,fin⟩) hs
noncomputable def LQ(K:af)(T:String)(x:V)(H:Hp):Prop:=match x with
 | .str _=>T = "str"
 | .int _=>T = "int"
 | .ref p=>(T = "list"/\∃ xs,zj K H p xs)\/(T = "tuple"/\∃ o,K.lookup p=some o/\o.cls=.type "tuple"/\o.dict=none) \/
   (T = "dict"/\((∃ bF,H p=some (.dK bF))\/∃ bF,H p=some (.dT bF)))\/(T = "set"/\∃ S n,H p=some (.set S n))
 | _=>False
theorem BM{pins:List (Addr×Obj)}{σ:St}{H:Hp}{s:au}{T:String}{x:V}{v:Value}(I:Inv X pins σ H s)(r:RelV x v)(ty:LQ X.K T x H) :
  s.TypeIs v T/\∀ a,v=.ref a->∃ ob,s.heap.get? a=some ob/\ob.dict=none:=by
 cases x with
 | str z =>
  obtain⟨t,rfl⟩:=r;cases (show T = "str" from ty);exact⟨w9 s z t,fun _ e=>nomatch e⟩
 | int i =>
  obtain⟨t,rfl⟩:=r;cases (show T = "int" from ty);exact⟨typeIs_int s i t,fun _ e=>nomatch e⟩
 | ref p =>
  cases r;rcases ty with ⟨rfl,xs,hq⟩ | ⟨rfl,o,hk,hc,hd⟩ | ⟨rfl,hk⟩ | ⟨rfl,S,n,hk⟩
  ·obtain⟨cY,_,pl,_⟩:=I.list hq;refine⟨pl.isList.typeIs,fun a e=>?_⟩;cases e;obtain⟨o,n,e,c,hd,_⟩:=pl;exact⟨o,e,hd⟩
  ·refine⟨⟨o,I.o9 p o hk,hc⟩,fun a e=>?_⟩;cases e;exact⟨o,I.o9 _ o hk,hd⟩
  ·have z:∃ o,s.heap.get? p=some o/\o.ExactDict:=by
    rcases hk with ⟨bF,hk⟩ | ⟨bF,hk⟩
    ·obtain⟨_,_,_,_,o,_,_,e,ex,_⟩:=I.dr p _ hk;exact⟨o,e,ex⟩
    ·obtain⟨_,_,_,_,o,_,_,e,ex,_⟩:=I.dr p _ hk;exact⟨o,e,ex⟩
   obtain⟨o,e,ex⟩:=z;refine⟨⟨o,e,ex.1⟩,fun a e2=>?_⟩;cases e2;exact⟨o,e,ex.2.1⟩
  ·obtain⟨o,_,_,_,e,ex,_⟩:=I.dr p _ hk;refine⟨⟨o,e,ex.1⟩,fun a e2=>?_⟩;cases e2;exact⟨o,e,ex.2.1⟩
 | _=>exact bJ ty
variable {o e:Expr} {es:List Expr} {to:TE} {t:TA} {name:Str} {apos mn:Pos} {T id:String} {r:V->List V->Hp->VK->Prop}
/- xs.append(e),list.index on a HD tuple .. are NA facts of 06m -/
end
noncomputable def NB(X:Cx)(id:String)(r:V->List V->Hp->VK->Prop):Prop :=
 ∀ (pins:List (Addr×Obj)) (s:au) (σ:St) (H:Hp) (x:V) (xs:List V) (v:Value) (us:List Value) (Q:VK),Inv X pins σ H s->RelV x v->Vals xs us->r x xs H Q ->
  wpAny (model X.prog X.w) X.A (call (.builtin id) (v :: us)) (EP X pins σ Q) X.xe s
theorem Vals.one:∀ {x:V} {us:List Value},Vals [x] us->∃ u,us=[u]/\RelV x u:=by
 intro x us h;cases h with
 | cons r t=>cases t; exact⟨_,rfl,r⟩
section
variable {X:Cx} {pins:List (Addr×Obj)} {σ:St} {H:Hp} {s:au} {l b:Addr} {xs ys zs:List V}
theorem Inv.HG{cY its':List Value}{n:Nat}{f:Array Value->Array Value}{t':Nat}(I:Inv X pins σ H s)(hH:H l=some (.lst xs))
  (e:s.heap.get? l=some { cls:=.type "list",data:=.seq cY.toArray n }) (hf:f cY.toArray=its'.toArray) (hv:Vals ys its') (hz:ys.length<=aZ) :
  Inv X pins σ (upd H l (.lst ys)) { s with heap:=s.heap.update l (Obj.mapSeq f),toks:=t' }:=by
 have q:=PySem.IsL.update e f;rw [hf] at q;refine I.write (x:=l) (e:=l) (by rw [hH]; exact trivial) (.inl rfl) (fun b' u hb hu=>(o8 s.heap (Obj.mapSeq f) (Ds hb)).trans hu) ⟨_,q⟩ ?_;exact⟨hz,its',_,hv,q⟩
theorem Inv.JN{cY:List Value}{t':Nat}(I:Inv X pins σ H s)(hv:Vals ys cY)(hz:ys.length<=aZ) :
  Inv X pins σ (upd H s.heap.objs.size (.lst ys)) { s with heap:=s.heap.push { cls:=.type "list",data:=.seq cY.toArray },toks:=t' } :=
 I.laid (fun _ _ q=>aM _ q) (ck _) ⟨hz,cY,0,hv,da _ rfl⟩
theorem Inv.HF (I:Inv X pins σ H s) (hH:H l=some (.lst xs)):xs.length<=aZ/\∃ (cY:List Value) (n:Nat),Vals xs cY/\xs.length=cY.length/\s.heap.get? l=some { cls:=.type "list",data:=.seq cY.toArray n }:=by
 obtain⟨z,cY,n,r,e⟩:=I.dr l _ hH;exact⟨z,cY,n,r,r.length,e⟩
theorem Ce{n:Nat}(h:n<=aZ):ie n=false:=by
 unfold ie;exact decide_eq_false (by lia)
end
section
variable {X:Cx}
noncomputable def D0:V->List V->Hp->VK->Prop:=fun x vs H Q=>∃ l xs y,x=.ref l/\vs=[y]/\H l=some (.lst xs)/\xs.length < aZ/\Q .l7 (upd H l (.lst (xs++[y])))
theorem AM:NB X "list.append" D0:=by
 intro pins s σ H x vs v us Q I rx rv h;obtain⟨l,xs,y,rfl,rfl,hH,hz,q⟩:=h;cases rx;obtain⟨u,rfl,ru⟩:=rv.one;obtain⟨z,cY,n,r,hl,e⟩:=I.HF hH;refine call_meets F.slot_list_append ⟨_,e,rfl⟩ F.entry_list_append (F.args_list_append_2 _ _) (PySem.list_append l cY.toArray n u (by rw [bx]; lia)) ⟨e,?_⟩;refine⟨.l7,_,I.HG (its':=cY++[u]) hH e (by simp) (r.append (.cons ru .nil)) ?_,rfl,q⟩;rw [bZ,Du];lia
end
section
variable {κ:Type} [DecidableEq κ]
noncomputable def lV(bF:List (κ×V))(k:κ):Option V:=(bF.find? fun kv=>decide (kv.1=k)).map (·.2)
theorem pw{p:κ×V}{r:List (κ×V)}{k:κ}(e:p.1=k):lV (p :: r) k=some p.2:=by simp [lV,k8,e]
theorem px{p:κ×V}{r:List (κ×V)}{k:κ}(e:¬ p.1=k):lV (p :: r) k=lV r k:=by simp [lV,k8,e]
theorem KV.val{bF:List (κ×V)}{vs:List (κ×Value)}(r:KV bF vs)(k:κ):rf (lV bF k) (Bp vs k):=by
 unfold KV at r;induction r with
 | nil=>exact dA
 | @cons p q ps qs h t ih =>
  obtain⟨h1,h2⟩:=h;by_cases e:p.1=k
  ·have e':q.1=k:=h1.symm.trans e;have b:Bp (q :: qs) k=some q.2:=by simp [Bp,k8,e']
   rw [pw e,b]; exact h2
  ·have e':¬ q.1=k:=fun z=>e (h1.trans z);have b:Bp (q :: qs) k=Bp qs k:=by simp [Bp,k8,e']
   rw [px e,b]; exact ih
theorem KV.length{bF:List (κ×V)}{vs:List (κ×Value)}(r:KV bF vs):bF.length=vs.length:=yG r
end
theorem EY{P:bo}{w:World}{k:Key}{u:Value}(r:RelV (kV k) u):(dQ P w).is k u=true:=by
 cases k with
 | inl i=>obtain⟨t,e⟩:=(show ∃ t,u=Br i t from r); subst e; exact v9 P w i t
 | inr x=>obtain⟨t,e⟩:=(show ∃ t,u=vq x t from r); subst e; exact v8 P w x t
theorem tK{P:bo}{w:World}:∀ {ks:List Key} {us:List Value},Vals (ks.map kV) us->ItemsAre (dQ P w) ks us
 | [],_,r=>by rw [fh] at r; cases r; exact .nil
 | k :: ks,_,r=>by
  rw [cF] at r;cases r with
  | cons h t=>exact .cons (EY h) (tK t)
noncomputable abbrev KT(H:Hp):List (List Key×V)->List (List Key×Addr×Value)->Prop:=Paired fun p q=>p.1=q.1/\H q.2.1=some (.tup (p.1.map kV))/\RelV p.2 q.2.2
theorem KT.val{H:Hp}{bF:List (List Key×V)}{xs:List (List Key×Addr×Value)}(r:KT H bF xs)(k:List Key):rf (lV bF k) ((atKey xs k).map (·.2)):=by
 induction r with
 | nil=>exact dA
 | @cons p q ps qs h t ih =>
  obtain⟨h1,_,h2⟩:=h;by_cases e:p.1=k
  ·have e':q.1=k:=h1.symm.trans e;have b:atKey (q :: qs) k=some q.2:=by simp [atKey,k8,e']
   rw [pw e,b]; exact h2
  ·have e':¬ q.1=k:=fun z=>e (h1.trans z);have b:atKey (q :: qs) k=atKey qs k:=by simp [atKey,k8,e']
   rw [px e,b]; exact ih
section
variable {P:bo} {w:World} {H:Hp} {h:Heap} {a:Addr}
theorem EV{u:HO}(ok:pf P w H h)(e:Rd H a u):dH P w H h a u:=e.ok ok
theorem tR{bF:List (Key×V)}(ok:pf P w H h)(e:Rd H a (.dK bF)):bF.length<=aZ/\(a == pj)=false/\∃ vs,KV bF vs/\h.DictOf (dQ P w) a vs :=
 show dH P w H h a (.dK bF) from EV ok e
theorem CW{bF:List (Key×V)}(ok:pf P w H h)(e:H a=some (.dK bF)):bF.length<=aZ/\(a == pj)=false/\∃ vs,KV bF vs/\h.DictOf (dQ P w) a vs:=tR ok (.inl e)
theorem Cq{ks:List Key}(ok:pf P w H h)(e:H a=some (.tup (ks.map kV))):(Bq (dQ P w)).is h ks a:=by
 obtain⟨_,cY,r,o,h1,h2,n,h3⟩:=(show dH P w H h a (.tup (ks.map kV)) from ok a _ e);exact⟨o,cY.toArray,n,h1,h2,h3,by simpa using tK r⟩
theorem ze{bF:List (List Key×V)}(ok:pf P w H h)(e:Rd H a (.dT bF)):bF.length<=aZ/\(a == pj)=false /\
  ∃ xs,KT H bF xs/\h.DictOfH (Bq (dQ P w)) a xs:=by
 obtain⟨z,y,xs,r,o,es,ep,h1,h2,h3,h4,h5⟩:=(show dH P w H h a (.dT bF) from EV ok e);refine⟨z,y,xs,r,o,es,ep,h1,h2,h3,h4,fun x hx=>?_,h5⟩;have all:∀ {l:List (List Key×V)} {m:List (List Key×Addr×Value)},KT H l m->∀ x∈m,(Bq (dQ P w)).is h x.1 x.2.1:=by
  intro l m q;induction q with
  | nil=>intro x hx; exact nomatch hx
  | @cons p q ps qs hq t ih =>
   intro x hx;rcases List.mem_cons.mp hx with e | hx
   ·subst e;exact Cq ok (by rw [<-hq.1]; exact hq.2.1)
   ·exact ih x hx
 exact all r x hx
theorem Iy{bF:List (List Key×V)}(ok:pf P w H h)(e:H a=some (.dT bF)):bF.length<=aZ/\(a == pj)=false /\
  ∃ xs,KT H bF xs/\h.DictOfH (Bq (dQ P w)) a xs:=ze ok (.inl e)
end
noncomputable def wR(H:Hp)(a:Addr)(y:V)(r:Option V):Prop :=
 (∃ bF k,Rd H a (.dK bF)/\y=kV k/\r=lV bF k)\/∃ bF k b,Rd H a (.dT bF)/\y=.ref b/\H b=some (.tup (k.map kV))/\r=lV bF k
theorem wR.k{H:Hp}{a:Addr}{bF:List (Key×V)}{k:Key}(e:H a=some (.dK bF)):wR H a (kV k) (lV bF k):=.inl ⟨bF,k,.inl e,rfl,rfl⟩
theorem wR.t{H:Hp}{a b:Addr}{bF:List (List Key×V)}{k:List Key}(e:H a=some (.dT bF))(eb:H b=some (.tup (k.map kV))):wR H a (.ref b) (lV bF k):=.inr ⟨bF,k,b,.inl e,rfl,eb,rfl⟩
section
variable {X:Cx} {pins:List (Addr×Obj)} {σ:St} {H:Hp} {s:au} {a:Addr} {y v:V} {u r:Value} {o:Option V} {A:cZ} {E:Value->au->Prop}
theorem qC{Q:Value->au->Prop}(hu:A.units+1 < cLine)(I:Inv X pins σ H s)(g:wR H a y (some v))(ry:RelV y u)(h:∀ w' s',Inv X pins σ H s'->RelV v w'->Q w' s') :
  wpAny (model X.prog X.w) A (getItem (.ref a) u) Q E s:=by
 rcases g with ⟨bF,k,e,ey,l⟩ | ⟨bF,k,b,e,ey,eb,l⟩
 ·subst ey;obtain⟨z,hd,vs,rel,dd⟩:=tR I.dr e;obtain⟨w',hw,sN⟩:=rf.some_of (v:=v) (o:=Bp vs k) (by rw [l]; exact rel.val k);exact wpAny_getItem_of (EY ry) dd.mapOf hw (h w' _ (I.tok _) sN)
 ·subst ey;cases (show u=fm b from ry);obtain⟨z,hd,xs,rel,dd⟩:=ze I.dr e;obtain⟨w',hw,sN⟩:=rf.some_of (v:=v) (o:=(atKey xs k).map (·.2)) (by rw [l]; exact rel.val k);obtain⟨p,hp,ML⟩:=Option.map_eq_some_iff.mp hw;refine wpAny_getItem_heap (tupleKind_room_in1 hu) (Cq I.dr eb) dd hp ?_;rw [ML];exact h w' _ (I.tok _) sN
end
section
variable {X:Cx} {pins:List (Addr×Obj)} {σ:St} {H:Hp} {s:au} {a:Addr} {bF:List (Key×V)} {k:Key} {u:Value} {A:cZ} {E:Value->au->Prop}
theorem E7 {Q:Value->au->Prop} (I:Inv X pins σ H s) (e:Rd H a (.dK bF)) (h:∀ t s',Inv X pins σ H s'->Q (.int bF.length t) s'):wpAny (model X.prog X.w) A (call (.builtin "len") [.ref a]) Q E s:=by
 obtain⟨z,hd,vs,rel,dd⟩:=tR I.dr e;refine call_len_dict hd dd (by rw [<-rel.length]; rw [bR] at z; lia) ?_;rw [<-rel.length];exact h _ _ (I.tok _)
theorem Ep{Q:Bool->au->Prop}(I:Inv X pins σ H s)(e:Rd H a (.dK bF))(h:∀ s',Inv X pins σ H s'->Q (!bF.isEmpty) s'):wpAny (model X.prog X.w) A (truthy (.ref a)) Q E s:=by
 obtain⟨z,hd,vs,rel,dd⟩:=tR I.dr e;refine w8 hd dd (by rw [<-rel.length]; rw [bR] at z; lia) ?_;have q:bF.isEmpty=vs.isEmpty:=by cases rel <;> rfl
 rw [<-q];exact h _ (I.tok _)
end
theorem n4 {X:Cx} {pins:List (Addr×Obj)} {σ:St} {H:Hp} {s:au} {a:Addr} {y:V} {o:Option V} (I:Inv X pins σ H s) (g:wR H a y o):s.TypeIs (.ref a) "dict":=by
 rcases g with ⟨bF,k,e,_,_⟩ | ⟨bF,k,b,e,_,_,_⟩
 ·obtain⟨_,_,vs,_,dd⟩:=tR I.dr e;exact dd.typeIs
 ·obtain⟨_,_,xs,_,dd⟩:=ze I.dr e;exact dd.typeIs
structure M1(X:Cx)(o:Expr)(m:Str)(apos:Pos)(e:Expr)(mn:Pos):Prop where
 base:qf o m X.env (eval o X.env)=eval o X.env
 Nj:((i4 mn (aX [e] X.env)).all (fun x=>!x.1)&&(backToKw mn (t7 [] X.env)).all (fun x=>x.1.isSome)
  && decide (([e]:List Expr).length+([]:List By).length+(if ([]:List By).isEmpty then 0 else 1) < 30))=true
 line:(apos.endLine == mn.line)=true
 trees:i4 mn (aX [e] X.env)=[(false,eval e X.env)]
structure M2(X:Cx)(o:Expr)(m:Str)(apos:Pos)(e f:Expr)(mn:Pos):Prop where
 base:qf o m X.env (eval o X.env)=eval o X.env
 Nj:((i4 mn (aX [e,f] X.env)).all (fun x=>!x.1)&&(backToKw mn (t7 [] X.env)).all (fun x=>x.1.isSome)
  && decide (([e,f]:List Expr).length+([]:List By).length+(if ([]:List By).isEmpty then 0 else 1) < 30))=true
 line:(apos.endLine == mn.line)=true
 trees:i4 mn (aX [e,f] X.env)=[(false,eval e X.env),(false,eval f X.env)]
end L2
namespace LJ
open PySem PySem.W PySem.Calls PyProof.Rows
theorem qZ{P:mx}{h:Heap}:∀ (ns:List Int) (vs:List Value),WellAll P h vs (ns.map WData.int)->mO vs ns:=by
 intro ns;induction ns with
 | nil =>
  intro vs w;rw [fh] at w;cases w;exact .nil
 | cons n ns ih =>
  intro vs w;rw [cF] at w;cases w with
  | cons a b =>
   cases a;exact .cons _ _ (ih _ b)
theorem Av{l:OpenLaw}{n:Nat}(hn:l.most=some n){P:mx}{h:Heap}{args:List WData}{vals:List Value}
  (Eh:l.row.toRowW.claim.pre args=true) (GQ:WellAll P h vals args) :
  ∃ a vs ns,vals=[fm a]/\args=[WData.list (ns.map WData.int)]/\h.get? a=some { cls:=.type "list",data:=.seq vs.toArray }/\mO vs ns/\ns.length<=n:=by
 have MF:WShape.hasAll [] args [.list .int]=true:=(pre_splitW Eh).1;have hc:l.pre.holds [] { args:=args } = true:=(pre_splitW Eh).2;obtain⟨d,r,rfl,h1,h2⟩:=hasAllW_cons MF;obtain rfl:=hasAllW_nil h2;obtain⟨xs,rfl,h3⟩:=hasW_list h1;obtain⟨ns,rfl⟩:=items_int h3;have hlen:ns.length<=n:=by
  unfold OpenLaw.pre at hc;have h4:(WTm.not (.lt (.lit (.int (n:Int))) (.len (.arg 0)))).holds [] { args:=[.list (ns.map .int)] } = true:=by
   have h4:=(holds_andW hc).1;rw [hn] at h4;exact h4
  have h5:=condW_of h4 (w_not (w_lt w_lit (w_len_list (w_arg rfl))));rw [cO] at h5;refine Nat.le_of_not_lt fun q=>?_;have q':(n:Int) < ((ns.length:Nat):Int):=by lia
  first
   | (rw [decide_eq_true q'] at h5; exact absurd h5 (by decide))
   | (simp at h5; lia)
 cases GQ with
 | cons w1 w2 =>
  cases w2;cases w1 with
  | list ho uW=>exact⟨_,_,ns,rfl,rfl,ho,qZ ns _ uW,hlen⟩
theorem Ay(l:OpenLaw)(args:List WData):l.row.toRowW.claim.post args (.bool true) args=true :=
 postW_of (r:=l.row.toRowW) (X:=(true == true))
  (show WShape.has [] (.bool true) .bool=true by first | rfl | decide | simp [WShape.has,WShape.arms,WShape.armsAll])
  (show (WTm.eq .res (.lit (.bool true))).value [] { args:=args,res:=some (.bool true),after:=args } = some (.bool (true == true)) from w_eq_bool (w_res rfl) w_lit) rfl
theorem wL{l:OpenLaw}{n:Nat}{q:bo}{loose:List Str}{XP:(Str->Option Value)->Heap->Prop}{YP:World->Heap->Prop}{d:DefRec}
  (hn:l.most=some n) (Ia:d.params.defaults=[])
  (call:∀ (w:World) (l6 cS:au) (mg mb:Str->Option Value) (fa:Addr) (o:Obj) (pm cd doc:Value) (a:Addr) (vs:List Value) (ns:List Int),
   Ground q loose [] XP w l6 mg mb cS.heap->YP w cS.heap ->
   cS.heap.get? fa=some o->o.data=.func (docDef d.name d.params d.body d.scope pm cd doc)->cS.heap.CodeRec cd d.name->mg d.name=some (.ref fa) ->
   cS.heap.get? a=some { cls:=.type "list",data:=.seq vs.toArray }->mO vs ns->ns.length<=n->cS.gens=#[] ->
   oN (model l.prog w) xf (.call (.ref fa) ⟨[.ref a],[]⟩) (fun r s'=>r=.ok (.ret (.bool true))/\OldK cS.heap s'.heap/\s'.os=cS.os/\t9 s'.gens) cS) :
  WalkO q loose XP YP l.row.toRowW d [] (fun f vs=>yD f vs):=by
 intro w l6 cS mg mb G Y fa o pm cd doc dV kV ho hd w7 hD HR hg args vals as Eh MS NQ GQ NS;obtain rfl:dV=.none:=Dflts.none hD Ia;obtain rfl:kV=.none:=Dflts.noKw hD;obtain⟨a,vs,ns,rfl,rfl,F8,hints,hlen⟩:=Av hn Eh GQ;refine enter_call (oG (call w l6 cS mg mb fa o pm cd doc a vs ns G Y ho (fd_plain hd) w7 HR F8 hints hlen hg) fun r s' hq=>?_);obtain⟨rfl,h2,h3,h4⟩:=hq;exact⟨.inl ⟨.bool true,.bool true,[],rfl,fun _=>rfl,.bool true,Ay l _,fun _=>⟨List.Pairwise.nil,fun _ hm=>(nomatch hm)⟩⟩,h2,h3,h4⟩
end LJ
namespace L2
open PySem PySem.Spec PyProof.Rows
theorem tv:∀ {vs:List Value} {ns:List Int},mO vs ns->Vals (ns.map V.int) vs
 | _,_,.nil=>.nil
 | _,_,.cons n t h=>.cons ⟨t,rfl⟩ (tv h)
noncomputable def EH(H:Hp):Prop:=∀ b,H b=none\/∃ o xs,H b=some (.la o (.lst xs))
theorem Co{P:bo}{w:World}{K:af}{mg mb:Str->Option Value}{CX:Be}{k:Nat}{fa a:Addr}{fd:bh}{x:Str}{sp:Sp}{cS:au}{vs:List Value}{ns:List Int}
  (KX:K.In cS.heap) (yj:cS.heap.Ns ao mg) (hb:cS.heap.Ns builtinsNs mb) (M7:∀ x:Str,x≠"__name__"->mb x=i7 x) (Kc:cS.heap.NoLimit) (hg:cS.gens=#[])
  (ha:cS.heap.get? a=some { cls:=.type "list",data:=.seq vs.toArray }) (hi:mO vs ns) (hl:ns.length<=aZ) (hr:jU k xf)
  (F:∀ base:Heap,K.In base->base.Ns ao mg->l4 P w K mg base CX k fa fd [x] sp) (Ih:∀ (s:au) (u:Value),Bz s fd ⟨[u],[]⟩ [(x,u)])
  (AU:∀ H:Hp,EH H->zj K H a (ns.map V.int)->sp [.ref a] H (fun v _=>v=.bl true) fun _ _ _=>False)
  (Ky:∀ H e s',CX [] H cS (fun _ _ _=>False) e s'->False) :
  oN (model P w) xf (.call (.ref fa) ⟨[.ref a],[]⟩) (fun r s'=>r=.ok (.ret (.bool true))/\OldK cS.heap s'.heap/\s'.os=cS.os/\t9 s'.gens) cS:=by
 have rv:=tv hi;have JO:=hi.length;have core:∀ H:Hp,EH H->zj K H a (ns.map V.int)->pf P w H cS.heap->(∀ b,H b≠none->b=a)->(H a≠none->K.lookup a=none) ->
   oN (model P w) xf (.call (.ref fa) ⟨[.ref a],[]⟩) (fun r s'=>r=.ok (.ret (.bool true))/\OldK cS.heap s'.heap/\s'.os=cS.os/\t9 s'.gens) cS:=by
  intro H hO hS dr hA hK;have zh:∀ {b:Addr} {o:Obj},cS.heap.get? b=some o->H b=none->(uU cS.heap H).get? b=some o:=fun e n=>CB e n;have HA:∀ {b:Addr} {o:Obj} {es:Array DictEntry} {ep:Nat},cS.heap.get? b=some o->o.data=.dict es ep->H b=none:=fun {b o es ep} e d=>by
   cases q:H b with
   | none=>rfl
   | some u =>
    have e':b=a:=hA b (by rw [q]; simp);subst e';rw [ha] at e; cases e;have d':Data.seq vs.toArray _=Data.dict es ep:=d;cases d'
  have IX:∀ {b:Addr} {m:Str->Option Value},cS.heap.Ns b m->(uU cS.heap H).Ns b m:=fun {b m} ⟨o,es,ep,e,d,r⟩=>⟨o,es,ep,zh e (HA e d),d,r⟩;have Ln:K.In (uU cS.heap H):=fun b o e=>zh (KX b o e) (by
   cases q:H b with
   | none=>rfl
   | some u =>
    have e':b=a:=hA b (by rw [q]; simp);subst e';rw [hK (by rw [q]; simp)] at e; cases e)
  have hM:Mod K mg (uU cS.heap H):=⟨Ln,IX yj,⟨mb,IX hb,M7⟩,let ⟨mc,h1,h2⟩:=Kc; ⟨mc,IX h1,h2⟩⟩;have e0:yw P w K mg (uU cS.heap H) xf [] cS H:=⟨rfl,hM,fun b o e=>Ea e,Nat.le_of_eq (AV _ _),trivial,fun b hb=>absurd (show b∈([]:List Addr) from hb) (by simp),dr,.of_eq hg⟩;refine oG ((F _ Ln (IX yj)).run xf [] cS H ⟨[.ref a],[]⟩ [.ref a] [.ref a] _ _ hr e0 (Ih cS (.ref a)) (.cons rfl .nil) (AU H hO hS)) fun r s' h=>?_;cases r with
  | error e=>exact(Ky H e s' h).elim
  | ok fl =>
   cases fl with
   | next=>exact bJ h
   | brk=>exact bJ h
   | cont=>exact bJ h
   | ret u =>
    obtain⟨v,H',os,bare,un,J3,r',q⟩:=h;have q':v=.bl true:=q;subst q';obtain rfl:u=yC true:=r';refine⟨rfl,OldK.of_keep fun b o e=>?_,os,bare⟩;cases q:H b with
    | none=>exact un.keep b o e q (by intro z; exact absurd (show b∈([]:List Addr) from z) (by simp)) (by simp)
    | some u =>
     rcases hO b with z | ⟨ob,xs,z⟩
     ·rw [q] at z; cases z
     ·have z2:=un.si b ob _ z;obtain⟨e1,_⟩:=dr b _ z;obtain⟨e2,_⟩:=J3 b _ z2;rw [e] at e1; cases e1;exact e2
 cases hk:K.lookup a with
 | some o =>
  have e:=KX a o hk;rw [ha] at e;cases e;refine core (fun _=>none) (fun _=>.inl rfl) (.inr ⟨_,vs.toArray,_,hk,rfl,rfl,rfl,by rw [bx,JO]; exact hl,by simpa using rv⟩) (fun b u z=>by have z':(none:Option HO)=some u:=z; cases z') (fun b z=>absurd rfl z) fun z=>absurd rfl z
 | none =>
  refine core (fun b=>if b=a then some (.la { cls:=.type "list",data:=.seq vs.toArray } (.lst (ns.map V.int))) else none) (fun b=>?_) (.inl (.inr ⟨{ cls:=.type "list",data:=.seq vs.toArray },if_pos rfl⟩)) (fun b u z=>?_) (fun b z=>?_) fun _=>hk
  ·by_cases hb:b=a
   ·exact .inr ⟨_,_,if_pos hb⟩
   ·exact .inl (if_neg hb)
  ·by_cases hb:b=a
   ·have z':=(if_pos hb).symm.trans z;cases z';subst hb;exact⟨ha,by rw [cO]; exact hl,vs,_,rv,ha⟩
   ·have z':=(if_neg hb).symm.trans z;cases z'
  ·by_cases hb:b=a
   ·exact hb
   ·exact absurd (if_neg hb) z
theorem DT{l:t8}{n k:Nat}{q:bo}{loose:List Str}{XP:(Str->Option Value)->Heap->Prop}{YP:World->Heap->Prop}{d:DefRec}{K:mx->af}{CX:World->Be}{sp:World->Sp}{x:Str}
  (hn:l.most=some n) (Ja:n<=aZ) (Ia:d.params.defaults=[]) (hr:jU k xf)
  (hY:∀ (w:World) (h:Heap),YP w h->(K w.params).In h)
  (F:∀ (w:World) (mg:Str->Option Value) (fa:Addr) (h:Heap),(K w.params).In h->h.Ns ao mg->mg d.name=some (.ref fa) ->
   ∃ fd:bh,(∀ (s:au) (u:Value),Bz s fd ⟨[u],[]⟩ [(x,u)]) /\
    ∀ base:Heap,(K w.params).In base->base.Ns ao mg->l4 l.prog w (K w.params) mg base (CX w) k fa fd [x] (sp w))
  (AU:∀ (w:World) (H:Hp) (a:Addr) (ns:List Int),ns.length<=n->EH H->zj (K w.params) H a (ns.map V.int)->sp w [.ref a] H (fun v _=>v=.bl true) fun _ _ _=>False)
  (Ky:∀ (w:World) (H:Hp) (s:au) (e:Value) (s':au),CX w [] H s (fun _ _ _=>False) e s'->False) :
  PySem.W.WalkO q loose XP YP l.row.toRowW d [] (fun f vs=>yD f vs):=by
 refine LJ.wL hn Ia fun w l6 cS mg mb fa o pm cd doc a vs ns G Y ho hd w7 HR F8 hints hlen hg=>?_;have KX:=hY w _ Y;obtain⟨fd,hb,hF⟩:=F w mg fa _ KX G.T.g HR;exact Co KX G.T.g G.T.b G.T.builtins G.T.nolimit hg F8 hints (b8 hlen Ja) hr hF hb (fun H hO hS=>AU w H a ns hlen hO hS) fun H e s'=>Ky w H cS e s'
end L2
/- N0 NC Jk (shape; N2,My.* are KQ):
   My.N7: a structure of KS addresses LR LO K8 names (classes,GU); My.Txt K t: a structure (Prop) of KS equations over K;
   My.Ju:{K} {implicit addresses ..} (e1:nsIn K ao "law" = some (some (.ref f))) (e2:K.lookup f=some ⟨oc,od,.func (fnOf "law" "law" params body scope dV kV doc pm an lO ct),sl⟩) (e3:codeIn K lO "law" = true) ..:∃ t,My.Txt K t
(KS tactic k_is has no namespace: write k_is) -/
namespace L2
open PySem PySem.Spec PyProof.Rows
noncomputable def ic(s:Stmt):Arguments:=match s with
 | .FunctionDef _ a _ _ _ _ _ _ _ _=>a
 | _=>{ posonlyargs:=[],args:=[],vararg:=none,kwonlyargs:=[],kw_defaults:=[],kwarg:=none,defaults:=[] }
noncomputable def dw(s:Stmt):List Stmt:=match s with
 | .FunctionDef _ _ b _ _ _ _ _ _ _=>b
 | _=>[]
noncomputable def bw(s:Stmt):Scope:=match s with
 | .FunctionDef _ _ _ _ _ _ sc _ _ _=>sc
 | _=>{ kind:=.function,names:=[],isGenerator:=false,isCoroutine:=false }
noncomputable abbrev qd:Be:=fun _ _ _ _ _ _=>False
noncomputable abbrev E0:XK:=fun _ _ _=>False
theorem Ht{X:Cx}:Passes qd X E0:=fun _ _ _ _ _ _ _ h=>h.elim
structure yv(K:af)(x qual:Str)(st:Stmt)(f:Addr)(fd:bh):Prop where
 ex:∃ (oc:Value) (od:Option Addr) (kV doc pm:Value) (an:Option Addr) (lO ct:Value) (AI:Array (Option Value)),
  fd=fZ x qual (ic st) (dw st) (bw st) .none kV doc pm an lO ct/\K.lookup f=some ⟨oc,od,.func fd,AI⟩/\vr K lO qual=true
 kp:fk K (.ref f)=true
section
variable {P:bo} {w:World} {K:af} {mg:Str->Option Value} {base:Heap}
theorem yv.ok{x qual:Str}{st:Stmt}{f:Addr}{fd:bh}{N ps:List Str}{k:Nat}{sp:Sp}(F:yv K x qual st f fd)(S:ff N ps (bw st))(len:∀ vs H Q E,sp vs H Q E->vs.length=ps.length)
  (wo:∀ (lO:Value) (A:cZ) (outer:List Env) (s:au) (H:Hp) (vs:List V) (Q:VK) (E:XK),jU k (A.deeper (tu qual (bw st) s.heap.objs.size f lO))->sp vs H Q E ->
   ∃ t,DG (u7 qd P w K mg base N qual (bw st) f lO A outer s H E).FI (dw st) t/\t { nx:=fun _ H'=>Q .l7 H',rt:=Q } (start N vs) H):l4 P w K mg base qd (k+1) f fd ps sp:=by
 obtain⟨oc,od,kV,doc,pm,an,lO,ct,AI,rfl,lk,w7⟩:=F.ex;refine Iu lk w7 S len fun A outer s H vs Q E hr AU=>?_;obtain⟨t,h,q⟩:=wo lO A outer s H vs Q E hr AU;exact⟨t,h.FI,q⟩
theorem yv.binds{x qual:Str}{st:Stmt}{f:Addr}{fd:bh}{ps:List Str}(F:yv K x qual st f fd)
  (h:∀ (kV doc pm:Value) (an:Option Addr) (lO ct:Value) (us:List Value),us.length=ps.length->bindArgs (fZ x qual (ic st) (dw st) (bw st) .none kV doc pm an lO ct) ⟨us,[]⟩=pure (ps.zip us)):Binds K fd ps []:=by
 obtain⟨oc,od,kV,doc,pm,an,lO,ct,AI,rfl,lk,w7⟩:=F.ex;exact .all (h kV doc pm an lO ct)
theorem CJ{x qual:Str}{st:Stmt}{f:Addr}{oc:Value}{od an:Option Addr}{AI:Array (Option Value)}{kV doc pm lO ct:Value}(l:K.lookup f=some ⟨oc,od,.func (fZ x qual (ic st) (dw st) (bw st) .none kV doc pm an lO ct),AI⟩)
  (c:vr K lO qual=true) (k:fk K (.ref f)=true):yv K x qual st f (fZ x qual (ic st) (dw st) (bw st) .none kV doc pm an lO ct):=⟨⟨oc,od,kV,doc,pm,an,lO,ct,AI,rfl,l,c⟩,k⟩
end
section
variable {X:Cx}
theorem pv (i:Nat) {x:Str} {pos:Pos} (hN:autoParam (X.N[i]?=some x) Ar._auto_1) (hv:autoParam (IC X.env.scope x) Ao._auto_1) (hd:autoParam ((x == ("__debug__" : Str))=false) Ad._auto_1)
  (w7:autoParam ((x == ("__classdict__" : Str))=false) Ad._auto_1):PE X (.Name x pos) (xS i):=Ca hN hv hd w7
end
end L2
set_option autoImplicit false
section
namespace K2
open PySem (Str)
inductive D where
 | l7 | bl (b:Bool) | int (i:Int) | str (x:Str) | tup (ds:List D) | dB (ds:List D) | w6 (bF:List (D×D)) | ref (a:Nat) | exc (c:Str) | pW (c:Str) (ns:List Str) (ds:List D)
 deriving Inhabited
inductive GO where
 | lst (ds:List D)
 | sV (bF:List (D×D))
 | ins (c:Str) (fs:List (Str×D))
noncomputable abbrev Gp:=Nat->Option GO
noncomputable def mP(G:Gp)(a:Nat)(o:GO):Gp:=fun b=>if b=a then some o else G b
theorem eC{G:Gp}{a:Nat}{o:GO}:mP G a o a=some o:=by unfold mP; rw [if_pos rfl]
theorem ib{G:Gp}{a b:Nat}{o:GO}(h:b≠a):mP G a o b=G b:=by unfold mP; rw [if_neg h]
noncomputable abbrev SZ:Nat:=16777216
structure Ex where
 cls:Str
 Ni:List (Str×D)
noncomputable abbrev mr:=Ex->Gp->Prop
noncomputable abbrev i6:=List (Option D)
noncomputable abbrev DK:=D->Gp->Prop
noncomputable abbrev dM:=mr->i6->Gp->DK->Prop
noncomputable abbrev wN:=mr->i6->Gp->(Bool->Gp->Prop)->Prop
noncomputable abbrev vc:=mr->i6->Gp->(List D->Gp->Prop)->Prop
structure oa where
 nx:i6->Gp->Prop
 rt:DK
 bk:i6->Gp->Prop
 ct:i6->Gp->Prop
noncomputable abbrev pb:=mr->oa->i6->Gp->Prop
noncomputable abbrev Bn:=List D->Gp->DK->mr->Prop
noncomputable abbrev Dj:=D->D->Gp->DK->Prop
noncomputable def DB(n:Nat)(i:Int):Option Nat:=if 0<=i then (if i < n then some i.toNat else none) else if -(n:Int)<=i then some (i+n).toNat else none
noncomputable def rn{α:Type}(xs:List α)(i:Int):Option α:=(DB xs.length i).bind fun j=>xs[j]?
mutual
noncomputable def ml:D->D->Bool
 | .l7,.l7=>true
 | .bl a,.bl b=>a == b
 | .bl a,.int b=>(if a then 1 else 0) == b
 | .int a,.bl b=>a == (if b then 1 else 0)
 | .int a,.int b=>a == b
 | .str a,.str b=>a == b
 | .tup a,.tup b=>kZ a b
 | .dB a,.dB b=>kZ a b
 | _,_=>false
noncomputable def kZ:List D->List D->Bool
 | [],[]=>true
 | a :: r,b :: t=>ml a b&&kZ r t
 | _,_=>false
end
mutual
noncomputable def nr:D->Bool
 | .ref _=>false
 | .exc _=>false
 | .pW _ _ _=>false
 | .w6 _=>false
 | .str x=>x.cps.all (· < 0x110000)
 | .tup ds=>AK ds
 | .dB ds=>AK ds
 | _=>true
noncomputable def AK:List D->Bool
 | []=>true
 | d :: r=>nr d&&AK r
end
class inductive Sn (G:Gp):Nat->D->D->Prop
 | l7 {n:Nat}:Sn G n .l7 .l7
 | bl {n:Nat} (b:Bool):Sn G n (.bl b) (.bl b)
 | int {n:Nat} (i:Int):Sn G n (.int i) (.int i)
 | str {n:Nat} (x:Str) (h:x.cps.all (· < 0x110000)=true):Sn G n (.str x) (.str x)
 | xR {n:Nat}:Sn G (n+1) (.tup []) (.tup [])
 | nM {n:Nat} {d s:D} {ds ss:List D}:Sn G n d s->Sn G (n+1) (.tup ds) (.tup ss)->Sn G (n+1) (.tup (d :: ds)) (.tup (s :: ss))
 | BW {n:Nat}:Sn G (n+1) (.dB []) (.dB [])
 | vU {n:Nat} {d s:D} {ds ss:List D}:Sn G n d s->Sn G (n+1) (.dB ds) (.dB ss)->Sn G (n+1) (.dB (d :: ds)) (.dB (s :: ss))
 | ref {n:Nat} {a:Nat} {ds ss:List D}:G a=some (.lst ds)->Sn G n (.dB ds) (.dB ss)->Sn G n (.ref a) (.dB ss)
noncomputable abbrev SN:Nat:=8
theorem Sn.nr{G:Gp}{n:Nat}{d t:D}(h:Sn G n d t):K2.nr t=true:=by
 induction h with
 | l7=>rfl
 | bl b=>rfl
 | int i=>rfl
 | str x h=>exact h
 | xR=>rfl
 | nM _ _ Cv Cu =>
  show (K2.nr _&&K2.AK _)=true;rw [Cv];exact Cu
 | BW=>rfl
 | vU _ _ Cv Cu =>
  show (K2.nr _&&K2.AK _)=true;rw [Cv];exact Cu
 | ref _ _ ih=>exact ih
noncomputable def dj:D->Bool
 | .int _=>true
 | .str _=>true
 | _=>false
noncomputable def BO:D->Gp->Option Bool
 | .l7,_=>some false
 | .bl b,_=>some b
 | .int i,_=>some (i != 0)
 | .str x,_=>if x.length<=SZ then some ((x.length:Int) != 0) else none
 | .tup ds,_=>some (!ds.isEmpty)
 | .dB ds,_=>some (!ds.isEmpty)
 | .exc _,_=>none
 | .pW _ _ _,_=>none
 | .w6 bF,_=>if (bF.all fun p=>dj p.1)=true then some (!bF.isEmpty) else none
 | .ref a,G=>match G a with
  | some (.lst ds)=>some (!ds.isEmpty)
  | some (.sV bF)=>if (bF.all fun p=>dj p.1)=true then some (!bF.isEmpty) else none
  | _=>none
noncomputable def a9(i:Nat):dM:=fun _ τ G Q=>match τ[i]? with
 | some (some d)=>Q d G
 | _=>False
noncomputable def dC(d:D):dM:=fun _ _ G Q=>Q d G
noncomputable def cq:vc:=fun _ _ G Q=>Q [] G
noncomputable def aQ(a:dM)(r:vc):vc:=fun E τ G Q=>a E τ G fun x G1=>r E τ G1 fun xs G2=>Q (x :: xs) G2
noncomputable def o1(t:vc):dM:=fun E τ G Q=>t E τ G fun ds G1=>ds.length<=SZ/\∀ p,G1 p=none->Q (.ref p) (mP G1 p (.lst ds))
noncomputable def cV(r:Dj)(a b:dM):dM:=fun E τ G Q=>a E τ G fun x G1=>b E τ G1 fun y G2=>r x y G2 Q
noncomputable def wF(G:Gp)(o:GO)(Q:DK):Prop:=∀ p,G p=none->Q (.ref p) (mP G p o)
noncomputable def r0:D->Gp->Option (List D)
 | .dB ds,_=>some ds
 | .ref a,G=>match G a with
  | some (.lst ds)=>some ds
  | _=>none
 | _,_=>none
noncomputable def Dh(x y:D)(G:Gp)(Q:DK):Prop:=match r0 x G,r0 y G with
 | some xs,some ys=>xs.length+ys.length<=SZ/\wF G (.lst (xs++ys)) Q
 | _,_=>False
noncomputable def xW:Dj
 | .int i,.int j,G,Q=>Q (.int (i+j)) G
 | .str a,.str b,G,Q=>a.length+b.length<=SZ/\Q (.str (a++b)) G
 | .tup a,.tup b,G,Q=>a≠[]/\a.length+b.length<=SZ/\Q (.tup (a++b)) G
 | x,y,G,Q=>Dh x y G Q
noncomputable def xV:Dj
 | .int i,.int j,G,Q=>0 < j/\Q (.int (i % j)) G
 | _,_,_,_=>False
noncomputable def DZ(neg:Bool):Dj:=fun x y G Q=>∃ a b,Sn G SN x a/\Sn G SN y b/\Q (.bl (if neg then !ml a b else ml a b)) G
noncomputable def lexLt:List Int->List Int->Bool
 | [],[]=>false
 | [],_ :: _=>true
 | _ :: _,[]=>false
 | x :: xs,y :: ys=>if x=y then lexLt xs ys else decide (x < y)
noncomputable def JB:Dj
 | .int i,.int j,G,Q=>Q (.bl (decide (i < j))) G
 | .tup a,.tup b,G,Q=>∃ xs ys,a=xs.map D.int/\b=ys.map D.int/\Q (.bl (lexLt xs ys)) G
 | _,_,_,_=>False
noncomputable def oX:D->Bool
 | .tup ds=>ds.all dj
 | _=>false
noncomputable def nh(bF:List (D×D))(k:D):Bool:=(dj k&&bF.all fun p=>dj p.1)||(oX k&&bF.all fun p=>oX p.1)
noncomputable def look(bF:List (D×D))(k:D):Option D:=(bF.find? fun p=>ml p.1 k).map (·.2)
noncomputable def uH:Dj
 | .tup ds,.int i,G,Q=>(match rn ds i with
  | some d=>Q d G
  | none=>False)
 | .dB ds,.int i,G,Q=>(match rn ds i with
  | some d=>Q d G
  | none=>False)
 | .w6 bF,k,G,Q=>nh bF k=true/\(match look bF k with
  | some d=>Q d G
  | none=>False)
 | .ref a,k,G,Q=>(match G a with
  | some (.lst ds)=>(match k with
   | .int i=>(match rn ds i with
    | some d=>Q d G
    | none=>False)
   | _=>False)
  | some (.sV bF)=>nh bF k=true/\(match look bF k with
   | some d=>Q d G
   | none=>False)
  | _=>False)
 | _,_,_,_=>False
noncomputable abbrev IF:=mr->i6->Gp->(Option Int->Gp->Prop)->Prop
noncomputable def u5:IF:=fun _ _ G Q=>Q none G
noncomputable def C4(t:dM):IF:=fun E τ G Q=>t E τ G fun x G1=>match x with
 | .int i=>Q (some i) G1
 | _=>False
noncomputable def qD(a:dM):wN:=fun E τ G Q=>a E τ G fun x G1=>match BO x G1 with
 | some b=>Q b G1
 | none=>False
noncomputable def Er(a b:wN):wN:=fun E τ G Q=>a E τ G fun c G1=>if c=true then Q true G1 else b E τ G1 Q
noncomputable def wD(a:wN):wN:=fun E τ G Q=>a E τ G fun c G1=>Q (!c) G1
noncomputable def wI(a b:dM):dM:=fun E τ G Q=>a E τ G fun x G1=>match BO x G1 with
 | some true=>b E τ G1 Q
 | some false=>Q x G1
 | none=>False
noncomputable def C6(a:dM):dM:=fun E τ G Q=>a E τ G fun x G1=>match BO x G1 with
 | some c=>Q (.bl (!c)) G1
 | none=>False
noncomputable def hW(sp:Bn)(t:vc):dM:=fun E τ G Q=>t E τ G fun ds G1=>sp ds G1 Q fun _ _=>False
noncomputable def KC(r:List D->Gp->DK->Prop)(t:vc):dM:=fun E τ G Q=>t E τ G fun ds G1=>r ds G1 Q
noncomputable def DA(x:D)(G:Gp):Prop:=match x with
 | .ref a=>(match G a with
  | some (.lst _)=>True
  | _=>False)
 | .dB _=>True
 | _=>False
noncomputable def Es(ty:D->Gp->Prop)(r:D->List D->Gp->DK->Prop)(o:dM)(t:vc):dM:=fun E τ G Q=>o E τ G fun x G1=>ty x G1/\t E τ G1 fun ds G2=>r x ds G2 Q
noncomputable def lenOf:D->Gp->Option Nat
 | .tup ds,_=>some ds.length
 | .dB ds,_=>some ds.length
 | .str x,_=>if x.length<=SZ then some x.length else none
 | .w6 bF,_=>if (bF.all fun p=>dj p.1)=true then some bF.length else none
 | .ref a,G=>match G a with
  | some (.lst ds)=>some ds.length
  | some (.sV bF)=>if (bF.all fun p=>dj p.1)=true then some bF.length else none
  | _=>none
 | _,_=>none
noncomputable def EB(ds:List D)(G:Gp)(Q:DK):Prop:=match ds with
 | [x]=>(match lenOf x G with
  | some n=>Q (.int (n:Int)) G
  | none=>False)
 | _=>False
noncomputable def GN(C:String):D->Gp->Option Bool
 | .l7,_=>some false
 | .bl _,_=>some (C == "bool" || C == "int")
 | .int _,_=>some (C == "int")
 | .str _,_=>some (C == "str")
 | .tup _,_=>some (C == "tuple")
 | .dB _,_=>some (C == "list")
 | .w6 _,_=>some (C == "dict")
 | .exc _,_=>none
 | .pW _ _ _,_=>none
 | .ref a,G=>match G a with
  | some (.lst _)=>some (C == "list")
  | some (.sV _)=>some (C == "dict")
  | _=>none
noncomputable def Eu(C:String)(a:dM):dM:=fun E τ G Q=>a E τ G fun x G1=>match GN C x G1 with
 | some b=>Q (.bl b) G1
 | none=>False
noncomputable def kX(x:D)(ds:List D)(G:Gp)(Q:DK):Prop:=match x,ds with
 | .ref a,[y]=>(match G a,r0 y G with
  | some (.lst xs),some ys=>xs.length+ys.length<=SZ/\Q .l7 (mP G a (.lst (xs++ys)))
  | _,_=>False)
 | _,_=>False
noncomputable def oM:pb:=fun _ K τ G=>K.nx τ G
noncomputable def k6(a b:pb):pb:=fun E K τ G=>a E { K with nx:=b E K } τ G
noncomputable def n6(a:dM):pb:=fun E K τ G=>a E τ G fun _ G1=>K.nx τ G1
noncomputable def nq(a:dM):pb:=fun E K τ G=>a E τ G K.rt
noncomputable def sX(c:wN)(a b:pb):pb:=fun E K τ G=>c E τ G fun k G1=>if k=true then a E K τ G1 else b E K τ G1
noncomputable abbrev Bl:=mr->D->i6->Gp->(i6->Gp->Prop)->Prop
noncomputable def du(i:Nat):Bl:=fun _ d τ G Q=>Q (τ.set i (some d)) G
noncomputable def mJ(a:dM)(g:Bl):pb:=fun E K τ G=>a E τ G fun x G1=>g E x τ G1 K.nx
noncomputable abbrev GZ:=mr->i6->Gp->(List D->(Gp->Prop)->Gp->Prop)->Prop
noncomputable def i9(lo:Int)(n:Nat):List D:=(jZ n).map fun (i:Nat)=>D.int (lo+(i:Int))
noncomputable def wj(a:dM):GZ:=fun E τ G R=>a E τ G fun x G1=>match x with
 | .int n=>-(2 ^ 62)<=n/\n < 2 ^ 62/\R (i9 0 n.toNat) (fun _=>True) G1
 | _=>False
noncomputable def qN(g:Bl)(body:pb)(ok:Gp->Prop):List D->pb
 | []=>fun _ K τ G=>ok G/\K.nx τ G
 | d :: r=>fun E K τ G=>ok G/\g E d τ G fun vv G1=>body E { K with nx:=qN g body ok r E K,ct:=qN g body ok r E K,bk:=K.nx } vv G1
noncomputable def Gx(i:GZ)(g:Bl)(body:pb):pb:=fun E K τ G=>i E τ G fun ds ok G1=>qN g body ok ds E K τ G1
noncomputable def kS(g:Bl)(c:Option wN)(e:dM)(ok:Gp->Prop):List D->mr->i6->Gp->List D->(List D->Gp->Prop)->Prop
 | [],_,_,G,acc,Q=>ok G/\Q acc G
 | d :: r,E,τ,G,acc,Q=>ok G/\g E d τ G fun vv G1=>match c with
  | none=>e E vv G1 fun x G2=>kS g c e ok r E vv G2 (acc++[x]) Q
  | some c=>c E vv G1 fun k G2=>if k=true then e E vv G2 fun x G3=>kS g (some c) e ok r E vv G3 (acc++[x]) Q else kS g (some c) e ok r E vv G2 acc Q
noncomputable def o2(m:Nat)(fr:List Nat)(τ:i6):i6:=c1 m none++fr.map fun i=>(τ[i]?).getD none
noncomputable def tS(m:Nat)(fr:List Nat)(i:GZ)(g:Bl)(c:Option wN)(e:dM):dM:=fun E τ G Q =>
 i E τ G fun ds ok G1=>ds.length<=SZ/\kS g c e ok ds (fun _ _=>False) (o2 m fr τ) G1 [] fun xs G2=>wF G2 (.lst xs) Q
noncomputable def EI(G G':Gp):Prop:=∀ a o,G a=some o->G' a=some o
theorem EI.refl(G:Gp):EI G G:=fun _ _ h=>h
theorem EI.new{G:Gp}{p:Nat}{o:GO}(h:G p=none):EI G (mP G p o):=fun a ob e=>by
 by_cases ha:a=p
 ·subst ha; rw [h] at e; cases e
 ·rw [ib ha]; exact e
noncomputable def ends(Q:DK):oa:=⟨fun _ G=>Q .l7 G,Q,fun _ _=>False,fun _ _=>False⟩
noncomputable def ig(n:Nat)(ds:List D):i6:=ds.map some++c1 (n - ds.length) none
noncomputable def Cc(x:D)(G1:Gp)(Q:Option Int->Gp->Prop):Prop:=match x with
 | .int i=>Q (some i) G1
 | _=>False
noncomputable def vM(x:D)(G1:Gp)(Q:Bool->Gp->Prop):Prop:=match BO x G1 with
 | some b=>Q b G1
 | none=>False
noncomputable def EU(x:D)(G1:Gp)(R:List D->(Gp->Prop)->Gp->Prop):Prop:=match x with
 | .int n=>-(2 ^ 62)<=n/\n < 2 ^ 62/\R (i9 0 n.toNat) (fun _=>True) G1
 | _=>False
noncomputable def isAt(C:String)(x:D)(G1:Gp)(Q:DK):Prop:=match GN C x G1 with
 | some b=>Q (.bl b) G1
 | none=>False
theorem rO{i j:Int}{G:Gp}{Q:DK}:xW (.int i) (.int j) G Q=Q (.int (i+j)) G:=rfl
theorem nS{i j:Int}{G:Gp}{Q:DK}:xV (.int i) (.int j) G Q=(0 < j/\Q (.int (i % j)) G):=rfl
theorem DY{i j:Int}{G:Gp}{Q:DK}:JB (.int i) (.int j) G Q=Q (.bl (decide (i < j))) G:=rfl
theorem De{ds:List D}{G:Gp}{Q:DK}:EB [.dB ds] G Q=Q (.int (ds.length:Int)) G:=rfl
theorem C3{t:dM}{E:mr}{τ:i6}{G:Gp}{Q:Option Int->Gp->Prop}:C4 t E τ G Q=t E τ G fun x G1=>Cc x G1 Q:=rfl
theorem x6{i:Int}{G:Gp}{Q:Option Int->Gp->Prop}:Cc (.int i) G Q=Q (some i) G:=rfl
theorem rm{a:dM}{E:mr}{τ:i6}{G:Gp}{Q:Bool->Gp->Prop}:qD a E τ G Q=a E τ G fun x G1=>vM x G1 Q:=rfl
theorem eB{b:Bool}{G:Gp}{Q:Bool->Gp->Prop}:vM (.bl b) G Q=Q b G:=rfl
theorem sg{a:dM}{E:mr}{τ:i6}{G:Gp}{R:List D->(Gp->Prop)->Gp->Prop}:wj a E τ G R=a E τ G fun x G1=>EU x G1 R:=rfl
theorem ql{n:Int}{G:Gp}{R:List D->(Gp->Prop)->Gp->Prop}:EU (.int n) G R=(-(2 ^ 62)<=n/\n < 2 ^ 62/\R (i9 0 n.toNat) (fun _=>True) G):=rfl
theorem Et{C:String}{a:dM}{E:mr}{τ:i6}{G:Gp}{Q:DK}:Eu C a E τ G Q=a E τ G fun x G1=>isAt C x G1 Q:=rfl
theorem Ct {C:String} {i:Int} {G:Gp} {Q:DK}:isAt C (.int i) G Q=Q (.bl (C == "int")) G:=rfl
theorem wH{a b:dM}{E:mr}{τ:i6}{G:Gp}{Q:DK}:wI a b E τ G Q=a E τ G fun x G1=>vM x G1 fun k G2=>if k=true then b E τ G2 Q else Q x G2:=by
 unfold wI vM;refine congrArg (a E τ G) ?_;funext x G1;cases BO x G1 with
 | none=>rfl
 | some k=>cases k <;> simp
theorem C5{a:dM}{E:mr}{τ:i6}{G:Gp}{Q:DK}:C6 a E τ G Q=a E τ G fun x G1=>vM x G1 fun k G2=>Q (.bl (!k)) G2:=rfl
theorem B3{a:Nat}{y:D}{G:Gp}{Q:DK}:xW (.ref a) y G Q=Dh (.ref a) y G Q:=by cases y <;> rfl
theorem B2{a:List D}{y:D}{G:Gp}{Q:DK}:xW (.dB a) y G Q=Dh (.dB a) y G Q:=by cases y <;> rfl
theorem yQ{a:Nat}{k:D}{G:Gp}{Q:DK}:uH (.ref a) k G Q=(match G a with
  | some (.lst ds)=>(match k with
   | .int i=>(match rn ds i with
    | some d=>Q d G
    | none=>False)
   | _=>False)
  | some (.sV bF)=>nh bF k=true/\(match look bF k with
   | some d=>Q d G
   | none=>False)
  | _=>False):=by unfold uH; cases k <;> rfl
theorem B1{ds:List D}{i:Int}{G:Gp}{Q:DK}:uH (.tup ds) (.int i) G Q=(match rn ds i with
  | some d=>Q d G
  | none=>False):=rfl
theorem mC{ds:List D}{i:Int}{G:Gp}{Q:DK}:uH (.dB ds) (.int i) G Q=(match rn ds i with
  | some d=>Q d G
  | none=>False):=rfl
theorem wc{a:Nat}{y:D}{G:Gp}{Q:DK}:kX (.ref a) [y] G Q=(match G a,r0 y G with
  | some (.lst xs),some ys=>xs.length+ys.length<=SZ/\Q .l7 (mP G a (.lst (xs++ys)))
  | _,_=>False):=rfl
theorem DV{a:Nat}{G:Gp}:DA (.ref a) G=(match G a with
  | some (.lst _)=>True
  | _=>False):=rfl
theorem yP{bF:List (D×D)}{k:D}{G:Gp}{Q:DK}:uH (.w6 bF) k G Q=(nh bF k=true/\(match look bF k with
  | some d=>Q d G
  | none=>False)):=by unfold uH; cases k <;> rfl
end K2
end
section
namespace K2
open PySem (Str)
noncomputable def wz(R:Nat->Bool)(G:Gp):Gp:=fun a=>if R a=true then none else G a
mutual
inductive Fz (G:Gp) (R:Nat->Bool):D->D->Prop
 | same (d:D):Fz G R d d
 | tup {ds ss:List D}:Bo G R ds ss->Fz G R (.tup ds) (.tup ss)
 | dB {ds ss:List D}:Bo G R ds ss->Fz G R (.dB ds) (.dB ss)
 | ref {a:Nat} {ds ss:List D}:G a=some (.lst ds)->R a=true->Bo G R ds ss->Fz G R (.ref a) (.dB ss)
 | sV {a:Nat} {bF K9:List (D×D)}:G a=some (.sV bF)->R a=true->EJ G R bF K9->Fz G R (.ref a) (.w6 K9)
inductive Bo (G:Gp) (R:Nat->Bool):List D->List D->Prop
 | nil:Bo G R [] []
 | cons {d s:D} {ds ss:List D}:Fz G R d s->Bo G R ds ss->Bo G R (d :: ds) (s :: ss)
inductive EJ (G:Gp) (R:Nat->Bool):List (D×D)->List (D×D)->Prop
 | nil:EJ G R [] []
 | cons {k d s:D} {ds ss:List (D×D)}:Fz G R d s->EJ G R ds ss->EJ G R ((k,d) :: ds) ((k,s) :: ss)
end
noncomputable def KO(G:Gp)(x:D)(Q:DK):Prop:=∃ (R:Nat->Bool) (t:D),Fz G R x t/\Q t (wz R G)
noncomputable def u6(e:dM):dM:=fun E τ G Q=>e E τ G fun x G1=>KO G1 x Q
theorem Bo.same{G:Gp}{R:Nat->Bool}:∀ (ds:List D),Bo G R ds ds
 | []=>.nil
 | d :: ds=>.cons (.same d) (Bo.same ds)
theorem C1{G G1:Gp}(l:EI G G1):wz (fun a=>(G a).isNone) G1=G:=by
 funext a;unfold wz;cases h:G a with
 | none=>simp [h]
 | some o=>simp [l a o h,h]
theorem zb{G:Gp}{d:D}{Q:DK}(q:Q d G):KO G d Q:=⟨fun _=>false,d,.same d,by
 have e:wz (fun _=>false) G=G:=by funext a; simp [wz]
 rw [e]; exact q⟩
theorem CI{G G1:Gp}{p:Nat}{ds ss:List D}{Q:DK}(l:EI G G1)(hp:G p=none)(h1:G1 p=some (.lst ds))(hs:Bo G1 (fun a=>(G a).isNone) ds ss)(q:Q (.dB ss) G):KO G1 (.ref p) Q :=
 ⟨_,.dB ss,.ref h1 (by simp [hp]) hs,by rw [C1 l]; exact q⟩
noncomputable def tw:Bn:=fun ds G Q _=>∃ ns:List Int,ds=[.dB (ns.map D.int)]/\ns.length<=63/\(∀ a,G a=none)/\∀ G',Q (.bl true) G'
theorem lb{a b:pb}{E:mr}{K:oa}{τ:i6}{G:Gp}(P:i6->Gp->Prop)(h1:∀ N,(∀ τ G,P τ G->N τ G)->a E { K with nx:=N } τ G)(h2:∀ τ G,P τ G->b E K τ G):k6 a b E K τ G:=h1 (b E K) h2
theorem BU{a:dM}{b:pb}{E:mr}{K:oa}{τ:i6}{G:Gp}:k6 (n6 a) b E K τ G=n6 a E { K with nx:=b E K } τ G:=rfl
theorem Gn{g:Bl}{body:pb}{ok:Gp->Prop}{ds:List D}{E:mr}{K:oa}{τ:i6}{G:Gp}(I:List D->i6->Gp->Prop)
  (h0:I [] τ G) (dr:∀ pre τ G,I pre τ G->ok G)
  (step:∀ (pre:List D) (d:D) (post:List D) τ G (N:i6->Gp->Prop),ds=pre++d :: post->I pre τ G->(∀ BB G2,I (pre++[d]) BB G2->N BB G2) ->
   g E d τ G fun vv G1=>body E { K with nx:=N,ct:=N,bk:=K.nx } vv G1)
  (fin:∀ τ G,I ds τ G->K.nx τ G):qN g body ok ds E K τ G:=by
 have main:∀ (post pre:List D) τ G,ds=pre++post->I pre τ G->qN g body ok post E K τ G:=by
  intro post;induction post with
  | nil =>
   intro pre τ G e h;rw [ia] at e;subst e;exact⟨dr _ _ _ h,fin _ _ h⟩
  | cons d post ih =>
   intro pre τ G e h;refine⟨dr _ _ _ h,?_⟩;exact step pre d post τ G _ e h fun BB G2 h2=>ih (pre++[d]) BB G2 (by rw [e,List.append_assoc]; rfl) h2
 exact main ds [] τ G rfl h0
theorem zg{g:Bl}{c:Option wN}{e:dM}{ok:Gp->Prop}{ds:List D}{E:mr}{τ:i6}{G:Gp}{Q:List D->Gp->Prop}(I:List D->List D->i6->Gp->Prop)
  (h0:I [] [] τ G) (dr:∀ pre acc τ G,I pre acc τ G->ok G)
  (step:∀ (pre:List D) (d:D) (post acc:List D) τ G (N:i6->List D->Gp->Prop),ds=pre++d :: post->I pre acc τ G->(∀ BB A6 G2,I (pre++[d]) A6 BB G2->N BB A6 G2) ->
   g E d τ G fun vv G1=>match c with
    | none=>e E vv G1 fun x G2=>N vv (acc++[x]) G2
    | some c=>c E vv G1 fun k G2=>if k=true then e E vv G2 fun x G3=>N vv (acc++[x]) G3 else N vv acc G2)
  (fin:∀ acc τ G,I ds acc τ G->Q acc G):kS g c e ok ds E τ G [] Q:=by
 have main:∀ (post pre acc:List D) τ G,ds=pre++post->I pre acc τ G->kS g c e ok post E τ G acc Q:=by
  intro post;induction post with
  | nil =>
   intro pre acc τ G e h;rw [ia] at e;subst e;exact⟨dr _ _ _ _ h,fin _ _ _ h⟩
  | cons d post ih =>
   intro pre acc τ G e' h;refine⟨dr _ _ _ _ h,?_⟩;have:=step pre d post acc τ G (fun BB A6 G2=>kS g c e ok post E BB G2 A6 Q) e' h fun BB A6 G2 h2=>ih (pre++[d]) A6 BB G2 (by rw [e',List.append_assoc]; rfl) h2;cases c with
   | none=>exact this
   | some c=>exact this
 exact main ds [] [] τ G rfl h0
theorem nj(a b:D)(r t:List D):kZ (a :: r) (b :: t)=(ml a b&&kZ r t):=rfl
theorem qB(a b:Int):ml (.int a) (.int b)=(a == b):=rfl
theorem yr(a b:List D):ml (.tup a) (.tup b)=kZ a b:=rfl
theorem wB{α:Type} [DecidableEq α](a b:α)(as bs:List α):(decide (a=b)&&decide (as=bs))=decide (a :: as=b :: bs):=by
 by_cases h:a=b <;> by_cases h2:as=bs <;> simp [h,h2]
end K2
end
section
namespace K2
open PySem (Str)
set_option genInjectivity true in structure T2 where
 a:Int
 b:Int
 deriving DecidableEq
set_option genInjectivity true in structure T3 where
 a:Int
 b:Int
 c:Int
 deriving DecidableEq
class Enc (α:Type) [DecidableEq α] where
 enc:α->D
 dep:Nat
 eqv:∀ a b,ml (enc a) (enc b)=decide (a=b)
 sn:∀ (G:Gp) (n:Nat) (a:α),dep<=n->Sn G n (enc a) (enc a)
open Enc (enc)
noncomputable instance:Enc Int where
 enc:=D.int
 dep:=0
 eqv:=fun a b=>rfl
 sn:=fun G n a _=>.int a
noncomputable instance:Enc Bool where
 enc:=D.bl
 dep:=0
 eqv:=fun a b=>Dy a b
 sn:=fun G n a _=>.bl a
noncomputable instance:Enc T2 where
 enc:=fun t=>.tup [.int t.a,.int t.b]
 dep:=1
 eqv:=fun x y=>by
  cases x; cases y;rw [yr,nj,nj,qB,qB]; simp only [T2.mk.injEq]; rename_i a b c d; by_cases h:a=c <;> by_cases h2:b=d <;> simp [h,h2,show kZ [] []=true from rfl]
 sn:=fun G n t h=>by
  obtain⟨m,rfl⟩:∃ m,n=m+1:=⟨n - 1,by lia⟩;exact .nM (.int _) (.nM (.int _) .xR)
noncomputable instance:Enc T3 where
 enc:=fun t=>.tup [.int t.a,.int t.b,.int t.c]
 dep:=1
 eqv:=fun x y=>by
  cases x; cases y;rw [yr,nj,nj,nj,qB,qB,qB]; simp only [T3.mk.injEq]; rename_i a b e c d f; by_cases h:a=c <;> by_cases h2:b=d <;> by_cases h3:e=f <;> simp [h,h2,h3,show kZ [] []=true from rfl]
 sn:=fun G n t h=>by
  obtain⟨m,rfl⟩:∃ m,n=m+1:=⟨n - 1,by lia⟩;exact .nM (.int _) (.nM (.int _) (.nM (.int _) .xR))
noncomputable instance {α β:Type} [DecidableEq α] [DecidableEq β] [Enc α] [Enc β]:Enc (α×β) where
 enc:=fun t=>.tup [enc t.1,enc t.2]
 dep:=max (Enc.dep α) (Enc.dep β)+1
 eqv:=fun x y=>by
  cases x; cases y;rw [yr,nj,nj,Enc.eqv,Enc.eqv]; simp only [xl]; rename_i a b c d; by_cases h:a=c <;> by_cases h2:b=d <;> simp [h,h2,show kZ [] []=true from rfl]
 sn:=fun G n t h=>by
  obtain⟨m,rfl⟩:∃ m,n=m+1:=⟨n - 1,by lia⟩;exact .nM (Enc.sn _ _ _ (by lia)) (.nM (Enc.sn _ _ _ (by lia)) .xR)
theorem wx{α:Type} [DecidableEq α] [Enc α]:∀ (a b:List α),kZ (a.map enc) (b.map enc)=decide (a=b)
 | [],[]=>(decide_eq_true rfl).symm
 | [],b :: bs=>(decide_eq_false (fun z=>nomatch z)).symm
 | a :: as,[]=>(decide_eq_false (fun z=>nomatch z)).symm
 | a :: as,b :: bs=>by
  show (ml (enc a) (enc b)&&kZ (as.map enc) (bs.map enc))=_;rw [Enc.eqv,wx as bs,wB]
theorem qj{α:Type} [DecidableEq α] [Enc α](G:Gp)(n:Nat)(h:Enc.dep α<=n):∀ (xs:List α),Sn G (n+1) (.dB (xs.map enc)) (.dB (xs.map enc))
 | []=>.BW
 | a :: as=>.vU (Enc.sn _ _ _ h) (qj G n h as)
noncomputable instance {α:Type} [DecidableEq α] [Enc α]:Enc (List α) where
 enc:=fun xs=>.dB (xs.map enc)
 dep:=Enc.dep α+1
 eqv:=fun a b=>by
  show kZ _ _=_;exact wx a b
 sn:=fun G n t h=>by
  obtain⟨m,rfl⟩:∃ m,n=m+1:=⟨n - 1,by lia⟩;exact qj G m (by lia) t
class yx (κ:Type) [DecidableEq κ] [Enc κ] where
 ok:(∀ k:κ,dj (enc k)=true)\/∀ k:κ,oX (enc k)=true
noncomputable instance:yx Int:=⟨.inl fun _=>rfl⟩
noncomputable instance:yx T2:=⟨.inr fun _=>rfl⟩
noncomputable instance:yx T3:=⟨.inr fun _=>rfl⟩
end K2
end
section
namespace K2
open PySem (Str)
open Enc (enc)
mutual
noncomputable def yf:D->D->Bool
 | .int a,.int b=>decide (a < b)
 | .tup a,.tup b=>mG a b
 | .dB a,.dB b=>mG a b
 | _,_=>false
noncomputable def mG:List D->List D->Bool
 | [],[]=>false
 | [],_ :: _=>true
 | _ :: _,[]=>false
 | x :: xs,y :: ys=>if ml x y=true then mG xs ys else yf x y
end
theorem oS(x y:D)(xs ys:List D):mG (x :: xs) (y :: ys)=if ml x y=true then mG xs ys else yf x y:=rfl
theorem Ck(a b:Int):yf (.int a) (.int b)=decide (a < b):=rfl
inductive qc where
 | int | tup (l:List qc) | lst (s:qc)
mutual
noncomputable def dq:qc->D->Bool
 | .int,.int _=>true
 | .tup l,.tup ds=>fY l ds
 | .lst s,.dB ds=>fe s ds
 | _,_=>false
noncomputable def fY:List qc->List D->Bool
 | [],[]=>true
 | s :: l,d :: ds=>dq s d&&fY l ds
 | _,_=>false
noncomputable def fe:qc->List D->Bool
 | _,[]=>true
 | s,d :: ds=>dq s d&&fe s ds
end
theorem dn{a:D}(h:dq .int a=true):∃ i,a=.int i:=by cases a <;> first | exact⟨_,rfl⟩ | exact a6 (show false=true from h)
theorem dk{l:List qc}{a:D}(h:dq (.tup l) a=true):∃ x,a=.tup x:=by cases a <;> first | exact⟨_,rfl⟩ | exact a6 (show false=true from h)
theorem dm{l:qc}{a:D}(h:dq (.lst l) a=true):∃ x,a=.dB x:=by cases a <;> first | exact⟨_,rfl⟩ | exact a6 (show false=true from h)
mutual
noncomputable def GV:qc->Nat
 | .int=>0
 | .tup l=>CV l+1
 | .lst s=>GV s+1
noncomputable def CV:List qc->Nat
 | []=>0
 | s :: l=>max (GV s) (CV l)
end
class c3 (α:Type) [DecidableEq α] [Enc α] where
 lt:α->α->Bool
 Fs:qc
 CG:∀ a:α,dq Fs (enc a)=true
 HE:∀ a b:α,yf (enc a) (enc b)=lt a b
 FX:∀ a,lt a a=false
 trans:∀ a b c,lt a b=true->lt b c=true->lt a c=true
 Fi:∀ a b,lt a b=false->lt b a=false->a=b
noncomputable instance:c3 Int where
 lt:=fun a b=>decide (a < b)
 Fs:=.int
 CG:=fun _=>rfl
 HE:=fun a b=>rfl
 FX:=fun a=>by simp
 trans:=fun a b c h1 h2=>by simp at *; lia
 Fi:=fun a b h1 h2=>by simp at *; lia
noncomputable def qp{α:Type} [DecidableEq α](lt:α->α->Bool):List α->List α->Bool
 | [],[]=>false
 | [],_ :: _=>true
 | _ :: _,[]=>false
 | x :: xs,y :: ys=>if x=y then qp lt xs ys else lt x y
theorem uR{α:Type} [DecidableEq α](lt:α->α->Bool)(x y:α)(xs ys:List α):qp lt (x :: xs) (y :: ys)=if x=y then qp lt xs ys else lt x y:=rfl
section
variable {α:Type} [DecidableEq α] {lt:α->α->Bool}
theorem pN:∀ x:List α,qp lt x x=false
 | []=>rfl
 | a :: x=>by simp only [uR,if_true]; exact pN x
theorem pM(t:∀ a b,lt a b=false->lt b a=false->a=b):∀ (x y:List α),qp lt x y=false->qp lt y x=false->x=y
 | [],[],_,_=>rfl
 | [],_ :: _,h,_=>by cases h
 | _ :: _,[],_,h=>by cases h
 | a :: x,b :: y,h1,h2=>by
  simp only [uR] at h1 h2;by_cases e:a=b
  ·subst e;simp only [if_true] at h1 h2;rw [pM t x y h1 h2]
  ·rw [if_neg e] at h1;rw [if_neg (Ds e)] at h2;exact absurd (t a b h1 h2) e
theorem mW(ir:∀ a,lt a a=false)(tr:∀ a b c,lt a b=true->lt b c=true->lt a c=true):∀ (x y z:List α),qp lt x y=true->qp lt y z=true->qp lt x z=true
 | [],[],_,h,_=>by cases h
 | [],_ :: _,[],_,h=>by cases h
 | [],_ :: _,_ :: _,_,_=>rfl
 | _ :: _,[],_,h,_=>by cases h
 | _ :: _,_ :: _,[],_,h=>by cases h
 | a :: x,b :: y,c :: z,h1,h2=>by
  simp only [uR] at h1 h2 ⊢;by_cases e1:a=b
  ·subst e1;simp only [if_true] at h1;by_cases e2:a=c
   ·subst e2;simp only [if_true] at h2 ⊢;exact mW ir tr x y z h1 h2
   ·rw [if_neg e2] at h2 ⊢; exact h2
  ·rw [if_neg e1] at h1;by_cases e2:b=c
   ·subst e2;rw [if_neg e1]; exact h1
   ·rw [if_neg e2] at h2;have h3:=tr _ _ _ h1 h2;rw [if_neg (by rintro rfl; rw [ir] at h3; cases h3)]; exact h3
end
theorem pL{α:Type} [DecidableEq α] [Enc α] [c3 α]:∀ (x y:List α),mG (x.map enc) (y.map enc)=qp (c3.lt (α:=α)) x y
 | [],[]=>rfl
 | [],_ :: _=>rfl
 | _ :: _,[]=>rfl
 | a :: x,b :: y=>by simp only [cF,oS,uR,Enc.eqv,pL x y,c3.HE,decide_eq_true_eq]
theorem tO{α:Type} [DecidableEq α] [Enc α] [c3 α]:∀ (x:List α),fe (c3.Fs α) (x.map enc)=true
 | []=>rfl
 | a :: x=>by simp only [cF,fe,c3.CG,tO x,Bool.and_self]
noncomputable instance {α:Type} [DecidableEq α] [Enc α] [c3 α]:c3 (List α) where
 lt:=qp c3.lt
 Fs:=.lst (c3.Fs α)
 CG:=fun a=>tO a
 HE:=fun a b=>pL a b
 FX:=pN
 trans:=mW c3.FX c3.trans
 Fi:=pM c3.Fi
noncomputable def T2.l(t:T2):List Int:=[t.a,t.b]
noncomputable def T3.l(t:T3):List Int:=[t.a,t.b,t.c]
noncomputable instance:c3 T2 where
 lt:=fun x y=>qp (fun a b=>decide (a < b)) x.l y.l
 Fs:=.tup [.int,.int]
 CG:=fun _=>rfl
 HE:=fun a b=>pL a.l b.l
 FX:=fun a=>pN _
 trans:=fun a b c=>mW (α:=Int) c3.FX c3.trans _ _ _
 Fi:=fun ⟨a,b⟩ ⟨c,d⟩ h1 h2=>by
  have:=pM (α:=Int) c3.Fi _ _ h1 h2;simpa [T2.l] using this
noncomputable instance:c3 T3 where
 lt:=fun x y=>qp (fun a b=>decide (a < b)) x.l y.l
 Fs:=.tup [.int,.int,.int]
 CG:=fun _=>rfl
 HE:=fun a b=>pL a.l b.l
 FX:=fun a=>pN _
 trans:=fun a b c=>mW (α:=Int) c3.FX c3.trans _ _ _
 Fi:=fun ⟨a,b,e⟩ ⟨c,d,f⟩ h1 h2=>by
  have:=pM (α:=Int) c3.Fi _ _ h1 h2;simpa [T3.l] using this
end K2
end
section
namespace K2
open PySem (Str)
mutual
theorem kR:∀ (sh:qc) (a:D),dq sh a=true->ml a a=true
 | .int,.int i,_=>by show (i == i)=true; exact beq_self_eq_true i
 | .tup l,.tup xs,h=>by show kZ xs xs=true; exact qO l xs h
 | .lst l,.dB xs,h=>by show kZ xs xs=true; exact qP l xs h
theorem qO:∀ (l:List qc) (xs:List D),fY l xs=true->kZ xs xs=true
 | [],[],_=>rfl
 | s :: l,x :: xs,h=>by
  have h:(dq s x&&fY l xs)=true:=h;rw [aP] at h;show (ml x x&&kZ xs xs)=true;rw [kR s x h.1,qO l xs h.2]; rfl
theorem qP:∀ (s:qc) (xs:List D),fe s xs=true->kZ xs xs=true
 | _,[],_=>rfl
 | s,x :: xs,h=>by
  have h:(dq s x&&fe s xs)=true:=h;rw [aP] at h;show (ml x x&&kZ xs xs)=true;rw [kR s x h.1,qP s xs h.2]; rfl
end
theorem Gu(s:qc)(ih:∀ (a b:D),dq s a=true->dq s b=true->ml a b=true->a=b):∀ (xs ys:List D),fe s xs=true->fe s ys=true->kZ xs ys=true->xs=ys:=by
 intro xs;induction xs with
 | nil=>intro ys _ _ h; cases ys with
  | nil=>rfl
  | cons _ _=>cases h
 | cons x xs HK =>
  intro ys h1 h2 h;cases ys with
  | nil=>cases h
  | cons y ys =>
   have h1:(dq s x&&fe s xs)=true:=h1;have h2:(dq s y&&fe s ys)=true:=h2;have h:(ml x y&&kZ xs ys)=true:=h;rw [aP] at h1 h2 h;rw [ih x y h1.1 h2.1 h.1,HK ys h1.2 h2.2 h.2]
mutual
theorem ny:∀ (sh:qc) (a b:D),dq sh a=true->dq sh b=true->ml a b=true->a=b
 | .int,a,b,h1,h2,h=>by
  first | obtain⟨_,rfl⟩:=dn h1 | obtain⟨_,rfl⟩:=dk h1 | obtain⟨_,rfl⟩:=dm h1
  first | obtain⟨_,rfl⟩:=dn h2 | obtain⟨_,rfl⟩:=dk h2 | obtain⟨_,rfl⟩:=dm h2
  rw [qB] at h; rw [beq_iff_eq.mp h]
 | .tup l,a,b,h1,h2,h=>by
  first | obtain⟨_,rfl⟩:=dn h1 | obtain⟨_,rfl⟩:=dk h1 | obtain⟨_,rfl⟩:=dm h1
  first | obtain⟨_,rfl⟩:=dn h2 | obtain⟨_,rfl⟩:=dk h2 | obtain⟨_,rfl⟩:=dm h2
  rw [CS l _ _ h1 h2 h]
 | .lst l,a,b,h1,h2,h=>by
  first | obtain⟨_,rfl⟩:=dn h1 | obtain⟨_,rfl⟩:=dk h1 | obtain⟨_,rfl⟩:=dm h1
  first | obtain⟨_,rfl⟩:=dn h2 | obtain⟨_,rfl⟩:=dk h2 | obtain⟨_,rfl⟩:=dm h2
  rw [Gu l (ny l) _ _ h1 h2 h]
theorem CS:∀ (l:List qc) (xs ys:List D),fY l xs=true->fY l ys=true->kZ xs ys=true->xs=ys
 | [],xs,ys,h1,h2,_=>by
  cases xs with
  | nil=>cases ys with
   | nil=>rfl
   | cons _ _=>cases h2
  | cons _ _=>cases h1
 | s :: l,xs,ys,h1,h2,h=>by
  cases xs with
  | nil=>cases h1
  | cons x xs =>
   cases ys with
   | nil=>cases h2
   | cons y ys =>
    have h1:(dq s x&&fY l xs)=true:=h1;have h2:(dq s y&&fY l ys)=true:=h2;have h:(ml x y&&kZ xs ys)=true:=h;rw [aP] at h1 h2 h;rw [ny s x y h1.1 h2.1 h.1,CS l xs ys h1.2 h2.2 h.2]
end
theorem Cj(s:qc)(ih:∀ (a b:D),dq s a=true->dq s b=true->yf a b=false->yf b a=false->a=b):∀ (xs ys:List D),fe s xs=true->fe s ys=true->mG xs ys=false->mG ys xs=false->xs=ys:=by
 intro xs;induction xs with
 | nil=>intro ys _ _ h _; cases ys with
  | nil=>rfl
  | cons _ _=>cases h
 | cons x xs HK =>
  intro ys h1 h2 h3 h4;cases ys with
  | nil=>cases h4
  | cons y ys =>
   have h1:(dq s x&&fe s xs)=true:=h1;have h2:(dq s y&&fe s ys)=true:=h2;rw [aP] at h1 h2;simp only [oS] at h3 h4;by_cases e:ml x y=true
   ·have Kz:=ny s x y h1.1 h2.1 e;subst Kz;rw [if_pos e] at h3 h4;rw [HK ys h1.2 h2.2 h3 h4]
   ·rw [if_neg e] at h3;by_cases e2:ml y x=true
    ·have:=ny s y x h2.1 h1.1 e2;subst this; exact absurd e2 e
    ·rw [if_neg e2] at h4;have:=ih x y h1.1 h2.1 h3 h4;subst this;exact absurd (kR s x h1.1) e
mutual
theorem y1:∀ (sh:qc) (a b:D),dq sh a=true->dq sh b=true->yf a b=false->yf b a=false->a=b
 | .int,a,b,h1,h2,h3,h4=>by
  first | obtain⟨_,rfl⟩:=dn h1 | obtain⟨_,rfl⟩:=dk h1 | obtain⟨_,rfl⟩:=dm h1
  first | obtain⟨_,rfl⟩:=dn h2 | obtain⟨_,rfl⟩:=dk h2 | obtain⟨_,rfl⟩:=dm h2
  simp [Ck] at h3 h4; congr 1; lia
 | .tup l,a,b,h1,h2,h3,h4=>by
  first | obtain⟨_,rfl⟩:=dn h1 | obtain⟨_,rfl⟩:=dk h1 | obtain⟨_,rfl⟩:=dm h1
  first | obtain⟨_,rfl⟩:=dn h2 | obtain⟨_,rfl⟩:=dk h2 | obtain⟨_,rfl⟩:=dm h2
  rw [wd l _ _ h1 h2 h3 h4]
 | .lst l,a,b,h1,h2,h3,h4=>by
  first | obtain⟨_,rfl⟩:=dn h1 | obtain⟨_,rfl⟩:=dk h1 | obtain⟨_,rfl⟩:=dm h1
  first | obtain⟨_,rfl⟩:=dn h2 | obtain⟨_,rfl⟩:=dk h2 | obtain⟨_,rfl⟩:=dm h2
  rw [Cj l (y1 l) _ _ h1 h2 h3 h4]
theorem wd:∀ (l:List qc) (xs ys:List D),fY l xs=true->fY l ys=true->mG xs ys=false->mG ys xs=false->xs=ys
 | [],xs,ys,h1,h2,_,_=>by
  cases xs with
  | nil=>cases ys with
   | nil=>rfl
   | cons _ _=>cases h2
  | cons _ _=>cases h1
 | s :: l,xs,ys,h1,h2,h3,h4=>by
  cases xs with
  | nil=>cases h1
  | cons x xs =>
   cases ys with
   | nil=>cases h2
   | cons y ys =>
    have h1:(dq s x&&fY l xs)=true:=h1;have h2:(dq s y&&fY l ys)=true:=h2;rw [aP] at h1 h2;simp only [oS] at h3 h4;by_cases e:ml x y=true
    ·have Kz:=ny s x y h1.1 h2.1 e;subst Kz;rw [if_pos e] at h3 h4;rw [wd l xs ys h1.2 h2.2 h3 h4]
    ·rw [if_neg e] at h3;by_cases e2:ml y x=true
     ·have:=ny s y x h2.1 h1.1 e2;subst this; exact absurd e2 e
     ·rw [if_neg e2] at h4;have:=y1 s x y h1.1 h2.1 h3 h4;subst this;exact absurd (kR s x h1.1) e
end
mutual
theorem y2:∀ (sh:qc) (a:D),dq sh a=true->yf a a=false
 | .int,.int i,_=>by rw [Ck]; exact decide_eq_false (Int.lt_irrefl _)
 | .tup l,.tup xs,h=>by show mG xs xs=false; exact we l xs h
 | .lst l,.dB xs,h=>by show mG xs xs=false; exact wg l xs h
theorem we:∀ (l:List qc) (xs:List D),fY l xs=true->mG xs xs=false
 | [],[],_=>rfl
 | s :: l,x :: xs,h=>by
  have h:(dq s x&&fY l xs)=true:=h;rw [aP] at h;simp only [oS,kR s x h.1,if_true]; exact we l xs h.2
theorem wg:∀ (s:qc) (xs:List D),fe s xs=true->mG xs xs=false
 | _,[],_=>rfl
 | s,x :: xs,h=>by
  have h:(dq s x&&fe s xs)=true:=h;rw [aP] at h;simp only [oS,kR s x h.1,if_true]; exact wg s xs h.2
end
theorem ye(s:qc)(ih:∀ (a b c:D),dq s a=true->dq s b=true->dq s c=true->yf a b=true->yf b c=true->yf a c=true):∀ (xs ys zs:List D),fe s xs=true->fe s ys=true->fe s zs=true->mG xs ys=true->mG ys zs=true->mG xs zs=true:=by
 intro xs;induction xs with
 | nil =>
  intro ys zs _ _ _ h4 h5;cases ys with
  | nil=>cases h4
  | cons _ _=>cases zs with
   | nil=>cases h5
   | cons _ _=>rfl
 | cons x xs HK =>
  intro ys zs h1 h2 h3 h4 h5;cases ys with
  | nil=>cases h4
  | cons y ys =>
   cases zs with
   | nil=>cases h5
   | cons z zs =>
    have h1:(dq s x&&fe s xs)=true:=h1;have h2:(dq s y&&fe s ys)=true:=h2;have h3:(dq s z&&fe s zs)=true:=h3;rw [aP] at h1 h2 h3;simp only [oS] at h4 h5 ⊢;by_cases e1:ml x y=true
    ·have:=ny s x y h1.1 h2.1 e1;subst this;rw [if_pos e1] at h4;by_cases e2:ml x z=true
     ·rw [if_pos e2] at h5 ⊢;exact HK ys zs h1.2 h2.2 h3.2 h4 h5
     ·rw [if_neg e2] at h5 ⊢; exact h5
    ·rw [if_neg e1] at h4;by_cases e2:ml y z=true
     ·have:=ny s y z h2.1 h3.1 e2;subst this;rw [if_neg e1]; exact h4
     ·rw [if_neg e2] at h5;have h6:=ih x y z h1.1 h2.1 h3.1 h4 h5;rw [if_neg (fun e3=>by
       have:=ny s x z h1.1 h3.1 e3;subst this;rw [y2 s x h1.1] at h6; cases h6)]
      exact h6
mutual
theorem tI:∀ (sh:qc) (a b c:D),dq sh a=true->dq sh b=true->dq sh c=true->yf a b=true->yf b c=true->yf a c=true
 | .int,a,b,c,h1,h2,h3,h4,h5=>by
  first | obtain⟨_,rfl⟩:=dn h1 | obtain⟨_,rfl⟩:=dk h1 | obtain⟨_,rfl⟩:=dm h1
  first | obtain⟨_,rfl⟩:=dn h2 | obtain⟨_,rfl⟩:=dk h2 | obtain⟨_,rfl⟩:=dm h2
  first | obtain⟨_,rfl⟩:=dn h3 | obtain⟨_,rfl⟩:=dk h3 | obtain⟨_,rfl⟩:=dm h3
  simp [Ck] at *; lia
 | .tup l,a,b,c,h1,h2,h3,h4,h5=>by
  first | obtain⟨_,rfl⟩:=dn h1 | obtain⟨_,rfl⟩:=dk h1 | obtain⟨_,rfl⟩:=dm h1
  first | obtain⟨_,rfl⟩:=dn h2 | obtain⟨_,rfl⟩:=dk h2 | obtain⟨_,rfl⟩:=dm h2
  first | obtain⟨_,rfl⟩:=dn h3 | obtain⟨_,rfl⟩:=dk h3 | obtain⟨_,rfl⟩:=dm h3
  exact rZ l _ _ _ h1 h2 h3 h4 h5
 | .lst l,a,b,c,h1,h2,h3,h4,h5=>by
  first | obtain⟨_,rfl⟩:=dn h1 | obtain⟨_,rfl⟩:=dk h1 | obtain⟨_,rfl⟩:=dm h1
  first | obtain⟨_,rfl⟩:=dn h2 | obtain⟨_,rfl⟩:=dk h2 | obtain⟨_,rfl⟩:=dm h2
  first | obtain⟨_,rfl⟩:=dn h3 | obtain⟨_,rfl⟩:=dk h3 | obtain⟨_,rfl⟩:=dm h3
  exact ye l (tI l) _ _ _ h1 h2 h3 h4 h5
theorem rZ:∀ (l:List qc) (xs ys zs:List D),fY l xs=true->fY l ys=true->fY l zs=true->mG xs ys=true->mG ys zs=true->mG xs zs=true
 | [],xs,ys,zs,h1,h2,_,h,_=>by
  cases xs with
  | nil=>cases ys with
   | nil=>cases h
   | cons _ _=>cases h2
  | cons _ _=>cases h1
 | s :: l,xs,ys,zs,h1,h2,h3,h4,h5=>by
  cases xs with
  | nil=>cases h1
  | cons x xs =>
   cases ys with
   | nil=>cases h2
   | cons y ys =>
    cases zs with
    | nil=>cases h3
    | cons z zs =>
     have h1:(dq s x&&fY l xs)=true:=h1;have h2:(dq s y&&fY l ys)=true:=h2;have h3:(dq s z&&fY l zs)=true:=h3;rw [aP] at h1 h2 h3;simp only [oS] at h4 h5 ⊢;by_cases e1:ml x y=true
     ·have:=ny s x y h1.1 h2.1 e1;subst this;rw [if_pos e1] at h4;by_cases e2:ml x z=true
      ·rw [if_pos e2] at h5 ⊢;exact rZ l xs ys zs h1.2 h2.2 h3.2 h4 h5
      ·rw [if_neg e2] at h5 ⊢; exact h5
     ·rw [if_neg e1] at h4;by_cases e2:ml y z=true
      ·have:=ny s y z h2.1 h3.1 e2;subst this;rw [if_neg e1]; exact h4
      ·rw [if_neg e2] at h5;have h6:=tI s x y z h1.1 h2.1 h3.1 h4 h5;rw [if_neg (fun e3=>by
        have:=ny s x z h1.1 h3.1 e3;subst this;rw [y2 s x h1.1] at h6; cases h6)]
       exact h6
end
end K2
end
section
namespace K2
open PySem (Str)
open Enc (enc)
theorem EE{α:Type}(xs:List α){k:Int}(h0:0<=k)(h1:k < xs.length):rn xs k=some (xs[k.toNat]'(by lia)):=by
 unfold rn DB;rw [if_pos h0,if_pos h1];show xs[k.toNat]?=_;exact zm (by lia)
theorem rM{n:Nat}{pre post:List D}{d:D}(h:i9 0 n=pre++d :: post):d=.int (pre.length:Int)/\pre.length < n:=by
 have hl:pre.length < n:=by
  have:=congrArg List.length h;simp [i9] at this; lia
 have:=congrArg (fun l=>l[pre.length]?) h;simp only [i9,c4,List.getElem?_range hl] at this;rw [cH (ck _)] at this;simp at this;exact⟨this.symm,hl⟩
end K2
end
section
namespace K2
open PySem (Str)
open Enc (enc)
noncomputable def B0:Dj
 | .int i,.int j,G,Q=>(0<=j/\j<=1000000/\i.natAbs < 2 ^ 64)/\Q (.int (i ^ j.toNat)) G
 | _,_,_,_=>False
theorem rN{i j:Int}{G:Gp}{Q:DK}:B0 (.int i) (.int j) G Q=((0<=j/\j<=1000000/\i.natAbs < 2 ^ 64)/\Q (.int (i ^ j.toNat)) G):=rfl
end K2
end
section
namespace K2
open PySem (Str)
open Enc (enc)
noncomputable def FV(i:Int):Str:=Str.ofString (toString i)
theorem Ew(x y:Str):(x++y).cps=x.cps++y.cps:=rfl
theorem Cm(x y:Str):(x++y).length=x.length+y.length:=by
 unfold PySem.Str.length;rw [Ew,Array.size_append]
theorem Ee{i:Int}(h:i.natAbs < 10 ^ 100):(FV i).length<=101:=by
 unfold FV;cases i with
 | ofNat m =>
  have hm:m < 10 ^ 100:=by simpa using h
  have h1:((m:Int)) < (10:Int) ^ 100:=by exact_mod_cast hm
  exact b8 (p9 (v:=Int.ofNat m) (Int.natCast_nonneg m) (k:=100) (by decide) h1) (by decide)
 | negSucc m =>
  have hm:m+1 < 10 ^ 100:=by simpa using h
  have h1:(((m+1:Nat):Int)) < (10:Int) ^ 100:=by exact_mod_cast hm
  have h2:=p9 (v:=((m+1:Nat):Int)) (Int.natCast_nonneg _) (k:=100) (by decide) h1;have e:toString (Int.negSucc m) = "-"++toString (((m+1:Nat):Int)):=rfl;rw [e,qV,String.toList_append,bZ];rw [qV] at h2;have h3 : "-".toList.length=1:=by decide
  lia
noncomputable def CL:D->Option Str
 | .int i=>if i.natAbs < 10 ^ 100 then some (FV i) else none
 | .str x=>if x.length<=1000 then some x else none
 | _=>none
noncomputable abbrev E9:=mr->i6->Gp->(List Str->Gp->Prop)->Prop
noncomputable def CM:E9:=fun _ _ G Q=>Q [] G
noncomputable def oZ(c:Str)(r:E9):E9:=fun E τ G Q=>c.length<=1000/\r E τ G fun ys G1=>Q (c :: ys) G1
noncomputable def yn(a:dM)(r:E9):E9:=fun E τ G Q=>a E τ G fun x G1=>∃ y,CL x=some y/\r E τ G1 fun ys G2=>Q (y :: ys) G2
noncomputable def wG(t:E9):dM:=fun E τ G Q=>t E τ G fun ys G1=>Q (.str (ys.foldl (·++·) xi)) G1
theorem CK{d:D}{y:Str}(h:CL d=some y):y.length<=1000:=by
 unfold CL at h;split at h
 ·rename_i i;split at h
  ·rename_i hb;cases h;exact b8 (Ee hb) (by decide)
  ·cases h
 ·split at h
  ·rename_i hb; cases h; exact hb
  ·cases h
 ·cases h
end K2
end
section
namespace K2
open PySem (Str)
noncomputable def i5(all sub:List Str)(a:dM):dM:=fun E τ G Q=>a E τ G fun x G1=>match x with
 | .l7=>Q (.bl false) G1
 | .exc c=>all.contains c=true/\Q (.bl (sub.contains c)) G1
 | .pW c _ _=>all.contains c=true/\Q (.bl (sub.contains c)) G1
 | _=>False
end K2
end
section
namespace K2
open PySem (Str)
open Enc (enc)
noncomputable def zf(all:List Str)(a:dM):dM:=fun E τ G Q=>a E τ G fun x G1=>match x with
 | .exc c=>all.contains c=true/\Q (.bl true) G1
 | .pW c _ _=>all.contains c=true/\Q (.bl true) G1
 | _=>False
end K2
end
section
namespace K2
open PySem (Str)
open Enc (enc)
noncomputable def h2(t:T2):Int:=PySem.reduceHash (PySem.Builtin.Tuple.tupleHashOf [PySem.hashInt t.a,PySem.hashInt t.b])
end K2
end
section
namespace K2
open PySem (Str)
noncomputable def only(a:Nat)(o:GO):Gp:=fun b=>if b=a then some o else none
end K2
end
section
namespace K2
open PySem (Str Txt.slice Txt.item Txt.split Txt.contains)
noncomputable def Gw(a:dM)(lo hi:IF):dM:=fun E τ G Q=>a E τ G fun x G1=>lo E τ G1 fun l G2=>hi E τ G2 fun h G3=>match x with
 | .str y=>y.length<=100000/\Q (.str (Txt.slice y l h)) G3
 | _=>False
end K2
end
section
namespace K2
open PySem (Str)
noncomputable def mI(c:Str)(t:vc):dM:=fun E τ G Q=>t E τ G fun ds G1=>ds.length<=SZ/\Q (.exc c) G1
noncomputable def C7(c:Str)(ns:List Str)(te:dM)(t:vc):dM:=fun E τ G Q=>t E τ G fun ds G1=>ds.length=ns.length/\(∀ a,te (fun _ _=>False) (some (.ref a) :: ds.map some) (fun _=>none) fun _ _=>True)/\Q (.pW c ns ds) G1
noncomputable def Gs(all:List Str)(f:Str)(x:D)(G:Gp)(Q:DK):Prop:=match x with
 | .pW c ns ds=>all.contains c=true/\∃ d,(ns.zip ds).lookup f=some d/\Q d G
 | _=>False
noncomputable def nt(all:List Str)(f:Str)(te:dM):dM:=fun E τ G Q=>te E τ G fun x G1=>Gs all f x G1 Q
end K2
end
section
namespace K2
open PySem PySem.Spec PyProof.Rows L2
noncomputable def G0(K:af)(H:Hp)(a:Addr)(xs:List V):Prop :=
 (∃ o,H a=some (.la o (.lst xs))) \/
  ∃ (o:Obj) (cY:Array Value) (n:Nat),K.lookup a=some o/\o.cls=.type "list"/\o.dict=none/\o.data=.seq cY n/\cY.size<=aZ/\Vals xs cY.toList
theorem G0.sq{K:af}{H:Hp}{a:Addr}{xs:List V}(h:G0 K H a xs):zj K H a xs:=by
 rcases h with ⟨o,h⟩ | h
 ·exact .inl (.inr ⟨o,h⟩)
 ·exact .inr h
noncomputable def dv:Key->D
 | .inl i=>.int i
 | .inr x=>.str x
noncomputable def ExcAt(K:af)(H:Hp)(a:Addr)(c:Str):Prop:=∃ (o:Obj) (C:Addr),H a=some (.la o (.ext fun h=>h.get? a=some o))/\o.cls=.ref C/\ay K ao c=some (some (.ref C))
noncomputable def zl(K:af)(H:Hp)(a:Addr)(c:Str)(ns:List Str)(vs:List V):Prop:=∃ (o:Obj) (C dx:Addr) (od:Obj) (fs:List (Str×V)),H a=some (.la o (.ext fun h=>h.get? a=some o))/\o.cls=.ref C/\ay K ao c=some (some (.ref C))/\o.dict=some dx/\H dx=some (.la od (.xd fs))/\PySem.W.notCls o=true/\fs.map (·.1)=ns/\fs.map (·.2)=vs
mutual
inductive cf (K:af) (H:Hp):V->D->Prop
 | l7:cf K H .l7 .l7
 | bl (b:Bool):cf K H (.bl b) (.bl b)
 | int (i:Int):cf K H (.int i) (.int i)
 | str (x:Str):cf K H (.str x) (.str x)
 | tup {a:Addr} {vs:List V} {ds:List D}:H a=some (.tup vs)->bp K H vs ds->cf K H (.ref a) (.tup ds)
 | dB {a:Addr} {vs:List V} {ds:List D}:G0 K H a vs->bp K H vs ds->cf K H (.ref a) (.dB ds)
 | sP {a:Addr} {o:Obj} {kv:List (Key×V)} {bF:List (D×D)}:H a=some (.la o (.dK kv))->qF K H kv bF->cf K H (.ref a) (.w6 bF)
 | sO {a:Addr} {o:Obj} {kv:List (List Key×V)} {bF:List (D×D)}:H a=some (.la o (.dT kv))->ro K H kv bF->cf K H (.ref a) (.w6 bF)
 | ref (a:Addr):cf K H (.ref a) (.ref a)
 | exc {a:Addr} {c:Str}:ExcAt K H a c->cf K H (.ref a) (.exc c)
 | pW {a:Addr} {c:Str} {ns:List Str} {vs:List V} {ds:List D}:zl K H a c ns vs->bp K H vs ds->cf K H (.ref a) (.pW c ns ds)
inductive bp (K:af) (H:Hp):List V->List D->Prop
 | nil:bp K H [] []
 | cons {v:V} {d:D} {vs:List V} {ds:List D}:cf K H v d->bp K H vs ds->bp K H (v :: vs) (d :: ds)
inductive qF (K:af) (H:Hp):List (Key×V)->List (D×D)->Prop
 | nil:qF K H [] []
 | cons {k:Key} {v:V} {d:D} {r:List (Key×V)} {t:List (D×D)}:cf K H v d->qF K H r t->qF K H ((k,v) :: r) ((dv k,d) :: t)
inductive ro (K:af) (H:Hp):List (List Key×V)->List (D×D)->Prop
 | nil:ro K H [] []
 | cons {k:List Key} {v:V} {d:D} {r:List (List Key×V)} {t:List (D×D)}:cf K H v d->ro K H r t->ro K H ((k,v) :: r) ((.tup (k.map dv),d) :: t)
end
structure Kp(H H':Hp):Prop where
 tup:∀ a xs,H a=some (.tup xs)->H' a=some (.tup xs)
 la:∀ a o u,H a=some (.la o u)->H' a=some (.la o u)
theorem Kp.refl(H:Hp):Kp H H:=⟨fun _ _ h=>h,fun _ _ _ h=>h⟩
theorem Kp.trans{H H1 H2:Hp}(a:Kp H H1)(b:Kp H1 H2):Kp H H2:=⟨fun c xs h=>b.tup c xs (a.tup c xs h),fun c o u h=>b.la c o u (a.la c o u h)⟩
theorem Kp.IT{K:af}{H H':Hp}{a:Addr}{xs:List V}(k:Kp H H')(h:G0 K H a xs):G0 K H' a xs:=by
 rcases h with ⟨o,h⟩ | h
 ·exact .inl ⟨o,k.la _ _ _ h⟩
 ·exact .inr h
theorem ExcAt.mono{K:af}{H H':Hp}(k:Kp H H'){a:Addr}{c:Str}(h:ExcAt K H a c):ExcAt K H' a c :=
 let ⟨o,C,h1,h2,h3⟩:=h
 ⟨o,C,k.la _ _ _ h1,h2,h3⟩
theorem zl.mono{K:af}{H H':Hp}(k:Kp H H'){a:Addr}{c:Str}{ns:List Str}{vs:List V}(h:zl K H a c ns vs):zl K H' a c ns vs :=
 let ⟨o,C,dx,od,fs,h1,h2,h3,h4,h5,h6⟩:=h
 ⟨o,C,dx,od,fs,k.la _ _ _ h1,h2,h3,h4,k.la _ _ _ h5,h6⟩
theorem bp.Eg{K:af}{H:Hp}{P:List V->List D->Prop}(h0:P [] [])(h1:∀ {v:V} {d:D} {vs:List V} {ds:List D},cf K H v d->bp K H vs ds->P vs ds->P (v :: vs) (d :: ds)){vs:List V}{ds:List D}(h:bp K H vs ds):P vs ds :=
 bp.rec (motive_1:=fun _ _ _=>True) (motive_2:=fun vs ds _=>P vs ds) (motive_3:=fun _ _ _=>True) (motive_4:=fun _ _ _=>True) trivial (fun _=>trivial) (fun _=>trivial) (fun _=>trivial) (fun _ _ _=>trivial) (fun _ _ _=>trivial) (fun _ _ _=>trivial) (fun _ _ _=>trivial) (fun _=>trivial) (fun _=>trivial) (fun _ _ _=>trivial) h0 (fun a b _ ih=>h1 a b ih) trivial (fun _ _ _ _=>trivial) trivial (fun _ _ _ _=>trivial) h
theorem cf.mono{K:af}{H H':Hp}(k:Kp H H'):∀ {v:V} {d:D},cf K H v d->cf K H' v d:=fun h =>
 cf.rec (motive_1:=fun v d _=>cf K H' v d) (motive_2:=fun v d _=>bp K H' v d) (motive_3:=fun v d _=>qF K H' v d) (motive_4:=fun v d _=>ro K H' v d)
  .l7 .bl .int .str (fun h _ r=>.tup (k.tup _ _ h) r) (fun h _ r=>.dB (k.IT h) r) (fun h _ r=>.sP (k.la _ _ _ h) r) (fun h _ r=>.sO (k.la _ _ _ h) r) .ref (fun h=>.exc (h.mono k)) (fun h _ r=>.pW (h.mono k) r) .nil (fun _ _ a b=>.cons a b) .nil (fun _ _ a b=>.cons a b) .nil (fun _ _ a b=>.cons a b) h
theorem bp.mono{K:af}{H H':Hp}(k:Kp H H'){v:List V}{d:List D}(h:bp K H v d):bp K H' v d :=
 bp.Eg (P:=fun v d=>bp K H' v d) .nil (fun r _ ih=>.cons (r.mono k) ih) h
theorem qF.mono{K:af}{H H':Hp}(k:Kp H H'){v:List (Key×V)}{d:List (D×D)}(h:qF K H v d):qF K H' v d :=
 qF.rec (motive_1:=fun v d _=>cf K H' v d) (motive_2:=fun v d _=>bp K H' v d) (motive_3:=fun v d _=>qF K H' v d) (motive_4:=fun v d _=>ro K H' v d)
  .l7 .bl .int .str (fun h _ r=>.tup (k.tup _ _ h) r) (fun h _ r=>.dB (k.IT h) r) (fun h _ r=>.sP (k.la _ _ _ h) r) (fun h _ r=>.sO (k.la _ _ _ h) r) .ref (fun h=>.exc (h.mono k)) (fun h _ r=>.pW (h.mono k) r) .nil (fun _ _ a b=>.cons a b) .nil (fun _ _ a b=>.cons a b) .nil (fun _ _ a b=>.cons a b) h
theorem ro.mono{K:af}{H H':Hp}(k:Kp H H'){v:List (List Key×V)}{d:List (D×D)}(h:ro K H v d):ro K H' v d :=
 ro.rec (motive_1:=fun v d _=>cf K H' v d) (motive_2:=fun v d _=>bp K H' v d) (motive_3:=fun v d _=>qF K H' v d) (motive_4:=fun v d _=>ro K H' v d)
  .l7 .bl .int .str (fun h _ r=>.tup (k.tup _ _ h) r) (fun h _ r=>.dB (k.IT h) r) (fun h _ r=>.sP (k.la _ _ _ h) r) (fun h _ r=>.sO (k.la _ _ _ h) r) .ref (fun h=>.exc (h.mono k)) (fun h _ r=>.pW (h.mono k) r) .nil (fun _ _ a b=>.cons a b) .nil (fun _ _ a b=>.cons a b) .nil (fun _ _ a b=>.cons a b) h
theorem bp.length{K:af}{H:Hp}:∀ {vs:List V} {ds:List D},bp K H vs ds->vs.length=ds.length:=fun h =>
 bp.Eg (P:=fun vs ds=>vs.length=ds.length) rfl (fun _ _ ih=>congrArg (· + 1) ih) h
theorem bp.get{K:af}{H:Hp}:∀ {vs:List V} {ds:List D} {i:Nat} {d:D},bp K H vs ds->ds[i]?=some d->∃ v,vs[i]?=some v/\cf K H v d:=by
 intro vs ds i d h;refine bp.Eg (P:=fun vs ds=>∀ (i:Nat) (d:D),ds[i]?=some d->∃ v,vs[i]?=some v/\cf K H v d) (fun i d e=>by cases e) (fun r _ ih i d e=>?_) h i d;cases i with
 | zero=>cases e; exact⟨_,rfl,r⟩
 | succ i=>exact ih i d e
theorem bp.append{K:af}{H:Hp}:∀ {vs ws:List V} {ds es:List D},bp K H vs ds->bp K H ws es->bp K H (vs++ws) (ds++es):=fun {_ ws _ es} h s =>
 bp.Eg (P:=fun vs ds=>bp K H (vs++ws) (ds++es)) s (fun r _ ih=>.cons r ih) h
theorem bp.one{K:af}{H:Hp}:∀ {vs:List V} {d:D},bp K H vs [d]->∃ v,vs=[v]/\cf K H v d:=by
 intro vs d h;cases h with
 | cons r t=>cases t; exact⟨_,rfl,r⟩
theorem bp.zero{K:af}{H:Hp}:∀ {vs:List V},bp K H vs []->vs=[]
 | _,.nil=>rfl
theorem bp.ints{K:af}{H:Hp}:∀ {vs:List V} {ns:List Int},bp K H vs (ns.map D.int)->vs=ns.map V.int:=by
 intro vs ns;induction ns generalizing vs with
 | nil=>intro h; exact h.zero
 | cons n ns ih =>
  intro h;cases h with
  | cons r t =>
   cases r;rw [ih t]; rfl
theorem bp.yZ{K:af}{H:Hp}:∀ (ns:List Int),bp K H (ns.map V.int) (ns.map D.int)
 | []=>.nil
 | n :: ns=>.cons (.int n) (bp.yZ ns)
theorem qF.ind{K:af}{H:Hp}{motive:∀ (kv:List (Key×V)) (bF:List (D×D)),qF K H kv bF->Prop}(nil:motive [] [] .nil)
  (cons:∀ {k:Key} {v:V} {d:D} {r:List (Key×V)} {t:List (D×D)} (re:cf K H v d) (rs:qF K H r t),motive r t rs->motive ((k,v) :: r) ((dv k,d) :: t) (.cons re rs)):∀ {kv:List (Key×V)} {bF:List (D×D)} (h:qF K H kv bF),motive kv bF h:=fun h =>
 qF.rec (motive_1:=fun _ _ _=>True) (motive_2:=fun _ _ _=>True) (motive_3:=motive) (motive_4:=fun _ _ _=>True) trivial (fun _=>trivial) (fun _=>trivial) (fun _=>trivial) (fun _ _ _=>trivial) (fun _ _ _=>trivial) (fun _ _ _=>trivial) (fun _ _ _=>trivial) (fun _=>trivial) (fun _=>trivial) (fun _ _ _=>trivial) trivial (fun _ _ _ _=>trivial) nil (fun a b _ ih=>cons a b ih) trivial (fun _ _ _ _=>trivial) h
theorem ro.ind{K:af}{H:Hp}{motive:∀ (kv:List (List Key×V)) (bF:List (D×D)),ro K H kv bF->Prop}(nil:motive [] [] .nil)
  (cons:∀ {k:List Key} {v:V} {d:D} {r:List (List Key×V)} {t:List (D×D)} (re:cf K H v d) (rs:ro K H r t),motive r t rs->motive ((k,v) :: r) ((.tup (k.map dv),d) :: t) (.cons re rs)):∀ {kv:List (List Key×V)} {bF:List (D×D)} (h:ro K H kv bF),motive kv bF h:=fun h =>
 ro.rec (motive_1:=fun _ _ _=>True) (motive_2:=fun _ _ _=>True) (motive_3:=fun _ _ _=>True) (motive_4:=motive) trivial (fun _=>trivial) (fun _=>trivial) (fun _=>trivial) (fun _ _ _=>trivial) (fun _ _ _=>trivial) (fun _ _ _=>trivial) (fun _ _ _=>trivial) (fun _=>trivial) (fun _=>trivial) (fun _ _ _=>trivial) trivial (fun _ _ _ _=>trivial) trivial (fun _ _ _ _=>trivial) nil (fun a b _ ih=>cons a b ih) h
theorem qF.length{K:af}{H:Hp}:∀ {v:List (Key×V)} {d:List (D×D)},qF K H v d->v.length=d.length:=fun h =>
 qF.ind (motive:=fun v d _=>v.length=d.length) rfl (fun _ _ ih=>congrArg (· + 1) ih) h
noncomputable def EL(K:af)(H:Hp)(a:Addr):GO->Prop
 | .lst ds=>∃ vs,H a=some (.lst vs)/\bp K H vs ds
 | .sV bF=>(∃ kv,H a=some (.dK kv)/\qF K H kv bF)\/∃ kv,H a=some (.dT kv)/\ro K H kv bF
 | .ins c fs=>∃ C dx fv,H a=some (.ins C dx fv)/\ay K ao c=some (some (.ref C))/\fv.map (·.1)=fs.map (·.1)/\bp K H (fv.map (·.2)) (fs.map (·.2))
noncomputable def mL(K:af)(H:Hp)(G:Gp):Prop:=∀ a g,G a=some g->EL K H a g
theorem EL.mono{K:af}{H H':Hp}{a:Addr}{g:GO}(k:Kp H H')(e:H' a=H a)(h:EL K H a g):EL K H' a g:=by
 cases g with
 | lst ds=>obtain⟨vs,q,r⟩:=h; exact⟨vs,e.trans q,r.mono k⟩
 | ins c fs=>obtain⟨C,dx,fv,q,h1,h2,r⟩:=h; exact⟨C,dx,fv,e.trans q,h1,h2,r.mono k⟩
 | sV bF =>
  rcases h with ⟨kv,q,r⟩ | ⟨kv,q,r⟩
  ·exact .inl ⟨kv,e.trans q,r.mono k⟩
  ·exact .inr ⟨kv,e.trans q,r.mono k⟩
theorem EL.tracked{K:af}{H:Hp}{a:Addr}{g:GO}(h:EL K H a g):H a≠none:=by
 cases g with
 | lst ds=>obtain⟨vs,q,r⟩:=h; rw [q]; simp
 | ins c fs=>obtain⟨C,dx,fv,q,_⟩:=h; rw [q]; simp
 | sV bF =>
  rcases h with ⟨kv,q,r⟩ | ⟨kv,q,r⟩
  ·rw [q]; simp
  ·rw [q]; simp
theorem mL.free{K:af}{H:Hp}{G:Gp}{a:Addr}(h:mL K H G)(e:H a=none):G a=none:=by
 cases q:G a with
 | none=>rfl
 | some g=>exact absurd e (h a g q).tracked
theorem mL.Hy{K:af}{H:Hp}{G:Gp}{a:Addr}{xs:List V}(h:mL K H G)(e:H a=some (.tup xs)):G a=none:=by
 cases q:G a with
 | none=>rfl
 | some g =>
  have z:=h a g q;cases g with
  | lst ds=>obtain⟨vs,q,r⟩:=z; rw [e] at q; cases q
  | ins c fs=>obtain⟨C,dx,fv,q,_⟩:=z; rw [e] at q; cases q
  | sV bF =>
   rcases z with ⟨kv,q,r⟩ | ⟨kv,q,r⟩
   ·rw [e] at q; cases q
   ·rw [e] at q; cases q
theorem mL.Hz{K:af}{H:Hp}{G:Gp}{a:Addr}{o:Obj}{u:HO}(h:mL K H G)(e:H a=some (.la o u)):G a=none:=by
 cases q:G a with
 | none=>rfl
 | some g =>
  have z:=h a g q;cases g with
  | lst ds=>obtain⟨vs,q,r⟩:=z; rw [e] at q; cases q
  | ins c fs=>obtain⟨C,dx,fv,q,_⟩:=z; rw [e] at q; cases q
  | sV bF =>
   rcases z with ⟨kv,q,r⟩ | ⟨kv,q,r⟩
   ·rw [e] at q; cases q
   ·rw [e] at q; cases q
structure Mv(K:af)(H:Hp)(G:Gp)(H':Hp)(G':Gp):Prop where
 keep:∀ a o,H a=some o->G a=none->H' a=some o/\G' a=none
 mR:∀ a,G a≠none->H' a≠none
 ab:mL K H' G'
theorem Mv.refl{K:af}{H:Hp}{G:Gp}(h:mL K H G):Mv K H G H G:=⟨fun _ _ e n=>⟨e,n⟩,fun a n=>by
 cases q:G a with
 | none=>exact absurd q n
 | some g=>exact(h a g q).tracked,h⟩
theorem Mv.trans{K:af}{H H1 H2:Hp}{G G1 G2:Gp}(a:Mv K H G H1 G1)(b:Mv K H1 G1 H2 G2):Mv K H G H2 G2 :=
 ⟨fun c o e n=>let ⟨e1,n1⟩:=a.keep c o e n; b.keep c o e1 n1,fun c n=>by
  have h1:=a.mR c n;cases q:G1 c with
  | some g=>exact b.mR c (by rw [q]; simp)
  | none =>
   cases q1:H1 c with
   | none=>exact absurd q1 h1
   | some o=>rw [(b.keep c o q1 q).1]; simp,b.ab⟩
theorem Mv.kp{K:af}{H H':Hp}{G G':Gp}(m:Mv K H G H' G')(h:mL K H G):Kp H H' :=
 ⟨fun a xs e=>(m.keep a _ e (h.Hy e)).1,fun a o u e=>(m.keep a _ e (h.Hz e)).1⟩
theorem Kp.new{H:Hp}{p:Addr}{o:HO}(hp:H p=none):Kp H (upd H p o):=⟨fun a xs e=>by rw [bc (cz e hp)]; exact e,fun a ob u e=>by rw [bc (cz e hp)]; exact e⟩
theorem Kp.putL{H:Hp}{p:Addr}{xs:List V}{o:HO}(hp:H p=some (.lst xs)):Kp H (upd H p o) :=
 ⟨fun a ys e=>by rw [bc (by rintro rfl; rw [hp] at e; cases e)]; exact e,fun a ob u e=>by rw [bc (by rintro rfl; rw [hp] at e; cases e)]; exact e⟩
theorem Mv.new{K:af}{H:Hp}{G:Gp}{p:Addr}{o:HO}{g:GO}(h:mL K H G)(hp:H p=none)(ho:EL K (upd H p o) p g):Mv K H G (upd H p o) (mP G p g) where
 keep:=fun a ob e n=>by
  have ne:=cz e hp;exact⟨by rw [bc ne]; exact e,by rw [ib ne]; exact n⟩
 mR:=fun a n=>by
  have ne:a≠p:=by rintro rfl; exact n (h.free hp)
  rw [bc ne];exact(Mv.refl h).mR a n
 ab:=fun a g' e=>by
  by_cases ha:a=p
  ·subst ha; rw [eC] at e; cases e; exact ho
  ·rw [ib ha] at e;exact(h a g' e).mono (.new hp) (bc ha)
theorem Mv.Kg{K:af}{H:Hp}{G:Gp}{p:Addr}{o:HO}(h:mL K H G)(hp:H p=none):Mv K H G (upd H p o) G where
 keep:=fun a ob e n=>⟨by rw [bc (cz e hp)]; exact e,n⟩
 mR:=fun a n=>by
  have ne:a≠p:=by rintro rfl; exact n (h.free hp)
  rw [bc ne];exact(Mv.refl h).mR a n
 ab:=fun a g' e=>by
  have ne:a≠p:=by rintro rfl; rw [h.free hp] at e; cases e
  exact(h a g' e).mono (.new hp) (bc ne)
theorem Mv.put{K:af}{H:Hp}{G:Gp}{p:Addr}{o:HO}{g g0:GO}(h:mL K H G)(hg:G p=some g0)(k:Kp H (upd H p o))(ho:EL K (upd H p o) p g):Mv K H G (upd H p o) (mP G p g) where
 keep:=fun a ob e n=>by
  have ne:a≠p:=by rintro rfl; rw [hg] at n; cases n
  exact⟨by rw [bc ne]; exact e,by rw [ib ne]; exact n⟩
 mR:=fun a n=>by
  by_cases ha:a=p
  ·subst ha; rw [cj]; simp
  ·rw [bc ha]; exact(Mv.refl h).mR a n
 ab:=fun a g' e=>by
  by_cases ha:a=p
  ·subst ha; rw [eC] at e; cases e; exact ho
  ·rw [ib ha] at e;exact(h a g' e).mono k (bc ha)
theorem mL.lst{K:af}{H:Hp}{G:Gp}{a:Addr}{ds:List D}(h:mL K H G)(e:G a=some (.lst ds)):∃ vs,H a=some (.lst vs)/\bp K H vs ds:=h a _ e
theorem Mv.HB{K:af}{H:Hp}{G:Gp}{p:Addr}{vs:List V}{ds:List D}(h:mL K H G)(hp:H p=none)(r:bp K H vs ds):Mv K H G (upd H p (.lst vs)) (mP G p (.lst ds)) :=
 .new h hp ⟨vs,cj,r.mono (.new hp)⟩
theorem Mv.putL{K:af}{H:Hp}{G:Gp}{p:Addr}{LP vs:List V}{Nr ds:List D}(h:mL K H G)(hg:G p=some (.lst Nr))(hp:H p=some (.lst LP))(r:bp K H vs ds):Mv K H G (upd H p (.lst vs)) (mP G p (.lst ds)) :=
 .put h hg (.putL hp) ⟨vs,cj,r.mono (.putL hp)⟩
structure Dq(K:af)(H:Hp)(σ:L2.St)(τ:i6):Prop where
 len:σ.length=τ.length
 at':∀ (i:Nat) (d:D),τ[i]?=some (some d)->∃ v,σ[i]?=some (some v)/\cf K H v d
theorem Dq.mono{K:af}{H H':Hp}{σ:L2.St}{τ:i6}(k:Kp H H')(a:Dq K H σ τ):Dq K H' σ τ :=
 ⟨a.len,fun i d e=>let ⟨v,h1,h2⟩:=a.at' i d e; ⟨v,h1,h2.mono k⟩⟩
theorem Dq.set{K:af}{H:Hp}{σ:L2.St}{τ:i6}{v:V}{d:D}(a:Dq K H σ τ)(i:Nat)(r:cf K H v d):Dq K H (σ.set i (some v)) (τ.set i (some d)):=by
 refine⟨by rw [List.length_set,List.length_set]; exact a.len,fun j e h=>?_⟩;by_cases hj:i=j
 ·subst hj;by_cases hi:i < τ.length
  ·rw [lD hi] at h;cases h;exact⟨v,by rw [lD (by rw [a.len]; exact hi)],r⟩
  ·rw [List.set_eq_of_length_le (by lia)] at h;rw [Dv (by lia)] at h;cases h
 ·rw [mh hj] at h;obtain⟨w,h1,h2⟩:=a.at' j e h;exact⟨w,by rw [mh hj]; exact h1,h2⟩
structure I2(X:Cx)(pins:List (Addr×Obj))(σ:L2.St)(H:Hp)(τ:i6)(G:Gp)(s:au):Prop where
 inv:Inv X pins σ H s
 st:Dq X.K H σ τ
 ab:mL X.K H G
theorem I2.mv{X:Cx}{pins:List (Addr×Obj)}{σ:L2.St}{H H':Hp}{τ:i6}{G G':Gp}{s s':au}(I:I2 X pins σ H τ G s)(I':Inv X pins σ H' s')(m:Mv X.K H G H' G'):I2 X pins σ H' τ G' s' :=
 ⟨I',I.st.mono (m.kp I.ab),m.ab⟩
noncomputable def NI(P:bo)(w:World):Be:=fun outer H s E e s'=>∃ (a C t:Addr) (B:Heap) (H':Hp),e=.ref a/\s'.os=s.os/\t9 s'.gens/\Un (Bk outer) [] H H' s.heap s'.heap/\pf P w H' s'.heap /\
 (∀ b o,s'.heap.get? b=some o->b∉Bk outer->(s.heap.get? b≠none\/H' b≠none)->B.get? b=some o)/\PySem.Heap.FlyingW B outer a (.ref C) (.ref t) s'.heap/\H' a=none/\s.heap.get? a=none/\E (.ref C) none H'
noncomputable def Nk(K:af)(mg:Str->Option Value)(E:mr):XK:=fun cls _ H=>∃ (ex:Ex) (C:Addr) (G:Gp),cls=.ref C/\mg ex.cls=some (.ref C)/\mL K H G/\E ex G
structure Lk(X:Cx)(E:mr):Prop where
 made:∀ (pins:List (Addr×Obj)) (σ:L2.St) (H:Hp) (s:au) (h1:Heap) (a C:Addr) (args:List Value) (ex:Ex) (G:Gp),Inv X pins σ H s->mL X.K H G->PySem.Heap.MadeExcOf s.heap h1 a (.ref C) args->X.mg ex.cls=some (.ref C)->E ex G->X.xe (.ref a) { s with heap:=h1 }
 pass:∀ (pins:List (Addr×Obj)) (σ:L2.St) (H:Hp) (s s':au) (e:Value),Inv X pins σ H s->NI X.prog X.w X.stack H s (Nk X.K X.mg E) e s'->X.xe e s'
theorem Lk.none{X:Cx}{E:mr}(h:∀ ex G,¬ E ex G):Lk X E where
 made:=fun _ _ _ _ _ _ _ _ ex _ _ _ _ _ z=>absurd z (h ex _)
 pass:=fun _ _ _ _ _ _ _ hc=>by
  obtain⟨_,_,_,_,_,_,_,_,_,_,_,_,_,_,hz⟩:=hc;obtain⟨ex,_,_,_,_,_,z⟩:=hz;exact absurd z (h ex _)
inductive qE (X:Cx) (pins:List (Addr×Obj)) (σ:L2.St) (H:Hp) (G:Gp) (Q:DK) (u:Value) (s':au):Prop
 | mk (v:V) (H':Hp) (d:D) (G':Gp) (i:Inv X pins σ H' s') (m:Mv X.K H G H' G') (r:RelV v u) (rd:cf X.K H' v d) (q:Q d G'):qE X pins σ H G Q u s'
inductive GY (X:Cx) (pins:List (Addr×Obj)) (σ:L2.St) (H:Hp) (G:Gp) (Q:Bool->Gp->Prop) (b:Bool) (s':au):Prop
 | mk (H':Hp) (G':Gp) (i:Inv X pins σ H' s') (m:Mv X.K H G H' G') (q:Q b G'):GY X pins σ H G Q b s'
inductive LL (X:Cx) (pins:List (Addr×Obj)) (σ:L2.St) (H:Hp) (G:Gp) (Q:List D->Gp->Prop) (us:List Value) (s':au):Prop
 | mk (vs:List V) (H':Hp) (ds:List D) (G':Gp) (i:Inv X pins σ H' s') (m:Mv X.K H G H' G') (r:Vals vs us) (rd:bp X.K H' vs ds) (q:Q ds G'):LL X pins σ H G Q us s'
inductive Jl (X:Cx) (pins:List (Addr×Obj)) (H:Hp) (G:Gp) (P:i6->Gp->Prop) (s':au):Prop
 | mk (j0:L2.St) (H':Hp) (qI:i6) (G':Gp) (i:I2 X pins j0 H' qI G' s') (m:Mv X.K H G H' G') (q:P qI G'):Jl X pins H G P s'
inductive LG (X:Cx) (pins:List (Addr×Obj)) (H:Hp) (G:Gp) (P:D->Gp->Prop) (u:Value) (s':au):Prop
 | mk (v:V) (j0:L2.St) (H':Hp) (d:D) (G':Gp) (i:Inv X pins j0 H' s') (m:Mv X.K H G H' G') (r:RelV v u) (rd:cf X.K H' v d) (q:P d G'):LG X pins H G P u s'
noncomputable def IG(X:Cx)(pins:List (Addr×Obj))(H:Hp)(G:Gp)(D:oa)(f:Flow)(s':au):Prop :=
 match f with
 | .next=>Jl X pins H G D.nx s'
 | .brk=>Jl X pins H G D.bk s'
 | .cont=>Jl X pins H G D.ct s'
 | .ret u=>LG X pins H G D.rt u s'
noncomputable def hX(X:Cx)(e:Expr)(t:dM):Prop :=
 ∀ (E:mr) (pins:List (Addr×Obj)) (s:au) (σ:L2.St) (H:Hp) (τ:i6) (G:Gp) (Q:DK),Lk X E->I2 X pins σ H τ G s->t E τ G Q->wpAny (model X.prog X.w) X.A (eval e X.env) (qE X pins σ H G Q) X.xe s
noncomputable def DF(X:Cx)(e:Expr)(t:wN):Prop :=
 ∀ (E:mr) (pins:List (Addr×Obj)) (s:au) (σ:L2.St) (H:Hp) (τ:i6) (G:Gp) (Q:Bool->Gp->Prop),Lk X E->I2 X pins σ H τ G s->t E τ G Q->wpAny (model X.prog X.w) X.A (isTrue e X.env (eval e X.env)) (GY X pins σ H G Q) X.xe s
noncomputable def Fb(X:Cx)(e:Expr)(t:wN):Prop :=
 ∀ (wh:Sem Value) (E:mr) (pins:List (Addr×Obj)) (s:au) (σ:L2.St) (H:Hp) (τ:i6) (G:Gp) (Q:Bool->Gp->Prop),Lk X E->I2 X pins σ H τ G s->t E τ G Q->wpAny (model X.prog X.w) X.A (isTrue e X.env wh) (GY X pins σ H G Q) X.xe s
noncomputable def zk(X:Cx)(es:List Expr)(t:vc):Prop :=
 ∀ (pos:Pos) (E:mr) (pins:List (Addr×Obj)) (s:au) (σ:L2.St) (H:Hp) (τ:i6) (G:Gp) (Q:List D->Gp->Prop),Lk X E->I2 X pins σ H τ G s->t E τ G Q->wpAny (model X.prog X.w) X.A (qe (i4 pos (aX es X.env))) (LL X pins σ H G Q) X.xe s
noncomputable def Fc(X:Cx)(st:Stmt)(t:pb):Prop :=
 ∀ (E:mr) (pins:List (Addr×Obj)) (s:au) (σ:L2.St) (H:Hp) (τ:i6) (G:Gp) (D:oa),Lk X E->I2 X pins σ H τ G s->t E D τ G->wpAny (model X.prog X.w) X.A (exec st X.env) (IG X pins H G D) X.xe s
noncomputable def sZ(X:Cx)(st:List Stmt)(t:pb):Prop :=
 ∀ (E:mr) (pins:List (Addr×Obj)) (s:au) (σ:L2.St) (H:Hp) (τ:i6) (G:Gp) (D:oa),Lk X E->I2 X pins σ H τ G s->t E D τ G->wpAny (model X.prog X.w) X.A (execs st X.env) (IG X pins H G D) X.xe s
theorem IG.trans{X:Cx}{pins:List (Addr×Obj)}{H H1:Hp}{G G1:Gp}{D:oa}{f:Flow}{s':au}(m:Mv X.K H G H1 G1)(h:IG X pins H1 G1 D f s'):IG X pins H G D f s':=by
 cases f with
 | next=>obtain⟨j0,H',qI,G',I,m',q⟩:=h; exact⟨j0,H',qI,G',I,m.trans m',q⟩
 | brk=>obtain⟨j0,H',qI,G',I,m',q⟩:=h; exact⟨j0,H',qI,G',I,m.trans m',q⟩
 | cont=>obtain⟨j0,H',qI,G',I,m',q⟩:=h; exact⟨j0,H',qI,G',I,m.trans m',q⟩
 | ret u=>obtain⟨v,j0,H',d,G',I,m',r,rd,q⟩:=h; exact⟨v,j0,H',d,G',I,m.trans m',r,rd,q⟩
section
variable {X:Cx} {a b c:Expr} {ta tb tc:dM} {pos:Pos}
theorem mB{pins:List (Addr×Obj)}{σ:L2.St}{H:Hp}{τ:i6}{G:Gp}{s:au}{E:mr}{R:DK}{Q:Value->au->Prop}(ha:hX X a ta)(hE:Lk X E)(I:I2 X pins σ H τ G s)(h:ta E τ G R)
  (k:∀ v H1 d G1 u s1,I2 X pins σ H1 τ G1 s1->Mv X.K H G H1 G1->RelV v u->cf X.K H1 v d->R d G1->Q u s1):wpAny (model X.prog X.w) X.A (eval a X.env) Q X.xe s :=
 fX (ha E pins s σ H τ G R hE I h) (by rintro u s1 ⟨v,H1,d,G1,I1,m,r,rd,q⟩; exact k v H1 d G1 u s1 (I.mv I1 m) m r rd q)
theorem qE.trans{pins:List (Addr×Obj)}{σ:L2.St}{H H1:Hp}{G G1:Gp}{Q:DK}{u:Value}{s':au}(m:Mv X.K H G H1 G1)(h:qE X pins σ H1 G1 Q u s'):qE X pins σ H G Q u s':=by
 obtain⟨v,H',d,G',I,m',r,rd,q⟩:=h;exact⟨v,H',d,G',I,m.trans m',r,rd,q⟩
theorem GY.trans{pins:List (Addr×Obj)}{σ:L2.St}{H H1:Hp}{G G1:Gp}{Q:Bool->Gp->Prop}{u:Bool}{s':au}(m:Mv X.K H G H1 G1)(h:GY X pins σ H1 G1 Q u s'):GY X pins σ H G Q u s':=by
 obtain⟨H',G',I,m',r⟩:=h;exact⟨H',G',I,m.trans m',r⟩
theorem D5 {i:Nat} {x:Str} (hN:X.N[i]?=some x) (hv:IC X.env.scope x) (hd:autoParam ((x == ("__debug__" : Str))=false) Ad._auto_1) (w7:autoParam ((x == ("__classdict__" : Str))=false) Ad._auto_1):hX X (.Name x pos) (a9 i):=by
 intro E pins s σ H τ G Q hE I h;unfold a9 at h;split at h
 ·rename_i d e;obtain⟨v,h1,h2⟩:=I.st.at' i d e;exact fX (Ca hN hv hd w7 pins s σ H (fun v' H'=>v'=v/\H'=H) I.inv ⟨v,h1,rfl,rfl⟩) fun u s1 HQ=>by
   obtain⟨v',H',I1,r,e1,e2⟩:=HQ;subst e1; subst e2;exact⟨_,_,d,G,I1,.refl I.ab,r,h2,h⟩
 ·exact h.elim
theorem qm{e:Expr}{v:V}{d:D}(h:PE X e (tC v))(r:∀ K H,cf K H v d):hX X e (dC d):=by
 intro E pins s σ H τ G Q hE I hq;exact fX (h pins s σ H (fun v' H'=>v'=v/\H'=H) I.inv ⟨rfl,rfl⟩) fun u s1 MM=>by
  obtain⟨v',H',I1,rr,e1,e2⟩:=MM;subst e1; subst e2;exact⟨_,_,d,G,I1,.refl I.ab,rr,r _ _,hq⟩
theorem cm{i j}:hX X (.Constant (.int i) j pos) (dC (.int i)):=qm FC fun _ _=>.int i
noncomputable def vd(X:Cx)(f:Value->Value->Sem Value)(r:Dj):Prop :=
 ∀ (pins:List (Addr×Obj)) (s:au) (σ:L2.St) (H:Hp) (G:Gp) (x y:V) (dx dy:D) (v u:Value) (Q:DK),Inv X pins σ H s->mL X.K H G->RelV x v->RelV y u->cf X.K H x dx->cf X.K H y dy->r dx dy G Q ->
  wpAny (model X.prog X.w) X.A (f v u) (qE X pins σ H G Q) X.xe s
noncomputable def Dp(X:Cx)(f:Value)(r:List D->Gp->DK->Prop):Prop :=
 ∀ (pins:List (Addr×Obj)) (s:au) (σ:L2.St) (H:Hp) (G:Gp) (xs:List V) (ds:List D) (us:List Value) (Q:DK),Inv X pins σ H s->mL X.K H G->Vals xs us->bp X.K H xs ds->r ds G Q ->
  wpAny (model X.prog X.w) X.A (call f us) (qE X pins σ H G Q) X.xe s
noncomputable abbrev Di(K:af)(H:Hp)(G:Gp)(Q:DK):VK:=fun v H'=>∃ d G',Mv K H G H' G'/\cf K H' v d/\Q d G'
theorem qE.of{pins:List (Addr×Obj)}{σ:L2.St}{H:Hp}{G:Gp}{Q:DK}{u:Value}{s':au}(h:EP X pins σ (Di X.K H G Q) u s'):qE X pins σ H G Q u s':=by
 obtain⟨v,H',I,r,d,G',m,rd,q⟩:=h;exact⟨v,H',d,G',I,m,r,rd,q⟩
theorem Dg(ha:hX X a ta)(hb:hX X b tb){E:mr}{pins:List (Addr×Obj)}{s:au}{σ:L2.St}{H:Hp}{τ:i6}{G:Gp}{R:D->D->Gp->Prop}(hE:Lk X E)(I:I2 X pins σ H τ G s)
  (h:ta E τ G fun x G1=>tb E τ G1 fun y G2=>R x y G2) {Q:Value->au->Prop} {f:Value->Value->Sem Value}
  (hf:∀ v u s2 x y dx dy H2 G2,I2 X pins σ H2 τ G2 s2->Mv X.K H G H2 G2->RelV x v->RelV y u->cf X.K H2 x dx->cf X.K H2 y dy->R dx dy G2->wpAny (model X.prog X.w) X.A (f v u) Q X.xe s2) :
  wpAny (model X.prog X.w) X.A (eval a X.env) (fun v cS=>wpAny (model X.prog X.w) X.A (eval b X.env) (fun u xT=>wpAny (model X.prog X.w) X.A (f v u) Q X.xe xT) X.xe cS) X.xe s:=by
 refine mB ha hE I h fun x H1 dx G1 v s1 I1 m1 r1 nR q1=>?_;refine mB hb hE I1 q1 fun y H2 dy G2 u s2 mw m2 r2 Fw q2=>?_;exact hf v u s2 x y dx dy H2 G2 mw (m1.trans m2) r1 r2 (nR.mono (m2.kp I1.ab)) Fw q2
theorem lX{op:Operator}{r:Dj}(ho:vd X (nC op) r)(ha:hX X a ta)(hb:hX X b tb):hX X (.BinOp a op b pos) (cV r ta tb):=by
 intro E pins s σ H τ G Q hE I h;exact wpAny_BinOp (Dg ha hb hE I h fun v u s2 x y dx dy H2 G2 mw m rx ry dX dY q=>fX (ho pins s2 σ H2 G2 x y dx dy v u Q mw.inv mw.ab rx ry dX dY q) fun _ _ z=>z.trans m)
theorem yX{op:CmpOp}{r:Dj}(ho:vd X (nI op) r)(ha:hX X a ta)(hb:hX X b tb)(hm:behindInMarks op b=false):hX X (.Compare a [op] [b] pos) (cV r ta tb):=by
 intro E pins s σ H τ G Q hE I h;exact wpAny_Compare1 (Dg ha hb hE I h fun v u s2 x y dx dy H2 G2 mw m rx ry dX dY q=>fX (ho pins s2 σ H2 G2 x y dx dy v u Q mw.inv mw.ab rx ry dX dY q) fun _ _ z=>z.trans m) hm
end
end K2
end
section
namespace K2
open PySem PySem.Spec PyProof.Rows L2
theorem Hi{K:af}{H:Hp}{G:Gp}{x:V}{d:D}{k:Bool}(ab:mL K H G)(r:cf K H x d)(e:BO d G=some k):(∃ p,x=.ref p/\Rd H p (.dT [])/\k=false)\/(∃ p kv,x=.ref p/\Rd H p (.dK kv)/\k=!kv.isEmpty)\/GC K x H k:=by
 have CY:∀ bF:List (D×D),(if (bF.all fun p=>dj p.1)=true then some (!bF.isEmpty) else none)=some k->∀ p,((∃ kv,Rd H p (.dK kv)/\qF K H kv bF)\/∃ kv,Rd H p (.dT kv)/\ro K H kv bF) ->
   (∃ p',V.ref p=.ref p'/\Rd H p' (.dT [])/\k=false)\/(∃ p' kv,V.ref p=.ref p'/\Rd H p' (.dK kv)/\k=!kv.isEmpty)\/GC K (.ref p) H k:=by
  intro bF e p z;by_cases ha:(bF.all fun p=>dj p.1)=true
  ·rw [if_pos ha] at e;cases e;rcases z with ⟨kv,hv,rs⟩ | ⟨kv,hv,rs⟩
   ·right; left;refine⟨p,kv,rfl,hv,?_⟩;cases rs <;> rfl
   ·left;cases rs with
    | nil=>exact⟨p,rfl,hv,rfl⟩
    | cons _ _=>simp [dj] at ha
  ·rw [if_neg ha] at e; cases e
 cases r with
 | l7=>right; right; cases e; rfl
 | bl b=>right; right; cases e; rfl
 | int i=>right; right; cases e; rfl
 | str y =>
  right; right;unfold BO at e;dsimp only at e;by_cases h:y.length<=SZ
  ·rw [if_pos h] at e; cases e; exact⟨by rw [bR]; exact h,rfl⟩
  ·rw [if_neg h] at e; cases e
 | tup h rs =>
  right; right;cases e;refine .inr (.inl ⟨_,.of h,?_⟩);cases rs <;> rfl
 | dB h rs =>
  right; right;cases e;refine .inl ⟨_,h.sq,?_⟩;cases rs <;> rfl
 | sP h rs=>exact CY _ e _ (.inl ⟨_,.inr ⟨_,h⟩,rs⟩)
 | sO h rs=>exact CY _ e _ (.inr ⟨_,.inr ⟨_,h⟩,rs⟩)
 | exc h=>simp [BO] at e
 | pW h _=>simp [BO] at e
 | ref a =>
  unfold BO at e;dsimp only at e;cases q:G a with
  | none=>rw [q] at e; cases e
  | some g =>
   rw [q] at e;have z:=ab a g q;cases g with
   | lst ds =>
    right; right;obtain⟨vs,hv,rs⟩:=z;cases e;refine .inl ⟨vs,.of hv,?_⟩;cases rs <;> rfl
   | ins _ _=>cases e
   | sV bF =>
    refine CY bF e a ?_;rcases z with ⟨kv,hv,rs⟩ | ⟨kv,hv,rs⟩
    ·exact .inl ⟨kv,.inl hv,rs⟩
    ·exact .inr ⟨kv,.inl hv,rs⟩
section
variable {X:Cx} {a b c:Expr} {ta tb tc:dM} {pos:Pos}
noncomputable def IE(X:Cx):Prop:=∀ (pins:List (Addr×Obj)) (s:au) (σ:L2.St) (H:Hp) (G:Gp) (x:V) (d:D) (v:Value) (k:Bool) (Q:Bool->au->Prop),Inv X pins σ H s->mL X.K H G->RelV x v->cf X.K H x d->BO d G=some k ->
  (∀ s',Inv X pins σ H s'->Q k s')->wpAny (model X.prog X.w) X.A (truthy v) Q X.xe s
theorem BN:IE X:=by
 intro pins s σ H G x d v k Q I ab rx rd e q;rcases Hi ab rd e with ⟨p,rfl,hv,hk⟩ | ⟨p,kv,rfl,hv,hk⟩ | h
 ·obtain⟨z,hS,xs,rel,o,es,ep,ho,hx,AX,hl,nd⟩:=hv.ok I.dr;have GP:xs=[]:=by cases rel; rfl
  subst GP;have he:es=#[]:=by simpa using hl
  subst he;cases rx;have dd:s.heap.DictOf (dQ X.prog X.w) p []:=⟨o,#[],ep,ho,hx,AX,(fun _ h=>by simp at h),.nil,qW⟩;refine w8 hS dd (by simp) ?_;subst hk;exact q _ (I.tok _)
 ·cases rx;subst hk;exact Ep I hv q
 ·exact fX (Fh pins s σ H x v (fun k' H'=>k'=k/\H'=H) I rx ⟨k,h,rfl,rfl⟩) fun k' s' HQ=>by
   obtain⟨H',I',e1,e2⟩:=HQ;subst e1; subst e2; exact q s' I'
theorem oh(ha:hX X a ta)(he:autoParam (∀ whole,isTrue a X.env whole=(do let v ← whole; standAt a.pos; holding [v] (truthy v))) Ai._auto_1):DF X a (qD ta):=by
 intro E pins s σ H τ G Q hE I h;refine isTrue_plain (mB ha hE I h fun x H1 d G1 v s1 I1 m1 r1 nR q1=>?_) (he _)
 try dsimp only at q1
 split at q1
 ·rename_i k e;exact BN pins s1 σ H1 G1 x d v k _ I1.inv I1.ab r1 nR e fun s' I'=>⟨H1,G1,I',m1,q1⟩
 ·exact q1.elim
theorem oi{op:CmpOp}{r:Dj}(ho:vd X (nI op) r)(ha:hX X a ta)(hb:hX X b tb)(hm:behindInMarks op b=false):DF X (.Compare a [op] [b] pos) (qD (cV r ta tb)):=by
 intro E pins s σ H τ G Q hE I h;refine wpAny_isTrue_Compare1 (mB ha hE I h fun x H1 dx G1 v s1 I1 m1 r1 nR q1=>mB hb hE I1 q1 fun y H2 dy G2 u s2 mw m2 r2 Fw q2 =>
  fX (ho pins s2 σ H2 G2 x y dx dy v u _ mw.inv mw.ab r1 r2 (nR.mono (m2.kp I1.ab)) Fw q2) ?_) hm
 rintro c s3 ⟨z,H3,dz,G3,I3,m3,r3,Ma,q3⟩
 try dsimp only at q3
 split at q3
 ·rename_i k e;exact BN pins s3 σ H3 G3 z dz c k _ I3 m3.ab r3 Ma e fun s' I'=>⟨H3,G3,I',(m1.trans m2).trans m3,q3⟩
 ·exact q3.elim
variable {tA tB:wN} {rest:List Expr}
theorem Fb.pt{e:Expr}{t:wN}(h:Fb X e t):DF X e t:=fun E pins s σ H τ G Q hE I q=>h _ E pins s σ H τ G Q hE I q
theorem Fn{pins:List (Addr×Obj)}{σ:L2.St}{H:Hp}{τ:i6}{G:Gp}{s:au}{E:mr}{R:Bool->Gp->Prop}{Q:Bool->au->Prop}(ha:DF X a tA)(hE:Lk X E)(I:I2 X pins σ H τ G s)(h:tA E τ G R)
  (k:∀ c H1 G1 s1,I2 X pins σ H1 τ G1 s1->Mv X.K H G H1 G1->R c G1->Q c s1):wpAny (model X.prog X.w) X.A (isTrue a X.env (eval a X.env)) Q X.xe s :=
 fX (ha E pins s σ H τ G R hE I h) (by rintro c s1 ⟨H1,G1,I1,m,q⟩; exact k c H1 G1 s1 (I.mv I1 m) m q)
theorem uI(ha:DF X a tA):Fb X (.BoolOp .Or [a] pos) tA:=by
 intro wh E pins s σ H τ G Q hE I h;refine isTrue_or (fX (ha E pins s σ H τ G Q hE I h) fun c s1 e=>?_);cases c with
 | false=>exact isTrue_or_nil e
 | true=>exact e
theorem rP(ha:DF X a tA)(hb:Fb X (.BoolOp .Or (b :: rest) pos) tB):Fb X (.BoolOp .Or (a :: b :: rest) pos) (Er tA tB):=by
 intro wh E pins s σ H τ G Q hE I h;refine isTrue_or (Fn ha hE I h fun c H1 G1 s1 I1 m1 q1=>?_);cases c with
 | false=>exact fX (hb wh E pins s1 σ H1 τ G1 Q hE I1 (by simpa using q1)) fun _ _ z=>z.trans m1
 | true=>exact⟨H1,G1,I1.inv,m1,by simpa using q1⟩
theorem ri(ha:DF X a tA):DF X (.UnaryOp .Not a pos) (wD tA):=by
 intro E pins s σ H τ G Q hE I h;exact isTrue_not (fX (ha E pins s σ H τ G (fun c H1=>Q (!c) H1) hE I h) (by rintro c s' ⟨H',G',i,m,q⟩; exact⟨H',G',i,m,q⟩))
theorem yV{op}{t:dM}(h:hX X a t):hX X (.BoolOp op [a] pos) t:=fun E pins s σ H τ G Q hE I hw=>BoolOp_one (h E pins s σ H τ G Q hE I hw)
theorem yY(ha:hX X a ta)(hb:hX X (.BoolOp .And (b :: rest) pos) tb):hX X (.BoolOp .And (a :: b :: rest) pos) (wI ta tb):=by
 intro E pins s σ H τ G Q hE I h;refine BoolOp_and (mB ha hE I h fun x H1 d G1 v s1 I1 m1 r1 nR q1=>?_)
 try dsimp only at q1
 split at q1
 ·rename_i e;exact BN pins s1 σ H1 G1 x d v true _ I1.inv I1.ab r1 nR e fun s' I'=>fX (hb E pins s' σ H1 τ G1 Q hE ⟨I',I1.st,I1.ab⟩ q1) fun _ _ z=>z.trans m1
 ·rename_i e;exact BN pins s1 σ H1 G1 x d v false _ I1.inv I1.ab r1 nR e fun s' I'=>⟨x,H1,d,G1,I',m1,r1,nR,q1⟩
 ·exact q1.elim
theorem D6(ha:hX X a ta):hX X (.UnaryOp .Not a pos) (C6 ta):=by
 intro E pins s σ H τ G Q hE I h;refine UnaryOp_ (mB ha hE I h fun x H1 d G1 v s1 I1 m1 r1 nR q1=>?_)
 try dsimp only at q1
 split at q1
 ·rename_i k e;exact not_of (BN pins s1 σ H1 G1 x d v k _ I1.inv I1.ab r1 nR e fun s' I'=>⟨.bl (!k),H1,.bl (!k),G1,I',m1,rfl,.bl _,q1⟩)
 ·exact q1.elim
variable {e:Expr} {es:List Expr} {te:dM} {t:vc}
theorem bf:zk X [] cq:=fun _ _ _ _ _ H _ G Q _ I h=>lE ⟨[],H,[],G,I.inv,.refl I.ab,.nil,.nil,h⟩
theorem aH(ha:hX X e te)(hr:zk X es t)(hs:autoParam (aX (e :: es) X.env=(false,eval e X.env) :: aX es X.env) Ar._auto_1):zk X (e :: es) (aQ te t):=by
 intro pos E pins s σ H τ G Q hE I h;rw [hs];show wpAny _ _ (qe ((false,eval e X.env) :: i4 pos (aX es X.env))) _ _ s;refine cD (mB ha hE I h fun x H1 d G1 u s1 I1 m1 r1 nR q1=>?_);exact fX (hr pos E pins s1 σ H1 τ G1 _ hE I1 q1) (by rintro us s2 ⟨xs,H2,ds,G2,mw,m2,r2,Fw,q2⟩; exact⟨x :: xs,H2,d :: ds,G2,mw,m1.trans m2,.cons r1 r2,.cons (nR.mono (m2.kp I1.ab)) Fw,q2⟩)
theorem Aj{pins:List (Addr×Obj)}{σ:L2.St}{H:Hp}{τ:i6}{G:Gp}{s:au}{E:mr}{R:List D->Gp->Prop}{Q:List Value->au->Prop}(ha:zk X es t)(pos:Pos)(hE:Lk X E)(I:I2 X pins σ H τ G s)(h:t E τ G R)
  (k:∀ vs H1 ds G1 us s1,I2 X pins σ H1 τ G1 s1->Mv X.K H G H1 G1->Vals vs us->bp X.K H1 vs ds->R ds G1->Q us s1):wpAny (model X.prog X.w) X.A (qe (i4 pos (aX es X.env))) Q X.xe s :=
 fX (ha pos E pins s σ H τ G R hE I h) (by rintro us s1 ⟨vs,H1,ds,G1,I1,m,r,rd,q⟩; exact k vs H1 ds G1 us s1 (I.mv I1 m) m r rd q)
theorem lI(h:zk X es t):hX X (.List es pos) (o1 t):=by
 intro E pins s σ H τ G Q hE I hq;refine wpAny_List_spliced (Aj h pos hE I hq ?_);rintro xs H1 ds G1 us s1 I1 m1 r rd ⟨z,q⟩;refine⟨by rw [<-r.length,rd.length,bR]; exact z,?_⟩;have hf:H1 s1.heap.objs.size=none:=I1.inv.dr.fresh (ck _);refine⟨.ref s1.heap.objs.size,upd H1 s1.heap.objs.size (.lst xs),.ref _,mP G1 s1.heap.objs.size (.lst ds),I1.inv.laid (t':=s1.toks) (fun b u e=>aM _ e) (ck _) ?_,m1.trans (.HB I1.ab hf rd),rfl,.ref _,q _ (I1.ab.free hf)⟩;exact⟨by rw [rd.length,bR]; exact z,us,0,r,da _ rfl⟩
noncomputable def nN(K:af)(sp:Bn):Sp:=fun vs H Q _=>∃ ds G Q2,bp K H vs ds/\mL K H G/\sp ds G Q2 (fun _ _=>False)/\∀ d G' v H',Q2 d G'->Mv K H G H' G'->cf K H' v d->Q v H'
variable {k:Nat} {f:Addr} {fd:bh} {ps:List Str} {sp:Bn} {x:Str} {p:Pos} {r:List D->Gp->DK->Prop} {id:String}
theorem Cb(F:l4 X.prog X.w X.K X.mg X.base qd k f fd ps (nN X.K sp))(hr:jU k X.A)(hg:Gl X x)(hm:X.mg x=some (.ref f))(hk:fk X.K (.ref f)=true)(hb:Binds X.K fd ps [])
  (ha:zk X (e :: es) t) (uV:autoParam ((x == ("__debug__" : Str))=false) Ad._auto_1) (he:autoParam (aX (e :: es) X.env=(false,eval e X.env) :: aX es X.env) Ar._auto_1) (sE:autoParam ((i4 pos (aX es X.env)).any (·.1)=false) Ar._auto_1) :
  hX X (.Call (.Name x p) (e :: es) [] pos) (fun E τ G Q=>hW (fun ds G1 Q1 _=>sp ds G1 Q1 fun _ _=>False) t E τ G Q):=by
 intro E pins s σ H τ G Q hE I h;refine eA (pO I.inv hg hm ?_ uV);refine qU (h₀:=X.base) I.inv.ok.mod.HJ hk (Aj ha pos hE I h fun vs H1 ds G1 us s1 I1 m1 r rd q=>⟨I1.inv.o9,?_⟩) he sE;refine fX (Fu F hr hb .nil Ht I1.inv r (Q:=Di X.K H1 G1 Q) ?_) fun _ _ z=>(qE.of z).trans m1;rw [ia];exact⟨ds,G1,Q,rd,I1.ab,q,fun d G' v H' q' m' Mb=>⟨d,G',m',Mb,q'⟩⟩
theorem AH (hc:Dp X (.builtin id) r) (hg:Gl X x) (hm:X.mg x=none) (hv:i7 x=some (.builtin id)) (ha:zk X (e :: es) t) (hn:autoParam (x≠"__name__") Ad._auto_1) (uV:autoParam ((x == ("__debug__" : Str))=false) Ad._auto_1)
  (he:autoParam (aX (e :: es) X.env=(false,eval e X.env) :: aX es X.env) Ar._auto_1) (sE:autoParam ((i4 pos (aX es X.env)).any (·.1)=false) Ar._auto_1):hX X (.Call (.Name x p) (e :: es) [] pos) (KC r t):=by
 intro E pins s σ H τ G Q hE I h;refine eA (oT I.inv hg hm hv ?_ hn uV);exact cG (Aj ha pos hE I h fun vs H1 ds G1 us s1 I1 m1 r1 nR q1=>fX (hc pins s1 σ H1 G1 vs ds us Q I1.inv I1.ab r1 nR q1) fun _ _ z=>z.trans m1) he sE
variable {st:Stmt} {KW:List Stmt} {u v:pb}
theorem nT:sZ X [] oM:=fun _ _ _ σ H τ G _ _ I h=>rq ⟨σ,H,τ,G,I,.refl I.ab,h⟩
theorem cc(h1:Fc X st u)(h2:sZ X KW v):sZ X (st :: KW) (k6 u v):=by
 intro E pins s σ H τ G D hE I h;refine qG (fX (h1 E pins s σ H τ G { D with nx:=v E D } hE I h) fun f s1 q=>?_);cases f with
 | next =>
  obtain⟨j0,H',qI,G',I',m,q⟩:=q;exact fX (h2 E pins s1 j0 H' qI G' D hE I' q) fun _ _ z=>z.trans m
 | ret v=>exact q
 | brk=>exact q
 | cont=>exact q
theorem fu(h1:Fc X st u):sZ X [st] u:=by
 intro E pins s σ H τ G D hE I h;refine qG (fX (h1 E pins s σ H τ G D hE I h) fun f s1 q=>?_);cases f with
 | next=>exact rq q
 | ret v=>exact q
 | brk=>exact q
 | cont=>exact q
theorem kU(he:hX X e te):Fc X (.Return (some e) pos) (nq te):=by
 intro E pins s σ H τ G D hE I h;exact wpAny_Return_some (fX (he E pins s σ H τ G _ hE I h) (by rintro v s1 ⟨x,H1,d,G1,I1,m,r1,rd,q1⟩; exact⟨x,σ,H1,d,G1,I1,m,r1,rd,q1⟩))
theorem rQ{sa sb:List Stmt}(hc:DF X c tA)(ha:sZ X sa u)(hb:sZ X sb v):Fc X (.If c sa sb pos) (sX tA u v):=by
 intro E pins s σ H τ G D hE I h;refine wpAny_If (Fn hc hE I h fun d H1 G1 s1 I1 m1 q1=>?_);cases d with
 | true=>exact fX (ha E pins s1 σ H1 τ G1 D hE I1 (by simpa using q1)) fun _ _ z=>z.trans m1
 | false=>exact fX (hb E pins s1 σ H1 τ G1 D hE I1 (by simpa using q1)) fun _ _ z=>z.trans m1
noncomputable def Ha(X:Cx)(target:Expr)(t:Bl):Prop :=
 ∀ (E:mr) (pins:List (Addr×Obj)) (s:au) (σ:L2.St) (H:Hp) (τ:i6) (G:Gp) (w:V) (d:D) (u:Value) (Q:i6->Gp->Prop),Lk X E->I2 X pins σ H τ G s->RelV w u->cf X.K H w d->t E d τ G Q ->
  wpAny (model X.prog X.w) X.A (assign target X.env u) (fun _ s'=>∃ j0 H' qI G',I2 X pins j0 H' qI G' s'/\Mv X.K H G H' G'/\Q qI G') X.xe s
theorem B9{i:Nat}{x:Str}(hN:X.N.Nodup)(hi:X.N[i]?=some x)(hx:Loc X.env.scope x)(hf:autoParam (X.fn x=true\/X.env.scope.names.lookup x=some .local) Ao._auto_1):Ha X (.Name x pos) (du i):=by
 intro E pins s σ H τ G w d u Q hE I r rd h;exact wpAny_assign_Name (vO I.inv hN hi hx r (fun s' I'=>⟨_,H,_,G,⟨I',I.st.set i rd,I.ab⟩,.refl I.ab,h⟩) hf)
theorem D3{i:Nat}{x:Str}{pos':Pos}(hN:X.N.Nodup)(hi:X.N[i]?=some x)(hx:Loc X.env.scope x)(he:hX X e te)(hs:autoParam (vp e (some (.Name x pos')) pos.line X.env=pure false) Ar._auto_1)(hf:autoParam (X.fn x=true\/X.env.scope.names.lookup x=some .local) Ao._auto_1) :
  Fc X (.Assign [.Name x pos'] e pos) (mJ te (du i)):=by
 intro E pins s σ H τ G D hE I h;refine wpAny_Assign_Name (mB he hE I h fun y H1 d G1 v s1 I1 m1 r1 nR q1=>?_) hs;exact vO I1.inv hN hi hx r1 (fun s2 mw=>⟨_,H1,_,G1,⟨mw,I1.st.set i nR,I1.ab⟩,m1,q1⟩) hf
theorem mD(he:hX X e te)(hs:autoParam (vp e none pos.line X.env=pure false) Ar._auto_1):Fc X (.Expr e pos) (n6 te):=by
 intro E pins s σ H τ G D hE I h;exact wpAny_Expr_any (mB he hE I h fun y H1 d G1 v s1 I1 m1 r1 nR q1=>⟨σ,H1,τ,G1,I1,m1,q1⟩) I.inv.quiet hs
end
end K2
end
section
namespace K2
open PySem PySem.Spec PyProof.Rows L2
noncomputable def E8(K:af)(J:It)(H':Hp)(ds:List D)(ok:Gp->Prop):Prop :=
 ∀ i H1 G1,Kp H' H1->mL K H1 G1->ok G1->(∀ d,ds[i]?=some d->J.go i H1/\∀ x H2,J.KR i H1 x H2->cf K H2 x d/\Mv K H1 G1 H2 G1)/\(ds.length<=i->J.stop i H1)
inductive GD (X:Cx) (pins:List (Addr×Obj)) (σ:L2.St) (tg:Expr) (H:Hp) (G:Gp) (R:List D->(Gp->Prop)->Gp->Prop) (FW:Value) (s2:au):Prop
 | mk (it:Addr) (fp:List Addr) (tn:Nat->Heap->Prop) (J:It) (H':Hp) (G':Gp) (ds:List D) (ok:Gp->Prop) (e:FW=.ref it) (i:Inv X pins σ H' s2) (m:Mv X.K H G H' G') (T:Turn X.prog X.w X.K tg J fp it tn) (t0:tn 0 s2.heap) (f:∀ b∈fp,rg X pins H' b)
  (wk:E8 X.K J H' ds ok) (q:R ds ok G'):GD X pins σ tg H G R FW s2
noncomputable def Jn(X:Cx)(tg iter:Expr)(wi:GZ):Prop :=
 ∀ (E:mr) (pins:List (Addr×Obj)) (s:au) (σ:L2.St) (H:Hp) (τ:i6) (G:Gp) (R:List D->(Gp->Prop)->Gp->Prop),Lk X E->I2 X pins σ H τ G s->wi E τ G R ->
  wpAny (model X.prog X.w) X.A (eval iter X.env) (fun v s1=>wpAny (model X.prog X.w) X.A (pyIter v) (GD X pins σ tg H G R) X.xe s1) X.xe s
section
variable {X:Cx} {tg:Expr} {a b:Expr} {ta tb:dM} {pos p:Pos}
theorem Fv{pins:List (Addr×Obj)}{σ:L2.St}{H H1:Hp}{G G1:Gp}{s:au}{R:List D->(Gp->Prop)->Gp->Prop}{lo hi:Int}{t u v:Tok}{tk:Nat}(I:Inv X pins σ H1 s)(m:Mv X.K H G H1 G1)(h1:-(2 ^ 62)<=lo)(h2:lo < 2 ^ 62)(h3:-(2 ^ 62)<=hi)(h4:hi < 2 ^ 62)
  (q:R (i9 lo (hi - lo).toNat) (fun _=>True) G1):wpAny (model X.prog X.w) X.A (pyIter (.ref s.heap.objs.size)) (GD X pins σ tg H G R) X.xe { s with heap:=s.heap.push { cls:=.type "range",data:=.fields #[.int lo t,.int hi u,.int 1 v] },toks:=tk }:=by
 refine fX (BZ (tg:=tg) I h1 h2 h3 h4 (R:=fun J H'=>J=KN lo (hi - lo).toNat/\H'=H1) ⟨rfl,rfl⟩) ?_;rintro FW s2 ⟨it,fp,tn,J,H',e,mw,T,st,fo,eJ,eH⟩;subst eJ; subst eH;refine⟨it,fp,tn,_,H',G1,_,_,e,mw,m,T,st,fo,fun i H2 G2 k ab _=>⟨fun d hd=>?_,fun hl=>?_⟩,q⟩
 ·unfold i9 at hd;rw [c4] at hd;cases Kh:(jZ (hi - lo).toNat)[i]? with
  | none=>rw [Kh] at hd; cases hd
  | some j =>
   rw [Kh] at hd;obtain⟨za,ej⟩:=List.getElem?_eq_some_iff.mp Kh;rw [List.length_range] at za;rw [List.getElem_range] at ej;subst ej;cases hd;refine⟨za,?_⟩;rintro x H3 ⟨e1,e2⟩;subst e1; subst e2;exact⟨.int _,.refl ab⟩
 ·unfold i9 at hl;rw [cO,List.length_range] at hl;exact hl
theorem oQ (hg:Gl X "range") (hm:X.mg "range" = none) (ha:hX X a ta) (hs:autoParam (aX [a] X.env=[(false,eval a X.env)]) Ar._auto_1):Jn X tg (.Call (.Name "range" p) [a] [] pos) (wj ta):=by
 intro E pins s σ H τ G R hE I h;have hA:zk X [a] (aQ ta cq):=aH ha bf hs;refine Call_ (oT I.inv hg hm boot_range (PyProof.Rows.callWith_type1 (Aj hA pos hE I (R:=fun ds G1=>match ds with | [.int n]=>-(2 ^ 62)<=n/\n < 2 ^ 62/\R (i9 0 n.toNat) (fun _=>True) G1 | _=>False) ?_ fun vs H1 ds G1 us s1 I1 m1 r1 nR q1=>?_) hs rfl))
 ·show ta E τ G _;have e:(fun (x:D) (G1:Gp)=>match [x] with | [.int n]=>-(2 ^ 62)<=n/\n < 2 ^ 62/\R (i9 0 n.toNat) (fun _=>True) G1 | _=>False)=fun x G1=>match x with | .int n=>-(2 ^ 62)<=n/\n < 2 ^ 62/\R (i9 0 n.toNat) (fun _=>True) G1 | _=>False:=by
   funext x G1; cases x <;> rfl
  exact e ▸ h
 ·split at q1
  ·rename_i n;obtain⟨w,rfl,LX⟩:=nR.one;cases LX;obtain⟨u,rfl,ru⟩:=r1.one;obtain⟨t,rfl⟩:=ru;obtain⟨q1,q2,q⟩:=q1;exact call_range_1 (Fv I1.inv m1 (by lia) (by lia) q1 q2 (by simpa using q))
  ·exact q1.elim
theorem D4{iter:Expr}{body:List Stmt}{wi:GZ}{g:Bl}{t:pb}(hp:PassesOwn (model X.prog X.w) X.A X.env X.xe)(hc:X.calm=true)(hi:Jn X tg iter wi)(hg:Ha X tg g)(hb:sZ X body t)
  (hs:autoParam (∀ x,xc iter X.env x=pure x) Ai._auto_1):Fc X (.For tg iter body [] pos) (Gx wi g t):=by
 intro E pins s σ H τ G D hE I h;refine wpAny_For (fX (hi E pins s σ H τ G _ hE I h) fun v s1 h1=>fX h1 fun FW s2 h2=>?_) hs;obtain⟨it,fp,tn,J,H2,G2,ds,ok,e,mw,m2,T,GH,f2,wk,q⟩:=h2;subst e;have Fp:∀ {H':Hp},(∀ b∈fp,H' b=none)->∀ b∈fp,rg X pins H' b:=fun hn b hb=>⟨hn b hb,(f2 b hb).2⟩;refine codeAny_forLoop_any (fun n s'=>∃ i j0 H' qI G',I2 X pins j0 H' qI G' s'/\Mv X.K H G H' G'/\Kp H2 H'/\tn i s'.heap/\(∀ b∈fp,H' b=none)/\n=ds.length - i/\i<=ds.length/\qN g t ok (ds.drop i) E D qI G') ?_ ds.length
  ⟨0,σ,H2,τ,G2,I.mv mw m2,m2,.refl _,GH,fun b hb=>(f2 b hb).1,rfl,fq _,q⟩
 rintro n s3 ⟨i,Hb,H3,Jr,G3,I3,m3,k3,IS,Lq,rfl,hle,w3⟩;by_cases za:i < ds.length
 ·rw [yH za] at w3;obtain⟨Hv,w3⟩:=w3;obtain⟨go,yl⟩:=(wk i H3 G3 k3 I3.ab Hv).1 ds[i] (by simp [za]);refine nG hp (fX (T.item X rfl rfl rfl hc i pins s3 Hb H3 X.xe I3.inv (Fp Lq) IS go) ?_);rintro r s4 ⟨u,hr,h4⟩;subst hr;refine nG hp (fX h4 ?_);rintro _ s5 ⟨x,H5,I5,r5,y5,Jx,Ng⟩;obtain⟨L9,m5⟩:=yl x H5 y5;have NF:=I5.pinned (Fp Ng) (T.obj _ _ Jx);have J5:I2 X (pins++nU fp s5.heap) Hb H5 Jr G3 s5:=⟨NF,I3.st.mono (m5.kp I3.ab),m5.ab⟩;refine nG hp (fX (hg E _ s5 Hb H5 Jr G3 x ds[i] u _ hE J5 r5 L9 w3) ?_);rintro _ s6 ⟨LN,H6,LM,G6,I6,m6,q6⟩;refine nG hp (fX (hb E _ s6 LN H6 LM G6 _ hE I6 q6) fun f s7 q7=>?_);have again:∀ {Bj:L2.St} {H7:Hp} {Bi:i6} {G7:Gp},I2 X (pins++nU fp s5.heap) Bj H7 Bi G7 s7->Mv X.K H6 G6 H7 G7->qN g t ok (ds.drop (i+1)) E D Bi G7 ->
    ∃ m,m < ds.length - i/\∃ i j0 H' qI G',I2 X pins j0 H' qI G' s7/\Mv X.K H G H' G'/\Kp H2 H'/\tn i s7.heap/\(∀ b∈fp,H' b=none)/\m=ds.length - i/\i<=ds.length/\qN g t ok (ds.drop i) E D qI G':=fun {Bj H7 Bi G7} I7 m7 n7=>by
   have mm:=m5.trans (m6.trans m7);refine⟨ds.length - (i+1),by lia,i+1,Bj,H7,Bi,G7,⟨I7.inv.pz,I7.st,I7.ab⟩,m3.trans mm,k3.trans (mm.kp I3.ab),T.keep _ _ _ Jx fun b hb o e=>(I7.inv.pin (b,o) (b7 _ (b7 _ (mV hb e)))).1,fun b hb=>?_,rfl,za,n7⟩;obtain⟨o,e,d⟩:=T.obj _ _ Jx b hb;exact(I7.inv.pin (b,o) (b7 _ (b7 _ (mV hb e)))).2.1
  cases f with
  | next=>obtain⟨Bj,H7,Bi,G7,I7,m7,n7⟩:=q7; exact again I7 m7 n7
  | cont=>obtain⟨Bj,H7,Bi,G7,I7,m7,n7⟩:=q7; exact again I7 m7 n7
  | brk=>obtain⟨Bj,H7,Bi,G7,I7,m7,q7⟩:=q7; exact⟨Bj,H7,Bi,G7,⟨I7.inv.pz,I7.st,I7.ab⟩,m3.trans (m5.trans (m6.trans m7)),q7⟩
  | ret v=>obtain⟨x7,Bj,H7,d7,G7,I7,m7,r7,L7,q7⟩:=q7; exact⟨x7,Bj,H7,d7,G7,I7.pz,m3.trans (m5.trans (m6.trans m7)),r7,L7,q7⟩
 ·have hn:ds.length<=i:=by lia
  rw [Bx hn] at w3;obtain⟨Hv,qn⟩:=w3;have stop:=(wk i H3 G3 k3 I3.ab Hv).2 hn;refine nG hp (fX (T.done X rfl rfl rfl hc i pins s3 Hb H3 X.xe I3.inv (Fp Lq) IS stop) ?_);rintro r s4 ⟨hr,I4⟩;subst hr;exact rq ⟨Hb,H3,Jr,G3,⟨I4,I3.st,I3.ab⟩,m3,qn⟩
end
end K2
end
section
namespace K2
open PySem PySem.Spec PyProof.Rows L2
theorem bp.rn{K:af}{H:Hp}{vs:List V}{ds:List D}{i:Int}{d:D}(r:bp K H vs ds)(h:K2.rn ds i=some d):∃ v,L2.rn vs i=some v/\cf K H v d:=by
 unfold K2.rn at h;cases e:K2.DB ds.length i with
 | none=>rw [e] at h; cases h
 | some j =>
  rw [e] at h;obtain⟨v,h1,h2⟩:=r.get (show ds[j]?=some d from h);refine⟨v,?_,h2⟩;show (L2.DB vs.length i).bind _=_;have e':L2.DB vs.length i=some j:=by rw [r.length]; exact e
  rw [e'];exact h1
section
variable {X:Cx} {a b c e:Expr} {ta tb tc te:dM} {pos p2:Pos}
theorem o4{pins:List (Addr×Obj)}{s:au}{σ:L2.St}{H:Hp}{G:Gp}{x:V}{d:D}{v:Value}{zs:List D}(I:Inv X pins σ H s)(ab:mL X.K H G)(rx:RelV x v)(rd:cf X.K H x d)(hi:r0 d G=some zs) :
  ∃ l vs cY,v=.ref l/\Vals vs cY/\bp X.K H vs zs/\s.heap.IsList l cY.toArray/\vs.length<=aZ:=by
 cases rd with
 | dB hq rs =>
  cases hi;cases rx;obtain⟨cY,rv,pl,hz⟩:=I.list hq.sq;exact⟨_,_,cY,rfl,rv,rs,pl.isList,hz⟩
 | ref l =>
  unfold r0 at hi;dsimp only at hi;cases hg:G l with
  | none=>rw [hg] at hi; cases hi
  | some gg =>
   rw [hg] at hi;cases gg with
   | lst ds =>
    cases hi;cases rx;obtain⟨vs,hv,rs⟩:=ab.lst hg;obtain⟨cY,rv,pl,hz⟩:=I.list (.of hv);exact⟨_,_,cY,rfl,rv,rs,pl.isList,hz⟩
   | ins _ _=>cases hi
   | sV _=>cases hi
 | _=>cases hi
theorem AL{pins:List (Addr×Obj)}{s:au}{σ:L2.St}{H:Hp}(I:Inv X pins σ H s){m:Str->Option Value}(F0:Fr X.base X.env.locals s.heap m){h':Heap}(F:Fr X.base X.env.locals h' m)(N:News X.base X.env.locals h' (p3 X.base s.heap X.env.locals)) :
  (∀ b o,b≠X.env.locals->s.heap.get? b=some o->h'.get? b=some o)/\∀ m',s.heap.Ns X.env.locals m'->h'.Ns X.env.locals m':=by
 refine⟨fun b o hb e=>?_,fun m' hm=>?_⟩
 ·cases q:X.base.get? b with
  | some u =>
   have:=I.bk b u q;rw [e] at this; cases this;exact F.keep b _ q
  | none=>exact(N (b,o) (wb hb q e)).1
 ·have e1:=hm.eq_nsMap;have e2:=F0.ns.eq_nsMap;rw [e1,<-e2]; exact F.ns
theorem mE{P:bo}{w:World}{H:Hp}{h:Heap}{a:Addr}:∀ {o:HO},dH P w H h a o->∃ ob,h.get? a=some ob:=by
 intro o x;cases o with
 | lst _=>obtain⟨_,_,_,_,e⟩:=x; exact⟨_,e⟩
 | tup _=>obtain⟨_,_,_,ob,e,_⟩:=x; exact⟨ob,e⟩
 | dK _=>obtain⟨_,_,_,_,ob,_,_,e,_⟩:=x; exact⟨ob,e⟩
 | dT _=>obtain⟨_,_,_,_,ob,_,_,e,_⟩:=x; exact⟨ob,e⟩
 | set _ _=>obtain⟨ob,_,_,_,e,_⟩:=x; exact⟨ob,e⟩
 | ins _ _ _=>obtain⟨_,_,_,e,_⟩:=x; exact⟨_,e⟩
 | own _=>exact x
 | xd _=>obtain⟨_,⟨ob,_,_,e,_⟩,_⟩:=x; exact⟨ob,e⟩
 | met _ _=>exact⟨_,x⟩
 | IU _ _=>obtain⟨_,_,_,e⟩:=x; exact⟨_,e⟩
 | la _ _=>exact⟨_,x.1⟩
 | ER _=>obtain⟨_,e,_⟩:=x; exact⟨_,e⟩
 | ext _=>exact x.2.1
theorem Ej{P:bo}{w:World}{H:Hp}{h:Heap}{a:Addr}(ok:pf P w H h)(e:h.get? a=none):H a=none:=by
 cases q:H a with
 | none=>rfl
 | some o =>
  obtain⟨ob,z⟩:=mE (ok a o q);rw [e] at z; cases z
theorem Inv.HI{pins:List (Addr×Obj)}{s:au}{σ:L2.St}{H:Hp}(I:Inv X pins σ H s){h':Heap}{t':Nat}{a:Addr}{o:HO}(k:∀ b o,b≠X.env.locals->s.heap.get? b=some o->h'.get? b=some o)(ns:∀ m',s.heap.Ns X.env.locals m'->h'.Ns X.env.locals m')
  (hp:s.heap.get? a=none) (new:dH X.prog X.w (upd H a o) h' a o):Inv X pins σ (upd H a o) { s with heap:=h',toks:=t' }:=by
 have hn:H a=none:=Ej I.dr hp;have ne:∀ b u,H b=some u->b≠a:=fun b u e=>cz e hn;have nL:∀ b u,H b=some u->b≠X.env.locals:=fun b u e=>cz e I.free;have ht:∀ b u,s.heap.get? b=some u->b≠a:=fun b u e z=>by subst z; rw [hp] at e; cases e
 have LS:∃ o',h'.get? X.env.locals=some o':=by
  obtain⟨m,hm,_⟩:=I.loc;obtain⟨o',_,_,ho,_⟩:=ns m hm;exact⟨o',ho⟩
 refine I.step (g':=s.gens) (d':=s.drawn) (ch:=[]) (fun b hb=>absurd hb (by simp)) (fun b o hL _ _ e _=>k b o hL e) (fun b o hL _ _ e _=>⟨o.slots,k b o hL e⟩) (fun b o _ e n=>by rw [bc (ht b o e)]; exact n)
  (fun b o _ e=>?_) (fun b xs e=>by rw [bc (ne _ _ e)]; exact e) (fun b o u e=>by rw [bc (ne _ _ e)]; exact e) (fun b ps e=>by rw [bc (ne _ _ e)]; exact e) (fun b ps e=>by rw [bc (ne _ _ e)]; exact e) ns (fun b u e=>?_) I.bare
 ·by_cases hb:b=X.env.locals
  ·rw [hb]; exact LS
  ·exact⟨o,k b o hb e⟩
 ·by_cases hb:b=a
  ·subst hb; rw [cj] at e; cases e; exact new
  ·rw [bc hb] at e;refine(I.dr b u e).mR (fun c v hc r=>k c v ?_ r) (fun c z=>by rw [bc (ne _ _ z)]; exact z) (fun c xs z=>by rw [bc (ne _ _ z)]; exact z);rcases hc with rfl | hc
   ·exact nL _ _ e
   ·exact nL _ _ hc
theorem uM:vd X (nC .Add) xW:=by
 intro pins s σ H G x y dx dy v u Q I ab rx ry dX dY q;have lists:Dh dx dy G Q->wpAny (model X.prog X.w) X.A (nC .Add v u) (qE X pins σ H G Q) X.xe s:=by
  intro q;unfold Dh at q;split at q
  ·rename_i xs ys e1 e2;obtain⟨hz,q⟩:=q;obtain⟨l,vs,cY,rfl,rv,rs,hl,_⟩:=o4 I ab rx dX e1;obtain⟨b,ws,sS,rfl,GJ,Ho,hb,_⟩:=o4 I ab ry dY e2;obtain⟨m,F0⟩:=I.fr;have FZ:cY.length+sS.length<=aZ:=by rw [<-rv.length,<-GJ.length,rs.length,Ho.length,bR]; exact hz
   refine PyProof.Rows.add_lists F0 Cg hl hb (fun h' F N=>?_) FZ;obtain⟨kk,ns⟩:=AL I F0 F fun p hp=>N p (cW _ hp);have hp:H s.heap.objs.size=none:=I.dr.fresh (ck _);refine⟨.ref s.heap.objs.size,upd H s.heap.objs.size (.lst (vs++ws)),.ref _,_,Inv.HI (t':=s.toks) I kk ns (DQ (ck _)) ?_,.HB ab hp (rs.append Ho),rfl,.ref _,q _ (ab.free hp)⟩;exact⟨by rw [bZ,rv.length,GJ.length]; exact FZ,cY++sS,0,rv.append GJ,(N _ dI).1⟩
  ·exact q.elim
 cases dX with
 | int i =>
  cases dY with
  | int j=>exact fX (FG pins s σ H _ _ v u (Di X.K H G Q) I rx ry ⟨i,j,rfl,rfl,_,_,.refl ab,.int _,q⟩) fun _ _ z=>.of z
  | _=>exact lists q
 | str i =>
  cases dY with
  | str j =>
   obtain⟨hz,q⟩:=q;exact fX (x8 pins s σ H _ _ v u (Di X.K H G Q) I rx ry ⟨i,j,rfl,rfl,by rw [bR]; exact hz,_,_,.refl ab,.str _,q⟩) fun _ _ z=>.of z
  | _=>exact lists q
 | tup h1 r1 =>
  cases dY with
  | tup h2 r2 =>
   obtain⟨hn,hz,q⟩:=q;refine fX (D9 pins s σ H _ _ v u (Di X.K H G Q) I rx ry ⟨_,_,_,_,rfl,rfl,.of h1,.of h2,?_,?_,fun e=>?_,fun e p hp=>?_⟩) fun _ _ z=>.of z
   ·rintro rfl; cases r1; exact hn rfl
   ·rw [r1.length,r2.length,bR]; exact hz
   ·subst e;cases r2;rw [ia] at q;exact⟨_,_,.refl ab,.tup h1 r1,q⟩
   ·exact⟨_,_,.Kg ab hp,.tup cj ((r1.append r2).mono (.new hp)),q⟩
  | _=>exact lists q
 | ref l=>exact lists (by rw [B3] at q; exact q)
 | dB _ _=>exact lists (by rw [B2] at q; exact q)
 | _=>exact lists (by cases dY <;> exact q)
theorem pG:vd X (nC .Mod) xV:=by
 intro pins s σ H G x y dx dy v u Q I ab rx ry dX dY q;cases dX with
 | int i =>
  cases dY with
  | int j=>exact fX (FE pins s σ H _ _ v u (Di X.K H G Q) I rx ry ⟨i,j,rfl,rfl,q.1,_,_,.refl ab,.int _,q.2⟩) fun _ _ z=>.of z
  | _=>exact bJ q
 | _=>exact bJ q
theorem FH(hu:X.A.units < cLine):vd X (nI .Lt) JB:=by
 intro pins s σ H G x y dx dy v u Q I ab rx ry dX dY q;cases dX with
 | int i =>
  cases dY with
  | int j=>exact fX (Hu pins s σ H _ _ v u (Di X.K H G Q) I rx ry ⟨i,j,rfl,rfl,_,_,.refl ab,.bl _,q⟩) fun _ _ z=>.of z
  | _=>exact bJ q
 | tup h1 r1 =>
  cases dY with
  | tup h2 r2 =>
   obtain⟨xs,ys,e1,e2,q⟩:=q;subst e1 e2;have z1:=r1.ints;have z2:=r2.ints;subst z1 z2;have el:∀ xs ys:List Int,HT.lexLt xs ys=K2.lexLt xs ys:=by
    intro xs;induction xs with
    | nil=>intro ys; cases ys <;> rfl
    | cons x xs ih=>intro ys; cases ys with
     | nil=>rfl
     | cons y ys=>unfold HT.lexLt K2.lexLt; rw [ih]
   exact fX (FF hu pins s σ H _ _ v u (Di X.K H G Q) I rx ry ⟨_,_,xs,ys,rfl,rfl,.of h1,.of h2,_,_,.refl ab,.bl _,by rw [el]; exact q⟩) fun _ _ z=>.of z
  | _=>exact bJ q
 | _=>exact bJ q
mutual
noncomputable def pd:D->PyData
 | .l7=>.none
 | .bl b=>.bool b
 | .int i=>.int i
 | .str x=>.str x
 | .tup ds=>.tuple (vn ds)
 | .dB ds=>.list (vn ds)
 | .w6 _=>.none
 | .exc _=>.none
 | .pW _ _ _=>.none
 | .ref _=>.none
noncomputable def vn:List D->List PyData
 | []=>[]
 | d :: r=>pd d :: vn r
end
mutual
theorem yq:∀ (s t:D),nr s=true->nr t=true->PyData.eqv (pd s) (pd t)=ml s t
 | .l7,t,_,ht=>by cases t <;> first | rfl | (exact a6 (show false=true from ht))
 | .bl a,t,_,ht=>by cases t <;> first | rfl | (exact a6 (show false=true from ht))
 | .int a,t,_,ht=>by cases t <;> first | rfl | (exact a6 (show false=true from ht))
 | .str a,t,_,ht=>by cases t <;> first | rfl | (exact a6 (show false=true from ht))
 | .tup a,t,hs,ht=>by
  cases t with
  | tup b=>exact uZ a b hs ht
  | ref _=>exact a6 (show false=true from ht)
  | exc _=>exact a6 (show false=true from ht)
  | pW _ _ _=>exact a6 (show false=true from ht)
  | w6 _=>exact a6 (show false=true from ht)
  | _=>rfl
 | .dB a,t,hs,ht=>by
  cases t with
  | dB b=>exact uZ a b hs ht
  | ref _=>exact a6 (show false=true from ht)
  | exc _=>exact a6 (show false=true from ht)
  | pW _ _ _=>exact a6 (show false=true from ht)
  | w6 _=>exact a6 (show false=true from ht)
  | _=>rfl
 | .ref _,_,hs,_=>a6 (show false=true from hs)
 | .exc _,_,hs,_=>a6 (show false=true from hs)
 | .pW _ _ _,_,hs,_=>a6 (show false=true from hs)
 | .w6 _,_,hs,_=>a6 (show false=true from hs)
theorem uZ:∀ (s t:List D),AK s=true->AK t=true->PyData.eqvAll (vn s) (vn t)=kZ s t
 | [],[],_,_=>rfl
 | [],_ :: _,_,_=>rfl
 | _ :: _,[],_,_=>rfl
 | a :: r,b :: t,hs,ht=>by
  have I0:nr a=true/\AK r=true:=(qH).mp hs;have Le:nr b=true/\AK t=true:=(qH).mp ht;show (PyData.eqv (pd a) (pd b)&&PyData.eqvAll (vn r) (vn t))=(ml a b&&kZ r t);rw [yq a b I0.1 Le.1,uZ r t I0.2 Le.2]
end
mutual
theorem sd:∀ (s:D),nr s=true->(pd s).canLay0=true
 | .l7,_=>rfl
 | .bl a,_=>rfl
 | .int a,_=>rfl
 | .str a,h=>h
 | .tup a,h=>uS a h
 | .dB a,h=>uS a h
 | .exc _,_=>rfl
 | .pW _ _ _,_=>rfl
 | .ref _,_=>rfl
 | .w6 _,_=>rfl
theorem uS:∀ (s:List D),AK s=true->PyData.canLayAll0 (vn s)=true
 | [],_=>rfl
 | a :: r,h=>by
  have h':nr a=true/\AK r=true:=(qH).mp h;show ((pd a).canLay0&&PyData.canLayAll0 (vn r))=true;rw [sd a h'.1,uS r h'.2]; rfl
end
theorem C0{G:Gp}{n:Nat}{d t:D}(h:Sn G n d t):(pd t).depth<=n:=by
 induction h with
 | l7=>exact fq _
 | bl b=>exact fq _
 | int i=>exact fq _
 | str x h=>exact fq _
 | xR=>exact o7 (fq _)
 | nM _ _ Cv Cu =>
  exact o7 (Nat.max_le.mpr ⟨Cv,Dt Cu⟩)
 | BW=>exact o7 (fq _)
 | vU _ _ Cv Cu =>
  exact o7 (Nat.max_le.mpr ⟨Cv,Dt Cu⟩)
 | ref _ _ ih=>exact ih
theorem og{pins:List (Addr×Obj)}{σ:L2.St}{H:Hp}{s:au}{G:Gp}(I:Inv X pins σ H s)(ab:mL X.K H G){n:Nat}{d t:D}(h:Sn G n d t) :
  (∀ v u,cf X.K H v d->RelV v u->∃ as,Reads s.heap u (pd t) as) /\
  (∀ ds ss,(d=.dB ds/\t=.dB ss)\/(d=.tup ds/\t=.tup ss)->∀ vs us,bp X.K H vs ds->Vals vs us->∃ as,qg s.heap us (vn ss) as):=by
 have EN:∀ {ds ss:List D},(∀ vs us,bp X.K H vs ds->Vals vs us->∃ as,qg s.heap us (vn ss) as)->∀ v u,cf X.K H v (.tup ds)->RelV v u->∃ as,Reads s.heap u (pd (.tup ss)) as:=by
  intro ds ss k v u r ru;cases r with
  | tup hq rs =>
   cases ru;obtain⟨cY,rv,⟨o,ho,hc,n,hd⟩,hz⟩:=I.tuple (.of hq);obtain⟨as,ra⟩:=k _ cY rs rv;exact⟨as,.tuple ho hc hd (by simpa using ra)⟩
 have ET:∀ {ds ss:List D},(∀ vs us,bp X.K H vs ds->Vals vs us->∃ as,qg s.heap us (vn ss) as)->∀ v u,cf X.K H v (.dB ds)->RelV v u->∃ as,Reads s.heap u (pd (.dB ss)) as:=by
  intro ds ss k v u r ru;cases r with
  | dB hq rs =>
   cases ru;obtain⟨cY,rv,pl,hz⟩:=I.list hq.sq;obtain⟨o,ho,hc,n,hd⟩:=pl.isList;obtain⟨as,ra⟩:=k _ cY rs rv;exact⟨_,.list ho hc hd (by simpa using ra)⟩
 induction h with
 | l7=>exact⟨fun v u r ru=>by cases r; cases ru; exact⟨_,.none⟩,fun ds ss e=>by rcases e with ⟨e,_⟩ | ⟨e,_⟩ <;> cases e⟩
 | bl b=>exact⟨fun v u r ru=>by cases r; cases ru; exact⟨_,.bool b⟩,fun ds ss e=>by rcases e with ⟨e,_⟩ | ⟨e,_⟩ <;> cases e⟩
 | int i=>exact⟨fun v u r ru=>by cases r; obtain⟨t,rfl⟩:=ru; exact⟨_,.int i t⟩,fun ds ss e=>by rcases e with ⟨e,_⟩ | ⟨e,_⟩ <;> cases e⟩
 | str x hx=>exact⟨fun v u r ru=>by cases r; obtain⟨t,rfl⟩:=ru; exact⟨_,.str x t⟩,fun ds ss e=>by rcases e with ⟨e,_⟩ | ⟨e,_⟩ <;> cases e⟩
 | xR =>
  have k:∀ vs us,bp X.K H vs []->Vals vs us->∃ as,qg s.heap us (vn []) as:=fun vs us r ru=>by
   have e:=r.zero;subst e;cases ru;exact⟨_,.nil⟩
  refine⟨EN k,fun ds ss e=>?_⟩;rcases e with ⟨e,_⟩ | ⟨e,e2⟩
  ·cases e
  ·cases e; cases e2; exact k
 | nM h1 h2 Cv Cu =>
  have k2:=Cu.2 _ _ (.inr ⟨rfl,rfl⟩);have k:∀ vs us,bp X.K H vs (_ :: _)->Vals vs us->∃ as,qg s.heap us (vn (_ :: _)) as:=fun vs us r ru=>by
   cases r with
   | cons r1 r2 =>
    cases ru with
    | cons u1 u2 =>
     obtain⟨as,ra⟩:=Cv.1 _ _ r1 u1;obtain⟨bs,rb⟩:=k2 _ _ r2 u2;exact⟨_,.cons ra rb⟩
  refine⟨EN k,fun ds ss e=>?_⟩;rcases e with ⟨e,_⟩ | ⟨e,e2⟩
  ·cases e
  ·cases e; cases e2; exact k
 | BW =>
  have k:∀ vs us,bp X.K H vs []->Vals vs us->∃ as,qg s.heap us (vn []) as:=fun vs us r ru=>by
   have e:=r.zero;subst e;cases ru;exact⟨_,.nil⟩
  refine⟨ET k,fun ds ss e=>?_⟩;rcases e with ⟨e,e2⟩ | ⟨e,_⟩
  ·cases e; cases e2; exact k
  ·cases e
 | vU h1 h2 Cv Cu =>
  have k2:=Cu.2 _ _ (.inl ⟨rfl,rfl⟩);have k:∀ vs us,bp X.K H vs (_ :: _)->Vals vs us->∃ as,qg s.heap us (vn (_ :: _)) as:=fun vs us r ru=>by
   cases r with
   | cons r1 r2 =>
    cases ru with
    | cons u1 u2 =>
     obtain⟨as,ra⟩:=Cv.1 _ _ r1 u1;obtain⟨bs,rb⟩:=k2 _ _ r2 u2;exact⟨_,.cons ra rb⟩
  refine⟨ET k,fun ds ss e=>?_⟩;rcases e with ⟨e,e2⟩ | ⟨e,_⟩
  ·cases e; cases e2; exact k
  ·cases e
 | ref hg h1 ih =>
  refine⟨fun v u r ru=>?_,fun ds ss e=>by rcases e with ⟨e,_⟩ | ⟨e,_⟩ <;> cases e⟩;cases r;cases ru;obtain⟨vs,hv,rs⟩:=ab.lst hg;obtain⟨cY,rv,pl,hz⟩:=I.list (.of hv);obtain⟨o,ho,hc,n,hd⟩:=pl.isList;obtain⟨as,ra⟩:=ih.2 _ _ (.inl ⟨rfl,rfl⟩) vs cY rs rv;exact⟨_,.list ho hc hd (by simpa using ra)⟩
theorem Cd(hu:X.A.units+64 < cLine):vd X (nI .Eq) (DZ false):=by
 intro pins s σ H G x y dx dy v u Q I ab rx ry dX dY q;obtain⟨a,b,sa,sb,q⟩:=q;obtain⟨as,ra⟩:=(og I ab sa).1 x v dX rx;obtain⟨bs,rb⟩:=(og I ab sb).1 y u dY ry;have d1:=C0 sa;refine SeqAt.compareEq_reads ra rb (sd _ sa.nr) (sd _ sb.nr) (by unfold SN at d1; lia) ?_;rw [yq _ _ sa.nr sb.nr];exact⟨.bl _,H,.bl _,G,I,.refl ab,rfl,.bl _,q⟩
theorem rT(hu:X.A.units+64 < cLine):vd X (nI .NotEq) (DZ true):=by
 intro pins s σ H G x y dx dy v u Q I ab rx ry dX dY q;obtain⟨a,b,sa,sb,q⟩:=q;obtain⟨as,ra⟩:=(og I ab sa).1 x v dX rx;obtain⟨bs,rb⟩:=(og I ab sb).1 y u dY ry;have d1:=C0 sa;refine SeqAt.compareNe_reads ra rb (sd _ sa.nr) (sd _ sb.nr) (by unfold SN at d1; lia) ?_;rw [yq _ _ sa.nr sb.nr];exact⟨.bl _,H,.bl _,G,I,.refl ab,rfl,.bl _,q⟩
end
end K2
end
section
namespace K2
open PySem PySem.Spec PyProof.Rows L2
theorem u3(j k:Key):ml (dv j) (dv k)=decide (j=k):=by
 cases j with
 | inl a=>cases k with
  | inl b=>rw [Cr]; rfl
  | inr b=>exact(decide_eq_false (fun z=>nomatch z)).symm
 | inr a=>cases k with
  | inl b=>exact(decide_eq_false (fun z=>nomatch z)).symm
  | inr b=>rw [Cp]; exact(Dy a b)
theorem tQ:∀ (js ks:List Key),kZ (js.map dv) (ks.map dv)=decide (js=ks)
 | [],[]=>(decide_eq_true rfl).symm
 | [],_ :: _=>(decide_eq_false (fun z=>nomatch z)).symm
 | _ :: _,[]=>(decide_eq_false (fun z=>nomatch z)).symm
 | j :: js,k :: ks=>by
  show (ml (dv j) (dv k)&&kZ (js.map dv) (ks.map dv))=_;rw [u3,tQ js ks,wB]
theorem wy(js ks:List Key):ml (.tup (js.map dv)) (.tup (ks.map dv))=decide (js=ks):=by
 exact tQ js ks
section
variable {K:af} {H:Hp}
theorem uT{d:D}(h:dj d=true):∃ k:Key,d=dv k:=by
 cases d with
 | int i=>exact⟨.inl i,rfl⟩
 | str x=>exact⟨.inr x,rfl⟩
 | _=>exact absurd h (by simp [dj])
theorem y3:∀ {ds:List D},ds.all dj=true->∃ ks:List Key,ds=ks.map dv
 | [],_=>⟨[],rfl⟩
 | d :: r,h=>by
  rw [Bg,aP] at h;obtain⟨k,rfl⟩:=uT h.1;obtain⟨ks,rfl⟩:=y3 h.2;exact⟨k :: ks,rfl⟩
theorem y4{d:D}(h:oX d=true):∃ ks:List Key,d=.tup (ks.map dv):=by
 cases d with
 | tup ds=>obtain⟨ks,rfl⟩:=y3 (ds:=ds) h; exact⟨ks,rfl⟩
 | _=>exact absurd h (by simp [oX])
theorem uG{v:V}{k:Key}(r:cf K H v (dv k)):v=kV k:=by
 cases k with
 | inl i=>cases r; rfl
 | inr x=>cases r; rfl
theorem vR:∀ {vs:List V} {ks:List Key},bp K H vs (ks.map dv)->vs=ks.map kV
 | _,[],r=>r.zero
 | _,k :: ks,r=>by
  rw [cF] at r;cases r with
  | cons r1 r2=>rw [uG r1,vR r2]; rfl
theorem vS{v:V}{ks:List Key}(r:cf K H v (.tup (ks.map dv))):∃ b,v=.ref b/\H b=some (.tup (ks.map kV)):=by
 cases r with
 | tup h rs=>have e:=vR rs; subst e; exact⟨_,rfl,h⟩
theorem qF.look{kv:List (Key×V)}{bF:List (D×D)}(r:qF K H kv bF)(k:Key):(∃ v d,lV kv k=some v/\K2.look bF (dv k)=some d/\cf K H v d)\/(lV kv k=none/\K2.look bF (dv k)=none):=by
 induction r using qF.ind with
 | nil=>exact .inr ⟨rfl,rfl⟩
 | @cons j v d r t rd rs ih =>
  by_cases e:j=k
  ·left;refine⟨v,d,pw (p:=(j,v)) e,?_,rd⟩;unfold K2.look;rw [Bv (by show ml (dv j) (dv k)=true; rw [u3]; exact decide_eq_true e)]; rfl
  ·have e1:lV ((j,v) :: r) k=lV r k:=px (p:=(j,v)) e;have e2:K2.look ((dv j,d) :: t) (dv k)=K2.look t (dv k):=by
    unfold K2.look;rw [Bw (by show ¬ ml (dv j) (dv k)=true; rw [u3]; simpa using e)]
   rw [e1,e2];exact ih
theorem ro.look{kv:List (List Key×V)}{bF:List (D×D)}(r:ro K H kv bF)(k:List Key):(∃ v d,lV kv k=some v/\K2.look bF (.tup (k.map dv))=some d/\cf K H v d)\/(lV kv k=none/\K2.look bF (.tup (k.map dv))=none):=by
 induction r using ro.ind with
 | nil=>exact .inr ⟨rfl,rfl⟩
 | @cons j v d r t rd rs ih =>
  by_cases e:j=k
  ·left;refine⟨v,d,pw (p:=(j,v)) e,?_,rd⟩;unfold K2.look;rw [Bv (by show ml (.tup (j.map dv)) (.tup (k.map dv))=true; rw [wy]; exact decide_eq_true e)]; rfl
  ·have e1:lV ((j,v) :: r) k=lV r k:=px (p:=(j,v)) e;have e2:K2.look ((.tup (j.map dv),d) :: t) (.tup (k.map dv))=K2.look t (.tup (k.map dv)):=by
    unfold K2.look;rw [Bw (by show ¬ ml (.tup (j.map dv)) (.tup (k.map dv))=true; rw [wy]; simpa using e)]
   rw [e1,e2];exact ih
end
theorem Kp.putD{H:Hp}{p:Addr}{o o':HO}(hp:H p=some o)(h:(∃ k,o=.dK k)\/∃ k,o=.dT k):Kp H (upd H p o') :=
 ⟨fun a ys e=>by rw [bc (by rintro rfl; rw [hp] at e; rcases h with ⟨_,rfl⟩ | ⟨_,rfl⟩ <;> cases e)]; exact e,fun a ob u e=>by rw [bc (by rintro rfl; rw [hp] at e; rcases h with ⟨_,rfl⟩ | ⟨_,rfl⟩ <;> cases e)]; exact e⟩
section
variable {X:Cx} {pins:List (Addr×Obj)} {σ:L2.St} {H:Hp} {s:au} {G:Gp} {a:Addr} {bF:List (D×D)} {k:D} {y:V}
theorem toT(I:Inv X pins σ H s)(e:H a=some (.dK [])):Inv X pins σ (upd H a (.dT [])) s:=by
 obtain⟨z,hd,vs,rel,dd⟩:=CW I.dr e;have hv:vs=[]:=by cases rel; rfl
 subst hv;obtain⟨o,es,ep,ho,hx,AX,NT,hl,nd⟩:=dd;have he:es=#[]:=by
  cases hq:es.toList with
  | nil=>simpa using hq
  | cons _ _=>rw [hq] at hl; cases hl
 subst he;exact I.write (h':=s.heap) (t':=s.toks) (x:=a) (e:=a) (by rw [e]; exact dA) (.inl rfl) (fun b u _ q=>q) ⟨o,ho⟩ ⟨fq _,hd,[],.nil,o,#[],ep,ho,hx,AX,rfl,qW⟩
theorem toK(I:Inv X pins σ H s)(e:H a=some (.dT [])):Inv X pins σ (upd H a (.dK [])) s:=by
 obtain⟨z,hd,xs,rel,o,es,ep,ho,hx,AX,hl,nd⟩:=I.dr a _ e;have hv:xs=[]:=by cases rel; rfl
 subst hv;have he:es=#[]:=by simpa using hl
 subst he;exact I.write (h':=s.heap) (t':=s.toks) (x:=a) (e:=a) (by rw [e]; exact dA) (.inl rfl) (fun b u _ q=>q) ⟨o,ho⟩ ⟨fq _,hd,[],.nil,o,#[],ep,ho,hx,AX,(fun _ h=>by simp at h),.nil,qW⟩
theorem y0{o:HO}(ab:mL X.K H G)(hg:G a=some (.sV bF))(k:Kp H (upd H a o))(ho:EL X.K (upd H a o) a (.sV bF)):Mv X.K H G (upd H a o) G:=by
 have m:=Mv.put ab hg k ho;have e:mP G a (.sV bF)=G:=by
  funext b; unfold mP; split
  ·rename_i z; rw [z,hg]
  ·rfl
 rw [e] at m;exact m
theorem Eo(I:Inv X pins σ H s)(ab:mL X.K H G)(hg:G a=some (.sV bF))(hk:nh bF k=true)(ry:cf X.K H y k) :
  ∃ H',Inv X pins σ H' s/\Mv X.K H G H' G/\((∃ (kv:List (Key×V)) (kk:Key),H' a=some (.dK kv)/\qF X.K H' kv bF/\k=dv kk/\y=kV kk)\/∃ (kv:List (List Key×V)) (kk:List Key) (b:Addr),H' a=some (.dT kv)/\ro X.K H' kv bF/\k=.tup (kk.map dv)/\y=.ref b/\H' b=some (.tup (kk.map kV))):=by
 unfold nh at hk;rw [w4,aP,aP] at hk;rcases hk with ⟨h1,h2⟩ | ⟨h1,h2⟩
 ·obtain⟨kk,rfl⟩:=uT h1;have ey:=uG ry;subst ey;rcases ab a _ hg with ⟨kv,hv,rs⟩ | ⟨kv,hv,rs⟩
  ·exact⟨H,I,.refl ab,.inl ⟨kv,kk,hv,rs,rfl,rfl⟩⟩
  ·cases rs with
   | nil =>
    refine⟨_,toK I hv,y0 ab hg (.putD hv (.inr ⟨_,rfl⟩)) (.inl ⟨[],cj,.nil⟩),.inl ⟨[],kk,cj,.nil,rfl,rfl⟩⟩
   | cons _ _=>simp [dj] at h2
 ·obtain⟨kk,rfl⟩:=y4 h1;obtain⟨b,rfl,hb⟩:=vS ry;rcases ab a _ hg with ⟨kv,hv,rs⟩ | ⟨kv,hv,rs⟩
  ·cases rs with
   | nil =>
    have kp:Kp H (upd H a (.dT [])):=.putD hv (.inl ⟨_,rfl⟩);exact⟨_,toT I hv,y0 ab hg kp (.inr ⟨[],cj,.nil⟩),.inr ⟨[],kk,b,cj,.nil,rfl,rfl,kp.tup _ _ hb⟩⟩
   | @cons j _ _ _ _ _ _=>cases j <;> simp [dv,oX] at h2
  ·exact⟨H,I,.refl ab,.inr ⟨kv,kk,b,hv,rs,rfl,rfl,hb⟩⟩
theorem CZ(I:Inv X pins σ H s)(ab:mL X.K H G)(hg:G a=some (.sV bF))(hk:nh bF k=true)(ry:cf X.K H y k) :
  ∃ H' o,Inv X pins σ H' s/\Mv X.K H G H' G/\wR H' a y o/\o.isSome=(look bF k).isSome/\∀ d,look bF k=some d->∃ v,o=some v/\cf X.K H' v d:=by
 obtain⟨H',I',m,h⟩:=Eo I ab hg hk ry;rcases h with ⟨kv,kk,hv,rs,rfl,rfl⟩ | ⟨kv,kk,b,hv,rs,rfl,rfl,hb⟩
 ·refine⟨H',lV kv kk,I',m,.k hv,?_,fun d hd=>?_⟩
  ·rcases rs.look kk with ⟨v,d,e1,e2,_⟩ | ⟨e1,e2⟩ <;> rw [e1,e2] <;> rfl
  ·rcases rs.look kk with ⟨v,d',e1,e2,r⟩ | ⟨e1,e2⟩
   ·rw [e2] at hd; cases hd; exact⟨v,e1,r⟩
   ·rw [e2] at hd; cases hd
 ·refine⟨H',lV kv kk,I',m,.t hv hb,?_,fun d hd=>?_⟩
  ·rcases rs.look kk with ⟨v,d,e1,e2,_⟩ | ⟨e1,e2⟩ <;> rw [e1,e2] <;> rfl
  ·rcases rs.look kk with ⟨v,d',e1,e2,r⟩ | ⟨e1,e2⟩
   ·rw [e2] at hd; cases hd; exact⟨v,e1,r⟩
   ·rw [e2] at hd; cases hd
theorem yO{x:V}(I:Inv X pins σ H s)(rd:cf X.K H x (.w6 bF))(hk:nh bF k=true)(ry:cf X.K H y k) :
  ∃ a o,x=.ref a/\(bF=[]\/wR H a y o)/\o.isSome=(look bF k).isSome/\∀ d,look bF k=some d->∃ v,o=some v/\cf X.K H v d:=by
 unfold nh at hk;rw [w4,aP,aP] at hk;cases rd with
 | sP h rs =>
  rename_i a ob kv;rcases hk with ⟨h1,h2⟩ | ⟨h1,h2⟩
  ·obtain⟨kk,rfl⟩:=uT h1;have ey:=uG ry;subst ey;refine⟨a,lV kv kk,rfl,.inr (.inl ⟨kv,kk,.inr ⟨_,h⟩,rfl,rfl⟩),?_,fun d hd=>?_⟩
   ·rcases rs.look kk with ⟨v,d,e1,e2,_⟩ | ⟨e1,e2⟩ <;> rw [e1,e2] <;> rfl
   ·rcases rs.look kk with ⟨v,d',e1,e2,r⟩ | ⟨e1,e2⟩
    ·rw [e2] at hd; cases hd; exact⟨v,e1,r⟩
    ·rw [e2] at hd; cases hd
  ·cases rs with
   | nil=>exact⟨a,none,rfl,.inl rfl,rfl,fun d hd=>by cases hd⟩
   | cons _ _ =>
    rename_i kx _ _ _ _ _ _;rw [Bg,aP] at h2;cases kx <;> exact absurd h2.1 (by simp [dv,oX])
 | sO h rs =>
  rename_i a ob kv;rcases hk with ⟨h1,h2⟩ | ⟨h1,h2⟩
  ·cases rs with
   | nil=>exact⟨a,none,rfl,.inl rfl,rfl,fun d hd=>by cases hd⟩
   | cons _ _ =>
    rw [Bg,aP] at h2;exact absurd h2.1 (by simp [dj])
  ·obtain⟨kk,rfl⟩:=y4 h1;obtain⟨b,rfl,hb⟩:=vS ry;refine⟨a,lV kv kk,rfl,.inr (.inr ⟨kv,kk,b,.inr ⟨_,h⟩,rfl,hb,rfl⟩),?_,fun d hd=>?_⟩
   ·rcases rs.look kk with ⟨v,d,e1,e2,_⟩ | ⟨e1,e2⟩ <;> rw [e1,e2] <;> rfl
   ·rcases rs.look kk with ⟨v,d',e1,e2,r⟩ | ⟨e1,e2⟩
    ·rw [e2] at hd; cases hd; exact⟨v,e1,r⟩
    ·rw [e2] at hd; cases hd
end
end K2
end
section
namespace K2
open PySem PySem.Spec PyProof.Rows L2
section
variable {X:Cx} {a b c e:Expr} {es:List Expr} {ta tb tc te:dM} {t:vc} {pos p p2 apos mn:Pos} {x:Str}
theorem rS{k:Bool}{j}:hX X (.Constant (.bool k) j pos) (dC (.bl k)):=qm Hs fun _ _=>.bl k
theorem lH{y:Str}{j}:hX X (.Constant (.str y) j pos) (dC (.str y)):=qm FA fun _ _=>.str y
theorem lY(hu:X.A.units+64 < cLine)(ha:hX X a ta)(hb:hX X b tb)(hs:EG b):hX X (.Subscript a b pos) (cV uH ta tb):=by
 intro E pins s σ H τ G Q hE I h;refine Subscript_ (Dg ha hb hE I h fun v u s2 x y dx dy H2 G2 J m rx ry dX dY q=>?_);have fin:∀ {rb:R2},KL X rb->rb x y H2 (Di X.K H2 G2 Q)->wpAny (model X.prog X.w) X.A (subscriptTail a b v u) (qE X pins σ H G Q) X.xe s2:=fun hr hq =>
  fX (hr a b pins s2 σ H2 x y v u _ J.inv rx ry hq (hs _ _)) fun _ _ z=>(qE.of z).trans m
 cases dX with
 | tup hq rs =>
  cases dY with
  | int i =>
   rw [B1] at q;split at q
   ·rename_i d hd;obtain⟨w,hw,sN⟩:=rs.rn hd;exact fin FU ⟨_,_,i,w,rfl,rfl,.of hq,hw,d,G2,.refl J.ab,sN,q⟩
   ·exact q.elim
  | _=>exact bJ q
 | dB hq rs =>
  cases dY with
  | int i =>
   rw [mC] at q;split at q
   ·rename_i d hd;obtain⟨w,hw,sN⟩:=rs.rn hd;exact fin y7 ⟨_,_,i,w,rfl,rfl,hq.sq,hw,d,G2,.refl J.ab,sN,q⟩
   ·exact q.elim
  | _=>exact bJ q
 | sP h rs =>
  rw [yP] at q;obtain⟨hk,q⟩:=q;split at q
  ·rename_i d hd;obtain⟨a',o,ea,g,_,hv⟩:=yO J.inv (.sP h rs) hk dY;obtain⟨w,rfl,sN⟩:=hv d hd;cases ea;rcases g with rfl | g
   ·cases hd
   ·cases rx;exact vo (n4 J.inv g) PySem.F.slot_dict_getitem.lookup (qC (by lia) J.inv g ry fun w' s3 I4 rv=>⟨w,H2,d,G2,I4,m,rv,sN,q⟩) (hs _ _)
  ·exact q.elim
 | sO h rs =>
  rw [yP] at q;obtain⟨hk,q⟩:=q;split at q
  ·rename_i d hd;obtain⟨a',o,ea,g,_,hv⟩:=yO J.inv (.sO h rs) hk dY;obtain⟨w,rfl,sN⟩:=hv d hd;cases ea;rcases g with rfl | g
   ·cases hd
   ·cases rx;exact vo (n4 J.inv g) PySem.F.slot_dict_getitem.lookup (qC (by lia) J.inv g ry fun w' s3 I4 rv=>⟨w,H2,d,G2,I4,m,rv,sN,q⟩) (hs _ _)
  ·exact q.elim
 | ref l =>
  rw [yQ] at q;split at q
  ·rename_i ds hl;obtain⟨vs,hv,rs⟩:=J.ab.lst hl;cases dY with
   | int i =>
    dsimp only at q;split at q
    ·rename_i d hd;obtain⟨w,hw,sN⟩:=rs.rn hd;exact fin y7 ⟨_,_,i,w,rfl,rfl,.of hv,hw,d,G2,.refl J.ab,sN,q⟩
    ·exact q.elim
   | _=>exact bJ q
  ·rename_i bF hl;obtain⟨hk,q⟩:=q;split at q
   ·rename_i d hd;obtain⟨H3,o,I3,m3,g,_,hv⟩:=CZ J.inv J.ab hl hk dY;obtain⟨w,rfl,sN⟩:=hv d hd;cases rx;exact vo (n4 I3 g) PySem.F.slot_dict_getitem.lookup (qC (by lia) I3 g ry fun w' s3 I4 rv=>⟨w,H3,d,G2,I4,m.trans m3,rv,sN,q⟩) (hs _ _)
   ·exact q.elim
  ·exact q.elim
 | _=>exact bJ q
noncomputable def Jm(X:Cx)(e:Option Expr)(t:IF):Prop :=
 ∀ (E:mr) (pins:List (Addr×Obj)) (s:au) (σ:L2.St) (H:Hp) (τ:i6) (G:Gp) (Q:Option Int->Gp->Prop),Lk X E->I2 X pins σ H τ G s->t E τ G Q ->
  wpAny (model X.prog X.w) X.A (evalPart e X.env) (fun u s'=>∃ o H' G',Inv X pins σ H' s'/\Mv X.K H G H' G'/\IsPart u o/\Q o G') X.xe s
theorem B7:Jm X none u5:=by
 intro E pins s σ H τ G Q hE I h;rw [evalPart_none];exact bg ⟨none,H,G,I.inv,.refl I.ab,.none,h⟩
theorem B6(h:hX X e te):Jm X (some e) (C4 te):=by
 intro E pins s σ H τ G Q hE I hw;rw [evalPart_some];refine mB h hE I hw fun x H1 d G1 u s1 I1 m1 r1 nR q1=>?_;cases nR with
 | int i =>
  obtain⟨t,rfl⟩:=r1;exact⟨some i,H1,G1,I1.inv,m1,.int i t,q1⟩
 | _=>exact bJ q1
end
end K2
end
section
namespace K2
open PySem PySem.Spec PyProof.Rows L2
section
variable {X:Cx} {a b c e o:Expr} {es:List Expr} {ta tb tc te to:dM} {t:vc} {pos p p2 apos mn:Pos} {x name:Str} {id T:String}
theorem A3:Dp X (.builtin "len") EB:=by
 intro pins s σ H G xs ds us Q I ab rx rd q;unfold EB at q;split at q
 ·rename_i x;obtain⟨v,rfl,r⟩:=rd.one;have DU:∀ (n:Nat),IJ X.K v H n->Q (.int (n:Int)) G->wpAny (model X.prog X.w) X.A (call (.builtin "len") us) (qE X pins σ H G Q) X.xe s:=fun n hn hq =>
   fX (C9 pins s σ H [v] us (Di X.K H G Q) I rx ⟨v,n,rfl,hn,_,_,.refl ab,.int _,hq⟩) fun _ _ z=>.of z
  have sz:aZ=16777216:=bR;cases r with
  | tup hq rs=>exact DU _ (.inr ⟨_,.of hq,by rw [rs.length]⟩) q
  | dB hq rs=>exact DU _ (.inl ⟨_,hq.sq,by rw [rs.length]⟩) q
  | str y =>
   unfold lenOf at q;dsimp only at q;by_cases hz:y.length<=SZ
   ·rw [if_pos hz] at q; exact DU _ ⟨by rw [sz]; exact hz,rfl⟩ q
   ·rw [if_neg hz] at q; exact q.elim
  | sP h rs =>
   rename_i l o kv bF;obtain⟨u,rfl,ru⟩:=rx.one;cases ru;unfold lenOf at q;dsimp only at q;by_cases ha:(bF.all fun p=>dj p.1)=true
   ·rw [if_pos ha] at q;exact E7 I (.inr ⟨_,h⟩) fun t s' I'=>⟨.int kv.length,H,_,G,I',.refl ab,⟨t,rfl⟩,.int _,by rw [rs.length]; exact q⟩
   ·rw [if_neg ha] at q; exact q.elim
  | sO h rs =>
   rename_i l o kv bF;obtain⟨u,rfl,ru⟩:=rx.one;cases ru;unfold lenOf at q;dsimp only at q;by_cases ha:(bF.all fun p=>dj p.1)=true
   ·rw [if_pos ha] at q;cases rs with
    | nil =>
     obtain⟨z,hS,xs,rel,ob,es,ep,ho,hx,AX,hl,nd⟩:=(I.dr l _ h).2;have GP:xs=[]:=by cases rel; rfl
     subst GP;have he:es=#[]:=by simpa using hl
     subst he;have dd:s.heap.DictOf (dQ X.prog X.w) l []:=⟨ob,#[],ep,ho,hx,AX,(fun _ h=>by simp at h),.nil,qW⟩;refine call_len_dict hS dd (by simp) ?_;exact⟨.int 0,H,_,G,I.tok _,.refl ab,⟨_,rfl⟩,.int _,q⟩
    | cons _ _=>simp [dj] at ha
   ·rw [if_neg ha] at q; exact q.elim
  | ref l =>
   unfold lenOf at q;dsimp only at q;cases hg:G l with
   | none=>rw [hg] at q; exact q.elim
   | some g =>
    rw [hg] at q;cases g with
    | lst ds =>
     obtain⟨vs,hv,rs⟩:=ab.lst hg;exact DU _ (.inl ⟨_,.of hv,by rw [rs.length]⟩) q
    | ins _ _=>exact q.elim
    | sV bF =>
     obtain⟨u,rfl,ru⟩:=rx.one;cases ru;dsimp only at q;by_cases ha:(bF.all fun p=>dj p.1)=true
     ·rw [if_pos ha] at q;rcases ab l _ hg with ⟨kv,hv,rs⟩ | ⟨kv,hv,rs⟩
      ·exact E7 I (.inl hv) fun t s' I'=>⟨.int kv.length,H,_,G,I',.refl ab,⟨t,rfl⟩,.int _,by rw [rs.length]; exact q⟩
      ·cases rs with
       | nil =>
        obtain⟨z,hd,vs,rel,dd⟩:=CW (toK I hv).dr cj;have Mx:vs=[]:=by cases rel; rfl
        subst Mx;refine call_len_dict hd dd (by simp) ?_;exact⟨.int 0,H,_,G,I.tok _,.refl ab,⟨_,rfl⟩,.int _,q⟩
       | cons _ _=>simp [dj] at ha
     ·rw [if_neg ha] at q; exact q.elim
  | _=>exact bJ q
 ·exact q.elim
theorem FQ (K:af):∀ C∈["int","bool","list","tuple","dict","str"],∀ T∈["NoneType","bool","int","str","tuple","list","dict"],aa K (.type T) (.type C)=some (T == C||(T == "bool" && C == "int")):=by
 intro C hC T hT;simp only [List.mem_cons,List.not_mem_nil,or_false] at hC hT;rcases hC with rfl | rfl | rfl | rfl | rfl | rfl <;> rcases hT with rfl | rfl | rfl | rfl | rfl | rfl | rfl <;> kernel_rfl
theorem Cs (C:String) (hC:C∈["int","bool","list","tuple","dict","str"]) {pins:List (Addr×Obj)} {s:au} {σ:L2.St} {H:Hp} {G:Gp} {v:V} {d:D} {u:Value} {k:Bool} {Q:DK} (I:Inv X pins σ H s) (ab:mL X.K H G) (ru:RelV v u) (r:cf X.K H v d)
  (hk:GN C d G=some k) (q:Q (.bl k) G):wpAny (model X.prog X.w) X.A (call (.builtin "isinstance") [u,.type C]) (qE X pins σ H G Q) X.xe s:=by
 have fin:∀ tk,qE X pins σ H G Q (.bool k) { s with toks:=tk }:=fun tk=>⟨.bl k,H,.bl k,G,I.tok _,.refl ab,rfl,.bl k,q⟩;have hl:∀ T∈["NoneType","bool","int","str","tuple","list","dict"],k=(T == C||(T == "bool" && C == "int"))->aa X.K (.type T) (.type C)=some k:=fun T hT e=>by rw [FQ X.K C hC T hT,e]
 have tl:∀ {l:Addr} {o:Obj},s.heap.get? l=some o->o.cls=.type "list"->k=("list" == C||("list" == "bool" && C == "int"))->v=.ref l->wpAny (model X.prog X.w) X.A (call (.builtin "isinstance") [u,.type C]) (qE X pins σ H G Q) X.xe s:=fun ho hc e ev=>by
  subst ev;cases ru;exact cu PySem.W.kitx_list I.o9 ⟨_,ho,hc⟩ (hl "list" (by decide) e) (fun z=>nomatch z) fin
 have td:∀ {l:Addr} {o:Obj},s.heap.get? l=some o->o.cls=.type "dict"->k=("dict" == C||("dict" == "bool" && C == "int"))->v=.ref l->wpAny (model X.prog X.w) X.A (call (.builtin "isinstance") [u,.type C]) (qE X pins σ H G Q) X.xe s:=fun ho hc e ev=>by
  subst ev;cases ru;exact cu PySem.W.kitx_dict I.o9 ⟨_,ho,hc⟩ (hl "dict" (by decide) e) (fun z=>nomatch z) fin
 have mq:∀ P:String->Prop,(∀ C'∈["int","bool","list","tuple","dict","str"],P C')->P C:=fun P h=>h C hC;cases r with
 | l7 =>
  cases ru;have e:k=("NoneType" == C||("NoneType" == "bool" && C == "int")):=by
   have:k=false:=(bu hk).symm;rw [this];exact mq (fun C=>false=("NoneType" == C||("NoneType" == "bool" && C == "int"))) (by decide)
  exact cu DN I.o9 dA (hl _ (by decide) e) (fun z=>nomatch z) fin
 | bl y =>
  cases ru;have e:k=("bool" == C||("bool" == "bool" && C == "int")):=by
   have:k=(C == "bool" || C == "int"):=(bu hk).symm;rw [this];exact mq (fun C=>(C == "bool" || C == "int")=("bool" == C||("bool" == "bool" && C == "int"))) (by decide)
  exact cu PySem.W.kitx_bool I.o9 dA (hl _ (by decide) e) (fun z=>nomatch z) fin
 | int y =>
  obtain⟨t,rfl⟩:=ru;have e:k=("int" == C||("int" == "bool" && C == "int")):=by
   have:k=(C == "int"):=(bu hk).symm;rw [this];exact mq (fun C=>(C == "int")=("int" == C||("int" == "bool" && C == "int"))) (by decide)
  exact cu PySem.W.kitx_int I.o9 dA (hl _ (by decide) e) (fun z=>nomatch z) fin
 | str y =>
  obtain⟨t,rfl⟩:=ru;have e:k=("str" == C||("str" == "bool" && C == "int")):=by
   have:k=(C == "str"):=(bu hk).symm;rw [this];exact mq (fun C=>(C == "str")=("str" == C||("str" == "bool" && C == "int"))) (by decide)
  exact cu PySem.W.kitx_str I.o9 dA (hl _ (by decide) e) (fun z=>nomatch z) fin
 | tup hq rs =>
  cases ru;have e:k=("tuple" == C||("tuple" == "bool" && C == "int")):=by
   have:k=(C == "tuple"):=(bu hk).symm;rw [this];exact mq (fun C=>(C == "tuple")=("tuple" == C||("tuple" == "bool" && C == "int"))) (by decide)
  obtain⟨cY,rv,⟨o,h1,h2,_⟩,hz⟩:=I.tuple (.of hq);exact cu PySem.W.kitx_tuple I.o9 ⟨o,h1,h2⟩ (hl _ (by decide) e) (fun z=>nomatch z) fin
 | dB hq rs =>
  obtain⟨cY,rv,pl,hz⟩:=I.list hq.sq;obtain⟨o,h1,h2,_⟩:=pl.isList;refine tl h1 h2 ?_ rfl;have:k=(C == "list"):=(bu hk).symm;rw [this];exact mq (fun C=>(C == "list")=("list" == C||("list" == "bool" && C == "int"))) (by decide)
 | sP h rs =>
  have e:k=("dict" == C||("dict" == "bool" && C == "int")):=by
   have:k=(C == "dict"):=(bu hk).symm;rw [this];exact mq (fun C=>(C == "dict")=("dict" == C||("dict" == "bool" && C == "int"))) (by decide)
  obtain⟨_,_,vs,_,ob,_,_,h1,h2,_⟩:=tR I.dr (.inr ⟨_,h⟩);exact td h1 h2.1 e rfl
 | sO h rs =>
  have e:k=("dict" == C||("dict" == "bool" && C == "int")):=by
   have:k=(C == "dict"):=(bu hk).symm;rw [this];exact mq (fun C=>(C == "dict")=("dict" == C||("dict" == "bool" && C == "int"))) (by decide)
  obtain⟨_,_,ys,_,ob,_,_,h1,h2,_⟩:=ze I.dr (.inr ⟨_,h⟩);exact td h1 h2.1 e rfl
 | exc h=>simp [GN] at hk
 | pW h _=>simp [GN] at hk
 | ref l =>
  unfold GN at hk;dsimp only at hk;cases hg:G l with
  | none=>rw [hg] at hk; cases hk
  | some g =>
   rw [hg] at hk;cases g with
   | lst ds =>
    obtain⟨vs,hv,rs⟩:=ab.lst hg;obtain⟨cY,rv,pl,hz⟩:=I.list (.of hv);obtain⟨o,h1,h2,_⟩:=pl.isList;refine tl h1 h2 ?_ rfl;have:k=(C == "list"):=(bu hk).symm;rw [this];exact mq (fun C=>(C == "list")=("list" == C||("list" == "bool" && C == "int"))) (by decide)
   | ins _ _=>cases hk
   | sV bF =>
    have e:k=("dict" == C||("dict" == "bool" && C == "int")):=by
     have:k=(C == "dict"):=(bu hk).symm;rw [this];exact mq (fun C=>(C == "dict")=("dict" == C||("dict" == "bool" && C == "int"))) (by decide)
    rcases ab l _ hg with ⟨kv,hv,rs⟩ | ⟨kv,hv,rs⟩
    ·obtain⟨_,_,vs,_,ob,_,_,h1,h2,_⟩:=CW I.dr hv;exact td h1 h2.1 e rfl
    ·obtain⟨_,_,ys,_,ob,_,_,h1,h2,_⟩:=Iy I.dr hv;exact td h1 h2.1 e rfl
theorem yW (C:String) (hC:C∈["int","bool","list","tuple","dict","str"]) {y:Str} {py:Pos} (hg:Gl X "isinstance") (hm:X.mg "isinstance" = none) (HX:Gl X y) (HS:X.mg y=none) (Mz:i7 y=some (.type C)) (ha:hX X a ta) (hn:autoParam (y≠"__name__") Ad._auto_1) (uV:autoParam ((y == ("__debug__" : Str))=false) Ad._auto_1)
  (he:autoParam (aX [a,.Name y py] X.env=(false,eval a X.env) :: aX [.Name y py] X.env) Ar._auto_1) (sE:autoParam ((i4 pos (aX [Expr.Name y py] X.env)).any (·.1)=false) Ar._auto_1) (H4:autoParam (aX [.Name y py] X.env=[(false,eval (.Name y py) X.env)]) Ar._auto_1) :
  hX X (.Call (.Name "isinstance" p) [a,.Name y py] [] pos) (Eu C ta):=by
 intro E pins s σ H τ G Q hE I h;refine eA (oT I.inv hg hm lB ?_);refine cG ?_ he sE;rw [he];show wpAny _ _ (qe ((false,eval a X.env) :: i4 pos (aX [.Name y py] X.env))) _ _ s;refine cD (mB ha hE I h fun v H1 d G1 u s1 I1 m1 r1 nR q1=>?_);rw [H4];show wpAny _ _ (qe [(false,eval (.Name y py) X.env)]) _ _ s1;refine cD (oT I1.inv HX HS Mz (lE ?_) hn uV)
 try dsimp only at q1
 split at q1
 ·rename_i k hk;exact fX (Cs C hC I1.inv I1.ab r1 nR hk q1) fun _ _ z=>z.trans m1
 ·exact q1.elim
end
end K2
end
section
namespace K2
open PySem PySem.Spec PyProof.Rows L2
section
variable {X:Cx} {a b c e o:Expr} {es:List Expr} {ta tb tc te to:dM} {t:vc} {pos p p2 apos mn:Pos} {x name:Str} {id T:String}
noncomputable def II(X:Cx)(id:String)(r:D->List D->Gp->DK->Prop):Prop :=
 ∀ (pins:List (Addr×Obj)) (s:au) (σ:L2.St) (H:Hp) (G:Gp) (x:V) (d:D) (xs:List V) (ds:List D) (v:Value) (us:List Value) (Q:DK),Inv X pins σ H s->mL X.K H G->RelV x v->cf X.K H x d->Vals xs us->bp X.K H xs ds->r d ds G Q ->
  wpAny (model X.prog X.w) X.A (call (.builtin id) (v :: us)) (qE X pins σ H G Q) X.xe s
noncomputable def ID(X:Cx)(T:String)(ty:D->Gp->Prop):Prop:=∀ (pins:List (Addr×Obj)) (s:au) (σ:L2.St) (H:Hp) (G:Gp) (x:V) (d:D) (v:Value),Inv X pins σ H s->mL X.K H G->RelV x v->cf X.K H x d->ty d G ->
  s.TypeIs v T/\∀ a,v=.ref a->∃ ob,s.heap.get? a=some ob/\ob.dict=none
theorem mz:ID X "list" DA:=by
 intro pins s σ H G x d v I ab r rd h;cases rd with
 | dB hq rs=>exact BM I r (.inl ⟨rfl,_,hq.sq⟩)
 | ref l =>
  unfold DA at h;dsimp only at h;split at h
  ·rename_i ds hg;obtain⟨vs,hv,rs⟩:=ab.lst hg;exact BM I r (.inl ⟨rfl,vs,.of hv⟩)
  ·exact h.elim
 | _=>exact bJ h
theorem qo {ty:D->Gp->Prop} {r:D->List D->Gp->DK->Prop} (pa:PlainAttrs T) (slot:Slot T name id) (MC:typeOf (.builtin id)=pure (.type "method_descriptor")) (ht:ID X T ty) (hm:II X id r) (ho:hX X o to) (ha:zk X (e :: es) t)
  (Ii:autoParam (qf o name X.env (eval o X.env)=eval o X.env) Ar._auto_1)
  (Km:autoParam (((i4 mn (aX (e :: es) X.env)).all (fun x=>!x.1)&&(backToKw mn (t7 [] X.env)).all (fun x=>x.1.isSome)
   && decide ((e :: es).length+([]:List By).length+(if ([]:List By).isEmpty then 0 else 1) < 30))=true) Ar._auto_1)
  (HU:autoParam ((apos.endLine == mn.line)=true) Ar._auto_1) (hs:autoParam (aX (e :: es) X.env=(false,eval e X.env) :: aX es X.env) Ar._auto_1) (F7:autoParam ((i4 mn (aX es X.env)).any (·.1)=false) Ar._auto_1) :
  hX X (.Call (.Attribute o name apos) (e :: es) [] mn) (Es ty r to t):=by
 intro E pins s σ H τ G Q hE I h;refine wpAny_Call_method_late Ii Km HU rfl (mB ho hE I h ?_);rintro x H1 d G1 v s1 I1 m1 r1 nR ⟨hy,q1⟩;obtain⟨h1,h2⟩:=ht pins s1 σ H1 G1 x d v I1.inv I1.ab r1 nR hy;refine⟨T,id,pa,slot,MC,h1,h2,?_⟩;have hA:=ha mn E pins s1 σ H1 τ G1 _ hE I1 q1;rw [hs] at hA ⊢;refine Calls.callWith_builtin (by show (false||(i4 mn (aX es X.env)).any (·.1))=false; rw [F7] <;> rfl) (Calls.evalArgs_plain ?_);exact fX hA (by rintro us s2 ⟨vs,H2,ds,G2,mw,m2,r2,Fw,q2⟩; exact fX (hm pins s2 σ H2 G2 x d vs ds v us Q mw m2.ab r1 (nR.mono (m2.kp I1.ab)) r2 Fw q2) fun _ _ z=>z.trans (m1.trans m2))
theorem yo(l:Addr)(xs:Array Value)(n:Nat)(b:Addr)(ys:Array Value)(n2:Nat)(dd:Option Addr)(sl:Array (Option Value))(E2:¬(!xs.isEmpty&&ie (xs.size+ys.size))=true)(hx:xs.size<=aZ)(Mt:xs.size+ys.size<=aZ+1) :
  Meets (Builtin.«list.extend» ⟨[.ref l,.ref b],[]⟩) (fun _ R s=>s.heap.get? l=some { cls:=.type "list",dict:=none,data:=.seq xs n,slots:=#[] }/\s.heap.get? b=some { cls:=.type "list",dict:=dd,data:=.seq ys n2,slots:=sl }/\R (.ok (.ret yB)) { s with heap:=s.heap.update l (Obj.mapSeq fun x=>x++ys),toks:=s.toks }) :=
 .of_wp fun prog w A R s h=>by
  obtain⟨hp,g,d,tk,os⟩:=s;obtain⟨h1,h2,h3⟩:=h;have e1:=AutoSeq1.idx_int;have e2:=vt;have e3:=AutoSeq1.sub_list_list;have e4:=AutoSeq1.sub_tuple_list;have e5:=AutoSeq1.sub_list_tuple;have Mr:(xs++ys).size<=aZ+1:=by rw [Array.size_append]; exact Mt
  wp_walk using (wpAny_updateSeq h1 rfl (hz:=hx) (_hz':=Mr)),rp h1,rp h2
  exact⟨_,rfl,h3⟩
theorem j1:II X "list.extend" kX:=by
 intro pins s σ H G x d xs ds v us Q I ab rx rd LW LZ q;unfold kX at q;split at q
 ·rename_i l y;cases rd;obtain⟨w,rfl,sN⟩:=LZ.one;obtain⟨u,rfl,ru⟩:=LW.one;split at q
  ·rename_i zs ys hg MY;obtain⟨hz,q⟩:=q;obtain⟨vs,hv,rs⟩:=ab.lst hg;obtain⟨b,ws,sS,rfl,GJ,Ho,hb,_⟩:=o4 I ab ru sN MY;cases rx;obtain⟨z,cY,n,r,hl,e⟩:=I.HF hv;obtain⟨⟨cl,dd,dt,sl⟩,ho,DD,n2,Lg⟩:=hb;simp only at DD Lg;subst DD Lg;have h1:=GJ.length;have h2:=Ho.length;have h3:=rs.length;have h4:=r.length;have h5:aZ=16777216:=bR;have h6:SZ=16777216:=rfl;have FZ:cY.toArray.size+sS.toArray.size<=aZ:=by rw [bx,bx]; lia
   have E2:¬ (!cY.toArray.isEmpty&&ie (cY.toArray.size+sS.toArray.size))=true:=by
    rw [Ce FZ,qY];exact nD
   refine call_meets F.slot_list_extend ⟨_,e,rfl⟩ F.entry_list_extend (F.args_list_extend_2 _ _) (yo l cY.toArray n b sS.toArray n2 dd sl E2 (by rw [bx]; lia) (by lia)) ⟨e,ho,?_⟩;refine⟨.l7,_,.l7,_,I.HG (its':=cY++sS) hv e (by simp) (r.append GJ) ?_,.putL ab hg hv (rs.append Ho),rfl,.l7,q⟩;rw [bZ];lia
  ·exact q.elim
 ·exact q.elim
end
end K2
end
section
namespace K2
open PySem PySem.Spec PyProof.Rows L2
noncomputable def c6(env:Env):List (Str×oH)->List (Str×Addr)->List (Str×Addr)
 | [],acc=>acc
 | (n,k) :: r,acc=>if k=.free then c6 env r ((n,(env.cells.lookup n).getD 0) :: acc) else c6 env r acc
theorem o3(env:Env)(f:Str×oH->List (Str×Addr)->Sem (ForInStep (List (Str×Addr))))(hf:∀ n k c,f (n,k) c=if (k == jX)=true then (cellOf env n >>= fun a=>pure (oF ((n,a) :: c))) else pure (oF c)) :
  ∀ (ns:List (Str×oH)) (acc:List (Str×Addr)),(∀ x∈ns,x.2=.free->∃ c,env.cells.lookup x.1=some c)->forIn ns acc f=(pure (c6 env ns acc):Sem (List (Str×Addr)))
 | [],acc,_=>rfl
 | (n,k) :: r,acc,h=>by
  rw [List.forIn_cons,hf];have hr:∀ x∈r,x.2=.free->∃ c,env.cells.lookup x.1=some c:=fun x hx=>h x (cW _ hx);by_cases hk:k=.free
  ·subst hk;obtain⟨c,hc⟩:=h (n,.free) dI rfl;have ec:cellOf env n=pure c:=by unfold cellOf; rw [hc]
   rw [if_pos (by decide),ec,pure_bind,pure_bind];show forIn r ((n,c) :: acc) f=_;rw [o3 env f hf r _ hr];show _=(pure (c6 env ((n,.free) :: r) acc):Sem (List (Str×Addr)));rw [c6,if_pos rfl,hc]; rfl
  ·rw [if_neg (by simpa using hk),pure_bind];show forIn r acc f=_;rw [o3 env f hf r _ hr];show _=(pure (c6 env ((n,k) :: r) acc):Sem (List (Str×Addr)));rw [c6,if_neg hk]
theorem sY{env:Env}{scope:Scope}(h:∀ x∈scope.names,x.2=.free->∃ c,env.cells.lookup x.1=some c):closureFor scope env=pure (c6 env scope.names []):=by
 unfold closureFor;dsimp only;rw [o3 env _ (fun n k c=>?_) scope.names [] h]
 ·rfl
 ·by_cases hk:(k == jX)=true
  ·simp only [hk,if_true]
  ·simp only [hk,if_false,bj]
theorem pB{env:Env}{x:Str}{c:Addr}:∀ {ns:List (Str×oH)} {acc:List (Str×Addr)},(∀ y∈ns,y.2=.free->∃ c,env.cells.lookup y.1=some c)->(∀ y c,acc.lookup y=some c->env.cells.lookup y=some c)->(c6 env ns acc).lookup x=some c->env.cells.lookup x=some c
 | [],_,_,ha,e=>ha _ _ e
 | (n,k) :: r,acc,h,ha,e=>by
  have hr:∀ y∈r,y.2=.free->∃ c,env.cells.lookup y.1=some c:=fun y hy=>h y (cW _ hy);unfold c6 at e;by_cases hk:k=.free
  ·rw [if_pos hk] at e;refine pB hr (fun y c' q=>?_) e;rw [jW] at q;by_cases hy:(y == n)=true
   ·rw [hy] at q;have e1:y=n:=eq_of_beq hy;subst e1;obtain⟨c0,M5⟩:=h (y,k) dI hk;rw [M5] at q ⊢;exact q
   ·have JX:(y == n)=false:=by simpa using hy
    rw [JX] at q;exact ha y c' q
  ·rw [if_neg hk] at e;exact pB hr ha e
theorem mQ{env:Env}{x:Str}:∀ {ns:List (Str×oH)} {acc:List (Str×Addr)},((x,jX)∈ns\/∃ c,acc.lookup x=some c)->∃ c,(c6 env ns acc).lookup x=some c
 | [],_,h=>by rcases h with h | h; exact absurd h (by simp); exact h
 | (n,k) :: r,acc,h=>by
  unfold c6;have grow:∀ a,(∃ c,acc.lookup x=some c)->∃ c,((n,a) :: acc).lookup x=some c:=fun a HQ=>by
   obtain⟨c,hc⟩:=HQ;rw [jW];by_cases hy:(x == n)=true
   ·rw [hy]; exact⟨_,rfl⟩
   ·have JX:(x == n)=false:=by simpa using hy
    rw [JX]; exact⟨c,hc⟩
  by_cases hk:k=.free
  ·rw [if_pos hk];refine mQ ?_;rcases h with h | h
   ·rcases List.mem_cons.mp h with e | h
    ·injection e with e1 e2
     subst e1;exact .inr ⟨(env.cells.lookup x).getD 0,by rw [jW]; simp⟩
    ·exact .inl h
   ·exact .inr (grow _ h)
  ·rw [if_neg hk];refine mQ ?_;rcases h with h | h
   ·rcases List.mem_cons.mp h with e | h
    ·injection e with e1 e2
     exact absurd e2.symm hk
    ·exact .inl h
   ·exact .inr h
noncomputable abbrev cI(X:Cx)(N:List Str)(scope:Scope)(C:Addr)(s:au)(H:Hp)(fp:List Addr):Cx :=
 { X with env:=compEnvC scope (c6 X.env scope.names []) C X.env,N:=N,l6:=s,Dk:=H,outer:=X.stack,stack:=X.stack,ex:=fp,fn:=fun _=>false,pn:=[],xe:=fun _ _=>False }
theorem pC{scope:Scope}{env:Env}{x:Str}(h:(xa scope env).names.lookup x=some .cell\/(xa scope env).names.lookup x=some .free)(nu:∀ y∈scope.names,y.2≠.cell):(x,jX)∈scope.names:=by
 have go:∀ k,(xa scope env).names.lookup x=some k->k=.cell\/k=.free->(x,jX)∈scope.names:=by
  intro k hk MV;have hm:=fg hk;unfold xa at hm;dsimp only at hm;obtain⟨⟨n,j⟩,hj,e⟩:=List.mem_map.mp hm;dsimp only at e;by_cases hc:(j == jX&&env.scope.kind == .function&&env.kindOf n == some .cell)=true
  ·rw [if_pos hc] at e;rw [aP,aP] at hc;injection e with e1 e2
   have ej:j=.free:=eq_of_beq hc.1.1;rw [ej,e1] at hj;exact hj
  ·rw [if_neg hc] at e;injection e with e1 e2
   subst e1;rcases MV with r | r
   ·exact absurd (e2.trans r) (nu _ hj)
   ·rw [e2.trans r] at hj; exact hj
 rcases h with h | h
 ·exact go _ h (.inl rfl)
 ·exact go _ h (.inr rfl)
section
variable {X:Cx} {N:List Str} {scope:Scope} {fp:List Addr} {pins:List (Addr×Obj)} {σ:L2.St} {H:Hp} {s:au} {C:Addr}
theorem Gy(I:Inv X pins σ H s)(nu:∀ y∈scope.names,y.2≠.cell)(tM:scope.kind=.function)(pT:∀ y∈scope.names,y.2=.free->X.env.kindOf y.1=some .cell)(hC:s.heap.objs.size<=C)(Kk:∀ b∈fp,rg X pins H b/\b < s.heap.objs.size):(cI X N scope C s H fp).Ok:=by
 have DD:∀ y∈scope.names,y.2=.free->∃ c,X.env.cells.lookup y.1=some c:=fun y hy hf=>I.ok.has _ (.inl (pT y hy hf));have Fm:∀ x c,(c6 X.env scope.names []).lookup x=some c->X.env.cells.lookup x=some c:=fun x c e=>pB DD (fun y c q=>by simp at q) e;refine⟨I.ok.mod,tM,I.ok.glob,I.ok.blt,hC,fun x y c h1 h2=>I.ok.inj x y c (Fm x c h1) (Fm y c h2),fun x hx=>?_,fun x c h=>absurd h (by simp),I.ok.hd,I.ok.frames,.inl rfl,fun b hb=>?_,I.bs,b8 I.ok.DE I.sz,fun b o e hb=>?_,fun b hb=>?_,I.stack,I.yL⟩
 ·exact mQ (.inl (pC hx nu))
 ·obtain⟨⟨f0,f1,f2,f3,f4,f5⟩,za⟩:=Kk b hb;exact⟨cA (aY za hC),fun x c e=>f4 x c (Fm x c e)⟩
 ·obtain⟨⟨f0,f1,f2,f3,f4,f5⟩,za⟩:=Kk b hb;rcases f3 with f3 | f3
  ·exact I.ok.Cf b o e f3
  ·exact absurd (aY (aU e) (b8 I.ok.DE f3)) (my _)
 ·obtain⟨⟨f0,f1,f2,f3,f4,f5⟩,za⟩:=Kk b hb;intro z;rcases List.mem_cons.mp (I.xU b z) with e | e
  ·exact f1 e
  ·exact f2 e
theorem Ey{pR:Heap}{m:Nat}{fr:List Nat}{tk:Nat}(I:Inv X pins σ H s)(ok:(cI X N scope s.heap.objs.size s H fp).Ok)(Gd:∀ y∈scope.names,y.2≠.cell)(pT:∀ y∈scope.names,y.2=.free->X.env.kindOf y.1=some .cell)(hN:N.length=m+fr.length)
  (Kj:∀ j i x,fr[j]?=some i->N[m+j]?=some x->X.N[i]?=some x/\X.env.scope.names.lookup x=some .cell/\(xa scope X.env).names.lookup x=some .cell) (yj:∃ mm,pR.Ns s.heap.objs.size mm) (hk:∀ b o,s.heap.get? b=some o->pR.get? b=some o) :
  Inv (cI X N scope s.heap.objs.size s H fp) [] (c1 m none++fr.map fun i=>(σ[i]?).getD none) H { s with heap:=pR,toks:=tk }:=by
 have DD:∀ y∈scope.names,y.2=.free->∃ c,X.env.cells.lookup y.1=some c:=fun y hy hf=>I.ok.has _ (.inl (pT y hy hf));have Fm:∀ x c,(c6 X.env scope.names []).lookup x=some c->X.env.cells.lookup x=some c:=fun x c e=>pB DD (fun y c q=>by simp at q) e;obtain⟨mm,yj⟩:=yj;refine⟨ok,rfl,I.bare,Un.kept hk,⟨mm,yj,fun i x v h1 h2 h3=>?_⟩,fun x c e=>?_,I.dr.fresh (ck _),fun x c e=>?_,fun p hp=>absurd hp (by simp),I.dr.kept hk,?_⟩
 ·by_cases hi:i < m
  ·rw [dN (by simpa using hi),k7] at h2;split at h2 <;> cases h2
  ·obtain⟨j,rfl⟩:∃ j,i=m+j:=⟨i - m,by lia⟩;rw [cH (by simp),cN,oO,c4] at h2;cases hj:fr[j]? with
   | none=>rw [hj] at h2; cases h2
   | some k =>
    rw [hj] at h2;have CH:(σ[k]?).getD none=some v:=by simpa using h2
    have Ke:σ[k]?=some (some v):=by
     cases q:σ[k]? with
     | none=>rw [q] at CH; cases CH
     | some o=>rw [q] at CH; simp at CH; rw [CH]
    obtain⟨e1,e2,e3⟩:=Kj j k x hj h1;obtain⟨m0,NR,MT⟩:=I.loc;obtain⟨u,r,l⟩:=MT k x v e1 Ke (.inr (.inl e2));refine⟨u,r,.inr ⟨.inl e3,?_⟩⟩;rcases l with ⟨l1,_⟩ | ⟨_,c,hc,nu⟩
    ·have:X.env.scope.names.lookup x=some .local:=l1;rw [e2] at this; cases this
    ·have hx:(x,jX)∈scope.names:=pC (.inl e3) Gd;obtain⟨c',Ig⟩:=mQ (env:=X.env) (x:=x) (ns:=scope.names) (acc:=[]) (.inl hx);have:=Fm x c' Ig;rw [hc] at this;have ec:c=c':=bu this;subst ec;obtain⟨oc,GR,hd⟩:=nu;exact⟨c,Ig,oc,hk _ _ GR,hd⟩
 ·obtain⟨v,oc,GR,hd⟩:=I.cell x c (Fm x c e);exact⟨v,oc,hk _ _ GR,hd⟩
 ·exact I.nv x c (Fm x c e)
 ·rw [bZ,cN,cO];exact hN.symm
theorem va{prog:bo}{w:World}{A:cZ}{R:Result->au->Prop}{s:au}{elt target iter:Expr}{ifs:List Expr}{sc:Scope}{pos:Pos}{it acc:Value}{env:Env}(J:Nat->au->Prop)
  (turn:∀ n s,J n s->wpAny (model prog w) A (pyNext it) (fun r cS=>match r with
   | none=>R (.ok .next) cS
   | some v=>wpAny (model prog w) A (rB target it v) (fun _ Hj=>wpAny (model prog w) A (assign target env v) (fun _ xT =>
     wpAny (model prog w) A (forIn ifs true fun c r=>if r=true then do let ok ← isTrue c env (eval c env); pure (oF ok) else pure (oF r)) (fun k BQ =>
      if k=true then wpAny (model prog w) A (eval elt env) (fun x An=>wpAny (model prog w) A (call (.builtin "list.append") [acc,x]) (fun _ BP=>∃ m,m < n/\J m BP) (fun _ _=>False) An) (fun _ _=>False) BQ
      else ∃ m,m < n/\J m BQ) (fun _ _=>False) xT) (fun _ _=>False) Hj) (fun _ _=>False) cS) (fun _ _=>False) s) (n:Nat) (h:J n s) :
  oN (model prog w) A (.compLoop (.ListComp elt [⟨target,iter,ifs,0⟩] sc pos) 0 it acc env) R s:=by
 have no:∀ {α:Type} {t:Sem α} {Q:α->au->Prop} {E:Value->au->Prop} {s:au},wpAny (model prog w) A t Q (fun _ _=>False) s->wpAny (model prog w) A t Q E s:=fun h=>ph h (fun _ _ q=>q) fun _ _ z=>z.elim;refine codeAny_loop rfl J (fun n s hJ=>?_) n h;show wpAny _ A ((compTurn (.ListComp elt [⟨target,iter,ifs,0⟩] sc pos) 0 it acc env).onRaise (fun x=>do noteFrame x env; theTreesLotGoes x)) _ _ s;refine wpAny_noted ?_;rw [compTurn_list];refine aL (wpAny_standAt (aL (fX (no (turn n s hJ)) fun r cS pR=>?_)));cases r with
 | none=>exact bg pR
 | some v =>
  refine aL (fX (no pR) fun _ xT FY=>aL (fX (no FY) fun _ BQ JW=>aL (fX (no JW) fun k An HL=>?_)));cases k with
  | false=>exact bg ⟨rfl,HL⟩
  | true=>exact aL (aL (fX (no HL) fun x BP JV=>aL (fX (no JV) fun _ LU JU=>bg (bg ⟨rfl,JU⟩))))
noncomputable def CompEnd(X:Cx)(pins:List (Addr×Obj))(σ:L2.St)(H:Hp)(G:Gp)(Q:DK)(C Dd:Addr)(s':au):Prop :=
 ∃ m H' G',Inv X pins σ H' s'/\s'.heap.Ns C m/\rg X pins H' C/\Mv X.K H G H' G'/\Q (.ref Dd) G'
inductive IH (Xc:Cx):List Expr->Option wN->Prop
 | none:IH Xc [] none
 | some {c:Expr} {t:wN}:DF Xc c t->IH Xc [c] (some t)
theorem A1{τ:i6}{G G2:Gp}{H2:Hp}{s2:au}{tg elt iter:Expr}{ifs:List Expr}{pos:Pos}{m:Nat}{fr:List Nat}{E:mr}{g:Bl}{c:Option wN}{te:dM}{J:It}{tn:Nat->Heap->Prop}{it:Addr}{ds:List D}{ok:Gp->Prop}{Q:DK}{Rr:Value->Addr->Result->au->Prop}{E0:Value->au->Prop}
  (hc:X.calm=true) (nu:∀ y∈scope.names,y.2≠.cell) (tM:scope.kind=.function) (pT:∀ y∈scope.names,y.2=.free->X.env.kindOf y.1=some .cell) (hN:N.length=m+fr.length)
  (Kj:∀ j i x,fr[j]?=some i->N[m+j]?=some x->X.N[i]?=some x/\X.env.scope.names.lookup x=some .cell/\(xa scope X.env).names.lookup x=some .cell)
  (hg:∀ C s H fp,Ha (cI X N scope C s H fp) tg g) (hi:∀ C s H fp,IH (cI X N scope C s H fp) ifs c) (he:∀ C s H fp,hX (cI X N scope C s H fp) elt te)
  (I:I2 X pins σ H2 τ G2 s2) (m2:Mv X.K H G H2 G2) (T:Turn X.prog X.w X.K tg J fp it tn) (GH:tn 0 s2.heap) (f2:∀ b∈fp,rg X pins H2 b) (wk:E8 X.K J H2 ds ok) (hz:ds.length<=SZ)
  (Kx:∀ ex G,¬ E ex G) (q:kS g c te ok ds E (o2 m fr τ) G2 [] fun xs G3=>wF G3 (.lst xs) Q)
  (fin:∀ C s',CompEnd X pins σ H G Q C s2.heap.objs.size s'->Rr (.ref s2.heap.objs.size) C (.ok .next) s') :
  wpAny (model X.prog X.w) X.A (newList []) (fun acc BQ=>wpAny (model X.prog X.w) X.A (newFunctionEnv scope X.env.globals (c6 X.env scope.names []) [] X.env.qual none .none (some X.env)) (fun IA An =>
   oN (model X.prog X.w) X.A (.compStart (.ListComp elt [⟨tg,iter,ifs,0⟩] scope pos) 0 (.ref it) acc { IA with scope:=xa scope X.env }) (Rr acc IA.locals) An) E0 BQ) E0 s2:=by
 have sz:aZ=16777216:=bR;have qz:H2 s2.heap.objs.size=none:=I.inv.dr.fresh (ck _);have Gj:G2 s2.heap.objs.size=none:=I.ab.free qz;refine wpAny_newObj_type (wpAny_newFunctionEnv nu (by intro y hy; simp at hy) (fun pR CA Cw=>?_) tM);dsimp only at CA Cw ⊢;have I3:Inv X pins σ (upd H2 s2.heap.objs.size (.lst [])) { s2 with heap:=s2.heap.push { cls:=.type "list",data:=.seq ([]:List Value).toArray },toks:=s2.toks }:=I.inv.JN (ys:=[]) .nil (fq _);generalize Lf:({ s2 with heap:=s2.heap.push { cls:=.type "list",data:=.seq ([]:List Value).toArray },toks:=s2.toks }:au)=s3 at I3;generalize Im:upd H2 s2.heap.objs.size (.lst [])=H3 at I3;have Lr:∀ b,b≠s2.heap.objs.size->H3 b=H2 b:=fun b hb=>by rw [<-Im,bc hb]
 have wm:s3.heap=s2.heap.push { cls:=.type "list",data:=.seq ([]:List Value).toArray }:=by rw [<-Lf]
 have Hl:s3.heap.objs.size=s2.heap.objs.size+1:=by rw [wm,yI]
 have CC:∀ b∈fp,b < s2.heap.objs.size:=fun b hb=>by
  obtain⟨o,e,_⟩:=T.obj _ _ GH b hb;exact aU e
 have HY:∀ b∈fp,rg X pins H3 b/\b < s3.heap.objs.size:=fun b hb=>by
  have Ll:=CC b hb;obtain⟨f0,f1⟩:=f2 b hb;exact⟨⟨by rw [Lr b (cA Ll)]; exact f0,f1⟩,aY Ll (by rw [Hl]; exact xm _)⟩
 have IW:(cI X N scope s3.heap.objs.size s3 H3 fp).Ok:=Gy I3 nu tM pT (ck _) HY;have E3:∀ b o,s3.heap.get? b=some o->pR.get? b=some o:=fun b o e=>by
  have hb:b < s3.heap.objs.size:=aU e;refine Cw.extBut b o ?_ (aM _ ?_)
  ·rw [<-wm]; exact cA hb
  ·rw [<-wm]; exact e
 have J8:∃ mm,pR.Ns s3.heap.objs.size mm:=⟨_,by rw [wm]; exact CA⟩;have I4:=Ey (tk:=s3.toks+([]:List (Str×Value)).length) I3 IW nu pT hN Kj J8 E3;have JS:Kp H2 H3:=by rw [<-Im]; exact .new qz
 have Nx:mL X.K H3 G2:=by rw [<-Im]; exact(Mv.Kg I.ab qz).ab
 have Mn:Mv X.K H2 G2 H3 G2:=by rw [<-Im]; exact .Kg I.ab qz
 have IS:Dq X.K H3 (c1 m none++fr.map fun i=>(σ[i]?).getD none) (o2 m fr τ):=by
  refine⟨by unfold o2; rw [bZ,bZ,cO,cO,cN,cN],fun i d h2=>?_⟩;unfold o2 at h2;by_cases hi:i < m
  ·rw [dN (by simpa using hi),k7] at h2;split at h2 <;> cases h2
  ·obtain⟨j,rfl⟩:∃ j,i=m+j:=⟨i - m,by lia⟩;rw [cH (by simp),cN,oO,c4] at h2;rw [cH (by simp),cN,oO,c4];cases hj:fr[j]? with
   | none=>rw [hj] at h2; cases h2
   | some k =>
    rw [hj] at h2;have CH:(τ[k]?).getD none=some d:=by simpa using h2
    have Ke:τ[k]?=some (some d):=by
     cases qq:τ[k]? with
     | none=>rw [qq] at CH; cases CH
     | some o=>rw [qq] at CH; simp at CH; rw [CH]
    obtain⟨v,e1,e2⟩:=I.st.at' k d Ke;exact⟨v,by simp [e1],e2.mono JS⟩
 have Nc:H3 s2.heap.objs.size=some (.lst []):=by rw [<-Im,cj]
 have Hk:tn 0 pR:=T.keep _ _ _ GH fun b hb o e=>E3 b o (by rw [wm]; exact aM _ e);have BR:∀ {Hc:Hp},(∀ b∈fp,Hc b=none)->∀ b∈fp,rg (cI X N scope s3.heap.objs.size s3 H3 fp) [] Hc b:=fun hn b hb =>
  ⟨hn b hb,(IW.Jf b hb).1,IW.CN b hb,.inl hb,fun x c e=>(IW.Jf b hb).2 x c e,fun p hp=>absurd hp (by simp)⟩
 have Ml:∀ b∈fp,b≠s2.heap.objs.size:=fun b hb=>cA (CC b hb);have loop:oN (model X.prog X.w) X.A (.compLoop (.ListComp elt [⟨tg,iter,ifs,0⟩] scope pos) 0 (.ref it) (.ref s2.heap.objs.size) (cI X N scope s3.heap.objs.size s3 H3 fp).env) (Rr (.ref s2.heap.objs.size) s3.heap.objs.size)
   { s3 with heap:=pR,toks:=s3.toks+([]:List (Str×Value)).length }:=by
  refine va (fun n s'=>∃ i Dz Hc BA Gc o6 p4,I2 (cI X N scope s3.heap.objs.size s3 H3 fp) [] Dz Hc BA Gc s'/\Gc s2.heap.objs.size=none/\Hc s2.heap.objs.size=some (.lst o6)/\bp X.K Hc o6 p4/\p4.length<=i/\Mv X.K H2 G2 Hc Gc/\tn i s'.heap/\(∀ b∈fp,Hc b=none) /\
   n=ds.length - i/\i<=ds.length/\kS g c te ok (ds.drop i) E BA Gc p4 fun xs G3=>wF G3 (.lst xs) Q) ?_ ds.length
   ⟨0,_,H3,_,G2,[],[],⟨I4,IS,Nx⟩,Gj,Nc,.nil,ck _,Mn,Hk,fun b hb=>by rw [Lr b (Ml b hb)]; exact(f2 b hb).1,rfl,fq _,q⟩
  rintro n s4 ⟨i,Dz,Hc,BA,Gc,o6,p4,Ic,gD,hD,rA,hA,mc,KY,Lp,rfl,hle,wq⟩;have La:Kp H2 Hc:=mc.kp I.ab;by_cases za:i < ds.length
  ·rw [yH za] at wq;obtain⟨JH,wq⟩:=wq;obtain⟨go,yl⟩:=(wk i Hc Gc La Ic.ab JH).1 ds[i] (by simp [za]);refine fX (T.item (cI X N scope s3.heap.objs.size s3 H3 fp) rfl rfl rfl hc i [] s4 Dz Hc (fun _ _=>False) Ic.inv (BR Lp) KY go) ?_;rintro r s5 ⟨u,hr,h5⟩;subst hr;refine fX h5 ?_;rintro _ s6 ⟨x,H6,I6,r6,y6,Jw,Nf⟩;obtain⟨L8,m6⟩:=yl x H6 y6;have ND:=I6.pinned (BR Nf) (T.obj _ _ Jw);have J6:I2 (cI X N scope s3.heap.objs.size s3 H3 fp) ([]++nU fp s6.heap) Dz H6 BA Gc s6:=⟨ND,Ic.st.mono (m6.kp Ic.ab),m6.ab⟩;have back:∀ {Js:L2.St} {H9:Hp} {IM:i6} {G9:Gp} {s9:au} {aV:List V} {aD:List D},I2 (cI X N scope s3.heap.objs.size s3 H3 fp) ([]++nU fp s6.heap) Js H9 IM G9 s9->Mv X.K H2 G2 H9 G9->G9 s2.heap.objs.size=none->H9 s2.heap.objs.size=some (.lst aV)->bp X.K H9 aV aD->aD.length<=i+1 ->
     (kS g c te ok (ds.drop (i+1)) E IM G9 aD fun xs G3=>wF G3 (.lst xs) Q)->∃ mm,mm < ds.length - i/\∃ i Dz Hc BA Gc o6 p4,I2 (cI X N scope s3.heap.objs.size s3 H3 fp) [] Dz Hc BA Gc s9/\Gc s2.heap.objs.size=none/\Hc s2.heap.objs.size=some (.lst o6)/\bp X.K Hc o6 p4/\p4.length<=i /\
      Mv X.K H2 G2 Hc Gc/\tn i s9.heap/\(∀ b∈fp,Hc b=none)/\mm=ds.length - i/\i<=ds.length/\kS g c te ok (ds.drop i) E BA Gc p4 fun xs G3=>wF G3 (.lst xs) Q:=fun {Js H9 IM G9 s9 aV aD} I9 m9 g9 h9 r9 l9 n9=>by
    refine⟨ds.length - (i+1),by lia,i+1,Js,H9,IM,G9,aV,aD,⟨I9.inv.pz,I9.st,I9.ab⟩,g9,h9,r9,l9,m9,T.keep _ _ _ Jw fun b hb o e=>(I9.inv.pin (b,o) (b7 _ (b7 _ (mV hb e)))).1,fun b hb=>?_,rfl,za,n9⟩;obtain⟨o,e,d⟩:=T.obj _ _ Jw b hb;exact(I9.inv.pin (b,o) (b7 _ (b7 _ (mV hb e)))).2.1
   have Mo:=mc.trans m6;have Nb:=m6.keep _ _ hD gD;refine fX (hg _ _ _ _ E _ s6 Dz H6 BA Gc x ds[i] u _ (Lk.none Kx) J6 r6 L8 wq) ?_;rintro _ s7 ⟨Bj,H7,Bi,G7,I7,m7,q7⟩;have Jd:=m7.keep _ _ Nb.1 gD;have K7:=Mo.trans m7;have K0:=rA.mono ((m6.trans m7).kp Ic.ab);have Iw:∀ (H8:Hp) (G8:Gp) (s8:au),I2 (cI X N scope s3.heap.objs.size s3 H3 fp) ([]++nU fp s6.heap) Bj H8 Bi G8 s8->Mv X.K H7 G7 H8 G8->(te E Bi G8 fun y G9=>kS g c te ok (ds.drop (i+1)) E Bi G9 (p4++[y]) fun xs G3=>wF G3 (.lst xs) Q) ->
     wpAny (model X.prog X.w) X.A (eval elt (cI X N scope s3.heap.objs.size s3 H3 fp).env) (fun y An=>wpAny (model X.prog X.w) X.A (call (.builtin "list.append") [.ref s2.heap.objs.size,y]) (fun _ BP=>∃ mm,mm < ds.length - i/\∃ i Dz Hc BA Gc o6 p4,I2 (cI X N scope s3.heap.objs.size s3 H3 fp) [] Dz Hc BA Gc BP/\Gc s2.heap.objs.size=none/\Hc s2.heap.objs.size=some (.lst o6)/\bp X.K Hc o6 p4/\p4.length<=i /\
      Mv X.K H2 G2 Hc Gc/\tn i BP.heap/\(∀ b∈fp,Hc b=none)/\mm=ds.length - i/\i<=ds.length/\kS g c te ok (ds.drop i) E BA Gc p4 fun xs G3=>wF G3 (.lst xs) Q) (fun _ _=>False) An) (fun _ _=>False) s8:=fun H8 G8 s8 I8 m8 q8=>by
    refine mB (he _ _ _ _) (Lk.none Kx) I8 q8 fun v H9 d9 G9 u9 s9 I9 m9 r9 L6 q9=>?_;have JM:=m8.trans m9;have Jc:=JM.keep _ _ Jd.1 Jd.2;have Mc:=K0.mono (JM.kp I7.ab);have K6:=K7.trans JM;refine fX (AM (X:=cI X N scope s3.heap.objs.size s3 H3 fp) _ s9 Bj H9 (.ref s2.heap.objs.size) [v] _ [u9] (fun _ H'=>H'=upd H9 s2.heap.objs.size (.lst (o6++[v]))) I9.inv rfl (.cons r9 .nil)
     ⟨_,o6,v,rfl,rfl,Jc.1,by rw [rA.length,sz]; have:SZ=16777216:=rfl; lia,rfl⟩) ?_
    rintro _ NN ⟨v10,N5,NG,_,Nq⟩;subst Nq;have JR:Kp H9 (upd H9 s2.heap.objs.size (.lst (o6++[v]))):=.putL Jc.1;have LC:mL X.K (upd H9 s2.heap.objs.size (.lst (o6++[v]))) G9:=fun a g' e=>by
     have ne:a≠s2.heap.objs.size:=by rintro rfl; rw [Jc.2] at e; cases e
     exact(I9.ab a g' e).mono JR (bc ne)
    have mA:Mv X.K H2 G2 (upd H9 s2.heap.objs.size (.lst (o6++[v]))) G9:=⟨fun a o e n=>by
      have ne:a≠s2.heap.objs.size:=cz e qz;obtain⟨e1,e2⟩:=K6.keep a o e n;exact⟨by rw [bc ne]; exact e1,e2⟩,fun a n=>by
      by_cases ha:a=s2.heap.objs.size
      ·rw [ha,cj]; simp
      ·rw [bc ha]; exact K6.mR a n,LC⟩
    exact back ⟨NG,I9.st.mono JR,LC⟩ mA Jc.2 cj ((Mc.append (.cons L6 .nil)).mono JR) (by rw [bZ,Du]; lia) q9
   cases hi s3.heap.objs.size s3 H3 fp with
   | none =>
    refine wpAny_tests_nil ?_;rw [if_pos rfl];exact Iw H7 G7 s7 I7 (.refl I7.ab) q7
   | some Ib =>
    refine wpAny_tests_one (Fn Ib (Lk.none Kx) I7 q7 fun k H8 G8 s8 I8 m8 q8=>?_);cases k with
    | true =>
     rw [if_pos rfl] at q8 ⊢;exact Iw H8 G8 s8 I8 m8 q8
    | false =>
     rw [if_neg nD] at q8 ⊢;have Lo:=m8.keep _ _ Jd.1 Jd.2;exact back I8 (K7.trans m8) Lo.2 Lo.1 (K0.mono (m8.kp I7.ab)) (by lia) q8
  ·have hn:ds.length<=i:=by lia
   rw [Bx hn] at wq;obtain⟨JH,qn⟩:=wq;have stop:=(wk i Hc Gc La Ic.ab JH).2 hn;refine fX (T.done (cI X N scope s3.heap.objs.size s3 H3 fp) rfl rfl rfl hc i [] s4 Dz Hc (fun _ _=>False) Ic.inv (BR Lp) KY stop) ?_;rintro r s5 ⟨hr,I5⟩;subst hr;refine fin s3.heap.objs.size s5 ?_;obtain⟨mm,J9,_⟩:=I5.loc;have Nd:Hc s3.heap.objs.size=none:=I5.free;have I6:Inv X pins σ Hc s5:=by
    obtain⟨h5,g5,d5,t5,o5⟩:=s5;have eo:o5=s3.os:=I5.os;subst eo;exact I3.call (h':=h5) (g':=g5) (d':=d5) (t':=t5) (ch:=fp) I5.base I5.dr I5.bare fun b hb=>by
     obtain⟨⟨f0,f1,NY,f3,f4,f5⟩,hl⟩:=HY b hb;exact⟨f3,f1,f4,f5⟩
   have Mm:Mv X.K H2 G2 Hc (mP Gc s2.heap.objs.size (.lst p4)):=⟨fun a o e n=>by
     have ne:a≠s2.heap.objs.size:=cz e qz;obtain⟨e1,e2⟩:=mc.keep a o e n;exact⟨e1,by rw [ib ne]; exact e2⟩,mc.mR,fun a g' e=>by
     by_cases ha:a=s2.heap.objs.size
     ·subst ha;rw [eC] at e;cases e;exact⟨o6,hD,rA⟩
     ·rw [ib ha] at e;exact Ic.ab a g' e⟩
   exact⟨mm,Hc,_,I6,J9,I3.Iq (ck _) Nd,m2.trans Mm,qn _ gD⟩
 have all:oN (model X.prog X.w) X.A (.compStart (.ListComp elt [⟨tg,iter,ifs,0⟩] scope pos) 0 (.ref it) (.ref s2.heap.objs.size) (cI X N scope s3.heap.objs.size s3 H3 fp).env) (Rr (.ref s2.heap.objs.size) s3.heap.objs.size)
   { s3 with heap:=pR,toks:=s3.toks+([]:List (Str×Value)).length }:=codeAny_compStart_list loop (T.self _ 0 _ _ _ Hk loop)
 subst Lf;exact all
end
end K2
end
section
namespace K2
open PySem PySem.Spec PyProof.Rows L2
section
variable {X:Cx} {N:List Str} {scope:Scope} {tg elt iter:Expr} {ifs:List Expr} {pos:Pos} {m:Nat} {fr:List Nat} {wi:GZ} {g:Bl} {c:Option wN} {te:dM}
structure vi(X:Cx)(N:List Str)(scope:Scope)(m:Nat)(fr:List Nat):Prop where
 cell:∀ y∈scope.names,y.2≠.cell
 kind:scope.kind=.function
 names:∀ y∈scope.names,y.2=.local->scope.names.lookup y.1=some .local
 free:∀ y∈scope.names,y.2=.free->X.env.kindOf y.1=some .cell
 len:N.length=m+fr.length
 at':∀ j i x,fr[j]?=some i->N[m+j]?=some x->X.N[i]?=some x/\X.env.scope.names.lookup x=some .cell/\(xa scope X.env).names.lookup x=some .cell
theorem vi.closed{X:Cx}{N:List Str}{scope:Scope}{m:Nat}{fr:List Nat}(k:vi X N scope m fr){pins:List (Addr×Obj)}{σ:L2.St}{H:Hp}{s:au}(I:Inv X pins σ H s):closureFor scope X.env=pure (c6 X.env scope.names []) :=
 sY fun y hy hf=>I.ok.has _ (.inl (k.free y hy hf))
theorem AG(hc:X.calm=true)(k:vi X N scope m fr)(hi:Jn X tg iter wi)(hg:∀ C s H fp,Ha (cI X N scope C s H fp) tg g)(Kf:∀ C s H fp,IH (cI X N scope C s H fp) ifs c)(he:∀ C s H fp,hX (cI X N scope C s H fp) elt te)
  (hs:autoParam (∀ x,xc iter X.env x=pure x) Ai._auto_1):hX X (.ListComp elt [⟨tg,iter,ifs,0⟩] scope pos) (tS m fr wi g c te):=by
 intro E pins s σ H τ G Q hE I h;rw [eval_ListComp];refine wpAny_comprehension_free (use:=none) rfl hs (k.closed I.inv) k.kind k.names (fX (hi E pins s σ H τ G _ hE I h) fun xv cS pR=>fX pR fun FW xT FY=>?_);obtain⟨it,fp,tn,J,H2,G2,ds,ok,e,mw,m2,T,GH,f2,wk,hz,q⟩:=FY;subst e;refine A1 (Rr:=fun acc C=>compPost (model X.prog X.w) X.A X.xe none (qE X pins σ H G Q) acc C) hc k.cell k.kind k.free k.len k.at' hg Kf he (I.mv mw m2) m2 T GH f2 wk hz (fun _ _ z=>z) q ?_;rintro C s' ⟨mm,H',G',I',yj,Nh,mv,q'⟩;refine⟨mm,yj,fun h' I0=>?_⟩;obtain⟨f0,f1,_,f3,f4,f5⟩:=Nh;exact⟨.ref _,H',.ref _,G',I'.turned (t':=s'.toks) (fun b o hb e=>I0.extBut b o hb e) f0 f1 f3 f4 f5,mv,rfl,.ref _,q'⟩
theorem dJ (i:Nat) {x:Str} {pos:Pos} (hN:autoParam (X.N[i]?=some x) Ar._auto_1) (hv:autoParam (IC X.env.scope x) Ao._auto_1) (hd:autoParam ((x == ("__debug__" : Str))=false) Ad._auto_1)
  (w7:autoParam ((x == ("__classdict__" : Str))=false) Ad._auto_1):hX X (.Name x pos) (a9 i):=D5 hN hv hd w7
theorem Fx{body:List Stmt}{t2:pb}(h:sZ X body t2){E:mr}(hE:Lk X E):DG X body (fun D σ H=>∃ (τ:i6) (G:Gp) (D2:oa),Dq X.K H σ τ/\mL X.K H G/\t2 E D2 τ G /\
  (∀ j0 H' qI G',Mv X.K H G H' G'->D2.nx qI G'->D.nx j0 H')/\(∀ v H' d G',Mv X.K H G H' G'->cf X.K H' v d->D2.rt d G'->D.rt v H')/\(∀ τ G,¬ D2.bk τ G)/\(∀ τ G,¬ D2.ct τ G)):=by
 rintro pins s σ H D I ⟨τ,G,D2,st,ab,q,k1,k2,k3,k4⟩;refine fX (h E pins s σ H τ G D2 hE ⟨I,st,ab⟩ q) fun f s1 z=>?_;cases f with
 | next=>obtain⟨j0,H',qI,G',J,mv,z⟩:=z; exact⟨j0,H',J.inv,k1 j0 H' qI G' mv z⟩
 | brk=>obtain⟨j0,H',qI,G',J,mv,z⟩:=z; exact(k3 _ _ z).elim
 | cont=>obtain⟨j0,H',qI,G',J,mv,z⟩:=z; exact(k4 _ _ z).elim
 | ret u=>obtain⟨v,j0,H',d,G',J,mv,r,rd,z⟩:=z; exact⟨v,j0,H',J,r,k2 v H' d G' mv rd z⟩
theorem vP{K:af}{H:Hp}{Nn:List Str}{vs:List V}{ds:List D}(r:bp K H vs ds):Dq K H (L2.start Nn vs) (ig Nn.length ds):=by
 unfold L2.start ig;refine⟨by simp [r.length],fun i d h=>?_⟩;by_cases hi:i < ds.length
 ·rw [dN (by simpa using hi),c4] at h;cases hd:ds[i]? with
  | none=>rw [hd] at h; cases h
  | some d' =>
   rw [hd] at h;have e:d'=d:=by simpa using h
   subst e;obtain⟨v,h1,h2⟩:=r.get hd;refine⟨v,?_,h2⟩;rw [dN (by simpa [r.length] using hi),c4,h1]; rfl
 ·rw [cH (by simpa using hi),k7] at h;split at h <;> cases h
theorem Ei{P:bo}{w:World}{K:af}{mg:Str->Option Value}{base:Heap}{x qual:Str}{st:Stmt}{f:Addr}{fd:bh}{Nn ps:List Str}{k:Nat}{sp:Bn}{rd:pb}(F:yv K x qual st f fd)(S:ff Nn ps (bw st))(len:∀ ds G Q E,sp ds G Q E->ds.length=ps.length)
  (hr:∀ ds G Q,sp ds G Q (fun _ _=>False)->rd (fun _ _=>False) (ends Q) (ig Nn.length ds) G)
  (hb:∀ (lO:Value) (A:cZ) (outer:List Env) (s:au) (H:Hp) (E:XK),jU k (A.deeper (tu qual (bw st) s.heap.objs.size f lO))->sZ (u7 qd P w K mg base Nn qual (bw st) f lO A outer s H E).FI (dw st) rd):l4 P w K mg base qd (k+1) f fd ps (nN K sp):=by
 refine F.ok S ((by rintro vs H Q E ⟨ds,G,Q2,r,ab,q,_⟩; exact by rw [r.length]; exact len _ _ _ _ q)) ?_;rintro lO A outer s H vs Q E Cy ⟨ds,G,Q2,r,ab,q,kk⟩;refine⟨_,Fx (hb lO A outer s H E Cy) (E:=fun _ _=>False) (Lk.none fun _ _ z=>z),?_⟩;exact⟨ig Nn.length ds,G,ends Q2,vP r,ab,hr ds G Q2 q,fun j0 H' qI G' mv z=>kk _ _ _ _ z mv .l7,fun v H' d G' mv LY z=>kk _ _ _ _ z mv LY,fun _ _ z=>z,fun _ _ z=>z⟩
noncomputable def Jz(scope sc:Scope):List (Str×oH):=scope.names.map fun (n,k)=>if (k == .free&&sc.kind == .function&&sc.names.lookup n == some .cell) then (n,.cell) else (n,k)
noncomputable def vb(N:List Str)(scope:Scope)(m:Nat)(fr:List Nat)(sc:Scope)(XN:List Str):Bool :=
 scope.names.all (fun y=>decide (y.2≠.cell))&&decide (scope.kind=.function)&&scope.names.all (fun y=>!decide (y.2=.local)||decide (scope.names.lookup y.1=some .local)) &&
 scope.names.all (fun y=>!decide (y.2=.free)||decide (sc.names.lookup y.1=some .cell))&&decide (N.length=m+fr.length) &&
 (jZ fr.length).all (fun j=>match fr[j]?,N[m+j]? with
  | some i,some x=>decide (XN[i]?=some x)&&decide (sc.names.lookup x=some .cell)&&decide ((Jz scope sc).lookup x=some .cell)
  | _,_=>false)
theorem A2{sc:Scope}{XN:List Str}(J1:X.env.scope=sc)(Kv:X.N=XN)(hb:vb N scope m fr sc XN=true):vi X N scope m fr:=by
 subst J1 Kv;unfold vb at hb;simp only [aP] at hb;obtain⟨⟨⟨⟨⟨h1,h2⟩,h3⟩,h4⟩,h5⟩,h6⟩:=hb;refine⟨fun y hy=>of_decide_eq_true (List.all_eq_true.mp h1 y hy),of_decide_eq_true h2,fun y hy hl=>?_,fun y hy hl=>?_,of_decide_eq_true h5,fun j i x e1 e2=>?_⟩
 ·have:=List.all_eq_true.mp h3 y hy;simp only [hl,decide_true,cy,Bool.false_or] at this;exact of_decide_eq_true this
 ·have:=List.all_eq_true.mp h4 y hy;simp only [hl,decide_true,cy,Bool.false_or] at this;exact of_decide_eq_true this
 ·have hj:j < fr.length:=(List.getElem?_eq_some_iff.mp e1).1;have:=List.all_eq_true.mp h6 j (List.mem_range.mpr hj);rw [e1,e2] at this;simp only [aP] at this;exact⟨of_decide_eq_true this.1.1,of_decide_eq_true this.1.2,of_decide_eq_true this.2⟩
theorem v5(N:List Str){sc:Scope}{XN:List Str}(hi:Jn X tg iter wi)(hg:∀ C s H fp,Ha (cI X N scope C s H fp) tg g)(Kf:∀ C s H fp,IH (cI X N scope C s H fp) ifs c)(he:∀ C s H fp,hX (cI X N scope C s H fp) elt te)
  (J1:autoParam (X.env.scope=sc) Ar._auto_1) (Kv:autoParam (X.N=XN) Ar._auto_1) (hb:autoParam (vb N scope m fr sc XN=true) Ak._auto_1) (hc:autoParam (X.calm=true) Ar._auto_1) (hs:autoParam (∀ x,xc iter X.env x=pure x) Ai._auto_1):hX X (.ListComp elt [⟨tg,iter,ifs,0⟩] scope pos) (tS m fr wi g c te) :=
 AG hc (A2 J1 Kv hb) hi hg Kf he hs
theorem AP{K:af}{H:Hp}{a:Addr}{ns:List Int}(hO:EH H)(hS:zj K H a (ns.map V.int))(hl:ns.length<=63):nN K tw [.ref a] H (fun v _=>v=.bl true) fun _ _ _=>False:=by
 have hF:G0 K H a (ns.map V.int):=by
  rcases hS with (h | ⟨o,h⟩) | h
  ·rcases hO a with z | ⟨o,xs,z⟩
   ·rw [z] at h; cases h
   ·rw [z] at h; cases h
  ·exact .inl ⟨o,h⟩
  ·exact .inr h
 refine⟨[.dB (ns.map D.int)],fun _=>none,fun d _=>d=.bl true,.cons (.dB hF (bp.yZ ns)) .nil,fun a g e=>(by cases e),⟨ns,rfl,hl,fun _=>rfl,fun _=>rfl⟩,fun d G' v H' e mv r=>?_⟩;subst e;cases r;rfl
theorem Cn{l:t8}{q:bo}{loose:List Str}{XP:(Str->Option Value)->Heap->Prop}{YP:World->Heap->Prop}{d:DefRec}{K:mx->af}{k:Nat}{x:Str}(hn:l.most=some 63)(Ia:d.params.defaults=[])(hr:jU k xf)
  (hY:∀ (w:World) (h:Heap),YP w h->(K w.params).In h)
  (F:∀ (w:World) (mg:Str->Option Value) (fa:Addr) (h:Heap),(K w.params).In h->h.Ns ao mg->mg d.name=some (.ref fa) ->
   ∃ fd:bh,(∀ (s:au) (u:Value),Bz s fd ⟨[u],[]⟩ [(x,u)])/\∀ base:Heap,(K w.params).In base->base.Ns ao mg->l4 l.prog w (K w.params) mg base qd k fa fd [x] (nN (K w.params) tw)) :
  PySem.W.WalkO q loose XP YP l.row.toRowW d [] (fun f vs=>yD f vs) :=
 L2.DT (n:=63) (k:=k) (x:=x) (CX:=fun _=>qd) (sp:=fun w=>nN (K w.params) tw) hn (by decide) Ia hr hY F (fun _ _ _ _ hl hO hS=>AP hO hS hl) fun _ _ _ _ _ z=>z
end
end K2
end
section
namespace K2
open PySem PySem.Spec PyProof.Rows L2
noncomputable def C8:HO->Bool
 | .lst _=>true
 | .dK _=>true
 | .dT _=>true
 | _=>false
noncomputable def ni(h:Heap)(S:Addr->Bool)(H:Hp):Hp:=fun a=>match H a with
 | some u=>if (C8 u&&S a)=true then (match h.get? a with
  | some o=>some (.la o u)
  | none=>some u) else some u
 | none=>none
section
variable {h:Heap} {S:Addr->Bool} {H:Hp} {a:Addr}
theorem yk(n:∀ u,H a=some u->C8 u=false):ni h S H a=H a:=by
 unfold ni;cases e:H a with
 | none=>rfl
 | some u=>simp only [n u e,qX,bj,if_false]
theorem sj(hs:S a=false):ni h S H a=H a:=by
 unfold ni;cases e:H a with
 | none=>rfl
 | some u=>simp only [hs,qY,bj,if_false]
theorem rl{u:HO}{o:Obj}(hs:S a=true)(e:H a=some u)(hu:C8 u=true)(ho:h.get? a=some o):ni h S H a=some (.la o u):=by
 unfold ni;simp only [e,hs,hu,Bool.and_self,if_true,ho]
theorem mH(e:H a=none):ni h S H a=none:=by unfold ni; rw [e]
theorem lM{u:HO}(e:H a=some u)(hu:C8 u=false):ni h S H a=some u:=by rw [yk (fun v z=>by rw [e] at z; cases z; exact hu)]; exact e
theorem rk:Kp H (ni h S H):=⟨fun a xs e=>lM e rfl,fun a o u e=>lM e rfl⟩
end
section
variable {X:Cx} {pins:List (Addr×Obj)} {σ:L2.St} {H:Hp} {s:au} {G:Gp}
theorem Inv.freeze(I : Inv X pins σ H s)(S : Addr -> Bool) : Inv X pins σ (ni s.heap S H) s where
  ok := I.ok
  os := I.os
  bare := I.bare
  base := { keep := I.base.keep, slot := I.base.slot, there := I.base.there
            free := fun b o q n hx => mH (I.base.free b o q n hx)
            sI := fun b xs q => lM (I.base.sI b xs q) rfl
            si := fun b o u q => lM (I.base.si b o u q) rfl
            sM := fun b ps q => lM (I.base.sM b ps q) rfl
            sQ := fun b x q => lM (I.base.sQ b x q) rfl }
  loc := I.loc
  cell := I.cell
  free := mH I.free
  nv := fun x c e => mH (I.nv x c e)
  pin := fun p hp => let ⟨h1, h2, h3⟩ := I.pin p hp; ⟨h1, mH h2, h3⟩
  dr := fun a o q => by
    have st : ∀ u, H a = some u -> dH X.prog X.w (ni s.heap S H) s.heap a u := fun u e =>
      (I.dr a u e).mR (fun b v _ r => r) (fun b r => lM r rfl) (fun b xs r => lM r rfl)
    cases e : H a with
    | none => rw [mH e] at q; cases q
    | some u =>
      by_cases hc : C8 u = true
      · by_cases hs : S a = true
        · obtain⟨ob, ho⟩ := mE (I.dr a _ e)
          rw [rl hs e hc ho] at q;cases q;exact⟨ho, st _ e⟩
        · rw [sj (by simpa using hs), e] at q
          cases q;exact st _ e
      · rw [lM e (by simpa using hc)] at q
        cases q;exact st _ e
  len := I.len
noncomputable def nO(R:Nat->Bool)(G:Gp):Addr->Bool:=fun a=>R a&&(G a).isSome
theorem AZ(I:Inv X pins σ H s)(ab:mL X.K H G)(R:Nat->Bool):Mv X.K H G (ni s.heap (nO R G) H) (wz R G) where
 keep:=fun a o e n=>by
  refine⟨by rw [sj (by simp [nO,n])]; exact e,?_⟩;unfold wz; split
  ·rfl
  ·exact n
 mR:=fun a n=>by
  cases q:G a with
  | none=>exact absurd q n
  | some g =>
   have t:=(ab a g q).tracked;cases e:H a with
   | none=>exact absurd e t
   | some u =>
    unfold ni;rw [e];dsimp only;split
    ·split <;> simp
    ·simp
 ab:=fun a g e=>by
  unfold wz at e;split at e
  ·cases e
  ·rename_i hr;exact(ab a g e).mono rk (sj (by simp [nO,hr]))
theorem Gk(I:Inv X pins σ H s)(ab:mL X.K H G){R:Nat->Bool}:∀ {d t:D} {v:V},Fz G R d t->cf X.K H v d->cf X.K (ni s.heap (nO R G) H) v t:=by
 intro d t v h;revert v;refine Fz.rec (motive_1:=fun d t _=>∀ {v:V},cf X.K H v d->cf X.K (ni s.heap (nO R G) H) v t)
  (motive_2:=fun ds ts _=>∀ {vs:List V},bp X.K H vs ds->bp X.K (ni s.heap (nO R G) H) vs ts)
  (motive_3:=fun ds ts _=>(∀ {vs:List (Key×V)},qF X.K H vs ds->qF X.K (ni s.heap (nO R G) H) vs ts)/\∀ {vs:List (List Key×V)},ro X.K H vs ds->ro X.K (ni s.heap (nO R G) H) vs ts)
  ?_ ?_ ?_ ?_ ?_ ?_ ?_ ?_ ?_ h
 ·intro d v r; exact r.mono rk
 ·intro ds ss _ ih v r;cases r with
  | tup h rs=>exact .tup (rk.tup _ _ h) (ih rs)
 ·intro ds ss _ ih v r;cases r with
  | dB h rs=>exact .dB (rk.IT h) (ih rs)
 ·intro a ds ss g hr _ ih v r;cases r;obtain⟨vs,hv,rs⟩:=ab a _ g;obtain⟨ob,ho⟩:=mE (I.dr a _ hv);exact .dB (.inl ⟨_,rl (by simp [nO,hr,g]) hv rfl ho⟩) (ih rs)
 ·intro a ds ss g hr _ ih v r;cases r;rcases ab a _ g with ⟨kv,hv,rs⟩ | ⟨kv,hv,rs⟩
  ·obtain⟨ob,ho⟩:=mE (I.dr a _ hv);exact .sP (rl (by simp [nO,hr,g]) hv rfl ho) (ih.1 rs)
  ·obtain⟨ob,ho⟩:=mE (I.dr a _ hv);exact .sO (rl (by simp [nO,hr,g]) hv rfl ho) (ih.2 rs)
 ·intro vs r; cases r; exact .nil
 ·intro d s ds ss _ _ i1 i2 vs r;cases r with
  | cons r rs=>exact .cons (i1 r) (i2 rs)
 ·exact⟨fun r=>by cases r; exact .nil,fun r=>by cases r; exact .nil⟩
 ·intro k d s ds ss _ _ i1 i2;exact⟨fun r=>by cases r with | cons r rs=>exact .cons (i1 r) (i2.1 rs),fun r=>by cases r with | cons r rs=>exact .cons (i1 r) (i2.2 rs)⟩
variable {e:Expr} {te:dM} {st:Stmt} {t:pb}
theorem mi(he:hX X e te):hX X e (u6 te):=by
 intro E pins s σ H τ G Q hE I h;refine fX (he E pins s σ H τ G _ hE I h) ?_;rintro u s1 ⟨v,H1,d,G1,I1,m,r,rd,R,t,hf,q⟩;exact⟨v,_,t,_,Inv.freeze I1 _,m.trans (AZ I1 m.ab R),r,Gk I1 m.ab hf rd,q⟩
end
end K2
end
section
namespace K2
open PySem PySem.Spec PyProof.Rows L2
theorem GA:i7 "len" = some (.builtin "len"):=by decide +kernel
theorem GB:i7 "int" = some (.type "int"):=by decide +kernel
theorem EC:i7 "bool" = some (.type "bool"):=by decide +kernel
section
variable {X:Cx} {a b c e o:Expr} {es:List Expr} {ta tb tc te to:dM} {t:vc} {pos p p2 apos mn:Pos} {x name:Str} {id T:String} {k:Nat} {f:Addr} {fd:bh} {ps:List Str} {sp:Bn}
theorem eD(F:l4 X.prog X.w X.K X.mg X.base qd k f fd ps (nN X.K sp))(hr:jU k X.A)(hg:Gl X x)(hm:X.mg x=some (.ref f))(hk:fk X.K (.ref f)=true)(hb:Binds X.K fd ps [])
  (ha:zk X (e :: es) t) (uV:autoParam ((x == ("__debug__" : Str))=false) Ad._auto_1) (he:autoParam (aX (e :: es) X.env=(false,eval e X.env) :: aX es X.env) Ar._auto_1) (sE:autoParam ((i4 pos (aX es X.env)).any (·.1)=false) Ar._auto_1) :
  hX X (.Call (.Name x p) (e :: es) [] pos) (hW sp t):=Cb F hr hg hm hk hb ha uV he sE
end
end K2
end
section
namespace L2
open PySem PySem.Spec PyProof.Rows
structure LF(z TI TO i1 i2 a b:Addr)(i:Nat)(h:Heap):Prop where
 hz:IsZip h z TI TO .none
 hI:IsPair h TI (.ref i1) (.ref i2)
 hO:∃ x y,IsPair h TO x y
 h1:h.IsListIter i1 a i
 h2:h.IsListIter i2 b i
end L2
end
section
namespace K2
open PySem PySem.W PyProof.Rows
structure N1(lt:Nat->Nat->Bool):Prop where
 asymm:∀ i j,lt i j=true->lt j i=false
 trans:∀ i j k,lt j i=false->lt k j=false->lt k i=false
end K2
end
section
namespace K2
open PySem PySem.Spec PyProof.Rows L2 PySem.W
mutual
theorem vT{h h':Heap}(hk:∀ b o vs n,o.data=.seq vs n->h.get? b=some o->h'.get? b=some o):∀ (d:D) {v:Value} {as:List Addr},nr d=true->Reads h v (pd d) as->Reads h' v (pd d) as
 | .l7,_,_,_,r=>by cases r; exact .none
 | .bl b,_,_,_,r=>by cases r; exact .bool b
 | .int i,_,_,_,r=>by cases r; exact .int i _
 | .str x,_,_,_,r=>by cases r; exact .str x _
 | .tup ds,_,_,n,r=>by
  cases r with
  | tuple h1 h2 h3 h4=>exact .tuple (hk _ _ _ _ h3 h1) h2 h3 (lW hk ds n h4)
 | .dB ds,_,_,n,r=>by
  cases r with
  | list h1 h2 h3 h4=>exact .list (hk _ _ _ _ h3 h1) h2 h3 (lW hk ds n h4)
 | .w6 _,_,_,n,_=>by cases n
 | .ref _,_,_,n,_=>by cases n
 | .exc _,_,_,n,_=>by cases n
theorem lW{h h':Heap}(hk:∀ b o vs n,o.data=.seq vs n->h.get? b=some o->h'.get? b=some o):∀ (ds:List D) {vs:List Value} {as:List Addr},AK ds=true->qg h vs (vn ds) as->qg h' vs (vn ds) as
 | [],_,_,_,r=>by cases r; exact .nil
 | d :: ds,_,_,n,r=>by
  have n:(nr d&&AK ds)=true:=n;rw [aP] at n;cases r with
  | cons r1 r2=>exact .cons (vT hk d n.1 r1) (lW hk ds n.2 r2)
end
mutual
theorem BS(G:Gp):∀ (sh:qc) (d:D) (n:Nat),dq sh d=true->GV sh<=n->Sn G n d d
 | .int,.int i,n,_,_=>.int i
 | .tup l,.tup ds,n,h,hn=>by
  have hn:CV l+1<=n:=hn;obtain⟨m,rfl⟩:∃ m,n=m+1:=⟨n - 1,by lia⟩;exact yM G l ds m h (by lia)
 | .lst s,.dB ds,n,h,hn=>by
  have hn:GV s+1<=n:=hn;obtain⟨m,rfl⟩:∃ m,n=m+1:=⟨n - 1,by lia⟩;exact yN G s ds m h (by lia)
theorem yM(G:Gp):∀ (l:List qc) (ds:List D) (m:Nat),fY l ds=true->CV l<=m->Sn G (m+1) (.tup ds) (.tup ds)
 | [],[],m,_,_=>.xR
 | s :: l,d :: ds,m,h,hm=>by
  have h:(dq s d&&fY l ds)=true:=h;have hm:max (GV s) (CV l)<=m:=hm;rw [aP] at h;exact .nM (BS G s d m h.1 (by lia)) (yM G l ds m h.2 (by lia))
theorem yN(G:Gp):∀ (s:qc) (ds:List D) (m:Nat),fe s ds=true->GV s<=m->Sn G (m+1) (.dB ds) (.dB ds)
 | s,[],m,_,_=>.BW
 | s,d :: ds,m,h,hm=>by
  have h:(dq s d&&fe s ds)=true:=h;rw [aP] at h;exact .vU (BS G s d m h.1 hm) (yN G s ds m h.2 hm)
end
end K2
end
section
namespace K2
open PySem PySem.Spec PyProof.Rows L2
section
variable {X:Cx}
theorem uL:vd X (nC .Pow) B0:=by
 intro pins s σ H G x y dx dy v u Q I ab rx ry dX dY q;cases dX with
 | int i =>
  cases dY with
  | int j=>exact fX (FD pins s σ H _ _ v u (Di X.K H G Q) I rx ry ⟨i,j,rfl,rfl,q.1,_,_,.refl ab,.int _,q.2⟩) fun _ _ z=>.of z
  | _=>exact bJ q
 | _=>exact bJ q
end
end K2
end
section
namespace K2
open PySem PySem.Spec PyProof.Rows L2 PySem.W
section
variable {X:Cx}
theorem Au{i:Int}(h:i.natAbs < 10 ^ 100):i.natAbs.log2 < 1920:=by
 by_cases z:i.natAbs=0
 ·rw [z]; decide
 ·rw [Nat.log2_lt z];exact aY h (by decide)
noncomputable def G5(X:Cx)(es:List Expr)(t:E9):Prop :=
 ∀ (E:mr) (pins:List (Addr×Obj)) (s:au) (σ:L2.St) (H:Hp) (τ:i6) (G:Gp) (Q:DK) (acc:Str),Lk X E->I2 X pins σ H τ G s->acc.length+1000 * es.length<=100000->t E τ G (fun ys G1=>Q (.str (ys.foldl (·++·) acc)) G1) ->
  wpAny (model X.prog X.w) X.A (joinParts acc (evalEach es X.env)) (qE X pins σ H G Q) X.xe s
theorem yT:G5 X [] CM:=by
 intro E pins s σ H τ G Q acc hE I hz h;have sz:aZ=16777216:=bR;exact wpAny_mkStr ⟨.str _,H,.str _,G,I.inv.tok _,.refl I.ab,⟨_,rfl⟩,.str _,h⟩ (by simp only [cb] at hz; lia)
variable {es:List Expr} {t:E9} {e v1 v2:Expr} {te:dM} {pos:Pos} {c:Str} {k:Nat}
theorem yK{x:Str}{acc:Str}{n:Nat}(hz:acc.length+1000 * (n+1)<=100000)(hx:x.length<=1000):(acc++x).length<=aZ/\(acc++x).length+1000 * n<=100000:=by
 have sz:aZ=16777216:=bR;rw [Cm]; lia
theorem oj(DD:c.length<=1000)(hr:G5 X es t):G5 X (.Constant (.str c) k pos :: es) (oZ c t):=by
 intro E pins s σ H τ G Q acc hE I hz h;rw [bE] at hz;obtain⟨_,h⟩:=h;obtain⟨z1,z2⟩:=yK hz DD;refine joinParts_cons (mB (R:=fun x G1=>x=.str c/\t E τ G1 fun ys G1=>Q (.str ((c :: ys).foldl (·++·) acc)) G1) (lH (y:=c) (j:=k) (pos:=pos)) hE I ⟨rfl,h⟩ fun v H1 d G1 u s1 I1 m r rd q=>?_);obtain⟨rfl,q⟩:=q;cases rd;obtain⟨t',rfl⟩:=r;exact⟨z1,fX (hr E pins s1 σ H1 τ G1 Q (acc++c) hE I1 z2 q) fun _ _ z=>qE.trans m z⟩
theorem rj(he:hX X e te)(hr:G5 X es t):G5 X (.FormattedValue e (-1) none pos :: es) (yn te t):=by
 intro E pins s σ H τ G Q acc hE I hz h;rw [bE] at hz;refine joinParts_cons (FormattedValue_plain (mB he hE I h fun v H1 d G1 u s1 I1 m r rd q=>?_));obtain⟨y,hy,q⟩:=q;obtain⟨z1,z2⟩:=yK hz (CK hy);cases rd with
 | int i =>
  unfold CL at hy;dsimp only at hy;split at hy
  ·rename_i hb;cases hy;obtain⟨t',rfl⟩:=r;refine wpAny_formatField_int (Au hb) ?_;have mw:I2 X pins σ H1 τ G1 { s1 with toks:=s1.toks+1+1 }:=⟨I1.inv.tok _,I1.st,I1.ab⟩;exact⟨z1,fX (hr E pins _ σ H1 τ G1 Q (acc++FV i) hE mw z2 q) fun _ _ z=>qE.trans m z⟩
  ·cases hy
 | str x =>
  unfold CL at hy;dsimp only at hy;split at hy
  ·rename_i hb;cases hy;obtain⟨t',rfl⟩:=r;have sz:aZ=16777216:=bR;refine formatField_str (fun t2 tk=>?_) (by lia);have mw:I2 X pins σ H1 τ G1 { s1 with toks:=tk }:=⟨I1.inv.tok _,I1.st,I1.ab⟩;exact⟨z1,fX (hr E pins _ σ H1 τ G1 Q (acc++_) hE mw z2 q) fun _ _ z=>qE.trans m z⟩
  ·cases hy
 | _=>cases hy
theorem vZ(h:G5 X (v1 :: v2 :: es) t)(hn:autoParam (1000 * (v1 :: v2 :: es).length<=100000) Ad._auto_1):hX X (.JoinedStr (v1 :: v2 :: es) pos) (wG t):=by
 intro E pins s σ H τ G Q hE I q;refine JoinedStr_many ?_;exact h E pins s σ H τ G Q xi hE I (by show (xi).length+_<=_; have:(xi).length=0:=rfl; lia) q
variable {a:Expr} {ta:dM} {p p2 Md:Pos}
end
end K2
end
section
namespace K2
open PySem PySem.Spec PyProof.Rows L2
section
variable {K:af} {h:Heap} {C:Addr} {l5:List Value} {newId:String}
theorem Gr{P:Prop}{m:List Value}{sl:List (Option Value)}{f:Addr->List Value->Option Value->Option Value->Option Value->Option Value->String->Option Value->Bool}
  (q:PySem.W.excIn.match_1 (fun _ _=>Bool) m sl f (fun _ _=>false)=true)
  (k:∀ C' bm k0 k1 k2 k3 n k5,m=.ref C' :: bm->sl=[k0,k1,k2,k3,some (.builtin n),k5]->f C' bm k0 k1 k2 k3 n k5=true->P):P:=by
 have no:false=true->P:=fun z=>a6 z;cases m with
 | nil=>exact no q
 | cons v bm =>
  cases v with
  | ref C' =>
   obtain _ | ⟨k0,_ | ⟨k1,_ | ⟨k2,_ | ⟨k3,_ | ⟨_ | w,sl⟩⟩⟩⟩⟩:=sl
   iterate 6 exact no q
   cases w with
   | builtin n =>
    obtain _ | ⟨k5,_ | _⟩:=sl
    ·exact no q
    ·exact k C' bm k0 k1 k2 k3 n k5 rfl rfl q
    ·exact no q
   | _=>exact no q
  | _=>exact no q
inductive Dm (h:Heap) (C:Addr) (l5:List Value) (newId:String):Prop
 | mk (bm N nm qn bs q0 sn sub ab col dd k0 k1 k2 k3 k5 mN) (o:h.get? C=some (nH nm qn C N bs bm q0 sn sub ab col dd k0 k1 k2 k3 k5 newId)) (n:h.Ns N mN) (i:mN "__init__" = none) (t:Bu h l5 bm):Dm h C l5 newId
theorem El(Y:K.In h)(q:nJ K C l5 newId=true):Dm h C l5 newId:=by
 unfold nJ at q;split at q
 rotate_left
 ·cases q
 rename_i dd cd sl ho;refine Gr q fun C' bm k0 k1 k2 k3 n k5 hm hs q=>?_;obtain⟨nm,bs,mro,ns,qn,hd,sn,sub,ab,col,del⟩:=cd;obtain⟨sl⟩:=sl;subst hm hs;have q:(C' == C&&n == newId&&!del&&PySem.W.tailIn K l5 bm&&PySem.W.nsOkIn K ns&&ay K ns "__init__" == some none)=true:=q;simp only [aP,beq_iff_eq,Bool.not_eq_true'] at q;obtain⟨⟨⟨⟨⟨e1,e2⟩,e3⟩,e4⟩,e5⟩,e6⟩:=q;subst e1 e2 e3;exact⟨bm,_,_,_,_,_,_,_,_,_,dd,k0,k1,k2,k3,k5,_,Y _ _ ho,.of_isNs (qT Y e5),PySem.W.nsMap_none_of_in Y e5 e6,Dr Y e4⟩
end
end K2
end
section
namespace K2
open PySem PySem.Spec PyProof.Rows L2
noncomputable def Mq:HO->Bool
 | .tup _=>true
 | .la _ (.lst _)=>true
 | .la _ (.dK _)=>true
 | .la _ (.dT _)=>true
 | .la _ (.ext _)=>true
 | .la _ (.xd _)=>true
 | _=>false
noncomputable def hr(H:Hp):Hp:=fun b=>(H b).bind fun o=>if Mq o=true then some o else none
end K2
end
section
namespace K2
open PySem PySem.Spec PyProof.Rows L2
noncomputable def subIn(K:af)(C:Addr)(v:Value):Bool:=match K.lookup C with
 | some ⟨_,_,.cls cd,_⟩=>cd.mro.contains v
 | _=>false
section
variable {X:Cx} {x cn n:Str} {D f:Addr} {fd:bh} {ps:List Str} {k i:Nat} {sp:Bn} {KG:List Value} {newD:String} {cat:List Str} {e:Expr} {es:List Expr} {p np pos ep MK tp:Pos} {NM:Stmt} {KU:List Stmt} {t:vc} {th:pb}
structure LK(X:Cx):Prop where
 st:X.stack=X.env :: X.outer
 fr:X.env.frame=some X.env.locals
 ex:X.ex=[]
structure Clause(X:Cx)(i:Nat)(n cn:Str)(D:Addr)(cat:List Str):Prop where
 nd:X.N.Nodup
 LB:X.N[i]?=some n
 loc:X.env.scope.names.lookup n=some .local
 gl:Gl X cn
 mg:X.mg cn=some (.ref D)
 cls:∃ KG newD,nJ X.K D KG newD=true/\KG.contains (.type "BaseException")=true
 cat:∀ c,cat.contains c=true->∃ C l5 newId,ay X.K ao c=some (some (.ref C))/\nJ X.K C l5 newId=true/\subIn X.K C (.ref D)=true
end
end K2
end
section
namespace K2
open PySem PySem.Spec PyProof.Rows L2 PySem.W PySem.Calls PySem.Builtin PySem.Builtin.Getset_descriptor
section
variable {prog:bo} {w:World} {A:cZ} {E:Value->au->Prop} {s:au} {K:af} {a C:Addr} {ox:Obj}
theorem Em {Q:Option Value->au->Prop} {B:String} {l5:List Value} (FB:qi B l5) (X:K.In s.heap) (hx:s.heap.get? a=some ox) (hc:ox.cls=.ref C) (E4:tm K (.ref C) "__getattribute__" = some (some (.builtin "BaseException.__getattribute__"))) (Ki:tm K (.ref C) "__getattr__" = some none)
  (hA:tm K (.ref C) "__class__" = some (some (.builtin "object.__class__"))) (hG:specialIn K (.builtin "object.__class__") "__get__" = some (some (.builtin "getset_descriptor.__get__"))) (hT:takesIn K (.builtin "object.__class__")=some true) (hm:mroIn K C (.type "object")=some true) (Kb:mroIn K C (.type "BaseException")=some true)
  (h:Q (some (.ref C)) { s with toks:=s.toks+1 }):wpAny (model prog w) A (getAttr? (.ref a) "__class__") Q E s:=by
 obtain⟨hh,g,d,t,os⟩:=s;have L0:Looks (model prog w) hh (typeOf (.ref a)) (.ref C):=hc ▸ (Looks.ld hx).andThen .now;have L1:=looks_findIn (M:=model prog w) X E4;have L2:=looks_findIn (M:=model prog w) X Ki;have L5:=looks_mroIn (M:=model prog w) X hm;have L3:Looks (model prog w) hh (Builtin.ObjectAttr.find (.ref a) (.ref C) "__class__") (.bind (.builtin "getset_descriptor.__get__") (.builtin "object.__class__")):=by
  refine(looks_findIn X hA).andThen ((looks_specialIn X hG:Looks (model prog w) hh (Builtin.ObjectAttr.getOf (some (.builtin "object.__class__"))) _).andThen ?_);refine((looks_takesIn X hT).andThen .now:Looks (model prog w) hh (Builtin.ObjectAttr.dataDescriptor? (some (.builtin "object.__class__")) (some (.builtin "getset_descriptor.__get__"))) (some (.builtin "getset_descriptor.__get__",.builtin "object.__class__"))).andThen ?_;exact Looks.tag .now
 have L4:=looks_mroIn (M:=model prog w) X Kb;have HN:(oE "BaseException.__getattribute__" == oE "object.__getattribute__")=false:=by decide +kernel
 unfold getAttr? getAttrBy? getAttrBy;refine aL (wpAny_mkText (aL (wpAny_attempt (lR (aL (L0.at (aL (L1.at ?_))))))));dsimp only;rw [if_neg (by rw [HN]; simp)];unfold getAttrByItsOwn hookBefore callGetattribute;have f3:=FB.ga.bind (.ref a);have fin:oN (model prog w) A (.call (.builtin "BaseException.__getattribute__") ⟨[.ref a,.str "__class__" t],[]⟩) (fun r s'=>r=.ok (.ret (.ref C))/\s'=⟨hh,g,d,t+1,os⟩) ⟨hh,g,d,t+1,os⟩:=by
  refine fj FB.ga.plain F.entry_bexc_ga ?_;have hk:builtinKind "BaseException.__getattribute__" = some .slot:=by decide +kernel
  have yi:splitId "BaseException.__getattribute__" = some ("BaseException","__getattribute__"):=by decide +kernel
  have ha:=F.args_bexc_ga (.ref a) (.str "__class__" t);have LI:Looks (model prog w) hh (sC (.ref a) (.type "BaseException")) true:=L0.andThen L4;simp only [checkBuiltinCall,hk,yi];refine aL (LI.at ?_);simp only [cy,bj,if_false];have body:wpAny (model prog w) A.in1 (Builtin.«object.__getattribute__» ⟨[.ref a,.str "__class__" t],[]⟩)
    (fun fin s'=>fin=.done (.ret (.ref C))/\s'=⟨hh,g,d,t+1,os⟩) (fun _ _=>False) ⟨hh,g,d,t+1,os⟩:=by
   unfold Builtin.«object.__getattribute__»;refine aL (bg ?_);refine aL (bg ?_);refine aL (L0.at (aL (L3.at ?_)));show wpAny _ _ (Builtin.ObjectAttr.bindTo (.builtin "getset_descriptor.__get__") (.builtin "object.__class__") (.ref a) (.ref C)) _ _ _;show wpAny _ _ (do let v ← holding [.builtin "object.__class__"] (call (.builtin "getset_descriptor.__get__") [.builtin "object.__class__",.ref a,.ref C]); ret v) _ _ _;refine aL (lR (mf ?_));refine fj KF.slot_gs.plain KF.entry_gs (KF.slot_gs.check _ _ _ _ _ _ _ _ KF.type_class (KF.args_gs _ _ _) ?_);unfold Builtin.«getset_descriptor.__get__» descrGet;rw [dga_obj];refine aL (bg ?_);unfold descrGetter descrCheckInstance descrNameAndClass sC;simp only [KF.owner_class]
   repeat lk
   refine⟨k9 _ (by decide +kernel),codeAny_builtin KF.entry_class ?_⟩;unfold Builtin.«object.__class__» shownTypeOf
   repeat lk
   exact⟨rfl,rfl⟩
  have go:∀ z:Sem Unit,z=pure ()->∀ (P:Unit->au->Prop) (E':Value->au->Prop) s',P () s'->wpAny (model prog w) A.in1 z P E' s':=fun z e P E' s' hp=>by rw [e]; exact bg hp
  refine go _ ha _ _ _ (ph body ?_ (fun _ _ z=>z.elim));rintro fin s' ⟨e1,e2⟩;subst e1; exact⟨rfl,e2⟩
 refine aL (L2.at (aL (wpAny_attempt (lR ?_))));simp only [qX,bj,if_false];unfold boundAndCalled;rw [f3];refine aL (bg (mf (oG fin ?_)));rintro r s' ⟨e1,e2⟩;subst e1; subst e2;exact bg (bg h)
structure bX(K:af)(C:Addr):Prop where
 ga:tm K (.ref C) "__getattribute__" = some (some (.builtin "BaseException.__getattribute__"))
 gn:tm K (.ref C) "__getattr__" = some none
 LB:tm K (.ref C) "__class__" = some (some (.builtin "object.__class__"))
 sp:specialIn K (.builtin "object.__class__") "__get__" = some (some (.builtin "getset_descriptor.__get__"))
 tk:takesIn K (.builtin "object.__class__")=some true
 mo:mroIn K C (.type "object")=some true
 mb:mroIn K C (.type "BaseException")=some true
 is:(clsIn K C).isSome=true
theorem pQ{B:String}{l5:List Value}(FB:qi B l5)(Z:bX K C):KitX K (.ref a) (.ref C) (fun h=>∃ o,h.get? a=some o/\o.cls=.ref C) where
 ty:=by rintro M h _ ⟨o,hx,hc⟩; exact hc ▸ (Looks.ld hx).andThen .now
 it:=fun M h X _=>by
  have CF:=Z.is;unfold clsIn at CF;split at CF
  ·rename_i ho;intro A' Q' E' s' k q;unfold isType loadHead;exact aL (DI (k _ _ (X _ _ ho)) (bg q))
  ·cases CF
 ne:=fun h tp dd cY n sl X MD=>by
  have CF:=Z.is;refine Bool.eq_false_iff.mpr fun q=>?_;have e:C=tp:=Value.ref.inj (beq_iff_eq.mp q);subst e;unfold clsIn at CF;split at CF
  ·rename_i ho;have z:=(X _ _ ho).symm.trans MD;cases z
  ·cases CF
 ca:=fun X ⟨o,hx,hc⟩ k=>Em FB X hx hc Z.ga Z.gn Z.LB Z.sp Z.tk Z.mo Z.mb k
end
end K2
end
section
namespace K2
open PySem PySem.Spec PyProof.Rows L2
theorem cx{P:Str->Prop}:∀ c,([]:List Str).contains c=true->P c:=fun c h=>by simp at h
theorem ae{l:List Str}{P:Str->Prop}{x:Str}(h:P x)(t:∀ c,l.contains c=true->P c):∀ c,(x :: l).contains c=true->P c:=fun c hc=>by
 rw [List.contains_cons,w4] at hc;rcases hc with hc | hc
 ·rw [beq_iff_eq.mp hc]; exact h
 ·exact t c hc
section
variable {X:Cx} {a:Expr} {ta:dM} {p pos:Pos} {B:String} {l5:List Value} {all sub:List Str}
theorem cJ {y:Str} {py:Pos} {C:Addr} (FB:qi B l5) (hg:Gl X "isinstance") (hm:X.mg "isinstance" = none) (HX:Gl X y) (HS:X.mg y=some (.ref C)) (Ka:aa X.K (.type "NoneType") (.ref C)=some false)
  (CD:∀ c,all.contains c=true->∃ C',ay X.K ao c=some (some (.ref C'))/\aa X.K (.ref C') (.ref C)=some (sub.contains c)/\bX X.K C') (ha:hX X a ta) (uV:autoParam ((y == ("__debug__" : Str))=false) Ad._auto_1)
  (he:autoParam (aX [a,.Name y py] X.env=(false,eval a X.env) :: aX [.Name y py] X.env) Ar._auto_1) (sE:autoParam ((i4 pos (aX [Expr.Name y py] X.env)).any (·.1)=false) Ar._auto_1) (H4:autoParam (aX [.Name y py] X.env=[(false,eval (.Name y py) X.env)]) Ar._auto_1) :
  hX X (.Call (.Name "isinstance" p) [a,.Name y py] [] pos) (i5 all sub ta):=by
 intro E pins s σ H τ G Q hE I h;refine eA (oT I.inv hg hm lB ?_);refine cG ?_ he sE;rw [he];show wpAny _ _ (qe ((false,eval a X.env) :: i4 pos (aX [.Name y py] X.env))) _ _ s;refine cD (mB ha hE I h fun v H1 d G1 u s1 I1 m1 r1 nR q1=>?_);rw [H4];show wpAny _ _ (qe [(false,eval (.Name y py) X.env)]) _ _ s1;refine cD (pO I1.inv HX HS (lE ?_) uV);have fin:∀ b tk,Q (.bl b) G1->qE X pins σ H G Q (.bool b) { s1 with toks:=tk }:=fun b tk q =>
  ⟨.bl b,H1,.bl b,G1,I1.inv.tok _,m1,rfl,.bl b,q⟩
 cases nR with
 | l7 =>
  cases r1;exact cu DN I1.inv.o9 dA Ka (fun z=>nomatch z) fun tk=>fin false tk q1
 | exc h0 =>
  cases r1;obtain⟨o,C',e1,e2,e3⟩:=h0;obtain⟨uW,q2⟩:=q1;obtain⟨C2,e4,k1,k2⟩:=CD _ uW;rw [e3] at e4;cases e4;exact cu (pQ FB k2) I1.inv.o9 ⟨o,(I1.inv.dr _ _ e1).1,e2⟩ k1 (fun z=>nomatch z) fun tk=>fin _ tk q2
 | pW h0 _ =>
  cases r1;obtain⟨o,C',_,_,_,e1,e2,e3,_⟩:=h0;obtain⟨uW,q2⟩:=q1;obtain⟨C2,e4,k1,k2⟩:=CD _ uW;rw [e3] at e4;cases e4;exact cu (pQ FB k2) I1.inv.o9 ⟨o,(I1.inv.dr _ _ e1).1,e2⟩ k1 (fun z=>nomatch z) fun tk=>fin _ tk q2
 | _=>exact q1.elim
end
end K2
end
section
namespace K2
open PySem PySem.Spec PyProof.Rows L2
section
variable {X:Cx} {a:Expr} {ta:dM} {p pos:Pos} {B:String} {l5:List Value} {all:List Str}
theorem q5:i7 "ValueError" = some (.type "ValueError"):=by first | rfl | decide +kernel
theorem vY {py:Pos} (FB:qi B l5) (hg:Gl X "isinstance") (hm:X.mg "isinstance" = none) (HX:Gl X "ValueError") (HS:X.mg "ValueError" = none)
  (CD:∀ c,all.contains c=true->∃ C',ay X.K ao c=some (some (.ref C'))/\aa X.K (.ref C') (.type "ValueError")=some true/\bX X.K C') (ha:hX X a ta)
  (he:autoParam (aX [a,.Name "ValueError" py] X.env=(false,eval a X.env) :: aX [.Name "ValueError" py] X.env) Ar._auto_1) (sE:autoParam ((i4 pos (aX [Expr.Name "ValueError" py] X.env)).any (·.1)=false) Ar._auto_1) (H4:autoParam (aX [.Name "ValueError" py] X.env=[(false,eval (.Name "ValueError" py) X.env)]) Ar._auto_1) :
  hX X (.Call (.Name "isinstance" p) [a,.Name "ValueError" py] [] pos) (zf all ta):=by
 intro E pins s σ H τ G Q hE I h;refine eA (oT I.inv hg hm lB (cG ?_ he sE));rw [he];show wpAny _ _ (qe ((false,eval a X.env) :: i4 pos (aX [.Name "ValueError" py] X.env))) _ _ s;refine cD (mB ha hE I h fun v H1 d G1 u s1 I1 m1 r1 nR q1=>?_);rw [H4];show wpAny _ _ (qe [(false,eval (.Name "ValueError" py) X.env)]) _ _ s1;refine cD (oT I1.inv HX HS q5 (lE ?_));have fin:∀ b tk,Q (.bl b) G1->qE X pins σ H G Q (.bool b) { s1 with toks:=tk }:=fun b tk q =>
  ⟨.bl b,H1,.bl b,G1,I1.inv.tok _,m1,rfl,.bl b,q⟩
 cases nR with
 | exc h0 =>
  cases r1;obtain⟨o,C',e1,e2,e3⟩:=h0;obtain⟨uW,q2⟩:=q1;obtain⟨C2,e4,k1,k2⟩:=CD _ uW;rw [e3] at e4;cases e4;exact cu (pQ FB k2) I1.inv.o9 ⟨o,(I1.inv.dr _ _ e1).1,e2⟩ k1 (fun z=>nomatch z) fun tk=>fin _ tk q2
 | pW h0 _ =>
  cases r1;obtain⟨o,C',_,_,_,e1,e2,e3,_⟩:=h0;obtain⟨uW,q2⟩:=q1;obtain⟨C2,e4,k1,k2⟩:=CD _ uW;rw [e3] at e4;cases e4;exact cu (pQ FB k2) I1.inv.o9 ⟨o,(I1.inv.dr _ _ e1).1,e2⟩ k1 (fun z=>nomatch z) fun tk=>fin _ tk q2
 | _=>exact q1.elim
end
end K2
end
section
namespace K2
open PySem PySem.Spec PyProof.Rows L2
section
variable {X:Cx} {e:Expr} {te:dM} {pos:Pos}
theorem D1{i:Nat}{x:Str}{pos':Pos}(hN:X.N.Nodup)(hi:X.N[i]?=some x)(he:hX X e te)(hx:autoParam (Loc X.env.scope x) Ao._auto_1)(hs:autoParam (vp e (some (.Name x pos')) pos.line X.env=pure false) Ar._auto_1)(hf:autoParam (X.fn x=true\/X.env.scope.names.lookup x=some .local) Ao._auto_1) :
  Fc X (.Assign [.Name x pos'] e pos) (mJ te (du i)):=D3 hN hi hx he hs hf
theorem JE{i:Nat}{x:Str}(hN:X.N.Nodup)(hi:X.N[i]?=some x)(hx:autoParam (Loc X.env.scope x) Ao._auto_1)(hf:autoParam (X.fn x=true\/X.env.scope.names.lookup x=some .local) Ao._auto_1):Ha X (.Name x pos) (du i):=B9 hN hi hx hf
theorem Ir{P:bo}{w:World}{K:af}{mg:Str->Option Value}{base:Heap}{x qual:Str}{st:Stmt}{f:Addr}{fd:bh}{Nn ps:List Str}{k:Nat}{sp:Bn}{rd:pb}(F:yv K x qual st f fd)(S:ff Nn ps (bw st))
  (hr:∀ ds G Q,sp ds G Q (fun _ _=>False)->rd (fun _ _=>False) (ends Q) (ig Nn.length ds) G)
  (hb:∀ (lO:Value) (A:cZ) (outer:List Env) (s:au) (H:Hp) (E:XK),jU k (A.deeper (tu qual (bw st) s.heap.objs.size f lO))->sZ (u7 qd P w K mg base Nn qual (bw st) f lO A outer s H E).FI (dw st) rd)
  (len:autoParam (∀ ds G Q E,sp ds G Q E->ds.length=ps.length) Al._auto_1):l4 P w K mg base qd (k+1) f fd ps (nN K sp):=Ei F S len hr hb
theorem Ft{N ps:List Str}{sc:Scope}(h1:autoParam (sc.kind=.function) Ar._auto_1)(h2:autoParam (sc.isCoroutine=false) Ar._auto_1)(h3:autoParam (sc.isGenerator=false) Ar._auto_1)(h4:autoParam N.Nodup Ak._auto_1)(h5:autoParam (N.take ps.length=ps) Ar._auto_1)
  (h6:autoParam (∀ x∈ps,sc.names.lookup x=some .local\/sc.names.lookup x=some .cell) Ak._auto_1) (h7:autoParam (∀ y∈sc.names,y.2≠.free) Ak._auto_1):ff N ps sc:=⟨h1,h2,h3,h4,h5,h6,h7⟩
end
end K2
end
section
namespace K2
open PySem PySem.Spec PyProof.Rows L2
theorem FP{α:Type}{us:List α}(h:us.length=1):∃ a,us=[a]:=List.length_eq_one_iff.mp h
theorem Ec{α:Type}{us:List α}{n:Nat}(h:us.length=n+1):∃ a t,us=a :: t/\t.length=n:=by
 cases us with
 | nil=>cases h
 | cons a t=>exact⟨a,t,rfl,Nat.succ.inj h⟩
theorem HH{α:Type}{us:List α}(h:us.length=2):∃ a b,us=[a,b]:=by
 obtain⟨a,t,rfl,h2⟩:=Ec h; obtain⟨b,rfl⟩:=FP h2; exact⟨a,b,rfl⟩
theorem FO{α:Type}{us:List α}(h:us.length=3):∃ a b c,us=[a,b,c]:=by
 obtain⟨a,t,rfl,h2⟩:=Ec h; obtain⟨b,c,rfl⟩:=HH h2; exact⟨a,b,c,rfl⟩
theorem JQ{α:Type}{us:List α}(h:us.length=4):∃ a b c d,us=[a,b,c,d]:=by
 obtain⟨a,t,rfl,h2⟩:=Ec h; obtain⟨b,c,d,rfl⟩:=FO h2; exact⟨a,b,c,d,rfl⟩
theorem JP{α:Type}{us:List α}(h:us.length=5):∃ a b c d e,us=[a,b,c,d,e]:=by
 obtain⟨a,t,rfl,h2⟩:=Ec h; obtain⟨b,c,d,e,rfl⟩:=JQ h2; exact⟨a,b,c,d,e,rfl⟩
end K2
end
section
namespace K2
open PySem PySem.Spec PyProof.Rows L2 PySem.W
section
variable {X:Cx} {a b:Expr} {ta tb:dM} {pos p2:Pos}
theorem x5{lo hi:Option Expr}{tl th:IF}(he:hX X a ta)(hl:Jm X lo tl)(hu:Jm X hi th):hX X (.Subscript a (.Slice lo hi none p2) pos) (Gw ta tl th):=by
 intro E pins s σ H τ G Q hE I h;refine Subscript_ (mB he hE I h fun x H1 d G1 v s1 I1 m1 r1 nR q1=>?_);refine wpAny_Slice (fX (hl E pins s1 σ H1 τ G1 _ hE I1 q1) ?_);rintro vl s2 ⟨l,H2,G2,mw,m2,pl,q2⟩;refine fX (hu E pins s2 σ H2 τ G2 _ hE (I1.mv mw m2) q2) ?_;rintro vu s3 ⟨r,H3,G3,I3,m3,pu,q3⟩;rw [evalPart_none];refine bg ?_;have mm:=m1.trans (m2.trans m3);have I4:Inv X pins σ H3 { s3 with heap:=s3.heap.push { cls:=.type "slice",data:=.fields #[vl,vu,.none] } }:=I3.kept (t':=s3.toks) fun b ob q=>aM _ q;split at q3
 ·rename_i y;cases nR;obtain⟨t,rfl⟩:=(show ∃ t,v=vq y t from r1);have hz:y.length<=aZ:=by rw [bR]; lia
  have fin:∀ t' k,qE X pins σ H G Q (.str (Txt.slice y l r) t') { s3 with heap:=s3.heap.push { cls:=.type "slice",data:=.fields #[vl,vu,.none] },toks:=k }:=fun t' k=>⟨.str _,H3,.str _,G3,I4.tok k,mm,⟨_,rfl⟩,.str _,q3.2⟩;cases pl with
  | none =>
   cases pu with
   | none=>exact vo (ops:=[.ref s3.heap.objs.size,.str y t]) (w9 _ _ _) F.slot_str_getitem.lookup (lS (l:=none) (u:=none) (st:=none) ⟨_,da _ rfl,rfl,rfl⟩ rfl (rz ⟨b8 (vm y _ _) hz,fin⟩)) (by with_unfolding_all rfl)
   | int j tj=>exact vo (ops:=[.ref s3.heap.objs.size,.str y t]) (w9 _ _ _) F.slot_str_getitem.lookup (lS (l:=none) (u:=some (j,tj)) (st:=none) ⟨_,da _ rfl,rfl,rfl⟩ rfl (rz ⟨b8 (vm y _ _) hz,fin⟩)) (by with_unfolding_all rfl)
  | int i ti =>
   cases pu with
   | none=>exact vo (ops:=[.ref s3.heap.objs.size,.str y t]) (w9 _ _ _) F.slot_str_getitem.lookup (lS (l:=some (i,ti)) (u:=none) (st:=none) ⟨_,da _ rfl,rfl,rfl⟩ rfl (rz ⟨b8 (vm y _ _) hz,fin⟩)) (by with_unfolding_all rfl)
   | int j tj=>exact vo (ops:=[.ref s3.heap.objs.size,.str y t]) (w9 _ _ _) F.slot_str_getitem.lookup (lS (l:=some (i,ti)) (u:=some (j,tj)) (st:=none) ⟨_,da _ rfl,rfl,rfl⟩ rfl (rz ⟨b8 (vm y _ _) hz,fin⟩)) (by with_unfolding_all rfl)
 ·exact q3.elim
end
end K2
end
section
namespace K2
open PySem PySem.Spec PyProof.Rows L2 PySem.Builtin PySem.Builtin.ObjectAttr PySem.Calls
noncomputable abbrev jY(C t:Addr):Obj:={ cls:=.ref C,data:=.fields #[.ref t,.none,.none,.none,.bool false,.none] }
section
variable {prog:bo} {w:World} {A:cZ} {E:Value->au->Prop} {h:Heap} {g:Array GenState} {d:Drawn} {t:Nat} {os:lU}
variable {nm q:Str} {C N:Addr} {bs bm l5:List Value} {q0:Bool} {sn:List Str} {sub:List Value} {ab:Bool} {col:Option Bool} {dd:Option Addr} {k0 k1 k2 k3 k5:Option Value} {B newId kP:String}
theorem vN(F:lC B newId kP l5)(T:Bu h l5 bm){mN:Str->Option Value}{rest:List Value}{fI:Addr}{oI:Obj}{Q:Fin->au->Prop}
  (hC:h.get? C=some (nH nm q C N bs bm q0 sn sub ab col dd k0 k1 k2 k3 k5 newId)) (hn:h.Ns N mN) (hi:mN "__init__" = some (.ref fI))
  (H0:h.get? fI=some oI) (HZ:oI.cls=.type "function")
  (hq:∀ h' e t0,(∀ b o,h.get? b=some o->h'.get? b=some o)->h.objs.size<=e->h'.get? e=some (jY C t0) ->
   wpAny (model prog w) A (call (.ref fI) (.ref e :: rest)) (fun r s'=>r=.none/\Q (.done (.ret (.ref e))) s') E ⟨h',g,d,t,os⟩) (hrest:rest.length<=aZ) :
  wpAny (model prog w) A (Builtin.«type.__call__» ⟨.ref C :: rest,[]⟩) Q E ⟨h,g,d,t,os⟩:=by
 repeat (first | with_reducible refine jV hC ?_ | with_reducible refine wpAny_madeBy_exc hC ?_ | wp_step)
 refine DL (k9 _ F.quiet) (wpAny_check_new_subT F T hC ?_);refine codeAny_exc_new_subT F T hC ?_ hrest;show wpAny _ _ _ _ _ _;have kp:∀ b o,h.get? b=some o->((h.push { cls:=.type "tuple",data:=.seq rest.toArray }).push { cls:=.ref C,data:=.fields #[.ref h.objs.size,.none,.none,.none,.bool false,.none] }).get? b=some o :=
  fun b o e=>aM _ (aM _ e)
 have tP:=kp _ _ hC;have Gb:=kp _ _ H0;have Cz:=hn.keeps kp;have EF:=T.keeps kp
 have pS:((h.push { cls:=.type "tuple",data:=.seq rest.toArray }).push
   { cls:=.ref C,data:=.fields #[.ref h.objs.size,.none,.none,.none,.bool false,.none] }).get? (h.objs.size+1)=some
   { cls:=.ref C,data:=.fields #[.ref h.objs.size,.none,.none,.none,.bool false,.none] }:=by heap_get
 have Kr:(fm C :: bm).contains (.ref C)=true:=by simp
 unfold sC
 repeat (first | with_reducible refine jV pS ?_ | (with_reducible refine wpAny_isSubtype_exc tP ?_; rw [Kr]) | wp_step)
 show wpAny _ _ (typeLookup (.ref C) _) _ _ _;refine wpAny_typeLookup_tail tP Cz EF F.mroIs F.init.lookup ?_;rw [hi];refine lR (aL ?_);unfold bindSpecial;refine aL (wpAny_typeOf (T:="function") ⟨_,Gb,HZ⟩ ?_);rw [if_pos (by decide)];refine bg (aL (ph (hq _ (h.objs.size+1) _ kp (xm _) pS) (fun r s' hr=>?_) fun _ _ x=>x));obtain⟨rfl,hQ⟩:=hr
 wp_walk
 exact hQ
theorem yu(F:lC B newId kP l5)(T:Bu h l5 bm){mN:Str->Option Value}{rest:List Value}{fI:Addr}{oI:Obj}{Q:Value->au->Prop}
  (hC:h.get? C=some (nH nm q C N bs bm q0 sn sub ab col dd k0 k1 k2 k3 k5 newId)) (hn:h.Ns N mN) (hi:mN "__init__" = some (.ref fI))
  (H0:h.get? fI=some oI) (HZ:oI.cls=.type "function")
  (hq:∀ h' e t0,(∀ b o,h.get? b=some o->h'.get? b=some o)->h.objs.size<=e->h'.get? e=some (jY C t0) ->
   wpAny (model prog w) (A.under (.builtin "type.__call__" ⟨.ref C :: rest,[]⟩)) (call (.ref fI) (.ref e :: rest)) (fun r s'=>r=.none/\Q (.ref e) s') E ⟨h',g,d,t,os⟩) (hrest:rest.length<=aZ) :
  wpAny (model prog w) A (call (.ref C) rest) Q E ⟨h,g,d,t,os⟩:=by
 have f1:=tc_lookup;have f2:=tc_bind (.ref C);have hT:(⟨h,g,d,t,os⟩:au).TypeIs (.ref C) "type":=⟨_,hC,rfl⟩;refine mf (codeAny_of_tree ?_);show wpAny _ _ (callAny (.ref C) _) _ _ _
 repeat (any_goals (first | assumption | with_reducible refine jV hC ?_ | wp_step))
 refine⟨rfl,?_⟩;refine codeAny_call_builtin_at (k9 _ (by decide +kernel)) entry_typeCall (DJ hC (vN (hrest:=hrest) F T hC hn hi H0 HZ fun h' e t0 k1 k2 k3=>?_));exact hq h' e t0 k1 k2 k3
theorem Am(F:lC B newId kP l5)(T:Bu h l5 bm){mN:Str->Option Value}{rest:List Value}{Q:Fin->au->Prop}
  (hC:h.get? C=some (nH nm q C N bs bm q0 sn sub ab col dd k0 k1 k2 k3 k5 newId)) (hn:h.Ns N mN) (E1:mN "__init__" = none)
  (hq:∀ h' e t0,(∀ b o,h.get? b=some o->h'.get? b=some o)->h.objs.size<=e->h'.get? e=some (jY C t0)->Q (.done (.ret (.ref e))) ⟨h',g,d,t,os⟩) (hrest:rest.length<=aZ) :
  wpAny (model prog w) A (Builtin.«type.__call__» ⟨.ref C :: rest,[]⟩) Q E ⟨h,g,d,t,os⟩:=by
 repeat (first | with_reducible refine jV hC ?_ | with_reducible refine wpAny_madeBy_exc hC ?_ | wp_step)
 refine DL (k9 _ F.quiet) (wpAny_check_new_subT F T hC ?_);refine codeAny_exc_new_subT F T hC ?_ hrest;show wpAny _ _ _ _ _ _;have kp:∀ b o,h.get? b=some o->((h.push { cls:=.type "tuple",data:=.seq rest.toArray }).push { cls:=.ref C,data:=.fields #[.ref h.objs.size,.none,.none,.none,.bool false,.none] }).get? b=some o :=
  fun b o e=>aM _ (aM _ e)
 have tP:=kp _ _ hC;have Cz:=hn.keeps kp;have EF:=T.keeps kp
 have pS:((h.push { cls:=.type "tuple",data:=.seq rest.toArray }).push
   { cls:=.ref C,data:=.fields #[.ref h.objs.size,.none,.none,.none,.bool false,.none] }).get? (h.objs.size+1)=some
   { cls:=.ref C,data:=.fields #[.ref h.objs.size,.none,.none,.none,.bool false,.none] }:=by heap_get
 have Kr:(fm C :: bm).contains (.ref C)=true:=by simp
 unfold sC
 repeat (first | with_reducible refine jV pS ?_ | (with_reducible refine wpAny_isSubtype_exc tP ?_; rw [Kr]) | wp_step)
 show wpAny _ _ (typeLookup (.ref C) _) _ _ _;refine wpAny_typeLookup_tail tP Cz EF F.mroIs F.init.lookup ?_;rw [E1];refine lR (aL (wpAny_of_eq (F.init.bind _) ?_));refine aL (mf (fj F.init.plain F.initEntry (wpAny_check_init_subT F EF tP pS rfl ?_)))
 wp_walk
 refine hq _ _ (h.objs.size+2) (fun b o hb=>?_) (xm _) ?_
 ·rw [o8 _ _ (Nat.ne_of_gt (Nat.lt_succ_of_lt (aU hb)))];exact aM _ (aM _ (aM _ hb))
 ·rw [qb _ (aM _ pS) rfl];simp only [yI];rfl
theorem Dc(F:lC B newId kP l5)(T:Bu h l5 bm){mN:Str->Option Value}{rest:List Value}{Q:Value->au->Prop}
  (hC:h.get? C=some (nH nm q C N bs bm q0 sn sub ab col dd k0 k1 k2 k3 k5 newId)) (hn:h.Ns N mN) (E1:mN "__init__" = none)
  (hq:∀ h' e t0,(∀ b o,h.get? b=some o->h'.get? b=some o)->h.objs.size<=e->h'.get? e=some (jY C t0)->Q (.ref e) ⟨h',g,d,t,os⟩) (hrest:rest.length<=aZ) :
  wpAny (model prog w) A (call (.ref C) rest) Q E ⟨h,g,d,t,os⟩:=by
 have f1:=tc_lookup;have f2:=tc_bind (.ref C);have hT:(⟨h,g,d,t,os⟩:au).TypeIs (.ref C) "type":=⟨_,hC,rfl⟩;refine mf (codeAny_of_tree ?_);show wpAny _ _ (callAny (.ref C) _) _ _ _
 repeat (any_goals (first | assumption | with_reducible refine jV hC ?_ | wp_step))
 refine⟨rfl,?_⟩;refine codeAny_call_builtin_at (k9 _ (by decide +kernel)) entry_typeCall (DJ hC (Am (hrest:=hrest) F T hC hn E1 fun h' e t0 k1 k2 k3=>?_));exact hq h' e t0 k1 k2 k3
theorem A5(F:lC B newId kP l5)(T:Bu h l5 bm){e t0:Addr}{rest:List Value}{Q:Value->au->Prop}
  (hC:h.get? C=some (nH nm q C N bs bm q0 sn sub ab col dd k0 k1 k2 k3 k5 newId)) (he:h.get? e=some (jY C t0)) (hrest:rest.length<=aZ)
  (hq:∀ h' t1,h'.get? e=some (jY C t1)->(∀ b o,b≠e->h.get? b=some o->h'.get? b=some o)->h.objs.size<=h'.objs.size->Q .none ⟨h',g,d,t,os⟩) :
  wpAny (model prog w) A (call (.builtin kP) (.ref e :: rest)) Q E ⟨h,g,d,t,os⟩:=by
 refine mf (fj F.init.plain F.initEntry (wpAny_check_init_subT F T hC he rfl ?_));have M4:(h.push { cls:=.type "tuple",data:=.seq rest.toArray }).get? e=some (jY C t0):=aM _ he
 wp_walk
 refine hq _ h.objs.size (qb _ M4 rfl) (fun b o hb e=>?_) ?_
 ·rw [o8 _ _ hb.symm]; exact aM _ e
 ·rw [Heap.size_update,yI]; exact xm _
end
section
variable {prog:bo} {w:World} {A:cZ} {E:Value->au->Prop} {s:au} {K:af} {x C:Addr} {ox:Obj} {v:Value} {name:Str} {R:Result->au->Prop}
noncomputable def Fj:List Value->List Value
 | .ref _ :: l=>Fj l
 | l=>l
theorem Aw(self:Value)(Hh:Str):∀ l,refuseLoop self Hh l=refuseLoop self Hh (Fj l):=by
 intro l;induction l with
 | nil=>rfl
 | cons a l ih =>
  cases a with
  | ref C=>rw [refuseLoop_ref,ih]; rfl
  | _=>rfl
noncomputable def yp (K:af) (C:Addr):Bool:=(b6 K C).any fun cd=>Fj cd.mro == [.type "ValueError",.type "Exception",.type "BaseException",.type "object"]
theorem zd {od:Option Obj} {tk:Tok} (X:K.In s.heap) (I:p8 s.heap x ox C od) (hp:yp K C=true) (hm:aO K C (.type "object")=some true) (ht:ak K (.ref C) name=some none)
  (h:∀ b,wpAny (model prog w) A.in1 (storeInOwnDict (.ref x) (.ref C) (.str name tk) name v b)
   (fun fin s'=>match fin with | .done f=>R (.ok f) s' | .again c'=>c'.quiet=true/\oN (model prog w) A c' R s') (fun e s'=>R (.error e) s') s) :
  oN (model prog w) A (.call (.builtin "object.__setattr__") ⟨[.ref x,.str name tk,v],[]⟩) R s:=by
 have SF:=PySem.F.store_object;obtain⟨cd,hc,ho⟩:=sG hp;have sub:xj (model prog w) s.heap (sC (.ref x) (.type "object")) true:=I.type.andThen (Bt X hm);refine fj SF.slot.plain SF.entry (@PySem.W.check_slot (model prog w) _ _ s "object.__setattr__" "object" "__setattr__" (.ref x) [.str name tk,v] [] _ SF.kind SF.split sub (SF.args (.ref x) (.str name tk) v) ?_);have MR:xj (model prog w) s.heap (mroOf (.ref C)) cd.mro:=(qh X hc).andThen .now;rw [PySem.W.osa_eq,refuse_eq];refine aL (aL (I.type.here (aL (MR.here ?_))));rw [Aw,beq_iff_eq.mp ho,PySem.F.store_ValueError.passes];refine bg (aL (I.type.here (aL ((pq X ht).here (aL (bg ?_))))));exact h _
noncomputable abbrev kQ(C t dx:Addr):Obj:={ cls:=.ref C,dict:=some dx,data:=.fields #[.ref t,.none,.none,.none,.bool false,.none] }
structure wQ(K:af)(C:Addr):Prop where
 ov:yp K C=true
 mo:aO K C (.type "object")=some true
 sa:ak K (.ref C) "__setattr__" = some (some (.builtin "object.__setattr__"))
 hd:hV K C=true
theorem CP{t0 : Addr}{Q : Unit -> au -> Prop}(X : K.In s.heap)(hx : s.heap.get? x = some (jY C t0))(Z : wQ K C)(ht : ak K (.ref C) name = some none)
    (h : ∀ h' EO, h'.get? x = some (kQ C t0 s.heap.objs.size) -> h'.Ns1 s.heap.objs.size (fun y => if y = name then some v else none) -> (∀ b o, b ≠ x -> s.heap.get? b = some o -> h'.get? b = some o) -> Q () { s with heap := h', toks := EO }) :
    wpAny (model prog w) A (setAttr (.ref x) name v) Q E s := by
  have J : p8 s.heap x (jY C t0) C none := ⟨hx, rfl, rfl, trivial⟩;refine DM X J Z.sa (zd (s := { s with toks := s.toks + 1 }) X J Z.ov Z.mo ht fun b => ?_);obtain⟨cd, hc, AX⟩ := sG Z.hd;refine aL (bg (aL (aL (DI (s := { s with toks := s.toks + 1 }) hx ?_))));refine aL (wX (s := { s with toks := s.toks + 1 }) (qh X hc) ?_);rw [AX];obtain⟨h0, g, d, t, os⟩ := s;have EZ : (h0.push { cls := .type "dict", data := .dict #[] }).get? x = some (jY C t0) := aM _ hx;have GP : x ≠ h0.objs.size := cA (aU hx);show wpAny _ _ (do
                let d ← alloc { cls := Value.type "dict", data := Data.dict #[] }
                update x fun o => { cls := o.cls, dict := some d, data := o.data, slots := o.slots }
                dictMade (fm C) x d) _ _ _
  refine aL (wpAny_alloc' (aL (wpAny_update' EZ (bg ?_))));have MX : ((h0.push { cls := .type "dict", data := .dict #[] }).update x fun o => { cls := o.cls, dict := some h0.objs.size, data := o.data, slots := o.slots }).get? h0.objs.size
      = some { cls := .type "dict", data := .dict #[] } :=
    (Heap.get?_update_ne _ _ _ _ GP.symm).trans (Heap.get?_push_at rfl rfl)
  have MP : ((h0.push { cls := .type "dict", data := .dict #[] }).update x fun o => { cls := o.cls, dict := some h0.objs.size, data := o.data, slots := o.slots }).Ns h0.objs.size (fun _ => none) :=
    ⟨_, #[], _, MX, rfl, fun e he => absurd he (by simp), fun _ => rfl⟩
  show wpAny _ _ (storeInDict h0.objs.size _ name v) _ _ _;unfold storeInDict newKeyGuard;refine aL (bg (aL (wpAny_nsSet1 (Heap.Ns1.of_empty MP) fun h' Jb hs => ?_)));obtain⟨oD, Nl, Nm, J7, Ko, CF⟩ := Jb.count (Within.cons name v Within.nil);refine aL (wpAny_lookBehind J7 (by rw [Ko]; exact pastItsLine_dict (b8 CF (by rw [bE, cb, bR]; lia))) (bg ?_));exact h h' _ ((hs.2 x GP).trans (qb _ EZ rfl)) Jb fun b ob M6 hb =>
    (hs.2 b (cA (aU hb))).trans ((Heap.get?_update_ne _ _ _ _ M6).trans (aM _ hb))
theorem CO{t0 dx:Addr}{mA:Str->Option Value}{ns:List Str}{Q:Unit->au->Prop}(X:K.In s.heap)(hx:s.heap.get? x=some (kQ C t0 dx))(DC:dx≠x)(hA:s.heap.Ns1 dx mA)(hw:Within mA ns)(FZ:ns.length<=1000)(Z:wQ K C)(ht:ak K (.ref C) name=some none)
  (h:∀ h' EO,h'.Ns1 dx (fun y=>if y=name then some v else mA y)->Dw dx s.heap h'->Q () { s with heap:=h',toks:=EO }) :
  wpAny (model prog w) A (setAttr (.ref x) name v) Q E s:=by
 obtain⟨od,es,ep,MN,NV⟩:=id hA;have J:p8 s.heap x (kQ C t0 dx) C (some od):=⟨hx,rfl,rfl,MN⟩;refine DM X J Z.sa (zd (s:={ s with toks:=s.toks+1 }) X J Z.ov Z.mo ht fun b=>?_);obtain⟨cd,hc,AX⟩:=sG Z.hd;refine aL (bg (aL (aL (DI (s:={ s with toks:=s.toks+1 }) hx ?_))));refine aL (wX (s:={ s with toks:=s.toks+1 }) (qh X hc) ?_);rw [AX];refine bg (a:=some dx) (aL (bg (aL ?_)));refine wpAny_nsSet1 (s:={ s with toks:=s.toks+1 }) hA fun h' Ja MG=>?_;obtain⟨oD,Nl,Nm,J7,Ko,CF⟩:=Ja.count (PySem.Within.cons name v hw);refine aL (wpAny_lookBehind J7 (by rw [Ko]; exact pastItsLine_dict (b8 CF (by rw [bE,bR]; lia))) ?_);exact bg (h _ _ Ja MG)
theorem CQ{B:String}{l5:List Value}{dx:Addr}{mA:Str->Option Value}{expr:Bool}{Q:Value->au->Prop}(FB:qi B l5)(X:K.In s.heap)(hx:s.heap.get? x=some ox)(DD:ox.cls=.ref C)(MQ:PySem.W.notCls ox=true)(E5:ox.dict=some dx)(hA:s.heap.Ns1 dx mA)
  (E4:ak K (.ref C) "__getattribute__" = some (some (.builtin "BaseException.__getattribute__"))) (Ki:ak K (.ref C) "__getattr__" = some none) (Kb:aO K C (.type "BaseException")=some true) (hh:hV K C=true)
  (ha:ak K (.ref C) name=some none) (hv:mA name=some v) (MA:sF v=true) (h:Q v { s with toks:=s.toks+1 }):wpAny (model prog w) A (getAttr (.ref x) name expr) Q E s:=by
 obtain⟨od,ho,hl⟩:=AN hA;have J:p8 s.heap x ox C (some od):=⟨hx,DD,MQ,by rw [E5]; exact ho⟩;have hf:=PySem.W.findObj_own hh ha rfl (by rw [hl,hv]);obtain⟨h0,g,d,t,os⟩:=s;have L0:=J.type (M:=model prog w);have L1:=pq (M:=model prog w) X E4;have L2:=pq (M:=model prog w) X Ki;have L3:=PySem.W.looks_find (M:=model prog w) X J hf;have L4:=Bt (M:=model prog w) X Kb;have HN:(oE "BaseException.__getattribute__" == oE "object.__getattribute__")=false:=by decide +kernel
 unfold getAttr getAttrBy;refine aL (wpAny_mkText (lR (aL (L0.at (aL (L1.at ?_))))));dsimp only;rw [if_neg (by rw [HN]; simp)];unfold getAttrByItsOwn hookBefore callGetattribute;have f3:=FB.ga.bind (.ref x);have fin:oN (model prog w) A (.call (.builtin "BaseException.__getattribute__") ⟨[.ref x,.str name t],[]⟩) (fun r s'=>r=.ok (.ret v)/\s'=⟨h0,g,d,t+1,os⟩) ⟨h0,g,d,t+1,os⟩:=by
  refine fj FB.ga.plain F.entry_bexc_ga ?_;have hk:builtinKind "BaseException.__getattribute__" = some .slot:=by decide +kernel
  have yi:splitId "BaseException.__getattribute__" = some ("BaseException","__getattribute__"):=by decide +kernel
  have ha:=F.args_bexc_ga (.ref x) (.str name t);have LI:xj (model prog w) h0 (sC (.ref x) (.type "BaseException")) true:=L0.andThen L4;simp only [checkBuiltinCall,hk,yi];refine aL (LI.at ?_);simp only [cy,bj,if_false];have body:wpAny (model prog w) A.in1 (Builtin.«object.__getattribute__» ⟨[.ref x,.str name t],[]⟩)
    (fun fin s'=>fin=.done (.ret v)/\s'=⟨h0,g,d,t+1,os⟩) (fun _ _=>False) ⟨h0,g,d,t+1,os⟩:=by
   unfold Builtin.«object.__getattribute__»;refine aL (bg ?_);refine aL (bg ?_);refine aL (L0.at (aL (L3.at ?_)));exact bg ⟨rfl,rfl⟩
  have go:∀ z:Sem Unit,z=pure ()->∀ (P:Unit->au->Prop) (E':Value->au->Prop) s',P () s'->wpAny (model prog w) A.in1 z P E' s':=fun z e P E' s' hp=>by rw [e]; exact bg hp
  refine go _ ha _ _ _ (ph body ?_ (fun _ _ z=>z.elim));rintro fin s' ⟨e1,e2⟩;subst e1; exact⟨rfl,e2⟩
 refine aL (L2.at (aL (wpAny_attempt (lR ?_))));rw [show (expr&&onTheHeap (oE "BaseException.__getattribute__"))=false from qY _,if_neg (by decide)];unfold boundAndCalled;rw [f3];refine aL (bg (mf (oG fin ?_)));rintro r s' ⟨e1,e2⟩;subst e1; subst e2;show wpAny _ _ (handedOut v) _ _ _;rw [PySem.W.handedOut_of MA];exact bg h
end
end K2
end
section
namespace K2
open PySem PySem.Spec PyProof.Rows L2 PySem.Builtin PySem.Builtin.ObjectAttr PySem.Calls
noncomputable def sm(K:af)(C f:Addr)(l5:List Value)(newId:String):Bool:=match K.lookup C with
 | some ⟨.type "type",_,.cls cd,sl⟩=>(match cd.mro,sl.toList with
  | .ref C' :: bm,[_,_,_,_,some (.builtin n),_]=>C' == C&&n == newId&&!cd.hasDel&&PySem.W.tailIn K l5 bm&&PySem.W.nsOkIn K cd.ns&&ay K cd.ns "__init__" == some (some (.ref f))
  | _,_=>false)
 | _=>false
inductive Dl (h:Heap) (C f:Addr) (l5:List Value) (newId:String):Prop
 | mk (bm N nm qn bs q0 sn sub ab col dd k0 k1 k2 k3 k5 mN) (o:h.get? C=some (nH nm qn C N bs bm q0 sn sub ab col dd k0 k1 k2 k3 k5 newId)) (n:h.Ns N mN) (i:mN "__init__" = some (.ref f)) (t:Bu h l5 bm):Dl h C f l5 newId
section
variable {K:af} {h:Heap} {C f:Addr} {l5:List Value} {newId:String}
theorem Hw{N:Addr}{mg:Str->Option Value}{n:Str}{v:Value}(X:K.In h)(G:h.Ns N mg)(e:ay K N n=some (some v)):mg n=some v:=by
 obtain⟨o,es,ep,ho,hd,_,hf⟩:=G;unfold ay at e;split at e
 ·rename_i c d Jg n' sl q;have:=X _ _ q;rw [ho] at this;cases this;cases hd;split at e
  ·rename_i en he;cases e;rw [<-hf];unfold nsFind findBy;rw [<-Array.find?_toList,he];rfl
  ·split at e <;> cases e
 ·cases e
theorem zc(Y:K.In h)(q:sm K C f l5 newId=true):Dl h C f l5 newId:=by
 unfold sm at q;split at q
 rotate_left
 ·cases q
 rename_i dd cd sl ho;split at q
 rotate_left
 ·cases q
 rename_i C' bm k0 k1 k2 k3 n k5 hm hs;obtain⟨nm,bs,mro,ns,qn,hd,sn,sub,ab,col,del⟩:=cd;obtain⟨sl⟩:=sl;have hm:mro=_:=hm;have hs:sl=_:=hs;subst hm hs;simp only [aP,beq_iff_eq,Bool.not_eq_true'] at q;obtain⟨⟨⟨⟨⟨e1,e2⟩,e3⟩,e4⟩,e5⟩,e6⟩:=q;subst e1 e2;have e3:del=false:=e3;subst e3;exact⟨bm,_,_,_,_,_,_,_,_,_,dd,k0,k1,k2,k3,k5,_,Y _ _ ho,.of_isNs (qT Y e5),Hw Y (.of_isNs (qT Y e5)) e6,Dr Y e4⟩
end
noncomputable def XO(C t a:Addr):HO:=.ext fun h=>h.get? a=some (jY C t)
noncomputable def XD(C t dx a:Addr):HO:=.ext fun h=>h.get? a=some (kQ C t dx)
noncomputable def XN(fs:List (Str×V))(dx:Addr):HO:=.ext fun h=>∃ mA,h.Ns1 dx mA/\(∀ f,rf (fs.lookup f) (mA f))/\Bs mA (fs.map (·.1))
noncomputable def ES(K:af)(C:Addr)(te:dM):TS:=fun D σ H=>∃ a t0 τ,σ[0]?=some (some (.ref a))/\H a=some (XO C t0 a)/\Dq K H σ τ/\te (fun _ _=>False) τ (fun _=>none) (fun _ _=>True) /\
 ∀ H' t1,(∀ b u,b≠a->H b=some u->H' b=some u)->H' a=some (XO C t1 a)->D.nx σ H'
noncomputable def Hn(C:Addr)(f:Str)(i:Nat):TS:=fun D σ H=>∃ a t v,σ[0]?=some (some (.ref a))/\σ[i]?=some (some v)/\H a=some (XO C t a)/\∀ dx,H dx=none->D.nx σ (upd (upd H dx (XN [(f,v)] dx)) a (XD C t dx a))
noncomputable def Hm(C:Addr)(f:Str)(i:Nat):TS:=fun D σ H=>∃ a t dx v fs,σ[0]?=some (some (.ref a))/\σ[i]?=some (some v)/\H a=some (XD C t dx a)/\dx≠a/\H dx=some (XN fs dx)/\fs.length < 1000 /\
 ∀ od,D.nx σ (upd (upd H dx (.la od (.xd (vV f v fs)))) a (.la (kQ C t dx) (.ext fun h=>h.get? a=some (kQ C t dx))))
section
variable {X:Cx} {C BC:Addr} {f:Str} {i:Nat} {pos pos':Pos} {B newId kP:String} {l5:List Value} {mc:Value}
theorem EM{P:bo}{w:World}{H:Hp}{h:Heap}{a t:Addr}(e:h.get? a=some (jY C t)):dH P w H h a (XO C t a):=⟨e,⟨_,e⟩,fun _ _ h1 k=>k _ h1⟩
theorem Hg{P:bo}{w:World}{H:Hp}{h:Heap}{a t dx:Addr}(e:h.get? a=some (kQ C t dx)):dH P w H h a (XD C t dx a):=⟨e,⟨_,e⟩,fun _ _ h1 k=>k _ h1⟩
theorem Hf{P:bo}{w:World}{H:Hp}{h:Heap}{dx:Addr}{fs:List (Str×V)}{mA:Str->Option Value}(e:h.Ns1 dx mA)(r:∀ f,rf (fs.lookup f) (mA f))(wi:Bs mA (fs.map (·.1))):dH P w H h dx (XN fs dx) :=
 ⟨⟨mA,e,r,wi⟩,let ⟨o,_,_,q,_⟩:=e; ⟨o,q⟩,fun _ _ h1 k=>let ⟨m,⟨o,es,ep,q,c⟩,r⟩:=h1; ⟨m,⟨o,es,ep,k _ q,c⟩,r⟩⟩
theorem yS {pl:Sem Bool} {x:Str} {e:Expr} {te:dM} {np w5 ap cp ep:Pos} {s0:Str} (hg:Gl X x) (hm:X.mg x=some (.ref BC)) (AU:a5 X.K (.ref BC) "__getattribute__" = some (some (.builtin "type.__getattribute__"))) (hr:PySem.W.readsIn X.K BC mc=true)
  (hf:PySem.W.findCls X.K (.ref BC) mc "__init__" = some (.val (.builtin kP))) (F:lC B newId kP l5) (q:sm X.K C i l5 newId=true) (h0:PE X (.Name s0 w5) (xS 0)) (he:hX X e te)
  (uV:autoParam ((x == ("__debug__" : Str))=false) Ad._auto_1) (hs:autoParam (aX [.Name s0 w5,e] X.env=(false,eval (.Name s0 w5) X.env) :: aX [e] X.env) Ar._auto_1) (MH:autoParam (aX [e] X.env=[(false,eval e X.env)]) Ar._auto_1) (sE:autoParam ((i4 cp (aX [e] X.env)).any (·.1)=false) Ar._auto_1)
  (M3:autoParam (eval (.Call (.Attribute (.Name x np) "__init__" ap) [.Name s0 w5,e] [] cp) X.env=(do
   let ov ← eval (.Name x np) X.env
   standAt ap.atName
   let (f,first) ← holding [ov] (getMethod ov "__init__" pl)
   callWith cp f first (i4 cp (aX [.Name s0 w5,e] X.env)) (backToKw cp (t7 [] X.env)))) Ar._auto_1)
  (MU:autoParam (backToKw cp (t7 [] X.env)=[]) Ar._auto_1) (MW:autoParam (sF (.builtin kP)=true) Ar._auto_1) (ME:autoParam (vp (.Call (.Attribute (.Name x np) "__init__" ap) [.Name s0 w5,e] [] cp) none ep.line X.env=pure false) Ar._auto_1) :
  PS X (.Expr (.Call (.Attribute (.Name x np) "__init__" ap) [.Name s0 w5,e] [] cp) ep) (ES X.K C te):=by
 rintro pins s σ H D I ⟨a,t0,τ,HM,ha,M8,ht,hq⟩;refine wpAny_Expr_any ?_ I.quiet ME;refine PySem.W.methodCall_KW (pl:=pl) (pO I hg hm ?_ uV) M3;refine PySem.W.method_cls I.o9 AU (PySem.W.cls_value I.o9 hr hf MW ?_);rw [MU];have I:=I.tok (s.toks+1);refine cG ?_ hs sE;rw [hs];show wpAny _ _ (qe ((false,eval (.Name s0 w5) X.env) :: i4 cp (aX [e] X.env))) _ _ _;refine cD (fX (h0 pins _ σ H (fun v H'=>v=.ref a/\H'=H) I ⟨_,HM,rfl,rfl⟩) ?_);rintro u s1 ⟨v,H1,I1,r1,rfl,rfl⟩;cases (show u=fm a from r1);rw [MH];show wpAny _ _ (qe [(false,eval e X.env)]) _ _ s1;refine cD (fX (he (fun _ _=>False) pins s1 σ H1 τ (fun _=>none) _ (Lk.none fun _ _ z=>z) ⟨I1,M8,fun _ _ z=>nomatch z⟩ ht) ?_);rintro u2 s2 ⟨v2,H2,d2,G2,mw,m2,r2,_,_⟩;refine lE ?_;have Lm:H2 a=some (XO C t0 a):=(m2.keep a _ ha rfl).1;have pS:s2.heap.get? a=some (jY C t0):=(show dH X.prog X.w H2 s2.heap a (XO C t0 a) from mw.dr a _ Lm).1;obtain⟨tl,N,nm,qn,bs,q0,sn,sub,ab,col,dd,k0,k1,k2,k3,k5,mN,hC,hN,E1,T⟩:=zc mw.o9 q;obtain⟨hh,g,d,t,os⟩:=s2;refine A5 F T hC pS (by rw [bE,cb,bR]; lia) fun h' t1 e1 e2 e3=>?_;refine⟨σ,upd H2 a (XO C t1 a),mw.write (t':=t) (x:=a) (e:=a) (by rw [Lm]; exact dA) (.inl rfl) (fun b o hb z=>e2 b o hb z) ⟨_,e1⟩ (EM e1),hq _ t1 (fun b u hb z=>?_) cj⟩;rw [bc hb];exact(m2.keep b _ z rfl).1
theorem B5{s0 p0:Str}{w5 pp:Pos}(Z:wQ X.K C)(hn:ak X.K (.ref C) f=some none)(h0:PE X (.Name s0 w5) (xS 0))(hv:PE X (.Name p0 pp) (xS i))(hs:autoParam (vp (.Name p0 pp) (some (.Attribute (.Name s0 w5) f pos')) pos.line X.env=pure false) Ar._auto_1) :
  PS X (.Assign [.Attribute (.Name s0 w5) f pos'] (.Name p0 pp) pos) (Hn C f i):=by
 rintro pins s σ H D I ⟨a,t,v,HM,hi,ha,hq⟩;refine xb (fX (hv pins s σ H (fun v' H'=>v'=v/\H'=H) I ⟨_,hi,rfl,rfl⟩) ?_) hs;rintro u s1 ⟨v,H1,I1,r1,rfl,rfl⟩;refine fX (h0 pins s1 σ H1 (fun v' H'=>v'=.ref a/\H'=H1) I1 ⟨_,HM,rfl,rfl⟩) ?_;rintro u0 s2 ⟨_,H2,mw,r2,rfl,rfl⟩;cases (show u0=fm a from r2);have pS:s2.heap.get? a=some (jY C t):=(show dH X.prog X.w H2 s2.heap a (XO C t a) from mw.dr a _ ha).1;refine CP mw.o9 pS Z hn fun h' EO e1 e2 e3=>?_;have hd:H2 s2.heap.objs.size=none:=mw.dr.fresh (ck _);have DC:s2.heap.objs.size≠a:=(cA (aU pS)).symm;refine⟨σ,_,?_,hq _ hd⟩;obtain⟨od,es,ep,ho,yj⟩:=id e2;have h1:(s2.heap.push od).get? s2.heap.objs.size=some od:=Heap.get?_push_at rfl (Heap.get?_some_iff.mp ho).2;have I3:=mw.laid (t':=s2.toks) (a:=s2.heap.objs.size) (o:=XN [(f,v)] s2.heap.objs.size) (h':=s2.heap.push od) (fun b u q=>aM _ q) (ck _)
  (Hf (mA:=fun y=>if y=f then some u else none) ⟨od,es,ep,h1,yj⟩ (fun g=>by
   rw [jW];by_cases hg:g=f
   ·rw [if_pos hg,beq_iff_eq.mpr hg]; exact r1
   ·rw [if_neg hg,beq_eq_false_iff_ne.mpr hg]; exact dA) (fun y hy=>by
   by_cases hg:y=f
   ·rw [hg]; exact dI
   ·exact absurd (if_neg hg) hy))
 refine I3.write (t':=EO) (x:=a) (e:=a) (o:=XD C t s2.heap.objs.size a) (h':=h') (by rw [bc DC.symm,ha]; exact dA) (.inl rfl) (fun b o hb z=>?_) ⟨_,e1⟩ (Hg e1);by_cases Li:b=s2.heap.objs.size
 ·subst Li; rw [h1] at z; cases z; exact ho
 ·exact e3 b o hb (by rw [Heap.get?_push_ne _ _ _ Li] at z; exact z)
theorem B4{s0 p0:Str}{w5 pp:Pos}(Z:wQ X.K C)(hn:ak X.K (.ref C) f=some none)(h0:PE X (.Name s0 w5) (xS 0))(hv:PE X (.Name p0 pp) (xS i))(hs:autoParam (vp (.Name p0 pp) (some (.Attribute (.Name s0 w5) f pos')) pos.line X.env=pure false) Ar._auto_1) :
  PS X (.Assign [.Attribute (.Name s0 w5) f pos'] (.Name p0 pp) pos) (Hm C f i):=by
 rintro pins s σ H D I ⟨a,t,dx,v,fs,HM,hi,ha,DC,E5,NW,hq⟩;refine xb (fX (hv pins s σ H (fun v' H'=>v'=v/\H'=H) I ⟨_,hi,rfl,rfl⟩) ?_) hs;rintro u s1 ⟨v,H1,I1,r1,rfl,rfl⟩;refine fX (h0 pins s1 σ H1 (fun v' H'=>v'=.ref a/\H'=H1) I1 ⟨_,HM,rfl,rfl⟩) ?_;rintro u0 s2 ⟨_,H2,mw,r2,rfl,rfl⟩;cases (show u0=fm a from r2);have pS:s2.heap.get? a=some (kQ C t dx):=(show dH X.prog X.w H2 s2.heap a (XD C t dx a) from mw.dr a _ ha).1;obtain⟨mA,hA,rA,wA⟩:=(show dH X.prog X.w H2 s2.heap dx (XN fs dx) from mw.dr dx _ E5).1;refine CO mw.o9 pS DC hA wA (by rw [cO]; lia) Z hn fun h' EO e1 e2=>?_;obtain⟨od,es,ep,ho,yj⟩:=id e1;refine⟨σ,_,?_,hq od⟩;have I3:=mw.write (t':=EO) (x:=dx) (e:=dx) (o:=.la od (.xd (vV f v fs))) (h':=h') (by rw [E5]; exact dA) (.inl rfl) (fun b o hb z=>(e2.2 b hb).trans z) ⟨_,ho⟩
  ⟨ho,_,e1,fun g=>by
   show rf ((vV f v fs).lookup g) (if g=f then some u else mA g);rw [qM];by_cases q:g=f
   ·rw [if_pos q,if_pos q]; exact r1
   ·rw [if_neg q,if_neg q]; exact rA g⟩
 have E4:h'.get? a=some (kQ C t dx):=(e2.2 a DC.symm).trans pS;exact I3.write (t':=EO) (x:=a) (e:=a) (h':=h') (by rw [bc DC.symm,ha]; exact dA) (.inl rfl) (fun _ _ _ z=>z) ⟨_,E4⟩ ⟨E4,E4,⟨_,E4⟩,fun _ _ z k=>k _ z⟩
end
noncomputable def Fq(K:af)(C:Addr)(f g:Str)(te:dM):Sp:=fun vs H Q _=>∃ a x y t0 d1 d2,vs=[.ref a,x,y]/\H a=some (XO C t0 a)/\cf K H x d1/\cf K H y d2/\te (fun _ _=>False) [some (.ref a),some d1,some d2] (fun _=>none) (fun _ _=>True) /\
 ∀ H' t dx od,(∀ b u,b≠a->H b=some u->H' b=some u)->H' a=some (.la (kQ C t dx) (.ext fun h=>h.get? a=some (kQ C t dx)))->H' dx=some (.la od (.xd [(f,x),(g,y)]))->Q .l7 H'
section
variable {P:bo} {w:World} {K:af} {mg:Str->Option Value} {base:Heap}
theorem y9{x qual s0 p1 p2 f g:Str}{st:Stmt}{fa C:Addr}{fd:bh}{k:Nat}{te:dM}(MZ:f≠g)(F:yv K x qual st fa fd)(S:ff [s0,p1,p2] [s0,p1,p2] (bw st))
  (wo:∀ (lO:Value) (A:cZ) (outer:List Env) (s:au) (H:Hp) (E:XK),jU k (A.deeper (tu qual (bw st) s.heap.objs.size fa lO)) ->
   DG (u7 qd P w K mg base [s0,p1,p2] qual (bw st) fa lO A outer s H E).FI (dw st) (Fo (ES K C te) (Fo (Hn C f 1) (Hm C g 2)))) :
  l4 P w K mg base qd (k+1) fa fd [s0,p1,p2] (Fq K C f g te):=by
 refine F.ok S (by rintro vs H Q E ⟨a,x,y,t0,d1,d2,rfl,_⟩; rfl) ?_;rintro lO A outer s H vs Q E Cy ⟨a,x,y,t0,d1,d2,rfl,ha,r1,r2,ht,hq⟩;refine⟨_,wo lO A outer s H E Cy,a,t0,[some (.ref a),some d1,some d2],rfl,ha,?_,ht,fun H1 t1 k1 h1=>⟨a,t1,x,rfl,rfl,h1,fun dx E5=>?_⟩⟩
 ·exact vP (Nn:=[s0,p1,p2]) (vs:=[.ref a,x,y]) (ds:=[.ref a,d1,d2]) (.cons (.ref a) (.cons r1 (.cons r2 .nil)))
 ·have DC:dx≠a:=fun e=>by rw [e,h1] at E5; cases E5
  refine⟨a,t1,dx,y,[(f,x)],rfl,rfl,cj,DC,by rw [bc DC,cj],Nat.lt_of_sub_eq_succ rfl,fun od=>hq _ t1 dx od (fun b u hb z=>?_) cj ?_⟩
  ·have z1:=k1 b u hb z;have Lj:b≠dx:=fun e=>by rw [e,E5] at z1; cases z1
   rw [bc hb,bc Lj,bc hb,bc Lj]; exact z1
  ·rw [bc DC,cj];unfold vV;rw [if_neg MZ];rfl
end
section
variable {X:Cx} {x:Str} {C:Addr} {l5:List Value} {B newId kP:String} {e:Expr} {es:List Expr} {p pos:Pos} {t:vc}
theorem Mv.FK{K:af}{H H':Hp}{G:Gp}{a:Addr}(ab:mL K H G)(hn:H a=none)(k:∀ b u,b≠a->H b=some u->H' b=some u):Mv K H G H' G:=by
 have k':∀ b u,H b=some u->H' b=some u:=fun b u q=>k b u (fun e=>by rw [e,hn] at q; cases q) q;have kp:Kp H H':=⟨fun b xs q=>k' b _ q,fun b o u q=>k' b _ q⟩;have LD:mL K H' G:=fun b g q=>by
  have z:=ab b g q;cases hb:H b with
  | none=>exact absurd hb z.tracked
  | some u=>exact z.mono kp ((k' b u hb).trans hb.symm)
 exact⟨fun b o q n=>⟨k' b o q,n⟩,fun b n=>by
  cases hb:G b with
  | none=>exact absurd hb n
  | some g=>exact(LD b g hb).tracked,LD⟩
theorem D7(hk:fk X.K (.ref C)=true)(yj:ay X.K ao x=some (some (.ref C)))(q:nJ X.K C l5 newId=true)(FB:lC B newId kP l5)(hg:Gl X x)(hm:X.mg x=some (.ref C))(ha:zk X (e :: es) t)
  (uV:autoParam ((x == ("__debug__" : Str))=false) Ad._auto_1) (he:autoParam (aX (e :: es) X.env=(false,eval e X.env) :: aX es X.env) Ar._auto_1) (sE:autoParam ((i4 pos (aX es X.env)).any (·.1)=false) Ar._auto_1) :
  hX X (.Call (.Name x p) (e :: es) [] pos) (mI x t):=by
 intro E pins s σ H τ G Q hE I h;refine eA (pO I.inv hg hm ?_ uV);refine qU (h₀:=X.base) I.inv.ok.mod.HJ hk (Aj ha pos hE I h fun vs H1 ds G1 us s1 I1 m1 r rd z=>⟨I1.inv.o9,?_⟩) he sE;obtain⟨hlen,hQ⟩:=z;obtain⟨tl,N,nm,qn,bs,q0,sn,sub,ab,col,dd,k0,k1,k2,k3,k5,mN,hC,hN,E1,T⟩:=El I1.inv.o9 q;obtain⟨hh,g0,d,tt,os⟩:=s1;refine Dc FB T hC hN E1 (fun h' a t0 kp sz e1=>?_) (by rw [cM,<-r.length,rd.length,bR]; exact hlen);have hn:=I1.inv.dr.fresh (a:=a) sz;have I2:=I1.inv.laid (t':=tt) (a:=a) (o:=.la (jY C t0) (.ext fun h=>h.get? a=some (jY C t0))) (h':=h') kp sz ⟨e1,e1,⟨_,e1⟩,fun _ _ z k=>k _ z⟩;have m2:Mv X.K H1 G1 _ G1:=Mv.FK (H':=upd H1 a (.la (jY C t0) (.ext fun h=>h.get? a=some (jY C t0)))) I1.ab hn fun b u hb q=>by rw [bc hb]; exact q
 exact⟨.ref a,_,.exc x,G1,I2,m1.trans m2,rfl,.exc ⟨_,C,cj,rfl,yj⟩,hQ⟩
theorem D8{fI:Addr}{f g:Str}{fd:bh}{ps:List Str}{k:Nat}{te:dM}{oI:Obj}(hk:fk X.K (.ref C)=true)(yj:ay X.K ao x=some (some (.ref C)))(q:sm X.K C fI l5 newId=true)(FB:lC B newId kP l5)
  (H0:X.K.lookup fI=some oI) (HZ:oI.cls=.type "function") (F:l4 X.prog X.w X.K X.mg X.base qd k fI fd ps (Fq X.K C f g te)) (hr:jU (k+1) X.A) (hb:Binds X.K fd ps []) (hg:Gl X x) (hm:X.mg x=some (.ref C)) (ha:zk X (e :: es) t)
  (uV:autoParam ((x == ("__debug__" : Str))=false) Ad._auto_1) (he:autoParam (aX (e :: es) X.env=(false,eval e X.env) :: aX es X.env) Ar._auto_1) (sE:autoParam ((i4 pos (aX es X.env)).any (·.1)=false) Ar._auto_1) :
  hX X (.Call (.Name x p) (e :: es) [] pos) (C7 x [f,g] te t):=by
 intro E pins s σ H τ G Q hE I h;refine eA (pO I.inv hg hm ?_ uV);refine qU (h₀:=X.base) I.inv.ok.mod.HJ hk (Aj ha pos hE I h fun vs H1 ds G1 us s1 I1 m1 r rd z=>⟨I1.inv.o9,?_⟩) he sE;obtain⟨hlen,ht,hQ⟩:=z;obtain⟨d1,d2,rfl⟩:∃ d1 d2,ds=[d1,d2]:=by
  match ds,hlen with
  | [d1,d2],_=>exact⟨d1,d2,rfl⟩
 cases rd with
 | @cons v1 _ NK _ r1 rd =>
 cases rd with
 | @cons v2 _ NJ _ r2 rd =>
 cases rd;obtain⟨tl,N,nm,qn,bs,q0,sn,sub,ab,col,dd,k0,k1,k2,k3,k5,mN,hC,hN,E1,T⟩:=zc I1.inv.o9 q;have Kn:=I1.inv.o9 _ _ H0;obtain⟨hh,g0,d,tt,os⟩:=s1;refine yu FB T hC hN E1 Kn HZ (fun h' a t0 kp sz e1=>?_) (by rw [cM,<-r.length,bR]; exact cP rfl);have hn:=I1.inv.dr.fresh (a:=a) sz;have I2:=I1.inv.laid (t':=tt) (a:=a) (o:=XO C t0 a) (h':=h') kp sz (EM e1);have m2:Mv X.K H1 G1 (upd H1 a (XO C t0 a)) G1:=Mv.FK I1.ab hn fun b u hb q=>by rw [bc hb]; exact q
 have Lc:=m2.kp I1.ab;rw [cM];have rr:Vals (.ref a :: [v1,v2]) (.ref a :: us):=.cons rfl r;have AU:Fq X.K C f g te (.ref a :: [v1,v2]) (upd H1 a (XO C t0 a)) (fun v H'=>v=.l7/\∃ t dx od,(∀ b u,b≠a->(upd H1 a (XO C t0 a)) b=some u->H' b=some u)/\H' a=some (.la (kQ C t dx) (.ext fun h=>h.get? a=some (kQ C t dx)))/\H' dx=some (.la od (.xd [(f,v1),(g,v2)]))) E0 :=
  ⟨a,v1,v2,t0,d1,d2,rfl,cj,r1.mono Lc,r2.mono Lc,ht a,fun H' t dx od h1 h2 h3=>⟨rfl,t,dx,od,h1,h2,h3⟩⟩
 have hl:(fm a :: us).length=ps.length:=by rw [<-rr.length]; exact F.len _ _ _ _ AU
 refine mf (oG (F.run _ X.stack _ _ ⟨fm a :: us,[]⟩ (fm a :: us) _ _ E0 (hr.make C us []) (I2.Iv.make C us []) (by have:=hb _ (fm a :: us) I2.o9 (by rw [ia]; exact hl); rw [ia] at this; exact this) rr AU) fun r s' HP=>?_);cases r with
 | error e=>exact HP.elim
 | ok fl =>
  cases fl with
  | ret u =>
   obtain⟨v,H',I3,rv,ev,t,dx,od,h1,h2,h3⟩:=I2.after HP;subst ev;have m3:Mv X.K H1 G1 H' G1:=Mv.FK I1.ab hn fun b u hb q=>h1 b u hb (by rw [bc hb]; exact q);have Lb:=m3.kp I1.ab;exact⟨rv,.ref a,H',.pW x [f,g] [d1,d2],G1,I3,m1.trans m3,rfl,.pW ⟨_,C,dx,od,_,h2,rfl,yj,rfl,h3,rfl,rfl,rfl⟩ (.cons (r1.mono Lb) (.cons (r2.mono Lb) .nil)),hQ⟩
  | next=>exact bJ HP
  | brk=>exact bJ HP
  | cont=>exact bJ HP
structure p5(K:af)(c f:Str):Prop where
 ex:∃ C,ay K ao c=some (some (.ref C))/\bX K C/\hV K C=true/\ak K (.ref C) f=some none
theorem BD{K:af}{H:Hp}{f:Str}{d:D}:∀ {fs:List (Str×V)} {ds:List D},bp K H (fs.map (·.2)) ds->((fs.map (·.1)).zip ds).lookup f=some d->∃ v,fs.lookup f=some v/\cf K H v d:=by
 intro fs;induction fs with
 | nil=>intro ds _ h; cases h
 | cons q fs ih =>
  intro ds r h;cases r with
  | cons r1 r2 =>
   obtain⟨qk,qv⟩:=q;rw [cF,sD,jW] at h;rw [jW];cases hb:f == qk with
   | true=>rw [show (f == (qk,qv).1)=true from hb] at h; cases h; exact⟨qv,rfl,r1⟩
   | false=>rw [show (f == (qk,qv).1)=false from hb] at h; exact ih r2 h
theorem lQ{all:List Str}{f:Str}{te:dM}(FB:qi B l5)(cl:∀ c,all.contains c=true->p5 X.K c f)(he:hX X e te)(hb:autoParam (qf e f X.env (eval e X.env)=eval e X.env) Ar._auto_1):hX X (.Attribute e f pos) (nt all f te):=by
 intro E pins s σ H τ G Q hE I h;refine ED hb (mB he hE I h fun x H1 d G1 u s1 I1 m1 r1 nR q1=>?_);cases nR with
 | pW h0 rs =>
  obtain⟨hc,d',hl,q⟩:=q1;obtain⟨⟨C',e4,z,hd,hf⟩⟩:=cl _ hc;obtain⟨o,C,dx,od,fs,h1,h2,h3,h4,h5,h6,rfl,rfl⟩:=h0;rw [h3] at e4;cases e4;cases r1;obtain⟨v,hv,rv⟩:=BD rs hl;obtain⟨ho,mA,hA,hr⟩:=(show dH X.prog X.w H1 s1.heap dx (.la od (.xd fs)) from I1.inv.dr dx _ h5);obtain⟨u,hu,ru⟩:=rf.some_of (v:=v) (o:=mA f) (by rw [<-hv]; exact hr f);exact CQ FB I1.inv.o9 (I1.inv.dr _ _ h1).1 h2 h6 h4 hA z.ga z.gn z.mb hd hf hu (AY ru) ⟨v,H1,d',G1,I1.inv.tok _,m1,ru,rv,q⟩
 | _=>exact q1.elim
end
end K2
end
section
namespace K2
open PySem PySem.W PySem.Spec PyProof.Rows L2
noncomputable abbrev KH:List Value:=[.type "ValueError",.type "Exception",.type "BaseException",.type "object"]
structure pe(K:Frag)(cn:Str)(C:Addr):Prop where
 ns:nsIn K ao cn=some (some (.ref C))
 kp:keepIn K (.ref C)=true
 ex:excIn K C [.type "ValueError",.type "Exception",.type "BaseException",.type "object"] "ValueError.__new__" = true
theorem Fy {K:Frag} {cn:Str} {C:Addr} (a:autoParam (nsIn K ao cn=some (some (.ref C))) Aq._auto_1) (k:autoParam (keepIn K (.ref C)=true) Aq._auto_1) (e:autoParam (excIn K C [.type "ValueError",.type "Exception",.type "BaseException",.type "object"] "ValueError.__new__" = true) Ax._auto_1):pe K cn C:=⟨a,k,e⟩
structure Jp(K:Frag)(cn:Str)(C:Addr):Prop where
 ns:nsIn K ao cn=some (some (.ref C))
 sp:specialIn K (.ref C) "__getattribute__" = some (some (.builtin "type.__getattribute__"))
 rd:readsIn K C (.type "type")=true
 fc:findCls K (.ref C) (.type "type") "__init__" = some (.val (.builtin "ValueError.__init__"))
theorem Gv {K:Frag} {cn:Str} {C:Addr} (a:autoParam (nsIn K ao cn=some (some (.ref C))) Aq._auto_1) (k:autoParam (specialIn K (.ref C) "__getattribute__" = some (some (.builtin "type.__getattribute__"))) Aq._auto_1) (r:autoParam (readsIn K C (.type "type")=true) Aq._auto_1) (e:autoParam (findCls K (.ref C) (.type "type") "__init__" = some (.val (.builtin "ValueError.__init__"))) Aq._auto_1):Jp K cn C:=⟨a,k,r,e⟩
structure GG(K:Frag)(C:Addr)(cn q f g:Str)(st:Stmt)(fa:Addr)(fd:bh):Prop where
 ns:nsIn K ao cn=some (some (.ref C))
 kp:keepIn K (.ref C)=true
 ex:sm K C fa KH "ValueError.__new__" = true
 fn:isFn K (.ref fa)=true
 F:L2.yv K "__init__" q st fa fd
 Z:wQ K C
 n1:tm K (.ref C) f=some none
 n2:tm K (.ref C) g=some none
theorem CU {K:Frag} {C:Addr} {cn q f g:Str} {st:Stmt} {fa:Addr} {oc:Value} {od an:Option Addr} {AI:Array (Option Value)} {kV doc pm lO ct:Value} (a:autoParam (nsIn K ao cn=some (some (.ref C))) Aq._auto_1) (fi:autoParam (tm K (.ref C) "__init__" = some (some (.ref fa))) Aq._auto_1) (k:autoParam (keepIn K (.ref C)=true) Aq._auto_1)
  (l:autoParam (K.lookup fa=some ⟨oc,od,.func (fnOf "__init__" q (L2.ic st) (L2.dw st) (L2.bw st) .none kV doc pm an lO ct),AI⟩) Aq._auto_1) (e:autoParam (sm K C fa KH "ValueError.__new__" = true) Ac._auto_1) (fn:autoParam (isFn K (.ref fa)=true) Aq._auto_1) (c:autoParam (codeIn K lO q=true) Aq._auto_1) (k2:autoParam (keepIn K (.ref fa)=true) Aq._auto_1)
  (ov:autoParam (yp K C=true) Ac._auto_1) (mo:autoParam (mroIn K C (.type "object")=some true) Aq._auto_1) (sa:autoParam (tm K (.ref C) "__setattr__" = some (some (.builtin "object.__setattr__"))) Aq._auto_1) (hd:autoParam (hasDictIn K C=true) Aq._auto_1) (n1:autoParam (tm K (.ref C) f=some none) Aq._auto_1) (n2:autoParam (tm K (.ref C) g=some none) Aq._auto_1) :
  GG K C cn q f g st fa (fnOf "__init__" q (L2.ic st) (L2.dw st) (L2.bw st) .none kV doc pm an lO ct):=⟨a,k,e,fn,L2.CJ l c k2,⟨ov,mo,sa,hd⟩,n1,n2⟩
structure EK(P:bo)(w:World)(K:Frag)(mg:Str->Option Value)(base:Heap)(k:Nat)(fa:Addr)(fd:bh)(C:Addr)(cn:Str)(ps:List Str)(f g:Str)(te:dM):Prop where
 ok:L2.l4 P w K mg base qd k fa fd ps (Fq K C f g te)
 bi:L2.Binds K fd ps []
 ns:nsIn K ao cn=some (some (.ref C))
 mg:mg cn=some (.ref C)
 kp:keepIn K (.ref C)=true
 ex:sm K C fa KH "ValueError.__new__" = true
 fn:isFn K (.ref fa)=true
theorem GG.Lv{P:bo}{w:World}{K:Frag}{mg:Str->Option Value}{base h:Heap}{k:Nat}{fa:Addr}{fd:bh}{C:Addr}{cn q:Str}{st:Stmt}{ps:List Str}{f g:Str}{te:dM}(z:GG K C cn q f g st fa fd)(X:K.In h)(G:h.Ns ao mg)(ok:L2.l4 P w K mg base qd k fa fd ps (Fq K C f g te))(bi:L2.Binds K fd ps []) :
  EK P w K mg base k fa fd C cn ps f g te:=⟨ok,bi,z.ns,mg_of X G z.ns,z.kp,z.ex,z.fn⟩
theorem Ek {K:Frag} {f:Addr} (h:isFn K (.ref f)=true):∃ o,K.lookup f=some o/\o.cls=.type "function":=by
 have h:=beq_iff_eq.mp h;have h:(K.lookup f).map (·.cls)=some (.type "function"):=h;cases e:K.lookup f with
 | none=>rw [e] at h; cases h
 | some o=>rw [e] at h; exact⟨o,rfl,bu h⟩
section
variable {X:Cx} {x:Str} {C:Addr} {e:Expr} {es:List Expr} {p pos:Pos} {t:vc}
theorem c8(z:pe X.K x C)(hg:Gl X x)(hm:X.mg x=some (.ref C))(ha:zk X (e :: es) t)
  (uV:autoParam ((x == ("__debug__" : Str))=false) Ad._auto_1) (he:autoParam (aX (e :: es) X.env=(false,eval e X.env) :: aX es X.env) Ar._auto_1) (sE:autoParam ((i4 pos (aX es X.env)).any (·.1)=false) Ar._auto_1) :
  hX X (.Call (.Name x p) (e :: es) [] pos) (mI x t):=D7 z.kp z.ns z.ex h8 hg hm ha uV he sE
theorem v3{fI:Addr}{f g:Str}{fd:bh}{ps:List Str}{k:Nat}{te:dM}(z:EK X.prog X.w X.K X.mg X.base k fI fd C x ps f g te)(hr:jU (k+1) X.A)(hg:Gl X x)(ha:zk X (e :: es) t)
  (uV:autoParam ((x == ("__debug__" : Str))=false) Ad._auto_1) (he:autoParam (aX (e :: es) X.env=(false,eval e X.env) :: aX es X.env) Ar._auto_1) (sE:autoParam ((i4 pos (aX es X.env)).any (·.1)=false) Ar._auto_1) :
  hX X (.Call (.Name x p) (e :: es) [] pos) (C7 x [f,g] te t):=by
 obtain⟨o,h1,h2⟩:=Ek z.fn;exact D8 z.kp z.ns z.ex h8 h1 h2 z.ok hr z.bi hg z.mg ha uV he sE
end
end K2
end
section
namespace K2
open PySem PySem.W PySem.Spec PyProof.Rows PySem.Calls
theorem AO{p q:bo}{loose:List Str}{Xt:au->Bool}{α:Type}{Yf:au->α}{Ya:World->α}{N:Nat}(e:opening p=plainProg p.main.scope.names)(hN:Nat.ble 600 N=true)(f:∀ s,fenceModules? p s=some s)
  (h:∀ (w:World) (os:lU),(topFrom hU p w N ⟨c5 w.params,kY [],hZ,pk,os⟩).map (fun s=>(openSeen q loose (lT p.main.body) Xt true s,Yf s))=some (Bf q loose,Ya w)):LeftO p q loose Xt Yf Ya N:=fun w=>by
 obtain⟨⟨h',gs,d,k,os⟩,e1,e2⟩:=Option.map_eq_some_iff.mp (boot_open e hN f w);obtain⟨rfl,rfl,rfl,rfl⟩:h'=c5 w.params/\gs=kY []/\d=hZ/\k=pk:=by simpa using e2
 unfold openEnds;rw [e1];exact h w os
noncomputable abbrev yJ(l:OpenLaw)(q:bo):Bool:=chainsOk q&&opensWell l.row.prog&&(frees l.row.toRowW&&l.row.within.isEmpty)
noncomputable abbrev Ff(l:OpenLaw)(q:bo)(s:au):Bool:=xlAt q [] s&&recOk l.row.records s
theorem AW{l:OpenLaw}{q:bo}{loose:List Str}{K:mx->Frag}{as:List Addr}{d:DefRec}{N:Nat}(ok:l.wellSaid=true)(e:opening l.row.prog=plainProg l.row.prog.main.scope.names)(hN:Nat.ble 600 N=true)(f:∀ s,fenceModules? l.row.prog s=some s)(hK:∀ P,as=(K P).map (·.1))
  (h:∀ (w:World) (os:lU),(topFrom hU l.row.prog w N ⟨c5 w.params,kY [],hZ,pk,os⟩).map (fun s=>(openSeen q loose (lT l.row.prog.main.body) (Ff l q) true s,as.map s.heap.get?))=some (Bf q loose,(K w.params).map fun p=>some p.2))
  (hd:defOf q l.row.name=some (d,[])) (hp:l.row.prog.theDef l.row.name=some (d.params,d.body,d.scope)) (hk:kwWritten? d.params.kwonlyargs d.params.kw_defaults=some []) (hr:(!l.row.writes||l.row.records.isEmpty)=true) (ht:yJ l q=true) (hb:l.row.prog.bare) (hw:l.row.toRowW.promised)
  (c:WalkO q loose (XL q []) (InK K) l.row.toRowW d [] fun f vs=>yD f vs):l.Holds :=
 holds_law ok fun k1=>holds_open (AO (Yf:=Hook.obs (kHook K as hK)) (Ya:=Hook.val (kHook K as hK)) e hN f h) (Hook.of (kHook K as hK)) (Hook.keeps (kHook K as hK)) (fun s x=>xl_of s (Bool.and_eq_true_iff.mp x).1) XL.keeps hd hp hk (fun s x=>recFacts_of (Bool.and_eq_true_iff.mp x).2) hr k1 ht hb hw c
structure At(K:Frag)(x:Str)(st:Stmt)(f:Addr)(fd:bh):Prop where
 a:nsIn K ao x=some (some (.ref f))
 F:L2.yv K x x st f fd
theorem At.mg{K:Frag}{h:Heap}{mg:Str->Option Value}{x:Str}{st:Stmt}{f:Addr}{fd:bh}(z:At K x st f fd)(X:K.In h)(G:h.Ns ao mg):mg x=some (.ref f):=mg_of X G z.a
theorem wM{K:Frag}{x:Str}{st:Stmt}{f:Addr}{oc:Value}{od an:Option Addr}{AI:Array (Option Value)}{kV doc pm lO ct:Value}(a:autoParam (nsIn K ao x=some (some (.ref f))) Aq._auto_1)(l:autoParam (K.lookup f=some ⟨oc,od,.func (fnOf x x (L2.ic st) (L2.dw st) (L2.bw st) .none kV doc pm an lO ct),AI⟩) Aq._auto_1)
  (c:autoParam (codeIn K lO x=true) Aq._auto_1) (k:autoParam (keepIn K (.ref f)=true) Aq._auto_1):At K x st f (fnOf x x (L2.ic st) (L2.dw st) (L2.bw st) .none kV doc pm an lO ct):=⟨a,L2.CJ l c k⟩
structure Jq(P:bo)(w:World)(K:Frag)(mg:Str->Option Value)(base:Heap)(CX:L2.Be)(k:Nat)(f:Addr)(fd:bh)(x:Str)(ps:List Str)(sp:L2.Sp):Prop where
 ok:L2.l4 P w K mg base CX k f fd ps sp
 mg:mg x=some (.ref f)
 kp:keepIn K (.ref f)=true
 bi:L2.Binds K fd ps []
end K2
end
section
namespace K2
open PySem PySem.W PySem.Spec PyProof.Rows PySem.Calls
noncomputable def pA(tb:String->Option Builtin)(p:bo)(w:World)(mF:Nat)(ann:Option Value):Nat->mM->Thread->Option mM
 | 0,_,_=>none
 | n+1,s,t=>match through t with
  | true=>some s
  | false=>match stepOk mF ann t with
   | false=>none
   | true=>match stepT (denote tb) p w s t with
    | some (s',t')=>pA tb p w mF ann n s' t'
    | none=>none
theorem DX{tb:String->Option Builtin}{p:bo}{w:World}{mF:Nat}{ann:Option Value}:∀ {n:Nat} {s s':mM} {t:Thread},pA tb p w mF ann n s t=some s'->topRun tb p w mF ann n s.abs t=some s'.abs:=by
 intro n;induction n with
 | zero=>intro s s' t h; cases h
 | succ n ih =>
  intro s s' t h;unfold pA at h;unfold topRun;cases ht:through t with
  | true=>rw [ht] at h; cases h; rfl
  | false =>
   rw [ht] at h;cases hk:stepOk mF ann t with
   | false=>rw [hk] at h; cases h
   | true =>
    rw [hk] at h;cases hs:stepT (denote tb) p w s t with
    | none=>rw [hs] at h; cases h
    | some r =>
     obtain⟨xT,Jt⟩:=r;rw [hs] at h;rw [stepT_spec hs];exact ih h
noncomputable def bt(l:List Obj):BT:=(l.foldl (fun (p:BT×Nat) o=>(p.1.ins p.2 o,p.2+1)) (BT.nil,0)).1
noncomputable def Df(P:mx)(os:lU):mM:=⟨bt (c5 P).objs.toList,(c5 P).objs.size,(c5 P).life,kY [],hZ,pk,os⟩
theorem A4(P:mx)(os:lU):(Df P os).abs=⟨c5 P,kY [],hZ,pk,os⟩:=by kernel_rfl
noncomputable abbrev EX{α:Type}(p q:bo)(loose:List Str)(Xt:au->Bool)(Yf:au->α)(P:mx)(s:au):=((staticsOk (lT p.main.body) (c5 P) s.heap&&namesBound p s.heap&&gensDone s&&laidKept (c5 P) s.heap),openSeen q loose (lT p.main.body) Xt true s,Yf s)
end K2
end
section
namespace K2
open PySem PySem.W PySem.Spec PyProof.Rows PySem.Calls
noncomputable def Ip(tb:String->Option Builtin)(p:bo)(w:World)(mF:Nat)(ann:Option Value):Nat->mM->Thread->Option (mM×Thread)
 | 0,s,t=>some (s,t)
 | n+1,s,t=>match through t with
  | true=>none
  | false=>match stepOk mF ann t with
   | false=>none
   | true=>match stepT (denote tb) p w s t with
    | some (s',t')=>Ip tb p w mF ann n s' t'
    | none=>none
section
variable {tb:String->Option Builtin} {p:bo} {w:World} {mF:Nat} {ann:Option Value} {b:List Stmt} {env:Env} {c:Code} {q pos p':Pos}
theorem Gi:∀ {n:Nat} {s s':mM} {t t':Thread},Ip tb p w mF ann n s t=some (s',t')->topGo tb p w mF ann n s.abs t=some (s'.abs,t'):=by
 intro n;induction n with
 | zero=>intro s s' t t' h; cases h; rfl
 | succ n ih =>
  intro s s' t t' h;unfold Ip at h;unfold topGo;cases ht:through t with
  | true=>rw [ht] at h; cases h
  | false =>
   rw [ht] at h;cases hk:stepOk mF ann t with
   | false=>rw [hk] at h; cases h
   | true =>
    rw [hk] at h;cases hs:stepT (denote tb) p w s t with
    | none=>rw [hs] at h; cases h
    | some r =>
     obtain⟨xT,Jt⟩:=r;rw [hs] at h;rw [stepT_spec hs];exact ih h
theorem A0{nA nB N:Nat}{s0 sA sB:mM}{r:au}(h1:Ip tb p w mF ann nA s0 (topStub p)=some (sA,⟨denote tb (.body b env),c,pos,[nz q]⟩))(h2:segRunT tb p w mF ann 1 nB sA (blockOf b env c pos [nz q])=some (.next,sB,c,p'))
  (k:topRun tb p w mF ann N sB.abs (restOf b env c p' [nz q])=some r):topRun tb p w mF ann (nA+(nB+N)) s0.abs (topStub p)=some r:=go_top (Gi h1) (piece_block (segRun_of h2) k)
theorem wJ(k:Nat){n N:Nat}{s s':mM}{r:au}(h:segRunT tb p w mF ann 1 n s (piecesOf (b.take k) env c pos [nz q])=some (.next,s',c,p'))
  (hk:topRun tb p w mF ann N s'.abs (restOf (b.drop k) env c p' [nz q])=some r):topRun tb p w mF ann (n+N) s.abs (restOf b env c pos [nz q])=some r:=by
 have:=piece_app (segRun_of h) hk
 rwa [List.take_append_drop] at this
end
theorem DW{p q:bo}{loose:List Str}{Xt:au->Bool}{α:Type}{Yf:au->α}{Ya:World->α}{N M:Nat}{w:World}{os:lU}{Eb:Nat}{ann:Option Value}{sL:mM}{tL:Thread}
  (hz:((c5 w.params).isNs ao,(c5 w.params).objs.size,(c5 w.params).nsMap ao "__annotations__")=(true,Eb,ann))
  (h:(pA hU p w Eb ann M sL tL).map (fun s=>EX p q loose Xt Yf w.params s.abs)=some (true,Bf q loose,Ya w))
  (k:∀ r,topRun hU p w Eb ann M sL.abs tL=some r->topRun hU p w Eb ann N (Df w.params os).abs (topStub p)=some r) :
  (topFrom hU p w N ⟨c5 w.params,kY [],hZ,pk,os⟩).map (fun s=>(openSeen q loose (lT p.main.body) Xt true s,Yf s))=some (Bf q loose,Ya w):=by
 obtain⟨s,e1,e2⟩:=Option.map_eq_some_iff.mp h;have r:=k _ (DX e1);rw [A4] at r;obtain⟨z1,z2,z3⟩:_/\_/\_:=by simpa only [xl] using hz
 obtain⟨l1,l2,l3⟩:_/\_/\_:=by simpa only [xl] using e2
 have t:topFrom hU p w N ⟨c5 w.params,kY [],hZ,pk,os⟩=some s.abs:=by
  unfold topFrom;dsimp only;have g:((kY []:Array GenState).size == 0)=true:=rfl;rw [z1,z2,z3,g,Bool.true_and,r];dsimp only [Option.bind_some];rw [l1]
 rw [t];exact congrArg some (Prod.ext l2 l3)
end K2
end
section
namespace K2
open PySem (Str)
namespace LH
open Enc (enc)
noncomputable def qJ:pb :=
 (k6 (sX (qD (cV JB (a9 1) (KC EB (aQ (a9 0) cq)))) (nq (u6 (cV uH (a9 0) (a9 1)))) oM)
 (nq (u6 (dC (.int 0)))))
noncomputable def qQ(ns:List Int)(k:Int):Int:=ns.getD k.toNat 0
noncomputable def c7:Bn:=fun ds G Q _=>∃ (ns:List Int) (k:Int),ds=[.dB (ns.map D.int),.int k]/\0<=k/\Q (.int (qQ ns k)) G
theorem wO(ds:List D)(G:Gp)(Q:DK)(h:c7 ds G Q fun _ _=>False):qJ (fun _ _=>False) (ends Q) (ig 2 ds) G:=by
 obtain⟨ns,k,rfl,h0,q⟩:=h;unfold qJ;simp only [k6,sX,ig,cF,fh,bE,cb,fW,cM,nq,u6,cV,a9,aJ,aN,ends,mC,oM,dC,rm,KC,aQ,cq,De,DY,eB];split
 ·rename_i h;have h1:k < (ns.map D.int).length:=by simpa using h
  rw [EE _ h0 h1];simp only [List.getElem_map];rw [cO] at h1;have e:qQ ns k=ns[k.toNat]:=by unfold qQ; rw [xn,zm (by lia)]; rfl
  rw [<-e]; exact zb q
 ·rename_i h;have h1:¬ k < (ns.map D.int).length:=by simpa using h
  rw [cO] at h1;have e:qQ ns k=0:=by unfold qQ; rw [xn,Dv (by lia)]; rfl
  rw [<-e]; exact zb q
noncomputable def pD:pb :=
 (nq (u6 (wI (Eu "int" (a9 0)) (C6 (Eu "bool" (a9 0))))))
noncomputable def i8:Bn:=fun ds G Q _=>∃ i:Int,ds=[.int i]/\Q (.bl true) G
theorem ve(ds:List D)(G:Gp)(Q:DK)(h:i8 ds G Q fun _ _=>False):pD (fun _ _=>False) (ends Q) (ig 1 ds) G:=by
 obtain⟨i,rfl,q⟩:=h;unfold pD;simp only [nq,u6,ig,cF,fh,bE,cb,fW,cM,ends,wH,C5,Et,a9,aJ,Ct,eB];simpa using zb q
noncomputable def Fd:List Str:=["NoDrawing","NoText","NoName","NameTaken","NoSpot","TooMany","NoFit","NoMove","NoPrime","NoString","NoBraid","NoLength","NoMark","NoWord","NothingDone"]
noncomputable def Iz:D->Option Str
 | .exc c=>some c
 | .pW c _ _=>some c
 | _=>none
noncomputable def nQ:pb :=
 (k6 (mJ (o1 (aQ (i5 ["NoDrawing","NoText","NoName","NameTaken","NoSpot","TooMany","NoFit","NoMove","NoPrime","NoString","NoBraid","NoLength","NoMark","NoWord","NothingDone","KnotError"] ["NoDrawing"] (a9 0)) (aQ (i5 ["NoDrawing","NoText","NoName","NameTaken","NoSpot","TooMany","NoFit","NoMove","NoPrime","NoString","NoBraid","NoLength","NoMark","NoWord","NothingDone","KnotError"] ["NoText"] (a9 0)) (aQ (i5 ["NoDrawing","NoText","NoName","NameTaken","NoSpot","TooMany","NoFit","NoMove","NoPrime","NoString","NoBraid","NoLength","NoMark","NoWord","NothingDone","KnotError"] ["NoName"] (a9 0)) cq)))) (du 1))
 (k6 (n6 (Es DA kX (a9 1) (aQ (o1 (aQ (i5 ["NoDrawing","NoText","NoName","NameTaken","NoSpot","TooMany","NoFit","NoMove","NoPrime","NoString","NoBraid","NoLength","NoMark","NoWord","NothingDone","KnotError"] ["NameTaken"] (a9 0)) (aQ (i5 ["NoDrawing","NoText","NoName","NameTaken","NoSpot","TooMany","NoFit","NoMove","NoPrime","NoString","NoBraid","NoLength","NoMark","NoWord","NothingDone","KnotError"] ["NoSpot"] (a9 0)) (aQ (i5 ["NoDrawing","NoText","NoName","NameTaken","NoSpot","TooMany","NoFit","NoMove","NoPrime","NoString","NoBraid","NoLength","NoMark","NoWord","NothingDone","KnotError"] ["TooMany"] (a9 0)) cq)))) cq)))
 (k6 (n6 (Es DA kX (a9 1) (aQ (o1 (aQ (i5 ["NoDrawing","NoText","NoName","NameTaken","NoSpot","TooMany","NoFit","NoMove","NoPrime","NoString","NoBraid","NoLength","NoMark","NoWord","NothingDone","KnotError"] ["NoFit"] (a9 0)) (aQ (i5 ["NoDrawing","NoText","NoName","NameTaken","NoSpot","TooMany","NoFit","NoMove","NoPrime","NoString","NoBraid","NoLength","NoMark","NoWord","NothingDone","KnotError"] ["NoMove"] (a9 0)) (aQ (i5 ["NoDrawing","NoText","NoName","NameTaken","NoSpot","TooMany","NoFit","NoMove","NoPrime","NoString","NoBraid","NoLength","NoMark","NoWord","NothingDone","KnotError"] ["NoPrime"] (a9 0)) cq)))) cq)))
 (k6 (n6 (Es DA kX (a9 1) (aQ (o1 (aQ (i5 ["NoDrawing","NoText","NoName","NameTaken","NoSpot","TooMany","NoFit","NoMove","NoPrime","NoString","NoBraid","NoLength","NoMark","NoWord","NothingDone","KnotError"] ["NoString"] (a9 0)) (aQ (i5 ["NoDrawing","NoText","NoName","NameTaken","NoSpot","TooMany","NoFit","NoMove","NoPrime","NoString","NoBraid","NoLength","NoMark","NoWord","NothingDone","KnotError"] ["NoBraid"] (a9 0)) (aQ (i5 ["NoDrawing","NoText","NoName","NameTaken","NoSpot","TooMany","NoFit","NoMove","NoPrime","NoString","NoBraid","NoLength","NoMark","NoWord","NothingDone","KnotError"] ["NoLength"] (a9 0)) cq)))) cq)))
 (k6 (n6 (Es DA kX (a9 1) (aQ (o1 (aQ (i5 ["NoDrawing","NoText","NoName","NameTaken","NoSpot","TooMany","NoFit","NoMove","NoPrime","NoString","NoBraid","NoLength","NoMark","NoWord","NothingDone","KnotError"] ["NoMark"] (a9 0)) (aQ (i5 ["NoDrawing","NoText","NoName","NameTaken","NoSpot","TooMany","NoFit","NoMove","NoPrime","NoString","NoBraid","NoLength","NoMark","NoWord","NothingDone","KnotError"] ["NoWord"] (a9 0)) (aQ (i5 ["NoDrawing","NoText","NoName","NameTaken","NoSpot","TooMany","NoFit","NoMove","NoPrime","NoString","NoBraid","NoLength","NoMark","NoWord","NothingDone","KnotError"] ["NothingDone"] (a9 0)) cq)))) cq)))
 (nq (u6 (a9 1))))))))
theorem qA{i p:Nat}{xs:List D}(ys:List D){t:vc}{E:mr}{K:oa}{τ:i6}{G:Gp}{b:pb}(hi:τ[i]?=some (some (.ref p)))(hg:G p=some (.lst xs))(ht:∀ (G:Gp) (Q:List D->Gp->Prop),Q ys G->t E τ G Q)(hl:xs.length+ys.length<=1000)
  (k:∀ G',(∀ a o,a≠p->G a=some o->G' a=some o)->G' p=some (.lst (xs++ys))->b E K τ G'):k6 (n6 (Es DA kX (a9 i) (aQ (o1 t) cq))) b E K τ G:=by
 simp only [BU,n6,Es,a9,hi,aQ,o1,cq,DV,hg,true_and];refine ht _ _ ⟨by show _<=16777216; lia,fun q hq=>?_⟩;have MJ:q≠p:=fun e=>by rw [e,hg] at hq; cases hq
 simp only [wc,ib MJ.symm,hg,r0,eC];refine⟨by show _<=16777216; lia,k _ (fun a o ha e=>?_) eC⟩;rw [ib ha,ib (fun z=>by rw [z,hq] at e; cases e)]; exact e
theorem n0{all sub:List Str}{E:mr}{r:i6}{d:D}{c:Str}(hd:Iz d=some c)(hc:all.contains c=true)(G:Gp)(Q:DK):i5 all sub (a9 0) E (some d :: r) G Q=Q (.bl (sub.contains c)) G:=by
 unfold i5;simp only [a9,aJ];cases d <;> first | (cases hd; done) | (cases hd; simp only [hc,true_and])
noncomputable def IK:List Str:=["NoDrawing","NoText","NoName","NameTaken","NoSpot","TooMany","NoFit","NoMove","NoPrime","NoString","NoBraid","NoLength","NoMark","NoWord","NothingDone","KnotError"]
noncomputable def ft:Bn:=fun ds G Q _=>∃ d c,ds=[d]/\Iz d=some c/\IK.contains c=true/\Q (.dB ((Fd.map fun x=>[x].contains c).map D.bl)) G
theorem sr(ds:List D)(G:Gp)(Q:DK)(h:ft ds G Q fun _ _=>False):nQ (fun _ _=>False) (ends Q) (ig 2 ds) G:=by
 obtain⟨d,c,rfl,hd,hc,q⟩:=h;unfold nQ;unfold IK at hc;refine lb (fun τ G'=>∃ p,G p=none/\τ=[some d,some (.ref p)]/\G'=mP G p (.lst [.bl ([("NoDrawing" : Str)].contains c),.bl ([("NoText" : Str)].contains c),.bl ([("NoName" : Str)].contains c)])) ?_ ?_
 ·intro N hN;simp only [mJ,o1,aQ,ig,↓cF,↓fh,↓bE,↓cb,c1,↓fW,↓cM,cq,du,↓cw,↓bY,↓n0 hd hc];exact⟨by decide,fun p hp=>hN _ _ ⟨p,hp,rfl,rfl⟩⟩
 rintro _ _ ⟨p,hp,rfl,rfl⟩;refine qA [.bl ([("NameTaken" : Str)].contains c),.bl ([("NoSpot" : Str)].contains c),.bl ([("TooMany" : Str)].contains c)] rfl eC (fun G Q h=>by simp only [aQ,cq,n0 hd hc]; exact h) (cP rfl) fun G1 k1 g1=>?_;refine qA [.bl ([("NoFit" : Str)].contains c),.bl ([("NoMove" : Str)].contains c),.bl ([("NoPrime" : Str)].contains c)] rfl g1 (fun G Q h=>by simp only [aQ,cq,n0 hd hc]; exact h) (cP rfl) fun G2 k2 g2=>?_;refine qA [.bl ([("NoString" : Str)].contains c),.bl ([("NoBraid" : Str)].contains c),.bl ([("NoLength" : Str)].contains c)] rfl g2 (fun G Q h=>by simp only [aQ,cq,n0 hd hc]; exact h) (cP rfl) fun G3 k3 g3=>?_;refine qA [.bl ([("NoMark" : Str)].contains c),.bl ([("NoWord" : Str)].contains c),.bl ([("NothingDone" : Str)].contains c)] rfl g3 (fun G Q h=>by simp only [aQ,cq,n0 hd hc]; exact h) (cP rfl) fun G4 k4 g4=>?_;simp only [nq,u6,a9,↓aN,↓aJ,ends];refine CI (fun a o e=>?_) hp g4 (Bo.same _) q;have ha:a≠p:=fun z=>by rw [z,hp] at e; cases e
 exact k4 a o ha (k3 a o ha (k2 a o ha (k1 a o ha (by rw [ib ha]; exact e))))
noncomputable def cX:dM :=
 (wG (oZ "no drawing: " (yn (a9 1) (oZ ", " (yn (a9 2) CM)))))
noncomputable def dP:dM :=
 (wG (oZ "no such word: line " (yn (a9 1) (oZ ", word " (yn (a9 2) CM)))))
noncomputable def oK:pb :=
 (k6 (mJ (o1 (aQ (C7 "NoDrawing" ["word","place"] cX (aQ (a9 0) (aQ (a9 1) cq))) (aQ (C7 "NoText" ["line","at"] dP (aQ (a9 2) (aQ (a9 3) cq))) (aQ (mI "NoName" (aQ (a9 4) cq)) (aQ (mI "NameTaken" (aQ (a9 4) cq)) (aQ (mI "NoSpot" (aQ (a9 4) cq)) cq)))))) (du 5))
 (k6 (n6 (Es DA kX (a9 5) (aQ (o1 (aQ (mI "TooMany" (aQ (a9 4) cq)) (aQ (mI "NoFit" (aQ (a9 4) cq)) (aQ (mI "NoMove" (aQ (a9 4) cq)) (aQ (mI "NoPrime" (aQ (a9 4) cq)) (aQ (mI "NoString" (aQ (a9 4) cq)) cq)))))) cq)))
 (k6 (n6 (Es DA kX (a9 5) (aQ (o1 (aQ (mI "NoBraid" (aQ (a9 4) cq)) (aQ (mI "NoLength" (aQ (a9 4) cq)) (aQ (mI "NoMark" (aQ (a9 4) cq)) (aQ (mI "NoWord" (aQ (a9 4) cq)) (aQ (mI "NothingDone" (aQ (a9 4) cq)) cq)))))) cq)))
 (nq (u6 (a9 5))))))
noncomputable def pX (w:Str) (p l a:Int):List D:=[.pW "NoDrawing" ["word","place"] [.str w,.int p],.pW "NoText" ["line","at"] [.int l,.int a]]++(Fd.drop 2).map D.exc
noncomputable def kT:Bn:=fun ds G Q _=>∃ (w x:Str) (p l a:Int),ds=[.str w,.int p,.int l,.int a,.str x]/\w.length<=1000/\p.natAbs < 10 ^ 100/\l.natAbs < 10 ^ 100/\a.natAbs < 10 ^ 100/\Q (.dB (pX w p l a)) G
theorem tf(ds:List D)(G:Gp)(Q:DK)(h:kT ds G Q fun _ _=>False):oK (fun _ _=>False) (ends Q) (ig 6 ds) G:=by
 obtain⟨w,x,p,l,a,rfl,hw,hp,hl,ha,q⟩:=h;unfold oK;refine lb (fun τ G'=>∃ r,G r=none/\τ=[some (.str w),some (.int p),some (.int l),some (.int a),some (.str x),some (.ref r)]/\G'=mP G r (.lst ((pX w p l a).take 5))) ?_ ?_
 ·intro N hN;simp only [mJ,o1,aQ,C7,a9,ig,↓cF,↓fh,↓bE,↓cb,c1,↓fW,↓cM,↓aJ,↓aN,cq,mI,du,↓cw,↓bY,↓true_and];refine⟨fun b=>?_,fun b=>?_,by decide,by decide,by decide,by decide,fun r hr=>hN _ _ ⟨r,hr,rfl,rfl⟩⟩
  ·unfold cX;simp only [wG,oZ,yn,a9,↓aN,↓aJ,CM,↓and_true];exact⟨by decide,w,if_pos hw,by decide,FV p,if_pos hp⟩
  ·unfold dP;simp only [wG,oZ,yn,a9,↓aN,↓aJ,CM,↓and_true];exact⟨by decide,FV l,if_pos hl,by decide,FV a,if_pos ha⟩
 rintro _ _ ⟨r,hr,rfl,rfl⟩;refine qA (((pX w p l a).drop 5).take 5) rfl eC (fun G Q h=>by simp only [aQ,cq,mI,a9,aJ,aN]; have e:[D.str x].length<=SZ:=cP rfl; exact⟨e,e,e,e,e,h⟩) (by show 5+5<=1000; decide) fun G1 k1 g1=>?_;refine qA ((pX w p l a).drop 10) rfl g1 (fun G Q h=>by simp only [aQ,cq,mI,a9,aJ,aN]; have e:[D.str x].length<=SZ:=cP rfl; exact⟨e,e,e,e,e,h⟩) (by show 10+5<=1000; decide) fun G2 k2 g2=>?_;simp only [nq,u6,a9,↓aN,↓aJ,ends];refine CI (fun a o e=>?_) hr g2 (Bo.same _) q;have ha:a≠r:=fun z=>by rw [z,hr] at e; cases e
 exact k2 a o ha (k1 a o ha (by rw [ib ha]; exact e))
theorem En(w:Str)(p l a:Int)(k:Nat)(hk:k < 15):∃ d,rn (pX w p l a) (k:Int)=some d/\Iz d=Fd[k]?:=by
  match k,hk with
  | 0,_=>exact⟨_,rfl,rfl⟩
  | 1,_=>exact⟨_,rfl,rfl⟩
  | 2,_=>exact⟨_,rfl,rfl⟩
  | 3,_=>exact⟨_,rfl,rfl⟩
  | 4,_=>exact⟨_,rfl,rfl⟩
  | 5,_=>exact⟨_,rfl,rfl⟩
  | 6,_=>exact⟨_,rfl,rfl⟩
  | 7,_=>exact⟨_,rfl,rfl⟩
  | 8,_=>exact⟨_,rfl,rfl⟩
  | 9,_=>exact⟨_,rfl,rfl⟩
  | 10,_=>exact⟨_,rfl,rfl⟩
  | 11,_=>exact⟨_,rfl,rfl⟩
  | 12,_=>exact⟨_,rfl,rfl⟩
  | 13,_=>exact⟨_,rfl,rfl⟩
  | 14,_=>exact⟨_,rfl,rfl⟩
theorem Ez:∀ k < 15,∃ c,Fd[k]?=some c/\IK.contains c=true/\(Fd.map fun x=>[x].contains c)=(jZ 15).map fun j=>k == j:=by
 have h:∀ k < 15,(match Fd[k]? with
  | some c=>IK.contains c&&((Fd.map fun x=>[x].contains c) == (jZ 15).map fun j=>k == j)
  | none=>false)=true:=by decide +kernel
 intro k hk;have:=h k hk;split at this
 ·rename_i c e;rw [aP,beq_iff_eq] at this;exact⟨c,e,this.1,this.2⟩
 ·cases this
theorem Ef{all sub:List Str}{te:dM}{E:mr}{τ:i6}{G:Gp}{Q:DK}{d:D}{c:Str}(hd:Iz d=some c)(hc:all.contains c=true)(ht:∀ Q:DK,Q d G->te E τ G Q)(q:Q (.bl (sub.contains c)) G):i5 all sub te E τ G Q:=by
 refine ht _ ?_;cases d <;> first | (cases hd; done) | (cases hd; exact⟨hc,q⟩)
theorem y8{all:List Str}{te:dM}{E:mr}{τ:i6}{G:Gp}{Q:DK}{d:D}{c:Str}(hd:Iz d=some c)(hc:all.contains c=true)(ht:∀ Q:DK,Q d G->te E τ G Q)(q:Q (.bl true) G):zf all te E τ G Q:=by
 refine ht _ ?_;cases d <;> first | (cases hd; done) | (cases hd; exact⟨hc,q⟩)
noncomputable def BX:pb :=
 (k6 (mJ (o1 (aQ (dC (.str "strings")) (aQ (dC (.str "name")) (aQ (dC (.str "way")) (aQ (dC (.str "hand")) (aQ (dC (.str "twice")) (aQ (dC (.str "lone")) (aQ (dC (.str "hands")) (aQ (dC (.str "many")) cq))))))))) (du 1))
 (k6 (mJ (cV uH (a9 1) (cV xV (hW c7 (aQ (a9 0) (aQ (dC (.int 0)) cq))) (dC (.int 8)))) (du 2))
 (k6 (mJ (cV xV (hW c7 (aQ (a9 0) (aQ (dC (.int 1)) cq))) (cV xW (cV B0 (dC (.int 10)) (dC (.int 6))) (dC (.int 1)))) (du 3))
 (k6 (mJ (cV xV (hW c7 (aQ (a9 0) (aQ (dC (.int 2)) cq))) (cV xW (cV B0 (dC (.int 10)) (dC (.int 6))) (dC (.int 1)))) (du 4))
 (k6 (mJ (cV xV (hW c7 (aQ (a9 0) (aQ (dC (.int 3)) cq))) (cV xW (cV B0 (dC (.int 10)) (dC (.int 6))) (dC (.int 1)))) (du 5))
 (k6 (mJ (hW kT (aQ (a9 2) (aQ (a9 3) (aQ (a9 4) (aQ (a9 5) (aQ (Gw (a9 2) (C4 (cV xV (hW c7 (aQ (a9 0) (aQ (dC (.int 4)) cq))) (dC (.int 4)))) u5) cq)))))) (du 6))
 (k6 (Gx (wj (dC (.int 15))) (du 7) (k6 (sX (Er (wD (qD (i5 ["NoDrawing","NoText","NoName","NameTaken","NoSpot","TooMany","NoFit","NoMove","NoPrime","NoString","NoBraid","NoLength","NoMark","NoWord","NothingDone","KnotError"] ["NoDrawing","NoText","NoName","NameTaken","NoSpot","TooMany","NoFit","NoMove","NoPrime","NoString","NoBraid","NoLength","NoMark","NoWord","NothingDone","KnotError"] (cV uH (a9 6) (a9 7))))) (wD (qD (zf ["NoDrawing","NoText","NoName","NameTaken","NoSpot","TooMany","NoFit","NoMove","NoPrime","NoString","NoBraid","NoLength","NoMark","NoWord","NothingDone","KnotError"] (cV uH (a9 6) (a9 7)))))) (nq (u6 (dC (.bl false)))) oM)
 (sX (qD (cV (DZ true) (hW ft (aQ (cV uH (a9 6) (a9 7)) cq)) (tS 1 [7] (wj (dC (.int 15))) (du 0) none (cV (DZ false) (a9 1) (a9 0))))) (nq (u6 (dC (.bl false)))) oM)))
 (k6 (sX (Er (qD (cV (DZ true) (nt ["NoDrawing"] "word" (cV uH (a9 6) (dC (.int 0)))) (a9 2))) (Er (qD (cV (DZ true) (nt ["NoDrawing"] "place" (cV uH (a9 6) (dC (.int 0)))) (a9 3))) (wD (qD (hW i8 (aQ (nt ["NoDrawing"] "place" (cV uH (a9 6) (dC (.int 0)))) cq)))))) (nq (u6 (dC (.bl false)))) oM)
 (k6 (sX (Er (qD (cV (DZ true) (nt ["NoText"] "line" (cV uH (a9 6) (dC (.int 1)))) (a9 4))) (Er (qD (cV (DZ true) (nt ["NoText"] "at" (cV uH (a9 6) (dC (.int 1)))) (a9 5))) (wD (qD (hW i8 (aQ (nt ["NoText"] "line" (cV uH (a9 6) (dC (.int 1)))) cq)))))) (nq (u6 (dC (.bl false)))) oM)
 (k6 (mJ (mI "KnotError" (aQ (a9 2) cq)) (du 8))
 (nq (u6 (wI (zf ["NoDrawing","NoText","NoName","NameTaken","NoSpot","TooMany","NoFit","NoMove","NoPrime","NoString","NoBraid","NoLength","NoMark","NoWord","NothingDone","KnotError"] (a9 8)) (cV (DZ false) (hW ft (aQ (a9 8) cq)) (tS 1 [] (wj (dC (.int 15))) (du 0) none (dC (.bl false)))))))))))))))))
noncomputable def W8:List Str:=["strings","name","way","hand","twice","lone","hands","many"]
theorem GF(ds:List D)(G:Gp)(Q:DK)(h:tw ds G Q fun _ _=>False):BX (fun _ _=>False) (ends Q) (ig 9 ds) G:=by
 obtain⟨ns,rfl,hlen,hG,q⟩:=h;unfold BX;generalize hS:D.dB (ns.map D.int)=S;have cell:∀ (k:Int) (G:Gp) (Q:DK),0<=k->Q (.int (qQ ns k)) G->c7 [S,.int k] G Q fun _ _=>False:=fun k G Q h q=>⟨ns,k,by rw [hS],h,q⟩;refine lb (fun τ G'=>∃ p,τ=[some S,some (.ref p),none,none,none,none,none,none,none]/\G' p=some (.lst (W8.map D.str))) ?_ ?_
 ·intro N hN;simp only [mJ,o1,aQ,dC,cq,↓bE,↓cb,du,ig,↓cF,↓fh,c1,↓fW,↓cM,↓cw,↓bY];exact⟨by decide,fun p hp=>hN _ _ ⟨p,rfl,eC⟩⟩
 rintro _ G1 ⟨p,rfl,g1⟩;refine lb (fun τ G'=>G'=G1/\∃ w:Str,w∈W8/\τ=[some S,some (.ref p),some (.str w),none,none,none,none,none,none]) ?_ ?_
 ·intro N hN;simp only [mJ,cV,a9,↓aN,↓aJ,hW,aQ,dC,cq,du,↓cw,↓bY];refine cell 0 _ _ (by decide) ?_;simp only [↓nS,↓yQ,↓g1];refine⟨by decide,?_⟩;obtain⟨k,hk,e⟩:∃ k:Nat,k < 8/\qQ ns 0 % 8=(k:Int):=⟨(qQ ns 0 % 8).toNat,by lia,by lia⟩;have:∀ k:Nat,k < 8->∃ w∈W8,rn (W8.map D.str) (k:Int)=some (.str w):=by
   intro k hk
   match k,hk with
   | 0,_=>exact⟨_,by decide,rfl⟩
   | 1,_=>exact⟨_,by decide,rfl⟩
   | 2,_=>exact⟨_,by decide,rfl⟩
   | 3,_=>exact⟨_,by decide,rfl⟩
   | 4,_=>exact⟨_,by decide,rfl⟩
   | 5,_=>exact⟨_,by decide,rfl⟩
   | 6,_=>exact⟨_,by decide,rfl⟩
   | 7,_=>exact⟨_,by decide,rfl⟩
  obtain⟨w,hw,ew⟩:=this k hk;rw [e,ew];exact hN _ _ ⟨rfl,w,hw,rfl⟩
 rintro _ G2 ⟨rfl,w,hw,rfl⟩;have GQ:w.length<=10:=by
  have:∀ w∈W8,w.length<=10:=by decide
  exact this w hw
 have Ld:w.cps.all (· < 0x110000)=true:=by
  have:∀ w∈W8,w.cps.all (· < 0x110000)=true:=by decide +kernel
  exact this w hw
 have Jv:∀ k:Int,0<=k % (10 ^ 6+1)/\(k % (10 ^ 6+1)).natAbs < 10 ^ 100:=fun k=>by
  have h1:=Int.emod_nonneg k (show (10 ^ 6+1:Int)≠0 by decide);have h2:=Int.emod_lt_of_pos k (show (0:Int) < 10 ^ 6+1 by decide);refine⟨h1,aY (m:=10 ^ 6+1) ?_ (by decide)⟩;lia
 refine lb (fun τ G'=>G'=G2/\∃ x:Int,x.natAbs < 10 ^ 100/\τ=[some S,some (.ref p),some (.str w),some (.int x),none,none,none,none,none]) ?_ ?_
 ·intro N hN;simp only [mJ,cV,hW,aQ,a9,↓aJ,dC,cq,↓rN,↓rO,du,↓cw,↓bY];refine cell 1 _ _ (by decide) ?_;simp only [↓nS];exact⟨by decide,by decide,hN _ _ ⟨rfl,_,(Jv _).2,rfl⟩⟩
 rintro _ G2 ⟨rfl,x1,Mw,rfl⟩;refine lb (fun τ G'=>G'=G2/\∃ x:Int,x.natAbs < 10 ^ 100/\τ=[some S,some (.ref p),some (.str w),some (.int x1),some (.int x),none,none,none,none]) ?_ ?_
 ·intro N hN;simp only [mJ,cV,hW,aQ,a9,↓aJ,dC,cq,↓rN,↓rO,du,↓cw,↓bY];refine cell 2 _ _ (by decide) ?_;simp only [↓nS];exact⟨by decide,by decide,hN _ _ ⟨rfl,_,(Jv _).2,rfl⟩⟩
 rintro _ G2 ⟨rfl,x2,HN,rfl⟩;refine lb (fun τ G'=>G'=G2/\∃ x:Int,x.natAbs < 10 ^ 100/\τ=[some S,some (.ref p),some (.str w),some (.int x1),some (.int x2),some (.int x),none,none,none]) ?_ ?_
 ·intro N hN;simp only [mJ,cV,hW,aQ,a9,↓aJ,dC,cq,↓rN,↓rO,du,↓cw,↓bY];refine cell 3 _ _ (by decide) ?_;simp only [↓nS];exact⟨by decide,by decide,hN _ _ ⟨rfl,_,(Jv _).2,rfl⟩⟩
 rintro _ G2 ⟨rfl,x3,Mu,rfl⟩;refine lb (fun τ G'=>G'=G2/\τ=[some S,some (.ref p),some (.str w),some (.int x1),some (.int x2),some (.int x3),some (.dB (pX w x1 x2 x3)),none,none]) ?_ ?_
 ·intro N hN;simp only [mJ,hW,aQ,a9,↓aN,↓aJ,Gw,↓C3,cV,dC,cq,u5,du,↓cw,↓bY];refine cell 4 _ _ (by decide) ?_;simp only [↓nS,↓x6];refine⟨by decide,b8 GQ (by decide),w,_,x1,x2,x3,rfl,b8 GQ (by decide),Mw,HN,Mu,hN _ _ ⟨rfl,rfl⟩⟩
 rintro _ G2 ⟨rfl,rfl⟩;refine lb (fun τ G'=>EI G2 G'/\∃ a,τ=[some S,some (.ref p),some (.str w),some (.int x1),some (.int x2),some (.int x3),some (.dB (pX w x1 x2 x3)),a,none]) ?_ ?_
 ·intro N hN;simp only [Gx,↓sg,dC,↓ql,ends];refine⟨by decide,by decide,?_⟩;refine Gn (fun pre τ G'=>EI G2 G'/\∃ a,τ=[some S,some (.ref p),some (.str w),some (.int x1),some (.int x2),some (.int x3),some (.dB (pX w x1 x2 x3)),a,none]) ⟨.refl _,_,rfl⟩ (fun _ _ _ _=>trivial) ?_ ?_
  ·rintro pre d post τ G3 N3 e ⟨l3,a,rfl⟩ Na;obtain⟨rfl,hk⟩:=rM e;obtain⟨d,ed,ec⟩:=En w x1 x2 x3 pre.length hk;obtain⟨c,Np,hc,J2⟩:=Ez pre.length hk;rw [Np] at ec;have LA:∀ Q:DK,Q d G3->cV uH (a9 6) (a9 7) (fun _ _=>False) [some S,some (.ref p),some (.str w),some (.int x1),some (.int x2),some (.int x3),some (.dB (pX w x1 x2 x3)),some (.int pre.length),none] G3 Q:=fun Q h=>by
    simp only [cV,a9,↓aN,↓aJ,↓mC,↓ed];exact h
   unfold IK at hc;simp only [du,k6,sX,Er,wD,↓rm,↓cw,↓bY,nq,u6,dC,oM,cV,hW,aQ,a9,↓aN,↓aJ,↓mC,cq,tS,↓sg,↓ql,↓if_true];refine Ef ec hc LA ?_;simp only [↓eB,↓hc,↓cy,↓bj,↓if_false];refine y8 ec hc LA ?_;simp only [↓eB,↓cy,↓bj,↓ed,↓if_false];refine⟨d,c,rfl,ec,hc,?_⟩;simp only [o2,c1,↓cF,↓aN,↓aJ,↓fh,↓fW,↓cM];refine⟨by decide,by decide,by decide,?_⟩;refine zg (fun xX acc τ G'=>G'=G3/\acc=((jZ xX.length).map fun j=>pre.length == j).map D.bl/\∃ a,τ=[a,some (.int pre.length)]) ⟨rfl,rfl,_,rfl⟩ (fun _ _ _ _ _=>trivial) ?_ ?_
   ·rintro xX d2 Hr acc τ G4 N4 e2 ⟨rfl,rfl,b,rfl⟩ Kw;obtain⟨rfl,NU⟩:=rM e2;simp only [du,cV,a9,↓bY,↓aN,↓aJ];refine⟨_,_,.int _,.int _,Kw _ _ _ ⟨rfl,?_,_,rfl⟩⟩;rw [bZ,bE,cb,List.range_succ,qa,qa];congr 1;show [D.bl _]=[D.bl _];congr 2;show ((pre.length:Int) == (xX.length:Int))=(pre.length == xX.length);rw [Bool.eq_iff_iff,beq_iff_eq,beq_iff_eq];lia
   ·rintro acc τ G4 ⟨rfl,rfl,b,rfl⟩;intro r hr;rw [J2];refine⟨_,_,qj (α:=Bool) _ 7 (by decide) _,.ref eC (qj (α:=Bool) _ 7 (by decide) _),?_⟩;have e1:(i9 0 (Int.toNat 15)).length=15:=rfl;rw [e1,show ∀ l:List Bool,ml (.dB (l.map enc)) (.dB (l.map enc))=true from fun l=>(Enc.eqv (α:=List Bool) l l).trans (decide_eq_true rfl)];simp only [↓eB,↓cy,↓if_true,↓bj,↓if_false];exact Na _ _ ⟨fun a o e=>EI.new hr a o (l3 a o e),_,rfl⟩
  ·rintro τ G3 ⟨l3,a,rfl⟩;exact hN _ _ ⟨l3,a,rfl⟩
 rintro _ G3 ⟨l3,a,rfl⟩;refine lb (fun τ G'=>G'=G3/\τ=[some S,some (.ref p),some (.str w),some (.int x1),some (.int x2),some (.int x3),some (.dB (pX w x1 x2 x3)),a,none]) ?_ ?_
 ·intro N hN;have e0:rn (pX w x1 x2 x3) 0=some (.pW "NoDrawing" ["word","place"] [.str w,.int x1]):=rfl;simp only [sX,Er,↓rm,cV,nt,a9,↓aN,↓aJ,dC,↓mC,↓e0,Gs,nq,u6,ends,oM,↓if_true,wD,hW,aQ,cq];refine⟨by decide,.str w,rfl,_,_,.str _ Ld,.str _ Ld,?_⟩;simp only [↓eB,ml,beq_self_eq_true,↓cy,↓if_true,↓bj,↓if_false];refine⟨by decide,.int x1,rfl,_,_,.int _,.int _,?_⟩;simp only [↓eB,ml,beq_self_eq_true,↓cy,↓if_true,↓bj,↓if_false];refine⟨by decide,.int x1,rfl,x1,rfl,?_⟩;simp only [↓eB,↓cy,↓bj,↓if_false];exact hN _ _ ⟨rfl,rfl⟩
 rintro _ G3 ⟨rfl,rfl⟩;refine lb (fun τ G'=>G'=G3/\τ=[some S,some (.ref p),some (.str w),some (.int x1),some (.int x2),some (.int x3),some (.dB (pX w x1 x2 x3)),a,none]) ?_ ?_
 ·intro N hN;have e0:rn (pX w x1 x2 x3) 1=some (.pW "NoText" ["line","at"] [.int x2,.int x3]):=rfl;simp only [sX,Er,↓rm,cV,nt,a9,↓aN,↓aJ,dC,↓mC,↓e0,Gs,nq,u6,ends,oM,↓if_true,wD,hW,aQ,cq];refine⟨by decide,.int x2,rfl,_,_,.int _,.int _,?_⟩;simp only [↓eB,ml,beq_self_eq_true,↓cy,↓if_true,↓bj,↓if_false];refine⟨by decide,.int x3,rfl,_,_,.int _,.int _,?_⟩;simp only [↓eB,ml,beq_self_eq_true,↓cy,↓if_true,↓bj,↓if_false];refine⟨by decide,.int x2,rfl,x2,rfl,?_⟩;simp only [↓eB,↓cy,↓bj,↓if_false];exact hN _ _ ⟨rfl,rfl⟩
 rintro _ G3 ⟨rfl,rfl⟩;refine lb (fun τ G'=>G'=G3/\τ=[some S,some (.ref p),some (.str w),some (.int x1),some (.int x2),some (.int x3),some (.dB (pX w x1 x2 x3)),a,some (.exc "KnotError")]) ?_ ?_
 ·intro N hN;simp only [mJ,mI,aQ,a9,↓aN,↓aJ,cq,↓bE,↓cb,du,↓cw,↓bY];exact⟨by decide,hN _ _ ⟨rfl,rfl⟩⟩
 rintro _ G3 ⟨rfl,rfl⟩;simp only [nq,u6,↓wH,cV,hW,aQ,a9,↓aN,↓aJ,cq,tS,↓sg,dC,↓ql,ends];refine y8 (d:=.exc "KnotError") (c:="KnotError") rfl (by decide) (fun Q h=>by simp only [a9,↓aN,↓aJ]; exact h) ?_;simp only [↓eB,↓if_true];refine⟨.exc "KnotError","KnotError",rfl,rfl,by decide,?_⟩;simp only [o2,c1,↓fh,↓fW,↓cM];refine⟨by decide,by decide,by decide,?_⟩;refine zg (fun xX acc τ G'=>G'=G3/\acc=((jZ xX.length).map fun j=>false).map D.bl/\∃ a,τ=[a]) ⟨rfl,rfl,_,rfl⟩ (fun _ _ _ _ _=>trivial) ?_ ?_
 ·rintro xX d2 Hr acc τ G4 N4 e2 ⟨rfl,rfl,b,rfl⟩ Kw;simp only [du,dC,↓bY];refine Kw _ _ _ ⟨rfl,?_,_,rfl⟩;rw [bZ,bE,cb,List.range_succ,qa,qa];rfl
 ·rintro acc τ G4 ⟨rfl,rfl,b,rfl⟩;intro r hr;refine⟨_,_,qj (α:=Bool) _ 7 (by decide) _,.ref eC (qj (α:=Bool) _ 7 (by decide) _),?_⟩;have e1:(Fd.map fun x=>[x].contains ("KnotError" : Str))=(jZ (i9 0 (Int.toNat 15)).length).map fun _=>false:=by decide +kernel
  rw [e1,show ∀ l:List Bool,ml (.dB (l.map enc)) (.dB (l.map enc))=true from fun l=>(Enc.eqv (α:=List Bool) l l).trans (decide_eq_true rfl)];simp only [↓bj,↓cy,↓if_false];exact zb (q _)
end LH
end K2
end
namespace Fin
open PySem PySem.Spec PyProof.Rows L2 K2
open K2.LH
noncomputable def top(i:Nat):Stmt:=PySem.Challenge.pw_knotwise_k06_refusals_made.main.body.getD i (.Pass ⟨0,0,0,0⟩)
noncomputable def Ci(i j:Nat):Stmt:=match top i with | .ClassDef _ _ _ b _ _ _ _ _ _ _=>b.getD j (.Pass ⟨0,0,0,0⟩) | s=>s
section
open PySem.W PySem.Calls
noncomputable def hC (n:Str) (t:Nat) (l:List Value):Obj:=⟨.type "code",none,.fields (.str n t :: .str n (t+1) :: .str "/claim/cut.py" (t+2) :: l).toArray,#[]⟩
noncomputable def hI(n:Int):Value:=.int n 0
noncomputable def hR(n:Nat):Value:=.ref n
noncomputable def hN:Value:=.none
noncomputable def hT:Value:=.bool true
noncomputable def hS (n:Nat):Value:=.str "/claim/cut.py" n
noncomputable def hD(n:Str)(t:Nat)(l a:Int)(r:Nat)(x y z:Value)(u:Nat):Obj:=hC n t [hI l,hI a,hI 0,hI 0,hI 3,hR r,hT,hI 181,hR (r+1),hN,x,y,z,hI (u - 1),hI l,hS u]
noncomputable abbrev hF (i:Nat) (n:Str) (m c:Value):Obj:=⟨.type "function",none,.func (fZ n n (ic (top i)) (dw (top i)) (bw (top i)) .none .none .none m none c .none),#[]⟩
noncomputable abbrev hM (i j:Nat) (n q:Str) (m c:Value):Obj:=⟨.type "function",none,.func (fZ n q (ic (Ci i j)) (dw (Ci i j)) (bw (Ci i j)) .none .none .none m none c .none),#[]⟩
noncomputable abbrev hE(P:mx)(s:Str)(t:Nat)(v:Value):DictEntry:=⟨PyData.keyHash P s,.str s t,v⟩
noncomputable def hQ:bo:=PySem.W.view PySem.Challenge.pw_knotwise_k06_refusals_made [1,2,3,4,5,6,7,8,9,10,11,12,13,14,15,16,18,19,20,21,22]
noncomputable def hK(P:mx):af:=(nat_lit 2,⟨.none,none,(.dict #[] 0),#[]⟩) ::
(nat_lit 3,⟨(.type "dict"),none,(.dict #[hE P "__name__" 165 (.str "law_knotwise_k06_refusals_made" 469),hE P "__doc__" 166 .none,hE P "__package__" 167 .none,hE P "__loader__" 168 (.builtin "__main__.__loader__#opaque"),hE P "__spec__" 169 .none,hE P "__annotations__" 170 (.ref 6),hE P "__builtins__" 171 (.ref 4),hE P "__file__" 173 (.str "/claim/cut.py" 172),hE P "__cached__" 174 .none,hE P "KnotError" 206 (.ref 24),hE P "NoDrawing" 233 (.ref 44),hE P "NoText" 260 (.ref 63),hE P "NoName" 276 (.ref 75),hE P "NameTaken" 292 (.ref 87),hE P "NoSpot" 308 (.ref 99),hE P "TooMany" 324 (.ref 111),hE P "NoFit" 340 (.ref 123),hE P "NoMove" 356 (.ref 135),hE P "NoPrime" 372 (.ref 147),hE P "NoString" 388 (.ref 159),hE P "NoBraid" 404 (.ref 171),hE P "NoLength" 420 (.ref 183),hE P "NoMark" 436 (.ref 195),hE P "NoWord" 452 (.ref 207),hE P "NothingDone" 468 (.ref 219),hE P "_law_cell" 478 (.ref 228),hE P "_law_whole" 485 (.ref 235),hE P "_law_classes" 493 (.ref 242),hE P "_law_errors" 505 (.ref 249),hE P "law" 511 (.ref 254)] 30),#[]⟩) ::
(nat_lit 6,⟨(.type "dict"),none,(.dict #[] 0),#[]⟩) ::
(nat_lit 15,⟨(.type "tuple"),none,(.seq #[(.type "ValueError")] 0),#[]⟩) ::
(nat_lit 22,⟨(.type "tuple"),none,(.seq #[] 0),#[]⟩) ::
(nat_lit 23,⟨(.type "dict"),none,(.dict #[hE P "__module__" 196 (.str "knotwise.errors" 187),hE P "__firstlineno__" 200 (.int 2 199),hE P "__static_attributes__" 201 (.ref 22),hE P "__weakref__" 203 (.ref 25),hE P "__doc__" 204 .none] 3),#[]⟩) ::
(nat_lit 24,⟨(.type "type"),none,(.cls ⟨"KnotError",[(.type "ValueError")],[(.ref 24),(.type "ValueError"),(.type "Exception"),(.type "BaseException"),(.type "object")],23,"KnotError",.true,[],[(.ref 44),(.ref 63),(.ref 75),(.ref 87),(.ref 99),(.ref 111),(.ref 123),(.ref 135),(.ref 147),(.ref 159),(.ref 171),(.ref 183),(.ref 195),(.ref 207),(.ref 219)],.false,none,.false⟩),#[(some (.ref 15)),none,(some (.str "KnotError" 189)),(some (.str "KnotError" 197)),(some (.builtin "ValueError.__new__")),(some (.bool .true))]⟩) ::
(nat_lit 25,⟨(.type "getset_descriptor"),none,(.fields #[(.str "__weakref__" 202),(.ref 24),(.builtin "ExceptionGroup.__weakref__"),.none]),#[]⟩) ::
(nat_lit 28,⟨(.type "tuple"),none,(.seq #[(.ref 24)] 0),#[]⟩) ::
(nat_lit 40,⟨(.type "code"),none,(.fields #[(.str "__init__" 219),(.str "NoDrawing.__init__" 220),(.str "/claim/cut.py" 221),(.int 6 0),(.int 3 0),(.int 0 0),(.int 0 0),(.int 3 0),(.ref 35),(.bool .true),(.int 181 0),(.ref 36),.none,(.ref 37),(.ref 38),(.ref 39),(.int 225 0),(.int 6 0),(.str "/claim/cut.py" 226)]),#[]⟩) ::
(nat_lit 41,hM 2 0 "__init__" "NoDrawing.__init__" (.str "knotwise.errors" 187) (.ref 40)) ::
(nat_lit 42,⟨(.type "tuple"),none,(.seq #[(.str "place" 228),(.str "word" 229)] 0),#[]⟩) ::
(nat_lit 43,⟨(.type "dict"),none,(.dict #[hE P "__module__" 214 (.str "knotwise.errors" 187),hE P "__firstlineno__" 218 (.int 4 217),hE P "__init__" 227 (.ref 41),hE P "__static_attributes__" 230 (.ref 42),hE P "__doc__" 231 .none] 2),#[]⟩) ::
(nat_lit 44,⟨(.type "type"),none,(.cls ⟨"NoDrawing",[(.ref 24)],[(.ref 44),(.ref 24),(.type "ValueError"),(.type "Exception"),(.type "BaseException"),(.type "object")],43,"NoDrawing",.true,[],[],.false,none,.false⟩),#[(some (.ref 28)),none,(some (.str "NoDrawing" 207)),(some (.str "NoDrawing" 215)),(some (.builtin "ValueError.__new__")),(some (.bool .true))]⟩) ::
(nat_lit 47,⟨(.type "tuple"),none,(.seq #[(.ref 24)] 0),#[]⟩) ::
(nat_lit 59,⟨(.type "code"),none,(.fields #[(.str "__init__" 246),(.str "NoText.__init__" 247),(.str "/claim/cut.py" 248),(.int 12 0),(.int 3 0),(.int 0 0),(.int 0 0),(.int 3 0),(.ref 54),(.bool .true),(.int 181 0),(.ref 55),.none,(.ref 56),(.ref 57),(.ref 58),(.int 252 0),(.int 12 0),(.str "/claim/cut.py" 253)]),#[]⟩) ::
(nat_lit 60,hM 3 0 "__init__" "NoText.__init__" (.str "knotwise.errors" 187) (.ref 59)) ::
(nat_lit 61,⟨(.type "tuple"),none,(.seq #[(.str "at" 255),(.str "line" 256)] 0),#[]⟩) ::
(nat_lit 62,⟨(.type "dict"),none,(.dict #[hE P "__module__" 241 (.str "knotwise.errors" 187),hE P "__firstlineno__" 245 (.int 10 244),hE P "__init__" 254 (.ref 60),hE P "__static_attributes__" 257 (.ref 61),hE P "__doc__" 258 .none] 2),#[]⟩) ::
(nat_lit 63,⟨(.type "type"),none,(.cls ⟨"NoText",[(.ref 24)],[(.ref 63),(.ref 24),(.type "ValueError"),(.type "Exception"),(.type "BaseException"),(.type "object")],62,"NoText",.true,[],[],.false,none,.false⟩),#[(some (.ref 47)),none,(some (.str "NoText" 234)),(some (.str "NoText" 242)),(some (.builtin "ValueError.__new__")),(some (.bool .true))]⟩) ::
(nat_lit 66,⟨(.type "tuple"),none,(.seq #[(.ref 24)] 0),#[]⟩) ::
(nat_lit 73,⟨(.type "tuple"),none,(.seq #[] 0),#[]⟩) ::
(nat_lit 74,⟨(.type "dict"),none,(.dict #[hE P "__module__" 268 (.str "knotwise.errors" 187),hE P "__firstlineno__" 272 (.int 16 271),hE P "__static_attributes__" 273 (.ref 73),hE P "__doc__" 274 .none] 2),#[]⟩) ::
(nat_lit 75,⟨(.type "type"),none,(.cls ⟨"NoName",[(.ref 24)],[(.ref 75),(.ref 24),(.type "ValueError"),(.type "Exception"),(.type "BaseException"),(.type "object")],74,"NoName",.true,[],[],.false,none,.false⟩),#[(some (.ref 66)),none,(some (.str "NoName" 261)),(some (.str "NoName" 269)),(some (.builtin "ValueError.__new__")),(some (.bool .true))]⟩) ::
(nat_lit 78,⟨(.type "tuple"),none,(.seq #[(.ref 24)] 0),#[]⟩) ::
(nat_lit 85,⟨(.type "tuple"),none,(.seq #[] 0),#[]⟩) ::
(nat_lit 86,⟨(.type "dict"),none,(.dict #[hE P "__module__" 284 (.str "knotwise.errors" 187),hE P "__firstlineno__" 288 (.int 18 287),hE P "__static_attributes__" 289 (.ref 85),hE P "__doc__" 290 .none] 2),#[]⟩) ::
(nat_lit 87,⟨(.type "type"),none,(.cls ⟨"NameTaken",[(.ref 24)],[(.ref 87),(.ref 24),(.type "ValueError"),(.type "Exception"),(.type "BaseException"),(.type "object")],86,"NameTaken",.true,[],[],.false,none,.false⟩),#[(some (.ref 78)),none,(some (.str "NameTaken" 277)),(some (.str "NameTaken" 285)),(some (.builtin "ValueError.__new__")),(some (.bool .true))]⟩) ::
(nat_lit 90,⟨(.type "tuple"),none,(.seq #[(.ref 24)] 0),#[]⟩) ::
(nat_lit 97,⟨(.type "tuple"),none,(.seq #[] 0),#[]⟩) ::
(nat_lit 98,⟨(.type "dict"),none,(.dict #[hE P "__module__" 300 (.str "knotwise.errors" 187),hE P "__firstlineno__" 304 (.int 20 303),hE P "__static_attributes__" 305 (.ref 97),hE P "__doc__" 306 .none] 2),#[]⟩) ::
(nat_lit 99,⟨(.type "type"),none,(.cls ⟨"NoSpot",[(.ref 24)],[(.ref 99),(.ref 24),(.type "ValueError"),(.type "Exception"),(.type "BaseException"),(.type "object")],98,"NoSpot",.true,[],[],.false,none,.false⟩),#[(some (.ref 90)),none,(some (.str "NoSpot" 293)),(some (.str "NoSpot" 301)),(some (.builtin "ValueError.__new__")),(some (.bool .true))]⟩) ::
(nat_lit 102,⟨(.type "tuple"),none,(.seq #[(.ref 24)] 0),#[]⟩) ::
(nat_lit 109,⟨(.type "tuple"),none,(.seq #[] 0),#[]⟩) ::
(nat_lit 110,⟨(.type "dict"),none,(.dict #[hE P "__module__" 316 (.str "knotwise.errors" 187),hE P "__firstlineno__" 320 (.int 22 319),hE P "__static_attributes__" 321 (.ref 109),hE P "__doc__" 322 .none] 2),#[]⟩) ::
(nat_lit 111,⟨(.type "type"),none,(.cls ⟨"TooMany",[(.ref 24)],[(.ref 111),(.ref 24),(.type "ValueError"),(.type "Exception"),(.type "BaseException"),(.type "object")],110,"TooMany",.true,[],[],.false,none,.false⟩),#[(some (.ref 102)),none,(some (.str "TooMany" 309)),(some (.str "TooMany" 317)),(some (.builtin "ValueError.__new__")),(some (.bool .true))]⟩) ::
(nat_lit 114,⟨(.type "tuple"),none,(.seq #[(.ref 24)] 0),#[]⟩) ::
(nat_lit 121,⟨(.type "tuple"),none,(.seq #[] 0),#[]⟩) ::
(nat_lit 122,⟨(.type "dict"),none,(.dict #[hE P "__module__" 332 (.str "knotwise.errors" 187),hE P "__firstlineno__" 336 (.int 24 335),hE P "__static_attributes__" 337 (.ref 121),hE P "__doc__" 338 .none] 2),#[]⟩) ::
(nat_lit 123,⟨(.type "type"),none,(.cls ⟨"NoFit",[(.ref 24)],[(.ref 123),(.ref 24),(.type "ValueError"),(.type "Exception"),(.type "BaseException"),(.type "object")],122,"NoFit",.true,[],[],.false,none,.false⟩),#[(some (.ref 114)),none,(some (.str "NoFit" 325)),(some (.str "NoFit" 333)),(some (.builtin "ValueError.__new__")),(some (.bool .true))]⟩) ::
(nat_lit 126,⟨(.type "tuple"),none,(.seq #[(.ref 24)] 0),#[]⟩) ::
(nat_lit 133,⟨(.type "tuple"),none,(.seq #[] 0),#[]⟩) ::
(nat_lit 134,⟨(.type "dict"),none,(.dict #[hE P "__module__" 348 (.str "knotwise.errors" 187),hE P "__firstlineno__" 352 (.int 26 351),hE P "__static_attributes__" 353 (.ref 133),hE P "__doc__" 354 .none] 2),#[]⟩) ::
(nat_lit 135,⟨(.type "type"),none,(.cls ⟨"NoMove",[(.ref 24)],[(.ref 135),(.ref 24),(.type "ValueError"),(.type "Exception"),(.type "BaseException"),(.type "object")],134,"NoMove",.true,[],[],.false,none,.false⟩),#[(some (.ref 126)),none,(some (.str "NoMove" 341)),(some (.str "NoMove" 349)),(some (.builtin "ValueError.__new__")),(some (.bool .true))]⟩) ::
(nat_lit 138,⟨(.type "tuple"),none,(.seq #[(.ref 24)] 0),#[]⟩) ::
(nat_lit 145,⟨(.type "tuple"),none,(.seq #[] 0),#[]⟩) ::
(nat_lit 146,⟨(.type "dict"),none,(.dict #[hE P "__module__" 364 (.str "knotwise.errors" 187),hE P "__firstlineno__" 368 (.int 28 367),hE P "__static_attributes__" 369 (.ref 145),hE P "__doc__" 370 .none] 2),#[]⟩) ::
(nat_lit 147,⟨(.type "type"),none,(.cls ⟨"NoPrime",[(.ref 24)],[(.ref 147),(.ref 24),(.type "ValueError"),(.type "Exception"),(.type "BaseException"),(.type "object")],146,"NoPrime",.true,[],[],.false,none,.false⟩),#[(some (.ref 138)),none,(some (.str "NoPrime" 357)),(some (.str "NoPrime" 365)),(some (.builtin "ValueError.__new__")),(some (.bool .true))]⟩) ::
(nat_lit 150,⟨(.type "tuple"),none,(.seq #[(.ref 24)] 0),#[]⟩) ::
(nat_lit 157,⟨(.type "tuple"),none,(.seq #[] 0),#[]⟩) ::
(nat_lit 158,⟨(.type "dict"),none,(.dict #[hE P "__module__" 380 (.str "knotwise.errors" 187),hE P "__firstlineno__" 384 (.int 30 383),hE P "__static_attributes__" 385 (.ref 157),hE P "__doc__" 386 .none] 2),#[]⟩) ::
(nat_lit 159,⟨(.type "type"),none,(.cls ⟨"NoString",[(.ref 24)],[(.ref 159),(.ref 24),(.type "ValueError"),(.type "Exception"),(.type "BaseException"),(.type "object")],158,"NoString",.true,[],[],.false,none,.false⟩),#[(some (.ref 150)),none,(some (.str "NoString" 373)),(some (.str "NoString" 381)),(some (.builtin "ValueError.__new__")),(some (.bool .true))]⟩) ::
(nat_lit 162,⟨(.type "tuple"),none,(.seq #[(.ref 24)] 0),#[]⟩) ::
(nat_lit 169,⟨(.type "tuple"),none,(.seq #[] 0),#[]⟩) ::
(nat_lit 170,⟨(.type "dict"),none,(.dict #[hE P "__module__" 396 (.str "knotwise.errors" 187),hE P "__firstlineno__" 400 (.int 32 399),hE P "__static_attributes__" 401 (.ref 169),hE P "__doc__" 402 .none] 2),#[]⟩) ::
(nat_lit 171,⟨(.type "type"),none,(.cls ⟨"NoBraid",[(.ref 24)],[(.ref 171),(.ref 24),(.type "ValueError"),(.type "Exception"),(.type "BaseException"),(.type "object")],170,"NoBraid",.true,[],[],.false,none,.false⟩),#[(some (.ref 162)),none,(some (.str "NoBraid" 389)),(some (.str "NoBraid" 397)),(some (.builtin "ValueError.__new__")),(some (.bool .true))]⟩) ::
(nat_lit 174,⟨(.type "tuple"),none,(.seq #[(.ref 24)] 0),#[]⟩) ::
(nat_lit 181,⟨(.type "tuple"),none,(.seq #[] 0),#[]⟩) ::
(nat_lit 182,⟨(.type "dict"),none,(.dict #[hE P "__module__" 412 (.str "knotwise.errors" 187),hE P "__firstlineno__" 416 (.int 34 415),hE P "__static_attributes__" 417 (.ref 181),hE P "__doc__" 418 .none] 2),#[]⟩) ::
(nat_lit 183,⟨(.type "type"),none,(.cls ⟨"NoLength",[(.ref 24)],[(.ref 183),(.ref 24),(.type "ValueError"),(.type "Exception"),(.type "BaseException"),(.type "object")],182,"NoLength",.true,[],[],.false,none,.false⟩),#[(some (.ref 174)),none,(some (.str "NoLength" 405)),(some (.str "NoLength" 413)),(some (.builtin "ValueError.__new__")),(some (.bool .true))]⟩) ::
(nat_lit 186,⟨(.type "tuple"),none,(.seq #[(.ref 24)] 0),#[]⟩) ::
(nat_lit 193,⟨(.type "tuple"),none,(.seq #[] 0),#[]⟩) ::
(nat_lit 194,⟨(.type "dict"),none,(.dict #[hE P "__module__" 428 (.str "knotwise.errors" 187),hE P "__firstlineno__" 432 (.int 36 431),hE P "__static_attributes__" 433 (.ref 193),hE P "__doc__" 434 .none] 2),#[]⟩) ::
(nat_lit 195,⟨(.type "type"),none,(.cls ⟨"NoMark",[(.ref 24)],[(.ref 195),(.ref 24),(.type "ValueError"),(.type "Exception"),(.type "BaseException"),(.type "object")],194,"NoMark",.true,[],[],.false,none,.false⟩),#[(some (.ref 186)),none,(some (.str "NoMark" 421)),(some (.str "NoMark" 429)),(some (.builtin "ValueError.__new__")),(some (.bool .true))]⟩) ::
(nat_lit 198,⟨(.type "tuple"),none,(.seq #[(.ref 24)] 0),#[]⟩) ::
(nat_lit 205,⟨(.type "tuple"),none,(.seq #[] 0),#[]⟩) ::
(nat_lit 206,⟨(.type "dict"),none,(.dict #[hE P "__module__" 444 (.str "knotwise.errors" 187),hE P "__firstlineno__" 448 (.int 38 447),hE P "__static_attributes__" 449 (.ref 205),hE P "__doc__" 450 .none] 2),#[]⟩) ::
(nat_lit 207,⟨(.type "type"),none,(.cls ⟨"NoWord",[(.ref 24)],[(.ref 207),(.ref 24),(.type "ValueError"),(.type "Exception"),(.type "BaseException"),(.type "object")],206,"NoWord",.true,[],[],.false,none,.false⟩),#[(some (.ref 198)),none,(some (.str "NoWord" 437)),(some (.str "NoWord" 445)),(some (.builtin "ValueError.__new__")),(some (.bool .true))]⟩) ::
(nat_lit 210,⟨(.type "tuple"),none,(.seq #[(.ref 24)] 0),#[]⟩) ::
(nat_lit 217,⟨(.type "tuple"),none,(.seq #[] 0),#[]⟩) ::
(nat_lit 218,⟨(.type "dict"),none,(.dict #[hE P "__module__" 460 (.str "knotwise.errors" 187),hE P "__firstlineno__" 464 (.int 40 463),hE P "__static_attributes__" 465 (.ref 217),hE P "__doc__" 466 .none] 2),#[]⟩) ::
(nat_lit 219,⟨(.type "type"),none,(.cls ⟨"NothingDone",[(.ref 24)],[(.ref 219),(.ref 24),(.type "ValueError"),(.type "Exception"),(.type "BaseException"),(.type "object")],218,"NothingDone",.true,[],[],.false,none,.false⟩),#[(some (.ref 210)),none,(some (.str "NothingDone" 453)),(some (.str "NothingDone" 461)),(some (.builtin "ValueError.__new__")),(some (.bool .true))]⟩) ::
(nat_lit 227,hD "_law_cell" 471 43 2 222 (hR 224) (hR 225) (hR 226) 477) ::
(nat_lit 228,hF 18 "_law_cell" (.str "law_knotwise_k06_refusals_made" 469) (.ref 227)) ::
(nat_lit 234,hD "_law_whole" 479 47 1 229 (hR 231) (hR 232) (hR 233) 484) ::
(nat_lit 235,hF 19 "_law_whole" (.str "law_knotwise_k06_refusals_made" 469) (.ref 234)) ::
(nat_lit 241,hD "_law_classes" 486 49 1 236 (hR 238) (hR 239) (hR 240) 492) ::
(nat_lit 242,hF 20 "_law_classes" (.str "law_knotwise_k06_refusals_made" 469) (.ref 241)) ::
(nat_lit 248,hD "_law_errors" 494 56 5 243 (hR 245) (hR 246) (hR 247) 504) ::
(nat_lit 249,hF 21 "_law_errors" (.str "law_knotwise_k06_refusals_made" 469) (.ref 248)) ::
(nat_lit 253,hD "law" 506 61 1 250 hN hN (hR 252) 510) ::
(nat_lit 254,hF 22 "law" (.str "law_knotwise_k06_refusals_made" 469) (.ref 253)) :: []
noncomputable def hA:List Addr:=[2,3,6,15,22,23,24,25,28,40,41,42,43,44,47,59,60,61,62,63,66,73,74,75,78,85,86,87,90,97,98,99,102,109,110,111,114,121,122,123,126,133,134,135,138,145,146,147,150,157,158,159,162,169,170,171,174,181,182,183,186,193,194,195,198,205,206,207,210,217,218,219,227,228,234,235,241,242,248,249,253,254]
noncomputable abbrev hG(st:Stmt)(n q:Str)(g b:Addr):Obj:=⟨.none,none,.func ⟨n,q,ic st,.stmts (dw st),bw st,g,[],.none,.none,.none,.none,none,.none,.none,b⟩,#[]⟩
noncomputable def cE:Env:={ scope:=PySem.Challenge.rw_knotwise_k06_refusals_made.row.prog.main.scope,locals:=mainNs,globals:=mainNs,cells:=[],code:=(.ref 13),frame:=some 14 }
noncomputable def cB:List Stmt:=behindTheImports PySem.Challenge.rw_knotwise_k06_refusals_made.row.prog
noncomputable def cC:Code:=.body cB cE
noncomputable def cQ:Pos:=⟨0,0,0,0⟩
noncomputable def Jj(P:mx)(t:List Obj):List Obj:=boot_o_4 P ::
boot_o_5 P ::
boot_o_6 P ::
boot_o_7 P ::
boot_o_8 P ::
boot_o_9 P ::
boot_o_10 P ::
⟨(.type "tuple"),none,(.seq #[] 0),#[]⟩ :: t
noncomputable def Ji (P:mx) (t:List Obj):List Obj:=hC "<module>" 182 [hI 1,hI 0,hI 0,hI 0,hI 0,hR 11,(.bool .false),hI 181,hR 12,hN,hN,hN,hN,hI 185,hI 1,hS 186] ::
⟨(.type "frame"),none,.plain,#[(some (.ref 13)),(some (.ref 3)),(some (.ref 3)),none,(some (.str "__main__" 164)),none,(some (.ref 0))]⟩ :: t
noncomputable def Lu (P:mx) (t:List Obj):List Obj:=⟨(.type "tuple"),none,(.seq #[(.type "ValueError")] 0),#[]⟩ ::
⟨(.type "builtin_function_or_method"),none,(.fields #[(.builtin "type.__prepare__"),(.type "type")]),#[]⟩ ::
⟨(.type "dict"),none,(.dict #[hE P "__module__" 196 (.str "knotwise.errors" 187),hE P "__qualname__" 198 (.str "KnotError" 197),hE P "__firstlineno__" 200 (.int 2 199),hE P "__static_attributes__" 201 (.ref 22)] 4),#[]⟩ ::
⟨(.type "tuple"),none,(.seq #[] 0),#[]⟩ ::
⟨.none,none,(.fields #[]),#[]⟩ ::
hC "KnotError" 191 [hI 2,hI 0,hI 0,hI 0,hI 0,hR 18,(.bool .false),hI 181,hR 19,hN,hN,hN,hN,hI 194,hI 2,hS 195] ::
⟨(.type "frame"),none,.plain,#[(some (.ref 20)),(some (.ref 3)),(some (.ref 17)),none,(some (.str "knotwise.errors" 187)),none,(some (.ref 0))]⟩ ::
⟨(.type "tuple"),none,(.seq #[] 0),#[]⟩ ::
⟨(.type "dict"),none,(.dict #[hE P "__module__" 196 (.str "knotwise.errors" 187),hE P "__firstlineno__" 200 (.int 2 199),hE P "__static_attributes__" 201 (.ref 22),hE P "__weakref__" 203 (.ref 25),hE P "__doc__" 204 .none] 3),#[]⟩ :: t
noncomputable def Ls (P:mx) (t:List Obj):List Obj:=⟨(.type "getset_descriptor"),none,(.fields #[(.str "__weakref__" 202),(.ref 24),(.builtin "ExceptionGroup.__weakref__"),.none]),#[]⟩ ::
⟨(.type "super"),none,(.fields #[(.ref 24),(.ref 24),(.ref 24)]),#[]⟩ ::
⟨(.type "builtin_function_or_method"),none,(.fields #[(.builtin "object.__init_subclass__"),(.ref 24)]),#[]⟩ ::
⟨(.type "tuple"),none,(.seq #[(.ref 24)] 0),#[]⟩ ::
⟨(.type "builtin_function_or_method"),none,(.fields #[(.builtin "type.__prepare__"),(.type "type")]),#[]⟩ ::
⟨(.type "dict"),none,(.dict #[hE P "__module__" 214 (.str "knotwise.errors" 187),hE P "__qualname__" 216 (.str "NoDrawing" 215),hE P "__firstlineno__" 218 (.int 4 217),hE P "__init__" 227 (.ref 41),hE P "__static_attributes__" 230 (.ref 42)] 5),#[]⟩ ::
⟨(.type "tuple"),none,(.seq #[] 0),#[]⟩ ::
⟨.none,none,(.fields #[(.int 6 0),(.int 4 0),(.ref 40)]),#[]⟩ ::
hC "NoDrawing" 209 [hI 4,hI 0,hI 0,hI 0,hI 0,hR 31,(.bool .false),hI 181,hR 32,hN,hN,hN,hN,hI 212,hI 4,hS 213] ::
⟨(.type "frame"),none,.plain,#[(some (.ref 33)),(some (.ref 3)),(some (.ref 30)),none,(some (.str "knotwise.errors" 187)),none,(some (.ref 0))]⟩ ::
⟨(.type "tuple"),none,(.seq #[] 0),#[]⟩ ::
⟨.none,none,(.fields #[]),#[]⟩ ::
⟨(.type "tuple"),none,(.seq #[(.str "self" 222),(.str "word" 223),(.str "place" 224)] 0),#[]⟩ ::
⟨(.type "tuple"),none,(.seq #[] 0),#[]⟩ ::
hG (Ci 2 0) "__init__" "NoDrawing.__init__" 0 0 ::
⟨(.type "code"),none,(.fields #[(.str "__init__" 219),(.str "NoDrawing.__init__" 220),(.str "/claim/cut.py" 221),(.int 6 0),(.int 3 0),(.int 0 0),(.int 0 0),(.int 3 0),(.ref 35),(.bool .true),(.int 181 0),(.ref 36),.none,(.ref 37),(.ref 38),(.ref 39),(.int 225 0),(.int 6 0),(.str "/claim/cut.py" 226)]),#[]⟩ ::
hM 2 0 "__init__" "NoDrawing.__init__" (.str "knotwise.errors" 187) (.ref 40) ::
⟨(.type "tuple"),none,(.seq #[(.str "place" 228),(.str "word" 229)] 0),#[]⟩ ::
⟨(.type "dict"),none,(.dict #[hE P "__module__" 214 (.str "knotwise.errors" 187),hE P "__firstlineno__" 218 (.int 4 217),hE P "__init__" 227 (.ref 41),hE P "__static_attributes__" 230 (.ref 42),hE P "__doc__" 231 .none] 2),#[]⟩ ::
⟨(.type "type"),none,(.cls ⟨"NoDrawing",[(.ref 24)],[(.ref 44),(.ref 24),(.type "ValueError"),(.type "Exception"),(.type "BaseException"),(.type "object")],43,"NoDrawing",.true,[],[],.false,none,.false⟩),#[(some (.ref 28)),none,(some (.str "NoDrawing" 207)),(some (.str "NoDrawing" 215)),(some (.builtin "ValueError.__new__")),(some (.bool .true))]⟩ ::
⟨(.type "super"),none,(.fields #[(.ref 44),(.ref 44),(.ref 44)]),#[]⟩ ::
⟨(.type "builtin_function_or_method"),none,(.fields #[(.builtin "object.__init_subclass__"),(.ref 44)]),#[]⟩ ::
⟨(.type "tuple"),none,(.seq #[(.ref 24)] 0),#[]⟩ ::
⟨(.type "builtin_function_or_method"),none,(.fields #[(.builtin "type.__prepare__"),(.type "type")]),#[]⟩ ::
⟨(.type "dict"),none,(.dict #[hE P "__module__" 241 (.str "knotwise.errors" 187),hE P "__qualname__" 243 (.str "NoText" 242),hE P "__firstlineno__" 245 (.int 10 244),hE P "__init__" 254 (.ref 60),hE P "__static_attributes__" 257 (.ref 61)] 5),#[]⟩ ::
⟨(.type "tuple"),none,(.seq #[] 0),#[]⟩ ::
⟨.none,none,(.fields #[(.int 12 0),(.int 4 0),(.ref 59)]),#[]⟩ ::
hC "NoText" 236 [hI 10,hI 0,hI 0,hI 0,hI 0,hR 50,(.bool .false),hI 181,hR 51,hN,hN,hN,hN,hI 239,hI 10,hS 240] ::
⟨(.type "frame"),none,.plain,#[(some (.ref 52)),(some (.ref 3)),(some (.ref 49)),none,(some (.str "knotwise.errors" 187)),none,(some (.ref 0))]⟩ ::
⟨(.type "tuple"),none,(.seq #[] 0),#[]⟩ ::
⟨.none,none,(.fields #[]),#[]⟩ ::
⟨(.type "tuple"),none,(.seq #[(.str "self" 249),(.str "line" 250),(.str "at" 251)] 0),#[]⟩ ::
⟨(.type "tuple"),none,(.seq #[] 0),#[]⟩ ::
hG (Ci 3 0) "__init__" "NoText.__init__" 0 0 ::
⟨(.type "code"),none,(.fields #[(.str "__init__" 246),(.str "NoText.__init__" 247),(.str "/claim/cut.py" 248),(.int 12 0),(.int 3 0),(.int 0 0),(.int 0 0),(.int 3 0),(.ref 54),(.bool .true),(.int 181 0),(.ref 55),.none,(.ref 56),(.ref 57),(.ref 58),(.int 252 0),(.int 12 0),(.str "/claim/cut.py" 253)]),#[]⟩ ::
hM 3 0 "__init__" "NoText.__init__" (.str "knotwise.errors" 187) (.ref 59) ::
⟨(.type "tuple"),none,(.seq #[(.str "at" 255),(.str "line" 256)] 0),#[]⟩ ::
⟨(.type "dict"),none,(.dict #[hE P "__module__" 241 (.str "knotwise.errors" 187),hE P "__firstlineno__" 245 (.int 10 244),hE P "__init__" 254 (.ref 60),hE P "__static_attributes__" 257 (.ref 61),hE P "__doc__" 258 .none] 2),#[]⟩ ::
⟨(.type "type"),none,(.cls ⟨"NoText",[(.ref 24)],[(.ref 63),(.ref 24),(.type "ValueError"),(.type "Exception"),(.type "BaseException"),(.type "object")],62,"NoText",.true,[],[],.false,none,.false⟩),#[(some (.ref 47)),none,(some (.str "NoText" 234)),(some (.str "NoText" 242)),(some (.builtin "ValueError.__new__")),(some (.bool .true))]⟩ ::
⟨(.type "super"),none,(.fields #[(.ref 63),(.ref 63),(.ref 63)]),#[]⟩ ::
⟨(.type "builtin_function_or_method"),none,(.fields #[(.builtin "object.__init_subclass__"),(.ref 63)]),#[]⟩ ::
⟨(.type "tuple"),none,(.seq #[(.ref 24)] 0),#[]⟩ ::
⟨(.type "builtin_function_or_method"),none,(.fields #[(.builtin "type.__prepare__"),(.type "type")]),#[]⟩ ::
⟨(.type "dict"),none,(.dict #[hE P "__module__" 268 (.str "knotwise.errors" 187),hE P "__qualname__" 270 (.str "NoName" 269),hE P "__firstlineno__" 272 (.int 16 271),hE P "__static_attributes__" 273 (.ref 73)] 4),#[]⟩ ::
⟨(.type "tuple"),none,(.seq #[] 0),#[]⟩ ::
⟨.none,none,(.fields #[]),#[]⟩ ::
hC "NoName" 263 [hI 16,hI 0,hI 0,hI 0,hI 0,hR 69,(.bool .false),hI 181,hR 70,hN,hN,hN,hN,hI 266,hI 16,hS 267] ::
⟨(.type "frame"),none,.plain,#[(some (.ref 71)),(some (.ref 3)),(some (.ref 68)),none,(some (.str "knotwise.errors" 187)),none,(some (.ref 0))]⟩ ::
⟨(.type "tuple"),none,(.seq #[] 0),#[]⟩ ::
⟨(.type "dict"),none,(.dict #[hE P "__module__" 268 (.str "knotwise.errors" 187),hE P "__firstlineno__" 272 (.int 16 271),hE P "__static_attributes__" 273 (.ref 73),hE P "__doc__" 274 .none] 2),#[]⟩ ::
⟨(.type "type"),none,(.cls ⟨"NoName",[(.ref 24)],[(.ref 75),(.ref 24),(.type "ValueError"),(.type "Exception"),(.type "BaseException"),(.type "object")],74,"NoName",.true,[],[],.false,none,.false⟩),#[(some (.ref 66)),none,(some (.str "NoName" 261)),(some (.str "NoName" 269)),(some (.builtin "ValueError.__new__")),(some (.bool .true))]⟩ ::
⟨(.type "super"),none,(.fields #[(.ref 75),(.ref 75),(.ref 75)]),#[]⟩ ::
⟨(.type "builtin_function_or_method"),none,(.fields #[(.builtin "object.__init_subclass__"),(.ref 75)]),#[]⟩ ::
⟨(.type "tuple"),none,(.seq #[(.ref 24)] 0),#[]⟩ ::
⟨(.type "builtin_function_or_method"),none,(.fields #[(.builtin "type.__prepare__"),(.type "type")]),#[]⟩ ::
⟨(.type "dict"),none,(.dict #[hE P "__module__" 284 (.str "knotwise.errors" 187),hE P "__qualname__" 286 (.str "NameTaken" 285),hE P "__firstlineno__" 288 (.int 18 287),hE P "__static_attributes__" 289 (.ref 85)] 4),#[]⟩ ::
⟨(.type "tuple"),none,(.seq #[] 0),#[]⟩ ::
⟨.none,none,(.fields #[]),#[]⟩ ::
hC "NameTaken" 279 [hI 18,hI 0,hI 0,hI 0,hI 0,hR 81,(.bool .false),hI 181,hR 82,hN,hN,hN,hN,hI 282,hI 18,hS 283] ::
⟨(.type "frame"),none,.plain,#[(some (.ref 83)),(some (.ref 3)),(some (.ref 80)),none,(some (.str "knotwise.errors" 187)),none,(some (.ref 0))]⟩ ::
⟨(.type "tuple"),none,(.seq #[] 0),#[]⟩ ::
⟨(.type "dict"),none,(.dict #[hE P "__module__" 284 (.str "knotwise.errors" 187),hE P "__firstlineno__" 288 (.int 18 287),hE P "__static_attributes__" 289 (.ref 85),hE P "__doc__" 290 .none] 2),#[]⟩ ::
⟨(.type "type"),none,(.cls ⟨"NameTaken",[(.ref 24)],[(.ref 87),(.ref 24),(.type "ValueError"),(.type "Exception"),(.type "BaseException"),(.type "object")],86,"NameTaken",.true,[],[],.false,none,.false⟩),#[(some (.ref 78)),none,(some (.str "NameTaken" 277)),(some (.str "NameTaken" 285)),(some (.builtin "ValueError.__new__")),(some (.bool .true))]⟩ ::
⟨(.type "super"),none,(.fields #[(.ref 87),(.ref 87),(.ref 87)]),#[]⟩ ::
⟨(.type "builtin_function_or_method"),none,(.fields #[(.builtin "object.__init_subclass__"),(.ref 87)]),#[]⟩ ::
⟨(.type "tuple"),none,(.seq #[(.ref 24)] 0),#[]⟩ ::
⟨(.type "builtin_function_or_method"),none,(.fields #[(.builtin "type.__prepare__"),(.type "type")]),#[]⟩ ::
⟨(.type "dict"),none,(.dict #[hE P "__module__" 300 (.str "knotwise.errors" 187),hE P "__qualname__" 302 (.str "NoSpot" 301),hE P "__firstlineno__" 304 (.int 20 303),hE P "__static_attributes__" 305 (.ref 97)] 4),#[]⟩ ::
⟨(.type "tuple"),none,(.seq #[] 0),#[]⟩ ::
⟨.none,none,(.fields #[]),#[]⟩ ::
hC "NoSpot" 295 [hI 20,hI 0,hI 0,hI 0,hI 0,hR 93,(.bool .false),hI 181,hR 94,hN,hN,hN,hN,hI 298,hI 20,hS 299] ::
⟨(.type "frame"),none,.plain,#[(some (.ref 95)),(some (.ref 3)),(some (.ref 92)),none,(some (.str "knotwise.errors" 187)),none,(some (.ref 0))]⟩ ::
⟨(.type "tuple"),none,(.seq #[] 0),#[]⟩ ::
⟨(.type "dict"),none,(.dict #[hE P "__module__" 300 (.str "knotwise.errors" 187),hE P "__firstlineno__" 304 (.int 20 303),hE P "__static_attributes__" 305 (.ref 97),hE P "__doc__" 306 .none] 2),#[]⟩ ::
⟨(.type "type"),none,(.cls ⟨"NoSpot",[(.ref 24)],[(.ref 99),(.ref 24),(.type "ValueError"),(.type "Exception"),(.type "BaseException"),(.type "object")],98,"NoSpot",.true,[],[],.false,none,.false⟩),#[(some (.ref 90)),none,(some (.str "NoSpot" 293)),(some (.str "NoSpot" 301)),(some (.builtin "ValueError.__new__")),(some (.bool .true))]⟩ ::
⟨(.type "super"),none,(.fields #[(.ref 99),(.ref 99),(.ref 99)]),#[]⟩ ::
⟨(.type "builtin_function_or_method"),none,(.fields #[(.builtin "object.__init_subclass__"),(.ref 99)]),#[]⟩ :: t
noncomputable def Nw(P:mx):List Obj:=boot_o_0 P ::
boot_o_1 P ::
boot_o_2 P ::
boot_o_3 P ::
Jj P (⟨.none,none,(.fields #[]),#[]⟩ ::
Ji P ([]))
noncomputable def Lz(w:World)(os:lU):mM:=⟨K2.bt (Nw w.params),15,{},kY [],hZ,187,os⟩
noncomputable def Nv(P:mx):List Obj:=boot_o_0 P ::
boot_o_1 P ::
boot_o_2 P ::
boot_o_3 P ::
Jj P (⟨.none,none,(.fields #[]),#[]⟩ ::
Ji P ([]))
noncomputable def Ly(w:World)(os:lU):mM:=⟨K2.bt (Nv w.params),15,{},kY [],hZ,187,os⟩
noncomputable def Nu(P:mx):List Obj:=boot_o_0 P ::
boot_o_1 P ::
boot_o_2 P ::
⟨(.type "dict"),none,(.dict #[hE P "__name__" 165 (.str "knotwise.errors" 187),hE P "__doc__" 166 .none,hE P "__package__" 167 .none,hE P "__loader__" 168 (.builtin "__main__.__loader__#opaque"),hE P "__spec__" 169 .none,hE P "__annotations__" 170 (.ref 6),hE P "__builtins__" 171 (.ref 4),hE P "__file__" 173 (.str "/claim/cut.py" 172),hE P "__cached__" 174 .none,hE P "KnotError" 206 (.ref 24),hE P "NoDrawing" 233 (.ref 44),hE P "NoText" 260 (.ref 63),hE P "NoName" 276 (.ref 75),hE P "NameTaken" 292 (.ref 87),hE P "NoSpot" 308 (.ref 99)] 15),#[]⟩ ::
Jj P (⟨.none,none,(.fields #[(.int 2 0),(.int 0 0),(.ref 20),(.int 4 0),(.int 0 0),(.ref 33),(.int 10 0),(.int 0 0),(.ref 52),(.int 16 0),(.int 0 0),(.ref 71),(.int 18 0),(.int 0 0),(.ref 83),(.int 20 0),(.int 0 0),(.ref 95)]),#[]⟩ ::
Ji P (Lu P (⟨(.type "type"),none,(.cls ⟨"KnotError",[(.type "ValueError")],[(.ref 24),(.type "ValueError"),(.type "Exception"),(.type "BaseException"),(.type "object")],23,"KnotError",.true,[],[(.ref 44),(.ref 63),(.ref 75),(.ref 87),(.ref 99)],.false,none,.false⟩),#[(some (.ref 15)),none,(some (.str "KnotError" 189)),(some (.str "KnotError" 197)),(some (.builtin "ValueError.__new__")),(some (.bool .true))]⟩ ::
Ls P ([]))))
noncomputable def Lx(w:World)(os:lU):mM:=⟨K2.bt (Nu w.params),102,{},kY [],hZ,309,os⟩
noncomputable def Nt(P:mx):List Obj:=boot_o_0 P ::
boot_o_1 P ::
boot_o_2 P ::
⟨(.type "dict"),none,(.dict #[hE P "__name__" 165 (.str "knotwise.errors" 187),hE P "__doc__" 166 .none,hE P "__package__" 167 .none,hE P "__loader__" 168 (.builtin "__main__.__loader__#opaque"),hE P "__spec__" 169 .none,hE P "__annotations__" 170 (.ref 6),hE P "__builtins__" 171 (.ref 4),hE P "__file__" 173 (.str "/claim/cut.py" 172),hE P "__cached__" 174 .none,hE P "KnotError" 206 (.ref 24),hE P "NoDrawing" 233 (.ref 44),hE P "NoText" 260 (.ref 63),hE P "NoName" 276 (.ref 75),hE P "NameTaken" 292 (.ref 87),hE P "NoSpot" 308 (.ref 99),hE P "TooMany" 324 (.ref 111),hE P "NoFit" 340 (.ref 123),hE P "NoMove" 356 (.ref 135),hE P "NoPrime" 372 (.ref 147),hE P "NoString" 388 (.ref 159),hE P "NoBraid" 404 (.ref 171)] 21),#[]⟩ ::
Jj P (⟨.none,none,(.fields #[(.int 2 0),(.int 0 0),(.ref 20),(.int 4 0),(.int 0 0),(.ref 33),(.int 10 0),(.int 0 0),(.ref 52),(.int 16 0),(.int 0 0),(.ref 71),(.int 18 0),(.int 0 0),(.ref 83),(.int 20 0),(.int 0 0),(.ref 95),(.int 22 0),(.int 0 0),(.ref 107),(.int 24 0),(.int 0 0),(.ref 119),(.int 26 0),(.int 0 0),(.ref 131),(.int 28 0),(.int 0 0),(.ref 143),(.int 30 0),(.int 0 0),(.ref 155),(.int 32 0),(.int 0 0),(.ref 167)]),#[]⟩ ::
Ji P (Lu P (⟨(.type "type"),none,(.cls ⟨"KnotError",[(.type "ValueError")],[(.ref 24),(.type "ValueError"),(.type "Exception"),(.type "BaseException"),(.type "object")],23,"KnotError",.true,[],[(.ref 44),(.ref 63),(.ref 75),(.ref 87),(.ref 99),(.ref 111),(.ref 123),(.ref 135),(.ref 147),(.ref 159),(.ref 171)],.false,none,.false⟩),#[(some (.ref 15)),none,(some (.str "KnotError" 189)),(some (.str "KnotError" 197)),(some (.builtin "ValueError.__new__")),(some (.bool .true))]⟩ ::
Ls P (⟨(.type "tuple"),none,(.seq #[(.ref 24)] 0),#[]⟩ ::
⟨(.type "builtin_function_or_method"),none,(.fields #[(.builtin "type.__prepare__"),(.type "type")]),#[]⟩ ::
⟨(.type "dict"),none,(.dict #[hE P "__module__" 316 (.str "knotwise.errors" 187),hE P "__qualname__" 318 (.str "TooMany" 317),hE P "__firstlineno__" 320 (.int 22 319),hE P "__static_attributes__" 321 (.ref 109)] 4),#[]⟩ ::
⟨(.type "tuple"),none,(.seq #[] 0),#[]⟩ ::
⟨.none,none,(.fields #[]),#[]⟩ ::
hC "TooMany" 311 [hI 22,hI 0,hI 0,hI 0,hI 0,hR 105,(.bool .false),hI 181,hR 106,hN,hN,hN,hN,hI 314,hI 22,hS 315] ::
⟨(.type "frame"),none,.plain,#[(some (.ref 107)),(some (.ref 3)),(some (.ref 104)),none,(some (.str "knotwise.errors" 187)),none,(some (.ref 0))]⟩ ::
⟨(.type "tuple"),none,(.seq #[] 0),#[]⟩ ::
⟨(.type "dict"),none,(.dict #[hE P "__module__" 316 (.str "knotwise.errors" 187),hE P "__firstlineno__" 320 (.int 22 319),hE P "__static_attributes__" 321 (.ref 109),hE P "__doc__" 322 .none] 2),#[]⟩ ::
⟨(.type "type"),none,(.cls ⟨"TooMany",[(.ref 24)],[(.ref 111),(.ref 24),(.type "ValueError"),(.type "Exception"),(.type "BaseException"),(.type "object")],110,"TooMany",.true,[],[],.false,none,.false⟩),#[(some (.ref 102)),none,(some (.str "TooMany" 309)),(some (.str "TooMany" 317)),(some (.builtin "ValueError.__new__")),(some (.bool .true))]⟩ ::
⟨(.type "super"),none,(.fields #[(.ref 111),(.ref 111),(.ref 111)]),#[]⟩ ::
⟨(.type "builtin_function_or_method"),none,(.fields #[(.builtin "object.__init_subclass__"),(.ref 111)]),#[]⟩ ::
⟨(.type "tuple"),none,(.seq #[(.ref 24)] 0),#[]⟩ ::
⟨(.type "builtin_function_or_method"),none,(.fields #[(.builtin "type.__prepare__"),(.type "type")]),#[]⟩ ::
⟨(.type "dict"),none,(.dict #[hE P "__module__" 332 (.str "knotwise.errors" 187),hE P "__qualname__" 334 (.str "NoFit" 333),hE P "__firstlineno__" 336 (.int 24 335),hE P "__static_attributes__" 337 (.ref 121)] 4),#[]⟩ ::
⟨(.type "tuple"),none,(.seq #[] 0),#[]⟩ ::
⟨.none,none,(.fields #[]),#[]⟩ ::
hC "NoFit" 327 [hI 24,hI 0,hI 0,hI 0,hI 0,hR 117,(.bool .false),hI 181,hR 118,hN,hN,hN,hN,hI 330,hI 24,hS 331] ::
⟨(.type "frame"),none,.plain,#[(some (.ref 119)),(some (.ref 3)),(some (.ref 116)),none,(some (.str "knotwise.errors" 187)),none,(some (.ref 0))]⟩ ::
⟨(.type "tuple"),none,(.seq #[] 0),#[]⟩ ::
⟨(.type "dict"),none,(.dict #[hE P "__module__" 332 (.str "knotwise.errors" 187),hE P "__firstlineno__" 336 (.int 24 335),hE P "__static_attributes__" 337 (.ref 121),hE P "__doc__" 338 .none] 2),#[]⟩ ::
⟨(.type "type"),none,(.cls ⟨"NoFit",[(.ref 24)],[(.ref 123),(.ref 24),(.type "ValueError"),(.type "Exception"),(.type "BaseException"),(.type "object")],122,"NoFit",.true,[],[],.false,none,.false⟩),#[(some (.ref 114)),none,(some (.str "NoFit" 325)),(some (.str "NoFit" 333)),(some (.builtin "ValueError.__new__")),(some (.bool .true))]⟩ ::
⟨(.type "super"),none,(.fields #[(.ref 123),(.ref 123),(.ref 123)]),#[]⟩ ::
⟨(.type "builtin_function_or_method"),none,(.fields #[(.builtin "object.__init_subclass__"),(.ref 123)]),#[]⟩ ::
⟨(.type "tuple"),none,(.seq #[(.ref 24)] 0),#[]⟩ ::
⟨(.type "builtin_function_or_method"),none,(.fields #[(.builtin "type.__prepare__"),(.type "type")]),#[]⟩ ::
⟨(.type "dict"),none,(.dict #[hE P "__module__" 348 (.str "knotwise.errors" 187),hE P "__qualname__" 350 (.str "NoMove" 349),hE P "__firstlineno__" 352 (.int 26 351),hE P "__static_attributes__" 353 (.ref 133)] 4),#[]⟩ ::
⟨(.type "tuple"),none,(.seq #[] 0),#[]⟩ ::
⟨.none,none,(.fields #[]),#[]⟩ ::
hC "NoMove" 343 [hI 26,hI 0,hI 0,hI 0,hI 0,hR 129,(.bool .false),hI 181,hR 130,hN,hN,hN,hN,hI 346,hI 26,hS 347] ::
⟨(.type "frame"),none,.plain,#[(some (.ref 131)),(some (.ref 3)),(some (.ref 128)),none,(some (.str "knotwise.errors" 187)),none,(some (.ref 0))]⟩ ::
⟨(.type "tuple"),none,(.seq #[] 0),#[]⟩ ::
⟨(.type "dict"),none,(.dict #[hE P "__module__" 348 (.str "knotwise.errors" 187),hE P "__firstlineno__" 352 (.int 26 351),hE P "__static_attributes__" 353 (.ref 133),hE P "__doc__" 354 .none] 2),#[]⟩ ::
⟨(.type "type"),none,(.cls ⟨"NoMove",[(.ref 24)],[(.ref 135),(.ref 24),(.type "ValueError"),(.type "Exception"),(.type "BaseException"),(.type "object")],134,"NoMove",.true,[],[],.false,none,.false⟩),#[(some (.ref 126)),none,(some (.str "NoMove" 341)),(some (.str "NoMove" 349)),(some (.builtin "ValueError.__new__")),(some (.bool .true))]⟩ ::
⟨(.type "super"),none,(.fields #[(.ref 135),(.ref 135),(.ref 135)]),#[]⟩ ::
⟨(.type "builtin_function_or_method"),none,(.fields #[(.builtin "object.__init_subclass__"),(.ref 135)]),#[]⟩ ::
⟨(.type "tuple"),none,(.seq #[(.ref 24)] 0),#[]⟩ ::
⟨(.type "builtin_function_or_method"),none,(.fields #[(.builtin "type.__prepare__"),(.type "type")]),#[]⟩ ::
⟨(.type "dict"),none,(.dict #[hE P "__module__" 364 (.str "knotwise.errors" 187),hE P "__qualname__" 366 (.str "NoPrime" 365),hE P "__firstlineno__" 368 (.int 28 367),hE P "__static_attributes__" 369 (.ref 145)] 4),#[]⟩ ::
⟨(.type "tuple"),none,(.seq #[] 0),#[]⟩ ::
⟨.none,none,(.fields #[]),#[]⟩ ::
hC "NoPrime" 359 [hI 28,hI 0,hI 0,hI 0,hI 0,hR 141,(.bool .false),hI 181,hR 142,hN,hN,hN,hN,hI 362,hI 28,hS 363] ::
⟨(.type "frame"),none,.plain,#[(some (.ref 143)),(some (.ref 3)),(some (.ref 140)),none,(some (.str "knotwise.errors" 187)),none,(some (.ref 0))]⟩ ::
⟨(.type "tuple"),none,(.seq #[] 0),#[]⟩ ::
⟨(.type "dict"),none,(.dict #[hE P "__module__" 364 (.str "knotwise.errors" 187),hE P "__firstlineno__" 368 (.int 28 367),hE P "__static_attributes__" 369 (.ref 145),hE P "__doc__" 370 .none] 2),#[]⟩ ::
⟨(.type "type"),none,(.cls ⟨"NoPrime",[(.ref 24)],[(.ref 147),(.ref 24),(.type "ValueError"),(.type "Exception"),(.type "BaseException"),(.type "object")],146,"NoPrime",.true,[],[],.false,none,.false⟩),#[(some (.ref 138)),none,(some (.str "NoPrime" 357)),(some (.str "NoPrime" 365)),(some (.builtin "ValueError.__new__")),(some (.bool .true))]⟩ ::
⟨(.type "super"),none,(.fields #[(.ref 147),(.ref 147),(.ref 147)]),#[]⟩ ::
⟨(.type "builtin_function_or_method"),none,(.fields #[(.builtin "object.__init_subclass__"),(.ref 147)]),#[]⟩ ::
⟨(.type "tuple"),none,(.seq #[(.ref 24)] 0),#[]⟩ ::
⟨(.type "builtin_function_or_method"),none,(.fields #[(.builtin "type.__prepare__"),(.type "type")]),#[]⟩ ::
⟨(.type "dict"),none,(.dict #[hE P "__module__" 380 (.str "knotwise.errors" 187),hE P "__qualname__" 382 (.str "NoString" 381),hE P "__firstlineno__" 384 (.int 30 383),hE P "__static_attributes__" 385 (.ref 157)] 4),#[]⟩ ::
⟨(.type "tuple"),none,(.seq #[] 0),#[]⟩ ::
⟨.none,none,(.fields #[]),#[]⟩ ::
hC "NoString" 375 [hI 30,hI 0,hI 0,hI 0,hI 0,hR 153,(.bool .false),hI 181,hR 154,hN,hN,hN,hN,hI 378,hI 30,hS 379] ::
⟨(.type "frame"),none,.plain,#[(some (.ref 155)),(some (.ref 3)),(some (.ref 152)),none,(some (.str "knotwise.errors" 187)),none,(some (.ref 0))]⟩ ::
⟨(.type "tuple"),none,(.seq #[] 0),#[]⟩ ::
⟨(.type "dict"),none,(.dict #[hE P "__module__" 380 (.str "knotwise.errors" 187),hE P "__firstlineno__" 384 (.int 30 383),hE P "__static_attributes__" 385 (.ref 157),hE P "__doc__" 386 .none] 2),#[]⟩ ::
⟨(.type "type"),none,(.cls ⟨"NoString",[(.ref 24)],[(.ref 159),(.ref 24),(.type "ValueError"),(.type "Exception"),(.type "BaseException"),(.type "object")],158,"NoString",.true,[],[],.false,none,.false⟩),#[(some (.ref 150)),none,(some (.str "NoString" 373)),(some (.str "NoString" 381)),(some (.builtin "ValueError.__new__")),(some (.bool .true))]⟩ ::
⟨(.type "super"),none,(.fields #[(.ref 159),(.ref 159),(.ref 159)]),#[]⟩ ::
⟨(.type "builtin_function_or_method"),none,(.fields #[(.builtin "object.__init_subclass__"),(.ref 159)]),#[]⟩ ::
⟨(.type "tuple"),none,(.seq #[(.ref 24)] 0),#[]⟩ ::
⟨(.type "builtin_function_or_method"),none,(.fields #[(.builtin "type.__prepare__"),(.type "type")]),#[]⟩ ::
⟨(.type "dict"),none,(.dict #[hE P "__module__" 396 (.str "knotwise.errors" 187),hE P "__qualname__" 398 (.str "NoBraid" 397),hE P "__firstlineno__" 400 (.int 32 399),hE P "__static_attributes__" 401 (.ref 169)] 4),#[]⟩ ::
⟨(.type "tuple"),none,(.seq #[] 0),#[]⟩ ::
⟨.none,none,(.fields #[]),#[]⟩ ::
hC "NoBraid" 391 [hI 32,hI 0,hI 0,hI 0,hI 0,hR 165,(.bool .false),hI 181,hR 166,hN,hN,hN,hN,hI 394,hI 32,hS 395] ::
⟨(.type "frame"),none,.plain,#[(some (.ref 167)),(some (.ref 3)),(some (.ref 164)),none,(some (.str "knotwise.errors" 187)),none,(some (.ref 0))]⟩ ::
⟨(.type "tuple"),none,(.seq #[] 0),#[]⟩ ::
⟨(.type "dict"),none,(.dict #[hE P "__module__" 396 (.str "knotwise.errors" 187),hE P "__firstlineno__" 400 (.int 32 399),hE P "__static_attributes__" 401 (.ref 169),hE P "__doc__" 402 .none] 2),#[]⟩ ::
⟨(.type "type"),none,(.cls ⟨"NoBraid",[(.ref 24)],[(.ref 171),(.ref 24),(.type "ValueError"),(.type "Exception"),(.type "BaseException"),(.type "object")],170,"NoBraid",.true,[],[],.false,none,.false⟩),#[(some (.ref 162)),none,(some (.str "NoBraid" 389)),(some (.str "NoBraid" 397)),(some (.builtin "ValueError.__new__")),(some (.bool .true))]⟩ ::
⟨(.type "super"),none,(.fields #[(.ref 171),(.ref 171),(.ref 171)]),#[]⟩ ::
⟨(.type "builtin_function_or_method"),none,(.fields #[(.builtin "object.__init_subclass__"),(.ref 171)]),#[]⟩ ::
[]))))
noncomputable def Lw(w:World)(os:lU):mM:=⟨K2.bt (Nt w.params),174,{},kY [],hZ,405,os⟩
noncomputable def hL:List Str:=[]
theorem M9 (P:mx):((c5 P).isNs ao,(c5 P).objs.size,(c5 P).nsMap ao "__annotations__")=(true,11,(some (.ref 6))):=by kernel_rfl
theorem Ij(w:World)(os:lU):K2.Ip hU PySem.Challenge.rw_knotwise_k06_refusals_made.row.prog w 11 (some (.ref 6)) 12 (K2.Df w.params os) (topStub PySem.Challenge.rw_knotwise_k06_refusals_made.row.prog)=some (Lz w os,⟨denote hU cC,cC,⟨0,0,0,0⟩,[nz cQ]⟩):=by kernel_rfl
theorem Il(w:World)(os:lU):segRunT hU PySem.Challenge.rw_knotwise_k06_refusals_made.row.prog w 11 (some (.ref 6)) 1 1 (Lz w os) (blockOf cB cE cC ⟨0,0,0,0⟩ [nz cQ])=some (.next,Ly w os,cC,⟨0,0,0,0⟩):=by kernel_rfl
theorem Ku(w:World)(os:lU):segRunT hU PySem.Challenge.rw_knotwise_k06_refusals_made.row.prog w 11 (some (.ref 6)) 1 1329 (Ly w os) (piecesOf (cB.take 7) cE cC ⟨0,0,0,0⟩ [nz cQ])=some (.next,Lx w os,cC,⟨20,0,21,8⟩):=by kernel_rfl
theorem Kt(w:World)(os:lU):segRunT hU PySem.Challenge.rw_knotwise_k06_refusals_made.row.prog w 11 (some (.ref 6)) 1 1279 (Lx w os) (piecesOf ((cB.drop 7).take 6) cE cC ⟨20,0,21,8⟩ [nz cQ])=some (.next,Lw w os,cC,⟨32,0,33,8⟩):=by kernel_rfl
theorem Ik(w:World)(os:lU):(K2.pA hU PySem.Challenge.rw_knotwise_k06_refusals_made.row.prog w 11 (some (.ref 6)) 1012 (Lw w os) (restOf ((cB.drop 7).drop 6) cE cC ⟨32,0,33,8⟩ [nz cQ])).map (fun s=>K2.EX PySem.Challenge.rw_knotwise_k06_refusals_made.row.prog hQ hL (K2.Ff PySem.Challenge.rw_knotwise_k06_refusals_made hQ) (fun s=>hA.map s.heap.get?) w.params s.abs)=some (true,Bf hQ hL,(hK w.params).map fun p=>some p.2):=by kernel_rfl
theorem Gh(w:World)(os:lU):(topFrom hU (PySem.Challenge.rw_knotwise_k06_refusals_made).row.prog w (12+(1+(1329+(1279+1012)))) ⟨c5 w.params,kY [],hZ,pk,os⟩).map (fun s=>(openSeen hQ hL (lT (PySem.Challenge.rw_knotwise_k06_refusals_made).row.prog.main.body) (K2.Ff PySem.Challenge.rw_knotwise_k06_refusals_made hQ) true s,hA.map s.heap.get?))=some (Bf hQ hL,(hK w.params).map fun p=>some p.2) :=
 K2.DW (Yf:=fun s=>hA.map s.heap.get?) (Ya:=fun w=>(hK w.params).map fun p=>some p.2) (M9 w.params) (Ik w os) fun _ k=>K2.A0 (Ij w os) (Il w os) <| K2.wJ 7 (Ku w os) <| K2.wJ 6 (Kt w os) <| k
theorem Gg:(PySem.Challenge.rw_knotwise_k06_refusals_made).wellSaid=true:=by kernel_rfl
theorem Gf:K2.yJ PySem.Challenge.rw_knotwise_k06_refusals_made hQ=true:=by kernel_rfl
end
section
variable {P:bo} {w:World} {K:af} {mg:Str->Option Value} {base:Heap}
theorem vQ:ff ["_law_script","_law_k"] ["_law_script","_law_k"] (bw (top 18)):=Ft
theorem wt {f:Addr} {fd:bh} (F:yv K "_law_cell" "_law_cell" (top 18) f fd) (x9:mg "len" = none):l4 P w K mg base qd 1 f fd ["_law_script","_law_k"] (nN K c7) :=
 Ir F vQ wO fun _ _ _ _ _ _ hr=>have hu:=hr.units; have MB:=hr.Fg; (cc (rQ (oi (FH MB) (dJ 1) (AH A3 rfl x9 GA (aH (dJ 0) bf)) (nV _)) (fu (kU (mi (lY hu (dJ 0) (dJ 1) (fun _ _=>rfl))))) nT)
 (fu (kU (mi cm))))
theorem oP:ff ["self","line","at"] ["self","line","at"] (bw (Ci 3 0)):=Ft
theorem oY {f C B:Addr} {fd:bh} (z:GG K C "NoText" "NoText.__init__" "line" "at" (Ci 3 0) f fd) (b:Jp K "KnotError" B) (mb:mg "KnotError" = some (.ref B)):l4 P w K mg base qd 1 f fd ["self","line","at"] (Fq K C "line" "at" dP) :=
 y9 (by decide) z.F oP fun _ _ _ _ _ _ hr=>pE (yS rfl mb b.sp b.rd b.fc h8 z.ex (pv 0) (vZ (oj (by decide +kernel) (rj (dJ 1) (oj (by decide +kernel) (rj (dJ 2) yT)))))) (pE (B5 z.Z z.n1 (pv 0) (pv 1)) (yR (B4 z.Z z.n2 (pv 0) (pv 2))))
theorem nE:ff ["self","word","place"] ["self","word","place"] (bw (Ci 2 0)):=Ft
theorem nF {f C B:Addr} {fd:bh} (z:GG K C "NoDrawing" "NoDrawing.__init__" "word" "place" (Ci 2 0) f fd) (b:Jp K "KnotError" B) (mb:mg "KnotError" = some (.ref B)):l4 P w K mg base qd 1 f fd ["self","word","place"] (Fq K C "word" "place" cX) :=
 y9 (by decide) z.F nE fun _ _ _ _ _ _ hr=>pE (yS rfl mb b.sp b.rd b.fc h8 z.ex (pv 0) (vZ (oj (by decide +kernel) (rj (dJ 1) (oj (by decide +kernel) (rj (dJ 2) yT)))))) (pE (B5 z.Z z.n1 (pv 0) (pv 1)) (yR (B4 z.Z z.n2 (pv 0) (pv 2))))
theorem oJ:ff ["_law_word","_law_place","_law_line","_law_at","_law_text","_law_found"] ["_law_word","_law_place","_law_line","_law_at","_law_text"] (bw (top 21)):=Ft
theorem sT {f:Addr} {fd:bh} (F:yv K "_law_errors" "_law_errors" (top 21) f fd) {tY:Addr} (oo:pe K "NoSpot" tY) (AB:mg "NoSpot" = some (.ref tY)) {p6:Addr} (lF:pe K "NameTaken" p6) (uJ:mg "NameTaken" = some (.ref p6)) {tZ:Addr} (oq:pe K "NoName" tZ) (AD:mg "NoName" = some (.ref tZ)) {qR:Addr} (l8:pe K "NoString" qR) (vW:mg "NoString" = some (.ref qR)) {sx:Addr} (mT:pe K "NoPrime" sx) (xZ:mg "NoPrime" = some (.ref sx)) {t4:Addr} (ot:pe K "NoMove" t4) (AE:mg "NoMove" = some (.ref t4)) {wW:Addr} (pF:pe K "NoFit" wW) (B8:mg "NoFit" = some (.ref wW)) {sv:Addr} (mS:pe K "TooMany" sv) (xY:mg "TooMany" = some (.ref sv)) {oe:Addr} (ja:pe K "NothingDone" oe) (rR:mg "NothingDone" = some (.ref oe)) {tX:Addr} (om:pe K "NoWord" tX) (AA:mg "NoWord" = some (.ref tX)) {t6:Addr} (ou:pe K "NoMark" t6) (AF:mg "NoMark" = some (.ref t6)) {qS:Addr} (ma:pe K "NoLength" qS) (vX:mg "NoLength" = some (.ref qS)) {sy:Addr} (mU:pe K "NoBraid" sy) (x4:mg "NoBraid" = some (.ref sy)) {Bd:Addr} {pV:Addr} {pY:bh} (pZ:EK P w K mg base 1 pV pY Bd "NoText" ["self","line","at"] "line" "at" dP) {vj:Addr} {n3:Addr} {n5:bh} (n8:EK P w K mg base 1 n3 n5 vj "NoDrawing" ["self","word","place"] "word" "place" cX):l4 P w K mg base qd 3 f fd ["_law_word","_law_place","_law_line","_law_at","_law_text"] (nN K kT) :=
 Ir F oJ tf fun _ _ _ _ _ _ hr=>have nd:=oJ.nd; (cc (D1 (i:=5) nd rfl (lI (aH (v3 n8 (hr.mono (by decide)) rfl (aH (dJ 0) (aH (dJ 1) bf))) (aH (v3 pZ (hr.mono (by decide)) rfl (aH (dJ 2) (aH (dJ 3) bf))) (aH (c8 oq rfl AD (aH (dJ 4) bf)) (aH (c8 lF rfl uJ (aH (dJ 4) bf)) (aH (c8 oo rfl AB (aH (dJ 4) bf)) bf)))))))
 (cc (mD (qo cT cL cK mz j1 (dJ 5) (aH (lI (aH (c8 mS rfl xY (aH (dJ 4) bf)) (aH (c8 pF rfl B8 (aH (dJ 4) bf)) (aH (c8 ot rfl AE (aH (dJ 4) bf)) (aH (c8 mT rfl xZ (aH (dJ 4) bf)) (aH (c8 l8 rfl vW (aH (dJ 4) bf)) bf)))))) bf)))
 (cc (mD (qo cT cL cK mz j1 (dJ 5) (aH (lI (aH (c8 mU rfl x4 (aH (dJ 4) bf)) (aH (c8 ma rfl vX (aH (dJ 4) bf)) (aH (c8 ou rfl AF (aH (dJ 4) bf)) (aH (c8 om rfl AA (aH (dJ 4) bf)) (aH (c8 ja rfl rR (aH (dJ 4) bf)) bf)))))) bf)))
 (fu (kU (mi (dJ 5)))))))
theorem nP:ff ["_law_error","_law_found"] ["_law_error"] (bw (top 20)):=Ft
theorem sk {f:Addr} {fd:bh} (F:yv K "_law_classes" "_law_classes" (top 20) f fd) (aS:mg "isinstance" = none) {ah:Addr} (aW:ay K ao "NoDrawing" = some (some (.ref ah))) (pI:mg "NoDrawing" = some (.ref ah)) (a0:bX K ah) {aA:Addr} (bC:ay K ao "NoText" = some (some (.ref aA))) (tD:mg "NoText" = some (.ref aA)) (bK:bX K aA) {aE:Addr} (bN:ay K ao "NoName" = some (some (.ref aE))) (tF:mg "NoName" = some (.ref aE)) (bU:bX K aE) {ai:Addr} (a3:ay K ao "NameTaken" = some (some (.ref ai))) (pJ:mg "NameTaken" = some (.ref ai)) (a7:bX K ai) {aC:Addr} (bM:ay K ao "NoSpot" = some (some (.ref aC))) (tE:mg "NoSpot" = some (.ref aC)) (bT:bX K aC) {av:Addr} (bz:ay K ao "TooMany" = some (some (.ref av))) (rW:mg "TooMany" = some (.ref av)) (bG:bX K av) {aK:Addr} (b9:ay K ao "NoFit" = some (some (.ref aK))) (wa:mg "NoFit" = some (.ref aK)) (cg:bX K aK) {aF:Addr} (bO:ay K ao "NoMove" = some (some (.ref aF))) (tG:mg "NoMove" = some (.ref aF)) (bV:bX K aF) {aw:Addr} (bA:ay K ao "NoPrime" = some (some (.ref aw))) (rX:mg "NoPrime" = some (.ref aw)) (bH:bX K aw) {aq:Addr} (ba:ay K ao "NoString" = some (some (.ref aq))) (qK:mg "NoString" = some (.ref aq)) (bq:bX K aq) {ax:Addr} (bB:ay K ao "NoBraid" = some (some (.ref ax))) (rY:mg "NoBraid" = some (.ref ax)) (bI:bX K ax) {ar:Addr} (bb:ay K ao "NoLength" = some (some (.ref ar))) (qL:mg "NoLength" = some (.ref ar)) (br:bX K ar) {aG:Addr} (bP:ay K ao "NoMark" = some (some (.ref aG))) (tH:mg "NoMark" = some (.ref aG)) (bW:bX K aG) {aB:Addr} (bL:ay K ao "NoWord" = some (some (.ref aB))) (tx:mg "NoWord" = some (.ref aB)) (bS:bX K aB) {ag:Addr} (aR:ay K ao "NothingDone" = some (some (.ref ag))) (nX:mg "NothingDone" = some (.ref ag)) (aT:bX K ag) {aj:Addr} (a4:ay K ao "KnotError" = some (some (.ref aj))) (pK:mg "KnotError" = some (.ref aj)) (a8:bX K aj) (qw:aa K (.type "NoneType") (.ref aE)=some false) (qt:aa K (.type "NoneType") (.ref aA)=some false) (m4:aa K (.type "NoneType") (.ref ah)=some false) (oU:aa K (.type "NoneType") (.ref av)=some false) (qu:aa K (.type "NoneType") (.ref aC)=some false) (nc:aa K (.type "NoneType") (.ref ai)=some false) (oV:aa K (.type "NoneType") (.ref aw)=some false) (qx:aa K (.type "NoneType") (.ref aF)=some false) (se:aa K (.type "NoneType") (.ref aK)=some false) (nZ:aa K (.type "NoneType") (.ref ar)=some false) (oW:aa K (.type "NoneType") (.ref ax)=some false) (nY:aa K (.type "NoneType") (.ref aq)=some false) (lZ:aa K (.type "NoneType") (.ref ag)=some false) (qr:aa K (.type "NoneType") (.ref aB)=some false) (qy:aa K (.type "NoneType") (.ref aG)=some false) (gM:aa K (.ref ah) (.ref aE)=some false) (kc:aa K (.ref aA) (.ref aE)=some false) (kr:aa K (.ref aE) (.ref aE)=some true) (gU:aa K (.ref ai) (.ref aE)=some false) (ki:aa K (.ref aC) (.ref aE)=some false) (jf:aa K (.ref av) (.ref aE)=some false) (ly:aa K (.ref aK) (.ref aE)=some false) (kC:aa K (.ref aF) (.ref aE)=some false) (jx:aa K (.ref aw) (.ref aE)=some false) (iz:aa K (.ref aq) (.ref aE)=some false) (jP:aa K (.ref ax) (.ref aE)=some false) (iQ:aa K (.ref ar) (.ref aE)=some false) (kI:aa K (.ref aG) (.ref aE)=some false) (j6:aa K (.ref aB) (.ref aE)=some false) (eI:aa K (.ref ag) (.ref aE)=some false) (g7:aa K (.ref aj) (.ref aE)=some false) (gK:aa K (.ref ah) (.ref aA)=some false) (ka:aa K (.ref aA) (.ref aA)=some true) (ko:aa K (.ref aE) (.ref aA)=some false) (gS:aa K (.ref ai) (.ref aA)=some false) (kg:aa K (.ref aC) (.ref aA)=some false) (jd:aa K (.ref av) (.ref aA)=some false) (lu:aa K (.ref aK) (.ref aA)=some false) (kA:aa K (.ref aF) (.ref aA)=some false) (jv:aa K (.ref aw) (.ref aA)=some false) (ix:aa K (.ref aq) (.ref aA)=some false) (jN:aa K (.ref ax) (.ref aA)=some false) (iO:aa K (.ref ar) (.ref aA)=some false) (kG:aa K (.ref aG) (.ref aA)=some false) (j4:aa K (.ref aB) (.ref aA)=some false) (eF:aa K (.ref ag) (.ref aA)=some false) (gZ:aa K (.ref aj) (.ref aA)=some false) (d8:aa K (.ref ah) (.ref ah)=some true) (gf:aa K (.ref aA) (.ref ah)=some false) (gw:aa K (.ref aE) (.ref ah)=some false) (eh:aa K (.ref ai) (.ref ah)=some false) (gp:aa K (.ref aC) (.ref ah)=some false) (fw:aa K (.ref av) (.ref ah)=some false) (iT:aa K (.ref aK) (.ref ah)=some false) (gz:aa K (.ref aF) (.ref ah)=some false) (fC:aa K (.ref aw) (.ref ah)=some false) (eO:aa K (.ref aq) (.ref ah)=some false) (fM:aa K (.ref ax) (.ref ah)=some false) (eV:aa K (.ref ar) (.ref ah)=some false) (gC:aa K (.ref aG) (.ref ah)=some false) (gb:aa K (.ref aB) (.ref ah)=some false) (dc:aa K (.ref ag) (.ref ah)=some false) (er:aa K (.ref aj) (.ref ah)=some false) (fJ:aa K (.ref ah) (.ref av)=some false) (jl:aa K (.ref aA) (.ref av)=some false) (jA:aa K (.ref aE) (.ref av)=some false) (fP:aa K (.ref ai) (.ref av)=some false) (jq:aa K (.ref aC) (.ref av)=some false) (ij:aa K (.ref av) (.ref av)=some true) (kL:aa K (.ref aK) (.ref av)=some false) (jD:aa K (.ref aF) (.ref av)=some false) (iE:aa K (.ref aw) (.ref av)=some false) (gj:aa K (.ref aq) (.ref av)=some false) (iX:aa K (.ref ax) (.ref av)=some false) (gG:aa K (.ref ar) (.ref av)=some false) (jG:aa K (.ref aG) (.ref av)=some false) (ji:aa K (.ref aB) (.ref av)=some false) (dS:aa K (.ref ag) (.ref av)=some false) (fS:aa K (.ref aj) (.ref av)=some false) (gL:aa K (.ref ah) (.ref aC)=some false) (kb:aa K (.ref aA) (.ref aC)=some false) (kq:aa K (.ref aE) (.ref aC)=some false) (gT:aa K (.ref ai) (.ref aC)=some false) (kh:aa K (.ref aC) (.ref aC)=some true) (je:aa K (.ref av) (.ref aC)=some false) (lx:aa K (.ref aK) (.ref aC)=some false) (kB:aa K (.ref aF) (.ref aC)=some false) (jw:aa K (.ref aw) (.ref aC)=some false) (iy:aa K (.ref aq) (.ref aC)=some false) (jO:aa K (.ref ax) (.ref aC)=some false) (iP:aa K (.ref ar) (.ref aC)=some false) (kH:aa K (.ref aG) (.ref aC)=some false) (j5:aa K (.ref aB) (.ref aC)=some false) (eG:aa K (.ref ag) (.ref aC)=some false) (g6:aa K (.ref aj) (.ref aC)=some false) (ee:aa K (.ref ah) (.ref ai)=some false) (gh:aa K (.ref aA) (.ref ai)=some false) (gx:aa K (.ref aE) (.ref ai)=some false) (ei:aa K (.ref ai) (.ref ai)=some true) (gq:aa K (.ref aC) (.ref ai)=some false) (fx:aa K (.ref av) (.ref ai)=some false) (iU:aa K (.ref aK) (.ref ai)=some false) (gA:aa K (.ref aF) (.ref ai)=some false) (fD:aa K (.ref aw) (.ref ai)=some false) (eP:aa K (.ref aq) (.ref ai)=some false) (fN:aa K (.ref ax) (.ref ai)=some false) (eW:aa K (.ref ar) (.ref ai)=some false) (gE:aa K (.ref aG) (.ref ai)=some false) (gc:aa K (.ref aB) (.ref ai)=some false) (de:aa K (.ref ag) (.ref ai)=some false) (et:aa K (.ref aj) (.ref ai)=some false) (fK:aa K (.ref ah) (.ref aw)=some false) (jm:aa K (.ref aA) (.ref aw)=some false) (jB:aa K (.ref aE) (.ref aw)=some false) (fQ:aa K (.ref ai) (.ref aw)=some false) (jr:aa K (.ref aC) (.ref aw)=some false) (ik:aa K (.ref av) (.ref aw)=some false) (kM:aa K (.ref aK) (.ref aw)=some false) (jE:aa K (.ref aF) (.ref aw)=some false) (iF:aa K (.ref aw) (.ref aw)=some true) (gk:aa K (.ref aq) (.ref aw)=some false) (iY:aa K (.ref ax) (.ref aw)=some false) (gH:aa K (.ref ar) (.ref aw)=some false) (jH:aa K (.ref aG) (.ref aw)=some false) (jj:aa K (.ref aB) (.ref aw)=some false) (dU:aa K (.ref ag) (.ref aw)=some false) (fT:aa K (.ref aj) (.ref aw)=some false) (gN:aa K (.ref ah) (.ref aF)=some false) (kd:aa K (.ref aA) (.ref aF)=some false) (ku:aa K (.ref aE) (.ref aF)=some false) (gW:aa K (.ref ai) (.ref aF)=some false) (kj:aa K (.ref aC) (.ref aF)=some false) (jg:aa K (.ref av) (.ref aF)=some false) (lz:aa K (.ref aK) (.ref aF)=some false) (kD:aa K (.ref aF) (.ref aF)=some true) (jy:aa K (.ref aw) (.ref aF)=some false) (iA:aa K (.ref aq) (.ref aF)=some false) (jQ:aa K (.ref ax) (.ref aF)=some false) (iR:aa K (.ref ar) (.ref aF)=some false) (kJ:aa K (.ref aG) (.ref aF)=some false) (j7:aa K (.ref aB) (.ref aF)=some false) (eK:aa K (.ref ag) (.ref aF)=some false) (g8:aa K (.ref aj) (.ref aF)=some false) (iW:aa K (.ref ah) (.ref aK)=some false) (lh:aa K (.ref aA) (.ref aK)=some false) (ll:aa K (.ref aE) (.ref aK)=some false) (i0:aa K (.ref ai) (.ref aK)=some false) (lj:aa K (.ref aC) (.ref aK)=some false) (j2:aa K (.ref av) (.ref aK)=some false) (l0:aa K (.ref aK) (.ref aK)=some true) (lp:aa K (.ref aF) (.ref aK)=some false) (km:aa K (.ref aw) (.ref aK)=some false) (jo:aa K (.ref aq) (.ref aK)=some false) (kO:aa K (.ref ax) (.ref aK)=some false) (jJ:aa K (.ref ar) (.ref aK)=some false) (lq:aa K (.ref aG) (.ref aK)=some false) (lg:aa K (.ref aB) (.ref aK)=some false) (fz:aa K (.ref ag) (.ref aK)=some false) (i3:aa K (.ref aj) (.ref aK)=some false) (eZ:aa K (.ref ah) (.ref ar)=some false) (iv:aa K (.ref aA) (.ref ar)=some false) (iI:aa K (.ref aE) (.ref ar)=some false) (e8:aa K (.ref ai) (.ref ar)=some false) (iD:aa K (.ref aC) (.ref ar)=some false) (f9:aa K (.ref av) (.ref ar)=some false) (jL:aa K (.ref aK) (.ref ar)=some false) (iK:aa K (.ref aF) (.ref ar)=some false) (gv:aa K (.ref aw) (.ref ar)=some false) (fB:aa K (.ref aq) (.ref ar)=some false) (gQ:aa K (.ref ax) (.ref ar)=some false) (fG:aa K (.ref ar) (.ref ar)=some true) (iM:aa K (.ref aG) (.ref ar)=some false) (iq:aa K (.ref aB) (.ref ar)=some false) (dE:aa K (.ref ag) (.ref ar)=some false) (fb:aa K (.ref aj) (.ref ar)=some false) (fL:aa K (.ref ah) (.ref ax)=some false) (jn:aa K (.ref aA) (.ref ax)=some false) (jC:aa K (.ref aE) (.ref ax)=some false) (fR:aa K (.ref ai) (.ref ax)=some false) (jt:aa K (.ref aC) (.ref ax)=some false) (il:aa K (.ref av) (.ref ax)=some false) (kN:aa K (.ref aK) (.ref ax)=some false) (jF:aa K (.ref aF) (.ref ax)=some false) (iG:aa K (.ref aw) (.ref ax)=some false) (gm:aa K (.ref aq) (.ref ax)=some false) (iZ:aa K (.ref ax) (.ref ax)=some true) (gI:aa K (.ref ar) (.ref ax)=some false) (jI:aa K (.ref aG) (.ref ax)=some false) (jk:aa K (.ref aB) (.ref ax)=some false) (dW:aa K (.ref ag) (.ref ax)=some false) (fU:aa K (.ref aj) (.ref ax)=some false) (eY:aa K (.ref ah) (.ref aq)=some false) (iu:aa K (.ref aA) (.ref aq)=some false) (iH:aa K (.ref aE) (.ref aq)=some false) (e7:aa K (.ref ai) (.ref aq)=some false) (iC:aa K (.ref aC) (.ref aq)=some false) (f7:aa K (.ref av) (.ref aq)=some false) (jK:aa K (.ref aK) (.ref aq)=some false) (iJ:aa K (.ref aF) (.ref aq)=some false) (gu:aa K (.ref aw) (.ref aq)=some false) (fA:aa K (.ref aq) (.ref aq)=some true) (gP:aa K (.ref ax) (.ref aq)=some false) (fF:aa K (.ref ar) (.ref aq)=some false) (iL:aa K (.ref aG) (.ref aq)=some false) (ip:aa K (.ref aB) (.ref aq)=some false) (dD:aa K (.ref ag) (.ref aq)=some false) (e9:aa K (.ref aj) (.ref aq)=some false) (dg:aa K (.ref ah) (.ref ag)=some false) (eN:aa K (.ref aA) (.ref ag)=some false) (eS:aa K (.ref aE) (.ref ag)=some false) (dh:aa K (.ref ai) (.ref ag)=some false) (eR:aa K (.ref aC) (.ref ag)=some false) (dR:aa K (.ref av) (.ref ag)=some false) (fH:aa K (.ref aK) (.ref ag)=some false) (eT:aa K (.ref aF) (.ref ag)=some false) (dZ:aa K (.ref aw) (.ref ag)=some false) (dF:aa K (.ref aq) (.ref ag)=some false) (eg:aa K (.ref ax) (.ref ag)=some false) (dG:aa K (.ref ar) (.ref ag)=some false) (eU:aa K (.ref aG) (.ref ag)=some false) (eM:aa K (.ref aB) (.ref ag)=some false) (cU:aa K (.ref ag) (.ref ag)=some true) (di:aa K (.ref aj) (.ref ag)=some false) (gJ:aa K (.ref ah) (.ref aB)=some false) (j9:aa K (.ref aA) (.ref aB)=some false) (kn:aa K (.ref aE) (.ref aB)=some false) (gR:aa K (.ref ai) (.ref aB)=some false) (kf:aa K (.ref aC) (.ref aB)=some false) (jc:aa K (.ref av) (.ref aB)=some false) (lr:aa K (.ref aK) (.ref aB)=some false) (kz:aa K (.ref aF) (.ref aB)=some false) (ju:aa K (.ref aw) (.ref aB)=some false) (iw:aa K (.ref aq) (.ref aB)=some false) (jM:aa K (.ref ax) (.ref aB)=some false) (iN:aa K (.ref ar) (.ref aB)=some false) (kF:aa K (.ref aG) (.ref aB)=some false) (j3:aa K (.ref aB) (.ref aB)=some true) (eE:aa K (.ref ag) (.ref aB)=some false) (gY:aa K (.ref aj) (.ref aB)=some false) (gO:aa K (.ref ah) (.ref aG)=some false) (ke:aa K (.ref aA) (.ref aG)=some false) (ky:aa K (.ref aE) (.ref aG)=some false) (gX:aa K (.ref ai) (.ref aG)=some false) (kl:aa K (.ref aC) (.ref aG)=some false) (jh:aa K (.ref av) (.ref aG)=some false) (lA:aa K (.ref aK) (.ref aG)=some false) (kE:aa K (.ref aF) (.ref aG)=some false) (jz:aa K (.ref aw) (.ref aG)=some false) (iB:aa K (.ref aq) (.ref aG)=some false) (jR:aa K (.ref ax) (.ref aG)=some false) (iS:aa K (.ref ar) (.ref aG)=some false) (kK:aa K (.ref aG) (.ref aG)=some true) (j8:aa K (.ref aB) (.ref aG)=some false) (eL:aa K (.ref ag) (.ref aG)=some false) (hB:aa K (.ref aj) (.ref aG)=some false):l4 P w K mg base qd 1 f fd ["_law_error"] (nN K ft) :=
 Ir F nP sr fun _ _ _ _ _ _ hr=>have nd:=nP.nd; (cc (D1 (i:=1) nd rfl (lI (aH (cJ az rfl aS rfl pI m4 (ae ⟨_,aW,d8,a0⟩ (ae ⟨_,bC,gf,bK⟩ (ae ⟨_,bN,gw,bU⟩ (ae ⟨_,a3,eh,a7⟩ (ae ⟨_,bM,gp,bT⟩ (ae ⟨_,bz,fw,bG⟩ (ae ⟨_,b9,iT,cg⟩ (ae ⟨_,bO,gz,bV⟩ (ae ⟨_,bA,fC,bH⟩ (ae ⟨_,ba,eO,bq⟩ (ae ⟨_,bB,fM,bI⟩ (ae ⟨_,bb,eV,br⟩ (ae ⟨_,bP,gC,bW⟩ (ae ⟨_,bL,gb,bS⟩ (ae ⟨_,aR,dc,aT⟩ (ae ⟨_,a4,er,a8⟩ cx)))))))))))))))) (dJ 0)) (aH (cJ az rfl aS rfl tD qt (ae ⟨_,aW,gK,a0⟩ (ae ⟨_,bC,ka,bK⟩ (ae ⟨_,bN,ko,bU⟩ (ae ⟨_,a3,gS,a7⟩ (ae ⟨_,bM,kg,bT⟩ (ae ⟨_,bz,jd,bG⟩ (ae ⟨_,b9,lu,cg⟩ (ae ⟨_,bO,kA,bV⟩ (ae ⟨_,bA,jv,bH⟩ (ae ⟨_,ba,ix,bq⟩ (ae ⟨_,bB,jN,bI⟩ (ae ⟨_,bb,iO,br⟩ (ae ⟨_,bP,kG,bW⟩ (ae ⟨_,bL,j4,bS⟩ (ae ⟨_,aR,eF,aT⟩ (ae ⟨_,a4,gZ,a8⟩ cx)))))))))))))))) (dJ 0)) (aH (cJ az rfl aS rfl tF qw (ae ⟨_,aW,gM,a0⟩ (ae ⟨_,bC,kc,bK⟩ (ae ⟨_,bN,kr,bU⟩ (ae ⟨_,a3,gU,a7⟩ (ae ⟨_,bM,ki,bT⟩ (ae ⟨_,bz,jf,bG⟩ (ae ⟨_,b9,ly,cg⟩ (ae ⟨_,bO,kC,bV⟩ (ae ⟨_,bA,jx,bH⟩ (ae ⟨_,ba,iz,bq⟩ (ae ⟨_,bB,jP,bI⟩ (ae ⟨_,bb,iQ,br⟩ (ae ⟨_,bP,kI,bW⟩ (ae ⟨_,bL,j6,bS⟩ (ae ⟨_,aR,eI,aT⟩ (ae ⟨_,a4,g7,a8⟩ cx)))))))))))))))) (dJ 0)) bf)))))
 (cc (mD (qo cT cL cK mz j1 (dJ 1) (aH (lI (aH (cJ az rfl aS rfl pJ nc (ae ⟨_,aW,ee,a0⟩ (ae ⟨_,bC,gh,bK⟩ (ae ⟨_,bN,gx,bU⟩ (ae ⟨_,a3,ei,a7⟩ (ae ⟨_,bM,gq,bT⟩ (ae ⟨_,bz,fx,bG⟩ (ae ⟨_,b9,iU,cg⟩ (ae ⟨_,bO,gA,bV⟩ (ae ⟨_,bA,fD,bH⟩ (ae ⟨_,ba,eP,bq⟩ (ae ⟨_,bB,fN,bI⟩ (ae ⟨_,bb,eW,br⟩ (ae ⟨_,bP,gE,bW⟩ (ae ⟨_,bL,gc,bS⟩ (ae ⟨_,aR,de,aT⟩ (ae ⟨_,a4,et,a8⟩ cx)))))))))))))))) (dJ 0)) (aH (cJ az rfl aS rfl tE qu (ae ⟨_,aW,gL,a0⟩ (ae ⟨_,bC,kb,bK⟩ (ae ⟨_,bN,kq,bU⟩ (ae ⟨_,a3,gT,a7⟩ (ae ⟨_,bM,kh,bT⟩ (ae ⟨_,bz,je,bG⟩ (ae ⟨_,b9,lx,cg⟩ (ae ⟨_,bO,kB,bV⟩ (ae ⟨_,bA,jw,bH⟩ (ae ⟨_,ba,iy,bq⟩ (ae ⟨_,bB,jO,bI⟩ (ae ⟨_,bb,iP,br⟩ (ae ⟨_,bP,kH,bW⟩ (ae ⟨_,bL,j5,bS⟩ (ae ⟨_,aR,eG,aT⟩ (ae ⟨_,a4,g6,a8⟩ cx)))))))))))))))) (dJ 0)) (aH (cJ az rfl aS rfl rW oU (ae ⟨_,aW,fJ,a0⟩ (ae ⟨_,bC,jl,bK⟩ (ae ⟨_,bN,jA,bU⟩ (ae ⟨_,a3,fP,a7⟩ (ae ⟨_,bM,jq,bT⟩ (ae ⟨_,bz,ij,bG⟩ (ae ⟨_,b9,kL,cg⟩ (ae ⟨_,bO,jD,bV⟩ (ae ⟨_,bA,iE,bH⟩ (ae ⟨_,ba,gj,bq⟩ (ae ⟨_,bB,iX,bI⟩ (ae ⟨_,bb,gG,br⟩ (ae ⟨_,bP,jG,bW⟩ (ae ⟨_,bL,ji,bS⟩ (ae ⟨_,aR,dS,aT⟩ (ae ⟨_,a4,fS,a8⟩ cx)))))))))))))))) (dJ 0)) bf)))) bf)))
 (cc (mD (qo cT cL cK mz j1 (dJ 1) (aH (lI (aH (cJ az rfl aS rfl wa se (ae ⟨_,aW,iW,a0⟩ (ae ⟨_,bC,lh,bK⟩ (ae ⟨_,bN,ll,bU⟩ (ae ⟨_,a3,i0,a7⟩ (ae ⟨_,bM,lj,bT⟩ (ae ⟨_,bz,j2,bG⟩ (ae ⟨_,b9,l0,cg⟩ (ae ⟨_,bO,lp,bV⟩ (ae ⟨_,bA,km,bH⟩ (ae ⟨_,ba,jo,bq⟩ (ae ⟨_,bB,kO,bI⟩ (ae ⟨_,bb,jJ,br⟩ (ae ⟨_,bP,lq,bW⟩ (ae ⟨_,bL,lg,bS⟩ (ae ⟨_,aR,fz,aT⟩ (ae ⟨_,a4,i3,a8⟩ cx)))))))))))))))) (dJ 0)) (aH (cJ az rfl aS rfl tG qx (ae ⟨_,aW,gN,a0⟩ (ae ⟨_,bC,kd,bK⟩ (ae ⟨_,bN,ku,bU⟩ (ae ⟨_,a3,gW,a7⟩ (ae ⟨_,bM,kj,bT⟩ (ae ⟨_,bz,jg,bG⟩ (ae ⟨_,b9,lz,cg⟩ (ae ⟨_,bO,kD,bV⟩ (ae ⟨_,bA,jy,bH⟩ (ae ⟨_,ba,iA,bq⟩ (ae ⟨_,bB,jQ,bI⟩ (ae ⟨_,bb,iR,br⟩ (ae ⟨_,bP,kJ,bW⟩ (ae ⟨_,bL,j7,bS⟩ (ae ⟨_,aR,eK,aT⟩ (ae ⟨_,a4,g8,a8⟩ cx)))))))))))))))) (dJ 0)) (aH (cJ az rfl aS rfl rX oV (ae ⟨_,aW,fK,a0⟩ (ae ⟨_,bC,jm,bK⟩ (ae ⟨_,bN,jB,bU⟩ (ae ⟨_,a3,fQ,a7⟩ (ae ⟨_,bM,jr,bT⟩ (ae ⟨_,bz,ik,bG⟩ (ae ⟨_,b9,kM,cg⟩ (ae ⟨_,bO,jE,bV⟩ (ae ⟨_,bA,iF,bH⟩ (ae ⟨_,ba,gk,bq⟩ (ae ⟨_,bB,iY,bI⟩ (ae ⟨_,bb,gH,br⟩ (ae ⟨_,bP,jH,bW⟩ (ae ⟨_,bL,jj,bS⟩ (ae ⟨_,aR,dU,aT⟩ (ae ⟨_,a4,fT,a8⟩ cx)))))))))))))))) (dJ 0)) bf)))) bf)))
 (cc (mD (qo cT cL cK mz j1 (dJ 1) (aH (lI (aH (cJ az rfl aS rfl qK nY (ae ⟨_,aW,eY,a0⟩ (ae ⟨_,bC,iu,bK⟩ (ae ⟨_,bN,iH,bU⟩ (ae ⟨_,a3,e7,a7⟩ (ae ⟨_,bM,iC,bT⟩ (ae ⟨_,bz,f7,bG⟩ (ae ⟨_,b9,jK,cg⟩ (ae ⟨_,bO,iJ,bV⟩ (ae ⟨_,bA,gu,bH⟩ (ae ⟨_,ba,fA,bq⟩ (ae ⟨_,bB,gP,bI⟩ (ae ⟨_,bb,fF,br⟩ (ae ⟨_,bP,iL,bW⟩ (ae ⟨_,bL,ip,bS⟩ (ae ⟨_,aR,dD,aT⟩ (ae ⟨_,a4,e9,a8⟩ cx)))))))))))))))) (dJ 0)) (aH (cJ az rfl aS rfl rY oW (ae ⟨_,aW,fL,a0⟩ (ae ⟨_,bC,jn,bK⟩ (ae ⟨_,bN,jC,bU⟩ (ae ⟨_,a3,fR,a7⟩ (ae ⟨_,bM,jt,bT⟩ (ae ⟨_,bz,il,bG⟩ (ae ⟨_,b9,kN,cg⟩ (ae ⟨_,bO,jF,bV⟩ (ae ⟨_,bA,iG,bH⟩ (ae ⟨_,ba,gm,bq⟩ (ae ⟨_,bB,iZ,bI⟩ (ae ⟨_,bb,gI,br⟩ (ae ⟨_,bP,jI,bW⟩ (ae ⟨_,bL,jk,bS⟩ (ae ⟨_,aR,dW,aT⟩ (ae ⟨_,a4,fU,a8⟩ cx)))))))))))))))) (dJ 0)) (aH (cJ az rfl aS rfl qL nZ (ae ⟨_,aW,eZ,a0⟩ (ae ⟨_,bC,iv,bK⟩ (ae ⟨_,bN,iI,bU⟩ (ae ⟨_,a3,e8,a7⟩ (ae ⟨_,bM,iD,bT⟩ (ae ⟨_,bz,f9,bG⟩ (ae ⟨_,b9,jL,cg⟩ (ae ⟨_,bO,iK,bV⟩ (ae ⟨_,bA,gv,bH⟩ (ae ⟨_,ba,fB,bq⟩ (ae ⟨_,bB,gQ,bI⟩ (ae ⟨_,bb,fG,br⟩ (ae ⟨_,bP,iM,bW⟩ (ae ⟨_,bL,iq,bS⟩ (ae ⟨_,aR,dE,aT⟩ (ae ⟨_,a4,fb,a8⟩ cx)))))))))))))))) (dJ 0)) bf)))) bf)))
 (cc (mD (qo cT cL cK mz j1 (dJ 1) (aH (lI (aH (cJ az rfl aS rfl tH qy (ae ⟨_,aW,gO,a0⟩ (ae ⟨_,bC,ke,bK⟩ (ae ⟨_,bN,ky,bU⟩ (ae ⟨_,a3,gX,a7⟩ (ae ⟨_,bM,kl,bT⟩ (ae ⟨_,bz,jh,bG⟩ (ae ⟨_,b9,lA,cg⟩ (ae ⟨_,bO,kE,bV⟩ (ae ⟨_,bA,jz,bH⟩ (ae ⟨_,ba,iB,bq⟩ (ae ⟨_,bB,jR,bI⟩ (ae ⟨_,bb,iS,br⟩ (ae ⟨_,bP,kK,bW⟩ (ae ⟨_,bL,j8,bS⟩ (ae ⟨_,aR,eL,aT⟩ (ae ⟨_,a4,hB,a8⟩ cx)))))))))))))))) (dJ 0)) (aH (cJ az rfl aS rfl tx qr (ae ⟨_,aW,gJ,a0⟩ (ae ⟨_,bC,j9,bK⟩ (ae ⟨_,bN,kn,bU⟩ (ae ⟨_,a3,gR,a7⟩ (ae ⟨_,bM,kf,bT⟩ (ae ⟨_,bz,jc,bG⟩ (ae ⟨_,b9,lr,cg⟩ (ae ⟨_,bO,kz,bV⟩ (ae ⟨_,bA,ju,bH⟩ (ae ⟨_,ba,iw,bq⟩ (ae ⟨_,bB,jM,bI⟩ (ae ⟨_,bb,iN,br⟩ (ae ⟨_,bP,kF,bW⟩ (ae ⟨_,bL,j3,bS⟩ (ae ⟨_,aR,eE,aT⟩ (ae ⟨_,a4,gY,a8⟩ cx)))))))))))))))) (dJ 0)) (aH (cJ az rfl aS rfl nX lZ (ae ⟨_,aW,dg,a0⟩ (ae ⟨_,bC,eN,bK⟩ (ae ⟨_,bN,eS,bU⟩ (ae ⟨_,a3,dh,a7⟩ (ae ⟨_,bM,eR,bT⟩ (ae ⟨_,bz,dR,bG⟩ (ae ⟨_,b9,fH,cg⟩ (ae ⟨_,bO,eT,bV⟩ (ae ⟨_,bA,dZ,bH⟩ (ae ⟨_,ba,dF,bq⟩ (ae ⟨_,bB,eg,bI⟩ (ae ⟨_,bb,dG,br⟩ (ae ⟨_,bP,eU,bW⟩ (ae ⟨_,bL,eM,bS⟩ (ae ⟨_,aR,cU,aT⟩ (ae ⟨_,a4,di,a8⟩ cx)))))))))))))))) (dJ 0)) bf)))) bf)))
 (fu (kU (mi (dJ 1)))))))))
theorem uF:ff ["_law_found"] ["_law_found"] (bw (top 19)):=Ft
theorem uX {f:Addr} {fd:bh} (F:yv K "_law_whole" "_law_whole" (top 19) f fd) (uN:mg "bool" = none) (ya:mg "int" = none) (aS:mg "isinstance" = none):l4 P w K mg base qd 1 f fd ["_law_found"] (nN K i8) :=
 Ir F uF ve fun _ _ _ _ _ _ hr=>(fu (kU (mi (yY (yW "int" (by decide) rfl aS rfl ya GB (dJ 0)) (yV (D6 (yW "bool" (by decide) rfl aS rfl uN EC (dJ 0))))))))
theorem BV:ff ["_law_script","_law_words","_law_word","_law_place","_law_line","_law_at","_law_errors_here","_law_k","_law_base"] ["_law_script"] (bw (top 22)):=Ft
theorem Gq {f:Addr} {fd:bh} (F:yv K "law" "law" (top 22) f fd) (kW:mg "ValueError" = none) (aS:mg "isinstance" = none) (nW:mg "range" = none) {ah:Addr} (aW:ay K ao "NoDrawing" = some (some (.ref ah))) (pI:mg "NoDrawing" = some (.ref ah)) (a0:bX K ah) {aA:Addr} (bC:ay K ao "NoText" = some (some (.ref aA))) (tD:mg "NoText" = some (.ref aA)) (bK:bX K aA) {aE:Addr} (bN:ay K ao "NoName" = some (some (.ref aE))) (tF:mg "NoName" = some (.ref aE)) (bU:bX K aE) {ai:Addr} (a3:ay K ao "NameTaken" = some (some (.ref ai))) (pJ:mg "NameTaken" = some (.ref ai)) (a7:bX K ai) {aC:Addr} (bM:ay K ao "NoSpot" = some (some (.ref aC))) (tE:mg "NoSpot" = some (.ref aC)) (bT:bX K aC) {av:Addr} (bz:ay K ao "TooMany" = some (some (.ref av))) (rW:mg "TooMany" = some (.ref av)) (bG:bX K av) {aK:Addr} (b9:ay K ao "NoFit" = some (some (.ref aK))) (wa:mg "NoFit" = some (.ref aK)) (cg:bX K aK) {aF:Addr} (bO:ay K ao "NoMove" = some (some (.ref aF))) (tG:mg "NoMove" = some (.ref aF)) (bV:bX K aF) {aw:Addr} (bA:ay K ao "NoPrime" = some (some (.ref aw))) (rX:mg "NoPrime" = some (.ref aw)) (bH:bX K aw) {aq:Addr} (ba:ay K ao "NoString" = some (some (.ref aq))) (qK:mg "NoString" = some (.ref aq)) (bq:bX K aq) {ax:Addr} (bB:ay K ao "NoBraid" = some (some (.ref ax))) (rY:mg "NoBraid" = some (.ref ax)) (bI:bX K ax) {ar:Addr} (bb:ay K ao "NoLength" = some (some (.ref ar))) (qL:mg "NoLength" = some (.ref ar)) (br:bX K ar) {aG:Addr} (bP:ay K ao "NoMark" = some (some (.ref aG))) (tH:mg "NoMark" = some (.ref aG)) (bW:bX K aG) {aB:Addr} (bL:ay K ao "NoWord" = some (some (.ref aB))) (tx:mg "NoWord" = some (.ref aB)) (bS:bX K aB) {ag:Addr} (aR:ay K ao "NothingDone" = some (some (.ref ag))) (nX:mg "NothingDone" = some (.ref ag)) (aT:bX K ag) {aj:Addr} (a4:ay K ao "KnotError" = some (some (.ref aj))) (pK:mg "KnotError" = some (.ref aj)) (a8:bX K aj) (jT:p5 K "NoDrawing" "word") (ez:p5 K "NoDrawing" "place") (jS:p5 K "NoText" "line") (nk:p5 K "NoText" "at") {p7:Addr} (lG:pe K "KnotError" p7) (uK:mg "KnotError" = some (.ref p7)) (ng:aa K (.type "NoneType") (.ref aj)=some false) (ef:aa K (.ref ah) (.ref aj)=some true) (gi:aa K (.ref aA) (.ref aj)=some true) (gy:aa K (.ref aE) (.ref aj)=some true) (ek:aa K (.ref ai) (.ref aj)=some true) (gr:aa K (.ref aC) (.ref aj)=some true) (fy:aa K (.ref av) (.ref aj)=some true) (iV:aa K (.ref aK) (.ref aj)=some true) (gB:aa K (.ref aF) (.ref aj)=some true) (fE:aa K (.ref aw) (.ref aj)=some true) (eQ:aa K (.ref aq) (.ref aj)=some true) (fO:aa K (.ref ax) (.ref aj)=some true) (eX:aa K (.ref ar) (.ref aj)=some true) (gF:aa K (.ref aG) (.ref aj)=some true) (gd:aa K (.ref aB) (.ref aj)=some true) (df:aa K (.ref ag) (.ref aj)=some true) (eu:aa K (.ref aj) (.ref aj)=some true) (lJ:aa K (.ref ah) (.type "ValueError")=some true) (oy:aa K (.ref aA) (.type "ValueError")=some true) (oA:aa K (.ref aE) (.type "ValueError")=some true) (lK:aa K (.ref ai) (.type "ValueError")=some true) (oz:aa K (.ref aC) (.type "ValueError")=some true) (mX:aa K (.ref av) (.type "ValueError")=some true) (pP:aa K (.ref aK) (.type "ValueError")=some true) (oB:aa K (.ref aF) (.type "ValueError")=some true) (mY:aa K (.ref aw) (.type "ValueError")=some true) (md:aa K (.ref aq) (.type "ValueError")=some true) (mZ:aa K (.ref ax) (.type "ValueError")=some true) (me:aa K (.ref ar) (.type "ValueError")=some true) (oC:aa K (.ref aG) (.type "ValueError")=some true) (ow:aa K (.ref aB) (.type "ValueError")=some true) (jb:aa K (.ref ag) (.type "ValueError")=some true) (lL:aa K (.ref aj) (.type "ValueError")=some true) {ym:Addr} {yt:bh} (bQ:Jq P w K mg base qd 1 ym yt "_law_cell" ["_law_script","_law_k"] (nN K c7)) {uY:Addr} {u4:bh} (lP:Jq P w K mg base qd 3 uY u4 "_law_errors" ["_law_word","_law_place","_law_line","_law_at","_law_text"] (nN K kT)) {sU:Addr} {sW:bh} (cR:Jq P w K mg base qd 1 sU sW "_law_classes" ["_law_error"] (nN K ft)) {wu:Addr} {wC:bh} (dO:Jq P w K mg base qd 1 wu wC "_law_whole" ["_law_found"] (nN K i8)):l4 P w K mg base qd 4 f fd ["_law_script"] (nN K K2.tw) :=
 Ir F BV GF fun _ _ _ _ _ _ hr=>have nd:=BV.nd; have hu:=hr.units; (cc (D1 (i:=1) nd rfl (lI (aH lH (aH lH (aH lH (aH lH (aH lH (aH lH (aH lH (aH lH bf))))))))))
 (cc (D1 (i:=2) nd rfl (lY hu (dJ 1) (lX pG (eD bQ.ok (hr.mono (by decide)) rfl bQ.mg bQ.kp bQ.bi (aH (dJ 0) (aH cm bf))) cm) (fun _ _=>rfl)))
 (cc (D1 (i:=3) nd rfl (lX pG (eD bQ.ok (hr.mono (by decide)) rfl bQ.mg bQ.kp bQ.bi (aH (dJ 0) (aH cm bf))) (lX uM (lX uL cm cm) cm)))
 (cc (D1 (i:=4) nd rfl (lX pG (eD bQ.ok (hr.mono (by decide)) rfl bQ.mg bQ.kp bQ.bi (aH (dJ 0) (aH cm bf))) (lX uM (lX uL cm cm) cm)))
 (cc (D1 (i:=5) nd rfl (lX pG (eD bQ.ok (hr.mono (by decide)) rfl bQ.mg bQ.kp bQ.bi (aH (dJ 0) (aH cm bf))) (lX uM (lX uL cm cm) cm)))
 (cc (D1 (i:=6) nd rfl (eD lP.ok (hr.mono (by decide)) rfl lP.mg lP.kp lP.bi (aH (dJ 2) (aH (dJ 3) (aH (dJ 4) (aH (dJ 5) (aH (x5 (dJ 2) (B6 (lX pG (eD bQ.ok (hr.mono (by decide)) rfl bQ.mg bQ.kp bQ.bi (aH (dJ 0) (aH cm bf))) cm)) B7) bf)))))))
 (cc (D4 PassesOwn.never rfl (oQ rfl nW cm) (JE (i:=7) nd rfl) (cc (rQ (Fb.pt (rP (ri (oh (cJ az rfl aS rfl pK ng (ae ⟨_,aW,ef,a0⟩ (ae ⟨_,bC,gi,bK⟩ (ae ⟨_,bN,gy,bU⟩ (ae ⟨_,a3,ek,a7⟩ (ae ⟨_,bM,gr,bT⟩ (ae ⟨_,bz,fy,bG⟩ (ae ⟨_,b9,iV,cg⟩ (ae ⟨_,bO,gB,bV⟩ (ae ⟨_,bA,fE,bH⟩ (ae ⟨_,ba,eQ,bq⟩ (ae ⟨_,bB,fO,bI⟩ (ae ⟨_,bb,eX,br⟩ (ae ⟨_,bP,gF,bW⟩ (ae ⟨_,bL,gd,bS⟩ (ae ⟨_,aR,df,aT⟩ (ae ⟨_,a4,eu,a8⟩ cx)))))))))))))))) (lY hu (dJ 6) (dJ 7) (fun _ _=>rfl))))) (uI (ri (oh (vY az rfl aS rfl kW (ae ⟨_,aW,lJ,a0⟩ (ae ⟨_,bC,oy,bK⟩ (ae ⟨_,bN,oA,bU⟩ (ae ⟨_,a3,lK,a7⟩ (ae ⟨_,bM,oz,bT⟩ (ae ⟨_,bz,mX,bG⟩ (ae ⟨_,b9,pP,cg⟩ (ae ⟨_,bO,oB,bV⟩ (ae ⟨_,bA,mY,bH⟩ (ae ⟨_,ba,md,bq⟩ (ae ⟨_,bB,mZ,bI⟩ (ae ⟨_,bb,me,br⟩ (ae ⟨_,bP,oC,bW⟩ (ae ⟨_,bL,ow,bS⟩ (ae ⟨_,aR,jb,aT⟩ (ae ⟨_,a4,lL,a8⟩ cx)))))))))))))))) (lY hu (dJ 6) (dJ 7) (fun _ _=>rfl)))))))) (fu (kU (mi rS))) nT)
 (fu (rQ (oi (rT hu) (eD cR.ok (hr.mono (by decide)) rfl cR.mg cR.kp cR.bi (aH (lY hu (dJ 6) (dJ 7) (fun _ _=>rfl)) bf)) (v5 ["_law_j","_law_k"] (sc:=bw (top 22)) (XN:=["_law_script","_law_words","_law_word","_law_place","_law_line","_law_at","_law_errors_here","_law_k","_law_base"]) (oQ rfl nW cm) (fun _ _ _ _=>(JE (i:=0) (show (["_law_j","_law_k"]:List Str).Nodup by decide +kernel) rfl)) (fun _ _ _ _=>.none) (fun _ _ _ _=>(yX (Cd hu) (dJ 1) (dJ 0) (nV _)))) (nV _)) (fu (kU (mi rS))) nT))))
 (cc (rQ (Fb.pt (rP (oi (rT hu) (lQ az (ae jT cx) (lY hu (dJ 6) cm (fun _ _=>rfl))) (dJ 2) (nV _)) (rP (oi (rT hu) (lQ az (ae ez cx) (lY hu (dJ 6) cm (fun _ _=>rfl))) (dJ 3) (nV _)) (uI (ri (oh (eD dO.ok (hr.mono (by decide)) rfl dO.mg dO.kp dO.bi (aH (lQ az (ae ez cx) (lY hu (dJ 6) cm (fun _ _=>rfl))) bf)))))))) (fu (kU (mi rS))) nT)
 (cc (rQ (Fb.pt (rP (oi (rT hu) (lQ az (ae jS cx) (lY hu (dJ 6) cm (fun _ _=>rfl))) (dJ 4) (nV _)) (rP (oi (rT hu) (lQ az (ae nk cx) (lY hu (dJ 6) cm (fun _ _=>rfl))) (dJ 5) (nV _)) (uI (ri (oh (eD dO.ok (hr.mono (by decide)) rfl dO.mg dO.kp dO.bi (aH (lQ az (ae jS cx) (lY hu (dJ 6) cm (fun _ _=>rfl))) bf)))))))) (fu (kU (mi rS))) nT)
 (cc (D1 (i:=8) nd rfl (c8 lG rfl uK (aH (dJ 2) bf)))
 (fu (kU (mi (yY (vY az rfl aS rfl kW (ae ⟨_,aW,lJ,a0⟩ (ae ⟨_,bC,oy,bK⟩ (ae ⟨_,bN,oA,bU⟩ (ae ⟨_,a3,lK,a7⟩ (ae ⟨_,bM,oz,bT⟩ (ae ⟨_,bz,mX,bG⟩ (ae ⟨_,b9,pP,cg⟩ (ae ⟨_,bO,oB,bV⟩ (ae ⟨_,bA,mY,bH⟩ (ae ⟨_,ba,md,bq⟩ (ae ⟨_,bB,mZ,bI⟩ (ae ⟨_,bb,me,br⟩ (ae ⟨_,bP,oC,bW⟩ (ae ⟨_,bL,ow,bS⟩ (ae ⟨_,aR,jb,aT⟩ (ae ⟨_,a4,lL,a8⟩ cx)))))))))))))))) (dJ 8)) (yV (yX (Cd hu) (eD cR.ok (hr.mono (by decide)) rfl cR.mg cR.kp cR.bi (aH (dJ 8) bf)) (v5 ["_law_k"] (sc:=bw (top 22)) (XN:=["_law_script","_law_words","_law_word","_law_place","_law_line","_law_at","_law_errors_here","_law_k","_law_base"]) (oQ rfl nW cm) (fun _ _ _ _=>(JE (i:=0) (show (["_law_k"]:List Str).Nodup by decide +kernel) rfl)) (fun _ _ _ _=>.none) (fun _ _ _ _=>rS)) (nV _)))))))))))))))))
end
theorem all_mk {l:t8} {w:World} {K:af} {h:Heap} {mg:Str->Option Value} {fa:Addr} (X:K.In h) (G:h.Ns ao mg) (M0:mg "law" = some (.ref fa))
  {f0:Addr} {d0:bh} (F0:At K "_law_cell" (top 18) f0 d0)
  {A7 f1:Addr} {d1:bh} (F1:GG K A7 "NoText" "NoText.__init__" "line" "at" (Ci 3 0) f1 d1)
  {vf f2:Addr} {d2:bh} (F2:GG K vf "NoDrawing" "NoDrawing.__init__" "word" "place" (Ci 2 0) f2 d2)
  {f3:Addr} {d3:bh} (F3:At K "_law_errors" (top 21) f3 d3)
  {f4:Addr} {d4:bh} (F4:At K "_law_classes" (top 20) f4 d4)
  {f5:Addr} {d5:bh} (F5:At K "_law_whole" (top 19) f5 d5)
  {f6:Addr} {d6:bh} (F6:At K "law" (top 22) f6 d6)
  (Hd:autoParam (ay K ao "len" = some none) Aq._auto_1) (ua:autoParam (ay K ao "isinstance" = some none) Aq._auto_1) (Fe:autoParam (ay K ao "bool" = some none) Aq._auto_1) (He:autoParam (ay K ao "int" = some none) Aq._auto_1) (ub:autoParam (ay K ao "ValueError" = some none) Aq._auto_1) (DS:autoParam (ay K ao "range" = some none) Aq._auto_1) {A9:Addr} (oo:autoParam (pe K "NoSpot" A9) Ap._auto_1) {vg:Addr} (lF:autoParam (pe K "NameTaken" vg) Ap._auto_1) {Ba:Addr} (oq:autoParam (pe K "NoName" Ba) Ap._auto_1) {wU:Addr} (l8:autoParam (pe K "NoString" wU) Ap._auto_1) {yz:Addr} (mT:autoParam (pe K "NoPrime" yz) Ap._auto_1) {Bb:Addr} (ot:autoParam (pe K "NoMove" Bb) Ap._auto_1) {Dn:Addr} (pF:autoParam (pe K "NoFit" Dn) Ap._auto_1) {yy:Addr} (mS:autoParam (pe K "TooMany" yy) Ap._auto_1) {su:Addr} (ja:autoParam (pe K "NothingDone" su) Ap._auto_1) {A8:Addr} (om:autoParam (pe K "NoWord" A8) Ap._auto_1) {Bc:Addr} (ou:autoParam (pe K "NoMark" Bc) Ap._auto_1) {wV:Addr} (ma:autoParam (pe K "NoLength" wV) Ap._auto_1) {yA:Addr} (mU:autoParam (pe K "NoBraid" yA) Ap._auto_1) {vh:Addr} (lG:autoParam (pe K "KnotError" vh) Ap._auto_1) {vk:Addr} (lN:autoParam (Jp K "KnotError" vk) Ab._auto_1) {ah:Addr} (aW:autoParam (ay K ao "NoDrawing" = some (some (.ref ah))) Aq._auto_1) (uC:autoParam (ak K (.ref ah) "__getattribute__" = some (some (.builtin "BaseException.__getattribute__"))) Af._auto_1) (uz:autoParam (ak K (.ref ah) "__getattr__" = some none) Af._auto_1) (uw:autoParam (ak K (.ref ah) "__class__" = some (some (.builtin "object.__class__"))) Af._auto_1) (ur:autoParam (a5 K (.builtin "object.__class__") "__get__" = some (some (.builtin "getset_descriptor.__get__"))) Af._auto_1) (um:autoParam (bD K (.builtin "object.__class__")=some true) Af._auto_1) (ui:autoParam (aO K ah (.type "object")=some true) Af._auto_1) (uf:autoParam (aO K ah (.type "BaseException")=some true) Af._auto_1) (uc:autoParam ((b6 K ah).isSome=true) Af._auto_1) {aA:Addr} (bC:autoParam (ay K ao "NoText" = some (some (.ref aA))) Aq._auto_1) (z9:autoParam (ak K (.ref aA) "__getattribute__" = some (some (.builtin "BaseException.__getattribute__"))) Af._auto_1) (z0:autoParam (ak K (.ref aA) "__getattr__" = some none) Af._auto_1) (zU:autoParam (ak K (.ref aA) "__class__" = some (some (.builtin "object.__class__"))) Af._auto_1) (zO:autoParam (a5 K (.builtin "object.__class__") "__get__" = some (some (.builtin "getset_descriptor.__get__"))) Af._auto_1) (zI:autoParam (bD K (.builtin "object.__class__")=some true) Af._auto_1) (zC:autoParam (aO K aA (.type "object")=some true) Af._auto_1) (zw:autoParam (aO K aA (.type "BaseException")=some true) Af._auto_1) (zp:autoParam ((b6 K aA).isSome=true) Af._auto_1) {aE:Addr} (bN:autoParam (ay K ao "NoName" = some (some (.ref aE))) Aq._auto_1) (Ae:autoParam (ak K (.ref aE) "__getattribute__" = some (some (.builtin "BaseException.__getattribute__"))) Af._auto_1) (z5:autoParam (ak K (.ref aE) "__getattr__" = some none) Af._auto_1) (zW:autoParam (ak K (.ref aE) "__class__" = some (some (.builtin "object.__class__"))) Af._auto_1) (zQ:autoParam (a5 K (.builtin "object.__class__") "__get__" = some (some (.builtin "getset_descriptor.__get__"))) Af._auto_1) (zK:autoParam (bD K (.builtin "object.__class__")=some true) Af._auto_1) (zE:autoParam (aO K aE (.type "object")=some true) Af._auto_1) (zy:autoParam (aO K aE (.type "BaseException")=some true) Af._auto_1) (zr:autoParam ((b6 K aE).isSome=true) Af._auto_1) {ai:Addr} (a3:autoParam (ay K ao "NameTaken" = some (some (.ref ai))) Aq._auto_1) (uD:autoParam (ak K (.ref ai) "__getattribute__" = some (some (.builtin "BaseException.__getattribute__"))) Af._auto_1) (uA:autoParam (ak K (.ref ai) "__getattr__" = some none) Af._auto_1) (ux:autoParam (ak K (.ref ai) "__class__" = some (some (.builtin "object.__class__"))) Af._auto_1) (uu:autoParam (a5 K (.builtin "object.__class__") "__get__" = some (some (.builtin "getset_descriptor.__get__"))) Af._auto_1) (uo:autoParam (bD K (.builtin "object.__class__")=some true) Af._auto_1) (uj:autoParam (aO K ai (.type "object")=some true) Af._auto_1) (ug:autoParam (aO K ai (.type "BaseException")=some true) Af._auto_1) (ud:autoParam ((b6 K ai).isSome=true) Af._auto_1) {aC:Addr} (bM:autoParam (ay K ao "NoSpot" = some (some (.ref aC))) Aq._auto_1) (Aa:autoParam (ak K (.ref aC) "__getattribute__" = some (some (.builtin "BaseException.__getattribute__"))) Af._auto_1) (z4:autoParam (ak K (.ref aC) "__getattr__" = some none) Af._auto_1) (zV:autoParam (ak K (.ref aC) "__class__" = some (some (.builtin "object.__class__"))) Af._auto_1) (zP:autoParam (a5 K (.builtin "object.__class__") "__get__" = some (some (.builtin "getset_descriptor.__get__"))) Af._auto_1) (zJ:autoParam (bD K (.builtin "object.__class__")=some true) Af._auto_1) (zD:autoParam (aO K aC (.type "object")=some true) Af._auto_1) (zx:autoParam (aO K aC (.type "BaseException")=some true) Af._auto_1) (zq:autoParam ((b6 K aC).isSome=true) Af._auto_1) {av:Addr} (bz:autoParam (ay K ao "TooMany" = some (some (.ref av))) Aq._auto_1) (xN:autoParam (ak K (.ref av) "__getattribute__" = some (some (.builtin "BaseException.__getattribute__"))) Af._auto_1) (xJ:autoParam (ak K (.ref av) "__getattr__" = some none) Af._auto_1) (xG:autoParam (ak K (.ref av) "__class__" = some (some (.builtin "object.__class__"))) Af._auto_1) (xD:autoParam (a5 K (.builtin "object.__class__") "__get__" = some (some (.builtin "getset_descriptor.__get__"))) Af._auto_1) (xA:autoParam (bD K (.builtin "object.__class__")=some true) Af._auto_1) (xw:autoParam (aO K av (.type "object")=some true) Af._auto_1) (xr:autoParam (aO K av (.type "BaseException")=some true) Af._auto_1) (xo:autoParam ((b6 K av).isSome=true) Af._auto_1) {aK:Addr} (b9:autoParam (ay K ao "NoFit" = some (some (.ref aK))) Aq._auto_1) (BL:autoParam (ak K (.ref aK) "__getattribute__" = some (some (.builtin "BaseException.__getattribute__"))) Af._auto_1) (BK:autoParam (ak K (.ref aK) "__getattr__" = some none) Af._auto_1) (BJ:autoParam (ak K (.ref aK) "__class__" = some (some (.builtin "object.__class__"))) Af._auto_1) (BI:autoParam (a5 K (.builtin "object.__class__") "__get__" = some (some (.builtin "getset_descriptor.__get__"))) Af._auto_1) (BH:autoParam (bD K (.builtin "object.__class__")=some true) Af._auto_1) (BG:autoParam (aO K aK (.type "object")=some true) Af._auto_1) (BF:autoParam (aO K aK (.type "BaseException")=some true) Af._auto_1) (BE:autoParam ((b6 K aK).isSome=true) Af._auto_1) {aF:Addr} (bO:autoParam (ay K ao "NoMove" = some (some (.ref aF))) Aq._auto_1) (Ag:autoParam (ak K (.ref aF) "__getattribute__" = some (some (.builtin "BaseException.__getattribute__"))) Af._auto_1) (z6:autoParam (ak K (.ref aF) "__getattr__" = some none) Af._auto_1) (zX:autoParam (ak K (.ref aF) "__class__" = some (some (.builtin "object.__class__"))) Af._auto_1) (zR:autoParam (a5 K (.builtin "object.__class__") "__get__" = some (some (.builtin "getset_descriptor.__get__"))) Af._auto_1) (zL:autoParam (bD K (.builtin "object.__class__")=some true) Af._auto_1) (zF:autoParam (aO K aF (.type "object")=some true) Af._auto_1) (zz:autoParam (aO K aF (.type "BaseException")=some true) Af._auto_1) (zt:autoParam ((b6 K aF).isSome=true) Af._auto_1) {aw:Addr} (bA:autoParam (ay K ao "NoPrime" = some (some (.ref aw))) Aq._auto_1) (xO:autoParam (ak K (.ref aw) "__getattribute__" = some (some (.builtin "BaseException.__getattribute__"))) Af._auto_1) (xK:autoParam (ak K (.ref aw) "__getattr__" = some none) Af._auto_1) (xH:autoParam (ak K (.ref aw) "__class__" = some (some (.builtin "object.__class__"))) Af._auto_1) (xE:autoParam (a5 K (.builtin "object.__class__") "__get__" = some (some (.builtin "getset_descriptor.__get__"))) Af._auto_1) (xB:autoParam (bD K (.builtin "object.__class__")=some true) Af._auto_1) (xx:autoParam (aO K aw (.type "object")=some true) Af._auto_1) (xt:autoParam (aO K aw (.type "BaseException")=some true) Af._auto_1) (xp:autoParam ((b6 K aw).isSome=true) Af._auto_1) {aq:Addr} (ba:autoParam (ay K ao "NoString" = some (some (.ref aq))) Aq._auto_1) (vK:autoParam (ak K (.ref aq) "__getattribute__" = some (some (.builtin "BaseException.__getattribute__"))) Af._auto_1) (vI:autoParam (ak K (.ref aq) "__getattr__" = some none) Af._auto_1) (vG:autoParam (ak K (.ref aq) "__class__" = some (some (.builtin "object.__class__"))) Af._auto_1) (vE:autoParam (a5 K (.builtin "object.__class__") "__get__" = some (some (.builtin "getset_descriptor.__get__"))) Af._auto_1) (vC:autoParam (bD K (.builtin "object.__class__")=some true) Af._auto_1) (vA:autoParam (aO K aq (.type "object")=some true) Af._auto_1) (vy:autoParam (aO K aq (.type "BaseException")=some true) Af._auto_1) (vw:autoParam ((b6 K aq).isSome=true) Af._auto_1) {ax:Addr} (bB:autoParam (ay K ao "NoBraid" = some (some (.ref ax))) Aq._auto_1) (xP:autoParam (ak K (.ref ax) "__getattribute__" = some (some (.builtin "BaseException.__getattribute__"))) Af._auto_1) (xM:autoParam (ak K (.ref ax) "__getattr__" = some none) Af._auto_1) (xI:autoParam (ak K (.ref ax) "__class__" = some (some (.builtin "object.__class__"))) Af._auto_1) (xF:autoParam (a5 K (.builtin "object.__class__") "__get__" = some (some (.builtin "getset_descriptor.__get__"))) Af._auto_1) (xC:autoParam (bD K (.builtin "object.__class__")=some true) Af._auto_1) (xy:autoParam (aO K ax (.type "object")=some true) Af._auto_1) (xu:autoParam (aO K ax (.type "BaseException")=some true) Af._auto_1) (xq:autoParam ((b6 K ax).isSome=true) Af._auto_1) {ar:Addr} (bb:autoParam (ay K ao "NoLength" = some (some (.ref ar))) Aq._auto_1) (vL:autoParam (ak K (.ref ar) "__getattribute__" = some (some (.builtin "BaseException.__getattribute__"))) Af._auto_1) (vJ:autoParam (ak K (.ref ar) "__getattr__" = some none) Af._auto_1) (vH:autoParam (ak K (.ref ar) "__class__" = some (some (.builtin "object.__class__"))) Af._auto_1) (vF:autoParam (a5 K (.builtin "object.__class__") "__get__" = some (some (.builtin "getset_descriptor.__get__"))) Af._auto_1) (vD:autoParam (bD K (.builtin "object.__class__")=some true) Af._auto_1) (vB:autoParam (aO K ar (.type "object")=some true) Af._auto_1) (vz:autoParam (aO K ar (.type "BaseException")=some true) Af._auto_1) (vx:autoParam ((b6 K ar).isSome=true) Af._auto_1) {aG:Addr} (bP:autoParam (ay K ao "NoMark" = some (some (.ref aG))) Aq._auto_1) (Ah:autoParam (ak K (.ref aG) "__getattribute__" = some (some (.builtin "BaseException.__getattribute__"))) Af._auto_1) (z7:autoParam (ak K (.ref aG) "__getattr__" = some none) Af._auto_1) (zY:autoParam (ak K (.ref aG) "__class__" = some (some (.builtin "object.__class__"))) Af._auto_1) (zS:autoParam (a5 K (.builtin "object.__class__") "__get__" = some (some (.builtin "getset_descriptor.__get__"))) Af._auto_1) (zM:autoParam (bD K (.builtin "object.__class__")=some true) Af._auto_1) (zG:autoParam (aO K aG (.type "object")=some true) Af._auto_1) (zA:autoParam (aO K aG (.type "BaseException")=some true) Af._auto_1) (zu:autoParam ((b6 K aG).isSome=true) Af._auto_1) {aB:Addr} (bL:autoParam (ay K ao "NoWord" = some (some (.ref aB))) Aq._auto_1) (z8:autoParam (ak K (.ref aB) "__getattribute__" = some (some (.builtin "BaseException.__getattribute__"))) Af._auto_1) (zZ:autoParam (ak K (.ref aB) "__getattr__" = some none) Af._auto_1) (zT:autoParam (ak K (.ref aB) "__class__" = some (some (.builtin "object.__class__"))) Af._auto_1) (zN:autoParam (a5 K (.builtin "object.__class__") "__get__" = some (some (.builtin "getset_descriptor.__get__"))) Af._auto_1) (zH:autoParam (bD K (.builtin "object.__class__")=some true) Af._auto_1) (zB:autoParam (aO K aB (.type "object")=some true) Af._auto_1) (zv:autoParam (aO K aB (.type "BaseException")=some true) Af._auto_1) (zo:autoParam ((b6 K aB).isSome=true) Af._auto_1) {ag:Addr} (aR:autoParam (ay K ao "NothingDone" = some (some (.ref ag))) Aq._auto_1) (rL:autoParam (ak K (.ref ag) "__getattribute__" = some (some (.builtin "BaseException.__getattribute__"))) Af._auto_1) (rK:autoParam (ak K (.ref ag) "__getattr__" = some none) Af._auto_1) (rJ:autoParam (ak K (.ref ag) "__class__" = some (some (.builtin "object.__class__"))) Af._auto_1) (rH:autoParam (a5 K (.builtin "object.__class__") "__get__" = some (some (.builtin "getset_descriptor.__get__"))) Af._auto_1) (rG:autoParam (bD K (.builtin "object.__class__")=some true) Af._auto_1) (rF:autoParam (aO K ag (.type "object")=some true) Af._auto_1) (rE:autoParam (aO K ag (.type "BaseException")=some true) Af._auto_1) (rD:autoParam ((b6 K ag).isSome=true) Af._auto_1) {aj:Addr} (a4:autoParam (ay K ao "KnotError" = some (some (.ref aj))) Aq._auto_1) (uE:autoParam (ak K (.ref aj) "__getattribute__" = some (some (.builtin "BaseException.__getattribute__"))) Af._auto_1) (uB:autoParam (ak K (.ref aj) "__getattr__" = some none) Af._auto_1) (uy:autoParam (ak K (.ref aj) "__class__" = some (some (.builtin "object.__class__"))) Af._auto_1) (uv:autoParam (a5 K (.builtin "object.__class__") "__get__" = some (some (.builtin "getset_descriptor.__get__"))) Af._auto_1) (uq:autoParam (bD K (.builtin "object.__class__")=some true) Af._auto_1) (uk:autoParam (aO K aj (.type "object")=some true) Af._auto_1) (uh:autoParam (aO K aj (.type "BaseException")=some true) Af._auto_1) (ue:autoParam ((b6 K aj).isSome=true) Af._auto_1) (pU:autoParam (hV K ah=true) Aq._auto_1) (tN:autoParam (hV K aA=true) Aq._auto_1) (pH:autoParam (ak K (.ref ah) "word" = some none) Aq._auto_1) (oR:autoParam (ak K (.ref ah) "place" = some none) Aq._auto_1) (rV:autoParam (ak K (.ref aA) "line" = some none) Aq._auto_1) (uP:autoParam (ak K (.ref aA) "at" = some none) Aq._auto_1) (qw:autoParam (aa K (.type "NoneType") (.ref aE)=some false) Az._auto_1) (qt:autoParam (aa K (.type "NoneType") (.ref aA)=some false) Az._auto_1) (m4:autoParam (aa K (.type "NoneType") (.ref ah)=some false) Az._auto_1) (oU:autoParam (aa K (.type "NoneType") (.ref av)=some false) Az._auto_1) (qu:autoParam (aa K (.type "NoneType") (.ref aC)=some false) Az._auto_1) (nc:autoParam (aa K (.type "NoneType") (.ref ai)=some false) Az._auto_1) (oV:autoParam (aa K (.type "NoneType") (.ref aw)=some false) Az._auto_1) (qx:autoParam (aa K (.type "NoneType") (.ref aF)=some false) Az._auto_1) (se:autoParam (aa K (.type "NoneType") (.ref aK)=some false) Az._auto_1) (nZ:autoParam (aa K (.type "NoneType") (.ref ar)=some false) Az._auto_1) (oW:autoParam (aa K (.type "NoneType") (.ref ax)=some false) Az._auto_1) (nY:autoParam (aa K (.type "NoneType") (.ref aq)=some false) Az._auto_1) (lZ:autoParam (aa K (.type "NoneType") (.ref ag)=some false) Az._auto_1) (qr:autoParam (aa K (.type "NoneType") (.ref aB)=some false) Az._auto_1) (qy:autoParam (aa K (.type "NoneType") (.ref aG)=some false) Az._auto_1) (ng:autoParam (aa K (.type "NoneType") (.ref aj)=some false) Az._auto_1) (gM:autoParam (aa K (.ref ah) (.ref aE)=some false) Az._auto_1) (kc:autoParam (aa K (.ref aA) (.ref aE)=some false) Az._auto_1) (kr:autoParam (aa K (.ref aE) (.ref aE)=some true) Az._auto_1) (gU:autoParam (aa K (.ref ai) (.ref aE)=some false) Az._auto_1) (ki:autoParam (aa K (.ref aC) (.ref aE)=some false) Az._auto_1) (jf:autoParam (aa K (.ref av) (.ref aE)=some false) Az._auto_1) (ly:autoParam (aa K (.ref aK) (.ref aE)=some false) Az._auto_1) (kC:autoParam (aa K (.ref aF) (.ref aE)=some false) Az._auto_1) (jx:autoParam (aa K (.ref aw) (.ref aE)=some false) Az._auto_1) (iz:autoParam (aa K (.ref aq) (.ref aE)=some false) Az._auto_1) (jP:autoParam (aa K (.ref ax) (.ref aE)=some false) Az._auto_1) (iQ:autoParam (aa K (.ref ar) (.ref aE)=some false) Az._auto_1) (kI:autoParam (aa K (.ref aG) (.ref aE)=some false) Az._auto_1) (j6:autoParam (aa K (.ref aB) (.ref aE)=some false) Az._auto_1) (eI:autoParam (aa K (.ref ag) (.ref aE)=some false) Az._auto_1) (g7:autoParam (aa K (.ref aj) (.ref aE)=some false) Az._auto_1) (gK:autoParam (aa K (.ref ah) (.ref aA)=some false) Az._auto_1) (ka:autoParam (aa K (.ref aA) (.ref aA)=some true) Az._auto_1) (ko:autoParam (aa K (.ref aE) (.ref aA)=some false) Az._auto_1) (gS:autoParam (aa K (.ref ai) (.ref aA)=some false) Az._auto_1) (kg:autoParam (aa K (.ref aC) (.ref aA)=some false) Az._auto_1) (jd:autoParam (aa K (.ref av) (.ref aA)=some false) Az._auto_1) (lu:autoParam (aa K (.ref aK) (.ref aA)=some false) Az._auto_1) (kA:autoParam (aa K (.ref aF) (.ref aA)=some false) Az._auto_1) (jv:autoParam (aa K (.ref aw) (.ref aA)=some false) Az._auto_1) (ix:autoParam (aa K (.ref aq) (.ref aA)=some false) Az._auto_1) (jN:autoParam (aa K (.ref ax) (.ref aA)=some false) Az._auto_1) (iO:autoParam (aa K (.ref ar) (.ref aA)=some false) Az._auto_1) (kG:autoParam (aa K (.ref aG) (.ref aA)=some false) Az._auto_1) (j4:autoParam (aa K (.ref aB) (.ref aA)=some false) Az._auto_1) (eF:autoParam (aa K (.ref ag) (.ref aA)=some false) Az._auto_1) (gZ:autoParam (aa K (.ref aj) (.ref aA)=some false) Az._auto_1) (d8:autoParam (aa K (.ref ah) (.ref ah)=some true) Az._auto_1) (gf:autoParam (aa K (.ref aA) (.ref ah)=some false) Az._auto_1) (gw:autoParam (aa K (.ref aE) (.ref ah)=some false) Az._auto_1) (eh:autoParam (aa K (.ref ai) (.ref ah)=some false) Az._auto_1) (gp:autoParam (aa K (.ref aC) (.ref ah)=some false) Az._auto_1) (fw:autoParam (aa K (.ref av) (.ref ah)=some false) Az._auto_1) (iT:autoParam (aa K (.ref aK) (.ref ah)=some false) Az._auto_1) (gz:autoParam (aa K (.ref aF) (.ref ah)=some false) Az._auto_1) (fC:autoParam (aa K (.ref aw) (.ref ah)=some false) Az._auto_1) (eO:autoParam (aa K (.ref aq) (.ref ah)=some false) Az._auto_1) (fM:autoParam (aa K (.ref ax) (.ref ah)=some false) Az._auto_1) (eV:autoParam (aa K (.ref ar) (.ref ah)=some false) Az._auto_1) (gC:autoParam (aa K (.ref aG) (.ref ah)=some false) Az._auto_1) (gb:autoParam (aa K (.ref aB) (.ref ah)=some false) Az._auto_1) (dc:autoParam (aa K (.ref ag) (.ref ah)=some false) Az._auto_1) (er:autoParam (aa K (.ref aj) (.ref ah)=some false) Az._auto_1) (fJ:autoParam (aa K (.ref ah) (.ref av)=some false) Az._auto_1) (jl:autoParam (aa K (.ref aA) (.ref av)=some false) Az._auto_1) (jA:autoParam (aa K (.ref aE) (.ref av)=some false) Az._auto_1) (fP:autoParam (aa K (.ref ai) (.ref av)=some false) Az._auto_1) (jq:autoParam (aa K (.ref aC) (.ref av)=some false) Az._auto_1) (ij:autoParam (aa K (.ref av) (.ref av)=some true) Az._auto_1) (kL:autoParam (aa K (.ref aK) (.ref av)=some false) Az._auto_1) (jD:autoParam (aa K (.ref aF) (.ref av)=some false) Az._auto_1) (iE:autoParam (aa K (.ref aw) (.ref av)=some false) Az._auto_1) (gj:autoParam (aa K (.ref aq) (.ref av)=some false) Az._auto_1) (iX:autoParam (aa K (.ref ax) (.ref av)=some false) Az._auto_1) (gG:autoParam (aa K (.ref ar) (.ref av)=some false) Az._auto_1) (jG:autoParam (aa K (.ref aG) (.ref av)=some false) Az._auto_1) (ji:autoParam (aa K (.ref aB) (.ref av)=some false) Az._auto_1) (dS:autoParam (aa K (.ref ag) (.ref av)=some false) Az._auto_1) (fS:autoParam (aa K (.ref aj) (.ref av)=some false) Az._auto_1) (gL:autoParam (aa K (.ref ah) (.ref aC)=some false) Az._auto_1) (kb:autoParam (aa K (.ref aA) (.ref aC)=some false) Az._auto_1) (kq:autoParam (aa K (.ref aE) (.ref aC)=some false) Az._auto_1) (gT:autoParam (aa K (.ref ai) (.ref aC)=some false) Az._auto_1) (kh:autoParam (aa K (.ref aC) (.ref aC)=some true) Az._auto_1) (je:autoParam (aa K (.ref av) (.ref aC)=some false) Az._auto_1) (lx:autoParam (aa K (.ref aK) (.ref aC)=some false) Az._auto_1) (kB:autoParam (aa K (.ref aF) (.ref aC)=some false) Az._auto_1) (jw:autoParam (aa K (.ref aw) (.ref aC)=some false) Az._auto_1) (iy:autoParam (aa K (.ref aq) (.ref aC)=some false) Az._auto_1) (jO:autoParam (aa K (.ref ax) (.ref aC)=some false) Az._auto_1) (iP:autoParam (aa K (.ref ar) (.ref aC)=some false) Az._auto_1) (kH:autoParam (aa K (.ref aG) (.ref aC)=some false) Az._auto_1) (j5:autoParam (aa K (.ref aB) (.ref aC)=some false) Az._auto_1) (eG:autoParam (aa K (.ref ag) (.ref aC)=some false) Az._auto_1) (g6:autoParam (aa K (.ref aj) (.ref aC)=some false) Az._auto_1) (ee:autoParam (aa K (.ref ah) (.ref ai)=some false) Az._auto_1) (gh:autoParam (aa K (.ref aA) (.ref ai)=some false) Az._auto_1) (gx:autoParam (aa K (.ref aE) (.ref ai)=some false) Az._auto_1) (ei:autoParam (aa K (.ref ai) (.ref ai)=some true) Az._auto_1) (gq:autoParam (aa K (.ref aC) (.ref ai)=some false) Az._auto_1) (fx:autoParam (aa K (.ref av) (.ref ai)=some false) Az._auto_1) (iU:autoParam (aa K (.ref aK) (.ref ai)=some false) Az._auto_1) (gA:autoParam (aa K (.ref aF) (.ref ai)=some false) Az._auto_1) (fD:autoParam (aa K (.ref aw) (.ref ai)=some false) Az._auto_1) (eP:autoParam (aa K (.ref aq) (.ref ai)=some false) Az._auto_1) (fN:autoParam (aa K (.ref ax) (.ref ai)=some false) Az._auto_1) (eW:autoParam (aa K (.ref ar) (.ref ai)=some false) Az._auto_1) (gE:autoParam (aa K (.ref aG) (.ref ai)=some false) Az._auto_1) (gc:autoParam (aa K (.ref aB) (.ref ai)=some false) Az._auto_1) (de:autoParam (aa K (.ref ag) (.ref ai)=some false) Az._auto_1) (et:autoParam (aa K (.ref aj) (.ref ai)=some false) Az._auto_1) (fK:autoParam (aa K (.ref ah) (.ref aw)=some false) Az._auto_1) (jm:autoParam (aa K (.ref aA) (.ref aw)=some false) Az._auto_1) (jB:autoParam (aa K (.ref aE) (.ref aw)=some false) Az._auto_1) (fQ:autoParam (aa K (.ref ai) (.ref aw)=some false) Az._auto_1) (jr:autoParam (aa K (.ref aC) (.ref aw)=some false) Az._auto_1) (ik:autoParam (aa K (.ref av) (.ref aw)=some false) Az._auto_1) (kM:autoParam (aa K (.ref aK) (.ref aw)=some false) Az._auto_1) (jE:autoParam (aa K (.ref aF) (.ref aw)=some false) Az._auto_1) (iF:autoParam (aa K (.ref aw) (.ref aw)=some true) Az._auto_1) (gk:autoParam (aa K (.ref aq) (.ref aw)=some false) Az._auto_1) (iY:autoParam (aa K (.ref ax) (.ref aw)=some false) Az._auto_1) (gH:autoParam (aa K (.ref ar) (.ref aw)=some false) Az._auto_1) (jH:autoParam (aa K (.ref aG) (.ref aw)=some false) Az._auto_1) (jj:autoParam (aa K (.ref aB) (.ref aw)=some false) Az._auto_1) (dU:autoParam (aa K (.ref ag) (.ref aw)=some false) Az._auto_1) (fT:autoParam (aa K (.ref aj) (.ref aw)=some false) Az._auto_1) (gN:autoParam (aa K (.ref ah) (.ref aF)=some false) Az._auto_1) (kd:autoParam (aa K (.ref aA) (.ref aF)=some false) Az._auto_1) (ku:autoParam (aa K (.ref aE) (.ref aF)=some false) Az._auto_1) (gW:autoParam (aa K (.ref ai) (.ref aF)=some false) Az._auto_1) (kj:autoParam (aa K (.ref aC) (.ref aF)=some false) Az._auto_1) (jg:autoParam (aa K (.ref av) (.ref aF)=some false) Az._auto_1) (lz:autoParam (aa K (.ref aK) (.ref aF)=some false) Az._auto_1) (kD:autoParam (aa K (.ref aF) (.ref aF)=some true) Az._auto_1) (jy:autoParam (aa K (.ref aw) (.ref aF)=some false) Az._auto_1) (iA:autoParam (aa K (.ref aq) (.ref aF)=some false) Az._auto_1) (jQ:autoParam (aa K (.ref ax) (.ref aF)=some false) Az._auto_1) (iR:autoParam (aa K (.ref ar) (.ref aF)=some false) Az._auto_1) (kJ:autoParam (aa K (.ref aG) (.ref aF)=some false) Az._auto_1) (j7:autoParam (aa K (.ref aB) (.ref aF)=some false) Az._auto_1) (eK:autoParam (aa K (.ref ag) (.ref aF)=some false) Az._auto_1) (g8:autoParam (aa K (.ref aj) (.ref aF)=some false) Az._auto_1) (iW:autoParam (aa K (.ref ah) (.ref aK)=some false) Az._auto_1) (lh:autoParam (aa K (.ref aA) (.ref aK)=some false) Az._auto_1) (ll:autoParam (aa K (.ref aE) (.ref aK)=some false) Az._auto_1) (i0:autoParam (aa K (.ref ai) (.ref aK)=some false) Az._auto_1) (lj:autoParam (aa K (.ref aC) (.ref aK)=some false) Az._auto_1) (j2:autoParam (aa K (.ref av) (.ref aK)=some false) Az._auto_1) (l0:autoParam (aa K (.ref aK) (.ref aK)=some true) Az._auto_1) (lp:autoParam (aa K (.ref aF) (.ref aK)=some false) Az._auto_1) (km:autoParam (aa K (.ref aw) (.ref aK)=some false) Az._auto_1) (jo:autoParam (aa K (.ref aq) (.ref aK)=some false) Az._auto_1) (kO:autoParam (aa K (.ref ax) (.ref aK)=some false) Az._auto_1) (jJ:autoParam (aa K (.ref ar) (.ref aK)=some false) Az._auto_1) (lq:autoParam (aa K (.ref aG) (.ref aK)=some false) Az._auto_1) (lg:autoParam (aa K (.ref aB) (.ref aK)=some false) Az._auto_1) (fz:autoParam (aa K (.ref ag) (.ref aK)=some false) Az._auto_1) (i3:autoParam (aa K (.ref aj) (.ref aK)=some false) Az._auto_1) (eZ:autoParam (aa K (.ref ah) (.ref ar)=some false) Az._auto_1) (iv:autoParam (aa K (.ref aA) (.ref ar)=some false) Az._auto_1) (iI:autoParam (aa K (.ref aE) (.ref ar)=some false) Az._auto_1) (e8:autoParam (aa K (.ref ai) (.ref ar)=some false) Az._auto_1) (iD:autoParam (aa K (.ref aC) (.ref ar)=some false) Az._auto_1) (f9:autoParam (aa K (.ref av) (.ref ar)=some false) Az._auto_1) (jL:autoParam (aa K (.ref aK) (.ref ar)=some false) Az._auto_1) (iK:autoParam (aa K (.ref aF) (.ref ar)=some false) Az._auto_1) (gv:autoParam (aa K (.ref aw) (.ref ar)=some false) Az._auto_1) (fB:autoParam (aa K (.ref aq) (.ref ar)=some false) Az._auto_1) (gQ:autoParam (aa K (.ref ax) (.ref ar)=some false) Az._auto_1) (fG:autoParam (aa K (.ref ar) (.ref ar)=some true) Az._auto_1) (iM:autoParam (aa K (.ref aG) (.ref ar)=some false) Az._auto_1) (iq:autoParam (aa K (.ref aB) (.ref ar)=some false) Az._auto_1) (dE:autoParam (aa K (.ref ag) (.ref ar)=some false) Az._auto_1) (fb:autoParam (aa K (.ref aj) (.ref ar)=some false) Az._auto_1) (fL:autoParam (aa K (.ref ah) (.ref ax)=some false) Az._auto_1) (jn:autoParam (aa K (.ref aA) (.ref ax)=some false) Az._auto_1) (jC:autoParam (aa K (.ref aE) (.ref ax)=some false) Az._auto_1) (fR:autoParam (aa K (.ref ai) (.ref ax)=some false) Az._auto_1) (jt:autoParam (aa K (.ref aC) (.ref ax)=some false) Az._auto_1) (il:autoParam (aa K (.ref av) (.ref ax)=some false) Az._auto_1) (kN:autoParam (aa K (.ref aK) (.ref ax)=some false) Az._auto_1) (jF:autoParam (aa K (.ref aF) (.ref ax)=some false) Az._auto_1) (iG:autoParam (aa K (.ref aw) (.ref ax)=some false) Az._auto_1) (gm:autoParam (aa K (.ref aq) (.ref ax)=some false) Az._auto_1) (iZ:autoParam (aa K (.ref ax) (.ref ax)=some true) Az._auto_1) (gI:autoParam (aa K (.ref ar) (.ref ax)=some false) Az._auto_1) (jI:autoParam (aa K (.ref aG) (.ref ax)=some false) Az._auto_1) (jk:autoParam (aa K (.ref aB) (.ref ax)=some false) Az._auto_1) (dW:autoParam (aa K (.ref ag) (.ref ax)=some false) Az._auto_1) (fU:autoParam (aa K (.ref aj) (.ref ax)=some false) Az._auto_1) (eY:autoParam (aa K (.ref ah) (.ref aq)=some false) Az._auto_1) (iu:autoParam (aa K (.ref aA) (.ref aq)=some false) Az._auto_1) (iH:autoParam (aa K (.ref aE) (.ref aq)=some false) Az._auto_1) (e7:autoParam (aa K (.ref ai) (.ref aq)=some false) Az._auto_1) (iC:autoParam (aa K (.ref aC) (.ref aq)=some false) Az._auto_1) (f7:autoParam (aa K (.ref av) (.ref aq)=some false) Az._auto_1) (jK:autoParam (aa K (.ref aK) (.ref aq)=some false) Az._auto_1) (iJ:autoParam (aa K (.ref aF) (.ref aq)=some false) Az._auto_1) (gu:autoParam (aa K (.ref aw) (.ref aq)=some false) Az._auto_1) (fA:autoParam (aa K (.ref aq) (.ref aq)=some true) Az._auto_1) (gP:autoParam (aa K (.ref ax) (.ref aq)=some false) Az._auto_1) (fF:autoParam (aa K (.ref ar) (.ref aq)=some false) Az._auto_1) (iL:autoParam (aa K (.ref aG) (.ref aq)=some false) Az._auto_1) (ip:autoParam (aa K (.ref aB) (.ref aq)=some false) Az._auto_1) (dD:autoParam (aa K (.ref ag) (.ref aq)=some false) Az._auto_1) (e9:autoParam (aa K (.ref aj) (.ref aq)=some false) Az._auto_1) (dg:autoParam (aa K (.ref ah) (.ref ag)=some false) Az._auto_1) (eN:autoParam (aa K (.ref aA) (.ref ag)=some false) Az._auto_1) (eS:autoParam (aa K (.ref aE) (.ref ag)=some false) Az._auto_1) (dh:autoParam (aa K (.ref ai) (.ref ag)=some false) Az._auto_1) (eR:autoParam (aa K (.ref aC) (.ref ag)=some false) Az._auto_1) (dR:autoParam (aa K (.ref av) (.ref ag)=some false) Az._auto_1) (fH:autoParam (aa K (.ref aK) (.ref ag)=some false) Az._auto_1) (eT:autoParam (aa K (.ref aF) (.ref ag)=some false) Az._auto_1) (dZ:autoParam (aa K (.ref aw) (.ref ag)=some false) Az._auto_1) (dF:autoParam (aa K (.ref aq) (.ref ag)=some false) Az._auto_1) (eg:autoParam (aa K (.ref ax) (.ref ag)=some false) Az._auto_1) (dG:autoParam (aa K (.ref ar) (.ref ag)=some false) Az._auto_1) (eU:autoParam (aa K (.ref aG) (.ref ag)=some false) Az._auto_1) (eM:autoParam (aa K (.ref aB) (.ref ag)=some false) Az._auto_1) (cU:autoParam (aa K (.ref ag) (.ref ag)=some true) Az._auto_1) (di:autoParam (aa K (.ref aj) (.ref ag)=some false) Az._auto_1) (gJ:autoParam (aa K (.ref ah) (.ref aB)=some false) Az._auto_1) (j9:autoParam (aa K (.ref aA) (.ref aB)=some false) Az._auto_1) (kn:autoParam (aa K (.ref aE) (.ref aB)=some false) Az._auto_1) (gR:autoParam (aa K (.ref ai) (.ref aB)=some false) Az._auto_1) (kf:autoParam (aa K (.ref aC) (.ref aB)=some false) Az._auto_1) (jc:autoParam (aa K (.ref av) (.ref aB)=some false) Az._auto_1) (lr:autoParam (aa K (.ref aK) (.ref aB)=some false) Az._auto_1) (kz:autoParam (aa K (.ref aF) (.ref aB)=some false) Az._auto_1) (ju:autoParam (aa K (.ref aw) (.ref aB)=some false) Az._auto_1) (iw:autoParam (aa K (.ref aq) (.ref aB)=some false) Az._auto_1) (jM:autoParam (aa K (.ref ax) (.ref aB)=some false) Az._auto_1) (iN:autoParam (aa K (.ref ar) (.ref aB)=some false) Az._auto_1) (kF:autoParam (aa K (.ref aG) (.ref aB)=some false) Az._auto_1) (j3:autoParam (aa K (.ref aB) (.ref aB)=some true) Az._auto_1) (eE:autoParam (aa K (.ref ag) (.ref aB)=some false) Az._auto_1) (gY:autoParam (aa K (.ref aj) (.ref aB)=some false) Az._auto_1) (gO:autoParam (aa K (.ref ah) (.ref aG)=some false) Az._auto_1) (ke:autoParam (aa K (.ref aA) (.ref aG)=some false) Az._auto_1) (ky:autoParam (aa K (.ref aE) (.ref aG)=some false) Az._auto_1) (gX:autoParam (aa K (.ref ai) (.ref aG)=some false) Az._auto_1) (kl:autoParam (aa K (.ref aC) (.ref aG)=some false) Az._auto_1) (jh:autoParam (aa K (.ref av) (.ref aG)=some false) Az._auto_1) (lA:autoParam (aa K (.ref aK) (.ref aG)=some false) Az._auto_1) (kE:autoParam (aa K (.ref aF) (.ref aG)=some false) Az._auto_1) (jz:autoParam (aa K (.ref aw) (.ref aG)=some false) Az._auto_1) (iB:autoParam (aa K (.ref aq) (.ref aG)=some false) Az._auto_1) (jR:autoParam (aa K (.ref ax) (.ref aG)=some false) Az._auto_1) (iS:autoParam (aa K (.ref ar) (.ref aG)=some false) Az._auto_1) (kK:autoParam (aa K (.ref aG) (.ref aG)=some true) Az._auto_1) (j8:autoParam (aa K (.ref aB) (.ref aG)=some false) Az._auto_1) (eL:autoParam (aa K (.ref ag) (.ref aG)=some false) Az._auto_1) (hB:autoParam (aa K (.ref aj) (.ref aG)=some false) Az._auto_1) (ef:autoParam (aa K (.ref ah) (.ref aj)=some true) Az._auto_1) (gi:autoParam (aa K (.ref aA) (.ref aj)=some true) Az._auto_1) (gy:autoParam (aa K (.ref aE) (.ref aj)=some true) Az._auto_1) (ek:autoParam (aa K (.ref ai) (.ref aj)=some true) Az._auto_1) (gr:autoParam (aa K (.ref aC) (.ref aj)=some true) Az._auto_1) (fy:autoParam (aa K (.ref av) (.ref aj)=some true) Az._auto_1) (iV:autoParam (aa K (.ref aK) (.ref aj)=some true) Az._auto_1) (gB:autoParam (aa K (.ref aF) (.ref aj)=some true) Az._auto_1) (fE:autoParam (aa K (.ref aw) (.ref aj)=some true) Az._auto_1) (eQ:autoParam (aa K (.ref aq) (.ref aj)=some true) Az._auto_1) (fO:autoParam (aa K (.ref ax) (.ref aj)=some true) Az._auto_1) (eX:autoParam (aa K (.ref ar) (.ref aj)=some true) Az._auto_1) (gF:autoParam (aa K (.ref aG) (.ref aj)=some true) Az._auto_1) (gd:autoParam (aa K (.ref aB) (.ref aj)=some true) Az._auto_1) (df:autoParam (aa K (.ref ag) (.ref aj)=some true) Az._auto_1) (eu:autoParam (aa K (.ref aj) (.ref aj)=some true) Az._auto_1) (lJ:autoParam (aa K (.ref ah) (.type "ValueError")=some true) Az._auto_1) (oy:autoParam (aa K (.ref aA) (.type "ValueError")=some true) Az._auto_1) (oA:autoParam (aa K (.ref aE) (.type "ValueError")=some true) Az._auto_1) (lK:autoParam (aa K (.ref ai) (.type "ValueError")=some true) Az._auto_1) (oz:autoParam (aa K (.ref aC) (.type "ValueError")=some true) Az._auto_1) (mX:autoParam (aa K (.ref av) (.type "ValueError")=some true) Az._auto_1) (pP:autoParam (aa K (.ref aK) (.type "ValueError")=some true) Az._auto_1) (oB:autoParam (aa K (.ref aF) (.type "ValueError")=some true) Az._auto_1) (mY:autoParam (aa K (.ref aw) (.type "ValueError")=some true) Az._auto_1) (md:autoParam (aa K (.ref aq) (.type "ValueError")=some true) Az._auto_1) (mZ:autoParam (aa K (.ref ax) (.type "ValueError")=some true) Az._auto_1) (me:autoParam (aa K (.ref ar) (.type "ValueError")=some true) Az._auto_1) (oC:autoParam (aa K (.ref aG) (.type "ValueError")=some true) Az._auto_1) (ow:autoParam (aa K (.ref aB) (.type "ValueError")=some true) Az._auto_1) (jb:autoParam (aa K (.ref ag) (.type "ValueError")=some true) Az._auto_1) (lL:autoParam (aa K (.ref aj) (.type "ValueError")=some true) Az._auto_1) :
  ∃ fd:bh,(∀ (s:au) (v:Value),Bz s fd ⟨[v],[]⟩ [("_law_script",v)])/\∀ base:Heap,K.In base->base.Ns ao mg->l4 l.prog w K mg base qd 4 fa fd ["_law_script"] (nN K K2.tw):=by
 have e:=M0.symm.trans (aI X G F6.a);cases e;have b0:=F0.F.binds (ps:=["_law_script","_law_k"]) fun _ _ _ _ _ _ us hl=>by obtain⟨_,_,rfl⟩:=HH hl; rfl
 have b1:=F1.F.binds (ps:=["self","line","at"]) fun _ _ _ _ _ _ us hl=>by obtain⟨_,_,_,rfl⟩:=FO hl; rfl
 have b2:=F2.F.binds (ps:=["self","word","place"]) fun _ _ _ _ _ _ us hl=>by obtain⟨_,_,_,rfl⟩:=FO hl; rfl
 have b3:=F3.F.binds (ps:=["_law_word","_law_place","_law_line","_law_at","_law_text"]) fun _ _ _ _ _ _ us hl=>by obtain⟨_,_,_,_,_,rfl⟩:=JP hl; rfl
 have b4:=F4.F.binds (ps:=["_law_error"]) fun _ _ _ _ _ _ us hl=>by obtain⟨_,rfl⟩:=FP hl; rfl
 have b5:=F5.F.binds (ps:=["_law_found"]) fun _ _ _ _ _ _ us hl=>by obtain⟨_,rfl⟩:=FP hl; rfl
 have x9:=fV X G Hd;have aS:=fV X G ua;have uN:=fV X G Fe;have ya:=fV X G He;have kW:=fV X G ub;have nW:=fV X G DS;have a0:bX K ah:=⟨uC,uz,uw,ur,um,ui,uf,uc⟩;have bK:bX K aA:=⟨z9,z0,zU,zO,zI,zC,zw,zp⟩;have bU:bX K aE:=⟨Ae,z5,zW,zQ,zK,zE,zy,zr⟩;have a7:bX K ai:=⟨uD,uA,ux,uu,uo,uj,ug,ud⟩;have bT:bX K aC:=⟨Aa,z4,zV,zP,zJ,zD,zx,zq⟩;have bG:bX K av:=⟨xN,xJ,xG,xD,xA,xw,xr,xo⟩;have cg:bX K aK:=⟨BL,BK,BJ,BI,BH,BG,BF,BE⟩;have bV:bX K aF:=⟨Ag,z6,zX,zR,zL,zF,zz,zt⟩;have bH:bX K aw:=⟨xO,xK,xH,xE,xB,xx,xt,xp⟩;have bq:bX K aq:=⟨vK,vI,vG,vE,vC,vA,vy,vw⟩;have bI:bX K ax:=⟨xP,xM,xI,xF,xC,xy,xu,xq⟩;have br:bX K ar:=⟨vL,vJ,vH,vF,vD,vB,vz,vx⟩;have bW:bX K aG:=⟨Ah,z7,zY,zS,zM,zG,zA,zu⟩;have bS:bX K aB:=⟨z8,zZ,zT,zN,zH,zB,zv,zo⟩;have aT:bX K ag:=⟨rL,rK,rJ,rH,rG,rF,rE,rD⟩;have a8:bX K aj:=⟨uE,uB,uy,uv,uq,uk,uh,ue⟩;have jT:p5 K "NoDrawing" "word":=⟨⟨ah,aW,a0,pU,pH⟩⟩;have ez:p5 K "NoDrawing" "place":=⟨⟨ah,aW,a0,pU,oR⟩⟩;have jS:p5 K "NoText" "line":=⟨⟨aA,bC,bK,tN,rV⟩⟩;have nk:p5 K "NoText" "at":=⟨⟨aA,bC,bK,tN,uP⟩⟩;obtain⟨Fa,Fl⟩:=F6;obtain⟨oc,od,kV,doc,pm,an,lO,ct,AI,rfl,lk,w7⟩:=Fl.ex;refine⟨fZ "law" "law" (ic (top 22)) (dw (top 22)) (bw (top 22)) .none kV doc pm an lO ct,fun s v=>.of_eq rfl,fun base _ _=>?_⟩;have Mj:=wt (P:=l.prog) (w:=w) (mg:=mg) (base:=base) F0.F x9;have Mi:=oY (P:=l.prog) (w:=w) (mg:=mg) (base:=base) F1 lN (aI X G lN.ns);have Mh:=nF (P:=l.prog) (w:=w) (mg:=mg) (base:=base) F2 lN (aI X G lN.ns);have Hv:=sT (P:=l.prog) (w:=w) (mg:=mg) (base:=base) F3.F oo (aI X G oo.ns) lF (aI X G lF.ns) oq (aI X G oq.ns) l8 (aI X G l8.ns) mT (aI X G mT.ns) ot (aI X G ot.ns) pF (aI X G pF.ns) mS (aI X G mS.ns) ja (aI X G ja.ns) om (aI X G om.ns) ou (aI X G ou.ns) ma (aI X G ma.ns) mU (aI X G mU.ns) (F1.Lv X G Mi b1) (F2.Lv X G Mh b2);have Mg:=sk (P:=l.prog) (w:=w) (mg:=mg) (base:=base) F4.F aS aW (aI X G aW) a0 bC (aI X G bC) bK bN (aI X G bN) bU a3 (aI X G a3) a7 bM (aI X G bM) bT bz (aI X G bz) bG b9 (aI X G b9) cg bO (aI X G bO) bV bA (aI X G bA) bH ba (aI X G ba) bq bB (aI X G bB) bI bb (aI X G bb) br bP (aI X G bP) bW bL (aI X G bL) bS aR (aI X G aR) aT a4 (aI X G a4) a8 qw qt m4 oU qu nc oV qx se nZ oW nY lZ qr qy gM kc kr gU ki jf ly kC jx iz jP iQ kI j6 eI g7 gK ka ko gS kg jd lu kA jv ix jN iO kG j4 eF gZ d8 gf gw eh gp fw iT gz fC eO fM eV gC gb dc er fJ jl jA fP jq ij kL jD iE gj iX gG jG ji dS fS gL kb kq gT kh je lx kB jw iy jO iP kH j5 eG g6 ee gh gx ei gq fx iU gA fD eP fN eW gE gc de et fK jm jB fQ jr ik kM jE iF gk iY gH jH jj dU fT gN kd ku gW kj jg lz kD jy iA jQ iR kJ j7 eK g8 iW lh ll i0 lj j2 l0 lp km jo kO jJ lq lg fz i3 eZ iv iI e8 iD f9 jL iK gv fB gQ fG iM iq dE fb fL jn jC fR jt il kN jF iG gm iZ gI jI jk dW fU eY iu iH e7 iC f7 jK iJ gu fA gP fF iL ip dD e9 dg eN eS dh eR dR fH eT dZ dF eg dG eU eM cU di gJ j9 kn gR kf jc lr kz ju iw jM iN kF j3 eE gY gO ke ky gX kl jh lA kE jz iB jR iS kK j8 eL hB;have Mf:=uX (P:=l.prog) (w:=w) (mg:=mg) (base:=base) F5.F uN ya aS;exact Gq Fl kW aS nW aW (aI X G aW) a0 bC (aI X G bC) bK bN (aI X G bN) bU a3 (aI X G a3) a7 bM (aI X G bM) bT bz (aI X G bz) bG b9 (aI X G b9) cg bO (aI X G bO) bV bA (aI X G bA) bH ba (aI X G ba) bq bB (aI X G bB) bI bb (aI X G bb) br bP (aI X G bP) bW bL (aI X G bL) bS aR (aI X G aR) aT a4 (aI X G a4) a8 jT ez jS nk lG (aI X G lG.ns) ng ef gi gy ek gr fy iV gB fE eQ fO eX gF gd df eu lJ oy oA lK oz mX pP oB mY md mZ me oC ow jb lL ⟨Mj,F0.mg X G,F0.F.kp,b0⟩ ⟨Hv,F3.mg X G,F3.F.kp,b3⟩ ⟨Mg,F4.mg X G,F4.F.kp,b4⟩ ⟨Mf,F5.mg X G,F5.F.kp,b5⟩
end Fin
end Internal
open Internal
open PySem PySem.W PyProof.Rows
set_option maxRecDepth 100000 in
set_option maxHeartbeats 0 in
theorem PySem.Challenge.cw_knotwise_k06_refusals_made_holds : PySem.Challenge.rw_knotwise_k06_refusals_made.Holds := by
 w_on
 refine K2.AW (q:=Fin.hQ) (K:=Fin.hK) (as:=Fin.hA) (N:=(12+(1+(1329+(1279+1012))))) Fin.Gg (by kernel_rfl) (by kernel_rfl) (fun _=>by kernel_rfl) (fun _=>by kernel_rfl) Fin.Gh (by rfl) (by rfl) (by rfl) (by rfl) Fin.Gf ⟨rfl,rfl,rfl,rfl,rfl,by decide +kernel⟩ ?hw ?hc
 (case hw=>w_witness2)
 k_fill
 refine K2.Cn (l:=PySem.Challenge.rw_knotwise_k06_refusals_made) (k:=4) (x:="_law_script") rfl rfl ⟨rfl,by decide,by decide⟩ (fun w h Y=>Y) ?F
 case F =>
  intro w mg fa h KX G HR;exact Fin.all_mk KX G HR K2.wM K2.CU K2.CU K2.wM K2.wM K2.wM K2.wM
