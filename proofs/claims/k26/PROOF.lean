import PyProof.Rows.All
import Wide.All
import OpenK.AllK
import Wide.FinOn
import Lean
import PyProof.EqAt
import PyProof.EqKinds
import PyProof.TupleCall
import PySem.Challenge.RW_knotwise_k26_moves_told_and_renamed
open Array renaming mk -> gP, length_toList -> gQ
open Bool renaming false_eq_true -> af, and_eq_true -> aQ, not_true -> bF, noConfusion -> bJ, not_false -> cc, or_eq_true -> j8, and_eq_true_iff -> pf, false_ne_true -> rX, false_and -> xV, true_and -> zA, false_or -> zB, beq_eq_decide_eq -> B1
open False renaming elim -> bg
open ForInStep renaming yield -> mh
open List renaming getElem?_cons_zero -> aa, getElem?_cons_succ -> ag, length_cons -> aj, length_nil -> aq, map_cons -> ax, cons_append -> aA, nil_append -> aE, set_cons_zero -> aN, map_nil -> aO, set_cons_succ -> aR, size_toArray -> aZ, mem_cons_of_mem -> bG, length_map -> bQ, length_append -> cb, mem_append_right -> cj, replicate -> cL, length_replicate -> dr, getElem?_map -> ed, find?_cons -> eE, getElem?_append_right -> eP, mem_cons_self -> e5, getElem?_append_left -> e6, append_nil -> fw, nodup_nil -> fN, getElem?_replicate -> iu, getElem?_set_self -> iB, lookup_cons -> jj, getElem?_set_ne -> jz, lookup -> j7, any_cons -> mz, length_singleton -> om, range -> oA, filterMap_cons -> qc, take_nil -> rU, drop_nil -> rV, all_cons -> rW, append_assoc -> sW, set_nil -> t9, map_map -> ua, not_mem_nil -> u5, getElem_map -> u6, all_eq_true -> u7, of_mem_zip -> wj, map_append -> wm, length_set -> wo, length -> wt, foldl_cons -> wu, getD_eq_getElem?_getD -> wM, drop_eq_getElem_cons -> xT, getElem?_eq_getElem -> yG, mem_cons -> zy, find?_cons_of_pos -> zQ, find?_cons_of_neg -> zR, drop_eq_nil_of_le -> zS, getElem?_eq_none -> BX, all_map -> BY, mem_append_left -> Ci
open Nat renaming le_refl -> a6, lt_of_lt_of_le -> bq, ne_of_lt -> cx, zero_le -> c6, le_trans -> da, lt_irrefl -> jT, add_sub_cancel_left -> mI, succ_le_succ -> nj, le_of_succ_le_succ -> BW, le_of_lt -> Cf, le_of_ble_eq_true -> Cg
open Ne renaming symm -> pe
open Option.some renaming inj -> a8
open Prod.mk renaming injEq -> wL
open PyProof.Rows renaming callWith_builtin1 -> hU, callWith_type1 -> iJ, IntsAre -> ka, slot_tuple_getitem -> oj, boot_isinstance -> pL, AllBare -> ub, envOfC -> vd
open PySem renaming Shared -> aw, FuncData -> ay, wpAny_bind -> aJ, mainGlobals -> aX, sizeLine -> a4, starEach -> bw, Program -> bx, wpAny_pure -> bz, sizeLine_eq -> cM, Around -> dO, bootBuiltins -> eO, mem_of_lookup -> fD, treeTable -> fF, sysModules -> fG, binaryOp -> fW, wpAny_Call_Name_kw -> gx, compareOp -> gE, backTo -> ib, OsState -> iw, importedModules -> iL, wpAny_newObj_type -> jv, assignEach -> jw, valueAt -> jy, attributeBase -> kW, wpAny_passesOwn -> k9, sliceBounds -> lb, Params -> mx, NameKind -> my, wpAny_holding -> ow, ReadsAll -> oy, letOwnedTupleGo -> qo, codeAny -> qp, keywordEach -> t4, wpAny_standAt -> vb, swapsWith -> vc, assign -> ve, wpAny_truthy_dict -> wD, relabel -> wF, foldedSetIterable -> wG, callerA -> wH, codeAny_mono -> xO, call -> xQ, wpAny_execs_nil -> zJ, valueAt -> zK, tupleKind -> zL, spliced -> zM, Within -> zP, Keyword -> zT, BindsTo -> zV
open PySem.Around renaming under -> zC
open PySem.Builtin.Slice renaming slicePlaces -> gb, sliceAdjust -> jd, sliceApplied -> qd
open PySem.Builtin.Tuple renaming tupleExact -> gi
open PySem.Calls renaming spliced_cons -> ie, spliced_nil -> sd, Name_function_global -> wx, callWith_builtin -> zz
open PySem.Challenge renaming rw_knotwise_k26_moves_told_and_renamed -> aT
open PySem.Code renaming isFrame -> B0
open PySem.F renaming plainAttrs_dict -> a5, slot_dict_get -> bf, type_dict_get -> bu, type_list_append -> cO, slot_list_append -> cP, plainAttrs_list -> c1, slot_dict_clear -> lg, args_dict_clear_1 -> vg, entry_dict_clear -> we, args_tuple_add_2 -> wg, entry_tuple_add -> wK, slot_tuple_add -> xS
open PySem.Heap renaming get?_push_of_some -> aP, lt_size -> ba, get?_push_size -> cT, SameBut -> oo, size_push -> xU, get?_update_other -> zU, get?_update_self -> BZ, get?_none_of_le -> Cj
open PySem.NameKind renaming free -> gS
open PySem.Obj renaming mapSeq -> t8
open PySem.Paired renaming length -> lV
open PySem.PassesOwn renaming never -> jc
open PySem.Value renaming int -> c5, ref -> ic, bool -> xP, str -> zO
open PySem.W renaming Frag -> ah, kitOne -> au, findIn -> aK, mg_of -> bE, nsIn -> cG, emptyDict -> dc, keepIn -> dh, mg_none_of -> dq, specialIn -> dU, boot_heap -> eh, kia_one -> e9, instObj -> fb, boot_drawn -> fH, takesIn -> fX, makesIn -> fY, fnOf -> fZ, mroIn -> gU, SharedT -> jx, topFrame -> jS, plainGet -> lU, boot_toks -> nk, lookIn -> oi, plainGet_of -> oz, callWith_K -> pK, methodObj -> qr, hasDictIn -> qt, takerIn -> t6, OpenLaw -> t7, codeIn -> vf, cellsFrom_some -> xR, methodCall_KW -> yE, isFn -> yF, openGood -> zx, boot_o_10 -> zN, plainOver -> Ce
open Sum renaming inr -> wI, inl -> wJ
open True renaming intro -> eR
set_option Elab.async false
set_option linter.all false
set_option maxRecDepth 100000
set_option maxHeartbeats 4000000
set_option genSizeOf false
set_option genInjectivity false
set_option compiler.extract_closed false
namespace Internal
theorem Ad(h:0=0:=by decide):0=0:=h
theorem Af(h:0=0:=by first | k_is | rfl):0=0:=h
theorem Ai(h:0=0:=by intro _; rfl):0=0:=h
theorem Ak(h:0=0:=by decide +kernel):0=0:=h
theorem Al(h:0=0:=by intro _ _ _ _ h; repeat (first | (cases h.1; rfl) | (cases h <;> rename_i h))):0=0:=h
theorem Am(h:0=0:=by exact e5):0=0:=h
theorem An(h:0=0:=by exact Cg rfl):0=0:=h
theorem Ao(h:0=0:=by first | exact .inl rfl | exact .inr rfl | exact .inr (.inl rfl) | exact .inr (.inr rfl) | assumption):0=0:=h
theorem Aq(h:0=0:=by k_is):0=0:=h
theorem Ar(h:0=0:=by rfl):0=0:=h
theorem Az(h:0=0:=by first | k_is | kit_is):0=0:=h
namespace L2
open PySem PySem.Spec PyProof.Rows
noncomputable abbrev Key:=Sum Int Str
noncomputable def tG:Key->Value->Bool
 | .inl k,v=>Value.isInt k v
 | .inr x,v=>Value.isStrOf x v
noncomputable def JB(w:World):Key->Int
 | .inl k=>hashInt k
 | .inr x=>hashStr w x
theorem eu:∀ {k:Key} {v:Value},tG k v=true->(∃ i t,k=wJ i/\v=c5 i t)\/(∃ x t,k=wI x/\v=zO x t)
 | .inl i,v,h=>by
  obtain⟨t,e⟩:=Value.isInt_shape (k:=i) (v:=v) h;exact .inl ⟨i,t,rfl,e⟩
 | .inr x,v,h=>by
  obtain⟨t,e⟩:=Value.isStrOf_shape (x:=x) (v:=v) h;exact .inr ⟨x,t,rfl,e⟩
theorem y2(i:Int)(t:Tok):tG (.inl i) (.int i t)=true:=by simp [tG,Value.isInt]
theorem y0(x:Str)(t:Tok):tG (.inr x) (.str x t)=true:=by simp [tG,Value.isStrOf]
theorem A2(a b:Int):decide ((wJ a:Key)=wJ b)=(a == b):=by
 by_cases e:a=b
 ·subst e; simp
 ·have h:¬ (wJ a:Key)=wJ b:=fun q=>e (Sum.inl.inj q);rw [decide_eq_false h];exact(beq_eq_false_iff_ne.mpr e).symm
theorem A1(a b:Str):decide ((wI a:Key)=wI b)=decide (a=b):=by
 by_cases e:a=b
 ·subst e; simp
 ·have h:¬ (wI a:Key)=wI b:=fun q=>e (Sum.inr.inj q);rw [decide_eq_false h,decide_eq_false e]
theorem EO(a:Int)(b:Str):decide ((wJ a:Key)=wI b)=false:=decide_eq_false (fun q=>nomatch q)
theorem EN(a:Str)(b:Int):decide ((wI a:Key)=wJ b)=false:=decide_eq_false (fun q=>nomatch q)
noncomputable def dm(prog:bx)(w:World):PySem.KeyKind prog w Key where
 is:=tG
 hash:=JB w
 inj:=fun v a b ha hb=>by
  rcases eu ha with ⟨i,t,rfl,rfl⟩ | ⟨x,t,rfl,rfl⟩
  ·rcases eu hb with ⟨j,u,rfl,e⟩ | ⟨y,u,rfl,e⟩
   ·injection e with e1 _; rw [e1]
   ·exact nomatch e
  ·rcases eu hb with ⟨j,u,rfl,e⟩ | ⟨y,u,rfl,e⟩
   ·exact nomatch e
   ·injection e with e1 _; rw [e1]
 byValue:=fun k v h=>by
  rcases eu h with ⟨i,t,rfl,rfl⟩ | ⟨x,t,rfl,rfl⟩ <;> rfl
 pyHash:=fun hv h=>by
  rcases eu hv with ⟨i,t,rfl,rfl⟩ | ⟨x,t,rfl,rfl⟩
  ·exact wpAny_pyHash_int h
  ·exact wpAny_pyHash_str h
 eqBool:=fun hu hv h=>by
  rcases eu hu with ⟨i,t,rfl,rfl⟩ | ⟨x,t,rfl,rfl⟩
  ·rcases eu hv with ⟨j,u,rfl,rfl⟩ | ⟨y,u,rfl,rfl⟩
   ·rw [A2] at h; exact wpAny_eqBool_int h
   ·rw [EO] at h; exact SeqAt.EqAt.int_str i t y u _ _ _ _ h
  ·rcases eu hv with ⟨j,u,rfl,rfl⟩ | ⟨y,u,rfl,rfl⟩
   ·rw [EN] at h; exact SeqAt.EqAt.str_int x t j u _ _ _ _ h
   ·rw [A1] at h; exact wpAny_eqBool_str h
 «strs»:=fun k x t v h=>by
  rcases eu h with ⟨i,u,rfl,e⟩ | ⟨y,u,rfl,e⟩
  ·exact nomatch e
  ·injection e with e1 _
   subst e1;cases v <;> rfl
theorem vy(prog:bx)(w:World)(i:Int)(t:Tok):(dm prog w).is (.inl i) (.int i t)=true:=y2 i t
theorem vx(prog:bx)(w:World)(x:Str)(t:Tok):(dm prog w).is (.inr x) (.str x t)=true:=y0 x t
inductive V where
 | gR | bl (b:Bool) | int (i:Int) | str (x:Str) | DX (b:Array UInt8) | FK (b:UInt64) | ref (a:Addr) | ty (n:String)
noncomputable def RelV:V->Value->Prop
 | .gR,u=>u=Value.none
 | .bl b,u=>u=xP b
 | .int i,u=>∃ t,u=c5 i t
 | .str x,u=>∃ t,u=zO x t
 | .DX b,u=>∃ t,u=Value.bytes b t
 | .FK b,u=>∃ t,u=Value.float b t
 | .ref a,u=>u=ic a
 | .ty n,u=>u=Value.type n
noncomputable abbrev Vals:List V->List Value->Prop:=Paired RelV
theorem Vals.length{xs:List V}{us:List Value}(r:Vals xs us):xs.length=us.length:=lV r
theorem Vals.get:∀ {xs:List V} {us:List Value} {i:Nat} {x:V},Vals xs us->xs[i]?=some x->∃ u,us[i]?=some u/\RelV x u:=by
 intro xs us i x h;induction h generalizing i with
 | nil=>intro e; cases e
 | cons r t ih =>
  intro e;cases i with
  | zero=>cases e; exact⟨_,rfl,r⟩
  | succ i=>exact ih e
theorem Vals.set{x:V}{u:Value}(r:RelV x u):∀ {xs:List V} {us:List Value} (i:Nat),Vals xs us->Vals (xs.set i x) (us.set i u):=by
 intro xs us i h;induction h generalizing i with
 | nil=>rw [t9,t9]; exact .nil
 | cons q t ih =>
  cases i with
  | zero=>exact .cons r t
  | succ i=>exact .cons q (ih i)
theorem Vals.append:∀ {xs ys:List V} {us ws:List Value},Vals xs us->Vals ys ws->Vals (xs++ys) (us++ws):=by
 intro xs ys us ws h s;induction h with
 | nil=>exact s
 | cons r t ih=>exact .cons r ih
theorem Vals.take:∀ {xs:List V} {us:List Value} (n:Nat),Vals xs us->Vals (xs.take n) (us.take n):=by
 intro xs us n h;induction h generalizing n with
 | nil=>rw [rU,rU]; exact .nil
 | cons r t ih =>
  cases n with
  | zero=>exact .nil
  | succ n=>exact .cons r (ih n)
theorem Vals.drop:∀ {xs:List V} {us:List Value} (n:Nat),Vals xs us->Vals (xs.drop n) (us.drop n):=by
 intro xs us n h;induction h generalizing n with
 | nil=>rw [rV,rV]; exact .nil
 | cons r t ih =>
  cases n with
  | zero=>exact .cons r t
  | succ n=>exact ih n
noncomputable def kZ:Option V->Option Value->Prop
 | some v,some u=>RelV v u
 | none,none=>True
 | _,_=>False
noncomputable def KV{κ:Type}:List (κ×V)->List (κ×Value)->Prop:=Paired fun (p:κ×V) (q:κ×Value)=>p.1=q.1/\RelV p.2 q.2
noncomputable def kV:Key->V
 | .inl i=>.int i
 | .inr x=>.str x
inductive HO where
 | lst (xs:List V)
 | tup (xs:List V)
 | dK (aS:List (Key×V)) | dT (aS:List (List Key×V))
 | set (S:Int->Bool) (n:Nat)
 | ins (C dx:Addr) (fs:List (Str×V))
 | own (x:Addr)
 | xd (fs:List (Str×V))
 | met (f x:Addr)
 | HH (lo hi:Int)
 | kQ (o:Obj) (u:HO)
 | DJ (q:Str)
 | ext (φ:Heap->Prop)
noncomputable abbrev Hp:=Addr->Option HO
noncomputable def upd(H:Hp)(a:Addr)(o:HO):Hp:=fun b=>if b=a then some o else H b
theorem bR{H:Hp}{a:Addr}{o:HO}:upd H a o a=some o:=by unfold upd; rw [if_pos rfl]
theorem bK{H:Hp}{a b:Addr}{o:HO}(h:b≠a):upd H a o b=H b:=by unfold upd; rw [if_neg h]
theorem GD{H:Hp}{a b:Addr}{o u:HO}(h:H a=some o)(h':H b=some u)(d:o≠u):a≠b:=by
 intro e; subst e; rw [h] at h'; exact d (a8 h')
theorem c7{H:Hp}{a b:Addr}{o:HO}(h:H a=some o)(h':H b=none):a≠b:=by
 intro e; subst e; rw [h] at h'; cases h'
section
variable (P:bx) (w:World)
noncomputable def ft(H:Hp)(h:Heap)(a:Addr):HO->Prop
 | .lst xs=>xs.length<=a4/\∃ (cH:List Value) (n:Nat),Vals xs cH/\h.get? a=some { cls:=.type "list",data:=.seq cH.toArray n }
 | .tup xs=>xs.length<=a4/\∃ cH:List Value,Vals xs cH/\IsTup h a cH.toArray
 | .dK aS=>aS.length<=a4/\(a == fG)=false/\∃ vs,KV aS vs/\h.DictOf (dm P w) a vs
 | .dT aS=>aS.length<=a4/\(a == fG)=false/\∃ xs:List (List Key×Addr×Value),
   Paired (fun (p:List Key×V) (q:List Key×Addr×Value)=>p.1=q.1/\H q.2.1=some (.tup (p.1.map kV))/\RelV p.2 q.2.2) aS xs /\
   ∃ o es ep,h.get? a=some o/\o.ExactDict/\o.data=.dict es ep/\es.toList=xs.map (entryOfKey (zL (dm P w)))/\(xs.map (·.1)).Nodup
 | .set S n=>h.SetOf (intKind P w) a S n
 | .ins C dx fs=>H dx=some (.own a)/\fs.length<=1000/\dx≠a/\h.get? a=some (fb C dx) /\
   ∃ mA,h.Ns1 dx mA/\(∀ f,kZ (fs.lookup f) (mA f))/\zP mA (fs.map (·.1))
 | .own _=>∃ o,h.get? a=some o
 | .xd fs=>∃ mA,h.Ns1 a mA/\∀ f,kZ (fs.lookup f) (mA f)
 | .HH lo hi=>∃ t u v,h.get? a=some { cls:=.type "range",data:=.fields #[.int lo t,.int hi u,.int 1 v] }
 | .kQ o u=>h.get? a=some o/\ft H h a u
 | .DJ q=>∃ ps,h.get? a=some { cls:=.none,data:=.fields ps }/\TriplesOk ps.toList/\∀ pos cv,codeAmong pos ps.toList=some cv->∃ c',cv=.ref c'/\H c'=some (.own a)/\h.CodeRec (.ref c') q
 | .met f x=>h.get? a=some (qr (.ref f) (.ref x))
 | .ext φ=>φ h/\(∃ o,h.get? a=some o)/\∀ h1 h2:Heap,φ h1->(∀ o,h1.get? a=some o->h2.get? a=some o)->φ h2
noncomputable def nh(H:Hp)(h:Heap):Prop:=∀ a o,H a=some o->ft P w H h a o
end
section
variable {P:bx} {w:World} {H H':Hp} {h h':Heap} {a:Addr} {o:HO}
theorem ft.lt(x:ft P w H h a o):a < h.objs.size:=by
 cases o with
 | lst xs=>obtain⟨_,_,_,_,e⟩:=x; exact ba e
 | tup xs=>obtain⟨_,_,_,p⟩:=x; exact p.lt
 | dK aS=>obtain⟨_,_,_,_,o,_,_,e,_⟩:=x; exact ba e
 | dT aS=>obtain⟨_,_,_,_,o,_,_,e,_⟩:=x; exact ba e
 | set S n=>obtain⟨o,_,_,_,e,_⟩:=x; exact ba e
 | ins C dx fs=>obtain⟨_,_,_,e,_⟩:=x; exact ba e
 | own y=>obtain⟨_,e⟩:=x; exact ba e
 | xd fs=>obtain⟨_,⟨_,_,_,e,_⟩,_⟩:=x; exact ba e
 | HH lo hi=>obtain⟨_,_,_,e⟩:=x; exact ba e
 | kQ ob u=>obtain⟨e,_⟩:=x; exact ba e
 | DJ q=>obtain⟨_,e,_⟩:=x; exact ba e
 | met f y=>exact ba (show h.get? a=some _ from x)
 | ext φ=>obtain⟨_,⟨_,e⟩,_⟩:=x; exact ba e
theorem Paired.GH{α β:Type}{F G:α->β->Prop}:∀ {EK:List α} {EJ:List β},Paired F EK EJ->(∀ a b,F a b->G a b)->Paired G EK EJ:=by
 intro EK EJ h f;induction h with
 | nil=>exact .nil
 | cons r t ih=>exact .cons (f _ _ r) ih
theorem ft.kc(x:ft P w H h a o)(k:∀ b u,(b=a\/H b=some (.own a))->h.get? b=some u->h'.get? b=some u)
  (ho:∀ b,H b=some (.own a)->H' b=some (.own a)) (ht:∀ b xs,H b=some (.tup xs)->H' b=some (.tup xs)):ft P w H' h' a o:=by
 induction o with
 | lst xs=>obtain⟨z,cH,n,r,e⟩:=x; exact⟨z,cH,n,r,k _ _ (.inl rfl) e⟩
 | tup xs=>obtain⟨z,cH,r,ob,e,c⟩:=x; exact⟨z,cH,r,ob,k _ _ (.inl rfl) e,c⟩
 | dK aS=>obtain⟨z,y,vs,r,ob,es,ep,e,c⟩:=x; exact⟨z,y,vs,r,ob,es,ep,k _ _ (.inl rfl) e,c⟩
 | dT aS =>
  obtain⟨z,y,xs,r,ob,es,ep,e,c⟩:=x;exact⟨z,y,xs,Paired.GH r fun p q z=>⟨z.1,ht _ _ z.2.1,z.2.2⟩,ob,es,ep,k _ _ (.inl rfl) e,c⟩
 | set S n=>obtain⟨ob,es,ep,t,e,c⟩:=x; exact⟨ob,es,ep,t,k _ _ (.inl rfl) e,c⟩
 | ins C dx fs =>
  obtain⟨d,z,ne,e,mA,⟨od,es,ep,e2,c⟩,r⟩:=x;exact⟨ho _ d,z,ne,k _ _ (.inl rfl) e,mA,⟨od,es,ep,k _ _ (.inr d) e2,c⟩,r⟩
 | own y=>obtain⟨ob,e⟩:=x; exact⟨ob,k _ _ (.inl rfl) e⟩
 | xd fs=>obtain⟨mA,⟨od,es,ep,e,c⟩,r⟩:=x; exact⟨mA,⟨od,es,ep,k _ _ (.inl rfl) e,c⟩,r⟩
 | HH lo hi=>obtain⟨t,u,v,e⟩:=x; exact⟨t,u,v,k _ _ (.inl rfl) e⟩
 | kQ ob u ih=>obtain⟨e,q⟩:=x; exact⟨k _ _ (.inl rfl) e,ih q⟩
 | DJ q =>
  obtain⟨ps,e,t,z⟩:=x;refine⟨ps,k _ _ (.inl rfl) e,t,fun pos cv y=>?_⟩;obtain⟨c',e1,e2,c2,oc,vs,tq,e3,e4,r⟩:=z pos cv y;cases e3;exact⟨c',e1,ho _ e2,c',oc,vs,tq,rfl,k _ _ (.inr e2) e4,r⟩
 | met f y =>
  have e:h.get? a=some (qr (.ref f) (.ref y)):=x;show h'.get? a=some (qr (.ref f) (.ref y));exact k a _ (.inl rfl) e
 | ext φ=>obtain⟨p,⟨o,e⟩,st⟩:=x; exact⟨st _ _ p fun o q=>k _ _ (.inl rfl) q,⟨o,k _ _ (.inl rfl) e⟩,st⟩
theorem nh.lt(x:nh P w H h)(e:H a=some o):a < h.objs.size:=(x a o e).lt
theorem nh.fresh(x:nh P w H h)(e:h.objs.size<=a):H a=none:=by
 cases q:H a with
 | none=>rfl
 | some u=>exact absurd (bq (x.lt q) e) (jT _)
theorem nh.kept(x:nh P w H h)(k:∀ b u,h.get? b=some u->h'.get? b=some u):nh P w H h':=fun a o e =>
 (x a o e).kc (fun b u _ q=>k b u q) (fun _ q=>q) fun _ _ q=>q
theorem nh.laid(x:nh P w H h)(k:∀ b u,h.get? b=some u->h'.get? b=some u)(hp:h.objs.size<=a)(new:ft P w (upd H a o) h' a o):nh P w (upd H a o) h':=fun b u e=>by
 have hn:=x.fresh hp;by_cases hb:b=a
 ·subst hb; rw [bR] at e; cases e; exact new
 ·rw [bK hb] at e;exact(x b u e).kc (fun c v _ q=>k c v q) (fun c q=>by rw [bK (c7 q hn)]; exact q) fun c xs q=>by rw [bK (c7 q hn)]; exact q
end
noncomputable def Rd(H:Hp)(a:Addr)(u:HO):Prop:=H a=some u\/∃ o,H a=some (.kQ o u)
theorem Rd.ok{P:bx}{w:World}{H:Hp}{h:Heap}{a:Addr}{u:HO}(r:Rd H a u)(x:nh P w H h):ft P w H h a u:=by
 rcases r with r | ⟨o,r⟩
 ·exact x a u r
 ·obtain⟨_,q⟩:=x a _ r;exact q
noncomputable def HA:Option HO->Prop
 | some (.lst _)=>True
 | some (.dK _)=>True
 | some (.dT _)=>True
 | some (.set _ _)=>True
 | some (.ins _ _ _)=>True
 | some (.ext _)=>True
 | _=>False
section
variable {P:bx} {w:World} {H:Hp} {h h':Heap} {x e:Addr} {o':HO}
theorem nh.write(ok:nh P w H h)(mu:HA (H x))(he:e=x\/H e=some (.own x))(k:∀ b u,b≠e->h.get? b=some u->h'.get? b=some u)(FI:∃ u,h'.get? e=some u)
  (new:ft P w (upd H x o') h' x o'):nh P w (upd H x o') h':=fun b u q=>by
 have Gz:∀ c y,H c=some (.own y)->c≠x:=fun c y r z=>by subst z; rw [r] at mu; exact mu
 have Jm:∀ c xs,H c=some (.tup xs)->c≠x:=fun c xs r z=>by subst z; rw [r] at mu; exact mu
 by_cases hb:b=x
 ·subst hb; rw [bR] at q; cases q; exact new
 ·rw [bK hb] at q;by_cases E2:b=e
  ·have q':H b=some (.own x):=by
    rcases he with z | z
    ·exact absurd (E2.trans z) hb
    ·rw [E2]; exact z
   rw [q] at q'; cases q';obtain⟨v,hv⟩:=FI;exact⟨v,by rw [E2]; exact hv⟩
  ·refine(ok b u q).kc (fun c v hc r=>k c v ?_ r) (fun c r=>by rw [bK (Gz c b r)]; exact r) fun c xs r=>by rw [bK (Jm c xs r)]; exact r
   rcases hc with rfl | hc
   ·exact E2
   ·rintro rfl;rcases he with z | z
    ·exact Gz c b hc z
    ·rw [hc] at z; cases z; exact hb rfl
end
structure Un(fs ex:List Addr)(H H':Hp)(h h':Heap):Prop where
 keep:∀ b o,h.get? b=some o->H b=none->b∉fs->b∉ex->h'.get? b=some o
 slot:∀ b o,h.get? b=some o->H b=none->b∈fs->b∉ex->∃ sl,h'.get? b=some { o with slots:=sl }
 free:∀ b o,h.get? b=some o->H b=none->b∉ex->H' b=none
 there:∀ b o,h.get? b=some o->b∉ex->∃ o',h'.get? b=some o'
 sf:∀ b xs,H b=some (.tup xs)->H' b=some (.tup xs)
 qX:∀ b o u,H b=some (.kQ o u)->H' b=some (.kQ o u)
 si:∀ b q,H b=some (.DJ q)->H' b=some (.DJ q)
section
variable {fs Ng ex Ib:List Addr} {H H1 H2:Hp} {h h1 h2 h':Heap} {a x e:Addr} {o:HO}
theorem Un.any(u:Un fs ex H H1 h h1){b:Addr}{ob:Obj}(q:h.get? b=some ob)(n:H b=none)(hx:b∉ex):∃ sl,h1.get? b=some { ob with slots:=sl }:=by
 by_cases hb:b∈fs
 ·exact u.slot b ob q n hb hx
 ·exact⟨ob.slots,u.keep b ob q n hb hx⟩
theorem Un.kept(k:∀ b u,h.get? b=some u->h'.get? b=some u):Un fs ex H H h h' :=
 ⟨fun b ob q _ _ _=>k b ob q,fun b ob q _ _ _=>⟨ob.slots,k b ob q⟩,fun _ _ _ n _=>n,fun b ob q _=>⟨ob,k b ob q⟩,fun _ _ q=>q,fun _ _ _ q=>q,fun _ _ q=>q⟩
theorem Un.refl:Un fs ex H H h h:=Un.kept fun _ _ q=>q
theorem Un.laid(k:∀ b u,h.get? b=some u->h'.get? b=some u)(hp:h.objs.size<=a)(hn:H a=none):Un fs ex H (upd H a o) h h' where
 keep:=fun b u q _ _ _=>k b u q
 slot:=fun b u q _ _ _=>⟨u.slots,k b u q⟩
 free:=fun b u q n _=>by rw [bK (cx (bq (ba q) hp))]; exact n
 there:=fun b u q _=>⟨u,k b u q⟩
 sf:=fun b xs q=>by rw [bK (c7 q hn)]; exact q
 qX:=fun b u xs q=>by rw [bK (c7 q hn)]; exact q
 si:=fun b ps q=>by rw [bK (c7 q hn)]; exact q
theorem Un.write(mu:HA (H x))(he:e=x\/H e=some (.own x))(k:∀ b u,b≠e->h.get? b=some u->h'.get? b=some u)(FI:∃ u,h'.get? e=some u):Un fs ex H (upd H x o) h h':=by
 have hx:∀ b,H b=none->b≠x:=fun b n z=>by subst z; rw [n] at mu; exact mu
 have hb:∀ b,H b=none->b≠e:=fun b n z=>by
  subst z;rcases he with r | r
  ·exact hx b n r
  ·rw [n] at r; cases r
 have hm:∀ b u,H b=some u->¬ HA (some u)->b≠x:=fun b u q nm z=>by subst z; rw [q] at mu; exact nm mu
 refine⟨fun b u q n _ _=>k b u (hb b n) q,fun b u q n _ _=>⟨u.slots,k b u (hb b n) q⟩,fun b u q n _=>by rw [bK (hx b n)]; exact n,fun b u q _=>?_,
  fun b xs q=>by rw [bK (hm b _ q fun z=>z)]; exact q,fun b u xs q=>by rw [bK (hm b _ q fun z=>z)]; exact q,fun b ps q=>by rw [bK (hm b _ q fun z=>z)]; exact q⟩
 by_cases E2:b=e
 ·subst E2; exact FI
 ·exact⟨u,k b u E2 q⟩
end
noncomputable def HE(h:Heap)(H:Hp):List Addr:=(oA h.objs.size).filter fun a=>(H a).isSome
noncomputable def uC(h:Heap)(H:Hp):Heap:=PySem.W.hideAll h (HE h H)
theorem zb(h:Heap)(H:Hp):(uC h H).objs.size=h.objs.size:=PySem.W.hideAll_size _ _
theorem Bf{h:Heap}{H:Hp}{b:Addr}{o:Obj}(e:h.get? b=some o)(n:H b=none):(uC h H).get? b=some o :=
 PySem.W.hideAll_get _ e fun hm=>by
  have q:(H b).isSome=true:=(List.mem_filter.mp hm).2;rw [n] at q; simp at q
theorem Dc{h:Heap}{H:Hp}{b:Addr}{o:Obj}(e:(uC h H).get? b=some o):h.get? b=some o/\H b=none:=by
 have e':h.get? b=some o:=PySem.W.of_hideAll (HE h H) e;refine⟨e',?_⟩;cases q:H b with
 | none=>rfl
 | some x =>
  have hm:b∈HE h H:=List.mem_filter.mpr ⟨List.mem_range.mpr (ba e'),by simp [q]⟩;have z:(uC h H).get? b=none:=PySem.W.hideAll_none (HE h H) hm;rw [z] at e; cases e
noncomputable def n6(g h:Heap)(L:Addr):List (Addr×Obj):=(oA h.objs.size).filterMap fun a=>if a=L\/(g.get? a).isSome=true then none else (h.get? a).map fun o=>(a,o)
theorem vz{g h:Heap}{L a:Addr}{o:Obj}(h1:a≠L)(h2:g.get? a=none)(h3:h.get? a=some o):(a,o)∈n6 g h L :=
 List.mem_filterMap.mpr ⟨a,List.mem_range.mpr (ba h3),by simp [h1,h2,h3]⟩
theorem qH{g h:Heap}{L:Addr}{p:Addr×Obj}(hp:p∈n6 g h L):p.1≠L/\g.get? p.1=none/\h.get? p.1=some p.2:=by
 obtain⟨b,_,e⟩:=List.mem_filterMap.mp hp;split at e
 ·cases e
 ·rename_i hn;cases q:h.get? b with
  | none=>rw [q] at e; simp at e
  | some u =>
   rw [q] at e;simp only [Option.map_some,Option.some.injEq] at e;subst e;refine⟨fun z=>hn (.inl z),?_,q⟩;show g.get? b=none;cases r:g.get? b with
   | none=>rfl
   | some v=>exact(hn (.inr (by simp [r]))).elim
noncomputable def rest(g h:Heap)(L d:Addr):List (Addr×Obj):=(n6 g h L).filter fun p=>decide (p.1≠d)
theorem AR{g h:Heap}{L:Addr}:News g L h (n6 g h L):=fun p hp=>let ⟨a,b,c⟩:=qH hp; ⟨c,a,b⟩
structure Mod(K:ah)(mg:Str->Option Value)(base:Heap):Prop where
 GP:K.In base
 glob:base.Ns aX mg
 blt:∃ mb,base.Ns builtinsNs mb/\∀ x:Str,x≠"__name__"->mb x=eO x
 nolimit:base.NoLimit
structure Cx where
 prog:bx
 w:World
 K:ah
 mg:Str->Option Value
 base:Heap
 A:dO
 N:List Str
 je:aw
 BV:Hp
 env:Env
 outer:List Env
 stack:List Env
 ex:List Addr
 fn:Str->Bool
 calm:Bool
 pn:List (Addr×Obj)
 xe:Value->aw->Prop
noncomputable def zH(l:List Env):List Addr:=l.filterMap (·.frame)
noncomputable abbrev Cx.fs(X:Cx):List Addr:=zH X.outer
noncomputable def Ie(sc:Scope)(x:Str):Prop:=sc.names.lookup x=some .local\/sc.names.lookup x=some .cell\/sc.names.lookup x=some .free
noncomputable def Loc(sc:Scope)(x:Str):Prop:=sc.names.lookup x=some .local\/sc.names.lookup x=some .cell
noncomputable def Look(env:Env)(h:Heap)(m:Str->Option Value)(x:Str)(u:Value):Prop :=
 (env.kindOf x=some .local/\m x=some u)\/((env.kindOf x=some .cell\/env.kindOf x=some .free)/\∃ c,env.cells.lookup x=some c/\h.IsCell c (some u))
structure Cx.Ok(X:Cx):Prop where
 mod:Mod X.K X.mg X.base
 kind:X.env.scope.kind=.function
 glob:X.env.globals=aX
 blt:X.env.builtins=builtinsNs
 above:X.je.heap.objs.size<=X.env.locals
 inj:∀ x y c,X.env.cells.lookup x=some c->X.env.cells.lookup y=some c->x=y
 has:∀ x,(X.env.kindOf x=some .cell\/X.env.kindOf x=some .free)->∃ c,X.env.cells.lookup x=some c
 Hu:∀ x c,X.fn x=true->X.env.cells.lookup x=some c->X.je.heap.objs.size<=c
 hd:X.calm=true->X.A.handled=none
 frames:X.A.frames=some X.stack
 HF:X.stack=X.outer\/(X.stack=X.env :: X.outer/\X.env.frame=some X.env.locals)
 Ia:∀ b∈X.ex,b≠X.env.locals/\∀ x c,X.env.cells.lookup x=some c->c≠b
 bs:∀ b o,X.base.get? b=some o->X.je.heap.get? b=some o/\X.BV b=none
 B7:X.base.objs.size<=X.je.heap.objs.size
 AQ:∀ b o,X.base.get? b=some o->b∉X.ex
 Bs:∀ b∈X.ex,b∉X.fs
 pS:X.je.heap.FunFrames X.base X.outer
 Fb:∀ b∈X.fs,X.BV b=none
structure Inv(X:Cx)(pins:List (Addr×Obj))(σ:List (Option V))(H:Hp)(s:aw):Prop where
 ok:X.Ok
 os:s.os=X.je.os
 bare:ub s.gens
 base:Un X.fs X.ex X.BV H X.je.heap s.heap
 loc:∃ m,s.heap.Ns X.env.locals m/\∀ (i:Nat) (x:Str) (v:V),X.N[i]?=some x->σ[i]?=some (some v)->Ie X.env.scope x->∃ u,RelV v u/\Look X.env s.heap m x u
 cell:∀ x c,X.env.cells.lookup x=some c->∃ v,s.heap.IsCell c v
 free:H X.env.locals=none
 kR:∀ x c,X.env.cells.lookup x=some c->H c=none
 pin:∀ p∈X.pn++pins,s.heap.get? p.1=some p.2/\H p.1=none/\p.1≠X.env.locals/\p.1∉X.fs/\∀ v,p.2.data≠.cell v
 dn:nh X.prog X.w H s.heap
 len:σ.length=X.N.length
section
variable {X:Cx} {pins:List (Addr×Obj)} {σ:List (Option V)} {H H':Hp} {s:aw} {h':Heap}
theorem Cx.Ok.Jo(ok:X.Ok){b:Addr}{o:Obj}(e:X.base.get? b=some o):b∉X.fs:=fun hb=>by
 have:=(ok.pS.mem hb).1;rw [e] at this; cases this
theorem Inv.bs(I:Inv X pins σ H s):∀ b o,X.base.get? b=some o->s.heap.get? b=some o/\H b=none:=fun b o e =>
 ⟨I.base.keep b o (I.ok.bs b o e).1 (I.ok.bs b o e).2 (I.ok.Jo e) (I.ok.AQ b o e),I.base.free b o (I.ok.bs b o e).1 (I.ok.bs b o e).2 (I.ok.AQ b o e)⟩
theorem Inv.bk(I:Inv X pins σ H s):∀ b o,X.base.get? b=some o->s.heap.get? b=some o:=fun b o e=>(I.bs b o e).1
theorem Inv.mod(I:Inv X pins σ H s):Mod X.K X.mg X.base:=I.ok.mod
theorem Inv.rZ(I:Inv X pins σ H s):X.K.In s.heap:=I.ok.mod.GP.keeps I.bk
theorem Inv.fr(I:Inv X pins σ H s):∃ m,Fr X.base X.env.locals s.heap m :=
 let ⟨m,hn,_⟩:=I.loc
 ⟨m,hn,I.bk,da I.ok.B7 I.ok.above⟩
theorem Inv.lt(I:Inv X pins σ H s):X.env.locals < s.heap.objs.size:=let ⟨_,hn,_⟩:=I.loc; hn.lt
theorem Inv.sz(I:Inv X pins σ H s):X.je.heap.objs.size<=s.heap.objs.size:=da I.ok.above (Cf I.lt)
theorem Inv.Jn(I:Inv X pins σ H s){a:Addr}(h:s.heap.objs.size<=a):a∉X.fs:=fun hb=>by
 obtain⟨_,o,ho,_⟩:=I.ok.pS.mem hb;exact absurd (bq (ba ho) (da I.sz h)) (jT _)
theorem Inv.Fj(I:Inv X pins σ H s):∀ x c,X.env.cells.lookup x=some c->c≠X.env.locals:=fun x c e z=>by
 obtain⟨v,o,ho,hd⟩:=I.cell x c e;obtain⟨m,⟨o',es,ep,y9,vH,_⟩,_⟩:=I.loc;rw [z,y9] at ho; cases ho; rw [vH] at hd; cases hd
theorem Inv.pS(I:Inv X pins σ H s):s.heap.FunFrames X.base X.outer:=by
 have all:∀ (l:List Env),(∀ b∈zH l,b∈X.fs)->X.je.heap.FunFrames X.base l->s.heap.FunFrames X.base l:=by
  intro l;induction l with
  | nil=>intro _ _; trivial
  | cons env r ih =>
   intro hs hl;obtain⟨hk,⟨L,o,hf,hn,ho,hd⟩,hr⟩:=hl;have hL:L∈X.fs:=hs L (by unfold zH; rw [qc,hf]; exact e5);obtain⟨sl,e⟩:=I.base.slot L o ho (I.ok.Fb L hL) hL fun z=>I.ok.Bs L z hL;exact⟨hk,⟨L,_,hf,hn,e,hd⟩,ih (fun b hb=>hs b (by unfold zH; rw [qc,hf]; exact bG _ hb)) hr⟩
 exact all X.outer (fun _ hb=>hb) I.ok.pS
theorem Inv.stack(I:Inv X pins σ H s):s.heap.FunFrames X.base X.stack:=by
 rcases I.ok.HF with e | ⟨e,hf⟩
 ·rw [e]; exact I.pS
 ·rw [e];obtain⟨m,hn,_⟩:=I.loc;refine .cons (by rw [I.ok.kind]; decide) hf hn ?_ I.pS;exact Cj (da I.ok.B7 I.ok.above)
theorem Inv.wQ(I:Inv X pins σ H s):∀ b∈zH X.stack,b∈X.env.locals :: X.fs:=fun b hb=>by
 rcases I.ok.HF with e | ⟨e,hf⟩
 ·rw [e] at hb; exact bG _ hb
 ·rw [e] at hb;unfold zH at hb;rw [qc,hf] at hb;exact hb
theorem Inv.xX(I:Inv X pins σ H s):∀ b∈zH X.stack,H b=none:=fun b hb=>by
 rcases List.mem_cons.mp (I.wQ b hb) with e | hb
 ·rw [e]; exact I.free
 ·obtain⟨_,o,ho,_⟩:=I.ok.pS.mem hb;exact I.base.free b o ho (I.ok.Fb b hb) fun z=>I.ok.Bs b z hb
theorem Inv.step{g':Array GenState}{t':Nat}{d':Drawn}{ch:List Addr}(I:Inv X pins σ H s)
  (DS:∀ b∈ch,(b∈X.ex\/X.je.heap.objs.size<=b)/\b≠X.env.locals/\(∀ x c,X.env.cells.lookup x=some c->c≠b)/\∀ p∈X.pn++pins,p.1≠b)
  (keep:∀ b o,b≠X.env.locals->b∉X.fs->b∉ch->s.heap.get? b=some o->H b=none->h'.get? b=some o)
  (slot:∀ b o,b≠X.env.locals->b∈X.fs->b∉ch->s.heap.get? b=some o->H b=none->∃ sl,h'.get? b=some { o with slots:=sl }) (free:∀ b o,b∉ch->s.heap.get? b=some o->H b=none->H' b=none)
  (there:∀ b o,b∉ch->s.heap.get? b=some o->∃ o',h'.get? b=some o')
  (sf:∀ b xs,H b=some (.tup xs)->H' b=some (.tup xs)) (qX:∀ b o u,H b=some (.kQ o u)->H' b=some (.kQ o u)) (si:∀ b q,H b=some (.DJ q)->H' b=some (.DJ q))
  (ns:∀ m,s.heap.Ns X.env.locals m->h'.Ns X.env.locals m) (dn:nh X.prog X.w H' h') (hg:ub g') :
  Inv X pins σ H' { s with heap:=h',gens:=g',drawn:=d',toks:=t' }:=by
 have Lg:∀ b o,X.je.heap.get? b=some o->b≠X.env.locals:=fun b o e=>cx (bq (ba e) I.ok.above);have HP:∀ b o,X.je.heap.get? b=some o->b∉X.ex->b∉ch:=fun b o e hx hb=>by
  rcases (DS b hb).1 with z | z
  ·exact hx z
  ·exact absurd (bq (ba e) z) (jT _)
 have cellK:∀ x c,X.env.cells.lookup x=some c->∀ v,s.heap.IsCell c v->h'.IsCell c v:=fun x c e v ⟨o,ho,hd⟩=>by
  have GF:c∉ch:=fun z=>(DS c z).2.2.1 x c e rfl;by_cases hc:c∈X.fs
  ·obtain⟨sl,q⟩:=slot c o (I.Fj x c e) hc GF ho (I.kR x c e);exact⟨_,q,hd⟩
  ·exact⟨o,keep c o (I.Fj x c e) hc GF ho (I.kR x c e),hd⟩
 refine⟨I.ok,I.os,hg,⟨fun b o e n hb hx=>?_,fun b o e n hb hx=>?_,fun b o e n hx=>?_,fun b o e hx=>?_,fun b xs e=>sf b xs (I.base.sf b xs e),fun b o xs e=>qX b o xs (I.base.qX b o xs e),fun b ps e=>?_⟩,?_,fun x c e=>?_,?_,fun x c e=>?_,fun p hp=>?_,dn,I.len⟩
 ·exact keep b o (Lg b o e) hb (HP b o e hx) (I.base.keep b o e n hb hx) (I.base.free b o e n hx)
 ·obtain⟨sl,e1⟩:=I.base.slot b o e n hb hx;obtain⟨Ma,e2⟩:=slot b _ (Lg b o e) hb (HP b o e hx) e1 (I.base.free b o e n hx);exact⟨Ma,e2⟩
 ·obtain⟨o',e1⟩:=I.base.there b o e hx;exact free b o' (HP b o e hx) e1 (I.base.free b o e n hx)
 ·obtain⟨o',e1⟩:=I.base.there b o e hx;exact there b o' (HP b o e hx) e1
 ·exact si b _ (I.base.si b ps e)
 ·obtain⟨m,hn,hl⟩:=I.loc;refine⟨m,ns m hn,fun i x v e1 e2 e3=>?_⟩;obtain⟨u,r,l⟩:=hl i x v e1 e2 e3;refine⟨u,r,?_⟩;rcases l with l | ⟨k,c,e,z⟩
  ·exact .inl l
  ·exact .inr ⟨k,c,e,cellK x c e _ z⟩
 ·obtain⟨v,z⟩:=I.cell x c e;exact⟨v,cellK x c e v z⟩
 ·obtain⟨m,⟨o,_,_,ho,_⟩,_⟩:=I.loc;exact free _ o (fun z=>(DS _ z).2.1 rfl) ho I.free
 ·obtain⟨v,o,ho,hd⟩:=I.cell x c e;exact free c o (fun z=>(DS c z).2.2.1 x c e rfl) ho (I.kR x c e)
 ·obtain⟨e,n,ne,nf,d⟩:=I.pin p hp;have GF:p.1∉ch:=fun z=>(DS p.1 z).2.2.2 p hp rfl;exact⟨keep p.1 p.2 ne nf GF e n,free p.1 p.2 GF e n,ne,nf,d⟩
theorem Inv.un{t':Nat}(I:Inv X pins σ H s)(u:Un X.fs [] H H' s.heap h')(dn:nh X.prog X.w H' h'):Inv X pins σ H' { s with heap:=h',toks:=t' }:=by
 obtain⟨m,⟨o,es,ep,ho,r⟩,_⟩:=id I.loc;obtain⟨sl,hL⟩:=u.any ho I.free (by simp);exact I.step (g':=s.gens) (d':=s.drawn) (ch:=[]) (fun _ z=>nomatch z) (fun b o _ hb _ e n=>u.keep b o e n hb (by simp)) (fun b o _ hb _ e n=>u.slot b o e n hb (by simp)) (fun b o _ e n=>u.free b o e n (by simp)) (fun b o _ e=>u.there b o e (by simp)) u.sf u.qX u.si (fun m' hm=>by
  obtain⟨o',Kq,Kr,y9,r'⟩:=hm;rw [ho] at y9; cases y9;exact⟨_,Kq,Kr,hL,r'⟩) dn I.bare
theorem Inv.call{g':Array GenState}{t':Nat}{d':Drawn}{ch:List Addr}(I:Inv X pins σ H s)(u:Un (zH X.stack) ch H H' s.heap h')(dn:nh X.prog X.w H' h')(hg:ub g')
  (DS:∀ b∈ch,(b∈X.ex\/X.je.heap.objs.size<=b)/\b≠X.env.locals/\(∀ x c,X.env.cells.lookup x=some c->c≠b)/\∀ p∈X.pn++pins,p.1≠b) :
  Inv X pins σ H' { s with heap:=h',gens:=g',drawn:=d',toks:=t' }:=by
 obtain⟨m,⟨o,es,ep,ho,r⟩,_⟩:=id I.loc;obtain⟨sl,hL⟩:=u.any ho I.free fun z=>(DS _ z).2.1 rfl;exact I.step (ch:=ch) DS (fun b o hL hb hc e n=>u.keep b o e n (fun z=>(List.mem_cons.mp (I.wQ b z)).elim hL hb) hc) (fun b o _ _ hc e n=>u.any e n hc) (fun b o hc e n=>u.free b o e n hc) (fun b o hc e=>u.there b o e hc) u.sf u.qX u.si (fun m' hm=>by
  obtain⟨o',Kq,Kr,y9,r'⟩:=hm;rw [ho] at y9; cases y9;exact⟨_,Kq,Kr,hL,r'⟩) dn hg
theorem Inv.turned{t':Nat}{it:Addr}(I:Inv X pins σ H s)(k:∀ b o,b≠it->s.heap.get? b=some o->h'.get? b=some o)(hn:H it=none)(hL:it≠X.env.locals)
  (h1:it∈X.ex\/X.je.heap.objs.size<=it) (h2:∀ x c,X.env.cells.lookup x=some c->c≠it) (h3:∀ p∈X.pn++pins,p.1≠it):Inv X pins σ H { s with heap:=h',toks:=t' }:=by
 have Lf:∀ b u,H b=some u->b≠it:=fun b u e z=>by rw [z,hn] at e; cases e
 refine I.step (g':=s.gens) (d':=s.drawn) (ch:=[it]) (fun b hb=>?_) (fun b o _ _ hc e _=>k b o (fun z=>hc (by simp [z])) e) (fun b o _ _ hc e _=>⟨o.slots,k b o (fun z=>hc (by simp [z])) e⟩) (fun _ _ _ _ n=>n)
  (fun b o hc e=>⟨o,k b o (fun z=>hc (by simp [z])) e⟩) (fun _ _ e=>e) (fun _ _ _ e=>e) (fun _ _ e=>e) (fun m hm=>?_) (fun b u e=>?_) I.bare
 ·have e:b=it:=by simpa using hb
  subst e;exact⟨h1,hL,h2,h3⟩
 ·obtain⟨o,es,ep,ho,r⟩:=hm;exact⟨o,es,ep,k _ o (pe hL) ho,r⟩
 ·refine(I.dn b u e).kc (fun c v hc q=>k c v ?_ q) (fun _ q=>q) fun _ _ q=>q;rcases hc with z | z
  ·rw [z]; exact Lf b u e
  ·exact Lf c _ z
theorem Inv.tok(I:Inv X pins σ H s)(t:Nat):Inv X pins σ H { s with toks:=t }:=I.un (h':=s.heap) (t':=t) Un.refl I.dn
theorem Inv.kept{t':Nat}(I:Inv X pins σ H s)(k:∀ b u,s.heap.get? b=some u->h'.get? b=some u):Inv X pins σ H { s with heap:=h',toks:=t' }:=I.un (Un.kept k) (I.dn.kept k)
theorem Inv.laid{a:Addr}{o:HO}{t':Nat}(I:Inv X pins σ H s)(k:∀ b u,s.heap.get? b=some u->h'.get? b=some u)(hp:s.heap.objs.size<=a)(new:ft X.prog X.w (upd H a o) h' a o) :
  Inv X pins σ (upd H a o) { s with heap:=h',toks:=t' }:=I.un (Un.laid k hp (I.dn.fresh hp)) (I.dn.laid k hp new)
theorem Inv.write{x e:Addr}{o:HO}{t':Nat}(I:Inv X pins σ H s)(mu:HA (H x))(he:e=x\/H e=some (.own x))(k:∀ b u,b≠e->s.heap.get? b=some u->h'.get? b=some u)(FI:∃ u,h'.get? e=some u)
  (new:ft X.prog X.w (upd H x o) h' x o):Inv X pins σ (upd H x o) { s with heap:=h',toks:=t' }:=I.un (Un.write mu he k FI) (I.dn.write mu he k FI new)
theorem Inv.x8{DO:List (Addr×Obj)}(I:Inv X pins σ H s)(h:∀ p∈DO,s.heap.get? p.1=some p.2/\H p.1=none/\p.1≠X.env.locals/\p.1∉X.fs/\∀ v,p.2.data≠.cell v):Inv X DO σ H s :=
 ⟨I.ok,I.os,I.bare,I.base,I.loc,I.cell,I.free,I.kR,fun p hp=>(List.mem_append.mp hp).elim (fun z=>I.pin p (Ci _ z)) (h p),I.dn,I.len⟩
theorem vw{N:List Str}(hN:N.Nodup){i j:Nat}{x:Str}(a:N[i]?=some x)(b:N[j]?=some x):i=j:=by
 obtain⟨h1,e1⟩:=List.getElem?_eq_some_iff.mp a;obtain⟨h2,e2⟩:=List.getElem?_eq_some_iff.mp b;exact(List.getElem_inj hN).mp (e1.trans e2.symm)
theorem tf{M:Model}{A:dO}{E:Value->aw->Prop}{i:Nat}{x:Str}{v:V}{u:Value}{Q:Unit->aw->Prop}(I:Inv X pins σ H s)(hN:X.N.Nodup)(hi:X.N[i]?=some x)(hx:Loc X.env.scope x)(r:RelV v u)
  (h:∀ s',Inv X pins (σ.set i (some v)) H s'->(∃ a,oo a s.heap s'.heap/\(a=X.env.locals\/X.env.cells.lookup x=some a))->Q () s') (hf:autoParam (X.fn x=true\/X.env.scope.names.lookup x=some .local) Ao._auto_1):wpAny M A (storeName X.env x u) Q E s:=by
 obtain⟨m,hn,hl⟩:=id I.loc;have Kf:(X.env.scope.kind == .class||(X.env.scope.kind == .module&&X.env.locals != X.env.globals))=false:=by rw [I.ok.kind]; rfl
 have Ha:i < σ.length:=by rw [I.len]; exact(List.getElem?_eq_some_iff.mp hi).1
 have Fj:=I.Fj;have tracked:∀ {a:Addr} {h':Heap},(∃ o,s.heap.get? a=some o/\H a=none)->oo a s.heap h'->nh X.prog X.w H h':=fun {a h'} ha hs b ob e=>by
  obtain⟨_,_,nU⟩:=ha;refine(I.dn b ob e).kc (fun c w' hc q=>(hs.2 c ?_).trans q) (fun _ q=>q) fun _ _ q=>q;rintro rfl;rcases hc with rfl | hc
  ·rw [nU] at e; cases e
  ·rw [nU] at hc; cases hc
 rcases hx with hk | hk
 ·refine wpAny_storeName_local hk hn (fun h' MR hs=>?_) Kf;obtain⟨oL,_,_,MN,_⟩:=id hn;refine h _ ⟨I.ok,I.os,I.bare,⟨fun b o e n hb hx=>?_,fun b o e n hb hx=>?_,I.base.free,fun b o e hx=>?_,I.base.sf,I.base.qX,I.base.si⟩,⟨_,MR,fun j y v' e1 e2 e3=>?_⟩,fun y c e=>?_,I.free,I.kR,fun p hp=>?_,tracked ⟨oL,MN,I.free⟩ hs,by simpa using I.len⟩ ⟨_,hs,.inl rfl⟩
  ·exact(hs.2 b (cx (bq (ba e) I.ok.above))).trans (I.base.keep b o e n hb hx)
  ·obtain⟨sl,e1⟩:=I.base.slot b o e n hb hx;exact⟨sl,(hs.2 b (cx (bq (ba e) I.ok.above))).trans e1⟩
  ·obtain⟨o',e1⟩:=I.base.there b o e hx;exact⟨o',(hs.2 b (cx (bq (ba e) I.ok.above))).trans e1⟩
  ·by_cases hj:j=i
   ·subst hj;rw [hi] at e1; cases e1;rw [iB Ha] at e2;cases e2;exact⟨u,r,.inl ⟨hk,by simp⟩⟩
   ·rw [jz (pe hj)] at e2;obtain⟨u',r',q⟩:=hl j y v' e1 e2 e3;refine⟨u',r',?_⟩;rcases q with ⟨k,e⟩ | ⟨k,c,e,z⟩
    ·refine .inl ⟨k,?_⟩;have:y≠x:=fun e=>hj (vw hN e1 (e ▸ hi));simp [this,e]
    ·exact .inr ⟨k,c,e,z.sameBut hs (Fj y c e)⟩
  ·obtain⟨w',z⟩:=I.cell y c e;exact⟨w',z.sameBut hs (Fj y c e)⟩
  ·obtain⟨e,n,ne,nf,d⟩:=I.pin p hp;exact⟨(hs.2 p.1 ne).trans e,n,ne,nf,d⟩
 ·have Ka:X.fn x=true:=by
   rcases hf with z | z
   ·exact z
   ·rw [z] at hk; cases hk
  obtain⟨c,hc⟩:=I.ok.has x (.inl hk);obtain⟨w',z⟩:=I.cell x c hc;refine wpAny_storeName_cell I.ok.kind hk hc z (fun h' Hi hs=>?_);obtain⟨oc,FH,JT⟩:=id z;refine h { s with heap:=h' } ⟨I.ok,I.os,I.bare,⟨fun b o e n hb hx=>?_,fun b o e n hb hx=>?_,I.base.free,fun b o e hx=>?_,I.base.sf,I.base.qX,I.base.si⟩,⟨m,hn.sameBut hs (pe (Fj x c hc)),fun j y v' e1 e2 e3=>?_⟩,fun y c' e=>?_,I.free,I.kR,fun p hp=>?_,tracked ⟨oc,FH,I.kR x c hc⟩ hs,by simpa using I.len⟩ ⟨c,hs,.inr hc⟩
  ·exact(hs.2 b (cx (bq (ba e) (I.ok.Hu x c Ka hc)))).trans (I.base.keep b o e n hb hx)
  ·obtain⟨sl,e1⟩:=I.base.slot b o e n hb hx;exact⟨sl,(hs.2 b (cx (bq (ba e) (I.ok.Hu x c Ka hc)))).trans e1⟩
  ·obtain⟨o',e1⟩:=I.base.there b o e hx;exact⟨o',(hs.2 b (cx (bq (ba e) (I.ok.Hu x c Ka hc)))).trans e1⟩
  ·by_cases hj:j=i
   ·subst hj;rw [hi] at e1; cases e1;rw [iB Ha] at e2;cases e2;exact⟨u,r,.inr ⟨.inl hk,c,hc,Hi⟩⟩
   ·rw [jz (pe hj)] at e2;obtain⟨u',r',q⟩:=hl j y v' e1 e2 e3;refine⟨u',r',?_⟩;rcases q with q | ⟨k,c',e,z'⟩
    ·exact .inl q
    ·refine .inr ⟨k,c',e,z'.sameBut hs ?_⟩;rintro rfl;exact hj (vw hN e1 (I.ok.inj _ _ _ e hc ▸ hi))
  ·by_cases Lw:c'=c
   ·subst Lw; exact⟨_,Hi⟩
   ·obtain⟨w2,z2⟩:=I.cell y c' e;exact⟨w2,z2.sameBut hs Lw⟩
  ·obtain⟨e,n,ne,nf,d⟩:=I.pin p hp;refine⟨(hs.2 p.1 ?_).trans e,n,ne,nf,d⟩;intro q;rw [q,FH] at e;have q':oc=p.2:=a8 e;exact d w' (by rw [<-q']; exact JT)
theorem vk{M:Model}{A:dO}{E:Value->aw->Prop}{i:Nat}{x:Str}{v:V}{u:Value}{Q:Unit->aw->Prop}(I:Inv X pins σ H s)(hN:X.N.Nodup)(hi:X.N[i]?=some x)(hx:Loc X.env.scope x)(r:RelV v u)
  (h:∀ s',Inv X pins (σ.set i (some v)) H s'->Q () s') (hf:autoParam (X.fn x=true\/X.env.scope.names.lookup x=some .local) Ao._auto_1):wpAny M A (storeName X.env x u) Q E s :=
 tf I hN hi hx r (fun s' I' _=>h s' I') hf
end
noncomputable abbrev XK:=Value->Option Addr->Hp->Prop
noncomputable abbrev St:=List (Option V)
noncomputable abbrev VK:=V->Hp->Prop
noncomputable abbrev TE:=St->Hp->VK->Prop
noncomputable abbrev TT:=St->Hp->(Bool->Hp->Prop)->Prop
noncomputable abbrev TA:=St->Hp->(List V->Hp->Prop)->Prop
structure Ends where
 nx:St->Hp->Prop
 rt:VK
 bk:St->Hp->Prop:=fun _ _=>False
 ct:St->Hp->Prop:=fun _ _=>False
noncomputable abbrev TS:=Ends->St->Hp->Prop
noncomputable def EP(X:Cx)(pins:List (Addr×Obj))(σ:St)(Q:VK)(u:Value)(s':aw):Prop:=∃ v H',Inv X pins σ H' s'/\RelV v u/\Q v H'
noncomputable def TP(X:Cx)(pins:List (Addr×Obj))(σ:St)(Q:Bool->Hp->Prop)(b:Bool)(s':aw):Prop:=∃ H',Inv X pins σ H' s'/\Q b H'
noncomputable def SP(X:Cx)(pins:List (Addr×Obj))(D:Ends)(f:Flow)(s':aw):Prop :=
 match f with
 | .next=>∃ gy H',Inv X pins gy H' s'/\D.nx gy H'
 | .brk=>∃ gy H',Inv X pins gy H' s'/\D.bk gy H'
 | .cont=>∃ gy H',Inv X pins gy H' s'/\D.ct gy H'
 | .ret u=>∃ v gy H',Inv X pins gy H' s'/\RelV v u/\D.rt v H'
noncomputable def PE(X:Cx)(e:Expr)(t:TE):Prop :=
 ∀ (pins:List (Addr×Obj)) (s:aw) (σ:St) (H:Hp) (Q:VK),Inv X pins σ H s->t σ H Q->wpAny (model X.prog X.w) X.A (eval e X.env) (EP X pins σ Q) X.xe s
noncomputable def FQ(X:Cx)(st:List Stmt)(t:TS):Prop :=
 ∀ (pins:List (Addr×Obj)) (s:aw) (σ:St) (H:Hp) (D:Ends),Inv X pins σ H s->t D σ H->wpAny (model X.prog X.w) X.A (execs st X.env) (SP X pins D) X.xe s
theorem fh{α:Type}{t:Sem α}{Q Q':α->aw->Prop}{M:Model}{A:dO}{E:Value->aw->Prop}{s:aw}(h:wpAny M A t Q E s)(hQ:∀ a s,Q a s->Q' a s):wpAny M A t Q' E s:=wpAny_mono h hQ fun _ _ x=>x
section
variable {X:Cx}
noncomputable def Iw(i:Nat):TE:=fun σ H Q=>∃ v,σ[i]?=some (some v)/\Q v H
noncomputable def tC(v:V):TE:=fun _ H Q=>Q v H
theorem Ew {i:Nat} {x:Str} {pos:Pos} (hN:X.N[i]?=some x) (hv:Ie X.env.scope x) (hd:autoParam ((x == ("__debug__" : Str))=false) Ad._auto_1) (yu:autoParam ((x == ("__classdict__" : Str))=false) Ad._auto_1):PE X (.Name x pos) (Iw i):=by
 intro pins s σ H Q I h;obtain⟨v,e,h⟩:=h;obtain⟨m,hn,hl⟩:=I.loc;obtain⟨u,r,l⟩:=hl i x v hN e hv;have fin:EP X pins σ Q u s:=⟨v,H,I,r,h⟩;rcases l with ⟨hk,hm⟩ | ⟨hk,c,hc,kP⟩
 ·exact wpAny_Name (wpAny_loadName_local I.ok.kind hk hn hm fin) hd
 ·rcases hk with hk | hk
  ·exact wpAny_Name (wpAny_loadName_cell I.ok.kind hk hc kP fin) hd
  ·exact wpAny_Name (wpAny_loadName_free I.ok.kind hk hc kP fin yu) hd
theorem Ez{i j pos}:PE X (.Constant (.int i) j pos) (tC (.int i)):=fun _ _ _ H _ I h=>wpAny_Constant_int ⟨.int i,H,I.tok _,⟨_,rfl⟩,h⟩
theorem Gu{b j pos}:PE X (.Constant (.bool b) j pos) (tC (.bl b)):=fun _ _ _ H _ I h=>Constant_bool ⟨.bl b,H,I,rfl,h⟩
theorem Ey{x j pos}:PE X (.Constant (.str x) j pos) (tC (.str x)):=fun _ _ _ H _ I h=>Calls.Constant_str ⟨.str x,H,I.tok _,⟨_,rfl⟩,h⟩
noncomputable def Gl(X:Cx)(x:Str):Prop:=X.env.kindOf x=some .globalImplicit
theorem ux{E:Value->aw->Prop}{pins:List (Addr×Obj)}{s:aw}{σ:St}{H:Hp}{x:Str}{u:Value}{pos:Pos}{Q:Value->aw->Prop}(I:Inv X pins σ H s)(hg:Gl X x)(hm:X.mg x=some u)(h:Q u s)
  (hd:autoParam ((x == ("__debug__" : Str))=false) Ad._auto_1):wpAny (model X.prog X.w) X.A (eval (.Name x pos) X.env) Q E s :=
 wx I.ok.kind hg (Calls.loadGlobal_global (by rw [I.ok.glob]; exact I.mod.glob.keeps I.bk) hm h) hd
theorem mQ{E:Value->aw->Prop}{pins:List (Addr×Obj)}{s:aw}{σ:St}{H:Hp}{x:Str}{u:Value}{pos:Pos}{Q:Value->aw->Prop}(I:Inv X pins σ H s)(hg:Gl X x)(hm:X.mg x=none)(hv:eO x=some u)(h:Q u s)
  (hn:autoParam (x≠"__name__") Ad._auto_1) (hd:autoParam ((x == ("__debug__" : Str))=false) Ad._auto_1):wpAny (model X.prog X.w) X.A (eval (.Name x pos) X.env) Q E s:=by
 obtain⟨mb,h1,h2⟩:=I.mod.blt;exact wx I.ok.kind hg (Calls.loadGlobal_builtin (by rw [I.ok.glob]; exact I.mod.glob.keeps I.bk) hm (by rw [I.ok.blt]; exact h1.keeps I.bk) ((h2 x hn).trans hv) h) hd
variable {a b:Expr} {ta tb:TE} {pos:Pos}
noncomputable def tB(t:TE):TT:=fun σ H Q=>t σ H fun x H1=>∃ c,x=.bl c/\Q c H1
variable {tA OF:TT} {rest:List Expr}
end
noncomputable def p3(K:ah)(H:Hp)(a:Addr)(xs:List V):Prop :=
 Rd H a (.lst xs) \/
  ∃ (o:Obj) (cH:Array Value) (n:Nat),K.lookup a=some o/\o.cls=.type "list"/\o.dict=none/\o.data=.seq cH n/\cH.size<=a4/\Vals xs cH.toList
noncomputable def r8(K:ah)(H:Hp)(a:Addr)(xs:List V):Prop :=
 Rd H a (.tup xs) \/
  ∃ (o:Obj) (cH:Array Value) (n:Nat),K.lookup a=some o/\o.cls=.type "tuple"/\o.data=.seq cH n/\cH.size<=a4/\Vals xs cH.toList
noncomputable def Ky:Value->Option V
 | .none=>some .gR
 | .bool b=>some (.bl b)
 | .int i _=>some (.int i)
 | .str x _=>some (.str x)
 | .bytes b _=>some (.DX b)
 | .float b _=>some (.FK b)
 | .ref a=>some (.ref a)
 | .type n=>some (.ty n)
 | _=>none
theorem RelV.abs{x:V}{u:Value}(r:RelV x u):Ky u=some x:=by
 cases x with
 | gR=>cases r; rfl
 | bl _=>cases r; rfl
 | int _=>obtain⟨t,rfl⟩:=r; rfl
 | str _=>obtain⟨t,rfl⟩:=r; rfl
 | DX _=>obtain⟨t,rfl⟩:=r; rfl
 | FK _=>obtain⟨t,rfl⟩:=r; rfl
 | ref _=>cases r; rfl
 | ty _=>cases r; rfl
theorem RelV.inj{x y:V}{u:Value}(r:RelV x u)(q:RelV y u):x=y:=a8 (r.abs.symm.trans q.abs)
theorem Vals.inj:∀ {xs ys:List V} {us:List Value},Vals xs us->Vals ys us->xs=ys:=by
 intro xs ys us h;induction h generalizing ys with
 | nil=>intro k; cases k; rfl
 | cons r t ih =>
  intro k;cases k with
  | cons r' t'=>rw [r.inj r',ih t']
section
variable {X:Cx} {pins:List (Addr×Obj)} {σ:St} {H:Hp} {s:aw} {a:Addr} {xs ys:List V}
theorem p3.of{K:ah}(h:H a=some (.lst xs)):p3 K H a xs:=.inl (.inl h)
theorem r8.of{K:ah}(h:H a=some (.tup xs)):r8 K H a xs:=.inl (.inl h)
theorem Inv.list(I:Inv X pins σ H s)(h:p3 X.K H a xs):∃ cH:List Value,Vals xs cH/\PlainL s.heap a cH.toArray/\xs.length<=a4:=by
 rcases h with h | ⟨o,cH,n,hk,hc,hd,hs,hz,r⟩
 ·obtain⟨z,cH,n,r,e⟩:=h.ok I.dn;exact⟨cH,r,⟨_,n,e,rfl,rfl,rfl⟩,z⟩
 ·refine⟨cH.toList,r,⟨o,n,I.rZ a o hk,hc,hd,by simpa using hs⟩,?_⟩;have e:=r.length;simp only [gQ] at e;lia
theorem Inv.tuple(I:Inv X pins σ H s)(h:r8 X.K H a xs):∃ cH:List Value,Vals xs cH/\IsTup s.heap a cH.toArray/\xs.length<=a4:=by
 rcases h with h | ⟨o,cH,n,hk,hc,hs,hz,r⟩
 ·obtain⟨z,cH,r,p⟩:=h.ok I.dn;exact⟨cH,r,p,z⟩
 ·refine⟨cH.toList,r,⟨o,I.rZ a o hk,hc,n,by simpa using hs⟩,?_⟩;have e:=r.length;simp only [gQ] at e;lia
theorem Inv.AX(I:Inv X pins σ H s)(h:p3 X.K H a xs)(h':p3 X.K H a ys):xs=ys:=by
 obtain⟨cH,r,⟨o,n,e,_,_,d⟩,_⟩:=I.list h;obtain⟨its',r',⟨o',n',e',_,_,d'⟩,_⟩:=I.list h';rw [e] at e'; cases e';rw [d] at d';injection d' with d1 _
 have:cH=its':=by simpa using congrArg Array.toList d1
 subst this;exact r.inj r'
theorem Inv.yM(I:Inv X pins σ H s)(h:r8 X.K H a xs)(h':r8 X.K H a ys):xs=ys:=by
 obtain⟨cH,r,⟨o,e,_,n,d⟩,_⟩:=I.tuple h;obtain⟨its',r',⟨o',e',_,n',d'⟩,_⟩:=I.tuple h';rw [e] at e'; cases e';rw [d] at d';injection d' with d1 _
 have:cH=its':=by simpa using congrArg Array.toList d1
 subst this;exact r.inj r'
end
noncomputable abbrev Cx.se(X:Cx)(E:Value->aw->Prop):Cx:={ X with xe:=E }
noncomputable abbrev Cx.FE(X:Cx):Cx:=X.se fun _ _=>False
theorem Cx.Ok.se{X:Cx}(ok:X.Ok)(E:Value->aw->Prop):(X.se E).Ok :=
 ⟨ok.mod,ok.kind,ok.glob,ok.blt,ok.above,ok.inj,ok.has,ok.Hu,ok.hd,ok.frames,ok.HF,ok.Ia,ok.bs,ok.B7,ok.AQ,ok.Bs,ok.pS,ok.Fb⟩
theorem Cx.Ok.ll{X:Cx}{E:Value->aw->Prop}(ok:(X.se E).Ok):X.Ok :=
 ⟨ok.mod,ok.kind,ok.glob,ok.blt,ok.above,ok.inj,ok.has,ok.Hu,ok.hd,ok.frames,ok.HF,ok.Ia,ok.bs,ok.B7,ok.AQ,ok.Bs,ok.pS,ok.Fb⟩
section
variable {X:Cx} {pins:List (Addr×Obj)} {σ:St} {H:Hp} {s:aw} {E:Value->aw->Prop}
theorem Inv.se(I:Inv X pins σ H s)(E:Value->aw->Prop):Inv (X.se E) pins σ H s:=⟨I.ok.se E,I.os,I.bare,I.base,I.loc,I.cell,I.free,I.kR,I.pin,I.dn,I.len⟩
theorem Inv.ll(I:Inv (X.se E) pins σ H s):Inv X pins σ H s:=⟨I.ok.ll,I.os,I.bare,I.base,I.loc,I.cell,I.free,I.kR,I.pin,I.dn,I.len⟩
theorem SP.ll{D:Ends}{f:Flow}{s':aw}(h:SP (X.se E) pins D f s'):SP X pins D f s':=by
 cases f with
 | next=>obtain⟨gy,H',I,q⟩:=h; exact⟨gy,H',I.ll,q⟩
 | brk=>obtain⟨gy,H',I,q⟩:=h; exact⟨gy,H',I.ll,q⟩
 | cont=>obtain⟨gy,H',I,q⟩:=h; exact⟨gy,H',I.ll,q⟩
 | ret u=>obtain⟨v,gy,H',I,r,q⟩:=h; exact⟨v,gy,H',I.ll,r,q⟩
theorem FQ.FE{st:List Stmt}{t:TS}(h:FQ X.FE st t):FQ X st t:=fun pins s σ H D I hw =>
 wpAny_mono (h pins s σ H D (I.se _) hw) (fun _ _ q=>q.ll) fun _ _ z=>bg z
end
section
variable {X:Cx} {st:Stmt} {rest:List Stmt} {t u:TS} {e:Expr} {te:TE} {pos:Pos}
theorem Inv.quiet{pins:List (Addr×Obj)}{σ:St}{H:Hp}{s:aw}(I:Inv X pins σ H s):interactive X.env=false:=by simp [interactive,I.ok.kind]
end
noncomputable abbrev KA:=V->V->V->Hp->(Hp->Prop)->Prop
noncomputable def KD(X:Cx)(t:KA):Prop :=
 ∀ (pins:List (Addr×Obj)) (s:aw) (σ:St) (H:Hp) (o i v:V) (ov iv u:Value) (Q:Hp->Prop),Inv X pins σ H s->RelV o ov->RelV i iv->RelV v u->t o i v H Q ->
  wpAny (model X.prog X.w) X.A (setItem ov iv u) (fun _ s'=>∃ H',Inv X pins σ H' s'/\Q H') X.xe s
structure It where
 go:Nat->Hp->Prop
 K3:Nat->Hp->V->Hp->Prop
 stop:Nat->Hp->Prop
noncomputable def p8(X:Cx)(pins:List (Addr×Obj))(H:Hp)(b:Addr):Prop :=
 H b=none/\b≠X.env.locals/\b∉X.fs/\(b∈X.ex\/X.je.heap.objs.size<=b)/\(∀ x c,X.env.cells.lookup x=some c->c≠b)/\∀ p∈X.pn++pins,p.1≠b
theorem Inv.Dq{X:Cx}{pins:List (Addr×Obj)}{σ:St}{H H':Hp}{s:aw}{b:Addr}(I:Inv X pins σ H s)(hb:s.heap.objs.size<=b)(hn:H' b=none):p8 X pins H' b:=by
 refine⟨hn,Nat.ne_of_gt (bq I.lt hb),I.Jn hb,.inr (da I.sz hb),fun x c e z=>?_,fun p hp z=>?_⟩
 ·obtain⟨v,q⟩:=I.cell x c e;exact absurd (bq q.lt (by rw [z]; exact hb)) (jT _)
 ·exact absurd (bq (ba (I.pin p hp).1) (by rw [z]; exact hb)) (jT _)
structure Turn(P:bx)(w:World)(K:ah)(tg:Expr)(J:It)(fp:List Addr)(it:Addr)(tn:Nat->Heap->Prop):Prop where
 mem:it∈fp
 obj:∀ i h,tn i h->∀ b∈fp,∃ o,h.get? b=some o/\∀ v,o.data≠.cell v
 keep:∀ i h h',tn i h->(∀ b∈fp,∀ o,h.get? b=some o->h'.get? b=some o)->tn i h'
 item:∀ (X:Cx),X.prog=P->X.w=w->X.K=K->X.calm=true->∀ (i:Nat) (pins:List (Addr×Obj)) (s:aw) (σ:St) (H:Hp) (E:Value->aw->Prop),Inv X pins σ H s->(∀ b∈fp,p8 X pins H b)->tn i s.heap->J.go i H ->
  wpAny (model P w) X.A (pyNext (.ref it)) (fun r s1=>∃ u,r=some u /\
   wpAny (model P w) X.A (qo tg (.ref it) u) (fun _ s2=>∃ x H',Inv X pins σ H' s2/\RelV x u/\J.K3 i H x H'/\tn (i+1) s2.heap/\∀ b∈fp,H' b=none) E s1) E s
 done:∀ (X:Cx),X.prog=P->X.w=w->X.K=K->X.calm=true->∀ (i:Nat) (pins:List (Addr×Obj)) (s:aw) (σ:St) (H:Hp) (E:Value->aw->Prop),Inv X pins σ H s->(∀ b∈fp,p8 X pins H b)->tn i s.heap->J.stop i H ->
  wpAny (model P w) X.A (pyNext (.ref it)) (fun r s1=>r=none/\Inv X pins σ H s1) E s
 self:∀ (A:dO) (i:Nat) (s:aw) (Q:Value->aw->Prop) (E:Value->aw->Prop),tn i s.heap->Q (.ref it) s->wpAny (model P w) A (pyIter (.ref it)) Q E s
noncomputable abbrev TI:=St->Hp->(It->Hp->Prop)->Prop
noncomputable def Ou(X:Cx)(pins:List (Addr×Obj))(σ:St)(tg:Expr)(R:It->Hp->Prop)(ES:Value)(s2:aw):Prop :=
 ∃ (it:Addr) (fp:List Addr) (tn:Nat->Heap->Prop) (J:It) (H':Hp),ES=.ref it/\Inv X pins σ H' s2/\Turn X.prog X.w X.K tg J fp it tn/\tn 0 s2.heap/\(∀ b∈fp,p8 X pins H' b)/\R J H'
theorem Bl{M:Model}{A:dO}{E:Value->aw->Prop}{s:aw}{tg:Expr}{it:Addr}{u:Value}{o:Obj}{n:String}{vs:Array Value}{Q:Unit->aw->Prop}(ho:s.heap.get? it=some o)(hc:o.cls=.type n)(hd:o.data=.fields vs)
    (hn:["enumerate","zip","dict_itemiterator","dict_reverseitemiterator","odict_iterator","itertools.zip_longest","itertools.pairwise"].contains n=false) (hQ:Q () s):wpAny M A (qo tg (.ref it) u) Q E s:=by
  unfold qo;cases tg <;> first
    | exact bz hQ
    | (cases u <;> first
        | exact bz hQ
        | (refine aJ (wpAny_load ho ?_)
           rw [hc,hd];show wpAny M A (if (["enumerate","zip","dict_itemiterator","dict_reverseitemiterator","odict_iterator","itertools.zip_longest","itertools.pairwise"].contains n&&vs[0]? == some (rawInt _))=true then _ else _) Q E s;rw [if_neg (by intro h; rw [hn,xV] at h; cases h)];exact bz hQ))
noncomputable def Oz(K:ah)(a:Addr):It :=
 ⟨fun i H=>∃ xs x,p3 K H a xs/\xs[i]?=some x,fun i H x H'=>H'=H/\∀ xs,p3 K H a xs->xs[i]?=some x,fun i H=>∃ xs,p3 K H a xs/\xs.length<=i⟩
noncomputable def Oy(K:ah)(a:Addr):It :=
 ⟨fun i H=>∃ xs x,r8 K H a xs/\xs[i]?=some x,fun i H x H'=>H'=H/\∀ xs,r8 K H a xs->xs[i]?=some x,fun i H=>∃ xs,r8 K H a xs/\xs.length<=i⟩
noncomputable def KJ(lo:Int)(n:Nat):It:=⟨fun i _=>i < n,fun i H x H'=>H'=H/\x=.int (lo+i),fun i _=>n<=i⟩
theorem yL{P:bx}{w:World}{K:ah}{tg:Expr}(a it:Addr):Turn P w K tg (Oz K a) [it] it (fun i h=>h.IsListIter it a i) where
 mem:=by simp
 obj:=fun i h st b hb=>by
  have e:b=it:=by simpa using hb
  subst e;obtain⟨o,e,c,d⟩:=st;exact⟨o,e,fun v z=>by rw [d] at z; cases z⟩
 keep:=fun i h h' st k=>st.at fun o e=>k it (by simp) o e
 item:=by
  intro X hP hw hK hc i pins s σ H E I hf st hg;subst hP hw hK;obtain⟨xs,x,hq,hx⟩:=hg;obtain⟨cH,rv,p,hz⟩:=I.list hq;obtain⟨u,hu,ru⟩:=rv.get hx;obtain⟨f0,f1,f2,f3,f4,f5⟩:=hf it (by simp);refine wpAny_pyNext_list_item st p.isList (x:=u) (by simpa using hu) fun h' Ac sb=>?_;have I1:Inv X pins σ H { s with heap:=h' }:=I.turned (t':=s.toks) (fun b o hb e=>(sb.2 b hb).trans e) f0 f1 f3 f4 f5;obtain⟨o,e,c,d⟩:=id Ac;exact⟨u,rfl,Bl (s:={ s with heap:=h' }) e c d (by decide) ⟨x,H,I1,ru,⟨rfl,fun ys hy=>by rw [I.AX hy hq]; exact hx⟩,Ac,fun b hb=>(hf b hb).1⟩⟩
 done:=by
  intro X hP hw hK hc i pins s σ H E I hf st hg;subst hP hw hK;obtain⟨xs,hq,hx⟩:=hg;obtain⟨cH,rv,p,hz⟩:=I.list hq;obtain⟨f0,f1,f2,f3,f4,f5⟩:=hf it (by simp);have hl:=rv.length;exact wpAny_pyNext_list_end (I.ok.hd hc) st p.isList (by simp; lia) fun h' eb=>⟨rfl,I.turned (t':=s.toks) (fun b o hb e=>eb b o hb e) f0 f1 f3 f4 f5⟩
 self:=fun _ _ _ _ _ st h=>wpAny_pyIter_listiter st h
theorem wN{P:bx}{w:World}{K:ah}{tg:Expr}(a it:Addr):Turn P w K tg (Oy K a) [it] it (fun i h=>h.IsTupleIter it a i) where
 mem:=by simp
 obj:=fun i h st b hb=>by
  have e:b=it:=by simpa using hb
  subst e;obtain⟨o,e,c,d⟩:=st;exact⟨o,e,fun v z=>by rw [d] at z; cases z⟩
 keep:=fun i h h' st k=>st.at fun o e=>k it (by simp) o e
 item:=by
  intro X hP hw hK hc i pins s σ H E I hf st hg;subst hP hw hK;obtain⟨xs,x,hq,hx⟩:=hg;obtain⟨cH,rv,p,hz⟩:=I.tuple hq;obtain⟨u,hu,ru⟩:=rv.get hx;obtain⟨f0,f1,f2,f3,f4,f5⟩:=hf it (by simp);refine wpAny_pyNext_tuple_item st (show s.heap.IsTuple a cH.toArray from p) (x:=u) (by simpa using hu) fun h' Ac sb=>?_;have I1:Inv X pins σ H { s with heap:=h' }:=I.turned (t':=s.toks) (fun b o hb e=>(sb.2 b hb).trans e) f0 f1 f3 f4 f5;obtain⟨o,e,c,d⟩:=id Ac;exact⟨u,rfl,Bl (s:={ s with heap:=h' }) e c d (by decide) ⟨x,H,I1,ru,⟨rfl,fun ys hy=>by rw [I.yM hy hq]; exact hx⟩,Ac,fun b hb=>(hf b hb).1⟩⟩
 done:=by
  intro X hP hw hK hc i pins s σ H E I hf st hg;subst hP hw hK;obtain⟨xs,hq,hx⟩:=hg;obtain⟨cH,rv,p,hz⟩:=I.tuple hq;obtain⟨f0,f1,f2,f3,f4,f5⟩:=hf it (by simp);have hl:=rv.length;exact wpAny_pyNext_tuple_end (I.ok.hd hc) st (show s.heap.IsTuple a cH.toArray from p) (by simp; lia) fun h' eb=>⟨rfl,I.turned (t':=s.toks) (fun b o hb e=>eb b o hb e) f0 f1 f3 f4 f5⟩
 self:=fun _ _ _ _ _ st h=>wpAny_pyIter_tupleiter st h
theorem wO{P:bx}{w:World}{K:ah}{tg:Expr}(it:Addr)(lo:Int)(n:Nat):Turn P w K tg (KJ lo n) [it] it (fun i h=>IsRangeIter h it (lo+(i:Nat) * 1) ((n:Int) - (i:Nat)) 1) where
 mem:=by simp
 obj:=fun i h st b hb=>by
  have e:b=it:=by simpa using hb
  subst e;exact⟨_,st,fun v z=>by
   have z':Data.fields _=Data.cell v:=z;cases z'⟩
 keep:=fun i h h' st k=>k it (by simp) _ st
 item:=by
  intro X hP hw hK hc i pins s σ H E I hf st hg;subst hP hw hK;obtain⟨f0,f1,f2,f3,f4,f5⟩:=hf it (by simp);have W:=Walks.range (prog:=X.prog) (w:=X.w) (I.ok.hd hc) it lo 1 n;refine W.item i s _ _ hg st fun v h' tk hv Ac kk=>?_;obtain⟨t,rfl⟩:=hv;have I1:Inv X pins σ H { s with heap:=h',toks:=tk }:=I.turned (fun b o hb e=>kk b o (by simpa using hb) e) f0 f1 f3 f4 f5;refine⟨_,rfl,Bl (s:={ s with heap:=h',toks:=tk }) (n:="range_iterator") Ac rfl rfl (by decide) ⟨.int (lo+i),H,I1,⟨t,?_⟩,⟨rfl,rfl⟩,Ac,fun b hb=>(hf b hb).1⟩⟩;rw [Int.mul_one]
 done:=by
  intro X hP hw hK hc i pins s σ H E I hf st hg;subst hP hw hK;obtain⟨f0,f1,f2,f3,f4,f5⟩:=hf it (by simp);exact wpAny_pyNext_range_end (I.ok.hd hc) st (by have:n<=i:=hg; lia) fun h' eb=>⟨rfl,I.turned (t':=s.toks) (fun b o hb e=>eb b o hb e) f0 f1 f3 f4 f5⟩
 self:=fun _ _ _ _ _ st h=>wpAny_pyIter_rangeiter st h
section
variable {X:Cx} {tg:Expr}
theorem Ay{pins:List (Addr×Obj)}{σ:St}{H:Hp}{s:aw}{R:It->Hp->Prop}{E:Value->aw->Prop}{lo hi:Int}{t u v:Tok}{tk:Nat}(I:Inv X pins σ H s)(h1:-(2 ^ 62)<=lo)(h2:lo < 2 ^ 62)(h3:-(2 ^ 62)<=hi)(h4:hi < 2 ^ 62)
  (q:R (KJ lo (hi - lo).toNat) H):wpAny (model X.prog X.w) X.A (pyIter (.ref s.heap.objs.size)) (Ou X pins σ tg R) E { s with heap:=s.heap.push { cls:=.type "range",data:=.fields #[.int lo t,.int hi u,.int 1 v] },toks:=tk }:=by
 refine wpAny_pyIter_range (IsRange.new ..) (small_one h1 h2 h3 h4) ?_;have I1:Inv X pins σ H { s with heap:=s.heap.push { cls:=.type "range",data:=.fields #[.int lo t,.int hi u,.int 1 v] },toks:=tk }:=I.kept fun b o e=>aP _ e
 refine⟨(s.heap.push { cls:=.type "range",data:=.fields #[.int lo t,.int hi u,.int 1 v] }).objs.size,[(s.heap.push { cls:=.type "range",data:=.fields #[.int lo t,.int hi u,.int 1 v] }).objs.size],_,_,H,rfl,
  I1.kept (t':=tk) fun b o e=>aP _ e,wO _ lo (hi - lo).toNat,?_,fun b hb=>?_,q⟩
 ·have e1:lo+((0:Nat):Int) * 1=lo:=by simp
  have e2:(((hi - lo).toNat:Nat):Int) - ((0:Nat):Int)=Builtin.Range.rangeSize lo hi 1:=by rw [rangeSize_one]; split <;> lia
  show IsRangeIter _ _ (lo+((0:Nat):Int) * 1) ((((hi - lo).toNat:Nat):Int) - ((0:Nat):Int)) 1;rw [e1,e2];exact cT _ rfl
 ·have e:b=(s.heap.push { cls:=.type "range",data:=.fields #[.int lo t,.int hi u,.int 1 v] }).objs.size:=by simpa using hb
  subst e;exact I1.Dq (a6 _) (I1.dn.fresh (a6 _))
noncomputable def lB(fp:List Addr)(h:Heap):List (Addr×Obj):=fp.filterMap fun b=>(h.get? b).map fun o=>(b,o)
theorem ko{fp:List Addr}{h:Heap}{b:Addr}{o:Obj}(hb:b∈fp)(e:h.get? b=some o):(b,o)∈lB fp h:=List.mem_filterMap.mpr ⟨b,hb,by rw [e]; rfl⟩
theorem yV{fp:List Addr}{h:Heap}{p:Addr×Obj}(hp:p∈lB fp h):p.1∈fp/\h.get? p.1=some p.2:=by
 obtain⟨b,hb,e⟩:=List.mem_filterMap.mp hp;cases q:h.get? b with
 | none=>rw [q] at e; cases e
 | some o =>
  rw [q] at e;have e':(b,o)=p:=a8 e;subst e';exact⟨hb,q⟩
theorem Inv.pinned{pins:List (Addr×Obj)}{σ:St}{H:Hp}{s:aw}{fp:List Addr}(I:Inv X pins σ H s)(hf:∀ b∈fp,p8 X pins H b)(ho:∀ b∈fp,∃ o,s.heap.get? b=some o/\∀ v,o.data≠.cell v):Inv X (pins++lB fp s.heap) σ H s :=
 I.x8 fun p hp=>(List.mem_append.mp hp).elim (fun z=>I.pin p (cj _ z)) fun z=>by
  obtain⟨hb,e⟩:=yV z;obtain⟨f0,f1,f2,_⟩:=hf p.1 hb;obtain⟨o,e',d⟩:=ho p.1 hb;rw [e] at e'; cases e';exact⟨e,f0,f1,f2,d⟩
theorem Inv.nq{pins pl:List (Addr×Obj)}{σ:St}{H:Hp}{s:aw}(I:Inv X (pins++pl) σ H s):Inv X pins σ H s:=I.x8 fun p hp=>I.pin p (cj _ (Ci _ hp))
end
noncomputable abbrev R2:=V->V->Hp->VK->Prop
noncomputable def zu(X:Cx)(f:Value->Value->Sem Value)(r:R2):Prop :=
 ∀ (pins:List (Addr×Obj)) (s:aw) (σ:St) (H:Hp) (x y:V) (v u:Value) (Q:VK),Inv X pins σ H s->RelV x v->RelV y u->r x y H Q ->
  wpAny (model X.prog X.w) X.A (f v u) (EP X pins σ Q) X.xe s
noncomputable def D3(X:Cx)(f:Value)(r:List V->Hp->VK->Prop):Prop :=
 ∀ (pins:List (Addr×Obj)) (s:aw) (σ:St) (H:Hp) (xs:List V) (us:List Value) (Q:VK),Inv X pins σ H s->Vals xs us->r xs H Q ->
  wpAny (model X.prog X.w) X.A (call f us) (EP X pins σ Q) X.xe s
noncomputable def Kz(X:Cx)(r:V->Hp->(Bool->Hp->Prop)->Prop):Prop :=
 ∀ (pins:List (Addr×Obj)) (s:aw) (σ:St) (H:Hp) (x:V) (v:Value) (Q:Bool->Hp->Prop),Inv X pins σ H s->RelV x v->r x H Q ->
  wpAny (model X.prog X.w) X.A (truthy v) (TP X pins σ Q) X.xe s
noncomputable def rI(C:Int->Int->Prop)(g:Int->Int->V):R2:=fun x y H Q=>∃ i j,x=.int i/\y=.int j/\C i j/\Q (g i j) H
noncomputable def Gq(g:Int->Int->V):R2:=fun x y H Q=>∃ i j,x=.int i/\y=.int j/\Q (g i j) H
section
variable {X:Cx} {a b c:Expr} {ta tb tc:TE} {pos:Pos}
theorem HK{f:Value->Value->Sem Value}{C:Int->Int->Prop}{g:Int->Int->Int}
  (rule:∀ (i j:Int) (t u:Tok) (s:aw) (Q:Value->aw->Prop) (E:Value->aw->Prop),C i j->Q (.int (g i j) s.toks) { s with toks:=s.toks+1 }->wpAny (model X.prog X.w) X.A (f (.int i t) (.int j u)) Q E s) :
  zu X f (rI C fun i j=>.int (g i j)):=by
 intro pins s σ H x y v u Q I rx ry h;obtain⟨i,j,rfl,rfl,hc,q⟩:=h;obtain⟨t,rfl⟩:=rx;obtain⟨t',rfl⟩:=ry;exact rule i j t t' s _ _ hc ⟨.int (g i j),H,I.tok _,⟨_,rfl⟩,q⟩
theorem Gw{f:Value->Value->Sem Value}{g:Int->Int->Int}
  (rule:∀ (i j:Int) (t u:Tok) (s:aw) (Q:Value->aw->Prop) (E:Value->aw->Prop),Q (.int (g i j) s.toks) { s with toks:=s.toks+1 }->wpAny (model X.prog X.w) X.A (f (.int i t) (.int j u)) Q E s) :
  zu X f (Gq fun i j=>.int (g i j)):=by
 intro pins s σ H x y v u Q I rx ry h;obtain⟨i,j,rfl,rfl,q⟩:=h;obtain⟨t,rfl⟩:=rx;obtain⟨t',rfl⟩:=ry;exact rule i j t t' s _ _ ⟨.int (g i j),H,I.tok _,⟨_,rfl⟩,q⟩
theorem IS{f:Value->Value->Sem Value}{g:Int->Int->Bool}
  (rule:∀ (i j:Int) (t u:Tok) (s:aw) (Q:Value->aw->Prop) (E:Value->aw->Prop),Q (.bool (g i j)) s->wpAny (model X.prog X.w) X.A (f (.int i t) (.int j u)) Q E s) :
  zu X f (Gq fun i j=>.bl (g i j)):=by
 intro pins s σ H x y v u Q I rx ry h;obtain⟨i,j,rfl,rfl,q⟩:=h;obtain⟨t,rfl⟩:=rx;obtain⟨t',rfl⟩:=ry;exact rule i j t t' s _ _ ⟨.bl (g i j),H,I,rfl,q⟩
noncomputable def K0(i j:Int):Prop:=0 < j/\j < 1073741824
noncomputable def KZ(i j:Int):Prop:=0<=j/\j<=1000000/\i.natAbs < 2 ^ 64
noncomputable def Fw(i j:Int):Prop:=(-(2 ^ 64) < i/\i < 2 ^ 64)\/(-(2 ^ 64) < j/\j < 2 ^ 64)
theorem Fw.ok{i j:Int}(h:Fw i j):IntMulOk i j:=by
 rcases h with ⟨h1,h2⟩ | ⟨h1,h2⟩
 ·exact .of_left (intBits_le_64 h1 h2)
 ·exact .of_right (intBits_le_64 h1 h2)
theorem EF:zu X (fW .Add) (Gq fun i j=>.int (i+j)):=Gw fun _ _ _ _ _ _ _ q=>add_int q
theorem EA:zu X (fW .Sub) (Gq fun i j=>.int (i - j)):=Gw fun _ _ _ _ _ _ _ q=>sub_int q
theorem EC:zu X (fW .Mult) (rI Fw fun i j=>.int (i * j)):=HK fun _ _ _ _ _ _ _ hc q=>mul_int q hc.ok
theorem C3:zu X (fW .FloorDiv) (rI K0 fun i j=>.int (i / j)):=HK fun i j _ _ _ _ _ hc q=>by
 have h1:(0:Int) < j:=hc.1;have h2:j < 1073741824:=hc.2;exact floordiv_int (by lia) (by rw [Int.fdiv_eq_ediv_of_nonneg i (by lia)]; exact q) (.inl (PyProof.noPylong_small (by lia)))
theorem ED:zu X (fW .Mod) (rI (fun _ j=>0 < j) fun i j=>.int (i % j)):=HK fun i j _ _ _ _ _ hc q=>by
 have h1:(0:Int) < j:=hc;exact mod_int' (by lia) (by rw [Int.fmod_eq_emod_of_nonneg i (by lia)]; exact q)
theorem EB:zu X (fW .Pow) (rI KZ fun i j=>.int (i ^ j.toNat)):=HK fun _ _ _ _ _ _ _ hc q=>pow_int_small hc.1 hc.2.1 hc.2.2 q
end
section
variable {X:Cx} {a b c:Expr} {ta tb tc:TE} {pos:Pos}
theorem Gv:zu X (gE .Lt) (Gq fun i j=>.bl (decide (i < j))):=IS fun _ _ _ _ _ _ _ q=>lt_int q
theorem cD(b:Expr){op:CmpOp}(h:autoParam (op≠.In) Ad._auto_1)(h2:autoParam (op≠.NotIn) Ad._auto_1):behindInMarks op b=false:=by
 have e1:(op == CmpOp.In)=false:=by cases op <;> first | rfl | exact absurd rfl h
 have e2:(op == CmpOp.NotIn)=false:=by cases op <;> first | rfl | exact absurd rfl h2
 cases b with
 | Set es k _ =>
  show (k == 0&&(op == .In||op == .NotIn)&&es.all (constantsAlone 8))=false;rw [e1,e2,Bool.or_false,Bool.and_false,xV]
 | _=>rfl
noncomputable def Fq(K:ah)(x:V)(H:Hp)(k:Bool):Prop :=
 match x with
 | .gR=>k=false
 | .bl b=>k=b
 | .int i=>k=(i != 0)
 | .str y=>y.length<=a4/\k=((y.length:Int) != 0)
 | .DX y=>y.size<=a4/\k=((y.size:Int) != 0)
 | .ref p=>(∃ xs,p3 K H p xs/\k=!xs.isEmpty)\/(∃ xs,r8 K H p xs/\k=!xs.isEmpty)\/∃ aS,H p=some (.dK aS)/\k=!aS.isEmpty
 | _=>False
theorem xo{κ:Type}{aS:List (κ×V)}{vs:List (κ×Value)}(r:KV aS vs):(!vs.isEmpty)=!aS.isEmpty:=by
 cases r <;> rfl
theorem qS{xs:List V}{cH:List Value}(r:Vals xs cH):(!cH.toArray.isEmpty)=!xs.isEmpty:=by
 cases r <;> simp
theorem qL:(a4:Nat) < 2 ^ 63:=by rw [cM]; decide
theorem Ef:Kz X (fun x H Q=>∃ k,Fq X.K x H k/\Q k H):=by
 intro pins s σ H x v Q I rx h;obtain⟨k,e,q⟩:=h;have hl:=qL;have hs:a4=16777216:=cM;cases x with
 | gR =>
  cases rx;have e':k=false:=e;subst e';exact truthy_none ⟨H,I,q⟩
 | bl b =>
  cases rx;have e':k=b:=e;subst e';exact wpAny_truthy_bool ⟨H,I,q⟩
 | int i =>
  obtain⟨t,rfl⟩:=rx;have e':k=(i != 0):=e;subst e';exact PySem.P.truthy_int ⟨H,I,q⟩
 | str y =>
  obtain⟨t,rfl⟩:=rx;obtain⟨hy,e'⟩:y.length<=a4/\k=((y.length:Int) != 0):=e;subst e';exact PySem.P.truthy_str (by lia) ⟨H,I.tok _,q⟩
 | DX y =>
  obtain⟨t,rfl⟩:=rx;obtain⟨hy,e'⟩:y.size<=a4/\k=((y.size:Int) != 0):=e;subst e';exact PySem.W.truthy_bytes (by lia) ⟨H,I.tok _,q⟩
 | ref p =>
  cases rx;have e':(∃ xs,p3 X.K H p xs/\k=!xs.isEmpty)\/(∃ xs,r8 X.K H p xs/\k=!xs.isEmpty)\/∃ aS,H p=some (.dK aS)/\k=!aS.isEmpty:=e;rcases e' with ⟨xs,hx,e'⟩ | ⟨xs,hx,e'⟩ | ⟨aS,hx,e'⟩
  ·subst e';obtain⟨cH,r,pl,hz⟩:=I.list hx;have hlen:=r.length;exact wpAny_truthy_list pl.isList (by simp only [aZ]; lia) ⟨H,I.tok _,by rw [qS r]; exact q⟩
  ·subst e';obtain⟨cH,r,pl,hz⟩:=I.tuple hx;have hlen:=r.length;exact truthy_tuple pl (by simp only [aZ]; lia) ⟨H,I.tok _,by rw [qS r]; exact q⟩
  ·subst e';obtain⟨hz,hS,vs,r,m⟩:aS.length<=a4/\(p == fG)=false/\∃ vs,KV aS vs/\s.heap.DictOf (dm X.prog X.w) p vs:=I.dn p _ hx;have hlen:aS.length=vs.length:=lV r;exact wD hS m (by lia) ⟨H,I.tok _,by rw [xo r]; exact q⟩
 | _=>exact(show False from e).elim
theorem w5:zu X (fW .Add) (fun x y H Q=>∃ i j,x=.str i/\y=.str j/\i.length+j.length<=a4/\Q (.str (i++j)) H):=by
 intro pins s σ H x y v u Q I rx ry h;obtain⟨i,j,rfl,rfl,hz,q⟩:=h;obtain⟨t,rfl⟩:=rx;obtain⟨t',rfl⟩:=ry;exact add_str (fun t' tk=>⟨.str (i++j),H,I.tok _,⟨_,rfl⟩,q⟩) hz
theorem vals1{x:V}{us:List Value}(r:Vals [x] us):∃ u,us=[u]/\RelV x u:=by
 cases r with
 | cons r1 r2=>cases r2; exact⟨_,rfl,r1⟩
theorem vals2{x y:V}{us:List Value}(r:Vals [x,y] us):∃ u w',us=[u,w']/\RelV x u/\RelV y w':=by
 cases r with
 | cons r1 r2 =>
  cases r2 with
  | cons r3 r4=>cases r4; exact⟨_,_,rfl,r1,r3⟩
noncomputable def HB(K:ah)(x:V)(H:Hp)(n:Nat):Prop :=
 match x with
 | .str y=>y.length<=a4/\n=y.length
 | .DX y=>y.size<=a4/\n=y.size
 | .ref p=>(∃ xs,p3 K H p xs/\n=xs.length)\/∃ xs,r8 K H p xs/\n=xs.length
 | _=>False
theorem BJ:D3 X (.builtin "len") (fun xs H Q=>∃ x n,xs=[x]/\HB X.K x H n/\Q (.int n) H):=by
 intro pins s σ H xs us Q I r h;obtain⟨x,n,rfl,e,q⟩:=h;obtain⟨u,rfl,rx⟩:=vals1 r;have hl:=qL;have hs:a4=16777216:=cM;cases x with
 | str y =>
  obtain⟨t,rfl⟩:=rx;obtain⟨hy,e'⟩:y.length<=a4/\n=y.length:=e;subst e';exact len_str (by lia) ⟨.int _,H,I.tok _,⟨_,rfl⟩,q⟩
 | DX y =>
  obtain⟨t,rfl⟩:=rx;obtain⟨hy,e'⟩:y.size<=a4/\n=y.size:=e;subst e';exact PySem.W.len_bytes (by lia) ⟨.int _,H,I.tok _,⟨_,rfl⟩,q⟩
 | ref p =>
  cases rx;have e':(∃ xs,p3 X.K H p xs/\n=xs.length)\/∃ xs,r8 X.K H p xs/\n=xs.length:=e;rcases e' with ⟨xs,hx,e'⟩ | ⟨xs,hx,e'⟩
  ·subst e';obtain⟨cH,r',pl,hz⟩:=I.list hx;have hlen:=r'.length;exact Calls.call_len_list pl.isList (by simp only [aZ]; lia) ⟨.int xs.length,H,I.tok _,⟨_,by simp only [aZ]; rw [hlen]⟩,q⟩
  ·subst e';obtain⟨cH,r',pl,hz⟩:=I.tuple hx;have hlen:=r'.length;exact len_tuple pl (by simp only [aZ]; lia) ⟨.int xs.length,H,I.tok _,⟨_,by simp only [aZ]; rw [hlen]⟩,q⟩
 | _=>exact(show False from e).elim
end
structure xH(h:Heap)(x dx C:Addr)(mA:Str->Option Value):Prop where
 obj:h.get? x=some (fb C dx)
 ns:h.Ns1 dx mA
 ne:dx≠x
theorem tD{h:Heap}{dx:Addr}{mA:Str->Option Value}(n:h.Ns1 dx mA):∃ od,h.get? dx=some od/\∀ name,oi name od=some (mA name):=by
 obtain⟨o,es,ep,ho,hd,hk,_,hm⟩:=n;refine⟨o,ho,fun name=>?_⟩;have e:=hm name;unfold nsFind findBy at e;rw [<-Array.find?_toList] at e;unfold oi;rw [hd];dsimp only;split
 ·rename_i y q;rw [q] at e;exact congrArg some e
 ·rename_i q;rw [q] at e;have a:es.toList.any (·.refKey)=false:=by
   rw [List.any_eq_false];intro y hy;obtain⟨z,t,J1⟩:=hk y (Array.mem_toList_iff.mp hy);simp [DictEntry.refKey,J1]
  have a':¬ es.toList.any (·.refKey)=true:=by rw [a]; exact rX
  rw [if_neg a'];exact congrArg some e
theorem xH.look{h:Heap}{x dx C:Addr}{mA:Str->Option Value}(I:xH h x dx C mA):∃ od,PySem.W.InstAt h x (fb C dx) C (some od)/\∀ name,oi name od=some (mA name) :=
 let ⟨od,ho,hl⟩:=tD I.ns
 ⟨od,⟨I.obj,rfl,rfl,ho⟩,hl⟩
section
variable {prog:bx} {w:World} {A:dO} {E:Value->aw->Prop} {s:aw} {K:ah} {x dx C f:Addr} {mA:Str->Option Value} {name:Str} {v:Value}
theorem get_map{expr:Bool}{Q:Value->aw->Prop}(X:K.In s.heap)(I:xH s.heap x dx C mA)(hg:lU K C name=true)(hh:qt K C=true)
  (ha:aK K (.ref C) name=some none) (hv:mA name=some v) (MD:PySem.W.handedIn v=true) (h:Q v { s with toks:=s.toks+1 }) :
  wpAny (model prog w) A (getAttr (.ref x) name expr) Q E s:=by
 obtain⟨od,J,hl⟩:=I.look;exact PySem.W.get_value X J (oz hg).1 (PySem.W.findObj_own hh ha rfl (by rw [hl,hv])) MD h
theorem Bn{pl:Sem Bool}{Q:Value×List Value->aw->Prop}(X:K.In s.heap)(I:xH s.heap x dx C mA)(hg:lU K C name=true)
  (hf:aK K (.ref C) name=some (some (.ref f))) (ht:yF K (.ref f)=true) (hv:mA name=none) (h:Q (.ref f,[.ref x]) s) :
  wpAny (model prog w) A (getMethod (.ref x) name pl) Q E s:=by
 obtain⟨od,J,hl⟩:=I.look;exact PySem.W.method_fn X J (oz hg).1 (oz hg).2 hf (beq_iff_eq.mp ht) (by show (oi name od).map (·.isSome)=some false; rw [hl,hv]; rfl) h
theorem CC{ns:List Str}{Q:Unit->aw->Prop}(X:K.In s.heap)(I:xH s.heap x dx C mA)
  (hs:aK K (.ref C) "__setattr__" = some (some (.builtin "object.__setattr__"))) (hp:Ce K C=true) (ht:t6 K C name=some none) (hh:qt K C=true)
  (hw:zP mA ns) (hsz:ns.length<=a4)
  (h:∀ h',xH h' x dx C (fun y=>if y=name then some v else mA y)->oo dx s.heap h'->Q () { s with heap:=h',toks:=s.toks+2 }) :
  wpAny (model prog w) A (setAttr (.ref x) name v) Q E s:=by
 obtain⟨od,J,hl⟩:=I.look;refine PySem.W.set_plain X J hs (PySem.W.osa_open (s:={ s with toks:=s.toks+1 }) (r:=none) X J hp ht fun b=>?_);obtain⟨cd,hc,vH⟩:=PySem.W.any_some hh;have hx:s.heap.get? x=some ⟨.ref C,some dx,.plain,#[]⟩:=I.obj;refine aJ (bz (aJ (aJ (wpAny_loadPart hx (aJ (PySem.W.Looks.here (s:={ s with toks:=s.toks+1 }) (PySem.W.looks_clsIn X hc) ?_))))));rw [vH];refine bz (a:=some dx) (aJ (bz (aJ ?_)));refine wpAny_nsSet1 (s:={ s with toks:=s.toks+1 }) I.ns fun h' HW HU=>?_;obtain⟨oD,OR,OS,MO,M3,M4⟩:=HW.count (PySem.Within.cons name v hw);refine aJ (wpAny_lookBehind MO (by rw [M3]; exact pastItsLine_dict (da M4 (by rw [aj]; lia))) ?_);exact bz (h _ ⟨(HU.2 _ (pe I.ne)).trans I.obj,HW,I.ne⟩ HU)
theorem AS{R:Result->aw->Prop}{vs:List Value}{kw:List (Str×Value)}(X:K.In s.heap)(hm:fY K C=true)
  (hi:aK K (.ref C) "__init__" = some (some (.ref f))) (hf:PySem.W.typeIn K (.ref f)=some (.type "function"))
  (h:qp (model prog w) (A.under (.builtin "type.__call__" ⟨.ref C :: vs,kw⟩)) (.call (.ref f) ⟨.ref (s.heap.objs.size+1) :: vs,kw⟩) (PySem.W.InitBack (s.heap.objs.size+1) R)
   { s with heap:=(s.heap.push dc).push (fb C s.heap.objs.size) }) :
  qp (model prog w) A (.call (.ref C) ⟨vs,kw⟩) R s:=by
 obtain⟨hh,g,d,t,os⟩:=s;exact PySem.W.make_core (PySem.W.makes_of X hm) (PySem.W.looks_findIn X hi) (fun self=>PySem.W.bind_fn X self hf) (.inl rfl) h
end
noncomputable def jf(f:Str)(v:V):List (Str×V)->List (Str×V)
 | []=>[(f,v)]
 | (g,x) :: r=>if g=f then (g,v) :: r else (g,x) :: jf f v r
theorem pA(f g:Str)(v:V):∀ fs:List (Str×V),(jf f v fs).lookup g=if g=f then some v else fs.lookup g
 | []=>by
  show j7 g [(f,v)]=_;by_cases h:g=f
  ·have hb:(g == f)=true:=beq_iff_eq.mpr h;simp only [j7,hb,if_pos h]
  ·have hb:(g == f)=false:=beq_eq_false_iff_ne.mpr h;simp only [j7,hb,if_neg h]
 | (k,x) :: r=>by
  have ih:=pA f g v r;rw [show jf f v ((k,x) :: r)=(if k=f then (k,v) :: r else (k,x) :: jf f v r) from rfl];by_cases hk:k=f
  ·rw [if_pos hk];by_cases h:g=k
   ·have hb:(g == k)=true:=beq_iff_eq.mpr h;simp only [j7,hb,if_pos (h.trans hk)]
   ·have hb:(g == k)=false:=beq_eq_false_iff_ne.mpr h;simp only [j7,hb,if_neg (fun e:g=f=>h (e.trans hk.symm))]
  ·rw [if_neg hk];by_cases h:g=k
   ·have hb:(g == k)=true:=beq_iff_eq.mpr h;simp only [j7,hb,if_neg (fun e:g=f=>hk (h.symm.trans e))]
   ·have hb:(g == k)=false:=beq_eq_false_iff_ne.mpr h;simp only [j7,hb];exact ih
theorem oO(f:Str)(v:V):∀ fs:List (Str×V),f∈(jf f v fs).map (·.1)/\∀ g,g∈fs.map (·.1)->g∈(jf f v fs).map (·.1)
 | []=>⟨by simp [jf],fun g h=>by simp at h⟩
 | (k,x) :: r=>by
  obtain⟨i1,i2⟩:=oO f v r;rw [show jf f v ((k,x) :: r)=(if k=f then (k,v) :: r else (k,x) :: jf f v r) from rfl];by_cases hk:k=f
  ·rw [if_pos hk];subst hk;exact⟨by simp,fun g h=>by simpa using h⟩
  ·rw [if_neg hk];refine⟨?_,fun g h=>?_⟩
   ·rw [ax];exact bG _ i1
   ·rw [ax] at h ⊢;rcases List.mem_cons.mp h with e | e
    ·exact List.mem_cons.mpr (.inl e)
    ·exact bG _ (i2 g e)
theorem pC(f:Str)(v:V):∀ fs:List (Str×V),(jf f v fs).length<=fs.length+1
 | []=>by simp [jf]
 | (k,x) :: r=>by
  have ih:=pC f v r;rw [show jf f v ((k,x) :: r)=(if k=f then (k,v) :: r else (k,x) :: jf f v r) from rfl];by_cases hk:k=f
  ·rw [if_pos hk,aj,aj]; lia
  ·rw [if_neg hk,aj,aj]; lia
theorem kZ.some_of{v:V}{o:Option Value}(r:kZ (some v) o):∃ u,o=some u/\RelV v u:=by
 cases o with
 | none=>exact(show False from r).elim
 | some u=>exact⟨u,rfl,r⟩
theorem kZ.none_of{o:Option Value}(r:kZ none o):o=none:=by
 cases o with
 | none=>rfl
 | some u=>exact(show False from r).elim
theorem ze{v:V}{u:Value}(r:RelV v u):PySem.W.handedIn u=true:=by
 cases v with
 | gR=>cases (show u=Value.none from r); rfl
 | bl b=>cases (show u=xP b from r); rfl
 | int i=>obtain⟨t,e⟩:=(show ∃ t,u=c5 i t from r); cases e; rfl
 | str x=>obtain⟨t,e⟩:=(show ∃ t,u=zO x t from r); cases e; rfl
 | DX b=>obtain⟨t,e⟩:=(show ∃ t,u=Value.bytes b t from r); cases e; rfl
 | FK b=>obtain⟨t,e⟩:=(show ∃ t,u=Value.float b t from r); cases e; rfl
 | ref a=>cases (show u=ic a from r); rfl
 | ty n=>cases (show u=Value.type n from r); rfl
section
variable {P:bx} {w:World} {H H':Hp} {h h':Heap} {a C dx:Addr} {fs Ng:List (Str×V)}
theorem qi(dn:nh P w H h)(e:H a=some (.ins C dx fs)):∃ mA,xH h a dx C mA/\(∀ f,kZ (fs.lookup f) (mA f))/\zP mA (fs.map (·.1))/\fs.length<=1000/\H dx=some (.own a):=by
 obtain⟨d,z,ne,ob,mA,n,r,q⟩:=(show ft P w H h a (.ins C dx fs) from dn a _ e);exact⟨mA,⟨ob,n,ne⟩,r,q,z,d⟩
end
structure Cb(K:ah)(C:Addr):Prop where
 pg:lU K C Str.empty=true
 hd:qt K C=true
 po:Ce K C=true
 sa:aK K (.ref C) "__setattr__" = some (some (.builtin "object.__setattr__"))
theorem Cb.get{K:ah}{C:Addr}(c:Cb K C)(f:Str):lU K C f=true:=c.pg
noncomputable def o6(K:ah)(C:Addr)(f:Str):Prop:=aK K (.ref C) f=some none
theorem o6.Gd{K:ah}{C:Addr}{f:Str}(n:o6 K C f):t6 K C f=some none:=by
 unfold t6;rw [show aK K (.ref C) f=some none from n];rfl
structure OZ(K:ah)(C:Addr)(f:Str)(v:V)(u:Value):Prop where
 at_:aK K (.ref C) f=some (some u)
 rel:RelV v u
 get:dU K u "__get__" = some none
 cp:PySem.W.copiedNames.contains f=false
structure Meth(K:ah)(C:Addr)(m:Str)(f:Addr):Prop where
 at_:aK K (.ref C) m=some (some (.ref f))
 fn:yF K (.ref f)=true
 kp:dh K (.ref f)=true
section
variable {X:Cx} {pins:List (Addr×Obj)} {σ:St} {H:Hp} {s:aw} {a C dx:Addr} {fs:List (Str×V)} {f:Str} {v:V} {A:dO} {E:Value->aw->Prop}
theorem xr{b:Bool}{Q:Value->aw->Prop}(I:Inv X pins σ H s)(e:H a=some (.ins C dx fs))(c:Cb X.K C)(n:o6 X.K C f)(l:fs.lookup f=some v)
  (h:∀ u s',Inv X pins σ H s'->RelV v u->Q u s'):wpAny (model X.prog X.w) A (getAttr (.ref a) f b) Q E s:=by
 obtain⟨mA,O,r,_,_,_⟩:=qi I.dn e;obtain⟨u,hu,ru⟩:=kZ.some_of (v:=v) (o:=mA f) (by rw [<-l]; exact r f);exact get_map I.rZ O (c.get f) c.hd n hu (ze ru) (h u _ (I.tok _) ru)
theorem qW{m:Str}{g:Addr}{pl:Sem Bool}{Q:Value×List Value->aw->Prop}(I:Inv X pins σ H s)(e:H a=some (.ins C dx fs))(c:Cb X.K C)(k:Meth X.K C m g)(l:fs.lookup m=none)
  (h:Q (.ref g,[.ref a]) s):wpAny (model X.prog X.w) A (getMethod (.ref a) m pl) Q E s:=by
 obtain⟨mA,O,r,_,_,_⟩:=qi I.dn e;have hn:mA m=none:=kZ.none_of (by rw [<-l]; exact r m);exact Bn I.rZ O (c.get m) k.at_ k.fn hn h
theorem wR{y:V}{u:Value}{Q:Unit->aw->Prop}(I:Inv X pins σ H s)(e:H a=some (.ins C dx fs))(c:Cb X.K C)(n:o6 X.K C f)(hl:fs.length < 1000)(ry:RelV y u)
  (h:∀ s',Inv X pins σ (upd H a (.ins C dx (jf f y fs))) s'->Q () s'):wpAny (model X.prog X.w) A (setAttr (.ref a) f u) Q E s:=by
 obtain⟨mA,O,r,wi,_,ho⟩:=qi I.dn e;have hz:(fs.map (·.1)).length<=a4:=by rw [bQ,cM]; lia
 refine CC I.rZ O c.sa c.po n.Gd c.hd wi hz fun h' O' sb=>h _ ?_;have hd:∃ o,h'.get? dx=some o:=let ⟨o,_,_,e',_⟩:=O'.ns; ⟨o,e'⟩
 refine I.write (x:=a) (e:=dx) (by rw [e]; exact eR) (.inr ho) (fun b q hb z=>(sb.2 b hb).trans z) hd ?_;refine⟨by rw [bK O.ne]; exact ho,?_,O.ne,O'.obj,_,O'.ns,fun g=>?_,fun g hg=>?_⟩
 ·have:=pC f y fs; lia
 ·show kZ ((jf f y fs).lookup g) (if g=f then some u else mA g);rw [pA];by_cases q:g=f
  ·rw [if_pos q,if_pos q]; exact ry
  ·rw [if_neg q,if_neg q]; exact r g
 ·by_cases q:g=f
  ·rw [q]; exact(oO f y fs).1
  ·refine(oO f y fs).2 g (wi g fun z=>hg ?_);show (if g=f then some u else mA g)=none;rw [if_neg q]; exact z
theorem Inv.made(I:Inv X pins σ H s):Inv X pins σ (upd (upd H s.heap.objs.size (.own (s.heap.objs.size+1))) (s.heap.objs.size+1) (.ins C s.heap.objs.size []))
  { s with heap:=(s.heap.push dc).push (fb C s.heap.objs.size) }:=by
 have e1:(s.heap.push dc).get? s.heap.objs.size=some dc:=cT s.heap rfl;have e2:((s.heap.push dc).push (fb C s.heap.objs.size)).get? (s.heap.objs.size+1)=some (fb C s.heap.objs.size):=by
  have:=cT (s.heap.push dc) (o:=fb C s.heap.objs.size) rfl
  rwa [xU] at this
 have e3:(s.heap.push dc).Ns s.heap.objs.size (fun _=>none):=⟨dc,#[],_,e1,rfl,(fun e he=>absurd he (by simp)),fun _=>rfl⟩;have I1:=I.laid (a:=s.heap.objs.size) (o:=.own (s.heap.objs.size+1)) (h':=s.heap.push dc) (t':=s.toks) (fun b u q=>aP _ q) (a6 _) ⟨_,e1⟩;refine I1.laid (a:=s.heap.objs.size+1) (o:=.ins C s.heap.objs.size []) (t':=s.toks) (fun b u q=>aP _ q) (Nat.le_of_eq (xU _ _)) ?_;have ne:s.heap.objs.size≠s.heap.objs.size+1:=cx (Nat.lt_succ_self _);refine⟨by rw [bK ne,bR],c6 _,ne,e2,fun _=>none,(Heap.Ns1.of_empty e3).at fun o q=>aP _ q,fun _=>eR,fun y hy=>absurd rfl hy⟩
theorem DA{prog:bx}{w:World}{env:Env}{e:Expr}{f:Str}{pos:Pos}{s:aw}{Q:Value->aw->Prop}(hb:kW e f env (eval e env)=eval e env)
  (h:wpAny (model prog w) A (eval e env) (fun o dG=>wpAny (model prog w) A (getAttr o f true) Q E dG) E s):wpAny (model prog w) A (eval (.Attribute e f pos) env) Q E s :=
 Attribute_any_ h (by rw [arm_eval_Attribute,hb])
end
section
variable {X:Cx} {pins:List (Addr×Obj)} {σ:St} {H:Hp} {s:aw} {A:dO} {E:Value->aw->Prop} {Q:Value->aw->Prop} {c:Value} {b:Bool}
inductive rH (K:ah) (H:Hp):V->Value->Prop where
 | gR:rH K H .gR (.type "NoneType")
 | bl (x:Bool):rH K H (.bl x) (.type "bool")
 | int (i:Int):rH K H (.int i) (.type "int")
 | str (x:Str):rH K H (.str x) (.type "str")
 | FK (x:UInt64):rH K H (.FK x) (.type "float")
 | lst {a:Addr} {xs:List V} (e:H a=some (.lst xs)):rH K H (.ref a) (.type "list")
 | kQ {a:Addr} {o:Obj} {xs:List V} (e:H a=some (.kQ o (.lst xs))):rH K H (.ref a) (.type "list")
 | tup {a:Addr} {xs:List V} (e:H a=some (.tup xs)):rH K H (.ref a) (.type "tuple")
 | dK {a:Addr} {aS:List (Key×V)} (e:H a=some (.dK aS)):rH K H (.ref a) (.type "dict")
 | dT {a:Addr} {aS:List (List Key×V)} (e:H a=some (.dT aS)):rH K H (.ref a) (.type "dict")
 | ins {a C dx:Addr} {fs:List (Str×V)} (e:H a=some (.ins C dx fs)) (cl:Cb K C) (ha:aK K (.ref C) "__class__" = some (some (.builtin "object.__class__")))
   (hn:dU K (.builtin "object.__class__") "__get__" = some (some (.builtin "getset_descriptor.__get__"))) (OK:fX K (.builtin "object.__class__")=some true)
   (hm:gU K C (.type "object")=some true):rH K H (.ref a) (.ref C)
end
structure gB(k:Nat)(A:dO):Prop where
 hd:A.handled=none
 dp:A.depth+3 * k+5 < recursionLimit
 un:A.units+16 * k+200 < cLine
theorem gB.mono{j k:Nat}{A:dO}(r:gB k A)(h:j<=k):gB j A:=⟨r.hd,by have:=r.dp; lia,by have:=r.un; lia⟩
theorem gB.deeper{k:Nat}{A:dO}(r:gB (k+1) A)(env:Env):gB k (A.deeper env) :=
 ⟨r.hd,by have:=r.dp; show A.depth+1+3 * k+5 < _; lia,by have:=r.un; show A.units+3+16 * k+200 < _; lia⟩
theorem xg {A:dO} {C:Addr} {us:List Value} {kw:List (Str×Value)}:(A.under (.builtin "type.__call__" ⟨.ref C :: us,kw⟩)).depth=A.depth+1:=by
 first | rfl | simp [zC,Code.weight,Code.isCreation,Code.isGuard,Code.isCaller,Code.frames,B0,guardIds]
theorem xf {A:dO} {C:Addr} {us:List Value} {kw:List (Str×Value)}:(A.under (.builtin "type.__call__" ⟨.ref C :: us,kw⟩)).units=A.units+1:=by
 first | rfl | simp [zC,Code.cUnits,Code.frames,B0]
theorem gB.make {k:Nat} {A:dO} (r:gB (k+1) A) (C:Addr) (us:List Value) (kw:List (Str×Value)):gB k (A.under (.builtin "type.__call__" ⟨.ref C :: us,kw⟩)) :=
 ⟨r.hd,by have:=r.dp; rw [xg]; lia,by have:=r.un; rw [xf]; lia⟩
theorem gB.depth{k:Nat}{A:dO}(r:gB k A):A.depth < recursionLimit:=by have:=r.dp; lia
theorem gB.units{k:Nat}{A:dO}(r:gB k A):A.units+64 < cLine:=by have:=r.un; lia
theorem gB.Ec{k:Nat}{A:dO}(r:gB k A):A.units < cLine:=by have:=r.un; lia
noncomputable abbrev Sp:=List V->Hp->VK->XK->Prop
noncomputable abbrev yD:=List Env->Hp->aw->XK->Value->aw->Prop
structure xK(P:bx)(w:World)(K:ah)(mg:Str->Option Value)(base:Heap)(A:dO)(outer:List Env)(s:aw)(H:Hp):Prop where
 frames:A.frames=some outer
 mod:Mod K mg base
 bs:∀ b o,base.get? b=some o->s.heap.get? b=some o/\H b=none
 B7:base.objs.size<=s.heap.objs.size
 pS:s.heap.FunFrames base outer
 Fb:∀ b∈zH outer,H b=none
 dn:nh P w H s.heap
 bare:ub s.gens
noncomputable def CE(outer:List Env)(P:bx)(w:World)(H:Hp)(s:aw)(Q:VK)(u:Value)(s':aw):Prop :=
 ∃ v H',s'.os=s.os/\ub s'.gens/\Un (zH outer) [] H H' s.heap s'.heap/\nh P w H' s'.heap/\RelV v u/\Q v H'
noncomputable def CR(CX:yD)(outer:List Env)(P:bx)(w:World)(H:Hp)(s:aw)(Q:VK)(E:XK)(r:Result)(s':aw):Prop :=
 match r with
 | .ok (.ret u)=>CE outer P w H s Q u s'
 | .ok _=>False
 | .error e=>CX outer H s E e s'
structure dW(P:bx)(w:World)(K:ah)(mg:Str->Option Value)(base:Heap)(CX:yD)(k:Nat)(f:Addr)(fd:ay)(ps:List Str)(sp:Sp):Prop where
 len:∀ vs H Q E,sp vs H Q E->vs.length=ps.length
 run:∀ (A:dO) (outer:List Env) (s:aw) (H:Hp) (args:Args) (us:List Value) (vs:List V) (Q:VK) (E:XK),gB k A->xK P w K mg base A outer s H->zV s fd args (ps.zip us)->Vals vs us->sp vs H Q E ->
  qp (model P w) A (.call (.ref f) args) (CR CX outer P w H s Q E) s
theorem xK.make{P:bx}{w:World}{K:ah}{mg:Str->Option Value}{base:Heap}{A:dO}{outer:List Env}{s:aw}{H:Hp}(e:xK P w K mg base A outer s H)(C:Addr)(us:List Value)(kw:List (Str×Value)) :
  xK P w K mg base (A.under (.builtin "type.__call__" ⟨.ref C :: us,kw⟩)) outer s H:=⟨by first | exact e.frames | (simpa [zC,Code.envs,B0,pushEnvs] using e.frames),e.mod,e.bs,e.B7,e.pS,e.Fb,e.dn,e.bare⟩
section
variable {X:Cx} {pins:List (Addr×Obj)} {σ:St} {H:Hp} {s s':aw}
theorem Inv.Hr(I:Inv X pins σ H s):xK X.prog X.w X.K X.mg X.base X.A X.stack s H :=
 ⟨I.ok.frames,I.ok.mod,I.bs,da I.ok.B7 I.sz,I.stack,I.xX,I.dn,I.bare⟩
theorem Inv.after{Q:VK}{u:Value}(I:Inv X pins σ H s)(h:CE X.stack X.prog X.w H s Q u s'):EP X pins σ Q u s':=by
 obtain⟨v,H',os,bare,un,dn,r,q⟩:=h;obtain⟨hh,g,d,t,Mi⟩:=s';obtain rfl:Mi=s.os:=os;exact⟨v,H',I.call (h':=hh) (g':=g) (d':=d) (t':=t) (ch:=[]) un dn bare (fun b z=>absurd z (by simp)),r,q⟩
end
noncomputable def Binds(K:ah)(fd:ay)(ps:List Str)(ds:List Value):Prop :=
 ∀ (s:aw) (us:List Value),K.In s.heap->(us++ds).length=ps.length->zV s fd ⟨us,[]⟩ (ps.zip (us++ds))
theorem Binds.all{K:ah}{fd:ay}{ps:List Str}(h:∀ us:List Value,us.length=ps.length->bindArgs fd ⟨us,[]⟩=pure (ps.zip us)):Binds K fd ps []:=fun s us _ hl=>by
 rw [fw] at hl ⊢;exact .of_eq (h us hl)
noncomputable def Passes(CX:yD)(X:Cx)(E:XK):Prop:=∀ (pins:List (Addr×Obj)) (σ:St) (H:Hp) (s:aw) (e:Value) (s':aw),Inv X pins σ H s->CX X.stack H s E e s'->X.xe e s'
section
variable {X:Cx} {CX:yD} {k:Nat} {f C:Addr} {fd:ay} {ps:List Str} {sp:Sp} {Ff:List V} {ds:List Value} {E:XK} {x m:Str} {p pos apos:Pos} {e o:Expr} {es:List Expr} {ta:TE} {t:TA}
theorem wV{pins:List (Addr×Obj)}{σ:St}{H:Hp}{s:aw}{Q:VK}{us:List Value}{vs:List V}(F:dW X.prog X.w X.K X.mg X.base CX k f fd ps sp)(hr:gB k X.A)(hb:Binds X.K fd ps ds)(hd:Vals Ff ds)(hx:Passes CX X E)
  (I:Inv X pins σ H s) (r:Vals vs us) (h:sp (vs++Ff) H Q E):wpAny (model X.prog X.w) X.A (call (.ref f) us) (EP X pins σ Q) X.xe s:=by
 have r2:Vals (vs++Ff) (us++ds):=r.append hd;have hl:(us++ds).length=ps.length:=by rw [<-r2.length]; exact F.len _ _ _ _ h
 refine wpAny_call (xO (F.run X.A X.stack s H ⟨us,[]⟩ (us++ds) (vs++Ff) Q E hr I.Hr (hb s us I.rZ hl) r2 h) fun r s' hq=>?_);cases r with
 | error e=>exact hx pins σ H s e s' I hq
 | ok fl =>
  cases fl with
  | ret u=>exact I.after hq
  | next=>exact bg hq
  | brk=>exact bg hq
  | cont=>exact bg hq
structure Mk(K:ah)(C f:Addr):Prop where
 makes:fY K C=true
 init:aK K (.ref C) "__init__" = some (some (.ref f))
 fn:yF K (.ref f)=true
 kp:dh K (.ref C)=true
theorem As{pins:List (Addr×Obj)}{σ:St}{H:Hp}{s:aw}{Q:VK}{us:List Value}{vs:List V}(M:Mk X.K C f)(F:dW X.prog X.w X.K X.mg X.base CX k f fd ps sp)(hr:gB (k+1) X.A)(hb:Binds X.K fd ps ds)(hd:Vals Ff ds)
  (hx:Passes CX X E) (I:Inv X pins σ H s) (r:Vals vs us)
  (h:∀ x dx,H x=none->H dx=none->dx≠x->sp (.ref x :: (vs++Ff)) (upd (upd H dx (.own x)) x (.ins C dx [])) (fun v H2=>v=.gR/\Q (.ref x) H2) E) :
  wpAny (model X.prog X.w) X.A (call (.ref C) us) (EP X pins σ Q) X.xe s:=by
 have hq:=h (s.heap.objs.size+1) s.heap.objs.size (I.dn.fresh (Nat.le_succ _)) (I.dn.fresh (a6 _)) (cx (Nat.lt_succ_self _));have I2:=Inv.made (C:=C) I;have r2:Vals (V.ref (s.heap.objs.size+1) :: (vs++Ff)) (ic (s.heap.objs.size+1) :: (us++ds)):=.cons rfl (r.append hd);have hl:(ic (s.heap.objs.size+1) :: us++ds).length=ps.length:=by
  have e:=r2.length;rw [F.len _ _ _ _ hq] at e;exact e.symm
 refine wpAny_call (AS (f:=f) I.rZ M.makes M.init (beq_iff_eq.mp M.fn) (xO (F.run _ X.stack _ _ ⟨ic (s.heap.objs.size+1) :: us,[]⟩ (ic (s.heap.objs.size+1) :: (us++ds)) _ _ E (hr.make C us [])
  (I2.Hr.make C us []) (hb _ (ic (s.heap.objs.size+1) :: us) I2.rZ hl) r2 hq) fun r s' GX=>?_))
 cases r with
 | error e=>exact hx pins σ _ _ e s' I2 GX
 | ok fl =>
  cases fl with
  | ret u =>
   obtain⟨v,H',I3,rv,ev,q3⟩:=I2.after GX;subst ev;exact⟨rv,⟨V.ref (s.heap.objs.size+1),H',I3,rfl,q3⟩⟩
  | next=>exact bg GX
  | brk=>exact bg GX
  | cont=>exact bg GX
end
section
variable {X:Cx} {CX:yD} {k:Nat} {f C:Addr} {fd:ay} {ps ks:List Str} {sp:Sp} {E:XK} {x m:Str} {p pos apos Mw:Pos} {e o:Expr} {es:List Expr} {OI:List zT} {te ta:TE} {t tk:TA} {nm:Option Str}
structure KH(K:ah)(fd:ay)(ps ks:List Str)(g:List Value->List Value->List Value)(gV:List V->List V->List V):Prop where
 to:∀ (s:aw) (us ws:List Value),K.In s.heap->(g us ws).length=ps.length->zV s fd ⟨us,ks.zip ws⟩ (ps.zip (g us ws))
 rel:∀ {vs:List V} {us:List Value} {zs:List V} {ws:List Value},Vals vs us->Vals zs ws->Vals (gV vs zs) (g us ws)
variable {g:List Value->List Value->List Value} {gV:List V->List V->List V}
end
structure bO(N P:List Str)(sc:Scope):Prop where
 kind:sc.kind=.function
 co:sc.isCoroutine=false
 gen:sc.isGenerator=false
 nd:N.Nodup
 pre:N.take P.length=P
 par:∀ x∈P,sc.names.lookup x=some .local\/sc.names.lookup x=some .cell
 EI:∀ y∈sc.names,y.2≠.free
theorem tS{kindOf:Str->Option my}{x:Str}:∀ {binds:List (Str×Value)} {m:Str->Option Value},(∀ v,(x,v)∉binds)->bindL kindOf binds m x=m x
 | [],_,_=>rfl
 | (n,v) :: r,m,h=>by
  unfold bindL;rw [tS fun w hw=>h w (bG _ hw)];split
  ·have:x≠n:=by rintro rfl; exact h v e5
   simp [this]
  ·rfl
theorem tU{kindOf:Str->Option my}{x:Str}:∀ {binds:List (Str×Value)} {m:Str->Option Value},(∀ v,(x,v)∉binds)->bindC kindOf binds m x=m x
 | [],_,_=>rfl
 | (n,v) :: r,m,h=>by
  unfold bindC;rw [tU fun w hw=>h w (bG _ hw)];split
  ·rfl
  ·have:x≠n:=by rintro rfl; exact h v e5
   simp [this]
theorem tT{kindOf:Str->Option my}{x:Str}{v:Value}:∀ {P:List Str} {vs:List Value} {i:Nat} {m:Str->Option Value},P.Nodup->P[i]?=some x->vs[i]?=some v->kindOf x=some .local ->
  bindL kindOf (P.zip vs) m x=some v
 | [],_,_,_,_,h,_,_=>by simp at h
 | _ :: _,[],_,_,_,_,h,_=>by simp at h
 | p :: P,w :: vs,0,m,nd,h1,h2,hk=>by
  simp at h1 h2; subst h1; subst h2;show bindL kindOf ((p,w) :: P.zip vs) m p=_;unfold bindL;rw [tS fun v hv=>(List.nodup_cons.mp nd).1 (wj hv).1,if_pos hk];simp
 | p :: P,w :: vs,i+1,m,nd,h1,h2,hk=>by
  show bindL kindOf ((p,w) :: P.zip vs) m x=_;unfold bindL;exact tT (i:=i) (List.nodup_cons.mp nd).2 (by simpa using h1) (by simpa using h2) hk
theorem tV{kindOf:Str->Option my}{x:Str}{v:Value}:∀ {P:List Str} {vs:List Value} {i:Nat} {m:Str->Option Value},P.Nodup->P[i]?=some x->vs[i]?=some v->kindOf x≠some .local ->
  bindC kindOf (P.zip vs) m x=some v
 | [],_,_,_,_,h,_,_=>by simp at h
 | _ :: _,[],_,_,_,_,h,_=>by simp at h
 | p :: P,w :: vs,0,m,nd,h1,h2,hk=>by
  simp at h1 h2; subst h1; subst h2;show bindC kindOf ((p,w) :: P.zip vs) m p=_;unfold bindC;rw [tU fun v hv=>(List.nodup_cons.mp nd).1 (wj hv).1,if_neg hk];simp
 | p :: P,w :: vs,i+1,m,nd,h1,h2,hk=>by
  show bindC kindOf ((p,w) :: P.zip vs) m x=_;unfold bindC;exact tV (i:=i) (List.nodup_cons.mp nd).2 (by simpa using h1) (by simpa using h2) hk
noncomputable def start(N:List Str)(vs:List V):St:=vs.map some++cL (N.length - vs.length) none
noncomputable def vW(CX:yD)(P:bx)(w:World)(K:ah)(mg:Str->Option Value)(base:Heap)(N:List Str)(qual:Str)(scope:Scope)(f:Addr)(cd:Value)(A:dO)(outer:List Env)(s:aw)(H:Hp)(E:XK):Cx where
 prog:=P
 w:=w
 K:=K
 mg:=mg
 base:=base
 A:=A.deeper (vd qual scope s.heap.objs.size f cd)
 N:=N
 je:=s
 BV:=H
 env:=vd qual scope s.heap.objs.size f cd
 outer:=outer
 stack:=vd qual scope s.heap.objs.size f cd :: outer
 ex:=[]
 calm:=true
 fn:=fun _=>true
 pn:=[]
 xe:=fun e s'=>wpAny (model P w) (A.deeper (vd qual scope s.heap.objs.size f cd)) (leaving (vd qual scope s.heap.objs.size f cd) e) (fun _ IB=>CX outer H s E e IB) (fun e' IB=>CX outer H s E e' IB) s'
theorem vY{sc:Scope}{n:Nat}{x:Str}(h:sc.names.lookup x=some .cell):∃ c,(cellsFrom n sc.names []).lookup x=some c:=by
 have q:=xR sc.names n [] (.inl h);exact Option.isSome_iff_exists.mp q
theorem y8{CX:yD}{P:bx}{w:World}{K:ah}{mg:Str->Option Value}{base:Heap}{N ps:List Str}{qual:Str}{scope:Scope}{f:Addr}{cd:Value}{A:dO}{outer:List Env}{s s1:aw}{H:Hp}{E:XK}{us:List Value}{vs:List V}
  (S:bO N ps scope) (hd:A.handled=none) (e0:xK P w K mg base A outer s H) (hl:vs.length=ps.length) (r:Vals vs us)
  (x:InCallC s s.heap.objs.size (bindL (vd qual scope s.heap.objs.size f cd).kindOf (ps.zip us) fun _=>none) (cellsFrom (s.heap.objs.size+1) scope.names []) (bindC (vd qual scope s.heap.objs.size f cd).kindOf (ps.zip us) fun _=>none) s1) :
  Inv (vW CX P w K mg base N qual scope f cd A outer s H E) [] (start N vs) H s1:=by
 have r0:ps.length<=N.length:=by have:=congrArg wt S.pre; rw [List.length_take] at this; lia
 obtain⟨h1,tk,rfl,hk⟩:=x.done;have GC:∀ b:Addr,b∉(vW CX P w K mg base N qual scope f cd A outer s H E).ex:=fun b z=>absurd (show b∈([]:List Addr) from z) (by simp);refine⟨⟨e0.mod,S.kind,rfl,rfl,a6 _,fun y z c h1 h2=>?_,fun y hy=>?_,fun y c _ h=>?_,fun _=>hd,Around.frames_deeper e0.frames,.inr ⟨rfl,rfl⟩,fun b z=>absurd z (GC b),e0.bs,e0.B7,fun b _ _=>GC b,fun b z=>absurd z (GC b),e0.pS,e0.Fb⟩,
  rfl,e0.bare,Un.kept hk,⟨_,x.toInCall.ns,fun i y v h1 h2 h3=>?_⟩,fun y c h=>⟨_,x.cell y c h⟩,e0.dn.fresh (a6 _),fun y c h=>?_,fun p hp=>absurd (show p∈([]:List (Addr×Obj)) from hp) (by simp),e0.dn.kept hk,?_⟩
 ·exact name_of_addr x.apart (fD h1) (fD h2)
 ·have hy:scope.names.lookup y=some .cell\/scope.names.lookup y=some .free:=hy;rcases hy with hy | hy
  ·exact vY hy
  ·exact absurd rfl (S.EI _ (fD hy))
 ·exact Cf (x.above y c (fD h))
 ·have hi:i < vs.length:=by
   unfold start at h2;by_cases hi:i < vs.length
   ·exact hi
   ·rw [eP (by simpa using hi)] at h2;rw [iu] at h2;split at h2 <;> cases h2
  have ha:vs[i]?=some v:=by
   unfold start at h2;rw [e6 (by simpa using hi),ed] at h2;cases e:vs[i]? with
   | none=>rw [e] at h2; cases h2
   | some a=>rw [e] at h2; cases h2; rfl
  obtain⟨u,hu,rv⟩:=r.get ha;have hp:ps[i]?=some y:=by
   rw [<-S.pre,List.getElem?_take_of_lt (by lia)]; exact h1
  have Lh:ps.Nodup:=by rw [<-S.pre]; exact S.nd.sublist (List.take_sublist _ _)
  refine⟨u,rv,?_⟩;rcases S.par y (List.mem_of_getElem? hp) with k | k
  ·exact .inl ⟨k,tT Lh hp hu k⟩
  ·obtain⟨c,e⟩:=vY (n:=s.heap.objs.size+1) k;refine .inr ⟨.inl k,c,e,?_⟩;have q:=x.cell y c e;rw [tV Lh hp hu (by show scope.names.lookup y≠_; rw [k]; decide)] at q;exact q
 ·exact e0.dn.fresh (Cf (x.above y c (fD h)))
 ·unfold start;show _=N.length;rw [cb,bQ,dr];lia
theorem Hq{CX:yD}{P:bx}{w:World}{K:ah}{mg:Str->Option Value}{base:Heap}{k:Nat}{f:Addr}{name qual:Str}{params:Arguments}{body:List Stmt}{scope:Scope}{dV kV doc pm jt ct oc:Value}{an od:Option Addr}
  {yU:Array (Option Value)} {N ps:List Str} {sp:Sp} (lk:K.lookup f=some ⟨oc,od,.func (fZ name qual params body scope dV kV doc pm an jt ct),yU⟩) (yu:vf K jt qual=true) (S:bO N ps scope)
  (len:∀ vs H Q E,sp vs H Q E->vs.length=ps.length)
  (Bh:∀ (A:dO) (outer:List Env) (s:aw) (H:Hp) (vs:List V) (Q:VK) (E:XK),gB k (A.deeper (vd qual scope s.heap.objs.size f jt))->sp vs H Q E ->
   ∃ t,FQ (vW CX P w K mg base N qual scope f jt A outer s H E) body t/\t { nx:=fun _ H'=>Q .gR H',rt:=Q } (start N vs) H) :
  dW P w K mg base CX (k+1) f (fZ name qual params body scope dV kV doc pm an jt ct) ps sp:=by
 refine⟨len,fun A outer s H args us vs Q E hr e0 hb r DQ=>?_⟩;have hl:=len _ _ _ _ DQ;have KX:K.In s.heap:=e0.mod.GP.keeps fun b o e=>(e0.bs b o e).1;have lim:s.heap.NoLimit:=e0.mod.nolimit.keeps fun b o e=>(e0.bs b o e).1;have tK:∀ y∈ps.zip us,scope.names.lookup y.1=some .local\/(scope.names.lookup y.1=some .cell/\((cellsFrom (s.heap.objs.size+1) scope.names []).lookup y.1).isSome=true):=fun ⟨n,v⟩ hy=>by
  rcases S.par n (wj hy).1 with q | q
  ·exact .inl q
  ·exact .inr ⟨q,xR _ _ _ (.inl q)⟩
 refine codeAny_call_function hr.depth (KX _ _ lk) rfl S.co S.gen rfl (PySem.W.codeRec_of KX yu) (hb _ _ _ _ ?_);refine wpAny_newFunctionEnv_cells S.kind tK fun env he s1 x=>?_;subst he;refine⟨lim.keeps x.toInCall.keep,codeAny_func ?_⟩;obtain⟨t,ht,hq⟩:=Bh A outer s H vs Q E (hr.deeper _) DQ;have I:Inv (vW CX P w K mg base N qual scope f jt A outer s H E) [] (start N vs) H s1:=y8 S hr.hd e0 hl r x;refine wpAny_mono (ht [] s1 (start N vs) H _ I hq) (fun fl s' hs=>?_) fun e s' hs=>hs;have fin:∀ {gy:St} {H':Hp} {v:V} {u:Value},Inv (vW CX P w K mg base N qual scope f jt A outer s H E) [] gy H' s'->RelV v u->Q v H'->CE outer P w H s Q u s' :=
  fun {gy H' v u} J rv q=>⟨v,H',J.os,J.bare,J.base,J.dn,rv,q⟩
 cases fl with
 | ret u =>
  obtain⟨v,gy,H',J,rv,q⟩:=hs;exact fin J rv q
 | next =>
  obtain⟨gy,H',J,q⟩:=hs;exact fin (v:=V.gR) (u:=Value.none) J rfl q
 | brk =>
  obtain⟨_,_,_,q⟩:=hs;exact bg q
 | cont =>
  obtain⟨_,_,_,q⟩:=hs;exact bg q
end L2
namespace HT
open PySem PyProof.Rows
noncomputable def lexLt:List Int->List Int->Bool
 | [],[]=>false
 | [],_ :: _=>true
 | _ :: _,[]=>false
 | x :: xs,y :: ys=>if x=y then lexLt xs ys else decide (x < y)
theorem xk(x y:Int)(xs ys:List Int):lexLt (x :: xs) (y :: ys)=if x=y then lexLt xs ys else decide (x < y):=rfl
theorem so:lexLt [] []=false:=rfl
theorem qO(y:Int)(ys:List Int):lexLt [] (y :: ys)=true:=rfl
theorem qP(x:Int)(xs:List Int):lexLt (x :: xs) []=false:=rfl
theorem Bu(A:dO)(s:aw)(a:Int)(t:Tok)(c:Int)(u:Tok):∃ e,SeqAt.EqAt A s (.int a t) (.int c u) e/\(e=true↔a=c) :=
 ⟨(a == c),SeqAt.EqAt.int_int a t c u,by simp⟩
theorem Ax(A:dO)(s:aw)(a:Int)(t:Tok)(c:Int)(u:Tok)(prog:bx)(w:World)(E:Value->aw->Prop)(Q:Value->aw->Prop)(h:Q (.bool (decide (a < c))) s) :
  wpAny (model prog w) A (richCompare .Lt (.int a t) (.int c u)) Q E s :=
 (PyProof.Rows.lt_int h:wpAny (model prog w) A (gE .Lt (.int a t) (.int c u)) Q E s)
section
open PySem.SeqAt
open PySem.AutoSeq1 (wpAny_loadPart')
open PySem.MeetsSeq PySem.MeetsSeq2 PySem.MeetsSeq3
theorem sg(l b:Addr)(items jM:Array Value)(n n2:Nat)(dd B6:Option Addr)(sl Fy:Array (Option Value))(ns ms:List Int)(hi:ka items.toList ns)(hj:ka jM.toList ms) :
  Meets (Builtin.«tuple.__lt__» ⟨[.ref l,.ref b],[]⟩)
   (fun _ R s=>s.heap.get? l=some { cls:=.type "tuple",dict:=dd,data:=.seq items n,slots:=sl }/\s.heap.get? b=some { cls:=.type "tuple",dict:=B6,data:=.seq jM n2,slots:=Fy } /\
    R (.ok (.ret (.bool (lexLt ns ms)))) s) :=
 .of_wp fun prog w A R s h=>by
  obtain⟨hp,g,d,tk,os⟩:=s; obtain⟨hl,hb,h⟩:=h;have f2:=AutoSeq1.sub_tuple_tuple;have z1:items.size=ns.length:=by rw [<-hi.length]; simp
  have z2:jM.size=ms.length:=by rw [<-hj.length]; simp
  wp_walk using wpAny_loadPart' hl,wpAny_loadPart' hb,wpAny_forIn_list _ (fun rest b s'=>b.1=none/\s'=⟨hp,g,d,tk,os⟩/\∃ (vs ws:List Value) (FD FF:List Int),rest=vs.zip ws /\
   ka vs FD/\ka ws FF/\FD.length+jM.size=FF.length+items.size/\R (.ok (.ret (.bool (lexLt FD FF)))) ⟨hp,g,d,tk,os⟩) _
  case turn =>
   rintro⟨y,x⟩ rest b s' ⟨Kg,rfl,vs,ws,FD,FF,hz,JL,HS,hlen,hR⟩;cases JL with
   | nil=>rw [List.zip_nil_left] at hz; cases hz
   | cons a t JK =>
    cases HS with
    | nil=>rw [List.zip_nil_right] at hz; cases hz
    | cons c u JJ =>
     rw [List.zip_cons_cons] at hz;injection hz with Mz GW
     injection Mz with hy hx
     subst hy hx;rw [xk] at hR;simp only [aj] at hlen;obtain⟨e,he,Hb⟩:=Bu A.in1 ⟨hp,g,d,tk,os⟩ a t c u;refine aJ (he prog w _ _ ?_);cases e with
     | true =>
      rw [if_pos (Hb.mp rfl)] at hR
      wp_walk
      exact⟨rfl,rfl,_,_,_,_,GW,JK,JJ,by lia,hR⟩
     | false =>
      rw [if_neg (fun q=>absurd (Hb.mpr q) rX)] at hR;have MH:=Ax A.in1 ⟨hp,g,d,tk,os⟩ a t c u prog w
      wp_walk using MH
      exact⟨_,rfl,by simpa using hR⟩
  case fin =>
   rintro⟨b1,b2⟩ s' ⟨Kg,rfl,vs,ws,FD,FF,hz,JL,HS,hlen,hR⟩;simp only at Kg;subst Kg;have hv:lexLt FD FF=decide (items.size < jM.size):=by
    cases JL with
    | nil =>
     cases HS with
     | nil =>
      simp only [aq] at hlen;rw [so];exact(decide_eq_false (by lia)).symm
     | cons c u hw =>
      simp only [aq,aj] at hlen;rw [qO];exact(decide_eq_true (by lia)).symm
    | cons a t hv =>
     cases HS with
     | nil =>
      simp only [aq,aj] at hlen;rw [qP];exact(decide_eq_false (by lia)).symm
     | cons c u hw =>
      rw [List.zip_cons_cons] at hz;cases hz
   rw [hv] at hR
   wp_walk
   exact⟨_,rfl,by simpa [Builtin.Tuple.tupleCompareSizes] using hR⟩
  case h =>
   exact⟨rfl,rfl,items.toList,jM.toList,ns,ms,rfl,hi,hj,by lia,h⟩
end
section
variable {prog:bx} {w:World} {A:dO} {E:Value->aw->Prop} {s:aw}
theorem xh{l b:Addr}{items jM:Array Value}{ns ms:List Int}{Q:Value->aw->Prop}(hl:IsTup s.heap l items)(hb:IsTup s.heap b jM)(hi:ka items.toList ns)(hj:ka jM.toList ms)
  (hu:A.units < cLine) (h:Q (.bool (lexLt ns ms)) s):wpAny (model prog w) A (gE .Lt (.ref l) (.ref b)) Q E s:=by
 obtain⟨⟨cls,dd,data,sl⟩,ho,hc,n,hd⟩:=id hl;obtain⟨⟨Kt,B6,data2,Fy⟩,EX,Hh,n2,hd2⟩:=id hb;simp only at hc hd Hh hd2;subst hc hd Hh hd2;exact richCompare_meets_room (op:=.Lt) ⟨_,ho,rfl⟩ ⟨_,EX,rfl⟩ PySem.F.slot_tuple_lt PySem.F.entry_tuple_lt (PySem.F.args_tuple_lt_2 _ _) (sg l b items jM n n2 dd B6 sl Fy ns ms hi hj)
  ⟨ho,EX,show xP (lexLt ns ms)≠Value.notImplemented/\Q (.bool (lexLt ns ms)) s from⟨(fun x=>nomatch x),h⟩⟩ hu
theorem Dx{t b:Addr}{vs ws:List Value}{Q:Value->aw->Prop}(ht:IsTup s.heap t vs.toArray)(hb:IsTup s.heap b ws.toArray)(hv:vs≠[])
  (h1:ws=[]->Q (.ref t) s) (h2:ws≠[]->Q (.ref s.heap.objs.size) { s with heap:=s.heap.push { cls:=.type "tuple",data:=.seq (vs++ws).toArray } })
  (hsz:vs.length+ws.length<=a4):wpAny (model prog w) A (fW .Add (.ref t) (.ref b)) Q E s:=by
 obtain⟨⟨cls,dd,data,sl⟩,ho,hc,n,hd⟩:=id ht;obtain⟨⟨Kt,B6,data2,Fy⟩,EX,Hh,n2,hd2⟩:=id hb;simp only at hc hd Hh hd2;subst hc hd Hh hd2;have e:vs.toArray++ws.toArray=(vs++ws).toArray:=by simp
 by_cases hw:ws=[]
 ·exact concat_meets ⟨_,ho,rfl⟩ ⟨_,EX,rfl⟩ noFill_tuple_add seq_tuple_add xS wK (wg _ _)
   (tuple_addW1 t b vs.toArray ws.toArray n n2 dd B6 sl Fy (by simpa using hv) (by simp [hw])) ⟨ho,EX,h1 hw⟩
 ·refine concat_meets ⟨_,ho,rfl⟩ ⟨_,EX,rfl⟩ noFill_tuple_add seq_tuple_add xS wK (wg _ _)
   (tuple_addW2 t b vs.toArray ws.toArray n n2 dd B6 sl Fy (by simpa using hv) (by simpa using hw) (by rw [aZ,aZ]; exact hsz)) ⟨ho,EX,?_⟩
  rw [e];exact h2 hw
noncomputable def gH(n d:Nat):Option Int->Nat
 | none=>d
 | some v=>if v < 0 then (v+(n:Int)).toNat else min v.toNat n
theorem Em(n d:Nat)(hd:d<=n)(o:Option Int):gH n d o<=n:=by
 cases o with
 | none=>exact hd
 | some v =>
  show (if v < 0 then (v+(n:Int)).toNat else min v.toNat n)<=n;by_cases hv:v < 0
  ·rw [if_pos hv]; lia
  ·rw [if_neg hv]; exact Nat.min_le_right _ _
theorem yy(v:Int)(n d:Nat):(if v < 0 then max (v+(n:Int)) 0 else min v (n:Int))=((gH n d (some v):Nat):Int):=by
 show (if v < 0 then max (v+(n:Int)) 0 else min v (n:Int))=(((if v < 0 then (v+(n:Int)).toNat else min v.toNat n):Nat):Int);by_cases hv:v < 0
 ·simp only [if_pos hv]; lia
 ·simp only [if_neg hv]; lia
theorem xD(lo hi:Option Int)(n:Nat):jd lo hi 1 (n:Int)=(((gH n 0 lo:Nat):Int),((gH n n hi:Nat):Int)):=by
 have h1:¬ ((1:Int) < 0):=by lia
 unfold jd;simp only [h1,if_false];refine Prod.ext ?_ ?_
 ·cases lo with
  | none=>rfl
  | some v=>exact yy v n 0
 ·cases hi with
  | none=>rfl
  | some v=>exact yy v n n
theorem wZ(i j:Nat):gb (i:Int) (j:Int) 1=j - i:=by
 unfold gb;have h1:(1:Int) > 0:=by lia
 simp only [h1,if_true,Int.ediv_one];split <;> lia
theorem qw{v:Value}{o:Option Int}{Q:Option Int->aw->Prop}(p:IsPart v o)(h:Q o s):wpAny (model prog w) A (Builtin.Slice.slicePartIndex v) Q E s:=by
 cases p with
 | none=>exact slicePart_none h
 | int i t=>exact slicePart_int h
theorem oB{sl:Addr}{vl vu:Value}{lo hi:Option Int}{n:Nat}{Q:Int×Int×Nat->aw->Prop}(hs:s.heap.IsSliceOf sl vl vu .none)(pl:IsPart vl lo)(pu:IsPart vu hi)
  (h:Q (((gH n 0 lo:Nat):Int),1,gH n n hi - gH n 0 lo) s):wpAny (model prog w) A (qd (.ref sl) (pure (n:Int))) Q E s:=by
 obtain⟨os,GZ,Lv,HX⟩:=id hs;unfold qd Builtin.Slice.sliceFields;refine aJ (aJ (wpAny_field GZ HX (x:=vl) rfl (aJ (wpAny_field GZ HX (x:=vu) rfl (aJ (wpAny_field GZ HX (x:=.none) rfl (bz ?_)))))));refine aJ (slicePart_none ?_);show wpAny _ _ (if ((1:Int) == 0)=true then _ else _) _ _ s;rw [if_neg (by decide)];refine aJ (qw pl (aJ (qw pu (aJ (bz ?_)))));show wpAny _ _ (match jd lo hi 1 (n:Int) with | (lo,hi)=>pure (lo,(1:Int),gb lo hi 1)) _ _ s;rw [xD lo hi n];show wpAny _ _ (pure (((gH n 0 lo:Nat):Int),(1:Int),gb ((gH n 0 lo:Nat):Int) ((gH n n hi:Nat):Int) 1)) _ _ s;rw [wZ];exact bz h
theorem AK(xs:Array Value)(i k:Nat):((oA k).filterMap fun (m:Nat)=>xs[((i:Int)+(m:Int) * 1).toNat]?).toArray=((xs.toList.drop i).take k).toArray:=by
 have e:(fun (m:Nat)=>xs[((i:Int)+(m:Int) * 1).toNat]?)=fun m=>xs[i+m]?:=by
  funext m;have:((i:Int)+(m:Int) * 1).toNat=i+m:=by lia
  rw [this]
 rw [e];have:=pick_run xs i k;rw [List.filterMap_map] at this;have e2:((fun x=>xs[x]?)∘fun x=>i+x)=fun m=>xs[i+m]?:=rfl;rw [e2] at this;rw [this]
theorem nV{t sl:Addr}{items:Array Value}{vl vu:Value}{lo hi:Option Int}{Q:Value->aw->Prop}(ht:IsTup s.heap t items)(hs:s.heap.IsSliceOf sl vl vu .none)(pl:IsPart vl lo)(pu:IsPart vu hi)
  (hw:¬ (gH items.size 0 lo=0/\gH items.size items.size hi=items.size))
  (h:Q (.ref s.heap.objs.size) { s with heap:=s.heap.push { cls:=.type "tuple",data:=.seq ((items.toList.drop (gH items.size 0 lo)).take (gH items.size items.size hi - gH items.size 0 lo)).toArray } })
  (hsz:items.size<=a4):wpAny (model prog w) A (getItem (.ref t) (.ref sl)) Q E s:=by
 have yr:sizeOk (.seq ((items.toList.drop (gH items.size 0 lo)).take (gH items.size items.size hi - gH items.size 0 lo)).toArray):=by
  show ((items.toList.drop (gH items.size 0 lo)).take (gH items.size items.size hi - gH items.size 0 lo)).toArray.size<=a4;rw [aZ];exact da (da (List.length_take_le' _ _) (by rw [List.length_drop,gQ]; exact Nat.sub_le _ _)) hsz
 have hj:gH items.size items.size hi<=items.size:=Em _ _ (a6 _) hi;obtain⟨os,GZ,Lv,HX⟩:=id hs;have M9:s.TypeIs (.ref sl) "slice":=⟨os,GZ,Lv⟩;unfold getItem
 try with_reducible refine ow ?_
 first | refine aJ (bz ?_) | skip
 refine aJ (wpAny_sequenceKey ht.typeIs (by decide) ?_);refine aJ (wpAny_callSpecial?_slot (name:=Str.ofString "__getitem__") ht.typeIs oj
  (wpAny_call_entry oj ht.typeIs entry_tuple_getitem ?_ (args_tuple_getitem _ _)))
 show wpAny _ _ (Builtin.Tuple.tupleItemsOf (.ref t) >>= _) _ _ s;refine aJ (tupleItemsOf_ ht ?_);refine aJ (wpAny_typeOf M9 ?_);rw [if_pos (by decide)];refine aJ (oB hs pl pu ?_);have MP:¬ ((((gH items.size 0 lo:Nat):Int) == 0&&(1:Int) == 1&&(gH items.size items.size hi - gH items.size 0 lo) == items.size)=true):=by
  intro q;rw [aQ,aQ] at q;have q1:((gH items.size 0 lo:Nat):Int)=0:=eq_of_beq q.1.1;have q2:gH items.size items.size hi - gH items.size 0 lo=items.size:=eq_of_beq q.2;exact hw ⟨by lia,by lia⟩
 show wpAny _ _ (if (((gH items.size 0 lo:Nat):Int) == 0&&(1:Int) == 1&&(gH items.size items.size hi - gH items.size 0 lo) == items.size)=true then _ else _) _ _ s;rw [if_neg MP,AK]
 first
  | exact aJ (m:=gi _) (jv (bz ⟨_,rfl,bz h⟩) yr)
  | exact aJ (m:=gi _) (jv (aJ (bz (bz ⟨_,rfl,bz h⟩))) yr)
  | exact aJ (aJ (m:=gi _) (jv (bz (bz ⟨_,rfl,bz h⟩)) yr))
  | exact aJ (aJ (m:=gi _) (jv (bz ⟨_,rfl,bz h⟩) yr))
end
end HT
namespace L2
open PySem PySem.Spec PyProof.Rows
noncomputable abbrev TO:=St->Hp->(Option Int->Hp->Prop)->Prop
theorem intsAre_of{ns:List Int}:∀ {us:List Value},Vals (ns.map V.int) us->ka us ns:=by
 induction ns with
 | nil=>intro us r; rw [aO] at r; cases r; exact .nil
 | cons n ns ih =>
  intro us r;rw [ax] at r;cases r with
  | cons r1 r2 =>
   obtain⟨t,e⟩:=r1;subst e;exact .cons n t (ih r2)
section
variable {X:Cx} {e:Expr} {te:TE} {lo hi:Option Expr} {tl th:TO} {pos p2:Pos}
noncomputable def KC(X:Cx)(r:V->Option Int->Option Int->Hp->VK->Prop):Prop :=
 ∀ (pins:List (Addr×Obj)) (s:aw) (σ:St) (H:Hp) (x:V) (v vl vu:Value) (lo hi:Option Int) (sl:Addr) (Q:VK),Inv X pins σ H s->RelV x v->s.heap.IsSliceOf sl vl vu .none->IsPart vl lo->IsPart vu hi->r x lo hi H Q ->
  ∃ T id,typeLookup (.type T) "__getitem__" = pure (some (.builtin id))/\s.TypeIs v T/\wpAny (model X.prog X.w) X.A (getItem v (.ref sl)) (EP X pins σ Q) X.xe s
noncomputable def vX(xs:List V)(lo hi:Option Int):List V:=(xs.drop (HT.gH xs.length 0 lo)).take (HT.gH xs.length xs.length hi - HT.gH xs.length 0 lo)
theorem pH(xs:List V)(lo hi:Option Int):(vX xs lo hi).length<=xs.length:=by
 unfold vX;rw [List.length_take,List.length_drop];lia
noncomputable def IJ(K:ah):V->Option Int->Option Int->Hp->VK->Prop:=fun x lo hi H Q=>∃ a xs,x=.ref a/\r8 K H a xs /\
 ¬ (HT.gH xs.length 0 lo=0/\HT.gH xs.length xs.length hi=xs.length)/\∀ p,H p=none->Q (.ref p) (upd H p (.tup (vX xs lo hi)))
theorem Ek:KC X (IJ X.K):=by
 intro pins s σ H x v vl vu lo hi sl Q I rx hs pl pu h;obtain⟨a,xs,rfl,hx,hw,q⟩:=h;cases rx;obtain⟨cH,r,ht,hz⟩:=I.tuple hx;have hlen:cH.toArray.size=xs.length:=by rw [aZ]; exact r.length.symm
 refine⟨"tuple",_,PyProof.Rows.slot_tuple_getitem.lookup,ht.typeIs,?_⟩;refine HT.nV ht hs pl pu (by rw [hlen]; exact hw) ?_ (by rw [hlen]; exact hz);rw [hlen];refine⟨.ref s.heap.objs.size,_,I.laid (t':=s.toks) (o:=.tup (vX xs lo hi)) (fun b ob q=>aP _ q) (a6 _) ?_,rfl,q _ (I.dn.fresh (a6 _))⟩;exact⟨da (pH xs lo hi) hz,_,(r.drop (HT.gH xs.length 0 lo)).take (HT.gH xs.length xs.length hi - HT.gH xs.length 0 lo),IsTup.new _ _⟩
noncomputable def IL(K:ah):R2:=fun x y H Q=>∃ a b ns ms,x=.ref a/\y=.ref b/\r8 K H a (ns.map V.int)/\r8 K H b (ms.map V.int)/\Q (.bl (HT.lexLt ns ms)) H
theorem EE(hu:X.A.units < cLine):zu X (gE .Lt) (IL X.K):=by
 intro pins s σ H x y v u Q I rx ry h;obtain⟨a,b,ns,ms,rfl,rfl,ha,hb,q⟩:=h;cases rx;cases ry;obtain⟨cH,r1,p1,_⟩:=I.tuple ha;obtain⟨A3,r2,p2,_⟩:=I.tuple hb;have i1:ka cH.toArray.toList ns:=intsAre_of r1;have i2:ka A3.toArray.toList ms:=intsAre_of r2;exact HT.xh p1 p2 i1 i2 hu ⟨.bl (HT.lexLt ns ms),H,I,rfl,q⟩
noncomputable def Gr(K:ah):R2:=fun x y H Q=>∃ a b xs ys,x=.ref a/\y=.ref b/\r8 K H a xs/\r8 K H b ys/\xs≠[]/\xs.length+ys.length<=a4 /\
 (ys=[]->Q (.ref a) H)/\(ys≠[]->∀ p,H p=none->Q (.ref p) (upd H p (.tup (xs++ys))))
theorem Vals.uu{xs:List V}{us:List Value}(r:Vals xs us):us=[]↔xs=[]:=by
 cases r with
 | nil=>simp
 | cons _ _=>simp
theorem C4:zu X (fW .Add) (Gr X.K):=by
 intro pins s σ H x y v u Q I rx ry h;obtain⟨a,b,xs,ys,rfl,rfl,ha,hb,hx,hz,q1,q2⟩:=h;cases rx;cases ry;obtain⟨cH,r1,p1,_⟩:=I.tuple ha;obtain⟨A3,r2,p2,_⟩:=I.tuple hb;refine HT.Dx p1 p2 (fun z=>hx (r1.uu.mp z)) (fun z=>⟨.ref a,H,I,rfl,q1 (r2.uu.mp z)⟩) (fun z=>?_) (by rw [<-r1.length,<-r2.length]; exact hz);refine⟨.ref s.heap.objs.size,_,I.laid (t':=s.toks) (o:=.tup (xs++ys)) (fun b ob q=>aP _ q) (a6 _) ?_,rfl,q2 (fun w=>z (r2.uu.mpr w)) _ (I.dn.fresh (a6 _))⟩;exact⟨by rw [cb]; exact hz,_,r1.append r2,IsTup.new _ _⟩
end
noncomputable def zF(n:Nat)(i:Int):Option Nat:=if 0<=i then (if i < n then some i.toNat else none) else if -(n:Int)<=i then some (i+n).toNat else none
noncomputable def mG{α:Type}(xs:List α)(i:Int):Option α:=(zF xs.length i).bind fun j=>xs[j]?
theorem ym{n:Nat}{i:Int}{j:Nat}(h:zF n i=some j):seqIndex? i n=some j/\j < n/\-(n:Int)<=i/\i < n:=by
 unfold zF at h;by_cases h0:0<=i
 ·rw [if_pos h0] at h;by_cases h1:i < n
  ·rw [if_pos h1] at h;have e:i.toNat=j:=a8 h;exact⟨by rw [seqIndex_of h0 h1,e],by lia,by lia,h1⟩
  ·rw [if_neg h1] at h; cases h
 ·rw [if_neg h0] at h;by_cases h1:-(n:Int)<=i
  ·rw [if_pos h1] at h;have e:(i+n).toNat=j:=a8 h;exact⟨by rw [seqIndex_neg (by lia) h1,e],by lia,h1,by lia⟩
  ·rw [if_neg h1] at h; cases h
theorem yB{α:Type}{xs:List α}{i:Int}{v:α}(h:mG xs i=some v):∃ j,seqIndex? i xs.length=some j/\xs[j]?=some v/\j < xs.length/\-(xs.length:Int)<=i/\i < xs.length:=by
 unfold mG at h;cases e:zF xs.length i with
 | none=>rw [e] at h; cases h
 | some j =>
  rw [e] at h;obtain⟨h1,h2,h3,h4⟩:=ym e;exact⟨j,h1,h,h2,h3,h4⟩
noncomputable def DD(b:Expr):Prop:=∀ o i,subscripted b false o i=operate [o,i] (getItem o i)
noncomputable def KI(X:Cx)(r:R2):Prop :=
 ∀ (value slice:Expr) (pins:List (Addr×Obj)) (s:aw) (σ:St) (H:Hp) (x y:V) (v u:Value) (Q:VK),Inv X pins σ H s->RelV x v->RelV y u->r x y H Q ->
  subscripted slice false v u=operate [v,u] (getItem v u)->wpAny (model X.prog X.w) X.A (subscriptTail value slice v u) (EP X pins σ Q) X.xe s
noncomputable def Ov(X:Cx)(id:String)(r:V->List V->Hp->VK->Prop):Prop :=
 ∀ (pins:List (Addr×Obj)) (s:aw) (σ:St) (H:Hp) (x:V) (xs:List V) (v:Value) (us:List Value) (Q:VK),Inv X pins σ H s->RelV x v->Vals xs us->r x xs H Q ->
  wpAny (model X.prog X.w) X.A (call (.builtin id) (v :: us)) (EP X pins σ Q) X.xe s
section
variable {X:Cx} {a b:Expr} {ta tb:TE} {pos:Pos}
noncomputable def IP(K:ah):R2:=fun x y H Q=>∃ p xs i v,x=.ref p/\y=.int i/\p3 K H p xs/\mG xs i=some v/\Q v H
noncomputable def IM(K:ah):R2:=fun x y H Q=>∃ p xs i v,x=.ref p/\y=.int i/\r8 K H p xs/\mG xs i=some v/\Q v H
theorem yk:KI X (IP X.K):=by
 intro value slice pins s σ H x y v u Q I rx ry h hs;obtain⟨p,xs,i,z,rfl,rfl,hq,he,q⟩:=h;cases rx;obtain⟨t,rfl⟩:=ry;obtain⟨cH,r,pl,hz⟩:=I.list hq;obtain⟨j,h1,h2,h3,h4,h5⟩:=yB he;obtain⟨w,ew,qB⟩:=r.get h2;have hl:=r.length;have hn:=qL;have fin:EP X pins σ Q w s:=⟨z,H,I,qB,q⟩;by_cases h0:0<=i
 ·have hj:i.toNat=j:=by
   rw [seqIndex_of h0 h5] at h1;exact a8 h1
  exact item_listR pl.isList h0 (by lia) (by rw [hj]; simpa using ew) fin hs
 ·have hj:(i+(cH.toArray.size:Int)).toNat=j:=by
   rw [seqIndex_neg (by lia) h4] at h1;rw [aZ,<-hl];exact a8 h1
  exact subscriptTail_builtinR (x:=w) pl.isList.typeIs slot_list_getitem.lookup
   (wpAny_getItem_list_neg (Q:=fun r s'=>r=w/\EP X pins σ Q r s') pl.isList (by lia) (by rw [aZ] <;> lia) (by lia) (by rw [hj]; simpa using ew) ⟨rfl,fin⟩) hs
theorem ER:KI X (IM X.K):=by
 intro value slice pins s σ H x y v u Q I rx ry h hs;obtain⟨p,xs,i,z,rfl,rfl,hq,he,q⟩:=h;cases rx;obtain⟨t,rfl⟩:=ry;obtain⟨cH,r,pl,hz⟩:=I.tuple hq;obtain⟨j,h1,h2,h3,h4,h5⟩:=yB he;obtain⟨w,ew,qB⟩:=r.get h2;have hl:=r.length;have hn:=qL;have fin:EP X pins σ Q w s:=⟨z,H,I,qB,q⟩;exact subscriptTail_builtinR (x:=w) pl.typeIs slot_tuple_getitem.lookup
  (getItem_tuple (j:=j) (Q:=fun r s'=>r=w/\EP X pins σ Q r s') pl (by lia) (by lia) (by rw [aZ,<-hl]; exact h1) (by simpa using ew) ⟨rfl,fin⟩) hs
theorem xc (cH:List Value) (n j:Nat) (u:Value):t8 (·.setIfInBounds j u) { cls:=.type "list",data:=.seq cH.toArray n } = { cls:=.type "list",data:=.seq (cH.set j u).toArray n }:=by
 simp [t8]
theorem Inv.lst{pins:List (Addr×Obj)}{σ:St}{H:Hp}{s:aw}{p:Addr}{xs:List V}(I:Inv X pins σ H s)(h:H p=some (.lst xs)) :
  ∃ (cH:List Value) (n:Nat),Vals xs cH/\s.heap.get? p=some { cls:=.type "list",data:=.seq cH.toArray n }/\xs.length<=a4:=by
 obtain⟨z,cH,n,r,e⟩:=I.dn p _ h;exact⟨cH,n,r,e,z⟩
theorem Inv.EL{pins:List (Addr×Obj)}{σ:St}{H:Hp}{s:aw}{p:Addr}{xs ys:List V}{cH its':List Value}{n n':Nat}{f:Obj->Obj}(I:Inv X pins σ H s)(h:H p=some (.lst xs))
  (ho:s.heap.get? p=some { cls:=.type "list",data:=.seq cH.toArray n }) (hf:f { cls:=.type "list",data:=.seq cH.toArray n } = { cls:=.type "list",data:=.seq its'.toArray n' }) (r:Vals ys its') (hz:ys.length<=a4) (t:Nat) :
  Inv X pins σ (upd H p (.lst ys)) { s with heap:=s.heap.update p f,toks:=t }:=by
 have e:(s.heap.update p f).get? p=some { cls:=.type "list",data:=.seq its'.toArray n' }:=by
  rw [BZ f ho (by rw [hf] <;> rfl),hf]
 refine I.write (x:=p) (e:=p) (by rw [h]; trivial) (.inl rfl) (fun b u hb q=>(zU _ _ (pe hb)).trans q) ⟨_,e⟩ ?_;exact⟨hz,its',n',r,e⟩
noncomputable def Gn:V->V->V->Hp->(Hp->Prop)->Prop:=fun o i v H Q=>∃ p xs k j,o=.ref p/\i=.int k/\H p=some (.lst xs)/\zF xs.length k=some j/\Q (upd H p (.lst (xs.set j v)))
theorem set_list:KD X Gn:=by
 intro pins s σ H o i v ov iv u Q I ro ri rv h;obtain⟨p,xs,k,j,rfl,rfl,hp,hj,q⟩:=h;cases ro;obtain⟨t,rfl⟩:=ri;obtain⟨cH,n,r,ho,hz⟩:=I.lst hp;obtain⟨h1,h2,h3,h4⟩:=ym hj;have hl:=r.length;have hn:=qL;have I':Inv X pins σ (upd H p (.lst (xs.set j v))) { s with heap:=s.heap.update p (t8 (·.setIfInBounds j u)) } :=
  I.EL hp ho (xc cH n j u) (r.set rv j) (by rw [wo]; exact hz) s.toks
 by_cases h0:0<=k
 ·have hk:k.toNat=j:=by
   rw [seqIndex_of h0 h4] at h1;exact a8 h1
  exact PySem.W.ki_setAt ho h0 (by lia) (by rw [aZ,<-hl]; exact h4) (by rw [hk]; exact⟨_,I',q⟩)
 ·have hk:(k+(cH.toArray.size:Int)).toNat=j:=by
   rw [seqIndex_neg (by lia) h3] at h1;rw [aZ,<-hl];exact a8 h1
  exact PySem.W.ki_setBack ho (by lia) (by rw [aZ,<-hl]; exact h3) (by lia) (by rw [hk]; exact⟨_,I',q⟩)
theorem uh(lo hi:Option Int)(n:Nat):(lb lo hi none n).1=((HT.gH n 0 lo:Nat):Int)/\(lb lo hi none n).2.1=((HT.gH n n hi:Nat):Int)/\(lb lo hi none n).2.2=1:=by
 refine⟨?_,?_,rfl⟩
 ·cases lo with
  | none=>simp [lb,HT.gH]
  | some i =>
   simp only [lb,HT.gH,Option.getD_none,show (1:Int) > 0 by decide,if_true];by_cases h:i < 0
   ·simp only [h,if_true] <;> lia
   ·simp only [h,if_false] <;> lia
 ·cases hi with
  | none=>simp [lb,HT.gH]
  | some i =>
   simp only [lb,HT.gH,Option.getD_none,show (1:Int) > 0 by decide,if_true];by_cases h:i < 0
   ·simp only [h,if_true] <;> lia
   ·simp only [h,if_false] <;> lia
theorem sj(cH:List Value)(lo hi:Option Int):slicePick cH.toArray lo hi none=((cH.drop (HT.gH cH.length 0 lo)).take (HT.gH cH.length cH.length hi - HT.gH cH.length 0 lo)).toArray:=by
 obtain⟨h1,h2,h3⟩:=uh lo hi cH.toArray.size;unfold slicePick;rw [h1,h2,h3];simp only [sliceRange_one,pick_run,aZ] <;> rfl
noncomputable def IK(K:ah):V->Option Int->Option Int->Hp->VK->Prop:=fun x lo hi H Q=>∃ a xs,x=.ref a/\p3 K H a xs/\∀ p,H p=none->Q (.ref p) (upd H p (.lst (vX xs lo hi)))
theorem x2:KC X (IK X.K):=by
 intro pins s σ H x v vl vu lo hi sl Q I rx hs pl pu h;obtain⟨a,xs,rfl,hx,q⟩:=h;cases rx;obtain⟨cH,r,ht,hz⟩:=I.list hx;have hlen:=r.length;refine⟨"list",_,slot_list_getitem.lookup,ht.isList.typeIs,?_⟩;refine wpAny_getItem_list_slice ht.isList hs pl pu .none (by simp) ?_ (by rw [aZ] <;> lia);rw [sj,<-hlen];refine⟨.ref s.heap.objs.size,_,I.laid (t':=s.toks) (o:=.lst (vX xs lo hi)) (fun b ob q=>aP _ q) (a6 _) ?_,rfl,q _ (I.dn.fresh (a6 _))⟩;exact⟨da (pH xs lo hi) hz,_,0,(r.drop (HT.gH xs.length 0 lo)).take (HT.gH xs.length xs.length hi - HT.gH xs.length 0 lo),cT _ rfl⟩
theorem sP:D3 X (.type "tuple") (fun xs H Q=>∃ p ys,xs=[.ref p]/\((p3 X.K H p ys/\∀ l,H l=none->Q (.ref l) (upd H l (.tup ys)))\/(r8 X.K H p ys/\Q (.ref p) H))):=by
 intro pins s σ H xs us Q I r h;obtain⟨p,ys,rfl,h⟩:=h;obtain⟨u,rfl,rx⟩:=vals1 r;cases rx;rcases h with ⟨hq,q⟩ | ⟨hq,q⟩
 ·obtain⟨cH,r',pl,hz⟩:=I.list hq;have hlen:=r'.length;refine call_tuple_list pl.isList (fun h' kp=>?_) (by simp only [aZ] <;> lia);have I1:Inv X pins σ H { s with heap:=h' }:=I.kept (t':=s.toks) kp;have I2:Inv X pins σ (upd H h'.objs.size (.tup ys)) { s with heap:=h'.push { cls:=.type "tuple",data:=.seq cH.toArray } } :=
   I1.laid (t':=s.toks) (fun b o e=>aP _ e) (a6 _) (show ft X.prog X.w _ _ _ (.tup ys) from⟨hz,cH,r',IsTup.new _ _⟩)
  exact⟨.ref h'.objs.size,_,I2,rfl,q _ (I1.dn.fresh (a6 _))⟩
 ·obtain⟨cH,r',pl,hz⟩:=I.tuple hq;exact call_tuple_same pl ⟨.ref p,H,I,rfl,q⟩
noncomputable def L4(K:ah)(T:String)(x:V)(H:Hp):Prop:=match x with
 | .str _=>T = "str"
 | .int _=>T = "int"
 | .ref p=>(T = "list"/\∃ xs,p3 K H p xs)\/(T = "tuple"/\∃ o,K.lookup p=some o/\o.cls=.type "tuple"/\o.dict=none) \/
   (T = "dict"/\((∃ aS,H p=some (.dK aS))\/∃ aS,H p=some (.dT aS)))\/(T = "set"/\∃ S n,H p=some (.set S n))
 | _=>False
theorem ue{pins:List (Addr×Obj)}{σ:St}{H:Hp}{s:aw}{T:String}{x:V}{v:Value}(I:Inv X pins σ H s)(r:RelV x v)(ty:L4 X.K T x H) :
  s.TypeIs v T/\∀ a,v=.ref a->∃ ob,s.heap.get? a=some ob/\ob.dict=none:=by
 cases x with
 | str z =>
  obtain⟨t,rfl⟩:=r;cases (show T = "str" from ty);exact⟨typeIs_str s z t,fun _ e=>nomatch e⟩
 | int i =>
  obtain⟨t,rfl⟩:=r;cases (show T = "int" from ty);exact⟨typeIs_int s i t,fun _ e=>nomatch e⟩
 | ref p =>
  cases r;rcases ty with ⟨rfl,xs,hq⟩ | ⟨rfl,o,hk,hc,hd⟩ | ⟨rfl,hk⟩ | ⟨rfl,S,n,hk⟩
  ·obtain⟨cH,_,pl,_⟩:=I.list hq;refine⟨pl.isList.typeIs,fun a e=>?_⟩;cases e;obtain⟨o,n,e,c,hd,_⟩:=pl;exact⟨o,e,hd⟩
  ·refine⟨⟨o,I.rZ p o hk,hc⟩,fun a e=>?_⟩;cases e;exact⟨o,I.rZ _ o hk,hd⟩
  ·have z:∃ o,s.heap.get? p=some o/\o.ExactDict:=by
    rcases hk with ⟨aS,hk⟩ | ⟨aS,hk⟩
    ·obtain⟨_,_,_,_,o,_,_,e,ex,_⟩:=I.dn p _ hk;exact⟨o,e,ex⟩
    ·obtain⟨_,_,_,_,o,_,_,e,ex,_⟩:=I.dn p _ hk;exact⟨o,e,ex⟩
   obtain⟨o,e,ex⟩:=z;refine⟨⟨o,e,ex.1⟩,fun a e2=>?_⟩;cases e2;exact⟨o,e,ex.2.1⟩
  ·obtain⟨o,_,_,_,e,ex,_⟩:=I.dn p _ hk;refine⟨⟨o,e,ex.1⟩,fun a e2=>?_⟩;cases e2;exact⟨o,e,ex.2.1⟩
 | _=>exact bg ty
variable {o e:Expr} {es:List Expr} {to:TE} {t:TA} {name:Str} {apos i7:Pos} {T id:String} {r:V->List V->Hp->VK->Prop}
/- xs.append(e),list.index on a GG tuple .. are Ov facts of 06m -/
end
noncomputable def Ow(X:Cx)(id:String)(r:V->List V->Hp->VK->Prop):Prop :=
 ∀ (pins:List (Addr×Obj)) (s:aw) (σ:St) (H:Hp) (x:V) (xs:List V) (v:Value) (us:List Value) (Q:VK),Inv X pins σ H s->RelV x v->Vals xs us->r x xs H Q ->
  wpAny (model X.prog X.w) X.A (call (.builtin id) (v :: us)) (EP X pins σ Q) X.xe s
theorem Vals.one:∀ {x:V} {us:List Value},Vals [x] us->∃ u,us=[u]/\RelV x u:=by
 intro x us h;cases h with
 | cons r t=>cases t; exact⟨_,rfl,r⟩
theorem Vals.two:∀ {x y:V} {us:List Value},Vals [x,y] us->∃ u v,us=[u,v]/\RelV x u/\RelV y v:=by
 intro x y us h;cases h with
 | cons r t =>
  obtain⟨v,rfl,q⟩:=Vals.one t;exact⟨_,_,rfl,r,q⟩
section
variable {X:Cx} {pins:List (Addr×Obj)} {σ:St} {H:Hp} {s:aw} {l b:Addr} {xs ys zs:List V}
theorem Inv.Ju{cH its':List Value}{n:Nat}{f:Array Value->Array Value}{t':Nat}(I:Inv X pins σ H s)(hH:H l=some (.lst xs))
  (e:s.heap.get? l=some { cls:=.type "list",data:=.seq cH.toArray n }) (hf:f cH.toArray=its'.toArray) (hv:Vals ys its') (hz:ys.length<=a4) :
  Inv X pins σ (upd H l (.lst ys)) { s with heap:=s.heap.update l (t8 f),toks:=t' }:=by
 have q:=PySem.IsL.update e f;rw [hf] at q;refine I.write (x:=l) (e:=l) (by rw [hH]; exact trivial) (.inl rfl) (fun b' u hb hu=>(zU s.heap (t8 f) (pe hb)).trans hu) ⟨_,q⟩ ?_;exact⟨hz,its',_,hv,q⟩
theorem Inv.Jv{cH:List Value}{t':Nat}(I:Inv X pins σ H s)(hv:Vals ys cH)(hz:ys.length<=a4) :
  Inv X pins σ (upd H s.heap.objs.size (.lst ys)) { s with heap:=s.heap.push { cls:=.type "list",data:=.seq cH.toArray },toks:=t' } :=
 I.laid (fun _ _ q=>aP _ q) (a6 _) ⟨hz,cH,0,hv,cT _ rfl⟩
theorem Inv.Jt (I:Inv X pins σ H s) (hH:H l=some (.lst xs)):xs.length<=a4/\∃ (cH:List Value) (n:Nat),Vals xs cH/\xs.length=cH.length/\s.heap.get? l=some { cls:=.type "list",data:=.seq cH.toArray n }:=by
 obtain⟨z,cH,n,r,e⟩:=I.dn l _ hH;exact⟨z,cH,n,r,r.length,e⟩
end
section
variable {X:Cx}
noncomputable def CN:V->List V->Hp->VK->Prop:=fun x vs H Q=>∃ l xs y,x=.ref l/\vs=[y]/\H l=some (.lst xs)/\xs.length < a4/\Q .gR (upd H l (.lst (xs++[y])))
theorem tu:Ow X "list.append" CN:=by
 intro pins s σ H x vs v us Q I rx rv h;obtain⟨l,xs,y,rfl,rfl,hH,hz,q⟩:=h;cases rx;obtain⟨u,rfl,ru⟩:=rv.one;obtain⟨z,cH,n,r,hl,e⟩:=I.Jt hH;refine call_meets F.slot_list_append ⟨_,e,rfl⟩ F.entry_list_append (F.args_list_append_2 _ _) (PySem.list_append l cH.toArray n u (by rw [aZ]; lia)) ⟨e,?_⟩;refine⟨.gR,_,I.Ju (its':=cH++[u]) hH e (by simp) (r.append (.cons ru .nil)) ?_,rfl,q⟩;rw [cb,om];lia
end
section
variable {κ:Type} [DecidableEq κ]
noncomputable def iC(aS:List (κ×V))(k:κ):Option V:=(aS.find? fun kv=>decide (kv.1=k)).map (·.2)
noncomputable def putK(aS:List (κ×V))(k:κ)(v:V):List (κ×V) :=
 if (aS.any fun kv=>decide (kv.1=k))=true then aS.map (fun kv=>if kv.1=k then (kv.1,v) else kv) else aS++[(k,v)]
theorem lh{p:κ×V}{r:List (κ×V)}{k:κ}(e:p.1=k):iC (p :: r) k=some p.2:=by simp [iC,eE,e]
theorem lj{p:κ×V}{r:List (κ×V)}{k:κ}(e:¬ p.1=k):iC (p :: r) k=iC r k:=by simp [iC,eE,e]
theorem vh(k:κ):∀ aS:List (κ×V),(aS.any fun kv=>decide (kv.1=k))=(iC aS k).isSome
 | []=>rfl
 | p :: r=>by
  rw [mz];by_cases e:p.1=k
  ·simp only [lh e,decide_eq_true e,Bool.true_or,Option.isSome_some]
  ·rw [lj e,decide_eq_false e,zB]; exact vh k r
theorem pB(aS:List (κ×V))(k:κ)(v:V):(putK aS k v).length<=aS.length+1:=by
 unfold putK;split
 ·rw [bQ]; lia
 ·rw [cb,aj,aq]; lia
theorem kZ.y7{o:Option V}{u:Option Value}(r:kZ o u):o.isSome=u.isSome:=by
 cases o with
 | none=>cases u with
  | none=>rfl
  | some _=>exact(show False from r).elim
 | some _=>cases u with
  | none=>exact(show False from r).elim
  | some _=>rfl
theorem kZ.getD{o:Option V}{u:Option Value}{d:V}{d':Value}(r:kZ o u)(rd:RelV d d'):RelV (o.getD d) (u.getD d'):=by
 cases o with
 | none=>cases u with
  | none=>exact rd
  | some _=>exact(show False from r).elim
 | some _=>cases u with
  | none=>exact(show False from r).elim
  | some _=>exact r
theorem KV.val{aS:List (κ×V)}{vs:List (κ×Value)}(r:KV aS vs)(k:κ):kZ (iC aS k) (zK vs k):=by
 unfold KV at r;induction r with
 | nil=>exact eR
 | @cons p q ps qs h t ih =>
  obtain⟨h1,h2⟩:=h;by_cases e:p.1=k
  ·have e':q.1=k:=h1.symm.trans e;have b:zK (q :: qs) k=some q.2:=by simp [zK,eE,e']
   rw [lh e,b]; exact h2
  ·have e':¬ q.1=k:=fun z=>e (h1.trans z);have b:zK (q :: qs) k=zK qs k:=by simp [zK,eE,e']
   rw [lj e,b]; exact ih
theorem KV.any{aS:List (κ×V)}{vs:List (κ×Value)}(r:KV aS vs)(k:κ):(aS.any fun kv=>decide (kv.1=k))=vs.any fun kv=>decide (kv.1=k):=by
 unfold KV at r;induction r with
 | nil=>rfl
 | cons h t ih=>rw [mz,mz,ih,h.1]
theorem KV.En{aS:List (κ×V)}{vs:List (κ×Value)}(r:KV aS vs)(k:κ){y:V}{u:Value}(ry:RelV y u) :
  KV (aS.map fun kv=>if kv.1=k then (kv.1,y) else kv) (vs.map fun kv=>if kv.1=k then (kv.1,u) else kv):=by
 unfold KV at r ⊢;induction r with
 | nil=>exact .nil
 | @cons p q ps qs h t ih =>
  rw [ax,ax];refine .cons ?_ ih;obtain⟨h1,h2⟩:=h;by_cases e:p.1=k
  ·rw [if_pos e,if_pos (h1.symm.trans e)]; exact⟨h1,ry⟩
  ·rw [if_neg e,if_neg (fun z=>e (h1.trans z))]; exact⟨h1,h2⟩
theorem KV.put{aS:List (κ×V)}{vs:List (κ×Value)}(r:KV aS vs)(k:κ){y:V}{u:Value}(ry:RelV y u):KV (putK aS k y) (stored vs k u):=by
 unfold putK stored;rw [r.any k];by_cases e:(vs.any fun kv=>decide (kv.1=k))=true
 ·rw [if_pos e,if_pos e]; exact r.En k ry
 ·rw [if_neg e,if_neg e]; exact Paired.snoc r ⟨rfl,ry⟩
theorem KV.length{aS:List (κ×V)}{vs:List (κ×Value)}(r:KV aS vs):aS.length=vs.length:=lV r
end
theorem yj{P:bx}{w:World}{k:Key}{u:Value}(r:RelV (kV k) u):(dm P w).is k u=true:=by
 cases k with
 | inl i=>obtain⟨t,e⟩:=(show ∃ t,u=c5 i t from r); subst e; exact vy P w i t
 | inr x=>obtain⟨t,e⟩:=(show ∃ t,u=zO x t from r); subst e; exact vx P w x t
theorem tH{P:bx}{w:World}:∀ {ks:List Key} {us:List Value},Vals (ks.map kV) us->ItemsAre (dm P w) ks us
 | [],_,r=>by rw [aO] at r; cases r; exact .nil
 | k :: ks,_,r=>by
  rw [ax] at r;cases r with
  | cons h t=>exact .cons (yj h) (tH t)
noncomputable abbrev KT(H:Hp):List (List Key×V)->List (List Key×Addr×Value)->Prop:=Paired fun p q=>p.1=q.1/\H q.2.1=some (.tup (p.1.map kV))/\RelV p.2 q.2.2
theorem KT.val{H:Hp}{aS:List (List Key×V)}{xs:List (List Key×Addr×Value)}(r:KT H aS xs)(k:List Key):kZ (iC aS k) ((atKey xs k).map (·.2)):=by
 induction r with
 | nil=>exact eR
 | @cons p q ps qs h t ih =>
  obtain⟨h1,_,h2⟩:=h;by_cases e:p.1=k
  ·have e':q.1=k:=h1.symm.trans e;have b:atKey (q :: qs) k=some q.2:=by simp [atKey,eE,e']
   rw [lh e,b]; exact h2
  ·have e':¬ q.1=k:=fun z=>e (h1.trans z);have b:atKey (q :: qs) k=atKey qs k:=by simp [atKey,eE,e']
   rw [lj e,b]; exact ih
theorem KT.En{H:Hp}{aS:List (List Key×V)}{xs:List (List Key×Addr×Value)}(r:KT H aS xs)(k:List Key){y:V}{u:Value}(ry:RelV y u) :
  KT H (aS.map fun kv=>if kv.1=k then (kv.1,y) else kv) (xs.map (putAt k u)):=by
 induction r with
 | nil=>exact .nil
 | @cons p q ps qs h t ih =>
  rw [ax,ax];refine .cons ?_ ih;obtain⟨h1,h2,h3⟩:=h;unfold putAt;by_cases e:p.1=k
  ·rw [if_pos e,if_pos (h1.symm.trans e)]; exact⟨h1,h2,ry⟩
  ·rw [if_neg e,if_neg (fun z=>e (h1.trans z))]; exact⟨h1,h2,h3⟩
theorem KT.put{H:Hp}{aS:List (List Key×V)}{xs:List (List Key×Addr×Value)}(r:KT H aS xs)(k:List Key){b:Addr}{y:V}{u:Value}(hb:H b=some (.tup (k.map kV)))(ry:RelV y u) :
  KT H (putK aS k y) (storedH xs k b u):=by
 have e:(aS.any fun kv=>decide (kv.1=k))=(atKey xs k).isSome:=by
  rw [vh,(r.val k).y7,Option.isSome_map]
 unfold putK storedH;rw [e];by_cases q:(atKey xs k).isSome=true
 ·rw [if_pos q,if_pos q]; exact r.En k ry
 ·rw [if_neg q,if_neg q]; exact Paired.snoc r ⟨rfl,hb,ry⟩
theorem KT.keeps{H H':Hp}{aS:List (List Key×V)}{xs:List (List Key×Addr×Value)}(r:KT H aS xs)(ht:∀ b ys,H b=some (.tup ys)->H' b=some (.tup ys)):KT H' aS xs :=
 Paired.GH r fun _ _ z=>⟨z.1,ht _ _ z.2.1,z.2.2⟩
section
variable {P:bx} {w:World} {H:Hp} {h:Heap} {a:Addr}
theorem DN{u:HO}(ok:nh P w H h)(e:Rd H a u):ft P w H h a u:=e.ok ok
theorem pG{aS:List (Key×V)}(ok:nh P w H h)(e:Rd H a (.dK aS)):aS.length<=a4/\(a == fG)=false/\∃ vs,KV aS vs/\h.DictOf (dm P w) a vs :=
 show ft P w H h a (.dK aS) from DN ok e
theorem tR{aS:List (Key×V)}(ok:nh P w H h)(e:H a=some (.dK aS)):aS.length<=a4/\(a == fG)=false/\∃ vs,KV aS vs/\h.DictOf (dm P w) a vs:=pG ok (.inl e)
theorem xm{ks:List Key}(ok:nh P w H h)(e:H a=some (.tup (ks.map kV))):(zL (dm P w)).is h ks a:=by
 obtain⟨_,cH,r,o,h1,h2,n,h3⟩:=(show ft P w H h a (.tup (ks.map kV)) from ok a _ e);exact⟨o,cH.toArray,n,h1,h2,h3,by simpa using tH r⟩
theorem vO{aS:List (List Key×V)}(ok:nh P w H h)(e:Rd H a (.dT aS)):aS.length<=a4/\(a == fG)=false /\
  ∃ xs,KT H aS xs/\h.DictOfH (zL (dm P w)) a xs:=by
 obtain⟨z,y,xs,r,o,es,ep,h1,h2,h3,h4,h5⟩:=(show ft P w H h a (.dT aS) from DN ok e);refine⟨z,y,xs,r,o,es,ep,h1,h2,h3,h4,fun x hx=>?_,h5⟩;have all:∀ {l:List (List Key×V)} {m:List (List Key×Addr×Value)},KT H l m->∀ x∈m,(zL (dm P w)).is h x.1 x.2.1:=by
  intro l m q;induction q with
  | nil=>intro x hx; exact nomatch hx
  | @cons p q ps qs hq t ih =>
   intro x hx;rcases List.mem_cons.mp hx with e | hx
   ·subst e;exact xm ok (by rw [<-hq.1]; exact hq.2.1)
   ·exact ih x hx
 exact all r x hx
theorem DV{aS:List (List Key×V)}(ok:nh P w H h)(e:H a=some (.dT aS)):aS.length<=a4/\(a == fG)=false /\
  ∃ xs,KT H aS xs/\h.DictOfH (zL (dm P w)) a xs:=vO ok (.inl e)
end
noncomputable def wa(H:Hp)(a:Addr)(y:V)(r:Option V):Prop :=
 (∃ aS k,Rd H a (.dK aS)/\y=kV k/\r=iC aS k)\/∃ aS k b,Rd H a (.dT aS)/\y=.ref b/\H b=some (.tup (k.map kV))/\r=iC aS k
noncomputable def zv(H:Hp)(a:Addr)(y v:V)(H':Hp):Prop :=
 (∃ aS k,H a=some (.dK aS)/\y=kV k/\aS.length < a4/\H'=upd H a (.dK (putK aS k v))) \/
 ∃ aS k b,H a=some (.dT aS)/\y=.ref b/\H b=some (.tup (k.map kV))/\aS.length < a4/\H'=upd H a (.dT (putK aS k v))
theorem wa.k{H:Hp}{a:Addr}{aS:List (Key×V)}{k:Key}(e:H a=some (.dK aS)):wa H a (kV k) (iC aS k):=.inl ⟨aS,k,.inl e,rfl,rfl⟩
theorem wa.t{H:Hp}{a b:Addr}{aS:List (List Key×V)}{k:List Key}(e:H a=some (.dT aS))(eb:H b=some (.tup (k.map kV))):wa H a (.ref b) (iC aS k):=.inr ⟨aS,k,b,.inl e,rfl,eb,rfl⟩
theorem zv.k{H:Hp}{a:Addr}{aS:List (Key×V)}{k:Key}{v:V}(e:H a=some (.dK aS))(hl:aS.length < a4):zv H a (kV k) v (upd H a (.dK (putK aS k v))):=.inl ⟨aS,k,e,rfl,hl,rfl⟩
theorem zv.t{H:Hp}{a b:Addr}{aS:List (List Key×V)}{k:List Key}{v:V}(e:H a=some (.dT aS))(eb:H b=some (.tup (k.map kV)))(hl:aS.length < a4) :
  zv H a (.ref b) v (upd H a (.dT (putK aS k v))):=.inr ⟨aS,k,b,e,rfl,eb,hl,rfl⟩
section
variable {X:Cx} {pins:List (Addr×Obj)} {σ:St} {H:Hp} {s:aw} {a:Addr} {y v:V} {u r:Value} {o:Option V} {A:dO} {E:Value->aw->Prop}
theorem Inv.big(I:Inv X pins σ H s):fG < s.heap.objs.size:=by
 have h:aX < s.heap.objs.size:=(I.mod.glob.keeps I.bk).lt;exact Nat.lt_trans (by decide) h
theorem oZ{Q:Value->aw->Prop}(hu:A.units+1 < cLine)(I:Inv X pins σ H s)(g:wa H a y (some v))(ry:RelV y u)(h:∀ w' s',Inv X pins σ H s'->RelV v w'->Q w' s') :
  wpAny (model X.prog X.w) A (getItem (.ref a) u) Q E s:=by
 rcases g with ⟨aS,k,e,ey,l⟩ | ⟨aS,k,b,e,ey,eb,l⟩
 ·subst ey;obtain⟨z,hd,vs,rel,dd⟩:=pG I.dn e;obtain⟨w',hw,qB⟩:=kZ.some_of (v:=v) (o:=zK vs k) (by rw [l]; exact rel.val k);exact wpAny_getItem_of (yj ry) dd.mapOf hw (h w' _ (I.tok _) qB)
 ·subst ey;cases (show u=ic b from ry);obtain⟨z,hd,xs,rel,dd⟩:=vO I.dn e;obtain⟨w',hw,qB⟩:=kZ.some_of (v:=v) (o:=(atKey xs k).map (·.2)) (by rw [l]; exact rel.val k);obtain⟨p,hp,zG⟩:=Option.map_eq_some_iff.mp hw;refine wpAny_getItem_heap (tupleKind_room_in1 hu) (xm I.dn eb) dd hp ?_;rw [zG];exact h w' _ (I.tok _) qB
theorem ql{h':Heap}{t':Nat}{ob:HO}(I:Inv X pins σ H s)(mu:HA (H a))(hs:oo a s.heap h')(he:∃ q,h'.get? a=some q)(new:ft X.prog X.w (upd H a ob) h' a ob) :
  Inv X pins σ (upd H a ob) { s with heap:=h',toks:=t' } :=
 I.write (x:=a) (e:=a) mu (.inl rfl) (fun b q hb z=>(hs.2 b hb).trans z) he new
theorem xB{P:bx}{w:World}{H':Hp}{h':Heap}{aS:List (Key×V)}{vs:List (Key×Value)}(z:aS.length<=a4)(hd:(a == fG)=false)(rel:KV aS vs)(dd:h'.DictOf (dm P w) a vs) :
  ft P w H' h' a (.dK aS):=⟨z,hd,vs,rel,dd⟩
theorem zj{H':Hp}{Q:Unit->aw->Prop}(hu:A.units+1 < cLine)(I:Inv X pins σ H s)(g:zv H a y v H')(ry:RelV y u)(rv:RelV v r)(h:∀ s',Inv X pins σ H' s'->Q () s') :
  wpAny (model X.prog X.w) A (setItem (.ref a) u r) Q E s:=by
 rcases g with ⟨aS,k,e,ey,l,eH⟩ | ⟨aS,k,b,e,ey,eb,l,eH⟩
 ·subst ey eH;obtain⟨z,hd,vs,rel,dd⟩:=tR I.dn e;have hz:vs.length<=a4:=by rw [<-rel.length]; exact z
  have hl:(putK aS k v).length<=a4:=by have:=pB aS k v; lia
  refine wpAny_setItem_pairs (hsz:=hz) (yj ry) dd fun h' FN hs=>h _ ?_;have he:∃ q,h'.get? a=some q:=let ⟨q,_,_,hq,_⟩:=FN; ⟨q,hq⟩
  exact ql I (by rw [e]; exact eR) hs he (xB hl hd (rel.put k rv) FN)
 ·subst ey eH;cases (show u=ic b from ry);obtain⟨z,hd,xs,rel,dd⟩:=DV I.dn e;have hz:xs.length<=a4:=by rw [<-lV rel]; exact z
  have hl:(putK aS k v).length<=a4:=by have:=pB aS k v; lia
  refine wpAny_setItem_heap (hsz:=hz) (tupleKind_room_in1 hu) (xm I.dn eb) dd fun h' FN hs=>h _ ?_;obtain⟨q,es,ep,hq,h2,h3,h4,_,h5⟩:=FN;refine ql I (by rw [e]; exact eR) hs ⟨q,hq⟩ ⟨hl,hd,_,(rel.put k eb rv).keeps fun c ys ec=>?_,q,es,ep,hq,h2,h3,h4,h5⟩;rw [bK (GD ec e (fun z=>nomatch z))];exact ec
end
section
variable {X:Cx} {pins:List (Addr×Obj)} {σ:St} {H:Hp} {s:aw} {a:Addr} {aS:List (Key×V)} {k:Key} {u:Value} {A:dO} {E:Value->aw->Prop}
theorem DW {Q:Value->aw->Prop} (I:Inv X pins σ H s) (e:Rd H a (.dK aS)) (h:∀ t s',Inv X pins σ H s'->Q (.int aS.length t) s'):wpAny (model X.prog X.w) A (call (.builtin "len") [.ref a]) Q E s:=by
 obtain⟨z,hd,vs,rel,dd⟩:=pG I.dn e;refine call_len_dict hd dd (by rw [<-rel.length]; rw [cM] at z; lia) ?_;rw [<-rel.length];exact h _ _ (I.tok _)
theorem Dt{Q:Bool->aw->Prop}(I:Inv X pins σ H s)(e:Rd H a (.dK aS))(h:∀ s',Inv X pins σ H s'->Q (!aS.isEmpty) s'):wpAny (model X.prog X.w) A (truthy (.ref a)) Q E s:=by
 obtain⟨z,hd,vs,rel,dd⟩:=pG I.dn e;refine wD hd dd (by rw [<-rel.length]; rw [cM] at z; lia) ?_;have q:aS.isEmpty=vs.isEmpty:=by cases rel <;> rfl
 rw [<-q];exact h _ (I.tok _)
end
theorem lP {X:Cx} {pins:List (Addr×Obj)} {σ:St} {H:Hp} {s:aw} {a:Addr} {y:V} {o:Option V} (I:Inv X pins σ H s) (g:wa H a y o):s.TypeIs (.ref a) "dict":=by
 rcases g with ⟨aS,k,e,_,_⟩ | ⟨aS,k,b,e,_,_,_⟩
 ·obtain⟨_,_,vs,_,dd⟩:=pG I.dn e;exact dd.typeIs
 ·obtain⟨_,_,xs,_,dd⟩:=vO I.dn e;exact dd.typeIs
theorem Bw {P:bx} {w:World} {H:Hp} (h:Heap) (hb:fG < h.objs.size):ft P w H (h.push { cls:=.type "dict",data:=.dict #[] }) h.objs.size (.dK []) :=
 ⟨c6 _,beq_eq_false_iff_ne.mpr (pe (cx hb)),[],.nil,Heap.DictOf.new h⟩
noncomputable def Ei:TE:=fun _ H Q=>∀ p,H p=none->Q (.ref p) (upd H p (.dK []))
section
variable {X:Cx} {pos:Pos}
theorem AN:PE X (.Dict [] [] pos) Ei:=fun pins s σ H Q I h =>
 wpAny_Dict_empty ⟨.ref s.heap.objs.size,_,I.laid (a:=s.heap.objs.size) (o:=.dK []) (t':=s.toks) (fun _ _ q=>aP _ q) (a6 _) (Bw s.heap I.big),rfl,h _ (I.dn.fresh (a6 _))⟩
end
structure M1(X:Cx)(o:Expr)(m:Str)(apos:Pos)(e:Expr)(i7:Pos):Prop where
 base:kW o m X.env (eval o X.env)=eval o X.env
 LD:((ib i7 (bw [e] X.env)).all (fun x=>!x.1)&&(backToKw i7 (t4 [] X.env)).all (fun x=>x.1.isSome)
  && decide (([e]:List Expr).length+([]:List zT).length+(if ([]:List zT).isEmpty then 0 else 1) < 30))=true
 line:(apos.endLine == i7.line)=true
 trees:ib i7 (bw [e] X.env)=[(false,eval e X.env)]
structure M2(X:Cx)(o:Expr)(m:Str)(apos:Pos)(e f:Expr)(i7:Pos):Prop where
 base:kW o m X.env (eval o X.env)=eval o X.env
 LD:((ib i7 (bw [e,f] X.env)).all (fun x=>!x.1)&&(backToKw i7 (t4 [] X.env)).all (fun x=>x.1.isSome)
  && decide (([e,f]:List Expr).length+([]:List zT).length+(if ([]:List zT).isEmpty then 0 else 1) < 30))=true
 line:(apos.endLine == i7.line)=true
 trees:ib i7 (bw [e,f] X.env)=[(false,eval e X.env),(false,eval f X.env)]
noncomputable def OA(H:Hp)(a:Addr):Prop:=(∃ aS,Rd H a (.dK aS))\/∃ aS,Rd H a (.dT aS)
theorem A5{X:Cx}{pins:List (Addr×Obj)}{σ:St}{H:Hp}{s:aw}{a:Addr}(I:Inv X pins σ H s)(d:OA H a) :
  s.TypeIs (.ref a) "dict"/\(∀ b,ic a=.ref b->∃ ob,s.heap.get? b=some ob/\ob.dict=none)/\(a == fG)=false:=by
 rcases d with ⟨aS,e⟩ | ⟨aS,e⟩
 ·obtain⟨_,hd,vs,_,dd⟩:=pG I.dn e;refine⟨dd.typeIs,fun b q=>?_,hd⟩;cases q;obtain⟨ob,_,_,h1,h2,_⟩:=dd;exact⟨ob,h1,h2.2.1⟩
 ·obtain⟨_,hd,xs,_,dd⟩:=vO I.dn e;refine⟨dd.typeIs,fun b q=>?_,hd⟩;cases q;obtain⟨ob,_,_,h1,h2,_⟩:=dd;exact⟨ob,h1,h2.2.1⟩
end L2
namespace LV
open PySem PySem.W PySem.Calls PyProof.Rows
theorem pR{P:mx}{h:Heap}:∀ (ns:List Int) (vs:List Value),WellAll P h vs (ns.map WData.int)->ka vs ns:=by
 intro ns;induction ns with
 | nil =>
  intro vs w;rw [aO] at w;cases w;exact .nil
 | cons n ns ih =>
  intro vs w;rw [ax] at w;cases w with
  | cons a b =>
   cases a;exact .cons _ _ (ih _ b)
theorem yO{l:OpenLaw}{n:Nat}(hn:l.most=some n){P:mx}{h:Heap}{args:List WData}{vals:List Value}
  (Bc:l.row.toRowW.claim.pre args=true) (JI:WellAll P h vals args) :
  ∃ a vs ns,vals=[ic a]/\args=[WData.list (ns.map WData.int)]/\h.get? a=some { cls:=.type "list",data:=.seq vs.toArray }/\ka vs ns/\ns.length<=n:=by
 have MF:WShape.hasAll [] args [.list .int]=true:=(pre_splitW Bc).1;have hc:l.pre.holds [] { args:=args } = true:=(pre_splitW Bc).2;obtain⟨d,r,rfl,h1,h2⟩:=hasAllW_cons MF;obtain rfl:=hasAllW_nil h2;obtain⟨xs,rfl,h3⟩:=hasW_list h1;obtain⟨ns,rfl⟩:=items_int h3;have hlen:ns.length<=n:=by
  unfold OpenLaw.pre at hc;have h4:(WTm.not (.lt (.lit (.int (n:Int))) (.len (.arg 0)))).holds [] { args:=[.list (ns.map .int)] } = true:=by
   have h4:=(holds_andW hc).1;rw [hn] at h4;exact h4
  have h5:=condW_of h4 (w_not (w_lt w_lit (w_len_list (w_arg rfl))));rw [bQ] at h5;refine Nat.le_of_not_lt fun q=>?_;have q':(n:Int) < ((ns.length:Nat):Int):=by lia
  first
   | (rw [decide_eq_true q'] at h5; exact absurd h5 (by decide))
   | (simp at h5; lia)
 cases JI with
 | cons w1 w2 =>
  cases w2;cases w1 with
  | list ho E3=>exact⟨_,_,ns,rfl,rfl,ho,pR ns _ E3,hlen⟩
theorem yR(l:OpenLaw)(args:List WData):l.row.toRowW.claim.post args (.bool true) args=true :=
 postW_of (r:=l.row.toRowW) (X:=(true == true))
  (show WShape.has [] (.bool true) .bool=true by first | rfl | decide | simp [WShape.has,WShape.arms,WShape.armsAll])
  (show (WTm.eq .res (.lit (.bool true))).value [] { args:=args,res:=some (.bool true),after:=args } = some (.bool (true == true)) from w_eq_bool (w_res rfl) w_lit) rfl
theorem v7{l:OpenLaw}{n:Nat}{q:bx}{loose:List Str}{XP:(Str->Option Value)->Heap->Prop}{YP:World->Heap->Prop}{d:DefRec}
  (hn:l.most=some n) (Hf:d.params.defaults=[])
  (call:∀ (w:World) (je dG:aw) (mg mb:Str->Option Value) (fa:Addr) (o:Obj) (pm cd doc:Value) (a:Addr) (vs:List Value) (ns:List Int),
   Ground q loose [] XP w je mg mb dG.heap->YP w dG.heap ->
   dG.heap.get? fa=some o->o.data=.func (docDef d.name d.params d.body d.scope pm cd doc)->dG.heap.CodeRec cd d.name->mg d.name=some (.ref fa) ->
   dG.heap.get? a=some { cls:=.type "list",data:=.seq vs.toArray }->ka vs ns->ns.length<=n->dG.gens=#[] ->
   qp (model l.prog w) wH (.call (.ref fa) ⟨[.ref a],[]⟩) (fun r s'=>r=.ok (.ret (.bool true))/\OldK dG.heap s'.heap/\s'.os=dG.os/\ub s'.gens) dG) :
  WalkO q loose XP YP l.row.toRowW d [] (fun f vs=>xQ f vs):=by
 intro w je dG mg mb G Y fa o pm cd doc dV kV ho hd yu hD G0 hg args vals as Bc MT OL JI OP;obtain rfl:dV=.none:=Dflts.none hD Hf;obtain rfl:kV=.none:=Dflts.noKw hD;obtain⟨a,vs,ns,rfl,rfl,EW,hints,hlen⟩:=yO hn Bc JI;refine enter_call (xO (call w je dG mg mb fa o pm cd doc a vs ns G Y ho (fd_plain hd) yu G0 EW hints hlen hg) fun r s' hq=>?_);obtain⟨rfl,h2,h3,h4⟩:=hq;exact⟨.inl ⟨.bool true,.bool true,[],rfl,fun _=>rfl,.bool true,yR l _,fun _=>⟨List.Pairwise.nil,fun _ hm=>(nomatch hm)⟩⟩,h2,h3,h4⟩
end LV
namespace L2
open PySem PySem.Spec PyProof.Rows
theorem sY:∀ {vs:List Value} {ns:List Int},ka vs ns->Vals (ns.map V.int) vs
 | _,_,.nil=>.nil
 | _,_,.cons n t h=>.cons ⟨t,rfl⟩ (sY h)
noncomputable def DF(H:Hp):Prop:=∀ b,H b=none\/∃ o xs,H b=some (.kQ o (.lst xs))
theorem A0{P:bx}{w:World}{K:ah}{mg mb:Str->Option Value}{CX:yD}{k:Nat}{fa a:Addr}{fd:ay}{x:Str}{sp:Sp}{dG:aw}{vs:List Value}{ns:List Int}
  (KX:K.In dG.heap) (su:dG.heap.Ns aX mg) (hb:dG.heap.Ns builtinsNs mb) (M6:∀ x:Str,x≠"__name__"->mb x=eO x) (J0:dG.heap.NoLimit) (hg:dG.gens=#[])
  (ha:dG.heap.get? a=some { cls:=.type "list",data:=.seq vs.toArray }) (hi:ka vs ns) (hl:ns.length<=a4) (hr:gB k wH)
  (F:∀ base:Heap,K.In base->base.Ns aX mg->dW P w K mg base CX k fa fd [x] sp) (Hj:∀ (s:aw) (u:Value),zV s fd ⟨[u],[]⟩ [(x,u)])
  (DQ:∀ H:Hp,DF H->p3 K H a (ns.map V.int)->sp [.ref a] H (fun v _=>v=.bl true) fun _ _ _=>False)
  (Km:∀ H e s',CX [] H dG (fun _ _ _=>False) e s'->False) :
  qp (model P w) wH (.call (.ref fa) ⟨[.ref a],[]⟩) (fun r s'=>r=.ok (.ret (.bool true))/\OldK dG.heap s'.heap/\s'.os=dG.os/\ub s'.gens) dG:=by
 have rv:=sY hi;have Jw:=hi.length;have core:∀ H:Hp,DF H->p3 K H a (ns.map V.int)->nh P w H dG.heap->(∀ b,H b≠none->b=a)->(H a≠none->K.lookup a=none) ->
   qp (model P w) wH (.call (.ref fa) ⟨[.ref a],[]⟩) (fun r s'=>r=.ok (.ret (.bool true))/\OldK dG.heap s'.heap/\s'.os=dG.os/\ub s'.gens) dG:=by
  intro H hO hS dn hA hK;have yA:∀ {b:Addr} {o:Obj},dG.heap.get? b=some o->H b=none->(uC dG.heap H).get? b=some o:=fun e n=>Bf e n;have GC:∀ {b:Addr} {o:Obj} {es:Array DictEntry} {ep:Nat},dG.heap.get? b=some o->o.data=.dict es ep->H b=none:=fun {b o es ep} e d=>by
   cases q:H b with
   | none=>rfl
   | some u =>
    have e':b=a:=hA b (by rw [q]; simp);subst e';rw [ha] at e; cases e;have d':Data.seq vs.toArray _=Data.dict es ep:=d;cases d'
  have HN:∀ {b:Addr} {m:Str->Option Value},dG.heap.Ns b m->(uC dG.heap H).Ns b m:=fun {b m} ⟨o,es,ep,e,d,r⟩=>⟨o,es,ep,yA e (GC e d),d,r⟩;have Lz:K.In (uC dG.heap H):=fun b o e=>yA (KX b o e) (by
   cases q:H b with
   | none=>rfl
   | some u =>
    have e':b=a:=hA b (by rw [q]; simp);subst e';rw [hK (by rw [q]; simp)] at e; cases e)
  have hM:Mod K mg (uC dG.heap H):=⟨Lz,HN su,⟨mb,HN hb,M6⟩,let ⟨mc,h1,h2⟩:=J0; ⟨mc,HN h1,h2⟩⟩;have e0:xK P w K mg (uC dG.heap H) wH [] dG H:=⟨rfl,hM,fun b o e=>Dc e,Nat.le_of_eq (zb _ _),trivial,fun b hb=>absurd (show b∈([]:List Addr) from hb) (by simp),dn,.of_eq hg⟩;refine xO ((F _ Lz (HN su)).run wH [] dG H ⟨[.ref a],[]⟩ [.ref a] [.ref a] _ _ hr e0 (Hj dG (.ref a)) (.cons rfl .nil) (DQ H hO hS)) fun r s' h=>?_;cases r with
  | error e=>exact(Km H e s' h).elim
  | ok fl =>
   cases fl with
   | next=>exact bg h
   | brk=>exact bg h
   | cont=>exact bg h
   | ret u =>
    obtain⟨v,H',os,bare,un,JS,r',q⟩:=h;have q':v=.bl true:=q;subst q';obtain rfl:u=xP true:=r';refine⟨rfl,OldK.of_keep fun b o e=>?_,os,bare⟩;cases q:H b with
    | none=>exact un.keep b o e q (by intro z; exact absurd (show b∈([]:List Addr) from z) (by simp)) (by simp)
    | some u =>
     rcases hO b with z | ⟨ob,xs,z⟩
     ·rw [q] at z; cases z
     ·have z2:=un.qX b ob _ z;obtain⟨e1,_⟩:=dn b _ z;obtain⟨e2,_⟩:=JS b _ z2;rw [e] at e1; cases e1;exact e2
 cases hk:K.lookup a with
 | some o =>
  have e:=KX a o hk;rw [ha] at e;cases e;refine core (fun _=>none) (fun _=>.inl rfl) (.inr ⟨_,vs.toArray,_,hk,rfl,rfl,rfl,by rw [aZ,Jw]; exact hl,by simpa using rv⟩) (fun b u z=>by have z':(none:Option HO)=some u:=z; cases z') (fun b z=>absurd rfl z) fun z=>absurd rfl z
 | none =>
  refine core (fun b=>if b=a then some (.kQ { cls:=.type "list",data:=.seq vs.toArray } (.lst (ns.map V.int))) else none) (fun b=>?_) (.inl (.inr ⟨{ cls:=.type "list",data:=.seq vs.toArray },if_pos rfl⟩)) (fun b u z=>?_) (fun b z=>?_) fun _=>hk
  ·by_cases hb:b=a
   ·exact .inr ⟨_,_,if_pos hb⟩
   ·exact .inl (if_neg hb)
  ·by_cases hb:b=a
   ·have z':=(if_pos hb).symm.trans z;cases z';subst hb;exact⟨ha,by rw [bQ]; exact hl,vs,_,rv,ha⟩
   ·have z':=(if_neg hb).symm.trans z;cases z'
  ·by_cases hb:b=a
   ·exact hb
   ·exact absurd (if_neg hb) z
theorem Cw{l:t7}{n k:Nat}{q:bx}{loose:List Str}{XP:(Str->Option Value)->Heap->Prop}{YP:World->Heap->Prop}{d:DefRec}{K:mx->ah}{CX:World->yD}{sp:World->Sp}{x:Str}
  (hn:l.most=some n) (HW:n<=a4) (Hf:d.params.defaults=[]) (hr:gB k wH)
  (hY:∀ (w:World) (h:Heap),YP w h->(K w.params).In h)
  (F:∀ (w:World) (mg:Str->Option Value) (fa:Addr) (h:Heap),(K w.params).In h->h.Ns aX mg->mg d.name=some (.ref fa) ->
   ∃ fd:ay,(∀ (s:aw) (u:Value),zV s fd ⟨[u],[]⟩ [(x,u)]) /\
    ∀ base:Heap,(K w.params).In base->base.Ns aX mg->dW l.prog w (K w.params) mg base (CX w) k fa fd [x] (sp w))
  (DQ:∀ (w:World) (H:Hp) (a:Addr) (ns:List Int),ns.length<=n->DF H->p3 (K w.params) H a (ns.map V.int)->sp w [.ref a] H (fun v _=>v=.bl true) fun _ _ _=>False)
  (Km:∀ (w:World) (H:Hp) (s:aw) (e:Value) (s':aw),CX w [] H s (fun _ _ _=>False) e s'->False) :
  PySem.W.WalkO q loose XP YP l.row.toRowW d [] (fun f vs=>xQ f vs):=by
 refine LV.v7 hn Hf fun w je dG mg mb fa o pm cd doc a vs ns G Y ho hd yu G0 EW hints hlen hg=>?_;have KX:=hY w _ Y;obtain⟨fd,hb,hF⟩:=F w mg fa _ KX G.T.g G0;exact A0 KX G.T.g G.T.b G.T.builtins G.T.nolimit hg EW hints (da hlen HW) hr hF hb (fun H hO hS=>DQ w H a ns hlen hO hS) fun H e s'=>Km w H dG e s'
end L2
/- OT Ox Ig (shape; OW,My.* are K1):
   My.O0: a structure of K4 addresses L5 L1 Ln names (classes,FJ); My.Txt K t: a structure (Prop) of K4 equations over K;
   My.Iv:{K} {implicit addresses ..} (e1:nsIn K aX "law" = some (some (.ref f))) (e2:K.lookup f=some ⟨oc,od,.func (fnOf "law" "law" params body scope dV kV doc pm an jt ct),sl⟩) (e3:codeIn K jt "law" = true) ..:∃ t,My.Txt K t
(K4 tactic k_is has no namespace: write k_is) -/
namespace L2
open PySem PySem.Spec PyProof.Rows
noncomputable def gq(s:Stmt):Arguments:=match s with
 | .FunctionDef _ a _ _ _ _ _ _ _ _=>a
 | _=>{ posonlyargs:=[],args:=[],vararg:=none,kwonlyargs:=[],kw_defaults:=[],kwarg:=none,defaults:=[] }
noncomputable def ff(s:Stmt):List Stmt:=match s with
 | .FunctionDef _ _ b _ _ _ _ _ _ _=>b
 | _=>[]
noncomputable def aU(s:Stmt):Scope:=match s with
 | .FunctionDef _ _ _ _ _ _ sc _ _ _=>sc
 | _=>{ kind:=.function,names:=[],isGenerator:=false,isCoroutine:=false }
noncomputable abbrev fT:yD:=fun _ _ _ _ _ _=>False
noncomputable abbrev E0:XK:=fun _ _ _=>False
theorem ya{X:Cx}:Passes fT X E0:=fun _ _ _ _ _ _ _ h=>h.elim
structure k6(K:ah)(x qual:Str)(st:Stmt)(f:Addr)(fd:ay):Prop where
 ex:∃ (oc:Value) (od:Option Addr) (kV doc pm:Value) (an:Option Addr) (jt ct:Value) (yU:Array (Option Value)),
  fd=fZ x qual (gq st) (ff st) (aU st) .none kV doc pm an jt ct/\K.lookup f=some ⟨oc,od,.func fd,yU⟩/\vf K jt qual=true
 kp:dh K (.ref f)=true
section
variable {P:bx} {w:World} {K:ah} {mg:Str->Option Value} {base:Heap}
theorem k6.ok{x qual:Str}{st:Stmt}{f:Addr}{fd:ay}{N ps:List Str}{k:Nat}{sp:Sp}(F:k6 K x qual st f fd)(S:bO N ps (aU st))(len:∀ vs H Q E,sp vs H Q E->vs.length=ps.length)
  (Bh:∀ (jt:Value) (A:dO) (outer:List Env) (s:aw) (H:Hp) (vs:List V) (Q:VK) (E:XK),gB k (A.deeper (vd qual (aU st) s.heap.objs.size f jt))->sp vs H Q E ->
   ∃ t,FQ (vW fT P w K mg base N qual (aU st) f jt A outer s H E).FE (ff st) t/\t { nx:=fun _ H'=>Q .gR H',rt:=Q } (start N vs) H):dW P w K mg base fT (k+1) f fd ps sp:=by
 obtain⟨oc,od,kV,doc,pm,an,jt,ct,yU,rfl,lk,yu⟩:=F.ex;refine Hq lk yu S len fun A outer s H vs Q E hr DQ=>?_;obtain⟨t,h,q⟩:=Bh jt A outer s H vs Q E hr DQ;exact⟨t,h.FE,q⟩
theorem k6.binds{x qual:Str}{st:Stmt}{f:Addr}{fd:ay}{ps:List Str}(F:k6 K x qual st f fd)
  (h:∀ (kV doc pm:Value) (an:Option Addr) (jt ct:Value) (us:List Value),us.length=ps.length->bindArgs (fZ x qual (gq st) (ff st) (aU st) .none kV doc pm an jt ct) ⟨us,[]⟩=pure (ps.zip us)):Binds K fd ps []:=by
 obtain⟨oc,od,kV,doc,pm,an,jt,ct,yU,rfl,lk,yu⟩:=F.ex;exact .all (h kV doc pm an jt ct)
theorem Br{x qual:Str}{st:Stmt}{f:Addr}{oc:Value}{od an:Option Addr}{yU:Array (Option Value)}{kV doc pm jt ct:Value}(l:K.lookup f=some ⟨oc,od,.func (fZ x qual (gq st) (ff st) (aU st) .none kV doc pm an jt ct),yU⟩)
  (c:vf K jt qual=true) (k:dh K (.ref f)=true):k6 K x qual st f (fZ x qual (gq st) (ff st) (aU st) .none kV doc pm an jt ct):=⟨⟨oc,od,kV,doc,pm,an,jt,ct,yU,rfl,l,c⟩,k⟩
end
end L2
set_option autoImplicit false
section
namespace K2
open PySem (Str)
inductive D where
 | gR | bl (b:Bool) | int (i:Int) | str (x:Str) | tup (ds:List D) | dD (ds:List D) | rY (aS:List (D×D)) | ref (a:Nat) | exc (c:Str)
 deriving Inhabited
inductive GO where
 | lst (ds:List D)
 | gT (aS:List (D×D))
 | ins (c:Str) (fs:List (Str×D))
noncomputable abbrev Gp:=Nat->Option GO
noncomputable def cy(G:Gp)(a:Nat)(o:GO):Gp:=fun b=>if b=a then some o else G b
theorem aG{G:Gp}{a:Nat}{o:GO}:cy G a o a=some o:=by unfold cy; rw [if_pos rfl]
theorem gj{G:Gp}{a b:Nat}{o:GO}(h:b≠a):cy G a o b=G b:=by unfold cy; rw [if_neg h]
noncomputable abbrev SZ:Nat:=16777216
structure Ex where
 cls:Str
 Nk:List (Str×D)
noncomputable abbrev jh:=Ex->Gp->Prop
noncomputable abbrev fM:=List (Option D)
noncomputable abbrev DK:=D->Gp->Prop
noncomputable abbrev fz:=jh->fM->Gp->DK->Prop
noncomputable abbrev v8:=jh->fM->Gp->(Bool->Gp->Prop)->Prop
noncomputable abbrev tX:=jh->fM->Gp->(List D->Gp->Prop)->Prop
structure ju where
 nx:fM->Gp->Prop
 rt:DK
 bk:fM->Gp->Prop
 ct:fM->Gp->Prop
noncomputable abbrev gC:=jh->ju->fM->Gp->Prop
noncomputable abbrev jb:=List D->Gp->DK->jh->Prop
noncomputable abbrev wC:=D->D->Gp->DK->Prop
noncomputable def zF(n:Nat)(i:Int):Option Nat:=if 0<=i then (if i < n then some i.toNat else none) else if -(n:Int)<=i then some (i+n).toNat else none
noncomputable def mG{α:Type}(xs:List α)(i:Int):Option α:=(zF xs.length i).bind fun j=>xs[j]?
noncomputable def gH(n d:Nat):Option Int->Nat
 | none=>d
 | some v=>if v < 0 then (v+(n:Int)).toNat else min v.toNat n
noncomputable def cut{α:Type}(xs:List α)(lo hi:Option Int):List α:=(xs.drop (gH xs.length 0 lo)).take (gH xs.length xs.length hi - gH xs.length 0 lo)
mutual
noncomputable def iG:D->D->Bool
 | .gR,.gR=>true
 | .bl a,.bl b=>a == b
 | .bl a,.int b=>(if a then 1 else 0) == b
 | .int a,.bl b=>a == (if b then 1 else 0)
 | .int a,.int b=>a == b
 | .str a,.str b=>a == b
 | .tup a,.tup b=>gI a b
 | .dD a,.dD b=>gI a b
 | _,_=>false
noncomputable def gI:List D->List D->Bool
 | [],[]=>true
 | a :: r,b :: t=>iG a b&&gI r t
 | _,_=>false
end
mutual
noncomputable def nr:D->Bool
 | .ref _=>false
 | .exc _=>false
 | .rY _=>false
 | .str x=>x.cps.all (· < 0x110000)
 | .tup ds=>yW ds
 | .dD ds=>yW ds
 | _=>true
noncomputable def yW:List D->Bool
 | []=>true
 | d :: r=>nr d&&yW r
end
class inductive Sn (G:Gp):Nat->D->D->Prop
 | gR {n:Nat}:Sn G n .gR .gR
 | bl {n:Nat} (b:Bool):Sn G n (.bl b) (.bl b)
 | int {n:Nat} (i:Int):Sn G n (.int i) (.int i)
 | str {n:Nat} (x:Str) (h:x.cps.all (· < 0x110000)=true):Sn G n (.str x) (.str x)
 | vj {n:Nat}:Sn G (n+1) (.tup []) (.tup [])
 | kI {n:Nat} {d s:D} {ds ss:List D}:Sn G n d s->Sn G (n+1) (.tup ds) (.tup ss)->Sn G (n+1) (.tup (d :: ds)) (.tup (s :: ss))
 | wW {n:Nat}:Sn G (n+1) (.dD []) (.dD [])
 | qF {n:Nat} {d s:D} {ds ss:List D}:Sn G n d s->Sn G (n+1) (.dD ds) (.dD ss)->Sn G (n+1) (.dD (d :: ds)) (.dD (s :: ss))
 | ref {n:Nat} {a:Nat} {ds ss:List D}:G a=some (.lst ds)->Sn G n (.dD ds) (.dD ss)->Sn G n (.ref a) (.dD ss)
noncomputable abbrev SN:Nat:=8
theorem Sn.nr{G:Gp}{n:Nat}{d t:D}(h:Sn G n d t):K2.nr t=true:=by
 induction h with
 | gR=>rfl
 | bl b=>rfl
 | int i=>rfl
 | str x h=>exact h
 | vj=>rfl
 | kI _ _ A8 A7 =>
  show (K2.nr _&&K2.yW _)=true;rw [A8];exact A7
 | wW=>rfl
 | qF _ _ A8 A7 =>
  show (K2.nr _&&K2.yW _)=true;rw [A8];exact A7
 | ref _ _ ih=>exact ih
noncomputable def dw:D->Bool
 | .int _=>true
 | .str _=>true
 | _=>false
noncomputable def B4:D->Gp->Option Bool
 | .gR,_=>some false
 | .bl b,_=>some b
 | .int i,_=>some (i != 0)
 | .str x,_=>if x.length<=SZ then some ((x.length:Int) != 0) else none
 | .tup ds,_=>some (!ds.isEmpty)
 | .dD ds,_=>some (!ds.isEmpty)
 | .exc _,_=>none
 | .rY aS,_=>if (aS.all fun p=>dw p.1)=true then some (!aS.isEmpty) else none
 | .ref a,G=>match G a with
  | some (.lst ds)=>some (!ds.isEmpty)
  | some (.gT aS)=>if (aS.all fun p=>dw p.1)=true then some (!aS.isEmpty) else none
  | _=>none
noncomputable def ak(i:Nat):fz:=fun _ τ G Q=>match τ[i]? with
 | some (some d)=>Q d G
 | _=>False
noncomputable def dC(d:D):fz:=fun _ _ G Q=>Q d G
noncomputable def aL:tX:=fun _ _ G Q=>Q [] G
noncomputable def ai(a:fz)(r:tX):tX:=fun E τ G Q=>a E τ G fun x G1=>r E τ G1 fun xs G2=>Q (x :: xs) G2
noncomputable def g4(t:tX):fz:=fun E τ G Q=>t E τ G fun ds G1=>ds.length<=SZ/\Q (.tup ds) G1
noncomputable def jg(t:tX):fz:=fun E τ G Q=>t E τ G fun ds G1=>ds.length<=SZ/\∀ p,G1 p=none->Q (.ref p) (cy G1 p (.lst ds))
noncomputable def aI(r:wC)(a b:fz):fz:=fun E τ G Q=>a E τ G fun x G1=>b E τ G1 fun y G2=>r x y G2 Q
noncomputable def lS(G:Gp)(o:GO)(Q:DK):Prop:=∀ p,G p=none->Q (.ref p) (cy G p o)
noncomputable def MulOk(i j:Int):Prop:=(-(2 ^ 64) < i/\i < 2 ^ 64)\/(-(2 ^ 64) < j/\j < 2 ^ 64)
noncomputable def lF:D->Gp->Option (List D)
 | .dD ds,_=>some ds
 | .ref a,G=>match G a with
  | some (.lst ds)=>some ds
  | _=>none
 | _,_=>none
noncomputable def xE(x y:D)(G:Gp)(Q:DK):Prop:=match lF x G,lF y G with
 | some xs,some ys=>xs.length+ys.length<=SZ/\lS G (.lst (xs++ys)) Q
 | _,_=>False
noncomputable def oJ:wC
 | .int i,.int j,G,Q=>Q (.int (i+j)) G
 | .str a,.str b,G,Q=>a.length+b.length<=SZ/\Q (.str (a++b)) G
 | .tup a,.tup b,G,Q=>a≠[]/\a.length+b.length<=SZ/\Q (.tup (a++b)) G
 | x,y,G,Q=>xE x y G Q
noncomputable def Eo:wC
 | .int i,.int j,G,Q=>Q (.int (i - j)) G
 | _,_,_,_=>False
noncomputable def Es:wC
 | .int i,.int j,G,Q=>MulOk i j/\Q (.int (i * j)) G
 | _,_,_,_=>False
noncomputable def kg:wC
 | .int i,.int j,G,Q=>0 < j/\Q (.int (i % j)) G
 | _,_,_,_=>False
noncomputable def nJ:wC
 | .int i,.int j,G,Q=>0 < j/\j < 2 ^ 30/\Q (.int (i / j)) G
 | _,_,_,_=>False
noncomputable def ml(neg:Bool):wC:=fun x y G Q=>∃ a b,Sn G SN x a/\Sn G SN y b/\Q (.bl (if neg then !iG a b else iG a b)) G
noncomputable def lexLt:List Int->List Int->Bool
 | [],[]=>false
 | [],_ :: _=>true
 | _ :: _,[]=>false
 | x :: xs,y :: ys=>if x=y then lexLt xs ys else decide (x < y)
noncomputable def HI:wC
 | .int i,.int j,G,Q=>Q (.bl (decide (i < j))) G
 | .tup a,.tup b,G,Q=>∃ xs ys,a=xs.map D.int/\b=ys.map D.int/\Q (.bl (lexLt xs ys)) G
 | _,_,_,_=>False
noncomputable def itemsOf:D->Gp->Option (List D)
 | .tup ds,_=>some ds
 | .dD ds,_=>some ds
 | .ref a,G=>match G a with
  | some (.lst ds)=>some ds
  | _=>none
 | _,_=>none
noncomputable def mS:D->Bool
 | .tup ds=>ds.all dw
 | _=>false
noncomputable def gX(aS:List (D×D))(k:D):Bool:=(dw k&&aS.all fun p=>dw p.1)||(mS k&&aS.all fun p=>mS p.1)
noncomputable def look(aS:List (D×D))(k:D):Option D:=(aS.find? fun p=>iG p.1 k).map (·.2)
noncomputable def put(aS:List (D×D))(k v:D):List (D×D) :=
 if (aS.any fun p=>iG p.1 k)=true then aS.map (fun p=>if iG p.1 k=true then (p.1,v) else p) else aS++[(k,v)]
noncomputable def du:wC
 | .tup ds,.int i,G,Q=>(match mG ds i with
  | some d=>Q d G
  | none=>False)
 | .dD ds,.int i,G,Q=>(match mG ds i with
  | some d=>Q d G
  | none=>False)
 | .rY aS,k,G,Q=>gX aS k=true/\(match look aS k with
  | some d=>Q d G
  | none=>False)
 | .ref a,k,G,Q=>(match G a with
  | some (.lst ds)=>(match k with
   | .int i=>(match mG ds i with
    | some d=>Q d G
    | none=>False)
   | _=>False)
  | some (.gT aS)=>gX aS k=true/\(match look aS k with
   | some d=>Q d G
   | none=>False)
  | _=>False)
 | _,_,_,_=>False
noncomputable abbrev Hy:=jh->fM->Gp->(Option Int->Gp->Prop)->Prop
noncomputable def uO:Hy:=fun _ _ G Q=>Q none G
noncomputable def BC(t:fz):Hy:=fun E τ G Q=>t E τ G fun x G1=>match x with
 | .int i=>Q (some i) G1
 | _=>False
noncomputable def Gm:D->Option Int->Option Int->Gp->DK->Prop
 | .tup ds,lo,hi,G,Q=>¬ (gH ds.length 0 lo=0/\gH ds.length ds.length hi=ds.length)/\Q (.tup (cut ds lo hi)) G
 | .dD ds,lo,hi,G,Q=>lS G (.lst (cut ds lo hi)) Q
 | .ref a,lo,hi,G,Q=>(match G a with
  | some (.lst ds)=>lS G (.lst (cut ds lo hi)) Q
  | _=>False)
 | _,_,_,_,_=>False
noncomputable def Ks(a:fz)(lo hi:Hy):fz:=fun E τ G Q=>a E τ G fun x G1=>lo E τ G1 fun l G2=>hi E τ G2 fun h G3=>Gm x l h G3 Q
noncomputable def di(a:fz):v8:=fun E τ G Q=>a E τ G fun x G1=>match B4 x G1 with
 | some b=>Q b G1
 | none=>False
noncomputable def sM(a b:v8):v8:=fun E τ G Q=>a E τ G fun c G1=>if c=true then Q true G1 else b E τ G1 Q
noncomputable def i6(a:v8):v8:=fun E τ G Q=>a E τ G fun c G1=>Q (!c) G1
noncomputable def yx(a b:fz):fz:=fun E τ G Q=>a E τ G fun x G1=>match B4 x G1 with
 | some true=>b E τ G1 Q
 | some false=>Q x G1
 | none=>False
noncomputable def BE(a:fz):fz:=fun E τ G Q=>a E τ G fun x G1=>match B4 x G1 with
 | some c=>Q (.bl (!c)) G1
 | none=>False
noncomputable def cg(sp:jb)(t:tX):fz:=fun E τ G Q=>t E τ G fun ds G1=>sp ds G1 Q fun _ _=>False
noncomputable def sN(r:List D->Gp->DK->Prop)(t:tX):fz:=fun E τ G Q=>t E τ G fun ds G1=>r ds G1 Q
noncomputable def B3(x:D)(G:Gp):Prop:=match x with
 | .ref a=>(match G a with
  | some (.lst _)=>True
  | _=>False)
 | .dD _=>True
 | _=>False
noncomputable def sZ(x:D)(G:Gp):Prop:=match x with
 | .rY _=>True
 | .ref a=>(match G a with
  | some (.gT _)=>True
  | _=>False)
 | _=>False
noncomputable def jr(ty:D->Gp->Prop)(r:D->List D->Gp->DK->Prop)(o:fz)(t:tX):fz:=fun E τ G Q=>o E τ G fun x G1=>ty x G1/\t E τ G1 fun ds G2=>r x ds G2 Q
noncomputable def lenOf:D->Gp->Option Nat
 | .tup ds,_=>some ds.length
 | .dD ds,_=>some ds.length
 | .str x,_=>if x.length<=SZ then some x.length else none
 | .rY aS,_=>if (aS.all fun p=>dw p.1)=true then some aS.length else none
 | .ref a,G=>match G a with
  | some (.lst ds)=>some ds.length
  | some (.gT aS)=>if (aS.all fun p=>dw p.1)=true then some aS.length else none
  | _=>none
 | _,_=>none
noncomputable def mZ(ds:List D)(G:Gp)(Q:DK):Prop:=match ds with
 | [x]=>(match lenOf x G with
  | some n=>Q (.int (n:Int)) G
  | none=>False)
 | _=>False
noncomputable def FG(C:String):D->Gp->Option Bool
 | .gR,_=>some false
 | .bl _,_=>some (C == "bool" || C == "int")
 | .int _,_=>some (C == "int")
 | .str _,_=>some (C == "str")
 | .tup _,_=>some (C == "tuple")
 | .dD _,_=>some (C == "list")
 | .rY _,_=>some (C == "dict")
 | .exc _,_=>none
 | .ref a,G=>match G a with
  | some (.lst _)=>some (C == "list")
  | some (.gT _)=>some (C == "dict")
  | _=>none
noncomputable def vV(C:String)(a:fz):fz:=fun E τ G Q=>a E τ G fun x G1=>match FG C x G1 with
 | some b=>Q (.bl b) G1
 | none=>False
noncomputable def h8(x:D)(ds:List D)(G:Gp)(Q:DK):Prop:=match x,ds with
 | .ref a,[d]=>(match G a with
  | some (.lst xs)=>xs.length < SZ/\Q .gR (cy G a (.lst (xs++[d])))
  | _=>False)
 | _,_=>False
noncomputable def bc:gC:=fun _ K τ G=>K.nx τ G
noncomputable def cf(a b:gC):gC:=fun E K τ G=>a E { K with nx:=b E K } τ G
noncomputable def fV(a:fz):gC:=fun E K τ G=>a E τ G fun _ G1=>K.nx τ G1
noncomputable def bI(a:fz):gC:=fun E K τ G=>a E τ G K.rt
noncomputable def bT(c:v8)(a b:gC):gC:=fun E K τ G=>c E τ G fun k G1=>if k=true then a E K τ G1 else b E K τ G1
noncomputable def BF:gC:=fun _ _ _ _=>False
noncomputable abbrev tW:=jh->D->fM->Gp->(fM->Gp->Prop)->Prop
noncomputable abbrev uU:=jh->List D->fM->Gp->(fM->Gp->Prop)->Prop
noncomputable def bL(i:Nat):tW:=fun _ d τ G Q=>Q (τ.set i (some d)) G
noncomputable def Bo:uU:=fun _ ds τ G Q=>match ds with
 | []=>Q τ G
 | _=>False
noncomputable def pD(t:tW)(r:uU):uU:=fun E ds τ G Q=>match ds with
 | d :: ds=>t E d τ G fun pj G1=>r E ds pj G1 Q
 | _=>False
noncomputable def x3(o k d:D)(G:Gp)(Q:Gp->Prop):Prop:=match o with
 | .ref a=>(match G a with
  | some (.lst xs)=>(match k with
   | .int i=>(match zF xs.length i with
    | some j=>Q (cy G a (.lst (xs.set j d)))
    | none=>False)
   | _=>False)
  | some (.gT aS)=>gX aS k=true/\aS.length < SZ/\Q (cy G a (.gT (put aS k d)))
  | _=>False)
 | _=>False
noncomputable def zg(o k:fz):tW:=fun E d τ G Q=>o E τ G fun x G1=>k E τ G1 fun y G2=>x3 x y d G2 fun G3=>Q τ G3
noncomputable def c8(a:fz)(g:tW):gC:=fun E K τ G=>a E τ G fun x G1=>g E x τ G1 K.nx
noncomputable abbrev D0:=jh->fM->Gp->(List D->(Gp->Prop)->Gp->Prop)->Prop
noncomputable def A9(a:fz):D0:=fun E τ G R=>a E τ G fun x G1=>match x with
 | .tup ds=>R ds (fun _=>True) G1
 | .dD ds=>R ds (fun _=>True) G1
 | .ref p=>(match G1 p with
  | some (.lst ds)=>R ds (fun G2=>G2 p=some (.lst ds)) G1
  | _=>False)
 | _=>False
noncomputable def fJ(lo:Int)(n:Nat):List D:=(oA n).map fun (i:Nat)=>D.int (lo+(i:Int))
noncomputable def vF(a:fz):D0:=fun E τ G R=>a E τ G fun x G1=>match x with
 | .int n=>-(2 ^ 62)<=n/\n < 2 ^ 62/\R (fJ 0 n.toNat) (fun _=>True) G1
 | _=>False
noncomputable def Ba(a b:fz):D0:=fun E τ G R=>a E τ G fun x G1=>b E τ G1 fun y G2=>match x,y with
 | .int i,.int j=>(-(2 ^ 62)<=i/\i < 2 ^ 62/\-(2 ^ 62)<=j/\j < 2 ^ 62)/\R (fJ i (j - i).toNat) (fun _=>True) G2
 | _,_=>False
noncomputable def mF(g:tW)(body:gC)(ok:Gp->Prop):List D->gC
 | []=>fun _ K τ G=>ok G/\K.nx τ G
 | d :: r=>fun E K τ G=>ok G/\g E d τ G fun pj G1=>body E { K with nx:=mF g body ok r E K,ct:=mF g body ok r E K,bk:=K.nx } pj G1
noncomputable def rz(i:D0)(g:tW)(body:gC):gC:=fun E K τ G=>i E τ G fun ds ok G1=>mF g body ok ds E K τ G1
noncomputable def g6(g:tW)(c:Option v8)(e:fz)(ok:Gp->Prop):List D->jh->fM->Gp->List D->(List D->Gp->Prop)->Prop
 | [],_,_,G,acc,Q=>ok G/\Q acc G
 | d :: r,E,τ,G,acc,Q=>ok G/\g E d τ G fun pj G1=>match c with
  | none=>e E pj G1 fun x G2=>g6 g c e ok r E pj G2 (acc++[x]) Q
  | some c=>c E pj G1 fun k G2=>if k=true then e E pj G2 fun x G3=>g6 g (some c) e ok r E pj G3 (acc++[x]) Q else g6 g (some c) e ok r E pj G2 acc Q
noncomputable def rC(m:Nat)(fr:List Nat)(τ:fM):fM:=cL m none++fr.map fun i=>(τ[i]?).getD none
noncomputable def yw(m:Nat)(fr:List Nat)(i:D0)(g:tW)(c:Option v8)(e:fz):fz:=fun E τ G Q =>
 i E τ G fun ds ok G1=>ds.length<=SZ/\g6 g c e ok ds (fun _ _=>False) (rC m fr τ) G1 [] fun xs G2=>lS G2 (.lst xs) Q
noncomputable abbrev tI(ns:List Int):D:=.tup (ns.map D.int)
noncomputable def Jq:List Int->Option Int
 | []=>none
 | a :: r=>some (r.foldl (fun m x=>if x < m then x else m) a)
noncomputable def Jp:List (List Int)->Option (List Int)
 | []=>none
 | a :: r=>some (r.foldl (fun m x=>if lexLt x m=true then x else m) a)
noncomputable def Ku(ds:List D)(G:Gp)(Q:DK):Prop:=match ds with
 | [x]=>(∃ ns m,itemsOf x G=some (ns.map D.int)/\Jq ns=some m/\Q (.int m) G)\/∃ Le m,itemsOf x G=some (Le.map tI)/\Jp Le=some m/\Q (tI m) G
 | _=>False
noncomputable def Fh:fz:=fun _ _ G Q=>lS G (.gT []) Q
noncomputable def k8(G G':Gp):Prop:=∀ a o,G a=some o->G' a=some o
theorem k8.refl(G:Gp):k8 G G:=fun _ _ h=>h
theorem k8.trans{G G1 G2:Gp}(a:k8 G G1)(b:k8 G1 G2):k8 G G2:=fun c o h=>b c o (a c o h)
theorem k8.new{G:Gp}{p:Nat}{o:GO}(h:G p=none):k8 G (cy G p o):=fun a ob e=>by
 by_cases ha:a=p
 ·subst ha; rw [h] at e; cases e
 ·rw [gj ha]; exact e
theorem k8.free{G G':Gp}{p:Nat}(l:k8 G G')(h:G' p=none):G p=none:=by
 cases q:G p with
 | none=>rfl
 | some o=>rw [l p o q] at h; cases h
theorem k8.put{G G':Gp}{p:Nat}{o:GO}(l:k8 G G')(h:G p=none):k8 G (cy G' p o):=fun a ob e=>by
 by_cases ha:a=p
 ·subst ha; rw [h] at e; cases e
 ·rw [gj ha]; exact l a ob e
noncomputable def ends(Q:DK):ju:=⟨fun _ G=>Q .gR G,Q,fun _ _=>False,fun _ _=>False⟩
noncomputable def a0(n:Nat)(ds:List D):fM:=ds.map some++cL (n - ds.length) none
noncomputable def GR(x:D)(G1:Gp)(R:List D->(Gp->Prop)->Gp->Prop):Prop:=match x with
 | .tup ds=>R ds (fun _=>True) G1
 | .dD ds=>R ds (fun _=>True) G1
 | .ref p=>(match G1 p with
  | some (.lst ds)=>R ds (fun G2=>G2 p=some (.lst ds)) G1
  | _=>False)
 | _=>False
noncomputable def AP(x:D)(G1:Gp)(Q:Option Int->Gp->Prop):Prop:=match x with
 | .int i=>Q (some i) G1
 | _=>False
noncomputable def vi(x:D)(G1:Gp)(Q:Bool->Gp->Prop):Prop:=match B4 x G1 with
 | some b=>Q b G1
 | none=>False
noncomputable def DM(x:D)(G1:Gp)(R:List D->(Gp->Prop)->Gp->Prop):Prop:=match x with
 | .int n=>-(2 ^ 62)<=n/\n < 2 ^ 62/\R (fJ 0 n.toNat) (fun _=>True) G1
 | _=>False
noncomputable def isAt(C:String)(x:D)(G1:Gp)(Q:DK):Prop:=match FG C x G1 with
 | some b=>Q (.bl b) G1
 | none=>False
theorem lA{i j:Int}{G:Gp}{Q:DK}:oJ (.int i) (.int j) G Q=Q (.int (i+j)) G:=rfl
theorem AA{i j:Int}{G:Gp}{Q:DK}:Eo (.int i) (.int j) G Q=Q (.int (i - j)) G:=rfl
theorem AD{i j:Int}{G:Gp}{Q:DK}:Es (.int i) (.int j) G Q=(MulOk i j/\Q (.int (i * j)) G):=rfl
theorem eT{i j:Int}{G:Gp}{Q:DK}:kg (.int i) (.int j) G Q=(0 < j/\Q (.int (i % j)) G):=rfl
theorem jZ{i j:Int}{G:Gp}{Q:DK}:nJ (.int i) (.int j) G Q=(0 < j/\j < 2 ^ 30/\Q (.int (i / j)) G):=rfl
theorem CJ{i j:Int}{G:Gp}{Q:DK}:HI (.int i) (.int j) G Q=Q (.bl (decide (i < j))) G:=rfl
theorem CK{ds:List D}{i:Int}{d:D}{G:Gp}{Q:DK}(h:mG ds i=some d):du (.dD ds) (.int i) G Q=Q d G:=by unfold du; simp only [h]
theorem CM{a:Nat}{ds:List D}{i:Int}{d:D}{G:Gp}{Q:DK}(h1:G a=some (.lst ds))(h:mG ds i=some d):du (.ref a) (.int i) G Q=Q d G:=by unfold du; simp only [h1,h]
theorem CI{a:Nat}{ds:List D}{lo hi:Option Int}{G:Gp}{Q:DK}(h:G a=some (.lst ds)):Gm (.ref a) lo hi G Q=lS G (.lst (cut ds lo hi)) Q:=by unfold Gm; simp only [h]
theorem BL{ds:List D}{G:Gp}{Q:DK}:mZ [.dD ds] G Q=Q (.int (ds.length:Int)) G:=rfl
theorem rF{ds:List D}{G:Gp}{Q:DK}:mZ [.tup ds] G Q=Q (.int (ds.length:Int)) G:=rfl
theorem BM{a:Nat}{ds:List D}{G:Gp}{Q:DK}(h:G a=some (.lst ds)):mZ [.ref a] G Q=Q (.int (ds.length:Int)) G:=by unfold mZ lenOf; simp only [h]
theorem yq{a:fz}{E:jh}{τ:fM}{G:Gp}{R:List D->(Gp->Prop)->Gp->Prop}:A9 a E τ G R=a E τ G fun x G1=>GR x G1 R:=by
 unfold A9 GR; rfl
theorem Dk{ds:List D}{G:Gp}{R:List D->(Gp->Prop)->Gp->Prop}:GR (.tup ds) G R=R ds (fun _=>True) G:=rfl
theorem Dl{a:Nat}{ds:List D}{G:Gp}{R:List D->(Gp->Prop)->Gp->Prop}(h:G a=some (.lst ds)):GR (.ref a) G R=R ds (fun G2=>G2 a=some (.lst ds)) G:=by unfold GR; simp only [h]
theorem BB{t:fz}{E:jh}{τ:fM}{G:Gp}{Q:Option Int->Gp->Prop}:BC t E τ G Q=t E τ G fun x G1=>AP x G1 Q:=rfl
theorem w4{i:Int}{G:Gp}{Q:Option Int->Gp->Prop}:AP (.int i) G Q=Q (some i) G:=rfl
theorem bB{a:fz}{E:jh}{τ:fM}{G:Gp}{Q:Bool->Gp->Prop}:di a E τ G Q=a E τ G fun x G1=>vi x G1 Q:=rfl
theorem aC{b:Bool}{G:Gp}{Q:Bool->Gp->Prop}:vi (.bl b) G Q=Q b G:=rfl
theorem qV{a:fz}{E:jh}{τ:fM}{G:Gp}{R:List D->(Gp->Prop)->Gp->Prop}:vF a E τ G R=a E τ G fun x G1=>DM x G1 R:=rfl
theorem oI{n:Int}{G:Gp}{R:List D->(Gp->Prop)->Gp->Prop}:DM (.int n) G R=(-(2 ^ 62)<=n/\n < 2 ^ 62/\R (fJ 0 n.toNat) (fun _=>True) G):=rfl
theorem qm{C:String}{a:fz}{E:jh}{τ:fM}{G:Gp}{Q:DK}:vV C a E τ G Q=a E τ G fun x G1=>isAt C x G1 Q:=rfl
theorem vD {C:String} {i:Int} {G:Gp} {Q:DK}:isAt C (.int i) G Q=Q (.bl (C == "int")) G:=rfl
theorem qT {C:String} {ds:List D} {G:Gp} {Q:DK}:isAt C (.tup ds) G Q=Q (.bl (C == "tuple")) G:=rfl
theorem BG{a b:fz}{E:jh}{τ:fM}{G:Gp}{Q:DK}:yx a b E τ G Q=a E τ G fun x G1=>vi x G1 fun k G2=>if k=true then b E τ G2 Q else Q x G2:=by
 unfold yx vi;refine congrArg (a E τ G) ?_;funext x G1;cases B4 x G1 with
 | none=>rfl
 | some k=>cases k <;> simp
theorem BD{a:fz}{E:jh}{τ:fM}{G:Gp}{Q:DK}:BE a E τ G Q=a E τ G fun x G1=>vi x G1 fun k G2=>Q (.bl (!k)) G2:=rfl
theorem iP{a:Nat}{y:D}{G:Gp}{Q:DK}:oJ (.ref a) y G Q=xE (.ref a) y G Q:=by cases y <;> rfl
theorem AF{a:List D}{y:D}{G:Gp}{Q:DK}:oJ (.dD a) y G Q=xE (.dD a) y G Q:=by cases y <;> rfl
theorem CH{a:Nat}{lo hi:Option Int}{G:Gp}{Q:DK}:Gm (.ref a) lo hi G Q=(match G a with
  | some (.lst ds)=>lS G (.lst (cut ds lo hi)) Q
  | _=>False):=rfl
theorem CL{a:Nat}{k:D}{G:Gp}{Q:DK}:du (.ref a) k G Q=(match G a with
  | some (.lst ds)=>(match k with
   | .int i=>(match mG ds i with
    | some d=>Q d G
    | none=>False)
   | _=>False)
  | some (.gT aS)=>gX aS k=true/\(match look aS k with
   | some d=>Q d G
   | none=>False)
  | _=>False):=by unfold du; cases k <;> rfl
theorem bP{ds:List D}{i:Int}{G:Gp}{Q:DK}:du (.tup ds) (.int i) G Q=(match mG ds i with
  | some d=>Q d G
  | none=>False):=rfl
theorem vr{ds:List D}{i:Int}{G:Gp}{Q:DK}:du (.dD ds) (.int i) G Q=(match mG ds i with
  | some d=>Q d G
  | none=>False):=rfl
theorem dE{a:Nat}{d:D}{G:Gp}{Q:DK}:h8 (.ref a) [d] G Q=(match G a with
  | some (.lst xs)=>xs.length < SZ/\Q .gR (cy G a (.lst (xs++[d])))
  | _=>False):=rfl
theorem hV{a:Nat}{G:Gp}:B3 (.ref a) G=(match G a with
  | some (.lst _)=>True
  | _=>False):=rfl
theorem Cz{a:Nat}{G:Gp}:sZ (.ref a) G=(match G a with
  | some (.gT _)=>True
  | _=>False):=rfl
theorem x6{aS:List (D×D)}{k:D}{G:Gp}{Q:DK}:du (.rY aS) k G Q=(gX aS k=true/\(match look aS k with
  | some d=>Q d G
  | none=>False)):=by unfold du; cases k <;> rfl
end K2
end
section
namespace K2
open PySem (Str)
noncomputable def vQ(R:Nat->Bool)(G:Gp):Gp:=fun a=>if R a=true then none else G a
mutual
inductive Fz (G:Gp) (R:Nat->Bool):D->D->Prop
 | same (d:D):Fz G R d d
 | tup {ds ss:List D}:zI G R ds ss->Fz G R (.tup ds) (.tup ss)
 | dD {ds ss:List D}:zI G R ds ss->Fz G R (.dD ds) (.dD ss)
 | ref {a:Nat} {ds ss:List D}:G a=some (.lst ds)->R a=true->zI G R ds ss->Fz G R (.ref a) (.dD ss)
 | gT {a:Nat} {aS Lo:List (D×D)}:G a=some (.gT aS)->R a=true->DG G R aS Lo->Fz G R (.ref a) (.rY Lo)
inductive zI (G:Gp) (R:Nat->Bool):List D->List D->Prop
 | nil:zI G R [] []
 | cons {d s:D} {ds ss:List D}:Fz G R d s->zI G R ds ss->zI G R (d :: ds) (s :: ss)
inductive DG (G:Gp) (R:Nat->Bool):List (D×D)->List (D×D)->Prop
 | nil:DG G R [] []
 | cons {k d s:D} {ds ss:List (D×D)}:Fz G R d s->DG G R ds ss->DG G R ((k,d) :: ds) ((k,s) :: ss)
end
noncomputable def Fu(G:Gp)(x:D)(Q:DK):Prop:=∃ (R:Nat->Bool) (t:D),Fz G R x t/\Q t (vQ R G)
noncomputable def dN(e:fz):fz:=fun E τ G Q=>e E τ G fun x G1=>Fu G1 x Q
noncomputable def Fg(i:Nat)(t:gC):gC:=fun E K τ G=>t E { K with nx:=fun pj G1=>match pj[i]? with
 | some (some d)=>Fu G1 d fun t G2=>K.nx (pj.set i (some t)) G2
 | _=>False } τ G
theorem zI.same{G:Gp}{R:Nat->Bool}:∀ (ds:List D),zI G R ds ds
 | []=>.nil
 | d :: ds=>.cons (.same d) (zI.same ds)
theorem vP{G G1:Gp}(l:k8 G G1):vQ (fun a=>(G a).isNone) G1=G:=by
 funext a;unfold vQ;cases h:G a with
 | none=>simp [h]
 | some o=>simp [l a o h,h]
theorem dZ{G:Gp}{d:D}{Q:DK}(q:Q d G):Fu G d Q:=⟨fun _=>false,d,.same d,by
 have e:vQ (fun _=>false) G=G:=by funext a; simp [vQ]
 rw [e]; exact q⟩
theorem lY{G G1:Gp}{d:D}{Q:DK}(l:k8 G G1)(q:Q d G):Fu G1 d Q:=⟨_,d,.same d,by rw [vP l]; exact q⟩
theorem Bp{G G1:Gp}{p:Nat}{ds ss:List D}{Q:DK}(l:k8 G G1)(hp:G p=none)(h1:G1 p=some (.lst ds))(hs:zI G1 (fun a=>(G a).isNone) ds ss)(q:Q (.dD ss) G):Fu G1 (.ref p) Q :=
 ⟨_,.dD ss,.ref h1 (by simp [hp]) hs,by rw [vP l]; exact q⟩
noncomputable def tj:jb:=fun ds G Q _=>∃ ns:List Int,ds=[.dD (ns.map D.int)]/\ns.length<=63/\(∀ a,G a=none)/\∀ G',Q (.bl true) G'
theorem fe{a b:gC}{E:jh}{K:ju}{τ:fM}{G:Gp}(P:fM->Gp->Prop)(h1:∀ N,(∀ τ G,P τ G->N τ G)->a E { K with nx:=N } τ G)(h2:∀ τ G,P τ G->b E K τ G):cf a b E K τ G:=h1 (b E K) h2
theorem cm{a b:gC}{E:jh}{K:ju}{τ:fM}{G:Gp}:cf a b E K τ G=a E { K with nx:=b E K } τ G:=rfl
theorem kf{a:fz}{g:tW}{b:gC}{E:jh}{K:ju}{τ:fM}{G:Gp}:cf (c8 a g) b E K τ G=c8 a g E { K with nx:=b E K } τ G:=rfl
theorem Aj{a:fz}{b:gC}{E:jh}{K:ju}{τ:fM}{G:Gp}:cf (fV a) b E K τ G=fV a E { K with nx:=b E K } τ G:=rfl
theorem uD{g:tW}{body:gC}{ok:Gp->Prop}{ds:List D}{E:jh}{K:ju}{τ:fM}{G:Gp}(I:List D->fM->Gp->Prop)
  (h0:I [] τ G) (dn:∀ pre τ G,I pre τ G->ok G)
  (step:∀ (pre:List D) (d:D) (post:List D) τ G (N:fM->Gp->Prop),ds=pre++d :: post->I pre τ G->(∀ sX G2,I (pre++[d]) sX G2->N sX G2) ->
   g E d τ G fun pj G1=>body E { K with nx:=N,ct:=N,bk:=K.nx } pj G1)
  (fin:∀ τ G,I ds τ G->K.nx τ G):mF g body ok ds E K τ G:=by
 have main:∀ (post pre:List D) τ G,ds=pre++post->I pre τ G->mF g body ok post E K τ G:=by
  intro post;induction post with
  | nil =>
   intro pre τ G e h;rw [fw] at e;subst e;exact⟨dn _ _ _ h,fin _ _ h⟩
  | cons d post ih =>
   intro pre τ G e h;refine⟨dn _ _ _ h,?_⟩;exact step pre d post τ G _ e h fun sX G2 h2=>ih (pre++[d]) sX G2 (by rw [e,sW]; rfl) h2
 exact main ds [] τ G rfl h0
theorem Du{g:tW}{c:Option v8}{e:fz}{ok:Gp->Prop}{ds:List D}{E:jh}{τ:fM}{G:Gp}{Q:List D->Gp->Prop}(I:List D->List D->fM->Gp->Prop)
  (h0:I [] [] τ G) (dn:∀ pre acc τ G,I pre acc τ G->ok G)
  (step:∀ (pre:List D) (d:D) (post acc:List D) τ G (N:fM->List D->Gp->Prop),ds=pre++d :: post->I pre acc τ G->(∀ sX zr G2,I (pre++[d]) zr sX G2->N sX zr G2) ->
   g E d τ G fun pj G1=>match c with
    | none=>e E pj G1 fun x G2=>N pj (acc++[x]) G2
    | some c=>c E pj G1 fun k G2=>if k=true then e E pj G2 fun x G3=>N pj (acc++[x]) G3 else N pj acc G2)
  (fin:∀ acc τ G,I ds acc τ G->Q acc G):g6 g c e ok ds E τ G [] Q:=by
 have main:∀ (post pre acc:List D) τ G,ds=pre++post->I pre acc τ G->g6 g c e ok post E τ G acc Q:=by
  intro post;induction post with
  | nil =>
   intro pre acc τ G e h;rw [fw] at e;subst e;exact⟨dn _ _ _ _ h,fin _ _ _ h⟩
  | cons d post ih =>
   intro pre acc τ G e' h;refine⟨dn _ _ _ _ h,?_⟩;have:=step pre d post acc τ G (fun sX zr G2=>g6 g c e ok post E sX G2 zr Q) e' h fun sX zr G2 h2=>ih (pre++[d]) zr sX G2 (by rw [e',sW]; rfl) h2;cases c with
   | none=>exact this
   | some c=>exact this
 exact main ds [] [] τ G rfl h0
theorem Sn.tI{G:Gp}{n:Nat}:∀ (ns:List Int),Sn G (n+1) (.tup (ns.map D.int)) (.tup (ns.map D.int))
 | []=>.vj
 | i :: ns=>.kI (.int i) (Sn.tI ns)
theorem kG(a b:D)(r t:List D):gI (a :: r) (b :: t)=(iG a b&&gI r t):=rfl
theorem oX(a b:Int):iG (.int a) (.int b)=(a == b):=rfl
theorem xA(a b:List D):iG (.tup a) (.tup b)=gI a b:=rfl
theorem rl{α:Type} [DecidableEq α](a b:α)(as bs:List α):(decide (a=b)&&decide (as=bs))=decide (a :: as=b :: bs):=by
 by_cases h:a=b <;> by_cases h2:as=bs <;> simp [h,h2]
theorem tP:∀ (a b:List Int),gI (a.map D.int) (b.map D.int)=decide (a=b)
 | [],[]=>(decide_eq_true rfl).symm
 | [],b :: bs=>(decide_eq_false (fun z=>nomatch z)).symm
 | a :: as,[]=>(decide_eq_false (fun z=>nomatch z)).symm
 | a :: as,b :: bs=>by
  show (decide (a=b)&&gI (as.map D.int) (bs.map D.int))=_;rw [tP as bs,rl]
theorem Fe(a b:List Int):iG (tI a) (tI b)=decide (a=b):=by
 show gI _ _=_;exact tP a b
end K2
end
section
namespace K2
open PySem (Str)
set_option genInjectivity true in structure T2 where
 a:Int
 b:Int
 deriving DecidableEq
set_option genInjectivity true in structure T3 where
 a:Int
 b:Int
 c:Int
 deriving DecidableEq
class Enc (α:Type) [DecidableEq α] where
 enc:α->D
 dep:Nat
 eqv:∀ a b,iG (enc a) (enc b)=decide (a=b)
 sn:∀ (G:Gp) (n:Nat) (a:α),dep<=n->Sn G n (enc a) (enc a)
open Enc (enc)
noncomputable instance:Enc Int where
 enc:=D.int
 dep:=0
 eqv:=fun a b=>rfl
 sn:=fun G n a _=>.int a
noncomputable instance:Enc Bool where
 enc:=D.bl
 dep:=0
 eqv:=fun a b=>B1 a b
 sn:=fun G n a _=>.bl a
noncomputable instance:Enc T2 where
 enc:=fun t=>.tup [.int t.a,.int t.b]
 dep:=1
 eqv:=fun x y=>by
  cases x; cases y;rw [xA,kG,kG,oX,oX]; simp only [T2.mk.injEq]; rename_i a b c d; by_cases h:a=c <;> by_cases h2:b=d <;> simp [h,h2,show gI [] []=true from rfl]
 sn:=fun G n t h=>by
  obtain⟨m,rfl⟩:∃ m,n=m+1:=⟨n - 1,by lia⟩;exact .kI (.int _) (.kI (.int _) .vj)
noncomputable instance:Enc T3 where
 enc:=fun t=>.tup [.int t.a,.int t.b,.int t.c]
 dep:=1
 eqv:=fun x y=>by
  cases x; cases y;rw [xA,kG,kG,kG,oX,oX,oX]; simp only [T3.mk.injEq]; rename_i a b e c d f; by_cases h:a=c <;> by_cases h2:b=d <;> by_cases h3:e=f <;> simp [h,h2,h3,show gI [] []=true from rfl]
 sn:=fun G n t h=>by
  obtain⟨m,rfl⟩:∃ m,n=m+1:=⟨n - 1,by lia⟩;exact .kI (.int _) (.kI (.int _) (.kI (.int _) .vj))
noncomputable instance {α β:Type} [DecidableEq α] [DecidableEq β] [Enc α] [Enc β]:Enc (α×β) where
 enc:=fun t=>.tup [enc t.1,enc t.2]
 dep:=max (Enc.dep α) (Enc.dep β)+1
 eqv:=fun x y=>by
  cases x; cases y;rw [xA,kG,kG,Enc.eqv,Enc.eqv]; simp only [wL]; rename_i a b c d; by_cases h:a=c <;> by_cases h2:b=d <;> simp [h,h2,show gI [] []=true from rfl]
 sn:=fun G n t h=>by
  obtain⟨m,rfl⟩:∃ m,n=m+1:=⟨n - 1,by lia⟩;exact .kI (Enc.sn _ _ _ (by lia)) (.kI (Enc.sn _ _ _ (by lia)) .vj)
theorem vN{α:Type} [DecidableEq α] [Enc α]:∀ (a b:List α),gI (a.map enc) (b.map enc)=decide (a=b)
 | [],[]=>(decide_eq_true rfl).symm
 | [],b :: bs=>(decide_eq_false (fun z=>nomatch z)).symm
 | a :: as,[]=>(decide_eq_false (fun z=>nomatch z)).symm
 | a :: as,b :: bs=>by
  show (iG (enc a) (enc b)&&gI (as.map enc) (bs.map enc))=_;rw [Enc.eqv,vN as bs,rl]
theorem Ah{α:Type} [DecidableEq α] [Enc α](G:Gp)(n:Nat)(h:Enc.dep α<=n):∀ (xs:List α),Sn G (n+1) (.dD (xs.map enc)) (.dD (xs.map enc))
 | []=>.wW
 | a :: as=>.qF (Enc.sn _ _ _ h) (Ah G n h as)
noncomputable instance {α:Type} [DecidableEq α] [Enc α]:Enc (List α) where
 enc:=fun xs=>.dD (xs.map enc)
 dep:=Enc.dep α+1
 eqv:=fun a b=>by
  show gI _ _=_;exact vN a b
 sn:=fun G n t h=>by
  obtain⟨m,rfl⟩:∃ m,n=m+1:=⟨n - 1,by lia⟩;exact Ah G m (by lia) t
section
variable {κ α:Type} [DecidableEq κ] [Enc κ] [DecidableEq α] [Enc α]
noncomputable def cN(l:List (κ×α)):List (D×D):=l.map fun p=>(enc p.1,enc p.2)
noncomputable def iI(l:List (κ×α))(k:κ):Option α:=(l.find? fun p=>p.1=k).map (·.2)
noncomputable def uR(l:List (κ×α))(k:κ)(v:α):List (κ×α):=if (l.any fun p=>p.1=k)=true then l.map (fun p=>if p.1=k then (p.1,v) else p) else l++[(k,v)]
theorem AW(l:List (κ×α))(k:κ):look (cN l) (enc k)=(iI l k).map enc:=by
 unfold look iI cN;induction l with
 | nil=>rfl
 | cons p r ih =>
  rw [ax,eE,eE];simp only [Enc.eqv];by_cases h:p.1=k
  ·simp [h]
  ·simp only [h,decide_false]; exact ih
theorem CO(l:List (κ×α))(k:κ)(v:α):put (cN l) (enc k) (enc v)=cN (uR l k v):=by
 unfold put uR;have e:((cN l).any fun p=>iG p.1 (enc k))=l.any fun p=>decide (p.1=k):=by
  unfold cN; rw [List.any_map]; congr 1; funext p; exact Enc.eqv _ _
 rw [e];split
 ·unfold cN; rw [ua,ua];refine List.map_congr_left fun p _=>?_;simp only [Function.comp,Enc.eqv,decide_eq_true_eq];split <;> rfl
 ·unfold cN; rw [wm]; rfl
end
class o8 (κ:Type) [DecidableEq κ] [Enc κ] where
 ok:(∀ k:κ,dw (enc k)=true)\/∀ k:κ,mS (enc k)=true
noncomputable instance:o8 Int:=⟨.inl fun _=>rfl⟩
noncomputable instance:o8 T2:=⟨.inr fun _=>rfl⟩
noncomputable instance:o8 T3:=⟨.inr fun _=>rfl⟩
theorem xl{κ α:Type} [DecidableEq κ] [Enc κ] [o8 κ] [DecidableEq α] [Enc α](l:List (κ×α))(k:κ):gX (cN l) (enc k)=true:=by
 unfold gX cN;rcases o8.ok (κ:=κ) with h | h
 ·rw [j8]; left;rw [h k,zA,BY,u7];intro p _; exact h p.1
 ·rw [j8]; right;rw [h k,zA,BY,u7];intro p _; exact h p.1
end K2
end
section
namespace K2
open PySem (Str)
open Enc (enc)
mutual
noncomputable def xj:D->D->Bool
 | .int a,.int b=>decide (a < b)
 | .tup a,.tup b=>j3 a b
 | .dD a,.dD b=>j3 a b
 | _,_=>false
noncomputable def j3:List D->List D->Bool
 | [],[]=>false
 | [],_ :: _=>true
 | _ :: _,[]=>false
 | x :: xs,y :: ys=>if iG x y=true then j3 xs ys else xj x y
end
theorem mO(x y:D)(xs ys:List D):j3 (x :: xs) (y :: ys)=if iG x y=true then j3 xs ys else xj x y:=rfl
theorem AV(a b:Int):xj (.int a) (.int b)=decide (a < b):=rfl
inductive ou where
 | int | tup (l:List ou) | lst (s:ou)
mutual
noncomputable def eM:ou->D->Bool
 | .int,.int _=>true
 | .tup l,.tup ds=>fU l ds
 | .lst s,.dD ds=>fC s ds
 | _,_=>false
noncomputable def fU:List ou->List D->Bool
 | [],[]=>true
 | s :: l,d :: ds=>eM s d&&fU l ds
 | _,_=>false
noncomputable def fC:ou->List D->Bool
 | _,[]=>true
 | s,d :: ds=>eM s d&&fC s ds
end
theorem eL{a:D}(h:eM .int a=true):∃ i,a=.int i:=by cases a <;> first | exact⟨_,rfl⟩ | exact bJ (show false=true from h)
theorem eI{l:List ou}{a:D}(h:eM (.tup l) a=true):∃ x,a=.tup x:=by cases a <;> first | exact⟨_,rfl⟩ | exact bJ (show false=true from h)
theorem eK{l:ou}{a:D}(h:eM (.lst l) a=true):∃ x,a=.dD x:=by cases a <;> first | exact⟨_,rfl⟩ | exact bJ (show false=true from h)
mutual
noncomputable def FL:ou->Nat
 | .int=>0
 | .tup l=>Bv l+1
 | .lst s=>FL s+1
noncomputable def Bv:List ou->Nat
 | []=>0
 | s :: l=>max (FL s) (Bv l)
end
class bN (α:Type) [DecidableEq α] [Enc α] where
 lt:α->α->Bool
 El:ou
 Bj:∀ a:α,eM El (enc a)=true
 GJ:∀ a b:α,xj (enc a) (enc b)=lt a b
 Dj:∀ a,lt a a=false
 trans:∀ a b c,lt a b=true->lt b c=true->lt a c=true
 DI:∀ a b,lt a b=false->lt b a=false->a=b
noncomputable instance:bN Int where
 lt:=fun a b=>decide (a < b)
 El:=.int
 Bj:=fun _=>rfl
 GJ:=fun a b=>rfl
 Dj:=fun a=>by simp
 trans:=fun a b c h1 h2=>by simp at *; lia
 DI:=fun a b h1 h2=>by simp at *; lia
noncomputable def nR{α:Type} [DecidableEq α](lt:α->α->Bool):List α->List α->Bool
 | [],[]=>false
 | [],_ :: _=>true
 | _ :: _,[]=>false
 | x :: xs,y :: ys=>if x=y then nR lt xs ys else lt x y
theorem qN{α:Type} [DecidableEq α](lt:α->α->Bool)(x y:α)(xs ys:List α):nR lt (x :: xs) (y :: ys)=if x=y then nR lt xs ys else lt x y:=rfl
section
variable {α:Type} [DecidableEq α] {lt:α->α->Bool}
theorem nQ:∀ x:List α,nR lt x x=false
 | []=>rfl
 | a :: x=>by simp only [qN,if_true]; exact nQ x
theorem nP(t:∀ a b,lt a b=false->lt b a=false->a=b):∀ (x y:List α),nR lt x y=false->nR lt y x=false->x=y
 | [],[],_,_=>rfl
 | [],_ :: _,h,_=>by cases h
 | _ :: _,[],_,h=>by cases h
 | a :: x,b :: y,h1,h2=>by
  simp only [qN] at h1 h2;by_cases e:a=b
  ·subst e;simp only [if_true] at h1 h2;rw [nP t x y h1 h2]
  ·rw [if_neg e] at h1;rw [if_neg (pe e)] at h2;exact absurd (t a b h1 h2) e
theorem kq(ir:∀ a,lt a a=false)(tr:∀ a b c,lt a b=true->lt b c=true->lt a c=true):∀ (x y z:List α),nR lt x y=true->nR lt y z=true->nR lt x z=true
 | [],[],_,h,_=>by cases h
 | [],_ :: _,[],_,h=>by cases h
 | [],_ :: _,_ :: _,_,_=>rfl
 | _ :: _,[],_,h,_=>by cases h
 | _ :: _,_ :: _,[],_,h=>by cases h
 | a :: x,b :: y,c :: z,h1,h2=>by
  simp only [qN] at h1 h2 ⊢;by_cases e1:a=b
  ·subst e1;simp only [if_true] at h1;by_cases e2:a=c
   ·subst e2;simp only [if_true] at h2 ⊢;exact kq ir tr x y z h1 h2
   ·rw [if_neg e2] at h2 ⊢; exact h2
  ·rw [if_neg e1] at h1;by_cases e2:b=c
   ·subst e2;rw [if_neg e1]; exact h1
   ·rw [if_neg e2] at h2;have h3:=tr _ _ _ h1 h2;rw [if_neg (by rintro rfl; rw [ir] at h3; cases h3)]; exact h3
end
theorem nO{α:Type} [DecidableEq α] [Enc α] [bN α]:∀ (x y:List α),j3 (x.map enc) (y.map enc)=nR (bN.lt (α:=α)) x y
 | [],[]=>rfl
 | [],_ :: _=>rfl
 | _ :: _,[]=>rfl
 | a :: x,b :: y=>by simp only [ax,mO,qN,Enc.eqv,nO x y,bN.GJ,decide_eq_true_eq]
theorem tM{α:Type} [DecidableEq α] [Enc α] [bN α]:∀ (x:List α),fC (bN.El α) (x.map enc)=true
 | []=>rfl
 | a :: x=>by simp only [ax,fC,bN.Bj,tM x,Bool.and_self]
noncomputable instance {α:Type} [DecidableEq α] [Enc α] [bN α]:bN (List α) where
 lt:=nR bN.lt
 El:=.lst (bN.El α)
 Bj:=fun a=>tM a
 GJ:=fun a b=>nO a b
 Dj:=nQ
 trans:=kq bN.Dj bN.trans
 DI:=nP bN.DI
noncomputable def T2.l(t:T2):List Int:=[t.a,t.b]
noncomputable def T3.l(t:T3):List Int:=[t.a,t.b,t.c]
noncomputable instance:bN T2 where
 lt:=fun x y=>nR (fun a b=>decide (a < b)) x.l y.l
 El:=.tup [.int,.int]
 Bj:=fun _=>rfl
 GJ:=fun a b=>nO a.l b.l
 Dj:=fun a=>nQ _
 trans:=fun a b c=>kq (α:=Int) bN.Dj bN.trans _ _ _
 DI:=fun ⟨a,b⟩ ⟨c,d⟩ h1 h2=>by
  have:=nP (α:=Int) bN.DI _ _ h1 h2;simpa [T2.l] using this
noncomputable instance:bN T3 where
 lt:=fun x y=>nR (fun a b=>decide (a < b)) x.l y.l
 El:=.tup [.int,.int,.int]
 Bj:=fun _=>rfl
 GJ:=fun a b=>nO a.l b.l
 Dj:=fun a=>nQ _
 trans:=fun a b c=>kq (α:=Int) bN.Dj bN.trans _ _ _
 DI:=fun ⟨a,b,e⟩ ⟨c,d,f⟩ h1 h2=>by
  have:=nP (α:=Int) bN.DI _ _ h1 h2;simpa [T3.l] using this
section
variable {α:Type} [DecidableEq α] [Enc α] [bN α]
noncomputable def AY(a b:α):Bool:=!bN.lt b a
noncomputable def IA(xs:List α):List α:=xs.mergeSort AY
theorem tE(a b c:α)(h1:AY a b=true)(h2:AY b c=true):AY a c=true:=by
 unfold AY at *;simp only [Bool.not_eq_true'] at *;cases h:bN.lt c a with
 | false=>rfl
 | true =>
  by_cases e:a=b
  ·subst e; rw [h] at h2; cases h2
  ·have M7:bN.lt a b=true:=by
    cases q:bN.lt a b with
    | true=>rfl
    | false=>exact absurd (bN.DI _ _ q h1) e
   rw [bN.trans _ _ _ h M7] at h2; cases h2
end
end K2
end
section
namespace K2
open PySem (Str)
mutual
theorem gZ:∀ (sh:ou) (a:D),eM sh a=true->iG a a=true
 | .int,.int i,_=>by show (i == i)=true; exact beq_self_eq_true i
 | .tup l,.tup xs,h=>by show gI xs xs=true; exact pE l xs h
 | .lst l,.dD xs,h=>by show gI xs xs=true; exact pF l xs h
theorem pE:∀ (l:List ou) (xs:List D),fU l xs=true->gI xs xs=true
 | [],[],_=>rfl
 | s :: l,x :: xs,h=>by
  have h:(eM s x&&fU l xs)=true:=h;rw [aQ] at h;show (iG x x&&gI xs xs)=true;rw [gZ s x h.1,pE l xs h.2]; rfl
theorem pF:∀ (s:ou) (xs:List D),fC s xs=true->gI xs xs=true
 | _,[],_=>rfl
 | s,x :: xs,h=>by
  have h:(eM s x&&fC s xs)=true:=h;rw [aQ] at h;show (iG x x&&gI xs xs)=true;rw [gZ s x h.1,pF s xs h.2]; rfl
end
theorem Fd(s:ou)(ih:∀ (a b:D),eM s a=true->eM s b=true->iG a b=true->a=b):∀ (xs ys:List D),fC s xs=true->fC s ys=true->gI xs ys=true->xs=ys:=by
 intro xs;induction xs with
 | nil=>intro ys _ _ h; cases ys with
  | nil=>rfl
  | cons _ _=>cases h
 | cons x xs GQ =>
  intro ys h1 h2 h;cases ys with
  | nil=>cases h
  | cons y ys =>
   have h1:(eM s x&&fC s xs)=true:=h1;have h2:(eM s y&&fC s ys)=true:=h2;have h:(iG x y&&gI xs ys)=true:=h;rw [aQ] at h1 h2 h;rw [ih x y h1.1 h2.1 h.1,GQ ys h1.2 h2.2 h.2]
mutual
theorem kS:∀ (sh:ou) (a b:D),eM sh a=true->eM sh b=true->iG a b=true->a=b
 | .int,a,b,h1,h2,h=>by
  first | obtain⟨_,rfl⟩:=eL h1 | obtain⟨_,rfl⟩:=eI h1 | obtain⟨_,rfl⟩:=eK h1
  first | obtain⟨_,rfl⟩:=eL h2 | obtain⟨_,rfl⟩:=eI h2 | obtain⟨_,rfl⟩:=eK h2
  rw [oX] at h; rw [beq_iff_eq.mp h]
 | .tup l,a,b,h1,h2,h=>by
  first | obtain⟨_,rfl⟩:=eL h1 | obtain⟨_,rfl⟩:=eI h1 | obtain⟨_,rfl⟩:=eK h1
  first | obtain⟨_,rfl⟩:=eL h2 | obtain⟨_,rfl⟩:=eI h2 | obtain⟨_,rfl⟩:=eK h2
  rw [Bt l _ _ h1 h2 h]
 | .lst l,a,b,h1,h2,h=>by
  first | obtain⟨_,rfl⟩:=eL h1 | obtain⟨_,rfl⟩:=eI h1 | obtain⟨_,rfl⟩:=eK h1
  first | obtain⟨_,rfl⟩:=eL h2 | obtain⟨_,rfl⟩:=eI h2 | obtain⟨_,rfl⟩:=eK h2
  rw [Fd l (kS l) _ _ h1 h2 h]
theorem Bt:∀ (l:List ou) (xs ys:List D),fU l xs=true->fU l ys=true->gI xs ys=true->xs=ys
 | [],xs,ys,h1,h2,_=>by
  cases xs with
  | nil=>cases ys with
   | nil=>rfl
   | cons _ _=>cases h2
  | cons _ _=>cases h1
 | s :: l,xs,ys,h1,h2,h=>by
  cases xs with
  | nil=>cases h1
  | cons x xs =>
   cases ys with
   | nil=>cases h2
   | cons y ys =>
    have h1:(eM s x&&fU l xs)=true:=h1;have h2:(eM s y&&fU l ys)=true:=h2;have h:(iG x y&&gI xs ys)=true:=h;rw [aQ] at h1 h2 h;rw [kS s x y h1.1 h2.1 h.1,Bt l xs ys h1.2 h2.2 h.2]
end
theorem AU(s:ou)(ih:∀ (a b:D),eM s a=true->eM s b=true->xj a b=false->xj b a=false->a=b):∀ (xs ys:List D),fC s xs=true->fC s ys=true->j3 xs ys=false->j3 ys xs=false->xs=ys:=by
 intro xs;induction xs with
 | nil=>intro ys _ _ h _; cases ys with
  | nil=>rfl
  | cons _ _=>cases h
 | cons x xs GQ =>
  intro ys h1 h2 h3 h4;cases ys with
  | nil=>cases h4
  | cons y ys =>
   have h1:(eM s x&&fC s xs)=true:=h1;have h2:(eM s y&&fC s ys)=true:=h2;rw [aQ] at h1 h2;simp only [mO] at h3 h4;by_cases e:iG x y=true
   ·have Ko:=kS s x y h1.1 h2.1 e;subst Ko;rw [if_pos e] at h3 h4;rw [GQ ys h1.2 h2.2 h3 h4]
   ·rw [if_neg e] at h3;by_cases e2:iG y x=true
    ·have:=kS s y x h2.1 h1.1 e2;subst this; exact absurd e2 e
    ·rw [if_neg e2] at h4;have:=ih x y h1.1 h2.1 h3 h4;subst this;exact absurd (gZ s x h1.1) e
mutual
theorem ye:∀ (sh:ou) (a b:D),eM sh a=true->eM sh b=true->xj a b=false->xj b a=false->a=b
 | .int,a,b,h1,h2,h3,h4=>by
  first | obtain⟨_,rfl⟩:=eL h1 | obtain⟨_,rfl⟩:=eI h1 | obtain⟨_,rfl⟩:=eK h1
  first | obtain⟨_,rfl⟩:=eL h2 | obtain⟨_,rfl⟩:=eI h2 | obtain⟨_,rfl⟩:=eK h2
  simp [AV] at h3 h4; congr 1; lia
 | .tup l,a,b,h1,h2,h3,h4=>by
  first | obtain⟨_,rfl⟩:=eL h1 | obtain⟨_,rfl⟩:=eI h1 | obtain⟨_,rfl⟩:=eK h1
  first | obtain⟨_,rfl⟩:=eL h2 | obtain⟨_,rfl⟩:=eI h2 | obtain⟨_,rfl⟩:=eK h2
  rw [vA l _ _ h1 h2 h3 h4]
 | .lst l,a,b,h1,h2,h3,h4=>by
  first | obtain⟨_,rfl⟩:=eL h1 | obtain⟨_,rfl⟩:=eI h1 | obtain⟨_,rfl⟩:=eK h1
  first | obtain⟨_,rfl⟩:=eL h2 | obtain⟨_,rfl⟩:=eI h2 | obtain⟨_,rfl⟩:=eK h2
  rw [AU l (ye l) _ _ h1 h2 h3 h4]
theorem vA:∀ (l:List ou) (xs ys:List D),fU l xs=true->fU l ys=true->j3 xs ys=false->j3 ys xs=false->xs=ys
 | [],xs,ys,h1,h2,_,_=>by
  cases xs with
  | nil=>cases ys with
   | nil=>rfl
   | cons _ _=>cases h2
  | cons _ _=>cases h1
 | s :: l,xs,ys,h1,h2,h3,h4=>by
  cases xs with
  | nil=>cases h1
  | cons x xs =>
   cases ys with
   | nil=>cases h2
   | cons y ys =>
    have h1:(eM s x&&fU l xs)=true:=h1;have h2:(eM s y&&fU l ys)=true:=h2;rw [aQ] at h1 h2;simp only [mO] at h3 h4;by_cases e:iG x y=true
    ·have Ko:=kS s x y h1.1 h2.1 e;subst Ko;rw [if_pos e] at h3 h4;rw [vA l xs ys h1.2 h2.2 h3 h4]
    ·rw [if_neg e] at h3;by_cases e2:iG y x=true
     ·have:=kS s y x h2.1 h1.1 e2;subst this; exact absurd e2 e
     ·rw [if_neg e2] at h4;have:=ye s x y h1.1 h2.1 h3 h4;subst this;exact absurd (gZ s x h1.1) e
end
mutual
theorem yf:∀ (sh:ou) (a:D),eM sh a=true->xj a a=false
 | .int,.int i,_=>by rw [AV]; exact decide_eq_false (Int.lt_irrefl _)
 | .tup l,.tup xs,h=>by show j3 xs xs=false; exact vB l xs h
 | .lst l,.dD xs,h=>by show j3 xs xs=false; exact vC l xs h
theorem vB:∀ (l:List ou) (xs:List D),fU l xs=true->j3 xs xs=false
 | [],[],_=>rfl
 | s :: l,x :: xs,h=>by
  have h:(eM s x&&fU l xs)=true:=h;rw [aQ] at h;simp only [mO,gZ s x h.1,if_true]; exact vB l xs h.2
theorem vC:∀ (s:ou) (xs:List D),fC s xs=true->j3 xs xs=false
 | _,[],_=>rfl
 | s,x :: xs,h=>by
  have h:(eM s x&&fC s xs)=true:=h;rw [aQ] at h;simp only [mO,gZ s x h.1,if_true]; exact vC s xs h.2
end
theorem xi(s:ou)(ih:∀ (a b c:D),eM s a=true->eM s b=true->eM s c=true->xj a b=true->xj b c=true->xj a c=true):∀ (xs ys zs:List D),fC s xs=true->fC s ys=true->fC s zs=true->j3 xs ys=true->j3 ys zs=true->j3 xs zs=true:=by
 intro xs;induction xs with
 | nil =>
  intro ys zs _ _ _ h4 h5;cases ys with
  | nil=>cases h4
  | cons _ _=>cases zs with
   | nil=>cases h5
   | cons _ _=>rfl
 | cons x xs GQ =>
  intro ys zs h1 h2 h3 h4 h5;cases ys with
  | nil=>cases h4
  | cons y ys =>
   cases zs with
   | nil=>cases h5
   | cons z zs =>
    have h1:(eM s x&&fC s xs)=true:=h1;have h2:(eM s y&&fC s ys)=true:=h2;have h3:(eM s z&&fC s zs)=true:=h3;rw [aQ] at h1 h2 h3;simp only [mO] at h4 h5 ⊢;by_cases e1:iG x y=true
    ·have:=kS s x y h1.1 h2.1 e1;subst this;rw [if_pos e1] at h4;by_cases e2:iG x z=true
     ·rw [if_pos e2] at h5 ⊢;exact GQ ys zs h1.2 h2.2 h3.2 h4 h5
     ·rw [if_neg e2] at h5 ⊢; exact h5
    ·rw [if_neg e1] at h4;by_cases e2:iG y z=true
     ·have:=kS s y z h2.1 h3.1 e2;subst this;rw [if_neg e1]; exact h4
     ·rw [if_neg e2] at h5;have h6:=ih x y z h1.1 h2.1 h3.1 h4 h5;rw [if_neg (fun e3=>by
       have:=kS s x z h1.1 h3.1 e3;subst this;rw [yf s x h1.1] at h6; cases h6)]
      exact h6
mutual
theorem tw:∀ (sh:ou) (a b c:D),eM sh a=true->eM sh b=true->eM sh c=true->xj a b=true->xj b c=true->xj a c=true
 | .int,a,b,c,h1,h2,h3,h4,h5=>by
  first | obtain⟨_,rfl⟩:=eL h1 | obtain⟨_,rfl⟩:=eI h1 | obtain⟨_,rfl⟩:=eK h1
  first | obtain⟨_,rfl⟩:=eL h2 | obtain⟨_,rfl⟩:=eI h2 | obtain⟨_,rfl⟩:=eK h2
  first | obtain⟨_,rfl⟩:=eL h3 | obtain⟨_,rfl⟩:=eI h3 | obtain⟨_,rfl⟩:=eK h3
  simp [AV] at *; lia
 | .tup l,a,b,c,h1,h2,h3,h4,h5=>by
  first | obtain⟨_,rfl⟩:=eL h1 | obtain⟨_,rfl⟩:=eI h1 | obtain⟨_,rfl⟩:=eK h1
  first | obtain⟨_,rfl⟩:=eL h2 | obtain⟨_,rfl⟩:=eI h2 | obtain⟨_,rfl⟩:=eK h2
  first | obtain⟨_,rfl⟩:=eL h3 | obtain⟨_,rfl⟩:=eI h3 | obtain⟨_,rfl⟩:=eK h3
  exact qJ l _ _ _ h1 h2 h3 h4 h5
 | .lst l,a,b,c,h1,h2,h3,h4,h5=>by
  first | obtain⟨_,rfl⟩:=eL h1 | obtain⟨_,rfl⟩:=eI h1 | obtain⟨_,rfl⟩:=eK h1
  first | obtain⟨_,rfl⟩:=eL h2 | obtain⟨_,rfl⟩:=eI h2 | obtain⟨_,rfl⟩:=eK h2
  first | obtain⟨_,rfl⟩:=eL h3 | obtain⟨_,rfl⟩:=eI h3 | obtain⟨_,rfl⟩:=eK h3
  exact xi l (tw l) _ _ _ h1 h2 h3 h4 h5
theorem qJ:∀ (l:List ou) (xs ys zs:List D),fU l xs=true->fU l ys=true->fU l zs=true->j3 xs ys=true->j3 ys zs=true->j3 xs zs=true
 | [],xs,ys,zs,h1,h2,_,h,_=>by
  cases xs with
  | nil=>cases ys with
   | nil=>cases h
   | cons _ _=>cases h2
  | cons _ _=>cases h1
 | s :: l,xs,ys,zs,h1,h2,h3,h4,h5=>by
  cases xs with
  | nil=>cases h1
  | cons x xs =>
   cases ys with
   | nil=>cases h2
   | cons y ys =>
    cases zs with
    | nil=>cases h3
    | cons z zs =>
     have h1:(eM s x&&fU l xs)=true:=h1;have h2:(eM s y&&fU l ys)=true:=h2;have h3:(eM s z&&fU l zs)=true:=h3;rw [aQ] at h1 h2 h3;simp only [mO] at h4 h5 ⊢;by_cases e1:iG x y=true
     ·have:=kS s x y h1.1 h2.1 e1;subst this;rw [if_pos e1] at h4;by_cases e2:iG x z=true
      ·rw [if_pos e2] at h5 ⊢;exact qJ l xs ys zs h1.2 h2.2 h3.2 h4 h5
      ·rw [if_neg e2] at h5 ⊢; exact h5
     ·rw [if_neg e1] at h4;by_cases e2:iG y z=true
      ·have:=kS s y z h2.1 h3.1 e2;subst this;rw [if_neg e1]; exact h4
      ·rw [if_neg e2] at h5;have h6:=tw s x y z h1.1 h2.1 h3.1 h4 h5;rw [if_neg (fun e3=>by
        have:=kS s x z h1.1 h3.1 e3;subst this;rw [yf s x h1.1] at h6; cases h6)]
       exact h6
end
end K2
end
section
namespace K2
open PySem (Str)
open Enc (enc)
noncomputable def IsL(G:Gp)(d:D)(ds:List D):Prop:=d=.dD ds\/∃ a,d=.ref a/\G a=some (.lst ds)
theorem IsL.enc{α:Type} [DecidableEq α] [Enc α]{G:Gp}(xs:List α):IsL G (enc xs) (xs.map enc):=.inl rfl
theorem IsL.ref{G:Gp}{a:Nat}{ds:List D}(h:G a=some (.lst ds)):IsL G (.ref a) ds:=.inr ⟨a,rfl,h⟩
theorem Ep{G:Gp}{d:D}{ds:List D}{lo hi:Option Int}{Q:DK}(h:IsL G d ds)(k:lS G (.lst (cut ds lo hi)) Q):Gm d lo hi G Q:=by
 rcases h with rfl | ⟨a,rfl,e⟩
 ·exact k
 ·rw [CI e]; exact k
theorem Dy{G:Gp}{d:D}{ds:List D}{Q:DK}(h:IsL G d ds)(k:Q (.int (ds.length:Int)) G):mZ [d] G Q:=by
 rcases h with rfl | ⟨a,rfl,e⟩
 ·exact k
 ·rw [BM e]; exact k
theorem wY{G:Gp}{d x:D}{ds:List D}{i:Int}{Q:DK}(h:IsL G d ds)(e:mG ds i=some x)(k:Q x G):du d (.int i) G Q:=by
 rcases h with rfl | ⟨a,rfl,e2⟩
 ·rw [CK e]; exact k
 ·rw [CM e2 e]; exact k
theorem qK{G:Gp}{d:D}{ds:List D}(h:IsL G d ds):lF d G=some ds:=by
 rcases h with rfl | ⟨a,rfl,e⟩
 ·rfl
 ·unfold lF; simp only [e]
theorem uT{G:Gp}{d e:D}{ds es:List D}{Q:DK}(h:IsL G d ds)(h':IsL G e es)(hz:ds.length+es.length<=SZ)(k:lS G (.lst (ds++es)) Q):xE d e G Q:=by
 unfold xE; simp only [qK h,qK h']; exact⟨hz,k⟩
theorem gO{α:Type}(xs:List α){k:Int}(h0:0<=k)(h1:k < xs.length):mG xs k=some (xs[k.toNat]'(by lia)):=by
 unfold mG zF;rw [if_pos h0,if_pos h1];show xs[k.toNat]?=_;exact yG (by lia)
end K2
end
section
namespace K2
open PySem (Str)
open Enc (enc)
noncomputable def Er:wC
 | .int i,.int j,G,Q=>(0<=j/\j<=1000000/\i.natAbs < 2 ^ 64)/\Q (.int (i ^ j.toNat)) G
 | _,_,_,_=>False
theorem AB{i j:Int}{G:Gp}{Q:DK}:Er (.int i) (.int j) G Q=((0<=j/\j<=1000000/\i.natAbs < 2 ^ 64)/\Q (.int (i ^ j.toNat)) G):=rfl
noncomputable def n3:D->Gp->Option (List (D×D))
 | .rY aS,_=>some aS
 | .ref a,G=>match G a with
  | some (.gT aS)=>some aS
  | _=>none
 | _,_=>none
noncomputable def tF(aS:List (D×D)):Bool:=aS.all fun p=>dw p.1
noncomputable def v5(ds:List D)(G:Gp)(Q:DK):Prop:=match ds with
 | [x]=>∃ aS,n3 x G=some aS/\tF aS=true/\aS.length<=SZ/\lS G (.gT aS) Q
 | _=>False
noncomputable def kY(x:D)(ds:List D)(G:Gp)(Q:DK):Prop:=match ds with
 | [k,d]=>∃ aS,n3 x G=some aS/\tF aS=true/\dw k=true/\Q ((look aS k).getD d) G
 | _=>False
noncomputable def sF(l m:List (Int×Int)):Bool:=l.length == m.length&&l.all fun p=>iI m p.1 == some p.2
noncomputable def Et(neg:Bool):wC:=fun x y G Q=>∃ l m:List (Int×Int),n3 x G=some (cN l)/\n3 y G=some (cN m)/\Q (.bl (if neg then !sF l m else sF l m)) G
noncomputable def sm(neg:Bool):wC:=fun x y G Q=>ml neg x y G Q\/Et neg x y G Q
noncomputable def mH{κ α:Type} [DecidableEq κ] [Enc κ] [DecidableEq α] [Enc α](G:Gp)(d:D)(l:List (κ×α)):Prop:=n3 d G=some (cN l)
section
variable {κ α:Type} [DecidableEq κ] [Enc κ] [DecidableEq α] [Enc α] {l:List (κ×α)} {G G':Gp} {d:D}
theorem mH.ref{a:Nat}(h:G a=some (.gT (cN l))):mH G (.ref a) l:=by unfold mH n3; simp only [h]
theorem mH.rY:mH G (.rY (cN l)) l:=rfl
theorem mH.inv(h:mH G d l):d=.rY (cN l)\/∃ a,d=.ref a/\G a=some (.gT (cN l)):=by
 unfold mH n3 at h;split at h
 ·exact .inl (by rw [a8 h])
 ·rename_i a;split at h
  ·rename_i aS e;exact .inr ⟨a,rfl,by rw [e,a8 h]⟩
  ·cases h
 ·cases h
theorem mH.mono(h:mH G d l)(le:k8 G G'):mH G' d l:=by
 rcases h.inv with rfl | ⟨a,rfl,e⟩
 ·exact .rY
 ·exact .ref (le a _ e)
theorem iK{β:Type} [DecidableEq β] [Enc β](l:List (Int×β)):tF (cN l)=true:=by
 unfold tF cN; rw [BY,u7]; intro p _; rfl
theorem tQ(l:List (κ×α)):(cN l).length=l.length:=by unfold cN; rw [bQ]
theorem eF(h:mH G d l):sZ d G:=by
 rcases h.inv with rfl | ⟨a,rfl,e⟩
 ·trivial
 ·unfold sZ; simp only [e]
end
section
variable {α:Type} [DecidableEq α] [Enc α] {l:List (Int×α)} {G:Gp} {d:D}
theorem v3{Q:DK}(h:mH G d l)(hs:l.length<=SZ)(k:lS G (.gT (cN l)) Q):v5 [d] G Q:=⟨_,h,iK l,by rw [tQ]; exact hs,k⟩
theorem Dg{Q:DK}{i:Int}{e:α}(h:mH G d l)(k:Q (enc ((iI l i).getD e)) G):kY d [.int i,enc e] G Q:=by
 refine⟨_,h,iK l,rfl,?_⟩;have:(look (cN l) (.int i)).getD (enc e)=enc ((iI l i).getD e):=by
  rw [show (D.int i)=enc i from rfl,AW]; cases iI l i <;> rfl
 rw [this]; exact k
theorem oC{a:Nat}{i:Int}{v:α}{Q:Gp->Prop}(h:G a=some (.gT (cN l)))(hs:l.length < SZ)(k:Q (cy G a (.gT (cN (uR l i v))))):x3 (.ref a) (.int i) (enc v) G Q:=by
 unfold x3;simp only [h];refine⟨xl l i,by rw [tQ]; exact hs,?_⟩;rw [show (D.int i)=enc i from rfl,CO]; exact k
end
theorem AE{neg:Bool}{G:Gp}{d e:D}{l m:List (Int×Int)}{Q:DK}(h1:mH G d l)(h2:mH G e m)(k:Q (.bl (if neg then !sF l m else sF l m)) G):sm neg d e G Q:=.inr ⟨l,m,h1,h2,k⟩
theorem vt{neg:Bool}{G:Gp}{i j:Int}{Q:DK}(k:Q (.bl (if neg then !decide (i=j) else decide (i=j))) G):sm neg (.int i) (.int j) G Q:=.inl ⟨_,_,.int _,.int _,by
 have:iG (.int i) (.int j)=decide (i=j):=Enc.eqv i j;rw [this]; exact k⟩
end K2
end
section
namespace K2
open PySem (Str)
open Enc (enc)
noncomputable abbrev OU:=jh->fM->Gp->(List Str->Gp->Prop)->Prop
end K2
end
section
namespace K2
open PySem (Str)
open Enc (enc)
noncomputable def qg(x:D)(ds:List D)(G:Gp)(Q:DK):Prop:=match x,ds with
 | .ref a,[]=>(match G a with
  | some (.gT _)=>Q .gR (cy G a (.gT []))
  | _=>False)
 | _,_=>False
end K2
end
section
namespace K2
open PySem (Str)
open Enc (enc)
noncomputable def h2(t:T2):Int:=PySem.reduceHash (PySem.Builtin.Tuple.tupleHashOf [PySem.hashInt t.a,PySem.hashInt t.b])
end K2
end
section
namespace K2
open PySem (Str)
noncomputable def BP(al:List Str)(f:Str)(x:D)(G:Gp)(Q:DK):Prop:=∃ a c fs d,x=.ref a/\G a=some (.ins c fs)/\c∈al/\fs.lookup f=some d/\Q d G
noncomputable def bW(al:List Str)(f:Str)(te:fz):fz:=fun E τ G Q=>te E τ G fun x G1=>BP al f x G1 Q
end K2
namespace K2
open PySem (Str)
noncomputable def putD(f:Str)(d:D):List (Str×D)->List (Str×D)
 | []=>[(f,d)]
 | (g,x) :: r=>if g=f then (g,d) :: r else (g,x) :: putD f d r
noncomputable def gJ(al:List Str)(f:Str)(to tv:fz):gC:=fun E K τ G=>tv E τ G fun d G1=>to E τ G1 fun x G2=>∃ a c fs,x=.ref a/\G2 a=some (.ins c fs)/\c∈al/\fs.length < 1000/\K.nx τ (cy G2 a (.ins c (putD f d fs)))
noncomputable def dR(c:Str)(sp:jb)(t:tX):fz:=fun E τ G Q=>t E τ G fun ds G1=>∀ p,G1 p=none->sp (.ref p :: ds) (cy G1 p (.ins c [])) (fun v G2=>v=.gR/\Q (.ref p) G2) fun _ _=>False
end K2
namespace K2
open PySem (Str)
noncomputable def kT(all sub:List Str)(te:fz):fz:=fun E τ G Q=>te E τ G fun x G1=>∃ a c fs,x=.ref a/\G1 a=some (.ins c fs)/\all.contains c=true/\Q (.bl (sub.contains c)) G1
end K2
namespace K2
open PySem (Str)
noncomputable def jP(ms:List (Str×jb))(m:Str)(to:fz)(t:tX):fz:=fun E τ G Q=>to E τ G fun x G1=>∃ a c fs sp,x=.ref a/\G1 a=some (.ins c fs)/\(c,sp)∈ms/\fs.lookup m=none/\t E τ G1 fun ds G2=>sp (x :: ds) G2 Q fun _ _=>False
end K2
end
section
namespace K2
open PySem (Str)
noncomputable def BK(ds:List D)(G:Gp)(Q:DK):Prop:=match ds with
 | [x]=>(match lF x G with
  | some xs=>Q (.tup xs) G
  | none=>False)
 | _=>False
end K2
namespace K2
open PySem (Str)
noncomputable def Dm(t:uU):tW:=fun E d τ G Q=>match lF d G with
 | some ds=>t E ds τ G Q
 | none=>False
end K2
end
section
namespace K2
open PySem PySem.Spec PyProof.Rows L2
noncomputable def FP(K:ah)(H:Hp)(a:Addr)(xs:List V):Prop :=
 (∃ o,H a=some (.kQ o (.lst xs))) \/
  ∃ (o:Obj) (cH:Array Value) (n:Nat),K.lookup a=some o/\o.cls=.type "list"/\o.dict=none/\o.data=.seq cH n/\cH.size<=a4/\Vals xs cH.toList
theorem FP.sq{K:ah}{H:Hp}{a:Addr}{xs:List V}(h:FP K H a xs):p3 K H a xs:=by
 rcases h with ⟨o,h⟩ | h
 ·exact .inl (.inr ⟨o,h⟩)
 ·exact .inr h
noncomputable def dI:Key->D
 | .inl i=>.int i
 | .inr x=>.str x
noncomputable def ExcAt(K:ah)(H:Hp)(a:Addr)(c:Str):Prop:=∃ (o:Obj) (C:Addr),H a=some (.kQ o (.ext fun h=>h.get? a=some o))/\o.cls=.ref C/\cG K aX c=some (some (.ref C))
mutual
inductive ck (K:ah) (H:Hp):V->D->Prop
 | gR:ck K H .gR .gR
 | bl (b:Bool):ck K H (.bl b) (.bl b)
 | int (i:Int):ck K H (.int i) (.int i)
 | str (x:Str):ck K H (.str x) (.str x)
 | tup {a:Addr} {vs:List V} {ds:List D}:H a=some (.tup vs)->aY K H vs ds->ck K H (.ref a) (.tup ds)
 | dD {a:Addr} {vs:List V} {ds:List D}:FP K H a vs->aY K H vs ds->ck K H (.ref a) (.dD ds)
 | oH {a:Addr} {o:Obj} {kv:List (Key×V)} {aS:List (D×D)}:H a=some (.kQ o (.dK kv))->j9 K H kv aS->ck K H (.ref a) (.rY aS)
 | oG {a:Addr} {o:Obj} {kv:List (List Key×V)} {aS:List (D×D)}:H a=some (.kQ o (.dT kv))->k7 K H kv aS->ck K H (.ref a) (.rY aS)
 | ref (a:Addr):ck K H (.ref a) (.ref a)
 | exc {a:Addr} {c:Str}:ExcAt K H a c->ck K H (.ref a) (.exc c)
inductive aY (K:ah) (H:Hp):List V->List D->Prop
 | nil:aY K H [] []
 | cons {v:V} {d:D} {vs:List V} {ds:List D}:ck K H v d->aY K H vs ds->aY K H (v :: vs) (d :: ds)
inductive j9 (K:ah) (H:Hp):List (Key×V)->List (D×D)->Prop
 | nil:j9 K H [] []
 | cons {k:Key} {v:V} {d:D} {r:List (Key×V)} {t:List (D×D)}:ck K H v d->j9 K H r t->j9 K H ((k,v) :: r) ((dI k,d) :: t)
inductive k7 (K:ah) (H:Hp):List (List Key×V)->List (D×D)->Prop
 | nil:k7 K H [] []
 | cons {k:List Key} {v:V} {d:D} {r:List (List Key×V)} {t:List (D×D)}:ck K H v d->k7 K H r t->k7 K H ((k,v) :: r) ((.tup (k.map dI),d) :: t)
end
structure Kp(H H':Hp):Prop where
 tup:∀ a xs,H a=some (.tup xs)->H' a=some (.tup xs)
 kQ:∀ a o u,H a=some (.kQ o u)->H' a=some (.kQ o u)
theorem Kp.refl(H:Hp):Kp H H:=⟨fun _ _ h=>h,fun _ _ _ h=>h⟩
theorem Kp.trans{H H1 H2:Hp}(a:Kp H H1)(b:Kp H1 H2):Kp H H2:=⟨fun c xs h=>b.tup c xs (a.tup c xs h),fun c o u h=>b.kQ c o u (a.kQ c o u h)⟩
theorem Kp.L8{K:ah}{H H':Hp}{a:Addr}{xs:List V}(k:Kp H H')(h:r8 K H a xs):r8 K H' a xs:=by
 rcases h with (h | ⟨o,h⟩) | h
 ·exact .inl (.inl (k.tup _ _ h))
 ·exact .inl (.inr ⟨o,k.kQ _ _ _ h⟩)
 ·exact .inr h
theorem Kp.Gg{K:ah}{H H':Hp}{a:Addr}{xs:List V}(k:Kp H H')(h:FP K H a xs):FP K H' a xs:=by
 rcases h with ⟨o,h⟩ | h
 ·exact .inl ⟨o,k.kQ _ _ _ h⟩
 ·exact .inr h
theorem ExcAt.mono{K:ah}{H H':Hp}(k:Kp H H'){a:Addr}{c:Str}(h:ExcAt K H a c):ExcAt K H' a c :=
 let ⟨o,C,h1,h2,h3⟩:=h
 ⟨o,C,k.kQ _ _ _ h1,h2,h3⟩
theorem aY.xp{K:ah}{H:Hp}{P:List V->List D->Prop}(h0:P [] [])(h1:∀ {v:V} {d:D} {vs:List V} {ds:List D},ck K H v d->aY K H vs ds->P vs ds->P (v :: vs) (d :: ds)){vs:List V}{ds:List D}(h:aY K H vs ds):P vs ds :=
 aY.rec (motive_1:=fun _ _ _=>True) (motive_2:=fun vs ds _=>P vs ds) (motive_3:=fun _ _ _=>True) (motive_4:=fun _ _ _=>True) trivial (fun _=>trivial) (fun _=>trivial) (fun _=>trivial) (fun _ _ _=>trivial) (fun _ _ _=>trivial) (fun _ _ _=>trivial) (fun _ _ _=>trivial) (fun _=>trivial) (fun _=>trivial) h0 (fun a b _ ih=>h1 a b ih) trivial (fun _ _ _ _=>trivial) trivial (fun _ _ _ _=>trivial) h
theorem ck.mono{K:ah}{H H':Hp}(k:Kp H H'):∀ {v:V} {d:D},ck K H v d->ck K H' v d:=fun h =>
 ck.rec (motive_1:=fun v d _=>ck K H' v d) (motive_2:=fun v d _=>aY K H' v d) (motive_3:=fun v d _=>j9 K H' v d) (motive_4:=fun v d _=>k7 K H' v d)
  .gR .bl .int .str (fun h _ r=>.tup (k.tup _ _ h) r) (fun h _ r=>.dD (k.Gg h) r) (fun h _ r=>.oH (k.kQ _ _ _ h) r) (fun h _ r=>.oG (k.kQ _ _ _ h) r) .ref (fun h=>.exc (h.mono k)) .nil (fun _ _ a b=>.cons a b) .nil (fun _ _ a b=>.cons a b) .nil (fun _ _ a b=>.cons a b) h
theorem aY.mono{K:ah}{H H':Hp}(k:Kp H H'){v:List V}{d:List D}(h:aY K H v d):aY K H' v d :=
 aY.xp (P:=fun v d=>aY K H' v d) .nil (fun r _ ih=>.cons (r.mono k) ih) h
theorem j9.mono{K:ah}{H H':Hp}(k:Kp H H'){v:List (Key×V)}{d:List (D×D)}(h:j9 K H v d):j9 K H' v d :=
 j9.rec (motive_1:=fun v d _=>ck K H' v d) (motive_2:=fun v d _=>aY K H' v d) (motive_3:=fun v d _=>j9 K H' v d) (motive_4:=fun v d _=>k7 K H' v d)
  .gR .bl .int .str (fun h _ r=>.tup (k.tup _ _ h) r) (fun h _ r=>.dD (k.Gg h) r) (fun h _ r=>.oH (k.kQ _ _ _ h) r) (fun h _ r=>.oG (k.kQ _ _ _ h) r) .ref (fun h=>.exc (h.mono k)) .nil (fun _ _ a b=>.cons a b) .nil (fun _ _ a b=>.cons a b) .nil (fun _ _ a b=>.cons a b) h
theorem k7.mono{K:ah}{H H':Hp}(k:Kp H H'){v:List (List Key×V)}{d:List (D×D)}(h:k7 K H v d):k7 K H' v d :=
 k7.rec (motive_1:=fun v d _=>ck K H' v d) (motive_2:=fun v d _=>aY K H' v d) (motive_3:=fun v d _=>j9 K H' v d) (motive_4:=fun v d _=>k7 K H' v d)
  .gR .bl .int .str (fun h _ r=>.tup (k.tup _ _ h) r) (fun h _ r=>.dD (k.Gg h) r) (fun h _ r=>.oH (k.kQ _ _ _ h) r) (fun h _ r=>.oG (k.kQ _ _ _ h) r) .ref (fun h=>.exc (h.mono k)) .nil (fun _ _ a b=>.cons a b) .nil (fun _ _ a b=>.cons a b) .nil (fun _ _ a b=>.cons a b) h
theorem aY.length{K:ah}{H:Hp}:∀ {vs:List V} {ds:List D},aY K H vs ds->vs.length=ds.length:=fun h =>
 aY.xp (P:=fun vs ds=>vs.length=ds.length) rfl (fun _ _ ih=>congrArg (· + 1) ih) h
theorem aY.get{K:ah}{H:Hp}:∀ {vs:List V} {ds:List D} {i:Nat} {d:D},aY K H vs ds->ds[i]?=some d->∃ v,vs[i]?=some v/\ck K H v d:=by
 intro vs ds i d h;refine aY.xp (P:=fun vs ds=>∀ (i:Nat) (d:D),ds[i]?=some d->∃ v,vs[i]?=some v/\ck K H v d) (fun i d e=>by cases e) (fun r _ ih i d e=>?_) h i d;cases i with
 | zero=>cases e; exact⟨_,rfl,r⟩
 | succ i=>exact ih i d e
theorem aY.append{K:ah}{H:Hp}:∀ {vs ws:List V} {ds es:List D},aY K H vs ds->aY K H ws es->aY K H (vs++ws) (ds++es):=fun {_ ws _ es} h s =>
 aY.xp (P:=fun vs ds=>aY K H (vs++ws) (ds++es)) s (fun r _ ih=>.cons r ih) h
theorem aY.take{K:ah}{H:Hp}:∀ {vs:List V} {ds:List D} (n:Nat),aY K H vs ds->aY K H (vs.take n) (ds.take n):=fun {_ _} n h =>
 aY.xp (P:=fun vs ds=>∀ n,aY K H (vs.take n) (ds.take n)) (fun n=>by rw [rU,rU]; exact .nil) (fun r _ ih n=>by
  cases n with
  | zero=>exact .nil
  | succ n=>exact .cons r (ih n)) h n
theorem aY.drop{K:ah}{H:Hp}:∀ {vs:List V} {ds:List D} (n:Nat),aY K H vs ds->aY K H (vs.drop n) (ds.drop n):=fun {_ _} n h =>
 aY.xp (P:=fun vs ds=>∀ n,aY K H (vs.drop n) (ds.drop n)) (fun n=>by rw [rV,rV]; exact .nil) (fun r t ih n=>by
  cases n with
  | zero=>exact .cons r t
  | succ n=>exact ih n) h n
theorem aY.set{K:ah}{H:Hp}{v:V}{d:D}(r:ck K H v d):∀ {vs:List V} {ds:List D} (i:Nat),aY K H vs ds->aY K H (vs.set i v) (ds.set i d):=fun {_ _} i h =>
 aY.xp (P:=fun vs ds=>∀ i,aY K H (vs.set i v) (ds.set i d)) (fun i=>by rw [t9,t9]; exact .nil) (fun q t ih i=>by
  cases i with
  | zero=>exact .cons r t
  | succ i=>exact .cons q (ih i)) h i
theorem aY.one{K:ah}{H:Hp}:∀ {vs:List V} {d:D},aY K H vs [d]->∃ v,vs=[v]/\ck K H v d:=by
 intro vs d h;cases h with
 | cons r t=>cases t; exact⟨_,rfl,r⟩
theorem aY.two{K:ah}{H:Hp}:∀ {vs:List V} {d e:D},aY K H vs [d,e]->∃ v u,vs=[v,u]/\ck K H v d/\ck K H u e:=by
 intro vs d e h;cases h with
 | cons r t =>
  obtain⟨u,rfl,q⟩:=aY.one t;exact⟨_,_,rfl,r,q⟩
theorem aY.zero{K:ah}{H:Hp}:∀ {vs:List V},aY K H vs []->vs=[]
 | _,.nil=>rfl
theorem aY.ints{K:ah}{H:Hp}:∀ {vs:List V} {ns:List Int},aY K H vs (ns.map D.int)->vs=ns.map V.int:=by
 intro vs ns;induction ns generalizing vs with
 | nil=>intro h; exact h.zero
 | cons n ns ih =>
  intro h;cases h with
  | cons r t =>
   cases r;rw [ih t]; rfl
theorem aY.yc{K:ah}{H:Hp}:∀ (ns:List Int),aY K H (ns.map V.int) (ns.map D.int)
 | []=>.nil
 | n :: ns=>.cons (.int n) (aY.yc ns)
theorem j9.ind{K:ah}{H:Hp}{motive:∀ (kv:List (Key×V)) (aS:List (D×D)),j9 K H kv aS->Prop}(nil:motive [] [] .nil)
  (cons:∀ {k:Key} {v:V} {d:D} {r:List (Key×V)} {t:List (D×D)} (re:ck K H v d) (rs:j9 K H r t),motive r t rs->motive ((k,v) :: r) ((dI k,d) :: t) (.cons re rs)):∀ {kv:List (Key×V)} {aS:List (D×D)} (h:j9 K H kv aS),motive kv aS h:=fun h =>
 j9.rec (motive_1:=fun _ _ _=>True) (motive_2:=fun _ _ _=>True) (motive_3:=motive) (motive_4:=fun _ _ _=>True) trivial (fun _=>trivial) (fun _=>trivial) (fun _=>trivial) (fun _ _ _=>trivial) (fun _ _ _=>trivial) (fun _ _ _=>trivial) (fun _ _ _=>trivial) (fun _=>trivial) (fun _=>trivial) trivial (fun _ _ _ _=>trivial) nil (fun a b _ ih=>cons a b ih) trivial (fun _ _ _ _=>trivial) h
theorem k7.ind{K:ah}{H:Hp}{motive:∀ (kv:List (List Key×V)) (aS:List (D×D)),k7 K H kv aS->Prop}(nil:motive [] [] .nil)
  (cons:∀ {k:List Key} {v:V} {d:D} {r:List (List Key×V)} {t:List (D×D)} (re:ck K H v d) (rs:k7 K H r t),motive r t rs->motive ((k,v) :: r) ((.tup (k.map dI),d) :: t) (.cons re rs)):∀ {kv:List (List Key×V)} {aS:List (D×D)} (h:k7 K H kv aS),motive kv aS h:=fun h =>
 k7.rec (motive_1:=fun _ _ _=>True) (motive_2:=fun _ _ _=>True) (motive_3:=fun _ _ _=>True) (motive_4:=motive) trivial (fun _=>trivial) (fun _=>trivial) (fun _=>trivial) (fun _ _ _=>trivial) (fun _ _ _=>trivial) (fun _ _ _=>trivial) (fun _ _ _=>trivial) (fun _=>trivial) (fun _=>trivial) trivial (fun _ _ _ _=>trivial) trivial (fun _ _ _ _=>trivial) nil (fun a b _ ih=>cons a b ih) h
theorem j9.length{K:ah}{H:Hp}:∀ {v:List (Key×V)} {d:List (D×D)},j9 K H v d->v.length=d.length:=fun h =>
 j9.ind (motive:=fun v d _=>v.length=d.length) rfl (fun _ _ ih=>congrArg (· + 1) ih) h
theorem k7.length{K:ah}{H:Hp}:∀ {v:List (List Key×V)} {d:List (D×D)},k7 K H v d->v.length=d.length:=fun h =>
 k7.ind (motive:=fun v d _=>v.length=d.length) rfl (fun _ _ ih=>congrArg (· + 1) ih) h
noncomputable def zw(K:ah)(H:Hp)(a:Addr):GO->Prop
 | .lst ds=>∃ vs,H a=some (.lst vs)/\aY K H vs ds
 | .gT aS=>(∃ kv,H a=some (.dK kv)/\j9 K H kv aS)\/∃ kv,H a=some (.dT kv)/\k7 K H kv aS
 | .ins c fs=>∃ C dx fv,H a=some (.ins C dx fv)/\cG K aX c=some (some (.ref C))/\fv.map (·.1)=fs.map (·.1)/\aY K H (fv.map (·.2)) (fs.map (·.2))
noncomputable def kH(K:ah)(H:Hp)(G:Gp):Prop:=∀ a g,G a=some g->zw K H a g
theorem zw.dk{K:ah}{H:Hp}{a:Addr}{kv:List (Key×V)}{aS:List (D×D)}(h:H a=some (.dK kv))(r:j9 K H kv aS):zw K H a (.gT aS):=.inl ⟨kv,h,r⟩
theorem zw.dt{K:ah}{H:Hp}{a:Addr}{kv:List (List Key×V)}{aS:List (D×D)}(h:H a=some (.dT kv))(r:k7 K H kv aS):zw K H a (.gT aS):=.inr ⟨kv,h,r⟩
theorem zw.mono{K:ah}{H H':Hp}{a:Addr}{g:GO}(k:Kp H H')(e:H' a=H a)(h:zw K H a g):zw K H' a g:=by
 cases g with
 | lst ds=>obtain⟨vs,q,r⟩:=h; exact⟨vs,e.trans q,r.mono k⟩
 | ins c fs=>obtain⟨C,dx,fv,q,h1,h2,r⟩:=h; exact⟨C,dx,fv,e.trans q,h1,h2,r.mono k⟩
 | gT aS =>
  rcases h with ⟨kv,q,r⟩ | ⟨kv,q,r⟩
  ·exact .inl ⟨kv,e.trans q,r.mono k⟩
  ·exact .inr ⟨kv,e.trans q,r.mono k⟩
theorem zw.tracked{K:ah}{H:Hp}{a:Addr}{g:GO}(h:zw K H a g):H a≠none:=by
 cases g with
 | lst ds=>obtain⟨vs,q,r⟩:=h; rw [q]; simp
 | ins c fs=>obtain⟨C,dx,fv,q,_⟩:=h; rw [q]; simp
 | gT aS =>
  rcases h with ⟨kv,q,r⟩ | ⟨kv,q,r⟩
  ·rw [q]; simp
  ·rw [q]; simp
theorem kH.free{K:ah}{H:Hp}{G:Gp}{a:Addr}(h:kH K H G)(e:H a=none):G a=none:=by
 cases q:G a with
 | none=>rfl
 | some g=>exact absurd e (h a g q).tracked
theorem kH.GA{K:ah}{H:Hp}{G:Gp}{a:Addr}{xs:List V}(h:kH K H G)(e:H a=some (.tup xs)):G a=none:=by
 cases q:G a with
 | none=>rfl
 | some g =>
  have z:=h a g q;cases g with
  | lst ds=>obtain⟨vs,q,r⟩:=z; rw [e] at q; cases q
  | ins c fs=>obtain⟨C,dx,fv,q,_⟩:=z; rw [e] at q; cases q
  | gT aS =>
   rcases z with ⟨kv,q,r⟩ | ⟨kv,q,r⟩
   ·rw [e] at q; cases q
   ·rw [e] at q; cases q
theorem kH.GB{K:ah}{H:Hp}{G:Gp}{a:Addr}{o:Obj}{u:HO}(h:kH K H G)(e:H a=some (.kQ o u)):G a=none:=by
 cases q:G a with
 | none=>rfl
 | some g =>
  have z:=h a g q;cases g with
  | lst ds=>obtain⟨vs,q,r⟩:=z; rw [e] at q; cases q
  | ins c fs=>obtain⟨C,dx,fv,q,_⟩:=z; rw [e] at q; cases q
  | gT aS =>
   rcases z with ⟨kv,q,r⟩ | ⟨kv,q,r⟩
   ·rw [e] at q; cases q
   ·rw [e] at q; cases q
structure Mv(K:ah)(H:Hp)(G:Gp)(H':Hp)(G':Gp):Prop where
 keep:∀ a o,H a=some o->G a=none->H' a=some o/\G' a=none
 kc:∀ a,G a≠none->H' a≠none
 ab:kH K H' G'
theorem Mv.refl{K:ah}{H:Hp}{G:Gp}(h:kH K H G):Mv K H G H G:=⟨fun _ _ e n=>⟨e,n⟩,fun a n=>by
 cases q:G a with
 | none=>exact absurd q n
 | some g=>exact(h a g q).tracked,h⟩
theorem Mv.trans{K:ah}{H H1 H2:Hp}{G G1 G2:Gp}(a:Mv K H G H1 G1)(b:Mv K H1 G1 H2 G2):Mv K H G H2 G2 :=
 ⟨fun c o e n=>let ⟨e1,n1⟩:=a.keep c o e n; b.keep c o e1 n1,fun c n=>by
  have h1:=a.kc c n;cases q:G1 c with
  | some g=>exact b.kc c (by rw [q]; simp)
  | none =>
   cases q1:H1 c with
   | none=>exact absurd q1 h1
   | some o=>rw [(b.keep c o q1 q).1]; simp,b.ab⟩
theorem Mv.kp{K:ah}{H H':Hp}{G G':Gp}(m:Mv K H G H' G')(h:kH K H G):Kp H H' :=
 ⟨fun a xs e=>(m.keep a _ e (h.GA e)).1,fun a o u e=>(m.keep a _ e (h.GB e)).1⟩
theorem Kp.new{H:Hp}{p:Addr}{o:HO}(hp:H p=none):Kp H (upd H p o):=⟨fun a xs e=>by rw [bK (c7 e hp)]; exact e,fun a ob u e=>by rw [bK (c7 e hp)]; exact e⟩
theorem Kp.putL{H:Hp}{p:Addr}{xs:List V}{o:HO}(hp:H p=some (.lst xs)):Kp H (upd H p o) :=
 ⟨fun a ys e=>by rw [bK (by rintro rfl; rw [hp] at e; cases e)]; exact e,fun a ob u e=>by rw [bK (by rintro rfl; rw [hp] at e; cases e)]; exact e⟩
theorem Mv.new{K:ah}{H:Hp}{G:Gp}{p:Addr}{o:HO}{g:GO}(h:kH K H G)(hp:H p=none)(ho:zw K (upd H p o) p g):Mv K H G (upd H p o) (cy G p g) where
 keep:=fun a ob e n=>by
  have ne:=c7 e hp;exact⟨by rw [bK ne]; exact e,by rw [gj ne]; exact n⟩
 kc:=fun a n=>by
  have ne:a≠p:=by rintro rfl; exact n (h.free hp)
  rw [bK ne];exact(Mv.refl h).kc a n
 ab:=fun a g' e=>by
  by_cases ha:a=p
  ·subst ha; rw [aG] at e; cases e; exact ho
  ·rw [gj ha] at e;exact(h a g' e).mono (.new hp) (bK ha)
theorem Mv.EY{K:ah}{H:Hp}{G:Gp}{p:Addr}{o:HO}(h:kH K H G)(hp:H p=none):Mv K H G (upd H p o) G where
 keep:=fun a ob e n=>⟨by rw [bK (c7 e hp)]; exact e,n⟩
 kc:=fun a n=>by
  have ne:a≠p:=by rintro rfl; exact n (h.free hp)
  rw [bK ne];exact(Mv.refl h).kc a n
 ab:=fun a g' e=>by
  have ne:a≠p:=by rintro rfl; rw [h.free hp] at e; cases e
  exact(h a g' e).mono (.new hp) (bK ne)
theorem Mv.put{K:ah}{H:Hp}{G:Gp}{p:Addr}{o:HO}{g g0:GO}(h:kH K H G)(hg:G p=some g0)(k:Kp H (upd H p o))(ho:zw K (upd H p o) p g):Mv K H G (upd H p o) (cy G p g) where
 keep:=fun a ob e n=>by
  have ne:a≠p:=by rintro rfl; rw [hg] at n; cases n
  exact⟨by rw [bK ne]; exact e,by rw [gj ne]; exact n⟩
 kc:=fun a n=>by
  by_cases ha:a=p
  ·subst ha; rw [bR]; simp
  ·rw [bK ha]; exact(Mv.refl h).kc a n
 ab:=fun a g' e=>by
  by_cases ha:a=p
  ·subst ha; rw [aG] at e; cases e; exact ho
  ·rw [gj ha] at e;exact(h a g' e).mono k (bK ha)
theorem kH.lst{K:ah}{H:Hp}{G:Gp}{a:Addr}{ds:List D}(h:kH K H G)(e:G a=some (.lst ds)):∃ vs,H a=some (.lst vs)/\aY K H vs ds:=h a _ e
theorem Mv.De{K:ah}{H:Hp}{G:Gp}{p:Addr}{vs:List V}{ds:List D}(h:kH K H G)(hp:H p=none)(r:aY K H vs ds):Mv K H G (upd H p (.lst vs)) (cy G p (.lst ds)) :=
 .new h hp ⟨vs,bR,r.mono (.new hp)⟩
theorem Mv.putL{K:ah}{H:Hp}{G:Gp}{p:Addr}{L3 vs:List V}{NJ ds:List D}(h:kH K H G)(hg:G p=some (.lst NJ))(hp:H p=some (.lst L3))(r:aY K H vs ds):Mv K H G (upd H p (.lst vs)) (cy G p (.lst ds)) :=
 .put h hg (.putL hp) ⟨vs,bR,r.mono (.putL hp)⟩
structure Cd(K:ah)(H:Hp)(σ:L2.St)(τ:fM):Prop where
 len:σ.length=τ.length
 at':∀ (i:Nat) (d:D),τ[i]?=some (some d)->∃ v,σ[i]?=some (some v)/\ck K H v d
theorem Cd.mono{K:ah}{H H':Hp}{σ:L2.St}{τ:fM}(k:Kp H H')(a:Cd K H σ τ):Cd K H' σ τ :=
 ⟨a.len,fun i d e=>let ⟨v,h1,h2⟩:=a.at' i d e; ⟨v,h1,h2.mono k⟩⟩
theorem Cd.set{K:ah}{H:Hp}{σ:L2.St}{τ:fM}{v:V}{d:D}(a:Cd K H σ τ)(i:Nat)(r:ck K H v d):Cd K H (σ.set i (some v)) (τ.set i (some d)):=by
 refine⟨by rw [wo,wo]; exact a.len,fun j e h=>?_⟩;by_cases hj:i=j
 ·subst hj;by_cases hi:i < τ.length
  ·rw [iB hi] at h;cases h;exact⟨v,by rw [iB (by rw [a.len]; exact hi)],r⟩
  ·rw [List.set_eq_of_length_le (by lia)] at h;rw [BX (by lia)] at h;cases h
 ·rw [jz hj] at h;obtain⟨w,h1,h2⟩:=a.at' j e h;exact⟨w,by rw [jz hj]; exact h1,h2⟩
structure I2(X:Cx)(pins:List (Addr×Obj))(σ:L2.St)(H:Hp)(τ:fM)(G:Gp)(s:aw):Prop where
 inv:Inv X pins σ H s
 st:Cd X.K H σ τ
 ab:kH X.K H G
theorem I2.mv{X:Cx}{pins:List (Addr×Obj)}{σ:L2.St}{H H':Hp}{τ:fM}{G G':Gp}{s s':aw}(I:I2 X pins σ H τ G s)(I':Inv X pins σ H' s')(m:Mv X.K H G H' G'):I2 X pins σ H' τ G' s' :=
 ⟨I',I.st.mono (m.kp I.ab),m.ab⟩
noncomputable def OE(P:bx)(w:World):yD:=fun outer H s E e s'=>∃ (a C t:Addr) (B:Heap) (H':Hp),e=.ref a/\s'.os=s.os/\ub s'.gens/\Un (zH outer) [] H H' s.heap s'.heap/\nh P w H' s'.heap /\
 (∀ b o,s'.heap.get? b=some o->b∉zH outer->(s.heap.get? b≠none\/H' b≠none)->B.get? b=some o)/\PySem.Heap.FlyingW B outer a (.ref C) (.ref t) s'.heap/\H' a=none/\s.heap.get? a=none/\E (.ref C) none H'
noncomputable def NH(mg:Str->Option Value)(E:jh):XK:=fun cls _ _=>∃ (ex:Ex) (C:Addr),cls=.ref C/\mg ex.cls=some (.ref C)/\E ex (fun _=>none)
structure Lk(X:Cx)(E:jh):Prop where
 made:∀ (pins:List (Addr×Obj)) (σ:L2.St) (H:Hp) (s:aw) (h1:Heap) (a C:Addr) (args:List Value) (ex:Ex),Inv X pins σ H s->PySem.Heap.MadeExcOf s.heap h1 a (.ref C) args->X.mg ex.cls=some (.ref C)->E ex (fun _=>none)->X.xe (.ref a) { s with heap:=h1 }
 pass:∀ (pins:List (Addr×Obj)) (σ:L2.St) (H:Hp) (s s':aw) (e:Value),Inv X pins σ H s->OE X.prog X.w X.stack H s (NH X.mg E) e s'->X.xe e s'
theorem Lk.none{X:Cx}{E:jh}(h:∀ ex G,¬ E ex G):Lk X E where
 made:=fun _ _ _ _ _ _ _ _ ex _ _ _ z=>absurd z (h ex _)
 pass:=fun _ _ _ _ _ _ _ hc=>by
  obtain⟨_,_,_,_,_,_,_,_,_,_,_,_,_,_,hz⟩:=hc;obtain⟨ex,_,_,_,z⟩:=hz;exact absurd z (h ex _)
inductive p9 (X:Cx) (pins:List (Addr×Obj)) (σ:L2.St) (H:Hp) (G:Gp) (Q:DK) (u:Value) (s':aw):Prop
 | mk (v:V) (H':Hp) (d:D) (G':Gp) (i:Inv X pins σ H' s') (m:Mv X.K H G H' G') (r:RelV v u) (rd:ck X.K H' v d) (q:Q d G'):p9 X pins σ H G Q u s'
inductive FO (X:Cx) (pins:List (Addr×Obj)) (σ:L2.St) (H:Hp) (G:Gp) (Q:Bool->Gp->Prop) (b:Bool) (s':aw):Prop
 | mk (H':Hp) (G':Gp) (i:Inv X pins σ H' s') (m:Mv X.K H G H' G') (q:Q b G'):FO X pins σ H G Q b s'
inductive LX (X:Cx) (pins:List (Addr×Obj)) (σ:L2.St) (H:Hp) (G:Gp) (Q:List D->Gp->Prop) (us:List Value) (s':aw):Prop
 | mk (vs:List V) (H':Hp) (ds:List D) (G':Gp) (i:Inv X pins σ H' s') (m:Mv X.K H G H' G') (r:Vals vs us) (rd:aY X.K H' vs ds) (q:Q ds G'):LX X pins σ H G Q us s'
inductive Ih (X:Cx) (pins:List (Addr×Obj)) (H:Hp) (G:Gp) (P:fM->Gp->Prop) (s':aw):Prop
 | mk (gy:L2.St) (H':Hp) (kX:fM) (G':Gp) (i:I2 X pins gy H' kX G' s') (m:Mv X.K H G H' G') (q:P kX G'):Ih X pins H G P s'
inductive LQ (X:Cx) (pins:List (Addr×Obj)) (H:Hp) (G:Gp) (P:D->Gp->Prop) (u:Value) (s':aw):Prop
 | mk (v:V) (gy:L2.St) (H':Hp) (d:D) (G':Gp) (i:Inv X pins gy H' s') (m:Mv X.K H G H' G') (r:RelV v u) (rd:ck X.K H' v d) (q:P d G'):LQ X pins H G P u s'
noncomputable def Fs(X:Cx)(pins:List (Addr×Obj))(H:Hp)(G:Gp)(D:ju)(f:Flow)(s':aw):Prop :=
 match f with
 | .next=>Ih X pins H G D.nx s'
 | .brk=>Ih X pins H G D.bk s'
 | .cont=>Ih X pins H G D.ct s'
 | .ret u=>LQ X pins H G D.rt u s'
noncomputable def fE(X:Cx)(e:Expr)(t:fz):Prop :=
 ∀ (E:jh) (pins:List (Addr×Obj)) (s:aw) (σ:L2.St) (H:Hp) (τ:fM) (G:Gp) (Q:DK),Lk X E->I2 X pins σ H τ G s->t E τ G Q->wpAny (model X.prog X.w) X.A (eval e X.env) (p9 X pins σ H G Q) X.xe s
noncomputable def B8(X:Cx)(e:Expr)(t:v8):Prop :=
 ∀ (E:jh) (pins:List (Addr×Obj)) (s:aw) (σ:L2.St) (H:Hp) (τ:fM) (G:Gp) (Q:Bool->Gp->Prop),Lk X E->I2 X pins σ H τ G s->t E τ G Q->wpAny (model X.prog X.w) X.A (isTrue e X.env (eval e X.env)) (FO X pins σ H G Q) X.xe s
noncomputable def zt(X:Cx)(e:Expr)(t:v8):Prop :=
 ∀ (wh:Sem Value) (E:jh) (pins:List (Addr×Obj)) (s:aw) (σ:L2.St) (H:Hp) (τ:fM) (G:Gp) (Q:Bool->Gp->Prop),Lk X E->I2 X pins σ H τ G s->t E τ G Q->wpAny (model X.prog X.w) X.A (isTrue e X.env wh) (FO X pins σ H G Q) X.xe s
noncomputable def xG(X:Cx)(es:List Expr)(t:tX):Prop :=
 ∀ (pos:Pos) (E:jh) (pins:List (Addr×Obj)) (s:aw) (σ:L2.St) (H:Hp) (τ:fM) (G:Gp) (Q:List D->Gp->Prop),Lk X E->I2 X pins σ H τ G s->t E τ G Q->wpAny (model X.prog X.w) X.A (zM (ib pos (bw es X.env))) (LX X pins σ H G Q) X.xe s
noncomputable def xF(X:Cx)(st:Stmt)(t:gC):Prop :=
 ∀ (E:jh) (pins:List (Addr×Obj)) (s:aw) (σ:L2.St) (H:Hp) (τ:fM) (G:Gp) (D:ju),Lk X E->I2 X pins σ H τ G s->t E D τ G->wpAny (model X.prog X.w) X.A (exec st X.env) (Fs X pins H G D) X.xe s
noncomputable def sR(X:Cx)(st:List Stmt)(t:gC):Prop :=
 ∀ (E:jh) (pins:List (Addr×Obj)) (s:aw) (σ:L2.St) (H:Hp) (τ:fM) (G:Gp) (D:ju),Lk X E->I2 X pins σ H τ G s->t E D τ G->wpAny (model X.prog X.w) X.A (execs st X.env) (Fs X pins H G D) X.xe s
theorem Fs.trans{X:Cx}{pins:List (Addr×Obj)}{H H1:Hp}{G G1:Gp}{D:ju}{f:Flow}{s':aw}(m:Mv X.K H G H1 G1)(h:Fs X pins H1 G1 D f s'):Fs X pins H G D f s':=by
 cases f with
 | next=>obtain⟨gy,H',kX,G',I,m',q⟩:=h; exact⟨gy,H',kX,G',I,m.trans m',q⟩
 | brk=>obtain⟨gy,H',kX,G',I,m',q⟩:=h; exact⟨gy,H',kX,G',I,m.trans m',q⟩
 | cont=>obtain⟨gy,H',kX,G',I,m',q⟩:=h; exact⟨gy,H',kX,G',I,m.trans m',q⟩
 | ret u=>obtain⟨v,gy,H',d,G',I,m',r,rd,q⟩:=h; exact⟨v,gy,H',d,G',I,m.trans m',r,rd,q⟩
section
variable {X:Cx} {a b c:Expr} {ta tb tc:fz} {pos:Pos}
theorem ig{pins:List (Addr×Obj)}{σ:L2.St}{H:Hp}{τ:fM}{G:Gp}{s:aw}{E:jh}{R:DK}{Q:Value->aw->Prop}(ha:fE X a ta)(hE:Lk X E)(I:I2 X pins σ H τ G s)(h:ta E τ G R)
  (k:∀ v H1 d G1 u s1,I2 X pins σ H1 τ G1 s1->Mv X.K H G H1 G1->RelV v u->ck X.K H1 v d->R d G1->Q u s1):wpAny (model X.prog X.w) X.A (eval a X.env) Q X.xe s :=
 fh (ha E pins s σ H τ G R hE I h) (by rintro u s1 ⟨v,H1,d,G1,I1,m,r,rd,q⟩; exact k v H1 d G1 u s1 (I.mv I1 m) m r rd q)
theorem p9.trans{pins:List (Addr×Obj)}{σ:L2.St}{H H1:Hp}{G G1:Gp}{Q:DK}{u:Value}{s':aw}(m:Mv X.K H G H1 G1)(h:p9 X pins σ H1 G1 Q u s'):p9 X pins σ H G Q u s':=by
 obtain⟨v,H',d,G',I,m',r,rd,q⟩:=h;exact⟨v,H',d,G',I,m.trans m',r,rd,q⟩
theorem FO.trans{pins:List (Addr×Obj)}{σ:L2.St}{H H1:Hp}{G G1:Gp}{Q:Bool->Gp->Prop}{u:Bool}{s':aw}(m:Mv X.K H G H1 G1)(h:FO X pins σ H1 G1 Q u s'):FO X pins σ H G Q u s':=by
 obtain⟨H',G',I,m',r⟩:=h;exact⟨H',G',I,m.trans m',r⟩
theorem CU {i:Nat} {x:Str} (hN:X.N[i]?=some x) (hv:Ie X.env.scope x) (hd:autoParam ((x == ("__debug__" : Str))=false) Ad._auto_1) (yu:autoParam ((x == ("__classdict__" : Str))=false) Ad._auto_1):fE X (.Name x pos) (ak i):=by
 intro E pins s σ H τ G Q hE I h;unfold ak at h;split at h
 ·rename_i d e;obtain⟨v,h1,h2⟩:=I.st.at' i d e;exact fh (Ew hN hv hd yu pins s σ H (fun v' H'=>v'=v/\H'=H) I.inv ⟨v,h1,rfl,rfl⟩) fun u s1 GY=>by
   obtain⟨v',H',I1,r,e1,e2⟩:=GY;subst e1; subst e2;exact⟨_,_,d,G,I1,.refl I.ab,r,h2,h⟩
 ·exact h.elim
theorem oM{e:Expr}{v:V}{d:D}(h:PE X e (tC v))(r:∀ K H,ck K H v d):fE X e (dC d):=by
 intro E pins s σ H τ G Q hE I hq;exact fh (h pins s σ H (fun v' H'=>v'=v/\H'=H) I.inv ⟨rfl,rfl⟩) fun u s1 xq=>by
  obtain⟨v',H',I1,rr,e1,e2⟩:=xq;subst e1; subst e2;exact⟨_,_,d,G,I1,.refl I.ab,rr,r _ _,hq⟩
theorem av{i j}:fE X (.Constant (.int i) j pos) (dC (.int i)):=oM Ez fun _ _=>.int i
noncomputable def mr(X:Cx)(f:Value->Value->Sem Value)(r:wC):Prop :=
 ∀ (pins:List (Addr×Obj)) (s:aw) (σ:L2.St) (H:Hp) (G:Gp) (x y:V) (dx dy:D) (v u:Value) (Q:DK),Inv X pins σ H s->kH X.K H G->RelV x v->RelV y u->ck X.K H x dx->ck X.K H y dy->r dx dy G Q ->
  wpAny (model X.prog X.w) X.A (f v u) (p9 X pins σ H G Q) X.xe s
noncomputable def rR(X:Cx)(f:Value)(r:List D->Gp->DK->Prop):Prop :=
 ∀ (pins:List (Addr×Obj)) (s:aw) (σ:L2.St) (H:Hp) (G:Gp) (xs:List V) (ds:List D) (us:List Value) (Q:DK),Inv X pins σ H s->kH X.K H G->Vals xs us->aY X.K H xs ds->r ds G Q ->
  wpAny (model X.prog X.w) X.A (call f us) (p9 X pins σ H G Q) X.xe s
noncomputable abbrev sQ(K:ah)(H:Hp)(G:Gp)(Q:DK):VK:=fun v H'=>∃ d G',Mv K H G H' G'/\ck K H' v d/\Q d G'
theorem p9.of{pins:List (Addr×Obj)}{σ:L2.St}{H:Hp}{G:Gp}{Q:DK}{u:Value}{s':aw}(h:EP X pins σ (sQ X.K H G Q) u s'):p9 X pins σ H G Q u s':=by
 obtain⟨v,H',I,r,d,G',m,rd,q⟩:=h;exact⟨v,H',d,G',I,m,r,rd,q⟩
theorem BO(ha:fE X a ta)(hb:fE X b tb){E:jh}{pins:List (Addr×Obj)}{s:aw}{σ:L2.St}{H:Hp}{τ:fM}{G:Gp}{R:D->D->Gp->Prop}(hE:Lk X E)(I:I2 X pins σ H τ G s)
  (h:ta E τ G fun x G1=>tb E τ G1 fun y G2=>R x y G2) {Q:Value->aw->Prop} {f:Value->Value->Sem Value}
  (hf:∀ v u s2 x y dx dy H2 G2,I2 X pins σ H2 τ G2 s2->Mv X.K H G H2 G2->RelV x v->RelV y u->ck X.K H2 x dx->ck X.K H2 y dy->R dx dy G2->wpAny (model X.prog X.w) X.A (f v u) Q X.xe s2) :
  wpAny (model X.prog X.w) X.A (eval a X.env) (fun v dG=>wpAny (model X.prog X.w) X.A (eval b X.env) (fun u ug=>wpAny (model X.prog X.w) X.A (f v u) Q X.xe ug) X.xe dG) X.xe s:=by
 refine ig ha hE I h fun x H1 dx G1 v s1 I1 m1 r1 hX q1=>?_;refine ig hb hE I1 q1 fun y H2 dy G2 u s2 ji m2 r2 wy q2=>?_;exact hf v u s2 x y dx dy H2 G2 ji (m1.trans m2) r1 r2 (hX.mono (m2.kp I1.ab)) wy q2
theorem cq{op:Operator}{r:wC}(ho:mr X (fW op) r)(ha:fE X a ta)(hb:fE X b tb):fE X (.BinOp a op b pos) (aI r ta tb):=by
 intro E pins s σ H τ G Q hE I h;exact wpAny_BinOp (BO ha hb hE I h fun v u s2 x y dx dy H2 G2 ji m rx ry dX dY q=>fh (ho pins s2 σ H2 G2 x y dx dy v u Q ji.inv ji.ab rx ry dX dY q) fun _ _ z=>z.trans m)
theorem CZ{op:CmpOp}{r:wC}(ho:mr X (gE op) r)(ha:fE X a ta)(hb:fE X b tb)(hm:behindInMarks op b=false):fE X (.Compare a [op] [b] pos) (aI r ta tb):=by
 intro E pins s σ H τ G Q hE I h;exact wpAny_Compare1 (BO ha hb hE I h fun v u s2 x y dx dy H2 G2 ji m rx ry dX dY q=>fh (ho pins s2 σ H2 G2 x y dx dy v u Q ji.inv ji.ab rx ry dX dY q) fun _ _ z=>z.trans m) hm
end
end K2
end
section
namespace K2
open PySem PySem.Spec PyProof.Rows L2
theorem Gb{K:ah}{H:Hp}{G:Gp}{x:V}{d:D}{k:Bool}(ab:kH K H G)(r:ck K H x d)(e:B4 d G=some k):(∃ p,x=.ref p/\Rd H p (.dT [])/\k=false)\/(∃ p kv,x=.ref p/\Rd H p (.dK kv)/\k=!kv.isEmpty)\/Fq K x H k:=by
 have Bx:∀ aS:List (D×D),(if (aS.all fun p=>dw p.1)=true then some (!aS.isEmpty) else none)=some k->∀ p,((∃ kv,Rd H p (.dK kv)/\j9 K H kv aS)\/∃ kv,Rd H p (.dT kv)/\k7 K H kv aS) ->
   (∃ p',V.ref p=.ref p'/\Rd H p' (.dT [])/\k=false)\/(∃ p' kv,V.ref p=.ref p'/\Rd H p' (.dK kv)/\k=!kv.isEmpty)\/Fq K (.ref p) H k:=by
  intro aS e p z;by_cases ha:(aS.all fun p=>dw p.1)=true
  ·rw [if_pos ha] at e;cases e;rcases z with ⟨kv,hv,rs⟩ | ⟨kv,hv,rs⟩
   ·right; left;refine⟨p,kv,rfl,hv,?_⟩;cases rs <;> rfl
   ·left;cases rs with
    | nil=>exact⟨p,rfl,hv,rfl⟩
    | cons _ _=>simp [dw] at ha
  ·rw [if_neg ha] at e; cases e
 cases r with
 | gR=>right; right; cases e; rfl
 | bl b=>right; right; cases e; rfl
 | int i=>right; right; cases e; rfl
 | str y =>
  right; right;unfold B4 at e;dsimp only at e;by_cases h:y.length<=SZ
  ·rw [if_pos h] at e; cases e; exact⟨by rw [cM]; exact h,rfl⟩
  ·rw [if_neg h] at e; cases e
 | tup h rs =>
  right; right;cases e;refine .inr (.inl ⟨_,.of h,?_⟩);cases rs <;> rfl
 | dD h rs =>
  right; right;cases e;refine .inl ⟨_,h.sq,?_⟩;cases rs <;> rfl
 | oH h rs=>exact Bx _ e _ (.inl ⟨_,.inr ⟨_,h⟩,rs⟩)
 | oG h rs=>exact Bx _ e _ (.inr ⟨_,.inr ⟨_,h⟩,rs⟩)
 | exc h=>simp [B4] at e
 | ref a =>
  unfold B4 at e;dsimp only at e;cases q:G a with
  | none=>rw [q] at e; cases e
  | some g =>
   rw [q] at e;have z:=ab a g q;cases g with
   | lst ds =>
    right; right;obtain⟨vs,hv,rs⟩:=z;cases e;refine .inl ⟨vs,.of hv,?_⟩;cases rs <;> rfl
   | ins _ _=>cases e
   | gT aS =>
    refine Bx aS e a ?_;rcases z with ⟨kv,hv,rs⟩ | ⟨kv,hv,rs⟩
    ·exact .inl ⟨kv,.inl hv,rs⟩
    ·exact .inr ⟨kv,.inl hv,rs⟩
section
variable {X:Cx} {a b c:Expr} {ta tb tc:fz} {pos:Pos}
noncomputable def Hx(X:Cx):Prop:=∀ (pins:List (Addr×Obj)) (s:aw) (σ:L2.St) (H:Hp) (G:Gp) (x:V) (d:D) (v:Value) (k:Bool) (Q:Bool->aw->Prop),Inv X pins σ H s->kH X.K H G->RelV x v->ck X.K H x d->B4 d G=some k ->
  (∀ s',Inv X pins σ H s'->Q k s')->wpAny (model X.prog X.w) X.A (truthy v) Q X.xe s
theorem z7:Hx X:=by
 intro pins s σ H G x d v k Q I ab rx rd e q;rcases Gb ab rd e with ⟨p,rfl,hv,hk⟩ | ⟨p,kv,rfl,hv,hk⟩ | h
 ·obtain⟨z,hS,xs,rel,o,es,ep,ho,hx,vH,hl,nd⟩:=hv.ok I.dn;have JH:xs=[]:=by cases rel; rfl
  subst JH;have he:es=#[]:=by simpa using hl
  subst he;cases rx;have dd:s.heap.DictOf (dm X.prog X.w) p []:=⟨o,#[],ep,ho,hx,vH,(fun _ h=>by simp at h),.nil,fN⟩;refine wD hS dd (by simp) ?_;subst hk;exact q _ (I.tok _)
 ·cases rx;subst hk;exact Dt I hv q
 ·exact fh (Ef pins s σ H x v (fun k' H'=>k'=k/\H'=H) I rx ⟨k,h,rfl,rfl⟩) fun k' s' GY=>by
   obtain⟨H',I',e1,e2⟩:=GY;subst e1; subst e2; exact q s' I'
theorem cW(ha:fE X a ta)(he:autoParam (∀ whole,isTrue a X.env whole=(do let v ← whole; standAt a.pos; holding [v] (truthy v))) Ai._auto_1):B8 X a (di ta):=by
 intro E pins s σ H τ G Q hE I h;refine isTrue_plain (ig ha hE I h fun x H1 d G1 v s1 I1 m1 r1 hX q1=>?_) (he _)
 try dsimp only at q1
 split at q1
 ·rename_i k e;exact z7 pins s1 σ H1 G1 x d v k _ I1.inv I1.ab r1 hX e fun s' I'=>⟨H1,G1,I',m1,q1⟩
 ·exact q1.elim
theorem bV{op:CmpOp}{r:wC}(ho:mr X (gE op) r)(ha:fE X a ta)(hb:fE X b tb)(hm:behindInMarks op b=false):B8 X (.Compare a [op] [b] pos) (di (aI r ta tb)):=by
 intro E pins s σ H τ G Q hE I h;refine wpAny_isTrue_Compare1 (ig ha hE I h fun x H1 dx G1 v s1 I1 m1 r1 hX q1=>ig hb hE I1 q1 fun y H2 dy G2 u s2 ji m2 r2 wy q2 =>
  fh (ho pins s2 σ H2 G2 x y dx dy v u _ ji.inv ji.ab r1 r2 (hX.mono (m2.kp I1.ab)) wy q2) ?_) hm
 rintro c s3 ⟨z,H3,dz,G3,I3,m3,r3,IH,q3⟩
 try dsimp only at q3
 split at q3
 ·rename_i k e;exact z7 pins s3 σ H3 G3 z dz c k _ I3 m3.ab r3 IH e fun s' I'=>⟨H3,G3,I',(m1.trans m2).trans m3,q3⟩
 ·exact q3.elim
variable {tA tB:v8} {rest:List Expr}
theorem zt.pt{e:Expr}{t:v8}(h:zt X e t):B8 X e t:=fun E pins s σ H τ G Q hE I q=>h _ E pins s σ H τ G Q hE I q
theorem Eh{pins:List (Addr×Obj)}{σ:L2.St}{H:Hp}{τ:fM}{G:Gp}{s:aw}{E:jh}{R:Bool->Gp->Prop}{Q:Bool->aw->Prop}(ha:B8 X a tA)(hE:Lk X E)(I:I2 X pins σ H τ G s)(h:tA E τ G R)
  (k:∀ c H1 G1 s1,I2 X pins σ H1 τ G1 s1->Mv X.K H G H1 G1->R c G1->Q c s1):wpAny (model X.prog X.w) X.A (isTrue a X.env (eval a X.env)) Q X.xe s :=
 fh (ha E pins s σ H τ G R hE I h) (by rintro c s1 ⟨H1,G1,I1,m,q⟩; exact k c H1 G1 s1 (I.mv I1 m) m q)
theorem jm(ha:B8 X a tA):zt X (.BoolOp .Or [a] pos) tA:=by
 intro wh E pins s σ H τ G Q hE I h;refine isTrue_or (fh (ha E pins s σ H τ G Q hE I h) fun c s1 e=>?_);cases c with
 | false=>exact isTrue_or_nil e
 | true=>exact e
theorem kh(ha:B8 X a tA)(hb:zt X (.BoolOp .Or (b :: rest) pos) tB):zt X (.BoolOp .Or (a :: b :: rest) pos) (sM tA tB):=by
 intro wh E pins s σ H τ G Q hE I h;refine isTrue_or (Eh ha hE I h fun c H1 G1 s1 I1 m1 q1=>?_);cases c with
 | false=>exact fh (hb wh E pins s1 σ H1 τ G1 Q hE I1 (by simpa using q1)) fun _ _ z=>z.trans m1
 | true=>exact⟨H1,G1,I1.inv,m1,by simpa using q1⟩
theorem hZ(ha:B8 X a tA):B8 X (.UnaryOp .Not a pos) (i6 tA):=by
 intro E pins s σ H τ G Q hE I h;exact isTrue_not (fh (ha E pins s σ H τ G (fun c H1=>Q (!c) H1) hE I h) (by rintro c s' ⟨H',G',i,m,q⟩; exact⟨H',G',i,m,q⟩))
theorem CV{op}{t:fz}(h:fE X a t):fE X (.BoolOp op [a] pos) t:=fun E pins s σ H τ G Q hE I hw=>BoolOp_one (h E pins s σ H τ G Q hE I hw)
theorem C1(ha:fE X a ta)(hb:fE X (.BoolOp .And (b :: rest) pos) tb):fE X (.BoolOp .And (a :: b :: rest) pos) (yx ta tb):=by
 intro E pins s σ H τ G Q hE I h;refine BoolOp_and (ig ha hE I h fun x H1 d G1 v s1 I1 m1 r1 hX q1=>?_)
 try dsimp only at q1
 split at q1
 ·rename_i e;exact z7 pins s1 σ H1 G1 x d v true _ I1.inv I1.ab r1 hX e fun s' I'=>fh (hb E pins s' σ H1 τ G1 Q hE ⟨I',I1.st,I1.ab⟩ q1) fun _ _ z=>z.trans m1
 ·rename_i e;exact z7 pins s1 σ H1 G1 x d v false _ I1.inv I1.ab r1 hX e fun s' I'=>⟨x,H1,d,G1,I',m1,r1,hX,q1⟩
 ·exact q1.elim
theorem CW(ha:fE X a ta):fE X (.UnaryOp .Not a pos) (BE ta):=by
 intro E pins s σ H τ G Q hE I h;refine UnaryOp_ (ig ha hE I h fun x H1 d G1 v s1 I1 m1 r1 hX q1=>?_)
 try dsimp only at q1
 split at q1
 ·rename_i k e;exact not_of (z7 pins s1 σ H1 G1 x d v k _ I1.inv I1.ab r1 hX e fun s' I'=>⟨.bl (!k),H1,.bl (!k),G1,I',m1,rfl,.bl _,q1⟩)
 ·exact q1.elim
variable {e:Expr} {es:List Expr} {te:fz} {t:tX}
theorem az:xG X [] aL:=fun _ _ _ _ _ H _ G Q _ I h=>sd ⟨[],H,[],G,I.inv,.refl I.ab,.nil,.nil,h⟩
theorem ae(ha:fE X e te)(hr:xG X es t)(hs:autoParam (bw (e :: es) X.env=(false,eval e X.env) :: bw es X.env) Ar._auto_1):xG X (e :: es) (ai te t):=by
 intro pos E pins s σ H τ G Q hE I h;rw [hs];show wpAny _ _ (zM ((false,eval e X.env) :: ib pos (bw es X.env))) _ _ s;refine ie (ig ha hE I h fun x H1 d G1 u s1 I1 m1 r1 hX q1=>?_);exact fh (hr pos E pins s1 σ H1 τ G1 _ hE I1 q1) (by rintro us s2 ⟨xs,H2,ds,G2,ji,m2,r2,wy,q2⟩; exact⟨x :: xs,H2,d :: ds,G2,ji,m1.trans m2,.cons r1 r2,.cons (hX.mono (m2.kp I1.ab)) wy,q2⟩)
theorem uf{pins:List (Addr×Obj)}{σ:L2.St}{H:Hp}{τ:fM}{G:Gp}{s:aw}{E:jh}{R:List D->Gp->Prop}{Q:List Value->aw->Prop}(ha:xG X es t)(pos:Pos)(hE:Lk X E)(I:I2 X pins σ H τ G s)(h:t E τ G R)
  (k:∀ vs H1 ds G1 us s1,I2 X pins σ H1 τ G1 s1->Mv X.K H G H1 G1->Vals vs us->aY X.K H1 vs ds->R ds G1->Q us s1):wpAny (model X.prog X.w) X.A (zM (ib pos (bw es X.env))) Q X.xe s :=
 fh (ha pos E pins s σ H τ G R hE I h) (by rintro us s1 ⟨vs,H1,ds,G1,I1,m,r,rd,q⟩; exact k vs H1 ds G1 us s1 (I.mv I1 m) m r rd q)
theorem fA{x1}(h:xG X es t):fE X (.Tuple es x1 pos) (g4 t):=by
 intro E pins s σ H τ G Q hE I hq;refine wpAny_Tuple_spliced (uf h pos hE I hq ?_);rintro xs H1 ds G1 us s1 I1 m1 r rd ⟨z,q⟩;refine⟨by rw [<-r.length,rd.length,cM]; exact z,?_⟩;have hf:H1 s1.heap.objs.size=none:=I1.inv.dn.fresh (a6 _);refine⟨.ref s1.heap.objs.size,upd H1 s1.heap.objs.size (.tup xs),.tup ds,G1,I1.inv.laid (t':=s1.toks) (fun b u e=>aP _ e) (a6 _) ?_,m1.trans (.EY I1.ab hf),rfl,?_,q⟩
 ·exact⟨by rw [rd.length,cM]; exact z,us,r,⟨_,cT _ rfl,rfl,_,rfl⟩⟩
 ·exact .tup bR (rd.mono (.new hf))
theorem iE(h:xG X es t):fE X (.List es pos) (jg t):=by
 intro E pins s σ H τ G Q hE I hq;refine wpAny_List_spliced (uf h pos hE I hq ?_);rintro xs H1 ds G1 us s1 I1 m1 r rd ⟨z,q⟩;refine⟨by rw [<-r.length,rd.length,cM]; exact z,?_⟩;have hf:H1 s1.heap.objs.size=none:=I1.inv.dn.fresh (a6 _);refine⟨.ref s1.heap.objs.size,upd H1 s1.heap.objs.size (.lst xs),.ref _,cy G1 s1.heap.objs.size (.lst ds),I1.inv.laid (t':=s1.toks) (fun b u e=>aP _ e) (a6 _) ?_,m1.trans (.De I1.ab hf rd),rfl,.ref _,q _ (I1.ab.free hf)⟩;exact⟨by rw [rd.length,cM]; exact z,us,0,r,cT _ rfl⟩
noncomputable def bX(K:ah)(sp:jb):Sp:=fun vs H Q _=>∃ ds G Q2,aY K H vs ds/\kH K H G/\sp ds G Q2 (fun _ _=>False)/\∀ d G' v H',Q2 d G'->Mv K H G H' G'->ck K H' v d->Q v H'
variable {k:Nat} {f:Addr} {fd:ay} {ps:List Str} {sp:jb} {x:Str} {p:Pos} {r:List D->Gp->DK->Prop} {id:String}
theorem AO(F:dW X.prog X.w X.K X.mg X.base fT k f fd ps (bX X.K sp))(hr:gB k X.A)(hg:Gl X x)(hm:X.mg x=some (.ref f))(hk:dh X.K (.ref f)=true)(hb:Binds X.K fd ps [])
  (ha:xG X (e :: es) t) (zd:autoParam ((x == ("__debug__" : Str))=false) Ad._auto_1) (he:autoParam (bw (e :: es) X.env=(false,eval e X.env) :: bw es X.env) Ar._auto_1) (r0:autoParam ((ib pos (bw es X.env)).any (·.1)=false) Ar._auto_1) :
  fE X (.Call (.Name x p) (e :: es) [] pos) (fun E τ G Q=>cg (fun ds G1 Q1 _=>sp ds G1 Q1 fun _ _=>False) t E τ G Q):=by
 intro E pins s σ H τ G Q hE I h;refine gx (ux I.inv hg hm ?_ zd);refine pK (h₀:=X.base) I.inv.ok.mod.GP hk (uf ha pos hE I h fun vs H1 ds G1 us s1 I1 m1 r rd q=>⟨I1.inv.rZ,?_⟩) he r0;refine fh (wV F hr hb .nil ya I1.inv r (Q:=sQ X.K H1 G1 Q) ?_) fun _ _ z=>(p9.of z).trans m1;rw [fw];exact⟨ds,G1,Q,rd,I1.ab,q,fun d G' v H' q' m' B5=>⟨d,G',m',B5,q'⟩⟩
theorem gW (hc:rR X (.builtin id) r) (hg:Gl X x) (hm:X.mg x=none) (hv:eO x=some (.builtin id)) (ha:xG X (e :: es) t) (hn:autoParam (x≠"__name__") Ad._auto_1) (zd:autoParam ((x == ("__debug__" : Str))=false) Ad._auto_1)
  (he:autoParam (bw (e :: es) X.env=(false,eval e X.env) :: bw es X.env) Ar._auto_1) (r0:autoParam ((ib pos (bw es X.env)).any (·.1)=false) Ar._auto_1):fE X (.Call (.Name x p) (e :: es) [] pos) (sN r t):=by
 intro E pins s σ H τ G Q hE I h;refine gx (mQ I.inv hg hm hv ?_ hn zd);exact hU (uf ha pos hE I h fun vs H1 ds G1 us s1 I1 m1 r1 hX q1=>fh (hc pins s1 σ H1 G1 vs ds us Q I1.inv I1.ab r1 hX q1) fun _ _ z=>z.trans m1) he r0
variable {st:Stmt} {K6:List Stmt} {u v:gC}
theorem bj:sR X [] bc:=fun _ _ _ σ H τ G _ _ I h=>zJ ⟨σ,H,τ,G,I,.refl I.ab,h⟩
theorem aB(h1:xF X st u)(h2:sR X K6 v):sR X (st :: K6) (cf u v):=by
 intro E pins s σ H τ G D hE I h;refine wpAny_execs_cons (fh (h1 E pins s σ H τ G { D with nx:=v E D } hE I h) fun f s1 q=>?_);cases f with
 | next =>
  obtain⟨gy,H',kX,G',I',m,q⟩:=q;exact fh (h2 E pins s1 gy H' kX G' D hE I' q) fun _ _ z=>z.trans m
 | ret v=>exact q
 | brk=>exact q
 | cont=>exact q
theorem aF(h1:xF X st u):sR X [st] u:=by
 intro E pins s σ H τ G D hE I h;refine wpAny_execs_cons (fh (h1 E pins s σ H τ G D hE I h) fun f s1 q=>?_);cases f with
 | next=>exact zJ q
 | ret v=>exact q
 | brk=>exact q
 | cont=>exact q
theorem bh(he:fE X e te):xF X (.Return (some e) pos) (bI te):=by
 intro E pins s σ H τ G D hE I h;exact wpAny_Return_some (fh (he E pins s σ H τ G _ hE I h) (by rintro v s1 ⟨x,H1,d,G1,I1,m,r1,rd,q1⟩; exact⟨x,σ,H1,d,G1,I1,m,r1,rd,q1⟩))
theorem bY{sa sb:List Stmt}(hc:B8 X c tA)(ha:sR X sa u)(hb:sR X sb v):xF X (.If c sa sb pos) (bT tA u v):=by
 intro E pins s σ H τ G D hE I h;refine wpAny_If (Eh hc hE I h fun d H1 G1 s1 I1 m1 q1=>?_);cases d with
 | true=>exact fh (ha E pins s1 σ H1 τ G1 D hE I1 (by simpa using q1)) fun _ _ z=>z.trans m1
 | false=>exact fh (hb E pins s1 σ H1 τ G1 D hE I1 (by simpa using q1)) fun _ _ z=>z.trans m1
noncomputable def B9(X:Cx)(target:Expr)(t:tW):Prop :=
 ∀ (E:jh) (pins:List (Addr×Obj)) (s:aw) (σ:L2.St) (H:Hp) (τ:fM) (G:Gp) (w:V) (d:D) (u:Value) (Q:fM->Gp->Prop),Lk X E->I2 X pins σ H τ G s->RelV w u->ck X.K H w d->t E d τ G Q ->
  wpAny (model X.prog X.w) X.A (ve target X.env u) (fun _ s'=>∃ gy H' kX G',I2 X pins gy H' kX G' s'/\Mv X.K H G H' G'/\Q kX G') X.xe s
noncomputable def DE(X:Cx)(ts:List Expr)(t:uU):Prop :=
 ∀ (E:jh) (pins:List (Addr×Obj)) (s:aw) (σ:L2.St) (H:Hp) (τ:fM) (G:Gp) (ws:List V) (ds:List D) (us:List Value) (Q:fM->Gp->Prop),Lk X E->I2 X pins σ H τ G s->Vals ws us->aY X.K H ws ds->t E ds τ G Q ->
  wpAny (model X.prog X.w) X.A (assignInOrder ((jw ts X.env).map (·.2)) us) (fun _ s'=>∃ gy H' kX G',I2 X pins gy H' kX G' s'/\Mv X.K H G H' G'/\Q kX G') X.xe s
theorem AM{i:Nat}{x:Str}(hN:X.N.Nodup)(hi:X.N[i]?=some x)(hx:Loc X.env.scope x)(hf:autoParam (X.fn x=true\/X.env.scope.names.lookup x=some .local) Ao._auto_1):B9 X (.Name x pos) (bL i):=by
 intro E pins s σ H τ G w d u Q hE I r rd h;exact wpAny_assign_Name (vk I.inv hN hi hx r (fun s' I'=>⟨_,H,_,G,⟨I',I.st.set i rd,I.ab⟩,.refl I.ab,h⟩) hf)
theorem AL:DE X [] Bo:=by
 intro E pins s σ H τ G ws ds us Q hE I r rd h;unfold Bo at h;split at h
 ·have e:=rd.zero;subst e;cases r;exact assignInOrder_nil ⟨σ,H,τ,G,I,.refl I.ab,h⟩
 ·exact h.elim
theorem oK{t:tW}{u:uU}(h1:B9 X e t)(h2:DE X es u)
  (hs:autoParam ((jw (e :: es) X.env).map (·.2)=ve e X.env :: (jw es X.env).map (·.2)) Ar._auto_1):DE X (e :: es) (pD t u):=by
 intro E pins s σ H τ G ws ds us Q hE I r rd h;unfold pD at h;split at h
 ·cases rd with
  | cons hX wy =>
   cases r with
   | cons r1 r2 =>
    rw [hs];refine assignInOrder_cons (fh (h1 E pins s σ H τ G _ _ _ _ hE I r1 hX h) ?_);rintro _ s1 ⟨L0,H1,pj,G1,I1,m1,q1⟩;exact fh (h2 E pins s1 L0 H1 pj G1 _ _ _ Q hE I1 r2 (wy.mono (m1.kp I.ab)) q1) (by rintro _ _ ⟨Ir,H2,sX,G2,ji,m2,q2⟩; exact⟨Ir,H2,sX,G2,ji,m1.trans m2,q2⟩)
 ·exact h.elim
theorem Bm:∀ E ds τ G Q,Bo E ds τ G Q->ds.length=0:=by
 intro E ds τ G Q h;cases ds with
 | nil=>rfl
 | cons _ _=>exact h.elim
theorem zf{t:tW}{u:uU}{n:Nat}(h:∀ E ds τ G Q,u E ds τ G Q->ds.length=n)(hm:∀ E d τ G (Q Q':fM->Gp->Prop),t E d τ G Q->(∀ kX G',Q kX G'->Q' kX G')->t E d τ G Q')(hx:∀ E d τ G,¬ t E d τ G fun _ _=>False) :
  ∀ E ds τ G Q,pD t u E ds τ G Q->ds.length=n+1:=by
 intro E ds τ G Q q;cases ds with
 | nil=>exact q.elim
 | cons d ds =>
  by_cases hl:ds.length=n
  ·rw [aj,hl]
  ·exact absurd (hm E d τ G _ (fun _ _=>False) q fun kX G' z=>hl (h _ _ _ _ _ z)) (hx E d τ G)
theorem qf{tg:Expr}{g:tW}(he:fE X e te)(hg:B9 X tg g)(hs:autoParam (swapsWithSole [tg] e pos.line X.env=pure false) Ar._auto_1)(hw:autoParam (swappedStores [tg] e X.env=pure none) Ar._auto_1)
  (h1:autoParam ((jw [tg] X.env).map (·.2)=[ve tg X.env]) Ar._auto_1):xF X (.Assign [tg] e pos) (c8 te g):=by
 intro E pins s σ H τ G D hE I h;refine wpAny_Assign_stores (ig he hE I h fun x H1 d G1 v s1 I1 m1 r1 hX q1=>?_) hs hw;rw [h1];exact fh (hg E pins s1 σ H1 τ G1 x d v _ hE I1 r1 hX q1) (by rintro _ s2 ⟨Ir,H2,sX,G2,ji,m2,q2⟩; exact⟨Ir,H2,sX,G2,ji,m1.trans m2,q2⟩)
theorem CP{i:Nat}{x:Str}{pos':Pos}(hN:X.N.Nodup)(hi:X.N[i]?=some x)(hx:Loc X.env.scope x)(he:fE X e te)(hs:autoParam (vc e (some (.Name x pos')) pos.line X.env=pure false) Ar._auto_1)(hf:autoParam (X.fn x=true\/X.env.scope.names.lookup x=some .local) Ao._auto_1) :
  xF X (.Assign [.Name x pos'] e pos) (c8 te (bL i)):=by
 intro E pins s σ H τ G D hE I h;refine wpAny_Assign_Name (ig he hE I h fun y H1 d G1 v s1 I1 m1 r1 hX q1=>?_) hs;exact vk I1.inv hN hi hx r1 (fun s2 ji=>⟨_,H1,_,G1,⟨ji,I1.st.set i hX,I1.ab⟩,m1,q1⟩) hf
theorem ij(he:fE X e te)(hs:autoParam (vc e none pos.line X.env=pure false) Ar._auto_1):xF X (.Expr e pos) (fV te):=by
 intro E pins s σ H τ G D hE I h;exact wpAny_Expr_any (ig he hE I h fun y H1 d G1 v s1 I1 m1 r1 hX q1=>⟨σ,H1,τ,G1,I1,m1,q1⟩) I.inv.quiet hs
end
end K2
end
section
namespace K2
open PySem PySem.Spec PyProof.Rows L2
noncomputable def DZ(K:ah)(J:It)(H':Hp)(ds:List D)(ok:Gp->Prop):Prop :=
 ∀ i H1 G1,Kp H' H1->kH K H1 G1->ok G1->(∀ d,ds[i]?=some d->J.go i H1/\∀ x H2,J.K3 i H1 x H2->ck K H2 x d/\Mv K H1 G1 H2 G1)/\(ds.length<=i->J.stop i H1)
inductive BR (X:Cx) (pins:List (Addr×Obj)) (σ:L2.St) (tg:Expr) (H:Hp) (G:Gp) (R:List D->(Gp->Prop)->Gp->Prop) (ES:Value) (s2:aw):Prop
 | mk (it:Addr) (fp:List Addr) (tn:Nat->Heap->Prop) (J:It) (H':Hp) (G':Gp) (ds:List D) (ok:Gp->Prop) (e:ES=.ref it) (i:Inv X pins σ H' s2) (m:Mv X.K H G H' G') (T:Turn X.prog X.w X.K tg J fp it tn) (t0:tn 0 s2.heap) (f:∀ b∈fp,p8 X pins H' b)
  (wk:DZ X.K J H' ds ok) (q:R ds ok G'):BR X pins σ tg H G R ES s2
noncomputable def FR(X:Cx)(tg iter:Expr)(wi:D0):Prop :=
 ∀ (E:jh) (pins:List (Addr×Obj)) (s:aw) (σ:L2.St) (H:Hp) (τ:fM) (G:Gp) (R:List D->(Gp->Prop)->Gp->Prop),Lk X E->I2 X pins σ H τ G s->wi E τ G R ->
  wpAny (model X.prog X.w) X.A (eval iter X.env) (fun v s1=>wpAny (model X.prog X.w) X.A (pyIter v) (BR X pins σ tg H G R) X.xe s1) X.xe s
section
variable {X:Cx} {tg:Expr} {a b:Expr} {ta tb:fz} {pos p:Pos}
theorem yg{pins:List (Addr×Obj)}{σ:L2.St}{H H1:Hp}{G G1:Gp}{s1:aw}{l:Addr}{vs:List V}{ds:List D}{ok:Gp->Prop}{R:List D->(Gp->Prop)->Gp->Prop}(I1:Inv X pins σ H1 s1)(m:Mv X.K H G H1 G1)(hq:p3 X.K H1 l vs)
  (hk:∀ H2 G2,Kp H1 H2->kH X.K H2 G2->ok G2->∃ ws,p3 X.K H2 l ws/\aY X.K H2 ws ds) (q:R ds ok G1):wpAny (model X.prog X.w) X.A (pyIter (.ref l)) (BR X pins σ tg H G R) X.xe s1:=by
 obtain⟨cH,rv,pl,hz⟩:=I1.list hq;refine wpAny_pyIter_list pl.isList ?_;refine⟨s1.heap.objs.size,[s1.heap.objs.size],_,_,H1,G1,ds,ok,rfl,I1.kept (t':=s1.toks) fun b o e=>aP _ e,m,yL l _,⟨_,cT _ rfl,rfl,rfl⟩,fun b hb=>?_,fun i H2 G2 k ab o=>?_,q⟩
 ·have e:b=s1.heap.objs.size:=by simpa using hb
  subst e;exact I1.Dq (a6 _) (I1.dn.fresh (a6 _))
 ·obtain⟨ws,hw,rd⟩:=hk H2 G2 k ab o;refine⟨fun d hd=>?_,fun hl=>⟨ws,hw,by rw [rd.length]; exact hl⟩⟩;obtain⟨v,hv,r⟩:=rd.get hd;refine⟨⟨ws,v,hw,hv⟩,?_⟩;rintro x H3 ⟨e,y⟩;subst e;have:=y ws hw;rw [hv] at this;cases this;exact⟨r,.refl ab⟩
theorem Ee{pins:List (Addr×Obj)}{σ:L2.St}{H H1:Hp}{G G1:Gp}{s1:aw}{l:Addr}{vs:List V}{ds:List D}{R:List D->(Gp->Prop)->Gp->Prop}(I1:Inv X pins σ H1 s1)(m:Mv X.K H G H1 G1)(hq:r8 X.K H1 l vs)(rd:aY X.K H1 vs ds)
  (q:R ds (fun _=>True) G1):wpAny (model X.prog X.w) X.A (pyIter (.ref l)) (BR X pins σ tg H G R) X.xe s1:=by
 obtain⟨cH,rv,pl,hz⟩:=I1.tuple hq;refine wpAny_pyIter_tuple (show s1.heap.IsTuple l cH.toArray from pl) ?_;refine⟨s1.heap.objs.size,[s1.heap.objs.size],_,_,H1,G1,ds,_,rfl,I1.kept (t':=s1.toks) fun b o e=>aP _ e,m,wN l _,⟨_,cT _ rfl,rfl,rfl⟩,fun b hb=>?_,fun i H2 G2 k ab _=>?_,q⟩
 ·have e:b=s1.heap.objs.size:=by simpa using hb
  subst e;exact I1.Dq (a6 _) (I1.dn.fresh (a6 _))
 ·have hw:=k.L8 hq;have wy:=rd.mono k;refine⟨fun d hd=>?_,fun hl=>⟨vs,hw,by rw [rd.length]; exact hl⟩⟩;obtain⟨v,hv,r⟩:=wy.get hd;refine⟨⟨vs,v,hw,hv⟩,?_⟩;rintro x H3 ⟨e,y⟩;subst e;have:=y vs hw;rw [hv] at this;cases this;exact⟨r,.refl ab⟩
theorem x9(ha:fE X a ta):FR X tg a (A9 ta):=by
 intro E pins s σ H τ G R hE I h;refine ig ha hE I h fun x H1 d G1 v s1 I1 m1 r1 hX q1=>?_;cases hX with
 | tup hq rs=>cases r1; exact Ee I1.inv m1 (.of hq) rs q1
 | dD hq rs=>cases r1; exact yg I1.inv m1 hq.sq (fun H2 G2 k ab _=>⟨_,(k.Gg hq).sq,rs.mono k⟩) q1
 | ref p =>
  cases r1;dsimp only at q1;split at q1
  ·rename_i ds e;obtain⟨vs,hv,rs⟩:=I1.ab.lst e;refine yg I1.inv m1 (.of hv) (fun H2 G2 k ab o=>?_) q1;obtain⟨ws,hw,qB⟩:=ab.lst o;exact⟨ws,.of hw,qB⟩
  ·exact q1.elim
 | oH _ _=>exact q1.elim
 | oG _ _=>exact q1.elim
 | gR=>exact q1.elim
 | bl _=>exact q1.elim
 | int _=>exact q1.elim
 | str _=>exact q1.elim
 | exc _=>exact q1.elim
theorem Au{pins:List (Addr×Obj)}{σ:L2.St}{H H1:Hp}{G G1:Gp}{s:aw}{R:List D->(Gp->Prop)->Gp->Prop}{lo hi:Int}{t u v:Tok}{tk:Nat}(I:Inv X pins σ H1 s)(m:Mv X.K H G H1 G1)(h1:-(2 ^ 62)<=lo)(h2:lo < 2 ^ 62)(h3:-(2 ^ 62)<=hi)(h4:hi < 2 ^ 62)
  (q:R (fJ lo (hi - lo).toNat) (fun _=>True) G1):wpAny (model X.prog X.w) X.A (pyIter (.ref s.heap.objs.size)) (BR X pins σ tg H G R) X.xe { s with heap:=s.heap.push { cls:=.type "range",data:=.fields #[.int lo t,.int hi u,.int 1 v] },toks:=tk }:=by
 refine fh (Ay (tg:=tg) I h1 h2 h3 h4 (R:=fun J H'=>J=KJ lo (hi - lo).toNat/\H'=H1) ⟨rfl,rfl⟩) ?_;rintro ES s2 ⟨it,fp,tn,J,H',e,ji,T,st,fo,eJ,eH⟩;subst eJ; subst eH;refine⟨it,fp,tn,_,H',G1,_,_,e,ji,m,T,st,fo,fun i H2 G2 k ab _=>⟨fun d hd=>?_,fun hl=>?_⟩,q⟩
 ·unfold fJ at hd;rw [ed] at hd;cases J4:(oA (hi - lo).toNat)[i]? with
  | none=>rw [J4] at hd; cases hd
  | some j =>
   rw [J4] at hd;obtain⟨wz,ej⟩:=List.getElem?_eq_some_iff.mp J4;rw [List.length_range] at wz;rw [List.getElem_range] at ej;subst ej;cases hd;refine⟨wz,?_⟩;rintro x H3 ⟨e1,e2⟩;subst e1; subst e2;exact⟨.int _,.refl ab⟩
 ·unfold fJ at hl;rw [bQ,List.length_range] at hl;exact hl
theorem mK (hg:Gl X "range") (hm:X.mg "range" = none) (ha:fE X a ta) (hs:autoParam (bw [a] X.env=[(false,eval a X.env)]) Ar._auto_1):FR X tg (.Call (.Name "range" p) [a] [] pos) (vF ta):=by
 intro E pins s σ H τ G R hE I h;have hA:xG X [a] (ai ta aL):=ae ha az hs;refine Call_ (mQ I.inv hg hm boot_range (iJ (uf hA pos hE I (R:=fun ds G1=>match ds with | [.int n]=>-(2 ^ 62)<=n/\n < 2 ^ 62/\R (fJ 0 n.toNat) (fun _=>True) G1 | _=>False) ?_ fun vs H1 ds G1 us s1 I1 m1 r1 hX q1=>?_) hs rfl))
 ·show ta E τ G _;have e:(fun (x:D) (G1:Gp)=>match [x] with | [.int n]=>-(2 ^ 62)<=n/\n < 2 ^ 62/\R (fJ 0 n.toNat) (fun _=>True) G1 | _=>False)=fun x G1=>match x with | .int n=>-(2 ^ 62)<=n/\n < 2 ^ 62/\R (fJ 0 n.toNat) (fun _=>True) G1 | _=>False:=by
   funext x G1; cases x <;> rfl
  exact e ▸ h
 ·split at q1
  ·rename_i n;obtain⟨w,rfl,Gj⟩:=hX.one;cases Gj;obtain⟨u,rfl,ru⟩:=r1.one;obtain⟨t,rfl⟩:=ru;obtain⟨q1,q2,q⟩:=q1;exact call_range_1 (Au I1.inv m1 (by lia) (by lia) q1 q2 (by simpa using q))
  ·exact q1.elim
theorem nK{iter:Expr}{body:List Stmt}{wi:D0}{g:tW}{t:gC}(hp:PassesOwn (model X.prog X.w) X.A X.env X.xe)(hc:X.calm=true)(hi:FR X tg iter wi)(hg:B9 X tg g)(hb:sR X body t)
  (hs:autoParam (∀ x,wG iter X.env x=pure x) Ai._auto_1):xF X (.For tg iter body [] pos) (rz wi g t):=by
 intro E pins s σ H τ G D hE I h;refine wpAny_For (fh (hi E pins s σ H τ G _ hE I h) fun v s1 h1=>fh h1 fun ES s2 h2=>?_) hs;obtain⟨it,fp,tn,J,H2,G2,ds,ok,e,ji,m2,T,Fx,f2,wk,q⟩:=h2;subst e;have Ej:∀ {H':Hp},(∀ b∈fp,H' b=none)->∀ b∈fp,p8 X pins H' b:=fun hn b hb=>⟨hn b hb,(f2 b hb).2⟩;refine codeAny_forLoop_any (fun n s'=>∃ i gy H' kX G',I2 X pins gy H' kX G' s'/\Mv X.K H G H' G'/\Kp H2 H'/\tn i s'.heap/\(∀ b∈fp,H' b=none)/\n=ds.length - i/\i<=ds.length/\mF g t ok (ds.drop i) E D kX G') ?_ ds.length
  ⟨0,σ,H2,τ,G2,I.mv ji m2,m2,.refl _,Fx,fun b hb=>(f2 b hb).1,rfl,c6 _,q⟩
 rintro n s3 ⟨i,FW,H3,Ip,G3,I3,m3,k3,HG,LC,rfl,hle,w3⟩;by_cases wz:i < ds.length
 ·rw [xT wz] at w3;obtain⟨EH,w3⟩:=w3;obtain⟨go,yl⟩:=(wk i H3 G3 k3 I3.ab EH).1 ds[i] (by simp [wz]);refine k9 hp (fh (T.item X rfl rfl rfl hc i pins s3 FW H3 X.xe I3.inv (Ej LC) HG go) ?_);rintro r s4 ⟨u,hr,h4⟩;subst hr;refine k9 hp (fh h4 ?_);rintro _ s5 ⟨x,H5,I5,r5,y5,Iz,Ni⟩;obtain⟨Mg,m5⟩:=yl x H5 y5;have OC:=I5.pinned (Ej Ni) (T.obj _ _ Iz);have J5:I2 X (pins++lB fp s5.heap) FW H5 Ip G3 s5:=⟨OC,I3.st.mono (m5.kp I3.ab),m5.ab⟩;refine k9 hp (fh (hg E _ s5 FW H5 Ip G3 x ds[i] u _ hE J5 r5 Mg w3) ?_);rintro _ s6 ⟨LZ,H6,LY,G6,I6,m6,q6⟩;refine k9 hp (fh (hb E _ s6 LZ H6 LY G6 _ hE I6 q6) fun f s7 q7=>?_);have again:∀ {zE:L2.St} {H7:Hp} {zD:fM} {G7:Gp},I2 X (pins++lB fp s5.heap) zE H7 zD G7 s7->Mv X.K H6 G6 H7 G7->mF g t ok (ds.drop (i+1)) E D zD G7 ->
    ∃ m,m < ds.length - i/\∃ i gy H' kX G',I2 X pins gy H' kX G' s7/\Mv X.K H G H' G'/\Kp H2 H'/\tn i s7.heap/\(∀ b∈fp,H' b=none)/\m=ds.length - i/\i<=ds.length/\mF g t ok (ds.drop i) E D kX G':=fun {zE H7 zD G7} I7 m7 n7=>by
   have mm:=m5.trans (m6.trans m7);refine⟨ds.length - (i+1),by lia,i+1,zE,H7,zD,G7,⟨I7.inv.nq,I7.st,I7.ab⟩,m3.trans mm,k3.trans (mm.kp I3.ab),T.keep _ _ _ Iz fun b hb o e=>(I7.inv.pin (b,o) (cj _ (cj _ (ko hb e)))).1,fun b hb=>?_,rfl,wz,n7⟩;obtain⟨o,e,d⟩:=T.obj _ _ Iz b hb;exact(I7.inv.pin (b,o) (cj _ (cj _ (ko hb e)))).2.1
  cases f with
  | next=>obtain⟨zE,H7,zD,G7,I7,m7,n7⟩:=q7; exact again I7 m7 n7
  | cont=>obtain⟨zE,H7,zD,G7,I7,m7,n7⟩:=q7; exact again I7 m7 n7
  | brk=>obtain⟨zE,H7,zD,G7,I7,m7,q7⟩:=q7; exact⟨zE,H7,zD,G7,⟨I7.inv.nq,I7.st,I7.ab⟩,m3.trans (m5.trans (m6.trans m7)),q7⟩
  | ret v=>obtain⟨x7,zE,H7,d7,G7,I7,m7,r7,Me,q7⟩:=q7; exact⟨x7,zE,H7,d7,G7,I7.nq,m3.trans (m5.trans (m6.trans m7)),r7,Me,q7⟩
 ·have hn:ds.length<=i:=by lia
  rw [zS hn] at w3;obtain⟨EH,qn⟩:=w3;have stop:=(wk i H3 G3 k3 I3.ab EH).2 hn;refine k9 hp (fh (T.done X rfl rfl rfl hc i pins s3 FW H3 X.xe I3.inv (Ej LC) HG stop) ?_);rintro r s4 ⟨hr,I4⟩;subst hr;exact zJ ⟨FW,H3,Ip,G3,⟨I4,I3.st,I3.ab⟩,m3,qn⟩
end
end K2
end
section
namespace K2
open PySem PySem.Spec PyProof.Rows L2
theorem um(n d:Nat)(o:Option Int):HT.gH n d o=gH n d o:=by cases o <;> rfl
theorem aY.cut{K:ah}{H:Hp}{vs:List V}{ds:List D}(r:aY K H vs ds)(lo hi:Option Int):aY K H (vX vs lo hi) (K2.cut ds lo hi):=by
 unfold vX K2.cut;rw [um,um,r.length];exact(r.drop _).take _
theorem aY.mG{K:ah}{H:Hp}{vs:List V}{ds:List D}{i:Int}{d:D}(r:aY K H vs ds)(h:K2.mG ds i=some d):∃ v,L2.mG vs i=some v/\ck K H v d:=by
 unfold K2.mG at h;cases e:K2.zF ds.length i with
 | none=>rw [e] at h; cases h
 | some j =>
  rw [e] at h;obtain⟨v,h1,h2⟩:=r.get (show ds[j]?=some d from h);refine⟨v,?_,h2⟩;show (L2.zF vs.length i).bind _=_;have e':L2.zF vs.length i=some j:=by rw [r.length]; exact e
  rw [e'];exact h1
section
variable {X:Cx} {a b c e:Expr} {ta tb tc te:fz} {pos p2:Pos}
theorem rG{pins:List (Addr×Obj)}{s:aw}{σ:L2.St}{H:Hp}{G:Gp}{x:V}{d:D}{v:Value}{zs:List D}(I:Inv X pins σ H s)(ab:kH X.K H G)(rx:RelV x v)(rd:ck X.K H x d)(hi:lF d G=some zs) :
  ∃ l vs cH,v=.ref l/\Vals vs cH/\aY X.K H vs zs/\s.heap.IsList l cH.toArray/\vs.length<=a4:=by
 cases rd with
 | dD hq rs =>
  cases hi;cases rx;obtain⟨cH,rv,pl,hz⟩:=I.list hq.sq;exact⟨_,_,cH,rfl,rv,rs,pl.isList,hz⟩
 | ref l =>
  unfold lF at hi;dsimp only at hi;cases hg:G l with
  | none=>rw [hg] at hi; cases hi
  | some gg =>
   rw [hg] at hi;cases gg with
   | lst ds =>
    cases hi;cases rx;obtain⟨vs,hv,rs⟩:=ab.lst hg;obtain⟨cH,rv,pl,hz⟩:=I.list (.of hv);exact⟨_,_,cH,rfl,rv,rs,pl.isList,hz⟩
   | ins _ _=>cases hi
   | gT _=>cases hi
 | _=>cases hi
theorem yX{pins:List (Addr×Obj)}{s:aw}{σ:L2.St}{H:Hp}(I:Inv X pins σ H s){m:Str->Option Value}(F0:Fr X.base X.env.locals s.heap m){h':Heap}(F:Fr X.base X.env.locals h' m)(N:News X.base X.env.locals h' (n6 X.base s.heap X.env.locals)) :
  (∀ b o,b≠X.env.locals->s.heap.get? b=some o->h'.get? b=some o)/\∀ m',s.heap.Ns X.env.locals m'->h'.Ns X.env.locals m':=by
 refine⟨fun b o hb e=>?_,fun m' hm=>?_⟩
 ·cases q:X.base.get? b with
  | some u =>
   have:=I.bk b u q;rw [e] at this; cases this;exact F.keep b _ q
  | none=>exact(N (b,o) (vz hb q e)).1
 ·have e1:=hm.eq_nsMap;have e2:=F0.ns.eq_nsMap;rw [e1,<-e2]; exact F.ns
theorem j1{P:bx}{w:World}{H:Hp}{h:Heap}{a:Addr}:∀ {o:HO},ft P w H h a o->∃ ob,h.get? a=some ob:=by
 intro o x;cases o with
 | lst _=>obtain⟨_,_,_,_,e⟩:=x; exact⟨_,e⟩
 | tup _=>obtain⟨_,_,_,ob,e,_⟩:=x; exact⟨ob,e⟩
 | dK _=>obtain⟨_,_,_,_,ob,_,_,e,_⟩:=x; exact⟨ob,e⟩
 | dT _=>obtain⟨_,_,_,_,ob,_,_,e,_⟩:=x; exact⟨ob,e⟩
 | set _ _=>obtain⟨ob,_,_,_,e,_⟩:=x; exact⟨ob,e⟩
 | ins _ _ _=>obtain⟨_,_,_,e,_⟩:=x; exact⟨_,e⟩
 | own _=>exact x
 | xd _=>obtain⟨_,⟨ob,_,_,e,_⟩,_⟩:=x; exact⟨ob,e⟩
 | met _ _=>exact⟨_,x⟩
 | HH _ _=>obtain⟨_,_,_,e⟩:=x; exact⟨_,e⟩
 | kQ _ _=>exact⟨_,x.1⟩
 | DJ _=>obtain⟨_,e,_⟩:=x; exact⟨_,e⟩
 | ext _=>exact x.2.1
theorem Dp{P:bx}{w:World}{H:Hp}{h:Heap}{a:Addr}(ok:nh P w H h)(e:h.get? a=none):H a=none:=by
 cases q:H a with
 | none=>rfl
 | some o =>
  obtain⟨ob,z⟩:=j1 (ok a o q);rw [e] at z; cases z
theorem Inv.GN{pins:List (Addr×Obj)}{s:aw}{σ:L2.St}{H:Hp}(I:Inv X pins σ H s){h':Heap}{t':Nat}{a:Addr}{o:HO}(k:∀ b o,b≠X.env.locals->s.heap.get? b=some o->h'.get? b=some o)(ns:∀ m',s.heap.Ns X.env.locals m'->h'.Ns X.env.locals m')
  (hp:s.heap.get? a=none) (new:ft X.prog X.w (upd H a o) h' a o):Inv X pins σ (upd H a o) { s with heap:=h',toks:=t' }:=by
 have hn:H a=none:=Dp I.dn hp;have ne:∀ b u,H b=some u->b≠a:=fun b u e=>c7 e hn;have nL:∀ b u,H b=some u->b≠X.env.locals:=fun b u e=>c7 e I.free;have ht:∀ b u,s.heap.get? b=some u->b≠a:=fun b u e z=>by subst z; rw [hp] at e; cases e
 have L6:∃ o',h'.get? X.env.locals=some o':=by
  obtain⟨m,hm,_⟩:=I.loc;obtain⟨o',_,_,ho,_⟩:=ns m hm;exact⟨o',ho⟩
 refine I.step (g':=s.gens) (d':=s.drawn) (ch:=[]) (fun b hb=>absurd hb (by simp)) (fun b o hL _ _ e _=>k b o hL e) (fun b o hL _ _ e _=>⟨o.slots,k b o hL e⟩) (fun b o _ e n=>by rw [bK (ht b o e)]; exact n)
  (fun b o _ e=>?_) (fun b xs e=>by rw [bK (ne _ _ e)]; exact e) (fun b o u e=>by rw [bK (ne _ _ e)]; exact e) (fun b ps e=>by rw [bK (ne _ _ e)]; exact e) ns (fun b u e=>?_) I.bare
 ·by_cases hb:b=X.env.locals
  ·rw [hb]; exact L6
  ·exact⟨o,k b o hb e⟩
 ·by_cases hb:b=a
  ·subst hb; rw [bR] at e; cases e; exact new
  ·rw [bK hb] at e;refine(I.dn b u e).kc (fun c v hc r=>k c v ?_ r) (fun c z=>by rw [bK (ne _ _ z)]; exact z) (fun c xs z=>by rw [bK (ne _ _ z)]; exact z);rcases hc with rfl | hc
   ·exact nL _ _ e
   ·exact nL _ _ hc
theorem iF:mr X (fW .Add) oJ:=by
 intro pins s σ H G x y dx dy v u Q I ab rx ry dX dY q;have lists:xE dx dy G Q->wpAny (model X.prog X.w) X.A (fW .Add v u) (p9 X pins σ H G Q) X.xe s:=by
  intro q;unfold xE at q;split at q
  ·rename_i xs ys e1 e2;obtain⟨hz,q⟩:=q;obtain⟨l,vs,cH,rfl,rv,rs,hl,_⟩:=rG I ab rx dX e1;obtain⟨b,ws,A3,rfl,ID,FA,hb,_⟩:=rG I ab ry dY e2;obtain⟨m,F0⟩:=I.fr;have hsz:cH.length+A3.length<=a4:=by rw [<-rv.length,<-ID.length,rs.length,FA.length,cM]; exact hz
   refine PyProof.Rows.add_lists F0 AR hl hb (fun h' F N=>?_) hsz;obtain⟨kk,ns⟩:=yX I F0 F fun p hp=>N p (bG _ hp);have hp:H s.heap.objs.size=none:=I.dn.fresh (a6 _);refine⟨.ref s.heap.objs.size,upd H s.heap.objs.size (.lst (vs++ws)),.ref _,_,Inv.GN (t':=s.toks) I kk ns (Cj (a6 _)) ?_,.De ab hp (rs.append FA),rfl,.ref _,q _ (ab.free hp)⟩;exact⟨by rw [cb,rv.length,ID.length]; exact hsz,cH++A3,0,rv.append ID,(N _ e5).1⟩
  ·exact q.elim
 cases dX with
 | int i =>
  cases dY with
  | int j=>exact fh (EF pins s σ H _ _ v u (sQ X.K H G Q) I rx ry ⟨i,j,rfl,rfl,_,_,.refl ab,.int _,q⟩) fun _ _ z=>.of z
  | _=>exact lists q
 | str i =>
  cases dY with
  | str j =>
   obtain⟨hz,q⟩:=q;exact fh (w5 pins s σ H _ _ v u (sQ X.K H G Q) I rx ry ⟨i,j,rfl,rfl,by rw [cM]; exact hz,_,_,.refl ab,.str _,q⟩) fun _ _ z=>.of z
  | _=>exact lists q
 | tup h1 r1 =>
  cases dY with
  | tup h2 r2 =>
   obtain⟨hn,hz,q⟩:=q;refine fh (C4 pins s σ H _ _ v u (sQ X.K H G Q) I rx ry ⟨_,_,_,_,rfl,rfl,.of h1,.of h2,?_,?_,fun e=>?_,fun e p hp=>?_⟩) fun _ _ z=>.of z
   ·rintro rfl; cases r1; exact hn rfl
   ·rw [r1.length,r2.length,cM]; exact hz
   ·subst e;cases r2;rw [fw] at q;exact⟨_,_,.refl ab,.tup h1 r1,q⟩
   ·exact⟨_,_,.EY ab hp,.tup bR ((r1.append r2).mono (.new hp)),q⟩
  | _=>exact lists q
 | ref l=>exact lists (by rw [iP] at q; exact q)
 | dD _ _=>exact lists (by rw [AF] at q; exact q)
 | _=>exact lists (by cases dY <;> exact q)
theorem C5:mr X (fW .Sub) Eo:=by
 intro pins s σ H G x y dx dy v u Q I ab rx ry dX dY q;cases dX with
 | int i =>
  cases dY with
  | int j=>exact fh (EA pins s σ H _ _ v u (sQ X.K H G Q) I rx ry ⟨i,j,rfl,rfl,_,_,.refl ab,.int _,q⟩) fun _ _ z=>.of z
  | _=>exact bg q
 | _=>exact bg q
theorem C8:mr X (fW .Mult) Es:=by
 intro pins s σ H G x y dx dy v u Q I ab rx ry dX dY q;cases dX with
 | int i =>
  cases dY with
  | int j=>exact fh (EC pins s σ H _ _ v u (sQ X.K H G Q) I rx ry ⟨i,j,rfl,rfl,q.1,_,_,.refl ab,.int _,q.2⟩) fun _ _ z=>.of z
  | _=>exact bg q
 | _=>exact bg q
theorem et:mr X (fW .Mod) kg:=by
 intro pins s σ H G x y dx dy v u Q I ab rx ry dX dY q;cases dX with
 | int i =>
  cases dY with
  | int j=>exact fh (ED pins s σ H _ _ v u (sQ X.K H G Q) I rx ry ⟨i,j,rfl,rfl,q.1,_,_,.refl ab,.int _,q.2⟩) fun _ _ z=>.of z
  | _=>exact bg q
 | _=>exact bg q
theorem iR:mr X (fW .FloorDiv) nJ:=by
 intro pins s σ H G x y dx dy v u Q I ab rx ry dX dY q;cases dX with
 | int i =>
  cases dY with
  | int j=>exact fh (C3 pins s σ H _ _ v u (sQ X.K H G Q) I rx ry ⟨i,j,rfl,rfl,⟨q.1,q.2.1⟩,_,_,.refl ab,.int _,q.2.2⟩) fun _ _ z=>.of z
  | _=>exact bg q
 | _=>exact bg q
theorem EG(hu:X.A.units < cLine):mr X (gE .Lt) HI:=by
 intro pins s σ H G x y dx dy v u Q I ab rx ry dX dY q;cases dX with
 | int i =>
  cases dY with
  | int j=>exact fh (Gv pins s σ H _ _ v u (sQ X.K H G Q) I rx ry ⟨i,j,rfl,rfl,_,_,.refl ab,.bl _,q⟩) fun _ _ z=>.of z
  | _=>exact bg q
 | tup h1 r1 =>
  cases dY with
  | tup h2 r2 =>
   obtain⟨xs,ys,e1,e2,q⟩:=q;subst e1 e2;have z1:=r1.ints;have z2:=r2.ints;subst z1 z2;have el:∀ xs ys:List Int,HT.lexLt xs ys=K2.lexLt xs ys:=by
    intro xs;induction xs with
    | nil=>intro ys; cases ys <;> rfl
    | cons x xs ih=>intro ys; cases ys with
     | nil=>rfl
     | cons y ys=>unfold HT.lexLt K2.lexLt; rw [ih]
   exact fh (EE hu pins s σ H _ _ v u (sQ X.K H G Q) I rx ry ⟨_,_,xs,ys,rfl,rfl,.of h1,.of h2,_,_,.refl ab,.bl _,by rw [el]; exact q⟩) fun _ _ z=>.of z
  | _=>exact bg q
 | _=>exact bg q
mutual
noncomputable def pd:D->PyData
 | .gR=>.none
 | .bl b=>.bool b
 | .int i=>.int i
 | .str x=>.str x
 | .tup ds=>.tuple (va ds)
 | .dD ds=>.list (va ds)
 | .rY _=>.none
 | .exc _=>.none
 | .ref _=>.none
noncomputable def va:List D->List PyData
 | []=>[]
 | d :: r=>pd d :: va r
end
mutual
theorem xy:∀ (s t:D),nr s=true->nr t=true->PyData.eqv (pd s) (pd t)=iG s t
 | .gR,t,_,ht=>by cases t <;> first | rfl | (exact bJ (show false=true from ht))
 | .bl a,t,_,ht=>by cases t <;> first | rfl | (exact bJ (show false=true from ht))
 | .int a,t,_,ht=>by cases t <;> first | rfl | (exact bJ (show false=true from ht))
 | .str a,t,_,ht=>by cases t <;> first | rfl | (exact bJ (show false=true from ht))
 | .tup a,t,hs,ht=>by
  cases t with
  | tup b=>exact uL a b hs ht
  | ref _=>exact bJ (show false=true from ht)
  | exc _=>exact bJ (show false=true from ht)
  | rY _=>exact bJ (show false=true from ht)
  | _=>rfl
 | .dD a,t,hs,ht=>by
  cases t with
  | dD b=>exact uL a b hs ht
  | ref _=>exact bJ (show false=true from ht)
  | exc _=>exact bJ (show false=true from ht)
  | rY _=>exact bJ (show false=true from ht)
  | _=>rfl
 | .ref _,_,hs,_=>bJ (show false=true from hs)
 | .exc _,_,hs,_=>bJ (show false=true from hs)
 | .rY _,_,hs,_=>bJ (show false=true from hs)
theorem uL:∀ (s t:List D),yW s=true->yW t=true->PyData.eqvAll (va s) (va t)=gI s t
 | [],[],_,_=>rfl
 | [],_ :: _,_,_=>rfl
 | _ :: _,[],_,_=>rfl
 | a :: r,b :: t,hs,ht=>by
  have HV:nr a=true/\yW r=true:=(pf).mp hs;have Lq:nr b=true/\yW t=true:=(pf).mp ht;show (PyData.eqv (pd a) (pd b)&&PyData.eqvAll (va r) (va t))=(iG a b&&gI r t);rw [xy a b HV.1 Lq.1,uL r t HV.2 Lq.2]
end
mutual
theorem qQ:∀ (s:D),nr s=true->(pd s).canLay0=true
 | .gR,_=>rfl
 | .bl a,_=>rfl
 | .int a,_=>rfl
 | .str a,h=>h
 | .tup a,h=>uy a h
 | .dD a,h=>uy a h
 | .exc _,_=>rfl
 | .ref _,_=>rfl
 | .rY _,_=>rfl
theorem uy:∀ (s:List D),yW s=true->PyData.canLayAll0 (va s)=true
 | [],_=>rfl
 | a :: r,h=>by
  have h':nr a=true/\yW r=true:=(pf).mp h;show ((pd a).canLay0&&PyData.canLayAll0 (va r))=true;rw [qQ a h'.1,uy r h'.2]; rfl
end
theorem BA{G:Gp}{n:Nat}{d t:D}(h:Sn G n d t):(pd t).depth<=n:=by
 induction h with
 | gR=>exact c6 _
 | bl b=>exact c6 _
 | int i=>exact c6 _
 | str x h=>exact c6 _
 | vj=>exact nj (c6 _)
 | kI _ _ A8 A7 =>
  exact nj (Nat.max_le.mpr ⟨A8,BW A7⟩)
 | wW=>exact nj (c6 _)
 | qF _ _ A8 A7 =>
  exact nj (Nat.max_le.mpr ⟨A8,BW A7⟩)
 | ref _ _ ih=>exact ih
theorem lW{pins:List (Addr×Obj)}{σ:L2.St}{H:Hp}{s:aw}{G:Gp}(I:Inv X pins σ H s)(ab:kH X.K H G){n:Nat}{d t:D}(h:Sn G n d t) :
  (∀ v u,ck X.K H v d->RelV v u->∃ as,Reads s.heap u (pd t) as) /\
  (∀ ds ss,(d=.dD ds/\t=.dD ss)\/(d=.tup ds/\t=.tup ss)->∀ vs us,aY X.K H vs ds->Vals vs us->∃ as,oy s.heap us (va ss) as):=by
 have DH:∀ {ds ss:List D},(∀ vs us,aY X.K H vs ds->Vals vs us->∃ as,oy s.heap us (va ss) as)->∀ v u,ck X.K H v (.tup ds)->RelV v u->∃ as,Reads s.heap u (pd (.tup ss)) as:=by
  intro ds ss k v u r ru;cases r with
  | tup hq rs =>
   cases ru;obtain⟨cH,rv,⟨o,ho,hc,n,hd⟩,hz⟩:=I.tuple (.of hq);obtain⟨as,ra⟩:=k _ cH rs rv;exact⟨as,.tuple ho hc hd (by simpa using ra)⟩
 have DL:∀ {ds ss:List D},(∀ vs us,aY X.K H vs ds->Vals vs us->∃ as,oy s.heap us (va ss) as)->∀ v u,ck X.K H v (.dD ds)->RelV v u->∃ as,Reads s.heap u (pd (.dD ss)) as:=by
  intro ds ss k v u r ru;cases r with
  | dD hq rs =>
   cases ru;obtain⟨cH,rv,pl,hz⟩:=I.list hq.sq;obtain⟨o,ho,hc,n,hd⟩:=pl.isList;obtain⟨as,ra⟩:=k _ cH rs rv;exact⟨_,.list ho hc hd (by simpa using ra)⟩
 induction h with
 | gR=>exact⟨fun v u r ru=>by cases r; cases ru; exact⟨_,.none⟩,fun ds ss e=>by rcases e with ⟨e,_⟩ | ⟨e,_⟩ <;> cases e⟩
 | bl b=>exact⟨fun v u r ru=>by cases r; cases ru; exact⟨_,.bool b⟩,fun ds ss e=>by rcases e with ⟨e,_⟩ | ⟨e,_⟩ <;> cases e⟩
 | int i=>exact⟨fun v u r ru=>by cases r; obtain⟨t,rfl⟩:=ru; exact⟨_,.int i t⟩,fun ds ss e=>by rcases e with ⟨e,_⟩ | ⟨e,_⟩ <;> cases e⟩
 | str x hx=>exact⟨fun v u r ru=>by cases r; obtain⟨t,rfl⟩:=ru; exact⟨_,.str x t⟩,fun ds ss e=>by rcases e with ⟨e,_⟩ | ⟨e,_⟩ <;> cases e⟩
 | vj =>
  have k:∀ vs us,aY X.K H vs []->Vals vs us->∃ as,oy s.heap us (va []) as:=fun vs us r ru=>by
   have e:=r.zero;subst e;cases ru;exact⟨_,.nil⟩
  refine⟨DH k,fun ds ss e=>?_⟩;rcases e with ⟨e,_⟩ | ⟨e,e2⟩
  ·cases e
  ·cases e; cases e2; exact k
 | kI h1 h2 A8 A7 =>
  have k2:=A7.2 _ _ (.inr ⟨rfl,rfl⟩);have k:∀ vs us,aY X.K H vs (_ :: _)->Vals vs us->∃ as,oy s.heap us (va (_ :: _)) as:=fun vs us r ru=>by
   cases r with
   | cons r1 r2 =>
    cases ru with
    | cons u1 u2 =>
     obtain⟨as,ra⟩:=A8.1 _ _ r1 u1;obtain⟨bs,rb⟩:=k2 _ _ r2 u2;exact⟨_,.cons ra rb⟩
  refine⟨DH k,fun ds ss e=>?_⟩;rcases e with ⟨e,_⟩ | ⟨e,e2⟩
  ·cases e
  ·cases e; cases e2; exact k
 | wW =>
  have k:∀ vs us,aY X.K H vs []->Vals vs us->∃ as,oy s.heap us (va []) as:=fun vs us r ru=>by
   have e:=r.zero;subst e;cases ru;exact⟨_,.nil⟩
  refine⟨DL k,fun ds ss e=>?_⟩;rcases e with ⟨e,e2⟩ | ⟨e,_⟩
  ·cases e; cases e2; exact k
  ·cases e
 | qF h1 h2 A8 A7 =>
  have k2:=A7.2 _ _ (.inl ⟨rfl,rfl⟩);have k:∀ vs us,aY X.K H vs (_ :: _)->Vals vs us->∃ as,oy s.heap us (va (_ :: _)) as:=fun vs us r ru=>by
   cases r with
   | cons r1 r2 =>
    cases ru with
    | cons u1 u2 =>
     obtain⟨as,ra⟩:=A8.1 _ _ r1 u1;obtain⟨bs,rb⟩:=k2 _ _ r2 u2;exact⟨_,.cons ra rb⟩
  refine⟨DL k,fun ds ss e=>?_⟩;rcases e with ⟨e,e2⟩ | ⟨e,_⟩
  ·cases e; cases e2; exact k
  ·cases e
 | ref hg h1 ih =>
  refine⟨fun v u r ru=>?_,fun ds ss e=>by rcases e with ⟨e,_⟩ | ⟨e,_⟩ <;> cases e⟩;cases r;cases ru;obtain⟨vs,hv,rs⟩:=ab.lst hg;obtain⟨cH,rv,pl,hz⟩:=I.list (.of hv);obtain⟨o,ho,hc,n,hd⟩:=pl.isList;obtain⟨as,ra⟩:=ih.2 _ _ (.inl ⟨rfl,rfl⟩) vs cH rs rv;exact⟨_,.list ho hc hd (by simpa using ra)⟩
theorem dv(hu:X.A.units+64 < cLine):mr X (gE .Eq) (ml false):=by
 intro pins s σ H G x y dx dy v u Q I ab rx ry dX dY q;obtain⟨a,b,sa,sb,q⟩:=q;obtain⟨as,ra⟩:=(lW I ab sa).1 x v dX rx;obtain⟨bs,rb⟩:=(lW I ab sb).1 y u dY ry;have d1:=BA sa;refine SeqAt.compareEq_reads ra rb (qQ _ sa.nr) (qQ _ sb.nr) (by unfold SN at d1; lia) ?_;rw [xy _ _ sa.nr sb.nr];exact⟨.bl _,H,.bl _,G,I,.refl ab,rfl,.bl _,q⟩
theorem qG(hu:X.A.units+64 < cLine):mr X (gE .NotEq) (ml true):=by
 intro pins s σ H G x y dx dy v u Q I ab rx ry dX dY q;obtain⟨a,b,sa,sb,q⟩:=q;obtain⟨as,ra⟩:=(lW I ab sa).1 x v dX rx;obtain⟨bs,rb⟩:=(lW I ab sb).1 y u dY ry;have d1:=BA sa;refine SeqAt.compareNe_reads ra rb (qQ _ sa.nr) (qQ _ sb.nr) (by unfold SN at d1; lia) ?_;rw [xy _ _ sa.nr sb.nr];exact⟨.bl _,H,.bl _,G,I,.refl ab,rfl,.bl _,q⟩
end
end K2
end
section
namespace K2
open PySem PySem.Spec PyProof.Rows L2
theorem n0(j k:Key):iG (dI j) (dI k)=decide (j=k):=by
 cases j with
 | inl a=>cases k with
  | inl b=>rw [A2]; rfl
  | inr b=>exact(decide_eq_false (fun z=>nomatch z)).symm
 | inr a=>cases k with
  | inl b=>exact(decide_eq_false (fun z=>nomatch z)).symm
  | inr b=>rw [A1]; exact(B1 a b)
theorem tO:∀ (js ks:List Key),gI (js.map dI) (ks.map dI)=decide (js=ks)
 | [],[]=>(decide_eq_true rfl).symm
 | [],_ :: _=>(decide_eq_false (fun z=>nomatch z)).symm
 | _ :: _,[]=>(decide_eq_false (fun z=>nomatch z)).symm
 | j :: js,k :: ks=>by
  show (iG (dI j) (dI k)&&gI (js.map dI) (ks.map dI))=_;rw [n0,tO js ks,rl]
theorem nZ(js ks:List Key):iG (.tup (js.map dI)) (.tup (ks.map dI))=decide (js=ks):=by
 exact tO js ks
section
variable {K:ah} {H:Hp}
theorem qh{d:D}(h:dw d=true):∃ k:Key,d=dI k:=by
 cases d with
 | int i=>exact⟨.inl i,rfl⟩
 | str x=>exact⟨.inr x,rfl⟩
 | _=>exact absurd h (by simp [dw])
theorem yh:∀ {ds:List D},ds.all dw=true->∃ ks:List Key,ds=ks.map dI
 | [],_=>⟨[],rfl⟩
 | d :: r,h=>by
  rw [rW,aQ] at h;obtain⟨k,rfl⟩:=qh h.1;obtain⟨ks,rfl⟩:=yh h.2;exact⟨k :: ks,rfl⟩
theorem yi{d:D}(h:mS d=true):∃ ks:List Key,d=.tup (ks.map dI):=by
 cases d with
 | tup ds=>obtain⟨ks,rfl⟩:=yh (ds:=ds) h; exact⟨ks,rfl⟩
 | _=>exact absurd h (by simp [mS])
theorem qe{v:V}{k:Key}(r:ck K H v (dI k)):v=kV k:=by
 cases k with
 | inl i=>cases r; rfl
 | inr x=>cases r; rfl
theorem vo:∀ {vs:List V} {ks:List Key},aY K H vs (ks.map dI)->vs=ks.map kV
 | _,[],r=>r.zero
 | _,k :: ks,r=>by
  rw [ax] at r;cases r with
  | cons r1 r2=>rw [qe r1,vo r2]; rfl
theorem vp{v:V}{ks:List Key}(r:ck K H v (.tup (ks.map dI))):∃ b,v=.ref b/\H b=some (.tup (ks.map kV)):=by
 cases r with
 | tup h rs=>have e:=vo rs; subst e; exact⟨_,rfl,h⟩
theorem j9.look{kv:List (Key×V)}{aS:List (D×D)}(r:j9 K H kv aS)(k:Key):(∃ v d,iC kv k=some v/\K2.look aS (dI k)=some d/\ck K H v d)\/(iC kv k=none/\K2.look aS (dI k)=none):=by
 induction r using j9.ind with
 | nil=>exact .inr ⟨rfl,rfl⟩
 | @cons j v d r t rd rs ih =>
  by_cases e:j=k
  ·left;refine⟨v,d,lh (p:=(j,v)) e,?_,rd⟩;unfold K2.look;rw [zQ (by show iG (dI j) (dI k)=true; rw [n0]; exact decide_eq_true e)]; rfl
  ·have e1:iC ((j,v) :: r) k=iC r k:=lj (p:=(j,v)) e;have e2:K2.look ((dI j,d) :: t) (dI k)=K2.look t (dI k):=by
    unfold K2.look;rw [zR (by show ¬ iG (dI j) (dI k)=true; rw [n0]; simpa using e)]
   rw [e1,e2];exact ih
theorem k7.look{kv:List (List Key×V)}{aS:List (D×D)}(r:k7 K H kv aS)(k:List Key):(∃ v d,iC kv k=some v/\K2.look aS (.tup (k.map dI))=some d/\ck K H v d)\/(iC kv k=none/\K2.look aS (.tup (k.map dI))=none):=by
 induction r using k7.ind with
 | nil=>exact .inr ⟨rfl,rfl⟩
 | @cons j v d r t rd rs ih =>
  by_cases e:j=k
  ·left;refine⟨v,d,lh (p:=(j,v)) e,?_,rd⟩;unfold K2.look;rw [zQ (by show iG (.tup (j.map dI)) (.tup (k.map dI))=true; rw [nZ]; exact decide_eq_true e)]; rfl
  ·have e1:iC ((j,v) :: r) k=iC r k:=lj (p:=(j,v)) e;have e2:K2.look ((.tup (j.map dI),d) :: t) (.tup (k.map dI))=K2.look t (.tup (k.map dI)):=by
    unfold K2.look;rw [zR (by show ¬ iG (.tup (j.map dI)) (.tup (k.map dI))=true; rw [nZ]; simpa using e)]
   rw [e1,e2];exact ih
theorem j9.any{kv:List (Key×V)}{aS:List (D×D)}(r:j9 K H kv aS)(k:Key):(kv.any fun p=>decide (p.1=k))=aS.any fun p=>iG p.1 (dI k):=by
 induction r using j9.ind with
 | nil=>rfl
 | @cons j v d r t rd rs ih=>simp only [mz]; rw [ih,n0]
theorem k7.any{kv:List (List Key×V)}{aS:List (D×D)}(r:k7 K H kv aS)(k:List Key):(kv.any fun p=>decide (p.1=k))=aS.any fun p=>iG p.1 (.tup (k.map dI)):=by
 induction r using k7.ind with
 | nil=>rfl
 | @cons j v d r t rd rs ih=>simp only [mz]; rw [ih,nZ]
theorem j9.put{kv:List (Key×V)}{aS:List (D×D)}(r:j9 K H kv aS)(k:Key){v:V}{d:D}(rd:ck K H v d):j9 K H (putK kv k v) (K2.put aS (dI k) d):=by
 unfold putK K2.put;rw [r.any k];by_cases h:(aS.any fun p=>iG p.1 (dI k))=true
 ·rw [if_pos h,if_pos h];clear h;induction r using j9.ind with
  | nil=>exact .nil
  | @cons j w e r t re rs ih =>
   simp only [ax];rw [n0];by_cases e:j=k
   ·simp only [e,if_true,decide_true]; exact .cons rd ih
   ·simp only [e,if_false,decide_false,af]; exact .cons re ih
 ·rw [if_neg h,if_neg h];clear h;induction r using j9.ind with
  | nil=>exact .cons rd .nil
  | cons re rs ih=>exact .cons re ih
theorem k7.put{kv:List (List Key×V)}{aS:List (D×D)}(r:k7 K H kv aS)(k:List Key){v:V}{d:D}(rd:ck K H v d):k7 K H (putK kv k v) (K2.put aS (.tup (k.map dI)) d):=by
 unfold putK K2.put;rw [r.any k];by_cases h:(aS.any fun p=>iG p.1 (.tup (k.map dI)))=true
 ·rw [if_pos h,if_pos h];clear h;induction r using k7.ind with
  | nil=>exact .nil
  | @cons j w e r t re rs ih =>
   simp only [ax];rw [nZ];by_cases e:j=k
   ·simp only [e,if_true,decide_true]; exact .cons rd ih
   ·simp only [e,if_false,decide_false,af]; exact .cons re ih
 ·rw [if_neg h,if_neg h];clear h;induction r using k7.ind with
  | nil=>exact .cons rd .nil
  | cons re rs ih=>exact .cons re ih
end
theorem Kp.putD{H:Hp}{p:Addr}{o o':HO}(hp:H p=some o)(h:(∃ k,o=.dK k)\/∃ k,o=.dT k):Kp H (upd H p o') :=
 ⟨fun a ys e=>by rw [bK (by rintro rfl; rw [hp] at e; rcases h with ⟨_,rfl⟩ | ⟨_,rfl⟩ <;> cases e)]; exact e,fun a ob u e=>by rw [bK (by rintro rfl; rw [hp] at e; rcases h with ⟨_,rfl⟩ | ⟨_,rfl⟩ <;> cases e)]; exact e⟩
section
variable {X:Cx} {pins:List (Addr×Obj)} {σ:L2.St} {H:Hp} {s:aw} {G:Gp} {a:Addr} {aS:List (D×D)} {k:D} {y:V}
theorem toT(I:Inv X pins σ H s)(e:H a=some (.dK [])):Inv X pins σ (upd H a (.dT [])) s:=by
 obtain⟨z,hd,vs,rel,dd⟩:=tR I.dn e;have hv:vs=[]:=by cases rel; rfl
 subst hv;obtain⟨o,es,ep,ho,hx,vH,MV,hl,nd⟩:=dd;have he:es=#[]:=by
  cases hq:es.toList with
  | nil=>simpa using hq
  | cons _ _=>rw [hq] at hl; cases hl
 subst he;exact I.write (h':=s.heap) (t':=s.toks) (x:=a) (e:=a) (by rw [e]; exact eR) (.inl rfl) (fun b u _ q=>q) ⟨o,ho⟩ ⟨c6 _,hd,[],.nil,o,#[],ep,ho,hx,vH,rfl,fN⟩
theorem toK(I:Inv X pins σ H s)(e:H a=some (.dT [])):Inv X pins σ (upd H a (.dK [])) s:=by
 obtain⟨z,hd,xs,rel,o,es,ep,ho,hx,vH,hl,nd⟩:=I.dn a _ e;have hv:xs=[]:=by cases rel; rfl
 subst hv;have he:es=#[]:=by simpa using hl
 subst he;exact I.write (h':=s.heap) (t':=s.toks) (x:=a) (e:=a) (by rw [e]; exact eR) (.inl rfl) (fun b u _ q=>q) ⟨o,ho⟩ ⟨c6 _,hd,[],.nil,o,#[],ep,ho,hx,vH,(fun _ h=>by simp at h),.nil,fN⟩
theorem yd{o:HO}(ab:kH X.K H G)(hg:G a=some (.gT aS))(k:Kp H (upd H a o))(ho:zw X.K (upd H a o) a (.gT aS)):Mv X.K H G (upd H a o) G:=by
 have m:=Mv.put ab hg k ho;have e:cy G a (.gT aS)=G:=by
  funext b; unfold cy; split
  ·rename_i z; rw [z,hg]
  ·rfl
 rw [e] at m;exact m
theorem yv(I:Inv X pins σ H s)(ab:kH X.K H G)(hg:G a=some (.gT aS))(hk:gX aS k=true)(ry:ck X.K H y k) :
  ∃ H',Inv X pins σ H' s/\Mv X.K H G H' G/\((∃ (kv:List (Key×V)) (kk:Key),H' a=some (.dK kv)/\j9 X.K H' kv aS/\k=dI kk/\y=kV kk)\/∃ (kv:List (List Key×V)) (kk:List Key) (b:Addr),H' a=some (.dT kv)/\k7 X.K H' kv aS/\k=.tup (kk.map dI)/\y=.ref b/\H' b=some (.tup (kk.map kV))):=by
 unfold gX at hk;rw [j8,aQ,aQ] at hk;rcases hk with ⟨h1,h2⟩ | ⟨h1,h2⟩
 ·obtain⟨kk,rfl⟩:=qh h1;have ey:=qe ry;subst ey;rcases ab a _ hg with ⟨kv,hv,rs⟩ | ⟨kv,hv,rs⟩
  ·exact⟨H,I,.refl ab,.inl ⟨kv,kk,hv,rs,rfl,rfl⟩⟩
  ·cases rs with
   | nil =>
    refine⟨_,toK I hv,yd ab hg (.putD hv (.inr ⟨_,rfl⟩)) (.inl ⟨[],bR,.nil⟩),.inl ⟨[],kk,bR,.nil,rfl,rfl⟩⟩
   | cons _ _=>simp [dw] at h2
 ·obtain⟨kk,rfl⟩:=yi h1;obtain⟨b,rfl,hb⟩:=vp ry;rcases ab a _ hg with ⟨kv,hv,rs⟩ | ⟨kv,hv,rs⟩
  ·cases rs with
   | nil =>
    have kp:Kp H (upd H a (.dT [])):=.putD hv (.inl ⟨_,rfl⟩);exact⟨_,toT I hv,yd ab hg kp (.inr ⟨[],bR,.nil⟩),.inr ⟨[],kk,b,bR,.nil,rfl,rfl,kp.tup _ _ hb⟩⟩
   | @cons j _ _ _ _ _ _=>cases j <;> simp [dI,mS] at h2
  ·exact⟨H,I,.refl ab,.inr ⟨kv,kk,b,hv,rs,rfl,rfl,hb⟩⟩
theorem Bz(I:Inv X pins σ H s)(ab:kH X.K H G)(hg:G a=some (.gT aS))(hk:gX aS k=true)(ry:ck X.K H y k) :
  ∃ H' o,Inv X pins σ H' s/\Mv X.K H G H' G/\wa H' a y o/\o.isSome=(look aS k).isSome/\∀ d,look aS k=some d->∃ v,o=some v/\ck X.K H' v d:=by
 obtain⟨H',I',m,h⟩:=yv I ab hg hk ry;rcases h with ⟨kv,kk,hv,rs,rfl,rfl⟩ | ⟨kv,kk,b,hv,rs,rfl,rfl,hb⟩
 ·refine⟨H',iC kv kk,I',m,.k hv,?_,fun d hd=>?_⟩
  ·rcases rs.look kk with ⟨v,d,e1,e2,_⟩ | ⟨e1,e2⟩ <;> rw [e1,e2] <;> rfl
  ·rcases rs.look kk with ⟨v,d',e1,e2,r⟩ | ⟨e1,e2⟩
   ·rw [e2] at hd; cases hd; exact⟨v,e1,r⟩
   ·rw [e2] at hd; cases hd
 ·refine⟨H',iC kv kk,I',m,.t hv hb,?_,fun d hd=>?_⟩
  ·rcases rs.look kk with ⟨v,d,e1,e2,_⟩ | ⟨e1,e2⟩ <;> rw [e1,e2] <;> rfl
  ·rcases rs.look kk with ⟨v,d',e1,e2,r⟩ | ⟨e1,e2⟩
   ·rw [e2] at hd; cases hd; exact⟨v,e1,r⟩
   ·rw [e2] at hd; cases hd
theorem x4{x:V}(I:Inv X pins σ H s)(rd:ck X.K H x (.rY aS))(hk:gX aS k=true)(ry:ck X.K H y k) :
  ∃ a o,x=.ref a/\(aS=[]\/wa H a y o)/\o.isSome=(look aS k).isSome/\∀ d,look aS k=some d->∃ v,o=some v/\ck X.K H v d:=by
 unfold gX at hk;rw [j8,aQ,aQ] at hk;cases rd with
 | oH h rs =>
  rename_i a ob kv;rcases hk with ⟨h1,h2⟩ | ⟨h1,h2⟩
  ·obtain⟨kk,rfl⟩:=qh h1;have ey:=qe ry;subst ey;refine⟨a,iC kv kk,rfl,.inr (.inl ⟨kv,kk,.inr ⟨_,h⟩,rfl,rfl⟩),?_,fun d hd=>?_⟩
   ·rcases rs.look kk with ⟨v,d,e1,e2,_⟩ | ⟨e1,e2⟩ <;> rw [e1,e2] <;> rfl
   ·rcases rs.look kk with ⟨v,d',e1,e2,r⟩ | ⟨e1,e2⟩
    ·rw [e2] at hd; cases hd; exact⟨v,e1,r⟩
    ·rw [e2] at hd; cases hd
  ·cases rs with
   | nil=>exact⟨a,none,rfl,.inl rfl,rfl,fun d hd=>by cases hd⟩
   | cons _ _ =>
    rename_i kx _ _ _ _ _ _;rw [rW,aQ] at h2;cases kx <;> exact absurd h2.1 (by simp [dI,mS])
 | oG h rs =>
  rename_i a ob kv;rcases hk with ⟨h1,h2⟩ | ⟨h1,h2⟩
  ·cases rs with
   | nil=>exact⟨a,none,rfl,.inl rfl,rfl,fun d hd=>by cases hd⟩
   | cons _ _ =>
    rw [rW,aQ] at h2;exact absurd h2.1 (by simp [dw])
  ·obtain⟨kk,rfl⟩:=yi h1;obtain⟨b,rfl,hb⟩:=vp ry;refine⟨a,iC kv kk,rfl,.inr (.inr ⟨kv,kk,b,.inr ⟨_,h⟩,rfl,hb,rfl⟩),?_,fun d hd=>?_⟩
   ·rcases rs.look kk with ⟨v,d,e1,e2,_⟩ | ⟨e1,e2⟩ <;> rw [e1,e2] <;> rfl
   ·rcases rs.look kk with ⟨v,d',e1,e2,r⟩ | ⟨e1,e2⟩
    ·rw [e2] at hd; cases hd; exact⟨v,e1,r⟩
    ·rw [e2] at hd; cases hd
theorem By{v:V}{d:D}(I:Inv X pins σ H s)(ab:kH X.K H G)(hg:G a=some (.gT aS))(hk:gX aS k=true)(hz:aS.length < SZ)(ry:ck X.K H y k)(rv:ck X.K H v d) :
  ∃ H' LR,Inv X pins σ H' s/\zv H' a y v LR/\Mv X.K H G LR (cy G a (.gT (put aS k d))):=by
 obtain⟨H',I',m,h⟩:=yv I ab hg hk ry;have K8:=rv.mono (m.kp ab);have sz:a4=16777216:=cM;rcases h with ⟨kv,kk,hv,rs,rfl,rfl⟩ | ⟨kv,kk,b,hv,rs,rfl,rfl,hb⟩
 ·have kp:Kp H' (upd H' a (.dK (putK kv kk v))):=.putD hv (.inl ⟨_,rfl⟩);exact⟨H',_,I',.k hv (by rw [rs.length,sz]; exact hz),m.trans (.put m.ab hg kp (.inl ⟨_,bR,(rs.put kk K8).mono kp⟩))⟩
 ·have kp:Kp H' (upd H' a (.dT (putK kv kk v))):=.putD hv (.inr ⟨_,rfl⟩);exact⟨H',_,I',.t hv hb (by rw [rs.length,sz]; exact hz),m.trans (.put m.ab hg kp (.inr ⟨_,bR,(rs.put kk K8).mono kp⟩))⟩
end
end K2
end
section
namespace K2
open PySem PySem.Spec PyProof.Rows L2
section
variable {X:Cx} {a b c e:Expr} {es:List Expr} {ta tb tc te:fz} {t:tX} {pos p p2 apos i7:Pos} {x:Str}
theorem iQ{k:Bool}{j}:fE X (.Constant (.bool k) j pos) (dC (.bl k)):=oM Gu fun _ _=>.bl k
theorem bZ{y:Str}{j}:fE X (.Constant (.str y) j pos) (dC (.str y)):=oM Ey fun _ _=>.str y
theorem yQ{st:Stmt}:xF X st BF:=fun _ _ _ _ _ _ _ _ _ _ h=>h.elim
theorem aM(hu:X.A.units+64 < cLine)(ha:fE X a ta)(hb:fE X b tb)(hs:DD b):fE X (.Subscript a b pos) (aI du ta tb):=by
 intro E pins s σ H τ G Q hE I h;refine Subscript_ (BO ha hb hE I h fun v u s2 x y dx dy H2 G2 J m rx ry dX dY q=>?_);have fin:∀ {rb:R2},KI X rb->rb x y H2 (sQ X.K H2 G2 Q)->wpAny (model X.prog X.w) X.A (subscriptTail a b v u) (p9 X pins σ H G Q) X.xe s2:=fun hr hq =>
  fh (hr a b pins s2 σ H2 x y v u _ J.inv rx ry hq (hs _ _)) fun _ _ z=>(p9.of z).trans m
 cases dX with
 | tup hq rs =>
  cases dY with
  | int i =>
   rw [bP] at q;split at q
   ·rename_i d hd;obtain⟨w,hw,qB⟩:=rs.mG hd;exact fin ER ⟨_,_,i,w,rfl,rfl,.of hq,hw,d,G2,.refl J.ab,qB,q⟩
   ·exact q.elim
  | _=>exact bg q
 | dD hq rs =>
  cases dY with
  | int i =>
   rw [vr] at q;split at q
   ·rename_i d hd;obtain⟨w,hw,qB⟩:=rs.mG hd;exact fin yk ⟨_,_,i,w,rfl,rfl,hq.sq,hw,d,G2,.refl J.ab,qB,q⟩
   ·exact q.elim
  | _=>exact bg q
 | oH h rs =>
  rw [x6] at q;obtain⟨hk,q⟩:=q;split at q
  ·rename_i d hd;obtain⟨a',o,ea,g,_,hv⟩:=x4 J.inv (.oH h rs) hk dY;obtain⟨w,rfl,qB⟩:=hv d hd;cases ea;rcases g with rfl | g
   ·cases hd
   ·cases rx;exact tail_any (lP J.inv g) PySem.F.slot_dict_getitem.lookup (oZ (by lia) J.inv g ry fun w' s3 I4 rv=>⟨w,H2,d,G2,I4,m,rv,qB,q⟩) (hs _ _)
  ·exact q.elim
 | oG h rs =>
  rw [x6] at q;obtain⟨hk,q⟩:=q;split at q
  ·rename_i d hd;obtain⟨a',o,ea,g,_,hv⟩:=x4 J.inv (.oG h rs) hk dY;obtain⟨w,rfl,qB⟩:=hv d hd;cases ea;rcases g with rfl | g
   ·cases hd
   ·cases rx;exact tail_any (lP J.inv g) PySem.F.slot_dict_getitem.lookup (oZ (by lia) J.inv g ry fun w' s3 I4 rv=>⟨w,H2,d,G2,I4,m,rv,qB,q⟩) (hs _ _)
  ·exact q.elim
 | ref l =>
  rw [CL] at q;split at q
  ·rename_i ds hl;obtain⟨vs,hv,rs⟩:=J.ab.lst hl;cases dY with
   | int i =>
    dsimp only at q;split at q
    ·rename_i d hd;obtain⟨w,hw,qB⟩:=rs.mG hd;exact fin yk ⟨_,_,i,w,rfl,rfl,.of hv,hw,d,G2,.refl J.ab,qB,q⟩
    ·exact q.elim
   | _=>exact bg q
  ·rename_i aS hl;obtain⟨hk,q⟩:=q;split at q
   ·rename_i d hd;obtain⟨H3,o,I3,m3,g,_,hv⟩:=Bz J.inv J.ab hl hk dY;obtain⟨w,rfl,qB⟩:=hv d hd;cases rx;exact tail_any (lP I3 g) PySem.F.slot_dict_getitem.lookup (oZ (by lia) I3 g ry fun w' s3 I4 rv=>⟨w,H3,d,G2,I4,m.trans m3,rv,qB,q⟩) (hs _ _)
   ·exact q.elim
  ·exact q.elim
 | _=>exact bg q
noncomputable def Ii(X:Cx)(e:Option Expr)(t:Hy):Prop :=
 ∀ (E:jh) (pins:List (Addr×Obj)) (s:aw) (σ:L2.St) (H:Hp) (τ:fM) (G:Gp) (Q:Option Int->Gp->Prop),Lk X E->I2 X pins σ H τ G s->t E τ G Q ->
  wpAny (model X.prog X.w) X.A (evalPart e X.env) (fun u s'=>∃ o H' G',Inv X pins σ H' s'/\Mv X.K H G H' G'/\IsPart u o/\Q o G') X.xe s
theorem AJ:Ii X none uO:=by
 intro E pins s σ H τ G Q hE I h;rw [evalPart_none];exact bz ⟨none,H,G,I.inv,.refl I.ab,.none,h⟩
theorem AI(h:fE X e te):Ii X (some e) (BC te):=by
 intro E pins s σ H τ G Q hE I hw;rw [evalPart_some];refine ig h hE I hw fun x H1 d G1 u s1 I1 m1 r1 hX q1=>?_;cases hX with
 | int i =>
  obtain⟨t,rfl⟩:=r1;exact⟨some i,H1,G1,I1.inv,m1,.int i t,q1⟩
 | _=>exact bg q1
theorem yS{lo hi:Option Expr}{tl th:Hy}(he:fE X a ta)(hl:Ii X lo tl)(hu:Ii X hi th):fE X (.Subscript a (.Slice lo hi none p2) pos) (Ks ta tl th):=by
 intro E pins s σ H τ G Q hE I h;refine Subscript_ (ig he hE I h fun x H1 d G1 v s1 I1 m1 r1 hX q1=>?_);refine wpAny_Slice (fh (hl E pins s1 σ H1 τ G1 _ hE I1 q1) ?_);rintro vl s2 ⟨l,H2,G2,ji,m2,pl,q2⟩;refine fh (hu E pins s2 σ H2 τ G2 _ hE (I1.mv ji m2) q2) ?_;rintro vu s3 ⟨r,H3,G3,I3,m3,pu,q3⟩;rw [evalPart_none];refine bz ?_;have Ll:=m2.trans m3;have mm:=m1.trans Ll;have I4:Inv X pins σ H3 { s3 with heap:=s3.heap.push { cls:=.type "slice",data:=.fields #[vl,vu,.none] } }:=I3.kept (t':=s3.toks) fun b ob q=>aP _ q;have IH:=hX.mono (Ll.kp I1.ab);have DY:=m3.ab;have key:∀ {rb:V->Option Int->Option Int->Hp->VK->Prop},KC X rb->rb x l r H3 (sQ X.K H3 G3 Q)->wpAny (model X.prog X.w) X.A (subscriptTail a (.Slice lo hi none p2) v (.ref s3.heap.objs.size)) (p9 X pins σ H G Q) X.xe { s3 with heap:=s3.heap.push { cls:=.type "slice",data:=.fields #[vl,vu,.none] } }:=fun hr hq=>by
  obtain⟨T,id,hT,ht,hg⟩:=hr pins { s3 with heap:=s3.heap.push { cls:=.type "slice",data:=.fields #[vl,vu,.none] } } σ H3 x v vl vu l r s3.heap.objs.size _ I4 r1 (Heap.IsSliceOf.new ..) pl pu hq;exact fh (tail_any (ops:=[.ref s3.heap.objs.size,v]) ht hT hg (by with_unfolding_all rfl)) fun _ _ z=>(p9.of z).trans mm
 cases IH with
 | tup hq rs =>
  obtain⟨hw,q⟩:=q3;refine key Ek ⟨_,_,rfl,.of hq,?_,fun p hp=>⟨_,G3,.EY DY hp,.tup bR ((rs.cut l r).mono (.new hp)),q⟩⟩;rw [um,um,rs.length];exact hw
 | dD hq rs=>exact key x2 ⟨_,_,rfl,hq.sq,fun p hp=>⟨_,_,.De DY hp (rs.cut l r),.ref _,q3 p (DY.free hp)⟩⟩
 | ref g =>
  rw [CH] at q3;split at q3
  ·rename_i ds hg;obtain⟨vs,hv,rs⟩:=DY.lst hg;exact key x2 ⟨_,_,rfl,.of hv,fun p hp=>⟨_,_,.De DY hp (rs.cut l r),.ref _,q3 p (DY.free hp)⟩⟩
  ·exact q3.elim
 | _=>exact bg q3
end
end K2
end
section
namespace K2
open PySem PySem.Spec PyProof.Rows L2
section
variable {X:Cx} {a b c e o:Expr} {es:List Expr} {ta tb tc te to:fz} {t:tX} {pos p p2 apos i7:Pos} {x name:Str} {id T:String}
theorem g7:rR X (.builtin "len") mZ:=by
 intro pins s σ H G xs ds us Q I ab rx rd q;unfold mZ at q;split at q
 ·rename_i x;obtain⟨v,rfl,r⟩:=rd.one;have Cy:∀ (n:Nat),HB X.K v H n->Q (.int (n:Int)) G->wpAny (model X.prog X.w) X.A (call (.builtin "len") us) (p9 X pins σ H G Q) X.xe s:=fun n hn hq =>
   fh (BJ pins s σ H [v] us (sQ X.K H G Q) I rx ⟨v,n,rfl,hn,_,_,.refl ab,.int _,hq⟩) fun _ _ z=>.of z
  have sz:a4=16777216:=cM;cases r with
  | tup hq rs=>exact Cy _ (.inr ⟨_,.of hq,by rw [rs.length]⟩) q
  | dD hq rs=>exact Cy _ (.inl ⟨_,hq.sq,by rw [rs.length]⟩) q
  | str y =>
   unfold lenOf at q;dsimp only at q;by_cases hz:y.length<=SZ
   ·rw [if_pos hz] at q; exact Cy _ ⟨by rw [sz]; exact hz,rfl⟩ q
   ·rw [if_neg hz] at q; exact q.elim
  | oH h rs =>
   rename_i l o kv aS;obtain⟨u,rfl,ru⟩:=rx.one;cases ru;unfold lenOf at q;dsimp only at q;by_cases ha:(aS.all fun p=>dw p.1)=true
   ·rw [if_pos ha] at q;exact DW I (.inr ⟨_,h⟩) fun t s' I'=>⟨.int kv.length,H,_,G,I',.refl ab,⟨t,rfl⟩,.int _,by rw [rs.length]; exact q⟩
   ·rw [if_neg ha] at q; exact q.elim
  | oG h rs =>
   rename_i l o kv aS;obtain⟨u,rfl,ru⟩:=rx.one;cases ru;unfold lenOf at q;dsimp only at q;by_cases ha:(aS.all fun p=>dw p.1)=true
   ·rw [if_pos ha] at q;cases rs with
    | nil =>
     obtain⟨z,hS,xs,rel,ob,es,ep,ho,hx,vH,hl,nd⟩:=(I.dn l _ h).2;have JH:xs=[]:=by cases rel; rfl
     subst JH;have he:es=#[]:=by simpa using hl
     subst he;have dd:s.heap.DictOf (dm X.prog X.w) l []:=⟨ob,#[],ep,ho,hx,vH,(fun _ h=>by simp at h),.nil,fN⟩;refine call_len_dict hS dd (by simp) ?_;exact⟨.int 0,H,_,G,I.tok _,.refl ab,⟨_,rfl⟩,.int _,q⟩
    | cons _ _=>simp [dw] at ha
   ·rw [if_neg ha] at q; exact q.elim
  | ref l =>
   unfold lenOf at q;dsimp only at q;cases hg:G l with
   | none=>rw [hg] at q; exact q.elim
   | some g =>
    rw [hg] at q;cases g with
    | lst ds =>
     obtain⟨vs,hv,rs⟩:=ab.lst hg;exact Cy _ (.inl ⟨_,.of hv,by rw [rs.length]⟩) q
    | ins _ _=>exact q.elim
    | gT aS =>
     obtain⟨u,rfl,ru⟩:=rx.one;cases ru;dsimp only at q;by_cases ha:(aS.all fun p=>dw p.1)=true
     ·rw [if_pos ha] at q;rcases ab l _ hg with ⟨kv,hv,rs⟩ | ⟨kv,hv,rs⟩
      ·exact DW I (.inl hv) fun t s' I'=>⟨.int kv.length,H,_,G,I',.refl ab,⟨t,rfl⟩,.int _,by rw [rs.length]; exact q⟩
      ·cases rs with
       | nil =>
        obtain⟨z,hd,vs,rel,dd⟩:=tR (toK I hv).dn bR;have MB:vs=[]:=by cases rel; rfl
        subst MB;refine call_len_dict hd dd (by simp) ?_;exact⟨.int 0,H,_,G,I.tok _,.refl ab,⟨_,rfl⟩,.int _,q⟩
       | cons _ _=>simp [dw] at ha
     ·rw [if_neg ha] at q; exact q.elim
  | _=>exact bg q
 ·exact q.elim
theorem mM {r:List D->Gp->DK->Prop} (hc:rR X (.type T) r) (hg:Gl X x) (hm:X.mg x=none) (hv:eO x=some (.type T)) (ha:xG X (e :: es) t) (hn:autoParam (x≠"__name__") Ad._auto_1) (zd:autoParam ((x == ("__debug__" : Str))=false) Ad._auto_1)
  (he:autoParam (bw (e :: es) X.env=(false,eval e X.env) :: bw es X.env) Ar._auto_1) (r0:autoParam ((ib pos (bw es X.env)).any (·.1)=false) Ar._auto_1):fE X (.Call (.Name x p) (e :: es) [] pos) (sN r t):=by
 intro E pins s σ H τ G Q hE I h;refine gx (mQ I.inv hg hm hv ?_ hn zd);exact iJ (uf ha pos hE I h fun vs H1 ds G1 us s1 I1 m1 r1 hX q1=>fh (hc pins s1 σ H1 G1 vs ds us Q I1.inv I1.ab r1 hX q1) fun _ _ z=>z.trans m1) he r0
theorem EM (K:ah):∀ C∈["int","bool","list","tuple","dict","str"],∀ T∈["NoneType","bool","int","str","tuple","list","dict"],au K (.type T) (.type C)=some (T == C||(T == "bool" && C == "int")):=by
 intro C hC T hT;simp only [zy,u5,or_false] at hC hT;rcases hC with rfl | rfl | rfl | rfl | rfl | rfl <;> rcases hT with rfl | rfl | rfl | rfl | rfl | rfl | rfl <;> kernel_rfl
theorem A4 (C:String) (hC:C∈["int","bool","list","tuple","dict","str"]) {pins:List (Addr×Obj)} {s:aw} {σ:L2.St} {H:Hp} {G:Gp} {v:V} {d:D} {u:Value} {k:Bool} {Q:DK} (I:Inv X pins σ H s) (ab:kH X.K H G) (ru:RelV v u) (r:ck X.K H v d)
  (hk:FG C d G=some k) (q:Q (.bl k) G):wpAny (model X.prog X.w) X.A (call (.builtin "isinstance") [u,.type C]) (p9 X pins σ H G Q) X.xe s:=by
 have fin:∀ tk,p9 X pins σ H G Q (.bool k) { s with toks:=tk }:=fun tk=>⟨.bl k,H,.bl k,G,I.tok _,.refl ab,rfl,.bl k,q⟩;have hl:∀ T∈["NoneType","bool","int","str","tuple","list","dict"],k=(T == C||(T == "bool" && C == "int"))->au X.K (.type T) (.type C)=some k:=fun T hT e=>by rw [EM X.K C hC T hT,e]
 have tl:∀ {l:Addr} {o:Obj},s.heap.get? l=some o->o.cls=.type "list"->k=("list" == C||("list" == "bool" && C == "int"))->v=.ref l->wpAny (model X.prog X.w) X.A (call (.builtin "isinstance") [u,.type C]) (p9 X pins σ H G Q) X.xe s:=fun ho hc e ev=>by
  subst ev;cases ru;exact e9 PySem.W.kitx_list I.rZ ⟨_,ho,hc⟩ (hl "list" (by decide) e) (fun z=>nomatch z) fin
 have td:∀ {l:Addr} {o:Obj},s.heap.get? l=some o->o.cls=.type "dict"->k=("dict" == C||("dict" == "bool" && C == "int"))->v=.ref l->wpAny (model X.prog X.w) X.A (call (.builtin "isinstance") [u,.type C]) (p9 X pins σ H G Q) X.xe s:=fun ho hc e ev=>by
  subst ev;cases ru;exact e9 PySem.W.kitx_dict I.rZ ⟨_,ho,hc⟩ (hl "dict" (by decide) e) (fun z=>nomatch z) fin
 have jQ:∀ P:String->Prop,(∀ C'∈["int","bool","list","tuple","dict","str"],P C')->P C:=fun P h=>h C hC;cases r with
 | gR =>
  cases ru;have e:k=("NoneType" == C||("NoneType" == "bool" && C == "int")):=by
   have:k=false:=(a8 hk).symm;rw [this];exact jQ (fun C=>false=("NoneType" == C||("NoneType" == "bool" && C == "int"))) (by decide)
  exact e9 PySem.W.kitx_none I.rZ eR (hl _ (by decide) e) (fun z=>nomatch z) fin
 | bl y =>
  cases ru;have e:k=("bool" == C||("bool" == "bool" && C == "int")):=by
   have:k=(C == "bool" || C == "int"):=(a8 hk).symm;rw [this];exact jQ (fun C=>(C == "bool" || C == "int")=("bool" == C||("bool" == "bool" && C == "int"))) (by decide)
  exact e9 PySem.W.kitx_bool I.rZ eR (hl _ (by decide) e) (fun z=>nomatch z) fin
 | int y =>
  obtain⟨t,rfl⟩:=ru;have e:k=("int" == C||("int" == "bool" && C == "int")):=by
   have:k=(C == "int"):=(a8 hk).symm;rw [this];exact jQ (fun C=>(C == "int")=("int" == C||("int" == "bool" && C == "int"))) (by decide)
  exact e9 PySem.W.kitx_int I.rZ eR (hl _ (by decide) e) (fun z=>nomatch z) fin
 | str y =>
  obtain⟨t,rfl⟩:=ru;have e:k=("str" == C||("str" == "bool" && C == "int")):=by
   have:k=(C == "str"):=(a8 hk).symm;rw [this];exact jQ (fun C=>(C == "str")=("str" == C||("str" == "bool" && C == "int"))) (by decide)
  exact e9 PySem.W.kitx_str I.rZ eR (hl _ (by decide) e) (fun z=>nomatch z) fin
 | tup hq rs =>
  cases ru;have e:k=("tuple" == C||("tuple" == "bool" && C == "int")):=by
   have:k=(C == "tuple"):=(a8 hk).symm;rw [this];exact jQ (fun C=>(C == "tuple")=("tuple" == C||("tuple" == "bool" && C == "int"))) (by decide)
  obtain⟨cH,rv,⟨o,h1,h2,_⟩,hz⟩:=I.tuple (.of hq);exact e9 PySem.W.kitx_tuple I.rZ ⟨o,h1,h2⟩ (hl _ (by decide) e) (fun z=>nomatch z) fin
 | dD hq rs =>
  obtain⟨cH,rv,pl,hz⟩:=I.list hq.sq;obtain⟨o,h1,h2,_⟩:=pl.isList;refine tl h1 h2 ?_ rfl;have:k=(C == "list"):=(a8 hk).symm;rw [this];exact jQ (fun C=>(C == "list")=("list" == C||("list" == "bool" && C == "int"))) (by decide)
 | oH h rs =>
  have e:k=("dict" == C||("dict" == "bool" && C == "int")):=by
   have:k=(C == "dict"):=(a8 hk).symm;rw [this];exact jQ (fun C=>(C == "dict")=("dict" == C||("dict" == "bool" && C == "int"))) (by decide)
  obtain⟨_,_,vs,_,ob,_,_,h1,h2,_⟩:=pG I.dn (.inr ⟨_,h⟩);exact td h1 h2.1 e rfl
 | oG h rs =>
  have e:k=("dict" == C||("dict" == "bool" && C == "int")):=by
   have:k=(C == "dict"):=(a8 hk).symm;rw [this];exact jQ (fun C=>(C == "dict")=("dict" == C||("dict" == "bool" && C == "int"))) (by decide)
  obtain⟨_,_,ys,_,ob,_,_,h1,h2,_⟩:=vO I.dn (.inr ⟨_,h⟩);exact td h1 h2.1 e rfl
 | exc h=>simp [FG] at hk
 | ref l =>
  unfold FG at hk;dsimp only at hk;cases hg:G l with
  | none=>rw [hg] at hk; cases hk
  | some g =>
   rw [hg] at hk;cases g with
   | lst ds =>
    obtain⟨vs,hv,rs⟩:=ab.lst hg;obtain⟨cH,rv,pl,hz⟩:=I.list (.of hv);obtain⟨o,h1,h2,_⟩:=pl.isList;refine tl h1 h2 ?_ rfl;have:k=(C == "list"):=(a8 hk).symm;rw [this];exact jQ (fun C=>(C == "list")=("list" == C||("list" == "bool" && C == "int"))) (by decide)
   | ins _ _=>cases hk
   | gT aS =>
    have e:k=("dict" == C||("dict" == "bool" && C == "int")):=by
     have:k=(C == "dict"):=(a8 hk).symm;rw [this];exact jQ (fun C=>(C == "dict")=("dict" == C||("dict" == "bool" && C == "int"))) (by decide)
    rcases ab l _ hg with ⟨kv,hv,rs⟩ | ⟨kv,hv,rs⟩
    ·obtain⟨_,_,vs,_,ob,_,_,h1,h2,_⟩:=tR I.dn hv;exact td h1 h2.1 e rfl
    ·obtain⟨_,_,ys,_,ob,_,_,h1,h2,_⟩:=DV I.dn hv;exact td h1 h2.1 e rfl
theorem lX (C:String) (hC:C∈["int","bool","list","tuple","dict","str"]) {y:Str} {py:Pos} (hg:Gl X "isinstance") (hm:X.mg "isinstance" = none) (J8:Gl X y) (JY:X.mg y=none) (MC:eO y=some (.type C)) (ha:fE X a ta) (hn:autoParam (y≠"__name__") Ad._auto_1) (zd:autoParam ((y == ("__debug__" : Str))=false) Ad._auto_1)
  (he:autoParam (bw [a,.Name y py] X.env=(false,eval a X.env) :: bw [.Name y py] X.env) Ar._auto_1) (r0:autoParam ((ib pos (bw [Expr.Name y py] X.env)).any (·.1)=false) Ar._auto_1) (Kd:autoParam (bw [.Name y py] X.env=[(false,eval (.Name y py) X.env)]) Ar._auto_1) :
  fE X (.Call (.Name "isinstance" p) [a,.Name y py] [] pos) (vV C ta):=by
 intro E pins s σ H τ G Q hE I h;refine gx (mQ I.inv hg hm pL ?_);refine hU ?_ he r0;rw [he];show wpAny _ _ (zM ((false,eval a X.env) :: ib pos (bw [.Name y py] X.env))) _ _ s;refine ie (ig ha hE I h fun v H1 d G1 u s1 I1 m1 r1 hX q1=>?_);rw [Kd];show wpAny _ _ (zM [(false,eval (.Name y py) X.env)]) _ _ s1;refine ie (mQ I1.inv J8 JY MC (sd ?_) hn zd)
 try dsimp only at q1
 split at q1
 ·rename_i k hk;exact fh (A4 C hC I1.inv I1.ab r1 hX hk q1) fun _ _ z=>z.trans m1
 ·exact q1.elim
end
end K2
end
section
namespace K2
open PySem PySem.Spec PyProof.Rows L2
section
variable {X:Cx} {a b c e o:Expr} {es:List Expr} {ta tb tc te to:fz} {t:tX} {pos p p2 apos i7:Pos} {x name:Str} {id T:String}
noncomputable def BS(X:Cx)(id:String)(r:D->List D->Gp->DK->Prop):Prop :=
 ∀ (pins:List (Addr×Obj)) (s:aw) (σ:L2.St) (H:Hp) (G:Gp) (x:V) (d:D) (xs:List V) (ds:List D) (v:Value) (us:List Value) (Q:DK),Inv X pins σ H s->kH X.K H G->RelV x v->ck X.K H x d->Vals xs us->aY X.K H xs ds->r d ds G Q ->
  wpAny (model X.prog X.w) X.A (call (.builtin id) (v :: us)) (p9 X pins σ H G Q) X.xe s
noncomputable def DC(X:Cx)(T:String)(ty:D->Gp->Prop):Prop:=∀ (pins:List (Addr×Obj)) (s:aw) (σ:L2.St) (H:Hp) (G:Gp) (x:V) (d:D) (v:Value),Inv X pins σ H s->kH X.K H G->RelV x v->ck X.K H x d->ty d G ->
  s.TypeIs v T/\∀ a,v=.ref a->∃ ob,s.heap.get? a=some ob/\ob.dict=none
theorem iM:DC X "list" B3:=by
 intro pins s σ H G x d v I ab r rd h;cases rd with
 | dD hq rs=>exact ue I r (.inl ⟨rfl,_,hq.sq⟩)
 | ref l =>
  unfold B3 at h;dsimp only at h;split at h
  ·rename_i ds hg;obtain⟨vs,hv,rs⟩:=ab.lst hg;exact ue I r (.inl ⟨rfl,vs,.of hv⟩)
  ·exact h.elim
 | _=>exact bg h
theorem dP:DC X "dict" sZ:=by
 intro pins s σ H G x d v I ab r rd h;cases rd with
 | oH q rs =>
  cases r;obtain⟨t1,t2,_⟩:=A5 I (.inl ⟨_,.inr ⟨_,q⟩⟩);exact⟨t1,t2⟩
 | oG q rs =>
  cases r;obtain⟨t1,t2,_⟩:=A5 I (.inr ⟨_,.inr ⟨_,q⟩⟩);exact⟨t1,t2⟩
 | ref l =>
  unfold sZ at h;dsimp only at h;split at h
  ·rename_i aS hg;rcases ab l _ hg with ⟨kv,hv,rs⟩ | ⟨kv,hv,rs⟩
   ·exact ue I r (.inr (.inr (.inl ⟨rfl,.inl ⟨kv,hv⟩⟩)))
   ·exact ue I r (.inr (.inr (.inl ⟨rfl,.inr ⟨kv,hv⟩⟩)))
  ·exact h.elim
 | _=>exact bg h
theorem C0 {ty:D->Gp->Prop} {r:D->List D->Gp->DK->Prop} (pa:PlainAttrs T) (slot:Slot T name id) (JM:typeOf (.builtin id)=pure (.type "method_descriptor")) (ht:DC X T ty) (hm:BS X id r) (ho:fE X o to)
  (Bi:autoParam (kW o name X.env (eval o X.env)=eval o X.env) Ar._auto_1) (Be:autoParam ((apos.endLine == i7.line)=true) Ar._auto_1):fE X (.Call (.Attribute o name apos) [] [] i7) (jr ty r to aL):=by
 intro E pins s σ H τ G Q hE I h;refine wpAny_Call_method0_late Bi Be (ig ho hE I h ?_);rintro x H1 d G1 v s1 I1 m1 r1 hX ⟨hy,q1⟩;obtain⟨h1,h2⟩:=ht pins s1 σ H1 G1 x d v I1.inv I1.ab r1 hX hy;exact⟨T,id,pa,slot,JM,h1,h2,zz rfl (PySem.evalArgs_none (fh (hm pins s1 σ H1 G1 x d [] [] v [] Q I1.inv I1.ab r1 hX .nil .nil q1) fun _ _ z=>z.trans m1))⟩
theorem eG {ty:D->Gp->Prop} {r:D->List D->Gp->DK->Prop} (pa:PlainAttrs T) (slot:Slot T name id) (JM:typeOf (.builtin id)=pure (.type "method_descriptor")) (ht:DC X T ty) (hm:BS X id r) (ho:fE X o to) (ha:xG X (e :: es) t)
  (Bi:autoParam (kW o name X.env (eval o X.env)=eval o X.env) Ar._auto_1)
  (Kb:autoParam (((ib i7 (bw (e :: es) X.env)).all (fun x=>!x.1)&&(backToKw i7 (t4 [] X.env)).all (fun x=>x.1.isSome)
   && decide ((e :: es).length+([]:List zT).length+(if ([]:List zT).isEmpty then 0 else 1) < 30))=true) Ar._auto_1)
  (Be:autoParam ((apos.endLine == i7.line)=true) Ar._auto_1) (hs:autoParam (bw (e :: es) X.env=(false,eval e X.env) :: bw es X.env) Ar._auto_1) (EV:autoParam ((ib i7 (bw es X.env)).any (·.1)=false) Ar._auto_1) :
  fE X (.Call (.Attribute o name apos) (e :: es) [] i7) (jr ty r to t):=by
 intro E pins s σ H τ G Q hE I h;refine wpAny_Call_method_late Bi Kb Be rfl (ig ho hE I h ?_);rintro x H1 d G1 v s1 I1 m1 r1 hX ⟨hy,q1⟩;obtain⟨h1,h2⟩:=ht pins s1 σ H1 G1 x d v I1.inv I1.ab r1 hX hy;refine⟨T,id,pa,slot,JM,h1,h2,?_⟩;have hA:=ha i7 E pins s1 σ H1 τ G1 _ hE I1 q1;rw [hs] at hA ⊢;refine zz (by show (false||(ib i7 (bw es X.env)).any (·.1))=false; rw [EV] <;> rfl) (Calls.evalArgs_plain ?_);exact fh hA (by rintro us s2 ⟨vs,H2,ds,G2,ji,m2,r2,wy,q2⟩; exact fh (hm pins s2 σ H2 G2 x d vs ds v us Q ji m2.ab r1 (hX.mono (m2.kp I1.ab)) r2 wy q2) fun _ _ z=>z.trans (m1.trans m2))
theorem gv:BS X "list.append" h8:=by
 intro pins s σ H G x d xs ds v us Q I ab rx rd Gi Gk q;unfold h8 at q;split at q
 ·rename_i l d';cases rd;obtain⟨w,rfl,qB⟩:=Gk.one;split at q
  ·rename_i zs hg;obtain⟨hz,q⟩:=q;obtain⟨vs,hv,rs⟩:=ab.lst hg;exact fh (tu pins s σ H _ _ v us (sQ X.K H G Q) I rx Gi ⟨l,vs,w,rfl,rfl,hv,by rw [rs.length,cM]; exact hz,_,_,.putL ab hg hv (rs.append (.cons qB .nil)),.gR,q⟩) fun _ _ z=>.of z
  ·exact q.elim
 ·exact q.elim
theorem CY:fE X (.Dict [] [] pos) Fh:=by
 intro E pins s σ H τ G Q hE I h;exact fh (AN pins s σ H (sQ X.K H G Q) I.inv fun p hp=>⟨_,_,.new I.ab hp (.dk bR .nil),.ref _,h p (I.ab.free hp)⟩) fun _ _ z=>.of z
end
end K2
end
section
namespace K2
open PySem PySem.Spec PyProof.Rows L2
noncomputable def ek(env:Env):List (Str×my)->List (Str×Addr)->List (Str×Addr)
 | [],acc=>acc
 | (n,k) :: r,acc=>if k=.free then ek env r ((n,(env.cells.lookup n).getD 0) :: acc) else ek env r acc
theorem mY(env:Env)(f:Str×my->List (Str×Addr)->Sem (ForInStep (List (Str×Addr))))(hf:∀ n k c,f (n,k) c=if (k == gS)=true then (cellOf env n >>= fun a=>pure (mh ((n,a) :: c))) else pure (mh c)) :
  ∀ (ns:List (Str×my)) (acc:List (Str×Addr)),(∀ x∈ns,x.2=.free->∃ c,env.cells.lookup x.1=some c)->forIn ns acc f=(pure (ek env ns acc):Sem (List (Str×Addr)))
 | [],acc,_=>rfl
 | (n,k) :: r,acc,h=>by
  rw [List.forIn_cons,hf];have hr:∀ x∈r,x.2=.free->∃ c,env.cells.lookup x.1=some c:=fun x hx=>h x (bG _ hx);by_cases hk:k=.free
  ·subst hk;obtain⟨c,hc⟩:=h (n,.free) e5 rfl;have ec:cellOf env n=pure c:=by unfold cellOf; rw [hc]
   rw [if_pos (by decide),ec,pure_bind,pure_bind];show forIn r ((n,c) :: acc) f=_;rw [mY env f hf r _ hr];show _=(pure (ek env ((n,.free) :: r) acc):Sem (List (Str×Addr)));rw [ek,if_pos rfl,hc]; rfl
  ·rw [if_neg (by simpa using hk),pure_bind];show forIn r acc f=_;rw [mY env f hf r _ hr];show _=(pure (ek env ((n,k) :: r) acc):Sem (List (Str×Addr)));rw [ek,if_neg hk]
theorem sO{env:Env}{scope:Scope}(h:∀ x∈scope.names,x.2=.free->∃ c,env.cells.lookup x.1=some c):closureFor scope env=pure (ek env scope.names []):=by
 unfold closureFor;dsimp only;rw [mY env _ (fun n k c=>?_) scope.names [] h]
 ·rfl
 ·by_cases hk:(k == gS)=true
  ·simp only [hk,if_true]
  ·simp only [hk,if_false,af]
theorem nu{env:Env}{x:Str}{c:Addr}:∀ {ns:List (Str×my)} {acc:List (Str×Addr)},(∀ y∈ns,y.2=.free->∃ c,env.cells.lookup y.1=some c)->(∀ y c,acc.lookup y=some c->env.cells.lookup y=some c)->(ek env ns acc).lookup x=some c->env.cells.lookup x=some c
 | [],_,_,ha,e=>ha _ _ e
 | (n,k) :: r,acc,h,ha,e=>by
  have hr:∀ y∈r,y.2=.free->∃ c,env.cells.lookup y.1=some c:=fun y hy=>h y (bG _ hy);unfold ek at e;by_cases hk:k=.free
  ·rw [if_pos hk] at e;refine nu hr (fun y c' q=>?_) e;rw [jj] at q;by_cases hy:(y == n)=true
   ·rw [hy] at q;have e1:y=n:=eq_of_beq hy;subst e1;obtain⟨c0,M5⟩:=h (y,k) e5 hk;rw [M5] at q ⊢;exact q
   ·have JG:(y == n)=false:=by simpa using hy
    rw [JG] at q;exact ha y c' q
  ·rw [if_neg hk] at e;exact nu hr ha e
theorem kb{env:Env}{x:Str}:∀ {ns:List (Str×my)} {acc:List (Str×Addr)},((x,gS)∈ns\/∃ c,acc.lookup x=some c)->∃ c,(ek env ns acc).lookup x=some c
 | [],_,h=>by rcases h with h | h; exact absurd h (by simp); exact h
 | (n,k) :: r,acc,h=>by
  unfold ek;have grow:∀ a,(∃ c,acc.lookup x=some c)->∃ c,((n,a) :: acc).lookup x=some c:=fun a GY=>by
   obtain⟨c,hc⟩:=GY;rw [jj];by_cases hy:(x == n)=true
   ·rw [hy]; exact⟨_,rfl⟩
   ·have JG:(x == n)=false:=by simpa using hy
    rw [JG]; exact⟨c,hc⟩
  by_cases hk:k=.free
  ·rw [if_pos hk];refine kb ?_;rcases h with h | h
   ·rcases List.mem_cons.mp h with e | h
    ·injection e with e1 e2
     subst e1;exact .inr ⟨(env.cells.lookup x).getD 0,by rw [jj]; simp⟩
    ·exact .inl h
   ·exact .inr (grow _ h)
  ·rw [if_neg hk];refine kb ?_;rcases h with h | h
   ·rcases List.mem_cons.mp h with e | h
    ·injection e with e1 e2
     exact absurd e2.symm hk
    ·exact .inl h
   ·exact .inr h
noncomputable abbrev dg(X:Cx)(N:List Str)(scope:Scope)(C:Addr)(s:aw)(H:Hp)(fp:List Addr):Cx :=
 { X with env:=compEnvC scope (ek X.env scope.names []) C X.env,N:=N,je:=s,BV:=H,outer:=X.stack,stack:=X.stack,ex:=fp,fn:=fun _=>false,pn:=[],xe:=fun _ _=>False }
theorem nD{scope:Scope}{env:Env}{x:Str}(h:(wF scope env).names.lookup x=some .cell\/(wF scope env).names.lookup x=some .free)(kP:∀ y∈scope.names,y.2≠.cell):(x,gS)∈scope.names:=by
 have go:∀ k,(wF scope env).names.lookup x=some k->k=.cell\/k=.free->(x,gS)∈scope.names:=by
  intro k hk MW;have hm:=fD hk;unfold wF at hm;dsimp only at hm;obtain⟨⟨n,j⟩,hj,e⟩:=List.mem_map.mp hm;dsimp only at e;by_cases hc:(j == gS&&env.scope.kind == .function&&env.kindOf n == some .cell)=true
  ·rw [if_pos hc] at e;rw [aQ,aQ] at hc;injection e with e1 e2
   have ej:j=.free:=eq_of_beq hc.1.1;rw [ej,e1] at hj;exact hj
  ·rw [if_neg hc] at e;injection e with e1 e2
   subst e1;rcases MW with r | r
   ·exact absurd (e2.trans r) (kP _ hj)
   ·rw [e2.trans r] at hj; exact hj
 rcases h with h | h
 ·exact go _ h (.inl rfl)
 ·exact go _ h (.inr rfl)
section
variable {X:Cx} {N:List Str} {scope:Scope} {fp:List Addr} {pins:List (Addr×Obj)} {σ:L2.St} {H:Hp} {s:aw} {C:Addr}
theorem Fi(I:Inv X pins σ H s)(kP:∀ y∈scope.names,y.2≠.cell)(tK:scope.kind=.function)(nU:∀ y∈scope.names,y.2=.free->X.env.kindOf y.1=some .cell)(hC:s.heap.objs.size<=C)(J9:∀ b∈fp,p8 X pins H b/\b < s.heap.objs.size):(dg X N scope C s H fp).Ok:=by
 have EZ:∀ y∈scope.names,y.2=.free->∃ c,X.env.cells.lookup y.1=some c:=fun y hy hf=>I.ok.has _ (.inl (nU y hy hf));have Eg:∀ x c,(ek X.env scope.names []).lookup x=some c->X.env.cells.lookup x=some c:=fun x c e=>nu EZ (fun y c q=>by simp at q) e;refine⟨I.ok.mod,tK,I.ok.glob,I.ok.blt,hC,fun x y c h1 h2=>I.ok.inj x y c (Eg x c h1) (Eg y c h2),fun x hx=>?_,fun x c h=>absurd h (by simp),I.ok.hd,I.ok.frames,.inl rfl,fun b hb=>?_,I.bs,da I.ok.B7 I.sz,fun b o e hb=>?_,fun b hb=>?_,I.stack,I.xX⟩
 ·exact kb (.inl (nD hx kP))
 ·obtain⟨⟨f0,f1,f2,f3,f4,f5⟩,wz⟩:=J9 b hb;exact⟨cx (bq wz hC),fun x c e=>f4 x c (Eg x c e)⟩
 ·obtain⟨⟨f0,f1,f2,f3,f4,f5⟩,wz⟩:=J9 b hb;rcases f3 with f3 | f3
  ·exact I.ok.AQ b o e f3
  ·exact absurd (bq (ba e) (da I.ok.B7 f3)) (jT _)
 ·obtain⟨⟨f0,f1,f2,f3,f4,f5⟩,wz⟩:=J9 b hb;intro z;rcases List.mem_cons.mp (I.wQ b z) with e | e
  ·exact f1 e
  ·exact f2 e
theorem Dv{nT:Heap}{m:Nat}{fr:List Nat}{tk:Nat}(I:Inv X pins σ H s)(ok:(dg X N scope s.heap.objs.size s H fp).Ok)(E1:∀ y∈scope.names,y.2≠.cell)(nU:∀ y∈scope.names,y.2=.free->X.env.kindOf y.1=some .cell)(hN:N.length=m+fr.length)
  (Hd:∀ j i x,fr[j]?=some i->N[m+j]?=some x->X.N[i]?=some x/\X.env.scope.names.lookup x=some .cell/\(wF scope X.env).names.lookup x=some .cell) (su:∃ mm,nT.Ns s.heap.objs.size mm) (hk:∀ b o,s.heap.get? b=some o->nT.get? b=some o) :
  Inv (dg X N scope s.heap.objs.size s H fp) [] (cL m none++fr.map fun i=>(σ[i]?).getD none) H { s with heap:=nT,toks:=tk }:=by
 have EZ:∀ y∈scope.names,y.2=.free->∃ c,X.env.cells.lookup y.1=some c:=fun y hy hf=>I.ok.has _ (.inl (nU y hy hf));have Eg:∀ x c,(ek X.env scope.names []).lookup x=some c->X.env.cells.lookup x=some c:=fun x c e=>nu EZ (fun y c q=>by simp at q) e;obtain⟨mm,su⟩:=su;refine⟨ok,rfl,I.bare,Un.kept hk,⟨mm,su,fun i x v h1 h2 h3=>?_⟩,fun x c e=>?_,I.dn.fresh (a6 _),fun x c e=>?_,fun p hp=>absurd hp (by simp),I.dn.kept hk,?_⟩
 ·by_cases hi:i < m
  ·rw [e6 (by simpa using hi),iu] at h2;split at h2 <;> cases h2
  ·obtain⟨j,rfl⟩:∃ j,i=m+j:=⟨i - m,by lia⟩;rw [eP (by simp),dr,mI,ed] at h2;cases hj:fr[j]? with
   | none=>rw [hj] at h2; cases h2
   | some k =>
    rw [hj] at h2;have Bk:(σ[k]?).getD none=some v:=by simpa using h2
    have J2:σ[k]?=some (some v):=by
     cases q:σ[k]? with
     | none=>rw [q] at Bk; cases Bk
     | some o=>rw [q] at Bk; simp at Bk; rw [Bk]
    obtain⟨e1,e2,e3⟩:=Hd j k x hj h1;obtain⟨m0,OO,MU⟩:=I.loc;obtain⟨u,r,l⟩:=MU k x v e1 J2 (.inr (.inl e2));refine⟨u,r,.inr ⟨.inl e3,?_⟩⟩;rcases l with ⟨l1,_⟩ | ⟨_,c,hc,kP⟩
    ·have:X.env.scope.names.lookup x=some .local:=l1;rw [e2] at this; cases this
    ·have hx:(x,gS)∈scope.names:=nD (.inl e3) E1;obtain⟨c',Hi⟩:=kb (env:=X.env) (x:=x) (ns:=scope.names) (acc:=[]) (.inl hx);have:=Eg x c' Hi;rw [hc] at this;have ec:c=c':=a8 this;subst ec;obtain⟨oc,FH,hd⟩:=kP;exact⟨c,Hi,oc,hk _ _ FH,hd⟩
 ·obtain⟨v,oc,FH,hd⟩:=I.cell x c (Eg x c e);exact⟨v,oc,hk _ _ FH,hd⟩
 ·exact I.kR x c (Eg x c e)
 ·rw [cb,dr,bQ];exact hN.symm
theorem uP{prog:bx}{w:World}{A:dO}{R:Result->aw->Prop}{s:aw}{elt target iter:Expr}{ifs:List Expr}{sc:Scope}{pos:Pos}{it acc:Value}{env:Env}(J:Nat->aw->Prop)
  (turn:∀ n s,J n s->wpAny (model prog w) A (pyNext it) (fun r dG=>match r with
   | none=>R (.ok .next) dG
   | some v=>wpAny (model prog w) A (qo target it v) (fun _ Ge=>wpAny (model prog w) A (ve target env v) (fun _ ug =>
     wpAny (model prog w) A (forIn ifs true fun c r=>if r=true then do let ok ← isTrue c env (eval c env); pure (mh ok) else pure (mh r)) (fun k z9 =>
      if k=true then wpAny (model prog w) A (eval elt env) (fun x yN=>wpAny (model prog w) A (call (.builtin "list.append") [acc,x]) (fun _ z8=>∃ m,m < n/\J m z8) (fun _ _=>False) yN) (fun _ _=>False) z9
      else ∃ m,m < n/\J m z9) (fun _ _=>False) ug) (fun _ _=>False) Ge) (fun _ _=>False) dG) (fun _ _=>False) s) (n:Nat) (h:J n s) :
  qp (model prog w) A (.compLoop (.ListComp elt [⟨target,iter,ifs,0⟩] sc pos) 0 it acc env) R s:=by
 have no:∀ {α:Type} {t:Sem α} {Q:α->aw->Prop} {E:Value->aw->Prop} {s:aw},wpAny (model prog w) A t Q (fun _ _=>False) s->wpAny (model prog w) A t Q E s:=fun h=>wpAny_mono h (fun _ _ q=>q) fun _ _ z=>z.elim;refine codeAny_loop rfl J (fun n s hJ=>?_) n h;show wpAny _ A ((compTurn (.ListComp elt [⟨target,iter,ifs,0⟩] sc pos) 0 it acc env).onRaise (fun x=>do noteFrame x env; theTreesLotGoes x)) _ _ s;refine wpAny_noted ?_;rw [compTurn_list];refine aJ (vb (aJ (fh (no (turn n s hJ)) fun r dG nT=>?_)));cases r with
 | none=>exact bz nT
 | some v =>
  refine aJ (fh (no nT) fun _ ug EU=>aJ (fh (no EU) fun _ z9 JE=>aJ (fh (no JE) fun k yN GS=>?_)));cases k with
  | false=>exact bz ⟨rfl,GS⟩
  | true=>exact aJ (aJ (fh (no GS) fun x z8 JD=>aJ (fh (no JD) fun _ L7 JC=>bz (bz ⟨rfl,JC⟩))))
noncomputable def CompEnd(X:Cx)(pins:List (Addr×Obj))(σ:L2.St)(H:Hp)(G:Gp)(Q:DK)(C Dd:Addr)(s':aw):Prop :=
 ∃ m H' G',Inv X pins σ H' s'/\s'.heap.Ns C m/\p8 X pins H' C/\Mv X.K H G H' G'/\Q (.ref Dd) G'
inductive Hz (Xc:Cx):List Expr->Option v8->Prop
 | none:Hz Xc [] none
 | some {c:Expr} {t:v8}:B8 Xc c t->Hz Xc [c] (some t)
theorem zo{τ:fM}{G G2:Gp}{H2:Hp}{s2:aw}{tg elt iter:Expr}{ifs:List Expr}{pos:Pos}{m:Nat}{fr:List Nat}{E:jh}{g:tW}{c:Option v8}{te:fz}{J:It}{tn:Nat->Heap->Prop}{it:Addr}{ds:List D}{ok:Gp->Prop}{Q:DK}{Rr:Value->Addr->Result->aw->Prop}{E0:Value->aw->Prop}
  (hc:X.calm=true) (kP:∀ y∈scope.names,y.2≠.cell) (tK:scope.kind=.function) (nU:∀ y∈scope.names,y.2=.free->X.env.kindOf y.1=some .cell) (hN:N.length=m+fr.length)
  (Hd:∀ j i x,fr[j]?=some i->N[m+j]?=some x->X.N[i]?=some x/\X.env.scope.names.lookup x=some .cell/\(wF scope X.env).names.lookup x=some .cell)
  (hg:∀ C s H fp,B9 (dg X N scope C s H fp) tg g) (hi:∀ C s H fp,Hz (dg X N scope C s H fp) ifs c) (he:∀ C s H fp,fE (dg X N scope C s H fp) elt te)
  (I:I2 X pins σ H2 τ G2 s2) (m2:Mv X.K H G H2 G2) (T:Turn X.prog X.w X.K tg J fp it tn) (Fx:tn 0 s2.heap) (f2:∀ b∈fp,p8 X pins H2 b) (wk:DZ X.K J H2 ds ok) (hz:ds.length<=SZ)
  (Kl:∀ ex G,¬ E ex G) (q:g6 g c te ok ds E (rC m fr τ) G2 [] fun xs G3=>lS G3 (.lst xs) Q)
  (fin:∀ C s',CompEnd X pins σ H G Q C s2.heap.objs.size s'->Rr (.ref s2.heap.objs.size) C (.ok .next) s') :
  wpAny (model X.prog X.w) X.A (newList []) (fun acc z9=>wpAny (model X.prog X.w) X.A (newFunctionEnv scope X.env.globals (ek X.env scope.names []) [] X.env.qual none .none (some X.env)) (fun Ht yN =>
   qp (model X.prog X.w) X.A (.compStart (.ListComp elt [⟨tg,iter,ifs,0⟩] scope pos) 0 (.ref it) acc { Ht with scope:=wF scope X.env }) (Rr acc Ht.locals) yN) E0 z9) E0 s2:=by
 have sz:a4=16777216:=cM;have oS:H2 s2.heap.objs.size=none:=I.inv.dn.fresh (a6 _);have E8:G2 s2.heap.objs.size=none:=I.ab.free oS;refine jv (wpAny_newFunctionEnv kP (by intro y hy; simp at hy) (fun nT Bd Bb=>?_) tK);dsimp only at Bd Bb ⊢;have I3:Inv X pins σ (upd H2 s2.heap.objs.size (.lst [])) { s2 with heap:=s2.heap.push { cls:=.type "list",data:=.seq ([]:List Value).toArray },toks:=s2.toks }:=I.inv.Jv (ys:=[]) .nil (c6 _);generalize Lr:({ s2 with heap:=s2.heap.push { cls:=.type "list",data:=.seq ([]:List Value).toArray },toks:=s2.toks }:aw)=s3 at I3;generalize Hn:upd H2 s2.heap.objs.size (.lst [])=H3 at I3;have LF:∀ b,b≠s2.heap.objs.size->H3 b=H2 b:=fun b hb=>by rw [<-Hn,bK hb]
 have vG:s3.heap=s2.heap.push { cls:=.type "list",data:=.seq ([]:List Value).toArray }:=by rw [<-Lr]
 have Gh:s3.heap.objs.size=s2.heap.objs.size+1:=by rw [vG,xU]
 have Bg:∀ b∈fp,b < s2.heap.objs.size:=fun b hb=>by
  obtain⟨o,e,_⟩:=T.obj _ _ Fx b hb;exact ba e
 have He:∀ b∈fp,p8 X pins H3 b/\b < s3.heap.objs.size:=fun b hb=>by
  have Ly:=Bg b hb;obtain⟨f0,f1⟩:=f2 b hb;exact⟨⟨by rw [LF b (cx Ly)]; exact f0,f1⟩,bq Ly (by rw [Gh]; exact Nat.le_succ _)⟩
 have HL:(dg X N scope s3.heap.objs.size s3 H3 fp).Ok:=Fi I3 kP tK nU (a6 _) He;have DR:∀ b o,s3.heap.get? b=some o->nT.get? b=some o:=fun b o e=>by
  have hb:b < s3.heap.objs.size:=ba e;refine Bb.extBut b o ?_ (aP _ ?_)
  ·rw [<-vG]; exact cx hb
  ·rw [<-vG]; exact e
 have JU:∃ mm,nT.Ns s3.heap.objs.size mm:=⟨_,by rw [vG]; exact Bd⟩;have I4:=Dv (tk:=s3.toks+([]:List (Str×Value)).length) I3 HL kP nU hN Hd JU DR;have JA:Kp H2 H3:=by rw [<-Hn]; exact .new oS
 have DY:kH X.K H3 G2:=by rw [<-Hn]; exact(Mv.EY I.ab oS).ab
 have Mt:Mv X.K H2 G2 H3 G2:=by rw [<-Hn]; exact .EY I.ab oS
 have HG:Cd X.K H3 (cL m none++fr.map fun i=>(σ[i]?).getD none) (rC m fr τ):=by
  refine⟨by unfold rC; rw [cb,cb,bQ,bQ,dr,dr],fun i d h2=>?_⟩;unfold rC at h2;by_cases hi:i < m
  ·rw [e6 (by simpa using hi),iu] at h2;split at h2 <;> cases h2
  ·obtain⟨j,rfl⟩:∃ j,i=m+j:=⟨i - m,by lia⟩;rw [eP (by simp),dr,mI,ed] at h2;rw [eP (by simp),dr,mI,ed];cases hj:fr[j]? with
   | none=>rw [hj] at h2; cases h2
   | some k =>
    rw [hj] at h2;have Bk:(τ[k]?).getD none=some d:=by simpa using h2
    have J2:τ[k]?=some (some d):=by
     cases qq:τ[k]? with
     | none=>rw [qq] at Bk; cases Bk
     | some o=>rw [qq] at Bk; simp at Bk; rw [Bk]
    obtain⟨v,e1,e2⟩:=I.st.at' k d J2;exact⟨v,by simp [e1],e2.mono JA⟩
 have Nc:H3 s2.heap.objs.size=some (.lst []):=by rw [<-Hn,bR]
 have Gf:tn 0 nT:=T.keep _ _ _ Fx fun b hb o e=>DR b o (by rw [vG]; exact aP _ e);have Aa:∀ {Hc:Hp},(∀ b∈fp,Hc b=none)->∀ b∈fp,p8 (dg X N scope s3.heap.objs.size s3 H3 fp) [] Hc b:=fun hn b hb =>
  ⟨hn b hb,(HL.Ia b hb).1,HL.Bs b hb,.inl hb,fun x c e=>(HL.Ia b hb).2 x c e,fun p hp=>absurd hp (by simp)⟩
 have Mq:∀ b∈fp,b≠s2.heap.objs.size:=fun b hb=>cx (Bg b hb);have loop:qp (model X.prog X.w) X.A (.compLoop (.ListComp elt [⟨tg,iter,ifs,0⟩] scope pos) 0 (.ref it) (.ref s2.heap.objs.size) (dg X N scope s3.heap.objs.size s3 H3 fp).env) (Rr (.ref s2.heap.objs.size) s3.heap.objs.size)
   { s3 with heap:=nT,toks:=s3.toks+([]:List (Str×Value)).length }:=by
  refine uP (fun n s'=>∃ i B2 Hc zW Gc nc n8,I2 (dg X N scope s3.heap.objs.size s3 H3 fp) [] B2 Hc zW Gc s'/\Gc s2.heap.objs.size=none/\Hc s2.heap.objs.size=some (.lst nc)/\aY X.K Hc nc n8/\n8.length<=i/\Mv X.K H2 G2 Hc Gc/\tn i s'.heap/\(∀ b∈fp,Hc b=none) /\
   n=ds.length - i/\i<=ds.length/\g6 g c te ok (ds.drop i) E zW Gc n8 fun xs G3=>lS G3 (.lst xs) Q) ?_ ds.length
   ⟨0,_,H3,_,G2,[],[],⟨I4,HG,DY⟩,E8,Nc,.nil,a6 _,Mt,Gf,fun b hb=>by rw [LF b (Mq b hb)]; exact(f2 b hb).1,rfl,c6 _,q⟩
  rintro n s4 ⟨i,B2,Hc,zW,Gc,nc,n8,Ic,gD,hD,rA,hA,mc,K7,LB,rfl,hle,wq⟩;have Lp:Kp H2 Hc:=mc.kp I.ab;by_cases wz:i < ds.length
  ·rw [xT wz] at wq;obtain⟨IT,wq⟩:=wq;obtain⟨go,yl⟩:=(wk i Hc Gc Lp Ic.ab IT).1 ds[i] (by simp [wz]);refine fh (T.item (dg X N scope s3.heap.objs.size s3 H3 fp) rfl rfl rfl hc i [] s4 B2 Hc (fun _ _=>False) Ic.inv (Aa LB) K7 go) ?_;rintro r s5 ⟨u,hr,h5⟩;subst hr;refine fh h5 ?_;rintro _ s6 ⟨x,H6,I6,r6,y6,Iy,Nh⟩;obtain⟨Mf,m6⟩:=yl x H6 y6;have OB:=I6.pinned (Aa Nh) (T.obj _ _ Iy);have J6:I2 (dg X N scope s3.heap.objs.size s3 H3 fp) ([]++lB fp s6.heap) B2 H6 zW Gc s6:=⟨OB,Ic.st.mono (m6.kp Ic.ab),m6.ab⟩;have back:∀ {Iq:L2.St} {H9:Hp} {HD:fM} {G9:Gp} {s9:aw} {aV:List V} {aD:List D},I2 (dg X N scope s3.heap.objs.size s3 H3 fp) ([]++lB fp s6.heap) Iq H9 HD G9 s9->Mv X.K H2 G2 H9 G9->G9 s2.heap.objs.size=none->H9 s2.heap.objs.size=some (.lst aV)->aY X.K H9 aV aD->aD.length<=i+1 ->
     (g6 g c te ok (ds.drop (i+1)) E HD G9 aD fun xs G3=>lS G3 (.lst xs) Q)->∃ mm,mm < ds.length - i/\∃ i B2 Hc zW Gc nc n8,I2 (dg X N scope s3.heap.objs.size s3 H3 fp) [] B2 Hc zW Gc s9/\Gc s2.heap.objs.size=none/\Hc s2.heap.objs.size=some (.lst nc)/\aY X.K Hc nc n8/\n8.length<=i /\
      Mv X.K H2 G2 Hc Gc/\tn i s9.heap/\(∀ b∈fp,Hc b=none)/\mm=ds.length - i/\i<=ds.length/\g6 g c te ok (ds.drop i) E zW Gc n8 fun xs G3=>lS G3 (.lst xs) Q:=fun {Iq H9 HD G9 s9 aV aD} I9 m9 g9 h9 r9 l9 n9=>by
    refine⟨ds.length - (i+1),by lia,i+1,Iq,H9,HD,G9,aV,aD,⟨I9.inv.nq,I9.st,I9.ab⟩,g9,h9,r9,l9,m9,T.keep _ _ _ Iy fun b hb o e=>(I9.inv.pin (b,o) (cj _ (cj _ (ko hb e)))).1,fun b hb=>?_,rfl,wz,n9⟩;obtain⟨o,e,d⟩:=T.obj _ _ Iy b hb;exact(I9.inv.pin (b,o) (cj _ (cj _ (ko hb e)))).2.1
   have Mu:=mc.trans m6;have Nb:=m6.keep _ _ hD gD;refine fh (hg _ _ _ _ E _ s6 B2 H6 zW Gc x ds[i] u _ (Lk.none Kl) J6 r6 Mf wq) ?_;rintro _ s7 ⟨zE,H7,zD,G7,I7,m7,q7⟩;have H0:=m7.keep _ _ Nb.1 gD;have Lj:=Mu.trans m7;have La:=rA.mono ((m6.trans m7).kp Ic.ab);have Hs:∀ (H8:Hp) (G8:Gp) (s8:aw),I2 (dg X N scope s3.heap.objs.size s3 H3 fp) ([]++lB fp s6.heap) zE H8 zD G8 s8->Mv X.K H7 G7 H8 G8->(te E zD G8 fun y G9=>g6 g c te ok (ds.drop (i+1)) E zD G9 (n8++[y]) fun xs G3=>lS G3 (.lst xs) Q) ->
     wpAny (model X.prog X.w) X.A (eval elt (dg X N scope s3.heap.objs.size s3 H3 fp).env) (fun y yN=>wpAny (model X.prog X.w) X.A (call (.builtin "list.append") [.ref s2.heap.objs.size,y]) (fun _ z8=>∃ mm,mm < ds.length - i/\∃ i B2 Hc zW Gc nc n8,I2 (dg X N scope s3.heap.objs.size s3 H3 fp) [] B2 Hc zW Gc z8/\Gc s2.heap.objs.size=none/\Hc s2.heap.objs.size=some (.lst nc)/\aY X.K Hc nc n8/\n8.length<=i /\
      Mv X.K H2 G2 Hc Gc/\tn i z8.heap/\(∀ b∈fp,Hc b=none)/\mm=ds.length - i/\i<=ds.length/\g6 g c te ok (ds.drop i) E zW Gc n8 fun xs G3=>lS G3 (.lst xs) Q) (fun _ _=>False) yN) (fun _ _=>False) s8:=fun H8 G8 s8 I8 m8 q8=>by
    refine ig (he _ _ _ _) (Lk.none Kl) I8 q8 fun v H9 d9 G9 u9 s9 I9 m9 r9 Md q9=>?_;have Js:=m8.trans m9;have HZ:=Js.keep _ _ H0.1 H0.2;have Mh:=La.mono (Js.kp I7.ab);have Li:=Lj.trans Js;refine fh (tu (X:=dg X N scope s3.heap.objs.size s3 H3 fp) _ s9 zE H9 (.ref s2.heap.objs.size) [v] _ [u9] (fun _ H'=>H'=upd H9 s2.heap.objs.size (.lst (nc++[v]))) I9.inv rfl (.cons r9 .nil)
     ⟨_,nc,v,rfl,rfl,HZ.1,by rw [rA.length,sz]; have:SZ=16777216:=rfl; lia,rfl⟩) ?_
    rintro _ OH ⟨v10,OX,OD,_,NI⟩;subst NI;have Jz:Kp H9 (upd H9 s2.heap.objs.size (.lst (nc++[v]))):=.putL HZ.1;have LO:kH X.K (upd H9 s2.heap.objs.size (.lst (nc++[v]))) G9:=fun a g' e=>by
     have ne:a≠s2.heap.objs.size:=by rintro rfl; rw [HZ.2] at e; cases e
     exact(I9.ab a g' e).mono Jz (bK ne)
    have mA:Mv X.K H2 G2 (upd H9 s2.heap.objs.size (.lst (nc++[v]))) G9:=⟨fun a o e n=>by
      have ne:a≠s2.heap.objs.size:=c7 e oS;obtain⟨e1,e2⟩:=Li.keep a o e n;exact⟨by rw [bK ne]; exact e1,e2⟩,fun a n=>by
      by_cases ha:a=s2.heap.objs.size
      ·rw [ha,bR]; simp
      ·rw [bK ha]; exact Li.kc a n,LO⟩
    exact back ⟨OD,I9.st.mono Jz,LO⟩ mA HZ.2 bR ((Mh.append (.cons Md .nil)).mono Jz) (by rw [cb,om]; lia) q9
   cases hi s3.heap.objs.size s3 H3 fp with
   | none =>
    refine wpAny_tests_nil ?_;rw [if_pos rfl];exact Hs H7 G7 s7 I7 (.refl I7.ab) q7
   | some Hg =>
    refine wpAny_tests_one (Eh Hg (Lk.none Kl) I7 q7 fun k H8 G8 s8 I8 m8 q8=>?_);cases k with
    | true =>
     rw [if_pos rfl] at q8 ⊢;exact Hs H8 G8 s8 I8 m8 q8
    | false =>
     rw [if_neg rX] at q8 ⊢;have LA:=m8.keep _ _ H0.1 H0.2;exact back I8 (Lj.trans m8) LA.2 LA.1 (La.mono (m8.kp I7.ab)) (by lia) q8
  ·have hn:ds.length<=i:=by lia
   rw [zS hn] at wq;obtain⟨IT,qn⟩:=wq;have stop:=(wk i Hc Gc Lp Ic.ab IT).2 hn;refine fh (T.done (dg X N scope s3.heap.objs.size s3 H3 fp) rfl rfl rfl hc i [] s4 B2 Hc (fun _ _=>False) Ic.inv (Aa LB) K7 stop) ?_;rintro r s5 ⟨hr,I5⟩;subst hr;refine fin s3.heap.objs.size s5 ?_;obtain⟨mm,JV,_⟩:=I5.loc;have Nf:Hc s3.heap.objs.size=none:=I5.free;have I6:Inv X pins σ Hc s5:=by
    obtain⟨h5,g5,d5,t5,o5⟩:=s5;have eo:o5=s3.os:=I5.os;subst eo;exact I3.call (h':=h5) (g':=g5) (d':=d5) (t':=t5) (ch:=fp) I5.base I5.dn I5.bare fun b hb=>by
     obtain⟨⟨f0,f1,OQ,f3,f4,f5⟩,hl⟩:=He b hb;exact⟨f3,f1,f4,f5⟩
   have Mr:Mv X.K H2 G2 Hc (cy Gc s2.heap.objs.size (.lst n8)):=⟨fun a o e n=>by
     have ne:a≠s2.heap.objs.size:=c7 e oS;obtain⟨e1,e2⟩:=mc.keep a o e n;exact⟨e1,by rw [gj ne]; exact e2⟩,mc.kc,fun a g' e=>by
     by_cases ha:a=s2.heap.objs.size
     ·subst ha;rw [aG] at e;cases e;exact⟨nc,hD,rA⟩
     ·rw [gj ha] at e;exact Ic.ab a g' e⟩
   exact⟨mm,Hc,_,I6,JV,I3.Dq (a6 _) Nf,m2.trans Mr,qn _ gD⟩
 have all:qp (model X.prog X.w) X.A (.compStart (.ListComp elt [⟨tg,iter,ifs,0⟩] scope pos) 0 (.ref it) (.ref s2.heap.objs.size) (dg X N scope s3.heap.objs.size s3 H3 fp).env) (Rr (.ref s2.heap.objs.size) s3.heap.objs.size)
   { s3 with heap:=nT,toks:=s3.toks+([]:List (Str×Value)).length }:=codeAny_compStart_list loop (T.self _ 0 _ _ _ Gf loop)
 subst Lr;exact all
end
end K2
end
section
namespace K2
open PySem PySem.Spec PyProof.Rows L2
section
variable {X:Cx} {N:List Str} {scope:Scope} {tg elt iter:Expr} {ifs:List Expr} {pos:Pos} {m:Nat} {fr:List Nat} {wi:D0} {g:tW} {c:Option v8} {te:fz}
structure u0(X:Cx)(N:List Str)(scope:Scope)(m:Nat)(fr:List Nat):Prop where
 cell:∀ y∈scope.names,y.2≠.cell
 kind:scope.kind=.function
 names:∀ y∈scope.names,y.2=.local->scope.names.lookup y.1=some .local
 free:∀ y∈scope.names,y.2=.free->X.env.kindOf y.1=some .cell
 len:N.length=m+fr.length
 at':∀ j i x,fr[j]?=some i->N[m+j]?=some x->X.N[i]?=some x/\X.env.scope.names.lookup x=some .cell/\(wF scope X.env).names.lookup x=some .cell
theorem u0.closed{X:Cx}{N:List Str}{scope:Scope}{m:Nat}{fr:List Nat}(k:u0 X N scope m fr){pins:List (Addr×Obj)}{σ:L2.St}{H:Hp}{s:aw}(I:Inv X pins σ H s):closureFor scope X.env=pure (ek X.env scope.names []) :=
 sO fun y hy hf=>I.ok.has _ (.inl (k.free y hy hf))
theorem vv{i:Nat}{y:Str}{py Ae:Pos}(hN:X.N.Nodup)(JF:X.N[i]?=some y)(hy:X.env.scope.names.lookup y=some .local)(hc:X.calm=true)(k:u0 X N scope m fr)(hi:FR X tg iter wi)(hg:∀ C s H fp,B9 (dg X N scope C s H fp) tg g)
  (J3:∀ C s H fp,Hz (dg X N scope C s H fp) ifs c) (he:∀ C s H fp,fE (dg X N scope C s H fp) elt te) (JN:autoParam (vc (.ListComp elt [⟨tg,iter,ifs,0⟩] scope pos) (some (.Name y py)) Ae.line X.env=pure true) Ar._auto_1)
  (hs:autoParam (∀ x,wG iter X.env x=pure x) Ai._auto_1):xF X (.Assign [.Name y py] (.ListComp elt [⟨tg,iter,ifs,0⟩] scope pos) Ae) (c8 (yw m fr wi g c te) (bL i)):=by
 intro E pins s σ H τ G D hE I h;rw [exec_Assign_Name_used _ _ _ _ JN];refine aJ (vb (aJ ?_));show wpAny _ X.A (do let _ ← comprehension (.ListComp elt [⟨tg,iter,ifs,0⟩] scope pos) scope X.env _ (newList []) false (eval iter X.env) (some (ve (.Name y py) X.env))) _ _ s;refine aJ (fh (wpAny_comprehension_free (use:=some (ve (.Name y py) X.env)) (Q:=fun _ s'=>Fs X pins H G D .next s') rfl hs (k.closed I.inv) k.kind k.names (fh (hi E pins s σ H τ G _ hE I h) fun xv dG nT=>fh nT fun ES ug EU=>?_)) fun _ s' hq=>bz (bz hq));obtain⟨it,fp,tn,J,H2,G2,ds,ok,e,ji,m2,T,Fx,f2,wk,hz,q⟩:=EU;subst e;refine zo (Rr:=fun acc C=>compPost (model X.prog X.w) X.A X.xe (some (ve (.Name y py) X.env)) (fun _ s'=>Fs X pins H G D .next s') acc C) hc k.cell k.kind k.free k.len k.at' hg J3 he (I.mv ji m2) m2 T Fx f2 wk hz (fun _ _ z=>z) q ?_;rintro C s' ⟨mm,H',G',I',su,Nj,mv,q'⟩;show wpAny (model X.prog X.w) X.A (ve (.Name y py) X.env (.ref ug.heap.objs.size)) _ X.xe s';obtain⟨f0,f1,_,f3,f4,f5⟩:=Nj;refine wpAny_assign_Name (tf (v:=.ref ug.heap.objs.size) I' hN JF (.inl hy) rfl (?_) (.inr hy));rintro s3 I3 ⟨a,MG,ha⟩;have Nd:C≠a:=by
  rcases ha with rfl | ha
  ·exact f1
  ·exact fun e=>f4 y a ha e.symm
 refine⟨mm,su.sameBut MG Nd,fun h' HV=>?_⟩;exact⟨_,H',_,G',⟨I3.turned (t':=s3.toks) (fun b o hb e=>HV.extBut b o hb e) f0 f1 f3 f4 f5,(I.st.mono (mv.kp I.ab)).set i (.ref _),mv.ab⟩,mv,q'⟩
theorem oR{i:Nat}{u:uU}{n:Nat}(h:∀ E ds τ G Q,u E ds τ G Q->ds.length=n):∀ E ds τ G Q,pD (bL i) u E ds τ G Q->ds.length=n+1 :=
 zf h (fun _ _ _ _ _ _ q k=>k _ _ q) fun _ _ _ _ q=>q
theorem aW (i:Nat) {x:Str} {pos:Pos} (hN:autoParam (X.N[i]?=some x) Ar._auto_1) (hv:autoParam (Ie X.env.scope x) Ao._auto_1) (hd:autoParam ((x == ("__debug__" : Str))=false) Ad._auto_1)
  (yu:autoParam ((x == ("__classdict__" : Str))=false) Ad._auto_1):fE X (.Name x pos) (ak i):=CU hN hv hd yu
theorem Eu{body:List Stmt}{t2:gC}(h:sR X body t2){E:jh}(hE:Lk X E):FQ X body (fun D σ H=>∃ (τ:fM) (G:Gp) (D2:ju),Cd X.K H σ τ/\kH X.K H G/\t2 E D2 τ G /\
  (∀ gy H' kX G',Mv X.K H G H' G'->D2.nx kX G'->D.nx gy H')/\(∀ v H' d G',Mv X.K H G H' G'->ck X.K H' v d->D2.rt d G'->D.rt v H')/\(∀ τ G,¬ D2.bk τ G)/\(∀ τ G,¬ D2.ct τ G)):=by
 rintro pins s σ H D I ⟨τ,G,D2,st,ab,q,k1,k2,k3,k4⟩;refine fh (h E pins s σ H τ G D2 hE ⟨I,st,ab⟩ q) fun f s1 z=>?_;cases f with
 | next=>obtain⟨gy,H',kX,G',J,mv,z⟩:=z; exact⟨gy,H',J.inv,k1 gy H' kX G' mv z⟩
 | brk=>obtain⟨gy,H',kX,G',J,mv,z⟩:=z; exact(k3 _ _ z).elim
 | cont=>obtain⟨gy,H',kX,G',J,mv,z⟩:=z; exact(k4 _ _ z).elim
 | ret u=>obtain⟨v,gy,H',d,G',J,mv,r,rd,z⟩:=z; exact⟨v,gy,H',J,r,k2 v H' d G' mv rd z⟩
theorem Ab{K:ah}{H:Hp}{Nn:List Str}{vs:List V}{ds:List D}(r:aY K H vs ds):Cd K H (L2.start Nn vs) (a0 Nn.length ds):=by
 unfold L2.start a0;refine⟨by simp [r.length],fun i d h=>?_⟩;by_cases hi:i < ds.length
 ·rw [e6 (by simpa using hi),ed] at h;cases hd:ds[i]? with
  | none=>rw [hd] at h; cases h
  | some d' =>
   rw [hd] at h;have e:d'=d:=by simpa using h
   subst e;obtain⟨v,h1,h2⟩:=r.get hd;refine⟨v,?_,h2⟩;rw [e6 (by simpa [r.length] using hi),ed,h1]; rfl
 ·rw [eP (by simpa using hi),iu] at h;split at h <;> cases h
theorem Dn{P:bx}{w:World}{K:ah}{mg:Str->Option Value}{base:Heap}{x qual:Str}{st:Stmt}{f:Addr}{fd:ay}{Nn ps:List Str}{k:Nat}{sp:jb}{rd:gC}(F:k6 K x qual st f fd)(S:bO Nn ps (aU st))(len:∀ ds G Q E,sp ds G Q E->ds.length=ps.length)
  (hr:∀ ds G Q,sp ds G Q (fun _ _=>False)->rd (fun _ _=>False) (ends Q) (a0 Nn.length ds) G)
  (hb:∀ (jt:Value) (A:dO) (outer:List Env) (s:aw) (H:Hp) (E:XK),gB k (A.deeper (vd qual (aU st) s.heap.objs.size f jt))->sR (vW fT P w K mg base Nn qual (aU st) f jt A outer s H E).FE (ff st) rd):dW P w K mg base fT (k+1) f fd ps (bX K sp):=by
 refine F.ok S ((by rintro vs H Q E ⟨ds,G,Q2,r,ab,q,_⟩; exact by rw [r.length]; exact len _ _ _ _ q)) ?_;rintro jt A outer s H vs Q E GV ⟨ds,G,Q2,r,ab,q,kk⟩;refine⟨_,Eu (hb jt A outer s H E GV) (E:=fun _ _=>False) (Lk.none fun _ _ z=>z),?_⟩;exact⟨a0 Nn.length ds,G,ends Q2,Ab r,ab,hr ds G Q2 q,fun gy H' kX G' mv z=>kk _ _ _ _ z mv .gR,fun v H' d G' mv Mc z=>kk _ _ _ _ z mv Mc,fun _ _ z=>z,fun _ _ z=>z⟩
noncomputable def IG(scope sc:Scope):List (Str×my):=scope.names.map fun (n,k)=>if (k == .free&&sc.kind == .function&&sc.names.lookup n == some .cell) then (n,.cell) else (n,k)
noncomputable def uQ(N:List Str)(scope:Scope)(m:Nat)(fr:List Nat)(sc:Scope)(XN:List Str):Bool :=
 scope.names.all (fun y=>decide (y.2≠.cell))&&decide (scope.kind=.function)&&scope.names.all (fun y=>!decide (y.2=.local)||decide (scope.names.lookup y.1=some .local)) &&
 scope.names.all (fun y=>!decide (y.2=.free)||decide (sc.names.lookup y.1=some .cell))&&decide (N.length=m+fr.length) &&
 (oA fr.length).all (fun j=>match fr[j]?,N[m+j]? with
  | some i,some x=>decide (XN[i]?=some x)&&decide (sc.names.lookup x=some .cell)&&decide ((IG scope sc).lookup x=some .cell)
  | _,_=>false)
theorem zp{sc:Scope}{XN:List Str}(JP:X.env.scope=sc)(Kk:X.N=XN)(hb:uQ N scope m fr sc XN=true):u0 X N scope m fr:=by
 subst JP Kk;unfold uQ at hb;simp only [aQ] at hb;obtain⟨⟨⟨⟨⟨h1,h2⟩,h3⟩,h4⟩,h5⟩,h6⟩:=hb;refine⟨fun y hy=>of_decide_eq_true (List.all_eq_true.mp h1 y hy),of_decide_eq_true h2,fun y hy hl=>?_,fun y hy hl=>?_,of_decide_eq_true h5,fun j i x e1 e2=>?_⟩
 ·have:=List.all_eq_true.mp h3 y hy;simp only [hl,decide_true,bF,zB] at this;exact of_decide_eq_true this
 ·have:=List.all_eq_true.mp h4 y hy;simp only [hl,decide_true,bF,zB] at this;exact of_decide_eq_true this
 ·have hj:j < fr.length:=(List.getElem?_eq_some_iff.mp e1).1;have:=List.all_eq_true.mp h6 j (List.mem_range.mpr hj);rw [e1,e2] at this;simp only [aQ] at this;exact⟨of_decide_eq_true this.1.1,of_decide_eq_true this.1.2,of_decide_eq_true this.2⟩
theorem AH(N:List Str){sc:Scope}{XN:List Str}{i:Nat}{y:Str}{py Ae:Pos}(hN:X.N.Nodup)(JF:X.N[i]?=some y)(hy:X.env.scope.names.lookup y=some .local)(hi:FR X tg iter wi)(hg:∀ C s H fp,B9 (dg X N scope C s H fp) tg g)
  (J3:∀ C s H fp,Hz (dg X N scope C s H fp) ifs c) (he:∀ C s H fp,fE (dg X N scope C s H fp) elt te) (JP:autoParam (X.env.scope=sc) Ar._auto_1) (Kk:autoParam (X.N=XN) Ar._auto_1) (hb:autoParam (uQ N scope m fr sc XN=true) Ak._auto_1) (hc:autoParam (X.calm=true) Ar._auto_1)
  (JN:autoParam (vc (.ListComp elt [⟨tg,iter,ifs,0⟩] scope pos) (some (.Name y py)) Ae.line X.env=pure true) Ar._auto_1) (hs:autoParam (∀ x,wG iter X.env x=pure x) Ai._auto_1) :
  xF X (.Assign [.Name y py] (.ListComp elt [⟨tg,iter,ifs,0⟩] scope pos) Ae) (c8 (yw m fr wi g c te) (bL i)) :=
 vv hN JF hy hc (zp JP Kk hb) hi hg J3 he JN hs
theorem yZ{K:ah}{H:Hp}{a:Addr}{ns:List Int}(hO:DF H)(hS:p3 K H a (ns.map V.int))(hl:ns.length<=63):bX K tj [.ref a] H (fun v _=>v=.bl true) fun _ _ _=>False:=by
 have hF:FP K H a (ns.map V.int):=by
  rcases hS with (h | ⟨o,h⟩) | h
  ·rcases hO a with z | ⟨o,xs,z⟩
   ·rw [z] at h; cases h
   ·rw [z] at h; cases h
  ·exact .inl ⟨o,h⟩
  ·exact .inr h
 refine⟨[.dD (ns.map D.int)],fun _=>none,fun d _=>d=.bl true,.cons (.dD hF (aY.yc ns)) .nil,fun a g e=>(by cases e),⟨ns,rfl,hl,fun _=>rfl,fun _=>rfl⟩,fun d G' v H' e mv r=>?_⟩;subst e;cases r;rfl
theorem AZ{l:t7}{q:bx}{loose:List Str}{XP:(Str->Option Value)->Heap->Prop}{YP:World->Heap->Prop}{d:DefRec}{K:mx->ah}{k:Nat}{x:Str}(hn:l.most=some 63)(Hf:d.params.defaults=[])(hr:gB k wH)
  (hY:∀ (w:World) (h:Heap),YP w h->(K w.params).In h)
  (F:∀ (w:World) (mg:Str->Option Value) (fa:Addr) (h:Heap),(K w.params).In h->h.Ns aX mg->mg d.name=some (.ref fa) ->
   ∃ fd:ay,(∀ (s:aw) (u:Value),zV s fd ⟨[u],[]⟩ [(x,u)])/\∀ base:Heap,(K w.params).In base->base.Ns aX mg->dW l.prog w (K w.params) mg base fT k fa fd [x] (bX (K w.params) tj)) :
  PySem.W.WalkO q loose XP YP l.row.toRowW d [] (fun f vs=>xQ f vs) :=
 L2.Cw (n:=63) (k:=k) (x:=x) (CX:=fun _=>fT) (sp:=fun w=>bX (K w.params) tj) hn (by decide) Hf hr hY F (fun _ _ _ _ hl hO hS=>yZ hO hS hl) fun _ _ _ _ _ z=>z
end
end K2
end
section
namespace K2
open PySem PySem.Spec PyProof.Rows L2
noncomputable def BI:HO->Bool
 | .lst _=>true
 | .dK _=>true
 | .dT _=>true
 | _=>false
noncomputable def j5(h:Heap)(S:Addr->Bool)(H:Hp):Hp:=fun a=>match H a with
 | some u=>if (BI u&&S a)=true then (match h.get? a with
  | some o=>some (.kQ o u)
  | none=>some u) else some u
 | none=>none
section
variable {h:Heap} {S:Addr->Bool} {H:Hp} {a:Addr}
theorem xt(n:∀ u,H a=some u->BI u=false):j5 h S H a=H a:=by
 unfold j5;cases e:H a with
 | none=>rfl
 | some u=>simp only [n u e,xV,af,if_false]
theorem qY(hs:S a=false):j5 h S H a=H a:=by
 unfold j5;cases e:H a with
 | none=>rfl
 | some u=>simp only [hs,Bool.and_false,af,if_false]
theorem qj{u:HO}{o:Obj}(hs:S a=true)(e:H a=some u)(hu:BI u=true)(ho:h.get? a=some o):j5 h S H a=some (.kQ o u):=by
 unfold j5;simp only [e,hs,hu,Bool.and_self,if_true,ho]
theorem j4(e:H a=none):j5 h S H a=none:=by unfold j5; rw [e]
theorem jq{u:HO}(e:H a=some u)(hu:BI u=false):j5 h S H a=some u:=by rw [xt (fun v z=>by rw [e] at z; cases z; exact hu)]; exact e
theorem nW:Kp H (j5 h S H):=⟨fun a xs e=>jq e rfl,fun a o u e=>jq e rfl⟩
end
section
variable {X:Cx} {pins:List (Addr×Obj)} {σ:L2.St} {H:Hp} {s:aw} {G:Gp}
theorem Inv.freeze(I : Inv X pins σ H s)(S : Addr -> Bool) : Inv X pins σ (j5 s.heap S H) s where
  ok := I.ok
  os := I.os
  bare := I.bare
  base := { keep := I.base.keep, slot := I.base.slot, there := I.base.there
            free := fun b o q n hx => j4 (I.base.free b o q n hx)
            sf := fun b xs q => jq (I.base.sf b xs q) rfl
            qX := fun b o u q => jq (I.base.qX b o u q) rfl
            si := fun b ps q => jq (I.base.si b ps q) rfl }
  loc := I.loc
  cell := I.cell
  free := j4 I.free
  kR := fun x c e => j4 (I.kR x c e)
  pin := fun p hp => let ⟨h1, h2, h3⟩ := I.pin p hp; ⟨h1, j4 h2, h3⟩
  dn := fun a o q => by
    have st : ∀ u, H a = some u -> ft X.prog X.w (j5 s.heap S H) s.heap a u := fun u e =>
      (I.dn a u e).kc (fun b v _ r => r) (fun b r => jq r rfl) (fun b xs r => jq r rfl)
    cases e : H a with
    | none => rw [j4 e] at q; cases q
    | some u =>
      by_cases hc : BI u = true
      · by_cases hs : S a = true
        · obtain⟨ob, ho⟩ := j1 (I.dn a _ e)
          rw [qj hs e hc ho] at q;cases q;exact⟨ho, st _ e⟩
        · rw [qY (by simpa using hs), e] at q
          cases q;exact st _ e
      · rw [jq e (by simpa using hc)] at q
        cases q;exact st _ e
  len := I.len
noncomputable def kJ(R:Nat->Bool)(G:Gp):Addr->Bool:=fun a=>R a&&(G a).isSome
theorem tN(I:Inv X pins σ H s)(ab:kH X.K H G)(R:Nat->Bool):Mv X.K H G (j5 s.heap (kJ R G) H) (vQ R G) where
 keep:=fun a o e n=>by
  refine⟨by rw [qY (by simp [kJ,n])]; exact e,?_⟩;unfold vQ; split
  ·rfl
  ·exact n
 kc:=fun a n=>by
  cases q:G a with
  | none=>exact absurd q n
  | some g =>
   have t:=(ab a g q).tracked;cases e:H a with
   | none=>exact absurd e t
   | some u =>
    unfold j5;rw [e];dsimp only;split
    ·split <;> simp
    ·simp
 ab:=fun a g e=>by
  unfold vQ at e;split at e
  ·cases e
  ·rename_i hr;exact(ab a g e).mono nW (qY (by simp [kJ,hr]))
theorem Bq(I:Inv X pins σ H s)(ab:kH X.K H G){R:Nat->Bool}:∀ {d t:D} {v:V},Fz G R d t->ck X.K H v d->ck X.K (j5 s.heap (kJ R G) H) v t:=by
 intro d t v h;revert v;refine Fz.rec (motive_1:=fun d t _=>∀ {v:V},ck X.K H v d->ck X.K (j5 s.heap (kJ R G) H) v t)
  (motive_2:=fun ds ts _=>∀ {vs:List V},aY X.K H vs ds->aY X.K (j5 s.heap (kJ R G) H) vs ts)
  (motive_3:=fun ds ts _=>(∀ {vs:List (Key×V)},j9 X.K H vs ds->j9 X.K (j5 s.heap (kJ R G) H) vs ts)/\∀ {vs:List (List Key×V)},k7 X.K H vs ds->k7 X.K (j5 s.heap (kJ R G) H) vs ts)
  ?_ ?_ ?_ ?_ ?_ ?_ ?_ ?_ ?_ h
 ·intro d v r; exact r.mono nW
 ·intro ds ss _ ih v r;cases r with
  | tup h rs=>exact .tup (nW.tup _ _ h) (ih rs)
 ·intro ds ss _ ih v r;cases r with
  | dD h rs=>exact .dD (nW.Gg h) (ih rs)
 ·intro a ds ss g hr _ ih v r;cases r;obtain⟨vs,hv,rs⟩:=ab a _ g;obtain⟨ob,ho⟩:=j1 (I.dn a _ hv);exact .dD (.inl ⟨_,qj (by simp [kJ,hr,g]) hv rfl ho⟩) (ih rs)
 ·intro a ds ss g hr _ ih v r;cases r;rcases ab a _ g with ⟨kv,hv,rs⟩ | ⟨kv,hv,rs⟩
  ·obtain⟨ob,ho⟩:=j1 (I.dn a _ hv);exact .oH (qj (by simp [kJ,hr,g]) hv rfl ho) (ih.1 rs)
  ·obtain⟨ob,ho⟩:=j1 (I.dn a _ hv);exact .oG (qj (by simp [kJ,hr,g]) hv rfl ho) (ih.2 rs)
 ·intro vs r; cases r; exact .nil
 ·intro d s ds ss _ _ i1 i2 vs r;cases r with
  | cons r rs=>exact .cons (i1 r) (i2 rs)
 ·exact⟨fun r=>by cases r; exact .nil,fun r=>by cases r; exact .nil⟩
 ·intro k d s ds ss _ _ i1 i2;exact⟨fun r=>by cases r with | cons r rs=>exact .cons (i1 r) (i2.1 rs),fun r=>by cases r with | cons r rs=>exact .cons (i1 r) (i2.2 rs)⟩
variable {e:Expr} {te:fz} {st:Stmt} {t:gC}
theorem bH(he:fE X e te):fE X e (dN te):=by
 intro E pins s σ H τ G Q hE I h;refine fh (he E pins s σ H τ G _ hE I h) ?_;rintro u s1 ⟨v,H1,d,G1,I1,m,r,rd,R,t,hf,q⟩;exact⟨v,_,t,_,Inv.freeze I1 _,m.trans (tN I1 m.ab R),r,Bq I1 m.ab hf rd,q⟩
theorem CQ{i:Nat}(h1:xF X st t):xF X st (Fg i t):=by
 intro E pins s σ H τ G D hE I h;refine fh (h1 E pins s σ H τ G _ hE I h) fun f s1 z=>?_;cases f with
 | next =>
  obtain⟨gy,H',kX,G',I',m,q⟩:=z;simp only at q;split at q
  ·rename_i d hd;obtain⟨R,t,hf,q⟩:=q;obtain⟨v,hv,rv⟩:=I'.st.at' i d hd;have a1:=(I'.st.mono (H':=j5 s1.heap (kJ R G') H') nW).set i (Bq I'.inv I'.ab hf rv);have es:gy.set i (some v)=gy:=by
    have hi:i < gy.length:=(List.getElem?_eq_some_iff.mp hv).1;have e2:=(List.getElem?_eq_some_iff.mp hv).2;rw [<-e2]; exact List.set_getElem_self hi
   rw [es] at a1;have m2:=tN I'.inv I'.ab R;exact⟨gy,_,_,_,⟨Inv.freeze I'.inv _,a1,m2.ab⟩,m.trans m2,q⟩
  ·exact q.elim
 | ret v=>exact z
 | brk=>exact z
 | cont=>exact z
end
end K2
end
section
namespace K2
open PySem PySem.Spec PyProof.Rows L2
theorem m4:eO "len" = some (.builtin "len"):=by decide +kernel
theorem n4:eO "tuple" = some (.type "tuple"):=by decide +kernel
theorem yz:eO "dict" = some (.type "dict"):=by decide +kernel
theorem Fn:eO "int" = some (.type "int"):=by decide +kernel
theorem Dz:eO "bool" = some (.type "bool"):=by decide +kernel
theorem Fm:eO "str" = some (.type "str"):=by decide +kernel
section
variable {X:Cx} {a b c e o:Expr} {es:List Expr} {ta tb tc te to:fz} {t:tX} {pos p p2 apos i7:Pos} {x name:Str} {id T:String} {k:Nat} {f:Addr} {fd:ay} {ps:List Str} {sp:jb}
theorem bC(F:dW X.prog X.w X.K X.mg X.base fT k f fd ps (bX X.K sp))(hr:gB k X.A)(hg:Gl X x)(hm:X.mg x=some (.ref f))(hk:dh X.K (.ref f)=true)(hb:Binds X.K fd ps [])
  (ha:xG X (e :: es) t) (zd:autoParam ((x == ("__debug__" : Str))=false) Ad._auto_1) (he:autoParam (bw (e :: es) X.env=(false,eval e X.env) :: bw es X.env) Ar._auto_1) (r0:autoParam ((ib pos (bw es X.env)).any (·.1)=false) Ar._auto_1) :
  fE X (.Call (.Name x p) (e :: es) [] pos) (cg sp t):=AO F hr hg hm hk hb ha zd he r0
end
end K2
end
section
namespace K2
open PySem PySem.Spec PyProof.Rows L2
section
variable {X:Cx} {o i a b:Expr} {to ti ta tb:fz} {pos p:Pos}
theorem uo(hu:X.A.units+64 < cLine)(ho:fE X o to)(hi:fE X i ti)
  (ha:autoParam (∀ v,ve (.Subscript o i pos) X.env v=(do
   let ov ← holding [v] (eval o X.env)
   let iv ← holding [v,ov] (eval i X.env)
   standAt pos
   holding [v,ov,iv] (setItem ov iv v)
   release [v,ov,iv] [])) Ai._auto_1):B9 X (.Subscript o i pos) (zg to ti):=by
 intro E pins s σ H τ G w d u Q hE I r rd h;rw [ha];refine aJ (ow (ig ho hE I h fun x H1 dx G1 ov s1 I1 m1 r1 hX q1=>?_));refine aJ (ow (ig hi hE I1 q1 fun y H2 dy G2 iv s2 ji m2 r2 wy q2=>?_));refine aJ (vb (aJ (ow ?_)));have HQ:=m1.trans m2;have B5:=rd.mono (HQ.kp I.ab);have Ac:=I.st.mono (HQ.kp I.ab);have Mb:=hX.mono (m2.kp I1.ab);unfold x3 at q2;split at q2
 ·rename_i l;cases Mb;cases r1;split at q2
  ·rename_i xs hg;obtain⟨vs,hv,rs⟩:=ji.ab.lst hg;split at q2
   ·rename_i k;cases wy;split at q2
    ·rename_i j hj;have m3:Mv X.K H2 G2 (upd H2 l (.lst (vs.set j w))) (cy G2 l (.lst (xs.set j d))):=.putL ji.ab hg hv (rs.set B5 j);refine fh (set_list pins s2 σ H2 (.ref l) (.int k) w _ _ _ (fun H3=>H3=upd H2 l (.lst (vs.set j w))) ji.inv rfl r2 r ⟨l,vs,k,j,rfl,rfl,hv,?_,rfl⟩) ?_
     ·rw [rs.length]; exact hj
     ·rintro _ s3 ⟨H3,I3,e3⟩;subst e3;exact wpAny_release ⟨σ,_,τ,_,⟨I3,Ac.mono (m3.kp ji.ab),m3.ab⟩,HQ.trans m3,q2⟩
    ·exact q2.elim
   ·exact q2.elim
  ·rename_i aS hg;obtain⟨hk,hz,q⟩:=q2;obtain⟨H3,H4,I3,dp,m3⟩:=By ji.inv ji.ab hg hk hz wy B5;exact zj (by lia) I3 dp r2 r fun s4 I4=>wpAny_release ⟨σ,H4,τ,_,⟨I4,Ac.mono (m3.kp ji.ab),m3.ab⟩,HQ.trans m3,q⟩
  ·exact q2.elim
 ·exact q2.elim
end
end K2
end
section
namespace L2
open PySem PySem.Spec PyProof.Rows
structure LP(z TI TO i1 i2 a b:Addr)(i:Nat)(h:Heap):Prop where
 hz:IsZip h z TI TO .none
 hI:IsPair h TI (.ref i1) (.ref i2)
 hO:∃ x y,IsPair h TO x y
 h1:h.IsListIter i1 a i
 h2:h.IsListIter i2 b i
end L2
end
section
namespace K2
open PySem PySem.W PyProof.Rows
structure OV(lt:Nat->Nat->Bool):Prop where
 asymm:∀ i j,lt i j=true->lt j i=false
 trans:∀ i j k,lt j i=false->lt k j=false->lt k i=false
end K2
end
section
namespace K2
open PySem PySem.Spec PyProof.Rows L2 PySem.W
mutual
theorem vq{h h':Heap}(hk:∀ b o vs n,o.data=.seq vs n->h.get? b=some o->h'.get? b=some o):∀ (d:D) {v:Value} {as:List Addr},nr d=true->Reads h v (pd d) as->Reads h' v (pd d) as
 | .gR,_,_,_,r=>by cases r; exact .none
 | .bl b,_,_,_,r=>by cases r; exact .bool b
 | .int i,_,_,_,r=>by cases r; exact .int i _
 | .str x,_,_,_,r=>by cases r; exact .str x _
 | .tup ds,_,_,n,r=>by
  cases r with
  | tuple h1 h2 h3 h4=>exact .tuple (hk _ _ _ _ h3 h1) h2 h3 (iN hk ds n h4)
 | .dD ds,_,_,n,r=>by
  cases r with
  | list h1 h2 h3 h4=>exact .list (hk _ _ _ _ h3 h1) h2 h3 (iN hk ds n h4)
 | .rY _,_,_,n,_=>by cases n
 | .ref _,_,_,n,_=>by cases n
 | .exc _,_,_,n,_=>by cases n
theorem iN{h h':Heap}(hk:∀ b o vs n,o.data=.seq vs n->h.get? b=some o->h'.get? b=some o):∀ (ds:List D) {vs:List Value} {as:List Addr},yW ds=true->oy h vs (va ds) as->oy h' vs (va ds) as
 | [],_,_,_,r=>by cases r; exact .nil
 | d :: ds,_,_,n,r=>by
  have n:(nr d&&yW ds)=true:=n;rw [aQ] at n;cases r with
  | cons r1 r2=>exact .cons (vq hk d n.1 r1) (iN hk ds n.2 r2)
end
mutual
theorem Ag(G:Gp):∀ (sh:ou) (d:D) (n:Nat),eM sh d=true->FL sh<=n->Sn G n d d
 | .int,.int i,n,_,_=>.int i
 | .tup l,.tup ds,n,h,hn=>by
  have hn:Bv l+1<=n:=hn;obtain⟨m,rfl⟩:∃ m,n=m+1:=⟨n - 1,by lia⟩;exact xY G l ds m h (by lia)
 | .lst s,.dD ds,n,h,hn=>by
  have hn:FL s+1<=n:=hn;obtain⟨m,rfl⟩:∃ m,n=m+1:=⟨n - 1,by lia⟩;exact xZ G s ds m h (by lia)
theorem xY(G:Gp):∀ (l:List ou) (ds:List D) (m:Nat),fU l ds=true->Bv l<=m->Sn G (m+1) (.tup ds) (.tup ds)
 | [],[],m,_,_=>.vj
 | s :: l,d :: ds,m,h,hm=>by
  have h:(eM s d&&fU l ds)=true:=h;have hm:max (FL s) (Bv l)<=m:=hm;rw [aQ] at h;exact .kI (Ag G s d m h.1 (by lia)) (xY G l ds m h.2 (by lia))
theorem xZ(G:Gp):∀ (s:ou) (ds:List D) (m:Nat),fC s ds=true->FL s<=m->Sn G (m+1) (.dD ds) (.dD ds)
 | s,[],m,_,_=>.wW
 | s,d :: ds,m,h,hm=>by
  have h:(eM s d&&fC s ds)=true:=h;rw [aQ] at h;exact .qF (Ag G s d m h.1 hm) (xZ G s ds m h.2 hm)
end
end K2
end
section
namespace K2
open PySem PySem.Spec PyProof.Rows L2
section
variable {X:Cx}
theorem C6:mr X (fW .Pow) Er:=by
 intro pins s σ H G x y dx dy v u Q I ab rx ry dX dY q;cases dX with
 | int i =>
  cases dY with
  | int j=>exact fh (EB pins s σ H _ _ v u (sQ X.K H G Q) I rx ry ⟨i,j,rfl,rfl,q.1,_,_,.refl ab,.int _,q.2⟩) fun _ _ z=>.of z
  | _=>exact bg q
 | _=>exact bg q
theorem oY{pins:List (Addr×Obj)}{σ:L2.St}{H:Hp}{s:aw}{G:Gp}{x:V}{d:D}{aS:List (D×D)}(I:Inv X pins σ H s)(ab:kH X.K H G)(rd:ck X.K H x d)(hd:n3 d G=some aS)(h1:tF aS=true) :
  ∃ a kv vs,x=.ref a/\j9 X.K H kv aS/\kv.length<=a4/\(a == fG)=false/\KV kv vs/\s.heap.DictOf (dm X.prog X.w) a vs:=by
 have empty:∀ (a:Addr) (kv:List (List Key×V)),ft X.prog X.w H s.heap a (.dT kv)->k7 X.K H kv aS ->
   ∃ a' kv vs,V.ref a=.ref a'/\j9 X.K H kv aS/\kv.length<=a4/\(a' == fG)=false/\KV kv vs/\s.heap.DictOf (dm X.prog X.w) a' vs:=by
  intro a kv ok rs;cases rs with
  | nil =>
   obtain⟨z,hm,xs,rel,o,es,ep,ho,hx,vH,hl,nd⟩:=ok;have hv:xs=[]:=by cases rel; rfl
   subst hv;have he:es=#[]:=by simpa using hl
   subst he;exact⟨a,[],[],rfl,.nil,c6 _,hm,.nil,o,#[],ep,ho,hx,vH,(fun _ h=>by simp at h),.nil,fN⟩
  | cons _ _=>simp [tF,dw] at h1
 cases rd with
 | oH hq rs =>
  cases (show some _=some aS from hd);obtain⟨z,hm,vs,rel,dd⟩:=pG I.dn (.inr ⟨_,hq⟩);exact⟨_,_,vs,rfl,rs,z,hm,rel,dd⟩
 | oG hq rs =>
  cases (show some _=some aS from hd);exact empty _ _ (I.dn _ _ hq).2 rs
 | ref a =>
  unfold n3 at hd;dsimp only at hd;split at hd
  ·rename_i OJ hg;cases hd;rcases ab a _ hg with ⟨kv,hv,rs⟩ | ⟨kv,hv,rs⟩
   ·obtain⟨z,hm,vs,rel,dd⟩:=tR I.dn hv;exact⟨a,kv,vs,rfl,rs,z,hm,rel,dd⟩
   ·exact empty a _ (I.dn _ _ hv) rs
  ·cases hd
 | _=>cases hd
theorem rE:rR X (.type "dict") v5:=by
 intro pins s σ H G xs ds us Q I ab rx rd q;unfold v5 at q;split at q
 ·rename_i x;obtain⟨aS,hd,h1,hl,q⟩:=q;obtain⟨v,rfl,r⟩:=rd.one;obtain⟨a,kv,vs,rfl,rs,z,hm,rel,dd⟩:=oY I ab r hd h1;obtain⟨u,rfl,ru⟩:=rx.one;cases ru;refine kt_call_dict hm dd (by rw [<-rel.length]; exact z) fun h' FN hs=>?_;have hp:H s.heap.objs.size=none:=I.dn.fresh (a6 _);refine⟨.ref _,upd H s.heap.objs.size (.dK kv),.ref _,_,I.laid (a:=s.heap.objs.size) (o:=.dK kv) (t':=s.toks) (fun b q hq=>?_) (a6 _) (xB z (beq_eq_false_iff_ne.mpr (pe (cx I.big))) rel FN),.new ab hp (.dk bR (rs.mono (.new hp))),rfl,.ref _,q _ (ab.free hp)⟩;exact(hs.2 b (cx (ba hq))).trans (aP _ hq)
 ·exact q.elim
theorem fB:BS X "dict.get" kY:=by
 intro pins s σ H G x d xs ds v us Q I ab rx rd Gi Gk q;unfold kY at q;split at q
 ·rename_i k d';obtain⟨aS,hd,h1,hk,q⟩:=q;obtain⟨w,w2,rfl,Gj,IC⟩:=Gk.two;obtain⟨u1,u2,rfl,IF,IE⟩:=vals2 Gi;obtain⟨a,kv,vs,rfl,rs,z,hm,rel,dd⟩:=oY I ab rd hd h1;cases rx;obtain⟨kk,rfl⟩:=qh hk;have ey:=qe Gj;subst ey;refine call_meetsIn bf dd.typeIs PySem.F.entry_dict_get (PySem.F.args_dict_get_3 _ _ _) (meets_dict_get_default (dm X.prog X.w) a (yj IF) hm u2) ⟨_,dd.mapOf,?_⟩;have ro:=(rel.val kk).getD IE;rcases rs.look kk with ⟨v',d2,e1,e2,r⟩ | ⟨e1,e2⟩
  ·rw [e1] at ro;rw [e2] at q;exact⟨v',H,d2,G,I.tok _,.refl ab,ro,r,q⟩
  ·rw [e1] at ro;rw [e2] at q;exact⟨w2,H,d',G,I.tok _,.refl ab,ro,IC,q⟩
 ·exact q.elim
end
end K2
end
section
namespace K2
open PySem PySem.Spec PyProof.Rows L2
section
variable {X:Cx}
theorem lO{K:ah}{H:Hp}:∀ {kv:List (Key×V)} {l:List (Int×Int)},j9 K H kv (cN l)->kv=l.map fun p=>((.inl p.1:Key),V.int p.2)
 | _,[],h=>by cases h; rfl
 | _,p :: l,h=>by
  have h:j9 K H _ ((D.int p.1,D.int p.2) :: cN l):=h;generalize e:(D.int p.1,D.int p.2) :: cN l=t at h;cases h with
  | nil=>cases e
  | cons r rs =>
   rename_i k v d r' t';injection e with e1 e2
   injection e1 with e3 e4
   subst e2 e4;cases r;rw [lO rs];cases k with
   | inl i=>cases e3; rfl
   | inr x=>cases e3
theorem nS:∀ {l:List (Int×Int)} {vs:List (Key×Value)},KV (l.map fun p=>((.inl p.1:Key),V.int p.2)) vs->∃ ts:List Tok,ts.length=l.length/\vs=(l.zip ts).map fun q=>((.inl q.1.1:Key),c5 q.1.2 q.2)
 | [],_,.nil=>⟨[],rfl,rfl⟩
 | p :: l,_,.cons h r=>by
  obtain⟨ts,h1,h2⟩:=nS r;rename_i q vs;obtain⟨k,v⟩:=q;obtain⟨e1,t,e2⟩:=h;cases e1;cases e2;exact⟨t :: ts,by simp [h1],by rw [h2]; rfl⟩
theorem ud{l:List (Int×Int)}{ts:List Tok}(h:ts.length=l.length)(k:Int):(iI l k=none/\jy ((l.zip ts).map fun q=>((.inl q.1.1:Key),c5 q.1.2 q.2)) (.inl k)=none)\/∃ v t,iI l k=some v/\jy ((l.zip ts).map fun q=>((.inl q.1.1:Key),c5 q.1.2 q.2)) (.inl k)=some (.int v t):=by
 induction l generalizing ts with
 | nil=>exact .inl ⟨rfl,rfl⟩
 | cons p l ih =>
  cases ts with
  | nil=>cases h
  | cons t ts =>
   have ih:=ih (ts:=ts) (by simpa using h);by_cases e:p.1=k
   ·refine .inr ⟨p.2,t,?_,?_⟩
    ·unfold iI; simp [e]
    ·unfold jy; simp [e]
   ·have e':¬ ((.inl p.1:Key)=.inl k):=fun z=>e (by injection z);have a1:iI (p :: l) k=iI l k:=by unfold iI; simp [e]
    have a2:jy (((p :: l).zip (t :: ts)).map fun q=>((.inl q.1.1:Key),c5 q.1.2 q.2)) (.inl k)=jy ((l.zip ts).map fun q=>((.inl q.1.1:Key),c5 q.1.2 q.2)) (.inl k):=by
     unfold jy; simp [e']
    rw [a1,a2]; exact ih
theorem oQ{A:dO}{s:aw}{m:List (Int×Int)}{us:List Tok}(hm:us.length=m.length):∀ {l:List (Int×Int)} {ts:List Tok},ts.length=l.length ->
  PySem.W.KeqHits A s ((m.zip us).map fun q=>((.inl q.1.1:Key),c5 q.1.2 q.2)) ((l.zip ts).map fun q=>((.inl q.1.1:Key),c5 q.1.2 q.2)) (l.all fun p=>iI m p.1 == some p.2)
 | [],_,_=>.nil
 | p :: l,[],h=>by cases h
 | p :: l,t :: ts,h=>by
  have ih:=oQ (A:=A) (s:=s) hm (l:=l) (ts:=ts) (by simpa using h);rcases ud hm p.1 with ⟨e1,e2⟩ | ⟨v,t',e1,e2⟩
  ·have:((p :: l).all fun p=>iI m p.1 == some p.2)=false:=by simp [e1]
   rw [this];exact .miss e2
  ·have eq:SeqAt.EqAt A s (c5 p.2 t) (c5 v t') (decide (p.2=v)):=by
    have:=PySem.W.keq_flat (A:=A) (s:=s) (v:=c5 p.2 t) (y:=c5 v t') (d:=.int p.2) (e:=.int v) (.int _ _) (.int _ _);have e2:SeqAt.EqAt A s (c5 p.2 t) (c5 v t') (p.2 == v):=by simpa [PyData.eqv] using this
    exact e2
   have:((p :: l).all fun p=>iI m p.1 == some p.2)=(decide (p.2=v)&&l.all fun p=>iI m p.1 == some p.2):=by
    rw [rW,e1];congr 1;by_cases z:p.2=v
    ·simp [z]
    ·have:¬ v=p.2:=fun y=>z y.symm;simp [z,this]
   rw [this];exact .hit e2 eq ih
theorem C9(hu:X.A.units+64 < cLine):mr X (gE .Eq) (Et false):=by
 intro pins s σ H G x y dx dy v u Q I ab rx ry dX dY q;obtain⟨l,m,e1,e2,q⟩:=q;obtain⟨a,kv,vs,rfl,rs,z,hm,rel,dd⟩:=oY I ab dX e1 (iK l);obtain⟨b,kw,ws,rfl,FA,z2,JZ,Av,B6⟩:=oY I ab dY e2 (iK m);cases rx;cases ry;rw [lO rs] at rel;rw [lO FA] at Av;obtain⟨ts,t1,rfl⟩:=nS rel;obtain⟨us,t2,rfl⟩:=nS Av;refine PySem.W.keq_eq hm JZ dd B6 (by lia) (fun _=>oQ t2 t1) ?_;refine⟨.bl _,H,.bl _,G,I,.refl ab,rfl,.bl _,?_⟩;have:((((l.zip ts).map fun q=>((.inl q.1.1:Key),c5 q.1.2 q.2)).length == ((m.zip us).map fun q=>((.inl q.1.1:Key),c5 q.1.2 q.2)).length)&&l.all fun p=>iI m p.1 == some p.2)=sF l m:=by
  unfold sF; simp [t1,t2]
 rw [this]; exact q
theorem C7(hu:X.A.units+64 < cLine):mr X (gE .NotEq) (Et true):=by
 intro pins s σ H G x y dx dy v u Q I ab rx ry dX dY q;obtain⟨l,m,e1,e2,q⟩:=q;obtain⟨a,kv,vs,rfl,rs,z,hm,rel,dd⟩:=oY I ab dX e1 (iK l);obtain⟨b,kw,ws,rfl,FA,z2,JZ,Av,B6⟩:=oY I ab dY e2 (iK m);cases rx;cases ry;rw [lO rs] at rel;rw [lO FA] at Av;obtain⟨ts,t1,rfl⟩:=nS rel;obtain⟨us,t2,rfl⟩:=nS Av;refine PySem.W.keq_ne hm JZ dd B6 (by lia) (fun _=>oQ t2 t1) ?_;refine⟨.bl _,H,.bl _,G,I,.refl ab,rfl,.bl _,?_⟩;have:((((l.zip ts).map fun q=>((.inl q.1.1:Key),c5 q.1.2 q.2)).length == ((m.zip us).map fun q=>((.inl q.1.1:Key),c5 q.1.2 q.2)).length)&&l.all fun p=>iI m p.1 == some p.2)=sF l m:=by
  unfold sF; simp [t1,t2]
 rw [this]; exact q
theorem yb(hu:X.A.units+64 < cLine):mr X (gE .Eq) (sm false):=by
 intro pins s σ H G x y dx dy v u Q I ab rx ry dX dY q;rcases q with q | q
 ·exact dv hu pins s σ H G x y dx dy v u Q I ab rx ry dX dY q
 ·exact C9 hu pins s σ H G x y dx dy v u Q I ab rx ry dX dY q
theorem uq(hu:X.A.units+64 < cLine):mr X (gE .NotEq) (sm true):=by
 intro pins s σ H G x y dx dy v u Q I ab rx ry dX dY q;rcases q with q | q
 ·exact qG hu pins s σ H G x y dx dy v u Q I ab rx ry dX dY q
 ·exact C7 hu pins s σ H G x y dx dy v u Q I ab rx ry dX dY q
variable {k v:Expr} {tk tv:fz} {pos:Pos}
end
end K2
end
section
namespace L2
open PySem PySem.Spec PyProof.Rows PySem.W
section
variable {prog:bx} {w:World} {A:dO} {E:Value->aw->Prop} {s:aw}
theorem nN(d:Addr):MeetsIn prog w (Builtin.«dict.clear» ⟨[.ref d],[]⟩) (fun _ R s=>∃ o es ep,(s.heap.get? d=some o/\o.ExactDict/\o.data=.dict es ep/\es.size<=a4) /\
  ∀ h' o',h'.get? d=some o'->o'.ExactDict->o'.data=.dict #[] (ep+1)->oo d s.heap h'->R (.ok (.ret .none)) { s with heap:=h' }) :=
 .of_wp fun A R s ⟨o,es,ep,⟨ho,ex,hd,hz⟩,h⟩=>by
  have ty:s.TypeIs (.ref d) "dict":=⟨o,ho,ex.1⟩;have hE:=h (s.heap.update d (Obj.mapDictKeys fun _=>#[])) _ (BZ _ ho (Obj.isFreed_of_dict (Obj.data_mapDictKeys hd _))) (ex.mapDictKeys _) (Obj.data_mapDictKeys hd _) (Heap.SameBut.update ..);unfold Builtin.«dict.clear» Builtin.Dict.noArgs;refine aJ (aJ (wpAny_notOrdered_dict ty (show wpAny _ _ (pure d) _ _ s from bz ?_)));refine aJ (wpAny_dictEntries ho hd (aJ ?_));unfold bearsInstanceDictMark;refine aJ (wpAny_load ho (bz (aJ (wpAny_updateDictKeys (hz:=hz) ho hd ?_))));split
  ·exact aJ (wpAny_letGo (bz ⟨.none,rfl,hE⟩))
  ·exact aJ (bz (bz ⟨.none,rfl,hE⟩))
end
end L2
namespace K2
open PySem PySem.Spec PyProof.Rows L2 PySem.W
section
variable {X:Cx}
theorem w8:BS X "dict.clear" qg:=by
 intro pins s σ H G x d xs ds v us Q I ab rx rd Gi Gk q;unfold qg at q;split at q
 ·rename_i l;cases rd;have e:=Gk.zero;subst e;cases Gi;cases rx;split at q
  ·rename_i aS hg;rcases ab l _ hg with ⟨kv,hv,rs⟩ | ⟨kv,hv,rs⟩
   ·obtain⟨z,hm,vs,rel,o,es,ep,ho,ex,hd,MV,hp,nd⟩:=tR I.dn hv;have hz:es.size<=a4:=by
     have e1:=hp.length;rw [gQ] at e1;rw [e1,<-rel.length]; exact z
    refine call_meetsIn lg ⟨o,ho,ex.1⟩ we (vg _) (nN l) ⟨o,es,ep,⟨ho,ex,hd,hz⟩,fun h' o' y9 Ib vH hs=>?_⟩;have kp:Kp H (upd H l (.dK [])):=.putD hv (.inl ⟨_,rfl⟩);have dd:h'.DictOf (dm X.prog X.w) l []:=⟨o',#[],ep+1,y9,Ib,vH,(fun _ z=>by simp at z),.nil,fN⟩;exact⟨.gR,_,.gR,_,ql (t':=s.toks) I (by rw [hv]; exact eR) hs ⟨_,y9⟩ (xB (c6 _) hm .nil dd),.put ab hg kp (.dk bR .nil),rfl,.gR,q⟩
   ·obtain⟨z,hm,ys,rel,o,es,ep,ho,ex,hd,hl,nd⟩:=I.dn l _ hv;have hz:es.size<=a4:=by
     have e1:=congrArg wt hl;rw [bQ,gQ] at e1;rw [e1,<-lV rel]; exact z
    refine call_meetsIn lg ⟨o,ho,ex.1⟩ we (vg _) (nN l) ⟨o,es,ep,⟨ho,ex,hd,hz⟩,fun h' o' y9 Ib vH hs=>?_⟩;have kp:Kp H (upd H l (.dT [])):=.putD hv (.inr ⟨_,rfl⟩);refine⟨.gR,_,.gR,_,ql (t':=s.toks) I (by rw [hv]; exact eR) hs ⟨_,y9⟩ ?_,.put ab hg kp (.dt bR .nil),rfl,.gR,q⟩;exact⟨c6 _,hm,[],.nil,o',#[],ep+1,y9,Ib,vH,rfl,fN⟩
  ·exact q.elim
 ·exact q.elim
end
end K2
end
section
namespace K2
open PySem PySem.Spec PyProof.Rows L2
section
variable {K:ah} {h:Heap} {C:Addr} {Hv:List Value} {newId:String}
inductive Fv (h:Heap) (C:Addr) (Hv:List Value) (newId:String):Prop
 | mk (bm N nm qn bs Ke sn sub ab col dd k0 k1 k2 k3 k5 mN) (o:h.get? C=some (excClassObj nm qn C N bs bm Ke sn sub ab col dd k0 k1 k2 k3 k5 newId)) (n:h.Ns N mN) (i:mN "__init__" = none) (t:OwnTail h Hv bm):Fv h C Hv newId
end
end K2
end
section
namespace K2
open PySem PySem.Spec PyProof.Rows L2
noncomputable def Mx:HO->Bool
 | .tup _=>true
 | .kQ _ (.lst _)=>true
 | .kQ _ (.dK _)=>true
 | .kQ _ (.dT _)=>true
 | .kQ _ (.ext _)=>true
 | _=>false
noncomputable def hr(H:Hp):Hp:=fun b=>(H b).bind fun o=>if Mx o=true then some o else none
end K2
end
section
namespace K2
open PySem PySem.Spec PyProof.Rows L2
noncomputable def subIn(K:ah)(C:Addr)(v:Value):Bool:=match K.lookup C with
 | some ⟨_,_,.cls cd,_⟩=>cd.mro.contains v
 | _=>false
section
variable {X:Cx} {x cn n:Str} {D f:Addr} {fd:ay} {ps:List Str} {k i:Nat} {sp:jb} {Kv:List Value} {newD:String} {cat:List Str} {e:Expr} {es:List Expr} {p np pos ep MK tp:Pos} {OG:Stmt} {K5:List Stmt} {t:tX} {th:gC}
structure LW(X:Cx):Prop where
 st:X.stack=X.env :: X.outer
 fr:X.env.frame=some X.env.locals
 ex:X.ex=[]
structure Clause(X:Cx)(i:Nat)(n cn:Str)(D:Addr)(cat:List Str):Prop where
 nd:X.N.Nodup
 wB:X.N[i]?=some n
 loc:X.env.scope.names.lookup n=some .local
 gl:Gl X cn
 mg:X.mg cn=some (.ref D)
 cls:∃ Kv newD,PySem.W.excIn X.K D Kv newD=true/\Kv.contains (.type "BaseException")=true
 cat:∀ c,cat.contains c=true->∃ C Hv newId,cG X.K aX c=some (some (.ref C))/\PySem.W.excIn X.K C Hv newId=true/\subIn X.K C (.ref D)=true
end
end K2
end
section
namespace K2
open PySem PySem.Spec PyProof.Rows L2 PySem.W PySem.Calls PySem.Builtin PySem.Builtin.Getset_descriptor
section
variable {prog:bx} {w:World} {A:dO} {E:Value->aw->Prop} {s:aw} {K:ah} {a C:Addr} {ox:Obj}
structure LU(K:ah)(C:Addr):Prop where
 ga:findIn K (.ref C) "__getattribute__" = some (some (.builtin "BaseException.__getattribute__"))
 gn:findIn K (.ref C) "__getattr__" = some none
 wB:findIn K (.ref C) "__class__" = some (some (.builtin "object.__class__"))
 sp:specialIn K (.builtin "object.__class__") "__get__" = some (some (.builtin "getset_descriptor.__get__"))
 tk:takesIn K (.builtin "object.__class__")=some true
 mo:mroIn K C (.type "object")=some true
 mb:mroIn K C (.type "BaseException")=some true
 is:(clsIn K C).isSome=true
end
end K2
end
section
namespace K2
open PySem PySem.Spec PyProof.Rows L2
theorem lZ{P:Str->Prop}:∀ c,([]:List Str).contains c=true->P c:=fun c h=>by simp at h
theorem bM{l:List Str}{P:Str->Prop}{x:Str}(h:P x)(t:∀ c,l.contains c=true->P c):∀ c,(x :: l).contains c=true->P c:=fun c hc=>by
 rw [List.contains_cons,j8] at hc;rcases hc with hc | hc
 ·rw [beq_iff_eq.mp hc]; exact h
 ·exact t c hc
end K2
end
section
namespace K2
open PySem PySem.Spec PyProof.Rows L2
section
variable {X:Cx} {e:Expr} {te:fz} {pos:Pos}
theorem tm{i:Nat}{x:Str}{pos':Pos}(hN:X.N.Nodup)(hi:X.N[i]?=some x)(he:fE X e te)(hx:autoParam (Loc X.env.scope x) Ao._auto_1)(hs:autoParam (vc e (some (.Name x pos')) pos.line X.env=pure false) Ar._auto_1)(hf:autoParam (X.fn x=true\/X.env.scope.names.lookup x=some .local) Ao._auto_1) :
  xF X (.Assign [.Name x pos'] e pos) (c8 te (bL i)):=CP hN hi hx he hs hf
theorem CS{i:Nat}{x:Str}(hN:X.N.Nodup)(hi:X.N[i]?=some x)(hx:autoParam (Loc X.env.scope x) Ao._auto_1)(hf:autoParam (X.fn x=true\/X.env.scope.names.lookup x=some .local) Ao._auto_1):B9 X (.Name x pos) (bL i):=AM hN hi hx hf
theorem ot{P:bx}{w:World}{K:ah}{mg:Str->Option Value}{base:Heap}{x qual:Str}{st:Stmt}{f:Addr}{fd:ay}{Nn ps:List Str}{k:Nat}{sp:jb}{rd:gC}(F:k6 K x qual st f fd)(S:bO Nn ps (aU st))
  (hr:∀ ds G Q,sp ds G Q (fun _ _=>False)->rd (fun _ _=>False) (ends Q) (a0 Nn.length ds) G)
  (hb:∀ (jt:Value) (A:dO) (outer:List Env) (s:aw) (H:Hp) (E:XK),gB k (A.deeper (vd qual (aU st) s.heap.objs.size f jt))->sR (vW fT P w K mg base Nn qual (aU st) f jt A outer s H E).FE (ff st) rd)
  (len:autoParam (∀ ds G Q E,sp ds G Q E->ds.length=ps.length) Al._auto_1):dW P w K mg base fT (k+1) f fd ps (bX K sp):=Dn F S len hr hb
theorem oq{N ps:List Str}{sc:Scope}(h1:autoParam (sc.kind=.function) Ar._auto_1)(h2:autoParam (sc.isCoroutine=false) Ar._auto_1)(h3:autoParam (sc.isGenerator=false) Ar._auto_1)(h4:autoParam N.Nodup Ak._auto_1)(h5:autoParam (N.take ps.length=ps) Ar._auto_1)
  (h6:autoParam (∀ x∈ps,sc.names.lookup x=some .local\/sc.names.lookup x=some .cell) Ak._auto_1) (h7:autoParam (∀ y∈sc.names,y.2≠.free) Ak._auto_1):bO N ps sc:=⟨h1,h2,h3,h4,h5,h6,h7⟩
end
end K2
end
section
namespace K2
open PySem PySem.Spec PyProof.Rows L2
theorem sr{α:Type}{us:List α}(h:us.length=1):∃ a,us=[a]:=List.length_eq_one_iff.mp h
theorem Dh{α:Type}{us:List α}{n:Nat}(h:us.length=n+1):∃ a t,us=a :: t/\t.length=n:=by
 cases us with
 | nil=>cases h
 | cons a t=>exact⟨a,t,rfl,Nat.succ.inj h⟩
theorem mP{α:Type}{us:List α}(h:us.length=2):∃ a b,us=[a,b]:=by
 obtain⟨a,t,rfl,h2⟩:=Dh h; obtain⟨b,rfl⟩:=sr h2; exact⟨a,b,rfl⟩
theorem GL{α:Type}{us:List α}(h:us.length=3):∃ a b c,us=[a,b,c]:=by
 obtain⟨a,t,rfl,h2⟩:=Dh h; obtain⟨b,c,rfl⟩:=mP h2; exact⟨a,b,c,rfl⟩
theorem Jy{α:Type}{us:List α}(h:us.length=4):∃ a b c d,us=[a,b,c,d]:=by
 obtain⟨a,t,rfl,h2⟩:=Dh h; obtain⟨b,c,d,rfl⟩:=GL h2; exact⟨a,b,c,d,rfl⟩
theorem GK{α:Type}{us:List α}(h:us.length=5):∃ a b c d e,us=[a,b,c,d,e]:=by
 obtain⟨a,t,rfl,h2⟩:=Dh h; obtain⟨b,c,d,e,rfl⟩:=Jy h2; exact⟨a,b,c,d,e,rfl⟩
section
variable {X:Cx} {a b tg:Expr} {ta tb:fz} {p pos:Pos}
theorem w0 (hg:Gl X "range") (hm:X.mg "range" = none) (ha:fE X a ta) (hb:fE X b tb) (hs:autoParam (bw [a,b] X.env=(false,eval a X.env) :: bw [b] X.env) Ar._auto_1) (HU:autoParam (bw [b] X.env=[(false,eval b X.env)]) Ar._auto_1) (r0:autoParam ((ib pos (bw [b] X.env)).any (·.1)=false) Ar._auto_1):FR X tg (.Call (.Name "range" p) [a,b] [] pos) (Ba ta tb):=by
 intro E pins s σ H τ G R hE I h;have hA:xG X [a,b] (ai ta (ai tb aL)):=ae ha (ae hb az HU) hs;refine Call_ (mQ I.inv hg hm boot_range (iJ (uf hA pos hE I (R:=fun ds G1=>match ds with | [.int i,.int j]=>(-(2 ^ 62)<=i/\i < 2 ^ 62/\-(2 ^ 62)<=j/\j < 2 ^ 62)/\R (fJ i (j - i).toNat) (fun _=>True) G1 | _=>False) ?_ fun vs H1 ds G1 us s1 I1 m1 r1 hX q1=>?_) hs r0))
 ·show ta E τ G fun x G1=>tb E τ G1 fun y G2=>_;have e:(fun (x:D) (G1:Gp)=>tb E τ G1 fun y G2=>match [x,y] with | [.int i,.int j]=>(-(2 ^ 62)<=i/\i < 2 ^ 62/\-(2 ^ 62)<=j/\j < 2 ^ 62)/\R (fJ i (j - i).toNat) (fun _=>True) G2 | _=>False)=fun x G1=>tb E τ G1 fun y G2=>match x,y with | .int i,.int j=>(-(2 ^ 62)<=i/\i < 2 ^ 62/\-(2 ^ 62)<=j/\j < 2 ^ 62)/\R (fJ i (j - i).toNat) (fun _=>True) G2 | _,_=>False:=by
   funext x G1;congr 1;funext y G2;cases x <;> cases y <;> rfl
  exact e ▸ h
 ·split at q1
  ·rename_i i j;obtain⟨w1,w2,rfl,Gj,IC⟩:=hX.two;cases Gj; cases IC;obtain⟨u1,u2,rfl,IF,IE⟩:=r1.two;obtain⟨t1,rfl⟩:=IF;obtain⟨t2,rfl⟩:=IE;obtain⟨⟨q1,q2,q3,q4⟩,q⟩:=q1;exact call_range_2 (Au I1.inv m1 q1 q2 q3 q4 q)
  ·exact q1.elim
end
end K2
end
section
namespace K2
open PySem PySem.Spec PyProof.Rows L2
section
variable {X:Cx}
theorem vZ:rR X (.type "tuple") BK:=by
 intro pins s σ H G xs ds us Q I ab rx rd q;unfold BK at q;split at q
 ·rename_i x;obtain⟨v,rfl,r⟩:=rd.one;have Ga:∀ (l:Addr) (ys:List V) (zs:List D),v=.ref l->p3 X.K H l ys->aY X.K H ys zs->Q (.tup zs) G->wpAny (model X.prog X.w) X.A (call (.type "tuple") us) (p9 X pins σ H G Q) X.xe s:=fun l ys zs e h rs hq=>by
   subst e;exact fh (sP pins s σ H _ us (sQ X.K H G Q) I rx ⟨l,ys,rfl,.inl ⟨h,fun p hp=>⟨.tup zs,G,.EY ab hp,.tup bR (rs.mono (.new hp)),hq⟩⟩⟩) fun _ _ z=>.of z
  cases r with
  | dD hq rs=>exact Ga _ _ _ rfl hq.sq rs q
  | ref l =>
   unfold lF at q;dsimp only at q;cases hg:G l with
   | none=>rw [hg] at q; exact q.elim
   | some g =>
    rw [hg] at q;cases g with
    | lst ds =>
     obtain⟨vs,hv,rs⟩:=ab.lst hg;exact Ga _ _ _ rfl (.of hv) rs q
    | ins _ _=>exact q.elim
    | gT aS=>exact q.elim
  | _=>exact bg q
 ·exact q.elim
end
end K2
end
section
namespace K2
open PySem PySem.Spec PyProof.Rows L2
section
variable {prog:bx} {w:World} {A:dO} {E:Value->aw->Prop}
theorem n5{s:aw}{env:Env}{elts:List Expr}{x1}{pos:Pos}{t:Addr}{items:Array Value}{Q:Unit->aw->Prop}(hh:A.handled=none)(ht:s.heap.IsList t items)
  (hn:(jw elts env).length=items.size) (GU:(jw elts env).findIdx? (·.1)=none)
  (h:∀ h',Heap.ExtBut s.heap.objs.size s.heap h'->wpAny (model prog w) A (assignInOrder ((jw elts env).map (·.2)) items.toList) Q E { s with heap:=h' }) :
  wpAny (model prog w) A (ve (.Tuple elts x1 pos) env (.ref t)) Q E s:=by
 rw [assign_Tuple];refine aJ (vb ?_);unfold unpack;rw [hn,GU];exact aJ (ow (PySem.W.kun_itemsOf hh ht h))
end
section
variable {X:Cx} {es:List Expr} {pos:Pos}
theorem CT{k:Nat}{t:uU}{n:Nat}(hc:X.calm=true)(h:DE X es t)(MX:∀ E ds τ G Q,t E ds τ G Q->ds.length=n)
  (hn:autoParam ((jw es X.env).length=n) Ar._auto_1) (JO:autoParam ((jw es X.env).findIdx? (·.1)=none) Ar._auto_1):B9 X (.Tuple es k pos) (Dm t):=by
 intro E pins s σ H τ G w d u Q hE I r rd hw;unfold Dm at hw;have Ga:∀ (l:Addr) (ys:List V) (zs:List D),w=.ref l->p3 X.K H l ys->aY X.K H ys zs->t E zs τ G Q->wpAny (model X.prog X.w) X.A (ve (.Tuple es k pos) X.env u) (fun _ s'=>∃ gy H' kX G',I2 X pins gy H' kX G' s'/\Mv X.K H G H' G'/\Q kX G') X.xe s:=fun l ys zs e hq rs hw=>by
  subst e;cases r;obtain⟨cH,rv,pl,hz⟩:=I.inv.list hq;refine n5 (I.inv.ok.hd hc) pl.isList (by rw [hn,aZ,<-rv.length,rs.length]; exact(MX _ _ _ _ _ hw).symm) JO fun h' hx=>?_;have I1:Inv X pins σ H { s with heap:=h' }:=I.inv.kept (t':=s.toks) fun b o e=>hx b o (cx (ba e)) e;exact h E pins _ σ H τ G _ _ _ Q hE ⟨I1,I.st,I.ab⟩ (by simpa using rv) rs hw
 cases rd with
 | dD hq rs=>exact Ga _ _ _ rfl hq.sq rs hw
 | ref l =>
  unfold lF at hw;dsimp only at hw;cases hg:G l with
  | none=>rw [hg] at hw; exact hw.elim
  | some g =>
   rw [hg] at hw;cases g with
   | lst ds =>
    obtain⟨vs,hv,rs⟩:=I.ab.lst hg;exact Ga _ _ _ rfl (.of hv) rs hw
   | ins _ _=>exact hw.elim
   | gT aS=>exact hw.elim
 | _=>exact bg hw
end
end K2
end
section
namespace K2
open PySem PySem.Spec PyProof.Rows L2
noncomputable def cS(K:ah)(f c:Str):Prop:=∃ C,cG K aX c=some (some (.ref C))/\Cb K C/\o6 K C f
theorem wX{K:ah}{H:Hp}{f:Str}{d:D}:∀ {fs:List (Str×D)} {fv:List (Str×V)},fv.map (·.1)=fs.map (·.1)->aY K H (fv.map (·.2)) (fs.map (·.2))->fs.lookup f=some d->∃ v,fv.lookup f=some v/\ck K H v d:=by
 intro fs;induction fs with
 | nil=>intro fv _ _ h; cases h
 | cons p fs ih =>
  intro fv hn r h;cases fv with
  | nil=>cases hn
  | cons q fv =>
   rw [ax,ax] at hn;injection hn with h1 h2
   cases r with
   | cons r1 r2 =>
    obtain⟨pk,pd⟩:=p;obtain⟨qk,qv⟩:=q;have h1:qk=pk:=h1;subst h1;rw [jj] at h ⊢;cases hb:f == qk with
    | true =>
     rw [hb] at h;cases h;exact⟨qv,rfl,r1⟩
    | false =>
     rw [hb] at h;exact ih h2 r2 h
section
variable {X:Cx} {e:Expr} {te:fz} {f:Str} {al:List Str} {pos:Pos}
theorem a9(cl:∀ c∈al,cS X.K f c)(he:fE X e te)(hb:autoParam (kW e f X.env (eval e X.env)=eval e X.env) Ar._auto_1):fE X (.Attribute e f pos) (bW al f te):=by
 intro E pins s σ H τ G Q hE I h;refine DA hb (ig he hE I h fun x H1 d G1 u s1 I1 m1 r1 hX q1=>?_);obtain⟨a,c,fs,d',rfl,hg,hc,hl,q⟩:=q1;cases hX;cases r1;obtain⟨C,dx,fv,hH,su,hn,rs⟩:=I1.ab a _ hg;obtain⟨C',uB,EZ,JW⟩:=cl c hc;rw [su] at uB;cases uB;obtain⟨v,hv,rv⟩:=wX hn rs hl;exact xr I1.inv hH EZ JW hv fun u' s2 I2 ru=>⟨v,H1,d',G1,I2,m1,ru,rv,q⟩
end
end K2
end
section
namespace K2
open PySem PySem.Spec PyProof.Rows L2
theorem yP{f:Str}{v:V}{d:D}:∀ {fs:List (Str×D)} {fv:List (Str×V)},fv.map (·.1)=fs.map (·.1)->(jf f v fv).map (·.1)=(putD f d fs).map (·.1):=by
 intro fs;induction fs with
 | nil =>
  intro fv h;have:fv=[]:=by simpa using h
  subst this; rfl
 | cons p fs ih =>
  intro fv h;cases fv with
  | nil=>cases h
  | cons q fv =>
   obtain⟨pk,pd⟩:=p;obtain⟨qk,qv⟩:=q;rw [ax,ax] at h;injection h with h1 h2
   have h1:qk=pk:=h1;subst h1;unfold jf putD;split
   ·rw [ax,ax,h2]
   ·rw [ax,ax,ih h2]
theorem AG{K:ah}{H:Hp}{f:Str}{v:V}{d:D}(rv:ck K H v d):∀ {fs:List (Str×D)} {fv:List (Str×V)},fv.map (·.1)=fs.map (·.1)->aY K H (fv.map (·.2)) (fs.map (·.2))->aY K H ((jf f v fv).map (·.2)) ((putD f d fs).map (·.2)):=by
 intro fs;induction fs with
 | nil =>
  intro fv h _;have:fv=[]:=by simpa using h
  subst this;exact .cons rv .nil
 | cons p fs ih =>
  intro fv h r;cases fv with
  | nil=>cases h
  | cons q fv =>
   obtain⟨pk,pd⟩:=p;obtain⟨qk,qv⟩:=q;rw [ax,ax] at h;injection h with h1 h2
   have h1:qk=pk:=h1;subst h1;cases r with
   | cons r1 r2 =>
    unfold jf putD;split
    ·exact .cons rv r2
    ·exact .cons r1 (ih h2 r2)
theorem Kp.IQ{H:Hp}{p:Addr}{C dx:Addr}{fv:List (Str×V)}{o:HO}(hp:H p=some (.ins C dx fv)):Kp H (upd H p o) :=
 ⟨fun a xs e=>by rw [bK (by rintro rfl; rw [hp] at e; cases e)]; exact e,fun a ob u e=>by rw [bK (by rintro rfl; rw [hp] at e; cases e)]; exact e⟩
section
variable {X:Cx} {o value:Expr} {to tv:fz} {f:Str} {al:List Str} {pos pos':Pos}
theorem df(cl:∀ c∈al,cS X.K f c)(ho:fE X o to)(hv:fE X value tv)(hs:autoParam (vc value (some (.Attribute o f pos')) pos.line X.env=pure false) Ar._auto_1):xF X (.Assign [.Attribute o f pos'] value pos) (gJ al f to tv):=by
 intro E pins s σ H τ G D hE I h;refine plainObj_wpAny_Assign_Attribute (ig hv hE I h fun y H1 d G1 u s1 I1 m1 r1 hX q1=>ig ho hE I1 q1 fun x H2 d2 G2 ov s2 ji m2 r2 wy q2=>?_) hs;obtain⟨a,c,fs,rfl,hg,hc,hl,q⟩:=q2;cases wy;cases r2;obtain⟨C,dx,fv,hH,su,hn,rs⟩:=ji.ab a _ hg;obtain⟨C',uB,EZ,JW⟩:=cl c hc;rw [su] at uB;cases uB;have hlen:fv.length=fs.length:=by have:=congrArg wt hn; simpa using this
 have II:=hX.mono (m2.kp I1.ab);refine wR ji.inv hH EZ JW (by lia) r1 fun s3 I3=>?_;have k:Kp H2 (upd H2 a (.ins C dx (jf f y fv))):=.IQ hH;have m3:Mv X.K H2 G2 (upd H2 a (.ins C dx (jf f y fv))) (cy G2 a (.ins c (putD f d fs))):=.put ji.ab hg k ⟨C,dx,jf f y fv,bR,su,yP hn,(AG II hn rs).mono k⟩;exact⟨σ,_,τ,_,ji.mv I3 m3,(m1.trans m2).trans m3,q⟩
end
section
variable {X:Cx} {k:Nat} {C f:Addr} {fd:ay} {ps:List Str} {sp:jb} {x:Str} {p pos:Pos} {e:Expr} {es:List Expr} {t:tX}
theorem dQ(M:Mk X.K C f)(su:cG X.K aX x=some (some (.ref C)))(F:dW X.prog X.w X.K X.mg X.base fT k f fd ps (bX X.K sp))(hr:gB (k+1) X.A)(hg:Gl X x)(hm:X.mg x=some (.ref C))(hb:Binds X.K fd ps [])
  (ha:xG X (e :: es) t) (zd:autoParam ((x == ("__debug__" : Str))=false) Ad._auto_1) (he:autoParam (bw (e :: es) X.env=(false,eval e X.env) :: bw es X.env) Ar._auto_1) (r0:autoParam ((ib pos (bw es X.env)).any (·.1)=false) Ar._auto_1) :
  fE X (.Call (.Name x p) (e :: es) [] pos) (dR x sp t):=by
 intro E pins s σ H τ G Q hE I h;refine gx (ux I.inv hg hm ?_ zd);refine pK (h₀:=X.base) I.inv.ok.mod.GP M.kp (uf ha pos hE I h fun vs H1 ds G1 us s1 I1 m1 r rd q=>⟨I1.inv.rZ,?_⟩) he r0;refine fh (As M F hr hb .nil ya I1.inv r (Q:=sQ X.K H1 G1 Q) fun y dx hy M0 za=>?_) fun _ _ z=>(p9.of z).trans m1;rw [fw];have m2:Mv X.K H1 G1 (upd H1 dx (.own y)) G1:=.EY I1.ab M0;have MA:(upd H1 dx (.own y)) y=none:=by rw [bK za.symm]; exact hy
 have m3:Mv X.K (upd H1 dx (.own y)) G1 (upd (upd H1 dx (.own y)) y (.ins C dx [])) (cy G1 y (.ins x [])):=.new m2.ab MA ⟨C,dx,[],bR,su,rfl,.nil⟩;have m:=m2.trans m3;refine⟨.ref y :: ds,cy G1 y (.ins x []),fun v G2=>v=.gR/\Q (.ref y) G2,.cons (.ref y) (rd.mono (m.kp I1.ab)),m.ab,q y (I1.ab.free hy),fun d G' v H' q' m' B5=>?_⟩;obtain⟨rfl,q'⟩:=q';cases B5;exact⟨rfl,.ref y,G',m.trans m',.ref y,q'⟩
end
end K2
end
section
namespace K2
open PySem PySem.Spec PyProof.Rows L2
theorem tx{m:Str}:∀ (fs:List (Str×D)) (fv:List (Str×V)),fv.map (·.1)=fs.map (·.1)->fs.lookup m=none->fv.lookup m=none:=by
 intro fs;induction fs with
 | nil =>
  intro fv h _;have:fv=[]:=by simpa using h
  subst this; rfl
 | cons p fs ih =>
  intro fv h hl;cases fv with
  | nil=>cases h
  | cons q fv =>
   obtain⟨pk,pd⟩:=p;obtain⟨qk,qv⟩:=q;rw [ax,ax] at h;injection h with h1 h2
   have h1:qk=pk:=h1;subst h1;rw [jj] at hl ⊢;cases hb:m == qk with
   | true=>rw [hb] at hl; cases hl
   | false=>rw [hb] at hl; exact ih fv h2 hl
section
variable {X:Cx} {k:Nat} {C f:Addr} {fd:ay} {ps:List Str} {sp:jb} {cn m:Str} {apos pos:Pos} {o e:Expr} {es:List Expr} {to:fz} {t:tX}
structure yC(K:ah)(cn m:Str)(C f:Addr):Prop where
 ns:cG K aX cn=some (some (.ref C))
 cl:Cb K C
 me:Meth K C m f
end
end K2
end
section
namespace K2
open PySem PySem.Spec PyProof.Rows L2
structure rO(K:ah)(C:Addr):Prop where
 cl:Cb K C
 wB:aK K (.ref C) "__class__" = some (some (.builtin "object.__class__"))
 sp:dU K (.builtin "object.__class__") "__get__" = some (some (.builtin "getset_descriptor.__get__"))
 tk:fX K (.builtin "object.__class__")=some true
 mo:gU K C (.type "object")=some true
section
variable {X:Cx} {a:Expr} {ta:fz} {p pos:Pos} {all sub:List Str}
theorem j0 {y:Str} {py:Pos} {C:Addr} (hg:Gl X "isinstance") (hm:X.mg "isinstance" = none) (J8:Gl X y) (JY:X.mg y=some (.ref C))
  (Kc:∀ c,all.contains c=true->∃ C',cG X.K aX c=some (some (.ref C'))/\au X.K (.ref C') (.ref C)=some (sub.contains c)/\rO X.K C') (ha:fE X a ta) (zd:autoParam ((y == ("__debug__" : Str))=false) Ad._auto_1)
  (he:autoParam (bw [a,.Name y py] X.env=(false,eval a X.env) :: bw [.Name y py] X.env) Ar._auto_1) (r0:autoParam ((ib pos (bw [Expr.Name y py] X.env)).any (·.1)=false) Ar._auto_1) (Kd:autoParam (bw [.Name y py] X.env=[(false,eval (.Name y py) X.env)]) Ar._auto_1) :
  fE X (.Call (.Name "isinstance" p) [a,.Name y py] [] pos) (kT all sub ta):=by
 intro E pins s σ H τ G Q hE I h;refine gx (mQ I.inv hg hm pL ?_);refine hU ?_ he r0;rw [he];show wpAny _ _ (zM ((false,eval a X.env) :: ib pos (bw [.Name y py] X.env))) _ _ s;refine ie (ig ha hE I h fun v H1 d G1 u s1 I1 m1 r1 hX q1=>?_);rw [Kd];show wpAny _ _ (zM [(false,eval (.Name y py) X.env)]) _ _ s1;refine ie (ux I1.inv J8 JY (sd ?_) zd);obtain⟨b,c,fs,rfl,MY,E3,q⟩:=q1;cases hX;cases r1;obtain⟨C',dx,fv,hH,su,hn,rs⟩:=I1.ab b _ MY;obtain⟨C2,e4,k1,k2⟩:=Kc _ E3;rw [su] at e4;cases e4;obtain⟨mA,O,_⟩:=qi I1.inv.dn hH;obtain⟨od,MM,_⟩:=tD O.ns;exact e9 (PySem.W.kitx_own (ox:=_) (od:=od) k2.cl.pg k2.cl.hd k2.wB k2.sp k2.tk k2.mo) I1.inv.rZ ⟨O.obj,rfl,rfl,MM⟩ k1 (fun z=>nomatch z) fun tk=>⟨.bl _,H1,.bl _,G1,I1.inv.tok _,m1,rfl,.bl _,q⟩
end
end K2
end
section
namespace K2
open PySem PySem.Spec PyProof.Rows L2
noncomputable def BU(X:Cx)(m:Str)(p:Str×jb):Prop:=∃ (C f:Addr) (fd:ay) (ps:List Str) (k:Nat),yC X.K p.1 m C f/\dW X.prog X.w X.K X.mg X.base fT k f fd ps (bX X.K p.2)/\gB k X.A/\Binds X.K fd ps []
theorem nM{X:Cx}{m:Str}:∀ p∈([]:List (Str×jb)),BU X m p:=fun p h=>by cases h
theorem cw{X:Cx}{m c:Str}{sp:jb}{ms:List (Str×jb)}{C f:Addr}{fd:ay}{ps:List Str}{k:Nat}(M:yC X.K c m C f)(F:dW X.prog X.w X.K X.mg X.base fT k f fd ps (bX X.K sp))(hr:gB k X.A)(hb:Binds X.K fd ps [])(t:∀ p∈ms,BU X m p):∀ p∈(c,sp) :: ms,BU X m p:=fun p h=>by
 rcases List.mem_cons.mp h with rfl | h
 ·exact⟨C,f,fd,ps,k,M,F,hr,hb⟩
 ·exact t p h
section
variable {X:Cx} {ms:List (Str×jb)} {m:Str} {apos pos:Pos} {o e:Expr} {es:List Expr} {to:fz} {t:tX}
theorem yT{pl:Sem Bool}(Ms:∀ p∈ms,BU X m p)(ho:fE X o to)(ha:xG X (e :: es) t)
  (JO:autoParam (bw (e :: es) X.env=(false,eval e X.env) :: bw es X.env) Ar._auto_1) (r0:autoParam ((ib pos (bw es X.env)).any (·.1)=false) Ar._auto_1)
  (ht:autoParam (eval (.Call (.Attribute o m apos) (e :: es) [] pos) X.env=(do
   let ov ← eval o X.env
   standAt apos.atName
   let (f,first) ← holding [ov] (getMethod ov m pl)
   callWith pos f first (ib pos (bw (e :: es) X.env)) (backToKw pos (t4 [] X.env)))) Ar._auto_1) :
  fE X (.Call (.Attribute o m apos) (e :: es) [] pos) (jP ms m to t):=by
 intro E pins s σ H τ G Q hE I h;refine yE (pl:=pl) (ig ho hE I h fun x H1 d G1 u s1 I1 m1 r1 hX q1=>?_) ht;obtain⟨a,c,fs,sp,rfl,hg,JX,hl,q⟩:=q1;obtain⟨C,f,fd,ps,k,M,F,hr,hb⟩:=Ms _ JX;cases hX;cases r1;obtain⟨C',dx,fv,hH,su,hn,rs⟩:=I1.ab a _ hg;have uB:=M.ns.symm.trans su;cases uB;refine qW I1.inv hH M.cl M.me (tx fs fv hn hl) ?_;refine pK (first:=[.ref a]) (h₀:=X.base) I.inv.ok.mod.GP M.me.kp (uf ha pos hE I1 q fun vs H2 ds G2 us s2 ji m2 r rd q2=>⟨ji.inv.rZ,?_⟩) JO r0;refine fh (wV (us:=.ref a :: us) (vs:=.ref a :: vs) F hr hb .nil ya ji.inv (.cons rfl r) (Q:=sQ X.K H2 G2 Q) ?_) fun _ _ z=>(p9.of z).trans (m1.trans m2);rw [fw];exact⟨.ref a :: ds,G2,Q,.cons (.ref a) rd,ji.ab,q2,fun d G' v H' q' m' B5=>⟨d,G',m',B5,q'⟩⟩
theorem mL{pl:Sem Bool}(Ms:∀ p∈ms,BU X m p)(ho:fE X o to)
  (ht:autoParam (eval (.Call (.Attribute o m apos) [] [] pos) X.env=(do
   let ov ← eval o X.env
   standAt apos.atName
   let (f,first) ← holding [ov] (getMethod ov m pl)
   callWith pos f first (ib pos (bw [] X.env)) (backToKw pos (t4 [] X.env)))) Ar._auto_1) :
  fE X (.Call (.Attribute o m apos) [] [] pos) (jP ms m to aL):=by
 intro E pins s σ H τ G Q hE I h;refine yE (pl:=pl) (ig ho hE I h fun x H1 d G1 u s1 I1 m1 r1 hX q1=>?_) ht;obtain⟨a,c,fs,sp,rfl,hg,JX,hl,q⟩:=q1;obtain⟨C,f,fd,ps,k,M,F,hr,hb⟩:=Ms _ JX;cases hX;cases r1;obtain⟨C',dx,fv,hH,su,MQ,rs⟩:=I1.ab a _ hg;have uB:=M.ns.symm.trans su;cases uB;refine qW I1.inv hH M.cl M.me (tx fs fv MQ hl) ?_;refine PySem.W.callWith_K0 (first:=[.ref a]) I1.inv.rZ M.me.kp (fh (wV (us:=[.ref a]) (vs:=[.ref a]) F hr hb .nil ya I1.inv (.cons rfl .nil) (Q:=sQ X.K H1 G1 Q) ?_) fun _ _ z=>(p9.of z).trans m1);exact⟨[.ref a],G1,Q,.cons (.ref a) .nil,I1.ab,q,fun d G' v H' q' m' B5=>⟨d,G',m',B5,q'⟩⟩
end
end K2
end
section
namespace K2
open PySem PySem.W PySem.Spec PyProof.Rows L2
theorem Jx{α:Type}{us:List α}(h:us.length=7):∃ a b c d e f g,us=[a,b,c,d,e,f,g]:=by
 match us,h with
 | [a,b,c,d,e,f,g],_=>exact⟨a,b,c,d,e,f,g,rfl⟩
theorem Dw{K:Frag}{f:Str}:∀ c∈([]:List Str),cS K f c:=fun c h=>by cases h
theorem BH{K:Frag}{f x:Str}{l:List Str}(h:cS K f x)(t:∀ c∈l,cS K f c):∀ c∈x :: l,cS K f c:=fun c hc=>by
 rcases List.mem_cons.mp hc with rfl | hc
 ·exact h
 ·exact t c hc
theorem cR{K:Frag}{f x:Str}(h:cS K f x):∀ c∈[x],cS K f c:=BH h Dw
structure Cc(K:Frag)(cn:Str)(C:Addr):Prop where
 ns:nsIn K aX cn=some (some (.ref C))
 cl:Cb K C
theorem rD {K:Frag} {cn:Str} {C:Addr} (a:autoParam (nsIn K aX cn=some (some (.ref C))) Aq._auto_1) (pg:autoParam (plainGet K C Str.empty=true) Aq._auto_1) (hd:autoParam (hasDictIn K C=true) Aq._auto_1) (po:autoParam (plainOver K C=true) Aq._auto_1) (sa:autoParam (findIn K (.ref C) "__setattr__" = some (some (.builtin "object.__setattr__"))) Aq._auto_1):Cc K cn C:=⟨a,⟨pg,hd,po,sa⟩⟩
theorem Cc.fld{K:Frag}{cn f:Str}{C:Addr}(c:Cc K cn C)(n:o6 K C f):cS K f cn:=⟨C,c.ns,c.cl,n⟩
structure tY(K:Frag)(C:Addr)(m q:Str)(st:Stmt)(f:Addr)(fd:ay):Prop where
 at_:findIn K (.ref C) m=some (some (.ref f))
 fn:isFn K (.ref f)=true
 F:L2.k6 K m q st f fd
theorem gw{K:Frag}{m q:Str}{C:Addr}{st:Stmt}{f:Addr}{oc:Value}{od an:Option Addr}{yU:Array (Option Value)}{kV doc pm jt ct:Value}(a:autoParam (findIn K (.ref C) m=some (some (.ref f))) Aq._auto_1)(fn:autoParam (isFn K (.ref f)=true) Aq._auto_1)(l:autoParam (K.lookup f=some ⟨oc,od,.func (fnOf m q (L2.gq st) (L2.ff st) (L2.aU st) .none kV doc pm an jt ct),yU⟩) Aq._auto_1)
  (c:autoParam (codeIn K jt q=true) Aq._auto_1) (k:autoParam (keepIn K (.ref f)=true) Aq._auto_1):tY K C m q st f (fnOf m q (L2.gq st) (L2.ff st) (L2.aU st) .none kV doc pm an jt ct):=⟨a,fn,L2.Br l c k⟩
theorem tY.me{K:Frag}{C:Addr}{cn m q:Str}{st:Stmt}{f:Addr}{fd:ay}(z:tY K C m q st f fd)(c:Cc K cn C):yC K cn m C f:=⟨c.ns,c.cl,⟨z.at_,z.fn,z.F.kp⟩⟩
theorem tY.maker {K:Frag} {C:Addr} {q:Str} {st:Stmt} {f:Addr} {fd:ay} (z:tY K C "__init__" q st f fd) (mk:makesIn K C=true) (kp:keepIn K (.ref C)=true):Mk K C f:=⟨mk,z.at_,z.fn,kp⟩
structure sV(P:bx)(w:World)(K:Frag)(mg:Str->Option Value)(base:Heap)(CX:L2.yD)(k:Nat)(f:Addr)(fd:ay)(C:Addr)(cn m:Str)(ps:List Str)(sp:L2.Sp):Prop where
 ok:L2.dW P w K mg base CX k f fd ps sp
 bi:L2.Binds K fd ps []
 me:yC K cn m C f
structure ni(P:bx)(w:World)(K:Frag)(mg:Str->Option Value)(base:Heap)(k:Nat)(f:Addr)(fd:ay)(C:Addr)(cn:Str)(ps:List Str)(sp:L2.Sp):Prop where
 ok:L2.dW P w K mg base fT k f fd ps sp
 bi:L2.Binds K fd ps []
 w9:Mk K C f
 ns:nsIn K aX cn=some (some (.ref C))
 mg:mg cn=some (.ref C)
structure FV(K:Frag)(mg:Str->Option Value)(cn:Str)(C:Addr):Prop where
 ns:nsIn K aX cn=some (some (.ref C))
 mg:mg cn=some (.ref C)
theorem lL {K:Frag} {cn:Str} {C:Addr} (c:Cc K cn C) (a:findIn K (.ref C) "__class__" = some (some (.builtin "object.__class__"))) (s:specialIn K (.builtin "object.__class__") "__get__" = some (some (.builtin "getset_descriptor.__get__"))) (t:takesIn K (.builtin "object.__class__")=some true) (o:mroIn K C (.type "object")=some true):rO K C:=⟨c.cl,a,s,t,o⟩
end K2
end
section
namespace K2
open PySem PySem.W PySem.Spec PyProof.Rows PySem.Calls
theorem yY{p q:bx}{loose:List Str}{Xt:aw->Bool}{α:Type}{Yf:aw->α}{Ya:World->α}{N:Nat}(e:opening p=plainProg p.main.scope.names)(hN:Nat.ble 600 N=true)(f:∀ s,fenceModules? p s=some s)
  (h:∀ (w:World) (os:iw),(topFrom fF p w N ⟨eh w.params,gP [],fH,nk,os⟩).map (fun s=>(openSeen q loose (iL p.main.body) Xt true s,Yf s))=some (zx q loose,Ya w)):LeftO p q loose Xt Yf Ya N:=fun w=>by
 obtain⟨⟨h',gs,d,k,os⟩,e1,e2⟩:=Option.map_eq_some_iff.mp (boot_open e hN f w);obtain⟨rfl,rfl,rfl,rfl⟩:h'=eh w.params/\gs=gP []/\d=fH/\k=nk:=by simpa using e2
 unfold openEnds;rw [e1];exact h w os
noncomputable abbrev xW(l:OpenLaw)(q:bx):Bool:=chainsOk q&&opensWell l.row.prog&&(frees l.row.toRowW&&l.row.within.isEmpty)
noncomputable abbrev Ea(l:OpenLaw)(q:bx)(s:aw):Bool:=xlAt q [] s&&recOk l.row.records s
theorem zc{l:OpenLaw}{q:bx}{loose:List Str}{K:mx->Frag}{as:List Addr}{d:DefRec}{N:Nat}(ok:l.wellSaid=true)(e:opening l.row.prog=plainProg l.row.prog.main.scope.names)(hN:Nat.ble 600 N=true)(f:∀ s,fenceModules? l.row.prog s=some s)(hK:∀ P,as=(K P).map (·.1))
  (h:∀ (w:World) (os:iw),(topFrom fF l.row.prog w N ⟨eh w.params,gP [],fH,nk,os⟩).map (fun s=>(openSeen q loose (iL l.row.prog.main.body) (Ea l q) true s,as.map s.heap.get?))=some (zx q loose,(K w.params).map fun p=>some p.2))
  (hd:defOf q l.row.name=some (d,[])) (hp:l.row.prog.theDef l.row.name=some (d.params,d.body,d.scope)) (hk:kwWritten? d.params.kwonlyargs d.params.kw_defaults=some []) (hr:(!l.row.writes||l.row.records.isEmpty)=true) (ht:xW l q=true) (hb:l.row.prog.bare) (hw:l.row.toRowW.promised)
  (c:WalkO q loose (XL q []) (InK K) l.row.toRowW d [] fun f vs=>xQ f vs):l.Holds :=
 holds_law ok fun k1=>holds_open (yY (Yf:=Hook.obs (kHook K as hK)) (Ya:=Hook.val (kHook K as hK)) e hN f h) (Hook.of (kHook K as hK)) (Hook.keeps (kHook K as hK)) (fun s x=>xl_of s (Bool.and_eq_true_iff.mp x).1) XL.keeps hd hp hk (fun s x=>recFacts_of (Bool.and_eq_true_iff.mp x).2) hr k1 ht hb hw c
structure At(K:Frag)(x:Str)(st:Stmt)(f:Addr)(fd:ay):Prop where
 a:nsIn K aX x=some (some (.ref f))
 F:L2.k6 K x x st f fd
theorem At.mg{K:Frag}{h:Heap}{mg:Str->Option Value}{x:Str}{st:Stmt}{f:Addr}{fd:ay}(z:At K x st f fd)(X:K.In h)(G:h.Ns aX mg):mg x=some (.ref f):=mg_of X G z.a
theorem j6{K:Frag}{x:Str}{st:Stmt}{f:Addr}{oc:Value}{od an:Option Addr}{yU:Array (Option Value)}{kV doc pm jt ct:Value}(a:autoParam (nsIn K aX x=some (some (.ref f))) Aq._auto_1)(l:autoParam (K.lookup f=some ⟨oc,od,.func (fnOf x x (L2.gq st) (L2.ff st) (L2.aU st) .none kV doc pm an jt ct),yU⟩) Aq._auto_1)
  (c:autoParam (codeIn K jt x=true) Aq._auto_1) (k:autoParam (keepIn K (.ref f)=true) Aq._auto_1):At K x st f (fnOf x x (L2.gq st) (L2.ff st) (L2.aU st) .none kV doc pm an jt ct):=⟨a,L2.Br l c k⟩
structure xN(P:bx)(w:World)(K:Frag)(mg:Str->Option Value)(base:Heap)(CX:L2.yD)(k:Nat)(f:Addr)(fd:ay)(x:Str)(ps:List Str)(sp:L2.Sp):Prop where
 ok:L2.dW P w K mg base CX k f fd ps sp
 mg:mg x=some (.ref f)
 kp:keepIn K (.ref f)=true
 bi:L2.Binds K fd ps []
end K2
end
section
namespace K2
open PySem PySem.W PySem.Spec PyProof.Rows PySem.Calls
noncomputable def nt(tb:String->Option Builtin)(p:bx)(w:World)(j2:Nat)(ann:Option Value):Nat->jx->Thread->Option jx
 | 0,_,_=>none
 | n+1,s,t=>match through t with
  | true=>some s
  | false=>match stepOk j2 ann t with
   | false=>none
   | true=>match stepT (denote tb) p w s t with
    | some (s',t')=>nt tb p w j2 ann n s' t'
    | none=>none
theorem CD{tb:String->Option Builtin}{p:bx}{w:World}{j2:Nat}{ann:Option Value}:∀ {n:Nat} {s s':jx} {t:Thread},nt tb p w j2 ann n s t=some s'->topRun tb p w j2 ann n s.abs t=some s'.abs:=by
 intro n;induction n with
 | zero=>intro s s' t h; cases h
 | succ n ih =>
  intro s s' t h;unfold nt at h;unfold topRun;cases ht:through t with
  | true=>rw [ht] at h; cases h; rfl
  | false =>
   rw [ht] at h;cases hk:stepOk j2 ann t with
   | false=>rw [hk] at h; cases h
   | true =>
    rw [hk] at h;cases hs:stepT (denote tb) p w s t with
    | none=>rw [hs] at h; cases h
    | some r =>
     obtain⟨ug,Iu⟩:=r;rw [hs] at h;rw [stepT_spec hs];exact ih h
noncomputable def bt(l:List Obj):BT:=(l.foldl (fun (p:BT×Nat) o=>(p.1.ins p.2 o,p.2+1)) (BT.nil,0)).1
noncomputable def BN(P:mx)(os:iw):jx:=⟨bt (eh P).objs.toList,(eh P).objs.size,(eh P).life,gP [],fH,nk,os⟩
theorem zq(P:mx)(os:iw):(BN P os).abs=⟨eh P,gP [],fH,nk,os⟩:=by kernel_rfl
noncomputable abbrev DP{α:Type}(p q:bx)(loose:List Str)(Xt:aw->Bool)(Yf:aw->α)(P:mx)(s:aw):=((staticsOk (iL p.main.body) (eh P) s.heap&&namesBound p s.heap&&gensDone s&&laidKept (eh P) s.heap),openSeen q loose (iL p.main.body) Xt true s,Yf s)
end K2
end
section
namespace K2
open PySem PySem.W PySem.Spec PyProof.Rows PySem.Calls
noncomputable def Ho(tb:String->Option Builtin)(p:bx)(w:World)(j2:Nat)(ann:Option Value):Nat->jx->Thread->Option (jx×Thread)
 | 0,s,t=>some (s,t)
 | n+1,s,t=>match through t with
  | true=>none
  | false=>match stepOk j2 ann t with
   | false=>none
   | true=>match stepT (denote tb) p w s t with
    | some (s',t')=>Ho tb p w j2 ann n s' t'
    | none=>none
section
variable {tb:String->Option Builtin} {p:bx} {w:World} {j2:Nat} {ann:Option Value} {b:List Stmt} {env:Env} {c:Code} {q pos p':Pos}
theorem E7:∀ {n:Nat} {s s':jx} {t t':Thread},Ho tb p w j2 ann n s t=some (s',t')->topGo tb p w j2 ann n s.abs t=some (s'.abs,t'):=by
 intro n;induction n with
 | zero=>intro s s' t t' h; cases h; rfl
 | succ n ih =>
  intro s s' t t' h;unfold Ho at h;unfold topGo;cases ht:through t with
  | true=>rw [ht] at h; cases h
  | false =>
   rw [ht] at h;cases hk:stepOk j2 ann t with
   | false=>rw [hk] at h; cases h
   | true =>
    rw [hk] at h;cases hs:stepT (denote tb) p w s t with
    | none=>rw [hs] at h; cases h
    | some r =>
     obtain⟨ug,Iu⟩:=r;rw [hs] at h;rw [stepT_spec hs];exact ih h
theorem zm{nA nB N:Nat}{s0 sA sB:jx}{r:aw}(h1:Ho tb p w j2 ann nA s0 (topStub p)=some (sA,⟨denote tb (.body b env),c,pos,[jS q]⟩))(h2:segRunT tb p w j2 ann 1 nB sA (blockOf b env c pos [jS q])=some (.next,sB,c,p'))
  (k:topRun tb p w j2 ann N sB.abs (restOf b env c p' [jS q])=some r):topRun tb p w j2 ann (nA+(nB+N)) s0.abs (topStub p)=some r:=go_top (E7 h1) (piece_block (segRun_of h2) k)
theorem rB(k:Nat){n N:Nat}{s s':jx}{r:aw}(h:segRunT tb p w j2 ann 1 n s (piecesOf (b.take k) env c pos [jS q])=some (.next,s',c,p'))
  (hk:topRun tb p w j2 ann N s'.abs (restOf (b.drop k) env c p' [jS q])=some r):topRun tb p w j2 ann (n+N) s.abs (restOf b env c pos [jS q])=some r:=by
 have:=piece_app (segRun_of h) hk
 rwa [List.take_append_drop] at this
end
theorem CB{p q:bx}{loose:List Str}{Xt:aw->Bool}{α:Type}{Yf:aw->α}{Ya:World->α}{N M:Nat}{w:World}{os:iw}{Df:Nat}{ann:Option Value}{sL:jx}{tL:Thread}
  (hz:((eh w.params).isNs aX,(eh w.params).objs.size,(eh w.params).nsMap aX "__annotations__")=(true,Df,ann))
  (h:(nt fF p w Df ann M sL tL).map (fun s=>DP p q loose Xt Yf w.params s.abs)=some (true,zx q loose,Ya w))
  (k:∀ r,topRun fF p w Df ann M sL.abs tL=some r->topRun fF p w Df ann N (BN w.params os).abs (topStub p)=some r) :
  (topFrom fF p w N ⟨eh w.params,gP [],fH,nk,os⟩).map (fun s=>(openSeen q loose (iL p.main.body) Xt true s,Yf s))=some (zx q loose,Ya w):=by
 obtain⟨s,e1,e2⟩:=Option.map_eq_some_iff.mp h;have r:=k _ (CD e1);rw [zq] at r;obtain⟨z1,z2,z3⟩:_/\_/\_:=by simpa only [wL] using hz
 obtain⟨l1,l2,l3⟩:_/\_/\_:=by simpa only [wL] using e2
 have t:topFrom fF p w N ⟨eh w.params,gP [],fH,nk,os⟩=some s.abs:=by
  unfold topFrom;dsimp only;have g:((gP []:Array GenState).size == 0)=true:=rfl;rw [z1,z2,z3,g,zA,r];dsimp only [Option.bind_some];rw [l1]
 rw [t];exact congrArg some (Prod.ext l2 l3)
end K2
end
section
namespace K2
open PySem (Str)
open Enc (enc)
theorem E9{α:Type} [DecidableEq α] [Enc α]{G G1:Gp}{p:Nat}{xs:List α}{Q:DK}(l:k8 G G1)(hp:G p=none)(h1:G1 p=some (.lst (xs.map enc)))(q:Q (enc xs) G):Fu G1 (.ref p) Q :=
 Bp l hp h1 (zI.same _) q
theorem Ds{α:Type}{f:α->D}{g:tW}{body:gC}{ok:Gp->Prop}{xs:List α}{E:jh}{K:ju}{τ:fM}{G:Gp}(I:List α->fM->Gp->Prop)
  (h0:I [] τ G) (dn:∀ pre τ G,I pre τ G->ok G)
  (step:∀ (pre:List α) (x:α) (post:List α) τ G (N:fM->Gp->Prop),xs=pre++x :: post->I pre τ G->(∀ sX G2,I (pre++[x]) sX G2->N sX G2) ->
   g E (f x) τ G fun pj G1=>body E { K with nx:=N,ct:=N,bk:=K.nx } pj G1)
  (fin:∀ τ G,I xs τ G->K.nx τ G):mF g body ok (xs.map f) E K τ G:=by
 have main:∀ (post pre:List α) τ G,xs=pre++post->I pre τ G->mF g body ok (post.map f) E K τ G:=by
  intro post;induction post with
  | nil =>
   intro pre τ G e h;rw [fw] at e;subst e;exact⟨dn _ _ _ h,fin _ _ h⟩
  | cons d post ih =>
   intro pre τ G e h;refine⟨dn _ _ _ h,?_⟩;exact step pre d post τ G _ e h fun sX G2 h2=>ih (pre++[d]) sX G2 (by rw [e,sW]; rfl) h2
 exact main xs [] τ G rfl h0
noncomputable abbrev Rows:=List (List T3)
noncomputable def T3.s(p:T3):T2:=⟨p.a,p.b⟩
structure Dr(rows:Rows):Prop where
 nd:(rows.flatten.map T3.s).Nodup
 way:∀ p∈rows.flatten,p.b=0\/p.b=1
 hand:∀ p∈rows.flatten,p.c=1\/p.c=-1
 Jr:∀ p∈rows.flatten,(⟨p.a,1 - p.b,p.c⟩:T3)∈rows.flatten
 LD:rows.flatten.length<=24
 str:rows.length<=3
namespace P
theorem pI{a:D}{r:List D}:mG (a :: r) 0=some a:=by
 rw [gO _ (by lia) (by simp)]; rfl
theorem wB{a b:D}{r:List D}:mG (a :: b :: r) 1=some b:=by
 rw [gO _ (by lia) (by simp; lia)]; rfl
noncomputable def names(rows:Rows):List Int:=IA ((rows.flatten.filter fun p=>p.b == 0).map (·.a))
noncomputable def CA(r:List T3):List T3:=r.drop 1++r.take 1
noncomputable def pairsOf(rows:Rows):List (T3×T3):=rows.flatMap fun r=>r.zip (CA r)
noncomputable def Lm(s:T2):T3:=⟨s.a,s.b,0⟩
noncomputable def K9(s:T2):T3:=⟨s.a,s.b,1⟩
end P
end K2
end
section
namespace K2
open PySem (Str)
open Enc (enc)
class inductive Cn {α:Type} (ps:List (α×α)):α->α->Prop
 | refl (x:α):Cn ps x x
 | pair {x y:α}:(x,y)∈ps->Cn ps x y
 | symm {x y:α}:Cn ps x y->Cn ps y x
 | trans {x y z:α}:Cn ps x y->Cn ps y z->Cn ps x z
theorem iD{α:Type} [DecidableEq α] [Enc α]{neg:Bool}{x y:α}{G:Gp}{Q:DK}(hd:Enc.dep α<=8)(q:Q (.bl (if neg then !decide (x=y) else decide (x=y))) G):ml neg (enc x) (enc y) G Q:=by
 refine⟨enc x,enc y,Enc.sn _ _ _ hd,Enc.sn _ _ _ hd,?_⟩;rw [Enc.eqv]; exact q
class xM (α:Type) [DecidableEq α] [Enc α] [bN α] where
 mn:∀ {x:D} {G:Gp} {xs:List α} {Q:DK},itemsOf x G=some (xs.map enc)->xs≠[]->(∀ m∈xs,(∀ y∈xs,AY m y=true)->Q (enc m) G)->Ku [x] G Q
theorem kF{α:Type} [DecidableEq α] [Enc α] [bN α]:∀ (r:List α) (a:α),r.foldl (fun m x=>if bN.lt x m=true then x else m) a∈a :: r/\∀ y∈a :: r,AY (r.foldl (fun m x=>if bN.lt x m=true then x else m) a) y=true
 | [],a=>⟨by simp,fun y hy=>by rw [List.mem_singleton.mp hy]; unfold AY; rw [List.foldl_nil,bN.Dj]; rfl⟩
 | b :: r,a=>by
  rw [wu];by_cases c:bN.lt b a=true
  ·rw [if_pos c];obtain⟨h1,h2⟩:=kF r b;refine⟨bG _ h1,fun y hy=>?_⟩;rcases List.mem_cons.mp hy with rfl | hy
   ·refine tE _ _ _ (h2 b (by simp)) ?_;unfold AY;cases q:bN.lt y b with
    | false=>rfl
    | true=>have:=bN.trans _ _ _ q c; rw [bN.Dj] at this; cases this
   ·exact h2 y hy
  ·rw [if_neg c];obtain⟨h1,h2⟩:=kF r a;refine⟨?_,fun y hy=>?_⟩
   ·rcases List.mem_cons.mp h1 with h | h
    ·rw [h]; simp
    ·exact bG _ (bG _ h)
   ·rcases List.mem_cons.mp hy with rfl | hy
    ·exact h2 y (by simp)
    ·rcases List.mem_cons.mp hy with rfl | hy
     ·refine tE _ _ _ (h2 a (by simp)) ?_;unfold AY; simpa using c
     ·exact h2 y (bG _ hy)
noncomputable instance:xM Int where
 mn:=by
  intro x G xs Q hi za k;cases xs with
  | nil=>exact absurd rfl za
  | cons a r =>
   obtain⟨h1,h2⟩:=kF r a;refine .inl ⟨a :: r,_,hi,rfl,?_⟩;have:(fun (m x:Int)=>if x < m then x else m)=fun m x=>if bN.lt x m=true then x else m:=by
    funext m x;show (if x < m then x else m)=if decide (x < m)=true then x else m
    simp
   show Q (enc (r.foldl (fun m x=>if x < m then x else m) a)) G;rw [this];exact k _ h1 h2
theorem qM:∀ (x y:List Int),nR (fun a b=>decide (a < b)) x y=lexLt x y
 | [],[]=>rfl
 | [],_ :: _=>rfl
 | _ :: _,[]=>rfl
 | a :: x,b :: y=>by simp only [qN,lexLt,qM x y]
noncomputable instance:xM T3 where
 mn:=by
  intro x G xs Q hi za k;cases xs with
  | nil=>exact absurd rfl za
  | cons a r =>
   obtain⟨h1,h2⟩:=kF r a;have ei:itemsOf x G=some (((a :: r).map T3.l).map tI):=by rw [hi,ua]; rfl
   refine .inr ⟨(a :: r).map T3.l,_,ei,rfl,?_⟩;have:∀ (r:List T3) (a:T3),(r.map T3.l).foldl (fun m x=>if lexLt x m=true then x else m) a.l=(r.foldl (fun m x=>if bN.lt x m=true then x else m) a).l:=by
    intro r;induction r with
    | nil=>intro a; rfl
    | cons b r ih =>
     intro a;rw [ax,wu,wu];have e:(if lexLt b.l a.l=true then b.l else a.l)=(if bN.lt b a=true then b else a).l:=by
      have:bN.lt b a=lexLt b.l a.l:=qM _ _;rw [this];split <;> rfl
     rw [e]; exact ih _
   rw [this r a];exact k _ h1 h2
namespace P
section
variable {α:Type} [DecidableEq α] [Enc α] [bN α] [o8 α] [xM α]
noncomputable def told(ms:List α)(gr:α->List α):List (List α):=IA ((ms.filter fun m=>(gr m).all fun y=>AY m y).map fun m=>IA (gr m))
structure GI(ms:List α)(ps:List (α×α))(l:List (α×List α)):Prop where
 len:l.length<=64
 at':∀ m∈ms,∃ g,iI l m=some g/\g.Nodup/\∀ x,x∈g↔Cn ps m x
end
end P
end K2
end
section
namespace K2
open PySem (Str)
open Enc (enc)
namespace P
variable {rows:Rows}
noncomputable def Lc(rows:Rows)(s:T2):T3:=(rows.flatten.find? fun p=>decide (p.s=s)).getD ⟨0,0,0⟩
noncomputable def Mp(rows:Rows)(s:T2):T2:=(iI ((pairsOf rows).map fun p=>(p.1.s,p.2.s)) s).getD s
noncomputable def LG(rows:Rows)(s:T2):T2:=(iI ((pairsOf rows).map fun p=>(p.2.s,p.1.s)) s).getD s
noncomputable def mt(p:T3):T2:=⟨p.a,1 - p.b⟩
noncomputable def fst(p:T3):Bool:=decide (p.b=0) == decide (p.c=1)
noncomputable def back(rows:Rows)(y:T3):T3 :=
 if y.b=2 then y else
 if y.c=0 then (let p:=Lc rows y.s; if fst p=true then K9 (mt p) else Lm (LG rows (mt p)))
 else (let p:=Lc rows (Mp rows y.s); if fst p=true then Lm (LG rows (mt p)) else K9 (mt p))
end P
end K2
end
section
namespace K2
open PySem (Str)
open Enc (enc)
namespace P
variable {rows:Rows}
end P
end K2
end
section
namespace K2
open PySem (Str)
open Enc (enc)
namespace HC
open K2.P
noncomputable def pv:gC :=
 (cf (bT (di (aI HI (ak 1) (sN mZ (ai (ak 0) aL)))) (bI (dN (aI du (ak 0) (ak 1)))) bc)
 (bI (dN (dC (.int 0)))))
noncomputable def i8(ns:List Int)(k:Int):Int:=ns.getD k.toNat 0
noncomputable def lp:jb:=fun ds G Q _=>∃ (ns:List Int) (k:Int),ds=[.dD (ns.map D.int),.int k]/\0<=k/\Q (.int (i8 ns k)) G
theorem pJ(ds:List D)(G:Gp)(Q:DK)(h:lp ds G Q fun _ _=>False):pv (fun _ _=>False) (ends Q) (a0 2 ds) G:=by
 obtain⟨ns,k,rfl,h0,q⟩:=h;unfold pv;simp only [cf,bT,a0,ax,aO,aj,aq,aA,aE,bI,dN,aI,ak,aa,ag,ends,vr,bc,dC,bB,sN,ai,aL,BL,CJ,aC];split
 ·rename_i h;have h1:k < (ns.map D.int).length:=by simpa using h
  rw [gO _ h0 h1];simp only [u6];rw [bQ] at h1;have e:i8 ns k=ns[k.toNat]:=by unfold i8; rw [wM,yG (by lia)]; rfl
  rw [<-e]; exact dZ q
 ·rename_i h;have h1:¬ k < (ns.map D.int).length:=by simpa using h
  rw [bQ] at h1;have e:i8 ns k=0:=by unfold i8; rw [wM,BX (by lia)]; rfl
  rw [<-e]; exact dZ q
structure HR(G G':Gp)(p0:Nat)(as:List Nat)(rs:Rows):Prop where
 le:k8 G G'
 fp:G p0=none
 gp:G' p0=some (.lst (as.map D.ref))
 np:p0∉as
 nd:as.Nodup
 fr:∀ a∈as,G a=none
 len:as.length=rs.length
 at':∀ (i a:Nat) (r:List T3),as[i]?=some a->rs[i]?=some r->G' a=some (.lst (r.map enc))
structure MI(st:Int)(n:Nat)(name:Int)(L:List T3):Prop where
 off:∃ off:Int,0<=off/\off<=83 * n/\name=(st+off) % 999/\∀ p∈L,∃ o:Int,0 < o/\o<=off/\p.a=(st+o) % 999+1
 nd:(L.map T3.s).Nodup
 way:∀ p∈L,p.b=0\/p.b=1
 hand:∀ p∈L,p.c=1\/p.c=-1
 Jr:∀ p∈L,(⟨p.a,1 - p.b,p.c⟩:T3)∈L
 len:L.length=2 * n
end HC
end K2
end
section
namespace K2
open PySem (Str)
open Enc (enc)
namespace Mo
open K2.P
theorem jU{G:Gp}{p:Nat}{a b:GO}:cy (cy G p a) p b=cy G p b:=by
 funext c; unfold cy; by_cases h:c=p <;> simp [h]
theorem at_{al:List Str}{f c:Str}{a:Nat}{fs:List (Str×D)}{d:D}{G:Gp}{Q:DK}(h:G a=some (.ins c fs))(q:Q d G)(hc:autoParam (c∈al) Am._auto_1)(hl:autoParam (fs.lookup f=some d) Ar._auto_1):BP al f (.ref a) G Q:=⟨a,c,fs,d,rfl,h,hc,hl,q⟩
noncomputable def setAt(al:List Str)(f:Str)(x d:D)(G:Gp)(K:Gp->Prop):Prop:=∃ a c fs,x=.ref a/\G a=some (.ins c fs)/\c∈al/\fs.length < 1000/\K (cy G a (.ins c (putD f d fs)))
theorem lR{al:List Str}{f:Str}{to tv:fz}{E:jh}{K:ju}{τ:fM}{G:Gp}:gJ al f to tv E K τ G=tv E τ G fun d G1=>to E τ G1 fun x G2=>setAt al f x d G2 (K.nx τ):=rfl
theorem vm{al:List Str}{f c:Str}{a:Nat}{fs:List (Str×D)}{d:D}{G:Gp}{K:Gp->Prop}(h:G a=some (.ins c fs))(q:K (cy G a (.ins c (putD f d fs))))(hc:autoParam (c∈al) Am._auto_1)(hl:autoParam (fs.length < 1000) An._auto_1):setAt al f (.ref a) d G K:=⟨a,c,fs,rfl,h,hc,hl,q⟩
inductive o7 where
 | un (n:Int)
 | cu (n:Int) (s:T2) (f h:Int)
 | pa (a b:Int)
 | la (a b:Int) (o u:T2) (t h:Int)
 | sl (a b c t:Int)
noncomputable def cn:o7->Str
 | .un _=>"Uncurl" | .cu ..=>"Curl" | .pa ..=>"Part" | .la ..=>"Lay" | .sl ..=>"Slide"
noncomputable def wd:o7->Str
 | .un _=>"uncurl" | .cu ..=>"curl" | .pa ..=>"part" | .la ..=>"lay" | .sl ..=>"slide"
noncomputable def ar:o7->List D
 | .un n=>[.int n] | .cu n s f h=>[.int n,enc s,.int f,.int h] | .pa a b=>[.int a,.int b] | .la a b o u t h=>[.int a,.int b,enc o,enc u,.int t,.int h] | .sl a b c t=>[.int a,.int b,.int c,.int t]
noncomputable def fl:o7->List (Str×D)
 | .un n=>[("name",.int n)] | .cu n s f h=>[("name",.int n),("spot",enc s),("first",.int f),("hand",.int h)] | .pa a b=>[("name",.int a),("second",.int b)] | .la a b o u t h=>[("name",.int a),("second",.int b),("over",enc o),("under",enc u),("turned",.int t),("hand",.int h)] | .sl a b c t=>[("name",.int a),("second",.int b),("third",.int c),("turn",.int t)]
noncomputable def td(m:o7):D:=.tup (.str (wd m) :: ar m)
noncomputable def ob(m:o7):GO:=.ins (cn m) (fl m)
noncomputable abbrev tZ(G:Gp)(p:Nat)(m:o7):Prop:=G p=some (ob m)
noncomputable def iO:gC :=
 (gJ ["Uncurl"] "name" (ak 0) (ak 1))
noncomputable def cz:jb:=fun ds G Q _=>∃ (p:Nat) (n:Int),ds=[.ref p,.int n]/\G p=some (.ins "Uncurl" [])/\Q .gR (cy G p (ob (.un n)))
theorem ng(ds:List D)(G:Gp)(Q:DK)(h:cz ds G Q fun _ _=>False):iO (fun _ _=>False) (ends Q) (a0 2 ds) G:=by
 obtain⟨p,n,rfl,g,q⟩:=h;unfold iO;simp only [ends,a0,ax,aO,aj,aq,aA,aE,lR,ak,ag,aa];refine vm g ?_;exact q
noncomputable def ly:gC :=
 (bI (dN (g4 (ai (dC (.str "uncurl")) (ai (bW ["Uncurl"] "name" (ak 0)) aL)))))
noncomputable def de:jb:=fun ds G Q _=>∃ (p:Nat) (n:Int),ds=[.ref p]/\tZ G p (.un n)/\Q (td (.un n)) G
theorem rM(ds:List D)(G:Gp)(Q:DK)(h:de ds G Q fun _ _=>False):ly (fun _ _=>False) (ends Q) (a0 1 ds) G:=by
 obtain⟨p,n,rfl,g,q⟩:=h;unfold ly;simp only [bI,dN,g4,ai,dC,bW,ak,a0,ax,aO,aj,aq,aA,aE,aa,aL,ends];refine at_ g ?_;exact⟨by decide,dZ q⟩
noncomputable def jY:gC :=
 (cf (gJ ["Curl"] "name" (ak 0) (ak 1))
 (cf (gJ ["Curl"] "spot" (ak 0) (ak 2))
 (cf (gJ ["Curl"] "first" (ak 0) (ak 3))
 (gJ ["Curl"] "hand" (ak 0) (ak 4)))))
noncomputable def cJ:jb:=fun ds G Q _=>∃ (p:Nat) (n:Int) (s:T2) (f:Int) (h:Int),ds=[.ref p,.int n,enc s,.int f,.int h]/\G p=some (.ins "Curl" [])/\Q .gR (cy G p (ob (.cu n s f h)))
theorem o4(ds:List D)(G:Gp)(Q:DK)(h:cJ ds G Q fun _ _=>False):jY (fun _ _=>False) (ends Q) (a0 5 ds) G:=by
 obtain⟨p,n,s,f,h,rfl,g,q⟩:=h;unfold jY;simp only [ends,a0,ax,aO,aj,aq,aA,aE,cm,lR,ak,ag,aa];refine vm g ?_;refine vm aG ?_;refine vm aG ?_;refine vm aG ?_;simp only [jU];exact q
noncomputable def nI:gC :=
 (bI (dN (g4 (ai (dC (.str "curl")) (ai (bW ["Curl"] "name" (ak 0)) (ai (bW ["Curl"] "spot" (ak 0)) (ai (bW ["Curl"] "first" (ak 0)) (ai (bW ["Curl"] "hand" (ak 0)) aL))))))))
noncomputable def er:jb:=fun ds G Q _=>∃ (p:Nat) (n:Int) (s:T2) (f:Int) (h:Int),ds=[.ref p]/\tZ G p (.cu n s f h)/\Q (td (.cu n s f h)) G
theorem uZ(ds:List D)(G:Gp)(Q:DK)(h:er ds G Q fun _ _=>False):nI (fun _ _=>False) (ends Q) (a0 1 ds) G:=by
 obtain⟨p,n,s,f,h,rfl,g,q⟩:=h;unfold nI;simp only [bI,dN,g4,ai,dC,bW,ak,a0,ax,aO,aj,aq,aA,aE,aa,aL,ends];refine at_ g ?_;refine at_ g ?_;refine at_ g ?_;refine at_ g ?_;exact⟨by decide,dZ q⟩
noncomputable def jX:gC :=
 (cf (gJ ["Part"] "name" (ak 0) (ak 1))
 (gJ ["Part"] "second" (ak 0) (ak 2)))
noncomputable def cI:jb:=fun ds G Q _=>∃ (p:Nat) (a:Int) (b:Int),ds=[.ref p,.int a,.int b]/\G p=some (.ins "Part" [])/\Q .gR (cy G p (ob (.pa a b)))
theorem o3(ds:List D)(G:Gp)(Q:DK)(h:cI ds G Q fun _ _=>False):jX (fun _ _=>False) (ends Q) (a0 3 ds) G:=by
 obtain⟨p,a,b,rfl,g,q⟩:=h;unfold jX;simp only [ends,a0,ax,aO,aj,aq,aA,aE,cm,lR,ak,ag,aa];refine vm g ?_;refine vm aG ?_;simp only [jU];exact q
noncomputable def nH:gC :=
 (bI (dN (g4 (ai (dC (.str "part")) (ai (bW ["Part"] "name" (ak 0)) (ai (bW ["Part"] "second" (ak 0)) aL))))))
noncomputable def en:jb:=fun ds G Q _=>∃ (p:Nat) (a:Int) (b:Int),ds=[.ref p]/\tZ G p (.pa a b)/\Q (td (.pa a b)) G
theorem uY(ds:List D)(G:Gp)(Q:DK)(h:en ds G Q fun _ _=>False):nH (fun _ _=>False) (ends Q) (a0 1 ds) G:=by
 obtain⟨p,a,b,rfl,g,q⟩:=h;unfold nH;simp only [bI,dN,g4,ai,dC,bW,ak,a0,ax,aO,aj,aq,aA,aE,aa,aL,ends];refine at_ g ?_;refine at_ g ?_;exact⟨by decide,dZ q⟩
noncomputable def kN:gC :=
 (cf (gJ ["Lay"] "name" (ak 0) (ak 1))
 (cf (gJ ["Lay"] "second" (ak 0) (ak 2))
 (cf (gJ ["Lay"] "over" (ak 0) (ak 3))
 (cf (gJ ["Lay"] "under" (ak 0) (ak 4))
 (cf (gJ ["Lay"] "turned" (ak 0) (ak 5))
 (gJ ["Lay"] "hand" (ak 0) (ak 6)))))))
noncomputable def cY:jb:=fun ds G Q _=>∃ (p:Nat) (a:Int) (b:Int) (o:T2) (u:T2) (t:Int) (h:Int),ds=[.ref p,.int a,.int b,enc o,enc u,.int t,.int h]/\G p=some (.ins "Lay" [])/\Q .gR (cy G p (ob (.la a b o u t h)))
theorem p6(ds:List D)(G:Gp)(Q:DK)(h:cY ds G Q fun _ _=>False):kN (fun _ _=>False) (ends Q) (a0 7 ds) G:=by
 obtain⟨p,a,b,o,u,t,h,rfl,g,q⟩:=h;unfold kN;simp only [ends,a0,ax,aO,aj,aq,aA,aE,cm,lR,ak,ag,aa];refine vm g ?_;refine vm aG ?_;refine vm aG ?_;refine vm aG ?_;refine vm aG ?_;refine vm aG ?_;simp only [jU];exact q
noncomputable def pz:gC :=
 (bI (dN (g4 (ai (dC (.str "lay")) (ai (bW ["Lay"] "name" (ak 0)) (ai (bW ["Lay"] "second" (ak 0)) (ai (bW ["Lay"] "over" (ak 0)) (ai (bW ["Lay"] "under" (ak 0)) (ai (bW ["Lay"] "turned" (ak 0)) (ai (bW ["Lay"] "hand" (ak 0)) aL))))))))))
noncomputable def e7:jb:=fun ds G Q _=>∃ (p:Nat) (a:Int) (b:Int) (o:T2) (u:T2) (t:Int) (h:Int),ds=[.ref p]/\tZ G p (.la a b o u t h)/\Q (td (.la a b o u t h)) G
theorem v9(ds:List D)(G:Gp)(Q:DK)(h:e7 ds G Q fun _ _=>False):pz (fun _ _=>False) (ends Q) (a0 1 ds) G:=by
 obtain⟨p,a,b,o,u,t,h,rfl,g,q⟩:=h;unfold pz;simp only [bI,dN,g4,ai,dC,bW,ak,a0,ax,aO,aj,aq,aA,aE,aa,aL,ends];refine at_ g ?_;refine at_ g ?_;refine at_ g ?_;refine at_ g ?_;refine at_ g ?_;refine at_ g ?_;exact⟨by decide,dZ q⟩
noncomputable def jl:gC :=
 (cf (gJ ["Slide"] "name" (ak 0) (ak 1))
 (cf (gJ ["Slide"] "second" (ak 0) (ak 2))
 (cf (gJ ["Slide"] "third" (ak 0) (ak 3))
 (gJ ["Slide"] "turn" (ak 0) (ak 4)))))
noncomputable def cF:jb:=fun ds G Q _=>∃ (p:Nat) (a:Int) (b:Int) (c:Int) (t:Int),ds=[.ref p,.int a,.int b,.int c,.int t]/\G p=some (.ins "Slide" [])/\Q .gR (cy G p (ob (.sl a b c t)))
theorem oe(ds:List D)(G:Gp)(Q:DK)(h:cF ds G Q fun _ _=>False):jl (fun _ _=>False) (ends Q) (a0 5 ds) G:=by
 obtain⟨p,a,b,c,t,rfl,g,q⟩:=h;unfold jl;simp only [ends,a0,ax,aO,aj,aq,aA,aE,cm,lR,ak,ag,aa];refine vm g ?_;refine vm aG ?_;refine vm aG ?_;refine vm aG ?_;simp only [jU];exact q
noncomputable def mD:gC :=
 (bI (dN (g4 (ai (dC (.str "slide")) (ai (bW ["Slide"] "name" (ak 0)) (ai (bW ["Slide"] "second" (ak 0)) (ai (bW ["Slide"] "third" (ak 0)) (ai (bW ["Slide"] "turn" (ak 0)) aL))))))))
noncomputable def dB:jb:=fun ds G Q _=>∃ (p:Nat) (a:Int) (b:Int) (c:Int) (t:Int),ds=[.ref p]/\tZ G p (.sl a b c t)/\Q (td (.sl a b c t)) G
theorem sT(ds:List D)(G:Gp)(Q:DK)(h:dB ds G Q fun _ _=>False):mD (fun _ _=>False) (ends Q) (a0 1 ds) G:=by
 obtain⟨p,a,b,c,t,rfl,g,q⟩:=h;unfold mD;simp only [bI,dN,g4,ai,dC,bW,ak,a0,ax,aO,aj,aq,aA,aE,aa,aL,ends];refine at_ g ?_;refine at_ g ?_;refine at_ g ?_;refine at_ g ?_;exact⟨by decide,dZ q⟩
end Mo
end K2
end
section
namespace K2
open PySem (Str)
open Enc (enc)
namespace Mo
open K2.P
theorem wA{neg:Bool}{a:Str}{G:Gp}{Q:DK}(q:Q (.bl (!neg)) G)(ha:autoParam (a.cps.all (· < 0x110000)=true) Ak._auto_1):ml neg (.str a) (.str a) G Q:=⟨_,_,.str a ha,.str a ha,by
 have:iG (.str a) (.str a)=true:=by show (a == a)=true; exact beq_self_eq_true a
 rw [this]; cases neg <;> exact q⟩
theorem mE{neg:Bool}{a b:Str}{G:Gp}{Q:DK}(q:Q (.bl neg) G)(h:autoParam ((a == b)=false) Ak._auto_1)(ha:autoParam (a.cps.all (· < 0x110000)=true) Ak._auto_1)(hb:autoParam (b.cps.all (· < 0x110000)=true) Ak._auto_1):ml neg (.str a) (.str b) G Q:=⟨_,_,.str a ha,.str b hb,by
 have:iG (.str a) (.str b)=false:=h;rw [this]; cases neg <;> exact q⟩
noncomputable def rn(kv:List (Int×Int))(n:Int):Int:=(iI kv n).getD n
noncomputable def rs(kv:List (Int×Int))(s:T2):T2:=if s.b=2 then s else ⟨rn kv s.a,s.b⟩
noncomputable def x5(kv:List (Int×Int)):o7->o7
 | .un n=>.un (rn kv n) | .cu n s f h=>.cu (rn kv n) (rs kv s) f h | .pa a b=>.pa (rn kv a) (rn kv b) | .la a b o u t h=>.la (rn kv a) (rn kv b) (rs kv o) (rs kv u) t h | .sl a b c t=>.sl (rn kv a) (rn kv b) (rn kv c) t
theorem xb{kv:List (Int×Int)}{G:Gp}{d:D}{n:Int}{Q:DK}(h:mH G d kv)(q:Q (.int (rn kv n)) G):kY d [.int n,.int n] G Q:=Dg (e:=n) h q
theorem DU(s:T2):(enc s:D)=.tup [.int s.a,.int s.b]:=rfl
noncomputable def kK:gC :=
 (cf (bT (di (aI (ml false) (aI du (ak 0) (dC (.int 1))) (dC (.int 2)))) (bI (dN (ak 0))) bc)
 (bI (dN (g4 (ai (jr sZ kY (ak 1) (ai (aI du (ak 0) (dC (.int 0))) (ai (aI du (ak 0) (dC (.int 0))) aL))) (ai (aI du (ak 0) (dC (.int 1))) aL))))))
noncomputable def cX:jb:=fun ds G Q _=>∃ (s:T2) (d:D) (kv:List (Int×Int)),ds=[enc s,d]/\mH G d kv/\Q (enc (rs kv s)) G
theorem kU(ds:List D)(G:Gp)(Q:DK)(h:cX ds G Q fun _ _=>False):kK (fun _ _=>False) (ends Q) (a0 2 ds) G:=by
 obtain⟨s,d,kv,rfl,hd,q⟩:=h;unfold kK;rw [cm];simp only [bT,a0,DU,ax,aO,aj,aq,aA,aE,bI,dN,ak,aa,ends,bc,g4,ai,jr,ag,aI,dC,aL,bP,wB,pI,bB];refine iD (α:=Int) (by decide) ?_;unfold rs at q;by_cases hb:s.b=2
 ·rw [if_pos hb] at q;simp only [af,hb,decide_true,bF,if_false,aC,if_true];rw [DU,hb] at q;exact dZ q
 ·rw [if_neg hb] at q;simp only [af,hb,decide_false,cc,if_false,aC];exact⟨eF hd,xb hd ⟨by decide,dZ q⟩⟩
noncomputable def jk:gC :=
 (bI (dN (dR "Uncurl" cz (ai (jr sZ kY (ak 1) (ai (bW ["Uncurl"] "name" (ak 0)) (ai (bW ["Uncurl"] "name" (ak 0)) aL))) aL))))
noncomputable def dj:jb:=fun ds G Q _=>∃ (p:Nat) (d:D) (n:Int) (kv:List (Int×Int)),ds=[.ref p,d]/\tZ G p (.un n)/\mH G d kv/\∀ p',G p'=none->Q (.ref p') (cy G p' (ob (x5 kv (.un n))))
theorem oa(ds:List D)(G:Gp)(Q:DK)(h:dj ds G Q fun _ _=>False):jk (fun _ _=>False) (ends Q) (a0 2 ds) G:=by
 obtain⟨p,d,n,kv,rfl,g,hd,q⟩:=h;unfold jk;simp only [bI,dN,dR,ai,jr,ak,a0,ax,aO,aj,aq,aA,aE,ag,aa,bW,aL,ends];refine⟨eF hd,?_⟩;refine at_ g ?_;refine at_ g ?_;refine xb hd ?_
 try refine⟨eF hd,?_⟩
 exact fun p' hp=>⟨p',rn kv n,rfl,aG,rfl,dZ (by rw [jU]; exact q p' hp)⟩
noncomputable def kO:gC :=
 (bI (dN (dR "Curl" cJ (ai (jr sZ kY (ak 1) (ai (bW ["Curl"] "name" (ak 0)) (ai (bW ["Curl"] "name" (ak 0)) aL))) (ai (cg cX (ai (bW ["Curl"] "spot" (ak 0)) (ai (ak 1) aL))) (ai (bW ["Curl"] "first" (ak 0)) (ai (bW ["Curl"] "hand" (ak 0)) aL)))))))
noncomputable def ef:jb:=fun ds G Q _=>∃ (p:Nat) (d:D) (n:Int) (s:T2) (f:Int) (h:Int) (kv:List (Int×Int)),ds=[.ref p,d]/\tZ G p (.cu n s f h)/\mH G d kv/\∀ p',G p'=none->Q (.ref p') (cy G p' (ob (x5 kv (.cu n s f h))))
theorem p7(ds:List D)(G:Gp)(Q:DK)(h:ef ds G Q fun _ _=>False):kO (fun _ _=>False) (ends Q) (a0 2 ds) G:=by
 obtain⟨p,d,n,s,f,h,kv,rfl,g,hd,q⟩:=h;unfold kO;simp only [bI,dN,dR,ai,jr,ak,a0,ax,aO,aj,aq,aA,aE,ag,aa,bW,aL,cg,ends];refine⟨eF hd,?_⟩;refine at_ g ?_;refine at_ g ?_;refine xb hd ?_
 try refine⟨eF hd,?_⟩
 refine at_ g ?_;refine⟨_,d,kv,rfl,hd,?_⟩;refine at_ g ?_;refine at_ g ?_;exact fun p' hp=>⟨p',rn kv n,rs kv s,f,h,rfl,aG,rfl,dZ (by rw [jU]; exact q p' hp)⟩
noncomputable def kM:gC :=
 (bI (dN (dR "Part" cI (ai (jr sZ kY (ak 1) (ai (bW ["Part"] "name" (ak 0)) (ai (bW ["Part"] "name" (ak 0)) aL))) (ai (jr sZ kY (ak 1) (ai (bW ["Part"] "second" (ak 0)) (ai (bW ["Part"] "second" (ak 0)) aL))) aL)))))
noncomputable def ee:jb:=fun ds G Q _=>∃ (p:Nat) (d:D) (a:Int) (b:Int) (kv:List (Int×Int)),ds=[.ref p,d]/\tZ G p (.pa a b)/\mH G d kv/\∀ p',G p'=none->Q (.ref p') (cy G p' (ob (x5 kv (.pa a b))))
theorem p5(ds:List D)(G:Gp)(Q:DK)(h:ee ds G Q fun _ _=>False):kM (fun _ _=>False) (ends Q) (a0 2 ds) G:=by
 obtain⟨p,d,a,b,kv,rfl,g,hd,q⟩:=h;unfold kM;simp only [bI,dN,dR,ai,jr,ak,a0,ax,aO,aj,aq,aA,aE,ag,aa,bW,aL,ends];refine⟨eF hd,?_⟩;refine at_ g ?_;refine at_ g ?_;refine xb hd ?_
 try refine⟨eF hd,?_⟩
 refine at_ g ?_;refine at_ g ?_;refine xb hd ?_
 try refine⟨eF hd,?_⟩
 exact fun p' hp=>⟨p',rn kv a,rn kv b,rfl,aG,rfl,dZ (by rw [jU]; exact q p' hp)⟩
noncomputable def lz:gC :=
 (cf (c8 (jr sZ kY (ak 1) (ai (bW ["Lay"] "name" (ak 0)) (ai (bW ["Lay"] "name" (ak 0)) aL))) (bL 2))
 (cf (c8 (jr sZ kY (ak 1) (ai (bW ["Lay"] "second" (ak 0)) (ai (bW ["Lay"] "second" (ak 0)) aL))) (bL 3))
 (cf (c8 (cg cX (ai (bW ["Lay"] "over" (ak 0)) (ai (ak 1) aL))) (bL 4))
 (cf (c8 (cg cX (ai (bW ["Lay"] "under" (ak 0)) (ai (ak 1) aL))) (bL 5))
 (bI (dN (dR "Lay" cY (ai (ak 2) (ai (ak 3) (ai (ak 4) (ai (ak 5) (ai (bW ["Lay"] "turned" (ak 0)) (ai (bW ["Lay"] "hand" (ak 0)) aL)))))))))))))
noncomputable def eS:jb:=fun ds G Q _=>∃ (p:Nat) (d:D) (a:Int) (b:Int) (o:T2) (u:T2) (t:Int) (h:Int) (kv:List (Int×Int)),ds=[.ref p,d]/\tZ G p (.la a b o u t h)/\mH G d kv/\∀ p',G p'=none->Q (.ref p') (cy G p' (ob (x5 kv (.la a b o u t h))))
theorem rN(ds:List D)(G:Gp)(Q:DK)(h:eS ds G Q fun _ _=>False):lz (fun _ _=>False) (ends Q) (a0 6 ds) G:=by
 obtain⟨p,d,a,b,o,u,t,h,kv,rfl,g,hd,q⟩:=h;unfold lz;simp only [ends,a0,ax,aO,aj,aq,cL,aA,aE,kf,c8,jr,ak,ag,aa,ai,bW,aL,bL,aR,aN,cg,bI,dN,dR];refine⟨eF hd,?_⟩;refine at_ g ?_;refine at_ g ?_;refine xb hd ?_
 try refine⟨eF hd,?_⟩
 refine at_ g ?_;refine at_ g ?_;refine xb hd ?_
 try refine⟨eF hd,?_⟩
 refine at_ g ?_;refine⟨_,d,kv,rfl,hd,?_⟩;refine at_ g ?_;refine⟨_,d,kv,rfl,hd,?_⟩;refine at_ g ?_;refine at_ g ?_;exact fun p' hp=>⟨p',rn kv a,rn kv b,rs kv o,rs kv u,t,h,rfl,aG,rfl,dZ (by rw [jU]; exact q p' hp)⟩
noncomputable def jW:gC :=
 (cf (c8 (jr sZ kY (ak 1) (ai (bW ["Slide"] "name" (ak 0)) (ai (bW ["Slide"] "name" (ak 0)) aL))) (bL 2))
 (cf (c8 (jr sZ kY (ak 1) (ai (bW ["Slide"] "second" (ak 0)) (ai (bW ["Slide"] "second" (ak 0)) aL))) (bL 3))
 (bI (dN (dR "Slide" cF (ai (ak 2) (ai (ak 3) (ai (jr sZ kY (ak 1) (ai (bW ["Slide"] "third" (ak 0)) (ai (bW ["Slide"] "third" (ak 0)) aL))) (ai (bW ["Slide"] "turn" (ak 0)) aL)))))))))
noncomputable def dH:jb:=fun ds G Q _=>∃ (p:Nat) (d:D) (a:Int) (b:Int) (c:Int) (t:Int) (kv:List (Int×Int)),ds=[.ref p,d]/\tZ G p (.sl a b c t)/\mH G d kv/\∀ p',G p'=none->Q (.ref p') (cy G p' (ob (x5 kv (.sl a b c t))))
theorem o2(ds:List D)(G:Gp)(Q:DK)(h:dH ds G Q fun _ _=>False):jW (fun _ _=>False) (ends Q) (a0 4 ds) G:=by
 obtain⟨p,d,a,b,c,t,kv,rfl,g,hd,q⟩:=h;unfold jW;simp only [ends,a0,ax,aO,aj,aq,cL,aA,aE,kf,c8,jr,ak,ag,aa,ai,bW,aL,bL,aR,aN,bI,dN,dR];refine⟨eF hd,?_⟩;refine at_ g ?_;refine at_ g ?_;refine xb hd ?_
 try refine⟨eF hd,?_⟩
 refine at_ g ?_;refine at_ g ?_;refine xb hd ?_
 try refine⟨eF hd,?_⟩
 refine at_ g ?_;refine at_ g ?_;refine xb hd ?_
 try refine⟨eF hd,?_⟩
 refine at_ g ?_;exact fun p' hp=>⟨p',rn kv a,rn kv b,rn kv c,t,rfl,aG,rfl,dZ (by rw [jU]; exact q p' hp)⟩
noncomputable def qC:gC :=
 (cf (bT (di (aI (ml false) (aI du (ak 0) (dC (.int 0))) (dC (.str "uncurl")))) (bI (dN (dR "Uncurl" cz (ai (aI du (ak 0) (dC (.int 1))) aL)))) bc)
 (cf (bT (di (aI (ml false) (aI du (ak 0) (dC (.int 0))) (dC (.str "curl")))) (bI (dN (dR "Curl" cJ (ai (aI du (ak 0) (dC (.int 1))) (ai (aI du (ak 0) (dC (.int 2))) (ai (aI du (ak 0) (dC (.int 3))) (ai (aI du (ak 0) (dC (.int 4))) aL))))))) bc)
 (cf (bT (di (aI (ml false) (aI du (ak 0) (dC (.int 0))) (dC (.str "part")))) (bI (dN (dR "Part" cI (ai (aI du (ak 0) (dC (.int 1))) (ai (aI du (ak 0) (dC (.int 2))) aL))))) bc)
 (cf (bT (di (aI (ml false) (aI du (ak 0) (dC (.int 0))) (dC (.str "lay")))) (bI (dN (dR "Lay" cY (ai (aI du (ak 0) (dC (.int 1))) (ai (aI du (ak 0) (dC (.int 2))) (ai (aI du (ak 0) (dC (.int 3))) (ai (aI du (ak 0) (dC (.int 4))) (ai (aI du (ak 0) (dC (.int 5))) (ai (aI du (ak 0) (dC (.int 6))) aL))))))))) bc)
 (cf (bT (di (aI (ml false) (aI du (ak 0) (dC (.int 0))) (dC (.str "slide")))) (bI (dN (dR "Slide" cF (ai (aI du (ak 0) (dC (.int 1))) (ai (aI du (ak 0) (dC (.int 2))) (ai (aI du (ak 0) (dC (.int 3))) (ai (aI du (ak 0) (dC (.int 4))) aL))))))) bc)
 BF)))))
noncomputable def kd:jb:=fun ds G Q _=>∃ m:o7,ds=[td m]/\∀ p,G p=none->Q (.ref p) (cy G p (ob m))
theorem xI(ds:List D)(G:Gp)(Q:DK)(h:kd ds G Q fun _ _=>False):qC (fun _ _=>False) (ends Q) (a0 1 ds) G:=by
 obtain⟨m,rfl,q⟩:=h;unfold qC;cases m with
 | un n =>
  simp only [ends,a0,td,wd,ar,ax,aO,aj,aq,aA,aE,cm,bT,bI,dN,dR,ai,aI,ak,aa,dC,aL,bP,wB,bc,bB,pI];refine wA ?_;simp only [cc,aC,if_true];exact fun p hp=>⟨p,n,rfl,aG,rfl,dZ (by rw [jU]; exact q p hp)⟩
 | cu n s f h =>
  simp only [ends,a0,td,wd,ar,ax,aO,aj,aq,aA,aE,cm,bT,bI,dN,dR,ai,aI,ak,aa,dC,aL,bP,wB,bc,bB,pI];refine mE ?_;simp only [aC,af,if_false];refine wA ?_;simp only [cc,aC,if_true];exact fun p hp=>⟨p,n,s,f,h,rfl,aG,rfl,dZ (by rw [jU]; exact q p hp)⟩
 | pa a b =>
  simp only [ends,a0,td,wd,ar,ax,aO,aj,aq,aA,aE,cm,bT,bI,dN,dR,ai,aI,ak,aa,dC,aL,bP,wB,bc,bB,pI];refine mE ?_;simp only [aC,af,if_false];refine mE ?_;simp only [aC,af,if_false];refine wA ?_;simp only [cc,aC,if_true];exact fun p hp=>⟨p,a,b,rfl,aG,rfl,dZ (by rw [jU]; exact q p hp)⟩
 | la a b o u t h =>
  simp only [ends,a0,td,wd,ar,ax,aO,aj,aq,aA,aE,cm,bT,bI,dN,dR,ai,aI,ak,aa,dC,aL,bP,wB,bc,bB,pI];refine mE ?_;simp only [aC,af,if_false];refine mE ?_;simp only [aC,af,if_false];refine mE ?_;simp only [aC,af,if_false];refine wA ?_;simp only [cc,aC,if_true];exact fun p hp=>⟨p,a,b,o,u,t,h,rfl,aG,rfl,dZ (by rw [jU]; exact q p hp)⟩
 | sl a b c t =>
  simp only [ends,a0,td,wd,ar,ax,aO,aj,aq,aA,aE,cm,bT,bI,dN,dR,ai,aI,ak,aa,dC,aL,bP,wB,bc,bB,pI];refine mE ?_;simp only [aC,af,if_false];refine mE ?_;simp only [aC,af,if_false];refine mE ?_;simp only [aC,af,if_false];refine mE ?_;simp only [aC,af,if_false];refine wA ?_;simp only [cc,aC,if_true];exact fun p hp=>⟨p,a,b,c,t,rfl,aG,rfl,dZ (by rw [jU]; exact q p hp)⟩
end Mo
end K2
end
section
namespace K2
open PySem (Str)
open Enc (enc)
namespace D1
open K2.P K2.Mo
noncomputable def kL:gC :=
 (cf (bT (di (aI (ml false) (aI du (ak 0) (dC (.int 0))) (dC (.str "uncurl")))) (bI (dN (dR "Uncurl" cz (ai (aI du (ak 0) (dC (.int 1))) aL)))) bc)
 (cf (bT (di (aI (ml false) (aI du (ak 0) (dC (.int 0))) (dC (.str "curl")))) (bI (dN (dR "Curl" cJ (ai (aI du (ak 0) (dC (.int 1))) (ai (aI du (ak 0) (dC (.int 2))) (ai (aI du (ak 0) (dC (.int 3))) (ai (aI du (ak 0) (dC (.int 4))) aL))))))) bc)
 (cf (bT (di (aI (ml false) (aI du (ak 0) (dC (.int 0))) (dC (.str "part")))) (bI (dN (dR "Part" cI (ai (aI du (ak 0) (dC (.int 1))) (ai (aI du (ak 0) (dC (.int 2))) aL))))) bc)
 (cf (bT (di (aI (ml false) (aI du (ak 0) (dC (.int 0))) (dC (.str "lay")))) (bI (dN (dR "Lay" cY (ai (aI du (ak 0) (dC (.int 1))) (ai (aI du (ak 0) (dC (.int 2))) (ai (aI du (ak 0) (dC (.int 3))) (ai (aI du (ak 0) (dC (.int 4))) (ai (aI du (ak 0) (dC (.int 5))) (ai (aI du (ak 0) (dC (.int 6))) aL))))))))) bc)
 (bI (dN (dR "Slide" cF (ai (aI du (ak 0) (dC (.int 1))) (ai (aI du (ak 0) (dC (.int 2))) (ai (aI du (ak 0) (dC (.int 3))) (ai (aI du (ak 0) (dC (.int 4))) aL)))))))))))
noncomputable def gk:jb:=fun ds G Q _=>∃ m:o7,ds=[td m]/\∀ p,G p=none->Q (.ref p) (cy G p (ob m))
theorem p4(ds:List D)(G:Gp)(Q:DK)(h:gk ds G Q fun _ _=>False):kL (fun _ _=>False) (ends Q) (a0 1 ds) G:=by
 obtain⟨m,rfl,q⟩:=h;unfold kL;cases m with
 | un n =>
  simp only [ends,a0,td,wd,ar,ax,aO,aj,aq,aA,aE,cm,bT,bI,dN,dR,ai,aI,ak,aa,dC,aL,bP,wB,bc,bB,pI];refine wA ?_;simp only [cc,aC,if_true];exact fun p hp=>⟨p,n,rfl,aG,rfl,dZ (by rw [jU]; exact q p hp)⟩
 | cu n s f h =>
  simp only [ends,a0,td,wd,ar,ax,aO,aj,aq,aA,aE,cm,bT,bI,dN,dR,ai,aI,ak,aa,dC,aL,bP,wB,bc,bB,pI];refine mE ?_;simp only [aC,af,if_false];refine wA ?_;simp only [cc,aC,if_true];exact fun p hp=>⟨p,n,s,f,h,rfl,aG,rfl,dZ (by rw [jU]; exact q p hp)⟩
 | pa a b =>
  simp only [ends,a0,td,wd,ar,ax,aO,aj,aq,aA,aE,cm,bT,bI,dN,dR,ai,aI,ak,aa,dC,aL,bP,wB,bc,bB,pI];refine mE ?_;simp only [aC,af,if_false];refine mE ?_;simp only [aC,af,if_false];refine wA ?_;simp only [cc,aC,if_true];exact fun p hp=>⟨p,a,b,rfl,aG,rfl,dZ (by rw [jU]; exact q p hp)⟩
 | la a b o u t h =>
  simp only [ends,a0,td,wd,ar,ax,aO,aj,aq,aA,aE,cm,bT,bI,dN,dR,ai,aI,ak,aa,dC,aL,bP,wB,bc,bB,pI];refine mE ?_;simp only [aC,af,if_false];refine mE ?_;simp only [aC,af,if_false];refine mE ?_;simp only [aC,af,if_false];refine wA ?_;simp only [cc,aC,if_true];exact fun p hp=>⟨p,a,b,o,u,t,h,rfl,aG,rfl,dZ (by rw [jU]; exact q p hp)⟩
 | sl a b c t =>
  simp only [ends,a0,td,wd,ar,ax,aO,aj,aq,aA,aE,cm,bT,bI,dN,dR,ai,aI,ak,aa,dC,aL,bP,wB,bc,bB,pI];refine mE ?_;simp only [aC,af,if_false];refine mE ?_;simp only [aC,af,if_false];refine mE ?_;simp only [aC,af,if_false];refine mE ?_;simp only [aC,af,if_false];exact fun p hp=>⟨p,a,b,c,t,rfl,aG,rfl,dZ (by rw [jU]; exact q p hp)⟩
end D1
end K2
end
section
namespace K2
open PySem (Str)
open Enc (enc)
namespace Mo
open K2.P
open K2.HC (i8 lp pJ)
theorem CF{lo:Int}{n:Nat}{pre post:List D}{d:D}(h:fJ lo n=pre++d :: post):d=.int (lo+(pre.length:Int))/\pre.length < n:=by
 have hl:pre.length < n:=by
  have:=congrArg wt h;simp [fJ] at this; lia
 have:(fJ lo n)[pre.length]?=some d:=by rw [h]; simp
 simp only [fJ,ed,List.getElem?_range hl] at this;exact⟨by simpa using this.symm,hl⟩
noncomputable def qE:gC :=
 (cf (bT (di (aI HI (ak 1) (sN mZ (ai (ak 0) aL)))) (bI (dN (aI du (ak 0) (ak 1)))) bc)
 (bI (dN (dC (.int 0)))))
noncomputable def bS:jb:=lp
theorem rL(ds:List D)(G:Gp)(Q:DK)(h:bS ds G Q fun _ _=>False):qE (fun _ _=>False) (ends Q) (a0 2 ds) G:=pJ ds G Q h
noncomputable def nF:gC :=
 (bI (dN (yx (vV "int" (ak 0)) (BE (vV "bool" (ak 0))))))
noncomputable def fO:jb:=fun ds G Q _=>∃ i:Int,ds=[.int i]/\Q (.bl true) G
theorem uW(ds:List D)(G:Gp)(Q:DK)(h:fO ds G Q fun _ _=>False):nF (fun _ _=>False) (ends Q) (a0 1 ds) G:=by
 obtain⟨i,rfl,q⟩:=h;unfold nF;simp only [bI,dN,a0,ax,aO,aj,aq,aA,aE,ends,BG,BD,qm,ak,aa,vD,aC];simpa using dZ q
noncomputable def mC:gC :=
 (cf (bT (sM (i6 (di (vV "tuple" (ak 0)))) (di (aI (ml true) (sN mZ (ai (ak 0) aL)) (sN mZ (ai (ak 1) aL))))) (bI (dN (dC (.bl false)))) bc)
 (cf (rz (A9 (ak 0)) (bL 2) (bT (i6 (di (cg fO (ai (ak 2) aL)))) (bI (dN (dC (.bl false)))) bc))
 (bI (dN (aI (ml false) (ak 0) (ak 1))))))
noncomputable def hW:jb:=fun ds G Q _=>∃ ns:List Int,ds=[tI ns,tI ns]/\Q (.bl true) G
theorem sS(ds:List D)(G:Gp)(Q:DK)(h:hW ds G Q fun _ _=>False):mC (fun _ _=>False) (ends Q) (a0 3 ds) G:=by
 obtain⟨ns,rfl,q⟩:=h;unfold mC;simp only [ends,a0,ax,aO,aj,aq,cL,aA,aE,cm,bT,sM,i6,bI,dN,dC,bc,if_true,bB,aI,sN,ai,ak,aa,aL,ag,rF,qm,qT,beq_self_eq_true,aC,bF,af,if_false];refine iD (α:=Int) (by decide) ?_;simp only [decide_true,bF,if_true,rz,yq,ak,aa,Dk,aC,af,if_false];refine Ds (f:=D.int) (xs:=ns) (fun pre τ G'=>G=G'/\∃ a,τ=[some (tI ns),some (tI ns),a]) ⟨rfl,_,rfl⟩ (fun _ _ _ _=>trivial) ?_ ?_
 ·rintro pre i post τ G' N e ⟨rfl,a,rfl⟩ hN;simp only [bL,bT,i6,aR,aN,bI,dN,dC,bc,bB,cg,ai,ak,ag,aa,aL];refine⟨i,rfl,?_⟩;simp only [aC,bF,af,if_false];exact hN _ _ ⟨rfl,_,rfl⟩
 ·rintro τ G' ⟨rfl,a,rfl⟩;simp only [bI,dN,aI,ak,aa,ag];refine⟨_,_,.tI ns,.tI ns,?_⟩;rw [Fe];simp only [decide_true,if_false,af];exact dZ q
noncomputable def Pl(d:D):Prop:=(∃ i,d=.int i)\/∃ ns,d=tI ns
noncomputable abbrev HM(w:Str):Prop:=w.cps.all (· < 0x110000)=true
noncomputable def nG:gC :=
 (cf (bT (sM (i6 (di (vV "tuple" (ak 0)))) (di (aI (ml true) (sN mZ (ai (ak 0) aL)) (sN mZ (ai (ak 1) aL))))) (bI (dN (dC (.bl false)))) bc)
 (cf (bT (sM (i6 (di (vV "str" (aI du (ak 0) (dC (.int 0)))))) (di (aI (ml true) (aI du (ak 0) (dC (.int 0))) (aI du (ak 1) (dC (.int 0)))))) (bI (dN (dC (.bl false)))) bc)
 (cf (rz (Ba (dC (.int 1)) (sN mZ (ai (ak 1) aL))) (bL 2) (bT (di (vV "tuple" (aI du (ak 1) (ak 2)))) (bT (i6 (di (cg hW (ai (aI du (ak 0) (ak 2)) (ai (aI du (ak 1) (ak 2)) aL))))) (bI (dN (dC (.bl false)))) bc) (bT (sM (i6 (di (cg fO (ai (aI du (ak 0) (ak 2)) aL)))) (di (aI (ml true) (aI du (ak 0) (ak 2)) (aI du (ak 1) (ak 2))))) (bI (dN (dC (.bl false)))) bc)))
 (bI (dN (dC (.bl true)))))))
noncomputable def fc:jb:=fun ds G Q _=>∃ (w:Str) (as:List D),ds=[.tup (.str w :: as),.tup (.str w :: as)]/\(as.length<=10/\HM w/\∀ a∈as,Pl a)/\Q (.bl true) G
theorem uX(ds:List D)(G:Gp)(Q:DK)(h:fc ds G Q fun _ _=>False):nG (fun _ _=>False) (ends Q) (a0 3 ds) G:=by
 obtain⟨w,as,rfl,⟨hl,hw,hp⟩,q⟩:=h;unfold nG;simp only [ends,a0,ax,aO,aj,aq,cL,aA,aE,cm,bT,sM,i6,bI,dN,dC,bc,if_true,bB,aI,ak,aa,ag,bP,qm,sN,ai,aL,rF,qT,beq_self_eq_true,aC,bF,af,if_false];refine iD (α:=Int) (by decide) ?_;simp only [decide_true,bF,if_true,pI,aC,af,if_false];show isAt "str" (.str w) G _;unfold isAt FG;simp only [beq_self_eq_true,aC,bF,af,if_false];refine wA ?_ hw;simp only [bF,rz,Ba,dC,sN,ai,ak,ag,aa,aL,rF,aj,aC,af,if_false];refine⟨by lia,?_⟩;refine uD (fun pre τ G'=>G=G'/\∃ a,τ=[some (.tup (.str w :: as)),some (.tup (.str w :: as)),a]) ⟨rfl,_,rfl⟩ (fun _ _ _ _=>trivial) ?_ ?_
 ·rintro pre d post τ G' N e ⟨rfl,a,rfl⟩ hN;obtain⟨rfl,Bc⟩:=CF e;have r0:pre.length < as.length:=by lia
  have ha:mG (D.str w :: as) (1+(pre.length:Int))=some as[pre.length]:=by
   rw [gO _ (by lia) (by rw [aj]; lia)];have:(1+(pre.length:Int)).toNat=pre.length+1:=by lia
   simp only [this,List.getElem_cons_succ]
  simp only [bL,bT,aR,aN,i6,bI,dN,dC,bc,bB,cg,ai,aI,ak,aa,ag,aL,bP,ha,sM,if_true,qm];rcases hp _ (List.getElem_mem r0) with ⟨i,ei⟩ | ⟨ns,ei⟩
  ·rw [ei];simp only [vD,aC];rw [show ("tuple" == "int")=false from by decide];simp only [af,if_false];refine⟨i,rfl,?_⟩;simp only [aC,bF,af,if_false];refine iD (α:=Int) (by decide) ?_;simp only [decide_true,bF,if_true,aC,af,if_false];exact hN _ _ ⟨rfl,_,rfl⟩
  ·rw [ei];simp only [qT,beq_self_eq_true,aC,if_true];refine⟨ns,rfl,?_⟩;simp only [aC,bF,af,if_false];exact hN _ _ ⟨rfl,_,rfl⟩
 ·rintro τ G' ⟨rfl,a,rfl⟩;simp only [bI,dN,dC];exact dZ q
theorem HJ(s:T2):Pl (enc s):=.inr ⟨[s.a,s.b],rfl⟩
theorem FC(i:Int):Pl (.int i):=.inl ⟨i,rfl⟩
theorem Hw(m:o7):∀ a∈ar m,Pl a:=by
 cases m <;> intro a h <;> simp only [ar,zy,u5,or_false] at h <;> rcases h with rfl | h <;> (try exact FC _) <;> (try (rcases h with rfl | h)) <;> (try exact FC _) <;> (try exact HJ _) <;> (try (rcases h with rfl | h)) <;> (try exact FC _) <;> (try exact HJ _) <;> (try (rcases h with rfl | h)) <;> (try exact FC _) <;> (try exact HJ _) <;> (try (rcases h with rfl | h)) <;> (try exact FC _) <;> (try exact HJ _) <;> (try (subst h; exact FC _))
theorem Fo(m:o7):(ar m).length<=10:=by cases m <;> exact Cg rfl
theorem z6(m:o7):HM (wd m):=by
 have h:∀ w∈(["uncurl","curl","part","lay","slide"]:List Str),HM w:=by decide +kernel
 cases m <;> exact h _ (by simp [wd])
theorem tells_of{m:o7}{G:Gp}{Q:DK}(q:Q (.bl true) G):fc [td m,td m] G Q fun _ _=>False:=⟨wd m,ar m,rfl,⟨Fo m,z6 m,Hw m⟩,q⟩
end Mo
end K2
end
section
namespace K2
open PySem (Str)
open Enc (enc)
namespace D1
open K2.P
open K2.Mo
open K2.HC (i8)
noncomputable def nE:gC :=
 (cf (c8 (jg aL) (bL 1))
 (cf (bT (di (kT ["Uncurl","Curl","Part","Lay","Slide"] ["Curl"] (ak 0))) (fV (jr B3 h8 (ak 1) (ai (dC (.str "curl")) aL))) bc)
 (cf (bT (di (kT ["Uncurl","Curl","Part","Lay","Slide"] ["Lay"] (ak 0))) (fV (jr B3 h8 (ak 1) (ai (dC (.str "lay")) aL))) bc)
 (cf (bT (di (kT ["Uncurl","Curl","Part","Lay","Slide"] ["Part"] (ak 0))) (fV (jr B3 h8 (ak 1) (ai (dC (.str "part")) aL))) bc)
 (cf (bT (di (kT ["Uncurl","Curl","Part","Lay","Slide"] ["Slide"] (ak 0))) (fV (jr B3 h8 (ak 1) (ai (dC (.str "slide")) aL))) bc)
 (cf (bT (di (kT ["Uncurl","Curl","Part","Lay","Slide"] ["Uncurl"] (ak 0))) (fV (jr B3 h8 (ak 1) (ai (dC (.str "uncurl")) aL))) bc)
 (cf (bT (i6 (di (kT ["Uncurl","Curl","Part","Lay","Slide"] ["Uncurl","Curl","Part","Lay","Slide"] (ak 0)))) (fV (jr B3 h8 (ak 1) (ai (dC (.str "no move")) aL))) bc)
 (bI (dN (ak 1))))))))))
noncomputable def gF:jb:=fun ds G Q _=>∃ (p:Nat) (m:o7),ds=[.ref p]/\tZ G p m/\Q (.dD [.str (wd m)]) G
theorem uV(ds:List D)(G:Gp)(Q:DK)(h:gF ds G Q fun _ _=>False):nE (fun _ _=>False) (ends Q) (a0 2 ds) G:=by
 obtain⟨p,m,rfl,g,q⟩:=h;unfold nE;simp only [ends,a0,ax,aO,aj,aq,cL,aA,aE,kf,c8,jg,aL,bL,aR,aN];refine⟨by decide,fun l hl=>?_⟩;have za:p≠l:=by rintro rfl; rw [g] at hl; cases hl
 have g2:tZ (cy G l (.lst [])) p m:=by unfold tZ; rw [gj za]; exact g
 have g3:tZ (cy (cy G l (.lst [])) l (.lst [.str (wd m)])) p m:=by unfold tZ; rw [gj za,gj za]; exact g
 have fin:Fu (cy (cy G l (.lst [])) l (.lst [.str (wd m)])) (.ref l) Q:=Bp (by rw [jU]; exact .new hl) hl aG (zI.same _) q;have all:(["Uncurl","Curl","Part","Lay","Slide"]:List Str).contains (cn m)=true:=by
  have h:∀ w∈(["Uncurl","Curl","Part","Lay","Slide"]:List Str),(["Uncurl","Curl","Part","Lay","Slide"]:List Str).contains w=true:=by decide +kernel
  cases m <;> exact h _ (by simp [cn])
 cases m with
 | un n =>
  simp only [cm,bT,fV,jr,ak,ag,aa,hV,ai,dC,aL,i6,bI,dN,dE,bc,bB,kT,aC];refine⟨p,_,_,rfl,g2,all,?_⟩;simp only [cn,show (["Curl"]:List Str).contains "Uncurl" = false by decide +kernel,af,aG,aq,aE,aj,aA,true_and,if_false];refine⟨p,_,_,rfl,g2,all,?_⟩;simp only [cn,show (["Lay"]:List Str).contains "Uncurl" = false by decide +kernel,af,if_false];refine⟨p,_,_,rfl,g2,all,?_⟩;simp only [cn,show (["Part"]:List Str).contains "Uncurl" = false by decide +kernel,af,if_false];refine⟨p,_,_,rfl,g2,all,?_⟩;simp only [cn,show (["Slide"]:List Str).contains "Uncurl" = false by decide +kernel,af,if_false];refine⟨p,_,_,rfl,g2,all,?_⟩;simp only [cn,show (["Uncurl"]:List Str).contains "Uncurl" = true by decide +kernel,if_true];refine⟨by decide,?_⟩;refine⟨p,_,_,rfl,g3,all,?_⟩;simp only [cn,show (["Uncurl","Curl","Part","Lay","Slide"]:List Str).contains "Uncurl" = true by decide +kernel,bF,af,if_false];exact fin
 | cu n s f h =>
  simp only [cm,bT,fV,jr,ak,ag,aa,hV,ai,dC,aL,i6,bI,dN,dE,bc,bB,kT,aC];refine⟨p,_,_,rfl,g2,all,?_⟩;simp only [cn,show (["Curl"]:List Str).contains "Curl" = true by decide +kernel,aG,aq,aE,aj,aA,true_and,if_true];refine⟨by decide,?_⟩;refine⟨p,_,_,rfl,g3,all,?_⟩;simp only [cn,show (["Lay"]:List Str).contains "Curl" = false by decide +kernel,af,if_false];refine⟨p,_,_,rfl,g3,all,?_⟩;simp only [cn,show (["Part"]:List Str).contains "Curl" = false by decide +kernel,af,if_false];refine⟨p,_,_,rfl,g3,all,?_⟩;simp only [cn,show (["Slide"]:List Str).contains "Curl" = false by decide +kernel,af,if_false];refine⟨p,_,_,rfl,g3,all,?_⟩;simp only [cn,show (["Uncurl"]:List Str).contains "Curl" = false by decide +kernel,af,if_false];refine⟨p,_,_,rfl,g3,all,?_⟩;simp only [cn,show (["Uncurl","Curl","Part","Lay","Slide"]:List Str).contains "Curl" = true by decide +kernel,bF,af,if_false];exact fin
 | pa a b =>
  simp only [cm,bT,fV,jr,ak,ag,aa,hV,ai,dC,aL,i6,bI,dN,dE,bc,bB,kT,aC];refine⟨p,_,_,rfl,g2,all,?_⟩;simp only [cn,show (["Curl"]:List Str).contains "Part" = false by decide +kernel,af,aG,aq,aE,aj,aA,true_and,if_false];refine⟨p,_,_,rfl,g2,all,?_⟩;simp only [cn,show (["Lay"]:List Str).contains "Part" = false by decide +kernel,af,if_false];refine⟨p,_,_,rfl,g2,all,?_⟩;simp only [cn,show (["Part"]:List Str).contains "Part" = true by decide +kernel,if_true];refine⟨by decide,?_⟩;refine⟨p,_,_,rfl,g3,all,?_⟩;simp only [cn,show (["Slide"]:List Str).contains "Part" = false by decide +kernel,af,if_false];refine⟨p,_,_,rfl,g3,all,?_⟩;simp only [cn,show (["Uncurl"]:List Str).contains "Part" = false by decide +kernel,af,if_false];refine⟨p,_,_,rfl,g3,all,?_⟩;simp only [cn,show (["Uncurl","Curl","Part","Lay","Slide"]:List Str).contains "Part" = true by decide +kernel,bF,af,if_false];exact fin
 | la a b o u t h =>
  simp only [cm,bT,fV,jr,ak,ag,aa,hV,ai,dC,aL,i6,bI,dN,dE,bc,bB,kT,aC];refine⟨p,_,_,rfl,g2,all,?_⟩;simp only [cn,show (["Curl"]:List Str).contains "Lay" = false by decide +kernel,af,aG,aq,aE,aj,aA,true_and,if_false];refine⟨p,_,_,rfl,g2,all,?_⟩;simp only [cn,show (["Lay"]:List Str).contains "Lay" = true by decide +kernel,if_true];refine⟨by decide,?_⟩;refine⟨p,_,_,rfl,g3,all,?_⟩;simp only [cn,show (["Part"]:List Str).contains "Lay" = false by decide +kernel,af,if_false];refine⟨p,_,_,rfl,g3,all,?_⟩;simp only [cn,show (["Slide"]:List Str).contains "Lay" = false by decide +kernel,af,if_false];refine⟨p,_,_,rfl,g3,all,?_⟩;simp only [cn,show (["Uncurl"]:List Str).contains "Lay" = false by decide +kernel,af,if_false];refine⟨p,_,_,rfl,g3,all,?_⟩;simp only [cn,show (["Uncurl","Curl","Part","Lay","Slide"]:List Str).contains "Lay" = true by decide +kernel,bF,af,if_false];exact fin
 | sl a b c t =>
  simp only [cm,bT,fV,jr,ak,ag,aa,hV,ai,dC,aL,i6,bI,dN,dE,bc,bB,kT,aC];refine⟨p,_,_,rfl,g2,all,?_⟩;simp only [cn,show (["Curl"]:List Str).contains "Slide" = false by decide +kernel,af,aG,aq,aE,aj,aA,true_and,if_false];refine⟨p,_,_,rfl,g2,all,?_⟩;simp only [cn,show (["Lay"]:List Str).contains "Slide" = false by decide +kernel,af,if_false];refine⟨p,_,_,rfl,g2,all,?_⟩;simp only [cn,show (["Part"]:List Str).contains "Slide" = false by decide +kernel,af,if_false];refine⟨p,_,_,rfl,g2,all,?_⟩;simp only [cn,show (["Slide"]:List Str).contains "Slide" = true by decide +kernel,if_true];refine⟨by decide,?_⟩;refine⟨p,_,_,rfl,g3,all,?_⟩;simp only [cn,show (["Uncurl"]:List Str).contains "Slide" = false by decide +kernel,af,if_false];refine⟨p,_,_,rfl,g3,all,?_⟩;simp only [cn,show (["Uncurl","Curl","Part","Lay","Slide"]:List Str).contains "Slide" = true by decide +kernel,bF,af,if_false];exact fin
end D1
end K2
end
section
namespace K2
open PySem (Str)
open Enc (enc)
namespace D1
open K2.P
open K2.Mo
open K2.HC (i8)
noncomputable def lx:gC :=
 (cf (bT (di (aI (ml false) (aI kg (ak 1) (dC (.int 3))) (dC (.int 2)))) (bI (dN (g4 (ai (aI kg (aI nJ (ak 1) (dC (.int 3))) (dC (.int 3))) (ai (dC (.int 2)) aL))))) bc)
 (bI (dN (g4 (ai (aI du (ak 0) (aI kg (aI nJ (ak 1) (dC (.int 3))) (sN mZ (ai (ak 0) aL)))) (ai (aI kg (ak 1) (dC (.int 3))) aL))))))
noncomputable def fI:jb:=fun ds G Q _=>∃ (ns:List Int) (c:Int),ds=[enc ns,.int c]/\(ns≠[]/\ns.length<=1000)/\∀ s:T2,Q (enc s) G
theorem rK(ds:List D)(G:Gp)(Q:DK)(h:fI ds G Q fun _ _=>False):lx (fun _ _=>False) (ends Q) (a0 2 ds) G:=by
 obtain⟨ns,c,rfl,⟨za,hl⟩,q⟩:=h;have hp:0 < ns.length:=by cases ns with | nil=>exact absurd rfl za | cons _ _=>simp
 unfold lx;simp only [ends,a0,ax,aO,aj,aq,aA,aE,cm,bT,bI,dN,g4,ai,aI,ak,ag,aa,dC,aL,jZ,eT,bc,sN,bB];refine⟨by decide,iD (α:=Int) (by decide) ?_⟩;simp only [af,if_false,aC];split
 ·exact⟨by decide,by decide,by decide,by decide,dZ (q ⟨_,_⟩)⟩
 ·refine⟨by decide,by decide,?_⟩;refine Dy (IsL.enc ns) ?_;simp only [bQ,eT];refine⟨by lia,?_⟩;refine wY (IsL.enc ns) (gO _ (Int.emod_nonneg _ (by lia)) (by rw [bQ]; exact Int.emod_lt_of_pos _ (by lia))) ?_;rw [u6];exact⟨by decide,by decide,dZ (q ⟨_,_⟩)⟩
noncomputable def lu:gC :=
 (cf (c8 (Ks (ak 1) uO (BC (dC (.int 3)))) (Dm (pD (bL 2) (pD (bL 3) (pD (bL 4) Bo)))))
 (cf (c8 (cg bS (ai (ak 0) (ai (dC (.int 4)) aL))) (bL 5))
 (cf (c8 (aI Eo (dC (.int 1)) (aI Es (dC (.int 2)) (aI kg (aI nJ (ak 5) (dC (.int 5))) (dC (.int 2))))) (bL 6))
 (cf (c8 (cg fI (ai (ak 1) (ai (cg bS (ai (ak 0) (ai (dC (.int 5)) aL))) aL))) (bL 7))
 (cf (c8 (cg fI (ai (ak 1) (ai (cg bS (ai (ak 0) (ai (dC (.int 6)) aL))) aL))) (bL 8))
 (cf (bT (di (aI (ml false) (aI kg (ak 5) (dC (.int 5))) (dC (.int 0)))) (bI (dN (g4 (ai (dC (.str "lay")) (ai (ak 2) (ai (ak 3) (ai (ak 7) (ai (ak 8) (ai (aI kg (aI nJ (ak 5) (dC (.int 10))) (dC (.int 2))) (ai (ak 6) aL)))))))))) bc)
 (cf (bT (di (aI (ml false) (aI kg (ak 5) (dC (.int 5))) (dC (.int 1)))) (bI (dN (g4 (ai (dC (.str "slide")) (ai (ak 2) (ai (ak 3) (ai (ak 4) (ai (ak 6) aL)))))))) bc)
 (cf (bT (di (aI (ml false) (aI kg (ak 5) (dC (.int 5))) (dC (.int 2)))) (bI (dN (g4 (ai (dC (.str "curl")) (ai (ak 2) (ai (ak 7) (ai (aI kg (aI nJ (ak 5) (dC (.int 10))) (dC (.int 2))) (ai (ak 6) aL)))))))) bc)
 (cf (bT (di (aI (ml false) (aI kg (ak 5) (dC (.int 5))) (dC (.int 3)))) (bI (dN (g4 (ai (dC (.str "part")) (ai (ak 2) (ai (ak 3) aL)))))) bc)
 (bI (dN (g4 (ai (dC (.str "uncurl")) (ai (ak 2) aL))))))))))))))
noncomputable def gG:jb:=fun ds G Q _=>∃ (ns:List Int) (a b c d:Int),ds=[.dD (ns.map D.int),enc [a,b,c,d]]/\∀ m:o7,Q (td m) G
theorem rJ(ds:List D)(G:Gp)(Q:DK)(h:gG ds G Q fun _ _=>False):lu (fun _ _=>False) (ends Q) (a0 9 ds) G:=by
 obtain⟨ns,a,b,c,d,rfl,q⟩:=h;unfold lu;refine fe (fun τ G'=>k8 G G'/\τ=[some (.dD (ns.map D.int)),some (enc [a,b,c,d]),some (.int a),some (.int b),some (.int c),none,none,none,none]) ?_ ?_
 ·intro N hN;simp only [c8,Ks,ak,a0,ax,aO,aj,aq,cL,aA,aE,ag,aa,uO,BB,dC,w4];refine Ep (IsL.enc [a,b,c,d]) ?_;intro p hp;have hc:cut (([a,b,c,d]:List Int).map enc) none (some 3)=([D.int a,D.int b,D.int c]:List D):=rfl;simp only [Dm,lF,ax,aO,aG,pD,bL,Bo,aR,aN];exact hN _ _ ⟨.new hp,rfl⟩
 rintro _ G1 ⟨le,rfl⟩;refine fe (fun τ G'=>G1=G'/\∃ i,τ=[some (.dD (ns.map D.int)),some (enc [a,b,c,d]),some (.int a),some (.int b),some (.int c),some (.int i),none,none,none]) ?_ ?_
 ·intro N hN;simp only [c8,cg,ai,ak,aa,dC,aL,bL,aR,aN];exact⟨ns,4,rfl,by decide,hN _ _ ⟨rfl,_,rfl⟩⟩
 rintro _ _ ⟨rfl,i,rfl⟩;refine fe (fun τ G'=>G1=G'/\∃ j,τ=[some (.dD (ns.map D.int)),some (enc [a,b,c,d]),some (.int a),some (.int b),some (.int c),some (.int i),some (.int j),none,none]) ?_ ?_
 ·intro N hN;simp only [c8,aI,dC,ak,ag,aa,bL,aR,aN,jZ,eT,AD,AA];exact⟨by decide,by decide,by decide,.inl ⟨by decide,by decide⟩,hN _ _ ⟨rfl,_,rfl⟩⟩
 rintro _ _ ⟨rfl,j,rfl⟩;refine fe (fun τ G'=>G1=G'/\∃ o:T2,τ=[some (.dD (ns.map D.int)),some (enc [a,b,c,d]),some (.int a),some (.int b),some (.int c),some (.int i),some (.int j),some (enc o),none]) ?_ ?_
 ·intro N hN;simp only [c8,cg,ai,ak,ag,aa,dC,aL,bL,aR,aN];exact⟨ns,5,rfl,by decide,[a,b,c,d],_,rfl,⟨by simp,by simp⟩,fun o=>hN _ _ ⟨rfl,o,rfl⟩⟩
 rintro _ _ ⟨rfl,o,rfl⟩;refine fe (fun τ G'=>G1=G'/\∃ u:T2,τ=[some (.dD (ns.map D.int)),some (enc [a,b,c,d]),some (.int a),some (.int b),some (.int c),some (.int i),some (.int j),some (enc o),some (enc u)]) ?_ ?_
 ·intro N hN;simp only [c8,cg,ai,ak,ag,aa,dC,aL,bL,aR,aN];exact⟨ns,6,rfl,by decide,[a,b,c,d],_,rfl,⟨by simp,by simp⟩,fun o=>hN _ _ ⟨rfl,o,rfl⟩⟩
 rintro _ _ ⟨rfl,u,rfl⟩
 let S:fM:=[some (.dD (ns.map D.int)),some (enc [a,b,c,d]),some (.int a),some (.int b),some (.int c),some (.int i),some (.int j),some (enc o),some (enc u)]
 refine fe (fun τ G'=>G1=G'/\τ=S) ?_ ?_
 ·intro N hN;simp only [bT,bI,dN,g4,ai,dC,ak,ag,aa,aI,aL,aj,aq,ends,jZ,eT,bc,bB];refine⟨by decide,iD (α:=Int) (by decide) ?_⟩;simp only [af,if_false,aC];split
  ·exact⟨by decide,by decide,by decide,by decide,lY le (q (.la _ _ _ _ _ _))⟩
  ·exact hN _ _ ⟨rfl,rfl⟩
 rintro _ _ ⟨rfl,rfl⟩;refine fe (fun τ G'=>G1=G'/\τ=S) ?_ ?_
 ·intro N hN;simp only [bT,bI,dN,g4,ai,dC,ak,ag,aa,aL,aj,aq,ends,bc,bB,aI,eT,S];refine⟨by decide,iD (α:=Int) (by decide) ?_⟩;simp only [af,if_false,aC];split
  ·exact⟨by decide,lY le (q (.sl _ _ _ _))⟩
  ·exact hN _ _ ⟨rfl,rfl⟩
 rintro _ _ ⟨rfl,rfl⟩;refine fe (fun τ G'=>G1=G'/\τ=S) ?_ ?_
 ·intro N hN;simp only [bT,bI,dN,g4,ai,dC,ak,ag,aa,aI,aL,aj,aq,ends,jZ,eT,bc,bB,S];refine⟨by decide,iD (α:=Int) (by decide) ?_⟩;simp only [af,if_false,aC];split
  ·exact⟨by decide,by decide,by decide,by decide,lY le (q (.cu _ _ _ _))⟩
  ·exact hN _ _ ⟨rfl,rfl⟩
 rintro _ _ ⟨rfl,rfl⟩;refine fe (fun τ G'=>G1=G'/\τ=S) ?_ ?_
 ·intro N hN;simp only [bT,bI,dN,g4,ai,dC,ak,ag,aa,aL,aj,aq,ends,bc,bB,aI,eT,S];refine⟨by decide,iD (α:=Int) (by decide) ?_⟩;simp only [af,if_false,aC];split
  ·exact⟨by decide,lY le (q (.pa _ _))⟩
  ·exact hN _ _ ⟨rfl,rfl⟩
 rintro _ _ ⟨rfl,rfl⟩;simp only [bI,dN,g4,ai,dC,ak,ag,aa,aL,aj,aq,ends,S];exact⟨by decide,lY le (q (.un _))⟩
noncomputable def mj:gC :=
 (cf (bT (di (aI (ml false) (aI du (ak 0) (dC (.int 1))) (dC (.int 2)))) (bI (dN (ak 0))) bc)
 (bI (dN (g4 (ai (jr sZ kY (ak 1) (ai (aI du (ak 0) (dC (.int 0))) (ai (aI du (ak 0) (dC (.int 0))) aL))) (ai (aI du (ak 0) (dC (.int 1))) aL))))))
noncomputable def cV:jb:=cX
theorem mw(ds:List D)(G:Gp)(Q:DK)(h:cV ds G Q fun _ _=>False):mj (fun _ _=>False) (ends Q) (a0 2 ds) G:=kU ds G Q h
theorem at2{a b c:D}{r:List D}:mG (a :: b :: c :: r) 2=some c:=by
 rw [gO _ (by decide) (by simp; lia)]; rfl
theorem Kx{a b c d:D}{r:List D}:mG (a :: b :: c :: d :: r) 3=some d:=by
 rw [gO _ (by decide) (by simp; lia)]; rfl
theorem Kw{a b c d e:D}{r:List D}:mG (a :: b :: c :: d :: e :: r) 4=some e:=by
 rw [gO _ (by decide) (by simp; lia)]; rfl
theorem Ot{a b c d e f:D}{r:List D}:mG (a :: b :: c :: d :: e :: f :: r) 5=some f:=by
 rw [gO _ (by decide) (by simp; lia)]; rfl
theorem Oq{a b c d e f g:D}{r:List D}:mG (a :: b :: c :: d :: e :: f :: g :: r) 6=some g:=by
 rw [gO _ (by decide) (by simp; lia)]; rfl
theorem Ed{G:Gp}{x:D}{ds:List D}{Q:DK}(h:IsL G x ds)(q:Q (.tup ds) G):BK [x] G Q:=by
 unfold BK; simp only [qK h]; exact q
noncomputable def qD:gC :=
 (cf (c8 (jg (ai (aI du (ak 0) (dC (.int 0))) (ai (jr sZ kY (ak 1) (ai (aI du (ak 0) (dC (.int 1))) (ai (aI du (ak 0) (dC (.int 1))) aL))) aL))) (bL 2))
 (cf (bT (sM (di (aI (ml false) (aI du (ak 0) (dC (.int 0))) (dC (.str "part")))) (sM (di (aI (ml false) (aI du (ak 0) (dC (.int 0))) (dC (.str "slide")))) (di (aI (ml false) (aI du (ak 0) (dC (.int 0))) (dC (.str "lay")))))) (fV (jr B3 h8 (ak 2) (ai (jr sZ kY (ak 1) (ai (aI du (ak 0) (dC (.int 2))) (ai (aI du (ak 0) (dC (.int 2))) aL))) aL))) bc)
 (cf (bT (di (aI (ml false) (aI du (ak 0) (dC (.int 0))) (dC (.str "slide")))) (c8 (aI oJ (ak 2) (jg (ai (jr sZ kY (ak 1) (ai (aI du (ak 0) (dC (.int 3))) (ai (aI du (ak 0) (dC (.int 3))) aL))) (ai (aI du (ak 0) (dC (.int 4))) aL)))) (bL 2)) bc)
 (cf (bT (di (aI (ml false) (aI du (ak 0) (dC (.int 0))) (dC (.str "curl")))) (c8 (aI oJ (ak 2) (jg (ai (cg cV (ai (aI du (ak 0) (dC (.int 2))) (ai (ak 1) aL))) (ai (aI du (ak 0) (dC (.int 3))) (ai (aI du (ak 0) (dC (.int 4))) aL))))) (bL 2)) bc)
 (cf (bT (di (aI (ml false) (aI du (ak 0) (dC (.int 0))) (dC (.str "lay")))) (c8 (aI oJ (ak 2) (jg (ai (cg cV (ai (aI du (ak 0) (dC (.int 3))) (ai (ak 1) aL))) (ai (cg cV (ai (aI du (ak 0) (dC (.int 4))) (ai (ak 1) aL))) (ai (aI du (ak 0) (dC (.int 5))) (ai (aI du (ak 0) (dC (.int 6))) aL)))))) (bL 2)) bc)
 (bI (dN (sN BK (ai (ak 2) aL)))))))))
noncomputable def ke:jb:=fun ds G Q _=>∃ (m:o7) (d:D) (kv:List (Int×Int)),ds=[td m,d]/\mH G d kv/\Q (td (x5 kv m)) G
noncomputable def l1(kv:List (Int×Int)):o7->List D
 | .un n=>[.str "uncurl",.int (rn kv n)] | .cu n s f h=>[.str "curl",.int (rn kv n)] | .pa a b=>[.str "part",.int (rn kv a)] | .la a b o u t h=>[.str "lay",.int (rn kv a)] | .sl a b c t=>[.str "slide",.int (rn kv a)]
noncomputable def l2(kv:List (Int×Int)):o7->List D
 | .pa a b=>[.str "part",.int (rn kv a),.int (rn kv b)] | .la a b o u t h=>[.str "lay",.int (rn kv a),.int (rn kv b)] | .sl a b c t=>[.str "slide",.int (rn kv a),.int (rn kv b)] | m=>l1 kv m
noncomputable def l3(kv:List (Int×Int)):o7->List D
 | .sl a b c t=>[.str "slide",.int (rn kv a),.int (rn kv b),.int (rn kv c),.int t] | m=>l2 kv m
noncomputable def l4(kv:List (Int×Int)):o7->List D
 | .cu n s f h=>[.str "curl",.int (rn kv n),enc (rs kv s),.int f,.int h] | m=>l3 kv m
noncomputable def l5(kv:List (Int×Int)):o7->List D
 | .la a b o u t h=>[.str "lay",.int (rn kv a),.int (rn kv b),enc (rs kv o),enc (rs kv u),.int t,.int h] | m=>l4 kv m
noncomputable def St(m:o7)(d:D)(G:Gp)(L:List D)(τ:fM)(G':Gp):Prop:=∃ p,G p=none/\k8 G G'/\G' p=some (.lst L)/\τ=[some (td m),some d,some (.ref p)]
theorem xJ(ds:List D)(G:Gp)(Q:DK)(h:ke ds G Q fun _ _=>False):qD (fun _ _=>False) (ends Q) (a0 3 ds) G:=by
 obtain⟨m,d,kv,rfl,hd,q⟩:=h;unfold qD;refine fe (St m d G (l1 kv m)) ?_ ?_
 ·intro N hN;cases m <;> (simp only [c8,jg,ai,aI,ak,a0,td,wd,ar,ax,aO,aj,aq,cL,aA,aE,aa,dC,jr,ag,aL,bL,aR,aN,bP,wB,pI]; exact⟨eF hd,xb hd ⟨by decide,fun p hp=>hN _ _ ⟨p,hp,.new hp,aG,rfl⟩⟩⟩)
 rintro _ G1 ⟨p,hp,le,gp,rfl⟩;refine fe (St m d G (l2 kv m)) ?_ ?_
 ·intro N hN;have yt:=hd.mono le;cases m with
  | un n =>
   simp only [bT,sM,td,wd,ar,fV,jr,ak,ag,aa,hV,ai,aI,dC,aL,dE,bP,bc,if_true,bB,pI];refine mE ?_;simp only [aC,af,if_false];refine mE ?_;simp only [aC,af,if_false];refine mE ?_;simp only [aC,af,if_false];exact hN _ _ ⟨p,hp,le,gp,rfl⟩
  | cu n s f h =>
   simp only [bT,sM,td,wd,ar,fV,jr,ak,ag,aa,hV,ai,aI,dC,aL,dE,bP,bc,if_true,bB,pI];refine mE ?_;simp only [aC,af,if_false];refine mE ?_;simp only [aC,af,if_false];refine mE ?_;simp only [aC,af,if_false];exact hN _ _ ⟨p,hp,le,gp,rfl⟩
  | pa a b =>
   simp only [bT,sM,td,wd,ar,fV,jr,ak,ag,aa,hV,ai,aI,dC,aL,dE,bP,at2,bc,if_true,bB,pI];refine wA ?_;simp only [cc,aC,gp,true_and,if_true];refine⟨eF yt,xb yt ?_⟩;simp only [gp];exact⟨by simp [SZ,l1],hN _ _ ⟨p,hp,le.put hp,aG,rfl⟩⟩
  | la a b o u t h =>
   simp only [bT,sM,td,wd,ar,fV,jr,ak,ag,aa,hV,ai,aI,dC,aL,dE,bP,at2,bc,if_true,bB,pI];refine mE ?_;simp only [aC,af,if_false];refine mE ?_;simp only [aC,af,if_false];refine wA ?_;simp only [cc,aC,gp,true_and,if_true];refine⟨eF yt,xb yt ?_⟩;simp only [gp];exact⟨by simp [SZ,l1],hN _ _ ⟨p,hp,le.put hp,aG,rfl⟩⟩
  | sl a b c t =>
   simp only [bT,sM,td,wd,ar,fV,jr,ak,ag,aa,hV,ai,aI,dC,aL,dE,bP,at2,bc,if_true,bB,pI];refine mE ?_;simp only [aC,af,if_false];refine wA ?_;simp only [cc,aC,gp,true_and,if_true];refine⟨eF yt,xb yt ?_⟩;simp only [gp];exact⟨by simp [SZ,l1],hN _ _ ⟨p,hp,le.put hp,aG,rfl⟩⟩
 clear gp le hp p;rintro _ G1 ⟨p,hp,le,gp,rfl⟩;refine fe (St m d G (l3 kv m)) ?_ ?_
 ·intro N hN;have yt:=hd.mono le;cases m with
  | sl a b c t =>
   simp only [bT,td,wd,ar,c8,aI,ak,ag,aa,jg,ai,jr,dC,aL,aj,aq,bL,aR,aN,iP,bP,Kw,Kx,bc,bB,pI];refine wA ?_;simp only [cc,aC,if_true];refine⟨eF yt,xb yt ⟨by decide,fun p1 xq=>?_⟩⟩;exact uT (.ref ((k8.new xq) _ _ gp)) (.ref aG) (by simp [SZ,l2]) fun p2 zG=>hN _ _ ⟨p2,(le.trans (.new xq)).free zG,(le.trans (.new xq)).trans (.new zG),aG,rfl⟩
  | _ =>
   simp only [bT,td,wd,ar,c8,aI,ak,ag,aa,jg,ai,jr,dC,aL,aj,aq,bL,aR,aN,iP,bP,bc,bB,pI];refine mE ?_;simp only [aC,af,if_false];exact hN _ _ ⟨p,hp,le,gp,rfl⟩
 clear gp le hp p;rintro _ G1 ⟨p,hp,le,gp,rfl⟩;refine fe (St m d G (l4 kv m)) ?_ ?_
 ·intro N hN;have yt:=hd.mono le;cases m with
  | cu n s f h =>
   simp only [bT,td,wd,ar,c8,aI,ak,ag,aa,jg,ai,cg,dC,aL,aj,aq,bL,aR,aN,iP,bP,Kw,Kx,at2,bc,bB,pI];refine wA ?_;simp only [cc,aC,if_true];refine⟨s,d,kv,rfl,yt,⟨by decide,fun p1 xq=>?_⟩⟩;exact uT (.ref ((k8.new xq) _ _ gp)) (.ref aG) (by simp [SZ,l3,l2,l1]) fun p2 zG=>hN _ _ ⟨p2,(le.trans (.new xq)).free zG,(le.trans (.new xq)).trans (.new zG),aG,rfl⟩
  | _ =>
   simp only [bT,td,wd,ar,c8,aI,ak,ag,aa,jg,ai,cg,dC,aL,aj,aq,bL,aR,aN,iP,bP,bc,bB,pI];refine mE ?_;simp only [aC,af,if_false];exact hN _ _ ⟨p,hp,le,gp,rfl⟩
 clear gp le hp p;rintro _ G1 ⟨p,hp,le,gp,rfl⟩;refine fe (St m d G (l5 kv m)) ?_ ?_
 ·intro N hN;have yt:=hd.mono le;cases m with
  | la a b o u t h =>
   simp only [bT,td,wd,ar,c8,aI,ak,ag,aa,jg,ai,cg,dC,aL,aj,aq,bL,aR,aN,iP,bP,Oq,Ot,Kw,Kx,bc,bB,pI];refine wA ?_;simp only [cc,aC,if_true];refine⟨o,d,kv,rfl,yt,u,d,kv,rfl,yt,⟨by decide,fun p1 xq=>?_⟩⟩;exact uT (.ref ((k8.new xq) _ _ gp)) (.ref aG) (by simp [SZ,l4,l3,l2]) fun p2 zG=>hN _ _ ⟨p2,(le.trans (.new xq)).free zG,(le.trans (.new xq)).trans (.new zG),aG,rfl⟩
  | _ =>
   simp only [bT,td,wd,ar,c8,aI,ak,ag,aa,jg,ai,cg,dC,aL,aj,aq,bL,aR,aN,iP,bP,bc,bB,pI];refine mE ?_;simp only [aC,af,if_false];exact hN _ _ ⟨p,hp,le,gp,rfl⟩
 clear gp le hp p;rintro _ G1 ⟨p,hp,le,gp,rfl⟩;have e:td (x5 kv m)=.tup (l5 kv m):=by cases m <;> rfl
 rw [e] at q;simp only [bI,dN,sN,ai,ak,ag,aa,aL,ends];exact Ed (.ref gp) (lY le q)
end D1
end K2
end
section
namespace K2
open PySem (Str)
open Enc (enc)
namespace D1
open K2.P
open K2.Mo
open K2.HC (i8)
noncomputable abbrev Ca:=List (Int×Int)
theorem DB(l:Ca)(k v:Int):(uR l k v).map (·.1)=if (l.any fun p=>p.1=k)=true then l.map (·.1) else l.map (·.1)++[k]:=by
 unfold uR;split
 ·rw [ua];refine List.map_congr_left fun p _=>?_;simp only [Function.comp];split
  ·rfl
  ·rfl
 ·rw [wm]; rfl
theorem BQ{l:Ca}{k v:Int}(h:(l.map (·.1)).Nodup):((uR l k v).map (·.1)).Nodup:=by
 rw [DB];split
 ·exact h
 ·rename_i hn;rw [List.nodup_append];refine⟨h,by simp,fun a ha b hb e=>hn ?_⟩;rw [List.mem_singleton] at hb;subst e hb;obtain⟨p,hp,e⟩:=List.mem_map.mp ha;exact List.any_eq_true.mpr ⟨p,hp,by simpa using e⟩
theorem uS(l:Ca)(k v:Int):(uR l k v).length<=l.length+1:=by
 unfold uR; split <;> simp
theorem Di{m:Ca}(h:(m.map (·.1)).Nodup):sF m m=true:=by
 unfold sF;rw [aQ];refine⟨by simp,List.all_eq_true.mpr fun p hp=>?_⟩;have:∀ (m:Ca),(m.map (·.1)).Nodup->p∈m->iI m p.1=some p.2:=by
  intro m;induction m with
  | nil=>intro _ h; cases h
  | cons a r ih =>
   intro nd hm;unfold iI;rw [eE];rw [ax,List.nodup_cons] at nd;by_cases e:a.1=p.1
   ·rcases List.mem_cons.mp hm with rfl | hm
    ·simp
    ·exact absurd (List.mem_map.mpr ⟨p,hm,e.symm⟩) nd.1
   ·rcases List.mem_cons.mp hm with rfl | hm
    ·exact absurd rfl e
    ·simp only [e,decide_false]; exact ih nd.2 hm
 rw [this m h hp]; simp
theorem qu {m:o7} {p:Nat} {G:Gp} {Q:DK} (h:tZ G p m) (q:Q (td m) G):∃ a c fs sp,D.ref p=.ref a/\G a=some (.ins c fs)/\(c,sp)∈([("Uncurl",de),("Curl",er),("Part",en),("Lay",e7),("Slide",dB)]:List (Str×jb))/\fs.lookup ("told" : Str)=none/\sp [D.ref p] G Q fun _ _=>False:=by
 cases m with
 | un n=>exact⟨p,_,_,de,rfl,h,.head _,rfl,p,n,rfl,h,q⟩
 | cu n s f i=>exact⟨p,_,_,er,rfl,h,.tail _ (.head _),rfl,p,n,s,f,i,rfl,h,q⟩
 | pa a b=>exact⟨p,_,_,en,rfl,h,.tail _ (.tail _ (.head _)),rfl,p,a,b,rfl,h,q⟩
 | la a b o u t i=>exact⟨p,_,_,e7,rfl,h,.tail _ (.tail _ (.tail _ (.head _))),rfl,p,a,b,o,u,t,i,rfl,h,q⟩
 | sl a b c t=>exact⟨p,_,_,dB,rfl,h,.tail _ (.tail _ (.tail _ (.tail _ (.head _)))),rfl,p,a,b,c,t,rfl,h,q⟩
theorem CG (m:o7) (kv:Ca):∃ sp,(cn m,sp)∈([("Uncurl",dj),("Curl",ef),("Part",ee),("Lay",eS),("Slide",dH)]:List (Str×jb))/\(fl m).lookup ("renamed" : Str)=none/\∀ (G:Gp) (p:Nat) (d:D) (Q:DK),tZ G p m->mH G d kv->(∀ p',G p'=none->Q (.ref p') (cy G p' (ob (x5 kv m))))->sp [D.ref p,d] G Q fun _ _=>False:=by
 cases m with
 | un n=>exact⟨dj,.head _,rfl,fun G p d Q h hd q=>⟨p,d,n,kv,rfl,h,hd,q⟩⟩
 | cu n s f i=>exact⟨ef,.tail _ (.head _),rfl,fun G p d Q h hd q=>⟨p,d,n,s,f,i,kv,rfl,h,hd,q⟩⟩
 | pa a b=>exact⟨ee,.tail _ (.tail _ (.head _)),rfl,fun G p d Q h hd q=>⟨p,d,a,b,kv,rfl,h,hd,q⟩⟩
 | la a b o u t i=>exact⟨eS,.tail _ (.tail _ (.tail _ (.head _))),rfl,fun G p d Q h hd q=>⟨p,d,a,b,o,u,t,i,kv,rfl,h,hd,q⟩⟩
 | sl a b c t=>exact⟨dH,.tail _ (.tail _ (.tail _ (.tail _ (.head _)))),rfl,fun G p d Q h hd q=>⟨p,d,a,b,c,t,kv,rfl,h,hd,q⟩⟩
theorem Eb(kv:Ca)(m:o7):wd (x5 kv m)=wd m:=by cases m <;> rfl
theorem DT{w:Str}{p:Nat}{G:Gp}{Q:DK}(hw:Mo.HM w)(h:G p=some (.lst [.str w]))(q:Q (.bl false) G):sm true (.dD [.str w]) (.ref p) G Q :=
 .inl ⟨.dD [.str w],.dD [.str w],.qF (.str w hw) .wW,.ref h (.qF (.str w hw) .wW),by
  have:iG (.dD [.str w]) (.dD [.str w])=true:=by show (w == w&&true)=true; simp
  rw [this]; exact q⟩
noncomputable def Aw:gC :=
 (cf (Fg 1 (c8 (yw 1 [0] (vF (dC (.int 4))) (bL 0) none (aI oJ (dC (.int 1)) (aI kg (cg bS (ai (ak 1) (ai (ak 0) aL))) (dC (.int 999))))) (bL 1)))
 (cf (c8 (cg gG (ai (ak 0) (ai (ak 1) aL))) (bL 2))
 (cf (c8 Fh (bL 3))
 (cf (rz (vF (dC (.int 4))) (bL 4) (bT (di (aI (sm false) (aI kg (aI nJ (aI nJ (cg bS (ai (ak 0) (ai (dC (.int 7)) aL))) (aI Er (dC (.int 2)) (dC (.int 4)))) (aI oJ (dC (.int 1)) (ak 4))) (dC (.int 2))) (dC (.int 0)))) (c8 (aI oJ (dC (.int 1)) (aI kg (cg bS (ai (ak 0) (ai (aI oJ (dC (.int 8)) (ak 4)) aL))) (dC (.int 999)))) (zg (ak 3) (aI du (ak 1) (ak 4)))) bc))
 (cf (bT (di (aI (sm false) (aI kg (cg bS (ai (ak 0) (ai (dC (.int 7)) aL))) (dC (.int 2))) (dC (.int 0)))) (cf (c8 (aI oJ (dC (.int 1)) (aI kg (cg bS (ai (ak 0) (ai (dC (.int 12)) aL))) (dC (.int 999)))) (zg (ak 3) (dC (.int 1))))
 (c8 (aI oJ (dC (.int 1)) (aI kg (cg bS (ai (ak 0) (ai (dC (.int 13)) aL))) (dC (.int 999)))) (zg (ak 3) (dC (.int 2))))) bc)
 (cf (c8 (sN v5 (ai (ak 3) aL)) (bL 5))
 (cf (rz (A9 (jg (ai (cg gk (ai (ak 2) aL)) (ai (cg kd (ai (ak 2) aL)) aL)))) (bL 6) (cf (bT (sM (i6 (di (cg fc (ai (jP [("Uncurl",de),("Curl",er),("Part",en),("Lay",e7),("Slide",dB)] "told" (ak 6) aL) (ai (ak 2) aL))))) (di (aI (sm true) (cg gF (ai (ak 6) aL)) (jg (ai (aI du (ak 2) (dC (.int 0))) aL))))) (bI (dN (dC (.bl false)))) bc)
 (cf (rz (vF (dC (.int 2))) (bL 7) (cf (c8 (sN v5 (ai (ak 3) aL)) (bL 8))
 (cf (c8 (jP [("Uncurl",dj),("Curl",ef),("Part",ee),("Lay",eS),("Slide",dH)] "renamed" (ak 6) (ai (aI du (jg (ai (ak 5) (ai (ak 8) aL))) (ak 7)) aL)) (bL 9))
 (cf (fV (jr sZ qg (ak 8) aL))
 (bT (sM (i6 (di (cg fc (ai (jP [("Uncurl",de),("Curl",er),("Part",en),("Lay",e7),("Slide",dB)] "told" (ak 9) aL) (ai (cg ke (ai (ak 2) (ai (ak 3) aL))) aL))))) (di (aI (sm true) (cg gF (ai (ak 9) aL)) (jg (ai (aI du (ak 2) (dC (.int 0))) aL))))) (bI (dN (dC (.bl false)))) bc)))))
 (bT (sM (i6 (di (cg fc (ai (jP [("Uncurl",de),("Curl",er),("Part",en),("Lay",e7),("Slide",dB)] "told" (ak 6) aL) (ai (ak 2) aL))))) (di (aI (sm true) (ak 5) (ak 3)))) (bI (dN (dC (.bl false)))) bc))))
 (bI (dN (dC (.bl true)))))))))))
theorem Ft(ds:List D)(G:Gp)(Q:DK)(h:tj ds G Q fun _ _=>False):Aw (fun _ _=>False) (ends Q) (a0 10 ds) G:=by
 obtain⟨ns,rfl,hn,g0,q⟩:=h;unfold Aw;refine fe (fun τ G'=>G=G'/\∃ a b c d:Int,τ=[some (.dD (ns.map D.int)),some (enc [a,b,c,d]),none,none,none,none,none,none,none,none]) ?_ ?_
 ·intro N hN;simp only [Fg,c8,yw,a0,ax,aO,aj,aq,cL,aA,aE,bL,aR,aN,ag,aa,qV,dC,oI];refine⟨by decide,by decide,by decide,?_⟩;refine Du (fun pre acc τ G'=>G=G'/\(∃ a,τ=[a,some (.dD (ns.map D.int))])/\∃ as:List Int,acc=as.map D.int/\as.length=pre.length) ⟨rfl,⟨_,rfl⟩,[],rfl,rfl⟩ (fun _ _ _ _ _=>trivial) ?_ ?_
  ·rintro pre d post acc τ G' N e ⟨rfl,⟨a,rfl⟩,as,rfl,hl⟩ hN;obtain⟨rfl,hp⟩:=CF e;simp only [bL,aI,dC,cg,ai,ak,aN,ag,aa,aL];refine⟨ns,_,rfl,by lia,?_⟩;simp only [eT,lA];refine⟨by decide,hN _ _ _ ⟨rfl,⟨_,rfl⟩,as++[1+i8 ns (0+(pre.length:Int)) % 999],?_,?_⟩⟩
   ·rw [wm]; rfl
   ·rw [cb,cb,hl]; rfl
  ·rintro acc τ G' ⟨rfl,⟨a,rfl⟩,as,rfl,hl⟩ p hp
   match as,hl with
   | [a,b,c,d],_=>exact E9 (xs:=[a,b,c,d]) (.new hp) hp aG (hN _ _ ⟨rfl,a,b,c,d,rfl⟩)
 rintro _ _ ⟨rfl,a,b,c,d,rfl⟩;simp only [ends,kf,c8,cg,ai,ak,aa,ag,aL,bL,aR,aN,Fh];refine⟨ns,a,b,c,d,rfl,fun m=>?_⟩;intro pb OM;refine fe (fun τ G'=>∃ kv:Ca,(kv.map (·.1)).Nodup/\kv.length<=4/\G' pb=some (.gT (cN kv))/\∃ z,τ=[some (.dD (ns.map D.int)),some (enc [a,b,c,d]),some (td m),some (.ref pb),z,none,none,none,none,none]) ?_ ?_
 ·intro N hN;simp only [rz,qV,dC,oI];refine⟨by decide,by decide,?_⟩;refine uD (fun pre τ G'=>∃ kv:Ca,(kv.map (·.1)).Nodup/\kv.length<=pre.length/\G' pb=some (.gT (cN kv))/\∃ z,τ=[some (.dD (ns.map D.int)),some (enc [a,b,c,d]),some (td m),some (.ref pb),z,none,none,none,none,none]) ⟨[],fN,a6 _,aG,_,rfl⟩ (fun _ _ _ _=>trivial) ?_ ?_
  ·rintro pre x post τ G' N e ⟨kv,nd,hl,g,z,rfl⟩ hN;obtain⟨rfl,hp⟩:=CF e;have ON:pre.length < 4:=hp;simp only [bL,bT,aR,aN,c8,aI,dC,cg,ai,ak,aa,ag,aL,lA,bc,bB,AB];refine⟨ns,7,rfl,by decide,?_⟩;simp only [jZ,eT];refine⟨by decide,by decide,by decide,by lia,by lia,by decide,vt ?_⟩;simp only [af,if_false,aC];split
   ·refine⟨ns,_,rfl,by lia,?_⟩;simp only [zg,ak,ag,aa,aI,eT,lA];refine⟨by decide,?_⟩;refine wY (IsL.enc [a,b,c,d]) (gO _ (by lia) (by rw [bQ]; simp; lia)) ?_;rw [u6];refine K2.oC g (by unfold SZ; lia) (hN _ _ ⟨_,BQ nd,?_,aG,_,rfl⟩);have:=uS kv ([a,b,c,d][(0+(pre.length:Int)).toNat]'(by simp; lia)) (1+i8 ns (8+(0+(pre.length:Int))) % 999);simp only [cb,om];lia
   ·exact hN _ _ ⟨kv,nd,by simp; lia,g,_,rfl⟩
  ·rintro τ G' ⟨kv,nd,hl,g,z,rfl⟩;exact hN _ _ ⟨kv,nd,hl,g,z,rfl⟩
 rintro _ G1 ⟨kv,nd,hl,g1,z,rfl⟩;refine fe (fun τ G'=>∃ kv:Ca,(kv.map (·.1)).Nodup/\kv.length<=6/\G' pb=some (.gT (cN kv))/\τ=[some (.dD (ns.map D.int)),some (enc [a,b,c,d]),some (td m),some (.ref pb),z,none,none,none,none,none]) ?_ ?_
 ·intro N hN;simp only [bT,kf,c8,aI,dC,cg,ai,ak,aa,aL,bc,bB];refine⟨ns,7,rfl,by decide,?_⟩;simp only [eT];refine⟨by decide,vt ?_⟩;simp only [af,if_false,aC];split
  ·refine⟨ns,12,rfl,by decide,?_⟩;simp only [zg,ak,ag,aa,dC,c8,aI,cg,ai,aL,eT,lA];refine⟨by decide,K2.oC g1 (by unfold SZ; lia) ?_⟩;refine⟨ns,13,rfl,by decide,?_⟩;simp only [eT,lA];refine⟨by decide,K2.oC aG (by have:=uS kv 1 (1+i8 ns 12 % 999); unfold SZ; lia) (hN _ _ ⟨_,BQ (BQ nd),?_,aG,rfl⟩)⟩;have h1:=uS kv 1 (1+i8 ns 12 % 999);have h2:=uS (uR kv 1 (1+i8 ns 12 % 999)) 2 (1+i8 ns 13 % 999);lia
  ·exact hN _ _ ⟨kv,nd,by lia,g1,rfl⟩
 clear g1 nd hl;rintro _ G2 ⟨kv,nd,hl,g2,rfl⟩;simp only [kf,c8,sN,ai,ak,ag,aa,aL,bL,aR,aN];refine v3 (mH.ref g2) (by unfold SZ; lia) fun ph ML=>?_;have Lx:=(k8.new (o:=.gT (cN kv)) ML) _ _ g2;have Lu:(cy G2 ph (.gT (cN kv))) ph=some (.gT (cN kv)):=aG;generalize cy G2 ph (.gT (cN kv))=G3 at Lx Lu ⊢;rw [cm];simp only [rz,yq,jg,ai,cg,ak,ag,aa,aL,aj,aq];refine⟨m,rfl,fun p1 xq=>⟨m,rfl,fun p2 zG=>⟨by decide,fun pl r0=>?_⟩⟩⟩;have l1:=k8.new (o:=ob m) xq;have l2:=k8.new (o:=ob m) zG;have l3:=k8.new (o:=.lst [.ref p1,.ref p2]) r0;have a1:=l3 _ _ (l2 _ _ (aG (G:=G3) (a:=p1) (o:=ob m)));have a2:=l3 _ _ (aG (G:=cy G3 p1 (ob m)) (a:=p2) (o:=ob m));have a3:=aG (G:=cy (cy G3 p1 (ob m)) p2 (ob m)) (a:=pl) (o:=.lst [.ref p1,.ref p2]);have HY:=l3 _ _ (l2 _ _ (l1 _ _ Lx));have J7:=l3 _ _ (l2 _ _ (l1 _ _ Lu));generalize cy (cy (cy G3 p1 (ob m)) p2 (ob m)) pl (.lst [.ref p1,.ref p2])=G4 at a1 a2 a3 HY J7 ⊢;rw [Dl a3]
 let T:Option D->Option D->Option D->Option D->Option D->fM:=fun z u v w x=>[some (.dD (ns.map D.int)),some (enc [a,b,c,d]),some (td m),some (.ref pb),z,some (.ref ph),u,v,w,x]
 refine uD (fun pre τ G'=>k8 G4 G'/\∃ z u v w x,τ=T z u v w x) ⟨.refl _,_,_,_,_,_,rfl⟩ (fun _ _ _ h=>h.1 _ _ a3) ?_ ?_
 ·rintro pre x post τ G5 N e ⟨l5,z1,z2,z3,z4,z5,rfl⟩ hN;have hx:∃ p,x=.ref p/\tZ G4 p m:=by
   have:x∈[D.ref p1,D.ref p2]:=by rw [e]; simp
   simp only [zy,u5,or_false] at this;rcases this with rfl | rfl
   ·exact⟨p1,rfl,a1⟩
   ·exact⟨p2,rfl,a2⟩
  obtain⟨p,rfl,ap⟩:=hx;simp only [bL,T];simp only [aR,aN];refine fe (fun τ G'=>k8 G4 G'/\∃ z v w x,τ=T z (some (.ref p)) v w x) ?_ ?_
  ·intro N hN;simp only [bT,sM,i6,bI,dN,dC,bc,if_true,bB,aI,cg,ai,ak,ag,aa,aL,jg,aj,aq,jP];refine qu (l5 _ _ ap) (tells_of ?_);simp only [td,bP,pI,aC,bF,af,if_false];refine⟨p,m,rfl,l5 _ _ ap,⟨by decide,fun pw JQ=>DT (z6 m) aG ?_⟩⟩;simp only [aC,af,if_false];exact hN _ _ ⟨l5.trans (.new JQ),_,_,_,_,rfl⟩
  clear l5;rintro _ G5 ⟨l5,z1,z3,z4,z5,rfl⟩;refine fe (fun τ G'=>k8 G4 G'/\∃ z v w x,τ=T z (some (.ref p)) v w x) ?_ ?_
  ·intro N hN;simp only [rz,qV,dC,oI,T];refine⟨by decide,by decide,?_⟩;refine uD (fun pre τ G'=>k8 G4 G'/\∃ z v w x,τ=T z (some (.ref p)) v w x) ⟨l5,_,_,_,_,rfl⟩ (fun _ _ _ _=>trivial) ?_ ?_
   ·rintro Gs y Lb τ G6 N2 e2 ⟨l6,y1,y3,y4,y5,rfl⟩ Na;obtain⟨rfl,wz⟩:=CF e2;simp only [bL,aR,aN,kf,c8,sN,ai,ak,ag,aa,aL,Aj,fV,jr,T];refine v3 (mH.ref (l6 _ _ HY)) (by unfold SZ; lia) fun pm Ls=>?_;have l7:=k8.new (o:=.gT (cN kv)) Ls;have gm:=aG (G:=G6) (a:=pm) (o:=.gT (cN kv));have Hd:G4 pm=none:=l6.free Ls;simp only [jP,ak,ag,aa,ai,aI,jg,aL,aj,aq,Cz];obtain⟨sp,hm,MS,ok⟩:=CG m kv;refine⟨p,cn m,fl m,sp,rfl,l7 _ _ (l6 _ _ ap),hm,MS,by decide,fun pq MJ=>?_⟩;have l8:=k8.new (o:=.lst [.ref ph,.ref pm]) MJ;have hx:∃ x,mG [D.ref ph,D.ref pm] (0+(Gs.length:Int))=some x/\mH (cy (cy G6 pm (.gT (cN kv))) pq (.lst [.ref ph,.ref pm])) x kv:=by
     have:Gs.length < 2:=wz;rcases Nat.lt_or_ge Gs.length 1 with h | h
     ·have e0:Gs.length=0:=by lia
      rw [e0];exact⟨_,rfl,.ref (l8 _ _ (l7 _ _ (l6 _ _ J7)))⟩
     ·have e0:Gs.length=1:=by lia
      rw [e0];exact⟨_,rfl,.ref (l8 _ _ gm)⟩
    obtain⟨x,ex,px⟩:=hx;refine wY (.ref aG) ex ?_;refine ok _ p x _ (l8 _ _ (l7 _ _ (l6 _ _ ap))) px fun po JR=>?_;have l9:=k8.new (o:=ob (x5 kv m)) JR;have Kn:=l9 _ _ (l8 _ _ gm);have ao:=aG (G:=cy (cy G6 pm (.gT (cN kv))) pq (.lst [.ref ph,.ref pm])) (a:=po) (o:=ob (x5 kv m));have L9:=((l6.trans l7).trans l8).trans l9;have za:po≠pm:=by rintro rfl; rw [l8 _ _ gm] at JR; cases JR
    generalize cy (cy (cy G6 pm (.gT (cN kv))) pq (.lst [.ref ph,.ref pm])) po (ob (x5 kv m))=G9 at Kn ao L9 ⊢;refine⟨eF (mH.ref Kn),?_⟩;simp only [qg,Kn];have KG:k8 G4 (cy G9 pm (.gT [])):=L9.put Hd;have Fp:tZ (cy G9 pm (.gT [])) po (x5 kv m):=by unfold tZ; rw [gj za]; exact ao
    generalize cy G9 pm (.gT [])=OY at KG Fp ⊢;simp only [bT,sM,i6,bI,dN,dC,bc,if_true,bB,aI,cg,ai,ak,ag,aa,aL,jg,aj,aq,jP];refine qu Fp ⟨m,_,kv,rfl,mH.ref (KG _ _ HY),tells_of ?_⟩;simp only [td,bP,pI,aC,bF,af,if_false];refine⟨po,x5 kv m,rfl,Fp,⟨by decide,fun pw JQ=>?_⟩⟩;rw [Eb];refine DT (z6 m) aG ?_;simp only [aC,af,if_false];exact Na _ _ ⟨KG.trans (.new JQ),_,_,_,_,rfl⟩
   ·rintro τ G' h;exact hN _ _ h
  clear l5;rintro _ G5 ⟨l5,z1,z3,z4,z5,rfl⟩;simp only [bT,sM,i6,bI,dN,dC,bc,if_true,bB,aI,ak,ag,aa,cg,ai,jP,aL,T];refine qu (l5 _ _ ap) (tells_of ?_);simp only [aC,bF,af,if_false];refine AE (mH.ref (l5 _ _ J7)) (mH.ref (l5 _ _ HY)) ?_;simp only [Di nd,bF,if_true,aC,af,if_false];exact hN _ _ ⟨l5,_,_,_,_,_,rfl⟩
 ·rintro τ G' ⟨l5,z1,z2,z3,z4,z5,rfl⟩;simp only [bI,dN,dC];exact dZ (q _)
end D1
end K2
end
namespace Fin
open PySem PySem.Spec PyProof.Rows L2 K2
open K2.D1
open K2.Mo
noncomputable def top(i:Nat):Stmt:=PySem.Challenge.pw_knotwise_k26_moves_told_and_renamed.main.body.getD i (.Pass ⟨0,0,0,0⟩)
noncomputable def fi(i j:Nat):Stmt:=match top i with | .ClassDef _ _ _ b _ _ _ _ _ _ _=>b.getD j (.Pass ⟨0,0,0,0⟩) | s=>s
section
open PySem.W PySem.Calls
noncomputable def hC (n:Str) (t:Nat) (l:List Value):Obj:=⟨.type "code",none,.fields (.str n t :: .str n (t+1) :: .str "/claim/cut.py" (t+2) :: l).toArray,#[]⟩
noncomputable def hI(n:Int):Value:=.int n 0
noncomputable def hR(n:Nat):Value:=.ref n
noncomputable def hN:Value:=.none
noncomputable def hT:Value:=.bool true
noncomputable def hS (n:Nat):Value:=.str "/claim/cut.py" n
noncomputable def hD(n:Str)(t:Nat)(l a:Int)(r:Nat)(x y z:Value)(u:Nat):Obj:=hC n t [hI l,hI a,hI 0,hI 0,hI 3,hR r,hT,hI 181,hR (r+1),hN,x,y,z,hI (u - 1),hI l,hS u]
noncomputable abbrev hF (i:Nat) (n:Str) (m c:Value):Obj:=⟨.type "function",none,.func (fZ n n (gq (top i)) (ff (top i)) (aU (top i)) .none .none .none m none c .none),#[]⟩
noncomputable abbrev hM (i j:Nat) (n q:Str) (m c:Value):Obj:=⟨.type "function",none,.func (fZ n q (gq (fi i j)) (ff (fi i j)) (aU (fi i j)) .none .none .none m none c .none),#[]⟩
noncomputable abbrev hE(P:mx)(s:Str)(t:Nat)(v:Value):DictEntry:=⟨PyData.keyHash P s,.str s t,v⟩
noncomputable def hQ:bx:=PySem.W.view PySem.Challenge.pw_knotwise_k26_moves_told_and_renamed [1,2,3,4,5,6,7,9,10,11,12,13,14,15,16,17,19,20,21,22,23,24,26,27,28,29,30,31,32,33,34,35,36,37,38,39,40,41,43,44,45,46,47,48,49,50,51,52,53,54]
noncomputable def hK (P:mx):ah:=(nat_lit 3,⟨(.type "dict"),none,(.dict #[hE P "__name__" 165 (.str "law_knotwise_k26_moves_told_and_renamed" 891),hE P "__doc__" 166 .none,hE P "__package__" 167 .none,hE P "__loader__" 168 (.builtin "__main__.__loader__#opaque"),hE P "__spec__" 169 .none,hE P "__annotations__" 170 (.ref 6),hE P "__builtins__" 171 (.ref 4),hE P "__file__" 173 (.str "/claim/cut.py" 172),hE P "__cached__" 174 .none,hE P "KnotError" 206 (.ref 24),hE P "NoName" 222 (.ref 37),hE P "NameTaken" 238 (.ref 49),hE P "NoSpot" 254 (.ref 61),hE P "TooMany" 270 (.ref 73),hE P "NoFit" 286 (.ref 85),hE P "NoMove" 302 (.ref 97),hE P "MOST_CROSSINGS" 306 (.int 12 305),hE P "passings_of" 315 (.ref 106),hE P "seated" 323 (.ref 113),hE P "seated_rows" 329 (.ref 118),hE P "names_of" 335 (.ref 123),hE P "hand_of" 344 (.ref 130),hE P "spots_on" 350 (.ref 135),hE P "next_of" 361 (.ref 142),hE P "string_of" 371 (.ref 149),hE P "neighbours" 382 (.ref 156),hE P "uncurl_fits" 390 (.ref 163),hE P "part_fits" 400 (.ref 170),hE P "in_turn" 409 (.ref 177),hE P "slide_pairs" 423 (.ref 184),hE P "slide_fits" 429 (.ref 189),hE P "refuse_unknown" 441 (.ref 196),hE P "refuse_unfit" 448 (.ref 203),hE P "refuse_new" 458 (.ref 210),hE P "with_put" 470 (.ref 217),hE P "taken_out" 476 (.ref 222),hE P "spot_ahead" 482 (.ref 227),hE P "first_in_turn" 492 (.ref 234),hE P "with_changed" 498 (.ref 239),hE P "renamed_spot" 506 (.ref 246),hE P "Move" 526 (.ref 256),hE P "Uncurl" 594 (.ref 312),hE P "Curl" 657 (.ref 359),hE P "Part" 731 (.ref 413),hE P "Lay" 811 (.ref 467),hE P "Slide" 883 (.ref 521),hE P "move_of" 890 (.ref 530),hE P "_law_cell_at" 900 (.ref 537),hE P "_law_whole" 907 (.ref 544),hE P "_law_mixed" 914 (.ref 551),hE P "_law_wholes" 923 (.ref 558),hE P "_law_tells" 932 (.ref 565),hE P "_law_by_class" 939 (.ref 572),hE P "_law_words" 947 (.ref 579),hE P "_law_spot_by" 955 (.ref 586),hE P "_law_told_by" 970 (.ref 593),hE P "_law_spot_renamed" 978 (.ref 600),hE P "_law_due" 987 (.ref 607),hE P "law" 993 (.ref 612)] 59),#[]⟩) ::
(nat_lit 15,⟨(.type "tuple"),none,(.seq #[(.type "ValueError")] 0),#[]⟩) ::
(nat_lit 22,⟨(.type "tuple"),none,(.seq #[] 0),#[]⟩) ::
(nat_lit 23,⟨(.type "dict"),none,(.dict #[hE P "__module__" 196 (.str "knotwise.errors" 187),hE P "__firstlineno__" 200 (.int 2 199),hE P "__static_attributes__" 201 (.ref 22),hE P "__weakref__" 203 (.ref 25),hE P "__doc__" 204 .none] 3),#[]⟩) ::
(nat_lit 24,⟨(.type "type"),none,(.cls ⟨"KnotError",[(.type "ValueError")],[(.ref 24),(.type "ValueError"),(.type "Exception"),(.type "BaseException"),(.type "object")],23,"KnotError",.true,[],[(.ref 37),(.ref 49),(.ref 61),(.ref 73),(.ref 85),(.ref 97)],.false,none,.false⟩),#[(some (.ref 15)),none,(some (.str "KnotError" 189)),(some (.str "KnotError" 197)),(some (.builtin "ValueError.__new__")),(some (.bool .true))]⟩) ::
(nat_lit 25,⟨(.type "getset_descriptor"),none,(.fields #[(.str "__weakref__" 202),(.ref 24),(.builtin "ExceptionGroup.__weakref__"),.none]),#[]⟩) ::
(nat_lit 28,⟨(.type "tuple"),none,(.seq #[(.ref 24)] 0),#[]⟩) ::
(nat_lit 35,⟨(.type "tuple"),none,(.seq #[] 0),#[]⟩) ::
(nat_lit 36,⟨(.type "dict"),none,(.dict #[hE P "__module__" 214 (.str "knotwise.errors" 187),hE P "__firstlineno__" 218 (.int 4 217),hE P "__static_attributes__" 219 (.ref 35),hE P "__doc__" 220 .none] 2),#[]⟩) ::
(nat_lit 37,⟨(.type "type"),none,(.cls ⟨"NoName",[(.ref 24)],[(.ref 37),(.ref 24),(.type "ValueError"),(.type "Exception"),(.type "BaseException"),(.type "object")],36,"NoName",.true,[],[],.false,none,.false⟩),#[(some (.ref 28)),none,(some (.str "NoName" 207)),(some (.str "NoName" 215)),(some (.builtin "ValueError.__new__")),(some (.bool .true))]⟩) ::
(nat_lit 40,⟨(.type "tuple"),none,(.seq #[(.ref 24)] 0),#[]⟩) ::
(nat_lit 47,⟨(.type "tuple"),none,(.seq #[] 0),#[]⟩) ::
(nat_lit 48,⟨(.type "dict"),none,(.dict #[hE P "__module__" 230 (.str "knotwise.errors" 187),hE P "__firstlineno__" 234 (.int 6 233),hE P "__static_attributes__" 235 (.ref 47),hE P "__doc__" 236 .none] 2),#[]⟩) ::
(nat_lit 49,⟨(.type "type"),none,(.cls ⟨"NameTaken",[(.ref 24)],[(.ref 49),(.ref 24),(.type "ValueError"),(.type "Exception"),(.type "BaseException"),(.type "object")],48,"NameTaken",.true,[],[],.false,none,.false⟩),#[(some (.ref 40)),none,(some (.str "NameTaken" 223)),(some (.str "NameTaken" 231)),(some (.builtin "ValueError.__new__")),(some (.bool .true))]⟩) ::
(nat_lit 52,⟨(.type "tuple"),none,(.seq #[(.ref 24)] 0),#[]⟩) ::
(nat_lit 59,⟨(.type "tuple"),none,(.seq #[] 0),#[]⟩) ::
(nat_lit 60,⟨(.type "dict"),none,(.dict #[hE P "__module__" 246 (.str "knotwise.errors" 187),hE P "__firstlineno__" 250 (.int 8 249),hE P "__static_attributes__" 251 (.ref 59),hE P "__doc__" 252 .none] 2),#[]⟩) ::
(nat_lit 61,⟨(.type "type"),none,(.cls ⟨"NoSpot",[(.ref 24)],[(.ref 61),(.ref 24),(.type "ValueError"),(.type "Exception"),(.type "BaseException"),(.type "object")],60,"NoSpot",.true,[],[],.false,none,.false⟩),#[(some (.ref 52)),none,(some (.str "NoSpot" 239)),(some (.str "NoSpot" 247)),(some (.builtin "ValueError.__new__")),(some (.bool .true))]⟩) ::
(nat_lit 64,⟨(.type "tuple"),none,(.seq #[(.ref 24)] 0),#[]⟩) ::
(nat_lit 71,⟨(.type "tuple"),none,(.seq #[] 0),#[]⟩) ::
(nat_lit 72,⟨(.type "dict"),none,(.dict #[hE P "__module__" 262 (.str "knotwise.errors" 187),hE P "__firstlineno__" 266 (.int 10 265),hE P "__static_attributes__" 267 (.ref 71),hE P "__doc__" 268 .none] 2),#[]⟩) ::
(nat_lit 73,⟨(.type "type"),none,(.cls ⟨"TooMany",[(.ref 24)],[(.ref 73),(.ref 24),(.type "ValueError"),(.type "Exception"),(.type "BaseException"),(.type "object")],72,"TooMany",.true,[],[],.false,none,.false⟩),#[(some (.ref 64)),none,(some (.str "TooMany" 255)),(some (.str "TooMany" 263)),(some (.builtin "ValueError.__new__")),(some (.bool .true))]⟩) ::
(nat_lit 76,⟨(.type "tuple"),none,(.seq #[(.ref 24)] 0),#[]⟩) ::
(nat_lit 83,⟨(.type "tuple"),none,(.seq #[] 0),#[]⟩) ::
(nat_lit 84,⟨(.type "dict"),none,(.dict #[hE P "__module__" 278 (.str "knotwise.errors" 187),hE P "__firstlineno__" 282 (.int 12 281),hE P "__static_attributes__" 283 (.ref 83),hE P "__doc__" 284 .none] 2),#[]⟩) ::
(nat_lit 85,⟨(.type "type"),none,(.cls ⟨"NoFit",[(.ref 24)],[(.ref 85),(.ref 24),(.type "ValueError"),(.type "Exception"),(.type "BaseException"),(.type "object")],84,"NoFit",.true,[],[],.false,none,.false⟩),#[(some (.ref 76)),none,(some (.str "NoFit" 271)),(some (.str "NoFit" 279)),(some (.builtin "ValueError.__new__")),(some (.bool .true))]⟩) ::
(nat_lit 88,⟨(.type "tuple"),none,(.seq #[(.ref 24)] 0),#[]⟩) ::
(nat_lit 95,⟨(.type "tuple"),none,(.seq #[] 0),#[]⟩) ::
(nat_lit 96,⟨(.type "dict"),none,(.dict #[hE P "__module__" 294 (.str "knotwise.errors" 187),hE P "__firstlineno__" 298 (.int 14 297),hE P "__static_attributes__" 299 (.ref 95),hE P "__doc__" 300 .none] 2),#[]⟩) ::
(nat_lit 97,⟨(.type "type"),none,(.cls ⟨"NoMove",[(.ref 24)],[(.ref 97),(.ref 24),(.type "ValueError"),(.type "Exception"),(.type "BaseException"),(.type "object")],96,"NoMove",.true,[],[],.false,none,.false⟩),#[(some (.ref 88)),none,(some (.str "NoMove" 287)),(some (.str "NoMove" 295)),(some (.builtin "ValueError.__new__")),(some (.bool .true))]⟩) ::
(nat_lit 105,hD "passings_of" 307 18 1 100 (hR 102) (hR 103) (hR 104) 314) ::
(nat_lit 106,hF 10 "passings_of" (.str "knotwise.drawings" 303) (.ref 105)) ::
(nat_lit 112,hD "seated" 316 23 1 107 (hR 109) (hR 110) (hR 111) 322) ::
(nat_lit 113,hF 11 "seated" (.str "knotwise.drawings" 303) (.ref 112)) ::
(nat_lit 117,hD "seated_rows" 324 28 1 114 hN hN (hR 116) 328) ::
(nat_lit 118,hF 12 "seated_rows" (.str "knotwise.drawings" 303) (.ref 117)) ::
(nat_lit 122,hD "names_of" 330 30 1 119 hN hN (hR 121) 334) ::
(nat_lit 123,hF 13 "names_of" (.str "knotwise.drawings" 303) (.ref 122)) ::
(nat_lit 129,hD "hand_of" 336 32 2 124 (hR 126) (hR 127) (hR 128) 343) ::
(nat_lit 130,hF 14 "hand_of" (.str "knotwise.drawings" 303) (.ref 129)) ::
(nat_lit 134,hD "spots_on" 345 37 2 131 hN hN (hR 133) 349) ::
(nat_lit 135,hF 15 "spots_on" (.str "knotwise.drawings" 303) (.ref 134)) ::
(nat_lit 141,hD "next_of" 351 41 1 136 (hR 138) (hR 139) (hR 140) 360) ::
(nat_lit 142,hF 16 "next_of" (.str "knotwise.drawings" 303) (.ref 141)) ::
(nat_lit 148,hD "string_of" 362 47 2 143 (hR 145) (hR 146) (hR 147) 370) ::
(nat_lit 149,hF 17 "string_of" (.str "knotwise.drawings" 303) (.ref 148)) ::
(nat_lit 155,hD "neighbours" 374 53 3 150 (hR 152) (hR 153) (hR 154) 381) ::
(nat_lit 156,hF 19 "neighbours" (.str "knotwise.fits" 372) (.ref 155)) ::
(nat_lit 162,hD "uncurl_fits" 383 55 2 157 (hR 159) (hR 160) (hR 161) 389) ::
(nat_lit 163,hF 20 "uncurl_fits" (.str "knotwise.fits" 372) (.ref 162)) ::
(nat_lit 169,hD "part_fits" 391 57 3 164 (hR 166) (hR 167) (hR 168) 399) ::
(nat_lit 170,hF 21 "part_fits" (.str "knotwise.fits" 372) (.ref 169)) ::
(nat_lit 176,hD "in_turn" 401 62 3 171 (hR 173) (hR 174) (hR 175) 408) ::
(nat_lit 177,hF 22 "in_turn" (.str "knotwise.fits" 372) (.ref 176)) ::
(nat_lit 183,hD "slide_pairs" 410 66 5 178 (hR 180) (hR 181) (hR 182) 422) ::
(nat_lit 184,hF 23 "slide_pairs" (.str "knotwise.fits" 372) (.ref 183)) ::
(nat_lit 188,hD "slide_fits" 424 71 5 185 hN hN (hR 187) 428) ::
(nat_lit 189,hF 24 "slide_fits" (.str "knotwise.fits" 372) (.ref 188)) ::
(nat_lit 195,hD "refuse_unknown" 432 77 2 190 (hR 192) (hR 193) (hR 194) 440) ::
(nat_lit 196,hF 26 "refuse_unknown" (.str "knotwise.moves" 430) (.ref 195)) ::
(nat_lit 202,hD "refuse_unfit" 442 82 1 197 (hR 199) (hR 200) (hR 201) 447) ::
(nat_lit 203,hF 27 "refuse_unfit" (.str "knotwise.moves" 430) (.ref 202)) ::
(nat_lit 209,hD "refuse_new" 449 85 2 204 (hR 206) (hR 207) (hR 208) 457) ::
(nat_lit 210,hF 28 "refuse_new" (.str "knotwise.moves" 430) (.ref 209)) ::
(nat_lit 216,hD "with_put" 459 93 3 211 (hR 213) (hR 214) (hR 215) 469) ::
(nat_lit 217,hF 29 "with_put" (.str "knotwise.moves" 430) (.ref 216)) ::
(nat_lit 221,hD "taken_out" 471 99 2 218 hN hN (hR 220) 475) ::
(nat_lit 222,hF 30 "taken_out" (.str "knotwise.moves" 430) (.ref 221)) ::
(nat_lit 226,hD "spot_ahead" 477 104 3 223 hN hN (hR 225) 481) ::
(nat_lit 227,hF 31 "spot_ahead" (.str "knotwise.moves" 430) (.ref 226)) ::
(nat_lit 233,hD "first_in_turn" 483 112 4 228 (hR 230) (hR 231) (hR 232) 491) ::
(nat_lit 234,hF 32 "first_in_turn" (.str "knotwise.moves" 430) (.ref 233)) ::
(nat_lit 238,hD "with_changed" 493 116 2 235 hN hN (hR 237) 497) ::
(nat_lit 239,hF 33 "with_changed" (.str "knotwise.moves" 430) (.ref 238)) ::
(nat_lit 245,hD "renamed_spot" 499 126 2 240 (hR 242) (hR 243) (hR 244) 505) ::
(nat_lit 246,hF 34 "renamed_spot" (.str "knotwise.moves" 430) (.ref 245)) ::
(nat_lit 254,⟨(.type "tuple"),none,(.seq #[] 0),#[]⟩) ::
(nat_lit 255,⟨(.type "dict"),none,(.dict #[hE P "__module__" 514 (.str "knotwise.moves" 430),hE P "__firstlineno__" 518 (.int 130 517),hE P "__static_attributes__" 519 (.ref 254),hE P "__dict__" 521 (.ref 257),hE P "__weakref__" 523 (.ref 258),hE P "__doc__" 524 .none] 4),#[]⟩) ::
(nat_lit 256,⟨(.type "type"),none,(.cls ⟨"Move",[(.type "object")],[(.ref 256),(.type "object")],255,"Move",.true,[],[(.ref 312),(.ref 359),(.ref 413),(.ref 467),(.ref 521)],.false,none,.false⟩),#[none,none,(some (.str "Move" 507)),(some (.str "Move" 515)),(some (.builtin "object.__new__")),(some (.bool .true))]⟩) ::
(nat_lit 257,⟨(.type "getset_descriptor"),none,(.fields #[(.str "__dict__" 520),(.ref 256),(.builtin "function.__dict__"),(.builtin "function.__dict__#set")]),#[]⟩) ::
(nat_lit 258,⟨(.type "getset_descriptor"),none,(.fields #[(.str "__weakref__" 522),(.ref 256),(.builtin "ExceptionGroup.__weakref__"),.none]),#[]⟩) ::
(nat_lit 261,⟨(.type "tuple"),none,(.seq #[(.ref 256)] 0),#[]⟩) ::
(nat_lit 273,⟨(.type "code"),none,(.fields #[(.str "__init__" 539),(.str "Uncurl.__init__" 540),(.str "/claim/cut.py" 541),(.int 134 0),(.int 2 0),(.int 0 0),(.int 0 0),(.int 3 0),(.ref 268),(.bool .true),(.int 181 0),(.ref 269),.none,(.ref 270),(.ref 271),(.ref 272),(.int 544 0),(.int 134 0),(.str "/claim/cut.py" 545)]),#[]⟩) ::
(nat_lit 274,hM 36 0 "__init__" "Uncurl.__init__" (.str "knotwise.moves" 430) (.ref 273)) ::
(nat_lit 280,⟨(.type "code"),none,(.fields #[(.str "told" 547),(.str "Uncurl.told" 548),(.str "/claim/cut.py" 549),(.int 137 0),(.int 1 0),(.int 0 0),(.int 0 0),(.int 3 0),(.ref 275),(.bool .true),(.int 181 0),(.ref 276),.none,(.ref 277),(.ref 278),(.ref 279),(.int 551 0),(.int 137 0),(.str "/claim/cut.py" 552)]),#[]⟩) ::
(nat_lit 281,hM 36 1 "told" "Uncurl.told" (.str "knotwise.moves" 430) (.ref 280)) ::
(nat_lit 287,⟨(.type "code"),none,(.fields #[(.str "refuse" 554),(.str "Uncurl.refuse" 555),(.str "/claim/cut.py" 556),(.int 140 0),(.int 2 0),(.int 0 0),(.int 0 0),(.int 3 0),(.ref 282),(.bool .true),(.int 181 0),(.ref 283),.none,(.ref 284),(.ref 285),(.ref 286),(.int 559 0),(.int 140 0),(.str "/claim/cut.py" 560)]),#[]⟩) ::
(nat_lit 288,hM 36 2 "refuse" "Uncurl.refuse" (.str "knotwise.moves" 430) (.ref 287)) ::
(nat_lit 294,⟨(.type "code"),none,(.fields #[(.str "done" 562),(.str "Uncurl.done" 563),(.str "/claim/cut.py" 564),(.int 144 0),(.int 2 0),(.int 0 0),(.int 0 0),(.int 3 0),(.ref 289),(.bool .true),(.int 181 0),(.ref 290),.none,(.ref 291),(.ref 292),(.ref 293),(.int 567 0),(.int 144 0),(.str "/claim/cut.py" 568)]),#[]⟩) ::
(nat_lit 295,hM 36 3 "done" "Uncurl.done" (.str "knotwise.moves" 430) (.ref 294)) ::
(nat_lit 301,⟨(.type "code"),none,(.fields #[(.str "back" 570),(.str "Uncurl.back" 571),(.str "/claim/cut.py" 572),(.int 148 0),(.int 2 0),(.int 0 0),(.int 0 0),(.int 3 0),(.ref 296),(.bool .true),(.int 181 0),(.ref 297),.none,(.ref 298),(.ref 299),(.ref 300),(.int 579 0),(.int 148 0),(.str "/claim/cut.py" 580)]),#[]⟩) ::
(nat_lit 302,hM 36 4 "back" "Uncurl.back" (.str "knotwise.moves" 430) (.ref 301)) ::
(nat_lit 308,⟨(.type "code"),none,(.fields #[(.str "renamed" 582),(.str "Uncurl.renamed" 583),(.str "/claim/cut.py" 584),(.int 156 0),(.int 2 0),(.int 0 0),(.int 0 0),(.int 3 0),(.ref 303),(.bool .true),(.int 181 0),(.ref 304),.none,(.ref 305),(.ref 306),(.ref 307),(.int 587 0),(.int 156 0),(.str "/claim/cut.py" 588)]),#[]⟩) ::
(nat_lit 309,hM 36 5 "renamed" "Uncurl.renamed" (.str "knotwise.moves" 430) (.ref 308)) ::
(nat_lit 310,⟨(.type "tuple"),none,(.seq #[(.str "name" 590)] 0),#[]⟩) ::
(nat_lit 311,⟨(.type "dict"),none,(.dict #[hE P "__module__" 534 (.str "knotwise.moves" 430),hE P "__firstlineno__" 538 (.int 132 537),hE P "__init__" 546 (.ref 274),hE P "told" 553 (.ref 281),hE P "refuse" 561 (.ref 288),hE P "done" 569 (.ref 295),hE P "back" 581 (.ref 302),hE P "renamed" 589 (.ref 309),hE P "__static_attributes__" 591 (.ref 310),hE P "__doc__" 592 .none] 2),#[]⟩) ::
(nat_lit 312,⟨(.type "type"),none,(.cls ⟨"Uncurl",[(.ref 256)],[(.ref 312),(.ref 256),(.type "object")],311,"Uncurl",.true,[],[],.false,none,.false⟩),#[(some (.ref 261)),none,(some (.str "Uncurl" 527)),(some (.str "Uncurl" 535)),(some (.builtin "object.__new__")),(some (.bool .true))]⟩) ::
(nat_lit 315,⟨(.type "tuple"),none,(.seq #[(.ref 256)] 0),#[]⟩) ::
(nat_lit 327,⟨(.type "code"),none,(.fields #[(.str "__init__" 607),(.str "Curl.__init__" 608),(.str "/claim/cut.py" 609),(.int 160 0),(.int 5 0),(.int 0 0),(.int 0 0),(.int 3 0),(.ref 322),(.bool .true),(.int 181 0),(.ref 323),.none,(.ref 324),(.ref 325),(.ref 326),(.int 615 0),(.int 160 0),(.str "/claim/cut.py" 616)]),#[]⟩) ::
(nat_lit 328,hM 37 0 "__init__" "Curl.__init__" (.str "knotwise.moves" 430) (.ref 327)) ::
(nat_lit 334,⟨(.type "code"),none,(.fields #[(.str "told" 618),(.str "Curl.told" 619),(.str "/claim/cut.py" 620),(.int 166 0),(.int 1 0),(.int 0 0),(.int 0 0),(.int 3 0),(.ref 329),(.bool .true),(.int 181 0),(.ref 330),.none,(.ref 331),(.ref 332),(.ref 333),(.int 622 0),(.int 166 0),(.str "/claim/cut.py" 623)]),#[]⟩) ::
(nat_lit 335,hM 37 1 "told" "Curl.told" (.str "knotwise.moves" 430) (.ref 334)) ::
(nat_lit 341,⟨(.type "code"),none,(.fields #[(.str "done" 625),(.str "Curl.done" 626),(.str "/claim/cut.py" 627),(.int 169 0),(.int 2 0),(.int 0 0),(.int 0 0),(.int 3 0),(.ref 336),(.bool .true),(.int 181 0),(.ref 337),.none,(.ref 338),(.ref 339),(.ref 340),(.int 631 0),(.int 169 0),(.str "/claim/cut.py" 632)]),#[]⟩) ::
(nat_lit 342,hM 37 2 "done" "Curl.done" (.str "knotwise.moves" 430) (.ref 341)) ::
(nat_lit 348,⟨(.type "code"),none,(.fields #[(.str "back" 634),(.str "Curl.back" 635),(.str "/claim/cut.py" 636),(.int 174 0),(.int 2 0),(.int 0 0),(.int 0 0),(.int 3 0),(.ref 343),(.bool .true),(.int 181 0),(.ref 344),.none,(.ref 345),(.ref 346),(.ref 347),(.int 639 0),(.int 174 0),(.str "/claim/cut.py" 640)]),#[]⟩) ::
(nat_lit 349,hM 37 3 "back" "Curl.back" (.str "knotwise.moves" 430) (.ref 348)) ::
(nat_lit 355,⟨(.type "code"),none,(.fields #[(.str "renamed" 642),(.str "Curl.renamed" 643),(.str "/claim/cut.py" 644),(.int 178 0),(.int 2 0),(.int 0 0),(.int 0 0),(.int 3 0),(.ref 350),(.bool .true),(.int 181 0),(.ref 351),.none,(.ref 352),(.ref 353),(.ref 354),(.int 647 0),(.int 178 0),(.str "/claim/cut.py" 648)]),#[]⟩) ::
(nat_lit 356,hM 37 4 "renamed" "Curl.renamed" (.str "knotwise.moves" 430) (.ref 355)) ::
(nat_lit 357,⟨(.type "tuple"),none,(.seq #[(.str "first" 650),(.str "hand" 651),(.str "name" 652),(.str "spot" 653)] 0),#[]⟩) ::
(nat_lit 358,⟨(.type "dict"),none,(.dict #[hE P "__module__" 602 (.str "knotwise.moves" 430),hE P "__firstlineno__" 606 (.int 158 605),hE P "__init__" 617 (.ref 328),hE P "told" 624 (.ref 335),hE P "done" 633 (.ref 342),hE P "back" 641 (.ref 349),hE P "renamed" 649 (.ref 356),hE P "__static_attributes__" 654 (.ref 357),hE P "__doc__" 655 .none] 2),#[]⟩) ::
(nat_lit 359,⟨(.type "type"),none,(.cls ⟨"Curl",[(.ref 256)],[(.ref 359),(.ref 256),(.type "object")],358,"Curl",.true,[],[],.false,none,.false⟩),#[(some (.ref 315)),none,(some (.str "Curl" 595)),(some (.str "Curl" 603)),(some (.builtin "object.__new__")),(some (.bool .true))]⟩) ::
(nat_lit 362,⟨(.type "tuple"),none,(.seq #[(.ref 256)] 0),#[]⟩) ::
(nat_lit 374,⟨(.type "code"),none,(.fields #[(.str "__init__" 670),(.str "Part.__init__" 671),(.str "/claim/cut.py" 672),(.int 182 0),(.int 3 0),(.int 0 0),(.int 0 0),(.int 3 0),(.ref 369),(.bool .true),(.int 181 0),(.ref 370),.none,(.ref 371),(.ref 372),(.ref 373),(.int 676 0),(.int 182 0),(.str "/claim/cut.py" 677)]),#[]⟩) ::
(nat_lit 375,hM 38 0 "__init__" "Part.__init__" (.str "knotwise.moves" 430) (.ref 374)) ::
(nat_lit 381,⟨(.type "code"),none,(.fields #[(.str "told" 679),(.str "Part.told" 680),(.str "/claim/cut.py" 681),(.int 186 0),(.int 1 0),(.int 0 0),(.int 0 0),(.int 3 0),(.ref 376),(.bool .true),(.int 181 0),(.ref 377),.none,(.ref 378),(.ref 379),(.ref 380),(.int 683 0),(.int 186 0),(.str "/claim/cut.py" 684)]),#[]⟩) ::
(nat_lit 382,hM 38 1 "told" "Part.told" (.str "knotwise.moves" 430) (.ref 381)) ::
(nat_lit 388,⟨(.type "code"),none,(.fields #[(.str "refuse" 686),(.str "Part.refuse" 687),(.str "/claim/cut.py" 688),(.int 189 0),(.int 2 0),(.int 0 0),(.int 0 0),(.int 3 0),(.ref 383),(.bool .true),(.int 181 0),(.ref 384),.none,(.ref 385),(.ref 386),(.ref 387),(.int 691 0),(.int 189 0),(.str "/claim/cut.py" 692)]),#[]⟩) ::
(nat_lit 389,hM 38 2 "refuse" "Part.refuse" (.str "knotwise.moves" 430) (.ref 388)) ::
(nat_lit 395,⟨(.type "code"),none,(.fields #[(.str "done" 694),(.str "Part.done" 695),(.str "/claim/cut.py" 696),(.int 193 0),(.int 2 0),(.int 0 0),(.int 0 0),(.int 3 0),(.ref 390),(.bool .true),(.int 181 0),(.ref 391),.none,(.ref 392),(.ref 393),(.ref 394),(.int 699 0),(.int 193 0),(.str "/claim/cut.py" 700)]),#[]⟩) ::
(nat_lit 396,hM 38 3 "done" "Part.done" (.str "knotwise.moves" 430) (.ref 395)) ::
(nat_lit 402,⟨(.type "code"),none,(.fields #[(.str "back" 702),(.str "Part.back" 703),(.str "/claim/cut.py" 704),(.int 197 0),(.int 2 0),(.int 0 0),(.int 0 0),(.int 3 0),(.ref 397),(.bool .true),(.int 181 0),(.ref 398),.none,(.ref 399),(.ref 400),(.ref 401),(.int 715 0),(.int 197 0),(.str "/claim/cut.py" 716)]),#[]⟩) ::
(nat_lit 403,hM 38 4 "back" "Part.back" (.str "knotwise.moves" 430) (.ref 402)) ::
(nat_lit 409,⟨(.type "code"),none,(.fields #[(.str "renamed" 718),(.str "Part.renamed" 719),(.str "/claim/cut.py" 720),(.int 209 0),(.int 2 0),(.int 0 0),(.int 0 0),(.int 3 0),(.ref 404),(.bool .true),(.int 181 0),(.ref 405),.none,(.ref 406),(.ref 407),(.ref 408),(.int 723 0),(.int 209 0),(.str "/claim/cut.py" 724)]),#[]⟩) ::
(nat_lit 410,hM 38 5 "renamed" "Part.renamed" (.str "knotwise.moves" 430) (.ref 409)) ::
(nat_lit 411,⟨(.type "tuple"),none,(.seq #[(.str "name" 726),(.str "second" 727)] 0),#[]⟩) ::
(nat_lit 412,⟨(.type "dict"),none,(.dict #[hE P "__module__" 665 (.str "knotwise.moves" 430),hE P "__firstlineno__" 669 (.int 180 668),hE P "__init__" 678 (.ref 375),hE P "told" 685 (.ref 382),hE P "refuse" 693 (.ref 389),hE P "done" 701 (.ref 396),hE P "back" 717 (.ref 403),hE P "renamed" 725 (.ref 410),hE P "__static_attributes__" 728 (.ref 411),hE P "__doc__" 729 .none] 2),#[]⟩) ::
(nat_lit 413,⟨(.type "type"),none,(.cls ⟨"Part",[(.ref 256)],[(.ref 413),(.ref 256),(.type "object")],412,"Part",.true,[],[],.false,none,.false⟩),#[(some (.ref 362)),none,(some (.str "Part" 658)),(some (.str "Part" 666)),(some (.builtin "object.__new__")),(some (.bool .true))]⟩) ::
(nat_lit 416,⟨(.type "tuple"),none,(.seq #[(.ref 256)] 0),#[]⟩) ::
(nat_lit 428,⟨(.type "code"),none,(.fields #[(.str "__init__" 744),(.str "Lay.__init__" 745),(.str "/claim/cut.py" 746),(.int 213 0),(.int 7 0),(.int 0 0),(.int 0 0),(.int 3 0),(.ref 423),(.bool .true),(.int 181 0),(.ref 424),.none,(.ref 425),(.ref 426),(.ref 427),(.int 754 0),(.int 213 0),(.str "/claim/cut.py" 755)]),#[]⟩) ::
(nat_lit 429,hM 39 0 "__init__" "Lay.__init__" (.str "knotwise.moves" 430) (.ref 428)) ::
(nat_lit 435,⟨(.type "code"),none,(.fields #[(.str "told" 757),(.str "Lay.told" 758),(.str "/claim/cut.py" 759),(.int 221 0),(.int 1 0),(.int 0 0),(.int 0 0),(.int 3 0),(.ref 430),(.bool .true),(.int 181 0),(.ref 431),.none,(.ref 432),(.ref 433),(.ref 434),(.int 761 0),(.int 221 0),(.str "/claim/cut.py" 762)]),#[]⟩) ::
(nat_lit 436,hM 39 1 "told" "Lay.told" (.str "knotwise.moves" 430) (.ref 435)) ::
(nat_lit 442,⟨(.type "code"),none,(.fields #[(.str "passings" 764),(.str "Lay.passings" 765),(.str "/claim/cut.py" 766),(.int 224 0),(.int 2 0),(.int 0 0),(.int 0 0),(.int 3 0),(.ref 437),(.bool .true),(.int 181 0),(.ref 438),.none,(.ref 439),(.ref 440),(.ref 441),(.int 769 0),(.int 224 0),(.str "/claim/cut.py" 770)]),#[]⟩) ::
(nat_lit 443,hM 39 2 "passings" "Lay.passings" (.str "knotwise.moves" 430) (.ref 442)) ::
(nat_lit 449,⟨(.type "code"),none,(.fields #[(.str "done" 772),(.str "Lay.done" 773),(.str "/claim/cut.py" 774),(.int 227 0),(.int 2 0),(.int 0 0),(.int 0 0),(.int 3 0),(.ref 444),(.bool .true),(.int 181 0),(.ref 445),.none,(.ref 446),(.ref 447),(.ref 448),(.int 779 0),(.int 227 0),(.str "/claim/cut.py" 780)]),#[]⟩) ::
(nat_lit 450,hM 39 3 "done" "Lay.done" (.str "knotwise.moves" 430) (.ref 449)) ::
(nat_lit 456,⟨(.type "code"),none,(.fields #[(.str "back" 782),(.str "Lay.back" 783),(.str "/claim/cut.py" 784),(.int 235 0),(.int 2 0),(.int 0 0),(.int 0 0),(.int 3 0),(.ref 451),(.bool .true),(.int 181 0),(.ref 452),.none,(.ref 453),(.ref 454),(.ref 455),(.int 787 0),(.int 235 0),(.str "/claim/cut.py" 788)]),#[]⟩) ::
(nat_lit 457,hM 39 4 "back" "Lay.back" (.str "knotwise.moves" 430) (.ref 456)) ::
(nat_lit 463,⟨(.type "code"),none,(.fields #[(.str "renamed" 790),(.str "Lay.renamed" 791),(.str "/claim/cut.py" 792),(.int 239 0),(.int 2 0),(.int 0 0),(.int 0 0),(.int 3 0),(.ref 458),(.bool .true),(.int 181 0),(.ref 459),.none,(.ref 460),(.ref 461),(.ref 462),(.int 799 0),(.int 239 0),(.str "/claim/cut.py" 800)]),#[]⟩) ::
(nat_lit 464,hM 39 5 "renamed" "Lay.renamed" (.str "knotwise.moves" 430) (.ref 463)) ::
(nat_lit 465,⟨(.type "tuple"),none,(.seq #[(.str "hand" 802),(.str "name" 803),(.str "over" 804),(.str "second" 805),(.str "turned" 806),(.str "under" 807)] 0),#[]⟩) ::
(nat_lit 466,⟨(.type "dict"),none,(.dict #[hE P "__module__" 739 (.str "knotwise.moves" 430),hE P "__firstlineno__" 743 (.int 211 742),hE P "__init__" 756 (.ref 429),hE P "told" 763 (.ref 436),hE P "passings" 771 (.ref 443),hE P "done" 781 (.ref 450),hE P "back" 789 (.ref 457),hE P "renamed" 801 (.ref 464),hE P "__static_attributes__" 808 (.ref 465),hE P "__doc__" 809 .none] 2),#[]⟩) ::
(nat_lit 467,⟨(.type "type"),none,(.cls ⟨"Lay",[(.ref 256)],[(.ref 467),(.ref 256),(.type "object")],466,"Lay",.true,[],[],.false,none,.false⟩),#[(some (.ref 416)),none,(some (.str "Lay" 732)),(some (.str "Lay" 740)),(some (.builtin "object.__new__")),(some (.bool .true))]⟩) ::
(nat_lit 470,⟨(.type "tuple"),none,(.seq #[(.ref 256)] 0),#[]⟩) ::
(nat_lit 482,⟨(.type "code"),none,(.fields #[(.str "__init__" 824),(.str "Slide.__init__" 825),(.str "/claim/cut.py" 826),(.int 247 0),(.int 5 0),(.int 0 0),(.int 0 0),(.int 3 0),(.ref 477),(.bool .true),(.int 181 0),(.ref 478),.none,(.ref 479),(.ref 480),(.ref 481),(.int 832 0),(.int 247 0),(.str "/claim/cut.py" 833)]),#[]⟩) ::
(nat_lit 483,hM 40 0 "__init__" "Slide.__init__" (.str "knotwise.moves" 430) (.ref 482)) ::
(nat_lit 489,⟨(.type "code"),none,(.fields #[(.str "told" 835),(.str "Slide.told" 836),(.str "/claim/cut.py" 837),(.int 253 0),(.int 1 0),(.int 0 0),(.int 0 0),(.int 3 0),(.ref 484),(.bool .true),(.int 181 0),(.ref 485),.none,(.ref 486),(.ref 487),(.ref 488),(.int 839 0),(.int 253 0),(.str "/claim/cut.py" 840)]),#[]⟩) ::
(nat_lit 490,hM 40 1 "told" "Slide.told" (.str "knotwise.moves" 430) (.ref 489)) ::
(nat_lit 496,⟨(.type "code"),none,(.fields #[(.str "refuse" 842),(.str "Slide.refuse" 843),(.str "/claim/cut.py" 844),(.int 256 0),(.int 2 0),(.int 0 0),(.int 0 0),(.int 3 0),(.ref 491),(.bool .true),(.int 181 0),(.ref 492),.none,(.ref 493),(.ref 494),(.ref 495),(.int 847 0),(.int 256 0),(.str "/claim/cut.py" 848)]),#[]⟩) ::
(nat_lit 497,hM 40 2 "refuse" "Slide.refuse" (.str "knotwise.moves" 430) (.ref 496)) ::
(nat_lit 503,⟨(.type "code"),none,(.fields #[(.str "done" 850),(.str "Slide.done" 851),(.str "/claim/cut.py" 852),(.int 260 0),(.int 2 0),(.int 0 0),(.int 0 0),(.int 3 0),(.ref 498),(.bool .true),(.int 181 0),(.ref 499),.none,(.ref 500),(.ref 501),(.ref 502),(.int 855 0),(.int 260 0),(.str "/claim/cut.py" 856)]),#[]⟩) ::
(nat_lit 504,hM 40 3 "done" "Slide.done" (.str "knotwise.moves" 430) (.ref 503)) ::
(nat_lit 510,⟨(.type "code"),none,(.fields #[(.str "back" 858),(.str "Slide.back" 859),(.str "/claim/cut.py" 860),(.int 264 0),(.int 2 0),(.int 0 0),(.int 0 0),(.int 3 0),(.ref 505),(.bool .true),(.int 181 0),(.ref 506),.none,(.ref 507),(.ref 508),(.ref 509),(.int 863 0),(.int 264 0),(.str "/claim/cut.py" 864)]),#[]⟩) ::
(nat_lit 511,hM 40 4 "back" "Slide.back" (.str "knotwise.moves" 430) (.ref 510)) ::
(nat_lit 517,⟨(.type "code"),none,(.fields #[(.str "renamed" 866),(.str "Slide.renamed" 867),(.str "/claim/cut.py" 868),(.int 268 0),(.int 2 0),(.int 0 0),(.int 0 0),(.int 3 0),(.ref 512),(.bool .true),(.int 181 0),(.ref 513),.none,(.ref 514),(.ref 515),(.ref 516),(.int 873 0),(.int 268 0),(.str "/claim/cut.py" 874)]),#[]⟩) ::
(nat_lit 518,hM 40 5 "renamed" "Slide.renamed" (.str "knotwise.moves" 430) (.ref 517)) ::
(nat_lit 519,⟨(.type "tuple"),none,(.seq #[(.str "name" 876),(.str "second" 877),(.str "third" 878),(.str "turn" 879)] 0),#[]⟩) ::
(nat_lit 520,⟨(.type "dict"),none,(.dict #[hE P "__module__" 819 (.str "knotwise.moves" 430),hE P "__firstlineno__" 823 (.int 245 822),hE P "__init__" 834 (.ref 483),hE P "told" 841 (.ref 490),hE P "refuse" 849 (.ref 497),hE P "done" 857 (.ref 504),hE P "back" 865 (.ref 511),hE P "renamed" 875 (.ref 518),hE P "__static_attributes__" 880 (.ref 519),hE P "__doc__" 881 .none] 2),#[]⟩) ::
(nat_lit 521,⟨(.type "type"),none,(.cls ⟨"Slide",[(.ref 256)],[(.ref 521),(.ref 256),(.type "object")],520,"Slide",.true,[],[],.false,none,.false⟩),#[(some (.ref 470)),none,(some (.str "Slide" 812)),(some (.str "Slide" 820)),(some (.builtin "object.__new__")),(some (.bool .true))]⟩) ::
(nat_lit 529,hD "move_of" 884 272 1 524 (hR 526) (hR 527) (hR 528) 889) ::
(nat_lit 530,hF 41 "move_of" (.str "knotwise.moves" 430) (.ref 529)) ::
(nat_lit 536,hD "_law_cell_at" 893 285 2 531 (hR 533) (hR 534) (hR 535) 899) ::
(nat_lit 537,hF 43 "_law_cell_at" (.str "law_knotwise_k26_moves_told_and_renamed" 891) (.ref 536)) ::
(nat_lit 543,hD "_law_whole" 901 289 1 538 (hR 540) (hR 541) (hR 542) 906) ::
(nat_lit 544,hF 44 "_law_whole" (.str "law_knotwise_k26_moves_told_and_renamed" 891) (.ref 543)) ::
(nat_lit 557,hD "_law_wholes" 915 293 2 552 (hR 554) (hR 555) (hR 556) 922) ::
(nat_lit 558,hF 46 "_law_wholes" (.str "law_knotwise_k26_moves_told_and_renamed" 891) (.ref 557)) ::
(nat_lit 564,hD "_law_tells" 924 300 2 559 (hR 561) (hR 562) (hR 563) 931) ::
(nat_lit 565,hF 47 "_law_tells" (.str "law_knotwise_k26_moves_told_and_renamed" 891) (.ref 564)) ::
(nat_lit 571,hD "_law_by_class" 933 312 1 566 (hR 568) (hR 569) (hR 570) 938) ::
(nat_lit 572,hF 48 "_law_by_class" (.str "law_knotwise_k26_moves_told_and_renamed" 891) (.ref 571)) ::
(nat_lit 578,hD "_law_words" 940 322 1 573 (hR 575) (hR 576) (hR 577) 946) ::
(nat_lit 579,hF 49 "_law_words" (.str "law_knotwise_k26_moves_told_and_renamed" 891) (.ref 578)) ::
(nat_lit 585,hD "_law_spot_by" 948 337 2 580 (hR 582) (hR 583) (hR 584) 954) ::
(nat_lit 586,hF 50 "_law_spot_by" (.str "law_knotwise_k26_moves_told_and_renamed" 891) (.ref 585)) ::
(nat_lit 592,hD "_law_told_by" 956 341 2 587 (hR 589) (hR 590) (hR 591) 969) ::
(nat_lit 593,hF 51 "_law_told_by" (.str "law_knotwise_k26_moves_told_and_renamed" 891) (.ref 592)) ::
(nat_lit 599,hD "_law_spot_renamed" 971 356 2 594 (hR 596) (hR 597) (hR 598) 977) ::
(nat_lit 600,hF 52 "_law_spot_renamed" (.str "law_knotwise_k26_moves_told_and_renamed" 891) (.ref 599)) ::
(nat_lit 606,hD "_law_due" 979 360 2 601 (hR 603) (hR 604) (hR 605) 986) ::
(nat_lit 607,hF 53 "_law_due" (.str "law_knotwise_k26_moves_told_and_renamed" 891) (.ref 606)) ::
(nat_lit 611,hD "law" 988 371 1 608 hN hN (hR 610) 992) ::
(nat_lit 612,hF 54 "law" (.str "law_knotwise_k26_moves_told_and_renamed" 891) (.ref 611)) :: []
noncomputable def hA:List Addr:=[3,15,22,23,24,25,28,35,36,37,40,47,48,49,52,59,60,61,64,71,72,73,76,83,84,85,88,95,96,97,105,106,112,113,117,118,122,123,129,130,134,135,141,142,148,149,155,156,162,163,169,170,176,177,183,184,188,189,195,196,202,203,209,210,216,217,221,222,226,227,233,234,238,239,245,246,254,255,256,257,258,261,273,274,280,281,287,288,294,295,301,302,308,309,310,311,312,315,327,328,334,335,341,342,348,349,355,356,357,358,359,362,374,375,381,382,388,389,395,396,402,403,409,410,411,412,413,416,428,429,435,436,442,443,449,450,456,457,463,464,465,466,467,470,482,483,489,490,496,497,503,504,510,511,517,518,519,520,521,529,530,536,537,543,544,557,558,564,565,571,572,578,579,585,586,592,593,599,600,606,607,611,612]
noncomputable abbrev hG(st:Stmt)(n q:Str)(g b:Addr):Obj:=⟨.none,none,.func ⟨n,q,gq st,.stmts (ff st),aU st,g,[],.none,.none,.none,.none,none,.none,.none,b⟩,#[]⟩
noncomputable def cE:Env:={ scope:=PySem.Challenge.rw_knotwise_k26_moves_told_and_renamed.row.prog.main.scope,locals:=mainNs,globals:=mainNs,cells:=[],code:=(.ref 13),frame:=some 14 }
noncomputable def cB:List Stmt:=behindTheImports PySem.Challenge.rw_knotwise_k26_moves_told_and_renamed.row.prog
noncomputable def cC:Code:=.body cB cE
noncomputable def cQ:Pos:=⟨0,0,0,0⟩
noncomputable def N7(P:mx):List Obj:=boot_o_0 P ::
boot_o_1 P ::
boot_o_2 P ::
boot_o_3 P ::
boot_o_4 P ::
boot_o_5 P ::
boot_o_6 P ::
boot_o_7 P ::
boot_o_8 P ::
boot_o_9 P ::
zN P ::
⟨(.type "tuple"),none,(.seq #[] 0),#[]⟩ ::
⟨.none,none,(.fields #[]),#[]⟩ ::
hC "<module>" 182 [hI 1,hI 0,hI 0,hI 0,hI 0,hR 11,(.bool .false),hI 181,hR 12,hN,hN,hN,hN,hI 185,hI 1,hS 186] ::
⟨(.type "frame"),none,.plain,#[(some (.ref 13)),(some (.ref 3)),(some (.ref 3)),none,(some (.str "__main__" 164)),none,(some (.ref 0))]⟩ :: []
noncomputable def LL(w:World)(os:iw):jx:=⟨K2.bt (N7 w.params),15,{},gP [],fH,187,os⟩
noncomputable def N6(P:mx):List Obj:=boot_o_0 P ::
boot_o_1 P ::
boot_o_2 P ::
boot_o_3 P ::
boot_o_4 P ::
boot_o_5 P ::
boot_o_6 P ::
boot_o_7 P ::
boot_o_8 P ::
boot_o_9 P ::
zN P ::
⟨(.type "tuple"),none,(.seq #[] 0),#[]⟩ ::
⟨.none,none,(.fields #[]),#[]⟩ ::
hC "<module>" 182 [hI 1,hI 0,hI 0,hI 0,hI 0,hR 11,(.bool .false),hI 181,hR 12,hN,hN,hN,hN,hI 185,hI 1,hS 186] ::
⟨(.type "frame"),none,.plain,#[(some (.ref 13)),(some (.ref 3)),(some (.ref 3)),none,(some (.str "__main__" 164)),none,(some (.ref 0))]⟩ :: []
noncomputable def LK(w:World)(os:iw):jx:=⟨K2.bt (N6 w.params),15,{},gP [],fH,187,os⟩
noncomputable def N5(P:mx):List Obj:=boot_o_0 P ::
boot_o_1 P ::
boot_o_2 P ::
⟨(.type "dict"),none,(.dict #[hE P "__name__" 165 (.str "knotwise.errors" 187),hE P "__doc__" 166 .none,hE P "__package__" 167 .none,hE P "__loader__" 168 (.builtin "__main__.__loader__#opaque"),hE P "__spec__" 169 .none,hE P "__annotations__" 170 (.ref 6),hE P "__builtins__" 171 (.ref 4),hE P "__file__" 173 (.str "/claim/cut.py" 172),hE P "__cached__" 174 .none,hE P "KnotError" 206 (.ref 24),hE P "NoName" 222 (.ref 37),hE P "NameTaken" 238 (.ref 49),hE P "NoSpot" 254 (.ref 61),hE P "TooMany" 270 (.ref 73),hE P "NoFit" 286 (.ref 85)] 15),#[]⟩ ::
boot_o_4 P ::
boot_o_5 P ::
boot_o_6 P ::
boot_o_7 P ::
boot_o_8 P ::
boot_o_9 P ::
zN P ::
⟨(.type "tuple"),none,(.seq #[] 0),#[]⟩ ::
⟨.none,none,(.fields #[(.int 2 0),(.int 0 0),(.ref 20),(.int 4 0),(.int 0 0),(.ref 33),(.int 6 0),(.int 0 0),(.ref 45),(.int 8 0),(.int 0 0),(.ref 57),(.int 10 0),(.int 0 0),(.ref 69),(.int 12 0),(.int 0 0),(.ref 81)]),#[]⟩ ::
hC "<module>" 182 [hI 1,hI 0,hI 0,hI 0,hI 0,hR 11,(.bool .false),hI 181,hR 12,hN,hN,hN,hN,hI 185,hI 1,hS 186] ::
⟨(.type "frame"),none,.plain,#[(some (.ref 13)),(some (.ref 3)),(some (.ref 3)),none,(some (.str "__main__" 164)),none,(some (.ref 0))]⟩ ::
⟨(.type "tuple"),none,(.seq #[(.type "ValueError")] 0),#[]⟩ ::
⟨(.type "builtin_function_or_method"),none,(.fields #[(.builtin "type.__prepare__"),(.type "type")]),#[]⟩ ::
⟨(.type "dict"),none,(.dict #[hE P "__module__" 196 (.str "knotwise.errors" 187),hE P "__qualname__" 198 (.str "KnotError" 197),hE P "__firstlineno__" 200 (.int 2 199),hE P "__static_attributes__" 201 (.ref 22)] 4),#[]⟩ ::
⟨(.type "tuple"),none,(.seq #[] 0),#[]⟩ ::
⟨.none,none,(.fields #[]),#[]⟩ ::
hC "KnotError" 191 [hI 2,hI 0,hI 0,hI 0,hI 0,hR 18,(.bool .false),hI 181,hR 19,hN,hN,hN,hN,hI 194,hI 2,hS 195] ::
⟨(.type "frame"),none,.plain,#[(some (.ref 20)),(some (.ref 3)),(some (.ref 17)),none,(some (.str "knotwise.errors" 187)),none,(some (.ref 0))]⟩ ::
⟨(.type "tuple"),none,(.seq #[] 0),#[]⟩ ::
⟨(.type "dict"),none,(.dict #[hE P "__module__" 196 (.str "knotwise.errors" 187),hE P "__firstlineno__" 200 (.int 2 199),hE P "__static_attributes__" 201 (.ref 22),hE P "__weakref__" 203 (.ref 25),hE P "__doc__" 204 .none] 3),#[]⟩ ::
⟨(.type "type"),none,(.cls ⟨"KnotError",[(.type "ValueError")],[(.ref 24),(.type "ValueError"),(.type "Exception"),(.type "BaseException"),(.type "object")],23,"KnotError",.true,[],[(.ref 37),(.ref 49),(.ref 61),(.ref 73),(.ref 85)],.false,none,.false⟩),#[(some (.ref 15)),none,(some (.str "KnotError" 189)),(some (.str "KnotError" 197)),(some (.builtin "ValueError.__new__")),(some (.bool .true))]⟩ ::
⟨(.type "getset_descriptor"),none,(.fields #[(.str "__weakref__" 202),(.ref 24),(.builtin "ExceptionGroup.__weakref__"),.none]),#[]⟩ ::
⟨(.type "super"),none,(.fields #[(.ref 24),(.ref 24),(.ref 24)]),#[]⟩ ::
⟨(.type "builtin_function_or_method"),none,(.fields #[(.builtin "object.__init_subclass__"),(.ref 24)]),#[]⟩ ::
⟨(.type "tuple"),none,(.seq #[(.ref 24)] 0),#[]⟩ ::
⟨(.type "builtin_function_or_method"),none,(.fields #[(.builtin "type.__prepare__"),(.type "type")]),#[]⟩ ::
⟨(.type "dict"),none,(.dict #[hE P "__module__" 214 (.str "knotwise.errors" 187),hE P "__qualname__" 216 (.str "NoName" 215),hE P "__firstlineno__" 218 (.int 4 217),hE P "__static_attributes__" 219 (.ref 35)] 4),#[]⟩ ::
⟨(.type "tuple"),none,(.seq #[] 0),#[]⟩ ::
⟨.none,none,(.fields #[]),#[]⟩ ::
hC "NoName" 209 [hI 4,hI 0,hI 0,hI 0,hI 0,hR 31,(.bool .false),hI 181,hR 32,hN,hN,hN,hN,hI 212,hI 4,hS 213] ::
⟨(.type "frame"),none,.plain,#[(some (.ref 33)),(some (.ref 3)),(some (.ref 30)),none,(some (.str "knotwise.errors" 187)),none,(some (.ref 0))]⟩ ::
⟨(.type "tuple"),none,(.seq #[] 0),#[]⟩ ::
⟨(.type "dict"),none,(.dict #[hE P "__module__" 214 (.str "knotwise.errors" 187),hE P "__firstlineno__" 218 (.int 4 217),hE P "__static_attributes__" 219 (.ref 35),hE P "__doc__" 220 .none] 2),#[]⟩ ::
⟨(.type "type"),none,(.cls ⟨"NoName",[(.ref 24)],[(.ref 37),(.ref 24),(.type "ValueError"),(.type "Exception"),(.type "BaseException"),(.type "object")],36,"NoName",.true,[],[],.false,none,.false⟩),#[(some (.ref 28)),none,(some (.str "NoName" 207)),(some (.str "NoName" 215)),(some (.builtin "ValueError.__new__")),(some (.bool .true))]⟩ ::
⟨(.type "super"),none,(.fields #[(.ref 37),(.ref 37),(.ref 37)]),#[]⟩ ::
⟨(.type "builtin_function_or_method"),none,(.fields #[(.builtin "object.__init_subclass__"),(.ref 37)]),#[]⟩ ::
⟨(.type "tuple"),none,(.seq #[(.ref 24)] 0),#[]⟩ ::
⟨(.type "builtin_function_or_method"),none,(.fields #[(.builtin "type.__prepare__"),(.type "type")]),#[]⟩ ::
⟨(.type "dict"),none,(.dict #[hE P "__module__" 230 (.str "knotwise.errors" 187),hE P "__qualname__" 232 (.str "NameTaken" 231),hE P "__firstlineno__" 234 (.int 6 233),hE P "__static_attributes__" 235 (.ref 47)] 4),#[]⟩ ::
⟨(.type "tuple"),none,(.seq #[] 0),#[]⟩ ::
⟨.none,none,(.fields #[]),#[]⟩ ::
hC "NameTaken" 225 [hI 6,hI 0,hI 0,hI 0,hI 0,hR 43,(.bool .false),hI 181,hR 44,hN,hN,hN,hN,hI 228,hI 6,hS 229] ::
⟨(.type "frame"),none,.plain,#[(some (.ref 45)),(some (.ref 3)),(some (.ref 42)),none,(some (.str "knotwise.errors" 187)),none,(some (.ref 0))]⟩ ::
⟨(.type "tuple"),none,(.seq #[] 0),#[]⟩ ::
⟨(.type "dict"),none,(.dict #[hE P "__module__" 230 (.str "knotwise.errors" 187),hE P "__firstlineno__" 234 (.int 6 233),hE P "__static_attributes__" 235 (.ref 47),hE P "__doc__" 236 .none] 2),#[]⟩ ::
⟨(.type "type"),none,(.cls ⟨"NameTaken",[(.ref 24)],[(.ref 49),(.ref 24),(.type "ValueError"),(.type "Exception"),(.type "BaseException"),(.type "object")],48,"NameTaken",.true,[],[],.false,none,.false⟩),#[(some (.ref 40)),none,(some (.str "NameTaken" 223)),(some (.str "NameTaken" 231)),(some (.builtin "ValueError.__new__")),(some (.bool .true))]⟩ ::
⟨(.type "super"),none,(.fields #[(.ref 49),(.ref 49),(.ref 49)]),#[]⟩ ::
⟨(.type "builtin_function_or_method"),none,(.fields #[(.builtin "object.__init_subclass__"),(.ref 49)]),#[]⟩ ::
⟨(.type "tuple"),none,(.seq #[(.ref 24)] 0),#[]⟩ ::
⟨(.type "builtin_function_or_method"),none,(.fields #[(.builtin "type.__prepare__"),(.type "type")]),#[]⟩ ::
⟨(.type "dict"),none,(.dict #[hE P "__module__" 246 (.str "knotwise.errors" 187),hE P "__qualname__" 248 (.str "NoSpot" 247),hE P "__firstlineno__" 250 (.int 8 249),hE P "__static_attributes__" 251 (.ref 59)] 4),#[]⟩ ::
⟨(.type "tuple"),none,(.seq #[] 0),#[]⟩ ::
⟨.none,none,(.fields #[]),#[]⟩ ::
hC "NoSpot" 241 [hI 8,hI 0,hI 0,hI 0,hI 0,hR 55,(.bool .false),hI 181,hR 56,hN,hN,hN,hN,hI 244,hI 8,hS 245] ::
⟨(.type "frame"),none,.plain,#[(some (.ref 57)),(some (.ref 3)),(some (.ref 54)),none,(some (.str "knotwise.errors" 187)),none,(some (.ref 0))]⟩ ::
⟨(.type "tuple"),none,(.seq #[] 0),#[]⟩ ::
⟨(.type "dict"),none,(.dict #[hE P "__module__" 246 (.str "knotwise.errors" 187),hE P "__firstlineno__" 250 (.int 8 249),hE P "__static_attributes__" 251 (.ref 59),hE P "__doc__" 252 .none] 2),#[]⟩ ::
⟨(.type "type"),none,(.cls ⟨"NoSpot",[(.ref 24)],[(.ref 61),(.ref 24),(.type "ValueError"),(.type "Exception"),(.type "BaseException"),(.type "object")],60,"NoSpot",.true,[],[],.false,none,.false⟩),#[(some (.ref 52)),none,(some (.str "NoSpot" 239)),(some (.str "NoSpot" 247)),(some (.builtin "ValueError.__new__")),(some (.bool .true))]⟩ ::
⟨(.type "super"),none,(.fields #[(.ref 61),(.ref 61),(.ref 61)]),#[]⟩ ::
⟨(.type "builtin_function_or_method"),none,(.fields #[(.builtin "object.__init_subclass__"),(.ref 61)]),#[]⟩ ::
⟨(.type "tuple"),none,(.seq #[(.ref 24)] 0),#[]⟩ ::
⟨(.type "builtin_function_or_method"),none,(.fields #[(.builtin "type.__prepare__"),(.type "type")]),#[]⟩ ::
⟨(.type "dict"),none,(.dict #[hE P "__module__" 262 (.str "knotwise.errors" 187),hE P "__qualname__" 264 (.str "TooMany" 263),hE P "__firstlineno__" 266 (.int 10 265),hE P "__static_attributes__" 267 (.ref 71)] 4),#[]⟩ ::
⟨(.type "tuple"),none,(.seq #[] 0),#[]⟩ ::
⟨.none,none,(.fields #[]),#[]⟩ ::
hC "TooMany" 257 [hI 10,hI 0,hI 0,hI 0,hI 0,hR 67,(.bool .false),hI 181,hR 68,hN,hN,hN,hN,hI 260,hI 10,hS 261] ::
⟨(.type "frame"),none,.plain,#[(some (.ref 69)),(some (.ref 3)),(some (.ref 66)),none,(some (.str "knotwise.errors" 187)),none,(some (.ref 0))]⟩ ::
⟨(.type "tuple"),none,(.seq #[] 0),#[]⟩ ::
⟨(.type "dict"),none,(.dict #[hE P "__module__" 262 (.str "knotwise.errors" 187),hE P "__firstlineno__" 266 (.int 10 265),hE P "__static_attributes__" 267 (.ref 71),hE P "__doc__" 268 .none] 2),#[]⟩ ::
⟨(.type "type"),none,(.cls ⟨"TooMany",[(.ref 24)],[(.ref 73),(.ref 24),(.type "ValueError"),(.type "Exception"),(.type "BaseException"),(.type "object")],72,"TooMany",.true,[],[],.false,none,.false⟩),#[(some (.ref 64)),none,(some (.str "TooMany" 255)),(some (.str "TooMany" 263)),(some (.builtin "ValueError.__new__")),(some (.bool .true))]⟩ ::
⟨(.type "super"),none,(.fields #[(.ref 73),(.ref 73),(.ref 73)]),#[]⟩ ::
⟨(.type "builtin_function_or_method"),none,(.fields #[(.builtin "object.__init_subclass__"),(.ref 73)]),#[]⟩ ::
⟨(.type "tuple"),none,(.seq #[(.ref 24)] 0),#[]⟩ ::
⟨(.type "builtin_function_or_method"),none,(.fields #[(.builtin "type.__prepare__"),(.type "type")]),#[]⟩ ::
⟨(.type "dict"),none,(.dict #[hE P "__module__" 278 (.str "knotwise.errors" 187),hE P "__qualname__" 280 (.str "NoFit" 279),hE P "__firstlineno__" 282 (.int 12 281),hE P "__static_attributes__" 283 (.ref 83)] 4),#[]⟩ ::
⟨(.type "tuple"),none,(.seq #[] 0),#[]⟩ ::
⟨.none,none,(.fields #[]),#[]⟩ ::
hC "NoFit" 273 [hI 12,hI 0,hI 0,hI 0,hI 0,hR 79,(.bool .false),hI 181,hR 80,hN,hN,hN,hN,hI 276,hI 12,hS 277] ::
⟨(.type "frame"),none,.plain,#[(some (.ref 81)),(some (.ref 3)),(some (.ref 78)),none,(some (.str "knotwise.errors" 187)),none,(some (.ref 0))]⟩ ::
⟨(.type "tuple"),none,(.seq #[] 0),#[]⟩ ::
⟨(.type "dict"),none,(.dict #[hE P "__module__" 278 (.str "knotwise.errors" 187),hE P "__firstlineno__" 282 (.int 12 281),hE P "__static_attributes__" 283 (.ref 83),hE P "__doc__" 284 .none] 2),#[]⟩ ::
⟨(.type "type"),none,(.cls ⟨"NoFit",[(.ref 24)],[(.ref 85),(.ref 24),(.type "ValueError"),(.type "Exception"),(.type "BaseException"),(.type "object")],84,"NoFit",.true,[],[],.false,none,.false⟩),#[(some (.ref 76)),none,(some (.str "NoFit" 271)),(some (.str "NoFit" 279)),(some (.builtin "ValueError.__new__")),(some (.bool .true))]⟩ ::
⟨(.type "super"),none,(.fields #[(.ref 85),(.ref 85),(.ref 85)]),#[]⟩ ::
⟨(.type "builtin_function_or_method"),none,(.fields #[(.builtin "object.__init_subclass__"),(.ref 85)]),#[]⟩ :: []
noncomputable def LJ(w:World)(os:iw):jx:=⟨K2.bt (N5 w.params),88,{},gP [],fH,287,os⟩
noncomputable def N4(P:mx):List Obj:=boot_o_0 P ::
boot_o_1 P ::
boot_o_2 P ::
⟨(.type "dict"),none,(.dict #[hE P "__name__" 165 (.str "knotwise.moves" 430),hE P "__doc__" 166 .none,hE P "__package__" 167 .none,hE P "__loader__" 168 (.builtin "__main__.__loader__#opaque"),hE P "__spec__" 169 .none,hE P "__annotations__" 170 (.ref 6),hE P "__builtins__" 171 (.ref 4),hE P "__file__" 173 (.str "/claim/cut.py" 172),hE P "__cached__" 174 .none,hE P "KnotError" 206 (.ref 24),hE P "NoName" 222 (.ref 37),hE P "NameTaken" 238 (.ref 49),hE P "NoSpot" 254 (.ref 61),hE P "TooMany" 270 (.ref 73),hE P "NoFit" 286 (.ref 85),hE P "NoMove" 302 (.ref 97),hE P "MOST_CROSSINGS" 306 (.int 12 305),hE P "passings_of" 315 (.ref 106),hE P "seated" 323 (.ref 113),hE P "seated_rows" 329 (.ref 118),hE P "names_of" 335 (.ref 123),hE P "hand_of" 344 (.ref 130),hE P "spots_on" 350 (.ref 135),hE P "next_of" 361 (.ref 142),hE P "string_of" 371 (.ref 149),hE P "neighbours" 382 (.ref 156),hE P "uncurl_fits" 390 (.ref 163),hE P "part_fits" 400 (.ref 170),hE P "in_turn" 409 (.ref 177),hE P "slide_pairs" 423 (.ref 184),hE P "slide_fits" 429 (.ref 189),hE P "refuse_unknown" 441 (.ref 196),hE P "refuse_unfit" 448 (.ref 203),hE P "refuse_new" 458 (.ref 210),hE P "with_put" 470 (.ref 217),hE P "taken_out" 476 (.ref 222),hE P "spot_ahead" 482 (.ref 227),hE P "first_in_turn" 492 (.ref 234),hE P "with_changed" 498 (.ref 239),hE P "renamed_spot" 506 (.ref 246),hE P "Move" 526 (.ref 256),hE P "Uncurl" 594 (.ref 312)] 42),#[]⟩ ::
boot_o_4 P ::
boot_o_5 P ::
boot_o_6 P ::
boot_o_7 P ::
boot_o_8 P ::
boot_o_9 P ::
zN P ::
⟨(.type "tuple"),none,(.seq #[] 0),#[]⟩ ::
⟨.none,none,(.fields #[(.int 2 0),(.int 0 0),(.ref 20),(.int 4 0),(.int 0 0),(.ref 33),(.int 6 0),(.int 0 0),(.ref 45),(.int 8 0),(.int 0 0),(.ref 57),(.int 10 0),(.int 0 0),(.ref 69),(.int 12 0),(.int 0 0),(.ref 81),(.int 14 0),(.int 0 0),(.ref 93),(.int 18 0),(.int 0 0),(.ref 105),(.int 23 0),(.int 0 0),(.ref 112),(.int 28 0),(.int 0 0),(.ref 117),(.int 30 0),(.int 0 0),(.ref 122),(.int 32 0),(.int 0 0),(.ref 129),(.int 37 0),(.int 0 0),(.ref 134),(.int 41 0),(.int 0 0),(.ref 141),(.int 47 0),(.int 0 0),(.ref 148),(.int 53 0),(.int 0 0),(.ref 155),(.int 55 0),(.int 0 0),(.ref 162),(.int 57 0),(.int 0 0),(.ref 169),(.int 62 0),(.int 0 0),(.ref 176),(.int 66 0),(.int 0 0),(.ref 183),(.int 71 0),(.int 0 0),(.ref 188),(.int 77 0),(.int 0 0),(.ref 195),(.int 82 0),(.int 0 0),(.ref 202),(.int 85 0),(.int 0 0),(.ref 209),(.int 93 0),(.int 0 0),(.ref 216),(.int 99 0),(.int 0 0),(.ref 221),(.int 104 0),(.int 0 0),(.ref 226),(.int 112 0),(.int 0 0),(.ref 233),(.int 116 0),(.int 0 0),(.ref 238),(.int 126 0),(.int 0 0),(.ref 245),(.int 130 0),(.int 0 0),(.ref 252),(.int 132 0),(.int 0 0),(.ref 266)]),#[]⟩ ::
hC "<module>" 182 [hI 1,hI 0,hI 0,hI 0,hI 0,hR 11,(.bool .false),hI 181,hR 12,hN,hN,hN,hN,hI 185,hI 1,hS 186] ::
⟨(.type "frame"),none,.plain,#[(some (.ref 13)),(some (.ref 3)),(some (.ref 3)),none,(some (.str "__main__" 164)),none,(some (.ref 0))]⟩ ::
⟨(.type "tuple"),none,(.seq #[(.type "ValueError")] 0),#[]⟩ ::
⟨(.type "builtin_function_or_method"),none,(.fields #[(.builtin "type.__prepare__"),(.type "type")]),#[]⟩ ::
⟨(.type "dict"),none,(.dict #[hE P "__module__" 196 (.str "knotwise.errors" 187),hE P "__qualname__" 198 (.str "KnotError" 197),hE P "__firstlineno__" 200 (.int 2 199),hE P "__static_attributes__" 201 (.ref 22)] 4),#[]⟩ ::
⟨(.type "tuple"),none,(.seq #[] 0),#[]⟩ ::
⟨.none,none,(.fields #[]),#[]⟩ ::
hC "KnotError" 191 [hI 2,hI 0,hI 0,hI 0,hI 0,hR 18,(.bool .false),hI 181,hR 19,hN,hN,hN,hN,hI 194,hI 2,hS 195] ::
⟨(.type "frame"),none,.plain,#[(some (.ref 20)),(some (.ref 3)),(some (.ref 17)),none,(some (.str "knotwise.errors" 187)),none,(some (.ref 0))]⟩ ::
⟨(.type "tuple"),none,(.seq #[] 0),#[]⟩ ::
⟨(.type "dict"),none,(.dict #[hE P "__module__" 196 (.str "knotwise.errors" 187),hE P "__firstlineno__" 200 (.int 2 199),hE P "__static_attributes__" 201 (.ref 22),hE P "__weakref__" 203 (.ref 25),hE P "__doc__" 204 .none] 3),#[]⟩ ::
⟨(.type "type"),none,(.cls ⟨"KnotError",[(.type "ValueError")],[(.ref 24),(.type "ValueError"),(.type "Exception"),(.type "BaseException"),(.type "object")],23,"KnotError",.true,[],[(.ref 37),(.ref 49),(.ref 61),(.ref 73),(.ref 85),(.ref 97)],.false,none,.false⟩),#[(some (.ref 15)),none,(some (.str "KnotError" 189)),(some (.str "KnotError" 197)),(some (.builtin "ValueError.__new__")),(some (.bool .true))]⟩ ::
⟨(.type "getset_descriptor"),none,(.fields #[(.str "__weakref__" 202),(.ref 24),(.builtin "ExceptionGroup.__weakref__"),.none]),#[]⟩ ::
⟨(.type "super"),none,(.fields #[(.ref 24),(.ref 24),(.ref 24)]),#[]⟩ ::
⟨(.type "builtin_function_or_method"),none,(.fields #[(.builtin "object.__init_subclass__"),(.ref 24)]),#[]⟩ ::
⟨(.type "tuple"),none,(.seq #[(.ref 24)] 0),#[]⟩ ::
⟨(.type "builtin_function_or_method"),none,(.fields #[(.builtin "type.__prepare__"),(.type "type")]),#[]⟩ ::
⟨(.type "dict"),none,(.dict #[hE P "__module__" 214 (.str "knotwise.errors" 187),hE P "__qualname__" 216 (.str "NoName" 215),hE P "__firstlineno__" 218 (.int 4 217),hE P "__static_attributes__" 219 (.ref 35)] 4),#[]⟩ ::
⟨(.type "tuple"),none,(.seq #[] 0),#[]⟩ ::
⟨.none,none,(.fields #[]),#[]⟩ ::
hC "NoName" 209 [hI 4,hI 0,hI 0,hI 0,hI 0,hR 31,(.bool .false),hI 181,hR 32,hN,hN,hN,hN,hI 212,hI 4,hS 213] ::
⟨(.type "frame"),none,.plain,#[(some (.ref 33)),(some (.ref 3)),(some (.ref 30)),none,(some (.str "knotwise.errors" 187)),none,(some (.ref 0))]⟩ ::
⟨(.type "tuple"),none,(.seq #[] 0),#[]⟩ ::
⟨(.type "dict"),none,(.dict #[hE P "__module__" 214 (.str "knotwise.errors" 187),hE P "__firstlineno__" 218 (.int 4 217),hE P "__static_attributes__" 219 (.ref 35),hE P "__doc__" 220 .none] 2),#[]⟩ ::
⟨(.type "type"),none,(.cls ⟨"NoName",[(.ref 24)],[(.ref 37),(.ref 24),(.type "ValueError"),(.type "Exception"),(.type "BaseException"),(.type "object")],36,"NoName",.true,[],[],.false,none,.false⟩),#[(some (.ref 28)),none,(some (.str "NoName" 207)),(some (.str "NoName" 215)),(some (.builtin "ValueError.__new__")),(some (.bool .true))]⟩ ::
⟨(.type "super"),none,(.fields #[(.ref 37),(.ref 37),(.ref 37)]),#[]⟩ ::
⟨(.type "builtin_function_or_method"),none,(.fields #[(.builtin "object.__init_subclass__"),(.ref 37)]),#[]⟩ ::
⟨(.type "tuple"),none,(.seq #[(.ref 24)] 0),#[]⟩ ::
⟨(.type "builtin_function_or_method"),none,(.fields #[(.builtin "type.__prepare__"),(.type "type")]),#[]⟩ ::
⟨(.type "dict"),none,(.dict #[hE P "__module__" 230 (.str "knotwise.errors" 187),hE P "__qualname__" 232 (.str "NameTaken" 231),hE P "__firstlineno__" 234 (.int 6 233),hE P "__static_attributes__" 235 (.ref 47)] 4),#[]⟩ ::
⟨(.type "tuple"),none,(.seq #[] 0),#[]⟩ ::
⟨.none,none,(.fields #[]),#[]⟩ ::
hC "NameTaken" 225 [hI 6,hI 0,hI 0,hI 0,hI 0,hR 43,(.bool .false),hI 181,hR 44,hN,hN,hN,hN,hI 228,hI 6,hS 229] ::
⟨(.type "frame"),none,.plain,#[(some (.ref 45)),(some (.ref 3)),(some (.ref 42)),none,(some (.str "knotwise.errors" 187)),none,(some (.ref 0))]⟩ ::
⟨(.type "tuple"),none,(.seq #[] 0),#[]⟩ ::
⟨(.type "dict"),none,(.dict #[hE P "__module__" 230 (.str "knotwise.errors" 187),hE P "__firstlineno__" 234 (.int 6 233),hE P "__static_attributes__" 235 (.ref 47),hE P "__doc__" 236 .none] 2),#[]⟩ ::
⟨(.type "type"),none,(.cls ⟨"NameTaken",[(.ref 24)],[(.ref 49),(.ref 24),(.type "ValueError"),(.type "Exception"),(.type "BaseException"),(.type "object")],48,"NameTaken",.true,[],[],.false,none,.false⟩),#[(some (.ref 40)),none,(some (.str "NameTaken" 223)),(some (.str "NameTaken" 231)),(some (.builtin "ValueError.__new__")),(some (.bool .true))]⟩ ::
⟨(.type "super"),none,(.fields #[(.ref 49),(.ref 49),(.ref 49)]),#[]⟩ ::
⟨(.type "builtin_function_or_method"),none,(.fields #[(.builtin "object.__init_subclass__"),(.ref 49)]),#[]⟩ ::
⟨(.type "tuple"),none,(.seq #[(.ref 24)] 0),#[]⟩ ::
⟨(.type "builtin_function_or_method"),none,(.fields #[(.builtin "type.__prepare__"),(.type "type")]),#[]⟩ ::
⟨(.type "dict"),none,(.dict #[hE P "__module__" 246 (.str "knotwise.errors" 187),hE P "__qualname__" 248 (.str "NoSpot" 247),hE P "__firstlineno__" 250 (.int 8 249),hE P "__static_attributes__" 251 (.ref 59)] 4),#[]⟩ ::
⟨(.type "tuple"),none,(.seq #[] 0),#[]⟩ ::
⟨.none,none,(.fields #[]),#[]⟩ ::
hC "NoSpot" 241 [hI 8,hI 0,hI 0,hI 0,hI 0,hR 55,(.bool .false),hI 181,hR 56,hN,hN,hN,hN,hI 244,hI 8,hS 245] ::
⟨(.type "frame"),none,.plain,#[(some (.ref 57)),(some (.ref 3)),(some (.ref 54)),none,(some (.str "knotwise.errors" 187)),none,(some (.ref 0))]⟩ ::
⟨(.type "tuple"),none,(.seq #[] 0),#[]⟩ ::
⟨(.type "dict"),none,(.dict #[hE P "__module__" 246 (.str "knotwise.errors" 187),hE P "__firstlineno__" 250 (.int 8 249),hE P "__static_attributes__" 251 (.ref 59),hE P "__doc__" 252 .none] 2),#[]⟩ ::
⟨(.type "type"),none,(.cls ⟨"NoSpot",[(.ref 24)],[(.ref 61),(.ref 24),(.type "ValueError"),(.type "Exception"),(.type "BaseException"),(.type "object")],60,"NoSpot",.true,[],[],.false,none,.false⟩),#[(some (.ref 52)),none,(some (.str "NoSpot" 239)),(some (.str "NoSpot" 247)),(some (.builtin "ValueError.__new__")),(some (.bool .true))]⟩ ::
⟨(.type "super"),none,(.fields #[(.ref 61),(.ref 61),(.ref 61)]),#[]⟩ ::
⟨(.type "builtin_function_or_method"),none,(.fields #[(.builtin "object.__init_subclass__"),(.ref 61)]),#[]⟩ ::
⟨(.type "tuple"),none,(.seq #[(.ref 24)] 0),#[]⟩ ::
⟨(.type "builtin_function_or_method"),none,(.fields #[(.builtin "type.__prepare__"),(.type "type")]),#[]⟩ ::
⟨(.type "dict"),none,(.dict #[hE P "__module__" 262 (.str "knotwise.errors" 187),hE P "__qualname__" 264 (.str "TooMany" 263),hE P "__firstlineno__" 266 (.int 10 265),hE P "__static_attributes__" 267 (.ref 71)] 4),#[]⟩ ::
⟨(.type "tuple"),none,(.seq #[] 0),#[]⟩ ::
⟨.none,none,(.fields #[]),#[]⟩ ::
hC "TooMany" 257 [hI 10,hI 0,hI 0,hI 0,hI 0,hR 67,(.bool .false),hI 181,hR 68,hN,hN,hN,hN,hI 260,hI 10,hS 261] ::
⟨(.type "frame"),none,.plain,#[(some (.ref 69)),(some (.ref 3)),(some (.ref 66)),none,(some (.str "knotwise.errors" 187)),none,(some (.ref 0))]⟩ ::
⟨(.type "tuple"),none,(.seq #[] 0),#[]⟩ ::
⟨(.type "dict"),none,(.dict #[hE P "__module__" 262 (.str "knotwise.errors" 187),hE P "__firstlineno__" 266 (.int 10 265),hE P "__static_attributes__" 267 (.ref 71),hE P "__doc__" 268 .none] 2),#[]⟩ ::
⟨(.type "type"),none,(.cls ⟨"TooMany",[(.ref 24)],[(.ref 73),(.ref 24),(.type "ValueError"),(.type "Exception"),(.type "BaseException"),(.type "object")],72,"TooMany",.true,[],[],.false,none,.false⟩),#[(some (.ref 64)),none,(some (.str "TooMany" 255)),(some (.str "TooMany" 263)),(some (.builtin "ValueError.__new__")),(some (.bool .true))]⟩ ::
⟨(.type "super"),none,(.fields #[(.ref 73),(.ref 73),(.ref 73)]),#[]⟩ ::
⟨(.type "builtin_function_or_method"),none,(.fields #[(.builtin "object.__init_subclass__"),(.ref 73)]),#[]⟩ ::
⟨(.type "tuple"),none,(.seq #[(.ref 24)] 0),#[]⟩ ::
⟨(.type "builtin_function_or_method"),none,(.fields #[(.builtin "type.__prepare__"),(.type "type")]),#[]⟩ ::
⟨(.type "dict"),none,(.dict #[hE P "__module__" 278 (.str "knotwise.errors" 187),hE P "__qualname__" 280 (.str "NoFit" 279),hE P "__firstlineno__" 282 (.int 12 281),hE P "__static_attributes__" 283 (.ref 83)] 4),#[]⟩ ::
⟨(.type "tuple"),none,(.seq #[] 0),#[]⟩ ::
⟨.none,none,(.fields #[]),#[]⟩ ::
hC "NoFit" 273 [hI 12,hI 0,hI 0,hI 0,hI 0,hR 79,(.bool .false),hI 181,hR 80,hN,hN,hN,hN,hI 276,hI 12,hS 277] ::
⟨(.type "frame"),none,.plain,#[(some (.ref 81)),(some (.ref 3)),(some (.ref 78)),none,(some (.str "knotwise.errors" 187)),none,(some (.ref 0))]⟩ ::
⟨(.type "tuple"),none,(.seq #[] 0),#[]⟩ ::
⟨(.type "dict"),none,(.dict #[hE P "__module__" 278 (.str "knotwise.errors" 187),hE P "__firstlineno__" 282 (.int 12 281),hE P "__static_attributes__" 283 (.ref 83),hE P "__doc__" 284 .none] 2),#[]⟩ ::
⟨(.type "type"),none,(.cls ⟨"NoFit",[(.ref 24)],[(.ref 85),(.ref 24),(.type "ValueError"),(.type "Exception"),(.type "BaseException"),(.type "object")],84,"NoFit",.true,[],[],.false,none,.false⟩),#[(some (.ref 76)),none,(some (.str "NoFit" 271)),(some (.str "NoFit" 279)),(some (.builtin "ValueError.__new__")),(some (.bool .true))]⟩ ::
⟨(.type "super"),none,(.fields #[(.ref 85),(.ref 85),(.ref 85)]),#[]⟩ ::
⟨(.type "builtin_function_or_method"),none,(.fields #[(.builtin "object.__init_subclass__"),(.ref 85)]),#[]⟩ ::
⟨(.type "tuple"),none,(.seq #[(.ref 24)] 0),#[]⟩ ::
⟨(.type "builtin_function_or_method"),none,(.fields #[(.builtin "type.__prepare__"),(.type "type")]),#[]⟩ ::
⟨(.type "dict"),none,(.dict #[hE P "__module__" 294 (.str "knotwise.errors" 187),hE P "__qualname__" 296 (.str "NoMove" 295),hE P "__firstlineno__" 298 (.int 14 297),hE P "__static_attributes__" 299 (.ref 95)] 4),#[]⟩ ::
⟨(.type "tuple"),none,(.seq #[] 0),#[]⟩ ::
⟨.none,none,(.fields #[]),#[]⟩ ::
hC "NoMove" 289 [hI 14,hI 0,hI 0,hI 0,hI 0,hR 91,(.bool .false),hI 181,hR 92,hN,hN,hN,hN,hI 292,hI 14,hS 293] ::
⟨(.type "frame"),none,.plain,#[(some (.ref 93)),(some (.ref 3)),(some (.ref 90)),none,(some (.str "knotwise.errors" 187)),none,(some (.ref 0))]⟩ ::
⟨(.type "tuple"),none,(.seq #[] 0),#[]⟩ ::
⟨(.type "dict"),none,(.dict #[hE P "__module__" 294 (.str "knotwise.errors" 187),hE P "__firstlineno__" 298 (.int 14 297),hE P "__static_attributes__" 299 (.ref 95),hE P "__doc__" 300 .none] 2),#[]⟩ ::
⟨(.type "type"),none,(.cls ⟨"NoMove",[(.ref 24)],[(.ref 97),(.ref 24),(.type "ValueError"),(.type "Exception"),(.type "BaseException"),(.type "object")],96,"NoMove",.true,[],[],.false,none,.false⟩),#[(some (.ref 88)),none,(some (.str "NoMove" 287)),(some (.str "NoMove" 295)),(some (.builtin "ValueError.__new__")),(some (.bool .true))]⟩ ::
⟨(.type "super"),none,(.fields #[(.ref 97),(.ref 97),(.ref 97)]),#[]⟩ ::
⟨(.type "builtin_function_or_method"),none,(.fields #[(.builtin "object.__init_subclass__"),(.ref 97)]),#[]⟩ ::
⟨(.type "tuple"),none,(.seq #[] 0),#[]⟩ ::
⟨.none,none,(.fields #[]),#[]⟩ ::
⟨(.type "tuple"),none,(.seq #[(.str "rows" 310),(.str "passings" 311),(.str "row" 312)] 0),#[]⟩ ::
⟨(.type "tuple"),none,(.seq #[] 0),#[]⟩ ::
hG (top 10) "passings_of" "passings_of" 0 0 ::
hD "passings_of" 307 18 1 100 (hR 102) (hR 103) (hR 104) 314 ::
hF 10 "passings_of" (.str "knotwise.drawings" 303) (.ref 105) ::
⟨(.type "tuple"),none,(.seq #[] 0),#[]⟩ ::
⟨.none,none,(.fields #[]),#[]⟩ ::
⟨(.type "tuple"),none,(.seq #[(.str "row" 319),(.str "start" 320)] 0),#[]⟩ ::
⟨(.type "tuple"),none,(.seq #[] 0),#[]⟩ ::
hG (top 11) "seated" "seated" 0 0 ::
hD "seated" 316 23 1 107 (hR 109) (hR 110) (hR 111) 322 ::
hF 11 "seated" (.str "knotwise.drawings" 303) (.ref 112) ::
⟨(.type "tuple"),none,(.seq #[] 0),#[]⟩ ::
⟨.none,none,(.fields #[]),#[]⟩ ::
hG (top 12) "seated_rows" "seated_rows" 0 0 ::
hD "seated_rows" 324 28 1 114 hN hN (hR 116) 328 ::
hF 12 "seated_rows" (.str "knotwise.drawings" 303) (.ref 117) ::
⟨(.type "tuple"),none,(.seq #[] 0),#[]⟩ ::
⟨.none,none,(.fields #[]),#[]⟩ ::
hG (top 13) "names_of" "names_of" 0 0 ::
hD "names_of" 330 30 1 119 hN hN (hR 121) 334 ::
hF 13 "names_of" (.str "knotwise.drawings" 303) (.ref 122) ::
⟨(.type "tuple"),none,(.seq #[] 0),#[]⟩ ::
⟨.none,none,(.fields #[]),#[]⟩ ::
⟨(.type "tuple"),none,(.seq #[(.str "drawing" 339),(.str "name" 340),(.str "passing" 341)] 0),#[]⟩ ::
⟨(.type "tuple"),none,(.seq #[] 0),#[]⟩ ::
hG (top 14) "hand_of" "hand_of" 0 0 ::
hD "hand_of" 336 32 2 124 (hR 126) (hR 127) (hR 128) 343 ::
hF 14 "hand_of" (.str "knotwise.drawings" 303) (.ref 129) ::
⟨(.type "tuple"),none,(.seq #[] 0),#[]⟩ ::
⟨.none,none,(.fields #[]),#[]⟩ ::
hG (top 15) "spots_on" "spots_on" 0 0 ::
hD "spots_on" 345 37 2 131 hN hN (hR 133) 349 ::
hF 15 "spots_on" (.str "knotwise.drawings" 303) (.ref 134) ::
⟨(.type "tuple"),none,(.seq #[] 0),#[]⟩ ::
⟨.none,none,(.fields #[]),#[]⟩ ::
⟨(.type "tuple"),none,(.seq #[(.str "drawing" 354),(.str "behind" 355),(.str "row" 356),(.str "passing" 357),(.str "follower" 358)] 0),#[]⟩ ::
⟨(.type "tuple"),none,(.seq #[] 0),#[]⟩ ::
hG (top 16) "next_of" "next_of" 0 0 ::
hD "next_of" 351 41 1 136 (hR 138) (hR 139) (hR 140) 360 ::
hF 16 "next_of" (.str "knotwise.drawings" 303) (.ref 141) ::
⟨(.type "tuple"),none,(.seq #[] 0),#[]⟩ ::
⟨.none,none,(.fields #[]),#[]⟩ ::
⟨(.type "tuple"),none,(.seq #[(.str "drawing" 365),(.str "spot" 366),(.str "string" 367),(.str "row" 368)] 0),#[]⟩ ::
⟨(.type "tuple"),none,(.seq #[] 0),#[]⟩ ::
hG (top 17) "string_of" "string_of" 0 0 ::
hD "string_of" 362 47 2 143 (hR 145) (hR 146) (hR 147) 370 ::
hF 17 "string_of" (.str "knotwise.drawings" 303) (.ref 148) ::
⟨(.type "tuple"),none,(.seq #[] 0),#[]⟩ ::
⟨.none,none,(.fields #[]),#[]⟩ ::
⟨(.type "tuple"),none,(.seq #[(.str "behind" 377),(.str "one" 378),(.str "other" 379)] 0),#[]⟩ ::
⟨(.type "tuple"),none,(.seq #[] 0),#[]⟩ ::
hG (top 19) "neighbours" "neighbours" 0 0 ::
hD "neighbours" 374 53 3 150 (hR 152) (hR 153) (hR 154) 381 ::
hF 19 "neighbours" (.str "knotwise.fits" 372) (.ref 155) ::
⟨(.type "tuple"),none,(.seq #[] 0),#[]⟩ ::
⟨.none,none,(.fields #[]),#[]⟩ ::
⟨(.type "tuple"),none,(.seq #[(.str "drawing" 386),(.str "name" 387)] 0),#[]⟩ ::
⟨(.type "tuple"),none,(.seq #[] 0),#[]⟩ ::
hG (top 20) "uncurl_fits" "uncurl_fits" 0 0 ::
hD "uncurl_fits" 383 55 2 157 (hR 159) (hR 160) (hR 161) 389 ::
hF 20 "uncurl_fits" (.str "knotwise.fits" 372) (.ref 162) ::
⟨(.type "tuple"),none,(.seq #[] 0),#[]⟩ ::
⟨.none,none,(.fields #[]),#[]⟩ ::
⟨(.type "tuple"),none,(.seq #[(.str "drawing" 394),(.str "name" 395),(.str "second" 396),(.str "behind" 397)] 0),#[]⟩ ::
⟨(.type "tuple"),none,(.seq #[] 0),#[]⟩ ::
hG (top 21) "part_fits" "part_fits" 0 0 ::
hD "part_fits" 391 57 3 164 (hR 166) (hR 167) (hR 168) 399 ::
hF 21 "part_fits" (.str "knotwise.fits" 372) (.ref 169) ::
⟨(.type "tuple"),none,(.seq #[] 0),#[]⟩ ::
⟨.none,none,(.fields #[]),#[]⟩ ::
⟨(.type "tuple"),none,(.seq #[(.str "one" 404),(.str "other" 405),(.str "turn" 406)] 0),#[]⟩ ::
⟨(.type "tuple"),none,(.seq #[] 0),#[]⟩ ::
hG (top 22) "in_turn" "in_turn" 0 0 ::
hD "in_turn" 401 62 3 171 (hR 173) (hR 174) (hR 175) 408 ::
hF 22 "in_turn" (.str "knotwise.fits" 372) (.ref 176) ::
⟨(.type "tuple"),none,(.seq #[] 0),#[]⟩ ::
⟨.none,none,(.fields #[]),#[]⟩ ::
⟨(.type "tuple"),none,(.seq #[(.str "drawing" 413),(.str "name" 414),(.str "second" 415),(.str "third" 416),(.str "turn" 417),(.str "first_hand" 418),(.str "second_hand" 419),(.str "third_hand" 420)] 0),#[]⟩ ::
⟨(.type "tuple"),none,(.seq #[] 0),#[]⟩ ::
hG (top 23) "slide_pairs" "slide_pairs" 0 0 ::
hD "slide_pairs" 410 66 5 178 (hR 180) (hR 181) (hR 182) 422 ::
hF 23 "slide_pairs" (.str "knotwise.fits" 372) (.ref 183) ::
⟨(.type "tuple"),none,(.seq #[] 0),#[]⟩ ::
⟨.none,none,(.fields #[]),#[]⟩ ::
hG (top 24) "slide_fits" "slide_fits" 0 0 ::
hD "slide_fits" 424 71 5 185 hN hN (hR 187) 428 ::
hF 24 "slide_fits" (.str "knotwise.fits" 372) (.ref 188) ::
⟨(.type "tuple"),none,(.seq #[] 0),#[]⟩ ::
⟨.none,none,(.fields #[]),#[]⟩ ::
⟨(.type "tuple"),none,(.seq #[(.str "drawing" 435),(.str "names" 436),(.str "known" 437),(.str "name" 438)] 0),#[]⟩ ::
⟨(.type "tuple"),none,(.seq #[] 0),#[]⟩ ::
hG (top 26) "refuse_unknown" "refuse_unknown" 0 0 ::
hD "refuse_unknown" 432 77 2 190 (hR 192) (hR 193) (hR 194) 440 ::
hF 26 "refuse_unknown" (.str "knotwise.moves" 430) (.ref 195) ::
⟨(.type "tuple"),none,(.seq #[] 0),#[]⟩ ::
⟨.none,none,(.fields #[]),#[]⟩ ::
⟨(.type "tuple"),none,(.seq #[(.str "fits" 445)] 0),#[]⟩ ::
⟨(.type "tuple"),none,(.seq #[] 0),#[]⟩ ::
hG (top 27) "refuse_unfit" "refuse_unfit" 0 0 ::
hD "refuse_unfit" 442 82 1 197 (hR 199) (hR 200) (hR 201) 447 ::
hF 27 "refuse_unfit" (.str "knotwise.moves" 430) (.ref 202) ::
⟨(.type "tuple"),none,(.seq #[] 0),#[]⟩ ::
⟨.none,none,(.fields #[]),#[]⟩ ::
⟨(.type "tuple"),none,(.seq #[(.str "drawing" 452),(.str "names" 453),(.str "taken" 454),(.str "name" 455)] 0),#[]⟩ ::
⟨(.type "tuple"),none,(.seq #[] 0),#[]⟩ ::
hG (top 28) "refuse_new" "refuse_new" 0 0 ::
hD "refuse_new" 449 85 2 204 (hR 206) (hR 207) (hR 208) 457 ::
hF 28 "refuse_new" (.str "knotwise.moves" 430) (.ref 209) ::
⟨(.type "tuple"),none,(.seq #[] 0),#[]⟩ ::
⟨.none,none,(.fields #[]),#[]⟩ ::
⟨(.type "tuple"),none,(.seq #[(.str "drawing" 462),(.str "spot" 463),(.str "passings" 464),(.str "string" 465),(.str "rows" 466),(.str "place" 467)] 0),#[]⟩ ::
⟨(.type "tuple"),none,(.seq #[] 0),#[]⟩ ::
hG (top 29) "with_put" "with_put" 0 0 ::
hD "with_put" 459 93 3 211 (hR 213) (hR 214) (hR 215) 469 ::
hF 29 "with_put" (.str "knotwise.moves" 430) (.ref 216) ::
⟨(.type "tuple"),none,(.seq #[] 0),#[]⟩ ::
⟨.none,none,(.fields #[]),#[]⟩ ::
hG (top 30) "taken_out" "taken_out" 0 0 ::
hD "taken_out" 471 99 2 218 hN hN (hR 220) 475 ::
hF 30 "taken_out" (.str "knotwise.moves" 430) (.ref 221) ::
⟨(.type "tuple"),none,(.seq #[] 0),#[]⟩ ::
⟨.none,none,(.fields #[]),#[]⟩ ::
hG (top 31) "spot_ahead" "spot_ahead" 0 0 ::
hD "spot_ahead" 477 104 3 223 hN hN (hR 225) 481 ::
hF 31 "spot_ahead" (.str "knotwise.moves" 430) (.ref 226) ::
⟨(.type "tuple"),none,(.seq #[] 0),#[]⟩ ::
⟨.none,none,(.fields #[]),#[]⟩ ::
⟨(.type "tuple"),none,(.seq #[(.str "drawing" 486),(.str "name" 487),(.str "second" 488),(.str "way" 489)] 0),#[]⟩ ::
⟨(.type "tuple"),none,(.seq #[] 0),#[]⟩ ::
hG (top 32) "first_in_turn" "first_in_turn" 0 0 ::
hD "first_in_turn" 483 112 4 228 (hR 230) (hR 231) (hR 232) 491 ::
hF 32 "first_in_turn" (.str "knotwise.moves" 430) (.ref 233) ::
⟨(.type "tuple"),none,(.seq #[] 0),#[]⟩ ::
⟨.none,none,(.fields #[]),#[]⟩ ::
hG (top 33) "with_changed" "with_changed" 0 0 ::
hD "with_changed" 493 116 2 235 hN hN (hR 237) 497 ::
hF 33 "with_changed" (.str "knotwise.moves" 430) (.ref 238) ::
⟨(.type "tuple"),none,(.seq #[] 0),#[]⟩ ::
⟨.none,none,(.fields #[]),#[]⟩ ::
⟨(.type "tuple"),none,(.seq #[(.str "spot" 502),(.str "names" 503)] 0),#[]⟩ ::
⟨(.type "tuple"),none,(.seq #[] 0),#[]⟩ ::
hG (top 34) "renamed_spot" "renamed_spot" 0 0 ::
hD "renamed_spot" 499 126 2 240 (hR 242) (hR 243) (hR 244) 505 ::
hF 34 "renamed_spot" (.str "knotwise.moves" 430) (.ref 245) ::
⟨(.type "tuple"),none,(.seq #[] 0),#[]⟩ ::
⟨(.type "builtin_function_or_method"),none,(.fields #[(.builtin "type.__prepare__"),(.type "type")]),#[]⟩ ::
⟨(.type "dict"),none,(.dict #[hE P "__module__" 514 (.str "knotwise.moves" 430),hE P "__qualname__" 516 (.str "Move" 515),hE P "__firstlineno__" 518 (.int 130 517),hE P "__static_attributes__" 519 (.ref 254)] 4),#[]⟩ ::
⟨(.type "tuple"),none,(.seq #[] 0),#[]⟩ ::
⟨.none,none,(.fields #[]),#[]⟩ ::
hC "Move" 509 [hI 130,hI 0,hI 0,hI 0,hI 0,hR 250,(.bool .false),hI 181,hR 251,hN,hN,hN,hN,hI 512,hI 130,hS 513] ::
⟨(.type "frame"),none,.plain,#[(some (.ref 252)),(some (.ref 3)),(some (.ref 249)),none,(some (.str "knotwise.moves" 430)),none,(some (.ref 0))]⟩ ::
⟨(.type "tuple"),none,(.seq #[] 0),#[]⟩ ::
⟨(.type "dict"),none,(.dict #[hE P "__module__" 514 (.str "knotwise.moves" 430),hE P "__firstlineno__" 518 (.int 130 517),hE P "__static_attributes__" 519 (.ref 254),hE P "__dict__" 521 (.ref 257),hE P "__weakref__" 523 (.ref 258),hE P "__doc__" 524 .none] 4),#[]⟩ ::
⟨(.type "type"),none,(.cls ⟨"Move",[(.type "object")],[(.ref 256),(.type "object")],255,"Move",.true,[],[(.ref 312)],.false,none,.false⟩),#[none,none,(some (.str "Move" 507)),(some (.str "Move" 515)),(some (.builtin "object.__new__")),(some (.bool .true))]⟩ ::
⟨(.type "getset_descriptor"),none,(.fields #[(.str "__dict__" 520),(.ref 256),(.builtin "function.__dict__"),(.builtin "function.__dict__#set")]),#[]⟩ ::
⟨(.type "getset_descriptor"),none,(.fields #[(.str "__weakref__" 522),(.ref 256),(.builtin "ExceptionGroup.__weakref__"),.none]),#[]⟩ ::
⟨(.type "super"),none,(.fields #[(.ref 256),(.ref 256),(.ref 256)]),#[]⟩ ::
⟨(.type "builtin_function_or_method"),none,(.fields #[(.builtin "object.__init_subclass__"),(.ref 256)]),#[]⟩ ::
⟨(.type "tuple"),none,(.seq #[(.ref 256)] 0),#[]⟩ ::
⟨(.type "builtin_function_or_method"),none,(.fields #[(.builtin "type.__prepare__"),(.type "type")]),#[]⟩ ::
⟨(.type "dict"),none,(.dict #[hE P "__module__" 534 (.str "knotwise.moves" 430),hE P "__qualname__" 536 (.str "Uncurl" 535),hE P "__firstlineno__" 538 (.int 132 537),hE P "__init__" 546 (.ref 274),hE P "told" 553 (.ref 281),hE P "refuse" 561 (.ref 288),hE P "done" 569 (.ref 295),hE P "back" 581 (.ref 302),hE P "renamed" 589 (.ref 309),hE P "__static_attributes__" 591 (.ref 310)] 10),#[]⟩ ::
⟨(.type "tuple"),none,(.seq #[] 0),#[]⟩ ::
⟨.none,none,(.fields #[(.int 134 0),(.int 4 0),(.ref 273),(.int 137 0),(.int 4 0),(.ref 280),(.int 140 0),(.int 4 0),(.ref 287),(.int 144 0),(.int 4 0),(.ref 294),(.int 148 0),(.int 4 0),(.ref 301),(.int 156 0),(.int 4 0),(.ref 308)]),#[]⟩ ::
hC "Uncurl" 529 [hI 132,hI 0,hI 0,hI 0,hI 0,hR 264,(.bool .false),hI 181,hR 265,hN,hN,hN,hN,hI 532,hI 132,hS 533] ::
⟨(.type "frame"),none,.plain,#[(some (.ref 266)),(some (.ref 3)),(some (.ref 263)),none,(some (.str "knotwise.moves" 430)),none,(some (.ref 0))]⟩ ::
⟨(.type "tuple"),none,(.seq #[] 0),#[]⟩ ::
⟨.none,none,(.fields #[]),#[]⟩ ::
⟨(.type "tuple"),none,(.seq #[(.str "self" 542),(.str "name" 543)] 0),#[]⟩ ::
⟨(.type "tuple"),none,(.seq #[] 0),#[]⟩ ::
hG (fi 36 0) "__init__" "Uncurl.__init__" 0 0 ::
⟨(.type "code"),none,(.fields #[(.str "__init__" 539),(.str "Uncurl.__init__" 540),(.str "/claim/cut.py" 541),(.int 134 0),(.int 2 0),(.int 0 0),(.int 0 0),(.int 3 0),(.ref 268),(.bool .true),(.int 181 0),(.ref 269),.none,(.ref 270),(.ref 271),(.ref 272),(.int 544 0),(.int 134 0),(.str "/claim/cut.py" 545)]),#[]⟩ ::
hM 36 0 "__init__" "Uncurl.__init__" (.str "knotwise.moves" 430) (.ref 273) ::
⟨(.type "tuple"),none,(.seq #[] 0),#[]⟩ ::
⟨.none,none,(.fields #[]),#[]⟩ ::
⟨(.type "tuple"),none,(.seq #[(.str "self" 550)] 0),#[]⟩ ::
⟨(.type "tuple"),none,(.seq #[] 0),#[]⟩ ::
hG (fi 36 1) "told" "Uncurl.told" 0 0 ::
⟨(.type "code"),none,(.fields #[(.str "told" 547),(.str "Uncurl.told" 548),(.str "/claim/cut.py" 549),(.int 137 0),(.int 1 0),(.int 0 0),(.int 0 0),(.int 3 0),(.ref 275),(.bool .true),(.int 181 0),(.ref 276),.none,(.ref 277),(.ref 278),(.ref 279),(.int 551 0),(.int 137 0),(.str "/claim/cut.py" 552)]),#[]⟩ ::
hM 36 1 "told" "Uncurl.told" (.str "knotwise.moves" 430) (.ref 280) ::
⟨(.type "tuple"),none,(.seq #[] 0),#[]⟩ ::
⟨.none,none,(.fields #[]),#[]⟩ ::
⟨(.type "tuple"),none,(.seq #[(.str "self" 557),(.str "drawing" 558)] 0),#[]⟩ ::
⟨(.type "tuple"),none,(.seq #[] 0),#[]⟩ ::
hG (fi 36 2) "refuse" "Uncurl.refuse" 0 0 ::
⟨(.type "code"),none,(.fields #[(.str "refuse" 554),(.str "Uncurl.refuse" 555),(.str "/claim/cut.py" 556),(.int 140 0),(.int 2 0),(.int 0 0),(.int 0 0),(.int 3 0),(.ref 282),(.bool .true),(.int 181 0),(.ref 283),.none,(.ref 284),(.ref 285),(.ref 286),(.int 559 0),(.int 140 0),(.str "/claim/cut.py" 560)]),#[]⟩ ::
hM 36 2 "refuse" "Uncurl.refuse" (.str "knotwise.moves" 430) (.ref 287) ::
⟨(.type "tuple"),none,(.seq #[] 0),#[]⟩ ::
⟨.none,none,(.fields #[]),#[]⟩ ::
⟨(.type "tuple"),none,(.seq #[(.str "self" 565),(.str "drawing" 566)] 0),#[]⟩ ::
⟨(.type "tuple"),none,(.seq #[] 0),#[]⟩ ::
hG (fi 36 3) "done" "Uncurl.done" 0 0 ::
⟨(.type "code"),none,(.fields #[(.str "done" 562),(.str "Uncurl.done" 563),(.str "/claim/cut.py" 564),(.int 144 0),(.int 2 0),(.int 0 0),(.int 0 0),(.int 3 0),(.ref 289),(.bool .true),(.int 181 0),(.ref 290),.none,(.ref 291),(.ref 292),(.ref 293),(.int 567 0),(.int 144 0),(.str "/claim/cut.py" 568)]),#[]⟩ ::
hM 36 3 "done" "Uncurl.done" (.str "knotwise.moves" 430) (.ref 294) ::
⟨(.type "tuple"),none,(.seq #[] 0),#[]⟩ ::
⟨.none,none,(.fields #[]),#[]⟩ ::
⟨(.type "tuple"),none,(.seq #[(.str "self" 573),(.str "drawing" 574),(.str "over" 575),(.str "under" 576),(.str "first" 577),(.str "spot" 578)] 0),#[]⟩ ::
⟨(.type "tuple"),none,(.seq #[] 0),#[]⟩ ::
hG (fi 36 4) "back" "Uncurl.back" 0 0 ::
⟨(.type "code"),none,(.fields #[(.str "back" 570),(.str "Uncurl.back" 571),(.str "/claim/cut.py" 572),(.int 148 0),(.int 2 0),(.int 0 0),(.int 0 0),(.int 3 0),(.ref 296),(.bool .true),(.int 181 0),(.ref 297),.none,(.ref 298),(.ref 299),(.ref 300),(.int 579 0),(.int 148 0),(.str "/claim/cut.py" 580)]),#[]⟩ ::
hM 36 4 "back" "Uncurl.back" (.str "knotwise.moves" 430) (.ref 301) ::
⟨(.type "tuple"),none,(.seq #[] 0),#[]⟩ ::
⟨.none,none,(.fields #[]),#[]⟩ ::
⟨(.type "tuple"),none,(.seq #[(.str "self" 585),(.str "names" 586)] 0),#[]⟩ ::
⟨(.type "tuple"),none,(.seq #[] 0),#[]⟩ ::
hG (fi 36 5) "renamed" "Uncurl.renamed" 0 0 ::
⟨(.type "code"),none,(.fields #[(.str "renamed" 582),(.str "Uncurl.renamed" 583),(.str "/claim/cut.py" 584),(.int 156 0),(.int 2 0),(.int 0 0),(.int 0 0),(.int 3 0),(.ref 303),(.bool .true),(.int 181 0),(.ref 304),.none,(.ref 305),(.ref 306),(.ref 307),(.int 587 0),(.int 156 0),(.str "/claim/cut.py" 588)]),#[]⟩ ::
hM 36 5 "renamed" "Uncurl.renamed" (.str "knotwise.moves" 430) (.ref 308) ::
⟨(.type "tuple"),none,(.seq #[(.str "name" 590)] 0),#[]⟩ ::
⟨(.type "dict"),none,(.dict #[hE P "__module__" 534 (.str "knotwise.moves" 430),hE P "__firstlineno__" 538 (.int 132 537),hE P "__init__" 546 (.ref 274),hE P "told" 553 (.ref 281),hE P "refuse" 561 (.ref 288),hE P "done" 569 (.ref 295),hE P "back" 581 (.ref 302),hE P "renamed" 589 (.ref 309),hE P "__static_attributes__" 591 (.ref 310),hE P "__doc__" 592 .none] 2),#[]⟩ ::
⟨(.type "type"),none,(.cls ⟨"Uncurl",[(.ref 256)],[(.ref 312),(.ref 256),(.type "object")],311,"Uncurl",.true,[],[],.false,none,.false⟩),#[(some (.ref 261)),none,(some (.str "Uncurl" 527)),(some (.str "Uncurl" 535)),(some (.builtin "object.__new__")),(some (.bool .true))]⟩ ::
⟨(.type "super"),none,(.fields #[(.ref 312),(.ref 312),(.ref 312)]),#[]⟩ ::
⟨(.type "builtin_function_or_method"),none,(.fields #[(.builtin "object.__init_subclass__"),(.ref 312)]),#[]⟩ :: []
noncomputable def LI(w:World)(os:iw):jx:=⟨K2.bt (N4 w.params),315,{},gP [],fH,595,os⟩
noncomputable def N3(P:mx):List Obj:=boot_o_0 P ::
boot_o_1 P ::
boot_o_2 P ::
⟨(.type "dict"),none,(.dict #[hE P "__name__" 165 (.str "knotwise.moves" 430),hE P "__doc__" 166 .none,hE P "__package__" 167 .none,hE P "__loader__" 168 (.builtin "__main__.__loader__#opaque"),hE P "__spec__" 169 .none,hE P "__annotations__" 170 (.ref 6),hE P "__builtins__" 171 (.ref 4),hE P "__file__" 173 (.str "/claim/cut.py" 172),hE P "__cached__" 174 .none,hE P "KnotError" 206 (.ref 24),hE P "NoName" 222 (.ref 37),hE P "NameTaken" 238 (.ref 49),hE P "NoSpot" 254 (.ref 61),hE P "TooMany" 270 (.ref 73),hE P "NoFit" 286 (.ref 85),hE P "NoMove" 302 (.ref 97),hE P "MOST_CROSSINGS" 306 (.int 12 305),hE P "passings_of" 315 (.ref 106),hE P "seated" 323 (.ref 113),hE P "seated_rows" 329 (.ref 118),hE P "names_of" 335 (.ref 123),hE P "hand_of" 344 (.ref 130),hE P "spots_on" 350 (.ref 135),hE P "next_of" 361 (.ref 142),hE P "string_of" 371 (.ref 149),hE P "neighbours" 382 (.ref 156),hE P "uncurl_fits" 390 (.ref 163),hE P "part_fits" 400 (.ref 170),hE P "in_turn" 409 (.ref 177),hE P "slide_pairs" 423 (.ref 184),hE P "slide_fits" 429 (.ref 189),hE P "refuse_unknown" 441 (.ref 196),hE P "refuse_unfit" 448 (.ref 203),hE P "refuse_new" 458 (.ref 210),hE P "with_put" 470 (.ref 217),hE P "taken_out" 476 (.ref 222),hE P "spot_ahead" 482 (.ref 227),hE P "first_in_turn" 492 (.ref 234),hE P "with_changed" 498 (.ref 239),hE P "renamed_spot" 506 (.ref 246),hE P "Move" 526 (.ref 256),hE P "Uncurl" 594 (.ref 312),hE P "Curl" 657 (.ref 359),hE P "Part" 731 (.ref 413),hE P "Lay" 811 (.ref 467)] 45),#[]⟩ ::
boot_o_4 P ::
boot_o_5 P ::
boot_o_6 P ::
boot_o_7 P ::
boot_o_8 P ::
boot_o_9 P ::
zN P ::
⟨(.type "tuple"),none,(.seq #[] 0),#[]⟩ ::
⟨.none,none,(.fields #[(.int 2 0),(.int 0 0),(.ref 20),(.int 4 0),(.int 0 0),(.ref 33),(.int 6 0),(.int 0 0),(.ref 45),(.int 8 0),(.int 0 0),(.ref 57),(.int 10 0),(.int 0 0),(.ref 69),(.int 12 0),(.int 0 0),(.ref 81),(.int 14 0),(.int 0 0),(.ref 93),(.int 18 0),(.int 0 0),(.ref 105),(.int 23 0),(.int 0 0),(.ref 112),(.int 28 0),(.int 0 0),(.ref 117),(.int 30 0),(.int 0 0),(.ref 122),(.int 32 0),(.int 0 0),(.ref 129),(.int 37 0),(.int 0 0),(.ref 134),(.int 41 0),(.int 0 0),(.ref 141),(.int 47 0),(.int 0 0),(.ref 148),(.int 53 0),(.int 0 0),(.ref 155),(.int 55 0),(.int 0 0),(.ref 162),(.int 57 0),(.int 0 0),(.ref 169),(.int 62 0),(.int 0 0),(.ref 176),(.int 66 0),(.int 0 0),(.ref 183),(.int 71 0),(.int 0 0),(.ref 188),(.int 77 0),(.int 0 0),(.ref 195),(.int 82 0),(.int 0 0),(.ref 202),(.int 85 0),(.int 0 0),(.ref 209),(.int 93 0),(.int 0 0),(.ref 216),(.int 99 0),(.int 0 0),(.ref 221),(.int 104 0),(.int 0 0),(.ref 226),(.int 112 0),(.int 0 0),(.ref 233),(.int 116 0),(.int 0 0),(.ref 238),(.int 126 0),(.int 0 0),(.ref 245),(.int 130 0),(.int 0 0),(.ref 252),(.int 132 0),(.int 0 0),(.ref 266),(.int 158 0),(.int 0 0),(.ref 320),(.int 180 0),(.int 0 0),(.ref 367),(.int 211 0),(.int 0 0),(.ref 421)]),#[]⟩ ::
hC "<module>" 182 [hI 1,hI 0,hI 0,hI 0,hI 0,hR 11,(.bool .false),hI 181,hR 12,hN,hN,hN,hN,hI 185,hI 1,hS 186] ::
⟨(.type "frame"),none,.plain,#[(some (.ref 13)),(some (.ref 3)),(some (.ref 3)),none,(some (.str "__main__" 164)),none,(some (.ref 0))]⟩ ::
⟨(.type "tuple"),none,(.seq #[(.type "ValueError")] 0),#[]⟩ ::
⟨(.type "builtin_function_or_method"),none,(.fields #[(.builtin "type.__prepare__"),(.type "type")]),#[]⟩ ::
⟨(.type "dict"),none,(.dict #[hE P "__module__" 196 (.str "knotwise.errors" 187),hE P "__qualname__" 198 (.str "KnotError" 197),hE P "__firstlineno__" 200 (.int 2 199),hE P "__static_attributes__" 201 (.ref 22)] 4),#[]⟩ ::
⟨(.type "tuple"),none,(.seq #[] 0),#[]⟩ ::
⟨.none,none,(.fields #[]),#[]⟩ ::
hC "KnotError" 191 [hI 2,hI 0,hI 0,hI 0,hI 0,hR 18,(.bool .false),hI 181,hR 19,hN,hN,hN,hN,hI 194,hI 2,hS 195] ::
⟨(.type "frame"),none,.plain,#[(some (.ref 20)),(some (.ref 3)),(some (.ref 17)),none,(some (.str "knotwise.errors" 187)),none,(some (.ref 0))]⟩ ::
⟨(.type "tuple"),none,(.seq #[] 0),#[]⟩ ::
⟨(.type "dict"),none,(.dict #[hE P "__module__" 196 (.str "knotwise.errors" 187),hE P "__firstlineno__" 200 (.int 2 199),hE P "__static_attributes__" 201 (.ref 22),hE P "__weakref__" 203 (.ref 25),hE P "__doc__" 204 .none] 3),#[]⟩ ::
⟨(.type "type"),none,(.cls ⟨"KnotError",[(.type "ValueError")],[(.ref 24),(.type "ValueError"),(.type "Exception"),(.type "BaseException"),(.type "object")],23,"KnotError",.true,[],[(.ref 37),(.ref 49),(.ref 61),(.ref 73),(.ref 85),(.ref 97)],.false,none,.false⟩),#[(some (.ref 15)),none,(some (.str "KnotError" 189)),(some (.str "KnotError" 197)),(some (.builtin "ValueError.__new__")),(some (.bool .true))]⟩ ::
⟨(.type "getset_descriptor"),none,(.fields #[(.str "__weakref__" 202),(.ref 24),(.builtin "ExceptionGroup.__weakref__"),.none]),#[]⟩ ::
⟨(.type "super"),none,(.fields #[(.ref 24),(.ref 24),(.ref 24)]),#[]⟩ ::
⟨(.type "builtin_function_or_method"),none,(.fields #[(.builtin "object.__init_subclass__"),(.ref 24)]),#[]⟩ ::
⟨(.type "tuple"),none,(.seq #[(.ref 24)] 0),#[]⟩ ::
⟨(.type "builtin_function_or_method"),none,(.fields #[(.builtin "type.__prepare__"),(.type "type")]),#[]⟩ ::
⟨(.type "dict"),none,(.dict #[hE P "__module__" 214 (.str "knotwise.errors" 187),hE P "__qualname__" 216 (.str "NoName" 215),hE P "__firstlineno__" 218 (.int 4 217),hE P "__static_attributes__" 219 (.ref 35)] 4),#[]⟩ ::
⟨(.type "tuple"),none,(.seq #[] 0),#[]⟩ ::
⟨.none,none,(.fields #[]),#[]⟩ ::
hC "NoName" 209 [hI 4,hI 0,hI 0,hI 0,hI 0,hR 31,(.bool .false),hI 181,hR 32,hN,hN,hN,hN,hI 212,hI 4,hS 213] ::
⟨(.type "frame"),none,.plain,#[(some (.ref 33)),(some (.ref 3)),(some (.ref 30)),none,(some (.str "knotwise.errors" 187)),none,(some (.ref 0))]⟩ ::
⟨(.type "tuple"),none,(.seq #[] 0),#[]⟩ ::
⟨(.type "dict"),none,(.dict #[hE P "__module__" 214 (.str "knotwise.errors" 187),hE P "__firstlineno__" 218 (.int 4 217),hE P "__static_attributes__" 219 (.ref 35),hE P "__doc__" 220 .none] 2),#[]⟩ ::
⟨(.type "type"),none,(.cls ⟨"NoName",[(.ref 24)],[(.ref 37),(.ref 24),(.type "ValueError"),(.type "Exception"),(.type "BaseException"),(.type "object")],36,"NoName",.true,[],[],.false,none,.false⟩),#[(some (.ref 28)),none,(some (.str "NoName" 207)),(some (.str "NoName" 215)),(some (.builtin "ValueError.__new__")),(some (.bool .true))]⟩ ::
⟨(.type "super"),none,(.fields #[(.ref 37),(.ref 37),(.ref 37)]),#[]⟩ ::
⟨(.type "builtin_function_or_method"),none,(.fields #[(.builtin "object.__init_subclass__"),(.ref 37)]),#[]⟩ ::
⟨(.type "tuple"),none,(.seq #[(.ref 24)] 0),#[]⟩ ::
⟨(.type "builtin_function_or_method"),none,(.fields #[(.builtin "type.__prepare__"),(.type "type")]),#[]⟩ ::
⟨(.type "dict"),none,(.dict #[hE P "__module__" 230 (.str "knotwise.errors" 187),hE P "__qualname__" 232 (.str "NameTaken" 231),hE P "__firstlineno__" 234 (.int 6 233),hE P "__static_attributes__" 235 (.ref 47)] 4),#[]⟩ ::
⟨(.type "tuple"),none,(.seq #[] 0),#[]⟩ ::
⟨.none,none,(.fields #[]),#[]⟩ ::
hC "NameTaken" 225 [hI 6,hI 0,hI 0,hI 0,hI 0,hR 43,(.bool .false),hI 181,hR 44,hN,hN,hN,hN,hI 228,hI 6,hS 229] ::
⟨(.type "frame"),none,.plain,#[(some (.ref 45)),(some (.ref 3)),(some (.ref 42)),none,(some (.str "knotwise.errors" 187)),none,(some (.ref 0))]⟩ ::
⟨(.type "tuple"),none,(.seq #[] 0),#[]⟩ ::
⟨(.type "dict"),none,(.dict #[hE P "__module__" 230 (.str "knotwise.errors" 187),hE P "__firstlineno__" 234 (.int 6 233),hE P "__static_attributes__" 235 (.ref 47),hE P "__doc__" 236 .none] 2),#[]⟩ ::
⟨(.type "type"),none,(.cls ⟨"NameTaken",[(.ref 24)],[(.ref 49),(.ref 24),(.type "ValueError"),(.type "Exception"),(.type "BaseException"),(.type "object")],48,"NameTaken",.true,[],[],.false,none,.false⟩),#[(some (.ref 40)),none,(some (.str "NameTaken" 223)),(some (.str "NameTaken" 231)),(some (.builtin "ValueError.__new__")),(some (.bool .true))]⟩ ::
⟨(.type "super"),none,(.fields #[(.ref 49),(.ref 49),(.ref 49)]),#[]⟩ ::
⟨(.type "builtin_function_or_method"),none,(.fields #[(.builtin "object.__init_subclass__"),(.ref 49)]),#[]⟩ ::
⟨(.type "tuple"),none,(.seq #[(.ref 24)] 0),#[]⟩ ::
⟨(.type "builtin_function_or_method"),none,(.fields #[(.builtin "type.__prepare__"),(.type "type")]),#[]⟩ ::
⟨(.type "dict"),none,(.dict #[hE P "__module__" 246 (.str "knotwise.errors" 187),hE P "__qualname__" 248 (.str "NoSpot" 247),hE P "__firstlineno__" 250 (.int 8 249),hE P "__static_attributes__" 251 (.ref 59)] 4),#[]⟩ ::
⟨(.type "tuple"),none,(.seq #[] 0),#[]⟩ ::
⟨.none,none,(.fields #[]),#[]⟩ ::
hC "NoSpot" 241 [hI 8,hI 0,hI 0,hI 0,hI 0,hR 55,(.bool .false),hI 181,hR 56,hN,hN,hN,hN,hI 244,hI 8,hS 245] ::
⟨(.type "frame"),none,.plain,#[(some (.ref 57)),(some (.ref 3)),(some (.ref 54)),none,(some (.str "knotwise.errors" 187)),none,(some (.ref 0))]⟩ ::
⟨(.type "tuple"),none,(.seq #[] 0),#[]⟩ ::
⟨(.type "dict"),none,(.dict #[hE P "__module__" 246 (.str "knotwise.errors" 187),hE P "__firstlineno__" 250 (.int 8 249),hE P "__static_attributes__" 251 (.ref 59),hE P "__doc__" 252 .none] 2),#[]⟩ ::
⟨(.type "type"),none,(.cls ⟨"NoSpot",[(.ref 24)],[(.ref 61),(.ref 24),(.type "ValueError"),(.type "Exception"),(.type "BaseException"),(.type "object")],60,"NoSpot",.true,[],[],.false,none,.false⟩),#[(some (.ref 52)),none,(some (.str "NoSpot" 239)),(some (.str "NoSpot" 247)),(some (.builtin "ValueError.__new__")),(some (.bool .true))]⟩ ::
⟨(.type "super"),none,(.fields #[(.ref 61),(.ref 61),(.ref 61)]),#[]⟩ ::
⟨(.type "builtin_function_or_method"),none,(.fields #[(.builtin "object.__init_subclass__"),(.ref 61)]),#[]⟩ ::
⟨(.type "tuple"),none,(.seq #[(.ref 24)] 0),#[]⟩ ::
⟨(.type "builtin_function_or_method"),none,(.fields #[(.builtin "type.__prepare__"),(.type "type")]),#[]⟩ ::
⟨(.type "dict"),none,(.dict #[hE P "__module__" 262 (.str "knotwise.errors" 187),hE P "__qualname__" 264 (.str "TooMany" 263),hE P "__firstlineno__" 266 (.int 10 265),hE P "__static_attributes__" 267 (.ref 71)] 4),#[]⟩ ::
⟨(.type "tuple"),none,(.seq #[] 0),#[]⟩ ::
⟨.none,none,(.fields #[]),#[]⟩ ::
hC "TooMany" 257 [hI 10,hI 0,hI 0,hI 0,hI 0,hR 67,(.bool .false),hI 181,hR 68,hN,hN,hN,hN,hI 260,hI 10,hS 261] ::
⟨(.type "frame"),none,.plain,#[(some (.ref 69)),(some (.ref 3)),(some (.ref 66)),none,(some (.str "knotwise.errors" 187)),none,(some (.ref 0))]⟩ ::
⟨(.type "tuple"),none,(.seq #[] 0),#[]⟩ ::
⟨(.type "dict"),none,(.dict #[hE P "__module__" 262 (.str "knotwise.errors" 187),hE P "__firstlineno__" 266 (.int 10 265),hE P "__static_attributes__" 267 (.ref 71),hE P "__doc__" 268 .none] 2),#[]⟩ ::
⟨(.type "type"),none,(.cls ⟨"TooMany",[(.ref 24)],[(.ref 73),(.ref 24),(.type "ValueError"),(.type "Exception"),(.type "BaseException"),(.type "object")],72,"TooMany",.true,[],[],.false,none,.false⟩),#[(some (.ref 64)),none,(some (.str "TooMany" 255)),(some (.str "TooMany" 263)),(some (.builtin "ValueError.__new__")),(some (.bool .true))]⟩ ::
⟨(.type "super"),none,(.fields #[(.ref 73),(.ref 73),(.ref 73)]),#[]⟩ ::
⟨(.type "builtin_function_or_method"),none,(.fields #[(.builtin "object.__init_subclass__"),(.ref 73)]),#[]⟩ ::
⟨(.type "tuple"),none,(.seq #[(.ref 24)] 0),#[]⟩ ::
⟨(.type "builtin_function_or_method"),none,(.fields #[(.builtin "type.__prepare__"),(.type "type")]),#[]⟩ ::
⟨(.type "dict"),none,(.dict #[hE P "__module__" 278 (.str "knotwise.errors" 187),hE P "__qualname__" 280 (.str "NoFit" 279),hE P "__firstlineno__" 282 (.int 12 281),hE P "__static_attributes__" 283 (.ref 83)] 4),#[]⟩ ::
⟨(.type "tuple"),none,(.seq #[] 0),#[]⟩ ::
⟨.none,none,(.fields #[]),#[]⟩ ::
hC "NoFit" 273 [hI 12,hI 0,hI 0,hI 0,hI 0,hR 79,(.bool .false),hI 181,hR 80,hN,hN,hN,hN,hI 276,hI 12,hS 277] ::
⟨(.type "frame"),none,.plain,#[(some (.ref 81)),(some (.ref 3)),(some (.ref 78)),none,(some (.str "knotwise.errors" 187)),none,(some (.ref 0))]⟩ ::
⟨(.type "tuple"),none,(.seq #[] 0),#[]⟩ ::
⟨(.type "dict"),none,(.dict #[hE P "__module__" 278 (.str "knotwise.errors" 187),hE P "__firstlineno__" 282 (.int 12 281),hE P "__static_attributes__" 283 (.ref 83),hE P "__doc__" 284 .none] 2),#[]⟩ ::
⟨(.type "type"),none,(.cls ⟨"NoFit",[(.ref 24)],[(.ref 85),(.ref 24),(.type "ValueError"),(.type "Exception"),(.type "BaseException"),(.type "object")],84,"NoFit",.true,[],[],.false,none,.false⟩),#[(some (.ref 76)),none,(some (.str "NoFit" 271)),(some (.str "NoFit" 279)),(some (.builtin "ValueError.__new__")),(some (.bool .true))]⟩ ::
⟨(.type "super"),none,(.fields #[(.ref 85),(.ref 85),(.ref 85)]),#[]⟩ ::
⟨(.type "builtin_function_or_method"),none,(.fields #[(.builtin "object.__init_subclass__"),(.ref 85)]),#[]⟩ ::
⟨(.type "tuple"),none,(.seq #[(.ref 24)] 0),#[]⟩ ::
⟨(.type "builtin_function_or_method"),none,(.fields #[(.builtin "type.__prepare__"),(.type "type")]),#[]⟩ ::
⟨(.type "dict"),none,(.dict #[hE P "__module__" 294 (.str "knotwise.errors" 187),hE P "__qualname__" 296 (.str "NoMove" 295),hE P "__firstlineno__" 298 (.int 14 297),hE P "__static_attributes__" 299 (.ref 95)] 4),#[]⟩ ::
⟨(.type "tuple"),none,(.seq #[] 0),#[]⟩ ::
⟨.none,none,(.fields #[]),#[]⟩ ::
hC "NoMove" 289 [hI 14,hI 0,hI 0,hI 0,hI 0,hR 91,(.bool .false),hI 181,hR 92,hN,hN,hN,hN,hI 292,hI 14,hS 293] ::
⟨(.type "frame"),none,.plain,#[(some (.ref 93)),(some (.ref 3)),(some (.ref 90)),none,(some (.str "knotwise.errors" 187)),none,(some (.ref 0))]⟩ ::
⟨(.type "tuple"),none,(.seq #[] 0),#[]⟩ ::
⟨(.type "dict"),none,(.dict #[hE P "__module__" 294 (.str "knotwise.errors" 187),hE P "__firstlineno__" 298 (.int 14 297),hE P "__static_attributes__" 299 (.ref 95),hE P "__doc__" 300 .none] 2),#[]⟩ ::
⟨(.type "type"),none,(.cls ⟨"NoMove",[(.ref 24)],[(.ref 97),(.ref 24),(.type "ValueError"),(.type "Exception"),(.type "BaseException"),(.type "object")],96,"NoMove",.true,[],[],.false,none,.false⟩),#[(some (.ref 88)),none,(some (.str "NoMove" 287)),(some (.str "NoMove" 295)),(some (.builtin "ValueError.__new__")),(some (.bool .true))]⟩ ::
⟨(.type "super"),none,(.fields #[(.ref 97),(.ref 97),(.ref 97)]),#[]⟩ ::
⟨(.type "builtin_function_or_method"),none,(.fields #[(.builtin "object.__init_subclass__"),(.ref 97)]),#[]⟩ ::
⟨(.type "tuple"),none,(.seq #[] 0),#[]⟩ ::
⟨.none,none,(.fields #[]),#[]⟩ ::
⟨(.type "tuple"),none,(.seq #[(.str "rows" 310),(.str "passings" 311),(.str "row" 312)] 0),#[]⟩ ::
⟨(.type "tuple"),none,(.seq #[] 0),#[]⟩ ::
hG (top 10) "passings_of" "passings_of" 0 0 ::
hD "passings_of" 307 18 1 100 (hR 102) (hR 103) (hR 104) 314 ::
hF 10 "passings_of" (.str "knotwise.drawings" 303) (.ref 105) ::
⟨(.type "tuple"),none,(.seq #[] 0),#[]⟩ ::
⟨.none,none,(.fields #[]),#[]⟩ ::
⟨(.type "tuple"),none,(.seq #[(.str "row" 319),(.str "start" 320)] 0),#[]⟩ ::
⟨(.type "tuple"),none,(.seq #[] 0),#[]⟩ ::
hG (top 11) "seated" "seated" 0 0 ::
hD "seated" 316 23 1 107 (hR 109) (hR 110) (hR 111) 322 ::
hF 11 "seated" (.str "knotwise.drawings" 303) (.ref 112) ::
⟨(.type "tuple"),none,(.seq #[] 0),#[]⟩ ::
⟨.none,none,(.fields #[]),#[]⟩ ::
hG (top 12) "seated_rows" "seated_rows" 0 0 ::
hD "seated_rows" 324 28 1 114 hN hN (hR 116) 328 ::
hF 12 "seated_rows" (.str "knotwise.drawings" 303) (.ref 117) ::
⟨(.type "tuple"),none,(.seq #[] 0),#[]⟩ ::
⟨.none,none,(.fields #[]),#[]⟩ ::
hG (top 13) "names_of" "names_of" 0 0 ::
hD "names_of" 330 30 1 119 hN hN (hR 121) 334 ::
hF 13 "names_of" (.str "knotwise.drawings" 303) (.ref 122) ::
⟨(.type "tuple"),none,(.seq #[] 0),#[]⟩ ::
⟨.none,none,(.fields #[]),#[]⟩ ::
⟨(.type "tuple"),none,(.seq #[(.str "drawing" 339),(.str "name" 340),(.str "passing" 341)] 0),#[]⟩ ::
⟨(.type "tuple"),none,(.seq #[] 0),#[]⟩ ::
hG (top 14) "hand_of" "hand_of" 0 0 ::
hD "hand_of" 336 32 2 124 (hR 126) (hR 127) (hR 128) 343 ::
hF 14 "hand_of" (.str "knotwise.drawings" 303) (.ref 129) ::
⟨(.type "tuple"),none,(.seq #[] 0),#[]⟩ ::
⟨.none,none,(.fields #[]),#[]⟩ ::
hG (top 15) "spots_on" "spots_on" 0 0 ::
hD "spots_on" 345 37 2 131 hN hN (hR 133) 349 ::
hF 15 "spots_on" (.str "knotwise.drawings" 303) (.ref 134) ::
⟨(.type "tuple"),none,(.seq #[] 0),#[]⟩ ::
⟨.none,none,(.fields #[]),#[]⟩ ::
⟨(.type "tuple"),none,(.seq #[(.str "drawing" 354),(.str "behind" 355),(.str "row" 356),(.str "passing" 357),(.str "follower" 358)] 0),#[]⟩ ::
⟨(.type "tuple"),none,(.seq #[] 0),#[]⟩ ::
hG (top 16) "next_of" "next_of" 0 0 ::
hD "next_of" 351 41 1 136 (hR 138) (hR 139) (hR 140) 360 ::
hF 16 "next_of" (.str "knotwise.drawings" 303) (.ref 141) ::
⟨(.type "tuple"),none,(.seq #[] 0),#[]⟩ ::
⟨.none,none,(.fields #[]),#[]⟩ ::
⟨(.type "tuple"),none,(.seq #[(.str "drawing" 365),(.str "spot" 366),(.str "string" 367),(.str "row" 368)] 0),#[]⟩ ::
⟨(.type "tuple"),none,(.seq #[] 0),#[]⟩ ::
hG (top 17) "string_of" "string_of" 0 0 ::
hD "string_of" 362 47 2 143 (hR 145) (hR 146) (hR 147) 370 ::
hF 17 "string_of" (.str "knotwise.drawings" 303) (.ref 148) ::
⟨(.type "tuple"),none,(.seq #[] 0),#[]⟩ ::
⟨.none,none,(.fields #[]),#[]⟩ ::
⟨(.type "tuple"),none,(.seq #[(.str "behind" 377),(.str "one" 378),(.str "other" 379)] 0),#[]⟩ ::
⟨(.type "tuple"),none,(.seq #[] 0),#[]⟩ ::
hG (top 19) "neighbours" "neighbours" 0 0 ::
hD "neighbours" 374 53 3 150 (hR 152) (hR 153) (hR 154) 381 ::
hF 19 "neighbours" (.str "knotwise.fits" 372) (.ref 155) ::
⟨(.type "tuple"),none,(.seq #[] 0),#[]⟩ ::
⟨.none,none,(.fields #[]),#[]⟩ ::
⟨(.type "tuple"),none,(.seq #[(.str "drawing" 386),(.str "name" 387)] 0),#[]⟩ ::
⟨(.type "tuple"),none,(.seq #[] 0),#[]⟩ ::
hG (top 20) "uncurl_fits" "uncurl_fits" 0 0 ::
hD "uncurl_fits" 383 55 2 157 (hR 159) (hR 160) (hR 161) 389 ::
hF 20 "uncurl_fits" (.str "knotwise.fits" 372) (.ref 162) ::
⟨(.type "tuple"),none,(.seq #[] 0),#[]⟩ ::
⟨.none,none,(.fields #[]),#[]⟩ ::
⟨(.type "tuple"),none,(.seq #[(.str "drawing" 394),(.str "name" 395),(.str "second" 396),(.str "behind" 397)] 0),#[]⟩ ::
⟨(.type "tuple"),none,(.seq #[] 0),#[]⟩ ::
hG (top 21) "part_fits" "part_fits" 0 0 ::
hD "part_fits" 391 57 3 164 (hR 166) (hR 167) (hR 168) 399 ::
hF 21 "part_fits" (.str "knotwise.fits" 372) (.ref 169) ::
⟨(.type "tuple"),none,(.seq #[] 0),#[]⟩ ::
⟨.none,none,(.fields #[]),#[]⟩ ::
⟨(.type "tuple"),none,(.seq #[(.str "one" 404),(.str "other" 405),(.str "turn" 406)] 0),#[]⟩ ::
⟨(.type "tuple"),none,(.seq #[] 0),#[]⟩ ::
hG (top 22) "in_turn" "in_turn" 0 0 ::
hD "in_turn" 401 62 3 171 (hR 173) (hR 174) (hR 175) 408 ::
hF 22 "in_turn" (.str "knotwise.fits" 372) (.ref 176) ::
⟨(.type "tuple"),none,(.seq #[] 0),#[]⟩ ::
⟨.none,none,(.fields #[]),#[]⟩ ::
⟨(.type "tuple"),none,(.seq #[(.str "drawing" 413),(.str "name" 414),(.str "second" 415),(.str "third" 416),(.str "turn" 417),(.str "first_hand" 418),(.str "second_hand" 419),(.str "third_hand" 420)] 0),#[]⟩ ::
⟨(.type "tuple"),none,(.seq #[] 0),#[]⟩ ::
hG (top 23) "slide_pairs" "slide_pairs" 0 0 ::
hD "slide_pairs" 410 66 5 178 (hR 180) (hR 181) (hR 182) 422 ::
hF 23 "slide_pairs" (.str "knotwise.fits" 372) (.ref 183) ::
⟨(.type "tuple"),none,(.seq #[] 0),#[]⟩ ::
⟨.none,none,(.fields #[]),#[]⟩ ::
hG (top 24) "slide_fits" "slide_fits" 0 0 ::
hD "slide_fits" 424 71 5 185 hN hN (hR 187) 428 ::
hF 24 "slide_fits" (.str "knotwise.fits" 372) (.ref 188) ::
⟨(.type "tuple"),none,(.seq #[] 0),#[]⟩ ::
⟨.none,none,(.fields #[]),#[]⟩ ::
⟨(.type "tuple"),none,(.seq #[(.str "drawing" 435),(.str "names" 436),(.str "known" 437),(.str "name" 438)] 0),#[]⟩ ::
⟨(.type "tuple"),none,(.seq #[] 0),#[]⟩ ::
hG (top 26) "refuse_unknown" "refuse_unknown" 0 0 ::
hD "refuse_unknown" 432 77 2 190 (hR 192) (hR 193) (hR 194) 440 ::
hF 26 "refuse_unknown" (.str "knotwise.moves" 430) (.ref 195) ::
⟨(.type "tuple"),none,(.seq #[] 0),#[]⟩ ::
⟨.none,none,(.fields #[]),#[]⟩ ::
⟨(.type "tuple"),none,(.seq #[(.str "fits" 445)] 0),#[]⟩ ::
⟨(.type "tuple"),none,(.seq #[] 0),#[]⟩ ::
hG (top 27) "refuse_unfit" "refuse_unfit" 0 0 ::
hD "refuse_unfit" 442 82 1 197 (hR 199) (hR 200) (hR 201) 447 ::
hF 27 "refuse_unfit" (.str "knotwise.moves" 430) (.ref 202) ::
⟨(.type "tuple"),none,(.seq #[] 0),#[]⟩ ::
⟨.none,none,(.fields #[]),#[]⟩ ::
⟨(.type "tuple"),none,(.seq #[(.str "drawing" 452),(.str "names" 453),(.str "taken" 454),(.str "name" 455)] 0),#[]⟩ ::
⟨(.type "tuple"),none,(.seq #[] 0),#[]⟩ ::
hG (top 28) "refuse_new" "refuse_new" 0 0 ::
hD "refuse_new" 449 85 2 204 (hR 206) (hR 207) (hR 208) 457 ::
hF 28 "refuse_new" (.str "knotwise.moves" 430) (.ref 209) ::
⟨(.type "tuple"),none,(.seq #[] 0),#[]⟩ ::
⟨.none,none,(.fields #[]),#[]⟩ ::
⟨(.type "tuple"),none,(.seq #[(.str "drawing" 462),(.str "spot" 463),(.str "passings" 464),(.str "string" 465),(.str "rows" 466),(.str "place" 467)] 0),#[]⟩ ::
⟨(.type "tuple"),none,(.seq #[] 0),#[]⟩ ::
hG (top 29) "with_put" "with_put" 0 0 ::
hD "with_put" 459 93 3 211 (hR 213) (hR 214) (hR 215) 469 ::
hF 29 "with_put" (.str "knotwise.moves" 430) (.ref 216) ::
⟨(.type "tuple"),none,(.seq #[] 0),#[]⟩ ::
⟨.none,none,(.fields #[]),#[]⟩ ::
hG (top 30) "taken_out" "taken_out" 0 0 ::
hD "taken_out" 471 99 2 218 hN hN (hR 220) 475 ::
hF 30 "taken_out" (.str "knotwise.moves" 430) (.ref 221) ::
⟨(.type "tuple"),none,(.seq #[] 0),#[]⟩ ::
⟨.none,none,(.fields #[]),#[]⟩ ::
hG (top 31) "spot_ahead" "spot_ahead" 0 0 ::
hD "spot_ahead" 477 104 3 223 hN hN (hR 225) 481 ::
hF 31 "spot_ahead" (.str "knotwise.moves" 430) (.ref 226) ::
⟨(.type "tuple"),none,(.seq #[] 0),#[]⟩ ::
⟨.none,none,(.fields #[]),#[]⟩ ::
⟨(.type "tuple"),none,(.seq #[(.str "drawing" 486),(.str "name" 487),(.str "second" 488),(.str "way" 489)] 0),#[]⟩ ::
⟨(.type "tuple"),none,(.seq #[] 0),#[]⟩ ::
hG (top 32) "first_in_turn" "first_in_turn" 0 0 ::
hD "first_in_turn" 483 112 4 228 (hR 230) (hR 231) (hR 232) 491 ::
hF 32 "first_in_turn" (.str "knotwise.moves" 430) (.ref 233) ::
⟨(.type "tuple"),none,(.seq #[] 0),#[]⟩ ::
⟨.none,none,(.fields #[]),#[]⟩ ::
hG (top 33) "with_changed" "with_changed" 0 0 ::
hD "with_changed" 493 116 2 235 hN hN (hR 237) 497 ::
hF 33 "with_changed" (.str "knotwise.moves" 430) (.ref 238) ::
⟨(.type "tuple"),none,(.seq #[] 0),#[]⟩ ::
⟨.none,none,(.fields #[]),#[]⟩ ::
⟨(.type "tuple"),none,(.seq #[(.str "spot" 502),(.str "names" 503)] 0),#[]⟩ ::
⟨(.type "tuple"),none,(.seq #[] 0),#[]⟩ ::
hG (top 34) "renamed_spot" "renamed_spot" 0 0 ::
hD "renamed_spot" 499 126 2 240 (hR 242) (hR 243) (hR 244) 505 ::
hF 34 "renamed_spot" (.str "knotwise.moves" 430) (.ref 245) ::
⟨(.type "tuple"),none,(.seq #[] 0),#[]⟩ ::
⟨(.type "builtin_function_or_method"),none,(.fields #[(.builtin "type.__prepare__"),(.type "type")]),#[]⟩ ::
⟨(.type "dict"),none,(.dict #[hE P "__module__" 514 (.str "knotwise.moves" 430),hE P "__qualname__" 516 (.str "Move" 515),hE P "__firstlineno__" 518 (.int 130 517),hE P "__static_attributes__" 519 (.ref 254)] 4),#[]⟩ ::
⟨(.type "tuple"),none,(.seq #[] 0),#[]⟩ ::
⟨.none,none,(.fields #[]),#[]⟩ ::
hC "Move" 509 [hI 130,hI 0,hI 0,hI 0,hI 0,hR 250,(.bool .false),hI 181,hR 251,hN,hN,hN,hN,hI 512,hI 130,hS 513] ::
⟨(.type "frame"),none,.plain,#[(some (.ref 252)),(some (.ref 3)),(some (.ref 249)),none,(some (.str "knotwise.moves" 430)),none,(some (.ref 0))]⟩ ::
⟨(.type "tuple"),none,(.seq #[] 0),#[]⟩ ::
⟨(.type "dict"),none,(.dict #[hE P "__module__" 514 (.str "knotwise.moves" 430),hE P "__firstlineno__" 518 (.int 130 517),hE P "__static_attributes__" 519 (.ref 254),hE P "__dict__" 521 (.ref 257),hE P "__weakref__" 523 (.ref 258),hE P "__doc__" 524 .none] 4),#[]⟩ ::
⟨(.type "type"),none,(.cls ⟨"Move",[(.type "object")],[(.ref 256),(.type "object")],255,"Move",.true,[],[(.ref 312),(.ref 359),(.ref 413),(.ref 467)],.false,none,.false⟩),#[none,none,(some (.str "Move" 507)),(some (.str "Move" 515)),(some (.builtin "object.__new__")),(some (.bool .true))]⟩ ::
⟨(.type "getset_descriptor"),none,(.fields #[(.str "__dict__" 520),(.ref 256),(.builtin "function.__dict__"),(.builtin "function.__dict__#set")]),#[]⟩ ::
⟨(.type "getset_descriptor"),none,(.fields #[(.str "__weakref__" 522),(.ref 256),(.builtin "ExceptionGroup.__weakref__"),.none]),#[]⟩ ::
⟨(.type "super"),none,(.fields #[(.ref 256),(.ref 256),(.ref 256)]),#[]⟩ ::
⟨(.type "builtin_function_or_method"),none,(.fields #[(.builtin "object.__init_subclass__"),(.ref 256)]),#[]⟩ ::
⟨(.type "tuple"),none,(.seq #[(.ref 256)] 0),#[]⟩ ::
⟨(.type "builtin_function_or_method"),none,(.fields #[(.builtin "type.__prepare__"),(.type "type")]),#[]⟩ ::
⟨(.type "dict"),none,(.dict #[hE P "__module__" 534 (.str "knotwise.moves" 430),hE P "__qualname__" 536 (.str "Uncurl" 535),hE P "__firstlineno__" 538 (.int 132 537),hE P "__init__" 546 (.ref 274),hE P "told" 553 (.ref 281),hE P "refuse" 561 (.ref 288),hE P "done" 569 (.ref 295),hE P "back" 581 (.ref 302),hE P "renamed" 589 (.ref 309),hE P "__static_attributes__" 591 (.ref 310)] 10),#[]⟩ ::
⟨(.type "tuple"),none,(.seq #[] 0),#[]⟩ ::
⟨.none,none,(.fields #[(.int 134 0),(.int 4 0),(.ref 273),(.int 137 0),(.int 4 0),(.ref 280),(.int 140 0),(.int 4 0),(.ref 287),(.int 144 0),(.int 4 0),(.ref 294),(.int 148 0),(.int 4 0),(.ref 301),(.int 156 0),(.int 4 0),(.ref 308)]),#[]⟩ ::
hC "Uncurl" 529 [hI 132,hI 0,hI 0,hI 0,hI 0,hR 264,(.bool .false),hI 181,hR 265,hN,hN,hN,hN,hI 532,hI 132,hS 533] ::
⟨(.type "frame"),none,.plain,#[(some (.ref 266)),(some (.ref 3)),(some (.ref 263)),none,(some (.str "knotwise.moves" 430)),none,(some (.ref 0))]⟩ ::
⟨(.type "tuple"),none,(.seq #[] 0),#[]⟩ ::
⟨.none,none,(.fields #[]),#[]⟩ ::
⟨(.type "tuple"),none,(.seq #[(.str "self" 542),(.str "name" 543)] 0),#[]⟩ ::
⟨(.type "tuple"),none,(.seq #[] 0),#[]⟩ ::
hG (fi 36 0) "__init__" "Uncurl.__init__" 0 0 ::
⟨(.type "code"),none,(.fields #[(.str "__init__" 539),(.str "Uncurl.__init__" 540),(.str "/claim/cut.py" 541),(.int 134 0),(.int 2 0),(.int 0 0),(.int 0 0),(.int 3 0),(.ref 268),(.bool .true),(.int 181 0),(.ref 269),.none,(.ref 270),(.ref 271),(.ref 272),(.int 544 0),(.int 134 0),(.str "/claim/cut.py" 545)]),#[]⟩ ::
hM 36 0 "__init__" "Uncurl.__init__" (.str "knotwise.moves" 430) (.ref 273) ::
⟨(.type "tuple"),none,(.seq #[] 0),#[]⟩ ::
⟨.none,none,(.fields #[]),#[]⟩ ::
⟨(.type "tuple"),none,(.seq #[(.str "self" 550)] 0),#[]⟩ ::
⟨(.type "tuple"),none,(.seq #[] 0),#[]⟩ ::
hG (fi 36 1) "told" "Uncurl.told" 0 0 ::
⟨(.type "code"),none,(.fields #[(.str "told" 547),(.str "Uncurl.told" 548),(.str "/claim/cut.py" 549),(.int 137 0),(.int 1 0),(.int 0 0),(.int 0 0),(.int 3 0),(.ref 275),(.bool .true),(.int 181 0),(.ref 276),.none,(.ref 277),(.ref 278),(.ref 279),(.int 551 0),(.int 137 0),(.str "/claim/cut.py" 552)]),#[]⟩ ::
hM 36 1 "told" "Uncurl.told" (.str "knotwise.moves" 430) (.ref 280) ::
⟨(.type "tuple"),none,(.seq #[] 0),#[]⟩ ::
⟨.none,none,(.fields #[]),#[]⟩ ::
⟨(.type "tuple"),none,(.seq #[(.str "self" 557),(.str "drawing" 558)] 0),#[]⟩ ::
⟨(.type "tuple"),none,(.seq #[] 0),#[]⟩ ::
hG (fi 36 2) "refuse" "Uncurl.refuse" 0 0 ::
⟨(.type "code"),none,(.fields #[(.str "refuse" 554),(.str "Uncurl.refuse" 555),(.str "/claim/cut.py" 556),(.int 140 0),(.int 2 0),(.int 0 0),(.int 0 0),(.int 3 0),(.ref 282),(.bool .true),(.int 181 0),(.ref 283),.none,(.ref 284),(.ref 285),(.ref 286),(.int 559 0),(.int 140 0),(.str "/claim/cut.py" 560)]),#[]⟩ ::
hM 36 2 "refuse" "Uncurl.refuse" (.str "knotwise.moves" 430) (.ref 287) ::
⟨(.type "tuple"),none,(.seq #[] 0),#[]⟩ ::
⟨.none,none,(.fields #[]),#[]⟩ ::
⟨(.type "tuple"),none,(.seq #[(.str "self" 565),(.str "drawing" 566)] 0),#[]⟩ ::
⟨(.type "tuple"),none,(.seq #[] 0),#[]⟩ ::
hG (fi 36 3) "done" "Uncurl.done" 0 0 ::
⟨(.type "code"),none,(.fields #[(.str "done" 562),(.str "Uncurl.done" 563),(.str "/claim/cut.py" 564),(.int 144 0),(.int 2 0),(.int 0 0),(.int 0 0),(.int 3 0),(.ref 289),(.bool .true),(.int 181 0),(.ref 290),.none,(.ref 291),(.ref 292),(.ref 293),(.int 567 0),(.int 144 0),(.str "/claim/cut.py" 568)]),#[]⟩ ::
hM 36 3 "done" "Uncurl.done" (.str "knotwise.moves" 430) (.ref 294) ::
⟨(.type "tuple"),none,(.seq #[] 0),#[]⟩ ::
⟨.none,none,(.fields #[]),#[]⟩ ::
⟨(.type "tuple"),none,(.seq #[(.str "self" 573),(.str "drawing" 574),(.str "over" 575),(.str "under" 576),(.str "first" 577),(.str "spot" 578)] 0),#[]⟩ ::
⟨(.type "tuple"),none,(.seq #[] 0),#[]⟩ ::
hG (fi 36 4) "back" "Uncurl.back" 0 0 ::
⟨(.type "code"),none,(.fields #[(.str "back" 570),(.str "Uncurl.back" 571),(.str "/claim/cut.py" 572),(.int 148 0),(.int 2 0),(.int 0 0),(.int 0 0),(.int 3 0),(.ref 296),(.bool .true),(.int 181 0),(.ref 297),.none,(.ref 298),(.ref 299),(.ref 300),(.int 579 0),(.int 148 0),(.str "/claim/cut.py" 580)]),#[]⟩ ::
hM 36 4 "back" "Uncurl.back" (.str "knotwise.moves" 430) (.ref 301) ::
⟨(.type "tuple"),none,(.seq #[] 0),#[]⟩ ::
⟨.none,none,(.fields #[]),#[]⟩ ::
⟨(.type "tuple"),none,(.seq #[(.str "self" 585),(.str "names" 586)] 0),#[]⟩ ::
⟨(.type "tuple"),none,(.seq #[] 0),#[]⟩ ::
hG (fi 36 5) "renamed" "Uncurl.renamed" 0 0 ::
⟨(.type "code"),none,(.fields #[(.str "renamed" 582),(.str "Uncurl.renamed" 583),(.str "/claim/cut.py" 584),(.int 156 0),(.int 2 0),(.int 0 0),(.int 0 0),(.int 3 0),(.ref 303),(.bool .true),(.int 181 0),(.ref 304),.none,(.ref 305),(.ref 306),(.ref 307),(.int 587 0),(.int 156 0),(.str "/claim/cut.py" 588)]),#[]⟩ ::
hM 36 5 "renamed" "Uncurl.renamed" (.str "knotwise.moves" 430) (.ref 308) ::
⟨(.type "tuple"),none,(.seq #[(.str "name" 590)] 0),#[]⟩ ::
⟨(.type "dict"),none,(.dict #[hE P "__module__" 534 (.str "knotwise.moves" 430),hE P "__firstlineno__" 538 (.int 132 537),hE P "__init__" 546 (.ref 274),hE P "told" 553 (.ref 281),hE P "refuse" 561 (.ref 288),hE P "done" 569 (.ref 295),hE P "back" 581 (.ref 302),hE P "renamed" 589 (.ref 309),hE P "__static_attributes__" 591 (.ref 310),hE P "__doc__" 592 .none] 2),#[]⟩ ::
⟨(.type "type"),none,(.cls ⟨"Uncurl",[(.ref 256)],[(.ref 312),(.ref 256),(.type "object")],311,"Uncurl",.true,[],[],.false,none,.false⟩),#[(some (.ref 261)),none,(some (.str "Uncurl" 527)),(some (.str "Uncurl" 535)),(some (.builtin "object.__new__")),(some (.bool .true))]⟩ ::
⟨(.type "super"),none,(.fields #[(.ref 312),(.ref 312),(.ref 312)]),#[]⟩ ::
⟨(.type "builtin_function_or_method"),none,(.fields #[(.builtin "object.__init_subclass__"),(.ref 312)]),#[]⟩ ::
⟨(.type "tuple"),none,(.seq #[(.ref 256)] 0),#[]⟩ ::
⟨(.type "builtin_function_or_method"),none,(.fields #[(.builtin "type.__prepare__"),(.type "type")]),#[]⟩ ::
⟨(.type "dict"),none,(.dict #[hE P "__module__" 602 (.str "knotwise.moves" 430),hE P "__qualname__" 604 (.str "Curl" 603),hE P "__firstlineno__" 606 (.int 158 605),hE P "__init__" 617 (.ref 328),hE P "told" 624 (.ref 335),hE P "done" 633 (.ref 342),hE P "back" 641 (.ref 349),hE P "renamed" 649 (.ref 356),hE P "__static_attributes__" 654 (.ref 357)] 9),#[]⟩ ::
⟨(.type "tuple"),none,(.seq #[] 0),#[]⟩ ::
⟨.none,none,(.fields #[(.int 160 0),(.int 4 0),(.ref 327),(.int 166 0),(.int 4 0),(.ref 334),(.int 169 0),(.int 4 0),(.ref 341),(.int 174 0),(.int 4 0),(.ref 348),(.int 178 0),(.int 4 0),(.ref 355)]),#[]⟩ ::
hC "Curl" 597 [hI 158,hI 0,hI 0,hI 0,hI 0,hR 318,(.bool .false),hI 181,hR 319,hN,hN,hN,hN,hI 600,hI 158,hS 601] ::
⟨(.type "frame"),none,.plain,#[(some (.ref 320)),(some (.ref 3)),(some (.ref 317)),none,(some (.str "knotwise.moves" 430)),none,(some (.ref 0))]⟩ ::
⟨(.type "tuple"),none,(.seq #[] 0),#[]⟩ ::
⟨.none,none,(.fields #[]),#[]⟩ ::
⟨(.type "tuple"),none,(.seq #[(.str "self" 610),(.str "name" 611),(.str "spot" 612),(.str "first" 613),(.str "hand" 614)] 0),#[]⟩ ::
⟨(.type "tuple"),none,(.seq #[] 0),#[]⟩ ::
hG (fi 37 0) "__init__" "Curl.__init__" 0 0 ::
⟨(.type "code"),none,(.fields #[(.str "__init__" 607),(.str "Curl.__init__" 608),(.str "/claim/cut.py" 609),(.int 160 0),(.int 5 0),(.int 0 0),(.int 0 0),(.int 3 0),(.ref 322),(.bool .true),(.int 181 0),(.ref 323),.none,(.ref 324),(.ref 325),(.ref 326),(.int 615 0),(.int 160 0),(.str "/claim/cut.py" 616)]),#[]⟩ ::
hM 37 0 "__init__" "Curl.__init__" (.str "knotwise.moves" 430) (.ref 327) ::
⟨(.type "tuple"),none,(.seq #[] 0),#[]⟩ ::
⟨.none,none,(.fields #[]),#[]⟩ ::
⟨(.type "tuple"),none,(.seq #[(.str "self" 621)] 0),#[]⟩ ::
⟨(.type "tuple"),none,(.seq #[] 0),#[]⟩ ::
hG (fi 37 1) "told" "Curl.told" 0 0 ::
⟨(.type "code"),none,(.fields #[(.str "told" 618),(.str "Curl.told" 619),(.str "/claim/cut.py" 620),(.int 166 0),(.int 1 0),(.int 0 0),(.int 0 0),(.int 3 0),(.ref 329),(.bool .true),(.int 181 0),(.ref 330),.none,(.ref 331),(.ref 332),(.ref 333),(.int 622 0),(.int 166 0),(.str "/claim/cut.py" 623)]),#[]⟩ ::
hM 37 1 "told" "Curl.told" (.str "knotwise.moves" 430) (.ref 334) ::
⟨(.type "tuple"),none,(.seq #[] 0),#[]⟩ ::
⟨.none,none,(.fields #[]),#[]⟩ ::
⟨(.type "tuple"),none,(.seq #[(.str "self" 628),(.str "drawing" 629),(.str "passings" 630)] 0),#[]⟩ ::
⟨(.type "tuple"),none,(.seq #[] 0),#[]⟩ ::
hG (fi 37 2) "done" "Curl.done" 0 0 ::
⟨(.type "code"),none,(.fields #[(.str "done" 625),(.str "Curl.done" 626),(.str "/claim/cut.py" 627),(.int 169 0),(.int 2 0),(.int 0 0),(.int 0 0),(.int 3 0),(.ref 336),(.bool .true),(.int 181 0),(.ref 337),.none,(.ref 338),(.ref 339),(.ref 340),(.int 631 0),(.int 169 0),(.str "/claim/cut.py" 632)]),#[]⟩ ::
hM 37 2 "done" "Curl.done" (.str "knotwise.moves" 430) (.ref 341) ::
⟨(.type "tuple"),none,(.seq #[] 0),#[]⟩ ::
⟨.none,none,(.fields #[]),#[]⟩ ::
⟨(.type "tuple"),none,(.seq #[(.str "self" 637),(.str "drawing" 638)] 0),#[]⟩ ::
⟨(.type "tuple"),none,(.seq #[] 0),#[]⟩ ::
hG (fi 37 3) "back" "Curl.back" 0 0 ::
⟨(.type "code"),none,(.fields #[(.str "back" 634),(.str "Curl.back" 635),(.str "/claim/cut.py" 636),(.int 174 0),(.int 2 0),(.int 0 0),(.int 0 0),(.int 3 0),(.ref 343),(.bool .true),(.int 181 0),(.ref 344),.none,(.ref 345),(.ref 346),(.ref 347),(.int 639 0),(.int 174 0),(.str "/claim/cut.py" 640)]),#[]⟩ ::
hM 37 3 "back" "Curl.back" (.str "knotwise.moves" 430) (.ref 348) ::
⟨(.type "tuple"),none,(.seq #[] 0),#[]⟩ ::
⟨.none,none,(.fields #[]),#[]⟩ ::
⟨(.type "tuple"),none,(.seq #[(.str "self" 645),(.str "names" 646)] 0),#[]⟩ ::
⟨(.type "tuple"),none,(.seq #[] 0),#[]⟩ ::
hG (fi 37 4) "renamed" "Curl.renamed" 0 0 ::
⟨(.type "code"),none,(.fields #[(.str "renamed" 642),(.str "Curl.renamed" 643),(.str "/claim/cut.py" 644),(.int 178 0),(.int 2 0),(.int 0 0),(.int 0 0),(.int 3 0),(.ref 350),(.bool .true),(.int 181 0),(.ref 351),.none,(.ref 352),(.ref 353),(.ref 354),(.int 647 0),(.int 178 0),(.str "/claim/cut.py" 648)]),#[]⟩ ::
hM 37 4 "renamed" "Curl.renamed" (.str "knotwise.moves" 430) (.ref 355) ::
⟨(.type "tuple"),none,(.seq #[(.str "first" 650),(.str "hand" 651),(.str "name" 652),(.str "spot" 653)] 0),#[]⟩ ::
⟨(.type "dict"),none,(.dict #[hE P "__module__" 602 (.str "knotwise.moves" 430),hE P "__firstlineno__" 606 (.int 158 605),hE P "__init__" 617 (.ref 328),hE P "told" 624 (.ref 335),hE P "done" 633 (.ref 342),hE P "back" 641 (.ref 349),hE P "renamed" 649 (.ref 356),hE P "__static_attributes__" 654 (.ref 357),hE P "__doc__" 655 .none] 2),#[]⟩ ::
⟨(.type "type"),none,(.cls ⟨"Curl",[(.ref 256)],[(.ref 359),(.ref 256),(.type "object")],358,"Curl",.true,[],[],.false,none,.false⟩),#[(some (.ref 315)),none,(some (.str "Curl" 595)),(some (.str "Curl" 603)),(some (.builtin "object.__new__")),(some (.bool .true))]⟩ ::
⟨(.type "super"),none,(.fields #[(.ref 359),(.ref 359),(.ref 359)]),#[]⟩ ::
⟨(.type "builtin_function_or_method"),none,(.fields #[(.builtin "object.__init_subclass__"),(.ref 359)]),#[]⟩ ::
⟨(.type "tuple"),none,(.seq #[(.ref 256)] 0),#[]⟩ ::
⟨(.type "builtin_function_or_method"),none,(.fields #[(.builtin "type.__prepare__"),(.type "type")]),#[]⟩ ::
⟨(.type "dict"),none,(.dict #[hE P "__module__" 665 (.str "knotwise.moves" 430),hE P "__qualname__" 667 (.str "Part" 666),hE P "__firstlineno__" 669 (.int 180 668),hE P "__init__" 678 (.ref 375),hE P "told" 685 (.ref 382),hE P "refuse" 693 (.ref 389),hE P "done" 701 (.ref 396),hE P "back" 717 (.ref 403),hE P "renamed" 725 (.ref 410),hE P "__static_attributes__" 728 (.ref 411)] 10),#[]⟩ ::
⟨(.type "tuple"),none,(.seq #[] 0),#[]⟩ ::
⟨.none,none,(.fields #[(.int 182 0),(.int 4 0),(.ref 374),(.int 186 0),(.int 4 0),(.ref 381),(.int 189 0),(.int 4 0),(.ref 388),(.int 193 0),(.int 4 0),(.ref 395),(.int 197 0),(.int 4 0),(.ref 402),(.int 209 0),(.int 4 0),(.ref 409)]),#[]⟩ ::
hC "Part" 660 [hI 180,hI 0,hI 0,hI 0,hI 0,hR 365,(.bool .false),hI 181,hR 366,hN,hN,hN,hN,hI 663,hI 180,hS 664] ::
⟨(.type "frame"),none,.plain,#[(some (.ref 367)),(some (.ref 3)),(some (.ref 364)),none,(some (.str "knotwise.moves" 430)),none,(some (.ref 0))]⟩ ::
⟨(.type "tuple"),none,(.seq #[] 0),#[]⟩ ::
⟨.none,none,(.fields #[]),#[]⟩ ::
⟨(.type "tuple"),none,(.seq #[(.str "self" 673),(.str "name" 674),(.str "second" 675)] 0),#[]⟩ ::
⟨(.type "tuple"),none,(.seq #[] 0),#[]⟩ ::
hG (fi 38 0) "__init__" "Part.__init__" 0 0 ::
⟨(.type "code"),none,(.fields #[(.str "__init__" 670),(.str "Part.__init__" 671),(.str "/claim/cut.py" 672),(.int 182 0),(.int 3 0),(.int 0 0),(.int 0 0),(.int 3 0),(.ref 369),(.bool .true),(.int 181 0),(.ref 370),.none,(.ref 371),(.ref 372),(.ref 373),(.int 676 0),(.int 182 0),(.str "/claim/cut.py" 677)]),#[]⟩ ::
hM 38 0 "__init__" "Part.__init__" (.str "knotwise.moves" 430) (.ref 374) ::
⟨(.type "tuple"),none,(.seq #[] 0),#[]⟩ ::
⟨.none,none,(.fields #[]),#[]⟩ ::
⟨(.type "tuple"),none,(.seq #[(.str "self" 682)] 0),#[]⟩ ::
⟨(.type "tuple"),none,(.seq #[] 0),#[]⟩ ::
hG (fi 38 1) "told" "Part.told" 0 0 ::
⟨(.type "code"),none,(.fields #[(.str "told" 679),(.str "Part.told" 680),(.str "/claim/cut.py" 681),(.int 186 0),(.int 1 0),(.int 0 0),(.int 0 0),(.int 3 0),(.ref 376),(.bool .true),(.int 181 0),(.ref 377),.none,(.ref 378),(.ref 379),(.ref 380),(.int 683 0),(.int 186 0),(.str "/claim/cut.py" 684)]),#[]⟩ ::
hM 38 1 "told" "Part.told" (.str "knotwise.moves" 430) (.ref 381) ::
⟨(.type "tuple"),none,(.seq #[] 0),#[]⟩ ::
⟨.none,none,(.fields #[]),#[]⟩ ::
⟨(.type "tuple"),none,(.seq #[(.str "self" 689),(.str "drawing" 690)] 0),#[]⟩ ::
⟨(.type "tuple"),none,(.seq #[] 0),#[]⟩ ::
hG (fi 38 2) "refuse" "Part.refuse" 0 0 ::
⟨(.type "code"),none,(.fields #[(.str "refuse" 686),(.str "Part.refuse" 687),(.str "/claim/cut.py" 688),(.int 189 0),(.int 2 0),(.int 0 0),(.int 0 0),(.int 3 0),(.ref 383),(.bool .true),(.int 181 0),(.ref 384),.none,(.ref 385),(.ref 386),(.ref 387),(.int 691 0),(.int 189 0),(.str "/claim/cut.py" 692)]),#[]⟩ ::
hM 38 2 "refuse" "Part.refuse" (.str "knotwise.moves" 430) (.ref 388) ::
⟨(.type "tuple"),none,(.seq #[] 0),#[]⟩ ::
⟨.none,none,(.fields #[]),#[]⟩ ::
⟨(.type "tuple"),none,(.seq #[(.str "self" 697),(.str "drawing" 698)] 0),#[]⟩ ::
⟨(.type "tuple"),none,(.seq #[] 0),#[]⟩ ::
hG (fi 38 3) "done" "Part.done" 0 0 ::
⟨(.type "code"),none,(.fields #[(.str "done" 694),(.str "Part.done" 695),(.str "/claim/cut.py" 696),(.int 193 0),(.int 2 0),(.int 0 0),(.int 0 0),(.int 3 0),(.ref 390),(.bool .true),(.int 181 0),(.ref 391),.none,(.ref 392),(.ref 393),(.ref 394),(.int 699 0),(.int 193 0),(.str "/claim/cut.py" 700)]),#[]⟩ ::
hM 38 3 "done" "Part.done" (.str "knotwise.moves" 430) (.ref 395) ::
⟨(.type "tuple"),none,(.seq #[] 0),#[]⟩ ::
⟨.none,none,(.fields #[]),#[]⟩ ::
⟨(.type "tuple"),none,(.seq #[(.str "self" 705),(.str "drawing" 706),(.str "first" 707),(.str "other" 708),(.str "lower" 709),(.str "overs" 710),(.str "unders" 711),(.str "over" 712),(.str "under" 713),(.str "turned" 714)] 0),#[]⟩ ::
⟨(.type "tuple"),none,(.seq #[] 0),#[]⟩ ::
hG (fi 38 4) "back" "Part.back" 0 0 ::
⟨(.type "code"),none,(.fields #[(.str "back" 702),(.str "Part.back" 703),(.str "/claim/cut.py" 704),(.int 197 0),(.int 2 0),(.int 0 0),(.int 0 0),(.int 3 0),(.ref 397),(.bool .true),(.int 181 0),(.ref 398),.none,(.ref 399),(.ref 400),(.ref 401),(.int 715 0),(.int 197 0),(.str "/claim/cut.py" 716)]),#[]⟩ ::
hM 38 4 "back" "Part.back" (.str "knotwise.moves" 430) (.ref 402) ::
⟨(.type "tuple"),none,(.seq #[] 0),#[]⟩ ::
⟨.none,none,(.fields #[]),#[]⟩ ::
⟨(.type "tuple"),none,(.seq #[(.str "self" 721),(.str "names" 722)] 0),#[]⟩ ::
⟨(.type "tuple"),none,(.seq #[] 0),#[]⟩ ::
hG (fi 38 5) "renamed" "Part.renamed" 0 0 ::
⟨(.type "code"),none,(.fields #[(.str "renamed" 718),(.str "Part.renamed" 719),(.str "/claim/cut.py" 720),(.int 209 0),(.int 2 0),(.int 0 0),(.int 0 0),(.int 3 0),(.ref 404),(.bool .true),(.int 181 0),(.ref 405),.none,(.ref 406),(.ref 407),(.ref 408),(.int 723 0),(.int 209 0),(.str "/claim/cut.py" 724)]),#[]⟩ ::
hM 38 5 "renamed" "Part.renamed" (.str "knotwise.moves" 430) (.ref 409) ::
⟨(.type "tuple"),none,(.seq #[(.str "name" 726),(.str "second" 727)] 0),#[]⟩ ::
⟨(.type "dict"),none,(.dict #[hE P "__module__" 665 (.str "knotwise.moves" 430),hE P "__firstlineno__" 669 (.int 180 668),hE P "__init__" 678 (.ref 375),hE P "told" 685 (.ref 382),hE P "refuse" 693 (.ref 389),hE P "done" 701 (.ref 396),hE P "back" 717 (.ref 403),hE P "renamed" 725 (.ref 410),hE P "__static_attributes__" 728 (.ref 411),hE P "__doc__" 729 .none] 2),#[]⟩ ::
⟨(.type "type"),none,(.cls ⟨"Part",[(.ref 256)],[(.ref 413),(.ref 256),(.type "object")],412,"Part",.true,[],[],.false,none,.false⟩),#[(some (.ref 362)),none,(some (.str "Part" 658)),(some (.str "Part" 666)),(some (.builtin "object.__new__")),(some (.bool .true))]⟩ ::
⟨(.type "super"),none,(.fields #[(.ref 413),(.ref 413),(.ref 413)]),#[]⟩ ::
⟨(.type "builtin_function_or_method"),none,(.fields #[(.builtin "object.__init_subclass__"),(.ref 413)]),#[]⟩ ::
⟨(.type "tuple"),none,(.seq #[(.ref 256)] 0),#[]⟩ ::
⟨(.type "builtin_function_or_method"),none,(.fields #[(.builtin "type.__prepare__"),(.type "type")]),#[]⟩ ::
⟨(.type "dict"),none,(.dict #[hE P "__module__" 739 (.str "knotwise.moves" 430),hE P "__qualname__" 741 (.str "Lay" 740),hE P "__firstlineno__" 743 (.int 211 742),hE P "__init__" 756 (.ref 429),hE P "told" 763 (.ref 436),hE P "passings" 771 (.ref 443),hE P "done" 781 (.ref 450),hE P "back" 789 (.ref 457),hE P "renamed" 801 (.ref 464),hE P "__static_attributes__" 808 (.ref 465)] 10),#[]⟩ ::
⟨(.type "tuple"),none,(.seq #[] 0),#[]⟩ ::
⟨.none,none,(.fields #[(.int 213 0),(.int 4 0),(.ref 428),(.int 221 0),(.int 4 0),(.ref 435),(.int 224 0),(.int 4 0),(.ref 442),(.int 227 0),(.int 4 0),(.ref 449),(.int 235 0),(.int 4 0),(.ref 456),(.int 239 0),(.int 4 0),(.ref 463)]),#[]⟩ ::
hC "Lay" 734 [hI 211,hI 0,hI 0,hI 0,hI 0,hR 419,(.bool .false),hI 181,hR 420,hN,hN,hN,hN,hI 737,hI 211,hS 738] ::
⟨(.type "frame"),none,.plain,#[(some (.ref 421)),(some (.ref 3)),(some (.ref 418)),none,(some (.str "knotwise.moves" 430)),none,(some (.ref 0))]⟩ ::
⟨(.type "tuple"),none,(.seq #[] 0),#[]⟩ ::
⟨.none,none,(.fields #[]),#[]⟩ ::
⟨(.type "tuple"),none,(.seq #[(.str "self" 747),(.str "name" 748),(.str "second" 749),(.str "over" 750),(.str "under" 751),(.str "turned" 752),(.str "hand" 753)] 0),#[]⟩ ::
⟨(.type "tuple"),none,(.seq #[] 0),#[]⟩ ::
hG (fi 39 0) "__init__" "Lay.__init__" 0 0 ::
⟨(.type "code"),none,(.fields #[(.str "__init__" 744),(.str "Lay.__init__" 745),(.str "/claim/cut.py" 746),(.int 213 0),(.int 7 0),(.int 0 0),(.int 0 0),(.int 3 0),(.ref 423),(.bool .true),(.int 181 0),(.ref 424),.none,(.ref 425),(.ref 426),(.ref 427),(.int 754 0),(.int 213 0),(.str "/claim/cut.py" 755)]),#[]⟩ ::
hM 39 0 "__init__" "Lay.__init__" (.str "knotwise.moves" 430) (.ref 428) ::
⟨(.type "tuple"),none,(.seq #[] 0),#[]⟩ ::
⟨.none,none,(.fields #[]),#[]⟩ ::
⟨(.type "tuple"),none,(.seq #[(.str "self" 760)] 0),#[]⟩ ::
⟨(.type "tuple"),none,(.seq #[] 0),#[]⟩ ::
hG (fi 39 1) "told" "Lay.told" 0 0 ::
⟨(.type "code"),none,(.fields #[(.str "told" 757),(.str "Lay.told" 758),(.str "/claim/cut.py" 759),(.int 221 0),(.int 1 0),(.int 0 0),(.int 0 0),(.int 3 0),(.ref 430),(.bool .true),(.int 181 0),(.ref 431),.none,(.ref 432),(.ref 433),(.ref 434),(.int 761 0),(.int 221 0),(.str "/claim/cut.py" 762)]),#[]⟩ ::
hM 39 1 "told" "Lay.told" (.str "knotwise.moves" 430) (.ref 435) ::
⟨(.type "tuple"),none,(.seq #[] 0),#[]⟩ ::
⟨.none,none,(.fields #[]),#[]⟩ ::
⟨(.type "tuple"),none,(.seq #[(.str "self" 767),(.str "way" 768)] 0),#[]⟩ ::
⟨(.type "tuple"),none,(.seq #[] 0),#[]⟩ ::
hG (fi 39 2) "passings" "Lay.passings" 0 0 ::
⟨(.type "code"),none,(.fields #[(.str "passings" 764),(.str "Lay.passings" 765),(.str "/claim/cut.py" 766),(.int 224 0),(.int 2 0),(.int 0 0),(.int 0 0),(.int 3 0),(.ref 437),(.bool .true),(.int 181 0),(.ref 438),.none,(.ref 439),(.ref 440),(.ref 441),(.int 769 0),(.int 224 0),(.str "/claim/cut.py" 770)]),#[]⟩ ::
hM 39 2 "passings" "Lay.passings" (.str "knotwise.moves" 430) (.ref 442) ::
⟨(.type "tuple"),none,(.seq #[] 0),#[]⟩ ::
⟨.none,none,(.fields #[]),#[]⟩ ::
⟨(.type "tuple"),none,(.seq #[(.str "self" 775),(.str "drawing" 776),(.str "above" 777),(.str "unders" 778)] 0),#[]⟩ ::
⟨(.type "tuple"),none,(.seq #[] 0),#[]⟩ ::
hG (fi 39 3) "done" "Lay.done" 0 0 ::
⟨(.type "code"),none,(.fields #[(.str "done" 772),(.str "Lay.done" 773),(.str "/claim/cut.py" 774),(.int 227 0),(.int 2 0),(.int 0 0),(.int 0 0),(.int 3 0),(.ref 444),(.bool .true),(.int 181 0),(.ref 445),.none,(.ref 446),(.ref 447),(.ref 448),(.int 779 0),(.int 227 0),(.str "/claim/cut.py" 780)]),#[]⟩ ::
hM 39 3 "done" "Lay.done" (.str "knotwise.moves" 430) (.ref 449) ::
⟨(.type "tuple"),none,(.seq #[] 0),#[]⟩ ::
⟨.none,none,(.fields #[]),#[]⟩ ::
⟨(.type "tuple"),none,(.seq #[(.str "self" 785),(.str "drawing" 786)] 0),#[]⟩ ::
⟨(.type "tuple"),none,(.seq #[] 0),#[]⟩ ::
hG (fi 39 4) "back" "Lay.back" 0 0 ::
⟨(.type "code"),none,(.fields #[(.str "back" 782),(.str "Lay.back" 783),(.str "/claim/cut.py" 784),(.int 235 0),(.int 2 0),(.int 0 0),(.int 0 0),(.int 3 0),(.ref 451),(.bool .true),(.int 181 0),(.ref 452),.none,(.ref 453),(.ref 454),(.ref 455),(.int 787 0),(.int 235 0),(.str "/claim/cut.py" 788)]),#[]⟩ ::
hM 39 4 "back" "Lay.back" (.str "knotwise.moves" 430) (.ref 456) ::
⟨(.type "tuple"),none,(.seq #[] 0),#[]⟩ ::
⟨.none,none,(.fields #[]),#[]⟩ ::
⟨(.type "tuple"),none,(.seq #[(.str "self" 793),(.str "names" 794),(.str "name" 795),(.str "second" 796),(.str "over" 797),(.str "under" 798)] 0),#[]⟩ ::
⟨(.type "tuple"),none,(.seq #[] 0),#[]⟩ ::
hG (fi 39 5) "renamed" "Lay.renamed" 0 0 ::
⟨(.type "code"),none,(.fields #[(.str "renamed" 790),(.str "Lay.renamed" 791),(.str "/claim/cut.py" 792),(.int 239 0),(.int 2 0),(.int 0 0),(.int 0 0),(.int 3 0),(.ref 458),(.bool .true),(.int 181 0),(.ref 459),.none,(.ref 460),(.ref 461),(.ref 462),(.int 799 0),(.int 239 0),(.str "/claim/cut.py" 800)]),#[]⟩ ::
hM 39 5 "renamed" "Lay.renamed" (.str "knotwise.moves" 430) (.ref 463) ::
⟨(.type "tuple"),none,(.seq #[(.str "hand" 802),(.str "name" 803),(.str "over" 804),(.str "second" 805),(.str "turned" 806),(.str "under" 807)] 0),#[]⟩ ::
⟨(.type "dict"),none,(.dict #[hE P "__module__" 739 (.str "knotwise.moves" 430),hE P "__firstlineno__" 743 (.int 211 742),hE P "__init__" 756 (.ref 429),hE P "told" 763 (.ref 436),hE P "passings" 771 (.ref 443),hE P "done" 781 (.ref 450),hE P "back" 789 (.ref 457),hE P "renamed" 801 (.ref 464),hE P "__static_attributes__" 808 (.ref 465),hE P "__doc__" 809 .none] 2),#[]⟩ ::
⟨(.type "type"),none,(.cls ⟨"Lay",[(.ref 256)],[(.ref 467),(.ref 256),(.type "object")],466,"Lay",.true,[],[],.false,none,.false⟩),#[(some (.ref 416)),none,(some (.str "Lay" 732)),(some (.str "Lay" 740)),(some (.builtin "object.__new__")),(some (.bool .true))]⟩ ::
⟨(.type "super"),none,(.fields #[(.ref 467),(.ref 467),(.ref 467)]),#[]⟩ ::
⟨(.type "builtin_function_or_method"),none,(.fields #[(.builtin "object.__init_subclass__"),(.ref 467)]),#[]⟩ :: []
noncomputable def LH(w:World)(os:iw):jx:=⟨K2.bt (N3 w.params),470,{},gP [],fH,812,os⟩
noncomputable def hL:List Str:=[]
theorem M8 (P:mx):((eh P).isNs aX,(eh P).objs.size,(eh P).nsMap aX "__annotations__")=(true,11,(some (.ref 6))):=by kernel_rfl
theorem Hk(w:World)(os:iw):K2.Ho fF PySem.Challenge.rw_knotwise_k26_moves_told_and_renamed.row.prog w 11 (some (.ref 6)) 12 (K2.BN w.params os) (topStub PySem.Challenge.rw_knotwise_k26_moves_told_and_renamed.row.prog)=some (LL w os,⟨denote fF cC,cC,⟨0,0,0,0⟩,[jS cQ]⟩):=by kernel_rfl
theorem Hm(w:World)(os:iw):segRunT fF PySem.Challenge.rw_knotwise_k26_moves_told_and_renamed.row.prog w 11 (some (.ref 6)) 1 1 (LL w os) (blockOf cB cE cC ⟨0,0,0,0⟩ [jS cQ])=some (.next,LK w os,cC,⟨0,0,0,0⟩):=by kernel_rfl
theorem Kj(w:World)(os:iw):segRunT fF PySem.Challenge.rw_knotwise_k26_moves_told_and_renamed.row.prog w 11 (some (.ref 6)) 1 1261 (LK w os) (piecesOf (cB.take 7) cE cC ⟨0,0,0,0⟩ [jS cQ])=some (.next,LJ w os,cC,⟨12,0,13,8⟩):=by kernel_rfl
theorem Ki(w:World)(os:iw):segRunT fF PySem.Challenge.rw_knotwise_k26_moves_told_and_renamed.row.prog w 11 (some (.ref 6)) 1 1536 (LJ w os) (piecesOf ((cB.drop 7).take 30) cE cC ⟨12,0,13,8⟩ [jS cQ])=some (.next,LI w os,cC,⟨132,0,157,54⟩):=by kernel_rfl
theorem Kh(w:World)(os:iw):segRunT fF PySem.Challenge.rw_knotwise_k26_moves_told_and_renamed.row.prog w 11 (some (.ref 6)) 1 1214 (LI w os) (piecesOf (((cB.drop 7).drop 30).take 3) cE cC ⟨132,0,157,54⟩ [jS cQ])=some (.next,LH w os,cC,⟨211,0,244,69⟩):=by kernel_rfl
theorem Hl(w:World)(os:iw):(K2.nt fF PySem.Challenge.rw_knotwise_k26_moves_told_and_renamed.row.prog w 11 (some (.ref 6)) 815 (LH w os) (restOf (((cB.drop 7).drop 30).drop 3) cE cC ⟨211,0,244,69⟩ [jS cQ])).map (fun s=>K2.DP PySem.Challenge.rw_knotwise_k26_moves_told_and_renamed.row.prog hQ hL (K2.Ea aT hQ) (fun s=>hA.map s.heap.get?) w.params s.abs)=some (true,zx hQ hL,(hK w.params).map fun p=>some p.2):=by kernel_rfl
theorem E6(w:World)(os:iw):(topFrom fF (aT).row.prog w (12+(1+(1261+(1536+(1214+815))))) ⟨eh w.params,gP [],fH,nk,os⟩).map (fun s=>(openSeen hQ hL (iL (aT).row.prog.main.body) (K2.Ea aT hQ) true s,hA.map s.heap.get?))=some (zx hQ hL,(hK w.params).map fun p=>some p.2) :=
 K2.CB (Yf:=fun s=>hA.map s.heap.get?) (Ya:=fun w=>(hK w.params).map fun p=>some p.2) (M8 w.params) (Hl w os) fun _ k=>K2.zm (Hk w os) (Hm w os) <| K2.rB 7 (Kj w os) <| K2.rB 30 (Ki w os) <| K2.rB 3 (Kh w os) <| k
theorem E5:(aT).wellSaid=true:=by kernel_rfl
theorem E4:K2.xW aT hQ=true:=by kernel_rfl
end
section
variable {P:bx} {w:World} {K:ah} {mg:Str->Option Value} {base:Heap}
theorem qz:bO ["_law_script","_law_k"] ["_law_script","_law_k"] (aU (top 43)):=oq
theorem q5 {f:Addr} {fd:ay} (F:k6 K "_law_cell_at" "_law_cell_at" (top 43) f fd) (gu:mg "len" = none):dW P w K mg base fT 1 f fd ["_law_script","_law_k"] (bX K bS) :=
 ot F qz rL fun _ _ _ _ _ _ hr=>have hu:=hr.units; have ME:=hr.Ec; (aB (bY (bV (EG ME) (aW 1) (gW g7 rfl gu m4 (ae (aW 0) az)) (cD _)) (aF (bh (bH (aM hu (aW 0) (aW 1) (fun _ _=>rfl))))) bj)
 (aF (bh (bH av))))
theorem qx:bO ["_law_names","_law_cell"] ["_law_names","_law_cell"] (aU (top 50)):=oq
theorem q0 {f:Addr} {fd:ay} (F:k6 K "_law_spot_by" "_law_spot_by" (top 50) f fd) (gu:mg "len" = none):dW P w K mg base fT 1 f fd ["_law_names","_law_cell"] (bX K fI) :=
 ot F qx rK fun _ _ _ _ _ _ hr=>have hu:=hr.units; (aB (bY (bV (dv hu) (cq et (aW 1) av) av (cD _)) (aF (bh (bH (fA (ae (cq et (cq iR (aW 1) av) av) (ae av az)))))) bj)
 (aF (bh (bH (fA (ae (aM hu (aW 0) (cq et (cq iR (aW 1) av) (gW g7 rfl gu m4 (ae (aW 0) az))) (fun _ _=>rfl)) (ae (cq et (aW 1) av) az)))))))
theorem lq:bO ["_law_script","_law_names","_law_one","_law_two","_law_three","_law_bits","_law_sign","_law_over","_law_under"] ["_law_script","_law_names"] (aU (top 51)):=oq
theorem qZ {f:Addr} {fd:ay} (F:k6 K "_law_told_by" "_law_told_by" (top 51) f fd) {jN:Addr} {jO:ay} (aH:xN P w K mg base fT 1 jN jO "_law_cell_at" ["_law_script","_law_k"] (bX K bS)) {sC:Addr} {sH:ay} (dF:xN P w K mg base fT 1 sC sH "_law_spot_by" ["_law_names","_law_cell"] (bX K fI)):dW P w K mg base fT 2 f fd ["_law_script","_law_names"] (bX K gG) :=
 ot F lq rJ fun _ _ _ _ _ _ hr=>have nd:=lq.nd; have hu:=hr.units; (aB (qf (yS (aW 1) AJ (AI av)) (CT rfl (oK (CS (i:=2) nd rfl) (oK (CS (i:=3) nd rfl) (oK (CS (i:=4) nd rfl) AL))) (oR (oR (oR Bm)))))
 (aB (tm (i:=5) nd rfl (bC aH.ok (hr.mono (by decide)) rfl aH.mg aH.kp aH.bi (ae (aW 0) (ae av az))))
 (aB (tm (i:=6) nd rfl (cq C5 av (cq C8 av (cq et (cq iR (aW 5) av) av))))
 (aB (tm (i:=7) nd rfl (bC dF.ok (hr.mono (by decide)) rfl dF.mg dF.kp dF.bi (ae (aW 1) (ae (bC aH.ok (hr.mono (by decide)) rfl aH.mg aH.kp aH.bi (ae (aW 0) (ae av az))) az))))
 (aB (tm (i:=8) nd rfl (bC dF.ok (hr.mono (by decide)) rfl dF.mg dF.kp dF.bi (ae (aW 1) (ae (bC aH.ok (hr.mono (by decide)) rfl aH.mg aH.kp aH.bi (ae (aW 0) (ae av az))) az))))
 (aB (bY (bV (dv hu) (cq et (aW 5) av) av (cD _)) (aF (bh (bH (fA (ae bZ (ae (aW 2) (ae (aW 3) (ae (aW 7) (ae (aW 8) (ae (cq et (cq iR (aW 5) av) av) (ae (aW 6) az))))))))))) bj)
 (aB (bY (bV (dv hu) (cq et (aW 5) av) av (cD _)) (aF (bh (bH (fA (ae bZ (ae (aW 2) (ae (aW 3) (ae (aW 4) (ae (aW 6) az))))))))) bj)
 (aB (bY (bV (dv hu) (cq et (aW 5) av) av (cD _)) (aF (bh (bH (fA (ae bZ (ae (aW 2) (ae (aW 7) (ae (cq et (cq iR (aW 5) av) av) (ae (aW 6) az))))))))) bj)
 (aB (bY (bV (dv hu) (cq et (aW 5) av) av (cD _)) (aF (bh (bH (fA (ae bZ (ae (aW 2) (ae (aW 3) az))))))) bj)
 (aF (bh (bH (fA (ae bZ (ae (aW 2) az)))))))))))))))
theorem mJ:bO ["self","name"] ["self","name"] (aU (fi 36 0)):=oq
theorem mV {f:Addr} {fd:ay} (F:k6 K "__init__" "Uncurl.__init__" (fi 36 0) f fd) (eW:cS K "name" "Uncurl"):dW P w K mg base fT 1 f fd ["self","name"] (bX K cz) :=
 ot F mJ ng fun _ _ _ _ _ _ hr=>(aF (df (cR eW) (aW 0) (aW 1)))
theorem oF:bO ["self","name","spot","first","hand"] ["self","name","spot","first","hand"] (aU (fi 37 0)):=oq
theorem oV {f:Addr} {fd:ay} (F:k6 K "__init__" "Curl.__init__" (fi 37 0) f fd) (fQ:cS K "name" "Curl") (gL:cS K "spot" "Curl") (gh:cS K "first" "Curl") (gM:cS K "hand" "Curl"):dW P w K mg base fT 1 f fd ["self","name","spot","first","hand"] (bX K cJ) :=
 ot F oF o4 fun _ _ _ _ _ _ hr=>(aB (df (cR fQ) (aW 0) (aW 1))
 (aB (df (cR gL) (aW 0) (aW 2))
 (aB (df (cR gh) (aW 0) (aW 3))
 (aF (df (cR gM) (aW 0) (aW 4))))))
theorem oE:bO ["self","name","second"] ["self","name","second"] (aU (fi 38 0)):=oq
theorem oU {f:Addr} {fd:ay} (F:k6 K "__init__" "Part.__init__" (fi 38 0) f fd) (fP:cS K "name" "Part") (eY:cS K "second" "Part"):dW P w K mg base fT 1 f fd ["self","name","second"] (bX K cI) :=
 ot F oE o3 fun _ _ _ _ _ _ hr=>(aB (df (cR fP) (aW 0) (aW 1))
 (aF (df (cR eY) (aW 0) (aW 2))))
theorem pP:bO ["self","name","second","over","under","turned","hand"] ["self","name","second","over","under","turned","hand"] (aU (fi 39 0)):=oq
theorem pW {f:Addr} {fd:ay} (F:k6 K "__init__" "Lay.__init__" (fi 39 0) f fd) (gA:cS K "name" "Lay") (fy:cS K "second" "Lay") (ip:cS K "over" "Lay") (gK:cS K "under" "Lay") (gf:cS K "turned" "Lay") (iq:cS K "hand" "Lay"):dW P w K mg base fT 1 f fd ["self","name","second","over","under","turned","hand"] (bX K cY) :=
 ot F pP p6 fun _ _ _ _ _ _ hr=>(aB (df (cR gA) (aW 0) (aW 1))
 (aB (df (cR fy) (aW 0) (aW 2))
 (aB (df (cR ip) (aW 0) (aW 3))
 (aB (df (cR gK) (aW 0) (aW 4))
 (aB (df (cR gf) (aW 0) (aW 5))
 (aF (df (cR iq) (aW 0) (aW 6))))))))
theorem nC:bO ["self","name","second","third","turn"] ["self","name","second","third","turn"] (aU (fi 40 0)):=oq
theorem nY {f:Addr} {fd:ay} (F:k6 K "__init__" "Slide.__init__" (fi 40 0) f fd) (fx:cS K "name" "Slide") (eg:cS K "second" "Slide") (eX:cS K "third" "Slide") (gd:cS K "turn" "Slide"):dW P w K mg base fT 1 f fd ["self","name","second","third","turn"] (bX K cF) :=
 ot F nC oe fun _ _ _ _ _ _ hr=>(aB (df (cR fx) (aW 0) (aW 1))
 (aB (df (cR eg) (aW 0) (aW 2))
 (aB (df (cR eX) (aW 0) (aW 3))
 (aF (df (cR gd) (aW 0) (aW 4))))))
theorem wU:bO ["told"] ["told"] (aU (top 41)):=oq
theorem xu {f:Addr} {fd:ay} (F:k6 K "move_of" "move_of" (top 41) f fd) {lT:Addr} {ez:Addr} {eA:ay} (a7:ni P w K mg base 1 ez eA lT "Uncurl" ["self","name"] (bX K cz)) {rT:Addr} {fk:Addr} {fq:ay} (bp:ni P w K mg base 1 fk fq rT "Curl" ["self","name","spot","first","hand"] (bX K cJ)) {rS:Addr} {fj:Addr} {fm:ay} (bo:ni P w K mg base 1 fj fm rS "Part" ["self","name","second"] (bX K cI)) {wc:Addr} {fK:Addr} {fL:ay} (bA:ni P w K mg base 1 fK fL wc "Lay" ["self","name","second","over","under","turned","hand"] (bX K cY)) {oh:Addr} {eU:Addr} {eV:ay} (bb:ni P w K mg base 1 eU eV oh "Slide" ["self","name","second","third","turn"] (bX K cF)):dW P w K mg base fT 3 f fd ["told"] (bX K kd) :=
 ot F wU xI fun _ _ _ _ _ _ hr=>have hu:=hr.units; (aB (bY (bV (dv hu) (aM hu (aW 0) av (fun _ _=>rfl)) bZ (cD _)) (aF (bh (bH (dQ a7.w9 a7.ns a7.ok (hr.mono (by decide)) rfl a7.mg a7.bi (ae (aM hu (aW 0) av (fun _ _=>rfl)) az))))) bj)
 (aB (bY (bV (dv hu) (aM hu (aW 0) av (fun _ _=>rfl)) bZ (cD _)) (aF (bh (bH (dQ bp.w9 bp.ns bp.ok (hr.mono (by decide)) rfl bp.mg bp.bi (ae (aM hu (aW 0) av (fun _ _=>rfl)) (ae (aM hu (aW 0) av (fun _ _=>rfl)) (ae (aM hu (aW 0) av (fun _ _=>rfl)) (ae (aM hu (aW 0) av (fun _ _=>rfl)) az)))))))) bj)
 (aB (bY (bV (dv hu) (aM hu (aW 0) av (fun _ _=>rfl)) bZ (cD _)) (aF (bh (bH (dQ bo.w9 bo.ns bo.ok (hr.mono (by decide)) rfl bo.mg bo.bi (ae (aM hu (aW 0) av (fun _ _=>rfl)) (ae (aM hu (aW 0) av (fun _ _=>rfl)) az)))))) bj)
 (aB (bY (bV (dv hu) (aM hu (aW 0) av (fun _ _=>rfl)) bZ (cD _)) (aF (bh (bH (dQ bA.w9 bA.ns bA.ok (hr.mono (by decide)) rfl bA.mg bA.bi (ae (aM hu (aW 0) av (fun _ _=>rfl)) (ae (aM hu (aW 0) av (fun _ _=>rfl)) (ae (aM hu (aW 0) av (fun _ _=>rfl)) (ae (aM hu (aW 0) av (fun _ _=>rfl)) (ae (aM hu (aW 0) av (fun _ _=>rfl)) (ae (aM hu (aW 0) av (fun _ _=>rfl)) az)))))))))) bj)
 (aB (bY (bV (dv hu) (aM hu (aW 0) av (fun _ _=>rfl)) bZ (cD _)) (aF (bh (bH (dQ bb.w9 bb.ns bb.ok (hr.mono (by decide)) rfl bb.mg bb.bi (ae (aM hu (aW 0) av (fun _ _=>rfl)) (ae (aM hu (aW 0) av (fun _ _=>rfl)) (ae (aM hu (aW 0) av (fun _ _=>rfl)) (ae (aM hu (aW 0) av (fun _ _=>rfl)) az)))))))) bj)
 (aF yQ))))))
theorem pN:bO ["_law_told"] ["_law_told"] (aU (top 48)):=oq
theorem pU {f:Addr} {fd:ay} (F:k6 K "_law_by_class" "_law_by_class" (top 48) f fd) {lT:Addr} {ez:Addr} {eA:ay} (a7:ni P w K mg base 1 ez eA lT "Uncurl" ["self","name"] (bX K cz)) {rT:Addr} {fk:Addr} {fq:ay} (bp:ni P w K mg base 1 fk fq rT "Curl" ["self","name","spot","first","hand"] (bX K cJ)) {rS:Addr} {fj:Addr} {fm:ay} (bo:ni P w K mg base 1 fj fm rS "Part" ["self","name","second"] (bX K cI)) {wc:Addr} {fK:Addr} {fL:ay} (bA:ni P w K mg base 1 fK fL wc "Lay" ["self","name","second","over","under","turned","hand"] (bX K cY)) {oh:Addr} {eU:Addr} {eV:ay} (bb:ni P w K mg base 1 eU eV oh "Slide" ["self","name","second","third","turn"] (bX K cF)):dW P w K mg base fT 3 f fd ["_law_told"] (bX K gk) :=
 ot F pN p4 fun _ _ _ _ _ _ hr=>have hu:=hr.units; (aB (bY (bV (dv hu) (aM hu (aW 0) av (fun _ _=>rfl)) bZ (cD _)) (aF (bh (bH (dQ a7.w9 a7.ns a7.ok (hr.mono (by decide)) rfl a7.mg a7.bi (ae (aM hu (aW 0) av (fun _ _=>rfl)) az))))) bj)
 (aB (bY (bV (dv hu) (aM hu (aW 0) av (fun _ _=>rfl)) bZ (cD _)) (aF (bh (bH (dQ bp.w9 bp.ns bp.ok (hr.mono (by decide)) rfl bp.mg bp.bi (ae (aM hu (aW 0) av (fun _ _=>rfl)) (ae (aM hu (aW 0) av (fun _ _=>rfl)) (ae (aM hu (aW 0) av (fun _ _=>rfl)) (ae (aM hu (aW 0) av (fun _ _=>rfl)) az)))))))) bj)
 (aB (bY (bV (dv hu) (aM hu (aW 0) av (fun _ _=>rfl)) bZ (cD _)) (aF (bh (bH (dQ bo.w9 bo.ns bo.ok (hr.mono (by decide)) rfl bo.mg bo.bi (ae (aM hu (aW 0) av (fun _ _=>rfl)) (ae (aM hu (aW 0) av (fun _ _=>rfl)) az)))))) bj)
 (aB (bY (bV (dv hu) (aM hu (aW 0) av (fun _ _=>rfl)) bZ (cD _)) (aF (bh (bH (dQ bA.w9 bA.ns bA.ok (hr.mono (by decide)) rfl bA.mg bA.bi (ae (aM hu (aW 0) av (fun _ _=>rfl)) (ae (aM hu (aW 0) av (fun _ _=>rfl)) (ae (aM hu (aW 0) av (fun _ _=>rfl)) (ae (aM hu (aW 0) av (fun _ _=>rfl)) (ae (aM hu (aW 0) av (fun _ _=>rfl)) (ae (aM hu (aW 0) av (fun _ _=>rfl)) az)))))))))) bj)
 (aF (bh (bH (dQ bb.w9 bb.ns bb.ok (hr.mono (by decide)) rfl bb.mg bb.bi (ae (aM hu (aW 0) av (fun _ _=>rfl)) (ae (aM hu (aW 0) av (fun _ _=>rfl)) (ae (aM hu (aW 0) av (fun _ _=>rfl)) (ae (aM hu (aW 0) av (fun _ _=>rfl)) az))))))))))))
theorem ui:bO ["_law_found"] ["_law_found"] (aU (top 44)):=oq
theorem uF {f:Addr} {fd:ay} (F:k6 K "_law_whole" "_law_whole" (top 44) f fd) (ur:mg "bool" = none) (w7:mg "int" = none) (br:mg "isinstance" = none):dW P w K mg base fT 1 f fd ["_law_found"] (bX K fO) :=
 ot F ui uW fun _ _ _ _ _ _ hr=>(aF (bh (bH (C1 (lX "int" (by decide) rfl br rfl w7 Fn (aW 0)) (CV (CW (lX "bool" (by decide) rfl br rfl ur Dz (aW 0))))))))
theorem mB:bO ["_law_found","_law_due_here","_law_part"] ["_law_found","_law_due_here"] (aU (top 46)):=oq
theorem sv {f:Addr} {fd:ay} (F:k6 K "_law_wholes" "_law_wholes" (top 46) f fd) (br:mg "isinstance" = none) (gu:mg "len" = none) (gc:mg "tuple" = none) {lN:Addr} {lQ:ay} (eB:xN P w K mg base fT 1 lN lQ "_law_whole" ["_law_found"] (bX K fO)):dW P w K mg base fT 2 f fd ["_law_found","_law_due_here"] (bX K hW) :=
 ot F mB sS fun _ _ _ _ _ _ hr=>have nd:=mB.nd; have hu:=hr.units; (aB (bY (zt.pt (kh (hZ (cW (lX "tuple" (by decide) rfl br rfl gc n4 (aW 0)))) (jm (bV (qG hu) (gW g7 rfl gu m4 (ae (aW 0) az)) (gW g7 rfl gu m4 (ae (aW 1) az)) (cD _))))) (aF (bh (bH iQ))) bj)
 (aB (nK jc rfl (x9 (aW 0)) (CS (i:=2) nd rfl) (aF (bY (hZ (cW (bC eB.ok (hr.mono (by decide)) rfl eB.mg eB.kp eB.bi (ae (aW 2) az)))) (aF (bh (bH iQ))) bj)))
 (aF (bh (bH (CZ (dv hu) (aW 0) (aW 1) (cD _)))))))
theorem ny:bO ["_law_found","_law_due_here","_law_k"] ["_law_found","_law_due_here"] (aU (top 47)):=oq
theorem uG {f:Addr} {fd:ay} (F:k6 K "_law_tells" "_law_tells" (top 47) f fd) (br:mg "isinstance" = none) (gu:mg "len" = none) (ik:mg "range" = none) (w6:mg "str" = none) (gc:mg "tuple" = none) {uJ:Addr} {uM:ay} (iH:xN P w K mg base fT 2 uJ uM "_law_wholes" ["_law_found","_law_due_here"] (bX K hW)) {lN:Addr} {lQ:ay} (eB:xN P w K mg base fT 1 lN lQ "_law_whole" ["_law_found"] (bX K fO)):dW P w K mg base fT 3 f fd ["_law_found","_law_due_here"] (bX K fc) :=
 ot F ny uX fun _ _ _ _ _ _ hr=>have nd:=ny.nd; have hu:=hr.units; (aB (bY (zt.pt (kh (hZ (cW (lX "tuple" (by decide) rfl br rfl gc n4 (aW 0)))) (jm (bV (qG hu) (gW g7 rfl gu m4 (ae (aW 0) az)) (gW g7 rfl gu m4 (ae (aW 1) az)) (cD _))))) (aF (bh (bH iQ))) bj)
 (aB (bY (zt.pt (kh (hZ (cW (lX "str" (by decide) rfl br rfl w6 Fm (aM hu (aW 0) av (fun _ _=>rfl))))) (jm (bV (qG hu) (aM hu (aW 0) av (fun _ _=>rfl)) (aM hu (aW 1) av (fun _ _=>rfl)) (cD _))))) (aF (bh (bH iQ))) bj)
 (aB (nK jc rfl (w0 rfl ik av (gW g7 rfl gu m4 (ae (aW 1) az))) (CS (i:=2) nd rfl) (aF (bY (cW (lX "tuple" (by decide) rfl br rfl gc n4 (aM hu (aW 1) (aW 2) (fun _ _=>rfl)))) (aF (bY (hZ (cW (bC iH.ok (hr.mono (by decide)) rfl iH.mg iH.kp iH.bi (ae (aM hu (aW 0) (aW 2) (fun _ _=>rfl)) (ae (aM hu (aW 1) (aW 2) (fun _ _=>rfl)) az))))) (aF (bh (bH iQ))) bj)) (aF (bY (zt.pt (kh (hZ (cW (bC eB.ok (hr.mono (by decide)) rfl eB.mg eB.kp eB.bi (ae (aM hu (aW 0) (aW 2) (fun _ _=>rfl)) az)))) (jm (bV (qG hu) (aM hu (aW 0) (aW 2) (fun _ _=>rfl)) (aM hu (aW 1) (aW 2) (fun _ _=>rfl)) (cD _))))) (aF (bh (bH iQ))) bj)))))
 (aF (bh (bH iQ))))))
theorem qA:bO ["self"] ["self"] (aU (fi 36 1)):=oq
theorem rf {f:Addr} {fd:ay} (F:k6 K "told" "Uncurl.told" (fi 36 1) f fd) (eW:cS K "name" "Uncurl"):dW P w K mg base fT 1 f fd ["self"] (bX K de) :=
 ot F qA rM fun _ _ _ _ _ _ hr=>(aF (bh (bH (fA (ae bZ (ae (a9 (cR eW) (aW 0)) az))))))
theorem uk:bO ["self"] ["self"] (aU (fi 37 1)):=oq
theorem uI {f:Addr} {fd:ay} (F:k6 K "told" "Curl.told" (fi 37 1) f fd) (gM:cS K "hand" "Curl") (gh:cS K "first" "Curl") (gL:cS K "spot" "Curl") (fQ:cS K "name" "Curl"):dW P w K mg base fT 1 f fd ["self"] (bX K er) :=
 ot F uk uZ fun _ _ _ _ _ _ hr=>(aF (bh (bH (fA (ae bZ (ae (a9 (cR fQ) (aW 0)) (ae (a9 (cR gL) (aW 0)) (ae (a9 (cR gh) (aW 0)) (ae (a9 (cR gM) (aW 0)) az)))))))))
theorem uj:bO ["self"] ["self"] (aU (fi 38 1)):=oq
theorem uH {f:Addr} {fd:ay} (F:k6 K "told" "Part.told" (fi 38 1) f fd) (eY:cS K "second" "Part") (fP:cS K "name" "Part"):dW P w K mg base fT 1 f fd ["self"] (bX K en) :=
 ot F uj uY fun _ _ _ _ _ _ hr=>(aF (bh (bH (fA (ae bZ (ae (a9 (cR fP) (aW 0)) (ae (a9 (cR eY) (aW 0)) az)))))))
theorem vn:bO ["self"] ["self"] (aU (fi 39 1)):=oq
theorem vI {f:Addr} {fd:ay} (F:k6 K "told" "Lay.told" (fi 39 1) f fd) (iq:cS K "hand" "Lay") (gf:cS K "turned" "Lay") (gK:cS K "under" "Lay") (ip:cS K "over" "Lay") (fy:cS K "second" "Lay") (gA:cS K "name" "Lay"):dW P w K mg base fT 1 f fd ["self"] (bX K e7) :=
 ot F vn v9 fun _ _ _ _ _ _ hr=>(aF (bh (bH (fA (ae bZ (ae (a9 (cR gA) (aW 0)) (ae (a9 (cR fy) (aW 0)) (ae (a9 (cR ip) (aW 0)) (ae (a9 (cR gK) (aW 0)) (ae (a9 (cR gf) (aW 0)) (ae (a9 (cR iq) (aW 0)) az)))))))))))
theorem sk:bO ["self"] ["self"] (aU (fi 40 1)):=oq
theorem sx {f:Addr} {fd:ay} (F:k6 K "told" "Slide.told" (fi 40 1) f fd) (gd:cS K "turn" "Slide") (eX:cS K "third" "Slide") (eg:cS K "second" "Slide") (fx:cS K "name" "Slide"):dW P w K mg base fT 1 f fd ["self"] (bX K dB) :=
 ot F sk sT fun _ _ _ _ _ _ hr=>(aF (bh (bH (fA (ae bZ (ae (a9 (cR fx) (aW 0)) (ae (a9 (cR eg) (aW 0)) (ae (a9 (cR eX) (aW 0)) (ae (a9 (cR gd) (aW 0)) az)))))))))
theorem nv:bO ["_law_move","_law_found"] ["_law_move"] (aU (top 49)):=oq
theorem uE {f:Addr} {fd:ay} (F:k6 K "_law_words" "_law_words" (top 49) f fd) (br:mg "isinstance" = none) {fS:Addr} (mU:FV K mg "Curl" fS) {eZ:Addr} (kE:FV K mg "Slide" eZ) {hB:Addr} (qU:FV K mg "Lay" hB) {fR:Addr} (mT:FV K mg "Part" fR) {dM:Addr} (i3:FV K mg "Uncurl" dM) {mf:Addr} (ET:FV K mg "Move" mf) (il:rO K eZ) (lM:rO K hB) (jn:rO K fR) (jo:rO K fS) (gz:rO K dM) (jI:au K (.ref eZ) (.ref fS)=some false) (lJ:au K (.ref hB) (.ref fS)=some false) (kz:au K (.ref fR) (.ref fS)=some false) (kD:au K (.ref fS) (.ref fS)=some true) (iX:au K (.ref dM) (.ref fS)=some false) (kr:au K (.ref eZ) (.ref hB)=some false) (mR:au K (.ref hB) (.ref hB)=some true) (lG:au K (.ref fR) (.ref hB)=some false) (lK:au K (.ref fS) (.ref hB)=some false) (jF:au K (.ref dM) (.ref hB)=some false) (jG:au K (.ref eZ) (.ref fR)=some false) (lH:au K (.ref hB) (.ref fR)=some false) (ku:au K (.ref fR) (.ref fR)=some true) (kB:au K (.ref fS) (.ref fR)=some false) (iV:au K (.ref dM) (.ref fR)=some false) (iY:au K (.ref eZ) (.ref eZ)=some true) (kA:au K (.ref hB) (.ref eZ)=some false) (jJ:au K (.ref fR) (.ref eZ)=some false) (jL:au K (.ref fS) (.ref eZ)=some false) (iy:au K (.ref dM) (.ref eZ)=some false) (iz:au K (.ref eZ) (.ref dM)=some false) (jK:au K (.ref hB) (.ref dM)=some false) (iZ:au K (.ref fR) (.ref dM)=some false) (i0:au K (.ref fS) (.ref dM)=some false) (gY:au K (.ref dM) (.ref dM)=some true) (jH:au K (.ref eZ) (.ref mf)=some true) (lI:au K (.ref hB) (.ref mf)=some true) (ky:au K (.ref fR) (.ref mf)=some true) (kC:au K (.ref fS) (.ref mf)=some true) (iW:au K (.ref dM) (.ref mf)=some true):dW P w K mg base fT 1 f fd ["_law_move"] (bX K gF) :=
 ot F nv uV fun _ _ _ _ _ _ hr=>have nd:=nv.nd; (aB (tm (i:=1) nd rfl (iE az))
 (aB (bY (cW (j0 rfl br rfl mU.mg (bM ⟨_,i3.ns,iX,gz⟩ (bM ⟨_,mU.ns,kD,jo⟩ (bM ⟨_,mT.ns,kz,jn⟩ (bM ⟨_,qU.ns,lJ,lM⟩ (bM ⟨_,kE.ns,jI,il⟩ lZ))))) (aW 0))) (aF (ij (eG c1 cP cO iM gv (aW 1) (ae bZ az)))) bj)
 (aB (bY (cW (j0 rfl br rfl qU.mg (bM ⟨_,i3.ns,jF,gz⟩ (bM ⟨_,mU.ns,lK,jo⟩ (bM ⟨_,mT.ns,lG,jn⟩ (bM ⟨_,qU.ns,mR,lM⟩ (bM ⟨_,kE.ns,kr,il⟩ lZ))))) (aW 0))) (aF (ij (eG c1 cP cO iM gv (aW 1) (ae bZ az)))) bj)
 (aB (bY (cW (j0 rfl br rfl mT.mg (bM ⟨_,i3.ns,iV,gz⟩ (bM ⟨_,mU.ns,kB,jo⟩ (bM ⟨_,mT.ns,ku,jn⟩ (bM ⟨_,qU.ns,lH,lM⟩ (bM ⟨_,kE.ns,jG,il⟩ lZ))))) (aW 0))) (aF (ij (eG c1 cP cO iM gv (aW 1) (ae bZ az)))) bj)
 (aB (bY (cW (j0 rfl br rfl kE.mg (bM ⟨_,i3.ns,iy,gz⟩ (bM ⟨_,mU.ns,jL,jo⟩ (bM ⟨_,mT.ns,jJ,jn⟩ (bM ⟨_,qU.ns,kA,lM⟩ (bM ⟨_,kE.ns,iY,il⟩ lZ))))) (aW 0))) (aF (ij (eG c1 cP cO iM gv (aW 1) (ae bZ az)))) bj)
 (aB (bY (cW (j0 rfl br rfl i3.mg (bM ⟨_,i3.ns,gY,gz⟩ (bM ⟨_,mU.ns,i0,jo⟩ (bM ⟨_,mT.ns,iZ,jn⟩ (bM ⟨_,qU.ns,jK,lM⟩ (bM ⟨_,kE.ns,iz,il⟩ lZ))))) (aW 0))) (aF (ij (eG c1 cP cO iM gv (aW 1) (ae bZ az)))) bj)
 (aB (bY (hZ (cW (j0 rfl br rfl ET.mg (bM ⟨_,i3.ns,iW,gz⟩ (bM ⟨_,mU.ns,kC,jo⟩ (bM ⟨_,mT.ns,ky,jn⟩ (bM ⟨_,qU.ns,lI,lM⟩ (bM ⟨_,kE.ns,jH,il⟩ lZ))))) (aW 0)))) (aF (ij (eG c1 cP cO iM gv (aW 1) (ae bZ az)))) bj)
 (aF (bh (bH (aW 1)))))))))))
theorem nz:bO ["self","names"] ["self","names"] (aU (fi 36 5)):=oq
theorem nX {f:Addr} {fd:ay} (F:k6 K "renamed" "Uncurl.renamed" (fi 36 5) f fd) (eW:cS K "name" "Uncurl") {lT:Addr} {ez:Addr} {eA:ay} (a7:ni P w K mg base 1 ez eA lT "Uncurl" ["self","name"] (bX K cz)):dW P w K mg base fT 3 f fd ["self","names"] (bX K dj) :=
 ot F nz oa fun _ _ _ _ _ _ hr=>(aF (bh (bH (dQ a7.w9 a7.ns a7.ok (hr.mono (by decide)) rfl a7.mg a7.bi (ae (eG a5 bf bu dP fB (aW 1) (ae (a9 (cR eW) (aW 0)) (ae (a9 (cR eW) (aW 0)) az))) az)))))
theorem pM:bO ["spot","names"] ["spot","names"] (aU (top 34)):=oq
theorem pT {f:Addr} {fd:ay} (F:k6 K "renamed_spot" "renamed_spot" (top 34) f fd):dW P w K mg base fT 1 f fd ["spot","names"] (bX K cX) :=
 ot F pM kU fun _ _ _ _ _ _ hr=>have hu:=hr.units; (aB (bY (bV (dv hu) (aM hu (aW 0) av (fun _ _=>rfl)) av (cD _)) (aF (bh (bH (aW 0)))) bj)
 (aF (bh (bH (fA (ae (eG a5 bf bu dP fB (aW 1) (ae (aM hu (aW 0) av (fun _ _=>rfl)) (ae (aM hu (aW 0) av (fun _ _=>rfl)) az))) (ae (aM hu (aW 0) av (fun _ _=>rfl)) az)))))))
theorem pQ:bO ["self","names"] ["self","names"] (aU (fi 37 4)):=oq
theorem pX {f:Addr} {fd:ay} (F:k6 K "renamed" "Curl.renamed" (fi 37 4) f fd) (gM:cS K "hand" "Curl") (gh:cS K "first" "Curl") (gL:cS K "spot" "Curl") (fQ:cS K "name" "Curl") {rT:Addr} {fk:Addr} {fq:ay} (bp:ni P w K mg base 1 fk fq rT "Curl" ["self","name","spot","first","hand"] (bX K cJ)) {i4:Addr} {i5:ay} (bU:xN P w K mg base fT 1 i4 i5 "renamed_spot" ["spot","names"] (bX K cX)):dW P w K mg base fT 3 f fd ["self","names"] (bX K ef) :=
 ot F pQ p7 fun _ _ _ _ _ _ hr=>(aF (bh (bH (dQ bp.w9 bp.ns bp.ok (hr.mono (by decide)) rfl bp.mg bp.bi (ae (eG a5 bf bu dP fB (aW 1) (ae (a9 (cR fQ) (aW 0)) (ae (a9 (cR fQ) (aW 0)) az))) (ae (bC bU.ok (hr.mono (by decide)) rfl bU.mg bU.kp bU.bi (ae (a9 (cR gL) (aW 0)) (ae (aW 1) az))) (ae (a9 (cR gh) (aW 0)) (ae (a9 (cR gM) (aW 0)) az))))))))
theorem pO:bO ["self","names"] ["self","names"] (aU (fi 38 5)):=oq
theorem pV {f:Addr} {fd:ay} (F:k6 K "renamed" "Part.renamed" (fi 38 5) f fd) (eY:cS K "second" "Part") (fP:cS K "name" "Part") {rS:Addr} {fj:Addr} {fm:ay} (bo:ni P w K mg base 1 fj fm rS "Part" ["self","name","second"] (bX K cI)):dW P w K mg base fT 3 f fd ["self","names"] (bX K ee) :=
 ot F pO p5 fun _ _ _ _ _ _ hr=>(aF (bh (bH (dQ bo.w9 bo.ns bo.ok (hr.mono (by decide)) rfl bo.mg bo.bi (ae (eG a5 bf bu dP fB (aW 1) (ae (a9 (cR fP) (aW 0)) (ae (a9 (cR fP) (aW 0)) az))) (ae (eG a5 bf bu dP fB (aW 1) (ae (a9 (cR eY) (aW 0)) (ae (a9 (cR eY) (aW 0)) az))) az))))))
theorem lr:bO ["self","names","name","second","over","under"] ["self","names"] (aU (fi 39 5)):=oq
theorem rg {f:Addr} {fd:ay} (F:k6 K "renamed" "Lay.renamed" (fi 39 5) f fd) (gA:cS K "name" "Lay") (fy:cS K "second" "Lay") (ip:cS K "over" "Lay") (gK:cS K "under" "Lay") (iq:cS K "hand" "Lay") (gf:cS K "turned" "Lay") {i4:Addr} {i5:ay} (bU:xN P w K mg base fT 1 i4 i5 "renamed_spot" ["spot","names"] (bX K cX)) {wc:Addr} {fK:Addr} {fL:ay} (bA:ni P w K mg base 1 fK fL wc "Lay" ["self","name","second","over","under","turned","hand"] (bX K cY)):dW P w K mg base fT 3 f fd ["self","names"] (bX K eS) :=
 ot F lr rN fun _ _ _ _ _ _ hr=>have nd:=lr.nd; (aB (tm (i:=2) nd rfl (eG a5 bf bu dP fB (aW 1) (ae (a9 (cR gA) (aW 0)) (ae (a9 (cR gA) (aW 0)) az))))
 (aB (tm (i:=3) nd rfl (eG a5 bf bu dP fB (aW 1) (ae (a9 (cR fy) (aW 0)) (ae (a9 (cR fy) (aW 0)) az))))
 (aB (tm (i:=4) nd rfl (bC bU.ok (hr.mono (by decide)) rfl bU.mg bU.kp bU.bi (ae (a9 (cR ip) (aW 0)) (ae (aW 1) az))))
 (aB (tm (i:=5) nd rfl (bC bU.ok (hr.mono (by decide)) rfl bU.mg bU.kp bU.bi (ae (a9 (cR gK) (aW 0)) (ae (aW 1) az))))
 (aF (bh (bH (dQ bA.w9 bA.ns bA.ok (hr.mono (by decide)) rfl bA.mg bA.bi (ae (aW 2) (ae (aW 3) (ae (aW 4) (ae (aW 5) (ae (a9 (cR gf) (aW 0)) (ae (a9 (cR iq) (aW 0)) az))))))))))))))
theorem jV:bO ["self","names","name","second"] ["self","names"] (aU (fi 40 5)):=oq
theorem oT {f:Addr} {fd:ay} (F:k6 K "renamed" "Slide.renamed" (fi 40 5) f fd) (fx:cS K "name" "Slide") (eg:cS K "second" "Slide") (gd:cS K "turn" "Slide") (eX:cS K "third" "Slide") {oh:Addr} {eU:Addr} {eV:ay} (bb:ni P w K mg base 1 eU eV oh "Slide" ["self","name","second","third","turn"] (bX K cF)):dW P w K mg base fT 3 f fd ["self","names"] (bX K dH) :=
 ot F jV o2 fun _ _ _ _ _ _ hr=>have nd:=jV.nd; (aB (tm (i:=2) nd rfl (eG a5 bf bu dP fB (aW 1) (ae (a9 (cR fx) (aW 0)) (ae (a9 (cR fx) (aW 0)) az))))
 (aB (tm (i:=3) nd rfl (eG a5 bf bu dP fB (aW 1) (ae (a9 (cR eg) (aW 0)) (ae (a9 (cR eg) (aW 0)) az))))
 (aF (bh (bH (dQ bb.w9 bb.ns bb.ok (hr.mono (by decide)) rfl bb.mg bb.bi (ae (aW 2) (ae (aW 3) (ae (eG a5 bf bu dP fB (aW 1) (ae (a9 (cR eX) (aW 0)) (ae (a9 (cR eX) (aW 0)) az))) (ae (a9 (cR gd) (aW 0)) az))))))))))
theorem mi:bO ["_law_spot","_law_names"] ["_law_spot","_law_names"] (aU (top 52)):=oq
theorem mq {f:Addr} {fd:ay} (F:k6 K "_law_spot_renamed" "_law_spot_renamed" (top 52) f fd):dW P w K mg base fT 1 f fd ["_law_spot","_law_names"] (bX K cV) :=
 ot F mi mw fun _ _ _ _ _ _ hr=>have hu:=hr.units; (aB (bY (bV (dv hu) (aM hu (aW 0) av (fun _ _=>rfl)) av (cD _)) (aF (bh (bH (aW 0)))) bj)
 (aF (bh (bH (fA (ae (eG a5 bf bu dP fB (aW 1) (ae (aM hu (aW 0) av (fun _ _=>rfl)) (ae (aM hu (aW 0) av (fun _ _=>rfl)) az))) (ae (aM hu (aW 0) av (fun _ _=>rfl)) az)))))))
theorem qy:bO ["_law_told","_law_names","_law_due_here"] ["_law_told","_law_names"] (aU (top 53)):=oq
theorem xw {f:Addr} {fd:ay} (F:k6 K "_law_due" "_law_due" (top 53) f fd) (gc:mg "tuple" = none) {mW:Addr} {mX:ay} (bD:xN P w K mg base fT 1 mW mX "_law_spot_renamed" ["_law_spot","_law_names"] (bX K cV)):dW P w K mg base fT 2 f fd ["_law_told","_law_names"] (bX K ke) :=
 ot F qy xJ fun _ _ _ _ _ _ hr=>have nd:=qy.nd; have hu:=hr.units; (aB (tm (i:=2) nd rfl (iE (ae (aM hu (aW 0) av (fun _ _=>rfl)) (ae (eG a5 bf bu dP fB (aW 1) (ae (aM hu (aW 0) av (fun _ _=>rfl)) (ae (aM hu (aW 0) av (fun _ _=>rfl)) az))) az))))
 (aB (bY (zt.pt (kh (bV (dv hu) (aM hu (aW 0) av (fun _ _=>rfl)) bZ (cD _)) (kh (bV (dv hu) (aM hu (aW 0) av (fun _ _=>rfl)) bZ (cD _)) (jm (bV (dv hu) (aM hu (aW 0) av (fun _ _=>rfl)) bZ (cD _)))))) (aF (ij (eG c1 cP cO iM gv (aW 2) (ae (eG a5 bf bu dP fB (aW 1) (ae (aM hu (aW 0) av (fun _ _=>rfl)) (ae (aM hu (aW 0) av (fun _ _=>rfl)) az))) az)))) bj)
 (aB (bY (bV (dv hu) (aM hu (aW 0) av (fun _ _=>rfl)) bZ (cD _)) (aF (tm (i:=2) nd rfl (cq iF (aW 2) (iE (ae (eG a5 bf bu dP fB (aW 1) (ae (aM hu (aW 0) av (fun _ _=>rfl)) (ae (aM hu (aW 0) av (fun _ _=>rfl)) az))) (ae (aM hu (aW 0) av (fun _ _=>rfl)) az)))))) bj)
 (aB (bY (bV (dv hu) (aM hu (aW 0) av (fun _ _=>rfl)) bZ (cD _)) (aF (tm (i:=2) nd rfl (cq iF (aW 2) (iE (ae (bC bD.ok (hr.mono (by decide)) rfl bD.mg bD.kp bD.bi (ae (aM hu (aW 0) av (fun _ _=>rfl)) (ae (aW 1) az))) (ae (aM hu (aW 0) av (fun _ _=>rfl)) (ae (aM hu (aW 0) av (fun _ _=>rfl)) az))))))) bj)
 (aB (bY (bV (dv hu) (aM hu (aW 0) av (fun _ _=>rfl)) bZ (cD _)) (aF (tm (i:=2) nd rfl (cq iF (aW 2) (iE (ae (bC bD.ok (hr.mono (by decide)) rfl bD.mg bD.kp bD.bi (ae (aM hu (aW 0) av (fun _ _=>rfl)) (ae (aW 1) az))) (ae (bC bD.ok (hr.mono (by decide)) rfl bD.mg bD.kp bD.bi (ae (aM hu (aW 0) av (fun _ _=>rfl)) (ae (aW 1) az))) (ae (aM hu (aW 0) av (fun _ _=>rfl)) (ae (aM hu (aW 0) av (fun _ _=>rfl)) az)))))))) bj)
 (aF (bh (bH (mM vZ rfl gc n4 (ae (aW 2) az))))))))))
theorem Ap:bO ["_law_script","_law_names","_law_told","_law_by","_law_k","_law_handed","_law_move","_law_turn","_law_mine","_law_other"] ["_law_script"] (aU (top 54)):=oq
theorem Fc {f:Addr} {fd:ay} (F:k6 K "law" "law" (top 54) f fd) (no_dict:mg "dict" = none) (ik:mg "range" = none) {jN:Addr} {jO:ay} (aH:xN P w K mg base fT 1 jN jO "_law_cell_at" ["_law_script","_law_k"] (bX K bS)) {sy:Addr} {sG:ay} (ia:xN P w K mg base fT 2 sy sG "_law_told_by" ["_law_script","_law_names"] (bX K gG)) {zh:Addr} {zk:ay} (l0:xN P w K mg base fT 3 zh zk "move_of" ["told"] (bX K kd)) {rh:Addr} {rm:ay} (gN:xN P w K mg base fT 3 rh rm "_law_by_class" ["_law_told"] (bX K gk)) {vK:Addr} {vS:ay} (cZ:xN P w K mg base fT 3 vK vS "_law_tells" ["_law_found","_law_due_here"] (bX K fc)) {rP:Addr} {sD:Addr} {sI:ay} (c9:sV P w K mg base fT 1 sD sI rP "Uncurl" "told" ["self"] (bX K de)) {u4:Addr} {vM:Addr} {vU:ay} (eD:sV P w K mg base fT 1 vM vU u4 "Curl" "told" ["self"] (bX K er)) {u3:Addr} {vL:Addr} {vT:ay} (eC:sV P w K mg base fT 1 vL vT u3 "Part" "told" ["self"] (bX K en)) {wb:Addr} {xx:Addr} {xC:ay} (fg:sV P w K mg base fT 1 xx xC wb "Lay" "told" ["self"] (bX K e7)) {sU:Addr} {uK:Addr} {uN:ay} (dA:sV P w K mg base fT 1 uK uN sU "Slide" "told" ["self"] (bX K dB)) {vJ:Addr} {vR:ay} (e8:xN P w K mg base fT 1 vJ vR "_law_words" ["_law_move"] (bX K gF)) {og:Addr} {oW:Addr} {o1:ay} (g8:sV P w K mg base fT 3 oW o1 og "Uncurl" "renamed" ["self","names"] (bX K dj)) {qb:Addr} {rk:Addr} {rq:ay} (ja:sV P w K mg base fT 3 rk rq qb "Curl" "renamed" ["self","names"] (bX K ef)) {qa:Addr} {rj:Addr} {rp:ay} (i9:sV P w K mg base fT 3 rj rp qa "Part" "renamed" ["self","names"] (bX K ee)) {rQ:Addr} {sE:Addr} {sJ:ay} (jR:sV P w K mg base fT 3 sE sJ rQ "Lay" "renamed" ["self","names"] (bX K eS)) {o9:Addr} {pY:Addr} {pZ:ay} (iA:sV P w K mg base fT 3 pY pZ o9 "Slide" "renamed" ["self","names"] (bX K dH)) {zi:Addr} {zl:ay} (ma:xN P w K mg base fT 2 zi zl "_law_due" ["_law_told","_law_names"] (bX K ke)):dW P w K mg base fT 4 f fd ["_law_script"] (bX K K2.tj) :=
 ot F Ap Ft fun _ _ _ _ _ _ hr=>have nd:=Ap.nd; have hu:=hr.units; (aB (CQ (AH ["_law_k","_law_script"] (sc:=aU (top 54)) (XN:=["_law_script","_law_names","_law_told","_law_by","_law_k","_law_handed","_law_move","_law_turn","_law_mine","_law_other"]) (i:=1) nd rfl rfl (mK rfl ik av) (fun _ _ _ _=>(CS (i:=0) (show (["_law_k","_law_script"]:List Str).Nodup by decide +kernel) rfl)) (fun _ _ _ _=>.none) (fun _ _ _ _=>(cq iF av (cq et (bC aH.ok (hr.mono (by decide)) rfl aH.mg aH.kp aH.bi (ae (aW 1) (ae (aW 0) az))) av)))))
 (aB (tm (i:=2) nd rfl (bC ia.ok (hr.mono (by decide)) rfl ia.mg ia.kp ia.bi (ae (aW 0) (ae (aW 1) az))))
 (aB (tm (i:=3) nd rfl CY)
 (aB (nK jc rfl (mK rfl ik av) (CS (i:=4) nd rfl) (aF (bY (bV (yb hu) (cq et (cq iR (cq iR (bC aH.ok (hr.mono (by decide)) rfl aH.mg aH.kp aH.bi (ae (aW 0) (ae av az))) (cq C6 av av)) (cq iF av (aW 4))) av) av (cD _)) (aF (qf (cq iF av (cq et (bC aH.ok (hr.mono (by decide)) rfl aH.mg aH.kp aH.bi (ae (aW 0) (ae (cq iF av (aW 4)) az))) av)) (uo hu (aW 3) (aM hu (aW 1) (aW 4) (fun _ _=>rfl))))) bj)))
 (aB (bY (bV (yb hu) (cq et (bC aH.ok (hr.mono (by decide)) rfl aH.mg aH.kp aH.bi (ae (aW 0) (ae av az))) av) av (cD _)) (aB (qf (cq iF av (cq et (bC aH.ok (hr.mono (by decide)) rfl aH.mg aH.kp aH.bi (ae (aW 0) (ae av az))) av)) (uo hu (aW 3) av))
 (aF (qf (cq iF av (cq et (bC aH.ok (hr.mono (by decide)) rfl aH.mg aH.kp aH.bi (ae (aW 0) (ae av az))) av)) (uo hu (aW 3) av)))) bj)
 (aB (tm (i:=5) nd rfl (mM rE rfl no_dict yz (ae (aW 3) az)))
 (aB (nK jc rfl (x9 (iE (ae (bC gN.ok (hr.mono (by decide)) rfl gN.mg gN.kp gN.bi (ae (aW 2) az)) (ae (bC l0.ok (hr.mono (by decide)) rfl l0.mg l0.kp l0.bi (ae (aW 2) az)) az)))) (CS (i:=6) nd rfl) (aB (bY (zt.pt (kh (hZ (cW (bC cZ.ok (hr.mono (by decide)) rfl cZ.mg cZ.kp cZ.bi (ae (mL (cw c9.me c9.ok (hr.mono (by decide)) c9.bi (cw eD.me eD.ok (hr.mono (by decide)) eD.bi (cw eC.me eC.ok (hr.mono (by decide)) eC.bi (cw fg.me fg.ok (hr.mono (by decide)) fg.bi (cw dA.me dA.ok (hr.mono (by decide)) dA.bi nM))))) (aW 6)) (ae (aW 2) az))))) (jm (bV (uq hu) (bC e8.ok (hr.mono (by decide)) rfl e8.mg e8.kp e8.bi (ae (aW 6) az)) (iE (ae (aM hu (aW 2) av (fun _ _=>rfl)) az)) (cD _))))) (aF (bh (bH iQ))) bj)
 (aB (nK jc rfl (mK rfl ik av) (CS (i:=7) nd rfl) (aB (tm (i:=8) nd rfl (mM rE rfl no_dict yz (ae (aW 3) az)))
 (aB (tm (i:=9) nd rfl (yT (cw g8.me g8.ok (hr.mono (by decide)) g8.bi (cw ja.me ja.ok (hr.mono (by decide)) ja.bi (cw i9.me i9.ok (hr.mono (by decide)) i9.bi (cw jR.me jR.ok (hr.mono (by decide)) jR.bi (cw iA.me iA.ok (hr.mono (by decide)) iA.bi nM))))) (aW 6) (ae (aM hu (iE (ae (aW 5) (ae (aW 8) az))) (aW 7) (fun _ _=>rfl)) az)))
 (aB (ij (C0 a5 lg PySem.F.type_dict_clear dP w8 (aW 8)))
 (aF (bY (zt.pt (kh (hZ (cW (bC cZ.ok (hr.mono (by decide)) rfl cZ.mg cZ.kp cZ.bi (ae (mL (cw c9.me c9.ok (hr.mono (by decide)) c9.bi (cw eD.me eD.ok (hr.mono (by decide)) eD.bi (cw eC.me eC.ok (hr.mono (by decide)) eC.bi (cw fg.me fg.ok (hr.mono (by decide)) fg.bi (cw dA.me dA.ok (hr.mono (by decide)) dA.bi nM))))) (aW 9)) (ae (bC ma.ok (hr.mono (by decide)) rfl ma.mg ma.kp ma.bi (ae (aW 2) (ae (aW 3) az))) az))))) (jm (bV (uq hu) (bC e8.ok (hr.mono (by decide)) rfl e8.mg e8.kp e8.bi (ae (aW 9) az)) (iE (ae (aM hu (aW 2) av (fun _ _=>rfl)) az)) (cD _))))) (aF (bh (bH iQ))) bj))))))
 (aF (bY (zt.pt (kh (hZ (cW (bC cZ.ok (hr.mono (by decide)) rfl cZ.mg cZ.kp cZ.bi (ae (mL (cw c9.me c9.ok (hr.mono (by decide)) c9.bi (cw eD.me eD.ok (hr.mono (by decide)) eD.bi (cw eC.me eC.ok (hr.mono (by decide)) eC.bi (cw fg.me fg.ok (hr.mono (by decide)) fg.bi (cw dA.me dA.ok (hr.mono (by decide)) dA.bi nM))))) (aW 6)) (ae (aW 2) az))))) (jm (bV (uq hu) (aW 5) (aW 3) (cD _))))) (aF (bh (bH iQ))) bj)))))
 (aF (bh (bH iQ))))))))))
end
theorem all_mk {l:t7} {w:World} {K:ah} {h:Heap} {mg:Str->Option Value} {fa:Addr} (X:K.In h) (G:h.Ns aX mg) (MZ:mg "law" = some (.ref fa)) {cK:Addr} (dJ:Cc K "Uncurl" cK) {dS:Addr} (c4:Cc K "Curl" dS) {eN:Addr} (eQ:Cc K "Part" eN) {fu:Addr} (c3:Cc K "Lay" fu) {cU:Addr} (cA:Cc K "Slide" cU)
  {f0:Addr} {d0:ay} (F0:At K "_law_cell_at" (top 43) f0 d0)
  {f1:Addr} {d1:ay} (F1:At K "_law_spot_by" (top 50) f1 d1)
  {f2:Addr} {d2:ay} (F2:At K "_law_told_by" (top 51) f2 d2)
  {f3:Addr} {d3:ay} (F3:tY K cK "__init__" "Uncurl.__init__" (fi 36 0) f3 d3)
  {f4:Addr} {d4:ay} (F4:tY K dS "__init__" "Curl.__init__" (fi 37 0) f4 d4)
  {f5:Addr} {d5:ay} (F5:tY K eN "__init__" "Part.__init__" (fi 38 0) f5 d5)
  {f6:Addr} {d6:ay} (F6:tY K fu "__init__" "Lay.__init__" (fi 39 0) f6 d6)
  {f7:Addr} {d7:ay} (F7:tY K cU "__init__" "Slide.__init__" (fi 40 0) f7 d7)
  {f8:Addr} {d8:ay} (F8:At K "move_of" (top 41) f8 d8)
  {f9:Addr} {d9:ay} (F9:At K "_law_by_class" (top 48) f9 d9)
  {NG:Addr} {N1:ay} (FU:At K "_law_whole" (top 44) NG N1)
  {NF:Addr} {N0:ay} (Io:At K "_law_wholes" (top 46) NF N0)
  {ND:Addr} {NZ:ay} (Im:At K "_law_tells" (top 47) ND NZ)
  {NC:Addr} {NY:ay} (KY:tY K cK "told" "Uncurl.told" (fi 36 1) NC NY)
  {NB:Addr} {NX:ay} (KW:tY K dS "told" "Curl.told" (fi 37 1) NB NX)
  {NA:Addr} {NW:ay} (KU:tY K eN "told" "Part.told" (fi 38 1) NA NW)
  {Nz:Addr} {NV:ay} (KS:tY K fu "told" "Lay.told" (fi 39 1) Nz NV)
  {Ny:Addr} {NU:ay} (KR:tY K cU "told" "Slide.told" (fi 40 1) Ny NU)
  {Nx:Addr} {NT:ay} (Il:At K "_law_words" (top 49) Nx NT)
  {Nw:Addr} {NS:ay} (KQ:tY K cK "renamed" "Uncurl.renamed" (fi 36 5) Nw NS)
  {Nv:Addr} {NR:ay} (FT:At K "renamed_spot" (top 34) Nv NR)
  {Nu:Addr} {NQ:ay} (KP:tY K dS "renamed" "Curl.renamed" (fi 37 4) Nu NQ)
  {Nt:Addr} {NP:ay} (KO:tY K eN "renamed" "Part.renamed" (fi 38 5) Nt NP)
  {Nr:Addr} {NO:ay} (KN:tY K fu "renamed" "Lay.renamed" (fi 39 5) Nr NO)
  {Nq:Addr} {NN:ay} (KL:tY K cU "renamed" "Slide.renamed" (fi 40 5) Nq NN)
  {Np:Addr} {NM:ay} (Ik:At K "_law_spot_renamed" (top 52) Np NM)
  {Nm:Addr} {NL:ay} (Ij:At K "_law_due" (top 53) Nm NL)
  {Nl:Addr} {NK:ay} (LS:At K "law" (top 54) Nl NK)
  (FY:autoParam (cG K aX "len" = some none) Aq._auto_1) (D5:autoParam (cG K aX "bool" = some none) Aq._auto_1) (FZ:autoParam (cG K aX "int" = some none) Aq._auto_1) (uc:autoParam (cG K aX "isinstance" = some none) Aq._auto_1) (Ck:autoParam (cG K aX "tuple" = some none) Aq._auto_1) (Cm:autoParam (cG K aX "range" = some none) Aq._auto_1) (FX:autoParam (cG K aX "str" = some none) Aq._auto_1) (D4:autoParam (cG K aX "dict" = some none) Aq._auto_1) (iS:autoParam (aK K (.ref cK) "name" = some none) Aq._auto_1) (km:autoParam (aK K (.ref dS) "name" = some none) Aq._auto_1) (kl:autoParam (aK K (.ref dS) "spot" = some none) Aq._auto_1) (jE:autoParam (aK K (.ref dS) "first" = some none) Aq._auto_1) (kn:autoParam (aK K (.ref dS) "hand" = some none) Aq._auto_1) (ki:autoParam (aK K (.ref eN) "name" = some none) Aq._auto_1) (iU:autoParam (aK K (.ref eN) "second" = some none) Aq._auto_1) (lD:autoParam (aK K (.ref fu) "name" = some none) Aq._auto_1) (jD:autoParam (aK K (.ref fu) "second" = some none) Aq._auto_1) (lC:autoParam (aK K (.ref fu) "over" = some none) Aq._auto_1) (kj:autoParam (aK K (.ref fu) "under" = some none) Aq._auto_1) (jC:autoParam (aK K (.ref fu) "turned" = some none) Aq._auto_1) (lE:autoParam (aK K (.ref fu) "hand" = some none) Aq._auto_1) (jB:autoParam (aK K (.ref cU) "name" = some none) Aq._auto_1) (ix:autoParam (aK K (.ref cU) "second" = some none) Aq._auto_1) (iT:autoParam (aK K (.ref cU) "third" = some none) Aq._auto_1) (jA:autoParam (aK K (.ref cU) "turn" = some none) Aq._auto_1) (oN:autoParam (fY K cK=true) Aq._auto_1) (oP:autoParam (dh K (.ref cK)=true) Aq._auto_1) (uw:autoParam (fY K dS=true) Aq._auto_1) (uA:autoParam (dh K (.ref dS)=true) Aq._auto_1) (uv:autoParam (fY K eN=true) Aq._auto_1) (uz:autoParam (dh K (.ref eN)=true) Aq._auto_1) (xa:autoParam (fY K fu=true) Aq._auto_1) (xn:autoParam (dh K (.ref fu)=true) Aq._auto_1) (qI:autoParam (fY K cU=true) Aq._auto_1) (qR:autoParam (dh K (.ref cU)=true) Aq._auto_1) {md:Addr} (yo:autoParam (cG K aX "Move" = some (some (.ref md))) Aq._auto_1) (z0:autoParam (aK K (.ref cU) "__class__" = some (some (.builtin "object.__class__"))) Af._auto_1) (zZ:autoParam (dU K (.builtin "object.__class__") "__get__" = some (some (.builtin "getset_descriptor.__get__"))) Af._auto_1) (zY:autoParam (fX K (.builtin "object.__class__")=some true) Af._auto_1) (zX:autoParam (gU K cU (.type "object")=some true) Af._auto_1) (D9:autoParam (aK K (.ref fu) "__class__" = some (some (.builtin "object.__class__"))) Af._auto_1) (D8:autoParam (dU K (.builtin "object.__class__") "__get__" = some (some (.builtin "getset_descriptor.__get__"))) Af._auto_1) (D7:autoParam (fX K (.builtin "object.__class__")=some true) Af._auto_1) (D6:autoParam (gU K fu (.type "object")=some true) Af._auto_1) (Cu:autoParam (aK K (.ref eN) "__class__" = some (some (.builtin "object.__class__"))) Af._auto_1) (Cs:autoParam (dU K (.builtin "object.__class__") "__get__" = some (some (.builtin "getset_descriptor.__get__"))) Af._auto_1) (Cq:autoParam (fX K (.builtin "object.__class__")=some true) Af._auto_1) (Co:autoParam (gU K eN (.type "object")=some true) Af._auto_1) (Cv:autoParam (aK K (.ref dS) "__class__" = some (some (.builtin "object.__class__"))) Af._auto_1) (Ct:autoParam (dU K (.builtin "object.__class__") "__get__" = some (some (.builtin "getset_descriptor.__get__"))) Af._auto_1) (Cr:autoParam (fX K (.builtin "object.__class__")=some true) Af._auto_1) (Cp:autoParam (gU K dS (.type "object")=some true) Af._auto_1) (yK:autoParam (aK K (.ref cK) "__class__" = some (some (.builtin "object.__class__"))) Af._auto_1) (yJ:autoParam (dU K (.builtin "object.__class__") "__get__" = some (some (.builtin "getset_descriptor.__get__"))) Af._auto_1) (yI:autoParam (fX K (.builtin "object.__class__")=some true) Af._auto_1) (yH:autoParam (gU K cK (.type "object")=some true) Af._auto_1) (jI:autoParam (au K (.ref cU) (.ref dS)=some false) Az._auto_1) (lJ:autoParam (au K (.ref fu) (.ref dS)=some false) Az._auto_1) (kz:autoParam (au K (.ref eN) (.ref dS)=some false) Az._auto_1) (kD:autoParam (au K (.ref dS) (.ref dS)=some true) Az._auto_1) (iX:autoParam (au K (.ref cK) (.ref dS)=some false) Az._auto_1) (kr:autoParam (au K (.ref cU) (.ref fu)=some false) Az._auto_1) (mR:autoParam (au K (.ref fu) (.ref fu)=some true) Az._auto_1) (lG:autoParam (au K (.ref eN) (.ref fu)=some false) Az._auto_1) (lK:autoParam (au K (.ref dS) (.ref fu)=some false) Az._auto_1) (jF:autoParam (au K (.ref cK) (.ref fu)=some false) Az._auto_1) (jG:autoParam (au K (.ref cU) (.ref eN)=some false) Az._auto_1) (lH:autoParam (au K (.ref fu) (.ref eN)=some false) Az._auto_1) (ku:autoParam (au K (.ref eN) (.ref eN)=some true) Az._auto_1) (kB:autoParam (au K (.ref dS) (.ref eN)=some false) Az._auto_1) (iV:autoParam (au K (.ref cK) (.ref eN)=some false) Az._auto_1) (iY:autoParam (au K (.ref cU) (.ref cU)=some true) Az._auto_1) (kA:autoParam (au K (.ref fu) (.ref cU)=some false) Az._auto_1) (jJ:autoParam (au K (.ref eN) (.ref cU)=some false) Az._auto_1) (jL:autoParam (au K (.ref dS) (.ref cU)=some false) Az._auto_1) (iy:autoParam (au K (.ref cK) (.ref cU)=some false) Az._auto_1) (iz:autoParam (au K (.ref cU) (.ref cK)=some false) Az._auto_1) (jK:autoParam (au K (.ref fu) (.ref cK)=some false) Az._auto_1) (iZ:autoParam (au K (.ref eN) (.ref cK)=some false) Az._auto_1) (i0:autoParam (au K (.ref dS) (.ref cK)=some false) Az._auto_1) (gY:autoParam (au K (.ref cK) (.ref cK)=some true) Az._auto_1) (jH:autoParam (au K (.ref cU) (.ref md)=some true) Az._auto_1) (lI:autoParam (au K (.ref fu) (.ref md)=some true) Az._auto_1) (ky:autoParam (au K (.ref eN) (.ref md)=some true) Az._auto_1) (kC:autoParam (au K (.ref dS) (.ref md)=some true) Az._auto_1) (iW:autoParam (au K (.ref cK) (.ref md)=some true) Az._auto_1) :
  ∃ fd:ay,(∀ (s:aw) (v:Value),zV s fd ⟨[v],[]⟩ [("_law_script",v)])/\∀ base:Heap,K.In base->base.Ns aX mg->dW l.prog w K mg base fT 4 fa fd ["_law_script"] (bX K K2.tj):=by
 have e:=MZ.symm.trans (bE X G LS.a);cases e;have b0:=F0.F.binds (ps:=["_law_script","_law_k"]) fun _ _ _ _ _ _ us hl=>by obtain⟨_,_,rfl⟩:=mP hl; rfl
 have b1:=F1.F.binds (ps:=["_law_names","_law_cell"]) fun _ _ _ _ _ _ us hl=>by obtain⟨_,_,rfl⟩:=mP hl; rfl
 have b2:=F2.F.binds (ps:=["_law_script","_law_names"]) fun _ _ _ _ _ _ us hl=>by obtain⟨_,_,rfl⟩:=mP hl; rfl
 have b3:=F3.F.binds (ps:=["self","name"]) fun _ _ _ _ _ _ us hl=>by obtain⟨_,_,rfl⟩:=mP hl; rfl
 have b4:=F4.F.binds (ps:=["self","name","spot","first","hand"]) fun _ _ _ _ _ _ us hl=>by obtain⟨_,_,_,_,_,rfl⟩:=GK hl; rfl
 have b5:=F5.F.binds (ps:=["self","name","second"]) fun _ _ _ _ _ _ us hl=>by obtain⟨_,_,_,rfl⟩:=GL hl; rfl
 have b6:=F6.F.binds (ps:=["self","name","second","over","under","turned","hand"]) fun _ _ _ _ _ _ us hl=>by obtain⟨_,_,_,_,_,_,_,rfl⟩:=Jx hl; rfl
 have b7:=F7.F.binds (ps:=["self","name","second","third","turn"]) fun _ _ _ _ _ _ us hl=>by obtain⟨_,_,_,_,_,rfl⟩:=GK hl; rfl
 have b8:=F8.F.binds (ps:=["told"]) fun _ _ _ _ _ _ us hl=>by obtain⟨_,rfl⟩:=sr hl; rfl
 have b9:=F9.F.binds (ps:=["_law_told"]) fun _ _ _ _ _ _ us hl=>by obtain⟨_,rfl⟩:=sr hl; rfl
 have LN:=FU.F.binds (ps:=["_law_found"]) fun _ _ _ _ _ _ us hl=>by obtain⟨_,rfl⟩:=sr hl; rfl
 have Oo:=Io.F.binds (ps:=["_law_found","_law_due_here"]) fun _ _ _ _ _ _ us hl=>by obtain⟨_,_,rfl⟩:=mP hl; rfl
 have Om:=Im.F.binds (ps:=["_law_found","_law_due_here"]) fun _ _ _ _ _ _ us hl=>by obtain⟨_,_,rfl⟩:=mP hl; rfl
 have Ol:=KY.F.binds (ps:=["self"]) fun _ _ _ _ _ _ us hl=>by obtain⟨_,rfl⟩:=sr hl; rfl
 have Oj:=KW.F.binds (ps:=["self"]) fun _ _ _ _ _ _ us hl=>by obtain⟨_,rfl⟩:=sr hl; rfl
 have Oi:=KU.F.binds (ps:=["self"]) fun _ _ _ _ _ _ us hl=>by obtain⟨_,rfl⟩:=sr hl; rfl
 have Oh:=KS.F.binds (ps:=["self"]) fun _ _ _ _ _ _ us hl=>by obtain⟨_,rfl⟩:=sr hl; rfl
 have Og:=KR.F.binds (ps:=["self"]) fun _ _ _ _ _ _ us hl=>by obtain⟨_,rfl⟩:=sr hl; rfl
 have Of:=Il.F.binds (ps:=["_law_move"]) fun _ _ _ _ _ _ us hl=>by obtain⟨_,rfl⟩:=sr hl; rfl
 have Oe:=KQ.F.binds (ps:=["self","names"]) fun _ _ _ _ _ _ us hl=>by obtain⟨_,_,rfl⟩:=mP hl; rfl
 have LM:=FT.F.binds (ps:=["spot","names"]) fun _ _ _ _ _ _ us hl=>by obtain⟨_,_,rfl⟩:=mP hl; rfl
 have Od:=KP.F.binds (ps:=["self","names"]) fun _ _ _ _ _ _ us hl=>by obtain⟨_,_,rfl⟩:=mP hl; rfl
 have Oc:=KO.F.binds (ps:=["self","names"]) fun _ _ _ _ _ _ us hl=>by obtain⟨_,_,rfl⟩:=mP hl; rfl
 have Ob:=KN.F.binds (ps:=["self","names"]) fun _ _ _ _ _ _ us hl=>by obtain⟨_,_,rfl⟩:=mP hl; rfl
 have Oa:=KL.F.binds (ps:=["self","names"]) fun _ _ _ _ _ _ us hl=>by obtain⟨_,_,rfl⟩:=mP hl; rfl
 have N9:=Ik.F.binds (ps:=["_law_spot","_law_names"]) fun _ _ _ _ _ _ us hl=>by obtain⟨_,_,rfl⟩:=mP hl; rfl
 have N8:=Ij.F.binds (ps:=["_law_told","_law_names"]) fun _ _ _ _ _ _ us hl=>by obtain⟨_,_,rfl⟩:=mP hl; rfl
 have gu:=dq X G FY;have ur:=dq X G D5;have w7:=dq X G FZ;have br:=dq X G uc;have gc:=dq X G Ck;have ik:=dq X G Cm;have w6:=dq X G FX;have no_dict:=dq X G D4;have yp:=c4.ns;have vE:=cA.ns;have A6:=c3.ns;have yn:=eQ.ns;have tJ:=dJ.ns;have il:=lL cA z0 zZ zY zX;have lM:=lL c3 D9 D8 D7 D6;have jn:=lL eQ Cu Cs Cq Co;have jo:=lL c4 Cv Ct Cr Cp;have gz:=lL dJ yK yJ yI yH;obtain⟨Fa,Fl⟩:=LS;obtain⟨oc,od,kV,doc,pm,an,jt,ct,yU,rfl,lk,yu⟩:=Fl.ex;refine⟨fZ "law" "law" (gq (top 54)) (ff (top 54)) (aU (top 54)) .none kV doc pm an jt ct,fun s v=>.of_eq rfl,fun base _ _=>?_⟩;have Ld:=q5 (P:=l.prog) (w:=w) (mg:=mg) (base:=base) F0.F gu;have Mn:=q0 (P:=l.prog) (w:=w) (mg:=mg) (base:=base) F1.F gu;have Mm:=qZ (P:=l.prog) (w:=w) (mg:=mg) (base:=base) F2.F ⟨Ld,F0.mg X G,F0.F.kp,b0⟩ ⟨Mn,F1.mg X G,F1.F.kp,b1⟩;have EH:=mV (P:=l.prog) (w:=w) (mg:=mg) (base:=base) F3.F (dJ.fld iS);have IX:=oV (P:=l.prog) (w:=w) (mg:=mg) (base:=base) F4.F (c4.fld km) (c4.fld kl) (c4.fld jE) (c4.fld kn);have IW:=oU (P:=l.prog) (w:=w) (mg:=mg) (base:=base) F5.F (eQ.fld ki) (eQ.fld iU);have IV:=pW (P:=l.prog) (w:=w) (mg:=mg) (base:=base) F6.F (c3.fld lD) (c3.fld jD) (c3.fld lC) (c3.fld kj) (c3.fld jC) (c3.fld lE);have IU:=nY (P:=l.prog) (w:=w) (mg:=mg) (base:=base) F7.F (cA.fld jB) (cA.fld ix) (cA.fld iT) (cA.fld jA);have Ml:=xu (P:=l.prog) (w:=w) (mg:=mg) (base:=base) F8.F ⟨EH,b3,F3.maker oN oP,dJ.ns,bE X G dJ.ns⟩ ⟨IX,b4,F4.maker uw uA,c4.ns,bE X G c4.ns⟩ ⟨IW,b5,F5.maker uv uz,eQ.ns,bE X G eQ.ns⟩ ⟨IV,b6,F6.maker xa xn,c3.ns,bE X G c3.ns⟩ ⟨IU,b7,F7.maker qI qR,cA.ns,bE X G cA.ns⟩;have Mj:=pU (P:=l.prog) (w:=w) (mg:=mg) (base:=base) F9.F ⟨EH,b3,F3.maker oN oP,dJ.ns,bE X G dJ.ns⟩ ⟨IX,b4,F4.maker uw uA,c4.ns,bE X G c4.ns⟩ ⟨IW,b5,F5.maker uv uz,eQ.ns,bE X G eQ.ns⟩ ⟨IV,b6,F6.maker xa xn,c3.ns,bE X G c3.ns⟩ ⟨IU,b7,F7.maker qI qR,cA.ns,bE X G cA.ns⟩;have Gy:=uF (P:=l.prog) (w:=w) (mg:=mg) (base:=base) FU.F ur w7 br;have Jl:=sv (P:=l.prog) (w:=w) (mg:=mg) (base:=base) Io.F br gu gc ⟨Gy,FU.mg X G,FU.F.kp,LN⟩;have Jk:=uG (P:=l.prog) (w:=w) (mg:=mg) (base:=base) Im.F br gu ik w6 gc ⟨Jl,Io.mg X G,Io.F.kp,Oo⟩ ⟨Gy,FU.mg X G,FU.F.kp,LN⟩;have Jj:=rf (P:=l.prog) (w:=w) (mg:=mg) (base:=base) KY.F (dJ.fld iS);have Ji:=uI (P:=l.prog) (w:=w) (mg:=mg) (base:=base) KW.F (c4.fld kn) (c4.fld jE) (c4.fld kl) (c4.fld km);have Jh:=uH (P:=l.prog) (w:=w) (mg:=mg) (base:=base) KU.F (eQ.fld iU) (eQ.fld ki);have Jg:=vI (P:=l.prog) (w:=w) (mg:=mg) (base:=base) KS.F (c3.fld lE) (c3.fld jC) (c3.fld kj) (c3.fld lC) (c3.fld jD) (c3.fld lD);have Jf:=sx (P:=l.prog) (w:=w) (mg:=mg) (base:=base) KR.F (cA.fld jA) (cA.fld iT) (cA.fld ix) (cA.fld jB);have Je:=uE (P:=l.prog) (w:=w) (mg:=mg) (base:=base) Il.F br ⟨yp,bE X G yp⟩ ⟨vE,bE X G vE⟩ ⟨A6,bE X G A6⟩ ⟨yn,bE X G yn⟩ ⟨tJ,bE X G tJ⟩ ⟨yo,bE X G yo⟩ il lM jn jo gz jI lJ kz kD iX kr mR lG lK jF jG lH ku kB iV iY kA jJ jL iy iz jK iZ i0 gY jH lI ky kC iW;have Jd:=nX (P:=l.prog) (w:=w) (mg:=mg) (base:=base) KQ.F (dJ.fld iS) ⟨EH,b3,F3.maker oN oP,dJ.ns,bE X G dJ.ns⟩;have Gx:=pT (P:=l.prog) (w:=w) (mg:=mg) (base:=base) FT.F;have Jc:=pX (P:=l.prog) (w:=w) (mg:=mg) (base:=base) KP.F (c4.fld kn) (c4.fld jE) (c4.fld kl) (c4.fld km) ⟨IX,b4,F4.maker uw uA,c4.ns,bE X G c4.ns⟩ ⟨Gx,FT.mg X G,FT.F.kp,LM⟩;have Jb:=pV (P:=l.prog) (w:=w) (mg:=mg) (base:=base) KO.F (eQ.fld iU) (eQ.fld ki) ⟨IW,b5,F5.maker uv uz,eQ.ns,bE X G eQ.ns⟩;have Ja:=rg (P:=l.prog) (w:=w) (mg:=mg) (base:=base) KN.F (c3.fld lD) (c3.fld jD) (c3.fld lC) (c3.fld kj) (c3.fld lE) (c3.fld jC) ⟨Gx,FT.mg X G,FT.F.kp,LM⟩ ⟨IV,b6,F6.maker xa xn,c3.ns,bE X G c3.ns⟩;have I0:=oT (P:=l.prog) (w:=w) (mg:=mg) (base:=base) KL.F (cA.fld jB) (cA.fld ix) (cA.fld jA) (cA.fld iT) ⟨IU,b7,F7.maker qI qR,cA.ns,bE X G cA.ns⟩;have IZ:=mq (P:=l.prog) (w:=w) (mg:=mg) (base:=base) Ik.F;have IY:=xw (P:=l.prog) (w:=w) (mg:=mg) (base:=base) Ij.F gc ⟨IZ,Ik.mg X G,Ik.F.kp,N9⟩;exact Fc Fl no_dict ik ⟨Ld,F0.mg X G,F0.F.kp,b0⟩ ⟨Mm,F2.mg X G,F2.F.kp,b2⟩ ⟨Ml,F8.mg X G,F8.F.kp,b8⟩ ⟨Mj,F9.mg X G,F9.F.kp,b9⟩ ⟨Jk,Im.mg X G,Im.F.kp,Om⟩ ⟨Jj,Ol,KY.me dJ⟩ ⟨Ji,Oj,KW.me c4⟩ ⟨Jh,Oi,KU.me eQ⟩ ⟨Jg,Oh,KS.me c3⟩ ⟨Jf,Og,KR.me cA⟩ ⟨Je,Il.mg X G,Il.F.kp,Of⟩ ⟨Jd,Oe,KQ.me dJ⟩ ⟨Jc,Od,KP.me c4⟩ ⟨Jb,Oc,KO.me eQ⟩ ⟨Ja,Ob,KN.me c3⟩ ⟨I0,Oa,KL.me cA⟩ ⟨IY,Ij.mg X G,Ij.F.kp,N8⟩
end Fin
end Internal
open Internal
open PySem PySem.W PyProof.Rows
set_option maxRecDepth 100000 in
set_option maxHeartbeats 0 in
theorem PySem.Challenge.cw_knotwise_k26_moves_told_and_renamed_holds : PySem.Challenge.rw_knotwise_k26_moves_told_and_renamed.Holds := by
 w_on
 refine K2.zc (q:=Fin.hQ) (K:=Fin.hK) (as:=Fin.hA) (N:=(12+(1+(1261+(1536+(1214+815)))))) Fin.E5 (by kernel_rfl) (by kernel_rfl) (fun _=>by kernel_rfl) (fun _=>by kernel_rfl) Fin.E6 (by rfl) (by rfl) (by rfl) (by rfl) Fin.E4 ⟨rfl,rfl,rfl,rfl,rfl,by decide +kernel⟩ ?hw ?hc
 (case hw=>w_witness2)
 k_fill
 refine K2.AZ (l:=aT) (k:=4) (x:="_law_script") rfl rfl ⟨rfl,by decide,by decide⟩ (fun w h Y=>Y) ?F
 case F =>
  intro w mg fa h KX G G0;exact Fin.all_mk KX G G0 K2.rD K2.rD K2.rD K2.rD K2.rD K2.j6 K2.j6 K2.j6 K2.gw K2.gw K2.gw K2.gw K2.gw K2.j6 K2.j6 K2.j6 K2.j6 K2.j6 K2.gw K2.gw K2.gw K2.gw K2.gw K2.j6 K2.gw K2.j6 K2.gw K2.gw K2.gw K2.gw K2.j6 K2.j6 K2.j6
