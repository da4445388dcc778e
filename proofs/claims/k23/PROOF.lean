import PyProof.Rows.All
import Wide.All
import OpenK.AllK
import Wide.FinOn
import Lean
import PyProof.EqAt
import PyProof.EqKinds
import PyProof.TupleCall
import PySem.Challenge.RW_knotwise_k23_slides
open Array renaming mk -> ki, length_toList -> yj
open Bool renaming false_eq_true -> ao, not_true -> aS, and_eq_true -> bj, not_false -> bN, noConfusion -> bT, false_ne_true -> iG, and_eq_true_iff -> kH, or_eq_true -> pT, true_and -> tJ, not_eq_true' -> Cm, false_and -> Jp, and_false -> Jq, false_or -> L0, beq_eq_decide_eq -> O3
open Classical renaming byContradiction -> kg
open False renaming elim -> bP
open ForInStep renaming yield -> tm
open Int renaming toNat_natCast -> dZ, emod_lt_of_pos -> mr, emod_nonneg -> pW, neg_mul -> HE
open List renaming getElem?_cons_zero -> aa, getElem?_cons_succ -> ae, set_cons_zero -> ag, set_cons_succ -> ai, length_cons -> aq, length_map -> av, length_nil -> az, map_cons -> aC, length_append -> aJ, cons_append -> aL, nil_append -> aO, map_nil -> aT, getElem?_eq_getElem -> aU, map_append -> aW, replicate -> bb, size_toArray -> bc, flatten_cons -> bg, getElem?_append_right -> bh, mem_cons_of_mem -> bq, not_mem_nil -> bI, getElem?_append_left -> bK, mem_cons -> cf, append_assoc -> cw, append_nil -> cz, getElem_map -> cJ, flatten_append -> cK, take_append_drop -> cT, mem_cons_self -> c8, mem_append_right -> c9, length_singleton -> da, mem_of_getElem? -> dA, length -> dD, getElem?_map -> dS, length_drop -> eI, length_range -> eP, getD_eq_getElem?_getD -> eT, find?_cons -> fc, length_take -> ff, mem_singleton -> fy, getElem?_set_self -> fM, nodup_cons -> fZ, length_replicate -> gb, map_map -> gI, range -> gK, foldl_cons -> hZ, nodup_nil -> iI, mem_of_find?_eq_some -> iJ, getElem?_set_ne -> iX, getElem?_of_mem -> iY, map_congr_left -> jh, flatten_singleton -> jE, append_of_mem -> jM, length_set -> j3, nodup_append -> ky, map -> ll, getElem_range -> mj, getElem?_replicate -> ml, take_of_length_le -> mM, lookup_cons -> oh, all_eq_true -> oi, mem_append_left -> oK, idxOf_le_length -> oM, any_cons -> pe, lookup -> pR, find?_some -> pS, find?_eq_none -> qS, mem_map_of_mem -> yM, filterMap_cons -> yN, take_nil -> Bl, map_take -> Bm, map_drop -> Bn, filter_append -> Bo, drop_nil -> Bp, foldl_append -> Ci, flatMap_cons -> Cj, find?_append -> Ck, set_nil -> De, flatten -> Df, take_append_of_le_length -> EL, getElem_mem -> EM, of_mem_zip -> Hh, length_zip -> Hi, drop_eq_getElem_cons -> Jo, length_erase_of_mem -> Kx, filterMap_cons_some -> Ky, all_cons -> LZ, length_pos_of_mem -> Mn, getElem_cons_succ -> Mp, find?_cons_of_pos -> Mq, find?_cons_of_neg -> Mr, drop_eq_nil_of_le -> Mt, length_filter_le -> OY, getElem?_eq_none -> OZ, all_map -> O0, mem_of_mem_drop -> Pm, mem_erase_of_ne -> Pn, flatten_flatten -> Pp
open Nat renaming le_refl -> bp, lt_of_lt_of_le -> bR, ne_of_lt -> bS, le_trans -> dI, zero_le -> fT, lt_irrefl -> kF, lt_succ_self -> lr, add_sub_cancel_left -> t6, succ_le_succ -> uw, le_add_right -> ux, le_of_succ_le_succ -> uD, le_of_ble_eq_true -> wG, mod_lt -> LY, le_of_lt -> Pk
open Ne renaming symm -> dR
open Option renaming isSome_map -> mH, bind_some -> tj
open Option.some renaming inj -> cj
open Prod.mk renaming injEq -> HC
open PyProof.Rows renaming callWith_type1 -> jg, IntsAre -> lB, slot_tuple_getitem -> wm, callWith_builtin1 -> wF, envOfC -> ze, AllBare -> zj
open PySem renaming FuncData -> aE, Shared -> aK, wpAny_bind -> ba, mainGlobals -> bz, sizeLine -> bG, starEach -> bO, Program -> bU, wpAny_pure -> cq, sizeLine_eq -> dw, bootBuiltins -> eQ, Around -> fJ, Params -> gA, compareOp -> gN, treeTable -> iW, mem_of_lookup -> je, OsState -> kd, wpAny_Call_Name_kw -> kr, wpAny_passesOwn -> kK, wpAny_execs_nil -> kL, backTo -> kM, wpAny_newObj_type -> k9, wpAny_mono -> lb, sysModules -> lg, binaryOp -> lh, assignEach -> lj, wpAny_holding -> ng, tupleKind_room_in1 -> nh, importedModules -> nj, foldedSetIterable -> oJ, ReadsAll -> qR, sliceBounds -> rj, argBest -> rk, NameKind -> tH, richCompare -> wB, codeAny -> wC, wpAny_execs_cons -> xC, wpAny_updateSeq -> za, wpAny_loadPart' -> zb, swapsWith -> zc, letOwnedTupleGo -> zd, codeAny_mono -> zf, wpAny_tryCatch -> Cf, keywordEach -> C7, holding -> C8, wpAny_standAt -> ET, wpAny_pyIter_tuple -> EU, tupleKind -> EV, plainId_quiet -> EW, getMethod -> EY, assign -> EZ, ExceptHandler -> E4, wpAny_truthy_dict -> Hq, wpAny_truthy_bool -> Hr, wpAny_pyIter_list -> Hs, relabel -> Ht, callerA -> Hu, call -> Jk, wpAny_letGo -> Me, valueAt -> Mf, excClassObj -> Mh, codeAny_builtin -> Mi, Within -> Ml, wpAny_seqItems -> Ph
open PySem.Around renaming under_plainId -> wu, under -> L1
open PySem.AutoSeq1 renaming sub_tuple_tuple -> E5
open PySem.Builtin.Builtins renaming bindParams -> wt
open PySem.Builtin.List renaming listTooLong -> kh
open PySem.Builtin.Slice renaming slicePlaces -> jO, sliceAdjust -> nY, sliceApplied -> yO
open PySem.Builtin.Tuple renaming tupleExact -> j4
open PySem.Calls renaming spliced_cons -> zi, Name_function_global -> Hk, evalArgs_plain -> O2
open PySem.Challenge renaming rw_knotwise_k23_slides -> cD
open PySem.Code renaming isFrame -> O1
open PySem.F renaming plainAttrs_list -> bA, type_list_append -> bY, slot_list_append -> bZ, plain_min_loop -> jN, slot_dict_get -> mL, slot_list_index -> rp, type_list_insert -> He, slot_list_insert -> Hf, args_tuple_add_2 -> Hg, type_list_index -> Hx, plainAttrs_dict -> Hy, entry_tuple_add -> Hz, args_dict_get_3 -> HB, entry_min_loop -> HF, slot_tuple_add -> Jm, entry_dict_get -> Jn, type_dict_get -> Kw
open PySem.Heap renaming get?_push_of_some -> aY, lt_size -> bf, get?_push_size -> cL, get?_update_other -> ef, size_push -> ju, FlyingW -> wj, get?_update_self -> wo, SameBut -> Dg, get?_none_of_le -> Pq
open PySem.NameKind renaming free -> lu
open PySem.Obj renaming mapSeq -> xD
open PySem.Paired renaming length -> yL
open PySem.PassesOwn renaming never -> aX
open PySem.PyData renaming eqv -> uC, depthAll -> EK
open PySem.SeqAt renaming items_eqAt -> nX, any_by_data -> rm, readOf -> Cg
open PySem.Value renaming ref -> gw, bool -> we, int -> E1, none -> Jj, str -> Mj
open PySem.W renaming Frag -> ay, findIn -> bJ, nsIn -> cI, mg_none_of -> c5, keepIn -> fm, emptyDict -> fI, mg_of -> gz, boot_heap -> gO, instObj -> iM, boot_drawn -> iV, excIn -> i8, callWith_K -> jr, makesIn -> jJ, kia_one -> jK, fnOf -> jL, methodCall_KW -> mK, topFrame -> ni, SharedT -> nk, plainGet -> sI, boot_toks -> uB, lookIn -> wg, plainGet_of -> wD, methodObj -> zg, hasDictIn -> zh, takerIn -> C9, OpenLaw -> Dc, codeIn -> E3, cellsFrom_some -> Jl, isFn -> Kv, openGood -> LU, boot_o_2 -> LV, boot_o_1 -> LW, boot_o_0 -> LX, segRunT -> Mg, hideAll_get -> Mm, of_hideAll -> OX, plainOver -> Pj
open Sum renaming inr -> Hv, inl -> Hw
open True renaming intro -> jt
set_option Elab.async false
set_option linter.all false
set_option maxRecDepth 100000
set_option maxHeartbeats 4000000
set_option genSizeOf false
set_option genInjectivity false
set_option compiler.extract_closed false
namespace Internal
theorem Ad(h:0=0:=by decide):0=0:=h
theorem Ae(h:0=0:=by first | rfl | decide):0=0:=h
theorem Af(h:0=0:=by first | k_is | rfl):0=0:=h
theorem Ai(h:0=0:=by intro _; rfl):0=0:=h
theorem Ak(h:0=0:=by decide +kernel):0=0:=h
theorem Al(h:0=0:=by intro _ _ _ _ h; repeat (first | (cases h.1; rfl) | (cases h <;> rename_i h))):0=0:=h
theorem Am(h:0=0:=by exact c8):0=0:=h
theorem An(h:0=0:=by exact wG rfl):0=0:=h
theorem Ao(h:0=0:=by first | exact .inl rfl | exact .inr rfl | exact .inr (.inl rfl) | exact .inr (.inr rfl) | assumption):0=0:=h
theorem Aq(h:0=0:=by k_is):0=0:=h
theorem Ar(h:0=0:=by rfl):0=0:=h
theorem Ax(h:0=0:=by k_exc):0=0:=h
namespace L2
open PySem PySem.Spec PyProof.Rows
noncomputable abbrev Key:=Sum Int Str
noncomputable def CI:Key->Value->Bool
 | .inl k,v=>Value.isInt k v
 | .inr x,v=>Value.isStrOf x v
noncomputable def Y1(w:World):Key->Int
 | .inl k=>hashInt k
 | .inr x=>hashStr w x
theorem gX:∀ {k:Key} {v:Value},CI k v=true->(∃ i t,k=Hw i/\v=E1 i t)\/(∃ x t,k=Hv x/\v=Mj x t)
 | .inl i,v,h=>by
  obtain⟨t,e⟩:=Value.isInt_shape (k:=i) (v:=v) h;exact .inl ⟨i,t,rfl,e⟩
 | .inr x,v,h=>by
  obtain⟨t,e⟩:=Value.isStrOf_shape (x:=x) (v:=v) h;exact .inr ⟨x,t,rfl,e⟩
theorem Lj(i:Int)(t:Tok):CI (.inl i) (.int i t)=true:=by simp [CI,Value.isInt]
theorem Li(x:Str)(t:Tok):CI (.inr x) (.str x t)=true:=by simp [CI,Value.isStrOf]
theorem NA(a b:Int):decide ((Hw a:Key)=Hw b)=(a == b):=by
 by_cases e:a=b
 ·subst e; simp
 ·have h:¬ (Hw a:Key)=Hw b:=fun q=>e (Sum.inl.inj q);rw [decide_eq_false h];exact(beq_eq_false_iff_ne.mpr e).symm
theorem Nz(a b:Str):decide ((Hv a:Key)=Hv b)=decide (a=b):=by
 by_cases e:a=b
 ·subst e; simp
 ·have h:¬ (Hv a:Key)=Hv b:=fun q=>e (Sum.inr.inj q);rw [decide_eq_false h,decide_eq_false e]
theorem Sy(a:Int)(b:Str):decide ((Hw a:Key)=Hv b)=false:=decide_eq_false (fun q=>nomatch q)
theorem Sw(a:Str)(b:Int):decide ((Hv a:Key)=Hw b)=false:=decide_eq_false (fun q=>nomatch q)
noncomputable def gG(prog:bU)(w:World):PySem.KeyKind prog w Key where
 is:=CI
 hash:=Y1 w
 inj:=fun v a b ha hb=>by
  rcases gX ha with ⟨i,t,rfl,rfl⟩ | ⟨x,t,rfl,rfl⟩
  ·rcases gX hb with ⟨j,u,rfl,e⟩ | ⟨y,u,rfl,e⟩
   ·injection e with e1 _; rw [e1]
   ·exact nomatch e
  ·rcases gX hb with ⟨j,u,rfl,e⟩ | ⟨y,u,rfl,e⟩
   ·exact nomatch e
   ·injection e with e1 _; rw [e1]
 byValue:=fun k v h=>by
  rcases gX h with ⟨i,t,rfl,rfl⟩ | ⟨x,t,rfl,rfl⟩ <;> rfl
 pyHash:=fun hv h=>by
  rcases gX hv with ⟨i,t,rfl,rfl⟩ | ⟨x,t,rfl,rfl⟩
  ·exact wpAny_pyHash_int h
  ·exact wpAny_pyHash_str h
 eqBool:=fun hu hv h=>by
  rcases gX hu with ⟨i,t,rfl,rfl⟩ | ⟨x,t,rfl,rfl⟩
  ·rcases gX hv with ⟨j,u,rfl,rfl⟩ | ⟨y,u,rfl,rfl⟩
   ·rw [NA] at h; exact wpAny_eqBool_int h
   ·rw [Sy] at h; exact SeqAt.EqAt.int_str i t y u _ _ _ _ h
  ·rcases gX hv with ⟨j,u,rfl,rfl⟩ | ⟨y,u,rfl,rfl⟩
   ·rw [Sw] at h; exact SeqAt.EqAt.str_int x t j u _ _ _ _ h
   ·rw [Nz] at h; exact wpAny_eqBool_str h
 «strs»:=fun k x t v h=>by
  rcases gX h with ⟨i,u,rfl,e⟩ | ⟨y,u,rfl,e⟩
  ·exact nomatch e
  ·injection e with e1 _
   subst e1;cases v <;> rfl
theorem FK(prog:bU)(w:World)(i:Int)(t:Tok):(gG prog w).is (.inl i) (.int i t)=true:=Lj i t
theorem FJ(prog:bU)(w:World)(x:Str)(t:Tok):(gG prog w).is (.inr x) (.str x t)=true:=Li x t
inductive V where
 | j9 | bl (b:Bool) | int (i:Int) | str (x:Str) | Rl (b:Array UInt8) | W6 (b:UInt64) | ref (a:Addr) | ty (n:String)
noncomputable def RelV:V->Value->Prop
 | .j9,u=>u=Jj
 | .bl b,u=>u=we b
 | .int i,u=>∃ t,u=E1 i t
 | .str x,u=>∃ t,u=Mj x t
 | .Rl b,u=>∃ t,u=Value.bytes b t
 | .W6 b,u=>∃ t,u=Value.float b t
 | .ref a,u=>u=gw a
 | .ty n,u=>u=Value.type n
noncomputable abbrev Vals:List V->List Value->Prop:=Paired RelV
theorem Vals.length{xs:List V}{us:List Value}(r:Vals xs us):xs.length=us.length:=yL r
theorem Vals.get:∀ {xs:List V} {us:List Value} {i:Nat} {x:V},Vals xs us->xs[i]?=some x->∃ u,us[i]?=some u/\RelV x u:=by
 intro xs us i x h;induction h generalizing i with
 | nil=>intro e; cases e
 | cons r t ih =>
  intro e;cases i with
  | zero=>cases e; exact⟨_,rfl,r⟩
  | succ i=>exact ih e
theorem Vals.set{x:V}{u:Value}(r:RelV x u):∀ {xs:List V} {us:List Value} (i:Nat),Vals xs us->Vals (xs.set i x) (us.set i u):=by
 intro xs us i h;induction h generalizing i with
 | nil=>rw [De,De]; exact .nil
 | cons q t ih =>
  cases i with
  | zero=>exact .cons r t
  | succ i=>exact .cons q (ih i)
theorem Vals.append:∀ {xs ys:List V} {us ws:List Value},Vals xs us->Vals ys ws->Vals (xs++ys) (us++ws):=by
 intro xs ys us ws h s;induction h with
 | nil=>exact s
 | cons r t ih=>exact .cons r ih
theorem Vals.take:∀ {xs:List V} {us:List Value} (n:Nat),Vals xs us->Vals (xs.take n) (us.take n):=by
 intro xs us n h;induction h generalizing n with
 | nil=>rw [Bl,Bl]; exact .nil
 | cons r t ih =>
  cases n with
  | zero=>exact .nil
  | succ n=>exact .cons r (ih n)
theorem Vals.drop:∀ {xs:List V} {us:List Value} (n:Nat),Vals xs us->Vals (xs.drop n) (us.drop n):=by
 intro xs us n h;induction h generalizing n with
 | nil=>rw [Bp,Bp]; exact .nil
 | cons r t ih =>
  cases n with
  | zero=>exact .cons r t
  | succ n=>exact ih n
noncomputable def qY:Option V->Option Value->Prop
 | some v,some u=>RelV v u
 | none,none=>True
 | _,_=>False
noncomputable def KV{κ:Type}:List (κ×V)->List (κ×Value)->Prop:=Paired fun (p:κ×V) (q:κ×Value)=>p.1=q.1/\RelV p.2 q.2
noncomputable def kV:Key->V
 | .inl i=>.int i
 | .inr x=>.str x
inductive HO where
 | lst (xs:List V)
 | tup (xs:List V)
 | dK (bC:List (Key×V)) | dT (bC:List (List Key×V))
 | set (S:Int->Bool) (n:Nat)
 | ins (C dx:Addr) (fs:List (Str×V))
 | own (x:Addr)
 | xd (fs:List (Str×V))
 | met (f x:Addr)
 | UY (lo hi:Int)
 | pO (o:Obj) (u:HO)
 | PC (q:Str)
 | ext (φ:Heap->Prop)
noncomputable abbrev Hp:=Addr->Option HO
noncomputable def upd(H:Hp)(a:Addr)(o:HO):Hp:=fun b=>if b=a then some o else H b
theorem dF{H:Hp}{a:Addr}{o:HO}:upd H a o a=some o:=by unfold upd; rw [if_pos rfl]
theorem cp{H:Hp}{a b:Addr}{o:HO}(h:b≠a):upd H a o b=H b:=by unfold upd; rw [if_neg h]
theorem Vo{H:Hp}{a b:Addr}{o u:HO}(h:H a=some o)(h':H b=some u)(d:o≠u):a≠b:=by
 intro e; subst e; rw [h] at h'; exact d (cj h')
theorem e7{H:Hp}{a b:Addr}{o:HO}(h:H a=some o)(h':H b=none):a≠b:=by
 intro e; subst e; rw [h] at h'; cases h'
section
variable (P:bU) (w:World)
noncomputable def gE(H:Hp)(h:Heap)(a:Addr):HO->Prop
 | .lst xs=>xs.length<=bG/\∃ (cy:List Value) (n:Nat),Vals xs cy/\h.get? a=some { cls:=.type "list",data:=.seq cy.toArray n }
 | .tup xs=>xs.length<=bG/\∃ cy:List Value,Vals xs cy/\IsTup h a cy.toArray
 | .dK bC=>bC.length<=bG/\(a == lg)=false/\∃ vs,KV bC vs/\h.DictOf (gG P w) a vs
 | .dT bC=>bC.length<=bG/\(a == lg)=false/\∃ xs:List (List Key×Addr×Value),
   Paired (fun (p:List Key×V) (q:List Key×Addr×Value)=>p.1=q.1/\H q.2.1=some (.tup (p.1.map kV))/\RelV p.2 q.2.2) bC xs /\
   ∃ o es ep,h.get? a=some o/\o.ExactDict/\o.data=.dict es ep/\es.toList=xs.map (entryOfKey (EV (gG P w)))/\(xs.map (·.1)).Nodup
 | .set S n=>h.SetOf (intKind P w) a S n
 | .ins C dx fs=>H dx=some (.own a)/\fs.length<=1000/\dx≠a/\h.get? a=some (iM C dx) /\
   ∃ mA,h.Ns1 dx mA/\(∀ f,qY (fs.lookup f) (mA f))/\Ml mA (fs.map (·.1))
 | .own _=>∃ o,h.get? a=some o
 | .xd fs=>∃ mA,h.Ns1 a mA/\∀ f,qY (fs.lookup f) (mA f)
 | .UY lo hi=>∃ t u v,h.get? a=some { cls:=.type "range",data:=.fields #[.int lo t,.int hi u,.int 1 v] }
 | .pO o u=>h.get? a=some o/\gE H h a u
 | .PC q=>∃ ps,h.get? a=some { cls:=.none,data:=.fields ps }/\TriplesOk ps.toList/\∀ pos cv,codeAmong pos ps.toList=some cv->∃ c',cv=.ref c'/\H c'=some (.own a)/\h.CodeRec (.ref c') q
 | .met f x=>h.get? a=some (zg (.ref f) (.ref x))
 | .ext φ=>φ h/\(∃ o,h.get? a=some o)/\∀ h1 h2:Heap,φ h1->(∀ o,h1.get? a=some o->h2.get? a=some o)->φ h2
noncomputable def pV(H:Hp)(h:Heap):Prop:=∀ a o,H a=some o->gE P w H h a o
end
section
variable {P:bU} {w:World} {H H':Hp} {h h':Heap} {a:Addr} {o:HO}
theorem gE.lt(x:gE P w H h a o):a < h.objs.size:=by
 cases o with
 | lst xs=>obtain⟨_,_,_,_,e⟩:=x; exact bf e
 | tup xs=>obtain⟨_,_,_,p⟩:=x; exact p.lt
 | dK bC=>obtain⟨_,_,_,_,o,_,_,e,_⟩:=x; exact bf e
 | dT bC=>obtain⟨_,_,_,_,o,_,_,e,_⟩:=x; exact bf e
 | set S n=>obtain⟨o,_,_,_,e,_⟩:=x; exact bf e
 | ins C dx fs=>obtain⟨_,_,_,e,_⟩:=x; exact bf e
 | own y=>obtain⟨_,e⟩:=x; exact bf e
 | xd fs=>obtain⟨_,⟨_,_,_,e,_⟩,_⟩:=x; exact bf e
 | UY lo hi=>obtain⟨_,_,_,e⟩:=x; exact bf e
 | pO ob u=>obtain⟨e,_⟩:=x; exact bf e
 | PC q=>obtain⟨_,e,_⟩:=x; exact bf e
 | met f y=>exact bf (show h.get? a=some _ from x)
 | ext φ=>obtain⟨_,⟨_,e⟩,_⟩:=x; exact bf e
theorem Paired.Sl{α β:Type}{F G:α->β->Prop}:∀ {Sm:List α} {l₂:List β},Paired F Sm l₂->(∀ a b,F a b->G a b)->Paired G Sm l₂:=by
 intro Sm l₂ h f;induction h with
 | nil=>exact .nil
 | cons r t ih=>exact .cons (f _ _ r) ih
theorem gE.kG(x:gE P w H h a o)(k:∀ b u,(b=a\/H b=some (.own a))->h.get? b=some u->h'.get? b=some u)
  (ho:∀ b,H b=some (.own a)->H' b=some (.own a)) (ht:∀ b xs,H b=some (.tup xs)->H' b=some (.tup xs)):gE P w H' h' a o:=by
 induction o with
 | lst xs=>obtain⟨z,cy,n,r,e⟩:=x; exact⟨z,cy,n,r,k _ _ (.inl rfl) e⟩
 | tup xs=>obtain⟨z,cy,r,ob,e,c⟩:=x; exact⟨z,cy,r,ob,k _ _ (.inl rfl) e,c⟩
 | dK bC=>obtain⟨z,y,vs,r,ob,es,ep,e,c⟩:=x; exact⟨z,y,vs,r,ob,es,ep,k _ _ (.inl rfl) e,c⟩
 | dT bC =>
  obtain⟨z,y,xs,r,ob,es,ep,e,c⟩:=x;exact⟨z,y,xs,Paired.Sl r fun p q z=>⟨z.1,ht _ _ z.2.1,z.2.2⟩,ob,es,ep,k _ _ (.inl rfl) e,c⟩
 | set S n=>obtain⟨ob,es,ep,t,e,c⟩:=x; exact⟨ob,es,ep,t,k _ _ (.inl rfl) e,c⟩
 | ins C dx fs =>
  obtain⟨d,z,ne,e,mA,⟨od,es,ep,e2,c⟩,r⟩:=x;exact⟨ho _ d,z,ne,k _ _ (.inl rfl) e,mA,⟨od,es,ep,k _ _ (.inr d) e2,c⟩,r⟩
 | own y=>obtain⟨ob,e⟩:=x; exact⟨ob,k _ _ (.inl rfl) e⟩
 | xd fs=>obtain⟨mA,⟨od,es,ep,e,c⟩,r⟩:=x; exact⟨mA,⟨od,es,ep,k _ _ (.inl rfl) e,c⟩,r⟩
 | UY lo hi=>obtain⟨t,u,v,e⟩:=x; exact⟨t,u,v,k _ _ (.inl rfl) e⟩
 | pO ob u ih=>obtain⟨e,q⟩:=x; exact⟨k _ _ (.inl rfl) e,ih q⟩
 | PC q =>
  obtain⟨ps,e,t,z⟩:=x;refine⟨ps,k _ _ (.inl rfl) e,t,fun pos cv y=>?_⟩;obtain⟨c',e1,e2,c2,oc,vs,tq,e3,e4,r⟩:=z pos cv y;cases e3;exact⟨c',e1,ho _ e2,c',oc,vs,tq,rfl,k _ _ (.inr e2) e4,r⟩
 | met f y =>
  have e:h.get? a=some (zg (.ref f) (.ref y)):=x;show h'.get? a=some (zg (.ref f) (.ref y));exact k a _ (.inl rfl) e
 | ext φ=>obtain⟨p,⟨o,e⟩,st⟩:=x; exact⟨st _ _ p fun o q=>k _ _ (.inl rfl) q,⟨o,k _ _ (.inl rfl) e⟩,st⟩
theorem pV.lt(x:pV P w H h)(e:H a=some o):a < h.objs.size:=(x a o e).lt
theorem pV.fresh(x:pV P w H h)(e:h.objs.size<=a):H a=none:=by
 cases q:H a with
 | none=>rfl
 | some u=>exact absurd (bR (x.lt q) e) (kF _)
theorem pV.kept(x:pV P w H h)(k:∀ b u,h.get? b=some u->h'.get? b=some u):pV P w H h':=fun a o e =>
 (x a o e).kG (fun b u _ q=>k b u q) (fun _ q=>q) fun _ _ q=>q
theorem pV.laid(x:pV P w H h)(k:∀ b u,h.get? b=some u->h'.get? b=some u)(hp:h.objs.size<=a)(new:gE P w (upd H a o) h' a o):pV P w (upd H a o) h':=fun b u e=>by
 have hn:=x.fresh hp;by_cases hb:b=a
 ·subst hb; rw [dF] at e; cases e; exact new
 ·rw [cp hb] at e;exact(x b u e).kG (fun c v _ q=>k c v q) (fun c q=>by rw [cp (e7 q hn)]; exact q) fun c xs q=>by rw [cp (e7 q hn)]; exact q
end
noncomputable def Rd(H:Hp)(a:Addr)(u:HO):Prop:=H a=some u\/∃ o,H a=some (.pO o u)
theorem Rd.ok{P:bU}{w:World}{H:Hp}{h:Heap}{a:Addr}{u:HO}(r:Rd H a u)(x:pV P w H h):gE P w H h a u:=by
 rcases r with r | ⟨o,r⟩
 ·exact x a u r
 ·obtain⟨_,q⟩:=x a _ r;exact q
noncomputable def Wt:Option HO->Prop
 | some (.lst _)=>True
 | some (.dK _)=>True
 | some (.dT _)=>True
 | some (.set _ _)=>True
 | some (.ins _ _ _)=>True
 | some (.ext _)=>True
 | _=>False
section
variable {P:bU} {w:World} {H:Hp} {h h':Heap} {x e:Addr} {o':HO}
theorem pV.write(ok:pV P w H h)(mu:Wt (H x))(he:e=x\/H e=some (.own x))(k:∀ b u,b≠e->h.get? b=some u->h'.get? b=some u)(T7:∃ u,h'.get? e=some u)
  (new:gE P w (upd H x o') h' x o'):pV P w (upd H x o') h':=fun b u q=>by
 have Vk:∀ c y,H c=some (.own y)->c≠x:=fun c y r z=>by subst z; rw [r] at mu; exact mu
 have YJ:∀ c xs,H c=some (.tup xs)->c≠x:=fun c xs r z=>by subst z; rw [r] at mu; exact mu
 by_cases hb:b=x
 ·subst hb; rw [dF] at q; cases q; exact new
 ·rw [cp hb] at q;by_cases S5:b=e
  ·have q':H b=some (.own x):=by
    rcases he with z | z
    ·exact absurd (S5.trans z) hb
    ·rw [S5]; exact z
   rw [q] at q'; cases q';obtain⟨v,hv⟩:=T7;exact⟨v,by rw [S5]; exact hv⟩
  ·refine(ok b u q).kG (fun c v hc r=>k c v ?_ r) (fun c r=>by rw [cp (Vk c b r)]; exact r) fun c xs r=>by rw [cp (YJ c xs r)]; exact r
   rcases hc with rfl | hc
   ·exact S5
   ·rintro rfl;rcases he with z | z
    ·exact Vk c b hc z
    ·rw [hc] at z; cases z; exact hb rfl
end
structure Un(fs ex:List Addr)(H H':Hp)(h h':Heap):Prop where
 keep:∀ b o,h.get? b=some o->H b=none->b∉fs->b∉ex->h'.get? b=some o
 slot:∀ b o,h.get? b=some o->H b=none->b∈fs->b∉ex->∃ sl,h'.get? b=some { o with slots:=sl }
 free:∀ b o,h.get? b=some o->H b=none->b∉ex->H' b=none
 there:∀ b o,h.get? b=some o->b∉ex->∃ o',h'.get? b=some o'
 wH:∀ b xs,H b=some (.tup xs)->H' b=some (.tup xs)
 vC:∀ b o u,H b=some (.pO o u)->H' b=some (.pO o u)
 zl:∀ b q,H b=some (.PC q)->H' b=some (.PC q)
 yr:∀ b x,H b=some (.own x)->H' b=some (.own x)
section
variable {fs fs' ex ex':List Addr} {H H1 H2:Hp} {h h1 h2 h':Heap} {a x e:Addr} {o:HO}
theorem Un.any(u:Un fs ex H H1 h h1){b:Addr}{ob:Obj}(q:h.get? b=some ob)(n:H b=none)(hx:b∉ex):∃ sl,h1.get? b=some { ob with slots:=sl }:=by
 by_cases hb:b∈fs
 ·exact u.slot b ob q n hb hx
 ·exact⟨ob.slots,u.keep b ob q n hb hx⟩
theorem Un.kept(k:∀ b u,h.get? b=some u->h'.get? b=some u):Un fs ex H H h h' :=
 ⟨fun b ob q _ _ _=>k b ob q,fun b ob q _ _ _=>⟨ob.slots,k b ob q⟩,fun _ _ _ n _=>n,fun b ob q _=>⟨ob,k b ob q⟩,fun _ _ q=>q,fun _ _ _ q=>q,fun _ _ q=>q,fun _ _ q=>q⟩
theorem Un.refl:Un fs ex H H h h:=Un.kept fun _ _ q=>q
theorem Un.laid(k:∀ b u,h.get? b=some u->h'.get? b=some u)(hp:h.objs.size<=a)(hn:H a=none):Un fs ex H (upd H a o) h h' where
 keep:=fun b u q _ _ _=>k b u q
 slot:=fun b u q _ _ _=>⟨u.slots,k b u q⟩
 free:=fun b u q n _=>by rw [cp (bS (bR (bf q) hp))]; exact n
 there:=fun b u q _=>⟨u,k b u q⟩
 wH:=fun b xs q=>by rw [cp (e7 q hn)]; exact q
 vC:=fun b u xs q=>by rw [cp (e7 q hn)]; exact q
 zl:=fun b ps q=>by rw [cp (e7 q hn)]; exact q
 yr:=fun b ps q=>by rw [cp (e7 q hn)]; exact q
theorem Un.write(mu:Wt (H x))(he:e=x\/H e=some (.own x))(k:∀ b u,b≠e->h.get? b=some u->h'.get? b=some u)(T7:∃ u,h'.get? e=some u):Un fs ex H (upd H x o) h h':=by
 have hx:∀ b,H b=none->b≠x:=fun b n z=>by subst z; rw [n] at mu; exact mu
 have hb:∀ b,H b=none->b≠e:=fun b n z=>by
  subst z;rcases he with r | r
  ·exact hx b n r
  ·rw [n] at r; cases r
 have hm:∀ b u,H b=some u->¬ Wt (some u)->b≠x:=fun b u q nm z=>by subst z; rw [q] at mu; exact nm mu
 refine⟨fun b u q n _ _=>k b u (hb b n) q,fun b u q n _ _=>⟨u.slots,k b u (hb b n) q⟩,fun b u q n _=>by rw [cp (hx b n)]; exact n,fun b u q _=>?_,
  fun b xs q=>by rw [cp (hm b _ q fun z=>z)]; exact q,fun b u xs q=>by rw [cp (hm b _ q fun z=>z)]; exact q,fun b ps q=>by rw [cp (hm b _ q fun z=>z)]; exact q,fun b ps q=>by rw [cp (hm b _ q fun z=>z)]; exact q⟩
 by_cases S5:b=e
 ·subst S5; exact T7
 ·exact⟨u,k b u S5 q⟩
end
noncomputable def Wz(h:Heap)(H:Hp):List Addr:=(gK h.objs.size).filter fun a=>(H a).isSome
noncomputable def D4(h:Heap)(H:Hp):Heap:=PySem.W.hideAll h (Wz h H)
theorem Lp(h:Heap)(H:Hp):(D4 h H).objs.size=h.objs.size:=PySem.W.hideAll_size _ _
theorem NU{h:Heap}{H:Hp}{b:Addr}{o:Obj}(e:h.get? b=some o)(n:H b=none):(D4 h H).get? b=some o :=
 Mm _ e fun hm=>by
  have q:(H b).isSome=true:=(List.mem_filter.mp hm).2;rw [n] at q; simp at q
theorem P6{h:Heap}{H:Hp}{b:Addr}{o:Obj}(e:(D4 h H).get? b=some o):h.get? b=some o/\H b=none:=by
 have e':h.get? b=some o:=OX (Wz h H) e;refine⟨e',?_⟩;cases q:H b with
 | none=>rfl
 | some x =>
  have hm:b∈Wz h H:=List.mem_filter.mpr ⟨List.mem_range.mpr (bf e'),by simp [q]⟩;have z:(D4 h H).get? b=none:=PySem.W.hideAll_none (Wz h H) hm;rw [z] at e; cases e
noncomputable def vV(g h:Heap)(L:Addr):List (Addr×Obj):=(gK h.objs.size).filterMap fun a=>if a=L\/(g.get? a).isSome=true then none else (h.get? a).map fun o=>(a,o)
theorem xS{g h:Heap}{L a:Addr}{o:Obj}(h1:a≠L)(h2:g.get? a=none)(h3:h.get? a=some o):(a,o)∈vV g h L :=
 List.mem_filterMap.mpr ⟨a,List.mem_range.mpr (bf h3),by simp [h1,h2,h3]⟩
theorem zN{g h:Heap}{L:Addr}{p:Addr×Obj}(hp:p∈vV g h L):p.1≠L/\g.get? p.1=none/\h.get? p.1=some p.2:=by
 obtain⟨b,_,e⟩:=List.mem_filterMap.mp hp;split at e
 ·cases e
 ·rename_i hn;cases q:h.get? b with
  | none=>rw [q] at e; simp at e
  | some u =>
   rw [q] at e;simp only [Option.map_some,Option.some.injEq] at e;subst e;refine⟨fun z=>hn (.inl z),?_,q⟩;show g.get? b=none;cases r:g.get? b with
   | none=>rfl
   | some v=>exact(hn (.inr (by simp [r]))).elim
noncomputable def rest(g h:Heap)(L d:Addr):List (Addr×Obj):=(vV g h L).filter fun p=>decide (p.1≠d)
theorem FE{g h:Heap}{L:Addr}:News g L h (vV g h L):=fun p hp=>let ⟨a,b,c⟩:=zN hp; ⟨c,a,b⟩
structure Mod(K:ay)(mg:Str->Option Value)(base:Heap):Prop where
 Ny:K.In base
 glob:base.Ns bz mg
 blt:∃ mb,base.Ns builtinsNs mb/\∀ x:Str,x≠"__name__"->mb x=eQ x
 nolimit:base.NoLimit
structure Cx where
 prog:bU
 w:World
 K:ay
 mg:Str->Option Value
 base:Heap
 A:fJ
 N:List Str
 kj:aK
 LQ:Hp
 env:Env
 outer:List Env
 stack:List Env
 ex:List Addr
 fn:Str->Bool
 calm:Bool
 pn:List (Addr×Obj)
 xe:Value->aK->Prop
noncomputable def tF(l:List Env):List Addr:=l.filterMap (·.frame)
noncomputable abbrev Cx.fs(X:Cx):List Addr:=tF X.outer
noncomputable def Xf(sc:Scope)(x:Str):Prop:=sc.names.lookup x=some .local\/sc.names.lookup x=some .cell\/sc.names.lookup x=some .free
noncomputable def Loc(sc:Scope)(x:Str):Prop:=sc.names.lookup x=some .local\/sc.names.lookup x=some .cell
noncomputable def Look(env:Env)(h:Heap)(m:Str->Option Value)(x:Str)(u:Value):Prop :=
 (env.kindOf x=some .local/\m x=some u)\/((env.kindOf x=some .cell\/env.kindOf x=some .free)/\∃ c,env.cells.lookup x=some c/\h.IsCell c (some u))
structure Cx.Ok(X:Cx):Prop where
 mod:Mod X.K X.mg X.base
 kind:X.env.scope.kind=.function
 glob:X.env.globals=bz
 blt:X.env.builtins=builtinsNs
 above:X.kj.heap.objs.size<=X.env.locals
 inj:∀ x y c,X.env.cells.lookup x=some c->X.env.cells.lookup y=some c->x=y
 has:∀ x,(X.env.kindOf x=some .cell\/X.env.kindOf x=some .free)->∃ c,X.env.cells.lookup x=some c
 Uh:∀ x c,X.fn x=true->X.env.cells.lookup x=some c->X.kj.heap.objs.size<=c
 hd:X.calm=true->X.A.handled=none
 frames:X.A.frames=some X.stack
 UR:X.stack=X.outer\/(X.stack=X.env :: X.outer/\X.env.frame=some X.env.locals)
 Wb:∀ b∈X.ex,b≠X.env.locals/\∀ x c,X.env.cells.lookup x=some c->c≠b
 bs:∀ b o,X.base.get? b=some o->X.kj.heap.get? b=some o/\X.LQ b=none
 Ma:X.base.objs.size<=X.kj.heap.objs.size
 HX:∀ b o,X.base.get? b=some o->b∉X.ex
 Ly:∀ b∈X.ex,b∉X.fs
 vB:X.kj.heap.FunFrames X.base X.outer
 Oc:∀ b∈X.fs,X.LQ b=none
structure Inv(X:Cx)(pins:List (Addr×Obj))(σ:List (Option V))(H:Hp)(s:aK):Prop where
 ok:X.Ok
 os:s.os=X.kj.os
 bare:zj s.gens
 base:Un X.fs X.ex X.LQ H X.kj.heap s.heap
 loc:∃ m,s.heap.Ns X.env.locals m/\∀ (i:Nat) (x:Str) (v:V),X.N[i]?=some x->σ[i]?=some (some v)->Xf X.env.scope x->∃ u,RelV v u/\Look X.env s.heap m x u
 cell:∀ x c,X.env.cells.lookup x=some c->∃ v,s.heap.IsCell c v
 free:H X.env.locals=none
 mJ:∀ x c,X.env.cells.lookup x=some c->H c=none
 pin:∀ p∈X.pn++pins,s.heap.get? p.1=some p.2/\H p.1=none/\p.1≠X.env.locals/\p.1∉X.fs/\∀ v,p.2.data≠.cell v
 eL:pV X.prog X.w H s.heap
 len:σ.length=X.N.length
section
variable {X:Cx} {pins:List (Addr×Obj)} {σ:List (Option V)} {H H':Hp} {s:aK} {h':Heap}
theorem Cx.Ok.YL(ok:X.Ok){b:Addr}{o:Obj}(e:X.base.get? b=some o):b∉X.fs:=fun hb=>by
 have:=(ok.vB.mem hb).1;rw [e] at this; cases this
theorem Inv.bs(I:Inv X pins σ H s):∀ b o,X.base.get? b=some o->s.heap.get? b=some o/\H b=none:=fun b o e =>
 ⟨I.base.keep b o (I.ok.bs b o e).1 (I.ok.bs b o e).2 (I.ok.YL e) (I.ok.HX b o e),I.base.free b o (I.ok.bs b o e).1 (I.ok.bs b o e).2 (I.ok.HX b o e)⟩
theorem Inv.bk(I:Inv X pins σ H s):∀ b o,X.base.get? b=some o->s.heap.get? b=some o:=fun b o e=>(I.bs b o e).1
theorem Inv.mod(I:Inv X pins σ H s):Mod X.K X.mg X.base:=I.ok.mod
theorem Inv.wy(I:Inv X pins σ H s):X.K.In s.heap:=I.ok.mod.Ny.keeps I.bk
theorem Inv.fr(I:Inv X pins σ H s):∃ m,Fr X.base X.env.locals s.heap m :=
 let ⟨m,hn,_⟩:=I.loc
 ⟨m,hn,I.bk,dI I.ok.Ma I.ok.above⟩
theorem Inv.lt(I:Inv X pins σ H s):X.env.locals < s.heap.objs.size:=let ⟨_,hn,_⟩:=I.loc; hn.lt
theorem Inv.sz(I:Inv X pins σ H s):X.kj.heap.objs.size<=s.heap.objs.size:=dI I.ok.above (Pk I.lt)
theorem Inv.YK(I:Inv X pins σ H s){a:Addr}(h:s.heap.objs.size<=a):a∉X.fs:=fun hb=>by
 obtain⟨_,o,ho,_⟩:=I.ok.vB.mem hb;exact absurd (bR (bf ho) (dI I.sz h)) (kF _)
theorem Inv.Tu(I:Inv X pins σ H s):∀ x c,X.env.cells.lookup x=some c->c≠X.env.locals:=fun x c e z=>by
 obtain⟨v,o,ho,hd⟩:=I.cell x c e;obtain⟨m,⟨o',es,ep,SS,NW,_⟩,_⟩:=I.loc;rw [z,SS] at ho; cases ho; rw [NW] at hd; cases hd
theorem Inv.vB(I:Inv X pins σ H s):s.heap.FunFrames X.base X.outer:=by
 have all:∀ (l:List Env),(∀ b∈tF l,b∈X.fs)->X.kj.heap.FunFrames X.base l->s.heap.FunFrames X.base l:=by
  intro l;induction l with
  | nil=>intro _ _; trivial
  | cons env r ih =>
   intro hs hl;obtain⟨hk,⟨L,o,hf,hn,ho,hd⟩,hr⟩:=hl;have hL:L∈X.fs:=hs L (by unfold tF; rw [yN,hf]; exact c8);obtain⟨sl,e⟩:=I.base.slot L o ho (I.ok.Oc L hL) hL fun z=>I.ok.Ly L z hL;exact⟨hk,⟨L,_,hf,hn,e,hd⟩,ih (fun b hb=>hs b (by unfold tF; rw [yN,hf]; exact bq _ hb)) hr⟩
 exact all X.outer (fun _ hb=>hb) I.ok.vB
theorem Inv.stack(I:Inv X pins σ H s):s.heap.FunFrames X.base X.stack:=by
 rcases I.ok.UR with e | ⟨e,hf⟩
 ·rw [e]; exact I.vB
 ·rw [e];obtain⟨m,hn,_⟩:=I.loc;refine .cons (by rw [I.ok.kind]; decide) hf hn ?_ I.vB;exact Pq (dI I.ok.Ma I.ok.above)
theorem Inv.HI(I:Inv X pins σ H s):∀ b∈tF X.stack,b∈X.env.locals :: X.fs:=fun b hb=>by
 rcases I.ok.UR with e | ⟨e,hf⟩
 ·rw [e] at hb; exact bq _ hb
 ·rw [e] at hb;unfold tF at hb;rw [yN,hf] at hb;exact hb
theorem Inv.Dk(I:Inv X pins σ H s):∀ b∈tF X.stack,H b=none:=fun b hb=>by
 rcases List.mem_cons.mp (I.HI b hb) with e | hb
 ·rw [e]; exact I.free
 ·obtain⟨_,o,ho,_⟩:=I.ok.vB.mem hb;exact I.base.free b o ho (I.ok.Oc b hb) fun z=>I.ok.Ly b z hb
theorem Inv.step{g':Array GenState}{t':Nat}{d':Drawn}{ch:List Addr}(I:Inv X pins σ H s)
  (Pe:∀ b∈ch,(b∈X.ex\/X.kj.heap.objs.size<=b)/\b≠X.env.locals/\(∀ x c,X.env.cells.lookup x=some c->c≠b)/\∀ p∈X.pn++pins,p.1≠b)
  (keep:∀ b o,b≠X.env.locals->b∉X.fs->b∉ch->s.heap.get? b=some o->H b=none->h'.get? b=some o)
  (slot:∀ b o,b≠X.env.locals->b∈X.fs->b∉ch->s.heap.get? b=some o->H b=none->∃ sl,h'.get? b=some { o with slots:=sl }) (free:∀ b o,b∉ch->s.heap.get? b=some o->H b=none->H' b=none)
  (there:∀ b o,b∉ch->s.heap.get? b=some o->∃ o',h'.get? b=some o')
  (wH:∀ b xs,H b=some (.tup xs)->H' b=some (.tup xs)) (vC:∀ b o u,H b=some (.pO o u)->H' b=some (.pO o u)) (zl:∀ b q,H b=some (.PC q)->H' b=some (.PC q)) (yr:∀ b x,H b=some (.own x)->H' b=some (.own x))
  (ns:∀ m,s.heap.Ns X.env.locals m->h'.Ns X.env.locals m) (eL:pV X.prog X.w H' h') (hg:zj g') :
  Inv X pins σ H' { s with heap:=h',gens:=g',drawn:=d',toks:=t' }:=by
 have neL:∀ b o,X.kj.heap.get? b=some o->b≠X.env.locals:=fun b o e=>bS (bR (bf e) I.ok.above);have WM:∀ b o,X.kj.heap.get? b=some o->b∉X.ex->b∉ch:=fun b o e hx hb=>by
  rcases (Pe b hb).1 with z | z
  ·exact hx z
  ·exact absurd (bR (bf e) z) (kF _)
 have cellK:∀ x c,X.env.cells.lookup x=some c->∀ v,s.heap.IsCell c v->h'.IsCell c v:=fun x c e v ⟨o,ho,hd⟩=>by
  have Vp:c∉ch:=fun z=>(Pe c z).2.2.1 x c e rfl;by_cases hc:c∈X.fs
  ·obtain⟨sl,q⟩:=slot c o (I.Tu x c e) hc Vp ho (I.mJ x c e);exact⟨_,q,hd⟩
  ·exact⟨o,keep c o (I.Tu x c e) hc Vp ho (I.mJ x c e),hd⟩
 refine⟨I.ok,I.os,hg,⟨fun b o e n hb hx=>?_,fun b o e n hb hx=>?_,fun b o e n hx=>?_,fun b o e hx=>?_,fun b xs e=>wH b xs (I.base.wH b xs e),fun b o xs e=>vC b o xs (I.base.vC b o xs e),fun b ps e=>?_,fun b x e=>yr b x (I.base.yr b x e)⟩,?_,fun x c e=>?_,?_,fun x c e=>?_,fun p hp=>?_,eL,I.len⟩
 ·exact keep b o (neL b o e) hb (WM b o e hx) (I.base.keep b o e n hb hx) (I.base.free b o e n hx)
 ·obtain⟨sl,e1⟩:=I.base.slot b o e n hb hx;obtain⟨sl',e2⟩:=slot b _ (neL b o e) hb (WM b o e hx) e1 (I.base.free b o e n hx);exact⟨sl',e2⟩
 ·obtain⟨o',e1⟩:=I.base.there b o e hx;exact free b o' (WM b o e hx) e1 (I.base.free b o e n hx)
 ·obtain⟨o',e1⟩:=I.base.there b o e hx;exact there b o' (WM b o e hx) e1
 ·exact zl b _ (I.base.zl b ps e)
 ·obtain⟨m,hn,hl⟩:=I.loc;refine⟨m,ns m hn,fun i x v e1 e2 e3=>?_⟩;obtain⟨u,r,l⟩:=hl i x v e1 e2 e3;refine⟨u,r,?_⟩;rcases l with l | ⟨k,c,e,z⟩
  ·exact .inl l
  ·exact .inr ⟨k,c,e,cellK x c e _ z⟩
 ·obtain⟨v,z⟩:=I.cell x c e;exact⟨v,cellK x c e v z⟩
 ·obtain⟨m,⟨o,_,_,ho,_⟩,_⟩:=I.loc;exact free _ o (fun z=>(Pe _ z).2.1 rfl) ho I.free
 ·obtain⟨v,o,ho,hd⟩:=I.cell x c e;exact free c o (fun z=>(Pe c z).2.2.1 x c e rfl) ho (I.mJ x c e)
 ·obtain⟨e,n,ne,nf,d⟩:=I.pin p hp;have Vp:p.1∉ch:=fun z=>(Pe p.1 z).2.2.2 p hp rfl;exact⟨keep p.1 p.2 ne nf Vp e n,free p.1 p.2 Vp e n,ne,nf,d⟩
theorem Inv.un{t':Nat}(I:Inv X pins σ H s)(u:Un X.fs [] H H' s.heap h')(eL:pV X.prog X.w H' h'):Inv X pins σ H' { s with heap:=h',toks:=t' }:=by
 obtain⟨m,⟨o,es,ep,ho,r⟩,_⟩:=id I.loc;obtain⟨sl,hL⟩:=u.any ho I.free (by simp);exact I.step (g':=s.gens) (d':=s.drawn) (ch:=[]) (fun _ z=>nomatch z) (fun b o _ hb _ e n=>u.keep b o e n hb (by simp)) (fun b o _ hb _ e n=>u.slot b o e n hb (by simp)) (fun b o _ e n=>u.free b o e n (by simp)) (fun b o _ e=>u.there b o e (by simp)) u.wH u.vC u.zl u.yr (fun m' hm=>by
  obtain⟨o',Z7,Z8,SS,r'⟩:=hm;rw [ho] at SS; cases SS;exact⟨_,Z7,Z8,hL,r'⟩) eL I.bare
theorem Inv.call{g':Array GenState}{t':Nat}{d':Drawn}{ch:List Addr}(I:Inv X pins σ H s)(u:Un (tF X.stack) ch H H' s.heap h')(eL:pV X.prog X.w H' h')(hg:zj g')
  (Pe:∀ b∈ch,(b∈X.ex\/X.kj.heap.objs.size<=b)/\b≠X.env.locals/\(∀ x c,X.env.cells.lookup x=some c->c≠b)/\∀ p∈X.pn++pins,p.1≠b) :
  Inv X pins σ H' { s with heap:=h',gens:=g',drawn:=d',toks:=t' }:=by
 obtain⟨m,⟨o,es,ep,ho,r⟩,_⟩:=id I.loc;obtain⟨sl,hL⟩:=u.any ho I.free fun z=>(Pe _ z).2.1 rfl;exact I.step (ch:=ch) Pe (fun b o hL hb hc e n=>u.keep b o e n (fun z=>(List.mem_cons.mp (I.HI b z)).elim hL hb) hc) (fun b o _ _ hc e n=>u.any e n hc) (fun b o hc e n=>u.free b o e n hc) (fun b o hc e=>u.there b o e hc) u.wH u.vC u.zl u.yr (fun m' hm=>by
  obtain⟨o',Z7,Z8,SS,r'⟩:=hm;rw [ho] at SS; cases SS;exact⟨_,Z7,Z8,hL,r'⟩) eL hg
theorem Inv.turned{t':Nat}{it:Addr}(I:Inv X pins σ H s)(k:∀ b o,b≠it->s.heap.get? b=some o->h'.get? b=some o)(hn:H it=none)(hL:it≠X.env.locals)
  (h1:it∈X.ex\/X.kj.heap.objs.size<=it) (h2:∀ x c,X.env.cells.lookup x=some c->c≠it) (h3:∀ p∈X.pn++pins,p.1≠it):Inv X pins σ H { s with heap:=h',toks:=t' }:=by
 have nit:∀ b u,H b=some u->b≠it:=fun b u e z=>by rw [z,hn] at e; cases e
 refine I.step (g':=s.gens) (d':=s.drawn) (ch:=[it]) (fun b hb=>?_) (fun b o _ _ hc e _=>k b o (fun z=>hc (by simp [z])) e) (fun b o _ _ hc e _=>⟨o.slots,k b o (fun z=>hc (by simp [z])) e⟩) (fun _ _ _ _ n=>n)
  (fun b o hc e=>⟨o,k b o (fun z=>hc (by simp [z])) e⟩) (fun _ _ e=>e) (fun _ _ _ e=>e) (fun _ _ e=>e) (fun _ _ e=>e) (fun m hm=>?_) (fun b u e=>?_) I.bare
 ·have e:b=it:=by simpa using hb
  subst e;exact⟨h1,hL,h2,h3⟩
 ·obtain⟨o,es,ep,ho,r⟩:=hm;exact⟨o,es,ep,k _ o (dR hL) ho,r⟩
 ·refine(I.eL b u e).kG (fun c v hc q=>k c v ?_ q) (fun _ q=>q) fun _ _ q=>q;rcases hc with z | z
  ·rw [z]; exact nit b u e
  ·exact nit c _ z
theorem Inv.tok(I:Inv X pins σ H s)(t:Nat):Inv X pins σ H { s with toks:=t }:=I.un (h':=s.heap) (t':=t) Un.refl I.eL
theorem Inv.kept{t':Nat}(I:Inv X pins σ H s)(k:∀ b u,s.heap.get? b=some u->h'.get? b=some u):Inv X pins σ H { s with heap:=h',toks:=t' }:=I.un (Un.kept k) (I.eL.kept k)
theorem Inv.laid{a:Addr}{o:HO}{t':Nat}(I:Inv X pins σ H s)(k:∀ b u,s.heap.get? b=some u->h'.get? b=some u)(hp:s.heap.objs.size<=a)(new:gE X.prog X.w (upd H a o) h' a o) :
  Inv X pins σ (upd H a o) { s with heap:=h',toks:=t' }:=I.un (Un.laid k hp (I.eL.fresh hp)) (I.eL.laid k hp new)
theorem Inv.write{x e:Addr}{o:HO}{t':Nat}(I:Inv X pins σ H s)(mu:Wt (H x))(he:e=x\/H e=some (.own x))(k:∀ b u,b≠e->s.heap.get? b=some u->h'.get? b=some u)(T7:∃ u,h'.get? e=some u)
  (new:gE X.prog X.w (upd H x o) h' x o):Inv X pins σ (upd H x o) { s with heap:=h',toks:=t' }:=I.un (Un.write mu he k T7) (I.eL.write mu he k T7 new)
theorem Inv.JI{QV:List (Addr×Obj)}(I:Inv X pins σ H s)(h:∀ p∈QV,s.heap.get? p.1=some p.2/\H p.1=none/\p.1≠X.env.locals/\p.1∉X.fs/\∀ v,p.2.data≠.cell v):Inv X QV σ H s :=
 ⟨I.ok,I.os,I.bare,I.base,I.loc,I.cell,I.free,I.mJ,fun p hp=>(List.mem_append.mp hp).elim (fun z=>I.pin p (oK _ z)) (h p),I.eL,I.len⟩
theorem FC{N:List Str}(hN:N.Nodup){i j:Nat}{x:Str}(a:N[i]?=some x)(b:N[j]?=some x):i=j:=by
 obtain⟨h1,e1⟩:=List.getElem?_eq_some_iff.mp a;obtain⟨h2,e2⟩:=List.getElem?_eq_some_iff.mp b;exact(List.getElem_inj hN).mp (e1.trans e2.symm)
theorem Cq{M:Model}{A:fJ}{E:Value->aK->Prop}{i:Nat}{x:Str}{v:V}{u:Value}{Q:Unit->aK->Prop}(I:Inv X pins σ H s)(hN:X.N.Nodup)(hi:X.N[i]?=some x)(hx:Loc X.env.scope x)(r:RelV v u)
  (h:∀ s',Inv X pins (σ.set i (some v)) H s'->(∃ a,Dg a s.heap s'.heap/\(a=X.env.locals\/X.env.cells.lookup x=some a))->Q () s') (hf:autoParam (X.fn x=true\/X.env.scope.names.lookup x=some .local) Ao._auto_1):wpAny M A (storeName X.env x u) Q E s:=by
 obtain⟨m,hn,hl⟩:=id I.loc;have S2:(X.env.scope.kind == .class||(X.env.scope.kind == .module&&X.env.locals != X.env.globals))=false:=by rw [I.ok.kind]; rfl
 have VI:i < σ.length:=by rw [I.len]; exact(List.getElem?_eq_some_iff.mp hi).1
 have Tu:=I.Tu;have tracked:∀ {a:Addr} {h':Heap},(∃ o,s.heap.get? a=some o/\H a=none)->Dg a s.heap h'->pV X.prog X.w H h':=fun {a h'} ha hs b ob e=>by
  obtain⟨_,_,nM⟩:=ha;refine(I.eL b ob e).kG (fun c w' hc q=>(hs.2 c ?_).trans q) (fun _ q=>q) fun _ _ q=>q;rintro rfl;rcases hc with rfl | hc
  ·rw [nM] at e; cases e
  ·rw [nM] at hc; cases hc
 rcases hx with hk | hk
 ·refine wpAny_storeName_local hk hn (fun h' Q7 hs=>?_) S2;obtain⟨oL,_,_,hoL,_⟩:=id hn;refine h _ ⟨I.ok,I.os,I.bare,⟨fun b o e n hb hx=>?_,fun b o e n hb hx=>?_,I.base.free,fun b o e hx=>?_,I.base.wH,I.base.vC,I.base.zl,I.base.yr⟩,⟨_,Q7,fun j y v' e1 e2 e3=>?_⟩,fun y c e=>?_,I.free,I.mJ,fun p hp=>?_,tracked ⟨oL,hoL,I.free⟩ hs,by simpa using I.len⟩ ⟨_,hs,.inl rfl⟩
  ·exact(hs.2 b (bS (bR (bf e) I.ok.above))).trans (I.base.keep b o e n hb hx)
  ·obtain⟨sl,e1⟩:=I.base.slot b o e n hb hx;exact⟨sl,(hs.2 b (bS (bR (bf e) I.ok.above))).trans e1⟩
  ·obtain⟨o',e1⟩:=I.base.there b o e hx;exact⟨o',(hs.2 b (bS (bR (bf e) I.ok.above))).trans e1⟩
  ·by_cases hj:j=i
   ·subst hj;rw [hi] at e1; cases e1;rw [fM VI] at e2;cases e2;exact⟨u,r,.inl ⟨hk,by simp⟩⟩
   ·rw [iX (dR hj)] at e2;obtain⟨u',r',q⟩:=hl j y v' e1 e2 e3;refine⟨u',r',?_⟩;rcases q with ⟨k,e⟩ | ⟨k,c,e,z⟩
    ·refine .inl ⟨k,?_⟩;have:y≠x:=fun e=>hj (FC hN e1 (e ▸ hi));simp [this,e]
    ·exact .inr ⟨k,c,e,z.sameBut hs (Tu y c e)⟩
  ·obtain⟨w',z⟩:=I.cell y c e;exact⟨w',z.sameBut hs (Tu y c e)⟩
  ·obtain⟨e,n,ne,nf,d⟩:=I.pin p hp;exact⟨(hs.2 p.1 ne).trans e,n,ne,nf,d⟩
 ·have ZC:X.fn x=true:=by
   rcases hf with z | z
   ·exact z
   ·rw [z] at hk; cases hk
  obtain⟨c,hc⟩:=I.ok.has x (.inl hk);obtain⟨w',z⟩:=I.cell x c hc;refine wpAny_storeName_cell I.ok.kind hk hc z (fun h' L8 hs=>?_);obtain⟨oc,T5,Zm⟩:=id z;refine h { s with heap:=h' } ⟨I.ok,I.os,I.bare,⟨fun b o e n hb hx=>?_,fun b o e n hb hx=>?_,I.base.free,fun b o e hx=>?_,I.base.wH,I.base.vC,I.base.zl,I.base.yr⟩,⟨m,hn.sameBut hs (dR (Tu x c hc)),fun j y v' e1 e2 e3=>?_⟩,fun y c' e=>?_,I.free,I.mJ,fun p hp=>?_,tracked ⟨oc,T5,I.mJ x c hc⟩ hs,by simpa using I.len⟩ ⟨c,hs,.inr hc⟩
  ·exact(hs.2 b (bS (bR (bf e) (I.ok.Uh x c ZC hc)))).trans (I.base.keep b o e n hb hx)
  ·obtain⟨sl,e1⟩:=I.base.slot b o e n hb hx;exact⟨sl,(hs.2 b (bS (bR (bf e) (I.ok.Uh x c ZC hc)))).trans e1⟩
  ·obtain⟨o',e1⟩:=I.base.there b o e hx;exact⟨o',(hs.2 b (bS (bR (bf e) (I.ok.Uh x c ZC hc)))).trans e1⟩
  ·by_cases hj:j=i
   ·subst hj;rw [hi] at e1; cases e1;rw [fM VI] at e2;cases e2;exact⟨u,r,.inr ⟨.inl hk,c,hc,L8⟩⟩
   ·rw [iX (dR hj)] at e2;obtain⟨u',r',q⟩:=hl j y v' e1 e2 e3;refine⟨u',r',?_⟩;rcases q with q | ⟨k,c',e,z'⟩
    ·exact .inl q
    ·refine .inr ⟨k,c',e,z'.sameBut hs ?_⟩;rintro rfl;exact hj (FC hN e1 (I.ok.inj _ _ _ e hc ▸ hi))
  ·by_cases hcc:c'=c
   ·subst hcc; exact⟨_,L8⟩
   ·obtain⟨w2,z2⟩:=I.cell y c' e;exact⟨w2,z2.sameBut hs hcc⟩
  ·obtain⟨e,n,ne,nf,d⟩:=I.pin p hp;refine⟨(hs.2 p.1 ?_).trans e,n,ne,nf,d⟩;intro q;rw [q,T5] at e;have q':oc=p.2:=cj e;exact d w' (by rw [<-q']; exact Zm)
theorem Ff{M:Model}{A:fJ}{E:Value->aK->Prop}{i:Nat}{x:Str}{v:V}{u:Value}{Q:Unit->aK->Prop}(I:Inv X pins σ H s)(hN:X.N.Nodup)(hi:X.N[i]?=some x)(hx:Loc X.env.scope x)(r:RelV v u)
  (h:∀ s',Inv X pins (σ.set i (some v)) H s'->Q () s') (hf:autoParam (X.fn x=true\/X.env.scope.names.lookup x=some .local) Ao._auto_1):wpAny M A (storeName X.env x u) Q E s :=
 Cq I hN hi hx r (fun s' I' _=>h s' I') hf
theorem Inv.Rk{s':aK}{ch:List Addr}(I:Inv X pins σ H s)(ho:s'.os=s.os)(u:Un (tF X.stack) ch H H' s.heap s'.heap)(eL:pV X.prog X.w H' s'.heap)(hg:zj s'.gens)
  (Pe:∀ b∈ch,(b∈X.ex\/X.kj.heap.objs.size<=b)/\b≠X.env.locals/\(∀ x c,X.env.cells.lookup x=some c->c≠b)/\∀ p∈X.pn++pins,p.1≠b):Inv X pins σ H' s':=by
 obtain⟨h',g',d',t',o'⟩:=s';have e:o'=s.os:=ho;subst e;exact I.call (g':=g') (t':=t') (d':=d') u eL hg Pe
end
noncomputable abbrev XK:=Value->Option Addr->Hp->Prop
noncomputable abbrev St:=List (Option V)
noncomputable abbrev VK:=V->Hp->Prop
noncomputable abbrev TE:=St->Hp->VK->Prop
noncomputable abbrev TT:=St->Hp->(Bool->Hp->Prop)->Prop
noncomputable abbrev TA:=St->Hp->(List V->Hp->Prop)->Prop
structure Ends where
 nx:St->Hp->Prop
 rt:VK
 bk:St->Hp->Prop:=fun _ _=>False
 ct:St->Hp->Prop:=fun _ _=>False
noncomputable abbrev TS:=Ends->St->Hp->Prop
noncomputable def EP(X:Cx)(pins:List (Addr×Obj))(σ:St)(Q:VK)(u:Value)(s':aK):Prop:=∃ v H',Inv X pins σ H' s'/\RelV v u/\Q v H'
noncomputable def TP(X:Cx)(pins:List (Addr×Obj))(σ:St)(Q:Bool->Hp->Prop)(b:Bool)(s':aK):Prop:=∃ H',Inv X pins σ H' s'/\Q b H'
noncomputable def SP(X:Cx)(pins:List (Addr×Obj))(D:Ends)(f:Flow)(s':aK):Prop :=
 match f with
 | .next=>∃ jU H',Inv X pins jU H' s'/\D.nx jU H'
 | .brk=>∃ jU H',Inv X pins jU H' s'/\D.bk jU H'
 | .cont=>∃ jU H',Inv X pins jU H' s'/\D.ct jU H'
 | .ret u=>∃ v jU H',Inv X pins jU H' s'/\RelV v u/\D.rt v H'
noncomputable def PE(X:Cx)(e:Expr)(t:TE):Prop :=
 ∀ (pins:List (Addr×Obj)) (s:aK) (σ:St) (H:Hp) (Q:VK),Inv X pins σ H s->t σ H Q->wpAny (model X.prog X.w) X.A (eval e X.env) (EP X pins σ Q) X.xe s
noncomputable def Ul(X:Cx)(st:List Stmt)(t:TS):Prop :=
 ∀ (pins:List (Addr×Obj)) (s:aK) (σ:St) (H:Hp) (D:Ends),Inv X pins σ H s->t D σ H->wpAny (model X.prog X.w) X.A (execs st X.env) (SP X pins D) X.xe s
theorem ix{α:Type}{t:Sem α}{Q Q':α->aK->Prop}{M:Model}{A:fJ}{E:Value->aK->Prop}{s:aK}(h:wpAny M A t Q E s)(hQ:∀ a s,Q a s->Q' a s):wpAny M A t Q' E s:=lb h hQ fun _ _ x=>x
section
variable {X:Cx}
noncomputable def XS(i:Nat):TE:=fun σ H Q=>∃ v,σ[i]?=some (some v)/\Q v H
noncomputable def tC(v:V):TE:=fun _ H Q=>Q v H
theorem RY {i:Nat} {x:Str} {pos:Pos} (hN:X.N[i]?=some x) (hv:Xf X.env.scope x) (hd:autoParam ((x == ("__debug__" : Str))=false) Ad._auto_1) (Hn:autoParam ((x == ("__classdict__" : Str))=false) Ad._auto_1):PE X (.Name x pos) (XS i):=by
 intro pins s σ H Q I h;obtain⟨v,e,h⟩:=h;obtain⟨m,hn,hl⟩:=I.loc;obtain⟨u,r,l⟩:=hl i x v hN e hv;have fin:EP X pins σ Q u s:=⟨v,H,I,r,h⟩;rcases l with ⟨hk,hm⟩ | ⟨hk,c,hc,qP⟩
 ·exact wpAny_Name (wpAny_loadName_local I.ok.kind hk hn hm fin) hd
 ·rcases hk with hk | hk
  ·exact wpAny_Name (wpAny_loadName_cell I.ok.kind hk hc qP fin) hd
  ·exact wpAny_Name (wpAny_loadName_free I.ok.kind hk hc qP fin Hn) hd
theorem R3{i j pos}:PE X (.Constant (.int i) j pos) (tC (.int i)):=fun _ _ _ H _ I h=>wpAny_Constant_int ⟨.int i,H,I.tok _,⟨_,rfl⟩,h⟩
theorem U3{b j pos}:PE X (.Constant (.bool b) j pos) (tC (.bl b)):=fun _ _ _ H _ I h=>Constant_bool ⟨.bl b,H,I,rfl,h⟩
theorem RZ{x j pos}:PE X (.Constant (.str x) j pos) (tC (.str x)):=fun _ _ _ H _ I h=>Calls.Constant_str ⟨.str x,H,I.tok _,⟨_,rfl⟩,h⟩
noncomputable def Gl(X:Cx)(x:Str):Prop:=X.env.kindOf x=some .globalImplicit
theorem vp{E:Value->aK->Prop}{pins:List (Addr×Obj)}{s:aK}{σ:St}{H:Hp}{x:Str}{u:Value}{pos:Pos}{Q:Value->aK->Prop}(I:Inv X pins σ H s)(hg:Gl X x)(hm:X.mg x=some u)(h:Q u s)
  (hd:autoParam ((x == ("__debug__" : Str))=false) Ad._auto_1):wpAny (model X.prog X.w) X.A (eval (.Name x pos) X.env) Q E s :=
 Hk I.ok.kind hg (Calls.loadGlobal_global (by rw [I.ok.glob]; exact I.mod.glob.keeps I.bk) hm h) hd
theorem ud{E:Value->aK->Prop}{pins:List (Addr×Obj)}{s:aK}{σ:St}{H:Hp}{x:Str}{u:Value}{pos:Pos}{Q:Value->aK->Prop}(I:Inv X pins σ H s)(hg:Gl X x)(hm:X.mg x=none)(hv:eQ x=some u)(h:Q u s)
  (hn:autoParam (x≠"__name__") Ad._auto_1) (hd:autoParam ((x == ("__debug__" : Str))=false) Ad._auto_1):wpAny (model X.prog X.w) X.A (eval (.Name x pos) X.env) Q E s:=by
 obtain⟨mb,h1,h2⟩:=I.mod.blt;exact Hk I.ok.kind hg (Calls.loadGlobal_builtin (by rw [I.ok.glob]; exact I.mod.glob.keeps I.bk) hm (by rw [I.ok.blt]; exact h1.keeps I.bk) ((h2 x hn).trans hv) h) hd
variable {a b:Expr} {ta tb:TE} {pos:Pos}
noncomputable def tB(t:TE):TT:=fun σ H Q=>t σ H fun x H1=>∃ c,x=.bl c/\Q c H1
variable {tA tB':TT} {rest:List Expr}
end
noncomputable def sZ(K:ay)(H:Hp)(a:Addr)(xs:List V):Prop :=
 Rd H a (.lst xs) \/
  ∃ (o:Obj) (cy:Array Value) (n:Nat),K.lookup a=some o/\o.cls=.type "list"/\o.dict=none/\o.data=.seq cy n/\cy.size<=bG/\Vals xs cy.toList
noncomputable def Ba(K:ay)(H:Hp)(a:Addr)(xs:List V):Prop :=
 Rd H a (.tup xs) \/
  ∃ (o:Obj) (cy:Array Value) (n:Nat),K.lookup a=some o/\o.cls=.type "tuple"/\o.data=.seq cy n/\cy.size<=bG/\Vals xs cy.toList
noncomputable def aag:Value->Option V
 | .none=>some .j9
 | .bool b=>some (.bl b)
 | .int i _=>some (.int i)
 | .str x _=>some (.str x)
 | .bytes b _=>some (.Rl b)
 | .float b _=>some (.W6 b)
 | .ref a=>some (.ref a)
 | .type n=>some (.ty n)
 | _=>none
theorem RelV.abs{x:V}{u:Value}(r:RelV x u):aag u=some x:=by
 cases x with
 | j9=>cases r; rfl
 | bl _=>cases r; rfl
 | int _=>obtain⟨t,rfl⟩:=r; rfl
 | str _=>obtain⟨t,rfl⟩:=r; rfl
 | Rl _=>obtain⟨t,rfl⟩:=r; rfl
 | W6 _=>obtain⟨t,rfl⟩:=r; rfl
 | ref _=>cases r; rfl
 | ty _=>cases r; rfl
theorem RelV.inj{x y:V}{u:Value}(r:RelV x u)(q:RelV y u):x=y:=cj (r.abs.symm.trans q.abs)
theorem Vals.inj:∀ {xs ys:List V} {us:List Value},Vals xs us->Vals ys us->xs=ys:=by
 intro xs ys us h;induction h generalizing ys with
 | nil=>intro k; cases k; rfl
 | cons r t ih =>
  intro k;cases k with
  | cons r' t'=>rw [r.inj r',ih t']
section
variable {X:Cx} {pins:List (Addr×Obj)} {σ:St} {H:Hp} {s:aK} {a:Addr} {xs ys:List V}
theorem sZ.of{K:ay}(h:H a=some (.lst xs)):sZ K H a xs:=.inl (.inl h)
theorem Ba.of{K:ay}(h:H a=some (.tup xs)):Ba K H a xs:=.inl (.inl h)
theorem Inv.list(I:Inv X pins σ H s)(h:sZ X.K H a xs):∃ cy:List Value,Vals xs cy/\PlainL s.heap a cy.toArray/\xs.length<=bG:=by
 rcases h with h | ⟨o,cy,n,hk,hc,hd,hs,hz,r⟩
 ·obtain⟨z,cy,n,r,e⟩:=h.ok I.eL;exact⟨cy,r,⟨_,n,e,rfl,rfl,rfl⟩,z⟩
 ·refine⟨cy.toList,r,⟨o,n,I.wy a o hk,hc,hd,by simpa using hs⟩,?_⟩;have e:=r.length;simp only [yj] at e;lia
theorem Inv.tuple(I:Inv X pins σ H s)(h:Ba X.K H a xs):∃ cy:List Value,Vals xs cy/\IsTup s.heap a cy.toArray/\xs.length<=bG:=by
 rcases h with h | ⟨o,cy,n,hk,hc,hs,hz,r⟩
 ·obtain⟨z,cy,r,p⟩:=h.ok I.eL;exact⟨cy,r,p,z⟩
 ·refine⟨cy.toList,r,⟨o,I.wy a o hk,hc,n,by simpa using hs⟩,?_⟩;have e:=r.length;simp only [yj] at e;lia
theorem Inv.Ah(I:Inv X pins σ H s)(h:sZ X.K H a xs)(h':sZ X.K H a ys):xs=ys:=by
 obtain⟨cy,r,⟨o,n,e,_,_,d⟩,_⟩:=I.list h;obtain⟨its',r',⟨o',n',e',_,_,d'⟩,_⟩:=I.list h';rw [e] at e'; cases e';rw [d] at d';injection d' with d1 _
 have:cy=its':=by simpa using congrArg Array.toList d1
 subst this;exact r.inj r'
theorem Inv.KG(I:Inv X pins σ H s)(h:Ba X.K H a xs)(h':Ba X.K H a ys):xs=ys:=by
 obtain⟨cy,r,⟨o,e,_,n,d⟩,_⟩:=I.tuple h;obtain⟨its',r',⟨o',e',_,n',d'⟩,_⟩:=I.tuple h';rw [e] at e'; cases e';rw [d] at d';injection d' with d1 _
 have:cy=its':=by simpa using congrArg Array.toList d1
 subst this;exact r.inj r'
end
noncomputable abbrev Cx.pf(X:Cx)(E:Value->aK->Prop):Cx:={ X with xe:=E }
noncomputable abbrev Cx.TZ(X:Cx):Cx:=X.pf fun _ _=>False
theorem Cx.Ok.pf{X:Cx}(ok:X.Ok)(E:Value->aK->Prop):(X.pf E).Ok :=
 ⟨ok.mod,ok.kind,ok.glob,ok.blt,ok.above,ok.inj,ok.has,ok.Uh,ok.hd,ok.frames,ok.UR,ok.Wb,ok.bs,ok.Ma,ok.HX,ok.Ly,ok.vB,ok.Oc⟩
theorem Cx.Ok.nq{X:Cx}{E:Value->aK->Prop}(ok:(X.pf E).Ok):X.Ok :=
 ⟨ok.mod,ok.kind,ok.glob,ok.blt,ok.above,ok.inj,ok.has,ok.Uh,ok.hd,ok.frames,ok.UR,ok.Wb,ok.bs,ok.Ma,ok.HX,ok.Ly,ok.vB,ok.Oc⟩
section
variable {X:Cx} {pins:List (Addr×Obj)} {σ:St} {H:Hp} {s:aK} {E:Value->aK->Prop}
theorem Inv.pf(I:Inv X pins σ H s)(E:Value->aK->Prop):Inv (X.pf E) pins σ H s:=⟨I.ok.pf E,I.os,I.bare,I.base,I.loc,I.cell,I.free,I.mJ,I.pin,I.eL,I.len⟩
theorem Inv.nq(I:Inv (X.pf E) pins σ H s):Inv X pins σ H s:=⟨I.ok.nq,I.os,I.bare,I.base,I.loc,I.cell,I.free,I.mJ,I.pin,I.eL,I.len⟩
theorem SP.nq{D:Ends}{f:Flow}{s':aK}(h:SP (X.pf E) pins D f s'):SP X pins D f s':=by
 cases f with
 | next=>obtain⟨jU,H',I,q⟩:=h; exact⟨jU,H',I.nq,q⟩
 | brk=>obtain⟨jU,H',I,q⟩:=h; exact⟨jU,H',I.nq,q⟩
 | cont=>obtain⟨jU,H',I,q⟩:=h; exact⟨jU,H',I.nq,q⟩
 | ret u=>obtain⟨v,jU,H',I,r,q⟩:=h; exact⟨v,jU,H',I.nq,r,q⟩
theorem Ul.TZ{st:List Stmt}{t:TS}(h:Ul X.TZ st t):Ul X st t:=fun pins s σ H D I hw =>
 lb (h pins s σ H D (I.pf _) hw) (fun _ _ q=>q.nq) fun _ _ z=>bP z
end
section
variable {X:Cx} {st:Stmt} {rest:List Stmt} {t u:TS} {e:Expr} {te:TE} {pos:Pos}
theorem Inv.quiet{pins:List (Addr×Obj)}{σ:St}{H:Hp}{s:aK}(I:Inv X pins σ H s):interactive X.env=false:=by simp [interactive,I.ok.kind]
end
noncomputable abbrev aaj:=V->V->V->Hp->(Hp->Prop)->Prop
noncomputable def aal(X:Cx)(t:aaj):Prop :=
 ∀ (pins:List (Addr×Obj)) (s:aK) (σ:St) (H:Hp) (o i v:V) (ov iv u:Value) (Q:Hp->Prop),Inv X pins σ H s->RelV o ov->RelV i iv->RelV v u->t o i v H Q ->
  wpAny (model X.prog X.w) X.A (setItem ov iv u) (fun _ s'=>∃ H',Inv X pins σ H' s'/\Q H') X.xe s
structure It where
 go:Nat->Hp->Prop
 yld:Nat->Hp->V->Hp->Prop
 stop:Nat->Hp->Prop
noncomputable def qF(X:Cx)(pins:List (Addr×Obj))(H:Hp)(b:Addr):Prop :=
 H b=none/\b≠X.env.locals/\b∉X.fs/\(b∈X.ex\/X.kj.heap.objs.size<=b)/\(∀ x c,X.env.cells.lookup x=some c->c≠b)/\∀ p∈X.pn++pins,p.1≠b
theorem Inv.Od{X:Cx}{pins:List (Addr×Obj)}{σ:St}{H H':Hp}{s:aK}{b:Addr}(I:Inv X pins σ H s)(hb:s.heap.objs.size<=b)(hn:H' b=none):qF X pins H' b:=by
 refine⟨hn,Nat.ne_of_gt (bR I.lt hb),I.YK hb,.inr (dI I.sz hb),fun x c e z=>?_,fun p hp z=>?_⟩
 ·obtain⟨v,q⟩:=I.cell x c e;exact absurd (bR q.lt (by rw [z]; exact hb)) (kF _)
 ·exact absurd (bR (bf (I.pin p hp).1) (by rw [z]; exact hb)) (kF _)
structure Turn(P:bU)(w:World)(K:ay)(tg:Expr)(J:It)(fp:List Addr)(it:Addr)(tn:Nat->Heap->Prop):Prop where
 mem:it∈fp
 obj:∀ i h,tn i h->∀ b∈fp,∃ o,h.get? b=some o/\∀ v,o.data≠.cell v
 keep:∀ i h h',tn i h->(∀ b∈fp,∀ o,h.get? b=some o->h'.get? b=some o)->tn i h'
 item:∀ (X:Cx),X.prog=P->X.w=w->X.K=K->X.calm=true->∀ (i:Nat) (pins:List (Addr×Obj)) (s:aK) (σ:St) (H:Hp) (E:Value->aK->Prop),Inv X pins σ H s->(∀ b∈fp,qF X pins H b)->tn i s.heap->J.go i H ->
  wpAny (model P w) X.A (pyNext (.ref it)) (fun r s1=>∃ u,r=some u /\
   wpAny (model P w) X.A (zd tg (.ref it) u) (fun _ s2=>∃ x H',Inv X pins σ H' s2/\RelV x u/\J.yld i H x H'/\tn (i+1) s2.heap/\∀ b∈fp,H' b=none) E s1) E s
 done:∀ (X:Cx),X.prog=P->X.w=w->X.K=K->X.calm=true->∀ (i:Nat) (pins:List (Addr×Obj)) (s:aK) (σ:St) (H:Hp) (E:Value->aK->Prop),Inv X pins σ H s->(∀ b∈fp,qF X pins H b)->tn i s.heap->J.stop i H ->
  wpAny (model P w) X.A (pyNext (.ref it)) (fun r s1=>r=none/\Inv X pins σ H s1) E s
 self:∀ (A:fJ) (i:Nat) (s:aK) (Q:Value->aK->Prop) (E:Value->aK->Prop),tn i s.heap->Q (.ref it) s->wpAny (model P w) A (pyIter (.ref it)) Q E s
noncomputable abbrev TI:=St->Hp->(It->Hp->Prop)->Prop
noncomputable def PIE(X:Cx)(pins:List (Addr×Obj))(σ:St)(tg:Expr)(R:It->Hp->Prop)(Q0:Value)(s2:aK):Prop :=
 ∃ (it:Addr) (fp:List Addr) (tn:Nat->Heap->Prop) (J:It) (H':Hp),Q0=.ref it/\Inv X pins σ H' s2/\Turn X.prog X.w X.K tg J fp it tn/\tn 0 s2.heap/\(∀ b∈fp,qF X pins H' b)/\R J H'
theorem N7{M:Model}{A:fJ}{E:Value->aK->Prop}{s:aK}{tg:Expr}{it:Addr}{u:Value}{o:Obj}{n:String}{vs:Array Value}{Q:Unit->aK->Prop}(ho:s.heap.get? it=some o)(hc:o.cls=.type n)(hd:o.data=.fields vs)
    (hn:["enumerate","zip","dict_itemiterator","dict_reverseitemiterator","odict_iterator","itertools.zip_longest","itertools.pairwise"].contains n=false) (hQ:Q () s):wpAny M A (zd tg (.ref it) u) Q E s:=by
  unfold zd;cases tg <;> first
    | exact cq hQ
    | (cases u <;> first
        | exact cq hQ
        | (refine ba (wpAny_load ho ?_)
           rw [hc,hd];show wpAny M A (if (["enumerate","zip","dict_itemiterator","dict_reverseitemiterator","odict_iterator","itertools.zip_longest","itertools.pairwise"].contains n&&vs[0]? == some (rawInt _))=true then _ else _) Q E s;rw [if_neg (by intro h; rw [hn,Jp] at h; cases h)];exact cq hQ))
noncomputable def Itl(K:ay)(a:Addr):It :=
 ⟨fun i H=>∃ xs x,sZ K H a xs/\xs[i]?=some x,fun i H x H'=>H'=H/\∀ xs,sZ K H a xs->xs[i]?=some x,fun i H=>∃ xs,sZ K H a xs/\xs.length<=i⟩
noncomputable def Itt(K:ay)(a:Addr):It :=
 ⟨fun i H=>∃ xs x,Ba K H a xs/\xs[i]?=some x,fun i H x H'=>H'=H/\∀ xs,Ba K H a xs->xs[i]?=some x,fun i H=>∃ xs,Ba K H a xs/\xs.length<=i⟩
noncomputable def Itr(lo:Int)(n:Nat):It:=⟨fun i _=>i < n,fun i H x H'=>H'=H/\x=.int (lo+i),fun i _=>n<=i⟩
theorem KD{P:bU}{w:World}{K:ay}{tg:Expr}(a it:Addr):Turn P w K tg (Itl K a) [it] it (fun i h=>h.IsListIter it a i) where
 mem:=by simp
 obj:=fun i h st b hb=>by
  have e:b=it:=by simpa using hb
  subst e;obtain⟨o,e,c,d⟩:=st;exact⟨o,e,fun v z=>by rw [d] at z; cases z⟩
 keep:=fun i h h' st k=>st.at fun o e=>k it (by simp) o e
 item:=by
  intro X hP hw hK hc i pins s σ H E I hf st hg;subst hP hw hK;obtain⟨xs,x,hq,hx⟩:=hg;obtain⟨cy,rv,p,hz⟩:=I.list hq;obtain⟨u,hu,ru⟩:=rv.get hx;obtain⟨f0,f1,f2,f3,f4,f5⟩:=hf it (by simp);refine wpAny_pyNext_list_item st p.isList (x:=u) (by simpa using hu) fun h' Hm sb=>?_;have I1:Inv X pins σ H { s with heap:=h' }:=I.turned (t':=s.toks) (fun b o hb e=>(sb.2 b hb).trans e) f0 f1 f3 f4 f5;obtain⟨o,e,c,d⟩:=id Hm;exact⟨u,rfl,N7 (s:={ s with heap:=h' }) e c d (by decide) ⟨x,H,I1,ru,⟨rfl,fun ys hy=>by rw [I.Ah hy hq]; exact hx⟩,Hm,fun b hb=>(hf b hb).1⟩⟩
 done:=by
  intro X hP hw hK hc i pins s σ H E I hf st hg;subst hP hw hK;obtain⟨xs,hq,hx⟩:=hg;obtain⟨cy,rv,p,hz⟩:=I.list hq;obtain⟨f0,f1,f2,f3,f4,f5⟩:=hf it (by simp);have hl:=rv.length;exact wpAny_pyNext_list_end (I.ok.hd hc) st p.isList (by simp; lia) fun h' eb=>⟨rfl,I.turned (t':=s.toks) (fun b o hb e=>eb b o hb e) f0 f1 f3 f4 f5⟩
 self:=fun _ _ _ _ _ st h=>wpAny_pyIter_listiter st h
theorem HG{P:bU}{w:World}{K:ay}{tg:Expr}(a it:Addr):Turn P w K tg (Itt K a) [it] it (fun i h=>h.IsTupleIter it a i) where
 mem:=by simp
 obj:=fun i h st b hb=>by
  have e:b=it:=by simpa using hb
  subst e;obtain⟨o,e,c,d⟩:=st;exact⟨o,e,fun v z=>by rw [d] at z; cases z⟩
 keep:=fun i h h' st k=>st.at fun o e=>k it (by simp) o e
 item:=by
  intro X hP hw hK hc i pins s σ H E I hf st hg;subst hP hw hK;obtain⟨xs,x,hq,hx⟩:=hg;obtain⟨cy,rv,p,hz⟩:=I.tuple hq;obtain⟨u,hu,ru⟩:=rv.get hx;obtain⟨f0,f1,f2,f3,f4,f5⟩:=hf it (by simp);refine wpAny_pyNext_tuple_item st (show s.heap.IsTuple a cy.toArray from p) (x:=u) (by simpa using hu) fun h' Hm sb=>?_;have I1:Inv X pins σ H { s with heap:=h' }:=I.turned (t':=s.toks) (fun b o hb e=>(sb.2 b hb).trans e) f0 f1 f3 f4 f5;obtain⟨o,e,c,d⟩:=id Hm;exact⟨u,rfl,N7 (s:={ s with heap:=h' }) e c d (by decide) ⟨x,H,I1,ru,⟨rfl,fun ys hy=>by rw [I.KG hy hq]; exact hx⟩,Hm,fun b hb=>(hf b hb).1⟩⟩
 done:=by
  intro X hP hw hK hc i pins s σ H E I hf st hg;subst hP hw hK;obtain⟨xs,hq,hx⟩:=hg;obtain⟨cy,rv,p,hz⟩:=I.tuple hq;obtain⟨f0,f1,f2,f3,f4,f5⟩:=hf it (by simp);have hl:=rv.length;exact wpAny_pyNext_tuple_end (I.ok.hd hc) st (show s.heap.IsTuple a cy.toArray from p) (by simp; lia) fun h' eb=>⟨rfl,I.turned (t':=s.toks) (fun b o hb e=>eb b o hb e) f0 f1 f3 f4 f5⟩
 self:=fun _ _ _ _ _ st h=>wpAny_pyIter_tupleiter st h
theorem HH{P:bU}{w:World}{K:ay}{tg:Expr}(it:Addr)(lo:Int)(n:Nat):Turn P w K tg (Itr lo n) [it] it (fun i h=>IsRangeIter h it (lo+(i:Nat) * 1) ((n:Int) - (i:Nat)) 1) where
 mem:=by simp
 obj:=fun i h st b hb=>by
  have e:b=it:=by simpa using hb
  subst e;exact⟨_,st,fun v z=>by
   have z':Data.fields _=Data.cell v:=z;cases z'⟩
 keep:=fun i h h' st k=>k it (by simp) _ st
 item:=by
  intro X hP hw hK hc i pins s σ H E I hf st hg;subst hP hw hK;obtain⟨f0,f1,f2,f3,f4,f5⟩:=hf it (by simp);have W:=Walks.range (prog:=X.prog) (w:=X.w) (I.ok.hd hc) it lo 1 n;refine W.item i s _ _ hg st fun v h' tk hv Hm kk=>?_;obtain⟨t,rfl⟩:=hv;have I1:Inv X pins σ H { s with heap:=h',toks:=tk }:=I.turned (fun b o hb e=>kk b o (by simpa using hb) e) f0 f1 f3 f4 f5;refine⟨_,rfl,N7 (s:={ s with heap:=h',toks:=tk }) (n:="range_iterator") Hm rfl rfl (by decide) ⟨.int (lo+i),H,I1,⟨t,?_⟩,⟨rfl,rfl⟩,Hm,fun b hb=>(hf b hb).1⟩⟩;rw [Int.mul_one]
 done:=by
  intro X hP hw hK hc i pins s σ H E I hf st hg;subst hP hw hK;obtain⟨f0,f1,f2,f3,f4,f5⟩:=hf it (by simp);exact wpAny_pyNext_range_end (I.ok.hd hc) st (by have:n<=i:=hg; lia) fun h' eb=>⟨rfl,I.turned (t':=s.toks) (fun b o hb e=>eb b o hb e) f0 f1 f3 f4 f5⟩
 self:=fun _ _ _ _ _ st h=>wpAny_pyIter_rangeiter st h
section
variable {X:Cx} {tg:Expr}
theorem M5{pins:List (Addr×Obj)}{σ:St}{H:Hp}{s:aK}{R:It->Hp->Prop}{E:Value->aK->Prop}{lo hi:Int}{t u v:Tok}{tk:Nat}(I:Inv X pins σ H s)(h1:-(2 ^ 62)<=lo)(h2:lo < 2 ^ 62)(h3:-(2 ^ 62)<=hi)(h4:hi < 2 ^ 62)
  (q:R (Itr lo (hi - lo).toNat) H):wpAny (model X.prog X.w) X.A (pyIter (.ref s.heap.objs.size)) (PIE X pins σ tg R) E { s with heap:=s.heap.push { cls:=.type "range",data:=.fields #[.int lo t,.int hi u,.int 1 v] },toks:=tk }:=by
 refine wpAny_pyIter_range (IsRange.new ..) (small_one h1 h2 h3 h4) ?_;have I1:Inv X pins σ H { s with heap:=s.heap.push { cls:=.type "range",data:=.fields #[.int lo t,.int hi u,.int 1 v] },toks:=tk }:=I.kept fun b o e=>aY _ e
 refine⟨(s.heap.push { cls:=.type "range",data:=.fields #[.int lo t,.int hi u,.int 1 v] }).objs.size,[(s.heap.push { cls:=.type "range",data:=.fields #[.int lo t,.int hi u,.int 1 v] }).objs.size],_,_,H,rfl,
  I1.kept (t':=tk) fun b o e=>aY _ e,HH _ lo (hi - lo).toNat,?_,fun b hb=>?_,q⟩
 ·have e1:lo+((0:Nat):Int) * 1=lo:=by simp
  have e2:(((hi - lo).toNat:Nat):Int) - ((0:Nat):Int)=Builtin.Range.rangeSize lo hi 1:=by rw [rangeSize_one]; split <;> lia
  show IsRangeIter _ _ (lo+((0:Nat):Int) * 1) ((((hi - lo).toNat:Nat):Int) - ((0:Nat):Int)) 1;rw [e1,e2];exact cL _ rfl
 ·have e:b=(s.heap.push { cls:=.type "range",data:=.fields #[.int lo t,.int hi u,.int 1 v] }).objs.size:=by simpa using hb
  subst e;exact I1.Od (bp _) (I1.eL.fresh (bp _))
noncomputable def rO(fp:List Addr)(h:Heap):List (Addr×Obj):=fp.filterMap fun b=>(h.get? b).map fun o=>(b,o)
theorem qc{fp:List Addr}{h:Heap}{b:Addr}{o:Obj}(hb:b∈fp)(e:h.get? b=some o):(b,o)∈rO fp h:=List.mem_filterMap.mpr ⟨b,hb,by rw [e]; rfl⟩
theorem K4{fp:List Addr}{h:Heap}{p:Addr×Obj}(hp:p∈rO fp h):p.1∈fp/\h.get? p.1=some p.2:=by
 obtain⟨b,hb,e⟩:=List.mem_filterMap.mp hp;cases q:h.get? b with
 | none=>rw [q] at e; cases e
 | some o =>
  rw [q] at e;have e':(b,o)=p:=cj e;subst e';exact⟨hb,q⟩
theorem Inv.pinned{pins:List (Addr×Obj)}{σ:St}{H:Hp}{s:aK}{fp:List Addr}(I:Inv X pins σ H s)(hf:∀ b∈fp,qF X pins H b)(ho:∀ b∈fp,∃ o,s.heap.get? b=some o/\∀ v,o.data≠.cell v):Inv X (pins++rO fp s.heap) σ H s :=
 I.JI fun p hp=>(List.mem_append.mp hp).elim (fun z=>I.pin p (c9 _ z)) fun z=>by
  obtain⟨hb,e⟩:=K4 z;obtain⟨f0,f1,f2,_⟩:=hf p.1 hb;obtain⟨o,e',d⟩:=ho p.1 hb;rw [e] at e'; cases e';exact⟨e,f0,f1,f2,d⟩
theorem Inv.uG{pins pl:List (Addr×Obj)}{σ:St}{H:Hp}{s:aK}(I:Inv X (pins++pl) σ H s):Inv X pins σ H s:=I.JI fun p hp=>I.pin p (c9 _ (oK _ hp))
end
noncomputable abbrev R2:=V->V->Hp->VK->Prop
noncomputable def Mb(X:Cx)(f:Value->Value->Sem Value)(r:R2):Prop :=
 ∀ (pins:List (Addr×Obj)) (s:aK) (σ:St) (H:Hp) (x y:V) (v u:Value) (Q:VK),Inv X pins σ H s->RelV x v->RelV y u->r x y H Q ->
  wpAny (model X.prog X.w) X.A (f v u) (EP X pins σ Q) X.xe s
noncomputable def UnR(X:Cx)(f:Value->Sem Value)(r:V->Hp->VK->Prop):Prop :=
 ∀ (pins:List (Addr×Obj)) (s:aK) (σ:St) (H:Hp) (x:V) (v:Value) (Q:VK),Inv X pins σ H s->RelV x v->r x H Q ->
  wpAny (model X.prog X.w) X.A (f v) (EP X pins σ Q) X.xe s
noncomputable def Rw(X:Cx)(f:Value)(r:List V->Hp->VK->Prop):Prop :=
 ∀ (pins:List (Addr×Obj)) (s:aK) (σ:St) (H:Hp) (xs:List V) (us:List Value) (Q:VK),Inv X pins σ H s->Vals xs us->r xs H Q ->
  wpAny (model X.prog X.w) X.A (call f us) (EP X pins σ Q) X.xe s
noncomputable def aai(X:Cx)(r:V->Hp->(Bool->Hp->Prop)->Prop):Prop :=
 ∀ (pins:List (Addr×Obj)) (s:aK) (σ:St) (H:Hp) (x:V) (v:Value) (Q:Bool->Hp->Prop),Inv X pins σ H s->RelV x v->r x H Q ->
  wpAny (model X.prog X.w) X.A (truthy v) (TP X pins σ Q) X.xe s
noncomputable def rI(C:Int->Int->Prop)(g:Int->Int->V):R2:=fun x y H Q=>∃ i j,x=.int i/\y=.int j/\C i j/\Q (g i j) H
noncomputable def U0(g:Int->Int->V):R2:=fun x y H Q=>∃ i j,x=.int i/\y=.int j/\Q (g i j) H
noncomputable def rU(g:Int->V):V->Hp->VK->Prop:=fun x H Q=>∃ i,x=.int i/\Q (g i) H
section
variable {X:Cx} {a b c:Expr} {ta tb tc:TE} {pos:Pos}
theorem Yh{f:Value->Value->Sem Value}{C:Int->Int->Prop}{g:Int->Int->Int}
  (rule:∀ (i j:Int) (t u:Tok) (s:aK) (Q:Value->aK->Prop) (E:Value->aK->Prop),C i j->Q (.int (g i j) s.toks) { s with toks:=s.toks+1 }->wpAny (model X.prog X.w) X.A (f (.int i t) (.int j u)) Q E s) :
  Mb X f (rI C fun i j=>.int (g i j)):=by
 intro pins s σ H x y v u Q I rx ry h;obtain⟨i,j,rfl,rfl,hc,q⟩:=h;obtain⟨t,rfl⟩:=rx;obtain⟨t',rfl⟩:=ry;exact rule i j t t' s _ _ hc ⟨.int (g i j),H,I.tok _,⟨_,rfl⟩,q⟩
theorem U5{f:Value->Value->Sem Value}{g:Int->Int->Int}
  (rule:∀ (i j:Int) (t u:Tok) (s:aK) (Q:Value->aK->Prop) (E:Value->aK->Prop),Q (.int (g i j) s.toks) { s with toks:=s.toks+1 }->wpAny (model X.prog X.w) X.A (f (.int i t) (.int j u)) Q E s) :
  Mb X f (U0 fun i j=>.int (g i j)):=by
 intro pins s σ H x y v u Q I rx ry h;obtain⟨i,j,rfl,rfl,q⟩:=h;obtain⟨t,rfl⟩:=rx;obtain⟨t',rfl⟩:=ry;exact rule i j t t' s _ _ ⟨.int (g i j),H,I.tok _,⟨_,rfl⟩,q⟩
theorem Yi{f:Value->Value->Sem Value}{g:Int->Int->Bool}
  (rule:∀ (i j:Int) (t u:Tok) (s:aK) (Q:Value->aK->Prop) (E:Value->aK->Prop),Q (.bool (g i j)) s->wpAny (model X.prog X.w) X.A (f (.int i t) (.int j u)) Q E s) :
  Mb X f (U0 fun i j=>.bl (g i j)):=by
 intro pins s σ H x y v u Q I rx ry h;obtain⟨i,j,rfl,rfl,q⟩:=h;obtain⟨t,rfl⟩:=rx;obtain⟨t',rfl⟩:=ry;exact rule i j t t' s _ _ ⟨.bl (g i j),H,I,rfl,q⟩
noncomputable def aaz(i j:Int):Prop:=0 < j/\j < 1073741824
noncomputable def TN(i j:Int):Prop:=(-(2 ^ 64) < i/\i < 2 ^ 64)\/(-(2 ^ 64) < j/\j < 2 ^ 64)
theorem TN.ok{i j:Int}(h:TN i j):IntMulOk i j:=by
 rcases h with ⟨h1,h2⟩ | ⟨h1,h2⟩
 ·exact .of_left (intBits_le_64 h1 h2)
 ·exact .of_right (intBits_le_64 h1 h2)
theorem R8:Mb X (lh .Add) (U0 fun i j=>.int (i+j)):=U5 fun _ _ _ _ _ _ _ q=>add_int q
theorem R4:Mb X (lh .Sub) (U0 fun i j=>.int (i - j)):=U5 fun _ _ _ _ _ _ _ q=>sub_int q
theorem R5:Mb X (lh .Mult) (rI TN fun i j=>.int (i * j)):=Yh fun _ _ _ _ _ _ _ hc q=>mul_int q hc.ok
theorem P4:Mb X (lh .FloorDiv) (rI aaz fun i j=>.int (i / j)):=Yh fun i j _ _ _ _ _ hc q=>by
 have h1:(0:Int) < j:=hc.1;have h2:j < 1073741824:=hc.2;exact floordiv_int (by lia) (by rw [Int.fdiv_eq_ediv_of_nonneg i (by lia)]; exact q) (.inl (PyProof.noPylong_small (by lia)))
theorem R6:Mb X (lh .Mod) (rI (fun _ j=>0 < j) fun i j=>.int (i % j)):=Yh fun i j _ _ _ _ _ hc q=>by
 have h1:(0:Int) < j:=hc;exact mod_int' (by lia) (by rw [Int.fmod_eq_emod_of_nonneg i (by lia)]; exact q)
theorem unI{f:Value->Sem Value}{g:Int->Int}
  (rule:∀ (i:Int) (t:Tok) (s:aK) (Q:Value->aK->Prop) (E:Value->aK->Prop),Q (.int (g i) s.toks) { s with toks:=s.toks+1 }->wpAny (model X.prog X.w) X.A (f (.int i t)) Q E s) :
  UnR X f (rU fun i=>.int (g i)):=by
 intro pins s σ H x v Q I rx h;obtain⟨i,rfl,q⟩:=h;obtain⟨t,rfl⟩:=rx;exact rule i t s _ _ ⟨.int (g i),H,I.tok _,⟨_,rfl⟩,q⟩
theorem RF:UnR X (unaryOp .USub) (rU fun i=>.int (-i)):=unI fun _ _ _ _ _ q=>neg_int q
end
section
variable {X:Cx} {a b c:Expr} {ta tb tc:TE} {pos:Pos}
theorem U4:Mb X (gN .Lt) (U0 fun i j=>.bl (decide (i < j))):=Yi fun _ _ _ _ _ _ _ q=>lt_int q
theorem dM(b:Expr){op:CmpOp}(h:autoParam (op≠.In) Ad._auto_1)(h2:autoParam (op≠.NotIn) Ad._auto_1):behindInMarks op b=false:=by
 have e1:(op == CmpOp.In)=false:=by cases op <;> first | rfl | exact absurd rfl h
 have e2:(op == CmpOp.NotIn)=false:=by cases op <;> first | rfl | exact absurd rfl h2
 cases b with
 | Set es k _ =>
  show (k == 0&&(op == .In||op == .NotIn)&&es.all (constantsAlone 8))=false;rw [e1,e2,Bool.or_false,Jq,Jp]
 | _=>rfl
noncomputable def TH(K:ay)(x:V)(H:Hp)(k:Bool):Prop :=
 match x with
 | .j9=>k=false
 | .bl b=>k=b
 | .int i=>k=(i != 0)
 | .str y=>y.length<=bG/\k=((y.length:Int) != 0)
 | .Rl y=>y.size<=bG/\k=((y.size:Int) != 0)
 | .ref p=>(∃ xs,sZ K H p xs/\k=!xs.isEmpty)\/(∃ xs,Ba K H p xs/\k=!xs.isEmpty)\/∃ bC,H p=some (.dK bC)/\k=!bC.isEmpty
 | _=>False
theorem Il{κ:Type}{bC:List (κ×V)}{vs:List (κ×Value)}(r:KV bC vs):(!vs.isEmpty)=!bC.isEmpty:=by
 cases r <;> rfl
theorem AA{xs:List V}{cy:List Value}(r:Vals xs cy):(!cy.toArray.isEmpty)=!xs.isEmpty:=by
 cases r <;> simp
theorem Aj:(bG:Nat) < 2 ^ 63:=by rw [dw]; decide
theorem RI:aai X (fun x H Q=>∃ k,TH X.K x H k/\Q k H):=by
 intro pins s σ H x v Q I rx h;obtain⟨k,e,q⟩:=h;have hl:=Aj;have hs:bG=16777216:=dw;cases x with
 | j9 =>
  cases rx;have e':k=false:=e;subst e';exact truthy_none ⟨H,I,q⟩
 | bl b =>
  cases rx;have e':k=b:=e;subst e';exact Hr ⟨H,I,q⟩
 | int i =>
  obtain⟨t,rfl⟩:=rx;have e':k=(i != 0):=e;subst e';exact PySem.P.truthy_int ⟨H,I,q⟩
 | str y =>
  obtain⟨t,rfl⟩:=rx;obtain⟨hy,e'⟩:y.length<=bG/\k=((y.length:Int) != 0):=e;subst e';exact PySem.P.truthy_str (by lia) ⟨H,I.tok _,q⟩
 | Rl y =>
  obtain⟨t,rfl⟩:=rx;obtain⟨hy,e'⟩:y.size<=bG/\k=((y.size:Int) != 0):=e;subst e';exact PySem.W.truthy_bytes (by lia) ⟨H,I.tok _,q⟩
 | ref p =>
  cases rx;have e':(∃ xs,sZ X.K H p xs/\k=!xs.isEmpty)\/(∃ xs,Ba X.K H p xs/\k=!xs.isEmpty)\/∃ bC,H p=some (.dK bC)/\k=!bC.isEmpty:=e;rcases e' with ⟨xs,hx,e'⟩ | ⟨xs,hx,e'⟩ | ⟨bC,hx,e'⟩
  ·subst e';obtain⟨cy,r,pl,hz⟩:=I.list hx;have hlen:=r.length;exact wpAny_truthy_list pl.isList (by simp only [bc]; lia) ⟨H,I.tok _,by rw [AA r]; exact q⟩
  ·subst e';obtain⟨cy,r,pl,hz⟩:=I.tuple hx;have hlen:=r.length;exact truthy_tuple pl (by simp only [bc]; lia) ⟨H,I.tok _,by rw [AA r]; exact q⟩
  ·subst e';obtain⟨hz,hS,vs,r,m⟩:bC.length<=bG/\(p == lg)=false/\∃ vs,KV bC vs/\s.heap.DictOf (gG X.prog X.w) p vs:=I.eL p _ hx;have hlen:bC.length=vs.length:=yL r;exact Hq hS m (by lia) ⟨H,I.tok _,by rw [Il r]; exact q⟩
 | _=>exact(show False from e).elim
theorem HW:Mb X (lh .Add) (fun x y H Q=>∃ i j,x=.str i/\y=.str j/\i.length+j.length<=bG/\Q (.str (i++j)) H):=by
 intro pins s σ H x y v u Q I rx ry h;obtain⟨i,j,rfl,rfl,hz,q⟩:=h;obtain⟨t,rfl⟩:=rx;obtain⟨t',rfl⟩:=ry;exact add_str (fun t' tk=>⟨.str (i++j),H,I.tok _,⟨_,rfl⟩,q⟩) hz
theorem vals1{x:V}{us:List Value}(r:Vals [x] us):∃ u,us=[u]/\RelV x u:=by
 cases r with
 | cons r1 r2=>cases r2; exact⟨_,rfl,r1⟩
theorem vals2{x y:V}{us:List Value}(r:Vals [x,y] us):∃ u w',us=[u,w']/\RelV x u/\RelV y w':=by
 cases r with
 | cons r1 r2 =>
  cases r2 with
  | cons r3 r4=>cases r4; exact⟨_,_,rfl,r1,r3⟩
noncomputable def Wu(K:ay)(x:V)(H:Hp)(n:Nat):Prop :=
 match x with
 | .str y=>y.length<=bG/\n=y.length
 | .Rl y=>y.size<=bG/\n=y.size
 | .ref p=>(∃ xs,sZ K H p xs/\n=xs.length)\/∃ xs,Ba K H p xs/\n=xs.length
 | _=>False
theorem OE:Rw X (.builtin "len") (fun xs H Q=>∃ x n,xs=[x]/\Wu X.K x H n/\Q (.int n) H):=by
 intro pins s σ H xs us Q I r h;obtain⟨x,n,rfl,e,q⟩:=h;obtain⟨u,rfl,rx⟩:=vals1 r;have hl:=Aj;have hs:bG=16777216:=dw;cases x with
 | str y =>
  obtain⟨t,rfl⟩:=rx;obtain⟨hy,e'⟩:y.length<=bG/\n=y.length:=e;subst e';exact len_str (by lia) ⟨.int _,H,I.tok _,⟨_,rfl⟩,q⟩
 | Rl y =>
  obtain⟨t,rfl⟩:=rx;obtain⟨hy,e'⟩:y.size<=bG/\n=y.size:=e;subst e';exact PySem.W.len_bytes (by lia) ⟨.int _,H,I.tok _,⟨_,rfl⟩,q⟩
 | ref p =>
  cases rx;have e':(∃ xs,sZ X.K H p xs/\n=xs.length)\/∃ xs,Ba X.K H p xs/\n=xs.length:=e;rcases e' with ⟨xs,hx,e'⟩ | ⟨xs,hx,e'⟩
  ·subst e';obtain⟨cy,r',pl,hz⟩:=I.list hx;have hlen:=r'.length;exact Calls.call_len_list pl.isList (by simp only [bc]; lia) ⟨.int xs.length,H,I.tok _,⟨_,by simp only [bc]; rw [hlen]⟩,q⟩
  ·subst e';obtain⟨cy,r',pl,hz⟩:=I.tuple hx;have hlen:=r'.length;exact len_tuple pl (by simp only [bc]; lia) ⟨.int xs.length,H,I.tok _,⟨_,by simp only [bc]; rw [hlen]⟩,q⟩
 | _=>exact(show False from e).elim
end
structure IY(h:Heap)(x dx C:Addr)(mA:Str->Option Value):Prop where
 obj:h.get? x=some (iM C dx)
 ns:h.Ns1 dx mA
 ne:dx≠x
theorem Le{h:Heap}{dx:Addr}{mA:Str->Option Value}(n:h.Ns1 dx mA):∃ od,h.get? dx=some od/\∀ name,wg name od=some (mA name):=by
 obtain⟨o,es,ep,ho,hd,hk,_,hm⟩:=n;refine⟨o,ho,fun name=>?_⟩;have e:=hm name;unfold nsFind findBy at e;rw [<-Array.find?_toList] at e;unfold wg;rw [hd];dsimp only;split
 ·rename_i y q;rw [q] at e;exact congrArg some e
 ·rename_i q;rw [q] at e;have a:es.toList.any (·.refKey)=false:=by
   rw [List.any_eq_false];intro y hy;obtain⟨z,t,Zw⟩:=hk y (Array.mem_toList_iff.mp hy);simp [DictEntry.refKey,Zw]
  have a':¬ es.toList.any (·.refKey)=true:=by rw [a]; exact iG
  rw [if_neg a'];exact congrArg some e
theorem IY.look{h:Heap}{x dx C:Addr}{mA:Str->Option Value}(I:IY h x dx C mA):∃ od,PySem.W.InstAt h x (iM C dx) C (some od)/\∀ name,wg name od=some (mA name) :=
 let ⟨od,ho,hl⟩:=Le I.ns
 ⟨od,⟨I.obj,rfl,rfl,ho⟩,hl⟩
section
variable {prog:bU} {w:World} {A:fJ} {E:Value->aK->Prop} {s:aK} {K:ay} {x dx C f:Addr} {mA:Str->Option Value} {name:Str} {v:Value}
theorem get_map{expr:Bool}{Q:Value->aK->Prop}(X:K.In s.heap)(I:IY s.heap x dx C mA)(hg:sI K C name=true)(hh:zh K C=true)
  (ha:bJ K (.ref C) name=some none) (hv:mA name=some v) (SH:PySem.W.handedIn v=true) (h:Q v { s with toks:=s.toks+1 }) :
  wpAny (model prog w) A (getAttr (.ref x) name expr) Q E s:=by
 obtain⟨od,J,hl⟩:=I.look;exact PySem.W.get_value X J (wD hg).1 (PySem.W.findObj_own hh ha rfl (by rw [hl,hv])) SH h
theorem N8{pl:Sem Bool}{Q:Value×List Value->aK->Prop}(X:K.In s.heap)(I:IY s.heap x dx C mA)(hg:sI K C name=true)
  (hf:bJ K (.ref C) name=some (some (.ref f))) (ht:Kv K (.ref f)=true) (hv:mA name=none) (h:Q (.ref f,[.ref x]) s) :
  wpAny (model prog w) A (EY (.ref x) name pl) Q E s:=by
 obtain⟨od,J,hl⟩:=I.look;exact PySem.W.method_fn X J (wD hg).1 (wD hg).2 hf (beq_iff_eq.mp ht) (by show (wg name od).map (·.isSome)=some false; rw [hl,hv]; rfl) h
theorem PJ{ns:List Str}{Q:Unit->aK->Prop}(X:K.In s.heap)(I:IY s.heap x dx C mA)
  (hs:bJ K (.ref C) "__setattr__" = some (some (.builtin "object.__setattr__"))) (hp:Pj K C=true) (ht:C9 K C name=some none) (hh:zh K C=true)
  (hw:Ml mA ns) (hsz:ns.length<=bG)
  (h:∀ h',IY h' x dx C (fun y=>if y=name then some v else mA y)->Dg dx s.heap h'->Q () { s with heap:=h',toks:=s.toks+2 }) :
  wpAny (model prog w) A (setAttr (.ref x) name v) Q E s:=by
 obtain⟨od,J,hl⟩:=I.look;refine PySem.W.set_plain X J hs (PySem.W.osa_open (s:={ s with toks:=s.toks+1 }) (r:=none) X J hp ht fun b=>?_);obtain⟨cd,hc,NW⟩:=PySem.W.any_some hh;have hx:s.heap.get? x=some ⟨.ref C,some dx,.plain,#[]⟩:=I.obj;refine ba (cq (ba (ba (wpAny_loadPart hx (ba (PySem.W.Looks.here (s:={ s with toks:=s.toks+1 }) (PySem.W.looks_clsIn X hc) ?_))))));rw [NW];refine cq (a:=some dx) (ba (cq (ba ?_)));refine wpAny_nsSet1 (s:={ s with toks:=s.toks+1 }) I.ns fun h' WU Io=>?_;obtain⟨oD,esD,epD,hoD,VR,hcD⟩:=WU.count (PySem.Within.cons name v hw);refine ba (wpAny_lookBehind hoD (by rw [VR]; exact pastItsLine_dict (dI hcD (by rw [aq]; lia))) ?_);exact cq (h _ ⟨(Io.2 _ (dR I.ne)).trans I.obj,WU,I.ne⟩ Io)
theorem Nr{R:Result->aK->Prop}{vs:List Value}{kw:List (Str×Value)}(X:K.In s.heap)(hm:jJ K C=true)
  (hi:bJ K (.ref C) "__init__" = some (some (.ref f))) (hf:PySem.W.typeIn K (.ref f)=some (.type "function"))
  (h:wC (model prog w) (A.under (.builtin "type.__call__" ⟨.ref C :: vs,kw⟩)) (.call (.ref f) ⟨.ref (s.heap.objs.size+1) :: vs,kw⟩) (PySem.W.InitBack (s.heap.objs.size+1) R)
   { s with heap:=(s.heap.push fI).push (iM C s.heap.objs.size) }) :
  wC (model prog w) A (.call (.ref C) ⟨vs,kw⟩) R s:=by
 obtain⟨hh,g,d,t,os⟩:=s;exact PySem.W.make_core (PySem.W.makes_of X hm) (PySem.W.looks_findIn X hi) (fun self=>PySem.W.bind_fn X self hf) (.inl rfl) h
end
noncomputable def og(f:Str)(v:V):List (Str×V)->List (Str×V)
 | []=>[(f,v)]
 | (g,x) :: r=>if g=f then (g,v) :: r else (g,x) :: og f v r
theorem xU(f g:Str)(v:V):∀ fs:List (Str×V),(og f v fs).lookup g=if g=f then some v else fs.lookup g
 | []=>by
  show pR g [(f,v)]=_;by_cases h:g=f
  ·have hb:(g == f)=true:=beq_iff_eq.mpr h;simp only [pR,hb,if_pos h]
  ·have hb:(g == f)=false:=beq_eq_false_iff_ne.mpr h;simp only [pR,hb,if_neg h]
 | (k,x) :: r=>by
  have ih:=xU f g v r;rw [show og f v ((k,x) :: r)=(if k=f then (k,v) :: r else (k,x) :: og f v r) from rfl];by_cases hk:k=f
  ·rw [if_pos hk];by_cases h:g=k
   ·have hb:(g == k)=true:=beq_iff_eq.mpr h;simp only [pR,hb,if_pos (h.trans hk)]
   ·have hb:(g == k)=false:=beq_eq_false_iff_ne.mpr h;simp only [pR,hb,if_neg (fun e:g=f=>h (e.trans hk.symm))]
  ·rw [if_neg hk];by_cases h:g=k
   ·have hb:(g == k)=true:=beq_iff_eq.mpr h;simp only [pR,hb,if_neg (fun e:g=f=>hk (h.symm.trans e))]
   ·have hb:(g == k)=false:=beq_eq_false_iff_ne.mpr h;simp only [pR,hb];exact ih
theorem wY(f:Str)(v:V):∀ fs:List (Str×V),f∈(og f v fs).map (·.1)/\∀ g,g∈fs.map (·.1)->g∈(og f v fs).map (·.1)
 | []=>⟨by simp [og],fun g h=>by simp at h⟩
 | (k,x) :: r=>by
  obtain⟨i1,i2⟩:=wY f v r;rw [show og f v ((k,x) :: r)=(if k=f then (k,v) :: r else (k,x) :: og f v r) from rfl];by_cases hk:k=f
  ·rw [if_pos hk];subst hk;exact⟨by simp,fun g h=>by simpa using h⟩
  ·rw [if_neg hk];refine⟨?_,fun g h=>?_⟩
   ·rw [aC];exact bq _ i1
   ·rw [aC] at h ⊢;rcases List.mem_cons.mp h with e | e
    ·exact List.mem_cons.mpr (.inl e)
    ·exact bq _ (i2 g e)
theorem xW(f:Str)(v:V):∀ fs:List (Str×V),(og f v fs).length<=fs.length+1
 | []=>by simp [og]
 | (k,x) :: r=>by
  have ih:=xW f v r;rw [show og f v ((k,x) :: r)=(if k=f then (k,v) :: r else (k,x) :: og f v r) from rfl];by_cases hk:k=f
  ·rw [if_pos hk,aq,aq]; lia
  ·rw [if_neg hk,aq,aq]; lia
theorem qY.some_of{v:V}{o:Option Value}(r:qY (some v) o):∃ u,o=some u/\RelV v u:=by
 cases o with
 | none=>exact(show False from r).elim
 | some u=>exact⟨u,rfl,r⟩
theorem qY.none_of{o:Option Value}(r:qY none o):o=none:=by
 cases o with
 | none=>rfl
 | some u=>exact(show False from r).elim
theorem Lr{v:V}{u:Value}(r:RelV v u):PySem.W.handedIn u=true:=by
 cases v with
 | j9=>cases (show u=Jj from r); rfl
 | bl b=>cases (show u=we b from r); rfl
 | int i=>obtain⟨t,e⟩:=(show ∃ t,u=E1 i t from r); cases e; rfl
 | str x=>obtain⟨t,e⟩:=(show ∃ t,u=Mj x t from r); cases e; rfl
 | Rl b=>obtain⟨t,e⟩:=(show ∃ t,u=Value.bytes b t from r); cases e; rfl
 | W6 b=>obtain⟨t,e⟩:=(show ∃ t,u=Value.float b t from r); cases e; rfl
 | ref a=>cases (show u=gw a from r); rfl
 | ty n=>cases (show u=Value.type n from r); rfl
section
variable {P:bU} {w:World} {H H':Hp} {h h':Heap} {a C dx:Addr} {fs fs':List (Str×V)}
theorem DY(eL:pV P w H h)(e:H a=some (.ins C dx fs)):∃ mA,IY h a dx C mA/\(∀ f,qY (fs.lookup f) (mA f))/\Ml mA (fs.map (·.1))/\fs.length<=1000/\H dx=some (.own a):=by
 obtain⟨d,z,ne,ob,mA,n,r,q⟩:=(show gE P w H h a (.ins C dx fs) from eL a _ e);exact⟨mA,⟨ob,n,ne⟩,r,q,z,d⟩
end
structure Rv(K:ay)(C:Addr):Prop where
 pg:sI K C Str.empty=true
 hd:zh K C=true
 po:Pj K C=true
 sa:bJ K (.ref C) "__setattr__" = some (some (.builtin "object.__setattr__"))
theorem Rv.get{K:ay}{C:Addr}(c:Rv K C)(f:Str):sI K C f=true:=c.pg
noncomputable def xA(K:ay)(C:Addr)(f:Str):Prop:=bJ K (.ref C) f=some none
theorem xA.UO{K:ay}{C:Addr}{f:Str}(n:xA K C f):C9 K C f=some none:=by
 unfold C9;rw [show bJ K (.ref C) f=some none from n];rfl
structure Meth(K:ay)(C:Addr)(m:Str)(f:Addr):Prop where
 at_:bJ K (.ref C) m=some (some (.ref f))
 fn:Kv K (.ref f)=true
 kp:fm K (.ref f)=true
section
variable {X:Cx} {pins:List (Addr×Obj)} {σ:St} {H:Hp} {s:aK} {a C dx:Addr} {fs:List (Str×V)} {f:Str} {v:V} {A:fJ} {E:Value->aK->Prop}
theorem Ir{b:Bool}{Q:Value->aK->Prop}(I:Inv X pins σ H s)(e:H a=some (.ins C dx fs))(c:Rv X.K C)(n:xA X.K C f)(l:fs.lookup f=some v)
  (h:∀ u s',Inv X pins σ H s'->RelV v u->Q u s'):wpAny (model X.prog X.w) A (getAttr (.ref a) f b) Q E s:=by
 obtain⟨mA,O,r,_,_,_⟩:=DY I.eL e;obtain⟨u,hu,ru⟩:=qY.some_of (v:=v) (o:=mA f) (by rw [<-l]; exact r f);exact get_map I.wy O (c.get f) c.hd n hu (Lr ru) (h u _ (I.tok _) ru)
theorem qh{m:Str}{g:Addr}{pl:Sem Bool}{Q:Value×List Value->aK->Prop}(I:Inv X pins σ H s)(e:H a=some (.ins C dx fs))(c:Rv X.K C)(k:Meth X.K C m g)(l:fs.lookup m=none)
  (h:Q (.ref g,[.ref a]) s):wpAny (model X.prog X.w) A (EY (.ref a) m pl) Q E s:=by
 obtain⟨mA,O,r,_,_,_⟩:=DY I.eL e;have hn:mA m=none:=qY.none_of (by rw [<-l]; exact r m);exact N8 I.wy O (c.get m) k.at_ k.fn hn h
theorem HK{y:V}{u:Value}{Q:Unit->aK->Prop}(I:Inv X pins σ H s)(e:H a=some (.ins C dx fs))(c:Rv X.K C)(n:xA X.K C f)(hl:fs.length < 1000)(ry:RelV y u)
  (h:∀ s',Inv X pins σ (upd H a (.ins C dx (og f y fs))) s'->Q () s'):wpAny (model X.prog X.w) A (setAttr (.ref a) f u) Q E s:=by
 obtain⟨mA,O,r,wi,_,ho⟩:=DY I.eL e;have hz:(fs.map (·.1)).length<=bG:=by rw [av,dw]; lia
 refine PJ I.wy O c.sa c.po n.UO c.hd wi hz fun h' O' sb=>h _ ?_;have hd:∃ o,h'.get? dx=some o:=let ⟨o,_,_,e',_⟩:=O'.ns; ⟨o,e'⟩
 refine I.write (x:=a) (e:=dx) (by rw [e]; exact jt) (.inr ho) (fun b q hb z=>(sb.2 b hb).trans z) hd ?_;refine⟨by rw [cp O.ne]; exact ho,?_,O.ne,O'.obj,_,O'.ns,fun g=>?_,fun g hg=>?_⟩
 ·have:=xW f y fs; lia
 ·show qY ((og f y fs).lookup g) (if g=f then some u else mA g);rw [xU];by_cases q:g=f
  ·rw [if_pos q,if_pos q]; exact ry
  ·rw [if_neg q,if_neg q]; exact r g
 ·by_cases q:g=f
  ·rw [q]; exact(wY f y fs).1
  ·refine(wY f y fs).2 g (wi g fun z=>hg ?_);show (if g=f then some u else mA g)=none;rw [if_neg q]; exact z
theorem Inv.made(I:Inv X pins σ H s):Inv X pins σ (upd (upd H s.heap.objs.size (.own (s.heap.objs.size+1))) (s.heap.objs.size+1) (.ins C s.heap.objs.size []))
  { s with heap:=(s.heap.push fI).push (iM C s.heap.objs.size) }:=by
 have e1:(s.heap.push fI).get? s.heap.objs.size=some fI:=cL s.heap rfl;have e2:((s.heap.push fI).push (iM C s.heap.objs.size)).get? (s.heap.objs.size+1)=some (iM C s.heap.objs.size):=by
  have:=cL (s.heap.push fI) (o:=iM C s.heap.objs.size) rfl
  rwa [ju] at this
 have e3:(s.heap.push fI).Ns s.heap.objs.size (fun _=>none):=⟨fI,#[],_,e1,rfl,(fun e he=>absurd he (by simp)),fun _=>rfl⟩;have I1:=I.laid (a:=s.heap.objs.size) (o:=.own (s.heap.objs.size+1)) (h':=s.heap.push fI) (t':=s.toks) (fun b u q=>aY _ q) (bp _) ⟨_,e1⟩;refine I1.laid (a:=s.heap.objs.size+1) (o:=.ins C s.heap.objs.size []) (t':=s.toks) (fun b u q=>aY _ q) (Nat.le_of_eq (ju _ _)) ?_;have ne:s.heap.objs.size≠s.heap.objs.size+1:=bS (lr _);refine⟨by rw [cp ne,dF],fT _,ne,e2,fun _=>none,(Heap.Ns1.of_empty e3).at fun o q=>aY _ q,fun _=>jt,fun y hy=>absurd rfl hy⟩
theorem QG{prog:bU}{w:World}{env:Env}{e:Expr}{f:Str}{pos:Pos}{s:aK}{Q:Value->aK->Prop}(hb:attributeBase e f env (eval e env)=eval e env)
  (h:wpAny (model prog w) A (eval e env) (fun o fK=>wpAny (model prog w) A (getAttr o f true) Q E fK) E s):wpAny (model prog w) A (eval (.Attribute e f pos) env) Q E s :=
 Attribute_any_ h (by rw [arm_eval_Attribute,hb])
end
structure jf(k:Nat)(A:fJ):Prop where
 hd:A.handled=none
 dp:A.depth+3 * k+5 < recursionLimit
 un:A.units+16 * k+200 < cLine
theorem jf.mono{j k:Nat}{A:fJ}(r:jf k A)(h:j<=k):jf j A:=⟨r.hd,by have:=r.dp; lia,by have:=r.un; lia⟩
theorem jf.deeper{k:Nat}{A:fJ}(r:jf (k+1) A)(env:Env):jf k (A.deeper env) :=
 ⟨r.hd,by have:=r.dp; show A.depth+1+3 * k+5 < _; lia,by have:=r.un; show A.units+3+16 * k+200 < _; lia⟩
theorem Ih {A:fJ} {C:Addr} {us:List Value} {kw:List (Str×Value)}:(A.under (.builtin "type.__call__" ⟨.ref C :: us,kw⟩)).depth=A.depth+1:=by
 first | rfl | simp [L1,Code.weight,Code.isCreation,Code.isGuard,Code.isCaller,Code.frames,O1,guardIds]
theorem Ig {A:fJ} {C:Addr} {us:List Value} {kw:List (Str×Value)}:(A.under (.builtin "type.__call__" ⟨.ref C :: us,kw⟩)).units=A.units+1:=by
 first | rfl | simp [L1,Code.cUnits,Code.frames,O1]
theorem jf.make {k:Nat} {A:fJ} (r:jf (k+1) A) (C:Addr) (us:List Value) (kw:List (Str×Value)):jf k (A.under (.builtin "type.__call__" ⟨.ref C :: us,kw⟩)) :=
 ⟨r.hd,by have:=r.dp; rw [Ih]; lia,by have:=r.un; rw [Ig]; lia⟩
theorem jf.depth{k:Nat}{A:fJ}(r:jf k A):A.depth < recursionLimit:=by have:=r.dp; lia
theorem jf.units{k:Nat}{A:fJ}(r:jf k A):A.units+64 < cLine:=by have:=r.un; lia
theorem jf.RE{k:Nat}{A:fJ}(r:jf k A):A.units < cLine:=by have:=r.un; lia
noncomputable abbrev Sp:=List V->Hp->VK->XK->Prop
noncomputable abbrev LS:=List Env->Hp->aK->XK->Value->aK->Prop
structure Hd(P:bU)(w:World)(K:ay)(mg:Str->Option Value)(base:Heap)(A:fJ)(outer:List Env)(s:aK)(H:Hp):Prop where
 frames:A.frames=some outer
 mod:Mod K mg base
 bs:∀ b o,base.get? b=some o->s.heap.get? b=some o/\H b=none
 Ma:base.objs.size<=s.heap.objs.size
 vB:s.heap.FunFrames base outer
 Oc:∀ b∈tF outer,H b=none
 eL:pV P w H s.heap
 bare:zj s.gens
noncomputable def CE(outer:List Env)(P:bU)(w:World)(H:Hp)(s:aK)(Q:VK)(u:Value)(s':aK):Prop :=
 ∃ v H',s'.os=s.os/\zj s'.gens/\Un (tF outer) [] H H' s.heap s'.heap/\pV P w H' s'.heap/\RelV v u/\Q v H'
noncomputable def CR(CX:LS)(outer:List Env)(P:bU)(w:World)(H:Hp)(s:aK)(Q:VK)(E:XK)(r:Result)(s':aK):Prop :=
 match r with
 | .ok (.ret u)=>CE outer P w H s Q u s'
 | .ok _=>False
 | .error e=>CX outer H s E e s'
structure dN(P:bU)(w:World)(K:ay)(mg:Str->Option Value)(base:Heap)(CX:LS)(k:Nat)(f:Addr)(fd:aE)(ps:List Str)(sp:Sp):Prop where
 len:∀ vs H Q E,sp vs H Q E->vs.length=ps.length
 run:∀ (A:fJ) (outer:List Env) (s:aK) (H:Hp) (args:Args) (us:List Value) (vs:List V) (Q:VK) (E:XK),jf k A->Hd P w K mg base A outer s H->BindsTo s fd args (ps.zip us)->Vals vs us->sp vs H Q E ->
  wC (model P w) A (.call (.ref f) args) (CR CX outer P w H s Q E) s
theorem Hd.make{P:bU}{w:World}{K:ay}{mg:Str->Option Value}{base:Heap}{A:fJ}{outer:List Env}{s:aK}{H:Hp}(e:Hd P w K mg base A outer s H)(C:Addr)(us:List Value)(kw:List (Str×Value)) :
  Hd P w K mg base (A.under (.builtin "type.__call__" ⟨.ref C :: us,kw⟩)) outer s H:=⟨by first | exact e.frames | (simpa [L1,Code.envs,O1,pushEnvs] using e.frames),e.mod,e.bs,e.Ma,e.vB,e.Oc,e.eL,e.bare⟩
section
variable {X:Cx} {pins:List (Addr×Obj)} {σ:St} {H:Hp} {s s':aK}
theorem Inv.Tn(I:Inv X pins σ H s):Hd X.prog X.w X.K X.mg X.base X.A X.stack s H :=
 ⟨I.ok.frames,I.ok.mod,I.bs,dI I.ok.Ma I.sz,I.stack,I.Dk,I.eL,I.bare⟩
theorem Inv.after{Q:VK}{u:Value}(I:Inv X pins σ H s)(h:CE X.stack X.prog X.w H s Q u s'):EP X pins σ Q u s':=by
 obtain⟨v,H',os,bare,un,eL,r,q⟩:=h;obtain⟨hh,g,d,t,Yg⟩:=s';obtain rfl:Yg=s.os:=os;exact⟨v,H',I.call (h':=hh) (g':=g) (d':=d) (t':=t) (ch:=[]) un eL bare (fun b z=>absurd z (by simp)),r,q⟩
end
noncomputable def Binds(K:ay)(fd:aE)(ps:List Str)(ds:List Value):Prop :=
 ∀ (s:aK) (us:List Value),K.In s.heap->(us++ds).length=ps.length->BindsTo s fd ⟨us,[]⟩ (ps.zip (us++ds))
theorem Binds.all{K:ay}{fd:aE}{ps:List Str}(h:∀ us:List Value,us.length=ps.length->bindArgs fd ⟨us,[]⟩=pure (ps.zip us)):Binds K fd ps []:=fun s us _ hl=>by
 rw [cz] at hl ⊢;exact .of_eq (h us hl)
noncomputable def Passes(CX:LS)(X:Cx)(E:XK):Prop:=∀ (pins:List (Addr×Obj)) (σ:St) (H:Hp) (s:aK) (e:Value) (s':aK),Inv X pins σ H s->CX X.stack H s E e s'->X.xe e s'
section
variable {X:Cx} {CX:LS} {k:Nat} {f C:Addr} {fd:aE} {ps:List Str} {sp:Sp} {Tp:List V} {ds:List Value} {E:XK} {x m:Str} {p pos apos:Pos} {e o:Expr} {es:List Expr} {ta:TE} {t:TA}
theorem zB{pins:List (Addr×Obj)}{σ:St}{H:Hp}{s:aK}{Q:VK}{us:List Value}{vs:List V}(F:dN X.prog X.w X.K X.mg X.base CX k f fd ps sp)(hr:jf k X.A)(hb:Binds X.K fd ps ds)(hd:Vals Tp ds)(hx:Passes CX X E)
  (I:Inv X pins σ H s) (r:Vals vs us) (h:sp (vs++Tp) H Q E):wpAny (model X.prog X.w) X.A (call (.ref f) us) (EP X pins σ Q) X.xe s:=by
 have r2:Vals (vs++Tp) (us++ds):=r.append hd;have hl:(us++ds).length=ps.length:=by rw [<-r2.length]; exact F.len _ _ _ _ h
 refine wpAny_call (zf (F.run X.A X.stack s H ⟨us,[]⟩ (us++ds) (vs++Tp) Q E hr I.Tn (hb s us I.wy hl) r2 h) fun r s' hq=>?_);cases r with
 | error e=>exact hx pins σ H s e s' I hq
 | ok fl =>
  cases fl with
  | ret u=>exact I.after hq
  | next=>exact bP hq
  | brk=>exact bP hq
  | cont=>exact bP hq
structure Mk(K:ay)(C f:Addr):Prop where
 makes:jJ K C=true
 init:bJ K (.ref C) "__init__" = some (some (.ref f))
 fn:Kv K (.ref f)=true
 kp:fm K (.ref C)=true
theorem MV{pins:List (Addr×Obj)}{σ:St}{H:Hp}{s:aK}{Q:VK}{us:List Value}{vs:List V}(M:Mk X.K C f)(F:dN X.prog X.w X.K X.mg X.base CX k f fd ps sp)(hr:jf (k+1) X.A)(hb:Binds X.K fd ps ds)(hd:Vals Tp ds)
  (hx:Passes CX X E) (I:Inv X pins σ H s) (r:Vals vs us)
  (h:∀ x dx,H x=none->H dx=none->dx≠x->sp (.ref x :: (vs++Tp)) (upd (upd H dx (.own x)) x (.ins C dx [])) (fun v H2=>v=.j9/\Q (.ref x) H2) E) :
  wpAny (model X.prog X.w) X.A (call (.ref C) us) (EP X pins σ Q) X.xe s:=by
 have hq:=h (s.heap.objs.size+1) s.heap.objs.size (I.eL.fresh (Nat.le_succ _)) (I.eL.fresh (bp _)) (bS (lr _));have I2:=Inv.made (C:=C) I;have r2:Vals (V.ref (s.heap.objs.size+1) :: (vs++Tp)) (gw (s.heap.objs.size+1) :: (us++ds)):=.cons rfl (r.append hd);have hl:(gw (s.heap.objs.size+1) :: us++ds).length=ps.length:=by
  have e:=r2.length;rw [F.len _ _ _ _ hq] at e;exact e.symm
 refine wpAny_call (Nr (f:=f) I.wy M.makes M.init (beq_iff_eq.mp M.fn) (zf (F.run _ X.stack _ _ ⟨gw (s.heap.objs.size+1) :: us,[]⟩ (gw (s.heap.objs.size+1) :: (us++ds)) _ _ E (hr.make C us [])
  (I2.Tn.make C us []) (hb _ (gw (s.heap.objs.size+1) :: us) I2.wy hl) r2 hq) fun r s' Q4=>?_))
 cases r with
 | error e=>exact hx pins σ _ _ e s' I2 Q4
 | ok fl =>
  cases fl with
  | ret u =>
   obtain⟨v,H',I3,rv,ev,q3⟩:=I2.after Q4;subst ev;exact⟨rv,⟨V.ref (s.heap.objs.size+1),H',I3,rfl,q3⟩⟩
  | next=>exact bP Q4
  | brk=>exact bP Q4
  | cont=>exact bP Q4
end
structure bL(N P:List Str)(sc:Scope):Prop where
 kind:sc.kind=.function
 co:sc.isCoroutine=false
 gen:sc.isGenerator=false
 nd:N.Nodup
 pre:N.take P.length=P
 par:∀ x∈P,sc.names.lookup x=some .local\/sc.names.lookup x=some .cell
 Sf:∀ y∈sc.names,y.2≠.free
theorem CY{kindOf:Str->Option tH}{x:Str}:∀ {binds:List (Str×Value)} {m:Str->Option Value},(∀ v,(x,v)∉binds)->bindL kindOf binds m x=m x
 | [],_,_=>rfl
 | (n,v) :: r,m,h=>by
  unfold bindL;rw [CY fun w hw=>h w (bq _ hw)];split
  ·have:x≠n:=by rintro rfl; exact h v c8
   simp [this]
  ·rfl
theorem C2{kindOf:Str->Option tH}{x:Str}:∀ {binds:List (Str×Value)} {m:Str->Option Value},(∀ v,(x,v)∉binds)->bindC kindOf binds m x=m x
 | [],_,_=>rfl
 | (n,v) :: r,m,h=>by
  unfold bindC;rw [C2 fun w hw=>h w (bq _ hw)];split
  ·rfl
  ·have:x≠n:=by rintro rfl; exact h v c8
   simp [this]
theorem CZ{kindOf:Str->Option tH}{x:Str}{v:Value}:∀ {P:List Str} {vs:List Value} {i:Nat} {m:Str->Option Value},P.Nodup->P[i]?=some x->vs[i]?=some v->kindOf x=some .local ->
  bindL kindOf (P.zip vs) m x=some v
 | [],_,_,_,_,h,_,_=>by simp at h
 | _ :: _,[],_,_,_,_,h,_=>by simp at h
 | p :: P,w :: vs,0,m,nd,h1,h2,hk=>by
  simp at h1 h2; subst h1; subst h2;show bindL kindOf ((p,w) :: P.zip vs) m p=_;unfold bindL;rw [CY fun v hv=>(List.nodup_cons.mp nd).1 (Hh hv).1,if_pos hk];simp
 | p :: P,w :: vs,i+1,m,nd,h1,h2,hk=>by
  show bindL kindOf ((p,w) :: P.zip vs) m x=_;unfold bindL;exact CZ (i:=i) (List.nodup_cons.mp nd).2 (by simpa using h1) (by simpa using h2) hk
theorem C3{kindOf:Str->Option tH}{x:Str}{v:Value}:∀ {P:List Str} {vs:List Value} {i:Nat} {m:Str->Option Value},P.Nodup->P[i]?=some x->vs[i]?=some v->kindOf x≠some .local ->
  bindC kindOf (P.zip vs) m x=some v
 | [],_,_,_,_,h,_,_=>by simp at h
 | _ :: _,[],_,_,_,_,h,_=>by simp at h
 | p :: P,w :: vs,0,m,nd,h1,h2,hk=>by
  simp at h1 h2; subst h1; subst h2;show bindC kindOf ((p,w) :: P.zip vs) m p=_;unfold bindC;rw [C2 fun v hv=>(List.nodup_cons.mp nd).1 (Hh hv).1,if_neg hk];simp
 | p :: P,w :: vs,i+1,m,nd,h1,h2,hk=>by
  show bindC kindOf ((p,w) :: P.zip vs) m x=_;unfold bindC;exact C3 (i:=i) (List.nodup_cons.mp nd).2 (by simpa using h1) (by simpa using h2) hk
noncomputable def start(N:List Str)(vs:List V):St:=vs.map some++bb (N.length - vs.length) none
noncomputable def xp(CX:LS)(P:bU)(w:World)(K:ay)(mg:Str->Option Value)(base:Heap)(N:List Str)(qual:Str)(scope:Scope)(f:Addr)(cd:Value)(A:fJ)(outer:List Env)(s:aK)(H:Hp)(E:XK):Cx where
 prog:=P
 w:=w
 K:=K
 mg:=mg
 base:=base
 A:=A.deeper (ze qual scope s.heap.objs.size f cd)
 N:=N
 kj:=s
 LQ:=H
 env:=ze qual scope s.heap.objs.size f cd
 outer:=outer
 stack:=ze qual scope s.heap.objs.size f cd :: outer
 ex:=[]
 calm:=true
 fn:=fun _=>true
 pn:=[]
 xe:=fun e s'=>wpAny (model P w) (A.deeper (ze qual scope s.heap.objs.size f cd)) (leaving (ze qual scope s.heap.objs.size f cd) e) (fun _ XZ=>CX outer H s E e XZ) (fun e' XZ=>CX outer H s E e' XZ) s'
theorem GL{sc:Scope}{n:Nat}{x:Str}(h:sc.names.lookup x=some .cell):∃ c,(cellsFrom n sc.names []).lookup x=some c:=by
 have q:=Jl sc.names n [] (.inl h);exact Option.isSome_iff_exists.mp q
theorem Ln{CX:LS}{P:bU}{w:World}{K:ay}{mg:Str->Option Value}{base:Heap}{N ps:List Str}{qual:Str}{scope:Scope}{f:Addr}{cd:Value}{A:fJ}{outer:List Env}{s s1:aK}{H:Hp}{E:XK}{us:List Value}{vs:List V}
  (S:bL N ps scope) (hd:A.handled=none) (e0:Hd P w K mg base A outer s H) (hl:vs.length=ps.length) (r:Vals vs us)
  (x:InCallC s s.heap.objs.size (bindL (ze qual scope s.heap.objs.size f cd).kindOf (ps.zip us) fun _=>none) (cellsFrom (s.heap.objs.size+1) scope.names []) (bindC (ze qual scope s.heap.objs.size f cd).kindOf (ps.zip us) fun _=>none) s1) :
  Inv (xp CX P w K mg base N qual scope f cd A outer s H E) [] (start N vs) H s1:=by
 have mZ:ps.length<=N.length:=by have:=congrArg dD S.pre; rw [ff] at this; lia
 obtain⟨h1,tk,rfl,hk⟩:=x.done;have Vn:∀ b:Addr,b∉(xp CX P w K mg base N qual scope f cd A outer s H E).ex:=fun b z=>absurd (show b∈([]:List Addr) from z) (by simp);refine⟨⟨e0.mod,S.kind,rfl,rfl,bp _,fun y z c h1 h2=>?_,fun y hy=>?_,fun y c _ h=>?_,fun _=>hd,Around.frames_deeper e0.frames,.inr ⟨rfl,rfl⟩,fun b z=>absurd z (Vn b),e0.bs,e0.Ma,fun b _ _=>Vn b,fun b z=>absurd z (Vn b),e0.vB,e0.Oc⟩,
  rfl,e0.bare,Un.kept hk,⟨_,x.toInCall.ns,fun i y v h1 h2 h3=>?_⟩,fun y c h=>⟨_,x.cell y c h⟩,e0.eL.fresh (bp _),fun y c h=>?_,fun p hp=>absurd (show p∈([]:List (Addr×Obj)) from hp) (by simp),e0.eL.kept hk,?_⟩
 ·exact name_of_addr x.apart (je h1) (je h2)
 ·have hy:scope.names.lookup y=some .cell\/scope.names.lookup y=some .free:=hy;rcases hy with hy | hy
  ·exact GL hy
  ·exact absurd rfl (S.Sf _ (je hy))
 ·exact Pk (x.above y c (je h))
 ·have hi:i < vs.length:=by
   unfold start at h2;by_cases hi:i < vs.length
   ·exact hi
   ·rw [bh (by simpa using hi)] at h2;rw [ml] at h2;split at h2 <;> cases h2
  have ha:vs[i]?=some v:=by
   unfold start at h2;rw [bK (by simpa using hi),dS] at h2;cases e:vs[i]? with
   | none=>rw [e] at h2; cases h2
   | some a=>rw [e] at h2; cases h2; rfl
  obtain⟨u,hu,rv⟩:=r.get ha;have hp:ps[i]?=some y:=by
   rw [<-S.pre,List.getElem?_take_of_lt (by lia)]; exact h1
  have ndP:ps.Nodup:=by rw [<-S.pre]; exact S.nd.sublist (List.take_sublist _ _)
  refine⟨u,rv,?_⟩;rcases S.par y (dA hp) with k | k
  ·exact .inl ⟨k,CZ ndP hp hu k⟩
  ·obtain⟨c,e⟩:=GL (n:=s.heap.objs.size+1) k;refine .inr ⟨.inl k,c,e,?_⟩;have q:=x.cell y c e;rw [C3 ndP hp hu (by show scope.names.lookup y≠_; rw [k]; decide)] at q;exact q
 ·exact e0.eL.fresh (Pk (x.above y c (je h)))
 ·unfold start;show _=N.length;rw [aJ,av,gb];lia
theorem Rg{CX:LS}{P:bU}{w:World}{K:ay}{mg:Str->Option Value}{base:Heap}{k:Nat}{f:Addr}{name qual:Str}{params:Arguments}{body:List Stmt}{scope:Scope}{dV kV doc pm mq ct oc:Value}{an od:Option Addr}
  {JN:Array (Option Value)} {N ps:List Str} {sp:Sp} (lk:K.lookup f=some ⟨oc,od,.func (jL name qual params body scope dV kV doc pm an mq ct),JN⟩) (Hn:E3 K mq qual=true) (S:bL N ps scope)
  (len:∀ vs H Q E,sp vs H Q E->vs.length=ps.length)
  (NY:∀ (A:fJ) (outer:List Env) (s:aK) (H:Hp) (vs:List V) (Q:VK) (E:XK),jf k (A.deeper (ze qual scope s.heap.objs.size f mq))->sp vs H Q E ->
   ∃ t,Ul (xp CX P w K mg base N qual scope f mq A outer s H E) body t/\t { nx:=fun _ H'=>Q .j9 H',rt:=Q } (start N vs) H) :
  dN P w K mg base CX (k+1) f (jL name qual params body scope dV kV doc pm an mq ct) ps sp:=by
 refine⟨len,fun A outer s H args us vs Q E hr e0 hb r NN=>?_⟩;have hl:=len _ _ _ _ NN;have KX:K.In s.heap:=e0.mod.Ny.keeps fun b o e=>(e0.bs b o e).1;have lim:s.heap.NoLimit:=e0.mod.nolimit.keeps fun b o e=>(e0.bs b o e).1;have CM:∀ y∈ps.zip us,scope.names.lookup y.1=some .local\/(scope.names.lookup y.1=some .cell/\((cellsFrom (s.heap.objs.size+1) scope.names []).lookup y.1).isSome=true):=fun ⟨n,v⟩ hy=>by
  rcases S.par n (Hh hy).1 with q | q
  ·exact .inl q
  ·exact .inr ⟨q,Jl _ _ _ (.inl q)⟩
 refine codeAny_call_function hr.depth (KX _ _ lk) rfl S.co S.gen rfl (PySem.W.codeRec_of KX Hn) (hb _ _ _ _ ?_);refine wpAny_newFunctionEnv_cells S.kind CM fun env he s1 x=>?_;subst he;refine⟨lim.keeps x.toInCall.keep,codeAny_func ?_⟩;obtain⟨t,ht,hq⟩:=NY A outer s H vs Q E (hr.deeper _) NN;have I:Inv (xp CX P w K mg base N qual scope f mq A outer s H E) [] (start N vs) H s1:=Ln S hr.hd e0 hl r x;refine lb (ht [] s1 (start N vs) H _ I hq) (fun fl s' hs=>?_) fun e s' hs=>hs;have fin:∀ {jU:St} {H':Hp} {v:V} {u:Value},Inv (xp CX P w K mg base N qual scope f mq A outer s H E) [] jU H' s'->RelV v u->Q v H'->CE outer P w H s Q u s' :=
  fun {jU H' v u} J rv q=>⟨v,H',J.os,J.bare,J.base,J.eL,rv,q⟩
 cases fl with
 | ret u =>
  obtain⟨v,jU,H',J,rv,q⟩:=hs;exact fin J rv q
 | next =>
  obtain⟨jU,H',J,q⟩:=hs;exact fin (v:=V.j9) (u:=Jj) J rfl q
 | brk =>
  obtain⟨_,_,_,q⟩:=hs;exact bP q
 | cont =>
  obtain⟨_,_,_,q⟩:=hs;exact bP q
end L2
namespace HT
open PySem PyProof.Rows
noncomputable def lexLt:List Int->List Int->Bool
 | [],[]=>false
 | [],_ :: _=>true
 | _ :: _,[]=>false
 | x :: xs,y :: ys=>if x=y then lexLt xs ys else decide (x < y)
theorem Ik(x y:Int)(xs ys:List Int):lexLt (x :: xs) (y :: ys)=if x=y then lexLt xs ys else decide (x < y):=rfl
theorem BB:lexLt [] []=false:=rfl
theorem As(y:Int)(ys:List Int):lexLt [] (y :: ys)=true:=rfl
theorem Au(x:Int)(xs:List Int):lexLt (x :: xs) []=false:=rfl
theorem Oh(A:fJ)(s:aK)(a:Int)(t:Tok)(c:Int)(u:Tok):∃ e,SeqAt.EqAt A s (.int a t) (.int c u) e/\(e=true↔a=c) :=
 ⟨(a == c),SeqAt.EqAt.int_int a t c u,by simp⟩
theorem Fv(A:fJ)(s:aK)(a:Int)(t:Tok)(c:Int)(u:Tok)(prog:bU)(w:World)(E:Value->aK->Prop)(Q:Value->aK->Prop)(h:Q (.bool (decide (a < c))) s) :
  wpAny (model prog w) A (wB .Lt (.int a t) (.int c u)) Q E s :=
 (PyProof.Rows.lt_int h:wpAny (model prog w) A (gN .Lt (.int a t) (.int c u)) Q E s)
section
open PySem.SeqAt
open PySem.AutoSeq1 (wpAny_loadPart')
open PySem.MeetsSeq PySem.MeetsSeq2 PySem.MeetsSeq3
theorem Br(l b:Addr)(items oO:Array Value)(n n2:Nat)(dd Ud:Option Addr)(sl PI:Array (Option Value))(ns ms:List Int)(hi:lB items.toList ns)(hj:lB oO.toList ms) :
  Meets (Builtin.«tuple.__lt__» ⟨[.ref l,.ref b],[]⟩)
   (fun _ R s=>s.heap.get? l=some { cls:=.type "tuple",dict:=dd,data:=.seq items n,slots:=sl }/\s.heap.get? b=some { cls:=.type "tuple",dict:=Ud,data:=.seq oO n2,slots:=PI } /\
    R (.ok (.ret (.bool (lexLt ns ms)))) s) :=
 .of_wp fun prog w A R s h=>by
  obtain⟨hp,g,d,tk,os⟩:=s; obtain⟨hl,hb,h⟩:=h;have f2:=E5;have z1:items.size=ns.length:=by rw [<-hi.length]; simp
  have z2:oO.size=ms.length:=by rw [<-hj.length]; simp
  wp_walk using zb hl,zb hb,wpAny_forIn_list _ (fun rest b s'=>b.1=none/\s'=⟨hp,g,d,tk,os⟩/\∃ (vs ws:List Value) (P8 T4:List Int),rest=vs.zip ws /\
   lB vs P8/\lB ws T4/\P8.length+oO.size=T4.length+items.size/\R (.ok (.ret (.bool (lexLt P8 T4)))) ⟨hp,g,d,tk,os⟩) _
  case turn =>
   rintro⟨y,x⟩ rest b s' ⟨L9,rfl,vs,ws,P8,T4,hz,Ze,WQ,hlen,hR⟩;cases Ze with
   | nil=>rw [List.zip_nil_left] at hz; cases hz
   | cons a t Zd =>
    cases WQ with
    | nil=>rw [List.zip_nil_right] at hz; cases hz
    | cons c u Zb =>
     rw [List.zip_cons_cons] at hz;injection hz with hyx VA
     injection hyx with hy hx
     subst hy hx;rw [Ik] at hR;simp only [aq] at hlen;obtain⟨e,he,VL⟩:=Oh A.in1 ⟨hp,g,d,tk,os⟩ a t c u;refine ba (he prog w _ _ ?_);cases e with
     | true =>
      rw [if_pos (VL.mp rfl)] at hR
      wp_walk
      exact⟨rfl,rfl,_,_,_,_,VA,Zd,Zb,by lia,hR⟩
     | false =>
      rw [if_neg (fun q=>absurd (VL.mpr q) iG)] at hR;have hri:=Fv A.in1 ⟨hp,g,d,tk,os⟩ a t c u prog w
      wp_walk using hri
      exact⟨_,rfl,by simpa using hR⟩
  case fin =>
   rintro⟨b1,b2⟩ s' ⟨L9,rfl,vs,ws,P8,T4,hz,Ze,WQ,hlen,hR⟩;simp only at L9;subst L9;have hv:lexLt P8 T4=decide (items.size < oO.size):=by
    cases Ze with
    | nil =>
     cases WQ with
     | nil =>
      simp only [az] at hlen;rw [BB];exact(decide_eq_false (by lia)).symm
     | cons c u hw =>
      simp only [az,aq] at hlen;rw [As];exact(decide_eq_true (by lia)).symm
    | cons a t hv =>
     cases WQ with
     | nil =>
      simp only [az,aq] at hlen;rw [Au];exact(decide_eq_false (by lia)).symm
     | cons c u hw =>
      rw [List.zip_cons_cons] at hz;cases hz
   rw [hv] at hR
   wp_walk
   exact⟨_,rfl,by simpa [Builtin.Tuple.tupleCompareSizes] using hR⟩
  case h =>
   exact⟨rfl,rfl,items.toList,oO.toList,ns,ms,rfl,hi,hj,by lia,h⟩
end
section
variable {prog:bU} {w:World} {A:fJ} {E:Value->aK->Prop} {s:aK}
theorem zZ{l b:Addr}{items oO:Array Value}{ns ms:List Int}{Q:Value->aK->Prop}(hl:IsTup s.heap l items)(hb:IsTup s.heap b oO)(hi:lB items.toList ns)(hj:lB oO.toList ms)
  (hu:A.units < cLine) (h:Q (.bool (lexLt ns ms)) s):wpAny (model prog w) A (gN .Lt (.ref l) (.ref b)) Q E s:=by
 obtain⟨⟨cls,dd,data,sl⟩,ho,hc,n,hd⟩:=id hl;obtain⟨⟨aaa,Ud,data2,PI⟩,Pc,S4,n2,hd2⟩:=id hb;simp only at hc hd S4 hd2;subst hc hd S4 hd2;exact richCompare_meets_room (op:=.Lt) ⟨_,ho,rfl⟩ ⟨_,Pc,rfl⟩ PySem.F.slot_tuple_lt PySem.F.entry_tuple_lt (PySem.F.args_tuple_lt_2 _ _) (Br l b items oO n n2 dd Ud sl PI ns ms hi hj)
  ⟨ho,Pc,show we (lexLt ns ms)≠Value.notImplemented/\Q (.bool (lexLt ns ms)) s from⟨(fun x=>nomatch x),h⟩⟩ hu
theorem QE{t b:Addr}{vs ws:List Value}{Q:Value->aK->Prop}(ht:IsTup s.heap t vs.toArray)(hb:IsTup s.heap b ws.toArray)(hv:vs≠[])
  (h1:ws=[]->Q (.ref t) s) (h2:ws≠[]->Q (.ref s.heap.objs.size) { s with heap:=s.heap.push { cls:=.type "tuple",data:=.seq (vs++ws).toArray } })
  (hsz:vs.length+ws.length<=bG):wpAny (model prog w) A (lh .Add (.ref t) (.ref b)) Q E s:=by
 obtain⟨⟨cls,dd,data,sl⟩,ho,hc,n,hd⟩:=id ht;obtain⟨⟨aaa,Ud,data2,PI⟩,Pc,S4,n2,hd2⟩:=id hb;simp only at hc hd S4 hd2;subst hc hd S4 hd2;have e:vs.toArray++ws.toArray=(vs++ws).toArray:=by simp
 by_cases hw:ws=[]
 ·exact concat_meets ⟨_,ho,rfl⟩ ⟨_,Pc,rfl⟩ noFill_tuple_add seq_tuple_add Jm Hz (Hg _ _)
   (tuple_addW1 t b vs.toArray ws.toArray n n2 dd Ud sl PI (by simpa using hv) (by simp [hw])) ⟨ho,Pc,h1 hw⟩
 ·refine concat_meets ⟨_,ho,rfl⟩ ⟨_,Pc,rfl⟩ noFill_tuple_add seq_tuple_add Jm Hz (Hg _ _)
   (tuple_addW2 t b vs.toArray ws.toArray n n2 dd Ud sl PI (by simpa using hv) (by simpa using hw) (by rw [bc,bc]; exact hsz)) ⟨ho,Pc,?_⟩
  rw [e];exact h2 hw
noncomputable def j8(n d:Nat):Option Int->Nat
 | none=>d
 | some v=>if v < 0 then (v+(n:Int)).toNat else min v.toNat n
theorem RS(n d:Nat)(hd:d<=n)(o:Option Int):j8 n d o<=n:=by
 cases o with
 | none=>exact hd
 | some v =>
  show (if v < 0 then (v+(n:Int)).toNat else min v.toNat n)<=n;by_cases hv:v < 0
  ·rw [if_pos hv]; lia
  ·rw [if_neg hv]; exact Nat.min_le_right _ _
theorem Kk(v:Int)(n d:Nat):(if v < 0 then max (v+(n:Int)) 0 else min v (n:Int))=((j8 n d (some v):Nat):Int):=by
 show (if v < 0 then max (v+(n:Int)) 0 else min v (n:Int))=(((if v < 0 then (v+(n:Int)).toNat else min v.toNat n):Nat):Int);by_cases hv:v < 0
 ·simp only [if_pos hv]; lia
 ·simp only [if_neg hv]; lia
theorem IX(lo hi:Option Int)(n:Nat):nY lo hi 1 (n:Int)=(((j8 n 0 lo:Nat):Int),((j8 n n hi:Nat):Int)):=by
 have h1:¬ ((1:Int) < 0):=by lia
 unfold nY;simp only [h1,if_false];refine Prod.ext ?_ ?_
 ·cases lo with
  | none=>rfl
  | some v=>exact Kk v n 0
 ·cases hi with
  | none=>rfl
  | some v=>exact Kk v n n
theorem HS(i j:Nat):jO (i:Int) (j:Int) 1=j - i:=by
 unfold jO;have h1:(1:Int) > 0:=by lia
 simp only [h1,if_true,Int.ediv_one];split <;> lia
theorem zq{v:Value}{o:Option Int}{Q:Option Int->aK->Prop}(p:IsPart v o)(h:Q o s):wpAny (model prog w) A (Builtin.Slice.slicePartIndex v) Q E s:=by
 cases p with
 | none=>exact slicePart_none h
 | int i t=>exact slicePart_int h
theorem wJ{sl:Addr}{vl vu:Value}{lo hi:Option Int}{n:Nat}{Q:Int×Int×Nat->aK->Prop}(hs:s.heap.IsSliceOf sl vl vu .none)(pl:IsPart vl lo)(pu:IsPart vu hi)
  (h:Q (((j8 n 0 lo:Nat):Int),1,j8 n n hi - j8 n 0 lo) s):wpAny (model prog w) A (yO (.ref sl) (pure (n:Int))) Q E s:=by
 obtain⟨os,VD,VS,WW⟩:=id hs;unfold yO Builtin.Slice.sliceFields;refine ba (ba (wpAny_field VD WW (x:=vl) rfl (ba (wpAny_field VD WW (x:=vu) rfl (ba (wpAny_field VD WW (x:=.none) rfl (cq ?_)))))));refine ba (slicePart_none ?_);show wpAny _ _ (if ((1:Int) == 0)=true then _ else _) _ _ s;rw [if_neg (by decide)];refine ba (zq pl (ba (zq pu (ba (cq ?_)))));show wpAny _ _ (match nY lo hi 1 (n:Int) with | (lo,hi)=>pure (lo,(1:Int),jO lo hi 1)) _ _ s;rw [IX lo hi n];show wpAny _ _ (pure (((j8 n 0 lo:Nat):Int),(1:Int),jO ((j8 n 0 lo:Nat):Int) ((j8 n n hi:Nat):Int) 1)) _ _ s;rw [HS];exact cq h
theorem Nd(xs:Array Value)(i k:Nat):((gK k).filterMap fun (m:Nat)=>xs[((i:Int)+(m:Int) * 1).toNat]?).toArray=((xs.toList.drop i).take k).toArray:=by
 have e:(fun (m:Nat)=>xs[((i:Int)+(m:Int) * 1).toNat]?)=fun m=>xs[i+m]?:=by
  funext m;have:((i:Int)+(m:Int) * 1).toNat=i+m:=by lia
  rw [this]
 rw [e];have:=pick_run xs i k;rw [List.filterMap_map] at this;have e2:((fun x=>xs[x]?)∘fun x=>i+x)=fun m=>xs[i+m]?:=rfl;rw [e2] at this;rw [this]
theorem vt{t sl:Addr}{items:Array Value}{vl vu:Value}{lo hi:Option Int}{Q:Value->aK->Prop}(ht:IsTup s.heap t items)(hs:s.heap.IsSliceOf sl vl vu .none)(pl:IsPart vl lo)(pu:IsPart vu hi)
  (hw:¬ (j8 items.size 0 lo=0/\j8 items.size items.size hi=items.size))
  (h:Q (.ref s.heap.objs.size) { s with heap:=s.heap.push { cls:=.type "tuple",data:=.seq ((items.toList.drop (j8 items.size 0 lo)).take (j8 items.size items.size hi - j8 items.size 0 lo)).toArray } })
  (hsz:items.size<=bG):wpAny (model prog w) A (getItem (.ref t) (.ref sl)) Q E s:=by
 have J7:sizeOk (.seq ((items.toList.drop (j8 items.size 0 lo)).take (j8 items.size items.size hi - j8 items.size 0 lo)).toArray):=by
  show ((items.toList.drop (j8 items.size 0 lo)).take (j8 items.size items.size hi - j8 items.size 0 lo)).toArray.size<=bG;rw [bc];exact dI (dI (List.length_take_le' _ _) (by rw [eI,yj]; exact Nat.sub_le _ _)) hsz
 have hj:j8 items.size items.size hi<=items.size:=RS _ _ (bp _) hi;obtain⟨os,VD,VS,WW⟩:=id hs;have hTs:s.TypeIs (.ref sl) "slice":=⟨os,VD,VS⟩;unfold getItem
 try with_reducible refine ng ?_
 first | refine ba (cq ?_) | skip
 refine ba (wpAny_sequenceKey ht.typeIs (by decide) ?_);refine ba (wpAny_callSpecial?_slot (name:=Str.ofString "__getitem__") ht.typeIs wm
  (wpAny_call_entry wm ht.typeIs entry_tuple_getitem ?_ (args_tuple_getitem _ _)))
 show wpAny _ _ (Builtin.Tuple.tupleItemsOf (.ref t) >>= _) _ _ s;refine ba (tupleItemsOf_ ht ?_);refine ba (wpAny_typeOf hTs ?_);rw [if_pos (by decide)];refine ba (wJ hs pl pu ?_);have SU:¬ ((((j8 items.size 0 lo:Nat):Int) == 0&&(1:Int) == 1&&(j8 items.size items.size hi - j8 items.size 0 lo) == items.size)=true):=by
  intro q;rw [bj,bj] at q;have q1:((j8 items.size 0 lo:Nat):Int)=0:=eq_of_beq q.1.1;have q2:j8 items.size items.size hi - j8 items.size 0 lo=items.size:=eq_of_beq q.2;exact hw ⟨by lia,by lia⟩
 show wpAny _ _ (if (((j8 items.size 0 lo:Nat):Int) == 0&&(1:Int) == 1&&(j8 items.size items.size hi - j8 items.size 0 lo) == items.size)=true then _ else _) _ _ s;rw [if_neg SU,Nd]
 first
  | exact ba (m:=j4 _) (k9 (cq ⟨_,rfl,cq h⟩) J7)
  | exact ba (m:=j4 _) (k9 (ba (cq (cq ⟨_,rfl,cq h⟩))) J7)
  | exact ba (ba (m:=j4 _) (k9 (cq (cq ⟨_,rfl,cq h⟩)) J7))
  | exact ba (ba (m:=j4 _) (k9 (cq ⟨_,rfl,cq h⟩) J7))
end
end HT
namespace L2
open PySem PySem.Spec PyProof.Rows
noncomputable abbrev TO:=St->Hp->(Option Int->Hp->Prop)->Prop
theorem intsAre_of{ns:List Int}:∀ {us:List Value},Vals (ns.map V.int) us->lB us ns:=by
 induction ns with
 | nil=>intro us r; rw [aT] at r; cases r; exact .nil
 | cons n ns ih =>
  intro us r;rw [aC] at r;cases r with
  | cons r1 r2 =>
   obtain⟨t,e⟩:=r1;subst e;exact .cons n t (ih r2)
section
variable {X:Cx} {e:Expr} {te:TE} {lo hi:Option Expr} {tl th:TO} {pos p2:Pos}
noncomputable def SlR(X:Cx)(r:V->Option Int->Option Int->Hp->VK->Prop):Prop :=
 ∀ (pins:List (Addr×Obj)) (s:aK) (σ:St) (H:Hp) (x:V) (v vl vu:Value) (lo hi:Option Int) (sl:Addr) (Q:VK),Inv X pins σ H s->RelV x v->s.heap.IsSliceOf sl vl vu .none->IsPart vl lo->IsPart vu hi->r x lo hi H Q ->
  ∃ T id,typeLookup (.type T) "__getitem__" = pure (some (.builtin id))/\s.TypeIs v T/\wpAny (model X.prog X.w) X.A (getItem v (.ref sl)) (EP X pins σ Q) X.xe s
noncomputable def GH(xs:List V)(lo hi:Option Int):List V:=(xs.drop (HT.j8 xs.length 0 lo)).take (HT.j8 xs.length xs.length hi - HT.j8 xs.length 0 lo)
theorem x8(xs:List V)(lo hi:Option Int):(GH xs lo hi).length<=xs.length:=by
 unfold GH;rw [ff,eI];lia
noncomputable def X5(K:ay):V->Option Int->Option Int->Hp->VK->Prop:=fun x lo hi H Q=>∃ a xs,x=.ref a/\Ba K H a xs /\
 ¬ (HT.j8 xs.length 0 lo=0/\HT.j8 xs.length xs.length hi=xs.length)/\∀ p,H p=none->Q (.ref p) (upd H p (.tup (GH xs lo hi)))
theorem RQ:SlR X (X5 X.K):=by
 intro pins s σ H x v vl vu lo hi sl Q I rx hs pl pu h;obtain⟨a,xs,rfl,hx,hw,q⟩:=h;cases rx;obtain⟨cy,r,ht,hz⟩:=I.tuple hx;have hlen:cy.toArray.size=xs.length:=by rw [bc]; exact r.length.symm
 refine⟨"tuple",_,PyProof.Rows.slot_tuple_getitem.lookup,ht.typeIs,?_⟩;refine HT.vt ht hs pl pu (by rw [hlen]; exact hw) ?_ (by rw [hlen]; exact hz);rw [hlen];refine⟨.ref s.heap.objs.size,_,I.laid (t':=s.toks) (o:=.tup (GH xs lo hi)) (fun b ob q=>aY _ q) (bp _) ?_,rfl,q _ (I.eL.fresh (bp _))⟩;exact⟨dI (x8 xs lo hi) hz,_,(r.drop (HT.j8 xs.length 0 lo)).take (HT.j8 xs.length xs.length hi - HT.j8 xs.length 0 lo),IsTup.new _ _⟩
noncomputable def X7(K:ay):R2:=fun x y H Q=>∃ a b ns ms,x=.ref a/\y=.ref b/\Ba K H a (ns.map V.int)/\Ba K H b (ms.map V.int)/\Q (.bl (HT.lexLt ns ms)) H
theorem R7(hu:X.A.units < cLine):Mb X (gN .Lt) (X7 X.K):=by
 intro pins s σ H x y v u Q I rx ry h;obtain⟨a,b,ns,ms,rfl,rfl,ha,hb,q⟩:=h;cases rx;cases ry;obtain⟨cy,r1,p1,_⟩:=I.tuple ha;obtain⟨tD,r2,p2,_⟩:=I.tuple hb;have i1:lB cy.toArray.toList ns:=intsAre_of r1;have i2:lB tD.toArray.toList ms:=intsAre_of r2;exact HT.zZ p1 p2 i1 i2 hu ⟨.bl (HT.lexLt ns ms),H,I,rfl,q⟩
noncomputable def U1(K:ay):R2:=fun x y H Q=>∃ a b xs ys,x=.ref a/\y=.ref b/\Ba K H a xs/\Ba K H b ys/\xs≠[]/\xs.length+ys.length<=bG /\
 (ys=[]->Q (.ref a) H)/\(ys≠[]->∀ p,H p=none->Q (.ref p) (upd H p (.tup (xs++ys))))
theorem Vals.DR{xs:List V}{us:List Value}(r:Vals xs us):us=[]↔xs=[]:=by
 cases r with
 | nil=>simp
 | cons _ _=>simp
theorem P5:Mb X (lh .Add) (U1 X.K):=by
 intro pins s σ H x y v u Q I rx ry h;obtain⟨a,b,xs,ys,rfl,rfl,ha,hb,hx,hz,q1,q2⟩:=h;cases rx;cases ry;obtain⟨cy,r1,p1,_⟩:=I.tuple ha;obtain⟨tD,r2,p2,_⟩:=I.tuple hb;refine HT.QE p1 p2 (fun z=>hx (r1.DR.mp z)) (fun z=>⟨.ref a,H,I,rfl,q1 (r2.DR.mp z)⟩) (fun z=>?_) (by rw [<-r1.length,<-r2.length]; exact hz);refine⟨.ref s.heap.objs.size,_,I.laid (t':=s.toks) (o:=.tup (xs++ys)) (fun b ob q=>aY _ q) (bp _) ?_,rfl,q2 (fun w=>z (r2.DR.mpr w)) _ (I.eL.fresh (bp _))⟩;exact⟨by rw [aJ]; exact hz,_,r1.append r2,IsTup.new _ _⟩
end
noncomputable def Lm(n:Nat)(i:Int):Option Nat:=if 0<=i then (if i < n then some i.toNat else none) else if -(n:Int)<=i then some (i+n).toNat else none
noncomputable def nT{α:Type}(xs:List α)(i:Int):Option α:=(Lm xs.length i).bind fun j=>xs[j]?
theorem JY{n:Nat}{i:Int}{j:Nat}(h:Lm n i=some j):seqIndex? i n=some j/\j < n/\-(n:Int)<=i/\i < n:=by
 unfold Lm at h;by_cases h0:0<=i
 ·rw [if_pos h0] at h;by_cases h1:i < n
  ·rw [if_pos h1] at h;have e:i.toNat=j:=cj h;exact⟨by rw [seqIndex_of h0 h1,e],by lia,by lia,h1⟩
  ·rw [if_neg h1] at h; cases h
 ·rw [if_neg h0] at h;by_cases h1:-(n:Int)<=i
  ·rw [if_pos h1] at h;have e:(i+n).toNat=j:=cj h;exact⟨by rw [seqIndex_neg (by lia) h1,e],by lia,h1,by lia⟩
  ·rw [if_neg h1] at h; cases h
theorem Kr{α:Type}{xs:List α}{i:Int}{v:α}(h:nT xs i=some v):∃ j,seqIndex? i xs.length=some j/\xs[j]?=some v/\j < xs.length/\-(xs.length:Int)<=i/\i < xs.length:=by
 unfold nT at h;cases e:Lm xs.length i with
 | none=>rw [e] at h; cases h
 | some j =>
  rw [e] at h;obtain⟨h1,h2,h3,h4⟩:=JY e;exact⟨j,h1,h,h2,h3,h4⟩
noncomputable def QK(b:Expr):Prop:=∀ o i,subscripted b false o i=operate [o,i] (getItem o i)
noncomputable def IxR(X:Cx)(r:R2):Prop :=
 ∀ (value slice:Expr) (pins:List (Addr×Obj)) (s:aK) (σ:St) (H:Hp) (x y:V) (v u:Value) (Q:VK),Inv X pins σ H s->RelV x v->RelV y u->r x y H Q ->
  subscripted slice false v u=operate [v,u] (getItem v u)->wpAny (model X.prog X.w) X.A (subscriptTail value slice v u) (EP X pins σ Q) X.xe s
noncomputable def MtR(X:Cx)(id:String)(r:V->List V->Hp->VK->Prop):Prop :=
 ∀ (pins:List (Addr×Obj)) (s:aK) (σ:St) (H:Hp) (x:V) (xs:List V) (v:Value) (us:List Value) (Q:VK),Inv X pins σ H s->RelV x v->Vals xs us->r x xs H Q ->
  wpAny (model X.prog X.w) X.A (call (.builtin id) (v :: us)) (EP X pins σ Q) X.xe s
section
variable {X:Cx} {a b:Expr} {ta tb:TE} {pos:Pos}
noncomputable def X9(K:ay):R2:=fun x y H Q=>∃ p xs i v,x=.ref p/\y=.int i/\sZ K H p xs/\nT xs i=some v/\Q v H
noncomputable def X8(K:ay):R2:=fun x y H Q=>∃ p xs i v,x=.ref p/\y=.int i/\Ba K H p xs/\nT xs i=some v/\Q v H
theorem JX:IxR X (X9 X.K):=by
 intro value slice pins s σ H x y v u Q I rx ry h hs;obtain⟨p,xs,i,z,rfl,rfl,hq,he,q⟩:=h;cases rx;obtain⟨t,rfl⟩:=ry;obtain⟨cy,r,pl,hz⟩:=I.list hq;obtain⟨j,h1,h2,h3,h4,h5⟩:=Kr he;obtain⟨w,ew,sJ⟩:=r.get h2;have hl:=r.length;have hn:=Aj;have fin:EP X pins σ Q w s:=⟨z,H,I,sJ,q⟩;by_cases h0:0<=i
 ·have hj:i.toNat=j:=by
   rw [seqIndex_of h0 h5] at h1;exact cj h1
  exact item_listR pl.isList h0 (by lia) (by rw [hj]; simpa using ew) fin hs
 ·have hj:(i+(cy.toArray.size:Int)).toNat=j:=by
   rw [seqIndex_neg (by lia) h4] at h1;rw [bc,<-hl];exact cj h1
  exact subscriptTail_builtinR (x:=w) pl.isList.typeIs slot_list_getitem.lookup
   (wpAny_getItem_list_neg (Q:=fun r s'=>r=w/\EP X pins σ Q r s') pl.isList (by lia) (by rw [bc] <;> lia) (by lia) (by rw [hj]; simpa using ew) ⟨rfl,fin⟩) hs
theorem SA:IxR X (X8 X.K):=by
 intro value slice pins s σ H x y v u Q I rx ry h hs;obtain⟨p,xs,i,z,rfl,rfl,hq,he,q⟩:=h;cases rx;obtain⟨t,rfl⟩:=ry;obtain⟨cy,r,pl,hz⟩:=I.tuple hq;obtain⟨j,h1,h2,h3,h4,h5⟩:=Kr he;obtain⟨w,ew,sJ⟩:=r.get h2;have hl:=r.length;have hn:=Aj;have fin:EP X pins σ Q w s:=⟨z,H,I,sJ,q⟩;exact subscriptTail_builtinR (x:=w) pl.typeIs slot_tuple_getitem.lookup
  (getItem_tuple (j:=j) (Q:=fun r s'=>r=w/\EP X pins σ Q r s') pl (by lia) (by lia) (by rw [bc,<-hl]; exact h1) (by simpa using ew) ⟨rfl,fin⟩) hs
theorem Ie (cy:List Value) (n j:Nat) (u:Value):xD (·.setIfInBounds j u) { cls:=.type "list",data:=.seq cy.toArray n } = { cls:=.type "list",data:=.seq (cy.set j u).toArray n }:=by
 simp [xD]
theorem Inv.lst{pins:List (Addr×Obj)}{σ:St}{H:Hp}{s:aK}{p:Addr}{xs:List V}(I:Inv X pins σ H s)(h:H p=some (.lst xs)) :
  ∃ (cy:List Value) (n:Nat),Vals xs cy/\s.heap.get? p=some { cls:=.type "list",data:=.seq cy.toArray n }/\xs.length<=bG:=by
 obtain⟨z,cy,n,r,e⟩:=I.eL p _ h;exact⟨cy,n,r,e,z⟩
theorem Inv.So{pins:List (Addr×Obj)}{σ:St}{H:Hp}{s:aK}{p:Addr}{xs ys:List V}{cy its':List Value}{n n':Nat}{f:Obj->Obj}(I:Inv X pins σ H s)(h:H p=some (.lst xs))
  (ho:s.heap.get? p=some { cls:=.type "list",data:=.seq cy.toArray n }) (hf:f { cls:=.type "list",data:=.seq cy.toArray n } = { cls:=.type "list",data:=.seq its'.toArray n' }) (r:Vals ys its') (hz:ys.length<=bG) (t:Nat) :
  Inv X pins σ (upd H p (.lst ys)) { s with heap:=s.heap.update p f,toks:=t }:=by
 have e:(s.heap.update p f).get? p=some { cls:=.type "list",data:=.seq its'.toArray n' }:=by
  rw [wo f ho (by rw [hf] <;> rfl),hf]
 refine I.write (x:=p) (e:=p) (by rw [h]; trivial) (.inl rfl) (fun b u hb q=>(ef _ _ (dR hb)).trans q) ⟨_,e⟩ ?_;exact⟨hz,its',n',r,e⟩
noncomputable def UZ:V->V->V->Hp->(Hp->Prop)->Prop:=fun o i v H Q=>∃ p xs k j,o=.ref p/\i=.int k/\H p=some (.lst xs)/\Lm xs.length k=some j/\Q (upd H p (.lst (xs.set j v)))
theorem set_list:aal X UZ:=by
 intro pins s σ H o i v ov iv u Q I ro ri rv h;obtain⟨p,xs,k,j,rfl,rfl,hp,hj,q⟩:=h;cases ro;obtain⟨t,rfl⟩:=ri;obtain⟨cy,n,r,ho,hz⟩:=I.lst hp;obtain⟨h1,h2,h3,h4⟩:=JY hj;have hl:=r.length;have hn:=Aj;have I':Inv X pins σ (upd H p (.lst (xs.set j v))) { s with heap:=s.heap.update p (xD (·.setIfInBounds j u)) } :=
  I.So hp ho (Ie cy n j u) (r.set rv j) (by rw [j3]; exact hz) s.toks
 by_cases h0:0<=k
 ·have hk:k.toNat=j:=by
   rw [seqIndex_of h0 h4] at h1;exact cj h1
  exact PySem.W.ki_setAt ho h0 (by lia) (by rw [bc,<-hl]; exact h4) (by rw [hk]; exact⟨_,I',q⟩)
 ·have hk:(k+(cy.toArray.size:Int)).toNat=j:=by
   rw [seqIndex_neg (by lia) h3] at h1;rw [bc,<-hl];exact cj h1
  exact PySem.W.ki_setBack ho (by lia) (by rw [bc,<-hl]; exact h3) (by lia) (by rw [hk]; exact⟨_,I',q⟩)
theorem Dm(lo hi:Option Int)(n:Nat):(rj lo hi none n).1=((HT.j8 n 0 lo:Nat):Int)/\(rj lo hi none n).2.1=((HT.j8 n n hi:Nat):Int)/\(rj lo hi none n).2.2=1:=by
 refine⟨?_,?_,rfl⟩
 ·cases lo with
  | none=>simp [rj,HT.j8]
  | some i =>
   simp only [rj,HT.j8,Option.getD_none,show (1:Int) > 0 by decide,if_true];by_cases h:i < 0
   ·simp only [h,if_true] <;> lia
   ·simp only [h,if_false] <;> lia
 ·cases hi with
  | none=>simp [rj,HT.j8]
  | some i =>
   simp only [rj,HT.j8,Option.getD_none,show (1:Int) > 0 by decide,if_true];by_cases h:i < 0
   ·simp only [h,if_true] <;> lia
   ·simp only [h,if_false] <;> lia
theorem Bu(cy:List Value)(lo hi:Option Int):slicePick cy.toArray lo hi none=((cy.drop (HT.j8 cy.length 0 lo)).take (HT.j8 cy.length cy.length hi - HT.j8 cy.length 0 lo)).toArray:=by
 obtain⟨h1,h2,h3⟩:=Dm lo hi cy.toArray.size;unfold slicePick;rw [h1,h2,h3];simp only [sliceRange_one,pick_run,bc] <;> rfl
noncomputable def X6(K:ay):V->Option Int->Option Int->Hp->VK->Prop:=fun x lo hi H Q=>∃ a xs,x=.ref a/\sZ K H a xs/\∀ p,H p=none->Q (.ref p) (upd H p (.lst (GH xs lo hi)))
theorem JA:SlR X (X6 X.K):=by
 intro pins s σ H x v vl vu lo hi sl Q I rx hs pl pu h;obtain⟨a,xs,rfl,hx,q⟩:=h;cases rx;obtain⟨cy,r,ht,hz⟩:=I.list hx;have hlen:=r.length;refine⟨"list",_,slot_list_getitem.lookup,ht.isList.typeIs,?_⟩;refine wpAny_getItem_list_slice ht.isList hs pl pu .none (by simp) ?_ (by rw [bc] <;> lia);rw [Bu,<-hlen];refine⟨.ref s.heap.objs.size,_,I.laid (t':=s.toks) (o:=.lst (GH xs lo hi)) (fun b ob q=>aY _ q) (bp _) ?_,rfl,q _ (I.eL.fresh (bp _))⟩;exact⟨dI (x8 xs lo hi) hz,_,0,(r.drop (HT.j8 xs.length 0 lo)).take (HT.j8 xs.length xs.length hi - HT.j8 xs.length 0 lo),cL _ rfl⟩
theorem EC:Rw X (.type "list") (fun xs H Q=>∃ p ys,xs=[.ref p]/\(sZ X.K H p ys\/Ba X.K H p ys)/\∀ l,H l=none->Q (.ref l) (upd H l (.lst ys))):=by
 intro pins s σ H xs us Q I r h;obtain⟨p,ys,rfl,hq,q⟩:=h;obtain⟨u,rfl,rx⟩:=vals1 r;cases rx;have fin:∀ (cy:List Value),Vals ys cy->ys.length<=bG->∀ (h':Heap) (c':Nat),(∀ b o',s.heap.get? b=some o'->h'.get? b=some o') ->
   h'.get? s.heap.objs.size=some { cls:=.type "list",dict:=none,data:=.seq cy.toArray c',slots:=#[] }->EP X pins σ Q (.ref s.heap.objs.size) { s with heap:=h' }:=fun cy r' hz h' c' kp e =>
  ⟨.ref s.heap.objs.size,_,I.laid (t':=s.toks) kp (bp _) (show gE X.prog X.w _ h' _ (.lst ys) from⟨hz,cy,c',r',e⟩),rfl,q _ (I.eL.fresh (bp _))⟩
 rcases hq with hq | hq
 ·obtain⟨cy,r',pl,hz⟩:=I.list hq;have hlen:=r'.length;obtain⟨o,ho,hc,n,hd⟩:=pl.isList;exact call_list_seq p (.inl rfl) ho hc hd (fun h' c' kp e=>fin cy r' hz h' c' kp e) (by simp only [bc] <;> lia)
 ·obtain⟨cy,r',pl,hz⟩:=I.tuple hq;have hlen:=r'.length;obtain⟨o,ho,hc,n,hd⟩:=pl;exact call_list_seq p (.inr rfl) ho hc hd (fun h' c' kp e=>fin cy r' hz h' c' kp e) (by simp only [bc] <;> lia)
noncomputable def tyV(K:ay)(T:String)(x:V)(H:Hp):Prop:=match x with
 | .str _=>T = "str"
 | .int _=>T = "int"
 | .ref p=>(T = "list"/\∃ xs,sZ K H p xs)\/(T = "tuple"/\∃ o,K.lookup p=some o/\o.cls=.type "tuple"/\o.dict=none) \/
   (T = "dict"/\((∃ bC,H p=some (.dK bC))\/∃ bC,H p=some (.dT bC)))\/(T = "set"/\∃ S n,H p=some (.set S n))
 | _=>False
theorem Di{pins:List (Addr×Obj)}{σ:St}{H:Hp}{s:aK}{T:String}{x:V}{v:Value}(I:Inv X pins σ H s)(r:RelV x v)(ty:tyV X.K T x H) :
  s.TypeIs v T/\∀ a,v=.ref a->∃ ob,s.heap.get? a=some ob/\ob.dict=none:=by
 cases x with
 | str z =>
  obtain⟨t,rfl⟩:=r;cases (show T = "str" from ty);exact⟨typeIs_str s z t,fun _ e=>nomatch e⟩
 | int i =>
  obtain⟨t,rfl⟩:=r;cases (show T = "int" from ty);exact⟨typeIs_int s i t,fun _ e=>nomatch e⟩
 | ref p =>
  cases r;rcases ty with ⟨rfl,xs,hq⟩ | ⟨rfl,o,hk,hc,hd⟩ | ⟨rfl,hk⟩ | ⟨rfl,S,n,hk⟩
  ·obtain⟨cy,_,pl,_⟩:=I.list hq;refine⟨pl.isList.typeIs,fun a e=>?_⟩;cases e;obtain⟨o,n,e,c,hd,_⟩:=pl;exact⟨o,e,hd⟩
  ·refine⟨⟨o,I.wy p o hk,hc⟩,fun a e=>?_⟩;cases e;exact⟨o,I.wy _ o hk,hd⟩
  ·have z:∃ o,s.heap.get? p=some o/\o.ExactDict:=by
    rcases hk with ⟨bC,hk⟩ | ⟨bC,hk⟩
    ·obtain⟨_,_,_,_,o,_,_,e,ex,_⟩:=I.eL p _ hk;exact⟨o,e,ex⟩
    ·obtain⟨_,_,_,_,o,_,_,e,ex,_⟩:=I.eL p _ hk;exact⟨o,e,ex⟩
   obtain⟨o,e,ex⟩:=z;refine⟨⟨o,e,ex.1⟩,fun a e2=>?_⟩;cases e2;exact⟨o,e,ex.2.1⟩
  ·obtain⟨o,_,_,_,e,ex,_⟩:=I.eL p _ hk;refine⟨⟨o,e,ex.1⟩,fun a e2=>?_⟩;cases e2;exact⟨o,e,ex.2.1⟩
 | _=>exact bP ty
variable {o e:Expr} {es:List Expr} {to:TE} {t:TA} {name:Str} {apos qX:Pos} {T id:String} {r:V->List V->Hp->VK->Prop}
/- xs.append(e),list.index on a Vq tuple .. are MtR facts of 06m -/
end
noncomputable def MtM(X:Cx)(id:String)(r:V->List V->Hp->VK->Prop):Prop :=
 ∀ (pins:List (Addr×Obj)) (s:aK) (σ:St) (H:Hp) (x:V) (xs:List V) (v:Value) (us:List Value) (Q:VK),Inv X pins σ H s->RelV x v->Vals xs us->r x xs H Q ->
  wpAny (model X.prog X.w) X.A (call (.builtin id) (v :: us)) (EP X pins σ Q) X.xe s
theorem Vals.one:∀ {x:V} {us:List Value},Vals [x] us->∃ u,us=[u]/\RelV x u:=by
 intro x us h;cases h with
 | cons r t=>cases t; exact⟨_,rfl,r⟩
theorem Vals.two:∀ {x y:V} {us:List Value},Vals [x,y] us->∃ u v,us=[u,v]/\RelV x u/\RelV y v:=by
 intro x y us h;cases h with
 | cons r t =>
  obtain⟨v,rfl,q⟩:=Vals.one t;exact⟨_,_,rfl,r,q⟩
section
variable {X:Cx} {pins:List (Addr×Obj)} {σ:St} {H:Hp} {s:aK} {l b:Addr} {xs ys zs:List V}
theorem Inv.Sr{cy its':List Value}{n:Nat}{f:Array Value->Array Value}{t':Nat}(I:Inv X pins σ H s)(hH:H l=some (.lst xs))
  (e:s.heap.get? l=some { cls:=.type "list",data:=.seq cy.toArray n }) (hf:f cy.toArray=its'.toArray) (hv:Vals ys its') (hz:ys.length<=bG) :
  Inv X pins σ (upd H l (.lst ys)) { s with heap:=s.heap.update l (xD f),toks:=t' }:=by
 have q:=PySem.IsL.update e f;rw [hf] at q;refine I.write (x:=l) (e:=l) (by rw [hH]; exact trivial) (.inl rfl) (fun b' u hb hu=>(ef s.heap (xD f) (dR hb)).trans hu) ⟨_,q⟩ ?_;exact⟨hz,its',_,hv,q⟩
theorem Inv.YV{cy:List Value}{t':Nat}(I:Inv X pins σ H s)(hv:Vals ys cy)(hz:ys.length<=bG) :
  Inv X pins σ (upd H s.heap.objs.size (.lst ys)) { s with heap:=s.heap.push { cls:=.type "list",data:=.seq cy.toArray },toks:=t' } :=
 I.laid (fun _ _ q=>aY _ q) (bp _) ⟨hz,cy,0,hv,cL _ rfl⟩
theorem Inv.Sq (I:Inv X pins σ H s) (hH:H l=some (.lst xs)):xs.length<=bG/\∃ (cy:List Value) (n:Nat),Vals xs cy/\xs.length=cy.length/\s.heap.get? l=some { cls:=.type "list",data:=.seq cy.toArray n }:=by
 obtain⟨z,cy,n,r,e⟩:=I.eL l _ hH;exact⟨z,cy,n,r,r.length,e⟩
theorem Np{n:Nat}(h:n<=bG):kh n=false:=by
 unfold kh;exact decide_eq_false (by lia)
end
section
variable {X:Cx}
noncomputable def PV:V->List V->Hp->VK->Prop:=fun x vs H Q=>∃ l xs y,x=.ref l/\vs=[y]/\H l=some (.lst xs)/\xs.length < bG/\Q .j9 (upd H l (.lst (xs++[y])))
theorem CD:MtM X "list.append" PV:=by
 intro pins s σ H x vs v us Q I rx rv h;obtain⟨l,xs,y,rfl,rfl,hH,hz,q⟩:=h;cases rx;obtain⟨u,rfl,ru⟩:=rv.one;obtain⟨z,cy,n,r,hl,e⟩:=I.Sq hH;refine call_meets F.slot_list_append ⟨_,e,rfl⟩ F.entry_list_append (F.args_list_append_2 _ _) (PySem.list_append l cy.toArray n u (by rw [bc]; lia)) ⟨e,?_⟩;refine⟨.j9,_,I.Sr (its':=cy++[u]) hH e (by simp) (r.append (.cons ru .nil)) ?_,rfl,q⟩;rw [aJ,da];lia
end
section
variable {κ:Type} [DecidableEq κ]
noncomputable def mO(bC:List (κ×V))(k:κ):Option V:=(bC.find? fun kv=>decide (kv.1=k)).map (·.2)
noncomputable def putK(bC:List (κ×V))(k:κ)(v:V):List (κ×V) :=
 if (bC.any fun kv=>decide (kv.1=k))=true then bC.map (fun kv=>if kv.1=k then (kv.1,v) else kv) else bC++[(k,v)]
theorem rq{p:κ×V}{r:List (κ×V)}{k:κ}(e:p.1=k):mO (p :: r) k=some p.2:=by simp [mO,fc,e]
theorem rz{p:κ×V}{r:List (κ×V)}{k:κ}(e:¬ p.1=k):mO (p :: r) k=mO r k:=by simp [mO,fc,e]
theorem E9(k:κ):∀ bC:List (κ×V),(bC.any fun kv=>decide (kv.1=k))=(mO bC k).isSome
 | []=>rfl
 | p :: r=>by
  rw [pe];by_cases e:p.1=k
  ·simp only [rq e,decide_eq_true e,Bool.true_or,Option.isSome_some]
  ·rw [rz e,decide_eq_false e,L0]; exact E9 k r
theorem xV(bC:List (κ×V))(k:κ)(v:V):(putK bC k v).length<=bC.length+1:=by
 unfold putK;split
 ·rw [av]; lia
 ·rw [aJ,aq,az]; lia
theorem qY.pJ{o:Option V}{u:Option Value}(r:qY o u):o.isSome=u.isSome:=by
 cases o with
 | none=>cases u with
  | none=>rfl
  | some _=>exact(show False from r).elim
 | some _=>cases u with
  | none=>exact(show False from r).elim
  | some _=>rfl
theorem qY.getD{o:Option V}{u:Option Value}{d:V}{d':Value}(r:qY o u)(rd:RelV d d'):RelV (o.getD d) (u.getD d'):=by
 cases o with
 | none=>cases u with
  | none=>exact rd
  | some _=>exact(show False from r).elim
 | some _=>cases u with
  | none=>exact(show False from r).elim
  | some _=>exact r
theorem KV.val{bC:List (κ×V)}{vs:List (κ×Value)}(r:KV bC vs)(k:κ):qY (mO bC k) (Mf vs k):=by
 unfold KV at r;induction r with
 | nil=>exact jt
 | @cons p q ps qs h t ih =>
  obtain⟨h1,h2⟩:=h;by_cases e:p.1=k
  ·have e':q.1=k:=h1.symm.trans e;have b:Mf (q :: qs) k=some q.2:=by simp [Mf,fc,e']
   rw [rq e,b]; exact h2
  ·have e':¬ q.1=k:=fun z=>e (h1.trans z);have b:Mf (q :: qs) k=Mf qs k:=by simp [Mf,fc,e']
   rw [rz e,b]; exact ih
theorem KV.any{bC:List (κ×V)}{vs:List (κ×Value)}(r:KV bC vs)(k:κ):(bC.any fun kv=>decide (kv.1=k))=vs.any fun kv=>decide (kv.1=k):=by
 unfold KV at r;induction r with
 | nil=>rfl
 | cons h t ih=>rw [pe,pe,ih,h.1]
theorem KV.RV{bC:List (κ×V)}{vs:List (κ×Value)}(r:KV bC vs)(k:κ){y:V}{u:Value}(ry:RelV y u) :
  KV (bC.map fun kv=>if kv.1=k then (kv.1,y) else kv) (vs.map fun kv=>if kv.1=k then (kv.1,u) else kv):=by
 unfold KV at r ⊢;induction r with
 | nil=>exact .nil
 | @cons p q ps qs h t ih =>
  rw [aC,aC];refine .cons ?_ ih;obtain⟨h1,h2⟩:=h;by_cases e:p.1=k
  ·rw [if_pos e,if_pos (h1.symm.trans e)]; exact⟨h1,ry⟩
  ·rw [if_neg e,if_neg (fun z=>e (h1.trans z))]; exact⟨h1,h2⟩
theorem KV.put{bC:List (κ×V)}{vs:List (κ×Value)}(r:KV bC vs)(k:κ){y:V}{u:Value}(ry:RelV y u):KV (putK bC k y) (stored vs k u):=by
 unfold putK stored;rw [r.any k];by_cases e:(vs.any fun kv=>decide (kv.1=k))=true
 ·rw [if_pos e,if_pos e]; exact r.RV k ry
 ·rw [if_neg e,if_neg e]; exact Paired.snoc r ⟨rfl,ry⟩
theorem KV.length{bC:List (κ×V)}{vs:List (κ×Value)}(r:KV bC vs):bC.length=vs.length:=yL r
end
theorem CJ{P:bU}{w:World}{k:Key}{u:Value}(r:RelV (kV k) u):(gG P w).is k u=true:=by
 cases k with
 | inl i=>obtain⟨t,e⟩:=(show ∃ t,u=E1 i t from r); subst e; exact FK P w i t
 | inr x=>obtain⟨t,e⟩:=(show ∃ t,u=Mj x t from r); subst e; exact FJ P w x t
theorem CK{P:bU}{w:World}:∀ {ks:List Key} {us:List Value},Vals (ks.map kV) us->ItemsAre (gG P w) ks us
 | [],_,r=>by rw [aT] at r; cases r; exact .nil
 | k :: ks,_,r=>by
  rw [aC] at r;cases r with
  | cons h t=>exact .cons (CJ h) (CK t)
noncomputable abbrev KT(H:Hp):List (List Key×V)->List (List Key×Addr×Value)->Prop:=Paired fun p q=>p.1=q.1/\H q.2.1=some (.tup (p.1.map kV))/\RelV p.2 q.2.2
theorem KT.val{H:Hp}{bC:List (List Key×V)}{xs:List (List Key×Addr×Value)}(r:KT H bC xs)(k:List Key):qY (mO bC k) ((atKey xs k).map (·.2)):=by
 induction r with
 | nil=>exact jt
 | @cons p q ps qs h t ih =>
  obtain⟨h1,_,h2⟩:=h;by_cases e:p.1=k
  ·have e':q.1=k:=h1.symm.trans e;have b:atKey (q :: qs) k=some q.2:=by simp [atKey,fc,e']
   rw [rq e,b]; exact h2
  ·have e':¬ q.1=k:=fun z=>e (h1.trans z);have b:atKey (q :: qs) k=atKey qs k:=by simp [atKey,fc,e']
   rw [rz e,b]; exact ih
theorem KT.RV{H:Hp}{bC:List (List Key×V)}{xs:List (List Key×Addr×Value)}(r:KT H bC xs)(k:List Key){y:V}{u:Value}(ry:RelV y u) :
  KT H (bC.map fun kv=>if kv.1=k then (kv.1,y) else kv) (xs.map (putAt k u)):=by
 induction r with
 | nil=>exact .nil
 | @cons p q ps qs h t ih =>
  rw [aC,aC];refine .cons ?_ ih;obtain⟨h1,h2,h3⟩:=h;unfold putAt;by_cases e:p.1=k
  ·rw [if_pos e,if_pos (h1.symm.trans e)]; exact⟨h1,h2,ry⟩
  ·rw [if_neg e,if_neg (fun z=>e (h1.trans z))]; exact⟨h1,h2,h3⟩
theorem KT.put{H:Hp}{bC:List (List Key×V)}{xs:List (List Key×Addr×Value)}(r:KT H bC xs)(k:List Key){b:Addr}{y:V}{u:Value}(hb:H b=some (.tup (k.map kV)))(ry:RelV y u) :
  KT H (putK bC k y) (storedH xs k b u):=by
 have e:(bC.any fun kv=>decide (kv.1=k))=(atKey xs k).isSome:=by
  rw [E9,(r.val k).pJ,mH]
 unfold putK storedH;rw [e];by_cases q:(atKey xs k).isSome=true
 ·rw [if_pos q,if_pos q]; exact r.RV k ry
 ·rw [if_neg q,if_neg q]; exact Paired.snoc r ⟨rfl,hb,ry⟩
theorem KT.keeps{H H':Hp}{bC:List (List Key×V)}{xs:List (List Key×Addr×Value)}(r:KT H bC xs)(ht:∀ b ys,H b=some (.tup ys)->H' b=some (.tup ys)):KT H' bC xs :=
 Paired.Sl r fun _ _ z=>⟨z.1,ht _ _ z.2.1,z.2.2⟩
section
variable {P:bU} {w:World} {H:Hp} {h:Heap} {a:Addr}
theorem QU{u:HO}(ok:pV P w H h)(e:Rd H a u):gE P w H h a u:=e.ok ok
theorem tY{bC:List (Key×V)}(ok:pV P w H h)(e:Rd H a (.dK bC)):bC.length<=bG/\(a == lg)=false/\∃ vs,KV bC vs/\h.DictOf (gG P w) a vs :=
 show gE P w H h a (.dK bC) from QU ok e
theorem Kd{bC:List (Key×V)}(ok:pV P w H h)(e:H a=some (.dK bC)):bC.length<=bG/\(a == lg)=false/\∃ vs,KV bC vs/\h.DictOf (gG P w) a vs:=tY ok (.inl e)
theorem wZ{ks:List Key}(ok:pV P w H h)(e:H a=some (.tup (ks.map kV))):(EV (gG P w)).is h ks a:=by
 obtain⟨_,cy,r,o,h1,h2,n,h3⟩:=(show gE P w H h a (.tup (ks.map kV)) from ok a _ e);exact⟨o,cy.toArray,n,h1,h2,h3,by simpa using CK r⟩
theorem xZ{bC:List (List Key×V)}(ok:pV P w H h)(e:Rd H a (.dT bC)):bC.length<=bG/\(a == lg)=false /\
  ∃ xs,KT H bC xs/\h.DictOfH (EV (gG P w)) a xs:=by
 obtain⟨z,y,xs,r,o,es,ep,h1,h2,h3,h4,h5⟩:=(show gE P w H h a (.dT bC) from QU ok e);refine⟨z,y,xs,r,o,es,ep,h1,h2,h3,h4,fun x hx=>?_,h5⟩;have all:∀ {l:List (List Key×V)} {m:List (List Key×Addr×Value)},KT H l m->∀ x∈m,(EV (gG P w)).is h x.1 x.2.1:=by
  intro l m q;induction q with
  | nil=>intro x hx; exact nomatch hx
  | @cons p q ps qs hq t ih =>
   intro x hx;rcases List.mem_cons.mp hx with e | hx
   ·subst e;exact wZ ok (by rw [<-hq.1]; exact hq.2.1)
   ·exact ih x hx
 exact all r x hx
theorem Rh{bC:List (List Key×V)}(ok:pV P w H h)(e:H a=some (.dT bC)):bC.length<=bG/\(a == lg)=false /\
  ∃ xs,KT H bC xs/\h.DictOfH (EV (gG P w)) a xs:=xZ ok (.inl e)
end
noncomputable def yK(H:Hp)(a:Addr)(y:V)(r:Option V):Prop :=
 (∃ bC k,Rd H a (.dK bC)/\y=kV k/\r=mO bC k)\/∃ bC k b,Rd H a (.dT bC)/\y=.ref b/\H b=some (.tup (k.map kV))/\r=mO bC k
noncomputable def LR(H:Hp)(a:Addr)(y v:V)(H':Hp):Prop :=
 (∃ bC k,H a=some (.dK bC)/\y=kV k/\bC.length < bG/\H'=upd H a (.dK (putK bC k v))) \/
 ∃ bC k b,H a=some (.dT bC)/\y=.ref b/\H b=some (.tup (k.map kV))/\bC.length < bG/\H'=upd H a (.dT (putK bC k v))
theorem yK.k{H:Hp}{a:Addr}{bC:List (Key×V)}{k:Key}(e:H a=some (.dK bC)):yK H a (kV k) (mO bC k):=.inl ⟨bC,k,.inl e,rfl,rfl⟩
theorem yK.t{H:Hp}{a b:Addr}{bC:List (List Key×V)}{k:List Key}(e:H a=some (.dT bC))(eb:H b=some (.tup (k.map kV))):yK H a (.ref b) (mO bC k):=.inr ⟨bC,k,b,.inl e,rfl,eb,rfl⟩
theorem LR.k{H:Hp}{a:Addr}{bC:List (Key×V)}{k:Key}{v:V}(e:H a=some (.dK bC))(hl:bC.length < bG):LR H a (kV k) v (upd H a (.dK (putK bC k v))):=.inl ⟨bC,k,e,rfl,hl,rfl⟩
theorem LR.t{H:Hp}{a b:Addr}{bC:List (List Key×V)}{k:List Key}{v:V}(e:H a=some (.dT bC))(eb:H b=some (.tup (k.map kV)))(hl:bC.length < bG) :
  LR H a (.ref b) v (upd H a (.dT (putK bC k v))):=.inr ⟨bC,k,b,e,rfl,eb,hl,rfl⟩
section
variable {X:Cx} {pins:List (Addr×Obj)} {σ:St} {H:Hp} {s:aK} {a:Addr} {y v:V} {u r:Value} {o:Option V} {A:fJ} {E:Value->aK->Prop}
theorem Inv.big(I:Inv X pins σ H s):lg < s.heap.objs.size:=by
 have h:bz < s.heap.objs.size:=(I.mod.glob.keeps I.bk).lt;exact Nat.lt_trans (by decide) h
theorem xl{Q:Value->aK->Prop}(hu:A.units+1 < cLine)(I:Inv X pins σ H s)(g:yK H a y (some v))(ry:RelV y u)(h:∀ w' s',Inv X pins σ H s'->RelV v w'->Q w' s') :
  wpAny (model X.prog X.w) A (getItem (.ref a) u) Q E s:=by
 rcases g with ⟨bC,k,e,ey,l⟩ | ⟨bC,k,b,e,ey,eb,l⟩
 ·subst ey;obtain⟨z,hd,vs,rel,dd⟩:=tY I.eL e;obtain⟨w',hw,sJ⟩:=qY.some_of (v:=v) (o:=Mf vs k) (by rw [l]; exact rel.val k);exact wpAny_getItem_of (CJ ry) dd.mapOf hw (h w' _ (I.tok _) sJ)
 ·subst ey;cases (show u=gw b from ry);obtain⟨z,hd,xs,rel,dd⟩:=xZ I.eL e;obtain⟨w',hw,sJ⟩:=qY.some_of (v:=v) (o:=(atKey xs k).map (·.2)) (by rw [l]; exact rel.val k);obtain⟨p,hp,rf⟩:=Option.map_eq_some_iff.mp hw;refine wpAny_getItem_heap (nh hu) (wZ I.eL eb) dd hp ?_;rw [rf];exact h w' _ (I.tok _) sJ
theorem Wd{Q:Value->aK->Prop}(hu:A.units+1 < cLine)(I:Inv X pins σ H s)(g:yK H a y o)(ry:RelV y u)(h:∀ s',Inv X pins σ H s'->Q (.bool o.isSome) s') :
  wpAny (model X.prog X.w) A (gN .In u (.ref a)) Q E s:=by
 rcases g with ⟨bC,k,e,ey,l⟩ | ⟨bC,k,b,e,ey,eb,l⟩
 ·subst ey;obtain⟨z,hd,vs,rel,dd⟩:=tY I.eL e;refine wpAny_in_of (CJ ry) hd dd.mapOf ?_;rw [<-(rel.val k).pJ,<-l];exact h _ (I.tok _)
 ·subst ey;cases (show u=gw b from ry);obtain⟨z,hd,xs,rel,dd⟩:=xZ I.eL e;refine wpAny_in_heap (nh hu) (wZ I.eL eb) hd dd ?_;have q:=(rel.val k).pJ;rw [mH] at q;rw [<-q,<-l];exact h _ (I.tok _)
theorem Kh{Q:Value->aK->Prop}(hu:A.units+1 < cLine)(I:Inv X pins σ H s)(g:yK H a y o)(ry:RelV y u)(h:∀ s',Inv X pins σ H s'->Q (.bool (!o.isSome)) s') :
  wpAny (model X.prog X.w) A (gN .NotIn u (.ref a)) Q E s:=by
 rcases g with ⟨bC,k,e,ey,l⟩ | ⟨bC,k,b,e,ey,eb,l⟩
 ·subst ey;obtain⟨z,hd,vs,rel,dd⟩:=tY I.eL e;refine wpAny_notIn_of (CJ ry) hd dd.mapOf ?_;rw [<-(rel.val k).pJ,<-l];exact h _ (I.tok _)
 ·subst ey;cases (show u=gw b from ry);obtain⟨z,hd,xs,rel,dd⟩:=xZ I.eL e;refine wpAny_notIn_heap (nh hu) (wZ I.eL eb) hd dd ?_;have q:=(rel.val k).pJ;rw [mH] at q;rw [<-q,<-l];exact h _ (I.tok _)
theorem Kg{h':Heap}{t':Nat}{ob:HO}(I:Inv X pins σ H s)(mu:Wt (H a))(hs:Dg a s.heap h')(he:∃ q,h'.get? a=some q)(new:gE X.prog X.w (upd H a ob) h' a ob) :
  Inv X pins σ (upd H a ob) { s with heap:=h',toks:=t' } :=
 I.write (x:=a) (e:=a) mu (.inl rfl) (fun b q hb z=>(hs.2 b hb).trans z) he new
theorem Tq{P:bU}{w:World}{H':Hp}{h':Heap}{bC:List (Key×V)}{vs:List (Key×Value)}(z:bC.length<=bG)(hd:(a == lg)=false)(rel:KV bC vs)(dd:h'.DictOf (gG P w) a vs) :
  gE P w H' h' a (.dK bC):=⟨z,hd,vs,rel,dd⟩
theorem LA{H':Hp}{Q:Unit->aK->Prop}(hu:A.units+1 < cLine)(I:Inv X pins σ H s)(g:LR H a y v H')(ry:RelV y u)(rv:RelV v r)(h:∀ s',Inv X pins σ H' s'->Q () s') :
  wpAny (model X.prog X.w) A (setItem (.ref a) u r) Q E s:=by
 rcases g with ⟨bC,k,e,ey,l,eH⟩ | ⟨bC,k,b,e,ey,eb,l,eH⟩
 ·subst ey eH;obtain⟨z,hd,vs,rel,dd⟩:=Kd I.eL e;have hz:vs.length<=bG:=by rw [<-rel.length]; exact z
  have hl:(putK bC k v).length<=bG:=by have:=xV bC k v; lia
  refine wpAny_setItem_pairs (hsz:=hz) (CJ ry) dd fun h' Tr hs=>h _ ?_;have he:∃ q,h'.get? a=some q:=let ⟨q,_,_,hq,_⟩:=Tr; ⟨q,hq⟩
  exact Kg I (by rw [e]; exact jt) hs he (Tq hl hd (rel.put k rv) Tr)
 ·subst ey eH;cases (show u=gw b from ry);obtain⟨z,hd,xs,rel,dd⟩:=Rh I.eL e;have hz:xs.length<=bG:=by rw [<-yL rel]; exact z
  have hl:(putK bC k v).length<=bG:=by have:=xV bC k v; lia
  refine wpAny_setItem_heap (hsz:=hz) (nh hu) (wZ I.eL eb) dd fun h' Tr hs=>h _ ?_;obtain⟨q,es,ep,hq,h2,h3,h4,_,h5⟩:=Tr;refine Kg I (by rw [e]; exact jt) hs ⟨q,hq⟩ ⟨hl,hd,_,(rel.put k eb rv).keeps fun c ys ec=>?_,q,es,ep,hq,h2,h3,h4,h5⟩;rw [cp (Vo ec e (fun z=>nomatch z))];exact ec
end
section
variable {X:Cx} {pins:List (Addr×Obj)} {σ:St} {H:Hp} {s:aK} {a:Addr} {bC:List (Key×V)} {k:Key} {u:Value} {A:fJ} {E:Value->aK->Prop}
theorem Ri {Q:Value->aK->Prop} (I:Inv X pins σ H s) (e:Rd H a (.dK bC)) (h:∀ t s',Inv X pins σ H s'->Q (.int bC.length t) s'):wpAny (model X.prog X.w) A (call (.builtin "len") [.ref a]) Q E s:=by
 obtain⟨z,hd,vs,rel,dd⟩:=tY I.eL e;refine call_len_dict hd dd (by rw [<-rel.length]; rw [dw] at z; lia) ?_;rw [<-rel.length];exact h _ _ (I.tok _)
theorem Qz{Q:Bool->aK->Prop}(I:Inv X pins σ H s)(e:Rd H a (.dK bC))(h:∀ s',Inv X pins σ H s'->Q (!bC.isEmpty) s'):wpAny (model X.prog X.w) A (truthy (.ref a)) Q E s:=by
 obtain⟨z,hd,vs,rel,dd⟩:=tY I.eL e;refine Hq hd dd (by rw [<-rel.length]; rw [dw] at z; lia) ?_;have q:bC.isEmpty=vs.isEmpty:=by cases rel <;> rfl
 rw [<-q];exact h _ (I.tok _)
end
theorem r8 {X:Cx} {pins:List (Addr×Obj)} {σ:St} {H:Hp} {s:aK} {a:Addr} {y:V} {o:Option V} (I:Inv X pins σ H s) (g:yK H a y o):s.TypeIs (.ref a) "dict":=by
 rcases g with ⟨bC,k,e,_,_⟩ | ⟨bC,k,b,e,_,_,_⟩
 ·obtain⟨_,_,vs,_,dd⟩:=tY I.eL e;exact dd.typeIs
 ·obtain⟨_,_,xs,_,dd⟩:=xZ I.eL e;exact dd.typeIs
theorem Ol {P:bU} {w:World} {H:Hp} (h:Heap) (hb:lg < h.objs.size):gE P w H (h.push { cls:=.type "dict",data:=.dict #[] }) h.objs.size (.dK []) :=
 ⟨fT _,beq_eq_false_iff_ne.mpr (dR (bS hb)),[],.nil,Heap.DictOf.new h⟩
noncomputable def RL:TE:=fun _ H Q=>∀ p,H p=none->Q (.ref p) (upd H p (.dK []))
section
variable {X:Cx} {pos:Pos}
theorem Ng:PE X (.Dict [] [] pos) RL:=fun pins s σ H Q I h =>
 wpAny_Dict_empty ⟨.ref s.heap.objs.size,_,I.laid (a:=s.heap.objs.size) (o:=.dK []) (t':=s.toks) (fun _ _ q=>aY _ q) (bp _) (Ol s.heap I.big),rfl,h _ (I.eL.fresh (bp _))⟩
end
noncomputable def IsD(H:Hp)(a:Addr):Prop:=(∃ bC,Rd H a (.dK bC))\/∃ bC,Rd H a (.dT bC)
theorem NF{X:Cx}{pins:List (Addr×Obj)}{σ:St}{H:Hp}{s:aK}{a:Addr}(I:Inv X pins σ H s)(d:IsD H a) :
  s.TypeIs (.ref a) "dict"/\(∀ b,gw a=.ref b->∃ ob,s.heap.get? b=some ob/\ob.dict=none)/\(a == lg)=false:=by
 rcases d with ⟨bC,e⟩ | ⟨bC,e⟩
 ·obtain⟨_,hd,vs,_,dd⟩:=tY I.eL e;refine⟨dd.typeIs,fun b q=>?_,hd⟩;cases q;obtain⟨ob,_,_,h1,h2,_⟩:=dd;exact⟨ob,h1,h2.2.1⟩
 ·obtain⟨_,hd,xs,_,dd⟩:=xZ I.eL e;refine⟨dd.typeIs,fun b q=>?_,hd⟩;cases q;obtain⟨ob,_,_,h1,h2,_⟩:=dd;exact⟨ob,h1,h2.2.1⟩
section
variable {X:Cx} {pins:List (Addr×Obj)} {σ:St} {H:Hp} {s:aK} {a:Addr} {y d:V} {u r:Value} {o:Option V} {A:fJ} {E:Value->aK->Prop}
theorem Ts{Q:Value->aK->Prop}(hu:A.units+1 < cLine)(I:Inv X pins σ H s)(g:yK H a y o)(ry:RelV y u)(rd:RelV d r)(h:∀ w' s',Inv X pins σ H s'->RelV (o.getD d) w'->Q w' s') :
  wpAny (model X.prog X.w) A (call (.builtin "dict.get") [.ref a,u,r]) Q E s:=by
 rcases g with ⟨bC,k,e,ey,l⟩ | ⟨bC,k,b,e,ey,eb,l⟩
 ·subst ey;obtain⟨z,hd,vs,rel,dd⟩:=tY I.eL e;refine call_meetsIn mL dd.typeIs Jn (HB _ _ _) (meets_dict_get_default (gG X.prog X.w) a (CJ ry) hd r) ⟨_,dd.mapOf,h _ _ (I.tok _) ?_⟩;rw [l];exact(rel.val k).getD rd
 ·subst ey;cases (show u=gw b from ry);obtain⟨z,hd,xs,rel,dd⟩:=xZ I.eL e;refine call_meetsIn mL dd.typeIs Jn (HB _ _ _) (meetsH_dict_get_default (EV (gG X.prog X.w)) a b hd r) ⟨nh hu,k,xs,wZ I.eL eb,dd,h _ _ (I.tok _) ?_⟩;rw [l];exact(rel.val k).getD rd
end
end L2
namespace Att
open PySem PySem.W PySem.Calls PyProof.Rows
theorem yt{P:gA}{h:Heap}:∀ (ns:List Int) (vs:List Value),WellAll P h vs (ns.map WData.int)->lB vs ns:=by
 intro ns;induction ns with
 | nil =>
  intro vs w;rw [aT] at w;cases w;exact .nil
 | cons n ns ih =>
  intro vs w;rw [aC] at w;cases w with
  | cons a b =>
   cases a;exact .cons _ _ (ih _ b)
theorem KO{l:OpenLaw}{n:Nat}(hn:l.most=some n){P:gA}{h:Heap}{args:List WData}{vals:List Value}
  (D1:l.row.toRowW.claim.pre args=true) (Za:WellAll P h vals args) :
  ∃ a vs ns,vals=[gw a]/\args=[WData.list (ns.map WData.int)]/\h.get? a=some { cls:=.type "list",data:=.seq vs.toArray }/\lB vs ns/\ns.length<=n:=by
 have hsh:WShape.hasAll [] args [.list .int]=true:=(pre_splitW D1).1;have hc:l.pre.holds [] { args:=args } = true:=(pre_splitW D1).2;obtain⟨d,r,rfl,h1,h2⟩:=hasAllW_cons hsh;obtain rfl:=hasAllW_nil h2;obtain⟨xs,rfl,h3⟩:=hasW_list h1;obtain⟨ns,rfl⟩:=items_int h3;have hlen:ns.length<=n:=by
  unfold OpenLaw.pre at hc;have h4:(WTm.not (.lt (.lit (.int (n:Int))) (.len (.arg 0)))).holds [] { args:=[.list (ns.map .int)] } = true:=by
   have h4:=(holds_andW hc).1;rw [hn] at h4;exact h4
  have h5:=condW_of h4 (w_not (w_lt w_lit (w_len_list (w_arg rfl))));rw [av] at h5;refine Nat.le_of_not_lt fun q=>?_;have q':(n:Int) < ((ns.length:Nat):Int):=by lia
  first
   | (rw [decide_eq_true q'] at h5; exact absurd h5 (by decide))
   | (simp at h5; lia)
 cases Za with
 | cons w1 w2 =>
  cases w2;cases w1 with
  | list ho N5=>exact⟨_,_,ns,rfl,rfl,ho,yt ns _ N5,hlen⟩
theorem KU(l:OpenLaw)(args:List WData):l.row.toRowW.claim.post args (.bool true) args=true :=
 postW_of (r:=l.row.toRowW) (X:=(true == true))
  (show WShape.has [] (.bool true) .bool=true by first | rfl | decide | simp [WShape.has,WShape.arms,WShape.armsAll])
  (show (WTm.eq .res (.lit (.bool true))).value [] { args:=args,res:=some (.bool true),after:=args } = some (.bool (true == true)) from w_eq_bool (w_res rfl) w_lit) rfl
theorem GR{l:OpenLaw}{n:Nat}{q:bU}{loose:List Str}{XP:(Str->Option Value)->Heap->Prop}{YP:World->Heap->Prop}{d:DefRec}
  (hn:l.most=some n) (VP:d.params.defaults=[])
  (call:∀ (w:World) (kj fK:aK) (mg mb:Str->Option Value) (fa:Addr) (o:Obj) (pm cd doc:Value) (a:Addr) (vs:List Value) (ns:List Int),
   Ground q loose [] XP w kj mg mb fK.heap->YP w fK.heap ->
   fK.heap.get? fa=some o->o.data=.func (docDef d.name d.params d.body d.scope pm cd doc)->fK.heap.CodeRec cd d.name->mg d.name=some (.ref fa) ->
   fK.heap.get? a=some { cls:=.type "list",data:=.seq vs.toArray }->lB vs ns->ns.length<=n->fK.gens=#[] ->
   wC (model l.prog w) Hu (.call (.ref fa) ⟨[.ref a],[]⟩) (fun r s'=>r=.ok (.ret (.bool true))/\OldK fK.heap s'.heap/\s'.os=fK.os/\zj s'.gens) fK) :
  WalkO q loose XP YP l.row.toRowW d [] (fun f vs=>Jk f vs):=by
 intro w kj fK mg mb G Y fa o pm cd doc dV kV ho hd Hn hD VF hg args vals as D1 aew hrd Za hlo;obtain rfl:dV=.none:=Dflts.none hD VP;obtain rfl:kV=.none:=Dflts.noKw hD;obtain⟨a,vs,ns,rfl,rfl,SR,hints,hlen⟩:=KO hn D1 Za;refine enter_call (zf (call w kj fK mg mb fa o pm cd doc a vs ns G Y ho (fd_plain hd) Hn VF SR hints hlen hg) fun r s' hq=>?_);obtain⟨rfl,h2,h3,h4⟩:=hq;exact⟨.inl ⟨.bool true,.bool true,[],rfl,fun _=>rfl,.bool true,KU l _,fun _=>⟨List.Pairwise.nil,fun _ hm=>(nomatch hm)⟩⟩,h2,h3,h4⟩
end Att
namespace L2
open PySem PySem.Spec PyProof.Rows
theorem Cp:∀ {vs:List Value} {ns:List Int},lB vs ns->Vals (ns.map V.int) vs
 | _,_,.nil=>.nil
 | _,_,.cons n t h=>.cons ⟨t,rfl⟩ (Cp h)
noncomputable def QM(H:Hp):Prop:=∀ b,H b=none\/∃ o xs,H b=some (.pO o (.lst xs))
theorem Nx{P:bU}{w:World}{K:ay}{mg mb:Str->Option Value}{CX:LS}{k:Nat}{fa a:Addr}{fd:aE}{x:Str}{sp:Sp}{fK:aK}{vs:List Value}{ns:List Int}
  (KX:K.In fK.heap) (uf:fK.heap.Ns bz mg) (hb:fK.heap.Ns builtinsNs mb) (hbb:∀ x:Str,x≠"__name__"->mb x=eQ x) (Zt:fK.heap.NoLimit) (hg:fK.gens=#[])
  (ha:fK.heap.get? a=some { cls:=.type "list",data:=.seq vs.toArray }) (hi:lB vs ns) (hl:ns.length<=bG) (hr:jf k Hu)
  (F:∀ base:Heap,K.In base->base.Ns bz mg->dN P w K mg base CX k fa fd [x] sp) (VV:∀ (s:aK) (u:Value),BindsTo s fd ⟨[u],[]⟩ [(x,u)])
  (NN:∀ H:Hp,QM H->sZ K H a (ns.map V.int)->sp [.ref a] H (fun v _=>v=.bl true) fun _ _ _=>False)
  (ZW:∀ H e s',CX [] H fK (fun _ _ _=>False) e s'->False) :
  wC (model P w) Hu (.call (.ref fa) ⟨[.ref a],[]⟩) (fun r s'=>r=.ok (.ret (.bool true))/\OldK fK.heap s'.heap/\s'.os=fK.os/\zj s'.gens) fK:=by
 have rv:=Cp hi;have YW:=hi.length;have core:∀ H:Hp,QM H->sZ K H a (ns.map V.int)->pV P w H fK.heap->(∀ b,H b≠none->b=a)->(H a≠none->K.lookup a=none) ->
   wC (model P w) Hu (.call (.ref fa) ⟨[.ref a],[]⟩) (fun r s'=>r=.ok (.ret (.bool true))/\OldK fK.heap s'.heap/\s'.os=fK.os/\zj s'.gens) fK:=by
  intro H hO hS eL hA hK;have Kq:∀ {b:Addr} {o:Obj},fK.heap.get? b=some o->H b=none->(D4 fK.heap H).get? b=some o:=fun e n=>NU e n;have Vn:∀ {b:Addr} {o:Obj} {es:Array DictEntry} {ep:Nat},fK.heap.get? b=some o->o.data=.dict es ep->H b=none:=fun {b o es ep} e d=>by
   cases q:H b with
   | none=>rfl
   | some u =>
    have e':b=a:=hA b (by rw [q]; simp);subst e';rw [ha] at e; cases e;have d':Data.seq vs.toArray _=Data.dict es ep:=d;cases d'
  have WL:∀ {b:Addr} {m:Str->Option Value},fK.heap.Ns b m->(D4 fK.heap H).Ns b m:=fun {b m} ⟨o,es,ep,e,d,r⟩=>⟨o,es,ep,Kq e (Vn e d),d,r⟩;have hKb:K.In (D4 fK.heap H):=fun b o e=>Kq (KX b o e) (by
   cases q:H b with
   | none=>rfl
   | some u =>
    have e':b=a:=hA b (by rw [q]; simp);subst e';rw [hK (by rw [q]; simp)] at e; cases e)
  have hM:Mod K mg (D4 fK.heap H):=⟨hKb,WL uf,⟨mb,WL hb,hbb⟩,let ⟨mc,h1,h2⟩:=Zt; ⟨mc,WL h1,h2⟩⟩;have e0:Hd P w K mg (D4 fK.heap H) Hu [] fK H:=⟨rfl,hM,fun b o e=>P6 e,Nat.le_of_eq (Lp _ _),trivial,fun b hb=>absurd (show b∈([]:List Addr) from hb) (by simp),eL,.of_eq hg⟩;refine zf ((F _ hKb (WL uf)).run Hu [] fK H ⟨[.ref a],[]⟩ [.ref a] [.ref a] _ _ hr e0 (VV fK (.ref a)) (.cons rfl .nil) (NN H hO hS)) fun r s' h=>?_;cases r with
  | error e=>exact(ZW H e s' h).elim
  | ok fl =>
   cases fl with
   | next=>exact bP h
   | brk=>exact bP h
   | cont=>exact bP h
   | ret u =>
    obtain⟨v,H',os,bare,un,Iq,r',q⟩:=h;have q':v=.bl true:=q;subst q';obtain rfl:u=we true:=r';refine⟨rfl,OldK.of_keep fun b o e=>?_,os,bare⟩;cases q:H b with
    | none=>exact un.keep b o e q (by intro z; exact absurd (show b∈([]:List Addr) from z) (by simp)) (by simp)
    | some u =>
     rcases hO b with z | ⟨ob,xs,z⟩
     ·rw [q] at z; cases z
     ·have z2:=un.vC b ob _ z;obtain⟨e1,_⟩:=eL b _ z;obtain⟨e2,_⟩:=Iq b _ z2;rw [e] at e1; cases e1;exact e2
 cases hk:K.lookup a with
 | some o =>
  have e:=KX a o hk;rw [ha] at e;cases e;refine core (fun _=>none) (fun _=>.inl rfl) (.inr ⟨_,vs.toArray,_,hk,rfl,rfl,rfl,by rw [bc,YW]; exact hl,by simpa using rv⟩) (fun b u z=>by have z':(none:Option HO)=some u:=z; cases z') (fun b z=>absurd rfl z) fun z=>absurd rfl z
 | none =>
  refine core (fun b=>if b=a then some (.pO { cls:=.type "list",data:=.seq vs.toArray } (.lst (ns.map V.int))) else none) (fun b=>?_) (.inl (.inr ⟨{ cls:=.type "list",data:=.seq vs.toArray },if_pos rfl⟩)) (fun b u z=>?_) (fun b z=>?_) fun _=>hk
  ·by_cases hb:b=a
   ·exact .inr ⟨_,_,if_pos hb⟩
   ·exact .inl (if_neg hb)
  ·by_cases hb:b=a
   ·have z':=(if_pos hb).symm.trans z;cases z';subst hb;exact⟨ha,by rw [av]; exact hl,vs,_,rv,ha⟩
   ·have z':=(if_neg hb).symm.trans z;cases z'
  ·by_cases hb:b=a
   ·exact hb
   ·exact absurd (if_neg hb) z
theorem Px{l:Dc}{n k:Nat}{q:bU}{loose:List Str}{XP:(Str->Option Value)->Heap->Prop}{YP:World->Heap->Prop}{d:DefRec}{K:gA->ay}{CX:World->LS}{sp:World->Sp}{x:Str}
  (hn:l.most=some n) (WU:n<=bG) (VP:d.params.defaults=[]) (hr:jf k Hu)
  (hY:∀ (w:World) (h:Heap),YP w h->(K w.params).In h)
  (F:∀ (w:World) (mg:Str->Option Value) (fa:Addr) (h:Heap),(K w.params).In h->h.Ns bz mg->mg d.name=some (.ref fa) ->
   ∃ fd:aE,(∀ (s:aK) (u:Value),BindsTo s fd ⟨[u],[]⟩ [(x,u)]) /\
    ∀ base:Heap,(K w.params).In base->base.Ns bz mg->dN l.prog w (K w.params) mg base (CX w) k fa fd [x] (sp w))
  (NN:∀ (w:World) (H:Hp) (a:Addr) (ns:List Int),ns.length<=n->QM H->sZ (K w.params) H a (ns.map V.int)->sp w [.ref a] H (fun v _=>v=.bl true) fun _ _ _=>False)
  (ZW:∀ (w:World) (H:Hp) (s:aK) (e:Value) (s':aK),CX w [] H s (fun _ _ _=>False) e s'->False) :
  PySem.W.WalkO q loose XP YP l.row.toRowW d [] (fun f vs=>Jk f vs):=by
 refine Att.GR hn VP fun w kj fK mg mb fa o pm cd doc a vs ns G Y ho hd Hn VF SR hints hlen hg=>?_;have KX:=hY w _ Y;obtain⟨fd,hb,hF⟩:=F w mg fa _ KX G.T.g VF;exact Nx KX G.T.g G.T.b G.T.builtins G.T.nolimit hg SR hints (dI hlen WU) hr hF hb (fun H hO hS=>NN w H a ns hlen hO hS) fun H e s'=>ZW w H fK e s'
end L2
/- THE ag7 Xg (shape; LID,My.* are aaA):
   My.Adr: a structure of the addresses adk ac9 abS names (classes,Ua); My.Txt K t: a structure (Prop) of the equations over K;
   My.XR:{K} {implicit addresses ..} (e1:nsIn K bz "law" = some (some (.ref f))) (e2:K.lookup f=some ⟨oc,od,.func (fnOf "law" "law" params body scope dV kV doc pm an mq ct),sl⟩) (e3:codeIn K mq "law" = true) ..:∃ t,My.Txt K t
(the tactic k_is has no namespace: write k_is) -/
namespace L2
open PySem PySem.Spec PyProof.Rows
noncomputable def kb(s:Stmt):Arguments:=match s with
 | .FunctionDef _ a _ _ _ _ _ _ _ _=>a
 | _=>{ posonlyargs:=[],args:=[],vararg:=none,kwonlyargs:=[],kw_defaults:=[],kwarg:=none,defaults:=[] }
noncomputable def gZ(s:Stmt):List Stmt:=match s with
 | .FunctionDef _ _ b _ _ _ _ _ _ _=>b
 | _=>[]
noncomputable def aR(s:Stmt):Scope:=match s with
 | .FunctionDef _ _ _ _ _ _ sc _ _ _=>sc
 | _=>{ kind:=.function,names:=[],isGenerator:=false,isCoroutine:=false }
noncomputable abbrev fh:LS:=fun _ _ _ _ _ _=>False
noncomputable abbrev E0:XK:=fun _ _ _=>False
theorem JL{X:Cx}:Passes fh X E0:=fun _ _ _ _ _ _ _ h=>h.elim
structure kE(K:ay)(x qual:Str)(st:Stmt)(f:Addr)(fd:aE):Prop where
 ex:∃ (oc:Value) (od:Option Addr) (kV doc pm:Value) (an:Option Addr) (mq ct:Value) (JN:Array (Option Value)),
  fd=jL x qual (kb st) (gZ st) (aR st) .none kV doc pm an mq ct/\K.lookup f=some ⟨oc,od,.func fd,JN⟩/\E3 K mq qual=true
 kp:fm K (.ref f)=true
section
variable {P:bU} {w:World} {K:ay} {mg:Str->Option Value} {base:Heap}
theorem kE.ok{x qual:Str}{st:Stmt}{f:Addr}{fd:aE}{N ps:List Str}{k:Nat}{sp:Sp}(F:kE K x qual st f fd)(S:bL N ps (aR st))(len:∀ vs H Q E,sp vs H Q E->vs.length=ps.length)
  (NY:∀ (mq:Value) (A:fJ) (outer:List Env) (s:aK) (H:Hp) (vs:List V) (Q:VK) (E:XK),jf k (A.deeper (ze qual (aR st) s.heap.objs.size f mq))->sp vs H Q E ->
   ∃ t,Ul (xp fh P w K mg base N qual (aR st) f mq A outer s H E).TZ (gZ st) t/\t { nx:=fun _ H'=>Q .j9 H',rt:=Q } (start N vs) H):dN P w K mg base fh (k+1) f fd ps sp:=by
 obtain⟨oc,od,kV,doc,pm,an,mq,ct,JN,rfl,lk,Hn⟩:=F.ex;refine Rg lk Hn S len fun A outer s H vs Q E hr NN=>?_;obtain⟨t,h,q⟩:=NY mq A outer s H vs Q E hr NN;exact⟨t,h.TZ,q⟩
theorem kE.binds{x qual:Str}{st:Stmt}{f:Addr}{fd:aE}{ps:List Str}(F:kE K x qual st f fd)
  (h:∀ (kV doc pm:Value) (an:Option Addr) (mq ct:Value) (us:List Value),us.length=ps.length->bindArgs (jL x qual (kb st) (gZ st) (aR st) .none kV doc pm an mq ct) ⟨us,[]⟩=pure (ps.zip us)):Binds K fd ps []:=by
 obtain⟨oc,od,kV,doc,pm,an,mq,ct,JN,rfl,lk,Hn⟩:=F.ex;exact .all (h kV doc pm an mq ct)
theorem Oa{x qual:Str}{st:Stmt}{f:Addr}{oc:Value}{od an:Option Addr}{JN:Array (Option Value)}{kV doc pm mq ct:Value}(l:K.lookup f=some ⟨oc,od,.func (jL x qual (kb st) (gZ st) (aR st) .none kV doc pm an mq ct),JN⟩)
  (c:E3 K mq qual=true) (k:fm K (.ref f)=true):kE K x qual st f (jL x qual (kb st) (gZ st) (aR st) .none kV doc pm an mq ct):=⟨⟨oc,od,kV,doc,pm,an,mq,ct,JN,rfl,l,c⟩,k⟩
end
end L2
set_option autoImplicit false
section
namespace K2
open PySem (Str)
inductive D where
 | j9 | bl (b:Bool) | int (i:Int) | str (x:Str) | tup (ds:List D) | fU (ds:List D) | sM (bC:List (D×D)) | ref (a:Nat) | exc (c:Str)
 deriving Inhabited
inductive GO where
 | lst (ds:List D)
 | ka (bC:List (D×D))
 | ins (c:Str) (fs:List (Str×D))
noncomputable abbrev Gp:=Nat->Option GO
noncomputable def de(G:Gp)(a:Nat)(o:GO):Gp:=fun b=>if b=a then some o else G b
theorem aI{G:Gp}{a:Nat}{o:GO}:de G a o a=some o:=by unfold de; rw [if_pos rfl]
theorem cU{G:Gp}{a b:Nat}{o:GO}(h:b≠a):de G a o b=G b:=by unfold de; rw [if_neg h]
noncomputable abbrev SZ:Nat:=16777216
structure Ex where
 cls:Str
 afa:List (Str×D)
noncomputable abbrev lq:=Ex->Gp->Prop
noncomputable abbrev iH:=List (Option D)
noncomputable abbrev DK:=D->Gp->Prop
noncomputable abbrev iu:=lq->iH->Gp->DK->Prop
noncomputable abbrev yb:=lq->iH->Gp->(Bool->Gp->Prop)->Prop
noncomputable abbrev xr:=lq->iH->Gp->(List D->Gp->Prop)->Prop
structure j0 where
 nx:iH->Gp->Prop
 rt:DK
 bk:iH->Gp->Prop
 ct:iH->Gp->Prop
noncomputable abbrev fN:=lq->j0->iH->Gp->Prop
noncomputable abbrev iw:=List D->Gp->DK->lq->Prop
noncomputable abbrev GX:=D->D->Gp->DK->Prop
noncomputable def Lm(n:Nat)(i:Int):Option Nat:=if 0<=i then (if i < n then some i.toNat else none) else if -(n:Int)<=i then some (i+n).toNat else none
noncomputable def nT{α:Type}(xs:List α)(i:Int):Option α:=(Lm xs.length i).bind fun j=>xs[j]?
noncomputable def j8(n d:Nat):Option Int->Nat
 | none=>d
 | some v=>if v < 0 then (v+(n:Int)).toNat else min v.toNat n
noncomputable def cut{α:Type}(xs:List α)(lo hi:Option Int):List α:=(xs.drop (j8 xs.length 0 lo)).take (j8 xs.length xs.length hi - j8 xs.length 0 lo)
mutual
noncomputable def jT:D->D->Bool
 | .j9,.j9=>true
 | .bl a,.bl b=>a == b
 | .bl a,.int b=>(if a then 1 else 0) == b
 | .int a,.bl b=>a == (if b then 1 else 0)
 | .int a,.int b=>a == b
 | .str a,.str b=>a == b
 | .tup a,.tup b=>kY a b
 | .fU a,.fU b=>kY a b
 | _,_=>false
noncomputable def kY:List D->List D->Bool
 | [],[]=>true
 | a :: r,b :: t=>jT a b&&kY r t
 | _,_=>false
end
mutual
noncomputable def nr:D->Bool
 | .ref _=>false
 | .exc _=>false
 | .sM _=>false
 | .str x=>x.cps.all (· < 0x110000)
 | .tup ds=>DO ds
 | .fU ds=>DO ds
 | _=>true
noncomputable def DO:List D->Bool
 | []=>true
 | d :: r=>nr d&&DO r
end
class inductive Sn (G:Gp):Nat->D->D->Prop
 | j9 {n:Nat}:Sn G n .j9 .j9
 | bl {n:Nat} (b:Bool):Sn G n (.bl b) (.bl b)
 | int {n:Nat} (i:Int):Sn G n (.int i) (.int i)
 | str {n:Nat} (x:Str) (h:x.cps.all (· < 0x110000)=true):Sn G n (.str x) (.str x)
 | Fd {n:Nat}:Sn G (n+1) (.tup []) (.tup [])
 | qG {n:Nat} {d s:D} {ds ss:List D}:Sn G n d s->Sn G (n+1) (.tup ds) (.tup ss)->Sn G (n+1) (.tup (d :: ds)) (.tup (s :: ss))
 | MZ {n:Nat}:Sn G (n+1) (.fU []) (.fU [])
 | Fu {n:Nat} {d s:D} {ds ss:List D}:Sn G n d s->Sn G (n+1) (.fU ds) (.fU ss)->Sn G (n+1) (.fU (d :: ds)) (.fU (s :: ss))
 | ref {n:Nat} {a:Nat} {ds ss:List D}:G a=some (.lst ds)->Sn G n (.fU ds) (.fU ss)->Sn G n (.ref a) (.fU ss)
noncomputable abbrev SN:Nat:=8
theorem Sn.nr{G:Gp}{n:Nat}{d t:D}(h:Sn G n d t):K2.nr t=true:=by
 induction h with
 | j9=>rfl
 | bl b=>rfl
 | int i=>rfl
 | str x h=>exact h
 | Fd=>rfl
 | qG _ _ NL NK =>
  show (K2.nr _&&K2.DO _)=true;rw [NL];exact NK
 | MZ=>rfl
 | Fu _ _ NL NK =>
  show (K2.nr _&&K2.DO _)=true;rw [NL];exact NK
 | ref _ _ ih=>exact ih
noncomputable def gB:D->Bool
 | .int _=>true
 | .str _=>true
 | _=>false
noncomputable def KI:D->Gp->Option Bool
 | .j9,_=>some false
 | .bl b,_=>some b
 | .int i,_=>some (i != 0)
 | .str x,_=>if x.length<=SZ then some ((x.length:Int) != 0) else none
 | .tup ds,_=>some (!ds.isEmpty)
 | .fU ds,_=>some (!ds.isEmpty)
 | .exc _,_=>none
 | .sM bC,_=>if (bC.all fun p=>gB p.1)=true then some (!bC.isEmpty) else none
 | .ref a,G=>match G a with
  | some (.lst ds)=>some (!ds.isEmpty)
  | some (.ka bC)=>if (bC.all fun p=>gB p.1)=true then some (!bC.isEmpty) else none
  | _=>none
noncomputable def ah(i:Nat):iu:=fun _ τ G Q=>match τ[i]? with
 | some (some d)=>Q d G
 | _=>False
noncomputable def dC(d:D):iu:=fun _ _ G Q=>Q d G
noncomputable def aM:xr:=fun _ _ G Q=>Q [] G
noncomputable def aj(a:iu)(r:xr):xr:=fun E τ G Q=>a E τ G fun x G1=>r E τ G1 fun xs G2=>Q (x :: xs) G2
noncomputable def fF(t:xr):iu:=fun E τ G Q=>t E τ G fun ds G1=>ds.length<=SZ/\Q (.tup ds) G1
noncomputable def eG(t:xr):iu:=fun E τ G Q=>t E τ G fun ds G1=>ds.length<=SZ/\∀ p,G1 p=none->Q (.ref p) (de G1 p (.lst ds))
noncomputable def aN(r:GX)(a b:iu):iu:=fun E τ G Q=>a E τ G fun x G1=>b E τ G1 fun y G2=>r x y G2 Q
noncomputable def GD(r:D->Gp->DK->Prop)(a:iu):iu:=fun E τ G Q=>a E τ G fun x G1=>r x G1 Q
noncomputable def jR(G:Gp)(o:GO)(Q:DK):Prop:=∀ p,G p=none->Q (.ref p) (de G p o)
noncomputable def MulOk(i j:Int):Prop:=(-(2 ^ 64) < i/\i < 2 ^ 64)\/(-(2 ^ 64) < j/\j < 2 ^ 64)
noncomputable def rQ:D->Gp->Option (List D)
 | .fU ds,_=>some ds
 | .ref a,G=>match G a with
  | some (.lst ds)=>some ds
  | _=>none
 | _,_=>none
noncomputable def A8(x y:D)(G:Gp)(Q:DK):Prop:=match rQ x G,rQ y G with
 | some xs,some ys=>xs.length+ys.length<=SZ/\jR G (.lst (xs++ys)) Q
 | _,_=>False
noncomputable def jl:GX
 | .int i,.int j,G,Q=>Q (.int (i+j)) G
 | .str a,.str b,G,Q=>a.length+b.length<=SZ/\Q (.str (a++b)) G
 | .tup a,.tup b,G,Q=>a≠[]/\a.length+b.length<=SZ/\Q (.tup (a++b)) G
 | x,y,G,Q=>A8 x y G Q
noncomputable def Fw:GX
 | .int i,.int j,G,Q=>Q (.int (i - j)) G
 | _,_,_,_=>False
noncomputable def mS:GX
 | .int i,.int j,G,Q=>MulOk i j/\Q (.int (i * j)) G
 | _,_,_,_=>False
noncomputable def kl:GX
 | .int i,.int j,G,Q=>0 < j/\Q (.int (i % j)) G
 | _,_,_,_=>False
noncomputable def qN:GX
 | .int i,.int j,G,Q=>0 < j/\j < 2 ^ 30/\Q (.int (i / j)) G
 | _,_,_,_=>False
noncomputable def DA:D->Gp->DK->Prop
 | .int i,G,Q=>Q (.int (-i)) G
 | _,_,_=>False
noncomputable def nU(neg:Bool):GX:=fun x y G Q=>∃ a b,Sn G SN x a/\Sn G SN y b/\Q (.bl (if neg then !jT a b else jT a b)) G
noncomputable def lexLt:List Int->List Int->Bool
 | [],[]=>false
 | [],_ :: _=>true
 | _ :: _,[]=>false
 | x :: xs,y :: ys=>if x=y then lexLt xs ys else decide (x < y)
noncomputable def WE:GX
 | .int i,.int j,G,Q=>Q (.bl (decide (i < j))) G
 | .tup a,.tup b,G,Q=>∃ xs ys,a=xs.map D.int/\b=ys.map D.int/\Q (.bl (lexLt xs ys)) G
 | _,_,_,_=>False
noncomputable def rLe:GX
 | .int i,.int j,G,Q=>Q (.bl (decide (i<=j))) G
 | _,_,_,_=>False
noncomputable def rGt:GX
 | .int i,.int j,G,Q=>Q (.bl (decide (i > j))) G
 | _,_,_,_=>False
noncomputable def rGe:GX
 | .int i,.int j,G,Q=>Q (.bl (decide (i>=j))) G
 | _,_,_,_=>False
noncomputable def itemsOf:D->Gp->Option (List D)
 | .tup ds,_=>some ds
 | .fU ds,_=>some ds
 | .ref a,G=>match G a with
  | some (.lst ds)=>some ds
  | _=>none
 | _,_=>none
noncomputable def ue:D->Bool
 | .tup ds=>ds.all gB
 | _=>false
noncomputable def ja(bC:List (D×D))(k:D):Bool:=(gB k&&bC.all fun p=>gB p.1)||(ue k&&bC.all fun p=>ue p.1)
noncomputable def look(bC:List (D×D))(k:D):Option D:=(bC.find? fun p=>jT p.1 k).map (·.2)
noncomputable def put(bC:List (D×D))(k v:D):List (D×D) :=
 if (bC.any fun p=>jT p.1 k)=true then bC.map (fun p=>if jT p.1 k=true then (p.1,v) else p) else bC++[(k,v)]
noncomputable def Cw(neg:Bool):GX:=fun x y G Q=>match y with
 | .ref a=>(match G a with
  | some (.ka bC)=>ja bC x=true/\Q (.bl (if neg then !(look bC x).isSome else (look bC x).isSome)) G
  | some (.lst ds)=>∃ s ss,Sn G SN x s/\Sn G SN (.fU ds) (.fU ss)/\Q (.bl (if neg then !ss.any (jT · s) else ss.any (jT · s))) G
  | _=>False)
 | .sM bC=>bC≠[]/\ja bC x=true/\Q (.bl (if neg then !(look bC x).isSome else (look bC x).isSome)) G
 | .tup ds=>∃ s ss,Sn G SN x s/\Sn G SN (.fU ds) (.fU ss)/\Q (.bl (if neg then !ss.any (jT · s) else ss.any (jT · s))) G
 | .fU ds=>∃ s ss,Sn G SN x s/\Sn G SN (.fU ds) (.fU ss)/\Q (.bl (if neg then !ss.any (jT · s) else ss.any (jT · s))) G
 | _=>False
noncomputable def ee:GX
 | .tup ds,.int i,G,Q=>(match nT ds i with
  | some d=>Q d G
  | none=>False)
 | .fU ds,.int i,G,Q=>(match nT ds i with
  | some d=>Q d G
  | none=>False)
 | .sM bC,k,G,Q=>ja bC k=true/\(match look bC k with
  | some d=>Q d G
  | none=>False)
 | .ref a,k,G,Q=>(match G a with
  | some (.lst ds)=>(match k with
   | .int i=>(match nT ds i with
    | some d=>Q d G
    | none=>False)
   | _=>False)
  | some (.ka bC)=>ja bC k=true/\(match look bC k with
   | some d=>Q d G
   | none=>False)
  | _=>False)
 | _,_,_,_=>False
noncomputable abbrev Wq:=lq->iH->Gp->(Option Int->Gp->Prop)->Prop
noncomputable def eE:Wq:=fun _ _ G Q=>Q none G
noncomputable def lz(t:iu):Wq:=fun E τ G Q=>t E τ G fun x G1=>match x with
 | .int i=>Q (some i) G1
 | _=>False
noncomputable def M6:D->Option Int->Option Int->Gp->DK->Prop
 | .tup ds,lo,hi,G,Q=>¬ (j8 ds.length 0 lo=0/\j8 ds.length ds.length hi=ds.length)/\Q (.tup (cut ds lo hi)) G
 | .fU ds,lo,hi,G,Q=>jR G (.lst (cut ds lo hi)) Q
 | .ref a,lo,hi,G,Q=>(match G a with
  | some (.lst ds)=>jR G (.lst (cut ds lo hi)) Q
  | _=>False)
 | _,_,_,_,_=>False
noncomputable def xm(a:iu)(lo hi:Wq):iu:=fun E τ G Q=>a E τ G fun x G1=>lo E τ G1 fun l G2=>hi E τ G2 fun h G3=>M6 x l h G3 Q
noncomputable def di(a:iu):yb:=fun E τ G Q=>a E τ G fun x G1=>match KI x G1 with
 | some b=>Q b G1
 | none=>False
noncomputable def LG(a b:yb):yb:=fun E τ G Q=>a E τ G fun c G1=>if c=true then b E τ G1 Q else Q false G1
noncomputable def pU(a b:yb):yb:=fun E τ G Q=>a E τ G fun c G1=>if c=true then Q true G1 else b E τ G1 Q
noncomputable def gv(a:yb):yb:=fun E τ G Q=>a E τ G fun c G1=>Q (!c) G1
noncomputable def GG(a b:iu):iu:=fun E τ G Q=>a E τ G fun x G1=>match KI x G1 with
 | some true=>b E τ G1 Q
 | some false=>Q x G1
 | none=>False
noncomputable def We(a b:iu):iu:=fun E τ G Q=>a E τ G fun x G1=>match KI x G1 with
 | some true=>Q x G1
 | some false=>b E τ G1 Q
 | none=>False
noncomputable def Ou(a:iu):iu:=fun E τ G Q=>a E τ G fun x G1=>match KI x G1 with
 | some c=>Q (.bl (!c)) G1
 | none=>False
noncomputable def bo(sp:iw)(t:xr):iu:=fun E τ G Q=>t E τ G fun ds G1=>sp ds G1 Q fun _ _=>False
noncomputable def iZ(r:List D->Gp->DK->Prop)(t:xr):iu:=fun E τ G Q=>t E τ G fun ds G1=>r ds G1 Q
noncomputable def uA(x:D)(G:Gp):Prop:=match x with
 | .ref a=>(match G a with
  | some (.lst _)=>True
  | _=>False)
 | .fU _=>True
 | _=>False
noncomputable def UK(x:D)(G:Gp):Prop:=match x with
 | .sM _=>True
 | .ref a=>(match G a with
  | some (.ka _)=>True
  | _=>False)
 | _=>False
noncomputable def tyS(x:D)(_:Gp):Prop:=match x with
 | .str _=>True
 | _=>False
noncomputable def oV(ty:D->Gp->Prop)(r:D->List D->Gp->DK->Prop)(o:iu)(t:xr):iu:=fun E τ G Q=>o E τ G fun x G1=>ty x G1/\t E τ G1 fun ds G2=>r x ds G2 Q
noncomputable def lenOf:D->Gp->Option Nat
 | .tup ds,_=>some ds.length
 | .fU ds,_=>some ds.length
 | .str x,_=>if x.length<=SZ then some x.length else none
 | .sM bC,_=>if (bC.all fun p=>gB p.1)=true then some bC.length else none
 | .ref a,G=>match G a with
  | some (.lst ds)=>some ds.length
  | some (.ka bC)=>if (bC.all fun p=>gB p.1)=true then some bC.length else none
  | _=>none
 | _,_=>none
noncomputable def iq(ds:List D)(G:Gp)(Q:DK):Prop:=match ds with
 | [x]=>(match lenOf x G with
  | some n=>Q (.int (n:Int)) G
  | none=>False)
 | _=>False
noncomputable def pP(ds:List D)(G:Gp)(Q:DK):Prop:=match ds with
 | [x]=>(match itemsOf x G with
  | some xs=>jR G (.lst xs) Q
  | none=>False)
 | _=>False
noncomputable def Q3(C:String):D->Gp->Option Bool
 | .j9,_=>some false
 | .bl _,_=>some (C == "bool" || C == "int")
 | .int _,_=>some (C == "int")
 | .str _,_=>some (C == "str")
 | .tup _,_=>some (C == "tuple")
 | .fU _,_=>some (C == "list")
 | .sM _,_=>some (C == "dict")
 | .exc _,_=>none
 | .ref a,G=>match G a with
  | some (.lst _)=>some (C == "list")
  | some (.ka _)=>some (C == "dict")
  | _=>none
noncomputable def tG(C:String)(a:iu):iu:=fun E τ G Q=>a E τ G fun x G1=>match Q3 C x G1 with
 | some b=>Q (.bl b) G1
 | none=>False
noncomputable def Tw(ds:List D)(G:Gp)(Q:DK):Prop:=match ds with
 | [x]=>∃ bs:List Bool,itemsOf x G=some (bs.map D.bl)/\Q (.bl (bs.all id)) G
 | _=>False
noncomputable def gh(x:D)(ds:List D)(G:Gp)(Q:DK):Prop:=match x,ds with
 | .ref a,[d]=>(match G a with
  | some (.lst xs)=>xs.length < SZ/\Q .j9 (de G a (.lst (xs++[d])))
  | _=>False)
 | _,_=>False
noncomputable def yW(x:D)(ds:List D)(G:Gp)(Q:DK):Prop:=match x,ds with
 | .ref a,[y]=>(match G a,rQ y G with
  | some (.lst xs),some ys=>xs.length+ys.length<=SZ/\Q .j9 (de G a (.lst (xs++ys)))
  | _,_=>False)
 | _,_=>False
noncomputable def sQ(x:D)(ds:List D)(G:Gp)(Q:DK):Prop:=match x,ds with
 | .ref a,[.int i,d]=>(match G a with
  | some (.lst xs)=>0<=i/\i<=xs.length/\xs.length < SZ/\Q .j9 (de G a (.lst (xs.take i.toNat++d :: xs.drop i.toNat)))
  | _=>False)
 | _,_=>False
noncomputable def zY(x:D)(ds:List D)(G:Gp)(Q:DK):Prop:=match ds with
 | [d]=>uA x G/\∃ xs s ss,itemsOf x G=some xs/\Sn G SN d s/\Sn G SN (.fU xs) (.fU ss)/\(match ss.findIdx? (jT · s) with
  | some k=>Q (.int (k:Int)) G
  | none=>False)
 | _=>False
noncomputable def FO(x:D)(ds:List D)(G:Gp)(Q:DK):Prop:=match x,ds with
 | .ref a,[k,d]=>(match G a with
  | some (.ka bC)=>ja bC k=true/\gB k=true/\(match look bC k with
   | some v=>Q v G
   | none=>bC.length < SZ/\Q d (de G a (.ka (put bC k d))))
  | _=>False)
 | _,_=>False
noncomputable def bQ:fN:=fun _ K τ G=>K.nx τ G
noncomputable def bF(a b:fN):fN:=fun E K τ G=>a E { K with nx:=b E K } τ G
noncomputable def dH(a:iu):fN:=fun E K τ G=>a E τ G fun _ G1=>K.nx τ G1
noncomputable def bM(a:iu):fN:=fun E K τ G=>a E τ G K.rt
noncomputable def Rj:fN:=fun _ K _ G=>K.rt .j9 G
noncomputable def cS(c:yb)(a b:fN):fN:=fun E K τ G=>c E τ G fun k G1=>if k=true then a E K τ G1 else b E K τ G1
noncomputable def uk:fN:=fun _ _ _ _=>False
noncomputable abbrev B4:=lq->D->iH->Gp->(iH->Gp->Prop)->Prop
noncomputable abbrev A9:=lq->List D->iH->Gp->(iH->Gp->Prop)->Prop
noncomputable def aH(i:Nat):B4:=fun _ d τ G Q=>Q (τ.set i (some d)) G
noncomputable def qi:A9:=fun _ ds τ G Q=>match ds with
 | []=>Q τ G
 | _=>False
noncomputable def gq(t:B4)(r:A9):A9:=fun E ds τ G Q=>match ds with
 | d :: ds=>t E d τ G fun tK G1=>r E ds tK G1 Q
 | _=>False
noncomputable def pL(t:A9):B4:=fun E d τ G Q=>match d with
 | .tup ds=>t E ds τ G Q
 | _=>False
noncomputable def JB(o k d:D)(G:Gp)(Q:Gp->Prop):Prop:=match o with
 | .ref a=>(match G a with
  | some (.lst xs)=>(match k with
   | .int i=>(match Lm xs.length i with
    | some j=>Q (de G a (.lst (xs.set j d)))
    | none=>False)
   | _=>False)
  | some (.ka bC)=>ja bC k=true/\bC.length < SZ/\Q (de G a (.ka (put bC k d)))
  | _=>False)
 | _=>False
noncomputable def w8(o k:iu):B4:=fun E d τ G Q=>o E τ G fun x G1=>k E τ G1 fun y G2=>JB x y d G2 fun G3=>Q τ G3
noncomputable def bw(a:iu)(g:B4):fN:=fun E K τ G=>a E τ G fun x G1=>g E x τ G1 K.nx
noncomputable abbrev QJ:=lq->iH->Gp->(List D->(Gp->Prop)->Gp->Prop)->Prop
noncomputable def ic(a:iu):QJ:=fun E τ G R=>a E τ G fun x G1=>match x with
 | .tup ds=>R ds (fun _=>True) G1
 | .fU ds=>R ds (fun _=>True) G1
 | .ref p=>(match G1 p with
  | some (.lst ds)=>R ds (fun G2=>G2 p=some (.lst ds)) G1
  | _=>False)
 | _=>False
noncomputable def ek(lo:Int)(n:Nat):List D:=(gK n).map fun (i:Nat)=>D.int (lo+(i:Int))
noncomputable def oz(a:iu):QJ:=fun E τ G R=>a E τ G fun x G1=>match x with
 | .int n=>-(2 ^ 62)<=n/\n < 2 ^ 62/\R (ek 0 n.toNat) (fun _=>True) G1
 | _=>False
noncomputable def CL(a b:iu):QJ:=fun E τ G R=>a E τ G fun x G1=>b E τ G1 fun y G2=>match x,y with
 | .int i,.int j=>(-(2 ^ 62)<=i/\i < 2 ^ 62/\-(2 ^ 62)<=j/\j < 2 ^ 62)/\R (ek i (j - i).toNat) (fun _=>True) G2
 | _,_=>False
noncomputable def rV(g:B4)(body:fN)(ok:Gp->Prop):List D->fN
 | []=>fun _ K τ G=>ok G/\K.nx τ G
 | d :: r=>fun E K τ G=>ok G/\g E d τ G fun tK G1=>body E { K with nx:=rV g body ok r E K,ct:=rV g body ok r E K,bk:=K.nx } tK G1
noncomputable def du(i:QJ)(g:B4)(body:fN):fN:=fun E K τ G=>i E τ G fun ds ok G1=>rV g body ok ds E K τ G1
noncomputable def yk(c:yb)(body:fN):Nat->fN
 | 0=>fun _ _ _ _=>False
 | n+1=>fun E K τ G=>c E τ G fun k G1=>if k=true then body E { K with nx:=yk c body n E K,ct:=yk c body n E K,bk:=K.nx } τ G1 else K.nx τ G1
noncomputable def IS(c:yb)(body:fN):fN:=fun E K τ G=>∃ n,yk c body n E K τ G
noncomputable def jb(g:B4)(c:Option yb)(e:iu)(ok:Gp->Prop):List D->lq->iH->Gp->List D->(List D->Gp->Prop)->Prop
 | [],_,_,G,acc,Q=>ok G/\Q acc G
 | d :: r,E,τ,G,acc,Q=>ok G/\g E d τ G fun tK G1=>match c with
  | none=>e E tK G1 fun x G2=>jb g c e ok r E tK G2 (acc++[x]) Q
  | some c=>c E tK G1 fun k G2=>if k=true then e E tK G2 fun x G3=>jb g (some c) e ok r E tK G3 (acc++[x]) Q else jb g (some c) e ok r E tK G2 acc Q
noncomputable def sk(m:Nat)(fr:List Nat)(τ:iH):iH:=bb m none++fr.map fun i=>(τ[i]?).getD none
noncomputable def fR(m:Nat)(fr:List Nat)(i:QJ)(g:B4)(c:Option yb)(e:iu):iu:=fun E τ G Q =>
 i E τ G fun ds ok G1=>ds.length<=SZ/\jb g c e ok ds (fun _ _=>False) (sk m fr τ) G1 [] fun xs G2=>jR G2 (.lst xs) Q
noncomputable abbrev tI(ns:List Int):D:=.tup (ns.map D.int)
noncomputable def YT:List Int->Option Int
 | []=>none
 | a :: r=>some (r.foldl (fun m x=>if x < m then x else m) a)
noncomputable def YS:List (List Int)->Option (List Int)
 | []=>none
 | a :: r=>some (r.foldl (fun m x=>if lexLt x m=true then x else m) a)
noncomputable def LJ(ds:List D)(G:Gp)(Q:DK):Prop:=match ds with
 | [x]=>(∃ ns m,itemsOf x G=some (ns.map D.int)/\YT ns=some m/\Q (.int m) G)\/∃ WK m,itemsOf x G=some (WK.map tI)/\YS WK=some m/\Q (tI m) G
 | _=>False
noncomputable def xn:iu:=fun _ _ G Q=>jR G (.ka []) Q
noncomputable def e8(G G':Gp):Prop:=∀ a o,G a=some o->G' a=some o
theorem e8.refl(G:Gp):e8 G G:=fun _ _ h=>h
theorem e8.trans{G G1 G2:Gp}(a:e8 G G1)(b:e8 G1 G2):e8 G G2:=fun c o h=>b c o (a c o h)
theorem e8.new{G:Gp}{p:Nat}{o:GO}(h:G p=none):e8 G (de G p o):=fun a ob e=>by
 by_cases ha:a=p
 ·subst ha; rw [h] at e; cases e
 ·rw [cU ha]; exact e
theorem e8.free{G G':Gp}{p:Nat}(l:e8 G G')(h:G' p=none):G p=none:=by
 cases q:G p with
 | none=>rfl
 | some o=>rw [l p o q] at h; cases h
theorem e8.put{G G':Gp}{p:Nat}{o:GO}(l:e8 G G')(h:G p=none):e8 G (de G' p o):=fun a ob e=>by
 by_cases ha:a=p
 ·subst ha; rw [h] at e; cases e
 ·rw [cU ha]; exact l a ob e
noncomputable def ends(Q:DK):j0:=⟨fun _ G=>Q .j9 G,Q,fun _ _=>False,fun _ _=>False⟩
noncomputable def aZ(n:Nat)(ds:List D):iH:=ds.map some++bb (n - ds.length) none
noncomputable def NM(x:D)(G1:Gp)(R:List D->(Gp->Prop)->Gp->Prop):Prop:=match x with
 | .tup ds=>R ds (fun _=>True) G1
 | .fU ds=>R ds (fun _=>True) G1
 | .ref p=>(match G1 p with
  | some (.lst ds)=>R ds (fun G2=>G2 p=some (.lst ds)) G1
  | _=>False)
 | _=>False
noncomputable def Ni(x:D)(G1:Gp)(Q:Option Int->Gp->Prop):Prop:=match x with
 | .int i=>Q (some i) G1
 | _=>False
noncomputable def tM(x:D)(G1:Gp)(Q:Bool->Gp->Prop):Prop:=match KI x G1 with
 | some b=>Q b G1
 | none=>False
noncomputable def QT(x:D)(G1:Gp)(R:List D->(Gp->Prop)->Gp->Prop):Prop:=match x with
 | .int n=>-(2 ^ 62)<=n/\n < 2 ^ 62/\R (ek 0 n.toNat) (fun _=>True) G1
 | _=>False
noncomputable def isAt(C:String)(x:D)(G1:Gp)(Q:DK):Prop:=match Q3 C x G1 with
 | some b=>Q (.bl b) G1
 | none=>False
theorem fi{i j:Int}{G:Gp}{Q:DK}:jl (.int i) (.int j) G Q=Q (.int (i+j)) G:=rfl
theorem Fx{a b:List D}{G:Gp}{Q:DK}:jl (.tup a) (.tup b) G Q=(a≠[]/\a.length+b.length<=SZ/\Q (.tup (a++b)) G):=rfl
theorem pC{i j:Int}{G:Gp}{Q:DK}:Fw (.int i) (.int j) G Q=Q (.int (i - j)) G:=rfl
theorem nE{i j:Int}{G:Gp}{Q:DK}:mS (.int i) (.int j) G Q=(MulOk i j/\Q (.int (i * j)) G):=rfl
theorem dG{i j:Int}{G:Gp}{Q:DK}:kl (.int i) (.int j) G Q=(0 < j/\Q (.int (i % j)) G):=rfl
theorem jA{i j:Int}{G:Gp}{Q:DK}:qN (.int i) (.int j) G Q=(0 < j/\j < 2 ^ 30/\Q (.int (i / j)) G):=rfl
theorem kR{i:Int}{G:Gp}{Q:DK}:DA (.int i) G Q=Q (.int (-i)) G:=rfl
theorem DB{i j:Int}{G:Gp}{Q:DK}:WE (.int i) (.int j) G Q=Q (.bl (decide (i < j))) G:=rfl
theorem JE{i j:Int}{G:Gp}{Q:DK}:rLe (.int i) (.int j) G Q=Q (.bl (decide (i<=j))) G:=rfl
theorem JF{i j:Int}{G:Gp}{Q:DK}:rGt (.int i) (.int j) G Q=Q (.bl (decide (i > j))) G:=rfl
theorem JG{i j:Int}{G:Gp}{Q:DK}:rGe (.int i) (.int j) G Q=Q (.bl (decide (i>=j))) G:=rfl
theorem PR{ds:List D}{i:Int}{d:D}{G:Gp}{Q:DK}(h:nT ds i=some d):ee (.fU ds) (.int i) G Q=Q d G:=by unfold ee; simp only [h]
theorem PT{a:Nat}{ds:List D}{i:Int}{d:D}{G:Gp}{Q:DK}(h1:G a=some (.lst ds))(h:nT ds i=some d):ee (.ref a) (.int i) G Q=Q d G:=by unfold ee; simp only [h1,h]
theorem vc{ds:List D}{lo hi:Option Int}{G:Gp}{Q:DK}:M6 (.tup ds) lo hi G Q=(¬ (j8 ds.length 0 lo=0/\j8 ds.length ds.length hi=ds.length)/\Q (.tup (cut ds lo hi)) G):=rfl
theorem JD{ds:List D}{lo hi:Option Int}{G:Gp}{Q:DK}:M6 (.fU ds) lo hi G Q=jR G (.lst (cut ds lo hi)) Q:=rfl
theorem PQ{a:Nat}{ds:List D}{lo hi:Option Int}{G:Gp}{Q:DK}(h:G a=some (.lst ds)):M6 (.ref a) lo hi G Q=jR G (.lst (cut ds lo hi)) Q:=by unfold M6; simp only [h]
theorem A6{ds:List D}{G:Gp}{Q:DK}:iq [.fU ds] G Q=Q (.int (ds.length:Int)) G:=rfl
theorem nS{ds:List D}{G:Gp}{Q:DK}:iq [.tup ds] G Q=Q (.int (ds.length:Int)) G:=rfl
theorem OF{a:Nat}{ds:List D}{G:Gp}{Q:DK}(h:G a=some (.lst ds)):iq [.ref a] G Q=Q (.int (ds.length:Int)) G:=by unfold iq lenOf; simp only [h]
theorem cG{a:iu}{E:lq}{τ:iH}{G:Gp}{R:List D->(Gp->Prop)->Gp->Prop}:ic a E τ G R=a E τ G fun x G1=>NM x G1 R:=by
 unfold ic NM; rfl
theorem J3{ds:List D}{G:Gp}{R:List D->(Gp->Prop)->Gp->Prop}:NM (.fU ds) G R=R ds (fun _=>True) G:=rfl
theorem D0{ds:List D}{G:Gp}{R:List D->(Gp->Prop)->Gp->Prop}:NM (.tup ds) G R=R ds (fun _=>True) G:=rfl
theorem sS{a:Nat}{ds:List D}{G:Gp}{R:List D->(Gp->Prop)->Gp->Prop}(h:G a=some (.lst ds)):NM (.ref a) G R=R ds (fun G2=>G2 a=some (.lst ds)) G:=by unfold NM; simp only [h]
theorem jZ{t:iu}{E:lq}{τ:iH}{G:Gp}{Q:Option Int->Gp->Prop}:lz t E τ G Q=t E τ G fun x G1=>Ni x G1 Q:=rfl
theorem iR{i:Int}{G:Gp}{Q:Option Int->Gp->Prop}:Ni (.int i) G Q=Q (some i) G:=rfl
theorem ck{a:iu}{E:lq}{τ:iH}{G:Gp}{Q:Bool->Gp->Prop}:di a E τ G Q=a E τ G fun x G1=>tM x G1 Q:=rfl
theorem aP{b:Bool}{G:Gp}{Q:Bool->Gp->Prop}:tM (.bl b) G Q=Q b G:=rfl
theorem KH{a:Nat}{ds:List D}{G:Gp}{Q:Bool->Gp->Prop}(h:G a=some (.lst ds)):tM (.ref a) G Q=Q (!ds.isEmpty) G:=by unfold tM KI; simp only [h]
theorem gY{a:iu}{E:lq}{τ:iH}{G:Gp}{R:List D->(Gp->Prop)->Gp->Prop}:oz a E τ G R=a E τ G fun x G1=>QT x G1 R:=rfl
theorem fP{n:Int}{G:Gp}{R:List D->(Gp->Prop)->Gp->Prop}:QT (.int n) G R=(-(2 ^ 62)<=n/\n < 2 ^ 62/\R (ek 0 n.toNat) (fun _=>True) G):=rfl
theorem mV{C:String}{a:iu}{E:lq}{τ:iH}{G:Gp}{Q:DK}:tG C a E τ G Q=a E τ G fun x G1=>isAt C x G1 Q:=rfl
theorem vr {C:String} {i:Int} {G:Gp} {Q:DK}:isAt C (.int i) G Q=Q (.bl (C == "int")) G:=rfl
theorem pK {C:String} {ds:List D} {G:Gp} {Q:DK}:isAt C (.tup ds) G Q=Q (.bl (C == "tuple")) G:=rfl
theorem NG {C:String} {a:Nat} {ds:List D} {G:Gp} {Q:DK} (h:G a=some (.lst ds)):isAt C (.ref a) G Q=Q (.bl (C == "list")) G:=by unfold isAt Q3; simp only [h]
theorem vO{a b:iu}{E:lq}{τ:iH}{G:Gp}{Q:DK}:GG a b E τ G Q=a E τ G fun x G1=>tM x G1 fun k G2=>if k=true then b E τ G2 Q else Q x G2:=by
 unfold GG tM;refine congrArg (a E τ G) ?_;funext x G1;cases KI x G1 with
 | none=>rfl
 | some k=>cases k <;> simp
theorem Kj{a b:iu}{E:lq}{τ:iH}{G:Gp}{Q:DK}:We a b E τ G Q=a E τ G fun x G1=>tM x G1 fun k G2=>if k=true then Q x G2 else b E τ G2 Q:=by
 unfold We tM;refine congrArg (a E τ G) ?_;funext x G1;cases KI x G1 with
 | none=>rfl
 | some k=>cases k <;> simp
theorem AZ{a:iu}{E:lq}{τ:iH}{G:Gp}{Q:DK}:Ou a E τ G Q=a E τ G fun x G1=>tM x G1 fun k G2=>Q (.bl (!k)) G2:=rfl
theorem pD{a:Nat}{y:D}{G:Gp}{Q:DK}:jl (.ref a) y G Q=A8 (.ref a) y G Q:=by cases y <;> rfl
theorem ve{a:List D}{y:D}{G:Gp}{Q:DK}:jl (.fU a) y G Q=A8 (.fU a) y G Q:=by cases y <;> rfl
theorem yS{a:Nat}{lo hi:Option Int}{G:Gp}{Q:DK}:M6 (.ref a) lo hi G Q=(match G a with
  | some (.lst ds)=>jR G (.lst (cut ds lo hi)) Q
  | _=>False):=rfl
theorem PS{a:Nat}{k:D}{G:Gp}{Q:DK}:ee (.ref a) k G Q=(match G a with
  | some (.lst ds)=>(match k with
   | .int i=>(match nT ds i with
    | some d=>Q d G
    | none=>False)
   | _=>False)
  | some (.ka bC)=>ja bC k=true/\(match look bC k with
   | some d=>Q d G
   | none=>False)
  | _=>False):=by unfold ee; cases k <;> rfl
theorem dq{ds:List D}{i:Int}{G:Gp}{Q:DK}:ee (.tup ds) (.int i) G Q=(match nT ds i with
  | some d=>Q d G
  | none=>False):=rfl
theorem vd{ds:List D}{i:Int}{G:Gp}{Q:DK}:ee (.fU ds) (.int i) G Q=(match nT ds i with
  | some d=>Q d G
  | none=>False):=rfl
theorem CW{a:Nat}{G:Gp}{Q:DK}:pP [.ref a] G Q=(match G a with
  | some (.lst ds)=>jR G (.lst ds) Q
  | _=>False):=by
 unfold pP itemsOf;cases h:G a with
 | none=>simp only [h]
 | some g=>cases g <;> simp only [h]
theorem eN{a:Nat}{d:D}{G:Gp}{Q:DK}:gh (.ref a) [d] G Q=(match G a with
  | some (.lst xs)=>xs.length < SZ/\Q .j9 (de G a (.lst (xs++[d])))
  | _=>False):=rfl
theorem rP{a:Nat}{y:D}{G:Gp}{Q:DK}:yW (.ref a) [y] G Q=(match G a,rQ y G with
  | some (.lst xs),some ys=>xs.length+ys.length<=SZ/\Q .j9 (de G a (.lst (xs++ys)))
  | _,_=>False):=rfl
theorem oy{a:Nat}{i:Int}{d:D}{G:Gp}{Q:DK}:sQ (.ref a) [.int i,d] G Q=(match G a with
  | some (.lst xs)=>0<=i/\i<=xs.length/\xs.length < SZ/\Q .j9 (de G a (.lst (xs.take i.toNat++d :: xs.drop i.toNat)))
  | _=>False):=rfl
theorem qO{a:Nat}{k d:D}{G:Gp}{Q:DK}:FO (.ref a) [k,d] G Q=(match G a with
  | some (.ka bC)=>ja bC k=true/\gB k=true/\(match look bC k with
   | some v=>Q v G
   | none=>bC.length < SZ/\Q d (de G a (.ka (put bC k d))))
  | _=>False):=rfl
theorem J0 {C:String} {b:Bool} {G:Gp} {Q:DK}:isAt C (.bl b) G Q=Q (.bl (C == "bool" || C == "int")) G:=rfl
theorem gP{a:Nat}{G:Gp}:uA (.ref a) G=(match G a with
  | some (.lst _)=>True
  | _=>False):=rfl
theorem yP{a:Nat}{G:Gp}:UK (.ref a) G=(match G a with
  | some (.ka _)=>True
  | _=>False):=rfl
theorem Ju{ds:List D}{G:Gp}:uA (.fU ds) G=True:=rfl
theorem DC{bC:List (D×D)}{k:D}{G:Gp}{Q:DK}:ee (.sM bC) k G Q=(ja bC k=true/\(match look bC k with
  | some d=>Q d G
  | none=>False)):=by unfold ee; cases k <;> rfl
theorem Jt{x:Str}{G:Gp}:tyS (.str x) G=True:=rfl
end K2
end
section
namespace K2
open PySem (Str)
noncomputable def BQ(R:Nat->Bool)(G:Gp):Gp:=fun a=>if R a=true then none else G a
mutual
inductive Fz (G:Gp) (R:Nat->Bool):D->D->Prop
 | same (d:D):Fz G R d d
 | tup {ds ss:List D}:Jf G R ds ss->Fz G R (.tup ds) (.tup ss)
 | fU {ds ss:List D}:Jf G R ds ss->Fz G R (.fU ds) (.fU ss)
 | ref {a:Nat} {ds ss:List D}:G a=some (.lst ds)->R a=true->Jf G R ds ss->Fz G R (.ref a) (.fU ss)
 | ka {a:Nat} {bC kvt:List (D×D)}:G a=some (.ka bC)->R a=true->Jg G R bC kvt->Fz G R (.ref a) (.sM kvt)
inductive Jf (G:Gp) (R:Nat->Bool):List D->List D->Prop
 | nil:Jf G R [] []
 | cons {d s:D} {ds ss:List D}:Fz G R d s->Jf G R ds ss->Jf G R (d :: ds) (s :: ss)
inductive Jg (G:Gp) (R:Nat->Bool):List (D×D)->List (D×D)->Prop
 | nil:Jg G R [] []
 | cons {k d s:D} {ds ss:List (D×D)}:Fz G R d s->Jg G R ds ss->Jg G R ((k,d) :: ds) ((k,s) :: ss)
end
theorem Jg.same{G:Gp}{R:Nat->Bool}:∀ (bC:List (D×D)),Jg G R bC bC
 | []=>.nil
 | (k,v) :: r=>.cons (.same v) (Jg.same r)
noncomputable def Jh(G:Gp)(x:D)(Q:DK):Prop:=∃ (R:Nat->Bool) (t:D),Fz G R x t/\Q t (BQ R G)
noncomputable def c7(e:iu):iu:=fun E τ G Q=>e E τ G fun x G1=>Jh G1 x Q
noncomputable def LF(i:Nat)(t:fN):fN:=fun E K τ G=>t E { K with nx:=fun tK G1=>match tK[i]? with
 | some (some d)=>Jh G1 d fun t G2=>K.nx (tK.set i (some t)) G2
 | _=>False } τ G
theorem Jf.same{G:Gp}{R:Nat->Bool}:∀ (ds:List D),Jf G R ds ds
 | []=>.nil
 | d :: ds=>.cons (.same d) (Jf.same ds)
theorem AU{G G1:Gp}(l:e8 G G1):BQ (fun a=>(G a).isNone) G1=G:=by
 funext a;unfold BQ;cases h:G a with
 | none=>simp [h]
 | some o=>simp [l a o h,h]
theorem Lz{G G1:Gp}{p:Nat}{o:GO}(l:e8 G G1)(hp:G p=none)(h1:G1 p=some o):BQ (fun a=>(G a).isNone&&decide (a≠p)) G1=de G p o:=by
 funext a;unfold BQ de;by_cases ha:a=p
 ·subst ha; simp [h1]
 ·cases h:G a with
  | none=>simp [ha,h]
  | some o=>simp [l a o h,ha,h]
theorem e9{G:Gp}{d:D}{Q:DK}(q:Q d G):Jh G d Q:=⟨fun _=>false,d,.same d,by
 have e:BQ (fun _=>false) G=G:=by funext a; simp [BQ]
 rw [e]; exact q⟩
theorem vA{G G1:Gp}{d:D}{Q:DK}(l:e8 G G1)(q:Q d G):Jh G1 d Q:=⟨_,d,.same d,by rw [AU l]; exact q⟩
theorem w9{G G1:Gp}{p:Nat}{o:GO}{Q:DK}(l:e8 G G1)(hp:G p=none)(h1:G1 p=some o)(q:Q (.ref p) (de G p o)):Jh G1 (.ref p) Q :=
 ⟨_,.ref p,.same _,by rw [Lz l hp h1]; exact q⟩
theorem Iu{G G1:Gp}{p:Nat}{ds ss:List D}{Q:DK}(l:e8 G G1)(hp:G p=none)(h1:G1 p=some (.lst ds))(hs:Jf G1 (fun a=>(G a).isNone) ds ss)(q:Q (.fU ss) G):Jh G1 (.ref p) Q :=
 ⟨_,.fU ss,.ref h1 (by simp [hp]) hs,by rw [AU l]; exact q⟩
theorem Iv{G G1:Gp}{p:Nat}{bC:List (D×D)}{Q:DK}(l:e8 G G1)(hp:G p=none)(h1:G1 p=some (.ka bC))(q:Q (.sM bC) G):Jh G1 (.ref p) Q :=
 ⟨fun a=>(G a).isNone,.sM bC,.ka h1 (by simp [hp]) (.same _),by rw [AU l]; exact q⟩
noncomputable def Cr:iw:=fun ds G Q _=>∃ ns:List Int,ds=[.fU (ns.map D.int)]/\ns.length<=63/\(∀ a,G a=none)/\∀ G',Q (.bl true) G'
theorem bE{a b:fN}{E:lq}{K:j0}{τ:iH}{G:Gp}(P:iH->Gp->Prop)(h1:∀ N,(∀ τ G,P τ G->N τ G)->a E { K with nx:=N } τ G)(h2:∀ τ G,P τ G->b E K τ G):bF a b E K τ G:=h1 (b E K) h2
theorem fX{a b:fN}{E:lq}{K:j0}{τ:iH}{G:Gp}:bF a b E K τ G=a E { K with nx:=b E K } τ G:=rfl
theorem fe{a:iu}{g:B4}{b:fN}{E:lq}{K:j0}{τ:iH}{G:Gp}:bF (bw a g) b E K τ G=bw a g E { K with nx:=b E K } τ G:=rfl
theorem lW{a:iu}{b:fN}{E:lq}{K:j0}{τ:iH}{G:Gp}:bF (dH a) b E K τ G=dH a E { K with nx:=b E K } τ G:=rfl
theorem mB{g:B4}{body:fN}{ok:Gp->Prop}{ds:List D}{E:lq}{K:j0}{τ:iH}{G:Gp}(I:List D->iH->Gp->Prop)
  (h0:I [] τ G) (eL:∀ pre τ G,I pre τ G->ok G)
  (step:∀ (pre:List D) (d:D) (post:List D) τ G (N:iH->Gp->Prop),ds=pre++d :: post->I pre τ G->(∀ Cn G2,I (pre++[d]) Cn G2->N Cn G2) ->
   g E d τ G fun tK G1=>body E { K with nx:=N,ct:=N,bk:=K.nx } tK G1)
  (fin:∀ τ G,I ds τ G->K.nx τ G):rV g body ok ds E K τ G:=by
 have main:∀ (post pre:List D) τ G,ds=pre++post->I pre τ G->rV g body ok post E K τ G:=by
  intro post;induction post with
  | nil =>
   intro pre τ G e h;rw [cz] at e;subst e;exact⟨eL _ _ _ h,fin _ _ h⟩
  | cons d post ih =>
   intro pre τ G e h;refine⟨eL _ _ _ h,?_⟩;exact step pre d post τ G _ e h fun Cn G2 h2=>ih (pre++[d]) Cn G2 (by rw [e,cw]; rfl) h2
 exact main ds [] τ G rfl h0
theorem Sn.tI{G:Gp}{n:Nat}:∀ (ns:List Int),Sn G (n+1) (.tup (ns.map D.int)) (.tup (ns.map D.int))
 | []=>.Fd
 | i :: ns=>.qG (.int i) (Sn.tI ns)
theorem qo(a b:D)(r t:List D):kY (a :: r) (b :: t)=(jT a b&&kY r t):=rfl
theorem r0(a b:Int):jT (.int a) (.int b)=(a == b):=rfl
theorem II(a b:List D):jT (.tup a) (.tup b)=kY a b:=rfl
theorem AV{α:Type} [DecidableEq α](a b:α)(as bs:List α):(decide (a=b)&&decide (as=bs))=decide (a :: as=b :: bs):=by
 by_cases h:a=b <;> by_cases h2:as=bs <;> simp [h,h2]
theorem CQ:∀ (a b:List Int),kY (a.map D.int) (b.map D.int)=decide (a=b)
 | [],[]=>(decide_eq_true rfl).symm
 | [],b :: bs=>(decide_eq_false (fun z=>nomatch z)).symm
 | a :: as,[]=>(decide_eq_false (fun z=>nomatch z)).symm
 | a :: as,b :: bs=>by
  show (decide (a=b)&&kY (as.map D.int) (bs.map D.int))=_;rw [CQ as bs,AV]
theorem Tj(a b:List Int):jT (tI a) (tI b)=decide (a=b):=by
 show kY _ _=_;exact CQ a b
end K2
end
section
namespace K2
open PySem (Str)
set_option genInjectivity true in structure T2 where
 a:Int
 b:Int
 deriving DecidableEq
set_option genInjectivity true in structure T3 where
 a:Int
 b:Int
 c:Int
 deriving DecidableEq
class Enc (α:Type) [DecidableEq α] where
 enc:α->D
 dep:Nat
 eqv:∀ a b,jT (enc a) (enc b)=decide (a=b)
 sn:∀ (G:Gp) (n:Nat) (a:α),dep<=n->Sn G n (enc a) (enc a)
open Enc (enc)
noncomputable instance:Enc Int where
 enc:=D.int
 dep:=0
 eqv:=fun a b=>rfl
 sn:=fun G n a _=>.int a
noncomputable instance:Enc Bool where
 enc:=D.bl
 dep:=0
 eqv:=fun a b=>O3 a b
 sn:=fun G n a _=>.bl a
noncomputable instance:Enc T2 where
 enc:=fun t=>.tup [.int t.a,.int t.b]
 dep:=1
 eqv:=fun x y=>by
  cases x; cases y;rw [II,qo,qo,r0,r0]; simp only [T2.mk.injEq]; rename_i a b c d; by_cases h:a=c <;> by_cases h2:b=d <;> simp [h,h2,show kY [] []=true from rfl]
 sn:=fun G n t h=>by
  obtain⟨m,rfl⟩:∃ m,n=m+1:=⟨n - 1,by lia⟩;exact .qG (.int _) (.qG (.int _) .Fd)
noncomputable instance:Enc T3 where
 enc:=fun t=>.tup [.int t.a,.int t.b,.int t.c]
 dep:=1
 eqv:=fun x y=>by
  cases x; cases y;rw [II,qo,qo,qo,r0,r0,r0]; simp only [T3.mk.injEq]; rename_i a b e c d f; by_cases h:a=c <;> by_cases h2:b=d <;> by_cases h3:e=f <;> simp [h,h2,h3,show kY [] []=true from rfl]
 sn:=fun G n t h=>by
  obtain⟨m,rfl⟩:∃ m,n=m+1:=⟨n - 1,by lia⟩;exact .qG (.int _) (.qG (.int _) (.qG (.int _) .Fd))
noncomputable instance {α β:Type} [DecidableEq α] [DecidableEq β] [Enc α] [Enc β]:Enc (α×β) where
 enc:=fun t=>.tup [enc t.1,enc t.2]
 dep:=max (Enc.dep α) (Enc.dep β)+1
 eqv:=fun x y=>by
  cases x; cases y;rw [II,qo,qo,Enc.eqv,Enc.eqv]; simp only [HC]; rename_i a b c d; by_cases h:a=c <;> by_cases h2:b=d <;> simp [h,h2,show kY [] []=true from rfl]
 sn:=fun G n t h=>by
  obtain⟨m,rfl⟩:∃ m,n=m+1:=⟨n - 1,by lia⟩;exact .qG (Enc.sn _ _ _ (by lia)) (.qG (Enc.sn _ _ _ (by lia)) .Fd)
theorem Gv{α:Type} [DecidableEq α] [Enc α]:∀ (a b:List α),kY (a.map enc) (b.map enc)=decide (a=b)
 | [],[]=>(decide_eq_true rfl).symm
 | [],b :: bs=>(decide_eq_false (fun z=>nomatch z)).symm
 | a :: as,[]=>(decide_eq_false (fun z=>nomatch z)).symm
 | a :: as,b :: bs=>by
  show (jT (enc a) (enc b)&&kY (as.map enc) (bs.map enc))=_;rw [Enc.eqv,Gv as bs,AV]
theorem wI{α:Type} [DecidableEq α] [Enc α](G:Gp)(n:Nat)(h:Enc.dep α<=n):∀ (xs:List α),Sn G (n+1) (.fU (xs.map enc)) (.fU (xs.map enc))
 | []=>.MZ
 | a :: as=>.Fu (Enc.sn _ _ _ h) (wI G n h as)
noncomputable instance {α:Type} [DecidableEq α] [Enc α]:Enc (List α) where
 enc:=fun xs=>.fU (xs.map enc)
 dep:=Enc.dep α+1
 eqv:=fun a b=>by
  show kY _ _=_;exact Gv a b
 sn:=fun G n t h=>by
  obtain⟨m,rfl⟩:∃ m,n=m+1:=⟨n - 1,by lia⟩;exact wI G m (by lia) t
section
variable {α:Type} [DecidableEq α] [Enc α]
theorem EE(L:List α)(t:α):(L.map enc).any (jT · (enc t))=decide (t∈L):=by
 induction L with
 | nil=>simp
 | cons a r ih =>
  simp only [aC,pe,Enc.eqv,ih,cf];by_cases h:a=t
  ·simp [h]
  ·have h':¬ t=a:=fun z=>h z.symm;by_cases h2:t∈r <;> simp [h,h',h2]
end
section
variable {κ α:Type} [DecidableEq κ] [Enc κ] [DecidableEq α] [Enc α]
noncomputable def en(l:List (κ×α)):List (D×D):=l.map fun p=>(enc p.1,enc p.2)
noncomputable def fY(l:List (κ×α))(k:κ):Option α:=(l.find? fun p=>p.1=k).map (·.2)
noncomputable def kq(l:List (κ×α))(k:κ)(v:α):List (κ×α):=if (l.any fun p=>p.1=k)=true then l.map (fun p=>if p.1=k then (p.1,v) else p) else l++[(k,v)]
theorem Ab(l:List (κ×α))(k:κ):look (en l) (enc k)=(fY l k).map enc:=by
 unfold look fY en;induction l with
 | nil=>rfl
 | cons p r ih =>
  rw [aC,fc,fc];simp only [Enc.eqv];by_cases h:p.1=k
  ·simp [h]
  ·simp only [h,decide_false]; exact ih
theorem PW(l:List (κ×α))(k:κ)(v:α):put (en l) (enc k) (enc v)=en (kq l k v):=by
 unfold put kq;have e:((en l).any fun p=>jT p.1 (enc k))=l.any fun p=>decide (p.1=k):=by
  unfold en; rw [List.any_map]; congr 1; funext p; exact Enc.eqv _ _
 rw [e];split
 ·unfold en; rw [gI,gI];refine jh fun p _=>?_;simp only [Function.comp,Enc.eqv,decide_eq_true_eq];split <;> rfl
 ·unfold en; rw [aW]; rfl
theorem m4(l:List (κ×α))(k j:κ)(v:α):fY (kq l k v) j=if k=j then some v else fY l j:=by
 unfold kq;split
 ·rename_i h;unfold fY;induction l with
  | nil=>simp at h
  | cons p r ih =>
   rw [aC,fc,fc];by_cases h1:p.1=k
   ·rw [if_pos h1];by_cases h2:k=j
    ·simp [h1,h2]
    ·have:¬ p.1=j:=fun z=>h2 (h1.symm.trans z);simp only [this,decide_false,h2,if_false];by_cases h3:(r.any fun p=>decide (p.1=k))=true
     ·have:=ih h3;rw [if_neg h2] at this;exact this
     ·congr 1;have:r.map (fun p=>if p.1=k then (p.1,v) else p)=r:=by
       conv=>rhs; rw [<-List.map_id r]
       refine jh fun q hq=>?_;rw [if_neg]; rfl;intro z; exact h3 (List.any_eq_true.mpr ⟨q,hq,by simpa using z⟩)
      rw [this]
   ·rw [if_neg h1];have h3:(r.any fun p=>decide (p.1=k))=true:=by simpa [h1] using h
    by_cases h2:p.1=j
    ·have:¬ k=j:=fun z=>h1 (h2.trans z.symm);simp [h2,this]
    ·simp only [h2,decide_false]; exact ih h3
 ·rename_i h;unfold fY;rw [Ck];by_cases h2:k=j
  ·subst h2;have:l.find? (fun p=>decide (p.1=k))=none:=by
    rw [qS];intro p hp z;exact h (List.any_eq_true.mpr ⟨p,hp,z⟩)
   rw [this]; simp
  ·simp [h2]
theorem pQ(l:List (κ×α))(k:κ)(v:α):(kq l k v).length<=l.length+1:=by
 unfold kq; split <;> simp
end
class oZ (κ:Type) [DecidableEq κ] [Enc κ] where
 ok:(∀ k:κ,gB (enc k)=true)\/∀ k:κ,ue (enc k)=true
noncomputable instance:oZ Int:=⟨.inl fun _=>rfl⟩
noncomputable instance:oZ T2:=⟨.inr fun _=>rfl⟩
noncomputable instance:oZ T3:=⟨.inr fun _=>rfl⟩
theorem qg{κ α:Type} [DecidableEq κ] [Enc κ] [oZ κ] [DecidableEq α] [Enc α](l:List (κ×α))(k:κ):ja (en l) (enc k)=true:=by
 unfold ja en;rcases oZ.ok (κ:=κ) with h | h
 ·rw [pT]; left;rw [h k,tJ,O0,oi];intro p _; exact h p.1
 ·rw [pT]; right;rw [h k,tJ,O0,oi];intro p _; exact h p.1
end K2
end
section
namespace K2
open PySem (Str)
open Enc (enc)
mutual
noncomputable def Ij:D->D->Bool
 | .int a,.int b=>decide (a < b)
 | .tup a,.tup b=>pH a b
 | .fU a,.fU b=>pH a b
 | _,_=>false
noncomputable def pH:List D->List D->Bool
 | [],[]=>false
 | [],_ :: _=>true
 | _ :: _,[]=>false
 | x :: xs,y :: ys=>if jT x y=true then pH xs ys else Ij x y
end
theorem ub(x y:D)(xs ys:List D):pH (x :: xs) (y :: ys)=if jT x y=true then pH xs ys else Ij x y:=rfl
theorem Nu(a b:Int):Ij (.int a) (.int b)=decide (a < b):=rfl
inductive wA where
 | int | tup (l:List wA) | lst (s:wA)
mutual
noncomputable def ik:wA->D->Bool
 | .int,.int _=>true
 | .tup l,.tup ds=>jI l ds
 | .lst s,.fU ds=>jc s ds
 | _,_=>false
noncomputable def jI:List wA->List D->Bool
 | [],[]=>true
 | s :: l,d :: ds=>ik s d&&jI l ds
 | _,_=>false
noncomputable def jc:wA->List D->Bool
 | _,[]=>true
 | s,d :: ds=>ik s d&&jc s ds
end
theorem ij{a:D}(h:ik .int a=true):∃ i,a=.int i:=by cases a <;> first | exact⟨_,rfl⟩ | exact bT (show false=true from h)
theorem ie{l:List wA}{a:D}(h:ik (.tup l) a=true):∃ x,a=.tup x:=by cases a <;> first | exact⟨_,rfl⟩ | exact bT (show false=true from h)
theorem ig{l:wA}{a:D}(h:ik (.lst l) a=true):∃ x,a=.fU x:=by cases a <;> first | exact⟨_,rfl⟩ | exact bT (show false=true from h)
mutual
noncomputable def Uc:wA->Nat
 | .int=>0
 | .tup l=>Oj l+1
 | .lst s=>Uc s+1
noncomputable def Oj:List wA->Nat
 | []=>0
 | s :: l=>max (Uc s) (Oj l)
end
class cA (α:Type) [DecidableEq α] [Enc α] where
 lt:α->α->Bool
 RR:wA
 N4:∀ a:α,ik RR (enc a)=true
 Vr:∀ a b:α,Ij (enc a) (enc b)=lt a b
 O9:∀ a,lt a a=false
 trans:∀ a b c,lt a b=true->lt b c=true->lt a c=true
 PA:∀ a b,lt a b=false->lt b a=false->a=b
noncomputable instance:cA Int where
 lt:=fun a b=>decide (a < b)
 RR:=.int
 N4:=fun _=>rfl
 Vr:=fun a b=>rfl
 O9:=fun a=>by simp
 trans:=fun a b c h1 h2=>by simp at *; lia
 PA:=fun a b h1 h2=>by simp at *; lia
noncomputable def vo{α:Type} [DecidableEq α](lt:α->α->Bool):List α->List α->Bool
 | [],[]=>false
 | [],_ :: _=>true
 | _ :: _,[]=>false
 | x :: xs,y :: ys=>if x=y then vo lt xs ys else lt x y
theorem Ap{α:Type} [DecidableEq α](lt:α->α->Bool)(x y:α)(xs ys:List α):vo lt (x :: xs) (y :: ys)=if x=y then vo lt xs ys else lt x y:=rfl
section
variable {α:Type} [DecidableEq α] {lt:α->α->Bool}
theorem vn:∀ x:List α,vo lt x x=false
 | []=>rfl
 | a :: x=>by simp only [Ap,if_true]; exact vn x
theorem vm(t:∀ a b,lt a b=false->lt b a=false->a=b):∀ (x y:List α),vo lt x y=false->vo lt y x=false->x=y
 | [],[],_,_=>rfl
 | [],_ :: _,h,_=>by cases h
 | _ :: _,[],_,h=>by cases h
 | a :: x,b :: y,h1,h2=>by
  simp only [Ap] at h1 h2;by_cases e:a=b
  ·subst e;simp only [if_true] at h1 h2;rw [vm t x y h1 h2]
  ·rw [if_neg e] at h1;rw [if_neg (dR e)] at h2;exact absurd (t a b h1 h2) e
theorem qf(ir:∀ a,lt a a=false)(tr:∀ a b c,lt a b=true->lt b c=true->lt a c=true):∀ (x y z:List α),vo lt x y=true->vo lt y z=true->vo lt x z=true
 | [],[],_,h,_=>by cases h
 | [],_ :: _,[],_,h=>by cases h
 | [],_ :: _,_ :: _,_,_=>rfl
 | _ :: _,[],_,h,_=>by cases h
 | _ :: _,_ :: _,[],_,h=>by cases h
 | a :: x,b :: y,c :: z,h1,h2=>by
  simp only [Ap] at h1 h2 ⊢;by_cases e1:a=b
  ·subst e1;simp only [if_true] at h1;by_cases e2:a=c
   ·subst e2;simp only [if_true] at h2 ⊢;exact qf ir tr x y z h1 h2
   ·rw [if_neg e2] at h2 ⊢; exact h2
  ·rw [if_neg e1] at h1;by_cases e2:b=c
   ·subst e2;rw [if_neg e1]; exact h1
   ·rw [if_neg e2] at h2;have h3:=tr _ _ _ h1 h2;rw [if_neg (by rintro rfl; rw [ir] at h3; cases h3)]; exact h3
end
theorem vk{α:Type} [DecidableEq α] [Enc α] [cA α]:∀ (x y:List α),pH (x.map enc) (y.map enc)=vo (cA.lt (α:=α)) x y
 | [],[]=>rfl
 | [],_ :: _=>rfl
 | _ :: _,[]=>rfl
 | a :: x,b :: y=>by simp only [aC,ub,Ap,Enc.eqv,vk x y,cA.Vr,decide_eq_true_eq]
theorem CN{α:Type} [DecidableEq α] [Enc α] [cA α]:∀ (x:List α),jc (cA.RR α) (x.map enc)=true
 | []=>rfl
 | a :: x=>by simp only [aC,jc,cA.N4,CN x,Bool.and_self]
noncomputable instance {α:Type} [DecidableEq α] [Enc α] [cA α]:cA (List α) where
 lt:=vo cA.lt
 RR:=.lst (cA.RR α)
 N4:=fun a=>CN a
 Vr:=fun a b=>vk a b
 O9:=vn
 trans:=qf cA.O9 cA.trans
 PA:=vm cA.PA
noncomputable def T2.l(t:T2):List Int:=[t.a,t.b]
noncomputable def T3.l(t:T3):List Int:=[t.a,t.b,t.c]
noncomputable instance:cA T2 where
 lt:=fun x y=>vo (fun a b=>decide (a < b)) x.l y.l
 RR:=.tup [.int,.int]
 N4:=fun _=>rfl
 Vr:=fun a b=>vk a.l b.l
 O9:=fun a=>vn _
 trans:=fun a b c=>qf (α:=Int) cA.O9 cA.trans _ _ _
 PA:=fun ⟨a,b⟩ ⟨c,d⟩ h1 h2=>by
  have:=vm (α:=Int) cA.PA _ _ h1 h2;simpa [T2.l] using this
noncomputable instance:cA T3 where
 lt:=fun x y=>vo (fun a b=>decide (a < b)) x.l y.l
 RR:=.tup [.int,.int,.int]
 N4:=fun _=>rfl
 Vr:=fun a b=>vk a.l b.l
 O9:=fun a=>vn _
 trans:=fun a b c=>qf (α:=Int) cA.O9 cA.trans _ _ _
 PA:=fun ⟨a,b,e⟩ ⟨c,d,f⟩ h1 h2=>by
  have:=vm (α:=Int) cA.PA _ _ h1 h2;simpa [T3.l] using this
section
variable {α:Type} [DecidableEq α] [Enc α] [cA α]
noncomputable def Bq(a b:α):Bool:=!cA.lt b a
noncomputable def RN(xs:List α):List α:=xs.mergeSort Bq
theorem wX(a b c:α)(h1:Bq a b=true)(h2:Bq b c=true):Bq a c=true:=by
 unfold Bq at *;simp only [Cm] at *;cases h:cA.lt c a with
 | false=>rfl
 | true =>
  by_cases e:a=b
  ·subst e; rw [h] at h2; cases h2
  ·have Qq:cA.lt a b=true:=by
    cases q:cA.lt a b with
    | true=>rfl
    | false=>exact absurd (cA.PA _ _ q h1) e
   rw [cA.trans _ _ _ h Qq] at h2; cases h2
theorem Lg(a b:α):(Bq a b||Bq b a)=true:=by
 unfold Bq;cases h:cA.lt b a with
 | false=>rfl
 | true =>
  cases h2:cA.lt a b with
  | false=>rfl
  | true=>have:=cA.trans _ _ _ h h2; rw [cA.O9] at this; cases this
theorem Av(a b:α)(h1:Bq a b=true)(h2:Bq b a=true):a=b:=by
 unfold Bq at *;exact cA.PA a b (by simpa using h2) (by simpa using h1)
theorem Fi(xs:List α):(RN xs).Perm xs:=List.mergeSort_perm xs Bq
theorem HJ(xs:List α):(RN xs).Pairwise fun a b=>Bq a b=true:=List.pairwise_mergeSort wX Lg xs
theorem Bt:∀ {xs ys:List α},xs.Perm ys->xs.Pairwise (fun a b=>Bq a b=true)->ys.Pairwise (fun a b=>Bq a b=true)->xs=ys:=by
 intro xs ys hp h1 h2;exact List.Perm.eq_of_pairwise (fun a b _ _ h h'=>Av a b h h') h1 h2 hp
theorem PG{xs:List α}{x:α}:x∈RN xs↔x∈xs:=(Fi xs).mem_iff
end
end K2
end
section
namespace K2
open PySem (Str)
mutual
theorem lI:∀ (sh:wA) (a:D),ik sh a=true->jT a a=true
 | .int,.int i,_=>by show (i == i)=true; exact beq_self_eq_true i
 | .tup l,.tup xs,h=>by show kY xs xs=true; exact xX l xs h
 | .lst l,.fU xs,h=>by show kY xs xs=true; exact xY l xs h
theorem xX:∀ (l:List wA) (xs:List D),jI l xs=true->kY xs xs=true
 | [],[],_=>rfl
 | s :: l,x :: xs,h=>by
  have h:(ik s x&&jI l xs)=true:=h;rw [bj] at h;show (jT x x&&kY xs xs)=true;rw [lI s x h.1,xX l xs h.2]; rfl
theorem xY:∀ (s:wA) (xs:List D),jc s xs=true->kY xs xs=true
 | _,[],_=>rfl
 | s,x :: xs,h=>by
  have h:(ik s x&&jc s xs)=true:=h;rw [bj] at h;show (jT x x&&kY xs xs)=true;rw [lI s x h.1,xY s xs h.2]; rfl
end
theorem Ti(s:wA)(ih:∀ (a b:D),ik s a=true->ik s b=true->jT a b=true->a=b):∀ (xs ys:List D),jc s xs=true->jc s ys=true->kY xs ys=true->xs=ys:=by
 intro xs;induction xs with
 | nil=>intro ys _ _ h; cases ys with
  | nil=>rfl
  | cons _ _=>cases h
 | cons x xs Vw =>
  intro ys h1 h2 h;cases ys with
  | nil=>cases h
  | cons y ys =>
   have h1:(ik s x&&jc s xs)=true:=h1;have h2:(ik s y&&jc s ys)=true:=h2;have h:(jT x y&&kY xs ys)=true:=h;rw [bj] at h1 h2 h;rw [ih x y h1.1 h2.1 h.1,Vw ys h1.2 h2.2 h.2]
mutual
theorem qQ:∀ (sh:wA) (a b:D),ik sh a=true->ik sh b=true->jT a b=true->a=b
 | .int,a,b,h1,h2,h=>by
  first | obtain⟨_,rfl⟩:=ij h1 | obtain⟨_,rfl⟩:=ie h1 | obtain⟨_,rfl⟩:=ig h1
  first | obtain⟨_,rfl⟩:=ij h2 | obtain⟨_,rfl⟩:=ie h2 | obtain⟨_,rfl⟩:=ig h2
  rw [r0] at h; rw [beq_iff_eq.mp h]
 | .tup l,a,b,h1,h2,h=>by
  first | obtain⟨_,rfl⟩:=ij h1 | obtain⟨_,rfl⟩:=ie h1 | obtain⟨_,rfl⟩:=ig h1
  first | obtain⟨_,rfl⟩:=ij h2 | obtain⟨_,rfl⟩:=ie h2 | obtain⟨_,rfl⟩:=ig h2
  rw [Og l _ _ h1 h2 h]
 | .lst l,a,b,h1,h2,h=>by
  first | obtain⟨_,rfl⟩:=ij h1 | obtain⟨_,rfl⟩:=ie h1 | obtain⟨_,rfl⟩:=ig h1
  first | obtain⟨_,rfl⟩:=ij h2 | obtain⟨_,rfl⟩:=ie h2 | obtain⟨_,rfl⟩:=ig h2
  rw [Ti l (qQ l) _ _ h1 h2 h]
theorem Og:∀ (l:List wA) (xs ys:List D),jI l xs=true->jI l ys=true->kY xs ys=true->xs=ys
 | [],xs,ys,h1,h2,_=>by
  cases xs with
  | nil=>cases ys with
   | nil=>rfl
   | cons _ _=>cases h2
  | cons _ _=>cases h1
 | s :: l,xs,ys,h1,h2,h=>by
  cases xs with
  | nil=>cases h1
  | cons x xs =>
   cases ys with
   | nil=>cases h2
   | cons y ys =>
    have h1:(ik s x&&jI l xs)=true:=h1;have h2:(ik s y&&jI l ys)=true:=h2;have h:(jT x y&&kY xs ys)=true:=h;rw [bj] at h1 h2 h;rw [qQ s x y h1.1 h2.1 h.1,Og l xs ys h1.2 h2.2 h.2]
end
theorem Nt(s:wA)(ih:∀ (a b:D),ik s a=true->ik s b=true->Ij a b=false->Ij b a=false->a=b):∀ (xs ys:List D),jc s xs=true->jc s ys=true->pH xs ys=false->pH ys xs=false->xs=ys:=by
 intro xs;induction xs with
 | nil=>intro ys _ _ h _; cases ys with
  | nil=>rfl
  | cons _ _=>cases h
 | cons x xs Vw =>
  intro ys h1 h2 h3 h4;cases ys with
  | nil=>cases h4
  | cons y ys =>
   have h1:(ik s x&&jc s xs)=true:=h1;have h2:(ik s y&&jc s ys)=true:=h2;rw [bj] at h1 h2;simp only [ub] at h3 h4;by_cases e:jT x y=true
   ·have Z6:=qQ s x y h1.1 h2.1 e;subst Z6;rw [if_pos e] at h3 h4;rw [Vw ys h1.2 h2.2 h3 h4]
   ·rw [if_neg e] at h3;by_cases e2:jT y x=true
    ·have:=qQ s y x h2.1 h1.1 e2;subst this; exact absurd e2 e
    ·rw [if_neg e2] at h4;have:=ih x y h1.1 h2.1 h3 h4;subst this;exact absurd (lI s x h1.1) e
mutual
theorem JS:∀ (sh:wA) (a b:D),ik sh a=true->ik sh b=true->Ij a b=false->Ij b a=false->a=b
 | .int,a,b,h1,h2,h3,h4=>by
  first | obtain⟨_,rfl⟩:=ij h1 | obtain⟨_,rfl⟩:=ie h1 | obtain⟨_,rfl⟩:=ig h1
  first | obtain⟨_,rfl⟩:=ij h2 | obtain⟨_,rfl⟩:=ie h2 | obtain⟨_,rfl⟩:=ig h2
  simp [Nu] at h3 h4; congr 1; lia
 | .tup l,a,b,h1,h2,h3,h4=>by
  first | obtain⟨_,rfl⟩:=ij h1 | obtain⟨_,rfl⟩:=ie h1 | obtain⟨_,rfl⟩:=ig h1
  first | obtain⟨_,rfl⟩:=ij h2 | obtain⟨_,rfl⟩:=ie h2 | obtain⟨_,rfl⟩:=ig h2
  rw [FR l _ _ h1 h2 h3 h4]
 | .lst l,a,b,h1,h2,h3,h4=>by
  first | obtain⟨_,rfl⟩:=ij h1 | obtain⟨_,rfl⟩:=ie h1 | obtain⟨_,rfl⟩:=ig h1
  first | obtain⟨_,rfl⟩:=ij h2 | obtain⟨_,rfl⟩:=ie h2 | obtain⟨_,rfl⟩:=ig h2
  rw [Nt l (JS l) _ _ h1 h2 h3 h4]
theorem FR:∀ (l:List wA) (xs ys:List D),jI l xs=true->jI l ys=true->pH xs ys=false->pH ys xs=false->xs=ys
 | [],xs,ys,h1,h2,_,_=>by
  cases xs with
  | nil=>cases ys with
   | nil=>rfl
   | cons _ _=>cases h2
  | cons _ _=>cases h1
 | s :: l,xs,ys,h1,h2,h3,h4=>by
  cases xs with
  | nil=>cases h1
  | cons x xs =>
   cases ys with
   | nil=>cases h2
   | cons y ys =>
    have h1:(ik s x&&jI l xs)=true:=h1;have h2:(ik s y&&jI l ys)=true:=h2;rw [bj] at h1 h2;simp only [ub] at h3 h4;by_cases e:jT x y=true
    ·have Z6:=qQ s x y h1.1 h2.1 e;subst Z6;rw [if_pos e] at h3 h4;rw [FR l xs ys h1.2 h2.2 h3 h4]
    ·rw [if_neg e] at h3;by_cases e2:jT y x=true
     ·have:=qQ s y x h2.1 h1.1 e2;subst this; exact absurd e2 e
     ·rw [if_neg e2] at h4;have:=JS s x y h1.1 h2.1 h3 h4;subst this;exact absurd (lI s x h1.1) e
end
mutual
theorem JT:∀ (sh:wA) (a:D),ik sh a=true->Ij a a=false
 | .int,.int i,_=>by rw [Nu]; exact decide_eq_false (Int.lt_irrefl _)
 | .tup l,.tup xs,h=>by show pH xs xs=false; exact FT l xs h
 | .lst l,.fU xs,h=>by show pH xs xs=false; exact FU l xs h
theorem FT:∀ (l:List wA) (xs:List D),jI l xs=true->pH xs xs=false
 | [],[],_=>rfl
 | s :: l,x :: xs,h=>by
  have h:(ik s x&&jI l xs)=true:=h;rw [bj] at h;simp only [ub,lI s x h.1,if_true]; exact FT l xs h.2
theorem FU:∀ (s:wA) (xs:List D),jc s xs=true->pH xs xs=false
 | _,[],_=>rfl
 | s,x :: xs,h=>by
  have h:(ik s x&&jc s xs)=true:=h;rw [bj] at h;simp only [ub,lI s x h.1,if_true]; exact FU s xs h.2
end
theorem Ii(s:wA)(ih:∀ (a b c:D),ik s a=true->ik s b=true->ik s c=true->Ij a b=true->Ij b c=true->Ij a c=true):∀ (xs ys zs:List D),jc s xs=true->jc s ys=true->jc s zs=true->pH xs ys=true->pH ys zs=true->pH xs zs=true:=by
 intro xs;induction xs with
 | nil =>
  intro ys zs _ _ _ h4 h5;cases ys with
  | nil=>cases h4
  | cons _ _=>cases zs with
   | nil=>cases h5
   | cons _ _=>rfl
 | cons x xs Vw =>
  intro ys zs h1 h2 h3 h4 h5;cases ys with
  | nil=>cases h4
  | cons y ys =>
   cases zs with
   | nil=>cases h5
   | cons z zs =>
    have h1:(ik s x&&jc s xs)=true:=h1;have h2:(ik s y&&jc s ys)=true:=h2;have h3:(ik s z&&jc s zs)=true:=h3;rw [bj] at h1 h2 h3;simp only [ub] at h4 h5 ⊢;by_cases e1:jT x y=true
    ·have:=qQ s x y h1.1 h2.1 e1;subst this;rw [if_pos e1] at h4;by_cases e2:jT x z=true
     ·rw [if_pos e2] at h5 ⊢;exact Vw ys zs h1.2 h2.2 h3.2 h4 h5
     ·rw [if_neg e2] at h5 ⊢; exact h5
    ·rw [if_neg e1] at h4;by_cases e2:jT y z=true
     ·have:=qQ s y z h2.1 h3.1 e2;subst this;rw [if_neg e1]; exact h4
     ·rw [if_neg e2] at h5;have h6:=ih x y z h1.1 h2.1 h3.1 h4 h5;rw [if_neg (fun e3=>by
       have:=qQ s x z h1.1 h3.1 e3;subst this;rw [JT s x h1.1] at h6; cases h6)]
      exact h6
mutual
theorem CG:∀ (sh:wA) (a b c:D),ik sh a=true->ik sh b=true->ik sh c=true->Ij a b=true->Ij b c=true->Ij a c=true
 | .int,a,b,c,h1,h2,h3,h4,h5=>by
  first | obtain⟨_,rfl⟩:=ij h1 | obtain⟨_,rfl⟩:=ie h1 | obtain⟨_,rfl⟩:=ig h1
  first | obtain⟨_,rfl⟩:=ij h2 | obtain⟨_,rfl⟩:=ie h2 | obtain⟨_,rfl⟩:=ig h2
  first | obtain⟨_,rfl⟩:=ij h3 | obtain⟨_,rfl⟩:=ie h3 | obtain⟨_,rfl⟩:=ig h3
  simp [Nu] at *; lia
 | .tup l,a,b,c,h1,h2,h3,h4,h5=>by
  first | obtain⟨_,rfl⟩:=ij h1 | obtain⟨_,rfl⟩:=ie h1 | obtain⟨_,rfl⟩:=ig h1
  first | obtain⟨_,rfl⟩:=ij h2 | obtain⟨_,rfl⟩:=ie h2 | obtain⟨_,rfl⟩:=ig h2
  first | obtain⟨_,rfl⟩:=ij h3 | obtain⟨_,rfl⟩:=ie h3 | obtain⟨_,rfl⟩:=ig h3
  exact z0 l _ _ _ h1 h2 h3 h4 h5
 | .lst l,a,b,c,h1,h2,h3,h4,h5=>by
  first | obtain⟨_,rfl⟩:=ij h1 | obtain⟨_,rfl⟩:=ie h1 | obtain⟨_,rfl⟩:=ig h1
  first | obtain⟨_,rfl⟩:=ij h2 | obtain⟨_,rfl⟩:=ie h2 | obtain⟨_,rfl⟩:=ig h2
  first | obtain⟨_,rfl⟩:=ij h3 | obtain⟨_,rfl⟩:=ie h3 | obtain⟨_,rfl⟩:=ig h3
  exact Ii l (CG l) _ _ _ h1 h2 h3 h4 h5
theorem z0:∀ (l:List wA) (xs ys zs:List D),jI l xs=true->jI l ys=true->jI l zs=true->pH xs ys=true->pH ys zs=true->pH xs zs=true
 | [],xs,ys,zs,h1,h2,_,h,_=>by
  cases xs with
  | nil=>cases ys with
   | nil=>cases h
   | cons _ _=>cases h2
  | cons _ _=>cases h1
 | s :: l,xs,ys,zs,h1,h2,h3,h4,h5=>by
  cases xs with
  | nil=>cases h1
  | cons x xs =>
   cases ys with
   | nil=>cases h2
   | cons y ys =>
    cases zs with
    | nil=>cases h3
    | cons z zs =>
     have h1:(ik s x&&jI l xs)=true:=h1;have h2:(ik s y&&jI l ys)=true:=h2;have h3:(ik s z&&jI l zs)=true:=h3;rw [bj] at h1 h2 h3;simp only [ub] at h4 h5 ⊢;by_cases e1:jT x y=true
     ·have:=qQ s x y h1.1 h2.1 e1;subst this;rw [if_pos e1] at h4;by_cases e2:jT x z=true
      ·rw [if_pos e2] at h5 ⊢;exact z0 l xs ys zs h1.2 h2.2 h3.2 h4 h5
      ·rw [if_neg e2] at h5 ⊢; exact h5
     ·rw [if_neg e1] at h4;by_cases e2:jT y z=true
      ·have:=qQ s y z h2.1 h3.1 e2;subst this;rw [if_neg e1]; exact h4
      ·rw [if_neg e2] at h5;have h6:=CG s x y z h1.1 h2.1 h3.1 h4 h5;rw [if_neg (fun e3=>by
        have:=qQ s x z h1.1 h3.1 e3;subst this;rw [JT s x h1.1] at h6; cases h6)]
       exact h6
end
end K2
end
section
namespace K2
open PySem (Str)
open Enc (enc)
noncomputable def Yj(P:D->D->Gp->Prop):List D->Gp->Prop
 | [x,y],G=>P x y G
 | _,_=>False
noncomputable def tu:List D->List D->List D
 | x :: xs,y :: ys=>.tup [x,y] :: tu xs ys
 | _,_=>[]
theorem E7:∀ (xs ys:List D) (i:Nat),(tu xs ys)[i]?=(xs[i]?).bind fun x=>(ys[i]?).map fun y=>D.tup [x,y]
 | [],ys,i=>by simp [tu]
 | x :: xs,[],i=>by cases h:(x :: xs)[i]? <;> simp [tu]
 | x :: xs,y :: ys,0=>by simp [tu]
 | x :: xs,y :: ys,i+1=>by rw [tu,ae,E7 xs ys i,ae,ae]
theorem E6:∀ (xs ys:List D),(tu xs ys).length=min xs.length ys.length
 | [],ys=>by simp [tu]
 | x :: xs,[]=>by simp [tu]
 | x :: xs,y :: ys=>by rw [tu,aq,E6 xs ys,aq,aq]; lia
noncomputable def Aa(x:D)(G:Gp):Option (List D×(Gp->Prop)):=match x with
 | .fU ds=>some (ds,fun _=>True)
 | .ref p=>(match G p with
  | some (.lst ds)=>some (ds,fun G2=>G2 p=some (.lst ds))
  | _=>none)
 | _=>none
noncomputable def AB(x y:D)(G1:Gp)(R:List D->(Gp->Prop)->Gp->Prop):Prop:=match Aa x G1,Aa y G1 with
 | some (xs,k1),some (ys,k2)=>R (tu xs ys) (fun G2=>k1 G2/\k2 G2) G1
 | _,_=>False
noncomputable def SE(a b:iu):QJ:=fun E τ G R=>a E τ G fun x G1=>b E τ G1 fun y G2=>AB x y G2 R
noncomputable def IsL(G:Gp)(d:D)(ds:List D):Prop:=d=.fU ds\/∃ a,d=.ref a/\G a=some (.lst ds)
theorem IsL.enc{α:Type} [DecidableEq α] [Enc α]{G:Gp}(xs:List α):IsL G (enc xs) (xs.map enc):=.inl rfl
theorem IsL.ref{G:Gp}{a:Nat}{ds:List D}(h:G a=some (.lst ds)):IsL G (.ref a) ds:=.inr ⟨a,rfl,h⟩
theorem IsL.mono{G G':Gp}{d:D}{ds:List D}(h:IsL G d ds)(l:e8 G G'):IsL G' d ds:=by
 rcases h with h | ⟨a,h,e⟩
 ·exact .inl h
 ·exact .inr ⟨a,h,l a _ e⟩
theorem SF{G:Gp}{d:D}{ds:List D}{R:List D->(Gp->Prop)->Gp->Prop}(h:IsL G d ds)(k:∀ ok:Gp->Prop,(∀ G',e8 G G'->ok G')->R ds ok G):NM d G R:=by
 rcases h with rfl | ⟨a,rfl,e⟩
 ·exact k _ fun _ _=>trivial
 ·rw [sS e]; exact k _ fun G' l=>l a _ e
theorem JZ {G:Gp} {d:D} {ds:List D} {C:String} {Q:DK} (h:IsL G d ds) (k:Q (.bl (C == "list")) G):isAt C d G Q:=by
 rcases h with rfl | ⟨a,rfl,e⟩
 ·exact k
 ·rw [NG e]; exact k
theorem MI{G:Gp}{d:D}{ds:List D}{Q:Bool->Gp->Prop}(h:IsL G d ds)(k:Q (!ds.isEmpty) G):tM d G Q:=by
 rcases h with rfl | ⟨a,rfl,e⟩
 ·exact k
 ·rw [KH e]; exact k
theorem Az{G:Gp}{d:D}{ds:List D}(h:IsL G d ds):itemsOf d G=some ds:=by
 rcases h with rfl | ⟨a,rfl,e⟩
 ·rfl
 ·unfold itemsOf; simp only [e]
theorem RG{G:Gp}{d:D}{ds:List D}(h:IsL G d ds):uA d G:=by
 rcases h with rfl | ⟨a,rfl,e⟩
 ·trivial
 ·unfold uA; simp only [e]
theorem rN{G:Gp}{d:D}{ds:List D}{lo hi:Option Int}{Q:DK}(h:IsL G d ds)(k:jR G (.lst (cut ds lo hi)) Q):M6 d lo hi G Q:=by
 rcases h with rfl | ⟨a,rfl,e⟩
 ·exact k
 ·rw [PQ e]; exact k
theorem gk{G:Gp}{d:D}{ds:List D}{Q:DK}(h:IsL G d ds)(k:Q (.int (ds.length:Int)) G):iq [d] G Q:=by
 rcases h with rfl | ⟨a,rfl,e⟩
 ·exact k
 ·rw [OF e]; exact k
theorem GQ{G:Gp}{d:D}{ds:List D}{Q:DK}(h:IsL G d ds)(k:jR G (.lst ds) Q):pP [d] G Q:=by
 unfold pP; simp only [Az h]; exact k
theorem dE{G:Gp}{d x:D}{ds:List D}{i:Int}{Q:DK}(h:IsL G d ds)(e:nT ds i=some x)(k:Q x G):ee d (.int i) G Q:=by
 rcases h with rfl | ⟨a,rfl,e2⟩
 ·rw [PR e]; exact k
 ·rw [PT e2 e]; exact k
theorem lZ{G:Gp}{d:D}{ds:List D}(h:IsL G d ds):rQ d G=some ds:=by
 rcases h with rfl | ⟨a,rfl,e⟩
 ·rfl
 ·unfold rQ; simp only [e]
theorem QI{G:Gp}{d e:D}{ds es:List D}{Q:DK}(h:IsL G d ds)(h':IsL G e es)(hz:ds.length+es.length<=SZ)(k:jR G (.lst (ds++es)) Q):A8 d e G Q:=by
 unfold A8; simp only [lZ h,lZ h']; exact⟨hz,k⟩
theorem DH{G:Gp}{d e:D}{ds es:List D}{Q:DK}(h:IsL G d ds)(h':IsL G e es)(hz:ds.length+es.length<=SZ)(k:jR G (.lst (ds++es)) Q):jl d e G Q:=by
 have:=QI h h' hz k;rcases h with rfl | ⟨a,rfl,_⟩
 ·rw [ve]; exact this
 ·rw [pD]; exact this
theorem vQ{α:Type}(xs:List α)(i:Nat)(h:i<=xs.length):cut xs (some (i:Int)) none=xs.drop i:=by
 unfold cut j8;simp only;rw [if_neg (by lia),dZ,Nat.min_eq_left h];exact mM (by rw [eI]; lia)
theorem Es{α:Type}(xs:List α)(i:Nat)(h:i<=xs.length):cut xs none (some (i:Int))=xs.take i:=by
 unfold cut j8;simp only;rw [if_neg (by lia),dZ,Nat.min_eq_left h];simp
theorem oB{α β:Type}(f:α->β)(xs:List α)(lo hi:Option Int):cut (xs.map f) lo hi=(cut xs lo hi).map f:=by
 unfold cut; rw [av,Bm,Bn]
theorem fS{α:Type}(xs:List α){k:Int}(h0:0<=k)(h1:k < xs.length):nT xs k=some (xs[k.toNat]'(by lia)):=by
 unfold nT Lm;rw [if_pos h0,if_pos h1];show xs[k.toNat]?=_;exact aU (by lia)
theorem lF{n:Nat}{pre post:List D}{d:D}(h:ek 0 n=pre++d :: post):d=.int (pre.length:Int)/\pre.length < n:=by
 have hl:pre.length < n:=by
  have:=congrArg dD h;simp [ek] at this; lia
 have:=congrArg (fun l=>l[pre.length]?) h;simp only [ek,dS,List.getElem?_range hl] at this;rw [bh (bp _)] at this;simp at this;exact⟨this.symm,hl⟩
noncomputable def UU{α β:Type} [DecidableEq α] [Enc α] [DecidableEq β] [Enc β](pre:α->Prop)(f:α->β):iw:=fun ds G Q _=>∃ a:α,ds=[enc a]/\pre a/\Q (enc (f a)) G
noncomputable def XX{α β γ:Type} [DecidableEq α] [Enc α] [DecidableEq β] [Enc β] [DecidableEq γ] [Enc γ](pre:α->β->Prop)(f:α->β->γ):iw:=fun ds G Q _=>∃ (a:α) (b:β),ds=[enc a,enc b]/\pre a b/\Q (enc (f a b)) G
end K2
end
section
namespace K2
open PySem (Str)
open Enc (enc)
section
variable {κ α:Type} [DecidableEq κ] [Enc κ] [DecidableEq α] [Enc α] {l:List (κ×α)} {G G':Gp} {d:D}
noncomputable def IsR(_:Gp)(d:D)(l:List (κ×α)):Prop:=d=.sM (en l)
end
end K2
end
section
namespace K2
open PySem (Str)
open Enc (enc)
noncomputable abbrev TF2:=lq->iH->Gp->(List Str->Gp->Prop)->Prop
end K2
end
section
namespace K2
noncomputable def Er(x:PySem.Str)(t:xr):fN:=fun E _ τ G=>t E τ G fun ds G1=>ds.length<=SZ/\E ⟨x,[]⟩ G1
end K2
namespace K2
open PySem (Str)
noncomputable def IT(sp:iw)(t:xr):iu:=fun E τ G Q=>t E τ G fun ds G1=>sp ds G1 Q E
end K2
end
section
namespace K2
open PySem (Str)
noncomputable def FQ(x:D)(ds:List D)(G:Gp)(Q:DK):Prop:=match x,ds with
 | .ref a,[k,d]=>∃ bC,G a=some (.ka bC)/\ja bC k=true/\Q ((look bC k).getD d) G
 | _,_=>False
theorem FP{κ α:Type} [DecidableEq κ] [Enc κ] [oZ κ] [DecidableEq α] [Enc α]{a:Nat}{l:List (κ×α)}{k:κ}{e:α}{G:Gp}{Q:DK}(h:G a=some (.ka (en l)))(q:Q (Enc.enc ((fY l k).getD e)) G):FQ (.ref a) [Enc.enc k,Enc.enc e] G Q:=by
 refine⟨_,h,qg _ _,?_⟩;have:(look (en l) (Enc.enc k)).getD (Enc.enc e)=Enc.enc ((fY l k).getD e):=by
  rw [Ab]; cases fY l k <;> rfl
 rw [this]; exact q
end K2
end
section
namespace K2
open PySem (Str)
open Enc (enc)
noncomputable def h2(t:T2):Int:=PySem.reduceHash (PySem.Builtin.Tuple.tupleHashOf [PySem.hashInt t.a,PySem.hashInt t.b])
noncomputable def Ki(t:fN):fN:=fun _ K τ G=>t (fun _ _=>False) K τ G
noncomputable def IU(ds:List D)(G:Gp)(Q:DK):Prop:=match ds with
 | [.int a,.int b]=>Q (.int (if a < b then b else a)) G
 | _=>False
end K2
end
section
namespace K2
open PySem (Str)
noncomputable def OL(al:List Str)(f:Str)(x:D)(G:Gp)(Q:DK):Prop:=∃ a c fs d,x=.ref a/\G a=some (.ins c fs)/\c∈al/\fs.lookup f=some d/\Q d G
noncomputable def gr(al:List Str)(f:Str)(te:iu):iu:=fun E τ G Q=>te E τ G fun x G1=>OL al f x G1 Q
end K2
namespace K2
open PySem (Str)
noncomputable def putD(f:Str)(d:D):List (Str×D)->List (Str×D)
 | []=>[(f,d)]
 | (g,x) :: r=>if g=f then (g,d) :: r else (g,x) :: putD f d r
noncomputable def k6(al:List Str)(f:Str)(to tv:iu):fN:=fun E K τ G=>tv E τ G fun d G1=>to E τ G1 fun x G2=>∃ a c fs,x=.ref a/\G2 a=some (.ins c fs)/\c∈al/\fs.length < 1000/\K.nx τ (de G2 a (.ins c (putD f d fs)))
noncomputable def nQ(c:Str)(sp:iw)(t:xr):iu:=fun E τ G Q=>t E τ G fun ds G1=>∀ p,G1 p=none->sp (.ref p :: ds) (de G1 p (.ins c [])) (fun v G2=>v=.j9/\Q (.ref p) G2) fun _ _=>False
end K2
namespace K2
open PySem (Str)
noncomputable def jS(ms:List (Str×iw))(m:Str)(to:iu)(t:xr):iu:=fun E τ G Q=>to E τ G fun x G1=>∃ a c fs sp,x=.ref a/\G1 a=some (.ins c fs)/\(c,sp)∈ms/\fs.lookup m=none/\t E τ G1 fun ds G2=>sp (x :: ds) G2 Q fun _ _=>False
end K2
end
section
namespace K2
open PySem (Str)
noncomputable def Qt(t:A9):B4:=fun E d τ G Q=>match rQ d G with
 | some ds=>t E ds τ G Q
 | none=>False
end K2
end
section
namespace K2
open PySem (Str)
noncomputable def yZ(ms:List (Str×iw))(m:Str)(to:iu)(t:xr):iu:=fun E τ G Q=>to E τ G fun x G1=>∃ a c fs sp,x=.ref a/\G1 a=some (.ins c fs)/\(c,sp)∈ms/\fs.lookup m=none/\t E τ G1 fun ds G2=>sp (x :: ds) G2 Q E
noncomputable def only(a:Nat)(o:GO):Gp:=fun b=>if b=a then some o else none
theorem yV{a:Nat}{o:GO}:only a o a=some o:=by unfold only; rw [if_pos rfl]
noncomputable def GF(ms:List (Str×iw))(m:Str)(to:iu)(t:xr)(cat:List Str)(th:fN):fN:=fun _ K τ G =>
 to (fun _ _=>False) τ G fun x G1=>∃ a c fs sp,x=.ref a/\G1 a=some (.ins c fs)/\(c,sp)∈ms/\fs.lookup m=none/\t (fun _ _=>False) τ G1 fun ds G2=>G2 a=some (.ins c fs) /\
  sp (x :: ds) (only a (.ins c fs)) (fun _ G'=>G' a=some (.ins c fs)/\K.nx τ G2) fun ex G'=>G' a=some (.ins c fs)/\cat.contains ex.cls=true /\
   th (fun _ _=>False) ⟨fun lp G3=>K.nx lp G3,fun _ _=>False,fun _ _=>False,fun _ _=>False⟩ τ G2
end K2
end
section
namespace K2
open Enc (enc)
noncomputable def vS(ds:List D)(G:Gp)(Q:DK):Prop:=match ds with
 | [x]=>∃ ns:List Int,uA x G/\itemsOf x G=some (ns.map enc)/\ns.length < 64/\jR G (.lst ((RN ns).map enc)) Q
 | _=>False
theorem GP{G:Gp}{d:D}{xs:List Int}{Q:DK}(h:IsL G d (xs.map enc))(hl:xs.length < 64)(k:jR G (.lst ((RN xs).map enc)) Q):vS [d] G Q:=⟨xs,RG h,Az h,hl,k⟩
end K2
end
section
namespace K2
open PySem PySem.Spec PyProof.Rows L2
noncomputable def Uk(K:ay)(H:Hp)(a:Addr)(xs:List V):Prop :=
 (∃ o,H a=some (.pO o (.lst xs))) \/
  ∃ (o:Obj) (cy:Array Value) (n:Nat),K.lookup a=some o/\o.cls=.type "list"/\o.dict=none/\o.data=.seq cy n/\cy.size<=bG/\Vals xs cy.toList
theorem Uk.sq{K:ay}{H:Hp}{a:Addr}{xs:List V}(h:Uk K H a xs):sZ K H a xs:=by
 rcases h with ⟨o,h⟩ | h
 ·exact .inl (.inr ⟨o,h⟩)
 ·exact .inr h
noncomputable def gu:Key->D
 | .inl i=>.int i
 | .inr x=>.str x
noncomputable def ExcAt(K:ay)(H:Hp)(a:Addr)(c:Str):Prop:=∃ (o:Obj) (C:Addr),H a=some (.pO o (.ext fun h=>h.get? a=some o))/\o.cls=.ref C/\cI K bz c=some (some (.ref C))
mutual
inductive cZ (K:ay) (H:Hp):V->D->Prop
 | j9:cZ K H .j9 .j9
 | bl (b:Bool):cZ K H (.bl b) (.bl b)
 | int (i:Int):cZ K H (.int i) (.int i)
 | str (x:Str):cZ K H (.str x) (.str x)
 | tup {a:Addr} {vs:List V} {ds:List D}:H a=some (.tup vs)->bx K H vs ds->cZ K H (.ref a) (.tup ds)
 | fU {a:Addr} {vs:List V} {ds:List D}:Uk K H a vs->bx K H vs ds->cZ K H (.ref a) (.fU ds)
 | t9 {a:Addr} {o:Obj} {kv:List (Key×V)} {bC:List (D×D)}:H a=some (.pO o (.dK kv))->q5 K H kv bC->cZ K H (.ref a) (.sM bC)
 | t8 {a:Addr} {o:Obj} {kv:List (List Key×V)} {bC:List (D×D)}:H a=some (.pO o (.dT kv))->rh K H kv bC->cZ K H (.ref a) (.sM bC)
 | ref (a:Addr):cZ K H (.ref a) (.ref a)
 | exc {a:Addr} {c:Str}:ExcAt K H a c->cZ K H (.ref a) (.exc c)
inductive bx (K:ay) (H:Hp):List V->List D->Prop
 | nil:bx K H [] []
 | cons {v:V} {d:D} {vs:List V} {ds:List D}:cZ K H v d->bx K H vs ds->bx K H (v :: vs) (d :: ds)
inductive q5 (K:ay) (H:Hp):List (Key×V)->List (D×D)->Prop
 | nil:q5 K H [] []
 | cons {k:Key} {v:V} {d:D} {r:List (Key×V)} {t:List (D×D)}:cZ K H v d->q5 K H r t->q5 K H ((k,v) :: r) ((gu k,d) :: t)
inductive rh (K:ay) (H:Hp):List (List Key×V)->List (D×D)->Prop
 | nil:rh K H [] []
 | cons {k:List Key} {v:V} {d:D} {r:List (List Key×V)} {t:List (D×D)}:cZ K H v d->rh K H r t->rh K H ((k,v) :: r) ((.tup (k.map gu),d) :: t)
end
structure Kp(H H':Hp):Prop where
 tup:∀ a xs,H a=some (.tup xs)->H' a=some (.tup xs)
 pO:∀ a o u,H a=some (.pO o u)->H' a=some (.pO o u)
theorem Kp.refl(H:Hp):Kp H H:=⟨fun _ _ h=>h,fun _ _ _ h=>h⟩
theorem Kp.trans{H H1 H2:Hp}(a:Kp H H1)(b:Kp H1 H2):Kp H H2:=⟨fun c xs h=>b.tup c xs (a.tup c xs h),fun c o u h=>b.pO c o u (a.pO c o u h)⟩
theorem Kp.sqT{K:ay}{H H':Hp}{a:Addr}{xs:List V}(k:Kp H H')(h:Ba K H a xs):Ba K H' a xs:=by
 rcases h with (h | ⟨o,h⟩) | h
 ·exact .inl (.inl (k.tup _ _ h))
 ·exact .inl (.inr ⟨o,k.pO _ _ _ h⟩)
 ·exact .inr h
theorem Kp.TU{K:ay}{H H':Hp}{a:Addr}{xs:List V}(k:Kp H H')(h:Uk K H a xs):Uk K H' a xs:=by
 rcases h with ⟨o,h⟩ | h
 ·exact .inl ⟨o,k.pO _ _ _ h⟩
 ·exact .inr h
theorem ExcAt.mono{K:ay}{H H':Hp}(k:Kp H H'){a:Addr}{c:Str}(h:ExcAt K H a c):ExcAt K H' a c :=
 let ⟨o,C,h1,h2,h3⟩:=h
 ⟨o,C,k.pO _ _ _ h1,h2,h3⟩
theorem bx.FX{K:ay}{H:Hp}{P:List V->List D->Prop}(h0:P [] [])(h1:∀ {v:V} {d:D} {vs:List V} {ds:List D},cZ K H v d->bx K H vs ds->P vs ds->P (v :: vs) (d :: ds)){vs:List V}{ds:List D}(h:bx K H vs ds):P vs ds :=
 bx.rec (motive_1:=fun _ _ _=>True) (motive_2:=fun vs ds _=>P vs ds) (motive_3:=fun _ _ _=>True) (motive_4:=fun _ _ _=>True) trivial (fun _=>trivial) (fun _=>trivial) (fun _=>trivial) (fun _ _ _=>trivial) (fun _ _ _=>trivial) (fun _ _ _=>trivial) (fun _ _ _=>trivial) (fun _=>trivial) (fun _=>trivial) h0 (fun a b _ ih=>h1 a b ih) trivial (fun _ _ _ _=>trivial) trivial (fun _ _ _ _=>trivial) h
theorem cZ.mono{K:ay}{H H':Hp}(k:Kp H H'):∀ {v:V} {d:D},cZ K H v d->cZ K H' v d:=fun h =>
 cZ.rec (motive_1:=fun v d _=>cZ K H' v d) (motive_2:=fun v d _=>bx K H' v d) (motive_3:=fun v d _=>q5 K H' v d) (motive_4:=fun v d _=>rh K H' v d)
  .j9 .bl .int .str (fun h _ r=>.tup (k.tup _ _ h) r) (fun h _ r=>.fU (k.TU h) r) (fun h _ r=>.t9 (k.pO _ _ _ h) r) (fun h _ r=>.t8 (k.pO _ _ _ h) r) .ref (fun h=>.exc (h.mono k)) .nil (fun _ _ a b=>.cons a b) .nil (fun _ _ a b=>.cons a b) .nil (fun _ _ a b=>.cons a b) h
theorem bx.mono{K:ay}{H H':Hp}(k:Kp H H'){v:List V}{d:List D}(h:bx K H v d):bx K H' v d :=
 bx.FX (P:=fun v d=>bx K H' v d) .nil (fun r _ ih=>.cons (r.mono k) ih) h
theorem q5.mono{K:ay}{H H':Hp}(k:Kp H H'){v:List (Key×V)}{d:List (D×D)}(h:q5 K H v d):q5 K H' v d :=
 q5.rec (motive_1:=fun v d _=>cZ K H' v d) (motive_2:=fun v d _=>bx K H' v d) (motive_3:=fun v d _=>q5 K H' v d) (motive_4:=fun v d _=>rh K H' v d)
  .j9 .bl .int .str (fun h _ r=>.tup (k.tup _ _ h) r) (fun h _ r=>.fU (k.TU h) r) (fun h _ r=>.t9 (k.pO _ _ _ h) r) (fun h _ r=>.t8 (k.pO _ _ _ h) r) .ref (fun h=>.exc (h.mono k)) .nil (fun _ _ a b=>.cons a b) .nil (fun _ _ a b=>.cons a b) .nil (fun _ _ a b=>.cons a b) h
theorem rh.mono{K:ay}{H H':Hp}(k:Kp H H'){v:List (List Key×V)}{d:List (D×D)}(h:rh K H v d):rh K H' v d :=
 rh.rec (motive_1:=fun v d _=>cZ K H' v d) (motive_2:=fun v d _=>bx K H' v d) (motive_3:=fun v d _=>q5 K H' v d) (motive_4:=fun v d _=>rh K H' v d)
  .j9 .bl .int .str (fun h _ r=>.tup (k.tup _ _ h) r) (fun h _ r=>.fU (k.TU h) r) (fun h _ r=>.t9 (k.pO _ _ _ h) r) (fun h _ r=>.t8 (k.pO _ _ _ h) r) .ref (fun h=>.exc (h.mono k)) .nil (fun _ _ a b=>.cons a b) .nil (fun _ _ a b=>.cons a b) .nil (fun _ _ a b=>.cons a b) h
theorem bx.length{K:ay}{H:Hp}:∀ {vs:List V} {ds:List D},bx K H vs ds->vs.length=ds.length:=fun h =>
 bx.FX (P:=fun vs ds=>vs.length=ds.length) rfl (fun _ _ ih=>congrArg (· + 1) ih) h
theorem bx.get{K:ay}{H:Hp}:∀ {vs:List V} {ds:List D} {i:Nat} {d:D},bx K H vs ds->ds[i]?=some d->∃ v,vs[i]?=some v/\cZ K H v d:=by
 intro vs ds i d h;refine bx.FX (P:=fun vs ds=>∀ (i:Nat) (d:D),ds[i]?=some d->∃ v,vs[i]?=some v/\cZ K H v d) (fun i d e=>by cases e) (fun r _ ih i d e=>?_) h i d;cases i with
 | zero=>cases e; exact⟨_,rfl,r⟩
 | succ i=>exact ih i d e
theorem bx.append{K:ay}{H:Hp}:∀ {vs ws:List V} {ds es:List D},bx K H vs ds->bx K H ws es->bx K H (vs++ws) (ds++es):=fun {_ ws _ es} h s =>
 bx.FX (P:=fun vs ds=>bx K H (vs++ws) (ds++es)) s (fun r _ ih=>.cons r ih) h
theorem bx.take{K:ay}{H:Hp}:∀ {vs:List V} {ds:List D} (n:Nat),bx K H vs ds->bx K H (vs.take n) (ds.take n):=fun {_ _} n h =>
 bx.FX (P:=fun vs ds=>∀ n,bx K H (vs.take n) (ds.take n)) (fun n=>by rw [Bl,Bl]; exact .nil) (fun r _ ih n=>by
  cases n with
  | zero=>exact .nil
  | succ n=>exact .cons r (ih n)) h n
theorem bx.drop{K:ay}{H:Hp}:∀ {vs:List V} {ds:List D} (n:Nat),bx K H vs ds->bx K H (vs.drop n) (ds.drop n):=fun {_ _} n h =>
 bx.FX (P:=fun vs ds=>∀ n,bx K H (vs.drop n) (ds.drop n)) (fun n=>by rw [Bp,Bp]; exact .nil) (fun r t ih n=>by
  cases n with
  | zero=>exact .cons r t
  | succ n=>exact ih n) h n
theorem bx.set{K:ay}{H:Hp}{v:V}{d:D}(r:cZ K H v d):∀ {vs:List V} {ds:List D} (i:Nat),bx K H vs ds->bx K H (vs.set i v) (ds.set i d):=fun {_ _} i h =>
 bx.FX (P:=fun vs ds=>∀ i,bx K H (vs.set i v) (ds.set i d)) (fun i=>by rw [De,De]; exact .nil) (fun q t ih i=>by
  cases i with
  | zero=>exact .cons r t
  | succ i=>exact .cons q (ih i)) h i
theorem bx.one{K:ay}{H:Hp}:∀ {vs:List V} {d:D},bx K H vs [d]->∃ v,vs=[v]/\cZ K H v d:=by
 intro vs d h;cases h with
 | cons r t=>cases t; exact⟨_,rfl,r⟩
theorem bx.two{K:ay}{H:Hp}:∀ {vs:List V} {d e:D},bx K H vs [d,e]->∃ v u,vs=[v,u]/\cZ K H v d/\cZ K H u e:=by
 intro vs d e h;cases h with
 | cons r t =>
  obtain⟨u,rfl,q⟩:=bx.one t;exact⟨_,_,rfl,r,q⟩
theorem bx.zero{K:ay}{H:Hp}:∀ {vs:List V},bx K H vs []->vs=[]
 | _,.nil=>rfl
theorem bx.ints{K:ay}{H:Hp}:∀ {vs:List V} {ns:List Int},bx K H vs (ns.map D.int)->vs=ns.map V.int:=by
 intro vs ns;induction ns generalizing vs with
 | nil=>intro h; exact h.zero
 | cons n ns ih =>
  intro h;cases h with
  | cons r t =>
   cases r;rw [ih t]; rfl
theorem bx.JP{K:ay}{H:Hp}:∀ (ns:List Int),bx K H (ns.map V.int) (ns.map D.int)
 | []=>.nil
 | n :: ns=>.cons (.int n) (bx.JP ns)
theorem q5.ind{K:ay}{H:Hp}{motive:∀ (kv:List (Key×V)) (bC:List (D×D)),q5 K H kv bC->Prop}(nil:motive [] [] .nil)
  (cons:∀ {k:Key} {v:V} {d:D} {r:List (Key×V)} {t:List (D×D)} (re:cZ K H v d) (rs:q5 K H r t),motive r t rs->motive ((k,v) :: r) ((gu k,d) :: t) (.cons re rs)):∀ {kv:List (Key×V)} {bC:List (D×D)} (h:q5 K H kv bC),motive kv bC h:=fun h =>
 q5.rec (motive_1:=fun _ _ _=>True) (motive_2:=fun _ _ _=>True) (motive_3:=motive) (motive_4:=fun _ _ _=>True) trivial (fun _=>trivial) (fun _=>trivial) (fun _=>trivial) (fun _ _ _=>trivial) (fun _ _ _=>trivial) (fun _ _ _=>trivial) (fun _ _ _=>trivial) (fun _=>trivial) (fun _=>trivial) trivial (fun _ _ _ _=>trivial) nil (fun a b _ ih=>cons a b ih) trivial (fun _ _ _ _=>trivial) h
theorem rh.ind{K:ay}{H:Hp}{motive:∀ (kv:List (List Key×V)) (bC:List (D×D)),rh K H kv bC->Prop}(nil:motive [] [] .nil)
  (cons:∀ {k:List Key} {v:V} {d:D} {r:List (List Key×V)} {t:List (D×D)} (re:cZ K H v d) (rs:rh K H r t),motive r t rs->motive ((k,v) :: r) ((.tup (k.map gu),d) :: t) (.cons re rs)):∀ {kv:List (List Key×V)} {bC:List (D×D)} (h:rh K H kv bC),motive kv bC h:=fun h =>
 rh.rec (motive_1:=fun _ _ _=>True) (motive_2:=fun _ _ _=>True) (motive_3:=fun _ _ _=>True) (motive_4:=motive) trivial (fun _=>trivial) (fun _=>trivial) (fun _=>trivial) (fun _ _ _=>trivial) (fun _ _ _=>trivial) (fun _ _ _=>trivial) (fun _ _ _=>trivial) (fun _=>trivial) (fun _=>trivial) trivial (fun _ _ _ _=>trivial) trivial (fun _ _ _ _=>trivial) nil (fun a b _ ih=>cons a b ih) h
theorem q5.length{K:ay}{H:Hp}:∀ {v:List (Key×V)} {d:List (D×D)},q5 K H v d->v.length=d.length:=fun h =>
 q5.ind (motive:=fun v d _=>v.length=d.length) rfl (fun _ _ ih=>congrArg (· + 1) ih) h
theorem rh.length{K:ay}{H:Hp}:∀ {v:List (List Key×V)} {d:List (D×D)},rh K H v d->v.length=d.length:=fun h =>
 rh.ind (motive:=fun v d _=>v.length=d.length) rfl (fun _ _ ih=>congrArg (· + 1) ih) h
noncomputable def OW(K:ay)(H:Hp)(a:Addr):GO->Prop
 | .lst ds=>∃ vs,H a=some (.lst vs)/\bx K H vs ds
 | .ka bC=>(∃ kv,H a=some (.dK kv)/\q5 K H kv bC)\/∃ kv,H a=some (.dT kv)/\rh K H kv bC
 | .ins c fs=>∃ C dx fv,H a=some (.ins C dx fv)/\cI K bz c=some (some (.ref C))/\fv.map (·.1)=fs.map (·.1)/\bx K H (fv.map (·.2)) (fs.map (·.2))
noncomputable def lA(K:ay)(H:Hp)(G:Gp):Prop:=∀ a g,G a=some g->OW K H a g
theorem OW.dk{K:ay}{H:Hp}{a:Addr}{kv:List (Key×V)}{bC:List (D×D)}(h:H a=some (.dK kv))(r:q5 K H kv bC):OW K H a (.ka bC):=.inl ⟨kv,h,r⟩
theorem OW.mono{K:ay}{H H':Hp}{a:Addr}{g:GO}(k:Kp H H')(e:H' a=H a)(h:OW K H a g):OW K H' a g:=by
 cases g with
 | lst ds=>obtain⟨vs,q,r⟩:=h; exact⟨vs,e.trans q,r.mono k⟩
 | ins c fs=>obtain⟨C,dx,fv,q,h1,h2,r⟩:=h; exact⟨C,dx,fv,e.trans q,h1,h2,r.mono k⟩
 | ka bC =>
  rcases h with ⟨kv,q,r⟩ | ⟨kv,q,r⟩
  ·exact .inl ⟨kv,e.trans q,r.mono k⟩
  ·exact .inr ⟨kv,e.trans q,r.mono k⟩
theorem OW.tracked{K:ay}{H:Hp}{a:Addr}{g:GO}(h:OW K H a g):H a≠none:=by
 cases g with
 | lst ds=>obtain⟨vs,q,r⟩:=h; rw [q]; simp
 | ins c fs=>obtain⟨C,dx,fv,q,_⟩:=h; rw [q]; simp
 | ka bC =>
  rcases h with ⟨kv,q,r⟩ | ⟨kv,q,r⟩
  ·rw [q]; simp
  ·rw [q]; simp
theorem lA.free{K:ay}{H:Hp}{G:Gp}{a:Addr}(h:lA K H G)(e:H a=none):G a=none:=by
 cases q:G a with
 | none=>rfl
 | some g=>exact absurd e (h a g q).tracked
theorem lA.Vl{K:ay}{H:Hp}{G:Gp}{a:Addr}{xs:List V}(h:lA K H G)(e:H a=some (.tup xs)):G a=none:=by
 cases q:G a with
 | none=>rfl
 | some g =>
  have z:=h a g q;cases g with
  | lst ds=>obtain⟨vs,q,r⟩:=z; rw [e] at q; cases q
  | ins c fs=>obtain⟨C,dx,fv,q,_⟩:=z; rw [e] at q; cases q
  | ka bC =>
   rcases z with ⟨kv,q,r⟩ | ⟨kv,q,r⟩
   ·rw [e] at q; cases q
   ·rw [e] at q; cases q
theorem lA.Vm{K:ay}{H:Hp}{G:Gp}{a:Addr}{o:Obj}{u:HO}(h:lA K H G)(e:H a=some (.pO o u)):G a=none:=by
 cases q:G a with
 | none=>rfl
 | some g =>
  have z:=h a g q;cases g with
  | lst ds=>obtain⟨vs,q,r⟩:=z; rw [e] at q; cases q
  | ins c fs=>obtain⟨C,dx,fv,q,_⟩:=z; rw [e] at q; cases q
  | ka bC =>
   rcases z with ⟨kv,q,r⟩ | ⟨kv,q,r⟩
   ·rw [e] at q; cases q
   ·rw [e] at q; cases q
structure Mv(K:ay)(H:Hp)(G:Gp)(H':Hp)(G':Gp):Prop where
 keep:∀ a o,H a=some o->G a=none->H' a=some o/\G' a=none
 kG:∀ a,G a≠none->H' a≠none
 ab:lA K H' G'
theorem Mv.refl{K:ay}{H:Hp}{G:Gp}(h:lA K H G):Mv K H G H G:=⟨fun _ _ e n=>⟨e,n⟩,fun a n=>by
 cases q:G a with
 | none=>exact absurd q n
 | some g=>exact(h a g q).tracked,h⟩
theorem Mv.trans{K:ay}{H H1 H2:Hp}{G G1 G2:Gp}(a:Mv K H G H1 G1)(b:Mv K H1 G1 H2 G2):Mv K H G H2 G2 :=
 ⟨fun c o e n=>let ⟨e1,n1⟩:=a.keep c o e n; b.keep c o e1 n1,fun c n=>by
  have h1:=a.kG c n;cases q:G1 c with
  | some g=>exact b.kG c (by rw [q]; simp)
  | none =>
   cases q1:H1 c with
   | none=>exact absurd q1 h1
   | some o=>rw [(b.keep c o q1 q).1]; simp,b.ab⟩
theorem Mv.kp{K:ay}{H H':Hp}{G G':Gp}(m:Mv K H G H' G')(h:lA K H G):Kp H H' :=
 ⟨fun a xs e=>(m.keep a _ e (h.Vl e)).1,fun a o u e=>(m.keep a _ e (h.Vm e)).1⟩
theorem Kp.new{H:Hp}{p:Addr}{o:HO}(hp:H p=none):Kp H (upd H p o):=⟨fun a xs e=>by rw [cp (e7 e hp)]; exact e,fun a ob u e=>by rw [cp (e7 e hp)]; exact e⟩
theorem Kp.putL{H:Hp}{p:Addr}{xs:List V}{o:HO}(hp:H p=some (.lst xs)):Kp H (upd H p o) :=
 ⟨fun a ys e=>by rw [cp (by rintro rfl; rw [hp] at e; cases e)]; exact e,fun a ob u e=>by rw [cp (by rintro rfl; rw [hp] at e; cases e)]; exact e⟩
theorem Mv.new{K:ay}{H:Hp}{G:Gp}{p:Addr}{o:HO}{g:GO}(h:lA K H G)(hp:H p=none)(ho:OW K (upd H p o) p g):Mv K H G (upd H p o) (de G p g) where
 keep:=fun a ob e n=>by
  have ne:=e7 e hp;exact⟨by rw [cp ne]; exact e,by rw [cU ne]; exact n⟩
 kG:=fun a n=>by
  have ne:a≠p:=by rintro rfl; exact n (h.free hp)
  rw [cp ne];exact(Mv.refl h).kG a n
 ab:=fun a g' e=>by
  by_cases ha:a=p
  ·subst ha; rw [aI] at e; cases e; exact ho
  ·rw [cU ha] at e;exact(h a g' e).mono (.new hp) (cp ha)
theorem Mv.S1{K:ay}{H:Hp}{G:Gp}{p:Addr}{o:HO}(h:lA K H G)(hp:H p=none):Mv K H G (upd H p o) G where
 keep:=fun a ob e n=>⟨by rw [cp (e7 e hp)]; exact e,n⟩
 kG:=fun a n=>by
  have ne:a≠p:=by rintro rfl; exact n (h.free hp)
  rw [cp ne];exact(Mv.refl h).kG a n
 ab:=fun a g' e=>by
  have ne:a≠p:=by rintro rfl; rw [h.free hp] at e; cases e
  exact(h a g' e).mono (.new hp) (cp ne)
theorem Mv.put{K:ay}{H:Hp}{G:Gp}{p:Addr}{o:HO}{g g0:GO}(h:lA K H G)(hg:G p=some g0)(k:Kp H (upd H p o))(ho:OW K (upd H p o) p g):Mv K H G (upd H p o) (de G p g) where
 keep:=fun a ob e n=>by
  have ne:a≠p:=by rintro rfl; rw [hg] at n; cases n
  exact⟨by rw [cp ne]; exact e,by rw [cU ne]; exact n⟩
 kG:=fun a n=>by
  by_cases ha:a=p
  ·subst ha; rw [dF]; simp
  ·rw [cp ha]; exact(Mv.refl h).kG a n
 ab:=fun a g' e=>by
  by_cases ha:a=p
  ·subst ha; rw [aI] at e; cases e; exact ho
  ·rw [cU ha] at e;exact(h a g' e).mono k (cp ha)
theorem lA.lst{K:ay}{H:Hp}{G:Gp}{a:Addr}{ds:List D}(h:lA K H G)(e:G a=some (.lst ds)):∃ vs,H a=some (.lst vs)/\bx K H vs ds:=h a _ e
theorem Mv.K7{K:ay}{H:Hp}{G:Gp}{p:Addr}{vs:List V}{ds:List D}(h:lA K H G)(hp:H p=none)(r:bx K H vs ds):Mv K H G (upd H p (.lst vs)) (de G p (.lst ds)) :=
 .new h hp ⟨vs,dF,r.mono (.new hp)⟩
theorem Mv.putL{K:ay}{H:Hp}{G:Gp}{p:Addr}{vs0 vs:List V}{ds0 ds:List D}(h:lA K H G)(hg:G p=some (.lst ds0))(hp:H p=some (.lst vs0))(r:bx K H vs ds):Mv K H G (upd H p (.lst vs)) (de G p (.lst ds)) :=
 .put h hg (.putL hp) ⟨vs,dF,r.mono (.putL hp)⟩
structure OV(K:ay)(H:Hp)(σ:L2.St)(τ:iH):Prop where
 len:σ.length=τ.length
 at':∀ (i:Nat) (d:D),τ[i]?=some (some d)->∃ v,σ[i]?=some (some v)/\cZ K H v d
theorem OV.mono{K:ay}{H H':Hp}{σ:L2.St}{τ:iH}(k:Kp H H')(a:OV K H σ τ):OV K H' σ τ :=
 ⟨a.len,fun i d e=>let ⟨v,h1,h2⟩:=a.at' i d e; ⟨v,h1,h2.mono k⟩⟩
theorem OV.set{K:ay}{H:Hp}{σ:L2.St}{τ:iH}{v:V}{d:D}(a:OV K H σ τ)(i:Nat)(r:cZ K H v d):OV K H (σ.set i (some v)) (τ.set i (some d)):=by
 refine⟨by rw [j3,j3]; exact a.len,fun j e h=>?_⟩;by_cases hj:i=j
 ·subst hj;by_cases hi:i < τ.length
  ·rw [fM hi] at h;cases h;exact⟨v,by rw [fM (by rw [a.len]; exact hi)],r⟩
  ·rw [List.set_eq_of_length_le (by lia)] at h;rw [OZ (by lia)] at h;cases h
 ·rw [iX hj] at h;obtain⟨w,h1,h2⟩:=a.at' j e h;exact⟨w,by rw [iX hj]; exact h1,h2⟩
structure I2(X:Cx)(pins:List (Addr×Obj))(σ:L2.St)(H:Hp)(τ:iH)(G:Gp)(s:aK):Prop where
 inv:Inv X pins σ H s
 st:OV X.K H σ τ
 ab:lA X.K H G
theorem I2.mv{X:Cx}{pins:List (Addr×Obj)}{σ:L2.St}{H H':Hp}{τ:iH}{G G':Gp}{s s':aK}(I:I2 X pins σ H τ G s)(I':Inv X pins σ H' s')(m:Mv X.K H G H' G'):I2 X pins σ H' τ G' s' :=
 ⟨I',I.st.mono (m.kp I.ab),m.ab⟩
noncomputable def Ce(P:bU)(w:World):LS:=fun outer H s E e s'=>∃ (a C t:Addr) (B:Heap) (H':Hp),e=.ref a/\s'.os=s.os/\zj s'.gens/\Un (tF outer) [] H H' s.heap s'.heap/\pV P w H' s'.heap /\
 (∀ b o,s'.heap.get? b=some o->b∉tF outer->(s.heap.get? b≠none\/H' b≠none)->B.get? b=some o)/\wj B outer a (.ref C) (.ref t) s'.heap/\H' a=none/\s.heap.get? a=none/\E (.ref C) none H'
noncomputable def W8(K:ay)(mg:Str->Option Value)(E:lq):XK:=fun cls _ H=>∃ (ex:Ex) (C:Addr) (G:Gp),cls=.ref C/\mg ex.cls=some (.ref C)/\lA K H G/\E ex G
structure Lk(X:Cx)(E:lq):Prop where
 made:∀ (pins:List (Addr×Obj)) (σ:L2.St) (H:Hp) (s:aK) (h1:Heap) (a C:Addr) (args:List Value) (ex:Ex) (G:Gp),Inv X pins σ H s->lA X.K H G->PySem.Heap.MadeExcOf s.heap h1 a (.ref C) args->X.mg ex.cls=some (.ref C)->E ex G->X.xe (.ref a) { s with heap:=h1 }
 pass:∀ (pins:List (Addr×Obj)) (σ:L2.St) (H:Hp) (s s':aK) (e:Value),Inv X pins σ H s->Ce X.prog X.w X.stack H s (W8 X.K X.mg E) e s'->X.xe e s'
theorem Lk.none{X:Cx}{E:lq}(h:∀ ex G,¬ E ex G):Lk X E where
 made:=fun _ _ _ _ _ _ _ _ ex _ _ _ _ _ z=>absurd z (h ex _)
 pass:=fun _ _ _ _ _ _ _ hc=>by
  obtain⟨_,_,_,_,_,_,_,_,_,_,_,_,_,_,hz⟩:=hc;obtain⟨ex,_,_,_,_,_,z⟩:=hz;exact absurd z (h ex _)
inductive rg (X:Cx) (pins:List (Addr×Obj)) (σ:L2.St) (H:Hp) (G:Gp) (Q:DK) (u:Value) (s':aK):Prop
 | mk (v:V) (H':Hp) (d:D) (G':Gp) (i:Inv X pins σ H' s') (m:Mv X.K H G H' G') (r:RelV v u) (rd:cZ X.K H' v d) (q:Q d G'):rg X pins σ H G Q u s'
inductive Uj (X:Cx) (pins:List (Addr×Obj)) (σ:L2.St) (H:Hp) (G:Gp) (Q:Bool->Gp->Prop) (b:Bool) (s':aK):Prop
 | mk (H':Hp) (G':Gp) (i:Inv X pins σ H' s') (m:Mv X.K H G H' G') (q:Q b G'):Uj X pins σ H G Q b s'
inductive AP2 (X:Cx) (pins:List (Addr×Obj)) (σ:L2.St) (H:Hp) (G:Gp) (Q:List D->Gp->Prop) (us:List Value) (s':aK):Prop
 | mk (vs:List V) (H':Hp) (ds:List D) (G':Gp) (i:Inv X pins σ H' s') (m:Mv X.K H G H' G') (r:Vals vs us) (rd:bx X.K H' vs ds) (q:Q ds G'):AP2 X pins σ H G Q us s'
inductive Xh (X:Cx) (pins:List (Addr×Obj)) (H:Hp) (G:Gp) (P:iH->Gp->Prop) (s':aK):Prop
 | mk (jU:L2.St) (H':Hp) (lp:iH) (G':Gp) (i:I2 X pins jU H' lp G' s') (m:Mv X.K H G H' G') (q:P lp G'):Xh X pins H G P s'
inductive SPr (X:Cx) (pins:List (Addr×Obj)) (H:Hp) (G:Gp) (P:D->Gp->Prop) (u:Value) (s':aK):Prop
 | mk (v:V) (jU:L2.St) (H':Hp) (d:D) (G':Gp) (i:Inv X pins jU H' s') (m:Mv X.K H G H' G') (r:RelV v u) (rd:cZ X.K H' v d) (q:P d G'):SPr X pins H G P u s'
noncomputable def Ho(X:Cx)(pins:List (Addr×Obj))(H:Hp)(G:Gp)(D:j0)(f:Flow)(s':aK):Prop :=
 match f with
 | .next=>Xh X pins H G D.nx s'
 | .brk=>Xh X pins H G D.bk s'
 | .cont=>Xh X pins H G D.ct s'
 | .ret u=>SPr X pins H G D.rt u s'
noncomputable def iL(X:Cx)(e:Expr)(t:iu):Prop :=
 ∀ (E:lq) (pins:List (Addr×Obj)) (s:aK) (σ:L2.St) (H:Hp) (τ:iH) (G:Gp) (Q:DK),Lk X E->I2 X pins σ H τ G s->t E τ G Q->wpAny (model X.prog X.w) X.A (eval e X.env) (rg X pins σ H G Q) X.xe s
noncomputable def Kt(X:Cx)(e:Expr)(t:yb):Prop :=
 ∀ (E:lq) (pins:List (Addr×Obj)) (s:aK) (σ:L2.St) (H:Hp) (τ:iH) (G:Gp) (Q:Bool->Gp->Prop),Lk X E->I2 X pins σ H τ G s->t E τ G Q->wpAny (model X.prog X.w) X.A (isTrue e X.env (eval e X.env)) (Uj X pins σ H G Q) X.xe s
noncomputable def xt(X:Cx)(e:Expr)(t:yb):Prop :=
 ∀ (wh:Sem Value) (E:lq) (pins:List (Addr×Obj)) (s:aK) (σ:L2.St) (H:Hp) (τ:iH) (G:Gp) (Q:Bool->Gp->Prop),Lk X E->I2 X pins σ H τ G s->t E τ G Q->wpAny (model X.prog X.w) X.A (isTrue e X.env wh) (Uj X pins σ H G Q) X.xe s
noncomputable def B5(X:Cx)(es:List Expr)(t:xr):Prop :=
 ∀ (pos:Pos) (E:lq) (pins:List (Addr×Obj)) (s:aK) (σ:L2.St) (H:Hp) (τ:iH) (G:Gp) (Q:List D->Gp->Prop),Lk X E->I2 X pins σ H τ G s->t E τ G Q->wpAny (model X.prog X.w) X.A (spliced (kM pos (bO es X.env))) (AP2 X pins σ H G Q) X.xe s
noncomputable def EF(X:Cx)(st:Stmt)(t:fN):Prop :=
 ∀ (E:lq) (pins:List (Addr×Obj)) (s:aK) (σ:L2.St) (H:Hp) (τ:iH) (G:Gp) (D:j0),Lk X E->I2 X pins σ H τ G s->t E D τ G->wpAny (model X.prog X.w) X.A (exec st X.env) (Ho X pins H G D) X.xe s
noncomputable def uq(X:Cx)(st:List Stmt)(t:fN):Prop :=
 ∀ (E:lq) (pins:List (Addr×Obj)) (s:aK) (σ:L2.St) (H:Hp) (τ:iH) (G:Gp) (D:j0),Lk X E->I2 X pins σ H τ G s->t E D τ G->wpAny (model X.prog X.w) X.A (execs st X.env) (Ho X pins H G D) X.xe s
theorem Ho.trans{X:Cx}{pins:List (Addr×Obj)}{H H1:Hp}{G G1:Gp}{D:j0}{f:Flow}{s':aK}(m:Mv X.K H G H1 G1)(h:Ho X pins H1 G1 D f s'):Ho X pins H G D f s':=by
 cases f with
 | next=>obtain⟨jU,H',lp,G',I,m',q⟩:=h; exact⟨jU,H',lp,G',I,m.trans m',q⟩
 | brk=>obtain⟨jU,H',lp,G',I,m',q⟩:=h; exact⟨jU,H',lp,G',I,m.trans m',q⟩
 | cont=>obtain⟨jU,H',lp,G',I,m',q⟩:=h; exact⟨jU,H',lp,G',I,m.trans m',q⟩
 | ret u=>obtain⟨v,jU,H',d,G',I,m',r,rd,q⟩:=h; exact⟨v,jU,H',d,G',I,m.trans m',r,rd,q⟩
section
variable {X:Cx} {a b c:Expr} {ta tb tc:iu} {pos:Pos}
theorem lC{pins:List (Addr×Obj)}{σ:L2.St}{H:Hp}{τ:iH}{G:Gp}{s:aK}{E:lq}{R:DK}{Q:Value->aK->Prop}(ha:iL X a ta)(hE:Lk X E)(I:I2 X pins σ H τ G s)(h:ta E τ G R)
  (k:∀ v H1 d G1 u s1,I2 X pins σ H1 τ G1 s1->Mv X.K H G H1 G1->RelV v u->cZ X.K H1 v d->R d G1->Q u s1):wpAny (model X.prog X.w) X.A (eval a X.env) Q X.xe s :=
 ix (ha E pins s σ H τ G R hE I h) (by rintro u s1 ⟨v,H1,d,G1,I1,m,r,rd,q⟩; exact k v H1 d G1 u s1 (I.mv I1 m) m r rd q)
theorem rg.trans{pins:List (Addr×Obj)}{σ:L2.St}{H H1:Hp}{G G1:Gp}{Q:DK}{u:Value}{s':aK}(m:Mv X.K H G H1 G1)(h:rg X pins σ H1 G1 Q u s'):rg X pins σ H G Q u s':=by
 obtain⟨v,H',d,G',I,m',r,rd,q⟩:=h;exact⟨v,H',d,G',I,m.trans m',r,rd,q⟩
theorem Uj.trans{pins:List (Addr×Obj)}{σ:L2.St}{H H1:Hp}{G G1:Gp}{Q:Bool->Gp->Prop}{u:Bool}{s':aK}(m:Mv X.K H G H1 G1)(h:Uj X pins σ H1 G1 Q u s'):Uj X pins σ H G Q u s':=by
 obtain⟨H',G',I,m',r⟩:=h;exact⟨H',G',I,m.trans m',r⟩
theorem P0 {i:Nat} {x:Str} (hN:X.N[i]?=some x) (hv:Xf X.env.scope x) (hd:autoParam ((x == ("__debug__" : Str))=false) Ad._auto_1) (Hn:autoParam ((x == ("__classdict__" : Str))=false) Ad._auto_1):iL X (.Name x pos) (ah i):=by
 intro E pins s σ H τ G Q hE I h;unfold ah at h;split at h
 ·rename_i d e;obtain⟨v,h1,h2⟩:=I.st.at' i d e;exact ix (RY hN hv hd Hn pins s σ H (fun v' H'=>v'=v/\H'=H) I.inv ⟨v,h1,rfl,rfl⟩) fun u s1 Qm=>by
   obtain⟨v',H',I1,r,e1,e2⟩:=Qm;subst e1; subst e2;exact⟨_,_,d,G,I1,.refl I.ab,r,h2,h⟩
 ·exact h.elim
theorem wQ{e:Expr}{v:V}{d:D}(h:PE X e (tC v))(r:∀ K H,cZ K H v d):iL X e (dC d):=by
 intro E pins s σ H τ G Q hE I hq;exact ix (h pins s σ H (fun v' H'=>v'=v/\H'=H) I.inv ⟨rfl,rfl⟩) fun u s1 Q5=>by
  obtain⟨v',H',I1,rr,e1,e2⟩:=Q5;subst e1; subst e2;exact⟨_,_,d,G,I1,.refl I.ab,rr,r _ _,hq⟩
theorem aF{i j}:iL X (.Constant (.int i) j pos) (dC (.int i)):=wQ R3 fun _ _=>.int i
noncomputable def vX(X:Cx)(f:Value->Value->Sem Value)(r:GX):Prop :=
 ∀ (pins:List (Addr×Obj)) (s:aK) (σ:L2.St) (H:Hp) (G:Gp) (x y:V) (dx dy:D) (v u:Value) (Q:DK),Inv X pins σ H s->lA X.K H G->RelV x v->RelV y u->cZ X.K H x dx->cZ X.K H y dy->r dx dy G Q ->
  wpAny (model X.prog X.w) X.A (f v u) (rg X pins σ H G Q) X.xe s
noncomputable def Wn(X:Cx)(f:Value->Sem Value)(r:D->Gp->DK->Prop):Prop :=
 ∀ (pins:List (Addr×Obj)) (s:aK) (σ:L2.St) (H:Hp) (G:Gp) (x:V) (dx:D) (v:Value) (Q:DK),Inv X pins σ H s->lA X.K H G->RelV x v->cZ X.K H x dx->r dx G Q ->
  wpAny (model X.prog X.w) X.A (f v) (rg X pins σ H G Q) X.xe s
noncomputable def sH(X:Cx)(f:Value)(r:List D->Gp->DK->Prop):Prop :=
 ∀ (pins:List (Addr×Obj)) (s:aK) (σ:L2.St) (H:Hp) (G:Gp) (xs:List V) (ds:List D) (us:List Value) (Q:DK),Inv X pins σ H s->lA X.K H G->Vals xs us->bx X.K H xs ds->r ds G Q ->
  wpAny (model X.prog X.w) X.A (call f us) (rg X pins σ H G Q) X.xe s
noncomputable abbrev Bb(K:ay)(H:Hp)(G:Gp)(Q:DK):VK:=fun v H'=>∃ d G',Mv K H G H' G'/\cZ K H' v d/\Q d G'
theorem rg.of{pins:List (Addr×Obj)}{σ:L2.St}{H:Hp}{G:Gp}{Q:DK}{u:Value}{s':aK}(h:EP X pins σ (Bb X.K H G Q) u s'):rg X pins σ H G Q u s':=by
 obtain⟨v,H',I,r,d,G',m,rd,q⟩:=h;exact⟨v,H',d,G',I,m,r,rd,q⟩
theorem OK(ha:iL X a ta)(hb:iL X b tb){E:lq}{pins:List (Addr×Obj)}{s:aK}{σ:L2.St}{H:Hp}{τ:iH}{G:Gp}{R:D->D->Gp->Prop}(hE:Lk X E)(I:I2 X pins σ H τ G s)
  (h:ta E τ G fun x G1=>tb E τ G1 fun y G2=>R x y G2) {Q:Value->aK->Prop} {f:Value->Value->Sem Value}
  (hf:∀ v u s2 x y dx dy H2 G2,I2 X pins σ H2 τ G2 s2->Mv X.K H G H2 G2->RelV x v->RelV y u->cZ X.K H2 x dx->cZ X.K H2 y dy->R dx dy G2->wpAny (model X.prog X.w) X.A (f v u) Q X.xe s2) :
  wpAny (model X.prog X.w) X.A (eval a X.env) (fun v fK=>wpAny (model X.prog X.w) X.A (eval b X.env) (fun u jP=>wpAny (model X.prog X.w) X.A (f v u) Q X.xe jP) X.xe fK) X.xe s:=by
 refine lC ha hE I h fun x H1 dx G1 v s1 I1 m1 r1 kI q1=>?_;refine lC hb hE I1 q1 fun y H2 dy G2 u s2 kD m2 r2 Dy q2=>?_;exact hf v u s2 x y dx dy H2 G2 kD (m1.trans m2) r1 r2 (kI.mono (m2.kp I1.ab)) Dy q2
theorem bB{op:Operator}{r:GX}(ho:vX X (lh op) r)(ha:iL X a ta)(hb:iL X b tb):iL X (.BinOp a op b pos) (aN r ta tb):=by
 intro E pins s σ H τ G Q hE I h;exact wpAny_BinOp (OK ha hb hE I h fun v u s2 x y dx dy H2 G2 kD m rx ry dX dY q=>ix (ho pins s2 σ H2 G2 x y dx dy v u Q kD.inv kD.ab rx ry dX dY q) fun _ _ z=>z.trans m)
theorem ua{op:UnaryOp}{r:D->Gp->DK->Prop}(ho:Wn X (unaryOp op) r)(ha:iL X a ta):iL X (.UnaryOp op a pos) (GD r ta):=by
 intro E pins s σ H τ G Q hE I h;exact UnaryOp_ (lC ha hE I h fun x H1 dx G1 v s1 I1 m1 r1 kI q1=>ix (ho pins s1 σ H1 G1 x dx v Q I1.inv I1.ab r1 kI q1) fun _ _ z=>z.trans m1)
theorem DI{op:CmpOp}{r:GX}(ho:vX X (gN op) r)(ha:iL X a ta)(hb:iL X b tb)(hm:behindInMarks op b=false):iL X (.Compare a [op] [b] pos) (aN r ta tb):=by
 intro E pins s σ H τ G Q hE I h;exact wpAny_Compare1 (OK ha hb hE I h fun v u s2 x y dx dy H2 G2 kD m rx ry dX dY q=>ix (ho pins s2 σ H2 G2 x y dx dy v u Q kD.inv kD.ab rx ry dX dY q) fun _ _ z=>z.trans m) hm
end
end K2
end
section
namespace K2
open PySem PySem.Spec PyProof.Rows L2
theorem UL{K:ay}{H:Hp}{G:Gp}{x:V}{d:D}{k:Bool}(ab:lA K H G)(r:cZ K H x d)(e:KI d G=some k):(∃ p,x=.ref p/\Rd H p (.dT [])/\k=false)\/(∃ p kv,x=.ref p/\Rd H p (.dK kv)/\k=!kv.isEmpty)\/TH K x H k:=by
 have Om:∀ bC:List (D×D),(if (bC.all fun p=>gB p.1)=true then some (!bC.isEmpty) else none)=some k->∀ p,((∃ kv,Rd H p (.dK kv)/\q5 K H kv bC)\/∃ kv,Rd H p (.dT kv)/\rh K H kv bC) ->
   (∃ p',V.ref p=.ref p'/\Rd H p' (.dT [])/\k=false)\/(∃ p' kv,V.ref p=.ref p'/\Rd H p' (.dK kv)/\k=!kv.isEmpty)\/TH K (.ref p) H k:=by
  intro bC e p z;by_cases ha:(bC.all fun p=>gB p.1)=true
  ·rw [if_pos ha] at e;cases e;rcases z with ⟨kv,hv,rs⟩ | ⟨kv,hv,rs⟩
   ·right; left;refine⟨p,kv,rfl,hv,?_⟩;cases rs <;> rfl
   ·left;cases rs with
    | nil=>exact⟨p,rfl,hv,rfl⟩
    | cons _ _=>simp [gB] at ha
  ·rw [if_neg ha] at e; cases e
 cases r with
 | j9=>right; right; cases e; rfl
 | bl b=>right; right; cases e; rfl
 | int i=>right; right; cases e; rfl
 | str y =>
  right; right;unfold KI at e;dsimp only at e;by_cases h:y.length<=SZ
  ·rw [if_pos h] at e; cases e; exact⟨by rw [dw]; exact h,rfl⟩
  ·rw [if_neg h] at e; cases e
 | tup h rs =>
  right; right;cases e;refine .inr (.inl ⟨_,.of h,?_⟩);cases rs <;> rfl
 | fU h rs =>
  right; right;cases e;refine .inl ⟨_,h.sq,?_⟩;cases rs <;> rfl
 | t9 h rs=>exact Om _ e _ (.inl ⟨_,.inr ⟨_,h⟩,rs⟩)
 | t8 h rs=>exact Om _ e _ (.inr ⟨_,.inr ⟨_,h⟩,rs⟩)
 | exc h=>simp [KI] at e
 | ref a =>
  unfold KI at e;dsimp only at e;cases q:G a with
  | none=>rw [q] at e; cases e
  | some g =>
   rw [q] at e;have z:=ab a g q;cases g with
   | lst ds =>
    right; right;obtain⟨vs,hv,rs⟩:=z;cases e;refine .inl ⟨vs,.of hv,?_⟩;cases rs <;> rfl
   | ins _ _=>cases e
   | ka bC =>
    refine Om bC e a ?_;rcases z with ⟨kv,hv,rs⟩ | ⟨kv,hv,rs⟩
    ·exact .inl ⟨kv,.inl hv,rs⟩
    ·exact .inr ⟨kv,.inl hv,rs⟩
section
variable {X:Cx} {a b c:Expr} {ta tb tc:iu} {pos:Pos}
noncomputable def Wo(X:Cx):Prop:=∀ (pins:List (Addr×Obj)) (s:aK) (σ:L2.St) (H:Hp) (G:Gp) (x:V) (d:D) (v:Value) (k:Bool) (Q:Bool->aK->Prop),Inv X pins σ H s->lA X.K H G->RelV x v->cZ X.K H x d->KI d G=some k ->
  (∀ s',Inv X pins σ H s'->Q k s')->wpAny (model X.prog X.w) X.A (truthy v) Q X.xe s
theorem MJ:Wo X:=by
 intro pins s σ H G x d v k Q I ab rx rd e q;rcases UL ab rd e with ⟨p,rfl,hv,hk⟩ | ⟨p,kv,rfl,hv,hk⟩ | h
 ·obtain⟨z,hS,xs,rel,o,es,ep,ho,hx,NW,hl,nd⟩:=hv.ok I.eL;have Y9:xs=[]:=by cases rel; rfl
  subst Y9;have he:es=#[]:=by simpa using hl
  subst he;cases rx;have dd:s.heap.DictOf (gG X.prog X.w) p []:=⟨o,#[],ep,ho,hx,NW,(fun _ h=>by simp at h),.nil,iI⟩;refine Hq hS dd (by simp) ?_;subst hk;exact q _ (I.tok _)
 ·cases rx;subst hk;exact Qz I hv q
 ·exact ix (RI pins s σ H x v (fun k' H'=>k'=k/\H'=H) I rx ⟨k,h,rfl,rfl⟩) fun k' s' Qm=>by
   obtain⟨H',I',e1,e2⟩:=Qm;subst e1; subst e2; exact q s' I'
theorem cV(ha:iL X a ta)(he:autoParam (∀ whole,isTrue a X.env whole=(do let v ← whole; standAt a.pos; C8 [v] (truthy v))) Ai._auto_1):Kt X a (di ta):=by
 intro E pins s σ H τ G Q hE I h;refine isTrue_plain (lC ha hE I h fun x H1 d G1 v s1 I1 m1 r1 kI q1=>?_) (he _)
 try dsimp only at q1
 split at q1
 ·rename_i k e;exact MJ pins s1 σ H1 G1 x d v k _ I1.inv I1.ab r1 kI e fun s' I'=>⟨H1,G1,I',m1,q1⟩
 ·exact q1.elim
theorem cF{op:CmpOp}{r:GX}(ho:vX X (gN op) r)(ha:iL X a ta)(hb:iL X b tb)(hm:behindInMarks op b=false):Kt X (.Compare a [op] [b] pos) (di (aN r ta tb)):=by
 intro E pins s σ H τ G Q hE I h;refine wpAny_isTrue_Compare1 (lC ha hE I h fun x H1 dx G1 v s1 I1 m1 r1 kI q1=>lC hb hE I1 q1 fun y H2 dy G2 u s2 kD m2 r2 Dy q2 =>
  ix (ho pins s2 σ H2 G2 x y dx dy v u _ kD.inv kD.ab r1 r2 (kI.mono (m2.kp I1.ab)) Dy q2) ?_) hm
 rintro c s3 ⟨z,H3,dz,G3,I3,m3,r3,X3,q3⟩
 try dsimp only at q3
 split at q3
 ·rename_i k e;exact MJ pins s3 σ H3 G3 z dz c k _ I3 m3.ab r3 X3 e fun s' I'=>⟨H3,G3,I',(m1.trans m2).trans m3,q3⟩
 ·exact q3.elim
variable {tA tB:yb} {rest:List Expr}
theorem xt.pt{e:Expr}{t:yb}(h:xt X e t):Kt X e t:=fun E pins s σ H τ G Q hE I q=>h _ E pins s σ H τ G Q hE I q
theorem KJ{pins:List (Addr×Obj)}{σ:L2.St}{H:Hp}{τ:iH}{G:Gp}{s:aK}{E:lq}{R:Bool->Gp->Prop}{Q:Bool->aK->Prop}(ha:Kt X a tA)(hE:Lk X E)(I:I2 X pins σ H τ G s)(h:tA E τ G R)
  (k:∀ c H1 G1 s1,I2 X pins σ H1 τ G1 s1->Mv X.K H G H1 G1->R c G1->Q c s1):wpAny (model X.prog X.w) X.A (isTrue a X.env (eval a X.env)) Q X.xe s :=
 ix (ha E pins s σ H τ G R hE I h) (by rintro c s1 ⟨H1,G1,I1,m,q⟩; exact k c H1 G1 s1 (I.mv I1 m) m q)
theorem Fy(ha:Kt X a tA):xt X (.BoolOp .And [a] pos) tA:=by
 intro wh E pins s σ H τ G Q hE I h;refine isTrue_and (ix (ha E pins s σ H τ G Q hE I h) fun c s1 e=>?_);cases c with
 | true=>exact isTrue_and_nil e
 | false=>exact e
theorem gT(ha:Kt X a tA):xt X (.BoolOp .Or [a] pos) tA:=by
 intro wh E pins s σ H τ G Q hE I h;refine isTrue_or (ix (ha E pins s σ H τ G Q hE I h) fun c s1 e=>?_);cases c with
 | false=>exact isTrue_or_nil e
 | true=>exact e
theorem JH(ha:Kt X a tA)(hb:xt X (.BoolOp .And (b :: rest) pos) tB):xt X (.BoolOp .And (a :: b :: rest) pos) (LG tA tB):=by
 intro wh E pins s σ H τ G Q hE I h;refine isTrue_and (KJ ha hE I h fun c H1 G1 s1 I1 m1 q1=>?_);cases c with
 | true=>exact ix (hb wh E pins s1 σ H1 τ G1 Q hE I1 (by simpa using q1)) fun _ _ z=>z.trans m1
 | false=>exact⟨H1,G1,I1.inv,m1,by simpa using q1⟩
theorem i9(ha:Kt X a tA)(hb:xt X (.BoolOp .Or (b :: rest) pos) tB):xt X (.BoolOp .Or (a :: b :: rest) pos) (pU tA tB):=by
 intro wh E pins s σ H τ G Q hE I h;refine isTrue_or (KJ ha hE I h fun c H1 G1 s1 I1 m1 q1=>?_);cases c with
 | false=>exact ix (hb wh E pins s1 σ H1 τ G1 Q hE I1 (by simpa using q1)) fun _ _ z=>z.trans m1
 | true=>exact⟨H1,G1,I1.inv,m1,by simpa using q1⟩
theorem fu(ha:Kt X a tA):Kt X (.UnaryOp .Not a pos) (gv tA):=by
 intro E pins s σ H τ G Q hE I h;exact isTrue_not (ix (ha E pins s σ H τ G (fun c H1=>Q (!c) H1) hE I h) (by rintro c s' ⟨H',G',i,m,q⟩; exact⟨H',G',i,m,q⟩))
theorem JJ{op}{t:iu}(h:iL X a t):iL X (.BoolOp op [a] pos) t:=fun E pins s σ H τ G Q hE I hw=>BoolOp_one (h E pins s σ H τ G Q hE I hw)
theorem JK(ha:iL X a ta)(hb:iL X (.BoolOp .And (b :: rest) pos) tb):iL X (.BoolOp .And (a :: b :: rest) pos) (GG ta tb):=by
 intro E pins s σ H τ G Q hE I h;refine BoolOp_and (lC ha hE I h fun x H1 d G1 v s1 I1 m1 r1 kI q1=>?_)
 try dsimp only at q1
 split at q1
 ·rename_i e;exact MJ pins s1 σ H1 G1 x d v true _ I1.inv I1.ab r1 kI e fun s' I'=>ix (hb E pins s' σ H1 τ G1 Q hE ⟨I',I1.st,I1.ab⟩ q1) fun _ _ z=>z.trans m1
 ·rename_i e;exact MJ pins s1 σ H1 G1 x d v false _ I1.inv I1.ab r1 kI e fun s' I'=>⟨x,H1,d,G1,I',m1,r1,kI,q1⟩
 ·exact q1.elim
theorem P1(ha:iL X a ta):iL X (.UnaryOp .Not a pos) (Ou ta):=by
 intro E pins s σ H τ G Q hE I h;refine UnaryOp_ (lC ha hE I h fun x H1 d G1 v s1 I1 m1 r1 kI q1=>?_)
 try dsimp only at q1
 split at q1
 ·rename_i k e;exact not_of (MJ pins s1 σ H1 G1 x d v k _ I1.inv I1.ab r1 kI e fun s' I'=>⟨.bl (!k),H1,.bl (!k),G1,I',m1,rfl,.bl _,q1⟩)
 ·exact q1.elim
variable {e:Expr} {es:List Expr} {te:iu} {t:xr}
theorem aA:B5 X [] aM:=fun _ _ _ _ _ H _ G Q _ I h=>Calls.spliced_nil ⟨[],H,[],G,I.inv,.refl I.ab,.nil,.nil,h⟩
theorem af(ha:iL X e te)(hr:B5 X es t)(hs:autoParam (bO (e :: es) X.env=(false,eval e X.env) :: bO es X.env) Ar._auto_1):B5 X (e :: es) (aj te t):=by
 intro pos E pins s σ H τ G Q hE I h;rw [hs];show wpAny _ _ (spliced ((false,eval e X.env) :: kM pos (bO es X.env))) _ _ s;refine zi (lC ha hE I h fun x H1 d G1 u s1 I1 m1 r1 kI q1=>?_);exact ix (hr pos E pins s1 σ H1 τ G1 _ hE I1 q1) (by rintro us s2 ⟨xs,H2,ds,G2,kD,m2,r2,Dy,q2⟩; exact⟨x :: xs,H2,d :: ds,G2,kD,m1.trans m2,.cons r1 r2,.cons (kI.mono (m2.kp I1.ab)) Dy,q2⟩)
theorem uI{pins:List (Addr×Obj)}{σ:L2.St}{H:Hp}{τ:iH}{G:Gp}{s:aK}{E:lq}{R:List D->Gp->Prop}{Q:List Value->aK->Prop}(ha:B5 X es t)(pos:Pos)(hE:Lk X E)(I:I2 X pins σ H τ G s)(h:t E τ G R)
  (k:∀ vs H1 ds G1 us s1,I2 X pins σ H1 τ G1 s1->Mv X.K H G H1 G1->Vals vs us->bx X.K H1 vs ds->R ds G1->Q us s1):wpAny (model X.prog X.w) X.A (spliced (kM pos (bO es X.env))) Q X.xe s :=
 ix (ha pos E pins s σ H τ G R hE I h) (by rintro us s1 ⟨vs,H1,ds,G1,I1,m,r,rd,q⟩; exact k vs H1 ds G1 us s1 (I.mv I1 m) m r rd q)
theorem cW{x1}(h:B5 X es t):iL X (.Tuple es x1 pos) (fF t):=by
 intro E pins s σ H τ G Q hE I hq;refine wpAny_Tuple_spliced (uI h pos hE I hq ?_);rintro xs H1 ds G1 us s1 I1 m1 r rd ⟨z,q⟩;refine⟨by rw [<-r.length,rd.length,dw]; exact z,?_⟩;have hf:H1 s1.heap.objs.size=none:=I1.inv.eL.fresh (bp _);refine⟨.ref s1.heap.objs.size,upd H1 s1.heap.objs.size (.tup xs),.tup ds,G1,I1.inv.laid (t':=s1.toks) (fun b u e=>aY _ e) (bp _) ?_,m1.trans (.S1 I1.ab hf),rfl,?_,q⟩
 ·exact⟨by rw [rd.length,dw]; exact z,us,r,⟨_,cL _ rfl,rfl,_,rfl⟩⟩
 ·exact .tup dF (rd.mono (.new hf))
theorem dh(h:B5 X es t):iL X (.List es pos) (eG t):=by
 intro E pins s σ H τ G Q hE I hq;refine wpAny_List_spliced (uI h pos hE I hq ?_);rintro xs H1 ds G1 us s1 I1 m1 r rd ⟨z,q⟩;refine⟨by rw [<-r.length,rd.length,dw]; exact z,?_⟩;have hf:H1 s1.heap.objs.size=none:=I1.inv.eL.fresh (bp _);refine⟨.ref s1.heap.objs.size,upd H1 s1.heap.objs.size (.lst xs),.ref _,de G1 s1.heap.objs.size (.lst ds),I1.inv.laid (t':=s1.toks) (fun b u e=>aY _ e) (bp _) ?_,m1.trans (.K7 I1.ab hf rd),rfl,.ref _,q _ (I1.ab.free hf)⟩;exact⟨by rw [rd.length,dw]; exact z,us,0,r,cL _ rfl⟩
noncomputable def bX(K:ay)(sp:iw):Sp:=fun vs H Q _=>∃ ds G Q2,bx K H vs ds/\lA K H G/\sp ds G Q2 (fun _ _=>False)/\∀ d G' v H',Q2 d G'->Mv K H G H' G'->cZ K H' v d->Q v H'
variable {k:Nat} {f:Addr} {fd:aE} {ps:List Str} {sp:iw} {x:Str} {p:Pos} {r:List D->Gp->DK->Prop} {id:String}
theorem Nh(F:dN X.prog X.w X.K X.mg X.base fh k f fd ps (bX X.K sp))(hr:jf k X.A)(hg:Gl X x)(hm:X.mg x=some (.ref f))(hk:fm X.K (.ref f)=true)(hb:Binds X.K fd ps [])
  (ha:B5 X (e :: es) t) (Gb:autoParam ((x == ("__debug__" : Str))=false) Ad._auto_1) (he:autoParam (bO (e :: es) X.env=(false,eval e X.env) :: bO es X.env) Ar._auto_1) (mZ:autoParam ((kM pos (bO es X.env)).any (·.1)=false) Ar._auto_1) :
  iL X (.Call (.Name x p) (e :: es) [] pos) (fun E τ G Q=>bo (fun ds G1 Q1 _=>sp ds G1 Q1 fun _ _=>False) t E τ G Q):=by
 intro E pins s σ H τ G Q hE I h;refine kr (vp I.inv hg hm ?_ Gb);refine jr (h₀:=X.base) I.inv.ok.mod.Ny hk (uI ha pos hE I h fun vs H1 ds G1 us s1 I1 m1 r rd q=>⟨I1.inv.wy,?_⟩) he mZ;refine ix (zB F hr hb .nil JL I1.inv r (Q:=Bb X.K H1 G1 Q) ?_) fun _ _ z=>(rg.of z).trans m1;rw [cz];exact⟨ds,G1,Q,rd,I1.ab,q,fun d G' v H' q' m' JC=>⟨d,G',m',JC,q'⟩⟩
theorem cm (hc:sH X (.builtin id) r) (hg:Gl X x) (hm:X.mg x=none) (hv:eQ x=some (.builtin id)) (ha:B5 X (e :: es) t) (hn:autoParam (x≠"__name__") Ad._auto_1) (Gb:autoParam ((x == ("__debug__" : Str))=false) Ad._auto_1)
  (he:autoParam (bO (e :: es) X.env=(false,eval e X.env) :: bO es X.env) Ar._auto_1) (mZ:autoParam ((kM pos (bO es X.env)).any (·.1)=false) Ar._auto_1):iL X (.Call (.Name x p) (e :: es) [] pos) (iZ r t):=by
 intro E pins s σ H τ G Q hE I h;refine kr (ud I.inv hg hm hv ?_ hn Gb);exact wF (uI ha pos hE I h fun vs H1 ds G1 us s1 I1 m1 r1 kI q1=>ix (hc pins s1 σ H1 G1 vs ds us Q I1.inv I1.ab r1 kI q1) fun _ _ z=>z.trans m1) he mZ
variable {st:Stmt} {sts:List Stmt} {u v:fN}
theorem bV:uq X [] bQ:=fun _ _ _ σ H τ G _ _ I h=>kL ⟨σ,H,τ,G,I,.refl I.ab,h⟩
theorem aB(h1:EF X st u)(h2:uq X sts v):uq X (st :: sts) (bF u v):=by
 intro E pins s σ H τ G D hE I h;refine xC (ix (h1 E pins s σ H τ G { D with nx:=v E D } hE I h) fun f s1 q=>?_);cases f with
 | next =>
  obtain⟨jU,H',lp,G',I',m,q⟩:=q;exact ix (h2 E pins s1 jU H' lp G' D hE I' q) fun _ _ z=>z.trans m
 | ret v=>exact q
 | brk=>exact q
 | cont=>exact q
theorem aG(h1:EF X st u):uq X [st] u:=by
 intro E pins s σ H τ G D hE I h;refine xC (ix (h1 E pins s σ H τ G D hE I h) fun f s1 q=>?_);cases f with
 | next=>exact kL q
 | ret v=>exact q
 | brk=>exact q
 | cont=>exact q
theorem br(he:iL X e te):EF X (.Return (some e) pos) (bM te):=by
 intro E pins s σ H τ G D hE I h;exact wpAny_Return_some (ix (he E pins s σ H τ G _ hE I h) (by rintro v s1 ⟨x,H1,d,G1,I1,m,r1,rd,q1⟩; exact⟨x,σ,H1,d,G1,I1,m,r1,rd,q1⟩))
theorem c6{sa sb:List Stmt}(hc:Kt X c tA)(ha:uq X sa u)(hb:uq X sb v):EF X (.If c sa sb pos) (cS tA u v):=by
 intro E pins s σ H τ G D hE I h;refine wpAny_If (KJ hc hE I h fun d H1 G1 s1 I1 m1 q1=>?_);cases d with
 | true=>exact ix (ha E pins s1 σ H1 τ G1 D hE I1 (by simpa using q1)) fun _ _ z=>z.trans m1
 | false=>exact ix (hb E pins s1 σ H1 τ G1 D hE I1 (by simpa using q1)) fun _ _ z=>z.trans m1
noncomputable def LO(X:Cx)(target:Expr)(t:B4):Prop :=
 ∀ (E:lq) (pins:List (Addr×Obj)) (s:aK) (σ:L2.St) (H:Hp) (τ:iH) (G:Gp) (w:V) (d:D) (u:Value) (Q:iH->Gp->Prop),Lk X E->I2 X pins σ H τ G s->RelV w u->cZ X.K H w d->t E d τ G Q ->
  wpAny (model X.prog X.w) X.A (EZ target X.env u) (fun _ s'=>∃ jU H' lp G',I2 X pins jU H' lp G' s'/\Mv X.K H G H' G'/\Q lp G') X.xe s
noncomputable def OO(X:Cx)(ts:List Expr)(t:A9):Prop :=
 ∀ (E:lq) (pins:List (Addr×Obj)) (s:aK) (σ:L2.St) (H:Hp) (τ:iH) (G:Gp) (ws:List V) (ds:List D) (us:List Value) (Q:iH->Gp->Prop),Lk X E->I2 X pins σ H τ G s->Vals ws us->bx X.K H ws ds->t E ds τ G Q ->
  wpAny (model X.prog X.w) X.A (assignInOrder ((lj ts X.env).map (·.2)) us) (fun _ s'=>∃ jU H' lp G',I2 X pins jU H' lp G' s'/\Mv X.K H G H' G'/\Q lp G') X.xe s
theorem Nf{i:Nat}{x:Str}(hN:X.N.Nodup)(hi:X.N[i]?=some x)(hx:Loc X.env.scope x)(hf:autoParam (X.fn x=true\/X.env.scope.names.lookup x=some .local) Ao._auto_1):LO X (.Name x pos) (aH i):=by
 intro E pins s σ H τ G w d u Q hE I r rd h;exact wpAny_assign_Name (Ff I.inv hN hi hx r (fun s' I'=>⟨_,H,_,G,⟨I',I.st.set i rd,I.ab⟩,.refl I.ab,h⟩) hf)
theorem lX:OO X [] qi:=by
 intro E pins s σ H τ G ws ds us Q hE I r rd h;unfold qi at h;split at h
 ·have e:=rd.zero;subst e;cases r;exact assignInOrder_nil ⟨σ,H,τ,G,I,.refl I.ab,h⟩
 ·exact h.elim
theorem dU{t:B4}{u:A9}(h1:LO X e t)(h2:OO X es u)
  (hs:autoParam ((lj (e :: es) X.env).map (·.2)=EZ e X.env :: (lj es X.env).map (·.2)) Ar._auto_1):OO X (e :: es) (gq t u):=by
 intro E pins s σ H τ G ws ds us Q hE I r rd h;unfold gq at h;split at h
 ·cases rd with
  | cons kI Dy =>
   cases r with
   | cons r1 r2 =>
    rw [hs];refine assignInOrder_cons (ix (h1 E pins s σ H τ G _ _ _ _ hE I r1 kI h) ?_);rintro _ s1 ⟨Wy,H1,tK,G1,I1,m1,q1⟩;exact ix (h2 E pins s1 Wy H1 tK G1 _ _ _ Q hE I1 r2 (Dy.mono (m1.kp I.ab)) q1) (by rintro _ _ ⟨XH,H2,Cn,G2,kD,m2,q2⟩; exact⟨XH,H2,Cn,G2,kD,m1.trans m2,q2⟩)
 ·exact h.elim
theorem p6{k:Nat}{t:A9}{n:Nat}(hc:X.calm=true)(h:OO X es t)(Zz:∀ E ds τ G Q,t E ds τ G Q->ds.length=n)
  (hn:autoParam ((lj es X.env).length=n) Ar._auto_1) (yu:autoParam ((lj es X.env).findIdx? (·.1)=none) Ar._auto_1):LO X (.Tuple es k pos) (pL t):=by
 intro E pins s σ H τ G w d u Q hE I r rd hw;unfold pL at hw;split at hw
 ·cases rd with
  | tup hq rs =>
   cases r;obtain⟨cy,rv,ht,hz⟩:=I.inv.tuple (.of hq);refine assign_Tuple_tuple (I.inv.ok.hd hc) ht (by rw [hn,bc,<-rv.length,rs.length]; exact(Zz _ _ _ _ _ hw).symm) yu fun h' hx=>?_;have I1:Inv X pins σ H { s with heap:=h' }:=I.inv.kept (t':=s.toks) fun b o e=>hx b o (bS (bf e)) e;exact h E pins _ σ H τ G _ _ _ Q hE ⟨I1,I.st,I.ab⟩ (by simpa using rv) rs hw
 ·exact hw.elim
theorem ma:∀ E ds τ G Q,qi E ds τ G Q->ds.length=0:=by
 intro E ds τ G Q h;cases ds with
 | nil=>rfl
 | cons _ _=>exact h.elim
theorem Ls{t:B4}{u:A9}{n:Nat}(h:∀ E ds τ G Q,u E ds τ G Q->ds.length=n)(hm:∀ E d τ G (Q Q':iH->Gp->Prop),t E d τ G Q->(∀ lp G',Q lp G'->Q' lp G')->t E d τ G Q')(hx:∀ E d τ G,¬ t E d τ G fun _ _=>False) :
  ∀ E ds τ G Q,gq t u E ds τ G Q->ds.length=n+1:=by
 intro E ds τ G Q q;cases ds with
 | nil=>exact q.elim
 | cons d ds =>
  by_cases hl:ds.length=n
  ·rw [aq,hl]
  ·exact absurd (hm E d τ G _ (fun _ _=>False) q fun lp G' z=>hl (h _ _ _ _ _ z)) (hx E d τ G)
theorem lN{tg:Expr}{g:B4}(he:iL X e te)(hg:LO X tg g)(hs:autoParam (swapsWithSole [tg] e pos.line X.env=pure false) Ar._auto_1)(hw:autoParam (swappedStores [tg] e X.env=pure none) Ar._auto_1)
  (h1:autoParam ((lj [tg] X.env).map (·.2)=[EZ tg X.env]) Ar._auto_1):EF X (.Assign [tg] e pos) (bw te g):=by
 intro E pins s σ H τ G D hE I h;refine wpAny_Assign_stores (lC he hE I h fun x H1 d G1 v s1 I1 m1 r1 kI q1=>?_) hs hw;rw [h1];exact ix (hg E pins s1 σ H1 τ G1 x d v _ hE I1 r1 kI q1) (by rintro _ s2 ⟨XH,H2,Cn,G2,kD,m2,q2⟩; exact⟨XH,H2,Cn,G2,kD,m1.trans m2,q2⟩)
theorem PX{i:Nat}{x:Str}{pos':Pos}(hN:X.N.Nodup)(hi:X.N[i]?=some x)(hx:Loc X.env.scope x)(he:iL X e te)(hs:autoParam (zc e (some (.Name x pos')) pos.line X.env=pure false) Ar._auto_1)(hf:autoParam (X.fn x=true\/X.env.scope.names.lookup x=some .local) Ao._auto_1) :
  EF X (.Assign [.Name x pos'] e pos) (bw te (aH i)):=by
 intro E pins s σ H τ G D hE I h;refine wpAny_Assign_Name (lC he hE I h fun y H1 d G1 v s1 I1 m1 r1 kI q1=>?_) hs;exact Ff I1.inv hN hi hx r1 (fun s2 kD=>⟨_,H1,_,G1,⟨kD,I1.st.set i kI,I1.ab⟩,m1,q1⟩) hf
theorem dO(he:iL X e te)(hs:autoParam (zc e none pos.line X.env=pure false) Ar._auto_1):EF X (.Expr e pos) (dH te):=by
 intro E pins s σ H τ G D hE I h;exact wpAny_Expr_any (lC he hE I h fun y H1 d G1 v s1 I1 m1 r1 kI q1=>⟨σ,H1,τ,G1,I1,m1,q1⟩) I.inv.quiet hs
end
end K2
end
section
namespace K2
open PySem PySem.Spec PyProof.Rows L2
noncomputable def Rn(K:ay)(J:It)(H':Hp)(ds:List D)(ok:Gp->Prop):Prop :=
 ∀ i H1 G1,Kp H' H1->lA K H1 G1->ok G1->(∀ d,ds[i]?=some d->J.go i H1/\∀ x H2,J.yld i H1 x H2->cZ K H2 x d/\Mv K H1 G1 H2 G1)/\(ds.length<=i->J.stop i H1)
inductive ON (X:Cx) (pins:List (Addr×Obj)) (σ:L2.St) (tg:Expr) (H:Hp) (G:Gp) (R:List D->(Gp->Prop)->Gp->Prop) (Q0:Value) (s2:aK):Prop
 | mk (it:Addr) (fp:List Addr) (tn:Nat->Heap->Prop) (J:It) (H':Hp) (G':Gp) (ds:List D) (ok:Gp->Prop) (e:Q0=.ref it) (i:Inv X pins σ H' s2) (m:Mv X.K H G H' G') (T:Turn X.prog X.w X.K tg J fp it tn) (t0:tn 0 s2.heap) (f:∀ b∈fp,qF X pins H' b)
  (wk:Rn X.K J H' ds ok) (q:R ds ok G'):ON X pins σ tg H G R Q0 s2
noncomputable def QL(X:Cx)(tg iter:Expr)(wi:QJ):Prop :=
 ∀ (E:lq) (pins:List (Addr×Obj)) (s:aK) (σ:L2.St) (H:Hp) (τ:iH) (G:Gp) (R:List D->(Gp->Prop)->Gp->Prop),Lk X E->I2 X pins σ H τ G s->wi E τ G R ->
  wpAny (model X.prog X.w) X.A (eval iter X.env) (fun v s1=>wpAny (model X.prog X.w) X.A (pyIter v) (ON X pins σ tg H G R) X.xe s1) X.xe s
section
variable {X:Cx} {tg:Expr} {a b:Expr} {ta tb:iu} {pos p:Pos}
theorem JU{pins:List (Addr×Obj)}{σ:L2.St}{H H1:Hp}{G G1:Gp}{s1:aK}{l:Addr}{vs:List V}{ds:List D}{ok:Gp->Prop}{R:List D->(Gp->Prop)->Gp->Prop}(I1:Inv X pins σ H1 s1)(m:Mv X.K H G H1 G1)(hq:sZ X.K H1 l vs)
  (hk:∀ H2 G2,Kp H1 H2->lA X.K H2 G2->ok G2->∃ ws,sZ X.K H2 l ws/\bx X.K H2 ws ds) (q:R ds ok G1):wpAny (model X.prog X.w) X.A (pyIter (.ref l)) (ON X pins σ tg H G R) X.xe s1:=by
 obtain⟨cy,rv,pl,hz⟩:=I1.list hq;refine Hs pl.isList ?_;refine⟨s1.heap.objs.size,[s1.heap.objs.size],_,_,H1,G1,ds,ok,rfl,I1.kept (t':=s1.toks) fun b o e=>aY _ e,m,KD l _,⟨_,cL _ rfl,rfl,rfl⟩,fun b hb=>?_,fun i H2 G2 k ab o=>?_,q⟩
 ·have e:b=s1.heap.objs.size:=by simpa using hb
  subst e;exact I1.Od (bp _) (I1.eL.fresh (bp _))
 ·obtain⟨ws,hw,rd⟩:=hk H2 G2 k ab o;refine⟨fun d hd=>?_,fun hl=>⟨ws,hw,by rw [rd.length]; exact hl⟩⟩;obtain⟨v,hv,r⟩:=rd.get hd;refine⟨⟨ws,v,hw,hv⟩,?_⟩;rintro x H3 ⟨e,y⟩;subst e;have:=y ws hw;rw [hv] at this;cases this;exact⟨r,.refl ab⟩
theorem RH{pins:List (Addr×Obj)}{σ:L2.St}{H H1:Hp}{G G1:Gp}{s1:aK}{l:Addr}{vs:List V}{ds:List D}{R:List D->(Gp->Prop)->Gp->Prop}(I1:Inv X pins σ H1 s1)(m:Mv X.K H G H1 G1)(hq:Ba X.K H1 l vs)(rd:bx X.K H1 vs ds)
  (q:R ds (fun _=>True) G1):wpAny (model X.prog X.w) X.A (pyIter (.ref l)) (ON X pins σ tg H G R) X.xe s1:=by
 obtain⟨cy,rv,pl,hz⟩:=I1.tuple hq;refine EU (show s1.heap.IsTuple l cy.toArray from pl) ?_;refine⟨s1.heap.objs.size,[s1.heap.objs.size],_,_,H1,G1,ds,_,rfl,I1.kept (t':=s1.toks) fun b o e=>aY _ e,m,HG l _,⟨_,cL _ rfl,rfl,rfl⟩,fun b hb=>?_,fun i H2 G2 k ab _=>?_,q⟩
 ·have e:b=s1.heap.objs.size:=by simpa using hb
  subst e;exact I1.Od (bp _) (I1.eL.fresh (bp _))
 ·have hw:=k.sqT hq;have Dy:=rd.mono k;refine⟨fun d hd=>?_,fun hl=>⟨vs,hw,by rw [rd.length]; exact hl⟩⟩;obtain⟨v,hv,r⟩:=Dy.get hd;refine⟨⟨vs,v,hw,hv⟩,?_⟩;rintro x H3 ⟨e,y⟩;subst e;have:=y vs hw;rw [hv] at this;cases this;exact⟨r,.refl ab⟩
theorem cN(ha:iL X a ta):QL X tg a (ic ta):=by
 intro E pins s σ H τ G R hE I h;refine lC ha hE I h fun x H1 d G1 v s1 I1 m1 r1 kI q1=>?_;cases kI with
 | tup hq rs=>cases r1; exact RH I1.inv m1 (.of hq) rs q1
 | fU hq rs=>cases r1; exact JU I1.inv m1 hq.sq (fun H2 G2 k ab _=>⟨_,(k.TU hq).sq,rs.mono k⟩) q1
 | ref p =>
  cases r1;dsimp only at q1;split at q1
  ·rename_i ds e;obtain⟨vs,hv,rs⟩:=I1.ab.lst e;refine JU I1.inv m1 (.of hv) (fun H2 G2 k ab o=>?_) q1;obtain⟨ws,hw,sJ⟩:=ab.lst o;exact⟨ws,.of hw,sJ⟩
  ·exact q1.elim
 | t9 _ _=>exact q1.elim
 | t8 _ _=>exact q1.elim
 | j9=>exact q1.elim
 | bl _=>exact q1.elim
 | int _=>exact q1.elim
 | str _=>exact q1.elim
 | exc _=>exact q1.elim
theorem M0{pins:List (Addr×Obj)}{σ:L2.St}{H H1:Hp}{G G1:Gp}{s:aK}{R:List D->(Gp->Prop)->Gp->Prop}{lo hi:Int}{t u v:Tok}{tk:Nat}(I:Inv X pins σ H1 s)(m:Mv X.K H G H1 G1)(h1:-(2 ^ 62)<=lo)(h2:lo < 2 ^ 62)(h3:-(2 ^ 62)<=hi)(h4:hi < 2 ^ 62)
  (q:R (ek lo (hi - lo).toNat) (fun _=>True) G1):wpAny (model X.prog X.w) X.A (pyIter (.ref s.heap.objs.size)) (ON X pins σ tg H G R) X.xe { s with heap:=s.heap.push { cls:=.type "range",data:=.fields #[.int lo t,.int hi u,.int 1 v] },toks:=tk }:=by
 refine ix (M5 (tg:=tg) I h1 h2 h3 h4 (R:=fun J H'=>J=Itr lo (hi - lo).toNat/\H'=H1) ⟨rfl,rfl⟩) ?_;rintro Q0 s2 ⟨it,fp,tn,J,H',e,kD,T,st,fo,eJ,eH⟩;subst eJ; subst eH;refine⟨it,fp,tn,_,H',G1,_,_,e,kD,m,T,st,fo,fun i H2 G2 k ab _=>⟨fun d hd=>?_,fun hl=>?_⟩,q⟩
 ·unfold ek at hd;rw [dS] at hd;cases Qo:(gK (hi - lo).toNat)[i]? with
  | none=>rw [Qo] at hd; cases hd
  | some j =>
   rw [Qo] at hd;obtain⟨EO,ej⟩:=List.getElem?_eq_some_iff.mp Qo;rw [eP] at EO;rw [mj] at ej;subst ej;cases hd;refine⟨EO,?_⟩;rintro x H3 ⟨e1,e2⟩;subst e1; subst e2;exact⟨.int _,.refl ab⟩
 ·unfold ek at hl;rw [av,eP] at hl;exact hl
theorem fV (hg:Gl X "range") (hm:X.mg "range" = none) (ha:iL X a ta) (hs:autoParam (bO [a] X.env=[(false,eval a X.env)]) Ar._auto_1):QL X tg (.Call (.Name "range" p) [a] [] pos) (oz ta):=by
 intro E pins s σ H τ G R hE I h;have hA:B5 X [a] (aj ta aM):=af ha aA hs;refine Call_ (ud I.inv hg hm boot_range (jg (uI hA pos hE I (R:=fun ds G1=>match ds with | [.int n]=>-(2 ^ 62)<=n/\n < 2 ^ 62/\R (ek 0 n.toNat) (fun _=>True) G1 | _=>False) ?_ fun vs H1 ds G1 us s1 I1 m1 r1 kI q1=>?_) hs rfl))
 ·show ta E τ G _;have e:(fun (x:D) (G1:Gp)=>match [x] with | [.int n]=>-(2 ^ 62)<=n/\n < 2 ^ 62/\R (ek 0 n.toNat) (fun _=>True) G1 | _=>False)=fun x G1=>match x with | .int n=>-(2 ^ 62)<=n/\n < 2 ^ 62/\R (ek 0 n.toNat) (fun _=>True) G1 | _=>False:=by
   funext x G1; cases x <;> rfl
  exact e ▸ h
 ·split at q1
  ·rename_i n;obtain⟨w,rfl,EN⟩:=kI.one;cases EN;obtain⟨u,rfl,ru⟩:=r1.one;obtain⟨t,rfl⟩:=ru;obtain⟨q1,q2,q⟩:=q1;exact call_range_1 (M0 I1.inv m1 (by lia) (by lia) q1 q2 (by simpa using q))
  ·exact q1.elim
theorem cH{iter:Expr}{body:List Stmt}{wi:QJ}{g:B4}{t:fN}(hp:PassesOwn (model X.prog X.w) X.A X.env X.xe)(hc:X.calm=true)(hi:QL X tg iter wi)(hg:LO X tg g)(hb:uq X body t)
  (hs:autoParam (∀ x,oJ iter X.env x=pure x) Ai._auto_1):EF X (.For tg iter body [] pos) (du wi g t):=by
 intro E pins s σ H τ G D hE I h;refine wpAny_For (ix (hi E pins s σ H τ G _ hE I h) fun v s1 h1=>ix h1 fun Q0 s2 h2=>?_) hs;obtain⟨it,fp,tn,J,H2,G2,ds,ok,e,kD,m2,T,O6,f2,wk,q⟩:=h2;subst e;have RM:∀ {H':Hp},(∀ b∈fp,H' b=none)->∀ b∈fp,qF X pins H' b:=fun hn b hb=>⟨hn b hb,(f2 b hb).2⟩;refine codeAny_forLoop_any (fun n s'=>∃ i jU H' lp G',I2 X pins jU H' lp G' s'/\Mv X.K H G H' G'/\Kp H2 H'/\tn i s'.heap/\(∀ b∈fp,H' b=none)/\n=ds.length - i/\i<=ds.length/\rV g t ok (ds.drop i) E D lp G') ?_ ds.length
  ⟨0,σ,H2,τ,G2,I.mv kD m2,m2,.refl _,O6,fun b hb=>(f2 b hb).1,rfl,fT _,q⟩
 rintro n s3 ⟨i,Pr,H3,Ry,G3,I3,m3,k3,WA,fr3,rfl,hle,w3⟩;by_cases EO:i < ds.length
 ·rw [Jo EO] at w3;obtain⟨TY,w3⟩:=w3;obtain⟨go,yl⟩:=(wk i H3 G3 k3 I3.ab TY).1 ds[i] (by simp [EO]);refine kK hp (ix (T.item X rfl rfl rfl hc i pins s3 Pr H3 X.xe I3.inv (RM fr3) WA go) ?_);rintro r s4 ⟨u,hr,h4⟩;subst hr;refine kK hp (ix h4 ?_);rintro _ s5 ⟨x,H5,I5,r5,y5,XU,fr5⟩;obtain⟨rd5,m5⟩:=yl x H5 y5;have I5':=I5.pinned (RM fr5) (T.obj _ _ XU);have J5:I2 X (pins++rO fp s5.heap) Pr H5 Ry G3 s5:=⟨I5',I3.st.mono (m5.kp I3.ab),m5.ab⟩;refine kK hp (ix (hg E _ s5 Pr H5 Ry G3 x ds[i] u _ hE J5 r5 rd5 w3) ?_);rintro _ s6 ⟨σ6,H6,τ6,G6,I6,m6,q6⟩;refine kK hp (ix (hb E _ s6 σ6 H6 τ6 G6 _ hE I6 q6) fun f s7 q7=>?_);have again:∀ {L6:L2.St} {H7:Hp} {L3:iH} {G7:Gp},I2 X (pins++rO fp s5.heap) L6 H7 L3 G7 s7->Mv X.K H6 G6 H7 G7->rV g t ok (ds.drop (i+1)) E D L3 G7 ->
    ∃ m,m < ds.length - i/\∃ i jU H' lp G',I2 X pins jU H' lp G' s7/\Mv X.K H G H' G'/\Kp H2 H'/\tn i s7.heap/\(∀ b∈fp,H' b=none)/\m=ds.length - i/\i<=ds.length/\rV g t ok (ds.drop i) E D lp G':=fun {L6 H7 L3 G7} I7 m7 n7=>by
   have mm:=m5.trans (m6.trans m7);refine⟨ds.length - (i+1),by lia,i+1,L6,H7,L3,G7,⟨I7.inv.uG,I7.st,I7.ab⟩,m3.trans mm,k3.trans (mm.kp I3.ab),T.keep _ _ _ XU fun b hb o e=>(I7.inv.pin (b,o) (c9 _ (c9 _ (qc hb e)))).1,fun b hb=>?_,rfl,EO,n7⟩;obtain⟨o,e,d⟩:=T.obj _ _ XU b hb;exact(I7.inv.pin (b,o) (c9 _ (c9 _ (qc hb e)))).2.1
  cases f with
  | next=>obtain⟨L6,H7,L3,G7,I7,m7,n7⟩:=q7; exact again I7 m7 n7
  | cont=>obtain⟨L6,H7,L3,G7,I7,m7,n7⟩:=q7; exact again I7 m7 n7
  | brk=>obtain⟨L6,H7,L3,G7,I7,m7,q7⟩:=q7; exact⟨L6,H7,L3,G7,⟨I7.inv.uG,I7.st,I7.ab⟩,m3.trans (m5.trans (m6.trans m7)),q7⟩
  | ret v=>obtain⟨x7,L6,H7,d7,G7,I7,m7,r7,rd7,q7⟩:=q7; exact⟨x7,L6,H7,d7,G7,I7.uG,m3.trans (m5.trans (m6.trans m7)),r7,rd7,q7⟩
 ·have hn:ds.length<=i:=by lia
  rw [Mt hn] at w3;obtain⟨TY,qn⟩:=w3;have stop:=(wk i H3 G3 k3 I3.ab TY).2 hn;refine kK hp (ix (T.done X rfl rfl rfl hc i pins s3 Pr H3 X.xe I3.inv (RM fr3) WA stop) ?_);rintro r s4 ⟨hr,I4⟩;subst hr;exact kL ⟨Pr,H3,Ry,G3,⟨I4,I3.st,I3.ab⟩,m3,qn⟩
theorem Cy{c:Expr}{body:List Stmt}{tc:yb}{t:fN}(hp:PassesOwn (model X.prog X.w) X.A X.env X.xe)(hc:Kt X c tc)(hb:uq X body t):EF X (.While c body [] pos) (IS tc t):=by
 intro E pins s σ H τ G D hE I h;obtain⟨n0,w0⟩:=h;refine wpAny_While (codeAny_whileLoop (fun n s'=>∃ jU H' lp G',I2 X pins jU H' lp G' s'/\Mv X.K H G H' G'/\yk tc t n E D lp G') ?_ n0 ⟨σ,H,τ,G,I,.refl I.ab,w0⟩);rintro n s1 ⟨Wy,H1,tK,G1,I1,m1,w1⟩;cases n with
 | zero=>exact w1.elim
 | succ n =>
  refine kK hp (KJ hc hE I1 w1 fun b H2 G2 s2 kD m2 q2=>?_);cases b with
  | true =>
   rw [if_pos rfl] at q2 ⊢;refine kK hp (ix (hb E pins s2 Wy H2 tK G2 _ hE kD q2) fun f s3 q3=>?_);cases f with
   | next=>obtain⟨Pr,H3,Ry,G3,I3,m3,n3⟩:=q3; exact⟨n,lr _,Pr,H3,Ry,G3,I3,m1.trans (m2.trans m3),n3⟩
   | cont=>obtain⟨Pr,H3,Ry,G3,I3,m3,n3⟩:=q3; exact⟨n,lr _,Pr,H3,Ry,G3,I3,m1.trans (m2.trans m3),n3⟩
   | brk=>exact q3.trans (m1.trans m2)
   | ret v=>exact q3.trans (m1.trans m2)
  | false =>
   rw [if_neg iG] at q2 ⊢;exact kL ⟨Wy,H2,tK,G2,kD,m1.trans m2,q2⟩
end
end K2
end
section
namespace K2
open PySem PySem.Spec PyProof.Rows L2
theorem Dv(n d:Nat)(o:Option Int):HT.j8 n d o=j8 n d o:=by cases o <;> rfl
theorem bx.cut{K:ay}{H:Hp}{vs:List V}{ds:List D}(r:bx K H vs ds)(lo hi:Option Int):bx K H (GH vs lo hi) (K2.cut ds lo hi):=by
 unfold GH K2.cut;rw [Dv,Dv,r.length];exact(r.drop _).take _
theorem bx.nT{K:ay}{H:Hp}{vs:List V}{ds:List D}{i:Int}{d:D}(r:bx K H vs ds)(h:K2.nT ds i=some d):∃ v,L2.nT vs i=some v/\cZ K H v d:=by
 unfold K2.nT at h;cases e:K2.Lm ds.length i with
 | none=>rw [e] at h; cases h
 | some j =>
  rw [e] at h;obtain⟨v,h1,h2⟩:=r.get (show ds[j]?=some d from h);refine⟨v,?_,h2⟩;show (L2.Lm vs.length i).bind _=_;have e':L2.Lm vs.length i=some j:=by rw [r.length]; exact e
  rw [e'];exact h1
section
variable {X:Cx} {a b c e:Expr} {ta tb tc te:iu} {pos p2:Pos}
theorem qE{pins:List (Addr×Obj)}{s:aK}{σ:L2.St}{H:Hp}{G:Gp}{x:V}{d:D}{v:Value}{zs:List D}(I:Inv X pins σ H s)(ab:lA X.K H G)(rx:RelV x v)(rd:cZ X.K H x d)(hi:rQ d G=some zs) :
  ∃ l vs cy,v=.ref l/\Vals vs cy/\bx X.K H vs zs/\s.heap.IsList l cy.toArray/\vs.length<=bG:=by
 cases rd with
 | fU hq rs =>
  cases hi;cases rx;obtain⟨cy,rv,pl,hz⟩:=I.list hq.sq;exact⟨_,_,cy,rfl,rv,rs,pl.isList,hz⟩
 | ref l =>
  unfold rQ at hi;dsimp only at hi;cases hg:G l with
  | none=>rw [hg] at hi; cases hi
  | some gg =>
   rw [hg] at hi;cases gg with
   | lst ds =>
    cases hi;cases rx;obtain⟨vs,hv,rs⟩:=ab.lst hg;obtain⟨cy,rv,pl,hz⟩:=I.list (.of hv);exact⟨_,_,cy,rfl,rv,rs,pl.isList,hz⟩
   | ins _ _=>cases hi
   | ka _=>cases hi
 | _=>cases hi
theorem CC{pins:List (Addr×Obj)}{s:aK}{σ:L2.St}{H:Hp}(I:Inv X pins σ H s){m:Str->Option Value}(F0:Fr X.base X.env.locals s.heap m){h':Heap}(F:Fr X.base X.env.locals h' m)(N:News X.base X.env.locals h' (vV X.base s.heap X.env.locals)) :
  (∀ b o,b≠X.env.locals->s.heap.get? b=some o->h'.get? b=some o)/\∀ m',s.heap.Ns X.env.locals m'->h'.Ns X.env.locals m':=by
 refine⟨fun b o hb e=>?_,fun m' hm=>?_⟩
 ·cases q:X.base.get? b with
  | some u =>
   have:=I.bk b u q;rw [e] at this; cases this;exact F.keep b _ q
  | none=>exact(N (b,o) (xS hb q e)).1
 ·have e1:=hm.eq_nsMap;have e2:=F0.ns.eq_nsMap;rw [e1,<-e2]; exact F.ns
theorem pF{P:bU}{w:World}{H:Hp}{h:Heap}{a:Addr}:∀ {o:HO},gE P w H h a o->∃ ob,h.get? a=some ob:=by
 intro o x;cases o with
 | lst _=>obtain⟨_,_,_,_,e⟩:=x; exact⟨_,e⟩
 | tup _=>obtain⟨_,_,_,ob,e,_⟩:=x; exact⟨ob,e⟩
 | dK _=>obtain⟨_,_,_,_,ob,_,_,e,_⟩:=x; exact⟨ob,e⟩
 | dT _=>obtain⟨_,_,_,_,ob,_,_,e,_⟩:=x; exact⟨ob,e⟩
 | set _ _=>obtain⟨ob,_,_,_,e,_⟩:=x; exact⟨ob,e⟩
 | ins _ _ _=>obtain⟨_,_,_,e,_⟩:=x; exact⟨_,e⟩
 | own _=>exact x
 | xd _=>obtain⟨_,⟨ob,_,_,e,_⟩,_⟩:=x; exact⟨ob,e⟩
 | met _ _=>exact⟨_,x⟩
 | UY _ _=>obtain⟨_,_,_,e⟩:=x; exact⟨_,e⟩
 | pO _ _=>exact⟨_,x.1⟩
 | PC _=>obtain⟨_,e,_⟩:=x; exact⟨_,e⟩
 | ext _=>exact x.2.1
theorem Ka{P:bU}{w:World}{H:Hp}{h:Heap}{a:Addr}(ok:pV P w H h)(e:h.get? a=none):H a=none:=by
 cases q:H a with
 | none=>rfl
 | some o =>
  obtain⟨ob,z⟩:=pF (ok a o q);rw [e] at z; cases z
theorem Inv.QY{pins:List (Addr×Obj)}{s:aK}{σ:L2.St}{H:Hp}(I:Inv X pins σ H s){h':Heap}{t':Nat}{a:Addr}{o:HO}(k:∀ b o,b≠X.env.locals->s.heap.get? b=some o->h'.get? b=some o)(ns:∀ m',s.heap.Ns X.env.locals m'->h'.Ns X.env.locals m')
  (hp:s.heap.get? a=none) (new:gE X.prog X.w (upd H a o) h' a o):Inv X pins σ (upd H a o) { s with heap:=h',toks:=t' }:=by
 have hn:H a=none:=Ka I.eL hp;have ne:∀ b u,H b=some u->b≠a:=fun b u e=>e7 e hn;have nL:∀ b u,H b=some u->b≠X.env.locals:=fun b u e=>e7 e I.free;have ht:∀ b u,s.heap.get? b=some u->b≠a:=fun b u e z=>by subst z; rw [hp] at e; cases e
 have thL:∃ o',h'.get? X.env.locals=some o':=by
  obtain⟨m,hm,_⟩:=I.loc;obtain⟨o',_,_,ho,_⟩:=ns m hm;exact⟨o',ho⟩
 refine I.step (g':=s.gens) (d':=s.drawn) (ch:=[]) (fun b hb=>absurd hb (by simp)) (fun b o hL _ _ e _=>k b o hL e) (fun b o hL _ _ e _=>⟨o.slots,k b o hL e⟩) (fun b o _ e n=>by rw [cp (ht b o e)]; exact n)
  (fun b o _ e=>?_) (fun b xs e=>by rw [cp (ne _ _ e)]; exact e) (fun b o u e=>by rw [cp (ne _ _ e)]; exact e) (fun b ps e=>by rw [cp (ne _ _ e)]; exact e) (fun b ps e=>by rw [cp (ne _ _ e)]; exact e) ns (fun b u e=>?_) I.bare
 ·by_cases hb:b=X.env.locals
  ·rw [hb]; exact thL
  ·exact⟨o,k b o hb e⟩
 ·by_cases hb:b=a
  ·subst hb; rw [dF] at e; cases e; exact new
  ·rw [cp hb] at e;refine(I.eL b u e).kG (fun c v hc r=>k c v ?_ r) (fun c z=>by rw [cp (ne _ _ z)]; exact z) (fun c xs z=>by rw [cp (ne _ _ z)]; exact z);rcases hc with rfl | hc
   ·exact nL _ _ e
   ·exact nL _ _ hc
theorem fj:vX X (lh .Add) jl:=by
 intro pins s σ H G x y dx dy v u Q I ab rx ry dX dY q;have lists:A8 dx dy G Q->wpAny (model X.prog X.w) X.A (lh .Add v u) (rg X pins σ H G Q) X.xe s:=by
  intro q;unfold A8 at q;split at q
  ·rename_i xs ys e1 e2;obtain⟨hz,q⟩:=q;obtain⟨l,vs,cy,rfl,rv,rs,hl,_⟩:=qE I ab rx dX e1;obtain⟨b,ws,tD,rfl,KP,QR,hb,_⟩:=qE I ab ry dY e2;obtain⟨m,F0⟩:=I.fr;have hsz:cy.length+tD.length<=bG:=by rw [<-rv.length,<-KP.length,rs.length,QR.length,dw]; exact hz
   refine PyProof.Rows.add_lists F0 FE hl hb (fun h' F N=>?_) hsz;obtain⟨kk,ns⟩:=CC I F0 F fun p hp=>N p (bq _ hp);have hp:H s.heap.objs.size=none:=I.eL.fresh (bp _);refine⟨.ref s.heap.objs.size,upd H s.heap.objs.size (.lst (vs++ws)),.ref _,_,Inv.QY (t':=s.toks) I kk ns (Pq (bp _)) ?_,.K7 ab hp (rs.append QR),rfl,.ref _,q _ (ab.free hp)⟩;exact⟨by rw [aJ,rv.length,KP.length]; exact hsz,cy++tD,0,rv.append KP,(N _ c8).1⟩
  ·exact q.elim
 cases dX with
 | int i =>
  cases dY with
  | int j=>exact ix (R8 pins s σ H _ _ v u (Bb X.K H G Q) I rx ry ⟨i,j,rfl,rfl,_,_,.refl ab,.int _,q⟩) fun _ _ z=>.of z
  | _=>exact lists q
 | str i =>
  cases dY with
  | str j =>
   obtain⟨hz,q⟩:=q;exact ix (HW pins s σ H _ _ v u (Bb X.K H G Q) I rx ry ⟨i,j,rfl,rfl,by rw [dw]; exact hz,_,_,.refl ab,.str _,q⟩) fun _ _ z=>.of z
  | _=>exact lists q
 | tup h1 r1 =>
  cases dY with
  | tup h2 r2 =>
   obtain⟨hn,hz,q⟩:=q;refine ix (P5 pins s σ H _ _ v u (Bb X.K H G Q) I rx ry ⟨_,_,_,_,rfl,rfl,.of h1,.of h2,?_,?_,fun e=>?_,fun e p hp=>?_⟩) fun _ _ z=>.of z
   ·rintro rfl; cases r1; exact hn rfl
   ·rw [r1.length,r2.length,dw]; exact hz
   ·subst e;cases r2;rw [cz] at q;exact⟨_,_,.refl ab,.tup h1 r1,q⟩
   ·exact⟨_,_,.S1 ab hp,.tup dF ((r1.append r2).mono (.new hp)),q⟩
  | _=>exact lists q
 | ref l=>exact lists (by rw [pD] at q; exact q)
 | fU _ _=>exact lists (by rw [ve] at q; exact q)
 | _=>exact lists (by cases dY <;> exact q)
theorem sN:vX X (lh .Sub) Fw:=by
 intro pins s σ H G x y dx dy v u Q I ab rx ry dX dY q;cases dX with
 | int i =>
  cases dY with
  | int j=>exact ix (R4 pins s σ H _ _ v u (Bb X.K H G Q) I rx ry ⟨i,j,rfl,rfl,_,_,.refl ab,.int _,q⟩) fun _ _ z=>.of z
  | _=>exact bP q
 | _=>exact bP q
theorem gf:vX X (lh .Mult) mS:=by
 intro pins s σ H G x y dx dy v u Q I ab rx ry dX dY q;cases dX with
 | int i =>
  cases dY with
  | int j=>exact ix (R5 pins s σ H _ _ v u (Bb X.K H G Q) I rx ry ⟨i,j,rfl,rfl,q.1,_,_,.refl ab,.int _,q.2⟩) fun _ _ z=>.of z
  | _=>exact bP q
 | _=>exact bP q
theorem eX:vX X (lh .Mod) kl:=by
 intro pins s σ H G x y dx dy v u Q I ab rx ry dX dY q;cases dX with
 | int i =>
  cases dY with
  | int j=>exact ix (R6 pins s σ H _ _ v u (Bb X.K H G Q) I rx ry ⟨i,j,rfl,rfl,q.1,_,_,.refl ab,.int _,q.2⟩) fun _ _ z=>.of z
  | _=>exact bP q
 | _=>exact bP q
theorem jW:vX X (lh .FloorDiv) qN:=by
 intro pins s σ H G x y dx dy v u Q I ab rx ry dX dY q;cases dX with
 | int i =>
  cases dY with
  | int j=>exact ix (P4 pins s σ H _ _ v u (Bb X.K H G Q) I rx ry ⟨i,j,rfl,rfl,⟨q.1,q.2.1⟩,_,_,.refl ab,.int _,q.2.2⟩) fun _ _ z=>.of z
  | _=>exact bP q
 | _=>exact bP q
theorem R9(hu:X.A.units < cLine):vX X (gN .Lt) WE:=by
 intro pins s σ H G x y dx dy v u Q I ab rx ry dX dY q;cases dX with
 | int i =>
  cases dY with
  | int j=>exact ix (U4 pins s σ H _ _ v u (Bb X.K H G Q) I rx ry ⟨i,j,rfl,rfl,_,_,.refl ab,.bl _,q⟩) fun _ _ z=>.of z
  | _=>exact bP q
 | tup h1 r1 =>
  cases dY with
  | tup h2 r2 =>
   obtain⟨xs,ys,e1,e2,q⟩:=q;subst e1 e2;have z1:=r1.ints;have z2:=r2.ints;subst z1 z2;have el:∀ xs ys:List Int,HT.lexLt xs ys=K2.lexLt xs ys:=by
    intro xs;induction xs with
    | nil=>intro ys; cases ys <;> rfl
    | cons x xs ih=>intro ys; cases ys with
     | nil=>rfl
     | cons y ys=>unfold HT.lexLt K2.lexLt; rw [ih]
   exact ix (R7 hu pins s σ H _ _ v u (Bb X.K H G Q) I rx ry ⟨_,_,xs,ys,rfl,rfl,.of h1,.of h2,_,_,.refl ab,.bl _,by rw [el]; exact q⟩) fun _ _ z=>.of z
  | _=>exact bP q
 | _=>exact bP q
mutual
noncomputable def pd:D->PyData
 | .j9=>.none
 | .bl b=>.bool b
 | .int i=>.int i
 | .str x=>.str x
 | .tup ds=>.tuple (wx ds)
 | .fU ds=>.list (wx ds)
 | .sM _=>.none
 | .exc _=>.none
 | .ref _=>.none
noncomputable def wx:List D->List PyData
 | []=>[]
 | d :: r=>pd d :: wx r
end
mutual
theorem AR:∀ (s t:D),nr s=true->nr t=true->uC (pd s) (pd t)=jT s t
 | .j9,t,_,ht=>by cases t <;> first | rfl | (exact bT (show false=true from ht))
 | .bl a,t,_,ht=>by cases t <;> first | rfl | (exact bT (show false=true from ht))
 | .int a,t,_,ht=>by cases t <;> first | rfl | (exact bT (show false=true from ht))
 | .str a,t,_,ht=>by cases t <;> first | rfl | (exact bT (show false=true from ht))
 | .tup a,t,hs,ht=>by
  cases t with
  | tup b=>exact Em a b hs ht
  | ref _=>exact bT (show false=true from ht)
  | exc _=>exact bT (show false=true from ht)
  | sM _=>exact bT (show false=true from ht)
  | _=>rfl
 | .fU a,t,hs,ht=>by
  cases t with
  | fU b=>exact Em a b hs ht
  | ref _=>exact bT (show false=true from ht)
  | exc _=>exact bT (show false=true from ht)
  | sM _=>exact bT (show false=true from ht)
  | _=>rfl
 | .ref _,_,hs,_=>bT (show false=true from hs)
 | .exc _,_,hs,_=>bT (show false=true from hs)
 | .sM _,_,hs,_=>bT (show false=true from hs)
theorem Em:∀ (s t:List D),DO s=true->DO t=true->PyData.eqvAll (wx s) (wx t)=kY s t
 | [],[],_,_=>rfl
 | [],_ :: _,_,_=>rfl
 | _ :: _,[],_,_=>rfl
 | a :: r,b :: t,hs,ht=>by
  have SI:nr a=true/\DO r=true:=(kH).mp hs;have Pb:nr b=true/\DO t=true:=(kH).mp ht;show (uC (pd a) (pd b)&&PyData.eqvAll (wx r) (wx t))=(jT a b&&kY r t);rw [AR a b SI.1 Pb.1,Em r t SI.2 Pb.2]
end
mutual
theorem oN:∀ (s:D),nr s=true->(pd s).canLay0=true
 | .j9,_=>rfl
 | .bl a,_=>rfl
 | .int a,_=>rfl
 | .str a,h=>h
 | .tup a,h=>vq a h
 | .fU a,h=>vq a h
 | .exc _,_=>rfl
 | .ref _,_=>rfl
 | .sM _,_=>rfl
theorem vq:∀ (s:List D),DO s=true->PyData.canLayAll0 (wx s)=true
 | [],_=>rfl
 | a :: r,h=>by
  have h':nr a=true/\DO r=true:=(kH).mp h;show ((pd a).canLay0&&PyData.canLayAll0 (wx r))=true;rw [oN a h'.1,vq r h'.2]; rfl
end
theorem IJ{G:Gp}{n:Nat}{d t:D}(h:Sn G n d t):(pd t).depth<=n:=by
 induction h with
 | j9=>exact fT _
 | bl b=>exact fT _
 | int i=>exact fT _
 | str x h=>exact fT _
 | Fd=>exact uw (fT _)
 | qG _ _ NL NK =>
  exact uw (Nat.max_le.mpr ⟨NL,uD NK⟩)
 | MZ=>exact uw (fT _)
 | Fu _ _ NL NK =>
  exact uw (Nat.max_le.mpr ⟨NL,uD NK⟩)
 | ref _ _ ih=>exact ih
theorem kB{pins:List (Addr×Obj)}{σ:L2.St}{H:Hp}{s:aK}{G:Gp}(I:Inv X pins σ H s)(ab:lA X.K H G){n:Nat}{d t:D}(h:Sn G n d t) :
  (∀ v u,cZ X.K H v d->RelV v u->∃ as,Reads s.heap u (pd t) as) /\
  (∀ ds ss,(d=.fU ds/\t=.fU ss)\/(d=.tup ds/\t=.tup ss)->∀ vs us,bx X.K H vs ds->Vals vs us->∃ as,qR s.heap us (wx ss) as):=by
 have QQ:∀ {ds ss:List D},(∀ vs us,bx X.K H vs ds->Vals vs us->∃ as,qR s.heap us (wx ss) as)->∀ v u,cZ X.K H v (.tup ds)->RelV v u->∃ as,Reads s.heap u (pd (.tup ss)) as:=by
  intro ds ss k v u r ru;cases r with
  | tup hq rs =>
   cases ru;obtain⟨cy,rv,⟨o,ho,hc,n,hd⟩,hz⟩:=I.tuple (.of hq);obtain⟨as,ra⟩:=k _ cy rs rv;exact⟨as,.tuple ho hc hd (by simpa using ra)⟩
 have QS:∀ {ds ss:List D},(∀ vs us,bx X.K H vs ds->Vals vs us->∃ as,qR s.heap us (wx ss) as)->∀ v u,cZ X.K H v (.fU ds)->RelV v u->∃ as,Reads s.heap u (pd (.fU ss)) as:=by
  intro ds ss k v u r ru;cases r with
  | fU hq rs =>
   cases ru;obtain⟨cy,rv,pl,hz⟩:=I.list hq.sq;obtain⟨o,ho,hc,n,hd⟩:=pl.isList;obtain⟨as,ra⟩:=k _ cy rs rv;exact⟨_,.list ho hc hd (by simpa using ra)⟩
 induction h with
 | j9=>exact⟨fun v u r ru=>by cases r; cases ru; exact⟨_,.none⟩,fun ds ss e=>by rcases e with ⟨e,_⟩ | ⟨e,_⟩ <;> cases e⟩
 | bl b=>exact⟨fun v u r ru=>by cases r; cases ru; exact⟨_,.bool b⟩,fun ds ss e=>by rcases e with ⟨e,_⟩ | ⟨e,_⟩ <;> cases e⟩
 | int i=>exact⟨fun v u r ru=>by cases r; obtain⟨t,rfl⟩:=ru; exact⟨_,.int i t⟩,fun ds ss e=>by rcases e with ⟨e,_⟩ | ⟨e,_⟩ <;> cases e⟩
 | str x hx=>exact⟨fun v u r ru=>by cases r; obtain⟨t,rfl⟩:=ru; exact⟨_,.str x t⟩,fun ds ss e=>by rcases e with ⟨e,_⟩ | ⟨e,_⟩ <;> cases e⟩
 | Fd =>
  have k:∀ vs us,bx X.K H vs []->Vals vs us->∃ as,qR s.heap us (wx []) as:=fun vs us r ru=>by
   have e:=r.zero;subst e;cases ru;exact⟨_,.nil⟩
  refine⟨QQ k,fun ds ss e=>?_⟩;rcases e with ⟨e,_⟩ | ⟨e,e2⟩
  ·cases e
  ·cases e; cases e2; exact k
 | qG h1 h2 NL NK =>
  have k2:=NK.2 _ _ (.inr ⟨rfl,rfl⟩);have k:∀ vs us,bx X.K H vs (_ :: _)->Vals vs us->∃ as,qR s.heap us (wx (_ :: _)) as:=fun vs us r ru=>by
   cases r with
   | cons r1 r2 =>
    cases ru with
    | cons u1 u2 =>
     obtain⟨as,ra⟩:=NL.1 _ _ r1 u1;obtain⟨bs,rb⟩:=k2 _ _ r2 u2;exact⟨_,.cons ra rb⟩
  refine⟨QQ k,fun ds ss e=>?_⟩;rcases e with ⟨e,_⟩ | ⟨e,e2⟩
  ·cases e
  ·cases e; cases e2; exact k
 | MZ =>
  have k:∀ vs us,bx X.K H vs []->Vals vs us->∃ as,qR s.heap us (wx []) as:=fun vs us r ru=>by
   have e:=r.zero;subst e;cases ru;exact⟨_,.nil⟩
  refine⟨QS k,fun ds ss e=>?_⟩;rcases e with ⟨e,e2⟩ | ⟨e,_⟩
  ·cases e; cases e2; exact k
  ·cases e
 | Fu h1 h2 NL NK =>
  have k2:=NK.2 _ _ (.inl ⟨rfl,rfl⟩);have k:∀ vs us,bx X.K H vs (_ :: _)->Vals vs us->∃ as,qR s.heap us (wx (_ :: _)) as:=fun vs us r ru=>by
   cases r with
   | cons r1 r2 =>
    cases ru with
    | cons u1 u2 =>
     obtain⟨as,ra⟩:=NL.1 _ _ r1 u1;obtain⟨bs,rb⟩:=k2 _ _ r2 u2;exact⟨_,.cons ra rb⟩
  refine⟨QS k,fun ds ss e=>?_⟩;rcases e with ⟨e,e2⟩ | ⟨e,_⟩
  ·cases e; cases e2; exact k
  ·cases e
 | ref hg h1 ih =>
  refine⟨fun v u r ru=>?_,fun ds ss e=>by rcases e with ⟨e,_⟩ | ⟨e,_⟩ <;> cases e⟩;cases r;cases ru;obtain⟨vs,hv,rs⟩:=ab.lst hg;obtain⟨cy,rv,pl,hz⟩:=I.list (.of hv);obtain⟨o,ho,hc,n,hd⟩:=pl.isList;obtain⟨as,ra⟩:=ih.2 _ _ (.inl ⟨rfl,rfl⟩) vs cy rs rv;exact⟨_,.list ho hc hd (by simpa using ra)⟩
theorem gJ(hu:X.A.units+64 < cLine):vX X (gN .Eq) (nU false):=by
 intro pins s σ H G x y dx dy v u Q I ab rx ry dX dY q;obtain⟨a,b,sa,sb,q⟩:=q;obtain⟨as,ra⟩:=(kB I ab sa).1 x v dX rx;obtain⟨bs,rb⟩:=(kB I ab sb).1 y u dY ry;have d1:=IJ sa;refine SeqAt.compareEq_reads ra rb (oN _ sa.nr) (oN _ sb.nr) (by unfold SN at d1; lia) ?_;rw [AR _ _ sa.nr sb.nr];exact⟨.bl _,H,.bl _,G,I,.refl ab,rfl,.bl _,q⟩
theorem kS(hu:X.A.units+64 < cLine):vX X (gN .NotEq) (nU true):=by
 intro pins s σ H G x y dx dy v u Q I ab rx ry dX dY q;obtain⟨a,b,sa,sb,q⟩:=q;obtain⟨as,ra⟩:=(kB I ab sa).1 x v dX rx;obtain⟨bs,rb⟩:=(kB I ab sb).1 y u dY ry;have d1:=IJ sa;refine SeqAt.compareNe_reads ra rb (oN _ sa.nr) (oN _ sb.nr) (by unfold SN at d1; lia) ?_;rw [AR _ _ sa.nr sb.nr];exact⟨.bl _,H,.bl _,G,I,.refl ab,rfl,.bl _,q⟩
end
end K2
end
section
namespace K2
open PySem PySem.Spec PyProof.Rows L2
theorem vK(j k:Key):jT (gu j) (gu k)=decide (j=k):=by
 cases j with
 | inl a=>cases k with
  | inl b=>rw [NA]; rfl
  | inr b=>exact(decide_eq_false (fun z=>nomatch z)).symm
 | inr a=>cases k with
  | inl b=>exact(decide_eq_false (fun z=>nomatch z)).symm
  | inr b=>rw [Nz]; exact(O3 a b)
theorem CP:∀ (js ks:List Key),kY (js.map gu) (ks.map gu)=decide (js=ks)
 | [],[]=>(decide_eq_true rfl).symm
 | [],_ :: _=>(decide_eq_false (fun z=>nomatch z)).symm
 | _ :: _,[]=>(decide_eq_false (fun z=>nomatch z)).symm
 | j :: js,k :: ks=>by
  show (jT (gu j) (gu k)&&kY (js.map gu) (ks.map gu))=_;rw [vK,CP js ks,AV]
theorem vJ(js ks:List Key):jT (.tup (js.map gu)) (.tup (ks.map gu))=decide (js=ks):=by
 exact CP js ks
section
variable {K:ay} {H:Hp}
theorem DX{d:D}(h:gB d=true):∃ k:Key,d=gu k:=by
 cases d with
 | int i=>exact⟨.inl i,rfl⟩
 | str x=>exact⟨.inr x,rfl⟩
 | _=>exact absurd h (by simp [gB])
theorem JV:∀ {ds:List D},ds.all gB=true->∃ ks:List Key,ds=ks.map gu
 | [],_=>⟨[],rfl⟩
 | d :: r,h=>by
  rw [LZ,bj] at h;obtain⟨k,rfl⟩:=DX h.1;obtain⟨ks,rfl⟩:=JV h.2;exact⟨k :: ks,rfl⟩
theorem JW{d:D}(h:ue d=true):∃ ks:List Key,d=.tup (ks.map gu):=by
 cases d with
 | tup ds=>obtain⟨ks,rfl⟩:=JV (ds:=ds) h; exact⟨ks,rfl⟩
 | _=>exact absurd h (by simp [ue])
theorem Dx{v:V}{k:Key}(r:cZ K H v (gu k)):v=kV k:=by
 cases k with
 | inl i=>cases r; rfl
 | inr x=>cases r; rfl
theorem Fq:∀ {vs:List V} {ks:List Key},bx K H vs (ks.map gu)->vs=ks.map kV
 | _,[],r=>r.zero
 | _,k :: ks,r=>by
  rw [aC] at r;cases r with
  | cons r1 r2=>rw [Dx r1,Fq r2]; rfl
theorem Fs{v:V}{ks:List Key}(r:cZ K H v (.tup (ks.map gu))):∃ b,v=.ref b/\H b=some (.tup (ks.map kV)):=by
 cases r with
 | tup h rs=>have e:=Fq rs; subst e; exact⟨_,rfl,h⟩
theorem q5.look{kv:List (Key×V)}{bC:List (D×D)}(r:q5 K H kv bC)(k:Key):(∃ v d,mO kv k=some v/\K2.look bC (gu k)=some d/\cZ K H v d)\/(mO kv k=none/\K2.look bC (gu k)=none):=by
 induction r using q5.ind with
 | nil=>exact .inr ⟨rfl,rfl⟩
 | @cons j v d r t rd rs ih =>
  by_cases e:j=k
  ·left;refine⟨v,d,rq (p:=(j,v)) e,?_,rd⟩;unfold K2.look;rw [Mq (by show jT (gu j) (gu k)=true; rw [vK]; exact decide_eq_true e)]; rfl
  ·have e1:mO ((j,v) :: r) k=mO r k:=rz (p:=(j,v)) e;have e2:K2.look ((gu j,d) :: t) (gu k)=K2.look t (gu k):=by
    unfold K2.look;rw [Mr (by show ¬ jT (gu j) (gu k)=true; rw [vK]; simpa using e)]
   rw [e1,e2];exact ih
theorem rh.look{kv:List (List Key×V)}{bC:List (D×D)}(r:rh K H kv bC)(k:List Key):(∃ v d,mO kv k=some v/\K2.look bC (.tup (k.map gu))=some d/\cZ K H v d)\/(mO kv k=none/\K2.look bC (.tup (k.map gu))=none):=by
 induction r using rh.ind with
 | nil=>exact .inr ⟨rfl,rfl⟩
 | @cons j v d r t rd rs ih =>
  by_cases e:j=k
  ·left;refine⟨v,d,rq (p:=(j,v)) e,?_,rd⟩;unfold K2.look;rw [Mq (by show jT (.tup (j.map gu)) (.tup (k.map gu))=true; rw [vJ]; exact decide_eq_true e)]; rfl
  ·have e1:mO ((j,v) :: r) k=mO r k:=rz (p:=(j,v)) e;have e2:K2.look ((.tup (j.map gu),d) :: t) (.tup (k.map gu))=K2.look t (.tup (k.map gu)):=by
    unfold K2.look;rw [Mr (by show ¬ jT (.tup (j.map gu)) (.tup (k.map gu))=true; rw [vJ]; simpa using e)]
   rw [e1,e2];exact ih
theorem q5.any{kv:List (Key×V)}{bC:List (D×D)}(r:q5 K H kv bC)(k:Key):(kv.any fun p=>decide (p.1=k))=bC.any fun p=>jT p.1 (gu k):=by
 induction r using q5.ind with
 | nil=>rfl
 | @cons j v d r t rd rs ih=>simp only [pe]; rw [ih,vK]
theorem rh.any{kv:List (List Key×V)}{bC:List (D×D)}(r:rh K H kv bC)(k:List Key):(kv.any fun p=>decide (p.1=k))=bC.any fun p=>jT p.1 (.tup (k.map gu)):=by
 induction r using rh.ind with
 | nil=>rfl
 | @cons j v d r t rd rs ih=>simp only [pe]; rw [ih,vJ]
theorem q5.put{kv:List (Key×V)}{bC:List (D×D)}(r:q5 K H kv bC)(k:Key){v:V}{d:D}(rd:cZ K H v d):q5 K H (putK kv k v) (K2.put bC (gu k) d):=by
 unfold putK K2.put;rw [r.any k];by_cases h:(bC.any fun p=>jT p.1 (gu k))=true
 ·rw [if_pos h,if_pos h];clear h;induction r using q5.ind with
  | nil=>exact .nil
  | @cons j w e r t re rs ih =>
   simp only [aC];rw [vK];by_cases e:j=k
   ·simp only [e,if_true,decide_true]; exact .cons rd ih
   ·simp only [e,if_false,decide_false,ao]; exact .cons re ih
 ·rw [if_neg h,if_neg h];clear h;induction r using q5.ind with
  | nil=>exact .cons rd .nil
  | cons re rs ih=>exact .cons re ih
theorem rh.put{kv:List (List Key×V)}{bC:List (D×D)}(r:rh K H kv bC)(k:List Key){v:V}{d:D}(rd:cZ K H v d):rh K H (putK kv k v) (K2.put bC (.tup (k.map gu)) d):=by
 unfold putK K2.put;rw [r.any k];by_cases h:(bC.any fun p=>jT p.1 (.tup (k.map gu)))=true
 ·rw [if_pos h,if_pos h];clear h;induction r using rh.ind with
  | nil=>exact .nil
  | @cons j w e r t re rs ih =>
   simp only [aC];rw [vJ];by_cases e:j=k
   ·simp only [e,if_true,decide_true]; exact .cons rd ih
   ·simp only [e,if_false,decide_false,ao]; exact .cons re ih
 ·rw [if_neg h,if_neg h];clear h;induction r using rh.ind with
  | nil=>exact .cons rd .nil
  | cons re rs ih=>exact .cons re ih
end
theorem Kp.putD{H:Hp}{p:Addr}{o o':HO}(hp:H p=some o)(h:(∃ k,o=.dK k)\/∃ k,o=.dT k):Kp H (upd H p o') :=
 ⟨fun a ys e=>by rw [cp (by rintro rfl; rw [hp] at e; rcases h with ⟨_,rfl⟩ | ⟨_,rfl⟩ <;> cases e)]; exact e,fun a ob u e=>by rw [cp (by rintro rfl; rw [hp] at e; rcases h with ⟨_,rfl⟩ | ⟨_,rfl⟩ <;> cases e)]; exact e⟩
section
variable {X:Cx} {pins:List (Addr×Obj)} {σ:L2.St} {H:Hp} {s:aK} {G:Gp} {a:Addr} {bC:List (D×D)} {k:D} {y:V}
theorem toT(I:Inv X pins σ H s)(e:H a=some (.dK [])):Inv X pins σ (upd H a (.dT [])) s:=by
 obtain⟨z,hd,vs,rel,dd⟩:=Kd I.eL e;have hv:vs=[]:=by cases rel; rfl
 subst hv;obtain⟨o,es,ep,ho,hx,NW,hko,hl,nd⟩:=dd;have he:es=#[]:=by
  cases hq:es.toList with
  | nil=>simpa using hq
  | cons _ _=>rw [hq] at hl; cases hl
 subst he;exact I.write (h':=s.heap) (t':=s.toks) (x:=a) (e:=a) (by rw [e]; exact jt) (.inl rfl) (fun b u _ q=>q) ⟨o,ho⟩ ⟨fT _,hd,[],.nil,o,#[],ep,ho,hx,NW,rfl,iI⟩
theorem toK(I:Inv X pins σ H s)(e:H a=some (.dT [])):Inv X pins σ (upd H a (.dK [])) s:=by
 obtain⟨z,hd,xs,rel,o,es,ep,ho,hx,NW,hl,nd⟩:=I.eL a _ e;have hv:xs=[]:=by cases rel; rfl
 subst hv;have he:es=#[]:=by simpa using hl
 subst he;exact I.write (h':=s.heap) (t':=s.toks) (x:=a) (e:=a) (by rw [e]; exact jt) (.inl rfl) (fun b u _ q=>q) ⟨o,ho⟩ ⟨fT _,hd,[],.nil,o,#[],ep,ho,hx,NW,(fun _ h=>by simp at h),.nil,iI⟩
theorem JR{o:HO}(ab:lA X.K H G)(hg:G a=some (.ka bC))(k:Kp H (upd H a o))(ho:OW X.K (upd H a o) a (.ka bC)):Mv X.K H G (upd H a o) G:=by
 have m:=Mv.put ab hg k ho;have e:de G a (.ka bC)=G:=by
  funext b; unfold de; split
  ·rename_i z; rw [z,hg]
  ·rfl
 rw [e] at m;exact m
theorem Ke(I:Inv X pins σ H s)(ab:lA X.K H G)(hg:G a=some (.ka bC))(hk:ja bC k=true)(ry:cZ X.K H y k) :
  ∃ H',Inv X pins σ H' s/\Mv X.K H G H' G/\((∃ (kv:List (Key×V)) (kk:Key),H' a=some (.dK kv)/\q5 X.K H' kv bC/\k=gu kk/\y=kV kk)\/∃ (kv:List (List Key×V)) (kk:List Key) (b:Addr),H' a=some (.dT kv)/\rh X.K H' kv bC/\k=.tup (kk.map gu)/\y=.ref b/\H' b=some (.tup (kk.map kV))):=by
 unfold ja at hk;rw [pT,bj,bj] at hk;rcases hk with ⟨h1,h2⟩ | ⟨h1,h2⟩
 ·obtain⟨kk,rfl⟩:=DX h1;have ey:=Dx ry;subst ey;rcases ab a _ hg with ⟨kv,hv,rs⟩ | ⟨kv,hv,rs⟩
  ·exact⟨H,I,.refl ab,.inl ⟨kv,kk,hv,rs,rfl,rfl⟩⟩
  ·cases rs with
   | nil =>
    refine⟨_,toK I hv,JR ab hg (.putD hv (.inr ⟨_,rfl⟩)) (.inl ⟨[],dF,.nil⟩),.inl ⟨[],kk,dF,.nil,rfl,rfl⟩⟩
   | cons _ _=>simp [gB] at h2
 ·obtain⟨kk,rfl⟩:=JW h1;obtain⟨b,rfl,hb⟩:=Fs ry;rcases ab a _ hg with ⟨kv,hv,rs⟩ | ⟨kv,hv,rs⟩
  ·cases rs with
   | nil =>
    have kp:Kp H (upd H a (.dT [])):=.putD hv (.inl ⟨_,rfl⟩);exact⟨_,toT I hv,JR ab hg kp (.inr ⟨[],dF,.nil⟩),.inr ⟨[],kk,b,dF,.nil,rfl,rfl,kp.tup _ _ hb⟩⟩
   | @cons j _ _ _ _ _ _=>cases j <;> simp [gu,ue] at h2
  ·exact⟨H,I,.refl ab,.inr ⟨kv,kk,b,hv,rs,rfl,rfl,hb⟩⟩
theorem AS(I:Inv X pins σ H s)(ab:lA X.K H G)(hg:G a=some (.ka bC))(hk:ja bC k=true)(ry:cZ X.K H y k) :
  ∃ H' o,Inv X pins σ H' s/\Mv X.K H G H' G/\yK H' a y o/\o.isSome=(look bC k).isSome/\∀ d,look bC k=some d->∃ v,o=some v/\cZ X.K H' v d:=by
 obtain⟨H',I',m,h⟩:=Ke I ab hg hk ry;rcases h with ⟨kv,kk,hv,rs,rfl,rfl⟩ | ⟨kv,kk,b,hv,rs,rfl,rfl,hb⟩
 ·refine⟨H',mO kv kk,I',m,.k hv,?_,fun d hd=>?_⟩
  ·rcases rs.look kk with ⟨v,d,e1,e2,_⟩ | ⟨e1,e2⟩ <;> rw [e1,e2] <;> rfl
  ·rcases rs.look kk with ⟨v,d',e1,e2,r⟩ | ⟨e1,e2⟩
   ·rw [e2] at hd; cases hd; exact⟨v,e1,r⟩
   ·rw [e2] at hd; cases hd
 ·refine⟨H',mO kv kk,I',m,.t hv hb,?_,fun d hd=>?_⟩
  ·rcases rs.look kk with ⟨v,d,e1,e2,_⟩ | ⟨e1,e2⟩ <;> rw [e1,e2] <;> rfl
  ·rcases rs.look kk with ⟨v,d',e1,e2,r⟩ | ⟨e1,e2⟩
   ·rw [e2] at hd; cases hd; exact⟨v,e1,r⟩
   ·rw [e2] at hd; cases hd
theorem Dw{x:V}(I:Inv X pins σ H s)(rd:cZ X.K H x (.sM bC))(hk:ja bC k=true)(ry:cZ X.K H y k) :
  ∃ a o,x=.ref a/\(bC=[]\/yK H a y o)/\o.isSome=(look bC k).isSome/\∀ d,look bC k=some d->∃ v,o=some v/\cZ X.K H v d:=by
 unfold ja at hk;rw [pT,bj,bj] at hk;cases rd with
 | t9 h rs =>
  rename_i a ob kv;rcases hk with ⟨h1,h2⟩ | ⟨h1,h2⟩
  ·obtain⟨kk,rfl⟩:=DX h1;have ey:=Dx ry;subst ey;refine⟨a,mO kv kk,rfl,.inr (.inl ⟨kv,kk,.inr ⟨_,h⟩,rfl,rfl⟩),?_,fun d hd=>?_⟩
   ·rcases rs.look kk with ⟨v,d,e1,e2,_⟩ | ⟨e1,e2⟩ <;> rw [e1,e2] <;> rfl
   ·rcases rs.look kk with ⟨v,d',e1,e2,r⟩ | ⟨e1,e2⟩
    ·rw [e2] at hd; cases hd; exact⟨v,e1,r⟩
    ·rw [e2] at hd; cases hd
  ·cases rs with
   | nil=>exact⟨a,none,rfl,.inl rfl,rfl,fun d hd=>by cases hd⟩
   | cons _ _ =>
    rename_i kx _ _ _ _ _ _;rw [LZ,bj] at h2;cases kx <;> exact absurd h2.1 (by simp [gu,ue])
 | t8 h rs =>
  rename_i a ob kv;rcases hk with ⟨h1,h2⟩ | ⟨h1,h2⟩
  ·cases rs with
   | nil=>exact⟨a,none,rfl,.inl rfl,rfl,fun d hd=>by cases hd⟩
   | cons _ _ =>
    rw [LZ,bj] at h2;exact absurd h2.1 (by simp [gB])
  ·obtain⟨kk,rfl⟩:=JW h1;obtain⟨b,rfl,hb⟩:=Fs ry;refine⟨a,mO kv kk,rfl,.inr (.inr ⟨kv,kk,b,.inr ⟨_,h⟩,rfl,hb,rfl⟩),?_,fun d hd=>?_⟩
   ·rcases rs.look kk with ⟨v,d,e1,e2,_⟩ | ⟨e1,e2⟩ <;> rw [e1,e2] <;> rfl
   ·rcases rs.look kk with ⟨v,d',e1,e2,r⟩ | ⟨e1,e2⟩
    ·rw [e2] at hd; cases hd; exact⟨v,e1,r⟩
    ·rw [e2] at hd; cases hd
theorem Oo{v:V}{d:D}(I:Inv X pins σ H s)(ab:lA X.K H G)(hg:G a=some (.ka bC))(hk:ja bC k=true)(hz:bC.length < SZ)(ry:cZ X.K H y k)(rv:cZ X.K H v d) :
  ∃ H' H'',Inv X pins σ H' s/\LR H' a y v H''/\Mv X.K H G H'' (de G a (.ka (put bC k d))):=by
 obtain⟨H',I',m,h⟩:=Ke I ab hg hk ry;have WD:=rv.mono (m.kp ab);have sz:bG=16777216:=dw;rcases h with ⟨kv,kk,hv,rs,rfl,rfl⟩ | ⟨kv,kk,b,hv,rs,rfl,rfl,hb⟩
 ·have kp:Kp H' (upd H' a (.dK (putK kv kk v))):=.putD hv (.inl ⟨_,rfl⟩);exact⟨H',_,I',.k hv (by rw [rs.length,sz]; exact hz),m.trans (.put m.ab hg kp (.inl ⟨_,dF,(rs.put kk WD).mono kp⟩))⟩
 ·have kp:Kp H' (upd H' a (.dT (putK kv kk v))):=.putD hv (.inr ⟨_,rfl⟩);exact⟨H',_,I',.t hv hb (by rw [rs.length,sz]; exact hz),m.trans (.put m.ab hg kp (.inr ⟨_,dF,(rs.put kk WD).mono kp⟩))⟩
end
end K2
end
section
namespace K2
open PySem PySem.Spec PyProof.Rows L2
section
variable {X:Cx} {a b c e:Expr} {es:List Expr} {ta tb tc te:iu} {t:xr} {pos p p2 apos qX:Pos} {x:Str}
theorem eK{k:Bool}{j}:iL X (.Constant (.bool k) j pos) (dC (.bl k)):=wQ U3 fun _ _=>.bl k
theorem mT{y:Str}{j}:iL X (.Constant (.str y) j pos) (dC (.str y)):=wQ RZ fun _ _=>.str y
theorem mY{st:Stmt}:EF X st uk:=fun _ _ _ _ _ _ _ _ _ _ h=>h.elim
theorem pX:Wn X (unaryOp .USub) DA:=by
 intro pins s σ H G x dx v Q I ab rx dX q;cases dX with
 | int i=>exact ix (RF pins s σ H _ v (Bb X.K H G Q) I rx ⟨i,rfl,_,_,.refl ab,.int _,q⟩) fun _ _ z=>.of z
 | _=>exact bP q
theorem a8(hu:X.A.units+64 < cLine)(ha:iL X a ta)(hb:iL X b tb)(hs:QK b):iL X (.Subscript a b pos) (aN ee ta tb):=by
 intro E pins s σ H τ G Q hE I h;refine Subscript_ (OK ha hb hE I h fun v u s2 x y dx dy H2 G2 J m rx ry dX dY q=>?_);have fin:∀ {rb:R2},IxR X rb->rb x y H2 (Bb X.K H2 G2 Q)->wpAny (model X.prog X.w) X.A (subscriptTail a b v u) (rg X pins σ H G Q) X.xe s2:=fun hr hq =>
  ix (hr a b pins s2 σ H2 x y v u _ J.inv rx ry hq (hs _ _)) fun _ _ z=>(rg.of z).trans m
 cases dX with
 | tup hq rs =>
  cases dY with
  | int i =>
   rw [dq] at q;split at q
   ·rename_i d hd;obtain⟨w,hw,sJ⟩:=rs.nT hd;exact fin SA ⟨_,_,i,w,rfl,rfl,.of hq,hw,d,G2,.refl J.ab,sJ,q⟩
   ·exact q.elim
  | _=>exact bP q
 | fU hq rs =>
  cases dY with
  | int i =>
   rw [vd] at q;split at q
   ·rename_i d hd;obtain⟨w,hw,sJ⟩:=rs.nT hd;exact fin JX ⟨_,_,i,w,rfl,rfl,hq.sq,hw,d,G2,.refl J.ab,sJ,q⟩
   ·exact q.elim
  | _=>exact bP q
 | t9 h rs =>
  rw [DC] at q;obtain⟨hk,q⟩:=q;split at q
  ·rename_i d hd;obtain⟨a',o,ea,g,_,hv⟩:=Dw J.inv (.t9 h rs) hk dY;obtain⟨w,rfl,sJ⟩:=hv d hd;cases ea;rcases g with rfl | g
   ·cases hd
   ·cases rx;exact tail_any (r8 J.inv g) PySem.F.slot_dict_getitem.lookup (xl (by lia) J.inv g ry fun w' s3 I4 rv=>⟨w,H2,d,G2,I4,m,rv,sJ,q⟩) (hs _ _)
  ·exact q.elim
 | t8 h rs =>
  rw [DC] at q;obtain⟨hk,q⟩:=q;split at q
  ·rename_i d hd;obtain⟨a',o,ea,g,_,hv⟩:=Dw J.inv (.t8 h rs) hk dY;obtain⟨w,rfl,sJ⟩:=hv d hd;cases ea;rcases g with rfl | g
   ·cases hd
   ·cases rx;exact tail_any (r8 J.inv g) PySem.F.slot_dict_getitem.lookup (xl (by lia) J.inv g ry fun w' s3 I4 rv=>⟨w,H2,d,G2,I4,m,rv,sJ,q⟩) (hs _ _)
  ·exact q.elim
 | ref l =>
  rw [PS] at q;split at q
  ·rename_i ds hl;obtain⟨vs,hv,rs⟩:=J.ab.lst hl;cases dY with
   | int i =>
    dsimp only at q;split at q
    ·rename_i d hd;obtain⟨w,hw,sJ⟩:=rs.nT hd;exact fin JX ⟨_,_,i,w,rfl,rfl,.of hv,hw,d,G2,.refl J.ab,sJ,q⟩
    ·exact q.elim
   | _=>exact bP q
  ·rename_i bC hl;obtain⟨hk,q⟩:=q;split at q
   ·rename_i d hd;obtain⟨H3,o,I3,m3,g,_,hv⟩:=AS J.inv J.ab hl hk dY;obtain⟨w,rfl,sJ⟩:=hv d hd;cases rx;exact tail_any (r8 I3 g) PySem.F.slot_dict_getitem.lookup (xl (by lia) I3 g ry fun w' s3 I4 rv=>⟨w,H3,d,G2,I4,m.trans m3,rv,sJ,q⟩) (hs _ _)
   ·exact q.elim
  ·exact q.elim
 | _=>exact bP q
noncomputable def Xj(X:Cx)(e:Option Expr)(t:Wq):Prop :=
 ∀ (E:lq) (pins:List (Addr×Obj)) (s:aK) (σ:L2.St) (H:Hp) (τ:iH) (G:Gp) (Q:Option Int->Gp->Prop),Lk X E->I2 X pins σ H τ G s->t E τ G Q ->
  wpAny (model X.prog X.w) X.A (evalPart e X.env) (fun u s'=>∃ o H' G',Inv X pins σ H' s'/\Mv X.K H G H' G'/\IsPart u o/\Q o G') X.xe s
theorem gV:Xj X none eE:=by
 intro E pins s σ H τ G Q hE I h;rw [evalPart_none];exact cq ⟨none,H,G,I.inv,.refl I.ab,.none,h⟩
theorem gU(h:iL X e te):Xj X (some e) (lz te):=by
 intro E pins s σ H τ G Q hE I hw;rw [evalPart_some];refine lC h hE I hw fun x H1 d G1 u s1 I1 m1 r1 kI q1=>?_;cases kI with
 | int i =>
  obtain⟨t,rfl⟩:=r1;exact⟨some i,H1,G1,I1.inv,m1,.int i t,q1⟩
 | _=>exact bP q1
theorem fQ{lo hi:Option Expr}{tl th:Wq}(he:iL X a ta)(hl:Xj X lo tl)(hu:Xj X hi th):iL X (.Subscript a (.Slice lo hi none p2) pos) (xm ta tl th):=by
 intro E pins s σ H τ G Q hE I h;refine Subscript_ (lC he hE I h fun x H1 d G1 v s1 I1 m1 r1 kI q1=>?_);refine wpAny_Slice (ix (hl E pins s1 σ H1 τ G1 _ hE I1 q1) ?_);rintro vl s2 ⟨l,H2,G2,kD,m2,pl,q2⟩;refine ix (hu E pins s2 σ H2 τ G2 _ hE (I1.mv kD m2) q2) ?_;rintro vu s3 ⟨r,H3,G3,I3,m3,pu,q3⟩;rw [evalPart_none];refine cq ?_;have m13:=m2.trans m3;have mm:=m1.trans m13;have I4:Inv X pins σ H3 { s3 with heap:=s3.heap.push { cls:=.type "slice",data:=.fields #[vl,vu,.none] } }:=I3.kept (t':=s3.toks) fun b ob q=>aY _ q;have X3:=kI.mono (m13.kp I1.ab);have Rm:=m3.ab;have key:∀ {rb:V->Option Int->Option Int->Hp->VK->Prop},SlR X rb->rb x l r H3 (Bb X.K H3 G3 Q)->wpAny (model X.prog X.w) X.A (subscriptTail a (.Slice lo hi none p2) v (.ref s3.heap.objs.size)) (rg X pins σ H G Q) X.xe { s3 with heap:=s3.heap.push { cls:=.type "slice",data:=.fields #[vl,vu,.none] } }:=fun hr hq=>by
  obtain⟨T,id,hT,ht,hg⟩:=hr pins { s3 with heap:=s3.heap.push { cls:=.type "slice",data:=.fields #[vl,vu,.none] } } σ H3 x v vl vu l r s3.heap.objs.size _ I4 r1 (Heap.IsSliceOf.new ..) pl pu hq;exact ix (tail_any (ops:=[.ref s3.heap.objs.size,v]) ht hT hg (by with_unfolding_all rfl)) fun _ _ z=>(rg.of z).trans mm
 cases X3 with
 | tup hq rs =>
  obtain⟨hw,q⟩:=q3;refine key RQ ⟨_,_,rfl,.of hq,?_,fun p hp=>⟨_,G3,.S1 Rm hp,.tup dF ((rs.cut l r).mono (.new hp)),q⟩⟩;rw [Dv,Dv,rs.length];exact hw
 | fU hq rs=>exact key JA ⟨_,_,rfl,hq.sq,fun p hp=>⟨_,_,.K7 Rm hp (rs.cut l r),.ref _,q3 p (Rm.free hp)⟩⟩
 | ref g =>
  rw [yS] at q3;split at q3
  ·rename_i ds hg;obtain⟨vs,hv,rs⟩:=Rm.lst hg;exact key JA ⟨_,_,rfl,.of hv,fun p hp=>⟨_,_,.K7 Rm hp (rs.cut l r),.ref _,q3 p (Rm.free hp)⟩⟩
  ·exact q3.elim
 | _=>exact bP q3
theorem P2(ss:List D)(s:D)(h1:DO ss=true)(h2:nr s=true):((wx ss).any fun y=>uC y (pd s))=ss.any (jT · s):=by
 induction ss with
 | nil=>rfl
 | cons d r ih =>
  have h':nr d=true/\DO r=true:=(kH).mp h1;show (uC (pd d) (pd s)||(wx r).any _)=_;rw [ih h'.2,AR d s h'.1 h2]; rfl
theorem Kf{G:Gp}{n:Nat}{ds ss:List D}(h:Sn G (n+1) (.fU ds) (.fU ss)):EK (wx ss)<=n:=by
 exact uD (IJ h)
theorem DZ(hu:X.A.units+64 < cLine)(neg:Bool){pins:List (Addr×Obj)}{s:aK}{σ:L2.St}{H:Hp}{G:Gp}{x y:V}{dx t:D}{ds ss:List D}{v u:Value}{Q:DK}(I:Inv X pins σ H s)(ab:lA X.K H G)(rx:RelV x v)(dX:cZ X.K H x dx)
  (hy:(∃ l vs cy,u=.ref l/\Vals vs cy/\bx X.K H vs ds/\(s.heap.IsList l cy.toArray\/s.heap.IsTuple l cy.toArray))) (s1:Sn G SN dx t) (s2:Sn G SN (.fU ds) (.fU ss))
  (q:Q (.bl (if neg then !ss.any (jT · t) else ss.any (jT · t))) G):wpAny (model X.prog X.w) X.A (gN (if neg then .NotIn else .In) v u) (rg X pins σ H G Q) X.xe s:=by
 obtain⟨l,vs,cy,rfl,rv,rs,hl⟩:=hy;obtain⟨as,ra⟩:=(kB I ab s1).1 x v dX rx;obtain⟨bs,rb⟩:=(kB I ab s2).2 ds ss (.inl ⟨rfl,rfl⟩) vs cy rs rv;have d2:=Kf (n:=7) s2;have n2:DO ss=true:=s2.nr;have Aw:=vq _ n2;have e:=P2 ss t n2 s1.nr;have Pa:X.A.units+1+min (EK (wx ss)) (pd t).depth < cLine:=by lia
 have M4:qR s.heap cy.toArray.toList (wx ss) bs:=by simpa using rb
 have fin:∀ k:Bool,k=(if neg then !ss.any (jT · t) else ss.any (jT · t))->rg X pins σ H G Q (.bool k) s:=fun k hk=>by subst hk; exact⟨.bl _,H,.bl _,G,I,.refl ab,rfl,.bl _,q⟩
 cases neg with
 | false =>
  rcases hl with hl | hl
  ·exact SeqAt.in_listAt _ hl (nX M4 ra Aw (oN _ s1.nr) Pa) (by rw [rm M4 Aw,e]; exact fin _ rfl)
  ·exact SeqAt.in_tupleAt _ hl (nX M4 ra Aw (oN _ s1.nr) Pa) (by rw [rm M4 Aw,e]; exact fin _ rfl)
 | true =>
  rcases hl with hl | hl
  ·exact SeqAt.notIn_listAt _ hl (nX M4 ra Aw (oN _ s1.nr) Pa) (by rw [rm M4 Aw,e]; exact fin _ rfl)
  ·exact SeqAt.notIn_tupleAt _ hl (nX M4 ra Aw (oN _ s1.nr) Pa) (by rw [rm M4 Aw,e]; exact fin _ rfl)
theorem NJ(hu:X.A.units+64 < cLine)(neg:Bool){pins:List (Addr×Obj)}{s:aK}{σ:L2.St}{H:Hp}{G:Gp}{x y:V}{dx:D}{bC:List (D×D)}{v u:Value}{Q:DK}(I:Inv X pins σ H s)(ab:lA X.K H G)(rx:RelV x v)(ry:RelV y u)(dY:cZ X.K H y (.sM bC))(dX:cZ X.K H x dx)
  (q:Cw neg dx (.sM bC) G Q):wpAny (model X.prog X.w) X.A (gN (if neg then .NotIn else .In) v u) (rg X pins σ H G Q) X.xe s:=by
 obtain⟨sT,hk,q⟩:=q;have go:∀ (a:Addr) (o:Option V),y=.ref a->yK H a x o->o.isSome=(look bC dx).isSome->wpAny (model X.prog X.w) X.A (gN (if neg then .NotIn else .In) v u) (rg X pins σ H G Q) X.xe s:=by
  intro a o ea g ho;subst ea;cases ry;cases neg with
  | false=>exact Wd (by lia) I g rx fun s3 I4=>⟨.bl _,H,.bl _,G,I4,.refl ab,rfl,.bl _,by rw [ho]; exact q⟩
  | true=>exact Kh (by lia) I g rx fun s3 I4=>⟨.bl _,H,.bl _,G,I4,.refl ab,rfl,.bl _,by rw [ho]; exact q⟩
 obtain⟨a,o,ea,g,ho,_⟩:=Dw I dY hk dX;rcases g with rfl | g
 ·exact absurd rfl sT
 ·exact go a o ea g ho
theorem JO(hu:X.A.units+64 < cLine)(neg:Bool):vX X (gN (if neg then .NotIn else .In)) (Cw neg):=by
 intro pins s σ H G x y dx dy v u Q I ab rx ry dX dY q;cases dY with
 | tup hq rs =>
  obtain⟨t,ss,s1,s2,q⟩:=q;cases ry;obtain⟨cy,rv,pl,hz⟩:=I.tuple (.of hq);exact DZ hu neg (y:=x) I ab rx dX ⟨_,_,cy,rfl,rv,rs,.inr pl⟩ s1 s2 q
 | fU hq rs =>
  obtain⟨t,ss,s1,s2,q⟩:=q;cases ry;obtain⟨cy,rv,pl,hz⟩:=I.list hq.sq;exact DZ hu neg (y:=x) I ab rx dX ⟨_,_,cy,rfl,rv,rs,.inl pl.isList⟩ s1 s2 q
 | t9 h rs=>exact NJ hu neg I ab rx ry (.t9 h rs) dX q
 | t8 h rs=>exact NJ hu neg I ab rx ry (.t8 h rs) dX q
 | ref l =>
  unfold Cw at q;dsimp only at q;split at q
  ·rename_i bC hl;obtain⟨hk,q⟩:=q;obtain⟨H3,o,I3,m3,g,ho,_⟩:=AS I ab hl hk dX;cases ry;cases neg with
   | false=>exact Wd (by lia) I3 g rx fun s3 I4=>⟨.bl _,H3,.bl _,G,I4,m3,rfl,.bl _,by rw [ho]; exact q⟩
   | true=>exact Kh (by lia) I3 g rx fun s3 I4=>⟨.bl _,H3,.bl _,G,I4,m3,rfl,.bl _,by rw [ho]; exact q⟩
  ·rename_i ds hl;obtain⟨t,ss,s1,s2,q⟩:=q;cases ry;obtain⟨vs,hv,rs⟩:=ab.lst hl;obtain⟨cy,rv,pl,hz⟩:=I.list (.of hv);exact DZ hu neg (y:=x) I ab rx dX ⟨_,_,cy,rfl,rv,rs,.inl pl.isList⟩ s1 s2 q
  ·exact q.elim
 | _=>exact bP q
theorem DL(hu:X.A.units+64 < cLine):vX X (gN .In) (Cw false):=JO hu false
theorem wR(hu:X.A.units+64 < cLine):vX X (gN .NotIn) (Cw true):=JO hu true
end
end K2
end
section
namespace K2
open PySem PySem.Spec PyProof.Rows L2
section
variable {X:Cx} {a b c e o:Expr} {es:List Expr} {ta tb tc te to:iu} {t:xr} {pos p p2 apos qX:Pos} {x name:Str} {id T:String}
theorem cP:sH X (.builtin "len") iq:=by
 intro pins s σ H G xs ds us Q I ab rx rd q;unfold iq at q;split at q
 ·rename_i x;obtain⟨v,rfl,r⟩:=rd.one;have Py:∀ (n:Nat),Wu X.K v H n->Q (.int (n:Int)) G->wpAny (model X.prog X.w) X.A (call (.builtin "len") us) (rg X pins σ H G Q) X.xe s:=fun n hn hq =>
   ix (OE pins s σ H [v] us (Bb X.K H G Q) I rx ⟨v,n,rfl,hn,_,_,.refl ab,.int _,hq⟩) fun _ _ z=>.of z
  have sz:bG=16777216:=dw;cases r with
  | tup hq rs=>exact Py _ (.inr ⟨_,.of hq,by rw [rs.length]⟩) q
  | fU hq rs=>exact Py _ (.inl ⟨_,hq.sq,by rw [rs.length]⟩) q
  | str y =>
   unfold lenOf at q;dsimp only at q;by_cases hz:y.length<=SZ
   ·rw [if_pos hz] at q; exact Py _ ⟨by rw [sz]; exact hz,rfl⟩ q
   ·rw [if_neg hz] at q; exact q.elim
  | t9 h rs =>
   rename_i l o kv bC;obtain⟨u,rfl,ru⟩:=rx.one;cases ru;unfold lenOf at q;dsimp only at q;by_cases ha:(bC.all fun p=>gB p.1)=true
   ·rw [if_pos ha] at q;exact Ri I (.inr ⟨_,h⟩) fun t s' I'=>⟨.int kv.length,H,_,G,I',.refl ab,⟨t,rfl⟩,.int _,by rw [rs.length]; exact q⟩
   ·rw [if_neg ha] at q; exact q.elim
  | t8 h rs =>
   rename_i l o kv bC;obtain⟨u,rfl,ru⟩:=rx.one;cases ru;unfold lenOf at q;dsimp only at q;by_cases ha:(bC.all fun p=>gB p.1)=true
   ·rw [if_pos ha] at q;cases rs with
    | nil =>
     obtain⟨z,hS,xs,rel,ob,es,ep,ho,hx,NW,hl,nd⟩:=(I.eL l _ h).2;have Y9:xs=[]:=by cases rel; rfl
     subst Y9;have he:es=#[]:=by simpa using hl
     subst he;have dd:s.heap.DictOf (gG X.prog X.w) l []:=⟨ob,#[],ep,ho,hx,NW,(fun _ h=>by simp at h),.nil,iI⟩;refine call_len_dict hS dd (by simp) ?_;exact⟨.int 0,H,_,G,I.tok _,.refl ab,⟨_,rfl⟩,.int _,q⟩
    | cons _ _=>simp [gB] at ha
   ·rw [if_neg ha] at q; exact q.elim
  | ref l =>
   unfold lenOf at q;dsimp only at q;cases hg:G l with
   | none=>rw [hg] at q; exact q.elim
   | some g =>
    rw [hg] at q;cases g with
    | lst ds =>
     obtain⟨vs,hv,rs⟩:=ab.lst hg;exact Py _ (.inl ⟨_,.of hv,by rw [rs.length]⟩) q
    | ins _ _=>exact q.elim
    | ka bC =>
     obtain⟨u,rfl,ru⟩:=rx.one;cases ru;dsimp only at q;by_cases ha:(bC.all fun p=>gB p.1)=true
     ·rw [if_pos ha] at q;rcases ab l _ hg with ⟨kv,hv,rs⟩ | ⟨kv,hv,rs⟩
      ·exact Ri I (.inl hv) fun t s' I'=>⟨.int kv.length,H,_,G,I',.refl ab,⟨t,rfl⟩,.int _,by rw [rs.length]; exact q⟩
      ·cases rs with
       | nil =>
        obtain⟨z,hd,vs,rel,dd⟩:=Kd (toK I hv).eL dF;have hvs:vs=[]:=by cases rel; rfl
        subst hvs;refine call_len_dict hd dd (by simp) ?_;exact⟨.int 0,H,_,G,I.tok _,.refl ab,⟨_,rfl⟩,.int _,q⟩
       | cons _ _=>simp [gB] at ha
     ·rw [if_neg ha] at q; exact q.elim
  | _=>exact bP q
 ·exact q.elim
theorem nR:sH X (.type "list") pP:=by
 intro pins s σ H G xs ds us Q I ab rx rd q;unfold pP at q;split at q
 ·rename_i x;obtain⟨v,rfl,r⟩:=rd.one;have TR:∀ (l:Addr) (ys:List V) (zs:List D),v=.ref l->(sZ X.K H l ys\/Ba X.K H l ys)->bx X.K H ys zs->jR G (.lst zs) Q->wpAny (model X.prog X.w) X.A (call (.type "list") us) (rg X pins σ H G Q) X.xe s:=fun l ys zs e h rs hq=>by
   subst e;exact ix (EC pins s σ H _ us (Bb X.K H G Q) I rx ⟨l,ys,rfl,h,fun p hp=>⟨_,_,.K7 ab hp rs,.ref _,hq p (ab.free hp)⟩⟩) fun _ _ z=>.of z
  cases r with
  | tup hq rs=>exact TR _ _ _ rfl (.inr (.of hq)) rs q
  | fU hq rs=>exact TR _ _ _ rfl (.inl hq.sq) rs q
  | ref l =>
   unfold itemsOf at q;dsimp only at q;cases hg:G l with
   | none=>rw [hg] at q; exact q.elim
   | some g =>
    rw [hg] at q;cases g with
    | lst ds =>
     obtain⟨vs,hv,rs⟩:=ab.lst hg;exact TR _ _ _ rfl (.inl (.of hv)) rs q
    | ins _ _=>exact q.elim
    | ka bC=>exact q.elim
  | _=>exact bP q
 ·exact q.elim
theorem nI {r:List D->Gp->DK->Prop} (hc:sH X (.type T) r) (hg:Gl X x) (hm:X.mg x=none) (hv:eQ x=some (.type T)) (ha:B5 X (e :: es) t) (hn:autoParam (x≠"__name__") Ad._auto_1) (Gb:autoParam ((x == ("__debug__" : Str))=false) Ad._auto_1)
  (he:autoParam (bO (e :: es) X.env=(false,eval e X.env) :: bO es X.env) Ar._auto_1) (mZ:autoParam ((kM pos (bO es X.env)).any (·.1)=false) Ar._auto_1):iL X (.Call (.Name x p) (e :: es) [] pos) (iZ r t):=by
 intro E pins s σ H τ G Q hE I h;refine kr (ud I.inv hg hm hv ?_ hn Gb);exact jg (uI ha pos hE I h fun vs H1 ds G1 us s1 I1 m1 r1 kI q1=>ix (hc pins s1 σ H1 G1 vs ds us Q I1.inv I1.ab r1 kI q1) fun _ _ z=>z.trans m1) he mZ
theorem Sv (K:ay):∀ C∈["int","bool","list","tuple","dict","str"],∀ T∈["NoneType","bool","int","str","tuple","list","dict"],PySem.W.kitOne K (.type T) (.type C)=some (T == C||(T == "bool" && C == "int")):=by
 intro C hC T hT;simp only [cf,bI,or_false] at hC hT;rcases hC with rfl | rfl | rfl | rfl | rfl | rfl <;> rcases hT with rfl | rfl | rfl | rfl | rfl | rfl | rfl <;> kernel_rfl
theorem NC (C:String) (hC:C∈["int","bool","list","tuple","dict","str"]) {pins:List (Addr×Obj)} {s:aK} {σ:L2.St} {H:Hp} {G:Gp} {v:V} {d:D} {u:Value} {k:Bool} {Q:DK} (I:Inv X pins σ H s) (ab:lA X.K H G) (ru:RelV v u) (r:cZ X.K H v d)
  (hk:Q3 C d G=some k) (q:Q (.bl k) G):wpAny (model X.prog X.w) X.A (call (.builtin "isinstance") [u,.type C]) (rg X pins σ H G Q) X.xe s:=by
 have fin:∀ tk,rg X pins σ H G Q (.bool k) { s with toks:=tk }:=fun tk=>⟨.bl k,H,.bl k,G,I.tok _,.refl ab,rfl,.bl k,q⟩;have hl:∀ T∈["NoneType","bool","int","str","tuple","list","dict"],k=(T == C||(T == "bool" && C == "int"))->PySem.W.kitOne X.K (.type T) (.type C)=some k:=fun T hT e=>by rw [Sv X.K C hC T hT,e]
 have tl:∀ {l:Addr} {o:Obj},s.heap.get? l=some o->o.cls=.type "list"->k=("list" == C||("list" == "bool" && C == "int"))->v=.ref l->wpAny (model X.prog X.w) X.A (call (.builtin "isinstance") [u,.type C]) (rg X pins σ H G Q) X.xe s:=fun ho hc e ev=>by
  subst ev;cases ru;exact jK PySem.W.kitx_list I.wy ⟨_,ho,hc⟩ (hl "list" (by decide) e) (fun z=>nomatch z) fin
 have td:∀ {l:Addr} {o:Obj},s.heap.get? l=some o->o.cls=.type "dict"->k=("dict" == C||("dict" == "bool" && C == "int"))->v=.ref l->wpAny (model X.prog X.w) X.A (call (.builtin "isinstance") [u,.type C]) (rg X pins σ H G Q) X.xe s:=fun ho hc e ev=>by
  subst ev;cases ru;exact jK PySem.W.kitx_dict I.wy ⟨_,ho,hc⟩ (hl "dict" (by decide) e) (fun z=>nomatch z) fin
 have oW:∀ P:String->Prop,(∀ C'∈["int","bool","list","tuple","dict","str"],P C')->P C:=fun P h=>h C hC;cases r with
 | j9 =>
  cases ru;have e:k=("NoneType" == C||("NoneType" == "bool" && C == "int")):=by
   have:k=false:=(cj hk).symm;rw [this];exact oW (fun C=>false=("NoneType" == C||("NoneType" == "bool" && C == "int"))) (by decide)
  exact jK PySem.W.kitx_none I.wy jt (hl _ (by decide) e) (fun z=>nomatch z) fin
 | bl y =>
  cases ru;have e:k=("bool" == C||("bool" == "bool" && C == "int")):=by
   have:k=(C == "bool" || C == "int"):=(cj hk).symm;rw [this];exact oW (fun C=>(C == "bool" || C == "int")=("bool" == C||("bool" == "bool" && C == "int"))) (by decide)
  exact jK PySem.W.kitx_bool I.wy jt (hl _ (by decide) e) (fun z=>nomatch z) fin
 | int y =>
  obtain⟨t,rfl⟩:=ru;have e:k=("int" == C||("int" == "bool" && C == "int")):=by
   have:k=(C == "int"):=(cj hk).symm;rw [this];exact oW (fun C=>(C == "int")=("int" == C||("int" == "bool" && C == "int"))) (by decide)
  exact jK PySem.W.kitx_int I.wy jt (hl _ (by decide) e) (fun z=>nomatch z) fin
 | str y =>
  obtain⟨t,rfl⟩:=ru;have e:k=("str" == C||("str" == "bool" && C == "int")):=by
   have:k=(C == "str"):=(cj hk).symm;rw [this];exact oW (fun C=>(C == "str")=("str" == C||("str" == "bool" && C == "int"))) (by decide)
  exact jK PySem.W.kitx_str I.wy jt (hl _ (by decide) e) (fun z=>nomatch z) fin
 | tup hq rs =>
  cases ru;have e:k=("tuple" == C||("tuple" == "bool" && C == "int")):=by
   have:k=(C == "tuple"):=(cj hk).symm;rw [this];exact oW (fun C=>(C == "tuple")=("tuple" == C||("tuple" == "bool" && C == "int"))) (by decide)
  obtain⟨cy,rv,⟨o,h1,h2,_⟩,hz⟩:=I.tuple (.of hq);exact jK PySem.W.kitx_tuple I.wy ⟨o,h1,h2⟩ (hl _ (by decide) e) (fun z=>nomatch z) fin
 | fU hq rs =>
  obtain⟨cy,rv,pl,hz⟩:=I.list hq.sq;obtain⟨o,h1,h2,_⟩:=pl.isList;refine tl h1 h2 ?_ rfl;have:k=(C == "list"):=(cj hk).symm;rw [this];exact oW (fun C=>(C == "list")=("list" == C||("list" == "bool" && C == "int"))) (by decide)
 | t9 h rs =>
  have e:k=("dict" == C||("dict" == "bool" && C == "int")):=by
   have:k=(C == "dict"):=(cj hk).symm;rw [this];exact oW (fun C=>(C == "dict")=("dict" == C||("dict" == "bool" && C == "int"))) (by decide)
  obtain⟨_,_,vs,_,ob,_,_,h1,h2,_⟩:=tY I.eL (.inr ⟨_,h⟩);exact td h1 h2.1 e rfl
 | t8 h rs =>
  have e:k=("dict" == C||("dict" == "bool" && C == "int")):=by
   have:k=(C == "dict"):=(cj hk).symm;rw [this];exact oW (fun C=>(C == "dict")=("dict" == C||("dict" == "bool" && C == "int"))) (by decide)
  obtain⟨_,_,ys,_,ob,_,_,h1,h2,_⟩:=xZ I.eL (.inr ⟨_,h⟩);exact td h1 h2.1 e rfl
 | exc h=>simp [Q3] at hk
 | ref l =>
  unfold Q3 at hk;dsimp only at hk;cases hg:G l with
  | none=>rw [hg] at hk; cases hk
  | some g =>
   rw [hg] at hk;cases g with
   | lst ds =>
    obtain⟨vs,hv,rs⟩:=ab.lst hg;obtain⟨cy,rv,pl,hz⟩:=I.list (.of hv);obtain⟨o,h1,h2,_⟩:=pl.isList;refine tl h1 h2 ?_ rfl;have:k=(C == "list"):=(cj hk).symm;rw [this];exact oW (fun C=>(C == "list")=("list" == C||("list" == "bool" && C == "int"))) (by decide)
   | ins _ _=>cases hk
   | ka bC =>
    have e:k=("dict" == C||("dict" == "bool" && C == "int")):=by
     have:k=(C == "dict"):=(cj hk).symm;rw [this];exact oW (fun C=>(C == "dict")=("dict" == C||("dict" == "bool" && C == "int"))) (by decide)
    rcases ab l _ hg with ⟨kv,hv,rs⟩ | ⟨kv,hv,rs⟩
    ·obtain⟨_,_,vs,_,ob,_,_,h1,h2,_⟩:=Kd I.eL hv;exact td h1 h2.1 e rfl
    ·obtain⟨_,_,ys,_,ob,_,_,h1,h2,_⟩:=Rh I.eL hv;exact td h1 h2.1 e rfl
theorem lO (C:String) (hC:C∈["int","bool","list","tuple","dict","str"]) {y:Str} {py:Pos} (hg:Gl X "isinstance") (hm:X.mg "isinstance" = none) (hgC:Gl X y) (hmC:X.mg y=none) (hvC:eQ y=some (.type C)) (ha:iL X a ta) (hn:autoParam (y≠"__name__") Ad._auto_1) (Gb:autoParam ((y == ("__debug__" : Str))=false) Ad._auto_1)
  (he:autoParam (bO [a,.Name y py] X.env=(false,eval a X.env) :: bO [.Name y py] X.env) Ar._auto_1) (mZ:autoParam ((kM pos (bO [Expr.Name y py] X.env)).any (·.1)=false) Ar._auto_1) (he2:autoParam (bO [.Name y py] X.env=[(false,eval (.Name y py) X.env)]) Ar._auto_1) :
  iL X (.Call (.Name "isinstance" p) [a,.Name y py] [] pos) (tG C ta):=by
 intro E pins s σ H τ G Q hE I h;refine kr (ud I.inv hg hm PyProof.Rows.boot_isinstance ?_);refine wF ?_ he mZ;rw [he];show wpAny _ _ (spliced ((false,eval a X.env) :: kM pos (bO [.Name y py] X.env))) _ _ s;refine zi (lC ha hE I h fun v H1 d G1 u s1 I1 m1 r1 kI q1=>?_);rw [he2];show wpAny _ _ (spliced [(false,eval (.Name y py) X.env)]) _ _ s1;refine zi (ud I1.inv hgC hmC hvC (Calls.spliced_nil ?_) hn Gb)
 try dsimp only at q1
 split at q1
 ·rename_i k hk;exact ix (NC C hC I1.inv I1.ab r1 kI hk q1) fun _ _ z=>z.trans m1
 ·exact q1.elim
end
end K2
end
section
namespace K2
open PySem PySem.Spec PyProof.Rows L2
section
variable {X:Cx} {a b c e o:Expr} {es:List Expr} {ta tb tc te to:iu} {t:xr} {pos p p2 apos qX:Pos} {x name:Str} {id T:String}
noncomputable def LP(X:Cx)(id:String)(r:D->List D->Gp->DK->Prop):Prop :=
 ∀ (pins:List (Addr×Obj)) (s:aK) (σ:L2.St) (H:Hp) (G:Gp) (x:V) (d:D) (xs:List V) (ds:List D) (v:Value) (us:List Value) (Q:DK),Inv X pins σ H s->lA X.K H G->RelV x v->cZ X.K H x d->Vals xs us->bx X.K H xs ds->r d ds G Q ->
  wpAny (model X.prog X.w) X.A (call (.builtin id) (v :: us)) (rg X pins σ H G Q) X.xe s
noncomputable def TG(X:Cx)(T:String)(ty:D->Gp->Prop):Prop:=∀ (pins:List (Addr×Obj)) (s:aK) (σ:L2.St) (H:Hp) (G:Gp) (x:V) (d:D) (v:Value),Inv X pins σ H s->lA X.K H G->RelV x v->cZ X.K H x d->ty d G ->
  s.TypeIs v T/\∀ a,v=.ref a->∃ ob,s.heap.get? a=some ob/\ob.dict=none
theorem fx:TG X "list" uA:=by
 intro pins s σ H G x d v I ab r rd h;cases rd with
 | fU hq rs=>exact Di I r (.inl ⟨rfl,_,hq.sq⟩)
 | ref l =>
  unfold uA at h;dsimp only at h;split at h
  ·rename_i ds hg;obtain⟨vs,hv,rs⟩:=ab.lst hg;exact Di I r (.inl ⟨rfl,vs,.of hv⟩)
  ·exact h.elim
 | _=>exact bP h
theorem Fb:TG X "dict" UK:=by
 intro pins s σ H G x d v I ab r rd h;cases rd with
 | t9 q rs =>
  cases r;obtain⟨t1,t2,_⟩:=NF I (.inl ⟨_,.inr ⟨_,q⟩⟩);exact⟨t1,t2⟩
 | t8 q rs =>
  cases r;obtain⟨t1,t2,_⟩:=NF I (.inr ⟨_,.inr ⟨_,q⟩⟩);exact⟨t1,t2⟩
 | ref l =>
  unfold UK at h;dsimp only at h;split at h
  ·rename_i bC hg;rcases ab l _ hg with ⟨kv,hv,rs⟩ | ⟨kv,hv,rs⟩
   ·exact Di I r (.inr (.inr (.inl ⟨rfl,.inl ⟨kv,hv⟩⟩)))
   ·exact Di I r (.inr (.inr (.inl ⟨rfl,.inr ⟨kv,hv⟩⟩)))
  ·exact h.elim
 | _=>exact bP h
theorem iC {ty:D->Gp->Prop} {r:D->List D->Gp->DK->Prop} (pa:PlainAttrs T) (slot:Slot T name id) (hty:typeOf (.builtin id)=pure (.type "method_descriptor")) (ht:TG X T ty) (hm:LP X id r) (ho:iL X o to) (ha:B5 X (e :: es) t)
  (NZ:autoParam (attributeBase o name X.env (eval o X.env)=eval o X.env) Ar._auto_1)
  (ZE:autoParam (((kM qX (bO (e :: es) X.env)).all (fun x=>!x.1)&&(backToKw qX (C7 [] X.env)).all (fun x=>x.1.isSome)
   && decide ((e :: es).length+([]:List Keyword).length+(if ([]:List Keyword).isEmpty then 0 else 1) < 30))=true) Ar._auto_1)
  (VG:autoParam ((apos.endLine == qX.line)=true) Ar._auto_1) (hs:autoParam (bO (e :: es) X.env=(false,eval e X.env) :: bO es X.env) Ar._auto_1) (SM:autoParam ((kM qX (bO es X.env)).any (·.1)=false) Ar._auto_1) :
  iL X (.Call (.Attribute o name apos) (e :: es) [] qX) (oV ty r to t):=by
 intro E pins s σ H τ G Q hE I h;refine wpAny_Call_method_late NZ ZE VG rfl (lC ho hE I h ?_);rintro x H1 d G1 v s1 I1 m1 r1 kI ⟨hy,q1⟩;obtain⟨h1,h2⟩:=ht pins s1 σ H1 G1 x d v I1.inv I1.ab r1 kI hy;refine⟨T,id,pa,slot,hty,h1,h2,?_⟩;have hA:=ha qX E pins s1 σ H1 τ G1 _ hE I1 q1;rw [hs] at hA ⊢;refine Calls.callWith_builtin (by show (false||(kM qX (bO es X.env)).any (·.1))=false; rw [SM] <;> rfl) (O2 ?_);exact ix hA (by rintro us s2 ⟨vs,H2,ds,G2,kD,m2,r2,Dy,q2⟩; exact ix (hm pins s2 σ H2 G2 x d vs ds v us Q kD m2.ab r1 (kI.mono (m2.kp I1.ab)) r2 Dy q2) fun _ _ z=>z.trans (m1.trans m2))
theorem fA:LP X "list.append" gh:=by
 intro pins s σ H G x d xs ds v us Q I ab rx rd PK PO q;unfold gh at q;split at q
 ·rename_i l d';cases rd;obtain⟨w,rfl,sJ⟩:=PO.one;split at q
  ·rename_i zs hg;obtain⟨hz,q⟩:=q;obtain⟨vs,hv,rs⟩:=ab.lst hg;exact ix (CD pins s σ H _ _ v us (Bb X.K H G Q) I rx PK ⟨l,vs,w,rfl,rfl,hv,by rw [rs.length,dw]; exact hz,_,_,.putL ab hg hv (rs.append (.cons sJ .nil)),.j9,q⟩) fun _ _ z=>.of z
  ·exact q.elim
 ·exact q.elim
theorem IH(l:Addr)(xs:Array Value)(n:Nat)(b:Addr)(ys:Array Value)(n2:Nat)(dd:Option Addr)(sl:Array (Option Value))(Q8:¬(!xs.isEmpty&&kh (xs.size+ys.size))=true)(hx:xs.size<=bG)(hxy:xs.size+ys.size<=bG+1) :
  Meets (Builtin.«list.extend» ⟨[.ref l,.ref b],[]⟩) (fun _ R s=>s.heap.get? l=some { cls:=.type "list",dict:=none,data:=.seq xs n,slots:=#[] }/\s.heap.get? b=some { cls:=.type "list",dict:=dd,data:=.seq ys n2,slots:=sl }/\R (.ok (.ret Jj)) { s with heap:=s.heap.update l (xD fun x=>x++ys),toks:=s.toks }) :=
 .of_wp fun prog w A R s h=>by
  obtain⟨hp,g,d,tk,os⟩:=s;obtain⟨h1,h2,h3⟩:=h;have e1:=AutoSeq1.idx_int;have e2:=E5;have e3:=AutoSeq1.sub_list_list;have e4:=AutoSeq1.sub_tuple_list;have e5:=AutoSeq1.sub_list_tuple;have hz':(xs++ys).size<=bG+1:=by rw [Array.size_append]; exact hxy
  wp_walk using (za h1 rfl (hz:=hx) (_hz':=hz')),zb h1,zb h2
  exact⟨_,rfl,h3⟩
theorem Ib:LP X "list.extend" yW:=by
 intro pins s σ H G x d xs ds v us Q I ab rx rd PK PO q;unfold yW at q;split at q
 ·rename_i l y;cases rd;obtain⟨w,rfl,sJ⟩:=PO.one;obtain⟨u,rfl,ru⟩:=PK.one;split at q
  ·rename_i zs ys hg hg2;obtain⟨hz,q⟩:=q;obtain⟨vs,hv,rs⟩:=ab.lst hg;obtain⟨b,ws,tD,rfl,KP,QR,hb,_⟩:=qE I ab ru sJ hg2;cases rx;obtain⟨z,cy,n,r,hl,e⟩:=I.Sq hv;obtain⟨⟨cl,dd,dt,sl⟩,ho,ER,n2,hdt⟩:=hb;simp only at ER hdt;subst ER hdt;have h1:=KP.length;have h2:=QR.length;have h3:=rs.length;have h4:=r.length;have h5:bG=16777216:=dw;have h6:SZ=16777216:=rfl;have hsz:cy.toArray.size+tD.toArray.size<=bG:=by rw [bc,bc]; lia
   have Q8:¬ (!cy.toArray.isEmpty&&kh (cy.toArray.size+tD.toArray.size))=true:=by
    rw [Np hsz,Jq];exact iG
   refine call_meets F.slot_list_extend ⟨_,e,rfl⟩ F.entry_list_extend (F.args_list_extend_2 _ _) (IH l cy.toArray n b tD.toArray n2 dd sl Q8 (by rw [bc]; lia) (by lia)) ⟨e,ho,?_⟩;refine⟨.j9,_,.j9,_,I.Sr (its':=cy++tD) hv e (by simp) (r.append KP) ?_,.putL ab hg hv (rs.append QR),rfl,.j9,q⟩;rw [aJ];lia
  ·exact q.elim
 ·exact q.elim
theorem SD{cy:List Value}{u:Value}{k:Nat}(hk:k<=cy.length):(cy.toArray.extract 0 k).push u++cy.toArray.extract k=(cy.take k++u :: cy.drop k).toArray:=by
 simp [List.extract_eq_take_drop];rw [mM (by rw [eI]; lia)]
theorem zU:LP X "list.insert" sQ:=by
 intro pins s σ H G x d xs ds v us Q I ab rx rd PK PO q;unfold sQ at q;split at q
 ·rename_i l i d';cases rd;obtain⟨w,w2,rfl,EN,qT⟩:=PO.two;cases EN;split at q
  ·rename_i zs hg;obtain⟨h0,h1,hz,q⟩:=q;obtain⟨vs,hv,rs⟩:=ab.lst hg;obtain⟨u1,u2,rfl,⟨t,rfl⟩,MW⟩:=vals2 PK;cases rx;obtain⟨z,cy,n,r,hl,e⟩:=I.Sq hv;have sz:bG=16777216:=dw;have hlen:cy.length=zs.length:=by rw [<-hl,rs.length]
   have hs:SZ=16777216:=rfl;have ZD:¬ (!Builtin.List.listFitsIndex i)=true:=by
    rw [fitsIndex_both (by lia) (by lia)];exact iG
   refine call_meets F.slot_list_insert ⟨_,e,rfl⟩ F.entry_list_insert (F.args_list_insert_3 _ _ _)
    (AutoSeq1.list_insert_list_int_val_1 l cy.toArray n i t u2 ZD (by rw [bc]; lia)) ⟨e,?_⟩
   have hi:i.toNat<=cy.length:=by lia
   refine⟨.j9,_,.j9,_,I.Sr (its':=cy.take i.toNat++u2 :: cy.drop i.toNat) (ys:=vs.take i.toNat++w2 :: vs.drop i.toNat) hv e ?_ ((r.take _).append (.cons MW (r.drop _))) ?_,.putL ab hg hv ((rs.take _).append (.cons qT (rs.drop _))),rfl,.j9,q⟩
   ·dsimp only;have e1:(if i < 0 then (i+(cy.toArray.size:Int)).toNat else min i.toNat cy.toArray.size)=i.toNat:=by
     rw [if_neg (by lia),bc]; lia
    rw [e1];exact SD hi
   ·rw [aJ,aq,ff,eI];lia
  ·exact q.elim
 ·exact q.elim
theorem CF (hu : X.A.units + 64 < cLine) : LP X "list.index" zY := by
  intro pins s σ H G x d xs ds v us Q I ab rx rd PK PO q;unfold zY at q;split at q
  · rename_i d'
    obtain⟨hy, zs, sn, ss, hi, s1, s2, q⟩ := q;obtain⟨w, rfl, sJ⟩ := PO.one;obtain⟨u, rfl, ru⟩ := PK.one;have lists : ∃ l vs cy, v = .ref l ∧ Vals vs cy ∧ bx X.K H vs zs ∧ s.heap.IsList l cy.toArray ∧ vs.length ≤ bG := by
      cases rd with
      | fU hq rs =>
        cases hi;cases rx;obtain⟨cy, rv, pl, hz⟩ := I.list hq.sq;exact⟨_, _, cy, rfl, rv, rs, pl.isList, hz⟩
      | ref l =>
        unfold itemsOf at hi;dsimp only at hi;cases hg : G l with
        | none => rw [hg] at hi; cases hi
        | some g =>
          rw [hg] at hi;cases g with
          | lst ds =>
            cases hi;cases rx;obtain⟨vs, hv, rs⟩ := ab.lst hg;obtain⟨cy, rv, pl, hz⟩ := I.list (.of hv);exact⟨_, _, cy, rfl, rv, rs, pl.isList, hz⟩
          | ins _ _ => cases hi
          | ka _ => cases hi
      | _ => exact bP hy
    obtain⟨l, vs, cy, rfl, rv, rs, hl, hz⟩ := lists;obtain⟨as, ra⟩ := (kB I ab s1).1 w u sJ ru;obtain⟨bs, rb⟩ := (kB I ab s2).2 zs ss (.inl ⟨rfl, rfl⟩) vs cy rs rv;have d2 := Kf (n := 7) s2;have n2 : DO ss = true := s2.nr;have Aw := vq _ n2;have Pa : X.A.units + 1 + min (EK (wx ss)) (pd sn).depth < cLine := by lia
    have M4 : qR s.heap cy.toArray.toList (wx ss) bs := by simpa using rb
    have mp := SeqAt.readsAll_map _ _ _ Aw M4;split at q
    · rename_i k hk
      obtain⟨EO, Zy, SU⟩ := List.findIdx?_eq_some_iff_getElem.mp hk;have pdl : ∀ (zz : List D), (wx zz).length = zz.length := by
        intro zz;induction zz with
        | nil => rfl
        | cons a r ih => exact congrArg Nat.succ ih
      have hlen : cy.length = ss.length := by
        have := congrArg dD mp;rw [av, pdl] at this;simpa using this
      have at_ : ∀ (m : Nat) (h1 : m < cy.toArray.size) (h2 : m < ss.length), uC (Cg s.heap cy.toArray[m]) (pd sn) = jT ss[m] sn := by
        intro m h1 h2;have e1 : (cy.toArray.toList.map (Cg s.heap))[m]? = (wx ss)[m]? := by rw [mp]
        have pdg : ∀ (zz : List D) (m : Nat) (h : m < zz.length), (wx zz)[m]? = some (pd zz[m]) := by
          intro zz;induction zz with
          | nil => intro m h; simp at h
          | cons a r ih => intro m h; cases m with
            | zero => rfl
            | succ m => exact ih m (Nat.lt_of_succ_lt_succ h)
        rw [pdg ss m h2] at e1;have h1' : m < cy.length := by simpa using h1
        have e2 : Cg s.heap cy.toArray[m] = pd ss[m] := by
          simpa [h1'] using e1
        rw [e2];have nrm : nr ss[m] = true := by
          have : ∀ (zz : List D) (m : Nat) (h : m < zz.length), DO zz = true -> nr zz[m] = true := by
            intro zz;induction zz with
            | nil => intro m h; simp at h
            | cons a r ih => intro m h hn; have Q7 : nr a = true ∧ DO r = true := (kH).mp hn
                             cases m with
                             | zero => exact Q7.1
                             | succ m => exact ih m (by simpa using h) Q7.2
          exact this ss m h2 n2
        exact AR _ _ nrm s1.nr
      have sz : bG = 16777216 := dw;have hvl : vs.length = cy.length := rv.length;obtain⟨⟨cls, dd, data, sl⟩, ho, hc, n, hd⟩ := id hl;simp only at hc hd;subst hc hd;have hki : k < cy.toArray.size := by rw [bc]; lia
      refine call_meets rp ⟨_, ho, rfl⟩ PySem.F.entry_list_index (PySem.F.args_list_index_2 _ _)
        (SeqAt.list_indexAt l cy.toArray n dd sl u (fun y => uC (Cg s.heap y) (pd sn)) k hki (by lia) ?_ ?_) ⟨ho, nX M4 ra Aw (oN _ s1.nr) Pa, ?_⟩
      · rw [at_ k hki EO]; exact Zy
      · intro m hm hmk
        have hm2 : m < ss.length := by lia
        rw [at_ m hm hm2];simpa using SU m hmk
      · exact⟨.int k, H, .int k, G, I.tok _, .refl ab, ⟨_, rfl⟩, .int _, q⟩
    · exact q.elim
  · exact q.elim
theorem vg:iL X (.Dict [] [] pos) xn:=by
 intro E pins s σ H τ G Q hE I h;exact ix (Ng pins s σ H (Bb X.K H G Q) I.inv fun p hp=>⟨_,_,.new I.ab hp (.dk dF .nil),.ref _,h p (I.ab.free hp)⟩) fun _ _ z=>.of z
end
end K2
end
section
namespace K2
open PySem PySem.Spec PyProof.Rows L2
noncomputable def gQ(env:Env):List (Str×tH)->List (Str×Addr)->List (Str×Addr)
 | [],acc=>acc
 | (n,k) :: r,acc=>if k=.free then gQ env r ((n,(env.cells.lookup n).getD 0) :: acc) else gQ env r acc
theorem um(env:Env)(f:Str×tH->List (Str×Addr)->Sem (ForInStep (List (Str×Addr))))(hf:∀ n k c,f (n,k) c=if (k == lu)=true then (cellOf env n >>= fun a=>pure (tm ((n,a) :: c))) else pure (tm c)) :
  ∀ (ns:List (Str×tH)) (acc:List (Str×Addr)),(∀ x∈ns,x.2=.free->∃ c,env.cells.lookup x.1=some c)->forIn ns acc f=(pure (gQ env ns acc):Sem (List (Str×Addr)))
 | [],acc,_=>rfl
 | (n,k) :: r,acc,h=>by
  rw [List.forIn_cons,hf];have hr:∀ x∈r,x.2=.free->∃ c,env.cells.lookup x.1=some c:=fun x hx=>h x (bq _ hx);by_cases hk:k=.free
  ·subst hk;obtain⟨c,hc⟩:=h (n,.free) c8 rfl;have ec:cellOf env n=pure c:=by unfold cellOf; rw [hc]
   rw [if_pos (by decide),ec,pure_bind,pure_bind];show forIn r ((n,c) :: acc) f=_;rw [um env f hf r _ hr];show _=(pure (gQ env ((n,.free) :: r) acc):Sem (List (Str×Addr)));rw [gQ,if_pos rfl,hc]; rfl
  ·rw [if_neg (by simpa using hk),pure_bind];show forIn r acc f=_;rw [um env f hf r _ hr];show _=(pure (gQ env ((n,k) :: r) acc):Sem (List (Str×Addr)));rw [gQ,if_neg hk]
theorem BY{env:Env}{scope:Scope}(h:∀ x∈scope.names,x.2=.free->∃ c,env.cells.lookup x.1=some c):closureFor scope env=pure (gQ env scope.names []):=by
 unfold closureFor;dsimp only;rw [um env _ (fun n k c=>?_) scope.names [] h]
 ·rfl
 ·by_cases hk:(k == lu)=true
  ·simp only [hk,if_true]
  ·simp only [hk,if_false,ao]
theorem uJ{env:Env}{x:Str}{c:Addr}:∀ {ns:List (Str×tH)} {acc:List (Str×Addr)},(∀ y∈ns,y.2=.free->∃ c,env.cells.lookup y.1=some c)->(∀ y c,acc.lookup y=some c->env.cells.lookup y=some c)->(gQ env ns acc).lookup x=some c->env.cells.lookup x=some c
 | [],_,_,ha,e=>ha _ _ e
 | (n,k) :: r,acc,h,ha,e=>by
  have hr:∀ y∈r,y.2=.free->∃ c,env.cells.lookup y.1=some c:=fun y hy=>h y (bq _ hy);unfold gQ at e;by_cases hk:k=.free
  ·rw [if_pos hk] at e;refine uJ hr (fun y c' q=>?_) e;rw [oh] at q;by_cases hy:(y == n)=true
   ·rw [hy] at q;have e1:y=n:=eq_of_beq hy;subst e1;obtain⟨c0,hc0⟩:=h (y,k) c8 hk;rw [hc0] at q ⊢;exact q
   ·have SG:(y == n)=false:=by simpa using hy
    rw [SG] at q;exact ha y c' q
  ·rw [if_neg hk] at e;exact uJ hr ha e
theorem pY{env:Env}{x:Str}:∀ {ns:List (Str×tH)} {acc:List (Str×Addr)},((x,lu)∈ns\/∃ c,acc.lookup x=some c)->∃ c,(gQ env ns acc).lookup x=some c
 | [],_,h=>by rcases h with h | h; exact absurd h (by simp); exact h
 | (n,k) :: r,acc,h=>by
  unfold gQ;have grow:∀ a,(∃ c,acc.lookup x=some c)->∃ c,((n,a) :: acc).lookup x=some c:=fun a Qm=>by
   obtain⟨c,hc⟩:=Qm;rw [oh];by_cases hy:(x == n)=true
   ·rw [hy]; exact⟨_,rfl⟩
   ·have SG:(x == n)=false:=by simpa using hy
    rw [SG]; exact⟨c,hc⟩
  by_cases hk:k=.free
  ·rw [if_pos hk];refine pY ?_;rcases h with h | h
   ·rcases List.mem_cons.mp h with e | h
    ·injection e with e1 e2
     subst e1;exact .inr ⟨(env.cells.lookup x).getD 0,by rw [oh]; simp⟩
    ·exact .inl h
   ·exact .inr (grow _ h)
  ·rw [if_neg hk];refine pY ?_;rcases h with h | h
   ·rcases List.mem_cons.mp h with e | h
    ·injection e with e1 e2
     exact absurd e2.symm hk
    ·exact .inl h
   ·exact .inr h
noncomputable abbrev eR(X:Cx)(N:List Str)(scope:Scope)(C:Addr)(s:aK)(H:Hp)(fp:List Addr):Cx :=
 { X with env:=compEnvC scope (gQ X.env scope.names []) C X.env,N:=N,kj:=s,LQ:=H,outer:=X.stack,stack:=X.stack,ex:=fp,fn:=fun _=>false,pn:=[],xe:=fun _ _=>False }
theorem uX{scope:Scope}{env:Env}{x:Str}(h:(Ht scope env).names.lookup x=some .cell\/(Ht scope env).names.lookup x=some .free)(qP:∀ y∈scope.names,y.2≠.cell):(x,lu)∈scope.names:=by
 have go:∀ k,(Ht scope env).names.lookup x=some k->k=.cell\/k=.free->(x,lu)∈scope.names:=by
  intro k hk Zv;have hm:=je hk;unfold Ht at hm;dsimp only at hm;obtain⟨⟨n,j⟩,hj,e⟩:=List.mem_map.mp hm;dsimp only at e;by_cases hc:(j == lu&&env.scope.kind == .function&&env.kindOf n == some .cell)=true
  ·rw [if_pos hc] at e;rw [bj,bj] at hc;injection e with e1 e2
   have ej:j=.free:=eq_of_beq hc.1.1;rw [ej,e1] at hj;exact hj
  ·rw [if_neg hc] at e;injection e with e1 e2
   subst e1;rcases Zv with r | r
   ·exact absurd (e2.trans r) (qP _ hj)
   ·rw [e2.trans r] at hj; exact hj
 rcases h with h | h
 ·exact go _ h (.inl rfl)
 ·exact go _ h (.inr rfl)
section
variable {X:Cx} {N:List Str} {scope:Scope} {fp:List Addr} {pins:List (Addr×Obj)} {σ:L2.St} {H:Hp} {s:aK} {C:Addr}
theorem Tt(I:Inv X pins σ H s)(qP:∀ y∈scope.names,y.2≠.cell)(CM:scope.kind=.function)(nM:∀ y∈scope.names,y.2=.free->X.env.kindOf y.1=some .cell)(hC:s.heap.objs.size<=C)(VO:∀ b∈fp,qF X pins H b/\b < s.heap.objs.size):(eR X N scope C s H fp).Ok:=by
 have ER:∀ y∈scope.names,y.2=.free->∃ c,X.env.cells.lookup y.1=some c:=fun y hy hf=>I.ok.has _ (.inl (nM y hy hf));have RK:∀ x c,(gQ X.env scope.names []).lookup x=some c->X.env.cells.lookup x=some c:=fun x c e=>uJ ER (fun y c q=>by simp at q) e;refine⟨I.ok.mod,CM,I.ok.glob,I.ok.blt,hC,fun x y c h1 h2=>I.ok.inj x y c (RK x c h1) (RK y c h2),fun x hx=>?_,fun x c h=>absurd h (by simp),I.ok.hd,I.ok.frames,.inl rfl,fun b hb=>?_,I.bs,dI I.ok.Ma I.sz,fun b o e hb=>?_,fun b hb=>?_,I.stack,I.Dk⟩
 ·exact pY (.inl (uX hx qP))
 ·obtain⟨⟨f0,f1,f2,f3,f4,f5⟩,EO⟩:=VO b hb;exact⟨bS (bR EO hC),fun x c e=>f4 x c (RK x c e)⟩
 ·obtain⟨⟨f0,f1,f2,f3,f4,f5⟩,EO⟩:=VO b hb;rcases f3 with f3 | f3
  ·exact I.ok.HX b o e f3
  ·exact absurd (bR (bf e) (dI I.ok.Ma f3)) (kF _)
 ·obtain⟨⟨f0,f1,f2,f3,f4,f5⟩,EO⟩:=VO b hb;intro z;rcases List.mem_cons.mp (I.HI b z) with e | e
  ·exact f1 e
  ·exact f2 e
theorem QA{tE:Heap}{m:Nat}{fr:List Nat}{tk:Nat}(I:Inv X pins σ H s)(ok:(eR X N scope s.heap.objs.size s H fp).Ok)(S3:∀ y∈scope.names,y.2≠.cell)(nM:∀ y∈scope.names,y.2=.free->X.env.kindOf y.1=some .cell)(hN:N.length=m+fr.length)
  (VM:∀ j i x,fr[j]?=some i->N[m+j]?=some x->X.N[i]?=some x/\X.env.scope.names.lookup x=some .cell/\(Ht scope X.env).names.lookup x=some .cell) (uf:∃ mm,tE.Ns s.heap.objs.size mm) (hk:∀ b o,s.heap.get? b=some o->tE.get? b=some o) :
  Inv (eR X N scope s.heap.objs.size s H fp) [] (bb m none++fr.map fun i=>(σ[i]?).getD none) H { s with heap:=tE,toks:=tk }:=by
 have ER:∀ y∈scope.names,y.2=.free->∃ c,X.env.cells.lookup y.1=some c:=fun y hy hf=>I.ok.has _ (.inl (nM y hy hf));have RK:∀ x c,(gQ X.env scope.names []).lookup x=some c->X.env.cells.lookup x=some c:=fun x c e=>uJ ER (fun y c q=>by simp at q) e;obtain⟨mm,uf⟩:=uf;refine⟨ok,rfl,I.bare,Un.kept hk,⟨mm,uf,fun i x v h1 h2 h3=>?_⟩,fun x c e=>?_,I.eL.fresh (bp _),fun x c e=>?_,fun p hp=>absurd hp (by simp),I.eL.kept hk,?_⟩
 ·by_cases hi:i < m
  ·rw [bK (by simpa using hi),ml] at h2;split at h2 <;> cases h2
  ·obtain⟨j,rfl⟩:∃ j,i=m+j:=⟨i - m,by lia⟩;rw [bh (by simp),gb,t6,dS] at h2;cases hj:fr[j]? with
   | none=>rw [hj] at h2; cases h2
   | some k =>
    rw [hj] at h2;have N6:(σ[k]?).getD none=some v:=by simpa using h2
    have WV:σ[k]?=some (some v):=by
     cases q:σ[k]? with
     | none=>rw [q] at N6; cases N6
     | some o=>rw [q] at N6; simp at N6; rw [N6]
    obtain⟨e1,e2,e3⟩:=VM j k x hj h1;obtain⟨m0,hn0,hl0⟩:=I.loc;obtain⟨u,r,l⟩:=hl0 k x v e1 WV (.inr (.inl e2));refine⟨u,r,.inr ⟨.inl e3,?_⟩⟩;rcases l with ⟨l1,_⟩ | ⟨_,c,hc,qP⟩
    ·have:X.env.scope.names.lookup x=some .local:=l1;rw [e2] at this; cases this
    ·have hx:(x,lu)∈scope.names:=uX (.inl e3) S3;obtain⟨c',L8⟩:=pY (env:=X.env) (x:=x) (ns:=scope.names) (acc:=[]) (.inl hx);have:=RK x c' L8;rw [hc] at this;have ec:c=c':=cj this;subst ec;obtain⟨oc,T5,hd⟩:=qP;exact⟨c,L8,oc,hk _ _ T5,hd⟩
 ·obtain⟨v,oc,T5,hd⟩:=I.cell x c (RK x c e);exact⟨v,oc,hk _ _ T5,hd⟩
 ·exact I.mJ x c (RK x c e)
 ·rw [aJ,gb,av];exact hN.symm
theorem Et{prog:bU}{w:World}{A:fJ}{R:Result->aK->Prop}{s:aK}{elt target iter:Expr}{ifs:List Expr}{sc:Scope}{pos:Pos}{it acc:Value}{env:Env}(J:Nat->aK->Prop)
  (turn:∀ n s,J n s->wpAny (model prog w) A (pyNext it) (fun r fK=>match r with
   | none=>R (.ok .next) fK
   | some v=>wpAny (model prog w) A (zd target it v) (fun _ UP=>wpAny (model prog w) A (EZ target env v) (fun _ jP =>
     wpAny (model prog w) A (forIn ifs true fun c r=>if r=true then do let ok ← isTrue c env (eval c env); pure (tm ok) else pure (tm r)) (fun k zm =>
      if k=true then wpAny (model prog w) A (eval elt env) (fun x KL=>wpAny (model prog w) A (call (.builtin "list.append") [acc,x]) (fun _ MN=>∃ m,m < n/\J m MN) (fun _ _=>False) KL) (fun _ _=>False) zm
      else ∃ m,m < n/\J m zm) (fun _ _=>False) jP) (fun _ _=>False) UP) (fun _ _=>False) fK) (fun _ _=>False) s) (n:Nat) (h:J n s) :
  wC (model prog w) A (.compLoop (.ListComp elt [⟨target,iter,ifs,0⟩] sc pos) 0 it acc env) R s:=by
 have no:∀ {α:Type} {t:Sem α} {Q:α->aK->Prop} {E:Value->aK->Prop} {s:aK},wpAny (model prog w) A t Q (fun _ _=>False) s->wpAny (model prog w) A t Q E s:=fun h=>lb h (fun _ _ q=>q) fun _ _ z=>z.elim;refine codeAny_loop rfl J (fun n s hJ=>?_) n h;show wpAny _ A ((compTurn (.ListComp elt [⟨target,iter,ifs,0⟩] sc pos) 0 it acc env).onRaise (fun x=>do noteFrame x env; theTreesLotGoes x)) _ _ s;refine wpAny_noted ?_;rw [compTurn_list];refine ba (ET (ba (ix (no (turn n s hJ)) fun r fK tE=>?_)));cases r with
 | none=>exact cq tE
 | some v =>
  refine ba (ix (no tE) fun _ jP Im=>ba (ix (no Im) fun _ zm Y5=>ba (ix (no Y5) fun k KL Vx=>?_)));cases k with
  | false=>exact cq ⟨rfl,Vx⟩
  | true=>exact ba (ba (ix (no Vx) fun x MN Y4=>ba (ix (no Y4) fun _ adm Y3=>cq (cq ⟨rfl,Y3⟩))))
noncomputable def CompEnd(X:Cx)(pins:List (Addr×Obj))(σ:L2.St)(H:Hp)(G:Gp)(Q:DK)(C Dd:Addr)(s':aK):Prop :=
 ∃ m H' G',Inv X pins σ H' s'/\s'.heap.Ns C m/\qF X pins H' C/\Mv X.K H G H' G'/\Q (.ref Dd) G'
inductive TJ (Xc:Cx):List Expr->Option yb->Prop
 | none:TJ Xc [] none
 | some {c:Expr} {t:yb}:Kt Xc c t->TJ Xc [c] (some t)
theorem CS{τ:iH}{G G2:Gp}{H2:Hp}{s2:aK}{tg elt iter:Expr}{ifs:List Expr}{pos:Pos}{m:Nat}{fr:List Nat}{E:lq}{g:B4}{c:Option yb}{te:iu}{J:It}{tn:Nat->Heap->Prop}{it:Addr}{ds:List D}{ok:Gp->Prop}{Q:DK}{Rr:Value->Addr->Result->aK->Prop}{E0:Value->aK->Prop}
  (hc:X.calm=true) (qP:∀ y∈scope.names,y.2≠.cell) (CM:scope.kind=.function) (nM:∀ y∈scope.names,y.2=.free->X.env.kindOf y.1=some .cell) (hN:N.length=m+fr.length)
  (VM:∀ j i x,fr[j]?=some i->N[m+j]?=some x->X.N[i]?=some x/\X.env.scope.names.lookup x=some .cell/\(Ht scope X.env).names.lookup x=some .cell)
  (hg:∀ C s H fp,LO (eR X N scope C s H fp) tg g) (hi:∀ C s H fp,TJ (eR X N scope C s H fp) ifs c) (he:∀ C s H fp,iL (eR X N scope C s H fp) elt te)
  (I:I2 X pins σ H2 τ G2 s2) (m2:Mv X.K H G H2 G2) (T:Turn X.prog X.w X.K tg J fp it tn) (O6:tn 0 s2.heap) (f2:∀ b∈fp,qF X pins H2 b) (wk:Rn X.K J H2 ds ok) (hz:ds.length<=SZ)
  (ZV:∀ ex G,¬ E ex G) (q:jb g c te ok ds E (sk m fr τ) G2 [] fun xs G3=>jR G3 (.lst xs) Q)
  (fin:∀ C s',CompEnd X pins σ H G Q C s2.heap.objs.size s'->Rr (.ref s2.heap.objs.size) C (.ok .next) s') :
  wpAny (model X.prog X.w) X.A (newList []) (fun acc zm=>wpAny (model X.prog X.w) X.A (newFunctionEnv scope X.env.globals (gQ X.env scope.names []) [] X.env.qual none .none (some X.env)) (fun Wj KL =>
   wC (model X.prog X.w) X.A (.compStart (.ListComp elt [⟨tg,iter,ifs,0⟩] scope pos) 0 (.ref it) acc { Wj with scope:=Ht scope X.env }) (Rr acc Wj.locals) KL) E0 zm) E0 s2:=by
 have sz:bG=16777216:=dw;have xb:H2 s2.heap.objs.size=none:=I.inv.eL.fresh (bp _);have Tc:G2 s2.heap.objs.size=none:=I.ab.free xb;refine k9 (wpAny_newFunctionEnv qP (by intro y hy; simp at hy) (fun tE NT NO=>?_) CM);dsimp only at NT NO ⊢;have I3:Inv X pins σ (upd H2 s2.heap.objs.size (.lst [])) { s2 with heap:=s2.heap.push { cls:=.type "list",data:=.seq ([]:List Value).toArray },toks:=s2.toks }:=I.inv.YV (ys:=[]) .nil (fT _);generalize hs3:({ s2 with heap:=s2.heap.push { cls:=.type "list",data:=.seq ([]:List Value).toArray },toks:=s2.toks }:aK)=s3 at I3;generalize V3:upd H2 s2.heap.objs.size (.lst [])=H3 at I3;have eH3:∀ b,b≠s2.heap.objs.size->H3 b=H2 b:=fun b hb=>by rw [<-V3,cp hb]
 have Ga:s3.heap=s2.heap.push { cls:=.type "list",data:=.seq ([]:List Value).toArray }:=by rw [<-hs3]
 have UW:s3.heap.objs.size=s2.heap.objs.size+1:=by rw [Ga,ju]
 have NV:∀ b∈fp,b < s2.heap.objs.size:=fun b hb=>by
  obtain⟨o,e,_⟩:=T.obj _ _ O6 b hb;exact bf e
 have VN:∀ b∈fp,qF X pins H3 b/\b < s3.heap.objs.size:=fun b hb=>by
  have VX:=NV b hb;obtain⟨f0,f1⟩:=f2 b hb;exact⟨⟨by rw [eH3 b (bS VX)]; exact f0,f1⟩,bR VX (by rw [UW]; exact Nat.le_succ _)⟩
 have WH:(eR X N scope s3.heap.objs.size s3 H3 fp).Ok:=Tt I3 qP CM nM (bp _) VN;have Q9:∀ b o,s3.heap.get? b=some o->tE.get? b=some o:=fun b o e=>by
  have hb:b < s3.heap.objs.size:=bf e;refine NO.extBut b o ?_ (aY _ ?_)
  ·rw [<-Ga]; exact bS hb
  ·rw [<-Ga]; exact e
 have Zn:∃ mm,tE.Ns s3.heap.objs.size mm:=⟨_,by rw [Ga]; exact NT⟩;have I4:=QA (tk:=s3.toks+([]:List (Str×Value)).length) I3 WH qP nM hN VM Zn Q9;have Y0:Kp H2 H3:=by rw [<-V3]; exact .new xb
 have Rm:lA X.K H3 G2:=by rw [<-V3]; exact(Mv.S1 I.ab xb).ab
 have mv3:Mv X.K H2 G2 H3 G2:=by rw [<-V3]; exact .S1 I.ab xb
 have WA:OV X.K H3 (bb m none++fr.map fun i=>(σ[i]?).getD none) (sk m fr τ):=by
  refine⟨by unfold sk; rw [aJ,aJ,av,av,gb,gb],fun i d h2=>?_⟩;unfold sk at h2;by_cases hi:i < m
  ·rw [bK (by simpa using hi),ml] at h2;split at h2 <;> cases h2
  ·obtain⟨j,rfl⟩:∃ j,i=m+j:=⟨i - m,by lia⟩;rw [bh (by simp),gb,t6,dS] at h2;rw [bh (by simp),gb,t6,dS];cases hj:fr[j]? with
   | none=>rw [hj] at h2; cases h2
   | some k =>
    rw [hj] at h2;have N6:(τ[k]?).getD none=some d:=by simpa using h2
    have WV:τ[k]?=some (some d):=by
     cases qq:τ[k]? with
     | none=>rw [qq] at N6; cases N6
     | some o=>rw [qq] at N6; simp at N6; rw [N6]
    obtain⟨v,e1,e2⟩:=I.st.at' k d WV;exact⟨v,by simp [e1],e2.mono Y0⟩
 have hD3:H3 s2.heap.objs.size=some (.lst []):=by rw [<-V3,dF]
 have US:tn 0 tE:=T.keep _ _ _ O6 fun b hb o e=>Q9 b o (by rw [Ga]; exact aY _ e);have MO:∀ {Hc:Hp},(∀ b∈fp,Hc b=none)->∀ b∈fp,qF (eR X N scope s3.heap.objs.size s3 H3 fp) [] Hc b:=fun hn b hb =>
  ⟨hn b hb,(WH.Wb b hb).1,WH.Ly b hb,.inl hb,fun x c e=>(WH.Wb b hb).2 x c e,fun p hp=>absurd hp (by simp)⟩
 have neD:∀ b∈fp,b≠s2.heap.objs.size:=fun b hb=>bS (NV b hb);have loop:wC (model X.prog X.w) X.A (.compLoop (.ListComp elt [⟨tg,iter,ifs,0⟩] scope pos) 0 (.ref it) (.ref s2.heap.objs.size) (eR X N scope s3.heap.objs.size s3 H3 fp).env) (Rr (.ref s2.heap.objs.size) s3.heap.objs.size)
   { s3 with heap:=tE,toks:=s3.toks+([]:List (Str×Value)).length }:=by
  refine Et (fun n s'=>∃ i O4 Hc Mu Gc uo vW,I2 (eR X N scope s3.heap.objs.size s3 H3 fp) [] O4 Hc Mu Gc s'/\Gc s2.heap.objs.size=none/\Hc s2.heap.objs.size=some (.lst uo)/\bx X.K Hc uo vW/\vW.length<=i/\Mv X.K H2 G2 Hc Gc/\tn i s'.heap/\(∀ b∈fp,Hc b=none) /\
   n=ds.length - i/\i<=ds.length/\jb g c te ok (ds.drop i) E Mu Gc vW fun xs G3=>jR G3 (.lst xs) Q) ?_ ds.length
   ⟨0,_,H3,_,G2,[],[],⟨I4,WA,Rm⟩,Tc,hD3,.nil,bp _,mv3,US,fun b hb=>by rw [eH3 b (neD b hb)]; exact(f2 b hb).1,rfl,fT _,q⟩
  rintro n s4 ⟨i,O4,Hc,Mu,Gc,uo,vW,Ic,gD,hD,rA,hA,mc,stc,frc,rfl,hle,wq⟩;have kpc:Kp H2 Hc:=mc.kp I.ab;by_cases EO:i < ds.length
  ·rw [Jo EO] at wq;obtain⟨Yk,wq⟩:=wq;obtain⟨go,yl⟩:=(wk i Hc Gc kpc Ic.ab Yk).1 ds[i] (by simp [EO]);refine ix (T.item (eR X N scope s3.heap.objs.size s3 H3 fp) rfl rfl rfl hc i [] s4 O4 Hc (fun _ _=>False) Ic.inv (MO frc) stc go) ?_;rintro r s5 ⟨u,hr,h5⟩;subst hr;refine ix h5 ?_;rintro _ s6 ⟨x,H6,I6,r6,y6,XT,fr6⟩;obtain⟨rd6,m6⟩:=yl x H6 y6;have I6':=I6.pinned (MO fr6) (T.obj _ _ XT);have J6:I2 (eR X N scope s3.heap.objs.size s3 H3 fp) ([]++rO fp s6.heap) O4 H6 Mu Gc s6:=⟨I6',Ic.st.mono (m6.kp Ic.ab),m6.ab⟩;have back:∀ {Uw:L2.St} {H9:Hp} {TQ:iH} {G9:Gp} {s9:aK} {aV:List V} {aD:List D},I2 (eR X N scope s3.heap.objs.size s3 H3 fp) ([]++rO fp s6.heap) Uw H9 TQ G9 s9->Mv X.K H2 G2 H9 G9->G9 s2.heap.objs.size=none->H9 s2.heap.objs.size=some (.lst aV)->bx X.K H9 aV aD->aD.length<=i+1 ->
     (jb g c te ok (ds.drop (i+1)) E TQ G9 aD fun xs G3=>jR G3 (.lst xs) Q)->∃ mm,mm < ds.length - i/\∃ i O4 Hc Mu Gc uo vW,I2 (eR X N scope s3.heap.objs.size s3 H3 fp) [] O4 Hc Mu Gc s9/\Gc s2.heap.objs.size=none/\Hc s2.heap.objs.size=some (.lst uo)/\bx X.K Hc uo vW/\vW.length<=i /\
      Mv X.K H2 G2 Hc Gc/\tn i s9.heap/\(∀ b∈fp,Hc b=none)/\mm=ds.length - i/\i<=ds.length/\jb g c te ok (ds.drop i) E Mu Gc vW fun xs G3=>jR G3 (.lst xs) Q:=fun {Uw H9 TQ G9 s9 aV aD} I9 m9 g9 h9 r9 l9 n9=>by
    refine⟨ds.length - (i+1),by lia,i+1,Uw,H9,TQ,G9,aV,aD,⟨I9.inv.uG,I9.st,I9.ab⟩,g9,h9,r9,l9,m9,T.keep _ _ _ XT fun b hb o e=>(I9.inv.pin (b,o) (c9 _ (c9 _ (qc hb e)))).1,fun b hb=>?_,rfl,EO,n9⟩;obtain⟨o,e,d⟩:=T.obj _ _ XT b hb;exact(I9.inv.pin (b,o) (c9 _ (c9 _ (qc hb e)))).2.1
   have mc6:=mc.trans m6;have hD6:=m6.keep _ _ hD gD;refine ix (hg _ _ _ _ E _ s6 O4 H6 Mu Gc x ds[i] u _ (Lk.none ZV) J6 r6 rd6 wq) ?_;rintro _ s7 ⟨L6,H7,L3,G7,I7,m7,q7⟩;have W0:=m7.keep _ _ hD6.1 gD;have mc7:=mc6.trans m7;have rA7:=rA.mono ((m6.trans m7).kp Ic.ab);have Wc:∀ (H8:Hp) (G8:Gp) (s8:aK),I2 (eR X N scope s3.heap.objs.size s3 H3 fp) ([]++rO fp s6.heap) L6 H8 L3 G8 s8->Mv X.K H7 G7 H8 G8->(te E L3 G8 fun y G9=>jb g c te ok (ds.drop (i+1)) E L3 G9 (vW++[y]) fun xs G3=>jR G3 (.lst xs) Q) ->
     wpAny (model X.prog X.w) X.A (eval elt (eR X N scope s3.heap.objs.size s3 H3 fp).env) (fun y KL=>wpAny (model X.prog X.w) X.A (call (.builtin "list.append") [.ref s2.heap.objs.size,y]) (fun _ MN=>∃ mm,mm < ds.length - i/\∃ i O4 Hc Mu Gc uo vW,I2 (eR X N scope s3.heap.objs.size s3 H3 fp) [] O4 Hc Mu Gc MN/\Gc s2.heap.objs.size=none/\Hc s2.heap.objs.size=some (.lst uo)/\bx X.K Hc uo vW/\vW.length<=i /\
      Mv X.K H2 G2 Hc Gc/\tn i MN.heap/\(∀ b∈fp,Hc b=none)/\mm=ds.length - i/\i<=ds.length/\jb g c te ok (ds.drop i) E Mu Gc vW fun xs G3=>jR G3 (.lst xs) Q) (fun _ _=>False) KL) (fun _ _=>False) s8:=fun H8 G8 s8 I8 m8 q8=>by
    refine lC (he _ _ _ _) (Lk.none ZV) I8 q8 fun v H9 d9 G9 u9 s9 I9 m9 r9 rd9 q9=>?_;have YU:=m8.trans m9;have WZ:=YU.keep _ _ W0.1 W0.2;have rA9:=rA7.mono (YU.kp I7.ab);have mc9:=mc7.trans YU;refine ix (CD (X:=eR X N scope s3.heap.objs.size s3 H3 fp) _ s9 L6 H9 (.ref s2.heap.objs.size) [v] _ [u9] (fun _ H'=>H'=upd H9 s2.heap.objs.size (.lst (uo++[v]))) I9.inv rfl (.cons r9 .nil)
     ⟨_,uo,v,rfl,rfl,WZ.1,by rw [rA.length,sz]; have:SZ=16777216:=rfl; lia,rfl⟩) ?_
    rintro _ s10 ⟨v10,H10,I10,_,e10⟩;subst e10;have YZ:Kp H9 (upd H9 s2.heap.objs.size (.lst (uo++[v]))):=.putL WZ.1;have abA:lA X.K (upd H9 s2.heap.objs.size (.lst (uo++[v]))) G9:=fun a g' e=>by
     have ne:a≠s2.heap.objs.size:=by rintro rfl; rw [WZ.2] at e; cases e
     exact(I9.ab a g' e).mono YZ (cp ne)
    have mA:Mv X.K H2 G2 (upd H9 s2.heap.objs.size (.lst (uo++[v]))) G9:=⟨fun a o e n=>by
      have ne:a≠s2.heap.objs.size:=e7 e xb;obtain⟨e1,e2⟩:=mc9.keep a o e n;exact⟨by rw [cp ne]; exact e1,e2⟩,fun a n=>by
      by_cases ha:a=s2.heap.objs.size
      ·rw [ha,dF]; simp
      ·rw [cp ha]; exact mc9.kG a n,abA⟩
    exact back ⟨I10,I9.st.mono YZ,abA⟩ mA WZ.2 dF ((rA9.append (.cons rd9 .nil)).mono YZ) (by rw [aJ,da]; lia) q9
   cases hi s3.heap.objs.size s3 H3 fp with
   | none =>
    refine wpAny_tests_nil ?_;rw [if_pos rfl];exact Wc H7 G7 s7 I7 (.refl I7.ab) q7
   | some VT =>
    refine wpAny_tests_one (KJ VT (Lk.none ZV) I7 q7 fun k H8 G8 s8 I8 m8 q8=>?_);cases k with
    | true =>
     rw [if_pos rfl] at q8 ⊢;exact Wc H8 G8 s8 I8 m8 q8
    | false =>
     rw [if_neg iG] at q8 ⊢;have hD8:=m8.keep _ _ W0.1 W0.2;exact back I8 (mc7.trans m8) hD8.2 hD8.1 (rA7.mono (m8.kp I7.ab)) (by lia) q8
  ·have hn:ds.length<=i:=by lia
   rw [Mt hn] at wq;obtain⟨Yk,qn⟩:=wq;have stop:=(wk i Hc Gc kpc Ic.ab Yk).2 hn;refine ix (T.done (eR X N scope s3.heap.objs.size s3 H3 fp) rfl rfl rfl hc i [] s4 O4 Hc (fun _ _=>False) Ic.inv (MO frc) stc stop) ?_;rintro r s5 ⟨hr,I5⟩;subst hr;refine fin s3.heap.objs.size s5 ?_;obtain⟨mm,Zo,_⟩:=I5.loc;have hC5:Hc s3.heap.objs.size=none:=I5.free;have I6:Inv X pins σ Hc s5:=by
    obtain⟨h5,g5,d5,t5,o5⟩:=s5;have eo:o5=s3.os:=I5.os;subst eo;exact I3.call (h':=h5) (g':=g5) (d':=d5) (t':=t5) (ch:=fp) I5.base I5.eL I5.bare fun b hb=>by
     obtain⟨⟨f0,f1,f2',f3,f4,f5⟩,hl⟩:=VN b hb;exact⟨f3,f1,f4,f5⟩
   have mvF:Mv X.K H2 G2 Hc (de Gc s2.heap.objs.size (.lst vW)):=⟨fun a o e n=>by
     have ne:a≠s2.heap.objs.size:=e7 e xb;obtain⟨e1,e2⟩:=mc.keep a o e n;exact⟨e1,by rw [cU ne]; exact e2⟩,mc.kG,fun a g' e=>by
     by_cases ha:a=s2.heap.objs.size
     ·subst ha;rw [aI] at e;cases e;exact⟨uo,hD,rA⟩
     ·rw [cU ha] at e;exact Ic.ab a g' e⟩
   exact⟨mm,Hc,_,I6,Zo,I3.Od (bp _) hC5,m2.trans mvF,qn _ gD⟩
 have all:wC (model X.prog X.w) X.A (.compStart (.ListComp elt [⟨tg,iter,ifs,0⟩] scope pos) 0 (.ref it) (.ref s2.heap.objs.size) (eR X N scope s3.heap.objs.size s3 H3 fp).env) (Rr (.ref s2.heap.objs.size) s3.heap.objs.size)
   { s3 with heap:=tE,toks:=s3.toks+([]:List (Str×Value)).length }:=codeAny_compStart_list loop (T.self _ 0 _ _ _ US loop)
 subst hs3;exact all
end
end K2
end
section
namespace K2
open PySem PySem.Spec PyProof.Rows L2
section
variable {X:Cx} {N:List Str} {scope:Scope} {tg elt iter:Expr} {ifs:List Expr} {pos:Pos} {m:Nat} {fr:List Nat} {wi:QJ} {g:B4} {c:Option yb} {te:iu}
structure Bh(X:Cx)(N:List Str)(scope:Scope)(m:Nat)(fr:List Nat):Prop where
 cell:∀ y∈scope.names,y.2≠.cell
 kind:scope.kind=.function
 names:∀ y∈scope.names,y.2=.local->scope.names.lookup y.1=some .local
 free:∀ y∈scope.names,y.2=.free->X.env.kindOf y.1=some .cell
 len:N.length=m+fr.length
 at':∀ j i x,fr[j]?=some i->N[m+j]?=some x->X.N[i]?=some x/\X.env.scope.names.lookup x=some .cell/\(Ht scope X.env).names.lookup x=some .cell
theorem Bh.closed{X:Cx}{N:List Str}{scope:Scope}{m:Nat}{fr:List Nat}(k:Bh X N scope m fr){pins:List (Addr×Obj)}{σ:L2.St}{H:Hp}{s:aK}(I:Inv X pins σ H s):closureFor scope X.env=pure (gQ X.env scope.names []) :=
 BY fun y hy hf=>I.ok.has _ (.inl (k.free y hy hf))
theorem KW(hc:X.calm=true)(k:Bh X N scope m fr)(hi:QL X tg iter wi)(hg:∀ C s H fp,LO (eR X N scope C s H fp) tg g)(S0:∀ C s H fp,TJ (eR X N scope C s H fp) ifs c)(he:∀ C s H fp,iL (eR X N scope C s H fp) elt te)
  (hs:autoParam (∀ x,oJ iter X.env x=pure x) Ai._auto_1):iL X (.ListComp elt [⟨tg,iter,ifs,0⟩] scope pos) (fR m fr wi g c te):=by
 intro E pins s σ H τ G Q hE I h;rw [eval_ListComp];refine wpAny_comprehension_free (use:=none) rfl hs (k.closed I.inv) k.kind k.names (ix (hi E pins s σ H τ G _ hE I h) fun xv fK tE=>ix tE fun Q0 jP Im=>?_);obtain⟨it,fp,tn,J,H2,G2,ds,ok,e,kD,m2,T,O6,f2,wk,hz,q⟩:=Im;subst e;refine CS (Rr:=fun acc C=>compPost (model X.prog X.w) X.A X.xe none (rg X pins σ H G Q) acc C) hc k.cell k.kind k.free k.len k.at' hg S0 he (I.mv kD m2) m2 T O6 f2 wk hz (fun _ _ z=>z) q ?_;rintro C s' ⟨mm,H',G',I',uf,Z3,mv,q'⟩;refine⟨mm,uf,fun h' SI=>?_⟩;obtain⟨f0,f1,_,f3,f4,f5⟩:=Z3;exact⟨.ref _,H',.ref _,G',I'.turned (t':=s'.toks) (fun b o hb e=>SI.extBut b o hb e) f0 f1 f3 f4 f5,mv,rfl,.ref _,q'⟩
theorem FA{i:Nat}{y:Str}{py MQ:Pos}(hN:X.N.Nodup)(Y8:X.N[i]?=some y)(hy:X.env.scope.names.lookup y=some .local)(hc:X.calm=true)(k:Bh X N scope m fr)(hi:QL X tg iter wi)(hg:∀ C s H fp,LO (eR X N scope C s H fp) tg g)
  (S0:∀ C s H fp,TJ (eR X N scope C s H fp) ifs c) (he:∀ C s H fp,iL (eR X N scope C s H fp) elt te) (Zg:autoParam (zc (.ListComp elt [⟨tg,iter,ifs,0⟩] scope pos) (some (.Name y py)) MQ.line X.env=pure true) Ar._auto_1)
  (hs:autoParam (∀ x,oJ iter X.env x=pure x) Ai._auto_1):EF X (.Assign [.Name y py] (.ListComp elt [⟨tg,iter,ifs,0⟩] scope pos) MQ) (bw (fR m fr wi g c te) (aH i)):=by
 intro E pins s σ H τ G D hE I h;rw [exec_Assign_Name_used _ _ _ _ Zg];refine ba (ET (ba ?_));show wpAny _ X.A (do let _ ← comprehension (.ListComp elt [⟨tg,iter,ifs,0⟩] scope pos) scope X.env _ (newList []) false (eval iter X.env) (some (EZ (.Name y py) X.env))) _ _ s;refine ba (ix (wpAny_comprehension_free (use:=some (EZ (.Name y py) X.env)) (Q:=fun _ s'=>Ho X pins H G D .next s') rfl hs (k.closed I.inv) k.kind k.names (ix (hi E pins s σ H τ G _ hE I h) fun xv fK tE=>ix tE fun Q0 jP Im=>?_)) fun _ s' hq=>cq (cq hq));obtain⟨it,fp,tn,J,H2,G2,ds,ok,e,kD,m2,T,O6,f2,wk,hz,q⟩:=Im;subst e;refine CS (Rr:=fun acc C=>compPost (model X.prog X.w) X.A X.xe (some (EZ (.Name y py) X.env)) (fun _ s'=>Ho X pins H G D .next s') acc C) hc k.cell k.kind k.free k.len k.at' hg S0 he (I.mv kD m2) m2 T O6 f2 wk hz (fun _ _ z=>z) q ?_;rintro C s' ⟨mm,H',G',I',uf,Z3,mv,q'⟩;show wpAny (model X.prog X.w) X.A (EZ (.Name y py) X.env (.ref jP.heap.objs.size)) _ X.xe s';obtain⟨f0,f1,_,f3,f4,f5⟩:=Z3;refine wpAny_assign_Name (Cq (v:=.ref jP.heap.objs.size) I' hN Y8 (.inl hy) rfl (?_) (.inr hy));rintro s3 I3 ⟨a,hsb,ha⟩;have hCa:C≠a:=by
  rcases ha with rfl | ha
  ·exact f1
  ·exact fun e=>f4 y a ha e.symm
 refine⟨mm,uf.sameBut hsb hCa,fun h' SI=>?_⟩;exact⟨_,H',_,G',⟨I3.turned (t':=s3.toks) (fun b o hb e=>SI.extBut b o hb e) f0 f1 f3 f4 f5,(I.st.mono (mv.kp I.ab)).set i (.ref _),mv.ab⟩,mv,q'⟩
theorem dW{i:Nat}{u:A9}{n:Nat}(h:∀ E ds τ G Q,u E ds τ G Q->ds.length=n):∀ E ds τ G Q,gq (aH i) u E ds τ G Q->ds.length=n+1 :=
 Ls h (fun _ _ _ _ _ _ q k=>k _ _ q) fun _ _ _ _ q=>q
theorem aQ (i:Nat) {x:Str} {pos:Pos} (hN:autoParam (X.N[i]?=some x) Ar._auto_1) (hv:autoParam (Xf X.env.scope x) Ao._auto_1) (hd:autoParam ((x == ("__debug__" : Str))=false) Ad._auto_1)
  (Hn:autoParam ((x == ("__classdict__" : Str))=false) Ad._auto_1):iL X (.Name x pos) (ah i):=P0 hN hv hd Hn
theorem range_all(bs:List Bool):(gK bs.length).all (fun i=>bs.getD i true)=bs.all id:=by
 rw [Bool.eq_iff_iff,oi,oi];constructor
 ·intro h b hb;obtain⟨i,hi,e⟩:=List.getElem_of_mem hb;have:=h i (List.mem_range.mpr hi);rw [eT,aU hi,e] at this;exact this
 ·intro h i hi;have Qo:=List.mem_range.mp hi;rw [eT,aU Qo];exact h _ (EM Qo)
theorem zC{K:ay}{H:Hp}:∀ {vs:List V} {bs:List Bool} {cy:List Value},bx K H vs (bs.map D.bl)->Vals vs cy->cy=bs.map we
 | _,[],_,r,h=>by rw [aT] at r; rw [r.zero] at h; cases h; rfl
 | _,b :: bs,_,r,h=>by
  rw [aC] at r;cases r with
  | cons r1 r2 =>
   cases r1;cases h with
   | cons h1 h2 =>
    cases h1;rw [zC r2 h2]; rfl
theorem Ag{pins:List (Addr×Obj)}{s:aK}{σ:L2.St}{H:Hp}{G:Gp}{x:V}{d:D}{v:Value}{zs:List D}(I:Inv X pins σ H s)(ab:lA X.K H G)(rx:RelV x v)(rd:cZ X.K H x d)(hi:itemsOf d G=some zs) :
  ∃ l vs cy,v=.ref l/\Vals vs cy/\bx X.K H vs zs/\(s.heap.IsList l cy.toArray\/s.heap.IsTuple l cy.toArray)/\vs.length<=bG:=by
 cases rd with
 | fU hq rs =>
  cases hi;cases rx;obtain⟨cy,rv,pl,hz⟩:=I.list hq.sq;exact⟨_,_,cy,rfl,rv,rs,.inl pl.isList,hz⟩
 | tup hq rs =>
  cases hi;cases rx;obtain⟨cy,rv,pl,hz⟩:=I.tuple (.of hq);exact⟨_,_,cy,rfl,rv,rs,.inr pl,hz⟩
 | ref l =>
  unfold itemsOf at hi;dsimp only at hi;cases hg:G l with
  | none=>rw [hg] at hi; cases hi
  | some gg =>
   rw [hg] at hi;cases gg with
   | lst ds =>
    cases hi;cases rx;obtain⟨vs,hv,rs⟩:=ab.lst hg;obtain⟨cy,rv,pl,hz⟩:=I.list (.of hv);exact⟨_,_,cy,rfl,rv,rs,.inl pl.isList,hz⟩
   | ins _ _=>cases hi
   | ka _=>cases hi
 | _=>cases hi
theorem LI (hc:X.calm=true):sH X (.builtin "all") Tw:=by
 intro pins s σ H G xs ds us Q I ab rx rd q;unfold Tw at q;split at q
 ·rename_i x;obtain⟨bs,hb,q⟩:=q;obtain⟨v,rfl,r⟩:=rd.one;obtain⟨u,rfl,ru⟩:=rx.one;obtain⟨l,vs,cy,rfl,rv,rs,hl,hz⟩:=Ag I ab ru r hb;have ei:=zC rs rv;have hlen:cy.length=bs.length:=by rw [ei,av]
  have sT:∀ {o:Obj},s.heap.get? l=some o->l≠s.heap.objs.size:=fun e=>bS (bf e);have tr:TruthOf X.prog X.w X.A.in1 (fun i v=>cy.toArray[i]?=some v) (fun i=>bs.getD i true):=fun i v s' Q' E' hv hq=>by
   subst ei;have SH:(bs.map we)[i]?=some v:=by simpa using hv
   rw [dS] at SH;cases ZJ:bs[i]? with
   | none=>rw [ZJ] at SH; cases SH
   | some b =>
    rw [ZJ] at SH;cases SH;dsimp only at hq;rw [eT,ZJ] at hq;exact Hr hq
  have fin:∀ h' tk,(∀ b o,b∉[s.heap.objs.size]->s.heap.get? b=some o->h'.get? b=some o)->rg X pins σ H G Q (.bool ((gK cy.toArray.size).all fun i=>bs.getD i true)) { s with heap:=h',toks:=tk }:=fun h' tk hk=>by
   rw [bc,hlen,range_all];exact⟨.bl _,H,.bl _,G,I.kept fun b o e=>hk b o (by simpa using bS (bf e)) e,.refl ab,rfl,.bl _,q⟩
  rcases hl with hl | hl
  ·refine call_all_walk (Hs hl ?_);obtain⟨o,ho,ER,n,hd⟩:=id hl;exact⟨s.heap.objs.size,_,_,_,_,_,_,rfl,Walks.list (A:=X.A.in1) (show X.A.in1.handled=none from I.ok.hd hc) _ l (sT ho) cy.toArray,⟨⟨_,cL _ rfl,rfl,rfl⟩,⟨o,aY _ ho,ER,n,hd⟩⟩,tr,fun h' tk hk=>fin h' tk fun b o hb e=>hk b o hb (aY _ e)⟩
  ·refine call_all_walk (EU hl ?_);obtain⟨o,ho,ER,n,hd⟩:=id hl;exact⟨s.heap.objs.size,_,_,_,_,_,_,rfl,Walks.tuple (A:=X.A.in1) (show X.A.in1.handled=none from I.ok.hd hc) _ l (sT ho) cy.toArray,⟨⟨_,cL _ rfl,rfl,rfl⟩,⟨o,aY _ ho,ER,n,hd⟩⟩,tr,fun h' tk hk=>fin h' tk fun b o hb e=>hk b o hb (aY _ e)⟩
 ·exact q.elim
theorem M9{body:List Stmt}{t2:fN}(h:uq X body t2){E:lq}(hE:Lk X E):Ul X body (fun D σ H=>∃ (τ:iH) (G:Gp) (D2:j0),OV X.K H σ τ/\lA X.K H G/\t2 E D2 τ G /\
  (∀ jU H' lp G',Mv X.K H G H' G'->D2.nx lp G'->D.nx jU H')/\(∀ v H' d G',Mv X.K H G H' G'->cZ X.K H' v d->D2.rt d G'->D.rt v H')/\(∀ τ G,¬ D2.bk τ G)/\(∀ τ G,¬ D2.ct τ G)):=by
 rintro pins s σ H D I ⟨τ,G,D2,st,ab,q,k1,k2,k3,k4⟩;refine ix (h E pins s σ H τ G D2 hE ⟨I,st,ab⟩ q) fun f s1 z=>?_;cases f with
 | next=>obtain⟨jU,H',lp,G',J,mv,z⟩:=z; exact⟨jU,H',J.inv,k1 jU H' lp G' mv z⟩
 | brk=>obtain⟨jU,H',lp,G',J,mv,z⟩:=z; exact(k3 _ _ z).elim
 | cont=>obtain⟨jU,H',lp,G',J,mv,z⟩:=z; exact(k4 _ _ z).elim
 | ret u=>obtain⟨v,jU,H',d,G',J,mv,r,rd,z⟩:=z; exact⟨v,jU,H',J,r,k2 v H' d G' mv rd z⟩
theorem Fg{K:ay}{H:Hp}{Nn:List Str}{vs:List V}{ds:List D}(r:bx K H vs ds):OV K H (L2.start Nn vs) (aZ Nn.length ds):=by
 unfold L2.start aZ;refine⟨by simp [r.length],fun i d h=>?_⟩;by_cases hi:i < ds.length
 ·rw [bK (by simpa using hi),dS] at h;cases hd:ds[i]? with
  | none=>rw [hd] at h; cases h
  | some d' =>
   rw [hd] at h;have e:d'=d:=by simpa using h
   subst e;obtain⟨v,h1,h2⟩:=r.get hd;refine⟨v,?_,h2⟩;rw [bK (by simpa [r.length] using hi),dS,h1]; rfl
 ·rw [bh (by simpa using hi),ml] at h;split at h <;> cases h
theorem Qx{P:bU}{w:World}{K:ay}{mg:Str->Option Value}{base:Heap}{x qual:Str}{st:Stmt}{f:Addr}{fd:aE}{Nn ps:List Str}{k:Nat}{sp:iw}{rd:fN}(F:kE K x qual st f fd)(S:bL Nn ps (aR st))(len:∀ ds G Q E,sp ds G Q E->ds.length=ps.length)
  (hr:∀ ds G Q,sp ds G Q (fun _ _=>False)->rd (fun _ _=>False) (ends Q) (aZ Nn.length ds) G)
  (hb:∀ (mq:Value) (A:fJ) (outer:List Env) (s:aK) (H:Hp) (E:XK),jf k (A.deeper (ze qual (aR st) s.heap.objs.size f mq))->uq (xp fh P w K mg base Nn qual (aR st) f mq A outer s H E).TZ (gZ st) rd):dN P w K mg base fh (k+1) f fd ps (bX K sp):=by
 refine F.ok S ((by rintro vs H Q E ⟨ds,G,Q2,r,ab,q,_⟩; exact by rw [r.length]; exact len _ _ _ _ q)) ?_;rintro mq A outer s H vs Q E NP ⟨ds,G,Q2,r,ab,q,kk⟩;refine⟨_,M9 (hb mq A outer s H E NP) (E:=fun _ _=>False) (Lk.none fun _ _ z=>z),?_⟩;exact⟨aZ Nn.length ds,G,ends Q2,Fg r,ab,hr ds G Q2 q,fun jU H' lp G' mv z=>kk _ _ _ _ z mv .j9,fun v H' d G' mv X2 z=>kk _ _ _ _ z mv X2,fun _ _ z=>z,fun _ _ z=>z⟩
section
variable {prog:bU} {w:World} {A:fJ} {R:Result->aK->Prop} {Xk:Addr} {fq wr:List Addr} {n:Nat} {P:Nat->Value->Prop} {Sx:Nat->Heap->Prop}
theorem Si(W:Walks prog w A.in1 Xk fq wr n P Sx)(bt:Nat->Nat->Bool)(T:Heap->Prop)(B:Addr)(hB:B∉fq)(hT:∀ h h',T h->(∀ b o,b∉wr->b≠B->h.get? b=some o->h'.get? b=some o)->T h')
  (cmp:∀ i j x y s (Q:Value->aK->Prop) (E:Value->aK->Prop),T s.heap->P i x->P j y->Q (.bool (bt i j)) s->wpAny (model prog w) A.in1 (wB .Lt x y) Q E s) :
  ∀ (k j:Nat) (s:aK) (best:Value) (cc:Nat),n - (j+1)=k->j+1<=n->Sx (j+1) s.heap->T s.heap->P (rk bt j) best ->
  s.heap.get? B=some { cls:=.type "list",dict:=none,data:=.seq #[best,best] cc,slots:=#[] } ->
  (∀ v h' tk,P (rk bt (n - 1)) v->(∀ b o,b∉wr->b≠B->s.heap.get? b=some o->h'.get? b=some o)->R (.ok (.ret v)) { s with heap:=h',toks:=tk }) ->
  wC (model prog w) A (.builtin "min.loop" ⟨[.ref Xk,.none,.ref B],[]⟩) R s:=by
 have hBw:B∉wr:=fun z=>hB (W.sub _ z);have nm:(toString "min"++toString ".loop" : String) = "min.loop":=by decide
 intro k;induction k with
 | zero =>
  intro j s best cc hk hj hs ht hp hb hR;have ej:j+1=n:=by lia
  refine Mi HF ?_; rw [wu jN _];show wpAny _ A.in1 (seqItems? (.ref B) >>= _) _ _ s; refine ba (Ph hb rfl ?_);show wpAny _ A.in1 (tryCatch (pyNext (.ref Xk)) _ >>= _) _ _ s; refine ba (Cf (W.done s _ _ (ej ▸ hs) fun h' tk kept=>?_));have L9:=kept B _ hBw hb;show wpAny _ A.in1 (updateSeq B (fun _=>#[]) >>= _) _ _ _; refine ba ?_;refine za L9 rfl (ba (Me (cq ?_)));exact hR best _ tk (by rw [<-ej]; exact hp) fun b o z1 z2 e=>(ef _ _ (dR z2)).trans (kept b o z1 e)
 | succ k ih =>
  intro j s best cc hk hj hs ht hp hb hR;have lt:j+1 < n:=by lia
  refine Mi HF ?_; rw [wu jN _];show wpAny _ A.in1 (seqItems? (.ref B) >>= _) _ _ s; refine ba (Ph hb rfl ?_);show wpAny _ A.in1 (tryCatch (pyNext (.ref Xk)) _ >>= _) _ _ s; refine ba (Cf (W.item (j+1) s _ _ lt hs fun v h' tk pv Hm kept=>?_));have L9:=kept B _ hBw hb;have Pb:T h':=hT _ _ ht fun b o z1 _ e=>kept b o z1 e;show wpAny _ A.in1 (tryCatch (C8 [v,v] (wB .Lt v best >>= _)) _ >>= _) _ _ _;refine ba (Cf (ng (ba (cmp (j+1) (rk bt j) v best _ _ _ Pb pv hp ?_)))); refine ba (ng (Hr ?_)); refine ba (Me (cq ?_));cases hbt:bt (j+1) (rk bt j) with
  | true =>
   simp only [if_true]; refine ba ?_;refine za L9 rfl (ba (Me ?_)); rw [nm];refine cq ⟨EW jN _,ih (j+1) _ v _ (by lia) lt (W.frame _ _ _ Hm fun b z o e=>?_) (hT _ _ Pb fun b o _ z2 e=>?_) (by simp only [rk,hbt,if_true]; exact pv) (wo _ L9 rfl) fun v' V6 ML U2 kk=>?_⟩
   ·exact(ef _ _ (fun z':B=b=>hB (by rw [z']; exact z))).trans e
   ·exact(ef _ _ (dR z2)).trans e
   ·exact hR v' V6 ML U2 fun b o z1 z2 e=>kk b o z1 z2 ((ef _ _ (dR z2)).trans (kept b o z1 e))
  | false =>
   simp only [ao,if_false]; refine ba (Me ?_); rw [nm];refine cq ⟨EW jN _,ih (j+1) _ best cc (by lia) lt Hm Pb (by simp only [rk,hbt,ao,if_false]; exact hp) L9 fun v' V6 ML U2 kk=>?_⟩;exact hR v' V6 ML U2 fun b o z1 z2 e=>kk b o z1 z2 (kept b o z1 e)
end
theorem FL{prog:bU}{w:World}{A:fJ}{E:Value->aK->Prop}{s:aK}{x:Value}{Q:Value->aK->Prop}
  (h:wpAny (model prog w) A.in1 (pyIter x) (fun it jP=>∃ (I:Addr) (fq wr:List Addr) (n:Nat) (P:Nat->Value->Prop) (Sx:Nat->Heap->Prop) (bt:Nat->Nat->Bool) (T:Heap->Prop),it=.ref I/\Walks prog w A.in1 I fq wr n P Sx/\Sx 0 jP.heap/\(∀ b∈fq,b < jP.heap.objs.size)/\0 < n/\T jP.heap/\(∀ (h h':Heap) (B:Addr),jP.heap.objs.size<=B->T h->(∀ b o,b∉wr->b≠B->h.get? b=some o->h'.get? b=some o)->T h') /\
   (∀ i j x y s (Q:Value->aK->Prop) (E:Value->aK->Prop),T s.heap->P i x->P j y->Q (.bool (bt i j)) s->wpAny (model prog w) A.in1 (wB .Lt x y) Q E s) /\
   ∀ v h' tk,P (rk bt (n - 1)) v->(∀ b o,b∉wr->jP.heap.get? b=some o->h'.get? b=some o)->Q v { jP with heap:=h',toks:=tk }) E s) :
  wpAny (model prog w) A (call (.builtin "min") [x]) Q E s:=by
 have nm:(toString "min"++toString ".loop" : String) = "min.loop":=by decide
 refine call_function_tree F.kind_min F.plain_min F.entry_min (F.args_min1 _) ?_;show wpAny _ A.in1 (wt "min" ["key","default"] 0 ⟨[],[]⟩ >>= _) _ _ s; refine ba (wpAny_of_eq (show wt "min" ["key","default"] 0 ⟨[],[]⟩=pure [none,none] from rfl) ?_);refine ba (cq ?_); refine ba (lb h (fun it jP Im=>?_) fun _ _ e=>e);obtain⟨I,fq,wr,n,P,Sx,bt,T,rfl,W,yu,VO,hn,ht,hT,cmp,hQ⟩:=Im;refine ba (k9 ?_);have ZS:jP.heap.objs.size∉fq:=fun z=>kF _ (VO _ z);have hSw:jP.heap.objs.size∉wr:=fun z=>ZS (W.sub _ z);rw [nm];generalize hh:jP.heap.push { cls:=.type "list",data:=.seq ([]:List Value).toArray } = hp;have hb:hp.get? jP.heap.objs.size=some { cls:=.type "list",dict:=none,data:=.seq #[] 0,slots:=#[] }:=by rw [<-hh]; exact cL _ rfl
 have old:∀ b o,jP.heap.get? b=some o->hp.get? b=some o:=fun b o e=>by rw [<-hh]; exact aY _ e
 have PF:Sx 0 hp:=W.frame _ _ _ yu fun b _ o e=>old b o e;have ht0:T hp:=hT _ _ _ (bp _) ht fun b o _ _ e=>old b o e;refine cq ⟨EW jN _,?_⟩;refine Mi HF ?_; rw [wu jN _];show wpAny _ A.in1 (seqItems? (.ref jP.heap.objs.size) >>= _) _ _ _; refine ba (Ph hb rfl ?_);show wpAny _ A.in1 (tryCatch (pyNext (.ref I)) _ >>= _) _ _ _; refine ba (Cf (W.item 0 _ _ _ hn PF fun v h' tk pv Hm kept=>?_));have L9:=kept _ _ hSw hb;show wpAny _ A.in1 (updateSeq jP.heap.objs.size (fun _=>#[v,v]) >>= _) _ _ _; refine ba ?_;refine za L9 rfl ?_; rw [nm];refine cq ⟨EW jN _,Si W bt T _ ZS (fun h h'=>hT h h' _ (bp _)) cmp _ 0 _ v _ rfl hn (W.frame _ _ _ Hm fun b z o e=>?_) (hT _ _ _ (bp _) (hT _ _ _ (bp _) ht0 fun b o z1 _ e=>kept b o z1 e) fun b o _ z2 e=>?_) pv (wo _ L9 rfl) fun v' V6 ML U2 kk=>?_⟩
 ·exact(ef _ _ (fun z':jP.heap.objs.size=b=>ZS (by rw [z']; exact z))).trans e
 ·exact(ef _ _ (dR z2)).trans e
 ·refine hQ v' V6 ML U2 fun b o z1 e=>?_;have nb:b≠jP.heap.objs.size:=bS (bf e);exact kk b o z1 nb ((ef _ _ (dR nb)).trans (kept b o z1 (old b o e)))
theorem GS{α:Type}(lt:α->α->Bool)(l:List α)(a:α)(f:Nat->α)(hf:∀ i,i < l.length+1->f i=(a :: l).getD i a) :
  f (rk (fun i j=>lt (f i) (f j)) l.length)=l.foldl (fun m x=>if lt x m=true then x else m) a:=by
 have key:∀ k,k<=l.length->f (rk (fun i j=>lt (f i) (f j)) k)=(l.take k).foldl (fun m x=>if lt x m=true then x else m) a:=by
  intro k;induction k with
  | zero=>intro _; rw [rk,hf 0 (by lia)]; rfl
  | succ k ih =>
   intro hk;have ih':=ih (by lia);rw [List.take_succ_eq_append_getElem (by lia),Ci,<-ih'];have e:f (k+1)=l[k]:=by
    rw [hf (k+1) (by lia),eT];simp [show k < l.length by lia]
   show f (if lt (f (k+1)) (f (rk _ k))=true then k+1 else rk _ k)=(if lt l[k] _=true then l[k] else _);rw [<-e];split <;> rfl
 rw [key l.length (bp _),List.take_length]
theorem CU (hc : X.calm = true) (hu : X.A.units + 64 < cLine) : sH X (.builtin "min") LJ := by
  intro pins s σ H G xs ds us Q I ab rx rd q;unfold LJ at q;split at q
  · rename_i x
    obtain⟨v, rfl, r⟩ := rd.one;obtain⟨u, rfl, ru⟩ := rx.one;have main : ∀ {α : Type} (zs : List α) (a : α) (enc : α -> D) (lt : α -> α -> Bool) (T : Heap -> Prop), itemsOf x G = some ((a :: zs).map enc) -> T s.heap -> (∀ (h h' : Heap) (B : Addr), s.heap.objs.size ≤ B -> T h -> (∀ b o, b < s.heap.objs.size -> b ≠ B -> h.get? b = some o -> h'.get? b = some o) -> T h') ->
        (∀ y z vy vz uy uz (s' : aK) (Q' : Value -> aK -> Prop) (E' : Value -> aK -> Prop), T s'.heap -> cZ X.K H vy (enc y) -> RelV vy uy -> cZ X.K H vz (enc z) -> RelV vz uz -> Q' (.bool (lt y z)) s' -> wpAny (model X.prog X.w) X.A.in1 (wB .Lt uy uz) Q' E' s') ->
        Q (enc (zs.foldl (fun m x => if lt x m = true then x else m) a)) G -> wpAny (model X.prog X.w) X.A (call (.builtin "min") [u]) (rg X pins σ H G Q) X.xe s := by
      intro α zs a enc lt T hi ht hT cmp hq;obtain⟨l, vs, cy, rfl, rv, rs, hl, hz⟩ := Ag I ab ru r hi;have hlen : cy.length = zs.length + 1 := by rw [<-rv.length, rs.length, av, aq]
      have sT : ∀ {o : Obj}, s.heap.get? l = some o -> l ≠ s.heap.objs.size := fun e => bS (bf e);have at_ : ∀ i uu, cy.toArray[i]? = some uu -> ∃ vv, RelV vv uu ∧ cZ X.K H vv (enc ((a :: zs).getD i a)) := fun i uu e => by
        have e' : cy[i]? = some uu := by simpa using e
        have Qo : i < cy.length := (List.getElem?_eq_some_iff.mp e').1;have hd : ((a :: zs).map enc)[i]? = some (enc ((a :: zs).getD i a)) := by
          rw [dS, eT];cases h9 : (a :: zs)[i]? with
          | none => rw [List.getElem?_eq_none_iff] at h9; simp at h9; lia
          | some z => rfl
        obtain⟨vv, h1, h2⟩ := rs.get hd;obtain⟨uu', h3, h4⟩ := rv.get h1;rw [e'] at h3;cases h3;exact⟨vv, h4, h2⟩
      have Wi : ∀ i j p9 q9 s' (Q' : Value -> aK -> Prop) (E' : Value -> aK -> Prop), T s'.heap -> cy.toArray[i]? = some p9 -> cy.toArray[j]? = some q9 -> Q' (.bool (lt ((a :: zs).getD i a) ((a :: zs).getD j a))) s' -> wpAny (model X.prog X.w) X.A.in1 (wB .Lt p9 q9) Q' E' s' := fun i j p9 q9 s' Q' E' t' h1 h2 h3 => by
        obtain⟨v1, r1, d1⟩ := at_ i p9 h1;obtain⟨v2, r2, d2⟩ := at_ j q9 h2;exact cmp _ _ v1 v2 p9 q9 s' Q' E' t' d1 r1 d2 r2 h3
      have fin : ∀ vv h' tk, cy.toArray[rk (fun i j => lt ((a :: zs).getD i a) ((a :: zs).getD j a)) (cy.toArray.size - 1)]? = some vv -> (∀ b o, b ∉ [s.heap.objs.size] -> s.heap.get? b = some o -> h'.get? b = some o) -> rg X pins σ H G Q vv { s with heap := h', toks := tk } := fun vv h' tk e hk => by
        obtain⟨v1, r1, d1⟩ := at_ _ vv e;have es : cy.toArray.size - 1 = zs.length := by rw [bc]; lia
        rw [es, GS lt zs a (fun i => (a :: zs).getD i a) (fun i _ => rfl)] at d1;exact⟨v1, H, _, G, I.kept fun b o e => hk b o (by simpa using bS (bf e)) e, .refl ab, r1, d1, hq⟩
      have FY : 0 < cy.toArray.size := by rw [bc]; lia
      have hTp : ∀ (oo : Obj), T (s.heap.push oo) := fun oo => hT _ _ (s.heap.objs.size + 1) (Nat.le_succ _) ht fun b o hb _ e => aY _ e;have hT2 : ∀ (oo : Obj) (h h' : Heap) (B : Addr), (s.heap.push oo).objs.size ≤ B -> T h -> (∀ b o, b ∉ [s.heap.objs.size] -> b ≠ B -> h.get? b = some o -> h'.get? b = some o) -> T h' := fun oo h h' B hB t kk => hT h h' B (by rw [ju] at hB; exact Nat.le_of_succ_le hB) t fun b o hb hn e => kk b o (by simpa using bS hb) hn e;rcases hl with hl | hl
      · refine FL (Hs hl ?_)
        obtain⟨o, ho, ER, n, hd⟩ := id hl;exact⟨s.heap.objs.size, _, _, _, _, _, _, T, rfl, Walks.list (A := X.A.in1) (show X.A.in1.handled = none from I.ok.hd hc) _ l (sT ho) cy.toArray, ⟨⟨_, cL _ rfl, rfl, rfl⟩, ⟨o, aY _ ho, ER, n, hd⟩⟩,
          fun b hb => by rcases (by simpa using hb : b = s.heap.objs.size ∨ b = l) with rfl | rfl
                         · rw [ju]; exact lr _
                         · rw [ju]; exact Nat.lt_succ_of_lt (bf ho), FY, hTp _, hT2 _, Wi, fun vv h' tk e hk => fin vv h' tk e fun b o hb e => hk b o hb (aY _ e)⟩
      · refine FL (EU hl ?_)
        obtain⟨o, ho, ER, n, hd⟩ := id hl;exact⟨s.heap.objs.size, _, _, _, _, _, _, T, rfl, Walks.tuple (A := X.A.in1) (show X.A.in1.handled = none from I.ok.hd hc) _ l (sT ho) cy.toArray, ⟨⟨_, cL _ rfl, rfl, rfl⟩, ⟨o, aY _ ho, ER, n, hd⟩⟩,
          fun b hb => by rcases (by simpa using hb : b = s.heap.objs.size ∨ b = l) with rfl | rfl
                         · rw [ju]; exact lr _
                         · rw [ju]; exact Nat.lt_succ_of_lt (bf ho), FY, hTp _, hT2 _, Wi, fun vv h' tk e hk => fin vv h' tk e fun b o hb e => hk b o hb (aY _ e)⟩
    rcases q with ⟨ns, mm, hi, hm, q⟩ | ⟨WK, mm, hi, hm, q⟩
    · cases ns with
      | nil => cases hm
      | cons a zs =>
        cases hm;have e : (fun m x : Int => if x < m then x else m) = fun m x => if decide (x < m) = true then x else m := by funext m x; simp
        rw [e] at q;refine main zs a D.int (fun x y => decide (x < y)) (fun _ => True) hi trivial (fun _ _ _ _ _ _ => trivial) (fun y z vy vz uy uz s' Q' E' _ d1 r1 d2 r2 hq => ?_) q;cases d1;cases d2;obtain⟨t1, rfl⟩ := r1;obtain⟨t2, rfl⟩ := r2;exact HT.Fv X.A.in1 s' y t1 z t2 X.prog X.w E' Q' hq
    · cases WK with
      | nil => cases hm
      | cons a zs =>
        cases hm;have el : ∀ xs ys : List Int, HT.lexLt xs ys = K2.lexLt xs ys := by
          intro xs;induction xs with
          | nil => intro ys; cases ys <;> rfl
          | cons x xs ih => intro ys; cases ys with
            | nil => rfl
            | cons y ys => unfold HT.lexLt K2.lexLt; rw [ih]
        refine main zs a tI K2.lexLt (fun h => ∀ b o, b < s.heap.objs.size -> s.heap.get? b = some o -> h.get? b = some o) hi (fun b o _ e => e) (fun h h' B hB t kk b o hb e => kk b o hb (bS (bR hb hB)) (t b o hb e)) (fun y z vy vz uy uz s' Q' E' t' d1 r1 d2 r2 hq => ?_) q;cases d1 with
        | tup h1 rs1 =>
          cases d2 with
          | tup h2 QR =>
            cases r1;cases r2;have z1 := rs1.ints;have z2 := QR.ints;subst z1 z2;obtain⟨NB, TV, ⟨o1, ho1, T8, n1, ZH⟩, _⟩ := I.tuple (.of h1);obtain⟨tD, KP, ⟨o2, Pc, S4, n2, hd2⟩, _⟩ := I.tuple (.of h2);have p1 : IsTup s'.heap _ NB.toArray := ⟨o1, t' _ _ (bf ho1) ho1, T8, n1, ZH⟩;have p2 : IsTup s'.heap _ tD.toArray := ⟨o2, t' _ _ (bf Pc) Pc, S4, n2, hd2⟩;rw [<-el] at hq;have i1 : lB NB.toArray.toList y := intsAre_of TV;have i2 : lB tD.toArray.toList z := intsAre_of KP;exact(HT.zZ p1 p2 i1 i2 (show X.A.units + 1 < cLine by lia) hq : wpAny (model X.prog X.w) X.A.in1 (gN .Lt _ _) Q' E' s')
  · exact q.elim
noncomputable def X1(scope sc:Scope):List (Str×tH):=scope.names.map fun (n,k)=>if (k == .free&&sc.kind == .function&&sc.names.lookup n == some .cell) then (n,.cell) else (n,k)
noncomputable def y7(N:List Str)(scope:Scope)(m:Nat)(fr:List Nat)(sc:Scope)(XN:List Str):Bool :=
 scope.names.all (fun y=>decide (y.2≠.cell))&&decide (scope.kind=.function)&&scope.names.all (fun y=>!decide (y.2=.local)||decide (scope.names.lookup y.1=some .local)) &&
 scope.names.all (fun y=>!decide (y.2=.free)||decide (sc.names.lookup y.1=some .cell))&&decide (N.length=m+fr.length) &&
 (gK fr.length).all (fun j=>match fr[j]?,N[m+j]? with
  | some i,some x=>decide (XN[i]?=some x)&&decide (sc.names.lookup x=some .cell)&&decide ((X1 scope sc).lookup x=some .cell)
  | _,_=>false)
theorem CT{sc:Scope}{XN:List Str}(Vz:X.env.scope=sc)(V2:X.N=XN)(hb:y7 N scope m fr sc XN=true):Bh X N scope m fr:=by
 subst Vz V2;unfold y7 at hb;simp only [bj] at hb;obtain⟨⟨⟨⟨⟨h1,h2⟩,h3⟩,h4⟩,h5⟩,h6⟩:=hb;refine⟨fun y hy=>of_decide_eq_true (List.all_eq_true.mp h1 y hy),of_decide_eq_true h2,fun y hy hl=>?_,fun y hy hl=>?_,of_decide_eq_true h5,fun j i x e1 e2=>?_⟩
 ·have:=List.all_eq_true.mp h3 y hy;simp only [hl,decide_true,aS,L0] at this;exact of_decide_eq_true this
 ·have:=List.all_eq_true.mp h4 y hy;simp only [hl,decide_true,aS,L0] at this;exact of_decide_eq_true this
 ·have hj:j < fr.length:=(List.getElem?_eq_some_iff.mp e1).1;have:=List.all_eq_true.mp h6 j (List.mem_range.mpr hj);rw [e1,e2] at this;simp only [bj] at this;exact⟨of_decide_eq_true this.1.1,of_decide_eq_true this.1.2,of_decide_eq_true this.2⟩
theorem nH(N:List Str){sc:Scope}{XN:List Str}(hi:QL X tg iter wi)(hg:∀ C s H fp,LO (eR X N scope C s H fp) tg g)(S0:∀ C s H fp,TJ (eR X N scope C s H fp) ifs c)(he:∀ C s H fp,iL (eR X N scope C s H fp) elt te)
  (Vz:autoParam (X.env.scope=sc) Ar._auto_1) (V2:autoParam (X.N=XN) Ar._auto_1) (hb:autoParam (y7 N scope m fr sc XN=true) Ak._auto_1) (hc:autoParam (X.calm=true) Ar._auto_1) (hs:autoParam (∀ x,oJ iter X.env x=pure x) Ai._auto_1):iL X (.ListComp elt [⟨tg,iter,ifs,0⟩] scope pos) (fR m fr wi g c te) :=
 KW hc (CT Vz V2 hb) hi hg S0 he hs
theorem nF(N:List Str){sc:Scope}{XN:List Str}{i:Nat}{y:Str}{py MQ:Pos}(hN:X.N.Nodup)(Y8:X.N[i]?=some y)(hy:X.env.scope.names.lookup y=some .local)(hi:QL X tg iter wi)(hg:∀ C s H fp,LO (eR X N scope C s H fp) tg g)
  (S0:∀ C s H fp,TJ (eR X N scope C s H fp) ifs c) (he:∀ C s H fp,iL (eR X N scope C s H fp) elt te) (Vz:autoParam (X.env.scope=sc) Ar._auto_1) (V2:autoParam (X.N=XN) Ar._auto_1) (hb:autoParam (y7 N scope m fr sc XN=true) Ak._auto_1) (hc:autoParam (X.calm=true) Ar._auto_1)
  (Zg:autoParam (zc (.ListComp elt [⟨tg,iter,ifs,0⟩] scope pos) (some (.Name y py)) MQ.line X.env=pure true) Ar._auto_1) (hs:autoParam (∀ x,oJ iter X.env x=pure x) Ai._auto_1) :
  EF X (.Assign [.Name y py] (.ListComp elt [⟨tg,iter,ifs,0⟩] scope pos) MQ) (bw (fR m fr wi g c te) (aH i)) :=
 FA hN Y8 hy hc (CT Vz V2 hb) hi hg S0 he Zg hs
theorem Lh{K:ay}{H:Hp}{a:Addr}{ns:List Int}(hO:QM H)(hS:sZ K H a (ns.map V.int))(hl:ns.length<=63):bX K Cr [.ref a] H (fun v _=>v=.bl true) fun _ _ _=>False:=by
 have hF:Uk K H a (ns.map V.int):=by
  rcases hS with (h | ⟨o,h⟩) | h
  ·rcases hO a with z | ⟨o,xs,z⟩
   ·rw [z] at h; cases h
   ·rw [z] at h; cases h
  ·exact .inl ⟨o,h⟩
  ·exact .inr h
 refine⟨[.fU (ns.map D.int)],fun _=>none,fun d _=>d=.bl true,.cons (.fU hF (bx.JP ns)) .nil,fun a g e=>(by cases e),⟨ns,rfl,hl,fun _=>rfl,fun _=>rfl⟩,fun d G' v H' e mv r=>?_⟩;subst e;cases r;rfl
theorem Nw{l:Dc}{q:bU}{loose:List Str}{XP:(Str->Option Value)->Heap->Prop}{YP:World->Heap->Prop}{d:DefRec}{K:gA->ay}{k:Nat}{x:Str}(hn:l.most=some 63)(VP:d.params.defaults=[])(hr:jf k Hu)
  (hY:∀ (w:World) (h:Heap),YP w h->(K w.params).In h)
  (F:∀ (w:World) (mg:Str->Option Value) (fa:Addr) (h:Heap),(K w.params).In h->h.Ns bz mg->mg d.name=some (.ref fa) ->
   ∃ fd:aE,(∀ (s:aK) (u:Value),BindsTo s fd ⟨[u],[]⟩ [(x,u)])/\∀ base:Heap,(K w.params).In base->base.Ns bz mg->dN l.prog w (K w.params) mg base fh k fa fd [x] (bX (K w.params) Cr)) :
  PySem.W.WalkO q loose XP YP l.row.toRowW d [] (fun f vs=>Jk f vs) :=
 L2.Px (n:=63) (k:=k) (x:=x) (CX:=fun _=>fh) (sp:=fun w=>bX (K w.params) Cr) hn (by decide) VP hr hY F (fun _ _ _ _ hl hO hS=>Lh hO hS hl) fun _ _ _ _ _ z=>z
end
end K2
end
section
namespace K2
open PySem PySem.Spec PyProof.Rows L2
noncomputable def OD:HO->Bool
 | .lst _=>true
 | .dK _=>true
 | .dT _=>true
 | _=>false
noncomputable def pN(h:Heap)(S:Addr->Bool)(H:Hp):Hp:=fun a=>match H a with
 | some u=>if (OD u&&S a)=true then (match h.get? a with
  | some o=>some (.pO o u)
  | none=>some u) else some u
 | none=>none
section
variable {h:Heap} {S:Addr->Bool} {H:Hp} {a:Addr}
theorem Iw(n:∀ u,H a=some u->OD u=false):pN h S H a=H a:=by
 unfold pN;cases e:H a with
 | none=>rfl
 | some u=>simp only [n u e,Jp,ao,if_false]
theorem AF(hs:S a=false):pN h S H a=H a:=by
 unfold pN;cases e:H a with
 | none=>rfl
 | some u=>simp only [hs,Jq,ao,if_false]
theorem yY{u:HO}{o:Obj}(hs:S a=true)(e:H a=some u)(hu:OD u=true)(ho:h.get? a=some o):pN h S H a=some (.pO o u):=by
 unfold pN;simp only [e,hs,hu,Bool.and_self,if_true,ho]
theorem pM(e:H a=none):pN h S H a=none:=by unfold pN; rw [e]
theorem mU{u:HO}(e:H a=some u)(hu:OD u=false):pN h S H a=some u:=by rw [Iw (fun v z=>by rw [e] at z; cases z; exact hu)]; exact e
theorem vD:Kp H (pN h S H):=⟨fun a xs e=>mU e rfl,fun a o u e=>mU e rfl⟩
end
section
variable {X:Cx} {pins:List (Addr×Obj)} {σ:L2.St} {H:Hp} {s:aK} {G:Gp}
theorem Inv.freeze(I : Inv X pins σ H s)(S : Addr -> Bool) : Inv X pins σ (pN s.heap S H) s where
  ok := I.ok
  os := I.os
  bare := I.bare
  base := { keep := I.base.keep, slot := I.base.slot, there := I.base.there
            free := fun b o q n hx => pM (I.base.free b o q n hx)
            wH := fun b xs q => mU (I.base.wH b xs q) rfl
            vC := fun b o u q => mU (I.base.vC b o u q) rfl
            zl := fun b ps q => mU (I.base.zl b ps q) rfl
            yr := fun b x q => mU (I.base.yr b x q) rfl }
  loc := I.loc
  cell := I.cell
  free := pM I.free
  mJ := fun x c e => pM (I.mJ x c e)
  pin := fun p hp => let ⟨h1, h2, h3⟩ := I.pin p hp; ⟨h1, pM h2, h3⟩
  eL := fun a o q => by
    have st : ∀ u, H a = some u -> gE X.prog X.w (pN s.heap S H) s.heap a u := fun u e =>
      (I.eL a u e).kG (fun b v _ r => r) (fun b r => mU r rfl) (fun b xs r => mU r rfl)
    cases e : H a with
    | none => rw [pM e] at q; cases q
    | some u =>
      by_cases hc : OD u = true
      · by_cases hs : S a = true
        · obtain⟨ob, ho⟩ := pF (I.eL a _ e)
          rw [yY hs e hc ho] at q;cases q;exact⟨ho, st _ e⟩
        · rw [AF (by simpa using hs), e] at q
          cases q;exact st _ e
      · rw [mU e (by simpa using hc)] at q
        cases q;exact st _ e
  len := I.len
noncomputable def qH(R:Nat->Bool)(G:Gp):Addr->Bool:=fun a=>R a&&(G a).isSome
theorem CO(I:Inv X pins σ H s)(ab:lA X.K H G)(R:Nat->Bool):Mv X.K H G (pN s.heap (qH R G) H) (BQ R G) where
 keep:=fun a o e n=>by
  refine⟨by rw [AF (by simp [qH,n])]; exact e,?_⟩;unfold BQ; split
  ·rfl
  ·exact n
 kG:=fun a n=>by
  cases q:G a with
  | none=>exact absurd q n
  | some g =>
   have t:=(ab a g q).tracked;cases e:H a with
   | none=>exact absurd e t
   | some u =>
    unfold pN;rw [e];dsimp only;split
    ·split <;> simp
    ·simp
 ab:=fun a g e=>by
  unfold BQ at e;split at e
  ·cases e
  ·rename_i hr;exact(ab a g e).mono vD (AF (by simp [qH,hr]))
theorem N9(I:Inv X pins σ H s)(ab:lA X.K H G){R:Nat->Bool}:∀ {d t:D} {v:V},Fz G R d t->cZ X.K H v d->cZ X.K (pN s.heap (qH R G) H) v t:=by
 intro d t v h;revert v;refine Fz.rec (motive_1:=fun d t _=>∀ {v:V},cZ X.K H v d->cZ X.K (pN s.heap (qH R G) H) v t)
  (motive_2:=fun ds ts _=>∀ {vs:List V},bx X.K H vs ds->bx X.K (pN s.heap (qH R G) H) vs ts)
  (motive_3:=fun ds ts _=>(∀ {vs:List (Key×V)},q5 X.K H vs ds->q5 X.K (pN s.heap (qH R G) H) vs ts)/\∀ {vs:List (List Key×V)},rh X.K H vs ds->rh X.K (pN s.heap (qH R G) H) vs ts)
  ?_ ?_ ?_ ?_ ?_ ?_ ?_ ?_ ?_ h
 ·intro d v r; exact r.mono vD
 ·intro ds ss _ ih v r;cases r with
  | tup h rs=>exact .tup (vD.tup _ _ h) (ih rs)
 ·intro ds ss _ ih v r;cases r with
  | fU h rs=>exact .fU (vD.TU h) (ih rs)
 ·intro a ds ss g hr _ ih v r;cases r;obtain⟨vs,hv,rs⟩:=ab a _ g;obtain⟨ob,ho⟩:=pF (I.eL a _ hv);exact .fU (.inl ⟨_,yY (by simp [qH,hr,g]) hv rfl ho⟩) (ih rs)
 ·intro a ds ss g hr _ ih v r;cases r;rcases ab a _ g with ⟨kv,hv,rs⟩ | ⟨kv,hv,rs⟩
  ·obtain⟨ob,ho⟩:=pF (I.eL a _ hv);exact .t9 (yY (by simp [qH,hr,g]) hv rfl ho) (ih.1 rs)
  ·obtain⟨ob,ho⟩:=pF (I.eL a _ hv);exact .t8 (yY (by simp [qH,hr,g]) hv rfl ho) (ih.2 rs)
 ·intro vs r; cases r; exact .nil
 ·intro d s ds ss _ _ i1 i2 vs r;cases r with
  | cons r rs=>exact .cons (i1 r) (i2 rs)
 ·exact⟨fun r=>by cases r; exact .nil,fun r=>by cases r; exact .nil⟩
 ·intro k d s ds ss _ _ i1 i2;exact⟨fun r=>by cases r with | cons r rs=>exact .cons (i1 r) (i2.1 rs),fun r=>by cases r with | cons r rs=>exact .cons (i1 r) (i2.2 rs)⟩
variable {e:Expr} {te:iu} {st:Stmt} {t:fN}
theorem bu(he:iL X e te):iL X e (c7 te):=by
 intro E pins s σ H τ G Q hE I h;refine ix (he E pins s σ H τ G _ hE I h) ?_;rintro u s1 ⟨v,H1,d,G1,I1,m,r,rd,R,t,hf,q⟩;exact⟨v,_,t,_,Inv.freeze I1 _,m.trans (CO I1 m.ab R),r,N9 I1 m.ab hf rd,q⟩
theorem yT{i:Nat}(h1:EF X st t):EF X st (LF i t):=by
 intro E pins s σ H τ G D hE I h;refine ix (h1 E pins s σ H τ G _ hE I h) fun f s1 z=>?_;cases f with
 | next =>
  obtain⟨jU,H',lp,G',I',m,q⟩:=z;simp only at q;split at q
  ·rename_i d hd;obtain⟨R,t,hf,q⟩:=q;obtain⟨v,hv,rv⟩:=I'.st.at' i d hd;have a1:=(I'.st.mono (H':=pN s1.heap (qH R G') H') vD).set i (N9 I'.inv I'.ab hf rv);have es:jU.set i (some v)=jU:=by
    have hi:i < jU.length:=(List.getElem?_eq_some_iff.mp hv).1;have e2:=(List.getElem?_eq_some_iff.mp hv).2;rw [<-e2]; exact List.set_getElem_self hi
   rw [es] at a1;have m2:=CO I'.inv I'.ab R;exact⟨jU,_,_,_,⟨Inv.freeze I'.inv _,a1,m2.ab⟩,m.trans m2,q⟩
  ·exact q.elim
 | ret v=>exact z
 | brk=>exact z
 | cont=>exact z
end
end K2
end
section
namespace K2
open PySem PySem.Spec PyProof.Rows L2
theorem fB:eQ "len" = some (.builtin "len"):=by decide +kernel
theorem OH:eQ "min" = some (.builtin "min"):=by decide +kernel
theorem OI:eQ "max" = some (.builtin "max"):=by decide +kernel
theorem TB:eQ "all" = some (.builtin "all"):=by decide +kernel
theorem LK:eQ "sorted" = some (.builtin "sorted"):=by decide +kernel
theorem qB:eQ "list" = some (.type "list"):=by decide +kernel
theorem vT:eQ "tuple" = some (.type "tuple"):=by decide +kernel
theorem Tz:eQ "int" = some (.type "int"):=by decide +kernel
theorem QF:eQ "bool" = some (.type "bool"):=by decide +kernel
theorem OG:eQ "str" = some (.type "str"):=by decide +kernel
section
variable {X:Cx} {a b c e o:Expr} {es:List Expr} {ta tb tc te to:iu} {t:xr} {pos p p2 apos qX:Pos} {x name:Str} {id T:String} {k:Nat} {f:Addr} {fd:aE} {ps:List Str} {sp:iw}
theorem a9(F:dN X.prog X.w X.K X.mg X.base fh k f fd ps (bX X.K sp))(hr:jf k X.A)(hg:Gl X x)(hm:X.mg x=some (.ref f))(hk:fm X.K (.ref f)=true)(hb:Binds X.K fd ps [])
  (ha:B5 X (e :: es) t) (Gb:autoParam ((x == ("__debug__" : Str))=false) Ad._auto_1) (he:autoParam (bO (e :: es) X.env=(false,eval e X.env) :: bO es X.env) Ar._auto_1) (mZ:autoParam ((kM pos (bO es X.env)).any (·.1)=false) Ar._auto_1) :
  iL X (.Call (.Name x p) (e :: es) [] pos) (bo sp t):=Nh F hr hg hm hk hb ha Gb he mZ
end
end K2
end
section
namespace L2
open PySem PySem.Spec PyProof.Rows
section
variable {X:Cx} {pins:List (Addr×Obj)} {σ:St} {H:Hp} {s:aK} {h':Heap}
theorem Inv.Jv{t':Nat}{fp:List Addr}(I:Inv X pins σ H s)(hf:∀ b∈fp,qF X pins H b)(k:∀ b o,b∉fp->s.heap.get? b=some o->h'.get? b=some o):Inv X pins σ H { s with heap:=h',toks:=t' }:=by
 have nt:∀ b u,H b=some u->b∉fp:=fun b u e z=>by rw [(hf b z).1] at e; cases e
 refine I.step (g':=s.gens) (d':=s.drawn) (ch:=fp) (fun b hb=>?_) (fun b o _ _ hc e _=>k b o hc e) (fun b o _ _ hc e _=>⟨o.slots,k b o hc e⟩) (fun _ _ _ _ n=>n)
  (fun b o hc e=>⟨o,k b o hc e⟩) (fun _ _ e=>e) (fun _ _ _ e=>e) (fun _ _ e=>e) (fun _ _ e=>e) (fun m hm=>?_) (fun b u e=>?_) I.bare
 ·obtain⟨f0,f1,f2,f3,f4,f5⟩:=hf b hb;exact⟨f3,f1,f4,f5⟩
 ·obtain⟨o,es,ep,ho,r⟩:=hm;exact⟨o,es,ep,k _ _ (fun z=>(hf _ z).2.1 rfl) ho,r⟩
 ·refine(I.eL b u e).kG (fun c v hc r=>k c v ?_ r) (fun _ z=>z) (fun _ _ z=>z);rcases hc with rfl | hc
  ·exact nt _ _ e
  ·exact nt _ _ hc
theorem Inv.Pz{t':Nat}{fp:List Addr}{T:Addr}{vs:List V}(I:Inv X pins σ H s)(hf:∀ b∈fp,qF X pins H b)(k:∀ b o,b∉fp->s.heap.get? b=some o->h'.get? b=some o)(hT:s.heap.objs.size<=T)
  (new:gE X.prog X.w (upd H T (.tup vs)) h' T (.tup vs)):Inv X pins σ (upd H T (.tup vs)) { s with heap:=h',toks:=t' }:=by
 have hn:H T=none:=I.eL.fresh hT;have ht:∀ b o,s.heap.get? b=some o->b≠T:=fun b o e z=>by subst z; exact absurd (bf e) (Nat.not_lt.mpr hT)
 have nt:∀ b u,H b=some u->b∉fp:=fun b u e z=>by rw [(hf b z).1] at e; cases e
 have ne:∀ b u,H b=some u->b≠T:=fun b u e=>e7 e hn;refine I.step (g':=s.gens) (d':=s.drawn) (ch:=fp) (fun b hb=>?_) (fun b o _ _ hc e _=>k b o hc e) (fun b o _ _ hc e _=>⟨o.slots,k b o hc e⟩) (fun b o _ e n=>by rw [cp (ht b o e)]; exact n)
  (fun b o hc e=>⟨o,k b o hc e⟩) (fun b xs e=>by rw [cp (ne _ _ e)]; exact e) (fun b o u e=>by rw [cp (ne _ _ e)]; exact e) (fun b ps e=>by rw [cp (ne _ _ e)]; exact e) (fun b ps e=>by rw [cp (ne _ _ e)]; exact e) (fun m hm=>?_) (fun b u e=>?_) I.bare
 ·obtain⟨f0,f1,f2,f3,f4,f5⟩:=hf b hb;exact⟨f3,f1,f4,f5⟩
 ·obtain⟨o,es,ep,ho,r⟩:=hm;exact⟨o,es,ep,k _ _ (fun z=>(hf _ z).2.1 rfl) ho,r⟩
 ·by_cases hb:b=T
  ·subst hb; rw [dF] at e; cases e; exact new
  ·rw [cp hb] at e;refine(I.eL b u e).kG (fun c v hc r=>k c v ?_ r) (fun c z=>by rw [cp (ne _ _ z)]; exact z) (fun c xs z=>by rw [cp (ne _ _ z)]; exact z);rcases hc with rfl | hc
   ·exact nt _ _ e
   ·exact nt _ _ hc
theorem qF.upd{b T:Addr}{o:HO}(h:qF X pins H b)(hb:b≠T):qF X pins (L2.upd H T o) b:=by
 obtain⟨f0,r⟩:=h;exact⟨by rw [cp hb]; exact f0,r⟩
end
end L2
namespace K2
open PySem PySem.Spec PyProof.Rows L2
section
variable {X:Cx} {elts:List Expr} {kk:Nat} {UM:Pos} {a b:Expr} {ta tb:iu} {pos p:Pos}
theorem Tx:eQ "zip" = some (.type "zip"):=by decide +kernel
end
end K2
end
section
namespace K2
open PySem PySem.Spec PyProof.Rows L2
section
variable {X:Cx} {o i a b:Expr} {to ti ta tb:iu} {pos p:Pos}
theorem qa(hu:X.A.units+64 < cLine)(ho:iL X o to)(hi:iL X i ti)
  (ha:autoParam (∀ v,EZ (.Subscript o i pos) X.env v=(do
   let ov ← C8 [v] (eval o X.env)
   let iv ← C8 [v,ov] (eval i X.env)
   standAt pos
   C8 [v,ov,iv] (setItem ov iv v)
   release [v,ov,iv] [])) Ai._auto_1):LO X (.Subscript o i pos) (w8 to ti):=by
 intro E pins s σ H τ G w d u Q hE I r rd h;rw [ha];refine ba (ng (lC ho hE I h fun x H1 dx G1 ov s1 I1 m1 r1 kI q1=>?_));refine ba (ng (lC hi hE I1 q1 fun y H2 dy G2 iv s2 kD m2 r2 Dy q2=>?_));refine ba (ET (ba (ng ?_)));have WO:=m1.trans m2;have JC:=rd.mono (WO.kp I.ab);have Hm:=I.st.mono (WO.kp I.ab);have rx':=kI.mono (m2.kp I1.ab);unfold JB at q2;split at q2
 ·rename_i l;cases rx';cases r1;split at q2
  ·rename_i xs hg;obtain⟨vs,hv,rs⟩:=kD.ab.lst hg;split at q2
   ·rename_i k;cases Dy;split at q2
    ·rename_i j hj;have m3:Mv X.K H2 G2 (upd H2 l (.lst (vs.set j w))) (de G2 l (.lst (xs.set j d))):=.putL kD.ab hg hv (rs.set JC j);refine ix (set_list pins s2 σ H2 (.ref l) (.int k) w _ _ _ (fun H3=>H3=upd H2 l (.lst (vs.set j w))) kD.inv rfl r2 r ⟨l,vs,k,j,rfl,rfl,hv,?_,rfl⟩) ?_
     ·rw [rs.length]; exact hj
     ·rintro _ s3 ⟨H3,I3,e3⟩;subst e3;exact wpAny_release ⟨σ,_,τ,_,⟨I3,Hm.mono (m3.kp kD.ab),m3.ab⟩,WO.trans m3,q2⟩
    ·exact q2.elim
   ·exact q2.elim
  ·rename_i bC hg;obtain⟨hk,hz,q⟩:=q2;obtain⟨H3,H4,I3,dp,m3⟩:=Oo kD.inv kD.ab hg hk hz Dy JC;exact LA (by lia) I3 dp r2 r fun s4 I4=>wpAny_release ⟨σ,H4,τ,_,⟨I4,Hm.mono (m3.kp kD.ab),m3.ab⟩,WO.trans m3,q⟩
  ·exact q2.elim
 ·exact q2.elim
end
end K2
end
section
namespace L2
open PySem PySem.Spec PyProof.Rows
theorem uK{X:Cx}{pins:List (Addr×Obj)}{σ:St}{H:Hp}{s:aK}{l b:Addr}{xs:List V}(I:Inv X pins σ H s)(hq:sZ X.K H l xs)(hf:qF X pins H b):l≠b:=by
 rintro rfl;obtain⟨f0,f1,f2,f3,f4,f5⟩:=hf;rcases hq with (h | ⟨o,h⟩) | ⟨o,cy,n,h,_⟩
 ·rw [f0] at h; cases h
 ·rw [f0] at h; cases h
 ·have hb:=I.ok.mod.Ny _ _ h;rcases f3 with f3 | f3
  ·exact I.ok.HX _ _ hb f3
  ·exact absurd (bf (I.ok.bs _ _ hb).1) (Nat.not_lt.mpr f3)
noncomputable def Itz(K:ay)(a b:Addr):It :=
  ⟨fun i H=>∃ xs x ys y,sZ K H a xs/\xs[i]?=some x/\sZ K H b ys/\ys[i]?=some y,
   fun i H v H'=>∃ T x y,v=.ref T/\H T=none/\H'=upd H T (.tup [x,y])/\(∀ xs,sZ K H a xs->xs[i]?=some x)/\∀ ys,sZ K H b ys->ys[i]?=some y,
   fun i H=>∃ xs ys,sZ K H a xs/\sZ K H b ys/\(xs.length<=i\/ys.length<=i)⟩
structure Wm(z TI TO i1 i2 a b:Addr)(i:Nat)(h:Heap):Prop where
 hz:IsZip h z TI TO .none
 hI:IsPair h TI (.ref i1) (.ref i2)
 hO:∃ x y,IsPair h TO x y
 h1:h.IsListIter i1 a i
 h2:h.IsListIter i2 b i
theorem MH{P:bU}{w:World}{K:ay}{elts:List Expr}{kk:Nat}{pos:Pos}(a b z TI TO i1 i2:Addr)(nd:[z,TI,TO,i1,i2].Nodup) :
  Turn P w K (.Tuple elts kk pos) (Itz K a b) [z,TI,TO,i1,i2] z (Wm z TI TO i1 i2 a b) where
 mem:=by simp
 obj:=fun i h st c hc=>by
  simp only [cf,bI,or_false] at hc;rcases hc with rfl | rfl | rfl | rfl | rfl
  ·exact⟨_,st.hz,fun v q=>by cases q⟩
  ·exact⟨_,st.hI,fun v q=>by cases q⟩
  ·obtain⟨x,y,h⟩:=st.hO; exact⟨_,h,fun v q=>by cases q⟩
  ·obtain⟨o,e,_,d⟩:=st.h1; exact⟨o,e,fun v q=>by rw [d] at q; cases q⟩
  ·obtain⟨o,e,_,d⟩:=st.h2; exact⟨o,e,fun v q=>by rw [d] at q; cases q⟩
 keep:=fun i h h' st k=>⟨k _ (by simp) _ st.hz,k _ (by simp) _ st.hI,let ⟨x,y,q⟩:=st.hO; ⟨x,y,k _ (by simp) _ q⟩,st.h1.at fun o q=>k _ (by simp) o q,st.h2.at fun o q=>k _ (by simp) o q⟩
 item:=by
  intro X hP hw hK hc i pins s σ H E I hf st hg;subst hP hw hK;obtain⟨xs,x,ys,y,L7,hx,NQ,hy⟩:=hg;obtain⟨NB,TV,p1,hz1⟩:=I.list L7;obtain⟨tD,KP,p2,Y7⟩:=I.list NQ;obtain⟨u1,hu1,PM⟩:=TV.get hx;obtain⟨u2,hu2,MW⟩:=KP.get hy;obtain⟨xo,yo,hO⟩:=st.hO;have ap:∀ c∈[z,TI,TO,i1,i2],a≠c/\b≠c:=fun c hc=>⟨uK I L7 (hf c hc),uK I NQ (hf c hc)⟩;simp only [fZ,cf,bI,or_false,not_or] at nd;obtain⟨⟨n1,n2,n3,n4⟩,⟨n5,n6,n7⟩,⟨n8,n9⟩,YR,_⟩:=nd;have Dz:ZipApart z TI TO i1 i2 a b:=⟨dR n1,dR n2,dR n3,dR n4,n5,n6,n7,n8,n9,YR,(ap z (by simp)).1,(ap TO (by simp)).1,(ap i1 (by simp)).1,(ap i2 (by simp)).1,(ap z (by simp)).2,(ap TO (by simp)).2,(ap i1 (by simp)).2,(ap i2 (by simp)).2⟩;have hTn:H s.heap.objs.size=none:=I.eL.fresh (bp _);have inH:∀ c∈[z,TI,TO,i1,i2],c≠s.heap.objs.size:=fun c hc=>by
   simp only [cf,bI,or_false] at hc;rcases hc with rfl | rfl | rfl | rfl | rfl
   ·exact bS (bf st.hz)
   ·exact bS (bf st.hI)
   ·exact bS (bf hO)
   ·obtain⟨o,e,_⟩:=st.h1; exact bS (bf e)
   ·obtain⟨o,e,_⟩:=st.h2; exact bS (bf e)
  refine wpAny_pyNext_zip_item Dz st.hz st.hI hO st.h1 st.h2 p1.isList p2.isList (x:=u1) (y:=u2) (by simpa using hu1) (by simpa using hu2) fun h' a1 a2 a3 a4 a5 a6 a7=>?_;refine⟨_,rfl,?_⟩;have k1:∀ c o,c∉[z,TI,TO,i1,i2]->s.heap.get? c=some o->h'.get? c=some o:=fun c o hc q =>
   a7 c o (fun e=>hc (by simp [e])) (fun e=>hc (by simp [e])) (fun e=>hc (by simp [e])) (fun e=>hc (by simp [e])) q
  have I1:Inv X pins σ (upd H s.heap.objs.size (.tup [x,y])) { s with heap:=h' } :=
   I.Pz (t':=s.toks) (fp:=[z,TI,TO,i1,i2]) hf k1 (bp _) ⟨by show 2<=bG; decide,[u1,u2],.cons PM (.cons MW .nil),⟨_,a5,rfl,_,rfl⟩⟩
  refine wpAny_letOwnedTupleGo_zip (s:={ s with heap:=h' }) a1 fun h2 Y7 Io=>?_;have f1:∀ c∈[z,TI,TO,i1,i2],qF X pins (upd H s.heap.objs.size (.tup [x,y])) c:=fun c hc=>(hf c hc).upd (inH c hc);have I2:Inv X pins σ (upd H s.heap.objs.size (.tup [x,y])) { s with heap:=h2 } :=
   Inv.Jv (s:={ s with heap:=h' }) (t':=s.toks) (fp:=[z,TI,TO,i1,i2]) I1 f1 fun c o hc q=>(Io.2 c (fun e=>hc (by simp [e]))).trans q
  have hI':IsPair h' TI (.ref i1) (.ref i2):=a7 TI _ (dR n1) n5 n6 n7 st.hI;refine⟨.ref s.heap.objs.size,_,I2,rfl,⟨_,x,y,rfl,hTn,rfl,fun zs hs=>by rw [I.Ah hs L7]; exact hx,fun zs hs=>by rw [I.Ah hs NQ]; exact hy⟩,⟨Y7,?_,⟨u1,u2,?_⟩,?_,?_⟩,fun c hc=>(f1 c hc).1⟩
  ·exact(Io.2 TI (dR n1)).trans hI'
  ·exact(Io.2 TO (dR n2)).trans a2
  ·exact a3.at fun o q=>(Io.2 i1 (dR n3)).trans q
  ·exact a4.at fun o q=>(Io.2 i2 (dR n4)).trans q
 done:=by
  intro X hP hw hK hc i pins s σ H E I hf st hg;subst hP hw hK;obtain⟨xs,ys,L7,NQ,hx⟩:=hg;obtain⟨NB,TV,p1,hz1⟩:=I.list L7;obtain⟨tD,KP,p2,Y7⟩:=I.list NQ;have SY:=TV.length;have T6:=KP.length;obtain⟨xo,yo,hO⟩:=st.hO;have ap:∀ c∈[z,TI,TO,i1,i2],a≠c/\b≠c:=fun c hc=>⟨uK I L7 (hf c hc),uK I NQ (hf c hc)⟩;simp only [fZ,cf,bI,or_false,not_or] at nd;obtain⟨⟨n1,n2,n3,n4⟩,⟨n5,n6,n7⟩,⟨n8,n9⟩,YR,_⟩:=nd;have Dz:ZipApart z TI TO i1 i2 a b:=⟨dR n1,dR n2,dR n3,dR n4,n5,n6,n7,n8,n9,YR,(ap z (by simp)).1,(ap TO (by simp)).1,(ap i1 (by simp)).1,(ap i2 (by simp)).1,(ap z (by simp)).2,(ap TO (by simp)).2,(ap i1 (by simp)).2,(ap i2 (by simp)).2⟩;refine wpAny_pyNext_zip_end (I.ok.hd hc) Dz st.hz st.hI hO st.h1 st.h2 p1.isList p2.isList (by
   rcases hx with hx | hx
   ·left; simp; lia
   ·right; simp; lia) fun h' k1=>⟨rfl,?_⟩
  exact I.Jv (t':=s.toks) (fp:=[z,TI,TO,i1,i2]) hf fun c o hc q=>k1 c o (fun e=>hc (by simp [e])) (fun e=>hc (by simp [e])) (fun e=>hc (by simp [e])) (fun e=>hc (by simp [e])) q
 self:=fun A i s Q E st h=>wpAny_pyIter_zip st.hz h
end L2
namespace K2
open PySem PySem.Spec PyProof.Rows L2
section
variable {X:Cx} {elts:List Expr} {kk:Nat} {UM:Pos} {a b:Expr} {ta tb:iu} {pos p:Pos}
theorem FV{pins:List (Addr×Obj)}{s:aK}{σ:L2.St}{H:Hp}{G:Gp}{x:V}{d:D}{v:Value}{ds:List D}{ok:Gp->Prop}(I:Inv X pins σ H s)(ab:lA X.K H G)(rx:RelV x v)(rd:cZ X.K H x d)(hi:Aa d G=some (ds,ok)) :
  ∃ l vs,v=.ref l/\sZ X.K H l vs/\bx X.K H vs ds/\∀ H2 G2,Kp H H2->lA X.K H2 G2->ok G2->∃ ws,sZ X.K H2 l ws/\bx X.K H2 ws ds:=by
 cases rd with
 | fU hq rs=>cases hi; cases rx; exact⟨_,_,rfl,hq.sq,rs,fun H2 G2 k ab _=>⟨_,(k.TU hq).sq,rs.mono k⟩⟩
 | ref l =>
  unfold Aa at hi;dsimp only at hi;cases hg:G l with
  | none=>rw [hg] at hi; cases hi
  | some gg =>
   rw [hg] at hi;cases gg with
   | lst zs =>
    cases hi;cases rx;obtain⟨vs,hv,rs⟩:=ab.lst hg;refine⟨_,_,rfl,.of hv,rs,fun H2 G2 k ab o=>?_⟩;obtain⟨ws,hw,sJ⟩:=ab.lst o;exact⟨ws,.of hw,sJ⟩
   | ins _ _=>cases hi
   | ka _=>cases hi
 | _=>cases hi
theorem PY (hg:Gl X "zip") (hm:X.mg "zip" = none) (ha:iL X a ta) (hb:iL X b tb) (hs:autoParam (bO [a,b] X.env=[(false,eval a X.env),(false,eval b X.env)]) Ar._auto_1) (Io:autoParam (bO [b] X.env=[(false,eval b X.env)]) Ar._auto_1) :
  QL X (.Tuple elts kk UM) (.Call (.Name "zip" p) [a,b] [] pos) (SE ta tb):=by
 intro E pins s σ H τ G R hE I h;have hA:B5 X [a,b] (aj ta (aj tb aM)):=af ha (af hb aA Io) (by rw [hs,Io]);refine Call_ (ud I.inv hg hm Tx (jg (uI hA pos hE I (R:=Yj fun x y G1=>AB x y G1 R) h fun vs H1 ds G1 us s1 I1 m1 r1 kI q1=>?_) (by rw [hs,Io]) (by rw [Io]; rfl)))
 match ds,q1 with
 | [x,y],q1 =>
  change AB x y G1 R at q1;obtain⟨w1,w2,rfl,EN,qT⟩:=kI.two;obtain⟨u1,u2,rfl,PM,MW⟩:=vals2 r1;unfold AB at q1;split at q1
  ·rename_i xs k1 ys k2 e1 e2;obtain⟨l1,v1,rfl,L7,rs1,XW⟩:=FV I1.inv I1.ab PM EN e1;obtain⟨l2,v2,rfl,NQ,QR,O6⟩:=FV I1.inv I1.ab MW qT e2;obtain⟨NB,TV,pl1,_⟩:=I1.inv.list L7;obtain⟨tD,KP,pl2,_⟩:=I1.inv.list NQ;refine call_zip_2 pl1.isList pl2.isList fun h' z1 z2 z3 z4 z5 z6 z7=>?_;refine wpAny_pyIter_zip z1 ?_;refine⟨_,[s1.heap.objs.size+4,s1.heap.objs.size+2,s1.heap.objs.size+3,s1.heap.objs.size,s1.heap.objs.size+1],_,_,H1,G1,tu xs ys,_,rfl,I1.inv.kept (t':=s1.toks) z7,m1,
    MH l1 l2 _ _ _ _ _ (by simp),⟨z1,z2,⟨_,_,z3⟩,z4,z5⟩,fun c hc=>?_,fun i H2 G2 k ab o=>?_,q1⟩
   ·have L8:s1.heap.objs.size<=c:=by
     simp only [cf,bI,or_false] at hc;rcases hc with rfl | rfl | rfl | rfl | rfl
     ·exact ux _ _
     ·exact ux _ _
     ·exact ux _ _
     ·exact bp _
     ·exact ux _ _
    exact I1.inv.Od L8 (I1.inv.eL.fresh L8)
   ·obtain⟨XO,Zc,kI⟩:=XW H2 G2 k ab o.1;obtain⟨XM,WR,Dy⟩:=O6 H2 G2 k ab o.2;refine⟨fun d hd=>?_,fun hl=>⟨XO,XM,Zc,WR,?_⟩⟩
    ·rw [E7] at hd;cases hx:xs[i]? with
     | none=>rw [hx] at hd; cases hd
     | some x' =>
      cases hy:ys[i]? with
      | none=>rw [hx,hy] at hd; cases hd
      | some y' =>
       rw [hx,hy] at hd;have ed:D.tup [x',y']=d:=by simpa using hd
       subst ed;obtain⟨vx,hvx,rx⟩:=kI.get hx;obtain⟨vy,hvy,ry⟩:=Dy.get hy;refine⟨⟨XO,vx,XM,vy,Zc,hvx,WR,hvy⟩,?_⟩;rintro v H3 ⟨T,px,py,ex,hT,e3,hx3,hy3⟩;subst ex e3;have q1:=hx3 XO Zc;have q2:=hy3 XM WR;rw [hvx] at q1;rw [hvy] at q2;cases q1; cases q2;exact⟨.tup dF (.cons (rx.mono (.new hT)) (.cons (ry.mono (.new hT)) .nil)),.S1 ab hT⟩
    ·rw [E6] at hl;rw [kI.length,Dy.length];lia
  ·exact q1.elim
 | [],q1=>exact q1.elim
 | [_],q1=>exact q1.elim
 | _ :: _ :: _ :: _,q1=>exact q1.elim
end
end K2
end
section
namespace K2
open PySem PySem.Spec PyProof.Rows L2 PySem.W
mutual
theorem Ft{h h':Heap}(hk:∀ b o vs n,o.data=.seq vs n->h.get? b=some o->h'.get? b=some o):∀ (d:D) {v:Value} {as:List Addr},nr d=true->Reads h v (pd d) as->Reads h' v (pd d) as
 | .j9,_,_,_,r=>by cases r; exact .none
 | .bl b,_,_,_,r=>by cases r; exact .bool b
 | .int i,_,_,_,r=>by cases r; exact .int i _
 | .str x,_,_,_,r=>by cases r; exact .str x _
 | .tup ds,_,_,n,r=>by
  cases r with
  | tuple h1 h2 h3 h4=>exact .tuple (hk _ _ _ _ h3 h1) h2 h3 (ny hk ds n h4)
 | .fU ds,_,_,n,r=>by
  cases r with
  | list h1 h2 h3 h4=>exact .list (hk _ _ _ _ h3 h1) h2 h3 (ny hk ds n h4)
 | .sM _,_,_,n,_=>by cases n
 | .ref _,_,_,n,_=>by cases n
 | .exc _,_,_,n,_=>by cases n
theorem ny{h h':Heap}(hk:∀ b o vs n,o.data=.seq vs n->h.get? b=some o->h'.get? b=some o):∀ (ds:List D) {vs:List Value} {as:List Addr},DO ds=true->qR h vs (wx ds) as->qR h' vs (wx ds) as
 | [],_,_,_,r=>by cases r; exact .nil
 | d :: ds,_,_,n,r=>by
  have n:(nr d&&DO ds)=true:=n;rw [bj] at n;cases r with
  | cons r1 r2=>exact .cons (Ft hk d n.1 r1) (ny hk ds n.2 r2)
end
mutual
theorem MR(G:Gp):∀ (sh:wA) (d:D) (n:Nat),ik sh d=true->Uc sh<=n->Sn G n d d
 | .int,.int i,n,_,_=>.int i
 | .tup l,.tup ds,n,h,hn=>by
  have hn:Oj l+1<=n:=hn;obtain⟨m,rfl⟩:∃ m,n=m+1:=⟨n - 1,by lia⟩;exact Jy G l ds m h (by lia)
 | .lst s,.fU ds,n,h,hn=>by
  have hn:Uc s+1<=n:=hn;obtain⟨m,rfl⟩:∃ m,n=m+1:=⟨n - 1,by lia⟩;exact Jz G s ds m h (by lia)
theorem Jy(G:Gp):∀ (l:List wA) (ds:List D) (m:Nat),jI l ds=true->Oj l<=m->Sn G (m+1) (.tup ds) (.tup ds)
 | [],[],m,_,_=>.Fd
 | s :: l,d :: ds,m,h,hm=>by
  have h:(ik s d&&jI l ds)=true:=h;have hm:max (Uc s) (Oj l)<=m:=hm;rw [bj] at h;exact .qG (MR G s d m h.1 (by lia)) (Jy G l ds m h.2 (by lia))
theorem Jz(G:Gp):∀ (s:wA) (ds:List D) (m:Nat),jc s ds=true->Uc s<=m->Sn G (m+1) (.fU ds) (.fU ds)
 | s,[],m,_,_=>.MZ
 | s,d :: ds,m,h,hm=>by
  have h:(ik s d&&jc s ds)=true:=h;rw [bj] at h;exact .Fu (MR G s d m h.1 hm) (Jz G s ds m h.2 hm)
end
section
variable {X:Cx}
theorem La{x:D}{G:Gp}{zs:List D}(ty:uA x G)(hi:itemsOf x G=some zs):rQ x G=some zs:=by
 cases x <;> first | exact ty.elim | exact hi
end
end K2
end
section
namespace K2
open PySem PySem.Spec PyProof.Rows L2
section
variable {K:ay} {h:Heap} {C:Addr} {Ko:List Value} {newId:String}
theorem Tg{P:Prop}{m:List Value}{sl:List (Option Value)}{f:Addr->List Value->Option Value->Option Value->Option Value->Option Value->String->Option Value->Bool}
  (q:PySem.W.excIn.match_1 (fun _ _=>Bool) m sl f (fun _ _=>false)=true)
  (k:∀ C' bm k0 k1 k2 k3 n k5,m=.ref C' :: bm->sl=[k0,k1,k2,k3,some (.builtin n),k5]->f C' bm k0 k1 k2 k3 n k5=true->P):P:=by
 have no:false=true->P:=fun z=>bT z;cases m with
 | nil=>exact no q
 | cons v bm =>
  cases v with
  | ref C' =>
   obtain _ | ⟨k0,_ | ⟨k1,_ | ⟨k2,_ | ⟨k3,_ | ⟨_ | w,sl⟩⟩⟩⟩⟩:=sl
   iterate 6 exact no q
   cases w with
   | builtin n =>
    obtain _ | ⟨k5,_ | _⟩:=sl
    ·exact no q
    ·exact k C' bm k0 k1 k2 k3 n k5 rfl rfl q
    ·exact no q
   | _=>exact no q
  | _=>exact no q
inductive OR (h:Heap) (C:Addr) (Ko:List Value) (newId:String):Prop
 | mk (bm N nm qn bs hdct sn sub ab col dd k0 k1 k2 k3 k5 mN) (o:h.get? C=some (Mh nm qn C N bs bm hdct sn sub ab col dd k0 k1 k2 k3 k5 newId)) (n:h.Ns N mN) (i:mN "__init__" = none) (t:OwnTail h Ko bm):OR h C Ko newId
theorem El(Y:K.In h)(q:i8 K C Ko newId=true):OR h C Ko newId:=by
 unfold i8 at q;split at q
 case h_2=>cases q
 rename_i dd cd sl ho;refine Tg q fun C' bm k0 k1 k2 k3 n k5 hm hs q=>?_;obtain⟨nm,bs,mro,ns,qn,hd,sn,sub,ab,col,del⟩:=cd;obtain⟨sl⟩:=sl;subst hm hs;have q:(C' == C&&n == newId&&!del&&PySem.W.tailIn K Ko bm&&PySem.W.nsOkIn K ns&&cI K ns "__init__" == some none)=true:=q;simp only [bj,beq_iff_eq,Cm] at q;obtain⟨⟨⟨⟨⟨e1,e2⟩,e3⟩,e4⟩,e5⟩,e6⟩:=q;subst e1 e2 e3;exact⟨bm,_,_,_,_,_,_,_,_,_,dd,k0,k1,k2,k3,k5,_,Y _ _ ho,.of_isNs (PySem.W.isNs_of_in Y e5),PySem.W.nsMap_none_of_in Y e5 e6,PySem.W.tail_of_in Y e4⟩
end
section
variable {X:Cx} {x:Str} {C:Addr} {Ko:List Value} {B newId NI:String} {e0:Expr} {es:List Expr} {np qX pos:Pos} {t:xr}
theorem HQ(g:Gp->Gp)(hgg:∀ H G,lA X.K H G->lA X.K H (g G))(hg:Gl X x)(hm:X.mg x=some (.ref C))(q:i8 X.K C Ko newId=true)(FB:ExcBaseFacts B newId NI Ko)(hc:X.calm=true)(ha:B5 X (e0 :: es) t)
  (Gb:autoParam ((x == ("__debug__" : Str))=false) Ad._auto_1) (he:autoParam (bO (e0 :: es) X.env=(false,eval e0 X.env) :: bO es X.env) Ar._auto_1) (mZ:autoParam ((kM qX (bO es X.env)).any (·.1)=false) Ar._auto_1) :
  EF X (.Raise (some (.Call (.Name x np) (e0 :: es) [] qX)) none pos) (fun E _ τ G=>t E τ G fun ds G1=>ds.length<=SZ/\E ⟨x,[]⟩ (g G1)):=by
 intro E pins s σ H τ G D hE I h;obtain⟨tl,N,nm,qn,bs,hdct,sn,sub,ab,col,dd,k0,k1,k2,k3,k5,mN,hC,hN,hni,T⟩:=El I.inv.ok.mod.Ny q;refine wpAny_Raise_call_subT (C:=C) (nm:=nm) (q:=qn) (N:=N) (bs:=bs) (bm:=tl) (hdct:=hdct) (sn:=sn) (sub:=sub) (ab:=ab) (col:=col) (dd:=dd) (k0:=k0) (k1:=k1) (k2:=k2) (k3:=k3) (k5:=k5)
  FB (mN:=mN) (T.hasType FB.hasBase) (I.inv.ok.hd hc) (by rw [he]; show (false||(kM qX (bO es X.env)).any (·.1))=false; rw [mZ]; rfl) hni (vp I.inv hg hm ⟨rfl,?_⟩ Gb)
 have w:=uI (Q:=fun us s2=>us.length<=bG/\(∀ b o,X.base.get? b=some o->s2.heap.get? b=some o)/\∀ h' e,Heap.MadeExcOf s2.heap h' e (.ref C) us->X.xe (.ref e) { s2 with heap:=h' }) ha qX hE I h
  fun vs H1 ds G1 us s1 I1 m1 r rd z=>⟨by rw [<-r.length,rd.length,dw]; exact z.1,I1.inv.bk,fun h' e hx=>hE.made pins σ H1 s1 h' e C us ⟨x,[]⟩ _ I1.inv (hgg _ _ I1.ab) hx hm z.2⟩
 rw [he] at w ⊢;exact O2 (lb w (fun us s2 h2=>⟨rfl,h2.1,h2.2.1 _ _ hC,hN.keeps h2.2.1,T.keeps h2.2.1,h2.2.2⟩) fun _ _ y=>y)
theorem HP(hg:Gl X x)(hm:X.mg x=some (.ref C))(q:i8 X.K C Ko newId=true)(FB:ExcBaseFacts B newId NI Ko)(hc:X.calm=true)(ha:B5 X (e0 :: es) t)
  (Gb:autoParam ((x == ("__debug__" : Str))=false) Ad._auto_1) (he:autoParam (bO (e0 :: es) X.env=(false,eval e0 X.env) :: bO es X.env) Ar._auto_1) (mZ:autoParam ((kM qX (bO es X.env)).any (·.1)=false) Ar._auto_1) :
  EF X (.Raise (some (.Call (.Name x np) (e0 :: es) [] qX)) none pos) (Er x t):=HQ id (fun _ _ z=>z) hg hm q FB hc ha Gb he mZ
end
end K2
end
section
namespace K2
open PySem PySem.Spec PyProof.Rows L2
theorem _root_.Internal.L2.gE.there{P:bU}{w:World}{H:Hp}{h:Heap}{a:Addr}{o:HO}(x:gE P w H h a o):∃ ob,h.get? a=some ob:=by
 cases o with
 | lst xs=>obtain⟨_,_,_,_,e⟩:=x; exact⟨_,e⟩
 | tup xs=>obtain⟨_,_,_,ob,e,_⟩:=x; exact⟨_,e⟩
 | dK bC=>obtain⟨_,_,_,_,o,_,_,e,_⟩:=x; exact⟨_,e⟩
 | dT bC=>obtain⟨_,_,_,_,o,_,_,e,_⟩:=x; exact⟨_,e⟩
 | set S n=>obtain⟨o,_,_,_,e,_⟩:=x; exact⟨_,e⟩
 | ins C dx fs=>obtain⟨_,_,_,e,_⟩:=x; exact⟨_,e⟩
 | own y=>exact x
 | xd fs=>obtain⟨_,⟨_,_,_,e,_⟩,_⟩:=x; exact⟨_,e⟩
 | UY lo hi=>obtain⟨_,_,_,e⟩:=x; exact⟨_,e⟩
 | pO ob u=>obtain⟨e,_⟩:=x; exact⟨_,e⟩
 | PC ps=>obtain⟨_,e,_⟩:=x; exact⟨_,e⟩
 | met f y=>exact⟨_,x⟩
 | ext φ=>obtain⟨_,e,_⟩:=x; exact e
theorem HV{X:Cx}{pins:List (Addr×Obj)}{σ:L2.St}{H1:Hp}{s1:aK}{h1 h' B:Heap}(I:Inv X pins σ H1 s1)(yu:X.stack=X.env :: X.outer)(Pd:X.env.frame=some X.env.locals)(hex:X.ex=[])
  (Vv:∀ b o,s1.heap.get? b=some o->h1.get? b=some o) (hB:∀ b o,s1.heap.get? b=some o->b∉tF X.stack->(X.kj.heap.get? b≠none\/H1 b≠none)->B.get? b=some o) (kG:B.StaysIn h') (up:h1.UpToSlots h') :
  Un (tF X.outer) [] X.LQ H1 X.kj.heap h'/\pV X.prog X.w H1 h'/\∀ b o,h'.get? b=some o->b∉tF X.outer->(X.kj.heap.get? b≠none\/H1 b≠none)->B.get? b=some o:=by
 have efr:tF X.stack=X.env.locals :: tF X.outer:=by rw [yu]; unfold tF; rw [Ky Pd]
 have Nm:∀ b,b∉tF X.outer->b≠X.env.locals->b∉tF X.stack:=fun b h1 h2 h3=>by
  rw [efr] at h3;rcases List.mem_cons.mp h3 with e | e
  ·exact h2 e
  ·exact h1 e
 have old:∀ b o,X.kj.heap.get? b=some o->b≠X.env.locals:=fun b o q=>bS (bR (bf q) I.ok.above);have tr:∀ b u,H1 b=some u->b∉tF X.stack:=fun b u q hb=>by rw [I.Dk b hb] at q; cases q
 have nx:∀ b:Addr,b∉X.ex:=fun b=>by rw [hex]; exact bI
 have frame:∀ b o,b∈tF X.outer->s1.heap.get? b=some o->∃ sl,h'.get? b=some { o with slots:=sl }:=fun b o hb e=>by
  obtain⟨_,o2,e2,nf⟩:=I.stack.mem (show b∈tF X.stack by rw [efr]; exact .tail _ hb);rw [e] at e2; cases e2;exact up b o (Vv b o e) nf
 have go:∀ b o,s1.heap.get? b=some o->b∉tF X.stack->(X.kj.heap.get? b≠none\/H1 b≠none)->h'.get? b=some o:=fun b o e n c=>kG b o (hB b o e n c);refine⟨⟨fun b o q n hb _=>?_,fun b o q n hb _=>?_,fun b o q n _=>I.base.free b o q n (nx b),fun b o q _=>?_,I.base.wH,I.base.vC,I.base.zl,I.base.yr⟩,fun a o q=>?_,fun b o e hb hc=>?_⟩
 ·exact go b o (I.base.keep b o q n hb (nx b)) (Nm b hb (old b o q)) (.inl (by rw [q]; simp))
 ·obtain⟨sl,e⟩:=I.base.slot b o q n hb (nx b);obtain⟨PI,e2⟩:=frame b _ hb e;exact⟨PI,e2⟩
 ·obtain⟨o',e⟩:=I.base.there b o q (nx b);by_cases hb:b∈tF X.outer
  ·obtain⟨PI,e2⟩:=frame b _ hb e; exact⟨_,e2⟩
  ·exact⟨o',go b o' e (Nm b hb (old b o q)) (.inl (by rw [q]; simp))⟩
 ·refine(I.eL a o q).kG (fun b u hb e=>?_) (fun b r=>r) (fun b xs r=>r);rcases hb with rfl | hb
  ·exact go b u e (tr b _ q) (.inr (by rw [q]; simp))
  ·exact go b u e (tr b _ hb) (.inr (by rw [hb]; simp))
 ·have n:b∉tF X.stack:=by
   rcases hc with hc | hc
   ·cases q:X.kj.heap.get? b with
    | none=>exact absurd q hc
    | some o0=>exact Nm b hb (old b o0 q)
   ·cases q:H1 b with
    | none=>exact absurd q hc
    | some u=>exact tr b u q
  have:∃ o1,s1.heap.get? b=some o1:=by
   rcases hc with hc | hc
   ·cases q:X.kj.heap.get? b with
    | none=>exact absurd q hc
    | some o0=>exact I.base.there b o0 q (nx b)
   ·cases q:H1 b with
    | none=>exact absurd q hc
    | some u=>exact(I.eL b u q).there
  obtain⟨o1,e1⟩:=this;have e2:=go b o1 e1 n hc;rw [e] at e2; cases e2;exact hB b o e1 n hc
section
variable {P:bU} {w:World} {K:ay} {mg:Str->Option Value} {base:Heap} {N:List Str} {qual:Str} {scope:Scope} {f:Addr} {cd:Value} {A:fJ} {outer:List Env} {s:aK} {H:Hp} {Ek:XK} {E2:lq}
theorem Vs(ke:∀ ex C H' G',E2 ex G'->lA K H' G'->mg ex.cls=some (.ref C)->Ek (.ref C) none H'):Lk (xp (Ce P w) P w K mg base N qual scope f cd A outer s H Ek) E2 where
 made:=fun pins σ H1 s1 h1 a C args ex G1 I Qq hx hm hE=>by
  show wpAny (model P w) _ (leaving _ (.ref a)) _ _ _;refine wpAny_leaves_madeW (h:=s1.heap) (base:=PySem.W.hideAll s1.heap (tF (xp (Ce P w) P w K mg base N qual scope f cd A outer s H Ek).stack)) I.ok.frames rfl (fun b o q=>OX _ q)
   (PySem.W.funFrames_hide I.stack fun env he b hb=>List.mem_filterMap.mpr ⟨env,he,hb⟩) hx fun h' t fl tup tn up=>?_
  obtain⟨un,eL,hB⟩:=HV I rfl rfl rfl hx.keeps (fun b o e n _=>Mm _ e n) fl.1 up;refine⟨a,C,t,_,H1,rfl,I.os,I.bare,un,eL,hB,fl,?_,?_,ke ex C H1 G1 hE Qq hm⟩
  ·cases q:H1 a with
   | none=>rfl
   | some u =>
    obtain⟨o,e⟩:=(I.eL a u q).there;have:=hx.new;rw [e] at this; cases this
  ·cases q:s.heap.get? a with
   | none=>rfl
   | some o =>
    obtain⟨o',e⟩:=I.base.there a o q bI;have:=hx.new;rw [e] at this; cases this
 pass:=fun pins σ H1 s1 s' e I Qm=>by
  obtain⟨a,C,t,B,H',e1,os,bare,un,eL,hB,fl,ha,hs,ex,C',G2,e2,hm,Qq,hE⟩:=Qm;subst e1; cases e2;show wpAny (model P w) _ (leaving _ (.ref a)) _ _ _;have I':Inv (xp (Ce P w) P w K mg base N qual scope f cd A outer s H Ek) pins σ H' s':=by
   obtain⟨hh,g,d,t,Yg⟩:=s';obtain rfl:Yg=s1.os:=os;exact I.call (h':=hh) (g':=g) (d':=d) (t':=t) (ch:=[]) un eL bare (fun b z=>absurd z (by simp))
  refine wpAny_leaves_onW I.ok.frames rfl fl fun h' fl' up=>?_;obtain⟨UJ,Iq,hB'⟩:=HV I' rfl rfl rfl (fun _ _ e=>e) (fun b o e n c=>hB b o e n (c.imp (fun z=>by
   cases q:s.heap.get? b with
   | none=>exact absurd q z
   | some o0=>obtain⟨o1,e1⟩:=I.base.there b o0 q bI; rw [e1]; simp) id)) fl'.1 up
  refine⟨a,C,t,B,H',rfl,I'.os,I'.bare,UJ,Iq,hB',fl',ha,?_,ke ex C H' G2 hE Qq hm⟩;cases q:s.heap.get? a with
  | none=>rfl
  | some o=>obtain⟨o1,e1⟩:=I.base.there a o q bI; rw [e1] at hs; cases hs
end
noncomputable def mI(K:ay)(mg:Str->Option Value)(sp:iw):Sp:=fun vs H Q E=>∃ ds G Q2 E2,bx K H vs ds/\lA K H G/\sp ds G Q2 E2/\(∀ d G' v H',Q2 d G'->Mv K H G H' G'->cZ K H' v d->Q v H') /\
 ∀ (ex:Ex) (C:Addr) (H':Hp) (G':Gp),E2 ex G'->lA K H' G'->mg ex.cls=some (.ref C)->E (.ref C) none H'
theorem Qw{P:bU}{w:World}{K:ay}{mg:Str->Option Value}{base:Heap}{x qual:Str}{st:Stmt}{f:Addr}{fd:aE}{Nn ps:List Str}{k:Nat}{sp:iw}{rd:fN}(F:kE K x qual st f fd)(S:bL Nn ps (aR st))(len:∀ ds G Q E,sp ds G Q E->ds.length=ps.length)
  (hr:∀ ds G Q E,sp ds G Q E->rd E (ends Q) (aZ Nn.length ds) G)
  (hb:∀ (mq:Value) (A:fJ) (outer:List Env) (s:aK) (H:Hp) (E:XK),jf k (A.deeper (ze qual (aR st) s.heap.objs.size f mq))->uq (xp (Ce P w) P w K mg base Nn qual (aR st) f mq A outer s H E) (gZ st) rd):dN P w K mg base (Ce P w) (k+1) f fd ps (mI K mg sp):=by
 obtain⟨oc,od,kV,doc,pm,an,mq,ct,JN,rfl,lk,Hn⟩:=F.ex;refine Rg lk Hn S ((by rintro vs H Q E ⟨ds,G,Q2,E2,r,ab,q,_⟩; exact by rw [r.length]; exact len _ _ _ _ q)) ?_;rintro A outer s H vs Q E NP ⟨ds,G,Q2,E2,r,ab,q,kk,ke⟩;refine⟨_,M9 (hb mq A outer s H E NP) (Vs ke),?_⟩;exact⟨aZ Nn.length ds,G,ends Q2,Fg r,ab,hr ds G Q2 E2 q,fun jU H' lp G' mv z=>kk _ _ _ _ z mv .j9,fun v H' d G' mv X2 z=>kk _ _ _ _ z mv X2,fun _ _ z=>z,fun _ _ z=>z⟩
end K2
end
section
namespace K2
open PySem PySem.Spec PyProof.Rows L2
noncomputable def O8:HO->Bool
 | .tup _=>true
 | .pO _ (.lst _)=>true
 | .pO _ (.dK _)=>true
 | .pO _ (.dT _)=>true
 | .pO _ (.ext _)=>true
 | _=>false
noncomputable def hr(H:Hp):Hp:=fun b=>(H b).bind fun o=>if O8 o=true then some o else none
noncomputable def hj(H1 H':Hp):Hp:=fun b=>match H1 b with
 | some o=>some o
 | none=>H' b
section
variable {P:bU} {w:World} {K:ay} {H H1 H':Hp} {h h':Heap} {b:Addr} {o:HO} {fs:List Addr}
theorem lP(q:hr H b=some o):H b=some o/\O8 o=true:=by
 unfold hr at q;cases e:H b with
 | none=>rw [e] at q; cases q
 | some u =>
  rw [e] at q;simp only [tj] at q;by_cases k:O8 u=true
  ·rw [if_pos k] at q; cases q; exact⟨rfl,k⟩
  ·rw [if_neg k] at q; cases q
theorem AD(q:H b=some o)(k:O8 o=true):hr H b=some o:=by unfold hr; rw [q,tj,if_pos k]
theorem yX(q:H b=none):hr H b=none:=by unfold hr; rw [q]; rfl
theorem VB(q:H b=some o)(k:O8 o=false):hr H b=none:=by unfold hr; rw [q,tj,if_neg (by rw [k]; exact iG)]
theorem NS(x:pV P w H h):pV P w (hr H) h:=fun a o q=>by
 obtain⟨e,k⟩:=lP q;have y:=x a o e;cases o with
 | tup xs=>exact y
 | pO ob u =>
  cases u with
  | lst _=>exact y
  | dK _=>exact y
  | ext _=>exact y
  | dT bC =>
   obtain⟨e1,z,n,xs,r,rest⟩:=y;exact⟨e1,z,n,xs,L2.Paired.Sl r (fun p q z=>⟨z.1,AD z.2.1 rfl,z.2.2⟩),rest⟩
  | _=>exact bT (show false=true from k)
 | _=>exact bT (show false=true from k)
theorem VH(q:H1 b=some o):hj H1 H' b=some o:=by unfold hj; rw [q]
theorem AE(q:H1 b=none):hj H1 H' b=H' b:=by unfold hj; rw [q]
end
theorem cZ.hr{K:ay}{H:Hp}{v:V}{d:D}(h:cZ K H v d):cZ K (K2.hr H) v d :=
 cZ.rec (motive_1:=fun v d _=>cZ K (K2.hr H) v d) (motive_2:=fun v d _=>bx K (K2.hr H) v d) (motive_3:=fun v d _=>q5 K (K2.hr H) v d) (motive_4:=fun v d _=>rh K (K2.hr H) v d)
  .j9 .bl .int .str (fun h _ r=>.tup (AD h rfl) r) (fun h _ r=>.fU (h.imp (fun q=>q.elim fun o q=>⟨o,AD q rfl⟩) id) r) (fun h _ r=>.t9 (AD h rfl) r) (fun h _ r=>.t8 (AD h rfl) r) .ref (fun h=>.exc (by obtain⟨o,C,h1,h2,h3⟩:=h; exact⟨o,C,AD h1 rfl,h2,h3⟩)) .nil (fun _ _ a b=>.cons a b) .nil (fun _ _ a b=>.cons a b) .nil (fun _ _ a b=>.cons a b) h
theorem bx.hr{K:ay}{H:Hp}{v:List V}{d:List D}(h:bx K H v d):bx K (K2.hr H) v d :=
 bx.FX (P:=fun v d=>bx K (K2.hr H) v d) .nil (fun r _ ih=>.cons r.hr ih) h
end K2
end
section
namespace K2
open PySem PySem.Spec PyProof.Rows L2
section
variable {M:Model} {A:fJ} {E:Value->aK->Prop}
variable {nm q nm' q':Str} {C N D N':Addr} {bs bm bs' Xe:List Value} {hdct Ra:Bool} {sn WB:List Str} {sub UQ:List Value} {ab OM:Bool} {col Wh:Option Bool} {dd Tr:Option Addr} {k0 k1 k2 k3 k5 k0' k1' k2' k3' k5':Option Value} {newId Sg:String}
theorem K9{h:Heap}{g:Array GenState}{d:Drawn}{t:Nat}{os:kd}{e:Addr}{oe:Obj}{Q:Bool->aK->Prop}
  (hC:h.get? C=some (Mh nm q C N bs bm hdct sn sub ab col dd k0 k1 k2 k3 k5 newId)) (hD:h.get? D=some (Mh nm' q' D N' bs' Xe Ra WB UQ OM Wh Tr k0' k1' k2' k3' k5' Sg))
  (he:h.get? e=some oe) (S2:oe.cls=.ref C) (NZ:Xe.contains (.type "BaseException")=true)
  (hq:Q ((gw C :: bm).contains (.ref D)) ⟨h,g,d,t,os⟩):wpAny M A (excMatches (.ref e) (.ref D)) Q E ⟨h,g,d,t,os⟩:=by
 have hcB:(gw D :: Xe).contains (.type "BaseException")=true:=by rw [List.contains_cons,NZ,Bool.or_true]
 have f:=tc_notTuple;generalize hb:(gw C :: bm).contains (.ref D)=r at hq;unfold excMatches
 repeat (first | (with_reducible refine wpAny_loadPart_at he ?_; rw [S2]) | with_reducible refine wpAny_loadPart_at hD ?_ | (with_reducible refine wpAny_isSubtype_exc hD ?_; rw [hcB]) | (with_reducible refine wpAny_isSubtype_exc hC ?_; rw [hb]) | wp_step)
 cases r
 ·wp_walk; exact hq
 ·wp_walk; exact hq
end
end K2
end
section
namespace K2
open PySem PySem.Spec PyProof.Rows L2
section
variable {X:Cx} {pins:List (Addr×Obj)} {σ:L2.St} {H H1:Hp} {s s1:aK} {h6 B:Heap} {a:Addr} {o:Obj} {u:HO}
theorem Km{h h':Heap}{c:Addr}{v:Option Value}(up:h.UpToSlots h')(z:h.IsCell c v):h'.IsCell c v:=by
 obtain⟨o,ho,hd⟩:=z;obtain⟨sl,e⟩:=up c o ho (fun vs q=>by rw [hd] at q; cases q);exact⟨_,e,hd⟩
theorem Nc(I:Inv X pins σ H s)(yu:X.stack=X.env :: X.outer)(Pd:X.env.frame=some X.env.locals){p:Addr×Obj}(hp:p∈X.pn++pins):p.1∉tF X.stack:=fun z=>by
 obtain⟨_,_,h3,h4,_⟩:=I.pin p hp;rw [yu] at z; unfold tF at z; rw [Ky Pd] at z;rcases List.mem_cons.mp z with e | e
 ·exact h3 e
 ·exact h4 e
theorem C6(I : Inv X pins σ H s)(I1 : Inv X pins σ H1 s1)(yu : X.stack = X.env :: X.outer)(Pd : X.env.frame = some X.env.locals)(hex : X.ex = [])
    (hB : ∀ b o, s.heap.get? b = some o -> b ∉ tF X.stack -> (s1.heap.get? b ≠ none ∨ H b ≠ none) -> B.get? b = some o) (kG : B.StaysIn h6) (up : s.heap.UpToSlots h6) (tk : Nat) : Inv X pins σ H { s with heap := h6, toks := tk } := by
  have z := HV I yu Pd hex (fun _ _ e => e) (fun b o e n c => hB b o e n (c.imp (fun c => by
    cases q : X.kj.heap.get? b with
    | none => exact absurd q c
    | some o0 => obtain⟨o1, e1⟩ := I1.base.there b o0 q (by rw [hex]; exact bI); rw [e1]; simp) id)) kG up
  exact { ok := I.ok, os := I.os, bare := I.bare
          base := by rw [hex]; exact z.1
          loc := by
            obtain⟨m, hn, hl⟩ := I.loc;exact⟨m, up.ns hn, fun i x v e1 e2 e3 => let ⟨u, r, q⟩ := hl i x v e1 e2 e3; ⟨u, r, q.imp id fun ⟨k, c, e, y⟩ => ⟨k, c, e, Km up y⟩⟩⟩
          cell := fun x c e => let ⟨v, y⟩ := I.cell x c e; ⟨v, Km up y⟩
          free := I.free, mJ := I.mJ
          pin := fun p hp => by
            obtain⟨h1, h2⟩ := I.pin p hp;exact⟨kG _ _ (hB p.1 p.2 h1 (Nc I yu Pd hp) (.inl (by rw [(I1.pin p hp).1]; simp))), h2⟩
          eL := z.2.1
          len := I.len }
noncomputable abbrev marked(X:Cx)(v:Value):Cx:={ X with A:=X.A.mark (some v),calm:=false,xe:=fun _ _=>False }
theorem QN{v:Value}(ok:X.Ok):(marked X v).Ok :=
 ⟨ok.mod,ok.kind,ok.glob,ok.blt,ok.above,ok.inj,ok.has,ok.Uh,fun z=>(by cases z),ok.frames,ok.UR,ok.Wb,ok.bs,ok.Ma,ok.HX,ok.Ly,ok.vB,ok.Oc⟩
theorem Hb{v:Value}(I:Inv X pins σ H s):Inv (marked X v) pins σ H s:=⟨QN I.ok,I.os,I.bare,I.base,I.loc,I.cell,I.free,I.mJ,I.pin,I.eL,I.len⟩
theorem Je{v:Value}(ok:X.Ok)(I:Inv (marked X v) pins σ H s):Inv X pins σ H s:=⟨ok,I.os,I.bare,I.base,I.loc,I.cell,I.free,I.mJ,I.pin,I.eL,I.len⟩
end
end K2
end
section
namespace K2
open PySem PySem.Spec PyProof.Rows L2
noncomputable def subIn(K:ay)(C:Addr)(v:Value):Bool:=match K.lookup C with
 | some ⟨_,_,.cls cd,_⟩=>cd.mro.contains v
 | _=>false
theorem PD{K:ay}{h:Heap}{C N:Addr}{nm q:Str}{bs bm:List Value}{hdct:Bool}{sn:List Str}{sub:List Value}{ab:Bool}{col:Option Bool}{dd:Option Addr}{k0 k1 k2 k3 k5:Option Value}{newId:String}{v:Value}
  (Y:K.In h) (hC:h.get? C=some (Mh nm q C N bs bm hdct sn sub ab col dd k0 k1 k2 k3 k5 newId)) (e:subIn K C v=true):(gw C :: bm).contains v=true:=by
 unfold subIn at e;split at e
 ·rename_i ho;have:=Y _ _ ho;rw [hC] at this;cases this;exact e
 ·cases e
section
variable {X:Cx} {x cn n:Str} {D f:Addr} {fd:aE} {ps:List Str} {k i:Nat} {sp:iw} {Xd:List Value} {newD:String} {cat:List Str} {e:Expr} {es:List Expr} {p np pos ep FY tp:Pos} {PF:Stmt} {zp:List Stmt} {t:xr} {th:fN}
structure Rx(X:Cx):Prop where
 st:X.stack=X.env :: X.outer
 fr:X.env.frame=some X.env.locals
 ex:X.ex=[]
theorem KY(F:dN X.prog X.w X.K X.mg X.base (Ce X.prog X.w) k f fd ps (mI X.K X.mg sp))(hr:jf k X.A)(hg:Gl X x)(hm:X.mg x=some (.ref f))(hk:fm X.K (.ref f)=true)(hb:Binds X.K fd ps [])
  (ha:B5 X (e :: es) t) (Gb:autoParam ((x == ("__debug__" : Str))=false) Ad._auto_1) (he:autoParam (bO (e :: es) X.env=(false,eval e X.env) :: bO es X.env) Ar._auto_1) (mZ:autoParam ((kM pos (bO es X.env)).any (·.1)=false) Ar._auto_1) :
  iL X (.Call (.Name x p) (e :: es) [] pos) (IT sp t):=by
 intro E pins s σ H τ G Q hE I h;refine kr (vp I.inv hg hm ?_ Gb);refine jr (h₀:=X.base) I.inv.ok.mod.Ny hk (uI ha pos hE I h fun vs H1 ds G1 us s1 I1 m1 r rd q=>⟨I1.inv.wy,?_⟩) he mZ;refine ix (zB (E:=W8 X.K X.mg E) F hr hb .nil (fun pins σ H s e s' I hq=>hE.pass pins σ H s s' e I hq) I1.inv r (Q:=Bb X.K H1 G1 Q) ?_) fun _ _ z=>(rg.of z).trans m1;rw [cz];exact⟨ds,G1,Q,E,rd,I1.ab,q,fun d G' v H' q' m' JC=>⟨d,G',m',JC,q'⟩,fun ex C H' G' q' OM SX=>⟨ex,C,G',rfl,SX,OM,q'⟩⟩
end
end K2
end
section
namespace K2
open PySem PySem.Spec PyProof.Rows L2 PySem.W PySem.Calls PySem.Builtin PySem.Builtin.Getset_descriptor
section
variable {prog:bU} {w:World} {A:fJ} {E:Value->aK->Prop} {s:aK} {K:ay} {a C:Addr} {ox:Obj}
structure OS(K:ay)(C:Addr):Prop where
 ga:findIn K (.ref C) "__getattribute__" = some (some (.builtin "BaseException.__getattribute__"))
 gn:findIn K (.ref C) "__getattr__" = some none
 x9:findIn K (.ref C) "__class__" = some (some (.builtin "object.__class__"))
 sp:specialIn K (.builtin "object.__class__") "__get__" = some (some (.builtin "getset_descriptor.__get__"))
 tk:takesIn K (.builtin "object.__class__")=some true
 mo:mroIn K C (.type "object")=some true
 mb:mroIn K C (.type "BaseException")=some true
 is:(clsIn K C).isSome=true
end
end K2
end
section
namespace K2
open PySem PySem.Spec PyProof.Rows L2
theorem Kn{P:Str->Prop}:∀ c,([]:List Str).contains c=true->P c:=fun c h=>by simp at h
theorem GN{l:List Str}{P:Str->Prop}{x:Str}(h:P x)(t:∀ c,l.contains c=true->P c):∀ c,(x :: l).contains c=true->P c:=fun c hc=>by
 rw [List.contains_cons,pT] at hc;rcases hc with hc | hc
 ·rw [beq_iff_eq.mp hc]; exact h
 ·exact t c hc
end K2
end
section
namespace K2
open PySem PySem.Spec PyProof.Rows L2
section
variable {X:Cx} {e:Expr} {te:iu} {pos:Pos}
theorem jG{i:Nat}{x:Str}{pos':Pos}(hN:X.N.Nodup)(hi:X.N[i]?=some x)(he:iL X e te)(hx:autoParam (Loc X.env.scope x) Ao._auto_1)(hs:autoParam (zc e (some (.Name x pos')) pos.line X.env=pure false) Ar._auto_1)(hf:autoParam (X.fn x=true\/X.env.scope.names.lookup x=some .local) Ao._auto_1) :
  EF X (.Assign [.Name x pos'] e pos) (bw te (aH i)):=PX hN hi hx he hs hf
theorem jB{i:Nat}{x:Str}(hN:X.N.Nodup)(hi:X.N[i]?=some x)(hx:autoParam (Loc X.env.scope x) Ao._auto_1)(hf:autoParam (X.fn x=true\/X.env.scope.names.lookup x=some .local) Ao._auto_1):LO X (.Name x pos) (aH i):=Nf hN hi hx hf
theorem nN{P:bU}{w:World}{K:ay}{mg:Str->Option Value}{base:Heap}{x qual:Str}{st:Stmt}{f:Addr}{fd:aE}{Nn ps:List Str}{k:Nat}{sp:iw}{rd:fN}(F:kE K x qual st f fd)(S:bL Nn ps (aR st))
  (hr:∀ ds G Q,sp ds G Q (fun _ _=>False)->rd (fun _ _=>False) (ends Q) (aZ Nn.length ds) G)
  (hb:∀ (mq:Value) (A:fJ) (outer:List Env) (s:aK) (H:Hp) (E:XK),jf k (A.deeper (ze qual (aR st) s.heap.objs.size f mq))->uq (xp fh P w K mg base Nn qual (aR st) f mq A outer s H E).TZ (gZ st) rd)
  (len:autoParam (∀ ds G Q E,sp ds G Q E->ds.length=ps.length) Al._auto_1):dN P w K mg base fh (k+1) f fd ps (bX K sp):=Qx F S len hr hb
theorem W5{P:bU}{w:World}{K:ay}{mg:Str->Option Value}{base:Heap}{x qual:Str}{st:Stmt}{f:Addr}{fd:aE}{Nn ps:List Str}{k:Nat}{sp:iw}{rd:fN}(F:kE K x qual st f fd)(S:bL Nn ps (aR st))
  (hr:∀ ds G Q E,sp ds G Q E->rd E (ends Q) (aZ Nn.length ds) G)
  (hb:∀ (mq:Value) (A:fJ) (outer:List Env) (s:aK) (H:Hp) (E:XK),jf k (A.deeper (ze qual (aR st) s.heap.objs.size f mq))->uq (xp (Ce P w) P w K mg base Nn qual (aR st) f mq A outer s H E) (gZ st) rd)
  (len:autoParam (∀ ds G Q E,sp ds G Q E->ds.length=ps.length) Al._auto_1):dN P w K mg base (Ce P w) (k+1) f fd ps (mI K mg sp):=Qw F S len hr hb
theorem mw{N ps:List Str}{sc:Scope}(h1:autoParam (sc.kind=.function) Ar._auto_1)(h2:autoParam (sc.isCoroutine=false) Ar._auto_1)(h3:autoParam (sc.isGenerator=false) Ar._auto_1)(h4:autoParam N.Nodup Ak._auto_1)(h5:autoParam (N.take ps.length=ps) Ar._auto_1)
  (h6:autoParam (∀ x∈ps,sc.names.lookup x=some .local\/sc.names.lookup x=some .cell) Ak._auto_1) (h7:autoParam (∀ y∈sc.names,y.2≠.free) Ak._auto_1):bL N ps sc:=⟨h1,h2,h3,h4,h5,h6,h7⟩
end
end K2
end
section
namespace K2
open PySem PySem.Spec PyProof.Rows L2
theorem rR{α:Type}{us:List α}(h:us.length=1):∃ a,us=[a]:=List.length_eq_one_iff.mp h
theorem Qe{α:Type}{us:List α}{n:Nat}(h:us.length=n+1):∃ a t,us=a :: t/\t.length=n:=by
 cases us with
 | nil=>cases h
 | cons a t=>exact⟨a,t,rfl,Nat.succ.inj h⟩
theorem pI{α:Type}{us:List α}(h:us.length=2):∃ a b,us=[a,b]:=by
 obtain⟨a,t,rfl,h2⟩:=Qe h; obtain⟨b,rfl⟩:=rR h2; exact⟨a,b,rfl⟩
theorem BC{α:Type}{us:List α}(h:us.length=3):∃ a b c,us=[a,b,c]:=by
 obtain⟨a,t,rfl,h2⟩:=Qe h; obtain⟨b,c,rfl⟩:=pI h2; exact⟨a,b,c,rfl⟩
theorem Vt{α:Type}{us:List α}(h:us.length=4):∃ a b c d,us=[a,b,c,d]:=by
 obtain⟨a,t,rfl,h2⟩:=Qe h; obtain⟨b,c,d,rfl⟩:=BC h2; exact⟨a,b,c,d,rfl⟩
theorem Qf{α:Type}{us:List α}(h:us.length=5):∃ a b c d e,us=[a,b,c,d,e]:=by
 obtain⟨a,t,rfl,h2⟩:=Qe h; obtain⟨b,c,d,e,rfl⟩:=Vt h2; exact⟨a,b,c,d,e,rfl⟩
section
variable {X:Cx} {a b tg:Expr} {ta tb:iu} {p pos:Pos}
theorem zJ (hg:Gl X "range") (hm:X.mg "range" = none) (ha:iL X a ta) (hb:iL X b tb) (hs:autoParam (bO [a,b] X.env=(false,eval a X.env) :: bO [b] X.env) Ar._auto_1) (Io:autoParam (bO [b] X.env=[(false,eval b X.env)]) Ar._auto_1) (mZ:autoParam ((kM pos (bO [b] X.env)).any (·.1)=false) Ar._auto_1):QL X tg (.Call (.Name "range" p) [a,b] [] pos) (CL ta tb):=by
 intro E pins s σ H τ G R hE I h;have hA:B5 X [a,b] (aj ta (aj tb aM)):=af ha (af hb aA Io) hs;refine Call_ (ud I.inv hg hm boot_range (jg (uI hA pos hE I (R:=fun ds G1=>match ds with | [.int i,.int j]=>(-(2 ^ 62)<=i/\i < 2 ^ 62/\-(2 ^ 62)<=j/\j < 2 ^ 62)/\R (ek i (j - i).toNat) (fun _=>True) G1 | _=>False) ?_ fun vs H1 ds G1 us s1 I1 m1 r1 kI q1=>?_) hs mZ))
 ·show ta E τ G fun x G1=>tb E τ G1 fun y G2=>_;have e:(fun (x:D) (G1:Gp)=>tb E τ G1 fun y G2=>match [x,y] with | [.int i,.int j]=>(-(2 ^ 62)<=i/\i < 2 ^ 62/\-(2 ^ 62)<=j/\j < 2 ^ 62)/\R (ek i (j - i).toNat) (fun _=>True) G2 | _=>False)=fun x G1=>tb E τ G1 fun y G2=>match x,y with | .int i,.int j=>(-(2 ^ 62)<=i/\i < 2 ^ 62/\-(2 ^ 62)<=j/\j < 2 ^ 62)/\R (ek i (j - i).toNat) (fun _=>True) G2 | _,_=>False:=by
   funext x G1;congr 1;funext y G2;cases x <;> cases y <;> rfl
  exact e ▸ h
 ·split at q1
  ·rename_i i j;obtain⟨w1,w2,rfl,EN,qT⟩:=kI.two;cases EN; cases qT;obtain⟨u1,u2,rfl,PM,MW⟩:=r1.two;obtain⟨t1,rfl⟩:=PM;obtain⟨t2,rfl⟩:=MW;obtain⟨⟨q1,q2,q3,q4⟩,q⟩:=q1;exact call_range_2 (M0 I1.inv m1 q1 q2 q3 q4 q)
  ·exact q1.elim
end
end K2
end
section
namespace K2
open PySem PySem.Spec PyProof.Rows L2
section
variable {X:Cx}
theorem FI (hu:X.A.units+64 < cLine):LP X "dict.get" FQ:=by
 intro pins s σ H G x d xs ds v us Q I ab rx rd PK PO q;unfold FQ at q;split at q
 ·rename_i a k d';obtain⟨bC,hg,hk,q⟩:=q;cases rd;obtain⟨w,w2,rfl,EN,qT⟩:=PO.two;obtain⟨u1,u2,rfl,PM,MW⟩:=vals2 PK;cases rx;obtain⟨H',o,I',m,g,e1,e2⟩:=AS I ab hg hk EN;refine Ts (d:=w2) (by lia) I' g PM MW fun w' s' I2 rr=>?_;cases hl:look bC k with
  | some d2 =>
   obtain⟨v',ho,rr'⟩:=e2 d2 hl;subst ho;rw [hl] at q;exact⟨v',H',d2,G,I2,m,rr,rr',q⟩
  | none =>
   rw [hl] at e1 q;have ho:o=none:=by cases o with
    | none=>rfl
    | some _=>cases e1
   subst ho;exact⟨w2,H',d',G,I2,m,rr,qT.mono (m.kp ab),q⟩
 ·exact q.elim
end
end K2
end
section
namespace K2
open PySem PySem.Spec PyProof.Rows L2 PySem.W
section
variable {X:Cx}
theorem CV (hc:X.calm=true) (hu:X.A.units+64 < cLine):sH X (.builtin "max") IU:=by
 intro pins s σ H G xs ds us Q I ab rx rd q;unfold IU at q;split at q
 ·rename_i a b;obtain⟨w1,w2,rfl,EN,qT⟩:=rd.two;obtain⟨u1,u2,rfl,PM,MW⟩:=vals2 rx;cases EN;cases qT;obtain⟨t,rfl⟩:=PM;obtain⟨t2,rfl⟩:=MW;refine max_two_ints (I.ok.hd hc) fun h' tk k=>?_;have I2:=I.kept (t':=tk) k;by_cases c:a < b
  ·rw [if_pos c] at q;rw [if_pos (show b > a from c)];exact⟨.int b,H,.int b,G,I2,.refl ab,⟨_,rfl⟩,.int _,q⟩
  ·rw [if_neg c] at q;rw [if_neg (show ¬ b > a from c)];exact⟨.int a,H,.int a,G,I2,.refl ab,⟨_,rfl⟩,.int _,q⟩
 ·exact q.elim
end
end K2
end
section
namespace K2
open PySem PySem.Spec PyProof.Rows L2 PySem.W
open Enc (enc)
section
variable {X:Cx}
theorem NH{K:ay}{H:Hp}:∀ {ns:List Int} {vs:List V} {cy:List Value},bx K H vs (ns.map enc)->Vals vs cy->lB cy ns:=by
 intro ns;induction ns with
 | nil=>intro vs cy r v; cases r; cases v; exact .nil
 | cons n ns ih =>
  intro vs cy r v;cases r with
  | cons r1 r2 =>
   cases r1;cases v with
   | cons v1 v2=>obtain⟨t,rfl⟩:=(show ∃ t,_=E1 n t from v1); exact .cons _ _ (ih r2 v2)
theorem Lo{K:ay}{H:Hp}{ns:List Int}{cy:List Value}(h:lB cy ns):Vals (ns.map V.int) cy/\bx K H (ns.map V.int) (ns.map enc):=by
 induction h with
 | nil=>exact⟨.nil,.nil⟩
 | cons _ _ _ ih=>exact⟨.cons ⟨_,rfl⟩ ih.1,.cons (.int _) ih.2⟩
theorem B3 (hc:X.calm=true) (hu:X.A.units+64 < cLine):sH X (.builtin "sorted") vS:=by
 intro pins s σ H G xs ds us Q I ab rx rd q;unfold vS at q;split at q
 ·rename_i x;obtain⟨ns,ty,hi,h64,q⟩:=q;obtain⟨w1,rfl,EN⟩:=rd.one;obtain⟨u,rfl,ru⟩:=rx.one;obtain⟨l,vs,cy,rfl,rv,rs,hl,_⟩:=qE I ab ru EN (La ty hi);obtain⟨m,F0⟩:=I.fr;refine kso_sorted F0 FE hl (NH rs rv) h64 fun Dd vs' P8 c h' F N EO ia il pm so _=>?_;obtain⟨k2,ns2⟩:=CC I F0 F fun p hp=>N p (bq _ hp);have hD:s.heap.get? Dd=none:=by
   have nD:=N _ c8;cases qd:s.heap.get? Dd with
   | none=>rfl
   | some o=>exact absurd (EO _ (xS nD.2.1 nD.2.2 qd)) (kF _)
  have hp:H Dd=none:=Ka I.eL hD;have es:RN ns=P8:=Bt ((Fi ns).trans pm.symm) (HJ ns) (so.imp fun h=>by unfold Bq; exact(by simpa [cA.lt] using h));rw [es] at q;have hsz:bG=16777216:=dw;obtain⟨WD,KR⟩:=Lo (K:=X.K) (H:=H) ia;refine⟨.ref Dd,upd H Dd (.lst (P8.map V.int)),.ref _,_,Inv.QY (t':=s.toks) I k2 ns2 hD ?_,.K7 ab hp KR,rfl,.ref _,q _ (ab.free hp)⟩;exact⟨by rw [av]; lia,_,c,WD,(N _ c8).1⟩
 ·exact q.elim
end
end K2
end
section
namespace K2
open PySem PySem.Spec PyProof.Rows L2
section
variable {prog:bU} {w:World} {A:fJ} {E:Value->aK->Prop}
theorem vU{s:aK}{env:Env}{elts:List Expr}{x1}{pos:Pos}{t:Addr}{items:Array Value}{Q:Unit->aK->Prop}(hh:A.handled=none)(ht:s.heap.IsList t items)
  (hn:(lj elts env).length=items.size) (Vy:(lj elts env).findIdx? (·.1)=none)
  (h:∀ h',Heap.ExtBut s.heap.objs.size s.heap h'->wpAny (model prog w) A (assignInOrder ((lj elts env).map (·.2)) items.toList) Q E { s with heap:=h' }) :
  wpAny (model prog w) A (EZ (.Tuple elts x1 pos) env (.ref t)) Q E s:=by
 rw [assign_Tuple];refine ba (ET ?_);unfold unpack;rw [hn,Vy];exact ba (ng (PySem.W.kun_itemsOf hh ht h))
end
section
variable {X:Cx} {es:List Expr} {pos:Pos}
theorem PZ{k:Nat}{t:A9}{n:Nat}(hc:X.calm=true)(h:OO X es t)(Zz:∀ E ds τ G Q,t E ds τ G Q->ds.length=n)
  (hn:autoParam ((lj es X.env).length=n) Ar._auto_1) (yu:autoParam ((lj es X.env).findIdx? (·.1)=none) Ar._auto_1):LO X (.Tuple es k pos) (Qt t):=by
 intro E pins s σ H τ G w d u Q hE I r rd hw;unfold Qt at hw;have TR:∀ (l:Addr) (ys:List V) (zs:List D),w=.ref l->sZ X.K H l ys->bx X.K H ys zs->t E zs τ G Q->wpAny (model X.prog X.w) X.A (EZ (.Tuple es k pos) X.env u) (fun _ s'=>∃ jU H' lp G',I2 X pins jU H' lp G' s'/\Mv X.K H G H' G'/\Q lp G') X.xe s:=fun l ys zs e hq rs hw=>by
  subst e;cases r;obtain⟨cy,rv,pl,hz⟩:=I.inv.list hq;refine vU (I.inv.ok.hd hc) pl.isList (by rw [hn,bc,<-rv.length,rs.length]; exact(Zz _ _ _ _ _ hw).symm) yu fun h' hx=>?_;have I1:Inv X pins σ H { s with heap:=h' }:=I.inv.kept (t':=s.toks) fun b o e=>hx b o (bS (bf e)) e;exact h E pins _ σ H τ G _ _ _ Q hE ⟨I1,I.st,I.ab⟩ (by simpa using rv) rs hw
 cases rd with
 | fU hq rs=>exact TR _ _ _ rfl hq.sq rs hw
 | ref l =>
  unfold rQ at hw;dsimp only at hw;cases hg:G l with
  | none=>rw [hg] at hw; exact hw.elim
  | some g =>
   rw [hg] at hw;cases g with
   | lst ds =>
    obtain⟨vs,hv,rs⟩:=I.ab.lst hg;exact TR _ _ _ rfl (.of hv) rs hw
   | ins _ _=>exact hw.elim
   | ka bC=>exact hw.elim
 | _=>exact bP hw
end
end K2
end
section
namespace K2
open PySem PySem.Spec PyProof.Rows L2
section
variable {X:Cx} {x cn n:Str} {D f:Addr} {fd:aE} {ps:List Str} {k i:Nat} {sp:iw} {cat:List Str} {e c:Expr} {es:List Expr} {p np pos ep FY tp Y2:Pos} {PF:Stmt} {zp:List Stmt} {t:xr} {th u v:fN} {tA:yb} {hs:List E4} {body sa sb:List Stmt}
noncomputable def XG(X:Cx)(hs:List E4)(Q:Flow->aK->Prop):Value->aK->Prop:=fun e fK=>wpAny (model X.prog X.w) X.A (noteFrame e X.env) (fun _ jP=>wpAny (model X.prog X.w) X.A (setFlight e none) (fun _ zm=>wpAny (model X.prog X.w) X.A (handleBy e X.env hs) Q X.xe zm) X.xe jP) X.xe fK
noncomputable def Wr(X:Cx)(hs:List E4)(body:List Stmt)(t:fN):Prop :=
 ∀ (pins:List (Addr×Obj)) (s:aK) (σ:L2.St) (H0:Hp) (G0:Gp) (H:Hp) (τ:iH) (G:Gp) (Dn:j0),Mv X.K H0 G0 H G->I2 X pins σ H τ G s->t (fun _ _=>False) Dn τ G ->
  wpAny (model X.prog X.w) X.A (execs body X.env) (Ho X pins H0 G0 Dn) (XG X hs (Ho X pins H0 G0 Dn)) s
theorem Na{h0:E4}(hb:Wr X (h0 :: hs) body v):EF X (.Try body (h0 :: hs) [] [] tp) (Ki v):=by
 intro E pins s σ H τ G Dn hE I h;refine wpAny_Try_except ?_;refine lb (hb pins s σ H G H τ G Dn (.refl I.ab) I h) (fun fl s1 q=>?_) fun _ _ z=>z;cases fl with
 | next=>exact kL q
 | brk=>exact q
 | cont=>exact q
 | ret u=>exact q
theorem UN(hc:∀ EX,Kt (X.pf EX) c tA)(ha:Wr X hs sa u)(hb:Wr X hs sb v):Wr X hs [.If c sa sb Y2] (cS tA u v):=by
 intro pins s σ H0 G0 H τ G Dn m0 I h;refine xC ?_;have fin:∀ (fl:Flow) (s':aK),Ho X pins H0 G0 Dn fl s'->(match fl with | .next=>wpAny (model X.prog X.w) X.A (execs [] X.env) (Ho X pins H0 G0 Dn) (XG X hs (Ho X pins H0 G0 Dn)) s' | f=>Ho X pins H0 G0 Dn f s'):=fun fl s' q=>by
  cases fl with
  | next=>exact kL q
  | brk=>exact q
  | cont=>exact q
  | ret u=>exact q
 generalize ZU:XG X hs (Ho X pins H0 G0 Dn)=EX at fin;have I0:I2 (X.pf EX) pins σ H τ G s:=⟨I.inv.pf EX,I.st,I.ab⟩;refine wpAny_If (KJ (X:=X.pf EX) (hc EX) (Lk.none fun _ _ z=>z) I0 h fun d H1 G1 s1 I1 m1 q1=>?_);have J1:I2 X pins σ H1 τ G1 s1:=⟨I1.inv.nq,I1.st,I1.ab⟩;subst ZU;cases d with
 | true=>exact lb (ha pins s1 σ H0 G0 H1 τ G1 Dn (m0.trans m1) J1 (by simpa using q1)) fin fun _ _ z=>z
 | false=>exact lb (hb pins s1 σ H0 G0 H1 τ G1 Dn (m0.trans m1) J1 (by simpa using q1)) fin fun _ _ z=>z
end
end K2
end
section
namespace K2
open PySem PySem.Spec PyProof.Rows L2
noncomputable def gH(K:ay)(f c:Str):Prop:=∃ C,cI K bz c=some (some (.ref C))/\Rv K C/\xA K C f
theorem HN{K:ay}{H:Hp}{f:Str}{d:D}:∀ {fs:List (Str×D)} {fv:List (Str×V)},fv.map (·.1)=fs.map (·.1)->bx K H (fv.map (·.2)) (fs.map (·.2))->fs.lookup f=some d->∃ v,fv.lookup f=some v/\cZ K H v d:=by
 intro fs;induction fs with
 | nil=>intro fv _ _ h; cases h
 | cons p fs ih =>
  intro fv hn r h;cases fv with
  | nil=>cases hn
  | cons q fv =>
   rw [aC,aC] at hn;injection hn with h1 h2
   cases r with
   | cons r1 r2 =>
    obtain⟨pk,pd⟩:=p;obtain⟨qk,qv⟩:=q;have h1:qk=pk:=h1;subst h1;rw [oh] at h ⊢;cases hb:f == qk with
    | true =>
     rw [hb] at h;cases h;exact⟨qv,rfl,r1⟩
    | false =>
     rw [hb] at h;exact ih h2 r2 h
section
variable {X:Cx} {e:Expr} {te:iu} {f:Str} {al:List Str} {pos:Pos}
theorem dB(cl:∀ c∈al,gH X.K f c)(he:iL X e te)(hb:autoParam (attributeBase e f X.env (eval e X.env)=eval e X.env) Ar._auto_1):iL X (.Attribute e f pos) (gr al f te):=by
 intro E pins s σ H τ G Q hE I h;refine QG hb (lC he hE I h fun x H1 d G1 u s1 I1 m1 r1 kI q1=>?_);obtain⟨a,c,fs,d',rfl,hg,hc,hl,q⟩:=q1;cases kI;cases r1;obtain⟨C,dx,fv,hH,uf,hn,rs⟩:=I1.ab a _ hg;obtain⟨C',rS,ER,Zr⟩:=cl c hc;rw [uf] at rS;cases rS;obtain⟨v,hv,rv⟩:=HN hn rs hl;exact Ir I1.inv hH ER Zr hv fun u' s2 I2 ru=>⟨v,H1,d',G1,I2,m1,ru,rv,q⟩
end
end K2
end
section
namespace K2
open PySem PySem.Spec PyProof.Rows L2
theorem KS{f:Str}{v:V}{d:D}:∀ {fs:List (Str×D)} {fv:List (Str×V)},fv.map (·.1)=fs.map (·.1)->(og f v fv).map (·.1)=(putD f d fs).map (·.1):=by
 intro fs;induction fs with
 | nil =>
  intro fv h;have:fv=[]:=by simpa using h
  subst this; rfl
 | cons p fs ih =>
  intro fv h;cases fv with
  | nil=>cases h
  | cons q fv =>
   obtain⟨pk,pd⟩:=p;obtain⟨qk,qv⟩:=q;rw [aC,aC] at h;injection h with h1 h2
   have h1:qk=pk:=h1;subst h1;unfold og putD;split
   ·rw [aC,aC,h2]
   ·rw [aC,aC,ih h2]
theorem M8{K:ay}{H:Hp}{f:Str}{v:V}{d:D}(rv:cZ K H v d):∀ {fs:List (Str×D)} {fv:List (Str×V)},fv.map (·.1)=fs.map (·.1)->bx K H (fv.map (·.2)) (fs.map (·.2))->bx K H ((og f v fv).map (·.2)) ((putD f d fs).map (·.2)):=by
 intro fs;induction fs with
 | nil =>
  intro fv h _;have:fv=[]:=by simpa using h
  subst this;exact .cons rv .nil
 | cons p fs ih =>
  intro fv h r;cases fv with
  | nil=>cases h
  | cons q fv =>
   obtain⟨pk,pd⟩:=p;obtain⟨qk,qv⟩:=q;rw [aC,aC] at h;injection h with h1 h2
   have h1:qk=pk:=h1;subst h1;cases r with
   | cons r1 r2 =>
    unfold og putD;split
    ·exact .cons rv r2
    ·exact .cons r1 (ih h2 r2)
theorem Kp.Yb{H:Hp}{p:Addr}{C dx:Addr}{fv:List (Str×V)}{o:HO}(hp:H p=some (.ins C dx fv)):Kp H (upd H p o) :=
 ⟨fun a xs e=>by rw [cp (by rintro rfl; rw [hp] at e; cases e)]; exact e,fun a ob u e=>by rw [cp (by rintro rfl; rw [hp] at e; cases e)]; exact e⟩
section
variable {X:Cx} {o value:Expr} {to tv:iu} {f:Str} {al:List Str} {pos pos':Pos}
theorem fL(cl:∀ c∈al,gH X.K f c)(ho:iL X o to)(hv:iL X value tv)(hs:autoParam (zc value (some (.Attribute o f pos')) pos.line X.env=pure false) Ar._auto_1):EF X (.Assign [.Attribute o f pos'] value pos) (k6 al f to tv):=by
 intro E pins s σ H τ G D hE I h;refine plainObj_wpAny_Assign_Attribute (lC hv hE I h fun y H1 d G1 u s1 I1 m1 r1 kI q1=>lC ho hE I1 q1 fun x H2 d2 G2 ov s2 kD m2 r2 Dy q2=>?_) hs;obtain⟨a,c,fs,rfl,hg,hc,hl,q⟩:=q2;cases Dy;cases r2;obtain⟨C,dx,fv,hH,uf,hn,rs⟩:=kD.ab a _ hg;obtain⟨C',rS,ER,Zr⟩:=cl c hc;rw [uf] at rS;cases rS;have hlen:fv.length=fs.length:=by have:=congrArg dD hn; simpa using this
 have X4:=kI.mono (m2.kp I1.ab);refine HK kD.inv hH ER Zr (by lia) r1 fun s3 I3=>?_;have k:Kp H2 (upd H2 a (.ins C dx (og f y fv))):=.Yb hH;have m3:Mv X.K H2 G2 (upd H2 a (.ins C dx (og f y fv))) (de G2 a (.ins c (putD f d fs))):=.put kD.ab hg k ⟨C,dx,og f y fv,dF,uf,KS hn,(M8 X4 hn rs).mono k⟩;exact⟨σ,_,τ,_,kD.mv I3 m3,(m1.trans m2).trans m3,q⟩
end
section
variable {X:Cx} {k:Nat} {C f:Addr} {fd:aE} {ps:List Str} {sp:iw} {x:Str} {p pos:Pos} {e:Expr} {es:List Expr} {t:xr}
theorem nG(M:Mk X.K C f)(uf:cI X.K bz x=some (some (.ref C)))(F:dN X.prog X.w X.K X.mg X.base fh k f fd ps (bX X.K sp))(hr:jf (k+1) X.A)(hg:Gl X x)(hm:X.mg x=some (.ref C))(hb:Binds X.K fd ps [])
  (ha:B5 X (e :: es) t) (Gb:autoParam ((x == ("__debug__" : Str))=false) Ad._auto_1) (he:autoParam (bO (e :: es) X.env=(false,eval e X.env) :: bO es X.env) Ar._auto_1) (mZ:autoParam ((kM pos (bO es X.env)).any (·.1)=false) Ar._auto_1) :
  iL X (.Call (.Name x p) (e :: es) [] pos) (nQ x sp t):=by
 intro E pins s σ H τ G Q hE I h;refine kr (vp I.inv hg hm ?_ Gb);refine jr (h₀:=X.base) I.inv.ok.mod.Ny M.kp (uI ha pos hE I h fun vs H1 ds G1 us s1 I1 m1 r rd q=>⟨I1.inv.wy,?_⟩) he mZ;refine ix (MV M F hr hb .nil JL I1.inv r (Q:=Bb X.K H1 G1 Q) fun y dx hy ZF sT=>?_) fun _ _ z=>(rg.of z).trans m1;rw [cz];have m2:Mv X.K H1 G1 (upd H1 dx (.own y)) G1:=.S1 I1.ab ZF;have hy2:(upd H1 dx (.own y)) y=none:=by rw [cp sT.symm]; exact hy
 have m3:Mv X.K (upd H1 dx (.own y)) G1 (upd (upd H1 dx (.own y)) y (.ins C dx [])) (de G1 y (.ins x [])):=.new m2.ab hy2 ⟨C,dx,[],dF,uf,rfl,.nil⟩;have m:=m2.trans m3;refine⟨.ref y :: ds,de G1 y (.ins x []),fun v G2=>v=.j9/\Q (.ref y) G2,.cons (.ref y) (rd.mono (m.kp I1.ab)),m.ab,q y (I1.ab.free hy),fun d G' v H' q' m' JC=>?_⟩;obtain⟨rfl,q'⟩:=q';cases JC;exact⟨rfl,.ref y,G',m.trans m',.ref y,q'⟩
end
end K2
end
section
namespace K2
open PySem PySem.Spec PyProof.Rows L2
theorem sR{m:Str}:∀ (fs:List (Str×D)) (fv:List (Str×V)),fv.map (·.1)=fs.map (·.1)->fs.lookup m=none->fv.lookup m=none:=by
 intro fs;induction fs with
 | nil =>
  intro fv h _;have:fv=[]:=by simpa using h
  subst this; rfl
 | cons p fs ih =>
  intro fv h hl;cases fv with
  | nil=>cases h
  | cons q fv =>
   obtain⟨pk,pd⟩:=p;obtain⟨qk,qv⟩:=q;rw [aC,aC] at h;injection h with h1 h2
   have h1:qk=pk:=h1;subst h1;rw [oh] at hl ⊢;cases hb:m == qk with
   | true=>rw [hb] at hl; cases hl
   | false=>rw [hb] at hl; exact ih fv h2 hl
section
variable {X:Cx} {k:Nat} {C f:Addr} {fd:aE} {ps:List Str} {sp:iw} {cn m:Str} {apos pos:Pos} {o e:Expr} {es:List Expr} {to:iu} {t:xr}
structure C5(K:ay)(cn m:Str)(C f:Addr):Prop where
 ns:cI K bz cn=some (some (.ref C))
 cl:Rv K C
 me:Meth K C m f
end
end K2
end
section
namespace K2
open PySem PySem.Spec PyProof.Rows L2
noncomputable def OP(X:Cx)(m:Str)(p:Str×iw):Prop:=∃ (C f:Addr) (fd:aE) (ps:List Str) (k:Nat),C5 X.K p.1 m C f/\dN X.prog X.w X.K X.mg X.base fh k f fd ps (bX X.K p.2)/\jf k X.A/\Binds X.K fd ps []
theorem nJ{X:Cx}{m:Str}:∀ p∈([]:List (Str×iw)),OP X m p:=fun p h=>by cases h
theorem lG{X:Cx}{m c:Str}{sp:iw}{ms:List (Str×iw)}{C f:Addr}{fd:aE}{ps:List Str}{k:Nat}(M:C5 X.K c m C f)(F:dN X.prog X.w X.K X.mg X.base fh k f fd ps (bX X.K sp))(hr:jf k X.A)(hb:Binds X.K fd ps [])(t:∀ p∈ms,OP X m p):∀ p∈(c,sp) :: ms,OP X m p:=fun p h=>by
 rcases List.mem_cons.mp h with rfl | h
 ·exact⟨C,f,fd,ps,k,M,F,hr,hb⟩
 ·exact t p h
section
variable {X:Cx} {ms:List (Str×iw)} {m:Str} {apos pos:Pos} {o e:Expr} {es:List Expr} {to:iu} {t:xr}
theorem pE{pl:Sem Bool}(Ms:∀ p∈ms,OP X m p)(ho:iL X o to)(ha:B5 X (e :: es) t)
  (yu:autoParam (bO (e :: es) X.env=(false,eval e X.env) :: bO es X.env) Ar._auto_1) (mZ:autoParam ((kM pos (bO es X.env)).any (·.1)=false) Ar._auto_1)
  (ht:autoParam (eval (.Call (.Attribute o m apos) (e :: es) [] pos) X.env=(do
   let ov ← eval o X.env
   standAt apos.atName
   let (f,first) ← C8 [ov] (EY ov m pl)
   callWith pos f first (kM pos (bO (e :: es) X.env)) (backToKw pos (C7 [] X.env)))) Ar._auto_1) :
  iL X (.Call (.Attribute o m apos) (e :: es) [] pos) (jS ms m to t):=by
 intro E pins s σ H τ G Q hE I h;refine mK (pl:=pl) (lC ho hE I h fun x H1 d G1 u s1 I1 m1 r1 kI q1=>?_) ht;obtain⟨a,c,fs,sp,rfl,hg,SW,hl,q⟩:=q1;obtain⟨C,f,fd,ps,k,M,F,hr,hb⟩:=Ms _ SW;cases kI;cases r1;obtain⟨C',dx,fv,hH,uf,hn,rs⟩:=I1.ab a _ hg;have rS:=M.ns.symm.trans uf;cases rS;refine qh I1.inv hH M.cl M.me (sR fs fv hn hl) ?_;refine jr (first:=[.ref a]) (h₀:=X.base) I.inv.ok.mod.Ny M.me.kp (uI ha pos hE I1 q fun vs H2 ds G2 us s2 kD m2 r rd q2=>⟨kD.inv.wy,?_⟩) yu mZ;refine ix (zB (us:=.ref a :: us) (vs:=.ref a :: vs) F hr hb .nil JL kD.inv (.cons rfl r) (Q:=Bb X.K H2 G2 Q) ?_) fun _ _ z=>(rg.of z).trans (m1.trans m2);rw [cz];exact⟨.ref a :: ds,G2,Q,.cons (.ref a) rd,kD.ab,q2,fun d G' v H' q' m' JC=>⟨d,G',m',JC,q'⟩⟩
theorem zL{pl:Sem Bool}(Ms:∀ p∈ms,OP X m p)(ho:iL X o to)
  (ht:autoParam (eval (.Call (.Attribute o m apos) [] [] pos) X.env=(do
   let ov ← eval o X.env
   standAt apos.atName
   let (f,first) ← C8 [ov] (EY ov m pl)
   callWith pos f first (kM pos (bO [] X.env)) (backToKw pos (C7 [] X.env)))) Ar._auto_1) :
  iL X (.Call (.Attribute o m apos) [] [] pos) (jS ms m to aM):=by
 intro E pins s σ H τ G Q hE I h;refine mK (pl:=pl) (lC ho hE I h fun x H1 d G1 u s1 I1 m1 r1 kI q1=>?_) ht;obtain⟨a,c,fs,sp,rfl,hg,SW,hl,q⟩:=q1;obtain⟨C,f,fd,ps,k,M,F,hr,hb⟩:=Ms _ SW;cases kI;cases r1;obtain⟨C',dx,fv,hH,uf,hnm,rs⟩:=I1.ab a _ hg;have rS:=M.ns.symm.trans uf;cases rS;refine qh I1.inv hH M.cl M.me (sR fs fv hnm hl) ?_;refine PySem.W.callWith_K0 (first:=[.ref a]) I1.inv.wy M.me.kp (ix (zB (us:=[.ref a]) (vs:=[.ref a]) F hr hb .nil JL I1.inv (.cons rfl .nil) (Q:=Bb X.K H1 G1 Q) ?_) fun _ _ z=>(rg.of z).trans m1);exact⟨[.ref a],G1,Q,.cons (.ref a) .nil,I1.ab,q,fun d G' v H' q' m' JC=>⟨d,G',m',JC,q'⟩⟩
end
end K2
end
section
namespace K2
open PySem PySem.W PySem.Spec PyProof.Rows L2
theorem YX{α:Type}{us:List α}(h:us.length=7):∃ a b c d e f g,us=[a,b,c,d,e,f,g]:=by
 match us,h with
 | [a,b,c,d,e,f,g],_=>exact⟨a,b,c,d,e,f,g,rfl⟩
theorem QB{K:Frag}{f:Str}:∀ c∈([]:List Str),gH K f c:=fun c h=>by cases h
theorem Ox{K:Frag}{f x:Str}{l:List Str}(h:gH K f x)(t:∀ c∈l,gH K f c):∀ c∈x :: l,gH K f c:=fun c hc=>by
 rcases List.mem_cons.mp hc with rfl | hc
 ·exact h
 ·exact t c hc
theorem ip{K:Frag}{f x:Str}(h:gH K f x):∀ c∈[x],gH K f c:=Ox h QB
structure QP(K:Frag)(cn:Str)(C:Addr):Prop where
 ns:nsIn K bz cn=some (some (.ref C))
 cl:Rv K C
theorem A5 {K:Frag} {cn:Str} {C:Addr} (a:autoParam (nsIn K bz cn=some (some (.ref C))) Aq._auto_1) (pg:autoParam (plainGet K C Str.empty=true) Aq._auto_1) (hd:autoParam (hasDictIn K C=true) Aq._auto_1) (po:autoParam (plainOver K C=true) Aq._auto_1) (sa:autoParam (findIn K (.ref C) "__setattr__" = some (some (.builtin "object.__setattr__"))) Aq._auto_1):QP K cn C:=⟨a,⟨pg,hd,po,sa⟩⟩
theorem QP.fld{K:Frag}{cn f:Str}{C:Addr}(c:QP K cn C)(n:xA K C f):gH K f cn:=⟨C,c.ns,c.cl,n⟩
structure Ha(K:Frag)(C:Addr)(m q:Str)(st:Stmt)(f:Addr)(fd:aE):Prop where
 at_:findIn K (.ref C) m=some (some (.ref f))
 fn:isFn K (.ref f)=true
 F:L2.kE K m q st f fd
theorem mz{K:Frag}{m q:Str}{C:Addr}{st:Stmt}{f:Addr}{oc:Value}{od an:Option Addr}{JN:Array (Option Value)}{kV doc pm mq ct:Value}(a:autoParam (findIn K (.ref C) m=some (some (.ref f))) Aq._auto_1)(fn:autoParam (isFn K (.ref f)=true) Aq._auto_1)(l:autoParam (K.lookup f=some ⟨oc,od,.func (fnOf m q (L2.kb st) (L2.gZ st) (L2.aR st) .none kV doc pm an mq ct),JN⟩) Aq._auto_1)
  (c:autoParam (codeIn K mq q=true) Aq._auto_1) (k:autoParam (keepIn K (.ref f)=true) Aq._auto_1):Ha K C m q st f (fnOf m q (L2.kb st) (L2.gZ st) (L2.aR st) .none kV doc pm an mq ct):=⟨a,fn,L2.Oa l c k⟩
theorem Ha.me{K:Frag}{C:Addr}{cn m q:Str}{st:Stmt}{f:Addr}{fd:aE}(z:Ha K C m q st f fd)(c:QP K cn C):C5 K cn m C f:=⟨c.ns,c.cl,⟨z.at_,z.fn,z.F.kp⟩⟩
theorem Ha.maker {K:Frag} {C:Addr} {q:Str} {st:Stmt} {f:Addr} {fd:aE} (z:Ha K C "__init__" q st f fd) (mk:makesIn K C=true) (kp:keepIn K (.ref C)=true):Mk K C f:=⟨mk,z.at_,z.fn,kp⟩
structure Cd(P:bU)(w:World)(K:Frag)(mg:Str->Option Value)(base:Heap)(CX:L2.LS)(k:Nat)(f:Addr)(fd:aE)(C:Addr)(cn m:Str)(ps:List Str)(sp:L2.Sp):Prop where
 ok:L2.dN P w K mg base CX k f fd ps sp
 bi:L2.Binds K fd ps []
 me:C5 K cn m C f
structure Ji(P:bU)(w:World)(K:Frag)(mg:Str->Option Value)(base:Heap)(k:Nat)(f:Addr)(fd:aE)(C:Addr)(cn:Str)(ps:List Str)(sp:L2.Sp):Prop where
 ok:L2.dN P w K mg base fh k f fd ps sp
 bi:L2.Binds K fd ps []
 Sh:Mk K C f
 ns:nsIn K bz cn=some (some (.ref C))
 mg:mg cn=some (.ref C)
end K2
end
section
namespace K2
open PySem PySem.Spec PyProof.Rows L2
noncomputable def vw(H:Hp)(a dx:Addr):Hp:=fun b=>if b=a then H b else if b=dx then H b else hr H b
noncomputable def jw(H1 H':Hp)(a sU:Addr):Hp:=fun b=>if b=a then H' b else if b=sU then some (.own a) else hj H1 (hr H') b
section
variable {P:bU} {w:World} {K:ay} {H1 H':Hp} {G1:Gp} {h h':Heap} {a b dx sU C C':Addr} {o:HO} {fs:List Addr} {fv Qv:List (Str×V)} {c:Str} {gs:List (Str×D)}
theorem uF(q:H1 b=none):vw H1 a dx b=none:=by
 unfold vw;split
 ·exact q
 ·split
  ·exact q
  ·exact yX q
theorem MG(q:H1 b=some o)(k:O8 o=false)(na:b≠a)(nd:b≠dx):vw H1 a dx b=none:=by unfold vw; rw [if_neg na,if_neg nd]; exact VB q k
theorem Co(q:H1 b=some o)(k:O8 o=true):vw H1 a dx b=some o:=by
 unfold vw;split
 ·exact q
 ·split
  ·exact q
  ·exact AD q k
theorem UI:vw H1 a dx a=H1 a:=by unfold vw; rw [if_pos rfl]
theorem RD(h:dx≠a):vw H1 a dx dx=H1 dx:=by unfold vw; rw [if_neg h,if_pos rfl]
theorem QZ:Kp (hr H1) (vw H1 a dx):=⟨fun _ _ e=>Co (lP e).1 (lP e).2,fun _ _ _ e=>Co (lP e).1 (lP e).2⟩
theorem SQ(x:pV P w H1 h)(ea:H1 a=some (.ins C dx fv)):pV P w (vw H1 a dx) h:=fun b o q=>by
 obtain⟨ed,rest⟩:=(show gE P w H1 h a (.ins C dx fv) from x a _ ea);have WX:dx≠a:=rest.2.1;by_cases na:b=a
 ·subst na;rw [UI,ea] at q; cases q;exact⟨(RD WX).trans ed,rest⟩
 by_cases nd:b=dx
 ·subst nd;rw [RD WX,ed] at q; cases q;exact(x b _ ed).there
 ·unfold vw at q;rw [if_neg na,if_neg nd] at q;exact(NS x b o q).kG (fun _ _ _ y=>y) (fun c r=>bT (show false=true from(lP r).2)) (fun c xs r=>Co (lP r).1 (lP r).2)
theorem joinM(un:Un fs [] (vw H1 a dx) H' h h')(k1:pV P w H1 h)(k2:pV P w H' h')(fr:∀ b∈fs,H1 b=none)(ea:H1 a=some (.ins C dx fv))(Kc:H' a=some (.ins C' sU Qv)) :
  Un fs [] H1 (jw H1 H' a sU) h h'/\pV P w (jw H1 H' a sU) h'/\Kp H1 (jw H1 H' a sU)/\Kp (hr H') (jw H1 H' a sU)/\∀ b o,H1 b=some o->b≠a->jw H1 H' a sU b=some o:=by
 have nx:∀ c:Addr,c∉([]:List Addr):=fun c=>bI;have no:∀ {p:Prop},false=true->p:=fun z=>bT z;obtain⟨ed,_,WX,_⟩:=(show gE P w H1 h a (.ins C dx fv) from k1 a _ ea);have oa:=(show gE P w H' h' a (.ins C' sU Qv) from k2 a _ Kc);obtain⟨To,_,VQ,_⟩:=id oa;have ed2:H' dx=some (.own a):=un.yr _ _ ((RD WX).trans ed);have x9:∀ b u v,H1 b=some u->H' b=some v->b≠a->b≠dx->u=v/\O8 u=true:=fun b u v q q' na nd=>by
  cases ku:O8 u with
  | false=>obtain⟨ob,eo⟩:=(k1 b u q).there; have:=un.free b ob eo (MG q ku na nd) (nx _); rw [q'] at this; cases this
  | true =>
   have r:=Co (a:=a) (dx:=dx) q ku;cases u with
   | tup xs=>have:=un.wH _ _ r; rw [q'] at this; cases this; exact⟨rfl,rfl⟩
   | pO ob x=>have:=un.vC _ _ _ r; rw [q'] at this; cases this; exact⟨rfl,rfl⟩
   | _=>exact no ku
 have ZF:sU=dx\/H1 sU=none:=by
  by_cases e:sU=dx
  ·exact .inl e
  ·right;cases q:H1 sU with
   | none=>rfl
   | some u=>obtain⟨rfl,k⟩:=x9 _ _ _ q To VQ e; exact no k
 have same:∀ b o,H1 b=some o->b≠a->jw H1 H' a sU b=some o:=fun b o q na=>by
  unfold jw; rw [if_neg na];by_cases e:b=sU
  ·rw [if_pos e];rcases ZF with z | z
   ·rw [e,z,ed] at q; exact q
   ·rw [e,z] at q; cases q
  ·rw [if_neg e]; exact VH q
 have new:∀ b o,hr H' b=some o->jw H1 H' a sU b=some o:=fun b o q=>by
  obtain⟨q',k⟩:=lP q;have na:b≠a:=fun z=>by rw [z,Kc] at q'; cases q'; exact no k
  have nd:b≠sU:=fun z=>by rw [z,To] at q'; cases q'; exact no k
  have nd2:b≠dx:=fun z=>by rw [z,ed2] at q'; cases q'; exact no k
  cases q1:H1 b with
  | none=>unfold jw; rw [if_neg na,if_neg nd,AE q1]; exact q
  | some u=>obtain⟨rfl,_⟩:=x9 b u o q1 q' na nd2; exact same b u q1 na
 have T1:∀ b u,H1 b=some u->b∉fs:=fun b u q z=>by rw [fr b z] at q; cases q
 have YM:∀ b xs,H1 b=some (.tup xs)->b≠a:=fun b xs q z=>by rw [z,ea] at q; cases q
 have naF:∀ b ob u,H1 b=some (.pO ob u)->b≠a:=fun b ob u q z=>by rw [z,ea] at q; cases q
 have YN:∀ b x,H1 b=some (.own x)->b≠a:=fun b x q z=>by rw [z,ea] at q; cases q
 refine⟨⟨fun c u e n hc hx=>un.keep c u e (uF n) hc hx,fun c u e n hc hx=>un.slot c u e (uF n) hc hx,fun c u e n hx=>?_,fun c u e hx=>un.there c u e hx,fun c xs q=>same c _ q (YM c xs q),fun c ob u q=>same c _ q (naF c ob u q),
  fun c ps q=>same c _ q (fun z=>by rw [z,ea] at q; cases q),fun c x q=>same c _ q (YN c x q)⟩,fun c o q=>?_,⟨fun c xs q=>same c _ q (YM c xs q),fun c ob u q=>same c _ q (naF c ob u q)⟩,⟨fun c xs q=>new c _ q,fun c ob u q=>new c _ q⟩,same⟩
 ·have hn:=un.free c u e (uF n) hx;have na:c≠a:=fun z=>by rw [z,ea] at n; cases n
  have nd:c≠sU:=fun z=>by rw [z,To] at hn; cases hn
  unfold jw; rw [if_neg na,if_neg nd,AE n]; exact yX hn
 ·by_cases na:c=a
  ·subst na;unfold jw at q; rw [if_pos rfl,Kc] at q; cases q;obtain⟨_,rest⟩:=oa;exact⟨by unfold jw; rw [if_neg VQ,if_pos rfl],rest⟩
  by_cases nd:c=sU
  ·subst nd;unfold jw at q; rw [if_neg na,if_pos rfl] at q; cases q;exact(k2 c _ To).there
  cases q1:H1 c with
  | some o1 =>
   have:=same c o1 q1 na;rw [this] at q; cases q;by_cases ht:∃ xs,o=.tup xs
   ·obtain⟨xs,rfl⟩:=ht;exact k2 c _ (un.wH c xs (Co q1 rfl))
   ·by_cases cd:c=dx
    ·subst cd;rw [ed] at q1; cases q1;obtain⟨ob,eo⟩:=(k1 c _ ed).there;exact un.there c ob eo (nx _)
    ·refine(k1 c o q1).kG (fun d u hd e=>?_) (fun d r=>same d _ r (YN d _ r)) (fun d xs r=>same d _ r (YM d xs r));rcases hd with rfl | hd
     ·cases ko:O8 o with
      | false=>exact un.keep _ u e (MG q1 ko na cd) (T1 _ _ q1) (nx _)
      | true =>
       cases o with
       | tup xs=>exact absurd ⟨xs,rfl⟩ ht
       | pO ob v =>
        have h1:=(k2 d _ (un.vC d ob v (Co q1 ko))).1;have h2:=(k1 d _ q1).1;rw [h2] at e; cases e;exact h1
       | _=>exact no ko
     ·refine un.keep d u e (MG hd rfl (YN d _ hd) fun z=>?_) (T1 _ _ hd) (nx _);rw [z,ed] at hd; cases hd; exact na rfl
  | none =>
   unfold jw at q; rw [if_neg na,if_neg nd,AE q1] at q;exact(NS k2 c o q).kG (fun d u _ e=>e) (fun d r=>no (lP r).2) (fun d xs r=>new d _ r)
theorem QW(ab:lA K H1 G1)(hg:G1 a=some (.ins c gs))(Kc:H' a=some (.ins C sU Qv))(uf:cI K bz c=some (some (.ref C)))(hn:Qv.map (·.1)=gs.map (·.1))(rs:bx K H' (Qv.map (·.2)) (gs.map (·.2)))
  (k1:Kp H1 (jw H1 H' a sU)) (k2:Kp (hr H') (jw H1 H' a sU)) (same:∀ b o,H1 b=some o->b≠a->jw H1 H' a sU b=some o):Mv K H1 G1 (jw H1 H' a sU) G1:=by
 have OM:lA K (jw H1 H' a sU) G1:=fun b g e=>by
  by_cases na:b=a
  ·subst na;rw [hg] at e; cases e;exact⟨C,sU,Qv,by unfold jw; rw [if_pos rfl]; exact Kc,uf,hn,rs.hr.mono k2⟩
  ·cases q:H1 b with
   | none=>exact absurd q (ab b g e).tracked
   | some o=>exact(ab b g e).mono k1 (by rw [same b o q na,q])
 exact⟨fun b o e n=>⟨same b o e (fun z=>by subst z; rw [hg] at n; cases n),n⟩,fun b n=>by
  cases q:G1 b with
  | none=>exact absurd q n
  | some g=>exact(OM b g q).tracked,OM⟩
end
section
variable {X:Cx} {pins:List (Addr×Obj)} {σ:L2.St} {H1:Hp} {G1:Gp} {s1:aK} {k:Nat} {f:Addr} {fd:aE} {ps:List Str} {sp:iw}
theorem KQ{us:List Value}{vs:List V}{ds:List D}{Q2:DK}{E2:lq}{a:Addr}{c:Str}{gs:List (Str×D)}(F:dN X.prog X.w X.K X.mg X.base (Ce X.prog X.w) k f fd ps (mI X.K X.mg sp))(hr:jf k X.A)(hb:Binds X.K fd ps [])(I:Inv X pins σ H1 s1)(ab:lA X.K H1 G1)
  (hg:G1 a=some (.ins c gs)) (r:Vals vs us) (rd:bx X.K H1 vs ds) (h:sp ds (only a (.ins c gs)) Q2 E2) (hQ:∀ d G',Q2 d G'->G' a=some (.ins c gs)) (hE:∀ ex G',E2 ex G'->G' a=some (.ins c gs)):wpAny (model X.prog X.w) X.A (call (.ref f) us)
   (fun u s'=>∃ d G' Hj,Inv X pins σ Hj s'/\Mv X.K H1 G1 Hj G1/\Q2 d G')
   (fun e s'=>∃ (a C t:Addr) (B:Heap) (ex:Ex) (Hj:Hp),e=.ref a/\Inv X pins σ Hj s'/\Mv X.K H1 G1 Hj G1/\wj B X.stack a (.ref C) (.ref t) s'.heap /\
    (∀ b o,s'.heap.get? b=some o->b∉tF X.stack->(s1.heap.get? b≠none\/Hj b≠none)->B.get? b=some o)/\Hj a=none/\s1.heap.get? a=none/\X.mg ex.cls=some (.ref C)/\∃ G',E2 ex G') s1:=by
 obtain⟨C0,dx,fv,ea,uf,hn,rs⟩:=ab a _ hg;have NN:mI X.K X.mg sp vs (vw H1 a dx) (fun v H'=>∃ d G',lA X.K H' G'/\Q2 d G') (W8 X.K X.mg E2) :=
  ⟨ds,only a (.ins c gs),Q2,E2,rd.hr.mono QZ,(fun b g z=>by
   unfold only at z;split at z
   ·rename_i e;subst e; cases z;exact⟨C0,dx,fv,UI.trans ea,uf,hn,rs.hr.mono QZ⟩
   ·cases z),h,fun d G' v H' q mv _=>⟨d,G',mv.ab,q⟩,fun ex C H' G' q OM hm=>⟨ex,C,G',rfl,hm,OM,q⟩⟩
 have hl:us.length=ps.length:=by rw [<-r.length]; exact F.len _ _ _ _ NN
 have e0:=I.Tn;have e1:Hd X.prog X.w X.K X.mg X.base X.A X.stack s1 (vw H1 a dx):=⟨e0.frames,e0.mod,fun b o q=>⟨(e0.bs b o q).1,uF (e0.bs b o q).2⟩,e0.Ma,e0.vB,fun b z=>uF (e0.Oc b z),SQ e0.eL ea,e0.bare⟩;have hbu:=hb s1 us I.wy (by rw [cz]; exact hl);rw [cz] at hbu;refine wpAny_call (zf (F.run X.A X.stack s1 (vw H1 a dx) ⟨us,[]⟩ us vs _ _ hr e1 hbu r NN) fun res s' hq=>?_);cases res with
 | error e =>
  obtain⟨a0,C,t,B,H',rfl,os,bare,un,eL,hB,fl,ha,hs,ex,C',G2,ec,hm,ab2,hE2⟩:=hq;cases ec;obtain⟨C1,sU,Qv,Kc,rS,Q7,KR⟩:=ab2 a _ (hE _ _ hE2);obtain⟨UJ,Iq,Su,Ss,same⟩:=joinM un I.eL eL e0.Oc ea Kc;have To:H' sU=some (.own a):=(show gE X.prog X.w H' s'.heap a (.ins C1 sU Qv) from eL a _ Kc).1;have h1a:H1 a0=none:=by
   cases q:H1 a0 with
   | none=>rfl
   | some u=>obtain⟨o,e⟩:=(I.eL a0 u q).there; rw [e] at hs; cases hs
  refine⟨a0,C,t,B,ex,jw H1 H' a sU,rfl,I.Rk (ch:=[]) os UJ Iq bare (fun b z=>absurd z (by simp)),QW ab hg Kc rS Q7 KR Su Ss same,fl,fun b o e n c=>hB b o e n ?_,?_,hs,hm,G2,hE2⟩
  ·rcases c with c | c
   ·exact .inl c
   ·cases q:H1 b with
    | some u=>obtain⟨o1,e1⟩:=(I.eL b u q).there; exact .inl (by rw [e1]; simp)
    | none =>
     right;intro z;apply c;unfold jw;have na:b≠a:=fun y=>by rw [y,Kc] at z; cases z
     have nd:b≠sU:=fun y=>by rw [y,To] at z; cases z
     rw [if_neg na,if_neg nd,AE q]; exact yX z
  ·unfold jw;have na:a0≠a:=fun y=>by rw [y,Kc] at ha; cases ha
   have nd:a0≠sU:=fun y=>by rw [y,To] at ha; cases ha
   rw [if_neg na,if_neg nd,AE h1a]; exact yX ha
 | ok fl =>
  cases fl with
  | ret u =>
   obtain⟨v,H',os,bare,un,eL,rv,d,G',ab2,q⟩:=hq;obtain⟨C1,sU,Qv,Kc,rS,Q7,KR⟩:=ab2 a _ (hQ _ _ q);obtain⟨UJ,Iq,Su,Ss,same⟩:=joinM un I.eL eL e0.Oc ea Kc;exact⟨d,G',jw H1 H' a sU,I.Rk (ch:=[]) os UJ Iq bare (fun b z=>absurd z (by simp)),QW ab hg Kc rS Q7 KR Su Ss same,q⟩
  | next=>exact bP hq
  | brk=>exact bP hq
  | cont=>exact bP hq
end
noncomputable def GZ(X:Cx)(m:Str)(p:Str×iw):Prop:=∃ (C f:Addr) (fd:aE) (ps:List Str) (k:Nat),C5 X.K p.1 m C f/\dN X.prog X.w X.K X.mg X.base (Ce X.prog X.w) k f fd ps (mI X.K X.mg p.2)/\jf k X.A/\Binds X.K fd ps []
theorem sP{X:Cx}{m:Str}:∀ p∈([]:List (Str×iw)),GZ X m p:=fun p h=>by cases h
theorem qb{X:Cx}{m c:Str}{sp:iw}{ms:List (Str×iw)}{C f:Addr}{fd:aE}{ps:List Str}{k:Nat}(M:C5 X.K c m C f)(F:dN X.prog X.w X.K X.mg X.base (Ce X.prog X.w) k f fd ps (mI X.K X.mg sp))(hr:jf k X.A)(hb:Binds X.K fd ps [])(t:∀ p∈ms,GZ X m p):∀ p∈(c,sp) :: ms,GZ X m p:=fun p h=>by
 rcases List.mem_cons.mp h with rfl | h
 ·exact⟨C,f,fd,ps,k,M,F,hr,hb⟩
 ·exact t p h
structure Ku(X:Cx)(cn:Str)(D:Addr)(cat:List Str):Prop where
 gl:Gl X cn
 mg:X.mg cn=some (.ref D)
 cls:∃ Xd newD,i8 X.K D Xd newD=true/\Xd.contains (.type "BaseException")=true
 cat:∀ c,cat.contains c=true->∃ C Ko newId,cI X.K bz c=some (some (.ref C))/\i8 X.K C Ko newId=true/\subIn X.K C (.ref D)=true
section
variable {X:Cx} {ms:List (Str×iw)} {m cn:Str} {D:Addr} {cat:List Str} {apos pos np FY ep:Pos} {o e:Expr} {es:List Expr} {to:iu} {t:xr} {th:fN} {PF:Stmt} {zp:List Stmt}
theorem zK{pl:Sem Bool}(Ms:∀ p∈ms,GZ X m p)(ho:iL X o to)(ha:B5 X (e :: es) t)
  (yu:autoParam (bO (e :: es) X.env=(false,eval e X.env) :: bO es X.env) Ar._auto_1) (mZ:autoParam ((kM pos (bO es X.env)).any (·.1)=false) Ar._auto_1)
  (ht:autoParam (eval (.Call (.Attribute o m apos) (e :: es) [] pos) X.env=(do
   let ov ← eval o X.env
   standAt apos.atName
   let (f,first) ← C8 [ov] (EY ov m pl)
   callWith pos f first (kM pos (bO (e :: es) X.env)) (backToKw pos (C7 [] X.env)))) Ar._auto_1) :
  iL X (.Call (.Attribute o m apos) (e :: es) [] pos) (yZ ms m to t):=by
 intro E pins s σ H τ G Q hE I h;refine mK (pl:=pl) (lC ho hE I h fun x H1 d G1 u s1 I1 m1 r1 kI q1=>?_) ht;obtain⟨a,c,fs,sp,rfl,hg,SW,hl,q⟩:=q1;obtain⟨C,f,fd,ps,k,M,F,hr,hb⟩:=Ms _ SW;cases kI;cases r1;obtain⟨C',dx,fv,hH,uf,hn,rs⟩:=I1.ab a _ hg;have rS:=M.ns.symm.trans uf;cases rS;refine qh I1.inv hH M.cl M.me (sR fs fv hn hl) ?_;refine jr (first:=[.ref a]) (h₀:=X.base) I.inv.ok.mod.Ny M.me.kp (uI ha pos hE I1 q fun vs H2 ds G2 us s2 kD m2 r rd q2=>⟨kD.inv.wy,?_⟩) yu mZ;refine ix (zB (E:=W8 X.K X.mg E) (us:=.ref a :: us) (vs:=.ref a :: vs) F hr hb .nil (fun pins σ H s e s' I hq=>hE.pass pins σ H s s' e I hq) kD.inv (.cons rfl r) (Q:=Bb X.K H2 G2 Q) ?_) fun _ _ z=>(rg.of z).trans (m1.trans m2);rw [cz];exact⟨.ref a :: ds,G2,Q,E,.cons (.ref a) rd,kD.ab,q2,fun d G' v H' q' m' JC=>⟨d,G',m',JC,q'⟩,fun ex C H' G' q' OM SX=>⟨ex,C,G',rfl,SX,OM,q'⟩⟩
theorem EB{pins:List (Addr×Obj)}{σ:L2.St}{H H1 Hj:Hp}{τ:iH}{G G1:Gp}{s1 s':aK}{Dn:j0}{a C t0:Addr}{B:Heap}{ex:Ex}(A0:Rx X)(L:Ku X cn D cat)(Zf:∀ v,uq (marked X v) (PF :: zp) th)(J1:Inv X pins σ H1 s1)(XW:OV X.K H1 σ τ)(ab1:lA X.K H1 G1)(m1:Mv X.K H G H1 G1)
  (I':Inv X pins σ Hj s') (mv:Mv X.K H1 G1 Hj G1) (fl:wj B X.stack a (.ref C) (.ref t0) s'.heap) (hB:∀ b o,s'.heap.get? b=some o->b∉tF X.stack->(s1.heap.get? b≠none\/Hj b≠none)->B.get? b=some o)
  (SX:X.mg ex.cls=some (.ref C)) (L8:cat.contains ex.cls=true)
  (q':th (fun _ _=>False) ⟨fun lp G'=>Dn.nx lp G',fun _ _=>False,fun _ _=>False,fun _ _=>False⟩ τ G1) (VR:(cn == ("__debug__" : Str))=false) :
  wpAny (model X.prog X.w) X.A (noteFrame (.ref a) X.env) (fun _ jP=>wpAny (model X.prog X.w) X.A (setFlight (.ref a) none) (fun _ zm=>wpAny (model X.prog X.w) X.A (handleBy (.ref a) X.env [.ExceptHandler (some (.Name cn np)) none (PF :: zp) FY]) (Ho X pins H G Dn) X.xe zm) X.xe jP) X.xe s':=by
 obtain⟨yu,Pd,hex⟩:=A0;obtain⟨hgD,hmD,⟨Xd,newD,qD,bD⟩,ZI⟩:=L;obtain⟨C',Ko,newId,uf,qC,Zh⟩:=ZI ex.cls L8;have eC:C'=C:=by
  have:=gz J1.ok.mod.Ny J1.ok.mod.glob uf;rw [SX] at this; cases this; rfl
 subst eC;rw [yu] at fl;refine wpAny_looks_onW (L:=X.env.locals) (by rw [<-yu]; exact J1.ok.frames) Pd fl fun h4 held up4=>?_;refine wpAny_landsW held fun h5 Z4 up5=>?_;have I5:Inv X pins σ Hj { s' with heap:=h5 }:=C6 I' J1 yu Pd hex hB Z4.1 (up4.trans up5) _;refine wpAny_handleBy_cons (codeAny_handlers_test ?_) (by intro z; cases z);refine vp (X:=marked X (.ref a)) (Hb I5) hgD hmD ?_ VR;obtain⟨bm,N,nm,qn,bs,hdct,sn,sub,ab,col,dd,k0,k1,k2,k3,k5,mN,hC,_,_,T⟩:=El I5.wy qC;obtain⟨Xe,N',nm',qn',bs',Ra,WB,UQ,OM,Wh,Tr,k0',k1',k2',k3',k5',mN',hD,_,_,T'⟩:=El I5.wy qD;obtain⟨oe,he5,hce⟩:=Z4.there;refine K9 hC hD he5 hce (T'.hasType bD) ?_;rw [PD I5.wy hC Zh];refine codeAny_handlers_suite ?_;refine lands_againW Z4 fun h6 fl6 up6=>?_;have I6:Inv X pins σ Hj { s' with heap:=h6 }:=C6 I' J1 yu Pd hex hB fl6.1 ((up4.trans up5).trans up6) _;refine lb (Zf (.ref a) (fun _ _=>False) pins _ _ _ τ G1 _ (Lk.none fun _ _ z=>z) ⟨Hb I6,XW.mono (mv.kp ab1),mv.ab⟩ q') (fun fw s9 q9=>?_) (fun _ _ z=>z.elim);cases fw with
 | next =>
  obtain⟨Uw,H9,TQ,G9,I9,m9,q9⟩:=q9;exact⟨Uw,H9,TQ,G9,⟨Je J1.ok I9.inv,I9.st,I9.ab⟩,m1.trans (mv.trans m9),q9⟩
 | brk=>obtain⟨_,_,_,_,_,_,z⟩:=q9; exact z.elim
 | cont=>obtain⟨_,_,_,_,_,_,z⟩:=q9; exact z.elim
 | ret u=>obtain⟨_,_,_,_,_,_,_,_,_,z⟩:=q9; exact z.elim
theorem Fe {pl:Sem Bool} (A0:Rx X) (L:Ku X cn D cat) (Zf:∀ v,uq (marked X v) (PF :: zp) th) (Ms:∀ p∈ms,GZ X m p) (ho:∀ EX,iL (X.pf EX) o to) (ha:∀ EX,B5 (X.pf EX) (e :: es) t) (VR:autoParam ((cn == ("__debug__" : Str))=false) Ad._auto_1)
  (yu:autoParam (bO (e :: es) X.env=(false,eval e X.env) :: bO es X.env) Ar._auto_1) (mZ:autoParam ((kM pos (bO es X.env)).any (·.1)=false) Ar._auto_1)
  (ht:autoParam (eval (.Call (.Attribute o m apos) (e :: es) [] pos) X.env=(do
   let ov ← eval o X.env
   standAt apos.atName
   let (f,first) ← C8 [ov] (EY ov m pl)
   callWith pos f first (kM pos (bO (e :: es) X.env)) (backToKw pos (C7 [] X.env)))) Ar._auto_1)
  (hs:autoParam (zc (.Call (.Attribute o m apos) (e :: es) [] pos) none ep.line X.env=pure false) Ar._auto_1) :
  Wr X [.ExceptHandler (some (.Name cn np)) none (PF :: zp) FY] [.Expr (.Call (.Attribute o m apos) (e :: es) [] pos) ep] (GF ms m to t cat th):=by
 intro pins s σ H0 G0 H τ G Dn m0 I h;refine xC (wpAny_Expr_any ?_ I.inv.quiet hs);unfold XG;generalize ZU:(fun (e:Value) (fK:aK)=>wpAny (model X.prog X.w) X.A (noteFrame e X.env) (fun _ jP=>wpAny (model X.prog X.w) X.A (setFlight e none) (fun _ zm=>wpAny (model X.prog X.w) X.A (handleBy e X.env [.ExceptHandler (some (.Name cn np)) none (PF :: zp) FY]) (Ho X pins H0 G0 Dn) X.xe zm) X.xe jP) X.xe fK)=EX;have I0:I2 (X.pf EX) pins σ H τ G s:=⟨I.inv.pf EX,I.st,I.ab⟩;refine mK (pl:=pl) (lC (X:=X.pf EX) (ho EX) (Lk.none fun _ _ z=>z) I0 h fun x H1 d G1 u s1 I1 m1 r1 kI q1=>?_) ht;obtain⟨a,c,fs,sp,rfl,hg,SW,hl,q⟩:=q1;obtain⟨C,f,fd,ps,k,M,F,hr,hb⟩:=Ms _ SW;cases kI;cases r1;obtain⟨C',dx,fv,hH,uf,hn,rs⟩:=I1.ab a _ hg;have rS:=M.ns.symm.trans uf;cases rS;refine qh I1.inv.nq hH M.cl M.me (sR fs fv hn hl) ?_;refine jr (first:=[.ref a]) (h₀:=X.base) I.inv.ok.mod.Ny M.me.kp (uI (X:=X.pf EX) (ha EX) pos (Lk.none fun _ _ z=>z) I1 q fun vs H2 ds G2 us s2 kD m2 r rd q2=>⟨kD.inv.wy,?_⟩) yu mZ;have J2:Inv X pins σ H2 s2:=kD.inv.nq;have mm:=m0.trans (m1.trans m2);refine lb (KQ (us:=.ref a :: us) (vs:=.ref a :: vs) F hr hb J2 kD.ab q2.1 (.cons rfl r) (.cons (.ref a) rd) q2.2 (fun _ _ z=>z.1) (fun _ _ z=>z.1)) ?_ ?_
 ·rintro u s' ⟨d,G',Hj,I',mv,q'⟩;exact kL ⟨σ,Hj,τ,G2,⟨I',kD.st.mono (mv.kp kD.ab),mv.ab⟩,mm.trans mv,q'.2⟩
 ·rintro ev s' ⟨a0,C0,t0,B,ex,Hj,ea,I',mv,fl,hB,ha',SI,SX,G',_,L8,q'⟩;subst ea; subst ZU;exact EB A0 L Zf J2 kD.st kD.ab mm I' mv fl hB SX L8 q' VR
end
end K2
end
section
namespace K2
open PySem PySem.W PySem.Spec PyProof.Rows PySem.Calls
theorem Lf{p q:bU}{loose:List Str}{Xt:aK->Bool}{α:Type}{Yf:aK->α}{Ya:World->α}{N:Nat}(e:opening p=plainProg p.main.scope.names)(hN:Nat.ble 600 N=true)(f:∀ s,fenceModules? p s=some s)
  (h:∀ (w:World) (os:kd),(topFrom iW p w N ⟨gO w.params,ki [],iV,uB,os⟩).map (fun s=>(openSeen q loose (nj p.main.body) Xt true s,Yf s))=some (LU q loose,Ya w)):LeftO p q loose Xt Yf Ya N:=fun w=>by
 obtain⟨⟨h',gs,d,k,os⟩,e1,e2⟩:=Option.map_eq_some_iff.mp (boot_open e hN f w);obtain⟨rfl,rfl,rfl,rfl⟩:h'=gO w.params/\gs=ki []/\d=iV/\k=uB:=by simpa using e2
 unfold openEnds;rw [e1];exact h w os
noncomputable abbrev Jw(l:OpenLaw)(q:bU):Bool:=chainsOk q&&opensWell l.row.prog&&(frees l.row.toRowW&&l.row.within.isEmpty)
noncomputable abbrev RC(l:OpenLaw)(q:bU)(s:aK):Bool:=xlAt q [] s&&recOk l.row.records s
theorem Lq{l:OpenLaw}{q:bU}{loose:List Str}{K:gA->Frag}{as:List Addr}{d:DefRec}{N:Nat}(ok:l.wellSaid=true)(e:opening l.row.prog=plainProg l.row.prog.main.scope.names)(hN:Nat.ble 600 N=true)(f:∀ s,fenceModules? l.row.prog s=some s)(hK:∀ P,as=(K P).map (·.1))
  (h:∀ (w:World) (os:kd),(topFrom iW l.row.prog w N ⟨gO w.params,ki [],iV,uB,os⟩).map (fun s=>(openSeen q loose (nj l.row.prog.main.body) (RC l q) true s,as.map s.heap.get?))=some (LU q loose,(K w.params).map fun p=>some p.2))
  (hd:defOf q l.row.name=some (d,[])) (hp:l.row.prog.theDef l.row.name=some (d.params,d.body,d.scope)) (hk:kwWritten? d.params.kwonlyargs d.params.kw_defaults=some []) (hr:(!l.row.writes||l.row.records.isEmpty)=true) (ht:Jw l q=true) (hb:l.row.prog.bare) (hw:l.row.toRowW.promised)
  (c:WalkO q loose (XL q []) (InK K) l.row.toRowW d [] fun f vs=>Jk f vs):l.Holds :=
 holds_law ok fun k1=>holds_open (Lf (Yf:=Hook.obs (kHook K as hK)) (Ya:=Hook.val (kHook K as hK)) e hN f h) (Hook.of (kHook K as hK)) (Hook.keeps (kHook K as hK)) (fun s x=>xl_of s (Bool.and_eq_true_iff.mp x).1) XL.keeps hd hp hk (fun s x=>recFacts_of (Bool.and_eq_true_iff.mp x).2) hr k1 ht hb hw c
structure At(K:Frag)(x:Str)(st:Stmt)(f:Addr)(fd:aE):Prop where
 a:nsIn K bz x=some (some (.ref f))
 F:L2.kE K x x st f fd
theorem At.mg{K:Frag}{h:Heap}{mg:Str->Option Value}{x:Str}{st:Stmt}{f:Addr}{fd:aE}(z:At K x st f fd)(X:K.In h)(G:h.Ns bz mg):mg x=some (.ref f):=mg_of X G z.a
theorem fk{K:Frag}{x:Str}{st:Stmt}{f:Addr}{oc:Value}{od an:Option Addr}{JN:Array (Option Value)}{kV doc pm mq ct:Value}(a:autoParam (nsIn K bz x=some (some (.ref f))) Aq._auto_1)(l:autoParam (K.lookup f=some ⟨oc,od,.func (fnOf x x (L2.kb st) (L2.gZ st) (L2.aR st) .none kV doc pm an mq ct),JN⟩) Aq._auto_1)
  (c:autoParam (codeIn K mq x=true) Aq._auto_1) (k:autoParam (keepIn K (.ref f)=true) Aq._auto_1):At K x st f (fnOf x x (L2.kb st) (L2.gZ st) (L2.aR st) .none kV doc pm an mq ct):=⟨a,L2.Oa l c k⟩
structure lU(P:bU)(w:World)(K:Frag)(mg:Str->Option Value)(base:Heap)(CX:L2.LS)(k:Nat)(f:Addr)(fd:aE)(x:Str)(ps:List Str)(sp:L2.Sp):Prop where
 ok:L2.dN P w K mg base CX k f fd ps sp
 mg:mg x=some (.ref f)
 kp:keepIn K (.ref f)=true
 bi:L2.Binds K fd ps []
end K2
end
section
namespace K2
open PySem PySem.W PySem.Spec PyProof.Rows PySem.Calls
noncomputable def uH(tb:String->Option Builtin)(p:bU)(w:World)(pG:Nat)(ann:Option Value):Nat->nk->Thread->Option nk
 | 0,_,_=>none
 | n+1,s,t=>match through t with
  | true=>some s
  | false=>match stepOk pG ann t with
   | false=>none
   | true=>match stepT (denote tb) p w s t with
    | some (s',t')=>uH tb p w pG ann n s' t'
    | none=>none
theorem PL{tb:String->Option Builtin}{p:bU}{w:World}{pG:Nat}{ann:Option Value}:∀ {n:Nat} {s s':nk} {t:Thread},uH tb p w pG ann n s t=some s'->topRun tb p w pG ann n s.abs t=some s'.abs:=by
 intro n;induction n with
 | zero=>intro s s' t h; cases h
 | succ n ih =>
  intro s s' t h;unfold uH at h;unfold topRun;cases ht:through t with
  | true=>rw [ht] at h; cases h; rfl
  | false =>
   rw [ht] at h;cases hk:stepOk pG ann t with
   | false=>rw [hk] at h; cases h
   | true =>
    rw [hk] at h;cases hs:stepT (denote tb) p w s t with
    | none=>rw [hs] at h; cases h
    | some r =>
     obtain⟨jP,XQ⟩:=r;rw [hs] at h;rw [stepT_spec hs];exact ih h
noncomputable def bt(l:List Obj):BT:=(l.foldl (fun (p:BT×Nat) o=>(p.1.ins p.2 o,p.2+1)) (BT.nil,0)).1
noncomputable def OJ(P:gA)(os:kd):nk:=⟨bt (gO P).objs.toList,(gO P).objs.size,(gO P).life,ki [],iV,uB,os⟩
theorem LL(P:gA)(os:kd):(OJ P os).abs=⟨gO P,ki [],iV,uB,os⟩:=by kernel_rfl
noncomputable abbrev QX{α:Type}(p q:bU)(loose:List Str)(Xt:aK->Bool)(Yf:aK->α)(P:gA)(s:aK):=((staticsOk (nj p.main.body) (gO P) s.heap&&namesBound p s.heap&&gensDone s&&laidKept (gO P) s.heap),openSeen q loose (nj p.main.body) Xt true s,Yf s)
end K2
end
section
namespace K2
open PySem PySem.W PySem.Spec PyProof.Rows PySem.Calls
noncomputable def V7(tb:String->Option Builtin)(p:bU)(w:World)(pG:Nat)(ann:Option Value):Nat->nk->Thread->Option (nk×Thread)
 | 0,s,t=>some (s,t)
 | n+1,s,t=>match through t with
  | true=>none
  | false=>match stepOk pG ann t with
   | false=>none
   | true=>match stepT (denote tb) p w s t with
    | some (s',t')=>V7 tb p w pG ann n s' t'
    | none=>none
section
variable {tb:String->Option Builtin} {p:bU} {w:World} {pG:Nat} {ann:Option Value} {b:List Stmt} {env:Env} {c:Code} {q pos p':Pos}
theorem Tb:∀ {n:Nat} {s s':nk} {t t':Thread},V7 tb p w pG ann n s t=some (s',t')->topGo tb p w pG ann n s.abs t=some (s'.abs,t'):=by
 intro n;induction n with
 | zero=>intro s s' t t' h; cases h; rfl
 | succ n ih =>
  intro s s' t t' h;unfold V7 at h;unfold topGo;cases ht:through t with
  | true=>rw [ht] at h; cases h
  | false =>
   rw [ht] at h;cases hk:stepOk pG ann t with
   | false=>rw [hk] at h; cases h
   | true =>
    rw [hk] at h;cases hs:stepT (denote tb) p w s t with
    | none=>rw [hs] at h; cases h
    | some r =>
     obtain⟨jP,XQ⟩:=r;rw [hs] at h;rw [stepT_spec hs];exact ih h
theorem LH{nA nB N:Nat}{s0 sA sB:nk}{r:aK}(h1:V7 tb p w pG ann nA s0 (topStub p)=some (sA,⟨denote tb (.body b env),c,pos,[ni q]⟩))(h2:Mg tb p w pG ann 1 nB sA (blockOf b env c pos [ni q])=some (.next,sB,c,p'))
  (k:topRun tb p w pG ann N sB.abs (restOf b env c p' [ni q])=some r):topRun tb p w pG ann (nA+(nB+N)) s0.abs (topStub p)=some r:=go_top (Tb h1) (piece_block (segRun_of h2) k)
theorem vP(k:Nat){n N:Nat}{s s':nk}{r:aK}(h:Mg tb p w pG ann 1 n s (piecesOf (b.take k) env c pos [ni q])=some (.next,s',c,p'))
  (hk:topRun tb p w pG ann N s'.abs (restOf (b.drop k) env c p' [ni q])=some r):topRun tb p w pG ann (n+N) s.abs (restOf b env c pos [ni q])=some r:=by
 have:=piece_app (segRun_of h) hk
 rwa [cT] at this
end
theorem PB{p q:bU}{loose:List Str}{Xt:aK->Bool}{α:Type}{Yf:aK->α}{Ya:World->α}{N M:Nat}{w:World}{os:kd}{Qa:Nat}{ann:Option Value}{sL:nk}{tL:Thread}
  (hz:((gO w.params).isNs bz,(gO w.params).objs.size,(gO w.params).nsMap bz "__annotations__")=(true,Qa,ann))
  (h:(uH iW p w Qa ann M sL tL).map (fun s=>QX p q loose Xt Yf w.params s.abs)=some (true,LU q loose,Ya w))
  (k:∀ r,topRun iW p w Qa ann M sL.abs tL=some r->topRun iW p w Qa ann N (OJ w.params os).abs (topStub p)=some r) :
  (topFrom iW p w N ⟨gO w.params,ki [],iV,uB,os⟩).map (fun s=>(openSeen q loose (nj p.main.body) Xt true s,Yf s))=some (LU q loose,Ya w):=by
 obtain⟨s,e1,e2⟩:=Option.map_eq_some_iff.mp h;have r:=k _ (PL e1);rw [LL] at r;obtain⟨z1,z2,z3⟩:_/\_/\_:=by simpa only [HC] using hz
 obtain⟨l1,l2,l3⟩:_/\_/\_:=by simpa only [HC] using e2
 have t:topFrom iW p w N ⟨gO w.params,ki [],iV,uB,os⟩=some s.abs:=by
  unfold topFrom;dsimp only;have g:((ki []:Array GenState).size == 0)=true:=rfl;rw [z1,z2,z3,g,tJ,r];dsimp only [tj];rw [l1]
 rw [t];exact congrArg some (Prod.ext l2 l3)
end K2
end
section
namespace K2
open PySem (Str)
open Enc (enc)
theorem jQ{α:Type} [DecidableEq α] [Enc α]{G G1:Gp}{p:Nat}{xs:List α}{Q:DK}(l:e8 G G1)(hp:G p=none)(h1:G1 p=some (.lst (xs.map enc)))(q:Q (enc xs) G):Jh G1 (.ref p) Q :=
 Iu l hp h1 (Jf.same _) q
theorem eg{α:Type}{f:α->D}{g:B4}{body:fN}{ok:Gp->Prop}{xs:List α}{E:lq}{K:j0}{τ:iH}{G:Gp}(I:List α->iH->Gp->Prop)
  (h0:I [] τ G) (eL:∀ pre τ G,I pre τ G->ok G)
  (step:∀ (pre:List α) (x:α) (post:List α) τ G (N:iH->Gp->Prop),xs=pre++x :: post->I pre τ G->(∀ Cn G2,I (pre++[x]) Cn G2->N Cn G2) ->
   g E (f x) τ G fun tK G1=>body E { K with nx:=N,ct:=N,bk:=K.nx } tK G1)
  (fin:∀ τ G,I xs τ G->K.nx τ G):rV g body ok (xs.map f) E K τ G:=by
 have main:∀ (post pre:List α) τ G,xs=pre++post->I pre τ G->rV g body ok (post.map f) E K τ G:=by
  intro post;induction post with
  | nil =>
   intro pre τ G e h;rw [cz] at e;subst e;exact⟨eL _ _ _ h,fin _ _ h⟩
  | cons d post ih =>
   intro pre τ G e h;refine⟨eL _ _ _ h,?_⟩;exact step pre d post τ G _ e h fun Cn G2 h2=>ih (pre++[d]) Cn G2 (by rw [e,cw]; rfl) h2
 exact main xs [] τ G rfl h0
theorem jm{α:Type}{f:α->D}{g:B4}{c:Option yb}{e:iu}{ok:Gp->Prop}{xs:List α}{E:lq}{τ:iH}{G:Gp}{Q:List D->Gp->Prop}(I:List α->List D->iH->Gp->Prop)
  (h0:I [] [] τ G) (eL:∀ pre acc τ G,I pre acc τ G->ok G)
  (step:∀ (pre:List α) (x:α) (post:List α) (acc:List D) τ G (N:iH->List D->Gp->Prop),xs=pre++x :: post->I pre acc τ G->(∀ Cn LN G2,I (pre++[x]) LN Cn G2->N Cn LN G2) ->
   g E (f x) τ G fun tK G1=>match c with
    | none=>e E tK G1 fun x G2=>N tK (acc++[x]) G2
    | some c=>c E tK G1 fun k G2=>if k=true then e E tK G2 fun x G3=>N tK (acc++[x]) G3 else N tK acc G2)
  (fin:∀ acc τ G,I xs acc τ G->Q acc G):jb g c e ok (xs.map f) E τ G [] Q:=by
 have main:∀ (post pre:List α) (acc:List D) τ G,xs=pre++post->I pre acc τ G->jb g c e ok (post.map f) E τ G acc Q:=by
  intro post;induction post with
  | nil =>
   intro pre acc τ G e h;rw [cz] at e;subst e;exact⟨eL _ _ _ _ h,fin _ _ _ h⟩
  | cons d post ih =>
   intro pre acc τ G e' h;refine⟨eL _ _ _ _ h,?_⟩;have:=step pre d post acc τ G (fun Cn LN G2=>jb g c e ok (post.map f) E Cn G2 LN Q) e' h fun Cn LN G2 h2=>ih (pre++[d]) LN Cn G2 (by rw [e',cw]; rfl) h2;cases c with
   | none=>exact this
   | some c=>exact this
 exact main xs [] [] τ G rfl h0
theorem dP{α:Type} [DecidableEq α] [Enc α]{xs:List α}{G:Gp}{R:List D->(Gp->Prop)->Gp->Prop}(h:R (xs.map enc) (fun _=>True) G):NM (enc xs) G R:=h
theorem Hl{n:Nat}(h:n<=1000):n<=SZ:=by unfold SZ; lia
theorem tw{n:Nat}(h:n<=1000):n < SZ:=by unfold SZ; lia
noncomputable abbrev Rows:=List (List T3)
noncomputable def T3.s(p:T3):T2:=⟨p.a,p.b⟩
structure Dr(rows:Rows):Prop where
 nd:(rows.flatten.map T3.s).Nodup
 way:∀ p∈rows.flatten,p.b=0\/p.b=1
 hand:∀ p∈rows.flatten,p.c=1\/p.c=-1
 zX:∀ p∈rows.flatten,(⟨p.a,1 - p.b,p.c⟩:T3)∈rows.flatten
 Qy:rows.flatten.length<=24
 str:rows.length<=3
namespace P
noncomputable def iz:iw:=UU (fun rows:Rows=>rows.flatten.length<=1000) fun rows=>rows.flatten
noncomputable def rJ:fN :=
 (bF (bw (eG aM) (aH 1))
 (bF (du (ic (ah 0)) (aH 2) (dH (oV uA yW (ah 1) (aj (ah 2) aM))))
 (bM (c7 (ah 1)))))
theorem Bd(ds:List D)(G:Gp)(Q:DK)(h:iz ds G Q fun _ _=>False):rJ (fun _ _=>False) (ends Q) (aZ 3 ds) G:=by
 obtain⟨rows,rfl,hl,q⟩:=h;unfold rJ;simp only [ends,aZ,aC,aT,aq,az,bb,aL,aO,fe,bw,eG,aM,aH,ai,ag];refine⟨by decide,fun p hp=>?_⟩;refine bE (fun τ G'=>(∃ b,τ=[some (enc rows),some (.ref p),b])/\e8 G G'/\G' p=some (.lst (rows.flatten.map enc))) ?_ ?_
 ·intro N hN;simp only [du,cG,ah,aa];refine dP ?_;refine eg (xs:=rows) (fun pre τ G'=>(∃ b,τ=[some (enc rows),some (.ref p),b])/\e8 G G'/\G' p=some (.lst (pre.flatten.map enc))) ⟨⟨_,rfl⟩,.new hp,aI⟩ (fun _ _ _ _=>trivial) ?_ ?_
  ·rintro pre r post τ G' N2 e ⟨⟨b,rfl⟩,l,gp⟩ qV;have hlen:pre.flatten.length+r.length<=rows.flatten.length:=by
    rw [e]; simp only [cK,bg,aJ]; lia
   simp only [aH,dH,oV,ah,ai,ag,ae,aa,gP,gp,aj,aM,rP,lZ (IsL.enc r),true_and];refine⟨Hl (by simp only [av]; lia),?_⟩;refine qV _ _ ⟨⟨_,rfl⟩,l.put hp,?_⟩;rw [aI]; simp
  ·rintro τ G' ⟨⟨b,rfl⟩,l,gp⟩;exact hN _ _ ⟨⟨_,rfl⟩,l,gp⟩
 ·rintro _ G' ⟨⟨b,rfl⟩,l,gp⟩;simp only [bM,c7,ah,ae,aa];exact jQ l hp gp q
theorem mD(p:T3):(enc p:D)=.tup [.int p.a,.int p.b,.int p.c]:=rfl
theorem Kb(i:Int):(enc i:D)=.int i:=rfl
theorem A7{a:D}{r:List D}:nT (a :: r) 0=some a:=by
 rw [fS _ (by lia) (by simp)]; rfl
theorem x9{a b:D}{r:List D}:nT (a :: b :: r) 1=some b:=by
 rw [fS _ (by lia) (by simp; lia)]; rfl
theorem at2{a b c:D}{r:List D}:nT (a :: b :: c :: r) 2=some c:=by
 rw [fS _ (by lia) (by simp; lia)]; rfl
noncomputable def names(rows:Rows):List Int:=RN ((rows.flatten.filter fun p=>p.b == 0).map (·.a))
noncomputable def handOf(rows:Rows)(n:Int):Int:=((rows.flatten.find? fun p=>p.a == n).map (·.c)).getD 0
noncomputable def iP:iw:=XX (fun (rows:Rows) (n:Int)=>rows.flatten.length<=1000/\∃ p∈rows.flatten,p.a=n) handOf
noncomputable def zH:fN :=
 (bF (du (ic (bo iz (aj (ah 0) aM))) (aH 2) (cS (di (aN (nU false) (aN ee (ah 2) (dC (.int 0))) (ah 1))) (bM (c7 (aN ee (ah 2) (dC (.int 2))))) bQ))
 uk)
theorem Jc(ds:List D)(G:Gp)(Q:DK)(h:iP ds G Q fun _ _=>False):zH (fun _ _=>False) (ends Q) (aZ 3 ds) G:=by
 obtain⟨rows,n,rfl,⟨hl,hn⟩,q⟩:=h;unfold zH;refine bE (fun τ G'=>False) ?_ (fun _ _ h=>h.elim);intro N hN;simp only [du,aZ,aC,aT,aq,az,bb,aL,aO,ends,cG,bo,aj,ah,aa,aM];refine⟨rows,rfl,hl,dP ?_⟩;refine eg (xs:=rows.flatten) (fun pre τ G'=>G=G'/\(∃ a,τ=[some (enc rows),some (enc n),a])/\∀ p∈pre,p.a≠n) ⟨rfl,⟨_,rfl⟩,by simp⟩ (fun _ _ _ _=>trivial) ?_ ?_
 ·rintro pre x post τ G' N2 e ⟨rfl,⟨a,rfl⟩,hp⟩ qV;simp only [aH,cS,Kb,mD,ai,ag,bM,c7,aN,ah,ae,aa,dC,dq,at2,bQ,ck,A7];refine⟨_,_,.int _,.int _,?_⟩;simp only [ao,r0,if_false,aP];by_cases hx:x.a=n
  ·simp only [hx,beq_self_eq_true,if_true];refine e9 ?_;have:handOf rows n=x.c:=by
    unfold handOf;have:rows.flatten.find? (fun p=>p.a == n)=some x:=by
     rw [e,Ck];have:pre.find? (fun p=>p.a == n)=none:=by
      rw [qS]; intro p D3; simpa using hp p D3
     rw [this];simp [hx]
    rw [this]; rfl
   rw [<-this]; exact q
  ·have:(x.a == n)=false:=by simpa using hx
   simp only [this,ao,if_false];refine qV _ _ ⟨rfl,⟨_,rfl⟩,fun p D3=>?_⟩;rcases List.mem_append.mp D3 with h | h
   ·exact hp p h
   ·rw [List.mem_singleton.mp h]; exact hx
 ·rintro τ G' ⟨rfl,_,hp⟩;obtain⟨p,Q5,rf⟩:=hn;exact absurd rf (hp p Q5)
noncomputable def Jx(row:List T3)(i:Int):List T2:=if row=[] then [⟨i,2⟩] else row.map T3.s
noncomputable def RO:Rows->Nat->List T2
 | [],_=>[]
 | r :: rs,k=>Jx r (k:Int)++RO rs (k+1)
theorem Wg{a b c:D}:cut [a,b,c] none (some 2)=[a,b]:=rfl
theorem Lc{α:Type} [DecidableEq α] [Enc α](xs:List α)(G:Gp):Aa (enc xs) G=some (xs.map enc,fun _=>True):=rfl
theorem Lb{a:Nat}{ds:List D}{G:Gp}(h:G a=some (.lst ds)):Aa (.ref a) G=some (ds,fun G2=>G2 a=some (.lst ds)):=by unfold Aa; simp only [h]
theorem E8{α β:Type} [DecidableEq α] [Enc α] [DecidableEq β] [Enc β]:∀ (xs:List α) (ys:List β),tu (xs.map enc) (ys.map enc)=(xs.zip ys).map fun p=>D.tup [enc p.1,enc p.2]
 | [],ys=>by simp [tu]
 | x :: xs,[]=>by simp [tu]
 | x :: xs,y :: ys=>by simp [tu,E8 xs ys]
theorem lE{κ α:Type} [DecidableEq κ] [Enc κ] [oZ κ] [DecidableEq α] [Enc α]{a:Nat}{l:List (κ×α)}{k:κ}{v:α}{G:Gp}{Q:Gp->Prop}(h:G a=some (.ka (en l)))(hl:l.length<=1000)(q:Q (de G a (.ka (en (kq l k v))))):JB (.ref a) (enc k) (enc v) G Q:=by
 unfold JB;simp only [h];refine⟨qg l k,?_,by rw [PW]; exact q⟩;unfold en; rw [av]; exact tw hl
noncomputable def eU(r:List T3):List T3:=r.drop 1++r.take 1
noncomputable def pairsOf(rows:Rows):List (T3×T3):=rows.flatMap fun r=>r.zip (eU r)
noncomputable def fg(ps:List (T3×T3)):List (T2×T2):=ps.foldl (fun l p=>kq l p.1.s p.2.s) []
theorem CB(ps:List (T3×T3)):(fg ps).length<=ps.length:=by
 have:∀ (ps:List (T3×T3)) (l:List (T2×T2)),(ps.foldl (fun l p=>kq l p.1.s p.2.s) l).length<=l.length+ps.length:=by
  intro ps;induction ps with
  | nil=>intro l; simp
  | cons p ps ih =>
   intro l;rw [hZ,aq];have h1:=ih (kq l p.1.s p.2.s);have h2:=pQ l p.1.s p.2.s;lia
 simpa [fg] using this ps []
theorem zR(ps:List (T3×T3))(p:T3×T3):fg (ps++[p])=kq (fg ps) p.1.s p.2.s:=by unfold fg; rw [Ci]; rfl
noncomputable def pZ:iw:=fun ds G Q _=>∃ rows:Rows,ds=[enc rows]/\rows.flatten.length<=500/\Q (.sM (en (fg (pairsOf rows)))) G
theorem pairs_len(rows:Rows):(pairsOf rows).length<=rows.flatten.length:=by
 unfold pairsOf;induction rows with
 | nil=>simp
 | cons r rs ih=>simp only [Cj,bg,aJ,Hi]; lia
noncomputable def zD:fN :=
 (bF (bw xn (aH 1))
 (bF (du (ic (ah 0)) (aH 2) (du (SE (ah 2) (aN jl (xm (ah 2) (lz (dC (.int 1))) eE) (xm (ah 2) eE (lz (dC (.int 1)))))) (pL (gq (aH 3) (gq (aH 4) qi))) (bw (xm (ah 4) eE (lz (dC (.int 2)))) (w8 (ah 1) (xm (ah 3) eE (lz (dC (.int 2))))))))
 (bM (c7 (ah 1)))))
theorem IZ(ds:List D)(G:Gp)(Q:DK)(h:pZ ds G Q fun _ _=>False):zD (fun _ _=>False) (ends Q) (aZ 5 ds) G:=by
 obtain⟨rows,rfl,hl,q⟩:=h;unfold zD;simp only [ends,aZ,aC,aT,aq,az,bb,aL,aO,fe,bw,xn,jR,aH,ai,ag];intro d hd;refine bE (fun τ G'=>(∃ a b c,τ=[some (enc rows),some (.ref d),a,b,c])/\e8 G G'/\G' d=some (.ka (en (fg (pairsOf rows))))) ?_ ?_
 ·intro N hN;simp only [du,cG,ah,aa];refine dP ?_;refine eg (xs:=rows) (fun pre τ G'=>(∃ a b c,τ=[some (enc rows),some (.ref d),a,b,c])/\e8 G G'/\G' d=some (.ka (en (fg (pairsOf pre))))) ⟨⟨_,_,_,rfl⟩,.new hd,aI⟩ (fun _ _ _ _=>trivial) ?_ ?_
  ·rintro pre r post τ G' N2 e ⟨⟨a,b,c,rfl⟩,l,gd⟩ qV;have hr:pre.flatten.length+r.length<=rows.flatten.length:=by
    rw [e]; simp only [cK,bg,aJ]; lia
   simp only [aH,du,SE,ah,ai,ag,ae,aa,aN,xm,eE,jZ,dC,iR];refine rN (IsL.enc r) fun p1 h1=>?_;refine rN (IsL.enc r) fun p2 h2=>?_;have d1:d≠p1:=by rintro rfl; rw [gd] at h1; cases h1
   have l1:=l.trans (e8.new (o:=.lst (cut (r.map enc) (some 1) none)) h1);have d2:d≠p2:=by rintro rfl; rw [cU d1,gd] at h2; cases h2
   have ZX:p1≠p2:=by rintro rfl; rw [aI] at h2; cases h2
   refine DH (IsL.ref (by rw [cU ZX,aI])) (IsL.ref aI) ?_ fun p3 h3=>?_
   ·rw [oB,oB,av,av];have e1:(cut r (some 1) none).length<=r.length:=by unfold cut; rw [ff,eI]; lia
    have e2:(cut r none (some 1)).length<=r.length:=by unfold cut; rw [ff,eI]; lia
    exact Hl (by lia)
   have d3:d≠p3:=by rintro rfl; rw [cU d2,cU d1,gd] at h3; cases h3
   have et:cut (r.map enc) (some 1) none++cut (r.map enc) none (some 1)=(eU r).map enc:=by
    rw [oB,oB,<-aW];congr 1;cases r with
    | nil=>rfl
    | cons x r=>rw [show (1:Int)=((1:Nat):Int) from rfl,vQ _ _ (by simp),Es _ _ (by simp)]; rfl
   rw [et];generalize ZT:de (de (de G' p1 (.lst (cut (r.map enc) (some 1) none))) p2 (.lst (cut (r.map enc) none (some 1)))) p3 (.lst ((eU r).map enc))=G3;have g3:G3 p3=some (.lst ((eU r).map enc)):=by rw [<-ZT,aI]
   have Qs:G3 d=some (.ka (en (fg (pairsOf pre)))):=by rw [<-ZT,cU d3,cU d2,cU d1]; exact gd
   have l3:e8 G G3:=by rw [<-ZT]; exact(l1.trans (.new h2)).trans (.new h3)
   unfold AB;rw [Lc,Lb g3];dsimp only;rw [E8];refine eg (xs:=r.zip (eU r)) (fun pp τ G'=>(∃ a b c,τ=[some (enc rows),some (.ref d),a,b,c])/\e8 G G'/\G' d=some (.ka (en (fg (pairsOf pre++pp))))/\G' p3=some (.lst ((eU r).map enc)))
    ⟨⟨_,_,_,rfl⟩,l3,by rw [cz]; exact Qs,g3⟩ (fun _ _ _ h=>⟨trivial,h.2.2.2⟩) ?_ ?_
   ·rintro pp x post τ G4 N3 e4 ⟨⟨a,b,c,rfl⟩,l4,Rc,D5⟩ yv;have hz:(pairsOf pre++pp).length<=1000:=by
     have:=pairs_len pre;have h5:pp.length < (r.zip (eU r)).length:=by rw [e4]; simp
     rw [Hi] at h5;rw [aJ]; lia
    simp only [pL,gq,aH,qi,bw,xm,ah,mD,ai,ag,ae,aa,eE,w8,vc,aq,az,jZ,dC,iR,Wg];refine⟨by decide,by decide,?_⟩;refine lE (k:=x.1.s) (v:=x.2.s) Rc (dI (CB _) hz) ?_;refine yv _ _ ⟨⟨_,_,_,rfl⟩,l4.put hd,?_,by rw [cU (dR d3)]; exact D5⟩;rw [aI,<-cw,zR]
   ·rintro τ G4 ⟨⟨a,b,c,rfl⟩,l4,Rc,D5⟩;refine qV _ _ ⟨⟨_,_,_,rfl⟩,l4,?_⟩;have:pairsOf (pre++[r])=pairsOf pre++r.zip (eU r):=by unfold pairsOf; simp
    rw [this]; exact Rc
  ·rintro τ G' ⟨⟨a,b,c,rfl⟩,l,gd⟩;exact hN _ _ ⟨⟨_,_,_,rfl⟩,l,gd⟩
 ·rintro _ G' ⟨⟨a,b,c,rfl⟩,l,gd⟩;simp only [bM,c7,ah,ae,aa];exact Iv l hd gd q
end P
end K2
end
section
namespace K2
open PySem (Str)
open Enc (enc)
theorem DG{α:Type} [DecidableEq α] [Enc α]{neg:Bool}{x:α}{xs:List α}{G:Gp}{Q:DK}(hd:Enc.dep α<=7)(q:Q (.bl (if neg then !decide (x∈xs) else decide (x∈xs))) G):Cw neg (enc x) (enc xs) G Q:=by
 refine⟨enc x,xs.map enc,Enc.sn _ _ _ (by unfold SN; lia),wI G 7 hd xs,?_⟩;rw [EE]; exact q
theorem eW{α:Type} [DecidableEq α] [Enc α]{neg:Bool}{x y:α}{G:Gp}{Q:DK}(hd:Enc.dep α<=8)(q:Q (.bl (if neg then !decide (x=y) else decide (x=y))) G):nU neg (enc x) (enc y) G Q:=by
 refine⟨enc x,enc y,Enc.sn _ _ _ hd,Enc.sn _ _ _ hd,?_⟩;rw [Enc.eqv]; exact q
class Bg (α:Type) [DecidableEq α] [Enc α] [cA α] where
 mn:∀ {x:D} {G:Gp} {xs:List α} {Q:DK},itemsOf x G=some (xs.map enc)->xs≠[]->(∀ m∈xs,(∀ y∈xs,Bq m y=true)->Q (enc m) G)->LJ [x] G Q
theorem kn{α:Type} [DecidableEq α] [Enc α] [cA α]:∀ (r:List α) (a:α),r.foldl (fun m x=>if cA.lt x m=true then x else m) a∈a :: r/\∀ y∈a :: r,Bq (r.foldl (fun m x=>if cA.lt x m=true then x else m) a) y=true
 | [],a=>⟨by simp,fun y hy=>by rw [List.mem_singleton.mp hy]; unfold Bq; rw [List.foldl_nil,cA.O9]; rfl⟩
 | b :: r,a=>by
  rw [hZ];by_cases c:cA.lt b a=true
  ·rw [if_pos c];obtain⟨h1,h2⟩:=kn r b;refine⟨bq _ h1,fun y hy=>?_⟩;rcases List.mem_cons.mp hy with rfl | hy
   ·refine wX _ _ _ (h2 b (by simp)) ?_;unfold Bq;cases q:cA.lt y b with
    | false=>rfl
    | true=>have:=cA.trans _ _ _ q c; rw [cA.O9] at this; cases this
   ·exact h2 y hy
  ·rw [if_neg c];obtain⟨h1,h2⟩:=kn r a;refine⟨?_,fun y hy=>?_⟩
   ·rcases List.mem_cons.mp h1 with h | h
    ·rw [h]; simp
    ·exact bq _ (bq _ h)
   ·rcases List.mem_cons.mp hy with rfl | hy
    ·exact h2 y (by simp)
    ·rcases List.mem_cons.mp hy with rfl | hy
     ·refine wX _ _ _ (h2 a (by simp)) ?_;unfold Bq; simpa using c
     ·exact h2 y (bq _ hy)
noncomputable instance:Bg Int where
 mn:=by
  intro x G xs Q hi sT k;cases xs with
  | nil=>exact absurd rfl sT
  | cons a r =>
   obtain⟨h1,h2⟩:=kn r a;refine .inl ⟨a :: r,_,hi,rfl,?_⟩;have:(fun (m x:Int)=>if x < m then x else m)=fun m x=>if cA.lt x m=true then x else m:=by
    funext m x;show (if x < m then x else m)=if decide (x < m)=true then x else m
    simp
   show Q (enc (r.foldl (fun m x=>if x < m then x else m) a)) G;rw [this];exact k _ h1 h2
theorem uc:∀ (x y:List Int),vo (fun a b=>decide (a < b)) x y=lexLt x y
 | [],[]=>rfl
 | [],_ :: _=>rfl
 | _ :: _,[]=>rfl
 | a :: x,b :: y=>by simp only [Ap,lexLt,uc x y]
noncomputable instance:Bg T3 where
 mn:=by
  intro x G xs Q hi sT k;cases xs with
  | nil=>exact absurd rfl sT
  | cons a r =>
   obtain⟨h1,h2⟩:=kn r a;have ei:itemsOf x G=some (((a :: r).map T3.l).map tI):=by rw [hi,gI]; rfl
   refine .inr ⟨(a :: r).map T3.l,_,ei,rfl,?_⟩;have:∀ (r:List T3) (a:T3),(r.map T3.l).foldl (fun m x=>if lexLt x m=true then x else m) a.l=(r.foldl (fun m x=>if cA.lt x m=true then x else m) a).l:=by
    intro r;induction r with
    | nil=>intro a; rfl
    | cons b r ih =>
     intro a;rw [aC,hZ,hZ];have e:(if lexLt b.l a.l=true then b.l else a.l)=(if cA.lt b a=true then b else a).l:=by
      have:cA.lt b a=lexLt b.l a.l:=uc _ _;rw [this];split <;> rfl
     rw [e]; exact ih _
   rw [this r a];exact k _ h1 h2
namespace P
section
variable {α:Type} [DecidableEq α] [Enc α] [cA α] [oZ α] [Bg α]
theorem ED{κ β:Type} [DecidableEq κ]{l:List (κ×β)}{k:κ}{v:β}(h:∃ p∈l,p.1=k):(kq l k v).length=l.length:=by
 unfold kq;rw [if_pos (by obtain⟨p,h1,h2⟩:=h; exact List.any_eq_true.mpr ⟨p,h1,by simpa using h2⟩),av]
end
end P
end K2
end
section
namespace K2
open PySem (Str)
open Enc (enc)
namespace P
theorem GU{κ β:Type} [DecidableEq κ]{l:List (κ×β)}{k:κ}{v:β}(h:k∉l.map (·.1)):kq l k v=l++[(k,v)]:=by
 unfold kq;rw [if_neg];intro q;obtain⟨p,h1,h2⟩:=List.any_eq_true.mp q;exact h (List.mem_map.mpr ⟨p,h1,by simpa using h2⟩)
theorem Gd{κ β γ:Type} [DecidableEq κ](kf:γ->κ)(vf:γ->β):∀ (ps:List γ) (l:List (κ×β)),(l.map (·.1)++ps.map kf).Nodup->ps.foldl (fun l p=>kq l (kf p) (vf p)) l=l++ps.map fun p=>(kf p,vf p)
 | [],l,_=>by simp
 | p :: ps,l,h=>by
  rw [hZ,GU (fun z=>by
   rw [aC,ky] at h;exact h.2.2 _ z _ (by simp) rfl),Gd kf vf ps _ (by simpa using h)]
  simp
theorem ya{κ β:Type} [DecidableEq κ]:∀ {l:List (κ×β)} {p:κ×β},(l.map (·.1)).Nodup->p∈l->fY l p.1=some p.2
 | q :: l,p,hn,h=>by
  unfold fY;rw [fc];rcases List.mem_cons.mp h with rfl | h
  ·simp
  ·rw [aC,fZ] at hn;have:q.1≠p.1:=fun z=>hn.1 (by rw [z]; exact yM h);simp only [this,decide_false];exact ya hn.2 h
theorem FN{κ β:Type} [DecidableEq κ]{l:List (κ×β)}{k:κ}{v:β}(h:fY l k=some v):(k,v)∈l:=by
 unfold fY at h;cases q:l.find? (fun p=>decide (p.1=k)) with
 | none=>rw [q] at h; cases h
 | some p =>
  rw [q] at h;have h1:=pS q;have h2:=iJ q;simp at h h1;rw [<-h,<-h1]; exact h2
theorem Fc(r:List T3):(eU r).length=r.length:=by unfold eU; rw [aJ,eI,ff]; lia
theorem KZ(rows:Rows):(pairsOf rows).map (·.1)=rows.flatten:=by
 unfold pairsOf;induction rows with
 | nil=>rfl
 | cons r rs ih =>
  rw [Cj,aW,ih,bg];congr 1;rw [List.map_fst_zip]; rw [Fc]; exact bp _
variable {rows:Rows}
theorem Ob(d:Dr rows):((pairsOf rows).map fun p=>p.1.s).Nodup:=by
 have:((pairsOf rows).map fun p=>p.1.s)=rows.flatten.map T3.s:=by rw [<-KZ,gI]; rfl
 rw [this]; exact d.nd
theorem FD(d:Dr rows):fg (pairsOf rows)=(pairsOf rows).map fun p=>(p.1.s,p.2.s):=by
 unfold fg;rw [Gd (fun p:T3×T3=>p.1.s) (fun p=>p.2.s) _ _ (by simpa using Ob d)]; rfl
noncomputable def pas(rows:Rows)(s:T2):T3:=(rows.flatten.find? fun p=>decide (p.s=s)).getD ⟨0,0,0⟩
noncomputable def nxt(rows:Rows)(s:T2):T2:=(fY ((pairsOf rows).map fun p=>(p.1.s,p.2.s)) s).getD s
theorem JM(d:Dr rows){p:T3}(h:p∈rows.flatten):pas rows p.s=p:=by
 unfold pas;cases q:rows.flatten.find? (fun x=>decide (x.s=p.s)) with
 | none=>rw [qS] at q; exact absurd (by simp) (q p h)
 | some x =>
  have h1:=pS q;have h2:=iJ q;have h1:x.s=p.s:=by simpa using h1
  have:∀ (L:List T3),(L.map T3.s).Nodup->x∈L->p∈L->x=p:=by
   intro L;induction L with
   | nil=>intro _ h; cases h
   | cons y L ih =>
    intro hn hx hp;rw [aC,fZ] at hn;rcases List.mem_cons.mp hx with e1 | hx2
    ·rcases List.mem_cons.mp hp with e2 | rf
     ·rw [e1,e2]
     ·exact absurd (by rw [<-e1,h1]; exact yM rf) hn.1
    ·rcases List.mem_cons.mp hp with e2 | rf
     ·exact absurd (by rw [<-e2,<-h1]; exact yM hx2) hn.1
     ·exact ih hn.2 hx2 rf
  exact this _ d.nd h2 h
theorem Nl(d:Dr rows){p q:T3}(h:(p,q)∈pairsOf rows):fY ((pairsOf rows).map fun p=>(p.1.s,p.2.s)) p.s=some q.s/\nxt rows p.s=q.s:=by
 have:=ya (l:=(pairsOf rows).map fun p=>(p.1.s,p.2.s)) (p:=(p.s,q.s)) (by rw [gI]; exact Ob d) (List.mem_map.mpr ⟨_,h,rfl⟩);refine⟨this,?_⟩;unfold nxt; rw [this]; rfl
noncomputable def om(p:T3):T3:=⟨p.a,1 - p.b,p.c⟩
theorem U6(d:Dr rows){p:T3}(h:p∈rows.flatten):om p∈rows.flatten:=d.zX p h
theorem jC{n:Int}:n∈names rows↔∃ p∈rows.flatten,p.b=0/\p.a=n:=by
 unfold names;rw [PG,List.mem_map];constructor
 ·rintro⟨p,h,rfl⟩;obtain⟨h1,h2⟩:=List.mem_filter.mp h;exact⟨p,h1,by simpa using h2,rfl⟩
 ·rintro⟨p,h1,h2,rfl⟩;exact⟨p,List.mem_filter.mpr ⟨h1,by simpa using h2⟩,rfl⟩
theorem oA(d:Dr rows){p:T3}(h:p∈rows.flatten):handOf rows p.a=p.c:=by
 unfold handOf;cases q:rows.flatten.find? (fun x=>x.a == p.a) with
 | none=>rw [qS] at q; exact absurd (by simp) (q p h)
 | some x =>
  have h1:x.a=p.a:=by simpa using pS q
  have h2:=iJ q;show x.c=p.c;have hw:=d.way p h;have WR:=d.way x h2;by_cases e:x.b=p.b
  ·have:x.s=p.s:=by unfold T3.s; rw [h1,e]
   have e1:=JM d h2;rw [this,JM d h] at e1;rw [e1]
  ·have:(om x).s=p.s:=by unfold T3.s om; rw [h1]; congr 1; dsimp only; lia
   have e1:=JM d (U6 d h2);rw [this,JM d h] at e1;rw [e1]; rfl
end P
end K2
end
section
namespace K2
open PySem (Str)
open Enc (enc)
namespace P
variable {rows:Rows}
end P
end K2
end
section
namespace K2
open PySem (Str)
open Enc (enc)
namespace nW
open K2.P
noncomputable def xQ:fN :=
 (bF (cS (di (aN WE (ah 1) (iZ iq (aj (ah 0) aM)))) (bM (c7 (aN ee (ah 0) (ah 1)))) bQ)
 (bM (c7 (dC (.int 0)))))
noncomputable def kC(ns:List Int)(k:Int):Int:=ns.getD k.toNat 0
noncomputable def oj:iw:=fun ds G Q _=>∃ (ns:List Int) (k:Int),ds=[.fU (ns.map D.int),.int k]/\0<=k/\Q (.int (kC ns k)) G
theorem yh(ds:List D)(G:Gp)(Q:DK)(h:oj ds G Q fun _ _=>False):xQ (fun _ _=>False) (ends Q) (aZ 2 ds) G:=by
 obtain⟨ns,k,rfl,h0,q⟩:=h;unfold xQ;simp only [bF,cS,aZ,aC,aT,aq,az,aL,aO,bM,c7,aN,ah,aa,ae,ends,vd,bQ,dC,ck,iZ,aj,aM,A6,DB,aP];split
 ·rename_i h;have h1:k < (ns.map D.int).length:=by simpa using h
  rw [fS _ h0 h1];simp only [cJ];rw [av] at h1;have e:kC ns k=ns[k.toNat]:=by unfold kC; rw [eT,aU (by lia)]; rfl
  rw [<-e]; exact e9 q
 ·rename_i h;have h1:¬ k < (ns.map D.int).length:=by simpa using h
  rw [av] at h1;have e:kC ns k=0:=by unfold kC; rw [eT,OZ (by lia)]; rfl
  rw [<-e]; exact e9 q
structure HR(G G':Gp)(p0:Nat)(as:List Nat)(rs:Rows):Prop where
 le:e8 G G'
 fp:G p0=none
 gp:G' p0=some (.lst (as.map D.ref))
 np:p0∉as
 nd:as.Nodup
 fr:∀ a∈as,G a=none
 len:as.length=rs.length
 at':∀ (i a:Nat) (r:List T3),as[i]?=some a->rs[i]?=some r->G' a=some (.lst (r.map enc))
theorem HR.put{G G':Gp}{p0:Nat}{as:List Nat}{rs:Rows}(h:HR G G' p0 as rs){j a:Nat}{r':List T3}(ha:as[j]?=some a):HR G (de G' a (.lst (r'.map enc))) p0 as (rs.set j r'):=by
 have hm:a∈as:=dA ha;have hj:j < as.length:=(List.getElem?_eq_some_iff.mp ha).1;refine⟨h.le.put (h.fr a hm),h.fp,?_,h.np,h.nd,h.fr,by rw [j3]; exact h.len,fun i b r hb hr=>?_⟩
 ·rw [cU (by rintro rfl; exact h.np hm)]; exact h.gp
 ·by_cases e:i=j
  ·subst e;rw [ha] at hb; cases hb;rw [fM (by have:=h.len; lia)] at hr;cases hr;exact aI
  ·have:b≠a:=by
    rintro rfl;have h1:=List.getElem?_eq_some_iff.mp hb;have h2:=List.getElem?_eq_some_iff.mp ha;have pw:=List.pairwise_iff_getElem.mp h.nd;rcases Nat.lt_trichotomy i j with lt | eq | gt
    ·exact pw i j h1.1 h2.1 lt (h1.2.trans h2.2.symm)
    ·exact e eq
    ·exact pw j i h2.1 h1.1 gt (h2.2.trans h1.2.symm)
   rw [cU this];rw [iX (fun z=>e z.symm)] at hr;exact h.at' i b r hb hr
theorem HR.fz{G G':Gp}{p0:Nat}{as:List Nat}{rs:Rows}(h:HR G G' p0 as rs){Q:DK}(q:Q (enc rs) G):Jh G' (.ref p0) Q:=by
 refine Iu h.le h.fp h.gp (ss:=rs.map enc) ?_ q;have:∀ (as:List Nat) (rs:Rows),as.length=rs.length->(∀ a∈as,G a=none)->(∀ (i a:Nat) (r:List T3),as[i]?=some a->rs[i]?=some r->G' a=some (.lst (r.map enc)))->Jf G' (fun a=>(G a).isNone) (as.map D.ref) (rs.map enc):=by
  intro as;induction as with
  | nil=>intro rs hl _ _; cases rs with
   | nil=>exact .nil
   | cons _ _=>cases hl
  | cons a as ih =>
   intro rs hl hf N0;cases rs with
   | nil=>cases hl
   | cons r rs =>
    refine .cons (.ref (N0 0 a r rfl rfl) (by simp [hf a (by simp)]) (Jf.same _)) ?_;exact ih rs (by simpa using hl) (fun b hb=>hf b (bq _ hb)) fun i b s h1 h2=>N0 (i+1) b s h1 h2
 exact this as rs h.len h.fr h.at'
theorem Fo{x:T3}{r r':List T3}(hr:r'.Perm (x :: r)):∀ (rs:Rows) (j:Nat),rs[j]?=some r->(rs.set j r').flatten.Perm (x :: rs.flatten)
 | [],j,h=>by cases h
 | s :: rs,0,h=>by
  cases h;rw [ag,bg,bg];exact hr.append_right _
 | s :: rs,j+1,h=>by
  rw [ai,bg,bg];exact((Fo hr rs j h).append_left s).trans List.perm_middle
theorem jY{r:List T3}:∀ {rs:Rows},r∈rs->r.length<=rs.flatten.length
 | a :: rs,h=>by
  rw [bg,aJ];rcases List.mem_cons.mp h with rfl | h
  ·lia
  ·have:=jY h; lia
theorem MM(x:T3)(r:List T3)(i:Nat):(r.take i++x :: r.drop i).Perm (x :: r):=by
 refine List.perm_middle.trans (.cons _ ?_);rw [cT]
end nW
end K2
end
section
namespace K2
open PySem (Str)
open Enc (enc)
namespace Mo
open K2.P
theorem ym{G:Gp}{p:Nat}{a b:GO}:de (de G p a) p b=de G p b:=by
 funext c; unfold de; by_cases h:c=p <;> simp [h]
theorem at_{al:List Str}{f c:Str}{a:Nat}{fs:List (Str×D)}{d:D}{G:Gp}{Q:DK}(h:G a=some (.ins c fs))(q:Q d G)(hc:autoParam (c∈al) Am._auto_1)(hl:autoParam (fs.lookup f=some d) Ar._auto_1):OL al f (.ref a) G Q:=⟨a,c,fs,d,rfl,h,hc,hl,q⟩
noncomputable def setAt(al:List Str)(f:Str)(x d:D)(G:Gp)(K:Gp->Prop):Prop:=∃ a c fs,x=.ref a/\G a=some (.ins c fs)/\c∈al/\fs.length < 1000/\K (de G a (.ins c (putD f d fs)))
theorem sj{al:List Str}{f:Str}{to tv:iu}{E:lq}{K:j0}{τ:iH}{G:Gp}:k6 al f to tv E K τ G=tv E τ G fun d G1=>to E τ G1 fun x G2=>setAt al f x d G2 (K.nx τ):=rfl
theorem Fh{al:List Str}{f c:Str}{a:Nat}{fs:List (Str×D)}{d:D}{G:Gp}{K:Gp->Prop}(h:G a=some (.ins c fs))(q:K (de G a (.ins c (putD f d fs))))(hc:autoParam (c∈al) Am._auto_1)(hl:autoParam (fs.length < 1000) An._auto_1):setAt al f (.ref a) d G K:=⟨a,c,fs,rfl,h,hc,hl,q⟩
inductive Mc where
 | un (n:Int)
 | cu (n:Int) (s:T2) (f h:Int)
 | pa (a b:Int)
 | la (a b:Int) (o u:T2) (t h:Int)
 | sl (a b c t:Int)
noncomputable def cn:Mc->Str
 | .un _=>"Uncurl" | .cu ..=>"Curl" | .pa ..=>"Part" | .la ..=>"Lay" | .sl ..=>"Slide"
noncomputable def wd:Mc->Str
 | .un _=>"uncurl" | .cu ..=>"curl" | .pa ..=>"part" | .la ..=>"lay" | .sl ..=>"slide"
noncomputable def ar:Mc->List D
 | .un n=>[.int n] | .cu n s f h=>[.int n,enc s,.int f,.int h] | .pa a b=>[.int a,.int b] | .la a b o u t h=>[.int a,.int b,enc o,enc u,.int t,.int h] | .sl a b c t=>[.int a,.int b,.int c,.int t]
noncomputable def fl:Mc->List (Str×D)
 | .un n=>[("name",.int n)] | .cu n s f h=>[("name",.int n),("spot",enc s),("first",.int f),("hand",.int h)] | .pa a b=>[("name",.int a),("second",.int b)] | .la a b o u t h=>[("name",.int a),("second",.int b),("over",enc o),("under",enc u),("turned",.int t),("hand",.int h)] | .sl a b c t=>[("name",.int a),("second",.int b),("third",.int c),("turn",.int t)]
noncomputable def td(m:Mc):D:=.tup (.str (wd m) :: ar m)
noncomputable def ob(m:Mc):GO:=.ins (cn m) (fl m)
noncomputable abbrev OU(G:Gp)(p:Nat)(m:Mc):Prop:=G p=some (ob m)
noncomputable def nC:fN :=
 (k6 ["Uncurl"] "name" (ah 0) (ah 1))
noncomputable def iQ:iw:=fun ds G Q _=>∃ (p:Nat) (n:Int),ds=[.ref p,.int n]/\G p=some (.ins "Uncurl" [])/\Q .j9 (de G p (ob (.un n)))
theorem uv(ds:List D)(G:Gp)(Q:DK)(h:iQ ds G Q fun _ _=>False):nC (fun _ _=>False) (ends Q) (aZ 2 ds) G:=by
 obtain⟨p,n,rfl,g,q⟩:=h;unfold nC;simp only [ends,aZ,aC,aT,aq,az,aL,aO,sj,ah,ae,aa];refine Fh g ?_;exact q
noncomputable def pB:fN :=
 (bF (k6 ["Curl"] "name" (ah 0) (ah 1))
 (bF (k6 ["Curl"] "spot" (ah 0) (ah 2))
 (bF (k6 ["Curl"] "first" (ah 0) (ah 3))
 (k6 ["Curl"] "hand" (ah 0) (ah 4)))))
noncomputable def jz:iw:=fun ds G Q _=>∃ (p:Nat) (n:Int) (s:T2) (f:Int) (h:Int),ds=[.ref p,.int n,enc s,.int f,.int h]/\G p=some (.ins "Curl" [])/\Q .j9 (de G p (ob (.cu n s f h)))
theorem xy(ds:List D)(G:Gp)(Q:DK)(h:jz ds G Q fun _ _=>False):pB (fun _ _=>False) (ends Q) (aZ 5 ds) G:=by
 obtain⟨p,n,s,f,h,rfl,g,q⟩:=h;unfold pB;simp only [ends,aZ,aC,aT,aq,az,aL,aO,fX,sj,ah,ae,aa];refine Fh g ?_;refine Fh aI ?_;refine Fh aI ?_;refine Fh aI ?_;simp only [ym];exact q
noncomputable def pA:fN :=
 (bF (k6 ["Part"] "name" (ah 0) (ah 1))
 (k6 ["Part"] "second" (ah 0) (ah 2)))
noncomputable def jy:iw:=fun ds G Q _=>∃ (p:Nat) (a:Int) (b:Int),ds=[.ref p,.int a,.int b]/\G p=some (.ins "Part" [])/\Q .j9 (de G p (ob (.pa a b)))
theorem xx(ds:List D)(G:Gp)(Q:DK)(h:jy ds G Q fun _ _=>False):pA (fun _ _=>False) (ends Q) (aZ 3 ds) G:=by
 obtain⟨p,a,b,rfl,g,q⟩:=h;unfold pA;simp only [ends,aZ,aC,aT,aq,az,aL,aO,fX,sj,ah,ae,aa];refine Fh g ?_;refine Fh aI ?_;simp only [ym];exact q
noncomputable def qM:fN :=
 (bF (k6 ["Lay"] "name" (ah 0) (ah 1))
 (bF (k6 ["Lay"] "second" (ah 0) (ah 2))
 (bF (k6 ["Lay"] "over" (ah 0) (ah 3))
 (bF (k6 ["Lay"] "under" (ah 0) (ah 4))
 (bF (k6 ["Lay"] "turned" (ah 0) (ah 5))
 (k6 ["Lay"] "hand" (ah 0) (ah 6)))))))
noncomputable def j7:iw:=fun ds G Q _=>∃ (p:Nat) (a:Int) (b:Int) (o:T2) (u:T2) (t:Int) (h:Int),ds=[.ref p,.int a,.int b,enc o,enc u,.int t,.int h]/\G p=some (.ins "Lay" [])/\Q .j9 (de G p (ob (.la a b o u t h)))
theorem yJ(ds:List D)(G:Gp)(Q:DK)(h:j7 ds G Q fun _ _=>False):qM (fun _ _=>False) (ends Q) (aZ 7 ds) G:=by
 obtain⟨p,a,b,o,u,t,h,rfl,g,q⟩:=h;unfold qM;simp only [ends,aZ,aC,aT,aq,az,aL,aO,fX,sj,ah,ae,aa];refine Fh g ?_;refine Fh aI ?_;refine Fh aI ?_;refine Fh aI ?_;refine Fh aI ?_;refine Fh aI ?_;simp only [ym];exact q
noncomputable def ou:fN :=
 (bF (k6 ["Slide"] "name" (ah 0) (ah 1))
 (bF (k6 ["Slide"] "second" (ah 0) (ah 2))
 (bF (k6 ["Slide"] "third" (ah 0) (ah 3))
 (k6 ["Slide"] "turn" (ah 0) (ah 4)))))
noncomputable def eM:iw:=fun ds G Q _=>∃ (p:Nat) (a:Int) (b:Int) (c:Int) (t:Int),ds=[.ref p,.int a,.int b,.int c,.int t]/\G p=some (.ins "Slide" [])/\Q .j9 (de G p (ob (.sl a b c t)))
theorem wb(ds:List D)(G:Gp)(Q:DK)(h:eM ds G Q fun _ _=>False):ou (fun _ _=>False) (ends Q) (aZ 5 ds) G:=by
 obtain⟨p,a,b,c,t,rfl,g,q⟩:=h;unfold ou;simp only [ends,aZ,aC,aT,aq,az,aL,aO,fX,sj,ah,ae,aa];refine Fh g ?_;refine Fh aI ?_;refine Fh aI ?_;refine Fh aI ?_;simp only [ym];exact q
noncomputable def tU:fN :=
 (bM (c7 (fF (aj (dC (.str "slide")) (aj (gr ["Slide"] "name" (ah 0)) (aj (gr ["Slide"] "second" (ah 0)) (aj (gr ["Slide"] "third" (ah 0)) (aj (gr ["Slide"] "turn" (ah 0)) aM))))))))
noncomputable def gm:iw:=fun ds G Q _=>∃ (p:Nat) (a:Int) (b:Int) (c:Int) (t:Int),ds=[.ref p]/\OU G p (.sl a b c t)/\Q (td (.sl a b c t)) G
theorem B8(ds:List D)(G:Gp)(Q:DK)(h:gm ds G Q fun _ _=>False):tU (fun _ _=>False) (ends Q) (aZ 1 ds) G:=by
 obtain⟨p,a,b,c,t,rfl,g,q⟩:=h;unfold tU;simp only [bM,c7,fF,aj,dC,gr,ah,aZ,aC,aT,aq,az,aL,aO,aa,aM,ends];refine at_ g ?_;refine at_ g ?_;refine at_ g ?_;refine at_ g ?_;exact⟨by decide,e9 q⟩
end Mo
end K2
end
section
namespace K2
open PySem (Str)
open Enc (enc)
namespace Mo
open K2.P
theorem Th{neg:Bool}{a:Str}{G:Gp}{Q:DK}(q:Q (.bl (!neg)) G)(ha:autoParam (a.cps.all (· < 0x110000)=true) Ak._auto_1):nU neg (.str a) (.str a) G Q:=⟨_,_,.str a ha,.str a ha,by
 have:jT (.str a) (.str a)=true:=by show (a == a)=true; exact beq_self_eq_true a
 rw [this]; cases neg <;> exact q⟩
theorem O7{neg:Bool}{a b:Str}{G:Gp}{Q:DK}(q:Q (.bl neg) G)(h:autoParam ((a == b)=false) Ak._auto_1)(ha:autoParam (a.cps.all (· < 0x110000)=true) Ak._auto_1)(hb:autoParam (b.cps.all (· < 0x110000)=true) Ak._auto_1):nU neg (.str a) (.str b) G Q:=⟨_,_,.str a ha,.str b hb,by
 have:jT (.str a) (.str b)=false:=h;rw [this]; cases neg <;> exact q⟩
theorem Oi(s:T2):(enc s:D)=.tup [.int s.a,.int s.b]:=rfl
noncomputable def zE:fN :=
 (bF (cS (di (aN (nU false) (aN ee (ah 0) (dC (.int 0))) (dC (.str "uncurl")))) (bM (c7 (nQ "Uncurl" iQ (aj (aN ee (ah 0) (dC (.int 1))) aM)))) bQ)
 (bF (cS (di (aN (nU false) (aN ee (ah 0) (dC (.int 0))) (dC (.str "curl")))) (bM (c7 (nQ "Curl" jz (aj (aN ee (ah 0) (dC (.int 1))) (aj (aN ee (ah 0) (dC (.int 2))) (aj (aN ee (ah 0) (dC (.int 3))) (aj (aN ee (ah 0) (dC (.int 4))) aM))))))) bQ)
 (bF (cS (di (aN (nU false) (aN ee (ah 0) (dC (.int 0))) (dC (.str "part")))) (bM (c7 (nQ "Part" jy (aj (aN ee (ah 0) (dC (.int 1))) (aj (aN ee (ah 0) (dC (.int 2))) aM))))) bQ)
 (bF (cS (di (aN (nU false) (aN ee (ah 0) (dC (.int 0))) (dC (.str "lay")))) (bM (c7 (nQ "Lay" j7 (aj (aN ee (ah 0) (dC (.int 1))) (aj (aN ee (ah 0) (dC (.int 2))) (aj (aN ee (ah 0) (dC (.int 3))) (aj (aN ee (ah 0) (dC (.int 4))) (aj (aN ee (ah 0) (dC (.int 5))) (aj (aN ee (ah 0) (dC (.int 6))) aM))))))))) bQ)
 (bF (cS (di (aN (nU false) (aN ee (ah 0) (dC (.int 0))) (dC (.str "slide")))) (bM (c7 (nQ "Slide" eM (aj (aN ee (ah 0) (dC (.int 1))) (aj (aN ee (ah 0) (dC (.int 2))) (aj (aN ee (ah 0) (dC (.int 3))) (aj (aN ee (ah 0) (dC (.int 4))) aM))))))) bQ)
 uk)))))
noncomputable def p4:iw:=fun ds G Q _=>∃ m:Mc,ds=[td m]/\∀ p,G p=none->Q (.ref p) (de G p (ob m))
theorem Ja(ds:List D)(G:Gp)(Q:DK)(h:p4 ds G Q fun _ _=>False):zE (fun _ _=>False) (ends Q) (aZ 1 ds) G:=by
 obtain⟨m,rfl,q⟩:=h;unfold zE;cases m with
 | un n =>
  simp only [ends,aZ,td,wd,ar,aC,aT,aq,az,aL,aO,fX,cS,bM,c7,nQ,aj,aN,ah,aa,dC,aM,dq,x9,bQ,ck,A7];refine Th ?_;simp only [bN,aP,if_true];exact fun p hp=>⟨p,n,rfl,aI,rfl,e9 (by rw [ym]; exact q p hp)⟩
 | cu n s f h =>
  simp only [ends,aZ,td,wd,ar,aC,aT,aq,az,aL,aO,fX,cS,bM,c7,nQ,aj,aN,ah,aa,dC,aM,dq,x9,bQ,ck,A7];refine O7 ?_;simp only [aP,ao,if_false];refine Th ?_;simp only [bN,aP,if_true];exact fun p hp=>⟨p,n,s,f,h,rfl,aI,rfl,e9 (by rw [ym]; exact q p hp)⟩
 | pa a b =>
  simp only [ends,aZ,td,wd,ar,aC,aT,aq,az,aL,aO,fX,cS,bM,c7,nQ,aj,aN,ah,aa,dC,aM,dq,x9,bQ,ck,A7];refine O7 ?_;simp only [aP,ao,if_false];refine O7 ?_;simp only [aP,ao,if_false];refine Th ?_;simp only [bN,aP,if_true];exact fun p hp=>⟨p,a,b,rfl,aI,rfl,e9 (by rw [ym]; exact q p hp)⟩
 | la a b o u t h =>
  simp only [ends,aZ,td,wd,ar,aC,aT,aq,az,aL,aO,fX,cS,bM,c7,nQ,aj,aN,ah,aa,dC,aM,dq,x9,bQ,ck,A7];refine O7 ?_;simp only [aP,ao,if_false];refine O7 ?_;simp only [aP,ao,if_false];refine O7 ?_;simp only [aP,ao,if_false];refine Th ?_;simp only [bN,aP,if_true];exact fun p hp=>⟨p,a,b,o,u,t,h,rfl,aI,rfl,e9 (by rw [ym]; exact q p hp)⟩
 | sl a b c t =>
  simp only [ends,aZ,td,wd,ar,aC,aT,aq,az,aL,aO,fX,cS,bM,c7,nQ,aj,aN,ah,aa,dC,aM,dq,x9,bQ,ck,A7];refine O7 ?_;simp only [aP,ao,if_false];refine O7 ?_;simp only [aP,ao,if_false];refine O7 ?_;simp only [aP,ao,if_false];refine O7 ?_;simp only [aP,ao,if_false];refine Th ?_;simp only [bN,aP,if_true];exact fun p hp=>⟨p,a,b,c,t,rfl,aI,rfl,e9 (by rw [ym]; exact q p hp)⟩
end Mo
end K2
end
section
namespace K2
open PySem (Str)
open Enc (enc)
namespace Mo
open K2.P
open K2.nW (kC oj yh)
theorem X0{lo:Int}{n:Nat}{pre post:List D}{d:D}(h:ek lo n=pre++d :: post):d=.int (lo+(pre.length:Int))/\pre.length < n:=by
 have hl:pre.length < n:=by
  have:=congrArg dD h;simp [ek] at this; lia
 have:(ek lo n)[pre.length]?=some d:=by rw [h]; simp
 simp only [ek,dS,List.getElem?_range hl] at this;exact⟨by simpa using this.symm,hl⟩
noncomputable def uY:fN :=
 (bM (c7 (GG (tG "int" (ah 0)) (Ou (tG "bool" (ah 0))))))
noncomputable def fC:iw:=fun ds G Q _=>∃ i:Int,ds=[.int i]/\Q (.bl true) G
theorem EG(ds:List D)(G:Gp)(Q:DK)(h:fC ds G Q fun _ _=>False):uY (fun _ _=>False) (ends Q) (aZ 1 ds) G:=by
 obtain⟨i,rfl,q⟩:=h;unfold uY;simp only [bM,c7,aZ,aC,aT,aq,az,aL,aO,ends,vO,AZ,mV,ah,aa,vr,aP];simpa using e9 q
noncomputable def ez:fN :=
 (bF (cS (pU (gv (di (tG "tuple" (ah 0)))) (di (aN (nU true) (iZ iq (aj (ah 0) aM)) (iZ iq (aj (ah 1) aM))))) (bM (c7 (dC (.bl false)))) bQ)
 (bF (du (ic (ah 0)) (aH 2) (cS (gv (di (bo fC (aj (ah 2) aM)))) (bM (c7 (dC (.bl false)))) bQ))
 (bM (c7 (aN (nU false) (ah 0) (ah 1))))))
noncomputable def cg:iw:=fun ds G Q _=>∃ ns:List Int,ds=[tI ns,tI ns]/\Q (.bl true) G
theorem eA(ds:List D)(G:Gp)(Q:DK)(h:cg ds G Q fun _ _=>False):ez (fun _ _=>False) (ends Q) (aZ 3 ds) G:=by
 obtain⟨ns,rfl,q⟩:=h;unfold ez;simp only [ends,aZ,aC,aT,aq,az,bb,aL,aO,fX,cS,pU,gv,bM,c7,dC,bQ,if_true,ck,aN,iZ,aj,ah,aa,aM,ae,nS,mV,pK,beq_self_eq_true,aP,aS,ao,if_false];refine eW (α:=Int) (by decide) ?_;simp only [decide_true,aS,if_true,du,cG,ah,aa,D0,aP,ao,if_false];refine eg (f:=D.int) (xs:=ns) (fun pre τ G'=>G=G'/\∃ a,τ=[some (tI ns),some (tI ns),a]) ⟨rfl,_,rfl⟩ (fun _ _ _ _=>trivial) ?_ ?_
 ·rintro pre i post τ G' N e ⟨rfl,a,rfl⟩ hN;simp only [aH,cS,gv,ai,ag,bM,c7,dC,bQ,ck,bo,aj,ah,ae,aa,aM];refine⟨i,rfl,?_⟩;simp only [aP,aS,ao,if_false];exact hN _ _ ⟨rfl,_,rfl⟩
 ·rintro τ G' ⟨rfl,a,rfl⟩;simp only [bM,c7,aN,ah,aa,ae];refine⟨_,_,.tI ns,.tI ns,?_⟩;rw [Tj];simp only [decide_true,if_false,ao];exact e9 q
noncomputable def Pl(d:D):Prop:=(∃ i,d=.int i)\/∃ ns,d=tI ns
noncomputable abbrev WI(w:Str):Prop:=w.cps.all (· < 0x110000)=true
noncomputable def eV:fN :=
 (bF (cS (pU (gv (di (tG "tuple" (ah 0)))) (di (aN (nU true) (iZ iq (aj (ah 0) aM)) (iZ iq (aj (ah 1) aM))))) (bM (c7 (dC (.bl false)))) bQ)
 (bF (cS (pU (gv (di (tG "str" (aN ee (ah 0) (dC (.int 0)))))) (di (aN (nU true) (aN ee (ah 0) (dC (.int 0))) (aN ee (ah 1) (dC (.int 0)))))) (bM (c7 (dC (.bl false)))) bQ)
 (bF (du (CL (dC (.int 1)) (iZ iq (aj (ah 1) aM))) (aH 2) (cS (di (tG "tuple" (aN ee (ah 1) (ah 2)))) (cS (gv (di (bo cg (aj (aN ee (ah 0) (ah 2)) (aj (aN ee (ah 1) (ah 2)) aM))))) (bM (c7 (dC (.bl false)))) bQ) (cS (pU (gv (di (bo fC (aj (aN ee (ah 0) (ah 2)) aM)))) (di (aN (nU true) (aN ee (ah 0) (ah 2)) (aN ee (ah 1) (ah 2))))) (bM (c7 (dC (.bl false)))) bQ)))
 (bM (c7 (dC (.bl true)))))))
noncomputable def cM:iw:=fun ds G Q _=>∃ (w:Str) (as:List D),ds=[.tup (.str w :: as),.tup (.str w :: as)]/\(as.length<=10/\WI w/\∀ a∈as,Pl a)/\Q (.bl true) G
theorem eY(ds:List D)(G:Gp)(Q:DK)(h:cM ds G Q fun _ _=>False):eV (fun _ _=>False) (ends Q) (aZ 3 ds) G:=by
 obtain⟨w,as,rfl,⟨hl,hw,hp⟩,q⟩:=h;unfold eV;simp only [ends,aZ,aC,aT,aq,az,bb,aL,aO,fX,cS,pU,gv,bM,c7,dC,bQ,if_true,ck,aN,ah,aa,ae,dq,mV,iZ,aj,aM,nS,pK,beq_self_eq_true,aP,aS,ao,if_false];refine eW (α:=Int) (by decide) ?_;simp only [decide_true,aS,if_true,A7,aP,ao,if_false];show isAt "str" (.str w) G _;unfold isAt Q3;simp only [beq_self_eq_true,aP,aS,ao,if_false];refine Th ?_ hw;simp only [aS,du,CL,dC,iZ,aj,ah,ae,aa,aM,nS,aq,aP,ao,if_false];refine⟨by lia,?_⟩;refine mB (fun pre τ G'=>G=G'/\∃ a,τ=[some (.tup (.str w :: as)),some (.tup (.str w :: as)),a]) ⟨rfl,_,rfl⟩ (fun _ _ _ _=>trivial) ?_ ?_
 ·rintro pre d post τ G' N e ⟨rfl,a,rfl⟩ hN;obtain⟨rfl,D1⟩:=X0 e;have mZ:pre.length < as.length:=by lia
  have ha:nT (D.str w :: as) (1+(pre.length:Int))=some as[pre.length]:=by
   rw [fS _ (by lia) (by rw [aq]; lia)];have:(1+(pre.length:Int)).toNat=pre.length+1:=by lia
   simp only [this,Mp]
  simp only [aH,cS,ai,ag,gv,bM,c7,dC,bQ,ck,bo,aj,aN,ah,aa,ae,aM,dq,ha,pU,if_true,mV];rcases hp _ (EM mZ) with ⟨i,ei⟩ | ⟨ns,ei⟩
  ·rw [ei];simp only [vr,aP];rw [show ("tuple" == "int")=false from by decide];simp only [ao,if_false];refine⟨i,rfl,?_⟩;simp only [aP,aS,ao,if_false];refine eW (α:=Int) (by decide) ?_;simp only [decide_true,aS,if_true,aP,ao,if_false];exact hN _ _ ⟨rfl,_,rfl⟩
  ·rw [ei];simp only [pK,beq_self_eq_true,aP,if_true];refine⟨ns,rfl,?_⟩;simp only [aP,aS,ao,if_false];exact hN _ _ ⟨rfl,_,rfl⟩
 ·rintro τ G' ⟨rfl,a,rfl⟩;simp only [bM,c7,dC];exact e9 q
theorem WG(s:T2):Pl (enc s):=.inr ⟨[s.a,s.b],rfl⟩
theorem TX(i:Int):Pl (.int i):=.inl ⟨i,rfl⟩
theorem Wl(m:Mc):∀ a∈ar m,Pl a:=by
 cases m <;> intro a h <;> simp only [ar,cf,bI,or_false] at h <;> rcases h with rfl | h <;> (try exact TX _) <;> (try (rcases h with rfl | h)) <;> (try exact TX _) <;> (try exact WG _) <;> (try (rcases h with rfl | h)) <;> (try exact TX _) <;> (try exact WG _) <;> (try (rcases h with rfl | h)) <;> (try exact TX _) <;> (try exact WG _) <;> (try (rcases h with rfl | h)) <;> (try exact TX _) <;> (try exact WG _) <;> (try (subst h; exact TX _))
theorem TF(m:Mc):(ar m).length<=10:=by cases m <;> exact wG rfl
theorem UH(m:Mc):WI (wd m):=by
 have h:∀ w∈(["uncurl","curl","part","lay","slide"]:List Str),WI w:=by decide +kernel
 cases m <;> exact h _ (by simp [wd])
theorem tells_of{m:Mc}{G:Gp}{Q:DK}(q:Q (.bl true) G):cM [td m,td m] G Q fun _ _=>False:=⟨wd m,ar m,rfl,⟨TF m,UH m,Wl m⟩,q⟩
end Mo
end K2
end
section
namespace K2
namespace tf
noncomputable def ab(c:Int):Int:=if c < 0 then -c else c
variable {α:Type}
noncomputable def rnd(f:Int->Int)(r:Int->List α):Nat->Int->List Int->List α->List α×List Int
 | 0,_,MK,ps=>(ps,MK)
 | k+1,p,MK,ps=>if p∈MK then (ps,MK) else rnd f r k (f p) (MK++[p]) (ps++r p)
noncomputable def cls(f:Int->Int)(r:Int->List α):List Int->List (List α)->List Int->List (List α)
 | [],rows,_=>rows
 | t :: ts,rows,met=>if t∈met then cls f r ts rows met else
  let s:=rnd f r 4 t [] []
  cls f r ts (rows++[s.1]) (met++s.2)
end tf
end K2
end
section
namespace K2
open PySem (Str)
open Enc (enc)
namespace tf
open K2.P
noncomputable def Ok(n:Int)(cs:List Int):Prop:=n<=3/\cs.length<=40/\∀ c∈cs,1<=ab c/\ab c < n
end tf
end K2
end
section
namespace K2
open PySem (Str)
open Enc (enc)
namespace tf
open K2.P
noncomputable def Good(n:Int)(cs:List Int):Prop:=(1<=n/\n<=3)/\cs.length<=12/\∀ c∈cs,1<=ab c/\ab c < n
noncomputable instance (n:Int) (cs:List Int):Decidable (Good n cs):=by unfold Good; exact inferInstance
end tf
end K2
end
section
namespace K2
open PySem (Str)
open Enc (enc)
namespace tf
open K2.P
noncomputable def km:List T3->T3
 | []=>⟨0,0,0⟩
 | a :: r=>r.foldl (fun m x=>if cA.lt x m=true then x else m) a
theorem kT{r:List T3}(h:r≠[]):km r∈r:=by
 cases r with
 | nil=>exact absurd rfl h
 | cons a r=>exact(kn r a).1
theorem qe{r:List T3}{y:T3}(hy:y∈r):Bq (km r) y=true:=by
 cases r with
 | nil=>cases hy
 | cons a r=>exact(kn r a).2 y hy
noncomputable def dm(r:List T3):List T3:=r.drop (r.idxOf (km r))++r.take (r.idxOf (km r))
theorem su{x:D}{G:Gp}{r:List T3}{Q:DK}(hi:itemsOf x G=some (r.map enc))(sT:r≠[])(q:Q (enc (km r)) G):LJ [x] G Q :=
 Bg.mn hi sT fun m hm hl=>by
  have:m=km r:=Av _ _ (hl _ (kT sT)) (qe hm);rw [this]; exact q
theorem nK{x:D}{G:Gp}{r:List T3}{Q:DK}(ht:uA x G)(hi:itemsOf x G=some (r.map enc))(sT:r≠[])(q:Q (.int ((r.idxOf (km r):Nat):Int)) G):zY x [enc (km r)] G Q:=by
 refine⟨ht,r.map enc,enc (km r),r.map enc,hi,Enc.sn G 8 _ (by decide),wI G 7 (by decide) r,?_⟩;have e:(r.map enc).findIdx? (jT · (enc (km r)))=some (r.idxOf (km r)):=by
  have hf:(fun y:T3=>jT (enc y) (enc (km r)))=fun y=>y == km r:=by
   funext y;rw [Enc.eqv];by_cases h:y=km r <;> simp [h]
  rw [List.findIdx?_map];show List.findIdx? (fun y=>jT (enc y) (enc (km r))) r=_;rw [hf];have hm:=kT sT;rw [List.idxOf];rw [List.findIdx?_eq_some_iff_findIdx_eq];exact⟨List.findIdx_lt_length.mpr ⟨_,hm,by simp⟩,rfl⟩
 rw [e]; exact q
end tf
end K2
end
section
namespace K2
open PySem (Str)
open Enc (enc)
namespace P
variable {rows:Rows}
theorem vN{i:Nat}{t:fN}{E:lq}{K:j0}{τ:iH}{G:Gp}:LF i t E K τ G=t E { K with nx:=fun tK G1=>match tK[i]? with
 | some (some d)=>Jh G1 d fun t G2=>K.nx (tK.set i (some t)) G2
 | _=>False } τ G:=rfl
end P
end K2
end
section
namespace K2
open PySem (Str)
open Enc (enc)
namespace K3
open K2.P K2.nW
theorem DE{α:Type} [DecidableEq α] [Enc α]{neg:Bool}{x:α}{xs:List α}{a:Nat}{G:Gp}{Q:DK}(hd:Enc.dep α<=7)(h:G a=some (.lst (xs.map enc)))(q:Q (.bl (if neg then !decide (x∈xs) else decide (x∈xs))) G):Cw neg (enc x) (.ref a) G Q:=by
 unfold Cw;simp only [h];refine⟨_,_,Enc.sn G 8 x (by lia),wI G 7 hd xs,?_⟩;rw [EE]; exact q
theorem w4{c:yb}{a b:fN}{E:lq}{K:j0}{τ:iH}{G:Gp}:cS c a b E K τ G=c E τ G fun k G1=>if k=true then a E K τ G1 else b E K τ G1:=rfl
end K3
end K2
end
section
namespace K2
open PySem (Str)
open Enc (enc)
namespace K3
open K2.P K2.nW
noncomputable def Rf(n:Int):Int:=n % 999+1
noncomputable def fit(n:Int):Nat->Int
 | 0=>n
 | k+1=>Rf (fit n k)
theorem oQ{n:Int}(h1:1<=n)(h2:n<=999):∀ k:Nat,fit n k=(n - 1+k) % 999+1
 | 0=>by show n=_; lia
 | k+1=>by
  show Rf (fit n k)=_;rw [oQ h1 h2 k];unfold Rf;lia
theorem ib:∀ (xs ys:List Int),xs.Nodup->(∀ x∈xs,x∈ys)->xs.length<=ys.length
 | [],_,_,_=>fT _
 | x :: xs,ys,hn,h=>by
  rw [fZ] at hn;have:=ib xs (ys.erase x) hn.2 fun y hy=>(Pn (show y≠x from fun z=>hn.1 (by rw [<-z]; exact hy))).mpr (h y (bq _ hy));have hx:=h x (by simp);rw [Kx hx] at this;have:=Mn hx;rw [aq]; lia
theorem vG{n:Int}{ns:List Int}(h1:1<=n)(h2:n<=999)(hl:ns.length<=500):∃ k,k<=ns.length/\fit n k∉ns:=by
 apply kg;intro SU;have N5:∀ k,k<=ns.length->fit n k∈ns:=fun k hk=>kg fun z=>SU ⟨k,hk,z⟩;have nd:((gK (ns.length+1)).map fun k=>fit n k).Nodup:=by
  refine List.pairwise_iff_getElem.mpr fun i j hi hj hij=>?_;simp only [av,eP] at hi hj;rw [cJ,cJ,mj,mj,oQ h1 h2,oQ h1 h2];lia
 have:=ib _ ns nd fun x hx=>by
  obtain⟨k,hk,rfl⟩:=List.mem_map.mp hx;exact N5 k (by have:=List.mem_range.mp hk; lia)
 simp at this;lia
noncomputable def ins(r:List T3)(k:Nat)(p:T3):List T3:=r.take k++p :: r.drop k
theorem FW(r:List T3)(k:Nat)(p:T3):(ins r k p).Perm (p :: r):=MM p r k
theorem Qi(r:List T3)(k:Nat)(p:T3):(r.map enc).take k++enc p :: (r.map enc).drop k=(ins r k p).map (enc:T3->D):=by
 unfold ins; rw [aW,aC,Bm,Bn]
structure DF(L:List T3):Prop where
 nd:(L.map T3.s).Nodup
 way:∀ p∈L,p.b=0\/p.b=1
 hand:∀ p∈L,p.c=1\/p.c=-1
 zX:∀ p∈L,(⟨p.a,1 - p.b,p.c⟩:T3)∈L
theorem DF.perm{L L':List T3}(h:DF L)(p:L'.Perm L):DF L' :=
 ⟨(p.map _).nodup_iff.mpr h.nd,fun x hx=>h.way x (p.mem_iff.mp hx),fun x hx=>h.hand x (p.mem_iff.mp hx),fun x hx=>p.mem_iff.mpr (h.zX x (p.mem_iff.mp hx))⟩
theorem DF.add{L:List T3}(h:DF L){m hd:Int}(hm:m∉L.map (·.a))(hh:hd=1\/hd=-1):DF (⟨m,1,hd⟩ :: ⟨m,0,hd⟩ :: L):=by
 have no:∀ w,(⟨m,w⟩:T2)∉L.map T3.s:=fun w z=>by
  obtain⟨p,hp,e⟩:=List.mem_map.mp z;exact hm (List.mem_map.mpr ⟨p,hp,by have:=congrArg T2.a e; exact this⟩)
 refine⟨?_,?_,?_,?_⟩
 ·rw [aC,aC,fZ,fZ];refine⟨fun z=>?_,no 0,h.nd⟩;rcases List.mem_cons.mp z with e | z
  ·have:=congrArg T2.b e;exact absurd (show (1:Int)=0 from this) (by decide)
  ·exact no 1 z
 ·intro p hp;rcases List.mem_cons.mp hp with rfl | hp
  ·exact .inr rfl
  ·rcases List.mem_cons.mp hp with rfl | hp
   ·exact .inl rfl
   ·exact h.way p hp
 ·intro p hp;rcases List.mem_cons.mp hp with rfl | hp
  ·exact hh
  ·rcases List.mem_cons.mp hp with rfl | hp
   ·exact hh
   ·exact h.hand p hp
 ·intro p hp;rcases List.mem_cons.mp hp with rfl | hp
  ·exact bq _ c8
  ·rcases List.mem_cons.mp hp with rfl | hp
   ·exact c8
   ·exact bq _ (bq _ (h.zX p hp))
theorem HR.at_{G G':Gp}{p0:Nat}{as:List Nat}{rs:Rows}(h:HR G G' p0 as rs){j:Int}(j1:0<=j)(j2:j < rs.length):∃ a r,as[j.toNat]?=some a/\rs[j.toNat]?=some r/\G' a=some (.lst (r.map enc))/\nT (as.map D.ref) j=some (.ref a):=by
 have hj:j.toNat < as.length:=by have:=h.len; lia
 refine⟨as[j.toNat],rs[j.toNat]'(by lia),aU hj,aU _,h.at' _ _ _ (aU hj) (aU _),?_⟩;rw [fS _ j1 (by rw [av]; have:=h.len; lia),cJ]
end K3
end K2
end
section
namespace K2
open PySem (Str)
open Enc (enc)
namespace yi
open K2.P
open K2.tf (dm km)
noncomputable def qU(r:List T3)(k:Nat):List T3:=r.drop k++r.take k
theorem RT{r:List T3}{k:Nat}{G:Gp}{Q:DK}{d:D}(hd:IsL G d (r.map enc))(hk:k<=r.length)(hl:r.length<=1000)(q:Q (enc (qU r k)) G) :
  M6 d (some (k:Int)) none G fun x G1=>M6 d none (some (k:Int)) G1 fun y G2=>jl x y G2 fun z G3=>Jh G3 z Q:=by
 refine rN hd ?_;rw [oB,vQ r k hk];intro p hp;refine rN (hd.mono (.new hp)) ?_;rw [oB,Es r k hk];intro p2 rf;have SV:p≠p2:=fun z=>by rw [<-z,aI] at rf; cases rf
 have g1:de (de G p (.lst ((r.drop k).map enc))) p2 (.lst ((r.take k).map enc)) p=some (.lst ((r.drop k).map enc)):=by rw [cU SV,aI]
 have gl:e8 G (de (de G p (.lst ((r.drop k).map enc))) p2 (.lst ((r.take k).map enc))):=(e8.new hp).trans (.new rf);show A8 _ _ _ _;unfold A8;rw [lZ (IsL.ref (ds:=(r.drop k).map enc) g1),lZ (IsL.ref (ds:=(r.take k).map enc) aI)];refine⟨Hl (by simp; lia),fun p3 NR=>?_⟩;refine jQ (xs:=qU r k) (gl.trans (.new NR)) (gl.free NR) ?_ q;rw [aI];unfold qU;rw [aW]
end yi
end K2
end
section
namespace K2
open PySem (Str)
open Enc (enc)
namespace yi
open K2.P
open K2.tf (dm km kT qe)
theorem pj(r:List T3)(k:Nat):(qU r k).Perm r:=by
 unfold qU;exact List.perm_append_comm.trans (by rw [cT])
theorem Dq{r a b:List T3}{x:T3}(hx:x=km r)(e:r=a++x :: b)(hn:x∉a):dm r=x :: b++a:=by
 have hi:r.idxOf (km r)=a.length:=by
  rw [<-hx,e,List.idxOf_append,if_neg hn,List.idxOf_cons_self]; simp
 unfold dm;rw [hi,e,List.drop_left,List.take_left]
theorem Ld{r r':List T3}(p:r'.Perm r)(sT:r≠[]):km r'=km r:=by
 have Zp:r'≠[]:=fun z=>sT (by rw [z] at p; exact p.symm.eq_nil);exact Av _ _ (qe (p.mem_iff.mpr (kT sT))) (qe (p.mem_iff.mp (kT Zp)))
theorem uN{r:List T3}(hn:(r.map T3.s).Nodup)(k:Nat):dm (qU r k)=dm r:=by
 by_cases sT:r=[]
 ·subst sT; unfold qU; simp
 have nd:r.Nodup:=by
  refine List.Pairwise.imp ?_ (List.pairwise_map.mp hn);intro a b h e;exact h (congrArg _ e)
 have hl:=Ld (pj r k) sT;obtain⟨a,b,e⟩:=jM (kT sT);generalize hx:km r=x at e;rw [hx] at hl;have Zq:(a++x :: b).Nodup:=by rw [<-e]; exact nd
 rw [ky] at Zq;have ha:x∉a:=fun z=>Zq.2.2 x z x c8 rfl;have hb:x∉b:=(List.nodup_cons.mp Zq.2.1).1;rw [Dq hx.symm e ha];by_cases hk:k<=a.length
 ·have e2:qU r k=a.drop k++x :: (b++a.take k):=by
   unfold qU;rw [e,List.drop_append_of_le_length hk,EL hk]; simp
  rw [Dq hl.symm e2 fun z=>ha (Pm z)];simp only [aL,cw,cT]
 ·obtain⟨j,rfl⟩:∃ j,k=a.length+(j+1):=⟨k - a.length - 1,by lia⟩;have e2:qU r (a.length+(j+1))=(b.drop j++a)++x :: b.take j:=by
   unfold qU;rw [e,List.drop_length_add_append,List.take_length_add_append,List.drop_succ_cons,List.take_succ_cons]; simp
  rw [Dq hl.symm e2 fun z=>(List.mem_append.mp z).elim (fun z=>hb (Pm z)) ha];simp only [aL,<-cw,cT]
inductive Ro:Rows->Rows->Prop
 | nil:Ro [] []
 | cons {r x:List T3} {rs xs:Rows}:(∃ k,k<=r.length/\x=qU r k)->Ro rs xs->Ro (r :: rs) (x :: xs)
end yi
end K2
end
section
namespace K2
open PySem (Str)
open Enc (enc)
namespace nW
open K2.P
variable {rows:Rows}
end nW
end K2
end
section
namespace K2
open PySem (Str)
open Enc (enc)
namespace nW
open K2.P
variable {rows:Rows}
end nW
end K2
end
section
namespace K2
open PySem (Str)
open Enc (enc)
namespace yi
open K2.P
open K2.tf (dm km kT qe)
open K2.nW (oj kC HR HR.fz)
open K2.K3 (DF)
theorem PN{r:List T3}{k:Nat}{G:Gp}{Q:DK}{d:D}(hd:IsL G d (r.map enc))(hk:k<=r.length)(hl:r.length<=1000)(q:∀ p G1,e8 G G1->G p=none->G1 p=some (.lst ((qU r k).map enc))->Q (.ref p) G1) :
  M6 d (some (k:Int)) none G fun x G1=>M6 d none (some (k:Int)) G1 fun y G2=>jl x y G2 Q:=by
 refine rN hd ?_;rw [oB,vQ r k hk];intro p hp;refine rN (hd.mono (.new hp)) ?_;rw [oB,Es r k hk];intro p2 rf;have SV:p≠p2:=fun z=>by rw [<-z,aI] at rf; cases rf
 have g1:de (de G p (.lst ((r.drop k).map enc))) p2 (.lst ((r.take k).map enc)) p=some (.lst ((r.drop k).map enc)):=by rw [cU SV,aI]
 have gl:e8 G (de (de G p (.lst ((r.drop k).map enc))) p2 (.lst ((r.take k).map enc))):=(e8.new hp).trans (.new rf);show A8 _ _ _ _;unfold A8;rw [lZ (IsL.ref (ds:=(r.drop k).map enc) g1),lZ (IsL.ref (ds:=(r.take k).map enc) aI)];refine⟨Hl (by simp; lia),fun p3 NR=>?_⟩;refine q _ _ (gl.trans (.new NR)) (gl.free NR) ?_;rw [aI];unfold qU;rw [aW]
end yi
end K2
end
section
namespace K2
open PySem (Str)
open Enc (enc)
namespace yi
open K2.P
open K2.tf (dm km kT qe)
open K2.K3 (DF)
variable {rows c:Rows}
end yi
end K2
end
section
namespace K2
open Enc (enc)
namespace EJ
open K2.P K2.yi
open K2.tf (dm km kT qe)
open K2.K3 (DF)
theorem mR(a b:List T3):qU (a++b) a.length=b++a:=by unfold qU; rw [List.drop_left,List.take_left]
theorem yQ{r:List T3}{k j:Nat}(hk:k<=r.length)(hj:j<=r.length):∃ i,i<=r.length/\qU (qU r k) j=qU r i:=by
 obtain⟨a,b,rfl,rfl⟩:∃ a b,r=a++b/\k=a.length:=⟨r.take k,r.drop k,(cT k r).symm,by rw [ff]; lia⟩;rw [mR];rw [aJ] at hj;by_cases h:j<=b.length
 ·obtain⟨b1,b2,rfl,rfl⟩:∃ b1 b2,b=b1++b2/\j=b1.length:=⟨b.take j,b.drop j,(cT j b).symm,by rw [ff]; lia⟩;refine⟨(a++b1).length,by simp,?_⟩;rw [cw,mR,<-cw a b1 b2,mR,cw]
 ·obtain⟨i,rfl⟩:∃ i,j=b.length+i:=⟨j - b.length,by lia⟩;obtain⟨a1,a2,rfl,rfl⟩:∃ a1 a2,a=a1++a2/\i=a1.length:=⟨a.take i,a.drop i,(cT i a).symm,by rw [ff]; lia⟩;refine⟨a1.length,by simp,?_⟩;rw [<-cw,show b.length+a1.length=(b++a1).length by simp,mR,cw a1 a2 b,mR,cw]
theorem yR(r:List T3)(k:Nat):(qU r k).length=r.length:=(pj r k).length_eq
theorem iB(rows:Rows):Ro rows (rows.map dm):=by
 induction rows with
 | nil=>exact .nil
 | cons r rows ih=>exact .cons ⟨_,oM,rfl⟩ ih
end EJ
end K2
end
section
namespace K2
open PySem (Str)
open Enc (enc)
namespace Mo
open K2.P
open K2.tf (dm)
open K2.yi (qU Ro pj uN)
open K2.EJ (mR yQ yR iB)
noncomputable def sv(r x:List T3):Prop:=∃ k,k<=r.length/\x=qU r k
theorem sv.trans{a b c:List T3}(h:sv a b)(h2:sv b c):sv a c:=by
 obtain⟨k,hk,rfl⟩:=h;obtain⟨j,hj,rfl⟩:=h2;rw [yR] at hj;exact yQ hk hj
theorem sv.app(a b:List T3):sv (a++b) (b++a):=⟨a.length,by simp,(mR a b).symm⟩
theorem sv.perm{a b:List T3}(h:sv a b):b.Perm a:=by
 obtain⟨k,_,rfl⟩:=h;exact pj a k
theorem sv.parts{a b:List T3}(h:sv a b):∃ u v,a=u++v/\b=v++u:=by
 obtain⟨k,_,rfl⟩:=h;exact⟨a.take k,a.drop k,(cT k a).symm,rfl⟩
theorem sv.of{a b u v:List T3}(h1:a=u++v)(h2:b=v++u):sv a b:=by rw [h1,h2]; exact .app u v
theorem sv.map{a b:List T3}{f:T3->T3}(h:sv a b):sv (a.map f) (b.map f):=by
 obtain⟨u,v,rfl,rfl⟩:=h.parts;exact .of (u:=u.map f) (v:=v.map f) (by rw [aW]) (by rw [aW])
theorem sv.XY{a b:List T3}(h:sv a b)(nd:(a.map T3.s).Nodup):dm b=dm a:=by
 obtain⟨k,_,rfl⟩:=h;exact uN nd k
theorem MX(r:List T3):sv r (dm r):=⟨_,oM,rfl⟩
structure Ru(rows:Rows):Prop where
 nd:(rows.flatten.map T3.s).Nodup
 way:∀ p∈rows.flatten,p.b=0\/p.b=1
theorem _root_.Internal.K2.Dr.dn{rows:Rows}(d:Dr rows):Ru rows:=⟨d.nd,d.way⟩
theorem Oe(R1 R2:Rows)(r:List T3):(R1++r :: R2).flatten=R1.flatten++(r++R2.flatten):=by rw [cK,bg]
end Mo
end K2
end
section
namespace K2
open PySem (Str)
open Enc (enc)
namespace Mo
open K2.P
open K2.tf (dm)
open K2.yi (qU Ro pj uN)
open K2.EJ (mR yQ yR iB)
theorem Ro.YY{a b:Rows}(h:Ro a b):b.length=a.length:=by
 induction h with
 | nil=>rfl
 | cons _ _ ih=>rw [aq,aq,ih]
theorem lM{a b:Rows}(h:Ro a b):b.flatten.Perm a.flatten:=by
 induction h with
 | nil=>exact .refl _
 | cons q _ ih =>
  have q:sv _ _:=q;rw [bg,bg];exact q.perm.append ih
theorem Ru.ro{a b:Rows}(d:Ru a)(h:Ro a b):Ru b :=
 ⟨((lM h).map T3.s).nodup_iff.mpr d.nd,fun p hp=>d.way p ((lM h).mem_iff.mp hp)⟩
theorem _root_.Internal.K2.Dr.ro{a b:Rows}(d:Dr a)(h:Ro a b):Dr b :=
 ⟨(d.dn.ro h).nd,(d.dn.ro h).way,fun p hp=>d.hand p ((lM h).mem_iff.mp hp),fun p hp=>(lM h).mem_iff.mpr (d.zX p ((lM h).mem_iff.mp hp)),by rw [(lM h).length_eq]; exact d.Qy,by rw [Ro.YY h]; exact d.str⟩
theorem Ru.row{rows:Rows}(d:Ru rows){r:List T3}(h:r∈rows):(r.map T3.s).Nodup:=by
 obtain⟨A,B,rfl⟩:=jM h;have:=d.nd;rw [Oe,aW,aW] at this;exact(List.nodup_append.mp (List.nodup_append.mp this).2.1).1
theorem MT{a b:Rows}(h:Ro a b):(∀ r∈a,(r.map T3.s).Nodup)->b.map dm=a.map dm:=by
 induction h with
 | nil=>intro _; rfl
 | cons q _ ih =>
  intro hn;have q:sv _ _:=q;rw [aC,aC,ih fun r hr=>hn r (bq _ hr),q.XY (hn _ c8)]
theorem Ru.UX{a b:Rows}(d:Ru a)(h:Ro a b):b.map dm=a.map dm:=MT h fun r hr=>d.row hr
theorem Jr{r:List T3}{p q:T3}(h:(∃ A B,r=A++p :: q :: B)\/(∃ M,r=q :: M++[p])\/(r=[p]/\q=p)):(p,q)∈r.zip (eU r):=by
 have go:∀ i:Nat,r[i]?=some p->(eU r)[i]?=some q->(p,q)∈r.zip (eU r):=fun i h1 h2=>dA (i:=i) (List.getElem?_zip_eq_some.mpr ⟨h1,h2⟩);rcases h with ⟨A,B,rfl⟩ | ⟨M,rfl⟩ | ⟨rfl,rfl⟩
 ·refine go A.length (by simp) ?_;unfold eU;rw [bK (by simp),List.getElem?_drop,Nat.add_comm,bh (by lia)];simp
 ·refine go (M.length+1) ?_ ?_
  ·rw [bh (by simp)]; simp
  ·unfold eU;rw [bh (by simp)]; simp
 ·exact go 0 rfl rfl
theorem sv.adj{p q:T3}{T r:List T3}(h:sv (p :: q :: T) r):(p,q)∈r.zip (eU r):=by
 obtain⟨u,v,e,rfl⟩:=h.parts;refine Jr ?_
 match u,e with
 | [],e=>exact .inl ⟨[],T,by simpa using e.symm⟩
 | [a],e =>
  simp at e;obtain⟨rfl,rfl⟩:=e;exact .inr (.inl ⟨T,rfl⟩)
 | a :: b :: u,e =>
  simp at e;obtain⟨rfl,rfl,rfl⟩:=e;exact .inl ⟨v,u,rfl⟩
theorem sv.one{p:T3}{r:List T3}(h:sv [p] r):r=[p]:=by have:=h.perm; exact List.perm_singleton.mp this
theorem Cz{R1 R2:Rows}{r:List T3}{x:T3×T3}(h:x∈r.zip (eU r)):x∈pairsOf (R1++r :: R2):=by
 unfold pairsOf;rw [List.flatMap_append,Cj];exact c9 _ (oK _ h)
theorem vh{R1 R2:Rows}{p q:T3}{T r:List T3}(d:Dr (R1++r :: R2))(h:sv (p :: q :: T) r):fY (fg (pairsOf (R1++r :: R2))) p.s=some q.s:=by
 rw [FD d];exact(Nl d (Cz h.adj)).1
theorem vi{R1 R2:Rows}{p:T3}{r:List T3}(d:Dr (R1++r :: R2))(h:sv [p] r):fY (fg (pairsOf (R1++r :: R2))) p.s=some p.s:=by
 rw [FD d];refine(Nl d (Cz ?_)).1;rw [h.one];exact Jr (.inr (.inr ⟨rfl,rfl⟩))
end Mo
end K2
end
section
namespace K2
open PySem (Str)
open Enc (enc)
namespace K3
open K2.P K2.nW
noncomputable def kz:iw:=fun ds G Q _=>∃ rows:Rows,ds=[enc rows]/\rows.flatten.length < 64/\∀ p,G p=none->Q (.ref p) (de G p (.lst ((names rows).map enc)))
theorem eq_int(i j:Int):jT (.int i) (.int j)=decide (i=j):=Enc.eqv i j
end K3
end K2
end
section
namespace K2
open PySem (Str)
open Enc (enc)
namespace EJ
open K2.P
open K2.yi (qU Ro)
open K2.tf (dm km su nK)
open K2.nW (HR HR.fz)
noncomputable def Cv:fN :=
 (bF (cS (gv (di (ah 0))) (bM (c7 (eG aM))) bQ)
 (bF (bw (oV uA zY (ah 0) (aj (iZ LJ (aj (ah 0) aM)) aM)) (aH 1))
 (bM (c7 (aN jl (xm (ah 0) (lz (ah 1)) eE) (xm (ah 0) eE (lz (ah 1))))))))
noncomputable def ph:iw:=fun ds G Q _=>∃ r:List T3,ds=[enc r]/\r.length<=1000/\∀ p,G p=none->Q (.ref p) (de G p (.lst ((dm r).map enc)))
theorem C4(ds:List D)(G:Gp)(Q:DK)(h:ph ds G Q fun _ _=>False):Cv (fun _ _=>False) (ends Q) (aZ 2 ds) G:=by
 obtain⟨r,rfl,hl,q⟩:=h;unfold Cv;refine bE (fun τ G'=>G=G'/\r≠[]/\τ=[some (enc r),none]) ?_ ?_
 ·intro N hN;simp only [cS,gv,aZ,aC,aT,aq,az,bb,aL,aO,bM,c7,eG,aM,ends,bQ,ck,ah,aa];cases r with
  | nil=>exact⟨by decide,fun p hp=>w9 (.new hp) hp aI (q p hp)⟩
  | cons a t=>exact hN _ _ ⟨rfl,by simp,rfl⟩
 ·rintro _ _ ⟨rfl,sT,rfl⟩;simp only [ends,fe,bw,oV,ah,aa,aj,iZ,aM,aH,bM,c7,aN,xm,ai,ag,eE,jZ,ae];refine⟨trivial,su rfl sT (nK trivial rfl sT ?_)⟩;have Zu:r.idxOf (km r)<=r.length:=oM;refine yi.PN (IsL.enc r) Zu hl fun p G1 l f g=>?_;exact w9 l f g (q p f)
noncomputable def rH:fN :=
 (bM (c7 (fR 1 [] (ic (ah 0)) (aH 0) none (bo ph (aj (ah 0) aM)))))
noncomputable def dj:iw:=fun ds G Q _=>∃ rows:Rows,ds=[enc rows]/\(rows.length<=1000/\∀ r∈rows,r.length<=1000)/\∀ p as G',HR G G' p as (rows.map dm)->Q (.ref p) G'
theorem sy(ds:List D)(G:Gp)(Q:DK)(h:dj ds G Q fun _ _=>False):rH (fun _ _=>False) (ends Q) (aZ 1 ds) G:=by
 obtain⟨rows,rfl,⟨hl,hr⟩,q⟩:=h;unfold rH;simp only [bM,c7,fR,aZ,aC,aT,aq,az,aL,aO,ends,cG,ah,aa];refine dP ⟨Hl (by rw [av]; exact hl),?_⟩;refine jm (xs:=rows) (fun pre acc τ G'=>(∃ a,τ=[a])/\∃ bs:List Nat,acc=bs.map D.ref/\bs.length=pre.length/\bs.Nodup/\(∀ a∈bs,G a=none)/\e8 G G'/\∀ (i a:Nat) (r:List T3),bs[i]?=some a->pre[i]?=some r->G' a=some (.lst ((dm r).map enc))) ⟨⟨_,rfl⟩,[],rfl,rfl,iI,(fun a h=>by cases h),.refl _,fun i a r h=>by simp at h⟩ (fun _ _ _ _ _=>trivial) ?_ ?_
 ·rintro pre r post acc τ G' N e ⟨⟨a,rfl⟩,bs,rfl,hl,nd,fr,le,N0⟩ hN;simp only [aH,bo,aj,ah,ag,aa,aM];refine⟨r,rfl,hr r (by rw [e]; simp),fun p hp=>?_⟩;have Q6:p∉bs:=fun z=>by
   obtain⟨i,hi⟩:=iY z;have h1:i < pre.length:=by rw [<-hl]; exact(List.getElem?_eq_some_iff.mp hi).1
   rw [N0 i p pre[i] hi (aU h1)] at hp; cases hp
  refine hN _ _ _ ⟨⟨_,rfl⟩,bs++[p],by simp,by simp [hl],?_,?_,le.trans (.new hp),?_⟩
  ·rw [ky];refine⟨nd,by simp,fun a h b hb e=>?_⟩;rw [fy] at hb;subst hb e;exact Q6 h
  ·intro a h0;rcases List.mem_append.mp h0 with h | h
   ·exact fr a h
   ·rw [fy] at h; subst h; exact le.free hp
  ·intro i b s h1 h2;by_cases hi:i < bs.length
   ·rw [bK hi] at h1;rw [bK (by lia)] at h2;have:b≠p:=by rintro rfl; exact Q6 (dA h1)
    rw [cU this];exact N0 i b s h1 h2
   ·rw [bh (by lia)] at h1 h2;have i0:i - bs.length=0:=by have:=(List.getElem?_eq_some_iff.mp h1).1; simp at this; lia
    rw [i0] at h1;rw [<-hl,i0] at h2;simp at h1 h2;subst h1 h2;exact aI
 ·rintro acc τ G5 ⟨⟨a',rfl⟩,bs,rfl,hl,nd,fr,le,N0⟩ p3 NR;refine e9 (q p3 bs _ ⟨le.trans (.new NR),le.free NR,aI,fun z=>?_,nd,fr,by rw [av]; exact hl,fun i b r h1 h2=>?_⟩)
  ·obtain⟨i,hi⟩:=iY z;have h1:i < rows.length:=by rw [<-hl]; exact(List.getElem?_eq_some_iff.mp hi).1
   rw [N0 i p3 rows[i] hi (aU h1)] at NR; cases NR
  ·rw [dS] at h2;obtain⟨r',SK,rfl⟩:=Option.map_eq_some_iff.mp h2;exact(e8.new NR) _ _ (N0 i b r' h1 SK)
end EJ
end K2
end
section
namespace K2
open PySem (Str)
open Enc (enc)
namespace Mo
open K2.P
open K2.K3 (kz DE)
open K2.tf (dm)
open K2.nW (HR)
open K2.EJ (dj)
theorem xR{κ α:Type} [DecidableEq κ] [Enc κ] [oZ κ] [DecidableEq α] [Enc α]{l:List (κ×α)}{k:κ}{v:α}{G:Gp}{Q:DK}(hv:fY l k=some v)(q:Q (enc v) G):ee (.sM (en l)) (enc k) G Q:=by
 rw [DC,Ab,hv];exact⟨qg l k,q⟩
noncomputable def ot:fN :=
 (bF (bw (bo kz (aj (ah 0) aM)) (aH 2))
 (du (ic (ah 1)) (aH 3) (cS (di (aN (Cw true) (ah 3) (ah 2))) uk bQ)))
noncomputable def fO:iw:=fun ds G Q _=>∃ (rows:Rows) (d:D) (ns:List Int),ds=[enc rows,d]/\IsL G d (ns.map enc)/\(rows.flatten.length < 64/\∀ n∈ns,n∈names rows)/\∀ G',e8 G G'->Q .j9 G'
theorem vY(ds:List D)(G:Gp)(Q:DK)(h:fO ds G Q fun _ _=>False):ot (fun _ _=>False) (ends Q) (aZ 4 ds) G:=by
 obtain⟨rows,d,ns,rfl,hd,⟨hl,hn⟩,q⟩:=h;unfold ot;simp only [ends,aZ,aC,aT,aq,az,bb,aL,aO,fe,bw,bo,aj,ah,aa,aM,aH,ai,ag];refine⟨rows,rfl,hl,fun p hp=>?_⟩;have le:=e8.new (o:=.lst ((names rows).map enc)) hp;simp only [du,cG,ah,ae,aa];refine SF (hd.mono le) fun ok eL=>?_;refine eg (xs:=ns) (fun pre τ G'=>de G p (.lst ((names rows).map enc))=G'/\∃ a,τ=[some (enc rows),some d,some (.ref p),a]) ⟨rfl,_,rfl⟩ (fun _ _ G' h=>eL G' (by rw [h.1]; exact .refl _)) ?_ ?_
 ·rintro pre n post τ G' N e ⟨rfl,a,rfl⟩ hN;simp only [aH,cS,ai,ag,bQ,ck,aN,ah,ae,aa];refine DE (x:=n) (xs:=names rows) (by decide) aI ?_;have:n∈names rows:=hn n (by rw [e]; simp);simp only [this,decide_true,aS,if_true,aP,ao,if_false];exact hN _ _ ⟨rfl,_,rfl⟩
 ·rintro τ G' ⟨rfl,a,rfl⟩;exact q _ le
noncomputable def qK:fN :=
 (cS (gv (di (ah 0))) uk bQ)
noncomputable def j6:iw:=fun ds G Q _=>∃ b:Bool,ds=[.bl b]/\b=true/\Q .j9 G
theorem yH(ds:List D)(G:Gp)(Q:DK)(h:j6 ds G Q fun _ _=>False):qK (fun _ _=>False) (ends Q) (aZ 1 ds) G:=by
 obtain⟨b,rfl,rfl,q⟩:=h;unfold qK;simp only [cS,gv,aZ,aC,aT,aq,az,aL,aO,ends,bQ,ck,ah,aa,aP,aS,ao,if_false];exact q
theorem M7{α:Type} [DecidableEq α] [Enc α]{neg:Bool}{x:α}{xs:List α}{d:D}{G:Gp}{Q:DK}(hd:Enc.dep α<=7)(h:IsL G d (xs.map enc))(q:Q (.bl (if neg then !decide (x∈xs) else decide (x∈xs))) G):Cw neg (enc x) d G Q:=by
 rcases h with rfl | ⟨a,rfl,e⟩
 ·exact DG hd q
 ·exact DE hd e q
end Mo
end K2
end
section
namespace K2
open PySem (Str)
open Enc (enc)
namespace Mo
open K2.P
open K2.tf (dm)
open K2.nW (HR)
open K2.yi (qU Ro)
open K2.EJ (dj)
theorem Ql{G G1 G':Gp}{p:Nat}{as:List Nat}{rs:Rows}(h:HR G1 G' p as rs)(l:e8 G G1):HR G G' p as rs :=
 ⟨l.trans h.le,l.free h.fp,h.gp,h.np,h.nd,fun a ha=>l.free (h.fr a ha),h.len,h.at'⟩
theorem xj{rows:Rows}(d:Dr rows):rows.length<=500/\(∀ r∈rows,r.length<=500)/\rows.flatten.length < 64:=by
 have:=d.Qy;have h3:=d.str;refine⟨by lia,fun r hr=>?_,by lia⟩;have:=nW.jY hr;lia
end Mo
end K2
end
section
namespace K2
open PySem (Str)
open Enc (enc)
namespace Mo
open K2.P
open K2.tf (dm)
open K2.yi (qU Ro pj uN)
open K2.EJ (mR yQ yR iB)
theorem MY{R1 R2:Rows}{r:List T3}{b:Rows}(h:Ro (R1++r :: R2) b):∃ Ws r' Xi,b=Ws++r' :: Xi/\sv r r'/\Ws.length=R1.length:=by
 induction R1 generalizing b with
 | nil=>cases h with | cons q h=>exact⟨[],_,_,rfl,q,rfl⟩
 | cons a R1 ih =>
  cases h with
  | cons q h =>
   obtain⟨Ws,r',Xi,rfl,hr,hl⟩:=ih h;exact⟨_ :: Ws,r',Xi,rfl,hr,by rw [aq,aq,hl]⟩
end Mo
end K2
end
section
namespace K2
open PySem (Str)
open Enc (enc)
namespace K3
open K2.P K2.nW
theorem LM{κ β:Type} [DecidableEq κ]{l:List (κ×β)}{k:κ}(h:k∉l.map (·.1)):fY l k=none:=by
 cases e:fY l k with
 | none=>rfl
 | some v=>exact absurd (List.mem_map.mpr ⟨_,FN e,rfl⟩) h
theorem GV{κ β:Type} [DecidableEq κ]{l:List (κ×β)}{k:κ}:(fY l k).isSome=decide (k∈l.map (·.1)):=by
 by_cases h:k∈l.map (·.1)
 ·simp only [h,decide_true];obtain⟨p,hp,rfl⟩:=List.mem_map.mp h;unfold fY;rw [mH,List.find?_isSome];exact⟨p,hp,by simp⟩
 ·rw [LM h]; simp [h]
theorem PU{κ α:Type} [DecidableEq κ] [Enc κ] [oZ κ] [DecidableEq α] [Enc α]{neg:Bool}{l:List (κ×α)}{k:κ}{G:Gp}{Q:DK}(hl:l≠[])(q:Q (.bl (if neg then !decide (k∈l.map (·.1)) else decide (k∈l.map (·.1)))) G):Cw neg (enc k) (.sM (en l)) G Q:=by
 refine⟨fun z=>hl ?_,qg l k,?_⟩
 ·unfold en at z; exact List.map_eq_nil_iff.mp z
 ·rw [Ab,mH,GV]; exact q
end K3
end K2
end
section
namespace K2
open PySem (Str)
open Enc (enc)
namespace K3
open K2.P K2.nW
variable {rows:Rows}
end K3
end K2
end
section
namespace K2
open PySem (Str)
open Enc (enc)
namespace ES
open K2.P K2.nW
open K2.K3
variable {rows:Rows}
end ES
end K2
end
section
namespace K2
open PySem (Str)
open Enc (enc)
namespace ES
open K2.P K2.nW
open K2.K3
variable {rows:Rows}
noncomputable def zF:fN :=
 (bF (cS (di (aN WE (ah 1) (iZ iq (aj (ah 0) aM)))) (bM (c7 (aN ee (ah 0) (ah 1)))) bQ)
 (bM (c7 (dC (.int 0)))))
noncomputable def cR:iw:=oj
theorem sD(ds:List D)(G:Gp)(Q:DK)(h:cR ds G Q fun _ _=>False):zF (fun _ _=>False) (ends Q) (aZ 2 ds) G:=yh ds G Q h
noncomputable def mixed(c:Int):Int:=c % 1000003 * 48271 % 1000003
noncomputable def gS:iw:=fun ds G Q _=>∃ c:Int,ds=[.int c]/\Q (.int (mixed c)) G
noncomputable def u4:fN :=
 (bM (c7 (aN kl (aN mS (aN kl (ah 0) (dC (.int 1000003))) (dC (.int 48271))) (dC (.int 1000003)))))
theorem v7(ds:List D)(G:Gp)(Q:DK)(h:gS ds G Q fun _ _=>False):u4 (fun _ _=>False) (ends Q) (aZ 1 ds) G:=by
 obtain⟨c,rfl,q⟩:=h;unfold u4;simp only [bM,c7,aN,ah,aZ,aC,aT,aq,az,aL,aO,aa,dC,ends,dG,nE];exact⟨by decide,.inr ⟨by decide,by decide⟩,by decide,e9 q⟩
noncomputable def nV(L:List T3):List Int:=(L.filter fun p=>p.b == 0).map (·.a)
noncomputable def kO:iw:=UU (fun rows:Rows=>rows.flatten.length<=500) fun rows=>nV rows.flatten
noncomputable def u3:fN :=
 (bF (bw (eG aM) (aH 1))
 (bF (du (ic (ah 0)) (aH 2) (du (ic (ah 2)) (aH 3) (cS (di (aN (nU false) (aN ee (ah 3) (dC (.int 1))) (dC (.int 0)))) (dH (oV uA gh (ah 1) (aj (aN ee (ah 3) (dC (.int 0))) aM))) bQ)))
 (bM (c7 (ah 1)))))
theorem sO(L:List T3):(nV L).length<=L.length:=by unfold nV; rw [av]; exact OY _ _
theorem DN(a b:List T3):nV (a++b)=nV a++nV b:=by unfold nV; rw [Bo,aW]
theorem v5(ds:List D)(G:Gp)(Q:DK)(h:kO ds G Q fun _ _=>False):u3 (fun _ _=>False) (ends Q) (aZ 4 ds) G:=by
 obtain⟨rows,rfl,hl,q⟩:=h;unfold u3;simp only [ends,aZ,aC,aT,aq,az,bb,aL,aO,fe,bw,eG,aM,aH,ai,ag];refine⟨by decide,fun p hp=>?_⟩;refine bE (fun τ G'=>(∃ a b,τ=[some (enc rows),some (.ref p),a,b])/\e8 G G'/\G' p=some (.lst ((nV rows.flatten).map enc))) ?_ ?_
 ·intro N hN;simp only [du,cG,ah,aa];refine dP ?_;refine eg (xs:=rows) (fun pre τ G'=>(∃ a b,τ=[some (enc rows),some (.ref p),a,b])/\e8 G G'/\G' p=some (.lst ((nV pre.flatten).map enc))) ⟨⟨_,_,rfl⟩,.new hp,aI⟩ (fun _ _ _ _=>trivial) ?_ ?_
  ·rintro pre r post τ G' N2 e ⟨⟨a,b,rfl⟩,l,gp⟩ qV;have hlen:pre.flatten.length+r.length<=rows.flatten.length:=by
    rw [e]; simp only [cK,bg,aJ]; lia
   simp only [aH,du,ai,ag,cG,ah,ae,aa];refine dP ?_;refine eg (xs:=r) (fun pp τ G'=>(∃ a b,τ=[some (enc rows),some (.ref p),a,b])/\e8 G G'/\G' p=some (.lst ((nV (pre.flatten++pp)).map enc))) ⟨⟨_,_,rfl⟩,l,by rw [cz]; exact gp⟩ (fun _ _ _ _=>trivial) ?_ ?_
   ·rintro pp t pt τ G4 N3 e4 ⟨⟨a,b,rfl⟩,l4,D5⟩ yv;have WS:pp.length < r.length:=by have:=congrArg dD e4; simp at this; lia
    have hz:=sO (pre.flatten++pp);rw [aJ] at hz;simp only [aH,mD,ai,ag,w4,dH,oV,ah,ae,aa,gP,aj,aN,dC,aM,eN,dq,A7,bQ,ck,x9];refine⟨_,_,.int _,.int _,?_⟩;rw [eq_int];have eu:nV (pre.flatten++(pp++[t]))=nV (pre.flatten++pp)++nV [t]:=by rw [<-cw,DN]
    by_cases hb:t.b=0
    ·simp only [ao,hb,decide_true,aS,if_false,aP,D5,true_and,if_true];refine⟨tw (by rw [av]; lia),yv _ _ ⟨⟨_,_,rfl⟩,l4.put hp,?_⟩⟩;rw [aI,eu,aW];have:nV [t]=[t.a]:=by simp [nV,hb]
     rw [this]; rfl
    ·simp only [ao,hb,decide_false,bN,if_false,aP];refine yv _ _ ⟨⟨_,_,rfl⟩,l4,?_⟩;have:nV [t]=[]:=by simp [nV,hb]
     rw [eu,this,cz]; exact D5
   ·rintro τ G4 ⟨⟨a,b,rfl⟩,l4,D5⟩;refine qV _ _ ⟨⟨_,_,rfl⟩,l4,?_⟩;have:(pre++[r]).flatten=pre.flatten++r:=by simp
    rw [this]; exact D5
  ·rintro τ G' ⟨⟨a,b,rfl⟩,l,gp⟩;exact hN _ _ ⟨⟨_,_,rfl⟩,l,gp⟩
 ·rintro _ G' ⟨⟨a,b,rfl⟩,l,gp⟩;simp only [bM,c7,ah,ae,aa];exact jQ l hp gp q
noncomputable def lV:iw:=fun ds G Q _=>∃ (ns:List Int) (c:Int),ds=[enc ns,.int c]/\ns.length<=500/\∀ m:Int,m∉ns->1<=m->m<=999->Q (.int m) G
noncomputable def xO:fN :=
 (bF (bw (aN jl (dC (.int 1)) (aN kl (ah 1) (dC (.int 999)))) (aH 2))
 (bF (IS (di (aN (Cw false) (ah 2) (ah 0))) (bw (aN jl (dC (.int 1)) (aN kl (ah 2) (dC (.int 999)))) (aH 2)))
 (bM (c7 (ah 2)))))
theorem yf(ds:List D)(G:Gp)(Q:DK)(h:lV ds G Q fun _ _=>False):xO (fun _ _=>False) (ends Q) (aZ 3 ds) G:=by
 obtain⟨ns,c,rfl,hl,q⟩:=h;unfold xO;simp only [ends,aZ,aC,aT,aq,az,bb,aL,aO,fe,bw,aN,dC,ah,ae,aa,aH,ai,ag,dG,fi];refine⟨by decide,?_⟩;have b1:1<=1+c % 999:=by lia
 have b2:1+c % 999<=999:=by lia
 generalize 1+c % 999=n at *;refine bE (fun τ G'=>G=G'/\∃ m:Int,(m∉ns/\1<=m/\m<=999)/\τ=[some (enc ns),some (.int c),some (.int m)]) ?_ ?_
 ·intro N hN;obtain⟨k,hk,nM⟩:=vG (ns:=ns) b1 b2 hl;have main:∀ (j:Nat),j<=k->yk (di (aN (Cw false) (ah 2) (ah 0))) (bw (aN jl (dC (.int 1)) (aN kl (ah 2) (dC (.int 999)))) (aH 2)) (j+1) (fun _ _=>False) { ends Q with nx:=N } [some (enc ns),some (.int c),some (.int (fit n (k - j)))] G:=by
   intro j;induction j with
   | zero =>
    intro _;show yk _ _ (0+1) _ _ _ _;rw [yk];simp only [bw,aN,dC,ah,ae,aa,aH,ends,ai,ag,dG,fi,ck];refine DG (x:=fit n (k - 0)) (by decide) ?_;simp only [ao,Nat.sub_zero,nM,decide_false,bN,if_false,aP];have:=oQ b1 b2 k;exact hN _ _ ⟨rfl,_,⟨nM,by lia,by lia⟩,rfl⟩
   | succ j ih =>
    intro hj;rw [yk];simp only [bw,aN,dC,ah,ae,aa,aH,ends,ai,ag,dG,fi,ck];refine DG (x:=fit n (k - (j+1))) (by decide) ?_;have hb:=oQ b1 b2 (k - (j+1));by_cases hm:fit n (k - (j+1))∈ns
    ·simp only [ao,hm,decide_true,aS,if_false,aP,if_true];refine⟨by decide,?_⟩;have e:1+fit n (k - (j+1)) % 999=fit n (k - j):=by
      rw [show k - j=(k - (j+1))+1 by lia,Int.add_comm]; rfl
     rw [e];exact ih (by lia)
    ·simp only [ao,hm,decide_false,bN,if_false,aP];exact hN _ _ ⟨rfl,_,⟨hm,by lia,by lia⟩,rfl⟩
  have:=main k (bp _);rw [Nat.sub_self] at this;exact⟨k+1,this⟩
 ·rintro _ _ ⟨rfl,m,⟨m1,m2,m3⟩,rfl⟩;simp only [bM,c7,ah,ae,aa];exact e9 (q m m1 m2 m3)
structure HA(G G':Gp)(as:List Nat)(rs:Rows):Prop where
 le:e8 G G'
 nd:as.Nodup
 fr:∀ a∈as,G a=none
 len:as.length=rs.length
 at':∀ (i a:Nat) (r:List T3),as[i]?=some a->rs[i]?=some r->G' a=some (.lst (r.map enc))
theorem HA.nil(G:Gp):HA G G [] []:=⟨.refl _,iI,(fun a h=>by cases h),rfl,fun i a r h=>by simp at h⟩
theorem HA.new{G G':Gp}{as:List Nat}{rs:Rows}(h:HA G G' as rs){p:Nat}(hp:G' p=none):p∉as:=fun z=>by
 obtain⟨i,hi⟩:=iY z;have h1:i < rs.length:=by rw [<-h.len]; exact(List.getElem?_eq_some_iff.mp hi).1
 rw [h.at' i p rs[i] hi (aU h1)] at hp; cases hp
theorem HA.push{G G':Gp}{as:List Nat}{rs:Rows}(h:HA G G' as rs){p:Nat}(hp:G' p=none)(r:List T3):HA G (de G' p (.lst (r.map enc))) (as++[p]) (rs++[r]):=by
 have Q6:=h.new hp;refine⟨h.le.trans (.new hp),?_,?_,by simp [h.len],?_⟩
 ·rw [ky];refine⟨h.nd,by simp,fun a ha b hb e=>?_⟩;rw [fy] at hb;subst hb e;exact Q6 ha
 ·intro a h0;rcases List.mem_append.mp h0 with z | z
  ·exact h.fr a z
  ·rw [fy] at z; subst z; exact h.le.free hp
 ·intro i b s h1 h2;by_cases hi:i < as.length
  ·rw [bK hi] at h1;rw [bK (by rw [<-h.len]; lia)] at h2;have:b≠p:=by rintro rfl; exact Q6 (dA h1)
   rw [cU this];exact h.at' i b s h1 h2
  ·rw [bh (by lia)] at h1;rw [bh (by rw [<-h.len]; lia)] at h2;have i0:i - as.length=0:=by have:=(List.getElem?_eq_some_iff.mp h1).1; simp at this; lia
   rw [i0] at h1;rw [<-h.len,i0] at h2;simp at h1 h2;subst h1 h2;exact aI
theorem HA.top{G G':Gp}{as:List Nat}{rs:Rows}(h:HA G G' as rs){p:Nat}(hp:G' p=none):HR G (de G' p (.lst (as.map D.ref))) p as rs :=
 ⟨h.le.trans (.new hp),h.le.free hp,aI,h.new hp,h.nd,h.fr,h.len,fun i b r h1 h2=>(e8.new hp) _ _ (h.at' i b r h1 h2)⟩
theorem qu{rows:Rows}{G:Gp}{Q:DK}(hl:rows.length<=1000){τ:iH}(q:∀ G' p as,HR G G' p as rows->Q (.ref p) G') :
  NM (enc rows) G fun ds ok G1=>ds.length<=SZ/\jb (aH 0) none (iZ pP (aj (ah 0) aM)) ok ds (fun _ _=>False) (sk 1 [] τ) G1 [] fun xs G2=>jR G2 (.lst xs) Q:=by
 refine dP ⟨Hl (by rw [av]; exact hl),?_⟩;refine jm (xs:=rows) (fun pre acc τ G'=>(∃ a,τ=[a])/\∃ as:List Nat,acc=as.map D.ref/\HA G G' as pre) ⟨⟨_,rfl⟩,[],rfl,.nil G⟩ (fun _ _ _ _ _=>trivial) ?_ ?_
 ·rintro pre r post acc τ G' N e ⟨⟨a,rfl⟩,as,rfl,h⟩ hN;simp only [aH,iZ,aj,ah,ag,aa,aM];refine GQ (IsL.enc r) fun p hp=>?_;exact hN _ _ _ ⟨⟨_,rfl⟩,as++[p],by simp,h.push hp r⟩
 ·rintro acc τ G' ⟨⟨a,rfl⟩,as,rfl,h⟩ p hp;exact q _ p as (h.top hp)
noncomputable def iA:iw:=fun ds G Q _=>∃ (rows:Rows) (c:Int),ds=[enc rows,.int c]/\(1<=rows.length/\rows.length<=3/\rows.flatten.length<=22) /\
 ∀ (jF:Rows) (m hd:Int),jF.length=rows.length->jF.flatten.Perm (⟨m,1,hd⟩ :: ⟨m,0,hd⟩ :: rows.flatten)->m∉nV rows.flatten->(hd=1\/hd=-1)->Q (enc jF) G
noncomputable def rL:fN :=
 (bF (bw (bo lV (aj (bo kO (aj (ah 0) aM)) (aj (ah 1) aM))) (aH 2))
 (bF (bw (bo gS (aj (ah 1) aM)) (aH 3))
 (bF (bw (aN Fw (dC (.int 1)) (aN mS (dC (.int 2)) (aN kl (ah 3) (dC (.int 2))))) (aH 4))
 (bF (bw (aN qN (ah 3) (dC (.int 2))) (aH 3))
 (bF (bw (fR 1 [] (ic (ah 0)) (aH 0) none (iZ pP (aj (ah 0) aM))) (aH 5))
 (bF (du (oz (dC (.int 2))) (aH 6) (bF (bw (aN ee (ah 5) (aN kl (ah 3) (iZ iq (aj (ah 5) aM)))) (aH 7))
 (bF (bw (aN qN (ah 3) (iZ iq (aj (ah 5) aM))) (aH 3))
 (bF (dH (oV uA sQ (ah 7) (aj (aN kl (ah 3) (aN jl (iZ iq (aj (ah 7) aM)) (dC (.int 1)))) (aj (fF (aj (ah 2) (aj (ah 6) (aj (ah 4) aM)))) aM))))
 (bw (aN qN (ah 3) (iZ iq (aj (ah 7) aM))) (aH 3))))))
 (bM (c7 (ah 5)))))))))
theorem sC(ds:List D)(G:Gp)(Q:DK)(h:iA ds G Q fun _ _=>False):rL (fun _ _=>False) (ends Q) (aZ 8 ds) G:=by
 obtain⟨rows,c,rfl,⟨n1,n3,hf⟩,q⟩:=h;unfold rL;simp only [ends,aZ,aC,aT,aq,az,bb,aL,aO,fe,bw,bo,aj,ah,aa,aM,ae,aH,ai,ag,aN,dC,fR,cG];refine⟨rows,rfl,(show rows.flatten.length<=500 by lia),?_⟩;have ol:=sO rows.flatten;refine⟨nV rows.flatten,c,rfl,by lia,fun m hm m1 m2=>?_⟩;simp only [c7,aZ,ends,ck,aN,GD,ah,iZ,oV,aj,aM,bM,Rj,dH,bw,aH,dC,bQ,fF,eG,xn,mV,LG,pU,gv,vO,Kj,AZ,xm,jZ,eE,cG,gY,bo,fR,fi,Fx,pD,ve,pC,nE,dG,jA,kR,DB,JE,JF,JG,dq,vd,vc,JD,yS,A6,nS,CW,eN,rP,oy,qO,gP,yP,Ju,Jt,true_and,and_true,J3,D0,iR,aP,fP,vr,J0,pK,aC,aT,aL,aO,aa,ae,ag,ai,aq,az,bb,if_true,if_false,aS,bN,ao,fe,lW];refine⟨c,rfl,?_⟩;simp only [jA,dG,nE,pC];have mx:0<=mixed c:=by unfold mixed; lia
 generalize mixed c=x at *;refine⟨by decide,.inl ⟨by decide,by decide⟩,by decide,by decide,?_⟩;have hh:1 - 2 * (x % 2)=1\/1 - 2 * (x % 2)=-1:=by lia
 generalize 1 - 2 * (x % 2)=hd at *;have x2:0<=x / 2:=by lia
 generalize x / 2=x at *;refine qu (rows:=rows) (by lia) fun G1 p0 as hr=>?_;refine bE (fun τ G'=>(∃ a b e,τ=[some (enc rows),some (.int c),some (.int m),a,some (.int hd),some (.ref p0),b,e])/\∃ KR,HR G G' p0 as KR/\KR.length=rows.length/\KR.flatten.Perm (⟨m,1,hd⟩ :: ⟨m,0,hd⟩ :: rows.flatten)) ?_ ?_
 ·intro N hN;simp only [du,gY,dC,fP];refine⟨by decide,by decide,?_⟩;unfold ek;refine eg (xs:=gK (2:Int).toNat) (fun pw τ G'=>∃ KR y,0<=y/\(∃ b e,τ=[some (enc rows),some (.int c),some (.int m),some (.int y),some (.int hd),some (.ref p0),b,e])/\HR G G' p0 as KR/\KR.length=rows.length/\KR.flatten.Perm ((pw.map fun (i:Nat)=>(⟨m,0+(i:Int),hd⟩:T3)).reverse++rows.flatten)) ⟨rows,x,x2,⟨_,_,rfl⟩,hr,rfl,.refl _⟩ (fun _ _ _ _=>trivial) ?_ ?_
  ·rintro pw w post τ G2 N2 e ⟨rs,y,y0,⟨b1,b2,rfl⟩,h2,l2,p2⟩ qV;have hw:pw.length < 2:=by
    have:=congrArg dD e;rw [eP,aJ,aq] at this;have h4:(2:Int).toNat=2:=rfl;lia
   simp only [aH,ai,ag,fX,bw,aN,ah,ae,aa,iZ,aj,aM,dH,oV,dC,fF,aq,az];refine gk (IsL.ref h2.gp) ?_;rw [av,h2.len];simp only [dG];refine⟨by lia,?_⟩;have j1:0<=y % (rs.length:Int):=pW _ (by lia);have j2:y % (rs.length:Int) < rs.length:=mr _ (by lia);generalize y % (rs.length:Int)=j at *;obtain⟨a,r,ea,er,ga,xa⟩:=HR.at_ h2 j1 j2;refine dE (IsL.ref h2.gp) xa ?_;refine gk (IsL.ref h2.gp) ?_;rw [av,h2.len];have y3:0<=y / (rs.length:Int):=Int.ediv_nonneg y0 (by lia);simp only [gP,jA,ga,true_and];refine⟨by lia,by lia,?_⟩;generalize y / (rs.length:Int)=y at *;refine gk (IsL.ref ga) ?_;rw [av];simp only [fi,dG,oy];have k1:0<=y % ((r.length:Int)+1):=pW _ (by lia);have k2:y % ((r.length:Int)+1) < (r.length:Int)+1:=mr _ (by lia);refine⟨by lia,by decide,?_⟩;generalize y % ((r.length:Int)+1)=k at *;have rl:r.length<=24:=by
    have h3:=jY (dA er);have h4:=p2.length_eq;rw [aJ,List.length_reverse,av] at h4;lia
   simp only [ga];refine⟨k1,by rw [av]; lia,tw (by rw [av]; lia),?_⟩;rw [show (D.tup [.int m,.int (0+(w:Int)),.int hd])=enc (⟨m,0+(w:Int),hd⟩:T3) from rfl,Qi];have h5:=h2.put (r':=ins r k.toNat ⟨m,0+(w:Int),hd⟩) ea;have g5:(de G2 a (.lst ((ins r k.toNat ⟨m,0+(w:Int),hd⟩).map enc))) a=some (.lst ((ins r k.toNat ⟨m,0+(w:Int),hd⟩).map enc)):=aI;generalize de G2 a (.lst ((ins r k.toNat ⟨m,0+(w:Int),hd⟩).map enc))=G5 at *;refine gk (IsL.ref g5) ?_;rw [av];simp only [jA];have li:(ins r k.toNat (⟨m,0+(w:Int),hd⟩:T3)).length=r.length+1:=by
    have:=(FW r k.toNat (⟨m,0+(w:Int),hd⟩:T3)).length_eq;rw [aq] at this; exact this
   rw [li];refine⟨by lia,by lia,?_⟩;refine qV _ _ ⟨_,_,Int.ediv_nonneg y3 (by lia),⟨_,_,rfl⟩,h5,by rw [j3]; exact l2,?_⟩;refine(Fo (FW _ _ _) rs _ er).trans ?_;rw [aW,List.reverse_append];exact .cons _ p2
  ·rintro τ G2 ⟨rs,y,y0,⟨b1,b2,rfl⟩,h2,l2,p2⟩;exact hN _ _ ⟨⟨_,_,_,rfl⟩,rs,h2,l2,p2⟩
 ·rintro _ G2 ⟨⟨a,b,e,rfl⟩,rs,h2,l2,p2⟩;simp only [bM,c7,ah,ae,aa];exact h2.fz (q rs m hd l2 p2 hm hh)
end ES
end K2
end
section
namespace K2
open PySem (Str)
open Enc (enc)
namespace ES
open K2.P K2.nW
open K2.K3
variable {rows:Rows}
end ES
end K2
end
section
namespace K2
open PySem (Str)
open Enc (enc)
namespace QO
open K2.P
open K2.Mo
open K2.tf (dm km su nK)
open K2.nW (HR kC)
open K2.yi (qU Ro)
open K2.EJ (dj)
theorem zt(r:List T3):(dm r).length=r.length:=(MX r).perm.length_eq
noncomputable def va:fN :=
 (bF (bw (eG aM) (aH 1))
 (bF (du (ic (ah 0)) (aH 2) (bF (bw (dC (.int 0)) (aH 3))
 (bF (cS (di (ah 2)) (bw (oV uA zY (ah 2) (aj (iZ LJ (aj (ah 2) aM)) aM)) (aH 3)) bQ)
 (dH (oV uA gh (ah 1) (aj (c7 (aN jl (xm (ah 2) (lz (ah 3)) eE) (xm (ah 2) eE (lz (ah 3))))) aM))))))
 (bM (c7 (ah 1)))))
noncomputable def fE:iw:=fun ds G Q _=>∃ rows:Rows,ds=[enc rows]/\(rows.length<=500/\∀ r∈rows,r.length<=500)/\Q (enc (rows.map dm)) G
theorem wa(ds:List D)(G:Gp)(Q:DK)(h:fE ds G Q fun _ _=>False):va (fun _ _=>False) (ends Q) (aZ 4 ds) G:=by
 obtain⟨rows,rfl,⟨hl,hr⟩,q⟩:=h;unfold va;simp only [ends,aZ,aC,aT,aq,az,bb,aL,aO,fe,bw,eG,aM,aH,ai,ag];refine⟨by decide,fun p hp=>?_⟩;refine bE (fun τ G'=>e8 G G'/\G' p=some (.lst ((rows.map dm).map enc))/\∃ a b,τ=[some (enc rows),some (.ref p),a,b]) ?_ ?_
 ·intro N hN;simp only [du,cG,ah,aa];refine dP ?_;refine eg (xs:=rows) (fun pre τ G'=>e8 G G'/\G' p=some (.lst ((pre.map dm).map enc))/\∃ a b,τ=[some (enc rows),some (.ref p),a,b]) ⟨.new hp,aI,_,_,rfl⟩ (fun _ _ _ _=>trivial) ?_ ?_
  ·rintro pre r post τ G1 N1 e ⟨l1,g1,a,b,rfl⟩ J9;have Qj:=hr r (by rw [e]; simp);have mZ:pre.length < rows.length:=by have:=congrArg dD e; simp at this; lia
   simp only [aH,ai,ag,fe,bw,dC];refine bE (fun τ G'=>G1=G'/\τ=[some (enc rows),some (.ref p),some (enc r),some (.int ((r.idxOf (km r):Nat):Int))]) ?_ ?_
   ·intro N hN;simp only [cS,bw,oV,ah,ae,aa,aj,iZ,aM,aH,ai,ag,bQ,ck];refine MI (IsL.enc r) ?_;cases r with
    | nil =>
     simp only [aT,List.isEmpty_nil,aS,ao,if_false];exact hN _ _ ⟨rfl,rfl⟩
    | cons x r =>
     simp only [aC,List.isEmpty_cons,bN,if_true];refine⟨trivial,su rfl (by simp) (nK trivial rfl (by simp) ?_)⟩;exact hN _ _ ⟨rfl,rfl⟩
   rintro _ _ ⟨rfl,rfl⟩;simp only [dH,oV,ah,ae,aa,gP,g1,aj,c7,aN,xm,eE,aM,eN,jZ,iR,true_and];have Zu:r.idxOf (km r)<=r.length:=oM;refine yi.RT (IsL.enc r) Zu (by lia) ?_;simp only [g1];refine⟨tw (by simp only [av]; lia),J9 _ _ ⟨l1.put hp,?_,_,_,rfl⟩⟩;rw [aI,aW,aW]; rfl
  ·rintro τ G' ⟨l,g,a,b,rfl⟩;exact hN _ _ ⟨l,g,a,b,rfl⟩
 ·rintro _ G' ⟨l,g,a,b,rfl⟩;simp only [bM,c7,ah,ae,aa];exact jQ l hp g q
noncomputable def ez:fN :=
 (bF (cS (pU (gv (di (tG "tuple" (ah 0)))) (di (aN (nU true) (iZ iq (aj (ah 0) aM)) (iZ iq (aj (ah 1) aM))))) (bM (c7 (dC (.bl false)))) bQ)
 (bF (du (ic (ah 0)) (aH 2) (cS (gv (di (bo fC (aj (ah 2) aM)))) (bM (c7 (dC (.bl false)))) bQ))
 (bM (c7 (aN (nU false) (ah 0) (ah 1))))))
noncomputable def cg:iw:=Mo.cg
theorem eA(ds:List D)(G:Gp)(Q:DK)(h:cg ds G Q fun _ _=>False):ez (fun _ _=>False) (ends Q) (aZ 3 ds) G:=Mo.eA ds G Q h
noncomputable def eV:fN :=
 (bF (cS (pU (gv (di (tG "tuple" (ah 0)))) (di (aN (nU true) (iZ iq (aj (ah 0) aM)) (iZ iq (aj (ah 1) aM))))) (bM (c7 (dC (.bl false)))) bQ)
 (bF (cS (pU (gv (di (tG "str" (aN ee (ah 0) (dC (.int 0)))))) (di (aN (nU true) (aN ee (ah 0) (dC (.int 0))) (aN ee (ah 1) (dC (.int 0)))))) (bM (c7 (dC (.bl false)))) bQ)
 (bF (du (CL (dC (.int 1)) (iZ iq (aj (ah 1) aM))) (aH 2) (cS (di (tG "tuple" (aN ee (ah 1) (ah 2)))) (cS (gv (di (bo cg (aj (aN ee (ah 0) (ah 2)) (aj (aN ee (ah 1) (ah 2)) aM))))) (bM (c7 (dC (.bl false)))) bQ) (cS (pU (gv (di (bo fC (aj (aN ee (ah 0) (ah 2)) aM)))) (di (aN (nU true) (aN ee (ah 0) (ah 2)) (aN ee (ah 1) (ah 2))))) (bM (c7 (dC (.bl false)))) bQ)))
 (bM (c7 (dC (.bl true)))))))
noncomputable def cM:iw:=Mo.cM
theorem eY(ds:List D)(G:Gp)(Q:DK)(h:cM ds G Q fun _ _=>False):eV (fun _ _=>False) (ends Q) (aZ 3 ds) G:=Mo.eY ds G Q h
noncomputable def xM:fN :=
 (bF (cS (pU (gv (di (tG "list" (ah 0)))) (di (aN (nU true) (iZ iq (aj (ah 0) aM)) (iZ iq (aj (ah 1) aM))))) (bM (c7 (dC (.bl false)))) bQ)
 (bF (du (oz (iZ iq (aj (ah 1) aM))) (aH 2) (bF (cS (pU (gv (di (tG "list" (aN ee (ah 0) (ah 2))))) (di (aN (nU true) (iZ iq (aj (aN ee (ah 0) (ah 2)) aM)) (iZ iq (aj (aN ee (ah 1) (ah 2)) aM))))) (bM (c7 (dC (.bl false)))) bQ)
 (du (oz (iZ iq (aj (aN ee (ah 1) (ah 2)) aM))) (aH 3) (cS (gv (di (bo cg (aj (aN ee (aN ee (ah 0) (ah 2)) (ah 3)) (aj (aN ee (aN ee (ah 1) (ah 2)) (ah 3)) aM))))) (bM (c7 (dC (.bl false)))) bQ))))
 (bM (c7 (dC (.bl true))))))
noncomputable def iK:iw:=fun ds G Q _=>∃ (p:Nat) (as:List Nat) (rows:Rows) (G0:Gp),ds=[.ref p,enc rows]/\HR G0 G p as rows/\(rows.length<=500/\∀ r∈rows,r.length<=500)/\Q (.bl true) G
theorem yd(ds:List D)(G:Gp)(Q:DK)(h:iK ds G Q fun _ _=>False):xM (fun _ _=>False) (ends Q) (aZ 4 ds) G:=by
 obtain⟨p,as,rows,G0,rfl,hr,⟨hl,Qj⟩,q⟩:=h;unfold xM;simp only [ends,aZ,aC,aT,aq,az,bb,aL,aO,fX,cS,pU,gv,bM,c7,dC,bQ,if_true,ck,aN,iZ,aj,ah,aa,aM,ae,mV];refine JZ (.ref hr.gp) ?_;simp only [beq_self_eq_true,aP,aS,ao,if_false];refine gk (.ref hr.gp) (gk (IsL.enc rows) ?_);simp only [av];refine eW (α:=Int) (by decide) ?_;rw [hr.len];simp only [decide_true,aS,if_true,du,gY,iZ,aj,ah,ae,aa,aM,aP,ao,if_false];refine gk (IsL.enc rows) ?_;simp only [av,fP];refine⟨by lia,by lia,?_⟩;refine mB (fun pre τ G'=>G=G'/\∃ a b,τ=[some (.ref p),some (enc rows),a,b]) ⟨rfl,_,_,rfl⟩ (fun _ _ _ _=>trivial) ?_ ?_
 ·rintro pre x post τ G' N e ⟨rfl,a,b,rfl⟩ hN;obtain⟨rfl,hk⟩:=lF e;have hk:pre.length < rows.length:=by simpa using hk
  obtain⟨r,er⟩:∃ r,rows[pre.length]?=some r:=⟨rows[pre.length],aU hk⟩;obtain⟨c,ec⟩:∃ c,as[pre.length]?=some c:=⟨as[pre.length]'(by rw [hr.len]; exact hk),aU _⟩;have gc:=hr.at' _ _ _ ec er;have hlr:=Qj r (dA er);have a1:nT (rows.map enc) ((pre.length:Nat):Int)=some (enc r):=by
   rw [fS _ (by lia) (by rw [av]; lia)];simp only [dZ,cJ];rw [aU hk] at er;injection er with er
   rw [er]
  have a2:nT (as.map D.ref) ((pre.length:Nat):Int)=some (.ref c):=by
   have Zx:pre.length < as.length:=by rw [hr.len]; exact hk
   rw [fS _ (by lia) (by rw [av]; lia)];simp only [dZ,cJ];rw [aU Zx] at ec;injection ec with ec
   rw [ec]
  simp only [aH,ai,ag,fX,cS,pU,gv,bM,c7,dC,bQ,if_true,ck,aN,iZ,aj,ah,aa,ae,aM,mV];refine dE (.ref hr.gp) a2 (JZ (.ref gc) ?_);simp only [beq_self_eq_true,aP,aS,ao,if_false];refine dE (.ref hr.gp) a2 (gk (.ref gc) ?_);refine dE (IsL.enc rows) a1 (gk (IsL.enc r) ?_);simp only [av];refine eW (α:=Int) (by decide) ?_;simp only [decide_true,aS,if_true,du,gY,iZ,aj,aN,ah,ae,aa,aM,aP,ao,if_false];refine dE (IsL.enc rows) a1 (gk (IsL.enc r) ?_);simp only [av,fP];refine⟨by lia,by lia,?_⟩;refine mB (fun pr τ G'=>G=G'/\∃ b,τ=[some (.ref p),some (enc rows),some (.int (pre.length:Nat)),b]) ⟨rfl,_,rfl⟩ (fun _ _ _ _=>trivial) ?_ ?_
  ·rintro pr y po τ G' N2 e2 ⟨rfl,b,rfl⟩ qV;obtain⟨rfl,hj⟩:=lF e2;have hj:pr.length < r.length:=by simpa using hj
   have a3:nT (r.map enc) ((pr.length:Nat):Int)=some (enc r[pr.length]):=by
    rw [fS _ (by lia) (by rw [av]; lia)];simp only [dZ,cJ]
   simp only [aH,cS,gv,ai,ag,bM,c7,dC,bQ,ck,bo,aj,aN,ah,aa,ae,aM];refine dE (.ref hr.gp) a2 (dE (.ref gc) a3 ?_);refine dE (IsL.enc rows) a1 (dE (IsL.enc r) a3 ?_);refine⟨[r[pr.length].a,r[pr.length].b,r[pr.length].c],rfl,?_⟩;simp only [aP,aS,ao,if_false];exact qV _ _ ⟨rfl,_,rfl⟩
  ·rintro τ G' ⟨rfl,b,rfl⟩;exact hN _ _ ⟨rfl,_,_,rfl⟩
 ·rintro τ G' ⟨rfl,a,b,rfl⟩;simp only [bM,c7,dC];exact e9 q
end QO
end K2
end
section
namespace K2
open PySem (Str)
open Enc (enc)
namespace K17
open K2.P
variable {rows:Rows}
end K17
end K2
end
section
namespace K2
open PySem (Str)
open Enc (enc)
namespace K13
open K2.P K2.nW
variable {rows:Rows}
theorem w4{c:yb}{a b:fN}{E:lq}{K:j0}{τ:iH}{G:Gp}:cS c a b E K τ G=c E τ G fun k G1=>if k=true then a E K τ G1 else b E K τ G1:=rfl
end K13
end K2
end
section
namespace K2
open PySem (Str)
open Enc (enc)
namespace K13
open K2.P K2.nW
variable {rows:Rows}
end K13
end K2
end
section
namespace K2
open PySem (Str)
open Enc (enc)
namespace K17
open K2.P
variable {rows:Rows}
end K17
end K2
end
section
namespace K2
open PySem (Str)
open Enc (enc)
namespace Mo
open K2.P
open K2.tf (dm)
open K2.nW (HR)
open K2.yi (qU Ro)
open K2.EJ (dj iB)
noncomputable def tx(rows:Rows)(n:Int):Prop:=n∈names rows/\∃ p∈rows.flatten,p.a=n
end Mo
end K2
end
section
namespace K2
open PySem (Str)
open Enc (enc)
namespace QO
open K2.P
open K2.Mo hiding cg ez eA cM eV eY
open K2.tf (dm km su nK)
open K2.nW (HR kC)
open K2.yi (qU Ro)
open K2.EJ (dj iB)
noncomputable def xP:fN :=
 (bF (cS (pU (gv (di (tG "tuple" (ah 0)))) (di (aN (nU true) (iZ iq (aj (ah 0) aM)) (aN jl (dC (.int 1)) (iZ iq (aj (ah 2) aM)))))) (bM (c7 (dC (.bl false)))) bQ)
 (bF (cS (pU (gv (di (tG "str" (aN ee (ah 0) (dC (.int 0)))))) (di (aN (nU true) (aN ee (ah 0) (dC (.int 0))) (ah 1)))) (bM (c7 (dC (.bl false)))) bQ)
 (bF (du (oz (iZ iq (aj (ah 2) aM))) (aH 3) (cS (di (aN (nU false) (aN ee (ah 2) (ah 3)) (dC (.int 2)))) (cS (pU (gv (di (bo cg (aj (aN ee (ah 0) (aN jl (ah 3) (dC (.int 1)))) (aj (aN ee (ah 0) (aN jl (ah 3) (dC (.int 1)))) aM))))) (di (aN (nU true) (iZ iq (aj (aN ee (ah 0) (aN jl (ah 3) (dC (.int 1)))) aM)) (dC (.int 2))))) (bM (c7 (dC (.bl false)))) bQ) (cS (gv (di (bo fC (aj (aN ee (ah 0) (aN jl (ah 3) (dC (.int 1)))) aM)))) (bM (c7 (dC (.bl false)))) bQ)))
 (bM (c7 (dC (.bl true)))))))
noncomputable def Fit(as:List D)(sh:List Int):Prop:=as.length=sh.length/\∀ (i:Nat) (a:D) (k:Int),as[i]?=some a->sh[i]?=some k->(k=2/\∃ t:T2,a=enc t)\/(k≠2/\∃ j,a=.int j)
noncomputable def kA:iw:=fun ds G Q _=>∃ (w:Str) (as:List D) (d:D) (sh:List Int),ds=[.tup (.str w :: as),.str w,d]/\IsL G d (sh.map enc)/\(Fit as sh/\as.length<=10/\Mo.WI w)/\Q (.bl true) G
theorem yg(ds:List D)(G:Gp)(Q:DK)(h:kA ds G Q fun _ _=>False):xP (fun _ _=>False) (ends Q) (aZ 4 ds) G:=by
 obtain⟨w,as,d,sh,rfl,hd,⟨⟨hl,hf⟩,aex,hw⟩,q⟩:=h;unfold xP;simp only [ends,aZ,aC,aT,aq,az,bb,aL,aO,fX,cS,pU,gv,bM,c7,dC,bQ,if_true,ck,aN,ah,aa,ae,dq,mV,iZ,aj,aM,nS,pK,beq_self_eq_true,aP,aS,ao,if_false];refine gk hd ?_;simp only [av,fi];refine eW (α:=Int) (by decide) ?_;have e1:((as.length+1:Nat):Int)=1+(sh.length:Int):=by lia
 simp only [e1,decide_true,aS,if_true,A7,aP,ao,if_false];show isAt "str" (.str w) G _;unfold isAt Q3;simp only [beq_self_eq_true,aP,aS,ao,if_false];refine Th ?_ hw;simp only [aS,du,gY,iZ,aj,ah,ae,aa,aM,aP,ao,if_false];refine gk hd ?_;simp only [av,fP];refine⟨by lia,by lia,?_⟩;refine mB (fun pre τ G'=>G=G'/\∃ a,τ=[some (.tup (.str w :: as)),some (.str w),some d,a]) ⟨rfl,_,rfl⟩ (fun _ _ _ _=>trivial) ?_ ?_
 ·rintro pre x post τ G' N e ⟨rfl,a,rfl⟩ hN;obtain⟨rfl,hk⟩:=lF e;have hk:pre.length < sh.length:=by simpa using hk
  have Zx:pre.length < as.length:=by lia
  have ha:nT (D.str w :: as) ((pre.length:Int)+1)=some as[pre.length]:=by
   rw [fS _ (by lia) (by rw [aq]; lia)];have:((pre.length:Int)+1).toNat=pre.length+1:=by lia
   simp only [this,Mp]
  have hs:nT (sh.map enc) ((pre.length:Nat):Int)=some (enc sh[pre.length]):=by
   rw [fS _ (by lia) (by rw [av]; lia)];simp only [dZ,cJ]
  simp only [aH,cS,ai,ag,pU,gv,bM,c7,dC,bQ,if_true,ck,aN,iZ,aj,ah,aa,ae,aM,fi,dq,bo];refine dE hd hs ?_;refine eW (α:=Int) (y:=2) (by decide) ?_;rcases hf pre.length _ _ (aU Zx) (aU hk) with ⟨h2,t,et⟩ | ⟨h2,j,ej⟩
  ·simp only [ao,h2,decide_true,aS,if_false,ha,et,Oi,nS,aq,az,aP,if_true];refine⟨[t.a,t.b],rfl,?_⟩;simp only [aP,aS,ao,if_false];refine eW (α:=Int) (x:=2) (y:=2) (by decide) ?_;simp only [decide_true,aS,if_true,aP,ao,if_false];exact hN _ _ ⟨rfl,_,rfl⟩
  ·simp only [ao,h2,decide_false,bN,if_false,ha,ej,aP];refine⟨j,rfl,?_⟩;simp only [aP,aS,ao,if_false];exact hN _ _ ⟨rfl,_,rfl⟩
 ·rintro τ G' ⟨rfl,a,rfl⟩;simp only [bM,c7,dC];exact e9 q
theorem DD{α:Type} [DecidableEq α] [Enc α]{neg:Bool}{x:α}{xs:List α}{G:Gp}{Q:DK}(hd:Enc.dep α<=7)(q:Q (.bl (if neg then !decide (x∈xs) else decide (x∈xs))) G):Cw neg (enc x) (.tup (xs.map enc)) G Q:=by
 refine⟨enc x,xs.map enc,Enc.sn _ _ _ (by unfold SN; lia),wI G 7 hd xs,?_⟩;rw [EE]; exact q
theorem TC{a b c d:D}{r:List D}:nT (a :: b :: c :: d :: r) 3=some d:=by
 rw [fS _ (by decide) (by simp; lia)]; rfl
theorem Ui{a b c d e:D}{r:List D}:nT (a :: b :: c :: d :: e :: r) 4=some e:=by
 rw [fS _ (by decide) (by simp; lia)]; rfl
end QO
end K2
end
section
namespace K2
open PySem (Str)
open Enc (enc)
namespace Mo
open K2.P
open K2.tf (dm)
open K2.nW (HR)
open K2.yi (qU Ro)
open K2.EJ (dj iB)
noncomputable def Bs(x y:T2)(t:Int):T2×T2:=if t=1 then (x,y) else (y,x)
noncomputable def zG:fN :=
 (bF (cS (di (aN (nU false) (ah 2) (dC (.int 1)))) (bM (c7 (fF (aj (ah 0) (aj (ah 1) aM))))) bQ)
 (bM (c7 (fF (aj (ah 1) (aj (ah 0) aM))))))
noncomputable def lD:iw:=fun ds G Q _=>∃ (x y:T2) (t:Int),ds=[enc x,enc y,.int t]/\Q (enc (Bs x y t)) G
theorem Jb(ds:List D)(G:Gp)(Q:DK)(h:lD ds G Q fun _ _=>False):zG (fun _ _=>False) (ends Q) (aZ 3 ds) G:=by
 obtain⟨x,y,t,rfl,q⟩:=h;unfold zG Bs at *;simp only [↓fX,cS,↓ck,aN,ah,aZ,↓aC,↓aT,↓aq,↓az,↓aL,↓aO,↓ae,↓aa,dC,bM,c7,fF,aj,aM,ends,bQ];refine eW (x:=t) (y:=(1:Int)) (by decide) ?_;by_cases ht:t=1
 ·rw [if_pos ht] at q;simp only [↓aP,↓ao,ht,decide_true,↓aS,↓if_false,↓if_true];exact⟨by decide,e9 q⟩
 ·rw [if_neg ht] at q;simp only [↓aP,↓ao,ht,decide_false,↓bN,↓if_false];exact⟨by decide,e9 q⟩
noncomputable def nu(rows:Rows)(a b c t:Int):List (T2×T2):=[Bs ⟨a,0⟩ ⟨b,0⟩ t,Bs ⟨a,1⟩ ⟨c,0⟩ (t * handOf rows b * handOf rows c),Bs ⟨b,1⟩ ⟨c,1⟩ (t * handOf rows a * handOf rows c)]
structure Ks(rows:Rows)(a b c t:Int):Prop where
 d:Dr rows
 na:tx rows a
 nb:tx rows b
 nc:tx rows c
 ht:t=1\/t=-1
theorem kU{rows:Rows}{n:Int}(d:Dr rows)(h:tx rows n):handOf rows n=1\/handOf rows n=-1:=by
 obtain⟨p,hp,e⟩:=h.2;rw [<-e,oA d hp];exact d.hand p hp
noncomputable def rG:fN :=
 (bF (bw (bo iP (aj (ah 0) (aj (ah 1) aM))) (aH 5))
 (bF (bw (bo iP (aj (ah 0) (aj (ah 2) aM))) (aH 6))
 (bF (bw (bo iP (aj (ah 0) (aj (ah 3) aM))) (aH 7))
 (bM (c7 (eG (aj (bo lD (aj (fF (aj (ah 1) (aj (dC (.int 0)) aM))) (aj (fF (aj (ah 2) (aj (dC (.int 0)) aM))) (aj (ah 4) aM)))) (aj (bo lD (aj (fF (aj (ah 1) (aj (dC (.int 1)) aM))) (aj (fF (aj (ah 3) (aj (dC (.int 0)) aM))) (aj (aN mS (aN mS (ah 4) (ah 6)) (ah 7)) aM)))) (aj (bo lD (aj (fF (aj (ah 2) (aj (dC (.int 1)) aM))) (aj (fF (aj (ah 3) (aj (dC (.int 1)) aM))) (aj (aN mS (aN mS (ah 4) (ah 5)) (ah 7)) aM)))) aM)))))))))
noncomputable def iy:iw:=fun ds G Q _=>∃ (rows:Rows) (a b c t:Int),ds=[enc rows,.int a,.int b,.int c,.int t]/\Ks rows a b c t/\Q (enc (nu rows a b c t)) G
theorem Bc(ds:List D)(G:Gp)(Q:DK)(h:iy ds G Q fun _ _=>False):rG (fun _ _=>False) (ends Q) (aZ 8 ds) G:=by
 obtain⟨rows,a,b,c,t,rfl,⟨d,na,nb,nc,ht⟩,q⟩:=h;have ha:=kU d na;have hb:=kU d nb;have hc:=kU d nc;have hl:=d.Qy;have m1:t * handOf rows b=1\/t * handOf rows b=-1:=by rcases ht with rfl | rfl <;> rcases hb with h | h <;> rw [h] <;> decide
 have m2:t * handOf rows a=1\/t * handOf rows a=-1:=by rcases ht with rfl | rfl <;> rcases ha with h | h <;> rw [h] <;> decide
 unfold rG;simp only [↓fe,bw,bo,aj,ah,aZ,↓aC,↓aT,↓aq,↓az,bb,↓aL,↓aO,↓aa,↓ae,aM,aH,↓ai,↓ag,bM,c7,eG,fF,dC,aN,ends];refine⟨rows,a,rfl,⟨by lia,na.2⟩,⟨rows,b,rfl,⟨by lia,nb.2⟩,⟨rows,c,rfl,⟨by lia,nc.2⟩,?_⟩⟩⟩;simp only [↓c7,↓aZ,↓ends,↓ck,↓aN,↓GD,↓ah,↓iZ,↓oV,↓aj,↓aM,↓bM,↓Rj,↓dH,↓bw,↓aH,↓dC,↓bQ,↓fF,↓eG,↓xn,↓mV,↓LG,↓pU,↓gv,↓vO,↓Kj,↓AZ,↓xm,↓jZ,↓eE,↓cG,↓gY,↓bo,↓fR,↓fi,↓Fx,↓pD,↓ve,↓pC,↓nE,↓dG,↓jA,↓kR,↓DB,↓JE,↓JF,↓JG,↓dq,↓vd,↓vc,↓JD,↓yS,↓A6,↓nS,↓CW,↓eN,↓rP,↓oy,↓qO,↓gP,↓yP,↓Ju,↓Jt,↓true_and,↓and_true,↓J3,↓D0,↓iR,↓aP,↓fP,↓vr,↓J0,↓pK,↓aC,↓aT,↓aL,↓aO,↓aa,↓ae,↓ag,↓ai,↓aq,↓az,↓bb,↓if_true,↓if_false,↓aS,↓bN,↓ao,↓fe,↓lW];have mul:∀ {x y:Int} {G:Gp} {Q:DK},(x=1\/x=-1)->(y=1\/y=-1)->Q (.int (x * y)) G->mS (.int x) (.int y) G Q:=fun hx hy q=>by
  rcases hx with rfl | rfl <;> rcases hy with rfl | rfl <;> exact⟨.inl ⟨by decide,by decide⟩,q⟩
 refine⟨by decide,by decide,⟨⟨a,0⟩,⟨b,0⟩,t,rfl,⟨by decide,by decide,?_⟩⟩⟩;refine mul ht hb (mul m1 hc ?_);refine⟨⟨a,1⟩,⟨c,0⟩,_,rfl,⟨by decide,by decide,?_⟩⟩;refine mul ht ha (mul m2 hc ?_);refine⟨⟨b,1⟩,⟨c,1⟩,_,rfl,⟨by decide,fun p hp=>?_⟩⟩;exact jQ (xs:=nu rows a b c t) (.new hp) hp aI q
noncomputable def Fn(rows:Rows)(a b c t:Int):Bool:=!decide (b=a)&&(!decide (c∈[a,b])&&(nu rows a b c t).all fun p=>decide (fY (fg (pairsOf rows)) p.1=some p.2))
theorem K6{rows:Rows}{p:T3}(d:Dr rows)(h:p∈rows.flatten):∃ v,fY (fg (pairsOf rows)) p.s=some v:=by
 obtain⟨r,hr,hp⟩:=List.mem_flatten.mp h;obtain⟨R1,R2,rfl⟩:=jM hr;obtain⟨A,B,rfl⟩:=jM hp;have ro:sv (p :: (B++A)) (A++p :: B):=sv.of (u:=p :: B) (v:=A) rfl rfl;cases V4:B++A with
 | nil=>rw [V4] at ro; exact⟨_,vi d ro⟩
 | cons q T=>rw [V4] at ro; exact⟨_,vh d ro⟩
theorem Nq{rows:Rows}{n:Int}(d:Dr rows)(h:tx rows n){w:Int}(hw:w=0\/w=1):∃ p∈rows.flatten,p.s=⟨n,w⟩:=by
 obtain⟨p,hp,hb,ha⟩:=jC.mp h.1;rcases hw with rfl | rfl
 ·exact⟨p,hp,by show (⟨p.a,p.b⟩:T2)=_; rw [hb,ha]⟩
 ·refine⟨_,d.zX p hp,?_⟩;show (⟨p.a,1 - p.b⟩:T2)=_;rw [hb,ha]; rfl
theorem my{rows:Rows}{n:Int}(d:Dr rows)(h:tx rows n){w:Int}(hw:w=0\/w=1):∃ v,fY (fg (pairsOf rows)) ⟨n,w⟩=some v:=by
 obtain⟨p,hp,e⟩:=Nq d h hw;rw [<-e]; exact K6 d hp
theorem RP{rows:Rows}{a b c t:Int}(s:Ks rows a b c t){p:T2×T2}(h:p∈nu rows a b c t):∃ v,fY (fg (pairsOf rows)) p.1=some v:=by
 unfold nu at h;simp only [cf,bI,or_false] at h;rcases h with rfl | rfl | rfl <;> (unfold Bs; split)
 ·exact my s.d s.na (.inl rfl)
 ·exact my s.d s.nb (.inl rfl)
 ·exact my s.d s.na (.inr rfl)
 ·exact my s.d s.nc (.inl rfl)
 ·exact my s.d s.nb (.inr rfl)
 ·exact my s.d s.nc (.inr rfl)
noncomputable def tR:fN :=
 (bF (cS (pU (di (aN (nU false) (ah 2) (ah 1))) (di (aN (Cw false) (ah 3) (fF (aj (ah 1) (aj (ah 2) aM)))))) (bM (c7 (dC (.bl false)))) bQ)
 (bF (bw (bo pZ (aj (ah 0) aM)) (aH 5))
 (bM (c7 (iZ Tw (aj (fR 2 [5] (ic (bo iy (aj (ah 0) (aj (ah 1) (aj (ah 2) (aj (ah 3) (aj (ah 4) aM))))))) (pL (gq (aH 0) (gq (aH 1) qi))) none (aN (nU false) (aN ee (ah 2) (ah 0)) (ah 1))) aM))))))
noncomputable def i5:iw:=fun ds G Q _=>∃ (rows:Rows) (a b c t:Int),ds=[enc rows,.int a,.int b,.int c,.int t]/\Ks rows a b c t/\Q (.bl (Fn rows a b c t)) G
theorem B6(ds:List D)(G:Gp)(Q:DK)(h:i5 ds G Q fun _ _=>False):tR (fun _ _=>False) (ends Q) (aZ 6 ds) G:=by
 obtain⟨rows,a,b,c,t,rfl,s,q⟩:=h;have hl:=s.d.Qy;unfold tR;refine bE (fun τ G'=>G=G'/\b≠a/\c∉[a,b]/\τ=[some (enc rows),some (.int a),some (.int b),some (.int c),some (.int t),none]) ?_ ?_
 ·intro N hN;simp only [cS,pU,↓ck,aN,ah,aZ,↓aC,↓aT,↓aq,↓az,bb,↓aL,↓aO,↓ae,↓aa,bM,c7,dC,ends,bQ,↓if_true,fF,aj,aM];refine eW (x:=b) (y:=a) (by decide) ?_;by_cases hb:b=a
  ·rw [show decide (b=a)=true from decide_eq_true hb];simp only [↓aP,↓ao,↓aS,↓if_false,↓if_true];unfold Fn at q;rw [decide_eq_true hb] at q;exact e9 q
  ·rw [show decide (b=a)=false from decide_eq_false hb];simp only [↓aP,↓ao,↓bN,↓if_false];refine⟨by decide,QO.DD (x:=c) (xs:=[a,b]) (by decide) ?_⟩;by_cases hc:c∈[a,b]
   ·rw [show decide (c∈[a,b])=true from decide_eq_true hc];simp only [↓aP,↓ao,↓aS,↓if_false,↓if_true];unfold Fn at q;rw [decide_eq_false hb,decide_eq_true hc] at q;exact e9 q
   ·rw [show decide (c∈[a,b])=false from decide_eq_false hc];simp only [↓aP,↓ao,↓bN,↓if_false];exact hN _ _ ⟨rfl,hb,hc,rfl⟩
 rintro _ _ ⟨rfl,hb,hc,rfl⟩;unfold Fn at q;rw [decide_eq_false hb,decide_eq_false hc,bN,tJ,tJ] at q;simp only [↓fe,bw,bo,aj,ah,↓aa,aM,aH,bM,c7,iZ,fR,↓cG,↓ai,↓ag,↓ae,ends];refine⟨rows,rfl,by lia,?_⟩;refine⟨rows,a,b,c,t,rfl,s,dP ⟨Hl (by simp [nu]),?_⟩⟩;refine jm (xs:=nu rows a b c t) (fun pr acc τ G2=>G=G2/\acc=(pr.map fun p=>decide (fY (fg (pairsOf rows)) p.1=some p.2)).map D.bl/\∃ x y,τ=[x,y,some (.sM (en (fg (pairsOf rows))))]) ⟨rfl,rfl,_,_,rfl⟩ (fun _ _ _ _ _=>trivial) ?_ ?_
 ·rintro pr p po acc τ G2 N3 e3 ⟨rfl,rfl,x,y,rfl⟩ yv;obtain⟨v,hv⟩:=RP s (by rw [e3]; simp:p∈nu rows a b c t);show pL _ _ (.tup [enc p.1,enc p.2]) _ _ _;simp only [pL,gq,aH,qi,aN,ah,↓ag,↓ai,↓ae,↓aa];refine xR hv ?_;refine(eW (x:=v) (y:=p.2) (by decide) ?_);simp only [↓ao,↓if_false];refine yv _ _ _ ⟨rfl,?_,_,_,rfl⟩;rw [aW,aW,aC,hv];simp
 ·rintro acc τ G2 ⟨rfl,rfl,x,y,rfl⟩ p2 rf;refine⟨(nu rows a b c t).map fun p=>decide (fY (fg (pairsOf rows)) p.1=some p.2),by simp only [itemsOf,aI],?_⟩;rw [O0];exact vA (.new rf) q
noncomputable def par:List (T2×T2)->List (T2×T2)->List (T2×T2)
 | l,[]=>l
 | l,p :: ps=>par (kq (kq l p.1 p.2) p.2 p.1) ps
theorem zM(p:T2×T2):∀ (ps l:List (T2×T2)),par l (ps++[p])=kq (kq (par l ps) p.1 p.2) p.2 p.1
 | [],_=>rfl
 | _ :: ps,_=>zM p ps _
noncomputable def mW(ps:List (T2×T2))(s:T2):T2:=(fY (par [] ps) s).getD s
noncomputable def wz(rows:Rows)(ps:List (T2×T2))(p:T3):T3:=⟨(mW ps p.s).a,(mW ps p.s).b,handOf rows (mW ps p.s).a⟩
noncomputable def chg(rows:Rows)(ps:List (T2×T2)):Rows:=rows.map (ll (wz rows ps))
theorem pQ{l:List (T2×T2)}{k v:T2}:(kq l k v).length<=l.length+1:=by
 unfold kq;split <;> simp
theorem DJ:∀ (ps l:List (T2×T2)),(par l ps).length<=l.length+2 * ps.length
 | [],_=>by simp [par]
 | p :: ps,l=>by
  have:=DJ ps (kq (kq l p.1 p.2) p.2 p.1);have h1:=pQ (l:=l) (k:=p.1) (v:=p.2);have h2:=pQ (l:=kq l p.1 p.2) (k:=p.2) (v:=p.1);rw [par,aq];lia
noncomputable def qJ:fN :=
 (bF (bw xn (aH 2))
 (bF (du (ic (ah 1)) (pL (gq (aH 3) (gq (aH 4) qi))) (bF (bw (ah 4) (w8 (ah 2) (ah 3)))
 (bw (ah 3) (w8 (ah 2) (ah 4)))))
 (bF (bw (eG aM) (aH 5))
 (bF (du (ic (ah 0)) (aH 6) (bF (bw (fR 1 [2] (ic (ah 6)) (aH 0) none (oV UK FQ (ah 1) (aj (xm (ah 0) eE (lz (dC (.int 2)))) (aj (xm (ah 0) eE (lz (dC (.int 2)))) aM)))) (aH 7))
 (dH (oV uA gh (ah 5) (aj (c7 (fR 1 [0] (ic (ah 7)) (aH 0) none (fF (aj (aN ee (ah 0) (dC (.int 0))) (aj (aN ee (ah 0) (dC (.int 1))) (aj (bo iP (aj (ah 1) (aj (aN ee (ah 0) (dC (.int 0))) aM))) aM)))))) aM)))))
 (bM (c7 (bo dj (aj (c7 (ah 5)) aM))))))))
noncomputable def j5:iw:=fun ds G Q _=>∃ (rows:Rows) (ps:List (T2×T2)),ds=[enc rows,enc ps]/\(rows.length<=500/\rows.flatten.length<=500/\ps.length<=10/\∀ p∈rows.flatten,∃ p'∈rows.flatten,p'.a=(mW ps p.s).a)/\∀ p as G',HR G G' p as ((chg rows ps).map dm)->Q (.ref p) G'
theorem yG(ds:List D)(G:Gp)(Q:DK)(h:j5 ds G Q fun _ _=>False):qJ (fun _ _=>False) (ends Q) (aZ 8 ds) G:=by
 obtain⟨rows,ps,rfl,⟨hl,hf,hps,VJ⟩,q⟩:=h;unfold qJ;simp only [↓fe,bw,xn,jR,aH,ends,aZ,↓aC,↓aT,↓aq,↓az,bb,↓aL,↓aO,↓ai,↓ag];intro d hd;refine bE (fun τ G'=>e8 G G'/\G' d=some (.ka (en (par [] ps)))/\∃ a b,τ=[some (enc rows),some (enc ps),some (.ref d),a,b,none,none,none]) ?_ ?_
 ·intro N hN;simp only [du,↓cG,ah,↓ae,↓aa];refine dP ?_;refine eg (xs:=ps) (fun pre τ G'=>e8 G G'/\G' d=some (.ka (en (par [] pre)))/\∃ a b,τ=[some (enc rows),some (enc ps),some (.ref d),a,b,none,none,none]) ⟨.new hd,aI,_,_,rfl⟩ (fun _ _ _ _=>trivial) ?_ (fun τ G' h=>hN τ G' h);rintro pre p post τ G' N2 e ⟨l,gd,a,b,rfl⟩ qV;have mZ:pre.length < ps.length:=by have:=congrArg dD e; simp at this; lia
  have h1:=DJ pre [];have h2:=pQ (l:=par [] pre) (k:=p.1) (v:=p.2);show pL _ _ (.tup [enc p.1,enc p.2]) _ _ _;simp only [pL,gq,aH,qi,↓fe,bw,ah,↓ai,↓ag,↓ae,↓aa,w8];rw [az] at h1;refine P.lE gd (by lia) ?_;refine P.lE aI (by lia) ?_;refine qV _ _ ⟨(l.put hd).put hd,?_,_,_,rfl⟩;rw [aI,zM]
 rintro _ G1 ⟨l1,gd,a,b,rfl⟩;refine bE (fun τ G'=>∃ p,G1 p=none/\e8 G G'/\G' d=some (.ka (en (par [] ps)))/\G' p=some (.lst [])/\τ=[some (enc rows),some (enc ps),some (.ref d),a,b,some (.ref p),none,none]) ?_ ?_
 ·intro N hN;simp only [bw,eG,aM,↓az,aH,↓ai,↓ag];refine⟨by decide,fun p hp=>hN _ _ ⟨p,hp,l1.trans (.new hp),e8.new hp _ _ gd,aI,rfl⟩⟩
 rintro _ G2 ⟨p,fp,l2,Td,gp,rfl⟩;have V9:=l1.free fp;have ZG:d≠p:=by rintro rfl; rw [gp] at Td; cases Td
 refine bE (fun τ G'=>e8 G G'/\G' p=some (.lst ((chg rows ps).map enc))/\∃ x y,τ=[some (enc rows),some (enc ps),some (.ref d),a,b,some (.ref p),x,y]) ?_ ?_
 ·intro N hN;simp only [du,↓cG,ah,↓aa];refine dP ?_;refine eg (xs:=rows) (fun pre τ G'=>e8 G G'/\G' d=some (.ka (en (par [] ps)))/\G' p=some (.lst ((pre.map (ll (wz rows ps))).map enc))/\∃ x y,τ=[some (enc rows),some (enc ps),some (.ref d),a,b,some (.ref p),x,y]) ⟨l2,Td,gp,_,_,rfl⟩ (fun _ _ _ _=>trivial) ?_ (fun τ G' h=>hN τ G' ⟨h.1,h.2.2.1,h.2.2.2⟩);rintro pre r post τ G3 N2 e ⟨l3,Qs,Rb,x,y,rfl⟩ qV;have mZ:pre.length < rows.length:=by have:=congrArg dD e; simp at this; lia
  have SJ:∀ t∈r,t∈rows.flatten:=fun t ht=>List.mem_flatten.mpr ⟨r,by rw [e]; simp,ht⟩;have Qj:r.length<=500:=dI (nW.jY (by rw [e]; simp:r∈rows)) hf;refine bE (fun τ G'=>∃ p7,G3 p7=none/\e8 G3 G'/\G' p7=some (.lst ((r.map fun t=>mW ps t.s).map enc))/\τ=[some (enc rows),some (enc ps),some (.ref d),a,b,some (.ref p),some (enc r),some (.ref p7)]) ?_ ?_
  ·intro N hN;simp only [bw,fR,↓cG,ah,↓ai,↓ag,↓ae,↓aa,aH];refine dP ⟨Hl (by rw [av]; lia),?_⟩;refine jm (xs:=r) (fun pr acc τ G2=>G3=G2/\acc=(pr.map fun t:T3=>mW ps t.s).map enc/\∃ b,τ=[b,some (.ref d)]) ⟨rfl,rfl,_,rfl⟩ (fun _ _ _ _ _=>trivial) ?_ ?_
   ·rintro pr t po acc τ G4 N3 e3 ⟨rfl,rfl,b,rfl⟩ yv;simp only [aH,oV,ah,↓ag,↓mD,↓ae,↓aa,↓yP,aj,xm,eE,↓jZ,dC,↓iR,↓vc,↓aq,↓az,aM,↓Wg];refine⟨by simp only [Qs],by decide,by decide,?_⟩;exact FP (k:=t.s) (e:=t.s) Qs (yv _ _ _ ⟨rfl,by rw [aW,aW]; rfl,_,rfl⟩)
   ·rintro acc τ G4 ⟨rfl,rfl,b,rfl⟩ p2 rf;exact hN _ _ ⟨p2,rf,.new rf,aI,rfl⟩
  rintro _ G4 ⟨p7,f7,l4,g7,rfl⟩;simp only [dH,oV,ah,↓ae,↓aa,↓gP,aj,c7,fR,↓cG,aM,↓eN];have D5:=l4 _ _ Rb;rw [sS g7];refine⟨by simp only [D5],Hl (by rw [av,av]; lia),?_⟩;refine jm (xs:=r.map fun t=>mW ps t.s) (fun pr acc τ G5=>G4=G5/\acc=(pr.map fun s:T2=>(⟨s.a,s.b,handOf rows s.a⟩:T3)).map enc/\∃ b,τ=[b,some (enc rows)]) ⟨rfl,rfl,_,rfl⟩ (fun _ _ _ _ h=>h.1 ▸ g7) ?_ ?_
  ·rintro pr s po acc τ G5 N3 e3 ⟨rfl,rfl,z,rfl⟩ yv;have hs:s∈r.map fun t=>mW ps t.s:=by rw [e3]; simp
   obtain⟨t,ht,es⟩:=List.mem_map.mp hs;obtain⟨t',Pb,e'⟩:=VJ t (SJ t ht);simp only [aH,fF,aj,aN,ah,↓ag,↓Oi,↓aa,dC,↓dq,↓A7,↓x9,bo,↓ae,aM,↓aq,↓az];refine⟨rows,s.a,rfl,⟨by lia,t',Pb,by rw [e',<-es]⟩,⟨by decide,yv _ _ _ ⟨rfl,by rw [aW,aW]; rfl,_,rfl⟩⟩⟩
  ·rintro acc τ G5 ⟨rfl,rfl,z,rfl⟩ p2 rf;refine jQ (xs:=(r.map fun t=>mW ps t.s).map fun s:T2=>(⟨s.a,s.b,handOf rows s.a⟩:T3)) (.new rf) rf aI ?_;simp only [D5];refine⟨tw (by rw [av,av]; lia),qV _ _ ⟨(l3.trans l4).put V9,by rw [cU ZG]; exact l4 _ _ Qs,?_,_,_,rfl⟩⟩;have em:(r.map fun t=>mW ps t.s).map (fun s:T2=>(⟨s.a,s.b,handOf rows s.a⟩:T3))=r.map (wz rows ps):=gI;rw [aI,em,aW,aW]; rfl
 rintro _ G3 ⟨l3,Rb,x,y,rfl⟩;simp only [bM,c7,bo,aj,ah,↓ae,↓aa,aM];refine jQ (xs:=chg rows ps) l3 V9 Rb ?_;refine⟨chg rows ps,rfl,⟨by unfold chg; rw [av]; lia,fun r h=>?_⟩,fun p' as G2 hr2=>e9 (q p' as G2 hr2)⟩;obtain⟨r',SK,rfl⟩:=List.mem_map.mp h;have:=nW.jY SK;rw [av];lia
end Mo
end K2
end
section
namespace K2
open PySem (Str)
open Enc (enc)
namespace Mo
open K2.P
open K2.tf (dm)
open K2.yi (qU Ro)
open K2.EJ (iB)
noncomputable def tX(ps:List (T2×T2)):List T2:=ps.flatMap fun p=>[p.1,p.2]
theorem Gk(p:T2×T2)(ps:List (T2×T2)):tX (p :: ps)=p.1 :: p.2 :: tX ps:=rfl
theorem yU{s:T2}:∀ {ps l:List (T2×T2)},s∉tX ps->fY (par l ps) s=fY l s
 | [],_,_=>rfl
 | p :: ps,l,h=>by
  rw [Gk,cf,cf] at h;rw [par,yU fun z=>h (.inr (.inr z)),m4,m4,if_neg fun z=>h (.inr (.inl z.symm)),if_neg fun z=>h (.inl z.symm)]
theorem Nj:∀ {ps l:List (T2×T2)},(tX ps).Nodup->∀ p∈ps,fY (par l ps) p.1=some p.2/\fY (par l ps) p.2=some p.1
 | q :: ps,l,nd,p,hp=>by
  rw [Gk,fZ,fZ,cf] at nd;obtain⟨n1,n2,n3⟩:=nd;rcases List.mem_cons.mp hp with rfl | hp
  ·rw [par,yU fun z=>n1 (.inr z),yU n2,m4,m4,m4,if_neg fun z=>n1 (.inl z.symm),if_pos rfl,if_pos rfl];exact⟨rfl,rfl⟩
  ·rw [par]; exact Nj n3 p hp
theorem mF{ps:List (T2×T2)}(nd:(tX ps).Nodup){p:T2×T2}(hp:p∈ps):mW ps p.1=p.2/\mW ps p.2=p.1:=by
 obtain⟨h1,h2⟩:=Nj (l:=[]) nd p hp;unfold mW;rw [h1,h2]; exact⟨rfl,rfl⟩
theorem qw{ps:List (T2×T2)}{s:T2}(h:s∉tX ps):mW ps s=s:=by
 unfold mW;rw [yU h]; rfl
theorem lQ{ps:List (T2×T2)}{s:T2}:s∈tX ps↔∃ p∈ps,s=p.1\/s=p.2:=by
 unfold tX;rw [List.mem_flatMap];simp
theorem QC{ps:List (T2×T2)}(nd:(tX ps).Nodup){s:T2}(h:s∈tX ps):mW ps s∈tX ps:=by
 obtain⟨p,hp,rfl | rfl⟩:=lQ.mp h
 ·rw [(mF nd hp).1]; exact lQ.mpr ⟨p,hp,.inr rfl⟩
 ·rw [(mF nd hp).2]; exact lQ.mpr ⟨p,hp,.inl rfl⟩
theorem y8{ps:List (T2×T2)}(nd:(tX ps).Nodup)(s:T2):mW ps (mW ps s)=s:=by
 by_cases h:s∈tX ps
 ·obtain⟨p,hp,rfl | rfl⟩:=lQ.mp h
  ·rw [(mF nd hp).1,(mF nd hp).2]
  ·rw [(mF nd hp).2,(mF nd hp).1]
 ·rw [qw h,qw h]
noncomputable def KN(ps:List (T2×T2)):List (T2×T2):=ps.map fun p=>(p.2,p.1)
theorem zo:∀ ps:List (T2×T2),(tX (KN ps)).Perm (tX ps)
 | []=>.refl _
 | p :: ps=>by
  show (p.2 :: p.1 :: tX (KN ps)).Perm (p.1 :: p.2 :: tX ps);exact(List.Perm.swap _ _ _).trans (((zo ps).cons _).cons _)
theorem Oz{ps:List (T2×T2)}(nd:(tX ps).Nodup)(s:T2):mW (KN ps) s=mW ps s:=by
 have WN:(tX (KN ps)).Nodup:=(zo ps).nodup_iff.mpr nd;by_cases h:s∈tX ps
 ·obtain⟨p,hp,e⟩:=lQ.mp h;have D3:(p.2,p.1)∈KN ps:=List.mem_map.mpr ⟨p,hp,rfl⟩;have h1:=mF nd hp;have h2:=mF WN D3;rcases e with rfl | rfl
  ·rw [h1.1]; exact h2.2
  ·rw [h1.2]; exact h2.1
 ·rw [qw h,qw fun z=>h ((zo ps).mem_iff.mp z)]
theorem PH{rows:Rows}{a b c t:Int}(Qq:a≠b)(ZM:a≠c)(ZK:b≠c):(tX (nu rows a b c t)).Nodup:=by
 have key:∀ x y t,[(Bs x y t).1,(Bs x y t).2].Perm [x,y]:=fun x y t=>by
  unfold Bs; split
  ·exact .refl _
  ·exact .swap _ _ _
 have hp:(tX (nu rows a b c t)).Perm [⟨a,0⟩,⟨b,0⟩,⟨a,1⟩,⟨c,0⟩,⟨b,1⟩,⟨c,1⟩]:=by
  show ([_,_]++([_,_]++([_,_]++[]))).Perm ([_,_]++([_,_]++([_,_]++[])));exact(key _ _ _).append ((key _ _ _).append ((key _ _ _).append (.refl _)))
 rw [hp.nodup_iff];simp [Qq,ZM,ZK]
end Mo
end K2
end
section
namespace K2
open PySem (Str)
open Enc (enc)
namespace Mo
open K2.P
open K2.tf (dm)
open K2.yi (qU Ro)
open K2.EJ (iB)
theorem zQ{rows:Rows}{p:T3}(d:Dr rows)(h:p∈rows.flatten):∃ R1 R2 r,rows=R1++r :: R2/\((∃ q T,sv (p :: q :: T) r/\fY (fg (pairsOf rows)) p.s=some q.s)\/(sv [p] r/\fY (fg (pairsOf rows)) p.s=some p.s)):=by
 obtain⟨r,hr,hp⟩:=List.mem_flatten.mp h;obtain⟨R1,R2,rfl⟩:=jM hr;obtain⟨A,B,rfl⟩:=jM hp;have ro:sv (p :: (B++A)) (A++p :: B):=sv.of (u:=p :: B) (v:=A) rfl rfl;refine⟨R1,R2,_,rfl,?_⟩;cases V4:B++A with
 | nil=>rw [V4] at ro; exact .inr ⟨ro,vi d ro⟩
 | cons q T=>rw [V4] at ro; exact .inl ⟨q,T,ro,vh d ro⟩
theorem P9{a b:Rows}{p:T3}(d:Dr a)(h:Ro a b)(hp:p∈a.flatten):fY (fg (pairsOf b)) p.s=fY (fg (pairsOf a)) p.s:=by
 obtain⟨R1,R2,r,rfl,e⟩:=zQ d hp;have db:=d.ro h;obtain⟨Ws,r',Xi,rfl,ro,_⟩:=MY h;rcases e with ⟨q,T,e,n⟩ | ⟨e,n⟩
 ·rw [n]; exact vh db (e.trans ro)
 ·rw [n]; exact vi db (e.trans ro)
variable {rows:Rows} {ps:List (T2×T2)}
structure Sx(rows:Rows)(ps:List (T2×T2)):Prop where
 d:Dr rows
 nd:(tX ps).Nodup
 hs:∀ s∈tX ps,s∈rows.flatten.map T3.s
theorem A1(rows:Rows)(ps:List (T2×T2)):(chg rows ps).flatten=rows.flatten.map (wz rows ps):=by
 unfold chg;generalize wz rows ps=f;induction rows with
 | nil=>rfl
 | cons r rows ih=>rw [aC,bg,bg,aW,ih]
theorem Sx.MP(x:Sx rows ps){s:T2}(h:s∈rows.flatten.map T3.s):mW ps s∈rows.flatten.map T3.s:=by
 by_cases hs:s∈tX ps
 ·exact x.hs _ (QC x.nd hs)
 ·rw [qw hs]; exact h
theorem sV(x:Sx rows ps){q:T3}:q∈(chg rows ps).flatten↔q.s∈rows.flatten.map T3.s/\q.c=handOf rows q.a:=by
 rw [A1,List.mem_map];constructor
 ·rintro⟨p,hp,rfl⟩;exact⟨x.MP (List.mem_map.mpr ⟨p,hp,rfl⟩),rfl⟩
 ·rintro⟨hq,hc⟩;obtain⟨p,hp,e⟩:=List.mem_map.mp (x.MP hq);refine⟨p,hp,?_⟩;have e2:mW ps p.s=q.s:=by rw [e,y8 x.nd]
  show (⟨(mW ps p.s).a,(mW ps p.s).b,handOf rows (mW ps p.s).a⟩:T3)=q;rw [e2];show (⟨q.a,q.b,handOf rows q.a⟩:T3)=q;rw [<-hc]
theorem A2(x:Sx rows ps):Dr (chg rows ps):=by
 have d:=x.d;have at':∀ q∈(chg rows ps).flatten,∃ p∈rows.flatten,p.s=q.s/\p.c=q.c:=fun q hq=>by
  obtain⟨h1,h2⟩:=(sV x).mp hq;obtain⟨p,hp,e⟩:=List.mem_map.mp h1;refine⟨p,hp,e,?_⟩;rw [h2,<-oA d hp];rw [show p.a=q.a from congrArg T2.a e]
 refine⟨?_,?_,?_,?_,?_,?_⟩
 ·rw [A1,gI];show (rows.flatten.map fun p=>mW ps p.s).Nodup;have:(rows.flatten.map fun p=>mW ps p.s)=(rows.flatten.map T3.s).map (mW ps):=by rw [gI]; rfl
  rw [this];refine List.pairwise_map.mpr (d.nd.imp fun {s t} yu e=>yu ?_);have:=congrArg (mW ps) e;rw [y8 x.nd,y8 x.nd] at this;exact this
 ·intro q hq;obtain⟨p,hp,e,_⟩:=at' q hq;have:=d.way p hp;rw [show p.b=q.b from congrArg T2.b e] at this;exact this
 ·intro q hq;obtain⟨p,hp,_,e⟩:=at' q hq;have:=d.hand p hp;rw [e] at this;exact this
 ·intro q hq;obtain⟨p,hp,e,ec⟩:=at' q hq;have hm:=d.zX p hp;rw [show p.a=q.a from congrArg T2.a e,show p.b=q.b from congrArg T2.b e,ec] at hm;refine(sV x).mpr ⟨List.mem_map.mpr ⟨_,hm,rfl⟩,?_⟩;exact((sV x).mp hq).2
 ·rw [A1,av]; exact d.Qy
 ·unfold chg; rw [av]; exact d.str
theorem OB(x:Sx rows ps){p:T3}(hp:p∈rows.flatten):handOf (chg rows ps) p.a=handOf rows p.a:=by
 have hq:(⟨p.a,p.b,handOf rows p.a⟩:T3)∈(chg rows ps).flatten:=(sV x).mpr ⟨List.mem_map.mpr ⟨p,hp,rfl⟩,rfl⟩;exact oA (A2 x) hq
theorem OA(x:Sx rows ps){p:T3}(hp:p∈rows.flatten){v:T2}(h:fY (fg (pairsOf rows)) p.s=some v):fY (fg (pairsOf (chg rows ps))) (mW ps p.s)=some (mW ps v):=by
 have dc:=A2 x;obtain⟨R1,R2,r,e,c⟩:=zQ x.d hp;have ec:chg rows ps=R1.map (ll (wz rows ps))++r.map (wz rows ps) :: R2.map (ll (wz rows ps)):=by
  have:chg rows ps=(R1++r :: R2).map (ll (wz rows ps)):=by rw [<-e]; rfl
  rw [this,aW,aC]
 rcases c with ⟨q,T,c,n⟩ | ⟨c,n⟩
 ·rw [h] at n;injection n with n
  rw [n];rw [ec] at dc ⊢;exact vh (p:=wz rows ps p) (q:=wz rows ps q) dc c.map
 ·rw [h] at n;injection n with n
  rw [n];rw [ec] at dc ⊢;exact vi (p:=wz rows ps p) dc c.map
theorem QD(x:Sx rows ps){Nb:List (T2×T2)}(e:∀ s,mW Nb s=mW ps s):chg (chg rows ps) Nb=rows:=by
 show (rows.map (ll (wz rows ps))).map (ll (wz (chg rows ps) Nb))=rows;rw [gI]
 conv=>rhs; rw [<-List.map_id rows]
 refine jh fun r hr=>?_;show (r.map (wz rows ps)).map (wz (chg rows ps) Nb)=r;rw [gI]
 conv=>rhs; rw [<-List.map_id r]
 refine jh fun p hp=>?_;have WT:p∈rows.flatten:=List.mem_flatten.mpr ⟨r,hr,hp⟩;show wz (chg rows ps) Nb (wz rows ps p)=p;unfold wz;rw [show (T3.s ⟨(mW ps p.s).a,(mW ps p.s).b,handOf rows (mW ps p.s).a⟩:T2)=mW ps p.s from rfl,e,y8 x.nd];show (⟨p.a,p.b,handOf (chg rows ps) p.a⟩:T3)=p;rw [OB x WT,oA x.d WT]
end Mo
end K2
end
section
namespace K2
open PySem (Str)
open Enc (enc)
namespace Mo
open K2.P
open K2.tf (dm)
open K2.yi (qU Ro)
open K2.EJ (iB)
theorem Sk{f:T3->T3}{a b:Rows}(h:Ro a b):Ro (a.map (ll f)) (b.map (ll f)):=by
 induction h with
 | nil=>exact .nil
 | cons q _ ih =>
  have q:sv _ _:=q;exact .cons (show sv _ _ from q.map) ih
theorem Qp{a b:Rows}{p:T3}(d:Dr a)(h:Ro a b)(hp:p∈a.flatten):handOf b p.a=handOf a p.a:=by
 rw [oA d hp];exact oA (d.ro h) ((lM h).mem_iff.mpr hp)
theorem Tv{a b:Rows}{ps:List (T2×T2)}(x:Sx a ps)(h:Ro a b):Ro (chg a ps) (chg b ps):=by
 have e:chg b ps=b.map (ll (wz a ps)):=by
  show b.map (ll (wz b ps))=_;refine jh fun r hr=>jh fun p hp=>?_;have WT:p∈a.flatten:=(lM h).mem_iff.mp (List.mem_flatten.mpr ⟨r,hr,hp⟩);obtain⟨p',D3,e⟩:=List.mem_map.mp (x.MP (List.mem_map.mpr ⟨p,WT,rfl⟩));have:=Qp x.d h D3;rw [show p'.a=(mW ps p.s).a from congrArg T2.a e] at this;unfold wz;rw [this]
 rw [e];exact Sk h
structure GW(rows:Rows)(a b c t:Int):Prop where
 n:Ks rows a b c t
 f:Fn rows a b c t=true
variable {rows:Rows} {a b c t:Int}
theorem uM:Fn rows a b c t=true↔b≠a/\c≠a/\c≠b/\∀ p∈nu rows a b c t,fY (fg (pairsOf rows)) p.1=some p.2:=by
 unfold Fn;rw [bj,bj,oi];simp only [Cm,decide_eq_false_iff_not,decide_eq_true_iff,cf,bI,or_false,not_or,and_assoc,ne_eq]
theorem MS(s:Ks rows a b c t):∀ x∈tX (nu rows a b c t),x∈rows.flatten.map T3.s:=fun x hx=>by
 obtain⟨p,hp,e⟩:=lQ.mp hx;have six:x∈([⟨a,0⟩,⟨b,0⟩,⟨a,1⟩,⟨c,0⟩,⟨b,1⟩,⟨c,1⟩]:List T2):=by
  unfold nu Bs at hp;simp only [cf,bI,or_false] at hp;rcases hp with rfl | rfl | rfl <;> (split at e) <;> rcases e with rfl | rfl <;> simp
 have go:∀ {n w:Int},tx rows n->(w=0\/w=1)->(⟨n,w⟩:T2)∈rows.flatten.map T3.s:=fun hn hw=>by
  obtain⟨p,hp,e⟩:=Nq s.d hn hw;exact List.mem_map.mpr ⟨p,hp,e⟩
 simp only [cf,bI,or_false] at six;rcases six with rfl | rfl | rfl | rfl | rfl | rfl
 ·exact go s.na (.inl rfl)
 ·exact go s.nb (.inl rfl)
 ·exact go s.na (.inr rfl)
 ·exact go s.nc (.inl rfl)
 ·exact go s.nb (.inr rfl)
 ·exact go s.nc (.inr rfl)
theorem GW.sx(s:GW rows a b c t):Sx rows (nu rows a b c t):=by
 obtain⟨h1,h2,h3,_⟩:=uM.mp s.f;exact⟨s.n.d,PH (dR h1) (dR h2) (dR h3),MS s.n⟩
theorem Dj{x y:T2}{t:Int}(h:t=1\/t=-1):Bs x y (-t)=((Bs x y t).2,(Bs x y t).1):=by
 unfold Bs;rcases h with rfl | rfl <;> rfl
theorem WC{x y z:Int}(hx:x=1\/x=-1)(hy:y=1\/y=-1)(hz:z=1\/z=-1):x * y * z=1\/x * y * z=-1:=by
 rcases hx with rfl | rfl <;> rcases hy with rfl | rfl <;> rcases hz with rfl | rfl <;> decide
theorem Fj{jF:Rows}(s:Ks rows a b c t)(h:∀ n,tx rows n->handOf jF n=handOf rows n):nu jF a b c (-t)=KN (nu rows a b c t):=by
 have ha:=kU s.d s.na;have hb:=kU s.d s.nb;have hc:=kU s.d s.nc;unfold nu;rw [h a s.na,h b s.nb,h c s.nc,HE,HE,HE,HE,Dj s.ht,Dj (WC s.ht hb hc),Dj (WC s.ht ha hc)];rfl
noncomputable def nZ(rows:Rows)(a b c t:Int):Rows:=(chg rows (nu rows a b c t)).map dm
theorem uL(rows:Rows)(a b c t:Int):Ro (chg rows (nu rows a b c t)) (nZ rows a b c t):=iB _
theorem GW.dr(s:GW rows a b c t):Dr (nZ rows a b c t):=(A2 s.sx).ro (uL ..)
theorem Fm(s:GW rows a b c t){q:T3}:q∈(nZ rows a b c t).flatten↔q.s∈rows.flatten.map T3.s/\q.c=handOf rows q.a:=by
 rw [(lM (uL rows a b c t)).mem_iff]; exact sV s.sx
theorem Ct(s:GW rows a b c t){n:Int}(h:tx rows n):handOf (nZ rows a b c t) n=handOf rows n:=by
 obtain⟨p,hp,rfl⟩:=h.2;have hq:(⟨p.a,p.b,handOf rows p.a⟩:T3)∈(nZ rows a b c t).flatten:=(Fm s).mpr ⟨List.mem_map.mpr ⟨p,hp,rfl⟩,rfl⟩;exact oA s.dr hq
theorem Dl(s:GW rows a b c t){n:Int}(h:tx rows n):tx (nZ rows a b c t) n:=by
 obtain⟨p,hp,hb,ha⟩:=jC.mp h.1;have hq:(⟨p.a,p.b,handOf rows p.a⟩:T3)∈(nZ rows a b c t).flatten:=(Fm s).mpr ⟨List.mem_map.mpr ⟨p,hp,rfl⟩,rfl⟩;exact⟨jC.mpr ⟨_,hq,hb,ha⟩,_,hq,ha⟩
theorem GW.back(s:GW rows a b c t):GW (nZ rows a b c t) a b c (-t):=by
 obtain⟨h1,h2,h3,h4⟩:=uM.mp s.f;refine⟨⟨s.dr,Dl s s.n.na,Dl s s.n.nb,Dl s s.n.nc,by have:=s.n.ht; lia⟩,uM.mpr ⟨h1,h2,h3,?_⟩⟩;rw [Fj s.n fun n hn=>Ct s hn];intro p hp;obtain⟨p',D3,rfl⟩:=List.mem_map.mp hp;obtain⟨e1,e2⟩:=mF s.sx.nd D3;have hx:p'.1∈rows.flatten.map T3.s:=s.sx.hs _ (lQ.mpr ⟨p',D3,.inl rfl⟩);obtain⟨p0,Qm,e0⟩:=List.mem_map.mp hx;have n1:=h4 p' D3;rw [<-e0] at n1;have n2:=OA s.sx Qm n1;rw [e0,e1,e2] at n2;have hy:p'.2∈rows.flatten.map T3.s:=s.sx.hs _ (lQ.mpr ⟨p',D3,.inr rfl⟩);have hq:(⟨p'.2.a,p'.2.b,handOf rows p'.2.a⟩:T3)∈(chg rows (nu rows a b c t)).flatten:=(sV s.sx).mpr ⟨hy,rfl⟩;have:=P9 (A2 s.sx) (uL rows a b c t) hq;show fY (fg (pairsOf (nZ rows a b c t))) p'.2=some p'.1;rw [<-n2];exact this
theorem Cs(s:GW rows a b c t):nZ (nZ rows a b c t) a b c (-t)=rows.map dm:=by
 have e:∀ z,mW (nu (nZ rows a b c t) a b c (-t)) z=mW (nu rows a b c t) z:=fun z=>by
  rw [Fj s.n fun n hn=>Ct s hn]; exact Oz s.sx.nd z
 have hc:=QD s.sx e;have sxc:Sx (chg rows (nu rows a b c t)) (nu (nZ rows a b c t) a b c (-t)):=⟨A2 s.sx,s.back.sx.nd,fun z hz=>by
  obtain⟨q,hq,e⟩:=List.mem_map.mp (s.back.sx.hs z hz);exact List.mem_map.mpr ⟨q,(lM (uL rows a b c t)).mem_iff.mp hq,e⟩⟩
 have r:=Tv sxc (uL rows a b c t);rw [hc] at r;exact s.n.d.dn.UX r
end Mo
end K2
end
section
namespace K2
open PySem (Str)
open Enc (enc)
namespace Mo
open K2.P
open K2.tf (dm)
open K2.nW (HR)
open K2.yi (qU Ro)
open K2.EJ (dj iB)
noncomputable def qL:fN :=
 (bF (dH (bo fO (aj (ah 1) (aj (eG (aj (gr ["Slide"] "name" (ah 0)) (aj (gr ["Slide"] "second" (ah 0)) (aj (gr ["Slide"] "third" (ah 0)) aM)))) aM))))
 (dH (bo j6 (aj (bo i5 (aj (ah 1) (aj (gr ["Slide"] "name" (ah 0)) (aj (gr ["Slide"] "second" (ah 0)) (aj (gr ["Slide"] "third" (ah 0)) (aj (gr ["Slide"] "turn" (ah 0)) aM)))))) aM))))
noncomputable def ft:iw:=fun ds G Q _=>∃ (p:Nat) (a b c t:Int) (rows:Rows),ds=[.ref p,enc rows]/\OU G p (.sl a b c t)/\GW rows a b c t/\∀ G',e8 G G'->Q .j9 G'
theorem yI(ds:List D)(G:Gp)(Q:DK)(h:ft ds G Q fun _ _=>False):qL (fun _ _=>False) (ends Q) (aZ 2 ds) G:=by
 obtain⟨p,a,b,c,t,rows,rfl,g,s,q⟩:=h;unfold qL;simp only [↓lW,dH,bo,aj,ah,aZ,↓aC,↓aT,↓aq,↓az,↓aL,↓aO,↓ae,↓aa,eG,gr,aM,ends];refine at_ g (at_ g (at_ g ⟨by decide,fun pl mZ=>?_⟩));refine⟨rows,_,[a,b,c],rfl,.ref aI,⟨(xj s.n.d).2.2,fun m hm=>?_⟩,fun G1 l1=>?_⟩
 ·simp only [cf,bI,or_false] at hm;rcases hm with rfl | rfl | rfl
  ·exact s.n.na.1
  ·exact s.n.nb.1
  ·exact s.n.nc.1
 have L:=(e8.new mZ).trans l1;refine at_ (L _ _ g) (at_ (L _ _ g) (at_ (L _ _ g) (at_ (L _ _ g) ?_)));exact⟨rows,a,b,c,t,rfl,s.n,_,rfl,s.f,q _ L⟩
noncomputable def tV:fN :=
 (bF (dH (jS [("Slide",ft)] "refuse" (ah 0) (aj (ah 1) aM)))
 (bM (c7 (bo j5 (aj (ah 1) (aj (bo iy (aj (ah 1) (aj (gr ["Slide"] "name" (ah 0)) (aj (gr ["Slide"] "second" (ah 0)) (aj (gr ["Slide"] "third" (ah 0)) (aj (gr ["Slide"] "turn" (ah 0)) aM)))))) aM))))))
noncomputable def h8:iw:=fun ds G Q _=>∃ (p:Nat) (a b c t:Int) (rows:Rows),ds=[.ref p,enc rows]/\OU G p (.sl a b c t)/\GW rows a b c t/\∀ q as G',HR G G' q as (nZ rows a b c t)->Q (.ref q) G'
theorem B9(ds:List D)(G:Gp)(Q:DK)(h:h8 ds G Q fun _ _=>False):tV (fun _ _=>False) (ends Q) (aZ 2 ds) G:=by
 obtain⟨p,a,b,c,t,rows,rfl,g,s,q⟩:=h;have d:=s.n.d;unfold tV;simp only [↓lW,dH,jS,ah,aZ,↓aC,↓aT,↓aq,↓az,↓aL,↓aO,↓aa,aj,↓ae,aM,bM,c7,bo,gr,ends];refine⟨p,_,_,ft,rfl,g,List.mem_singleton.mpr rfl,rfl,⟨p,a,b,c,t,rows,rfl,g,s,fun G1 l1=>?_⟩⟩;refine at_ (l1 _ _ g) (at_ (l1 _ _ g) (at_ (l1 _ _ g) (at_ (l1 _ _ g) ?_)));refine⟨rows,a,b,c,t,rfl,s.n,rows,nu rows a b c t,rfl,⟨by have:=d.str; lia,by have:=d.Qy; lia,by simp [nu],fun x hx=>?_⟩,fun p' as G' hr=>e9 (q p' as G' (Ql hr l1))⟩;obtain⟨y,hy,e⟩:=List.mem_map.mp (s.sx.MP (List.mem_map.mpr ⟨x,hx,rfl⟩));exact⟨y,hy,congrArg T2.a e⟩
noncomputable def tW:fN :=
 (bF (dH (jS [("Slide",ft)] "refuse" (ah 0) (aj (ah 1) aM)))
 (bM (c7 (nQ "Slide" eM (aj (gr ["Slide"] "name" (ah 0)) (aj (gr ["Slide"] "second" (ah 0)) (aj (gr ["Slide"] "third" (ah 0)) (aj (GD DA (gr ["Slide"] "turn" (ah 0))) aM))))))))
noncomputable def jV:iw:=fun ds G Q _=>∃ (p:Nat) (a b c t:Int) (rows:Rows),ds=[.ref p,enc rows]/\OU G p (.sl a b c t)/\GW rows a b c t/\∀ q G',e8 G G'->G q=none->OU G' q (.sl a b c (-t))->Q (.ref q) G'
theorem Ca(ds:List D)(G:Gp)(Q:DK)(h:jV ds G Q fun _ _=>False):tW (fun _ _=>False) (ends Q) (aZ 2 ds) G:=by
 obtain⟨p,a,b,c,t,rows,rfl,g,s,q⟩:=h;unfold tW;simp only [↓lW,dH,jS,ah,aZ,↓aC,↓aT,↓aq,↓az,↓aL,↓aO,↓aa,aj,↓ae,aM,bM,c7,nQ,gr,GD,ends];refine⟨p,_,_,ft,rfl,g,List.mem_singleton.mpr rfl,rfl,⟨p,a,b,c,t,rows,rfl,g,s,fun G1 l1=>?_⟩⟩;refine at_ (l1 _ _ g) (at_ (l1 _ _ g) (at_ (l1 _ _ g) (at_ (l1 _ _ g) ?_)));simp only [↓kR];refine fun q' Q4=>⟨q',a,b,c,-t,rfl,aI,rfl,e9 (q q' _ ?_ ?_ ?_)⟩
 ·rw [ym]; exact l1.trans (.new Q4)
 ·exact l1.free Q4
 ·rw [ym]; exact aI
end Mo
end K2
end
section
namespace K2
namespace Y
noncomputable abbrev Po:=List (Int×Int)
noncomputable def ND(l:Po):Prop:=(l.map (·.1)).Nodup
noncomputable def L(g:Int->Int):Po->Int
 | []=>0
 | p :: l=>p.2 * g p.1+L g l
theorem ib:∀ (xs ys:List Int),xs.Nodup->(∀ x∈xs,x∈ys)->xs.length<=ys.length
 | [],_,_,_=>fT _
 | x :: xs,ys,hn,h=>by
  rw [fZ] at hn;have:=ib xs (ys.erase x) hn.2 fun y hy=>(Pn (show y≠x from fun z=>hn.1 (by rw [<-z]; exact hy))).mpr (h y (bq _ hy));have hx:=h x (by simp);rw [Kx hx] at this;have:=Mn hx;rw [aq]; lia
end Y
end K2
end
section
namespace K2
open PySem (Str)
open Enc (enc)
namespace K40
open K2.P (names handOf Jx iP)
open K2.Y (ib)
noncomputable def Rf(n:Int):Int:=n % 999+1
noncomputable def fit(n:Int):Nat->Int
 | 0=>n
 | k+1=>Rf (fit n k)
theorem oQ{n:Int}(h1:1<=n)(h2:n<=999):∀ k:Nat,fit n k=(n - 1+k) % 999+1
 | 0=>by show n=_; lia
 | k+1=>by
  show Rf (fit n k)=_;rw [oQ h1 h2 k];unfold Rf;lia
theorem vG{n:Int}{ns:List Int}(h1:1<=n)(h2:n<=999)(hl:ns.length<=500):∃ k,k<=ns.length/\fit n k∉ns:=by
 apply kg;intro SU;have N5:∀ k,k<=ns.length->fit n k∈ns:=fun k hk=>kg fun z=>SU ⟨k,hk,z⟩;have nd:((gK (ns.length+1)).map fun k=>fit n k).Nodup:=by
  refine List.pairwise_iff_getElem.mpr fun i j hi hj hij=>?_;simp only [av,eP] at hi hj;rw [cJ,cJ,mj,mj,oQ h1 h2,oQ h1 h2];lia
 have:=ib _ ns nd fun x hx=>by
  obtain⟨k,hk,rfl⟩:=List.mem_map.mp hx;exact N5 k (by have:=List.mem_range.mp hk; lia)
 simp at this;lia
end K40
end K2
end
section
namespace K2
open PySem (Str)
open Enc (enc)
namespace Md
open K2.P
variable {rows:Rows}
end Md
end K2
end
section
namespace K2
open PySem (Str)
open Enc (enc)
noncomputable instance:Bg T2 where
 mn:=by
  intro x G xs Q hi sT k;cases xs with
  | nil=>exact absurd rfl sT
  | cons a r =>
   obtain⟨h1,h2⟩:=kn r a;have ei:itemsOf x G=some (((a :: r).map T2.l).map tI):=by rw [hi,gI]; rfl
   refine .inr ⟨(a :: r).map T2.l,_,ei,rfl,?_⟩;have:∀ (r:List T2) (a:T2),(r.map T2.l).foldl (fun m x=>if lexLt x m=true then x else m) a.l=(r.foldl (fun m x=>if cA.lt x m=true then x else m) a).l:=by
    intro r;induction r with
    | nil=>intro a; rfl
    | cons b r ih =>
     intro a;rw [aC,hZ,hZ];have e:(if lexLt b.l a.l=true then b.l else a.l)=(if cA.lt b a=true then b else a).l:=by
      have:cA.lt b a=lexLt b.l a.l:=uc _ _;rw [this];split <;> rfl
     rw [e]; exact ih _
   rw [this r a];exact k _ h1 h2
namespace Md
open K2.P
variable {rows:Rows}
end Md
end K2
end
section
namespace K2
open PySem (Str)
open Enc (enc)
namespace Md
open K2.P
open K2.K40 (Rf)
open K2.Y (ib)
theorem w4{c:yb}{a b:fN}{E:lq}{K:j0}{τ:iH}{G:Gp}:cS c a b E K τ G=c E τ G fun k G1=>if k=true then a E K τ G1 else b E K τ G1:=rfl
theorem eq_int(i j:Int):jT (.int i) (.int j)=decide (i=j):=Enc.eqv i j
noncomputable def oP(L:List T3):List (Int×Int):=L.foldl (fun l p=>kq l p.a p.c) []
noncomputable def u5:fN :=
 (bF (bw xn (aH 1))
 (bF (du (ic (ah 0)) (aH 2) (du (ic (ah 2)) (aH 3) (bw (aN ee (ah 3) (dC (.int 2))) (w8 (ah 1) (aN ee (ah 3) (dC (.int 0)))))))
 (bM (c7 (ah 1)))))
noncomputable def eB:iw:=fun ds G Q _=>∃ rows:Rows,ds=[enc rows]/\rows.flatten.length<=500/\Q (.sM (en (oP rows.flatten))) G
theorem QH{κ β:Type} [DecidableEq κ](l:List (κ×β))(k:κ)(v:β):(kq l k v).length<=l.length+1:=by
 by_cases h:∃ p∈l,p.1=k
 ·rw [ED h]; lia
 ·rw [GU (fun z=>by obtain⟨p,hp,e⟩:=List.mem_map.mp z; exact h ⟨p,hp,e⟩),aJ]; exact bp _
theorem rT:∀ (L:List T3) (l:List (Int×Int)),(L.foldl (fun l p=>kq l p.a p.c) l).length<=l.length+L.length
 | [],l=>by simp
 | p :: L,l=>by
  rw [hZ];have h1:=rT L (kq l p.a p.c);have h2:=QH l p.a p.c;rw [aq]; lia
theorem v8(ds:List D)(G:Gp)(Q:DK)(h:eB ds G Q fun _ _=>False):u5 (fun _ _=>False) (ends Q) (aZ 4 ds) G:=by
 obtain⟨rows,rfl,hl,q⟩:=h;unfold u5;simp only [ends,aZ,aC,aT,aq,az,bb,aL,aO,fe,bw,xn,jR,aH,ai,ag];intro p hp;refine bE (fun τ G'=>(∃ a b,τ=[some (enc rows),some (.ref p),a,b])/\e8 G G'/\G' p=some (.ka (en (oP rows.flatten)))) ?_ ?_
 ·intro N hN;simp only [du,cG,ah,aa];refine dP ?_;refine eg (xs:=rows) (fun pre τ G'=>(∃ a b,τ=[some (enc rows),some (.ref p),a,b])/\e8 G G'/\G' p=some (.ka (en (oP pre.flatten)))) ⟨⟨_,_,rfl⟩,.new hp,aI⟩ (fun _ _ _ _=>trivial) ?_ ?_
  ·rintro pre r post τ G' N2 e ⟨⟨a,b,rfl⟩,l,gp⟩ qV;have hlen:pre.flatten.length+r.length<=rows.flatten.length:=by
    rw [e]; simp only [cK,bg,aJ]; lia
   simp only [aH,du,ai,ag,cG,ah,ae,aa];refine dP ?_;refine eg (xs:=r) (fun pp τ G'=>(∃ a b,τ=[some (enc rows),some (.ref p),a,b])/\e8 G G'/\G' p=some (.ka (en (oP (pre.flatten++pp))))) ⟨⟨_,_,rfl⟩,l,by rw [cz]; exact gp⟩ (fun _ _ _ _=>trivial) ?_ ?_
   ·rintro pp t pt τ G4 N3 e4 ⟨⟨a,b,rfl⟩,l4,D5⟩ yv;have WS:pp.length < r.length:=by have:=congrArg dD e4; simp at this; lia
    have hz:=rT (pre.flatten++pp) [];rw [aJ] at hz;simp only [aH,bw,aN,ah,mD,ai,ag,ae,aa,dC,w8,dq,A7,at2];refine P.lE (k:=t.a) (v:=t.c) D5 (by show (oP (pre.flatten++pp)).length<=1000; rw [az] at hz; unfold oP; lia) ?_;refine yv _ _ ⟨⟨_,_,rfl⟩,l4.put hp,?_⟩;have eh:oP (pre.flatten++(pp++[t]))=kq (oP (pre.flatten++pp)) t.a t.c:=by
     rw [<-cw]; unfold oP; exact Ci ..
    rw [aI,eh]
   ·rintro τ G4 ⟨⟨a,b,rfl⟩,l4,D5⟩;refine qV _ _ ⟨⟨_,_,rfl⟩,l4,?_⟩;rw [D5,cK,jE]
  ·rintro τ G' ⟨⟨a,b,rfl⟩,l,gp⟩;exact hN _ _ ⟨⟨_,_,rfl⟩,l,gp⟩
 ·rintro _ G' ⟨⟨a,b,rfl⟩,l,gp⟩;simp only [bM,c7,ah,ae,aa];exact Iv l hp gp q
end Md
end K2
end
section
namespace K2
open PySem (Str)
open Enc (enc)
namespace Jd
open K2.P
open K2.Mo
open K2.tf (dm)
open K2.nW (HR)
open K2.yi (qU Ro)
open K2.EJ (iB)
open K2.K3 (w4)
theorem KC{r:List T3}{k:Nat}(h:k < r.length):(eU r)[k]?=some (r[(k+1) % r.length]'(LY _ (by lia))):=by
 unfold eU;by_cases hk:k+1 < r.length
 ·rw [bK (by rw [eI]; lia),List.getElem?_drop];have:(k+1) % r.length=k+1:=Nat.mod_eq_of_lt hk;simp only [this];rw [Nat.add_comm 1 k,aU hk]
 ·have e:k+1=r.length:=by lia
  rw [bh (by rw [eI]; lia),eI];have:(k+1) % r.length=0:=by rw [e,Nat.mod_self]
  simp only [this];rw [show k - (r.length - 1)=0 by lia,List.getElem?_take,if_pos (by lia),aU]
theorem Rz{r:List T3}{k:Nat}(h:k < r.length):(r.zip (eU r)).take (k+1)=(r.zip (eU r)).take k++[(r[k],r[(k+1) % r.length]'(LY _ (by lia)))]:=by
 rw [List.take_succ];congr 1;have:(r.zip (eU r))[k]?=some (r[k],r[(k+1) % r.length]'(LY _ (by lia))):=List.getElem?_zip_eq_some.mpr ⟨aU h,KC h⟩;rw [this];rfl
noncomputable def xN:fN :=
 (bF (bw xn (aH 1))
 (bF (du (ic (ah 0)) (aH 2) (du (oz (iZ iq (aj (ah 2) aM))) (aH 3) (bF (bw (aN ee (ah 2) (aN kl (aN jl (ah 3) (dC (.int 1))) (iZ iq (aj (ah 2) aM)))) (aH 4))
 (bw (fF (aj (aN ee (ah 4) (dC (.int 0))) (aj (aN ee (ah 4) (dC (.int 1))) aM))) (w8 (ah 1) (fF (aj (aN ee (aN ee (ah 2) (ah 3)) (dC (.int 0))) (aj (aN ee (aN ee (ah 2) (ah 3)) (dC (.int 1))) aM))))))))
 (bM (c7 (ah 1)))))
noncomputable def gR:iw:=fun ds G Q _=>∃ rows:Rows,ds=[enc rows]/\rows.flatten.length<=500/\Q (.sM (en (fg (pairsOf rows)))) G
theorem ye(ds:List D)(G:Gp)(Q:DK)(h:gR ds G Q fun _ _=>False):xN (fun _ _=>False) (ends Q) (aZ 5 ds) G:=by
 obtain⟨rows,rfl,hl,q⟩:=h;unfold xN;simp only [↓fe,bw,xn,jR,aH,ends,aZ,↓aC,↓aT,↓aq,↓az,bb,↓aL,↓aO,↓ai,↓ag];intro d hd;refine bE (fun τ G'=>(∃ a b c,τ=[some (enc rows),some (.ref d),a,b,c])/\e8 G G'/\G' d=some (.ka (en (fg (pairsOf rows))))) ?_ ?_
 ·intro N hN;simp only [du,↓cG,ah,↓aa];refine dP ?_;refine eg (xs:=rows) (fun pre τ G'=>(∃ a b c,τ=[some (enc rows),some (.ref d),a,b,c])/\e8 G G'/\G' d=some (.ka (en (fg (pairsOf pre))))) ⟨⟨_,_,_,rfl⟩,.new hd,aI⟩ (fun _ _ _ _=>trivial) ?_ (fun τ G' h=>hN τ G' h);rintro pre r post τ G' N2 e ⟨⟨a,b,c,rfl⟩,l,gd⟩ qV;have hr:pre.flatten.length+r.length<=rows.flatten.length:=by
   rw [e]; simp only [cK,bg,aJ]; lia
  simp only [aH,du,↓gY,iZ,aj,ah,↓ai,↓ag,↓ae,↓aa,aM];refine gk (IsL.enc r) ?_;rw [av];simp only [↓fP];refine⟨by lia,by lia,?_⟩;refine mB (fun pp τ G'=>(∃ b c,τ=[some (enc rows),some (.ref d),some (enc r),b,c])/\e8 G G'/\G' d=some (.ka (en (fg (pairsOf pre++(r.zip (eU r)).take pp.length))))) ⟨⟨_,_,rfl⟩,l,by rw [az,List.take_zero,cz]; exact gd⟩ (fun _ _ _ _=>trivial) ?_ ?_
  ·rintro pp x post τ G4 N3 e4 ⟨⟨b,c,rfl⟩,l4,Rc⟩ yv;obtain⟨rfl,hk⟩:=lF e4;have hk:pp.length < r.length:=by simpa using hk
   have hz:(pairsOf pre++(r.zip (eU r)).take pp.length).length<=1000:=by
    have:=pairs_len pre;rw [aJ,ff]; lia
   have a1:nT (r.map enc) ((pp.length:Nat):Int)=some (enc r[pp.length]):=by
    rw [fS _ (by lia) (by rw [av]; lia)];simp only [dZ,cJ]
   have hm:(pp.length+1) % r.length < r.length:=LY _ (by lia);have a2:nT (r.map enc) ((((pp.length:Nat):Int)+1) % (r.length:Int))=some (enc (r[(pp.length+1) % r.length]'hm)):=by
    have e0:(((pp.length:Nat):Int)+1) % (r.length:Int)=(((pp.length+1) % r.length:Nat):Int):=rfl;rw [e0,fS _ (by lia) (by rw [av]; lia)];simp only [dZ,cJ]
   simp only [aH,↓fe,bw,aN,ah,↓ai,↓ag,↓ae,↓aa,dC,↓fi,iZ,aj,aM,fF,↓aq,↓az,w8];refine gk (IsL.enc r) ?_;rw [av];simp only [↓dG];refine⟨by lia,dE (IsL.enc r) a2 ?_⟩;simp only [↓mD,↓dq,↓x9,↓A7];refine⟨by decide,dE (IsL.enc r) a1 ?_⟩;simp only [↓mD,↓dq,↓A7];refine dE (IsL.enc r) a1 ?_;simp only [↓mD,↓dq,↓x9];refine⟨by decide,?_⟩;refine P.lE (k:=(r[pp.length]).s) (v:=(r[(pp.length+1) % r.length]'hm).s) Rc (dI (CB _) hz) ?_;refine yv _ _ ⟨⟨_,_,rfl⟩,l4.put hd,?_⟩;rw [aI,aJ,da,Rz hk,<-cw,zR]
  ·rintro τ G4 ⟨⟨b,c,rfl⟩,l4,Rc⟩;refine qV _ _ ⟨⟨_,_,_,rfl⟩,l4,?_⟩;have e1:(ek 0 (r.length:Int).toNat).length=r.length:=by unfold ek; simp
   have e2:pairsOf (pre++[r])=pairsOf pre++r.zip (eU r):=by unfold pairsOf; simp
   rw [e1,mM (by rw [Hi]; lia)] at Rc;rw [e2]; exact Rc
 ·rintro _ G' ⟨⟨a,b,c,rfl⟩,l,gd⟩;simp only [bM,c7,ah,↓ae,↓aa];exact Iv l hd gd q
open K2.Md (oP rT)
theorem J8:∀ (L:List T3) (l:List (Int×Int)) (n:Int),fY (L.foldl (fun l p=>kq l p.a p.c) l) n=(((L.reverse.find? fun p=>decide (p.a=n)).map (·.c)).or (fY l n))
 | [],l,n=>by simp
 | p :: L,l,n=>by
  rw [hZ,J8 L,List.reverse_cons,Ck];cases h:L.reverse.find? fun p=>decide (p.a=n) with
  | some q=>simp
  | none =>
   simp only [Option.map_none,Option.none_or,fc,List.find?_nil];rw [m4];by_cases c:p.a=n
   ·simp [c]
   ·simp [c]
theorem w7{rows:Rows}(d:Dr rows){n:Int}(h:n∈names rows):fY (oP rows.flatten) n=some (handOf rows n):=by
 unfold oP;rw [J8];obtain⟨p,hp,_,e⟩:=jC.mp h;cases q:rows.flatten.reverse.find? fun p=>decide (p.a=n) with
 | none =>
  have:=List.find?_eq_none.mp q p (List.mem_reverse.mpr hp);simp [e] at this
 | some r =>
  have h1:=List.mem_reverse.mp (iJ q);have h2:r.a=n:=by have:=pS q; simpa using this
  subst h2;rw [oA d h1];rfl
noncomputable def u0:fN :=
 (bM (c7 (eG (aj (fF (aj (fF (aj (ah 0) (aj (dC (.int 0)) aM))) (aj (fF (aj (ah 1) (aj (dC (.int 0)) aM))) aM))) (aj (fF (aj (fF (aj (ah 0) (aj (dC (.int 1)) aM))) (aj (fF (aj (ah 2) (aj (dC (.int 0)) aM))) aM))) (aj (fF (aj (fF (aj (ah 1) (aj (dC (.int 1)) aM))) (aj (fF (aj (ah 2) (aj (dC (.int 1)) aM))) aM))) aM))))))
noncomputable def xT(a b c:Int):List (T2×T2):=[(⟨a,0⟩,⟨b,0⟩),(⟨a,1⟩,⟨c,0⟩),(⟨b,1⟩,⟨c,1⟩)]
noncomputable def iN:iw:=fun ds G Q _=>∃ (a b c:Int),ds=[.int a,.int b,.int c]/\Q (enc (xT a b c)) G
theorem v3(ds:List D)(G:Gp)(Q:DK)(h:iN ds G Q fun _ _=>False):u0 (fun _ _=>False) (ends Q) (aZ 3 ds) G:=by
 obtain⟨a,b,c,rfl,q⟩:=h;unfold u0;simp only [bM,c7,eG,aj,fF,ah,aZ,↓aC,↓aT,↓aq,↓az,↓aL,↓aO,↓aa,dC,aM,↓ae,ends];refine⟨by decide,by decide,by decide,by decide,by decide,by decide,by decide,by decide,by decide,by decide,fun p hp=>?_⟩;exact jQ (xs:=xT a b c) (.new hp) hp aI q
end Jd
end K2
end
section
namespace K2
open PySem (Str)
open Enc (enc)
namespace Jd
open K2.P
open K2.Mo
open K2.tf (dm)
open K2.nW (HR)
open K2.Md (oP rT)
theorem zk (a b c t:Int):td (.sl a b c t)=.tup [.str "slide",.int a,.int b,.int c,.int t]:=rfl
theorem Wf{w x y z u:D}:cut [w,x,y,z,u] (some 1) none=[x,y,z,u]:=rfl
noncomputable def RJ(rows:Rows)(a b c t:Int):List Int:=[t,t * handOf rows b * handOf rows c,t * handOf rows a * handOf rows c]
noncomputable def RX(rows:Rows)(p:T2×T2)(t:Int):Prop:=fY (fg (pairsOf rows)) (Bs p.1 p.2 t).1=some (Bs p.1 p.2 t).2
theorem Dp{rows:Rows}{a b c t:Int}:Fn rows a b c t=true↔(b≠a/\c≠a/\c≠b)/\∀ k:Nat,∀ p u,(xT a b c)[k]?=some p->(RJ rows a b c t)[k]?=some u->RX rows p u:=by
 rw [uM];constructor
 ·rintro⟨h1,h2,h3,h⟩;refine⟨⟨h1,h2,h3⟩,fun k p u hp hu=>?_⟩
  match k,hp,hu with
  | 0,hp,hu=>cases hp; cases hu; exact h _ (by simp [nu])
  | 1,hp,hu=>cases hp; cases hu; exact h _ (by simp [nu])
  | 2,hp,hu=>cases hp; cases hu; exact h _ (by simp [nu])
  | k+3,hp,_=>simp [xT] at hp
 ·rintro⟨⟨h1,h2,h3⟩,h⟩;refine⟨h1,h2,h3,fun p hp=>?_⟩;simp only [nu,cf,bI,or_false] at hp;rcases hp with rfl | rfl | rfl
  ·exact h 0 _ _ rfl rfl
  ·exact h 1 _ _ rfl rfl
  ·exact h 2 _ _ rfl rfl
noncomputable def tS:fN :=
 (bF (bw (xm (ah 2) (lz (dC (.int 1))) eE) (pL (gq (aH 3) (gq (aH 4) (gq (aH 5) (gq (aH 6) qi))))))
 (bF (cS (pU (di (aN (nU false) (ah 3) (ah 4))) (pU (di (aN (nU false) (ah 3) (ah 5))) (di (aN (nU false) (ah 4) (ah 5))))) (bM (c7 (dC (.bl false)))) bQ)
 (bF (bw (bo iN (aj (ah 3) (aj (ah 4) (aj (ah 5) aM)))) (aH 7))
 (bF (bw (eG (aj (ah 6) (aj (aN mS (aN mS (ah 6) (aN ee (ah 1) (ah 4))) (aN ee (ah 1) (ah 5))) (aj (aN mS (aN mS (ah 6) (aN ee (ah 1) (ah 3))) (aN ee (ah 1) (ah 5))) aM)))) (aH 8))
 (bF (du (oz (dC (.int 3))) (aH 9) (bF (bw (aN ee (ah 7) (ah 9)) (pL (gq (aH 10) (gq (aH 11) qi))))
 (cS (pU (LG (di (aN (nU false) (aN ee (ah 8) (ah 9)) (dC (.int 1)))) (di (aN (nU true) (aN ee (ah 0) (ah 10)) (ah 11)))) (LG (di (aN (nU false) (aN ee (ah 8) (ah 9)) (GD DA (dC (.int 1))))) (di (aN (nU true) (aN ee (ah 0) (ah 11)) (ah 10))))) (bM (c7 (dC (.bl false)))) bQ)))
 (bM (c7 (dC (.bl true)))))))))
noncomputable def fD:iw:=fun ds G Q _=>∃ (rows:Rows) (a b c t:Int),ds=[.sM (en (fg (pairsOf rows))),.sM (en (oP rows.flatten)),td (.sl a b c t)]/\Ks rows a b c t/\Q (.bl (Fn rows a b c t)) G
theorem tZ(ds:List D)(G:Gp)(Q:DK)(h:fD ds G Q fun _ _=>False):tS (fun _ _=>False) (ends Q) (aZ 12 ds) G:=by
 obtain⟨rows,a,b,c,t,rfl,s,q⟩:=h;have d:=s.d;have ha:=w7 d s.na.1;have hb:=w7 d s.nb.1;have hc:=w7 d s.nc.1;have ZN:=kU d s.na;have T9:=kU d s.nb;have T8:=kU d s.nc;have ht:=s.ht;have mul:∀ {x y:Int} {G:Gp} {Q:DK},(x=1\/x=-1)->(y=1\/y=-1)->Q (.int (x * y)) G->mS (.int x) (.int y) G Q:=fun hx hy q=>by
  rcases hx with rfl | rfl <;> rcases hy with rfl | rfl <;> exact⟨.inl ⟨by decide,by decide⟩,q⟩
 have m1:t * handOf rows b=1\/t * handOf rows b=-1:=by rcases ht with rfl | rfl <;> rcases T9 with h | h <;> rw [h] <;> decide
 have m2:t * handOf rows a=1\/t * handOf rows a=-1:=by rcases ht with rfl | rfl <;> rcases ZN with h | h <;> rw [h] <;> decide
 unfold tS;rw [zk];generalize hS:D.tup [.str "slide",.int a,.int b,.int c,.int t]=S;generalize hN0:D.sM (en (fg (pairsOf rows)))=NX;generalize hH0:D.sM (en (oP rows.flatten))=HD;refine bE (fun τ G'=>G=G'/\τ=[some NX,some HD,some S,some (.int a),some (.int b),some (.int c),some (.int t),none,none,none,none,none]) ?_ ?_
 ·intro N hN;subst hS;simp only [bw,xm,ah,aZ,↓aC,↓aT,↓aq,↓az,bb,↓aL,↓aO,↓ae,↓aa,↓jZ,dC,↓iR,eE,↓vc,pL,gq,↓Wf,aH,qi,↓ai,↓ag];exact⟨by decide,hN _ _ ⟨rfl,rfl⟩⟩
 rintro _ _ ⟨rfl,rfl⟩;refine bE (fun τ G'=>G=G'/\(b≠a/\c≠a/\c≠b)/\τ=[some NX,some HD,some S,some (.int a),some (.int b),some (.int c),some (.int t),none,none,none,none,none]) ?_ ?_
 ·intro N hN;have no:¬ (b≠a/\c≠a/\c≠b)->Fn rows a b c t=false:=fun h=>by
   cases e:Fn rows a b c t with
   | false=>rfl
   | true=>exact absurd (Dp.mp e).1 h
  simp only [cS,pU,↓ck,aN,ah,↓ae,↓aa,bM,c7,dC,ends,bQ,↓if_true];refine eW (x:=a) (y:=b) (by decide) ?_;by_cases h1:a=b
  ·rw [show decide (a=b)=true from decide_eq_true h1];rw [no fun z=>z.1 h1.symm] at q;simp only [↓aP,↓ao,↓aS,↓if_false,↓if_true];exact e9 q
  rw [show decide (a=b)=false from decide_eq_false h1];simp only [↓aP,↓ao,↓bN,↓if_false];refine eW (x:=a) (y:=c) (by decide) ?_;by_cases h2:a=c
  ·rw [show decide (a=c)=true from decide_eq_true h2];rw [no fun z=>z.2.1 h2.symm] at q;simp only [↓aP,↓ao,↓aS,↓if_false,↓if_true];exact e9 q
  rw [show decide (a=c)=false from decide_eq_false h2];simp only [↓aP,↓ao,↓bN,↓if_false];refine eW (x:=b) (y:=c) (by decide) ?_;by_cases h3:b=c
  ·rw [show decide (b=c)=true from decide_eq_true h3];rw [no fun z=>z.2.2 h3.symm] at q;simp only [↓aP,↓ao,↓aS,↓if_false,↓if_true];exact e9 q
  rw [show decide (b=c)=false from decide_eq_false h3];simp only [↓aP,↓ao,↓bN,↓if_false];exact hN _ _ ⟨rfl,⟨dR h1,dR h2,dR h3⟩,rfl⟩
 rintro _ _ ⟨rfl,ne3,rfl⟩;refine bE (fun τ G'=>G=G'/\τ=[some NX,some HD,some S,some (.int a),some (.int b),some (.int c),some (.int t),some (enc (xT a b c)),none,none,none,none]) ?_ ?_
 ·intro N hN;simp only [bw,bo,aj,ah,↓ae,↓aa,aM,aH,↓ai,↓ag];exact⟨a,b,c,rfl,hN _ _ ⟨rfl,rfl⟩⟩
 rintro _ _ ⟨rfl,rfl⟩;refine bE (fun τ G'=>∃ p8,e8 G G'/\G' p8=some (.lst ((RJ rows a b c t).map enc))/\τ=[some NX,some HD,some S,some (.int a),some (.int b),some (.int c),some (.int t),some (enc (xT a b c)),some (.ref p8),none,none,none]) ?_ ?_
 ·intro N hN;subst hH0;simp only [bw,eG,aj,ah,↓ae,↓aa,aN,aM,↓aq,↓az,aH,↓ai,↓ag];refine xR (k:=b) hb ?_;refine mul ht T9 ?_;refine xR (k:=c) hc ?_;refine mul m1 T8 ?_;refine xR (k:=a) ha ?_;refine mul ht ZN ?_;refine xR (k:=c) hc ?_;refine mul m2 T8 ?_;exact⟨by decide,fun p hp=>hN _ _ ⟨p,.new hp,aI,rfl⟩⟩
 rintro _ G1 ⟨p8,l1,g8,rfl⟩;refine bE (fun τ G'=>G1=G'/\Fn rows a b c t=true) ?_ ?_
 ·intro N hN;simp only [du,↓gY,dC,↓fP,ends];refine⟨by decide,by decide,?_⟩;refine mB (fun pre τ G'=>G1=G'/\(∀ k:Nat,k < pre.length->∀ p u,(xT a b c)[k]?=some p->(RJ rows a b c t)[k]?=some u->RX rows p u)/\∃ x y z,τ=[some NX,some HD,some S,some (.int a),some (.int b),some (.int c),some (.int t),some (enc (xT a b c)),some (.ref p8),x,y,z]) ⟨rfl,fun k hk=>absurd hk (Nat.not_lt_zero _),_,_,_,rfl⟩ (fun _ _ _ _=>trivial) ?_ ?_
  ·rintro pre x post τ G2 N1 e ⟨rfl,D1,y1,y2,y3,rfl⟩ J9;obtain⟨rfl,hk⟩:=lF e;have hk:pre.length < 3:=hk;have ea:∃ p u,(xT a b c)[pre.length]?=some p/\(RJ rows a b c t)[pre.length]?=some u/\(u=1\/u=-1)/\∃ v1 v2,fY (fg (pairsOf rows)) p.1=some v1/\fY (fg (pairsOf rows)) p.2=some v2:=by
    have VU:pre.length=0\/pre.length=1\/pre.length=2:=by lia
    rcases VU with h | h | h <;> rw [h]
    ·obtain⟨v1,e1⟩:=my d s.na (w:=0) (.inl rfl);obtain⟨v2,e2⟩:=my d s.nb (w:=0) (.inl rfl);exact⟨_,_,rfl,rfl,ht,v1,v2,e1,e2⟩
    ·obtain⟨v1,e1⟩:=my d s.na (w:=1) (.inr rfl);obtain⟨v2,e2⟩:=my d s.nc (w:=0) (.inl rfl);exact⟨_,_,rfl,rfl,WC ht T9 T8,v1,v2,e1,e2⟩
    ·obtain⟨v1,e1⟩:=my d s.nb (w:=1) (.inr rfl);obtain⟨v2,e2⟩:=my d s.nc (w:=1) (.inr rfl);exact⟨_,_,rfl,rfl,WC ht ZN T8,v1,v2,e1,e2⟩
   obtain⟨p,u,ep,eu,hu,v1,v2,e1,e2⟩:=ea;have ap:nT ((xT a b c).map enc) ((pre.length:Nat):Int)=some (enc p):=by
    rw [fS _ (by lia) (by rw [av]; simp [xT]; lia)];simp only [dZ,cJ];obtain⟨_,e⟩:=List.getElem?_eq_some_iff.mp ep;rw [e]
   have au:nT ((RJ rows a b c t).map enc) ((pre.length:Nat):Int)=some (enc u):=by
    rw [fS _ (by lia) (by rw [av]; simp [RJ]; lia)];simp only [dZ,cJ];obtain⟨_,e⟩:=List.getElem?_eq_some_iff.mp eu;rw [e]
   have bad:¬ RX rows p u->Fn rows a b c t=false:=fun h=>by
    cases e:Fn rows a b c t with
    | false=>rfl
    | true=>exact absurd ((Dp.mp e).2 _ _ _ ep eu) h
   have good:RX rows p u->∀ k:Nat,k < (pre++[D.int (pre.length:Nat)]).length->∀ p u,(xT a b c)[k]?=some p->(RJ rows a b c t)[k]?=some u->RX rows p u:=fun h k hk p' u' D3 Pa=>by
    rw [aJ,da] at hk;by_cases Zv:k < pre.length
    ·exact D1 k Zv p' u' D3 Pa
    ·have:k=pre.length:=by lia
     subst this;rw [ep] at D3; rw [eu] at Pa;cases D3; cases Pa; exact h
   simp only [aH,↓fe,bw,aN,ah,↓ai,↓ag,↓ae,↓aa];refine dE (IsL.enc _) ap ?_;show pL _ _ (.tup [enc p.1,enc p.2]) _ _ _;simp only [pL,gq,aH,qi,cS,pU,LG,↓ck,aN,ah,↓ai,↓ag,↓ae,↓aa,dC,bM,c7,bQ,↓if_true,GD,↓kR,↓ao,↓if_false];refine dE (.ref g8) au ?_;refine eW (x:=u) (y:=(1:Int)) (by decide) ?_;rcases hu with rfl | rfl
   ·have VC:RX rows p 1↔v1=p.2:=by
     show fY (fg (pairsOf rows)) p.1=some p.2↔_;rw [e1]; exact⟨fun h=>by injection h,fun h=>by rw [h]⟩
    simp only [↓aP,↓ao,decide_true,↓aS,↓if_false,↓if_true];subst hN0;refine xR e1 ?_;refine eW (x:=v1) (y:=p.2) (by decide) ?_;by_cases hv:v1=p.2
    ·rw [show decide (v1=p.2)=true from decide_eq_true hv];simp only [↓aP,↓aS,↓if_true,↓ao,↓if_false];refine dE (.ref g8) au ?_;refine eW (x:=(1:Int)) (y:=(-1:Int)) (by decide) ?_;rw [show decide ((1:Int)=-1)=false from rfl];simp only [↓aP,↓ao,↓bN,↓if_false];exact J9 _ _ ⟨rfl,good (VC.mpr hv),_,_,_,rfl⟩
    ·rw [show decide (v1=p.2)=false from decide_eq_false hv];rw [bad fun z=>hv (VC.mp z)] at q;simp only [↓aP,↓bN,↓if_true];exact vA l1 q
   ·have VC:RX rows p (-1)↔v2=p.1:=by
     show fY (fg (pairsOf rows)) p.2=some p.1↔_;rw [e2]; exact⟨fun h=>by injection h,fun h=>by rw [h]⟩
    rw [show decide ((-1:Int)=1)=false from rfl];simp only [↓aP,↓ao,↓bN,↓if_false];refine dE (.ref g8) au ?_;refine eW (x:=(-1:Int)) (y:=(-1:Int)) (by decide) ?_;simp only [↓aP,↓ao,decide_true,↓aS,↓if_false,↓if_true];subst hN0;refine xR e2 ?_;refine eW (x:=v2) (y:=p.1) (by decide) ?_;by_cases hv:v2=p.1
    ·rw [show decide (v2=p.1)=true from decide_eq_true hv];simp only [↓aP,↓aS,↓if_true,↓ao,↓if_false];exact J9 _ _ ⟨rfl,good (VC.mpr hv),_,_,_,rfl⟩
    ·rw [show decide (v2=p.1)=false from decide_eq_false hv];rw [bad fun z=>hv (VC.mp z)] at q;simp only [↓aP,↓bN,↓if_true];exact vA l1 q
  ·rintro τ G2 ⟨rfl,h,_⟩;exact hN _ _ ⟨rfl,Dp.mpr ⟨ne3,fun k p u hp hu=>h k (by
    have:k < (xT a b c).length:=(List.getElem?_eq_some_iff.mp hp).1;exact this) p u hp hu⟩⟩
 rintro _ _ ⟨rfl,e⟩;rw [e] at q;simp only [bM,c7,dC,ends];exact vA l1 q
end Jd
end K2
end
section
namespace K2
open PySem (Str)
open Enc (enc)
namespace Jd
open K2.P
open K2.Mo
open K2.tf (dm)
open K2.nW (HR)
open K2.Md (oP rT eB)
open K2.QO (fE TC Ui)
theorem Oy{ps Nb:List (T2×T2)}(nd:(tX ps).Nodup)(WN:(tX Nb).Nodup)(h:∀ p∈ps,p∈Nb\/(p.2,p.1)∈Nb)(hs:∀ s∈tX Nb,s∈tX ps)(s:T2):mW ps s=mW Nb s:=by
 by_cases hm:s∈tX ps
 ·obtain⟨p,hp,e⟩:=lQ.mp hm;obtain⟨a1,a2⟩:=mF nd hp;rcases h p hp with h | h
  ·obtain⟨b1,b2⟩:=mF WN h;rcases e with rfl | rfl
   ·rw [a1,b1]
   ·rw [a2,b2]
  ·obtain⟨b1,b2⟩:=mF WN h;rcases e with rfl | rfl
   ·rw [a1]; exact b2.symm
   ·rw [a2]; exact b1.symm
 ·rw [qw hm,qw fun z=>hm (hs s z)]
theorem Qd{a b c:Int}(Qq:a≠b)(ZM:a≠c)(ZK:b≠c):(tX (xT a b c)).Nodup:=by
 show ([⟨a,0⟩,⟨b,0⟩,⟨a,1⟩,⟨c,0⟩,⟨b,1⟩,⟨c,1⟩]:List T2).Nodup;simp [Qq,ZM,ZK]
theorem Kl{rows:Rows}{a b c t:Int}(s:GW rows a b c t)(z:T2):mW (xT a b c) z=mW (nu rows a b c t) z:=by
 obtain⟨h1,h2,h3,_⟩:=uM.mp s.f;refine Oy (Qd (dR h1) (dR h2) (dR h3)) s.sx.nd (fun p hp=>?_) (fun x hx=>?_) z
 ·have key:∀ (x y:T2) (u:Int),Bs x y u=(x,y)\/Bs x y u=(y,x):=fun x y u=>by
   unfold Bs; split
   ·exact .inl rfl
   ·exact .inr rfl
  have go:∀ (x y:T2) (u:Int),Bs x y u∈nu rows a b c t->(x,y)∈nu rows a b c t\/(y,x)∈nu rows a b c t:=fun x y u h=>by
   rcases key x y u with e | e <;> rw [e] at h
   ·exact .inl h
   ·exact .inr h
  simp only [xT,cf,bI,or_false] at hp;rcases hp with rfl | rfl | rfl
  ·exact go _ _ t (by simp [nu])
  ·exact go _ _ (t * handOf rows b * handOf rows c) (by simp [nu])
  ·exact go _ _ (t * handOf rows a * handOf rows c) (by simp [nu])
 ·obtain⟨p,hp,e⟩:=lQ.mp hx;unfold nu Bs at hp;show x∈([⟨a,0⟩,⟨b,0⟩,⟨a,1⟩,⟨c,0⟩,⟨b,1⟩,⟨c,1⟩]:List T2);simp only [cf,bI,or_false] at hp;rcases hp with rfl | rfl | rfl <;> (split at e) <;> rcases e with rfl | rfl <;> simp
noncomputable def xK:fN :=
 (bF (bw (bo eB (aj (ah 0) aM)) (aH 2))
 (bF (bw xn (aH 3))
 (bF (du (ic (bo iN (aj (aN ee (ah 1) (dC (.int 1))) (aj (aN ee (ah 1) (dC (.int 2))) (aj (aN ee (ah 1) (dC (.int 3))) aM))))) (pL (gq (aH 4) (gq (aH 5) qi))) (bF (bw (ah 5) (w8 (ah 3) (ah 4)))
 (bw (ah 4) (w8 (ah 3) (ah 5)))))
 (bF (bw (eG aM) (aH 6))
 (bF (du (ic (ah 0)) (aH 7) (bF (bw (eG aM) (aH 8))
 (bF (du (ic (ah 7)) (aH 9) (bF (bw (oV UK FQ (ah 3) (aj (fF (aj (aN ee (ah 9) (dC (.int 0))) (aj (aN ee (ah 9) (dC (.int 1))) aM))) (aj (fF (aj (aN ee (ah 9) (dC (.int 0))) (aj (aN ee (ah 9) (dC (.int 1))) aM))) aM))) (aH 10))
 (dH (oV uA gh (ah 8) (aj (c7 (fF (aj (aN ee (ah 10) (dC (.int 0))) (aj (aN ee (ah 10) (dC (.int 1))) (aj (aN ee (ah 2) (aN ee (ah 10) (dC (.int 0)))) aM))))) aM)))))
 (dH (oV uA gh (ah 6) (aj (c7 (ah 8)) aM))))))
 (bM (c7 (bo fE (aj (c7 (ah 6)) aM)))))))))
noncomputable def ji:iw:=fun ds G Q _=>∃ (rows:Rows) (a b c t:Int),ds=[enc rows,td (.sl a b c t)]/\GW rows a b c t/\Q (enc (nZ rows a b c t)) G
theorem yc(ds:List D)(G:Gp)(Q:DK)(h:ji ds G Q fun _ _=>False):xK (fun _ _=>False) (ends Q) (aZ 11 ds) G:=by
 obtain⟨rows,a,b,c,t,rfl,s,q⟩:=h;have dr:=s.n.d;have hf:=dr.Qy;have aeg:=dr.str;unfold xK;rw [zk];generalize hS:D.tup [.str "slide",.int a,.int b,.int c,.int t]=S;generalize hH:D.sM (en (oP rows.flatten))=HD;refine bE (fun τ G'=>G=G'/\τ=[some (enc rows),some S,some HD,none,none,none,none,none,none,none,none]) ?_ ?_
 ·intro N hN;simp only [bw,bo,aj,ah,aZ,↓aC,↓aT,↓aq,↓az,bb,↓aL,↓aO,↓aa,aM,aH,↓ai,↓ag];exact⟨rows,rfl,by lia,by rw [hH]; exact hN _ _ ⟨rfl,rfl⟩⟩
 rintro _ _ ⟨rfl,rfl⟩;refine bE (fun τ G'=>∃ d,G d=none/\e8 G G'/\G' d=some (.ka (en ([]:List (T2×T2))))/\τ=[some (enc rows),some S,some HD,some (.ref d),none,none,none,none,none,none,none]) ?_ ?_
 ·intro N hN;simp only [bw,xn,jR,aH,↓ai,↓ag];exact fun d hd=>hN _ _ ⟨d,hd,.new hd,aI,rfl⟩
 rintro _ G0 ⟨d,hd,l0,gd0,rfl⟩;refine bE (fun τ G'=>e8 G G'/\G' d=some (.ka (en (par [] (xT a b c))))/\∃ x y,τ=[some (enc rows),some S,some HD,some (.ref d),x,y,none,none,none,none,none]) ?_ ?_
 ·intro N hN;rw [<-hS];simp only [du,↓cG,bo,aj,aN,ah,↓ae,↓aa,dC,↓dq,↓x9,↓at2,↓TC,aM,ends];rw [hS];refine⟨a,b,c,rfl,dP ?_⟩;refine eg (xs:=xT a b c) (fun pre τ G'=>e8 G G'/\G' d=some (.ka (en (par [] pre)))/\∃ x y,τ=[some (enc rows),some S,some HD,some (.ref d),x,y,none,none,none,none,none]) ⟨l0,gd0,_,_,rfl⟩ (fun _ _ _ _=>trivial) ?_ (fun τ G' h=>hN τ G' h);rintro pre p post τ G' N2 e ⟨l,gd,x,y,rfl⟩ qV;have mZ:pre.length < 3:=by have:=congrArg dD e; simp [xT] at this; lia
  have h1:=DJ pre [];have h2:=pQ (l:=par [] pre) (k:=p.1) (v:=p.2);show pL _ _ (.tup [enc p.1,enc p.2]) _ _ _;simp only [pL,gq,aH,qi,↓fe,bw,ah,↓ai,↓ag,↓ae,↓aa,w8];rw [az] at h1;refine P.lE gd (by lia) ?_;refine P.lE aI (by lia) ?_;refine qV _ _ ⟨(l.put hd).put hd,?_,_,_,rfl⟩;rw [aI,zM]
 rintro _ G1 ⟨l1,gd,x1,y1,rfl⟩;refine bE (fun τ G'=>∃ p,G1 p=none/\e8 G G'/\G' d=some (.ka (en (par [] (xT a b c))))/\G' p=some (.lst [])/\τ=[some (enc rows),some S,some HD,some (.ref d),x1,y1,some (.ref p),none,none,none,none]) ?_ ?_
 ·intro N hN;simp only [bw,eG,aM,↓az,aH,↓ai,↓ag];exact⟨by decide,fun p hp=>hN _ _ ⟨p,hp,l1.trans (.new hp),e8.new hp _ _ gd,aI,rfl⟩⟩
 rintro _ G2 ⟨p,fp,l2,Td,gp,rfl⟩;have V9:=l1.free fp;have ZG:d≠p:=by rintro rfl; rw [gp] at Td; cases Td
 have ech:∀ t':T3,(⟨(mW (xT a b c) t'.s).a,(mW (xT a b c) t'.s).b,handOf rows (mW (xT a b c) t'.s).a⟩:T3)=wz rows (nu rows a b c t) t':=fun t'=>by
  unfold wz;rw [Kl s]
 refine bE (fun τ G'=>e8 G G'/\G' p=some (.lst ((chg rows (nu rows a b c t)).map enc))/\∃ x y z w,τ=[some (enc rows),some S,some HD,some (.ref d),x1,y1,some (.ref p),x,y,z,w]) ?_ ?_
 ·intro N hN;simp only [du,↓cG,ah,↓aa,ends];refine dP ?_;refine eg (xs:=rows) (fun pre τ G'=>e8 G G'/\G' d=some (.ka (en (par [] (xT a b c))))/\G' p=some (.lst ((pre.map (ll (wz rows (nu rows a b c t)))).map enc))/\∃ x y z w,τ=[some (enc rows),some S,some HD,some (.ref d),x1,y1,some (.ref p),x,y,z,w]) ⟨l2,Td,gp,_,_,_,_,rfl⟩ (fun _ _ _ _=>trivial) ?_ (fun τ G' h=>hN τ G' ⟨h.1,h.2.2.1,h.2.2.2⟩);rintro pre r post τ G3 N2 e ⟨l3,Qs,Rb,x,y,z,w,rfl⟩ qV;have mZ:pre.length < rows.length:=by have:=congrArg dD e; simp at this; lia
  have SJ:∀ t∈r,t∈rows.flatten:=fun t ht=>List.mem_flatten.mpr ⟨r,by rw [e]; simp,ht⟩;have Qj:r.length<=24:=dI (nW.jY (by rw [e]; simp:r∈rows)) hf;refine bE (fun τ G'=>∃ p8,G3 p8=none/\e8 G3 G'/\G' p8=some (.lst [])/\τ=[some (enc rows),some S,some HD,some (.ref d),x1,y1,some (.ref p),some (enc r),some (.ref p8),z,w]) ?_ ?_
  ·intro N hN;simp only [bw,eG,aM,↓az,aH,↓ai,↓ag];exact⟨by decide,fun p8 hp8=>hN _ _ ⟨p8,hp8,.new hp8,aI,rfl⟩⟩
  rintro _ G4 ⟨p8,f8,l4,g8,rfl⟩;refine bE (fun τ G'=>e8 G3 G'/\G' p8=some (.lst ((r.map (wz rows (nu rows a b c t))).map enc))/\∃ z w,τ=[some (enc rows),some S,some HD,some (.ref d),x1,y1,some (.ref p),some (enc r),some (.ref p8),z,w]) ?_ ?_
  ·intro N hN;simp only [du,↓cG,ah,↓ae,↓aa];refine dP ?_;refine eg (xs:=r) (fun pp τ G'=>e8 G3 G'/\G' p8=some (.lst ((pp.map (wz rows (nu rows a b c t))).map enc))/\∃ z w,τ=[some (enc rows),some S,some HD,some (.ref d),x1,y1,some (.ref p),some (enc r),some (.ref p8),z,w]) ⟨l4,g8,_,_,rfl⟩ (fun _ _ _ _=>trivial) ?_ (fun τ G' h=>hN τ G' h);rintro pp t' po τ G5 N3 e3 ⟨l5,g5,z5,w5,rfl⟩ yv;have WS:pp.length < r.length:=by have:=congrArg dD e3; simp at this; lia
   have Pb:t'∈rows.flatten:=SJ t' (by rw [e3]; simp);obtain⟨y',SG,ey⟩:=List.mem_map.mp (s.sx.MP (List.mem_map.mpr ⟨t',Pb,rfl⟩));rw [<-Kl s] at ey;have VE:(mW (xT a b c) t'.s).a∈names rows:=by
    rw [<-ey];rcases dr.way y' SG with h | h
    ·exact jC.mpr ⟨y',SG,h,rfl⟩
    ·exact jC.mpr ⟨_,dr.zX y' SG,by show 1 - y'.b=0; lia,rfl⟩
   have hh:=w7 dr VE;have Z0:=l5 _ _ Qs;simp only [aH,↓fe,bw,oV,ah,↓ai,↓ag,↓mD,↓ae,↓aa,↓yP,aj,fF,aN,dC,↓dq,↓A7,↓x9,aM,↓aq,↓az,dH,↓gP,c7,↓eN];refine⟨by simp only [Z0],by decide,by decide,?_⟩;refine FP (k:=t'.s) (e:=t'.s) Z0 ?_;show _/\ee (enc (mW (xT a b c) t'.s)) _ _ _;simp only [↓Oi,↓dq,↓A7,↓x9];refine⟨by simp only [g5],?_⟩;subst hH;refine xR hh ⟨by decide,?_⟩;refine e9 ?_;simp only [g5];refine⟨tw (by rw [av,av]; lia),yv _ _ ⟨l5.put f8,?_,_,_,rfl⟩⟩;rw [aI,aW,aW,List.map_singleton,List.map_singleton,<-ech];rfl
  rintro _ G5 ⟨l5,g5,z5,w5,rfl⟩;have gp5:=l5 _ _ Rb;have Z0:=l5 _ _ Qs;simp only [dH,oV,ah,↓ae,↓aa,↓gP,aj,c7,aM,↓eN];refine⟨by simp only [gp5],?_⟩;refine jQ (xs:=r.map (wz rows (nu rows a b c t))) l5 f8 g5 ?_;simp only [Rb];refine⟨tw (by rw [av,av]; lia),qV _ _ ⟨l3.put V9,by rw [cU ZG]; exact Qs,?_,_,_,_,_,rfl⟩⟩;rw [aI,aW,aW]; rfl
 rintro _ G3 ⟨l3,Rb,x,y,z,w,rfl⟩;simp only [bM,c7,bo,aj,ah,↓ae,↓aa,aM,ends];refine jQ (xs:=chg rows (nu rows a b c t)) l3 V9 Rb ?_;refine⟨chg rows (nu rows a b c t),rfl,⟨by unfold chg; rw [av]; lia,fun r h=>?_⟩,e9 q⟩;obtain⟨r',SK,rfl⟩:=List.mem_map.mp h;have:=nW.jY SK;rw [av];lia
end Jd
end K2
end
section
namespace K2
open PySem (Str)
open Enc (enc)
namespace Mo
open K2.P
open K2.tf (dm)
open K2.nW (HR)
theorem UT{j:Nat}{G1 G2:Gp}{q:Nat}{as:List Nat}{rows:Rows}{E:lq}{K:j0}{τ:iH}(hr:HR G1 G2 q as rows)(hl:rows.length<=500/\∀ r∈rows,r.length<=500)(hj:j < τ.length)
  (k:∀ lp G',(lp=τ\/∃ x,lp=τ.set j (some x))->e8 G1 G'->K.nx lp G') :
  rV (aH j) (dH (oV uA gh (ah j) (aj (fF (aj (dC (.int 0)) (aj (dC (.int 0)) (aj (dC (.int 0)) aM)))) aM))) (fun G'=>G' q=some (.lst (as.map D.ref))) (as.map D.ref) E K τ G2:=by
 refine eg (f:=D.ref) (xs:=as) (fun pre lp G'=>(lp=τ\/∃ x,lp=τ.set j (some x))/\e8 G1 G'/\G' q=some (.lst (as.map D.ref))/\(∀ a∈as,∃ xs:List D,G' a=some (.lst xs)/\xs.length<=500+pre.length)) ⟨.inl rfl,hr.le,hr.gp,fun a ha=>?_⟩ (fun _ _ _ h=>h.2.2.1) ?_ (fun lp G' h=>k lp G' h.1 h.2.1)
 ·obtain⟨i,hi⟩:=iY ha;have hil:i < rows.length:=by rw [<-hr.len]; exact(List.getElem?_eq_some_iff.mp hi).1
  refine⟨_,hr.at' i a _ hi (aU hil),?_⟩;rw [av];have:=hl.2 rows[i] (EM hil);simp; lia
 ·rintro pre a post lp G' N e ⟨Y6,l,g,hs⟩ hN;have ha:a∈as:=by rw [e]; simp
  have Zi:lp.set j (some (.ref a))=τ.set j (some (.ref a)):=by
   rcases Y6 with rfl | ⟨x,rfl⟩
   ·rfl
   ·rw [List.set_set]
  have ZA:(τ.set j (some (D.ref a)))[j]?=some (some (.ref a)):=by rw [fM hj]
  obtain⟨xs,gx,hx⟩:=hs a ha;have sT:q≠a:=by rintro rfl; exact hr.np ha
  unfold aH;rw [Zi];unfold dH oV ah;simp only [ZA];refine⟨by unfold uA; simp only [gx],?_⟩;show (3<=SZ/\gh (.ref a) [.tup [.int 0,.int 0,.int 0]] G' fun _ G1=>N (τ.set j (some (D.ref a))) G1);refine⟨by decide,?_⟩;unfold gh;simp only [gx];have mZ:pre.length < as.length:=by have:=congrArg dD e; simp at this; lia
  have ZL:=hr.len;have SY:=hl.1
  ·refine⟨tw (by lia),hN _ _ ⟨.inr ⟨_,rfl⟩,l.put (hr.fr a ha),by rw [cU sT]; exact g,fun b hb=>?_⟩⟩;by_cases VW:b=a
   ·subst VW;exact⟨_,aI,by simp; lia⟩
   ·rw [cU VW];obtain⟨ys,gy,hy⟩:=hs b hb;exact⟨ys,gy,by simp; lia⟩
end Mo
end K2
end
section
namespace K2
open PySem (Str)
open Enc (enc)
namespace K22
open K2.P
open K2.Mo hiding cg ez eA cM eV eY
open K2.tf (dm)
open K2.nW (HR)
open K2.yi (qU Ro)
open K2.EJ (dj iB)
open K2.ES (qu)
open K2.QO (fE iK cM TC Ui zt)
variable {rows:Rows} {a b:Int} {o u:T2} {t h:Int}
end K22
end K2
end
section
namespace K2
open PySem (Str)
open Enc (enc)
namespace Jd
open K2.P
open K2.Mo
open K2.tf (dm)
open K2.yi (qU Ro)
variable {rows:Rows}
end Jd
end K2
end
section
namespace K2
open PySem (Str)
open Enc (enc)
namespace ES
open K2.P K2.nW
open K2.K3
variable {rows:Rows}
end ES
end K2
end
section
namespace K2
open PySem (Str)
open Enc (enc)
namespace ES
open K2.P K2.nW
open K2.K3
variable {rows:Rows}
end ES
end K2
end
section
namespace K2
open PySem (Str)
open Enc (enc)
namespace ES
open K2.P K2.nW
open K2.K3
variable {rows:Rows}
theorem CA(df:DF rows.flatten){m:Int}(h:m∉nV rows.flatten):m∉rows.flatten.map (·.a):=fun z=>by
 obtain⟨p,hp,e⟩:=List.mem_map.mp z;refine h ?_;unfold nV;rcases df.way p hp with h0 | h1
 ·exact List.mem_map.mpr ⟨p,List.mem_filter.mpr ⟨hp,by simp [h0]⟩,e⟩
 ·exact List.mem_map.mpr ⟨_,List.mem_filter.mpr ⟨df.zX p hp,by simp [h1]⟩,e⟩
theorem JQ{k:Int}(k1:1<=k)(k3:k<=3){G:Gp}{Q:DK}{τ:iH}(q:∀ G' p as,HR G G' p as (bb k.toNat [])->Q (.ref p) G') :
  (ek 0 k.toNat).length<=SZ/\jb (aH 0) none (eG aM) (fun _=>True) (ek 0 k.toNat) (fun _ _=>False) (sk 1 [] τ) G [] fun xs G2=>jR G2 (.lst xs) Q:=by
 refine⟨Hl (by unfold ek; rw [av,eP]; lia),?_⟩;unfold ek;refine jm (xs:=gK k.toNat) (fun pre acc τ G'=>(∃ a,τ=[a])/\∃ as:List Nat,acc=as.map D.ref/\HA G G' as (bb pre.length [])) ⟨⟨_,rfl⟩,[],rfl,.nil G⟩ (fun _ _ _ _ _=>trivial) ?_ ?_
 ·rintro pre x post acc τ G' N e ⟨⟨a,rfl⟩,as,rfl,h⟩ hN;simp only [aH,eG,aM,az,ag];refine⟨by decide,fun p hp=>?_⟩;refine hN _ _ _ ⟨⟨_,rfl⟩,as++[p],by simp,?_⟩;have:=h.push hp [];rw [aJ,da,List.replicate_succ'];exact this
 ·rintro acc τ G' ⟨⟨a,rfl⟩,as,rfl,h⟩ p hp;rw [eP] at h;exact q _ p as (h.top hp)
end ES
end K2
end
section
namespace K2
open PySem (Str)
open Enc (enc)
namespace Jd
open K2.P
open K2.Mo
open K2.ES (gS mixed)
section
variable {α:Type} [DecidableEq α] [Enc α]
structure OQ(G G':Gp)(p0:Nat)(as:List Nat)(rs:List (List α)):Prop where
 le:e8 G G'
 fp:G p0=none
 gp:G' p0=some (.lst (as.map D.ref))
 np:p0∉as
 nd:as.Nodup
 fr:∀ a∈as,G a=none
 len:as.length=rs.length
 at':∀ (i a:Nat) (r:List α),as[i]?=some a->rs[i]?=some r->G' a=some (.lst (r.map enc))
theorem OQ.put{G G':Gp}{p0:Nat}{as:List Nat}{rs:List (List α)}(h:OQ G G' p0 as rs){j a:Nat}{r':List α}(ha:as[j]?=some a):OQ G (de G' a (.lst (r'.map enc))) p0 as (rs.set j r'):=by
 have hm:a∈as:=dA ha;have hj:j < as.length:=(List.getElem?_eq_some_iff.mp ha).1;refine⟨h.le.put (h.fr a hm),h.fp,?_,h.np,h.nd,h.fr,by rw [j3]; exact h.len,fun i b r hb hr=>?_⟩
 ·rw [cU (by rintro rfl; exact h.np hm)]; exact h.gp
 ·by_cases e:i=j
  ·subst e;rw [ha] at hb; cases hb;rw [fM (by have:=h.len; lia)] at hr;cases hr;exact aI
  ·have:b≠a:=by
    rintro rfl;have h1:=List.getElem?_eq_some_iff.mp hb;have h2:=List.getElem?_eq_some_iff.mp ha;have pw:=List.pairwise_iff_getElem.mp h.nd;rcases Nat.lt_trichotomy i j with lt | eq | gt
    ·exact pw i j h1.1 h2.1 lt (h1.2.trans h2.2.symm)
    ·exact e eq
    ·exact pw j i h2.1 h1.1 gt (h2.2.trans h1.2.symm)
   rw [cU this];rw [iX (fun z=>e z.symm)] at hr;exact h.at' i b r hb hr
theorem OQ.fz{G G':Gp}{p0:Nat}{as:List Nat}{rs:List (List α)}(h:OQ G G' p0 as rs){Q:DK}(q:Q (enc rs) G):Jh G' (.ref p0) Q:=by
 refine Iu h.le h.fp h.gp (ss:=rs.map enc) ?_ q;have:∀ (as:List Nat) (rs:List (List α)),as.length=rs.length->(∀ a∈as,G a=none)->(∀ (i a:Nat) (r:List α),as[i]?=some a->rs[i]?=some r->G' a=some (.lst (r.map enc)))->Jf G' (fun a=>(G a).isNone) (as.map D.ref) (rs.map enc):=by
  intro as;induction as with
  | nil=>intro rs hl _ _; cases rs with
   | nil=>exact .nil
   | cons _ _=>cases hl
  | cons a as ih =>
   intro rs hl hf N0;cases rs with
   | nil=>cases hl
   | cons r rs =>
    refine .cons (.ref (N0 0 a r rfl rfl) (by simp [hf a (by simp)]) (Jf.same _)) ?_;exact ih rs (by simpa using hl) (fun b hb=>hf b (bq _ hb)) fun i b s h1 h2=>N0 (i+1) b s h1 h2
 exact this as rs h.len h.fr h.at'
structure Pg(G G':Gp)(as:List Nat)(rs:List (List α)):Prop where
 le:e8 G G'
 nd:as.Nodup
 fr:∀ a∈as,G a=none
 len:as.length=rs.length
 at':∀ (i a:Nat) (r:List α),as[i]?=some a->rs[i]?=some r->G' a=some (.lst (r.map enc))
theorem Pg.nil(G:Gp):Pg G G [] ([]:List (List α)):=⟨.refl _,iI,(fun a h=>by cases h),rfl,fun i a r h=>by simp at h⟩
theorem Pg.new{G G':Gp}{as:List Nat}{rs:List (List α)}(h:Pg G G' as rs){p:Nat}(hp:G' p=none):p∉as:=fun z=>by
 obtain⟨i,hi⟩:=iY z;have h1:i < rs.length:=by rw [<-h.len]; exact(List.getElem?_eq_some_iff.mp hi).1
 rw [h.at' i p rs[i] hi (aU h1)] at hp; cases hp
theorem Pg.push{G G':Gp}{as:List Nat}{rs:List (List α)}(h:Pg G G' as rs){p:Nat}(hp:G' p=none)(r:List α):Pg G (de G' p (.lst (r.map enc))) (as++[p]) (rs++[r]):=by
 have Q6:=h.new hp;refine⟨h.le.trans (.new hp),?_,?_,by simp [h.len],?_⟩
 ·rw [ky];refine⟨h.nd,by simp,fun a ha b hb e=>?_⟩;rw [fy] at hb;subst hb e;exact Q6 ha
 ·intro a h0;rcases List.mem_append.mp h0 with z | z
  ·exact h.fr a z
  ·rw [fy] at z; subst z; exact h.le.free hp
 ·intro i b s h1 h2;by_cases hi:i < as.length
  ·rw [bK hi] at h1;rw [bK (by rw [<-h.len]; lia)] at h2;have:b≠p:=by rintro rfl; exact Q6 (dA h1)
   rw [cU this];exact h.at' i b s h1 h2
  ·rw [bh (by lia)] at h1;rw [bh (by rw [<-h.len]; lia)] at h2;have i0:i - as.length=0:=by have:=(List.getElem?_eq_some_iff.mp h1).1; simp at this; lia
   rw [i0] at h1;rw [<-h.len,i0] at h2;simp at h1 h2;subst h1 h2;exact aI
theorem Pg.top{G G':Gp}{as:List Nat}{rs:List (List α)}(h:Pg G G' as rs){p:Nat}(hp:G' p=none):OQ G (de G' p (.lst (as.map D.ref))) p as rs :=
 ⟨h.le.trans (.new hp),h.le.free hp,aI,h.new hp,h.nd,h.fr,h.len,fun i b r h1 h2=>(e8.new hp) _ _ (h.at' i b r h1 h2)⟩
theorem Ow{rows:List (List α)}{G:Gp}{Q:DK}(hl:rows.length<=1000){τ:iH}(q:∀ G' p as,OQ G G' p as rows->Q (.ref p) G') :
  NM (enc rows) G fun ds ok G1=>ds.length<=SZ/\jb (aH 0) none (iZ pP (aj (ah 0) aM)) ok ds (fun _ _=>False) (sk 1 [] τ) G1 [] fun xs G2=>jR G2 (.lst xs) Q:=by
 refine dP ⟨Hl (by rw [av]; exact hl),?_⟩;refine jm (xs:=rows) (fun pre acc τ G'=>(∃ a,τ=[a])/\∃ as:List Nat,acc=as.map D.ref/\Pg G G' as pre) ⟨⟨_,rfl⟩,[],rfl,.nil G⟩ (fun _ _ _ _ _=>trivial) ?_ ?_
 ·rintro pre r post acc τ G' N e ⟨⟨a,rfl⟩,as,rfl,h⟩ hN;simp only [aH,iZ,aj,ah,↓ag,↓aa,aM];refine GQ (IsL.enc r) fun p hp=>?_;exact hN _ _ _ ⟨⟨_,rfl⟩,as++[p],by simp,h.push hp r⟩
 ·rintro acc τ G' ⟨⟨a,rfl⟩,as,rfl,h⟩ p hp;exact q _ p as (h.top hp)
theorem OQ.at_{G G':Gp}{p0:Nat}{as:List Nat}{rs:List (List α)}(h:OQ G G' p0 as rs){j:Int}(j1:0<=j)(j2:j < rs.length):∃ a r,as[j.toNat]?=some a/\rs[j.toNat]?=some r/\G' a=some (.lst (r.map enc))/\nT (as.map D.ref) j=some (.ref a):=by
 have hj:j.toNat < as.length:=by have:=h.len; lia
 refine⟨as[j.toNat],rs[j.toNat]'(by lia),aU hj,aU _,h.at' _ _ _ (aU hj) (aU _),?_⟩;rw [fS _ j1 (by rw [av]; have:=h.len; lia),cJ]
end
noncomputable def u7:fN :=
 (bF (bw (bo gS (aj (ah 1) aM)) (aH 3))
 (bF (bw (fR 1 [] (ic (ah 0)) (aH 0) none (iZ pP (aj (ah 0) aM))) (aH 4))
 (bF (bw (aN ee (ah 4) (aN kl (ah 3) (iZ iq (aj (ah 4) aM)))) (aH 5))
 (bF (dH (oV uA sQ (ah 5) (aj (aN kl (aN qN (ah 3) (iZ iq (aj (ah 4) aM))) (aN jl (iZ iq (aj (ah 5) aM)) (dC (.int 1)))) (aj (ah 2) aM))))
 (bM (c7 (ah 4)))))))
noncomputable abbrev Wx:=List (List (List T3))
noncomputable def kP:iw:=fun ds G Q _=>∃ (R:Wx) (c:Int) (B:List T3),ds=[enc R,.int c,enc B]/\(1<=R.length/\R.length<=500/\∀ r∈R,r.length<=500)/\∀ (j k:Nat) (r:List (List T3)),R[j]?=some r->k<=r.length->Q (enc (R.set j (r.take k++B :: r.drop k))) G
theorem v9(ds:List D)(G:Gp)(Q:DK)(h:kP ds G Q fun _ _=>False):u7 (fun _ _=>False) (ends Q) (aZ 6 ds) G:=by
 obtain⟨R,c,B,rfl,⟨n1,n2,n3⟩,q⟩:=h;unfold u7;refine bE (fun τ G'=>G=G'/\∃ x:Int,0<=x/\τ=[some (enc R),some (.int c),some (enc B),some (.int x),none,none]) ?_ ?_
 ·intro N hN;simp only [bw,bo,aj,ah,aZ,↓aC,↓aT,↓aq,↓az,bb,↓aL,↓aO,↓ae,↓aa,aM,aH,↓ai,↓ag];exact⟨c,rfl,hN _ _ ⟨rfl,_,by unfold mixed; lia,rfl⟩⟩
 rintro _ _ ⟨rfl,x,x0,rfl⟩;refine bE (fun τ G'=>∃ p as,OQ G G' p as R/\τ=[some (enc R),some (.int c),some (enc B),some (.int x),some (.ref p),none]) ?_ ?_
 ·intro N hN;simp only [bw,fR,↓cG,ah,↓aa,aH,↓ai,↓ag];exact Ow (by lia) fun G' p as hr=>hN _ _ ⟨p,as,hr,rfl⟩
 rintro _ G1 ⟨p,as,hr,rfl⟩;have j1:0<=x % (R.length:Int):=pW _ (by lia);have j2:x % (R.length:Int) < R.length:=mr _ (by lia);obtain⟨a,r,ea,er,ga,xa⟩:=OQ.at_ hr j1 j2;have rl:=n3 r (dA er);refine bE (fun τ G'=>G1=G'/\τ=[some (enc R),some (.int c),some (enc B),some (.int x),some (.ref p),some (.ref a)]) ?_ ?_
 ·intro N hN;simp only [bw,aN,ah,↓ae,↓aa,iZ,aj,aM,aH,↓ai,↓ag];refine gk (IsL.ref hr.gp) ?_;rw [av,hr.len];simp only [↓dG];exact⟨by lia,dE (IsL.ref hr.gp) xa (hN _ _ ⟨rfl,rfl⟩)⟩
 rintro _ _ ⟨rfl,rfl⟩;simp only [↓lW,dH,oV,ah,↓ae,↓aa,↓gP,aj,aN,iZ,aM,dC,bM,c7,ends];refine⟨by simp only [ga],gk (IsL.ref hr.gp) ?_⟩;rw [av,hr.len];simp only [↓jA];refine⟨by lia,by lia,gk (IsL.ref ga) ?_⟩;rw [av];simp only [↓fi,↓dG,↓oy];have k1:0<=x / (R.length:Int) % ((r.length:Int)+1):=pW _ (by lia);have k2:x / (R.length:Int) % ((r.length:Int)+1) < (r.length:Int)+1:=mr _ (by lia);refine⟨by lia,?_⟩;generalize x / (R.length:Int) % ((r.length:Int)+1)=k at *;simp only [↓sQ,ga];refine⟨k1,by rw [av]; lia,tw (by rw [av]; lia),?_⟩;have e:(r.map enc).take k.toNat++enc B :: (r.map enc).drop k.toNat=(r.take k.toNat++B :: r.drop k.toNat).map enc:=by rw [aW,aC,Bm,Bn]
 rw [e];exact(hr.put ea).fz (q _ k.toNat r er (by lia))
end Jd
end K2
end
section
namespace K2
open PySem (Str)
open Enc (enc)
namespace Jd
open K2.P
open K2.Mo
noncomputable def rem(G:Gp)(p:Nat):Gp:=fun a=>if a=p then none else G a
theorem RW(G:Gp)(p:Nat):e8 (rem G p) G:=fun a o h=>by
 unfold rem at h;split at h
 ·cases h
 ·exact h
theorem rF{G:Gp}{p a:Nat}(h:a≠p):rem G p a=G a:=if_neg h
theorem M1(G:Gp)(p:Nat):rem G p p=none:=if_pos rfl
theorem Nv{G G':Gp}{p:Nat}(l:e8 G G')(h:G p=none):e8 G (rem G' p):=fun a o ha=>by
 have:a≠p:=by rintro rfl; rw [h] at ha; cases ha
 rw [rF this]; exact l _ _ ha
theorem w9{α:Type} [DecidableEq α] [Enc α]{G:Gp}{p:Nat}{xs:List α}{Q:DK}(g:G p=some (.lst (xs.map enc)))(q:Q (enc xs) (rem G p)):Jh G (.ref p) Q:=jQ (RW G p) (M1 G p) g q
theorem wK{α:Type}{x:α}{r r':List α}(hr:r'.Perm (x :: r)):∀ (rs:List (List α)) (j:Nat),rs[j]?=some r->(rs.set j r').flatten.Perm (x :: rs.flatten)
 | [],j,h=>by cases h
 | s :: rs,0,h=>by
  cases h;rw [ag,bg,bg];exact hr.append_right _
 | s :: rs,j+1,h=>by
  rw [ai,bg,bg];exact((wK hr rs j h).append_left s).trans List.perm_middle
theorem CH{α:Type}{r:List α}:∀ {rs:List (List α)},r∈rs->r.length<=rs.flatten.length
 | s :: rs,h=>by
  rw [bg,aJ];rcases List.mem_cons.mp h with rfl | h
  ·lia
  ·have:=CH h; lia
theorem IV{R:Wx}{j k:Nat}{r:List (List T3)}{B:List T3}(h:R[j]?=some r):(R.set j (r.take k++B :: r.drop k)).flatten.flatten.Perm (B++R.flatten.flatten):=by
 have h1:(r.take k++B :: r.drop k).Perm (B :: r):=by
  refine List.perm_middle.trans ?_;rw [cT]
 exact(wK h1 R j h).flatten
noncomputable def IW(a b c h0 h1 h2:Int):List (List T3):=[[⟨a,0,h0⟩,⟨b,0,h1⟩],[⟨a,1,h0⟩,⟨c,0,h2⟩],[⟨b,1,h1⟩,⟨c,1,h2⟩]]
noncomputable def uZ:fN :=
 (bF (bw (ah 1) (Qt (gq (aH 4) (gq (aH 5) (gq (aH 6) qi)))))
 (bF (bw (aN Fw (dC (.int 1)) (aN mS (dC (.int 2)) (aN kl (ah 2) (dC (.int 2))))) (aH 7))
 (bF (bw (eG (aj (aN Fw (dC (.int 1)) (aN mS (dC (.int 2)) (aN kl (aN qN (ah 2) (dC (.int 2))) (dC (.int 2))))) (aj (aN Fw (dC (.int 1)) (aN mS (dC (.int 2)) (aN kl (aN qN (ah 2) (dC (.int 4))) (dC (.int 2))))) (aj (aN Fw (dC (.int 1)) (aN mS (dC (.int 2)) (aN kl (aN qN (ah 2) (dC (.int 8))) (dC (.int 2))))) aM)))) (aH 8))
 (bF (bw (eG (aj (eG (aj (fF (aj (ah 4) (aj (dC (.int 0)) (aj (aN ee (ah 8) (dC (.int 0))) aM)))) (aj (fF (aj (ah 5) (aj (dC (.int 0)) (aj (aN ee (ah 8) (dC (.int 1))) aM)))) aM))) (aj (eG (aj (fF (aj (ah 4) (aj (dC (.int 1)) (aj (aN ee (ah 8) (dC (.int 0))) aM)))) (aj (fF (aj (ah 6) (aj (dC (.int 0)) (aj (aN ee (ah 8) (dC (.int 2))) aM)))) aM))) aM))) (aH 9))
 (bF (dH (oV uA gh (ah 9) (aj (c7 (eG (aj (fF (aj (ah 5) (aj (dC (.int 1)) (aj (aN ee (ah 8) (dC (.int 1))) aM)))) (aj (fF (aj (ah 6) (aj (dC (.int 1)) (aj (aN ee (ah 8) (dC (.int 2))) aM)))) aM)))) aM)))
 (bF (bw (eG (aj (ah 7) (aj (aN mS (aN mS (ah 7) (aN ee (ah 8) (dC (.int 1)))) (aN ee (ah 8) (dC (.int 2)))) (aj (aN mS (aN mS (ah 7) (aN ee (ah 8) (dC (.int 0)))) (aN ee (ah 8) (dC (.int 2)))) aM)))) (aH 10))
 (bF (bw (eG aM) (aH 11))
 (bF (du (ic (ah 0)) (aH 12) (dH (oV uA gh (ah 11) (aj (c7 (fR 1 [] (ic (ah 12)) (aH 0) none (c7 (eG (aj (ah 0) aM))))) aM))))
 (bF (du (oz (dC (.int 3))) (aH 13) (bF (bw (aN ee (ah 9) (ah 13)) (aH 14))
 (bF (cS (di (aN (nU false) (aN ee (ah 10) (ah 13)) (GD DA (dC (.int 1))))) (bw (eG (aj (aN ee (ah 14) (dC (.int 1))) (aj (aN ee (ah 14) (dC (.int 0))) aM))) (aH 14)) bQ)
 (bF (cS (di (aN (nU false) (aN jl (ah 13) (dC (.int 1))) (aN kl (aN qN (ah 2) (dC (.int 16))) (dC (.int 6))))) (bw (eG (aj (aN ee (ah 14) (dC (.int 1))) (aj (aN ee (ah 14) (dC (.int 0))) aM))) (aH 14)) bQ)
 (bw (bo kP (aj (c7 (ah 11)) (aj (c7 (aN ee (ah 3) (ah 13))) (aj (c7 (ah 14)) aM)))) (aH 11))))))
 (bF (bw (eG aM) (aH 15))
 (bF (du (ic (ah 11)) (aH 12) (bF (bw (eG aM) (aH 16))
 (bF (du (ic (ah 12)) (aH 14) (bw (aN jl (ah 16) (ah 14)) (aH 16)))
 (dH (oV uA gh (ah 15) (aj (c7 (ah 16)) aM))))))
 (bM (c7 (ah 15))))))))))))))
noncomputable def jx:iw:=fun ds G Q _=>∃ (rows:Rows) (a b c v:Int) (d1 d3:D) (cs:List Int),ds=[enc rows,d1,.int v,d3]/\IsL G d1 [.int a,.int b,.int c]/\IsL G d3 (cs.map enc)/\(cs.length=3/\1<=rows.length/\rows.length<=3/\rows.flatten.length<=22/\0<=v/\v<=100) /\
 ∀ (jF:Rows) (h0 h1 h2:Int),(h0=1\/h0=-1)->(h1=1\/h1=-1)->(h2=1\/h2=-1)->jF.length=rows.length->jF.flatten.Perm ((IW a b c h0 h1 h2).flatten++rows.flatten)->Q (enc jF) G
theorem vZ(ds:List D)(G:Gp)(Q:DK)(h:jx ds G Q fun _ _=>False):uZ (fun _ _=>False) (ends Q) (aZ 17 ds) G:=by
 obtain⟨rows,a,b,c,v,d1,d3,cs,rfl,ZH,hd3,⟨VS,n1,n3,hf,v0,v1⟩,q⟩:=h;unfold uZ;refine bE (fun τ G'=>G=G'/\τ=[some (enc rows),some d1,some (.int v),some d3,some (.int a),some (.int b),some (.int c),none,none,none,none,none,none,none,none,none,none]) ?_ ?_
 ·intro N hN;simp only [bw,ah,aZ,↓aC,↓aT,↓aq,↓az,bb,↓aL,↓aO,↓ae,↓aa,Qt,gq,aH,qi,↓ai,↓ag];rw [lZ ZH];exact hN _ _ ⟨rfl,rfl⟩
 rintro _ _ ⟨rfl,rfl⟩;refine bE (fun τ G'=>G=G'/\∃ t:Int,(t=1\/t=-1)/\τ=[some (enc rows),some d1,some (.int v),some d3,some (.int a),some (.int b),some (.int c),some (.int t),none,none,none,none,none,none,none,none,none]) ?_ ?_
 ·intro N hN;simp only [bw,aN,dC,ah,↓ae,↓aa,↓dG,↓nE,↓pC,aH,↓ai,↓ag];exact⟨by decide,.inl ⟨by decide,by decide⟩,hN _ _ ⟨rfl,1 - 2 * (v % 2),by lia,rfl⟩⟩
 rintro _ _ ⟨rfl,t,ht,rfl⟩;refine bE (fun τ G'=>∃ (h0 h1 h2:Int) (p8:Nat),((h0=1\/h0=-1)/\(h1=1\/h1=-1)/\(h2=1\/h2=-1))/\e8 G G'/\G' p8=some (.lst ([h0,h1,h2].map enc))/\τ=[some (enc rows),some d1,some (.int v),some d3,some (.int a),some (.int b),some (.int c),some (.int t),some (.ref p8),none,none,none,none,none,none,none,none]) ?_ ?_
 ·intro N hN;simp only [bw,eG,aj,aN,dC,ah,↓ae,↓aa,↓jA,↓dG,↓nE,↓pC,aM,↓aq,↓az,aH,↓ai,↓ag];refine⟨by decide,by decide,by decide,.inl ⟨by decide,by decide⟩,by decide,by decide,by decide,.inl ⟨by decide,by decide⟩,by decide,by decide,by decide,.inl ⟨by decide,by decide⟩,by decide,fun p hp=>?_⟩;exact hN _ _ ⟨1 - 2 * (v / 2 % 2),1 - 2 * (v / 4 % 2),1 - 2 * (v / 8 % 2),p,by lia,.new hp,aI,rfl⟩
 rintro _ G1 ⟨h0,h1,h2,p8,hh,l1,g8,rfl⟩;refine bE (fun τ G'=>∃ (q0 q1 p9:Nat),(G q0=none/\G q1=none/\G p9=none/\q0≠q1)/\e8 G1 G'/\G' q0=some (.lst ([⟨a,0,h0⟩,⟨b,0,h1⟩].map (enc (α:=T3))))/\G' q1=some (.lst ([⟨a,1,h0⟩,⟨c,0,h2⟩].map (enc (α:=T3))))/\G' p9=some (.lst [.ref q0,.ref q1])/\τ=[some (enc rows),some d1,some (.int v),some d3,some (.int a),some (.int b),some (.int c),some (.int t),some (.ref p8),some (.ref p9),none,none,none,none,none,none,none]) ?_ ?_
 ·intro N hN;simp only [bw,eG,aj,fF,ah,↓ae,↓aa,dC,aN,aM,↓aq,↓az,aH,↓ai,↓ag];refine dE (.ref g8) A7 ⟨by decide,?_⟩;refine dE (.ref g8) x9 ⟨by decide,by decide,fun q0 hq0=>?_⟩;have a0:=e8.new (o:=.lst [enc (⟨a,0,h0⟩:T3),enc (⟨b,0,h1⟩:T3)]) hq0;refine dE (.ref (a0 _ _ g8)) A7 ⟨by decide,?_⟩;refine dE (.ref (a0 _ _ g8)) at2 ⟨by decide,by decide,fun q1 L7=>?_⟩;have a1:=e8.new (o:=.lst [enc (⟨a,1,h0⟩:T3),enc (⟨c,0,h2⟩:T3)]) L7;refine⟨by decide,fun p9 hp9=>?_⟩;have a2:=e8.new (o:=.lst [.ref q0,.ref q1]) hp9;have ne:q0≠q1:=by rintro rfl; have:=L7; rw [show de G1 q0 _ q0=_ from aI] at this; cases this
  exact hN _ _ ⟨q0,q1,p9,⟨l1.free hq0,l1.free (a0.free L7),l1.free (a0.free (a1.free hp9)),ne⟩,(a0.trans a1).trans a2,a2 _ _ (a1 _ _ aI),a2 _ _ aI,aI,rfl⟩
 rintro _ G2 ⟨q0,q1,p9,VM,l2,Ta,S9,g9,rfl⟩;obtain⟨f0,f1,f9,n01⟩:=VM;have n09:q0≠p9:=by rintro rfl; rw [Ta] at g9; cases g9
 have n19:q1≠p9:=by rintro rfl; rw [S9] at g9; cases g9
 have L2:=l1.trans l2;have V8:=l2 _ _ g8
 let B2:List T3:=[⟨b,1,h1⟩,⟨c,1,h2⟩]
 refine bE (fun τ G'=>e8 G G'/\G' p8=some (.lst ([h0,h1,h2].map enc))/\G' q0=some (.lst ([⟨a,0,h0⟩,⟨b,0,h1⟩].map (enc (α:=T3))))/\G' q1=some (.lst ([⟨a,1,h0⟩,⟨c,0,h2⟩].map (enc (α:=T3))))/\G' p9=some (.lst [.ref q0,.ref q1,enc B2])/\τ=[some (enc rows),some d1,some (.int v),some d3,some (.int a),some (.int b),some (.int c),some (.int t),some (.ref p8),some (.ref p9),none,none,none,none,none,none,none]) ?_ ?_
 ·intro N hN;simp only [dH,oV,ah,↓ae,↓aa,↓gP,aj,c7,eG,fF,dC,aN,aM,↓aq,↓az,↓eN];refine⟨by simp only [g9],?_⟩;refine dE (.ref V8) x9 ⟨by decide,?_⟩;refine dE (.ref V8) at2 ⟨by decide,by decide,fun q2 NQ=>?_⟩;refine jQ (xs:=B2) (.new NQ) NQ aI ?_;simp only [g9];have n89:p8≠p9:=by rintro rfl; rw [V8] at g9; cases g9
  exact⟨tw (by simp),hN _ _ ⟨L2.put f9,by rw [cU n89]; exact V8,by rw [cU n09]; exact Ta,by rw [cU n19]; exact S9,aI,rfl⟩⟩
 clear g9 Ta S9 V8 l2 g8 l1;rintro _ G3 ⟨l3,g8,Ta,S9,g9,rfl⟩;have mul:∀ {x y:Int} {G:Gp} {Q:DK},(x=1\/x=-1)->(y=1\/y=-1)->Q (.int (x * y)) G->mS (.int x) (.int y) G Q:=fun hx hy q=>by
  rcases hx with rfl | rfl <;> rcases hy with rfl | rfl <;> exact⟨.inl ⟨by decide,by decide⟩,q⟩
 have pm:∀ {x y:Int},(x=1\/x=-1)->(y=1\/y=-1)->(x * y=1\/x * y=-1):=fun hx hy=>by
  rcases hx with rfl | rfl <;> rcases hy with rfl | rfl <;> decide
 obtain⟨e0,e1,e2⟩:=hh;refine bE (fun τ G'=>∃ (ts:List Int) (K1:Nat),(ts.length=3/\G K1=none/\K1≠q0/\K1≠q1/\K1≠p9)/\e8 G3 G'/\G' K1=some (.lst (ts.map enc))/\τ=[some (enc rows),some d1,some (.int v),some d3,some (.int a),some (.int b),some (.int c),some (.int t),some (.ref p8),some (.ref p9),some (.ref K1),none,none,none,none,none,none]) ?_ ?_
 ·intro N hN;simp only [bw,eG,aj,ah,↓ae,↓aa,aN,dC,aM,↓aq,↓az,aH,↓ai,↓ag];refine dE (.ref g8) x9 (mul ht e1 ?_);refine dE (.ref g8) at2 (mul (pm ht e1) e2 ?_);refine dE (.ref g8) A7 (mul ht e0 ?_);refine dE (.ref g8) at2 (mul (pm ht e0) e2 ?_);refine⟨by decide,fun p hp=>?_⟩;refine hN _ _ ⟨[t,t * h1 * h2,t * h0 * h2],p,⟨rfl,l3.free hp,?_,?_,?_⟩,.new hp,aI,rfl⟩
  ·rintro rfl; rw [Ta] at hp; cases hp
  ·rintro rfl; rw [S9] at hp; cases hp
  ·rintro rfl; rw [g9] at hp; cases hp
 rintro _ G4 ⟨ts,K1,⟨hts,f10,YQ,YO,adR⟩,l4,g10,rfl⟩;have L4:=l3.trans l4
 let T:Option D->Option D->Option D->Option D->Option D->Option D->iH:=fun KA Kz Js Pw x15 x16=>[some (enc rows),some d1,some (.int v),some d3,some (.int a),some (.int b),some (.int c),some (.int t),some (.ref p8),some (.ref p9),some (.ref K1),KA,Kz,Js,Pw,x15,x16]
 refine bE (fun τ G'=>∃ HU,G4 HU=none/\e8 G4 G'/\G' HU=some (.lst [])/\τ=T (some (.ref HU)) none none none none none) ?_ ?_
 ·intro N hN;simp only [bw,eG,aM,↓az,aH,↓ai,↓ag];exact⟨by decide,fun p hp=>hN _ _ ⟨p,hp,.new hp,aI,rfl⟩⟩
 rintro _ G5 ⟨HU,Ub,l5,W4,rfl⟩
 let R0:Rows->Wx:=fun rs=>rs.map (ll fun p=>[p])
 refine bE (fun τ G'=>e8 G4 G'/\G' HU=some (.lst ((R0 rows).map enc))/\∃ Kz,τ=T (some (.ref HU)) Kz none none none none) ?_ ?_
 ·intro N hN;simp only [du,↓cG,ah,↓aa,ends,T];refine dP ?_;refine eg (xs:=rows) (fun pre τ G'=>e8 G4 G'/\G' HU=some (.lst ((R0 pre).map enc))/\∃ Kz,τ=T (some (.ref HU)) Kz none none none none) ⟨l5,W4,_,rfl⟩ (fun _ _ _ _=>trivial) ?_ (fun τ G' h=>hN τ G' h);rintro pre r post τ G6 N2 e ⟨l6,g6,Kz,rfl⟩ qV;have mZ:pre.length < rows.length:=by have:=congrArg dD e; simp at this; lia
  have Qj:r.length<=22:=dI (nW.jY (by rw [e]; simp:r∈rows)) hf;simp only [aH,dH,oV,ah,↓ai,↓ag,↓ae,↓aa,↓gP,aj,c7,fR,↓cG,aM,↓eN,T];refine⟨by simp only [g6],dP ⟨Hl (by rw [av]; lia),?_⟩⟩;refine jm (xs:=r) (fun pr acc τ G7=>G6=G7/\acc=(pr.map fun p:T3=>[p]).map enc/\∃ b,τ=[b]) ⟨rfl,rfl,_,rfl⟩ (fun _ _ _ _ _=>trivial) ?_ ?_
  ·rintro pr x po acc τ G7 N3 e3 ⟨rfl,rfl,y,rfl⟩ yv;simp only [aH,c7,eG,aj,ah,↓ag,↓aa,aM,↓aq,↓az];refine⟨by decide,fun p' D3=>?_⟩;refine jQ (xs:=[x]) (.new D3) D3 aI ?_;exact yv _ _ _ ⟨rfl,by rw [aW,aW]; rfl,_,rfl⟩
  ·rintro acc τ G7 ⟨rfl,rfl,y,rfl⟩ p2 rf;refine jQ (xs:=r.map fun p:T3=>[p]) (.new rf) rf aI ?_;simp only [g6];refine⟨tw (by simp only [R0,av]; lia),qV _ _ ⟨l6.put Ub,?_,_,rfl⟩⟩;rw [aI];simp only [R0];rw [aW,aW]; rfl
 clear W4 l5;rintro _ G5 ⟨l5,W4,Kz,rfl⟩;have L5:=L4.trans l5;have nn:∀ {p:Nat} {o:GO},G4 p=some o->HU≠p:=fun h e=>by rw [e,h] at Ub; cases Ub
 have m9:=nn (l4 _ _ g9);have m10:=nn g10;have m0:=nn (l4 _ _ Ta);have m1:=nn (l4 _ _ S9)
 let B:Nat->List T3:=fun k=>((IW a b c h0 h1 h2)[k]?).getD []
 refine bE (fun τ G'=>∃ (R:Wx) (Kz Js Pw:Option D),(R.length=rows.length/\R.flatten.flatten.Perm ((IW a b c h0 h1 h2).flatten++rows.flatten))/\e8 G G'/\τ=T (some (enc R)) Kz Js Pw none none) ?_ ?_
 ·intro N hN;simp only [du,↓gY,dC,↓fP,ends,T];refine⟨by decide,by decide,?_⟩;refine mB (fun pre τ G'=>∃ (R:Wx) (KA:D) (Js Pw:Option D),(R.length=rows.length/\R.flatten.flatten.Perm (((IW a b c h0 h1 h2).take pre.length).flatten++rows.flatten)/\R.flatten.length<=22+pre.length)/\((KA=.ref HU/\G' HU=some (.lst (R.map enc)))\/KA=enc R)/\(pre≠[]->KA=enc R)/\(e8 G G'/\G' K1=some (.lst (ts.map enc))/\G' p9=some (.lst [.ref q0,.ref q1,enc B2])/\(pre.length=0->G' q0=some (.lst ([⟨a,0,h0⟩,⟨b,0,h1⟩].map (enc (α:=T3)))))/\(pre.length<=1->G' q1=some (.lst ([⟨a,1,h0⟩,⟨c,0,h2⟩].map (enc (α:=T3))))))/\τ=T (some KA) Kz Js Pw none none) ⟨R0 rows,.ref HU,none,none,⟨by simp [R0],?_,?_⟩,.inl ⟨rfl,W4⟩,fun h=>absurd rfl h,⟨L5,l5 _ _ g10,l5 _ _ (l4 _ _ g9),fun _=>l5 _ _ (l4 _ _ Ta),fun _=>l5 _ _ (l4 _ _ S9)⟩,rfl⟩ (fun _ _ _ _=>trivial) ?_ ?_
  ·have e1:∀ r:List T3,(r.map fun p=>[p]).flatten=r:=fun r=>by
    induction r with
    | nil=>rfl
    | cons x r ih=>rw [aC,bg,ih]; rfl
   have e2:∀ rs:Rows,(R0 rs).flatten.flatten=rs.flatten:=fun rs=>by
    induction rs with
    | nil=>rfl
    | cons r rs ih =>
     have:R0 (r :: rs)=(r.map fun p=>[p]) :: R0 rs:=rfl;rw [this,bg,cK,e1,ih,bg]
   rw [e2]; exact .refl _
  ·have e3:∀ rs:Rows,(R0 rs).flatten.length=rs.flatten.length:=fun rs=>by
    induction rs with
    | nil=>rfl
    | cons r rs ih =>
     have:R0 (r :: rs)=(r.map fun p=>[p]) :: R0 rs:=rfl;rw [this,bg,aJ,av,ih,bg,aJ]
   rw [e3]; exact hf
  ·rintro pre x post τ G6 N1 e ⟨R,KA,Js,Pw,⟨hR,hp,hRl⟩,ZY,V5,⟨l6,Qu,W2,ZZ,Qr⟩,rfl⟩ J9;obtain⟨rfl,hk⟩:=lF e;have hk:pre.length < 3:=hk;have hb:∃ x Bk,nT [.ref q0,.ref q1,enc B2] ((pre.length:Nat):Int)=some x/\(IW a b c h0 h1 h2)[pre.length]?=some Bk/\Bk.length=2/\IsL G6 x (Bk.map enc)/\∀ p,x=.ref p->G p=none/\p≠p9/\p≠K1/\p≠HU/\(pre.length=0->p≠q1):=by
    have hc:pre.length=0\/pre.length=1\/pre.length=2:=by lia
    rcases hc with h | h | h
    ·refine⟨.ref q0,_,by rw [h]; exact A7,by rw [h]; rfl,rfl,.ref (ZZ h),fun p e=>?_⟩;injection e with e; subst e
     exact⟨f0,n09,YQ.symm,m0.symm,fun _=>n01⟩
    ·refine⟨.ref q1,_,by rw [h]; exact x9,by rw [h]; rfl,rfl,.ref (Qr (by lia)),fun p e=>?_⟩;injection e with e; subst e
     exact⟨f1,n19,YO.symm,m1.symm,fun z=>by lia⟩
    ·exact⟨enc B2,B2,by rw [h]; exact at2,by rw [h]; rfl,rfl,IsL.enc B2,fun p e=>by cases e⟩
   obtain⟨x,Bk,ax,ebk,lbk,isx,own⟩:=hb
   let Ok:Gp->D->Prop:=fun G' y=>e8 G6 G'/\∃ B':List T3,B'.length=2/\IsL G' y (B'.map enc)/\B'.Perm Bk/\∀ p,y=.ref p->G p=none/\p≠p9/\p≠K1/\(KA=.ref HU->p≠HU)/\(pre.length=0->p≠q1)
   have WJ:Ok G6 x:=⟨.refl _,Bk,lbk,isx,.refl _,fun p e=>by obtain⟨a1,a2,a3,a4,a5⟩:=own p e; exact⟨a1,a2,a3,fun _=>a4,a5⟩⟩;have swp:∀ {G':Gp} {y:D} {F:D->Gp->Prop},Ok G' y->(∀ y' Xl,Ok Xl y'->F y' Xl)->ee y (.int 1) G' fun u G1=>ee y (.int 0) G1 fun w G2=>0+1+1<=SZ/\∀ p,G2 p=none->F (.ref p) (de G2 p (.lst [u,w])):=by
    rintro G' y F ⟨l,B',hl,is,Yd,ow⟩ hF
    match B',hl with
    | [u,w],_ =>
     refine dE is x9 ?_;refine dE is A7 ⟨by decide,fun p hp=>hF _ _ ⟨l.trans (.new hp),[w,u],rfl,.ref aI,(List.Perm.swap _ _ _).trans Yd,fun p' e=>?_⟩⟩;injection e with e
     subst e;have L:=l6.trans l;refine⟨L.free hp,fun z=>?_,fun z=>?_,fun z z'=>?_,fun z z'=>?_⟩
     ·subst z; rw [l _ _ W2] at hp; cases hp
     ·subst z; rw [l _ _ Qu] at hp; cases hp
     ·rcases ZY with ⟨_,g⟩ | h
      ·subst z'; rw [l _ _ g] at hp; cases hp
      ·rw [z] at h; cases h
     ·subst z'; rw [l _ _ (Qr (by lia))] at hp; cases hp
   refine bE (fun τ G'=>G6=G'/\τ=T (some KA) Kz (some (.int (pre.length:Nat))) (some x) none none) ?_ ?_
   ·intro N hN;simp only [bw,aN,ah,↓ai,↓ag,↓ae,↓aa,aH,T];exact dE (.ref W2) ax (hN _ _ ⟨rfl,rfl⟩)
   rintro _ _ ⟨rfl,rfl⟩;have at':∃ u,nT (ts.map enc) ((pre.length:Nat):Int)=some (enc u):=⟨ts[pre.length]'(by lia),by
    rw [fS _ (by lia) (by rw [av]; lia)];simp only [dZ,cJ]⟩
   obtain⟨u,au⟩:=at';have ac:∃ w,nT (cs.map enc) ((pre.length:Nat):Int)=some (enc w):=⟨cs[pre.length]'(by lia),by
    rw [fS _ (by lia) (by rw [av]; lia)];simp only [dZ,cJ]⟩
   obtain⟨w,aw⟩:=ac;refine bE (fun τ G'=>∃ y,Ok G' y/\τ=T (some KA) Kz (some (.int (pre.length:Nat))) (some y) none none) ?_ ?_
   ·intro N hN;simp only [cS,↓ck,aN,ah,↓ae,↓aa,GD,dC,↓kR,bw,eG,aj,aM,↓aq,↓az,aH,↓ai,↓ag,bQ,T];refine dE (.ref Qu) au ?_;refine eW (x:=u) (y:=(-1:Int)) (by decide) ?_;simp only [↓aP,↓ao,↓if_false];split
    ·exact swp WJ fun y' Xl ok=>hN _ _ ⟨y',ok,rfl⟩
    ·exact hN _ _ ⟨x,WJ,rfl⟩
   rintro _ G7 ⟨y,Vj,rfl⟩;refine bE (fun τ G'=>∃ y,Ok G' y/\τ=T (some KA) Kz (some (.int (pre.length:Nat))) (some y) none none) ?_ ?_
   ·intro N hN;simp only [cS,↓ck,aN,ah,↓ae,↓aa,dC,↓fi,↓jA,↓dG,bw,eG,aj,aM,↓aq,↓az,aH,↓ai,↓ag,bQ,T];refine⟨by decide,by decide,by decide,?_⟩;refine eW (x:=((pre.length:Nat):Int)+1) (y:=v / 16 % 6) (by decide) ?_;simp only [↓aP,↓ao,↓if_false];split
    ·exact swp Vj fun y' Xl ok=>hN _ _ ⟨y',ok,rfl⟩
    ·exact hN _ _ ⟨y,Vj,rfl⟩
   clear Vj;rintro _ G7 ⟨y,⟨l7,B',hl,is,Yd,ow⟩,rfl⟩
   let Good:Gp->Prop:=fun H=>e8 G H/\H K1=some (.lst (ts.map enc))/\H p9=some (.lst [.ref q0,.ref q1,enc B2])/\(pre.length=0->H q1=some (.lst ([⟨a,1,h0⟩,⟨c,0,h2⟩].map (enc (α:=T3)))))/\IsL H y (B'.map enc)
   have Z2:∀ {F:DK},(∀ H,Good H->F (enc R) H)->Jh G7 KA F:=by
    intro F hF;rcases ZY with ⟨e,g⟩ | e
    ·subst e;refine w9 (l7 _ _ g) (hF _ ⟨Nv (l6.trans l7) (L4.free Ub),by rw [rF m10.symm]; exact l7 _ _ Qu,by rw [rF m9.symm]; exact l7 _ _ W2,fun z=>by rw [rF m1.symm]; exact l7 _ _ (Qr (by lia)),?_⟩);rcases is with h | ⟨p',e',h⟩
     ·exact .inl h
     ·subst e';exact .ref (by rw [rF ((ow _ rfl).2.2.2.1 rfl)]; exact h)
    ·rw [e];exact e9 (hF _ ⟨l6.trans l7,l7 _ _ Qu,l7 _ _ W2,fun z=>l7 _ _ (Qr (by lia)),is⟩)
   have Z1:∀ {H:Gp} {F:DK},Good H->(∀ H',e8 G H'->H' K1=some (.lst (ts.map enc))->H' p9=some (.lst [.ref q0,.ref q1,enc B2])->(pre.length=0->H' q1=some (.lst ([⟨a,1,h0⟩,⟨c,0,h2⟩].map (enc (α:=T3)))))->F (enc B') H')->Jh H y F:=by
    rintro H F ⟨b1,b2,b3,b4,b5⟩ hF;rcases b5 with h | ⟨p',e',h⟩
    ·have e':y=enc B':=h;rw [e'];exact e9 (hF _ b1 b2 b3 b4)
    ·subst e';obtain⟨o1,o2,o3,_,o5⟩:=ow _ rfl;exact w9 h (hF _ (Nv b1 o1) (by rw [rF (dR o3)]; exact b2) (by rw [rF (dR o2)]; exact b3) fun z=>by rw [rF (dR (o5 z))]; exact b4 z)
   simp only [bw,bo,aj,c7,ah,↓ae,↓aa,aN,aM,aH,↓ai,↓ag,T];refine Z2 fun H gd=>?_;refine dE (hd3.mono gd.1) aw (e9 ?_);refine Z1 gd fun H' c1 c2 c3 c4=>?_;refine⟨R,w,B',rfl,⟨by lia,by lia,fun r hr=>by have:=CH hr; lia⟩,fun j k r er WV=>?_⟩;refine J9 _ _ ⟨_,_,_,_,⟨by rw [j3]; exact hR,?_,?_⟩,.inr rfl,fun _=>rfl,⟨c1,c2,c3,fun z=>?_,fun z=>?_⟩,rfl⟩
   ·refine(IV er).trans ?_;rw [aJ,da,List.take_succ,ebk,cK];show (B'++R.flatten.flatten).Perm (((IW a b c h0 h1 h2).take pre.length).flatten++[Bk].flatten++rows.flatten);rw [jE];refine(Yd.append hp).trans ?_;rw [<-cw];exact(List.perm_append_comm).append_right _
   ·have h1:(r.take k++B' :: r.drop k).Perm (B' :: r):=by
     refine List.perm_middle.trans ?_;rw [cT]
    rw [(wK h1 R j er).length_eq,aq,aJ,da];lia
   ·rw [aJ,da] at z; lia
   ·rw [aJ,da] at z; exact c4 (by lia)
  ·rintro τ G6 ⟨R,KA,Js,Pw,⟨hR,hp,_⟩,ZY,V5,⟨l6,_⟩,rfl⟩;have hl:(ek 0 (Int.toNat 3)).length=3:=rfl;rw [V5 (fun z=>by rw [z] at hl; cases hl)];refine hN _ _ ⟨R,_,_,_,⟨hR,?_⟩,l6,rfl⟩;rw [hl] at hp; exact hp
 rintro _ G6 ⟨R,XJ,Js,Pw,⟨hR,hp⟩,l6,rfl⟩;have hlen:R.flatten.flatten.length<=28:=by
  have e:((IW a b c h0 h1 h2).flatten).length=6:=rfl;rw [hp.length_eq,aJ,e]; lia
 have Zj:∀ r∈R,r.flatten.length<=28:=fun r hr=>by
  have h1:=nW.jY (List.mem_map.mpr ⟨r,hr,rfl⟩:r.flatten∈R.map Df);rw [<-Pp] at h1;lia
 refine bE (fun τ G'=>∃ Nk,G6 Nk=none/\e8 G6 G'/\G' Nk=some (.lst [])/\τ=T (some (enc R)) XJ Js Pw (some (.ref Nk)) none) ?_ ?_
 ·intro N hN;simp only [bw,eG,aM,↓az,aH,↓ai,↓ag,T];exact⟨by decide,fun p hp=>hN _ _ ⟨p,hp,.new hp,aI,rfl⟩⟩
 rintro _ G7 ⟨Nk,W7,l7,g15,rfl⟩;refine bE (fun τ G'=>e8 G6 G'/\G' Nk=some (.lst ((R.map Df).map enc))/\∃ UG O5 UE,τ=T (some (enc R)) UG Js O5 (some (.ref Nk)) UE) ?_ ?_
 ·intro N hN;simp only [du,↓cG,ah,↓ae,↓aa,ends,T];refine dP ?_;refine eg (xs:=R) (fun pre τ G'=>e8 G6 G'/\G' Nk=some (.lst ((pre.map Df).map enc))/\∃ UG O5 UE,τ=T (some (enc R)) UG Js O5 (some (.ref Nk)) UE) ⟨l7,g15,_,_,_,rfl⟩ (fun _ _ _ _=>trivial) ?_ (fun τ G' h=>hN τ G' h);rintro pre r post τ G8 N2 e ⟨l8,W3,UG,O5,UE,rfl⟩ qV;have mZ:pre.length < R.length:=by have:=congrArg dD e; simp at this; lia
  have Qj:=Zj r (by rw [e]; simp);refine bE (fun τ G'=>∃ K0,G8 K0=none/\e8 G8 G'/\G' K0=some (.lst [])/\τ=T (some (enc R)) (some (enc r)) Js O5 (some (.ref Nk)) (some (.ref K0))) ?_ ?_
  ·intro N hN;simp only [bw,eG,aM,↓az,aH,↓ai,↓ag,T];exact⟨by decide,fun p hp=>hN _ _ ⟨p,hp,.new hp,aI,rfl⟩⟩
  rintro _ G9 ⟨K0,Z5,l9,g16,rfl⟩;refine bE (fun τ G'=>∃ K0,G8 K0=none/\e8 G8 G'/\G' K0=some (.lst (r.flatten.map enc))/\∃ O5,τ=T (some (enc R)) (some (enc r)) Js O5 (some (.ref Nk)) (some (.ref K0))) ?_ ?_
  ·intro N hN;simp only [du,↓cG,ah,↓ae,↓aa,T];refine dP ?_;refine eg (xs:=r) (fun pp τ G'=>∃ K0,G8 K0=none/\e8 G8 G'/\G' K0=some (.lst (pp.flatten.map enc))/\∃ O5,τ=T (some (enc R)) (some (enc r)) Js O5 (some (.ref Nk)) (some (.ref K0))) ⟨K0,Z5,l9,g16,_,rfl⟩ (fun _ _ _ _=>trivial) ?_ (fun τ G' h=>hN τ G' h);rintro pp y po τ G10 N3 e3 ⟨Ye,Wa,Vu,Te,XI,rfl⟩ yv;have hz:pp.flatten.length+y.length<=28:=by
    have:r.flatten=pp.flatten++(y++po.flatten):=by rw [e3,cK,bg]
    rw [this,aJ,aJ] at Qj;lia
   simp only [aH,bw,aN,ah,↓ai,↓ag,↓ae,↓aa,↓pD,T];refine DH (.ref Te) (IsL.enc y) (Hl (by rw [av,av]; lia)) fun p hp=>?_;refine yv _ _ ⟨p,Vu.free hp,Vu.trans (.new hp),?_,_,rfl⟩;rw [aI,<-aW,cK,jE]
  rintro _ G10 ⟨Ye,Wa,Vu,Te,XI,rfl⟩;simp only [dH,oV,ah,↓ae,↓aa,↓gP,aj,c7,aM,↓eN,T];refine⟨by simp only [Vu _ _ W3],?_⟩;refine jQ (xs:=r.flatten) Vu Wa Te ?_;simp only [W3];refine⟨tw (by simp only [av]; lia),qV _ _ ⟨l8.put W7,?_,_,_,_,rfl⟩⟩;rw [aI,aW,aW]; rfl
 rintro _ G8 ⟨l8,W3,UG,O5,UE,rfl⟩;simp only [bM,c7,ah,↓ae,↓aa,ends,T];refine jQ (xs:=R.map Df) (l6.trans l8) (l6.free W7) W3 ?_;refine q _ h0 h1 h2 e0 e1 e2 (by rw [av]; exact hR) ?_;rw [<-Pp]; exact hp
end Jd
end K2
end
section
namespace K2
open PySem (Str)
open Enc (enc)
namespace Pf
open K2.P
open K2.Mo hiding cg ez eA cM eV eY
open K2.tf (dm)
open K2.nW (HR)
open K2.ES (qu)
open K2.Md (oP eB)
open K2.Jd (gR fD ji w7 zk)
open K2.QO (fE iK kA TC Ui zt DD)
noncomputable def ly:fN :=
 (bF (LF 3 (bw (fR 1 [] (ic (ah 1)) (aH 0) none (iZ pP (aj (ah 0) aM))) (aH 3)))
 (bF (bw (bo fE (aj (ah 1) aM)) (aH 4))
 (bF (bw (bo ji (aj (ah 1) (aj (ah 2) aM))) (aH 5))
 (bF (du (oz (dC (.int 2))) (aH 6) (bF (bw (jS [("Slide",h8)] "done" (ah 0) (aj (c7 (ah 3)) aM)) (aH 7))
 (bF (cS (pU (gv (di (bo iK (aj (ah 7) (aj (ah 5) aM))))) (di (aN (nU true) (ah 3) (ah 1)))) (bM (c7 (dC (.bl false)))) bQ)
 (du (ic (ah 7)) (aH 8) (dH (oV uA gh (ah 8) (aj (fF (aj (dC (.int 0)) (aj (dC (.int 0)) (aj (dC (.int 0)) aM)))) aM)))))))
 (bF (bw (jS [("Slide",jV)] "back" (ah 0) (aj (ah 3) aM)) (aH 9))
 (bF (bw (jS [("Slide",gm)] "told" (ah 9) aM) (aH 10))
 (bF (cS (pU (gv (di (bo kA (aj (ah 10) (aj (dC (.str "slide")) (aj (eG (aj (dC (.int 0)) (aj (dC (.int 0)) (aj (dC (.int 0)) (aj (dC (.int 0)) aM))))) aM)))))) (di (aN (Cw true) (aN ee (ah 10) (dC (.int 4))) (fF (aj (dC (.int 1)) (aj (GD DA (dC (.int 1))) aM)))))) (bM (c7 (dC (.bl false)))) bQ)
 (bF (du (CL (dC (.int 1)) (dC (.int 4))) (aH 11) (cS (di (aN (Cw true) (aN ee (ah 10) (ah 11)) (bo eB (aj (ah 1) aM)))) (bM (c7 (dC (.bl false)))) bQ))
 (bF (cS (pU (gv (di (bo fD (aj (bo gR (aj (ah 5) aM)) (aj (bo eB (aj (ah 5) aM)) (aj (ah 10) aM)))))) (di (aN (nU true) (bo ji (aj (ah 5) (aj (ah 10) aM))) (ah 4)))) (bM (c7 (dC (.bl false)))) bQ)
 (bM (c7 (GG (bo iK (aj (jS [("Slide",h8)] "done" (ah 9) (aj (c7 (fR 1 [] (ic (ah 5)) (aH 0) none (iZ pP (aj (ah 0) aM)))) aM)) (aj (ah 4) aM))) (aN (nU false) (ah 3) (ah 1))))))))))))))
noncomputable def gF:iw:=fun ds G Q _=>∃ (p:Nat) (rows:Rows) (a b c t:Int),ds=[.ref p,enc rows,td (.sl a b c t)]/\OU G p (.sl a b c t)/\GW rows a b c t/\Q (.bl true) G
theorem qZ(ds:List D)(G:Gp)(Q:DK)(h:gF ds G Q fun _ _=>False):ly (fun _ _=>False) (ends Q) (aZ 12 ds) G:=by
 obtain⟨p,rows,a,b,c,t,rfl,g,s,q⟩:=h;have d:=s.n.d;obtain⟨SY,T6,hl3⟩:=xj d;have db:=s.dr;obtain⟨T9,VX,hb3⟩:=xj db;have hsl:(rows.map dm).length<=500/\∀ r∈rows.map dm,r.length<=500:=⟨by rw [av]; exact SY,fun r hr=>by
  obtain⟨r',SK,rfl⟩:=List.mem_map.mp hr;rw [zt]; exact T6 r' SK⟩
 let S:Option D->Option D->Option D->Option D->Option D->Option D->iH:=fun z1 z2 z3 z4 z5 z6=>[some (.ref p),some (enc rows),some (td (.sl a b c t)),some (enc rows),some (enc (rows.map dm)),some (enc (nZ rows a b c t)),z1,z2,z3,z4,z5,z6]
 unfold ly;refine bE (fun τ G'=>G=G'/\τ=[some (.ref p),some (enc rows),some (td (.sl a b c t)),some (enc rows),none,none,none,none,none,none,none,none]) ?_ ?_
 ·intro N hN;rw [vN];simp only [bw,fR,↓cG,ah,aZ,↓aC,↓aT,↓aq,↓az,bb,↓aL,↓aO,↓ae,↓aa,aH,↓ai,↓ag];exact qu (by lia) fun G' p' as hr=>hr.fz (hN _ _ ⟨rfl,rfl⟩)
 rintro _ _ ⟨rfl,rfl⟩;refine bE (fun τ G'=>G=G'/\τ=[some (.ref p),some (enc rows),some (td (.sl a b c t)),some (enc rows),some (enc (rows.map dm)),none,none,none,none,none,none,none]) ?_ ?_
 ·intro N hN;simp only [bw,bo,aj,ah,↓ae,↓aa,aM,aH,↓ai,↓ag];exact⟨rows,rfl,⟨SY,T6⟩,hN _ _ ⟨rfl,rfl⟩⟩
 rintro _ _ ⟨rfl,rfl⟩;refine bE (fun τ G'=>G=G'/\τ=S none none none none none none) ?_ ?_
 ·intro N hN;simp only [bw,bo,aj,ah,↓ae,↓aa,aM,aH,↓ai,↓ag];exact⟨rows,a,b,c,t,rfl,s,hN _ _ ⟨rfl,rfl⟩⟩
 rintro _ _ ⟨rfl,rfl⟩;refine bE (fun τ G'=>e8 G G'/\∃ z1 z2 z3,τ=S z1 z2 z3 none none none) ?_ ?_
 ·intro N hN;simp only [du,↓gY,dC,↓fP,ends,S];refine⟨by decide,by decide,?_⟩;refine mB (fun pre τ G'=>e8 G G'/\∃ z1 z2 z3,τ=S z1 z2 z3 none none none) ⟨.refl _,_,_,_,rfl⟩ (fun _ _ _ _=>trivial) ?_ (fun τ G' h=>hN τ G' h);rintro pre x post τ G1 N1 e ⟨l1,z1,z2,z3,rfl⟩ J9;simp only [↓aH,S,ag,ai];refine bE (fun τ G'=>∃ q as,HR G1 G' q as (nZ rows a b c t)/\τ=S (some x) (some (.ref q)) z3 none none none) ?_ ?_
  ·intro N hN;simp only [bw,jS,ah,↓aa,aj,c7,↓ae,aM,aH,↓ai,↓ag];refine⟨p,_,_,h8,rfl,l1 _ _ g,List.mem_singleton.mpr rfl,rfl,e9 ?_⟩;exact⟨p,a,b,c,t,rows,rfl,l1 _ _ g,s,fun q' as G' hr=>hN _ _ ⟨q',as,hr,rfl⟩⟩
  rintro _ G2 ⟨q',as,hr,rfl⟩;refine bE (fun τ G'=>G2=G'/\τ=S (some x) (some (.ref q')) z3 none none none) ?_ ?_
  ·intro N hN;simp only [cS,pU,gv,↓ck,bo,aj,ah,↓ae,↓aa,aM,bM,c7,dC,bQ,↓if_true,aN,S];refine⟨q',as,_,G1,rfl,hr,⟨T9,VX⟩,?_⟩;simp only [↓aP,↓aS,↓ao,↓if_false];refine eW (x:=rows) (y:=rows) (by decide) ?_;simp only [↓aP,decide_true,↓aS,↓if_true,↓ao,↓if_false];exact hN _ _ ⟨rfl,rfl⟩
  rintro _ _ ⟨rfl,rfl⟩;simp only [du,↓cG,ah,↓ae,↓aa,S];rw [sS hr.gp];refine UT hr ⟨T9,VX⟩ (wG rfl) fun lp G' Y6 l=>J9 _ _ ⟨l1.trans l,?_⟩;rcases Y6 with rfl | ⟨y,rfl⟩
  ·exact⟨_,_,_,rfl⟩
  ·exact⟨_,_,_,rfl⟩
 rintro _ G1 ⟨l1,z1,z2,z3,rfl⟩;refine bE (fun τ G'=>∃ q9,e8 G G'/\OU G' q9 (.sl a b c (-t))/\τ=S z1 z2 z3 (some (.ref q9)) none none) ?_ ?_
 ·intro N hN;simp only [bw,jS,ah,↓aa,aj,↓ae,aM,aH,↓ai,↓ag,S];exact⟨p,_,_,jV,rfl,l1 _ _ g,List.mem_singleton.mpr rfl,rfl,⟨p,a,b,c,t,rows,rfl,l1 _ _ g,s,fun q' G' l _ hq=>hN _ _ ⟨q',l1.trans l,hq,rfl⟩⟩⟩
 clear l1;rintro _ G1 ⟨q9,l1,g9,rfl⟩;refine bE (fun τ G'=>G1=G'/\τ=S z1 z2 z3 (some (.ref q9)) (some (td (.sl a b c (-t)))) none) ?_ ?_
 ·intro N hN;simp only [bw,jS,ah,↓ae,↓aa,aM,aH,↓ai,↓ag,S];exact⟨q9,_,_,gm,rfl,g9,List.mem_singleton.mpr rfl,rfl,⟨q9,a,b,c,-t,rfl,g9,hN _ _ ⟨rfl,rfl⟩⟩⟩
 rintro _ _ ⟨rfl,rfl⟩;refine bE (fun τ G'=>e8 G1 G'/\τ=S z1 z2 z3 (some (.ref q9)) (some (td (.sl a b c (-t)))) none) ?_ ?_
 ·intro N hN;simp only [cS,pU,gv,↓ck,bo,aj,ah,↓ae,↓aa,dC,eG,aM,↓aq,↓az,bM,c7,ends,bQ,↓if_true,aN,fF,GD,↓kR,S];refine⟨by decide,fun pl mZ=>?_⟩;refine⟨"slide",ar (.sl a b c (-t)),_,[0,0,0,0],rfl,.ref aI,⟨⟨rfl,?_⟩,by simp [ar],by decide +kernel⟩,?_⟩
  ·intro i x k hx hk
   match i,hx,hk with
   | 0,hx,hk=>cases hx; cases hk; exact .inr ⟨by decide,_,rfl⟩
   | 1,hx,hk=>cases hx; cases hk; exact .inr ⟨by decide,_,rfl⟩
   | 2,hx,hk=>cases hx; cases hk; exact .inr ⟨by decide,_,rfl⟩
   | 3,hx,hk=>cases hx; cases hk; exact .inr ⟨by decide,_,rfl⟩
   | i+4,hx,hk=>simp [ar] at hx
  ·rw [zk a b c (-t)];simp only [↓aP,↓aS,↓ao,↓dq,↓Ui,↓if_false];refine⟨by decide,?_⟩;refine DD (x:=-t) (xs:=[1,-1]) (by decide) ?_;have hh':-t∈([1,-1]:List Int):=by have:=s.n.ht; simp; lia
   simp only [↓aP,hh',decide_true,↓aS,↓if_true,↓ao,↓if_false];exact hN _ _ ⟨.new mZ,rfl⟩
 rintro _ G2 ⟨l2,rfl⟩;refine bE (fun τ G'=>G2=G'/\∃ z6,τ=S z1 z2 z3 (some (.ref q9)) (some (td (.sl a b c (-t)))) z6) ?_ ?_
 ·intro N hN;simp only [du,CL,dC,ends,S];refine⟨by decide,?_⟩;have he:∀ n,tx rows n->n∈(oP rows.flatten).map (·.1):=fun n hn=>by
   have:=w7 d hn.1;unfold fY at this;obtain⟨x,hx,_⟩:=Option.map_eq_some_iff.mp this;exact List.mem_map.mpr ⟨x,iJ hx,by simpa using pS hx⟩
  have sT:oP rows.flatten≠[]:=fun z=>by
   have:=he a s.n.na;rw [z] at this;cases this
  refine mB (fun pre τ G'=>G2=G'/\∃ z6,τ=S z1 z2 z3 (some (.ref q9)) (some (td (.sl a b c (-t)))) z6) ⟨rfl,_,rfl⟩ (fun _ _ _ _=>trivial) ?_ (fun τ G' h=>hN τ G' h);rintro pre x post τ G' N1 e ⟨rfl,z6,rfl⟩ J9;have hx:∃ n,tx rows n/\∃ k,x=.int k/\nT [D.str "slide",.int a,.int b,.int c,.int (-t)] k=some (D.int n):=by
   have:x∈[D.int 1,D.int 2,D.int 3]:=by
    have:x∈ek 1 3:=by
     have e':ek 1 3=pre++x :: post:=e;rw [e']; simp
    exact this
   simp only [cf,bI,or_false] at this;rcases this with rfl | rfl | rfl
   ·exact⟨a,s.n.na,1,rfl,x9⟩
   ·exact⟨b,s.n.nb,2,rfl,at2⟩
   ·exact⟨c,s.n.nc,3,rfl,TC⟩
  obtain⟨n,hn,k,rfl,ak⟩:=hx;rw [zk a b c (-t)];simp only [aH,cS,↓ck,aN,ah,↓ai,↓ag,↓ae,↓aa,↓dq,bo,aj,aM,bM,c7,dC,bQ,S];rw [ak];refine⟨rows,rfl,by lia,?_⟩;refine K3.PU (k:=n) sT ?_;have hm:=he n hn;simp only [↓aP,hm,decide_true,↓aS,↓if_true,↓ao,↓if_false];exact J9 _ _ ⟨rfl,_,rfl⟩
 rintro _ _ ⟨rfl,z6,rfl⟩;refine bE (fun τ G'=>G2=G'/\τ=S z1 z2 z3 (some (.ref q9)) (some (td (.sl a b c (-t)))) z6) ?_ ?_
 ·intro N hN;simp only [cS,pU,gv,↓ck,bo,aj,ah,↓ae,↓aa,aM,bM,c7,dC,ends,bQ,↓if_true,aN,S];refine⟨nZ rows a b c t,rfl,by lia,⟨nZ rows a b c t,rfl,by lia,⟨nZ rows a b c t,a,b,c,-t,rfl,s.back.n,?_⟩⟩⟩;rw [s.back.f];simp only [↓aP,↓aS,↓ao,↓if_false];refine⟨nZ rows a b c t,a,b,c,-t,rfl,s.back,?_⟩;rw [Cs s];refine eW (x:=rows.map dm) (y:=rows.map dm) (by decide) ?_;simp only [↓aP,decide_true,↓aS,↓if_true,↓ao,↓if_false];exact hN _ _ ⟨rfl,rfl⟩
 rintro _ _ ⟨rfl,rfl⟩;simp only [bM,c7,↓vO,bo,aj,jS,ah,↓ae,↓aa,fR,↓cG,aM,aN,ends,S];refine⟨q9,_,_,h8,rfl,l2 _ _ g9,List.mem_singleton.mpr rfl,rfl,qu (rows:=nZ rows a b c t) (by lia) fun G' p' as hr=>hr.fz ?_⟩;refine⟨q9,a,b,c,-t,_,rfl,l2 _ _ g9,s.back,fun q' as G3 Zk=>?_⟩;rw [Cs s] at Zk;refine⟨q',as,_,G2,rfl,Zk,hsl,?_⟩;simp only [↓aP,↓if_true];refine eW (x:=rows) (y:=rows) (by decide) ?_;simp only [↓ao,decide_true,↓aS,↓if_false];exact vA ((l1.trans l2).trans Zk.le) q
end Pf
end K2
end
section
namespace K2
open PySem (Str)
open Enc (enc)
namespace Pf
open K2.P
open K2.Mo hiding cg ez eA cM eV eY
open K2.nW (HR HR.put HR.fz)
theorem Qk{G G':Gp}{p a:Nat}{as:List Nat}{rs:Rows}(h:HR G G' p as rs)(ha:G' a=none):HR G (de (de G' a (.lst [])) p (.lst ((as++[a]).map D.ref))) p (as++[a]) (rs++[[]]):=by
 have WY:a≠p:=by rintro rfl; rw [h.gp] at ha; cases ha
 have haa:a∉as:=fun z=>by
  obtain⟨i,hi⟩:=iY z;have h1:i < rs.length:=by rw [<-h.len]; exact(List.getElem?_eq_some_iff.mp hi).1
  rw [h.at' i a rs[i] hi (aU h1)] at ha; cases ha
 refine⟨(h.le.trans (.new ha)).put h.fp,h.fp,aI,?_,?_,?_,by simp [h.len],?_⟩
 ·intro z;rcases List.mem_append.mp z with z | z
  ·exact h.np z
  ·rw [fy] at z; exact WY z.symm
 ·rw [ky];refine⟨h.nd,by simp,fun x hx y hy e=>?_⟩;rw [fy] at hy;subst hy e;exact haa hx
 ·intro x hx;rcases List.mem_append.mp hx with z | z
  ·exact h.fr x z
  ·rw [fy] at z; subst z; exact h.le.free ha
 ·intro i b r h1 h2;by_cases hi:i < as.length
  ·rw [bK hi] at h1;rw [bK (by rw [<-h.len]; lia)] at h2;have hm:b∈as:=dA h1;rw [cU (by rintro rfl; exact h.np hm),cU (by rintro rfl; exact haa hm)];exact h.at' i b r h1 h2
  ·rw [bh (by lia)] at h1;rw [bh (by rw [<-h.len]; lia)] at h2;have i0:i - as.length=0:=by have:=(List.getElem?_eq_some_iff.mp h1).1; simp at this; lia
   rw [i0] at h1;rw [<-h.len,i0] at h2;simp at h1 h2;subst h1 h2;rw [cU WY]; exact aI
noncomputable def J4(ns:List Int)(p:T3):T3:=⟨p.a,p.b,if p.a∈ns then -p.c else p.c⟩
noncomputable def w6(ns:List Int)(rows:Rows):Rows:=rows.map (ll (J4 ns))
noncomputable def nz:fN :=
 (bF (bw (eG aM) (aH 2))
 (bF (du (ic (ah 0)) (aH 3) (bF (dH (oV uA gh (ah 2) (aj (eG aM) aM)))
 (du (ic (ah 3)) (pL (gq (aH 4) (gq (aH 5) (gq (aH 6) qi)))) (bF (cS (di (aN (Cw false) (ah 4) (ah 1))) (bw (GD DA (ah 6)) (aH 6)) bQ)
 (dH (oV uA gh (aN ee (ah 2) (GD DA (dC (.int 1)))) (aj (fF (aj (ah 4) (aj (ah 5) (aj (ah 6) aM)))) aM)))))))
 (bM (c7 (ah 2)))))
noncomputable def iO:iw:=fun ds G Q _=>∃ (rows:Rows) (d:D) (ns:List Int),ds=[enc rows,d]/\IsL G d (ns.map enc)/\(rows.length<=500/\∀ r∈rows,r.length<=500)/\Q (enc (w6 ns rows)) G
theorem ur(ds:List D)(G:Gp)(Q:DK)(h:iO ds G Q fun _ _=>False):nz (fun _ _=>False) (ends Q) (aZ 7 ds) G:=by
 obtain⟨rows,d,ns,rfl,hd,⟨hl,hr⟩,q⟩:=h;unfold nz;simp only [↓fe,bw,eG,aM,↓az,aH,ends,aZ,↓aC,↓aT,↓aq,bb,↓aL,↓aO,↓ai,↓ag];refine⟨by decide,fun p hp=>?_⟩;refine bE (fun τ G'=>(∃ as,HR G G' p as (w6 ns rows))/\∃ a b c e,τ=[some (enc rows),some d,some (.ref p),a,b,c,e]) ?_ ?_
 ·intro N hN;simp only [du,↓cG,ah,↓aa];refine dP ?_;refine eg (xs:=rows) (fun pre τ G'=>(∃ as,HR G G' p as (w6 ns pre))/\∃ a b c e,τ=[some (enc rows),some d,some (.ref p),a,b,c,e]) ⟨⟨[],⟨.new hp,hp,aI,by simp,iI,(fun _ h=>by cases h),rfl,(fun _ _ _ h=>by simp at h)⟩⟩,_,_,_,_,rfl⟩ (fun _ _ _ _=>trivial) ?_ (fun τ G' h=>hN τ G' h);rintro pre r post τ G1 N2 e ⟨⟨as,h1⟩,x3,x4,x5,x6,rfl⟩ qV;have Qj:=hr r (by rw [e]; simp);have mZ:pre.length < rows.length:=by have:=congrArg dD e; simp at this; lia
  have ZL:as.length=pre.length:=by rw [h1.len]; simp [w6]
  refine bE (fun τ G'=>∃ a,HR G G' p (as++[a]) (w6 ns pre++[[]])/\τ=[some (enc rows),some d,some (.ref p),some (enc r),x4,x5,x6]) ?_ ?_
  ·intro N hN;simp only [dH,oV,ah,↓ai,↓ag,↓ae,↓aa,↓gP,aj,eG,aM,↓az,↓eN];refine⟨by simp only [h1.gp],by decide,fun a ha=>?_⟩;have WY:p≠a:=by rintro rfl; rw [h1.gp] at ha; cases ha
   simp only [cU WY,h1.gp];refine⟨tw (by rw [av]; lia),hN _ _ ⟨a,?_,rfl⟩⟩;have:=Qk h1 ha;rw [aW] at this;exact this
  rintro _ G2 ⟨a,h2,rfl⟩;simp only [du,↓cG,ah,↓ae,↓aa];refine dP ?_;refine eg (xs:=r) (fun pp τ G'=>HR G G' p (as++[a]) (w6 ns pre++[pp.map (J4 ns)])/\∃ b c e,τ=[some (enc rows),some d,some (.ref p),some (enc r),b,c,e]) ⟨h2,_,_,_,rfl⟩ (fun _ _ _ _=>trivial) ?_ ?_
  ·rintro pp t po τ G3 N3 e3 ⟨h3,y4,y5,y6,rfl⟩ yv;have WS:pp.length < r.length:=by have:=congrArg dD e3; simp at this; lia
   have ea:(as++[a])[as.length]?=some a:=by simp
   have er:(w6 ns pre++[pp.map (J4 ns)])[as.length]?=some (pp.map (J4 ns)):=by
    rw [bh (by simp [w6]; lia)];simp [w6,ZL]
   have ga:=h3.at' _ _ _ ea er;have xa:nT ((as++[a]).map D.ref) (-1)=some (.ref a):=by
    rw [aW];unfold nT Lm;simp;rw [if_pos (by lia),show (-1+((as.length:Int)+1)).toNat=as.length by lia];simp
   have lst:∀ x:T3,HR G (de G3 a (.lst ((pp.map (J4 ns)).map enc++[enc x]))) p (as++[a]) (w6 ns pre++[pp.map (J4 ns)++[x]]):=fun x=>by
    have:=h3.put (r':=pp.map (J4 ns)++[x]) ea;rw [aW,List.set_append_right _ _ (by simp [w6]; lia)] at this;simpa [w6,ZL] using this
   simp only [pL,↓mD,gq,aH,qi,↓ai,↓ag];refine bE (fun τ G'=>G3=G'/\τ=[some (enc rows),some d,some (.ref p),some (enc r),some (.int t.a),some (.int t.b),some (.int (J4 ns t).c)]) ?_ ?_
   ·intro N hN;simp only [cS,↓ck,aN,ah,↓ae,↓aa,bw,GD,↓kR,aH,↓ai,↓ag,bQ];refine M7 (x:=t.a) (by decide) (hd.mono h3.le) ?_;by_cases ht:t.a∈ns
    ·have ec:(J4 ns t).c=-t.c:=if_pos ht;simp only [↓aP,↓ao,ht,decide_true,↓aS,↓if_false,↓if_true];exact hN _ _ ⟨rfl,by rw [ec]⟩
    ·have ec:(J4 ns t).c=t.c:=if_neg ht;simp only [↓aP,↓ao,ht,decide_false,↓bN,↓if_false];exact hN _ _ ⟨rfl,by rw [ec]⟩
   rintro _ _ ⟨rfl,rfl⟩;simp only [dH,oV,aN,ah,↓ae,↓aa,GD,dC,↓kR,aj,fF,aM,↓aq,↓az];refine dE (.ref h3.gp) xa ?_;simp only [↓gP,ga,↓eN,↓true_and];refine⟨by decide,tw (by rw [av,av]; lia),yv _ _ ⟨?_,_,_,_,rfl⟩⟩;rw [aW];exact lst (J4 ns t)
  ·rintro τ G3 ⟨h3,y4,y5,y6,rfl⟩;refine qV _ _ ⟨⟨as++[a],?_⟩,_,_,_,_,rfl⟩;have:w6 ns (pre++[r])=w6 ns pre++[r.map (J4 ns)]:=by simp [w6]
   rw [this]; exact h3
 ·rintro _ G1 ⟨⟨as,h1⟩,a,b,c,e,rfl⟩;simp only [bM,c7,ah,↓ae,↓aa];exact h1.fz q
end Pf
end K2
end
section
namespace K2
open PySem (Str)
open Enc (enc)
namespace Pf
open K2.P
open K2.Mo hiding cg ez eA cM eV eY
open K2.tf (dm)
open K2.nW (HR)
open K2.ES (qu)
open K2.Md (oP eB)
open K2.Jd (gR fD)
noncomputable def xJ:fN :=
 (bM (c7 (iZ vS (aj (fR 1 [] (ic (bo iz (aj (ah 0) aM))) (aH 0) (some (di (aN (nU false) (aN ee (ah 0) (dC (.int 1))) (dC (.int 0))))) (aN ee (ah 0) (dC (.int 0)))) aM))))
theorem GY(ds:List D)(G:Gp)(Q:DK)(h:K3.kz ds G Q fun _ _=>False):xJ (fun _ _=>False) (ends Q) (aZ 1 ds) G:=by
 obtain⟨rows,rfl,hl,q⟩:=h;unfold xJ;simp only [bM,c7,iZ,aj,fR,↓cG,bo,ah,aZ,↓aC,↓aT,↓aq,↓az,↓aL,↓aO,↓aa,aM,ends];refine⟨rows,rfl,(show rows.flatten.length<=1000 by lia),dP ⟨Hl (by rw [av]; show rows.flatten.length<=1000; lia),?_⟩⟩;refine jm (xs:=rows.flatten) (fun pre acc τ G'=>G=G'/\(∃ a,τ=[a])/\acc=((pre.filter fun p=>p.b == 0).map (·.a)).map enc) ⟨rfl,⟨_,rfl⟩,rfl⟩ (fun _ _ _ _ _=>trivial) ?_ ?_
 ·rintro pre x post acc τ G' N e ⟨rfl,⟨a,rfl⟩,rfl⟩ hN;simp only [aH,↓ck,aN,ah,↓ag,↓mD,↓aa,dC,↓dq,↓x9,↓A7];refine⟨_,_,.int _,.int _,?_⟩;simp only [↓aP,↓ao,r0,↓if_false];split
  ·rename_i h;refine hN _ _ _ ⟨rfl,⟨_,rfl⟩,?_⟩;simp [Bo,List.filter_cons,h,Kb]
  ·rename_i h;refine hN _ _ _ ⟨rfl,⟨_,rfl⟩,?_⟩;simp [Bo,List.filter_cons,h]
 ·rintro acc τ G' ⟨rfl,⟨a,rfl⟩,rfl⟩ p hp;refine GP (IsL.ref aI) (by rw [av]; exact Nat.lt_of_le_of_lt (OY _ _) hl) fun p2 rf=>?_;exact w9 ((e8.new hp).trans (.new rf)) ((e8.new hp).free rf) aI (q _ ((e8.new hp).free rf))
noncomputable def pq:fN :=
 (cS (gv (di (ah 0))) (Er "NoFit" (aj (dC (.str "the move does not fit")) aM)) bQ)
noncomputable def jv:iw:=fun ds G Q E=>∃ b:Bool,ds=[.bl b]/\b=false/\E ⟨"NoFit",[]⟩ G
theorem xu(ds:List D)(G:Gp)(Q:DK)(E:lq)(h:jv ds G Q E):pq E (ends Q) (aZ 1 ds) G:=by
 obtain⟨b,rfl,rfl,q⟩:=h;unfold pq;simp only [cS,gv,↓ck,ah,aZ,↓aC,↓aT,↓aq,↓az,↓aL,↓aO,↓aa,↓aP,↓bN,Er,aj,dC,aM,bQ,ends,↓if_true];exact⟨by decide,q⟩
noncomputable def pz:fN :=
 (bF (dH (bo fO (aj (ah 1) (aj (eG (aj (gr ["Slide"] "name" (ah 0)) (aj (gr ["Slide"] "second" (ah 0)) (aj (gr ["Slide"] "third" (ah 0)) aM)))) aM))))
 (dH (IT jv (aj (bo i5 (aj (ah 1) (aj (gr ["Slide"] "name" (ah 0)) (aj (gr ["Slide"] "second" (ah 0)) (aj (gr ["Slide"] "third" (ah 0)) (aj (gr ["Slide"] "turn" (ah 0)) aM)))))) aM))))
noncomputable def eD:iw:=fun ds G Q E=>∃ (p:Nat) (a b c t:Int) (rows:Rows),ds=[.ref p,enc rows]/\OU G p (.sl a b c t)/\(Ks rows a b c t/\Fn rows a b c t=false)/\∀ G',e8 G G'->E ⟨"NoFit",[]⟩ G'
theorem xw(ds:List D)(G:Gp)(Q:DK)(E:lq)(h:eD ds G Q E):pz E (ends Q) (aZ 2 ds) G:=by
 obtain⟨p,a,b,c,t,rows,rfl,g,⟨s,sf⟩,q⟩:=h;unfold pz;simp only [↓lW,dH,bo,aj,ah,aZ,↓aC,↓aT,↓aq,↓az,↓aL,↓aO,↓ae,↓aa,eG,gr,aM,IT,ends];refine at_ g (at_ g (at_ g ⟨by decide,fun pl mZ=>?_⟩));refine⟨rows,_,[a,b,c],rfl,.ref aI,⟨(xj s.d).2.2,fun m hm=>?_⟩,fun G1 l1=>?_⟩
 ·simp only [cf,bI,or_false] at hm;rcases hm with rfl | rfl | rfl
  ·exact s.na.1
  ·exact s.nb.1
  ·exact s.nc.1
 have L:=(e8.new mZ).trans l1;refine at_ (L _ _ g) (at_ (L _ _ g) (at_ (L _ _ g) (at_ (L _ _ g) ?_)));exact⟨rows,a,b,c,t,rfl,s,_,rfl,sf,q _ L⟩
noncomputable def rM:fN :=
 (bF (dH (yZ [("Slide",eD)] "refuse" (ah 0) (aj (ah 1) aM)))
 uk)
noncomputable def jj:iw:=eD
theorem sE(ds:List D)(G:Gp)(Q:DK)(E:lq)(h:jj ds G Q E):rM E (ends Q) (aZ 2 ds) G:=by
 obtain⟨p,a,b,c,t,rows,rfl,g,s,q⟩:=h;unfold rM;simp only [↓lW,dH,yZ,ah,aZ,↓aC,↓aT,↓aq,↓az,↓aL,↓aO,↓aa,aj,↓ae,aM,ends];exact⟨p,_,_,eD,rfl,g,List.mem_singleton.mpr rfl,rfl,⟨p,a,b,c,t,rows,rfl,g,s,q⟩⟩
noncomputable def zI:fN :=
 (bF (dH (yZ [("Slide",eD)] "refuse" (ah 0) (aj (ah 1) aM)))
 uk)
noncomputable def jk:iw:=eD
theorem Bf(ds:List D)(G:Gp)(Q:DK)(E:lq)(h:jk ds G Q E):zI E (ends Q) (aZ 2 ds) G:=sE ds G Q E h
noncomputable def rK:fN :=
 (bF (bw (dC (.bl false)) (aH 3))
 (bF (Ki (cS (di (ah 2)) (GF [("Slide",jk)] "back" (ah 0) (aj (ah 1) aM) ["NoFit"] (bw (dC (.bl true)) (aH 3))) (GF [("Slide",jj)] "done" (ah 0) (aj (ah 1) aM) ["NoFit"] (bw (dC (.bl true)) (aH 3)))))
 (bM (c7 (ah 3)))))
noncomputable def kN:iw:=fun ds G Q _=>∃ (p:Nat) (a b c t:Int) (rows:Rows) (k:Bool),ds=[.ref p,enc rows,.bl k]/\OU G p (.sl a b c t)/\(Ks rows a b c t/\Fn rows a b c t=false)/\Q (.bl true) G
theorem Be(ds:List D)(G:Gp)(Q:DK)(h:kN ds G Q fun _ _=>False):rK (fun _ _=>False) (ends Q) (aZ 4 ds) G:=by
 obtain⟨p,a,b,c,t,rows,k,rfl,g,s,q⟩:=h;unfold rK;have e1:(["NoFit"]:List Str).contains "NoFit" = true:=by decide
 refine bE (fun τ G'=>G=G'/\τ=[some (.ref p),some (enc rows),some (.bl k),some (.bl false)]) ?_ ?_
 ·intro N hN;simp only [bw,dC,aH,aZ,↓aC,↓aT,↓aq,↓az,bb,↓aL,↓aO,↓ai,↓ag];exact hN _ _ ⟨rfl,rfl⟩
 rintro _ _ ⟨rfl,rfl⟩;refine bE (fun τ G'=>G=G'/\τ=[some (.ref p),some (enc rows),some (.bl k),some (.bl true)]) ?_ ?_
 ·intro N hN;cases k with
  | true =>
   simp only [Ki,cS,↓ck,ah,↓ae,↓aa,↓aP,GF,aj,aM,bw,dC,aH,↓ai,↓ag,↓if_true];refine⟨p,_,_,jk,rfl,g,List.mem_singleton.mpr rfl,rfl,g,⟨p,a,b,c,t,rows,rfl,yV,s,fun G' l=>⟨l _ _ yV,e1,?_⟩⟩⟩;exact hN _ _ ⟨rfl,rfl⟩
  | false =>
   simp only [Ki,cS,↓ck,ah,↓ae,↓aa,↓aP,↓ao,GF,aj,aM,bw,dC,aH,↓ai,↓ag,↓if_false];refine⟨p,_,_,jj,rfl,g,List.mem_singleton.mpr rfl,rfl,g,⟨p,a,b,c,t,rows,rfl,yV,s,fun G' l=>⟨l _ _ yV,e1,?_⟩⟩⟩;exact hN _ _ ⟨rfl,rfl⟩
 rintro _ _ ⟨rfl,rfl⟩;simp only [bM,c7,ah,↓ae,↓aa,ends];exact e9 q
noncomputable def vb:fN :=
 (bF (cS (di (bo fD (aj (bo gR (aj (ah 1) aM)) (aj (bo eB (aj (ah 1) aM)) (aj (ah 2) aM))))) (bM (c7 (bo gF (aj (ah 0) (aj (ah 1) (aj (ah 2) aM)))))) bQ)
 (bF (du (ic (eG (aj (dC (.bl false)) (aj (dC (.bl true)) aM)))) (aH 3) (bF (LF 4 (bw (fR 1 [] (ic (ah 1)) (aH 0) none (iZ pP (aj (ah 0) aM))) (aH 4)))
 (cS (pU (gv (di (bo kN (aj (ah 0) (aj (ah 4) (aj (ah 3) aM)))))) (di (aN (nU true) (ah 4) (ah 1)))) (bM (c7 (dC (.bl false)))) bQ)))
 (bM (c7 (dC (.bl true))))))
noncomputable def mQ:iw:=fun ds G Q _=>∃ (p:Nat) (rows:Rows) (a b c t:Int),ds=[.ref p,enc rows,td (.sl a b c t)]/\OU G p (.sl a b c t)/\Ks rows a b c t/\∀ G',e8 G G'->Q (.bl true) G'
theorem EI(ds:List D)(G:Gp)(Q:DK)(h:mQ ds G Q fun _ _=>False):vb (fun _ _=>False) (ends Q) (aZ 5 ds) G:=by
 obtain⟨p,rows,a,b,c,t,rfl,g,s,q⟩:=h;have d:=s.d;obtain⟨SY,T6,hl3⟩:=xj d;unfold vb;cases sf:Fn rows a b c t with
 | true =>
  simp only [bF,cS,↓ck,bo,aj,ah,aZ,↓aC,↓aT,↓aq,↓az,bb,↓aL,↓aO,↓ae,↓aa,aM,bM,c7,ends,bQ];refine⟨rows,rfl,by lia,⟨rows,rfl,by lia,⟨rows,a,b,c,t,rfl,s,?_⟩⟩⟩;rw [sf];simp only [↓aP,↓if_true];exact⟨p,rows,a,b,c,t,rfl,g,⟨s,sf⟩,e9 (q _ (.refl _))⟩
 | false =>
  refine bE (fun τ G'=>G=G'/\τ=[some (.ref p),some (enc rows),some (td (.sl a b c t)),none,none]) ?_ ?_
  ·intro N hN;simp only [cS,↓ck,bo,aj,ah,aZ,↓aC,↓aT,↓aq,↓az,bb,↓aL,↓aO,↓ae,↓aa,aM,bM,c7,ends,bQ];refine⟨rows,rfl,by lia,⟨rows,rfl,by lia,⟨rows,a,b,c,t,rfl,s,?_⟩⟩⟩;rw [sf];simp only [↓aP,↓ao,↓if_false];exact hN _ _ ⟨rfl,rfl⟩
  rintro _ _ ⟨rfl,rfl⟩;refine bE (fun τ G'=>e8 G G') ?_ ?_
  ·intro N hN;simp only [du,↓cG,eG,aj,dC,aM,↓aq,↓az,ends];refine⟨by decide,fun pl mZ=>?_⟩;have gl:=aI (G:=G) (a:=pl) (o:=.lst [.bl false,.bl true]);have L:=e8.new (o:=.lst [.bl false,.bl true]) mZ;generalize de G pl (.lst [.bl false,.bl true])=GB at gl L ⊢;rw [sS gl];refine mB (fun pre τ G'=>GB=G'/\∃ z1 z2,τ=[some (.ref p),some (enc rows),some (td (.sl a b c t)),z1,z2]) ⟨rfl,_,_,rfl⟩ (fun _ _ _ h=>by rw [<-h.1]; exact gl) ?_ (fun τ G' h=>hN _ _ (by rw [<-h.1]; exact L));rintro pre x post τ _ N1 e ⟨rfl,z1,z2,rfl⟩ J9;have hx:∃ k,x=.bl k:=by
    have:x∈[D.bl false,D.bl true]:=by rw [e]; simp
    simp only [cf,bI,or_false] at this;rcases this with rfl | rfl
    ·exact⟨_,rfl⟩
    ·exact⟨_,rfl⟩
   obtain⟨k,rfl⟩:=hx;simp only [↓aH,ag,ai];refine bE (fun τ G'=>GB=G'/\τ=[some (.ref p),some (enc rows),some (td (.sl a b c t)),some (.bl k),some (enc rows)]) ?_ ?_
   ·intro N hN;rw [vN];simp only [bw,fR,↓cG,ah,↓ae,↓aa,aH,↓ai,↓ag];exact qu (by lia) fun G' p' as hr=>hr.fz (hN _ _ ⟨rfl,rfl⟩)
   rintro _ _ ⟨rfl,rfl⟩;simp only [cS,pU,gv,↓ck,bo,aj,ah,↓aa,↓ae,aM,bM,c7,dC,bQ,↓if_true,aN];refine⟨p,a,b,c,t,rows,k,rfl,L _ _ g,⟨s,sf⟩,?_⟩;simp only [↓aP,↓aS,↓ao,↓if_false];refine eW (x:=rows) (y:=rows) (by decide) ?_;simp only [↓aP,decide_true,↓aS,↓if_true,↓ao,↓if_false];exact J9 _ _ ⟨rfl,_,_,rfl⟩
  intro τ G' l;simp only [bM,c7,dC,ends];exact e9 (q _ l)
end Pf
end K2
end
section
namespace K2
open PySem (Str)
open Enc (enc)
namespace Pf
open K2.P
open K2.Mo hiding cg ez eA cM eV eY
open K2.nW (HR)
open K2.ES (nV sO DN HA)
open K2.K40 (fit vG oQ)
open K2.Md (w4 eq_int)
noncomputable def tT:fN :=
 (bF (bw (eG aM) (aH 1))
 (bF (du (ic (ah 0)) (aH 2) (du (ic (ah 2)) (aH 3) (cS (di (aN (nU false) (aN ee (ah 3) (dC (.int 1))) (dC (.int 0)))) (dH (oV uA gh (ah 1) (aj (aN ee (ah 3) (dC (.int 0))) aM))) bQ)))
 (bM (c7 (ah 1)))))
noncomputable def lL:iw:=fun ds G Q _=>∃ rows:Rows,ds=[enc rows]/\rows.flatten.length<=500/\∀ p G',e8 G G'->G p=none->G' p=some (.lst ((nV rows.flatten).map enc))->Q (.ref p) G'
theorem B7(ds:List D)(G:Gp)(Q:DK)(h:lL ds G Q fun _ _=>False):tT (fun _ _=>False) (ends Q) (aZ 4 ds) G:=by
 obtain⟨rows,rfl,hl,q⟩:=h;unfold tT;simp only [↓fe,bw,eG,aM,↓az,aH,ends,aZ,↓aC,↓aT,↓aq,bb,↓aL,↓aO,↓ai,↓ag];refine⟨by decide,fun p hp=>?_⟩;refine bE (fun τ G'=>(∃ a b,τ=[some (enc rows),some (.ref p),a,b])/\e8 G G'/\G' p=some (.lst ((nV rows.flatten).map enc))) ?_ ?_
 ·intro N hN;simp only [du,↓cG,ah,↓aa];refine dP ?_;refine eg (xs:=rows) (fun pre τ G'=>(∃ a b,τ=[some (enc rows),some (.ref p),a,b])/\e8 G G'/\G' p=some (.lst ((nV pre.flatten).map enc))) ⟨⟨_,_,rfl⟩,.new hp,aI⟩ (fun _ _ _ _=>trivial) ?_ ?_
  ·rintro pre r post τ G' N2 e ⟨⟨a,b,rfl⟩,l,gp⟩ qV;have hlen:pre.flatten.length+r.length<=rows.flatten.length:=by
    rw [e]; simp only [cK,bg,aJ]; lia
   simp only [aH,du,↓cG,ah,↓ai,↓ag,↓ae,↓aa];refine dP ?_;refine eg (xs:=r) (fun pp τ G'=>(∃ a b,τ=[some (enc rows),some (.ref p),a,b])/\e8 G G'/\G' p=some (.lst ((nV (pre.flatten++pp)).map enc))) ⟨⟨_,_,rfl⟩,l,by rw [cz]; exact gp⟩ (fun _ _ _ _=>trivial) ?_ ?_
   ·rintro pp t pt τ G4 N3 e4 ⟨⟨a,b,rfl⟩,l4,D5⟩ yv;have WS:pp.length < r.length:=by have:=congrArg dD e4; simp at this; lia
    have hz:=sO (pre.flatten++pp);rw [aJ] at hz;simp only [aH,↓w4,↓ck,aN,ah,↓ai,↓ag,↓mD,↓ae,↓aa,dC,↓dq,↓x9,dH,oV,↓gP,aj,↓A7,aM,↓eN,bQ];refine⟨_,_,.int _,.int _,?_⟩;rw [eq_int];have eu:nV (pre.flatten++(pp++[t]))=nV (pre.flatten++pp)++nV [t]:=by rw [<-cw,DN]
    by_cases hb:t.b=0
    ·simp only [↓aP,↓ao,hb,decide_true,↓aS,↓if_false,D5,↓true_and,↓if_true];refine⟨tw (by rw [av]; lia),yv _ _ ⟨⟨_,_,rfl⟩,l4.put hp,?_⟩⟩;rw [aI,eu,aW];have:nV [t]=[t.a]:=by simp [nV,hb]
     rw [this]; rfl
    ·simp only [↓aP,↓ao,hb,decide_false,↓bN,↓if_false];refine yv _ _ ⟨⟨_,_,rfl⟩,l4,?_⟩;have:nV [t]=[]:=by simp [nV,hb]
     rw [eu,this,cz]; exact D5
   ·rintro τ G4 ⟨⟨a,b,rfl⟩,l4,D5⟩;refine qV _ _ ⟨⟨_,_,rfl⟩,l4,?_⟩;have:(pre++[r]).flatten=pre.flatten++r:=by simp
    rw [this]; exact D5
  ·rintro τ G' ⟨⟨a,b,rfl⟩,l,gp⟩;exact hN _ _ ⟨⟨_,_,rfl⟩,l,gp⟩
 ·rintro _ G' ⟨⟨a,b,rfl⟩,l,gp⟩;simp only [bM,c7,ah,↓ae,↓aa];exact e9 (q p G' l hp gp)
noncomputable def u6:fN :=
 (bF (bw (aN jl (dC (.int 1)) (aN kl (ah 1) (dC (.int 999)))) (aH 2))
 (bF (IS (di (aN (Cw false) (ah 2) (ah 0))) (bw (aN jl (dC (.int 1)) (aN kl (ah 2) (dC (.int 999)))) (aH 2)))
 (bM (c7 (ah 2)))))
noncomputable def mP:iw:=fun ds G Q _=>∃ (d:D) (ns:List Int) (c:Int),ds=[d,.int c]/\IsL G d (ns.map enc)/\ns.length<=500/\∀ m:Int,m∉ns->Q (.int m) G
theorem EH(ds:List D)(G:Gp)(Q:DK)(h:mP ds G Q fun _ _=>False):u6 (fun _ _=>False) (ends Q) (aZ 3 ds) G:=by
 obtain⟨d,ns,c,rfl,hd,hl,q⟩:=h;unfold u6;simp only [↓fe,bw,aN,dC,ah,aZ,↓aC,↓aT,↓aq,↓az,bb,↓aL,↓aO,↓ae,↓aa,↓dG,↓fi,aH,ends,↓ai,↓ag];refine⟨by decide,?_⟩;have b1:1<=1+c % 999:=by lia
 have b2:1+c % 999<=999:=by lia
 generalize 1+c % 999=n at *;refine bE (fun τ G'=>G=G'/\∃ m:Int,m∉ns/\τ=[some d,some (.int c),some (.int m)]) ?_ ?_
 ·intro N hN;obtain⟨k,hk,nM⟩:=vG (ns:=ns) b1 b2 hl;have main:∀ (j:Nat),j<=k->yk (di (aN (Cw false) (ah 2) (ah 0))) (bw (aN jl (dC (.int 1)) (aN kl (ah 2) (dC (.int 999)))) (aH 2)) (j+1) (fun _ _=>False) { ends Q with nx:=N } [some d,some (.int c),some (.int (fit n (k - j)))] G:=by
   intro j;induction j with
   | zero =>
    intro _;show yk _ _ (0+1) _ _ _ _;rw [yk];simp only [↓ck,aN,ah,↓ae,↓aa,bw,dC,↓dG,↓fi,aH,ends,↓ai,↓ag];refine M7 (x:=fit n (k - 0)) (by decide) hd ?_;simp only [↓aP,↓ao,Nat.sub_zero,nM,decide_false,↓bN,↓if_false];exact hN _ _ ⟨rfl,_,nM,rfl⟩
   | succ j ih =>
    intro hj;rw [yk];simp only [↓ck,aN,ah,↓ae,↓aa,bw,dC,↓dG,↓fi,aH,ends,↓ai,↓ag];refine M7 (x:=fit n (k - (j+1))) (by decide) hd ?_;by_cases hm:fit n (k - (j+1))∈ns
    ·simp only [↓aP,↓ao,hm,decide_true,↓aS,↓if_false,↓if_true];refine⟨by decide,?_⟩;have e:1+fit n (k - (j+1)) % 999=fit n (k - j):=by
      rw [show k - j=(k - (j+1))+1 by lia,Int.add_comm]; rfl
     rw [e];exact ih (by lia)
    ·simp only [↓aP,↓ao,hm,decide_false,↓bN,↓if_false];exact hN _ _ ⟨rfl,_,hm,rfl⟩
  have:=main k (bp _);rw [Nat.sub_self] at this;exact⟨k+1,this⟩
 ·rintro _ _ ⟨rfl,m,m1,rfl⟩;simp only [bM,c7,ah,↓ae,↓aa];exact e9 (q m m1)
theorem VY{G G' G2:Gp}{as:List Nat}{rs:Rows}(h:HA G G' as rs)(l:e8 G' G2):HA G G2 as rs:=⟨h.le.trans l,h.nd,h.fr,h.len,fun i a r e1 e2=>l _ _ (h.at' i a r e1 e2)⟩
theorem RU{rows:Rows}{G:Gp}{Q:DK}{v:Int}(hl:rows.length<=1000)(hr:∀ r∈rows,r.length<=500)(q:∀ G' p as jF,jF.length=rows.length->jF.flatten.Perm rows.flatten->HR G G' p as jF->Q (.ref p) G') :
  NM (enc rows) G fun ds ok G1=>ds.length<=SZ/\jb (aH 0) none (aN jl (xm (ah 0) (lz (aN kl (ah 1) (iZ IU (aj (dC (.int 1)) (aj (iZ iq (aj (ah 0) aM)) aM))))) eE) (xm (ah 0) eE (lz (aN kl (ah 1) (iZ IU (aj (dC (.int 1)) (aj (iZ iq (aj (ah 0) aM)) aM))))))) ok ds (fun _ _=>False) [none,some (.int v)] G1 [] fun xs G2=>jR G2 (.lst xs) Q:=by
 refine dP ⟨Hl (by rw [av]; exact hl),?_⟩;refine jm (xs:=rows) (fun pre acc τ G'=>(∃ a,τ=[a,some (.int v)])/\∃ (as:List Nat) (rs:Rows),acc=as.map D.ref/\(rs.length=pre.length/\rs.flatten.Perm pre.flatten)/\HA G G' as rs) ⟨⟨_,rfl⟩,[],[],rfl,⟨rfl,.nil⟩,.nil G⟩ (fun _ _ _ _ _=>trivial) ?_ ?_
 ·rintro pre r post acc τ G' N e ⟨⟨a,rfl⟩,as,rs,rfl,⟨Zs,Zl⟩,h⟩ hN;have Qj:=hr r (by rw [e]; simp);have hmx:(if (1:Int) < (r.length:Int) then (r.length:Int) else 1)=((max 1 r.length:Nat):Int):=by split <;> lia
  simp only [aH,aN,xm,ah,↓ag,↓aa,↓jZ,↓ae,iZ,aj,dC,aM,eE];refine gk (IsL.enc r) ?_;simp only [IU,↓dG,av,↓iR];rw [hmx];refine⟨by lia,?_⟩;have k1:0<=v % ((max 1 r.length:Nat):Int):=pW _ (by lia);have k2:v % ((max 1 r.length:Nat):Int) < ((max 1 r.length:Nat):Int):=mr _ (by lia);obtain⟨j,hj⟩:=Int.eq_ofNat_of_zero_le k1;rw [hj] at k2;have hjl:j<=r.length:=by lia
  rw [hj];refine rN (IsL.enc r) fun p1 h1=>?_;refine gk (IsL.enc r) ?_;simp only [av,↓pD];rw [hmx];refine⟨by lia,?_⟩;rw [hj];refine rN (IsL.enc r) fun p2 h2=>?_;rw [vQ _ _ (by rw [av]; exact hjl),Es _ _ (by rw [av]; exact hjl)] at *;have ZX:p1≠p2:=by rintro rfl; rw [aI] at h2; cases h2
  refine DH (IsL.ref (by rw [cU ZX,aI])) (IsL.ref aI) ?_ fun p3 h3=>?_
  ·rw [eI,ff,av];exact Hl (by lia)
  have hA:=(VY h ((e8.new h1).trans (.new h2))).push h3 (r.drop j++r.take j);rw [aW,Bn,Bm] at hA;refine hN _ _ _ ⟨⟨_,rfl⟩,as++[p3],rs++[r.drop j++r.take j],by simp,⟨by simp [Zs],?_⟩,hA⟩;rw [cK,cK,jE,jE];refine Zl.append (List.perm_append_comm.trans ?_);rw [cT]
 ·rintro acc τ G' ⟨⟨a,rfl⟩,as,rs,rfl,⟨Zs,Zl⟩,h⟩ p hp;exact q _ p as rs Zs Zl (h.top hp)
end Pf
end K2
end
section
namespace K2
open PySem (Str)
open Enc (enc)
namespace Pf
open K2.P
open K2.Mo hiding cg ez eA cM eV eY
open K2.nW (HR kC)
open K2.QO (cM TC Ui)
open K2.Jd (jx zk IW)
open K2.ES (iA cR nV sO JQ CA)
open K2.K3 (DF)
theorem DM{L:List T3}(df:DF L){m:Int}(h:m∉nV L):m∉L.map (·.a):=by
 have e:[L].flatten=L:=by simp
 have:=CA (rows:=[L]) (by rw [e]; exact df) (m:=m) (by rw [e]; exact h)
 rwa [e] at this
theorem six{α:Type}(x1 x2 x3 x4 x5 x6:α):[x1,x2,x3,x4,x5,x6].Perm [x6,x4,x5,x2,x3,x1] :=
 (show ([0,1,2,3,4,5]:List Nat).Perm [5,3,4,1,2,0] by decide).map fun i=>[x1,x2,x3,x4,x5,x6].getD i x1
theorem Oq{L L':List T3}{a b c h0 h1 h2:Int}(df:DF L)(ha:a∉nV L)(hb:b∉nV L++[a])(hc:c∉nV L++[a,b])(e0:h0=1\/h0=-1)(e1:h1=1\/h1=-1)(e2:h2=1\/h2=-1)(p:L'.Perm ((IW a b c h0 h1 h2).flatten++L)):DF L':=by
 rw [List.mem_append,not_or] at hb hc;have d1:=df.add (DM df ha) e0;have d2:=d1.add (m:=b) (by
  have:=DM df hb.1;have VW:b≠a:=fun z=>hb.2 (by simp [z]);simp only [aC,cf,not_or];exact⟨VW,VW,this⟩) e1
 have d3:=d2.add (m:=c) (by
  have:=DM df hc.1;have hca:c≠a:=fun z=>hc.2 (by simp [z]);have hcb:c≠b:=fun z=>hc.2 (by simp [z]);simp only [aC,cf,not_or];exact⟨hcb,hcb,hca,hca,this⟩) e2
 exact d3.perm (p.trans ((six _ _ _ _ _ _).append_right L))
theorem OC{S:D}{ns:List Int}(cell:∀ (k:Int) (G:Gp) (Q:DK),0<=k->Q (.int (kC ns k)) G->cR [S,.int k] G Q fun _ _=>False){G:Gp}{Q:DK}(q:∀ (cs:List Int) p,cs.length=3->G p=none->Q (.ref p) (de G p (.lst (cs.map enc)))) :
  (ek 0 3).length<=SZ/\jb (aH 0) none (bo cR (aj (ah 1) (aj (aN jl (dC (.int 6)) (ah 0)) aM))) (fun _=>True) (ek 0 3) (fun _ _=>False) [none,some S] G [] fun xs G2=>jR G2 (.lst xs) Q:=by
 refine⟨by decide,?_⟩;unfold ek;refine jm (xs:=gK 3) (fun pre acc τ G'=>G=G'/\(∃ a,τ=[a,some S])/\∃ cs:List Int,acc=cs.map enc/\cs.length=pre.length) ⟨rfl,⟨_,rfl⟩,[],rfl,rfl⟩ (fun _ _ _ _ _=>trivial) ?_ ?_
 ·rintro pre x post acc τ G' N e ⟨rfl,⟨a,rfl⟩,cs,rfl,hl⟩ hN;simp only [aH,bo,aj,ah,↓ag,↓ae,↓aa,aN,dC,↓fi,aM];refine cell _ _ _ (by lia) (hN _ _ _ ⟨rfl,⟨_,rfl⟩,cs++[kC ns (6+(0+(x:Int)))],?_,?_⟩)
  ·rw [aW]; rfl
  ·rw [aJ,aJ,hl]; rfl
 ·rintro acc τ G' ⟨rfl,⟨a,rfl⟩,cs,rfl,hl⟩ p hp;exact q cs p hl hp
theorem Wk{a b c i:Int}(h0:0<=i)(h3:i < 3):∃ x:Int,nT [D.int a,.int b,.int c] i=some (.int x):=by
 have:i=0\/i=1\/i=2:=by lia
 rcases this with rfl | rfl | rfl
 ·exact⟨a,rfl⟩
 ·exact⟨b,rfl⟩
 ·exact⟨c,rfl⟩
theorem Ov{l:List Int}{a b c:Int}:cut ((l++[a,b,c]).map (enc (α:=Int))) (some (-3)) none=[.int a,.int b,.int c]:=by
 unfold cut j8;simp only [av,aJ,aq,az];rw [if_pos (by decide),show (-3+((l.length+(0+1+1+1):Nat):Int)).toNat=l.length by lia,aW,List.drop_left' (by simp)];rw [mM (by simp)];rfl
theorem T1{rows:Rows}{n h:Int}(hm:(⟨n,0,h⟩:T3)∈rows.flatten):tx rows n:=⟨jC.mpr ⟨_,hm,rfl,rfl⟩,_,hm,rfl⟩
theorem FZ(ms:List Int)(rows:Rows):(w6 ms rows).flatten=rows.flatten.map (J4 ms):=by
 unfold w6; rw [List.map_flatten]
theorem SO{ms:List Int}{rows:Rows}(d:Dr rows):Dr (w6 ms rows):=by
 have e:=FZ ms rows;refine⟨?_,?_,?_,?_,?_,?_⟩
 ·rw [e,gI]; exact d.nd
 ·intro p hp;rw [e] at hp;obtain⟨t,ht,rfl⟩:=List.mem_map.mp hp;exact d.way t ht
 ·intro p hp;rw [e] at hp;obtain⟨t,ht,rfl⟩:=List.mem_map.mp hp;have:=d.hand t ht;show (if t.a∈ms then -t.c else t.c)=1\/(if t.a∈ms then -t.c else t.c)=-1;split <;> lia
 ·intro p hp;rw [e] at hp ⊢;obtain⟨t,ht,rfl⟩:=List.mem_map.mp hp;exact List.mem_map.mpr ⟨_,d.zX t ht,rfl⟩
 ·rw [e,av]; exact d.Qy
 ·show (rows.map _).length<=3;rw [av]; exact d.str
theorem Ip{ms:List Int}{rows:Rows}{n:Int}(h:tx rows n):tx (w6 ms rows) n:=by
 obtain⟨p,hp,hb,ha⟩:=jC.mp h.1;have hm:J4 ms p∈(w6 ms rows).flatten:=by rw [FZ]; exact List.mem_map.mpr ⟨p,hp,rfl⟩
 exact⟨jC.mpr ⟨_,hm,hb,ha⟩,_,hm,ha⟩
theorem Qn{ms:List Int}{rows:Rows}{a b c t:Int}(s:Ks rows a b c t):Ks (w6 ms rows) a b c t:=⟨SO s.d,Ip s.na,Ip s.nb,Ip s.nc,s.ht⟩
noncomputable def M3:fN :=
 (bF (LF 1 (bw (fR 1 [] (oz (aN jl (dC (.int 1)) (aN kl (bo cR (aj (ah 0) (aj (dC (.int 0)) aM))) (dC (.int 3))))) (aH 0) none (eG aM)) (aH 1)))
 (bF (du (oz (aN kl (bo cR (aj (ah 0) (aj (dC (.int 1)) aM))) (dC (.int 10)))) (aH 2) (bw (c7 (bo iA (aj (ah 1) (aj (bo cR (aj (ah 0) (aj (aN jl (dC (.int 10)) (ah 2)) aM))) aM)))) (aH 1)))
 (bF (bw (bo lL (aj (ah 1) aM)) (aH 3))
 (bF (du (oz (dC (.int 3))) (aH 2) (dH (oV uA gh (ah 3) (aj (bo mP (aj (ah 3) (aj (bo cR (aj (ah 0) (aj (aN jl (dC (.int 2)) (ah 2)) aM))) aM))) aM))))
 (bF (bw (xm (ah 3) (lz (GD DA (dC (.int 3)))) eE) (aH 3))
 (bF (bw (aN kl (bo cR (aj (ah 0) (aj (dC (.int 5)) aM))) (dC (.int 96))) (aH 4))
 (bF (bw (c7 (bo jx (aj (ah 1) (aj (ah 3) (aj (ah 4) (aj (fR 1 [0] (oz (dC (.int 3))) (aH 0) none (bo cR (aj (ah 1) (aj (aN jl (dC (.int 6)) (ah 0)) aM)))) aM)))))) (aH 1))
 (bF (bw (aN kl (bo cR (aj (ah 0) (aj (dC (.int 9)) aM))) (dC (.int 24))) (aH 5))
 (bF (LF 1 (bw (fR 1 [5] (ic (ah 1)) (aH 0) none (aN jl (xm (ah 0) (lz (aN kl (ah 1) (iZ IU (aj (dC (.int 1)) (aj (iZ iq (aj (ah 0) aM)) aM))))) eE) (xm (ah 0) eE (lz (aN kl (ah 1) (iZ IU (aj (dC (.int 1)) (aj (iZ iq (aj (ah 0) aM)) aM)))))))) (aH 1)))
 (bF (bw (fF (aj (dC (.str "slide")) (aj (aN ee (ah 3) (dC (.int 0))) (aj (aN ee (ah 3) (dC (.int 1))) (aj (aN ee (ah 3) (dC (.int 2))) (aj (aN Fw (dC (.int 1)) (aN mS (dC (.int 2)) (aN kl (ah 4) (dC (.int 2))))) aM)))))) (aH 6))
 (bF (bw (bo iO (aj (ah 1) (aj (eG (aj (aN ee (ah 3) (aN qN (ah 4) (dC (.int 32)))) (aj (aN ee (ah 3) (aN kl (aN jl (aN qN (ah 4) (dC (.int 32))) (dC (.int 1))) (dC (.int 3)))) aM))) aM))) (aH 7))
 (bF (du (ic (eG (aj (nQ "Slide" eM (aj (aN ee (ah 6) (dC (.int 1))) (aj (aN ee (ah 6) (dC (.int 2))) (aj (aN ee (ah 6) (dC (.int 3))) (aj (aN ee (ah 6) (dC (.int 4))) aM))))) (aj (bo p4 (aj (ah 6) aM)) aM)))) (aH 8) (du (ic (eG (aj (ah 1) (aj (ah 7) (aj (ah 1) aM))))) (aH 9) (cS (pU (gv (di (bo cM (aj (jS [("Slide",gm)] "told" (ah 8) aM) (aj (ah 6) aM))))) (gv (di (bo mQ (aj (ah 8) (aj (ah 9) (aj (ah 6) aM))))))) (bM (c7 (dC (.bl false)))) bQ)))
 (bM (c7 (dC (.bl true))))))))))))))))
theorem TK(ds:List D)(G:Gp)(Q:DK)(h:Cr ds G Q fun _ _=>False):M3 (fun _ _=>False) (ends Q) (aZ 10 ds) G:=by
 obtain⟨ns,rfl,hn,g0,q⟩:=h;have cell:∀ (k:Int) (G:Gp) (Q:DK),0<=k->Q (.int (kC ns k)) G->cR [.fU (ns.map D.int),.int k] G Q fun _ _=>False:=fun k G Q hk h=>⟨ns,k,rfl,hk,h⟩;unfold M3;generalize hs:D.fU (ns.map D.int)=S at cell ⊢;refine bE (fun τ G'=>G=G'/\∃ n:Nat,1<=n/\n<=3/\τ=[some S,some (enc (bb n ([]:List T3))),none,none,none,none,none,none,none,none]) ?_ ?_
 ·intro N hN;rw [vN];simp only [bw,fR,↓gY,aN,dC,bo,aj,ah,aZ,↓aC,↓aT,↓aq,↓az,bb,↓aL,↓aO,↓aa,aM,aH,↓ai,↓ag,↓ae];refine cell 0 _ _ (by decide) ?_;simp only [↓dG,↓fi,↓fP];have k1:1<=1+kC ns 0 % 3:=by lia
  have k3:1+kC ns 0 % 3<=3:=by lia
  refine⟨by decide,?_⟩;generalize 1+kC ns 0 % 3=k at *;refine⟨by lia,by lia,?_⟩;refine JQ k1 k3 fun G' p as hr=>?_;exact hr.fz (hN _ _ ⟨rfl,k.toNat,by lia,by lia,rfl⟩)
 rintro _ _ ⟨rfl,n,n1,n3,rfl⟩;refine bE (fun τ G'=>G=G'/\∃ (rows:Rows) (a:Option D),(DF rows.flatten/\rows.length=n/\rows.flatten.length<=18)/\τ=[some S,some (enc rows),a,none,none,none,none,none,none,none]) ?_ ?_
 ·intro N hN;simp only [du,↓gY,aN,bo,aj,ah,↓aa,dC,aM,ends];refine cell 1 _ _ (by decide) ?_;simp only [↓dG,↓fP];have j1:0<=kC ns 1 % 10:=by lia
  have j2:kC ns 1 % 10<=9:=by lia
  refine⟨by decide,?_⟩;generalize kC ns 1 % 10=k at *;refine⟨by lia,by lia,?_⟩;unfold ek;refine eg (xs:=gK k.toNat) (fun pre τ G'=>G=G'/\∃ (rows:Rows) (a:Option D),(DF rows.flatten/\rows.flatten.length=2 * pre.length/\rows.length=n)/\τ=[some S,some (enc rows),a,none,none,none,none,none,none,none]) ⟨rfl,bb n [],none,⟨?_,?_,by simp⟩,rfl⟩ (fun _ _ _ _=>trivial) ?_ ?_
  ·have:(bb n ([]:List T3)).flatten=[]:=by simp
   rw [this];exact⟨iI,(fun p h=>by cases h),(fun p h=>by cases h),(fun p h=>by cases h)⟩
  ·simp
  ·rintro pre x post τ G' N2 e ⟨rfl,rows,a,⟨df,fl,rn⟩,rfl⟩ qV;have D1:pre.length < 9:=by
    have:=congrArg dD e;rw [eP,aJ,aq] at this; lia
   simp only [aH,bw,c7,bo,aj,ah,↓ai,↓ag,↓ae,↓aa,aN,dC,↓fi,aM];refine cell _ _ _ (by lia) ?_;refine⟨rows,_,rfl,⟨by lia,by lia,by lia⟩,fun jF m hd h1 h2 h3 h4=>?_⟩;refine e9 (qV _ _ ⟨rfl,jF,_,⟨(df.add (DM df h3) h4).perm h2,?_,by lia⟩,rfl⟩);have:=h2.length_eq;rw [aq,aq] at this;rw [aJ,da]; lia
  ·rintro τ G' ⟨rfl,rows,a,⟨df,fl,rn⟩,rfl⟩;rw [eP] at fl;exact hN _ _ ⟨rfl,rows,a,⟨df,rn,by lia⟩,rfl⟩
 rintro _ _ ⟨rfl,rows,a2,⟨df,rn,Qy⟩,rfl⟩;have ol:=sO rows.flatten;refine bE (fun τ G'=>∃ p3,G' p3=some (.lst ((nV rows.flatten).map enc))/\τ=[some S,some (enc rows),a2,some (.ref p3),none,none,none,none,none,none]) ?_ ?_
 ·intro N hN;simp only [bw,bo,aj,ah,↓ae,↓aa,aM,aH,↓ai,↓ag];exact⟨rows,rfl,by lia,fun p G' l hp gp=>hN _ _ ⟨p,gp,rfl⟩⟩
 rintro _ G1 ⟨p3,g3,rfl⟩;refine bE (fun τ G'=>∃ m1 m2 m3:Int,(m1∉nV rows.flatten/\m2∉nV rows.flatten++[m1]/\m3∉nV rows.flatten++[m1,m2])/\G' p3=some (.lst ((nV rows.flatten++[m1,m2,m3]).map enc))/\∃ z,τ=[some S,some (enc rows),z,some (.ref p3),none,none,none,none,none,none]) ?_ ?_
 ·intro N hN;simp only [du,↓gY,dC,↓fP,ends];refine⟨by decide,by decide,?_⟩;unfold ek;refine eg (xs:=gK 3) (fun pre τ G'=>∃ as:List Int,as.length=pre.length/\(∀ i:Nat,(hi:i < as.length)->as[i]∉nV rows.flatten++as.take i)/\G' p3=some (.lst ((nV rows.flatten++as).map enc))/\∃ z,τ=[some S,some (enc rows),z,some (.ref p3),none,none,none,none,none,none]) ⟨[],rfl,fun i hi=>absurd hi (Nat.not_lt_zero _),by rw [cz]; exact g3,_,rfl⟩ (fun _ _ _ _=>trivial) ?_ ?_
  ·rintro pre x post τ G' N2 e ⟨as,hl,fr,g,z,rfl⟩ qV;have D1:pre.length < 3:=by
    have:=congrArg dD e;rw [eP,aJ,aq] at this; lia
   simp only [aH,dH,oV,ah,↓ai,↓ag,↓ae,↓aa,↓gP,aj,bo,aN,dC,↓fi,aM,↓eN];refine⟨by simp only [g],cell _ _ _ (by lia) ⟨.ref p3,nV rows.flatten++as,_,rfl,.ref g,by rw [aJ]; lia,fun m hm=>?_⟩⟩;simp only [g];refine⟨tw (by rw [av,aJ]; lia),qV _ _ ⟨as++[m],by simp [hl],fun i hi=>?_,?_,_,rfl⟩⟩
   ·rw [aJ,da] at hi;by_cases hia:i < as.length
    ·rw [List.getElem_append_left hia,EL (by lia)];exact fr i hia
    ·have Qo:i=as.length:=by lia
     subst Qo;rw [List.getElem_append_right (by lia),List.take_left' rfl];simpa using hm
   ·rw [aI,<-cw,aW (l₂:=[m])]; rfl
  ·rintro τ G' ⟨as,hl,fr,g,z,rfl⟩;rw [eP] at hl;obtain⟨m1,m2,m3,rfl⟩:∃ x y z,as=[x,y,z]:=by
    match as,hl with
    | [x,y,z],_=>exact⟨x,y,z,rfl⟩
   refine hN _ _ ⟨m1,m2,m3,⟨?_,fr 1 (by simp),fr 2 (by simp)⟩,g,_,rfl⟩;have:=fr 0 (by simp);simpa using this
 rintro _ G2 ⟨m1,m2,m3,⟨f1,f2,f3⟩,g3',z2,rfl⟩;clear g3;refine bE (fun τ G'=>∃ p5,G' p5=some (.lst [.int m1,.int m2,.int m3])/\τ=[some S,some (enc rows),z2,some (.ref p5),none,none,none,none,none,none]) ?_ ?_
 ·intro N hN;simp only [bw,xm,ah,↓ae,↓aa,↓jZ,GD,dC,↓kR,↓iR,eE,↓yS,g3',aH,↓ai,↓ag];rw [Ov];exact fun p5 h5=>hN _ _ ⟨p5,aI,rfl⟩
 rintro _ G3 ⟨p5,g5,rfl⟩;refine bE (fun τ G'=>G3=G'/\∃ v:Int,0<=v/\v < 96/\τ=[some S,some (enc rows),z2,some (.ref p5),some (.int v),none,none,none,none,none]) ?_ ?_
 ·intro N hN;simp only [bw,aN,bo,aj,ah,↓aa,dC,aM,aH,↓ai,↓ag];refine cell 5 _ _ (by decide) ?_;simp only [↓dG];exact⟨by decide,hN _ _ ⟨rfl,kC ns 5 % 96,by lia,by lia,rfl⟩⟩
 rintro _ _ ⟨rfl,v,v0,v96,rfl⟩;refine bE (fun τ G'=>G' p5=some (.lst [.int m1,.int m2,.int m3])/\∃ jF:Rows,(∃ h0 h1 h2:Int,(h0=1\/h0=-1)/\(h1=1\/h1=-1)/\(h2=1\/h2=-1)/\jF.length=n/\jF.flatten.Perm ((IW m1 m2 m3 h0 h1 h2).flatten++rows.flatten))/\τ=[some S,some (enc jF),z2,some (.ref p5),some (.int v),none,none,none,none,none]) ?_ ?_
 ·intro N hN;simp only [bw,c7,bo,aj,ah,↓ae,↓aa,fR,↓gY,dC,↓fP,aM,aH,↓ai,↓ag];refine⟨by decide,by decide,?_⟩;refine OC cell fun cs pc VS hpc=>?_;have l:=e8.new (o:=.lst (cs.map enc)) hpc;exact⟨rows,m1,m2,m3,v,_,_,cs,rfl,.ref (l _ _ g5),.ref aI,⟨VS,by lia,by lia,by lia,v0,by lia⟩,fun jF h0 h1 h2 e0 e1 e2 hl hp=>e9 (hN _ _ ⟨l _ _ g5,jF,⟨h0,h1,h2,e0,e1,e2,by lia,hp⟩,rfl⟩)⟩
 clear g5;rintro _ G4 ⟨g5,EN,⟨h0,h1,h2,e0,e1,e2,rn1,Q5⟩,rfl⟩;have df1:DF EN.flatten:=Oq df f1 f2 f3 e0 e1 e2 Q5;have ln1:EN.flatten.length<=24:=by
  have:=Q5.length_eq;rw [aJ] at this;have e6:(IW m1 m2 m3 h0 h1 h2).flatten.length=6:=rfl;lia
 refine bE (fun τ G'=>G4=G'/\∃ w:Int,τ=[some S,some (enc EN),z2,some (.ref p5),some (.int v),some (.int w),none,none,none,none]) ?_ ?_
 ·intro N hN;simp only [bw,aN,bo,aj,ah,↓aa,dC,aM,aH,↓ai,↓ag];refine cell 9 _ _ (by decide) ?_;simp only [↓dG];exact⟨by decide,hN _ _ ⟨rfl,_,rfl⟩⟩
 rintro _ _ ⟨rfl,w,rfl⟩;refine bE (fun τ G'=>G4=G'/\∃ qT:Rows,(qT.length=n/\qT.flatten.Perm EN.flatten)/\τ=[some S,some (enc qT),z2,some (.ref p5),some (.int v),some (.int w),none,none,none,none]) ?_ ?_
 ·intro N hN;rw [vN];simp only [bw,fR,↓cG,ah,↓ae,↓aa,aH,↓ai,↓ag];refine RU (by lia) (fun r hr=>?_) fun G' p as qT hl hp hr=>hr.fz (hN _ _ ⟨rfl,qT,⟨by lia,hp⟩,rfl⟩);have:=nW.jY hr; lia
 rintro _ _ ⟨rfl,qT,⟨rn2,rf⟩,rfl⟩;have W9:=df1.perm rf;have dr:Dr qT:=⟨W9.nd,W9.way,W9.hand,W9.zX,by rw [rf.length_eq]; exact ln1,by lia⟩;have VJ:∀ x∈(IW m1 m2 m3 h0 h1 h2).flatten,x∈qT.flatten:=fun x hx=>rf.mem_iff.mpr (Q5.mem_iff.mpr (oK _ hx));obtain⟨SY,T6,hl3⟩:=xj dr;refine bE (fun τ G'=>G4=G'/\∃ t:Int,(t=1\/t=-1)/\τ=[some S,some (enc qT),z2,some (.ref p5),some (.int v),some (.int w),some (td (.sl m1 m2 m3 t)),none,none,none]) ?_ ?_
 ·intro N hN;simp only [bw,fF,aj,dC,aN,ah,↓ae,↓aa,↓dG,↓nE,↓pC,aM,↓aq,↓az,aH,↓ai,↓ag];refine dE (.ref g5) A7 (dE (.ref g5) x9 (dE (.ref g5) at2 ?_));exact⟨by decide,.inl ⟨by decide,by decide⟩,by decide,hN _ _ ⟨rfl,1 - 2 * (v % 2),by lia,rfl⟩⟩
 rintro _ _ ⟨rfl,t,ht,rfl⟩;have sn:Ks qT m1 m2 m3 t:=⟨dr,T1 (h:=h0) (VJ _ (by simp [IW])),T1 (h:=h1) (VJ _ (by simp [IW])),T1 (h:=h2) (VJ _ (by simp [IW])),ht⟩;refine bE (fun τ G'=>∃ ms:List Int,τ=[some S,some (enc qT),z2,some (.ref p5),some (.int v),some (.int w),some (td (.sl m1 m2 m3 t)),some (enc (w6 ms qT)),none,none]) ?_ ?_
 ·intro N hN;obtain⟨x,hx⟩:=Wk (a:=m1) (b:=m2) (c:=m3) (i:=v / 32) (by lia) (by lia);obtain⟨y,hy⟩:=Wk (a:=m1) (b:=m2) (c:=m3) (i:=(v / 32+1) % 3) (by lia) (by lia);simp only [bw,bo,aj,ah,↓ae,↓aa,eG,aN,dC,↓jA,↓fi,↓dG,aM,↓aq,↓az,aH,↓ai,↓ag];refine⟨by decide,by decide,dE (.ref g5) hx ⟨by decide,by decide,by decide,dE (.ref g5) hy ⟨by decide,fun pl mZ=>?_⟩⟩⟩;exact⟨qT,_,[x,y],rfl,.ref aI,⟨SY,T6⟩,hN _ _ ⟨_,rfl⟩⟩
 rintro _ G5 ⟨ms,rfl⟩;have so:=Qn (ms:=ms) sn
 let T:Option D->Option D->iH:=fun a b=>[some S,some (enc qT),z2,some (.ref p5),some (.int v),some (.int w),some (td (.sl m1 m2 m3 t)),some (enc (w6 ms qT)),a,b]
 have each:∀ x∈[(enc qT:D),enc (w6 ms qT),enc qT],∃ sJ:Rows,x=enc sJ/\Ks sJ m1 m2 m3 t:=fun x hx=>by
  simp only [cf,bI,or_false] at hx;rcases hx with rfl | rfl | rfl
  ·exact⟨_,rfl,sn⟩
  ·exact⟨_,rfl,so⟩
  ·exact⟨_,rfl,sn⟩
 refine bE (fun τ G'=>True) ?_ ?_
 ·intro N hN;simp only [du,↓cG,eG,aj,nQ,aN,ah,↓ae,↓aa,dC,aM,bo,↓aq,↓az,ends];rw [zk];simp only [↓dq,↓x9,↓at2,↓TC,↓Ui];refine fun p1 Q5=>⟨p1,m1,m2,m3,t,rfl,aI,rfl,?_⟩;rw [ym];refine⟨.sl m1 m2 m3 t,rfl,fun p2 rf=>?_⟩;refine⟨by decide,fun pl mZ=>?_⟩;have l2:=e8.new (o:=ob (.sl m1 m2 m3 t)) rf;have l3:=e8.new (o:=.lst [.ref p1,.ref p2]) mZ;have b1:=l3 _ _ (l2 _ _ (aI (G:=G5) (a:=p1) (o:=ob (.sl m1 m2 m3 t))));have b2:=l3 _ _ (aI (G:=de G5 p1 (ob (.sl m1 m2 m3 t))) (a:=p2) (o:=ob (.sl m1 m2 m3 t)));have b3:=aI (G:=de (de G5 p1 (ob (.sl m1 m2 m3 t))) p2 (ob (.sl m1 m2 m3 t))) (a:=pl) (o:=.lst [.ref p1,.ref p2]);generalize de (de (de G5 p1 (ob (.sl m1 m2 m3 t))) p2 (ob (.sl m1 m2 m3 t))) pl (.lst [.ref p1,.ref p2])=GB at b1 b2 b3 ⊢;rw [sS b3];refine mB (fun pre τ G'=>e8 GB G'/\∃ a b,τ=T a b) ⟨.refl _,_,_,rfl⟩ (fun _ _ _ h=>h.1 _ _ b3) ?_ (fun τ G' h=>hN _ _ trivial);rintro pre x post τ G6 N1 e ⟨l6,z8,z9,rfl⟩ J9;have hx:∃ p,x=.ref p/\OU GB p (.sl m1 m2 m3 t):=by
   have:x∈[D.ref p1,D.ref p2]:=by rw [e]; simp
   simp only [cf,bI,or_false] at this;rcases this with rfl | rfl
   ·exact⟨p1,rfl,b1⟩
   ·exact⟨p2,rfl,b2⟩
  obtain⟨p,rfl,ap⟩:=hx;simp only [aH,du,↓cG,eG,aj,ah,↓ai,↓ag,↓ae,↓aa,aM,↓aq,↓az,T];refine⟨by decide,fun pr hpr=>?_⟩;have l7:=l6.trans (e8.new (o:=.lst [enc qT,enc (w6 ms qT),enc qT]) hpr);have b7:=aI (G:=G6) (a:=pr) (o:=.lst [enc qT,enc (w6 ms qT),enc qT]);generalize de G6 pr (.lst [enc qT,enc (w6 ms qT),enc qT])=G7 at l7 b7 ⊢;rw [sS b7];refine mB (fun Yc τ G'=>e8 G7 G'/\∃ b,τ=T (some (.ref p)) b) ⟨.refl _,_,rfl⟩ (fun _ _ _ h=>h.1 _ _ b7) ?_ (fun τ G' h=>J9 _ _ ⟨l7.trans h.1,_,h.2⟩);rintro Yc y aaL τ G8 N2 e2 ⟨l8,z,rfl⟩ qV;obtain⟨sJ,rfl,WB⟩:=each y (by rw [e2]; simp);have ap8:=(l7.trans l8) _ _ ap;simp only [aH,cS,pU,gv,↓ck,bo,aj,jS,ah,↓ai,↓ag,↓ae,↓aa,aM,bM,c7,dC,bQ,↓if_true,T];refine⟨p,_,_,gm,rfl,ap8,List.mem_singleton.mpr rfl,rfl,⟨p,m1,m2,m3,t,rfl,ap8,?_⟩⟩;refine tells_of ?_;simp only [↓aP,↓aS,↓ao,↓if_false];refine⟨p,sJ,m1,m2,m3,t,rfl,ap8,WB,fun G9 l9=>?_⟩;simp only [↓aP,↓aS,↓ao,↓if_false];exact qV _ _ ⟨l8.trans l9,_,rfl⟩
 ·rintro τ G' _;simp only [bM,c7,dC,ends];exact e9 (q _)
end Pf
end K2
end
namespace Fin
open PySem PySem.Spec PyProof.Rows L2 K2
open K2.QO (fE wa iK yd kA yg cg eA cM eY)
open K2.Pf
open K2.Jd (gR ye iN v3 fD tZ ji yc kP v9 jx vZ)
open K2.ES (cR sD gS v7 kO v5 lV yf iA sC)
open K2.K3 (kz)
open K2.Md (eB v8)
open K2.EJ (ph C4 dj sy)
open K2.Mo hiding cg ez eA cM eV eY
open K2.P
noncomputable def top(i:Nat):Stmt:=PySem.Challenge.pw_knotwise_k23_slides.main.body.getD i (.Pass ⟨0,0,0,0⟩)
noncomputable def jH(i j:Nat):Stmt:=match top i with | .ClassDef _ _ _ b _ _ _ _ _ _ _=>b.getD j (.Pass ⟨0,0,0,0⟩) | s=>s
section
open PySem.W PySem.Calls
noncomputable def hC (n:Str) (t:Nat) (l:List Value):Obj:=⟨.type "code",none,.fields (.str n t :: .str n (t+1) :: .str "/claim/cut.py" (t+2) :: l).toArray,#[]⟩
noncomputable def hI(n:Int):Value:=.int n 0
noncomputable def hR(n:Nat):Value:=.ref n
noncomputable def hN:Value:=.none
noncomputable def hT:Value:=.bool true
noncomputable def hS (n:Nat):Value:=.str "/claim/cut.py" n
noncomputable def hD(n:Str)(t:Nat)(l a:Int)(r:Nat)(x y z:Value)(u:Nat):Obj:=hC n t [hI l,hI a,hI 0,hI 0,hI 3,hR r,hT,hI 181,hR (r+1),hN,x,y,z,hI (u - 1),hI l,hS u]
noncomputable abbrev hF (i:Nat) (n:Str) (m c:Value):Obj:=⟨.type "function",none,.func (jL n n (kb (top i)) (gZ (top i)) (aR (top i)) .none .none .none m none c .none),#[]⟩
noncomputable abbrev hM (i j:Nat) (n q:Str) (m c:Value):Obj:=⟨.type "function",none,.func (jL n q (kb (jH i j)) (gZ (jH i j)) (aR (jH i j)) .none .none .none m none c .none),#[]⟩
noncomputable abbrev hE(P:gA)(s:Str)(t:Nat)(v:Value):DictEntry:=⟨PyData.keyHash P s,.str s t,v⟩
noncomputable def hQ:bU:=PySem.W.view PySem.Challenge.pw_knotwise_k23_slides [1,2,3,4,5,6,7,9,10,11,12,13,14,15,16,17,19,20,21,22,23,24,26,27,28,29,30,31,32,33,34,35,36,37,38,39,40,41,43,44,45,46,47,48,49,50,51,52,53,54,55,56,57,58,59,60,61,62,63,64,65]
noncomputable def o0:Obj:=⟨(.type "tuple"),none,(.seq #[(.type "ValueError")] 0),#[]⟩
noncomputable def o1:Obj:=⟨(.type "tuple"),none,(.seq #[] 0),#[]⟩
noncomputable def o2 (P:gA):Obj:=⟨(.type "dict"),none,(.dict #[hE P "__module__" 196 (.str "knotwise.errors" 187),hE P "__firstlineno__" 200 (.int 2 199),hE P "__static_attributes__" 201 (.ref 22),hE P "__weakref__" 203 (.ref 25),hE P "__doc__" 204 .none] 3),#[]⟩
noncomputable def o3:Obj:=⟨(.type "getset_descriptor"),none,(.fields #[(.str "__weakref__" 202),(.ref 24),(.builtin "ExceptionGroup.__weakref__"),.none]),#[]⟩
noncomputable def o4:Obj:=⟨(.type "tuple"),none,(.seq #[(.ref 24)] 0),#[]⟩
noncomputable def o5 (P:gA):Obj:=⟨(.type "dict"),none,(.dict #[hE P "__module__" 214 (.str "knotwise.errors" 187),hE P "__firstlineno__" 218 (.int 4 217),hE P "__static_attributes__" 219 (.ref 35),hE P "__doc__" 220 .none] 2),#[]⟩
noncomputable def o6:Obj:=⟨(.type "type"),none,(.cls ⟨"NoName",[(.ref 24)],[(.ref 37),(.ref 24),(.type "ValueError"),(.type "Exception"),(.type "BaseException"),(.type "object")],36,"NoName",.true,[],[],.false,none,.false⟩),#[(some (.ref 28)),none,(some (.str "NoName" 207)),(some (.str "NoName" 215)),(some (.builtin "ValueError.__new__")),(some (.bool .true))]⟩
noncomputable def o7 (P:gA):Obj:=⟨(.type "dict"),none,(.dict #[hE P "__module__" 230 (.str "knotwise.errors" 187),hE P "__firstlineno__" 234 (.int 6 233),hE P "__static_attributes__" 235 (.ref 47),hE P "__doc__" 236 .none] 2),#[]⟩
noncomputable def o8:Obj:=⟨(.type "type"),none,(.cls ⟨"NameTaken",[(.ref 24)],[(.ref 49),(.ref 24),(.type "ValueError"),(.type "Exception"),(.type "BaseException"),(.type "object")],48,"NameTaken",.true,[],[],.false,none,.false⟩),#[(some (.ref 40)),none,(some (.str "NameTaken" 223)),(some (.str "NameTaken" 231)),(some (.builtin "ValueError.__new__")),(some (.bool .true))]⟩
noncomputable def o9 (P:gA):Obj:=⟨(.type "dict"),none,(.dict #[hE P "__module__" 246 (.str "knotwise.errors" 187),hE P "__firstlineno__" 250 (.int 8 249),hE P "__static_attributes__" 251 (.ref 59),hE P "__doc__" 252 .none] 2),#[]⟩
noncomputable def o10:Obj:=⟨(.type "type"),none,(.cls ⟨"NoSpot",[(.ref 24)],[(.ref 61),(.ref 24),(.type "ValueError"),(.type "Exception"),(.type "BaseException"),(.type "object")],60,"NoSpot",.true,[],[],.false,none,.false⟩),#[(some (.ref 52)),none,(some (.str "NoSpot" 239)),(some (.str "NoSpot" 247)),(some (.builtin "ValueError.__new__")),(some (.bool .true))]⟩
noncomputable def o11 (P:gA):Obj:=⟨(.type "dict"),none,(.dict #[hE P "__module__" 262 (.str "knotwise.errors" 187),hE P "__firstlineno__" 266 (.int 10 265),hE P "__static_attributes__" 267 (.ref 71),hE P "__doc__" 268 .none] 2),#[]⟩
noncomputable def o12:Obj:=⟨(.type "type"),none,(.cls ⟨"TooMany",[(.ref 24)],[(.ref 73),(.ref 24),(.type "ValueError"),(.type "Exception"),(.type "BaseException"),(.type "object")],72,"TooMany",.true,[],[],.false,none,.false⟩),#[(some (.ref 64)),none,(some (.str "TooMany" 255)),(some (.str "TooMany" 263)),(some (.builtin "ValueError.__new__")),(some (.bool .true))]⟩
noncomputable def o13 (P:gA):Obj:=⟨(.type "dict"),none,(.dict #[hE P "__module__" 278 (.str "knotwise.errors" 187),hE P "__firstlineno__" 282 (.int 12 281),hE P "__static_attributes__" 283 (.ref 83),hE P "__doc__" 284 .none] 2),#[]⟩
noncomputable def o14:Obj:=⟨(.type "type"),none,(.cls ⟨"NoFit",[(.ref 24)],[(.ref 85),(.ref 24),(.type "ValueError"),(.type "Exception"),(.type "BaseException"),(.type "object")],84,"NoFit",.true,[],[],.false,none,.false⟩),#[(some (.ref 76)),none,(some (.str "NoFit" 271)),(some (.str "NoFit" 279)),(some (.builtin "ValueError.__new__")),(some (.bool .true))]⟩
noncomputable def o15 (P:gA):Obj:=⟨(.type "dict"),none,(.dict #[hE P "__module__" 294 (.str "knotwise.errors" 187),hE P "__firstlineno__" 298 (.int 14 297),hE P "__static_attributes__" 299 (.ref 95),hE P "__doc__" 300 .none] 2),#[]⟩
noncomputable def o16:Obj:=⟨(.type "type"),none,(.cls ⟨"NoMove",[(.ref 24)],[(.ref 97),(.ref 24),(.type "ValueError"),(.type "Exception"),(.type "BaseException"),(.type "object")],96,"NoMove",.true,[],[],.false,none,.false⟩),#[(some (.ref 88)),none,(some (.str "NoMove" 287)),(some (.str "NoMove" 295)),(some (.builtin "ValueError.__new__")),(some (.bool .true))]⟩
noncomputable def o17 (P:gA):Obj:=⟨(.type "dict"),none,(.dict #[hE P "__module__" 514 (.str "knotwise.moves" 430),hE P "__firstlineno__" 518 (.int 130 517),hE P "__static_attributes__" 519 (.ref 254),hE P "__dict__" 521 (.ref 257),hE P "__weakref__" 523 (.ref 258),hE P "__doc__" 524 .none] 4),#[]⟩
noncomputable def o18:Obj:=⟨(.type "getset_descriptor"),none,(.fields #[(.str "__dict__" 520),(.ref 256),(.builtin "function.__dict__"),(.builtin "function.__dict__#set")]),#[]⟩
noncomputable def o19:Obj:=⟨(.type "getset_descriptor"),none,(.fields #[(.str "__weakref__" 522),(.ref 256),(.builtin "ExceptionGroup.__weakref__"),.none]),#[]⟩
noncomputable def P7:Obj:=⟨(.type "tuple"),none,(.seq #[(.ref 256)] 0),#[]⟩
noncomputable def o21:Obj:=⟨(.type "code"),none,(.fields #[(.str "__init__" 539),(.str "Uncurl.__init__" 540),(.str "/claim/cut.py" 541),(.int 134 0),(.int 2 0),(.int 0 0),(.int 0 0),(.int 3 0),(.ref 268),(.bool .true),(.int 181 0),(.ref 269),.none,(.ref 270),(.ref 271),(.ref 272),(.int 544 0),(.int 134 0),(.str "/claim/cut.py" 545)]),#[]⟩
noncomputable def o22:Obj:=⟨(.type "code"),none,(.fields #[(.str "told" 547),(.str "Uncurl.told" 548),(.str "/claim/cut.py" 549),(.int 137 0),(.int 1 0),(.int 0 0),(.int 0 0),(.int 3 0),(.ref 275),(.bool .true),(.int 181 0),(.ref 276),.none,(.ref 277),(.ref 278),(.ref 279),(.int 551 0),(.int 137 0),(.str "/claim/cut.py" 552)]),#[]⟩
noncomputable def o23:Obj:=⟨(.type "code"),none,(.fields #[(.str "refuse" 554),(.str "Uncurl.refuse" 555),(.str "/claim/cut.py" 556),(.int 140 0),(.int 2 0),(.int 0 0),(.int 0 0),(.int 3 0),(.ref 282),(.bool .true),(.int 181 0),(.ref 283),.none,(.ref 284),(.ref 285),(.ref 286),(.int 559 0),(.int 140 0),(.str "/claim/cut.py" 560)]),#[]⟩
noncomputable def o24:Obj:=⟨(.type "code"),none,(.fields #[(.str "done" 562),(.str "Uncurl.done" 563),(.str "/claim/cut.py" 564),(.int 144 0),(.int 2 0),(.int 0 0),(.int 0 0),(.int 3 0),(.ref 289),(.bool .true),(.int 181 0),(.ref 290),.none,(.ref 291),(.ref 292),(.ref 293),(.int 567 0),(.int 144 0),(.str "/claim/cut.py" 568)]),#[]⟩
noncomputable def o25:Obj:=⟨(.type "code"),none,(.fields #[(.str "back" 570),(.str "Uncurl.back" 571),(.str "/claim/cut.py" 572),(.int 148 0),(.int 2 0),(.int 0 0),(.int 0 0),(.int 3 0),(.ref 296),(.bool .true),(.int 181 0),(.ref 297),.none,(.ref 298),(.ref 299),(.ref 300),(.int 579 0),(.int 148 0),(.str "/claim/cut.py" 580)]),#[]⟩
noncomputable def o26:Obj:=⟨(.type "code"),none,(.fields #[(.str "renamed" 582),(.str "Uncurl.renamed" 583),(.str "/claim/cut.py" 584),(.int 156 0),(.int 2 0),(.int 0 0),(.int 0 0),(.int 3 0),(.ref 303),(.bool .true),(.int 181 0),(.ref 304),.none,(.ref 305),(.ref 306),(.ref 307),(.int 587 0),(.int 156 0),(.str "/claim/cut.py" 588)]),#[]⟩
noncomputable def o27:Obj:=⟨(.type "tuple"),none,(.seq #[(.str "name" 590)] 0),#[]⟩
noncomputable def o28 (P:gA):Obj:=⟨(.type "dict"),none,(.dict #[hE P "__module__" 534 (.str "knotwise.moves" 430),hE P "__firstlineno__" 538 (.int 132 537),hE P "__init__" 546 (.ref 274),hE P "told" 553 (.ref 281),hE P "refuse" 561 (.ref 288),hE P "done" 569 (.ref 295),hE P "back" 581 (.ref 302),hE P "renamed" 589 (.ref 309),hE P "__static_attributes__" 591 (.ref 310),hE P "__doc__" 592 .none] 2),#[]⟩
noncomputable def o29:Obj:=⟨(.type "type"),none,(.cls ⟨"Uncurl",[(.ref 256)],[(.ref 312),(.ref 256),(.type "object")],311,"Uncurl",.true,[],[],.false,none,.false⟩),#[(some (.ref 261)),none,(some (.str "Uncurl" 527)),(some (.str "Uncurl" 535)),(some (.builtin "object.__new__")),(some (.bool .true))]⟩
noncomputable def o30:Obj:=⟨(.type "code"),none,(.fields #[(.str "__init__" 607),(.str "Curl.__init__" 608),(.str "/claim/cut.py" 609),(.int 160 0),(.int 5 0),(.int 0 0),(.int 0 0),(.int 3 0),(.ref 322),(.bool .true),(.int 181 0),(.ref 323),.none,(.ref 324),(.ref 325),(.ref 326),(.int 615 0),(.int 160 0),(.str "/claim/cut.py" 616)]),#[]⟩
noncomputable def o31:Obj:=⟨(.type "code"),none,(.fields #[(.str "told" 618),(.str "Curl.told" 619),(.str "/claim/cut.py" 620),(.int 166 0),(.int 1 0),(.int 0 0),(.int 0 0),(.int 3 0),(.ref 329),(.bool .true),(.int 181 0),(.ref 330),.none,(.ref 331),(.ref 332),(.ref 333),(.int 622 0),(.int 166 0),(.str "/claim/cut.py" 623)]),#[]⟩
noncomputable def o32:Obj:=⟨(.type "code"),none,(.fields #[(.str "done" 625),(.str "Curl.done" 626),(.str "/claim/cut.py" 627),(.int 169 0),(.int 2 0),(.int 0 0),(.int 0 0),(.int 3 0),(.ref 336),(.bool .true),(.int 181 0),(.ref 337),.none,(.ref 338),(.ref 339),(.ref 340),(.int 631 0),(.int 169 0),(.str "/claim/cut.py" 632)]),#[]⟩
noncomputable def o33:Obj:=⟨(.type "code"),none,(.fields #[(.str "back" 634),(.str "Curl.back" 635),(.str "/claim/cut.py" 636),(.int 174 0),(.int 2 0),(.int 0 0),(.int 0 0),(.int 3 0),(.ref 343),(.bool .true),(.int 181 0),(.ref 344),.none,(.ref 345),(.ref 346),(.ref 347),(.int 639 0),(.int 174 0),(.str "/claim/cut.py" 640)]),#[]⟩
noncomputable def o34:Obj:=⟨(.type "code"),none,(.fields #[(.str "renamed" 642),(.str "Curl.renamed" 643),(.str "/claim/cut.py" 644),(.int 178 0),(.int 2 0),(.int 0 0),(.int 0 0),(.int 3 0),(.ref 350),(.bool .true),(.int 181 0),(.ref 351),.none,(.ref 352),(.ref 353),(.ref 354),(.int 647 0),(.int 178 0),(.str "/claim/cut.py" 648)]),#[]⟩
noncomputable def o35:Obj:=⟨(.type "tuple"),none,(.seq #[(.str "first" 650),(.str "hand" 651),(.str "name" 652),(.str "spot" 653)] 0),#[]⟩
noncomputable def o36 (P:gA):Obj:=⟨(.type "dict"),none,(.dict #[hE P "__module__" 602 (.str "knotwise.moves" 430),hE P "__firstlineno__" 606 (.int 158 605),hE P "__init__" 617 (.ref 328),hE P "told" 624 (.ref 335),hE P "done" 633 (.ref 342),hE P "back" 641 (.ref 349),hE P "renamed" 649 (.ref 356),hE P "__static_attributes__" 654 (.ref 357),hE P "__doc__" 655 .none] 2),#[]⟩
noncomputable def o37:Obj:=⟨(.type "type"),none,(.cls ⟨"Curl",[(.ref 256)],[(.ref 359),(.ref 256),(.type "object")],358,"Curl",.true,[],[],.false,none,.false⟩),#[(some (.ref 315)),none,(some (.str "Curl" 595)),(some (.str "Curl" 603)),(some (.builtin "object.__new__")),(some (.bool .true))]⟩
noncomputable def o38:Obj:=⟨(.type "code"),none,(.fields #[(.str "__init__" 670),(.str "Part.__init__" 671),(.str "/claim/cut.py" 672),(.int 182 0),(.int 3 0),(.int 0 0),(.int 0 0),(.int 3 0),(.ref 369),(.bool .true),(.int 181 0),(.ref 370),.none,(.ref 371),(.ref 372),(.ref 373),(.int 676 0),(.int 182 0),(.str "/claim/cut.py" 677)]),#[]⟩
noncomputable def o39:Obj:=⟨(.type "code"),none,(.fields #[(.str "told" 679),(.str "Part.told" 680),(.str "/claim/cut.py" 681),(.int 186 0),(.int 1 0),(.int 0 0),(.int 0 0),(.int 3 0),(.ref 376),(.bool .true),(.int 181 0),(.ref 377),.none,(.ref 378),(.ref 379),(.ref 380),(.int 683 0),(.int 186 0),(.str "/claim/cut.py" 684)]),#[]⟩
noncomputable def o40:Obj:=⟨(.type "code"),none,(.fields #[(.str "refuse" 686),(.str "Part.refuse" 687),(.str "/claim/cut.py" 688),(.int 189 0),(.int 2 0),(.int 0 0),(.int 0 0),(.int 3 0),(.ref 383),(.bool .true),(.int 181 0),(.ref 384),.none,(.ref 385),(.ref 386),(.ref 387),(.int 691 0),(.int 189 0),(.str "/claim/cut.py" 692)]),#[]⟩
noncomputable def o41:Obj:=⟨(.type "code"),none,(.fields #[(.str "done" 694),(.str "Part.done" 695),(.str "/claim/cut.py" 696),(.int 193 0),(.int 2 0),(.int 0 0),(.int 0 0),(.int 3 0),(.ref 390),(.bool .true),(.int 181 0),(.ref 391),.none,(.ref 392),(.ref 393),(.ref 394),(.int 699 0),(.int 193 0),(.str "/claim/cut.py" 700)]),#[]⟩
noncomputable def o42:Obj:=⟨(.type "code"),none,(.fields #[(.str "back" 702),(.str "Part.back" 703),(.str "/claim/cut.py" 704),(.int 197 0),(.int 2 0),(.int 0 0),(.int 0 0),(.int 3 0),(.ref 397),(.bool .true),(.int 181 0),(.ref 398),.none,(.ref 399),(.ref 400),(.ref 401),(.int 715 0),(.int 197 0),(.str "/claim/cut.py" 716)]),#[]⟩
noncomputable def o43:Obj:=⟨(.type "code"),none,(.fields #[(.str "renamed" 718),(.str "Part.renamed" 719),(.str "/claim/cut.py" 720),(.int 209 0),(.int 2 0),(.int 0 0),(.int 0 0),(.int 3 0),(.ref 404),(.bool .true),(.int 181 0),(.ref 405),.none,(.ref 406),(.ref 407),(.ref 408),(.int 723 0),(.int 209 0),(.str "/claim/cut.py" 724)]),#[]⟩
noncomputable def o44:Obj:=⟨(.type "tuple"),none,(.seq #[(.str "name" 726),(.str "second" 727)] 0),#[]⟩
noncomputable def o45 (P:gA):Obj:=⟨(.type "dict"),none,(.dict #[hE P "__module__" 665 (.str "knotwise.moves" 430),hE P "__firstlineno__" 669 (.int 180 668),hE P "__init__" 678 (.ref 375),hE P "told" 685 (.ref 382),hE P "refuse" 693 (.ref 389),hE P "done" 701 (.ref 396),hE P "back" 717 (.ref 403),hE P "renamed" 725 (.ref 410),hE P "__static_attributes__" 728 (.ref 411),hE P "__doc__" 729 .none] 2),#[]⟩
noncomputable def o46:Obj:=⟨(.type "type"),none,(.cls ⟨"Part",[(.ref 256)],[(.ref 413),(.ref 256),(.type "object")],412,"Part",.true,[],[],.false,none,.false⟩),#[(some (.ref 362)),none,(some (.str "Part" 658)),(some (.str "Part" 666)),(some (.builtin "object.__new__")),(some (.bool .true))]⟩
noncomputable def o47:Obj:=⟨(.type "code"),none,(.fields #[(.str "__init__" 744),(.str "Lay.__init__" 745),(.str "/claim/cut.py" 746),(.int 213 0),(.int 7 0),(.int 0 0),(.int 0 0),(.int 3 0),(.ref 423),(.bool .true),(.int 181 0),(.ref 424),.none,(.ref 425),(.ref 426),(.ref 427),(.int 754 0),(.int 213 0),(.str "/claim/cut.py" 755)]),#[]⟩
noncomputable def o48:Obj:=⟨(.type "code"),none,(.fields #[(.str "told" 757),(.str "Lay.told" 758),(.str "/claim/cut.py" 759),(.int 221 0),(.int 1 0),(.int 0 0),(.int 0 0),(.int 3 0),(.ref 430),(.bool .true),(.int 181 0),(.ref 431),.none,(.ref 432),(.ref 433),(.ref 434),(.int 761 0),(.int 221 0),(.str "/claim/cut.py" 762)]),#[]⟩
noncomputable def o49:Obj:=⟨(.type "code"),none,(.fields #[(.str "passings" 764),(.str "Lay.passings" 765),(.str "/claim/cut.py" 766),(.int 224 0),(.int 2 0),(.int 0 0),(.int 0 0),(.int 3 0),(.ref 437),(.bool .true),(.int 181 0),(.ref 438),.none,(.ref 439),(.ref 440),(.ref 441),(.int 769 0),(.int 224 0),(.str "/claim/cut.py" 770)]),#[]⟩
noncomputable def o50:Obj:=⟨(.type "code"),none,(.fields #[(.str "done" 772),(.str "Lay.done" 773),(.str "/claim/cut.py" 774),(.int 227 0),(.int 2 0),(.int 0 0),(.int 0 0),(.int 3 0),(.ref 444),(.bool .true),(.int 181 0),(.ref 445),.none,(.ref 446),(.ref 447),(.ref 448),(.int 779 0),(.int 227 0),(.str "/claim/cut.py" 780)]),#[]⟩
noncomputable def o51:Obj:=⟨(.type "code"),none,(.fields #[(.str "back" 782),(.str "Lay.back" 783),(.str "/claim/cut.py" 784),(.int 235 0),(.int 2 0),(.int 0 0),(.int 0 0),(.int 3 0),(.ref 451),(.bool .true),(.int 181 0),(.ref 452),.none,(.ref 453),(.ref 454),(.ref 455),(.int 787 0),(.int 235 0),(.str "/claim/cut.py" 788)]),#[]⟩
noncomputable def o52:Obj:=⟨(.type "code"),none,(.fields #[(.str "renamed" 790),(.str "Lay.renamed" 791),(.str "/claim/cut.py" 792),(.int 239 0),(.int 2 0),(.int 0 0),(.int 0 0),(.int 3 0),(.ref 458),(.bool .true),(.int 181 0),(.ref 459),.none,(.ref 460),(.ref 461),(.ref 462),(.int 799 0),(.int 239 0),(.str "/claim/cut.py" 800)]),#[]⟩
noncomputable def o53:Obj:=⟨(.type "tuple"),none,(.seq #[(.str "hand" 802),(.str "name" 803),(.str "over" 804),(.str "second" 805),(.str "turned" 806),(.str "under" 807)] 0),#[]⟩
noncomputable def o54 (P:gA):Obj:=⟨(.type "dict"),none,(.dict #[hE P "__module__" 739 (.str "knotwise.moves" 430),hE P "__firstlineno__" 743 (.int 211 742),hE P "__init__" 756 (.ref 429),hE P "told" 763 (.ref 436),hE P "passings" 771 (.ref 443),hE P "done" 781 (.ref 450),hE P "back" 789 (.ref 457),hE P "renamed" 801 (.ref 464),hE P "__static_attributes__" 808 (.ref 465),hE P "__doc__" 809 .none] 2),#[]⟩
noncomputable def o55:Obj:=⟨(.type "type"),none,(.cls ⟨"Lay",[(.ref 256)],[(.ref 467),(.ref 256),(.type "object")],466,"Lay",.true,[],[],.false,none,.false⟩),#[(some (.ref 416)),none,(some (.str "Lay" 732)),(some (.str "Lay" 740)),(some (.builtin "object.__new__")),(some (.bool .true))]⟩
noncomputable def o56:Obj:=⟨(.type "code"),none,(.fields #[(.str "__init__" 824),(.str "Slide.__init__" 825),(.str "/claim/cut.py" 826),(.int 247 0),(.int 5 0),(.int 0 0),(.int 0 0),(.int 3 0),(.ref 477),(.bool .true),(.int 181 0),(.ref 478),.none,(.ref 479),(.ref 480),(.ref 481),(.int 832 0),(.int 247 0),(.str "/claim/cut.py" 833)]),#[]⟩
noncomputable def o57:Obj:=⟨(.type "code"),none,(.fields #[(.str "told" 835),(.str "Slide.told" 836),(.str "/claim/cut.py" 837),(.int 253 0),(.int 1 0),(.int 0 0),(.int 0 0),(.int 3 0),(.ref 484),(.bool .true),(.int 181 0),(.ref 485),.none,(.ref 486),(.ref 487),(.ref 488),(.int 839 0),(.int 253 0),(.str "/claim/cut.py" 840)]),#[]⟩
noncomputable def o58:Obj:=⟨(.type "code"),none,(.fields #[(.str "refuse" 842),(.str "Slide.refuse" 843),(.str "/claim/cut.py" 844),(.int 256 0),(.int 2 0),(.int 0 0),(.int 0 0),(.int 3 0),(.ref 491),(.bool .true),(.int 181 0),(.ref 492),.none,(.ref 493),(.ref 494),(.ref 495),(.int 847 0),(.int 256 0),(.str "/claim/cut.py" 848)]),#[]⟩
noncomputable def o59:Obj:=⟨(.type "code"),none,(.fields #[(.str "done" 850),(.str "Slide.done" 851),(.str "/claim/cut.py" 852),(.int 260 0),(.int 2 0),(.int 0 0),(.int 0 0),(.int 3 0),(.ref 498),(.bool .true),(.int 181 0),(.ref 499),.none,(.ref 500),(.ref 501),(.ref 502),(.int 855 0),(.int 260 0),(.str "/claim/cut.py" 856)]),#[]⟩
noncomputable def o60:Obj:=⟨(.type "code"),none,(.fields #[(.str "back" 858),(.str "Slide.back" 859),(.str "/claim/cut.py" 860),(.int 264 0),(.int 2 0),(.int 0 0),(.int 0 0),(.int 3 0),(.ref 505),(.bool .true),(.int 181 0),(.ref 506),.none,(.ref 507),(.ref 508),(.ref 509),(.int 863 0),(.int 264 0),(.str "/claim/cut.py" 864)]),#[]⟩
noncomputable def o61:Obj:=⟨(.type "code"),none,(.fields #[(.str "renamed" 866),(.str "Slide.renamed" 867),(.str "/claim/cut.py" 868),(.int 268 0),(.int 2 0),(.int 0 0),(.int 0 0),(.int 3 0),(.ref 512),(.bool .true),(.int 181 0),(.ref 513),.none,(.ref 514),(.ref 515),(.ref 516),(.int 873 0),(.int 268 0),(.str "/claim/cut.py" 874)]),#[]⟩
noncomputable def o62:Obj:=⟨(.type "tuple"),none,(.seq #[(.str "name" 876),(.str "second" 877),(.str "third" 878),(.str "turn" 879)] 0),#[]⟩
noncomputable def o63 (P:gA):Obj:=⟨(.type "dict"),none,(.dict #[hE P "__module__" 819 (.str "knotwise.moves" 430),hE P "__firstlineno__" 823 (.int 245 822),hE P "__init__" 834 (.ref 483),hE P "told" 841 (.ref 490),hE P "refuse" 849 (.ref 497),hE P "done" 857 (.ref 504),hE P "back" 865 (.ref 511),hE P "renamed" 875 (.ref 518),hE P "__static_attributes__" 880 (.ref 519),hE P "__doc__" 881 .none] 2),#[]⟩
noncomputable def o64:Obj:=⟨(.type "type"),none,(.cls ⟨"Slide",[(.ref 256)],[(.ref 521),(.ref 256),(.type "object")],520,"Slide",.true,[],[],.false,none,.false⟩),#[(some (.ref 470)),none,(some (.str "Slide" 812)),(some (.str "Slide" 820)),(some (.builtin "object.__new__")),(some (.bool .true))]⟩
noncomputable def K5:Obj:=⟨(.type "builtin_function_or_method"),none,(.fields #[(.builtin "type.__prepare__"),(.type "type")]),#[]⟩
noncomputable def kJ:Obj:=⟨.none,none,(.fields #[]),#[]⟩
noncomputable def hK (P:gA):ay:=(nat_lit 3,⟨(.type "dict"),none,(.dict #[hE P "__name__" 165 (.str "law_knotwise_k23_slides" 891),hE P "__doc__" 166 .none,hE P "__package__" 167 .none,hE P "__loader__" 168 (.builtin "__main__.__loader__#opaque"),hE P "__spec__" 169 .none,hE P "__annotations__" 170 (.ref 6),hE P "__builtins__" 171 (.ref 4),hE P "__file__" 173 (.str "/claim/cut.py" 172),hE P "__cached__" 174 .none,hE P "KnotError" 206 (.ref 24),hE P "NoName" 222 (.ref 37),hE P "NameTaken" 238 (.ref 49),hE P "NoSpot" 254 (.ref 61),hE P "TooMany" 270 (.ref 73),hE P "NoFit" 286 (.ref 85),hE P "NoMove" 302 (.ref 97),hE P "MOST_CROSSINGS" 306 (.int 12 305),hE P "passings_of" 315 (.ref 106),hE P "seated" 323 (.ref 113),hE P "seated_rows" 329 (.ref 118),hE P "names_of" 335 (.ref 123),hE P "hand_of" 344 (.ref 130),hE P "spots_on" 350 (.ref 135),hE P "next_of" 361 (.ref 142),hE P "string_of" 371 (.ref 149),hE P "neighbours" 382 (.ref 156),hE P "uncurl_fits" 390 (.ref 163),hE P "part_fits" 400 (.ref 170),hE P "in_turn" 409 (.ref 177),hE P "slide_pairs" 423 (.ref 184),hE P "slide_fits" 429 (.ref 189),hE P "refuse_unknown" 441 (.ref 196),hE P "refuse_unfit" 448 (.ref 203),hE P "refuse_new" 458 (.ref 210),hE P "with_put" 470 (.ref 217),hE P "taken_out" 476 (.ref 222),hE P "spot_ahead" 482 (.ref 227),hE P "first_in_turn" 492 (.ref 234),hE P "with_changed" 498 (.ref 239),hE P "renamed_spot" 506 (.ref 246),hE P "Move" 526 (.ref 256),hE P "Uncurl" 594 (.ref 312),hE P "Curl" 657 (.ref 359),hE P "Part" 731 (.ref 413),hE P "Lay" 811 (.ref 467),hE P "Slide" 883 (.ref 521),hE P "move_of" 890 (.ref 530),hE P "_law_cell_at" 900 (.ref 537),hE P "_law_whole" 907 (.ref 544),hE P "_law_mixed" 914 (.ref 551),hE P "_law_names" 924 (.ref 558),hE P "_law_free" 933 (.ref 565),hE P "_law_crossed" 939 (.ref 570),hE P "_law_begun" 949 (.ref 577),hE P "_law_wholes" 958 (.ref 584),hE P "_law_same" 968 (.ref 591),hE P "_law_tells" 977 (.ref 598),hE P "_law_form" 987 (.ref 605),hE P "_law_hands" 997 (.ref 612),hE P "_law_next" 1008 (.ref 619),hE P "_law_pairs" 1017 (.ref 626),hE P "_law_slides" 1035 (.ref 633),hE P "_law_slid" 1052 (.ref 640),hE P "_law_block" 1058 (.ref 645),hE P "_law_three" 1064 (.ref 650),hE P "_law_refused" 1074 (.ref 657),hE P "_law_there_and_back" 1080 (.ref 662),hE P "_law_asked" 1086 (.ref 667),hE P "_law_handed_over" 1099 (.ref 674),hE P "law" 1105 (.ref 679)] 70),#[]⟩) ::
(nat_lit 15,o0) ::
(nat_lit 22,o1) ::
(nat_lit 23,o2 P) ::
(nat_lit 24,⟨(.type "type"),none,(.cls ⟨"KnotError",[(.type "ValueError")],[(.ref 24),(.type "ValueError"),(.type "Exception"),(.type "BaseException"),(.type "object")],23,"KnotError",.true,[],[(.ref 37),(.ref 49),(.ref 61),(.ref 73),(.ref 85),(.ref 97)],.false,none,.false⟩),#[(some (.ref 15)),none,(some (.str "KnotError" 189)),(some (.str "KnotError" 197)),(some (.builtin "ValueError.__new__")),(some (.bool .true))]⟩) ::
(nat_lit 25,o3) ::
(nat_lit 28,o4) ::
(nat_lit 35,o1) ::
(nat_lit 36,o5 P) ::
(nat_lit 37,o6) ::
(nat_lit 40,o4) ::
(nat_lit 47,o1) ::
(nat_lit 48,o7 P) ::
(nat_lit 49,o8) ::
(nat_lit 52,o4) ::
(nat_lit 59,o1) ::
(nat_lit 60,o9 P) ::
(nat_lit 61,o10) ::
(nat_lit 64,o4) ::
(nat_lit 71,o1) ::
(nat_lit 72,o11 P) ::
(nat_lit 73,o12) ::
(nat_lit 76,o4) ::
(nat_lit 83,o1) ::
(nat_lit 84,o13 P) ::
(nat_lit 85,o14) ::
(nat_lit 88,o4) ::
(nat_lit 95,o1) ::
(nat_lit 96,o15 P) ::
(nat_lit 97,o16) ::
(nat_lit 105,hD "passings_of" 307 18 1 100 (hR 102) (hR 103) (hR 104) 314) ::
(nat_lit 106,hF 10 "passings_of" (.str "knotwise.drawings" 303) (.ref 105)) ::
(nat_lit 112,hD "seated" 316 23 1 107 (hR 109) (hR 110) (hR 111) 322) ::
(nat_lit 113,hF 11 "seated" (.str "knotwise.drawings" 303) (.ref 112)) ::
(nat_lit 117,hD "seated_rows" 324 28 1 114 hN hN (hR 116) 328) ::
(nat_lit 118,hF 12 "seated_rows" (.str "knotwise.drawings" 303) (.ref 117)) ::
(nat_lit 122,hD "names_of" 330 30 1 119 hN hN (hR 121) 334) ::
(nat_lit 123,hF 13 "names_of" (.str "knotwise.drawings" 303) (.ref 122)) ::
(nat_lit 129,hD "hand_of" 336 32 2 124 (hR 126) (hR 127) (hR 128) 343) ::
(nat_lit 130,hF 14 "hand_of" (.str "knotwise.drawings" 303) (.ref 129)) ::
(nat_lit 134,hD "spots_on" 345 37 2 131 hN hN (hR 133) 349) ::
(nat_lit 135,hF 15 "spots_on" (.str "knotwise.drawings" 303) (.ref 134)) ::
(nat_lit 141,hD "next_of" 351 41 1 136 (hR 138) (hR 139) (hR 140) 360) ::
(nat_lit 142,hF 16 "next_of" (.str "knotwise.drawings" 303) (.ref 141)) ::
(nat_lit 148,hD "string_of" 362 47 2 143 (hR 145) (hR 146) (hR 147) 370) ::
(nat_lit 149,hF 17 "string_of" (.str "knotwise.drawings" 303) (.ref 148)) ::
(nat_lit 155,hD "neighbours" 374 53 3 150 (hR 152) (hR 153) (hR 154) 381) ::
(nat_lit 156,hF 19 "neighbours" (.str "knotwise.fits" 372) (.ref 155)) ::
(nat_lit 162,hD "uncurl_fits" 383 55 2 157 (hR 159) (hR 160) (hR 161) 389) ::
(nat_lit 163,hF 20 "uncurl_fits" (.str "knotwise.fits" 372) (.ref 162)) ::
(nat_lit 169,hD "part_fits" 391 57 3 164 (hR 166) (hR 167) (hR 168) 399) ::
(nat_lit 170,hF 21 "part_fits" (.str "knotwise.fits" 372) (.ref 169)) ::
(nat_lit 176,hD "in_turn" 401 62 3 171 (hR 173) (hR 174) (hR 175) 408) ::
(nat_lit 177,hF 22 "in_turn" (.str "knotwise.fits" 372) (.ref 176)) ::
(nat_lit 183,hD "slide_pairs" 410 66 5 178 (hR 180) (hR 181) (hR 182) 422) ::
(nat_lit 184,hF 23 "slide_pairs" (.str "knotwise.fits" 372) (.ref 183)) ::
(nat_lit 188,hD "slide_fits" 424 71 5 185 hN hN (hR 187) 428) ::
(nat_lit 189,hF 24 "slide_fits" (.str "knotwise.fits" 372) (.ref 188)) ::
(nat_lit 195,hD "refuse_unknown" 432 77 2 190 (hR 192) (hR 193) (hR 194) 440) ::
(nat_lit 196,hF 26 "refuse_unknown" (.str "knotwise.moves" 430) (.ref 195)) ::
(nat_lit 202,hD "refuse_unfit" 442 82 1 197 (hR 199) (hR 200) (hR 201) 447) ::
(nat_lit 203,hF 27 "refuse_unfit" (.str "knotwise.moves" 430) (.ref 202)) ::
(nat_lit 209,hD "refuse_new" 449 85 2 204 (hR 206) (hR 207) (hR 208) 457) ::
(nat_lit 210,hF 28 "refuse_new" (.str "knotwise.moves" 430) (.ref 209)) ::
(nat_lit 216,hD "with_put" 459 93 3 211 (hR 213) (hR 214) (hR 215) 469) ::
(nat_lit 217,hF 29 "with_put" (.str "knotwise.moves" 430) (.ref 216)) ::
(nat_lit 221,hD "taken_out" 471 99 2 218 hN hN (hR 220) 475) ::
(nat_lit 222,hF 30 "taken_out" (.str "knotwise.moves" 430) (.ref 221)) ::
(nat_lit 226,hD "spot_ahead" 477 104 3 223 hN hN (hR 225) 481) ::
(nat_lit 227,hF 31 "spot_ahead" (.str "knotwise.moves" 430) (.ref 226)) ::
(nat_lit 233,hD "first_in_turn" 483 112 4 228 (hR 230) (hR 231) (hR 232) 491) ::
(nat_lit 234,hF 32 "first_in_turn" (.str "knotwise.moves" 430) (.ref 233)) ::
(nat_lit 238,hD "with_changed" 493 116 2 235 hN hN (hR 237) 497) ::
(nat_lit 239,hF 33 "with_changed" (.str "knotwise.moves" 430) (.ref 238)) ::
(nat_lit 245,hD "renamed_spot" 499 126 2 240 (hR 242) (hR 243) (hR 244) 505) ::
(nat_lit 246,hF 34 "renamed_spot" (.str "knotwise.moves" 430) (.ref 245)) ::
(nat_lit 254,o1) ::
(nat_lit 255,o17 P) ::
(nat_lit 256,⟨(.type "type"),none,(.cls ⟨"Move",[(.type "object")],[(.ref 256),(.type "object")],255,"Move",.true,[],[(.ref 312),(.ref 359),(.ref 413),(.ref 467),(.ref 521)],.false,none,.false⟩),#[none,none,(some (.str "Move" 507)),(some (.str "Move" 515)),(some (.builtin "object.__new__")),(some (.bool .true))]⟩) ::
(nat_lit 257,o18) ::
(nat_lit 258,o19) ::
(nat_lit 261,P7) ::
(nat_lit 273,o21) ::
(nat_lit 274,hM 36 0 "__init__" "Uncurl.__init__" (.str "knotwise.moves" 430) (.ref 273)) ::
(nat_lit 280,o22) ::
(nat_lit 281,hM 36 1 "told" "Uncurl.told" (.str "knotwise.moves" 430) (.ref 280)) ::
(nat_lit 287,o23) ::
(nat_lit 288,hM 36 2 "refuse" "Uncurl.refuse" (.str "knotwise.moves" 430) (.ref 287)) ::
(nat_lit 294,o24) ::
(nat_lit 295,hM 36 3 "done" "Uncurl.done" (.str "knotwise.moves" 430) (.ref 294)) ::
(nat_lit 301,o25) ::
(nat_lit 302,hM 36 4 "back" "Uncurl.back" (.str "knotwise.moves" 430) (.ref 301)) ::
(nat_lit 308,o26) ::
(nat_lit 309,hM 36 5 "renamed" "Uncurl.renamed" (.str "knotwise.moves" 430) (.ref 308)) ::
(nat_lit 310,o27) ::
(nat_lit 311,o28 P) ::
(nat_lit 312,o29) ::
(nat_lit 315,P7) ::
(nat_lit 327,o30) ::
(nat_lit 328,hM 37 0 "__init__" "Curl.__init__" (.str "knotwise.moves" 430) (.ref 327)) ::
(nat_lit 334,o31) ::
(nat_lit 335,hM 37 1 "told" "Curl.told" (.str "knotwise.moves" 430) (.ref 334)) ::
(nat_lit 341,o32) ::
(nat_lit 342,hM 37 2 "done" "Curl.done" (.str "knotwise.moves" 430) (.ref 341)) ::
(nat_lit 348,o33) ::
(nat_lit 349,hM 37 3 "back" "Curl.back" (.str "knotwise.moves" 430) (.ref 348)) ::
(nat_lit 355,o34) ::
(nat_lit 356,hM 37 4 "renamed" "Curl.renamed" (.str "knotwise.moves" 430) (.ref 355)) ::
(nat_lit 357,o35) ::
(nat_lit 358,o36 P) ::
(nat_lit 359,o37) ::
(nat_lit 362,P7) ::
(nat_lit 374,o38) ::
(nat_lit 375,hM 38 0 "__init__" "Part.__init__" (.str "knotwise.moves" 430) (.ref 374)) ::
(nat_lit 381,o39) ::
(nat_lit 382,hM 38 1 "told" "Part.told" (.str "knotwise.moves" 430) (.ref 381)) ::
(nat_lit 388,o40) ::
(nat_lit 389,hM 38 2 "refuse" "Part.refuse" (.str "knotwise.moves" 430) (.ref 388)) ::
(nat_lit 395,o41) ::
(nat_lit 396,hM 38 3 "done" "Part.done" (.str "knotwise.moves" 430) (.ref 395)) ::
(nat_lit 402,o42) ::
(nat_lit 403,hM 38 4 "back" "Part.back" (.str "knotwise.moves" 430) (.ref 402)) ::
(nat_lit 409,o43) ::
(nat_lit 410,hM 38 5 "renamed" "Part.renamed" (.str "knotwise.moves" 430) (.ref 409)) ::
(nat_lit 411,o44) ::
(nat_lit 412,o45 P) ::
(nat_lit 413,o46) ::
(nat_lit 416,P7) ::
(nat_lit 428,o47) ::
(nat_lit 429,hM 39 0 "__init__" "Lay.__init__" (.str "knotwise.moves" 430) (.ref 428)) ::
(nat_lit 435,o48) ::
(nat_lit 436,hM 39 1 "told" "Lay.told" (.str "knotwise.moves" 430) (.ref 435)) ::
(nat_lit 442,o49) ::
(nat_lit 443,hM 39 2 "passings" "Lay.passings" (.str "knotwise.moves" 430) (.ref 442)) ::
(nat_lit 449,o50) ::
(nat_lit 450,hM 39 3 "done" "Lay.done" (.str "knotwise.moves" 430) (.ref 449)) ::
(nat_lit 456,o51) ::
(nat_lit 457,hM 39 4 "back" "Lay.back" (.str "knotwise.moves" 430) (.ref 456)) ::
(nat_lit 463,o52) ::
(nat_lit 464,hM 39 5 "renamed" "Lay.renamed" (.str "knotwise.moves" 430) (.ref 463)) ::
(nat_lit 465,o53) ::
(nat_lit 466,o54 P) ::
(nat_lit 467,o55) ::
(nat_lit 470,P7) ::
(nat_lit 482,o56) ::
(nat_lit 483,hM 40 0 "__init__" "Slide.__init__" (.str "knotwise.moves" 430) (.ref 482)) ::
(nat_lit 489,o57) ::
(nat_lit 490,hM 40 1 "told" "Slide.told" (.str "knotwise.moves" 430) (.ref 489)) ::
(nat_lit 496,o58) ::
(nat_lit 497,hM 40 2 "refuse" "Slide.refuse" (.str "knotwise.moves" 430) (.ref 496)) ::
(nat_lit 503,o59) ::
(nat_lit 504,hM 40 3 "done" "Slide.done" (.str "knotwise.moves" 430) (.ref 503)) ::
(nat_lit 510,o60) ::
(nat_lit 511,hM 40 4 "back" "Slide.back" (.str "knotwise.moves" 430) (.ref 510)) ::
(nat_lit 517,o61) ::
(nat_lit 518,hM 40 5 "renamed" "Slide.renamed" (.str "knotwise.moves" 430) (.ref 517)) ::
(nat_lit 519,o62) ::
(nat_lit 520,o63 P) ::
(nat_lit 521,o64) ::
(nat_lit 529,hD "move_of" 884 272 1 524 (hR 526) (hR 527) (hR 528) 889) ::
(nat_lit 530,hF 41 "move_of" (.str "knotwise.moves" 430) (.ref 529)) ::
(nat_lit 536,hD "_law_cell_at" 893 285 2 531 (hR 533) (hR 534) (hR 535) 899) ::
(nat_lit 537,hF 43 "_law_cell_at" (.str "law_knotwise_k23_slides" 891) (.ref 536)) ::
(nat_lit 543,hD "_law_whole" 901 289 1 538 (hR 540) (hR 541) (hR 542) 906) ::
(nat_lit 544,hF 44 "_law_whole" (.str "law_knotwise_k23_slides" 891) (.ref 543)) ::
(nat_lit 550,hD "_law_mixed" 908 291 1 545 (hR 547) (hR 548) (hR 549) 913) ::
(nat_lit 551,hF 45 "_law_mixed" (.str "law_knotwise_k23_slides" 891) (.ref 550)) ::
(nat_lit 557,hD "_law_names" 915 293 1 552 (hR 554) (hR 555) (hR 556) 923) ::
(nat_lit 558,hF 46 "_law_names" (.str "law_knotwise_k23_slides" 891) (.ref 557)) ::
(nat_lit 564,hD "_law_free" 925 300 2 559 (hR 561) (hR 562) (hR 563) 932) ::
(nat_lit 565,hF 47 "_law_free" (.str "law_knotwise_k23_slides" 891) (.ref 564)) ::
(nat_lit 569,hD "_law_crossed" 934 305 2 566 hN hN (hR 568) 938) ::
(nat_lit 570,hF 48 "_law_crossed" (.str "law_knotwise_k23_slides" 891) (.ref 569)) ::
(nat_lit 576,hD "_law_begun" 940 317 1 571 (hR 573) (hR 574) (hR 575) 948) ::
(nat_lit 577,hF 49 "_law_begun" (.str "law_knotwise_k23_slides" 891) (.ref 576)) ::
(nat_lit 583,hD "_law_wholes" 950 325 2 578 (hR 580) (hR 581) (hR 582) 957) ::
(nat_lit 584,hF 50 "_law_wholes" (.str "law_knotwise_k23_slides" 891) (.ref 583)) ::
(nat_lit 590,hD "_law_same" 959 332 2 585 (hR 587) (hR 588) (hR 589) 967) ::
(nat_lit 591,hF 51 "_law_same" (.str "law_knotwise_k23_slides" 891) (.ref 590)) ::
(nat_lit 597,hD "_law_tells" 969 342 2 592 (hR 594) (hR 595) (hR 596) 976) ::
(nat_lit 598,hF 52 "_law_tells" (.str "law_knotwise_k23_slides" 891) (.ref 597)) ::
(nat_lit 604,hD "_law_form" 978 354 3 599 (hR 601) (hR 602) (hR 603) 986) ::
(nat_lit 605,hF 53 "_law_form" (.str "law_knotwise_k23_slides" 891) (.ref 604)) ::
(nat_lit 611,hD "_law_hands" 988 366 1 606 (hR 608) (hR 609) (hR 610) 996) ::
(nat_lit 612,hF 54 "_law_hands" (.str "law_knotwise_k23_slides" 891) (.ref 611)) ::
(nat_lit 618,hD "_law_next" 998 372 1 613 (hR 615) (hR 616) (hR 617) 1007) ::
(nat_lit 619,hF 55 "_law_next" (.str "law_knotwise_k23_slides" 891) (.ref 618)) ::
(nat_lit 625,hD "_law_pairs" 1009 379 3 620 (hR 622) (hR 623) (hR 624) 1016) ::
(nat_lit 626,hF 56 "_law_pairs" (.str "law_knotwise_k23_slides" 891) (.ref 625)) ::
(nat_lit 632,hD "_law_slides" 1018 381 3 627 (hR 629) (hR 630) (hR 631) 1034) ::
(nat_lit 633,hF 57 "_law_slides" (.str "law_knotwise_k23_slides" 891) (.ref 632)) ::
(nat_lit 639,hD "_law_slid" 1036 392 2 634 (hR 636) (hR 637) (hR 638) 1051) ::
(nat_lit 640,hF 58 "_law_slid" (.str "law_knotwise_k23_slides" 891) (.ref 639)) ::
(nat_lit 644,hD "_law_block" 1053 406 3 641 hN hN (hR 643) 1057) ::
(nat_lit 645,hF 59 "_law_block" (.str "law_knotwise_k23_slides" 891) (.ref 644)) ::
(nat_lit 649,hD "_law_three" 1059 412 4 646 hN hN (hR 648) 1063) ::
(nat_lit 650,hF 60 "_law_three" (.str "law_knotwise_k23_slides" 891) (.ref 649)) ::
(nat_lit 656,hD "_law_refused" 1065 436 3 651 (hR 653) (hR 654) (hR 655) 1073) ::
(nat_lit 657,hF 61 "_law_refused" (.str "law_knotwise_k23_slides" 891) (.ref 656)) ::
(nat_lit 661,hD "_law_there_and_back" 1075 446 3 658 hN hN (hR 660) 1079) ::
(nat_lit 662,hF 62 "_law_there_and_back" (.str "law_knotwise_k23_slides" 891) (.ref 661)) ::
(nat_lit 666,hD "_law_asked" 1081 466 3 663 hN hN (hR 665) 1085) ::
(nat_lit 667,hF 63 "_law_asked" (.str "law_knotwise_k23_slides" 891) (.ref 666)) ::
(nat_lit 673,hD "_law_handed_over" 1087 474 2 668 (hR 670) (hR 671) (hR 672) 1098) ::
(nat_lit 674,hF 64 "_law_handed_over" (.str "law_knotwise_k23_slides" 891) (.ref 673)) ::
(nat_lit 678,hD "law" 1100 483 1 675 hN hN (hR 677) 1104) ::
(nat_lit 679,hF 65 "law" (.str "law_knotwise_k23_slides" 891) (.ref 678)) :: []
noncomputable def hA:List Addr:=[3,15,22,23,24,25,28,35,36,37,40,47,48,49,52,59,60,61,64,71,72,73,76,83,84,85,88,95,96,97,105,106,112,113,117,118,122,123,129,130,134,135,141,142,148,149,155,156,162,163,169,170,176,177,183,184,188,189,195,196,202,203,209,210,216,217,221,222,226,227,233,234,238,239,245,246,254,255,256,257,258,261,273,274,280,281,287,288,294,295,301,302,308,309,310,311,312,315,327,328,334,335,341,342,348,349,355,356,357,358,359,362,374,375,381,382,388,389,395,396,402,403,409,410,411,412,413,416,428,429,435,436,442,443,449,450,456,457,463,464,465,466,467,470,482,483,489,490,496,497,503,504,510,511,517,518,519,520,521,529,530,536,537,543,544,550,551,557,558,564,565,569,570,576,577,583,584,590,591,597,598,604,605,611,612,618,619,625,626,632,633,639,640,644,645,649,650,656,657,661,662,666,667,673,674,678,679]
noncomputable abbrev hG(st:Stmt)(n q:Str)(g b:Addr):Obj:=⟨.none,none,.func ⟨n,q,kb st,.stmts (gZ st),aR st,g,[],.none,.none,.none,.none,none,.none,.none,b⟩,#[]⟩
noncomputable def cE:Env:={ scope:=PySem.Challenge.rw_knotwise_k23_slides.row.prog.main.scope,locals:=mainNs,globals:=mainNs,cells:=[],code:=(.ref 13),frame:=some 14 }
noncomputable def cB:List Stmt:=behindTheImports PySem.Challenge.rw_knotwise_k23_slides.row.prog
noncomputable def cC:Code:=.body cB cE
noncomputable def cQ:Pos:=⟨0,0,0,0⟩
noncomputable def Ug(P:gA)(t:List Obj):List Obj:=boot_o_4 P ::
boot_o_5 P ::
boot_o_6 P ::
boot_o_7 P ::
boot_o_8 P ::
boot_o_9 P ::
boot_o_10 P ::
o1 :: t
noncomputable def Ue (P:gA) (t:List Obj):List Obj:=hC "<module>" 182 [hI 1,hI 0,hI 0,hI 0,hI 0,hR 11,(.bool .false),hI 181,hR 12,hN,hN,hN,hN,hI 185,hI 1,hS 186] ::
⟨(.type "frame"),none,.plain,#[(some (.ref 13)),(some (.ref 3)),(some (.ref 3)),none,(some (.str "__main__" 164)),none,(some (.ref 0))]⟩ :: t
noncomputable def Xb(P:gA)(t:List Obj):List Obj:=o0 ::
K5 ::
⟨(.type "dict"),none,(.dict #[hE P "__module__" 196 (.str "knotwise.errors" 187),hE P "__qualname__" 198 (.str "KnotError" 197),hE P "__firstlineno__" 200 (.int 2 199),hE P "__static_attributes__" 201 (.ref 22)] 4),#[]⟩ ::
o1 ::
kJ ::
hC "KnotError" 191 [hI 2,hI 0,hI 0,hI 0,hI 0,hR 18,(.bool .false),hI 181,hR 19,hN,hN,hN,hN,hI 194,hI 2,hS 195] ::
⟨(.type "frame"),none,.plain,#[(some (.ref 20)),(some (.ref 3)),(some (.ref 17)),none,(some (.str "knotwise.errors" 187)),none,(some (.ref 0))]⟩ ::
o1 ::
o2 P :: t
noncomputable def Xa(P:gA)(t:List Obj):List Obj:=o3 ::
⟨(.type "super"),none,(.fields #[(.ref 24),(.ref 24),(.ref 24)]),#[]⟩ ::
⟨(.type "builtin_function_or_method"),none,(.fields #[(.builtin "object.__init_subclass__"),(.ref 24)]),#[]⟩ ::
o4 ::
K5 ::
⟨(.type "dict"),none,(.dict #[hE P "__module__" 214 (.str "knotwise.errors" 187),hE P "__qualname__" 216 (.str "NoName" 215),hE P "__firstlineno__" 218 (.int 4 217),hE P "__static_attributes__" 219 (.ref 35)] 4),#[]⟩ ::
o1 ::
kJ ::
hC "NoName" 209 [hI 4,hI 0,hI 0,hI 0,hI 0,hR 31,(.bool .false),hI 181,hR 32,hN,hN,hN,hN,hI 212,hI 4,hS 213] ::
⟨(.type "frame"),none,.plain,#[(some (.ref 33)),(some (.ref 3)),(some (.ref 30)),none,(some (.str "knotwise.errors" 187)),none,(some (.ref 0))]⟩ ::
o1 ::
o5 P ::
o6 ::
⟨(.type "super"),none,(.fields #[(.ref 37),(.ref 37),(.ref 37)]),#[]⟩ ::
⟨(.type "builtin_function_or_method"),none,(.fields #[(.builtin "object.__init_subclass__"),(.ref 37)]),#[]⟩ ::
o4 ::
K5 ::
⟨(.type "dict"),none,(.dict #[hE P "__module__" 230 (.str "knotwise.errors" 187),hE P "__qualname__" 232 (.str "NameTaken" 231),hE P "__firstlineno__" 234 (.int 6 233),hE P "__static_attributes__" 235 (.ref 47)] 4),#[]⟩ ::
o1 ::
kJ ::
hC "NameTaken" 225 [hI 6,hI 0,hI 0,hI 0,hI 0,hR 43,(.bool .false),hI 181,hR 44,hN,hN,hN,hN,hI 228,hI 6,hS 229] ::
⟨(.type "frame"),none,.plain,#[(some (.ref 45)),(some (.ref 3)),(some (.ref 42)),none,(some (.str "knotwise.errors" 187)),none,(some (.ref 0))]⟩ ::
o1 ::
o7 P ::
o8 ::
⟨(.type "super"),none,(.fields #[(.ref 49),(.ref 49),(.ref 49)]),#[]⟩ ::
⟨(.type "builtin_function_or_method"),none,(.fields #[(.builtin "object.__init_subclass__"),(.ref 49)]),#[]⟩ ::
o4 ::
K5 ::
⟨(.type "dict"),none,(.dict #[hE P "__module__" 246 (.str "knotwise.errors" 187),hE P "__qualname__" 248 (.str "NoSpot" 247),hE P "__firstlineno__" 250 (.int 8 249),hE P "__static_attributes__" 251 (.ref 59)] 4),#[]⟩ ::
o1 ::
kJ ::
hC "NoSpot" 241 [hI 8,hI 0,hI 0,hI 0,hI 0,hR 55,(.bool .false),hI 181,hR 56,hN,hN,hN,hN,hI 244,hI 8,hS 245] ::
⟨(.type "frame"),none,.plain,#[(some (.ref 57)),(some (.ref 3)),(some (.ref 54)),none,(some (.str "knotwise.errors" 187)),none,(some (.ref 0))]⟩ ::
o1 ::
o9 P ::
o10 ::
⟨(.type "super"),none,(.fields #[(.ref 61),(.ref 61),(.ref 61)]),#[]⟩ ::
⟨(.type "builtin_function_or_method"),none,(.fields #[(.builtin "object.__init_subclass__"),(.ref 61)]),#[]⟩ ::
o4 ::
K5 ::
⟨(.type "dict"),none,(.dict #[hE P "__module__" 262 (.str "knotwise.errors" 187),hE P "__qualname__" 264 (.str "TooMany" 263),hE P "__firstlineno__" 266 (.int 10 265),hE P "__static_attributes__" 267 (.ref 71)] 4),#[]⟩ ::
o1 ::
kJ ::
hC "TooMany" 257 [hI 10,hI 0,hI 0,hI 0,hI 0,hR 67,(.bool .false),hI 181,hR 68,hN,hN,hN,hN,hI 260,hI 10,hS 261] ::
⟨(.type "frame"),none,.plain,#[(some (.ref 69)),(some (.ref 3)),(some (.ref 66)),none,(some (.str "knotwise.errors" 187)),none,(some (.ref 0))]⟩ ::
o1 ::
o11 P ::
o12 ::
⟨(.type "super"),none,(.fields #[(.ref 73),(.ref 73),(.ref 73)]),#[]⟩ ::
⟨(.type "builtin_function_or_method"),none,(.fields #[(.builtin "object.__init_subclass__"),(.ref 73)]),#[]⟩ :: t
noncomputable def Z9(P:gA)(t:List Obj):List Obj:=o4 ::
K5 ::
⟨(.type "dict"),none,(.dict #[hE P "__module__" 278 (.str "knotwise.errors" 187),hE P "__qualname__" 280 (.str "NoFit" 279),hE P "__firstlineno__" 282 (.int 12 281),hE P "__static_attributes__" 283 (.ref 83)] 4),#[]⟩ ::
o1 ::
kJ ::
hC "NoFit" 273 [hI 12,hI 0,hI 0,hI 0,hI 0,hR 79,(.bool .false),hI 181,hR 80,hN,hN,hN,hN,hI 276,hI 12,hS 277] ::
⟨(.type "frame"),none,.plain,#[(some (.ref 81)),(some (.ref 3)),(some (.ref 78)),none,(some (.str "knotwise.errors" 187)),none,(some (.ref 0))]⟩ ::
o1 ::
o13 P ::
o14 ::
⟨(.type "super"),none,(.fields #[(.ref 85),(.ref 85),(.ref 85)]),#[]⟩ ::
⟨(.type "builtin_function_or_method"),none,(.fields #[(.builtin "object.__init_subclass__"),(.ref 85)]),#[]⟩ ::
o4 ::
K5 ::
⟨(.type "dict"),none,(.dict #[hE P "__module__" 294 (.str "knotwise.errors" 187),hE P "__qualname__" 296 (.str "NoMove" 295),hE P "__firstlineno__" 298 (.int 14 297),hE P "__static_attributes__" 299 (.ref 95)] 4),#[]⟩ ::
o1 ::
kJ ::
hC "NoMove" 289 [hI 14,hI 0,hI 0,hI 0,hI 0,hR 91,(.bool .false),hI 181,hR 92,hN,hN,hN,hN,hI 292,hI 14,hS 293] ::
⟨(.type "frame"),none,.plain,#[(some (.ref 93)),(some (.ref 3)),(some (.ref 90)),none,(some (.str "knotwise.errors" 187)),none,(some (.ref 0))]⟩ ::
o1 ::
o15 P ::
o16 ::
⟨(.type "super"),none,(.fields #[(.ref 97),(.ref 97),(.ref 97)]),#[]⟩ ::
⟨(.type "builtin_function_or_method"),none,(.fields #[(.builtin "object.__init_subclass__"),(.ref 97)]),#[]⟩ ::
o1 ::
kJ ::
⟨(.type "tuple"),none,(.seq #[(.str "rows" 310),(.str "passings" 311),(.str "row" 312)] 0),#[]⟩ ::
o1 ::
hG (top 10) "passings_of" "passings_of" 0 0 ::
hD "passings_of" 307 18 1 100 (hR 102) (hR 103) (hR 104) 314 ::
hF 10 "passings_of" (.str "knotwise.drawings" 303) (.ref 105) ::
o1 ::
kJ ::
⟨(.type "tuple"),none,(.seq #[(.str "row" 319),(.str "start" 320)] 0),#[]⟩ ::
o1 ::
hG (top 11) "seated" "seated" 0 0 ::
hD "seated" 316 23 1 107 (hR 109) (hR 110) (hR 111) 322 ::
hF 11 "seated" (.str "knotwise.drawings" 303) (.ref 112) ::
o1 ::
kJ ::
hG (top 12) "seated_rows" "seated_rows" 0 0 ::
hD "seated_rows" 324 28 1 114 hN hN (hR 116) 328 ::
hF 12 "seated_rows" (.str "knotwise.drawings" 303) (.ref 117) ::
o1 ::
kJ ::
hG (top 13) "names_of" "names_of" 0 0 ::
hD "names_of" 330 30 1 119 hN hN (hR 121) 334 ::
hF 13 "names_of" (.str "knotwise.drawings" 303) (.ref 122) ::
o1 ::
kJ ::
⟨(.type "tuple"),none,(.seq #[(.str "drawing" 339),(.str "name" 340),(.str "passing" 341)] 0),#[]⟩ ::
o1 ::
hG (top 14) "hand_of" "hand_of" 0 0 ::
hD "hand_of" 336 32 2 124 (hR 126) (hR 127) (hR 128) 343 ::
hF 14 "hand_of" (.str "knotwise.drawings" 303) (.ref 129) ::
o1 ::
kJ ::
hG (top 15) "spots_on" "spots_on" 0 0 ::
hD "spots_on" 345 37 2 131 hN hN (hR 133) 349 ::
hF 15 "spots_on" (.str "knotwise.drawings" 303) (.ref 134) ::
o1 ::
kJ ::
⟨(.type "tuple"),none,(.seq #[(.str "drawing" 354),(.str "behind" 355),(.str "row" 356),(.str "passing" 357),(.str "follower" 358)] 0),#[]⟩ ::
o1 ::
hG (top 16) "next_of" "next_of" 0 0 ::
hD "next_of" 351 41 1 136 (hR 138) (hR 139) (hR 140) 360 ::
hF 16 "next_of" (.str "knotwise.drawings" 303) (.ref 141) ::
o1 ::
kJ ::
⟨(.type "tuple"),none,(.seq #[(.str "drawing" 365),(.str "spot" 366),(.str "string" 367),(.str "row" 368)] 0),#[]⟩ ::
o1 ::
hG (top 17) "string_of" "string_of" 0 0 ::
hD "string_of" 362 47 2 143 (hR 145) (hR 146) (hR 147) 370 ::
hF 17 "string_of" (.str "knotwise.drawings" 303) (.ref 148) ::
o1 ::
kJ ::
⟨(.type "tuple"),none,(.seq #[(.str "behind" 377),(.str "one" 378),(.str "other" 379)] 0),#[]⟩ ::
o1 ::
hG (top 19) "neighbours" "neighbours" 0 0 ::
hD "neighbours" 374 53 3 150 (hR 152) (hR 153) (hR 154) 381 ::
hF 19 "neighbours" (.str "knotwise.fits" 372) (.ref 155) ::
o1 ::
kJ ::
⟨(.type "tuple"),none,(.seq #[(.str "drawing" 386),(.str "name" 387)] 0),#[]⟩ ::
o1 ::
hG (top 20) "uncurl_fits" "uncurl_fits" 0 0 ::
hD "uncurl_fits" 383 55 2 157 (hR 159) (hR 160) (hR 161) 389 ::
hF 20 "uncurl_fits" (.str "knotwise.fits" 372) (.ref 162) ::
o1 ::
kJ ::
⟨(.type "tuple"),none,(.seq #[(.str "drawing" 394),(.str "name" 395),(.str "second" 396),(.str "behind" 397)] 0),#[]⟩ ::
o1 ::
hG (top 21) "part_fits" "part_fits" 0 0 ::
hD "part_fits" 391 57 3 164 (hR 166) (hR 167) (hR 168) 399 ::
hF 21 "part_fits" (.str "knotwise.fits" 372) (.ref 169) ::
o1 ::
kJ ::
⟨(.type "tuple"),none,(.seq #[(.str "one" 404),(.str "other" 405),(.str "turn" 406)] 0),#[]⟩ ::
o1 ::
hG (top 22) "in_turn" "in_turn" 0 0 ::
hD "in_turn" 401 62 3 171 (hR 173) (hR 174) (hR 175) 408 ::
hF 22 "in_turn" (.str "knotwise.fits" 372) (.ref 176) ::
o1 ::
kJ ::
⟨(.type "tuple"),none,(.seq #[(.str "drawing" 413),(.str "name" 414),(.str "second" 415),(.str "third" 416),(.str "turn" 417),(.str "first_hand" 418),(.str "second_hand" 419),(.str "third_hand" 420)] 0),#[]⟩ ::
o1 ::
hG (top 23) "slide_pairs" "slide_pairs" 0 0 ::
hD "slide_pairs" 410 66 5 178 (hR 180) (hR 181) (hR 182) 422 ::
hF 23 "slide_pairs" (.str "knotwise.fits" 372) (.ref 183) ::
o1 ::
kJ ::
hG (top 24) "slide_fits" "slide_fits" 0 0 ::
hD "slide_fits" 424 71 5 185 hN hN (hR 187) 428 ::
hF 24 "slide_fits" (.str "knotwise.fits" 372) (.ref 188) ::
o1 ::
kJ ::
⟨(.type "tuple"),none,(.seq #[(.str "drawing" 435),(.str "names" 436),(.str "known" 437),(.str "name" 438)] 0),#[]⟩ ::
o1 ::
hG (top 26) "refuse_unknown" "refuse_unknown" 0 0 ::
hD "refuse_unknown" 432 77 2 190 (hR 192) (hR 193) (hR 194) 440 ::
hF 26 "refuse_unknown" (.str "knotwise.moves" 430) (.ref 195) ::
o1 ::
kJ ::
⟨(.type "tuple"),none,(.seq #[(.str "fits" 445)] 0),#[]⟩ ::
o1 ::
hG (top 27) "refuse_unfit" "refuse_unfit" 0 0 ::
hD "refuse_unfit" 442 82 1 197 (hR 199) (hR 200) (hR 201) 447 ::
hF 27 "refuse_unfit" (.str "knotwise.moves" 430) (.ref 202) ::
o1 ::
kJ ::
⟨(.type "tuple"),none,(.seq #[(.str "drawing" 452),(.str "names" 453),(.str "taken" 454),(.str "name" 455)] 0),#[]⟩ ::
o1 ::
hG (top 28) "refuse_new" "refuse_new" 0 0 ::
hD "refuse_new" 449 85 2 204 (hR 206) (hR 207) (hR 208) 457 ::
hF 28 "refuse_new" (.str "knotwise.moves" 430) (.ref 209) ::
o1 ::
kJ ::
⟨(.type "tuple"),none,(.seq #[(.str "drawing" 462),(.str "spot" 463),(.str "passings" 464),(.str "string" 465),(.str "rows" 466),(.str "place" 467)] 0),#[]⟩ ::
o1 ::
hG (top 29) "with_put" "with_put" 0 0 ::
hD "with_put" 459 93 3 211 (hR 213) (hR 214) (hR 215) 469 ::
hF 29 "with_put" (.str "knotwise.moves" 430) (.ref 216) ::
o1 ::
kJ ::
hG (top 30) "taken_out" "taken_out" 0 0 ::
hD "taken_out" 471 99 2 218 hN hN (hR 220) 475 ::
hF 30 "taken_out" (.str "knotwise.moves" 430) (.ref 221) :: t
noncomputable def cr5(P:gA)(t:List Obj):List Obj:=o1 ::
kJ ::
hG (top 31) "spot_ahead" "spot_ahead" 0 0 ::
hD "spot_ahead" 477 104 3 223 hN hN (hR 225) 481 ::
hF 31 "spot_ahead" (.str "knotwise.moves" 430) (.ref 226) ::
o1 ::
kJ ::
⟨(.type "tuple"),none,(.seq #[(.str "drawing" 486),(.str "name" 487),(.str "second" 488),(.str "way" 489)] 0),#[]⟩ ::
o1 ::
hG (top 32) "first_in_turn" "first_in_turn" 0 0 ::
hD "first_in_turn" 483 112 4 228 (hR 230) (hR 231) (hR 232) 491 ::
hF 32 "first_in_turn" (.str "knotwise.moves" 430) (.ref 233) ::
o1 ::
kJ ::
hG (top 33) "with_changed" "with_changed" 0 0 ::
hD "with_changed" 493 116 2 235 hN hN (hR 237) 497 ::
hF 33 "with_changed" (.str "knotwise.moves" 430) (.ref 238) ::
o1 ::
kJ ::
⟨(.type "tuple"),none,(.seq #[(.str "spot" 502),(.str "names" 503)] 0),#[]⟩ ::
o1 ::
hG (top 34) "renamed_spot" "renamed_spot" 0 0 ::
hD "renamed_spot" 499 126 2 240 (hR 242) (hR 243) (hR 244) 505 ::
hF 34 "renamed_spot" (.str "knotwise.moves" 430) (.ref 245) ::
o1 ::
K5 ::
⟨(.type "dict"),none,(.dict #[hE P "__module__" 514 (.str "knotwise.moves" 430),hE P "__qualname__" 516 (.str "Move" 515),hE P "__firstlineno__" 518 (.int 130 517),hE P "__static_attributes__" 519 (.ref 254)] 4),#[]⟩ ::
o1 ::
kJ ::
hC "Move" 509 [hI 130,hI 0,hI 0,hI 0,hI 0,hR 250,(.bool .false),hI 181,hR 251,hN,hN,hN,hN,hI 512,hI 130,hS 513] ::
⟨(.type "frame"),none,.plain,#[(some (.ref 252)),(some (.ref 3)),(some (.ref 249)),none,(some (.str "knotwise.moves" 430)),none,(some (.ref 0))]⟩ ::
o1 ::
o17 P :: t
noncomputable def cr6(P:gA)(t:List Obj):List Obj:=o18 ::
o19 ::
⟨(.type "super"),none,(.fields #[(.ref 256),(.ref 256),(.ref 256)]),#[]⟩ ::
⟨(.type "builtin_function_or_method"),none,(.fields #[(.builtin "object.__init_subclass__"),(.ref 256)]),#[]⟩ ::
P7 ::
K5 ::
⟨(.type "dict"),none,(.dict #[hE P "__module__" 534 (.str "knotwise.moves" 430),hE P "__qualname__" 536 (.str "Uncurl" 535),hE P "__firstlineno__" 538 (.int 132 537),hE P "__init__" 546 (.ref 274),hE P "told" 553 (.ref 281),hE P "refuse" 561 (.ref 288),hE P "done" 569 (.ref 295),hE P "back" 581 (.ref 302),hE P "renamed" 589 (.ref 309),hE P "__static_attributes__" 591 (.ref 310)] 10),#[]⟩ ::
o1 ::
⟨.none,none,(.fields #[(.int 134 0),(.int 4 0),(.ref 273),(.int 137 0),(.int 4 0),(.ref 280),(.int 140 0),(.int 4 0),(.ref 287),(.int 144 0),(.int 4 0),(.ref 294),(.int 148 0),(.int 4 0),(.ref 301),(.int 156 0),(.int 4 0),(.ref 308)]),#[]⟩ ::
hC "Uncurl" 529 [hI 132,hI 0,hI 0,hI 0,hI 0,hR 264,(.bool .false),hI 181,hR 265,hN,hN,hN,hN,hI 532,hI 132,hS 533] ::
⟨(.type "frame"),none,.plain,#[(some (.ref 266)),(some (.ref 3)),(some (.ref 263)),none,(some (.str "knotwise.moves" 430)),none,(some (.ref 0))]⟩ ::
o1 ::
kJ ::
⟨(.type "tuple"),none,(.seq #[(.str "self" 542),(.str "name" 543)] 0),#[]⟩ ::
o1 ::
hG (jH 36 0) "__init__" "Uncurl.__init__" 0 0 ::
o21 ::
hM 36 0 "__init__" "Uncurl.__init__" (.str "knotwise.moves" 430) (.ref 273) ::
o1 ::
kJ ::
⟨(.type "tuple"),none,(.seq #[(.str "self" 550)] 0),#[]⟩ ::
o1 ::
hG (jH 36 1) "told" "Uncurl.told" 0 0 ::
o22 ::
hM 36 1 "told" "Uncurl.told" (.str "knotwise.moves" 430) (.ref 280) ::
o1 ::
kJ ::
⟨(.type "tuple"),none,(.seq #[(.str "self" 557),(.str "drawing" 558)] 0),#[]⟩ ::
o1 ::
hG (jH 36 2) "refuse" "Uncurl.refuse" 0 0 ::
o23 ::
hM 36 2 "refuse" "Uncurl.refuse" (.str "knotwise.moves" 430) (.ref 287) ::
o1 ::
kJ ::
⟨(.type "tuple"),none,(.seq #[(.str "self" 565),(.str "drawing" 566)] 0),#[]⟩ ::
o1 ::
hG (jH 36 3) "done" "Uncurl.done" 0 0 ::
o24 ::
hM 36 3 "done" "Uncurl.done" (.str "knotwise.moves" 430) (.ref 294) ::
o1 ::
kJ ::
⟨(.type "tuple"),none,(.seq #[(.str "self" 573),(.str "drawing" 574),(.str "over" 575),(.str "under" 576),(.str "first" 577),(.str "spot" 578)] 0),#[]⟩ ::
o1 ::
hG (jH 36 4) "back" "Uncurl.back" 0 0 ::
o25 ::
hM 36 4 "back" "Uncurl.back" (.str "knotwise.moves" 430) (.ref 301) ::
o1 ::
kJ ::
⟨(.type "tuple"),none,(.seq #[(.str "self" 585),(.str "names" 586)] 0),#[]⟩ ::
o1 ::
hG (jH 36 5) "renamed" "Uncurl.renamed" 0 0 ::
o26 ::
hM 36 5 "renamed" "Uncurl.renamed" (.str "knotwise.moves" 430) (.ref 308) ::
o27 ::
o28 P ::
o29 ::
⟨(.type "super"),none,(.fields #[(.ref 312),(.ref 312),(.ref 312)]),#[]⟩ ::
⟨(.type "builtin_function_or_method"),none,(.fields #[(.builtin "object.__init_subclass__"),(.ref 312)]),#[]⟩ ::
P7 ::
K5 ::
⟨(.type "dict"),none,(.dict #[hE P "__module__" 602 (.str "knotwise.moves" 430),hE P "__qualname__" 604 (.str "Curl" 603),hE P "__firstlineno__" 606 (.int 158 605),hE P "__init__" 617 (.ref 328),hE P "told" 624 (.ref 335),hE P "done" 633 (.ref 342),hE P "back" 641 (.ref 349),hE P "renamed" 649 (.ref 356),hE P "__static_attributes__" 654 (.ref 357)] 9),#[]⟩ ::
o1 ::
⟨.none,none,(.fields #[(.int 160 0),(.int 4 0),(.ref 327),(.int 166 0),(.int 4 0),(.ref 334),(.int 169 0),(.int 4 0),(.ref 341),(.int 174 0),(.int 4 0),(.ref 348),(.int 178 0),(.int 4 0),(.ref 355)]),#[]⟩ ::
hC "Curl" 597 [hI 158,hI 0,hI 0,hI 0,hI 0,hR 318,(.bool .false),hI 181,hR 319,hN,hN,hN,hN,hI 600,hI 158,hS 601] ::
⟨(.type "frame"),none,.plain,#[(some (.ref 320)),(some (.ref 3)),(some (.ref 317)),none,(some (.str "knotwise.moves" 430)),none,(some (.ref 0))]⟩ ::
o1 ::
kJ ::
⟨(.type "tuple"),none,(.seq #[(.str "self" 610),(.str "name" 611),(.str "spot" 612),(.str "first" 613),(.str "hand" 614)] 0),#[]⟩ ::
o1 ::
hG (jH 37 0) "__init__" "Curl.__init__" 0 0 ::
o30 ::
hM 37 0 "__init__" "Curl.__init__" (.str "knotwise.moves" 430) (.ref 327) ::
o1 ::
kJ ::
⟨(.type "tuple"),none,(.seq #[(.str "self" 621)] 0),#[]⟩ ::
o1 ::
hG (jH 37 1) "told" "Curl.told" 0 0 ::
o31 ::
hM 37 1 "told" "Curl.told" (.str "knotwise.moves" 430) (.ref 334) ::
o1 ::
kJ ::
⟨(.type "tuple"),none,(.seq #[(.str "self" 628),(.str "drawing" 629),(.str "passings" 630)] 0),#[]⟩ ::
o1 ::
hG (jH 37 2) "done" "Curl.done" 0 0 ::
o32 ::
hM 37 2 "done" "Curl.done" (.str "knotwise.moves" 430) (.ref 341) ::
o1 ::
kJ ::
⟨(.type "tuple"),none,(.seq #[(.str "self" 637),(.str "drawing" 638)] 0),#[]⟩ ::
o1 ::
hG (jH 37 3) "back" "Curl.back" 0 0 ::
o33 ::
hM 37 3 "back" "Curl.back" (.str "knotwise.moves" 430) (.ref 348) ::
o1 ::
kJ ::
⟨(.type "tuple"),none,(.seq #[(.str "self" 645),(.str "names" 646)] 0),#[]⟩ ::
o1 ::
hG (jH 37 4) "renamed" "Curl.renamed" 0 0 ::
o34 ::
hM 37 4 "renamed" "Curl.renamed" (.str "knotwise.moves" 430) (.ref 355) ::
o35 ::
o36 P ::
o37 ::
⟨(.type "super"),none,(.fields #[(.ref 359),(.ref 359),(.ref 359)]),#[]⟩ ::
⟨(.type "builtin_function_or_method"),none,(.fields #[(.builtin "object.__init_subclass__"),(.ref 359)]),#[]⟩ :: t
noncomputable def cL0(P:gA):List Obj:=LX P ::
LW P ::
LV P ::
boot_o_3 P ::
Ug P (⟨.none,none,(.fields #[]),#[]⟩ ::
Ue P ([]))
noncomputable def cS0(w:World)(os:kd):nk:=⟨K2.bt (cL0 w.params),15,{},ki [],iV,187,os⟩
noncomputable def cL1(P:gA):List Obj:=LX P ::
LW P ::
LV P ::
boot_o_3 P ::
Ug P (⟨.none,none,(.fields #[]),#[]⟩ ::
Ue P ([]))
noncomputable def cS1(w:World)(os:kd):nk:=⟨K2.bt (cL1 w.params),15,{},ki [],iV,187,os⟩
noncomputable def cL2(P:gA):List Obj:=LX P ::
LW P ::
LV P ::
⟨(.type "dict"),none,(.dict #[hE P "__name__" 165 (.str "knotwise.errors" 187),hE P "__doc__" 166 .none,hE P "__package__" 167 .none,hE P "__loader__" 168 (.builtin "__main__.__loader__#opaque"),hE P "__spec__" 169 .none,hE P "__annotations__" 170 (.ref 6),hE P "__builtins__" 171 (.ref 4),hE P "__file__" 173 (.str "/claim/cut.py" 172),hE P "__cached__" 174 .none,hE P "KnotError" 206 (.ref 24),hE P "NoName" 222 (.ref 37),hE P "NameTaken" 238 (.ref 49),hE P "NoSpot" 254 (.ref 61),hE P "TooMany" 270 (.ref 73)] 14),#[]⟩ ::
Ug P (⟨.none,none,(.fields #[(.int 2 0),(.int 0 0),(.ref 20),(.int 4 0),(.int 0 0),(.ref 33),(.int 6 0),(.int 0 0),(.ref 45),(.int 8 0),(.int 0 0),(.ref 57),(.int 10 0),(.int 0 0),(.ref 69)]),#[]⟩ ::
Ue P (Xb P (⟨(.type "type"),none,(.cls ⟨"KnotError",[(.type "ValueError")],[(.ref 24),(.type "ValueError"),(.type "Exception"),(.type "BaseException"),(.type "object")],23,"KnotError",.true,[],[(.ref 37),(.ref 49),(.ref 61),(.ref 73)],.false,none,.false⟩),#[(some (.ref 15)),none,(some (.str "KnotError" 189)),(some (.str "KnotError" 197)),(some (.builtin "ValueError.__new__")),(some (.bool .true))]⟩ ::
Xa P ([]))))
noncomputable def cS2(w:World)(os:kd):nk:=⟨K2.bt (cL2 w.params),76,{},ki [],iV,271,os⟩
noncomputable def cL3(P:gA):List Obj:=LX P ::
LW P ::
LV P ::
⟨(.type "dict"),none,(.dict #[hE P "__name__" 165 (.str "knotwise.moves" 430),hE P "__doc__" 166 .none,hE P "__package__" 167 .none,hE P "__loader__" 168 (.builtin "__main__.__loader__#opaque"),hE P "__spec__" 169 .none,hE P "__annotations__" 170 (.ref 6),hE P "__builtins__" 171 (.ref 4),hE P "__file__" 173 (.str "/claim/cut.py" 172),hE P "__cached__" 174 .none,hE P "KnotError" 206 (.ref 24),hE P "NoName" 222 (.ref 37),hE P "NameTaken" 238 (.ref 49),hE P "NoSpot" 254 (.ref 61),hE P "TooMany" 270 (.ref 73),hE P "NoFit" 286 (.ref 85),hE P "NoMove" 302 (.ref 97),hE P "MOST_CROSSINGS" 306 (.int 12 305),hE P "passings_of" 315 (.ref 106),hE P "seated" 323 (.ref 113),hE P "seated_rows" 329 (.ref 118),hE P "names_of" 335 (.ref 123),hE P "hand_of" 344 (.ref 130),hE P "spots_on" 350 (.ref 135),hE P "next_of" 361 (.ref 142),hE P "string_of" 371 (.ref 149),hE P "neighbours" 382 (.ref 156),hE P "uncurl_fits" 390 (.ref 163),hE P "part_fits" 400 (.ref 170),hE P "in_turn" 409 (.ref 177),hE P "slide_pairs" 423 (.ref 184),hE P "slide_fits" 429 (.ref 189),hE P "refuse_unknown" 441 (.ref 196),hE P "refuse_unfit" 448 (.ref 203),hE P "refuse_new" 458 (.ref 210),hE P "with_put" 470 (.ref 217),hE P "taken_out" 476 (.ref 222)] 36),#[]⟩ ::
Ug P (⟨.none,none,(.fields #[(.int 2 0),(.int 0 0),(.ref 20),(.int 4 0),(.int 0 0),(.ref 33),(.int 6 0),(.int 0 0),(.ref 45),(.int 8 0),(.int 0 0),(.ref 57),(.int 10 0),(.int 0 0),(.ref 69),(.int 12 0),(.int 0 0),(.ref 81),(.int 14 0),(.int 0 0),(.ref 93),(.int 18 0),(.int 0 0),(.ref 105),(.int 23 0),(.int 0 0),(.ref 112),(.int 28 0),(.int 0 0),(.ref 117),(.int 30 0),(.int 0 0),(.ref 122),(.int 32 0),(.int 0 0),(.ref 129),(.int 37 0),(.int 0 0),(.ref 134),(.int 41 0),(.int 0 0),(.ref 141),(.int 47 0),(.int 0 0),(.ref 148),(.int 53 0),(.int 0 0),(.ref 155),(.int 55 0),(.int 0 0),(.ref 162),(.int 57 0),(.int 0 0),(.ref 169),(.int 62 0),(.int 0 0),(.ref 176),(.int 66 0),(.int 0 0),(.ref 183),(.int 71 0),(.int 0 0),(.ref 188),(.int 77 0),(.int 0 0),(.ref 195),(.int 82 0),(.int 0 0),(.ref 202),(.int 85 0),(.int 0 0),(.ref 209),(.int 93 0),(.int 0 0),(.ref 216),(.int 99 0),(.int 0 0),(.ref 221)]),#[]⟩ ::
Ue P (Xb P (⟨(.type "type"),none,(.cls ⟨"KnotError",[(.type "ValueError")],[(.ref 24),(.type "ValueError"),(.type "Exception"),(.type "BaseException"),(.type "object")],23,"KnotError",.true,[],[(.ref 37),(.ref 49),(.ref 61),(.ref 73),(.ref 85),(.ref 97)],.false,none,.false⟩),#[(some (.ref 15)),none,(some (.str "KnotError" 189)),(some (.str "KnotError" 197)),(some (.builtin "ValueError.__new__")),(some (.bool .true))]⟩ ::
Xa P (Z9 P ([])))))
noncomputable def cS3(w:World)(os:kd):nk:=⟨K2.bt (cL3 w.params),223,{},ki [],iV,477,os⟩
noncomputable def cL4(P:gA):List Obj:=LX P ::
LW P ::
LV P ::
⟨(.type "dict"),none,(.dict #[hE P "__name__" 165 (.str "knotwise.moves" 430),hE P "__doc__" 166 .none,hE P "__package__" 167 .none,hE P "__loader__" 168 (.builtin "__main__.__loader__#opaque"),hE P "__spec__" 169 .none,hE P "__annotations__" 170 (.ref 6),hE P "__builtins__" 171 (.ref 4),hE P "__file__" 173 (.str "/claim/cut.py" 172),hE P "__cached__" 174 .none,hE P "KnotError" 206 (.ref 24),hE P "NoName" 222 (.ref 37),hE P "NameTaken" 238 (.ref 49),hE P "NoSpot" 254 (.ref 61),hE P "TooMany" 270 (.ref 73),hE P "NoFit" 286 (.ref 85),hE P "NoMove" 302 (.ref 97),hE P "MOST_CROSSINGS" 306 (.int 12 305),hE P "passings_of" 315 (.ref 106),hE P "seated" 323 (.ref 113),hE P "seated_rows" 329 (.ref 118),hE P "names_of" 335 (.ref 123),hE P "hand_of" 344 (.ref 130),hE P "spots_on" 350 (.ref 135),hE P "next_of" 361 (.ref 142),hE P "string_of" 371 (.ref 149),hE P "neighbours" 382 (.ref 156),hE P "uncurl_fits" 390 (.ref 163),hE P "part_fits" 400 (.ref 170),hE P "in_turn" 409 (.ref 177),hE P "slide_pairs" 423 (.ref 184),hE P "slide_fits" 429 (.ref 189),hE P "refuse_unknown" 441 (.ref 196),hE P "refuse_unfit" 448 (.ref 203),hE P "refuse_new" 458 (.ref 210),hE P "with_put" 470 (.ref 217),hE P "taken_out" 476 (.ref 222),hE P "spot_ahead" 482 (.ref 227),hE P "first_in_turn" 492 (.ref 234),hE P "with_changed" 498 (.ref 239),hE P "renamed_spot" 506 (.ref 246),hE P "Move" 526 (.ref 256),hE P "Uncurl" 594 (.ref 312),hE P "Curl" 657 (.ref 359)] 43),#[]⟩ ::
Ug P (⟨.none,none,(.fields #[(.int 2 0),(.int 0 0),(.ref 20),(.int 4 0),(.int 0 0),(.ref 33),(.int 6 0),(.int 0 0),(.ref 45),(.int 8 0),(.int 0 0),(.ref 57),(.int 10 0),(.int 0 0),(.ref 69),(.int 12 0),(.int 0 0),(.ref 81),(.int 14 0),(.int 0 0),(.ref 93),(.int 18 0),(.int 0 0),(.ref 105),(.int 23 0),(.int 0 0),(.ref 112),(.int 28 0),(.int 0 0),(.ref 117),(.int 30 0),(.int 0 0),(.ref 122),(.int 32 0),(.int 0 0),(.ref 129),(.int 37 0),(.int 0 0),(.ref 134),(.int 41 0),(.int 0 0),(.ref 141),(.int 47 0),(.int 0 0),(.ref 148),(.int 53 0),(.int 0 0),(.ref 155),(.int 55 0),(.int 0 0),(.ref 162),(.int 57 0),(.int 0 0),(.ref 169),(.int 62 0),(.int 0 0),(.ref 176),(.int 66 0),(.int 0 0),(.ref 183),(.int 71 0),(.int 0 0),(.ref 188),(.int 77 0),(.int 0 0),(.ref 195),(.int 82 0),(.int 0 0),(.ref 202),(.int 85 0),(.int 0 0),(.ref 209),(.int 93 0),(.int 0 0),(.ref 216),(.int 99 0),(.int 0 0),(.ref 221),(.int 104 0),(.int 0 0),(.ref 226),(.int 112 0),(.int 0 0),(.ref 233),(.int 116 0),(.int 0 0),(.ref 238),(.int 126 0),(.int 0 0),(.ref 245),(.int 130 0),(.int 0 0),(.ref 252),(.int 132 0),(.int 0 0),(.ref 266),(.int 158 0),(.int 0 0),(.ref 320)]),#[]⟩ ::
Ue P (Xb P (⟨(.type "type"),none,(.cls ⟨"KnotError",[(.type "ValueError")],[(.ref 24),(.type "ValueError"),(.type "Exception"),(.type "BaseException"),(.type "object")],23,"KnotError",.true,[],[(.ref 37),(.ref 49),(.ref 61),(.ref 73),(.ref 85),(.ref 97)],.false,none,.false⟩),#[(some (.ref 15)),none,(some (.str "KnotError" 189)),(some (.str "KnotError" 197)),(some (.builtin "ValueError.__new__")),(some (.bool .true))]⟩ ::
Xa P (Z9 P (cr5 P (⟨(.type "type"),none,(.cls ⟨"Move",[(.type "object")],[(.ref 256),(.type "object")],255,"Move",.true,[],[(.ref 312),(.ref 359)],.false,none,.false⟩),#[none,none,(some (.str "Move" 507)),(some (.str "Move" 515)),(some (.builtin "object.__new__")),(some (.bool .true))]⟩ ::
cr6 P ([])))))))
noncomputable def cS4(w:World)(os:kd):nk:=⟨K2.bt (cL4 w.params),362,{},ki [],iV,658,os⟩
noncomputable def cL5(P:gA):List Obj:=LX P ::
LW P ::
LV P ::
⟨(.type "dict"),none,(.dict #[hE P "__name__" 165 (.str "knotwise.moves" 430),hE P "__doc__" 166 .none,hE P "__package__" 167 .none,hE P "__loader__" 168 (.builtin "__main__.__loader__#opaque"),hE P "__spec__" 169 .none,hE P "__annotations__" 170 (.ref 6),hE P "__builtins__" 171 (.ref 4),hE P "__file__" 173 (.str "/claim/cut.py" 172),hE P "__cached__" 174 .none,hE P "KnotError" 206 (.ref 24),hE P "NoName" 222 (.ref 37),hE P "NameTaken" 238 (.ref 49),hE P "NoSpot" 254 (.ref 61),hE P "TooMany" 270 (.ref 73),hE P "NoFit" 286 (.ref 85),hE P "NoMove" 302 (.ref 97),hE P "MOST_CROSSINGS" 306 (.int 12 305),hE P "passings_of" 315 (.ref 106),hE P "seated" 323 (.ref 113),hE P "seated_rows" 329 (.ref 118),hE P "names_of" 335 (.ref 123),hE P "hand_of" 344 (.ref 130),hE P "spots_on" 350 (.ref 135),hE P "next_of" 361 (.ref 142),hE P "string_of" 371 (.ref 149),hE P "neighbours" 382 (.ref 156),hE P "uncurl_fits" 390 (.ref 163),hE P "part_fits" 400 (.ref 170),hE P "in_turn" 409 (.ref 177),hE P "slide_pairs" 423 (.ref 184),hE P "slide_fits" 429 (.ref 189),hE P "refuse_unknown" 441 (.ref 196),hE P "refuse_unfit" 448 (.ref 203),hE P "refuse_new" 458 (.ref 210),hE P "with_put" 470 (.ref 217),hE P "taken_out" 476 (.ref 222),hE P "spot_ahead" 482 (.ref 227),hE P "first_in_turn" 492 (.ref 234),hE P "with_changed" 498 (.ref 239),hE P "renamed_spot" 506 (.ref 246),hE P "Move" 526 (.ref 256),hE P "Uncurl" 594 (.ref 312),hE P "Curl" 657 (.ref 359),hE P "Part" 731 (.ref 413),hE P "Lay" 811 (.ref 467),hE P "Slide" 883 (.ref 521)] 46),#[]⟩ ::
Ug P (⟨.none,none,(.fields #[(.int 2 0),(.int 0 0),(.ref 20),(.int 4 0),(.int 0 0),(.ref 33),(.int 6 0),(.int 0 0),(.ref 45),(.int 8 0),(.int 0 0),(.ref 57),(.int 10 0),(.int 0 0),(.ref 69),(.int 12 0),(.int 0 0),(.ref 81),(.int 14 0),(.int 0 0),(.ref 93),(.int 18 0),(.int 0 0),(.ref 105),(.int 23 0),(.int 0 0),(.ref 112),(.int 28 0),(.int 0 0),(.ref 117),(.int 30 0),(.int 0 0),(.ref 122),(.int 32 0),(.int 0 0),(.ref 129),(.int 37 0),(.int 0 0),(.ref 134),(.int 41 0),(.int 0 0),(.ref 141),(.int 47 0),(.int 0 0),(.ref 148),(.int 53 0),(.int 0 0),(.ref 155),(.int 55 0),(.int 0 0),(.ref 162),(.int 57 0),(.int 0 0),(.ref 169),(.int 62 0),(.int 0 0),(.ref 176),(.int 66 0),(.int 0 0),(.ref 183),(.int 71 0),(.int 0 0),(.ref 188),(.int 77 0),(.int 0 0),(.ref 195),(.int 82 0),(.int 0 0),(.ref 202),(.int 85 0),(.int 0 0),(.ref 209),(.int 93 0),(.int 0 0),(.ref 216),(.int 99 0),(.int 0 0),(.ref 221),(.int 104 0),(.int 0 0),(.ref 226),(.int 112 0),(.int 0 0),(.ref 233),(.int 116 0),(.int 0 0),(.ref 238),(.int 126 0),(.int 0 0),(.ref 245),(.int 130 0),(.int 0 0),(.ref 252),(.int 132 0),(.int 0 0),(.ref 266),(.int 158 0),(.int 0 0),(.ref 320),(.int 180 0),(.int 0 0),(.ref 367),(.int 211 0),(.int 0 0),(.ref 421),(.int 245 0),(.int 0 0),(.ref 475)]),#[]⟩ ::
Ue P (Xb P (⟨(.type "type"),none,(.cls ⟨"KnotError",[(.type "ValueError")],[(.ref 24),(.type "ValueError"),(.type "Exception"),(.type "BaseException"),(.type "object")],23,"KnotError",.true,[],[(.ref 37),(.ref 49),(.ref 61),(.ref 73),(.ref 85),(.ref 97)],.false,none,.false⟩),#[(some (.ref 15)),none,(some (.str "KnotError" 189)),(some (.str "KnotError" 197)),(some (.builtin "ValueError.__new__")),(some (.bool .true))]⟩ ::
Xa P (Z9 P (cr5 P (⟨(.type "type"),none,(.cls ⟨"Move",[(.type "object")],[(.ref 256),(.type "object")],255,"Move",.true,[],[(.ref 312),(.ref 359),(.ref 413),(.ref 467),(.ref 521)],.false,none,.false⟩),#[none,none,(some (.str "Move" 507)),(some (.str "Move" 515)),(some (.builtin "object.__new__")),(some (.bool .true))]⟩ ::
cr6 P (⟨(.type "tuple"),none,(.seq #[(.ref 256)] 0),#[]⟩ ::
K5 ::
⟨(.type "dict"),none,(.dict #[hE P "__module__" 665 (.str "knotwise.moves" 430),hE P "__qualname__" 667 (.str "Part" 666),hE P "__firstlineno__" 669 (.int 180 668),hE P "__init__" 678 (.ref 375),hE P "told" 685 (.ref 382),hE P "refuse" 693 (.ref 389),hE P "done" 701 (.ref 396),hE P "back" 717 (.ref 403),hE P "renamed" 725 (.ref 410),hE P "__static_attributes__" 728 (.ref 411)] 10),#[]⟩ ::
o1 ::
⟨.none,none,(.fields #[(.int 182 0),(.int 4 0),(.ref 374),(.int 186 0),(.int 4 0),(.ref 381),(.int 189 0),(.int 4 0),(.ref 388),(.int 193 0),(.int 4 0),(.ref 395),(.int 197 0),(.int 4 0),(.ref 402),(.int 209 0),(.int 4 0),(.ref 409)]),#[]⟩ ::
hC "Part" 660 [hI 180,hI 0,hI 0,hI 0,hI 0,hR 365,(.bool .false),hI 181,hR 366,hN,hN,hN,hN,hI 663,hI 180,hS 664] ::
⟨(.type "frame"),none,.plain,#[(some (.ref 367)),(some (.ref 3)),(some (.ref 364)),none,(some (.str "knotwise.moves" 430)),none,(some (.ref 0))]⟩ ::
o1 ::
kJ ::
⟨(.type "tuple"),none,(.seq #[(.str "self" 673),(.str "name" 674),(.str "second" 675)] 0),#[]⟩ ::
o1 ::
hG (jH 38 0) "__init__" "Part.__init__" 0 0 ::
o38 ::
hM 38 0 "__init__" "Part.__init__" (.str "knotwise.moves" 430) (.ref 374) ::
o1 ::
kJ ::
⟨(.type "tuple"),none,(.seq #[(.str "self" 682)] 0),#[]⟩ ::
o1 ::
hG (jH 38 1) "told" "Part.told" 0 0 ::
o39 ::
hM 38 1 "told" "Part.told" (.str "knotwise.moves" 430) (.ref 381) ::
o1 ::
kJ ::
⟨(.type "tuple"),none,(.seq #[(.str "self" 689),(.str "drawing" 690)] 0),#[]⟩ ::
o1 ::
hG (jH 38 2) "refuse" "Part.refuse" 0 0 ::
o40 ::
hM 38 2 "refuse" "Part.refuse" (.str "knotwise.moves" 430) (.ref 388) ::
o1 ::
kJ ::
⟨(.type "tuple"),none,(.seq #[(.str "self" 697),(.str "drawing" 698)] 0),#[]⟩ ::
o1 ::
hG (jH 38 3) "done" "Part.done" 0 0 ::
o41 ::
hM 38 3 "done" "Part.done" (.str "knotwise.moves" 430) (.ref 395) ::
o1 ::
kJ ::
⟨(.type "tuple"),none,(.seq #[(.str "self" 705),(.str "drawing" 706),(.str "first" 707),(.str "other" 708),(.str "lower" 709),(.str "overs" 710),(.str "unders" 711),(.str "over" 712),(.str "under" 713),(.str "turned" 714)] 0),#[]⟩ ::
o1 ::
hG (jH 38 4) "back" "Part.back" 0 0 ::
o42 ::
hM 38 4 "back" "Part.back" (.str "knotwise.moves" 430) (.ref 402) ::
o1 ::
kJ ::
⟨(.type "tuple"),none,(.seq #[(.str "self" 721),(.str "names" 722)] 0),#[]⟩ ::
o1 ::
hG (jH 38 5) "renamed" "Part.renamed" 0 0 ::
o43 ::
hM 38 5 "renamed" "Part.renamed" (.str "knotwise.moves" 430) (.ref 409) ::
o44 ::
o45 P ::
o46 ::
⟨(.type "super"),none,(.fields #[(.ref 413),(.ref 413),(.ref 413)]),#[]⟩ ::
⟨(.type "builtin_function_or_method"),none,(.fields #[(.builtin "object.__init_subclass__"),(.ref 413)]),#[]⟩ ::
P7 ::
K5 ::
⟨(.type "dict"),none,(.dict #[hE P "__module__" 739 (.str "knotwise.moves" 430),hE P "__qualname__" 741 (.str "Lay" 740),hE P "__firstlineno__" 743 (.int 211 742),hE P "__init__" 756 (.ref 429),hE P "told" 763 (.ref 436),hE P "passings" 771 (.ref 443),hE P "done" 781 (.ref 450),hE P "back" 789 (.ref 457),hE P "renamed" 801 (.ref 464),hE P "__static_attributes__" 808 (.ref 465)] 10),#[]⟩ ::
o1 ::
⟨.none,none,(.fields #[(.int 213 0),(.int 4 0),(.ref 428),(.int 221 0),(.int 4 0),(.ref 435),(.int 224 0),(.int 4 0),(.ref 442),(.int 227 0),(.int 4 0),(.ref 449),(.int 235 0),(.int 4 0),(.ref 456),(.int 239 0),(.int 4 0),(.ref 463)]),#[]⟩ ::
hC "Lay" 734 [hI 211,hI 0,hI 0,hI 0,hI 0,hR 419,(.bool .false),hI 181,hR 420,hN,hN,hN,hN,hI 737,hI 211,hS 738] ::
⟨(.type "frame"),none,.plain,#[(some (.ref 421)),(some (.ref 3)),(some (.ref 418)),none,(some (.str "knotwise.moves" 430)),none,(some (.ref 0))]⟩ ::
o1 ::
kJ ::
⟨(.type "tuple"),none,(.seq #[(.str "self" 747),(.str "name" 748),(.str "second" 749),(.str "over" 750),(.str "under" 751),(.str "turned" 752),(.str "hand" 753)] 0),#[]⟩ ::
o1 ::
hG (jH 39 0) "__init__" "Lay.__init__" 0 0 ::
o47 ::
hM 39 0 "__init__" "Lay.__init__" (.str "knotwise.moves" 430) (.ref 428) ::
o1 ::
kJ ::
⟨(.type "tuple"),none,(.seq #[(.str "self" 760)] 0),#[]⟩ ::
o1 ::
hG (jH 39 1) "told" "Lay.told" 0 0 ::
o48 ::
hM 39 1 "told" "Lay.told" (.str "knotwise.moves" 430) (.ref 435) ::
o1 ::
kJ ::
⟨(.type "tuple"),none,(.seq #[(.str "self" 767),(.str "way" 768)] 0),#[]⟩ ::
o1 ::
hG (jH 39 2) "passings" "Lay.passings" 0 0 ::
o49 ::
hM 39 2 "passings" "Lay.passings" (.str "knotwise.moves" 430) (.ref 442) ::
o1 ::
kJ ::
⟨(.type "tuple"),none,(.seq #[(.str "self" 775),(.str "drawing" 776),(.str "above" 777),(.str "unders" 778)] 0),#[]⟩ ::
o1 ::
hG (jH 39 3) "done" "Lay.done" 0 0 ::
o50 ::
hM 39 3 "done" "Lay.done" (.str "knotwise.moves" 430) (.ref 449) ::
o1 ::
kJ ::
⟨(.type "tuple"),none,(.seq #[(.str "self" 785),(.str "drawing" 786)] 0),#[]⟩ ::
o1 ::
hG (jH 39 4) "back" "Lay.back" 0 0 ::
o51 ::
hM 39 4 "back" "Lay.back" (.str "knotwise.moves" 430) (.ref 456) ::
o1 ::
kJ ::
⟨(.type "tuple"),none,(.seq #[(.str "self" 793),(.str "names" 794),(.str "name" 795),(.str "second" 796),(.str "over" 797),(.str "under" 798)] 0),#[]⟩ ::
o1 ::
hG (jH 39 5) "renamed" "Lay.renamed" 0 0 ::
o52 ::
hM 39 5 "renamed" "Lay.renamed" (.str "knotwise.moves" 430) (.ref 463) ::
o53 ::
o54 P ::
o55 ::
⟨(.type "super"),none,(.fields #[(.ref 467),(.ref 467),(.ref 467)]),#[]⟩ ::
⟨(.type "builtin_function_or_method"),none,(.fields #[(.builtin "object.__init_subclass__"),(.ref 467)]),#[]⟩ ::
P7 ::
K5 ::
⟨(.type "dict"),none,(.dict #[hE P "__module__" 819 (.str "knotwise.moves" 430),hE P "__qualname__" 821 (.str "Slide" 820),hE P "__firstlineno__" 823 (.int 245 822),hE P "__init__" 834 (.ref 483),hE P "told" 841 (.ref 490),hE P "refuse" 849 (.ref 497),hE P "done" 857 (.ref 504),hE P "back" 865 (.ref 511),hE P "renamed" 875 (.ref 518),hE P "__static_attributes__" 880 (.ref 519)] 10),#[]⟩ ::
o1 ::
⟨.none,none,(.fields #[(.int 247 0),(.int 4 0),(.ref 482),(.int 253 0),(.int 4 0),(.ref 489),(.int 256 0),(.int 4 0),(.ref 496),(.int 260 0),(.int 4 0),(.ref 503),(.int 264 0),(.int 4 0),(.ref 510),(.int 268 0),(.int 4 0),(.ref 517)]),#[]⟩ ::
hC "Slide" 814 [hI 245,hI 0,hI 0,hI 0,hI 0,hR 473,(.bool .false),hI 181,hR 474,hN,hN,hN,hN,hI 817,hI 245,hS 818] ::
⟨(.type "frame"),none,.plain,#[(some (.ref 475)),(some (.ref 3)),(some (.ref 472)),none,(some (.str "knotwise.moves" 430)),none,(some (.ref 0))]⟩ ::
o1 ::
kJ ::
⟨(.type "tuple"),none,(.seq #[(.str "self" 827),(.str "name" 828),(.str "second" 829),(.str "third" 830),(.str "turn" 831)] 0),#[]⟩ ::
o1 ::
hG (jH 40 0) "__init__" "Slide.__init__" 0 0 ::
o56 ::
hM 40 0 "__init__" "Slide.__init__" (.str "knotwise.moves" 430) (.ref 482) ::
o1 ::
kJ ::
⟨(.type "tuple"),none,(.seq #[(.str "self" 838)] 0),#[]⟩ ::
o1 ::
hG (jH 40 1) "told" "Slide.told" 0 0 ::
o57 ::
hM 40 1 "told" "Slide.told" (.str "knotwise.moves" 430) (.ref 489) ::
o1 ::
kJ ::
⟨(.type "tuple"),none,(.seq #[(.str "self" 845),(.str "drawing" 846)] 0),#[]⟩ ::
o1 ::
hG (jH 40 2) "refuse" "Slide.refuse" 0 0 ::
o58 ::
hM 40 2 "refuse" "Slide.refuse" (.str "knotwise.moves" 430) (.ref 496) ::
o1 ::
kJ ::
⟨(.type "tuple"),none,(.seq #[(.str "self" 853),(.str "drawing" 854)] 0),#[]⟩ ::
o1 ::
hG (jH 40 3) "done" "Slide.done" 0 0 ::
o59 ::
hM 40 3 "done" "Slide.done" (.str "knotwise.moves" 430) (.ref 503) ::
o1 ::
kJ ::
⟨(.type "tuple"),none,(.seq #[(.str "self" 861),(.str "drawing" 862)] 0),#[]⟩ ::
o1 ::
hG (jH 40 4) "back" "Slide.back" 0 0 ::
o60 ::
hM 40 4 "back" "Slide.back" (.str "knotwise.moves" 430) (.ref 510) ::
o1 ::
kJ ::
⟨(.type "tuple"),none,(.seq #[(.str "self" 869),(.str "names" 870),(.str "name" 871),(.str "second" 872)] 0),#[]⟩ ::
o1 ::
hG (jH 40 5) "renamed" "Slide.renamed" 0 0 ::
o61 ::
hM 40 5 "renamed" "Slide.renamed" (.str "knotwise.moves" 430) (.ref 517) ::
o62 ::
o63 P ::
o64 ::
⟨(.type "super"),none,(.fields #[(.ref 521),(.ref 521),(.ref 521)]),#[]⟩ ::
⟨(.type "builtin_function_or_method"),none,(.fields #[(.builtin "object.__init_subclass__"),(.ref 521)]),#[]⟩ ::
[])))))))
noncomputable def cS5(w:World)(os:kd):nk:=⟨K2.bt (cL5 w.params),524,{},ki [],iV,884,os⟩
noncomputable def hL:List Str:=[]
theorem h_z (P:gA):((gO P).isNs bz,(gO P).objs.size,(gO P).nsMap bz "__annotations__")=(true,11,(some (.ref 6))):=by kernel_rfl
theorem VZ(w:World)(os:kd):K2.V7 iW PySem.Challenge.rw_knotwise_k23_slides.row.prog w 11 (some (.ref 6)) 12 (K2.OJ w.params os) (topStub PySem.Challenge.rw_knotwise_k23_slides.row.prog)=some (cS0 w os,⟨denote iW cC,cC,⟨0,0,0,0⟩,[ni cQ]⟩):=by kernel_rfl
theorem V1(w:World)(os:kd):Mg iW PySem.Challenge.rw_knotwise_k23_slides.row.prog w 11 (some (.ref 6)) 1 1 (cS0 w os) (blockOf cB cE cC ⟨0,0,0,0⟩ [ni cQ])=some (.next,cS1 w os,cC,⟨0,0,0,0⟩):=by kernel_rfl
theorem ZR(w:World)(os:kd):Mg iW PySem.Challenge.rw_knotwise_k23_slides.row.prog w 11 (some (.ref 6)) 1 1048 (cS1 w os) (piecesOf (cB.take 6) cE cC ⟨0,0,0,0⟩ [ni cQ])=some (.next,cS2 w os,cC,⟨10,0,11,8⟩):=by kernel_rfl
theorem ZQ(w:World)(os:kd):Mg iW PySem.Challenge.rw_knotwise_k23_slides.row.prog w 11 (some (.ref 6)) 1 1037 (cS2 w os) (piecesOf ((cB.drop 6).take 25) cE cC ⟨10,0,11,8⟩ [ni cQ])=some (.next,cS3 w os,cC,⟨99,0,103,28⟩):=by kernel_rfl
theorem ZP(w:World)(os:kd):Mg iW PySem.Challenge.rw_knotwise_k23_slides.row.prog w 11 (some (.ref 6)) 1 1092 (cS3 w os) (piecesOf (((cB.drop 6).drop 25).take 7) cE cC ⟨99,0,103,28⟩ [ni cQ])=some (.next,cS4 w os,cC,⟨158,0,179,107⟩):=by kernel_rfl
theorem ZO(w:World)(os:kd):Mg iW PySem.Challenge.rw_knotwise_k23_slides.row.prog w 11 (some (.ref 6)) 1 1247 (cS4 w os) (piecesOf ((((cB.drop 6).drop 25).drop 7).take 3) cE cC ⟨158,0,179,107⟩ [ni cQ])=some (.next,cS5 w os,cC,⟨245,0,271,80⟩):=by kernel_rfl
theorem V0(w:World)(os:kd):(K2.uH iW PySem.Challenge.rw_knotwise_k23_slides.row.prog w 11 (some (.ref 6)) 747 (cS5 w os) (restOf ((((cB.drop 6).drop 25).drop 7).drop 3) cE cC ⟨245,0,271,80⟩ [ni cQ])).map (fun s=>K2.QX PySem.Challenge.rw_knotwise_k23_slides.row.prog hQ hL (K2.RC cD hQ) (fun s=>hA.map s.heap.get?) w.params s.abs)=some (true,LU hQ hL,(hK w.params).map fun p=>some p.2):=by kernel_rfl
theorem S8(w:World)(os:kd):(topFrom iW (cD).row.prog w (12+(1+(1048+(1037+(1092+(1247+747)))))) ⟨gO w.params,ki [],iV,uB,os⟩).map (fun s=>(openSeen hQ hL (nj (cD).row.prog.main.body) (K2.RC cD hQ) true s,hA.map s.heap.get?))=some (LU hQ hL,(hK w.params).map fun p=>some p.2) :=
 K2.PB (Yf:=fun s=>hA.map s.heap.get?) (Ya:=fun w=>(hK w.params).map fun p=>some p.2) (h_z w.params) (V0 w os) fun _ k=>K2.LH (VZ w os) (V1 w os) <| K2.vP 6 (ZR w os) <| K2.vP 25 (ZQ w os) <| K2.vP 7 (ZP w os) <| K2.vP 3 (ZO w os) <| k
theorem S7:(cD).wellSaid=true:=by kernel_rfl
theorem S6:K2.Jw cD hQ=true:=by kernel_rfl
end
section
variable {P:bU} {w:World} {K:ay} {mg:Str->Option Value} {base:Heap}
theorem zw:bL ["_law_script","_law_k"] ["_law_script","_law_k"] (aR (top 43)):=mw
theorem AL {f:Addr} {fd:aE} (F:kE K "_law_cell_at" "_law_cell_at" (top 43) f fd) (cX:mg "len" = none):dN P w K mg base fh 1 f fd ["_law_script","_law_k"] (bX K cR) :=
 nN F zw sD fun _ _ _ _ _ _ hr=>have hu:=hr.units; have hu0:=hr.RE; (aB (c6 (cF (R9 hu0) (aQ 1) (cm cP rfl cX fB (af (aQ 0) aA)) (dM _)) (aG (br (bu (a8 hu (aQ 0) (aQ 1) (fun _ _=>rfl))))) bV)
 (aG (br (bu aF))))
theorem xH:bL ["_law_names_here","_law_number","_law_name"] ["_law_names_here","_law_number"] (aR (top 47)):=mw
theorem Gi {f:Addr} {fd:aE} (F:kE K "_law_free" "_law_free" (top 47) f fd):dN P w K mg base fh 1 f fd ["_law_names_here","_law_number"] (bX K lV) :=
 nN F xH yf fun _ _ _ _ _ _ hr=>have nd:=xH.nd; have hu:=hr.units; (aB (jG (i:=2) nd rfl (bB fj aF (bB eX (aQ 1) aF)))
 (aB (Cy aX (cF (DL hu) (aQ 2) (aQ 0) (by with_unfolding_all rfl)) (aG (jG (i:=2) nd rfl (bB fj aF (bB eX (aQ 2) aF)))))
 (aG (br (bu (aQ 2))))))
theorem uQ:bL ["_law_drawing","_law_names_here","_law_row","_law_passing"] ["_law_drawing"] (aR (top 46)):=mw
theorem Ea {f:Addr} {fd:aE} (F:kE K "_law_names" "_law_names" (top 46) f fd):dN P w K mg base fh 1 f fd ["_law_drawing"] (bX K kO) :=
 nN F uQ v5 fun _ _ _ _ _ _ hr=>have nd:=uQ.nd; have hu:=hr.units; (aB (jG (i:=1) nd rfl (dh aA))
 (aB (cH aX rfl (cN (aQ 0)) (jB (i:=2) nd rfl) (aG (cH aX rfl (cN (aQ 2)) (jB (i:=3) nd rfl) (aG (c6 (cF (gJ hu) (a8 hu (aQ 3) aF (fun _ _=>rfl)) aF (dM _)) (aG (dO (iC bA bZ bY fx fA (aQ 1) (af (a8 hu (aQ 3) aF (fun _ _=>rfl)) aA)))) bV)))))
 (aG (br (bu (aQ 1))))))
theorem Du:bL ["_law_cell"] ["_law_cell"] (aR (top 45)):=mw
theorem Eb {f:Addr} {fd:aE} (F:kE K "_law_mixed" "_law_mixed" (top 45) f fd):dN P w K mg base fh 1 f fd ["_law_cell"] (bX K gS) :=
 nN F Du v7 fun _ _ _ _ _ _ hr=>(aG (br (bu (bB eX (bB gf (bB eX (aQ 0) aF) aF) aF))))
theorem rE:bL ["_law_drawing","_law_cell","_law_name","_law_rest","_law_hand","_law_made","_law_way","_law_row"] ["_law_drawing","_law_cell"] (aR (top 48)):=mw
theorem AK {f:Addr} {fd:aE} (F:kE K "_law_crossed" "_law_crossed" (top 48) f fd) (cX:mg "len" = none) (gW:mg "list" = none) (cO:mg "range" = none) {IF:Addr} {IP:aE} (qy:lU P w K mg base fh 1 IF IP "_law_free" ["_law_names_here","_law_number"] (bX K lV)) {Gq:Addr} {Gy:aE} (oF:lU P w K mg base fh 1 Gq Gy "_law_names" ["_law_drawing"] (bX K kO)) {rY:Addr} {sg:aE} (hV:lU P w K mg base fh 1 rY sg "_law_mixed" ["_law_cell"] (bX K gS)):dN P w K mg base fh 2 f fd ["_law_drawing","_law_cell"] (bX K iA) :=
 nN F rE sC fun _ _ _ _ _ _ hr=>have nd:=rE.nd; have hu:=hr.units; (aB (jG (i:=2) nd rfl (a9 qy.ok (hr.mono (by decide)) rfl qy.mg qy.kp qy.bi (af (a9 oF.ok (hr.mono (by decide)) rfl oF.mg oF.kp oF.bi (af (aQ 0) aA)) (af (aQ 1) aA))))
 (aB (jG (i:=3) nd rfl (a9 hV.ok (hr.mono (by decide)) rfl hV.mg hV.kp hV.bi (af (aQ 1) aA)))
 (aB (jG (i:=4) nd rfl (bB sN aF (bB gf aF (bB eX (aQ 3) aF))))
 (aB (jG (i:=3) nd rfl (bB jW (aQ 3) aF))
 (aB (nF ["_law_row"] (sc:=aR (top 48)) (XN:=["_law_drawing","_law_cell","_law_name","_law_rest","_law_hand","_law_made","_law_way","_law_row"]) (i:=5) nd rfl rfl (cN (aQ 0)) (fun _ _ _ _=>(jB (i:=0) (show (["_law_row"]:List Str).Nodup by decide +kernel) rfl)) (fun _ _ _ _=>.none) (fun _ _ _ _=>(nI nR rfl gW qB (af (aQ 0) aA))))
 (aB (cH aX rfl (fV rfl cO aF) (jB (i:=6) nd rfl) (aB (jG (i:=7) nd rfl (a8 hu (aQ 5) (bB eX (aQ 3) (cm cP rfl cX fB (af (aQ 5) aA))) (fun _ _=>rfl)))
 (aB (jG (i:=3) nd rfl (bB jW (aQ 3) (cm cP rfl cX fB (af (aQ 5) aA))))
 (aB (dO (iC bA Hf He fx zU (aQ 7) (af (bB eX (aQ 3) (bB fj (cm cP rfl cX fB (af (aQ 7) aA)) aF)) (af (cW (af (aQ 2) (af (aQ 6) (af (aQ 4) aA)))) aA))))
 (aG (jG (i:=3) nd rfl (bB jW (aQ 3) (cm cP rfl cX fB (af (aQ 7) aA)))))))))
 (aG (br (bu (aQ 5))))))))))
theorem tQ:bL ["_law_drawing","_law_names_here","_law_row","_law_passing"] ["_law_drawing"] (aR (top 46)):=mw
theorem BG {f:Addr} {fd:aE} (F:kE K "_law_names" "_law_names" (top 46) f fd):dN P w K mg base fh 1 f fd ["_law_drawing"] (bX K lL) :=
 nN F tQ B7 fun _ _ _ _ _ _ hr=>have nd:=tQ.nd; have hu:=hr.units; (aB (jG (i:=1) nd rfl (dh aA))
 (aB (cH aX rfl (cN (aQ 0)) (jB (i:=2) nd rfl) (aG (cH aX rfl (cN (aQ 2)) (jB (i:=3) nd rfl) (aG (c6 (cF (gJ hu) (a8 hu (aQ 3) aF (fun _ _=>rfl)) aF (dM _)) (aG (dO (iC bA bZ bY fx fA (aQ 1) (af (a8 hu (aQ 3) aF (fun _ _=>rfl)) aA)))) bV)))))
 (aG (br (bu (aQ 1))))))
theorem uS:bL ["_law_names_here","_law_number","_law_name"] ["_law_names_here","_law_number"] (aR (top 47)):=mw
theorem Ed {f:Addr} {fd:aE} (F:kE K "_law_free" "_law_free" (top 47) f fd):dN P w K mg base fh 1 f fd ["_law_names_here","_law_number"] (bX K mP) :=
 nN F uS EH fun _ _ _ _ _ _ hr=>have nd:=uS.nd; have hu:=hr.units; (aB (jG (i:=2) nd rfl (bB fj aF (bB eX (aQ 1) aF)))
 (aB (Cy aX (cF (DL hu) (aQ 2) (aQ 0) (by with_unfolding_all rfl)) (aG (jG (i:=2) nd rfl (bB fj aF (bB eX (aQ 2) aF)))))
 (aG (br (bu (aQ 2))))))
theorem uT:bL ["_law_rows","_law_cell","_law_block_here","_law_rest","_law_made","_law_row"] ["_law_rows","_law_cell","_law_block_here"] (aR (top 59)):=mw
theorem Ee {f:Addr} {fd:aE} (F:kE K "_law_block" "_law_block" (top 59) f fd) (cX:mg "len" = none) (gW:mg "list" = none) {rY:Addr} {sg:aE} (hV:lU P w K mg base fh 1 rY sg "_law_mixed" ["_law_cell"] (bX K gS)):dN P w K mg base fh 2 f fd ["_law_rows","_law_cell","_law_block_here"] (bX K kP) :=
 nN F uT v9 fun _ _ _ _ _ _ hr=>have nd:=uT.nd; have hu:=hr.units; (aB (jG (i:=3) nd rfl (a9 hV.ok (hr.mono (by decide)) rfl hV.mg hV.kp hV.bi (af (aQ 1) aA)))
 (aB (nF ["_law_row"] (sc:=aR (top 59)) (XN:=["_law_rows","_law_cell","_law_block_here","_law_rest","_law_made","_law_row"]) (i:=4) nd rfl rfl (cN (aQ 0)) (fun _ _ _ _=>(jB (i:=0) (show (["_law_row"]:List Str).Nodup by decide +kernel) rfl)) (fun _ _ _ _=>.none) (fun _ _ _ _=>(nI nR rfl gW qB (af (aQ 0) aA))))
 (aB (jG (i:=5) nd rfl (a8 hu (aQ 4) (bB eX (aQ 3) (cm cP rfl cX fB (af (aQ 4) aA))) (fun _ _=>rfl)))
 (aB (dO (iC bA Hf He fx zU (aQ 5) (af (bB eX (bB jW (aQ 3) (cm cP rfl cX fB (af (aQ 4) aA))) (bB fj (cm cP rfl cX fB (af (aQ 5) aA)) aF)) (af (aQ 2) aA))))
 (aG (br (bu (aQ 4))))))))
theorem uO:bL ["_law_drawing","_law_names_here","_law_bits","_law_cells","_law_a","_law_b","_law_c","_law_t","_law_hands_here","_law_blocks","_law_turns","_law_rows","_law_row","_law_k","_law_block_here","_law_made","_law_passings"] ["_law_drawing","_law_names_here","_law_bits","_law_cells"] (aR (top 60)):=mw
theorem D7 {f:Addr} {fd:aE} (F:kE K "_law_three" "_law_three" (top 60) f fd) (cO:mg "range" = none) {Gs:Addr} {GA:aE} (oH:lU P w K mg base fh 2 Gs GA "_law_block" ["_law_rows","_law_cell","_law_block_here"] (bX K kP)):dN P w K mg base fh 3 f fd ["_law_drawing","_law_names_here","_law_bits","_law_cells"] (bX K jx) :=
 nN F uO vZ fun _ _ _ _ _ _ hr=>have nd:=uO.nd; have hu:=hr.units; (aB (lN (aQ 1) (PZ rfl (dU (jB (i:=4) nd rfl) (dU (jB (i:=5) nd rfl) (dU (jB (i:=6) nd rfl) lX))) (dW (dW (dW ma)))))
 (aB (jG (i:=7) nd rfl (bB sN aF (bB gf aF (bB eX (aQ 2) aF))))
 (aB (jG (i:=8) nd rfl (dh (af (bB sN aF (bB gf aF (bB eX (bB jW (aQ 2) aF) aF))) (af (bB sN aF (bB gf aF (bB eX (bB jW (aQ 2) aF) aF))) (af (bB sN aF (bB gf aF (bB eX (bB jW (aQ 2) aF) aF))) aA)))))
 (aB (jG (i:=9) nd rfl (dh (af (dh (af (cW (af (aQ 4) (af aF (af (a8 hu (aQ 8) aF (fun _ _=>rfl)) aA)))) (af (cW (af (aQ 5) (af aF (af (a8 hu (aQ 8) aF (fun _ _=>rfl)) aA)))) aA))) (af (dh (af (cW (af (aQ 4) (af aF (af (a8 hu (aQ 8) aF (fun _ _=>rfl)) aA)))) (af (cW (af (aQ 6) (af aF (af (a8 hu (aQ 8) aF (fun _ _=>rfl)) aA)))) aA))) aA))))
 (aB (dO (iC bA bZ bY fx fA (aQ 9) (af (bu (dh (af (cW (af (aQ 5) (af aF (af (a8 hu (aQ 8) aF (fun _ _=>rfl)) aA)))) (af (cW (af (aQ 6) (af aF (af (a8 hu (aQ 8) aF (fun _ _=>rfl)) aA)))) aA)))) aA)))
 (aB (jG (i:=10) nd rfl (dh (af (aQ 7) (af (bB gf (bB gf (aQ 7) (a8 hu (aQ 8) aF (fun _ _=>rfl))) (a8 hu (aQ 8) aF (fun _ _=>rfl))) (af (bB gf (bB gf (aQ 7) (a8 hu (aQ 8) aF (fun _ _=>rfl))) (a8 hu (aQ 8) aF (fun _ _=>rfl))) aA)))))
 (aB (jG (i:=11) nd rfl (dh aA))
 (aB (cH aX rfl (cN (aQ 0)) (jB (i:=12) nd rfl) (aG (dO (iC bA bZ bY fx fA (aQ 11) (af (bu (nH ["_law_passing"] (sc:=aR (top 60)) (XN:=["_law_drawing","_law_names_here","_law_bits","_law_cells","_law_a","_law_b","_law_c","_law_t","_law_hands_here","_law_blocks","_law_turns","_law_rows","_law_row","_law_k","_law_block_here","_law_made","_law_passings"]) (cN (aQ 12)) (fun _ _ _ _=>(jB (i:=0) (show (["_law_passing"]:List Str).Nodup by decide +kernel) rfl)) (fun _ _ _ _=>.none) (fun _ _ _ _=>(bu (dh (af (aQ 0) aA)))))) aA)))))
 (aB (cH aX rfl (fV rfl cO aF) (jB (i:=13) nd rfl) (aB (jG (i:=14) nd rfl (a8 hu (aQ 9) (aQ 13) (fun _ _=>rfl)))
 (aB (c6 (cF (gJ hu) (a8 hu (aQ 10) (aQ 13) (fun _ _=>rfl)) (ua pX aF) (dM _)) (aG (jG (i:=14) nd rfl (dh (af (a8 hu (aQ 14) aF (fun _ _=>rfl)) (af (a8 hu (aQ 14) aF (fun _ _=>rfl)) aA))))) bV)
 (aB (c6 (cF (gJ hu) (bB fj (aQ 13) aF) (bB eX (bB jW (aQ 2) aF) aF) (dM _)) (aG (jG (i:=14) nd rfl (dh (af (a8 hu (aQ 14) aF (fun _ _=>rfl)) (af (a8 hu (aQ 14) aF (fun _ _=>rfl)) aA))))) bV)
 (aG (jG (i:=11) nd rfl (a9 oH.ok (hr.mono (by decide)) rfl oH.mg oH.kp oH.bi (af (bu (aQ 11)) (af (bu (a8 hu (aQ 3) (aQ 13) (fun _ _=>rfl))) (af (bu (aQ 14)) aA))))))))))
 (aB (jG (i:=15) nd rfl (dh aA))
 (aB (cH aX rfl (cN (aQ 11)) (jB (i:=12) nd rfl) (aB (jG (i:=16) nd rfl (dh aA))
 (aB (cH aX rfl (cN (aQ 12)) (jB (i:=14) nd rfl) (aG (jG (i:=16) nd rfl (bB fj (aQ 16) (aQ 14)))))
 (aG (dO (iC bA bZ bY fx fA (aQ 15) (af (bu (aQ 16)) aA)))))))
 (aG (br (bu (aQ 15)))))))))))))))
theorem nv:bL ["_law_drawing","_law_names_here","_law_made","_law_row","_law_name","_law_way","_law_hand"] ["_law_drawing","_law_names_here"] (aR (top 64)):=mw
theorem ug {f:Addr} {fd:aE} (F:kE K "_law_handed_over" "_law_handed_over" (top 64) f fd):dN P w K mg base fh 1 f fd ["_law_drawing","_law_names_here"] (bX K iO) :=
 nN F nv ur fun _ _ _ _ _ _ hr=>have nd:=nv.nd; have hu:=hr.units; (aB (jG (i:=2) nd rfl (dh aA))
 (aB (cH aX rfl (cN (aQ 0)) (jB (i:=3) nd rfl) (aB (dO (iC bA bZ bY fx fA (aQ 2) (af (dh aA) aA)))
 (aG (cH aX rfl (cN (aQ 3)) (p6 rfl (dU (jB (i:=4) nd rfl) (dU (jB (i:=5) nd rfl) (dU (jB (i:=6) nd rfl) lX))) (dW (dW (dW ma)))) (aB (c6 (cF (DL hu) (aQ 4) (aQ 1) (by with_unfolding_all rfl)) (aG (jG (i:=6) nd rfl (ua pX (aQ 6)))) bV)
 (aG (dO (iC bA bZ bY fx fA (a8 hu (aQ 2) (ua pX aF) (fun _ _=>rfl)) (af (cW (af (aQ 4) (af (aQ 5) (af (aQ 6) aA)))) aA)))))))))
 (aG (br (bu (aQ 2))))))
theorem t7:bL ["self","name"] ["self","name"] (aR (jH 36 0)):=mw
theorem uh {f:Addr} {fd:aE} (F:kE K "__init__" "Uncurl.__init__" (jH 36 0) f fd) (A3:gH K "name" "Uncurl"):dN P w K mg base fh 1 f fd ["self","name"] (bX K iQ) :=
 nN F t7 uv fun _ _ _ _ _ _ hr=>(aG (fL (ip A3) (aQ 0) (aQ 1)))
theorem wO:bL ["self","name","spot","first","hand"] ["self","name","spot","first","hand"] (aR (jH 37 0)):=mw
theorem xh {f:Addr} {fd:aE} (F:kE K "__init__" "Curl.__init__" (jH 37 0) f fd) (Ez:gH K "name" "Curl") (Ey:gH K "spot" "Curl") (B1:gH K "first" "Curl") (EA:gH K "hand" "Curl"):dN P w K mg base fh 1 f fd ["self","name","spot","first","hand"] (bX K jz) :=
 nN F wO xy fun _ _ _ _ _ _ hr=>(aB (fL (ip Ez) (aQ 0) (aQ 1))
 (aB (fL (ip Ey) (aQ 0) (aQ 2))
 (aB (fL (ip B1) (aQ 0) (aQ 3))
 (aG (fL (ip EA) (aQ 0) (aQ 4))))))
theorem wN:bL ["self","name","second"] ["self","name","second"] (aR (jH 38 0)):=mw
theorem xg {f:Addr} {fd:aE} (F:kE K "__init__" "Part.__init__" (jH 38 0) f fd) (Eu:gH K "name" "Part") (A4:gH K "second" "Part"):dN P w K mg base fh 1 f fd ["self","name","second"] (bX K jy) :=
 nN F wN xx fun _ _ _ _ _ _ hr=>(aB (fL (ip Eu) (aQ 0) (aQ 1))
 (aG (fL (ip A4) (aQ 0) (aQ 2))))
theorem yq:bL ["self","name","second","over","under","turned","hand"] ["self","name","second","over","under","turned","hand"] (aR (jH 39 0)):=mw
theorem yz {f:Addr} {fd:aE} (F:kE K "__init__" "Lay.__init__" (jH 39 0) f fd) (GJ:gH K "name" "Lay") (B0:gH K "second" "Lay") (GI:gH K "over" "Lay") (Ew:gH K "under" "Lay") (BZ:gH K "turned" "Lay") (GK:gH K "hand" "Lay"):dN P w K mg base fh 1 f fd ["self","name","second","over","under","turned","hand"] (bX K j7) :=
 nN F yq yJ fun _ _ _ _ _ _ hr=>(aB (fL (ip GJ) (aQ 0) (aQ 1))
 (aB (fL (ip B0) (aQ 0) (aQ 2))
 (aB (fL (ip GI) (aQ 0) (aQ 3))
 (aB (fL (ip Ew) (aQ 0) (aQ 4))
 (aB (fL (ip BZ) (aQ 0) (aQ 5))
 (aG (fL (ip GK) (aQ 0) (aQ 6))))))))
theorem uW:bL ["self","name","second","third","turn"] ["self","name","second","third","turn"] (aR (jH 40 0)):=mw
theorem vF {f:Addr} {fd:aE} (F:kE K "__init__" "Slide.__init__" (jH 40 0) f fd) (dJ:gH K "name" "Slide") (cY:gH K "second" "Slide") (dv:gH K "third" "Slide") (eS:gH K "turn" "Slide"):dN P w K mg base fh 1 f fd ["self","name","second","third","turn"] (bX K eM) :=
 nN F uW wb fun _ _ _ _ _ _ hr=>(aB (fL (ip dJ) (aQ 0) (aQ 1))
 (aB (fL (ip cY) (aQ 0) (aQ 2))
 (aB (fL (ip dv) (aQ 0) (aQ 3))
 (aG (fL (ip eS) (aQ 0) (aQ 4))))))
theorem HL:bL ["told"] ["told"] (aR (top 41)):=mw
theorem Iz {f:Addr} {fd:aE} (F:kE K "move_of" "move_of" (top 41) f fd) {OT:Addr} {vI:Addr} {vM:aE} (hX:Ji P w K mg base 1 vI vM OT "Uncurl" ["self","name"] (bX K iQ)) {TM:Addr} {yC:Addr} {yF:aE} (i4:Ji P w K mg base 1 yC yF TM "Curl" ["self","name","spot","first","hand"] (bX K jz)) {TL:Addr} {yB:Addr} {yE:aE} (i3:Ji P w K mg base 1 yB yE TL "Part" ["self","name","second"] (bX K jy)) {Ww:Addr} {AQ:Addr} {AY:aE} (jq:Ji P w K mg base 1 AQ AY Ww "Lay" ["self","name","second","over","under","turned","hand"] (bX K j7)) {wc:Addr} {iE:Addr} {iF:aE} (bW:Ji P w K mg base 1 iE iF wc "Slide" ["self","name","second","third","turn"] (bX K eM)):dN P w K mg base fh 3 f fd ["told"] (bX K p4) :=
 nN F HL Ja fun _ _ _ _ _ _ hr=>have hu:=hr.units; (aB (c6 (cF (gJ hu) (a8 hu (aQ 0) aF (fun _ _=>rfl)) mT (dM _)) (aG (br (bu (nG hX.Sh hX.ns hX.ok (hr.mono (by decide)) rfl hX.mg hX.bi (af (a8 hu (aQ 0) aF (fun _ _=>rfl)) aA))))) bV)
 (aB (c6 (cF (gJ hu) (a8 hu (aQ 0) aF (fun _ _=>rfl)) mT (dM _)) (aG (br (bu (nG i4.Sh i4.ns i4.ok (hr.mono (by decide)) rfl i4.mg i4.bi (af (a8 hu (aQ 0) aF (fun _ _=>rfl)) (af (a8 hu (aQ 0) aF (fun _ _=>rfl)) (af (a8 hu (aQ 0) aF (fun _ _=>rfl)) (af (a8 hu (aQ 0) aF (fun _ _=>rfl)) aA)))))))) bV)
 (aB (c6 (cF (gJ hu) (a8 hu (aQ 0) aF (fun _ _=>rfl)) mT (dM _)) (aG (br (bu (nG i3.Sh i3.ns i3.ok (hr.mono (by decide)) rfl i3.mg i3.bi (af (a8 hu (aQ 0) aF (fun _ _=>rfl)) (af (a8 hu (aQ 0) aF (fun _ _=>rfl)) aA)))))) bV)
 (aB (c6 (cF (gJ hu) (a8 hu (aQ 0) aF (fun _ _=>rfl)) mT (dM _)) (aG (br (bu (nG jq.Sh jq.ns jq.ok (hr.mono (by decide)) rfl jq.mg jq.bi (af (a8 hu (aQ 0) aF (fun _ _=>rfl)) (af (a8 hu (aQ 0) aF (fun _ _=>rfl)) (af (a8 hu (aQ 0) aF (fun _ _=>rfl)) (af (a8 hu (aQ 0) aF (fun _ _=>rfl)) (af (a8 hu (aQ 0) aF (fun _ _=>rfl)) (af (a8 hu (aQ 0) aF (fun _ _=>rfl)) aA)))))))))) bV)
 (aB (c6 (cF (gJ hu) (a8 hu (aQ 0) aF (fun _ _=>rfl)) mT (dM _)) (aG (br (bu (nG bW.Sh bW.ns bW.ok (hr.mono (by decide)) rfl bW.mg bW.bi (af (a8 hu (aQ 0) aF (fun _ _=>rfl)) (af (a8 hu (aQ 0) aF (fun _ _=>rfl)) (af (a8 hu (aQ 0) aF (fun _ _=>rfl)) (af (a8 hu (aQ 0) aF (fun _ _=>rfl)) aA)))))))) bV)
 (aG mY))))))
theorem Ds:bL ["_law_found"] ["_law_found"] (aR (top 44)):=mw
theorem D6 {f:Addr} {fd:aE} (F:kE K "_law_whole" "_law_whole" (top 44) f fd) (DQ:mg "bool" = none) (HZ:mg "int" = none) (cx:mg "isinstance" = none):dN P w K mg base fh 1 f fd ["_law_found"] (bX K fC) :=
 nN F Ds EG fun _ _ _ _ _ _ hr=>(aG (br (bu (JK (lO "int" (by decide) rfl cx rfl HZ Tz (aQ 0)) (JJ (P1 (lO "bool" (by decide) rfl cx rfl DQ QF (aQ 0))))))))
theorem tO:bL ["_law_found","_law_due","_law_part"] ["_law_found","_law_due"] (aR (top 50)):=mw
theorem BE {f:Addr} {fd:aE} (F:kE K "_law_wholes" "_law_wholes" (top 50) f fd) (cx:mg "isinstance" = none) (cX:mg "len" = none) (jX:mg "tuple" = none) {md:Addr} {mh:aE} (eO:lU P w K mg base fh 1 md mh "_law_whole" ["_law_found"] (bX K fC)):dN P w K mg base fh 2 f fd ["_law_found","_law_due"] (bX K cg) :=
 nN F tO eA fun _ _ _ _ _ _ hr=>have nd:=tO.nd; have hu:=hr.units; (aB (c6 (xt.pt (i9 (fu (cV (lO "tuple" (by decide) rfl cx rfl jX vT (aQ 0)))) (gT (cF (kS hu) (cm cP rfl cX fB (af (aQ 0) aA)) (cm cP rfl cX fB (af (aQ 1) aA)) (dM _))))) (aG (br (bu eK))) bV)
 (aB (cH aX rfl (cN (aQ 0)) (jB (i:=2) nd rfl) (aG (c6 (fu (cV (a9 eO.ok (hr.mono (by decide)) rfl eO.mg eO.kp eO.bi (af (aQ 2) aA)))) (aG (br (bu eK))) bV)))
 (aG (br (bu (DI (gJ hu) (aQ 0) (aQ 1) (dM _)))))))
theorem uP:bL ["_law_found","_law_due","_law_k"] ["_law_found","_law_due"] (aR (top 52)):=mw
theorem D8 {f:Addr} {fd:aE} (F:kE K "_law_tells" "_law_tells" (top 52) f fd) (cx:mg "isinstance" = none) (cX:mg "len" = none) (cO:mg "range" = none) (wU:mg "str" = none) (jX:mg "tuple" = none) {kW:Addr} {kZ:aE} (dQ:lU P w K mg base fh 2 kW kZ "_law_wholes" ["_law_found","_law_due"] (bX K cg)) {md:Addr} {mh:aE} (eO:lU P w K mg base fh 1 md mh "_law_whole" ["_law_found"] (bX K fC)):dN P w K mg base fh 3 f fd ["_law_found","_law_due"] (bX K cM) :=
 nN F uP eY fun _ _ _ _ _ _ hr=>have nd:=uP.nd; have hu:=hr.units; (aB (c6 (xt.pt (i9 (fu (cV (lO "tuple" (by decide) rfl cx rfl jX vT (aQ 0)))) (gT (cF (kS hu) (cm cP rfl cX fB (af (aQ 0) aA)) (cm cP rfl cX fB (af (aQ 1) aA)) (dM _))))) (aG (br (bu eK))) bV)
 (aB (c6 (xt.pt (i9 (fu (cV (lO "str" (by decide) rfl cx rfl wU OG (a8 hu (aQ 0) aF (fun _ _=>rfl))))) (gT (cF (kS hu) (a8 hu (aQ 0) aF (fun _ _=>rfl)) (a8 hu (aQ 1) aF (fun _ _=>rfl)) (dM _))))) (aG (br (bu eK))) bV)
 (aB (cH aX rfl (zJ rfl cO aF (cm cP rfl cX fB (af (aQ 1) aA))) (jB (i:=2) nd rfl) (aG (c6 (cV (lO "tuple" (by decide) rfl cx rfl jX vT (a8 hu (aQ 1) (aQ 2) (fun _ _=>rfl)))) (aG (c6 (fu (cV (a9 dQ.ok (hr.mono (by decide)) rfl dQ.mg dQ.kp dQ.bi (af (a8 hu (aQ 0) (aQ 2) (fun _ _=>rfl)) (af (a8 hu (aQ 1) (aQ 2) (fun _ _=>rfl)) aA))))) (aG (br (bu eK))) bV)) (aG (c6 (xt.pt (i9 (fu (cV (a9 eO.ok (hr.mono (by decide)) rfl eO.mg eO.kp eO.bi (af (a8 hu (aQ 0) (aQ 2) (fun _ _=>rfl)) aA)))) (gT (cF (kS hu) (a8 hu (aQ 0) (aQ 2) (fun _ _=>rfl)) (a8 hu (aQ 1) (aQ 2) (fun _ _=>rfl)) (dM _))))) (aG (br (bu eK))) bV)))))
 (aG (br (bu eK))))))
theorem Bv:bL ["self"] ["self"] (aR (jH 40 1)):=mw
theorem BH {f:Addr} {fd:aE} (F:kE K "told" "Slide.told" (jH 40 1) f fd) (eS:gH K "turn" "Slide") (dv:gH K "third" "Slide") (cY:gH K "second" "Slide") (dJ:gH K "name" "Slide"):dN P w K mg base fh 1 f fd ["self"] (bX K gm) :=
 nN F Bv B8 fun _ _ _ _ _ _ hr=>(aG (br (bu (cW (af mT (af (dB (ip dJ) (aQ 0)) (af (dB (ip cY) (aQ 0)) (af (dB (ip dv) (aQ 0)) (af (dB (ip eS) (aQ 0)) aA)))))))))
theorem Dt:bL ["_law_a","_law_b","_law_c"] ["_law_a","_law_b","_law_c"] (aR (top 56)):=mw
theorem D9 {f:Addr} {fd:aE} (F:kE K "_law_pairs" "_law_pairs" (top 56) f fd):dN P w K mg base fh 1 f fd ["_law_a","_law_b","_law_c"] (bX K iN) :=
 nN F Dt v3 fun _ _ _ _ _ _ hr=>(aG (br (bu (dh (af (cW (af (cW (af (aQ 0) (af aF aA))) (af (cW (af (aQ 1) (af aF aA))) aA))) (af (cW (af (cW (af (aQ 0) (af aF aA))) (af (cW (af (aQ 2) (af aF aA))) aA))) (af (cW (af (cW (af (aQ 1) (af aF aA))) (af (cW (af (aQ 2) (af aF aA))) aA))) aA)))))))
theorem tP:bL ["_law_behind","_law_hands_here","_law_told","_law_a","_law_b","_law_c","_law_t","_law_pairs_here","_law_turns","_law_k","_law_one","_law_other"] ["_law_behind","_law_hands_here","_law_told"] (aR (top 57)):=mw
theorem BF {f:Addr} {fd:aE} (F:kE K "_law_slides" "_law_slides" (top 57) f fd) (cO:mg "range" = none) {rX:Addr} {se:aE} (hU:lU P w K mg base fh 1 rX se "_law_pairs" ["_law_a","_law_b","_law_c"] (bX K iN)):dN P w K mg base fh 2 f fd ["_law_behind","_law_hands_here","_law_told"] (bX K fD) :=
 nN F tP tZ fun _ _ _ _ _ _ hr=>have nd:=tP.nd; have hu:=hr.units; (aB (lN (fQ (aQ 2) (gU aF) gV) (p6 rfl (dU (jB (i:=3) nd rfl) (dU (jB (i:=4) nd rfl) (dU (jB (i:=5) nd rfl) (dU (jB (i:=6) nd rfl) lX)))) (dW (dW (dW (dW ma))))))
 (aB (c6 (xt.pt (i9 (cF (gJ hu) (aQ 3) (aQ 4) (dM _)) (i9 (cF (gJ hu) (aQ 3) (aQ 5) (dM _)) (gT (cF (gJ hu) (aQ 4) (aQ 5) (dM _)))))) (aG (br (bu eK))) bV)
 (aB (jG (i:=7) nd rfl (a9 hU.ok (hr.mono (by decide)) rfl hU.mg hU.kp hU.bi (af (aQ 3) (af (aQ 4) (af (aQ 5) aA)))))
 (aB (jG (i:=8) nd rfl (dh (af (aQ 6) (af (bB gf (bB gf (aQ 6) (a8 hu (aQ 1) (aQ 4) (fun _ _=>rfl))) (a8 hu (aQ 1) (aQ 5) (fun _ _=>rfl))) (af (bB gf (bB gf (aQ 6) (a8 hu (aQ 1) (aQ 3) (fun _ _=>rfl))) (a8 hu (aQ 1) (aQ 5) (fun _ _=>rfl))) aA)))))
 (aB (cH aX rfl (fV rfl cO aF) (jB (i:=9) nd rfl) (aB (lN (a8 hu (aQ 7) (aQ 9) (fun _ _=>rfl)) (p6 rfl (dU (jB (i:=10) nd rfl) (dU (jB (i:=11) nd rfl) lX)) (dW (dW ma))))
 (aG (c6 (xt.pt (i9 (xt.pt (JH (cF (gJ hu) (a8 hu (aQ 8) (aQ 9) (fun _ _=>rfl)) aF (dM _)) (Fy (cF (kS hu) (a8 hu (aQ 0) (aQ 10) (fun _ _=>rfl)) (aQ 11) (dM _))))) (gT (xt.pt (JH (cF (gJ hu) (a8 hu (aQ 8) (aQ 9) (fun _ _=>rfl)) (ua pX aF) (dM _)) (Fy (cF (kS hu) (a8 hu (aQ 0) (aQ 11) (fun _ _=>rfl)) (aQ 10) (dM _)))))))) (aG (br (bu eK))) bV))))
 (aG (br (bu eK))))))))
theorem uR:bL ["_law_drawing","_law_hands_here","_law_row","_law_passing"] ["_law_drawing"] (aR (top 54)):=mw
theorem Ec {f:Addr} {fd:aE} (F:kE K "_law_hands" "_law_hands" (top 54) f fd):dN P w K mg base fh 1 f fd ["_law_drawing"] (bX K eB) :=
 nN F uR v8 fun _ _ _ _ _ _ hr=>have nd:=uR.nd; have hu:=hr.units; (aB (jG (i:=1) nd rfl vg)
 (aB (cH aX rfl (cN (aQ 0)) (jB (i:=2) nd rfl) (aG (cH aX rfl (cN (aQ 2)) (jB (i:=3) nd rfl) (aG (lN (a8 hu (aQ 3) aF (fun _ _=>rfl)) (qa hu (aQ 1) (a8 hu (aQ 3) aF (fun _ _=>rfl))))))))
 (aG (br (bu (aQ 1))))))
theorem xG:bL ["_law_drawing","_law_behind","_law_row","_law_k","_law_other"] ["_law_drawing"] (aR (top 55)):=mw
theorem Gh {f:Addr} {fd:aE} (F:kE K "_law_next" "_law_next" (top 55) f fd) (cX:mg "len" = none) (cO:mg "range" = none):dN P w K mg base fh 1 f fd ["_law_drawing"] (bX K gR) :=
 nN F xG ye fun _ _ _ _ _ _ hr=>have nd:=xG.nd; have hu:=hr.units; (aB (jG (i:=1) nd rfl vg)
 (aB (cH aX rfl (cN (aQ 0)) (jB (i:=2) nd rfl) (aG (cH aX rfl (fV rfl cO (cm cP rfl cX fB (af (aQ 2) aA))) (jB (i:=3) nd rfl) (aB (jG (i:=4) nd rfl (a8 hu (aQ 2) (bB eX (bB fj (aQ 3) aF) (cm cP rfl cX fB (af (aQ 2) aA))) (fun _ _=>rfl)))
 (aG (lN (cW (af (a8 hu (aQ 4) aF (fun _ _=>rfl)) (af (a8 hu (aQ 4) aF (fun _ _=>rfl)) aA))) (qa hu (aQ 1) (cW (af (a8 hu (a8 hu (aQ 2) (aQ 3) (fun _ _=>rfl)) aF (fun _ _=>rfl)) (af (a8 hu (a8 hu (aQ 2) (aQ 3) (fun _ _=>rfl)) aF (fun _ _=>rfl)) aA))))))))))
 (aG (br (bu (aQ 1))))))
theorem uU:bL ["_law_drawing","_law_made","_law_row","_law_at"] ["_law_drawing"] (aR (top 49)):=mw
theorem Ef {f:Addr} {fd:aE} (F:kE K "_law_begun" "_law_begun" (top 49) f fd) (wW:mg "min" = none):dN P w K mg base fh 1 f fd ["_law_drawing"] (bX K fE) :=
 nN F uU wa fun _ _ _ _ _ _ hr=>have nd:=uU.nd; have hu:=hr.units; (aB (jG (i:=1) nd rfl (dh aA))
 (aB (cH aX rfl (cN (aQ 0)) (jB (i:=2) nd rfl) (aB (jG (i:=3) nd rfl aF)
 (aB (c6 (cV (aQ 2)) (aG (jG (i:=3) nd rfl (iC bA rp Hx fx (CF hu) (aQ 2) (af (cm (CU rfl hu) rfl wW OH (af (aQ 2) aA)) aA)))) bV)
 (aG (dO (iC bA bZ bY fx fA (aQ 1) (af (bu (bB fj (fQ (aQ 2) (gU (aQ 3)) gV) (fQ (aQ 2) gV (gU (aQ 3))))) aA)))))))
 (aG (br (bu (aQ 1))))))
theorem xE:bL ["_law_drawing","_law_told","_law_hands_here","_law_partner","_law_one","_law_other","_law_made","_law_row","_law_changed","_law_passing","_law_spot"] ["_law_drawing","_law_told"] (aR (top 58)):=mw
theorem Gf {f:Addr} {fd:aE} (F:kE K "_law_slid" "_law_slid" (top 58) f fd) {mf:Addr} {mi:aE} (dg:lU P w K mg base fh 1 mf mi "_law_hands" ["_law_drawing"] (bX K eB)) {rX:Addr} {se:aE} (hU:lU P w K mg base fh 1 rX se "_law_pairs" ["_law_a","_law_b","_law_c"] (bX K iN)) {rZ:Addr} {si:aE} (hW:lU P w K mg base fh 1 rZ si "_law_begun" ["_law_drawing"] (bX K fE)):dN P w K mg base fh 2 f fd ["_law_drawing","_law_told"] (bX K ji) :=
 nN F xE yc fun _ _ _ _ _ _ hr=>have nd:=xE.nd; have hu:=hr.units; (aB (jG (i:=2) nd rfl (a9 dg.ok (hr.mono (by decide)) rfl dg.mg dg.kp dg.bi (af (aQ 0) aA)))
 (aB (jG (i:=3) nd rfl vg)
 (aB (cH aX rfl (cN (a9 hU.ok (hr.mono (by decide)) rfl hU.mg hU.kp hU.bi (af (a8 hu (aQ 1) aF (fun _ _=>rfl)) (af (a8 hu (aQ 1) aF (fun _ _=>rfl)) (af (a8 hu (aQ 1) aF (fun _ _=>rfl)) aA))))) (p6 rfl (dU (jB (i:=4) nd rfl) (dU (jB (i:=5) nd rfl) lX)) (dW (dW ma))) (aB (lN (aQ 5) (qa hu (aQ 3) (aQ 4)))
 (aG (lN (aQ 4) (qa hu (aQ 3) (aQ 5))))))
 (aB (jG (i:=6) nd rfl (dh aA))
 (aB (cH aX rfl (cN (aQ 0)) (jB (i:=7) nd rfl) (aB (jG (i:=8) nd rfl (dh aA))
 (aB (cH aX rfl (cN (aQ 7)) (jB (i:=9) nd rfl) (aB (jG (i:=10) nd rfl (iC Hy mL Kw Fb (FI hu) (aQ 3) (af (cW (af (a8 hu (aQ 9) aF (fun _ _=>rfl)) (af (a8 hu (aQ 9) aF (fun _ _=>rfl)) aA))) (af (cW (af (a8 hu (aQ 9) aF (fun _ _=>rfl)) (af (a8 hu (aQ 9) aF (fun _ _=>rfl)) aA))) aA))))
 (aG (dO (iC bA bZ bY fx fA (aQ 8) (af (bu (cW (af (a8 hu (aQ 10) aF (fun _ _=>rfl)) (af (a8 hu (aQ 10) aF (fun _ _=>rfl)) (af (a8 hu (aQ 2) (a8 hu (aQ 10) aF (fun _ _=>rfl)) (fun _ _=>rfl)) aA))))) aA))))))
 (aG (dO (iC bA bZ bY fx fA (aQ 6) (af (bu (aQ 8)) aA)))))))
 (aG (br (bu (a9 hW.ok (hr.mono (by decide)) rfl hW.mg hW.kp hW.bi (af (bu (aQ 6)) aA))))))))))
theorem rC:bL ["rows","passings","row"] ["rows"] (aR (top 10)):=mw
theorem AI {f:Addr} {fd:aE} (F:kE K "passings_of" "passings_of" (top 10) f fd):dN P w K mg base fh 1 f fd ["rows"] (bX K iz) :=
 nN F rC Bd fun _ _ _ _ _ _ hr=>have nd:=rC.nd; (aB (jG (i:=1) nd rfl (dh aA))
 (aB (cH aX rfl (cN (aQ 0)) (jB (i:=2) nd rfl) (aG (dO (iC bA PySem.F.slot_list_extend PySem.F.type_list_extend fx Ib (aQ 1) (af (aQ 2) aA)))))
 (aG (br (bu (aQ 1))))))
theorem Fp:bL ["drawing"] ["drawing"] (aR (top 13)):=mw
theorem Ge {f:Addr} {fd:aE} (F:kE K "names_of" "names_of" (top 13) f fd) (wV:mg "sorted" = none) {oS:Addr} {oU:aE} (fH:lU P w K mg base fh 1 oS oU "passings_of" ["rows"] (bX K iz)):dN P w K mg base fh 2 f fd ["drawing"] (bX K kz) :=
 nN F Fp GY fun _ _ _ _ _ _ hr=>have hu:=hr.units; (aG (br (bu (cm (B3 rfl hu) rfl wV LK (af (nH ["passing"] (sc:=aR (top 13)) (XN:=["drawing"]) (cN (a9 fH.ok (hr.mono (by decide)) rfl fH.mg fH.kp fH.bi (af (aQ 0) aA))) (fun _ _ _ _=>(jB (i:=0) (show (["passing"]:List Str).Nodup by decide +kernel) rfl)) (fun _ _ _ _=>(.some (cF (gJ hu) (a8 hu (aQ 0) aF (fun _ _=>rfl)) aF (dM _)))) (fun _ _ _ _=>(a8 hu (aQ 0) aF (fun _ _=>rfl)))) aA)))))
theorem oq:bL ["drawing","names","known","name"] ["drawing","names"] (aR (top 26)):=mw
theorem vE {f:Addr} {fd:aE} (F:kE K "refuse_unknown" "refuse_unknown" (top 26) f fd) {IC:Addr} {IK:aE} (qx:lU P w K mg base fh 2 IC IK "names_of" ["drawing"] (bX K kz)):dN P w K mg base fh 3 f fd ["drawing","names"] (bX K fO) :=
 nN F oq vY fun _ _ _ _ _ _ hr=>have nd:=oq.nd; have hu:=hr.units; (aB (jG (i:=2) nd rfl (a9 qx.ok (hr.mono (by decide)) rfl qx.mg qx.kp qx.bi (af (aQ 0) aA)))
 (aG (cH aX rfl (cN (aQ 1)) (jB (i:=3) nd rfl) (aG (c6 (cF (wR hu) (aQ 3) (aQ 2) (by with_unfolding_all rfl)) (aG mY) bV)))))
theorem yn:bL ["fits"] ["fits"] (aR (top 27)):=mw
theorem yx {f:Addr} {fd:aE} (F:kE K "refuse_unfit" "refuse_unfit" (top 27) f fd):dN P w K mg base fh 1 f fd ["fits"] (bX K j6) :=
 nN F yn yH fun _ _ _ _ _ _ hr=>(aG (c6 (fu (cV (aQ 0))) (aG mY) bV))
theorem zv:bL ["drawing","behind","row","passing","follower"] ["drawing"] (aR (top 16)):=mw
theorem Iy {f:Addr} {fd:aE} (F:kE K "next_of" "next_of" (top 16) f fd) (HY:mg "zip" = none):dN P w K mg base fh 1 f fd ["drawing"] (bX K pZ) :=
 nN F zv IZ fun _ _ _ _ _ _ hr=>have nd:=zv.nd; have hu:=hr.units; (aB (jG (i:=1) nd rfl vg)
 (aB (cH aX rfl (cN (aQ 0)) (jB (i:=2) nd rfl) (aG (cH aX rfl (PY rfl HY (aQ 2) (bB fj (fQ (aQ 2) (gU aF) gV) (fQ (aQ 2) gV (gU aF)))) (p6 rfl (dU (jB (i:=3) nd rfl) (dU (jB (i:=4) nd rfl) lX)) (dW (dW ma))) (aG (lN (fQ (aQ 4) gV (gU aF)) (qa hu (aQ 1) (fQ (aQ 3) gV (gU aF))))))))
 (aG (br (bu (aQ 1))))))
theorem zx:bL ["drawing","name","passing"] ["drawing","name"] (aR (top 14)):=mw
theorem IB {f:Addr} {fd:aE} (F:kE K "hand_of" "hand_of" (top 14) f fd) {oS:Addr} {oU:aE} (fH:lU P w K mg base fh 1 oS oU "passings_of" ["rows"] (bX K iz)):dN P w K mg base fh 2 f fd ["drawing","name"] (bX K iP) :=
 nN F zx Jc fun _ _ _ _ _ _ hr=>have nd:=zx.nd; have hu:=hr.units; (aB (cH aX rfl (cN (a9 fH.ok (hr.mono (by decide)) rfl fH.mg fH.kp fH.bi (af (aQ 0) aA))) (jB (i:=2) nd rfl) (aG (c6 (cF (gJ hu) (a8 hu (aQ 2) aF (fun _ _=>rfl)) (aQ 1) (dM _)) (aG (br (bu (a8 hu (aQ 2) aF (fun _ _=>rfl))))) bV)))
 (aG mY))
theorem HM:bL ["one","other","turn"] ["one","other","turn"] (aR (top 22)):=mw
theorem IA {f:Addr} {fd:aE} (F:kE K "in_turn" "in_turn" (top 22) f fd):dN P w K mg base fh 1 f fd ["one","other","turn"] (bX K lD) :=
 nN F HM Jb fun _ _ _ _ _ _ hr=>have hu:=hr.units; (aB (c6 (cF (gJ hu) (aQ 2) aF (dM _)) (aG (br (bu (cW (af (aQ 0) (af (aQ 1) aA)))))) bV)
 (aG (br (bu (cW (af (aQ 1) (af (aQ 0) aA)))))))
theorem rB:bL ["drawing","name","second","third","turn","first_hand","second_hand","third_hand"] ["drawing","name","second","third","turn"] (aR (top 23)):=mw
theorem AG {f:Addr} {fd:aE} (F:kE K "slide_pairs" "slide_pairs" (top 23) f fd) {xi:Addr} {xk:aE} (fb:lU P w K mg base fh 2 xi xk "hand_of" ["drawing","name"] (bX K iP)) {Lx:Addr} {LD:aE} (gM:lU P w K mg base fh 1 Lx LD "in_turn" ["one","other","turn"] (bX K lD)):dN P w K mg base fh 3 f fd ["drawing","name","second","third","turn"] (bX K iy) :=
 nN F rB Bc fun _ _ _ _ _ _ hr=>have nd:=rB.nd; (aB (jG (i:=5) nd rfl (a9 fb.ok (hr.mono (by decide)) rfl fb.mg fb.kp fb.bi (af (aQ 0) (af (aQ 1) aA))))
 (aB (jG (i:=6) nd rfl (a9 fb.ok (hr.mono (by decide)) rfl fb.mg fb.kp fb.bi (af (aQ 0) (af (aQ 2) aA))))
 (aB (jG (i:=7) nd rfl (a9 fb.ok (hr.mono (by decide)) rfl fb.mg fb.kp fb.bi (af (aQ 0) (af (aQ 3) aA))))
 (aG (br (bu (dh (af (a9 gM.ok (hr.mono (by decide)) rfl gM.mg gM.kp gM.bi (af (cW (af (aQ 1) (af aF aA))) (af (cW (af (aQ 2) (af aF aA))) (af (aQ 4) aA)))) (af (a9 gM.ok (hr.mono (by decide)) rfl gM.mg gM.kp gM.bi (af (cW (af (aQ 1) (af aF aA))) (af (cW (af (aQ 3) (af aF aA))) (af (bB gf (bB gf (aQ 4) (aQ 6)) (aQ 7)) aA)))) (af (a9 gM.ok (hr.mono (by decide)) rfl gM.mg gM.kp gM.bi (af (cW (af (aQ 2) (af aF aA))) (af (cW (af (aQ 3) (af aF aA))) (af (bB gf (bB gf (aQ 4) (aQ 5)) (aQ 7)) aA)))) aA))))))))))
theorem tN:bL ["drawing","name","second","third","turn","behind"] ["drawing","name","second","third","turn"] (aR (top 24)):=mw
theorem BD {f:Addr} {fd:aE} (F:kE K "slide_fits" "slide_fits" (top 24) f fd) (Ia:mg "all" = none) {Lv:Addr} {LB:aE} (sX:lU P w K mg base fh 1 Lv LB "next_of" ["drawing"] (bX K pZ)) {oR:Addr} {oT:aE} (fG:lU P w K mg base fh 3 oR oT "slide_pairs" ["drawing","name","second","third","turn"] (bX K iy)):dN P w K mg base fh 4 f fd ["drawing","name","second","third","turn"] (bX K i5) :=
 nN F tN B6 fun _ _ _ _ _ _ hr=>have nd:=tN.nd; have hu:=hr.units; (aB (c6 (xt.pt (i9 (cF (gJ hu) (aQ 2) (aQ 1) (dM _)) (gT (cF (DL hu) (aQ 3) (cW (af (aQ 1) (af (aQ 2) aA))) (by with_unfolding_all rfl))))) (aG (br (bu eK))) bV)
 (aB (jG (i:=5) nd rfl (a9 sX.ok (hr.mono (by decide)) rfl sX.mg sX.kp sX.bi (af (aQ 0) aA)))
 (aG (br (bu (cm (LI rfl) rfl Ia TB (af (nH ["one","other","behind"] (sc:=aR (top 24)) (XN:=["drawing","name","second","third","turn","behind"]) (cN (a9 fG.ok (hr.mono (by decide)) rfl fG.mg fG.kp fG.bi (af (aQ 0) (af (aQ 1) (af (aQ 2) (af (aQ 3) (af (aQ 4) aA))))))) (fun _ _ _ _=>(p6 rfl (dU (jB (i:=0) (show (["one","other","behind"]:List Str).Nodup by decide +kernel) rfl) (dU (jB (i:=1) (show (["one","other","behind"]:List Str).Nodup by decide +kernel) rfl) lX)) (dW (dW ma)))) (fun _ _ _ _=>.none) (fun _ _ _ _=>(DI (gJ hu) (a8 hu (aQ 2) (aQ 0) (fun _ _=>rfl)) (aQ 1) (dM _)))) aA)))))))
theorem yp:bL ["self","drawing"] ["self","drawing"] (aR (jH 40 2)):=mw
theorem yy {f:Addr} {fd:aE} (F:kE K "refuse" "Slide.refuse" (jH 40 2) f fd) (dv:gH K "third" "Slide") (cY:gH K "second" "Slide") (dJ:gH K "name" "Slide") (eS:gH K "turn" "Slide") {lH:Addr} {lJ:aE} (eF:lU P w K mg base fh 3 lH lJ "refuse_unknown" ["drawing","names"] (bX K fO)) {AP:Addr} {AX:aE} (k8:lU P w K mg base fh 1 AP AX "refuse_unfit" ["fits"] (bX K j6)) {qj:Addr} {qp:aE} (gi:lU P w K mg base fh 4 qj qp "slide_fits" ["drawing","name","second","third","turn"] (bX K i5)):dN P w K mg base fh 5 f fd ["self","drawing"] (bX K ft) :=
 nN F yp yI fun _ _ _ _ _ _ hr=>(aB (dO (a9 eF.ok (hr.mono (by decide)) rfl eF.mg eF.kp eF.bi (af (aQ 1) (af (dh (af (dB (ip dJ) (aQ 0)) (af (dB (ip cY) (aQ 0)) (af (dB (ip dv) (aQ 0)) aA)))) aA))))
 (aG (dO (a9 k8.ok (hr.mono (by decide)) rfl k8.mg k8.kp k8.bi (af (a9 gi.ok (hr.mono (by decide)) rfl gi.mg gi.kp gi.bi (af (aQ 1) (af (dB (ip dJ) (aQ 0)) (af (dB (ip cY) (aQ 0)) (af (dB (ip dv) (aQ 0)) (af (dB (ip eS) (aQ 0)) aA)))))) aA)))))
theorem Cu:bL ["row","start"] ["row"] (aR (top 11)):=mw
theorem Lu {f:Addr} {fd:aE} (F:kE K "seated" "seated" (top 11) f fd) (wW:mg "min" = none):dN P w K mg base fh 1 f fd ["row"] (bX K ph) :=
 nN F Cu C4 fun _ _ _ _ _ _ hr=>have nd:=Cu.nd; have hu:=hr.units; (aB (c6 (fu (cV (aQ 0))) (aG (br (bu (dh aA)))) bV)
 (aB (jG (i:=1) nd rfl (iC bA rp Hx fx (CF hu) (aQ 0) (af (cm (CU rfl hu) rfl wW OH (af (aQ 0) aA)) aA)))
 (aG (br (bu (bB fj (fQ (aQ 0) (gU (aQ 1)) gV) (fQ (aQ 0) gV (gU (aQ 1)))))))))
theorem zu:bL ["rows"] ["rows"] (aR (top 12)):=mw
theorem AH {f:Addr} {fd:aE} (F:kE K "seated_rows" "seated_rows" (top 12) f fd) {Of:Addr} {Ot:aE} (vR:lU P w K mg base fh 1 Of Ot "seated" ["row"] (bX K ph)):dN P w K mg base fh 2 f fd ["rows"] (bX K dj) :=
 nN F zu sy fun _ _ _ _ _ _ hr=>(aG (br (bu (nH ["row"] (sc:=aR (top 12)) (XN:=["rows"]) (cN (aQ 0)) (fun _ _ _ _=>(jB (i:=0) (show (["row"]:List Str).Nodup by decide +kernel) rfl)) (fun _ _ _ _=>.none) (fun _ _ _ _=>(a9 vR.ok (hr.mono (by decide)) rfl vR.mg vR.kp vR.bi (af (aQ 0) aA)))))))
theorem qI:bL ["drawing","pairs","partner","one","other","rows","row","spots"] ["drawing","pairs"] (aR (top 33)):=mw
theorem yw {f:Addr} {fd:aE} (F:kE K "with_changed" "with_changed" (top 33) f fd) {xi:Addr} {xk:aE} (fb:lU P w K mg base fh 2 xi xk "hand_of" ["drawing","name"] (bX K iP)) {BK:Addr} {BR:aE} (lR:lU P w K mg base fh 2 BK BR "seated_rows" ["rows"] (bX K dj)):dN P w K mg base fh 3 f fd ["drawing","pairs"] (bX K j5) :=
 nN F qI yG fun _ _ _ _ _ _ hr=>have nd:=qI.nd; have hu:=hr.units; (aB (jG (i:=2) nd rfl vg)
 (aB (cH aX rfl (cN (aQ 1)) (p6 rfl (dU (jB (i:=3) nd rfl) (dU (jB (i:=4) nd rfl) lX)) (dW (dW ma))) (aB (lN (aQ 4) (qa hu (aQ 2) (aQ 3)))
 (aG (lN (aQ 3) (qa hu (aQ 2) (aQ 4))))))
 (aB (jG (i:=5) nd rfl (dh aA))
 (aB (cH aX rfl (cN (aQ 0)) (jB (i:=6) nd rfl) (aB (nF ["passing","partner"] (sc:=aR (top 33)) (XN:=["drawing","pairs","partner","one","other","rows","row","spots"]) (i:=7) nd rfl rfl (cN (aQ 6)) (fun _ _ _ _=>(jB (i:=0) (show (["passing","partner"]:List Str).Nodup by decide +kernel) rfl)) (fun _ _ _ _=>.none) (fun _ _ _ _=>(iC Hy mL Kw Fb (FI hu) (aQ 1) (af (fQ (aQ 0) gV (gU aF)) (af (fQ (aQ 0) gV (gU aF)) aA)))))
 (aG (dO (iC bA bZ bY fx fA (aQ 5) (af (bu (nH ["spot","drawing"] (sc:=aR (top 33)) (XN:=["drawing","pairs","partner","one","other","rows","row","spots"]) (cN (aQ 7)) (fun _ _ _ _=>(jB (i:=0) (show (["spot","drawing"]:List Str).Nodup by decide +kernel) rfl)) (fun _ _ _ _=>.none) (fun _ _ _ _=>(cW (af (a8 hu (aQ 0) aF (fun _ _=>rfl)) (af (a8 hu (aQ 0) aF (fun _ _=>rfl)) (af (a9 fb.ok (hr.mono (by decide)) rfl fb.mg fb.kp fb.bi (af (aQ 1) (af (a8 hu (aQ 0) aF (fun _ _=>rfl)) aA))) aA))))))) aA))))))
 (aG (br (bu (a9 lR.ok (hr.mono (by decide)) rfl lR.mg lR.kp lR.bi (af (bu (aQ 5)) aA)))))))))
theorem Bw:bL ["self","drawing"] ["self","drawing"] (aR (jH 40 3)):=mw
theorem BI {f:Addr} {fd:aE} (F:kE K "done" "Slide.done" (jH 40 3) f fd) (eS:gH K "turn" "Slide") (dv:gH K "third" "Slide") (cY:gH K "second" "Slide") (dJ:gH K "name" "Slide") {mG:Addr} {nO:Addr} {nP:aE} (gC:Cd P w K mg base fh 5 nO nP mG "Slide" "refuse" ["self","drawing"] (bX K ft)) {AO:Addr} {AW:aE} (k7:lU P w K mg base fh 3 AO AW "with_changed" ["drawing","pairs"] (bX K j5)) {oR:Addr} {oT:aE} (fG:lU P w K mg base fh 3 oR oT "slide_pairs" ["drawing","name","second","third","turn"] (bX K iy)):dN P w K mg base fh 6 f fd ["self","drawing"] (bX K h8) :=
 nN F Bw B9 fun _ _ _ _ _ _ hr=>(aB (dO (pE (lG gC.me gC.ok (hr.mono (by decide)) gC.bi nJ) (aQ 0) (af (aQ 1) aA)))
 (aG (br (bu (a9 k7.ok (hr.mono (by decide)) rfl k7.mg k7.kp k7.bi (af (aQ 1) (af (a9 fG.ok (hr.mono (by decide)) rfl fG.mg fG.kp fG.bi (af (aQ 1) (af (dB (ip dJ) (aQ 0)) (af (dB (ip cY) (aQ 0)) (af (dB (ip dv) (aQ 0)) (af (dB (ip eS) (aQ 0)) aA)))))) aA)))))))
theorem xF:bL ["_law_found","_law_due","_law_k","_law_j"] ["_law_found","_law_due"] (aR (top 51)):=mw
theorem Gg {f:Addr} {fd:aE} (F:kE K "_law_same" "_law_same" (top 51) f fd) (cx:mg "isinstance" = none) (cX:mg "len" = none) (gW:mg "list" = none) (cO:mg "range" = none) {kW:Addr} {kZ:aE} (dQ:lU P w K mg base fh 2 kW kZ "_law_wholes" ["_law_found","_law_due"] (bX K cg)):dN P w K mg base fh 3 f fd ["_law_found","_law_due"] (bX K iK) :=
 nN F xF yd fun _ _ _ _ _ _ hr=>have nd:=xF.nd; have hu:=hr.units; (aB (c6 (xt.pt (i9 (fu (cV (lO "list" (by decide) rfl cx rfl gW qB (aQ 0)))) (gT (cF (kS hu) (cm cP rfl cX fB (af (aQ 0) aA)) (cm cP rfl cX fB (af (aQ 1) aA)) (dM _))))) (aG (br (bu eK))) bV)
 (aB (cH aX rfl (fV rfl cO (cm cP rfl cX fB (af (aQ 1) aA))) (jB (i:=2) nd rfl) (aB (c6 (xt.pt (i9 (fu (cV (lO "list" (by decide) rfl cx rfl gW qB (a8 hu (aQ 0) (aQ 2) (fun _ _=>rfl))))) (gT (cF (kS hu) (cm cP rfl cX fB (af (a8 hu (aQ 0) (aQ 2) (fun _ _=>rfl)) aA)) (cm cP rfl cX fB (af (a8 hu (aQ 1) (aQ 2) (fun _ _=>rfl)) aA)) (dM _))))) (aG (br (bu eK))) bV)
 (aG (cH aX rfl (fV rfl cO (cm cP rfl cX fB (af (a8 hu (aQ 1) (aQ 2) (fun _ _=>rfl)) aA))) (jB (i:=3) nd rfl) (aG (c6 (fu (cV (a9 dQ.ok (hr.mono (by decide)) rfl dQ.mg dQ.kp dQ.bi (af (a8 hu (a8 hu (aQ 0) (aQ 2) (fun _ _=>rfl)) (aQ 3) (fun _ _=>rfl)) (af (a8 hu (a8 hu (aQ 1) (aQ 2) (fun _ _=>rfl)) (aQ 3) (fun _ _=>rfl)) aA))))) (aG (br (bu eK))) bV))))))
 (aG (br (bu eK)))))
theorem Bx:bL ["self","drawing"] ["self","drawing"] (aR (jH 40 4)):=mw
theorem BJ {f:Addr} {fd:aE} (F:kE K "back" "Slide.back" (jH 40 4) f fd) (eS:gH K "turn" "Slide") (dv:gH K "third" "Slide") (cY:gH K "second" "Slide") (dJ:gH K "name" "Slide") {mG:Addr} {nO:Addr} {nP:aE} (gC:Cd P w K mg base fh 5 nO nP mG "Slide" "refuse" ["self","drawing"] (bX K ft)) {wc:Addr} {iE:Addr} {iF:aE} (bW:Ji P w K mg base 1 iE iF wc "Slide" ["self","name","second","third","turn"] (bX K eM)):dN P w K mg base fh 6 f fd ["self","drawing"] (bX K jV) :=
 nN F Bx Ca fun _ _ _ _ _ _ hr=>(aB (dO (pE (lG gC.me gC.ok (hr.mono (by decide)) gC.bi nJ) (aQ 0) (af (aQ 1) aA)))
 (aG (br (bu (nG bW.Sh bW.ns bW.ok (hr.mono (by decide)) rfl bW.mg bW.bi (af (dB (ip dJ) (aQ 0)) (af (dB (ip cY) (aQ 0)) (af (dB (ip dv) (aQ 0)) (af (ua pX (dB (ip eS) (aQ 0))) aA)))))))))
theorem xI:bL ["_law_found","_law_word","_law_shape","_law_k"] ["_law_found","_law_word","_law_shape"] (aR (top 53)):=mw
theorem Gj {f:Addr} {fd:aE} (F:kE K "_law_form" "_law_form" (top 53) f fd) (cx:mg "isinstance" = none) (cX:mg "len" = none) (cO:mg "range" = none) (wU:mg "str" = none) (jX:mg "tuple" = none) {kW:Addr} {kZ:aE} (dQ:lU P w K mg base fh 2 kW kZ "_law_wholes" ["_law_found","_law_due"] (bX K cg)) {md:Addr} {mh:aE} (eO:lU P w K mg base fh 1 md mh "_law_whole" ["_law_found"] (bX K fC)):dN P w K mg base fh 3 f fd ["_law_found","_law_word","_law_shape"] (bX K kA) :=
 nN F xI yg fun _ _ _ _ _ _ hr=>have nd:=xI.nd; have hu:=hr.units; (aB (c6 (xt.pt (i9 (fu (cV (lO "tuple" (by decide) rfl cx rfl jX vT (aQ 0)))) (gT (cF (kS hu) (cm cP rfl cX fB (af (aQ 0) aA)) (bB fj aF (cm cP rfl cX fB (af (aQ 2) aA))) (dM _))))) (aG (br (bu eK))) bV)
 (aB (c6 (xt.pt (i9 (fu (cV (lO "str" (by decide) rfl cx rfl wU OG (a8 hu (aQ 0) aF (fun _ _=>rfl))))) (gT (cF (kS hu) (a8 hu (aQ 0) aF (fun _ _=>rfl)) (aQ 1) (dM _))))) (aG (br (bu eK))) bV)
 (aB (cH aX rfl (fV rfl cO (cm cP rfl cX fB (af (aQ 2) aA))) (jB (i:=3) nd rfl) (aG (c6 (cF (gJ hu) (a8 hu (aQ 2) (aQ 3) (fun _ _=>rfl)) aF (dM _)) (aG (c6 (xt.pt (i9 (fu (cV (a9 dQ.ok (hr.mono (by decide)) rfl dQ.mg dQ.kp dQ.bi (af (a8 hu (aQ 0) (bB fj (aQ 3) aF) (fun _ _=>rfl)) (af (a8 hu (aQ 0) (bB fj (aQ 3) aF) (fun _ _=>rfl)) aA))))) (gT (cF (kS hu) (cm cP rfl cX fB (af (a8 hu (aQ 0) (bB fj (aQ 3) aF) (fun _ _=>rfl)) aA)) aF (dM _))))) (aG (br (bu eK))) bV)) (aG (c6 (fu (cV (a9 eO.ok (hr.mono (by decide)) rfl eO.mg eO.kp eO.bi (af (a8 hu (aQ 0) (bB fj (aQ 3) aF) (fun _ _=>rfl)) aA)))) (aG (br (bu eK))) bV)))))
 (aG (br (bu eK))))))
theorem lx:bL ["_law_move","_law_drawing","_law_told","_law_handed","_law_ahead","_law_behind","_law_turn","_law_made","_law_row","_law_back","_law_found","_law_k"] ["_law_move","_law_drawing","_law_told"] (aR (top 62)):=mw
theorem qW {f:Addr} {fd:aE} (F:kE K "_law_there_and_back" "_law_there_and_back" (top 62) f fd) (gW:mg "list" = none) (cO:mg "range" = none) {rZ:Addr} {si:aE} (hW:lU P w K mg base fh 1 rZ si "_law_begun" ["_law_drawing"] (bX K fE)) {ID:Addr} {IL:aE} (jn:lU P w K mg base fh 2 ID IL "_law_slid" ["_law_drawing","_law_told"] (bX K ji)) {Cb:Addr} {Ei:Addr} {Eo:aE} (jD:Cd P w K mg base fh 6 Ei Eo Cb "Slide" "done" ["self","drawing"] (bX K h8)) {IE:Addr} {IM:aE} (jo:lU P w K mg base fh 3 IE IM "_law_same" ["_law_found","_law_due"] (bX K iK)) {Cc:Addr} {Ej:Addr} {Ep:aE} (qA:Cd P w K mg base fh 6 Ej Ep Cc "Slide" "back" ["self","drawing"] (bX K jV)) {pb:Addr} {qm:Addr} {qt:aE} (iT:Cd P w K mg base fh 1 qm qt pb "Slide" "told" ["self"] (bX K gm)) {IG:Addr} {IQ:aE} (qz:lU P w K mg base fh 3 IG IQ "_law_form" ["_law_found","_law_word","_law_shape"] (bX K kA)) {mf:Addr} {mi:aE} (dg:lU P w K mg base fh 1 mf mi "_law_hands" ["_law_drawing"] (bX K eB)) {ql:Addr} {qr:aE} (gj:lU P w K mg base fh 2 ql qr "_law_slides" ["_law_behind","_law_hands_here","_law_told"] (bX K fD)) {ui:Addr} {uj:aE} (iS:lU P w K mg base fh 1 ui uj "_law_next" ["_law_drawing"] (bX K gR)):dN P w K mg base fh 7 f fd ["_law_move","_law_drawing","_law_told"] (bX K gF) :=
 nN F lx qZ fun _ _ _ _ _ _ hr=>have nd:=lx.nd; have hu:=hr.units; (aB (yT (nF ["_law_row"] (sc:=aR (top 62)) (XN:=["_law_move","_law_drawing","_law_told","_law_handed","_law_ahead","_law_behind","_law_turn","_law_made","_law_row","_law_back","_law_found","_law_k"]) (i:=3) nd rfl rfl (cN (aQ 1)) (fun _ _ _ _=>(jB (i:=0) (show (["_law_row"]:List Str).Nodup by decide +kernel) rfl)) (fun _ _ _ _=>.none) (fun _ _ _ _=>(nI nR rfl gW qB (af (aQ 0) aA)))))
 (aB (jG (i:=4) nd rfl (a9 hW.ok (hr.mono (by decide)) rfl hW.mg hW.kp hW.bi (af (aQ 1) aA)))
 (aB (jG (i:=5) nd rfl (a9 jn.ok (hr.mono (by decide)) rfl jn.mg jn.kp jn.bi (af (aQ 1) (af (aQ 2) aA))))
 (aB (cH aX rfl (fV rfl cO aF) (jB (i:=6) nd rfl) (aB (jG (i:=7) nd rfl (pE (lG jD.me jD.ok (hr.mono (by decide)) jD.bi nJ) (aQ 0) (af (bu (aQ 3)) aA)))
 (aB (c6 (xt.pt (i9 (fu (cV (a9 jo.ok (hr.mono (by decide)) rfl jo.mg jo.kp jo.bi (af (aQ 7) (af (aQ 5) aA))))) (gT (cF (kS hu) (aQ 3) (aQ 1) (dM _))))) (aG (br (bu eK))) bV)
 (aG (cH aX rfl (cN (aQ 7)) (jB (i:=8) nd rfl) (aG (dO (iC bA bZ bY fx fA (aQ 8) (af (cW (af aF (af aF (af aF aA)))) aA)))))))))
 (aB (jG (i:=9) nd rfl (pE (lG qA.me qA.ok (hr.mono (by decide)) qA.bi nJ) (aQ 0) (af (aQ 3) aA)))
 (aB (jG (i:=10) nd rfl (zL (lG iT.me iT.ok (hr.mono (by decide)) iT.bi nJ) (aQ 9)))
 (aB (c6 (xt.pt (i9 (fu (cV (a9 qz.ok (hr.mono (by decide)) rfl qz.mg qz.kp qz.bi (af (aQ 10) (af mT (af (dh (af aF (af aF (af aF (af aF aA))))) aA)))))) (gT (cF (wR hu) (a8 hu (aQ 10) aF (fun _ _=>rfl)) (cW (af aF (af (ua pX aF) aA))) (by with_unfolding_all rfl))))) (aG (br (bu eK))) bV)
 (aB (cH aX rfl (zJ rfl cO aF aF) (jB (i:=11) nd rfl) (aG (c6 (cF (wR hu) (a8 hu (aQ 10) (aQ 11) (fun _ _=>rfl)) (a9 dg.ok (hr.mono (by decide)) rfl dg.mg dg.kp dg.bi (af (aQ 1) aA)) (by with_unfolding_all rfl)) (aG (br (bu eK))) bV)))
 (aB (c6 (xt.pt (i9 (fu (cV (a9 gj.ok (hr.mono (by decide)) rfl gj.mg gj.kp gj.bi (af (a9 iS.ok (hr.mono (by decide)) rfl iS.mg iS.kp iS.bi (af (aQ 5) aA)) (af (a9 dg.ok (hr.mono (by decide)) rfl dg.mg dg.kp dg.bi (af (aQ 5) aA)) (af (aQ 10) aA)))))) (gT (cF (kS hu) (a9 jn.ok (hr.mono (by decide)) rfl jn.mg jn.kp jn.bi (af (aQ 5) (af (aQ 10) aA))) (aQ 4) (dM _))))) (aG (br (bu eK))) bV)
 (aG (br (bu (JK (a9 jo.ok (hr.mono (by decide)) rfl jo.mg jo.kp jo.bi (af (pE (lG jD.me jD.ok (hr.mono (by decide)) jD.bi nJ) (aQ 9) (af (bu (nH ["_law_row"] (sc:=aR (top 62)) (XN:=["_law_move","_law_drawing","_law_told","_law_handed","_law_ahead","_law_behind","_law_turn","_law_made","_law_row","_law_back","_law_found","_law_k"]) (cN (aQ 5)) (fun _ _ _ _=>(jB (i:=0) (show (["_law_row"]:List Str).Nodup by decide +kernel) rfl)) (fun _ _ _ _=>.none) (fun _ _ _ _=>(nI nR rfl gW qB (af (aQ 0) aA))))) aA)) (af (aQ 4) aA))) (JJ (DI (gJ hu) (aQ 3) (aQ 1) (dM _))))))))))))))))
theorem wL:bL ["fits"] ["fits"] (aR (top 27)):=mw
theorem xc {f:Addr} {fd:aE} (F:kE K "refuse_unfit" "refuse_unfit" (top 27) f fd) {eZ:Addr} (lY:cI K bz "NoFit" = some (some (.ref eZ))) (vj:mg "NoFit" = some (.ref eZ)) (kX:i8 K eZ [.type "ValueError",.type "Exception",.type "BaseException",.type "object"] "ValueError.__new__" = true) (uE:OS K eZ):dN P w K mg base (Ce P w) 1 f fd ["fits"] (mI K mg jv) :=
 W5 F wL xu fun _ _ _ _ _ _ hr=>(aG (c6 (fu (cV (aQ 0))) (aG (HP rfl vj kX PySem.F.excBase_ValueError rfl (af mT aA))) bV))
theorem wM:bL ["self","drawing"] ["self","drawing"] (aR (jH 40 2)):=mw
theorem xf {f:Addr} {fd:aE} (F:kE K "refuse" "Slide.refuse" (jH 40 2) f fd) (dv:gH K "third" "Slide") (cY:gH K "second" "Slide") (dJ:gH K "name" "Slide") (eS:gH K "turn" "Slide") {lH:Addr} {lJ:aE} (eF:lU P w K mg base fh 3 lH lJ "refuse_unknown" ["drawing","names"] (bX K fO)) {yA:Addr} {yD:aE} (kc:lU P w K mg base (Ce P w) 1 yA yD "refuse_unfit" ["fits"] (mI K mg jv)) {qj:Addr} {qp:aE} (gi:lU P w K mg base fh 4 qj qp "slide_fits" ["drawing","name","second","third","turn"] (bX K i5)):dN P w K mg base (Ce P w) 5 f fd ["self","drawing"] (mI K mg eD) :=
 W5 F wM xw fun _ _ _ _ _ _ hr=>(aB (dO (a9 eF.ok (hr.mono (by decide)) rfl eF.mg eF.kp eF.bi (af (aQ 1) (af (dh (af (dB (ip dJ) (aQ 0)) (af (dB (ip cY) (aQ 0)) (af (dB (ip dv) (aQ 0)) aA)))) aA))))
 (aG (dO (KY kc.ok (hr.mono (by decide)) rfl kc.mg kc.kp kc.bi (af (a9 gi.ok (hr.mono (by decide)) rfl gi.mg gi.kp gi.bi (af (aQ 1) (af (dB (ip dJ) (aQ 0)) (af (dB (ip cY) (aQ 0)) (af (dB (ip dv) (aQ 0)) (af (dB (ip eS) (aQ 0)) aA)))))) aA)))))
theorem zA:bL ["self","drawing"] ["self","drawing"] (aR (jH 40 4)):=mw
theorem AN {f:Addr} {fd:aE} (F:kE K "back" "Slide.back" (jH 40 4) f fd) {lK:Addr} {mC:Addr} {mE:aE} (fW:Cd P w K mg base (Ce P w) 5 mC mE lK "Slide" "refuse" ["self","drawing"] (mI K mg eD)):dN P w K mg base (Ce P w) 6 f fd ["self","drawing"] (mI K mg jk) :=
 W5 F zA Bf fun _ _ _ _ _ _ hr=>(aB (dO (zK (qb fW.me fW.ok (hr.mono (by decide)) fW.bi sP) (aQ 0) (af (aQ 1) aA)))
 (aG mY))
theorem zy:bL ["self","drawing"] ["self","drawing"] (aR (jH 40 3)):=mw
theorem AM {f:Addr} {fd:aE} (F:kE K "done" "Slide.done" (jH 40 3) f fd) {lK:Addr} {mC:Addr} {mE:aE} (fW:Cd P w K mg base (Ce P w) 5 mC mE lK "Slide" "refuse" ["self","drawing"] (mI K mg eD)):dN P w K mg base (Ce P w) 6 f fd ["self","drawing"] (mI K mg jj) :=
 W5 F zy sE fun _ _ _ _ _ _ hr=>(aB (dO (zK (qb fW.me fW.ok (hr.mono (by decide)) fW.bi sP) (aQ 0) (af (aQ 1) aA)))
 (aG mY))
theorem rD:bL ["_law_move","_law_drawing","_law_back","_law_refused_here"] ["_law_move","_law_drawing","_law_back"] (aR (top 61)):=mw
theorem AJ {f:Addr} {fd:aE} (F:kE K "_law_refused" "_law_refused" (top 61) f fd) {eZ:Addr} (lY:cI K bz "NoFit" = some (some (.ref eZ))) (vj:mg "NoFit" = some (.ref eZ)) (kX:i8 K eZ [.type "ValueError",.type "Exception",.type "BaseException",.type "object"] "ValueError.__new__" = true) (uE:OS K eZ) (kQ:subIn K eZ (.ref eZ)=true) {Bj:Addr} {BP:Addr} {BX:aE} (oY:Cd P w K mg base (Ce P w) 6 BP BX Bj "Slide" "back" ["self","drawing"] (mI K mg jk)) {Bi:Addr} {BO:Addr} {BW:aE} (oX:Cd P w K mg base (Ce P w) 6 BO BW Bi "Slide" "done" ["self","drawing"] (mI K mg jj)):dN P w K mg base fh 7 f fd ["_law_move","_law_drawing","_law_back"] (bX K kN) :=
 nN F rD Be fun _ _ _ _ _ _ hr=>have nd:=rD.nd; (aB (jG (i:=3) nd rfl eK)
 (aB (Na (UN (fun EX=>(cV (aQ 2))) (Fe ⟨rfl,rfl,rfl⟩ ⟨rfl,vj,⟨_,_,kX,rfl⟩,(GN ⟨_,_,_,lY,kX,kQ⟩ Kn)⟩ (fun v=>(aG (jG (i:=3) nd rfl eK))) (qb oY.me oY.ok (hr.mono (by decide)) oY.bi sP) (fun EX=>(aQ 0)) (fun EX=>(af (aQ 1) aA))) (Fe ⟨rfl,rfl,rfl⟩ ⟨rfl,vj,⟨_,_,kX,rfl⟩,(GN ⟨_,_,_,lY,kX,kQ⟩ Kn)⟩ (fun v=>(aG (jG (i:=3) nd rfl eK))) (qb oX.me oX.ok (hr.mono (by decide)) oX.bi sP) (fun EX=>(aQ 0)) (fun EX=>(af (aQ 1) aA)))))
 (aG (br (bu (aQ 3))))))
theorem uV:bL ["_law_move","_law_drawing","_law_told","_law_back","_law_handed"] ["_law_move","_law_drawing","_law_told"] (aR (top 63)):=mw
theorem Eg {f:Addr} {fd:aE} (F:kE K "_law_asked" "_law_asked" (top 63) f fd) (gW:mg "list" = none) {ql:Addr} {qr:aE} (gj:lU P w K mg base fh 2 ql qr "_law_slides" ["_law_behind","_law_hands_here","_law_told"] (bX K fD)) {mf:Addr} {mi:aE} (dg:lU P w K mg base fh 1 mf mi "_law_hands" ["_law_drawing"] (bX K eB)) {ui:Addr} {uj:aE} (iS:lU P w K mg base fh 1 ui uj "_law_next" ["_law_drawing"] (bX K gR)) {rW:Addr} {sd:aE} (g4:lU P w K mg base fh 7 rW sd "_law_there_and_back" ["_law_move","_law_drawing","_law_told"] (bX K gF)) {BL:Addr} {BS:aE} (lS:lU P w K mg base fh 7 BL BS "_law_refused" ["_law_move","_law_drawing","_law_back"] (bX K kN)):dN P w K mg base fh 8 f fd ["_law_move","_law_drawing","_law_told"] (bX K mQ) :=
 nN F uV EI fun _ _ _ _ _ _ hr=>have nd:=uV.nd; have hu:=hr.units; (aB (c6 (cV (a9 gj.ok (hr.mono (by decide)) rfl gj.mg gj.kp gj.bi (af (a9 iS.ok (hr.mono (by decide)) rfl iS.mg iS.kp iS.bi (af (aQ 1) aA)) (af (a9 dg.ok (hr.mono (by decide)) rfl dg.mg dg.kp dg.bi (af (aQ 1) aA)) (af (aQ 2) aA))))) (aG (br (bu (a9 g4.ok (hr.mono (by decide)) rfl g4.mg g4.kp g4.bi (af (aQ 0) (af (aQ 1) (af (aQ 2) aA))))))) bV)
 (aB (cH aX rfl (cN (dh (af eK (af eK aA)))) (jB (i:=3) nd rfl) (aB (yT (nF ["_law_row"] (sc:=aR (top 63)) (XN:=["_law_move","_law_drawing","_law_told","_law_back","_law_handed"]) (i:=4) nd rfl rfl (cN (aQ 1)) (fun _ _ _ _=>(jB (i:=0) (show (["_law_row"]:List Str).Nodup by decide +kernel) rfl)) (fun _ _ _ _=>.none) (fun _ _ _ _=>(nI nR rfl gW qB (af (aQ 0) aA)))))
 (aG (c6 (xt.pt (i9 (fu (cV (a9 lS.ok (hr.mono (by decide)) rfl lS.mg lS.kp lS.bi (af (aQ 0) (af (aQ 4) (af (aQ 3) aA)))))) (gT (cF (kS hu) (aQ 4) (aQ 1) (dM _))))) (aG (br (bu eK))) bV))))
 (aG (br (bu eK)))))
theorem MU:bL ["_law_script","_law_drawing","_law_k","_law_names_here","_law_bits","_law_by","_law_told","_law_other","_law_move","_law_rows"] ["_law_script"] (aR (top 65)):=mw
theorem Tf {f:Addr} {fd:aE} (F:kE K "law" "law" (top 65) f fd) (cX:mg "len" = none) (DP:mg "max" = none) (cO:mg "range" = none) {BN:Addr} {BV:aE} (bH:lU P w K mg base fh 1 BN BV "_law_cell_at" ["_law_script","_law_k"] (bX K cR)) {BM:Addr} {BU:aE} (lT:lU P w K mg base fh 2 BM BU "_law_crossed" ["_law_drawing","_law_cell"] (bX K iA)) {Eh:Addr} {En:aE} (mX:lU P w K mg base fh 1 Eh En "_law_names" ["_law_drawing"] (bX K lL)) {Gr:Addr} {Gz:aE} (oG:lU P w K mg base fh 1 Gr Gz "_law_free" ["_law_names_here","_law_number"] (bX K mP)) {Gm:Addr} {Gw:aE} (oC:lU P w K mg base fh 3 Gm Gw "_law_three" ["_law_drawing","_law_names_here","_law_bits","_law_cells"] (bX K jx)) {vH:Addr} {vL:aE} (jd:lU P w K mg base fh 1 vH vL "_law_handed_over" ["_law_drawing","_law_names_here"] (bX K iO)) {Lw:Addr} {LC:aE} (sY:lU P w K mg base fh 3 Lw LC "move_of" ["told"] (bX K p4)) {wc:Addr} {iE:Addr} {iF:aE} (bW:Ji P w K mg base 1 iE iF wc "Slide" ["self","name","second","third","turn"] (bX K eM)) {Gn:Addr} {Gx:aE} (oE:lU P w K mg base fh 3 Gn Gx "_law_tells" ["_law_found","_law_due"] (bX K cM)) {pb:Addr} {qm:Addr} {qt:aE} (iT:Cd P w K mg base fh 1 qm qt pb "Slide" "told" ["self"] (bX K gm)) {Gu:Addr} {GC:aE} (oI:lU P w K mg base fh 8 Gu GC "_law_asked" ["_law_move","_law_drawing","_law_told"] (bX K mQ)):dN P w K mg base fh 9 f fd ["_law_script"] (bX K K2.Cr) :=
 nN F MU TK fun _ _ _ _ _ _ hr=>have nd:=MU.nd; have hu:=hr.units; (aB (yT (nF ["_law_k"] (sc:=aR (top 65)) (XN:=["_law_script","_law_drawing","_law_k","_law_names_here","_law_bits","_law_by","_law_told","_law_other","_law_move","_law_rows"]) (i:=1) nd rfl rfl (fV rfl cO (bB fj aF (bB eX (a9 bH.ok (hr.mono (by decide)) rfl bH.mg bH.kp bH.bi (af (aQ 0) (af aF aA))) aF))) (fun _ _ _ _=>(jB (i:=0) (show (["_law_k"]:List Str).Nodup by decide +kernel) rfl)) (fun _ _ _ _=>.none) (fun _ _ _ _=>(dh aA))))
 (aB (cH aX rfl (fV rfl cO (bB eX (a9 bH.ok (hr.mono (by decide)) rfl bH.mg bH.kp bH.bi (af (aQ 0) (af aF aA))) aF)) (jB (i:=2) nd rfl) (aG (jG (i:=1) nd rfl (bu (a9 lT.ok (hr.mono (by decide)) rfl lT.mg lT.kp lT.bi (af (aQ 1) (af (a9 bH.ok (hr.mono (by decide)) rfl bH.mg bH.kp bH.bi (af (aQ 0) (af (bB fj aF (aQ 2)) aA))) aA)))))))
 (aB (jG (i:=3) nd rfl (a9 mX.ok (hr.mono (by decide)) rfl mX.mg mX.kp mX.bi (af (aQ 1) aA)))
 (aB (cH aX rfl (fV rfl cO aF) (jB (i:=2) nd rfl) (aG (dO (iC bA bZ bY fx fA (aQ 3) (af (a9 oG.ok (hr.mono (by decide)) rfl oG.mg oG.kp oG.bi (af (aQ 3) (af (a9 bH.ok (hr.mono (by decide)) rfl bH.mg bH.kp bH.bi (af (aQ 0) (af (bB fj aF (aQ 2)) aA))) aA))) aA)))))
 (aB (jG (i:=3) nd rfl (fQ (aQ 3) (gU (ua pX aF)) gV))
 (aB (jG (i:=4) nd rfl (bB eX (a9 bH.ok (hr.mono (by decide)) rfl bH.mg bH.kp bH.bi (af (aQ 0) (af aF aA))) aF))
 (aB (jG (i:=1) nd rfl (bu (a9 oC.ok (hr.mono (by decide)) rfl oC.mg oC.kp oC.bi (af (aQ 1) (af (aQ 3) (af (aQ 4) (af (nH ["_law_k","_law_script"] (sc:=aR (top 65)) (XN:=["_law_script","_law_drawing","_law_k","_law_names_here","_law_bits","_law_by","_law_told","_law_other","_law_move","_law_rows"]) (fV rfl cO aF) (fun _ _ _ _=>(jB (i:=0) (show (["_law_k","_law_script"]:List Str).Nodup by decide +kernel) rfl)) (fun _ _ _ _=>.none) (fun _ _ _ _=>(a9 bH.ok (hr.mono (by decide)) rfl bH.mg bH.kp bH.bi (af (aQ 1) (af (bB fj aF (aQ 0)) aA))))) aA)))))))
 (aB (jG (i:=5) nd rfl (bB eX (a9 bH.ok (hr.mono (by decide)) rfl bH.mg bH.kp bH.bi (af (aQ 0) (af aF aA))) aF))
 (aB (yT (nF ["_law_row","_law_by"] (sc:=aR (top 65)) (XN:=["_law_script","_law_drawing","_law_k","_law_names_here","_law_bits","_law_by","_law_told","_law_other","_law_move","_law_rows"]) (i:=1) nd rfl rfl (cN (aQ 1)) (fun _ _ _ _=>(jB (i:=0) (show (["_law_row","_law_by"]:List Str).Nodup by decide +kernel) rfl)) (fun _ _ _ _=>.none) (fun _ _ _ _=>(bB fj (fQ (aQ 0) (gU (bB eX (aQ 1) (cm (CV rfl hu) rfl DP OI (af aF (af (cm cP rfl cX fB (af (aQ 0) aA)) aA))))) gV) (fQ (aQ 0) gV (gU (bB eX (aQ 1) (cm (CV rfl hu) rfl DP OI (af aF (af (cm cP rfl cX fB (af (aQ 0) aA)) aA))))))))))
 (aB (jG (i:=6) nd rfl (cW (af mT (af (a8 hu (aQ 3) aF (fun _ _=>rfl)) (af (a8 hu (aQ 3) aF (fun _ _=>rfl)) (af (a8 hu (aQ 3) aF (fun _ _=>rfl)) (af (bB sN aF (bB gf aF (bB eX (aQ 4) aF))) aA)))))))
 (aB (jG (i:=7) nd rfl (a9 jd.ok (hr.mono (by decide)) rfl jd.mg jd.kp jd.bi (af (aQ 1) (af (dh (af (a8 hu (aQ 3) (bB jW (aQ 4) aF) (fun _ _=>rfl)) (af (a8 hu (aQ 3) (bB eX (bB fj (bB jW (aQ 4) aF) aF) aF) (fun _ _=>rfl)) aA))) aA))))
 (aB (cH aX rfl (cN (dh (af (nG bW.Sh bW.ns bW.ok (hr.mono (by decide)) rfl bW.mg bW.bi (af (a8 hu (aQ 6) aF (fun _ _=>rfl)) (af (a8 hu (aQ 6) aF (fun _ _=>rfl)) (af (a8 hu (aQ 6) aF (fun _ _=>rfl)) (af (a8 hu (aQ 6) aF (fun _ _=>rfl)) aA))))) (af (a9 sY.ok (hr.mono (by decide)) rfl sY.mg sY.kp sY.bi (af (aQ 6) aA)) aA)))) (jB (i:=8) nd rfl) (aG (cH aX rfl (cN (dh (af (aQ 1) (af (aQ 7) (af (aQ 1) aA))))) (jB (i:=9) nd rfl) (aG (c6 (xt.pt (i9 (fu (cV (a9 oE.ok (hr.mono (by decide)) rfl oE.mg oE.kp oE.bi (af (zL (lG iT.me iT.ok (hr.mono (by decide)) iT.bi nJ) (aQ 8)) (af (aQ 6) aA))))) (gT (fu (cV (a9 oI.ok (hr.mono (by decide)) rfl oI.mg oI.kp oI.bi (af (aQ 8) (af (aQ 9) (af (aQ 6) aA))))))))) (aG (br (bu eK))) bV)))))
 (aG (br (bu eK)))))))))))))))
end
theorem all_mk {l:Dc} {w:World} {K:ay} {h:Heap} {mg:Str->Option Value} {fa:Addr} (X:K.In h) (G:h.Ns bz mg) (hfa:mg "law" = some (.ref fa)) {sF:Addr} (xq:QP K "Uncurl" sF) {sG:Addr} (sW:QP K "Curl" sG) {xB:Addr} (y9:QP K "Part" xB) {t4:Addr} (sr:QP K "Lay" t4) {iU:Addr} (cb:QP K "Slide" iU)
  {f0:Addr} {d0:aE} (F0:At K "_law_cell_at" (top 43) f0 d0)
  {f1:Addr} {d1:aE} (F1:At K "_law_free" (top 47) f1 d1)
  {f2:Addr} {d2:aE} (F2:At K "_law_names" (top 46) f2 d2)
  {f3:Addr} {d3:aE} (F3:At K "_law_mixed" (top 45) f3 d3)
  {f4:Addr} {d4:aE} (F4:At K "_law_crossed" (top 48) f4 d4)
  {f5:Addr} {d5:aE} (F5:At K "_law_names" (top 46) f5 d5)
  {f6:Addr} {d6:aE} (F6:At K "_law_free" (top 47) f6 d6)
  {f7:Addr} {d7:aE} (F7:At K "_law_block" (top 59) f7 d7)
  {f8:Addr} {d8:aE} (F8:At K "_law_three" (top 60) f8 d8)
  {f9:Addr} {d9:aE} (F9:At K "_law_handed_over" (top 64) f9 d9)
  {f10:Addr} {d10:aE} (F10:Ha K sF "__init__" "Uncurl.__init__" (jH 36 0) f10 d10)
  {Ub:Addr} {d11:aE} (F11:Ha K sG "__init__" "Curl.__init__" (jH 37 0) Ub d11)
  {f12:Addr} {d12:aE} (F12:Ha K xB "__init__" "Part.__init__" (jH 38 0) f12 d12)
  {f13:Addr} {d13:aE} (F13:Ha K t4 "__init__" "Lay.__init__" (jH 39 0) f13 d13)
  {f14:Addr} {d14:aE} (Wv:Ha K iU "__init__" "Slide.__init__" (jH 40 0) f14 d14)
  {W7:Addr} {d15:aE} (XF:At K "move_of" (top 41) W7 d15)
  {Z5:Addr} {d16:aE} (Rt:At K "_law_whole" (top 44) Z5 d16)
  {f17:Addr} {d17:aE} (Rq:At K "_law_wholes" (top 50) f17 d17)
  {f18:Addr} {d18:aE} (XE:At K "_law_tells" (top 52) f18 d18)
  {f19:Addr} {d19:aE} (XD:Ha K iU "told" "Slide.told" (jH 40 1) f19 d19)
  {f20:Addr} {d20:aE} (Uv:At K "_law_pairs" (top 56) f20 d20)
  {f21:Addr} {d21:aE} (Uu:At K "_law_slides" (top 57) f21 d21)
  {f22:Addr} {d22:aE} (Rp:At K "_law_hands" (top 54) f22 d22)
  {f23:Addr} {d23:aE} (Ut:At K "_law_next" (top 55) f23 d23)
  {f24:Addr} {d24:aE} (Us:At K "_law_begun" (top 49) f24 d24)
  {f25:Addr} {d25:aE} (XC:At K "_law_slid" (top 58) f25 d25)
  {f26:Addr} {d26:aE} (Ur:At K "passings_of" (top 10) f26 d26)
  {f27:Addr} {d27:aE} (XB:At K "names_of" (top 13) f27 d27)
  {f28:Addr} {d28:aE} (Uq:At K "refuse_unknown" (top 26) f28 d28)
  {f29:Addr} {d29:aE} (XA:At K "refuse_unfit" (top 27) f29 d29)
  {f30:Addr} {d30:aE} (Xz:At K "next_of" (top 16) f30 d30)
  {f31:Addr} {d31:aE} (Up:At K "hand_of" (top 14) f31 d31)
  {f32:Addr} {d32:aE} (Xy:At K "in_turn" (top 22) f32 d32)
  {f33:Addr} {d33:aE} (Uo:At K "slide_pairs" (top 23) f33 d33)
  {f34:Addr} {d34:aE} (Um:At K "slide_fits" (top 24) f34 d34)
  {f35:Addr} {d35:aE} (Xx:Ha K iU "refuse" "Slide.refuse" (jH 40 2) f35 d35)
  {f36:Addr} {d36:aE} (Xw:At K "seated" (top 11) f36 d36)
  {f37:Addr} {d37:aE} (Xv:At K "seated_rows" (top 12) f37 d37)
  {f38:Addr} {d38:aE} (Xu:At K "with_changed" (top 33) f38 d38)
  {f39:Addr} {d39:aE} (F39:Ha K iU "done" "Slide.done" (jH 40 3) f39 d39)
  {f40:Addr} {d40:aE} (Xs:At K "_law_same" (top 51) f40 d40)
  {f41:Addr} {d41:aE} (F41:Ha K iU "back" "Slide.back" (jH 40 4) f41 d41)
  {f42:Addr} {d42:aE} (Xr:At K "_law_form" (top 53) f42 d42)
  {f43:Addr} {d43:aE} (Xq:At K "_law_there_and_back" (top 62) f43 d43)
  {f44:Addr} {d44:aE} (Xp:At K "refuse_unfit" (top 27) f44 d44)
  {f45:Addr} {d45:aE} (Xo:Ha K iU "refuse" "Slide.refuse" (jH 40 2) f45 d45)
  {f46:Addr} {d46:aE} (F46:Ha K iU "back" "Slide.back" (jH 40 4) f46 d46)
  {f47:Addr} {d47:aE} (F47:Ha K iU "done" "Slide.done" (jH 40 3) f47 d47)
  {f48:Addr} {d48:aE} (Xn:At K "_law_refused" (top 61) f48 d48)
  {f49:Addr} {d49:aE} (Xm:At K "_law_asked" (top 63) f49 d49)
  {f50:Addr} {d50:aE} (F50:At K "law" (top 65) f50 d50)
  (UB:autoParam (cI K bz "len" = some none) Aq._auto_1) (RA:autoParam (cI K bz "list" = some none) Aq._auto_1) (Pu:autoParam (cI K bz "range" = some none) Aq._auto_1) (RB:autoParam (cI K bz "bool" = some none) Aq._auto_1) (UC:autoParam (cI K bz "int" = some none) Aq._auto_1) (Dh:autoParam (cI K bz "isinstance" = some none) Aq._auto_1) (Pt:autoParam (cI K bz "tuple" = some none) Aq._auto_1) (Uy:autoParam (cI K bz "str" = some none) Aq._auto_1) (Uz:autoParam (cI K bz "min" = some none) Aq._auto_1) (Mw:autoParam (cI K bz "sorted" = some none) Aq._auto_1) (Ux:autoParam (cI K bz "zip" = some none) Aq._auto_1) (UD:autoParam (cI K bz "all" = some none) Aq._auto_1) (UA:autoParam (cI K bz "max" = some none) Aq._auto_1) {eZ:Addr} (lY:autoParam (cI K bz "NoFit" = some (some (.ref eZ))) Aq._auto_1) (kX:autoParam (i8 K eZ [.type "ValueError",.type "Exception",.type "BaseException",.type "object"] "ValueError.__new__" = true) Ax._auto_1) (MF:autoParam (bJ K (.ref eZ) "__getattribute__" = some (some (.builtin "BaseException.__getattribute__"))) Af._auto_1) (ME:autoParam (bJ K (.ref eZ) "__getattr__" = some none) Af._auto_1) (MD:autoParam (bJ K (.ref eZ) "__class__" = some (some (.builtin "object.__class__"))) Af._auto_1) (MC:autoParam (PySem.W.specialIn K (.builtin "object.__class__") "__get__" = some (some (.builtin "getset_descriptor.__get__"))) Af._auto_1) (MB:autoParam (PySem.W.takesIn K (.builtin "object.__class__")=some true) Af._auto_1) (MA:autoParam (PySem.W.mroIn K eZ (.type "object")=some true) Af._auto_1) (Mz:autoParam (PySem.W.mroIn K eZ (.type "BaseException")=some true) Af._auto_1) (Mx:autoParam ((PySem.W.clsIn K eZ).isSome=true) Af._auto_1) {zP:Value} {zO:Option Addr} {sm:ClassData} {zr:Array (Option Value)} (Ac:autoParam (K.lookup eZ=some ⟨zP,zO,.cls sm,zr⟩) Aq._auto_1) (zV:autoParam (sm.mro.contains (.ref eZ)=true) Ae._auto_1) (zS:autoParam (bJ K (.ref sF) "name" = some none) Aq._auto_1) (DV:autoParam (bJ K (.ref sG) "name" = some none) Aq._auto_1) (DU:autoParam (bJ K (.ref sG) "spot" = some none) Aq._auto_1) (BA:autoParam (bJ K (.ref sG) "first" = some none) Aq._auto_1) (DW:autoParam (bJ K (.ref sG) "hand" = some none) Aq._auto_1) (DS:autoParam (bJ K (.ref xB) "name" = some none) Aq._auto_1) (zT:autoParam (bJ K (.ref xB) "second" = some none) Aq._auto_1) (FG:autoParam (bJ K (.ref t4) "name" = some none) Aq._auto_1) (Bz:autoParam (bJ K (.ref t4) "second" = some none) Aq._auto_1) (FF:autoParam (bJ K (.ref t4) "over" = some none) Aq._auto_1) (DT:autoParam (bJ K (.ref t4) "under" = some none) Aq._auto_1) (By:autoParam (bJ K (.ref t4) "turned" = some none) Aq._auto_1) (FH:autoParam (bJ K (.ref t4) "hand" = some none) Aq._auto_1) (i7:autoParam (bJ K (.ref iU) "name" = some none) Aq._auto_1) (gL:autoParam (bJ K (.ref iU) "second" = some none) Aq._auto_1) (iD:autoParam (bJ K (.ref iU) "third" = some none) Aq._auto_1) (i6:autoParam (bJ K (.ref iU) "turn" = some none) Aq._auto_1) (K8:autoParam (jJ K sF=true) Aq._auto_1) (Ll:autoParam (fm K (.ref sF)=true) Aq._auto_1) (Qc:autoParam (jJ K sG=true) Aq._auto_1) (Qh:autoParam (fm K (.ref sG)=true) Aq._auto_1) (Qb:autoParam (jJ K xB=true) Aq._auto_1) (Qg:autoParam (fm K (.ref xB)=true) Aq._auto_1) (Sj:autoParam (jJ K t4=true) Aq._auto_1) (Sz:autoParam (fm K (.ref t4)=true) Aq._auto_1) (zW:autoParam (jJ K iU=true) Aq._auto_1) (Ay:autoParam (fm K (.ref iU)=true) Aq._auto_1) :
  ∃ fd:aE,(∀ (s:aK) (v:Value),BindsTo s fd ⟨[v],[]⟩ [("_law_script",v)])/\∀ base:Heap,K.In base->base.Ns bz mg->dN l.prog w K mg base fh 9 fa fd ["_law_script"] (bX K K2.Cr):=by
 have e:=hfa.symm.trans (gz X G F50.a);cases e;have b0:=F0.F.binds (ps:=["_law_script","_law_k"]) fun _ _ _ _ _ _ us hl=>by obtain⟨_,_,rfl⟩:=pI hl; rfl
 have b1:=F1.F.binds (ps:=["_law_names_here","_law_number"]) fun _ _ _ _ _ _ us hl=>by obtain⟨_,_,rfl⟩:=pI hl; rfl
 have b2:=F2.F.binds (ps:=["_law_drawing"]) fun _ _ _ _ _ _ us hl=>by obtain⟨_,rfl⟩:=rR hl; rfl
 have b3:=F3.F.binds (ps:=["_law_cell"]) fun _ _ _ _ _ _ us hl=>by obtain⟨_,rfl⟩:=rR hl; rfl
 have b4:=F4.F.binds (ps:=["_law_drawing","_law_cell"]) fun _ _ _ _ _ _ us hl=>by obtain⟨_,_,rfl⟩:=pI hl; rfl
 have b5:=F5.F.binds (ps:=["_law_drawing"]) fun _ _ _ _ _ _ us hl=>by obtain⟨_,rfl⟩:=rR hl; rfl
 have b6:=F6.F.binds (ps:=["_law_names_here","_law_number"]) fun _ _ _ _ _ _ us hl=>by obtain⟨_,_,rfl⟩:=pI hl; rfl
 have b7:=F7.F.binds (ps:=["_law_rows","_law_cell","_law_block_here"]) fun _ _ _ _ _ _ us hl=>by obtain⟨_,_,_,rfl⟩:=BC hl; rfl
 have b8:=F8.F.binds (ps:=["_law_drawing","_law_names_here","_law_bits","_law_cells"]) fun _ _ _ _ _ _ us hl=>by obtain⟨_,_,_,_,rfl⟩:=Vt hl; rfl
 have b9:=F9.F.binds (ps:=["_law_drawing","_law_names_here"]) fun _ _ _ _ _ _ us hl=>by obtain⟨_,_,rfl⟩:=pI hl; rfl
 have b10:=F10.F.binds (ps:=["self","name"]) fun _ _ _ _ _ _ us hl=>by obtain⟨_,_,rfl⟩:=pI hl; rfl
 have b11:=F11.F.binds (ps:=["self","name","spot","first","hand"]) fun _ _ _ _ _ _ us hl=>by obtain⟨_,_,_,_,_,rfl⟩:=Qf hl; rfl
 have b12:=F12.F.binds (ps:=["self","name","second"]) fun _ _ _ _ _ _ us hl=>by obtain⟨_,_,_,rfl⟩:=BC hl; rfl
 have b13:=F13.F.binds (ps:=["self","name","second","over","under","turned","hand"]) fun _ _ _ _ _ _ us hl=>by obtain⟨_,_,_,_,_,_,_,rfl⟩:=YX hl; rfl
 have b14:=Wv.F.binds (ps:=["self","name","second","third","turn"]) fun _ _ _ _ _ _ us hl=>by obtain⟨_,_,_,_,_,rfl⟩:=Qf hl; rfl
 have b15:=XF.F.binds (ps:=["told"]) fun _ _ _ _ _ _ us hl=>by obtain⟨_,rfl⟩:=rR hl; rfl
 have b16:=Rt.F.binds (ps:=["_law_found"]) fun _ _ _ _ _ _ us hl=>by obtain⟨_,rfl⟩:=rR hl; rfl
 have b17:=Rq.F.binds (ps:=["_law_found","_law_due"]) fun _ _ _ _ _ _ us hl=>by obtain⟨_,_,rfl⟩:=pI hl; rfl
 have b18:=XE.F.binds (ps:=["_law_found","_law_due"]) fun _ _ _ _ _ _ us hl=>by obtain⟨_,_,rfl⟩:=pI hl; rfl
 have b19:=XD.F.binds (ps:=["self"]) fun _ _ _ _ _ _ us hl=>by obtain⟨_,rfl⟩:=rR hl; rfl
 have b20:=Uv.F.binds (ps:=["_law_a","_law_b","_law_c"]) fun _ _ _ _ _ _ us hl=>by obtain⟨_,_,_,rfl⟩:=BC hl; rfl
 have b21:=Uu.F.binds (ps:=["_law_behind","_law_hands_here","_law_told"]) fun _ _ _ _ _ _ us hl=>by obtain⟨_,_,_,rfl⟩:=BC hl; rfl
 have b22:=Rp.F.binds (ps:=["_law_drawing"]) fun _ _ _ _ _ _ us hl=>by obtain⟨_,rfl⟩:=rR hl; rfl
 have b23:=Ut.F.binds (ps:=["_law_drawing"]) fun _ _ _ _ _ _ us hl=>by obtain⟨_,rfl⟩:=rR hl; rfl
 have b24:=Us.F.binds (ps:=["_law_drawing"]) fun _ _ _ _ _ _ us hl=>by obtain⟨_,rfl⟩:=rR hl; rfl
 have b25:=XC.F.binds (ps:=["_law_drawing","_law_told"]) fun _ _ _ _ _ _ us hl=>by obtain⟨_,_,rfl⟩:=pI hl; rfl
 have b26:=Ur.F.binds (ps:=["rows"]) fun _ _ _ _ _ _ us hl=>by obtain⟨_,rfl⟩:=rR hl; rfl
 have b27:=XB.F.binds (ps:=["drawing"]) fun _ _ _ _ _ _ us hl=>by obtain⟨_,rfl⟩:=rR hl; rfl
 have b28:=Uq.F.binds (ps:=["drawing","names"]) fun _ _ _ _ _ _ us hl=>by obtain⟨_,_,rfl⟩:=pI hl; rfl
 have b29:=XA.F.binds (ps:=["fits"]) fun _ _ _ _ _ _ us hl=>by obtain⟨_,rfl⟩:=rR hl; rfl
 have b30:=Xz.F.binds (ps:=["drawing"]) fun _ _ _ _ _ _ us hl=>by obtain⟨_,rfl⟩:=rR hl; rfl
 have b31:=Up.F.binds (ps:=["drawing","name"]) fun _ _ _ _ _ _ us hl=>by obtain⟨_,_,rfl⟩:=pI hl; rfl
 have b32:=Xy.F.binds (ps:=["one","other","turn"]) fun _ _ _ _ _ _ us hl=>by obtain⟨_,_,_,rfl⟩:=BC hl; rfl
 have b33:=Uo.F.binds (ps:=["drawing","name","second","third","turn"]) fun _ _ _ _ _ _ us hl=>by obtain⟨_,_,_,_,_,rfl⟩:=Qf hl; rfl
 have b34:=Um.F.binds (ps:=["drawing","name","second","third","turn"]) fun _ _ _ _ _ _ us hl=>by obtain⟨_,_,_,_,_,rfl⟩:=Qf hl; rfl
 have b35:=Xx.F.binds (ps:=["self","drawing"]) fun _ _ _ _ _ _ us hl=>by obtain⟨_,_,rfl⟩:=pI hl; rfl
 have b36:=Xw.F.binds (ps:=["row"]) fun _ _ _ _ _ _ us hl=>by obtain⟨_,rfl⟩:=rR hl; rfl
 have b37:=Xv.F.binds (ps:=["rows"]) fun _ _ _ _ _ _ us hl=>by obtain⟨_,rfl⟩:=rR hl; rfl
 have b38:=Xu.F.binds (ps:=["drawing","pairs"]) fun _ _ _ _ _ _ us hl=>by obtain⟨_,_,rfl⟩:=pI hl; rfl
 have b39:=F39.F.binds (ps:=["self","drawing"]) fun _ _ _ _ _ _ us hl=>by obtain⟨_,_,rfl⟩:=pI hl; rfl
 have b40:=Xs.F.binds (ps:=["_law_found","_law_due"]) fun _ _ _ _ _ _ us hl=>by obtain⟨_,_,rfl⟩:=pI hl; rfl
 have b41:=F41.F.binds (ps:=["self","drawing"]) fun _ _ _ _ _ _ us hl=>by obtain⟨_,_,rfl⟩:=pI hl; rfl
 have b42:=Xr.F.binds (ps:=["_law_found","_law_word","_law_shape"]) fun _ _ _ _ _ _ us hl=>by obtain⟨_,_,_,rfl⟩:=BC hl; rfl
 have b43:=Xq.F.binds (ps:=["_law_move","_law_drawing","_law_told"]) fun _ _ _ _ _ _ us hl=>by obtain⟨_,_,_,rfl⟩:=BC hl; rfl
 have b44:=Xp.F.binds (ps:=["fits"]) fun _ _ _ _ _ _ us hl=>by obtain⟨_,rfl⟩:=rR hl; rfl
 have b45:=Xo.F.binds (ps:=["self","drawing"]) fun _ _ _ _ _ _ us hl=>by obtain⟨_,_,rfl⟩:=pI hl; rfl
 have b46:=F46.F.binds (ps:=["self","drawing"]) fun _ _ _ _ _ _ us hl=>by obtain⟨_,_,rfl⟩:=pI hl; rfl
 have b47:=F47.F.binds (ps:=["self","drawing"]) fun _ _ _ _ _ _ us hl=>by obtain⟨_,_,rfl⟩:=pI hl; rfl
 have b48:=Xn.F.binds (ps:=["_law_move","_law_drawing","_law_back"]) fun _ _ _ _ _ _ us hl=>by obtain⟨_,_,_,rfl⟩:=BC hl; rfl
 have b49:=Xm.F.binds (ps:=["_law_move","_law_drawing","_law_told"]) fun _ _ _ _ _ _ us hl=>by obtain⟨_,_,_,rfl⟩:=BC hl; rfl
 have cX:=c5 X G UB;have gW:=c5 X G RA;have cO:=c5 X G Pu;have DQ:=c5 X G RB;have HZ:=c5 X G UC;have cx:=c5 X G Dh;have jX:=c5 X G Pt;have wU:=c5 X G Uy;have wW:=c5 X G Uz;have wV:=c5 X G Mw;have HY:=c5 X G Ux;have Ia:=c5 X G UD;have DP:=c5 X G UA;have uE:OS K eZ:=⟨MF,ME,MD,MC,MB,MA,Mz,Mx⟩;have kQ:subIn K eZ (.ref eZ)=true:=by unfold subIn; rw [Ac]; exact zV
 obtain⟨Fa,Fl⟩:=F50;obtain⟨oc,od,kV,doc,pm,an,mq,ct,JN,rfl,lk,Hn⟩:=Fl.ex;refine⟨jL "law" "law" (kb (top 65)) (gZ (top 65)) (aR (top 65)) .none kV doc pm an mq ct,fun s v=>.of_eq rfl,fun base _ _=>?_⟩;have WJ:=AL (P:=l.prog) (w:=w) (mg:=mg) (base:=base) F0.F cX;have Vj:=Gi (P:=l.prog) (w:=w) (mg:=mg) (base:=base) F1.F;have ok2:=Ea (P:=l.prog) (w:=w) (mg:=mg) (base:=base) F2.F;have TY:=Eb (P:=l.prog) (w:=w) (mg:=mg) (base:=base) F3.F;have ok4:=AK (P:=l.prog) (w:=w) (mg:=mg) (base:=base) F4.F cX gW cO ⟨Vj,F1.mg X G,F1.F.kp,b1⟩ ⟨ok2,F2.mg X G,F2.F.kp,b2⟩ ⟨TY,F3.mg X G,F3.F.kp,b3⟩;have ok5:=BG (P:=l.prog) (w:=w) (mg:=mg) (base:=base) F5.F;have ok6:=Ed (P:=l.prog) (w:=w) (mg:=mg) (base:=base) F6.F;have ok7:=Ee (P:=l.prog) (w:=w) (mg:=mg) (base:=base) F7.F cX gW ⟨TY,F3.mg X G,F3.F.kp,b3⟩;have ok8:=D7 (P:=l.prog) (w:=w) (mg:=mg) (base:=base) F8.F cO ⟨ok7,F7.mg X G,F7.F.kp,b7⟩;have ok9:=ug (P:=l.prog) (w:=w) (mg:=mg) (base:=base) F9.F;have YI:=uh (P:=l.prog) (w:=w) (mg:=mg) (base:=base) F10.F (xq.fld zS);have YH:=xh (P:=l.prog) (w:=w) (mg:=mg) (base:=base) F11.F (sW.fld DV) (sW.fld DU) (sW.fld BA) (sW.fld DW);have YG:=xg (P:=l.prog) (w:=w) (mg:=mg) (base:=base) F12.F (y9.fld DS) (y9.fld zT);have YF:=yz (P:=l.prog) (w:=w) (mg:=mg) (base:=base) F13.F (sr.fld FG) (sr.fld Bz) (sr.fld FF) (sr.fld DT) (sr.fld By) (sr.fld FH);have Se:=vF (P:=l.prog) (w:=w) (mg:=mg) (base:=base) Wv.F (cb.fld i7) (cb.fld gL) (cb.fld iD) (cb.fld i6);have YE:=Iz (P:=l.prog) (w:=w) (mg:=mg) (base:=base) XF.F ⟨YI,b10,F10.maker K8 Ll,xq.ns,gz X G xq.ns⟩ ⟨YH,b11,F11.maker Qc Qh,sW.ns,gz X G sW.ns⟩ ⟨YG,b12,F12.maker Qb Qg,y9.ns,gz X G y9.ns⟩ ⟨YF,b13,F13.maker Sj Sz,sr.ns,gz X G sr.ns⟩ ⟨Se,b14,Wv.maker zW Ay,cb.ns,gz X G cb.ns⟩;have Sd:=D6 (P:=l.prog) (w:=w) (mg:=mg) (base:=base) Rt.F DQ HZ cx;have Sb:=BE (P:=l.prog) (w:=w) (mg:=mg) (base:=base) Rq.F cx cX jX ⟨Sd,Rt.mg X G,Rt.F.kp,b16⟩;have YD:=D8 (P:=l.prog) (w:=w) (mg:=mg) (base:=base) XE.F cx cX cO wU jX ⟨Sb,Rq.mg X G,Rq.F.kp,b17⟩ ⟨Sd,Rt.mg X G,Rt.F.kp,b16⟩;have Vi:=BH (P:=l.prog) (w:=w) (mg:=mg) (base:=base) XD.F (cb.fld i6) (cb.fld iD) (cb.fld gL) (cb.fld i7);have Vh:=D9 (P:=l.prog) (w:=w) (mg:=mg) (base:=base) Uv.F;have Vg:=BF (P:=l.prog) (w:=w) (mg:=mg) (base:=base) Uu.F cO ⟨Vh,Uv.mg X G,Uv.F.kp,b20⟩;have Sa:=Ec (P:=l.prog) (w:=w) (mg:=mg) (base:=base) Rp.F;have Vf:=Gh (P:=l.prog) (w:=w) (mg:=mg) (base:=base) Ut.F cX cO;have Ve:=Ef (P:=l.prog) (w:=w) (mg:=mg) (base:=base) Us.F wW;have YC:=Gf (P:=l.prog) (w:=w) (mg:=mg) (base:=base) XC.F ⟨Sa,Rp.mg X G,Rp.F.kp,b22⟩ ⟨Vh,Uv.mg X G,Uv.F.kp,b20⟩ ⟨Ve,Us.mg X G,Us.F.kp,b24⟩;have Vd:=AI (P:=l.prog) (w:=w) (mg:=mg) (base:=base) Ur.F;have YB:=Ge (P:=l.prog) (w:=w) (mg:=mg) (base:=base) XB.F wV ⟨Vd,Ur.mg X G,Ur.F.kp,b26⟩;have Vc:=vE (P:=l.prog) (w:=w) (mg:=mg) (base:=base) Uq.F ⟨YB,XB.mg X G,XB.F.kp,b27⟩;have YA:=yx (P:=l.prog) (w:=w) (mg:=mg) (base:=base) XA.F;have Yz:=Iy (P:=l.prog) (w:=w) (mg:=mg) (base:=base) Xz.F HY;have Vb:=IB (P:=l.prog) (w:=w) (mg:=mg) (base:=base) Up.F ⟨Vd,Ur.mg X G,Ur.F.kp,b26⟩;have Yy:=IA (P:=l.prog) (w:=w) (mg:=mg) (base:=base) Xy.F;have Va:=AG (P:=l.prog) (w:=w) (mg:=mg) (base:=base) Uo.F ⟨Vb,Up.mg X G,Up.F.kp,b31⟩ ⟨Yy,Xy.mg X G,Xy.F.kp,b32⟩;have U9:=BD (P:=l.prog) (w:=w) (mg:=mg) (base:=base) Um.F Ia ⟨Yz,Xz.mg X G,Xz.F.kp,b30⟩ ⟨Va,Uo.mg X G,Uo.F.kp,b33⟩;have U8:=yy (P:=l.prog) (w:=w) (mg:=mg) (base:=base) Xx.F (cb.fld iD) (cb.fld gL) (cb.fld i7) (cb.fld i6) ⟨Vc,Uq.mg X G,Uq.F.kp,b28⟩ ⟨YA,XA.mg X G,XA.F.kp,b29⟩ ⟨U9,Um.mg X G,Um.F.kp,b34⟩;have Yx:=Lu (P:=l.prog) (w:=w) (mg:=mg) (base:=base) Xw.F wW;have Yw:=AH (P:=l.prog) (w:=w) (mg:=mg) (base:=base) Xv.F ⟨Yx,Xw.mg X G,Xw.F.kp,b36⟩;have Yv:=yw (P:=l.prog) (w:=w) (mg:=mg) (base:=base) Xu.F ⟨Vb,Up.mg X G,Up.F.kp,b31⟩ ⟨Yw,Xv.mg X G,Xv.F.kp,b37⟩;have Yu:=BI (P:=l.prog) (w:=w) (mg:=mg) (base:=base) F39.F (cb.fld i6) (cb.fld iD) (cb.fld gL) (cb.fld i7) ⟨U8,b35,Xx.me cb⟩ ⟨Yv,Xu.mg X G,Xu.F.kp,b38⟩ ⟨Va,Uo.mg X G,Uo.F.kp,b33⟩;have Yt:=Gg (P:=l.prog) (w:=w) (mg:=mg) (base:=base) Xs.F cx cX gW cO ⟨Sb,Rq.mg X G,Rq.F.kp,b17⟩;have Ys:=BJ (P:=l.prog) (w:=w) (mg:=mg) (base:=base) F41.F (cb.fld i6) (cb.fld iD) (cb.fld gL) (cb.fld i7) ⟨U8,b35,Xx.me cb⟩ ⟨Se,b14,Wv.maker zW Ay,cb.ns,gz X G cb.ns⟩;have Yr:=Gj (P:=l.prog) (w:=w) (mg:=mg) (base:=base) Xr.F cx cX cO wU jX ⟨Sb,Rq.mg X G,Rq.F.kp,b17⟩ ⟨Sd,Rt.mg X G,Rt.F.kp,b16⟩;have Yq:=qW (P:=l.prog) (w:=w) (mg:=mg) (base:=base) Xq.F gW cO ⟨Ve,Us.mg X G,Us.F.kp,b24⟩ ⟨YC,XC.mg X G,XC.F.kp,b25⟩ ⟨Yu,b39,F39.me cb⟩ ⟨Yt,Xs.mg X G,Xs.F.kp,b40⟩ ⟨Ys,b41,F41.me cb⟩ ⟨Vi,b19,XD.me cb⟩ ⟨Yr,Xr.mg X G,Xr.F.kp,b42⟩ ⟨Sa,Rp.mg X G,Rp.F.kp,b22⟩ ⟨Vg,Uu.mg X G,Uu.F.kp,b21⟩ ⟨Vf,Ut.mg X G,Ut.F.kp,b23⟩;have Yp:=xc (P:=l.prog) (w:=w) (mg:=mg) (base:=base) Xp.F lY (gz X G lY) kX uE;have U7:=xf (P:=l.prog) (w:=w) (mg:=mg) (base:=base) Xo.F (cb.fld iD) (cb.fld gL) (cb.fld i7) (cb.fld i6) ⟨Vc,Uq.mg X G,Uq.F.kp,b28⟩ ⟨Yp,Xp.mg X G,Xp.F.kp,b44⟩ ⟨U9,Um.mg X G,Um.F.kp,b34⟩;have Yo:=AN (P:=l.prog) (w:=w) (mg:=mg) (base:=base) F46.F ⟨U7,b45,Xo.me cb⟩;have Yn:=AM (P:=l.prog) (w:=w) (mg:=mg) (base:=base) F47.F ⟨U7,b45,Xo.me cb⟩;have Ym:=AJ (P:=l.prog) (w:=w) (mg:=mg) (base:=base) Xn.F lY (gz X G lY) kX uE kQ ⟨Yo,b46,F46.me cb⟩ ⟨Yn,b47,F47.me cb⟩;have Yl:=Eg (P:=l.prog) (w:=w) (mg:=mg) (base:=base) Xm.F gW ⟨Vg,Uu.mg X G,Uu.F.kp,b21⟩ ⟨Sa,Rp.mg X G,Rp.F.kp,b22⟩ ⟨Vf,Ut.mg X G,Ut.F.kp,b23⟩ ⟨Yq,Xq.mg X G,Xq.F.kp,b43⟩ ⟨Ym,Xn.mg X G,Xn.F.kp,b48⟩;exact Tf Fl cX DP cO ⟨WJ,F0.mg X G,F0.F.kp,b0⟩ ⟨ok4,F4.mg X G,F4.F.kp,b4⟩ ⟨ok5,F5.mg X G,F5.F.kp,b5⟩ ⟨ok6,F6.mg X G,F6.F.kp,b6⟩ ⟨ok8,F8.mg X G,F8.F.kp,b8⟩ ⟨ok9,F9.mg X G,F9.F.kp,b9⟩ ⟨YE,XF.mg X G,XF.F.kp,b15⟩ ⟨Se,b14,Wv.maker zW Ay,cb.ns,gz X G cb.ns⟩ ⟨YD,XE.mg X G,XE.F.kp,b18⟩ ⟨Vi,b19,XD.me cb⟩ ⟨Yl,Xm.mg X G,Xm.F.kp,b49⟩
end Fin
end Internal
open Internal
open PySem PySem.W PyProof.Rows
set_option maxRecDepth 100000 in
set_option maxHeartbeats 0 in
theorem PySem.Challenge.cw_knotwise_k23_slides_holds : PySem.Challenge.rw_knotwise_k23_slides.Holds := by
 w_on
 refine K2.Lq (q:=Fin.hQ) (K:=Fin.hK) (as:=Fin.hA) (N:=(12+(1+(1048+(1037+(1092+(1247+747))))))) Fin.S7 (by kernel_rfl) (by kernel_rfl) (fun _=>by kernel_rfl) (fun _=>by kernel_rfl) Fin.S8 (by rfl) (by rfl) (by rfl) (by rfl) Fin.S6 ⟨rfl,rfl,rfl,rfl,rfl,by decide +kernel⟩ ?hw ?hc
 (case hw=>w_witness2)
 k_fill
 refine K2.Nw (l:=cD) (k:=9) (x:="_law_script") rfl rfl ⟨rfl,by decide,by decide⟩ (fun w h Y=>Y) ?F
 case F =>
  intro w mg fa h KX G VF;exact Fin.all_mk KX G VF K2.A5 K2.A5 K2.A5 K2.A5 K2.A5 K2.fk K2.fk K2.fk K2.fk K2.fk K2.fk K2.fk K2.fk K2.fk K2.fk K2.mz K2.mz K2.mz K2.mz K2.mz K2.fk K2.fk K2.fk K2.fk K2.mz K2.fk K2.fk K2.fk K2.fk K2.fk K2.fk K2.fk K2.fk K2.fk K2.fk K2.fk K2.fk K2.fk K2.fk K2.fk K2.mz K2.fk K2.fk K2.fk K2.mz K2.fk K2.mz K2.fk K2.fk K2.fk K2.mz K2.mz K2.mz K2.fk K2.fk K2.fk
