import PyProof.Rows.All
import Wide.All
import OpenK.AllK
import Wide.FinOn
import Lean
import PyProof.EqAt
import PyProof.EqKinds
import PyProof.TupleCall
import PySem.Challenge.RW_knotwise_k50_whole_three_drawings
open Array renaming length_toList -> fk, forIn_toList -> ym, getElem?_eq_getElem -> Hx, getD -> JL, mk -> Lm, getElem?_eq_none -> M5
open Array.Perm renaming refl -> nv
open Bool renaming false_eq_true -> ar, and_eq_true -> aN, noConfusion -> bG, not_true -> bL, not_false -> di, false_ne_true -> jt, and_eq_true_iff -> kc, or_eq_true -> oW, false_and -> JJ, and_false -> JK, false_or -> M4, beq_eq_decide_eq -> Qr
open Classical renaming byContradiction -> gP
open False renaming elim -> bW
open ForInStep renaming yield -> sU
open Function renaming comp_def -> Qq
open Int renaming toNat_natCast -> df, emod_lt_of_pos -> hU, emod_nonneg -> jU, natCast_nonneg -> qE, zero_add -> D1, add_zero -> D3, mul_add -> Ht
open List renaming getElem?_cons_zero -> aa, getElem?_cons_succ -> ae, length_cons -> aj, map_cons -> ak, set_cons_zero -> ao, set_cons_succ -> aq, length_map -> au, getElem?_eq_getElem -> ay, cons_append -> aB, length_nil -> aC, length_append -> aJ, mem_cons_of_mem -> aO, nodup_cons -> aP, map_append -> aT, nil_append -> aW, mem_cons -> aY, replicate -> a8, size_toArray -> bb, map_nil -> bq, mem_of_getElem? -> br, map_map -> bw, getElem?_map -> bI, mem_map_of_mem -> bM, append_assoc -> bP, filter_cons -> bS, getElem?_append_right -> cm, mem_singleton -> cq, flatMap_cons -> cw, find?_cons_of_pos -> cG, find?_cons_of_neg -> cH, map_congr_left -> cI, length_drop -> cJ, length_set -> cK, append_nil -> cP, nodup_nil -> cR, flatten_cons -> cW, mem_cons_self -> c4, foldl_cons -> c5, getElem?_append_left -> c7, range -> c9, getElem?_set_self -> dc, mem_append_right -> dq, length_singleton -> du, length -> dH, length_filter_le -> eg, not_mem_nil -> ez, length_take -> eA, nodup_append -> eE, getElem?_set_ne -> eK, filter_append -> eL, find?_cons -> eN, length_replicate -> fI, getElem_mem -> fT, getD_eq_getElem?_getD -> gR, find?_eq_none -> hB, drop_eq_getElem_cons -> hZ, flatten_append -> iU, getElem_map -> i6, all_eq_true -> i7, take_append_drop -> jF, perm_append_comm -> jG, map_id -> jH, length_range -> jY, foldl_append -> jZ, mem_of_find?_eq_some -> kE, filter_sublist -> kH, length_zip -> ly, getElem_range -> lz, getElem?_replicate -> lA, filter_nil -> lB, any_cons -> lC, drop_eq_nil_of_le -> lT, all_map -> nu, mem_append_left -> oe, getElem?_of_mem -> og, mem_filter -> oV, zip_cons_cons -> qy, mem_or_eq_of_mem_set -> qD, getElem_zip -> tK, getElem?_eq_none -> vR, find?_some -> vS, getElem_of_mem -> xE, filterMap_cons -> xF, take_nil -> As, map_take -> Au, map_drop -> Av, drop_nil -> Aw, all_cons -> Ax, pairwise_map -> A9, set_nil -> Ca, lookup_cons -> D0, of_mem_zip -> GV, idxOf_lt_length_of_mem -> GW, perm_ext_iff_of_nodup -> Hs, length_erase_of_mem -> Ll, filter_cons_of_pos -> MY, filter_cons_of_neg -> MZ, eraseIdx_cons_zero -> M0, eraseIdx_cons_succ -> M3, take_of_length_le -> Nw, length_pos_of_mem -> Nx, getElem_cons_drop -> Ny, set_getElem_self -> Qp, mem_erase_of_ne -> QG
open List.Perm renaming swap -> ff, cons -> jT, trans -> nC, flatten -> o9
open List.Sublist renaming map -> lD, nodup -> nB
open Nat renaming le_refl -> aH, le_trans -> aZ, ne_of_lt -> bQ, lt_of_lt_of_le -> bY, zero_le -> cQ, lt_of_le_of_lt -> fR, lt_irrefl -> j8, pow_le_pow_right -> kh, mul_le_mul_right -> kj, add_assoc -> oA, add_sub_cancel_left -> tJ, succ_le_succ -> ur, le_add_right -> uu, lt_of_succ_lt_succ -> ux, le_of_succ_le_succ -> uy, not_lt_zero -> vZ, add_zero -> v3, mul_le_mul_left -> yk, zero_add -> DZ, pow_succ -> QD, le_of_lt -> QE, add_comm -> QF
open Ne renaming symm -> gm
open Option renaming getD_some -> sT, map_some -> uq, isSome_map -> Ap, getD_none -> A8
open Option.some renaming inj -> bc, injEq -> Lj
open PyProof.Rows renaming callWith_type1 -> fQ, IntsAre -> pb, slot_tuple_getitem -> vQ, callWith_builtin1 -> vY, seqObj -> yd, AllBare -> Cb, envOfC -> Ee
open PySem renaming wpAny_bind -> ah, Shared -> aA, wpAny_pure -> aE, FuncData -> aI, sizeLine -> bg, Program -> bN, mainGlobals -> cb, wpAny_loadPart' -> cx, sizeLine_eq -> c6, starEach -> c8, wpAny_call_entry -> dj, sysModules -> dn, wpAny_newObj_type -> dP, Around -> dS, bootBuiltins -> eX, wpAny_holding -> fe, DictEntry -> fE, compareOp -> gu, wpAny_dictEntries -> gO, ReadsAll -> g8, mem_of_lookup -> iR, tupleKind -> iW, wpAny_typeNameOfWhole_itemiter -> jh, wpAny_callSpecial?_slot -> jj, binaryOp -> jk, wpAny_typeNameOfWhole_keyiter -> jA, wpAny_passesOwn -> ke, Paired -> kF, wpAny_typeNameOf_itemiter -> kZ, wpAny_forIn_list -> lu, wpAny_typeNameOf_keyiter -> lI, wpAny_setField_rec -> mF, wpAny_dictEpoch -> mG, wpAny_Call_Name_kw -> mH, tupleKind_room_in1 -> mI, wpAny_isOneOf_itemiter -> nJ, wpAny_pyIter_slot -> nW, foldedSetIterable -> nY, valueAt -> nZ, IsItemIter -> oh, wpAny_fieldsOf -> oz, wpAny_isInstance -> o6, attributeBase -> qw, wpAny_field -> qF, sliceBounds -> qG, backTo -> qI, NameKind -> tm, wpAny_truthy_bool -> uv, wpAny_Call_method0_late -> vV, richCompare_meets_room -> xt, evalArgs_none -> xu, wpAny_specialOf -> x8, wpAny_notOrdered_dict -> x9, wpAny_execs_nil -> yc, letOwnedTupleGo -> ye, isSubtype_tuple_tuple -> yg, importedModules -> yh, call_meetsIn -> yi, assignEach -> An, firstArgMember -> A6, wpAny_tupleItemsOf -> D9, wpAny_standAt -> Ea, wpAny_attempt -> Eb, rawInt -> Ec, pyNext -> Ed, HeapKind -> Eg, wpAny_truthy_dict -> Hf, storedH -> Hg, relabel -> Hh, intKind -> Hi, codeAny -> Hj, callerA -> Hk, call_meets -> Hl, wpAny_callSpecialIfBound?_slot -> Jx, pyIter -> Jy, assign -> Jz, call -> JA, wpAny_letOwnedTupleGo_items -> Nl, valueAt -> Nm, swapsWith -> Np, holding -> Nr, eqIsQuiet -> Nt, Keyword -> Nz, BindsTo -> NB, wpAny_setField -> QB
open PySem.Around renaming under_plainId -> NC
open PySem.AutoSeq1 renaming sub_tuple_tuple -> qh, sub_list_list -> Hw
open PySem.Builtin.Dict renaming showsAll -> kT, takeOut -> Ej
open PySem.Builtin.Dict_items renaming ownsTuple -> fj, ownedTupleIsFree -> i8, ownedTupleFields -> qg, pairFromOwner -> qM
open PySem.Builtin.Int renaming intBits -> Hv
open PySem.Builtin.List renaming listTooLong -> jV
open PySem.Builtin.Slice renaming slicePlaces -> jr, sliceAdjust -> nE, sliceApplied -> xH
open PySem.Builtin.Tuple renaming tupleHashOf -> eD, tupleExact -> jK, tupleCompareSizes -> uz, tupleItemsOf -> xG
open PySem.Calls renaming callWith_builtin -> lK, spliced_cons -> qf, spliced_nil -> AB, Name_function_global -> GZ
open PySem.F renaming plainAttrs_dict -> cU, plainAttrs_list -> eh, slot_dict_get -> fB, type_list_append -> fG, slot_list_append -> fH, slot_dict_items -> fW, type_dict_get -> jm, slot_dict_itemiterator_next -> jo, slot_dict_itemiterator_iter -> jq, slot_dict_keyiterator_next -> jJ, slot_tuple_lt -> lS, args_dict_items_1 -> o8, entry_dict_items -> qx, type_dict_items -> qK, args_tuple_lt_2 -> qL, entry_tuple_lt -> sS, slot_dict_pop -> tH, slot_list_lt -> uw, args_dict_itemiterator_next_1 -> Eh, args_dict_itemiterator_iter_1 -> Ei, args_tuple_add_2 -> GU, entry_dict_itemiterator_next -> GX, args_dict_keyiterator_next_1 -> GY, slot_list_index -> Ho, entry_tuple_add -> Hq, args_dict_get_3 -> Hr, entry_dict_keyiterator_next -> Hu, slot_tuple_add -> JF, entry_dict_get -> JG, args_list_lt_2 -> JH, slot_dict_keyiterator_iter -> JI, type_dict_pop -> Lh, entry_list_lt -> Li
open PySem.Heap renaming get?_push_of_some -> aM, lt_size -> bh, get?_push_size -> bH, SameBut -> fJ, get?_update_self -> vT, size_update -> D4, get?_update_other -> NA, get?_none_of_le -> QH
open PySem.Heap.SameBut renaming update -> jI
open PySem.NameKind renaming free -> kG
open PySem.Obj renaming mapSeq -> ji
open PySem.Paired renaming length -> iM, snoc -> Qo
open PySem.PassesOwn renaming never -> bu
open PySem.PyData renaming depthAll -> cA, eqv -> qC
open PySem.SeqAt renaming items_eqAt -> nA, any_by_data -> qJ, readOf -> A7
open PySem.Str renaming ofString -> vX
open PySem.Value renaming ref -> fU, int -> fV, none -> gj, isInt -> sR
open PySem.W renaming Frag -> ai, nsIn -> dF, mg_none_of -> dG, kas_rev -> gT, kia_one -> jl, kas_place -> kg, fnOf -> kD, mg_of -> kL, kas_desc -> lx, keepIn -> lJ, findIn -> o7, kas_asc -> qH, kas_descPart -> yf, methodObj -> yj, OpenLaw -> B9, codeIn -> Ef, boot_drawn -> Hm, cellsFrom_some -> JC, kas_tail3 -> Nq, boot_toks -> Nu, boot_heap -> Nv, specialIn -> QC
open PySem.W.KasT renaming ret -> v5
open Sum renaming inl -> vW, inr -> Hn
open True renaming intro -> gk
set_option Elab.async false
set_option linter.all false
set_option maxRecDepth 100000
set_option maxHeartbeats 4000000
set_option genSizeOf false
set_option genInjectivity false
set_option compiler.extract_closed false
namespace Internal
theorem Ad(h:0=0:=by decide):0=0:=h
theorem Ae(h:0=0:=by first | rfl | decide):0=0:=h
theorem Af(h:0=0:=by first | k_is | rfl):0=0:=h
theorem Ai(h:0=0:=by intro _; rfl):0=0:=h
theorem Ak(h:0=0:=by decide +kernel):0=0:=h
theorem Al(h:0=0:=by intro _ _ _ _ h; repeat (first | (cases h.1; rfl) | (cases h <;> rename_i h))):0=0:=h
theorem Ao(h:0=0:=by first | exact .inl rfl | exact .inr rfl | exact .inr (.inl rfl) | exact .inr (.inr rfl) | assumption):0=0:=h
theorem Aq(h:0=0:=by k_is):0=0:=h
theorem Ar(h:0=0:=by rfl):0=0:=h
namespace L2
open PySem PySem.Spec PyProof.Rows
noncomputable abbrev Key:=Sum Int Str
noncomputable def BB:Key->Value->Bool
 | .inl k,v=>sR k v
 | .inr x,v=>Value.isStrOf x v
noncomputable def Zv(w:World):Key->Int
 | .inl k=>hashInt k
 | .inr x=>hashStr w x
theorem eV:∀ {k:Key} {v:Value},BB k v=true->(∃ i t,k=vW i/\v=fV i t)\/(∃ x t,k=Hn x/\v=Value.str x t)
 | .inl i,v,h=>by
  obtain⟨t,e⟩:=Value.isInt_shape (k:=i) (v:=v) h;exact .inl ⟨i,t,rfl,e⟩
 | .inr x,v,h=>by
  obtain⟨t,e⟩:=Value.isStrOf_shape (x:=x) (v:=v) h;exact .inr ⟨x,t,rfl,e⟩
theorem L9(i:Int)(t:Tok):BB (.inl i) (.int i t)=true:=by simp [BB,sR]
theorem L8(x:Str)(t:Tok):BB (.inr x) (.str x t)=true:=by simp [BB,Value.isStrOf]
theorem OW(a b:Int):decide ((vW a:Key)=vW b)=(a == b):=by
 by_cases e:a=b
 ·subst e; simp
 ·have h:¬ (vW a:Key)=vW b:=fun q=>e (Sum.inl.inj q);rw [decide_eq_false h];exact(beq_eq_false_iff_ne.mpr e).symm
theorem OV(a b:Str):decide ((Hn a:Key)=Hn b)=decide (a=b):=by
 by_cases e:a=b
 ·subst e; simp
 ·have h:¬ (Hn a:Key)=Hn b:=fun q=>e (Sum.inr.inj q);rw [decide_eq_false h,decide_eq_false e]
theorem Uv(a:Int)(b:Str):decide ((vW a:Key)=Hn b)=false:=decide_eq_false (fun q=>nomatch q)
theorem Uu(a:Str)(b:Int):decide ((Hn a:Key)=vW b)=false:=decide_eq_false (fun q=>nomatch q)
noncomputable def cY(prog:bN)(w:World):PySem.KeyKind prog w Key where
 is:=BB
 hash:=Zv w
 inj:=fun v a b ha hb=>by
  rcases eV ha with ⟨i,t,rfl,rfl⟩ | ⟨x,t,rfl,rfl⟩
  ·rcases eV hb with ⟨j,u,rfl,e⟩ | ⟨y,u,rfl,e⟩
   ·injection e with e1 _; rw [e1]
   ·exact nomatch e
  ·rcases eV hb with ⟨j,u,rfl,e⟩ | ⟨y,u,rfl,e⟩
   ·exact nomatch e
   ·injection e with e1 _; rw [e1]
 byValue:=fun k v h=>by
  rcases eV h with ⟨i,t,rfl,rfl⟩ | ⟨x,t,rfl,rfl⟩ <;> rfl
 pyHash:=fun hv h=>by
  rcases eV hv with ⟨i,t,rfl,rfl⟩ | ⟨x,t,rfl,rfl⟩
  ·exact wpAny_pyHash_int h
  ·exact wpAny_pyHash_str h
 eqBool:=fun hu hv h=>by
  rcases eV hu with ⟨i,t,rfl,rfl⟩ | ⟨x,t,rfl,rfl⟩
  ·rcases eV hv with ⟨j,u,rfl,rfl⟩ | ⟨y,u,rfl,rfl⟩
   ·rw [OW] at h; exact wpAny_eqBool_int h
   ·rw [Uv] at h; exact SeqAt.EqAt.int_str i t y u _ _ _ _ h
  ·rcases eV hv with ⟨j,u,rfl,rfl⟩ | ⟨y,u,rfl,rfl⟩
   ·rw [Uu] at h; exact SeqAt.EqAt.str_int x t j u _ _ _ _ h
   ·rw [OV] at h; exact wpAny_eqBool_str h
 «strs»:=fun k x t v h=>by
  rcases eV h with ⟨i,u,rfl,e⟩ | ⟨y,u,rfl,e⟩
  ·exact nomatch e
  ·injection e with e1 _
   subst e1;cases v <;> rfl
theorem Fh(prog:bN)(w:World)(i:Int)(t:Tok):(cY prog w).is (.inl i) (.int i t)=true:=L9 i t
theorem Fg(prog:bN)(w:World)(x:Str)(t:Tok):(cY prog w).is (.inr x) (.str x t)=true:=L8 x t
inductive V where
 | eU | bl (b:Bool) | int (i:Int) | str (x:Str) | U3 (b:Array UInt8) | W0 (b:UInt64) | ref (a:Addr) | ty (n:String)
noncomputable def RelV:V->Value->Prop
 | .eU,u=>u=gj
 | .bl b,u=>u=Value.bool b
 | .int i,u=>∃ t,u=fV i t
 | .str x,u=>∃ t,u=Value.str x t
 | .U3 b,u=>∃ t,u=Value.bytes b t
 | .W0 b,u=>∃ t,u=Value.float b t
 | .ref a,u=>u=fU a
 | .ty n,u=>u=Value.type n
noncomputable abbrev Vals:List V->List Value->Prop:=kF RelV
theorem Vals.length{xs:List V}{us:List Value}(r:Vals xs us):xs.length=us.length:=iM r
theorem Vals.get:∀ {xs:List V} {us:List Value} {i:Nat} {x:V},Vals xs us->xs[i]?=some x->∃ u,us[i]?=some u/\RelV x u:=by
 intro xs us i x h;induction h generalizing i with
 | nil=>intro e; cases e
 | cons r t ih =>
  intro e;cases i with
  | zero=>cases e; exact⟨_,rfl,r⟩
  | succ i=>exact ih e
theorem Vals.set{x:V}{u:Value}(r:RelV x u):∀ {xs:List V} {us:List Value} (i:Nat),Vals xs us->Vals (xs.set i x) (us.set i u):=by
 intro xs us i h;induction h generalizing i with
 | nil=>rw [Ca,Ca]; exact .nil
 | cons q t ih =>
  cases i with
  | zero=>exact .cons r t
  | succ i=>exact .cons q (ih i)
theorem Vals.append:∀ {xs ys:List V} {us ws:List Value},Vals xs us->Vals ys ws->Vals (xs++ys) (us++ws):=by
 intro xs ys us ws h s;induction h with
 | nil=>exact s
 | cons r t ih=>exact .cons r ih
theorem Vals.take:∀ {xs:List V} {us:List Value} (n:Nat),Vals xs us->Vals (xs.take n) (us.take n):=by
 intro xs us n h;induction h generalizing n with
 | nil=>rw [As,As]; exact .nil
 | cons r t ih =>
  cases n with
  | zero=>exact .nil
  | succ n=>exact .cons r (ih n)
theorem Vals.drop:∀ {xs:List V} {us:List Value} (n:Nat),Vals xs us->Vals (xs.drop n) (us.drop n):=by
 intro xs us n h;induction h generalizing n with
 | nil=>rw [Aw,Aw]; exact .nil
 | cons r t ih =>
  cases n with
  | zero=>exact .cons r t
  | succ n=>exact ih n
noncomputable def wQ:Option V->Option Value->Prop
 | some v,some u=>RelV v u
 | none,none=>True
 | _,_=>False
noncomputable def KV{κ:Type}:List (κ×V)->List (κ×Value)->Prop:=kF fun (p:κ×V) (q:κ×Value)=>p.1=q.1/\RelV p.2 q.2
noncomputable def kV:Key->V
 | .inl i=>.int i
 | .inr x=>.str x
inductive HO where
 | lst (xs:List V)
 | tup (xs:List V)
 | dK (kvs:List (Key×V)) | dT (kvs:List (List Key×V))
 | set (S:Int->Bool) (n:Nat)
 | ins (C dx:Addr) (fs:List (Str×V))
 | own (x:Addr)
 | xd (fs:List (Str×V))
 | met (f x:Addr)
 | VQ (lo hi:Int)
 | kd (o:Obj) (u:HO)
 | So (q:Str)
 | ext (φ:Heap->Prop)
noncomputable abbrev Hp:=Addr->Option HO
noncomputable def upd(H:Hp)(a:Addr)(o:HO):Hp:=fun b=>if b=a then some o else H b
theorem cf{H:Hp}{a:Addr}{o:HO}:upd H a o a=some o:=by unfold upd; rw [if_pos rfl]
theorem bX{H:Hp}{a b:Addr}{o:HO}(h:b≠a):upd H a o b=H b:=by unfold upd; rw [if_neg h]
theorem SG{H:Hp}{a b:Addr}{o u:HO}(h:H a=some o)(h':H b=some u)(d:o≠u):a≠b:=by
 intro e; subst e; rw [h] at h'; exact d (bc h')
theorem eC{H:Hp}{a b:Addr}{o:HO}(h:H a=some o)(h':H b=none):a≠b:=by
 intro e; subst e; rw [h] at h'; cases h'
section
variable (P:bN) (w:World)
noncomputable def gc(H:Hp)(h:Heap)(a:Addr):HO->Prop
 | .lst xs=>xs.length<=bg/\∃ (bZ:List Value) (n:Nat),Vals xs bZ/\h.get? a=some { cls:=.type "list",data:=.seq bZ.toArray n }
 | .tup xs=>xs.length<=bg/\∃ bZ:List Value,Vals xs bZ/\IsTup h a bZ.toArray
 | .dK kvs=>kvs.length<=bg/\(a == dn)=false/\∃ vs,KV kvs vs/\h.DictOf (cY P w) a vs
 | .dT kvs=>kvs.length<=bg/\(a == dn)=false/\∃ xs:List (List Key×Addr×Value),
   kF (fun (p:List Key×V) (q:List Key×Addr×Value)=>p.1=q.1/\H q.2.1=some (.tup (p.1.map kV))/\RelV p.2 q.2.2) kvs xs /\
   ∃ o es ep,h.get? a=some o/\o.ExactDict/\o.data=.dict es ep/\es.toList=xs.map (entryOfKey (iW (cY P w)))/\(xs.map (·.1)).Nodup
 | .set S n=>h.SetOf (Hi P w) a S n
 | .ins C dx fs=>H dx=some (.own a)/\fs.length<=1000/\dx≠a/\h.get? a=some (PySem.W.instObj C dx) /\
   ∃ mA,h.Ns1 dx mA/\(∀ f,wQ (fs.lookup f) (mA f))/\PySem.Within mA (fs.map (·.1))
 | .own _=>∃ o,h.get? a=some o
 | .xd fs=>∃ mA,h.Ns1 a mA/\∀ f,wQ (fs.lookup f) (mA f)
 | .VQ lo hi=>∃ t u v,h.get? a=some { cls:=.type "range",data:=.fields #[.int lo t,.int hi u,.int 1 v] }
 | .kd o u=>h.get? a=some o/\gc H h a u
 | .So q=>∃ ps,h.get? a=some { cls:=.none,data:=.fields ps }/\TriplesOk ps.toList/\∀ pos cv,codeAmong pos ps.toList=some cv->∃ c',cv=.ref c'/\H c'=some (.own a)/\h.CodeRec (.ref c') q
 | .met f x=>h.get? a=some (yj (.ref f) (.ref x))
 | .ext φ=>φ h/\(∃ o,h.get? a=some o)/\∀ h1 h2:Heap,φ h1->(∀ o,h1.get? a=some o->h2.get? a=some o)->φ h2
noncomputable def qv(H:Hp)(h:Heap):Prop:=∀ a o,H a=some o->gc P w H h a o
end
section
variable {P:bN} {w:World} {H H':Hp} {h h':Heap} {a:Addr} {o:HO}
theorem gc.lt(x:gc P w H h a o):a < h.objs.size:=by
 cases o with
 | lst xs=>obtain⟨_,_,_,_,e⟩:=x; exact bh e
 | tup xs=>obtain⟨_,_,_,p⟩:=x; exact p.lt
 | dK kvs=>obtain⟨_,_,_,_,o,_,_,e,_⟩:=x; exact bh e
 | dT kvs=>obtain⟨_,_,_,_,o,_,_,e,_⟩:=x; exact bh e
 | set S n=>obtain⟨o,_,_,_,e,_⟩:=x; exact bh e
 | ins C dx fs=>obtain⟨_,_,_,e,_⟩:=x; exact bh e
 | own y=>obtain⟨_,e⟩:=x; exact bh e
 | xd fs=>obtain⟨_,⟨_,_,_,e,_⟩,_⟩:=x; exact bh e
 | VQ lo hi=>obtain⟨_,_,_,e⟩:=x; exact bh e
 | kd ob u=>obtain⟨e,_⟩:=x; exact bh e
 | So q=>obtain⟨_,e,_⟩:=x; exact bh e
 | met f y=>exact bh (show h.get? a=some _ from x)
 | ext φ=>obtain⟨_,⟨_,e⟩,_⟩:=x; exact bh e
theorem Paired.Uq{α β:Type}{F G:α->β->Prop}:∀ {l₁:List α} {l₂:List β},kF F l₁ l₂->(∀ a b,F a b->G a b)->kF G l₁ l₂:=by
 intro l₁ l₂ h f;induction h with
 | nil=>exact .nil
 | cons r t ih=>exact .cons (f _ _ r) ih
theorem gc.mK(x:gc P w H h a o)(k:∀ b u,(b=a\/H b=some (.own a))->h.get? b=some u->h'.get? b=some u)
  (ho:∀ b,H b=some (.own a)->H' b=some (.own a)) (ht:∀ b xs,H b=some (.tup xs)->H' b=some (.tup xs)):gc P w H' h' a o:=by
 induction o with
 | lst xs=>obtain⟨z,bZ,n,r,e⟩:=x; exact⟨z,bZ,n,r,k _ _ (.inl rfl) e⟩
 | tup xs=>obtain⟨z,bZ,r,ob,e,c⟩:=x; exact⟨z,bZ,r,ob,k _ _ (.inl rfl) e,c⟩
 | dK kvs=>obtain⟨z,y,vs,r,ob,es,ep,e,c⟩:=x; exact⟨z,y,vs,r,ob,es,ep,k _ _ (.inl rfl) e,c⟩
 | dT kvs =>
  obtain⟨z,y,xs,r,ob,es,ep,e,c⟩:=x;exact⟨z,y,xs,Paired.Uq r fun p q z=>⟨z.1,ht _ _ z.2.1,z.2.2⟩,ob,es,ep,k _ _ (.inl rfl) e,c⟩
 | set S n=>obtain⟨ob,es,ep,t,e,c⟩:=x; exact⟨ob,es,ep,t,k _ _ (.inl rfl) e,c⟩
 | ins C dx fs =>
  obtain⟨d,z,ne,e,mA,⟨od,es,ep,e2,c⟩,r⟩:=x;exact⟨ho _ d,z,ne,k _ _ (.inl rfl) e,mA,⟨od,es,ep,k _ _ (.inr d) e2,c⟩,r⟩
 | own y=>obtain⟨ob,e⟩:=x; exact⟨ob,k _ _ (.inl rfl) e⟩
 | xd fs=>obtain⟨mA,⟨od,es,ep,e,c⟩,r⟩:=x; exact⟨mA,⟨od,es,ep,k _ _ (.inl rfl) e,c⟩,r⟩
 | VQ lo hi=>obtain⟨t,u,v,e⟩:=x; exact⟨t,u,v,k _ _ (.inl rfl) e⟩
 | kd ob u ih=>obtain⟨e,q⟩:=x; exact⟨k _ _ (.inl rfl) e,ih q⟩
 | So q =>
  obtain⟨ps,e,t,z⟩:=x;refine⟨ps,k _ _ (.inl rfl) e,t,fun pos cv y=>?_⟩;obtain⟨c',e1,e2,c2,oc,vs,tq,e3,e4,r⟩:=z pos cv y;cases e3;exact⟨c',e1,ho _ e2,c',oc,vs,tq,rfl,k _ _ (.inr e2) e4,r⟩
 | met f y =>
  have e:h.get? a=some (yj (.ref f) (.ref y)):=x;show h'.get? a=some (yj (.ref f) (.ref y));exact k a _ (.inl rfl) e
 | ext φ=>obtain⟨p,⟨o,e⟩,st⟩:=x; exact⟨st _ _ p fun o q=>k _ _ (.inl rfl) q,⟨o,k _ _ (.inl rfl) e⟩,st⟩
theorem qv.lt(x:qv P w H h)(e:H a=some o):a < h.objs.size:=(x a o e).lt
theorem qv.fresh(x:qv P w H h)(e:h.objs.size<=a):H a=none:=by
 cases q:H a with
 | none=>rfl
 | some u=>exact absurd (bY (x.lt q) e) (j8 _)
theorem qv.kept(x:qv P w H h)(k:∀ b u,h.get? b=some u->h'.get? b=some u):qv P w H h':=fun a o e =>
 (x a o e).mK (fun b u _ q=>k b u q) (fun _ q=>q) fun _ _ q=>q
theorem qv.laid(x:qv P w H h)(k:∀ b u,h.get? b=some u->h'.get? b=some u)(hp:h.objs.size<=a)(new:gc P w (upd H a o) h' a o):qv P w (upd H a o) h':=fun b u e=>by
 have hn:=x.fresh hp;by_cases hb:b=a
 ·subst hb; rw [cf] at e; cases e; exact new
 ·rw [bX hb] at e;exact(x b u e).mK (fun c v _ q=>k c v q) (fun c q=>by rw [bX (eC q hn)]; exact q) fun c xs q=>by rw [bX (eC q hn)]; exact q
end
noncomputable def Rd(H:Hp)(a:Addr)(u:HO):Prop:=H a=some u\/∃ o,H a=some (.kd o u)
theorem Rd.ok{P:bN}{w:World}{H:Hp}{h:Heap}{a:Addr}{u:HO}(r:Rd H a u)(x:qv P w H h):gc P w H h a u:=by
 rcases r with r | ⟨o,r⟩
 ·exact x a u r
 ·obtain⟨_,q⟩:=x a _ r;exact q
noncomputable def Xj:Option HO->Prop
 | some (.lst _)=>True
 | some (.dK _)=>True
 | some (.dT _)=>True
 | some (.set _ _)=>True
 | some (.ins _ _ _)=>True
 | some (.ext _)=>True
 | _=>False
section
variable {P:bN} {w:World} {H:Hp} {h h':Heap} {x e:Addr} {o':HO}
theorem qv.write(ok:qv P w H h)(mu:Xj (H x))(he:e=x\/H e=some (.own x))(k:∀ b u,b≠e->h.get? b=some u->h'.get? b=some u)(Vq:∃ u,h'.get? e=some u)
  (new:gc P w (upd H x o') h' x o'):qv P w (upd H x o') h':=fun b u q=>by
 have Wb:∀ c y,H c=some (.own y)->c≠x:=fun c y r z=>by subst z; rw [r] at mu; exact mu
 have Ze:∀ c xs,H c=some (.tup xs)->c≠x:=fun c xs r z=>by subst z; rw [r] at mu; exact mu
 by_cases hb:b=x
 ·subst hb; rw [cf] at q; cases q; exact new
 ·rw [bX hb] at q;by_cases UI:b=e
  ·have q':H b=some (.own x):=by
    rcases he with z | z
    ·exact absurd (UI.trans z) hb
    ·rw [UI]; exact z
   rw [q] at q'; cases q';obtain⟨v,hv⟩:=Vq;exact⟨v,by rw [UI]; exact hv⟩
  ·refine(ok b u q).mK (fun c v hc r=>k c v ?_ r) (fun c r=>by rw [bX (Wb c b r)]; exact r) fun c xs r=>by rw [bX (Ze c xs r)]; exact r
   rcases hc with rfl | hc
   ·exact UI
   ·rintro rfl;rcases he with z | z
    ·exact Wb c b hc z
    ·rw [hc] at z; cases z; exact hb rfl
end
structure Un(fs ex:List Addr)(H H':Hp)(h h':Heap):Prop where
 keep:∀ b o,h.get? b=some o->H b=none->b∉fs->b∉ex->h'.get? b=some o
 slot:∀ b o,h.get? b=some o->H b=none->b∈fs->b∉ex->∃ sl,h'.get? b=some { o with slots:=sl }
 free:∀ b o,h.get? b=some o->H b=none->b∉ex->H' b=none
 there:∀ b o,h.get? b=some o->b∉ex->∃ o',h'.get? b=some o'
 AE:∀ b xs,H b=some (.tup xs)->H' b=some (.tup xs)
 zD:∀ b o u,H b=some (.kd o u)->H' b=some (.kd o u)
 AH:∀ b q,H b=some (.So q)->H' b=some (.So q)
 AJ:∀ b x,H b=some (.own x)->H' b=some (.own x)
section
variable {fs fs' ex ex':List Addr} {H H1 H2:Hp} {h h1 h2 h':Heap} {a x e:Addr} {o:HO}
theorem Un.any(u:Un fs ex H H1 h h1){b:Addr}{ob:Obj}(q:h.get? b=some ob)(n:H b=none)(hx:b∉ex):∃ sl,h1.get? b=some { ob with slots:=sl }:=by
 by_cases hb:b∈fs
 ·exact u.slot b ob q n hb hx
 ·exact⟨ob.slots,u.keep b ob q n hb hx⟩
theorem Un.kept(k:∀ b u,h.get? b=some u->h'.get? b=some u):Un fs ex H H h h' :=
 ⟨fun b ob q _ _ _=>k b ob q,fun b ob q _ _ _=>⟨ob.slots,k b ob q⟩,fun _ _ _ n _=>n,fun b ob q _=>⟨ob,k b ob q⟩,fun _ _ q=>q,fun _ _ _ q=>q,fun _ _ q=>q,fun _ _ q=>q⟩
theorem Un.refl:Un fs ex H H h h:=Un.kept fun _ _ q=>q
theorem Un.laid(k:∀ b u,h.get? b=some u->h'.get? b=some u)(hp:h.objs.size<=a)(hn:H a=none):Un fs ex H (upd H a o) h h' where
 keep:=fun b u q _ _ _=>k b u q
 slot:=fun b u q _ _ _=>⟨u.slots,k b u q⟩
 free:=fun b u q n _=>by rw [bX (bQ (bY (bh q) hp))]; exact n
 there:=fun b u q _=>⟨u,k b u q⟩
 AE:=fun b xs q=>by rw [bX (eC q hn)]; exact q
 zD:=fun b u xs q=>by rw [bX (eC q hn)]; exact q
 AH:=fun b ps q=>by rw [bX (eC q hn)]; exact q
 AJ:=fun b ps q=>by rw [bX (eC q hn)]; exact q
theorem Un.write(mu:Xj (H x))(he:e=x\/H e=some (.own x))(k:∀ b u,b≠e->h.get? b=some u->h'.get? b=some u)(Vq:∃ u,h'.get? e=some u):Un fs ex H (upd H x o) h h':=by
 have hx:∀ b,H b=none->b≠x:=fun b n z=>by subst z; rw [n] at mu; exact mu
 have hb:∀ b,H b=none->b≠e:=fun b n z=>by
  subst z;rcases he with r | r
  ·exact hx b n r
  ·rw [n] at r; cases r
 have hm:∀ b u,H b=some u->¬ Xj (some u)->b≠x:=fun b u q nm z=>by subst z; rw [q] at mu; exact nm mu
 refine⟨fun b u q n _ _=>k b u (hb b n) q,fun b u q n _ _=>⟨u.slots,k b u (hb b n) q⟩,fun b u q n _=>by rw [bX (hx b n)]; exact n,fun b u q _=>?_,
  fun b xs q=>by rw [bX (hm b _ q fun z=>z)]; exact q,fun b u xs q=>by rw [bX (hm b _ q fun z=>z)]; exact q,fun b ps q=>by rw [bX (hm b _ q fun z=>z)]; exact q,fun b ps q=>by rw [bX (hm b _ q fun z=>z)]; exact q⟩
 by_cases UI:b=e
 ·subst UI; exact Vq
 ·exact⟨u,k b u UI q⟩
end
noncomputable def Xp(h:Heap)(H:Hp):List Addr:=(c9 h.objs.size).filter fun a=>(H a).isSome
noncomputable def C6(h:Heap)(H:Hp):Heap:=PySem.W.hideAll h (Xp h H)
theorem Mi(h:Heap)(H:Hp):(C6 h H).objs.size=h.objs.size:=PySem.W.hideAll_size _ _
theorem Pp{h:Heap}{H:Hp}{b:Addr}{o:Obj}(e:h.get? b=some o)(n:H b=none):(C6 h H).get? b=some o :=
 PySem.W.hideAll_get _ e fun hm=>by
  have q:(H b).isSome=true:=(List.mem_filter.mp hm).2;rw [n] at q; simp at q
theorem Ru{h:Heap}{H:Hp}{b:Addr}{o:Obj}(e:(C6 h H).get? b=some o):h.get? b=some o/\H b=none:=by
 have e':h.get? b=some o:=PySem.W.of_hideAll (Xp h H) e;refine⟨e',?_⟩;cases q:H b with
 | none=>rfl
 | some x =>
  have hm:b∈Xp h H:=List.mem_filter.mpr ⟨List.mem_range.mpr (bh e'),by simp [q]⟩;have z:(C6 h H).get? b=none:=PySem.W.hideAll_none (Xp h H) hm;rw [z] at e; cases e
noncomputable def sP(g h:Heap)(L:Addr):List (Addr×Obj):=(c9 h.objs.size).filterMap fun a=>if a=L\/(g.get? a).isSome=true then none else (h.get? a).map fun o=>(a,o)
theorem xf{g h:Heap}{L a:Addr}{o:Obj}(h1:a≠L)(h2:g.get? a=none)(h3:h.get? a=some o):(a,o)∈sP g h L :=
 List.mem_filterMap.mpr ⟨a,List.mem_range.mpr (bh h3),by simp [h1,h2,h3]⟩
theorem za{g h:Heap}{L:Addr}{p:Addr×Obj}(hp:p∈sP g h L):p.1≠L/\g.get? p.1=none/\h.get? p.1=some p.2:=by
 obtain⟨b,_,e⟩:=List.mem_filterMap.mp hp;split at e
 ·cases e
 ·rename_i hn;cases q:h.get? b with
  | none=>rw [q] at e; simp at e
  | some u =>
   rw [q] at e;simp only [uq,Lj] at e;subst e;refine⟨fun z=>hn (.inl z),?_,q⟩;show g.get? b=none;cases r:g.get? b with
   | none=>rfl
   | some v=>exact(hn (.inr (by simp [r]))).elim
noncomputable def rest(g h:Heap)(L d:Addr):List (Addr×Obj):=(sP g h L).filter fun p=>decide (p.1≠d)
theorem Fd{g h:Heap}{L:Addr}:News g L h (sP g h L):=fun p hp=>let ⟨a,b,c⟩:=za hp; ⟨c,a,b⟩
structure Mod(K:ai)(mg:Str->Option Value)(base:Heap):Prop where
 XH:K.In base
 glob:base.Ns cb mg
 blt:∃ mb,base.Ns builtinsNs mb/\∀ x:Str,x≠"__name__"->mb x=eX x
 nolimit:base.NoLimit
structure Cx where
 prog:bN
 w:World
 K:ai
 mg:Str->Option Value
 base:Heap
 A:dS
 N:List Str
 nF:aA
 Qk:Hp
 env:Env
 outer:List Env
 stack:List Env
 ex:List Addr
 fn:Str->Bool
 calm:Bool
 pn:List (Addr×Obj)
 xe:Value->aA->Prop
noncomputable def Nh(l:List Env):List Addr:=l.filterMap (·.frame)
noncomputable abbrev Cx.fs(X:Cx):List Addr:=Nh X.outer
noncomputable def X2(sc:Scope)(x:Str):Prop:=sc.names.lookup x=some .local\/sc.names.lookup x=some .cell\/sc.names.lookup x=some .free
noncomputable def Loc(sc:Scope)(x:Str):Prop:=sc.names.lookup x=some .local\/sc.names.lookup x=some .cell
noncomputable def Look(env:Env)(h:Heap)(m:Str->Option Value)(x:Str)(u:Value):Prop :=
 (env.kindOf x=some .local/\m x=some u)\/((env.kindOf x=some .cell\/env.kindOf x=some .free)/\∃ c,env.cells.lookup x=some c/\h.IsCell c (some u))
structure Cx.Ok(X:Cx):Prop where
 mod:Mod X.K X.mg X.base
 kind:X.env.scope.kind=.function
 glob:X.env.globals=cb
 blt:X.env.builtins=builtinsNs
 above:X.nF.heap.objs.size<=X.env.locals
 inj:∀ x y c,X.env.cells.lookup x=some c->X.env.cells.lookup y=some c->x=y
 has:∀ x,(X.env.kindOf x=some .cell\/X.env.kindOf x=some .free)->∃ c,X.env.cells.lookup x=some c
 W9:∀ x c,X.fn x=true->X.env.cells.lookup x=some c->X.nF.heap.objs.size<=c
 hd:X.calm=true->X.A.handled=none
 frames:X.A.frames=some X.stack
 Xr:X.stack=X.outer\/(X.stack=X.env :: X.outer/\X.env.frame=some X.env.locals)
 XX:∀ b∈X.ex,b≠X.env.locals/\∀ x c,X.env.cells.lookup x=some c->c≠b
 bs:∀ b o,X.base.get? b=some o->X.nF.heap.get? b=some o/\X.Qk b=none
 R7:X.base.objs.size<=X.nF.heap.objs.size
 LV:∀ b o,X.base.get? b=some o->b∉X.ex
 PL:∀ b∈X.ex,b∉X.fs
 zC:X.nF.heap.FunFrames X.base X.outer
 Vs:∀ b∈X.fs,X.Qk b=none
structure Inv(X:Cx)(pins:List (Addr×Obj))(σ:List (Option V))(H:Hp)(s:aA):Prop where
 ok:X.Ok
 os:s.os=X.nF.os
 bare:Cb s.gens
 base:Un X.fs X.ex X.Qk H X.nF.heap s.heap
 loc:∃ m,s.heap.Ns X.env.locals m/\∀ (i:Nat) (x:Str) (v:V),X.N[i]?=some x->σ[i]?=some (some v)->X2 X.env.scope x->∃ u,RelV v u/\Look X.env s.heap m x u
 cell:∀ x c,X.env.cells.lookup x=some c->∃ v,s.heap.IsCell c v
 free:H X.env.locals=none
 qp:∀ x c,X.env.cells.lookup x=some c->H c=none
 pin:∀ p∈X.pn++pins,s.heap.get? p.1=some p.2/\H p.1=none/\p.1≠X.env.locals/\p.1∉X.fs/\∀ v,p.2.data≠.cell v
 cL:qv X.prog X.w H s.heap
 len:σ.length=X.N.length
section
variable {X:Cx} {pins:List (Addr×Obj)} {σ:List (Option V)} {H H':Hp} {s:aA} {h':Heap}
theorem Cx.Ok.Zg(ok:X.Ok){b:Addr}{o:Obj}(e:X.base.get? b=some o):b∉X.fs:=fun hb=>by
 have:=(ok.zC.mem hb).1;rw [e] at this; cases this
theorem Inv.bs(I:Inv X pins σ H s):∀ b o,X.base.get? b=some o->s.heap.get? b=some o/\H b=none:=fun b o e =>
 ⟨I.base.keep b o (I.ok.bs b o e).1 (I.ok.bs b o e).2 (I.ok.Zg e) (I.ok.LV b o e),I.base.free b o (I.ok.bs b o e).1 (I.ok.bs b o e).2 (I.ok.LV b o e)⟩
theorem Inv.bk(I:Inv X pins σ H s):∀ b o,X.base.get? b=some o->s.heap.get? b=some o:=fun b o e=>(I.bs b o e).1
theorem Inv.mod(I:Inv X pins σ H s):Mod X.K X.mg X.base:=I.ok.mod
theorem Inv.Ko(I:Inv X pins σ H s):X.K.In s.heap:=I.ok.mod.XH.keeps I.bk
theorem Inv.fr(I:Inv X pins σ H s):∃ m,Fr X.base X.env.locals s.heap m :=
 let ⟨m,hn,_⟩:=I.loc
 ⟨m,hn,I.bk,aZ I.ok.R7 I.ok.above⟩
theorem Inv.lt(I:Inv X pins σ H s):X.env.locals < s.heap.objs.size:=let ⟨_,hn,_⟩:=I.loc; hn.lt
theorem Inv.sz(I:Inv X pins σ H s):X.nF.heap.objs.size<=s.heap.objs.size:=aZ I.ok.above (QE I.lt)
theorem Inv.Zf(I:Inv X pins σ H s){a:Addr}(h:s.heap.objs.size<=a):a∉X.fs:=fun hb=>by
 obtain⟨_,o,ho,_⟩:=I.ok.zC.mem hb;exact absurd (bY (bh ho) (aZ I.sz h)) (j8 _)
theorem Inv.UZ(I:Inv X pins σ H s):∀ x c,X.env.cells.lookup x=some c->c≠X.env.locals:=fun x c e z=>by
 obtain⟨v,o,ho,hd⟩:=I.cell x c e;obtain⟨m,⟨o',es,ep,D6,Ay,_⟩,_⟩:=I.loc;rw [z,D6] at ho; cases ho; rw [Ay] at hd; cases hd
theorem Inv.zC(I:Inv X pins σ H s):s.heap.FunFrames X.base X.outer:=by
 have all:∀ (l:List Env),(∀ b∈Nh l,b∈X.fs)->X.nF.heap.FunFrames X.base l->s.heap.FunFrames X.base l:=by
  intro l;induction l with
  | nil=>intro _ _; trivial
  | cons env r ih =>
   intro hs hl;obtain⟨hk,⟨L,o,hf,hn,ho,hd⟩,hr⟩:=hl;have hL:L∈X.fs:=hs L (by unfold Nh; rw [xF,hf]; exact c4);obtain⟨sl,e⟩:=I.base.slot L o ho (I.ok.Vs L hL) hL fun z=>I.ok.PL L z hL;exact⟨hk,⟨L,_,hf,hn,e,hd⟩,ih (fun b hb=>hs b (by unfold Nh; rw [xF,hf]; exact aO _ hb)) hr⟩
 exact all X.outer (fun _ hb=>hb) I.ok.zC
theorem Inv.stack(I:Inv X pins σ H s):s.heap.FunFrames X.base X.stack:=by
 rcases I.ok.Xr with e | ⟨e,hf⟩
 ·rw [e]; exact I.zC
 ·rw [e];obtain⟨m,hn,_⟩:=I.loc;refine .cons (by rw [I.ok.kind]; decide) hf hn ?_ I.zC;exact QH (aZ I.ok.R7 I.ok.above)
theorem Inv.HH(I:Inv X pins σ H s):∀ b∈Nh X.stack,b∈X.env.locals :: X.fs:=fun b hb=>by
 rcases I.ok.Xr with e | ⟨e,hf⟩
 ·rw [e] at hb; exact aO _ hb
 ·rw [e] at hb;unfold Nh at hb;rw [xF,hf] at hb;exact hb
theorem Inv.JT(I:Inv X pins σ H s):∀ b∈Nh X.stack,H b=none:=fun b hb=>by
 rcases List.mem_cons.mp (I.HH b hb) with e | hb
 ·rw [e]; exact I.free
 ·obtain⟨_,o,ho,_⟩:=I.ok.zC.mem hb;exact I.base.free b o ho (I.ok.Vs b hb) fun z=>I.ok.PL b z hb
theorem Inv.step{g':Array GenState}{t':Nat}{d':Drawn}{ch:List Addr}(I:Inv X pins σ H s)
  (S2:∀ b∈ch,(b∈X.ex\/X.nF.heap.objs.size<=b)/\b≠X.env.locals/\(∀ x c,X.env.cells.lookup x=some c->c≠b)/\∀ p∈X.pn++pins,p.1≠b)
  (keep:∀ b o,b≠X.env.locals->b∉X.fs->b∉ch->s.heap.get? b=some o->H b=none->h'.get? b=some o)
  (slot:∀ b o,b≠X.env.locals->b∈X.fs->b∉ch->s.heap.get? b=some o->H b=none->∃ sl,h'.get? b=some { o with slots:=sl }) (free:∀ b o,b∉ch->s.heap.get? b=some o->H b=none->H' b=none)
  (there:∀ b o,b∉ch->s.heap.get? b=some o->∃ o',h'.get? b=some o')
  (AE:∀ b xs,H b=some (.tup xs)->H' b=some (.tup xs)) (zD:∀ b o u,H b=some (.kd o u)->H' b=some (.kd o u)) (AH:∀ b q,H b=some (.So q)->H' b=some (.So q)) (AJ:∀ b x,H b=some (.own x)->H' b=some (.own x))
  (ns:∀ m,s.heap.Ns X.env.locals m->h'.Ns X.env.locals m) (cL:qv X.prog X.w H' h') (hg:Cb g') :
  Inv X pins σ H' { s with heap:=h',gens:=g',drawn:=d',toks:=t' }:=by
 have neL:∀ b o,X.nF.heap.get? b=some o->b≠X.env.locals:=fun b o e=>bQ (bY (bh e) I.ok.above);have XD:∀ b o,X.nF.heap.get? b=some o->b∉X.ex->b∉ch:=fun b o e hx hb=>by
  rcases (S2 b hb).1 with z | z
  ·exact hx z
  ·exact absurd (bY (bh e) z) (j8 _)
 have cellK:∀ x c,X.env.cells.lookup x=some c->∀ v,s.heap.IsCell c v->h'.IsCell c v:=fun x c e v ⟨o,ho,hd⟩=>by
  have Wf:c∉ch:=fun z=>(S2 c z).2.2.1 x c e rfl;by_cases hc:c∈X.fs
  ·obtain⟨sl,q⟩:=slot c o (I.UZ x c e) hc Wf ho (I.qp x c e);exact⟨_,q,hd⟩
  ·exact⟨o,keep c o (I.UZ x c e) hc Wf ho (I.qp x c e),hd⟩
 refine⟨I.ok,I.os,hg,⟨fun b o e n hb hx=>?_,fun b o e n hb hx=>?_,fun b o e n hx=>?_,fun b o e hx=>?_,fun b xs e=>AE b xs (I.base.AE b xs e),fun b o xs e=>zD b o xs (I.base.zD b o xs e),fun b ps e=>?_,fun b x e=>AJ b x (I.base.AJ b x e)⟩,?_,fun x c e=>?_,?_,fun x c e=>?_,fun p hp=>?_,cL,I.len⟩
 ·exact keep b o (neL b o e) hb (XD b o e hx) (I.base.keep b o e n hb hx) (I.base.free b o e n hx)
 ·obtain⟨sl,e1⟩:=I.base.slot b o e n hb hx;obtain⟨sl',e2⟩:=slot b _ (neL b o e) hb (XD b o e hx) e1 (I.base.free b o e n hx);exact⟨sl',e2⟩
 ·obtain⟨o',e1⟩:=I.base.there b o e hx;exact free b o' (XD b o e hx) e1 (I.base.free b o e n hx)
 ·obtain⟨o',e1⟩:=I.base.there b o e hx;exact there b o' (XD b o e hx) e1
 ·exact AH b _ (I.base.AH b ps e)
 ·obtain⟨m,hn,hl⟩:=I.loc;refine⟨m,ns m hn,fun i x v e1 e2 e3=>?_⟩;obtain⟨u,r,l⟩:=hl i x v e1 e2 e3;refine⟨u,r,?_⟩;rcases l with l | ⟨k,c,e,z⟩
  ·exact .inl l
  ·exact .inr ⟨k,c,e,cellK x c e _ z⟩
 ·obtain⟨v,z⟩:=I.cell x c e;exact⟨v,cellK x c e v z⟩
 ·obtain⟨m,⟨o,_,_,ho,_⟩,_⟩:=I.loc;exact free _ o (fun z=>(S2 _ z).2.1 rfl) ho I.free
 ·obtain⟨v,o,ho,hd⟩:=I.cell x c e;exact free c o (fun z=>(S2 c z).2.2.1 x c e rfl) ho (I.qp x c e)
 ·obtain⟨e,n,ne,nf,d⟩:=I.pin p hp;have Wf:p.1∉ch:=fun z=>(S2 p.1 z).2.2.2 p hp rfl;exact⟨keep p.1 p.2 ne nf Wf e n,free p.1 p.2 Wf e n,ne,nf,d⟩
theorem Inv.un{t':Nat}(I:Inv X pins σ H s)(u:Un X.fs [] H H' s.heap h')(cL:qv X.prog X.w H' h'):Inv X pins σ H' { s with heap:=h',toks:=t' }:=by
 obtain⟨m,⟨o,es,ep,ho,r⟩,_⟩:=id I.loc;obtain⟨sl,hL⟩:=u.any ho I.free (by simp);exact I.step (g':=s.gens) (d':=s.drawn) (ch:=[]) (fun _ z=>nomatch z) (fun b o _ hb _ e n=>u.keep b o e n hb (by simp)) (fun b o _ hb _ e n=>u.slot b o e n hb (by simp)) (fun b o _ e n=>u.free b o e n (by simp)) (fun b o _ e=>u.there b o e (by simp)) u.AE u.zD u.AH u.AJ (fun m' hm=>by
  obtain⟨o',es',W3,D6,r'⟩:=hm;rw [ho] at D6; cases D6;exact⟨_,es',W3,hL,r'⟩) cL I.bare
theorem Inv.call{g':Array GenState}{t':Nat}{d':Drawn}{ch:List Addr}(I:Inv X pins σ H s)(u:Un (Nh X.stack) ch H H' s.heap h')(cL:qv X.prog X.w H' h')(hg:Cb g')
  (S2:∀ b∈ch,(b∈X.ex\/X.nF.heap.objs.size<=b)/\b≠X.env.locals/\(∀ x c,X.env.cells.lookup x=some c->c≠b)/\∀ p∈X.pn++pins,p.1≠b) :
  Inv X pins σ H' { s with heap:=h',gens:=g',drawn:=d',toks:=t' }:=by
 obtain⟨m,⟨o,es,ep,ho,r⟩,_⟩:=id I.loc;obtain⟨sl,hL⟩:=u.any ho I.free fun z=>(S2 _ z).2.1 rfl;exact I.step (ch:=ch) S2 (fun b o hL hb hc e n=>u.keep b o e n (fun z=>(List.mem_cons.mp (I.HH b z)).elim hL hb) hc) (fun b o _ _ hc e n=>u.any e n hc) (fun b o hc e n=>u.free b o e n hc) (fun b o hc e=>u.there b o e hc) u.AE u.zD u.AH u.AJ (fun m' hm=>by
  obtain⟨o',es',W3,D6,r'⟩:=hm;rw [ho] at D6; cases D6;exact⟨_,es',W3,hL,r'⟩) cL hg
theorem Inv.turned{t':Nat}{it:Addr}(I:Inv X pins σ H s)(k:∀ b o,b≠it->s.heap.get? b=some o->h'.get? b=some o)(hn:H it=none)(hL:it≠X.env.locals)
  (h1:it∈X.ex\/X.nF.heap.objs.size<=it) (h2:∀ x c,X.env.cells.lookup x=some c->c≠it) (h3:∀ p∈X.pn++pins,p.1≠it):Inv X pins σ H { s with heap:=h',toks:=t' }:=by
 have nit:∀ b u,H b=some u->b≠it:=fun b u e z=>by rw [z,hn] at e; cases e
 refine I.step (g':=s.gens) (d':=s.drawn) (ch:=[it]) (fun b hb=>?_) (fun b o _ _ hc e _=>k b o (fun z=>hc (by simp [z])) e) (fun b o _ _ hc e _=>⟨o.slots,k b o (fun z=>hc (by simp [z])) e⟩) (fun _ _ _ _ n=>n)
  (fun b o hc e=>⟨o,k b o (fun z=>hc (by simp [z])) e⟩) (fun _ _ e=>e) (fun _ _ _ e=>e) (fun _ _ e=>e) (fun _ _ e=>e) (fun m hm=>?_) (fun b u e=>?_) I.bare
 ·have e:b=it:=by simpa using hb
  subst e;exact⟨h1,hL,h2,h3⟩
 ·obtain⟨o,es,ep,ho,r⟩:=hm;exact⟨o,es,ep,k _ o (gm hL) ho,r⟩
 ·refine(I.cL b u e).mK (fun c v hc q=>k c v ?_ q) (fun _ q=>q) fun _ _ q=>q;rcases hc with z | z
  ·rw [z]; exact nit b u e
  ·exact nit c _ z
theorem Inv.tok(I:Inv X pins σ H s)(t:Nat):Inv X pins σ H { s with toks:=t }:=I.un (h':=s.heap) (t':=t) Un.refl I.cL
theorem Inv.kept{t':Nat}(I:Inv X pins σ H s)(k:∀ b u,s.heap.get? b=some u->h'.get? b=some u):Inv X pins σ H { s with heap:=h',toks:=t' }:=I.un (Un.kept k) (I.cL.kept k)
theorem Inv.laid{a:Addr}{o:HO}{t':Nat}(I:Inv X pins σ H s)(k:∀ b u,s.heap.get? b=some u->h'.get? b=some u)(hp:s.heap.objs.size<=a)(new:gc X.prog X.w (upd H a o) h' a o) :
  Inv X pins σ (upd H a o) { s with heap:=h',toks:=t' }:=I.un (Un.laid k hp (I.cL.fresh hp)) (I.cL.laid k hp new)
theorem Inv.write{x e:Addr}{o:HO}{t':Nat}(I:Inv X pins σ H s)(mu:Xj (H x))(he:e=x\/H e=some (.own x))(k:∀ b u,b≠e->s.heap.get? b=some u->h'.get? b=some u)(Vq:∃ u,h'.get? e=some u)
  (new:gc X.prog X.w (upd H x o) h' x o):Inv X pins σ (upd H x o) { s with heap:=h',toks:=t' }:=I.un (Un.write mu he k Vq) (I.cL.write mu he k Vq new)
theorem Inv.Ka{Sz:List (Addr×Obj)}(I:Inv X pins σ H s)(h:∀ p∈Sz,s.heap.get? p.1=some p.2/\H p.1=none/\p.1≠X.env.locals/\p.1∉X.fs/\∀ v,p.2.data≠.cell v):Inv X Sz σ H s :=
 ⟨I.ok,I.os,I.bare,I.base,I.loc,I.cell,I.free,I.qp,fun p hp=>(List.mem_append.mp hp).elim (fun z=>I.pin p (oe _ z)) (h p),I.cL,I.len⟩
theorem Fb{N:List Str}(hN:N.Nodup){i j:Nat}{x:Str}(a:N[i]?=some x)(b:N[j]?=some x):i=j:=by
 obtain⟨h1,e1⟩:=List.getElem?_eq_some_iff.mp a;obtain⟨h2,e2⟩:=List.getElem?_eq_some_iff.mp b;exact(List.getElem_inj hN).mp (e1.trans e2.symm)
theorem Bb{M:Model}{A:dS}{E:Value->aA->Prop}{i:Nat}{x:Str}{v:V}{u:Value}{Q:Unit->aA->Prop}(I:Inv X pins σ H s)(hN:X.N.Nodup)(hi:X.N[i]?=some x)(hx:Loc X.env.scope x)(r:RelV v u)
  (h:∀ s',Inv X pins (σ.set i (some v)) H s'->(∃ a,fJ a s.heap s'.heap/\(a=X.env.locals\/X.env.cells.lookup x=some a))->Q () s') (hf:autoParam (X.fn x=true\/X.env.scope.names.lookup x=some .local) Ao._auto_1):wpAny M A (storeName X.env x u) Q E s:=by
 obtain⟨m,hn,hl⟩:=id I.loc;have aai:(X.env.scope.kind == .class||(X.env.scope.kind == .module&&X.env.locals != X.env.globals))=false:=by rw [I.ok.kind]; rfl
 have WK:i < σ.length:=by rw [I.len]; exact(List.getElem?_eq_some_iff.mp hi).1
 have UZ:=I.UZ;have tracked:∀ {a:Addr} {h':Heap},(∃ o,s.heap.get? a=some o/\H a=none)->fJ a s.heap h'->qv X.prog X.w H h':=fun {a h'} ha hs b ob e=>by
  obtain⟨_,_,qm⟩:=ha;refine(I.cL b ob e).mK (fun c w' hc q=>(hs.2 c ?_).trans q) (fun _ q=>q) fun _ _ q=>q;rintro rfl;rcases hc with rfl | hc
  ·rw [qm] at e; cases e
  ·rw [qm] at hc; cases hc
 rcases hx with hk | hk
 ·refine wpAny_storeName_local hk hn (fun h' Vp hs=>?_) aai;obtain⟨oL,_,_,hoL,_⟩:=id hn;refine h _ ⟨I.ok,I.os,I.bare,⟨fun b o e n hb hx=>?_,fun b o e n hb hx=>?_,I.base.free,fun b o e hx=>?_,I.base.AE,I.base.zD,I.base.AH,I.base.AJ⟩,⟨_,Vp,fun j y v' e1 e2 e3=>?_⟩,fun y c e=>?_,I.free,I.qp,fun p hp=>?_,tracked ⟨oL,hoL,I.free⟩ hs,by simpa using I.len⟩ ⟨_,hs,.inl rfl⟩
  ·exact(hs.2 b (bQ (bY (bh e) I.ok.above))).trans (I.base.keep b o e n hb hx)
  ·obtain⟨sl,e1⟩:=I.base.slot b o e n hb hx;exact⟨sl,(hs.2 b (bQ (bY (bh e) I.ok.above))).trans e1⟩
  ·obtain⟨o',e1⟩:=I.base.there b o e hx;exact⟨o',(hs.2 b (bQ (bY (bh e) I.ok.above))).trans e1⟩
  ·by_cases hj:j=i
   ·subst hj;rw [hi] at e1; cases e1;rw [dc WK] at e2;cases e2;exact⟨u,r,.inl ⟨hk,by simp⟩⟩
   ·rw [eK (gm hj)] at e2;obtain⟨u',r',q⟩:=hl j y v' e1 e2 e3;refine⟨u',r',?_⟩;rcases q with ⟨k,e⟩ | ⟨k,c,e,z⟩
    ·refine .inl ⟨k,?_⟩;have:y≠x:=fun e=>hj (Fb hN e1 (e ▸ hi));simp [this,e]
    ·exact .inr ⟨k,c,e,z.sameBut hs (UZ y c e)⟩
  ·obtain⟨w',z⟩:=I.cell y c e;exact⟨w',z.sameBut hs (UZ y c e)⟩
  ·obtain⟨e,n,ne,nf,d⟩:=I.pin p hp;exact⟨(hs.2 p.1 ne).trans e,n,ne,nf,d⟩
 ·have hfn:X.fn x=true:=by
   rcases hf with z | z
   ·exact z
   ·rw [z] at hk; cases hk
  obtain⟨c,hc⟩:=I.ok.has x (.inl hk);obtain⟨w',z⟩:=I.cell x c hc;refine wpAny_storeName_cell I.ok.kind hk hc z (fun h' S3 hs=>?_);obtain⟨oc,Vo,ZX⟩:=id z;refine h { s with heap:=h' } ⟨I.ok,I.os,I.bare,⟨fun b o e n hb hx=>?_,fun b o e n hb hx=>?_,I.base.free,fun b o e hx=>?_,I.base.AE,I.base.zD,I.base.AH,I.base.AJ⟩,⟨m,hn.sameBut hs (gm (UZ x c hc)),fun j y v' e1 e2 e3=>?_⟩,fun y c' e=>?_,I.free,I.qp,fun p hp=>?_,tracked ⟨oc,Vo,I.qp x c hc⟩ hs,by simpa using I.len⟩ ⟨c,hs,.inr hc⟩
  ·exact(hs.2 b (bQ (bY (bh e) (I.ok.W9 x c hfn hc)))).trans (I.base.keep b o e n hb hx)
  ·obtain⟨sl,e1⟩:=I.base.slot b o e n hb hx;exact⟨sl,(hs.2 b (bQ (bY (bh e) (I.ok.W9 x c hfn hc)))).trans e1⟩
  ·obtain⟨o',e1⟩:=I.base.there b o e hx;exact⟨o',(hs.2 b (bQ (bY (bh e) (I.ok.W9 x c hfn hc)))).trans e1⟩
  ·by_cases hj:j=i
   ·subst hj;rw [hi] at e1; cases e1;rw [dc WK] at e2;cases e2;exact⟨u,r,.inr ⟨.inl hk,c,hc,S3⟩⟩
   ·rw [eK (gm hj)] at e2;obtain⟨u',r',q⟩:=hl j y v' e1 e2 e3;refine⟨u',r',?_⟩;rcases q with q | ⟨k,c',e,z'⟩
    ·exact .inl q
    ·refine .inr ⟨k,c',e,z'.sameBut hs ?_⟩;rintro rfl;exact hj (Fb hN e1 (I.ok.inj _ _ _ e hc ▸ hi))
  ·by_cases hcc:c'=c
   ·subst hcc; exact⟨_,S3⟩
   ·obtain⟨w2,z2⟩:=I.cell y c' e;exact⟨w2,z2.sameBut hs hcc⟩
  ·obtain⟨e,n,ne,nf,d⟩:=I.pin p hp;refine⟨(hs.2 p.1 ?_).trans e,n,ne,nf,d⟩;intro q;rw [q,Vo] at e;have q':oc=p.2:=bc e;exact d w' (by rw [<-q']; exact ZX)
theorem Ez{M:Model}{A:dS}{E:Value->aA->Prop}{i:Nat}{x:Str}{v:V}{u:Value}{Q:Unit->aA->Prop}(I:Inv X pins σ H s)(hN:X.N.Nodup)(hi:X.N[i]?=some x)(hx:Loc X.env.scope x)(r:RelV v u)
  (h:∀ s',Inv X pins (σ.set i (some v)) H s'->Q () s') (hf:autoParam (X.fn x=true\/X.env.scope.names.lookup x=some .local) Ao._auto_1):wpAny M A (storeName X.env x u) Q E s :=
 Bb I hN hi hx r (fun s' I' _=>h s' I') hf
end
noncomputable abbrev XK:=Value->Option Addr->Hp->Prop
noncomputable abbrev St:=List (Option V)
noncomputable abbrev VK:=V->Hp->Prop
noncomputable abbrev TE:=St->Hp->VK->Prop
noncomputable abbrev TT:=St->Hp->(Bool->Hp->Prop)->Prop
noncomputable abbrev TA:=St->Hp->(List V->Hp->Prop)->Prop
structure Ends where
 nx:St->Hp->Prop
 rt:VK
 bk:St->Hp->Prop:=fun _ _=>False
 ct:St->Hp->Prop:=fun _ _=>False
noncomputable abbrev TS:=Ends->St->Hp->Prop
noncomputable def EP(X:Cx)(pins:List (Addr×Obj))(σ:St)(Q:VK)(u:Value)(s':aA):Prop:=∃ v H',Inv X pins σ H' s'/\RelV v u/\Q v H'
noncomputable def TP(X:Cx)(pins:List (Addr×Obj))(σ:St)(Q:Bool->Hp->Prop)(b:Bool)(s':aA):Prop:=∃ H',Inv X pins σ H' s'/\Q b H'
noncomputable def SP(X:Cx)(pins:List (Addr×Obj))(D:Ends)(f:Flow)(s':aA):Prop :=
 match f with
 | .next=>∃ j0 H',Inv X pins j0 H' s'/\D.nx j0 H'
 | .brk=>∃ j0 H',Inv X pins j0 H' s'/\D.bk j0 H'
 | .cont=>∃ j0 H',Inv X pins j0 H' s'/\D.ct j0 H'
 | .ret u=>∃ v j0 H',Inv X pins j0 H' s'/\RelV v u/\D.rt v H'
noncomputable def PE(X:Cx)(e:Expr)(t:TE):Prop :=
 ∀ (pins:List (Addr×Obj)) (s:aA) (σ:St) (H:Hp) (Q:VK),Inv X pins σ H s->t σ H Q->wpAny (model X.prog X.w) X.A (eval e X.env) (EP X pins σ Q) X.xe s
noncomputable def Vv(X:Cx)(st:List Stmt)(t:TS):Prop :=
 ∀ (pins:List (Addr×Obj)) (s:aA) (σ:St) (H:Hp) (D:Ends),Inv X pins σ H s->t D σ H->wpAny (model X.prog X.w) X.A (execs st X.env) (SP X pins D) X.xe s
theorem gU{α:Type}{t:Sem α}{Q Q':α->aA->Prop}{M:Model}{A:dS}{E:Value->aA->Prop}{s:aA}(h:wpAny M A t Q E s)(hQ:∀ a s,Q a s->Q' a s):wpAny M A t Q' E s:=wpAny_mono h hQ fun _ _ x=>x
section
variable {X:Cx}
noncomputable def Yx(i:Nat):TE:=fun σ H Q=>∃ v,σ[i]?=some (some v)/\Q v H
noncomputable def tC(v:V):TE:=fun _ H Q=>Q v H
theorem T8 {i:Nat} {x:Str} {pos:Pos} (hN:X.N[i]?=some x) (hv:X2 X.env.scope x) (hd:autoParam ((x == ("__debug__" : Str))=false) Ad._auto_1) (KA:autoParam ((x == ("__classdict__" : Str))=false) Ad._auto_1):PE X (.Name x pos) (Yx i):=by
 intro pins s σ H Q I h;obtain⟨v,e,h⟩:=h;obtain⟨m,hn,hl⟩:=I.loc;obtain⟨u,r,l⟩:=hl i x v hN e hv;have fin:EP X pins σ Q u s:=⟨v,H,I,r,h⟩;rcases l with ⟨hk,hm⟩ | ⟨hk,c,hc,qo⟩
 ·exact wpAny_Name (wpAny_loadName_local I.ok.kind hk hn hm fin) hd
 ·rcases hk with hk | hk
  ·exact wpAny_Name (wpAny_loadName_cell I.ok.kind hk hc qo fin) hd
  ·exact wpAny_Name (wpAny_loadName_free I.ok.kind hk hc qo fin KA) hd
theorem T9{i j pos}:PE X (.Constant (.int i) j pos) (tC (.int i)):=fun _ _ _ H _ I h=>wpAny_Constant_int ⟨.int i,H,I.tok _,⟨_,rfl⟩,h⟩
theorem V1{b j pos}:PE X (.Constant (.bool b) j pos) (tC (.bl b)):=fun _ _ _ H _ I h=>Constant_bool ⟨.bl b,H,I,rfl,h⟩
noncomputable def Gl(X:Cx)(x:Str):Prop:=X.env.kindOf x=some .globalImplicit
theorem CY{E:Value->aA->Prop}{pins:List (Addr×Obj)}{s:aA}{σ:St}{H:Hp}{x:Str}{u:Value}{pos:Pos}{Q:Value->aA->Prop}(I:Inv X pins σ H s)(hg:Gl X x)(hm:X.mg x=some u)(h:Q u s)
  (hd:autoParam ((x == ("__debug__" : Str))=false) Ad._auto_1):wpAny (model X.prog X.w) X.A (eval (.Name x pos) X.env) Q E s :=
 GZ I.ok.kind hg (Calls.loadGlobal_global (by rw [I.ok.glob]; exact I.mod.glob.keeps I.bk) hm h) hd
theorem rE{E:Value->aA->Prop}{pins:List (Addr×Obj)}{s:aA}{σ:St}{H:Hp}{x:Str}{u:Value}{pos:Pos}{Q:Value->aA->Prop}(I:Inv X pins σ H s)(hg:Gl X x)(hm:X.mg x=none)(hv:eX x=some u)(h:Q u s)
  (hn:autoParam (x≠"__name__") Ad._auto_1) (hd:autoParam ((x == ("__debug__" : Str))=false) Ad._auto_1):wpAny (model X.prog X.w) X.A (eval (.Name x pos) X.env) Q E s:=by
 obtain⟨mb,h1,h2⟩:=I.mod.blt;exact GZ I.ok.kind hg (Calls.loadGlobal_builtin (by rw [I.ok.glob]; exact I.mod.glob.keeps I.bk) hm (by rw [I.ok.blt]; exact h1.keeps I.bk) ((h2 x hn).trans hv) h) hd
theorem Rb {x:Str} {v:V} {u:Value} {pos:Pos} (hg:Gl X x) (hm:X.mg x=some u) (r:RelV v u) (hd:autoParam ((x == ("__debug__" : Str))=false) Ad._auto_1):PE X (.Name x pos) (tC v) :=
 fun _ _ _ H _ I h=>CY I hg hm ⟨v,H,I,r,h⟩ hd
variable {a b:Expr} {ta tb:TE} {pos:Pos}
noncomputable def tB(t:TE):TT:=fun σ H Q=>t σ H fun x H1=>∃ c,x=.bl c/\Q c H1
variable {tA tB':TT} {rest:List Expr}
end
noncomputable def oZ(K:ai)(H:Hp)(a:Addr)(xs:List V):Prop :=
 Rd H a (.lst xs) \/
  ∃ (o:Obj) (bZ:Array Value) (n:Nat),K.lookup a=some o/\o.cls=.type "list"/\o.dict=none/\o.data=.seq bZ n/\bZ.size<=bg/\Vals xs bZ.toList
noncomputable def xZ(K:ai)(H:Hp)(a:Addr)(xs:List V):Prop :=
 Rd H a (.tup xs) \/
  ∃ (o:Obj) (bZ:Array Value) (n:Nat),K.lookup a=some o/\o.cls=.type "tuple"/\o.data=.seq bZ n/\bZ.size<=bg/\Vals xs bZ.toList
noncomputable def aaH:Value->Option V
 | .none=>some .eU
 | .bool b=>some (.bl b)
 | .int i _=>some (.int i)
 | .str x _=>some (.str x)
 | .bytes b _=>some (.U3 b)
 | .float b _=>some (.W0 b)
 | .ref a=>some (.ref a)
 | .type n=>some (.ty n)
 | _=>none
theorem RelV.abs{x:V}{u:Value}(r:RelV x u):aaH u=some x:=by
 cases x with
 | eU=>cases r; rfl
 | bl _=>cases r; rfl
 | int _=>obtain⟨t,rfl⟩:=r; rfl
 | str _=>obtain⟨t,rfl⟩:=r; rfl
 | U3 _=>obtain⟨t,rfl⟩:=r; rfl
 | W0 _=>obtain⟨t,rfl⟩:=r; rfl
 | ref _=>cases r; rfl
 | ty _=>cases r; rfl
theorem RelV.inj{x y:V}{u:Value}(r:RelV x u)(q:RelV y u):x=y:=bc (r.abs.symm.trans q.abs)
theorem Vals.inj:∀ {xs ys:List V} {us:List Value},Vals xs us->Vals ys us->xs=ys:=by
 intro xs ys us h;induction h generalizing ys with
 | nil=>intro k; cases k; rfl
 | cons r t ih =>
  intro k;cases k with
  | cons r' t'=>rw [r.inj r',ih t']
section
variable {X:Cx} {pins:List (Addr×Obj)} {σ:St} {H:Hp} {s:aA} {a:Addr} {xs ys:List V}
theorem oZ.of{K:ai}(h:H a=some (.lst xs)):oZ K H a xs:=.inl (.inl h)
theorem xZ.of{K:ai}(h:H a=some (.tup xs)):xZ K H a xs:=.inl (.inl h)
theorem Inv.list(I:Inv X pins σ H s)(h:oZ X.K H a xs):∃ bZ:List Value,Vals xs bZ/\PlainL s.heap a bZ.toArray/\xs.length<=bg:=by
 rcases h with h | ⟨o,bZ,n,hk,hc,hd,hs,hz,r⟩
 ·obtain⟨z,bZ,n,r,e⟩:=h.ok I.cL;exact⟨bZ,r,⟨_,n,e,rfl,rfl,rfl⟩,z⟩
 ·refine⟨bZ.toList,r,⟨o,n,I.Ko a o hk,hc,hd,by simpa using hs⟩,?_⟩;have e:=r.length;simp only [fk] at e;lia
theorem Inv.tuple(I:Inv X pins σ H s)(h:xZ X.K H a xs):∃ bZ:List Value,Vals xs bZ/\IsTup s.heap a bZ.toArray/\xs.length<=bg:=by
 rcases h with h | ⟨o,bZ,n,hk,hc,hs,hz,r⟩
 ·obtain⟨z,bZ,r,p⟩:=h.ok I.cL;exact⟨bZ,r,p,z⟩
 ·refine⟨bZ.toList,r,⟨o,I.Ko a o hk,hc,n,by simpa using hs⟩,?_⟩;have e:=r.length;simp only [fk] at e;lia
theorem Inv.vd(I:Inv X pins σ H s)(h:oZ X.K H a xs)(h':oZ X.K H a ys):xs=ys:=by
 obtain⟨bZ,r,⟨o,n,e,_,_,d⟩,_⟩:=I.list h;obtain⟨its',r',⟨o',n',e',_,_,d'⟩,_⟩:=I.list h';rw [e] at e'; cases e';rw [d] at d';injection d' with d1 _
 have:bZ=its':=by simpa using congrArg Array.toList d1
 subst this;exact r.inj r'
theorem Inv.Ls(I:Inv X pins σ H s)(h:xZ X.K H a xs)(h':xZ X.K H a ys):xs=ys:=by
 obtain⟨bZ,r,⟨o,e,_,n,d⟩,_⟩:=I.tuple h;obtain⟨its',r',⟨o',e',_,n',d'⟩,_⟩:=I.tuple h';rw [e] at e'; cases e';rw [d] at d';injection d' with d1 _
 have:bZ=its':=by simpa using congrArg Array.toList d1
 subst this;exact r.inj r'
end
noncomputable abbrev Cx.AD(X:Cx)(E:Value->aA->Prop):Cx:={ X with xe:=E }
noncomputable abbrev Cx.Vj(X:Cx):Cx:=X.AD fun _ _=>False
theorem Cx.Ok.AD{X:Cx}(ok:X.Ok)(E:Value->aA->Prop):(X.AD E).Ok :=
 ⟨ok.mod,ok.kind,ok.glob,ok.blt,ok.above,ok.inj,ok.has,ok.W9,ok.hd,ok.frames,ok.Xr,ok.XX,ok.bs,ok.R7,ok.LV,ok.PL,ok.zC,ok.Vs⟩
theorem Cx.Ok.qP{X:Cx}{E:Value->aA->Prop}(ok:(X.AD E).Ok):X.Ok :=
 ⟨ok.mod,ok.kind,ok.glob,ok.blt,ok.above,ok.inj,ok.has,ok.W9,ok.hd,ok.frames,ok.Xr,ok.XX,ok.bs,ok.R7,ok.LV,ok.PL,ok.zC,ok.Vs⟩
section
variable {X:Cx} {pins:List (Addr×Obj)} {σ:St} {H:Hp} {s:aA} {E:Value->aA->Prop}
theorem Inv.AD(I:Inv X pins σ H s)(E:Value->aA->Prop):Inv (X.AD E) pins σ H s:=⟨I.ok.AD E,I.os,I.bare,I.base,I.loc,I.cell,I.free,I.qp,I.pin,I.cL,I.len⟩
theorem Inv.qP(I:Inv (X.AD E) pins σ H s):Inv X pins σ H s:=⟨I.ok.qP,I.os,I.bare,I.base,I.loc,I.cell,I.free,I.qp,I.pin,I.cL,I.len⟩
theorem SP.qP{D:Ends}{f:Flow}{s':aA}(h:SP (X.AD E) pins D f s'):SP X pins D f s':=by
 cases f with
 | next=>obtain⟨j0,H',I,q⟩:=h; exact⟨j0,H',I.qP,q⟩
 | brk=>obtain⟨j0,H',I,q⟩:=h; exact⟨j0,H',I.qP,q⟩
 | cont=>obtain⟨j0,H',I,q⟩:=h; exact⟨j0,H',I.qP,q⟩
 | ret u=>obtain⟨v,j0,H',I,r,q⟩:=h; exact⟨v,j0,H',I.qP,r,q⟩
theorem Vv.Vj{st:List Stmt}{t:TS}(h:Vv X.Vj st t):Vv X st t:=fun pins s σ H D I hw =>
 wpAny_mono (h pins s σ H D (I.AD _) hw) (fun _ _ q=>q.qP) fun _ _ z=>bW z
end
section
variable {X:Cx} {st:Stmt} {rest:List Stmt} {t u:TS} {e:Expr} {te:TE} {pos:Pos}
theorem Inv.quiet{pins:List (Addr×Obj)}{σ:St}{H:Hp}{s:aA}(I:Inv X pins σ H s):interactive X.env=false:=by simp [interactive,I.ok.kind]
end
noncomputable abbrev aaJ:=V->V->V->Hp->(Hp->Prop)->Prop
noncomputable def aaL(X:Cx)(t:aaJ):Prop :=
 ∀ (pins:List (Addr×Obj)) (s:aA) (σ:St) (H:Hp) (o i v:V) (ov iv u:Value) (Q:Hp->Prop),Inv X pins σ H s->RelV o ov->RelV i iv->RelV v u->t o i v H Q ->
  wpAny (model X.prog X.w) X.A (setItem ov iv u) (fun _ s'=>∃ H',Inv X pins σ H' s'/\Q H') X.xe s
structure It where
 go:Nat->Hp->Prop
 yld:Nat->Hp->V->Hp->Prop
 stop:Nat->Hp->Prop
noncomputable def nI(X:Cx)(pins:List (Addr×Obj))(H:Hp)(b:Addr):Prop :=
 H b=none/\b≠X.env.locals/\b∉X.fs/\(b∈X.ex\/X.nF.heap.objs.size<=b)/\(∀ x c,X.env.cells.lookup x=some c->c≠b)/\∀ p∈X.pn++pins,p.1≠b
theorem Inv.AO{X:Cx}{pins:List (Addr×Obj)}{σ:St}{H H':Hp}{s:aA}{b:Addr}(I:Inv X pins σ H s)(hb:s.heap.objs.size<=b)(hn:H' b=none):nI X pins H' b:=by
 refine⟨hn,Nat.ne_of_gt (bY I.lt hb),I.Zf hb,.inr (aZ I.sz hb),fun x c e z=>?_,fun p hp z=>?_⟩
 ·obtain⟨v,q⟩:=I.cell x c e;exact absurd (bY q.lt (by rw [z]; exact hb)) (j8 _)
 ·exact absurd (bY (bh (I.pin p hp).1) (by rw [z]; exact hb)) (j8 _)
structure Turn(P:bN)(w:World)(K:ai)(tg:Expr)(J:It)(fp:List Addr)(it:Addr)(tn:Nat->Heap->Prop):Prop where
 mem:it∈fp
 obj:∀ i h,tn i h->∀ b∈fp,∃ o,h.get? b=some o/\∀ v,o.data≠.cell v
 keep:∀ i h h',tn i h->(∀ b∈fp,∀ o,h.get? b=some o->h'.get? b=some o)->tn i h'
 item:∀ (X:Cx),X.prog=P->X.w=w->X.K=K->X.calm=true->∀ (i:Nat) (pins:List (Addr×Obj)) (s:aA) (σ:St) (H:Hp) (E:Value->aA->Prop),Inv X pins σ H s->(∀ b∈fp,nI X pins H b)->tn i s.heap->J.go i H ->
  wpAny (model P w) X.A (Ed (.ref it)) (fun r s1=>∃ u,r=some u /\
   wpAny (model P w) X.A (ye tg (.ref it) u) (fun _ s2=>∃ x H',Inv X pins σ H' s2/\RelV x u/\J.yld i H x H'/\tn (i+1) s2.heap/\∀ b∈fp,H' b=none) E s1) E s
 done:∀ (X:Cx),X.prog=P->X.w=w->X.K=K->X.calm=true->∀ (i:Nat) (pins:List (Addr×Obj)) (s:aA) (σ:St) (H:Hp) (E:Value->aA->Prop),Inv X pins σ H s->(∀ b∈fp,nI X pins H b)->tn i s.heap->J.stop i H ->
  wpAny (model P w) X.A (Ed (.ref it)) (fun r s1=>r=none/\Inv X pins σ H s1) E s
 self:∀ (A:dS) (i:Nat) (s:aA) (Q:Value->aA->Prop) (E:Value->aA->Prop),tn i s.heap->Q (.ref it) s->wpAny (model P w) A (Jy (.ref it)) Q E s
noncomputable abbrev TI:=St->Hp->(It->Hp->Prop)->Prop
noncomputable def PIE(X:Cx)(pins:List (Addr×Obj))(σ:St)(tg:Expr)(R:It->Hp->Prop)(SM:Value)(s2:aA):Prop :=
 ∃ (it:Addr) (fp:List Addr) (tn:Nat->Heap->Prop) (J:It) (H':Hp),SM=.ref it/\Inv X pins σ H' s2/\Turn X.prog X.w X.K tg J fp it tn/\tn 0 s2.heap/\(∀ b∈fp,nI X pins H' b)/\R J H'
theorem KG{M:Model}{A:dS}{E:Value->aA->Prop}{s:aA}{tg:Expr}{it:Addr}{u:Value}{o:Obj}{n:String}{vs:Array Value}{Q:Unit->aA->Prop}(ho:s.heap.get? it=some o)(hc:o.cls=.type n)(hd:o.data=.fields vs)
    (hn:["enumerate","zip","dict_itemiterator","dict_reverseitemiterator","odict_iterator","itertools.zip_longest","itertools.pairwise"].contains n=false) (hQ:Q () s):wpAny M A (ye tg (.ref it) u) Q E s:=by
  unfold ye;cases tg <;> first
    | exact aE hQ
    | (cases u <;> first
        | exact aE hQ
        | (refine ah (wpAny_load ho ?_)
           rw [hc,hd];show wpAny M A (if (["enumerate","zip","dict_itemiterator","dict_reverseitemiterator","odict_iterator","itertools.zip_longest","itertools.pairwise"].contains n&&vs[0]? == some (Ec _))=true then _ else _) Q E s;rw [if_neg (by intro h; rw [hn,JJ] at h; cases h)];exact aE hQ))
noncomputable def Itl(K:ai)(a:Addr):It :=
 ⟨fun i H=>∃ xs x,oZ K H a xs/\xs[i]?=some x,fun i H x H'=>H'=H/\∀ xs,oZ K H a xs->xs[i]?=some x,fun i H=>∃ xs,oZ K H a xs/\xs.length<=i⟩
noncomputable def Itt(K:ai)(a:Addr):It :=
 ⟨fun i H=>∃ xs x,xZ K H a xs/\xs[i]?=some x,fun i H x H'=>H'=H/\∀ xs,xZ K H a xs->xs[i]?=some x,fun i H=>∃ xs,xZ K H a xs/\xs.length<=i⟩
noncomputable def Itr(lo:Int)(n:Nat):It:=⟨fun i _=>i < n,fun i H x H'=>H'=H/\x=.int (lo+i),fun i _=>n<=i⟩
theorem Lp{P:bN}{w:World}{K:ai}{tg:Expr}(a it:Addr):Turn P w K tg (Itl K a) [it] it (fun i h=>h.IsListIter it a i) where
 mem:=by simp
 obj:=fun i h st b hb=>by
  have e:b=it:=by simpa using hb
  subst e;obtain⟨o,e,c,d⟩:=st;exact⟨o,e,fun v z=>by rw [d] at z; cases z⟩
 keep:=fun i h h' st k=>st.at fun o e=>k it (by simp) o e
 item:=by
  intro X hP hw hK hc i pins s σ H E I hf st hg;subst hP hw hK;obtain⟨xs,x,hq,hx⟩:=hg;obtain⟨bZ,rv,p,hz⟩:=I.list hq;obtain⟨u,hu,ru⟩:=rv.get hx;obtain⟨f0,f1,f2,f3,f4,f5⟩:=hf it (by simp);refine wpAny_pyNext_list_item st p.isList (x:=u) (by simpa using hu) fun h' Ha sb=>?_;have I1:Inv X pins σ H { s with heap:=h' }:=I.turned (t':=s.toks) (fun b o hb e=>(sb.2 b hb).trans e) f0 f1 f3 f4 f5;obtain⟨o,e,c,d⟩:=id Ha;exact⟨u,rfl,KG (s:={ s with heap:=h' }) e c d (by decide) ⟨x,H,I1,ru,⟨rfl,fun ys hy=>by rw [I.vd hy hq]; exact hx⟩,Ha,fun b hb=>(hf b hb).1⟩⟩
 done:=by
  intro X hP hw hK hc i pins s σ H E I hf st hg;subst hP hw hK;obtain⟨xs,hq,hx⟩:=hg;obtain⟨bZ,rv,p,hz⟩:=I.list hq;obtain⟨f0,f1,f2,f3,f4,f5⟩:=hf it (by simp);have hl:=rv.length;exact wpAny_pyNext_list_end (I.ok.hd hc) st p.isList (by simp; lia) fun h' eb=>⟨rfl,I.turned (t':=s.toks) (fun b o hb e=>eb b o hb e) f0 f1 f3 f4 f5⟩
 self:=fun _ _ _ _ _ st h=>wpAny_pyIter_listiter st h
theorem HA{P:bN}{w:World}{K:ai}{tg:Expr}(a it:Addr):Turn P w K tg (Itt K a) [it] it (fun i h=>h.IsTupleIter it a i) where
 mem:=by simp
 obj:=fun i h st b hb=>by
  have e:b=it:=by simpa using hb
  subst e;obtain⟨o,e,c,d⟩:=st;exact⟨o,e,fun v z=>by rw [d] at z; cases z⟩
 keep:=fun i h h' st k=>st.at fun o e=>k it (by simp) o e
 item:=by
  intro X hP hw hK hc i pins s σ H E I hf st hg;subst hP hw hK;obtain⟨xs,x,hq,hx⟩:=hg;obtain⟨bZ,rv,p,hz⟩:=I.tuple hq;obtain⟨u,hu,ru⟩:=rv.get hx;obtain⟨f0,f1,f2,f3,f4,f5⟩:=hf it (by simp);refine wpAny_pyNext_tuple_item st (show s.heap.IsTuple a bZ.toArray from p) (x:=u) (by simpa using hu) fun h' Ha sb=>?_;have I1:Inv X pins σ H { s with heap:=h' }:=I.turned (t':=s.toks) (fun b o hb e=>(sb.2 b hb).trans e) f0 f1 f3 f4 f5;obtain⟨o,e,c,d⟩:=id Ha;exact⟨u,rfl,KG (s:={ s with heap:=h' }) e c d (by decide) ⟨x,H,I1,ru,⟨rfl,fun ys hy=>by rw [I.Ls hy hq]; exact hx⟩,Ha,fun b hb=>(hf b hb).1⟩⟩
 done:=by
  intro X hP hw hK hc i pins s σ H E I hf st hg;subst hP hw hK;obtain⟨xs,hq,hx⟩:=hg;obtain⟨bZ,rv,p,hz⟩:=I.tuple hq;obtain⟨f0,f1,f2,f3,f4,f5⟩:=hf it (by simp);have hl:=rv.length;exact wpAny_pyNext_tuple_end (I.ok.hd hc) st (show s.heap.IsTuple a bZ.toArray from p) (by simp; lia) fun h' eb=>⟨rfl,I.turned (t':=s.toks) (fun b o hb e=>eb b o hb e) f0 f1 f3 f4 f5⟩
 self:=fun _ _ _ _ _ st h=>wpAny_pyIter_tupleiter st h
theorem HB{P:bN}{w:World}{K:ai}{tg:Expr}(it:Addr)(lo:Int)(n:Nat):Turn P w K tg (Itr lo n) [it] it (fun i h=>IsRangeIter h it (lo+(i:Nat) * 1) ((n:Int) - (i:Nat)) 1) where
 mem:=by simp
 obj:=fun i h st b hb=>by
  have e:b=it:=by simpa using hb
  subst e;exact⟨_,st,fun v z=>by
   have z':Data.fields _=Data.cell v:=z;cases z'⟩
 keep:=fun i h h' st k=>k it (by simp) _ st
 item:=by
  intro X hP hw hK hc i pins s σ H E I hf st hg;subst hP hw hK;obtain⟨f0,f1,f2,f3,f4,f5⟩:=hf it (by simp);have W:=Walks.range (prog:=X.prog) (w:=X.w) (I.ok.hd hc) it lo 1 n;refine W.item i s _ _ hg st fun v h' tk hv Ha kk=>?_;obtain⟨t,rfl⟩:=hv;have I1:Inv X pins σ H { s with heap:=h',toks:=tk }:=I.turned (fun b o hb e=>kk b o (by simpa using hb) e) f0 f1 f3 f4 f5;refine⟨_,rfl,KG (s:={ s with heap:=h',toks:=tk }) (n:="range_iterator") Ha rfl rfl (by decide) ⟨.int (lo+i),H,I1,⟨t,?_⟩,⟨rfl,rfl⟩,Ha,fun b hb=>(hf b hb).1⟩⟩;rw [Int.mul_one]
 done:=by
  intro X hP hw hK hc i pins s σ H E I hf st hg;subst hP hw hK;obtain⟨f0,f1,f2,f3,f4,f5⟩:=hf it (by simp);exact wpAny_pyNext_range_end (I.ok.hd hc) st (by have:n<=i:=hg; lia) fun h' eb=>⟨rfl,I.turned (t':=s.toks) (fun b o hb e=>eb b o hb e) f0 f1 f3 f4 f5⟩
 self:=fun _ _ _ _ _ st h=>wpAny_pyIter_rangeiter st h
section
variable {X:Cx} {tg:Expr}
theorem Ob{pins:List (Addr×Obj)}{σ:St}{H:Hp}{s:aA}{R:It->Hp->Prop}{E:Value->aA->Prop}{lo hi:Int}{t u v:Tok}{tk:Nat}(I:Inv X pins σ H s)(h1:-(2 ^ 62)<=lo)(h2:lo < 2 ^ 62)(h3:-(2 ^ 62)<=hi)(h4:hi < 2 ^ 62)
  (q:R (Itr lo (hi - lo).toNat) H):wpAny (model X.prog X.w) X.A (Jy (.ref s.heap.objs.size)) (PIE X pins σ tg R) E { s with heap:=s.heap.push { cls:=.type "range",data:=.fields #[.int lo t,.int hi u,.int 1 v] },toks:=tk }:=by
 refine wpAny_pyIter_range (IsRange.new ..) (small_one h1 h2 h3 h4) ?_;have I1:Inv X pins σ H { s with heap:=s.heap.push { cls:=.type "range",data:=.fields #[.int lo t,.int hi u,.int 1 v] },toks:=tk }:=I.kept fun b o e=>aM _ e
 refine⟨(s.heap.push { cls:=.type "range",data:=.fields #[.int lo t,.int hi u,.int 1 v] }).objs.size,[(s.heap.push { cls:=.type "range",data:=.fields #[.int lo t,.int hi u,.int 1 v] }).objs.size],_,_,H,rfl,
  I1.kept (t':=tk) fun b o e=>aM _ e,HB _ lo (hi - lo).toNat,?_,fun b hb=>?_,q⟩
 ·have e1:lo+((0:Nat):Int) * 1=lo:=by simp
  have e2:(((hi - lo).toNat:Nat):Int) - ((0:Nat):Int)=Builtin.Range.rangeSize lo hi 1:=by rw [rangeSize_one]; split <;> lia
  show IsRangeIter _ _ (lo+((0:Nat):Int) * 1) ((((hi - lo).toNat:Nat):Int) - ((0:Nat):Int)) 1;rw [e1,e2];exact bH _ rfl
 ·have e:b=(s.heap.push { cls:=.type "range",data:=.fields #[.int lo t,.int hi u,.int 1 v] }).objs.size:=by simpa using hb
  subst e;exact I1.AO (aH _) (I1.cL.fresh (aH _))
noncomputable def rn(fp:List Addr)(h:Heap):List (Addr×Obj):=fp.filterMap fun b=>(h.get? b).map fun o=>(b,o)
theorem pK{fp:List Addr}{h:Heap}{b:Addr}{o:Obj}(hb:b∈fp)(e:h.get? b=some o):(b,o)∈rn fp h:=List.mem_filterMap.mpr ⟨b,hb,by rw [e]; rfl⟩
theorem LU{fp:List Addr}{h:Heap}{p:Addr×Obj}(hp:p∈rn fp h):p.1∈fp/\h.get? p.1=some p.2:=by
 obtain⟨b,hb,e⟩:=List.mem_filterMap.mp hp;cases q:h.get? b with
 | none=>rw [q] at e; cases e
 | some o =>
  rw [q] at e;have e':(b,o)=p:=bc e;subst e';exact⟨hb,q⟩
theorem Inv.pinned{pins:List (Addr×Obj)}{σ:St}{H:Hp}{s:aA}{fp:List Addr}(I:Inv X pins σ H s)(hf:∀ b∈fp,nI X pins H b)(ho:∀ b∈fp,∃ o,s.heap.get? b=some o/\∀ v,o.data≠.cell v):Inv X (pins++rn fp s.heap) σ H s :=
 I.Ka fun p hp=>(List.mem_append.mp hp).elim (fun z=>I.pin p (dq _ z)) fun z=>by
  obtain⟨hb,e⟩:=LU z;obtain⟨f0,f1,f2,_⟩:=hf p.1 hb;obtain⟨o,e',d⟩:=ho p.1 hb;rw [e] at e'; cases e';exact⟨e,f0,f1,f2,d⟩
theorem Inv.uA{pins pl:List (Addr×Obj)}{σ:St}{H:Hp}{s:aA}(I:Inv X (pins++pl) σ H s):Inv X pins σ H s:=I.Ka fun p hp=>I.pin p (dq _ (oe _ hp))
end
noncomputable abbrev R2:=V->V->Hp->VK->Prop
noncomputable def MR(X:Cx)(f:Value->Value->Sem Value)(r:R2):Prop :=
 ∀ (pins:List (Addr×Obj)) (s:aA) (σ:St) (H:Hp) (x y:V) (v u:Value) (Q:VK),Inv X pins σ H s->RelV x v->RelV y u->r x y H Q ->
  wpAny (model X.prog X.w) X.A (f v u) (EP X pins σ Q) X.xe s
noncomputable def UnR(X:Cx)(f:Value->Sem Value)(r:V->Hp->VK->Prop):Prop :=
 ∀ (pins:List (Addr×Obj)) (s:aA) (σ:St) (H:Hp) (x:V) (v:Value) (Q:VK),Inv X pins σ H s->RelV x v->r x H Q ->
  wpAny (model X.prog X.w) X.A (f v) (EP X pins σ Q) X.xe s
noncomputable def Ql(X:Cx)(f:Value)(r:List V->Hp->VK->Prop):Prop :=
 ∀ (pins:List (Addr×Obj)) (s:aA) (σ:St) (H:Hp) (xs:List V) (us:List Value) (Q:VK),Inv X pins σ H s->Vals xs us->r xs H Q ->
  wpAny (model X.prog X.w) X.A (call f us) (EP X pins σ Q) X.xe s
noncomputable def aaI(X:Cx)(r:V->Hp->(Bool->Hp->Prop)->Prop):Prop :=
 ∀ (pins:List (Addr×Obj)) (s:aA) (σ:St) (H:Hp) (x:V) (v:Value) (Q:Bool->Hp->Prop),Inv X pins σ H s->RelV x v->r x H Q ->
  wpAny (model X.prog X.w) X.A (truthy v) (TP X pins σ Q) X.xe s
noncomputable def rI(C:Int->Int->Prop)(g:Int->Int->V):R2:=fun x y H Q=>∃ i j,x=.int i/\y=.int j/\C i j/\Q (g i j) H
noncomputable def VU(g:Int->Int->V):R2:=fun x y H Q=>∃ i j,x=.int i/\y=.int j/\Q (g i j) H
noncomputable def rU(g:Int->V):V->Hp->VK->Prop:=fun x H Q=>∃ i,x=.int i/\Q (g i) H
section
variable {X:Cx} {a b c:Expr} {ta tb tc:TE} {pos:Pos}
theorem Xx{f:Value->Value->Sem Value}{C:Int->Int->Prop}{g:Int->Int->Int}
  (rule:∀ (i j:Int) (t u:Tok) (s:aA) (Q:Value->aA->Prop) (E:Value->aA->Prop),C i j->Q (.int (g i j) s.toks) { s with toks:=s.toks+1 }->wpAny (model X.prog X.w) X.A (f (.int i t) (.int j u)) Q E s) :
  MR X f (rI C fun i j=>.int (g i j)):=by
 intro pins s σ H x y v u Q I rx ry h;obtain⟨i,j,rfl,rfl,hc,q⟩:=h;obtain⟨t,rfl⟩:=rx;obtain⟨t',rfl⟩:=ry;exact rule i j t t' s _ _ hc ⟨.int (g i j),H,I.tok _,⟨_,rfl⟩,q⟩
theorem V4{f:Value->Value->Sem Value}{g:Int->Int->Int}
  (rule:∀ (i j:Int) (t u:Tok) (s:aA) (Q:Value->aA->Prop) (E:Value->aA->Prop),Q (.int (g i j) s.toks) { s with toks:=s.toks+1 }->wpAny (model X.prog X.w) X.A (f (.int i t) (.int j u)) Q E s) :
  MR X f (VU fun i j=>.int (g i j)):=by
 intro pins s σ H x y v u Q I rx ry h;obtain⟨i,j,rfl,rfl,q⟩:=h;obtain⟨t,rfl⟩:=rx;obtain⟨t',rfl⟩:=ry;exact rule i j t t' s _ _ ⟨.int (g i j),H,I.tok _,⟨_,rfl⟩,q⟩
theorem YS{f:Value->Value->Sem Value}{g:Int->Int->Bool}
  (rule:∀ (i j:Int) (t u:Tok) (s:aA) (Q:Value->aA->Prop) (E:Value->aA->Prop),Q (.bool (g i j)) s->wpAny (model X.prog X.w) X.A (f (.int i t) (.int j u)) Q E s) :
  MR X f (VU fun i j=>.bl (g i j)):=by
 intro pins s σ H x y v u Q I rx ry h;obtain⟨i,j,rfl,rfl,q⟩:=h;obtain⟨t,rfl⟩:=rx;obtain⟨t',rfl⟩:=ry;exact rule i j t t' s _ _ ⟨.bl (g i j),H,I,rfl,q⟩
noncomputable def aaT(i j:Int):Prop:=0 < j/\j < 1073741824
noncomputable def Ve(i j:Int):Prop:=(-(2 ^ 64) < i/\i < 2 ^ 64)\/(-(2 ^ 64) < j/\j < 2 ^ 64)
theorem Ve.ok{i j:Int}(h:Ve i j):IntMulOk i j:=by
 rcases h with ⟨h1,h2⟩ | ⟨h1,h2⟩
 ·exact .of_left (intBits_le_64 h1 h2)
 ·exact .of_right (intBits_le_64 h1 h2)
theorem Ui:MR X (jk .Add) (VU fun i j=>.int (i+j)):=V4 fun _ _ _ _ _ _ _ q=>add_int q
theorem Ud:MR X (jk .Sub) (VU fun i j=>.int (i - j)):=V4 fun _ _ _ _ _ _ _ q=>sub_int q
theorem Ue:MR X (jk .Mult) (rI Ve fun i j=>.int (i * j)):=Xx fun _ _ _ _ _ _ _ hc q=>mul_int q hc.ok
theorem Rn:MR X (jk .FloorDiv) (rI aaT fun i j=>.int (i / j)):=Xx fun i j _ _ _ _ _ hc q=>by
 have h1:(0:Int) < j:=hc.1;have h2:j < 1073741824:=hc.2;exact floordiv_int (by lia) (by rw [Int.fdiv_eq_ediv_of_nonneg i (by lia)]; exact q) (.inl (PyProof.noPylong_small (by lia)))
theorem Ug:MR X (jk .Mod) (rI (fun _ j=>0 < j) fun i j=>.int (i % j)):=Xx fun i j _ _ _ _ _ hc q=>by
 have h1:(0:Int) < j:=hc;exact mod_int' (by lia) (by rw [Int.fmod_eq_emod_of_nonneg i (by lia)]; exact q)
theorem unI{f:Value->Sem Value}{g:Int->Int}
  (rule:∀ (i:Int) (t:Tok) (s:aA) (Q:Value->aA->Prop) (E:Value->aA->Prop),Q (.int (g i) s.toks) { s with toks:=s.toks+1 }->wpAny (model X.prog X.w) X.A (f (.int i t)) Q E s) :
  UnR X f (rU fun i=>.int (g i)):=by
 intro pins s σ H x v Q I rx h;obtain⟨i,rfl,q⟩:=h;obtain⟨t,rfl⟩:=rx;exact rule i t s _ _ ⟨.int (g i),H,I.tok _,⟨_,rfl⟩,q⟩
theorem Tv:UnR X (unaryOp .USub) (rU fun i=>.int (-i)):=unI fun _ _ _ _ _ q=>neg_int q
end
section
variable {X:Cx} {a b c:Expr} {ta tb tc:TE} {pos:Pos}
theorem V3:MR X (gu .Lt) (VU fun i j=>.bl (decide (i < j))):=YS fun _ _ _ _ _ _ _ q=>lt_int q
theorem gL(b:Expr){op:CmpOp}(h:autoParam (op≠.In) Ad._auto_1)(h2:autoParam (op≠.NotIn) Ad._auto_1):behindInMarks op b=false:=by
 have e1:(op == CmpOp.In)=false:=by cases op <;> first | rfl | exact absurd rfl h
 have e2:(op == CmpOp.NotIn)=false:=by cases op <;> first | rfl | exact absurd rfl h2
 cases b with
 | Set es k _ =>
  show (k == 0&&(op == .In||op == .NotIn)&&es.all (constantsAlone 8))=false;rw [e1,e2,Bool.or_false,JK,JJ]
 | _=>rfl
noncomputable def U7(K:ai)(x:V)(H:Hp)(k:Bool):Prop :=
 match x with
 | .eU=>k=false
 | .bl b=>k=b
 | .int i=>k=(i != 0)
 | .str y=>y.length<=bg/\k=((y.length:Int) != 0)
 | .U3 y=>y.size<=bg/\k=((y.size:Int) != 0)
 | .ref p=>(∃ xs,oZ K H p xs/\k=!xs.isEmpty)\/(∃ xs,xZ K H p xs/\k=!xs.isEmpty)\/∃ kvs,H p=some (.dK kvs)/\k=!kvs.isEmpty
 | _=>False
theorem IB{κ:Type}{kvs:List (κ×V)}{vs:List (κ×Value)}(r:KV kvs vs):(!vs.isEmpty)=!kvs.isEmpty:=by
 cases r <;> rfl
theorem zx{xs:List V}{bZ:List Value}(r:Vals xs bZ):(!bZ.toArray.isEmpty)=!xs.isEmpty:=by
 cases r <;> simp
theorem zq:(bg:Nat) < 2 ^ 63:=by rw [c6]; decide
theorem Tx:aaI X (fun x H Q=>∃ k,U7 X.K x H k/\Q k H):=by
 intro pins s σ H x v Q I rx h;obtain⟨k,e,q⟩:=h;have hl:=zq;have hs:bg=16777216:=c6;cases x with
 | eU =>
  cases rx;have e':k=false:=e;subst e';exact truthy_none ⟨H,I,q⟩
 | bl b =>
  cases rx;have e':k=b:=e;subst e';exact uv ⟨H,I,q⟩
 | int i =>
  obtain⟨t,rfl⟩:=rx;have e':k=(i != 0):=e;subst e';exact PySem.P.truthy_int ⟨H,I,q⟩
 | str y =>
  obtain⟨t,rfl⟩:=rx;obtain⟨hy,e'⟩:y.length<=bg/\k=((y.length:Int) != 0):=e;subst e';exact PySem.P.truthy_str (by lia) ⟨H,I.tok _,q⟩
 | U3 y =>
  obtain⟨t,rfl⟩:=rx;obtain⟨hy,e'⟩:y.size<=bg/\k=((y.size:Int) != 0):=e;subst e';exact PySem.W.truthy_bytes (by lia) ⟨H,I.tok _,q⟩
 | ref p =>
  cases rx;have e':(∃ xs,oZ X.K H p xs/\k=!xs.isEmpty)\/(∃ xs,xZ X.K H p xs/\k=!xs.isEmpty)\/∃ kvs,H p=some (.dK kvs)/\k=!kvs.isEmpty:=e;rcases e' with ⟨xs,hx,e'⟩ | ⟨xs,hx,e'⟩ | ⟨kvs,hx,e'⟩
  ·subst e';obtain⟨bZ,r,pl,hz⟩:=I.list hx;have hlen:=r.length;exact wpAny_truthy_list pl.isList (by simp only [bb]; lia) ⟨H,I.tok _,by rw [zx r]; exact q⟩
  ·subst e';obtain⟨bZ,r,pl,hz⟩:=I.tuple hx;have hlen:=r.length;exact truthy_tuple pl (by simp only [bb]; lia) ⟨H,I.tok _,by rw [zx r]; exact q⟩
  ·subst e';obtain⟨hz,hS,vs,r,m⟩:kvs.length<=bg/\(p == dn)=false/\∃ vs,KV kvs vs/\s.heap.DictOf (cY X.prog X.w) p vs:=I.cL p _ hx;have hlen:kvs.length=vs.length:=iM r;exact Hf hS m (by lia) ⟨H,I.tok _,by rw [IB r]; exact q⟩
 | _=>exact(show False from e).elim
theorem Ib:MR X (jk .Add) (fun x y H Q=>∃ i j,x=.str i/\y=.str j/\i.length+j.length<=bg/\Q (.str (i++j)) H):=by
 intro pins s σ H x y v u Q I rx ry h;obtain⟨i,j,rfl,rfl,hz,q⟩:=h;obtain⟨t,rfl⟩:=rx;obtain⟨t',rfl⟩:=ry;exact add_str (fun t' tk=>⟨.str (i++j),H,I.tok _,⟨_,rfl⟩,q⟩) hz
theorem vals1{x:V}{us:List Value}(r:Vals [x] us):∃ u,us=[u]/\RelV x u:=by
 cases r with
 | cons r1 r2=>cases r2; exact⟨_,rfl,r1⟩
theorem vals2{x y:V}{us:List Value}(r:Vals [x,y] us):∃ u w',us=[u,w']/\RelV x u/\RelV y w':=by
 cases r with
 | cons r1 r2 =>
  cases r2 with
  | cons r3 r4=>cases r4; exact⟨_,_,rfl,r1,r3⟩
noncomputable def Xk(K:ai)(x:V)(H:Hp)(n:Nat):Prop :=
 match x with
 | .str y=>y.length<=bg/\n=y.length
 | .U3 y=>y.size<=bg/\n=y.size
 | .ref p=>(∃ xs,oZ K H p xs/\n=xs.length)\/∃ xs,xZ K H p xs/\n=xs.length
 | _=>False
theorem P7:Ql X (.builtin "len") (fun xs H Q=>∃ x n,xs=[x]/\Xk X.K x H n/\Q (.int n) H):=by
 intro pins s σ H xs us Q I r h;obtain⟨x,n,rfl,e,q⟩:=h;obtain⟨u,rfl,rx⟩:=vals1 r;have hl:=zq;have hs:bg=16777216:=c6;cases x with
 | str y =>
  obtain⟨t,rfl⟩:=rx;obtain⟨hy,e'⟩:y.length<=bg/\n=y.length:=e;subst e';exact len_str (by lia) ⟨.int _,H,I.tok _,⟨_,rfl⟩,q⟩
 | U3 y =>
  obtain⟨t,rfl⟩:=rx;obtain⟨hy,e'⟩:y.size<=bg/\n=y.size:=e;subst e';exact PySem.W.len_bytes (by lia) ⟨.int _,H,I.tok _,⟨_,rfl⟩,q⟩
 | ref p =>
  cases rx;have e':(∃ xs,oZ X.K H p xs/\n=xs.length)\/∃ xs,xZ X.K H p xs/\n=xs.length:=e;rcases e' with ⟨xs,hx,e'⟩ | ⟨xs,hx,e'⟩
  ·subst e';obtain⟨bZ,r',pl,hz⟩:=I.list hx;have hlen:=r'.length;exact Calls.call_len_list pl.isList (by simp only [bb]; lia) ⟨.int xs.length,H,I.tok _,⟨_,by simp only [bb]; rw [hlen]⟩,q⟩
  ·subst e';obtain⟨bZ,r',pl,hz⟩:=I.tuple hx;have hlen:=r'.length;exact len_tuple pl (by simp only [bb]; lia) ⟨.int xs.length,H,I.tok _,⟨_,by simp only [bb]; rw [hlen]⟩,q⟩
 | _=>exact(show False from e).elim
end
structure afz(h:Heap)(x dx C:Addr)(mA:Str->Option Value):Prop where
 obj:h.get? x=some (PySem.W.instObj C dx)
 ns:h.Ns1 dx mA
 ne:dx≠x
theorem wQ.some_of{v:V}{o:Option Value}(r:wQ (some v) o):∃ u,o=some u/\RelV v u:=by
 cases o with
 | none=>exact(show False from r).elim
 | some u=>exact⟨u,rfl,r⟩
structure Cls(K:ai)(C:Addr):Prop where
 pg:PySem.W.plainGet K C Str.empty=true
 hd:PySem.W.hasDictIn K C=true
 po:PySem.W.plainOver K C=true
 sa:o7 K (.ref C) "__setattr__" = some (some (.builtin "object.__setattr__"))
structure Con(K:ai)(C:Addr)(f:Str)(v:V)(u:Value):Prop where
 at_:o7 K (.ref C) f=some (some u)
 rel:RelV v u
 get:QC K u "__get__" = some none
 cp:PySem.W.copiedNames.contains f=false
structure Meth(K:ai)(C:Addr)(m:Str)(f:Addr):Prop where
 at_:o7 K (.ref C) m=some (some (.ref f))
 fn:PySem.W.isFn K (.ref f)=true
 kp:lJ K (.ref f)=true
section
variable {X:Cx} {pins:List (Addr×Obj)} {σ:St} {H:Hp} {s:aA} {A:dS} {E:Value->aA->Prop} {Q:Value->aA->Prop} {c:Value} {b:Bool}
inductive zZ (K:ai) (H:Hp):V->Value->Prop where
 | eU:zZ K H .eU (.type "NoneType")
 | bl (x:Bool):zZ K H (.bl x) (.type "bool")
 | int (i:Int):zZ K H (.int i) (.type "int")
 | str (x:Str):zZ K H (.str x) (.type "str")
 | W0 (x:UInt64):zZ K H (.W0 x) (.type "float")
 | lst {a:Addr} {xs:List V} (e:H a=some (.lst xs)):zZ K H (.ref a) (.type "list")
 | kd {a:Addr} {o:Obj} {xs:List V} (e:H a=some (.kd o (.lst xs))):zZ K H (.ref a) (.type "list")
 | tup {a:Addr} {xs:List V} (e:H a=some (.tup xs)):zZ K H (.ref a) (.type "tuple")
 | dK {a:Addr} {kvs:List (Key×V)} (e:H a=some (.dK kvs)):zZ K H (.ref a) (.type "dict")
 | dT {a:Addr} {kvs:List (List Key×V)} (e:H a=some (.dT kvs)):zZ K H (.ref a) (.type "dict")
 | ins {a C dx:Addr} {fs:List (Str×V)} (e:H a=some (.ins C dx fs)) (cl:Cls K C) (ha:o7 K (.ref C) "__class__" = some (some (.builtin "object.__class__")))
   (hn:QC K (.builtin "object.__class__") "__get__" = some (some (.builtin "getset_descriptor.__get__"))) (htk:PySem.W.takesIn K (.builtin "object.__class__")=some true)
   (hm:PySem.W.mroIn K C (.type "object")=some true):zZ K H (.ref a) (.ref C)
end
structure nq(k:Nat)(A:dS):Prop where
 hd:A.handled=none
 dp:A.depth+3 * k+5 < recursionLimit
 un:A.units+16 * k+200 < cLine
theorem nq.mono{j k:Nat}{A:dS}(r:nq k A)(h:j<=k):nq j A:=⟨r.hd,by have:=r.dp; lia,by have:=r.un; lia⟩
theorem nq.deeper{k:Nat}{A:dS}(r:nq (k+1) A)(env:Env):nq k (A.deeper env) :=
 ⟨r.hd,by have:=r.dp; show A.depth+1+3 * k+5 < _; lia,by have:=r.un; show A.units+3+16 * k+200 < _; lia⟩
theorem nq.depth{k:Nat}{A:dS}(r:nq k A):A.depth < recursionLimit:=by have:=r.dp; lia
theorem nq.units{k:Nat}{A:dS}(r:nq k A):A.units+64 < cLine:=by have:=r.un; lia
theorem nq.NI{k:Nat}{A:dS}(r:nq k A):A.units < cLine:=by have:=r.un; lia
noncomputable abbrev Sp:=List V->Hp->VK->XK->Prop
noncomputable abbrev MX:=List Env->Hp->aA->XK->Value->aA->Prop
structure Si(P:bN)(w:World)(K:ai)(mg:Str->Option Value)(base:Heap)(A:dS)(outer:List Env)(s:aA)(H:Hp):Prop where
 frames:A.frames=some outer
 mod:Mod K mg base
 bs:∀ b o,base.get? b=some o->s.heap.get? b=some o/\H b=none
 R7:base.objs.size<=s.heap.objs.size
 zC:s.heap.FunFrames base outer
 Vs:∀ b∈Nh outer,H b=none
 cL:qv P w H s.heap
 bare:Cb s.gens
noncomputable def CE(outer:List Env)(P:bN)(w:World)(H:Hp)(s:aA)(Q:VK)(u:Value)(s':aA):Prop :=
 ∃ v H',s'.os=s.os/\Cb s'.gens/\Un (Nh outer) [] H H' s.heap s'.heap/\qv P w H' s'.heap/\RelV v u/\Q v H'
noncomputable def CR(CX:MX)(outer:List Env)(P:bN)(w:World)(H:Hp)(s:aA)(Q:VK)(E:XK)(r:Result)(s':aA):Prop :=
 match r with
 | .ok (.ret u)=>CE outer P w H s Q u s'
 | .ok _=>False
 | .error e=>CX outer H s E e s'
structure gf(P:bN)(w:World)(K:ai)(mg:Str->Option Value)(base:Heap)(CX:MX)(k:Nat)(f:Addr)(fd:aI)(ps:List Str)(sp:Sp):Prop where
 len:∀ vs H Q E,sp vs H Q E->vs.length=ps.length
 run:∀ (A:dS) (outer:List Env) (s:aA) (H:Hp) (args:Args) (us:List Value) (vs:List V) (Q:VK) (E:XK),nq k A->Si P w K mg base A outer s H->NB s fd args (ps.zip us)->Vals vs us->sp vs H Q E ->
  Hj (model P w) A (.call (.ref f) args) (CR CX outer P w H s Q E) s
section
variable {X:Cx} {pins:List (Addr×Obj)} {σ:St} {H:Hp} {s s':aA}
theorem Inv.aav(I:Inv X pins σ H s):Si X.prog X.w X.K X.mg X.base X.A X.stack s H :=
 ⟨I.ok.frames,I.ok.mod,I.bs,aZ I.ok.R7 I.sz,I.stack,I.JT,I.cL,I.bare⟩
theorem Inv.after{Q:VK}{u:Value}(I:Inv X pins σ H s)(h:CE X.stack X.prog X.w H s Q u s'):EP X pins σ Q u s':=by
 obtain⟨v,H',os,bare,un,cL,r,q⟩:=h;obtain⟨hh,g,d,t,os'⟩:=s';obtain rfl:os'=s.os:=os;exact⟨v,H',I.call (h':=hh) (g':=g) (d':=d) (t':=t) (ch:=[]) un cL bare (fun b z=>absurd z (by simp)),r,q⟩
end
noncomputable def Binds(K:ai)(fd:aI)(ps:List Str)(ds:List Value):Prop :=
 ∀ (s:aA) (us:List Value),K.In s.heap->(us++ds).length=ps.length->NB s fd ⟨us,[]⟩ (ps.zip (us++ds))
theorem Binds.all{K:ai}{fd:aI}{ps:List Str}(h:∀ us:List Value,us.length=ps.length->bindArgs fd ⟨us,[]⟩=pure (ps.zip us)):Binds K fd ps []:=fun s us _ hl=>by
 rw [cP] at hl ⊢;exact .of_eq (h us hl)
noncomputable def Passes(CX:MX)(X:Cx)(E:XK):Prop:=∀ (pins:List (Addr×Obj)) (σ:St) (H:Hp) (s:aA) (e:Value) (s':aA),Inv X pins σ H s->CX X.stack H s E e s'->X.xe e s'
section
variable {X:Cx} {CX:MX} {k:Nat} {f C:Addr} {fd:aI} {ps:List Str} {sp:Sp} {XZ:List V} {ds:List Value} {E:XK} {x m:Str} {p pos apos:Pos} {e o:Expr} {es:List Expr} {ta:TE} {t:TA}
theorem TV{pins:List (Addr×Obj)}{σ:St}{H:Hp}{s:aA}{Q:VK}{us:List Value}{vs:List V}(F:gf X.prog X.w X.K X.mg X.base CX k f fd ps sp)(hr:nq k X.A)(hb:Binds X.K fd ps ds)(hd:Vals XZ ds)(hx:Passes CX X E)
  (I:Inv X pins σ H s) (r:Vals vs us) (h:sp (vs++XZ) H Q E):wpAny (model X.prog X.w) X.A (call (.ref f) us) (EP X pins σ Q) X.xe s:=by
 have r2:Vals (vs++XZ) (us++ds):=r.append hd;have hl:(us++ds).length=ps.length:=by rw [<-r2.length]; exact F.len _ _ _ _ h
 refine wpAny_call (codeAny_mono (F.run X.A X.stack s H ⟨us,[]⟩ (us++ds) (vs++XZ) Q E hr I.aav (hb s us I.Ko hl) r2 h) fun r s' hq=>?_);cases r with
 | error e=>exact hx pins σ H s e s' I hq
 | ok fl =>
  cases fl with
  | ret u=>exact I.after hq
  | next=>exact bW hq
  | brk=>exact bW hq
  | cont=>exact bW hq
structure Mk(K:ai)(C f:Addr):Prop where
 makes:PySem.W.makesIn K C=true
 init:o7 K (.ref C) "__init__" = some (some (.ref f))
 fn:PySem.W.isFn K (.ref f)=true
 kp:lJ K (.ref C)=true
end
section
variable {X:Cx} {CX:MX} {k:Nat} {f C:Addr} {fd:aI} {ps ks:List Str} {sp:Sp} {E:XK} {x m:Str} {p pos apos ac9:Pos} {e o:Expr} {es:List Expr} {kws:List Nz} {te ta:TE} {t tk:TA} {nm:Option Str}
structure aaO(K:ai)(fd:aI)(ps ks:List Str)(g:List Value->List Value->List Value)(gV:List V->List V->List V):Prop where
 to:∀ (s:aA) (us ws:List Value),K.In s.heap->(g us ws).length=ps.length->NB s fd ⟨us,ks.zip ws⟩ (ps.zip (g us ws))
 rel:∀ {vs:List V} {us:List Value} {zs:List V} {ws:List Value},Vals vs us->Vals zs ws->Vals (gV vs zs) (g us ws)
variable {g:List Value->List Value->List Value} {gV:List V->List V->List V}
end
structure cD(N P:List Str)(sc:Scope):Prop where
 kind:sc.kind=.function
 co:sc.isCoroutine=false
 gen:sc.isGenerator=false
 nd:N.Nodup
 pre:N.take P.length=P
 par:∀ x∈P,sc.names.lookup x=some .local\/sc.names.lookup x=some .cell
 Uo:∀ y∈sc.names,y.2≠.free
theorem B2{kindOf:Str->Option tm}{x:Str}:∀ {binds:List (Str×Value)} {m:Str->Option Value},(∀ v,(x,v)∉binds)->bindL kindOf binds m x=m x
 | [],_,_=>rfl
 | (n,v) :: r,m,h=>by
  unfold bindL;rw [B2 fun w hw=>h w (aO _ hw)];split
  ·have:x≠n:=by rintro rfl; exact h v c4
   simp [this]
  ·rfl
theorem B4{kindOf:Str->Option tm}{x:Str}:∀ {binds:List (Str×Value)} {m:Str->Option Value},(∀ v,(x,v)∉binds)->bindC kindOf binds m x=m x
 | [],_,_=>rfl
 | (n,v) :: r,m,h=>by
  unfold bindC;rw [B4 fun w hw=>h w (aO _ hw)];split
  ·rfl
  ·have:x≠n:=by rintro rfl; exact h v c4
   simp [this]
theorem B3{kindOf:Str->Option tm}{x:Str}{v:Value}:∀ {P:List Str} {vs:List Value} {i:Nat} {m:Str->Option Value},P.Nodup->P[i]?=some x->vs[i]?=some v->kindOf x=some .local ->
  bindL kindOf (P.zip vs) m x=some v
 | [],_,_,_,_,h,_,_=>by simp at h
 | _ :: _,[],_,_,_,_,h,_=>by simp at h
 | p :: P,w :: vs,0,m,nd,h1,h2,hk=>by
  simp at h1 h2; subst h1; subst h2;show bindL kindOf ((p,w) :: P.zip vs) m p=_;unfold bindL;rw [B2 fun v hv=>(List.nodup_cons.mp nd).1 (GV hv).1,if_pos hk];simp
 | p :: P,w :: vs,i+1,m,nd,h1,h2,hk=>by
  show bindL kindOf ((p,w) :: P.zip vs) m x=_;unfold bindL;exact B3 (i:=i) (List.nodup_cons.mp nd).2 (by simpa using h1) (by simpa using h2) hk
theorem B5{kindOf:Str->Option tm}{x:Str}{v:Value}:∀ {P:List Str} {vs:List Value} {i:Nat} {m:Str->Option Value},P.Nodup->P[i]?=some x->vs[i]?=some v->kindOf x≠some .local ->
  bindC kindOf (P.zip vs) m x=some v
 | [],_,_,_,_,h,_,_=>by simp at h
 | _ :: _,[],_,_,_,_,h,_=>by simp at h
 | p :: P,w :: vs,0,m,nd,h1,h2,hk=>by
  simp at h1 h2; subst h1; subst h2;show bindC kindOf ((p,w) :: P.zip vs) m p=_;unfold bindC;rw [B4 fun v hv=>(List.nodup_cons.mp nd).1 (GV hv).1,if_neg hk];simp
 | p :: P,w :: vs,i+1,m,nd,h1,h2,hk=>by
  show bindC kindOf ((p,w) :: P.zip vs) m x=_;unfold bindC;exact B5 (i:=i) (List.nodup_cons.mp nd).2 (by simpa using h1) (by simpa using h2) hk
noncomputable def start(N:List Str)(vs:List V):St:=vs.map some++a8 (N.length - vs.length) none
noncomputable def Gs(CX:MX)(P:bN)(w:World)(K:ai)(mg:Str->Option Value)(base:Heap)(N:List Str)(qual:Str)(scope:Scope)(f:Addr)(cd:Value)(A:dS)(outer:List Env)(s:aA)(H:Hp)(E:XK):Cx where
 prog:=P
 w:=w
 K:=K
 mg:=mg
 base:=base
 A:=A.deeper (Ee qual scope s.heap.objs.size f cd)
 N:=N
 nF:=s
 Qk:=H
 env:=Ee qual scope s.heap.objs.size f cd
 outer:=outer
 stack:=Ee qual scope s.heap.objs.size f cd :: outer
 ex:=[]
 calm:=true
 fn:=fun _=>true
 pn:=[]
 xe:=fun e s'=>wpAny (model P w) (A.deeper (Ee qual scope s.heap.objs.size f cd)) (leaving (Ee qual scope s.heap.objs.size f cd) e) (fun _ VP=>CX outer H s E e VP) (fun e' VP=>CX outer H s E e' VP) s'
theorem Gw{sc:Scope}{n:Nat}{x:Str}(h:sc.names.lookup x=some .cell):∃ c,(cellsFrom n sc.names []).lookup x=some c:=by
 have q:=JC sc.names n [] (.inl h);exact Option.isSome_iff_exists.mp q
theorem Mc{CX:MX}{P:bN}{w:World}{K:ai}{mg:Str->Option Value}{base:Heap}{N ps:List Str}{qual:Str}{scope:Scope}{f:Addr}{cd:Value}{A:dS}{outer:List Env}{s s1:aA}{H:Hp}{E:XK}{us:List Value}{vs:List V}
  (S:cD N ps scope) (hd:A.handled=none) (e0:Si P w K mg base A outer s H) (hl:vs.length=ps.length) (r:Vals vs us)
  (x:InCallC s s.heap.objs.size (bindL (Ee qual scope s.heap.objs.size f cd).kindOf (ps.zip us) fun _=>none) (cellsFrom (s.heap.objs.size+1) scope.names []) (bindC (Ee qual scope s.heap.objs.size f cd).kindOf (ps.zip us) fun _=>none) s1) :
  Inv (Gs CX P w K mg base N qual scope f cd A outer s H E) [] (start N vs) H s1:=by
 have Kz:ps.length<=N.length:=by have:=congrArg dH S.pre; rw [eA] at this; lia
 obtain⟨h1,tk,rfl,hk⟩:=x.done;have We:∀ b:Addr,b∉(Gs CX P w K mg base N qual scope f cd A outer s H E).ex:=fun b z=>absurd (show b∈([]:List Addr) from z) (by simp);refine⟨⟨e0.mod,S.kind,rfl,rfl,aH _,fun y z c h1 h2=>?_,fun y hy=>?_,fun y c _ h=>?_,fun _=>hd,Around.frames_deeper e0.frames,.inr ⟨rfl,rfl⟩,fun b z=>absurd z (We b),e0.bs,e0.R7,fun b _ _=>We b,fun b z=>absurd z (We b),e0.zC,e0.Vs⟩,
  rfl,e0.bare,Un.kept hk,⟨_,x.toInCall.ns,fun i y v h1 h2 h3=>?_⟩,fun y c h=>⟨_,x.cell y c h⟩,e0.cL.fresh (aH _),fun y c h=>?_,fun p hp=>absurd (show p∈([]:List (Addr×Obj)) from hp) (by simp),e0.cL.kept hk,?_⟩
 ·exact name_of_addr x.apart (iR h1) (iR h2)
 ·have hy:scope.names.lookup y=some .cell\/scope.names.lookup y=some .free:=hy;rcases hy with hy | hy
  ·exact Gw hy
  ·exact absurd rfl (S.Uo _ (iR hy))
 ·exact QE (x.above y c (iR h))
 ·have hi:i < vs.length:=by
   unfold start at h2;by_cases hi:i < vs.length
   ·exact hi
   ·rw [cm (by simpa using hi)] at h2;rw [lA] at h2;split at h2 <;> cases h2
  have ha:vs[i]?=some v:=by
   unfold start at h2;rw [c7 (by simpa using hi),bI] at h2;cases e:vs[i]? with
   | none=>rw [e] at h2; cases h2
   | some a=>rw [e] at h2; cases h2; rfl
  obtain⟨u,hu,rv⟩:=r.get ha;have hp:ps[i]?=some y:=by
   rw [<-S.pre,List.getElem?_take_of_lt (by lia)]; exact h1
  have ndP:ps.Nodup:=by rw [<-S.pre]; exact S.nd.sublist (List.take_sublist _ _)
  refine⟨u,rv,?_⟩;rcases S.par y (br hp) with k | k
  ·exact .inl ⟨k,B3 ndP hp hu k⟩
  ·obtain⟨c,e⟩:=Gw (n:=s.heap.objs.size+1) k;refine .inr ⟨.inl k,c,e,?_⟩;have q:=x.cell y c e;rw [B5 ndP hp hu (by show scope.names.lookup y≠_; rw [k]; decide)] at q;exact q
 ·exact e0.cL.fresh (QE (x.above y c (iR h)))
 ·unfold start;show _=N.length;rw [aJ,au,fI];lia
theorem WZ{CX:MX}{P:bN}{w:World}{K:ai}{mg:Str->Option Value}{base:Heap}{k:Nat}{f:Addr}{name qual:Str}{params:Arguments}{body:List Stmt}{scope:Scope}{dV kV doc pm oY ct oc:Value}{an od:Option Addr}
  {Oz:Array (Option Value)} {N ps:List Str} {sp:Sp} (lk:K.lookup f=some ⟨oc,od,.func (kD name qual params body scope dV kV doc pm an oY ct),Oz⟩) (KA:Ef K oY qual=true) (S:cD N ps scope)
  (len:∀ vs H Q E,sp vs H Q E->vs.length=ps.length)
  (Pt:∀ (A:dS) (outer:List Env) (s:aA) (H:Hp) (vs:List V) (Q:VK) (E:XK),nq k (A.deeper (Ee qual scope s.heap.objs.size f oY))->sp vs H Q E ->
   ∃ t,Vv (Gs CX P w K mg base N qual scope f oY A outer s H E) body t/\t { nx:=fun _ H'=>Q .eU H',rt:=Q } (start N vs) H) :
  gf P w K mg base CX (k+1) f (kD name qual params body scope dV kV doc pm an oY ct) ps sp:=by
 refine⟨len,fun A outer s H args us vs Q E hr e0 hb r SR=>?_⟩;have hl:=len _ _ _ _ SR;have KX:K.In s.heap:=e0.mod.XH.keeps fun b o e=>(e0.bs b o e).1;have lim:s.heap.NoLimit:=e0.mod.nolimit.keeps fun b o e=>(e0.bs b o e).1;have BF:∀ y∈ps.zip us,scope.names.lookup y.1=some .local\/(scope.names.lookup y.1=some .cell/\((cellsFrom (s.heap.objs.size+1) scope.names []).lookup y.1).isSome=true):=fun ⟨n,v⟩ hy=>by
  rcases S.par n (GV hy).1 with q | q
  ·exact .inl q
  ·exact .inr ⟨q,JC _ _ _ (.inl q)⟩
 refine codeAny_call_function hr.depth (KX _ _ lk) rfl S.co S.gen rfl (PySem.W.codeRec_of KX KA) (hb _ _ _ _ ?_);refine wpAny_newFunctionEnv_cells S.kind BF fun env he s1 x=>?_;subst he;refine⟨lim.keeps x.toInCall.keep,codeAny_func ?_⟩;obtain⟨t,ht,hq⟩:=Pt A outer s H vs Q E (hr.deeper _) SR;have I:Inv (Gs CX P w K mg base N qual scope f oY A outer s H E) [] (start N vs) H s1:=Mc S hr.hd e0 hl r x;refine wpAny_mono (ht [] s1 (start N vs) H _ I hq) (fun fl s' hs=>?_) fun e s' hs=>hs;have fin:∀ {j0:St} {H':Hp} {v:V} {u:Value},Inv (Gs CX P w K mg base N qual scope f oY A outer s H E) [] j0 H' s'->RelV v u->Q v H'->CE outer P w H s Q u s' :=
  fun {j0 H' v u} J rv q=>⟨v,H',J.os,J.bare,J.base,J.cL,rv,q⟩
 cases fl with
 | ret u =>
  obtain⟨v,j0,H',J,rv,q⟩:=hs;exact fin J rv q
 | next =>
  obtain⟨j0,H',J,q⟩:=hs;exact fin (v:=V.eU) (u:=gj) J rfl q
 | brk =>
  obtain⟨_,_,_,q⟩:=hs;exact bW q
 | cont =>
  obtain⟨_,_,_,q⟩:=hs;exact bW q
end L2
namespace HT
open PySem PyProof.Rows
noncomputable def lexLt:List Int->List Int->Bool
 | [],[]=>false
 | [],_ :: _=>true
 | _ :: _,[]=>false
 | x :: xs,y :: ys=>if x=y then lexLt xs ys else decide (x < y)
theorem Iu(x y:Int)(xs ys:List Int):lexLt (x :: xs) (y :: ys)=if x=y then lexLt xs ys else decide (x < y):=rfl
theorem AM:lexLt [] []=false:=rfl
theorem zr(y:Int)(ys:List Int):lexLt [] (y :: ys)=true:=rfl
theorem zt(x:Int)(xs:List Int):lexLt (x :: xs) []=false:=rfl
theorem PN(A:dS)(s:aA)(a:Int)(t:Tok)(c:Int)(u:Tok):∃ e,SeqAt.EqAt A s (.int a t) (.int c u) e/\(e=true↔a=c) :=
 ⟨(a == c),SeqAt.EqAt.int_int a t c u,by simp⟩
theorem ET(A:dS)(s:aA)(a:Int)(t:Tok)(c:Int)(u:Tok)(prog:bN)(w:World)(E:Value->aA->Prop)(Q:Value->aA->Prop)(h:Q (.bool (decide (a < c))) s) :
  wpAny (model prog w) A (richCompare .Lt (.int a t) (.int c u)) Q E s :=
 (PyProof.Rows.lt_int h:wpAny (model prog w) A (gu .Lt (.int a t) (.int c u)) Q E s)
section
open PySem.SeqAt
open PySem.AutoSeq1 (wpAny_loadPart')
open PySem.MeetsSeq PySem.MeetsSeq2 PySem.MeetsSeq3
theorem AF(l b:Addr)(items oo:Array Value)(n n2:Nat)(dd He:Option Addr)(sl JX:Array (Option Value))(ns ms:List Int)(hi:pb items.toList ns)(hj:pb oo.toList ms) :
  Meets (Builtin.«tuple.__lt__» ⟨[.ref l,.ref b],[]⟩)
   (fun _ R s=>s.heap.get? l=some { cls:=.type "tuple",dict:=dd,data:=.seq items n,slots:=sl }/\s.heap.get? b=some { cls:=.type "tuple",dict:=He,data:=.seq oo n2,slots:=JX } /\
    R (.ok (.ret (.bool (lexLt ns ms)))) s) :=
 .of_wp fun prog w A R s h=>by
  obtain⟨hp,g,d,tk,os⟩:=s; obtain⟨hl,hb,h⟩:=h;have f2:=qh;have z1:items.size=ns.length:=by rw [<-hi.length]; simp
  have z2:oo.size=ms.length:=by rw [<-hj.length]; simp
  wp_walk using cx hl,cx hb,lu _ (fun rest b s'=>b.1=none/\s'=⟨hp,g,d,tk,os⟩/\∃ (vs ws:List Value) (Vi Vl:List Int),rest=vs.zip ws /\
   pb vs Vi/\pb ws Vl/\Vi.length+oo.size=Vl.length+items.size/\R (.ok (.ret (.bool (lexLt Vi Vl)))) ⟨hp,g,d,tk,os⟩) _
  case turn =>
   rintro⟨y,x⟩ rest b s' ⟨RM,rfl,vs,ws,Vi,Vl,hz,ZM,XI,hlen,hR⟩;cases ZM with
   | nil=>rw [List.zip_nil_left] at hz; cases hz
   | cons a t ZL =>
    cases XI with
    | nil=>rw [List.zip_nil_right] at hz; cases hz
    | cons c u ZJ =>
     rw [qy] at hz;injection hz with ZC Ph
     injection ZC with hy hx
     subst hy hx;rw [Iu] at hR;simp only [aj] at hlen;obtain⟨e,he,WL⟩:=PN A.in1 ⟨hp,g,d,tk,os⟩ a t c u;refine ah (he prog w _ _ ?_);cases e with
     | true =>
      rw [if_pos (WL.mp rfl)] at hR
      wp_walk
      exact⟨rfl,rfl,_,_,_,_,Ph,ZL,ZJ,by lia,hR⟩
     | false =>
      rw [if_neg (fun q=>absurd (WL.mpr q) jt)] at hR;have Wz:=ET A.in1 ⟨hp,g,d,tk,os⟩ a t c u prog w
      wp_walk using Wz
      exact⟨_,rfl,by simpa using hR⟩
  case fin =>
   rintro⟨b1,b2⟩ s' ⟨RM,rfl,vs,ws,Vi,Vl,hz,ZM,XI,hlen,hR⟩;simp only at RM;subst RM;have hv:lexLt Vi Vl=decide (items.size < oo.size):=by
    cases ZM with
    | nil =>
     cases XI with
     | nil =>
      simp only [aC] at hlen;rw [AM];exact(decide_eq_false (by lia)).symm
     | cons c u hw =>
      simp only [aC,aj] at hlen;rw [zr];exact(decide_eq_true (by lia)).symm
    | cons a t hv =>
     cases XI with
     | nil =>
      simp only [aC,aj] at hlen;rw [zt];exact(decide_eq_false (by lia)).symm
     | cons c u hw =>
      rw [qy] at hz;cases hz
   rw [hv] at hR
   wp_walk
   exact⟨_,rfl,by simpa [uz] using hR⟩
  case h =>
   exact⟨rfl,rfl,items.toList,oo.toList,ns,ms,rfl,hi,hj,by lia,h⟩
end
section
variable {prog:bN} {w:World} {A:dS} {E:Value->aA->Prop} {s:aA}
theorem Io{l b:Addr}{items oo:Array Value}{ns ms:List Int}{Q:Value->aA->Prop}(hl:IsTup s.heap l items)(hb:IsTup s.heap b oo)(hi:pb items.toList ns)(hj:pb oo.toList ms)
  (hu:A.units < cLine) (h:Q (.bool (lexLt ns ms)) s):wpAny (model prog w) A (gu .Lt (.ref l) (.ref b)) Q E s:=by
 obtain⟨⟨cls,dd,data,sl⟩,ho,hc,n,hd⟩:=id hl;obtain⟨⟨P5,He,data2,JX⟩,FI,BH,n2,hd2⟩:=id hb;simp only at hc hd BH hd2;subst hc hd BH hd2;exact xt (op:=.Lt) ⟨_,ho,rfl⟩ ⟨_,FI,rfl⟩ lS sS (qL _ _) (AF l b items oo n n2 dd He sl JX ns ms hi hj)
  ⟨ho,FI,show Value.bool (lexLt ns ms)≠Value.notImplemented/\Q (.bool (lexLt ns ms)) s from⟨(fun x=>nomatch x),h⟩⟩ hu
theorem R3{t b:Addr}{vs ws:List Value}{Q:Value->aA->Prop}(ht:IsTup s.heap t vs.toArray)(hb:IsTup s.heap b ws.toArray)(hv:vs≠[])
  (h1:ws=[]->Q (.ref t) s) (h2:ws≠[]->Q (.ref s.heap.objs.size) { s with heap:=s.heap.push { cls:=.type "tuple",data:=.seq (vs++ws).toArray } })
  (hsz:vs.length+ws.length<=bg):wpAny (model prog w) A (jk .Add (.ref t) (.ref b)) Q E s:=by
 obtain⟨⟨cls,dd,data,sl⟩,ho,hc,n,hd⟩:=id ht;obtain⟨⟨P5,He,data2,JX⟩,FI,BH,n2,hd2⟩:=id hb;simp only at hc hd BH hd2;subst hc hd BH hd2;have e:vs.toArray++ws.toArray=(vs++ws).toArray:=by simp
 by_cases hw:ws=[]
 ·exact concat_meets ⟨_,ho,rfl⟩ ⟨_,FI,rfl⟩ noFill_tuple_add seq_tuple_add JF Hq (GU _ _)
   (tuple_addW1 t b vs.toArray ws.toArray n n2 dd He sl JX (by simpa using hv) (by simp [hw])) ⟨ho,FI,h1 hw⟩
 ·refine concat_meets ⟨_,ho,rfl⟩ ⟨_,FI,rfl⟩ noFill_tuple_add seq_tuple_add JF Hq (GU _ _)
   (tuple_addW2 t b vs.toArray ws.toArray n n2 dd He sl JX (by simpa using hv) (by simpa using hw) (by rw [bb,bb]; exact hsz)) ⟨ho,FI,?_⟩
  rw [e];exact h2 hw
noncomputable def jL(n d:Nat):Option Int->Nat
 | none=>d
 | some v=>if v < 0 then (v+(n:Int)).toNat else min v.toNat n
theorem TU(n d:Nat)(hd:d<=n)(o:Option Int):jL n d o<=n:=by
 cases o with
 | none=>exact hd
 | some v =>
  show (if v < 0 then (v+(n:Int)).toNat else min v.toNat n)<=n;by_cases hv:v < 0
  ·rw [if_pos hv]; lia
  ·rw [if_neg hv]; exact Nat.min_le_right _ _
theorem K4(v:Int)(n d:Nat):(if v < 0 then max (v+(n:Int)) 0 else min v (n:Int))=((jL n d (some v):Nat):Int):=by
 show (if v < 0 then max (v+(n:Int)) 0 else min v (n:Int))=(((if v < 0 then (v+(n:Int)).toNat else min v.toNat n):Nat):Int);by_cases hv:v < 0
 ·simp only [if_pos hv]; lia
 ·simp only [if_neg hv]; lia
theorem Jk(lo hi:Option Int)(n:Nat):nE lo hi 1 (n:Int)=(((jL n 0 lo:Nat):Int),((jL n n hi:Nat):Int)):=by
 have h1:¬ ((1:Int) < 0):=by lia
 unfold nE;simp only [h1,if_false];refine Prod.ext ?_ ?_
 ·cases lo with
  | none=>rfl
  | some v=>exact K4 v n 0
 ·cases hi with
  | none=>rfl
  | some v=>exact K4 v n n
theorem HZ(i j:Nat):jr (i:Int) (j:Int) 1=j - i:=by
 unfold jr;have h1:(1:Int) > 0:=by lia
 simp only [h1,if_true,Int.ediv_one];split <;> lia
theorem yt{v:Value}{o:Option Int}{Q:Option Int->aA->Prop}(p:IsPart v o)(h:Q o s):wpAny (model prog w) A (Builtin.Slice.slicePartIndex v) Q E s:=by
 cases p with
 | none=>exact slicePart_none h
 | int i t=>exact slicePart_int h
theorem v9{sl:Addr}{vl vu:Value}{lo hi:Option Int}{n:Nat}{Q:Int×Int×Nat->aA->Prop}(hs:s.heap.IsSliceOf sl vl vu .none)(pl:IsPart vl lo)(pu:IsPart vu hi)
  (h:Q (((jL n 0 lo:Nat):Int),1,jL n n hi - jL n 0 lo) s):wpAny (model prog w) A (xH (.ref sl) (pure (n:Int))) Q E s:=by
 obtain⟨os,WD,WS,XR⟩:=id hs;unfold xH Builtin.Slice.sliceFields;refine ah (ah (qF WD XR (x:=vl) rfl (ah (qF WD XR (x:=vu) rfl (ah (qF WD XR (x:=.none) rfl (aE ?_)))))));refine ah (slicePart_none ?_);show wpAny _ _ (if ((1:Int) == 0)=true then _ else _) _ _ s;rw [if_neg (by decide)];refine ah (yt pl (ah (yt pu (ah (aE ?_)))));show wpAny _ _ (match nE lo hi 1 (n:Int) with | (lo,hi)=>pure (lo,(1:Int),jr lo hi 1)) _ _ s;rw [Jk lo hi n];show wpAny _ _ (pure (((jL n 0 lo:Nat):Int),(1:Int),jr ((jL n 0 lo:Nat):Int) ((jL n n hi:Nat):Int) 1)) _ _ s;rw [HZ];exact aE h
theorem Om(xs:Array Value)(i k:Nat):((c9 k).filterMap fun (m:Nat)=>xs[((i:Int)+(m:Int) * 1).toNat]?).toArray=((xs.toList.drop i).take k).toArray:=by
 have e:(fun (m:Nat)=>xs[((i:Int)+(m:Int) * 1).toNat]?)=fun m=>xs[i+m]?:=by
  funext m;have:((i:Int)+(m:Int) * 1).toNat=i+m:=by lia
  rw [this]
 rw [e];have:=pick_run xs i k;rw [List.filterMap_map] at this;have e2:((fun x=>xs[x]?)∘fun x=>i+x)=fun m=>xs[i+m]?:=rfl;rw [e2] at this;rw [this]
theorem vq{t sl:Addr}{items:Array Value}{vl vu:Value}{lo hi:Option Int}{Q:Value->aA->Prop}(ht:IsTup s.heap t items)(hs:s.heap.IsSliceOf sl vl vu .none)(pl:IsPart vl lo)(pu:IsPart vu hi)
  (hw:¬ (jL items.size 0 lo=0/\jL items.size items.size hi=items.size))
  (h:Q (.ref s.heap.objs.size) { s with heap:=s.heap.push { cls:=.type "tuple",data:=.seq ((items.toList.drop (jL items.size 0 lo)).take (jL items.size items.size hi - jL items.size 0 lo)).toArray } })
  (hsz:items.size<=bg):wpAny (model prog w) A (getItem (.ref t) (.ref sl)) Q E s:=by
 have Ky:sizeOk (.seq ((items.toList.drop (jL items.size 0 lo)).take (jL items.size items.size hi - jL items.size 0 lo)).toArray):=by
  show ((items.toList.drop (jL items.size 0 lo)).take (jL items.size items.size hi - jL items.size 0 lo)).toArray.size<=bg;rw [bb];exact aZ (aZ (List.length_take_le' _ _) (by rw [cJ,fk]; exact Nat.sub_le _ _)) hsz
 have hj:jL items.size items.size hi<=items.size:=TU _ _ (aH _) hi;obtain⟨os,WD,WS,XR⟩:=id hs;have hTs:s.TypeIs (.ref sl) "slice":=⟨os,WD,WS⟩;unfold getItem
 try with_reducible refine fe ?_
 first | refine ah (aE ?_) | skip
 refine ah (wpAny_sequenceKey ht.typeIs (by decide) ?_);refine ah (jj (name:=vX "__getitem__") ht.typeIs vQ
  (dj vQ ht.typeIs entry_tuple_getitem ?_ (args_tuple_getitem _ _)))
 show wpAny _ _ (xG (.ref t) >>= _) _ _ s;refine ah (tupleItemsOf_ ht ?_);refine ah (wpAny_typeOf hTs ?_);rw [if_pos (by decide)];refine ah (v9 hs pl pu ?_);have UC:¬ ((((jL items.size 0 lo:Nat):Int) == 0&&(1:Int) == 1&&(jL items.size items.size hi - jL items.size 0 lo) == items.size)=true):=by
  intro q;rw [aN,aN] at q;have q1:((jL items.size 0 lo:Nat):Int)=0:=eq_of_beq q.1.1;have q2:jL items.size items.size hi - jL items.size 0 lo=items.size:=eq_of_beq q.2;exact hw ⟨by lia,by lia⟩
 show wpAny _ _ (if (((jL items.size 0 lo:Nat):Int) == 0&&(1:Int) == 1&&(jL items.size items.size hi - jL items.size 0 lo) == items.size)=true then _ else _) _ _ s;rw [if_neg UC,Om]
 first
  | exact ah (m:=jK _) (dP (aE ⟨_,rfl,aE h⟩) Ky)
  | exact ah (m:=jK _) (dP (ah (aE (aE ⟨_,rfl,aE h⟩))) Ky)
  | exact ah (ah (m:=jK _) (dP (aE (aE ⟨_,rfl,aE h⟩)) Ky))
  | exact ah (ah (m:=jK _) (dP (aE ⟨_,rfl,aE h⟩) Ky))
end
end HT
namespace L2
open PySem PySem.Spec PyProof.Rows
noncomputable abbrev TO:=St->Hp->(Option Int->Hp->Prop)->Prop
theorem intsAre_of{ns:List Int}:∀ {us:List Value},Vals (ns.map V.int) us->pb us ns:=by
 induction ns with
 | nil=>intro us r; rw [bq] at r; cases r; exact .nil
 | cons n ns ih =>
  intro us r;rw [ak] at r;cases r with
  | cons r1 r2 =>
   obtain⟨t,e⟩:=r1;subst e;exact .cons n t (ih r2)
section
variable {X:Cx} {e:Expr} {te:TE} {lo hi:Option Expr} {tl th:TO} {pos p2:Pos}
noncomputable def SlR(X:Cx)(r:V->Option Int->Option Int->Hp->VK->Prop):Prop :=
 ∀ (pins:List (Addr×Obj)) (s:aA) (σ:St) (H:Hp) (x:V) (v vl vu:Value) (lo hi:Option Int) (sl:Addr) (Q:VK),Inv X pins σ H s->RelV x v->s.heap.IsSliceOf sl vl vu .none->IsPart vl lo->IsPart vu hi->r x lo hi H Q ->
  ∃ T id,typeLookup (.type T) "__getitem__" = pure (some (.builtin id))/\s.TypeIs v T/\wpAny (model X.prog X.w) X.A (getItem v (.ref sl)) (EP X pins σ Q) X.xe s
noncomputable def Gu(xs:List V)(lo hi:Option Int):List V:=(xs.drop (HT.jL xs.length 0 lo)).take (HT.jL xs.length xs.length hi - HT.jL xs.length 0 lo)
theorem xn(xs:List V)(lo hi:Option Int):(Gu xs lo hi).length<=xs.length:=by
 unfold Gu;rw [eA,cJ];lia
noncomputable def YI(K:ai):V->Option Int->Option Int->Hp->VK->Prop:=fun x lo hi H Q=>∃ a xs,x=.ref a/\xZ K H a xs /\
 ¬ (HT.jL xs.length 0 lo=0/\HT.jL xs.length xs.length hi=xs.length)/\∀ p,H p=none->Q (.ref p) (upd H p (.tup (Gu xs lo hi)))
theorem TQ:SlR X (YI X.K):=by
 intro pins s σ H x v vl vu lo hi sl Q I rx hs pl pu h;obtain⟨a,xs,rfl,hx,hw,q⟩:=h;cases rx;obtain⟨bZ,r,ht,hz⟩:=I.tuple hx;have hlen:bZ.toArray.size=xs.length:=by rw [bb]; exact r.length.symm
 refine⟨"tuple",_,PyProof.Rows.slot_tuple_getitem.lookup,ht.typeIs,?_⟩;refine HT.vq ht hs pl pu (by rw [hlen]; exact hw) ?_ (by rw [hlen]; exact hz);rw [hlen];refine⟨.ref s.heap.objs.size,_,I.laid (t':=s.toks) (o:=.tup (Gu xs lo hi)) (fun b ob q=>aM _ q) (aH _) ?_,rfl,q _ (I.cL.fresh (aH _))⟩;exact⟨aZ (xn xs lo hi) hz,_,(r.drop (HT.jL xs.length 0 lo)).take (HT.jL xs.length xs.length hi - HT.jL xs.length 0 lo),IsTup.new _ _⟩
noncomputable def YL(K:ai):R2:=fun x y H Q=>∃ a b ns ms,x=.ref a/\y=.ref b/\xZ K H a (ns.map V.int)/\xZ K H b (ms.map V.int)/\Q (.bl (HT.lexLt ns ms)) H
theorem Uh(hu:X.A.units < cLine):MR X (gu .Lt) (YL X.K):=by
 intro pins s σ H x y v u Q I rx ry h;obtain⟨a,b,ns,ms,rfl,rfl,ha,hb,q⟩:=h;cases rx;cases ry;obtain⟨bZ,r1,p1,_⟩:=I.tuple ha;obtain⟨wC,r2,p2,_⟩:=I.tuple hb;have i1:pb bZ.toArray.toList ns:=intsAre_of r1;have i2:pb wC.toArray.toList ms:=intsAre_of r2;exact HT.Io p1 p2 i1 i2 hu ⟨.bl (HT.lexLt ns ms),H,I,rfl,q⟩
noncomputable def VX(K:ai):R2:=fun x y H Q=>∃ a b xs ys,x=.ref a/\y=.ref b/\xZ K H a xs/\xZ K H b ys/\xs≠[]/\xs.length+ys.length<=bg /\
 (ys=[]->Q (.ref a) H)/\(ys≠[]->∀ p,H p=none->Q (.ref p) (upd H p (.tup (xs++ys))))
theorem Vals.CQ{xs:List V}{us:List Value}(r:Vals xs us):us=[]↔xs=[]:=by
 cases r with
 | nil=>simp
 | cons _ _=>simp
theorem Ro:MR X (jk .Add) (VX X.K):=by
 intro pins s σ H x y v u Q I rx ry h;obtain⟨a,b,xs,ys,rfl,rfl,ha,hb,hx,hz,q1,q2⟩:=h;cases rx;cases ry;obtain⟨bZ,r1,p1,_⟩:=I.tuple ha;obtain⟨wC,r2,p2,_⟩:=I.tuple hb;refine HT.R3 p1 p2 (fun z=>hx (r1.CQ.mp z)) (fun z=>⟨.ref a,H,I,rfl,q1 (r2.CQ.mp z)⟩) (fun z=>?_) (by rw [<-r1.length,<-r2.length]; exact hz);refine⟨.ref s.heap.objs.size,_,I.laid (t':=s.toks) (o:=.tup (xs++ys)) (fun b ob q=>aM _ q) (aH _) ?_,rfl,q2 (fun w=>z (r2.CQ.mpr w)) _ (I.cL.fresh (aH _))⟩;exact⟨by rw [aJ]; exact hz,_,r1.append r2,IsTup.new _ _⟩
end
noncomputable def Ku(n:Nat)(i:Int):Option Nat:=if 0<=i then (if i < n then some i.toNat else none) else if -(n:Int)<=i then some (i+n).toNat else none
noncomputable def qu{α:Type}(xs:List α)(i:Int):Option α:=(Ku xs.length i).bind fun j=>xs[j]?
theorem Kt{n:Nat}{i:Int}{j:Nat}(h:Ku n i=some j):seqIndex? i n=some j/\j < n/\-(n:Int)<=i/\i < n:=by
 unfold Ku at h;by_cases h0:0<=i
 ·rw [if_pos h0] at h;by_cases h1:i < n
  ·rw [if_pos h1] at h;have e:i.toNat=j:=bc h;exact⟨by rw [seqIndex_of h0 h1,e],by lia,by lia,h1⟩
  ·rw [if_neg h1] at h; cases h
 ·rw [if_neg h0] at h;by_cases h1:-(n:Int)<=i
  ·rw [if_pos h1] at h;have e:(i+n).toNat=j:=bc h;exact⟨by rw [seqIndex_neg (by lia) h1,e],by lia,h1,by lia⟩
  ·rw [if_neg h1] at h; cases h
theorem K7{α:Type}{xs:List α}{i:Int}{v:α}(h:qu xs i=some v):∃ j,seqIndex? i xs.length=some j/\xs[j]?=some v/\j < xs.length/\-(xs.length:Int)<=i/\i < xs.length:=by
 unfold qu at h;cases e:Ku xs.length i with
 | none=>rw [e] at h; cases h
 | some j =>
  rw [e] at h;obtain⟨h1,h2,h3,h4⟩:=Kt e;exact⟨j,h1,h,h2,h3,h4⟩
noncomputable def Sd(b:Expr):Prop:=∀ o i,subscripted b false o i=operate [o,i] (getItem o i)
noncomputable def IxR(X:Cx)(r:R2):Prop :=
 ∀ (value slice:Expr) (pins:List (Addr×Obj)) (s:aA) (σ:St) (H:Hp) (x y:V) (v u:Value) (Q:VK),Inv X pins σ H s->RelV x v->RelV y u->r x y H Q ->
  subscripted slice false v u=operate [v,u] (getItem v u)->wpAny (model X.prog X.w) X.A (subscriptTail value slice v u) (EP X pins σ Q) X.xe s
noncomputable def MtR(X:Cx)(id:String)(r:V->List V->Hp->VK->Prop):Prop :=
 ∀ (pins:List (Addr×Obj)) (s:aA) (σ:St) (H:Hp) (x:V) (xs:List V) (v:Value) (us:List Value) (Q:VK),Inv X pins σ H s->RelV x v->Vals xs us->r x xs H Q ->
  wpAny (model X.prog X.w) X.A (call (.builtin id) (v :: us)) (EP X pins σ Q) X.xe s
section
variable {X:Cx} {a b:Expr} {ta tb:TE} {pos:Pos}
noncomputable def YN(K:ai):R2:=fun x y H Q=>∃ p xs i v,x=.ref p/\y=.int i/\oZ K H p xs/\qu xs i=some v/\Q v H
noncomputable def YM(K:ai):R2:=fun x y H Q=>∃ p xs i v,x=.ref p/\y=.int i/\xZ K H p xs/\qu xs i=some v/\Q v H
theorem Ks:IxR X (YN X.K):=by
 intro value slice pins s σ H x y v u Q I rx ry h hs;obtain⟨p,xs,i,z,rfl,rfl,hq,he,q⟩:=h;cases rx;obtain⟨t,rfl⟩:=ry;obtain⟨bZ,r,pl,hz⟩:=I.list hq;obtain⟨j,h1,h2,h3,h4,h5⟩:=K7 he;obtain⟨w,ew,qA⟩:=r.get h2;have hl:=r.length;have hn:=zq;have fin:EP X pins σ Q w s:=⟨z,H,I,qA,q⟩;by_cases h0:0<=i
 ·have hj:i.toNat=j:=by
   rw [seqIndex_of h0 h5] at h1;exact bc h1
  exact item_listR pl.isList h0 (by lia) (by rw [hj]; simpa using ew) fin hs
 ·have hj:(i+(bZ.toArray.size:Int)).toNat=j:=by
   rw [seqIndex_neg (by lia) h4] at h1;rw [bb,<-hl];exact bc h1
  exact subscriptTail_builtinR (x:=w) pl.isList.typeIs slot_list_getitem.lookup
   (wpAny_getItem_list_neg (Q:=fun r s'=>r=w/\EP X pins σ Q r s') pl.isList (by lia) (by rw [bb] <;> lia) (by lia) (by rw [hj]; simpa using ew) ⟨rfl,fin⟩) hs
theorem Uz:IxR X (YM X.K):=by
 intro value slice pins s σ H x y v u Q I rx ry h hs;obtain⟨p,xs,i,z,rfl,rfl,hq,he,q⟩:=h;cases rx;obtain⟨t,rfl⟩:=ry;obtain⟨bZ,r,pl,hz⟩:=I.tuple hq;obtain⟨j,h1,h2,h3,h4,h5⟩:=K7 he;obtain⟨w,ew,qA⟩:=r.get h2;have hl:=r.length;have hn:=zq;have fin:EP X pins σ Q w s:=⟨z,H,I,qA,q⟩;exact subscriptTail_builtinR (x:=w) pl.typeIs slot_tuple_getitem.lookup
  (getItem_tuple (j:=j) (Q:=fun r s'=>r=w/\EP X pins σ Q r s') pl (by lia) (by lia) (by rw [bb,<-hl]; exact h1) (by simpa using ew) ⟨rfl,fin⟩) hs
theorem Im (bZ:List Value) (n j:Nat) (u:Value):ji (·.setIfInBounds j u) { cls:=.type "list",data:=.seq bZ.toArray n } = { cls:=.type "list",data:=.seq (bZ.set j u).toArray n }:=by
 simp [ji]
theorem Inv.lst{pins:List (Addr×Obj)}{σ:St}{H:Hp}{s:aA}{p:Addr}{xs:List V}(I:Inv X pins σ H s)(h:H p=some (.lst xs)) :
  ∃ (bZ:List Value) (n:Nat),Vals xs bZ/\s.heap.get? p=some { cls:=.type "list",data:=.seq bZ.toArray n }/\xs.length<=bg:=by
 obtain⟨z,bZ,n,r,e⟩:=I.cL p _ h;exact⟨bZ,n,r,e,z⟩
theorem Inv.Ur{pins:List (Addr×Obj)}{σ:St}{H:Hp}{s:aA}{p:Addr}{xs ys:List V}{bZ its':List Value}{n n':Nat}{f:Obj->Obj}(I:Inv X pins σ H s)(h:H p=some (.lst xs))
  (ho:s.heap.get? p=some { cls:=.type "list",data:=.seq bZ.toArray n }) (hf:f { cls:=.type "list",data:=.seq bZ.toArray n } = { cls:=.type "list",data:=.seq its'.toArray n' }) (r:Vals ys its') (hz:ys.length<=bg) (t:Nat) :
  Inv X pins σ (upd H p (.lst ys)) { s with heap:=s.heap.update p f,toks:=t }:=by
 have e:(s.heap.update p f).get? p=some { cls:=.type "list",data:=.seq its'.toArray n' }:=by
  rw [vT f ho (by rw [hf] <;> rfl),hf]
 refine I.write (x:=p) (e:=p) (by rw [h]; trivial) (.inl rfl) (fun b u hb q=>(NA _ _ (gm hb)).trans q) ⟨_,e⟩ ?_;exact⟨hz,its',n',r,e⟩
noncomputable def VT:V->V->V->Hp->(Hp->Prop)->Prop:=fun o i v H Q=>∃ p xs k j,o=.ref p/\i=.int k/\H p=some (.lst xs)/\Ku xs.length k=some j/\Q (upd H p (.lst (xs.set j v)))
theorem set_list:aaL X VT:=by
 intro pins s σ H o i v ov iv u Q I ro ri rv h;obtain⟨p,xs,k,j,rfl,rfl,hp,hj,q⟩:=h;cases ro;obtain⟨t,rfl⟩:=ri;obtain⟨bZ,n,r,ho,hz⟩:=I.lst hp;obtain⟨h1,h2,h3,h4⟩:=Kt hj;have hl:=r.length;have hn:=zq;have I':Inv X pins σ (upd H p (.lst (xs.set j v))) { s with heap:=s.heap.update p (ji (·.setIfInBounds j u)) } :=
  I.Ur hp ho (Im bZ n j u) (r.set rv j) (by rw [cK]; exact hz) s.toks
 by_cases h0:0<=k
 ·have hk:k.toNat=j:=by
   rw [seqIndex_of h0 h4] at h1;exact bc h1
  exact PySem.W.ki_setAt ho h0 (by lia) (by rw [bb,<-hl]; exact h4) (by rw [hk]; exact⟨_,I',q⟩)
 ·have hk:(k+(bZ.toArray.size:Int)).toNat=j:=by
   rw [seqIndex_neg (by lia) h3] at h1;rw [bb,<-hl];exact bc h1
  exact PySem.W.ki_setBack ho (by lia) (by rw [bb,<-hl]; exact h3) (by lia) (by rw [hk]; exact⟨_,I',q⟩)
theorem Ck(lo hi:Option Int)(n:Nat):(qG lo hi none n).1=((HT.jL n 0 lo:Nat):Int)/\(qG lo hi none n).2.1=((HT.jL n n hi:Nat):Int)/\(qG lo hi none n).2.2=1:=by
 refine⟨?_,?_,rfl⟩
 ·cases lo with
  | none=>simp [qG,HT.jL]
  | some i =>
   simp only [qG,HT.jL,A8,show (1:Int) > 0 by decide,if_true];by_cases h:i < 0
   ·simp only [h,if_true] <;> lia
   ·simp only [h,if_false] <;> lia
 ·cases hi with
  | none=>simp [qG,HT.jL]
  | some i =>
   simp only [qG,HT.jL,A8,show (1:Int) > 0 by decide,if_true];by_cases h:i < 0
   ·simp only [h,if_true] <;> lia
   ·simp only [h,if_false] <;> lia
theorem AI(bZ:List Value)(lo hi:Option Int):slicePick bZ.toArray lo hi none=((bZ.drop (HT.jL bZ.length 0 lo)).take (HT.jL bZ.length bZ.length hi - HT.jL bZ.length 0 lo)).toArray:=by
 obtain⟨h1,h2,h3⟩:=Ck lo hi bZ.toArray.size;unfold slicePick;rw [h1,h2,h3];simp only [sliceRange_one,pick_run,bb] <;> rfl
noncomputable def YJ(K:ai):V->Option Int->Option Int->Hp->VK->Prop:=fun x lo hi H Q=>∃ a xs,x=.ref a/\oZ K H a xs/\∀ p,H p=none->Q (.ref p) (upd H p (.lst (Gu xs lo hi)))
theorem JW:SlR X (YJ X.K):=by
 intro pins s σ H x v vl vu lo hi sl Q I rx hs pl pu h;obtain⟨a,xs,rfl,hx,q⟩:=h;cases rx;obtain⟨bZ,r,ht,hz⟩:=I.list hx;have hlen:=r.length;refine⟨"list",_,slot_list_getitem.lookup,ht.isList.typeIs,?_⟩;refine wpAny_getItem_list_slice ht.isList hs pl pu .none (by simp) ?_ (by rw [bb] <;> lia);rw [AI,<-hlen];refine⟨.ref s.heap.objs.size,_,I.laid (t':=s.toks) (o:=.lst (Gu xs lo hi)) (fun b ob q=>aM _ q) (aH _) ?_,rfl,q _ (I.cL.fresh (aH _))⟩;exact⟨aZ (xn xs lo hi) hz,_,0,(r.drop (HT.jL xs.length 0 lo)).take (HT.jL xs.length xs.length hi - HT.jL xs.length 0 lo),bH _ rfl⟩
theorem DI:Ql X (.type "list") (fun xs H Q=>∃ p ys,xs=[.ref p]/\(oZ X.K H p ys\/xZ X.K H p ys)/\∀ l,H l=none->Q (.ref l) (upd H l (.lst ys))):=by
 intro pins s σ H xs us Q I r h;obtain⟨p,ys,rfl,hq,q⟩:=h;obtain⟨u,rfl,rx⟩:=vals1 r;cases rx;have fin:∀ (bZ:List Value),Vals ys bZ->ys.length<=bg->∀ (h':Heap) (c':Nat),(∀ b o',s.heap.get? b=some o'->h'.get? b=some o') ->
   h'.get? s.heap.objs.size=some { cls:=.type "list",dict:=none,data:=.seq bZ.toArray c',slots:=#[] }->EP X pins σ Q (.ref s.heap.objs.size) { s with heap:=h' }:=fun bZ r' hz h' c' kp e =>
  ⟨.ref s.heap.objs.size,_,I.laid (t':=s.toks) kp (aH _) (show gc X.prog X.w _ h' _ (.lst ys) from⟨hz,bZ,c',r',e⟩),rfl,q _ (I.cL.fresh (aH _))⟩
 rcases hq with hq | hq
 ·obtain⟨bZ,r',pl,hz⟩:=I.list hq;have hlen:=r'.length;obtain⟨o,ho,hc,n,hd⟩:=pl.isList;exact call_list_seq p (.inl rfl) ho hc hd (fun h' c' kp e=>fin bZ r' hz h' c' kp e) (by simp only [bb] <;> lia)
 ·obtain⟨bZ,r',pl,hz⟩:=I.tuple hq;have hlen:=r'.length;obtain⟨o,ho,hc,n,hd⟩:=pl;exact call_list_seq p (.inr rfl) ho hc hd (fun h' c' kp e=>fin bZ r' hz h' c' kp e) (by simp only [bb] <;> lia)
theorem A2:Ql X (.type "tuple") (fun xs H Q=>∃ p ys,xs=[.ref p]/\((oZ X.K H p ys/\∀ l,H l=none->Q (.ref l) (upd H l (.tup ys)))\/(xZ X.K H p ys/\Q (.ref p) H))):=by
 intro pins s σ H xs us Q I r h;obtain⟨p,ys,rfl,h⟩:=h;obtain⟨u,rfl,rx⟩:=vals1 r;cases rx;rcases h with ⟨hq,q⟩ | ⟨hq,q⟩
 ·obtain⟨bZ,r',pl,hz⟩:=I.list hq;have hlen:=r'.length;refine call_tuple_list pl.isList (fun h' kp=>?_) (by simp only [bb] <;> lia);have I1:Inv X pins σ H { s with heap:=h' }:=I.kept (t':=s.toks) kp;have I2:Inv X pins σ (upd H h'.objs.size (.tup ys)) { s with heap:=h'.push { cls:=.type "tuple",data:=.seq bZ.toArray } } :=
   I1.laid (t':=s.toks) (fun b o e=>aM _ e) (aH _) (show gc X.prog X.w _ _ _ (.tup ys) from⟨hz,bZ,r',IsTup.new _ _⟩)
  exact⟨.ref h'.objs.size,_,I2,rfl,q _ (I1.cL.fresh (aH _))⟩
 ·obtain⟨bZ,r',pl,hz⟩:=I.tuple hq;exact call_tuple_same pl ⟨.ref p,H,I,rfl,q⟩
noncomputable def tyV(K:ai)(T:String)(x:V)(H:Hp):Prop:=match x with
 | .str _=>T = "str"
 | .int _=>T = "int"
 | .ref p=>(T = "list"/\∃ xs,oZ K H p xs)\/(T = "tuple"/\∃ o,K.lookup p=some o/\o.cls=.type "tuple"/\o.dict=none) \/
   (T = "dict"/\((∃ kvs,H p=some (.dK kvs))\/∃ kvs,H p=some (.dT kvs)))\/(T = "set"/\∃ S n,H p=some (.set S n))
 | _=>False
theorem Cf{pins:List (Addr×Obj)}{σ:St}{H:Hp}{s:aA}{T:String}{x:V}{v:Value}(I:Inv X pins σ H s)(r:RelV x v)(ty:tyV X.K T x H) :
  s.TypeIs v T/\∀ a,v=.ref a->∃ ob,s.heap.get? a=some ob/\ob.dict=none:=by
 cases x with
 | str z =>
  obtain⟨t,rfl⟩:=r;cases (show T = "str" from ty);exact⟨typeIs_str s z t,fun _ e=>nomatch e⟩
 | int i =>
  obtain⟨t,rfl⟩:=r;cases (show T = "int" from ty);exact⟨typeIs_int s i t,fun _ e=>nomatch e⟩
 | ref p =>
  cases r;rcases ty with ⟨rfl,xs,hq⟩ | ⟨rfl,o,hk,hc,hd⟩ | ⟨rfl,hk⟩ | ⟨rfl,S,n,hk⟩
  ·obtain⟨bZ,_,pl,_⟩:=I.list hq;refine⟨pl.isList.typeIs,fun a e=>?_⟩;cases e;obtain⟨o,n,e,c,hd,_⟩:=pl;exact⟨o,e,hd⟩
  ·refine⟨⟨o,I.Ko p o hk,hc⟩,fun a e=>?_⟩;cases e;exact⟨o,I.Ko _ o hk,hd⟩
  ·have z:∃ o,s.heap.get? p=some o/\o.ExactDict:=by
    rcases hk with ⟨kvs,hk⟩ | ⟨kvs,hk⟩
    ·obtain⟨_,_,_,_,o,_,_,e,ex,_⟩:=I.cL p _ hk;exact⟨o,e,ex⟩
    ·obtain⟨_,_,_,_,o,_,_,e,ex,_⟩:=I.cL p _ hk;exact⟨o,e,ex⟩
   obtain⟨o,e,ex⟩:=z;refine⟨⟨o,e,ex.1⟩,fun a e2=>?_⟩;cases e2;exact⟨o,e,ex.2.1⟩
  ·obtain⟨o,_,_,_,e,ex,_⟩:=I.cL p _ hk;refine⟨⟨o,e,ex.1⟩,fun a e2=>?_⟩;cases e2;exact⟨o,e,ex.2.1⟩
 | _=>exact bW ty
variable {o e:Expr} {es:List Expr} {to:TE} {t:TA} {name:Str} {apos kb:Pos} {T id:String} {r:V->List V->Hp->VK->Prop}
/- xs.append(e),list.index on a Wh tuple .. are MtR facts of 06m -/
end
noncomputable def MtM(X:Cx)(id:String)(r:V->List V->Hp->VK->Prop):Prop :=
 ∀ (pins:List (Addr×Obj)) (s:aA) (σ:St) (H:Hp) (x:V) (xs:List V) (v:Value) (us:List Value) (Q:VK),Inv X pins σ H s->RelV x v->Vals xs us->r x xs H Q ->
  wpAny (model X.prog X.w) X.A (call (.builtin id) (v :: us)) (EP X pins σ Q) X.xe s
theorem Vals.one:∀ {x:V} {us:List Value},Vals [x] us->∃ u,us=[u]/\RelV x u:=by
 intro x us h;cases h with
 | cons r t=>cases t; exact⟨_,rfl,r⟩
section
variable {X:Cx} {pins:List (Addr×Obj)} {σ:St} {H:Hp} {s:aA} {l b:Addr} {xs ys zs:List V}
theorem Inv.Wj{bZ its':List Value}{n:Nat}{f:Array Value->Array Value}{t':Nat}(I:Inv X pins σ H s)(hH:H l=some (.lst xs))
  (e:s.heap.get? l=some { cls:=.type "list",data:=.seq bZ.toArray n }) (hf:f bZ.toArray=its'.toArray) (hv:Vals ys its') (hz:ys.length<=bg) :
  Inv X pins σ (upd H l (.lst ys)) { s with heap:=s.heap.update l (ji f),toks:=t' }:=by
 have q:=PySem.IsL.update e f;rw [hf] at q;refine I.write (x:=l) (e:=l) (by rw [hH]; exact trivial) (.inl rfl) (fun b' u hb hu=>(NA s.heap (ji f) (gm hb)).trans hu) ⟨_,q⟩ ?_;exact⟨hz,its',_,hv,q⟩
theorem Inv.Zp{bZ:List Value}{t':Nat}(I:Inv X pins σ H s)(hv:Vals ys bZ)(hz:ys.length<=bg) :
  Inv X pins σ (upd H s.heap.objs.size (.lst ys)) { s with heap:=s.heap.push { cls:=.type "list",data:=.seq bZ.toArray },toks:=t' } :=
 I.laid (fun _ _ q=>aM _ q) (aH _) ⟨hz,bZ,0,hv,bH _ rfl⟩
theorem Inv.Wi (I:Inv X pins σ H s) (hH:H l=some (.lst xs)):xs.length<=bg/\∃ (bZ:List Value) (n:Nat),Vals xs bZ/\xs.length=bZ.length/\s.heap.get? l=some { cls:=.type "list",data:=.seq bZ.toArray n }:=by
 obtain⟨z,bZ,n,r,e⟩:=I.cL l _ hH;exact⟨z,bZ,n,r,r.length,e⟩
theorem OE{n:Nat}(h:n<=bg):jV n=false:=by
 unfold jV;exact decide_eq_false (by lia)
end
section
variable {X:Cx}
noncomputable def Q0:V->List V->Hp->VK->Prop:=fun x vs H Q=>∃ l xs y,x=.ref l/\vs=[y]/\H l=some (.lst xs)/\xs.length < bg/\Q .eU (upd H l (.lst (xs++[y])))
theorem Bu:MtM X "list.append" Q0:=by
 intro pins s σ H x vs v us Q I rx rv h;obtain⟨l,xs,y,rfl,rfl,hH,hz,q⟩:=h;cases rx;obtain⟨u,rfl,ru⟩:=rv.one;obtain⟨z,bZ,n,r,hl,e⟩:=I.Wi hH;refine Hl F.slot_list_append ⟨_,e,rfl⟩ F.entry_list_append (F.args_list_append_2 _ _) (PySem.list_append l bZ.toArray n u (by rw [bb]; lia)) ⟨e,?_⟩;refine⟨.eU,_,I.Wj (its':=bZ++[u]) hH e (by simp) (r.append (.cons ru .nil)) ?_,rfl,q⟩;rw [aJ,du];lia
end
section
variable {κ:Type} [DecidableEq κ]
noncomputable def lU(kvs:List (κ×V))(k:κ):Option V:=(kvs.find? fun kv=>decide (kv.1=k)).map (·.2)
noncomputable def putK(kvs:List (κ×V))(k:κ)(v:V):List (κ×V) :=
 if (kvs.any fun kv=>decide (kv.1=k))=true then kvs.map (fun kv=>if kv.1=k then (kv.1,v) else kv) else kvs++[(k,v)]
theorem qN{p:κ×V}{r:List (κ×V)}{k:κ}(e:p.1=k):lU (p :: r) k=some p.2:=by simp [lU,eN,e]
theorem qO{p:κ×V}{r:List (κ×V)}{k:κ}(e:¬ p.1=k):lU (p :: r) k=lU r k:=by simp [lU,eN,e]
theorem Eo(k:κ):∀ kvs:List (κ×V),(kvs.any fun kv=>decide (kv.1=k))=(lU kvs k).isSome
 | []=>rfl
 | p :: r=>by
  rw [lC];by_cases e:p.1=k
  ·simp only [qN e,decide_eq_true e,Bool.true_or,Option.isSome_some]
  ·rw [qO e,decide_eq_false e,M4]; exact Eo k r
theorem xh(kvs:List (κ×V))(k:κ)(v:V):(putK kvs k v).length<=kvs.length+1:=by
 unfold putK;split
 ·rw [au]; lia
 ·rw [aJ,aj,aC]; lia
theorem wQ.oQ{o:Option V}{u:Option Value}(r:wQ o u):o.isSome=u.isSome:=by
 cases o with
 | none=>cases u with
  | none=>rfl
  | some _=>exact(show False from r).elim
 | some _=>cases u with
  | none=>exact(show False from r).elim
  | some _=>rfl
theorem wQ.getD{o:Option V}{u:Option Value}{d:V}{d':Value}(r:wQ o u)(rd:RelV d d'):RelV (o.getD d) (u.getD d'):=by
 cases o with
 | none=>cases u with
  | none=>exact rd
  | some _=>exact(show False from r).elim
 | some _=>cases u with
  | none=>exact(show False from r).elim
  | some _=>exact r
theorem KV.val{kvs:List (κ×V)}{vs:List (κ×Value)}(r:KV kvs vs)(k:κ):wQ (lU kvs k) (Nm vs k):=by
 unfold KV at r;induction r with
 | nil=>exact gk
 | @cons p q ps qs h t ih =>
  obtain⟨h1,h2⟩:=h;by_cases e:p.1=k
  ·have e':q.1=k:=h1.symm.trans e;have b:Nm (q :: qs) k=some q.2:=by simp [Nm,eN,e']
   rw [qN e,b]; exact h2
  ·have e':¬ q.1=k:=fun z=>e (h1.trans z);have b:Nm (q :: qs) k=Nm qs k:=by simp [Nm,eN,e']
   rw [qO e,b]; exact ih
theorem KV.any{kvs:List (κ×V)}{vs:List (κ×Value)}(r:KV kvs vs)(k:κ):(kvs.any fun kv=>decide (kv.1=k))=vs.any fun kv=>decide (kv.1=k):=by
 unfold KV at r;induction r with
 | nil=>rfl
 | cons h t ih=>rw [lC,lC,ih,h.1]
theorem KV.N8{kvs:List (κ×V)}{vs:List (κ×Value)}(r:KV kvs vs)(k:κ){y:V}{u:Value}(ry:RelV y u) :
  KV (kvs.map fun kv=>if kv.1=k then (kv.1,y) else kv) (vs.map fun kv=>if kv.1=k then (kv.1,u) else kv):=by
 unfold KV at r ⊢;induction r with
 | nil=>exact .nil
 | @cons p q ps qs h t ih =>
  rw [ak,ak];refine .cons ?_ ih;obtain⟨h1,h2⟩:=h;by_cases e:p.1=k
  ·rw [if_pos e,if_pos (h1.symm.trans e)]; exact⟨h1,ry⟩
  ·rw [if_neg e,if_neg (fun z=>e (h1.trans z))]; exact⟨h1,h2⟩
theorem KV.put{kvs:List (κ×V)}{vs:List (κ×Value)}(r:KV kvs vs)(k:κ){y:V}{u:Value}(ry:RelV y u):KV (putK kvs k y) (stored vs k u):=by
 unfold putK stored;rw [r.any k];by_cases e:(vs.any fun kv=>decide (kv.1=k))=true
 ·rw [if_pos e,if_pos e]; exact r.N8 k ry
 ·rw [if_neg e,if_neg e]; exact Qo r ⟨rfl,ry⟩
theorem KV.length{kvs:List (κ×V)}{vs:List (κ×Value)}(r:KV kvs vs):kvs.length=vs.length:=iM r
end
theorem zv{P:bN}{w:World}{k:Key}{u:Value}(r:RelV (kV k) u):(cY P w).is k u=true:=by
 cases k with
 | inl i=>obtain⟨t,e⟩:=(show ∃ t,u=fV i t from r); subst e; exact Fh P w i t
 | inr x=>obtain⟨t,e⟩:=(show ∃ t,u=Value.str x t from r); subst e; exact Fg P w x t
theorem BD{P:bN}{w:World}:∀ {ks:List Key} {us:List Value},Vals (ks.map kV) us->ItemsAre (cY P w) ks us
 | [],_,r=>by rw [bq] at r; cases r; exact .nil
 | k :: ks,_,r=>by
  rw [ak] at r;cases r with
  | cons h t=>exact .cons (zv h) (BD t)
noncomputable abbrev KT(H:Hp):List (List Key×V)->List (List Key×Addr×Value)->Prop:=kF fun p q=>p.1=q.1/\H q.2.1=some (.tup (p.1.map kV))/\RelV p.2 q.2.2
theorem KT.val{H:Hp}{kvs:List (List Key×V)}{xs:List (List Key×Addr×Value)}(r:KT H kvs xs)(k:List Key):wQ (lU kvs k) ((atKey xs k).map (·.2)):=by
 induction r with
 | nil=>exact gk
 | @cons p q ps qs h t ih =>
  obtain⟨h1,_,h2⟩:=h;by_cases e:p.1=k
  ·have e':q.1=k:=h1.symm.trans e;have b:atKey (q :: qs) k=some q.2:=by simp [atKey,eN,e']
   rw [qN e,b]; exact h2
  ·have e':¬ q.1=k:=fun z=>e (h1.trans z);have b:atKey (q :: qs) k=atKey qs k:=by simp [atKey,eN,e']
   rw [qO e,b]; exact ih
theorem KT.N8{H:Hp}{kvs:List (List Key×V)}{xs:List (List Key×Addr×Value)}(r:KT H kvs xs)(k:List Key){y:V}{u:Value}(ry:RelV y u) :
  KT H (kvs.map fun kv=>if kv.1=k then (kv.1,y) else kv) (xs.map (putAt k u)):=by
 induction r with
 | nil=>exact .nil
 | @cons p q ps qs h t ih =>
  rw [ak,ak];refine .cons ?_ ih;obtain⟨h1,h2,h3⟩:=h;unfold putAt;by_cases e:p.1=k
  ·rw [if_pos e,if_pos (h1.symm.trans e)]; exact⟨h1,h2,ry⟩
  ·rw [if_neg e,if_neg (fun z=>e (h1.trans z))]; exact⟨h1,h2,h3⟩
theorem KT.put{H:Hp}{kvs:List (List Key×V)}{xs:List (List Key×Addr×Value)}(r:KT H kvs xs)(k:List Key){b:Addr}{y:V}{u:Value}(hb:H b=some (.tup (k.map kV)))(ry:RelV y u) :
  KT H (putK kvs k y) (Hg xs k b u):=by
 have e:(kvs.any fun kv=>decide (kv.1=k))=(atKey xs k).isSome:=by
  rw [Eo,(r.val k).oQ,Ap]
 unfold putK Hg;rw [e];by_cases q:(atKey xs k).isSome=true
 ·rw [if_pos q,if_pos q]; exact r.N8 k ry
 ·rw [if_neg q,if_neg q]; exact Qo r ⟨rfl,hb,ry⟩
theorem KT.keeps{H H':Hp}{kvs:List (List Key×V)}{xs:List (List Key×Addr×Value)}(r:KT H kvs xs)(ht:∀ b ys,H b=some (.tup ys)->H' b=some (.tup ys)):KT H' kvs xs :=
 Paired.Uq r fun _ _ z=>⟨z.1,ht _ _ z.2.1,z.2.2⟩
section
variable {P:bN} {w:World} {H:Hp} {h:Heap} {a:Addr}
theorem Sx{u:HO}(ok:qv P w H h)(e:Rd H a u):gc P w H h a u:=e.ok ok
theorem tF{kvs:List (Key×V)}(ok:qv P w H h)(e:Rd H a (.dK kvs)):kvs.length<=bg/\(a == dn)=false/\∃ vs,KV kvs vs/\h.DictOf (cY P w) a vs :=
 show gc P w H h a (.dK kvs) from Sx ok e
theorem BS{kvs:List (Key×V)}(ok:qv P w H h)(e:H a=some (.dK kvs)):kvs.length<=bg/\(a == dn)=false/\∃ vs,KV kvs vs/\h.DictOf (cY P w) a vs:=tF ok (.inl e)
theorem wB{ks:List Key}(ok:qv P w H h)(e:H a=some (.tup (ks.map kV))):(iW (cY P w)).is h ks a:=by
 obtain⟨_,bZ,r,o,h1,h2,n,h3⟩:=(show gc P w H h a (.tup (ks.map kV)) from ok a _ e);exact⟨o,bZ.toArray,n,h1,h2,h3,by simpa using BD r⟩
theorem zN{kvs:List (List Key×V)}(ok:qv P w H h)(e:Rd H a (.dT kvs)):kvs.length<=bg/\(a == dn)=false /\
  ∃ xs,KT H kvs xs/\h.DictOfH (iW (cY P w)) a xs:=by
 obtain⟨z,y,xs,r,o,es,ep,h1,h2,h3,h4,h5⟩:=(show gc P w H h a (.dT kvs) from Sx ok e);refine⟨z,y,xs,r,o,es,ep,h1,h2,h3,h4,fun x hx=>?_,h5⟩;have all:∀ {l:List (List Key×V)} {m:List (List Key×Addr×Value)},KT H l m->∀ x∈m,(iW (cY P w)).is h x.1 x.2.1:=by
  intro l m q;induction q with
  | nil=>intro x hx; exact nomatch hx
  | @cons p q ps qs hq t ih =>
   intro x hx;rcases List.mem_cons.mp hx with e | hx
   ·subst e;exact wB ok (by rw [<-hq.1]; exact hq.2.1)
   ·exact ih x hx
 exact all r x hx
theorem PQ{kvs:List (List Key×V)}(ok:qv P w H h)(e:H a=some (.dT kvs)):kvs.length<=bg/\(a == dn)=false /\
  ∃ xs,KT H kvs xs/\h.DictOfH (iW (cY P w)) a xs:=zN ok (.inl e)
end
noncomputable def Aj(H:Hp)(a:Addr)(y:V)(r:Option V):Prop :=
 (∃ kvs k,Rd H a (.dK kvs)/\y=kV k/\r=lU kvs k)\/∃ kvs k b,Rd H a (.dT kvs)/\y=.ref b/\H b=some (.tup (k.map kV))/\r=lU kvs k
noncomputable def MW(H:Hp)(a:Addr)(y v:V)(H':Hp):Prop :=
 (∃ kvs k,H a=some (.dK kvs)/\y=kV k/\kvs.length < bg/\H'=upd H a (.dK (putK kvs k v))) \/
 ∃ kvs k b,H a=some (.dT kvs)/\y=.ref b/\H b=some (.tup (k.map kV))/\kvs.length < bg/\H'=upd H a (.dT (putK kvs k v))
theorem Aj.k{H:Hp}{a:Addr}{kvs:List (Key×V)}{k:Key}(e:H a=some (.dK kvs)):Aj H a (kV k) (lU kvs k):=.inl ⟨kvs,k,.inl e,rfl,rfl⟩
theorem Aj.t{H:Hp}{a b:Addr}{kvs:List (List Key×V)}{k:List Key}(e:H a=some (.dT kvs))(eb:H b=some (.tup (k.map kV))):Aj H a (.ref b) (lU kvs k):=.inr ⟨kvs,k,b,.inl e,rfl,eb,rfl⟩
theorem MW.k{H:Hp}{a:Addr}{kvs:List (Key×V)}{k:Key}{v:V}(e:H a=some (.dK kvs))(hl:kvs.length < bg):MW H a (kV k) v (upd H a (.dK (putK kvs k v))):=.inl ⟨kvs,k,e,rfl,hl,rfl⟩
theorem MW.t{H:Hp}{a b:Addr}{kvs:List (List Key×V)}{k:List Key}{v:V}(e:H a=some (.dT kvs))(eb:H b=some (.tup (k.map kV)))(hl:kvs.length < bg) :
  MW H a (.ref b) v (upd H a (.dT (putK kvs k v))):=.inr ⟨kvs,k,b,e,rfl,eb,hl,rfl⟩
section
variable {X:Cx} {pins:List (Addr×Obj)} {σ:St} {H:Hp} {s:aA} {a:Addr} {y v:V} {u r:Value} {o:Option V} {A:dS} {E:Value->aA->Prop}
theorem Inv.big(I:Inv X pins σ H s):dn < s.heap.objs.size:=by
 have h:cb < s.heap.objs.size:=(I.mod.glob.keeps I.bk).lt;exact Nat.lt_trans (by decide) h
theorem wL{Q:Value->aA->Prop}(hu:A.units+1 < cLine)(I:Inv X pins σ H s)(g:Aj H a y (some v))(ry:RelV y u)(h:∀ w' s',Inv X pins σ H s'->RelV v w'->Q w' s') :
  wpAny (model X.prog X.w) A (getItem (.ref a) u) Q E s:=by
 rcases g with ⟨kvs,k,e,ey,l⟩ | ⟨kvs,k,b,e,ey,eb,l⟩
 ·subst ey;obtain⟨z,hd,vs,rel,dd⟩:=tF I.cL e;obtain⟨w',hw,qA⟩:=wQ.some_of (v:=v) (o:=Nm vs k) (by rw [l]; exact rel.val k);exact wpAny_getItem_of (zv ry) dd.mapOf hw (h w' _ (I.tok _) qA)
 ·subst ey;cases (show u=fU b from ry);obtain⟨z,hd,xs,rel,dd⟩:=zN I.cL e;obtain⟨w',hw,qA⟩:=wQ.some_of (v:=v) (o:=(atKey xs k).map (·.2)) (by rw [l]; exact rel.val k);obtain⟨p,hp,pP⟩:=Option.map_eq_some_iff.mp hw;refine wpAny_getItem_heap (mI hu) (wB I.cL eb) dd hp ?_;rw [pP];exact h w' _ (I.tok _) qA
theorem W6{Q:Value->aA->Prop}(hu:A.units+1 < cLine)(I:Inv X pins σ H s)(g:Aj H a y o)(ry:RelV y u)(h:∀ s',Inv X pins σ H s'->Q (.bool o.isSome) s') :
  wpAny (model X.prog X.w) A (gu .In u (.ref a)) Q E s:=by
 rcases g with ⟨kvs,k,e,ey,l⟩ | ⟨kvs,k,b,e,ey,eb,l⟩
 ·subst ey;obtain⟨z,hd,vs,rel,dd⟩:=tF I.cL e;refine wpAny_in_of (zv ry) hd dd.mapOf ?_;rw [<-(rel.val k).oQ,<-l];exact h _ (I.tok _)
 ·subst ey;cases (show u=fU b from ry);obtain⟨z,hd,xs,rel,dd⟩:=zN I.cL e;refine wpAny_in_heap (mI hu) (wB I.cL eb) hd dd ?_;have q:=(rel.val k).oQ;rw [Ap] at q;rw [<-q,<-l];exact h _ (I.tok _)
theorem KZ{Q:Value->aA->Prop}(hu:A.units+1 < cLine)(I:Inv X pins σ H s)(g:Aj H a y o)(ry:RelV y u)(h:∀ s',Inv X pins σ H s'->Q (.bool (!o.isSome)) s') :
  wpAny (model X.prog X.w) A (gu .NotIn u (.ref a)) Q E s:=by
 rcases g with ⟨kvs,k,e,ey,l⟩ | ⟨kvs,k,b,e,ey,eb,l⟩
 ·subst ey;obtain⟨z,hd,vs,rel,dd⟩:=tF I.cL e;refine wpAny_notIn_of (zv ry) hd dd.mapOf ?_;rw [<-(rel.val k).oQ,<-l];exact h _ (I.tok _)
 ·subst ey;cases (show u=fU b from ry);obtain⟨z,hd,xs,rel,dd⟩:=zN I.cL e;refine wpAny_notIn_heap (mI hu) (wB I.cL eb) hd dd ?_;have q:=(rel.val k).oQ;rw [Ap] at q;rw [<-q,<-l];exact h _ (I.tok _)
theorem sL{h':Heap}{t':Nat}{ob:HO}(I:Inv X pins σ H s)(mu:Xj (H a))(hs:fJ a s.heap h')(he:∃ q,h'.get? a=some q)(new:gc X.prog X.w (upd H a ob) h' a ob) :
  Inv X pins σ (upd H a ob) { s with heap:=h',toks:=t' } :=
 I.write (x:=a) (e:=a) mu (.inl rfl) (fun b q hb z=>(hs.2 b hb).trans z) he new
theorem Dy{P:bN}{w:World}{H':Hp}{h':Heap}{kvs:List (Key×V)}{vs:List (Key×Value)}(z:kvs.length<=bg)(hd:(a == dn)=false)(rel:KV kvs vs)(dd:h'.DictOf (cY P w) a vs) :
  gc P w H' h' a (.dK kvs):=⟨z,hd,vs,rel,dd⟩
theorem MC{H':Hp}{Q:Unit->aA->Prop}(hu:A.units+1 < cLine)(I:Inv X pins σ H s)(g:MW H a y v H')(ry:RelV y u)(rv:RelV v r)(h:∀ s',Inv X pins σ H' s'->Q () s') :
  wpAny (model X.prog X.w) A (setItem (.ref a) u r) Q E s:=by
 rcases g with ⟨kvs,k,e,ey,l,eH⟩ | ⟨kvs,k,b,e,ey,eb,l,eH⟩
 ·subst ey eH;obtain⟨z,hd,vs,rel,dd⟩:=BS I.cL e;have hz:vs.length<=bg:=by rw [<-rel.length]; exact z
  have hl:(putK kvs k v).length<=bg:=by have:=xh kvs k v; lia
  refine wpAny_setItem_pairs (hsz:=hz) (zv ry) dd fun h' BW hs=>h _ ?_;have he:∃ q,h'.get? a=some q:=let ⟨q,_,_,hq,_⟩:=BW; ⟨q,hq⟩
  exact sL I (by rw [e]; exact gk) hs he (Dy hl hd (rel.put k rv) BW)
 ·subst ey eH;cases (show u=fU b from ry);obtain⟨z,hd,xs,rel,dd⟩:=PQ I.cL e;have hz:xs.length<=bg:=by rw [<-iM rel]; exact z
  have hl:(putK kvs k v).length<=bg:=by have:=xh kvs k v; lia
  refine wpAny_setItem_heap (hsz:=hz) (mI hu) (wB I.cL eb) dd fun h' BW hs=>h _ ?_;obtain⟨q,es,ep,hq,h2,h3,h4,_,h5⟩:=BW;refine sL I (by rw [e]; exact gk) hs ⟨q,hq⟩ ⟨hl,hd,_,(rel.put k eb rv).keeps fun c ys ec=>?_,q,es,ep,hq,h2,h3,h4,h5⟩;rw [bX (SG ec e (fun z=>nomatch z))];exact ec
end
section
variable {X:Cx} {pins:List (Addr×Obj)} {σ:St} {H:Hp} {s:aA} {a:Addr} {kvs:List (Key×V)} {k:Key} {u:Value} {A:dS} {E:Value->aA->Prop}
theorem S7 {Q:Value->aA->Prop} (I:Inv X pins σ H s) (e:Rd H a (.dK kvs)) (h:∀ t s',Inv X pins σ H s'->Q (.int kvs.length t) s'):wpAny (model X.prog X.w) A (call (.builtin "len") [.ref a]) Q E s:=by
 obtain⟨z,hd,vs,rel,dd⟩:=tF I.cL e;refine call_len_dict hd dd (by rw [<-rel.length]; rw [c6] at z; lia) ?_;rw [<-rel.length];exact h _ _ (I.tok _)
theorem RU{Q:Bool->aA->Prop}(I:Inv X pins σ H s)(e:Rd H a (.dK kvs))(h:∀ s',Inv X pins σ H s'->Q (!kvs.isEmpty) s'):wpAny (model X.prog X.w) A (truthy (.ref a)) Q E s:=by
 obtain⟨z,hd,vs,rel,dd⟩:=tF I.cL e;refine Hf hd dd (by rw [<-rel.length]; rw [c6] at z; lia) ?_;have q:kvs.isEmpty=vs.isEmpty:=by cases rel <;> rfl
 rw [<-q];exact h _ (I.tok _)
end
theorem rN {X:Cx} {pins:List (Addr×Obj)} {σ:St} {H:Hp} {s:aA} {a:Addr} {y:V} {o:Option V} (I:Inv X pins σ H s) (g:Aj H a y o):s.TypeIs (.ref a) "dict":=by
 rcases g with ⟨kvs,k,e,_,_⟩ | ⟨kvs,k,b,e,_,_,_⟩
 ·obtain⟨_,_,vs,_,dd⟩:=tF I.cL e;exact dd.typeIs
 ·obtain⟨_,_,xs,_,dd⟩:=zN I.cL e;exact dd.typeIs
theorem Ge {P:bN} {w:World} {H:Hp} (h:Heap) (hb:dn < h.objs.size):gc P w H (h.push { cls:=.type "dict",data:=.dict #[] }) h.objs.size (.dK []) :=
 ⟨cQ _,beq_eq_false_iff_ne.mpr (gm (bQ hb)),[],.nil,Heap.DictOf.new h⟩
noncomputable def TF:TE:=fun _ H Q=>∀ p,H p=none->Q (.ref p) (upd H p (.dK []))
section
variable {X:Cx} {pos:Pos}
theorem Ot:PE X (.Dict [] [] pos) TF:=fun pins s σ H Q I h =>
 wpAny_Dict_empty ⟨.ref s.heap.objs.size,_,I.laid (a:=s.heap.objs.size) (o:=.dK []) (t':=s.toks) (fun _ _ q=>aM _ q) (aH _) (Ge s.heap I.big),rfl,h _ (I.cL.fresh (aH _))⟩
end
noncomputable abbrev VV:List (V×V)->List (Value×Value)->Prop:=kF fun p q=>RelV p.1 q.1/\RelV p.2 q.2
noncomputable def Il(kvs more:List (Key×V)):List (Key×V):=more.foldl (fun acc kv=>putK acc kv.1 kv.2) kvs
theorem KV.merge:∀ {more:List (Key×V)} {rs:List (Key×Value)} {kvs:List (Key×V)} {vs:List (Key×Value)},KV more rs->KV kvs vs->KV (Il kvs more) (merged vs rs):=by
 intro more rs kvs vs r;unfold KV at r;induction r generalizing kvs vs with
 | nil=>intro q; exact q
 | @cons p q ps qs h t ih =>
  intro r0;have e:KV (putK kvs p.1 p.2) (stored vs q.1 q.2):=by
   have:=r0.put p.1 h.2;rw [<-h.1]; exact this
  exact ih e
theorem zU{P:bN}{w:World}:∀ {kvs:List (Key×V)} {ws:List (Value×Value)},VV (kvs.map fun kv=>(kV kv.1,kv.2)) ws->∃ rs,Carries (cY P w) ws rs/\KV kvs rs
 | [],_,r=>by rw [bq] at r; cases r; exact⟨[],gk,.nil⟩
 | p :: kvs,_,r=>by
  rw [ak] at r;cases r with
  | @cons a b as bs h t =>
   obtain⟨rs,c,q⟩:=zU (P:=P) (w:=w) t;obtain⟨b1,b2⟩:=b;exact⟨(p.1,b2) :: rs,⟨zv h.1,rfl,c⟩,.cons ⟨rfl,h.2⟩ q⟩
structure M1(X:Cx)(o:Expr)(m:Str)(apos:Pos)(e:Expr)(kb:Pos):Prop where
 base:qw o m X.env (eval o X.env)=eval o X.env
 AR:((qI kb (c8 [e] X.env)).all (fun x=>!x.1)&&(backToKw kb (keywordEach [] X.env)).all (fun x=>x.1.isSome)
  && decide (([e]:List Expr).length+([]:List Nz).length+(if ([]:List Nz).isEmpty then 0 else 1) < 30))=true
 line:(apos.endLine == kb.line)=true
 trees:qI kb (c8 [e] X.env)=[(false,eval e X.env)]
structure M2(X:Cx)(o:Expr)(m:Str)(apos:Pos)(e f:Expr)(kb:Pos):Prop where
 base:qw o m X.env (eval o X.env)=eval o X.env
 AR:((qI kb (c8 [e,f] X.env)).all (fun x=>!x.1)&&(backToKw kb (keywordEach [] X.env)).all (fun x=>x.1.isSome)
  && decide (([e,f]:List Expr).length+([]:List Nz).length+(if ([]:List Nz).isEmpty then 0 else 1) < 30))=true
 line:(apos.endLine == kb.line)=true
 trees:qI kb (c8 [e,f] X.env)=[(false,eval e X.env),(false,eval f X.env)]
noncomputable def IsD(H:Hp)(a:Addr):Prop:=(∃ kvs,Rd H a (.dK kvs))\/∃ kvs,Rd H a (.dT kvs)
theorem O6{X:Cx}{pins:List (Addr×Obj)}{σ:St}{H:Hp}{s:aA}{a:Addr}(I:Inv X pins σ H s)(d:IsD H a) :
  s.TypeIs (.ref a) "dict"/\(∀ b,fU a=.ref b->∃ ob,s.heap.get? b=some ob/\ob.dict=none)/\(a == dn)=false:=by
 rcases d with ⟨kvs,e⟩ | ⟨kvs,e⟩
 ·obtain⟨_,hd,vs,_,dd⟩:=tF I.cL e;refine⟨dd.typeIs,fun b q=>?_,hd⟩;cases q;obtain⟨ob,_,_,h1,h2,_⟩:=dd;exact⟨ob,h1,h2.2.1⟩
 ·obtain⟨_,hd,xs,_,dd⟩:=zN I.cL e;refine⟨dd.typeIs,fun b q=>?_,hd⟩;cases q;obtain⟨ob,_,_,h1,h2,_⟩:=dd;exact⟨ob,h1,h2.2.1⟩
end L2
namespace Att
open PySem PySem.W PySem.Calls PyProof.Rows
theorem xx{P:Params}{h:Heap}:∀ (ns:List Int) (vs:List Value),WellAll P h vs (ns.map WData.int)->pb vs ns:=by
 intro ns;induction ns with
 | nil =>
  intro vs w;rw [bq] at w;cases w;exact .nil
 | cons n ns ih =>
  intro vs w;rw [ak] at w;cases w with
  | cons a b =>
   cases a;exact .cons _ _ (ih _ b)
theorem LA{l:OpenLaw}{n:Nat}(hn:l.most=some n){P:Params}{h:Heap}{args:List WData}{vals:List Value}
  (RG:l.row.toRowW.claim.pre args=true) (ZI:WellAll P h vals args) :
  ∃ a vs ns,vals=[fU a]/\args=[WData.list (ns.map WData.int)]/\h.get? a=some { cls:=.type "list",data:=.seq vs.toArray }/\pb vs ns/\ns.length<=n:=by
 have hsh:WShape.hasAll [] args [.list .int]=true:=(pre_splitW RG).1;have hc:l.pre.holds [] { args:=args } = true:=(pre_splitW RG).2;obtain⟨d,r,rfl,h1,h2⟩:=hasAllW_cons hsh;obtain rfl:=hasAllW_nil h2;obtain⟨xs,rfl,h3⟩:=hasW_list h1;obtain⟨ns,rfl⟩:=items_int h3;have hlen:ns.length<=n:=by
  unfold OpenLaw.pre at hc;have h4:(WTm.not (.lt (.lit (.int (n:Int))) (.len (.arg 0)))).holds [] { args:=[.list (ns.map .int)] } = true:=by
   have h4:=(holds_andW hc).1;rw [hn] at h4;exact h4
  have h5:=condW_of h4 (w_not (w_lt w_lit (w_len_list (w_arg rfl))));rw [au] at h5;refine Nat.le_of_not_lt fun q=>?_;have q':(n:Int) < ((ns.length:Nat):Int):=by lia
  first
   | (rw [decide_eq_true q'] at h5; exact absurd h5 (by decide))
   | (simp at h5; lia)
 cases ZI with
 | cons w1 w2 =>
  cases w2;cases w1 with
  | list ho AN=>exact⟨_,_,ns,rfl,rfl,ho,xx ns _ AN,hlen⟩
theorem LO(l:OpenLaw)(args:List WData):l.row.toRowW.claim.post args (.bool true) args=true :=
 postW_of (r:=l.row.toRowW) (X:=(true == true))
  (show WShape.has [] (.bool true) .bool=true by first | rfl | decide | simp [WShape.has,WShape.arms,WShape.armsAll])
  (show (WTm.eq .res (.lit (.bool true))).value [] { args:=args,res:=some (.bool true),after:=args } = some (.bool (true == true)) from w_eq_bool (w_res rfl) w_lit) rfl
theorem GC{l:OpenLaw}{n:Nat}{q:bN}{loose:List Str}{XP:(Str->Option Value)->Heap->Prop}{YP:World->Heap->Prop}{d:DefRec}
  (hn:l.most=some n) (WQ:d.params.defaults=[])
  (call:∀ (w:World) (nF fX:aA) (mg mb:Str->Option Value) (fa:Addr) (o:Obj) (pm cd doc:Value) (a:Addr) (vs:List Value) (ns:List Int),
   Ground q loose [] XP w nF mg mb fX.heap->YP w fX.heap ->
   fX.heap.get? fa=some o->o.data=.func (docDef d.name d.params d.body d.scope pm cd doc)->fX.heap.CodeRec cd d.name->mg d.name=some (.ref fa) ->
   fX.heap.get? a=some { cls:=.type "list",data:=.seq vs.toArray }->pb vs ns->ns.length<=n->fX.gens=#[] ->
   Hj (model l.prog w) Hk (.call (.ref fa) ⟨[.ref a],[]⟩) (fun r s'=>r=.ok (.ret (.bool true))/\OldK fX.heap s'.heap/\s'.os=fX.os/\Cb s'.gens) fX) :
  WalkO q loose XP YP l.row.toRowW d [] (fun f vs=>JA f vs):=by
 intro w nF fX mg mb G Y fa o pm cd doc dV kV ho hd KA hD WG hg args vals as RG adH hrd ZI hlo;obtain rfl:dV=.none:=Dflts.none hD WQ;obtain rfl:kV=.none:=Dflts.noKw hD;obtain⟨a,vs,ns,rfl,rfl,UB,hints,hlen⟩:=LA hn RG ZI;refine enter_call (codeAny_mono (call w nF fX mg mb fa o pm cd doc a vs ns G Y ho (fd_plain hd) KA WG UB hints hlen hg) fun r s' hq=>?_);obtain⟨rfl,h2,h3,h4⟩:=hq;exact⟨.inl ⟨.bool true,.bool true,[],rfl,fun _=>rfl,.bool true,LO l _,fun _=>⟨List.Pairwise.nil,fun _ hm=>(nomatch hm)⟩⟩,h2,h3,h4⟩
end Att
namespace L2
open PySem PySem.Spec PyProof.Rows
theorem Ba:∀ {vs:List Value} {ns:List Int},pb vs ns->Vals (ns.map V.int) vs
 | _,_,.nil=>.nil
 | _,_,.cons n t h=>.cons ⟨t,rfl⟩ (Ba h)
noncomputable def Sg(H:Hp):Prop:=∀ b,H b=none\/∃ o xs,H b=some (.kd o (.lst xs))
theorem OT{P:bN}{w:World}{K:ai}{mg mb:Str->Option Value}{CX:MX}{k:Nat}{fa a:Addr}{fd:aI}{x:Str}{sp:Sp}{fX:aA}{vs:List Value}{ns:List Int}
  (KX:K.In fX.heap) (Qy:fX.heap.Ns cb mg) (hb:fX.heap.Ns builtinsNs mb) (hbb:∀ x:Str,x≠"__name__"->mb x=eX x) (Z2:fX.heap.NoLimit) (hg:fX.gens=#[])
  (ha:fX.heap.get? a=some { cls:=.type "list",data:=.seq vs.toArray }) (hi:pb vs ns) (hl:ns.length<=bg) (hr:nq k Hk)
  (F:∀ base:Heap,K.In base->base.Ns cb mg->gf P w K mg base CX k fa fd [x] sp) (WU:∀ (s:aA) (u:Value),NB s fd ⟨[u],[]⟩ [(x,u)])
  (SR:∀ H:Hp,Sg H->oZ K H a (ns.map V.int)->sp [.ref a] H (fun v _=>v=.bl true) fun _ _ _=>False)
  (hCX:∀ H e s',CX [] H fX (fun _ _ _=>False) e s'->False) :
  Hj (model P w) Hk (.call (.ref fa) ⟨[.ref a],[]⟩) (fun r s'=>r=.ok (.ret (.bool true))/\OldK fX.heap s'.heap/\s'.os=fX.os/\Cb s'.gens) fX:=by
 have rv:=Ba hi;have Zr:=hi.length;have core:∀ H:Hp,Sg H->oZ K H a (ns.map V.int)->qv P w H fX.heap->(∀ b,H b≠none->b=a)->(H a≠none->K.lookup a=none) ->
   Hj (model P w) Hk (.call (.ref fa) ⟨[.ref a],[]⟩) (fun r s'=>r=.ok (.ret (.bool true))/\OldK fX.heap s'.heap/\s'.os=fX.os/\Cb s'.gens) fX:=by
  intro H hO hS cL hA hK;have K6:∀ {b:Addr} {o:Obj},fX.heap.get? b=some o->H b=none->(C6 fX.heap H).get? b=some o:=fun e n=>Pp e n;have We:∀ {b:Addr} {o:Obj} {es:Array fE} {ep:Nat},fX.heap.get? b=some o->o.data=.dict es ep->H b=none:=fun {b o es ep} e d=>by
   cases q:H b with
   | none=>rfl
   | some u =>
    have e':b=a:=hA b (by rw [q]; simp);subst e';rw [ha] at e; cases e;have d':Data.seq vs.toArray _=Data.dict es ep:=d;cases d'
  have XA:∀ {b:Addr} {m:Str->Option Value},fX.heap.Ns b m->(C6 fX.heap H).Ns b m:=fun {b m} ⟨o,es,ep,e,d,r⟩=>⟨o,es,ep,K6 e (We e d),d,r⟩;have hKb:K.In (C6 fX.heap H):=fun b o e=>K6 (KX b o e) (by
   cases q:H b with
   | none=>rfl
   | some u =>
    have e':b=a:=hA b (by rw [q]; simp);subst e';rw [hK (by rw [q]; simp)] at e; cases e)
  have hM:Mod K mg (C6 fX.heap H):=⟨hKb,XA Qy,⟨mb,XA hb,hbb⟩,let ⟨mc,h1,h2⟩:=Z2; ⟨mc,XA h1,h2⟩⟩;have e0:Si P w K mg (C6 fX.heap H) Hk [] fX H:=⟨rfl,hM,fun b o e=>Ru e,Nat.le_of_eq (Mi _ _),trivial,fun b hb=>absurd (show b∈([]:List Addr) from hb) (by simp),cL,.of_eq hg⟩;refine codeAny_mono ((F _ hKb (XA Qy)).run Hk [] fX H ⟨[.ref a],[]⟩ [.ref a] [.ref a] _ _ hr e0 (WU fX (.ref a)) (.cons rfl .nil) (SR H hO hS)) fun r s' h=>?_;cases r with
  | error e=>exact(hCX H e s' h).elim
  | ok fl =>
   cases fl with
   | next=>exact bW h
   | brk=>exact bW h
   | cont=>exact bW h
   | ret u =>
    obtain⟨v,H',os,bare,un,ZW,r',q⟩:=h;have q':v=.bl true:=q;subst q';obtain rfl:u=Value.bool true:=r';refine⟨rfl,OldK.of_keep fun b o e=>?_,os,bare⟩;cases q:H b with
    | none=>exact un.keep b o e q (by intro z; exact absurd (show b∈([]:List Addr) from z) (by simp)) (by simp)
    | some u =>
     rcases hO b with z | ⟨ob,xs,z⟩
     ·rw [q] at z; cases z
     ·have z2:=un.zD b ob _ z;obtain⟨e1,_⟩:=cL b _ z;obtain⟨e2,_⟩:=ZW b _ z2;rw [e] at e1; cases e1;exact e2
 cases hk:K.lookup a with
 | some o =>
  have e:=KX a o hk;rw [ha] at e;cases e;refine core (fun _=>none) (fun _=>.inl rfl) (.inr ⟨_,vs.toArray,_,hk,rfl,rfl,rfl,by rw [bb,Zr]; exact hl,by simpa using rv⟩) (fun b u z=>by have z':(none:Option HO)=some u:=z; cases z') (fun b z=>absurd rfl z) fun z=>absurd rfl z
 | none =>
  refine core (fun b=>if b=a then some (.kd { cls:=.type "list",data:=.seq vs.toArray } (.lst (ns.map V.int))) else none) (fun b=>?_) (.inl (.inr ⟨{ cls:=.type "list",data:=.seq vs.toArray },if_pos rfl⟩)) (fun b u z=>?_) (fun b z=>?_) fun _=>hk
  ·by_cases hb:b=a
   ·exact .inr ⟨_,_,if_pos hb⟩
   ·exact .inl (if_neg hb)
  ·by_cases hb:b=a
   ·have z':=(if_pos hb).symm.trans z;cases z';subst hb;exact⟨ha,by rw [au]; exact hl,vs,_,rv,ha⟩
   ·have z':=(if_neg hb).symm.trans z;cases z'
  ·by_cases hb:b=a
   ·exact hb
   ·exact absurd (if_neg hb) z
theorem QM{l:B9}{n k:Nat}{q:bN}{loose:List Str}{XP:(Str->Option Value)->Heap->Prop}{YP:World->Heap->Prop}{d:DefRec}{K:Params->ai}{CX:World->MX}{sp:World->Sp}{x:Str}
  (hn:l.most=some n) (hn2:n<=bg) (WQ:d.params.defaults=[]) (hr:nq k Hk)
  (hY:∀ (w:World) (h:Heap),YP w h->(K w.params).In h)
  (F:∀ (w:World) (mg:Str->Option Value) (fa:Addr) (h:Heap),(K w.params).In h->h.Ns cb mg->mg d.name=some (.ref fa) ->
   ∃ fd:aI,(∀ (s:aA) (u:Value),NB s fd ⟨[u],[]⟩ [(x,u)]) /\
    ∀ base:Heap,(K w.params).In base->base.Ns cb mg->gf l.prog w (K w.params) mg base (CX w) k fa fd [x] (sp w))
  (SR:∀ (w:World) (H:Hp) (a:Addr) (ns:List Int),ns.length<=n->Sg H->oZ (K w.params) H a (ns.map V.int)->sp w [.ref a] H (fun v _=>v=.bl true) fun _ _ _=>False)
  (hCX:∀ (w:World) (H:Hp) (s:aA) (e:Value) (s':aA),CX w [] H s (fun _ _ _=>False) e s'->False) :
  PySem.W.WalkO q loose XP YP l.row.toRowW d [] (fun f vs=>JA f vs):=by
 refine Att.GC hn WQ fun w nF fX mg mb fa o pm cd doc a vs ns G Y ho hd KA WG UB hints hlen hg=>?_;have KX:=hY w _ Y;obtain⟨fd,hb,hF⟩:=F w mg fa _ KX G.T.g WG;exact OT KX G.T.g G.T.b G.T.builtins G.T.nolimit hg UB hints (aZ hlen hn2) hr hF hb (fun H hO hS=>SR w H a ns hlen hO hS) fun H e s'=>hCX w H fX e s'
end L2
/- THE afC X3 (shape; LID,My.* are aaU):
   My.Adr: a structure of Yw addresses ack acf abl names (classes,Vr); My.Txt K t: a structure (Prop) of Yw equations over K;
   My.Yv:{K} {implicit addresses ..} (e1:nsIn K cb "law" = some (some (.ref f))) (e2:K.lookup f=some ⟨oc,od,.func (fnOf "law" "law" params body scope dV kV doc pm an oY ct),sl⟩) (e3:codeIn K oY "law" = true) ..:∃ t,My.Txt K t
(Yw tactic k_is has no namespace: write k_is) -/
namespace L2
open PySem PySem.Spec PyProof.Rows
noncomputable def nQ(s:Stmt):Arguments:=match s with
 | .FunctionDef _ a _ _ _ _ _ _ _ _=>a
 | _=>{ posonlyargs:=[],args:=[],vararg:=none,kwonlyargs:=[],kw_defaults:=[],kwarg:=none,defaults:=[] }
noncomputable def kA(s:Stmt):List Stmt:=match s with
 | .FunctionDef _ _ b _ _ _ _ _ _ _=>b
 | _=>[]
noncomputable def bo(s:Stmt):Scope:=match s with
 | .FunctionDef _ _ _ _ _ _ sc _ _ _=>sc
 | _=>{ kind:=.function,names:=[],isGenerator:=false,isCoroutine:=false }
noncomputable abbrev gi:MX:=fun _ _ _ _ _ _=>False
noncomputable abbrev E0:XK:=fun _ _ _=>False
theorem V2{X:Cx}:Passes gi X E0:=fun _ _ _ _ _ _ _ h=>h.elim
structure oy(K:ai)(x qual:Str)(st:Stmt)(f:Addr)(fd:aI):Prop where
 ex:∃ (oc:Value) (od:Option Addr) (kV doc pm:Value) (an:Option Addr) (oY ct:Value) (Oz:Array (Option Value)),
  fd=kD x qual (nQ st) (kA st) (bo st) .none kV doc pm an oY ct/\K.lookup f=some ⟨oc,od,.func fd,Oz⟩/\Ef K oY qual=true
 kp:lJ K (.ref f)=true
section
variable {P:bN} {w:World} {K:ai} {mg:Str->Option Value} {base:Heap}
theorem oy.ok{x qual:Str}{st:Stmt}{f:Addr}{fd:aI}{N ps:List Str}{k:Nat}{sp:Sp}(F:oy K x qual st f fd)(S:cD N ps (bo st))(len:∀ vs H Q E,sp vs H Q E->vs.length=ps.length)
  (Pt:∀ (oY:Value) (A:dS) (outer:List Env) (s:aA) (H:Hp) (vs:List V) (Q:VK) (E:XK),nq k (A.deeper (Ee qual (bo st) s.heap.objs.size f oY))->sp vs H Q E ->
   ∃ t,Vv (Gs gi P w K mg base N qual (bo st) f oY A outer s H E).Vj (kA st) t/\t { nx:=fun _ H'=>Q .eU H',rt:=Q } (start N vs) H):gf P w K mg base gi (k+1) f fd ps sp:=by
 obtain⟨oc,od,kV,doc,pm,an,oY,ct,Oz,rfl,lk,KA⟩:=F.ex;refine WZ lk KA S len fun A outer s H vs Q E hr SR=>?_;obtain⟨t,h,q⟩:=Pt oY A outer s H vs Q E hr SR;exact⟨t,h.Vj,q⟩
theorem oy.binds{x qual:Str}{st:Stmt}{f:Addr}{fd:aI}{ps:List Str}(F:oy K x qual st f fd)
  (h:∀ (kV doc pm:Value) (an:Option Addr) (oY ct:Value) (us:List Value),us.length=ps.length->bindArgs (kD x qual (nQ st) (kA st) (bo st) .none kV doc pm an oY ct) ⟨us,[]⟩=pure (ps.zip us)):Binds K fd ps []:=by
 obtain⟨oc,od,kV,doc,pm,an,oY,ct,Oz,rfl,lk,KA⟩:=F.ex;exact .all (h kV doc pm an oY ct)
theorem UP{x qual:Str}{st:Stmt}{f:Addr}{oc:Value}{od an:Option Addr}{Oz:Array (Option Value)}{kV doc pm oY ct:Value}(l:K.lookup f=some ⟨oc,od,.func (kD x qual (nQ st) (kA st) (bo st) .none kV doc pm an oY ct),Oz⟩)
  (c:Ef K oY qual=true) (k:lJ K (.ref f)=true):oy K x qual st f (kD x qual (nQ st) (kA st) (bo st) .none kV doc pm an oY ct):=⟨⟨oc,od,kV,doc,pm,an,oY,ct,Oz,rfl,l,c⟩,k⟩
end
end L2
set_option autoImplicit false
section
namespace K2
open PySem (Str)
noncomputable abbrev PK:=List (List (List Int))
inductive D where
 | eU | bl (b:Bool) | int (i:Int) | str (x:Str) | tup (ds:List D) | dQ (ds:List D) | kI (kvs:List (D×D)) | ref (a:Nat) | exc (c:Str) | Ga (c:Str) (ns:List Str) (ds:List D) | oE (kvs:List (PK×D))
 deriving Inhabited
inductive GO where
 | lst (ds:List D)
 | gF (kvs:List (D×D))
 | ins (c:Str) (fs:List (Str×D))
 | sJ (kvs:List (PK×D))
noncomputable abbrev Gp:=Nat->Option GO
noncomputable def eY(G:Gp)(a:Nat)(o:GO):Gp:=fun b=>if b=a then some o else G b
theorem az{G:Gp}{a:Nat}{o:GO}:eY G a o a=some o:=by unfold eY; rw [if_pos rfl]
theorem cF{G:Gp}{a b:Nat}{o:GO}(h:b≠a):eY G a o b=G b:=by unfold eY; rw [if_neg h]
noncomputable abbrev SZ:Nat:=16777216
structure Ex where
 cls:Str
 aei:List (Str×D)
noncomputable abbrev mw:=Ex->Gp->Prop
noncomputable abbrev iQ:=List (Option D)
noncomputable abbrev DK:=D->Gp->Prop
noncomputable abbrev gI:=mw->iQ->Gp->DK->Prop
noncomputable abbrev xp:=mw->iQ->Gp->(Bool->Gp->Prop)->Prop
noncomputable abbrev Jm:=mw->iQ->Gp->(List D->Gp->Prop)->Prop
structure lP where
 nx:iQ->Gp->Prop
 rt:DK
 bk:iQ->Gp->Prop
 ct:iQ->Gp->Prop
noncomputable abbrev iE:=mw->lP->iQ->Gp->Prop
noncomputable abbrev lO:=List D->Gp->DK->mw->Prop
noncomputable abbrev A3:=D->D->Gp->DK->Prop
noncomputable def Ku(n:Nat)(i:Int):Option Nat:=if 0<=i then (if i < n then some i.toNat else none) else if -(n:Int)<=i then some (i+n).toNat else none
noncomputable def qu{α:Type}(xs:List α)(i:Int):Option α:=(Ku xs.length i).bind fun j=>xs[j]?
noncomputable def jL(n d:Nat):Option Int->Nat
 | none=>d
 | some v=>if v < 0 then (v+(n:Int)).toNat else min v.toNat n
noncomputable def cut{α:Type}(xs:List α)(lo hi:Option Int):List α:=(xs.drop (jL xs.length 0 lo)).take (jL xs.length xs.length hi - jL xs.length 0 lo)
mutual
noncomputable def iN:D->D->Bool
 | .eU,.eU=>true
 | .bl a,.bl b=>a == b
 | .bl a,.int b=>(if a then 1 else 0) == b
 | .int a,.bl b=>a == (if b then 1 else 0)
 | .int a,.int b=>a == b
 | .str a,.str b=>a == b
 | .tup a,.tup b=>k9 a b
 | .dQ a,.dQ b=>k9 a b
 | _,_=>false
noncomputable def k9:List D->List D->Bool
 | [],[]=>true
 | a :: r,b :: t=>iN a b&&k9 r t
 | _,_=>false
end
mutual
noncomputable def nr:D->Bool
 | .ref _=>false
 | .exc _=>false
 | .Ga _ _ _=>false
 | .kI _=>false
 | .oE _=>false
 | .str x=>x.cps.all (· < 0x110000)
 | .tup ds=>qj ds
 | .dQ ds=>qj ds
 | _=>true
noncomputable def qj:List D->Bool
 | []=>true
 | d :: r=>nr d&&qj r
end
class inductive Sn (G:Gp):Nat->D->D->Prop
 | eU {n:Nat}:Sn G n .eU .eU
 | bl {n:Nat} (b:Bool):Sn G n (.bl b) (.bl b)
 | int {n:Nat} (i:Int):Sn G n (.int i) (.int i)
 | str {n:Nat} (x:Str) (h:x.cps.all (· < 0x110000)=true):Sn G n (.str x) (.str x)
 | HD {n:Nat}:Sn G (n+1) (.tup []) (.tup [])
 | qR {n:Nat} {d s:D} {ds ss:List D}:Sn G n d s->Sn G (n+1) (.tup ds) (.tup ss)->Sn G (n+1) (.tup (d :: ds)) (.tup (s :: ss))
 | LG {n:Nat}:Sn G (n+1) (.dQ []) (.dQ [])
 | Bm {n:Nat} {d s:D} {ds ss:List D}:Sn G n d s->Sn G (n+1) (.dQ ds) (.dQ ss)->Sn G (n+1) (.dQ (d :: ds)) (.dQ (s :: ss))
 | ref {n:Nat} {a:Nat} {ds ss:List D}:G a=some (.lst ds)->Sn G n (.dQ ds) (.dQ ss)->Sn G n (.ref a) (.dQ ss)
noncomputable abbrev SN:Nat:=8
theorem Sn.nr{G:Gp}{n:Nat}{d t:D}(h:Sn G n d t):K2.nr t=true:=by
 induction h with
 | eU=>rfl
 | bl b=>rfl
 | int i=>rfl
 | str x h=>exact h
 | HD=>rfl
 | qR _ _ Pb Pa =>
  show (K2.nr _&&K2.qj _)=true;rw [Pb];exact Pa
 | LG=>rfl
 | Bm _ _ Pb Pa =>
  show (K2.nr _&&K2.qj _)=true;rw [Pb];exact Pa
 | ref _ _ ih=>exact ih
noncomputable def qi(k:PK):D:=.tup (k.map fun r=>.tup (r.map fun t=>.tup (t.map D.int)))
noncomputable def eS:D->Bool
 | .int _=>true
 | .str _=>true
 | _=>false
noncomputable def G5:D->Gp->Option Bool
 | .eU,_=>some false
 | .bl b,_=>some b
 | .int i,_=>some (i != 0)
 | .str x,_=>if x.length<=SZ then some ((x.length:Int) != 0) else none
 | .tup ds,_=>some (!ds.isEmpty)
 | .dQ ds,_=>some (!ds.isEmpty)
 | .exc _,_=>none
 | .Ga _ _ _,_=>none
 | .oE _,_=>none
 | .kI kvs,_=>if (kvs.all fun p=>eS p.1)=true then some (!kvs.isEmpty) else none
 | .ref a,G=>match G a with
  | some (.lst ds)=>some (!ds.isEmpty)
  | some (.gF kvs)=>if (kvs.all fun p=>eS p.1)=true then some (!kvs.isEmpty) else none
  | _=>none
noncomputable def av(i:Nat):gI:=fun _ τ G Q=>match τ[i]? with
 | some (some d)=>Q d G
 | _=>False
noncomputable def dC(d:D):gI:=fun _ _ G Q=>Q d G
noncomputable def aX:Jm:=fun _ _ G Q=>Q [] G
noncomputable def aw(a:gI)(r:Jm):Jm:=fun E τ G Q=>a E τ G fun x G1=>r E τ G1 fun xs G2=>Q (x :: xs) G2
noncomputable def iA(t:Jm):gI:=fun E τ G Q=>t E τ G fun ds G1=>ds.length<=SZ/\Q (.tup ds) G1
noncomputable def iT(t:Jm):gI:=fun E τ G Q=>t E τ G fun ds G1=>ds.length<=SZ/\∀ p,G1 p=none->Q (.ref p) (eY G1 p (.lst ds))
noncomputable def a9(r:A3)(a b:gI):gI:=fun E τ G Q=>a E τ G fun x G1=>b E τ G1 fun y G2=>r x y G2 Q
noncomputable def Ni(r:D->Gp->DK->Prop)(a:gI):gI:=fun E τ G Q=>a E τ G fun x G1=>r x G1 Q
noncomputable def gZ(G:Gp)(o:GO)(Q:DK):Prop:=∀ p,G p=none->Q (.ref p) (eY G p o)
noncomputable def MulOk(i j:Int):Prop:=(-(2 ^ 64) < i/\i < 2 ^ 64)\/(-(2 ^ 64) < j/\j < 2 ^ 64)
noncomputable def rD:D->Gp->Option (List D)
 | .dQ ds,_=>some ds
 | .ref a,G=>match G a with
  | some (.lst ds)=>some ds
  | _=>none
 | _,_=>none
noncomputable def Jl(x y:D)(G:Gp)(Q:DK):Prop:=match rD x G,rD y G with
 | some xs,some ys=>xs.length+ys.length<=SZ/\gZ G (.lst (xs++ys)) Q
 | _,_=>False
noncomputable def hV:A3
 | .int i,.int j,G,Q=>Q (.int (i+j)) G
 | .str a,.str b,G,Q=>a.length+b.length<=SZ/\Q (.str (a++b)) G
 | .tup a,.tup b,G,Q=>a≠[]/\a.length+b.length<=SZ/\Q (.tup (a++b)) G
 | x,y,G,Q=>Jl x y G Q
noncomputable def Oc:A3
 | .int i,.int j,G,Q=>Q (.int (i - j)) G
 | _,_,_,_=>False
noncomputable def Cy:A3
 | .int i,.int j,G,Q=>MulOk i j/\Q (.int (i * j)) G
 | _,_,_,_=>False
noncomputable def tL:A3
 | .int i,.int j,G,Q=>0 < j/\Q (.int (i % j)) G
 | _,_,_,_=>False
noncomputable def EY:A3
 | .int i,.int j,G,Q=>0 < j/\j < 2 ^ 30/\Q (.int (i / j)) G
 | _,_,_,_=>False
noncomputable def EW:D->Gp->DK->Prop
 | .int i,G,Q=>Q (.int (-i)) G
 | _,_,_=>False
noncomputable def CB(neg:Bool):A3:=fun x y G Q=>∃ a b,Sn G SN x a/\Sn G SN y b/\Q (.bl (if neg then !iN a b else iN a b)) G
noncomputable def lexLt:List Int->List Int->Bool
 | [],[]=>false
 | [],_ :: _=>true
 | _ :: _,[]=>false
 | x :: xs,y :: ys=>if x=y then lexLt xs ys else decide (x < y)
noncomputable def Xv:A3
 | .int i,.int j,G,Q=>Q (.bl (decide (i < j))) G
 | .tup a,.tup b,G,Q=>∃ xs ys,a=xs.map D.int/\b=ys.map D.int/\Q (.bl (lexLt xs ys)) G
 | _,_,_,_=>False
noncomputable def rLe:A3
 | .int i,.int j,G,Q=>Q (.bl (decide (i<=j))) G
 | _,_,_,_=>False
noncomputable def rGt:A3
 | .int i,.int j,G,Q=>Q (.bl (decide (i > j))) G
 | _,_,_,_=>False
noncomputable def rGe:A3
 | .int i,.int j,G,Q=>Q (.bl (decide (i>=j))) G
 | _,_,_,_=>False
noncomputable def itemsOf:D->Gp->Option (List D)
 | .tup ds,_=>some ds
 | .dQ ds,_=>some ds
 | .ref a,G=>match G a with
  | some (.lst ds)=>some ds
  | _=>none
 | _,_=>none
noncomputable def kQ:D->Bool
 | .tup ds=>ds.all eS
 | _=>false
noncomputable def iu(kvs:List (D×D))(k:D):Bool:=(eS k&&kvs.all fun p=>eS p.1)||(kQ k&&kvs.all fun p=>kQ p.1)
noncomputable def look(kvs:List (D×D))(k:D):Option D:=(kvs.find? fun p=>iN p.1 k).map (·.2)
noncomputable def put(kvs:List (D×D))(k v:D):List (D×D) :=
 if (kvs.any fun p=>iN p.1 k)=true then kvs.map (fun p=>if iN p.1 k=true then (p.1,v) else p) else kvs++[(k,v)]
noncomputable def QZ(neg:Bool):A3:=fun x y G Q=>match y with
 | .ref a=>(match G a with
  | some (.gF kvs)=>iu kvs x=true/\Q (.bl (if neg then !(look kvs x).isSome else (look kvs x).isSome)) G
  | some (.lst ds)=>∃ s ss,Sn G SN x s/\Sn G SN (.dQ ds) (.dQ ss)/\Q (.bl (if neg then !ss.any (iN · s) else ss.any (iN · s))) G
  | _=>False)
 | .kI kvs=>kvs≠[]/\iu kvs x=true/\Q (.bl (if neg then !(look kvs x).isSome else (look kvs x).isSome)) G
 | .tup ds=>∃ s ss,Sn G SN x s/\Sn G SN (.dQ ds) (.dQ ss)/\Q (.bl (if neg then !ss.any (iN · s) else ss.any (iN · s))) G
 | .dQ ds=>∃ s ss,Sn G SN x s/\Sn G SN (.dQ ds) (.dQ ss)/\Q (.bl (if neg then !ss.any (iN · s) else ss.any (iN · s))) G
 | _=>False
noncomputable def ip:A3
 | .tup ds,.int i,G,Q=>(match qu ds i with
  | some d=>Q d G
  | none=>False)
 | .dQ ds,.int i,G,Q=>(match qu ds i with
  | some d=>Q d G
  | none=>False)
 | .kI kvs,k,G,Q=>iu kvs k=true/\(match look kvs k with
  | some d=>Q d G
  | none=>False)
 | .ref a,k,G,Q=>(match G a with
  | some (.lst ds)=>(match k with
   | .int i=>(match qu ds i with
    | some d=>Q d G
    | none=>False)
   | _=>False)
  | some (.gF kvs)=>iu kvs k=true/\(match look kvs k with
   | some d=>Q d G
   | none=>False)
  | _=>False)
 | _,_,_,_=>False
noncomputable abbrev Xh:=mw->iQ->Gp->(Option Int->Gp->Prop)->Prop
noncomputable def fA:Xh:=fun _ _ G Q=>Q none G
noncomputable def lN(t:gI):Xh:=fun E τ G Q=>t E τ G fun x G1=>match x with
 | .int i=>Q (some i) G1
 | _=>False
noncomputable def LI:D->Option Int->Option Int->Gp->DK->Prop
 | .tup ds,lo,hi,G,Q=>¬ (jL ds.length 0 lo=0/\jL ds.length ds.length hi=ds.length)/\Q (.tup (cut ds lo hi)) G
 | .dQ ds,lo,hi,G,Q=>gZ G (.lst (cut ds lo hi)) Q
 | .ref a,lo,hi,G,Q=>(match G a with
  | some (.lst ds)=>gZ G (.lst (cut ds lo hi)) Q
  | _=>False)
 | _,_,_,_,_=>False
noncomputable def Az(a:gI)(lo hi:Xh):gI:=fun E τ G Q=>a E τ G fun x G1=>lo E τ G1 fun l G2=>hi E τ G2 fun h G3=>LI x l h G3 Q
noncomputable def jf(a:gI):xp:=fun E τ G Q=>a E τ G fun x G1=>match G5 x G1 with
 | some b=>Q b G1
 | none=>False
noncomputable def DF(a b:xp):xp:=fun E τ G Q=>a E τ G fun c G1=>if c=true then b E τ G1 Q else Q false G1
noncomputable def RW(a b:xp):xp:=fun E τ G Q=>a E τ G fun c G1=>if c=true then Q true G1 else b E τ G1 Q
noncomputable def vD(a:xp):xp:=fun E τ G Q=>a E τ G fun c G1=>Q (!c) G1
noncomputable def K1(a b:gI):gI:=fun E τ G Q=>a E τ G fun x G1=>match G5 x G1 with
 | some true=>b E τ G1 Q
 | some false=>Q x G1
 | none=>False
noncomputable def W7(a b:gI):gI:=fun E τ G Q=>a E τ G fun x G1=>match G5 x G1 with
 | some true=>Q x G1
 | some false=>b E τ G1 Q
 | none=>False
noncomputable def PW(a:gI):gI:=fun E τ G Q=>a E τ G fun x G1=>match G5 x G1 with
 | some c=>Q (.bl (!c)) G1
 | none=>False
noncomputable def dIf(c:xp)(a b:gI):gI:=fun E τ G Q=>c E τ G fun k G1=>if k=true then a E τ G1 Q else b E τ G1 Q
noncomputable def bJ(sp:lO)(t:Jm):gI:=fun E τ G Q=>t E τ G fun ds G1=>sp ds G1 Q fun _ _=>False
noncomputable def ua(r:List D->Gp->DK->Prop)(t:Jm):gI:=fun E τ G Q=>t E τ G fun ds G1=>r ds G1 Q
noncomputable def Er(x:D)(G:Gp):Prop:=match x with
 | .ref a=>(match G a with
  | some (.lst _)=>True
  | _=>False)
 | .dQ _=>True
 | _=>False
noncomputable def NK(x:D)(G:Gp):Prop:=match x with
 | .kI _=>True
 | .ref a=>(match G a with
  | some (.gF _)=>True
  | _=>False)
 | _=>False
noncomputable def tyS(x:D)(_:Gp):Prop:=match x with
 | .str _=>True
 | _=>False
noncomputable def tG(ty:D->Gp->Prop)(r:D->List D->Gp->DK->Prop)(o:gI)(t:Jm):gI:=fun E τ G Q=>o E τ G fun x G1=>ty x G1/\t E τ G1 fun ds G2=>r x ds G2 Q
noncomputable def lenOf:D->Gp->Option Nat
 | .tup ds,_=>some ds.length
 | .dQ ds,_=>some ds.length
 | .str x,_=>if x.length<=SZ then some x.length else none
 | .kI kvs,_=>if (kvs.all fun p=>eS p.1)=true then some kvs.length else none
 | .ref a,G=>match G a with
  | some (.lst ds)=>some ds.length
  | some (.gF kvs)=>if (kvs.all fun p=>eS p.1)=true then some kvs.length else none
  | _=>none
 | _,_=>none
noncomputable def ue(ds:List D)(G:Gp)(Q:DK):Prop:=match ds with
 | [x]=>(match lenOf x G with
  | some n=>Q (.int (n:Int)) G
  | none=>False)
 | _=>False
noncomputable def vK(ds:List D)(G:Gp)(Q:DK):Prop:=match ds with
 | [x]=>(match itemsOf x G with
  | some xs=>gZ G (.lst xs) Q
  | none=>False)
 | _=>False
noncomputable def SO(C:String):D->Gp->Option Bool
 | .eU,_=>some false
 | .bl _,_=>some (C == "bool" || C == "int")
 | .int _,_=>some (C == "int")
 | .str _,_=>some (C == "str")
 | .tup _,_=>some (C == "tuple")
 | .dQ _,_=>some (C == "list")
 | .kI _,_=>some (C == "dict")
 | .exc _,_=>none
 | .Ga _ _ _,_=>none
 | .oE _,_=>none
 | .ref a,G=>match G a with
  | some (.lst _)=>some (C == "list")
  | some (.gF _)=>some (C == "dict")
  | _=>none
noncomputable def PY(C:String)(a:gI):gI:=fun E τ G Q=>a E τ G fun x G1=>match SO C x G1 with
 | some b=>Q (.bl b) G1
 | none=>False
noncomputable def ma(x:D)(ds:List D)(G:Gp)(Q:DK):Prop:=match x,ds with
 | .ref a,[d]=>(match G a with
  | some (.lst xs)=>xs.length < SZ/\Q .eU (eY G a (.lst (xs++[d])))
  | _=>False)
 | _,_=>False
noncomputable def xP(x:D)(ds:List D)(G:Gp)(Q:DK):Prop:=match x,ds with
 | .ref a,[y]=>(match G a,rD y G with
  | some (.lst xs),some ys=>xs.length+ys.length<=SZ/\Q .eU (eY G a (.lst (xs++ys)))
  | _,_=>False)
 | _,_=>False
noncomputable def Ry(x:D)(ds:List D)(G:Gp)(Q:DK):Prop:=match x,ds with
 | .ref a,[.int i,d]=>(match G a with
  | some (.lst xs)=>0<=i/\i<=xs.length/\xs.length < SZ/\Q .eU (eY G a (.lst (xs.take i.toNat++d :: xs.drop i.toNat)))
  | _=>False)
 | _,_=>False
noncomputable def CV(x:D)(ds:List D)(G:Gp)(Q:DK):Prop:=match ds with
 | [d]=>Er x G/\∃ xs s ss,itemsOf x G=some xs/\Sn G SN d s/\Sn G SN (.dQ xs) (.dQ ss)/\(match ss.findIdx? (iN · s) with
  | some k=>Q (.int (k:Int)) G
  | none=>False)
 | _=>False
noncomputable def Fj(x:D)(ds:List D)(G:Gp)(Q:DK):Prop:=match x,ds with
 | .ref a,[k,d]=>(match G a with
  | some (.gF kvs)=>iu kvs k=true/\eS k=true/\(match look kvs k with
   | some v=>Q v G
   | none=>kvs.length < SZ/\Q d (eY G a (.gF (put kvs k d))))
  | _=>False)
 | _,_=>False
noncomputable def fM:iE:=fun _ K τ G=>K.nx τ G
noncomputable def cC(a b:iE):iE:=fun E K τ G=>a E { K with nx:=b E K } τ G
noncomputable def kK(a:gI):iE:=fun E K τ G=>a E τ G fun _ G1=>K.nx τ G1
noncomputable def cZ(a:gI):iE:=fun E K τ G=>a E τ G K.rt
noncomputable def S8:iE:=fun _ K _ G=>K.rt .eU G
noncomputable def jx(c:xp)(a b:iE):iE:=fun E K τ G=>c E τ G fun k G1=>if k=true then a E K τ G1 else b E K τ G1
noncomputable def PX:iE:=fun _ _ _ _=>False
noncomputable abbrev AA:=mw->D->iQ->Gp->(iQ->Gp->Prop)->Prop
noncomputable abbrev DS:=mw->List D->iQ->Gp->(iQ->Gp->Prop)->Prop
noncomputable def aL(i:Nat):AA:=fun _ d τ G Q=>Q (τ.set i (some d)) G
noncomputable def jX:DS:=fun _ ds τ G Q=>match ds with
 | []=>Q τ G
 | _=>False
noncomputable def dZ(t:AA)(r:DS):DS:=fun E ds τ G Q=>match ds with
 | d :: ds=>t E d τ G fun pe G1=>r E ds pe G1 Q
 | _=>False
noncomputable def ka(t:DS):AA:=fun E d τ G Q=>match d with
 | .tup ds=>t E ds τ G Q
 | _=>False
noncomputable def yy(o k d:D)(G:Gp)(Q:Gp->Prop):Prop:=match o with
 | .ref a=>(match G a with
  | some (.lst xs)=>(match k with
   | .int i=>(match Ku xs.length i with
    | some j=>Q (eY G a (.lst (xs.set j d)))
    | none=>False)
   | _=>False)
  | some (.gF kvs)=>iu kvs k=true/\kvs.length < SZ/\Q (eY G a (.gF (put kvs k d)))
  | _=>False)
 | _=>False
noncomputable def kz(o k:gI):AA:=fun E d τ G Q=>o E τ G fun x G1=>k E τ G1 fun y G2=>yy x y d G2 fun G3=>Q τ G3
noncomputable def bK(a:gI)(g:AA):iE:=fun E K τ G=>a E τ G fun x G1=>g E x τ G1 K.nx
noncomputable abbrev MM:=mw->iQ->Gp->(List D->(Gp->Prop)->Gp->Prop)->Prop
noncomputable def oR(a:gI):MM:=fun E τ G R=>a E τ G fun x G1=>match x with
 | .tup ds=>R ds (fun _=>True) G1
 | .dQ ds=>R ds (fun _=>True) G1
 | .ref p=>(match G1 p with
  | some (.lst ds)=>R ds (fun G2=>G2 p=some (.lst ds)) G1
  | _=>False)
 | _=>False
noncomputable def gJ(lo:Int)(n:Nat):List D:=(c9 n).map fun (i:Nat)=>D.int (lo+(i:Int))
noncomputable def xj(a:gI):MM:=fun E τ G R=>a E τ G fun x G1=>match x with
 | .int n=>-(2 ^ 62)<=n/\n < 2 ^ 62/\R (gJ 0 n.toNat) (fun _=>True) G1
 | _=>False
noncomputable def qr(g:AA)(body:iE)(ok:Gp->Prop):List D->iE
 | []=>fun _ K τ G=>ok G/\K.nx τ G
 | d :: r=>fun E K τ G=>ok G/\g E d τ G fun pe G1=>body E { K with nx:=qr g body ok r E K,ct:=qr g body ok r E K,bk:=K.nx } pe G1
noncomputable def eQ(i:MM)(g:AA)(body:iE):iE:=fun E K τ G=>i E τ G fun ds ok G1=>qr g body ok ds E K τ G1
noncomputable def En(c:xp)(body:iE):Nat->iE
 | 0=>fun _ _ _ _=>False
 | n+1=>fun E K τ G=>c E τ G fun k G1=>if k=true then body E { K with nx:=En c body n E K,ct:=En c body n E K,bk:=K.nx } τ G1 else K.nx τ G1
noncomputable def Jh(c:xp)(body:iE):iE:=fun E K τ G=>∃ n,En c body n E K τ G
noncomputable def jy(g:AA)(c:Option xp)(e:gI)(ok:Gp->Prop):List D->mw->iQ->Gp->List D->(List D->Gp->Prop)->Prop
 | [],_,_,G,acc,Q=>ok G/\Q acc G
 | d :: r,E,τ,G,acc,Q=>ok G/\g E d τ G fun pe G1=>match c with
  | none=>e E pe G1 fun x G2=>jy g c e ok r E pe G2 (acc++[x]) Q
  | some c=>c E pe G1 fun k G2=>if k=true then e E pe G2 fun x G3=>jy g (some c) e ok r E pe G3 (acc++[x]) Q else jy g (some c) e ok r E pe G2 acc Q
noncomputable def zT(m:Nat)(fr:List Nat)(τ:iQ):iQ:=a8 m none++fr.map fun i=>(τ[i]?).getD none
noncomputable def iO(m:Nat)(fr:List Nat)(i:MM)(g:AA)(c:Option xp)(e:gI):gI:=fun E τ G Q =>
 i E τ G fun ds ok G1=>ds.length<=SZ/\jy g c e ok ds (fun _ _=>False) (zT m fr τ) G1 [] fun xs G2=>gZ G2 (.lst xs) Q
noncomputable abbrev tI(ns:List Int):D:=.tup (ns.map D.int)
noncomputable def Zn:List Int->Option Int
 | []=>none
 | a :: r=>some (r.foldl (fun m x=>if x < m then x else m) a)
noncomputable def Zm:List (List Int)->Option (List Int)
 | []=>none
 | a :: r=>some (r.foldl (fun m x=>if lexLt x m=true then x else m) a)
noncomputable def aaD(ds:List D)(G:Gp)(Q:DK):Prop:=match ds with
 | [x]=>(∃ ns m,itemsOf x G=some (ns.map D.int)/\Zn ns=some m/\Q (.int m) G)\/∃ nss m,itemsOf x G=some (nss.map tI)/\Zm nss=some m/\Q (tI m) G
 | _=>False
noncomputable def nG:gI:=fun _ _ G Q=>gZ G (.gF []) Q
noncomputable def fm(G G':Gp):Prop:=∀ a o,G a=some o->G' a=some o
theorem fm.refl(G:Gp):fm G G:=fun _ _ h=>h
theorem fm.trans{G G1 G2:Gp}(a:fm G G1)(b:fm G1 G2):fm G G2:=fun c o h=>b c o (a c o h)
theorem fm.new{G:Gp}{p:Nat}{o:GO}(h:G p=none):fm G (eY G p o):=fun a ob e=>by
 by_cases ha:a=p
 ·subst ha; rw [h] at e; cases e
 ·rw [cF ha]; exact e
theorem fm.free{G G':Gp}{p:Nat}(l:fm G G')(h:G' p=none):G p=none:=by
 cases q:G p with
 | none=>rfl
 | some o=>rw [l p o q] at h; cases h
theorem fm.put{G G':Gp}{p:Nat}{o:GO}(l:fm G G')(h:G p=none):fm G (eY G' p o):=fun a ob e=>by
 by_cases ha:a=p
 ·subst ha; rw [h] at e; cases e
 ·rw [cF ha]; exact l a ob e
noncomputable def ends(Q:DK):lP:=⟨fun _ G=>Q .eU G,Q,fun _ _=>False,fun _ _=>False⟩
noncomputable def bE(n:Nat)(ds:List D):iQ:=ds.map some++a8 (n - ds.length) none
noncomputable def RF(x:D)(G1:Gp)(R:List D->(Gp->Prop)->Gp->Prop):Prop:=match x with
 | .tup ds=>R ds (fun _=>True) G1
 | .dQ ds=>R ds (fun _=>True) G1
 | .ref p=>(match G1 p with
  | some (.lst ds)=>R ds (fun G2=>G2 p=some (.lst ds)) G1
  | _=>False)
 | _=>False
noncomputable def Ox(x:D)(G1:Gp)(Q:Option Int->Gp->Prop):Prop:=match x with
 | .int i=>Q (some i) G1
 | _=>False
noncomputable def qQ(x:D)(G1:Gp)(Q:Bool->Gp->Prop):Prop:=match G5 x G1 with
 | some b=>Q b G1
 | none=>False
noncomputable def Sw(x:D)(G1:Gp)(R:List D->(Gp->Prop)->Gp->Prop):Prop:=match x with
 | .int n=>-(2 ^ 62)<=n/\n < 2 ^ 62/\R (gJ 0 n.toNat) (fun _=>True) G1
 | _=>False
noncomputable def isAt(C:String)(x:D)(G1:Gp)(Q:DK):Prop:=match SO C x G1 with
 | some b=>Q (.bl b) G1
 | none=>False
theorem dU{i j:Int}{G:Gp}{Q:DK}:hV (.int i) (.int j) G Q=Q (.int (i+j)) G:=rfl
theorem yO{a b:List D}{G:Gp}{Q:DK}:hV (.tup a) (.tup b) G Q=(a≠[]/\a.length+b.length<=SZ/\Q (.tup (a++b)) G):=rfl
theorem oG{i j:Int}{G:Gp}{Q:DK}:Oc (.int i) (.int j) G Q=Q (.int (i - j)) G:=rfl
theorem mT{i j:Int}{G:Gp}{Q:DK}:Cy (.int i) (.int j) G Q=(MulOk i j/\Q (.int (i * j)) G):=rfl
theorem jC{i j:Int}{G:Gp}{Q:DK}:tL (.int i) (.int j) G Q=(0 < j/\Q (.int (i % j)) G):=rfl
theorem oH{i j:Int}{G:Gp}{Q:DK}:EY (.int i) (.int j) G Q=(0 < j/\j < 2 ^ 30/\Q (.int (i / j)) G):=rfl
theorem rh{i:Int}{G:Gp}{Q:DK}:EW (.int i) G Q=Q (.int (-i)) G:=rfl
theorem Cz{i j:Int}{G:Gp}{Q:DK}:Xv (.int i) (.int j) G Q=Q (.bl (decide (i < j))) G:=rfl
theorem JZ{i j:Int}{G:Gp}{Q:DK}:rLe (.int i) (.int j) G Q=Q (.bl (decide (i<=j))) G:=rfl
theorem J0{i j:Int}{G:Gp}{Q:DK}:rGt (.int i) (.int j) G Q=Q (.bl (decide (i > j))) G:=rfl
theorem J1{i j:Int}{G:Gp}{Q:DK}:rGe (.int i) (.int j) G Q=Q (.bl (decide (i>=j))) G:=rfl
theorem QX{ds:List D}{i:Int}{d:D}{G:Gp}{Q:DK}(h:qu ds i=some d):ip (.dQ ds) (.int i) G Q=Q d G:=by unfold ip; simp only [h]
theorem QY{a:Nat}{ds:List D}{i:Int}{d:D}{G:Gp}{Q:DK}(h1:G a=some (.lst ds))(h:qu ds i=some d):ip (.ref a) (.int i) G Q=Q d G:=by unfold ip; simp only [h1,h]
theorem Cu{ds:List D}{lo hi:Option Int}{G:Gp}{Q:DK}:LI (.tup ds) lo hi G Q=(¬ (jL ds.length 0 lo=0/\jL ds.length ds.length hi=ds.length)/\Q (.tup (cut ds lo hi)) G):=rfl
theorem pC{ds:List D}{lo hi:Option Int}{G:Gp}{Q:DK}:LI (.dQ ds) lo hi G Q=gZ G (.lst (cut ds lo hi)) Q:=rfl
theorem QW{a:Nat}{ds:List D}{lo hi:Option Int}{G:Gp}{Q:DK}(h:G a=some (.lst ds)):LI (.ref a) lo hi G Q=gZ G (.lst (cut ds lo hi)) Q:=by unfold LI; simp only [h]
theorem vL{ds:List D}{G:Gp}{Q:DK}:ue [.dQ ds] G Q=Q (.int (ds.length:Int)) G:=rfl
theorem Gz{ds:List D}{G:Gp}{Q:DK}:ue [.tup ds] G Q=Q (.int (ds.length:Int)) G:=rfl
theorem GA{a:Nat}{ds:List D}{G:Gp}{Q:DK}(h:G a=some (.lst ds)):ue [.ref a] G Q=Q (.int (ds.length:Int)) G:=by unfold ue lenOf; simp only [h]
theorem gB{a:gI}{E:mw}{τ:iQ}{G:Gp}{R:List D->(Gp->Prop)->Gp->Prop}:oR a E τ G R=a E τ G fun x G1=>RF x G1 R:=by
 unfold oR RF; rfl
theorem C5{ds:List D}{G:Gp}{R:List D->(Gp->Prop)->Gp->Prop}:RF (.dQ ds) G R=R ds (fun _=>True) G:=rfl
theorem C4{ds:List D}{G:Gp}{R:List D->(Gp->Prop)->Gp->Prop}:RF (.tup ds) G R=R ds (fun _=>True) G:=rfl
theorem Kw{a:Nat}{ds:List D}{G:Gp}{R:List D->(Gp->Prop)->Gp->Prop}(h:G a=some (.lst ds)):RF (.ref a) G R=R ds (fun G2=>G2 a=some (.lst ds)) G:=by unfold RF; simp only [h]
theorem lb{t:gI}{E:mw}{τ:iQ}{G:Gp}{Q:Option Int->Gp->Prop}:lN t E τ G Q=t E τ G fun x G1=>Ox x G1 Q:=rfl
theorem gb{i:Int}{G:Gp}{Q:Option Int->Gp->Prop}:Ox (.int i) G Q=Q (some i) G:=rfl
theorem eP{a:gI}{E:mw}{τ:iQ}{G:Gp}{Q:Bool->Gp->Prop}:jf a E τ G Q=a E τ G fun x G1=>qQ x G1 Q:=rfl
theorem cB{b:Bool}{G:Gp}{Q:Bool->Gp->Prop}:qQ (.bl b) G Q=Q b G:=rfl
theorem k7{a:gI}{E:mw}{τ:iQ}{G:Gp}{R:List D->(Gp->Prop)->Gp->Prop}:xj a E τ G R=a E τ G fun x G1=>Sw x G1 R:=rfl
theorem j4{n:Int}{G:Gp}{R:List D->(Gp->Prop)->Gp->Prop}:Sw (.int n) G R=(-(2 ^ 62)<=n/\n < 2 ^ 62/\R (gJ 0 n.toNat) (fun _=>True) G):=rfl
theorem xU{C:String}{a:gI}{E:mw}{τ:iQ}{G:Gp}{Q:DK}:PY C a E τ G Q=a E τ G fun x G1=>isAt C x G1 Q:=rfl
theorem zy {C:String} {i:Int} {G:Gp} {Q:DK}:isAt C (.int i) G Q=Q (.bl (C == "int")) G:=rfl
theorem FD {C:String} {ds:List D} {G:Gp} {Q:DK}:isAt C (.tup ds) G Q=Q (.bl (C == "tuple")) G:=rfl
theorem zR{a b:gI}{E:mw}{τ:iQ}{G:Gp}{Q:DK}:K1 a b E τ G Q=a E τ G fun x G1=>qQ x G1 fun k G2=>if k=true then b E τ G2 Q else Q x G2:=by
 unfold K1 qQ;refine congrArg (a E τ G) ?_;funext x G1;cases G5 x G1 with
 | none=>rfl
 | some k=>cases k <;> simp
theorem K0{a b:gI}{E:mw}{τ:iQ}{G:Gp}{Q:DK}:W7 a b E τ G Q=a E τ G fun x G1=>qQ x G1 fun k G2=>if k=true then Q x G2 else b E τ G2 Q:=by
 unfold W7 qQ;refine congrArg (a E τ G) ?_;funext x G1;cases G5 x G1 with
 | none=>rfl
 | some k=>cases k <;> simp
theorem zQ{a:gI}{E:mw}{τ:iQ}{G:Gp}{Q:DK}:PW a E τ G Q=a E τ G fun x G1=>qQ x G1 fun k G2=>Q (.bl (!k)) G2:=rfl
theorem uW{a:Nat}{y:D}{G:Gp}{Q:DK}:hV (.ref a) y G Q=Jl (.ref a) y G Q:=by cases y <;> rfl
theorem uV{a:List D}{y:D}{G:Gp}{Q:DK}:hV (.dQ a) y G Q=Jl (.dQ a) y G Q:=by cases y <;> rfl
theorem Cv{a:Nat}{lo hi:Option Int}{G:Gp}{Q:DK}:LI (.ref a) lo hi G Q=(match G a with
  | some (.lst ds)=>gZ G (.lst (cut ds lo hi)) Q
  | _=>False):=rfl
theorem CA{a:Nat}{k:D}{G:Gp}{Q:DK}:ip (.ref a) k G Q=(match G a with
  | some (.lst ds)=>(match k with
   | .int i=>(match qu ds i with
    | some d=>Q d G
    | none=>False)
   | _=>False)
  | some (.gF kvs)=>iu kvs k=true/\(match look kvs k with
   | some d=>Q d G
   | none=>False)
  | _=>False):=by unfold ip; cases k <;> rfl
theorem fF{ds:List D}{i:Int}{G:Gp}{Q:DK}:ip (.tup ds) (.int i) G Q=(match qu ds i with
  | some d=>Q d G
  | none=>False):=rfl
theorem jD{ds:List D}{i:Int}{G:Gp}{Q:DK}:ip (.dQ ds) (.int i) G Q=(match qu ds i with
  | some d=>Q d G
  | none=>False):=rfl
theorem BZ{a:Nat}{G:Gp}{Q:DK}:vK [.ref a] G Q=(match G a with
  | some (.lst ds)=>gZ G (.lst ds) Q
  | _=>False):=by
 unfold vK itemsOf;cases h:G a with
 | none=>simp only [h]
 | some g=>cases g <;> simp only [h]
theorem i4{a:Nat}{d:D}{G:Gp}{Q:DK}:ma (.ref a) [d] G Q=(match G a with
  | some (.lst xs)=>xs.length < SZ/\Q .eU (eY G a (.lst (xs++[d])))
  | _=>False):=rfl
theorem rC{a:Nat}{y:D}{G:Gp}{Q:DK}:xP (.ref a) [y] G Q=(match G a,rD y G with
  | some (.lst xs),some ys=>xs.length+ys.length<=SZ/\Q .eU (eY G a (.lst (xs++ys)))
  | _,_=>False):=rfl
theorem xg{a:Nat}{i:Int}{d:D}{G:Gp}{Q:DK}:Ry (.ref a) [.int i,d] G Q=(match G a with
  | some (.lst xs)=>0<=i/\i<=xs.length/\xs.length < SZ/\Q .eU (eY G a (.lst (xs.take i.toNat++d :: xs.drop i.toNat)))
  | _=>False):=rfl
theorem qk{a:Nat}{k d:D}{G:Gp}{Q:DK}:Fj (.ref a) [k,d] G Q=(match G a with
  | some (.gF kvs)=>iu kvs k=true/\eS k=true/\(match look kvs k with
   | some v=>Q v G
   | none=>kvs.length < SZ/\Q d (eY G a (.gF (put kvs k d))))
  | _=>False):=rfl
theorem O7{C:String}{p:Nat}{G:Gp}{Q:DK}:isAt C (.ref p) G Q=(match G p with
  | some (.lst _)=>Q (.bl (C == "list")) G
  | some (.gF _)=>Q (.bl (C == "dict")) G
  | _=>False):=by
 unfold isAt SO;cases h:G p with
 | none=>simp only [h]
 | some g=>cases g <;> simp only [h]
theorem Kv {C:String} {b:Bool} {G:Gp} {Q:DK}:isAt C (.bl b) G Q=Q (.bl (C == "bool" || C == "int")) G:=rfl
theorem nK{a:Nat}{G:Gp}:Er (.ref a) G=(match G a with
  | some (.lst _)=>True
  | _=>False):=rfl
theorem rZ{a:Nat}{G:Gp}:NK (.ref a) G=(match G a with
  | some (.gF _)=>True
  | _=>False):=rfl
theorem JO{ds:List D}{G:Gp}:Er (.dQ ds) G=True:=rfl
theorem xJ{kvs:List (D×D)}{k:D}{G:Gp}{Q:DK}:ip (.kI kvs) k G Q=(iu kvs k=true/\(match look kvs k with
  | some d=>Q d G
  | none=>False)):=by unfold ip; cases k <;> rfl
theorem JN{x:Str}{G:Gp}:tyS (.str x) G=True:=rfl
end K2
end
section
namespace K2
open PySem (Str)
noncomputable def AX(R:Nat->Bool)(G:Gp):Gp:=fun a=>if R a=true then none else G a
mutual
inductive Fz (G:Gp) (R:Nat->Bool):D->D->Prop
 | same (d:D):Fz G R d d
 | tup {ds ss:List D}:DX G R ds ss->Fz G R (.tup ds) (.tup ss)
 | dQ {ds ss:List D}:DX G R ds ss->Fz G R (.dQ ds) (.dQ ss)
 | ref {a:Nat} {ds ss:List D}:G a=some (.lst ds)->R a=true->DX G R ds ss->Fz G R (.ref a) (.dQ ss)
 | gF {a:Nat} {kvs SJ:List (D×D)}:G a=some (.gF kvs)->R a=true->Jw G R kvs SJ->Fz G R (.ref a) (.kI SJ)
 | sJ {a:Nat} {kvs SJ:List (PK×D)}:G a=some (.sJ kvs)->R a=true->DX G R (kvs.map fun p=>p.2) (SJ.map fun p=>p.2)->kvs.map (fun p=>p.1)=SJ.map (fun p=>p.1)->Fz G R (.ref a) (.oE SJ)
inductive DX (G:Gp) (R:Nat->Bool):List D->List D->Prop
 | nil:DX G R [] []
 | cons {d s:D} {ds ss:List D}:Fz G R d s->DX G R ds ss->DX G R (d :: ds) (s :: ss)
inductive Jw (G:Gp) (R:Nat->Bool):List (D×D)->List (D×D)->Prop
 | nil:Jw G R [] []
 | cons {k d s:D} {ds ss:List (D×D)}:Fz G R d s->Jw G R ds ss->Jw G R ((k,d) :: ds) ((k,s) :: ss)
end
theorem Jw.same{G:Gp}{R:Nat->Bool}:∀ (kvs:List (D×D)),Jw G R kvs kvs
 | []=>.nil
 | (k,v) :: r=>.cons (.same v) (Jw.same r)
noncomputable def GS(G:Gp)(x:D)(Q:DK):Prop:=∃ (R:Nat->Bool) (t:D),Fz G R x t/\Q t (AX R G)
noncomputable def cM(e:gI):gI:=fun E τ G Q=>e E τ G fun x G1=>GS G1 x Q
noncomputable def Gn(i:Nat)(t:iE):iE:=fun E K τ G=>t E { K with nx:=fun pe G1=>match pe[i]? with
 | some (some d)=>GS G1 d fun t G2=>K.nx (pe.set i (some t)) G2
 | _=>False } τ G
theorem DX.same{G:Gp}{R:Nat->Bool}:∀ (ds:List D),DX G R ds ds
 | []=>.nil
 | d :: ds=>.cons (.same d) (DX.same ds)
theorem vB{G G1:Gp}(l:fm G G1):AX (fun a=>(G a).isNone) G1=G:=by
 funext a;unfold AX;cases h:G a with
 | none=>simp [h]
 | some o=>simp [l a o h,h]
theorem MA{G G1:Gp}{p:Nat}{o:GO}(l:fm G G1)(hp:G p=none)(h1:G1 p=some o):AX (fun a=>(G a).isNone&&decide (a≠p)) G1=eY G p o:=by
 funext a;unfold AX eY;by_cases ha:a=p
 ·subst ha; simp [h1]
 ·cases h:G a with
  | none=>simp [ha,h]
  | some o=>simp [l a o h,ha,h]
theorem cz{G:Gp}{d:D}{Q:DK}(q:Q d G):GS G d Q:=⟨fun _=>false,d,.same d,by
 have e:AX (fun _=>false) G=G:=by funext a; simp [AX]
 rw [e]; exact q⟩
theorem xT{G G1:Gp}{d:D}{Q:DK}(l:fm G G1)(q:Q d G):GS G1 d Q:=⟨_,d,.same d,by rw [vB l]; exact q⟩
theorem PA{G G1:Gp}{p:Nat}{o:GO}{Q:DK}(l:fm G G1)(hp:G p=none)(h1:G1 p=some o)(q:Q (.ref p) (eY G p o)):GS G1 (.ref p) Q :=
 ⟨_,.ref p,.same _,by rw [MA l hp h1]; exact q⟩
theorem Dc{G G1:Gp}{p:Nat}{ds ss:List D}{Q:DK}(l:fm G G1)(hp:G p=none)(h1:G1 p=some (.lst ds))(hs:DX G1 (fun a=>(G a).isNone) ds ss)(q:Q (.dQ ss) G):GS G1 (.ref p) Q :=
 ⟨_,.dQ ss,.ref h1 (by simp [hp]) hs,by rw [vB l]; exact q⟩
theorem iw{G G1:Gp}{p:Nat}{kvs:List (D×D)}{Q:DK}(l:fm G G1)(hp:G p=none)(h1:G1 p=some (.gF kvs))(q:Q (.kI kvs) G):GS G1 (.ref p) Q :=
 ⟨fun a=>(G a).isNone,.kI kvs,.gF h1 (by simp [hp]) (.same _),by rw [vB l]; exact q⟩
noncomputable def Bc:lO:=fun ds G Q _=>∃ ns:List Int,ds=[.dQ (ns.map D.int)]/\ns.length<=63/\(∀ a,G a=none)/\∀ G',Q (.bl true) G'
theorem fg{a b:iE}{E:mw}{K:lP}{τ:iQ}{G:Gp}(P:iQ->Gp->Prop)(h1:∀ N,(∀ τ G,P τ G->N τ G)->a E { K with nx:=N } τ G)(h2:∀ τ G,P τ G->b E K τ G):cC a b E K τ G:=h1 (b E K) h2
theorem qT{a b:iE}{E:mw}{K:lP}{τ:iQ}{G:Gp}:cC a b E K τ G=a E { K with nx:=b E K } τ G:=rfl
theorem cX{a:gI}{g:AA}{b:iE}{E:mw}{K:lP}{τ:iQ}{G:Gp}:cC (bK a g) b E K τ G=bK a g E { K with nx:=b E K } τ G:=rfl
theorem yA{a:gI}{b:iE}{E:mw}{K:lP}{τ:iQ}{G:Gp}:cC (kK a) b E K τ G=kK a E { K with nx:=b E K } τ G:=rfl
theorem UQ{g:AA}{body:iE}{ok:Gp->Prop}{ds:List D}{E:mw}{K:lP}{τ:iQ}{G:Gp}(I:List D->iQ->Gp->Prop)
  (h0:I [] τ G) (cL:∀ pre τ G,I pre τ G->ok G)
  (step:∀ (pre:List D) (d:D) (post:List D) τ G (N:iQ->Gp->Prop),ds=pre++d :: post->I pre τ G->(∀ v7 G2,I (pre++[d]) v7 G2->N v7 G2) ->
   g E d τ G fun pe G1=>body E { K with nx:=N,ct:=N,bk:=K.nx } pe G1)
  (fin:∀ τ G,I ds τ G->K.nx τ G):qr g body ok ds E K τ G:=by
 have main:∀ (post pre:List D) τ G,ds=pre++post->I pre τ G->qr g body ok post E K τ G:=by
  intro post;induction post with
  | nil =>
   intro pre τ G e h;rw [cP] at e;subst e;exact⟨cL _ _ _ h,fin _ _ h⟩
  | cons d post ih =>
   intro pre τ G e h;refine⟨cL _ _ _ h,?_⟩;exact step pre d post τ G _ e h fun v7 G2 h2=>ih (pre++[d]) v7 G2 (by rw [e,bP]; rfl) h2
 exact main ds [] τ G rfl h0
theorem RY{g:AA}{c:Option xp}{e:gI}{ok:Gp->Prop}{ds:List D}{E:mw}{τ:iQ}{G:Gp}{Q:List D->Gp->Prop}(I:List D->List D->iQ->Gp->Prop)
  (h0:I [] [] τ G) (cL:∀ pre acc τ G,I pre acc τ G->ok G)
  (step:∀ (pre:List D) (d:D) (post acc:List D) τ G (N:iQ->List D->Gp->Prop),ds=pre++d :: post->I pre acc τ G->(∀ v7 wO G2,I (pre++[d]) wO v7 G2->N v7 wO G2) ->
   g E d τ G fun pe G1=>match c with
    | none=>e E pe G1 fun x G2=>N pe (acc++[x]) G2
    | some c=>c E pe G1 fun k G2=>if k=true then e E pe G2 fun x G3=>N pe (acc++[x]) G3 else N pe acc G2)
  (fin:∀ acc τ G,I ds acc τ G->Q acc G):jy g c e ok ds E τ G [] Q:=by
 have main:∀ (post pre acc:List D) τ G,ds=pre++post->I pre acc τ G->jy g c e ok post E τ G acc Q:=by
  intro post;induction post with
  | nil =>
   intro pre acc τ G e h;rw [cP] at e;subst e;exact⟨cL _ _ _ _ h,fin _ _ _ h⟩
  | cons d post ih =>
   intro pre acc τ G e' h;refine⟨cL _ _ _ _ h,?_⟩;have:=step pre d post acc τ G (fun v7 wO G2=>jy g c e ok post E v7 G2 wO Q) e' h fun v7 wO G2 h2=>ih (pre++[d]) wO v7 G2 (by rw [e',bP]; rfl) h2;cases c with
   | none=>exact this
   | some c=>exact this
 exact main ds [] [] τ G rfl h0
theorem Sn.rI{G:Gp}{n:Nat}:∀ (ns:List Int),Sn G (n+1) (.dQ (ns.map D.int)) (.dQ (ns.map D.int))
 | []=>.LG
 | i :: ns=>.Bm (.int i) (Sn.rI ns)
theorem pU(a b:D)(r t:List D):k9 (a :: r) (b :: t)=(iN a b&&k9 r t):=rfl
theorem i5(a b:Int):iN (.int a) (.int b)=(a == b):=rfl
theorem Ja(a b:List D):iN (.tup a) (.tup b)=k9 a b:=rfl
theorem Gg{α:Type} [DecidableEq α](a b:α)(as bs:List α):(decide (a=b)&&decide (as=bs))=decide (a :: as=b :: bs):=by
 by_cases h:a=b <;> by_cases h2:as=bs <;> simp [h,h2]
end K2
end
section
namespace K2
open PySem (Str)
set_option genInjectivity true in structure T2 where
 a:Int
 b:Int
 deriving DecidableEq
set_option genInjectivity true in structure T3 where
 a:Int
 b:Int
 c:Int
 deriving DecidableEq
class Enc (α:Type) [DecidableEq α] where
 enc:α->D
 dep:Nat
 eqv:∀ a b,iN (enc a) (enc b)=decide (a=b)
 sn:∀ (G:Gp) (n:Nat) (a:α),dep<=n->Sn G n (enc a) (enc a)
open Enc (enc)
noncomputable instance:Enc Int where
 enc:=D.int
 dep:=0
 eqv:=fun a b=>rfl
 sn:=fun G n a _=>.int a
noncomputable instance:Enc Bool where
 enc:=D.bl
 dep:=0
 eqv:=fun a b=>Qr a b
 sn:=fun G n a _=>.bl a
noncomputable instance:Enc T2 where
 enc:=fun t=>.tup [.int t.a,.int t.b]
 dep:=1
 eqv:=fun x y=>by
  cases x; cases y;rw [Ja,pU,pU,i5,i5]; simp only [T2.mk.injEq]; rename_i a b c d; by_cases h:a=c <;> by_cases h2:b=d <;> simp [h,h2,show k9 [] []=true from rfl]
 sn:=fun G n t h=>by
  obtain⟨m,rfl⟩:∃ m,n=m+1:=⟨n - 1,by lia⟩;exact .qR (.int _) (.qR (.int _) .HD)
noncomputable instance:Enc T3 where
 enc:=fun t=>.tup [.int t.a,.int t.b,.int t.c]
 dep:=1
 eqv:=fun x y=>by
  cases x; cases y;rw [Ja,pU,pU,pU,i5,i5,i5]; simp only [T3.mk.injEq]; rename_i a b e c d f; by_cases h:a=c <;> by_cases h2:b=d <;> by_cases h3:e=f <;> simp [h,h2,h3,show k9 [] []=true from rfl]
 sn:=fun G n t h=>by
  obtain⟨m,rfl⟩:∃ m,n=m+1:=⟨n - 1,by lia⟩;exact .qR (.int _) (.qR (.int _) (.qR (.int _) .HD))
noncomputable instance {α β:Type} [DecidableEq α] [DecidableEq β] [Enc α] [Enc β]:Enc (α×β) where
 enc:=fun t=>.tup [enc t.1,enc t.2]
 dep:=max (Enc.dep α) (Enc.dep β)+1
 eqv:=fun x y=>by
  cases x; cases y;rw [Ja,pU,pU,Enc.eqv,Enc.eqv]; simp only [Prod.mk.injEq]; rename_i a b c d; by_cases h:a=c <;> by_cases h2:b=d <;> simp [h,h2,show k9 [] []=true from rfl]
 sn:=fun G n t h=>by
  obtain⟨m,rfl⟩:∃ m,n=m+1:=⟨n - 1,by lia⟩;exact .qR (Enc.sn _ _ _ (by lia)) (.qR (Enc.sn _ _ _ (by lia)) .HD)
theorem Gd{α:Type} [DecidableEq α] [Enc α]:∀ (a b:List α),k9 (a.map enc) (b.map enc)=decide (a=b)
 | [],[]=>(decide_eq_true rfl).symm
 | [],b :: bs=>(decide_eq_false (fun z=>nomatch z)).symm
 | a :: as,[]=>(decide_eq_false (fun z=>nomatch z)).symm
 | a :: as,b :: bs=>by
  show (iN (enc a) (enc b)&&k9 (as.map enc) (bs.map enc))=_;rw [Enc.eqv,Gd as bs,Gg]
theorem HM{α:Type} [DecidableEq α] [Enc α](G:Gp)(n:Nat)(h:Enc.dep α<=n):∀ (xs:List α),Sn G (n+1) (.dQ (xs.map enc)) (.dQ (xs.map enc))
 | []=>.LG
 | a :: as=>.Bm (Enc.sn _ _ _ h) (HM G n h as)
noncomputable instance {α:Type} [DecidableEq α] [Enc α]:Enc (List α) where
 enc:=fun xs=>.dQ (xs.map enc)
 dep:=Enc.dep α+1
 eqv:=fun a b=>by
  show k9 _ _=_;exact Gd a b
 sn:=fun G n t h=>by
  obtain⟨m,rfl⟩:∃ m,n=m+1:=⟨n - 1,by lia⟩;exact HM G m (by lia) t
section
variable {α:Type} [DecidableEq α] [Enc α]
theorem R8(L:List α)(t:α):(L.map enc).any (iN · (enc t))=decide (t∈L):=by
 induction L with
 | nil=>simp
 | cons a r ih =>
  simp only [ak,lC,Enc.eqv,ih,aY];by_cases h:a=t
  ·simp [h]
  ·have h':¬ t=a:=fun z=>h z.symm;by_cases h2:t∈r <;> simp [h,h',h2]
end
section
variable {κ α:Type} [DecidableEq κ] [Enc κ] [DecidableEq α] [Enc α]
noncomputable def bD(l:List (κ×α)):List (D×D):=l.map fun p=>(enc p.1,enc p.2)
noncomputable def cV(l:List (κ×α))(k:κ):Option α:=(l.find? fun p=>p.1=k).map (·.2)
noncomputable def eW(l:List (κ×α))(k:κ)(v:α):List (κ×α):=if (l.any fun p=>p.1=k)=true then l.map (fun p=>if p.1=k then (p.1,v) else p) else l++[(k,v)]
theorem vc(l:List (κ×α))(k:κ):look (bD l) (enc k)=(cV l k).map enc:=by
 unfold look cV bD;induction l with
 | nil=>rfl
 | cons p r ih =>
  rw [ak,eN,eN];simp only [Enc.eqv];by_cases h:p.1=k
  ·simp [h]
  ·simp only [h,decide_false]; exact ih
theorem J4(l:List (κ×α))(k:κ)(v:α):put (bD l) (enc k) (enc v)=bD (eW l k v):=by
 unfold put eW;have e:((bD l).any fun p=>iN p.1 (enc k))=l.any fun p=>decide (p.1=k):=by
  unfold bD; rw [List.any_map]; congr 1; funext p; exact Enc.eqv _ _
 rw [e];split
 ·unfold bD; rw [bw,bw];refine cI fun p _=>?_;simp only [Function.comp,Enc.eqv,decide_eq_true_eq];split <;> rfl
 ·unfold bD; rw [aT]; rfl
theorem sQ(l:List (κ×α))(k j:κ)(v:α):cV (eW l k v) j=if k=j then some v else cV l j:=by
 unfold eW;split
 ·rename_i h;unfold cV;induction l with
  | nil=>simp at h
  | cons p r ih =>
   rw [ak,eN,eN];by_cases h1:p.1=k
   ·rw [if_pos h1];by_cases h2:k=j
    ·simp [h1,h2]
    ·have:¬ p.1=j:=fun z=>h2 (h1.symm.trans z);simp only [this,decide_false,h2,if_false];by_cases h3:(r.any fun p=>decide (p.1=k))=true
     ·have:=ih h3;rw [if_neg h2] at this;exact this
     ·congr 1;have:r.map (fun p=>if p.1=k then (p.1,v) else p)=r:=by
       conv=>rhs; rw [<-jH r]
       refine cI fun q hq=>?_;rw [if_neg]; rfl;intro z; exact h3 (List.any_eq_true.mpr ⟨q,hq,by simpa using z⟩)
      rw [this]
   ·rw [if_neg h1];have h3:(r.any fun p=>decide (p.1=k))=true:=by simpa [h1] using h
    by_cases h2:p.1=j
    ·have:¬ k=j:=fun z=>h1 (h2.trans z.symm);simp [h2,this]
    ·simp only [h2,decide_false]; exact ih h3
 ·rename_i h;unfold cV;rw [List.find?_append];by_cases h2:k=j
  ·subst h2;have:l.find? (fun p=>decide (p.1=k))=none:=by
    rw [hB];intro p hp z;exact h (List.any_eq_true.mpr ⟨p,hp,z⟩)
   rw [this]; simp
  ·simp [h2]
theorem rQ(l:List (κ×α))(k:κ)(v:α):(eW l k v).length<=l.length+1:=by
 unfold eW; split <;> simp
end
class uk (κ:Type) [DecidableEq κ] [Enc κ] where
 ok:(∀ k:κ,eS (enc k)=true)\/∀ k:κ,kQ (enc k)=true
noncomputable instance:uk Int:=⟨.inl fun _=>rfl⟩
noncomputable instance:uk T2:=⟨.inr fun _=>rfl⟩
noncomputable instance:uk T3:=⟨.inr fun _=>rfl⟩
theorem nc{κ α:Type} [DecidableEq κ] [Enc κ] [uk κ] [DecidableEq α] [Enc α](l:List (κ×α))(k:κ):iu (bD l) (enc k)=true:=by
 unfold iu bD;rcases uk.ok (κ:=κ) with h | h
 ·rw [oW]; left;rw [h k,Bool.true_and,nu,i7];intro p _; exact h p.1
 ·rw [oW]; right;rw [h k,Bool.true_and,nu,i7];intro p _; exact h p.1
end K2
end
section
namespace K2
open PySem (Str)
open Enc (enc)
mutual
noncomputable def oX:D->D->Bool
 | .int a,.int b=>decide (a < b)
 | .tup a,.tup b=>md a b
 | .dQ a,.dQ b=>md a b
 | _,_=>false
noncomputable def md:List D->List D->Bool
 | [],[]=>false
 | [],_ :: _=>true
 | _ :: _,[]=>false
 | x :: xs,y :: ys=>if iN x y=true then md xs ys else oX x y
end
theorem mZ(x y:D)(xs ys:List D):md (x :: xs) (y :: ys)=if iN x y=true then md xs ys else oX x y:=rfl
theorem OO(a b:Int):oX (.int a) (.int b)=decide (a < b):=rfl
inductive nV where
 | int | tup (l:List nV) | lst (s:nV)
mutual
noncomputable def da:nV->D->Bool
 | .int,.int _=>true
 | .tup l,.tup ds=>fu l ds
 | .lst s,.dQ ds=>gX s ds
 | _,_=>false
noncomputable def fu:List nV->List D->Bool
 | [],[]=>true
 | s :: l,d :: ds=>da s d&&fu l ds
 | _,_=>false
noncomputable def gX:nV->List D->Bool
 | _,[]=>true
 | s,d :: ds=>da s d&&gX s ds
end
theorem dO{a:D}(h:da .int a=true):∃ i,a=.int i:=by cases a <;> first | exact⟨_,rfl⟩ | exact bG (show false=true from h)
theorem dM{l:List nV}{a:D}(h:da (.tup l) a=true):∃ x,a=.tup x:=by cases a <;> first | exact⟨_,rfl⟩ | exact bG (show false=true from h)
theorem dN{l:nV}{a:D}(h:da (.lst l) a=true):∃ x,a=.dQ x:=by cases a <;> first | exact⟨_,rfl⟩ | exact bG (show false=true from h)
mutual
noncomputable def S5:nV->Nat
 | .int=>0
 | .tup l=>PR l+1
 | .lst s=>S5 s+1
noncomputable def PR:List nV->Nat
 | []=>0
 | s :: l=>max (S5 s) (PR l)
end
noncomputable def Uk(sh:nV):Bool:=decide (S5 sh<=7)&&(match sh with
 | .tup []=>false
 | _=>true)
noncomputable def Qv(a b:D):Bool:=!oX b a
noncomputable def qS(ds:List D):List D:=ds.mergeSort Qv
noncomputable def vJ(ds:List D)(G:Gp)(Q:DK):Prop:=match ds with
 | [x]=>∃ (sh:nV) (xs:List D),Er x G/\itemsOf x G=some xs/\xs.all (da sh)=true/\Uk sh=true/\xs.length < 64/\gZ G (.lst (qS xs)) Q
 | _=>False
class bC (α:Type) [DecidableEq α] [Enc α] where
 lt:α->α->Bool
 Be:nV
 C7:∀ a:α,da Be (enc a)=true
 RA:∀ a b:α,oX (enc a) (enc b)=lt a b
 IC:∀ a,lt a a=false
 trans:∀ a b c,lt a b=true->lt b c=true->lt a c=true
 oi:∀ a b,lt a b=false->lt b a=false->a=b
noncomputable instance:bC Int where
 lt:=fun a b=>decide (a < b)
 Be:=.int
 C7:=fun _=>rfl
 RA:=fun a b=>rfl
 IC:=fun a=>by simp
 trans:=fun a b c h1 h2=>by simp at *; lia
 oi:=fun a b h1 h2=>by simp at *; lia
noncomputable def tR{α:Type} [DecidableEq α](lt:α->α->Bool):List α->List α->Bool
 | [],[]=>false
 | [],_ :: _=>true
 | _ :: _,[]=>false
 | x :: xs,y :: ys=>if x=y then tR lt xs ys else lt x y
theorem wA{α:Type} [DecidableEq α](lt:α->α->Bool)(x y:α)(xs ys:List α):tR lt (x :: xs) (y :: ys)=if x=y then tR lt xs ys else lt x y:=rfl
section
variable {α:Type} [DecidableEq α] {lt:α->α->Bool}
theorem vg:∀ x:List α,tR lt x x=false
 | []=>rfl
 | a :: x=>by simp only [wA,if_true]; exact vg x
theorem ve(t:∀ a b,lt a b=false->lt b a=false->a=b):∀ (x y:List α),tR lt x y=false->tR lt y x=false->x=y
 | [],[],_,_=>rfl
 | [],_ :: _,h,_=>by cases h
 | _ :: _,[],_,h=>by cases h
 | a :: x,b :: y,h1,h2=>by
  simp only [wA] at h1 h2;by_cases e:a=b
  ·subst e;simp only [if_true] at h1 h2;rw [ve t x y h1 h2]
  ·rw [if_neg e] at h1;rw [if_neg (gm e)] at h2;exact absurd (t a b h1 h2) e
theorem pL(ir:∀ a,lt a a=false)(tr:∀ a b c,lt a b=true->lt b c=true->lt a c=true):∀ (x y z:List α),tR lt x y=true->tR lt y z=true->tR lt x z=true
 | [],[],_,h,_=>by cases h
 | [],_ :: _,[],_,h=>by cases h
 | [],_ :: _,_ :: _,_,_=>rfl
 | _ :: _,[],_,h,_=>by cases h
 | _ :: _,_ :: _,[],_,h=>by cases h
 | a :: x,b :: y,c :: z,h1,h2=>by
  simp only [wA] at h1 h2 ⊢;by_cases e1:a=b
  ·subst e1;simp only [if_true] at h1;by_cases e2:a=c
   ·subst e2;simp only [if_true] at h2 ⊢;exact pL ir tr x y z h1 h2
   ·rw [if_neg e2] at h2 ⊢; exact h2
  ·rw [if_neg e1] at h1;by_cases e2:b=c
   ·subst e2;rw [if_neg e1]; exact h1
   ·rw [if_neg e2] at h2;have h3:=tr _ _ _ h1 h2;rw [if_neg (by rintro rfl; rw [ir] at h3; cases h3)]; exact h3
end
theorem u7{α:Type} [DecidableEq α] [Enc α] [bC α]:∀ (x y:List α),md (x.map enc) (y.map enc)=tR (bC.lt (α:=α)) x y
 | [],[]=>rfl
 | [],_ :: _=>rfl
 | _ :: _,[]=>rfl
 | a :: x,b :: y=>by simp only [ak,mZ,wA,Enc.eqv,u7 x y,bC.RA,decide_eq_true_eq]
theorem BI{α:Type} [DecidableEq α] [Enc α] [bC α]:∀ (x:List α),gX (bC.Be α) (x.map enc)=true
 | []=>rfl
 | a :: x=>by simp only [ak,gX,bC.C7,BI x,Bool.and_self]
noncomputable instance {α:Type} [DecidableEq α] [Enc α] [bC α]:bC (List α) where
 lt:=tR bC.lt
 Be:=.lst (bC.Be α)
 C7:=fun a=>BI a
 RA:=fun a b=>u7 a b
 IC:=vg
 trans:=pL bC.IC bC.trans
 oi:=ve bC.oi
noncomputable def T2.l(t:T2):List Int:=[t.a,t.b]
noncomputable def T3.l(t:T3):List Int:=[t.a,t.b,t.c]
noncomputable instance:bC T2 where
 lt:=fun x y=>tR (fun a b=>decide (a < b)) x.l y.l
 Be:=.tup [.int,.int]
 C7:=fun _=>rfl
 RA:=fun a b=>u7 a.l b.l
 IC:=fun a=>vg _
 trans:=fun a b c=>pL (α:=Int) bC.IC bC.trans _ _ _
 oi:=fun ⟨a,b⟩ ⟨c,d⟩ h1 h2=>by
  have:=ve (α:=Int) bC.oi _ _ h1 h2;simpa [T2.l] using this
noncomputable instance:bC T3 where
 lt:=fun x y=>tR (fun a b=>decide (a < b)) x.l y.l
 Be:=.tup [.int,.int,.int]
 C7:=fun _=>rfl
 RA:=fun a b=>u7 a.l b.l
 IC:=fun a=>vg _
 trans:=fun a b c=>pL (α:=Int) bC.IC bC.trans _ _ _
 oi:=fun ⟨a,b,e⟩ ⟨c,d,f⟩ h1 h2=>by
  have:=ve (α:=Int) bC.oi _ _ h1 h2;simpa [T3.l] using this
section
variable {α:Type} [DecidableEq α] [Enc α] [bC α]
noncomputable def Nd(a b:α):Bool:=!bC.lt b a
noncomputable def QS(xs:List α):List α:=xs.mergeSort Nd
theorem Lz(xs:List α):qS (xs.map enc)=(QS xs).map enc:=by
 unfold qS QS;symm;exact List.map_mergeSort fun a _ b _=>by unfold Nd Qv; rw [bC.RA]
theorem BA(a b c:α)(h1:Nd a b=true)(h2:Nd b c=true):Nd a c=true:=by
 unfold Nd at *;simp only [Bool.not_eq_true'] at *;cases h:bC.lt c a with
 | false=>rfl
 | true =>
  by_cases e:a=b
  ·subst e; rw [h] at h2; cases h2
  ·have WV:bC.lt a b=true:=by
    cases q:bC.lt a b with
    | true=>rfl
    | false=>exact absurd (bC.oi _ _ q h1) e
   rw [bC.trans _ _ _ h WV] at h2; cases h2
theorem uC(xs:List α):(QS xs).Perm xs:=List.mergeSort_perm xs Nd
theorem QR{xs:List α}{x:α}:x∈QS xs↔x∈xs:=(uC xs).mem_iff
theorem Ly{xs:List α}(h:xs.Nodup):(QS xs).Nodup:=(uC xs).nodup_iff.mpr h
end
end K2
end
section
namespace K2
open PySem (Str)
mutual
theorem kS:∀ (sh:nV) (a:D),da sh a=true->iN a a=true
 | .int,.int i,_=>by show (i == i)=true; exact beq_self_eq_true i
 | .tup l,.tup xs,h=>by show k9 xs xs=true; exact xl l xs h
 | .lst l,.dQ xs,h=>by show k9 xs xs=true; exact xm l xs h
theorem xl:∀ (l:List nV) (xs:List D),fu l xs=true->k9 xs xs=true
 | [],[],_=>rfl
 | s :: l,x :: xs,h=>by
  have h:(da s x&&fu l xs)=true:=h;rw [aN] at h;show (iN x x&&k9 xs xs)=true;rw [kS s x h.1,xl l xs h.2]; rfl
theorem xm:∀ (s:nV) (xs:List D),gX s xs=true->k9 xs xs=true
 | _,[],_=>rfl
 | s,x :: xs,h=>by
  have h:(da s x&&gX s xs)=true:=h;rw [aN] at h;show (iN x x&&k9 xs xs)=true;rw [kS s x h.1,xm s xs h.2]; rfl
end
theorem UU(s:nV)(ih:∀ (a b:D),da s a=true->da s b=true->iN a b=true->a=b):∀ (xs ys:List D),gX s xs=true->gX s ys=true->k9 xs ys=true->xs=ys:=by
 intro xs;induction xs with
 | nil=>intro ys _ _ h; cases ys with
  | nil=>rfl
  | cons _ _=>cases h
 | cons x xs Wv =>
  intro ys h1 h2 h;cases ys with
  | nil=>cases h
  | cons y ys =>
   have h1:(da s x&&gX s xs)=true:=h1;have h2:(da s y&&gX s ys)=true:=h2;have h:(iN x y&&k9 xs ys)=true:=h;rw [aN] at h1 h2 h;rw [ih x y h1.1 h2.1 h.1,Wv ys h1.2 h2.2 h.2]
mutual
theorem qt:∀ (sh:nV) (a b:D),da sh a=true->da sh b=true->iN a b=true->a=b
 | .int,a,b,h1,h2,h=>by
  first | obtain⟨_,rfl⟩:=dO h1 | obtain⟨_,rfl⟩:=dM h1 | obtain⟨_,rfl⟩:=dN h1
  first | obtain⟨_,rfl⟩:=dO h2 | obtain⟨_,rfl⟩:=dM h2 | obtain⟨_,rfl⟩:=dN h2
  rw [i5] at h; rw [beq_iff_eq.mp h]
 | .tup l,a,b,h1,h2,h=>by
  first | obtain⟨_,rfl⟩:=dO h1 | obtain⟨_,rfl⟩:=dM h1 | obtain⟨_,rfl⟩:=dN h1
  first | obtain⟨_,rfl⟩:=dO h2 | obtain⟨_,rfl⟩:=dM h2 | obtain⟨_,rfl⟩:=dN h2
  rw [PM l _ _ h1 h2 h]
 | .lst l,a,b,h1,h2,h=>by
  first | obtain⟨_,rfl⟩:=dO h1 | obtain⟨_,rfl⟩:=dM h1 | obtain⟨_,rfl⟩:=dN h1
  first | obtain⟨_,rfl⟩:=dO h2 | obtain⟨_,rfl⟩:=dM h2 | obtain⟨_,rfl⟩:=dN h2
  rw [UU l (qt l) _ _ h1 h2 h]
theorem PM:∀ (l:List nV) (xs ys:List D),fu l xs=true->fu l ys=true->k9 xs ys=true->xs=ys
 | [],xs,ys,h1,h2,_=>by
  cases xs with
  | nil=>cases ys with
   | nil=>rfl
   | cons _ _=>cases h2
  | cons _ _=>cases h1
 | s :: l,xs,ys,h1,h2,h=>by
  cases xs with
  | nil=>cases h1
  | cons x xs =>
   cases ys with
   | nil=>cases h2
   | cons y ys =>
    have h1:(da s x&&fu l xs)=true:=h1;have h2:(da s y&&fu l ys)=true:=h2;have h:(iN x y&&k9 xs ys)=true:=h;rw [aN] at h1 h2 h;rw [qt s x y h1.1 h2.1 h.1,PM l xs ys h1.2 h2.2 h.2]
end
theorem ON(s:nV)(ih:∀ (a b:D),da s a=true->da s b=true->oX a b=false->oX b a=false->a=b):∀ (xs ys:List D),gX s xs=true->gX s ys=true->md xs ys=false->md ys xs=false->xs=ys:=by
 intro xs;induction xs with
 | nil=>intro ys _ _ h _; cases ys with
  | nil=>rfl
  | cons _ _=>cases h
 | cons x xs Wv =>
  intro ys h1 h2 h3 h4;cases ys with
  | nil=>cases h4
  | cons y ys =>
   have h1:(da s x&&gX s xs)=true:=h1;have h2:(da s y&&gX s ys)=true:=h2;rw [aN] at h1 h2;simp only [mZ] at h3 h4;by_cases e:iN x y=true
   ·have exy:=qt s x y h1.1 h2.1 e;subst exy;rw [if_pos e] at h3 h4;rw [Wv ys h1.2 h2.2 h3 h4]
   ·rw [if_neg e] at h3;by_cases e2:iN y x=true
    ·have:=qt s y x h2.1 h1.1 e2;subst this; exact absurd e2 e
    ·rw [if_neg e2] at h4;have:=ih x y h1.1 h2.1 h3 h4;subst this;exact absurd (kS s x h1.1) e
mutual
theorem xQ:∀ (sh:nV) (a b:D),da sh a=true->da sh b=true->oX a b=false->oX b a=false->a=b
 | .int,a,b,h1,h2,h3,h4=>by
  first | obtain⟨_,rfl⟩:=dO h1 | obtain⟨_,rfl⟩:=dM h1 | obtain⟨_,rfl⟩:=dN h1
  first | obtain⟨_,rfl⟩:=dO h2 | obtain⟨_,rfl⟩:=dM h2 | obtain⟨_,rfl⟩:=dN h2
  simp [OO] at h3 h4; congr 1; lia
 | .tup l,a,b,h1,h2,h3,h4=>by
  first | obtain⟨_,rfl⟩:=dO h1 | obtain⟨_,rfl⟩:=dM h1 | obtain⟨_,rfl⟩:=dN h1
  first | obtain⟨_,rfl⟩:=dO h2 | obtain⟨_,rfl⟩:=dM h2 | obtain⟨_,rfl⟩:=dN h2
  rw [Fq l _ _ h1 h2 h3 h4]
 | .lst l,a,b,h1,h2,h3,h4=>by
  first | obtain⟨_,rfl⟩:=dO h1 | obtain⟨_,rfl⟩:=dM h1 | obtain⟨_,rfl⟩:=dN h1
  first | obtain⟨_,rfl⟩:=dO h2 | obtain⟨_,rfl⟩:=dM h2 | obtain⟨_,rfl⟩:=dN h2
  rw [ON l (xQ l) _ _ h1 h2 h3 h4]
theorem Fq:∀ (l:List nV) (xs ys:List D),fu l xs=true->fu l ys=true->md xs ys=false->md ys xs=false->xs=ys
 | [],xs,ys,h1,h2,_,_=>by
  cases xs with
  | nil=>cases ys with
   | nil=>rfl
   | cons _ _=>cases h2
  | cons _ _=>cases h1
 | s :: l,xs,ys,h1,h2,h3,h4=>by
  cases xs with
  | nil=>cases h1
  | cons x xs =>
   cases ys with
   | nil=>cases h2
   | cons y ys =>
    have h1:(da s x&&fu l xs)=true:=h1;have h2:(da s y&&fu l ys)=true:=h2;rw [aN] at h1 h2;simp only [mZ] at h3 h4;by_cases e:iN x y=true
    ·have exy:=qt s x y h1.1 h2.1 e;subst exy;rw [if_pos e] at h3 h4;rw [Fq l xs ys h1.2 h2.2 h3 h4]
    ·rw [if_neg e] at h3;by_cases e2:iN y x=true
     ·have:=qt s y x h2.1 h1.1 e2;subst this; exact absurd e2 e
     ·rw [if_neg e2] at h4;have:=xQ s x y h1.1 h2.1 h3 h4;subst this;exact absurd (kS s x h1.1) e
end
mutual
theorem CW:∀ (sh:nV) (a:D),da sh a=true->oX a a=false
 | .int,.int i,_=>by rw [OO]; exact decide_eq_false (Int.lt_irrefl _)
 | .tup l,.tup xs,h=>by show md xs xs=false; exact Fs l xs h
 | .lst l,.dQ xs,h=>by show md xs xs=false; exact Ft l xs h
theorem Fs:∀ (l:List nV) (xs:List D),fu l xs=true->md xs xs=false
 | [],[],_=>rfl
 | s :: l,x :: xs,h=>by
  have h:(da s x&&fu l xs)=true:=h;rw [aN] at h;simp only [mZ,kS s x h.1,if_true]; exact Fs l xs h.2
theorem Ft:∀ (s:nV) (xs:List D),gX s xs=true->md xs xs=false
 | _,[],_=>rfl
 | s,x :: xs,h=>by
  have h:(da s x&&gX s xs)=true:=h;rw [aN] at h;simp only [mZ,kS s x h.1,if_true]; exact Ft s xs h.2
end
theorem Ip(s:nV)(ih:∀ (a b c:D),da s a=true->da s b=true->da s c=true->oX a b=true->oX b c=true->oX a c=true):∀ (xs ys zs:List D),gX s xs=true->gX s ys=true->gX s zs=true->md xs ys=true->md ys zs=true->md xs zs=true:=by
 intro xs;induction xs with
 | nil =>
  intro ys zs _ _ _ h4 h5;cases ys with
  | nil=>cases h4
  | cons _ _=>cases zs with
   | nil=>cases h5
   | cons _ _=>rfl
 | cons x xs Wv =>
  intro ys zs h1 h2 h3 h4 h5;cases ys with
  | nil=>cases h4
  | cons y ys =>
   cases zs with
   | nil=>cases h5
   | cons z zs =>
    have h1:(da s x&&gX s xs)=true:=h1;have h2:(da s y&&gX s ys)=true:=h2;have h3:(da s z&&gX s zs)=true:=h3;rw [aN] at h1 h2 h3;simp only [mZ] at h4 h5 ⊢;by_cases e1:iN x y=true
    ·have:=qt s x y h1.1 h2.1 e1;subst this;rw [if_pos e1] at h4;by_cases e2:iN x z=true
     ·rw [if_pos e2] at h5 ⊢;exact Wv ys zs h1.2 h2.2 h3.2 h4 h5
     ·rw [if_neg e2] at h5 ⊢; exact h5
    ·rw [if_neg e1] at h4;by_cases e2:iN y z=true
     ·have:=qt s y z h2.1 h3.1 e2;subst this;rw [if_neg e1]; exact h4
     ·rw [if_neg e2] at h5;have h6:=ih x y z h1.1 h2.1 h3.1 h4 h5;rw [if_neg (fun e3=>by
       have:=qt s x z h1.1 h3.1 e3;subst this;rw [CW s x h1.1] at h6; cases h6)]
      exact h6
mutual
theorem sC:∀ (sh:nV) (a b c:D),da sh a=true->da sh b=true->da sh c=true->oX a b=true->oX b c=true->oX a c=true
 | .int,a,b,c,h1,h2,h3,h4,h5=>by
  first | obtain⟨_,rfl⟩:=dO h1 | obtain⟨_,rfl⟩:=dM h1 | obtain⟨_,rfl⟩:=dN h1
  first | obtain⟨_,rfl⟩:=dO h2 | obtain⟨_,rfl⟩:=dM h2 | obtain⟨_,rfl⟩:=dN h2
  first | obtain⟨_,rfl⟩:=dO h3 | obtain⟨_,rfl⟩:=dM h3 | obtain⟨_,rfl⟩:=dN h3
  simp [OO] at *; lia
 | .tup l,a,b,c,h1,h2,h3,h4,h5=>by
  first | obtain⟨_,rfl⟩:=dO h1 | obtain⟨_,rfl⟩:=dM h1 | obtain⟨_,rfl⟩:=dN h1
  first | obtain⟨_,rfl⟩:=dO h2 | obtain⟨_,rfl⟩:=dM h2 | obtain⟨_,rfl⟩:=dN h2
  first | obtain⟨_,rfl⟩:=dO h3 | obtain⟨_,rfl⟩:=dM h3 | obtain⟨_,rfl⟩:=dN h3
  exact zj l _ _ _ h1 h2 h3 h4 h5
 | .lst l,a,b,c,h1,h2,h3,h4,h5=>by
  first | obtain⟨_,rfl⟩:=dO h1 | obtain⟨_,rfl⟩:=dM h1 | obtain⟨_,rfl⟩:=dN h1
  first | obtain⟨_,rfl⟩:=dO h2 | obtain⟨_,rfl⟩:=dM h2 | obtain⟨_,rfl⟩:=dN h2
  first | obtain⟨_,rfl⟩:=dO h3 | obtain⟨_,rfl⟩:=dM h3 | obtain⟨_,rfl⟩:=dN h3
  exact Ip l (sC l) _ _ _ h1 h2 h3 h4 h5
theorem zj:∀ (l:List nV) (xs ys zs:List D),fu l xs=true->fu l ys=true->fu l zs=true->md xs ys=true->md ys zs=true->md xs zs=true
 | [],xs,ys,zs,h1,h2,_,h,_=>by
  cases xs with
  | nil=>cases ys with
   | nil=>cases h
   | cons _ _=>cases h2
  | cons _ _=>cases h1
 | s :: l,xs,ys,zs,h1,h2,h3,h4,h5=>by
  cases xs with
  | nil=>cases h1
  | cons x xs =>
   cases ys with
   | nil=>cases h2
   | cons y ys =>
    cases zs with
    | nil=>cases h3
    | cons z zs =>
     have h1:(da s x&&fu l xs)=true:=h1;have h2:(da s y&&fu l ys)=true:=h2;have h3:(da s z&&fu l zs)=true:=h3;rw [aN] at h1 h2 h3;simp only [mZ] at h4 h5 ⊢;by_cases e1:iN x y=true
     ·have:=qt s x y h1.1 h2.1 e1;subst this;rw [if_pos e1] at h4;by_cases e2:iN x z=true
      ·rw [if_pos e2] at h5 ⊢;exact zj l xs ys zs h1.2 h2.2 h3.2 h4 h5
      ·rw [if_neg e2] at h5 ⊢; exact h5
     ·rw [if_neg e1] at h4;by_cases e2:iN y z=true
      ·have:=qt s y z h2.1 h3.1 e2;subst this;rw [if_neg e1]; exact h4
      ·rw [if_neg e2] at h5;have h6:=sC s x y z h1.1 h2.1 h3.1 h4 h5;rw [if_neg (fun e3=>by
        have:=qt s x z h1.1 h3.1 e3;subst this;rw [CW s x h1.1] at h6; cases h6)]
       exact h6
end
theorem Bw(sh:nV){a b:D}(h1:da sh a=true)(h2:da sh b=true)(h:oX a b=true):oX b a=false:=by
 cases q:oX b a with
 | false=>rfl
 | true=>have:=sC sh a b a h1 h2 h1 h q; rw [CW sh a h1] at this; cases this
theorem zk(sh:nV){a b c:D}(h1:da sh a=true)(h2:da sh b=true)(h3:da sh c=true)(q1:oX b a=false)(q2:oX c b=false):oX c a=false:=by
 cases h:oX c a with
 | false=>rfl
 | true =>
  exfalso;cases q:oX a b with
  | false =>
   have:=xQ sh a b h1 h2 q q1;subst this; rw [h] at q2; cases q2
  | true=>rw [sC sh c a b h3 h1 h2 h q] at q2; cases q2
theorem uF(sh:nV){xs ys:List D}(hx:∀ x∈xs,da sh x=true)(hp:ys.Perm xs)(hs:ys.Pairwise fun a b=>oX b a=false):qS xs=ys:=by
 have hy:∀ y∈ys,da sh y=true:=fun y h=>hx y (hp.mem_iff.mp h);have p1:(qS xs).Perm xs:=List.mergeSort_perm xs Qv;have hz:∀ z∈qS xs,da sh z=true:=fun z h=>hx z (p1.mem_iff.mp h);have s1:(qS xs).Pairwise fun a b=>oX b a=false:=by
  let NH:List { d:D // da sh d=true }:=xs.attach.map fun x=>⟨x.1,hx x.1 x.2⟩
  have ex:xs=NH.map (·.1):=by
   simp only [NH,bw]
   conv=>lhs; rw [<-List.attach_map_subtype_val xs]
   rfl
  have e2:qS xs=(NH.mergeSort fun a b=>Qv a.1 b.1).map (·.1):=by
   unfold qS;rw [ex];exact(List.map_mergeSort (r:=fun (a b:{ d:D // da sh d=true })=>Qv a.1 b.1) (s:=Qv) (f:=fun x=>x.1) (l:=NH) fun a _ b _=>rfl).symm
  rw [e2,A9]
  have:=List.pairwise_mergeSort (le:=fun (a b:{ d:D // da sh d=true })=>Qv a.1 b.1) (fun a b c h1 h2=>by
   unfold Qv at *;simp only [Bool.not_eq_true'] at *;exact zk sh a.2 b.2 c.2 h1 h2) (fun a b=>by
   unfold Qv;cases q:oX b.1 a.1 with
   | false=>rfl
   | true=>rw [Bw sh b.2 a.2 q]; rfl) NH
  exact this.imp fun h=>by unfold Qv at h; simpa using h
 refine List.Perm.eq_of_pairwise (le:=fun a b=>oX b a=false) (fun a b ha hb h h'=>?_) s1 hs (p1.trans hp.symm);exact xQ sh a b (hz a ha) (hy b hb) h' h
end K2
end
section
namespace K2
open PySem (Str)
open Enc (enc)
noncomputable def nk(k:Nat):List D->List D
 | []=>[]
 | d :: r=>.tup [.int (k:Int),d] :: nk (k+1) r
theorem BQ:∀ (ds:List D) (k i:Nat),(nk k ds)[i]?=(ds[i]?).map fun d=>D.tup [.int ((k+i:Nat):Int),d]
 | [],k,i=>by simp [nk]
 | d :: r,k,0=>by simp [nk]
 | d :: r,k,i+1=>by
  rw [nk,ae,BQ r (k+1) i,ae];congr 1; funext x; congr 3; lia
theorem BO:∀ (ds:List D) (k:Nat),(nk k ds).length=ds.length
 | [],_=>rfl
 | d :: r,k=>by rw [nk,aj,aj,BO r]
noncomputable def vp(x:D)(G1:Gp)(R:List D->(Gp->Prop)->Gp->Prop):Prop:=match x with
 | .dQ ds=>R (nk 0 ds) (fun _=>True) G1
 | .ref p=>(match G1 p with
  | some (.lst ds)=>R (nk 0 ds) (fun G2=>G2 p=some (.lst ds)) G1
  | _=>False)
 | _=>False
noncomputable def Pe(a:gI):MM:=fun E τ G R=>a E τ G fun x G1=>vp x G1 R
noncomputable def YU(P:D->Gp->Prop):List D->Gp->Prop
 | [x],G=>P x G
 | _,_=>False
noncomputable def YT(P:D->D->Gp->Prop):List D->Gp->Prop
 | [x,y],G=>P x y G
 | _,_=>False
noncomputable def ph:List D->List D->List D
 | x :: xs,y :: ys=>.tup [x,y] :: ph xs ys
 | _,_=>[]
theorem El:∀ (xs ys:List D) (i:Nat),(ph xs ys)[i]?=(xs[i]?).bind fun x=>(ys[i]?).map fun y=>D.tup [x,y]
 | [],ys,i=>by simp [ph]
 | x :: xs,[],i=>by cases h:(x :: xs)[i]? <;> simp [ph]
 | x :: xs,y :: ys,0=>by simp [ph]
 | x :: xs,y :: ys,i+1=>by rw [ph,ae,El xs ys i,ae,ae]
theorem Ek:∀ (xs ys:List D),(ph xs ys).length=min xs.length ys.length
 | [],ys=>by simp [ph]
 | x :: xs,[]=>by simp [ph]
 | x :: xs,y :: ys=>by rw [ph,aj,Ek xs ys,aj,aj]; lia
noncomputable def vb(x:D)(G:Gp):Option (List D×(Gp->Prop)):=match x with
 | .dQ ds=>some (ds,fun _=>True)
 | .ref p=>(match G p with
  | some (.lst ds)=>some (ds,fun G2=>G2 p=some (.lst ds))
  | _=>none)
 | _=>none
noncomputable def tU(x y:D)(G1:Gp)(R:List D->(Gp->Prop)->Gp->Prop):Prop:=match vb x G1,vb y G1 with
 | some (xs,k1),some (ys,k2)=>R (ph xs ys) (fun G2=>k1 G2/\k2 G2) G1
 | _,_=>False
noncomputable def Pd(a b:gI):MM:=fun E τ G R=>a E τ G fun x G1=>b E τ G1 fun y G2=>tU x y G2 R
noncomputable def C3(x:D)(G1:Gp)(R:List D->(Gp->Prop)->Gp->Prop):Prop:=match x with
 | .kI kvs=>R (kvs.map (·.1)) (fun _=>True) G1
 | _=>False
noncomputable def ng(a:gI):MM:=fun E τ G R=>a E τ G fun x G1=>C3 x G1 R
noncomputable def IsL(G:Gp)(d:D)(ds:List D):Prop:=d=.dQ ds\/∃ a,d=.ref a/\G a=some (.lst ds)
theorem IsL.dQ{G:Gp}{ds:List D}:IsL G (.dQ ds) ds:=.inl rfl
theorem IsL.enc{α:Type} [DecidableEq α] [Enc α]{G:Gp}(xs:List α):IsL G (enc xs) (xs.map enc):=.inl rfl
theorem IsL.ref{G:Gp}{a:Nat}{ds:List D}(h:G a=some (.lst ds)):IsL G (.ref a) ds:=.inr ⟨a,rfl,h⟩
theorem Fv{G:Gp}{d:D}{ds:List D}(h:IsL G d ds):∃ ok:Gp->Prop,vb d G=some (ds,ok)/\∀ G',fm G G'->ok G':=by
 rcases h with rfl | ⟨a,rfl,e⟩
 ·exact⟨_,rfl,fun _ _=>trivial⟩
 ·unfold vb; simp only [e]; exact⟨_,rfl,fun G' l=>l a _ e⟩
theorem Md{G:Gp}{d d':D}{ds ds':List D}{R:List D->(Gp->Prop)->Gp->Prop}(h:IsL G d ds)(h':IsL G d' ds')(k:∀ ok:Gp->Prop,(∀ G',fm G G'->ok G')->R (ph ds ds') ok G):tU d d' G R:=by
 obtain⟨k1,e1,h1⟩:=Fv h;obtain⟨k2,e2,h2⟩:=Fv h';unfold tU; simp only [e1,e2];exact k _ fun G' l=>⟨h1 G' l,h2 G' l⟩
theorem pM{G:Gp}{d:D}{ds:List D}(h:IsL G d ds):itemsOf d G=some ds:=by
 rcases h with rfl | ⟨a,rfl,e⟩
 ·rfl
 ·unfold itemsOf; simp only [e]
theorem Hy{G:Gp}{d:D}{ds:List D}(h:IsL G d ds):Er d G:=by
 rcases h with rfl | ⟨a,rfl,e⟩
 ·trivial
 ·unfold Er; simp only [e]
theorem Cw{G:Gp}{d:D}{ds:List D}{lo hi:Option Int}{Q:DK}(h:IsL G d ds)(k:gZ G (.lst (cut ds lo hi)) Q):LI d lo hi G Q:=by
 rcases h with rfl | ⟨a,rfl,e⟩
 ·exact k
 ·rw [QW e]; exact k
theorem R5{G:Gp}{d:D}{ds:List D}{Q:DK}(h:IsL G d ds)(k:Q (.int (ds.length:Int)) G):ue [d] G Q:=by
 rcases h with rfl | ⟨a,rfl,e⟩
 ·exact k
 ·rw [GA e]; exact k
theorem Gy{G:Gp}{d:D}{ds:List D}{Q:DK}(h:IsL G d ds)(k:gZ G (.lst ds) Q):vK [d] G Q:=by
 unfold vK; simp only [pM h]; exact k
theorem zX{α:Type} [DecidableEq α] [Enc α] [bC α]{G:Gp}{d:D}{xs:List α}{Q:DK}(h:IsL G d (xs.map enc))(hl:xs.length < 64)(k:gZ G (.lst ((QS xs).map enc)) Q)(ok:autoParam (Uk (bC.Be α)=true) Ad._auto_1):vJ [d] G Q :=
 ⟨bC.Be α,xs.map enc,Hy h,pM h,by rw [nu,i7]; intro x _; exact bC.C7 x,ok,by rw [au]; exact hl,by rw [Lz]; exact k⟩
theorem HW{G:Gp}{d x:D}{ds:List D}{i:Int}{Q:DK}(h:IsL G d ds)(e:qu ds i=some x)(k:Q x G):ip d (.int i) G Q:=by
 rcases h with rfl | ⟨a,rfl,e2⟩
 ·rw [QX e]; exact k
 ·rw [QY e2 e]; exact k
theorem va{G:Gp}{d:D}{ds:List D}(h:IsL G d ds):rD d G=some ds:=by
 rcases h with rfl | ⟨a,rfl,e⟩
 ·rfl
 ·unfold rD; simp only [e]
theorem R9{G:Gp}{d e:D}{ds es:List D}{Q:DK}(h:IsL G d ds)(h':IsL G e es)(hz:ds.length+es.length<=SZ)(k:gZ G (.lst (ds++es)) Q):Jl d e G Q:=by
 unfold Jl; simp only [va h,va h']; exact⟨hz,k⟩
theorem pD{G:Gp}{d e:D}{ds es:List D}{Q:DK}(h:IsL G d ds)(h':IsL G e es)(hz:ds.length+es.length<=SZ)(k:gZ G (.lst (ds++es)) Q):hV d e G Q:=by
 have:=R9 h h' hz k;rcases h with rfl | ⟨a,rfl,_⟩
 ·rw [uV]; exact this
 ·rw [uW]; exact this
theorem vF{α:Type}(xs:List α)(i:Nat)(h:i<=xs.length):cut xs (some (i:Int)) none=xs.drop i:=by
 unfold cut jL;simp only;rw [if_neg (by lia),df,Nat.min_eq_left h];exact Nw (by rw [cJ]; lia)
theorem DG{α:Type}(xs:List α)(i:Nat)(h:i<=xs.length):cut xs none (some (i:Int))=xs.take i:=by
 unfold cut jL;simp only;rw [if_neg (by lia),df,Nat.min_eq_left h];simp
theorem vE{α β:Type}(f:α->β)(xs:List α)(lo hi:Option Int):cut (xs.map f) lo hi=(cut xs lo hi).map f:=by
 unfold cut; rw [au,Au,Av]
theorem qa{α:Type}(xs:List α){k:Int}(h0:0<=k)(h1:k < xs.length):qu xs k=some (xs[k.toNat]'(by lia)):=by
 unfold qu Ku;rw [if_pos h0,if_pos h1];show xs[k.toNat]?=_;exact ay (by lia)
theorem HU{n:Nat}{pre post:List D}{d:D}(h:gJ 0 n=pre++d :: post):d=.int (pre.length:Int)/\pre.length < n:=by
 have hl:pre.length < n:=by
  have:=congrArg dH h;simp [gJ] at this; lia
 have:=congrArg (fun l=>l[pre.length]?) h;simp only [gJ,bI,List.getElem?_range hl] at this;rw [cm (aH _)] at this;simp at this;exact⟨this.symm,hl⟩
noncomputable def TL{α β:Type} [DecidableEq α] [Enc α] [DecidableEq β] [Enc β](pre:α->Prop)(f:α->β):lO:=fun ds G Q _=>∃ a:α,ds=[enc a]/\pre a/\Q (enc (f a)) G
noncomputable def YA{α β γ:Type} [DecidableEq α] [Enc α] [DecidableEq β] [Enc β] [DecidableEq γ] [Enc γ](pre:α->β->Prop)(f:α->β->γ):lO:=fun ds G Q _=>∃ (a:α) (b:β),ds=[enc a,enc b]/\pre a b/\Q (enc (f a b)) G
end K2
end
section
namespace K2
open PySem (Str)
open Enc (enc)
noncomputable def YK:A3
 | .int i,.int j,G,Q=>(0<=j/\j<=1000000/\i.natAbs < 2 ^ 64)/\Q (.int (i ^ j.toNat)) G
 | _,_,_,_=>False
noncomputable def qB:Nat:=2 ^ 4000
noncomputable def Bn:A3
 | .int i,.int j,G,Q=>(i.natAbs < qB/\j.natAbs < qB)/\Q (.int (i * j)) G
 | _,_,_,_=>False
theorem EV{i j:Int}{G:Gp}{Q:DK}:YK (.int i) (.int j) G Q=((0<=j/\j<=1000000/\i.natAbs < 2 ^ 64)/\Q (.int (i ^ j.toNat)) G):=rfl
theorem sf{i j:Int}{G:Gp}{Q:DK}:Bn (.int i) (.int j) G Q=((i.natAbs < qB/\j.natAbs < qB)/\Q (.int (i * j)) G):=rfl
noncomputable def vA:D->Gp->Option (List (D×D))
 | .kI kvs,_=>some kvs
 | .ref a,G=>match G a with
  | some (.gF kvs)=>some kvs
  | _=>none
 | _,_=>none
noncomputable def vj(kvs:List (D×D)):Bool:=kvs.all fun p=>eS p.1
noncomputable def B0(ds:List D)(G:Gp)(Q:DK):Prop:=match ds with
 | [x]=>∃ kvs,vA x G=some kvs/\vj kvs=true/\kvs.length<=SZ/\gZ G (.gF kvs) Q
 | _=>False
noncomputable def Fp(x:D)(ds:List D)(G:Gp)(Q:DK):Prop:=match ds with
 | [k,d]=>∃ kvs,vA x G=some kvs/\vj kvs=true/\eS k=true/\Q ((look kvs k).getD d) G
 | _=>False
noncomputable def FE(x:D)(G1:Gp)(R:List D->(Gp->Prop)->Gp->Prop):Prop:=match x with
 | .kI kvs=>vj kvs=true/\R (kvs.map fun p=>.tup [p.1,p.2]) (fun _=>True) G1
 | _=>False
noncomputable def kR(a:gI):MM:=fun E τ G R=>a E τ G fun x G1=>FE x G1 R
noncomputable def Gr(k v:gI):gI:=fun E τ G Q=>k E τ G fun x G1=>v E τ G1 fun y G2=>eS x=true/\gZ G2 (.gF [(x,y)]) Q
noncomputable def AW(l m:List (Int×Int)):Bool:=l.length == m.length&&l.all fun p=>cV m p.1 == some p.2
noncomputable def VW(neg:Bool):A3:=fun x y G Q=>∃ l m:List (Int×Int),vA x G=some (bD l)/\vA y G=some (bD m)/\Q (.bl (if neg then !AW l m else AW l m)) G
noncomputable def LJ(neg:Bool):A3:=fun x y G Q=>CB neg x y G Q\/VW neg x y G Q
noncomputable def xD{κ α:Type} [DecidableEq κ] [Enc κ] [DecidableEq α] [Enc α](G:Gp)(d:D)(l:List (κ×α)):Prop:=vA d G=some (bD l)
section
variable {κ α:Type} [DecidableEq κ] [Enc κ] [DecidableEq α] [Enc α] {l:List (κ×α)} {G G':Gp} {d:D}
theorem xD.ref{a:Nat}(h:G a=some (.gF (bD l))):xD G (.ref a) l:=by unfold xD vA; simp only [h]
theorem xD.kI:xD G (.kI (bD l)) l:=rfl
theorem xD.inv(h:xD G d l):d=.kI (bD l)\/∃ a,d=.ref a/\G a=some (.gF (bD l)):=by
 unfold xD vA at h;split at h
 ·exact .inl (by rw [bc h])
 ·rename_i a;split at h
  ·rename_i kvs e;exact .inr ⟨a,rfl,by rw [e,bc h]⟩
  ·cases h
 ·cases h
noncomputable def Tj(_:Gp)(d:D)(l:List (κ×α)):Prop:=d=.kI (bD l)
theorem Tj.p(h:Tj G d l):xD G' d l:=by unfold Tj at h; rw [h]; exact .kI
theorem oP{β:Type} [DecidableEq β] [Enc β](l:List (Int×β)):vj (bD l)=true:=by
 unfold vj bD; rw [nu,i7]; intro p _; rfl
theorem BR(l:List (κ×α)):(bD l).length=l.length:=by unfold bD; rw [au]
theorem Hz(h:xD G d l):NK d G:=by
 rcases h.inv with rfl | ⟨a,rfl,e⟩
 ·trivial
 ·unfold NK; simp only [e]
theorem O8 {C:String} {Q:DK} (h:xD G d l) (k:Q (.bl (C == "dict")) G):isAt C d G Q:=by
 rcases h.inv with rfl | ⟨a,rfl,e⟩
 ·exact k
 ·rw [O7]; simp only [e]; exact k
end
section
variable {α:Type} [DecidableEq α] [Enc α] {l:List (Int×α)} {G:Gp} {d:D}
theorem GB{Q:DK}(h:xD G d l)(hs:l.length<=SZ)(k:gZ G (.gF (bD l)) Q):B0 [d] G Q:=⟨_,h,oP l,by rw [BR]; exact hs,k⟩
theorem Rz{Q:DK}{i:Int}{e:α}(h:xD G d l)(k:Q (enc ((cV l i).getD e)) G):Fp d [.int i,enc e] G Q:=by
 refine⟨_,h,oP l,rfl,?_⟩;have:(look (bD l) (.int i)).getD (enc e)=enc ((cV l i).getD e):=by
  rw [show (D.int i)=enc i from rfl,vc]; cases cV l i <;> rfl
 rw [this]; exact k
theorem k8{G0:Gp}{R:List D->(Gp->Prop)->Gp->Prop}(h:Tj G0 d l)(le0:fm G0 G)(k:∀ ok:Gp->Prop,(∀ G',fm G0 G'->ok G')->R (l.map fun p=>.tup [.int p.1,enc p.2]) ok G):FE d G R:=by
 unfold Tj at h;rw [h];refine⟨oP l,?_⟩;have:(bD l).map (fun p=>D.tup [p.1,p.2])=l.map fun p=>.tup [.int p.1,enc p.2]:=by unfold bD; rw [bw]; rfl
 rw [this];exact k _ fun G' le=>trivial
theorem pN{G0:Gp}{R:List D->(Gp->Prop)->Gp->Prop}(h:Tj G0 d l)(le0:fm G0 G)(k:∀ ok:Gp->Prop,(∀ G',fm G0 G'->ok G')->R (l.map fun p=>.int p.1) ok G):C3 d G R:=by
 unfold Tj at h;rw [h];show R ((bD l).map (·.1)) _ G;have:(bD l).map (·.1)=l.map fun p=>D.int p.1:=by unfold bD; rw [bw]; rfl
 rw [this];exact k _ fun G' le=>trivial
theorem Bo{i:Int}{v:α}{Q:DK}(h:xD G d l)(e:cV l i=some v)(k:Q (enc v) G):ip d (.int i) G Q:=by
 have hk:iu (bD l) (.int i)=true:=nc l i;have hl:look (bD l) (.int i)=some (enc v):=by rw [show (D.int i)=enc i from rfl,vc,e]; rfl
 rcases h.inv with rfl | ⟨a,rfl,e⟩
 ·rw [xJ,hl]; exact⟨hk,k⟩
 ·rw [CA,e]; simp only [hl]; exact⟨hk,k⟩
theorem fN{a:Nat}{i:Int}{v:α}{Q:Gp->Prop}(h:G a=some (.gF (bD l)))(hs:l.length < SZ)(k:Q (eY G a (.gF (bD (eW l i v))))):yy (.ref a) (.int i) (enc v) G Q:=by
 unfold yy;simp only [h];refine⟨nc l i,by rw [BR]; exact hs,?_⟩;rw [show (D.int i)=enc i from rfl,J4]; exact k
end
theorem Od{neg:Bool}{G:Gp}{d e:D}{l m:List (Int×Int)}{Q:DK}(h1:xD G d l)(h2:xD G e m)(k:Q (.bl (if neg then !AW l m else AW l m)) G):LJ neg d e G Q:=.inr ⟨l,m,h1,h2,k⟩
theorem EZ{neg:Bool}{G:Gp}{i j:Int}{Q:DK}(k:Q (.bl (if neg then !decide (i=j) else decide (i=j))) G):LJ neg (.int i) (.int j) G Q:=.inl ⟨_,_,.int _,.int _,by
 have:iN (.int i) (.int j)=decide (i=j):=Enc.eqv i j;rw [this]; exact k⟩
end K2
end
section
namespace K2
open PySem (Str)
open Enc (enc)
noncomputable abbrev TF2:=mw->iQ->Gp->(List Str->Gp->Prop)->Prop
end K2
end
section
namespace K2
open PySem (Str)
noncomputable def Me(x:D)(G1:Gp)(R:List D->(Gp->Prop)->Gp->Prop):Prop:=match x with
 | .kI kvs=>(kvs.all fun p=>kQ p.1)=true/\R (kvs.map fun p=>.tup [p.1,p.2]) (fun _=>True) G1
 | _=>False
noncomputable def C2(a:gI):MM:=fun E τ G R=>a E τ G fun x G1=>Me x G1 R
end K2
end
section
namespace K2
open PySem (Str)
noncomputable def Gq(kv:List (Int×Int)):gI:=fun _ _ G Q=>gZ G (.gF (bD kv)) Q
end K2
end
section
namespace K2
open PySem (Str)
open Enc (enc)
noncomputable def h2(t:T2):Int:=PySem.reduceHash (PySem.Builtin.Tuple.tupleHashOf [PySem.hashInt t.a,PySem.hashInt t.b])
end K2
end
section
namespace K2
open PySem (Str)
noncomputable def R4(ds:List D)(G:Gp)(Q:DK):Prop:=match ds with
 | [x]=>(match rD x G with
  | some xs=>Q (.tup xs) G
  | none=>False)
 | _=>False
end K2
end
section
namespace K2
open PySem (Str)
noncomputable def only(a:Nat)(o:GO):Gp:=fun b=>if b=a then some o else none
end K2
end
section
namespace K2
open PySem (Str)
noncomputable def ql(kvs:List (PK×D))(k:PK):Option D:=(kvs.find? fun p=>decide (p.1=k)).map (·.2)
noncomputable def LK(kvs:List (PK×D))(k:PK)(v:D):List (PK×D) :=
 if (kvs.any fun p=>decide (p.1=k))=true then kvs.map (fun p=>if p.1=k then (p.1,v) else p) else kvs++[(k,v)]
noncomputable def tyP(x:D)(G:Gp):Prop:=match x with
 | .ref a=>(match G a with
  | some (.sJ _)=>True
  | _=>False)
 | .oE _=>True
 | _=>False
noncomputable def Fo(x:D)(ds:List D)(G:Gp)(Q:DK):Prop:=match x,ds with
 | .ref a,[k,d]=>∃ kvs pk,G a=some (.sJ kvs)/\k=qi pk/\Q ((ql kvs pk).getD d) G
 | .oE kvs,[k,d]=>∃ pk,k=qi pk/\Q ((ql kvs pk).getD d) G
 | _,_=>False
noncomputable def HN(o k d:D)(G:Gp)(Q:Gp->Prop):Prop:=match o with
 | .ref a=>∃ kvs pk,G a=some (.sJ kvs)/\k=qi pk/\kvs.length < SZ/\Q (eY G a (.sJ (LK kvs pk d)))
 | _=>False
noncomputable def FK(o k:gI):AA:=fun E d τ G Q=>o E τ G fun x G1=>k E τ G1 fun y G2=>HN x y d G2 fun G3=>Q τ G3
noncomputable def P2:gI:=fun _ _ G Q=>gZ G (.sJ []) Q
noncomputable def PZ(k v:gI):gI:=fun E τ G Q=>k E τ G fun x G1=>v E τ G1 fun y G2=>∃ pk,x=qi pk/\gZ G2 (.sJ [(pk,y)]) Q
noncomputable def Mf(x:D)(G1:Gp)(R:List D->(Gp->Prop)->Gp->Prop):Prop:=match x with
 | .oE kvs=>R (kvs.map fun p=>.tup [qi p.1,p.2]) (fun _=>True) G1
 | _=>False
noncomputable def vo(a:gI):MM:=fun E τ G R=>a E τ G fun x G1=>Mf x G1 R
noncomputable def Fm(x:D)(ds:List D)(G:Gp)(Q:DK):Prop:=match x,ds with
 | .ref a,[k]=>∃ kvs d,G a=some (.gF kvs)/\(kQ k=true/\(kvs.all fun p=>kQ p.1)=true/\look kvs k=some d)/\Q d (eY G a (.gF (kvs.filter fun p=>!iN p.1 k)))
 | _,_=>False
end K2
end
section
namespace K2
open PySem
section
variable {prog:bN} {w:World} {K:Type} [DecidableEq K] (knd:Eg prog w K)
inductive sZ (h:Heap):List K->List Value->Prop
 | nil:sZ h [] []
 | cons {k:K} {b:Addr} {ks:List K} {vs:List Value}:knd.is h k b->sZ h ks vs->sZ h (k :: ks) (.ref b :: vs)
noncomputable def tj (h:Heap) (ks:List K) (a:Addr):Prop:=∃ o items n,h.get? a=some o/\o.cls=.type "tuple"/\o.data=.seq items n/\sZ knd h ks items.toList
variable {knd}
theorem sZ.inj{h:Heap}{x y:List K}{vs:List Value}(hx:sZ knd h x vs)(hy:sZ knd h y vs):x=y:=by
 induction hx generalizing y with
 | nil=>cases hy; rfl
 | cons h1 _ ih =>
  cases hy with
  | cons h2 t2=>rw [knd.inj h1 h2,ih t2]
theorem sZ.keeps{h h':Heap}{ks:List K}{vs:List Value}{d:Addr}{o:Obj}{es ep}(x:sZ knd h ks vs)(ho:h.get? d=some o)(hd:o.data=.dict es ep)(hs:fJ d h h'):sZ knd h' ks vs:=by
 induction x with
 | nil=>exact .nil
 | cons h1 _ ih=>exact .cons (knd.keeps h1 ho hd hs) ih
theorem tj.typeIs {s:aA} {ks:List K} {a:Addr} (x:tj knd s.heap ks a):s.TypeIs (.ref a) "tuple":=let ⟨o,_,_,ho,hc,_⟩:=x; ⟨o,ho,hc⟩
theorem tj.inj{h:Heap}{a:Addr}{x y:List K}(hx:tj knd h x a)(hy:tj knd h y a):x=y:=by
 obtain⟨o,items,n,ho,_,hd,hi⟩:=hx;obtain⟨o',Zw,n',D6,_,Ay,UE⟩:=hy;obtain rfl:o=o':=bc (ho.symm.trans D6);rw [hd] at Ay;injection Ay with h1 _
 subst h1;exact hi.inj UE
theorem tj.keeps{h h':Heap}{ks:List K}{a d:Addr}{o:Obj}{es ep}(x:tj knd h ks a)(ho:h.get? d=some o)(hd:o.data=.dict es ep)(hs:fJ d h h'):tj knd h' ks a:=by
 obtain⟨o',items,n,D6,hc,Ay,hi⟩:=x;have D7:a≠d:=by
  rintro rfl;obtain rfl:o'=o:=bc (D6.symm.trans ho);rw [hd] at Ay; exact nomatch Ay
 exact⟨o',items,n,(hs.2 a D7).trans D6,hc,Ay,hi.keeps ho hd hs⟩
noncomputable def CP(knd:Eg prog w K)(ks:List K):Int:=reduceHash (eD (ks.map knd.hash))
noncomputable def kW(knd:Eg prog w K):List K->Nat
 | []=>0
 | k :: ks=>knd.draws k+kW knd ks
theorem u0(ks:List K)(k:K):kW knd (ks++[k])=kW knd ks+knd.draws k:=by
 induction ks with
 | nil=>simp [kW]
 | cons a r ih=>rw [aB,kW,kW,ih,oA]
variable {A:dS} {E:Value->aA->Prop} {s:aA}
theorem KC{ks:List K}{a:Addr}{Q:Int->aA->Prop}(hu:A.units < cLine/\knd.room A.in1)(hk:tj knd s.heap ks a)(h:Q (CP knd ks) { s with toks:=s.toks+(kW knd ks+1) }) :
  wpAny (model prog w) A (pyHash (.ref a)) Q E s:=by
 have hT:=hk.typeIs;obtain⟨o,items,n,ho,_,hd,hi⟩:=hk;unfold pyHash
 first | unfold pyHashByItsType | skip
 first | refine ah (wpAny_cRoomFor_or (.inr hu.1) ?_) | skip
 refine ah (x8 hT F.slot_tuple_hash.lookup ?_);show wpAny _ _ (if (some (Value.builtin "tuple.__hash__") == some gj)=true then _ else _) Q E s;rw [if_neg (by rw [beq_builtin_none]; exact jt)];refine ah (x8 hT F.slot_tuple_hash.lookup ?_);show wpAny _ _ (callSpecialIfBoundUnlessNone? (.ref a) "__hash__" _ >>= _) Q E s;refine ah (wpAny_callSpecialIfBoundUnlessNone?_slot hT F.slot_tuple_hash (dj F.slot_tuple_hash hT F.entry_tuple_hash ?_ (F.args_tuple_hash_1 _)));show wpAny _ _ (xG (.ref a) >>= _) _ _ s;refine ah (D9 ho hd ?_);refine ah ?_;rw [<-ym];refine lu _
  (fun rest (b:Array Int) s'=>∃ done left,ks=done++left/\sZ knd s.heap left rest/\b.toList=done.map knd.hash/\s'={ s with toks:=s.toks+kW knd done })
  _ ?_ ?_ _ _ ⟨[],ks,rfl,hi,rfl,rfl⟩
 ·rintro x rest b s' ⟨done,left,rfl,hl,hb,rfl⟩;cases hl with
  | @cons k _ ks' _ h1 RI =>
   refine ah (knd.pyHash hu.2 h1 ?_)
   first
    | exact aE ⟨done++[k],ks',by simp,RI,by simp [hb],by simp [u0,oA]⟩
    | exact ah (aE (aE ⟨done++[k],ks',by simp,RI,by simp [hb],by simp [u0,oA]⟩))
 ·rintro b s' ⟨done,left,rfl,hl,hb,rfl⟩;cases hl;rw [cP] at h;show wpAny _ _ (retInt (eD b.toList)) _ _ _;rw [hb];refine wpAny_ret_mkInt ?_;show wpAny _ _ (if (decide (-(2:Int) ^ 63<=eD (done.map knd.hash))&&decide (eD (done.map knd.hash) < 2 ^ 63))=true then _ else _) Q E _;unfold CP reduceHash at h;by_cases hr:(decide (-(2:Int) ^ 63<=eD (done.map knd.hash))&&decide (eD (done.map knd.hash) < 2 ^ 63))=true
  ·rw [if_pos hr];rw [if_pos hr] at h;exact aE (by simpa [oA] using h)
  ·rw [if_neg hr];rw [if_neg hr] at h;exact ah (wpAny_rule (aE (by simpa [oA] using h)))
theorem IZ{x y:List K}{a b:Addr}{P:Fin->aA->Prop}(hu:knd.room A)(hx:tj knd s.heap x a)(hy:tj knd s.heap y b)(h:P (.done (.ret (.bool (decide (x=y))))) s) :
  wpAny (model prog w) A (Builtin.«tuple.__eq__» ⟨[.ref a,.ref b],[]⟩) P E s:=by
 have hTb:=hy.typeIs;obtain⟨oa,xs,na,hoa,_,hda,hia⟩:=hx;obtain⟨ob,ys,nb,hob,_,Mm,hib⟩:=hy;show wpAny _ _ (isInstance (.ref b) (.type "tuple") >>= _) _ _ s;refine ah (o6 hTb yg ?_);simp only [bL,ar,if_false];refine ah (D9 hoa hda ?_);refine ah (D9 hob Mm ?_);refine ah ?_;refine lu _
  (fun rest r s'=>r.1=none/\s'=s/\∃ x' y' NH VF,rest=List.zip NH VF/\sZ knd s.heap x' NH/\sZ knd s.heap y' VF/\decide (x'=y')=decide (x=y)/\(NH.length == VF.length)=(xs.size == ys.size))
  _ ?_ ?_ _ _ ⟨rfl,rfl,x,y,xs.toList,ys.toList,rfl,hia,hib,rfl,by simp⟩
 ·rintro⟨u,v⟩ rest r s' ⟨hr,rfl,x',y',NH,VF,hz,ZH,SQ,RK,hlen⟩;cases ZH with
  | nil=>simp at hz
  | @cons k1 u' x'' Yt h1 ZG =>
   cases SQ with
   | nil=>simp at hz
   | @cons k2 v' y'' Ys h2 ZE =>
    simp only [qy,List.cons.injEq,Prod.mk.injEq] at hz;obtain⟨⟨rfl,rfl⟩,rfl⟩:=hz;refine ah (knd.eqBool hu h1 h2 ?_);by_cases hk:k1=k2
    ·subst hk;rw [decide_eq_true rfl];simp only [bL,ar,if_false];refine aE ⟨rfl,rfl,x'',y'',Yt,Ys,rfl,ZG,ZE,?_,by simpa using hlen⟩;rw [<-RK];by_cases Vn:x''=y''
     ·simp [Vn]
     ·simp [Vn]
    ·rw [decide_eq_false hk];simp only [di,if_true];have hf:decide (x=y)=false:=by rw [<-RK]; simp [hk]
     rw [hf] at h;exact ah (aE (aE (aE h)))
 ·rintro⟨r1,r2⟩ s' ⟨hr,rfl,x',y',NH,VF,hz,ZH,SQ,RK,hlen⟩;simp only at hr;subst hr;refine aE ?_;have aad:(xs.size == ys.size)=decide (x=y):=by
   rw [<-RK,<-hlen];cases ZH with
   | nil =>
    cases SQ with
    | nil=>simp
    | cons _ _=>simp
   | cons _ _ =>
    cases SQ with
    | nil=>simp
    | cons _ _=>simp at hz
  show P (.done (.ret (.bool (xs.size == ys.size)))) s';rw [aad]; exact h
theorem BN{x y:List K}{a b:Addr}{Q:Bool->aA->Prop}(hu:A.units < cLine/\knd.room A.in1)(hx:tj knd s.heap x a)(hy:tj knd s.heap y b)(h:Q (decide (x=y)) s) :
  wpAny (model prog w) A (eqBool (.ref a) (.ref b)) Q E s:=by
 unfold eqBool
 try with_reducible refine fe ?_
 show wpAny _ _ (if (fU a == fU b)=true then _ else _) Q E s;by_cases WV:(fU a == fU b)=true
 ·rw [if_pos WV];have e:a=b:=by have:=eq_of_beq WV; injection this
  subst e;obtain rfl:=hx.inj hy;exact ah (wpAny_rule (aE (by simpa using h)))
 ·rw [if_neg WV];exact ah (wpAny_richCompare_same_room (op:=.Eq) hx.typeIs hy.typeIs F.slot_tuple_eq
   (dj F.slot_tuple_eq hx.typeIs F.entry_tuple_eq (IZ hu.2 hx hy ⟨_,rfl,(fun e=>nomatch e),uv h⟩) (F.args_tuple_eq_2 _ _)) hu.1)
theorem yP{ks:List K}{a:Addr}{Q:Bool->aA->Prop}(n:Nat)(hq:∀ (k:K) (b:Addr) (Q:Bool->aA->Prop),knd.is s.heap k b->Q true s->wpAny (model prog w) A (Nt n (.ref b)) Q E s)(hk:tj knd s.heap ks a)(h:Q true s):wpAny (model prog w) A (Nt (n+1) (.ref a)) Q E s:=by
 have hT:=hk.typeIs;obtain⟨o,items,n',ho,_,hd,hi⟩:=hk;unfold Nt;refine ah (x8 hT F.slot_tuple_eq.lookup ?_);show wpAny _ _ (isInstance (.ref a) (.type "tuple") >>= _) _ _ s;refine ah (o6 hT yg ?_);simp only [bL,ar,if_false];refine ah (wpAny_seqItems ho hd ?_);refine ah ?_;show wpAny _ _ (forIn items _ _) _ _ s;rw [<-ym];refine lu _ (fun rest r s'=>r.1=none/\s'=s/\∃ l,sZ knd s.heap l rest) _ ?_ ?_ _ _ ⟨rfl,rfl,_,hi⟩
 ·rintro v rest r s' ⟨hr,rfl,l,AN⟩;cases AN with
  | cons h1 h2 =>
   refine ah (hq _ _ _ h1 ?_);simp only [bL,ar,if_false];exact aE ⟨rfl,rfl,_,h2⟩
 ·rintro⟨r1,r2⟩ s' ⟨hr,rfl,_⟩;simp only at hr;subst hr;exact aE h
end
theorem J2{prog:bN}{w:World}{K:Type} [DecidableEq K]{knd:KeyKind prog w K}{A:dS}{E:Value->aA->Prop}{s:aA}{ks:List K}{a:Addr}{Q:Bool->aA->Prop}(n:Nat)(hk:IsTupleKey knd s.heap ks a)(h:Q true s):wpAny (model prog w) A (Nt (n+1) (.ref a)) Q E s:=by
 have hT:=hk.typeIs;obtain⟨o,items,n',ho,_,hd,hi⟩:=hk;unfold Nt;refine ah (x8 hT F.slot_tuple_eq.lookup ?_);show wpAny _ _ (isInstance (.ref a) (.type "tuple") >>= _) _ _ s;refine ah (o6 hT yg ?_);simp only [bL,ar,if_false];refine ah (wpAny_seqItems ho hd ?_);refine ah ?_;show wpAny _ _ (forIn items _ _) _ _ s;rw [<-ym];refine lu _ (fun rest r s'=>r.1=none/\s'=s/\∀ v∈rest,carriedByValue v=true) _ ?_ ?_ _ _ ⟨rfl,rfl,hi.byValue⟩
 ·rintro v rest r s' ⟨hr,rfl,AN⟩;rw [eqIsQuiet_byValue _ (AN v c4)];refine ah (aE ?_);simp only [bL,ar,if_false];exact aE ⟨rfl,rfl,fun u Kx=>AN u (aO _ Kx)⟩
 ·rintro⟨r1,r2⟩ s' ⟨hr,rfl,_⟩;simp only at hr;subst hr;exact aE h
section
variable {prog:bN} {w:World}
noncomputable def Vk{K:Type} [DecidableEq K](knd:KeyKind prog w K):Eg prog w (List (List K)) where
 is:=tj (iW knd)
 hash:=CP (iW knd)
 draws:=fun ks=>kW (iW knd) ks+1
 room:=fun A=>A.units < cLine/\(iW knd).room A.in1
 inj:=fun hx hy=>hx.inj hy
 keeps:=fun x ho hd hs=>x.keeps ho hd hs
 pyHash:=fun hu hk h=>KC hu hk h
 eqBool:=fun hu hx hy h=>BN hu hx hy h
 quiet:=fun hk h=>yP 7 (fun _ _ _ h1 h2=>J2 6 h1 h2) hk h
noncomputable def Zj{K:Type} [DecidableEq K](knd:KeyKind prog w K):Eg prog w (List (List (List K))) where
 is:=tj (Vk knd)
 hash:=CP (Vk knd)
 draws:=fun ks=>kW (Vk knd) ks+1
 room:=fun A=>A.units < cLine/\(Vk knd).room A.in1
 inj:=fun hx hy=>hx.inj hy
 keeps:=fun x ho hd hs=>x.keeps ho hd hs
 pyHash:=fun hu hk h=>KC hu hk h
 eqBool:=fun hu hx hy h=>BN hu hx hy h
 quiet:=fun hk h=>yP 7 (fun _ _ _ h1 h2=>yP 6 (fun _ _ _ h3 h4=>J2 5 h3 h4) h1 h2) hk h
theorem LW{K:Type} [DecidableEq K]{knd:KeyKind prog w K}{A:dS}(hu:A.units+8 < cLine):(Zj knd).room A:=by
 refine⟨?_,?_,?_⟩
 ·lia
 ·show A.units+1 < cLine; lia
 ·show A.units+1+1 < cLine; lia
theorem Fc{K:Type} [DecidableEq K]{knd:KeyKind prog w K}{A:dS}(hu:A.units+8 < cLine):(Zj knd).room A.in1:=by
 refine⟨?_,?_,?_⟩
 ·show A.units+1 < cLine; lia
 ·show A.units+1+1 < cLine; lia
 ·show A.units+1+1+1 < cLine; lia
end
end K2
end
section
namespace K2
open PySem
section
variable {K:Type} [DecidableEq K]
noncomputable def Tu(xs:List (K×Addr×Value))(k:K):List (K×Addr×Value):=xs.filter fun x=>decide (x.1≠k)
theorem Ln{xs:List (K×Addr×Value)}(hn:(xs.map (·.1)).Nodup):∀ {j:Nat} {k:K} {p:Addr×Value},xs[j]?=some (k,p)->xs.eraseIdx j=Tu xs k:=by
 induction xs with
 | nil=>intro j k p h; simp at h
 | cons x r ih =>
  intro j k p h;rw [ak,aP] at hn;cases j with
  | zero =>
   simp only [aa,Lj] at h;subst h;unfold Tu;rw [M0,MZ (by simp)];symm;refine List.filter_eq_self.mpr fun y hy=>?_;have:y.1≠k:=fun z=>hn.1 (List.mem_map.mpr ⟨y,hy,z⟩);simpa using this
  | succ j =>
   simp only [ae] at h;have:x.1≠k:=fun z=>hn.1 (by rw [z]; exact List.mem_map.mpr ⟨_,br h,rfl⟩);unfold Tu;rw [M3,MY (by simpa using this),ih hn.2 h];rfl
theorem Bv{α β:Type}(f:α->β):∀ (l:List α) (j:Nat),(l.eraseIdx j).map f=(l.map f).eraseIdx j
 | [],_=>rfl
 | _ :: _,0=>rfl
 | a :: l,j+1=>congrArg (f a :: ·) (Bv f l j)
end
section
variable {prog:bN} {w:World} {K:Type} [DecidableEq K] {knd:Eg prog w K} {A:dS} {E:Value->aA->Prop} {s:aA}
theorem Cj{d a:Addr}{xs:List (K×Addr×Value)}{k:K}{p:Addr×Value}{Q:Option fE->aA->Prop}(hu:knd.room A)(RJ:knd.is s.heap k a)(hm:s.heap.DictOfH knd d xs)(hp:atKey xs k=some p)(hsz:xs.length<=bg)
  (hQ:∀ e:fE,e.val=p.2->∀ h',h'.DictOfH knd d (Tu xs k)->fJ d s.heap h'->Q (some e) { s with heap:=h',toks:=s.toks+knd.draws k }) :
  wpAny (model prog w) A (Ej d (.ref a)) Q E s:=by
 obtain⟨o,es,ep,ho,hc,hd,he,Z4,hn⟩:=hm;unfold Ej
 try with_reducible refine fe ?_
 refine ah (knd.pyHash hu RJ (ah (wpAny_dictFind_heap (s:={ s with toks:=s.toks+knd.draws k }) hu RJ ho hd he Z4 hn ?_ ?_)))
 ·intro UC;rw [atKey_none_of_get UC] at hp; cases hp
 ·intro j q hj;rw [atKey_of_get hn hj] at hp;cases hp;refine ah (gO (s:={ s with toks:=s.toks+knd.draws k }) ho hd ?_);rw [entry_at he j,hj]
  refine ah (wpAny_updateDictKeys (hz:=by have e:=size_of_entries he; lia) (s:={ s with toks:=s.toks+knd.draws k }) ho hd (aE (hQ _ rfl _ ⟨_,_,ep+1,vT _ ho (Obj.isFreed_of_dict (Obj.data_mapDictKeys hd _)),
   hc.mapDictKeys _,Obj.data_mapDictKeys hd _,?_,?_,?_⟩ (jI ..))))
  ·rw [<-Ln hn hj,Bv,<-he];obtain⟨l⟩:=es;simp
  ·intro x hx;exact knd.keeps (Z4 x (List.mem_filter.mp hx).1) ho hd (jI ..)
  ·exact nB (lD _ kH) hn
theorem Oj{d a:Addr}{xs:List (K×Addr×Value)}{k:K}{p:Addr×Value}{Q:Value->aA->Prop}(hu:knd.room A.in1)(RJ:knd.is s.heap k a)(hm:s.heap.DictOfH knd d xs)(hp:atKey xs k=some p)(hsz:xs.length<=bg)
  (hQ:∀ h',h'.DictOfH knd d (Tu xs k)->fJ d s.heap h'->Q p.2 { s with heap:=h',toks:=s.toks+knd.draws k }) :
  wpAny (model prog w) A (call (.builtin "dict.pop") [.ref d,.ref a]) Q E s:=by
 have hT:s.TypeIs (.ref d) "dict":=by obtain⟨o,es,ep,ho,hc,_⟩:=hm; exact⟨o,ho,hc.1⟩
 refine dj tH hT PySem.F.entry_dict_pop ?_ (PySem.F.args_dict_pop_2 _ _);unfold Builtin.«dict.pop»;refine ah ?_;unfold Builtin.Dict.keyAndDefault;refine ah (x9 hT ?_);show wpAny _ _ (pure (d,fU a,none)) _ _ s;refine aE ?_;have Z1:=hm;obtain⟨o,es,ep,ho,hc,hd,he,Z4,hn⟩:=Z1;have D7:es.isEmpty=false:=by
  have:xs≠[]:=by rintro rfl; cases hp
  have h2:=size_of_entries he;have h3:0 < xs.length:=List.length_pos_iff.mpr this;rw [Array.isEmpty_eq_false_iff];rintro rfl;simp at h2; lia
 simp only [keyPart,Option.isSome_none,ar,if_false];refine ah (gO ho hd (ah (aE ?_)));rw [D7,if_neg jt];refine ah (Cj hu RJ hm hp hsz fun e hv h' Z1 SS=>?_);simp only [Option.isNone_some,ar,if_false];exact ah (wpAny_letGo (aE ⟨e.val,rfl,by rw [hv]; exact hQ h' Z1 SS⟩))
end
end K2
end
section
namespace K2
open PySem PySem.Spec PyProof.Rows L2
noncomputable def Vu(K:ai)(H:Hp)(a:Addr)(xs:List V):Prop :=
 (∃ o,H a=some (.kd o (.lst xs))) \/
  ∃ (o:Obj) (bZ:Array Value) (n:Nat),K.lookup a=some o/\o.cls=.type "list"/\o.dict=none/\o.data=.seq bZ n/\bZ.size<=bg/\Vals xs bZ.toList
theorem Vu.sq{K:ai}{H:Hp}{a:Addr}{xs:List V}(h:Vu K H a xs):oZ K H a xs:=by
 rcases h with ⟨o,h⟩ | h
 ·exact .inl (.inr ⟨o,h⟩)
 ·exact .inr h
noncomputable def eM:Key->D
 | .inl i=>.int i
 | .inr x=>.str x
noncomputable def ExcAt(K:ai)(H:Hp)(a:Addr)(c:Str):Prop:=∃ (o:Obj) (C:Addr),H a=some (.kd o (.ext fun h=>h.get? a=some o))/\o.cls=.ref C/\dF K cb c=some (some (.ref C))
noncomputable def Ld(K:ai)(H:Hp)(a:Addr)(c:Str)(ns:List Str)(vs:List V):Prop:=∃ (o:Obj) (C dx:Addr) (od:Obj) (fs:List (Str×V)),H a=some (.kd o (.ext fun h=>h.get? a=some o))/\o.cls=.ref C/\dF K cb c=some (some (.ref C))/\o.dict=some dx/\H dx=some (.kd od (.xd fs))/\PySem.W.notCls o=true/\fs.map (·.1)=ns/\fs.map (·.2)=vs
noncomputable def ZS(hs:List Int):Int:=reduceHash (eD hs)
noncomputable def hP(k:PK):Int:=ZS (k.map fun r=>ZS (r.map fun t=>ZS (t.map hashInt)))
noncomputable def Jp(a:Addr)(xs:List (PK×Addr×Value))(h:Heap):Prop:=xs.length<=bg/\(a == dn)=false/\∃ (o:Obj) (es:Array fE) (ep:Nat),h.get? a=some o/\o.ExactDict/\o.data=.dict es ep/\es.toList=xs.map (fun x=>⟨hP x.1,.ref x.2.1,x.2.2⟩)/\(xs.map (·.1)).Nodup
noncomputable def Se(kvs:List (PK×D))(ks vs:List V)(xs:List (PK×Addr×Value)):Prop:=kvs.map (fun p=>p.1)=xs.map (fun x=>x.1)/\ks=xs.map (fun x=>V.ref x.2.1)/\Vals vs (xs.map fun x=>x.2.2)
mutual
inductive cE (K:ai) (H:Hp):V->D->Prop
 | eU:cE K H .eU .eU
 | bl (b:Bool):cE K H (.bl b) (.bl b)
 | int (i:Int):cE K H (.int i) (.int i)
 | str (x:Str):cE K H (.str x) (.str x)
 | tup {a:Addr} {vs:List V} {ds:List D}:H a=some (.tup vs)->bt K H vs ds->cE K H (.ref a) (.tup ds)
 | dQ {a:Addr} {vs:List V} {ds:List D}:Vu K H a vs->bt K H vs ds->cE K H (.ref a) (.dQ ds)
 | pA {a:Addr} {o:Obj} {kv:List (Key×V)} {kvs:List (D×D)}:H a=some (.kd o (.dK kv))->mE K H kv kvs->cE K H (.ref a) (.kI kvs)
 | pz {a:Addr} {o:Obj} {kv:List (List Key×V)} {kvs:List (D×D)}:H a=some (.kd o (.dT kv))->mx K H kv kvs->cE K H (.ref a) (.kI kvs)
 | ref (a:Addr):cE K H (.ref a) (.ref a)
 | exc {a:Addr} {c:Str}:ExcAt K H a c->cE K H (.ref a) (.exc c)
 | Ga {a:Addr} {c:Str} {ns:List Str} {vs:List V} {ds:List D}:Ld K H a c ns vs->bt K H vs ds->cE K H (.ref a) (.Ga c ns ds)
 | oE {a:Addr} {o:Obj} {xs:List (PK×Addr×Value)} {ks vs:List V} {kvs:List (PK×D)}:H a=some (.kd o (.ext (Jp a xs)))->Se kvs ks vs xs->bt K H ks (kvs.map fun p=>qi p.1)->bt K H vs (kvs.map fun p=>p.2)->cE K H (.ref a) (.oE kvs)
inductive bt (K:ai) (H:Hp):List V->List D->Prop
 | nil:bt K H [] []
 | cons {v:V} {d:D} {vs:List V} {ds:List D}:cE K H v d->bt K H vs ds->bt K H (v :: vs) (d :: ds)
inductive mE (K:ai) (H:Hp):List (Key×V)->List (D×D)->Prop
 | nil:mE K H [] []
 | cons {k:Key} {v:V} {d:D} {r:List (Key×V)} {t:List (D×D)}:cE K H v d->mE K H r t->mE K H ((k,v) :: r) ((eM k,d) :: t)
inductive mx (K:ai) (H:Hp):List (List Key×V)->List (D×D)->Prop
 | nil:mx K H [] []
 | cons {k:List Key} {v:V} {d:D} {r:List (List Key×V)} {t:List (D×D)}:cE K H v d->mx K H r t->mx K H ((k,v) :: r) ((.tup (k.map eM),d) :: t)
end
structure Kp(H H':Hp):Prop where
 tup:∀ a xs,H a=some (.tup xs)->H' a=some (.tup xs)
 kd:∀ a o u,H a=some (.kd o u)->H' a=some (.kd o u)
theorem Kp.refl(H:Hp):Kp H H:=⟨fun _ _ h=>h,fun _ _ _ h=>h⟩
theorem Kp.trans{H H1 H2:Hp}(a:Kp H H1)(b:Kp H1 H2):Kp H H2:=⟨fun c xs h=>b.tup c xs (a.tup c xs h),fun c o u h=>b.kd c o u (a.kd c o u h)⟩
theorem Kp.sqT{K:ai}{H H':Hp}{a:Addr}{xs:List V}(k:Kp H H')(h:xZ K H a xs):xZ K H' a xs:=by
 rcases h with (h | ⟨o,h⟩) | h
 ·exact .inl (.inl (k.tup _ _ h))
 ·exact .inl (.inr ⟨o,k.kd _ _ _ h⟩)
 ·exact .inr h
theorem Kp.TJ{K:ai}{H H':Hp}{a:Addr}{xs:List V}(k:Kp H H')(h:Vu K H a xs):Vu K H' a xs:=by
 rcases h with ⟨o,h⟩ | h
 ·exact .inl ⟨o,k.kd _ _ _ h⟩
 ·exact .inr h
theorem ExcAt.mono{K:ai}{H H':Hp}(k:Kp H H'){a:Addr}{c:Str}(h:ExcAt K H a c):ExcAt K H' a c :=
 let ⟨o,C,h1,h2,h3⟩:=h
 ⟨o,C,k.kd _ _ _ h1,h2,h3⟩
theorem Ld.mono{K:ai}{H H':Hp}(k:Kp H H'){a:Addr}{c:Str}{ns:List Str}{vs:List V}(h:Ld K H a c ns vs):Ld K H' a c ns vs :=
 let ⟨o,C,dx,od,fs,h1,h2,h3,h4,h5,h6⟩:=h
 ⟨o,C,dx,od,fs,k.kd _ _ _ h1,h2,h3,h4,k.kd _ _ _ h5,h6⟩
theorem bt.ID{K:ai}{H:Hp}{P:List V->List D->Prop}(h0:P [] [])(h1:∀ {v:V} {d:D} {vs:List V} {ds:List D},cE K H v d->bt K H vs ds->P vs ds->P (v :: vs) (d :: ds)){vs:List V}{ds:List D}(h:bt K H vs ds):P vs ds :=
 bt.rec (motive_1:=fun _ _ _=>True) (motive_2:=fun vs ds _=>P vs ds) (motive_3:=fun _ _ _=>True) (motive_4:=fun _ _ _=>True) trivial (fun _=>trivial) (fun _=>trivial) (fun _=>trivial) (fun _ _ _=>trivial) (fun _ _ _=>trivial) (fun _ _ _=>trivial) (fun _ _ _=>trivial) (fun _=>trivial) (fun _=>trivial) (fun _ _ _=>trivial) (fun _ _ _ _ _ _=>trivial) h0 (fun a b _ ih=>h1 a b ih) trivial (fun _ _ _ _=>trivial) trivial (fun _ _ _ _=>trivial) h
theorem cE.mono{K:ai}{H H':Hp}(k:Kp H H'):∀ {v:V} {d:D},cE K H v d->cE K H' v d:=fun h =>
 cE.rec (motive_1:=fun v d _=>cE K H' v d) (motive_2:=fun v d _=>bt K H' v d) (motive_3:=fun v d _=>mE K H' v d) (motive_4:=fun v d _=>mx K H' v d)
  .eU .bl .int .str (fun h _ r=>.tup (k.tup _ _ h) r) (fun h _ r=>.dQ (k.TJ h) r) (fun h _ r=>.pA (k.kd _ _ _ h) r) (fun h _ r=>.pz (k.kd _ _ _ h) r) .ref (fun h=>.exc (h.mono k)) (fun h _ r=>.Ga (h.mono k) r) (fun h z _ _ r1 r2=>.oE (k.kd _ _ _ h) z r1 r2) .nil (fun _ _ a b=>.cons a b) .nil (fun _ _ a b=>.cons a b) .nil (fun _ _ a b=>.cons a b) h
theorem bt.mono{K:ai}{H H':Hp}(k:Kp H H'){v:List V}{d:List D}(h:bt K H v d):bt K H' v d :=
 bt.ID (P:=fun v d=>bt K H' v d) .nil (fun r _ ih=>.cons (r.mono k) ih) h
theorem mE.mono{K:ai}{H H':Hp}(k:Kp H H'){v:List (Key×V)}{d:List (D×D)}(h:mE K H v d):mE K H' v d :=
 mE.rec (motive_1:=fun v d _=>cE K H' v d) (motive_2:=fun v d _=>bt K H' v d) (motive_3:=fun v d _=>mE K H' v d) (motive_4:=fun v d _=>mx K H' v d)
  .eU .bl .int .str (fun h _ r=>.tup (k.tup _ _ h) r) (fun h _ r=>.dQ (k.TJ h) r) (fun h _ r=>.pA (k.kd _ _ _ h) r) (fun h _ r=>.pz (k.kd _ _ _ h) r) .ref (fun h=>.exc (h.mono k)) (fun h _ r=>.Ga (h.mono k) r) (fun h z _ _ r1 r2=>.oE (k.kd _ _ _ h) z r1 r2) .nil (fun _ _ a b=>.cons a b) .nil (fun _ _ a b=>.cons a b) .nil (fun _ _ a b=>.cons a b) h
theorem mx.mono{K:ai}{H H':Hp}(k:Kp H H'){v:List (List Key×V)}{d:List (D×D)}(h:mx K H v d):mx K H' v d :=
 mx.rec (motive_1:=fun v d _=>cE K H' v d) (motive_2:=fun v d _=>bt K H' v d) (motive_3:=fun v d _=>mE K H' v d) (motive_4:=fun v d _=>mx K H' v d)
  .eU .bl .int .str (fun h _ r=>.tup (k.tup _ _ h) r) (fun h _ r=>.dQ (k.TJ h) r) (fun h _ r=>.pA (k.kd _ _ _ h) r) (fun h _ r=>.pz (k.kd _ _ _ h) r) .ref (fun h=>.exc (h.mono k)) (fun h _ r=>.Ga (h.mono k) r) (fun h z _ _ r1 r2=>.oE (k.kd _ _ _ h) z r1 r2) .nil (fun _ _ a b=>.cons a b) .nil (fun _ _ a b=>.cons a b) .nil (fun _ _ a b=>.cons a b) h
theorem bt.length{K:ai}{H:Hp}:∀ {vs:List V} {ds:List D},bt K H vs ds->vs.length=ds.length:=fun h =>
 bt.ID (P:=fun vs ds=>vs.length=ds.length) rfl (fun _ _ ih=>congrArg (· + 1) ih) h
theorem bt.get{K:ai}{H:Hp}:∀ {vs:List V} {ds:List D} {i:Nat} {d:D},bt K H vs ds->ds[i]?=some d->∃ v,vs[i]?=some v/\cE K H v d:=by
 intro vs ds i d h;refine bt.ID (P:=fun vs ds=>∀ (i:Nat) (d:D),ds[i]?=some d->∃ v,vs[i]?=some v/\cE K H v d) (fun i d e=>by cases e) (fun r _ ih i d e=>?_) h i d;cases i with
 | zero=>cases e; exact⟨_,rfl,r⟩
 | succ i=>exact ih i d e
theorem bt.append{K:ai}{H:Hp}:∀ {vs ws:List V} {ds es:List D},bt K H vs ds->bt K H ws es->bt K H (vs++ws) (ds++es):=fun {_ ws _ es} h s =>
 bt.ID (P:=fun vs ds=>bt K H (vs++ws) (ds++es)) s (fun r _ ih=>.cons r ih) h
theorem bt.take{K:ai}{H:Hp}:∀ {vs:List V} {ds:List D} (n:Nat),bt K H vs ds->bt K H (vs.take n) (ds.take n):=fun {_ _} n h =>
 bt.ID (P:=fun vs ds=>∀ n,bt K H (vs.take n) (ds.take n)) (fun n=>by rw [As,As]; exact .nil) (fun r _ ih n=>by
  cases n with
  | zero=>exact .nil
  | succ n=>exact .cons r (ih n)) h n
theorem bt.drop{K:ai}{H:Hp}:∀ {vs:List V} {ds:List D} (n:Nat),bt K H vs ds->bt K H (vs.drop n) (ds.drop n):=fun {_ _} n h =>
 bt.ID (P:=fun vs ds=>∀ n,bt K H (vs.drop n) (ds.drop n)) (fun n=>by rw [Aw,Aw]; exact .nil) (fun r t ih n=>by
  cases n with
  | zero=>exact .cons r t
  | succ n=>exact ih n) h n
theorem bt.set{K:ai}{H:Hp}{v:V}{d:D}(r:cE K H v d):∀ {vs:List V} {ds:List D} (i:Nat),bt K H vs ds->bt K H (vs.set i v) (ds.set i d):=fun {_ _} i h =>
 bt.ID (P:=fun vs ds=>∀ i,bt K H (vs.set i v) (ds.set i d)) (fun i=>by rw [Ca,Ca]; exact .nil) (fun q t ih i=>by
  cases i with
  | zero=>exact .cons r t
  | succ i=>exact .cons q (ih i)) h i
theorem bt.one{K:ai}{H:Hp}:∀ {vs:List V} {d:D},bt K H vs [d]->∃ v,vs=[v]/\cE K H v d:=by
 intro vs d h;cases h with
 | cons r t=>cases t; exact⟨_,rfl,r⟩
theorem bt.two{K:ai}{H:Hp}:∀ {vs:List V} {d e:D},bt K H vs [d,e]->∃ v u,vs=[v,u]/\cE K H v d/\cE K H u e:=by
 intro vs d e h;cases h with
 | cons r t =>
  obtain⟨u,rfl,q⟩:=bt.one t;exact⟨_,_,rfl,r,q⟩
theorem bt.zero{K:ai}{H:Hp}:∀ {vs:List V},bt K H vs []->vs=[]
 | _,.nil=>rfl
theorem bt.ints{K:ai}{H:Hp}:∀ {vs:List V} {ns:List Int},bt K H vs (ns.map D.int)->vs=ns.map V.int:=by
 intro vs ns;induction ns generalizing vs with
 | nil=>intro h; exact h.zero
 | cons n ns ih =>
  intro h;cases h with
  | cons r t =>
   cases r;rw [ih t]; rfl
theorem bt.Ke{K:ai}{H:Hp}:∀ (ns:List Int),bt K H (ns.map V.int) (ns.map D.int)
 | []=>.nil
 | n :: ns=>.cons (.int n) (bt.Ke ns)
theorem mE.ind{K:ai}{H:Hp}{motive:∀ (kv:List (Key×V)) (kvs:List (D×D)),mE K H kv kvs->Prop}(nil:motive [] [] .nil)
  (cons:∀ {k:Key} {v:V} {d:D} {r:List (Key×V)} {t:List (D×D)} (re:cE K H v d) (rs:mE K H r t),motive r t rs->motive ((k,v) :: r) ((eM k,d) :: t) (.cons re rs)):∀ {kv:List (Key×V)} {kvs:List (D×D)} (h:mE K H kv kvs),motive kv kvs h:=fun h =>
 mE.rec (motive_1:=fun _ _ _=>True) (motive_2:=fun _ _ _=>True) (motive_3:=motive) (motive_4:=fun _ _ _=>True) trivial (fun _=>trivial) (fun _=>trivial) (fun _=>trivial) (fun _ _ _=>trivial) (fun _ _ _=>trivial) (fun _ _ _=>trivial) (fun _ _ _=>trivial) (fun _=>trivial) (fun _=>trivial) (fun _ _ _=>trivial) (fun _ _ _ _ _ _=>trivial) trivial (fun _ _ _ _=>trivial) nil (fun a b _ ih=>cons a b ih) trivial (fun _ _ _ _=>trivial) h
theorem mx.ind{K:ai}{H:Hp}{motive:∀ (kv:List (List Key×V)) (kvs:List (D×D)),mx K H kv kvs->Prop}(nil:motive [] [] .nil)
  (cons:∀ {k:List Key} {v:V} {d:D} {r:List (List Key×V)} {t:List (D×D)} (re:cE K H v d) (rs:mx K H r t),motive r t rs->motive ((k,v) :: r) ((.tup (k.map eM),d) :: t) (.cons re rs)):∀ {kv:List (List Key×V)} {kvs:List (D×D)} (h:mx K H kv kvs),motive kv kvs h:=fun h =>
 mx.rec (motive_1:=fun _ _ _=>True) (motive_2:=fun _ _ _=>True) (motive_3:=fun _ _ _=>True) (motive_4:=motive) trivial (fun _=>trivial) (fun _=>trivial) (fun _=>trivial) (fun _ _ _=>trivial) (fun _ _ _=>trivial) (fun _ _ _=>trivial) (fun _ _ _=>trivial) (fun _=>trivial) (fun _=>trivial) (fun _ _ _=>trivial) (fun _ _ _ _ _ _=>trivial) trivial (fun _ _ _ _=>trivial) trivial (fun _ _ _ _=>trivial) nil (fun a b _ ih=>cons a b ih) h
theorem mE.length{K:ai}{H:Hp}:∀ {v:List (Key×V)} {d:List (D×D)},mE K H v d->v.length=d.length:=fun h =>
 mE.ind (motive:=fun v d _=>v.length=d.length) rfl (fun _ _ ih=>congrArg (· + 1) ih) h
theorem mx.length{K:ai}{H:Hp}:∀ {v:List (List Key×V)} {d:List (D×D)},mx K H v d->v.length=d.length:=fun h =>
 mx.ind (motive:=fun v d _=>v.length=d.length) rfl (fun _ _ ih=>congrArg (· + 1) ih) h
noncomputable def Lg(K:ai)(H:Hp)(a:Addr):GO->Prop
 | .lst ds=>∃ vs,H a=some (.lst vs)/\bt K H vs ds
 | .gF kvs=>(∃ kv,H a=some (.dK kv)/\mE K H kv kvs)\/∃ kv,H a=some (.dT kv)/\mx K H kv kvs
 | .ins c fs=>∃ C dx fv,H a=some (.ins C dx fv)/\dF K cb c=some (some (.ref C))/\fv.map (·.1)=fs.map (·.1)/\bt K H (fv.map (·.2)) (fs.map (·.2))
 | .sJ kvs=>∃ xs ks vs,H a=some (.ext (Jp a xs))/\Se kvs ks vs xs/\bt K H ks (kvs.map fun p=>qi p.1)/\bt K H vs (kvs.map fun p=>p.2)
noncomputable def lQ(K:ai)(H:Hp)(G:Gp):Prop:=∀ a g,G a=some g->Lg K H a g
theorem Lg.dk{K:ai}{H:Hp}{a:Addr}{kv:List (Key×V)}{kvs:List (D×D)}(h:H a=some (.dK kv))(r:mE K H kv kvs):Lg K H a (.gF kvs):=.inl ⟨kv,h,r⟩
theorem Lg.dt{K:ai}{H:Hp}{a:Addr}{kv:List (List Key×V)}{kvs:List (D×D)}(h:H a=some (.dT kv))(r:mx K H kv kvs):Lg K H a (.gF kvs):=.inr ⟨kv,h,r⟩
theorem Lg.mono{K:ai}{H H':Hp}{a:Addr}{g:GO}(k:Kp H H')(e:H' a=H a)(h:Lg K H a g):Lg K H' a g:=by
 cases g with
 | lst ds=>obtain⟨vs,q,r⟩:=h; exact⟨vs,e.trans q,r.mono k⟩
 | ins c fs=>obtain⟨C,dx,fv,q,h1,h2,r⟩:=h; exact⟨C,dx,fv,e.trans q,h1,h2,r.mono k⟩
 | sJ kvs=>obtain⟨xs,ks,vs,q,h1,r1,r2⟩:=h; exact⟨xs,ks,vs,e.trans q,h1,r1.mono k,r2.mono k⟩
 | gF kvs =>
  rcases h with ⟨kv,q,r⟩ | ⟨kv,q,r⟩
  ·exact .inl ⟨kv,e.trans q,r.mono k⟩
  ·exact .inr ⟨kv,e.trans q,r.mono k⟩
theorem Lg.tracked{K:ai}{H:Hp}{a:Addr}{g:GO}(h:Lg K H a g):H a≠none:=by
 cases g with
 | lst ds=>obtain⟨vs,q,r⟩:=h; rw [q]; simp
 | ins c fs=>obtain⟨C,dx,fv,q,_⟩:=h; rw [q]; simp
 | sJ kvs=>obtain⟨xs,ks,vs,q,_⟩:=h; rw [q]; simp
 | gF kvs =>
  rcases h with ⟨kv,q,r⟩ | ⟨kv,q,r⟩
  ·rw [q]; simp
  ·rw [q]; simp
theorem lQ.free{K:ai}{H:Hp}{G:Gp}{a:Addr}(h:lQ K H G)(e:H a=none):G a=none:=by
 cases q:G a with
 | none=>rfl
 | some g=>exact absurd e (h a g q).tracked
theorem lQ.Wc{K:ai}{H:Hp}{G:Gp}{a:Addr}{xs:List V}(h:lQ K H G)(e:H a=some (.tup xs)):G a=none:=by
 cases q:G a with
 | none=>rfl
 | some g =>
  have z:=h a g q;cases g with
  | lst ds=>obtain⟨vs,q,r⟩:=z; rw [e] at q; cases q
  | ins c fs=>obtain⟨C,dx,fv,q,_⟩:=z; rw [e] at q; cases q
  | sJ kvs=>obtain⟨xs,ks,vs,q,_⟩:=z; rw [e] at q; cases q
  | gF kvs =>
   rcases z with ⟨kv,q,r⟩ | ⟨kv,q,r⟩
   ·rw [e] at q; cases q
   ·rw [e] at q; cases q
theorem lQ.Wd{K:ai}{H:Hp}{G:Gp}{a:Addr}{o:Obj}{u:HO}(h:lQ K H G)(e:H a=some (.kd o u)):G a=none:=by
 cases q:G a with
 | none=>rfl
 | some g =>
  have z:=h a g q;cases g with
  | lst ds=>obtain⟨vs,q,r⟩:=z; rw [e] at q; cases q
  | ins c fs=>obtain⟨C,dx,fv,q,_⟩:=z; rw [e] at q; cases q
  | sJ kvs=>obtain⟨xs,ks,vs,q,_⟩:=z; rw [e] at q; cases q
  | gF kvs =>
   rcases z with ⟨kv,q,r⟩ | ⟨kv,q,r⟩
   ·rw [e] at q; cases q
   ·rw [e] at q; cases q
structure Mv(K:ai)(H:Hp)(G:Gp)(H':Hp)(G':Gp):Prop where
 keep:∀ a o,H a=some o->G a=none->H' a=some o/\G' a=none
 mK:∀ a,G a≠none->H' a≠none
 ab:lQ K H' G'
theorem Mv.refl{K:ai}{H:Hp}{G:Gp}(h:lQ K H G):Mv K H G H G:=⟨fun _ _ e n=>⟨e,n⟩,fun a n=>by
 cases q:G a with
 | none=>exact absurd q n
 | some g=>exact(h a g q).tracked,h⟩
theorem Mv.trans{K:ai}{H H1 H2:Hp}{G G1 G2:Gp}(a:Mv K H G H1 G1)(b:Mv K H1 G1 H2 G2):Mv K H G H2 G2 :=
 ⟨fun c o e n=>let ⟨e1,n1⟩:=a.keep c o e n; b.keep c o e1 n1,fun c n=>by
  have h1:=a.mK c n;cases q:G1 c with
  | some g=>exact b.mK c (by rw [q]; simp)
  | none =>
   cases q1:H1 c with
   | none=>exact absurd q1 h1
   | some o=>rw [(b.keep c o q1 q).1]; simp,b.ab⟩
theorem Mv.kp{K:ai}{H H':Hp}{G G':Gp}(m:Mv K H G H' G')(h:lQ K H G):Kp H H' :=
 ⟨fun a xs e=>(m.keep a _ e (h.Wc e)).1,fun a o u e=>(m.keep a _ e (h.Wd e)).1⟩
theorem Kp.new{H:Hp}{p:Addr}{o:HO}(hp:H p=none):Kp H (upd H p o):=⟨fun a xs e=>by rw [bX (eC e hp)]; exact e,fun a ob u e=>by rw [bX (eC e hp)]; exact e⟩
theorem Kp.putL{H:Hp}{p:Addr}{xs:List V}{o:HO}(hp:H p=some (.lst xs)):Kp H (upd H p o) :=
 ⟨fun a ys e=>by rw [bX (by rintro rfl; rw [hp] at e; cases e)]; exact e,fun a ob u e=>by rw [bX (by rintro rfl; rw [hp] at e; cases e)]; exact e⟩
theorem Mv.new{K:ai}{H:Hp}{G:Gp}{p:Addr}{o:HO}{g:GO}(h:lQ K H G)(hp:H p=none)(ho:Lg K (upd H p o) p g):Mv K H G (upd H p o) (eY G p g) where
 keep:=fun a ob e n=>by
  have ne:=eC e hp;exact⟨by rw [bX ne]; exact e,by rw [cF ne]; exact n⟩
 mK:=fun a n=>by
  have ne:a≠p:=by rintro rfl; exact n (h.free hp)
  rw [bX ne];exact(Mv.refl h).mK a n
 ab:=fun a g' e=>by
  by_cases ha:a=p
  ·subst ha; rw [az] at e; cases e; exact ho
  ·rw [cF ha] at e;exact(h a g' e).mono (.new hp) (bX ha)
theorem Mv.Mj{K:ai}{H:Hp}{G:Gp}{p:Addr}{o:HO}(h:lQ K H G)(hp:H p=none):Mv K H G (upd H p o) G where
 keep:=fun a ob e n=>⟨by rw [bX (eC e hp)]; exact e,n⟩
 mK:=fun a n=>by
  have ne:a≠p:=by rintro rfl; exact n (h.free hp)
  rw [bX ne];exact(Mv.refl h).mK a n
 ab:=fun a g' e=>by
  have ne:a≠p:=by rintro rfl; rw [h.free hp] at e; cases e
  exact(h a g' e).mono (.new hp) (bX ne)
theorem Mv.put{K:ai}{H:Hp}{G:Gp}{p:Addr}{o:HO}{g g0:GO}(h:lQ K H G)(hg:G p=some g0)(k:Kp H (upd H p o))(ho:Lg K (upd H p o) p g):Mv K H G (upd H p o) (eY G p g) where
 keep:=fun a ob e n=>by
  have ne:a≠p:=by rintro rfl; rw [hg] at n; cases n
  exact⟨by rw [bX ne]; exact e,by rw [cF ne]; exact n⟩
 mK:=fun a n=>by
  by_cases ha:a=p
  ·subst ha; rw [cf]; simp
  ·rw [bX ha]; exact(Mv.refl h).mK a n
 ab:=fun a g' e=>by
  by_cases ha:a=p
  ·subst ha; rw [az] at e; cases e; exact ho
  ·rw [cF ha] at e;exact(h a g' e).mono k (bX ha)
theorem lQ.lst{K:ai}{H:Hp}{G:Gp}{a:Addr}{ds:List D}(h:lQ K H G)(e:G a=some (.lst ds)):∃ vs,H a=some (.lst vs)/\bt K H vs ds:=h a _ e
theorem Mv.Ii{K:ai}{H:Hp}{G:Gp}{p:Addr}{vs:List V}{ds:List D}(h:lQ K H G)(hp:H p=none)(r:bt K H vs ds):Mv K H G (upd H p (.lst vs)) (eY G p (.lst ds)) :=
 .new h hp ⟨vs,cf,r.mono (.new hp)⟩
theorem Mv.putL{K:ai}{H:Hp}{G:Gp}{p:Addr}{vs0 vs:List V}{ds0 ds:List D}(h:lQ K H G)(hg:G p=some (.lst ds0))(hp:H p=some (.lst vs0))(r:bt K H vs ds):Mv K H G (upd H p (.lst vs)) (eY G p (.lst ds)) :=
 .put h hg (.putL hp) ⟨vs,cf,r.mono (.putL hp)⟩
structure QA(K:ai)(H:Hp)(σ:L2.St)(τ:iQ):Prop where
 len:σ.length=τ.length
 at':∀ (i:Nat) (d:D),τ[i]?=some (some d)->∃ v,σ[i]?=some (some v)/\cE K H v d
theorem QA.mono{K:ai}{H H':Hp}{σ:L2.St}{τ:iQ}(k:Kp H H')(a:QA K H σ τ):QA K H' σ τ :=
 ⟨a.len,fun i d e=>let ⟨v,h1,h2⟩:=a.at' i d e; ⟨v,h1,h2.mono k⟩⟩
theorem QA.set{K:ai}{H:Hp}{σ:L2.St}{τ:iQ}{v:V}{d:D}(a:QA K H σ τ)(i:Nat)(r:cE K H v d):QA K H (σ.set i (some v)) (τ.set i (some d)):=by
 refine⟨by rw [cK,cK]; exact a.len,fun j e h=>?_⟩;by_cases hj:i=j
 ·subst hj;by_cases hi:i < τ.length
  ·rw [dc hi] at h;cases h;exact⟨v,by rw [dc (by rw [a.len]; exact hi)],r⟩
  ·rw [List.set_eq_of_length_le (by lia)] at h;rw [vR (by lia)] at h;cases h
 ·rw [eK hj] at h;obtain⟨w,h1,h2⟩:=a.at' j e h;exact⟨w,by rw [eK hj]; exact h1,h2⟩
structure I2(X:Cx)(pins:List (Addr×Obj))(σ:L2.St)(H:Hp)(τ:iQ)(G:Gp)(s:aA):Prop where
 inv:Inv X pins σ H s
 st:QA X.K H σ τ
 ab:lQ X.K H G
theorem I2.mv{X:Cx}{pins:List (Addr×Obj)}{σ:L2.St}{H H':Hp}{τ:iQ}{G G':Gp}{s s':aA}(I:I2 X pins σ H τ G s)(I':Inv X pins σ H' s')(m:Mv X.K H G H' G'):I2 X pins σ H' τ G' s' :=
 ⟨I',I.st.mono (m.kp I.ab),m.ab⟩
noncomputable def CXe(P:bN)(w:World):MX:=fun outer H s E e s'=>∃ (a C t:Addr) (B:Heap) (H':Hp),e=.ref a/\s'.os=s.os/\Cb s'.gens/\Un (Nh outer) [] H H' s.heap s'.heap/\qv P w H' s'.heap /\
 (∀ b o,s'.heap.get? b=some o->b∉Nh outer->(s.heap.get? b≠none\/H' b≠none)->B.get? b=some o)/\PySem.Heap.FlyingW B outer a (.ref C) (.ref t) s'.heap/\H' a=none/\s.heap.get? a=none/\E (.ref C) none H'
noncomputable def exK(K:ai)(mg:Str->Option Value)(E:mw):XK:=fun cls _ H=>∃ (ex:Ex) (C:Addr) (G:Gp),cls=.ref C/\mg ex.cls=some (.ref C)/\lQ K H G/\E ex G
structure Lk(X:Cx)(E:mw):Prop where
 made:∀ (pins:List (Addr×Obj)) (σ:L2.St) (H:Hp) (s:aA) (h1:Heap) (a C:Addr) (args:List Value) (ex:Ex) (G:Gp),Inv X pins σ H s->lQ X.K H G->PySem.Heap.MadeExcOf s.heap h1 a (.ref C) args->X.mg ex.cls=some (.ref C)->E ex G->X.xe (.ref a) { s with heap:=h1 }
 pass:∀ (pins:List (Addr×Obj)) (σ:L2.St) (H:Hp) (s s':aA) (e:Value),Inv X pins σ H s->CXe X.prog X.w X.stack H s (exK X.K X.mg E) e s'->X.xe e s'
theorem Lk.none{X:Cx}{E:mw}(h:∀ ex G,¬ E ex G):Lk X E where
 made:=fun _ _ _ _ _ _ _ _ ex _ _ _ _ _ z=>absurd z (h ex _)
 pass:=fun _ _ _ _ _ _ _ hc=>by
  obtain⟨_,_,_,_,_,_,_,_,_,_,_,_,_,_,hz⟩:=hc;obtain⟨ex,_,_,_,_,_,z⟩:=hz;exact absurd z (h ex _)
inductive um (X:Cx) (pins:List (Addr×Obj)) (σ:L2.St) (H:Hp) (G:Gp) (Q:DK) (u:Value) (s':aA):Prop
 | mk (v:V) (H':Hp) (d:D) (G':Gp) (i:Inv X pins σ H' s') (m:Mv X.K H G H' G') (r:RelV v u) (rd:cE X.K H' v d) (q:Q d G'):um X pins σ H G Q u s'
inductive Vt (X:Cx) (pins:List (Addr×Obj)) (σ:L2.St) (H:Hp) (G:Gp) (Q:Bool->Gp->Prop) (b:Bool) (s':aA):Prop
 | mk (H':Hp) (G':Gp) (i:Inv X pins σ H' s') (m:Mv X.K H G H' G') (q:Q b G'):Vt X pins σ H G Q b s'
inductive AP2 (X:Cx) (pins:List (Addr×Obj)) (σ:L2.St) (H:Hp) (G:Gp) (Q:List D->Gp->Prop) (us:List Value) (s':aA):Prop
 | mk (vs:List V) (H':Hp) (ds:List D) (G':Gp) (i:Inv X pins σ H' s') (m:Mv X.K H G H' G') (r:Vals vs us) (rd:bt X.K H' vs ds) (q:Q ds G'):AP2 X pins σ H G Q us s'
inductive X4 (X:Cx) (pins:List (Addr×Obj)) (H:Hp) (G:Gp) (P:iQ->Gp->Prop) (s':aA):Prop
 | mk (j0:L2.St) (H':Hp) (qz:iQ) (G':Gp) (i:I2 X pins j0 H' qz G' s') (m:Mv X.K H G H' G') (q:P qz G'):X4 X pins H G P s'
inductive SPr (X:Cx) (pins:List (Addr×Obj)) (H:Hp) (G:Gp) (P:D->Gp->Prop) (u:Value) (s':aA):Prop
 | mk (v:V) (j0:L2.St) (H':Hp) (d:D) (G':Gp) (i:Inv X pins j0 H' s') (m:Mv X.K H G H' G') (r:RelV v u) (rd:cE X.K H' v d) (q:P d G'):SPr X pins H G P u s'
noncomputable def U8(X:Cx)(pins:List (Addr×Obj))(H:Hp)(G:Gp)(D:lP)(f:Flow)(s':aA):Prop :=
 match f with
 | .next=>X4 X pins H G D.nx s'
 | .brk=>X4 X pins H G D.bk s'
 | .cont=>X4 X pins H G D.ct s'
 | .ret u=>SPr X pins H G D.rt u s'
noncomputable def g6(X:Cx)(e:Expr)(t:gI):Prop :=
 ∀ (E:mw) (pins:List (Addr×Obj)) (s:aA) (σ:L2.St) (H:Hp) (τ:iQ) (G:Gp) (Q:DK),Lk X E->I2 X pins σ H τ G s->t E τ G Q->wpAny (model X.prog X.w) X.A (eval e X.env) (um X pins σ H G Q) X.xe s
noncomputable def K9(X:Cx)(e:Expr)(t:xp):Prop :=
 ∀ (E:mw) (pins:List (Addr×Obj)) (s:aA) (σ:L2.St) (H:Hp) (τ:iQ) (G:Gp) (Q:Bool->Gp->Prop),Lk X E->I2 X pins σ H τ G s->t E τ G Q->wpAny (model X.prog X.w) X.A (isTrue e X.env (eval e X.env)) (Vt X pins σ H G Q) X.xe s
noncomputable def MO(X:Cx)(e:Expr)(t:xp):Prop :=
 ∀ (wh:Sem Value) (E:mw) (pins:List (Addr×Obj)) (s:aA) (σ:L2.St) (H:Hp) (τ:iQ) (G:Gp) (Q:Bool->Gp->Prop),Lk X E->I2 X pins σ H τ G s->t E τ G Q->wpAny (model X.prog X.w) X.A (isTrue e X.env wh) (Vt X pins σ H G Q) X.xe s
noncomputable def La(X:Cx)(es:List Expr)(t:Jm):Prop :=
 ∀ (pos:Pos) (E:mw) (pins:List (Addr×Obj)) (s:aA) (σ:L2.St) (H:Hp) (τ:iQ) (G:Gp) (Q:List D->Gp->Prop),Lk X E->I2 X pins σ H τ G s->t E τ G Q->wpAny (model X.prog X.w) X.A (spliced (qI pos (c8 es X.env))) (AP2 X pins σ H G Q) X.xe s
noncomputable def Jn(X:Cx)(st:Stmt)(t:iE):Prop :=
 ∀ (E:mw) (pins:List (Addr×Obj)) (s:aA) (σ:L2.St) (H:Hp) (τ:iQ) (G:Gp) (D:lP),Lk X E->I2 X pins σ H τ G s->t E D τ G->wpAny (model X.prog X.w) X.A (exec st X.env) (U8 X pins H G D) X.xe s
noncomputable def z8(X:Cx)(st:List Stmt)(t:iE):Prop :=
 ∀ (E:mw) (pins:List (Addr×Obj)) (s:aA) (σ:L2.St) (H:Hp) (τ:iQ) (G:Gp) (D:lP),Lk X E->I2 X pins σ H τ G s->t E D τ G->wpAny (model X.prog X.w) X.A (execs st X.env) (U8 X pins H G D) X.xe s
theorem U8.trans{X:Cx}{pins:List (Addr×Obj)}{H H1:Hp}{G G1:Gp}{D:lP}{f:Flow}{s':aA}(m:Mv X.K H G H1 G1)(h:U8 X pins H1 G1 D f s'):U8 X pins H G D f s':=by
 cases f with
 | next=>obtain⟨j0,H',qz,G',I,m',q⟩:=h; exact⟨j0,H',qz,G',I,m.trans m',q⟩
 | brk=>obtain⟨j0,H',qz,G',I,m',q⟩:=h; exact⟨j0,H',qz,G',I,m.trans m',q⟩
 | cont=>obtain⟨j0,H',qz,G',I,m',q⟩:=h; exact⟨j0,H',qz,G',I,m.trans m',q⟩
 | ret u=>obtain⟨v,j0,H',d,G',I,m',r,rd,q⟩:=h; exact⟨v,j0,H',d,G',I,m.trans m',r,rd,q⟩
section
variable {X:Cx} {a b c:Expr} {ta tb tc:gI} {pos:Pos}
theorem j9{pins:List (Addr×Obj)}{σ:L2.St}{H:Hp}{τ:iQ}{G:Gp}{s:aA}{E:mw}{R:DK}{Q:Value->aA->Prop}(ha:g6 X a ta)(hE:Lk X E)(I:I2 X pins σ H τ G s)(h:ta E τ G R)
  (k:∀ v H1 d G1 u s1,I2 X pins σ H1 τ G1 s1->Mv X.K H G H1 G1->RelV v u->cE X.K H1 v d->R d G1->Q u s1):wpAny (model X.prog X.w) X.A (eval a X.env) Q X.xe s :=
 gU (ha E pins s σ H τ G R hE I h) (by rintro u s1 ⟨v,H1,d,G1,I1,m,r,rd,q⟩; exact k v H1 d G1 u s1 (I.mv I1 m) m r rd q)
theorem um.trans{pins:List (Addr×Obj)}{σ:L2.St}{H H1:Hp}{G G1:Gp}{Q:DK}{u:Value}{s':aA}(m:Mv X.K H G H1 G1)(h:um X pins σ H1 G1 Q u s'):um X pins σ H G Q u s':=by
 obtain⟨v,H',d,G',I,m',r,rd,q⟩:=h;exact⟨v,H',d,G',I,m.trans m',r,rd,q⟩
theorem Vt.trans{pins:List (Addr×Obj)}{σ:L2.St}{H H1:Hp}{G G1:Gp}{Q:Bool->Gp->Prop}{u:Bool}{s':aA}(m:Mv X.K H G H1 G1)(h:Vt X pins σ H1 G1 Q u s'):Vt X pins σ H G Q u s':=by
 obtain⟨H',G',I,m',r⟩:=h;exact⟨H',G',I,m.trans m',r⟩
theorem Rc {i:Nat} {x:Str} (hN:X.N[i]?=some x) (hv:X2 X.env.scope x) (hd:autoParam ((x == ("__debug__" : Str))=false) Ad._auto_1) (KA:autoParam ((x == ("__classdict__" : Str))=false) Ad._auto_1):g6 X (.Name x pos) (av i):=by
 intro E pins s σ H τ G Q hE I h;unfold av at h;split at h
 ·rename_i d e;obtain⟨v,h1,h2⟩:=I.st.at' i d e;exact gU (T8 hN hv hd KA pins s σ H (fun v' H'=>v'=v/\H'=H) I.inv ⟨v,h1,rfl,rfl⟩) fun u s1 Nf=>by
   obtain⟨v',H',I1,r,e1,e2⟩:=Nf;subst e1; subst e2;exact⟨_,_,d,G,I1,.refl I.ab,r,h2,h⟩
 ·exact h.elim
theorem wj{e:Expr}{v:V}{d:D}(h:PE X e (tC v))(r:∀ K H,cE K H v d):g6 X e (dC d):=by
 intro E pins s σ H τ G Q hE I hq;exact gU (h pins s σ H (fun v' H'=>v'=v/\H'=H) I.inv ⟨rfl,rfl⟩) fun u s1 ZU=>by
  obtain⟨v',H',I1,rr,e1,e2⟩:=ZU;subst e1; subst e2;exact⟨_,_,d,G,I1,.refl I.ab,rr,r _ _,hq⟩
theorem aG{i j}:g6 X (.Constant (.int i) j pos) (dC (.int i)):=wj T9 fun _ _=>.int i
noncomputable def sY(X:Cx)(f:Value->Value->Sem Value)(r:A3):Prop :=
 ∀ (pins:List (Addr×Obj)) (s:aA) (σ:L2.St) (H:Hp) (G:Gp) (x y:V) (dx dy:D) (v u:Value) (Q:DK),Inv X pins σ H s->lQ X.K H G->RelV x v->RelV y u->cE X.K H x dx->cE X.K H y dy->r dx dy G Q ->
  wpAny (model X.prog X.w) X.A (f v u) (um X pins σ H G Q) X.xe s
noncomputable def Xf(X:Cx)(f:Value->Sem Value)(r:D->Gp->DK->Prop):Prop :=
 ∀ (pins:List (Addr×Obj)) (s:aA) (σ:L2.St) (H:Hp) (G:Gp) (x:V) (dx:D) (v:Value) (Q:DK),Inv X pins σ H s->lQ X.K H G->RelV x v->cE X.K H x dx->r dx G Q ->
  wpAny (model X.prog X.w) X.A (f v) (um X pins σ H G Q) X.xe s
noncomputable def uo(X:Cx)(f:Value)(r:List D->Gp->DK->Prop):Prop :=
 ∀ (pins:List (Addr×Obj)) (s:aA) (σ:L2.St) (H:Hp) (G:Gp) (xs:List V) (ds:List D) (us:List Value) (Q:DK),Inv X pins σ H s->lQ X.K H G->Vals xs us->bt X.K H xs ds->r ds G Q ->
  wpAny (model X.prog X.w) X.A (call f us) (um X pins σ H G Q) X.xe s
noncomputable abbrev B7(K:ai)(H:Hp)(G:Gp)(Q:DK):VK:=fun v H'=>∃ d G',Mv K H G H' G'/\cE K H' v d/\Q d G'
theorem um.of{pins:List (Addr×Obj)}{σ:L2.St}{H:Hp}{G:Gp}{Q:DK}{u:Value}{s':aA}(h:EP X pins σ (B7 X.K H G Q) u s'):um X pins σ H G Q u s':=by
 obtain⟨v,H',I,r,d,G',m,rd,q⟩:=h;exact⟨v,H',d,G',I,m,r,rd,q⟩
theorem Qb(ha:g6 X a ta)(hb:g6 X b tb){E:mw}{pins:List (Addr×Obj)}{s:aA}{σ:L2.St}{H:Hp}{τ:iQ}{G:Gp}{R:D->D->Gp->Prop}(hE:Lk X E)(I:I2 X pins σ H τ G s)
  (h:ta E τ G fun x G1=>tb E τ G1 fun y G2=>R x y G2) {Q:Value->aA->Prop} {f:Value->Value->Sem Value}
  (hf:∀ v u s2 x y dx dy H2 G2,I2 X pins σ H2 τ G2 s2->Mv X.K H G H2 G2->RelV x v->RelV y u->cE X.K H2 x dx->cE X.K H2 y dy->R dx dy G2->wpAny (model X.prog X.w) X.A (f v u) Q X.xe s2) :
  wpAny (model X.prog X.w) X.A (eval a X.env) (fun v fX=>wpAny (model X.prog X.w) X.A (eval b X.env) (fun u Ew=>wpAny (model X.prog X.w) X.A (f v u) Q X.xe Ew) X.xe fX) X.xe s:=by
 refine j9 ha hE I h fun x H1 dx G1 v s1 I1 m1 r1 jM q1=>?_;refine j9 hb hE I1 q1 fun y H2 dy G2 u s2 nH m2 r2 yN q2=>?_;exact hf v u s2 x y dx dy H2 G2 nH (m1.trans m2) r1 r2 (jM.mono (m2.kp I1.ab)) yN q2
theorem cg{op:Operator}{r:A3}(ho:sY X (jk op) r)(ha:g6 X a ta)(hb:g6 X b tb):g6 X (.BinOp a op b pos) (a9 r ta tb):=by
 intro E pins s σ H τ G Q hE I h;exact wpAny_BinOp (Qb ha hb hE I h fun v u s2 x y dx dy H2 G2 nH m rx ry dX dY q=>gU (ho pins s2 σ H2 G2 x y dx dy v u Q nH.inv nH.ab rx ry dX dY q) fun _ _ z=>z.trans m)
theorem wg{op:UnaryOp}{r:D->Gp->DK->Prop}(ho:Xf X (unaryOp op) r)(ha:g6 X a ta):g6 X (.UnaryOp op a pos) (Ni r ta):=by
 intro E pins s σ H τ G Q hE I h;exact UnaryOp_ (j9 ha hE I h fun x H1 dx G1 v s1 I1 m1 r1 jM q1=>gU (ho pins s1 σ H1 G1 x dx v Q I1.inv I1.ab r1 jM q1) fun _ _ z=>z.trans m1)
theorem Rh{op:CmpOp}{r:A3}(ho:sY X (gu op) r)(ha:g6 X a ta)(hb:g6 X b tb)(hm:behindInMarks op b=false):g6 X (.Compare a [op] [b] pos) (a9 r ta tb):=by
 intro E pins s σ H τ G Q hE I h;exact wpAny_Compare1 (Qb ha hb hE I h fun v u s2 x y dx dy H2 G2 nH m rx ry dX dY q=>gU (ho pins s2 σ H2 G2 x y dx dy v u Q nH.inv nH.ab rx ry dX dY q) fun _ _ z=>z.trans m) hm
end
end K2
end
section
namespace K2
open PySem PySem.Spec PyProof.Rows L2
theorem VH{K:ai}{H:Hp}{G:Gp}{x:V}{d:D}{k:Bool}(ab:lQ K H G)(r:cE K H x d)(e:G5 d G=some k):(∃ p,x=.ref p/\Rd H p (.dT [])/\k=false)\/(∃ p kv,x=.ref p/\Rd H p (.dK kv)/\k=!kv.isEmpty)\/U7 K x H k:=by
 have PS:∀ kvs:List (D×D),(if (kvs.all fun p=>eS p.1)=true then some (!kvs.isEmpty) else none)=some k->∀ p,((∃ kv,Rd H p (.dK kv)/\mE K H kv kvs)\/∃ kv,Rd H p (.dT kv)/\mx K H kv kvs) ->
   (∃ p',V.ref p=.ref p'/\Rd H p' (.dT [])/\k=false)\/(∃ p' kv,V.ref p=.ref p'/\Rd H p' (.dK kv)/\k=!kv.isEmpty)\/U7 K (.ref p) H k:=by
  intro kvs e p z;by_cases ha:(kvs.all fun p=>eS p.1)=true
  ·rw [if_pos ha] at e;cases e;rcases z with ⟨kv,hv,rs⟩ | ⟨kv,hv,rs⟩
   ·right; left;refine⟨p,kv,rfl,hv,?_⟩;cases rs <;> rfl
   ·left;cases rs with
    | nil=>exact⟨p,rfl,hv,rfl⟩
    | cons _ _=>simp [eS] at ha
  ·rw [if_neg ha] at e; cases e
 cases r with
 | eU=>right; right; cases e; rfl
 | bl b=>right; right; cases e; rfl
 | int i=>right; right; cases e; rfl
 | str y =>
  right; right;unfold G5 at e;dsimp only at e;by_cases h:y.length<=SZ
  ·rw [if_pos h] at e; cases e; exact⟨by rw [c6]; exact h,rfl⟩
  ·rw [if_neg h] at e; cases e
 | tup h rs =>
  right; right;cases e;refine .inr (.inl ⟨_,.of h,?_⟩);cases rs <;> rfl
 | dQ h rs =>
  right; right;cases e;refine .inl ⟨_,h.sq,?_⟩;cases rs <;> rfl
 | pA h rs=>exact PS _ e _ (.inl ⟨_,.inr ⟨_,h⟩,rs⟩)
 | pz h rs=>exact PS _ e _ (.inr ⟨_,.inr ⟨_,h⟩,rs⟩)
 | exc h=>simp [G5] at e
 | Ga h _=>simp [G5] at e
 | oE _ _ _ _=>simp [G5] at e
 | ref a =>
  unfold G5 at e;dsimp only at e;cases q:G a with
  | none=>rw [q] at e; cases e
  | some g =>
   rw [q] at e;have z:=ab a g q;cases g with
   | lst ds =>
    right; right;obtain⟨vs,hv,rs⟩:=z;cases e;refine .inl ⟨vs,.of hv,?_⟩;cases rs <;> rfl
   | ins _ _=>cases e
   | sJ _=>cases e
   | gF kvs =>
    refine PS kvs e a ?_;rcases z with ⟨kv,hv,rs⟩ | ⟨kv,hv,rs⟩
    ·exact .inl ⟨kv,.inl hv,rs⟩
    ·exact .inr ⟨kv,.inl hv,rs⟩
section
variable {X:Cx} {a b c:Expr} {ta tb tc:gI} {pos:Pos}
noncomputable def Xg(X:Cx):Prop:=∀ (pins:List (Addr×Obj)) (s:aA) (σ:L2.St) (H:Hp) (G:Gp) (x:V) (d:D) (v:Value) (k:Bool) (Q:Bool->aA->Prop),Inv X pins σ H s->lQ X.K H G->RelV x v->cE X.K H x d->G5 d G=some k ->
  (∀ s',Inv X pins σ H s'->Q k s')->wpAny (model X.prog X.w) X.A (truthy v) Q X.xe s
theorem NM:Xg X:=by
 intro pins s σ H G x d v k Q I ab rx rd e q;rcases VH ab rd e with ⟨p,rfl,hv,hk⟩ | ⟨p,kv,rfl,hv,hk⟩ | h
 ·obtain⟨z,hS,xs,rel,o,es,ep,ho,hx,Ay,hl,nd⟩:=hv.ok I.cL;have ZF:xs=[]:=by cases rel; rfl
  subst ZF;have he:es=#[]:=by simpa using hl
  subst he;cases rx;have dd:s.heap.DictOf (cY X.prog X.w) p []:=⟨o,#[],ep,ho,hx,Ay,(fun _ h=>by simp at h),.nil,cR⟩;refine Hf hS dd (by simp) ?_;subst hk;exact q _ (I.tok _)
 ·cases rx;subst hk;exact RU I hv q
 ·exact gU (Tx pins s σ H x v (fun k' H'=>k'=k/\H'=H) I rx ⟨k,h,rfl,rfl⟩) fun k' s' Nf=>by
   obtain⟨H',I',e1,e2⟩:=Nf;subst e1; subst e2; exact q s' I'
theorem j5(ha:g6 X a ta)(he:autoParam (∀ whole,isTrue a X.env whole=(do let v ← whole; standAt a.pos; Nr [v] (truthy v))) Ai._auto_1):K9 X a (jf ta):=by
 intro E pins s σ H τ G Q hE I h;refine isTrue_plain (j9 ha hE I h fun x H1 d G1 v s1 I1 m1 r1 jM q1=>?_) (he _)
 try dsimp only at q1
 split at q1
 ·rename_i k e;exact NM pins s1 σ H1 G1 x d v k _ I1.inv I1.ab r1 jM e fun s' I'=>⟨H1,G1,I',m1,q1⟩
 ·exact q1.elim
theorem fb{op:CmpOp}{r:A3}(ho:sY X (gu op) r)(ha:g6 X a ta)(hb:g6 X b tb)(hm:behindInMarks op b=false):K9 X (.Compare a [op] [b] pos) (jf (a9 r ta tb)):=by
 intro E pins s σ H τ G Q hE I h;refine wpAny_isTrue_Compare1 (j9 ha hE I h fun x H1 dx G1 v s1 I1 m1 r1 jM q1=>j9 hb hE I1 q1 fun y H2 dy G2 u s2 nH m2 r2 yN q2 =>
  gU (ho pins s2 σ H2 G2 x y dx dy v u _ nH.inv nH.ab r1 r2 (jM.mono (m2.kp I1.ab)) yN q2) ?_) hm
 rintro c s3 ⟨z,H3,dz,G3,I3,m3,r3,YH,q3⟩
 try dsimp only at q3
 split at q3
 ·rename_i k e;exact NM pins s3 σ H3 G3 z dz c k _ I3 m3.ab r3 YH e fun s' I'=>⟨H3,G3,I',(m1.trans m2).trans m3,q3⟩
 ·exact q3.elim
variable {tA tB:xp} {rest:List Expr}
theorem MO.pt{e:Expr}{t:xp}(h:MO X e t):K9 X e t:=fun E pins s σ H τ G Q hE I q=>h _ E pins s σ H τ G Q hE I q
theorem Lv{pins:List (Addr×Obj)}{σ:L2.St}{H:Hp}{τ:iQ}{G:Gp}{s:aA}{E:mw}{R:Bool->Gp->Prop}{Q:Bool->aA->Prop}(ha:K9 X a tA)(hE:Lk X E)(I:I2 X pins σ H τ G s)(h:tA E τ G R)
  (k:∀ c H1 G1 s1,I2 X pins σ H1 τ G1 s1->Mv X.K H G H1 G1->R c G1->Q c s1):wpAny (model X.prog X.w) X.A (isTrue a X.env (eval a X.env)) Q X.xe s :=
 gU (ha E pins s σ H τ G R hE I h) (by rintro c s1 ⟨H1,G1,I1,m,q⟩; exact k c H1 G1 s1 (I.mv I1 m) m q)
theorem yQ(ha:K9 X a tA):MO X (.BoolOp .And [a] pos) tA:=by
 intro wh E pins s σ H τ G Q hE I h;refine isTrue_and (gU (ha E pins s σ H τ G Q hE I h) fun c s1 e=>?_);cases c with
 | true=>exact isTrue_and_nil e
 | false=>exact e
theorem J3(ha:K9 X a tA):MO X (.BoolOp .Or [a] pos) tA:=by
 intro wh E pins s σ H τ G Q hE I h;refine isTrue_or (gU (ha E pins s σ H τ G Q hE I h) fun c s1 e=>?_);cases c with
 | false=>exact isTrue_or_nil e
 | true=>exact e
theorem CD(ha:K9 X a tA)(hb:MO X (.BoolOp .And (b :: rest) pos) tB):MO X (.BoolOp .And (a :: b :: rest) pos) (DF tA tB):=by
 intro wh E pins s σ H τ G Q hE I h;refine isTrue_and (Lv ha hE I h fun c H1 G1 s1 I1 m1 q1=>?_);cases c with
 | true=>exact gU (hb wh E pins s1 σ H1 τ G1 Q hE I1 (by simpa using q1)) fun _ _ z=>z.trans m1
 | false=>exact⟨H1,G1,I1.inv,m1,by simpa using q1⟩
theorem CC(ha:K9 X a tA)(hb:MO X (.BoolOp .Or (b :: rest) pos) tB):MO X (.BoolOp .Or (a :: b :: rest) pos) (RW tA tB):=by
 intro wh E pins s σ H τ G Q hE I h;refine isTrue_or (Lv ha hE I h fun c H1 G1 s1 I1 m1 q1=>?_);cases c with
 | false=>exact gU (hb wh E pins s1 σ H1 τ G1 Q hE I1 (by simpa using q1)) fun _ _ z=>z.trans m1
 | true=>exact⟨H1,G1,I1.inv,m1,by simpa using q1⟩
theorem pE(ha:K9 X a tA):K9 X (.UnaryOp .Not a pos) (vD tA):=by
 intro E pins s σ H τ G Q hE I h;exact isTrue_not (gU (ha E pins s σ H τ G (fun c H1=>Q (!c) H1) hE I h) (by rintro c s' ⟨H',G',i,m,q⟩; exact⟨H',G',i,m,q⟩))
theorem Rf{op}{t:gI}(h:g6 X a t):g6 X (.BoolOp op [a] pos) t:=fun E pins s σ H τ G Q hE I hw=>BoolOp_one (h E pins s σ H τ G Q hE I hw)
theorem Ri(ha:g6 X a ta)(hb:g6 X (.BoolOp .And (b :: rest) pos) tb):g6 X (.BoolOp .And (a :: b :: rest) pos) (K1 ta tb):=by
 intro E pins s σ H τ G Q hE I h;refine BoolOp_and (j9 ha hE I h fun x H1 d G1 v s1 I1 m1 r1 jM q1=>?_)
 try dsimp only at q1
 split at q1
 ·rename_i e;exact NM pins s1 σ H1 G1 x d v true _ I1.inv I1.ab r1 jM e fun s' I'=>gU (hb E pins s' σ H1 τ G1 Q hE ⟨I',I1.st,I1.ab⟩ q1) fun _ _ z=>z.trans m1
 ·rename_i e;exact NM pins s1 σ H1 G1 x d v false _ I1.inv I1.ab r1 jM e fun s' I'=>⟨x,H1,d,G1,I',m1,r1,jM,q1⟩
 ·exact q1.elim
theorem Rg(ha:g6 X a ta):g6 X (.UnaryOp .Not a pos) (PW ta):=by
 intro E pins s σ H τ G Q hE I h;refine UnaryOp_ (j9 ha hE I h fun x H1 d G1 v s1 I1 m1 r1 jM q1=>?_)
 try dsimp only at q1
 split at q1
 ·rename_i k e;exact not_of (NM pins s1 σ H1 G1 x d v k _ I1.inv I1.ab r1 jM e fun s' I'=>⟨.bl (!k),H1,.bl (!k),G1,I',m1,rfl,.bl _,q1⟩)
 ·exact q1.elim
theorem Ua(hc:K9 X c tA)(ha:g6 X a ta)(hb:g6 X b tb):g6 X (.IfExp c a b pos) (dIf tA ta tb):=by
 intro E pins s σ H τ G Q hE I h;refine wpAny_IfExp (Lv hc hE I h fun d H1 G1 s1 I1 m1 q1=>?_);cases d with
 | true=>exact gU (ha E pins s1 σ H1 τ G1 Q hE I1 (by simpa using q1)) fun _ _ z=>z.trans m1
 | false=>exact gU (hb E pins s1 σ H1 τ G1 Q hE I1 (by simpa using q1)) fun _ _ z=>z.trans m1
variable {e:Expr} {es:List Expr} {te:gI} {t:Jm}
theorem aF:La X [] aX:=fun _ _ _ _ _ H _ G Q _ I h=>AB ⟨[],H,[],G,I.inv,.refl I.ab,.nil,.nil,h⟩
theorem ag(ha:g6 X e te)(hr:La X es t)(hs:autoParam (c8 (e :: es) X.env=(false,eval e X.env) :: c8 es X.env) Ar._auto_1):La X (e :: es) (aw te t):=by
 intro pos E pins s σ H τ G Q hE I h;rw [hs];show wpAny _ _ (spliced ((false,eval e X.env) :: qI pos (c8 es X.env))) _ _ s;refine qf (j9 ha hE I h fun x H1 d G1 u s1 I1 m1 r1 jM q1=>?_);exact gU (hr pos E pins s1 σ H1 τ G1 _ hE I1 q1) (by rintro us s2 ⟨xs,H2,ds,G2,nH,m2,r2,yN,q2⟩; exact⟨x :: xs,H2,d :: ds,G2,nH,m1.trans m2,.cons r1 r2,.cons (jM.mono (m2.kp I1.ab)) yN,q2⟩)
theorem Et{pins:List (Addr×Obj)}{σ:L2.St}{H:Hp}{τ:iQ}{G:Gp}{s:aA}{E:mw}{R:List D->Gp->Prop}{Q:List Value->aA->Prop}(ha:La X es t)(pos:Pos)(hE:Lk X E)(I:I2 X pins σ H τ G s)(h:t E τ G R)
  (k:∀ vs H1 ds G1 us s1,I2 X pins σ H1 τ G1 s1->Mv X.K H G H1 G1->Vals vs us->bt X.K H1 vs ds->R ds G1->Q us s1):wpAny (model X.prog X.w) X.A (spliced (qI pos (c8 es X.env))) Q X.xe s :=
 gU (ha pos E pins s σ H τ G R hE I h) (by rintro us s1 ⟨vs,H1,ds,G1,I1,m,r,rd,q⟩; exact k vs H1 ds G1 us s1 (I.mv I1 m) m r rd q)
theorem eG{x1}(h:La X es t):g6 X (.Tuple es x1 pos) (iA t):=by
 intro E pins s σ H τ G Q hE I hq;refine wpAny_Tuple_spliced (Et h pos hE I hq ?_);rintro xs H1 ds G1 us s1 I1 m1 r rd ⟨z,q⟩;refine⟨by rw [<-r.length,rd.length,c6]; exact z,?_⟩;have hf:H1 s1.heap.objs.size=none:=I1.inv.cL.fresh (aH _);refine⟨.ref s1.heap.objs.size,upd H1 s1.heap.objs.size (.tup xs),.tup ds,G1,I1.inv.laid (t':=s1.toks) (fun b u e=>aM _ e) (aH _) ?_,m1.trans (.Mj I1.ab hf),rfl,?_,q⟩
 ·exact⟨by rw [rd.length,c6]; exact z,us,r,⟨_,bH _ rfl,rfl,_,rfl⟩⟩
 ·exact .tup cf (rd.mono (.new hf))
theorem fK(h:La X es t):g6 X (.List es pos) (iT t):=by
 intro E pins s σ H τ G Q hE I hq;refine wpAny_List_spliced (Et h pos hE I hq ?_);rintro xs H1 ds G1 us s1 I1 m1 r rd ⟨z,q⟩;refine⟨by rw [<-r.length,rd.length,c6]; exact z,?_⟩;have hf:H1 s1.heap.objs.size=none:=I1.inv.cL.fresh (aH _);refine⟨.ref s1.heap.objs.size,upd H1 s1.heap.objs.size (.lst xs),.ref _,eY G1 s1.heap.objs.size (.lst ds),I1.inv.laid (t':=s1.toks) (fun b u e=>aM _ e) (aH _) ?_,m1.trans (.Ii I1.ab hf rd),rfl,.ref _,q _ (I1.ab.free hf)⟩;exact⟨by rw [rd.length,c6]; exact z,us,0,r,bH _ rfl⟩
noncomputable def cS(K:ai)(sp:lO):Sp:=fun vs H Q _=>∃ ds G Q2,bt K H vs ds/\lQ K H G/\sp ds G Q2 (fun _ _=>False)/\∀ d G' v H',Q2 d G'->Mv K H G H' G'->cE K H' v d->Q v H'
variable {k:Nat} {f:Addr} {fd:aI} {ps:List Str} {sp:lO} {x:Str} {p:Pos} {r:List D->Gp->DK->Prop} {id:String}
theorem Ow(F:gf X.prog X.w X.K X.mg X.base gi k f fd ps (cS X.K sp))(hr:nq k X.A)(hg:Gl X x)(hm:X.mg x=some (.ref f))(hk:lJ X.K (.ref f)=true)(hb:Binds X.K fd ps [])
  (ha:La X (e :: es) t) (Mm:autoParam ((x == ("__debug__" : Str))=false) Ad._auto_1) (he:autoParam (c8 (e :: es) X.env=(false,eval e X.env) :: c8 es X.env) Ar._auto_1) (Kz:autoParam ((qI pos (c8 es X.env)).any (·.1)=false) Ar._auto_1) :
  g6 X (.Call (.Name x p) (e :: es) [] pos) (fun E τ G Q=>bJ (fun ds G1 Q1 _=>sp ds G1 Q1 fun _ _=>False) t E τ G Q):=by
 intro E pins s σ H τ G Q hE I h;refine mH (CY I.inv hg hm ?_ Mm);refine PySem.W.callWith_K (h₀:=X.base) I.inv.ok.mod.XH hk (Et ha pos hE I h fun vs H1 ds G1 us s1 I1 m1 r rd q=>⟨I1.inv.Ko,?_⟩) he Kz;refine gU (TV F hr hb .nil V2 I1.inv r (Q:=B7 X.K H1 G1 Q) ?_) fun _ _ z=>(um.of z).trans m1;rw [cP];exact⟨ds,G1,Q,rd,I1.ab,q,fun d G' v H' q' m' Vg=>⟨d,G',m',Vg,q'⟩⟩
theorem j6 (hc:uo X (.builtin id) r) (hg:Gl X x) (hm:X.mg x=none) (hv:eX x=some (.builtin id)) (ha:La X (e :: es) t) (hn:autoParam (x≠"__name__") Ad._auto_1) (Mm:autoParam ((x == ("__debug__" : Str))=false) Ad._auto_1)
  (he:autoParam (c8 (e :: es) X.env=(false,eval e X.env) :: c8 es X.env) Ar._auto_1) (Kz:autoParam ((qI pos (c8 es X.env)).any (·.1)=false) Ar._auto_1):g6 X (.Call (.Name x p) (e :: es) [] pos) (ua r t):=by
 intro E pins s σ H τ G Q hE I h;refine mH (rE I.inv hg hm hv ?_ hn Mm);exact vY (Et ha pos hE I h fun vs H1 ds G1 us s1 I1 m1 r1 jM q1=>gU (hc pins s1 σ H1 G1 vs ds us Q I1.inv I1.ab r1 jM q1) fun _ _ z=>z.trans m1) he Kz
variable {st:Stmt} {sts:List Stmt} {u v:iE}
theorem gx:z8 X [] fM:=fun _ _ _ σ H τ G _ _ I h=>yc ⟨σ,H,τ,G,I,.refl I.ab,h⟩
theorem aK(h1:Jn X st u)(h2:z8 X sts v):z8 X (st :: sts) (cC u v):=by
 intro E pins s σ H τ G D hE I h;refine wpAny_execs_cons (gU (h1 E pins s σ H τ G { D with nx:=v E D } hE I h) fun f s1 q=>?_);cases f with
 | next =>
  obtain⟨j0,H',qz,G',I',m,q⟩:=q;exact gU (h2 E pins s1 j0 H' qz G' D hE I' q) fun _ _ z=>z.trans m
 | ret v=>exact q
 | brk=>exact q
 | cont=>exact q
theorem aS(h1:Jn X st u):z8 X [st] u:=by
 intro E pins s σ H τ G D hE I h;refine wpAny_execs_cons (gU (h1 E pins s σ H τ G D hE I h) fun f s1 q=>?_);cases f with
 | next=>exact yc q
 | ret v=>exact q
 | brk=>exact q
 | cont=>exact q
theorem cy(he:g6 X e te):Jn X (.Return (some e) pos) (cZ te):=by
 intro E pins s σ H τ G D hE I h;exact wpAny_Return_some (gU (he E pins s σ H τ G _ hE I h) (by rintro v s1 ⟨x,H1,d,G1,I1,m,r1,rd,q1⟩; exact⟨x,σ,H1,d,G1,I1,m,r1,rd,q1⟩))
theorem jv{sa sb:List Stmt}(hc:K9 X c tA)(ha:z8 X sa u)(hb:z8 X sb v):Jn X (.If c sa sb pos) (jx tA u v):=by
 intro E pins s σ H τ G D hE I h;refine wpAny_If (Lv hc hE I h fun d H1 G1 s1 I1 m1 q1=>?_);cases d with
 | true=>exact gU (ha E pins s1 σ H1 τ G1 D hE I1 (by simpa using q1)) fun _ _ z=>z.trans m1
 | false=>exact gU (hb E pins s1 σ H1 τ G1 D hE I1 (by simpa using q1)) fun _ _ z=>z.trans m1
noncomputable def MQ(X:Cx)(target:Expr)(t:AA):Prop :=
 ∀ (E:mw) (pins:List (Addr×Obj)) (s:aA) (σ:L2.St) (H:Hp) (τ:iQ) (G:Gp) (w:V) (d:D) (u:Value) (Q:iQ->Gp->Prop),Lk X E->I2 X pins σ H τ G s->RelV w u->cE X.K H w d->t E d τ G Q ->
  wpAny (model X.prog X.w) X.A (Jz target X.env u) (fun _ s'=>∃ j0 H' qz G',I2 X pins j0 H' qz G' s'/\Mv X.K H G H' G'/\Q qz G') X.xe s
noncomputable def Sf(X:Cx)(ts:List Expr)(t:DS):Prop :=
 ∀ (E:mw) (pins:List (Addr×Obj)) (s:aA) (σ:L2.St) (H:Hp) (τ:iQ) (G:Gp) (ws:List V) (ds:List D) (us:List Value) (Q:iQ->Gp->Prop),Lk X E->I2 X pins σ H τ G s->Vals ws us->bt X.K H ws ds->t E ds τ G Q ->
  wpAny (model X.prog X.w) X.A (assignInOrder ((An ts X.env).map (·.2)) us) (fun _ s'=>∃ j0 H' qz G',I2 X pins j0 H' qz G' s'/\Mv X.K H G H' G'/\Q qz G') X.xe s
theorem Oq{i:Nat}{x:Str}(hN:X.N.Nodup)(hi:X.N[i]?=some x)(hx:Loc X.env.scope x)(hf:autoParam (X.fn x=true\/X.env.scope.names.lookup x=some .local) Ao._auto_1):MQ X (.Name x pos) (aL i):=by
 intro E pins s σ H τ G w d u Q hE I r rd h;exact wpAny_assign_Name (Ez I.inv hN hi hx r (fun s' I'=>⟨_,H,_,G,⟨I',I.st.set i rd,I.ab⟩,.refl I.ab,h⟩) hf)
theorem gW:Sf X [] jX:=by
 intro E pins s σ H τ G ws ds us Q hE I r rd h;unfold jX at h;split at h
 ·have e:=rd.zero;subst e;cases r;exact assignInOrder_nil ⟨σ,H,τ,G,I,.refl I.ab,h⟩
 ·exact h.elim
theorem cN{t:AA}{u:DS}(h1:MQ X e t)(h2:Sf X es u)
  (hs:autoParam ((An (e :: es) X.env).map (·.2)=Jz e X.env :: (An es X.env).map (·.2)) Ar._auto_1):Sf X (e :: es) (dZ t u):=by
 intro E pins s σ H τ G ws ds us Q hE I r rd h;unfold dZ at h;split at h
 ·cases rd with
  | cons jM yN =>
   cases r with
   | cons r1 r2 =>
    rw [hs];refine assignInOrder_cons (gU (h1 E pins s σ H τ G _ _ _ _ hE I r1 jM h) ?_);rintro _ s1 ⟨Xo,H1,pe,G1,I1,m1,q1⟩;exact gU (h2 E pins s1 Xo H1 pe G1 _ _ _ Q hE I1 r2 (yN.mono (m1.kp I.ab)) q1) (by rintro _ _ ⟨Yr,H2,v7,G2,nH,m2,q2⟩; exact⟨Yr,H2,v7,G2,nH,m1.trans m2,q2⟩)
 ·exact h.elim
theorem jd{k:Nat}{t:DS}{n:Nat}(hc:X.calm=true)(h:Sf X es t)(hgl:∀ E ds τ G Q,t E ds τ G Q->ds.length=n)
  (hn:autoParam ((An es X.env).length=n) Ar._auto_1) (hst:autoParam ((An es X.env).findIdx? (·.1)=none) Ar._auto_1):MQ X (.Tuple es k pos) (ka t):=by
 intro E pins s σ H τ G w d u Q hE I r rd hw;unfold ka at hw;split at hw
 ·cases rd with
  | tup hq rs =>
   cases r;obtain⟨bZ,rv,ht,hz⟩:=I.inv.tuple (.of hq);refine assign_Tuple_tuple (I.inv.ok.hd hc) ht (by rw [hn,bb,<-rv.length,rs.length]; exact(hgl _ _ _ _ _ hw).symm) hst fun h' hx=>?_;have I1:Inv X pins σ H { s with heap:=h' }:=I.inv.kept (t':=s.toks) fun b o e=>hx b o (bQ (bh e)) e;exact h E pins _ σ H τ G _ _ _ Q hE ⟨I1,I.st,I.ab⟩ (by simpa using rv) rs hw
 ·exact hw.elim
theorem gY:∀ E ds τ G Q,jX E ds τ G Q->ds.length=0:=by
 intro E ds τ G Q h;cases ds with
 | nil=>rfl
 | cons _ _=>exact h.elim
theorem Mo{t:AA}{u:DS}{n:Nat}(h:∀ E ds τ G Q,u E ds τ G Q->ds.length=n)(hm:∀ E d τ G (Q Q':iQ->Gp->Prop),t E d τ G Q->(∀ qz G',Q qz G'->Q' qz G')->t E d τ G Q')(hx:∀ E d τ G,¬ t E d τ G fun _ _=>False) :
  ∀ E ds τ G Q,dZ t u E ds τ G Q->ds.length=n+1:=by
 intro E ds τ G Q q;cases ds with
 | nil=>exact q.elim
 | cons d ds =>
  by_cases hl:ds.length=n
  ·rw [aj,hl]
  ·exact absurd (hm E d τ G _ (fun _ _=>False) q fun qz G' z=>hl (h _ _ _ _ _ z)) (hx E d τ G)
theorem iq{tg:Expr}{g:AA}(he:g6 X e te)(hg:MQ X tg g)(hs:autoParam (swapsWithSole [tg] e pos.line X.env=pure false) Ar._auto_1)(hw:autoParam (swappedStores [tg] e X.env=pure none) Ar._auto_1)
  (h1:autoParam ((An [tg] X.env).map (·.2)=[Jz tg X.env]) Ar._auto_1):Jn X (.Assign [tg] e pos) (bK te g):=by
 intro E pins s σ H τ G D hE I h;refine wpAny_Assign_stores (j9 he hE I h fun x H1 d G1 v s1 I1 m1 r1 jM q1=>?_) hs hw;rw [h1];exact gU (hg E pins s1 σ H1 τ G1 x d v _ hE I1 r1 jM q1) (by rintro _ s2 ⟨Yr,H2,v7,G2,nH,m2,q2⟩; exact⟨Yr,H2,v7,G2,nH,m1.trans m2,q2⟩)
theorem Q5{i:Nat}{x:Str}{pos':Pos}(hN:X.N.Nodup)(hi:X.N[i]?=some x)(hx:Loc X.env.scope x)(he:g6 X e te)(hs:autoParam (Np e (some (.Name x pos')) pos.line X.env=pure false) Ar._auto_1)(hf:autoParam (X.fn x=true\/X.env.scope.names.lookup x=some .local) Ao._auto_1) :
  Jn X (.Assign [.Name x pos'] e pos) (bK te (aL i)):=by
 intro E pins s σ H τ G D hE I h;refine wpAny_Assign_Name (j9 he hE I h fun y H1 d G1 v s1 I1 m1 r1 jM q1=>?_) hs;exact Ez I1.inv hN hi hx r1 (fun s2 nH=>⟨_,H1,_,G1,⟨nH,I1.st.set i jM,I1.ab⟩,m1,q1⟩) hf
theorem mU(he:g6 X e te)(hs:autoParam (Np e none pos.line X.env=pure false) Ar._auto_1):Jn X (.Expr e pos) (kK te):=by
 intro E pins s σ H τ G D hE I h;exact wpAny_Expr_any (j9 he hE I h fun y H1 d G1 v s1 I1 m1 r1 jM q1=>⟨σ,H1,τ,G1,I1,m1,q1⟩) I.inv.quiet hs
end
end K2
end
section
namespace K2
open PySem PySem.Spec PyProof.Rows L2
noncomputable def Td(K:ai)(J:It)(H':Hp)(ds:List D)(ok:Gp->Prop):Prop :=
 ∀ i H1 G1,Kp H' H1->lQ K H1 G1->ok G1->(∀ d,ds[i]?=some d->J.go i H1/\∀ x H2,J.yld i H1 x H2->cE K H2 x d/\Mv K H1 G1 H2 G1)/\(ds.length<=i->J.stop i H1)
inductive Jo (X:Cx) (pins:List (Addr×Obj)) (σ:L2.St) (tg:Expr) (H:Hp) (G:Gp) (R:List D->(Gp->Prop)->Gp->Prop) (SM:Value) (s2:aA):Prop
 | mk (it:Addr) (fp:List Addr) (tn:Nat->Heap->Prop) (J:It) (H':Hp) (G':Gp) (ds:List D) (ok:Gp->Prop) (e:SM=.ref it) (i:Inv X pins σ H' s2) (m:Mv X.K H G H' G') (T:Turn X.prog X.w X.K tg J fp it tn) (t0:tn 0 s2.heap) (f:∀ b∈fp,nI X pins H' b)
  (wk:Td X.K J H' ds ok) (q:R ds ok G'):Jo X pins σ tg H G R SM s2
noncomputable def MP(X:Cx)(tg iter:Expr)(wi:MM):Prop :=
 ∀ (E:mw) (pins:List (Addr×Obj)) (s:aA) (σ:L2.St) (H:Hp) (τ:iQ) (G:Gp) (R:List D->(Gp->Prop)->Gp->Prop),Lk X E->I2 X pins σ H τ G s->wi E τ G R ->
  wpAny (model X.prog X.w) X.A (eval iter X.env) (fun v s1=>wpAny (model X.prog X.w) X.A (Jy v) (Jo X pins σ tg H G R) X.xe s1) X.xe s
section
variable {X:Cx} {tg:Expr} {a b:Expr} {ta tb:gI} {pos p:Pos}
theorem Kl{pins:List (Addr×Obj)}{σ:L2.St}{H H1:Hp}{G G1:Gp}{s1:aA}{l:Addr}{vs:List V}{ds:List D}{ok:Gp->Prop}{R:List D->(Gp->Prop)->Gp->Prop}(I1:Inv X pins σ H1 s1)(m:Mv X.K H G H1 G1)(hq:oZ X.K H1 l vs)
  (hk:∀ H2 G2,Kp H1 H2->lQ X.K H2 G2->ok G2->∃ ws,oZ X.K H2 l ws/\bt X.K H2 ws ds) (q:R ds ok G1):wpAny (model X.prog X.w) X.A (Jy (.ref l)) (Jo X pins σ tg H G R) X.xe s1:=by
 obtain⟨bZ,rv,pl,hz⟩:=I1.list hq;refine wpAny_pyIter_list pl.isList ?_;refine⟨s1.heap.objs.size,[s1.heap.objs.size],_,_,H1,G1,ds,ok,rfl,I1.kept (t':=s1.toks) fun b o e=>aM _ e,m,Lp l _,⟨_,bH _ rfl,rfl,rfl⟩,fun b hb=>?_,fun i H2 G2 k ab o=>?_,q⟩
 ·have e:b=s1.heap.objs.size:=by simpa using hb
  subst e;exact I1.AO (aH _) (I1.cL.fresh (aH _))
 ·obtain⟨ws,hw,rd⟩:=hk H2 G2 k ab o;refine⟨fun d hd=>?_,fun hl=>⟨ws,hw,by rw [rd.length]; exact hl⟩⟩;obtain⟨v,hv,r⟩:=rd.get hd;refine⟨⟨ws,v,hw,hv⟩,?_⟩;rintro x H3 ⟨e,y⟩;subst e;have:=y ws hw;rw [hv] at this;cases this;exact⟨r,.refl ab⟩
theorem Tw{pins:List (Addr×Obj)}{σ:L2.St}{H H1:Hp}{G G1:Gp}{s1:aA}{l:Addr}{vs:List V}{ds:List D}{R:List D->(Gp->Prop)->Gp->Prop}(I1:Inv X pins σ H1 s1)(m:Mv X.K H G H1 G1)(hq:xZ X.K H1 l vs)(rd:bt X.K H1 vs ds)
  (q:R ds (fun _=>True) G1):wpAny (model X.prog X.w) X.A (Jy (.ref l)) (Jo X pins σ tg H G R) X.xe s1:=by
 obtain⟨bZ,rv,pl,hz⟩:=I1.tuple hq;refine wpAny_pyIter_tuple (show s1.heap.IsTuple l bZ.toArray from pl) ?_;refine⟨s1.heap.objs.size,[s1.heap.objs.size],_,_,H1,G1,ds,_,rfl,I1.kept (t':=s1.toks) fun b o e=>aM _ e,m,HA l _,⟨_,bH _ rfl,rfl,rfl⟩,fun b hb=>?_,fun i H2 G2 k ab _=>?_,q⟩
 ·have e:b=s1.heap.objs.size:=by simpa using hb
  subst e;exact I1.AO (aH _) (I1.cL.fresh (aH _))
 ·have hw:=k.sqT hq;have yN:=rd.mono k;refine⟨fun d hd=>?_,fun hl=>⟨vs,hw,by rw [rd.length]; exact hl⟩⟩;obtain⟨v,hv,r⟩:=yN.get hd;refine⟨⟨vs,v,hw,hv⟩,?_⟩;rintro x H3 ⟨e,y⟩;subst e;have:=y vs hw;rw [hv] at this;cases this;exact⟨r,.refl ab⟩
theorem gS(ha:g6 X a ta):MP X tg a (oR ta):=by
 intro E pins s σ H τ G R hE I h;refine j9 ha hE I h fun x H1 d G1 v s1 I1 m1 r1 jM q1=>?_;cases jM with
 | tup hq rs=>cases r1; exact Tw I1.inv m1 (.of hq) rs q1
 | dQ hq rs=>cases r1; exact Kl I1.inv m1 hq.sq (fun H2 G2 k ab _=>⟨_,(k.TJ hq).sq,rs.mono k⟩) q1
 | ref p =>
  cases r1;dsimp only at q1;split at q1
  ·rename_i ds e;obtain⟨vs,hv,rs⟩:=I1.ab.lst e;refine Kl I1.inv m1 (.of hv) (fun H2 G2 k ab o=>?_) q1;obtain⟨ws,hw,qA⟩:=ab.lst o;exact⟨ws,.of hw,qA⟩
  ·exact q1.elim
 | pA _ _=>exact q1.elim
 | pz _ _=>exact q1.elim
 | eU=>exact q1.elim
 | bl _=>exact q1.elim
 | int _=>exact q1.elim
 | str _=>exact q1.elim
 | exc _=>exact q1.elim
 | Ga _ _=>exact q1.elim
 | oE _ _ _ _=>exact q1.elim
theorem TY{pins:List (Addr×Obj)}{σ:L2.St}{H H1:Hp}{G G1:Gp}{s:aA}{R:List D->(Gp->Prop)->Gp->Prop}{lo hi:Int}{t u v:Tok}{tk:Nat}(I:Inv X pins σ H1 s)(m:Mv X.K H G H1 G1)(h1:-(2 ^ 62)<=lo)(h2:lo < 2 ^ 62)(h3:-(2 ^ 62)<=hi)(h4:hi < 2 ^ 62)
  (q:R (gJ lo (hi - lo).toNat) (fun _=>True) G1):wpAny (model X.prog X.w) X.A (Jy (.ref s.heap.objs.size)) (Jo X pins σ tg H G R) X.xe { s with heap:=s.heap.push { cls:=.type "range",data:=.fields #[.int lo t,.int hi u,.int 1 v] },toks:=tk }:=by
 refine gU (Ob (tg:=tg) I h1 h2 h3 h4 (R:=fun J H'=>J=Itr lo (hi - lo).toNat/\H'=H1) ⟨rfl,rfl⟩) ?_;rintro SM s2 ⟨it,fp,tn,J,H',e,nH,T,st,fo,eJ,eH⟩;subst eJ; subst eH;refine⟨it,fp,tn,_,H',G1,_,_,e,nH,m,T,st,fo,fun i H2 G2 k ab _=>⟨fun d hd=>?_,fun hl=>?_⟩,q⟩
 ·unfold gJ at hd;rw [bI] at hd;cases UE:(c9 (hi - lo).toNat)[i]? with
  | none=>rw [UE] at hd; cases hd
  | some j =>
   rw [UE] at hd;obtain⟨xA,ej⟩:=List.getElem?_eq_some_iff.mp UE;rw [jY] at xA;rw [lz] at ej;subst ej;cases hd;refine⟨xA,?_⟩;rintro x H3 ⟨e1,e2⟩;subst e1; subst e2;exact⟨.int _,.refl ab⟩
 ·unfold gJ at hl;rw [au,jY] at hl;exact hl
theorem kO (hg:Gl X "range") (hm:X.mg "range" = none) (ha:g6 X a ta) (hs:autoParam (c8 [a] X.env=[(false,eval a X.env)]) Ar._auto_1):MP X tg (.Call (.Name "range" p) [a] [] pos) (xj ta):=by
 intro E pins s σ H τ G R hE I h;have hA:La X [a] (aw ta aX):=ag ha aF hs;refine Call_ (rE I.inv hg hm boot_range (fQ (Et hA pos hE I (R:=fun ds G1=>match ds with | [.int n]=>-(2 ^ 62)<=n/\n < 2 ^ 62/\R (gJ 0 n.toNat) (fun _=>True) G1 | _=>False) ?_ fun vs H1 ds G1 us s1 I1 m1 r1 jM q1=>?_) hs rfl))
 ·show ta E τ G _;have e:(fun (x:D) (G1:Gp)=>match [x] with | [.int n]=>-(2 ^ 62)<=n/\n < 2 ^ 62/\R (gJ 0 n.toNat) (fun _=>True) G1 | _=>False)=fun x G1=>match x with | .int n=>-(2 ^ 62)<=n/\n < 2 ^ 62/\R (gJ 0 n.toNat) (fun _=>True) G1 | _=>False:=by
   funext x G1; cases x <;> rfl
  exact e ▸ h
 ·split at q1
  ·rename_i n;obtain⟨w,rfl,EJ⟩:=jM.one;cases EJ;obtain⟨u,rfl,ru⟩:=r1.one;obtain⟨t,rfl⟩:=ru;obtain⟨q1,q2,q⟩:=q1;exact call_range_1 (TY I1.inv m1 (by lia) (by lia) q1 q2 (by simpa using q))
  ·exact q1.elim
theorem dB{iter:Expr}{body:List Stmt}{wi:MM}{g:AA}{t:iE}(hp:PassesOwn (model X.prog X.w) X.A X.env X.xe)(hc:X.calm=true)(hi:MP X tg iter wi)(hg:MQ X tg g)(hb:z8 X body t)
  (hs:autoParam (∀ x,nY iter X.env x=pure x) Ai._auto_1):Jn X (.For tg iter body [] pos) (eQ wi g t):=by
 intro E pins s σ H τ G D hE I h;refine wpAny_For (gU (hi E pins s σ H τ G _ hE I h) fun v s1 h1=>gU h1 fun SM s2 h2=>?_) hs;obtain⟨it,fp,tn,J,H2,G2,ds,ok,e,nH,m2,T,Qu,f2,wk,q⟩:=h2;subst e;have TH:∀ {H':Hp},(∀ b∈fp,H' b=none)->∀ b∈fp,nI X pins H' b:=fun hn b hb=>⟨hn b hb,(f2 b hb).2⟩;refine codeAny_forLoop_any (fun n s'=>∃ i j0 H' qz G',I2 X pins j0 H' qz G' s'/\Mv X.K H G H' G'/\Kp H2 H'/\tn i s'.heap/\(∀ b∈fp,H' b=none)/\n=ds.length - i/\i<=ds.length/\qr g t ok (ds.drop i) E D qz G') ?_ ds.length
  ⟨0,σ,H2,τ,G2,I.mv nH m2,m2,.refl _,Qu,fun b hb=>(f2 b hb).1,rfl,cQ _,q⟩
 rintro n s3 ⟨i,QI,H3,To,G3,I3,m3,k3,Xs,fr3,rfl,hle,w3⟩;by_cases xA:i < ds.length
 ·rw [hZ xA] at w3;obtain⟨Vh,w3⟩:=w3;obtain⟨go,yl⟩:=(wk i H3 G3 k3 I3.ab Vh).1 ds[i] (by simp [xA]);refine ke hp (gU (T.item X rfl rfl rfl hc i pins s3 QI H3 X.xe I3.inv (TH fr3) Xs go) ?_);rintro r s4 ⟨u,hr,h4⟩;subst hr;refine ke hp (gU h4 ?_);rintro _ s5 ⟨x,H5,I5,r5,y5,Yz,fr5⟩;obtain⟨rd5,m5⟩:=yl x H5 y5;have I5':=I5.pinned (TH fr5) (T.obj _ _ Yz);have J5:I2 X (pins++rn fp s5.heap) QI H5 To G3 s5:=⟨I5',I3.st.mono (m5.kp I3.ab),m5.ab⟩;refine ke hp (gU (hg E _ s5 QI H5 To G3 x ds[i] u _ hE J5 r5 rd5 w3) ?_);rintro _ s6 ⟨σ6,H6,τ6,G6,I6,m6,q6⟩;refine ke hp (gU (hb E _ s6 σ6 H6 τ6 G6 _ hE I6 q6) fun f s7 q7=>?_);have again:∀ {M7:L2.St} {H7:Hp} {M6:iQ} {G7:Gp},I2 X (pins++rn fp s5.heap) M7 H7 M6 G7 s7->Mv X.K H6 G6 H7 G7->qr g t ok (ds.drop (i+1)) E D M6 G7 ->
    ∃ m,m < ds.length - i/\∃ i j0 H' qz G',I2 X pins j0 H' qz G' s7/\Mv X.K H G H' G'/\Kp H2 H'/\tn i s7.heap/\(∀ b∈fp,H' b=none)/\m=ds.length - i/\i<=ds.length/\qr g t ok (ds.drop i) E D qz G':=fun {M7 H7 M6 G7} I7 m7 n7=>by
   have mm:=m5.trans (m6.trans m7);refine⟨ds.length - (i+1),by lia,i+1,M7,H7,M6,G7,⟨I7.inv.uA,I7.st,I7.ab⟩,m3.trans mm,k3.trans (mm.kp I3.ab),T.keep _ _ _ Yz fun b hb o e=>(I7.inv.pin (b,o) (dq _ (dq _ (pK hb e)))).1,fun b hb=>?_,rfl,xA,n7⟩;obtain⟨o,e,d⟩:=T.obj _ _ Yz b hb;exact(I7.inv.pin (b,o) (dq _ (dq _ (pK hb e)))).2.1
  cases f with
  | next=>obtain⟨M7,H7,M6,G7,I7,m7,n7⟩:=q7; exact again I7 m7 n7
  | cont=>obtain⟨M7,H7,M6,G7,I7,m7,n7⟩:=q7; exact again I7 m7 n7
  | brk=>obtain⟨M7,H7,M6,G7,I7,m7,q7⟩:=q7; exact⟨M7,H7,M6,G7,⟨I7.inv.uA,I7.st,I7.ab⟩,m3.trans (m5.trans (m6.trans m7)),q7⟩
  | ret v=>obtain⟨x7,M7,H7,d7,G7,I7,m7,r7,rd7,q7⟩:=q7; exact⟨x7,M7,H7,d7,G7,I7.uA,m3.trans (m5.trans (m6.trans m7)),r7,rd7,q7⟩
 ·have hn:ds.length<=i:=by lia
  rw [lT hn] at w3;obtain⟨Vh,qn⟩:=w3;have stop:=(wk i H3 G3 k3 I3.ab Vh).2 hn;refine ke hp (gU (T.done X rfl rfl rfl hc i pins s3 QI H3 X.xe I3.inv (TH fr3) Xs stop) ?_);rintro r s4 ⟨hr,I4⟩;subst hr;exact yc ⟨QI,H3,To,G3,⟨I4,I3.st,I3.ab⟩,m3,qn⟩
theorem LL{c:Expr}{body:List Stmt}{tc:xp}{t:iE}(hp:PassesOwn (model X.prog X.w) X.A X.env X.xe)(hc:K9 X c tc)(hb:z8 X body t):Jn X (.While c body [] pos) (Jh tc t):=by
 intro E pins s σ H τ G D hE I h;obtain⟨n0,w0⟩:=h;refine wpAny_While (codeAny_whileLoop (fun n s'=>∃ j0 H' qz G',I2 X pins j0 H' qz G' s'/\Mv X.K H G H' G'/\En tc t n E D qz G') ?_ n0 ⟨σ,H,τ,G,I,.refl I.ab,w0⟩);rintro n s1 ⟨Xo,H1,pe,G1,I1,m1,w1⟩;cases n with
 | zero=>exact w1.elim
 | succ n =>
  refine ke hp (Lv hc hE I1 w1 fun b H2 G2 s2 nH m2 q2=>?_);cases b with
  | true =>
   rw [if_pos rfl] at q2 ⊢;refine ke hp (gU (hb E pins s2 Xo H2 pe G2 _ hE nH q2) fun f s3 q3=>?_);cases f with
   | next=>obtain⟨QI,H3,To,G3,I3,m3,n3⟩:=q3; exact⟨n,Nat.lt_succ_self _,QI,H3,To,G3,I3,m1.trans (m2.trans m3),n3⟩
   | cont=>obtain⟨QI,H3,To,G3,I3,m3,n3⟩:=q3; exact⟨n,Nat.lt_succ_self _,QI,H3,To,G3,I3,m1.trans (m2.trans m3),n3⟩
   | brk=>exact q3.trans (m1.trans m2)
   | ret v=>exact q3.trans (m1.trans m2)
  | false =>
   rw [if_neg jt] at q2 ⊢;exact yc ⟨Xo,H2,pe,G2,nH,m1.trans m2,q2⟩
end
end K2
end
section
namespace K2
open PySem PySem.Spec PyProof.Rows L2
theorem Co(n d:Nat)(o:Option Int):HT.jL n d o=jL n d o:=by cases o <;> rfl
theorem bt.cut{K:ai}{H:Hp}{vs:List V}{ds:List D}(r:bt K H vs ds)(lo hi:Option Int):bt K H (Gu vs lo hi) (K2.cut ds lo hi):=by
 unfold Gu K2.cut;rw [Co,Co,r.length];exact(r.drop _).take _
theorem bt.qu{K:ai}{H:Hp}{vs:List V}{ds:List D}{i:Int}{d:D}(r:bt K H vs ds)(h:K2.qu ds i=some d):∃ v,L2.qu vs i=some v/\cE K H v d:=by
 unfold K2.qu at h;cases e:K2.Ku ds.length i with
 | none=>rw [e] at h; cases h
 | some j =>
  rw [e] at h;obtain⟨v,h1,h2⟩:=r.get (show ds[j]?=some d from h);refine⟨v,?_,h2⟩;show (L2.Ku vs.length i).bind _=_;have e':L2.Ku vs.length i=some j:=by rw [r.length]; exact e
  rw [e'];exact h1
section
variable {X:Cx} {a b c e:Expr} {ta tb tc te:gI} {pos p2:Pos}
theorem qc{pins:List (Addr×Obj)}{s:aA}{σ:L2.St}{H:Hp}{G:Gp}{x:V}{d:D}{v:Value}{zs:List D}(I:Inv X pins σ H s)(ab:lQ X.K H G)(rx:RelV x v)(rd:cE X.K H x d)(hi:rD d G=some zs) :
  ∃ l vs bZ,v=.ref l/\Vals vs bZ/\bt X.K H vs zs/\s.heap.IsList l bZ.toArray/\vs.length<=bg:=by
 cases rd with
 | dQ hq rs =>
  cases hi;cases rx;obtain⟨bZ,rv,pl,hz⟩:=I.list hq.sq;exact⟨_,_,bZ,rfl,rv,rs,pl.isList,hz⟩
 | ref l =>
  unfold rD at hi;dsimp only at hi;cases hg:G l with
  | none=>rw [hg] at hi; cases hi
  | some gg =>
   rw [hg] at hi;cases gg with
   | lst ds =>
    cases hi;cases rx;obtain⟨vs,hv,rs⟩:=ab.lst hg;obtain⟨bZ,rv,pl,hz⟩:=I.list (.of hv);exact⟨_,_,bZ,rfl,rv,rs,pl.isList,hz⟩
   | ins _ _=>cases hi
   | sJ _=>cases hi
   | gF _=>cases hi
 | _=>cases hi
theorem wz{pins:List (Addr×Obj)}{s:aA}{σ:L2.St}{H:Hp}(I:Inv X pins σ H s){m:Str->Option Value}(F0:Fr X.base X.env.locals s.heap m){h':Heap}(F:Fr X.base X.env.locals h' m)(N:News X.base X.env.locals h' (sP X.base s.heap X.env.locals)) :
  (∀ b o,b≠X.env.locals->s.heap.get? b=some o->h'.get? b=some o)/\∀ m',s.heap.Ns X.env.locals m'->h'.Ns X.env.locals m':=by
 refine⟨fun b o hb e=>?_,fun m' hm=>?_⟩
 ·cases q:X.base.get? b with
  | some u =>
   have:=I.bk b u q;rw [e] at this; cases this;exact F.keep b _ q
  | none=>exact(N (b,o) (xf hb q e)).1
 ·have e1:=hm.eq_nsMap;have e2:=F0.ns.eq_nsMap;rw [e1,<-e2]; exact F.ns
theorem mz{P:bN}{w:World}{H:Hp}{h:Heap}{a:Addr}:∀ {o:HO},gc P w H h a o->∃ ob,h.get? a=some ob:=by
 intro o x;cases o with
 | lst _=>obtain⟨_,_,_,_,e⟩:=x; exact⟨_,e⟩
 | tup _=>obtain⟨_,_,_,ob,e,_⟩:=x; exact⟨ob,e⟩
 | dK _=>obtain⟨_,_,_,_,ob,_,_,e,_⟩:=x; exact⟨ob,e⟩
 | dT _=>obtain⟨_,_,_,_,ob,_,_,e,_⟩:=x; exact⟨ob,e⟩
 | set _ _=>obtain⟨ob,_,_,_,e,_⟩:=x; exact⟨ob,e⟩
 | ins _ _ _=>obtain⟨_,_,_,e,_⟩:=x; exact⟨_,e⟩
 | own _=>exact x
 | xd _=>obtain⟨_,⟨ob,_,_,e,_⟩,_⟩:=x; exact⟨ob,e⟩
 | met _ _=>exact⟨_,x⟩
 | VQ _ _=>obtain⟨_,_,_,e⟩:=x; exact⟨_,e⟩
 | kd _ _=>exact⟨_,x.1⟩
 | So _=>obtain⟨_,e,_⟩:=x; exact⟨_,e⟩
 | ext _=>exact x.2.1
theorem KJ{P:bN}{w:World}{H:Hp}{h:Heap}{a:Addr}(ok:qv P w H h)(e:h.get? a=none):H a=none:=by
 cases q:H a with
 | none=>rfl
 | some o =>
  obtain⟨ob,z⟩:=mz (ok a o q);rw [e] at z; cases z
theorem Inv.SI{pins:List (Addr×Obj)}{s:aA}{σ:L2.St}{H:Hp}(I:Inv X pins σ H s){h':Heap}{t':Nat}{a:Addr}{o:HO}(k:∀ b o,b≠X.env.locals->s.heap.get? b=some o->h'.get? b=some o)(ns:∀ m',s.heap.Ns X.env.locals m'->h'.Ns X.env.locals m')
  (hp:s.heap.get? a=none) (new:gc X.prog X.w (upd H a o) h' a o):Inv X pins σ (upd H a o) { s with heap:=h',toks:=t' }:=by
 have hn:H a=none:=KJ I.cL hp;have ne:∀ b u,H b=some u->b≠a:=fun b u e=>eC e hn;have nL:∀ b u,H b=some u->b≠X.env.locals:=fun b u e=>eC e I.free;have ht:∀ b u,s.heap.get? b=some u->b≠a:=fun b u e z=>by subst z; rw [hp] at e; cases e
 have thL:∃ o',h'.get? X.env.locals=some o':=by
  obtain⟨m,hm,_⟩:=I.loc;obtain⟨o',_,_,ho,_⟩:=ns m hm;exact⟨o',ho⟩
 refine I.step (g':=s.gens) (d':=s.drawn) (ch:=[]) (fun b hb=>absurd hb (by simp)) (fun b o hL _ _ e _=>k b o hL e) (fun b o hL _ _ e _=>⟨o.slots,k b o hL e⟩) (fun b o _ e n=>by rw [bX (ht b o e)]; exact n)
  (fun b o _ e=>?_) (fun b xs e=>by rw [bX (ne _ _ e)]; exact e) (fun b o u e=>by rw [bX (ne _ _ e)]; exact e) (fun b ps e=>by rw [bX (ne _ _ e)]; exact e) (fun b ps e=>by rw [bX (ne _ _ e)]; exact e) ns (fun b u e=>?_) I.bare
 ·by_cases hb:b=X.env.locals
  ·rw [hb]; exact thL
  ·exact⟨o,k b o hb e⟩
 ·by_cases hb:b=a
  ·subst hb; rw [cf] at e; cases e; exact new
  ·rw [bX hb] at e;refine(I.cL b u e).mK (fun c v hc r=>k c v ?_ r) (fun c z=>by rw [bX (ne _ _ z)]; exact z) (fun c xs z=>by rw [bX (ne _ _ z)]; exact z);rcases hc with rfl | hc
   ·exact nL _ _ e
   ·exact nL _ _ hc
theorem dD:sY X (jk .Add) hV:=by
 intro pins s σ H G x y dx dy v u Q I ab rx ry dX dY q;have lists:Jl dx dy G Q->wpAny (model X.prog X.w) X.A (jk .Add v u) (um X pins σ H G Q) X.xe s:=by
  intro q;unfold Jl at q;split at q
  ·rename_i xs ys e1 e2;obtain⟨hz,q⟩:=q;obtain⟨l,vs,bZ,rfl,rv,rs,hl,_⟩:=qc I ab rx dX e1;obtain⟨b,ws,wC,rfl,N0,M9,hb,_⟩:=qc I ab ry dY e2;obtain⟨m,F0⟩:=I.fr;have hsz:bZ.length+wC.length<=bg:=by rw [<-rv.length,<-N0.length,rs.length,M9.length,c6]; exact hz
   refine PyProof.Rows.add_lists F0 Fd hl hb (fun h' F N=>?_) hsz;obtain⟨kk,ns⟩:=wz I F0 F fun p hp=>N p (aO _ hp);have hp:H s.heap.objs.size=none:=I.cL.fresh (aH _);refine⟨.ref s.heap.objs.size,upd H s.heap.objs.size (.lst (vs++ws)),.ref _,_,Inv.SI (t':=s.toks) I kk ns (QH (aH _)) ?_,.Ii ab hp (rs.append M9),rfl,.ref _,q _ (ab.free hp)⟩;exact⟨by rw [aJ,rv.length,N0.length]; exact hsz,bZ++wC,0,rv.append N0,(N _ c4).1⟩
  ·exact q.elim
 cases dX with
 | int i =>
  cases dY with
  | int j=>exact gU (Ui pins s σ H _ _ v u (B7 X.K H G Q) I rx ry ⟨i,j,rfl,rfl,_,_,.refl ab,.int _,q⟩) fun _ _ z=>.of z
  | _=>exact lists q
 | str i =>
  cases dY with
  | str j =>
   obtain⟨hz,q⟩:=q;exact gU (Ib pins s σ H _ _ v u (B7 X.K H G Q) I rx ry ⟨i,j,rfl,rfl,by rw [c6]; exact hz,_,_,.refl ab,.str _,q⟩) fun _ _ z=>.of z
  | _=>exact lists q
 | tup h1 r1 =>
  cases dY with
  | tup h2 r2 =>
   obtain⟨hn,hz,q⟩:=q;refine gU (Ro pins s σ H _ _ v u (B7 X.K H G Q) I rx ry ⟨_,_,_,_,rfl,rfl,.of h1,.of h2,?_,?_,fun e=>?_,fun e p hp=>?_⟩) fun _ _ z=>.of z
   ·rintro rfl; cases r1; exact hn rfl
   ·rw [r1.length,r2.length,c6]; exact hz
   ·subst e;cases r2;rw [cP] at q;exact⟨_,_,.refl ab,.tup h1 r1,q⟩
   ·exact⟨_,_,.Mj ab hp,.tup cf ((r1.append r2).mono (.new hp)),q⟩
  | _=>exact lists q
 | ref l=>exact lists (by rw [uW] at q; exact q)
 | dQ _ _=>exact lists (by rw [uV] at q; exact q)
 | _=>exact lists (by cases dY <;> exact q)
theorem CM:sY X (jk .Sub) Oc:=by
 intro pins s σ H G x y dx dy v u Q I ab rx ry dX dY q;cases dX with
 | int i =>
  cases dY with
  | int j=>exact gU (Ud pins s σ H _ _ v u (B7 X.K H G Q) I rx ry ⟨i,j,rfl,rfl,_,_,.refl ab,.int _,q⟩) fun _ _ z=>.of z
  | _=>exact bW q
 | _=>exact bW q
theorem pG:sY X (jk .Mult) Cy:=by
 intro pins s σ H G x y dx dy v u Q I ab rx ry dX dY q;cases dX with
 | int i =>
  cases dY with
  | int j=>exact gU (Ue pins s σ H _ _ v u (B7 X.K H G Q) I rx ry ⟨i,j,rfl,rfl,q.1,_,_,.refl ab,.int _,q.2⟩) fun _ _ z=>.of z
  | _=>exact bW q
 | _=>exact bW q
theorem ku:sY X (jk .Mod) tL:=by
 intro pins s σ H G x y dx dy v u Q I ab rx ry dX dY q;cases dX with
 | int i =>
  cases dY with
  | int j=>exact gU (Ug pins s σ H _ _ v u (B7 X.K H G Q) I rx ry ⟨i,j,rfl,rfl,q.1,_,_,.refl ab,.int _,q.2⟩) fun _ _ z=>.of z
  | _=>exact bW q
 | _=>exact bW q
theorem y9:sY X (jk .FloorDiv) EY:=by
 intro pins s σ H G x y dx dy v u Q I ab rx ry dX dY q;cases dX with
 | int i =>
  cases dY with
  | int j=>exact gU (Rn pins s σ H _ _ v u (B7 X.K H G Q) I rx ry ⟨i,j,rfl,rfl,⟨q.1,q.2.1⟩,_,_,.refl ab,.int _,q.2.2⟩) fun _ _ z=>.of z
  | _=>exact bW q
 | _=>exact bW q
theorem OA(hu:X.A.units < cLine):sY X (gu .Lt) Xv:=by
 intro pins s σ H G x y dx dy v u Q I ab rx ry dX dY q;cases dX with
 | int i =>
  cases dY with
  | int j=>exact gU (V3 pins s σ H _ _ v u (B7 X.K H G Q) I rx ry ⟨i,j,rfl,rfl,_,_,.refl ab,.bl _,q⟩) fun _ _ z=>.of z
  | _=>exact bW q
 | tup h1 r1 =>
  cases dY with
  | tup h2 r2 =>
   obtain⟨xs,ys,e1,e2,q⟩:=q;subst e1 e2;have z1:=r1.ints;have z2:=r2.ints;subst z1 z2;have el:∀ xs ys:List Int,HT.lexLt xs ys=K2.lexLt xs ys:=by
    intro xs;induction xs with
    | nil=>intro ys; cases ys <;> rfl
    | cons x xs ih=>intro ys; cases ys with
     | nil=>rfl
     | cons y ys=>unfold HT.lexLt K2.lexLt; rw [ih]
   exact gU (Uh hu pins s σ H _ _ v u (B7 X.K H G Q) I rx ry ⟨_,_,xs,ys,rfl,rfl,.of h1,.of h2,_,_,.refl ab,.bl _,by rw [el]; exact q⟩) fun _ _ z=>.of z
  | _=>exact bW q
 | _=>exact bW q
mutual
noncomputable def pd:D->PyData
 | .eU=>.none
 | .bl b=>.bool b
 | .int i=>.int i
 | .str x=>.str x
 | .tup ds=>.tuple (lL ds)
 | .dQ ds=>.list (lL ds)
 | .kI _=>.none
 | .exc _=>.none
 | .Ga _ _ _=>.none
 | .oE _=>.none
 | .ref _=>.none
noncomputable def lL:List D->List PyData
 | []=>[]
 | d :: r=>pd d :: lL r
end
mutual
theorem t6:∀ (s t:D),nr s=true->nr t=true->qC (pd s) (pd t)=iN s t
 | .eU,t,_,ht=>by cases t <;> first | rfl | (exact bG (show false=true from ht))
 | .bl a,t,_,ht=>by cases t <;> first | rfl | (exact bG (show false=true from ht))
 | .int a,t,_,ht=>by cases t <;> first | rfl | (exact bG (show false=true from ht))
 | .str a,t,_,ht=>by cases t <;> first | rfl | (exact bG (show false=true from ht))
 | .tup a,t,hs,ht=>by
  cases t with
  | tup b=>exact Dt a b hs ht
  | ref _=>exact bG (show false=true from ht)
  | exc _=>exact bG (show false=true from ht)
  | Ga _ _ _=>exact bG (show false=true from ht)
  | oE _=>exact bG (show false=true from ht)
  | kI _=>exact bG (show false=true from ht)
  | _=>rfl
 | .dQ a,t,hs,ht=>by
  cases t with
  | dQ b=>exact Dt a b hs ht
  | ref _=>exact bG (show false=true from ht)
  | exc _=>exact bG (show false=true from ht)
  | Ga _ _ _=>exact bG (show false=true from ht)
  | oE _=>exact bG (show false=true from ht)
  | kI _=>exact bG (show false=true from ht)
  | _=>rfl
 | .ref _,_,hs,_=>bG (show false=true from hs)
 | .exc _,_,hs,_=>bG (show false=true from hs)
 | .Ga _ _ _,_,hs,_=>bG (show false=true from hs)
 | .oE _,_,hs,_=>bG (show false=true from hs)
 | .kI _,_,hs,_=>bG (show false=true from hs)
theorem Dt:∀ (s t:List D),qj s=true->qj t=true->PyData.eqvAll (lL s) (lL t)=k9 s t
 | [],[],_,_=>rfl
 | [],_ :: _,_,_=>rfl
 | _ :: _,[],_,_=>rfl
 | a :: r,b :: t,hs,ht=>by
  have SS:nr a=true/\qj r=true:=(kc).mp hs;have ht':nr b=true/\qj t=true:=(kc).mp ht;show (qC (pd a) (pd b)&&PyData.eqvAll (lL r) (lL t))=(iN a b&&k9 r t);rw [t6 a b SS.1 ht'.1,Dt r t SS.2 ht'.2]
end
mutual
theorem ky:∀ (s:D),nr s=true->(pd s).canLay0=true
 | .eU,_=>rfl
 | .bl a,_=>rfl
 | .int a,_=>rfl
 | .str a,h=>h
 | .tup a,h=>vi a h
 | .dQ a,h=>vi a h
 | .exc _,_=>rfl
 | .Ga _ _ _,_=>rfl
 | .oE _,_=>rfl
 | .ref _,_=>rfl
 | .kI _,_=>rfl
theorem vi:∀ (s:List D),qj s=true->PyData.canLayAll0 (lL s)=true
 | [],_=>rfl
 | a :: r,h=>by
  have h':nr a=true/\qj r=true:=(kc).mp h;show ((pd a).canLay0&&PyData.canLayAll0 (lL r))=true;rw [ky a h'.1,vi r h'.2]; rfl
end
theorem DC{G:Gp}{n:Nat}{d t:D}(h:Sn G n d t):(pd t).depth<=n:=by
 induction h with
 | eU=>exact cQ _
 | bl b=>exact cQ _
 | int i=>exact cQ _
 | str x h=>exact cQ _
 | HD=>exact ur (cQ _)
 | qR _ _ Pb Pa =>
  exact ur (Nat.max_le.mpr ⟨Pb,uy Pa⟩)
 | LG=>exact ur (cQ _)
 | Bm _ _ Pb Pa =>
  exact ur (Nat.max_le.mpr ⟨Pb,uy Pa⟩)
 | ref _ _ ih=>exact ih
theorem jc{pins:List (Addr×Obj)}{σ:L2.St}{H:Hp}{s:aA}{G:Gp}(I:Inv X pins σ H s)(ab:lQ X.K H G){n:Nat}{d t:D}(h:Sn G n d t) :
  (∀ v u,cE X.K H v d->RelV v u->∃ as,Reads s.heap u (pd t) as) /\
  (∀ ds ss,(d=.dQ ds/\t=.dQ ss)\/(d=.tup ds/\t=.tup ss)->∀ vs us,bt X.K H vs ds->Vals vs us->∃ as,g8 s.heap us (lL ss) as):=by
 have Sk:∀ {ds ss:List D},(∀ vs us,bt X.K H vs ds->Vals vs us->∃ as,g8 s.heap us (lL ss) as)->∀ v u,cE X.K H v (.tup ds)->RelV v u->∃ as,Reads s.heap u (pd (.tup ss)) as:=by
  intro ds ss k v u r ru;cases r with
  | tup hq rs =>
   cases ru;obtain⟨bZ,rv,⟨o,ho,hc,n,hd⟩,hz⟩:=I.tuple (.of hq);obtain⟨as,ra⟩:=k _ bZ rs rv;exact⟨as,.tuple ho hc hd (by simpa using ra)⟩
 have Sv:∀ {ds ss:List D},(∀ vs us,bt X.K H vs ds->Vals vs us->∃ as,g8 s.heap us (lL ss) as)->∀ v u,cE X.K H v (.dQ ds)->RelV v u->∃ as,Reads s.heap u (pd (.dQ ss)) as:=by
  intro ds ss k v u r ru;cases r with
  | dQ hq rs =>
   cases ru;obtain⟨bZ,rv,pl,hz⟩:=I.list hq.sq;obtain⟨o,ho,hc,n,hd⟩:=pl.isList;obtain⟨as,ra⟩:=k _ bZ rs rv;exact⟨_,.list ho hc hd (by simpa using ra)⟩
 induction h with
 | eU=>exact⟨fun v u r ru=>by cases r; cases ru; exact⟨_,.none⟩,fun ds ss e=>by rcases e with ⟨e,_⟩ | ⟨e,_⟩ <;> cases e⟩
 | bl b=>exact⟨fun v u r ru=>by cases r; cases ru; exact⟨_,.bool b⟩,fun ds ss e=>by rcases e with ⟨e,_⟩ | ⟨e,_⟩ <;> cases e⟩
 | int i=>exact⟨fun v u r ru=>by cases r; obtain⟨t,rfl⟩:=ru; exact⟨_,.int i t⟩,fun ds ss e=>by rcases e with ⟨e,_⟩ | ⟨e,_⟩ <;> cases e⟩
 | str x hx=>exact⟨fun v u r ru=>by cases r; obtain⟨t,rfl⟩:=ru; exact⟨_,.str x t⟩,fun ds ss e=>by rcases e with ⟨e,_⟩ | ⟨e,_⟩ <;> cases e⟩
 | HD =>
  have k:∀ vs us,bt X.K H vs []->Vals vs us->∃ as,g8 s.heap us (lL []) as:=fun vs us r ru=>by
   have e:=r.zero;subst e;cases ru;exact⟨_,.nil⟩
  refine⟨Sk k,fun ds ss e=>?_⟩;rcases e with ⟨e,_⟩ | ⟨e,e2⟩
  ·cases e
  ·cases e; cases e2; exact k
 | qR h1 h2 Pb Pa =>
  have k2:=Pa.2 _ _ (.inr ⟨rfl,rfl⟩);have k:∀ vs us,bt X.K H vs (_ :: _)->Vals vs us->∃ as,g8 s.heap us (lL (_ :: _)) as:=fun vs us r ru=>by
   cases r with
   | cons r1 r2 =>
    cases ru with
    | cons u1 u2 =>
     obtain⟨as,ra⟩:=Pb.1 _ _ r1 u1;obtain⟨bs,rb⟩:=k2 _ _ r2 u2;exact⟨_,.cons ra rb⟩
  refine⟨Sk k,fun ds ss e=>?_⟩;rcases e with ⟨e,_⟩ | ⟨e,e2⟩
  ·cases e
  ·cases e; cases e2; exact k
 | LG =>
  have k:∀ vs us,bt X.K H vs []->Vals vs us->∃ as,g8 s.heap us (lL []) as:=fun vs us r ru=>by
   have e:=r.zero;subst e;cases ru;exact⟨_,.nil⟩
  refine⟨Sv k,fun ds ss e=>?_⟩;rcases e with ⟨e,e2⟩ | ⟨e,_⟩
  ·cases e; cases e2; exact k
  ·cases e
 | Bm h1 h2 Pb Pa =>
  have k2:=Pa.2 _ _ (.inl ⟨rfl,rfl⟩);have k:∀ vs us,bt X.K H vs (_ :: _)->Vals vs us->∃ as,g8 s.heap us (lL (_ :: _)) as:=fun vs us r ru=>by
   cases r with
   | cons r1 r2 =>
    cases ru with
    | cons u1 u2 =>
     obtain⟨as,ra⟩:=Pb.1 _ _ r1 u1;obtain⟨bs,rb⟩:=k2 _ _ r2 u2;exact⟨_,.cons ra rb⟩
  refine⟨Sv k,fun ds ss e=>?_⟩;rcases e with ⟨e,e2⟩ | ⟨e,_⟩
  ·cases e; cases e2; exact k
  ·cases e
 | ref hg h1 ih =>
  refine⟨fun v u r ru=>?_,fun ds ss e=>by rcases e with ⟨e,_⟩ | ⟨e,_⟩ <;> cases e⟩;cases r;cases ru;obtain⟨vs,hv,rs⟩:=ab.lst hg;obtain⟨bZ,rv,pl,hz⟩:=I.list (.of hv);obtain⟨o,ho,hc,n,hd⟩:=pl.isList;obtain⟨as,ra⟩:=ih.2 _ _ (.inl ⟨rfl,rfl⟩) vs bZ rs rv;exact⟨_,.list ho hc hd (by simpa using ra)⟩
theorem lG(hu:X.A.units+64 < cLine):sY X (gu .Eq) (CB false):=by
 intro pins s σ H G x y dx dy v u Q I ab rx ry dX dY q;obtain⟨a,b,sa,sb,q⟩:=q;obtain⟨as,ra⟩:=(jc I ab sa).1 x v dX rx;obtain⟨bs,rb⟩:=(jc I ab sb).1 y u dY ry;have d1:=DC sa;refine SeqAt.compareEq_reads ra rb (ky _ sa.nr) (ky _ sb.nr) (by unfold SN at d1; lia) ?_;rw [t6 _ _ sa.nr sb.nr];exact⟨.bl _,H,.bl _,G,I,.refl ab,rfl,.bl _,q⟩
theorem y7(hu:X.A.units+64 < cLine):sY X (gu .NotEq) (CB true):=by
 intro pins s σ H G x y dx dy v u Q I ab rx ry dX dY q;obtain⟨a,b,sa,sb,q⟩:=q;obtain⟨as,ra⟩:=(jc I ab sa).1 x v dX rx;obtain⟨bs,rb⟩:=(jc I ab sb).1 y u dY ry;have d1:=DC sa;refine SeqAt.compareNe_reads ra rb (ky _ sa.nr) (ky _ sb.nr) (by unfold SN at d1; lia) ?_;rw [t6 _ _ sa.nr sb.nr];exact⟨.bl _,H,.bl _,G,I,.refl ab,rfl,.bl _,q⟩
end
end K2
end
section
namespace K2
open PySem PySem.Spec PyProof.Rows L2
theorem vz(j k:Key):iN (eM j) (eM k)=decide (j=k):=by
 cases j with
 | inl a=>cases k with
  | inl b=>rw [OW]; rfl
  | inr b=>exact(decide_eq_false (fun z=>nomatch z)).symm
 | inr a=>cases k with
  | inl b=>exact(decide_eq_false (fun z=>nomatch z)).symm
  | inr b=>rw [OV]; exact(Qr a b)
theorem BM:∀ (js ks:List Key),k9 (js.map eM) (ks.map eM)=decide (js=ks)
 | [],[]=>(decide_eq_true rfl).symm
 | [],_ :: _=>(decide_eq_false (fun z=>nomatch z)).symm
 | _ :: _,[]=>(decide_eq_false (fun z=>nomatch z)).symm
 | j :: js,k :: ks=>by
  show (iN (eM j) (eM k)&&k9 (js.map eM) (ks.map eM))=_;rw [vz,BM js ks,Gg]
theorem rL(js ks:List Key):iN (.tup (js.map eM)) (.tup (ks.map eM))=decide (js=ks):=by
 exact BM js ks
section
variable {K:ai} {H:Hp}
theorem vk{d:D}(h:eS d=true):∃ k:Key,d=eM k:=by
 cases d with
 | int i=>exact⟨.inl i,rfl⟩
 | str x=>exact⟨.inr x,rfl⟩
 | _=>exact absurd h (by simp [eS])
theorem Km:∀ {ds:List D},ds.all eS=true->∃ ks:List Key,ds=ks.map eM
 | [],_=>⟨[],rfl⟩
 | d :: r,h=>by
  rw [Ax,aN] at h;obtain⟨k,rfl⟩:=vk h.1;obtain⟨ks,rfl⟩:=Km h.2;exact⟨k :: ks,rfl⟩
theorem Kn{d:D}(h:kQ d=true):∃ ks:List Key,d=.tup (ks.map eM):=by
 cases d with
 | tup ds=>obtain⟨ks,rfl⟩:=Km (ds:=ds) h; exact⟨ks,rfl⟩
 | _=>exact absurd h (by simp [kQ])
theorem uO{v:V}{k:Key}(r:cE K H v (eM k)):v=kV k:=by
 cases k with
 | inl i=>cases r; rfl
 | inr x=>cases r; rfl
theorem EM:∀ {vs:List V} {ks:List Key},bt K H vs (ks.map eM)->vs=ks.map kV
 | _,[],r=>r.zero
 | _,k :: ks,r=>by
  rw [ak] at r;cases r with
  | cons r1 r2=>rw [uO r1,EM r2]; rfl
theorem EN{v:V}{ks:List Key}(r:cE K H v (.tup (ks.map eM))):∃ b,v=.ref b/\H b=some (.tup (ks.map kV)):=by
 cases r with
 | tup h rs=>have e:=EM rs; subst e; exact⟨_,rfl,h⟩
theorem mE.look{kv:List (Key×V)}{kvs:List (D×D)}(r:mE K H kv kvs)(k:Key):(∃ v d,lU kv k=some v/\K2.look kvs (eM k)=some d/\cE K H v d)\/(lU kv k=none/\K2.look kvs (eM k)=none):=by
 induction r using mE.ind with
 | nil=>exact .inr ⟨rfl,rfl⟩
 | @cons j v d r t rd rs ih =>
  by_cases e:j=k
  ·left;refine⟨v,d,qN (p:=(j,v)) e,?_,rd⟩;unfold K2.look;rw [cG (by show iN (eM j) (eM k)=true; rw [vz]; exact decide_eq_true e)]; rfl
  ·have e1:lU ((j,v) :: r) k=lU r k:=qO (p:=(j,v)) e;have e2:K2.look ((eM j,d) :: t) (eM k)=K2.look t (eM k):=by
    unfold K2.look;rw [cH (by show ¬ iN (eM j) (eM k)=true; rw [vz]; simpa using e)]
   rw [e1,e2];exact ih
theorem mx.look{kv:List (List Key×V)}{kvs:List (D×D)}(r:mx K H kv kvs)(k:List Key):(∃ v d,lU kv k=some v/\K2.look kvs (.tup (k.map eM))=some d/\cE K H v d)\/(lU kv k=none/\K2.look kvs (.tup (k.map eM))=none):=by
 induction r using mx.ind with
 | nil=>exact .inr ⟨rfl,rfl⟩
 | @cons j v d r t rd rs ih =>
  by_cases e:j=k
  ·left;refine⟨v,d,qN (p:=(j,v)) e,?_,rd⟩;unfold K2.look;rw [cG (by show iN (.tup (j.map eM)) (.tup (k.map eM))=true; rw [rL]; exact decide_eq_true e)]; rfl
  ·have e1:lU ((j,v) :: r) k=lU r k:=qO (p:=(j,v)) e;have e2:K2.look ((.tup (j.map eM),d) :: t) (.tup (k.map eM))=K2.look t (.tup (k.map eM)):=by
    unfold K2.look;rw [cH (by show ¬ iN (.tup (j.map eM)) (.tup (k.map eM))=true; rw [rL]; simpa using e)]
   rw [e1,e2];exact ih
theorem mE.any{kv:List (Key×V)}{kvs:List (D×D)}(r:mE K H kv kvs)(k:Key):(kv.any fun p=>decide (p.1=k))=kvs.any fun p=>iN p.1 (eM k):=by
 induction r using mE.ind with
 | nil=>rfl
 | @cons j v d r t rd rs ih=>simp only [lC]; rw [ih,vz]
theorem mx.any{kv:List (List Key×V)}{kvs:List (D×D)}(r:mx K H kv kvs)(k:List Key):(kv.any fun p=>decide (p.1=k))=kvs.any fun p=>iN p.1 (.tup (k.map eM)):=by
 induction r using mx.ind with
 | nil=>rfl
 | @cons j v d r t rd rs ih=>simp only [lC]; rw [ih,rL]
theorem mE.put{kv:List (Key×V)}{kvs:List (D×D)}(r:mE K H kv kvs)(k:Key){v:V}{d:D}(rd:cE K H v d):mE K H (putK kv k v) (K2.put kvs (eM k) d):=by
 unfold putK K2.put;rw [r.any k];by_cases h:(kvs.any fun p=>iN p.1 (eM k))=true
 ·rw [if_pos h,if_pos h];clear h;induction r using mE.ind with
  | nil=>exact .nil
  | @cons j w e r t re rs ih =>
   simp only [ak];rw [vz];by_cases e:j=k
   ·simp only [e,if_true,decide_true]; exact .cons rd ih
   ·simp only [e,if_false,decide_false,ar]; exact .cons re ih
 ·rw [if_neg h,if_neg h];clear h;induction r using mE.ind with
  | nil=>exact .cons rd .nil
  | cons re rs ih=>exact .cons re ih
theorem mx.put{kv:List (List Key×V)}{kvs:List (D×D)}(r:mx K H kv kvs)(k:List Key){v:V}{d:D}(rd:cE K H v d):mx K H (putK kv k v) (K2.put kvs (.tup (k.map eM)) d):=by
 unfold putK K2.put;rw [r.any k];by_cases h:(kvs.any fun p=>iN p.1 (.tup (k.map eM)))=true
 ·rw [if_pos h,if_pos h];clear h;induction r using mx.ind with
  | nil=>exact .nil
  | @cons j w e r t re rs ih =>
   simp only [ak];rw [rL];by_cases e:j=k
   ·simp only [e,if_true,decide_true]; exact .cons rd ih
   ·simp only [e,if_false,decide_false,ar]; exact .cons re ih
 ·rw [if_neg h,if_neg h];clear h;induction r using mx.ind with
  | nil=>exact .cons rd .nil
  | cons re rs ih=>exact .cons re ih
end
theorem Kp.putD{H:Hp}{p:Addr}{o o':HO}(hp:H p=some o)(h:(∃ k,o=.dK k)\/∃ k,o=.dT k):Kp H (upd H p o') :=
 ⟨fun a ys e=>by rw [bX (by rintro rfl; rw [hp] at e; rcases h with ⟨_,rfl⟩ | ⟨_,rfl⟩ <;> cases e)]; exact e,fun a ob u e=>by rw [bX (by rintro rfl; rw [hp] at e; rcases h with ⟨_,rfl⟩ | ⟨_,rfl⟩ <;> cases e)]; exact e⟩
section
variable {X:Cx} {pins:List (Addr×Obj)} {σ:L2.St} {H:Hp} {s:aA} {G:Gp} {a:Addr} {kvs:List (D×D)} {k:D} {y:V}
theorem toT(I:Inv X pins σ H s)(e:H a=some (.dK [])):Inv X pins σ (upd H a (.dT [])) s:=by
 obtain⟨z,hd,vs,rel,dd⟩:=BS I.cL e;have hv:vs=[]:=by cases rel; rfl
 subst hv;obtain⟨o,es,ep,ho,hx,Ay,hko,hl,nd⟩:=dd;have he:es=#[]:=by
  cases hq:es.toList with
  | nil=>simpa using hq
  | cons _ _=>rw [hq] at hl; cases hl
 subst he;exact I.write (h':=s.heap) (t':=s.toks) (x:=a) (e:=a) (by rw [e]; exact gk) (.inl rfl) (fun b u _ q=>q) ⟨o,ho⟩ ⟨cQ _,hd,[],.nil,o,#[],ep,ho,hx,Ay,rfl,cR⟩
theorem toK(I:Inv X pins σ H s)(e:H a=some (.dT [])):Inv X pins σ (upd H a (.dK [])) s:=by
 obtain⟨z,hd,xs,rel,o,es,ep,ho,hx,Ay,hl,nd⟩:=I.cL a _ e;have hv:xs=[]:=by cases rel; rfl
 subst hv;have he:es=#[]:=by simpa using hl
 subst he;exact I.write (h':=s.heap) (t':=s.toks) (x:=a) (e:=a) (by rw [e]; exact gk) (.inl rfl) (fun b u _ q=>q) ⟨o,ho⟩ ⟨cQ _,hd,[],.nil,o,#[],ep,ho,hx,Ay,(fun _ h=>by simp at h),.nil,cR⟩
theorem Ki{o:HO}(ab:lQ X.K H G)(hg:G a=some (.gF kvs))(k:Kp H (upd H a o))(ho:Lg X.K (upd H a o) a (.gF kvs)):Mv X.K H G (upd H a o) G:=by
 have m:=Mv.put ab hg k ho;have e:eY G a (.gF kvs)=G:=by
  funext b; unfold eY; split
  ·rename_i z; rw [z,hg]
  ·rfl
 rw [e] at m;exact m
theorem DA(I:Inv X pins σ H s)(ab:lQ X.K H G)(hg:G a=some (.gF kvs))(hk:iu kvs k=true)(ry:cE X.K H y k) :
  ∃ H',Inv X pins σ H' s/\Mv X.K H G H' G/\((∃ (kv:List (Key×V)) (kk:Key),H' a=some (.dK kv)/\mE X.K H' kv kvs/\k=eM kk/\y=kV kk)\/∃ (kv:List (List Key×V)) (kk:List Key) (b:Addr),H' a=some (.dT kv)/\mx X.K H' kv kvs/\k=.tup (kk.map eM)/\y=.ref b/\H' b=some (.tup (kk.map kV))):=by
 unfold iu at hk;rw [oW,aN,aN] at hk;rcases hk with ⟨h1,h2⟩ | ⟨h1,h2⟩
 ·obtain⟨kk,rfl⟩:=vk h1;have ey:=uO ry;subst ey;rcases ab a _ hg with ⟨kv,hv,rs⟩ | ⟨kv,hv,rs⟩
  ·exact⟨H,I,.refl ab,.inl ⟨kv,kk,hv,rs,rfl,rfl⟩⟩
  ·cases rs with
   | nil =>
    refine⟨_,toK I hv,Ki ab hg (.putD hv (.inr ⟨_,rfl⟩)) (.inl ⟨[],cf,.nil⟩),.inl ⟨[],kk,cf,.nil,rfl,rfl⟩⟩
   | cons _ _=>simp [eS] at h2
 ·obtain⟨kk,rfl⟩:=Kn h1;obtain⟨b,rfl,hb⟩:=EN ry;rcases ab a _ hg with ⟨kv,hv,rs⟩ | ⟨kv,hv,rs⟩
  ·cases rs with
   | nil =>
    have kp:Kp H (upd H a (.dT [])):=.putD hv (.inl ⟨_,rfl⟩);exact⟨_,toT I hv,Ki ab hg kp (.inr ⟨[],cf,.nil⟩),.inr ⟨[],kk,b,cf,.nil,rfl,rfl,kp.tup _ _ hb⟩⟩
   | @cons j _ _ _ _ _ _=>cases j <;> simp [eM,kQ] at h2
  ·exact⟨H,I,.refl ab,.inr ⟨kv,kk,b,hv,rs,rfl,rfl,hb⟩⟩
theorem Gf(I:Inv X pins σ H s)(ab:lQ X.K H G)(hg:G a=some (.gF kvs))(hk:iu kvs k=true)(ry:cE X.K H y k) :
  ∃ H' o,Inv X pins σ H' s/\Mv X.K H G H' G/\Aj H' a y o/\o.isSome=(look kvs k).isSome/\∀ d,look kvs k=some d->∃ v,o=some v/\cE X.K H' v d:=by
 obtain⟨H',I',m,h⟩:=DA I ab hg hk ry;rcases h with ⟨kv,kk,hv,rs,rfl,rfl⟩ | ⟨kv,kk,b,hv,rs,rfl,rfl,hb⟩
 ·refine⟨H',lU kv kk,I',m,.k hv,?_,fun d hd=>?_⟩
  ·rcases rs.look kk with ⟨v,d,e1,e2,_⟩ | ⟨e1,e2⟩ <;> rw [e1,e2] <;> rfl
  ·rcases rs.look kk with ⟨v,d',e1,e2,r⟩ | ⟨e1,e2⟩
   ·rw [e2] at hd; cases hd; exact⟨v,e1,r⟩
   ·rw [e2] at hd; cases hd
 ·refine⟨H',lU kv kk,I',m,.t hv hb,?_,fun d hd=>?_⟩
  ·rcases rs.look kk with ⟨v,d,e1,e2,_⟩ | ⟨e1,e2⟩ <;> rw [e1,e2] <;> rfl
  ·rcases rs.look kk with ⟨v,d',e1,e2,r⟩ | ⟨e1,e2⟩
   ·rw [e2] at hd; cases hd; exact⟨v,e1,r⟩
   ·rw [e2] at hd; cases hd
theorem Cp{x:V}(I:Inv X pins σ H s)(rd:cE X.K H x (.kI kvs))(hk:iu kvs k=true)(ry:cE X.K H y k) :
  ∃ a o,x=.ref a/\(kvs=[]\/Aj H a y o)/\o.isSome=(look kvs k).isSome/\∀ d,look kvs k=some d->∃ v,o=some v/\cE X.K H v d:=by
 unfold iu at hk;rw [oW,aN,aN] at hk;cases rd with
 | pA h rs =>
  rename_i a ob kv;rcases hk with ⟨h1,h2⟩ | ⟨h1,h2⟩
  ·obtain⟨kk,rfl⟩:=vk h1;have ey:=uO ry;subst ey;refine⟨a,lU kv kk,rfl,.inr (.inl ⟨kv,kk,.inr ⟨_,h⟩,rfl,rfl⟩),?_,fun d hd=>?_⟩
   ·rcases rs.look kk with ⟨v,d,e1,e2,_⟩ | ⟨e1,e2⟩ <;> rw [e1,e2] <;> rfl
   ·rcases rs.look kk with ⟨v,d',e1,e2,r⟩ | ⟨e1,e2⟩
    ·rw [e2] at hd; cases hd; exact⟨v,e1,r⟩
    ·rw [e2] at hd; cases hd
  ·cases rs with
   | nil=>exact⟨a,none,rfl,.inl rfl,rfl,fun d hd=>by cases hd⟩
   | cons _ _ =>
    rename_i kx _ _ _ _ _ _;rw [Ax,aN] at h2;cases kx <;> exact absurd h2.1 (by simp [eM,kQ])
 | pz h rs =>
  rename_i a ob kv;rcases hk with ⟨h1,h2⟩ | ⟨h1,h2⟩
  ·cases rs with
   | nil=>exact⟨a,none,rfl,.inl rfl,rfl,fun d hd=>by cases hd⟩
   | cons _ _ =>
    rw [Ax,aN] at h2;exact absurd h2.1 (by simp [eS])
  ·obtain⟨kk,rfl⟩:=Kn h1;obtain⟨b,rfl,hb⟩:=EN ry;refine⟨a,lU kv kk,rfl,.inr (.inr ⟨kv,kk,b,.inr ⟨_,h⟩,rfl,hb,rfl⟩),?_,fun d hd=>?_⟩
   ·rcases rs.look kk with ⟨v,d,e1,e2,_⟩ | ⟨e1,e2⟩ <;> rw [e1,e2] <;> rfl
   ·rcases rs.look kk with ⟨v,d',e1,e2,r⟩ | ⟨e1,e2⟩
    ·rw [e2] at hd; cases hd; exact⟨v,e1,r⟩
    ·rw [e2] at hd; cases hd
theorem PT{v:V}{d:D}(I:Inv X pins σ H s)(ab:lQ X.K H G)(hg:G a=some (.gF kvs))(hk:iu kvs k=true)(hz:kvs.length < SZ)(ry:cE X.K H y k)(rv:cE X.K H v d) :
  ∃ H' H'',Inv X pins σ H' s/\MW H' a y v H''/\Mv X.K H G H'' (eY G a (.gF (put kvs k d))):=by
 obtain⟨H',I',m,h⟩:=DA I ab hg hk ry;have rv':=rv.mono (m.kp ab);have sz:bg=16777216:=c6;rcases h with ⟨kv,kk,hv,rs,rfl,rfl⟩ | ⟨kv,kk,b,hv,rs,rfl,rfl,hb⟩
 ·have kp:Kp H' (upd H' a (.dK (putK kv kk v))):=.putD hv (.inl ⟨_,rfl⟩);exact⟨H',_,I',.k hv (by rw [rs.length,sz]; exact hz),m.trans (.put m.ab hg kp (.inl ⟨_,cf,(rs.put kk rv').mono kp⟩))⟩
 ·have kp:Kp H' (upd H' a (.dT (putK kv kk v))):=.putD hv (.inr ⟨_,rfl⟩);exact⟨H',_,I',.t hv hb (by rw [rs.length,sz]; exact hz),m.trans (.put m.ab hg kp (.inr ⟨_,cf,(rs.put kk rv').mono kp⟩))⟩
end
end K2
end
section
namespace K2
open PySem PySem.Spec PyProof.Rows L2
section
variable {X:Cx} {a b c e:Expr} {es:List Expr} {ta tb tc te:gI} {t:Jm} {pos p p2 apos kb:Pos} {x:Str}
theorem CJ{k:Bool}{j}:g6 X (.Constant (.bool k) j pos) (dC (.bl k)):=wj V1 fun _ _=>.bl k
theorem LM{st:Stmt}:Jn X st PX:=fun _ _ _ _ _ _ _ _ _ _ h=>h.elim
theorem rY:Xf X (unaryOp .USub) EW:=by
 intro pins s σ H G x dx v Q I ab rx dX q;cases dX with
 | int i=>exact gU (Tv pins s σ H _ v (B7 X.K H G Q) I rx ⟨i,rfl,_,_,.refl ab,.int _,q⟩) fun _ _ z=>.of z
 | _=>exact bW q
theorem cc(hu:X.A.units+64 < cLine)(ha:g6 X a ta)(hb:g6 X b tb)(hs:Sd b):g6 X (.Subscript a b pos) (a9 ip ta tb):=by
 intro E pins s σ H τ G Q hE I h;refine Subscript_ (Qb ha hb hE I h fun v u s2 x y dx dy H2 G2 J m rx ry dX dY q=>?_);have fin:∀ {rb:R2},IxR X rb->rb x y H2 (B7 X.K H2 G2 Q)->wpAny (model X.prog X.w) X.A (subscriptTail a b v u) (um X pins σ H G Q) X.xe s2:=fun hr hq =>
  gU (hr a b pins s2 σ H2 x y v u _ J.inv rx ry hq (hs _ _)) fun _ _ z=>(um.of z).trans m
 cases dX with
 | tup hq rs =>
  cases dY with
  | int i =>
   rw [fF] at q;split at q
   ·rename_i d hd;obtain⟨w,hw,qA⟩:=rs.qu hd;exact fin Uz ⟨_,_,i,w,rfl,rfl,.of hq,hw,d,G2,.refl J.ab,qA,q⟩
   ·exact q.elim
  | _=>exact bW q
 | dQ hq rs =>
  cases dY with
  | int i =>
   rw [jD] at q;split at q
   ·rename_i d hd;obtain⟨w,hw,qA⟩:=rs.qu hd;exact fin Ks ⟨_,_,i,w,rfl,rfl,hq.sq,hw,d,G2,.refl J.ab,qA,q⟩
   ·exact q.elim
  | _=>exact bW q
 | pA h rs =>
  rw [xJ] at q;obtain⟨hk,q⟩:=q;split at q
  ·rename_i d hd;obtain⟨a',o,ea,g,_,hv⟩:=Cp J.inv (.pA h rs) hk dY;obtain⟨w,rfl,qA⟩:=hv d hd;cases ea;rcases g with rfl | g
   ·cases hd
   ·cases rx;exact tail_any (rN J.inv g) PySem.F.slot_dict_getitem.lookup (wL (by lia) J.inv g ry fun w' s3 I4 rv=>⟨w,H2,d,G2,I4,m,rv,qA,q⟩) (hs _ _)
  ·exact q.elim
 | pz h rs =>
  rw [xJ] at q;obtain⟨hk,q⟩:=q;split at q
  ·rename_i d hd;obtain⟨a',o,ea,g,_,hv⟩:=Cp J.inv (.pz h rs) hk dY;obtain⟨w,rfl,qA⟩:=hv d hd;cases ea;rcases g with rfl | g
   ·cases hd
   ·cases rx;exact tail_any (rN J.inv g) PySem.F.slot_dict_getitem.lookup (wL (by lia) J.inv g ry fun w' s3 I4 rv=>⟨w,H2,d,G2,I4,m,rv,qA,q⟩) (hs _ _)
  ·exact q.elim
 | ref l =>
  rw [CA] at q;split at q
  ·rename_i ds hl;obtain⟨vs,hv,rs⟩:=J.ab.lst hl;cases dY with
   | int i =>
    dsimp only at q;split at q
    ·rename_i d hd;obtain⟨w,hw,qA⟩:=rs.qu hd;exact fin Ks ⟨_,_,i,w,rfl,rfl,.of hv,hw,d,G2,.refl J.ab,qA,q⟩
    ·exact q.elim
   | _=>exact bW q
  ·rename_i kvs hl;obtain⟨hk,q⟩:=q;split at q
   ·rename_i d hd;obtain⟨H3,o,I3,m3,g,_,hv⟩:=Gf J.inv J.ab hl hk dY;obtain⟨w,rfl,qA⟩:=hv d hd;cases rx;exact tail_any (rN I3 g) PySem.F.slot_dict_getitem.lookup (wL (by lia) I3 g ry fun w' s3 I4 rv=>⟨w,H3,d,G2,I4,m.trans m3,rv,qA,q⟩) (hs _ _)
   ·exact q.elim
  ·exact q.elim
 | _=>exact bW q
noncomputable def X5(X:Cx)(e:Option Expr)(t:Xh):Prop :=
 ∀ (E:mw) (pins:List (Addr×Obj)) (s:aA) (σ:L2.St) (H:Hp) (τ:iQ) (G:Gp) (Q:Option Int->Gp->Prop),Lk X E->I2 X pins σ H τ G s->t E τ G Q ->
  wpAny (model X.prog X.w) X.A (evalPart e X.env) (fun u s'=>∃ o H' G',Inv X pins σ H' s'/\Mv X.K H G H' G'/\IsPart u o/\Q o G') X.xe s
theorem iF:X5 X none fA:=by
 intro E pins s σ H τ G Q hE I h;rw [evalPart_none];exact aE ⟨none,H,G,I.inv,.refl I.ab,.none,h⟩
theorem gy(h:g6 X e te):X5 X (some e) (lN te):=by
 intro E pins s σ H τ G Q hE I hw;rw [evalPart_some];refine j9 h hE I hw fun x H1 d G1 u s1 I1 m1 r1 jM q1=>?_;cases jM with
 | int i =>
  obtain⟨t,rfl⟩:=r1;exact⟨some i,H1,G1,I1.inv,m1,.int i t,q1⟩
 | _=>exact bW q1
theorem fO{lo hi:Option Expr}{tl th:Xh}(he:g6 X a ta)(hl:X5 X lo tl)(hu:X5 X hi th):g6 X (.Subscript a (.Slice lo hi none p2) pos) (Az ta tl th):=by
 intro E pins s σ H τ G Q hE I h;refine Subscript_ (j9 he hE I h fun x H1 d G1 v s1 I1 m1 r1 jM q1=>?_);refine wpAny_Slice (gU (hl E pins s1 σ H1 τ G1 _ hE I1 q1) ?_);rintro vl s2 ⟨l,H2,G2,nH,m2,pl,q2⟩;refine gU (hu E pins s2 σ H2 τ G2 _ hE (I1.mv nH m2) q2) ?_;rintro vu s3 ⟨r,H3,G3,I3,m3,pu,q3⟩;rw [evalPart_none];refine aE ?_;have m13:=m2.trans m3;have mm:=m1.trans m13;have I4:Inv X pins σ H3 { s3 with heap:=s3.heap.push { cls:=.type "slice",data:=.fields #[vl,vu,.none] } }:=I3.kept (t':=s3.toks) fun b ob q=>aM _ q;have YH:=jM.mono (m13.kp I1.ab);have Tc:=m3.ab;have key:∀ {rb:V->Option Int->Option Int->Hp->VK->Prop},SlR X rb->rb x l r H3 (B7 X.K H3 G3 Q)->wpAny (model X.prog X.w) X.A (subscriptTail a (.Slice lo hi none p2) v (.ref s3.heap.objs.size)) (um X pins σ H G Q) X.xe { s3 with heap:=s3.heap.push { cls:=.type "slice",data:=.fields #[vl,vu,.none] } }:=fun hr hq=>by
  obtain⟨T,id,hT,ht,hg⟩:=hr pins { s3 with heap:=s3.heap.push { cls:=.type "slice",data:=.fields #[vl,vu,.none] } } σ H3 x v vl vu l r s3.heap.objs.size _ I4 r1 (Heap.IsSliceOf.new ..) pl pu hq;exact gU (tail_any (ops:=[.ref s3.heap.objs.size,v]) ht hT hg (by with_unfolding_all rfl)) fun _ _ z=>(um.of z).trans mm
 cases YH with
 | tup hq rs =>
  obtain⟨hw,q⟩:=q3;refine key TQ ⟨_,_,rfl,.of hq,?_,fun p hp=>⟨_,G3,.Mj Tc hp,.tup cf ((rs.cut l r).mono (.new hp)),q⟩⟩;rw [Co,Co,rs.length];exact hw
 | dQ hq rs=>exact key JW ⟨_,_,rfl,hq.sq,fun p hp=>⟨_,_,.Ii Tc hp (rs.cut l r),.ref _,q3 p (Tc.free hp)⟩⟩
 | ref g =>
  rw [Cv] at q3;split at q3
  ·rename_i ds hg;obtain⟨vs,hv,rs⟩:=Tc.lst hg;exact key JW ⟨_,_,rfl,.of hv,fun p hp=>⟨_,_,.Ii Tc hp (rs.cut l r),.ref _,q3 p (Tc.free hp)⟩⟩
  ·exact q3.elim
 | _=>exact bW q3
theorem Rj(ss:List D)(s:D)(h1:qj ss=true)(h2:nr s=true):((lL ss).any fun y=>qC y (pd s))=ss.any (iN · s):=by
 induction ss with
 | nil=>rfl
 | cons d r ih =>
  have h':nr d=true/\qj r=true:=(kc).mp h1;show (qC (pd d) (pd s)||(lL r).any _)=_;rw [ih h'.2,t6 d s h'.1 h2]; rfl
theorem KY{G:Gp}{n:Nat}{ds ss:List D}(h:Sn G (n+1) (.dQ ds) (.dQ ss)):cA (lL ss)<=n:=by
 exact uy (DC h)
theorem C1(hu:X.A.units+64 < cLine)(neg:Bool){pins:List (Addr×Obj)}{s:aA}{σ:L2.St}{H:Hp}{G:Gp}{x y:V}{dx t:D}{ds ss:List D}{v u:Value}{Q:DK}(I:Inv X pins σ H s)(ab:lQ X.K H G)(rx:RelV x v)(dX:cE X.K H x dx)
  (hy:(∃ l vs bZ,u=.ref l/\Vals vs bZ/\bt X.K H vs ds/\(s.heap.IsList l bZ.toArray\/s.heap.IsTuple l bZ.toArray))) (s1:Sn G SN dx t) (s2:Sn G SN (.dQ ds) (.dQ ss))
  (q:Q (.bl (if neg then !ss.any (iN · t) else ss.any (iN · t))) G):wpAny (model X.prog X.w) X.A (gu (if neg then .NotIn else .In) v u) (um X pins σ H G Q) X.xe s:=by
 obtain⟨l,vs,bZ,rfl,rv,rs,hl⟩:=hy;obtain⟨as,ra⟩:=(jc I ab s1).1 x v dX rx;obtain⟨bs,rb⟩:=(jc I ab s2).2 ds ss (.inl ⟨rfl,rfl⟩) vs bZ rs rv;have d2:=KY (n:=7) s2;have n2:qj ss=true:=s2.nr;have zu:=vi _ n2;have e:=Rj ss t n2 s1.nr;have Kx:X.A.units+1+min (cA (lL ss)) (pd t).depth < cLine:=by lia
 have Oa:g8 s.heap bZ.toArray.toList (lL ss) bs:=by simpa using rb
 have fin:∀ k:Bool,k=(if neg then !ss.any (iN · t) else ss.any (iN · t))->um X pins σ H G Q (.bool k) s:=fun k hk=>by subst hk; exact⟨.bl _,H,.bl _,G,I,.refl ab,rfl,.bl _,q⟩
 cases neg with
 | false =>
  rcases hl with hl | hl
  ·exact SeqAt.in_listAt _ hl (nA Oa ra zu (ky _ s1.nr) Kx) (by rw [qJ Oa zu,e]; exact fin _ rfl)
  ·exact SeqAt.in_tupleAt _ hl (nA Oa ra zu (ky _ s1.nr) Kx) (by rw [qJ Oa zu,e]; exact fin _ rfl)
 | true =>
  rcases hl with hl | hl
  ·exact SeqAt.notIn_listAt _ hl (nA Oa ra zu (ky _ s1.nr) Kx) (by rw [qJ Oa zu,e]; exact fin _ rfl)
  ·exact SeqAt.notIn_tupleAt _ hl (nA Oa ra zu (ky _ s1.nr) Kx) (by rw [qJ Oa zu,e]; exact fin _ rfl)
theorem O9(hu:X.A.units+64 < cLine)(neg:Bool){pins:List (Addr×Obj)}{s:aA}{σ:L2.St}{H:Hp}{G:Gp}{x y:V}{dx:D}{kvs:List (D×D)}{v u:Value}{Q:DK}(I:Inv X pins σ H s)(ab:lQ X.K H G)(rx:RelV x v)(ry:RelV y u)(dY:cE X.K H y (.kI kvs))(dX:cE X.K H x dx)
  (q:QZ neg dx (.kI kvs) G Q):wpAny (model X.prog X.w) X.A (gu (if neg then .NotIn else .In) v u) (um X pins σ H G Q) X.xe s:=by
 obtain⟨D7,hk,q⟩:=q;have go:∀ (a:Addr) (o:Option V),y=.ref a->Aj H a x o->o.isSome=(look kvs dx).isSome->wpAny (model X.prog X.w) X.A (gu (if neg then .NotIn else .In) v u) (um X pins σ H G Q) X.xe s:=by
  intro a o ea g ho;subst ea;cases ry;cases neg with
  | false=>exact W6 (by lia) I g rx fun s3 I4=>⟨.bl _,H,.bl _,G,I4,.refl ab,rfl,.bl _,by rw [ho]; exact q⟩
  | true=>exact KZ (by lia) I g rx fun s3 I4=>⟨.bl _,H,.bl _,G,I4,.refl ab,rfl,.bl _,by rw [ho]; exact q⟩
 obtain⟨a,o,ea,g,ho,_⟩:=Cp I dY hk dX;rcases g with rfl | g
 ·exact absurd rfl D7
 ·exact go a o ea g ho
theorem Rp(hu:X.A.units+64 < cLine)(neg:Bool):sY X (gu (if neg then .NotIn else .In)) (QZ neg):=by
 intro pins s σ H G x y dx dy v u Q I ab rx ry dX dY q;cases dY with
 | tup hq rs =>
  obtain⟨t,ss,s1,s2,q⟩:=q;cases ry;obtain⟨bZ,rv,pl,hz⟩:=I.tuple (.of hq);exact C1 hu neg (y:=x) I ab rx dX ⟨_,_,bZ,rfl,rv,rs,.inr pl⟩ s1 s2 q
 | dQ hq rs =>
  obtain⟨t,ss,s1,s2,q⟩:=q;cases ry;obtain⟨bZ,rv,pl,hz⟩:=I.list hq.sq;exact C1 hu neg (y:=x) I ab rx dX ⟨_,_,bZ,rfl,rv,rs,.inl pl.isList⟩ s1 s2 q
 | pA h rs=>exact O9 hu neg I ab rx ry (.pA h rs) dX q
 | pz h rs=>exact O9 hu neg I ab rx ry (.pz h rs) dX q
 | ref l =>
  unfold QZ at q;dsimp only at q;split at q
  ·rename_i kvs hl;obtain⟨hk,q⟩:=q;obtain⟨H3,o,I3,m3,g,ho,_⟩:=Gf I ab hl hk dX;cases ry;cases neg with
   | false=>exact W6 (by lia) I3 g rx fun s3 I4=>⟨.bl _,H3,.bl _,G,I4,m3,rfl,.bl _,by rw [ho]; exact q⟩
   | true=>exact KZ (by lia) I3 g rx fun s3 I4=>⟨.bl _,H3,.bl _,G,I4,m3,rfl,.bl _,by rw [ho]; exact q⟩
  ·rename_i ds hl;obtain⟨t,ss,s1,s2,q⟩:=q;cases ry;obtain⟨vs,hv,rs⟩:=ab.lst hl;obtain⟨bZ,rv,pl,hz⟩:=I.list (.of hv);exact C1 hu neg (y:=x) I ab rx dX ⟨_,_,bZ,rfl,rv,rs,.inl pl.isList⟩ s1 s2 q
  ·exact q.elim
 | _=>exact bW q
theorem Uj(hu:X.A.units+64 < cLine):sY X (gu .In) (QZ false):=Rp hu false
end
end K2
end
section
namespace K2
open PySem PySem.Spec PyProof.Rows L2
section
variable {X:Cx} {a b c e o:Expr} {es:List Expr} {ta tb tc te to:gI} {t:Jm} {pos p p2 apos kb:Pos} {x name:Str} {id T:String}
theorem mD:uo X (.builtin "len") ue:=by
 intro pins s σ H G xs ds us Q I ab rx rd q;unfold ue at q;split at q
 ·rename_i x;obtain⟨v,rfl,r⟩:=rd.one;have QN:∀ (n:Nat),Xk X.K v H n->Q (.int (n:Int)) G->wpAny (model X.prog X.w) X.A (call (.builtin "len") us) (um X pins σ H G Q) X.xe s:=fun n hn hq =>
   gU (P7 pins s σ H [v] us (B7 X.K H G Q) I rx ⟨v,n,rfl,hn,_,_,.refl ab,.int _,hq⟩) fun _ _ z=>.of z
  have sz:bg=16777216:=c6;cases r with
  | tup hq rs=>exact QN _ (.inr ⟨_,.of hq,by rw [rs.length]⟩) q
  | dQ hq rs=>exact QN _ (.inl ⟨_,hq.sq,by rw [rs.length]⟩) q
  | str y =>
   unfold lenOf at q;dsimp only at q;by_cases hz:y.length<=SZ
   ·rw [if_pos hz] at q; exact QN _ ⟨by rw [sz]; exact hz,rfl⟩ q
   ·rw [if_neg hz] at q; exact q.elim
  | pA h rs =>
   rename_i l o kv kvs;obtain⟨u,rfl,ru⟩:=rx.one;cases ru;unfold lenOf at q;dsimp only at q;by_cases ha:(kvs.all fun p=>eS p.1)=true
   ·rw [if_pos ha] at q;exact S7 I (.inr ⟨_,h⟩) fun t s' I'=>⟨.int kv.length,H,_,G,I',.refl ab,⟨t,rfl⟩,.int _,by rw [rs.length]; exact q⟩
   ·rw [if_neg ha] at q; exact q.elim
  | pz h rs =>
   rename_i l o kv kvs;obtain⟨u,rfl,ru⟩:=rx.one;cases ru;unfold lenOf at q;dsimp only at q;by_cases ha:(kvs.all fun p=>eS p.1)=true
   ·rw [if_pos ha] at q;cases rs with
    | nil =>
     obtain⟨z,hS,xs,rel,ob,es,ep,ho,hx,Ay,hl,nd⟩:=(I.cL l _ h).2;have ZF:xs=[]:=by cases rel; rfl
     subst ZF;have he:es=#[]:=by simpa using hl
     subst he;have dd:s.heap.DictOf (cY X.prog X.w) l []:=⟨ob,#[],ep,ho,hx,Ay,(fun _ h=>by simp at h),.nil,cR⟩;refine call_len_dict hS dd (by simp) ?_;exact⟨.int 0,H,_,G,I.tok _,.refl ab,⟨_,rfl⟩,.int _,q⟩
    | cons _ _=>simp [eS] at ha
   ·rw [if_neg ha] at q; exact q.elim
  | ref l =>
   unfold lenOf at q;dsimp only at q;cases hg:G l with
   | none=>rw [hg] at q; exact q.elim
   | some g =>
    rw [hg] at q;cases g with
    | lst ds =>
     obtain⟨vs,hv,rs⟩:=ab.lst hg;exact QN _ (.inl ⟨_,.of hv,by rw [rs.length]⟩) q
    | ins _ _=>exact q.elim
    | sJ _=>exact q.elim
    | gF kvs =>
     obtain⟨u,rfl,ru⟩:=rx.one;cases ru;dsimp only at q;by_cases ha:(kvs.all fun p=>eS p.1)=true
     ·rw [if_pos ha] at q;rcases ab l _ hg with ⟨kv,hv,rs⟩ | ⟨kv,hv,rs⟩
      ·exact S7 I (.inl hv) fun t s' I'=>⟨.int kv.length,H,_,G,I',.refl ab,⟨t,rfl⟩,.int _,by rw [rs.length]; exact q⟩
      ·cases rs with
       | nil =>
        obtain⟨z,hd,vs,rel,dd⟩:=BS (toK I hv).cL cf;have hvs:vs=[]:=by cases rel; rfl
        subst hvs;refine call_len_dict hd dd (by simp) ?_;exact⟨.int 0,H,_,G,I.tok _,.refl ab,⟨_,rfl⟩,.int _,q⟩
       | cons _ _=>simp [eS] at ha
     ·rw [if_neg ha] at q; exact q.elim
  | _=>exact bW q
 ·exact q.elim
theorem zV:uo X (.type "list") vK:=by
 intro pins s σ H G xs ds us Q I ab rx rd q;unfold vK at q;split at q
 ·rename_i x;obtain⟨v,rfl,r⟩:=rd.one;have Vf:∀ (l:Addr) (ys:List V) (zs:List D),v=.ref l->(oZ X.K H l ys\/xZ X.K H l ys)->bt X.K H ys zs->gZ G (.lst zs) Q->wpAny (model X.prog X.w) X.A (call (.type "list") us) (um X pins σ H G Q) X.xe s:=fun l ys zs e h rs hq=>by
   subst e;exact gU (DI pins s σ H _ us (B7 X.K H G Q) I rx ⟨l,ys,rfl,h,fun p hp=>⟨_,_,.Ii ab hp rs,.ref _,hq p (ab.free hp)⟩⟩) fun _ _ z=>.of z
  cases r with
  | tup hq rs=>exact Vf _ _ _ rfl (.inr (.of hq)) rs q
  | dQ hq rs=>exact Vf _ _ _ rfl (.inl hq.sq) rs q
  | ref l =>
   unfold itemsOf at q;dsimp only at q;cases hg:G l with
   | none=>rw [hg] at q; exact q.elim
   | some g =>
    rw [hg] at q;cases g with
    | lst ds =>
     obtain⟨vs,hv,rs⟩:=ab.lst hg;exact Vf _ _ _ rfl (.inl (.of hv)) rs q
    | ins _ _=>exact q.elim
    | sJ _=>exact q.elim
    | gF kvs=>exact q.elim
  | _=>exact bW q
 ·exact q.elim
theorem mV {r:List D->Gp->DK->Prop} (hc:uo X (.type T) r) (hg:Gl X x) (hm:X.mg x=none) (hv:eX x=some (.type T)) (ha:La X (e :: es) t) (hn:autoParam (x≠"__name__") Ad._auto_1) (Mm:autoParam ((x == ("__debug__" : Str))=false) Ad._auto_1)
  (he:autoParam (c8 (e :: es) X.env=(false,eval e X.env) :: c8 es X.env) Ar._auto_1) (Kz:autoParam ((qI pos (c8 es X.env)).any (·.1)=false) Ar._auto_1):g6 X (.Call (.Name x p) (e :: es) [] pos) (ua r t):=by
 intro E pins s σ H τ G Q hE I h;refine mH (rE I.inv hg hm hv ?_ hn Mm);exact fQ (Et ha pos hE I h fun vs H1 ds G1 us s1 I1 m1 r1 jM q1=>gU (hc pins s1 σ H1 G1 vs ds us Q I1.inv I1.ab r1 jM q1) fun _ _ z=>z.trans m1) he Kz
theorem Ut (K:ai):∀ C∈["int","bool","list","tuple","dict","str"],∀ T∈["NoneType","bool","int","str","tuple","list","dict"],PySem.W.kitOne K (.type T) (.type C)=some (T == C||(T == "bool" && C == "int")):=by
 intro C hC T hT;simp only [aY,ez,or_false] at hC hT;rcases hC with rfl | rfl | rfl | rfl | rfl | rfl <;> rcases hT with rfl | rfl | rfl | rfl | rfl | rfl | rfl <;> kernel_rfl
theorem O5 (C:String) (hC:C∈["int","bool","list","tuple","dict","str"]) {pins:List (Addr×Obj)} {s:aA} {σ:L2.St} {H:Hp} {G:Gp} {v:V} {d:D} {u:Value} {k:Bool} {Q:DK} (I:Inv X pins σ H s) (ab:lQ X.K H G) (ru:RelV v u) (r:cE X.K H v d)
  (hk:SO C d G=some k) (q:Q (.bl k) G):wpAny (model X.prog X.w) X.A (call (.builtin "isinstance") [u,.type C]) (um X pins σ H G Q) X.xe s:=by
 have fin:∀ tk,um X pins σ H G Q (.bool k) { s with toks:=tk }:=fun tk=>⟨.bl k,H,.bl k,G,I.tok _,.refl ab,rfl,.bl k,q⟩;have hl:∀ T∈["NoneType","bool","int","str","tuple","list","dict"],k=(T == C||(T == "bool" && C == "int"))->PySem.W.kitOne X.K (.type T) (.type C)=some k:=fun T hT e=>by rw [Ut X.K C hC T hT,e]
 have tl:∀ {l:Addr} {o:Obj},s.heap.get? l=some o->o.cls=.type "list"->k=("list" == C||("list" == "bool" && C == "int"))->v=.ref l->wpAny (model X.prog X.w) X.A (call (.builtin "isinstance") [u,.type C]) (um X pins σ H G Q) X.xe s:=fun ho hc e ev=>by
  subst ev;cases ru;exact jl PySem.W.kitx_list I.Ko ⟨_,ho,hc⟩ (hl "list" (by decide) e) (fun z=>nomatch z) fin
 have td:∀ {l:Addr} {o:Obj},s.heap.get? l=some o->o.cls=.type "dict"->k=("dict" == C||("dict" == "bool" && C == "int"))->v=.ref l->wpAny (model X.prog X.w) X.A (call (.builtin "isinstance") [u,.type C]) (um X pins σ H G Q) X.xe s:=fun ho hc e ev=>by
  subst ev;cases ru;exact jl PySem.W.kitx_dict I.Ko ⟨_,ho,hc⟩ (hl "dict" (by decide) e) (fun z=>nomatch z) fin
 have ow:∀ P:String->Prop,(∀ C'∈["int","bool","list","tuple","dict","str"],P C')->P C:=fun P h=>h C hC;cases r with
 | eU =>
  cases ru;have e:k=("NoneType" == C||("NoneType" == "bool" && C == "int")):=by
   have:k=false:=(bc hk).symm;rw [this];exact ow (fun C=>false=("NoneType" == C||("NoneType" == "bool" && C == "int"))) (by decide)
  exact jl PySem.W.kitx_none I.Ko gk (hl _ (by decide) e) (fun z=>nomatch z) fin
 | bl y =>
  cases ru;have e:k=("bool" == C||("bool" == "bool" && C == "int")):=by
   have:k=(C == "bool" || C == "int"):=(bc hk).symm;rw [this];exact ow (fun C=>(C == "bool" || C == "int")=("bool" == C||("bool" == "bool" && C == "int"))) (by decide)
  exact jl PySem.W.kitx_bool I.Ko gk (hl _ (by decide) e) (fun z=>nomatch z) fin
 | int y =>
  obtain⟨t,rfl⟩:=ru;have e:k=("int" == C||("int" == "bool" && C == "int")):=by
   have:k=(C == "int"):=(bc hk).symm;rw [this];exact ow (fun C=>(C == "int")=("int" == C||("int" == "bool" && C == "int"))) (by decide)
  exact jl PySem.W.kitx_int I.Ko gk (hl _ (by decide) e) (fun z=>nomatch z) fin
 | str y =>
  obtain⟨t,rfl⟩:=ru;have e:k=("str" == C||("str" == "bool" && C == "int")):=by
   have:k=(C == "str"):=(bc hk).symm;rw [this];exact ow (fun C=>(C == "str")=("str" == C||("str" == "bool" && C == "int"))) (by decide)
  exact jl PySem.W.kitx_str I.Ko gk (hl _ (by decide) e) (fun z=>nomatch z) fin
 | tup hq rs =>
  cases ru;have e:k=("tuple" == C||("tuple" == "bool" && C == "int")):=by
   have:k=(C == "tuple"):=(bc hk).symm;rw [this];exact ow (fun C=>(C == "tuple")=("tuple" == C||("tuple" == "bool" && C == "int"))) (by decide)
  obtain⟨bZ,rv,⟨o,h1,h2,_⟩,hz⟩:=I.tuple (.of hq);exact jl PySem.W.kitx_tuple I.Ko ⟨o,h1,h2⟩ (hl _ (by decide) e) (fun z=>nomatch z) fin
 | dQ hq rs =>
  obtain⟨bZ,rv,pl,hz⟩:=I.list hq.sq;obtain⟨o,h1,h2,_⟩:=pl.isList;refine tl h1 h2 ?_ rfl;have:k=(C == "list"):=(bc hk).symm;rw [this];exact ow (fun C=>(C == "list")=("list" == C||("list" == "bool" && C == "int"))) (by decide)
 | pA h rs =>
  have e:k=("dict" == C||("dict" == "bool" && C == "int")):=by
   have:k=(C == "dict"):=(bc hk).symm;rw [this];exact ow (fun C=>(C == "dict")=("dict" == C||("dict" == "bool" && C == "int"))) (by decide)
  obtain⟨_,_,vs,_,ob,_,_,h1,h2,_⟩:=tF I.cL (.inr ⟨_,h⟩);exact td h1 h2.1 e rfl
 | pz h rs =>
  have e:k=("dict" == C||("dict" == "bool" && C == "int")):=by
   have:k=(C == "dict"):=(bc hk).symm;rw [this];exact ow (fun C=>(C == "dict")=("dict" == C||("dict" == "bool" && C == "int"))) (by decide)
  obtain⟨_,_,ys,_,ob,_,_,h1,h2,_⟩:=zN I.cL (.inr ⟨_,h⟩);exact td h1 h2.1 e rfl
 | exc h=>simp [SO] at hk
 | Ga h _=>simp [SO] at hk
 | oE _ _ _ _=>simp [SO] at hk
 | ref l =>
  unfold SO at hk;dsimp only at hk;cases hg:G l with
  | none=>rw [hg] at hk; cases hk
  | some g =>
   rw [hg] at hk;cases g with
   | lst ds =>
    obtain⟨vs,hv,rs⟩:=ab.lst hg;obtain⟨bZ,rv,pl,hz⟩:=I.list (.of hv);obtain⟨o,h1,h2,_⟩:=pl.isList;refine tl h1 h2 ?_ rfl;have:k=(C == "list"):=(bc hk).symm;rw [this];exact ow (fun C=>(C == "list")=("list" == C||("list" == "bool" && C == "int"))) (by decide)
   | ins _ _=>cases hk
   | sJ _=>cases hk
   | gF kvs =>
    have e:k=("dict" == C||("dict" == "bool" && C == "int")):=by
     have:k=(C == "dict"):=(bc hk).symm;rw [this];exact ow (fun C=>(C == "dict")=("dict" == C||("dict" == "bool" && C == "int"))) (by decide)
    rcases ab l _ hg with ⟨kv,hv,rs⟩ | ⟨kv,hv,rs⟩
    ·obtain⟨_,_,vs,_,ob,_,_,h1,h2,_⟩:=BS I.cL hv;exact td h1 h2.1 e rfl
    ·obtain⟨_,_,ys,_,ob,_,_,h1,h2,_⟩:=PQ I.cL hv;exact td h1 h2.1 e rfl
theorem CI (C:String) (hC:C∈["int","bool","list","tuple","dict","str"]) {y:Str} {py:Pos} (hg:Gl X "isinstance") (hm:X.mg "isinstance" = none) (hgC:Gl X y) (hmC:X.mg y=none) (hvC:eX y=some (.type C)) (ha:g6 X a ta) (hn:autoParam (y≠"__name__") Ad._auto_1) (Mm:autoParam ((y == ("__debug__" : Str))=false) Ad._auto_1)
  (he:autoParam (c8 [a,.Name y py] X.env=(false,eval a X.env) :: c8 [.Name y py] X.env) Ar._auto_1) (Kz:autoParam ((qI pos (c8 [Expr.Name y py] X.env)).any (·.1)=false) Ar._auto_1) (UG:autoParam (c8 [.Name y py] X.env=[(false,eval (.Name y py) X.env)]) Ar._auto_1) :
  g6 X (.Call (.Name "isinstance" p) [a,.Name y py] [] pos) (PY C ta):=by
 intro E pins s σ H τ G Q hE I h;refine mH (rE I.inv hg hm PyProof.Rows.boot_isinstance ?_);refine vY ?_ he Kz;rw [he];show wpAny _ _ (spliced ((false,eval a X.env) :: qI pos (c8 [.Name y py] X.env))) _ _ s;refine qf (j9 ha hE I h fun v H1 d G1 u s1 I1 m1 r1 jM q1=>?_);rw [UG];show wpAny _ _ (spliced [(false,eval (.Name y py) X.env)]) _ _ s1;refine qf (rE I1.inv hgC hmC hvC (AB ?_) hn Mm)
 try dsimp only at q1
 split at q1
 ·rename_i k hk;exact gU (O5 C hC I1.inv I1.ab r1 jM hk q1) fun _ _ z=>z.trans m1
 ·exact q1.elim
end
end K2
end
section
namespace K2
open PySem PySem.Spec PyProof.Rows L2
section
variable {X:Cx} {a b c e o:Expr} {es:List Expr} {ta tb tc te to:gI} {t:Jm} {pos p p2 apos kb:Pos} {x name:Str} {id T:String}
noncomputable def Ju(X:Cx)(id:String)(r:D->List D->Gp->DK->Prop):Prop :=
 ∀ (pins:List (Addr×Obj)) (s:aA) (σ:L2.St) (H:Hp) (G:Gp) (x:V) (d:D) (xs:List V) (ds:List D) (v:Value) (us:List Value) (Q:DK),Inv X pins σ H s->lQ X.K H G->RelV x v->cE X.K H x d->Vals xs us->bt X.K H xs ds->r d ds G Q ->
  wpAny (model X.prog X.w) X.A (call (.builtin id) (v :: us)) (um X pins σ H G Q) X.xe s
noncomputable def Sa(X:Cx)(T:String)(ty:D->Gp->Prop):Prop:=∀ (pins:List (Addr×Obj)) (s:aA) (σ:L2.St) (H:Hp) (G:Gp) (x:V) (d:D) (v:Value),Inv X pins σ H s->lQ X.K H G->RelV x v->cE X.K H x d->ty d G ->
  s.TypeIs v T/\∀ a,v=.ref a->∃ ob,s.heap.get? a=some ob/\ob.dict=none
theorem k6:Sa X "list" Er:=by
 intro pins s σ H G x d v I ab r rd h;cases rd with
 | dQ hq rs=>exact Cf I r (.inl ⟨rfl,_,hq.sq⟩)
 | ref l =>
  unfold Er at h;dsimp only at h;split at h
  ·rename_i ds hg;obtain⟨vs,hv,rs⟩:=ab.lst hg;exact Cf I r (.inl ⟨rfl,vs,.of hv⟩)
  ·exact h.elim
 | _=>exact bW h
theorem mJ:Sa X "dict" NK:=by
 intro pins s σ H G x d v I ab r rd h;cases rd with
 | pA q rs =>
  cases r;obtain⟨t1,t2,_⟩:=O6 I (.inl ⟨_,.inr ⟨_,q⟩⟩);exact⟨t1,t2⟩
 | pz q rs =>
  cases r;obtain⟨t1,t2,_⟩:=O6 I (.inr ⟨_,.inr ⟨_,q⟩⟩);exact⟨t1,t2⟩
 | ref l =>
  unfold NK at h;dsimp only at h;split at h
  ·rename_i kvs hg;rcases ab l _ hg with ⟨kv,hv,rs⟩ | ⟨kv,hv,rs⟩
   ·exact Cf I r (.inr (.inr (.inl ⟨rfl,.inl ⟨kv,hv⟩⟩)))
   ·exact Cf I r (.inr (.inr (.inl ⟨rfl,.inr ⟨kv,hv⟩⟩)))
  ·exact h.elim
 | _=>exact bW h
theorem jW {ty:D->Gp->Prop} {r:D->List D->Gp->DK->Prop} (pa:PlainAttrs T) (slot:Slot T name id) (hty:typeOf (.builtin id)=pure (.type "method_descriptor")) (ht:Sa X T ty) (hm:Ju X id r) (ho:g6 X o to) (ha:La X (e :: es) t)
  (zB:autoParam (qw o name X.env (eval o X.env)=eval o X.env) Ar._auto_1)
  (aae:autoParam (((qI kb (c8 (e :: es) X.env)).all (fun x=>!x.1)&&(backToKw kb (keywordEach [] X.env)).all (fun x=>x.1.isSome)
   && decide ((e :: es).length+([]:List Nz).length+(if ([]:List Nz).isEmpty then 0 else 1) < 30))=true) Ar._auto_1)
  (zA:autoParam ((apos.endLine == kb.line)=true) Ar._auto_1) (hs:autoParam (c8 (e :: es) X.env=(false,eval e X.env) :: c8 es X.env) Ar._auto_1) (UA:autoParam ((qI kb (c8 es X.env)).any (·.1)=false) Ar._auto_1) :
  g6 X (.Call (.Attribute o name apos) (e :: es) [] kb) (tG ty r to t):=by
 intro E pins s σ H τ G Q hE I h;refine wpAny_Call_method_late zB aae zA rfl (j9 ho hE I h ?_);rintro x H1 d G1 v s1 I1 m1 r1 jM ⟨hy,q1⟩;obtain⟨h1,h2⟩:=ht pins s1 σ H1 G1 x d v I1.inv I1.ab r1 jM hy;refine⟨T,id,pa,slot,hty,h1,h2,?_⟩;have hA:=ha kb E pins s1 σ H1 τ G1 _ hE I1 q1;rw [hs] at hA ⊢;refine lK (by show (false||(qI kb (c8 es X.env)).any (·.1))=false; rw [UA] <;> rfl) (Calls.evalArgs_plain ?_);exact gU hA (by rintro us s2 ⟨vs,H2,ds,G2,nH,m2,r2,yN,q2⟩; exact gU (hm pins s2 σ H2 G2 x d vs ds v us Q nH m2.ab r1 (jM.mono (m2.kp I1.ab)) r2 yN q2) fun _ _ z=>z.trans (m1.trans m2))
theorem kP:Ju X "list.append" ma:=by
 intro pins s σ H G x d xs ds v us Q I ab rx rd M8 Ct q;unfold ma at q;split at q
 ·rename_i l d';cases rd;obtain⟨w,rfl,qA⟩:=Ct.one;split at q
  ·rename_i zs hg;obtain⟨hz,q⟩:=q;obtain⟨vs,hv,rs⟩:=ab.lst hg;exact gU (Bu pins s σ H _ _ v us (B7 X.K H G Q) I rx M8 ⟨l,vs,w,rfl,rfl,hv,by rw [rs.length,c6]; exact hz,_,_,.putL ab hg hv (rs.append (.cons qA .nil)),.eU,q⟩) fun _ _ z=>.of z
  ·exact q.elim
 ·exact q.elim
theorem IX(l:Addr)(xs:Array Value)(n:Nat)(b:Addr)(ys:Array Value)(n2:Nat)(dd:Option Addr)(sl:Array (Option Value))(SY:¬(!xs.isEmpty&&jV (xs.size+ys.size))=true)(hx:xs.size<=bg)(Vn:xs.size+ys.size<=bg+1) :
  Meets (Builtin.«list.extend» ⟨[.ref l,.ref b],[]⟩) (fun _ R s=>s.heap.get? l=some { cls:=.type "list",dict:=none,data:=.seq xs n,slots:=#[] }/\s.heap.get? b=some { cls:=.type "list",dict:=dd,data:=.seq ys n2,slots:=sl }/\R (.ok (.ret gj)) { s with heap:=s.heap.update l (ji fun x=>x++ys),toks:=s.toks }) :=
 .of_wp fun prog w A R s h=>by
  obtain⟨hp,g,d,tk,os⟩:=s;obtain⟨h1,h2,h3⟩:=h;have e1:=AutoSeq1.idx_int;have e2:=qh;have e3:=Hw;have e4:=AutoSeq1.sub_tuple_list;have e5:=AutoSeq1.sub_list_tuple;have hz':(xs++ys).size<=bg+1:=by rw [Array.size_append]; exact Vn
  wp_walk using (wpAny_updateSeq h1 rfl (hz:=hx) (_hz':=hz')),cx h1,cx h2
  exact⟨_,rfl,h3⟩
theorem Ik:Ju X "list.extend" xP:=by
 intro pins s σ H G x d xs ds v us Q I ab rx rd M8 Ct q;unfold xP at q;split at q
 ·rename_i l y;cases rd;obtain⟨w,rfl,qA⟩:=Ct.one;obtain⟨u,rfl,ru⟩:=M8.one;split at q
  ·rename_i zs ys hg Z8;obtain⟨hz,q⟩:=q;obtain⟨vs,hv,rs⟩:=ab.lst hg;obtain⟨b,ws,wC,rfl,N0,M9,hb,_⟩:=qc I ab ru qA Z8;cases rx;obtain⟨z,bZ,n,r,hl,e⟩:=I.Wi hv;obtain⟨⟨cl,dd,dt,sl⟩,ho,RL,n2,hdt⟩:=hb;simp only at RL hdt;subst RL hdt;have h1:=N0.length;have h2:=M9.length;have h3:=rs.length;have h4:=r.length;have h5:bg=16777216:=c6;have h6:SZ=16777216:=rfl;have hsz:bZ.toArray.size+wC.toArray.size<=bg:=by rw [bb,bb]; lia
   have SY:¬ (!bZ.toArray.isEmpty&&jV (bZ.toArray.size+wC.toArray.size))=true:=by
    rw [OE hsz,JK];exact jt
   refine Hl F.slot_list_extend ⟨_,e,rfl⟩ F.entry_list_extend (F.args_list_extend_2 _ _) (IX l bZ.toArray n b wC.toArray n2 dd sl SY (by rw [bb]; lia) (by lia)) ⟨e,ho,?_⟩;refine⟨.eU,_,.eU,_,I.Wj (its':=bZ++wC) hv e (by simp) (r.append N0) ?_,.putL ab hg hv (rs.append M9),rfl,.eU,q⟩;rw [aJ];lia
  ·exact q.elim
 ·exact q.elim
theorem LX (hu : X.A.units + 64 < cLine) : Ju X "list.index" CV := by
  intro pins s σ H G x d xs ds v us Q I ab rx rd M8 Ct q;unfold CV at q;split at q
  · rename_i d'
    obtain⟨hy, zs, sn, ss, hi, s1, s2, q⟩ := q;obtain⟨w, rfl, qA⟩ := Ct.one;obtain⟨u, rfl, ru⟩ := M8.one;have lists : ∃ l vs bZ, v = .ref l ∧ Vals vs bZ ∧ bt X.K H vs zs ∧ s.heap.IsList l bZ.toArray ∧ vs.length ≤ bg := by
      cases rd with
      | dQ hq rs =>
        cases hi;cases rx;obtain⟨bZ, rv, pl, hz⟩ := I.list hq.sq;exact⟨_, _, bZ, rfl, rv, rs, pl.isList, hz⟩
      | ref l =>
        unfold itemsOf at hi;dsimp only at hi;cases hg : G l with
        | none => rw [hg] at hi; cases hi
        | some g =>
          rw [hg] at hi;cases g with
          | lst ds =>
            cases hi;cases rx;obtain⟨vs, hv, rs⟩ := ab.lst hg;obtain⟨bZ, rv, pl, hz⟩ := I.list (.of hv);exact⟨_, _, bZ, rfl, rv, rs, pl.isList, hz⟩
          | ins _ _ => cases hi
          | sJ _ => cases hi
          | gF _ => cases hi
      | _ => exact bW hy
    obtain⟨l, vs, bZ, rfl, rv, rs, hl, hz⟩ := lists;obtain⟨as, ra⟩ := (jc I ab s1).1 w u qA ru;obtain⟨bs, rb⟩ := (jc I ab s2).2 zs ss (.inl ⟨rfl, rfl⟩) vs bZ rs rv;have d2 := KY (n := 7) s2;have n2 : qj ss = true := s2.nr;have zu := vi _ n2;have Kx : X.A.units + 1 + min (cA (lL ss)) (pd sn).depth < cLine := by lia
    have Oa : g8 s.heap bZ.toArray.toList (lL ss) bs := by simpa using rb
    have mp := SeqAt.readsAll_map _ _ _ zu Oa;split at q
    · rename_i k hk
      obtain⟨xA, Z7, UC⟩ := List.findIdx?_eq_some_iff_getElem.mp hk;have pdl : ∀ (zz : List D), (lL zz).length = zz.length := by
        intro zz;induction zz with
        | nil => rfl
        | cons a r ih => exact congrArg Nat.succ ih
      have hlen : bZ.length = ss.length := by
        have := congrArg dH mp;rw [au, pdl] at this;simpa using this
      have at_ : ∀ (m : Nat) (h1 : m < bZ.toArray.size) (h2 : m < ss.length), qC (A7 s.heap bZ.toArray[m]) (pd sn) = iN ss[m] sn := by
        intro m h1 h2;have e1 : (bZ.toArray.toList.map (A7 s.heap))[m]? = (lL ss)[m]? := by rw [mp]
        have pdg : ∀ (zz : List D) (m : Nat) (h : m < zz.length), (lL zz)[m]? = some (pd zz[m]) := by
          intro zz;induction zz with
          | nil => intro m h; simp at h
          | cons a r ih => intro m h; cases m with
            | zero => rfl
            | succ m => exact ih m (ux h)
        rw [pdg ss m h2] at e1;have h1' : m < bZ.length := by simpa using h1
        have e2 : A7 s.heap bZ.toArray[m] = pd ss[m] := by
          simpa [h1'] using e1
        rw [e2];have fh : nr ss[m] = true := by
          have : ∀ (zz : List D) (m : Nat) (h : m < zz.length), qj zz = true -> nr zz[m] = true := by
            intro zz;induction zz with
            | nil => intro m h; simp at h
            | cons a r ih => intro m h hn; have Vp : nr a = true ∧ qj r = true := (kc).mp hn
                             cases m with
                             | zero => exact Vp.1
                             | succ m => exact ih m (by simpa using h) Vp.2
          exact this ss m h2 n2
        exact t6 _ _ fh s1.nr
      have sz : bg = 16777216 := c6;have hvl : vs.length = bZ.length := rv.length;obtain⟨⟨cls, dd, data, sl⟩, ho, hc, n, hd⟩ := id hl;simp only at hc hd;subst hc hd;have Hd : k < bZ.toArray.size := by rw [bb]; lia
      refine Hl Ho ⟨_, ho, rfl⟩ PySem.F.entry_list_index (PySem.F.args_list_index_2 _ _)
        (SeqAt.list_indexAt l bZ.toArray n dd sl u (fun y => qC (A7 s.heap y) (pd sn)) k Hd (by lia) ?_ ?_) ⟨ho, nA Oa ra zu (ky _ s1.nr) Kx, ?_⟩
      · rw [at_ k Hd xA]; exact Z7
      · intro m hm hmk
        have WH : m < ss.length := by lia
        rw [at_ m hm WH];simpa using UC m hmk
      · exact⟨.int k, H, .int k, G, I.tok _, .refl ab, ⟨_, rfl⟩, .int _, q⟩
    · exact q.elim
  · exact q.elim
theorem lZ:g6 X (.Dict [] [] pos) nG:=by
 intro E pins s σ H τ G Q hE I h;exact gU (Ot pins s σ H (B7 X.K H G Q) I.inv fun p hp=>⟨_,_,.new I.ab hp (.dk cf .nil),.ref _,h p (I.ab.free hp)⟩) fun _ _ z=>.of z
end
end K2
end
section
namespace K2
open PySem PySem.Spec PyProof.Rows L2
noncomputable def gv(env:Env):List (Str×tm)->List (Str×Addr)->List (Str×Addr)
 | [],acc=>acc
 | (n,k) :: r,acc=>if k=.free then gv env r ((n,(env.cells.lookup n).getD 0) :: acc) else gv env r acc
theorem ud(env:Env)(f:Str×tm->List (Str×Addr)->Sem (ForInStep (List (Str×Addr))))(hf:∀ n k c,f (n,k) c=if (k == kG)=true then (cellOf env n >>= fun a=>pure (sU ((n,a) :: c))) else pure (sU c)) :
  ∀ (ns:List (Str×tm)) (acc:List (Str×Addr)),(∀ x∈ns,x.2=.free->∃ c,env.cells.lookup x.1=some c)->forIn ns acc f=(pure (gv env ns acc):Sem (List (Str×Addr)))
 | [],acc,_=>rfl
 | (n,k) :: r,acc,h=>by
  rw [List.forIn_cons,hf];have hr:∀ x∈r,x.2=.free->∃ c,env.cells.lookup x.1=some c:=fun x hx=>h x (aO _ hx);by_cases hk:k=.free
  ·subst hk;obtain⟨c,hc⟩:=h (n,.free) c4 rfl;have ec:cellOf env n=pure c:=by unfold cellOf; rw [hc]
   rw [if_pos (by decide),ec,pure_bind,pure_bind];show forIn r ((n,c) :: acc) f=_;rw [ud env f hf r _ hr];show _=(pure (gv env ((n,.free) :: r) acc):Sem (List (Str×Addr)));rw [gv,if_pos rfl,hc]; rfl
  ·rw [if_neg (by simpa using hk),pure_bind];show forIn r acc f=_;rw [ud env f hf r _ hr];show _=(pure (gv env ((n,k) :: r) acc):Sem (List (Str×Addr)));rw [gv,if_neg hk]
theorem A1{env:Env}{scope:Scope}(h:∀ x∈scope.names,x.2=.free->∃ c,env.cells.lookup x.1=some c):closureFor scope env=pure (gv env scope.names []):=by
 unfold closureFor;dsimp only;rw [ud env _ (fun n k c=>?_) scope.names [] h]
 ·rfl
 ·by_cases hk:(k == kG)=true
  ·simp only [hk,if_true]
  ·simp only [hk,if_false,ar]
theorem uB{env:Env}{x:Str}{c:Addr}:∀ {ns:List (Str×tm)} {acc:List (Str×Addr)},(∀ y∈ns,y.2=.free->∃ c,env.cells.lookup y.1=some c)->(∀ y c,acc.lookup y=some c->env.cells.lookup y=some c)->(gv env ns acc).lookup x=some c->env.cells.lookup x=some c
 | [],_,_,ha,e=>ha _ _ e
 | (n,k) :: r,acc,h,ha,e=>by
  have hr:∀ y∈r,y.2=.free->∃ c,env.cells.lookup y.1=some c:=fun y hy=>h y (aO _ hy);unfold gv at e;by_cases hk:k=.free
  ·rw [if_pos hk] at e;refine uB hr (fun y c' q=>?_) e;rw [D0] at q;by_cases hy:(y == n)=true
   ·rw [hy] at q;have e1:y=n:=eq_of_beq hy;subst e1;obtain⟨c0,hc0⟩:=h (y,k) c4 hk;rw [hc0] at q ⊢;exact q
   ·have SQ:(y == n)=false:=by simpa using hy
    rw [SQ] at q;exact ha y c' q
  ·rw [if_neg hk] at e;exact uB hr ha e
theorem pj{env:Env}{x:Str}:∀ {ns:List (Str×tm)} {acc:List (Str×Addr)},((x,kG)∈ns\/∃ c,acc.lookup x=some c)->∃ c,(gv env ns acc).lookup x=some c
 | [],_,h=>by rcases h with h | h; exact absurd h (by simp); exact h
 | (n,k) :: r,acc,h=>by
  unfold gv;have grow:∀ a,(∃ c,acc.lookup x=some c)->∃ c,((n,a) :: acc).lookup x=some c:=fun a Nf=>by
   obtain⟨c,hc⟩:=Nf;rw [D0];by_cases hy:(x == n)=true
   ·rw [hy]; exact⟨_,rfl⟩
   ·have SQ:(x == n)=false:=by simpa using hy
    rw [SQ]; exact⟨c,hc⟩
  by_cases hk:k=.free
  ·rw [if_pos hk];refine pj ?_;rcases h with h | h
   ·rcases List.mem_cons.mp h with e | h
    ·injection e with e1 e2
     subst e1;exact .inr ⟨(env.cells.lookup x).getD 0,by rw [D0]; simp⟩
    ·exact .inl h
   ·exact .inr (grow _ h)
  ·rw [if_neg hk];refine pj ?_;rcases h with h | h
   ·rcases List.mem_cons.mp h with e | h
    ·injection e with e1 e2
     exact absurd e2.symm hk
    ·exact .inl h
   ·exact .inr h
noncomputable abbrev eF(X:Cx)(N:List Str)(scope:Scope)(C:Addr)(s:aA)(H:Hp)(fp:List Addr):Cx :=
 { X with env:=compEnvC scope (gv X.env scope.names []) C X.env,N:=N,nF:=s,Qk:=H,outer:=X.stack,stack:=X.stack,ex:=fp,fn:=fun _=>false,pn:=[],xe:=fun _ _=>False }
theorem uP{scope:Scope}{env:Env}{x:Str}(h:(Hh scope env).names.lookup x=some .cell\/(Hh scope env).names.lookup x=some .free)(qo:∀ y∈scope.names,y.2≠.cell):(x,kG)∈scope.names:=by
 have go:∀ k,(Hh scope env).names.lookup x=some k->k=.cell\/k=.free->(x,kG)∈scope.names:=by
  intro k hk hkk;have hm:=iR hk;unfold Hh at hm;dsimp only at hm;obtain⟨⟨n,j⟩,hj,e⟩:=List.mem_map.mp hm;dsimp only at e;by_cases hc:(j == kG&&env.scope.kind == .function&&env.kindOf n == some .cell)=true
  ·rw [if_pos hc] at e;rw [aN,aN] at hc;injection e with e1 e2
   have ej:j=.free:=eq_of_beq hc.1.1;rw [ej,e1] at hj;exact hj
  ·rw [if_neg hc] at e;injection e with e1 e2
   subst e1;rcases hkk with r | r
   ·exact absurd (e2.trans r) (qo _ hj)
   ·rw [e2.trans r] at hj; exact hj
 rcases h with h | h
 ·exact go _ h (.inl rfl)
 ·exact go _ h (.inr rfl)
section
variable {X:Cx} {N:List Str} {scope:Scope} {fp:List Addr} {pins:List (Addr×Obj)} {σ:L2.St} {H:Hp} {s:aA} {C:Addr}
theorem UY(I:Inv X pins σ H s)(qo:∀ y∈scope.names,y.2≠.cell)(BF:scope.kind=.function)(qm:∀ y∈scope.names,y.2=.free->X.env.kindOf y.1=some .cell)(hC:s.heap.objs.size<=C)(hfp:∀ b∈fp,nI X pins H b/\b < s.heap.objs.size):(eF X N scope C s H fp).Ok:=by
 have RL:∀ y∈scope.names,y.2=.free->∃ c,X.env.cells.lookup y.1=some c:=fun y hy hf=>I.ok.has _ (.inl (qm y hy hf));have Tz:∀ x c,(gv X.env scope.names []).lookup x=some c->X.env.cells.lookup x=some c:=fun x c e=>uB RL (fun y c q=>by simp at q) e;refine⟨I.ok.mod,BF,I.ok.glob,I.ok.blt,hC,fun x y c h1 h2=>I.ok.inj x y c (Tz x c h1) (Tz y c h2),fun x hx=>?_,fun x c h=>absurd h (by simp),I.ok.hd,I.ok.frames,.inl rfl,fun b hb=>?_,I.bs,aZ I.ok.R7 I.sz,fun b o e hb=>?_,fun b hb=>?_,I.stack,I.JT⟩
 ·exact pj (.inl (uP hx qo))
 ·obtain⟨⟨f0,f1,f2,f3,f4,f5⟩,xA⟩:=hfp b hb;exact⟨bQ (bY xA hC),fun x c e=>f4 x c (Tz x c e)⟩
 ·obtain⟨⟨f0,f1,f2,f3,f4,f5⟩,xA⟩:=hfp b hb;rcases f3 with f3 | f3
  ·exact I.ok.LV b o e f3
  ·exact absurd (bY (bh e) (aZ I.ok.R7 f3)) (j8 _)
 ·obtain⟨⟨f0,f1,f2,f3,f4,f5⟩,xA⟩:=hfp b hb;intro z;rcases List.mem_cons.mp (I.HH b z) with e | e
  ·exact f1 e
  ·exact f2 e
theorem RZ{sX:Heap}{m:Nat}{fr:List Nat}{tk:Nat}(I:Inv X pins σ H s)(ok:(eF X N scope s.heap.objs.size s H fp).Ok)(UH:∀ y∈scope.names,y.2≠.cell)(qm:∀ y∈scope.names,y.2=.free->X.env.kindOf y.1=some .cell)(hN:N.length=m+fr.length)
  (Z9:∀ j i x,fr[j]?=some i->N[m+j]?=some x->X.N[i]?=some x/\X.env.scope.names.lookup x=some .cell/\(Hh scope X.env).names.lookup x=some .cell) (Qy:∃ mm,sX.Ns s.heap.objs.size mm) (hk:∀ b o,s.heap.get? b=some o->sX.get? b=some o) :
  Inv (eF X N scope s.heap.objs.size s H fp) [] (a8 m none++fr.map fun i=>(σ[i]?).getD none) H { s with heap:=sX,toks:=tk }:=by
 have RL:∀ y∈scope.names,y.2=.free->∃ c,X.env.cells.lookup y.1=some c:=fun y hy hf=>I.ok.has _ (.inl (qm y hy hf));have Tz:∀ x c,(gv X.env scope.names []).lookup x=some c->X.env.cells.lookup x=some c:=fun x c e=>uB RL (fun y c q=>by simp at q) e;obtain⟨mm,Qy⟩:=Qy;refine⟨ok,rfl,I.bare,Un.kept hk,⟨mm,Qy,fun i x v h1 h2 h3=>?_⟩,fun x c e=>?_,I.cL.fresh (aH _),fun x c e=>?_,fun p hp=>absurd hp (by simp),I.cL.kept hk,?_⟩
 ·by_cases hi:i < m
  ·rw [c7 (by simpa using hi),lA] at h2;split at h2 <;> cases h2
  ·obtain⟨j,rfl⟩:∃ j,i=m+j:=⟨i - m,by lia⟩;rw [cm (by simp),fI,tJ,bI] at h2;cases hj:fr[j]? with
   | none=>rw [hj] at h2; cases h2
   | some k =>
    rw [hj] at h2;have Py:(σ[k]?).getD none=some v:=by simpa using h2
    have WI:σ[k]?=some (some v):=by
     cases q:σ[k]? with
     | none=>rw [q] at Py; cases Py
     | some o=>rw [q] at Py; simp at Py; rw [Py]
    obtain⟨e1,e2,e3⟩:=Z9 j k x hj h1;obtain⟨m0,hn0,hl0⟩:=I.loc;obtain⟨u,r,l⟩:=hl0 k x v e1 WI (.inr (.inl e2));refine⟨u,r,.inr ⟨.inl e3,?_⟩⟩;rcases l with ⟨l1,_⟩ | ⟨_,c,hc,qo⟩
    ·have:X.env.scope.names.lookup x=some .local:=l1;rw [e2] at this; cases this
    ·have hx:(x,kG)∈scope.names:=uP (.inl e3) UH;obtain⟨c',S3⟩:=pj (env:=X.env) (x:=x) (ns:=scope.names) (acc:=[]) (.inl hx);have:=Tz x c' S3;rw [hc] at this;have ec:c=c':=bc this;subst ec;obtain⟨oc,Vo,hd⟩:=qo;exact⟨c,S3,oc,hk _ _ Vo,hd⟩
 ·obtain⟨v,oc,Vo,hd⟩:=I.cell x c (Tz x c e);exact⟨v,oc,hk _ _ Vo,hd⟩
 ·exact I.qp x c (Tz x c e)
 ·rw [aJ,fI,au];exact hN.symm
theorem DH{prog:bN}{w:World}{A:dS}{R:Result->aA->Prop}{s:aA}{elt target iter:Expr}{ifs:List Expr}{sc:Scope}{pos:Pos}{it acc:Value}{env:Env}(J:Nat->aA->Prop)
  (turn:∀ n s,J n s->wpAny (model prog w) A (Ed it) (fun r fX=>match r with
   | none=>R (.ok .next) fX
   | some v=>wpAny (model prog w) A (ye target it v) (fun _ VJ=>wpAny (model prog w) A (Jz target env v) (fun _ Ew =>
     wpAny (model prog w) A (forIn ifs true fun c r=>if r=true then do let ok ← isTrue c env (eval c env); pure (sU ok) else pure (sU r)) (fun k NO =>
      if k=true then wpAny (model prog w) A (eval elt env) (fun x Lx=>wpAny (model prog w) A (call (.builtin "list.append") [acc,x]) (fun _ NN=>∃ m,m < n/\J m NN) (fun _ _=>False) Lx) (fun _ _=>False) NO
      else ∃ m,m < n/\J m NO) (fun _ _=>False) Ew) (fun _ _=>False) VJ) (fun _ _=>False) fX) (fun _ _=>False) s) (n:Nat) (h:J n s) :
  Hj (model prog w) A (.compLoop (.ListComp elt [⟨target,iter,ifs,0⟩] sc pos) 0 it acc env) R s:=by
 have no:∀ {α:Type} {t:Sem α} {Q:α->aA->Prop} {E:Value->aA->Prop} {s:aA},wpAny (model prog w) A t Q (fun _ _=>False) s->wpAny (model prog w) A t Q E s:=fun h=>wpAny_mono h (fun _ _ q=>q) fun _ _ z=>z.elim;refine codeAny_loop rfl J (fun n s hJ=>?_) n h;show wpAny _ A ((compTurn (.ListComp elt [⟨target,iter,ifs,0⟩] sc pos) 0 it acc env).onRaise (fun x=>do noteFrame x env; theTreesLotGoes x)) _ _ s;refine wpAny_noted ?_;rw [compTurn_list];refine ah (Ea (ah (gU (no (turn n s hJ)) fun r fX sX=>?_)));cases r with
 | none=>exact aE sX
 | some v =>
  refine ah (gU (no sX) fun _ Ew Pf=>ah (gU (no Pf) fun _ NO Zz=>ah (gU (no Zz) fun k Lx Ww=>?_)));cases k with
  | false=>exact aE ⟨rfl,Ww⟩
  | true=>exact ah (ah (gU (no Ww) fun x NN Zy=>ah (gU (no Zy) fun _ acn Zx=>aE (aE ⟨rfl,Zx⟩))))
noncomputable def CompEnd(X:Cx)(pins:List (Addr×Obj))(σ:L2.St)(H:Hp)(G:Gp)(Q:DK)(C Dd:Addr)(s':aA):Prop :=
 ∃ m H' G',Inv X pins σ H' s'/\s'.heap.Ns C m/\nI X pins H' C/\Mv X.K H G H' G'/\Q (.ref Dd) G'
inductive U9 (Xc:Cx):List Expr->Option xp->Prop
 | none:U9 Xc [] none
 | some {c:Expr} {t:xp}:K9 Xc c t->U9 Xc [c] (some t)
theorem BX{τ:iQ}{G G2:Gp}{H2:Hp}{s2:aA}{tg elt iter:Expr}{ifs:List Expr}{pos:Pos}{m:Nat}{fr:List Nat}{E:mw}{g:AA}{c:Option xp}{te:gI}{J:It}{tn:Nat->Heap->Prop}{it:Addr}{ds:List D}{ok:Gp->Prop}{Q:DK}{Rr:Value->Addr->Result->aA->Prop}{E0:Value->aA->Prop}
  (hc:X.calm=true) (qo:∀ y∈scope.names,y.2≠.cell) (BF:scope.kind=.function) (qm:∀ y∈scope.names,y.2=.free->X.env.kindOf y.1=some .cell) (hN:N.length=m+fr.length)
  (Z9:∀ j i x,fr[j]?=some i->N[m+j]?=some x->X.N[i]?=some x/\X.env.scope.names.lookup x=some .cell/\(Hh scope X.env).names.lookup x=some .cell)
  (hg:∀ C s H fp,MQ (eF X N scope C s H fp) tg g) (hi:∀ C s H fp,U9 (eF X N scope C s H fp) ifs c) (he:∀ C s H fp,g6 (eF X N scope C s H fp) elt te)
  (I:I2 X pins σ H2 τ G2 s2) (m2:Mv X.K H G H2 G2) (T:Turn X.prog X.w X.K tg J fp it tn) (Qu:tn 0 s2.heap) (f2:∀ b∈fp,nI X pins H2 b) (wk:Td X.K J H2 ds ok) (hz:ds.length<=SZ)
  (hE0:∀ ex G,¬ E ex G) (q:jy g c te ok ds E (zT m fr τ) G2 [] fun xs G3=>gZ G3 (.lst xs) Q)
  (fin:∀ C s',CompEnd X pins σ H G Q C s2.heap.objs.size s'->Rr (.ref s2.heap.objs.size) C (.ok .next) s') :
  wpAny (model X.prog X.w) X.A (newList []) (fun acc NO=>wpAny (model X.prog X.w) X.A (newFunctionEnv scope X.env.globals (gv X.env scope.names []) [] X.env.qual none .none (some X.env)) (fun W8 Lx =>
   Hj (model X.prog X.w) X.A (.compStart (.ListComp elt [⟨tg,iter,ifs,0⟩] scope pos) 0 (.ref it) acc { W8 with scope:=Hh scope X.env }) (Rr acc W8.locals) Lx) E0 NO) E0 s2:=by
 have sz:bg=16777216:=c6;have wD:H2 s2.heap.objs.size=none:=I.inv.cL.fresh (aH _);have UO:G2 s2.heap.objs.size=none:=I.ab.free wD;refine dP (wpAny_newFunctionEnv qo (by intro y hy; simp at hy) (fun sX Pk Pg=>?_) BF);dsimp only at Pk Pg ⊢;have I3:Inv X pins σ (upd H2 s2.heap.objs.size (.lst [])) { s2 with heap:=s2.heap.push { cls:=.type "list",data:=.seq ([]:List Value).toArray },toks:=s2.toks }:=I.inv.Zp (ys:=[]) .nil (cQ _);generalize hs3:({ s2 with heap:=s2.heap.push { cls:=.type "list",data:=.seq ([]:List Value).toArray },toks:=s2.toks }:aA)=s3 at I3;generalize WX:upd H2 s2.heap.objs.size (.lst [])=H3 at I3;have eH3:∀ b,b≠s2.heap.objs.size->H3 b=H2 b:=fun b hb=>by rw [<-WX,bX hb]
 have FJ:s3.heap=s2.heap.push { cls:=.type "list",data:=.seq ([]:List Value).toArray }:=by rw [<-hs3]
 have VN:s3.heap.objs.size=s2.heap.objs.size+1:=by rw [FJ,Heap.size_push]
 have Pq:∀ b∈fp,b < s2.heap.objs.size:=fun b hb=>by
  obtain⟨o,e,_⟩:=T.obj _ _ Qu b hb;exact bh e
 have WO:∀ b∈fp,nI X pins H3 b/\b < s3.heap.objs.size:=fun b hb=>by
  have hb2:=Pq b hb;obtain⟨f0,f1⟩:=f2 b hb;exact⟨⟨by rw [eH3 b (bQ hb2)]; exact f0,f1⟩,bY hb2 (by rw [VN]; exact Nat.le_succ _)⟩
 have Xy:(eF X N scope s3.heap.objs.size s3 H3 fp).Ok:=UY I3 qo BF qm (aH _) WO;have S0:∀ b o,s3.heap.get? b=some o->sX.get? b=some o:=fun b o e=>by
  have hb:b < s3.heap.objs.size:=bh e;refine Pg.extBut b o ?_ (aM _ ?_)
  ·rw [<-FJ]; exact bQ hb
  ·rw [<-FJ]; exact e
 have ZY:∃ mm,sX.Ns s3.heap.objs.size mm:=⟨_,by rw [FJ]; exact Pk⟩;have I4:=RZ (tk:=s3.toks+([]:List (Str×Value)).length) I3 Xy qo qm hN Z9 ZY S0;have Zu:Kp H2 H3:=by rw [<-WX]; exact .new wD
 have Tc:lQ X.K H3 G2:=by rw [<-WX]; exact(Mv.Mj I.ab wD).ab
 have mv3:Mv X.K H2 G2 H3 G2:=by rw [<-WX]; exact .Mj I.ab wD
 have Xs:QA X.K H3 (a8 m none++fr.map fun i=>(σ[i]?).getD none) (zT m fr τ):=by
  refine⟨by unfold zT; rw [aJ,aJ,au,au,fI,fI],fun i d h2=>?_⟩;unfold zT at h2;by_cases hi:i < m
  ·rw [c7 (by simpa using hi),lA] at h2;split at h2 <;> cases h2
  ·obtain⟨j,rfl⟩:∃ j,i=m+j:=⟨i - m,by lia⟩;rw [cm (by simp),fI,tJ,bI] at h2;rw [cm (by simp),fI,tJ,bI];cases hj:fr[j]? with
   | none=>rw [hj] at h2; cases h2
   | some k =>
    rw [hj] at h2;have Py:(τ[k]?).getD none=some d:=by simpa using h2
    have WI:τ[k]?=some (some d):=by
     cases qq:τ[k]? with
     | none=>rw [qq] at Py; cases Py
     | some o=>rw [qq] at Py; simp at Py; rw [Py]
    obtain⟨v,e1,e2⟩:=I.st.at' k d WI;exact⟨v,by simp [e1],e2.mono Zu⟩
 have hD3:H3 s2.heap.objs.size=some (.lst []):=by rw [<-WX,cf]
 have VL:tn 0 sX:=T.keep _ _ _ Qu fun b hb o e=>S0 b o (by rw [FJ]; exact aM _ e);have NS:∀ {Hc:Hp},(∀ b∈fp,Hc b=none)->∀ b∈fp,nI (eF X N scope s3.heap.objs.size s3 H3 fp) [] Hc b:=fun hn b hb =>
  ⟨hn b hb,(Xy.XX b hb).1,Xy.PL b hb,.inl hb,fun x c e=>(Xy.XX b hb).2 x c e,fun p hp=>absurd hp (by simp)⟩
 have neD:∀ b∈fp,b≠s2.heap.objs.size:=fun b hb=>bQ (Pq b hb);have loop:Hj (model X.prog X.w) X.A (.compLoop (.ListComp elt [⟨tg,iter,ifs,0⟩] scope pos) 0 (.ref it) (.ref s2.heap.objs.size) (eF X N scope s3.heap.objs.size s3 H3 fp).env) (Rr (.ref s2.heap.objs.size) s3.heap.objs.size)
   { s3 with heap:=sX,toks:=s3.toks+([]:List (Str×Value)).length }:=by
  refine DH (fun n s'=>∃ i Qs Hc NF Gc uf vO,I2 (eF X N scope s3.heap.objs.size s3 H3 fp) [] Qs Hc NF Gc s'/\Gc s2.heap.objs.size=none/\Hc s2.heap.objs.size=some (.lst uf)/\bt X.K Hc uf vO/\vO.length<=i/\Mv X.K H2 G2 Hc Gc/\tn i s'.heap/\(∀ b∈fp,Hc b=none) /\
   n=ds.length - i/\i<=ds.length/\jy g c te ok (ds.drop i) E NF Gc vO fun xs G3=>gZ G3 (.lst xs) Q) ?_ ds.length
   ⟨0,_,H3,_,G2,[],[],⟨I4,Xs,Tc⟩,UO,hD3,.nil,aH _,mv3,VL,fun b hb=>by rw [eH3 b (neD b hb)]; exact(f2 b hb).1,rfl,cQ _,q⟩
  rintro n s4 ⟨i,Qs,Hc,NF,Gc,uf,vO,Ic,gD,hD,rA,hA,mc,stc,frc,rfl,hle,wq⟩;have kpc:Kp H2 Hc:=mc.kp I.ab;by_cases xA:i < ds.length
  ·rw [hZ xA] at wq;obtain⟨YV,wq⟩:=wq;obtain⟨go,yl⟩:=(wk i Hc Gc kpc Ic.ab YV).1 ds[i] (by simp [xA]);refine gU (T.item (eF X N scope s3.heap.objs.size s3 H3 fp) rfl rfl rfl hc i [] s4 Qs Hc (fun _ _=>False) Ic.inv (NS frc) stc go) ?_;rintro r s5 ⟨u,hr,h5⟩;subst hr;refine gU h5 ?_;rintro _ s6 ⟨x,H6,I6,r6,y6,Yy,fr6⟩;obtain⟨rd6,m6⟩:=yl x H6 y6;have I6':=I6.pinned (NS fr6) (T.obj _ _ Yy);have J6:I2 (eF X N scope s3.heap.objs.size s3 H3 fp) ([]++rn fp s6.heap) Qs H6 NF Gc s6:=⟨I6',Ic.st.mono (m6.kp Ic.ab),m6.ab⟩;have back:∀ {Yq:L2.St} {H9:Hp} {Xn:iQ} {G9:Gp} {s9:aA} {aV:List V} {aD:List D},I2 (eF X N scope s3.heap.objs.size s3 H3 fp) ([]++rn fp s6.heap) Yq H9 Xn G9 s9->Mv X.K H2 G2 H9 G9->G9 s2.heap.objs.size=none->H9 s2.heap.objs.size=some (.lst aV)->bt X.K H9 aV aD->aD.length<=i+1 ->
     (jy g c te ok (ds.drop (i+1)) E Xn G9 aD fun xs G3=>gZ G3 (.lst xs) Q)->∃ mm,mm < ds.length - i/\∃ i Qs Hc NF Gc uf vO,I2 (eF X N scope s3.heap.objs.size s3 H3 fp) [] Qs Hc NF Gc s9/\Gc s2.heap.objs.size=none/\Hc s2.heap.objs.size=some (.lst uf)/\bt X.K Hc uf vO/\vO.length<=i /\
      Mv X.K H2 G2 Hc Gc/\tn i s9.heap/\(∀ b∈fp,Hc b=none)/\mm=ds.length - i/\i<=ds.length/\jy g c te ok (ds.drop i) E NF Gc vO fun xs G3=>gZ G3 (.lst xs) Q:=fun {Yq H9 Xn G9 s9 aV aD} I9 m9 g9 h9 r9 l9 n9=>by
    refine⟨ds.length - (i+1),by lia,i+1,Yq,H9,Xn,G9,aV,aD,⟨I9.inv.uA,I9.st,I9.ab⟩,g9,h9,r9,l9,m9,T.keep _ _ _ Yy fun b hb o e=>(I9.inv.pin (b,o) (dq _ (dq _ (pK hb e)))).1,fun b hb=>?_,rfl,xA,n9⟩;obtain⟨o,e,d⟩:=T.obj _ _ Yy b hb;exact(I9.inv.pin (b,o) (dq _ (dq _ (pK hb e)))).2.1
   have mc6:=mc.trans m6;have hD6:=m6.keep _ _ hD gD;refine gU (hg _ _ _ _ E _ s6 Qs H6 NF Gc x ds[i] u _ (Lk.none hE0) J6 r6 rd6 wq) ?_;rintro _ s7 ⟨M7,H7,M6,G7,I7,m7,q7⟩;have XT:=m7.keep _ _ hD6.1 gD;have mc7:=mc6.trans m7;have rA7:=rA.mono ((m6.trans m7).kp Ic.ab);have W4:∀ (H8:Hp) (G8:Gp) (s8:aA),I2 (eF X N scope s3.heap.objs.size s3 H3 fp) ([]++rn fp s6.heap) M7 H8 M6 G8 s8->Mv X.K H7 G7 H8 G8->(te E M6 G8 fun y G9=>jy g c te ok (ds.drop (i+1)) E M6 G9 (vO++[y]) fun xs G3=>gZ G3 (.lst xs) Q) ->
     wpAny (model X.prog X.w) X.A (eval elt (eF X N scope s3.heap.objs.size s3 H3 fp).env) (fun y Lx=>wpAny (model X.prog X.w) X.A (call (.builtin "list.append") [.ref s2.heap.objs.size,y]) (fun _ NN=>∃ mm,mm < ds.length - i/\∃ i Qs Hc NF Gc uf vO,I2 (eF X N scope s3.heap.objs.size s3 H3 fp) [] Qs Hc NF Gc NN/\Gc s2.heap.objs.size=none/\Hc s2.heap.objs.size=some (.lst uf)/\bt X.K Hc uf vO/\vO.length<=i /\
      Mv X.K H2 G2 Hc Gc/\tn i NN.heap/\(∀ b∈fp,Hc b=none)/\mm=ds.length - i/\i<=ds.length/\jy g c te ok (ds.drop i) E NF Gc vO fun xs G3=>gZ G3 (.lst xs) Q) (fun _ _=>False) Lx) (fun _ _=>False) s8:=fun H8 G8 s8 I8 m8 q8=>by
    refine j9 (he _ _ _ _) (Lk.none hE0) I8 q8 fun v H9 d9 G9 u9 s9 I9 m9 r9 rd9 q9=>?_;have Zo:=m8.trans m9;have XS:=Zo.keep _ _ XT.1 XT.2;have rA9:=rA7.mono (Zo.kp I7.ab);have mc9:=mc7.trans Zo;refine gU (Bu (X:=eF X N scope s3.heap.objs.size s3 H3 fp) _ s9 M7 H9 (.ref s2.heap.objs.size) [v] _ [u9] (fun _ H'=>H'=upd H9 s2.heap.objs.size (.lst (uf++[v]))) I9.inv rfl (.cons r9 .nil)
     ⟨_,uf,v,rfl,rfl,XS.1,by rw [rA.length,sz]; have:SZ=16777216:=rfl; lia,rfl⟩) ?_
    rintro _ s10 ⟨v10,H10,I10,_,e10⟩;subst e10;have Zt:Kp H9 (upd H9 s2.heap.objs.size (.lst (uf++[v]))):=.putL XS.1;have abA:lQ X.K (upd H9 s2.heap.objs.size (.lst (uf++[v]))) G9:=fun a g' e=>by
     have ne:a≠s2.heap.objs.size:=by rintro rfl; rw [XS.2] at e; cases e
     exact(I9.ab a g' e).mono Zt (bX ne)
    have mA:Mv X.K H2 G2 (upd H9 s2.heap.objs.size (.lst (uf++[v]))) G9:=⟨fun a o e n=>by
      have ne:a≠s2.heap.objs.size:=eC e wD;obtain⟨e1,e2⟩:=mc9.keep a o e n;exact⟨by rw [bX ne]; exact e1,e2⟩,fun a n=>by
      by_cases ha:a=s2.heap.objs.size
      ·rw [ha,cf]; simp
      ·rw [bX ha]; exact mc9.mK a n,abA⟩
    exact back ⟨I10,I9.st.mono Zt,abA⟩ mA XS.2 cf ((rA9.append (.cons rd9 .nil)).mono Zt) (by rw [aJ,du]; lia) q9
   cases hi s3.heap.objs.size s3 H3 fp with
   | none =>
    refine wpAny_tests_nil ?_;rw [if_pos rfl];exact W4 H7 G7 s7 I7 (.refl I7.ab) q7
   | some WT =>
    refine wpAny_tests_one (Lv WT (Lk.none hE0) I7 q7 fun k H8 G8 s8 I8 m8 q8=>?_);cases k with
    | true =>
     rw [if_pos rfl] at q8 ⊢;exact W4 H8 G8 s8 I8 m8 q8
    | false =>
     rw [if_neg jt] at q8 ⊢;have hD8:=m8.keep _ _ XT.1 XT.2;exact back I8 (mc7.trans m8) hD8.2 hD8.1 (rA7.mono (m8.kp I7.ab)) (by lia) q8
  ·have hn:ds.length<=i:=by lia
   rw [lT hn] at wq;obtain⟨YV,qn⟩:=wq;have stop:=(wk i Hc Gc kpc Ic.ab YV).2 hn;refine gU (T.done (eF X N scope s3.heap.objs.size s3 H3 fp) rfl rfl rfl hc i [] s4 Qs Hc (fun _ _=>False) Ic.inv (NS frc) stc stop) ?_;rintro r s5 ⟨hr,I5⟩;subst hr;refine fin s3.heap.objs.size s5 ?_;obtain⟨mm,ZZ,_⟩:=I5.loc;have hC5:Hc s3.heap.objs.size=none:=I5.free;have I6:Inv X pins σ Hc s5:=by
    obtain⟨h5,g5,d5,t5,o5⟩:=s5;have eo:o5=s3.os:=I5.os;subst eo;exact I3.call (h':=h5) (g':=g5) (d':=d5) (t':=t5) (ch:=fp) I5.base I5.cL I5.bare fun b hb=>by
     obtain⟨⟨f0,f1,f2',f3,f4,f5⟩,hl⟩:=WO b hb;exact⟨f3,f1,f4,f5⟩
   have mvF:Mv X.K H2 G2 Hc (eY Gc s2.heap.objs.size (.lst vO)):=⟨fun a o e n=>by
     have ne:a≠s2.heap.objs.size:=eC e wD;obtain⟨e1,e2⟩:=mc.keep a o e n;exact⟨e1,by rw [cF ne]; exact e2⟩,mc.mK,fun a g' e=>by
     by_cases ha:a=s2.heap.objs.size
     ·subst ha;rw [az] at e;cases e;exact⟨uf,hD,rA⟩
     ·rw [cF ha] at e;exact Ic.ab a g' e⟩
   exact⟨mm,Hc,_,I6,ZZ,I3.AO (aH _) hC5,m2.trans mvF,qn _ gD⟩
 have all:Hj (model X.prog X.w) X.A (.compStart (.ListComp elt [⟨tg,iter,ifs,0⟩] scope pos) 0 (.ref it) (.ref s2.heap.objs.size) (eF X N scope s3.heap.objs.size s3 H3 fp).env) (Rr (.ref s2.heap.objs.size) s3.heap.objs.size)
   { s3 with heap:=sX,toks:=s3.toks+([]:List (Str×Value)).length }:=codeAny_compStart_list loop (T.self _ 0 _ _ _ VL loop)
 subst hs3;exact all
end
end K2
end
section
namespace K2
open PySem PySem.Spec PyProof.Rows L2
section
variable {X:Cx} {N:List Str} {scope:Scope} {tg elt iter:Expr} {ifs:List Expr} {pos:Pos} {m:Nat} {fr:List Nat} {wi:MM} {g:AA} {c:Option xp} {te:gI}
structure Am(X:Cx)(N:List Str)(scope:Scope)(m:Nat)(fr:List Nat):Prop where
 cell:∀ y∈scope.names,y.2≠.cell
 kind:scope.kind=.function
 names:∀ y∈scope.names,y.2=.local->scope.names.lookup y.1=some .local
 free:∀ y∈scope.names,y.2=.free->X.env.kindOf y.1=some .cell
 len:N.length=m+fr.length
 at':∀ j i x,fr[j]?=some i->N[m+j]?=some x->X.N[i]?=some x/\X.env.scope.names.lookup x=some .cell/\(Hh scope X.env).names.lookup x=some .cell
theorem Am.closed{X:Cx}{N:List Str}{scope:Scope}{m:Nat}{fr:List Nat}(k:Am X N scope m fr){pins:List (Addr×Obj)}{σ:L2.St}{H:Hp}{s:aA}(I:Inv X pins σ H s):closureFor scope X.env=pure (gv X.env scope.names []) :=
 A1 fun y hy hf=>I.ok.has _ (.inl (k.free y hy hf))
theorem LR(hc:X.calm=true)(k:Am X N scope m fr)(hi:MP X tg iter wi)(hg:∀ C s H fp,MQ (eF X N scope C s H fp) tg g)(UD:∀ C s H fp,U9 (eF X N scope C s H fp) ifs c)(he:∀ C s H fp,g6 (eF X N scope C s H fp) elt te)
  (hs:autoParam (∀ x,nY iter X.env x=pure x) Ai._auto_1):g6 X (.ListComp elt [⟨tg,iter,ifs,0⟩] scope pos) (iO m fr wi g c te):=by
 intro E pins s σ H τ G Q hE I h;rw [eval_ListComp];refine wpAny_comprehension_free (use:=none) rfl hs (k.closed I.inv) k.kind k.names (gU (hi E pins s σ H τ G _ hE I h) fun xv fX sX=>gU sX fun SM Ew Pf=>?_);obtain⟨it,fp,tn,J,H2,G2,ds,ok,e,nH,m2,T,Qu,f2,wk,hz,q⟩:=Pf;subst e;refine BX (Rr:=fun acc C=>compPost (model X.prog X.w) X.A X.xe none (um X pins σ H G Q) acc C) hc k.cell k.kind k.free k.len k.at' hg UD he (I.mv nH m2) m2 T Qu f2 wk hz (fun _ _ z=>z) q ?_;rintro C s' ⟨mm,H',G',I',Qy,fpC,mv,q'⟩;refine⟨mm,Qy,fun h' SS=>?_⟩;obtain⟨f0,f1,_,f3,f4,f5⟩:=fpC;exact⟨.ref _,H',.ref _,G',I'.turned (t':=s'.toks) (fun b o hb e=>SS.extBut b o hb e) f0 f1 f3 f4 f5,mv,rfl,.ref _,q'⟩
theorem E1{i:Nat}{y:Str}{py NV:Pos}(hN:X.N.Nodup)(ZD:X.N[i]?=some y)(hy:X.env.scope.names.lookup y=some .local)(hc:X.calm=true)(k:Am X N scope m fr)(hi:MP X tg iter wi)(hg:∀ C s H fp,MQ (eF X N scope C s H fp) tg g)
  (UD:∀ C s H fp,U9 (eF X N scope C s H fp) ifs c) (he:∀ C s H fp,g6 (eF X N scope C s H fp) elt te) (ZP:autoParam (Np (.ListComp elt [⟨tg,iter,ifs,0⟩] scope pos) (some (.Name y py)) NV.line X.env=pure true) Ar._auto_1)
  (hs:autoParam (∀ x,nY iter X.env x=pure x) Ai._auto_1):Jn X (.Assign [.Name y py] (.ListComp elt [⟨tg,iter,ifs,0⟩] scope pos) NV) (bK (iO m fr wi g c te) (aL i)):=by
 intro E pins s σ H τ G D hE I h;rw [exec_Assign_Name_used _ _ _ _ ZP];refine ah (Ea (ah ?_));show wpAny _ X.A (do let _ ← comprehension (.ListComp elt [⟨tg,iter,ifs,0⟩] scope pos) scope X.env _ (newList []) false (eval iter X.env) (some (Jz (.Name y py) X.env))) _ _ s;refine ah (gU (wpAny_comprehension_free (use:=some (Jz (.Name y py) X.env)) (Q:=fun _ s'=>U8 X pins H G D .next s') rfl hs (k.closed I.inv) k.kind k.names (gU (hi E pins s σ H τ G _ hE I h) fun xv fX sX=>gU sX fun SM Ew Pf=>?_)) fun _ s' hq=>aE (aE hq));obtain⟨it,fp,tn,J,H2,G2,ds,ok,e,nH,m2,T,Qu,f2,wk,hz,q⟩:=Pf;subst e;refine BX (Rr:=fun acc C=>compPost (model X.prog X.w) X.A X.xe (some (Jz (.Name y py) X.env)) (fun _ s'=>U8 X pins H G D .next s') acc C) hc k.cell k.kind k.free k.len k.at' hg UD he (I.mv nH m2) m2 T Qu f2 wk hz (fun _ _ z=>z) q ?_;rintro C s' ⟨mm,H',G',I',Qy,fpC,mv,q'⟩;show wpAny (model X.prog X.w) X.A (Jz (.Name y py) X.env (.ref Ew.heap.objs.size)) _ X.xe s';obtain⟨f0,f1,_,f3,f4,f5⟩:=fpC;refine wpAny_assign_Name (Bb (v:=.ref Ew.heap.objs.size) I' hN ZD (.inl hy) rfl (?_) (.inr hy));rintro s3 I3 ⟨a,hsb,ha⟩;have hCa:C≠a:=by
  rcases ha with rfl | ha
  ·exact f1
  ·exact fun e=>f4 y a ha e.symm
 refine⟨mm,Qy.sameBut hsb hCa,fun h' SS=>?_⟩;exact⟨_,H',_,G',⟨I3.turned (t':=s3.toks) (fun b o hb e=>SS.extBut b o hb e) f0 f1 f3 f4 f5,(I.st.mono (mv.kp I.ab)).set i (.ref _),mv.ab⟩,mv,q'⟩
theorem cO{i:Nat}{u:DS}{n:Nat}(h:∀ E ds τ G Q,u E ds τ G Q->ds.length=n):∀ E ds τ G Q,dZ (aL i) u E ds τ G Q->ds.length=n+1 :=
 Mo h (fun _ _ _ _ _ _ q k=>k _ _ q) fun _ _ _ _ q=>q
theorem bz (i:Nat) {x:Str} {pos:Pos} (hN:autoParam (X.N[i]?=some x) Ar._auto_1) (hv:autoParam (X2 X.env.scope x) Ao._auto_1) (hd:autoParam ((x == ("__debug__" : Str))=false) Ad._auto_1)
  (KA:autoParam ((x == ("__classdict__" : Str))=false) Ad._auto_1):g6 X (.Name x pos) (av i):=Rc hN hv hd KA
theorem T4{body:List Stmt}{t2:iE}(h:z8 X body t2){E:mw}(hE:Lk X E):Vv X body (fun D σ H=>∃ (τ:iQ) (G:Gp) (D2:lP),QA X.K H σ τ/\lQ X.K H G/\t2 E D2 τ G /\
  (∀ j0 H' qz G',Mv X.K H G H' G'->D2.nx qz G'->D.nx j0 H')/\(∀ v H' d G',Mv X.K H G H' G'->cE X.K H' v d->D2.rt d G'->D.rt v H')/\(∀ τ G,¬ D2.bk τ G)/\(∀ τ G,¬ D2.ct τ G)):=by
 rintro pins s σ H D I ⟨τ,G,D2,st,ab,q,k1,k2,k3,k4⟩;refine gU (h E pins s σ H τ G D2 hE ⟨I,st,ab⟩ q) fun f s1 z=>?_;cases f with
 | next=>obtain⟨j0,H',qz,G',J,mv,z⟩:=z; exact⟨j0,H',J.inv,k1 j0 H' qz G' mv z⟩
 | brk=>obtain⟨j0,H',qz,G',J,mv,z⟩:=z; exact(k3 _ _ z).elim
 | cont=>obtain⟨j0,H',qz,G',J,mv,z⟩:=z; exact(k4 _ _ z).elim
 | ret u=>obtain⟨v,j0,H',d,G',J,mv,r,rd,z⟩:=z; exact⟨v,j0,H',J,r,k2 v H' d G' mv rd z⟩
theorem NT{K:ai}{H:Hp}{Nn:List Str}{vs:List V}{ds:List D}(r:bt K H vs ds):QA K H (L2.start Nn vs) (bE Nn.length ds):=by
 unfold L2.start bE;refine⟨by simp [r.length],fun i d h=>?_⟩;by_cases hi:i < ds.length
 ·rw [c7 (by simpa using hi),bI] at h;cases hd:ds[i]? with
  | none=>rw [hd] at h; cases h
  | some d' =>
   rw [hd] at h;have e:d'=d:=by simpa using h
   subst e;obtain⟨v,h1,h2⟩:=r.get hd;refine⟨v,?_,h2⟩;rw [c7 (by simpa [r.length] using hi),bI,h1]; rfl
 ·rw [cm (by simpa using hi),lA] at h;split at h <;> cases h
theorem RN{P:bN}{w:World}{K:ai}{mg:Str->Option Value}{base:Heap}{x qual:Str}{st:Stmt}{f:Addr}{fd:aI}{Nn ps:List Str}{k:Nat}{sp:lO}{rd:iE}(F:oy K x qual st f fd)(S:cD Nn ps (bo st))(len:∀ ds G Q E,sp ds G Q E->ds.length=ps.length)
  (hr:∀ ds G Q,sp ds G Q (fun _ _=>False)->rd (fun _ _=>False) (ends Q) (bE Nn.length ds) G)
  (hb:∀ (oY:Value) (A:dS) (outer:List Env) (s:aA) (H:Hp) (E:XK),nq k (A.deeper (Ee qual (bo st) s.heap.objs.size f oY))->z8 (Gs gi P w K mg base Nn qual (bo st) f oY A outer s H E).Vj (kA st) rd):gf P w K mg base gi (k+1) f fd ps (cS K sp):=by
 refine F.ok S ((by rintro vs H Q E ⟨ds,G,Q2,r,ab,q,_⟩; exact by rw [r.length]; exact len _ _ _ _ q)) ?_;rintro oY A outer s H vs Q E Wy ⟨ds,G,Q2,r,ab,q,kk⟩;refine⟨_,T4 (hb oY A outer s H E Wy) (E:=fun _ _=>False) (Lk.none fun _ _ z=>z),?_⟩;exact⟨bE Nn.length ds,G,ends Q2,NT r,ab,hr ds G Q2 q,fun j0 H' qz G' mv z=>kk _ _ _ _ z mv .eU,fun v H' d G' mv YG z=>kk _ _ _ _ z mv YG,fun _ _ z=>z,fun _ _ z=>z⟩
noncomputable def YF(scope sc:Scope):List (Str×tm):=scope.names.map fun (n,k)=>if (k == .free&&sc.kind == .function&&sc.names.lookup n == some .cell) then (n,.cell) else (n,k)
noncomputable def xV(N:List Str)(scope:Scope)(m:Nat)(fr:List Nat)(sc:Scope)(XN:List Str):Bool :=
 scope.names.all (fun y=>decide (y.2≠.cell))&&decide (scope.kind=.function)&&scope.names.all (fun y=>!decide (y.2=.local)||decide (scope.names.lookup y.1=some .local)) &&
 scope.names.all (fun y=>!decide (y.2=.free)||decide (sc.names.lookup y.1=some .cell))&&decide (N.length=m+fr.length) &&
 (c9 fr.length).all (fun j=>match fr[j]?,N[m+j]? with
  | some i,some x=>decide (XN[i]?=some x)&&decide (sc.names.lookup x=some .cell)&&decide ((YF scope sc).lookup x=some .cell)
  | _,_=>false)
theorem BY{sc:Scope}{XN:List Str}(Wx:X.env.scope=sc)(WW:X.N=XN)(hb:xV N scope m fr sc XN=true):Am X N scope m fr:=by
 subst Wx WW;unfold xV at hb;simp only [aN] at hb;obtain⟨⟨⟨⟨⟨h1,h2⟩,h3⟩,h4⟩,h5⟩,h6⟩:=hb;refine⟨fun y hy=>of_decide_eq_true (List.all_eq_true.mp h1 y hy),of_decide_eq_true h2,fun y hy hl=>?_,fun y hy hl=>?_,of_decide_eq_true h5,fun j i x e1 e2=>?_⟩
 ·have:=List.all_eq_true.mp h3 y hy;simp only [hl,decide_true,bL,M4] at this;exact of_decide_eq_true this
 ·have:=List.all_eq_true.mp h4 y hy;simp only [hl,decide_true,bL,M4] at this;exact of_decide_eq_true this
 ·have hj:j < fr.length:=(List.getElem?_eq_some_iff.mp e1).1;have:=List.all_eq_true.mp h6 j (List.mem_range.mpr hj);rw [e1,e2] at this;simp only [aN] at this;exact⟨of_decide_eq_true this.1.1,of_decide_eq_true this.1.2,of_decide_eq_true this.2⟩
theorem rz(N:List Str){sc:Scope}{XN:List Str}(hi:MP X tg iter wi)(hg:∀ C s H fp,MQ (eF X N scope C s H fp) tg g)(UD:∀ C s H fp,U9 (eF X N scope C s H fp) ifs c)(he:∀ C s H fp,g6 (eF X N scope C s H fp) elt te)
  (Wx:autoParam (X.env.scope=sc) Ar._auto_1) (WW:autoParam (X.N=XN) Ar._auto_1) (hb:autoParam (xV N scope m fr sc XN=true) Ak._auto_1) (hc:autoParam (X.calm=true) Ar._auto_1) (hs:autoParam (∀ x,nY iter X.env x=pure x) Ai._auto_1):g6 X (.ListComp elt [⟨tg,iter,ifs,0⟩] scope pos) (iO m fr wi g c te) :=
 LR hc (BY Wx WW hb) hi hg UD he hs
theorem uY(N:List Str){sc:Scope}{XN:List Str}{i:Nat}{y:Str}{py NV:Pos}(hN:X.N.Nodup)(ZD:X.N[i]?=some y)(hy:X.env.scope.names.lookup y=some .local)(hi:MP X tg iter wi)(hg:∀ C s H fp,MQ (eF X N scope C s H fp) tg g)
  (UD:∀ C s H fp,U9 (eF X N scope C s H fp) ifs c) (he:∀ C s H fp,g6 (eF X N scope C s H fp) elt te) (Wx:autoParam (X.env.scope=sc) Ar._auto_1) (WW:autoParam (X.N=XN) Ar._auto_1) (hb:autoParam (xV N scope m fr sc XN=true) Ak._auto_1) (hc:autoParam (X.calm=true) Ar._auto_1)
  (ZP:autoParam (Np (.ListComp elt [⟨tg,iter,ifs,0⟩] scope pos) (some (.Name y py)) NV.line X.env=pure true) Ar._auto_1) (hs:autoParam (∀ x,nY iter X.env x=pure x) Ai._auto_1) :
  Jn X (.Assign [.Name y py] (.ListComp elt [⟨tg,iter,ifs,0⟩] scope pos) NV) (bK (iO m fr wi g c te) (aL i)) :=
 E1 hN ZD hy hc (BY Wx WW hb) hi hg UD he ZP hs
theorem L4{K:ai}{H:Hp}{a:Addr}{ns:List Int}(hO:Sg H)(hS:oZ K H a (ns.map V.int))(hl:ns.length<=63):cS K Bc [.ref a] H (fun v _=>v=.bl true) fun _ _ _=>False:=by
 have hF:Vu K H a (ns.map V.int):=by
  rcases hS with (h | ⟨o,h⟩) | h
  ·rcases hO a with z | ⟨o,xs,z⟩
   ·rw [z] at h; cases h
   ·rw [z] at h; cases h
  ·exact .inl ⟨o,h⟩
  ·exact .inr h
 refine⟨[.dQ (ns.map D.int)],fun _=>none,fun d _=>d=.bl true,.cons (.dQ hF (bt.Ke ns)) .nil,fun a g e=>(by cases e),⟨ns,rfl,hl,fun _=>rfl,fun _=>rfl⟩,fun d G' v H' e mv r=>?_⟩;subst e;cases r;rfl
theorem OS{l:B9}{q:bN}{loose:List Str}{XP:(Str->Option Value)->Heap->Prop}{YP:World->Heap->Prop}{d:DefRec}{K:Params->ai}{k:Nat}{x:Str}(hn:l.most=some 63)(WQ:d.params.defaults=[])(hr:nq k Hk)
  (hY:∀ (w:World) (h:Heap),YP w h->(K w.params).In h)
  (F:∀ (w:World) (mg:Str->Option Value) (fa:Addr) (h:Heap),(K w.params).In h->h.Ns cb mg->mg d.name=some (.ref fa) ->
   ∃ fd:aI,(∀ (s:aA) (u:Value),NB s fd ⟨[u],[]⟩ [(x,u)])/\∀ base:Heap,(K w.params).In base->base.Ns cb mg->gf l.prog w (K w.params) mg base gi k fa fd [x] (cS (K w.params) Bc)) :
  PySem.W.WalkO q loose XP YP l.row.toRowW d [] (fun f vs=>JA f vs) :=
 L2.QM (n:=63) (k:=k) (x:=x) (CX:=fun _=>gi) (sp:=fun w=>cS (K w.params) Bc) hn (by decide) WQ hr hY F (fun _ _ _ _ hl hO hS=>L4 hO hS hl) fun _ _ _ _ _ z=>z
end
end K2
end
section
namespace K2
open PySem PySem.Spec PyProof.Rows L2
noncomputable def P6:HO->Bool
 | .lst _=>true
 | .dK _=>true
 | .dT _=>true
 | .ext _=>true
 | _=>false
noncomputable def oT(h:Heap)(S:Addr->Bool)(H:Hp):Hp:=fun a=>match H a with
 | some u=>if (P6 u&&S a)=true then (match h.get? a with
  | some o=>some (.kd o u)
  | none=>some u) else some u
 | none=>none
section
variable {h:Heap} {S:Addr->Bool} {H:Hp} {a:Addr}
theorem IF(n:∀ u,H a=some u->P6 u=false):oT h S H a=H a:=by
 unfold oT;cases e:H a with
 | none=>rfl
 | some u=>simp only [n u e,JJ,ar,if_false]
theorem zE(hs:S a=false):oT h S H a=H a:=by
 unfold oT;cases e:H a with
 | none=>rfl
 | some u=>simp only [hs,JK,ar,if_false]
theorem vr{u:HO}{o:Obj}(hs:S a=true)(e:H a=some u)(hu:P6 u=true)(ho:h.get? a=some o):oT h S H a=some (.kd o u):=by
 unfold oT;simp only [e,hs,hu,Bool.and_self,if_true,ho]
theorem oS(e:H a=none):oT h S H a=none:=by unfold oT; rw [e]
theorem mf{u:HO}(e:H a=some u)(hu:P6 u=false):oT h S H a=some u:=by rw [IF (fun v z=>by rw [e] at z; cases z; exact hu)]; exact e
theorem sG:Kp H (oT h S H):=⟨fun a xs e=>mf e rfl,fun a o u e=>mf e rfl⟩
end
section
variable {X:Cx} {pins:List (Addr×Obj)} {σ:L2.St} {H:Hp} {s:aA} {G:Gp}
theorem Inv.freeze(I : Inv X pins σ H s)(S : Addr -> Bool) : Inv X pins σ (oT s.heap S H) s where
  ok := I.ok
  os := I.os
  bare := I.bare
  base := { keep := I.base.keep, slot := I.base.slot, there := I.base.there
            free := fun b o q n hx => oS (I.base.free b o q n hx)
            AE := fun b xs q => mf (I.base.AE b xs q) rfl
            zD := fun b o u q => mf (I.base.zD b o u q) rfl
            AH := fun b ps q => mf (I.base.AH b ps q) rfl
            AJ := fun b x q => mf (I.base.AJ b x q) rfl }
  loc := I.loc
  cell := I.cell
  free := oS I.free
  qp := fun x c e => oS (I.qp x c e)
  pin := fun p hp => let ⟨h1, h2, h3⟩ := I.pin p hp; ⟨h1, oS h2, h3⟩
  cL := fun a o q => by
    have st : ∀ u, H a = some u -> gc X.prog X.w (oT s.heap S H) s.heap a u := fun u e =>
      (I.cL a u e).mK (fun b v _ r => r) (fun b r => mf r rfl) (fun b xs r => mf r rfl)
    cases e : H a with
    | none => rw [oS e] at q; cases q
    | some u =>
      by_cases hc : P6 u = true
      · by_cases hs : S a = true
        · obtain⟨ob, ho⟩ := mz (I.cL a _ e)
          rw [vr hs e hc ho] at q;cases q;exact⟨ho, st _ e⟩
        · rw [zE (by simpa using hs), e] at q
          cases q;exact st _ e
      · rw [mf e (by simpa using hc)] at q
        cases q;exact st _ e
  len := I.len
noncomputable def oC(R:Nat->Bool)(G:Gp):Addr->Bool:=fun a=>R a&&(G a).isSome
theorem BL(I:Inv X pins σ H s)(ab:lQ X.K H G)(R:Nat->Bool):Mv X.K H G (oT s.heap (oC R G) H) (AX R G) where
 keep:=fun a o e n=>by
  refine⟨by rw [zE (by simp [oC,n])]; exact e,?_⟩;unfold AX; split
  ·rfl
  ·exact n
 mK:=fun a n=>by
  cases q:G a with
  | none=>exact absurd q n
  | some g =>
   have t:=(ab a g q).tracked;cases e:H a with
   | none=>exact absurd e t
   | some u =>
    unfold oT;rw [e];dsimp only;split
    ·split <;> simp
    ·simp
 ab:=fun a g e=>by
  unfold AX at e;split at e
  ·cases e
  ·rename_i hr;exact(ab a g e).mono sG (zE (by simp [oC,hr]))
theorem Pz(I:Inv X pins σ H s)(ab:lQ X.K H G){R:Nat->Bool}:∀ {d t:D} {v:V},Fz G R d t->cE X.K H v d->cE X.K (oT s.heap (oC R G) H) v t:=by
 intro d t v h;revert v;refine Fz.rec (motive_1:=fun d t _=>∀ {v:V},cE X.K H v d->cE X.K (oT s.heap (oC R G) H) v t)
  (motive_2:=fun ds ts _=>∀ {vs:List V},bt X.K H vs ds->bt X.K (oT s.heap (oC R G) H) vs ts)
  (motive_3:=fun ds ts _=>(∀ {vs:List (Key×V)},mE X.K H vs ds->mE X.K (oT s.heap (oC R G) H) vs ts)/\∀ {vs:List (List Key×V)},mx X.K H vs ds->mx X.K (oT s.heap (oC R G) H) vs ts)
  ?_ ?_ ?_ ?_ ?_ ?_ ?_ ?_ ?_ ?_ h
 ·intro d v r; exact r.mono sG
 ·intro ds ss _ ih v r;cases r with
  | tup h rs=>exact .tup (sG.tup _ _ h) (ih rs)
 ·intro ds ss _ ih v r;cases r with
  | dQ h rs=>exact .dQ (sG.TJ h) (ih rs)
 ·intro a ds ss g hr _ ih v r;cases r;obtain⟨vs,hv,rs⟩:=ab a _ g;obtain⟨ob,ho⟩:=mz (I.cL a _ hv);exact .dQ (.inl ⟨_,vr (by simp [oC,hr,g]) hv rfl ho⟩) (ih rs)
 ·intro a ds ss g hr _ ih v r;cases r;rcases ab a _ g with ⟨kv,hv,rs⟩ | ⟨kv,hv,rs⟩
  ·obtain⟨ob,ho⟩:=mz (I.cL a _ hv);exact .pA (vr (by simp [oC,hr,g]) hv rfl ho) (ih.1 rs)
  ·obtain⟨ob,ho⟩:=mz (I.cL a _ hv);exact .pz (vr (by simp [oC,hr,g]) hv rfl ho) (ih.2 rs)
 ·intro a kvs SJ g hr _ ek ih v r;cases r;obtain⟨xs,ks,vs,hv,rel,r1,r2⟩:=ab a _ g;obtain⟨ob,ho⟩:=mz (I.cL a _ hv);have e2:(SJ.map fun p=>qi p.1)=kvs.map fun p=>qi p.1:=by
   have:=congrArg (List.map qi) ek;rw [bw,bw] at this;exact this.symm
  exact .oE (vr (by simp [oC,hr,g]) hv rfl ho) ⟨ek.symm.trans rel.1,rel.2⟩ (by rw [e2]; exact r1.mono sG) (ih r2)
 ·intro vs r; cases r; exact .nil
 ·intro d s ds ss _ _ i1 i2 vs r;cases r with
  | cons r rs=>exact .cons (i1 r) (i2 rs)
 ·exact⟨fun r=>by cases r; exact .nil,fun r=>by cases r; exact .nil⟩
 ·intro k d s ds ss _ _ i1 i2;exact⟨fun r=>by cases r with | cons r rs=>exact .cons (i1 r) (i2.1 rs),fun r=>by cases r with | cons r rs=>exact .cons (i1 r) (i2.2 rs)⟩
variable {e:Expr} {te:gI} {st:Stmt} {t:iE}
theorem aQ(he:g6 X e te):g6 X e (cM te):=by
 intro E pins s σ H τ G Q hE I h;refine gU (he E pins s σ H τ G _ hE I h) ?_;rintro u s1 ⟨v,H1,d,G1,I1,m,r,rd,R,t,hf,q⟩;exact⟨v,_,t,_,Inv.freeze I1 _,m.trans (BL I1 m.ab R),r,Pz I1 m.ab hf rd,q⟩
theorem xK{i:Nat}(h1:Jn X st t):Jn X st (Gn i t):=by
 intro E pins s σ H τ G D hE I h;refine gU (h1 E pins s σ H τ G _ hE I h) fun f s1 z=>?_;cases f with
 | next =>
  obtain⟨j0,H',qz,G',I',m,q⟩:=z;simp only at q;split at q
  ·rename_i d hd;obtain⟨R,t,hf,q⟩:=q;obtain⟨v,hv,rv⟩:=I'.st.at' i d hd;have a1:=(I'.st.mono (H':=oT s1.heap (oC R G') H') sG).set i (Pz I'.inv I'.ab hf rv);have es:j0.set i (some v)=j0:=by
    have hi:i < j0.length:=(List.getElem?_eq_some_iff.mp hv).1;have e2:=(List.getElem?_eq_some_iff.mp hv).2;rw [<-e2]; exact Qp hi
   rw [es] at a1;have m2:=BL I'.inv I'.ab R;exact⟨j0,_,_,_,⟨Inv.freeze I'.inv _,a1,m2.ab⟩,m.trans m2,q⟩
  ·exact q.elim
 | ret v=>exact z
 | brk=>exact z
 | cont=>exact z
end
end K2
end
section
namespace K2
open PySem PySem.Spec PyProof.Rows L2
theorem wM:eX "len" = some (.builtin "len"):=by decide +kernel
theorem B1:eX "sorted" = some (.builtin "sorted"):=by decide +kernel
theorem K5:eX "list" = some (.type "list"):=by decide +kernel
theorem Qa:eX "tuple" = some (.type "tuple"):=by decide +kernel
theorem xX:eX "dict" = some (.type "dict"):=by decide +kernel
theorem U6:eX "int" = some (.type "int"):=by decide +kernel
theorem R6:eX "bool" = some (.type "bool"):=by decide +kernel
section
variable {X:Cx} {a b c e o:Expr} {es:List Expr} {ta tb tc te to:gI} {t:Jm} {pos p p2 apos kb:Pos} {x name:Str} {id T:String} {k:Nat} {f:Addr} {fd:aI} {ps:List Str} {sp:lO}
theorem aU(F:gf X.prog X.w X.K X.mg X.base gi k f fd ps (cS X.K sp))(hr:nq k X.A)(hg:Gl X x)(hm:X.mg x=some (.ref f))(hk:lJ X.K (.ref f)=true)(hb:Binds X.K fd ps [])
  (ha:La X (e :: es) t) (Mm:autoParam ((x == ("__debug__" : Str))=false) Ad._auto_1) (he:autoParam (c8 (e :: es) X.env=(false,eval e X.env) :: c8 es X.env) Ar._auto_1) (Kz:autoParam ((qI pos (c8 es X.env)).any (·.1)=false) Ar._auto_1) :
  g6 X (.Call (.Name x p) (e :: es) [] pos) (bJ sp t):=Ow F hr hg hm hk hb ha Mm he Kz
end
end K2
end
section
namespace L2
open PySem PySem.Spec PyProof.Rows
section
variable {X:Cx} {pins:List (Addr×Obj)} {σ:St} {H:Hp} {s:aA} {h':Heap}
theorem Inv.r8{t':Nat}{fp:List Addr}(I:Inv X pins σ H s)(hf:∀ b∈fp,nI X pins H b)(k:∀ b o,b∉fp->s.heap.get? b=some o->h'.get? b=some o):Inv X pins σ H { s with heap:=h',toks:=t' }:=by
 have nt:∀ b u,H b=some u->b∉fp:=fun b u e z=>by rw [(hf b z).1] at e; cases e
 refine I.step (g':=s.gens) (d':=s.drawn) (ch:=fp) (fun b hb=>?_) (fun b o _ _ hc e _=>k b o hc e) (fun b o _ _ hc e _=>⟨o.slots,k b o hc e⟩) (fun _ _ _ _ n=>n)
  (fun b o hc e=>⟨o,k b o hc e⟩) (fun _ _ e=>e) (fun _ _ _ e=>e) (fun _ _ e=>e) (fun _ _ e=>e) (fun m hm=>?_) (fun b u e=>?_) I.bare
 ·obtain⟨f0,f1,f2,f3,f4,f5⟩:=hf b hb;exact⟨f3,f1,f4,f5⟩
 ·obtain⟨o,es,ep,ho,r⟩:=hm;exact⟨o,es,ep,k _ _ (fun z=>(hf _ z).2.1 rfl) ho,r⟩
 ·refine(I.cL b u e).mK (fun c v hc r=>k c v ?_ r) (fun _ z=>z) (fun _ _ z=>z);rcases hc with rfl | hc
  ·exact nt _ _ e
  ·exact nt _ _ hc
theorem Inv.xI{t':Nat}{fp:List Addr}{T:Addr}{vs:List V}(I:Inv X pins σ H s)(hf:∀ b∈fp,nI X pins H b)(k:∀ b o,b∉fp->s.heap.get? b=some o->h'.get? b=some o)(hT:s.heap.objs.size<=T)
  (new:gc X.prog X.w (upd H T (.tup vs)) h' T (.tup vs)):Inv X pins σ (upd H T (.tup vs)) { s with heap:=h',toks:=t' }:=by
 have hn:H T=none:=I.cL.fresh hT;have ht:∀ b o,s.heap.get? b=some o->b≠T:=fun b o e z=>by subst z; exact absurd (bh e) (Nat.not_lt.mpr hT)
 have nt:∀ b u,H b=some u->b∉fp:=fun b u e z=>by rw [(hf b z).1] at e; cases e
 have ne:∀ b u,H b=some u->b≠T:=fun b u e=>eC e hn;refine I.step (g':=s.gens) (d':=s.drawn) (ch:=fp) (fun b hb=>?_) (fun b o _ _ hc e _=>k b o hc e) (fun b o _ _ hc e _=>⟨o.slots,k b o hc e⟩) (fun b o _ e n=>by rw [bX (ht b o e)]; exact n)
  (fun b o hc e=>⟨o,k b o hc e⟩) (fun b xs e=>by rw [bX (ne _ _ e)]; exact e) (fun b o u e=>by rw [bX (ne _ _ e)]; exact e) (fun b ps e=>by rw [bX (ne _ _ e)]; exact e) (fun b ps e=>by rw [bX (ne _ _ e)]; exact e) (fun m hm=>?_) (fun b u e=>?_) I.bare
 ·obtain⟨f0,f1,f2,f3,f4,f5⟩:=hf b hb;exact⟨f3,f1,f4,f5⟩
 ·obtain⟨o,es,ep,ho,r⟩:=hm;exact⟨o,es,ep,k _ _ (fun z=>(hf _ z).2.1 rfl) ho,r⟩
 ·by_cases hb:b=T
  ·subst hb; rw [cf] at e; cases e; exact new
  ·rw [bX hb] at e;refine(I.cL b u e).mK (fun c v hc r=>k c v ?_ r) (fun c z=>by rw [bX (ne _ _ z)]; exact z) (fun c xs z=>by rw [bX (ne _ _ z)]; exact z);rcases hc with rfl | hc
   ·exact nt _ _ e
   ·exact nt _ _ hc
theorem nI.upd{b T:Addr}{o:HO}(h:nI X pins H b)(hb:b≠T):nI X pins (L2.upd H T o) b:=by
 obtain⟨f0,r⟩:=h;exact⟨by rw [bX hb]; exact f0,r⟩
end
noncomputable def Ite(K:ai)(a:Addr):It :=
  ⟨fun i H=>∃ xs x,oZ K H a xs/\xs[i]?=some x,
   fun i H v H'=>∃ T y,v=.ref T/\H T=none/\H'=upd H T (.tup [.int i,y])/\∀ xs,oZ K H a xs->xs[i]?=some y,
   fun i H=>∃ xs,oZ K H a xs/\xs.length<=i⟩
theorem Lr{P:bN}{w:World}{K:ai}{elts:List Expr}{kk:Nat}{pos:Pos}(a e it:Addr)(D7:e≠it) :
  Turn P w K (.Tuple elts kk pos) (Ite K a) [e,it] e (fun i h=>(∃ old,IsEnum h e it i old)/\h.IsListIter it a i) where
 mem:=by simp
 obj:=fun i h Nf b hb=>by
  obtain⟨⟨old,he⟩,hit⟩:=Nf;rcases List.mem_cons.mp hb with rfl | hb
  ·exact⟨_,he,fun v z=>by cases z⟩
  ·have e:b=it:=by simpa using hb
   subst e;obtain⟨o,e,c,d⟩:=hit;exact⟨o,e,fun v z=>by rw [d] at z; cases z⟩
 keep:=(by rintro i h h' ⟨⟨old,he⟩,hit⟩ k; exact⟨⟨old,k e (by simp) _ he⟩,hit.at fun o q=>k it (by simp) o q⟩)
 item:=by
  intro X hP hw hK hc i pins s σ H E I hf st hg;obtain⟨⟨old,he⟩,hit⟩:=st;subst hP hw hK;obtain⟨xs,x,hq,hx⟩:=hg;obtain⟨bZ,rv,p,hz⟩:=I.list hq;obtain⟨u,hu,ru⟩:=rv.get hx;have UM:H s.heap.objs.size=none:=I.cL.fresh (aH _);have heT:e≠s.heap.objs.size:=bQ (bh he);have WM:it≠s.heap.objs.size:=by obtain⟨o,q,_⟩:=hit; exact bQ (bh q)
  refine wpAny_pyNext_enum_item he hit p.isList (x:=u) (by simpa using hu) D7 fun h' ho Z3 hT hsz kk=>?_;refine⟨_,rfl,?_⟩;have I1:Inv X pins σ (upd H s.heap.objs.size (.tup [.int i,x])) { s with heap:=h',toks:=s.toks+1 } :=
   I.xI (fp:=[e,it]) hf (fun b o hb q=>kk b o (fun z=>hb (by simp [z])) (fun z=>hb (by simp [z])) q) (aH _)
    ⟨by show 2<=bg; decide,[.int i s.toks,u],.cons ⟨_,rfl⟩ (.cons ru .nil),⟨_,hT,rfl,_,rfl⟩⟩
  refine wpAny_letOwnedTupleGo_enum (s:={ s with heap:=h',toks:=s.toks+1 }) ho fun h2 UG FG=>?_;have f1:∀ b∈[e,it],nI X pins (upd H s.heap.objs.size (.tup [.int i,x])) b:=fun b hb=>(hf b hb).upd (by
   rcases List.mem_cons.mp hb with rfl | hb
   ·exact heT
   ·rw [List.mem_singleton.mp hb]; exact WM)
  have I2:Inv X pins σ (upd H s.heap.objs.size (.tup [.int i,x])) { s with heap:=h2,toks:=s.toks+1 } :=
   Inv.r8 (s:={ s with heap:=h',toks:=s.toks+1 }) (t':=s.toks+1) (fp:=[e,it]) I1 f1 fun b o hb q=>(FG.2 b (fun z=>hb (by simp [z]))).trans q
  refine⟨.ref s.heap.objs.size,_,I2,rfl,⟨_,x,rfl,UM,rfl,fun ys hy=>by rw [I.vd hy hq]; exact hx⟩,⟨⟨u,?_⟩,?_⟩,fun b hb=>(f1 b hb).1⟩
  ·simpa using UG
  ·exact Z3.at fun o q=>(FG.2 it (gm D7)).trans q
 done:=by
  intro X hP hw hK hc i pins s σ H E I hf st hg;obtain⟨⟨old,he⟩,hit⟩:=st;subst hP hw hK;obtain⟨xs,hq,hx⟩:=hg;obtain⟨bZ,rv,p,hz⟩:=I.list hq;have hl:=rv.length;refine wpAny_pyNext_enum_end (I.ok.hd hc) he hit p.isList (by simp; lia) fun h' eb=>⟨rfl,?_⟩;exact I.r8 (t':=s.toks) (fp:=[e,it]) hf fun b o hb q=>eb b o (fun z=>hb (by simp [z])) q
 self:=(by rintro A i s Q E ⟨⟨old,he⟩,_⟩ h; exact wpAny_pyIter_enum he h)
end L2
namespace K2
open PySem PySem.Spec PyProof.Rows L2
section
variable {X:Cx} {elts:List Expr} {kk:Nat} {AG:Pos} {a b:Expr} {ta tb:gI} {pos p:Pos}
theorem KU{pins:List (Addr×Obj)}{σ:L2.St}{H H1:Hp}{G G1:Gp}{s1:aA}{l:Addr}{vs:List V}{ds:List D}{ok:Gp->Prop}{R:List D->(Gp->Prop)->Gp->Prop}(I1:Inv X pins σ H1 s1)(m:Mv X.K H G H1 G1)(hq:oZ X.K H1 l vs)
  (hk:∀ H2 G2,Kp H1 H2->lQ X.K H2 G2->ok G2->∃ ws,oZ X.K H2 l ws/\bt X.K H2 ws ds) (q:R (nk 0 ds) ok G1) :
  wpAny (model X.prog X.w) X.A (call (.type "enumerate") [.ref l]) (fun v s2=>wpAny (model X.prog X.w) X.A (Jy v) (Jo X pins σ (.Tuple elts kk AG) H G R) X.xe s2) X.xe s1:=by
 obtain⟨bZ,rv,pl,hz⟩:=I1.list hq;refine call_enumerate_list pl.isList fun h' he hit hsz kp=>?_;refine wpAny_pyIter_enum he ?_;refine⟨_,[s1.heap.objs.size+1,s1.heap.objs.size],_,_,H1,G1,nk 0 ds,ok,rfl,I1.kept (t':=s1.toks) kp,m,Lr l _ _ (Nat.succ_ne_self _),⟨⟨_,he⟩,hit⟩,fun b hb=>?_,fun i H2 G2 k ab o=>?_,q⟩
 ·have RM:s1.heap.objs.size<=b:=by
   rcases List.mem_cons.mp hb with rfl | hb
   ·lia
   ·rw [List.mem_singleton.mp hb]; exact aH _
  exact I1.AO RM (I1.cL.fresh RM)
 ·obtain⟨ws,hw,rd⟩:=hk H2 G2 k ab o;refine⟨fun d hd=>?_,fun hl=>⟨ws,hw,by rw [rd.length,<-BO ds 0]; exact hl⟩⟩;rw [BQ] at hd;cases hdi:ds[i]? with
  | none=>rw [hdi] at hd; cases hd
  | some d' =>
   rw [hdi] at hd;obtain⟨v,hv,r⟩:=rd.get hdi;refine⟨⟨ws,v,hw,hv⟩,?_⟩;rintro x H3 ⟨T,y,ex,hT,e3,hy⟩;subst ex e3;have:=hy ws hw;rw [hv] at this;cases this;have ed:D.tup [.int ((0+i:Nat):Int),d']=d:=by simpa using hd
   subst ed;refine⟨.tup cf (.cons (by rw [DZ]; exact .int _) (.cons (r.mono (.new hT)) .nil)),.Mj ab hT⟩
theorem DM:eX "enumerate" = some (.type "enumerate"):=by decide +kernel
theorem U5:eX "zip" = some (.type "zip"):=by decide +kernel
theorem Oo (hg:Gl X "enumerate") (hm:X.mg "enumerate" = none) (ha:g6 X a ta) (hs:autoParam (c8 [a] X.env=[(false,eval a X.env)]) Ar._auto_1):MP X (.Tuple elts kk AG) (.Call (.Name "enumerate" p) [a] [] pos) (Pe ta):=by
 intro E pins s σ H τ G R hE I h;have hA:La X [a] (aw ta aX):=ag ha aF hs;refine Call_ (rE I.inv hg hm DM (fQ (Et hA pos hE I (R:=YU fun x G1=>vp x G1 R) h fun vs H1 ds G1 us s1 I1 m1 r1 jM q1=>?_) hs rfl))
 match ds,q1 with
 | [x],q1 =>
  change vp x G1 R at q1;obtain⟨w,rfl,EJ⟩:=jM.one;obtain⟨u,rfl,ru⟩:=r1.one;cases EJ with
  | dQ hq rs=>cases ru; exact KU I1.inv m1 hq.sq (fun H2 G2 k ab _=>⟨_,(k.TJ hq).sq,rs.mono k⟩) q1
  | ref p =>
   cases ru;unfold vp at q1;dsimp only at q1;split at q1
   ·rename_i ds e;obtain⟨vs,hv,rs⟩:=I1.ab.lst e;refine KU I1.inv m1 (.of hv) (fun H2 G2 k ab o=>?_) q1;obtain⟨ws,hw,qA⟩:=ab.lst o;exact⟨ws,.of hw,qA⟩
   ·exact q1.elim
  | tup _ _=>exact q1.elim
  | pA _ _=>exact q1.elim
  | pz _ _=>exact q1.elim
  | eU=>exact q1.elim
  | bl _=>exact q1.elim
  | int _=>exact q1.elim
  | str _=>exact q1.elim
  | exc _=>exact q1.elim
  | Ga _ _=>exact q1.elim
  | oE _ _ _ _=>exact q1.elim
 | [],q1=>exact q1.elim
 | _ :: _ :: _,q1=>exact q1.elim
end
end K2
end
section
namespace K2
open PySem PySem.Spec PyProof.Rows L2
section
variable {X:Cx} {o i a b:Expr} {to ti ta tb:gI} {pos p:Pos}
theorem je(hu:X.A.units+64 < cLine)(ho:g6 X o to)(hi:g6 X i ti)
  (ha:autoParam (∀ v,Jz (.Subscript o i pos) X.env v=(do
   let ov ← Nr [v] (eval o X.env)
   let iv ← Nr [v,ov] (eval i X.env)
   standAt pos
   Nr [v,ov,iv] (setItem ov iv v)
   release [v,ov,iv] [])) Ai._auto_1):MQ X (.Subscript o i pos) (kz to ti):=by
 intro E pins s σ H τ G w d u Q hE I r rd h;rw [ha];refine ah (fe (j9 ho hE I h fun x H1 dx G1 ov s1 I1 m1 r1 jM q1=>?_));refine ah (fe (j9 hi hE I1 q1 fun y H2 dy G2 iv s2 nH m2 r2 yN q2=>?_));refine ah (Ea (ah (fe ?_)));have Hb:=m1.trans m2;have Vg:=rd.mono (Hb.kp I.ab);have Ha:=I.st.mono (Hb.kp I.ab);have YC:=jM.mono (m2.kp I1.ab);unfold yy at q2;split at q2
 ·rename_i l;cases YC;cases r1;split at q2
  ·rename_i xs hg;obtain⟨vs,hv,rs⟩:=nH.ab.lst hg;split at q2
   ·rename_i k;cases yN;split at q2
    ·rename_i j hj;have m3:Mv X.K H2 G2 (upd H2 l (.lst (vs.set j w))) (eY G2 l (.lst (xs.set j d))):=.putL nH.ab hg hv (rs.set Vg j);refine gU (set_list pins s2 σ H2 (.ref l) (.int k) w _ _ _ (fun H3=>H3=upd H2 l (.lst (vs.set j w))) nH.inv rfl r2 r ⟨l,vs,k,j,rfl,rfl,hv,?_,rfl⟩) ?_
     ·rw [rs.length]; exact hj
     ·rintro _ s3 ⟨H3,I3,e3⟩;subst e3;exact wpAny_release ⟨σ,_,τ,_,⟨I3,Ha.mono (m3.kp nH.ab),m3.ab⟩,Hb.trans m3,q2⟩
    ·exact q2.elim
   ·exact q2.elim
  ·rename_i kvs hg;obtain⟨hk,hz,q⟩:=q2;obtain⟨H3,H4,I3,dp,m3⟩:=PT nH.inv nH.ab hg hk hz yN Vg;exact MC (by lia) I3 dp r2 r fun s4 I4=>wpAny_release ⟨σ,H4,τ,_,⟨I4,Ha.mono (m3.kp nH.ab),m3.ab⟩,Hb.trans m3,q⟩
  ·exact q2.elim
 ·exact q2.elim
end
end K2
end
section
namespace L2
open PySem PySem.Spec PyProof.Rows
theorem uD{X:Cx}{pins:List (Addr×Obj)}{σ:St}{H:Hp}{s:aA}{l b:Addr}{xs:List V}(I:Inv X pins σ H s)(hq:oZ X.K H l xs)(hf:nI X pins H b):l≠b:=by
 rintro rfl;obtain⟨f0,f1,f2,f3,f4,f5⟩:=hf;rcases hq with (h | ⟨o,h⟩) | ⟨o,bZ,n,h,_⟩
 ·rw [f0] at h; cases h
 ·rw [f0] at h; cases h
 ·have hb:=I.ok.mod.XH _ _ h;rcases f3 with f3 | f3
  ·exact I.ok.LV _ _ hb f3
  ·exact absurd (bh (I.ok.bs _ _ hb).1) (Nat.not_lt.mpr f3)
noncomputable def Itz(K:ai)(a b:Addr):It :=
  ⟨fun i H=>∃ xs x ys y,oZ K H a xs/\xs[i]?=some x/\oZ K H b ys/\ys[i]?=some y,
   fun i H v H'=>∃ T x y,v=.ref T/\H T=none/\H'=upd H T (.tup [x,y])/\(∀ xs,oZ K H a xs->xs[i]?=some x)/\∀ ys,oZ K H b ys->ys[i]?=some y,
   fun i H=>∃ xs ys,oZ K H a xs/\oZ K H b ys/\(xs.length<=i\/ys.length<=i)⟩
structure Xe(z TI TO i1 i2 a b:Addr)(i:Nat)(h:Heap):Prop where
 hz:IsZip h z TI TO .none
 hI:IsPair h TI (.ref i1) (.ref i2)
 hO:∃ x y,IsPair h TO x y
 h1:h.IsListIter i1 a i
 h2:h.IsListIter i2 b i
theorem NL{P:bN}{w:World}{K:ai}{elts:List Expr}{kk:Nat}{pos:Pos}(a b z TI TO i1 i2:Addr)(nd:[z,TI,TO,i1,i2].Nodup) :
  Turn P w K (.Tuple elts kk pos) (Itz K a b) [z,TI,TO,i1,i2] z (Xe z TI TO i1 i2 a b) where
 mem:=by simp
 obj:=fun i h st c hc=>by
  simp only [aY,ez,or_false] at hc;rcases hc with rfl | rfl | rfl | rfl | rfl
  ·exact⟨_,st.hz,fun v q=>by cases q⟩
  ·exact⟨_,st.hI,fun v q=>by cases q⟩
  ·obtain⟨x,y,h⟩:=st.hO; exact⟨_,h,fun v q=>by cases q⟩
  ·obtain⟨o,e,_,d⟩:=st.h1; exact⟨o,e,fun v q=>by rw [d] at q; cases q⟩
  ·obtain⟨o,e,_,d⟩:=st.h2; exact⟨o,e,fun v q=>by rw [d] at q; cases q⟩
 keep:=fun i h h' st k=>⟨k _ (by simp) _ st.hz,k _ (by simp) _ st.hI,let ⟨x,y,q⟩:=st.hO; ⟨x,y,k _ (by simp) _ q⟩,st.h1.at fun o q=>k _ (by simp) o q,st.h2.at fun o q=>k _ (by simp) o q⟩
 item:=by
  intro X hP hw hK hc i pins s σ H E I hf st hg;subst hP hw hK;obtain⟨xs,x,ys,y,SW,hx,SV,hy⟩:=hg;obtain⟨Wu,Xu,p1,hz1⟩:=I.list SW;obtain⟨wC,N0,p2,ZA⟩:=I.list SV;obtain⟨u1,XM,LF⟩:=Xu.get hx;obtain⟨u2,ZN,N7⟩:=N0.get hy;obtain⟨xo,yo,hO⟩:=st.hO;have ap:∀ c∈[z,TI,TO,i1,i2],a≠c/\b≠c:=fun c hc=>⟨uD I SW (hf c hc),uD I SV (hf c hc)⟩;simp only [aP,aY,ez,or_false,not_or] at nd;obtain⟨⟨n1,n2,n3,n4⟩,⟨n5,n6,n7⟩,⟨n8,n9⟩,Zl,_⟩:=nd;have Dz:ZipApart z TI TO i1 i2 a b:=⟨gm n1,gm n2,gm n3,gm n4,n5,n6,n7,n8,n9,Zl,(ap z (by simp)).1,(ap TO (by simp)).1,(ap i1 (by simp)).1,(ap i2 (by simp)).1,(ap z (by simp)).2,(ap TO (by simp)).2,(ap i1 (by simp)).2,(ap i2 (by simp)).2⟩;have UM:H s.heap.objs.size=none:=I.cL.fresh (aH _);have inH:∀ c∈[z,TI,TO,i1,i2],c≠s.heap.objs.size:=fun c hc=>by
   simp only [aY,ez,or_false] at hc;rcases hc with rfl | rfl | rfl | rfl | rfl
   ·exact bQ (bh st.hz)
   ·exact bQ (bh st.hI)
   ·exact bQ (bh hO)
   ·obtain⟨o,e,_⟩:=st.h1; exact bQ (bh e)
   ·obtain⟨o,e,_⟩:=st.h2; exact bQ (bh e)
  refine wpAny_pyNext_zip_item Dz st.hz st.hI hO st.h1 st.h2 p1.isList p2.isList (x:=u1) (y:=u2) (by simpa using XM) (by simpa using ZN) fun h' a1 a2 a3 a4 a5 a6 a7=>?_;refine⟨_,rfl,?_⟩;have k1:∀ c o,c∉[z,TI,TO,i1,i2]->s.heap.get? c=some o->h'.get? c=some o:=fun c o hc q =>
   a7 c o (fun e=>hc (by simp [e])) (fun e=>hc (by simp [e])) (fun e=>hc (by simp [e])) (fun e=>hc (by simp [e])) q
  have I1:Inv X pins σ (upd H s.heap.objs.size (.tup [x,y])) { s with heap:=h' } :=
   I.xI (t':=s.toks) (fp:=[z,TI,TO,i1,i2]) hf k1 (aH _) ⟨by show 2<=bg; decide,[u1,u2],.cons LF (.cons N7 .nil),⟨_,a5,rfl,_,rfl⟩⟩
  refine wpAny_letOwnedTupleGo_zip (s:={ s with heap:=h' }) a1 fun h2 ZA FG=>?_;have f1:∀ c∈[z,TI,TO,i1,i2],nI X pins (upd H s.heap.objs.size (.tup [x,y])) c:=fun c hc=>(hf c hc).upd (inH c hc);have I2:Inv X pins σ (upd H s.heap.objs.size (.tup [x,y])) { s with heap:=h2 } :=
   Inv.r8 (s:={ s with heap:=h' }) (t':=s.toks) (fp:=[z,TI,TO,i1,i2]) I1 f1 fun c o hc q=>(FG.2 c (fun e=>hc (by simp [e]))).trans q
  have hI':IsPair h' TI (.ref i1) (.ref i2):=a7 TI _ (gm n1) n5 n6 n7 st.hI;refine⟨.ref s.heap.objs.size,_,I2,rfl,⟨_,x,y,rfl,UM,rfl,fun zs hs=>by rw [I.vd hs SW]; exact hx,fun zs hs=>by rw [I.vd hs SV]; exact hy⟩,⟨ZA,?_,⟨u1,u2,?_⟩,?_,?_⟩,fun c hc=>(f1 c hc).1⟩
  ·exact(FG.2 TI (gm n1)).trans hI'
  ·exact(FG.2 TO (gm n2)).trans a2
  ·exact a3.at fun o q=>(FG.2 i1 (gm n3)).trans q
  ·exact a4.at fun o q=>(FG.2 i2 (gm n4)).trans q
 done:=by
  intro X hP hw hK hc i pins s σ H E I hf st hg;subst hP hw hK;obtain⟨xs,ys,SW,SV,hx⟩:=hg;obtain⟨Wu,Xu,p1,hz1⟩:=I.list SW;obtain⟨wC,N0,p2,ZA⟩:=I.list SV;have hl1:=Xu.length;have BE:=N0.length;obtain⟨xo,yo,hO⟩:=st.hO;have ap:∀ c∈[z,TI,TO,i1,i2],a≠c/\b≠c:=fun c hc=>⟨uD I SW (hf c hc),uD I SV (hf c hc)⟩;simp only [aP,aY,ez,or_false,not_or] at nd;obtain⟨⟨n1,n2,n3,n4⟩,⟨n5,n6,n7⟩,⟨n8,n9⟩,Zl,_⟩:=nd;have Dz:ZipApart z TI TO i1 i2 a b:=⟨gm n1,gm n2,gm n3,gm n4,n5,n6,n7,n8,n9,Zl,(ap z (by simp)).1,(ap TO (by simp)).1,(ap i1 (by simp)).1,(ap i2 (by simp)).1,(ap z (by simp)).2,(ap TO (by simp)).2,(ap i1 (by simp)).2,(ap i2 (by simp)).2⟩;refine wpAny_pyNext_zip_end (I.ok.hd hc) Dz st.hz st.hI hO st.h1 st.h2 p1.isList p2.isList (by
   rcases hx with hx | hx
   ·left; simp; lia
   ·right; simp; lia) fun h' k1=>⟨rfl,?_⟩
  exact I.r8 (t':=s.toks) (fp:=[z,TI,TO,i1,i2]) hf fun c o hc q=>k1 c o (fun e=>hc (by simp [e])) (fun e=>hc (by simp [e])) (fun e=>hc (by simp [e])) (fun e=>hc (by simp [e])) q
 self:=fun A i s Q E st h=>wpAny_pyIter_zip st.hz h
end L2
namespace K2
open PySem PySem.Spec PyProof.Rows L2
section
variable {X:Cx} {elts:List Expr} {kk:Nat} {AG:Pos} {a b:Expr} {ta tb:gI} {pos p:Pos}
theorem Fu{pins:List (Addr×Obj)}{s:aA}{σ:L2.St}{H:Hp}{G:Gp}{x:V}{d:D}{v:Value}{ds:List D}{ok:Gp->Prop}(I:Inv X pins σ H s)(ab:lQ X.K H G)(rx:RelV x v)(rd:cE X.K H x d)(hi:vb d G=some (ds,ok)) :
  ∃ l vs,v=.ref l/\oZ X.K H l vs/\bt X.K H vs ds/\∀ H2 G2,Kp H H2->lQ X.K H2 G2->ok G2->∃ ws,oZ X.K H2 l ws/\bt X.K H2 ws ds:=by
 cases rd with
 | dQ hq rs=>cases hi; cases rx; exact⟨_,_,rfl,hq.sq,rs,fun H2 G2 k ab _=>⟨_,(k.TJ hq).sq,rs.mono k⟩⟩
 | ref l =>
  unfold vb at hi;dsimp only at hi;cases hg:G l with
  | none=>rw [hg] at hi; cases hi
  | some gg =>
   rw [hg] at hi;cases gg with
   | lst zs =>
    cases hi;cases rx;obtain⟨vs,hv,rs⟩:=ab.lst hg;refine⟨_,_,rfl,.of hv,rs,fun H2 G2 k ab o=>?_⟩;obtain⟨ws,hw,qA⟩:=ab.lst o;exact⟨ws,.of hw,qA⟩
   | ins _ _=>cases hi
   | sJ _=>cases hi
   | gF _=>cases hi
 | _=>cases hi
theorem Kb (hg:Gl X "zip") (hm:X.mg "zip" = none) (ha:g6 X a ta) (hb:g6 X b tb) (hs:autoParam (c8 [a,b] X.env=[(false,eval a X.env),(false,eval b X.env)]) Ar._auto_1) (FG:autoParam (c8 [b] X.env=[(false,eval b X.env)]) Ar._auto_1) :
  MP X (.Tuple elts kk AG) (.Call (.Name "zip" p) [a,b] [] pos) (Pd ta tb):=by
 intro E pins s σ H τ G R hE I h;have hA:La X [a,b] (aw ta (aw tb aX)):=ag ha (ag hb aF FG) (by rw [hs,FG]);refine Call_ (rE I.inv hg hm U5 (fQ (Et hA pos hE I (R:=YT fun x y G1=>tU x y G1 R) h fun vs H1 ds G1 us s1 I1 m1 r1 jM q1=>?_) (by rw [hs,FG]) (by rw [FG]; rfl)))
 match ds,q1 with
 | [x,y],q1 =>
  change tU x y G1 R at q1;obtain⟨w1,w2,rfl,EJ,QU⟩:=jM.two;obtain⟨u1,u2,rfl,LF,N7⟩:=vals2 r1;unfold tU at q1;split at q1
  ·rename_i xs k1 ys k2 e1 e2;obtain⟨l1,v1,rfl,SW,rs1,st1⟩:=Fu I1.inv I1.ab LF EJ e1;obtain⟨l2,v2,rfl,SV,M9,Qu⟩:=Fu I1.inv I1.ab N7 QU e2;obtain⟨Wu,Xu,pl1,_⟩:=I1.inv.list SW;obtain⟨wC,N0,pl2,_⟩:=I1.inv.list SV;refine call_zip_2 pl1.isList pl2.isList fun h' z1 z2 z3 z4 z5 z6 z7=>?_;refine wpAny_pyIter_zip z1 ?_;refine⟨_,[s1.heap.objs.size+4,s1.heap.objs.size+2,s1.heap.objs.size+3,s1.heap.objs.size,s1.heap.objs.size+1],_,_,H1,G1,ph xs ys,_,rfl,I1.inv.kept (t':=s1.toks) z7,m1,
    NL l1 l2 _ _ _ _ _ (by simp),⟨z1,z2,⟨_,_,z3⟩,z4,z5⟩,fun c hc=>?_,fun i H2 G2 k ab o=>?_,q1⟩
   ·have S3:s1.heap.objs.size<=c:=by
     simp only [aY,ez,or_false] at hc;rcases hc with rfl | rfl | rfl | rfl | rfl
     ·exact uu _ _
     ·exact uu _ _
     ·exact uu _ _
     ·exact aH _
     ·exact uu _ _
    exact I1.inv.AO S3 (I1.inv.cL.fresh S3)
   ·obtain⟨VG,ZK,jM⟩:=st1 H2 G2 k ab o.1;obtain⟨Yu,XJ,yN⟩:=Qu H2 G2 k ab o.2;refine⟨fun d hd=>?_,fun hl=>⟨VG,Yu,ZK,XJ,?_⟩⟩
    ·rw [El] at hd;cases hx:xs[i]? with
     | none=>rw [hx] at hd; cases hd
     | some x' =>
      cases hy:ys[i]? with
      | none=>rw [hx,hy] at hd; cases hd
      | some y' =>
       rw [hx,hy] at hd;have ed:D.tup [x',y']=d:=by simpa using hd
       subst ed;obtain⟨vx,hvx,rx⟩:=jM.get hx;obtain⟨vy,hvy,ry⟩:=yN.get hy;refine⟨⟨VG,vx,Yu,vy,ZK,hvx,XJ,hvy⟩,?_⟩;rintro v H3 ⟨T,px,py,ex,hT,e3,hx3,hy3⟩;subst ex e3;have q1:=hx3 VG ZK;have q2:=hy3 Yu XJ;rw [hvx] at q1;rw [hvy] at q2;cases q1; cases q2;exact⟨.tup cf (.cons (rx.mono (.new hT)) (.cons (ry.mono (.new hT)) .nil)),.Mj ab hT⟩
    ·rw [Ek] at hl;rw [jM.length,yN.length];lia
  ·exact q1.elim
 | [],q1=>exact q1.elim
 | [_],q1=>exact q1.elim
 | _ :: _ :: _ :: _,q1=>exact q1.elim
end
end K2
end
section
namespace K2
open PySem PySem.W PyProof.Rows
noncomputable def iK{α:Type}(lt:Nat->Nat->Bool):KasT α->α
 | .ret a=>a
 | .ask i j k=>iK lt (k (lt i j))
theorem my{α β:Type}(lt:Nat->Nat->Bool)(f:α->KasT β):∀ t:KasT α,iK lt (t.bind f)=iK lt (f (iK lt t))
 | .ret _=>rfl
 | .ask i j k=>my lt f (k (lt i j))
noncomputable abbrev gA(p:Array Nat)(k:Nat):Nat:=p.getD k 0
theorem BJ(p:Array Nat)(k:Nat):gA p k=(p[k]?).getD 0:=by
 unfold gA; rw [Array.getD_eq_getD_getElem?]
structure MN(lt:Nat->Nat->Bool):Prop where
 asymm:∀ i j,lt i j=true->lt j i=false
 trans:∀ i j k,lt j i=false->lt k j=false->lt k i=false
theorem MN.refl{lt:Nat->Nat->Bool}(w:MN lt)(i:Nat):lt i i=false:=by
 cases h:lt i i with
 | false=>rfl
 | true=>rw [w.asymm _ _ h] at h; cases h
noncomputable def Up(lt:Nat->Nat->Bool)(p:Array Nat)(m:Nat):Prop:=∀ i j,i<=j->j < m->lt (gA p j) (gA p i)=false
noncomputable def Dn(lt:Nat->Nat->Bool)(p:Array Nat)(m:Nat):Prop:=∀ i j,i<=j->j < m->lt (gA p i) (gA p j)=false
section
variable {lt:Nat->Nat->Bool}
theorem Up.more(w:MN lt){p:Array Nat}{n m:Nat}(h1:1<=n)(h:Up lt p n)(hs:∀ k,n<=k->k < m->lt (gA p k) (gA p (k - 1))=false):Up lt p m:=by
 intro i j Mh hjm;induction j with
 | zero =>
  have:i=0:=by lia
  subst this; exact w.refl _
 | succ j ih =>
  by_cases hj:j+1 < n
  ·exact h i (j+1) Mh hj
  ·by_cases e:i=j+1
   ·subst e; exact w.refl _
   ·have h1:=ih (by lia) (by lia);have h2:=hs (j+1) (by lia) hjm;exact w.trans _ _ _ h1 h2
theorem JY(p:Array Nat):∀ (f n:Nat),n<=iK lt (qH p f n)/\iK lt (qH p f n)<=n+f/\(∀ k,n<=k->k < iK lt (qH p f n)->lt (gA p k) (gA p (k - 1))=false) /\
  (iK lt (qH p f n) < n+f->lt (gA p (iK lt (qH p f n))) (gA p (iK lt (qH p f n) - 1))=true):=by
 intro f;induction f with
 | zero=>intro n; exact⟨aH _,aH _,fun k h1 h2=>absurd (show k < n from h2) (by lia),fun h=>absurd (show n < n+0 from h) (by lia)⟩
 | succ f ih =>
  intro n;have e:iK lt (qH p (f+1) n)=if lt (gA p n) (gA p (n - 1))=true then n else iK lt (qH p f (n+1)):=by
   show iK lt (if lt (gA p n) (gA p (n - 1))=true then v5 n else qH p f (n+1))=_;split <;> rfl
  rw [e];by_cases c:lt (gA p n) (gA p (n - 1))=true
  ·rw [if_pos c];exact⟨aH _,by lia,fun k h1 h2=>absurd h2 (by lia),fun _=>c⟩
  ·rw [if_neg c];obtain⟨h1,h2,h3,h4⟩:=ih (n+1);refine⟨by lia,by lia,fun k k1 k2=>?_,fun h=>h4 (by lia)⟩;by_cases e:k=n
   ·subst e; simpa using c
   ·exact h3 k (by lia) k2
theorem iJ{p:Array Nat}{i j:Nat}(hj:j<=p.size)(k:Nat):gA (gT p i j) k=if i<=k/\k < j then gA p (i+j - 1 - k) else gA p k:=by
 rw [BJ,gT,getElem?_mirror_all hj];split <;> rw [BJ]
theorem mP(p:Array Nat)(i j:Nat):(gT p i j).size=p.size:=mirror_size _ _ _ _
theorem kn(p:Array Nat)(i j:Nat):(gT p i j).Perm p:=mirror_perm _ _ _ _
theorem Dn.rev{p:Array Nat}{a n:Nat}(w:MN lt)(hn:n<=p.size)(h:Dn lt p n)(he:∀ k,a<=k->k < n->lt (gA p (n - 1)) (gA p k)=false):Dn lt (gT p a n) n:=by
 intro i j Mh WJ;rw [iJ hn,iJ hn];by_cases hi:a<=i
 ·rw [if_pos ⟨hi,by lia⟩,if_pos ⟨by lia,WJ⟩];exact w.trans _ _ _ (he (a+n - 1 - j) (by lia) (by lia)) (h (a+n - 1 - i) (n - 1) (by lia) (by lia))
 ·rw [if_neg (by lia)];by_cases hj:a<=j
  ·rw [if_pos ⟨hj,WJ⟩];exact h i (a+n - 1 - j) (by lia) (by lia)
  ·rw [if_neg (by lia)];exact h i j Mh WJ
noncomputable def Eqs(lt:Nat->Nat->Bool)(p:Array Nat)(n q:Nat):Prop:=q+1<=n/\∀ k,n - (q+1)<=k->k < n->lt (gA p (n - 1)) (gA p k)=false
theorem Dn.one(w:MN lt){p:Array Nat}{n:Nat}(h1:1<=n)(h:Dn lt p n)(hc:lt (gA p (n - 1)) (gA p n)=false):Dn lt p (n+1):=by
 intro i j Mh hj;by_cases e:j=n
 ·subst e;by_cases e2:i=j
  ·subst e2; exact w.refl _
  ·exact w.trans _ _ _ hc (h i (j - 1) (by lia) (by lia))
 ·exact h i j Mh (by lia)
theorem N6(w:MN lt):∀ (f:Nat) (p:Array Nat) (n q:Nat),n+f<=p.size->Dn lt p n->Eqs lt p n q->∃ p' n' q',iK lt (lx f p n q)=(p',n',q')/\p'.Perm p/\p'.size=p.size/\n<=n'/\n'<=n+f/\Dn lt p' n'/\Eqs lt p' n' q':=by
 intro f;induction f with
 | zero=>intro p n q _ hd he; exact⟨p,n,q,rfl,nv _,rfl,aH _,aH _,hd,he⟩
 | succ f ih =>
  intro p n q hs hd he;have h1:1<=n:=by have:=he.1; lia
  have e:iK lt (lx (f+1) p n q)=if lt (gA p n) (gA p (n - 1))=true then (if q > 0 then iK lt (lx f (gT p (n - (q+1)) n) (n+1) 0) else iK lt (lx f p (n+1) 0))
    else if lt (gA p (n - 1)) (gA p n)=true then (p,n,q) else iK lt (lx f p (n+1) (q+1)):=by
   show iK lt (if lt (gA p n) (gA p (n - 1))=true then (if q > 0 then lx f (gT p (n - (q+1)) n) (n+1) 0 else lx f p (n+1) 0) else .ask (gA p (n - 1)) (gA p n) fun d=>if d=true then .ret (p,n,q) else lx f p (n+1) (q+1))=_;split
   ·split <;> rfl
   ·show iK lt (if lt (gA p (n - 1)) (gA p n)=true then v5 (p,n,q) else lx f p (n+1) (q+1))=_;split <;> rfl
  rw [e];by_cases c:lt (gA p n) (gA p (n - 1))=true
  ·rw [if_pos c];have ca:=w.asymm _ _ c;by_cases hq:q > 0
   ·rw [if_pos hq];have d1:Dn lt (gT p (n - (q+1)) n) n:=hd.rev w (by lia) he.2;have en:gA (gT p (n - (q+1)) n) n=gA p n:=by rw [iJ (by lia),if_neg (by lia)]
    have ca':lt (gA (gT p (n - (q+1)) n) (n - 1)) (gA (gT p (n - (q+1)) n) n)=false:=by
     rw [en,iJ (by lia)];split
     ·-- an item of Yw Xq is above p n
      exact w.trans _ _ _ ca (hd _ (n - 1) (by lia) (by lia))
     ·exact ca
    obtain⟨p',n',q',z,h2,h3,h4,h5,h6,h7⟩:=ih (gT p (n - (q+1)) n) (n+1) 0 (by rw [mP]; lia) (d1.one w h1 ca') ⟨by lia,fun k k1 k2=>by
     have:k=n:=by lia
     subst this; exact w.refl _⟩
    exact⟨p',n',q',z,h2.trans (kn _ _ _),h3.trans (mP _ _ _),by lia,by lia,h6,h7⟩
   ·rw [if_neg hq];obtain⟨p',n',q',z,h2,h3,h4,h5,h6,h7⟩:=ih p (n+1) 0 (by lia) (hd.one w h1 ca) ⟨by lia,fun k k1 k2=>by
     have:k=n:=by lia
     subst this; exact w.refl _⟩
    exact⟨p',n',q',z,h2,h3,by lia,by lia,h6,h7⟩
  ·rw [if_neg c];have c':lt (gA p n) (gA p (n - 1))=false:=by simpa using c
   by_cases d:lt (gA p (n - 1)) (gA p n)=true
   ·rw [if_pos d];exact⟨p,n,q,rfl,nv _,rfl,aH _,by lia,hd,he⟩
   ·rw [if_neg d];have d':lt (gA p (n - 1)) (gA p n)=false:=by simpa using d
    obtain⟨p',n',q',z,h2,h3,h4,h5,h6,h7⟩:=ih p (n+1) (q+1) (by lia) (hd.one w h1 d') ⟨by have:=he.1; lia,fun k k1 k2=>by
     rw [Nat.add_sub_cancel];by_cases e:k=n
     ·subst e; exact w.refl _
     ·exact w.trans _ _ _ (he.2 k (by lia) (by lia)) c'⟩
    exact⟨p',n',q',z,h2,h3,by lia,by lia,h6,h7⟩
theorem Dn.up{p:Array Nat}{n:Nat}(hn:n<=p.size)(h:Dn lt p n):Up lt (gT p 0 n) n:=by
 intro i j Mh WJ;rw [iJ hn,iJ hn,if_pos ⟨by lia,WJ⟩,if_pos ⟨by lia,by lia⟩];exact h _ _ (by lia) (by lia)
theorem EK(w:MN lt){p:Array Nat}{n nrem:Nat}(h1:1<=n)(hn:n<=nrem)(hs:nrem<=p.size)(h:Dn lt p n):∃ p' m,iK lt (Nq n nrem p)=(m,p')/\p'.Perm p/\p'.size=p.size/\n<=m/\m<=nrem/\Up lt p' m:=by
 obtain⟨a1,a2,a3,_⟩:=JY (lt:=lt) (gT p 0 n) (nrem - n) n;refine⟨gT p 0 n,iK lt (qH (gT p 0 n) (nrem - n) n),by rw [Nq,my]; rfl,kn _ _ _,mP _ _ _,a1,by lia,?_⟩;exact(h.up (by lia)).more w h1 a3
theorem uM(w:MN lt){p:Array Nat}{n nrem:Nat}(h1:1<=n)(hn:n < nrem)(hs:nrem<=p.size)(h:Dn lt p n)(hc:lt (gA p (n - 1)) (gA p n)=false) :
  ∃ p' m,iK lt (yf n nrem p)=(m,p')/\p'.Perm p/\p'.size=p.size/\n<=m/\m<=nrem/\Up lt p' m:=by
 obtain⟨p1,n1,q1,z,z2,z3,z4,z5,z6,z7⟩:=N6 w (nrem - (n+1)) p (n+1) 0 (by lia) (h.one w h1 hc) ⟨by lia,fun k k1 k2=>by
  have:k=n:=by lia
  subst this; exact w.refl _⟩
 rw [yf,my,z];show ∃ p' m,iK lt (if q1 > 0 then Nq n1 nrem (gT p1 (n1 - (q1+1)) n1) else Nq n1 nrem p1)=(m,p')/\_;by_cases hq:q1 > 0
 ·rw [if_pos hq];obtain⟨p',m,y1,y2,y3,y4,y5,y6⟩:=EK (nrem:=nrem) w (p:=gT p1 (n1 - (q1+1)) n1) (by lia) (by lia) (by rw [mP]; lia) (z6.rev w (by lia) z7.2);exact⟨p',m,y1,(y2.trans (kn _ _ _)).trans z2,(y3.trans (mP _ _ _)).trans z3,by lia,y5,y6⟩
 ·rw [if_neg hq];obtain⟨p',m,y1,y2,y3,y4,y5,y6⟩:=EK (nrem:=nrem) w (p:=p1) (by lia) (by lia) (by lia) z6;exact⟨p',m,y1,y2.trans z2,y3.trans z3,by lia,y5,y6⟩
theorem LD(w:MN lt){p:Array Nat}{nrem:Nat}(h1:1<=nrem)(hs:nrem<=p.size):∃ p' m,iK lt (kas_count nrem p)=(m,p')/\p'.Perm p/\p'.size=p.size/\1<=m/\m<=nrem/\Up lt p' m:=by
 obtain⟨a1,a2,a3,a4⟩:=JY (lt:=lt) p (nrem - 1) 1;rw [kas_count,my];generalize iK lt (qH p (nrem - 1) 1)=n at a1 a2 a3 a4;have u1:Up lt p 1:=fun i j Mh hj=>by
  have:i=j:=by lia
  subst this; exact w.refl _
 have up:Up lt p n:=u1.more w (aH _) a3;by_cases e:n=nrem
 ·subst e;rw [if_pos (by simp)];exact⟨p,n,rfl,nv _,rfl,a1,aH _,up⟩
 ·rw [if_neg (by simpa using e)];have hb:=a4 (by lia);by_cases h2:n > 1
  ·rw [if_pos h2];show ∃ p' m,iK lt (if lt (gA p 0) (gA p (n - 1))=true then v5 (n,p) else yf n nrem (gT p 0 n))=(m,p')/\_;by_cases c:lt (gA p 0) (gA p (n - 1))=true
   ·rw [if_pos c];exact⟨p,n,rfl,nv _,rfl,a1,by lia,up⟩
   ·rw [if_neg c];have c':lt (gA p 0) (gA p (n - 1))=false:=by simpa using c
    have all:∀ i j,i < n->j < n->lt (gA p i) (gA p j)=false:=fun i j hi hj =>
     w.trans _ _ _ (w.trans _ _ _ (up j (n - 1) (by lia) (by lia)) c') (up 0 i (by lia) hi)
    have d1:Dn lt (gT p 0 n) n:=fun i j Mh hj=>by
     rw [iJ (by lia),iJ (by lia),if_pos ⟨by lia,by lia⟩,if_pos ⟨by lia,hj⟩];exact all _ _ (by lia) (by lia)
    have hl:lt (gA (gT p 0 n) (n - 1)) (gA (gT p 0 n) n)=false:=by
     rw [iJ (by lia),iJ (by lia),if_pos ⟨by lia,by lia⟩,if_neg (by lia)];exact w.trans _ _ _ (w.asymm _ _ hb) (all _ _ (by lia) (by lia))
    obtain⟨p',m,y1,y2,y3,y4,y5,y6⟩:=uM (nrem:=nrem) w (p:=gT p 0 n) a1 (by lia) (by rw [mP]; lia) d1 hl;exact⟨p',m,y1,y2.trans (kn _ _ _),y3.trans (mP _ _ _),by lia,y5,y6⟩
  ·rw [if_neg h2];have e1:n=1:=by lia
   subst e1;have d1:Dn lt p 1:=fun i j Mh hj=>by
    have:i=j:=by lia
    subst this; exact w.refl _
   obtain⟨p',m,y1,y2,y3,y4,y5,y6⟩:=uM (nrem:=nrem) w (p:=p) (aH _) (by lia) hs d1 (w.asymm _ _ hb);exact⟨p',m,y1,y2,y3,by lia,y5,y6⟩
theorem LC(w:MN lt){p:Array Nat}{k:Nat}:∀ (f l r:Nat),l<=r->r<=k->r - l<=f->Up lt p k->(∀ i,i < l->lt (gA p k) (gA p i)=false)->(∀ i,r<=i->i < k->lt (gA p k) (gA p i)=true) ->
  ∃ m,iK lt (kg p k f l r)=m/\m<=k/\(∀ i,i < m->lt (gA p k) (gA p i)=false)/\(∀ i,m<=i->i < k->lt (gA p k) (gA p i)=true):=by
 intro f;induction f with
 | zero =>
  intro l r hlr XO hf up h1 h2;have:l=r:=by lia
  subst this;exact⟨l,rfl,XO,h1,h2⟩
 | succ f ih =>
  intro l r hlr XO hf up h1 h2;have e:iK lt (kg p k (f+1) l r)=if l>=r then l else if lt (gA p k) (gA p ((l+r) / 2))=true then iK lt (kg p k f l ((l+r) / 2)) else iK lt (kg p k f ((l+r) / 2+1) r):=by
   show iK lt (if l>=r then v5 l else .ask (gA p k) (gA p ((l+r) / 2)) fun c=>if c=true then kg p k f l ((l+r) / 2) else kg p k f ((l+r) / 2+1) r)=_;split
   ·rfl
   ·show iK lt (if lt (gA p k) (gA p ((l+r) / 2))=true then kg p k f l ((l+r) / 2) else kg p k f ((l+r) / 2+1) r)=_;split <;> rfl
  rw [e];by_cases c:l>=r
  ·rw [if_pos c];have:l=r:=by lia
   subst this;exact⟨l,rfl,XO,h1,h2⟩
  ·rw [if_neg c];by_cases d:lt (gA p k) (gA p ((l+r) / 2))=true
   ·rw [if_pos d];refine ih l ((l+r) / 2) (by lia) (by lia) (by lia) up h1 fun i i1 i2=>?_;cases q:lt (gA p k) (gA p i) with
    | true=>rfl
    | false=>rw [w.trans _ _ _ (up ((l+r) / 2) i i1 i2) q] at d; cases d
   ·rw [if_neg d];refine ih ((l+r) / 2+1) r (by lia) XO (by lia) up (fun i hi=>?_) h2;exact w.trans _ _ _ (up i ((l+r) / 2) (by lia) (by lia)) (by simpa using d)
theorem BK{p:Array Nat}{src d:Nat}(hs:src < p.size)(hd:d<=src)(k:Nat):gA (bubble p src d) k=if k=src - d then gA p src else if src - d < k/\k<=src then gA p (k - 1) else gA p k:=by
 rw [BJ,getElem?_bubble hs d hd,BJ p src,BJ p (k - 1),BJ p k];by_cases h1:k=src - d
 ·rw [if_pos h1,if_pos h1]
 ·rw [if_neg h1,if_neg h1];by_cases h2:src - d < k/\k<=src
  ·rw [if_pos h2,if_pos h2]
  ·rw [if_neg h2,if_neg h2]
theorem QV(w:MN lt):∀ (f:Nat) (p:Array Nat) (k:Nat),k+f<=p.size->Up lt p k->∃ p',iK lt (kas_bin f p k)=p'/\p'.Perm p/\p'.size=p.size/\Up lt p' (k+f):=by
 intro f;induction f with
 | zero=>intro p k _ up; exact⟨p,rfl,nv _,rfl,up⟩
 | succ f ih =>
  intro p k hs up;obtain⟨m,e,hm,h1,h2⟩:=LC w k 0 k (cQ _) (aH _) (aH _) up (fun i hi=>absurd hi (by lia)) (fun i i1 i2=>absurd i1 (by lia));have up':Up lt (bubble p k (k - m)) (k+1):=by
   intro i j Mh hj;rw [BK (by lia) (by lia),BK (by lia) (by lia)];have ek:k - (k - m)=m:=by lia
   rw [ek];by_cases j1:j=m
   ·rw [if_pos j1];by_cases i1:i=m
    ·rw [if_pos i1]; exact w.refl _
    ·rw [if_neg i1,if_neg (by lia)]; exact h1 i (by lia)
   ·rw [if_neg j1];by_cases j2:m < j/\j<=k
    ·rw [if_pos j2];by_cases i1:i=m
     ·rw [if_pos i1]; exact w.asymm _ _ (h2 (j - 1) (by lia) (by lia))
     ·rw [if_neg i1];by_cases i2:m < i/\i<=k
      ·rw [if_pos i2]; exact up _ _ (by lia) (by lia)
      ·rw [if_neg i2]; exact up _ _ (by lia) (by lia)
    ·rw [if_neg j2,if_neg (by lia),if_neg (by lia)]; exact up _ _ Mh (by lia)
  obtain⟨p',z,z1,z2,z3⟩:=ih (bubble p k (k - m)) (k+1) (by rw [bubble_size]; lia) up';refine⟨p',?_,z1.trans (bubble_perm _ _ _),z2.trans (bubble_size _ _ _),by rw [show k+(f+1)=k+1+f by lia]; exact z3⟩;rw [kas_bin,my,e]; exact z
theorem N1(w:MN lt){n:Nat}(h1:1<=n):∃ p,iK lt (kas_sort n)=p/\p.toList.Perm (c9 n)/\p.size=n/\Up lt p n:=by
 obtain⟨p,m,z,z1,z2,z3,z4,z5⟩:=LD w (p:=(c9 n).toArray) h1 (by simp);have zs:p.size=n:=by rw [z2]; simp
 have zp:p.toList.Perm (c9 n):=by simpa using z1.toList
 rw [kas_sort,my,z];show ∃ q,iK lt (if m < n then kas_bin (n - max m 1) p (max m 1) else .ret p)=q/\_;by_cases c:m < n
 ·rw [if_pos c];have em:max m 1=m:=by lia
  rw [em];obtain⟨p',y,y1,y2,y3⟩:=QV w (n - m) p m (by lia) z5;exact⟨p',y,(by simpa using y1.toList:p'.toList.Perm p.toList).trans zp,y2.trans zs,by rw [show n=m+(n - m) by lia]; exact y3⟩
 ·rw [if_neg c];have:m=n:=by lia
  subst this;exact⟨p,rfl,zp,zs,z5⟩
end
end K2
end
section
namespace K2
open PySem PySem.Spec PyProof.Rows L2
open PySem.AutoSeq1 (wpAny_loadPart')
open PySem.MeetsSeq PySem.MeetsSeq2 PySem.MeetsSeq3 PySem.SeqAt
noncomputable def Ah(A:dS)(s:aA)(y x:Value)(b:Bool):Prop :=
 ∀ (prog:bN) (w:World) (E:Value->aA->Prop) (Q:Value->aA->Prop),Q (.bool b) s->wpAny (model prog w) A (richCompare .Lt y x) Q E s
noncomputable def sW(e l:Nat->Bool)(n m:Nat):Nat->Nat->Bool
 | 0,_=>decide (n < m)
 | f+1,i=>if e i=true then sW e l n m f (i+1) else l i
theorem RB(l b:Addr)(xs ys:Array Value)(n m:Nat)(dd de:Option Addr)(sl sm:Array (Option Value))(e lt:Nat->Bool)(k:Nat) :
  ∀ i:Nat,i<=min xs.size ys.size->min xs.size ys.size - i=k->Meets (Builtin.«list.__eq__.loop» ⟨[.ref l,.ref b,Ec i,Ec 0],[]⟩)
   (fun A R s=>s.heap.get? l=some { cls:=.type "list",dict:=dd,data:=.seq xs n,slots:=sl }/\s.heap.get? b=some { cls:=.type "list",dict:=de,data:=.seq ys m,slots:=sm } /\
    (∀ j (h1:j < xs.size) (h2:j < ys.size),EqAt A.in1 s xs[j] ys[j] (e j)/\Ah A.in1 s xs[j] ys[j] (lt j)) /\
    R (.ok (.ret (.bool (sW e lt xs.size ys.size k i)))) s):=by
 induction k with
 | zero =>
  intro i hi hk prog w A R s h;obtain⟨hp,g,d,tk,os⟩:=s;obtain⟨hl,hb,he,h⟩:=h
  wp_walk using cx hl,cx hb
  by_cases c:xs.size<=ys.size
  ·have h1:xs[((i:Nat):Int).toNat]?=none:=by simp; lia
   rw [h1]
   wp_walk using cx hl,cx hb
   exact h
  ·have h2:ys[((i:Nat):Int).toNat]?=none:=by simp; lia
   rw [h2];cases q:xs[((i:Nat):Int).toNat]? with
   | none =>
    wp_walk using cx hl,cx hb
    exact h
   | some v =>
    wp_walk using cx hl,cx hb
    exact h
 | succ k ih =>
  intro i hi hk prog w A R s h;obtain⟨hp,g,d,tk,os⟩:=s;obtain⟨hl,hb,he,h⟩:=h
  wp_walk using cx hl,cx hb
  have l1:i < xs.size:=by lia
  have l2:i < ys.size:=by lia
  have h1:xs[((i:Nat):Int).toNat]?=some xs[i]:=by simp [l1]
  have h2:ys[((i:Nat):Int).toNat]?=some ys[i]:=by simp [l2]
  have hc:((i:Int)+1)=((i+1:Nat):Int):=by push_cast; rfl
  rw [h1,h2];refine ah ((he i l1 l2).1 prog w _ _ ?_);cases q:e i with
  | true =>
   rw [sW,q,if_pos rfl] at h
   wp_walk
   rw [hc];exact⟨plainId_quiet plain_eq_loop _,codeAny_builtin entry_eq_loop (by
    rw [NC plain_eq_loop _];exact ih (i+1) (by lia) (by lia) prog w A R _ ⟨hl,hb,he,h⟩)⟩
  | false =>
   rw [sW,q,if_neg (by simp)] at h
   wp_walk using cx hl,cx hb
   rw [h1,h2];have Wz:=(he i l1 l2).2 prog w
   wp_walk using Wz
   exact h
theorem Bz(l b:Addr)(xs ys:Array Value)(n m:Nat)(dd de:Option Addr)(sl sm:Array (Option Value))(e lt:Nat->Bool) :
  Meets (Builtin.«list.__lt__» ⟨[.ref l,.ref b],[]⟩)
   (fun A R s=>s.heap.get? l=some { cls:=.type "list",dict:=dd,data:=.seq xs n,slots:=sl }/\s.heap.get? b=some { cls:=.type "list",dict:=de,data:=.seq ys m,slots:=sm } /\
    (∀ j (h1:j < xs.size) (h2:j < ys.size),EqAt A.in1 s xs[j] ys[j] (e j)/\Ah A.in1 s xs[j] ys[j] (lt j)) /\
    R (.ok (.ret (.bool (sW e lt xs.size ys.size (min xs.size ys.size) 0)))) s):=by
 intro prog w A R s h;obtain⟨hp,g,d,tk,os⟩:=s;obtain⟨hl,hb,he,h⟩:=h;have f3:=Hw
 wp_walk using cx hl,cx hb
 exact⟨plainId_quiet plain_eq_loop _,codeAny_builtin entry_eq_loop (by
  rw [NC plain_eq_loop _];exact RB l b xs ys n m dd de sl sm e lt _ 0 (cQ _) rfl prog w A R _ ⟨hl,hb,he,h⟩)⟩
theorem yp(l b:Addr)(xs ys:Array Value)(n m:Nat)(dd de:Option Addr)(sl sm:Array (Option Value))(e lt:Nat->Bool) :
  Meets (Builtin.«tuple.__lt__» ⟨[.ref l,.ref b],[]⟩)
   (fun A R s=>s.heap.get? l=some { cls:=.type "tuple",dict:=dd,data:=.seq xs n,slots:=sl }/\s.heap.get? b=some { cls:=.type "tuple",dict:=de,data:=.seq ys m,slots:=sm } /\
    (∀ j (h1:j < xs.size) (h2:j < ys.size),EqAt A.in1 s xs[j] ys[j] (e j)/\Ah A.in1 s xs[j] ys[j] (lt j)) /\
    R (.ok (.ret (.bool (sW e lt xs.size ys.size (min xs.size ys.size) 0)))) s) :=
 .of_wp fun prog w A R s h=>by
  obtain⟨hp,g,d,tk,os⟩:=s;obtain⟨hl,hb,he,h⟩:=h;have f2:=qh;have zl:(xs.toList.zip ys.toList).length=min xs.size ys.size:=by simp
  wp_walk using cx hl,cx hb,lu _ (fun rest c s'=>c.1=none/\s'=⟨hp,g,d,tk,os⟩/\∃ i,i<=min xs.size ys.size/\rest=(xs.toList.zip ys.toList).drop i /\
   R (.ok (.ret (.bool (sW e lt xs.size ys.size (min xs.size ys.size - i) i)))) ⟨hp,g,d,tk,os⟩) _
  case turn =>
   rintro⟨y,x⟩ rest c s' ⟨hc,rfl,i,hi,hz,hR⟩;have il:i < min xs.size ys.size:=by
    have:=congrArg dH hz;rw [cJ,zl,aj] at this;lia
   have l1:i < xs.size:=by lia
   have l2:i < ys.size:=by lia
   rw [hZ (by rw [zl]; exact il)] at hz;injection hz with ZC Ph
   have ey:y=xs[i]/\x=ys[i]:=by simpa using ZC
   obtain⟨rfl,rfl⟩:=ey;obtain⟨k,ek⟩:∃ k,min xs.size ys.size - i=k+1:=⟨min xs.size ys.size - i - 1,by lia⟩;rw [ek,sW] at hR;refine ah ((he i l1 l2).1 prog w _ _ ?_);cases q:e i with
   | true =>
    rw [q,if_pos rfl] at hR
    wp_walk
    exact⟨rfl,rfl,i+1,by lia,Ph,by rw [show min xs.size ys.size - (i+1)=k by lia]; exact hR⟩
   | false =>
    rw [q,if_neg (by simp)] at hR;have Wz:=(he i l1 l2).2 prog w
    wp_walk using Wz
    exact⟨_,rfl,by simpa using hR⟩
  case fin =>
   rintro⟨c1,c2⟩ s' ⟨hc,rfl,i,hi,hz,hR⟩;simp only at hc;subst hc;have il:min xs.size ys.size - i=0:=by
    have:=congrArg dH hz;rw [cJ,zl,aC] at this;lia
   rw [il,sW] at hR
   wp_walk
   exact⟨_,rfl,by simpa [uz] using hR⟩
  case h =>
   exact⟨rfl,rfl,0,cQ _,rfl,by simpa using h⟩
theorem LY{A:dS}{s:aA}{l b:Addr}{xs ys:Array Value}{e lt:Nat->Bool}(hl:s.heap.IsList l xs)(hb:s.heap.IsList b ys)(hu:A.units < cLine)
  (he:∀ j (h1:j < xs.size) (h2:j < ys.size),EqAt A.in1 s xs[j] ys[j] (e j)/\Ah A.in1 s xs[j] ys[j] (lt j)):Ah A s (.ref l) (.ref b) (sW e lt xs.size ys.size (min xs.size ys.size) 0):=by
 intro prog w E Q hq;obtain⟨⟨cls,dd,data,sl⟩,ho,hc,n,hd⟩:=id hl;obtain⟨⟨P5,He,data2,JX⟩,FI,BH,n2,hd2⟩:=id hb;simp only at hc hd BH hd2;subst hc hd BH hd2;exact xt (op:=.Lt) ⟨_,ho,rfl⟩ ⟨_,FI,rfl⟩ uw Li (JH _ _) (Bz l b xs ys n n2 dd He sl JX e lt)
  ⟨ho,FI,he,(fun x=>nomatch x),hq⟩ hu
theorem Iq{A:dS}{s:aA}{l b:Addr}{xs ys:Array Value}{e lt:Nat->Bool}(hl:s.heap.IsTuple l xs)(hb:s.heap.IsTuple b ys)(hu:A.units < cLine)
  (he:∀ j (h1:j < xs.size) (h2:j < ys.size),EqAt A.in1 s xs[j] ys[j] (e j)/\Ah A.in1 s xs[j] ys[j] (lt j)):Ah A s (.ref l) (.ref b) (sW e lt xs.size ys.size (min xs.size ys.size) 0):=by
 intro prog w E Q hq;obtain⟨⟨cls,dd,data,sl⟩,ho,hc,n,hd⟩:=id hl;obtain⟨⟨P5,He,data2,JX⟩,FI,BH,n2,hd2⟩:=id hb;simp only at hc hd BH hd2;subst hc hd BH hd2;exact xt (op:=.Lt) ⟨_,ho,rfl⟩ ⟨_,FI,rfl⟩ lS sS (qL _ _) (yp l b xs ys n n2 dd He sl JX e lt)
  ⟨ho,FI,he,(fun x=>nomatch x),hq⟩ hu
theorem oO(xs ys:List D):∀ (k i:Nat),i<=min xs.length ys.length->min xs.length ys.length - i=k ->
  sW (fun j=>iN (xs.getD j .eU) (ys.getD j .eU)) (fun j=>oX (xs.getD j .eU) (ys.getD j .eU)) xs.length ys.length k i=md (xs.drop i) (ys.drop i)
 | 0,i,hi,hk=>by
  rw [sW];by_cases c:xs.length<=ys.length
  ·have e1:xs.drop i=[]:=lT (by lia);rw [e1];cases q:ys.drop i with
   | nil =>
    have:=congrArg dH q;rw [cJ,aC] at this;exact decide_eq_false (by lia)
   | cons y r =>
    have:=congrArg dH q;rw [cJ,aj] at this;exact decide_eq_true (by lia)
  ·have e1:ys.drop i=[]:=lT (by lia);rw [e1];cases q:xs.drop i with
   | nil =>
    have:=congrArg dH q;rw [cJ,aC] at this;exact decide_eq_false (by lia)
   | cons y r=>exact decide_eq_false (by lia)
 | k+1,i,hi,hk=>by
  have l1:i < xs.length:=by lia
  have l2:i < ys.length:=by lia
  rw [sW,hZ l1,hZ l2,mZ,oO xs ys k (i+1) (by lia) (by lia)];have g1:xs.getD i .eU=xs[i]:=by rw [gR,ay l1]; rfl
  have g2:ys.getD i .eU=ys[i]:=by rw [gR,ay l2]; rfl
  rw [g1,g2]
theorem ko{h:Heap}:∀ {ds:List D} {vs:List Value} {as:List Addr},g8 h vs (lL ds) as->∀ j (hj:j < vs.length),∃ bs,Reads h vs[j] (pd (ds.getD j .eU)) bs
 | [],vs,as,r,j,hj=>by cases r; exact absurd hj (vZ _)
 | d :: ds,_,_,.cons (v:=v) (vs:=vs) r1 r2,j,hj=>by
  cases j with
  | zero=>exact⟨_,r1⟩
  | succ j=>exact ko r2 j (by simpa using hj)
theorem readsAll_len{h:Heap}:∀ {ds:List D} {vs:List Value} {as:List Addr},g8 h vs (lL ds) as->vs.length=ds.length
 | [],_,_,r=>by cases r; rfl
 | d :: ds,_,_,.cons r1 r2=>by rw [aj,aj,readsAll_len r2]
theorem pH:∀ {ds:List D},qj ds=true->∀ j,nr (ds.getD j .eU)=true
 | [],_,j=>by rw [List.getD_nil]; rfl
 | d :: ds,h,0=>by
  have h:(nr d&&qj ds)=true:=h;rw [aN] at h; simpa using h.1
 | d :: ds,h,j+1=>by
  have h:(nr d&&qj ds)=true:=h;rw [aN] at h; simpa using pH h.2 j
theorem la:∀ (ds:List D) (j:Nat),(pd (ds.getD j .eU)).depth<=cA (lL ds)
 | [],j=>by rw [List.getD_nil]; exact aH _
 | d :: ds,0=>by
  show (pd d).depth<=cA (pd d :: lL ds);simp only [cA]; lia
 | d :: ds,j+1=>by
  have:=la ds j;show (pd (ds.getD j .eU)).depth<=cA (pd d :: lL ds);simp only [cA]; lia
theorem rF:∀ {l:List nV} {ds:List D},fu l ds=true->∀ j,j < ds.length->∃ s∈l,da s (ds.getD j .eU)=true/\l[j]?=some s
 | [],[],_,j,hj=>absurd hj (vZ _)
 | [],_ :: _,h,_,_=>by cases h
 | _ :: _,[],h,_,_=>by cases h
 | s :: l,d :: ds,h,0,_=>by
  have h:(da s d&&fu l ds)=true:=h;rw [aN] at h;exact⟨s,by simp,by simpa using h.1,by simp⟩
 | s :: l,d :: ds,h,j+1,hj=>by
  have h:(da s d&&fu l ds)=true:=h;rw [aN] at h;obtain⟨s',h1,h2,h3⟩:=rF h.2 j (by simpa using hj);exact⟨s',aO _ h1,by simpa using h2,by simpa using h3⟩
theorem rG:∀ {s:nV} {ds:List D},gX s ds=true->∀ j,j < ds.length->da s (ds.getD j .eU)=true
 | s,[],_,j,hj=>absurd hj (vZ _)
 | s,d :: ds,h,0,_=>by
  have h:(da s d&&gX s ds)=true:=h;rw [aN] at h; simpa using h.1
 | s,d :: ds,h,j+1,hj=>by
  have h:(da s d&&gX s ds)=true:=h;rw [aN] at h; simpa using rG h.2 j (by simpa using hj)
theorem Dv{A:dS}{s:aA}{xs ys:List D}{vs ws:Array Value}{as bs:List Addr}(r1:g8 s.heap vs.toList (lL xs) as)(r2:g8 s.heap ws.toList (lL ys) bs)(n1:qj xs=true)(n2:qj ys=true)
  (hu:A.units+cA (lL xs) < cLine) (j:Nat) (h1:j < vs.size) (h2:j < ws.size):EqAt A s vs[j] ws[j] (iN (xs.getD j .eU) (ys.getD j .eU)):=by
 obtain⟨Xd,q1⟩:=ko r1 j (by simpa using h1);obtain⟨Xa,q2⟩:=ko r2 j (by simpa using h2);have m1:=pH n1 j;have m2:=pH n2 j;have dp:=la xs j;have:=eqAt_reads (pd (xs.getD j .eU)) (pd (ys.getD j .eU)) A s _ _ _ _ q1 q2 (ky _ m1) (ky _ m2) (by lia);rw [t6 _ _ m1 m2] at this;simpa using this
theorem zo:∀ (n:Nat) (sh:nV) (a b:D) (A:dS) (s:aA) (u v:Value) (as bs:List Addr),(pd a).depth<=n->da sh a=true->da sh b=true->nr a=true->nr b=true->Reads s.heap u (pd a) as->Reads s.heap v (pd b) bs->A.units+n < cLine->Ah A s u v (oX a b):=by
 intro n;induction n using Nat.strongRecOn with
 | _ n ih =>
 intro sh a b A s u v as bs hn h1 h2 n1 n2 r1 r2 hu;cases sh with
 | int =>
  first | obtain⟨_,rfl⟩:=dO h1 | obtain⟨_,rfl⟩:=dM h1 | obtain⟨_,rfl⟩:=dN h1
  first | obtain⟨_,rfl⟩:=dO h2 | obtain⟨_,rfl⟩:=dM h2 | obtain⟨_,rfl⟩:=dN h2
  cases r1; cases r2;intro prog w E Q hq;exact HT.ET A s _ _ _ _ prog w E Q hq
 | tup l =>
  first | obtain⟨_,rfl⟩:=dO h1 | obtain⟨_,rfl⟩:=dM h1 | obtain⟨_,rfl⟩:=dN h1
  first | obtain⟨_,rfl⟩:=dO h2 | obtain⟨_,rfl⟩:=dM h2 | obtain⟨_,rfl⟩:=dN h2
  rename_i xs ys;have n1:qj xs=true:=n1;have n2:qj ys=true:=n2;cases r1 with
  | tuple k1 k2 k3 k4 =>
   cases r2 with
   | tuple m1 m2 m3 m4 =>
    rename_i p o vs c p' o' ws c';have hd:(pd (.tup xs)).depth=cA (lL xs)+1:=rfl;obtain⟨n',rfl⟩:∃ n',n=n'+1:=⟨n - 1,by lia⟩;have z1:=readsAll_len k4;have z2:=readsAll_len m4;have e1:vs.size=xs.length:=by simpa using z1
    have e2:ws.size=ys.length:=by simpa using z2
    have base:=Iq (A:=A) (s:=s) (e:=fun j=>iN (xs.getD j .eU) (ys.getD j .eU)) (lt:=fun j=>oX (xs.getD j .eU) (ys.getD j .eU)) ⟨_,k1,k2,_,k3⟩ ⟨_,m1,m2,_,m3⟩ (by lia) (fun j j1 j2=>by
     refine⟨Dv k4 m4 n1 n2 (by show A.units+1+_ < _; lia) j j1 j2,?_⟩;obtain⟨Xd,q1⟩:=ko k4 j (by simpa using j1);obtain⟨Xa,q2⟩:=ko m4 j (by simpa using j2);obtain⟨sj,hsj,g1,g2⟩:=rF (l:=l) (ds:=xs) h1 j (by lia);obtain⟨sj',ZR,g1',WY⟩:=rF (l:=l) (ds:=ys) h2 j (by lia);rw [g2] at WY; cases WY;have dp:=la xs j;have:=ih n' (by lia) sj (xs.getD j .eU) (ys.getD j .eU) A.in1 s _ _ _ _ (by lia) g1 g1' (pH n1 j) (pH n2 j) q1 q2 (by show A.units+1+n' < cLine; lia);simpa using this)
    have fin:=oO xs ys (min xs.length ys.length) 0 (cQ _) rfl;rw [e1,e2,fin] at base;exact base
 | lst l =>
  first | obtain⟨_,rfl⟩:=dO h1 | obtain⟨_,rfl⟩:=dM h1 | obtain⟨_,rfl⟩:=dN h1
  first | obtain⟨_,rfl⟩:=dO h2 | obtain⟨_,rfl⟩:=dM h2 | obtain⟨_,rfl⟩:=dN h2
  rename_i xs ys;have n1:qj xs=true:=n1;have n2:qj ys=true:=n2;cases r1 with
  | list k1 k2 k3 k4 =>
   cases r2 with
   | list m1 m2 m3 m4 =>
    rename_i p o vs c p' Xd o' ws c' Xa;have hd:(pd (.dQ xs)).depth=cA (lL xs)+1:=rfl;obtain⟨n',rfl⟩:∃ n',n=n'+1:=⟨n - 1,by lia⟩;have z1:=readsAll_len k4;have z2:=readsAll_len m4;have e1:vs.size=xs.length:=by simpa using z1
    have e2:ws.size=ys.length:=by simpa using z2
    have base:=LY (A:=A) (s:=s) (e:=fun j=>iN (xs.getD j .eU) (ys.getD j .eU)) (lt:=fun j=>oX (xs.getD j .eU) (ys.getD j .eU)) ⟨_,k1,k2,_,k3⟩ ⟨_,m1,m2,_,m3⟩ (by lia) (fun j j1 j2=>by
     refine⟨Dv k4 m4 n1 n2 (by show A.units+1+_ < _; lia) j j1 j2,?_⟩;obtain⟨Xd,q1⟩:=ko k4 j (by simpa using j1);obtain⟨Xa,q2⟩:=ko m4 j (by simpa using j2);have dp:=la xs j;have:=ih n' (by lia) l (xs.getD j .eU) (ys.getD j .eU) A.in1 s _ _ _ _ (by lia) (rG (s:=l) (ds:=xs) h1 j (by lia)) (rG (s:=l) (ds:=ys) h2 j (by lia)) (pH n1 j) (pH n2 j) q1 q2 (by show A.units+1+n' < cLine; lia);simpa using this)
    have fin:=oO xs ys (min xs.length ys.length) 0 (cQ _) rfl;rw [e1,e2,fin] at base;exact base
end K2
end
section
namespace K2
open PySem PySem.Spec PyProof.Rows L2 PySem.W
section
variable {prog:bN} {w:World} {A:dS} {E:Value->aA->Prop} {s:aA}
theorem NW {at':Addr} {bZ:List Value} {n:Nat} {P:PySem.Fin->aA->Prop} (Mn:s.heap.get? at'=some (yd "list" bZ.toArray n)) (AR:bZ.length < 2)
  (done:P (.done (.ret .none)) { s with heap:=sortedHeap s.heap at' bZ bZ.toArray }):wpAny (model prog w) A (Builtin.«list.sort» ⟨[.ref at'],[]⟩) P E s:=by
 rw [list_sort_plain];have lt':at' < s.heap.objs.size:=bh Mn;refine ah (listItems_at Mn rfl (ah (listUpdate_at Mn rfl ?_)));obtain⟨c,hc⟩:∃ c,(s.heap.update at' (ji fun _=>#[])).get? at'=some (yd "list" #[] c):=⟨_,get?_update_seq Mn (fun _=>#[])⟩;refine ah (seqEpoch_at hc rfl (ah (wpAny_newTuple (ah (wpAny_newList (fe ?_))))));have h6:(((s.heap.update at' (ji fun _=>#[])).push (yd "tuple" bZ.toArray 0)).push (yd "list" #[] 0)).get? at'=some (yd "list" #[] c):=by
  rw [Heap.get?_push_ne _ _ _ (by rw [size_push',D4]; exact bQ (Nat.lt_succ_of_lt lt')),Heap.get?_push_ne _ _ _ (by rw [D4]; exact bQ lt')];exact hc
 show wpAny (model prog w) A _ P E { s with heap:=((s.heap.update at' (ji fun _=>#[])).push (yd "tuple" bZ.toArray 0)).push (yd "list" #[] 0) };dsimp only;have sz2:bZ.toArray.size < 2:=by simpa using AR
 rw [if_pos sz2,if_pos sz2];refine ah (aE ?_);rw [StateT.run_pure];refine ah (aE ?_);dsimp only;have es:(bZ.toArray.zip bZ.toArray).map (·.2)=bZ.toArray:=by
  apply Array.toList_inj.mp;simp [List.map_snd_zip]
 refine ah (seqEpoch_at h6 rfl (ah (listUpdate_at h6 rfl ?_ (hsz2:=by rw [show (arrOf (SortSt.mk' general' (bZ.toArray.zip bZ.toArray) #[] 7 none)).map (·.2)=bZ.toArray from es,c6]; simp; lia))));simp only [bne_self_eq_false,ar,if_false];refine aE ?_;rw [show (arrOf (SortSt.mk' general' (bZ.toArray.zip bZ.toArray) #[] 7 none)).map (·.2)=bZ.toArray from es];exact done
theorem HJ{l:Addr}{bZ:List Value}{Q:Value->aA->Prop}(hl:s.heap.IsList l bZ.toArray)(AR:bZ.length < 2)
  (done:Q (.ref (s.heap.objs.size+1)) { s with heap:=sortedAll s.heap bZ bZ.toArray }):wpAny (model prog w) A (call (.builtin "sorted") [.ref l]) Q E s:=by
 refine Calls.call_function_entry kind_sorted plain_sorted entry_sorted (args_sorted1 _) ?_;unfold Builtin.«sorted»;refine ah (m:=checkCount "sorted" 1 1 _) (aE (ah (collect_list hl (ah (wpAny_newList ?_)))));have e1:((s.heap.push (yd "list" #[] 0)).update s.heap.objs.size (ji (·++bZ.toArray))).objs.size=s.heap.objs.size+1:=by rw [D4,size_push']
 have e2:(((s.heap.push (yd "list" #[] 0)).update s.heap.objs.size (ji (·++bZ.toArray))).push (yd "list" bZ.toArray 0)).get? (s.heap.objs.size+1)=some (yd "list" bZ.toArray 0):=by
  rw [<-e1]; exact bH _ rfl
 show wpAny _ _ _ _ _ { s with heap:=((s.heap.push (yd "list" #[] 0)).update s.heap.objs.size (ji (·++bZ.toArray))).push (yd "list" bZ.toArray 0) };rw [e1];refine ah (fe (dj slot_list_sort ⟨_,e2,rfl⟩ entry_list_sort (NW e2 AR ⟨_,rfl,?_⟩) (args_list_sort _)));exact aE ⟨_,rfl,done⟩
end
section
open PySem.SeqAt
noncomputable def Qd(A:dS)(s:aA)(y x:Value)(b:Bool):Prop :=
 ∀ (prog:bN) (w:World) (E:Value->aA->Prop) (Q:Bool->aA->Prop),Q b s->wpAny (model prog w) A (oneLt' true y x) Q E s
theorem Ie{A:dS}{s:aA}{l b:Addr}{xs ys:Array Value}{e lt:Nat->Bool}(hl:s.heap.IsList l xs)(hb:s.heap.IsList b ys)(hu:A.units < cLine)
  (he:∀ j (h1:j < xs.size) (h2:j < ys.size),EqAt A.in1 s xs[j] ys[j] (e j)/\Ah A.in1 s xs[j] ys[j] (lt j)):Qd A s (.ref l) (.ref b) (sW e lt xs.size ys.size (min xs.size ys.size) 0):=by
 intro prog w E Q hq;obtain⟨⟨cls,dd,data,sl⟩,ho,hc,n,hd⟩:=id hl;obtain⟨⟨P5,He,data2,JX⟩,FI,BH,n2,hd2⟩:=id hb;simp only at hc hd BH hd2;subst hc hd BH hd2;rw [oneLt'_eq];simp only [if_true];refine ah (wpAny_cRoomFor hu (ah (Jx (T:="list") ⟨_,ho,rfl⟩ uw ?_)));exact Hl uw ⟨_,ho,rfl⟩ Li (JH _ _) (Bz l b xs ys n n2 dd He sl JX e lt) ⟨ho,FI,he,uv hq⟩
theorem E6{A:dS}{s:aA}{l b:Addr}{xs ys:Array Value}{e lt:Nat->Bool}(hl:s.heap.IsTuple l xs)(hb:s.heap.IsTuple b ys)(hu:A.units < cLine)
  (he:∀ j (h1:j < xs.size) (h2:j < ys.size),EqAt A.in1 s xs[j] ys[j] (e j)/\Ah A.in1 s xs[j] ys[j] (lt j)):Qd A s (.ref l) (.ref b) (sW e lt xs.size ys.size (min xs.size ys.size) 0):=by
 intro prog w E Q hq;obtain⟨⟨cls,dd,data,sl⟩,ho,hc,n,hd⟩:=id hl;obtain⟨⟨P5,He,data2,JX⟩,FI,BH,n2,hd2⟩:=id hb;simp only at hc hd BH hd2;subst hc hd BH hd2;rw [oneLt'_eq];simp only [if_true];refine ah (wpAny_cRoomFor hu (ah (Jx (T:="tuple") ⟨_,ho,rfl⟩ lS ?_)));exact Hl lS ⟨_,ho,rfl⟩ sS (qL _ _) (yp l b xs ys n n2 dd He sl JX e lt) ⟨ho,FI,he,uv hq⟩
theorem FC{n:Nat}{A:dS}{s:aA}{xs ys:List D}{vs ws:Array Value}{as bs:List Addr}(r1:g8 s.heap vs.toList (lL xs) as)(r2:g8 s.heap ws.toList (lL ys) bs)(n1:qj xs=true)(n2:qj ys=true)(hd:cA (lL xs)<=n)
  (hu:A.units+n < cLine) (hs:∀ j,j < xs.length->j < ys.length->∃ sh,da sh (xs.getD j .eU)=true/\da sh (ys.getD j .eU)=true) (j:Nat) (h1:j < vs.size) (h2:j < ws.size) :
  EqAt A s vs[j] ws[j] (iN (xs.getD j .eU) (ys.getD j .eU))/\Ah A s vs[j] ws[j] (oX (xs.getD j .eU) (ys.getD j .eU)):=by
 have z1:=readsAll_len r1;have z2:=readsAll_len r2;have e1:vs.size=xs.length:=by simpa using z1
 have e2:ws.size=ys.length:=by simpa using z2
 refine⟨Dv r1 r2 n1 n2 (by lia) j h1 h2,?_⟩;obtain⟨Xd,q1⟩:=ko r1 j (by simpa using h1);obtain⟨Xa,q2⟩:=ko r2 j (by simpa using h2);obtain⟨sh,g1,g2⟩:=hs j (by lia) (by lia);have dp:=la xs j;have:=zo n sh (xs.getD j .eU) (ys.getD j .eU) A s _ _ _ _ (by lia) g1 g2 (pH n1 j) (pH n2 j) q1 q2 hu;simpa using this
theorem xa{n:Nat}{sh:nV}{a b:D}{A:dS}{s:aA}{u v:Value}{as bs:List Addr}(hn:(pd a).depth<=n)(h1:da sh a=true)(h2:da sh b=true)(n1:nr a=true)(n2:nr b=true)(r1:Reads s.heap u (pd a) as)(r2:Reads s.heap v (pd b) bs)
  (hu:A.units+n < cLine):Qd A s u v (oX a b):=by
 cases sh with
 | int =>
  first | obtain⟨_,rfl⟩:=dO h1 | obtain⟨_,rfl⟩:=dM h1 | obtain⟨_,rfl⟩:=dN h1
  first | obtain⟨_,rfl⟩:=dO h2 | obtain⟨_,rfl⟩:=dM h2 | obtain⟨_,rfl⟩:=dN h2
  cases r1; cases r2;intro prog w E Q hq;exact oneLt_int hq
 | tup l =>
  first | obtain⟨_,rfl⟩:=dO h1 | obtain⟨_,rfl⟩:=dM h1 | obtain⟨_,rfl⟩:=dN h1
  first | obtain⟨_,rfl⟩:=dO h2 | obtain⟨_,rfl⟩:=dM h2 | obtain⟨_,rfl⟩:=dN h2
  rename_i xs ys;have n1:qj xs=true:=n1;have n2:qj ys=true:=n2;cases r1 with
  | tuple k1 k2 k3 k4 =>
   cases r2 with
   | tuple m1 m2 m3 m4 =>
    rename_i p o vs c p' o' ws c';have hd:(pd (.tup xs)).depth=cA (lL xs)+1:=rfl;obtain⟨n',rfl⟩:∃ n',n=n'+1:=⟨n - 1,by lia⟩;have z1:=readsAll_len k4;have z2:=readsAll_len m4;have e1:vs.size=xs.length:=by simpa using z1
    have e2:ws.size=ys.length:=by simpa using z2
    have base:=E6 (A:=A) (s:=s) ⟨_,k1,k2,_,k3⟩ ⟨_,m1,m2,_,m3⟩ (by lia) (FC (A:=A.in1) (n:=n') k4 m4 n1 n2 (by lia) (by show A.units+1+n' < cLine; lia) fun j j1 j2=>by
     obtain⟨sj,hsj,g1,g2⟩:=rF (l:=l) (ds:=xs) h1 j j1;obtain⟨sj',ZR,g1',WY⟩:=rF (l:=l) (ds:=ys) h2 j j2;rw [g2] at WY; cases WY;exact⟨sj,g1,g1'⟩)
    have fin:=oO xs ys (min xs.length ys.length) 0 (cQ _) rfl;rw [e1,e2,fin] at base;exact base
 | lst l =>
  first | obtain⟨_,rfl⟩:=dO h1 | obtain⟨_,rfl⟩:=dM h1 | obtain⟨_,rfl⟩:=dN h1
  first | obtain⟨_,rfl⟩:=dO h2 | obtain⟨_,rfl⟩:=dM h2 | obtain⟨_,rfl⟩:=dN h2
  rename_i xs ys;have n1:qj xs=true:=n1;have n2:qj ys=true:=n2;cases r1 with
  | list k1 k2 k3 k4 =>
   cases r2 with
   | list m1 m2 m3 m4 =>
    rename_i p o vs c p' Xd o' ws c' Xa;have hd:(pd (.dQ xs)).depth=cA (lL xs)+1:=rfl;obtain⟨n',rfl⟩:∃ n',n=n'+1:=⟨n - 1,by lia⟩;have z1:=readsAll_len k4;have z2:=readsAll_len m4;have e1:vs.size=xs.length:=by simpa using z1
    have e2:ws.size=ys.length:=by simpa using z2
    have base:=Ie (A:=A) (s:=s) ⟨_,k1,k2,_,k3⟩ ⟨_,m1,m2,_,m3⟩ (by lia) (FC (A:=A.in1) (n:=n') k4 m4 n1 n2 (by lia) (by show A.units+1+n' < cLine; lia) fun j j1 j2=>⟨l,rG (s:=l) (ds:=xs) h1 j j1,rG (s:=l) (ds:=ys) h2 j j2⟩);have fin:=oO xs ys (min xs.length ys.length) 0 (cQ _) rfl;rw [e1,e2,fin] at base;exact base
theorem C0{prog:bN}{w:World}{A:dS}{s:aA}{b fin:Bool}{Q:Bool->aA->Prop}{n:Nat}(hu:A.units+n < cLine):∀ (l:List nV) (xs ys:List D) (vs ws:List Value) (as bs:List Addr) (i:Nat),fu l xs=true->fu l ys=true->qj xs=true->qj ys=true ->
  g8 s.heap vs (lL xs) as->g8 s.heap ws (lL ys) bs->cA (lL xs)<=n->fin=false->Q (md xs ys) s->KatLex prog w A b fin Q (vs.zip ws) i s:=by
 intro l xs;induction xs generalizing l with
 | nil =>
  intro ys vs ws as bs i h1 h2 n1 n2 r1 r2 hd hf hq;cases r1;cases l with
  | nil =>
   cases ys with
   | nil=>cases r2; subst hf; exact hq
   | cons _ _=>cases h2
  | cons _ _=>cases h1
 | cons x xs ih =>
  intro ys vs ws as bs i h1 h2 n1 n2 r1 r2 hd hf hq;cases l with
  | nil=>cases h1
  | cons sh l =>
  cases ys with
  | nil=>cases h2
  | cons y ys =>
  cases r1 with
  | @cons v vs _ _ _ _ a1 a2 =>
  cases r2 with
  | @cons u ws _ _ _ _ b1 b2 =>
  have h1:(da sh x&&fu l xs)=true:=h1;have h2:(da sh y&&fu l ys)=true:=h2;have n1:(nr x&&qj xs)=true:=n1;have n2:(nr y&&qj ys)=true:=n2;rw [aN] at h1 h2 n1 n2;have hd1:(pd x).depth<=n/\cA (lL xs)<=n:=by
   have hd:cA (pd x :: lL xs)<=n:=hd;simp only [cA] at hd;lia
  show KatLex prog w A b fin Q ((v,u) :: vs.zip ws) i s;have eq:=eqAt_reads (pd x) (pd y) A s _ _ _ _ a1 b1 (ky _ n1.1) (ky _ n2.1) (by lia);rw [t6 _ _ n1.1 n2.1] at eq;refine kat_cons (eq prog w _ _ ?_);rw [mZ] at hq;cases q:iN x y with
  | true =>
   rw [q,if_pos rfl] at hq;exact kat_yes (ih l ys vs ws _ _ (i+1) h1.2 h2.2 n1.2 n2.2 a2 b2 hd1.2 hf hq)
  | false =>
   rw [q,if_neg (by simp)] at hq;refine kat_no ?_;cases c:(b&&i == 0) with
   | true=>exact xa hd1.1 h1.1 h2.1 n1.1 n2.1 a1 b1 hu prog w _ Q hq
   | false=>exact kat_one v u (zo n sh x y A s _ _ _ _ hd1.1 h1.1 h2.1 n1.1 n2.1 a1 b1 hu prog w _ _ hq)
end
noncomputable def lq{α:Type}(n:Nat)(P:α->Prop):KasT α->Prop
 | .ret a=>P a
 | .ask i j k=>i < n/\j < n/\∀ b,lq n P (k b)
theorem lq.bind{α β:Type}{n:Nat}{P:α->Prop}{P':β->Prop}{f:α->KasT β}:∀ {t:KasT α},lq n P t->(∀ a,P a->lq n P' (f a))->lq n P' (t.bind f)
 | .ret a,q,h=>h a q
 | .ask i j k,⟨q1,q2,q3⟩,h=>⟨q1,q2,fun b=>lq.bind (q3 b) h⟩
theorem Fx{α:Type}{n:Nat}{lt:Nat->Nat->Bool}{cmp:Nat->Nat->(Bool->aA->Prop)->aA->Prop}{s:aA}{Q:α->aA->Prop}(hc:∀ i j,i < n->j < n->∀ C:Bool->aA->Prop,C (lt i j) s->cmp i j C s) :
  ∀ (t:KasT α),lq n (fun _=>True) t->Q (iK lt t) s->t.kasWp cmp Q s
 | .ret a,_,q=>q
 | .ask i j k,⟨h1,h2,h3⟩,q=>hc i j h1 h2 _ (Fx hc (k (lt i j)) (h3 _) q)
noncomputable def Bd(n:Nat)(p:Array Nat):Prop:=0 < n/\∀ x∈p,x < n
theorem Bd.at{n:Nat}{p:Array Nat}(h:Bd n p)(k:Nat):p.getD k 0 < n:=by
 by_cases hk:k < p.size
 ·have:p.getD k 0=p[k]:=by simp [JL,hk]
  rw [this]; exact h.2 _ (Array.getElem_mem hk)
 ·have:p.getD k 0=0:=by simp [JL,hk]
  rw [this]; exact h.1
theorem Bd.perm{n:Nat}{p q:Array Nat}(h:Bd n p)(hp:q.Perm p):Bd n q:=⟨h.1,fun x hx=>h.2 x (hp.mem_iff.mp hx)⟩
theorem DN{n:Nat}{p:Array Nat}(h:Bd n p):∀ (f k:Nat),lq n (fun _=>True) (qH p f k)
 | 0,k=>trivial
 | f+1,k=>⟨h.at _,h.at _,fun b=>by
  show lq n _ (if b=true then v5 k else qH p f (k+1));split
  ·trivial
  ·exact DN h f (k+1)⟩
theorem vN{n:Nat}:∀ (f:Nat) (p:Array Nat) (k q:Nat),Bd n p->lq n (fun r=>Bd n r.1) (lx f p k q)
 | 0,p,k,q,h=>h
 | f+1,p,k,q,h=>⟨h.at _,h.at _,fun b=>by
  show lq n _ (if b=true then (if q > 0 then lx f (gT p (k - (q+1)) k) (k+1) 0 else lx f p (k+1) 0) else .ask (p.getD (k - 1) 0) (p.getD k 0) fun d=>if d=true then .ret (p,k,q) else lx f p (k+1) (q+1));split
  ·split
   ·exact vN f _ _ _ (h.perm (kn _ _ _))
   ·exact vN f _ _ _ h
  ·refine⟨h.at _,h.at _,fun d=>?_⟩;show lq n _ (if d=true then v5 (p,k,q) else lx f p (k+1) (q+1));split
   ·exact h
   ·exact vN f _ _ _ h⟩
theorem GD{n:Nat}{p:Array Nat}(h:Bd n p)(k m:Nat):lq n (fun r=>Bd n r.2) (Nq k m p) :=
 lq.bind (DN (h.perm (kn _ _ _)) _ _) fun _ _=>h.perm (kn _ _ _)
theorem vM{n:Nat}{p:Array Nat}(h:Bd n p)(k m:Nat):lq n (fun r=>Bd n r.2) (yf k m p) :=
 lq.bind (vN _ _ _ _ h) fun r hr=>by
  split
  ·exact GD (hr.perm (kn _ _ _)) _ _
  ·exact GD hr _ _
theorem MH{n:Nat}{p:Array Nat}(h:Bd n p)(m:Nat):lq n (fun r=>Bd n r.2) (kas_count m p) :=
 lq.bind (DN h _ _) fun k _=>by
  split
  ·exact h
  ·split
   ·refine⟨h.at _,h.at _,fun b=>?_⟩;show lq n _ (if b=true then v5 (k,p) else yf k m (gT p 0 k));split
    ·exact h
    ·exact vM (h.perm (kn _ _ _)) _ _
   ·exact vM h _ _
theorem wN{n:Nat}{p:Array Nat}(h:Bd n p)(k:Nat):∀ (f l r:Nat),lq n (fun _=>True) (kg p k f l r)
 | 0,l,r=>trivial
 | f+1,l,r=>by
  show lq n _ (if l>=r then v5 l else .ask (p.getD k 0) (p.getD ((l+r) / 2) 0) fun c=>if c=true then kg p k f l ((l+r) / 2) else kg p k f ((l+r) / 2+1) r);split
  ·trivial
  ·refine⟨h.at _,h.at _,fun b=>?_⟩;show lq n _ (if b=true then kg p k f l ((l+r) / 2) else kg p k f ((l+r) / 2+1) r);split
   ·exact wN h k f _ _
   ·exact wN h k f _ _
theorem K8{n:Nat}:∀ (f:Nat) (p:Array Nat) (k:Nat),Bd n p->lq n (fun _=>True) (kas_bin f p k)
 | 0,p,k,h=>trivial
 | f+1,p,k,h=>lq.bind (wN h k _ _ _) fun l _=>K8 f _ _ (h.perm (bubble_perm _ _ _))
theorem Qc{n:Nat}(h:0 < n):lq n (fun _=>True) (kas_sort n) :=
 lq.bind (MH ⟨h,fun x hx=>by simpa using hx⟩ n) fun r hr=>by
  split
  ·exact K8 _ _ _ hr
  ·trivial
end K2
end
section
namespace K2
open PySem PySem.Spec PyProof.Rows L2 PySem.W
mutual
theorem wZ{h h':Heap}(hk:∀ b o vs n,o.data=.seq vs n->h.get? b=some o->h'.get? b=some o):∀ (d:D) {v:Value} {as:List Addr},nr d=true->Reads h v (pd d) as->Reads h' v (pd d) as
 | .eU,_,_,_,r=>by cases r; exact .none
 | .bl b,_,_,_,r=>by cases r; exact .bool b
 | .int i,_,_,_,r=>by cases r; exact .int i _
 | .str x,_,_,_,r=>by cases r; exact .str x _
 | .tup ds,_,_,n,r=>by
  cases r with
  | tuple h1 h2 h3 h4=>exact .tuple (hk _ _ _ _ h3 h1) h2 h3 (mQ hk ds n h4)
 | .dQ ds,_,_,n,r=>by
  cases r with
  | list h1 h2 h3 h4=>exact .list (hk _ _ _ _ h3 h1) h2 h3 (mQ hk ds n h4)
 | .kI _,_,_,n,_=>by cases n
 | .ref _,_,_,n,_=>by cases n
 | .exc _,_,_,n,_=>by cases n
theorem mQ{h h':Heap}(hk:∀ b o vs n,o.data=.seq vs n->h.get? b=some o->h'.get? b=some o):∀ (ds:List D) {vs:List Value} {as:List Addr},qj ds=true->g8 h vs (lL ds) as->g8 h' vs (lL ds) as
 | [],_,_,_,r=>by cases r; exact .nil
 | d :: ds,_,_,n,r=>by
  have n:(nr d&&qj ds)=true:=n;rw [aN] at n;cases r with
  | cons r1 r2=>exact .cons (wZ hk d n.1 r1) (mQ hk ds n.2 r2)
end
mutual
theorem HK(G:Gp):∀ (sh:nV) (d:D) (n:Nat),da sh d=true->S5 sh<=n->Sn G n d d
 | .int,.int i,n,_,_=>.int i
 | .tup l,.tup ds,n,h,hn=>by
  have hn:PR l+1<=n:=hn;obtain⟨m,rfl⟩:∃ m,n=m+1:=⟨n - 1,by lia⟩;exact JU G l ds m h (by lia)
 | .lst s,.dQ ds,n,h,hn=>by
  have hn:S5 s+1<=n:=hn;obtain⟨m,rfl⟩:∃ m,n=m+1:=⟨n - 1,by lia⟩;exact JV G s ds m h (by lia)
theorem JU(G:Gp):∀ (l:List nV) (ds:List D) (m:Nat),fu l ds=true->PR l<=m->Sn G (m+1) (.tup ds) (.tup ds)
 | [],[],m,_,_=>.HD
 | s :: l,d :: ds,m,h,hm=>by
  have h:(da s d&&fu l ds)=true:=h;have hm:max (S5 s) (PR l)<=m:=hm;rw [aN] at h;exact .qR (HK G s d m h.1 (by lia)) (JU G l ds m h.2 (by lia))
theorem JV(G:Gp):∀ (s:nV) (ds:List D) (m:Nat),gX s ds=true->S5 s<=m->Sn G (m+1) (.dQ ds) (.dQ ds)
 | s,[],m,_,_=>.LG
 | s,d :: ds,m,h,hm=>by
  have h:(da s d&&gX s ds)=true:=h;rw [aN] at h;exact .Bm (HK G s d m h.1 hm) (JV G s ds m h.2 hm)
end
theorem getD_at{α:Type}(xs:List α)(d:α){i:Nat}(h:i < xs.length):xs.getD i d=xs[i]:=by
 rw [gR,ay h]; rfl
theorem zh{α:Type}(xs:List α)(d:α):(c9 xs.length).map (fun i=>xs.getD i d)=xs:=by
 refine List.ext_getElem (by simp) fun i h1 h2=>?_;rw [i6,lz];exact getD_at _ _ h2
theorem Es{h:Heap}{s1:nV}{l:List nV}:∀ (zs:List D) (vs:List Value),(∀ z∈zs,da (.tup (s1 :: l)) z=true)->(∀ i,i < vs.length->∃ as,Reads h (vs.getD i .none) (pd (zs.getD i .eU)) as)->vs.length=zs.length ->
  ∃ fs,KatTups h vs fs/\fs.length=vs.length/\∀ f∈fs,∃ d as,da s1 d=true/\Reads h f (pd d) as:=by
 intro zs;induction zs with
 | nil =>
  intro vs _ _ h;have:vs=[]:=List.length_eq_zero_iff.mp h;subst this;exact⟨[],trivial,rfl,fun _ h=>by cases h⟩
 | cons z zs ih =>
 intro vs hs hr hl;cases vs with
 | nil=>cases hl
 | cons v vs =>
  obtain⟨fs,h1,h2,h3⟩:=ih vs (fun z hz=>hs z (aO _ hz)) (fun i hi=>by
   obtain⟨as,r⟩:=hr (i+1) (by simpa using hi);exact⟨as,by simpa using r⟩) (by simpa using hl)
  obtain⟨as,r⟩:=hr 0 (by simp);have hz:=hs z (by simp);simp only [List.getD_cons_zero] at r;cases z <;> first | (cases hz; done) | skip
  rename_i ds;cases ds with
  | nil=>cases hz
  | cons d ds =>
   have hz:(da s1 d&&fu l ds)=true:=hz;rw [aN] at hz;cases r with
   | tuple k1 k2 k3 k4 =>
    rename_i p o ws c;have k5:g8 h ws.toList (pd d :: lL ds) as:=k4;cases q:ws.toList with
    | nil=>rw [q] at k5; cases k5
    | cons f rest =>
     rw [q] at k5;cases k5 with
     | cons r1 r2 =>
      have hf:ws[0]?=some f:=by
       have:ws.toList[0]?=some f:=by rw [q]; rfl
       simpa using this
      refine⟨f :: fs,.cons k1 k2 k3 hf h1,by simp [h2],fun g hg=>?_⟩;rcases List.mem_cons.mp hg with rfl | hg
      ·exact⟨d,_,hz.1,r1⟩
      ·exact h3 g hg
noncomputable def NJ:nV->Value
 | .int=>.type "int"
 | .tup _=>.type "tuple"
 | .lst _=>.type "list"
theorem Bx{M:Model}{h:Heap}{sh:nV}{d:D}{v:Value}{as:List Addr}(hs:da sh d=true)(r:Reads h v (pd d) as):Looks M h (typeOf v) (NJ sh):=by
 cases sh with
 | int =>
  cases d <;> first | (cases hs; done) | skip
  cases r;exact .now
 | tup l =>
  cases d <;> first | (cases hs; done) | skip
  cases r with
  | tuple k1 k2 k3 k4 =>
   rename_i p o ws c;have:Looks M h (typeOf (.ref p)) o.cls:=(Looks.ld k1).andThen .now;rw [k2] at this; exact this
 | lst l =>
  cases d <;> first | (cases hs; done) | skip
  cases r with
  | list k1 k2 k3 k4 =>
   rename_i p o ws c as;have:Looks M h (typeOf (.ref p)) o.cls:=(Looks.ld k1).andThen .now;rw [k2] at this; exact this
theorem L7{prog:bN}{w:World}{A:dS}{s:aA}{E:Value->aA->Prop}{Q:Bool->aA->Prop}{n:Nat}{b:Bool}{l:List nV}{a c:D}{u v:Value}{as bs:List Addr}(hn:(pd a).depth<=n+1)(h1:da (.tup l) a=true)(h2:da (.tup l) c=true)(n1:nr a=true)(n2:nr c=true)
  (r1:Reads s.heap u (pd a) as) (r2:Reads s.heap v (pd c) bs) (hu:A.units+n < cLine) (hq:Q (oX a c) s):wpAny (model prog w) A (keyLt' (tuples' b) u v) Q E s:=by
 first | obtain⟨_,rfl⟩:=dO h1 | obtain⟨_,rfl⟩:=dM h1 | obtain⟨_,rfl⟩:=dN h1
 first | obtain⟨_,rfl⟩:=dO h2 | obtain⟨_,rfl⟩:=dM h2 | obtain⟨_,rfl⟩:=dN h2
 rename_i xs ys;cases r1 with
 | tuple k1 k2 k3 k4 =>
  cases r2 with
  | tuple m1 m2 m3 m4 =>
   rename_i p o vs c p' o' ws c';have z1:=readsAll_len k4;have z2:=readsAll_len m4;have e1:vs.size=xs.length:=by simpa using z1
   have e2:ws.size=ys.length:=by simpa using z2
   have el:∀ (l:List nV) (xs ys:List D),fu l xs=true->fu l ys=true->xs.length=ys.length:=by
    intro l;induction l with
    | nil =>
     intro xs ys h1 h2;cases xs with
     | nil=>cases ys with
      | nil=>rfl
      | cons _ _=>cases h2
     | cons _ _=>cases h1
    | cons s l ih =>
     intro xs ys h1 h2;cases xs with
     | nil=>cases h1
     | cons x xs =>
      cases ys with
      | nil=>cases h2
      | cons y ys =>
       have h1:(da s x&&fu l xs)=true:=h1;have h2:(da s y&&fu l ys)=true:=h2;rw [aN] at h1 h2;rw [aj,aj,ih xs ys h1.2 h2.2]
   have hd:(pd (.tup xs)).depth=cA (lL xs)+1:=rfl;refine kat_lt k1 k3 m1 m3 (C0 (n:=n) hu l xs ys _ _ _ _ 0 h1 h2 n1 n2 k4 m4 (by lia) (decide_eq_false (by rw [e1,e2,el l xs ys h1 h2]; lia)) hq)
section
variable {X:Cx}
theorem LZ{x:D}{G:Gp}{zs:List D}(ty:Er x G)(hi:itemsOf x G=some zs):rD x G=some zs:=by
 cases x <;> first | exact ty.elim | exact hi
theorem vG (hc:X.calm=true) (hu:X.A.units+64 < cLine):uo X (.builtin "sorted") vJ:=by
 intro pins s σ H G xs ds us Q I ab rx rd q;unfold vJ at q;split at q
 ·rename_i x;obtain⟨sh,zs,ty,hi,AN,cL,h64,q⟩:=q;obtain⟨w1,rfl,EJ⟩:=rd.one;obtain⟨u,rfl,ru⟩:=rx.one;obtain⟨l,vs,bZ,rfl,rv,rs,hl,_⟩:=qc I ab ru EJ (LZ ty hi);have hl1:=rv.length;have BE:=rs.length;have hsz:bg=16777216:=c6;have hz:∀ z∈zs,da sh z=true:=fun z h=>List.all_eq_true.mp AN z h;by_cases AR:bZ.length < 2
  ·refine HJ hl AR ?_;obtain⟨e,he⟩:=sortedAll_at s.heap bZ bZ.toArray;have hp:H (s.heap.objs.size+1)=none:=I.cL.fresh (Nat.le_succ _);have es:qS zs=zs:=uF sh hz (.refl _) (by
    match zs,BE,AR with
    | [],_,_=>exact .nil
    | [z],_,_=>exact List.pairwise_singleton _ _
    | _ :: _ :: _,h,f=>exact absurd f (by rw [<-hl1,h]; simp))
   rw [es] at q;refine⟨.ref (s.heap.objs.size+1),upd H (s.heap.objs.size+1) (.lst vs),.ref _,_,I.laid (t':=s.toks) (fun b o e=>sortedAll_old e) (Nat.le_succ _) ?_,.Ii ab hp rs,rfl,.ref _,q _ (ab.free hp)⟩;exact⟨by lia,bZ,e,rv,he⟩
  ·obtain⟨m,F0⟩:=I.fr;have nz:0 < zs.length:=by lia
   have nL:∀ b o vs n,o.data=.seq vs n->s.heap.get? b=some o->b≠X.env.locals:=fun b o vs n e1 e2 z=>by
    obtain⟨o',es,ep,D6,Ay,_⟩:=F0.ns;rw [z,D6] at e2; cases e2; rw [Ay] at e1; cases e1
   unfold Uk at cL;rw [aN] at cL;have hdp:S5 sh<=7:=of_decide_eq_true cL.1;have sn:∀ z∈zs,Sn G 7 z z:=fun z h=>HK G sh z 7 (hz z h) hdp;refine kat_sorted F0 Fd hl (by lia) (by lia) fun Dd e1 h' F N xA=>?_;obtain⟨kk,ns⟩:=wz I F0 F fun p hp=>N p (aO _ hp);have Ct:∀ i,i < bZ.length->∃ as,Reads h' (bZ.getD i .none) (pd (zs.getD i .eU)) as:=fun i hi=>by
    have i1:i < zs.length:=by lia
    have i2:i < vs.length:=by lia
    have g1:zs.getD i .eU=zs[i]:=getD_at _ _ i1;have g2:bZ.getD i .none=bZ[i]:=getD_at _ _ hi;obtain⟨v,hv,YG⟩:=rs.get (ay i1);obtain⟨u,Kx,YD⟩:=rv.get hv;rw [ay hi] at Kx;cases Kx;obtain⟨as,r⟩:=(jc I ab (sn _ (fT i1))).1 v _ YG YD;rw [g1,g2];exact⟨as,wZ (fun b o vs n e1 e2=>kk b o (nL b o vs n e1 e2) e2) _ (sn _ (fT i1)).nr r⟩
   have Be:∀ i,i < zs.length->da sh (zs.getD i .eU)=true:=fun i hi=>by rw [getD_at _ _ hi]; exact hz _ (fT hi)
   have XB:∀ i,i < zs.length->nr (zs.getD i .eU)=true:=fun i hi=>by rw [getD_at _ _ hi]; exact(sn _ (fT hi)).nr
   have dpz:∀ i,i < zs.length->(pd (zs.getD i .eU)).depth<=7:=fun i hi=>by rw [getD_at _ _ hi]; exact DC (sn _ (fT hi))
   let zz:Nat->D:=fun i=>if i < zs.length then zs.getD i .eU else zs.getD 0 .eU
   have VB:∀ i,da sh (zz i)=true:=fun i=>by
    show da sh (if i < zs.length then zs.getD i .eU else zs.getD 0 .eU)=true;split
    ·exact Be i (by assumption)
    ·exact Be 0 nz
   let lt:Nat->Nat->Bool:=fun i j=>oX (zz i) (zz j)
   have swo:MN lt:=⟨fun i j h=>Bw sh (VB i) (VB j) h,fun i j k h1 h2=>zk sh (VB i) (VB j) (VB k) h1 h2⟩;have lte:∀ i j,i < zs.length->j < zs.length->lt i j=oX (zs.getD i .eU) (zs.getD j .eU):=fun i j hi hj=>by
    show oX (if i < zs.length then _ else _) (if j < zs.length then _ else _)=_;rw [if_pos hi,if_pos hj]
   obtain⟨p,ep,FH,psz,hup⟩:=N1 swo (n:=bZ.length) (by lia);have hA2:X.A.in1.in1.units=X.A.units+2:=rfl;have ask:∀ κ:SortKind,(∀ i j,i < bZ.length->j < bZ.length->∀ C:Bool->aA->Prop,C (oX (zs.getD i .eU) (zs.getD j .eU)) { s with heap:=h' }->kas_ask X.prog X.w X.A.in1.in1 κ bZ i j C { s with heap:=h' }) ->
     (kas_sort bZ.length).kasWp (kas_ask X.prog X.w X.A.in1.in1 κ bZ) (fun p VP=>KasFin X.base X.env.locals m Dd e1 (p.toList.map fun i=>bZ.getD i gj) (fun s3=>um X pins σ H G Q (.ref Dd) s3) VP) { s with heap:=h' }:=by
    intro κ hk;refine Fx (lt:=lt) (n:=bZ.length) (fun i j i1 i2 C hC=>hk i j i1 i2 C (by rw [<-lte i j (by lia) (by lia)]; exact hC)) _ (Qc (by lia)) ?_;rw [ep];refine KasFin.intro (g:=fun o=>(Dd,o) :: sP X.base s.heap X.env.locals) F N (.head (fun q hq z=>absurd (xA q hq) (by rw [z]; exact j8 _))) fun h2 c F2 N2=>?_;obtain⟨k2,ns2⟩:=wz I F0 F2 fun p hp=>N2 p (aO _ hp);have hD:s.heap.get? Dd=none:=by
     have nD:=N _ c4;cases qd:s.heap.get? Dd with
     | none=>rfl
     | some o=>exact absurd (xA _ (xf nD.2.1 nD.2.2 qd)) (j8 _)
    have hp:H Dd=none:=KJ I.cL hD;have rvp:Vals (p.toList.map fun i=>vs.getD i .eU) (p.toList.map fun i=>bZ.getD i gj):=by
     have:∀ (ps:List Nat),(∀ i∈ps,i < bZ.length)->Vals (ps.map fun i=>vs.getD i .eU) (ps.map fun i=>bZ.getD i gj):=by
      intro ps;induction ps with
      | nil=>intro _; exact .nil
      | cons i ps ih =>
       intro hh;have hi:=hh i (by simp);refine .cons ?_ (ih fun j hj=>hh j (aO _ hj));have i2:i < vs.length:=by lia
       obtain⟨u,Kx,YD⟩:=rv.get (ay i2);rw [ay hi] at Kx;cases Kx;show RelV (vs.getD i .eU) (bZ.getD i .none);rw [getD_at _ _ i2,getD_at _ _ hi]; exact YD
     exact this _ fun i hi=>by simpa using FH.mem_iff.mp hi
    have rsp:bt X.K H (p.toList.map fun i=>vs.getD i .eU) (p.toList.map fun i=>zs.getD i .eU):=by
     have:∀ (ps:List Nat),(∀ i∈ps,i < bZ.length)->bt X.K H (ps.map fun i=>vs.getD i .eU) (ps.map fun i=>zs.getD i .eU):=by
      intro ps;induction ps with
      | nil=>intro _; exact .nil
      | cons i ps ih =>
       intro hh;have hi:=hh i (by simp);refine .cons ?_ (ih fun j hj=>hh j (aO _ hj));have i2:i < vs.length:=by lia
       have i1:i < zs.length:=by lia
       obtain⟨v,hv,r⟩:=rs.get (ay i1);rw [ay i2] at hv;cases hv;show cE X.K H (vs.getD i .eU) (zs.getD i .eU);rw [getD_at _ _ i2,getD_at _ _ i1]; exact r
     exact this _ fun i hi=>by simpa using FH.mem_iff.mp hi
    have es:qS zs=p.toList.map fun i=>zs.getD i .eU:=by
     refine uF sh hz ?_ ?_
     ·have h1:(p.toList.map fun i=>zs.getD i .eU).Perm ((c9 zs.length).map fun i=>zs.getD i .eU):=by
       have:bZ.length=zs.length:=by lia
       rw [<-this];exact FH.map _
      rw [zh] at h1;exact h1
     ·rw [A9,List.pairwise_iff_getElem];intro i j hi hj Mh;have g1:gA p i=p.toList[i]:=by
       have:i < p.size:=by simpa using hi
       simp [gA,JL,this]
      have g2:gA p j=p.toList[j]:=by
       have:j < p.size:=by simpa using hj
       simp [gA,JL,this]
      have bi:p.toList[i] < bZ.length:=by simpa using FH.mem_iff.mp (fT hi)
      have bj:p.toList[j] < bZ.length:=by simpa using FH.mem_iff.mp (fT hj)
      have:=hup i j (by lia) (by have:j < p.toList.length:=hj; rw [fk,psz] at this; exact this);rw [g1,g2,lte _ _ (by lia) (by lia)] at this;exact this
    rw [es] at q;have ln:(p.toList.map fun i=>vs.getD i .eU).length<=bg:=by rw [au,fk,psz]; lia
    refine⟨.ref Dd,upd H Dd (.lst (p.toList.map fun i=>vs.getD i .eU)),.ref _,_,Inv.SI (t':=s.toks) I k2 ns2 hD ?_,.Ii ab hp rsp,rfl,.ref _,q _ (ab.free hp)⟩;exact⟨ln,_,c,rvp,(N2 _ c4).1⟩
   have gen:∀ i j,i < bZ.length->j < bZ.length->∀ C:Bool->aA->Prop,C (oX (zs.getD i .eU) (zs.getD j .eU)) { s with heap:=h' }->wpAny (model X.prog X.w) X.A.in1.in1 (keyLt' oneType' (bZ.getD i gj) (bZ.getD j gj)) C (fun _ _=>False) { s with heap:=h' }:=by
    intro i j hi hj C hC;obtain⟨as,r1⟩:=Ct i hi;obtain⟨bs,r2⟩:=Ct j hj;rw [keyLt'_oneType];exact xa (s:={ s with heap:=h' }) (n:=7) (dpz i (by lia)) (Be i (by lia)) (Be j (by lia)) (XB i (by lia)) (XB j (by lia)) r1 r2 (by rw [hA2]; lia) X.prog X.w _ C hC
   have lk:∀ v∈bZ,Looks (model X.prog X.w) h' (typeOf v) (NJ sh):=fun v hv=>by
    obtain⟨i,hi,rfl⟩:=xE hv;obtain⟨as,r⟩:=Ct i hi;rw [getD_at _ _ hi] at r;exact Bx (Be i (by lia)) r
   cases sh with
   | int=>exact kas_kind (s:={ s with heap:=h' }) (T:=.type "int") (by lia) lk rfl rfl (ask oneType' gen)
   | lst ss=>exact kas_kind (s:={ s with heap:=h' }) (T:=.type "list") (by lia) lk rfl rfl (ask oneType' gen)
   | tup ss =>
    cases ss with
    | nil=>exact absurd cL.2 (by simp)
    | cons s1 ss =>
     obtain⟨fs,t1,t2,t3⟩:=Es (h:=h') zs bZ hz Ct (by lia);refine kat_kind (s:={ s with heap:=h' }) (T:=NJ s1) t1 (by lia) (fun f hf=>?_) (by cases s1 <;> rfl) (ask _ fun i j hi hj C hC=>?_)
     ·obtain⟨d,as,h1,h2⟩:=t3 f hf;exact Bx h1 h2
     ·obtain⟨as,r1⟩:=Ct i hi;obtain⟨bs,r2⟩:=Ct j hj;exact L7 (s:={ s with heap:=h' }) (n:=7) (by have:=dpz i (by lia); lia) (Be i (by lia)) (Be j (by lia)) (XB i (by lia)) (XB j (by lia)) r1 r2 (by rw [hA2]; lia) hC
 ·exact q.elim
end
end K2
end
section
namespace L2
open PySem PySem.Spec PyProof.Rows
section
variable {prog:bN} {w:World} {A:dS} {E:Value->aA->Prop} {s:aA}
theorem Iy{d:Addr}{od:Obj}{es:Array fE}{c:Nat}{Q:Value->aA->Prop}(ns:(d == dn)=false)(D5:s.heap.get? d=some od)(ex:od.ExactDict)(dd:od.data=.dict es c)
  (hQ:Q (.ref s.heap.objs.size) { s with heap:=s.heap.push { cls:=.type "dict_keyiterator",data:=.fields #[.ref d,.int 0 0,.int es.size 0,.int c 0] } }):wpAny (model prog w) A (Jy (.ref d)) Q E s:=by
 have ty:s.TypeIs (.ref d) "dict":=⟨od,D5,ex.1⟩;refine nW ty F.slot_dict_iter (dj F.slot_dict_iter ty F.entry_dict_iter ?_ (F.args_dict_iter_1 _));unfold Builtin.«dict.__iter__» Builtin.Dict.dictSlotNone;refine ah (ah (x9 ty (show wpAny _ _ (pure (fU d)) _ _ s from aE ?_)));show wpAny _ _ (kT d >>= _) _ _ s;unfold kT;rw [if_neg (fun z=>by rw [ns] at z; cases z)];refine ah (aE (ah (gO D5 dd (ah (mG D5 dd ?_)))));refine ah (dP (aE ⟨_,rfl,"dict_keyiterator",_,⟨_,bH _ rfl,rfl⟩,F.slot_dict_keyiterator_next.lookup,?_⟩));simpa [Ec] using hQ
theorem L6{it d:Addr}{od:Obj}{es:Array fE}{i c:Nat}{Q:Option Value->aA->Prop}(ki:s.heap.IsKeyIter it d i es.size c)(D5:s.heap.get? d=some od)(dd:od.data=.dict es c)(hi:i < es.size)
  (hQ:∀ h',h'.IsKeyIter it d (i+1) es.size c->fJ it s.heap h'->Q (some es[i].key) { s with heap:=h' }):wpAny (model prog w) A (Ed (.ref it)) Q E s:=by
 obtain⟨o,ho,hc,hf⟩:=id ki;unfold Ed;refine ah (Eb (jj (name:=vX "__next__") ki.typeIs jJ (dj jJ ki.typeIs Hu ?_ (GY _))));refine ah (aE (ah (ah ?_)))
 first | refine ah (jA ki.typeIs (aE ?_)) | refine ah (lI ki.typeIs (aE ?_))
 refine ah (oz ho hf ?_);have Ub:fj "dict_keyiterator" = false:=by decide
 rw [Ub];show wpAny _ _ (if (fU d == gj)=true then _ else _) _ _ s;rw [if_neg (fun z=>by cases z)];refine ah (aE (ah (gO D5 dd ?_)));rw [if_neg (by simp)];refine ah (aE (ah (mG D5 dd ?_)));rw [if_neg (by simp)];refine aE ?_;dsimp only;rw [if_neg (show ¬ ((i:Int) < 0) from Int.not_lt.mpr (qE i)),df,Hx hi];dsimp only;refine ah ?_
 first | refine ah (jA ki.typeIs (aE ?_)) | refine ah (lI ki.typeIs (aE ?_))
 refine ah (wpAny_isOneOf_keyiter ki.typeIs ?_);show wpAny _ _ (setField (.ref it) 1 (Ec ((i:Int)+1)) >>= _) _ _ s;refine ah (QB ho hf (by simp) ?_);have ki2:(s.heap.update it (Obj.mapFields (·.setIfInBounds 1 (Ec ((i:Int)+1))))).IsKeyIter it d (i+1) es.size c :=
  ⟨_,vT _ ho (Obj.isFreed_of_fields (Obj.data_mapFields hf _)),(Obj.cls_mapFields ..).trans hc,by rw [Obj.data_mapFields hf]; simp [Ec]⟩
 refine ah (fe (ah (wpAny_isOneOf_keyiter (s:={ s with heap:=s.heap.update it (Obj.mapFields (·.setIfInBounds 1 (Ec ((i:Int)+1)))) }) ki2.typeIs ?_)));show wpAny _ _ (pure es[i].key) _ _ _;exact aE (aE ⟨_,rfl,aE (hQ _ ki2 (jI ..))⟩)
theorem OU{it d:Addr}{od:Obj}{es:Array fE}{i c:Nat}{Q:Option Value->aA->Prop}(calm:A.handled=none)(ki:s.heap.IsKeyIter it d i es.size c)(D5:s.heap.get? d=some od)(dd:od.data=.dict es c)(hi:es.size<=i)
  (hQ:∀ h',Heap.ExtBut it s.heap h'->Q none { s with heap:=h' }):wpAny (model prog w) A (Ed (.ref it)) Q E s:=by
 obtain⟨o,ho,hc,hf⟩:=id ki;unfold Ed;refine ah (Eb (jj (name:=vX "__next__") ki.typeIs jJ (dj jJ ki.typeIs Hu ?_ (GY _))));refine ah (aE (ah (ah ?_)))
 first | refine ah (jA ki.typeIs (aE ?_)) | refine ah (lI ki.typeIs (aE ?_))
 refine ah (oz ho hf ?_);have Ub:fj "dict_keyiterator" = false:=by decide
 rw [Ub];show wpAny _ _ (if (fU d == gj)=true then _ else _) _ _ s;rw [if_neg (fun z=>by cases z)];refine ah (aE (ah (gO D5 dd ?_)));rw [if_neg (by simp)];refine ah (aE (ah (mG D5 dd ?_)));rw [if_neg (by simp)];refine aE ?_;dsimp only;rw [if_neg (show ¬ ((i:Int) < 0) from Int.not_lt.mpr (qE i)),df,M5 hi];dsimp only;refine ah ?_
 first | refine ah (jA ki.typeIs (aE ?_)) | refine ah (lI ki.typeIs (aE ?_))
 show wpAny _ _ (setField (.ref it) 0 .none >>= _) _ _ s;refine ah (QB ho hf (by simp) ?_);show wpAny _ _ (newExc (.type "StopIteration") [] >>= _) _ _ _;refine ah ?_;simp only [newExc,newTuple];refine ah (dP (ah (m:=A6 _ _) (wpAny_of_eq (a:=gj) (by first | rfl | (simp only [A6]; rfl)) (dP ?_ (by size_fits)))) (by size_fits));simp only [raiseNew];refine ah (wpAny_handled ?_);rw [show A.in1.handled=none from calm];refine ah (aE (wpAny_throw ?_));refine ah (o6 (T:="StopIteration") (b:=true) ⟨_,bH _ rfl,rfl⟩ isSubtype_stop (?_));exact aE (hQ _ (((jI ..).extBut.push _).push _))
end
noncomputable def Itk(a:Addr)(o:Obj)(es:Array fE)(ks:List V):It :=
 ⟨fun i H=>(∃ u,H a=some (.kd o u))/\i < es.size,fun i H v H'=>H'=H/\ks[i]?=some v,fun i H=>(∃ u,H a=some (.kd o u))/\es.size<=i⟩
theorem Lq{P:bN}{w:World}{K:ai}{tg:Expr}(a it:Addr)(o:Obj)(es:Array fE)(c:Nat)(ks:List V)(dd:o.data=.dict es c)(hk:∀ i (h:i < es.size),∃ v,ks[i]?=some v/\RelV v es[i].key) :
  Turn P w K tg (Itk a o es ks) [it] it (fun i h=>h.IsKeyIter it a i es.size c) where
 mem:=by simp
 obj:=fun i h st b hb=>by
  have e:b=it:=by simpa using hb
  subst e;obtain⟨o',q,_,d⟩:=st;exact⟨o',q,fun v z=>by rw [d] at z; cases z⟩
 keep:=(by rintro i h h' ⟨o',q,r⟩ k; exact⟨o',k it (by simp) o' q,r⟩)
 item:=by
  intro X hP hw hK hc i pins s σ H E I hf st hg;subst hP hw hK;obtain⟨⟨u,hu⟩,hi⟩:=hg;obtain⟨f0,f1,f2,f3,f4,f5⟩:=hf it (by simp);obtain⟨v,hv,rv⟩:=hk i hi;refine L6 st (I.cL a _ hu).1 dd hi fun h' Ha sb=>?_;have I1:Inv X pins σ H { s with heap:=h' }:=I.turned (t':=s.toks) (fun b o hb e=>(sb.2 b hb).trans e) f0 f1 f3 f4 f5;obtain⟨o',e,cl,d'⟩:=id Ha;exact⟨_,rfl,KG (s:={ s with heap:=h' }) e cl d' (by decide) ⟨v,H,I1,rv,⟨rfl,hv⟩,Ha,fun b hb=>(hf b hb).1⟩⟩
 done:=by
  intro X hP hw hK hc i pins s σ H E I hf st hg;subst hP hw hK;obtain⟨⟨u,hu⟩,hi⟩:=hg;obtain⟨f0,f1,f2,f3,f4,f5⟩:=hf it (by simp);exact OU (I.ok.hd hc) st (I.cL a _ hu).1 dd hi fun h' eb=>⟨rfl,I.turned (t':=s.toks) (fun b o hb e=>eb b o hb e) f0 f1 f3 f4 f5⟩
 self:=fun A i s Q E st h=>by
  refine nW st.typeIs JI (dj JI st.typeIs F.entry_dict_keyiterator_iter ?_ (F.args_dict_keyiterator_iter_1 _));show wpAny _ _ (ret (.ref it)) _ _ s;exact aE ⟨_,rfl,"dict_keyiterator",_,st.typeIs,F.slot_dict_keyiterator_next.lookup,h⟩
end L2
namespace K2
open PySem PySem.Spec PyProof.Rows L2
section
variable {X:Cx} {tg a:Expr} {ta:gI} {pos p:Pos}
theorem wm{α β:Type}{F:α->β->Prop}:∀ {l:List α} {m:List β},kF F l m->∀ i (h1:i < l.length) (h2:i < m.length),F l[i] m[i]:=by
 intro l m h;induction h with
 | nil=>intro i h1; exact absurd h1 (vZ i)
 | cons h t ih =>
  intro i h1 h2;cases i with
  | zero=>exact h
  | succ i=>exact ih i (ux h1) (ux h2)
theorem O1{P:bN}{w:World}{k:Key}{u:Value}(h:(cY P w).is k u=true):RelV (kV k) u:=by
 rcases eV h with ⟨i,t,rfl,rfl⟩ | ⟨x,t,rfl,rfl⟩
 ·exact⟨t,rfl⟩
 ·exact⟨t,rfl⟩
theorem mE.keys{K:ai}{H:Hp}:∀ {kv:List (Key×V)} {kvs:List (D×D)},mE K H kv kvs->kvs.map (·.1)=kv.map fun p=>eM p.1:=fun h =>
 mE.ind (motive:=fun kv kvs _=>kvs.map (·.1)=kv.map fun p=>eM p.1) rfl (fun _ _ ih=>congrArg (_ :: ·) ih) h
theorem mx.keys{K:ai}{H:Hp}:∀ {kv:List (List Key×V)} {kvs:List (D×D)},mx K H kv kvs->kvs.map (·.1)=kv.map fun p=>D.tup (p.1.map eM):=fun h =>
 mx.ind (motive:=fun kv kvs _=>kvs.map (·.1)=kv.map fun p=>D.tup (p.1.map eM)) rfl (fun _ _ ih=>congrArg (_ :: ·) ih) h
theorem EO{K:ai}{H:Hp}(k:Key):cE K H (kV k) (eM k):=by
 cases k with
 | inl i=>exact .int i
 | inr x=>exact .str x
theorem wa{K:ai}{H:Hp}:∀ (ks:List Key),bt K H (ks.map kV) (ks.map eM)
 | []=>.nil
 | k :: ks=>.cons (EO k) (wa ks)
theorem rq(ha:g6 X a ta):MP X tg a (ng ta):=by
 intro E pins s σ H τ G R hE I h;refine j9 ha hE I h fun x H1 d G1 v s1 I1 m1 r1 jM q1=>?_;unfold C3 at q1;have go:∀ (l:Addr) (o:Obj) (u:HO) (kvs:List (D×D)) (es:Array fE) (c:Nat) (ks:List V),(l == dn)=false->H1 l=some (.kd o u)->o.ExactDict->o.data=.dict es c->(∀ i (h:i < es.size),∃ v,ks[i]?=some v/\RelV v es[i].key)->ks.length=es.size ->
   bt X.K H1 ks (kvs.map (·.1))->R (kvs.map (·.1)) (fun _=>True) G1->wpAny (model X.prog X.w) X.A (Jy (.ref l)) (Jo X pins σ tg H G R) X.xe s1:=by
  intro l o u kvs es c ks ns hl ex dd hk hlen rs q;refine Iy ns (I1.inv.cL l _ hl).1 ex dd ?_;refine⟨s1.heap.objs.size,[s1.heap.objs.size],_,_,H1,G1,kvs.map (·.1),_,rfl,I1.inv.kept (t':=s1.toks) fun b o e=>aM _ e,m1,Lq l _ o es c ks dd hk,⟨_,bH _ rfl,rfl,rfl⟩,fun b hb=>?_,fun i H2 G2 k ab _=>?_,q⟩
  ·have e:b=s1.heap.objs.size:=by simpa using hb
   subst e;exact I1.inv.AO (aH _) (I1.inv.cL.fresh (aH _))
  ·have BE:=k.kd _ _ _ hl;have M9:=rs.mono k;refine⟨fun d hd=>?_,fun hle=>⟨⟨u,BE⟩,by rw [<-hlen,rs.length]; exact hle⟩⟩;obtain⟨v,hv,r⟩:=M9.get hd;have hi:i < es.size:=by rw [<-hlen]; exact(List.getElem?_eq_some_iff.mp hv).1
   refine⟨⟨⟨u,BE⟩,hi⟩,?_⟩;rintro x H3 ⟨e,y⟩;subst e;rw [hv] at y;cases y;exact⟨r,.refl ab⟩
 cases jM with
 | pA hq rs =>
  rename_i l o kv kvs;cases r1;obtain⟨z,ns,vs,rel,ob,es,ep,ho,ex,dd,hko,hp,nd⟩:=(I1.inv.cL l _ hq).2;have eo:ob=o:=by have:=(I1.inv.cL l _ hq).1; rw [ho] at this; exact bc this
  subst eo;have l1:es.size=vs.length:=by simpa using hp.length
  have l2:kv.length=vs.length:=iM rel;refine go l ob _ kvs es ep (kv.map fun p=>kV p.1) ns hq ex dd (fun i hi=>?_) (by rw [au]; lia) ?_ q1
  ·have i2:i < vs.length:=by lia
   have i3:i < kv.length:=by lia
   have g1:=(hp.get? (e:=es[i]) (k:=vs[i].1) (v:=vs[i].2) (by rw [ay (by simpa using hi)]; simp) (by rw [ay i2])).1;refine⟨kV kv[i].1,by simp [i3],?_⟩;have ek:kv[i].1=vs[i].1:=(wm rel i i3 i2).1;rw [ek];exact O1 g1
  ·rw [rs.keys];have:∀ (l:List (Key×V)),bt X.K H1 (l.map fun p=>kV p.1) (l.map fun p=>eM p.1):=by
    intro l;induction l with
    | nil=>exact .nil
    | cons p l ih=>exact .cons (EO p.1) ih
   exact this kv
 | pz hq rs =>
  rename_i l o kv kvs;cases r1;obtain⟨z,ns,xs,rel,ob,es,ep,ho,ex,dd,hl,nd⟩:=(I1.inv.cL l _ hq).2;have eo:ob=o:=by have:=(I1.inv.cL l _ hq).1; rw [ho] at this; exact bc this
  subst eo;have l1:=congrArg dH hl;rw [au,fk] at l1;refine go l ob _ kvs es ep (xs.map fun q=>V.ref q.2.1) ns hq ex dd (fun i hi=>?_) (by rw [au]; lia) ?_ q1
  ·have i2:i < xs.length:=by lia
   refine⟨.ref xs[i].2.1,by simp [i2],?_⟩;have:es[i]=entryOfKey (iW (cY X.prog X.w)) xs[i]:=by
    have:=congrArg (fun l=>l[i]?) hl;simp only [bI,ay i2] at this;simpa [hi] using this
   rw [this];rfl
  ·rw [rs.keys];have:∀ (kv:List (List Key×V)) (xs:List (List Key×Addr×Value)),kF (fun (p:List Key×V) (q:List Key×Addr×Value)=>p.1=q.1/\H1 q.2.1=some (.tup (p.1.map kV))/\RelV p.2 q.2.2) kv xs->bt X.K H1 (xs.map fun q=>V.ref q.2.1) (kv.map fun p=>D.tup (p.1.map eM)):=by
    intro kv xs r;induction r with
    | nil=>exact .nil
    | cons h _ ih=>exact .cons (.tup h.2.1 (wa _)) ih
   exact this kv xs rel
 | _=>exact q1.elim
end
end K2
end
section
namespace L2
open PySem PySem.Spec PyProof.Rows
section
variable {X:Cx}
noncomputable def Qm(i j:Int):Prop:=i.natAbs < 2 ^ 4000/\j.natAbs < 2 ^ 4000
theorem Qm.ok{i j:Int}(h:Qm i j):IntMulOk i j:=by
 have h1:=intBits_le h.1;have h2:=intBits_le h.2;unfold IntMulOk;intro z;rw [aN] at z;have z2:((Hv i+Hv j:Nat):Int) > (bitsLine:Int):=of_decide_eq_true z.2;have hb:8000<=bitsLine:=by decide
 lia
theorem Rm:MR X (jk .Mult) (rI Qm fun i j=>.int (i * j)):=Xx fun _ _ _ _ _ _ _ hc q=>mul_int q hc.ok
end
end L2
namespace K2
open PySem PySem.Spec PyProof.Rows L2
section
variable {X:Cx}
theorem y8:sY X (jk .Mult) Bn:=by
 intro pins s σ H G x y dx dy v u Q I ab rx ry dX dY q;cases dX with
 | int i =>
  cases dY with
  | int j=>exact gU (Rm pins s σ H _ _ v u (B7 X.K H G Q) I rx ry ⟨i,j,rfl,rfl,q.1,_,_,.refl ab,.int _,q.2⟩) fun _ _ z=>.of z
  | _=>exact bW q
 | _=>exact bW q
theorem DB{pins:List (Addr×Obj)}{σ:L2.St}{H:Hp}{s:aA}{G:Gp}{x:V}{d:D}{kvs:List (D×D)}(I:Inv X pins σ H s)(ab:lQ X.K H G)(rd:cE X.K H x d)(hd:vA d G=some kvs)(h1:vj kvs=true) :
  ∃ a kv vs,x=.ref a/\mE X.K H kv kvs/\kv.length<=bg/\(a == dn)=false/\KV kv vs/\s.heap.DictOf (cY X.prog X.w) a vs:=by
 have empty:∀ (a:Addr) (kv:List (List Key×V)),gc X.prog X.w H s.heap a (.dT kv)->mx X.K H kv kvs ->
   ∃ a' kv vs,V.ref a=.ref a'/\mE X.K H kv kvs/\kv.length<=bg/\(a' == dn)=false/\KV kv vs/\s.heap.DictOf (cY X.prog X.w) a' vs:=by
  intro a kv ok rs;cases rs with
  | nil =>
   obtain⟨z,hm,xs,rel,o,es,ep,ho,hx,Ay,hl,nd⟩:=ok;have hv:xs=[]:=by cases rel; rfl
   subst hv;have he:es=#[]:=by simpa using hl
   subst he;exact⟨a,[],[],rfl,.nil,cQ _,hm,.nil,o,#[],ep,ho,hx,Ay,(fun _ h=>by simp at h),.nil,cR⟩
  | cons _ _=>simp [vj,eS] at h1
 cases rd with
 | pA hq rs =>
  cases (show some _=some kvs from hd);obtain⟨z,hm,vs,rel,dd⟩:=tF I.cL (.inr ⟨_,hq⟩);exact⟨_,_,vs,rfl,rs,z,hm,rel,dd⟩
 | pz hq rs =>
  cases (show some _=some kvs from hd);exact empty _ _ (I.cL _ _ hq).2 rs
 | ref a =>
  unfold vA at hd;dsimp only at hd;split at hd
  ·rename_i kv' hg;cases hd;rcases ab a _ hg with ⟨kv,hv,rs⟩ | ⟨kv,hv,rs⟩
   ·obtain⟨z,hm,vs,rel,dd⟩:=BS I.cL hv;exact⟨a,kv,vs,rfl,rs,z,hm,rel,dd⟩
   ·exact empty a _ (I.cL _ _ hv) rs
  ·cases hd
 | _=>cases hd
theorem zW:uo X (.type "dict") B0:=by
 intro pins s σ H G xs ds us Q I ab rx rd q;unfold B0 at q;split at q
 ·rename_i x;obtain⟨kvs,hd,h1,hl,q⟩:=q;obtain⟨v,rfl,r⟩:=rd.one;obtain⟨a,kv,vs,rfl,rs,z,hm,rel,dd⟩:=DB I ab r hd h1;obtain⟨u,rfl,ru⟩:=rx.one;cases ru;refine kt_call_dict hm dd (by rw [<-rel.length]; exact z) fun h' BW hs=>?_;have hp:H s.heap.objs.size=none:=I.cL.fresh (aH _);refine⟨.ref _,upd H s.heap.objs.size (.dK kv),.ref _,_,I.laid (a:=s.heap.objs.size) (o:=.dK kv) (t':=s.toks) (fun b q hq=>?_) (aH _) (Dy z (beq_eq_false_iff_ne.mpr (gm (bQ I.big))) rel BW),.new ab hp (.dk cf (rs.mono (.new hp))),rfl,.ref _,q _ (ab.free hp)⟩;exact(hs.2 b (bQ (bh hq))).trans (aM _ hq)
 ·exact q.elim
theorem CU:Ju X "dict.get" Fp:=by
 intro pins s σ H G x d xs ds v us Q I ab rx rd M8 Ct q;unfold Fp at q;split at q
 ·rename_i k d';obtain⟨kvs,hd,h1,hk,q⟩:=q;obtain⟨w,w2,rfl,EJ,QU⟩:=Ct.two;obtain⟨u1,u2,rfl,LF,N7⟩:=vals2 M8;obtain⟨a,kv,vs,rfl,rs,z,hm,rel,dd⟩:=DB I ab rd hd h1;cases rx;obtain⟨kk,rfl⟩:=vk hk;have ey:=uO EJ;subst ey;refine yi fB dd.typeIs JG (Hr _ _ _) (meets_dict_get_default (cY X.prog X.w) a (zv LF) hm u2) ⟨_,dd.mapOf,?_⟩;have ro:=(rel.val kk).getD N7;rcases rs.look kk with ⟨v',d2,e1,e2,r⟩ | ⟨e1,e2⟩
  ·rw [e1] at ro;rw [e2] at q;exact⟨v',H,d2,G,I.tok _,.refl ab,ro,r,q⟩
  ·rw [e1] at ro;rw [e2] at q;exact⟨w2,H,d',G,I.tok _,.refl ab,ro,QU,q⟩
 ·exact q.elim
end
end K2
end
section
namespace L2
open PySem PySem.Spec PyProof.Rows
noncomputable def Iti(a:Addr)(o:Obj)(kv:List (Key×V)):It :=
 ⟨fun i H=>(∃ u,H a=some (.kd o u))/\i < kv.length,fun i H v H'=>∃ T p,v=.ref T/\H T=none/\H'=upd H T (.tup [kV p.1,p.2])/\kv[i]?=some p,fun i H=>(∃ u,H a=some (.kd o u))/\kv.length<=i⟩
theorem yY{α β:Type}{F:α->β->Prop}:∀ {l:List α} {m:List β},kF F l m->∀ i (h1:i < l.length) (h2:i < m.length),F l[i] m[i]
 | _,_,.cons h _,0,_,_=>h
 | _,_,.cons _ t,i+1,h1,h2=>yY t i (by simpa using h1) (by simpa using h2)
theorem Ma{P:bN}{w:World}{k:Key}{u:Value}(h:(cY P w).is k u=true):RelV (kV k) u:=by
 rcases eV h with ⟨i,t,rfl,rfl⟩ | ⟨x,t,rfl,rfl⟩
 ·exact⟨t,rfl⟩
 ·exact⟨t,rfl⟩
theorem lM:entryFor table "dict_itemiterator.__iter__" = some Builtin.«dict_keyiterator.__iter__» :=
 entryFor_alias (id':="dict_keyiterator.__iter__") (by rw [fastTable_eq_tree]; kernel_rfl) (by decide +kernel) (by decide +kernel) (by rw [fastTable_eq_tree]; kernel_rfl)
theorem HC{P:bN}{w:World}{K:ai}{elts:List Expr}{kk:Nat}{pos:Pos}(a it:Addr)(o:Obj)(kv:List (Key×V))(vs:List (Key×Value))(ep:Nat)(rel:KV kv vs)(hD:∀ h:Heap,h.get? a=some o->h.DictAt (cY P w) a vs ep) :
  Turn P w K (.Tuple elts kk pos) (Iti a o kv) [it] it (fun i h=>∃ ok ov,oh h it a i vs.length ep ok ov) where
 mem:=by simp
 obj:=fun i h ⟨ok,ov,st⟩ b hb=>by
  have e:b=it:=by simpa using hb
  subst e;exact⟨_,st,fun v z=>by cases z⟩
 keep:=fun i h h' ⟨ok,ov,st⟩ k=>⟨ok,ov,k it (by simp) _ st⟩
 item:=by
  intro X hP hw hK hc i pins s σ H E I hf st hg;obtain⟨ok,ov,st⟩:=st;subst hP hw hK;obtain⟨⟨u,hu⟩,hi⟩:=hg;have hl:=rel.length;have WN:i < vs.length:=by lia
  have hx:vs[i]?=some (vs[i].1,vs[i].2):=ay WN;have rp:=yY rel i hi WN;have UM:H s.heap.objs.size=none:=I.cL.fresh (aH _);have WM:it≠s.heap.objs.size:=bQ (bh st);refine wpAny_pyNext_items_item st (hD _ (I.cL a _ hu).1) hx fun key h' hk ho hT hsz kk=>?_;refine⟨_,rfl,?_⟩;have rk:RelV (kV kv[i].1) key:=by rw [rp.1]; exact Ma hk
  have I1:Inv X pins σ (upd H s.heap.objs.size (.tup [kV kv[i].1,kv[i].2])) { s with heap:=h',toks:=s.toks } :=
   I.xI (fp:=[it]) hf (fun b o hb q=>kk b o (fun z=>hb (by simp [z])) q) (aH _)
    ⟨by show 2<=bg; decide,[key,vs[i].2],.cons rk (.cons rp.2 .nil),⟨_,hT,rfl,_,rfl⟩⟩
  refine Nl (s:={ s with heap:=h' }) ho fun h2 UG FG=>?_;have f1:∀ b∈[it],nI X pins (upd H s.heap.objs.size (.tup [kV kv[i].1,kv[i].2])) b:=fun b hb=>(hf b hb).upd (by rw [List.mem_singleton.mp hb]; exact WM);have I2:Inv X pins σ (upd H s.heap.objs.size (.tup [kV kv[i].1,kv[i].2])) { s with heap:=h2,toks:=s.toks } :=
   Inv.r8 (s:={ s with heap:=h',toks:=s.toks }) (t':=s.toks) (fp:=[it]) I1 f1 fun b o hb q=>(FG.2 b (fun z=>hb (by simp [z]))).trans q
  exact⟨.ref s.heap.objs.size,_,I2,rfl,⟨_,kv[i],rfl,UM,rfl,ay hi⟩,⟨_,_,UG⟩,fun b hb=>(f1 b hb).1⟩
 done:=by
  intro X hP hw hK hc i pins s σ H E I hf st hg;obtain⟨ok,ov,st⟩:=st;subst hP hw hK;obtain⟨⟨u,hu⟩,hi⟩:=hg;have hl:=rel.length;obtain⟨f0,f1,f2,f3,f4,f5⟩:=hf it (by simp);exact wpAny_pyNext_items_end (I.ok.hd hc) st (hD _ (I.cL a _ hu).1) (vR (by lia)) fun h' eb=>⟨rfl,I.turned (t':=s.toks) (fun b o hb e=>eb b o hb e) f0 f1 f3 f4 f5⟩
 self:=fun A i s Q E ⟨ok,ov,st⟩ h=>by
  have ty:s.TypeIs (.ref it) "dict_itemiterator":=⟨_,st,rfl⟩;refine nW ty jq (dj jq ty lM ?_ (Ei _));show wpAny _ _ (ret (.ref it)) _ _ s;exact aE ⟨_,rfl,"dict_itemiterator",_,ty,F.slot_dict_itemiterator_next.lookup,h⟩
end L2
namespace K2
open PySem PySem.Spec PyProof.Rows L2
section
variable {X:Cx}
theorem TX{pins:List (Addr×Obj)}{σ:L2.St}{H:Hp}{s:aA}{x:V}{kvs:List (D×D)}(I:Inv X pins σ H s)(rd:cE X.K H x (.kI kvs))(h1:vj kvs=true) :
  ∃ a ob u kv vs ep,x=.ref a/\H a=some (.kd ob u)/\mE X.K H kv kvs/\(a == dn)=false/\KV kv vs/\∀ h:Heap,h.get? a=some ob->h.DictAt (cY X.prog X.w) a vs ep:=by
 cases rd with
 | pA hq rs =>
  rename_i a o kv;obtain⟨z,hm,vs,rel,ob,es,ep,ho,r⟩:=(I.cL a _ hq).2;have eo:ob=o:=by have:=(I.cL a _ hq).1; rw [ho] at this; exact bc this
  subst eo;exact⟨a,ob,_,kv,vs,ep,rfl,hq,rs,hm,rel,fun h e=>⟨ob,es,e,r⟩⟩
 | pz hq rs =>
  rename_i a o kv;cases rs with
  | nil =>
   obtain⟨z,hm,xs,rel,ob,es,ep,ho,hx,Ay,hl,nd⟩:=(I.cL a _ hq).2;have eo:ob=o:=by have:=(I.cL a _ hq).1; rw [ho] at this; exact bc this
   subst eo;have hv:xs=[]:=by cases rel; rfl
   subst hv;have he:es=#[]:=by simpa using hl
   subst he;exact⟨a,ob,_,[],[],ep,rfl,hq,.nil,hm,.nil,fun h e=>⟨ob,#[],e,hx,Ay,(fun _ h=>by simp at h),.nil,cR⟩⟩
  | cons _ _=>simp [vj,eS] at h1
theorem mE.item{K:ai}{H:Hp}:∀ {kv:List (Key×V)} {kvs:List (D×D)} {i:Nat} {q:D×D},mE K H kv kvs->kvs[i]?=some q->∃ p,kv[i]?=some p/\q.1=eM p.1/\cE K H p.2 q.2
 | _,_,_,_,.nil,e=>by simp at e
 | _,_,0,_,.cons r _,e=>by simp at e; subst e; exact⟨_,rfl,rfl,r⟩
 | _,_,i+1,q,.cons _ t,e=>by
  obtain⟨p,h1,h2⟩:=mE.item (i:=i) (q:=q) t (by simpa using e);exact⟨p,by simpa using h1,h2⟩
variable {elts:List Expr} {kk:Nat} {AG apos kb:Pos} {o:Expr} {to:gI}
theorem LH{K:ai}{H:Hp}(k:Key):cE K H (kV k) (eM k):=by
 cases k with
 | inl i=>exact .int i
 | inr x=>exact .str x
theorem oJ (ho:g6 X o to) (zB:autoParam (qw o "items" X.env (eval o X.env)=eval o X.env) Ar._auto_1) (zA:autoParam ((apos.endLine == kb.line)=true) Ar._auto_1) :
  MP X (.Tuple elts kk AG) (.Call (.Attribute o "items" apos) [] [] kb) (kR to):=by
 intro E pins s σ H τ G R hE I h;refine vV zB zA (j9 ho hE I h fun x H1 d G1 v s1 I1 m1 r1 jM q1=>?_);cases d with
 | kI kvs =>
  obtain⟨h1,q1⟩:=q1;obtain⟨t1,t2⟩:=mJ pins s1 σ H1 G1 x _ v I1.inv I1.ab r1 jM trivial;obtain⟨a,ob,u,kv,vs,ep,rfl,hu,rs,hm,rel,hD⟩:=TX I1.inv jM h1;cases r1;refine⟨"dict","dict.items",cU,fW,qK,t1,t2,lK rfl (xu ?_)⟩;have dA:=hD _ (I1.inv.cL a _ hu).1;refine yi fW t1 qx (o8 _) (meets_dict_items (cY X.prog X.w) a hm) ⟨⟨vs,dA.dictOf⟩,?_⟩;have I2:Inv X pins σ H1 { s1 with heap:=s1.heap.push { cls:=.type "dict_items",data:=.fields #[.ref a] } }:=I1.inv.kept (t':=s1.toks) fun b o e=>aM _ e;refine wpAny_pyIter_items (s:={ s1 with heap:=s1.heap.push { cls:=.type "dict_items",data:=.fields #[.ref a] } }) (kvs:=vs) (ep:=ep) ⟨_,bH _ rfl,rfl,rfl⟩ (dA.push _) ?_;refine⟨_,[_],_,_,H1,G1,kvs.map (fun p=>.tup [p.1,p.2]),_,rfl,I2.kept (t':=s1.toks) fun b o e=>aM _ e,m1,HC a _ ob kv vs ep rel hD,⟨.none,.none,bH _ rfl⟩,fun b hb=>?_,fun i H2 G2 k ab _=>?_,q1⟩
  ·have e:=List.mem_singleton.mp hb;subst e;exact I2.AO (aH _) (I2.cL.fresh (aH _))
  ·have BE:=k.kd _ _ _ hu;have M9:=rs.mono k;have hlen:kv.length=kvs.length:=rs.length;refine⟨fun d hd=>?_,fun hle=>⟨⟨u,BE⟩,by rw [hlen]; simpa using hle⟩⟩;rw [bI] at hd;cases Hd:kvs[i]? with
   | none=>rw [Hd] at hd; cases hd
   | some q =>
    rw [Hd] at hd;obtain⟨p,hp,ek,rp⟩:=M9.item Hd;have hi:i < kv.length:=(List.getElem?_eq_some_iff.mp hp).1;refine⟨⟨⟨u,BE⟩,hi⟩,fun x H3 ⟨T,p',ex,hT,e3,hy⟩=>?_⟩;subst ex e3;rw [hp] at hy;cases hy;have ed:D.tup [q.1,q.2]=d:=by simpa using hd
    subst ed;rw [ek];exact⟨.tup cf (.cons (LH _) (.cons (rp.mono (.new hT)) .nil)),.Mj ab hT⟩
 | _=>exact q1.elim
end
end K2
end
section
namespace K2
open PySem PySem.Spec PyProof.Rows L2
section
variable {X:Cx}
theorem zO{K:ai}{H:Hp}:∀ {kv:List (Key×V)} {l:List (Int×Int)},mE K H kv (bD l)->kv=l.map fun p=>((.inl p.1:Key),V.int p.2)
 | _,[],h=>by cases h; rfl
 | _,p :: l,h=>by
  have h:mE K H _ ((D.int p.1,D.int p.2) :: bD l):=h;generalize e:(D.int p.1,D.int p.2) :: bD l=t at h;cases h with
  | nil=>cases e
  | cons r rs =>
   rename_i k v d r' t';injection e with e1 e2
   injection e1 with e3 e4
   subst e2 e4;cases r;rw [zO rs];cases k with
   | inl i=>cases e3; rfl
   | inr x=>cases e3
theorem CZ:∀ {l:List (Int×Int)} {vs:List (Key×Value)},KV (l.map fun p=>((.inl p.1:Key),V.int p.2)) vs->∃ ts:List Tok,ts.length=l.length/\vs=(l.zip ts).map fun q=>((.inl q.1.1:Key),fV q.1.2 q.2)
 | [],_,.nil=>⟨[],rfl,rfl⟩
 | p :: l,_,.cons h r=>by
  obtain⟨ts,h1,h2⟩:=CZ r;rename_i q vs;obtain⟨k,v⟩:=q;obtain⟨e1,t,e2⟩:=h;cases e1;cases e2;exact⟨t :: ts,by simp [h1],by rw [h2]; rfl⟩
theorem Ce{l:List (Int×Int)}{ts:List Tok}(h:ts.length=l.length)(k:Int):(cV l k=none/\nZ ((l.zip ts).map fun q=>((.inl q.1.1:Key),fV q.1.2 q.2)) (.inl k)=none)\/∃ v t,cV l k=some v/\nZ ((l.zip ts).map fun q=>((.inl q.1.1:Key),fV q.1.2 q.2)) (.inl k)=some (.int v t):=by
 induction l generalizing ts with
 | nil=>exact .inl ⟨rfl,rfl⟩
 | cons p l ih =>
  cases ts with
  | nil=>cases h
  | cons t ts =>
   have ih:=ih (ts:=ts) (by simpa using h);by_cases e:p.1=k
   ·refine .inr ⟨p.2,t,?_,?_⟩
    ·unfold cV; simp [e]
    ·unfold nZ; simp [e]
   ·have e':¬ ((.inl p.1:Key)=.inl k):=fun z=>e (by injection z);have a1:cV (p :: l) k=cV l k:=by unfold cV; simp [e]
    have a2:nZ (((p :: l).zip (t :: ts)).map fun q=>((.inl q.1.1:Key),fV q.1.2 q.2)) (.inl k)=nZ ((l.zip ts).map fun q=>((.inl q.1.1:Key),fV q.1.2 q.2)) (.inl k):=by
     unfold nZ; simp [e']
    rw [a1,a2]; exact ih
theorem BG{A:dS}{s:aA}{m:List (Int×Int)}{us:List Tok}(hm:us.length=m.length):∀ {l:List (Int×Int)} {ts:List Tok},ts.length=l.length ->
  PySem.W.KeqHits A s ((m.zip us).map fun q=>((.inl q.1.1:Key),fV q.1.2 q.2)) ((l.zip ts).map fun q=>((.inl q.1.1:Key),fV q.1.2 q.2)) (l.all fun p=>cV m p.1 == some p.2)
 | [],_,_=>.nil
 | p :: l,[],h=>by cases h
 | p :: l,t :: ts,h=>by
  have ih:=BG (A:=A) (s:=s) hm (l:=l) (ts:=ts) (by simpa using h);rcases Ce hm p.1 with ⟨e1,e2⟩ | ⟨v,t',e1,e2⟩
  ·have:((p :: l).all fun p=>cV m p.1 == some p.2)=false:=by simp [e1]
   rw [this];exact .miss e2
  ·have eq:SeqAt.EqAt A s (fV p.2 t) (fV v t') (decide (p.2=v)):=by
    have:=PySem.W.keq_flat (A:=A) (s:=s) (v:=fV p.2 t) (y:=fV v t') (d:=.int p.2) (e:=.int v) (.int _ _) (.int _ _);have e2:SeqAt.EqAt A s (fV p.2 t) (fV v t') (p.2 == v):=by simpa [qC] using this
    exact e2
   have:((p :: l).all fun p=>cV m p.1 == some p.2)=(decide (p.2=v)&&l.all fun p=>cV m p.1 == some p.2):=by
    rw [Ax,e1];congr 1;by_cases z:p.2=v
    ·simp [z]
    ·have:¬ v=p.2:=fun y=>z y.symm;simp [z,this]
   rw [this];exact .hit e2 eq ih
theorem Rq(hu:X.A.units+64 < cLine):sY X (gu .Eq) (VW false):=by
 intro pins s σ H G x y dx dy v u Q I ab rx ry dX dY q;obtain⟨l,m,e1,e2,q⟩:=q;obtain⟨a,kv,vs,rfl,rs,z,hm,rel,dd⟩:=DB I ab dX e1 (oP l);obtain⟨b,kw,ws,rfl,M9,z2,WH,VR,He⟩:=DB I ab dY e2 (oP m);cases rx;cases ry;rw [zO rs] at rel;rw [zO M9] at VR;obtain⟨ts,t1,rfl⟩:=CZ rel;obtain⟨us,t2,rfl⟩:=CZ VR;refine PySem.W.keq_eq hm WH dd He (by lia) (fun _=>BG t2 t1) ?_;refine⟨.bl _,H,.bl _,G,I,.refl ab,rfl,.bl _,?_⟩;have:((((l.zip ts).map fun q=>((.inl q.1.1:Key),fV q.1.2 q.2)).length == ((m.zip us).map fun q=>((.inl q.1.1:Key),fV q.1.2 q.2)).length)&&l.all fun p=>cV m p.1 == some p.2)=AW l m:=by
  unfold AW; simp [t1,t2]
 rw [this]; exact q
theorem CN(hu:X.A.units+64 < cLine):sY X (gu .Eq) (LJ false):=by
 intro pins s σ H G x y dx dy v u Q I ab rx ry dX dY q;rcases q with q | q
 ·exact lG hu pins s σ H G x y dx dy v u Q I ab rx ry dX dY q
 ·exact Rq hu pins s σ H G x y dx dy v u Q I ab rx ry dX dY q
variable {k v:Expr} {tk tv:gI} {pos:Pos}
theorem Ov(hk:g6 X k tk)(hv:g6 X v tv):g6 X (.Dict [some k] [v] pos) (Gr tk tv):=by
 intro E pins s σ H τ G Q hE I h;have hn:=I.inv.cL.fresh (aH s.heap.objs.size);have I1:=I.inv.laid (a:=s.heap.objs.size) (o:=.dK []) (h':=s.heap.push { cls:=.type "dict",data:=.dict #[] }) (t':=s.toks) (fun _ _ q=>aM _ q) (aH _) (Ge s.heap I.inv.big);have mh:Mv X.K H G (upd H s.heap.objs.size (.dK [])) G:=.Mj I.ab hn;have I2:I2 X pins σ (upd H s.heap.objs.size (.dK [])) τ G { s with heap:=s.heap.push { cls:=.type "dict",data:=.dict #[] },toks:=s.toks }:=⟨I1,I.st.mono (.new hn),mh.ab⟩;refine wpAny_Dict_walk (knd:=cY X.prog X.w) (by rfl) (by rfl) (by simp) (show 1<=15 by decide) ?_;refine pairTrees_cons_walk (j9 hk hE I2 h fun x H1 dx G1 u s1 I3 m1 r1 jM q1=>?_);refine j9 hv hE I3 q1 fun y H2 dy G2 w s2 I4 m2 r2 yN q2=>?_;obtain⟨hk1,q2⟩:=q2;refine pairTrees_nil_walk ?_;obtain⟨kk,rfl⟩:=vk hk1;have ex:=uO jM;subst ex;have g0:G s.heap.objs.size=none:=I.ab.free hn;obtain⟨p1,p2⟩:=m1.keep _ _ (cf (H:=H) (a:=s.heap.objs.size) (o:=.dK [])) g0;obtain⟨p3,p4⟩:=m2.keep _ _ p1 p2;obtain⟨rs,c,rk⟩:=zU (P:=X.prog) (w:=X.w) (kvs:=[(kk,y)]) (ws:=[(u,w)]) (.cons ⟨r1,r2⟩ .nil);obtain⟨z,hd,vs0,r0,dd⟩:=BS I4.inv.cL p3;cases r0;refine⟨rs,c,dd,fun h' BW hs=>?_⟩;have he:∃ q,h'.get? s.heap.objs.size=some q:=let ⟨q,_,_,hq,_⟩:=BW; ⟨q,hq⟩
 have em:Il [] [(kk,y)]=[(kk,y)]:=rfl;have kp:Kp H2 (upd H2 s.heap.objs.size (.dK [(kk,y)])):=.putD p3 (.inl ⟨_,rfl⟩);have I5:=sL (t':=s2.toks+[(u,w)].length) I4.inv (by rw [p3]; exact gk) hs he (Dy (kvs:=Il [] [(kk,y)]) (by rw [em]; exact(show 1<=bg by decide)) hd (rk.merge .nil) BW);rw [em] at I5;have Hb:=(mh.trans m1).trans m2;refine⟨.ref s.heap.objs.size,_,.ref s.heap.objs.size,_,I5,?_,rfl,.ref _,q2 _ p4⟩;refine⟨fun a o e n=>?_,fun a n=>?_,fun a g e=>?_⟩
 ·have ha:a≠s.heap.objs.size:=fun z=>by rw [z,hn] at e; cases e
  obtain⟨k1,k2⟩:=Hb.keep a o e n;exact⟨by rw [bX ha]; exact k1,by rw [cF ha]; exact k2⟩
 ·by_cases ha:a=s.heap.objs.size
  ·subst ha; rw [cf]; simp
  ·rw [bX ha]; exact Hb.mK a n
 ·by_cases ha:a=s.heap.objs.size
  ·subst ha;rw [az] at e;cases e;exact .dk cf (.cons ((yN.mono kp)) .nil)
  ·rw [cF ha] at e;exact(Hb.ab a g e).mono kp (bX ha)
end
end K2
end
section
namespace K2
open PySem PySem.Spec PyProof.Rows L2
section
variable {K:ai} {h:Heap} {C:Addr} {Xb:List Value} {newId:String}
inductive Vc (h:Heap) (C:Addr) (Xb:List Value) (newId:String):Prop
 | mk (bm N nm qn bs aag sn sub ab col dd k0 k1 k2 k3 k5 mN) (o:h.get? C=some (excClassObj nm qn C N bs bm aag sn sub ab col dd k0 k1 k2 k3 k5 newId)) (n:h.Ns N mN) (i:mN "__init__" = none) (t:OwnTail h Xb bm):Vc h C Xb newId
end
end K2
end
section
namespace K2
open PySem PySem.Spec PyProof.Rows L2
noncomputable def kp1:HO->Bool
 | .tup _=>true
 | .kd _ (.lst _)=>true
 | .kd _ (.dK _)=>true
 | .kd _ (.dT _)=>true
 | .kd _ (.ext _)=>true
 | .kd _ (.xd _)=>true
 | _=>false
noncomputable def hr(H:Hp):Hp:=fun b=>(H b).bind fun o=>if kp1 o=true then some o else none
end K2
end
section
namespace K2
open PySem PySem.Spec PyProof.Rows L2
noncomputable def subIn(K:ai)(C:Addr)(v:Value):Bool:=match K.lookup C with
 | some ⟨_,_,.cls cd,_⟩=>cd.mro.contains v
 | _=>false
section
variable {X:Cx} {x cn n:Str} {D f:Addr} {fd:aI} {ps:List Str} {k i:Nat} {sp:lO} {bmD:List Value} {newD:String} {cat:List Str} {e:Expr} {es:List Expr} {p np pos ep adv tp:Pos} {st0:Stmt} {aa1:List Stmt} {t:Jm} {th:iE}
structure aca(X:Cx):Prop where
 st:X.stack=X.env :: X.outer
 fr:X.env.frame=some X.env.locals
 ex:X.ex=[]
structure Clause(X:Cx)(i:Nat)(n cn:Str)(D:Addr)(cat:List Str):Prop where
 nd:X.N.Nodup
 Qz:X.N[i]?=some n
 loc:X.env.scope.names.lookup n=some .local
 gl:Gl X cn
 mg:X.mg cn=some (.ref D)
 cls:∃ bmD newD,PySem.W.excIn X.K D bmD newD=true/\bmD.contains (.type "BaseException")=true
 cat:∀ c,cat.contains c=true->∃ C Xb newId,dF X.K cb c=some (some (.ref C))/\PySem.W.excIn X.K C Xb newId=true/\subIn X.K C (.ref D)=true
end
end K2
end
section
namespace K2
open PySem PySem.Spec PyProof.Rows L2 PySem.W PySem.Calls PySem.Builtin PySem.Builtin.Getset_descriptor
section
variable {prog:bN} {w:World} {A:dS} {E:Value->aA->Prop} {s:aA} {K:ai} {a C:Addr} {ox:Obj}
structure ab7(K:ai)(C:Addr):Prop where
 ga:findIn K (.ref C) "__getattribute__" = some (some (.builtin "BaseException.__getattribute__"))
 gn:findIn K (.ref C) "__getattr__" = some none
 Qz:findIn K (.ref C) "__class__" = some (some (.builtin "object.__class__"))
 sp:specialIn K (.builtin "object.__class__") "__get__" = some (some (.builtin "getset_descriptor.__get__"))
 tk:takesIn K (.builtin "object.__class__")=some true
 mo:mroIn K C (.type "object")=some true
 mb:mroIn K C (.type "BaseException")=some true
 is:(clsIn K C).isSome=true
end
end K2
end
section
namespace K2
open PySem PySem.Spec PyProof.Rows L2
section
variable {X:Cx} {e:Expr} {te:gI} {pos:Pos}
theorem kr{i:Nat}{x:Str}{pos':Pos}(hN:X.N.Nodup)(hi:X.N[i]?=some x)(he:g6 X e te)(hx:autoParam (Loc X.env.scope x) Ao._auto_1)(hs:autoParam (Np e (some (.Name x pos')) pos.line X.env=pure false) Ar._auto_1)(hf:autoParam (X.fn x=true\/X.env.scope.names.lookup x=some .local) Ao._auto_1) :
  Jn X (.Assign [.Name x pos'] e pos) (bK te (aL i)):=Q5 hN hi hx he hs hf
theorem lF{i:Nat}{x:Str}(hN:X.N.Nodup)(hi:X.N[i]?=some x)(hx:autoParam (Loc X.env.scope x) Ao._auto_1)(hf:autoParam (X.fn x=true\/X.env.scope.names.lookup x=some .local) Ao._auto_1):MQ X (.Name x pos) (aL i):=Oq hN hi hx hf
theorem rH{P:bN}{w:World}{K:ai}{mg:Str->Option Value}{base:Heap}{x qual:Str}{st:Stmt}{f:Addr}{fd:aI}{Nn ps:List Str}{k:Nat}{sp:lO}{rd:iE}(F:oy K x qual st f fd)(S:cD Nn ps (bo st))
  (hr:∀ ds G Q,sp ds G Q (fun _ _=>False)->rd (fun _ _=>False) (ends Q) (bE Nn.length ds) G)
  (hb:∀ (oY:Value) (A:dS) (outer:List Env) (s:aA) (H:Hp) (E:XK),nq k (A.deeper (Ee qual (bo st) s.heap.objs.size f oY))->z8 (Gs gi P w K mg base Nn qual (bo st) f oY A outer s H E).Vj (kA st) rd)
  (len:autoParam (∀ ds G Q E,sp ds G Q E->ds.length=ps.length) Al._auto_1):gf P w K mg base gi (k+1) f fd ps (cS K sp):=RN F S len hr hb
theorem qU{N ps:List Str}{sc:Scope}(h1:autoParam (sc.kind=.function) Ar._auto_1)(h2:autoParam (sc.isCoroutine=false) Ar._auto_1)(h3:autoParam (sc.isGenerator=false) Ar._auto_1)(h4:autoParam N.Nodup Ak._auto_1)(h5:autoParam (N.take ps.length=ps) Ar._auto_1)
  (h6:autoParam (∀ x∈ps,sc.names.lookup x=some .local\/sc.names.lookup x=some .cell) Ak._auto_1) (h7:autoParam (∀ y∈sc.names,y.2≠.free) Ak._auto_1):cD N ps sc:=⟨h1,h2,h3,h4,h5,h6,h7⟩
end
end K2
end
section
namespace K2
open PySem PySem.Spec PyProof.Rows L2
section
variable {X:Cx} {a b c:Expr} {ta tb tc:gI} {pos:Pos}
theorem xM {x:Str} {i:Int} {t:Tok} {p:Pos} (hg:Gl X x) (hm:X.mg x=some (.int i t)) (hd:autoParam ((x == ("__debug__" : Str))=false) Ad._auto_1):g6 X (.Name x p) (dC (.int i)):=wj (Rb (v:=.int i) hg hm ⟨t,rfl⟩ hd) fun _ _=>.int i
end
end K2
end
section
namespace K2
open PySem PySem.Spec PyProof.Rows L2
theorem vh{α:Type}{us:List α}(h:us.length=1):∃ a,us=[a]:=List.length_eq_one_iff.mp h
theorem Us{α:Type}{us:List α}{n:Nat}(h:us.length=n+1):∃ a t,us=a :: t/\t.length=n:=by
 cases us with
 | nil=>cases h
 | cons a t=>exact⟨a,t,rfl,Nat.succ.inj h⟩
theorem tS{α:Type}{us:List α}(h:us.length=2):∃ a b,us=[a,b]:=by
 obtain⟨a,t,rfl,h2⟩:=Us h; obtain⟨b,rfl⟩:=vh h2; exact⟨a,b,rfl⟩
theorem Iw{α:Type}{us:List α}(h:us.length=3):∃ a b c,us=[a,b,c]:=by
 obtain⟨a,t,rfl,h2⟩:=Us h; obtain⟨b,c,rfl⟩:=tS h2; exact⟨a,b,c,rfl⟩
theorem Zs{α:Type}{us:List α}(h:us.length=4):∃ a b c d,us=[a,b,c,d]:=by
 obtain⟨a,t,rfl,h2⟩:=Us h; obtain⟨b,c,d,rfl⟩:=Iw h2; exact⟨a,b,c,d,rfl⟩
end K2
end
section
namespace L2
open PySem PySem.Spec PyProof.Rows
section
variable {prog:bN} {w:World} {A:dS} {E:Value->aA->Prop} {s:aA}
theorem IA{it d:Addr}{od:Obj}{es:Array fE}{i ep:Nat}{ok ov:Value}{Q:Option Value->aA->Prop}(hit:oh s.heap it d i es.size ep ok ov)(D5:s.heap.get? d=some od)(dd:od.data=.dict es ep)(hi:i < es.size)
  (hQ:∀ h',IsItemIterOut h' it d (i+1) es.size ep es[i].key es[i].val s.heap.objs.size->h'.get? s.heap.objs.size=some { cls:=.type "tuple",data:=.seq #[es[i].key,es[i].val] }->(∀ b o,b≠it->s.heap.get? b=some o->h'.get? b=some o)->Q (some (.ref s.heap.objs.size)) { s with heap:=h' }) :
  wpAny (model prog w) A (Ed (.ref it)) Q E s:=by
 obtain⟨hp,g,dr,tk,os⟩:=s;have ty:Shared.TypeIs ⟨hp,g,dr,tk,os⟩ (.ref it) "dict_itemiterator":=⟨_,hit,rfl⟩;unfold Ed;refine ah (Eb (jj (name:=vX "__next__") ty jo (dj jo ty GX ?_ (Eh _))));refine ah (aE (ah (ah ?_)))
 first | refine ah (jh ty (aE (ah (oz hit rfl ?_)))) | refine ah (kZ ty (aE (ah (oz hit rfl ?_))))
 have Oy:fj "dict_itemiterator" = true:=by decide
 rw [Oy];show wpAny _ _ (if (fU d == gj)=true then _ else _) _ _ _;rw [if_neg (fun z=>by cases z)];refine ah (aE (ah (gO D5 dd ?_)));rw [if_neg (by simp)];refine ah (aE (ah (mG D5 dd ?_)));rw [if_neg (by simp)];refine aE ?_;dsimp only;rw [if_neg (show ¬ ((i:Int) < 0) from Int.not_lt.mpr (qE i)),df,Hx hi];dsimp only;refine ah ?_
 first | refine ah (jh ty (aE (ah (nJ ty ?_)))) | refine ah (kZ ty (aE (ah (nJ ty ?_))))
 show wpAny _ _ (setField (.ref it) 3 (Ec ((i:Int)+1)) >>= _) _ _ ⟨hp,g,dr,tk,os⟩;refine ah (mF hit (by simp) fun h1 e1 s1=>?_);have s1:fJ it hp h1:=s1;have e1:oh h1 it d (i+1) es.size ep ok ov:=by
  have e:((i+1:Nat):Int)=(i:Int)+1:=by lia
  unfold oh; rw [e]; simpa [Ec] using e1
 have ty1:Shared.TypeIs ⟨h1,g,dr,tk,os⟩ (.ref it) "dict_itemiterator":=⟨_,e1,rfl⟩;refine ah (fe (ah (nJ ty1 (ah (nJ ty1 ?_)))));show wpAny _ _ (qM (.ref it) 6 es[i].key es[i].val) _ _ ⟨h1,g,dr,tk,os⟩;unfold qM;refine ah (wpAny_newTuple ?_);have z1:h1.objs.size=hp.objs.size:=s1.1;have lt:it < hp.objs.size:=bh hit;have e2:oh (h1.push { cls:=.type "tuple",data:=.seq #[es[i].key,es[i].val] }) it d (i+1) es.size ep ok ov:=aM _ e1;have t2:(h1.push { cls:=.type "tuple",data:=.seq #[es[i].key,es[i].val] }).get? hp.objs.size=some { cls:=.type "tuple",data:=.seq #[es[i].key,es[i].val] }:=by rw [<-z1]; exact bH _ rfl
 have k2:∀ b o,b≠it->hp.get? b=some o->(h1.push { cls:=.type "tuple",data:=.seq #[es[i].key,es[i].val] }).get? b=some o:=fun b o hb e=>aM _ (s1.extBut b o hb e);generalize h1.push { cls:=.type "tuple",data:=.seq #[es[i].key,es[i].val] } = h2 at e2 t2 k2;show wpAny _ _ (i8 (.ref it) >>= _) _ _ ⟨h2,g,dr,tk,os⟩;rw [z1];refine ah (show wpAny _ _ (i8 (.ref it)) _ _ _ from ?_);unfold i8;refine ah (qF e2 rfl (x:=.none) rfl (aE ?_));rw [if_pos rfl];refine ah (qF e2 rfl (x:=ok) rfl (ah (qF e2 rfl (x:=ov) rfl (ah (mF e2 (by simp) fun h3 e3 s3=>?_)))));have s3:fJ it h2 h3:=s3;have e3:oh h3 it d (i+1) es.size ep es[i].key ov:=e3;refine ah (mF e3 (by simp) fun h4 e4 s4=>?_);have s4:fJ it h3 h4:=s4;have e4:oh h4 it d (i+1) es.size ep es[i].key es[i].val:=e4;refine ah (mF e4 (by simp) fun h5 e5 s5=>?_);have s5:fJ it h4 h5:=s5;have e5:IsItemIterOut h5 it d (i+1) es.size ep es[i].key es[i].val hp.objs.size:=e5;refine ah (mF e5 (by simp) fun h6 e6 s6=>?_);have s6:fJ it h5 h6:=s6;have all:∀ b o,b≠it->h2.get? b=some o->h6.get? b=some o:=fun b o hb e=>s6.extBut b o hb (s5.extBut b o hb (s4.extBut b o hb (s3.extBut b o hb e)));exact ah (wpAny_letGo (aE (aE ⟨_,rfl,aE (hQ h6 e6 (all _ _ (Nat.ne_of_gt lt) t2) fun b o hb e=>all b o hb (k2 b o hb e))⟩)))
end
end L2
namespace L2
open PySem PySem.Spec PyProof.Rows
section
variable {prog:bN} {w:World} {A:dS} {E:Value->aA->Prop} {s:aA}
theorem Mb{it d:Addr}{od:Obj}{es:Array fE}{i ep:Nat}{ok ov:Value}{Q:Option Value->aA->Prop}(calm:A.handled=none)(hit:oh s.heap it d i es.size ep ok ov)(D5:s.heap.get? d=some od)(dd:od.data=.dict es ep)(hi:es.size<=i)
  (hQ:∀ h',Heap.ExtBut it s.heap h'->Q none { s with heap:=h' }):wpAny (model prog w) A (Ed (.ref it)) Q E s:=by
 have ty:s.TypeIs (.ref it) "dict_itemiterator":=⟨_,hit,rfl⟩;unfold Ed;refine ah (Eb (jj (name:=vX "__next__") ty jo (dj jo ty GX ?_ (Eh _))));refine ah (aE (ah (ah ?_)))
 first | refine ah (jh ty (aE (ah (oz hit rfl ?_)))) | refine ah (kZ ty (aE (ah (oz hit rfl ?_))))
 have Oy:fj "dict_itemiterator" = true:=by decide
 rw [Oy];show wpAny _ _ (if (fU d == gj)=true then _ else _) _ _ s;rw [if_neg (fun z=>by cases z)];refine ah (aE (ah (gO D5 dd ?_)));rw [if_neg (by simp)];refine ah (aE (ah (mG D5 dd ?_)));rw [if_neg (by simp)];refine aE ?_;dsimp only;rw [if_neg (show ¬ ((i:Int) < 0) from Int.not_lt.mpr (qE i)),df,M5 hi];dsimp only;refine ah ?_
 first | refine ah (jh ty (aE (?_))) | refine ah (kZ ty (aE (?_)))
 show wpAny _ _ (setField (.ref it) 2 .none >>= _) _ _ s;refine ah (QB hit rfl (by simp) (show wpAny _ _ (newExc (.type "StopIteration") [] >>= _) _ _ _ from ah ?_));simp only [newExc,newTuple];refine ah (dP (ah (m:=A6 _ _) (wpAny_of_eq (a:=gj) (by first | rfl | (simp only [A6]; rfl)) (dP ?_ (by size_fits)))) (by size_fits));simp only [raiseNew];refine ah (wpAny_handled ?_);rw [show A.in1.handled=none from calm];refine ah (aE (wpAny_throw ?_));refine ah (o6 (T:="StopIteration") (b:=true) ⟨_,bH _ rfl,rfl⟩ isSubtype_stop (?_));exact aE (hQ _ (((jI ..).extBut.push _).push _))
end
end L2
namespace L2
open PySem PySem.Spec PyProof.Rows
section
variable {prog:bN} {w:World} {A:dS} {E:Value->aA->Prop} {s:aA}
theorem u6 (d:Addr) (ns:(d == dn)=false):MeetsIn prog w (Builtin.«dict.items» ⟨[.ref d],[]⟩) (fun _ R s=>s.TypeIs (.ref d) "dict"/\R (.ok (.ret (.ref s.heap.objs.size))) { s with heap:=s.heap.push { cls:=.type "dict_items",data:=.fields #[.ref d] } }):=by
 refine .of_wp ?_;rintro A R s ⟨ty,h⟩;unfold Builtin.«dict.items» Builtin.Dict.noArgs;refine ah (ah (x9 ty (show wpAny _ _ (pure d) _ _ s from aE ?_)));show wpAny _ _ (kT d >>= _) _ _ s;unfold kT;rw [if_neg (fun z=>by rw [ns] at z; cases z)];exact ah (aE (ah (dP (aE ⟨_,rfl,h⟩))))
theorem xi{v d:Addr}{od:Obj}{es:Array fE}{ep:Nat}{Q:Value->aA->Prop}(hv:s.heap.IsItemsView v d)(D5:s.heap.get? d=some od)(dd:od.data=.dict es ep)
  (hQ:Q (.ref s.heap.objs.size) { s with heap:=s.heap.push { cls:=.type "dict_itemiterator",data:=.fields #[.none,.bool false,.ref d,.int 0 0,.int es.size 0,.int ep 0,.none,.none] } }) :
  wpAny (model prog w) A (Jy (.ref v)) Q E s:=by
 obtain⟨ov,hov,hcv,hdv⟩:=id hv;refine nW hv.typeIs F.slot_dict_items_iter (dj F.slot_dict_items_iter hv.typeIs F.entry_dict_items_iter ?_ (F.args_dict_items_iter_1 _));unfold Builtin.«dict_items.__iter__» Builtin.Dict_items.dictOf;refine ah (aE (ah (ah (qF hov hdv (x:=.ref d) rfl (aE (ah ?_))))));unfold Builtin.Dict_items.newIterator;refine ah (gO D5 dd (ah (mG D5 dd ?_)));have Oy:fj "dict_itemiterator" = true:=by decide
 rw [Oy];dsimp only;rw [if_pos (show true=true from rfl)];refine dP (aE ⟨_,rfl,"dict_itemiterator",_,⟨_,bH _ rfl,rfl⟩,F.slot_dict_itemiterator_next.lookup,?_⟩) ?_
 ·simpa [Ec,qg] using hQ
 ·simp only [sizeOk,qg,bb,aJ,aj,aC,c6]; lia
end
noncomputable def aaS(a:Addr)(o:Obj)(es:Array fE)(ps:List (V×V)):It :=
 ⟨fun i H=>(∃ u,H a=some (.kd o u))/\i < es.size,fun i H v H'=>∃ T p,v=.ref T/\H T=none/\H'=upd H T (.tup [p.1,p.2])/\ps[i]?=some p,fun i H=>(∃ u,H a=some (.kd o u))/\es.size<=i⟩
theorem wV{P:bN}{w:World}{K:ai}{elts:List Expr}{kk:Nat}{pos:Pos}(a it:Addr)(o:Obj)(es:Array fE)(ep:Nat)(ps:List (V×V))(dd:o.data=.dict es ep)(hk:∀ i (h:i < es.size),∃ p,ps[i]?=some p/\RelV p.1 es[i].key/\RelV p.2 es[i].val) :
  Turn P w K (.Tuple elts kk pos) (aaS a o es ps) [it] it (fun i h=>∃ ok ov,oh h it a i es.size ep ok ov) where
 mem:=by simp
 obj:=by
  rintro i h ⟨ok,ov,st⟩ b hb;have e:b=it:=by simpa using hb
  subst e;exact⟨_,st,fun v z=>by cases z⟩
 keep:=by rintro i h h' ⟨ok,ov,st⟩ k; exact⟨ok,ov,k it (by simp) _ st⟩
 item:=by
  intro X hP hw hK hc i pins s σ H E I hf st hg;obtain⟨ok,ov,st⟩:=st;subst hP hw hK;obtain⟨⟨u,hu⟩,hi⟩:=hg;obtain⟨p,hp,r1,r2⟩:=hk i hi;have UM:H s.heap.objs.size=none:=I.cL.fresh (aH _);have WM:it≠s.heap.objs.size:=bQ (bh st);refine IA st (I.cL a _ hu).1 dd hi fun h' ho hT kk=>?_;refine⟨_,rfl,?_⟩;have I1:Inv X pins σ (upd H s.heap.objs.size (.tup [p.1,p.2])) { s with heap:=h',toks:=s.toks } :=
   I.xI (fp:=[it]) hf (fun b o hb q=>kk b o (fun z=>hb (by simp [z])) q) (aH _)
    ⟨by show 2<=bg; decide,[es[i].key,es[i].val],.cons r1 (.cons r2 .nil),⟨_,hT,rfl,_,rfl⟩⟩
  refine Nl (s:={ s with heap:=h' }) ho fun h2 UG FG=>?_;have f1:∀ b∈[it],nI X pins (upd H s.heap.objs.size (.tup [p.1,p.2])) b:=fun b hb=>(hf b hb).upd (by rw [List.mem_singleton.mp hb]; exact WM);have I2:Inv X pins σ (upd H s.heap.objs.size (.tup [p.1,p.2])) { s with heap:=h2,toks:=s.toks } :=
   Inv.r8 (s:={ s with heap:=h',toks:=s.toks }) (t':=s.toks) (fp:=[it]) I1 f1 fun b o hb q=>(FG.2 b (fun z=>hb (by simp [z]))).trans q
  exact⟨.ref s.heap.objs.size,_,I2,rfl,⟨_,p,rfl,UM,rfl,hp⟩,⟨_,_,UG⟩,fun b hb=>(f1 b hb).1⟩
 done:=by
  intro X hP hw hK hc i pins s σ H E I hf st hg;obtain⟨ok,ov,st⟩:=st;subst hP hw hK;obtain⟨⟨u,hu⟩,hi⟩:=hg;obtain⟨f0,f1,f2,f3,f4,f5⟩:=hf it (by simp);exact Mb (I.ok.hd hc) st (I.cL a _ hu).1 dd hi fun h' eb=>⟨rfl,I.turned (t':=s.toks) (fun b o hb e=>eb b o hb e) f0 f1 f3 f4 f5⟩
 self:=by
  rintro A i s Q E ⟨ok,ov,st⟩ h;have ty:s.TypeIs (.ref it) "dict_itemiterator":=⟨_,st,rfl⟩;refine nW ty jq (dj jq ty lM ?_ (Ei _));show wpAny _ _ (ret (.ref it)) _ _ s;exact aE ⟨_,rfl,"dict_itemiterator",_,ty,F.slot_dict_itemiterator_next.lookup,h⟩
end L2
end
section
namespace K2
open PySem PySem.Spec PyProof.Rows L2
section
variable {X:Cx} {elts:List Expr} {kk:Nat} {AG apos kb:Pos} {o:Expr} {to:gI}
theorem mx.item{K:ai}{H:Hp}{kv:List (List Key×V)}{kvs:List (D×D)}(h:mx K H kv kvs):∀ {i:Nat} {q:D×D},kvs[i]?=some q->∃ p,kv[i]?=some p/\q.1=.tup (p.1.map eM)/\cE K H p.2 q.2:=by
 induction h using mx.ind with
 | nil=>intro i q e; simp at e
 | @cons k v d r t rd rs ih =>
  intro i q e;cases i with
  | zero=>simp at e; subst e; exact⟨_,rfl,rfl,rd⟩
  | succ i =>
   obtain⟨p,h1,h2⟩:=ih (i:=i) (q:=q) (by simpa using e);exact⟨p,by simpa using h1,h2⟩
theorem mx.len{K:ai}{H:Hp}{kv:List (List Key×V)}{kvs:List (D×D)}(h:mx K H kv kvs):kv.length=kvs.length:=by
 have:=congrArg dH h.keys;simpa using this.symm
theorem H0 (ho:g6 X o to) (zB:autoParam (qw o "items" X.env (eval o X.env)=eval o X.env) Ar._auto_1) (zA:autoParam ((apos.endLine == kb.line)=true) Ar._auto_1) :
  MP X (.Tuple elts kk AG) (.Call (.Attribute o "items" apos) [] [] kb) (C2 to):=by
 intro E pins s σ H τ G R hE I h;refine vV zB zA (j9 ho hE I h fun x H1 d G1 v s1 I1 m1 r1 jM q1=>?_);cases d with
 | kI kvs =>
  obtain⟨h1,q1⟩:=q1;obtain⟨t1,t2⟩:=mJ pins s1 σ H1 G1 x _ v I1.inv I1.ab r1 jM trivial;have main:∃ (a:Addr) (ob:Obj) (u:HO) (es:Array fE) (ep:Nat) (ps:List (V×V)),x=.ref a/\(a == dn)=false/\H1 a=some (.kd ob u)/\ob.data=.dict es ep/\(∀ i (h:i < es.size),∃ p,ps[i]?=some p/\RelV p.1 es[i].key/\RelV p.2 es[i].val)/\kvs.length=es.size /\
    (∀ (i:Nat) (q:D×D),kvs[i]?=some q->∃ p,ps[i]?=some p/\cE X.K H1 p.1 q.1/\cE X.K H1 p.2 q.2):=by
   cases jM with
   | pA hq rs =>
    rename_i a o kv;cases rs with
    | nil =>
     obtain⟨z,ns,vs,rel,ob,es,ep,ho,ex,dd,hko,hp,nd⟩:=(I1.inv.cL a _ hq).2;have eo:ob=o:=by have:=(I1.inv.cL a _ hq).1; rw [ho] at this; exact bc this
     subst eo;have l1:es.size=vs.length:=by simpa using hp.length
     have l2:([]:List (Key×V)).length=vs.length:=iM rel;have l3:es.size=0:=by rw [l1,<-l2]; rfl
     exact⟨a,ob,_,es,ep,[],rfl,ns,hq,dd,fun i h=>by lia,by rw [l3]; rfl,fun i q e=>by simp at e⟩
    | @cons j _ _ _ _ _ _=>cases j <;> simp [eM,kQ] at h1
   | pz hq rs =>
    rename_i a o kv;obtain⟨z,ns,xs,rel,ob,es,ep,ho,ex,dd,hl,nd⟩:=(I1.inv.cL a _ hq).2;have eo:ob=o:=by have:=(I1.inv.cL a _ hq).1; rw [ho] at this; exact bc this
    subst eo;have l1:=congrArg dH hl;rw [au,fk] at l1;have l2:kv.length=xs.length:=iM rel;have l3:=rs.len;refine⟨a,ob,_,es,ep,(kv.zip xs).map fun z=>(V.ref z.2.2.1,z.1.2),rfl,ns,hq,dd,fun i hi=>?_,by lia,fun i q e=>?_⟩
    ·have i2:i < xs.length:=by lia
     have i3:i < kv.length:=by lia
     have ee:es[i]=entryOfKey (iW (cY X.prog X.w)) xs[i]:=by
      have:=congrArg (fun l=>l[i]?) hl;simp only [bI,ay i2] at this;simpa [hi] using this
     refine⟨(V.ref xs[i].2.1,kv[i].2),by rw [bI,ay (by rw [ly]; lia),tK]; rfl,?_⟩;rw [ee];exact⟨rfl,(wm rel i i3 i2).2.2⟩
    ·obtain⟨p,hp,ek,rp⟩:=rs.item e;have i3:i < kv.length:=(List.getElem?_eq_some_iff.mp hp).1;have i2:i < xs.length:=by lia
     have pr:=wm rel i i3 i2;rw [ay i3] at hp;cases hp;refine⟨(V.ref xs[i].2.1,kv[i].2),by rw [bI,ay (by rw [ly]; lia),tK]; rfl,?_,rp⟩;rw [ek];exact .tup pr.2.1 (wa _)
  obtain⟨a,ob,u,es,ep,ps,rfl,hm,hu,dd,hk,hlen,TZ⟩:=main;cases r1;refine⟨"dict","dict.items",cU,fW,qK,t1,t2,lK rfl (xu ?_)⟩;refine yi fW t1 qx (o8 _) (u6 a hm) ⟨t1,?_⟩;have I2:Inv X pins σ H1 { s1 with heap:=s1.heap.push { cls:=.type "dict_items",data:=.fields #[.ref a] } }:=I1.inv.kept (t':=s1.toks) fun b o e=>aM _ e;refine xi (s:={ s1 with heap:=s1.heap.push { cls:=.type "dict_items",data:=.fields #[.ref a] } }) ⟨_,bH _ rfl,rfl,rfl⟩ (aM _ (I1.inv.cL a _ hu).1) dd ?_;refine⟨_,[_],_,_,H1,G1,kvs.map (fun p=>.tup [p.1,p.2]),_,rfl,I2.kept (t':=s1.toks) fun b o e=>aM _ e,m1,wV a _ ob es ep ps dd hk,⟨.none,.none,bH _ rfl⟩,fun b hb=>?_,fun i H2 G2 k ab _=>?_,q1⟩
  ·have e:=List.mem_singleton.mp hb;subst e;exact I2.AO (aH _) (I2.cL.fresh (aH _))
  ·have BE:=k.kd _ _ _ hu;refine⟨fun d hd=>?_,fun hle=>⟨⟨u,BE⟩,by rw [<-hlen]; simpa using hle⟩⟩;rw [bI] at hd;cases Hd:kvs[i]? with
   | none=>rw [Hd] at hd; cases hd
   | some q =>
    rw [Hd] at hd;obtain⟨p,hp,rk,rp⟩:=TZ i q Hd;have hi:i < es.size:=by rw [<-hlen]; exact(List.getElem?_eq_some_iff.mp Hd).1
    refine⟨⟨⟨u,BE⟩,hi⟩,?_⟩;rintro x H3 ⟨T,p',ex,hT,e3,hy⟩;subst ex e3;rw [hp] at hy;cases hy;have ed:D.tup [q.1,q.2]=d:=by simpa using hd
    subst ed;exact⟨.tup cf (.cons ((rk.mono k).mono (.new hT)) (.cons ((rp.mono k).mono (.new hT)) .nil)),.Mj ab hT⟩
 | _=>exact q1.elim
end
end K2
end
section
namespace K2
open PySem PySem.Spec PyProof.Rows L2
noncomputable def eOk(e:fE)(p:Int×Int):Bool:=e.hash == hashInt p.1&&sR p.1 e.key&&sR p.2 e.val
noncomputable def RQ:List fE->List (Int×Int)->Bool
 | [],[]=>true
 | e :: es,p :: ps=>eOk e p&&RQ es ps
 | _,_=>false
noncomputable def BV(K:ai)(a:Addr)(kv:List (Int×Int)):Bool:=match K.lookup a with
 | some o=>o.cls == .type "dict" && o.dict == none&&o.slots.toList == []&&(match o.data with | .dict es _=>RQ es.toList kv | _=>false)
 | none=>false
noncomputable def SK(kv:List (Int×Int)):List (Key×V):=kv.map fun p=>(.inl p.1,.int p.2)
theorem isInt_shape{i:Int}{v:Value}(h:sR i v=true):∃ t,v=.int i t:=by
 rcases eV (k:=.inl i) h with ⟨j,t,e,rfl⟩ | ⟨_,_,e,_⟩
 ·cases e; exact⟨t,rfl⟩
 ·cases e
section
variable {P:bN} {w:World}
theorem zL:∀ (es:List fE) (kv:List (Int×Int)),RQ es kv=true->∃ vs,KV (SK kv) vs/\Pairs (cY P w) es vs/\vs.map (·.1)=kv.map (fun p=>(vW p.1:Key))/\∀ e∈es,∃ k,(cY P w).is k e.key=true/\e.hash=(cY P w).hash k
 | [],[],_=>⟨[],.nil,.nil,rfl,fun e h=>by cases h⟩
 | [],_ :: _,h=>bG (show false=true from h)
 | _ :: _,[],h=>bG (show false=true from h)
 | e :: es,p :: ps,h=>by
  have h:(eOk e p&&RQ es ps)=true:=h;rw [aN] at h;obtain⟨vs,h1,h2,h3,h4⟩:=zL es ps h.2;have he:=h.1;unfold eOk at he;rw [aN,aN] at he;obtain⟨t,ev⟩:=isInt_shape he.2;refine⟨(.inl p.1,e.val) :: vs,.cons ⟨rfl,t,ev⟩ h1,.cons he.1.2 rfl h2,by rw [ak,ak,h3],fun x hx=>?_⟩;rcases List.mem_cons.mp hx with rfl | hx
  ·exact⟨.inl p.1,he.1.2,beq_iff_eq.mp he.1.1⟩
  ·exact h4 x hx
theorem UX{K:ai}{a:Addr}{kv:List (Int×Int)}{h:Heap}(Y:K.In h)(e:BV K a kv=true)(nd:(kv.map (·.1)).Nodup):∃ vs,KV (SK kv) vs/\h.DictOf (cY P w) a vs:=by
 unfold BV at e;cases hl:K.lookup a with
 | none=>rw [hl] at e; exact bG (show false=true from e)
 | some o =>
  rw [hl] at e;dsimp only at e;rw [aN,aN,aN] at e;obtain⟨⟨⟨e1,e2⟩,e3⟩,e4⟩:=e;obtain⟨c,dd,dt,⟨sl⟩⟩:=o;have f1:c=.type "dict":=beq_iff_eq.mp e1;have f2:dd=none:=beq_iff_eq.mp e2;have f3:sl=[]:=beq_iff_eq.mp e3;clear e1 e2 e3;subst f1;subst f2;subst f3;cases dt with
  | dict es ep =>
   obtain⟨vs,h1,h2,h3,h4⟩:=zL (P:=P) (w:=w) es.toList kv e4;refine⟨vs,h1,_,es,ep,Y _ _ hl,⟨rfl,rfl,rfl⟩,rfl,?_,h2,?_⟩
   ·intro e he;obtain⟨k,q1,q2⟩:=h4 e (Array.mem_toList_iff.mpr he);exact⟨k,q1,q2⟩
   ·rw [h3];have:kv.map (fun p=>(vW p.1:Key))=(kv.map (·.1)).map vW:=by rw [bw]; rfl
    rw [this,List.nodup_iff_pairwise_ne,A9];exact(List.nodup_iff_pairwise_ne.mp nd).imp fun D7 e=>D7 (Sum.inl.inj e)
  | _=>exact bG (show false=true from e4)
end
end K2
namespace K2
open PySem PySem.Spec PyProof.Rows L2
section
variable {X:Cx} {x:Str} {a:Addr} {kv:List (Int×Int)} {p px pos:Pos}
theorem S6{K:ai}{H:Hp}:∀ kv:List (Int×Int),mE K H (SK kv) (bD kv)
 | []=>.nil
 | p :: kv=>.cons (k:=.inl p.1) (.int p.2) (S6 kv)
theorem Bq (hg:Gl X "dict") (hm:X.mg "dict" = none) (Z8:Gl X x) (WH:X.mg x=some (.ref a)) (ns:(a == dn)=false) (hD:BV X.K a kv=true) (nd:(kv.map (·.1)).Nodup) (hz:kv.length<=1000) (Mm:autoParam ((x == ("__debug__" : Str))=false) Ad._auto_1)
  (hs:autoParam (c8 [.Name x px] X.env=[(false,eval (.Name x px) X.env)]) Ar._auto_1):g6 X (.Call (.Name "dict" p) [.Name x px] [] pos) (Gq kv):=by
 intro E pins s σ H τ G Q hE I h;refine mH (rE I.inv hg hm xX ?_);refine fQ ?_ hs rfl;rw [hs];show wpAny _ _ (spliced ((false,eval (.Name x px) X.env) :: qI pos (c8 [] X.env))) _ _ s;refine qf ?_;refine CY I.inv Z8 WH ?_ Mm;refine AB ?_;obtain⟨vs,rel,dd⟩:=UX (P:=X.prog) (w:=X.w) I.inv.Ko hD nd;have hl:vs.length=kv.length:=by rw [<-rel.length]; unfold SK; rw [au]
 have sz:bg=16777216:=c6;refine kt_call_dict ns dd (by lia) fun h' BW hs=>?_;have hp:H s.heap.objs.size=none:=I.inv.cL.fresh (aH _);have zz:(SK kv).length<=bg:=by unfold SK; rw [au]; lia
 refine⟨.ref _,upd H s.heap.objs.size (.dK (SK kv)),.ref _,_,I.inv.laid (a:=s.heap.objs.size) (o:=.dK (SK kv)) (t':=s.toks) (fun b q hq=>?_) (aH _) (Dy zz (beq_eq_false_iff_ne.mpr (gm (bQ I.inv.big))) rel BW),.new I.ab hp (.dk cf (S6 kv)),rfl,.ref _,h _ (I.ab.free hp)⟩;exact(hs.2 b (bQ (bh hq))).trans (aM _ hq)
end
end K2
end
section
namespace K2
open PySem PySem.Spec PyProof.Rows L2
section
variable {X:Cx}
theorem Gx:uo X (.type "tuple") R4:=by
 intro pins s σ H G xs ds us Q I ab rx rd q;unfold R4 at q;split at q
 ·rename_i x;obtain⟨v,rfl,r⟩:=rd.one;have Vf:∀ (l:Addr) (ys:List V) (zs:List D),v=.ref l->oZ X.K H l ys->bt X.K H ys zs->Q (.tup zs) G->wpAny (model X.prog X.w) X.A (call (.type "tuple") us) (um X pins σ H G Q) X.xe s:=fun l ys zs e h rs hq=>by
   subst e;exact gU (A2 pins s σ H _ us (B7 X.K H G Q) I rx ⟨l,ys,rfl,.inl ⟨h,fun p hp=>⟨.tup zs,G,.Mj ab hp,.tup cf (rs.mono (.new hp)),hq⟩⟩⟩) fun _ _ z=>.of z
  cases r with
  | dQ hq rs=>exact Vf _ _ _ rfl hq.sq rs q
  | ref l =>
   unfold rD at q;dsimp only at q;cases hg:G l with
   | none=>rw [hg] at q; exact q.elim
   | some g =>
    rw [hg] at q;cases g with
    | lst ds =>
     obtain⟨vs,hv,rs⟩:=ab.lst hg;exact Vf _ _ _ rfl (.of hv) rs q
    | ins _ _=>exact q.elim
    | sJ _=>exact q.elim
    | gF kvs=>exact q.elim
  | _=>exact bW q
 ·exact q.elim
end
end K2
end
section
namespace K2
open PySem PySem.Spec PyProof.Rows L2
noncomputable abbrev L5(P:bN)(w:World):Eg P w PK:=Zj (Hi P w)
section
variable {P:bN} {w:World} {K:ai} {H:Hp} {h:Heap}
theorem items_int:∀ {t:List Int} {us:List Value},Vals (t.map V.int) us->ItemsAre (Hi P w) t us
 | [],_,r=>by rw [bq] at r; cases r; exact .nil
 | i :: t,_,r=>by
  rw [ak] at r;cases r with
  | cons h r =>
   obtain⟨q,rfl⟩:=h;exact .cons (by simp [Hi,sR]) (items_int r)
theorem Zi(ok:qv P w H h){v:V}{u:Value}{t:List Int}(r:cE K H v (.tup (t.map D.int)))(ru:RelV v u):∃ b,u=.ref b/\(iW (Hi P w)).is h t b:=by
 cases r with
 | tup e rs =>
  have z:=rs.ints;subst z;cases ru;obtain⟨_,bZ,r,o,h1,h2,n,h3⟩:=(show gc P w H h _ (.tup (t.map V.int)) from ok _ _ e);exact⟨_,rfl,o,bZ.toArray,n,h1,h2,h3,by simpa using items_int r⟩
theorem SF(ok:qv P w H h):∀ {r:List (List Int)} {vs:List V} {us:List Value},bt K H vs (r.map fun t=>.tup (t.map D.int))->Vals vs us->sZ (iW (Hi P w)) h r us
 | [],_,_,q,ru=>by have:=q.zero; subst this; cases ru; exact .nil
 | t :: r,_,_,q,ru=>by
  rw [ak] at q;cases q with
  | cons q1 q2 =>
   cases ru with
   | cons r1 r2 =>
    obtain⟨b,rfl,hb⟩:=Zi ok q1 r1;exact .cons hb (SF ok q2 r2)
theorem Zh(ok:qv P w H h){v:V}{u:Value}{r:List (List Int)}(q:cE K H v (.tup (r.map fun t=>.tup (t.map D.int))))(ru:RelV v u):∃ b,u=.ref b/\(Vk (Hi P w)).is h r b:=by
 cases q with
 | tup e rs =>
  cases ru;obtain⟨_,bZ,r',o,h1,h2,n,h3⟩:=(show gc P w H h _ (.tup _) from ok _ _ e);exact⟨_,rfl,o,bZ.toArray,n,h1,h2,h3,by simpa using SF ok rs r'⟩
theorem SE(ok:qv P w H h):∀ {k:PK} {vs:List V} {us:List Value},bt K H vs (k.map fun r=>.tup (r.map fun t=>.tup (t.map D.int)))->Vals vs us->sZ (Vk (Hi P w)) h k us
 | [],_,_,q,ru=>by have:=q.zero; subst this; cases ru; exact .nil
 | t :: r,_,_,q,ru=>by
  rw [ak] at q;cases q with
  | cons q1 q2 =>
   cases ru with
   | cons r1 r2 =>
    obtain⟨b,rfl,hb⟩:=Zh ok q1 r1;exact .cons hb (SE ok q2 r2)
theorem Rw(ok:qv P w H h){v:V}{u:Value}{k:PK}(q:cE K H v (qi k))(ru:RelV v u):∃ b,v=.ref b/\u=.ref b/\(L5 P w).is h k b:=by
 unfold qi at q;cases q with
 | tup e rs =>
  cases ru;obtain⟨_,bZ,r',o,h1,h2,n,h3⟩:=(show gc P w H h _ (.tup _) from ok _ _ e);exact⟨_,rfl,rfl,o,bZ.toArray,n,h1,h2,h3,by simpa using SE ok rs r'⟩
noncomputable def P1(K:ai)(H:Hp)(x:PK×Addr×Value)(p:PK×D):Prop:=x.1=p.1/\cE K H (.ref x.2.1) (qi p.1)/\∃ v,RelV v x.2.2/\cE K H v p.2
theorem CG:∀ {xs:List (PK×Addr×Value)} {ks vs:List V} {kvs:List (PK×D)},Se kvs ks vs xs->bt K H ks (kvs.map fun p=>qi p.1)->bt K H vs (kvs.map fun p=>p.2)->kF (P1 K H) xs kvs
 | [],ks,vs,kvs,r,r1,r2=>by
  have:kvs=[]:=by simpa using r.1
  subst this; exact .nil
 | x :: xs,ks,vs,kvs,r,r1,r2=>by
  obtain⟨e1,e2,e3⟩:=r;cases kvs with
  | nil=>cases e1
  | cons p kvs =>
   rw [ak,ak] at e1;injection e1 with e4 e5
   subst e2;rw [ak] at r1;rw [ak] at r1 r2;rw [ak] at e3;cases r1 with
   | cons q1 q2 =>
    cases r2 with
    | cons q3 q4 =>
     cases e3 with
     | cons q5 q6=>exact .cons ⟨e4.symm,q1,_,q5,q3⟩ (CG ⟨e5,rfl,q6⟩ q2 q4)
theorem T5{xs:List (PK×Addr×Value)}{kvs:List (PK×D)}(h:kF (P1 K H) xs kvs):∃ vs,Se kvs (xs.map fun x=>.ref x.2.1) vs xs/\bt K H (xs.map fun x=>.ref x.2.1) (kvs.map fun p=>qi p.1)/\bt K H vs (kvs.map fun p=>p.2):=by
 induction h with
 | nil=>exact⟨[],⟨rfl,rfl,.nil⟩,.nil,.nil⟩
 | cons h1 _ ih =>
  obtain⟨vs,⟨a,b,c⟩,r1,r2⟩:=ih;obtain⟨e1,e2,v,e3,e4⟩:=h1;exact⟨v :: vs,⟨by rw [ak,ak,a,e1],rfl,.cons e3 c⟩,.cons e2 r1,.cons e4 r2⟩
theorem P1.mono{H':Hp}(k:Kp H H'){x:PK×Addr×Value}{p:PK×D}(h:P1 K H x p):P1 K H' x p:=let ⟨a,b,v,c,d⟩:=h; ⟨a,b.mono k,v,c,d.mono k⟩
theorem E2{H':Hp}(k:Kp H H'){xs:List (PK×Addr×Value)}{kvs:List (PK×D)}(h:kF (P1 K H) xs kvs):kF (P1 K H') xs kvs:=Paired.Uq h fun _ _ z=>z.mono k
theorem T6(ok:qv P w H h){xs:List (PK×Addr×Value)}{kvs:List (PK×D)}(r:kF (P1 K H) xs kvs):∀ x∈xs,(L5 P w).is h x.1 x.2.1:=by
 induction r with
 | nil=>intro x hx; cases hx
 | cons h1 _ ih =>
  intro x hx;rcases List.mem_cons.mp hx with rfl | hx
  ·obtain⟨e1,e2,_⟩:=h1;obtain⟨b,e3,e4,e5⟩:=Rw ok e2 (rfl:RelV (.ref _) (.ref _));cases e4;rw [e1]; exact e5
  ·exact ih x hx
theorem yV(ok:qv P w H h){a:Addr}{xs:List (PK×Addr×Value)}{kvs:List (PK×D)}(p:Jp a xs h)(r:kF (P1 K H) xs kvs):h.DictOfH (L5 P w) a xs:=by
 obtain⟨z,y,o,es,ep,h1,h2,h3,h4,h5⟩:=p;exact⟨o,es,ep,h1,h2,h3,h4,T6 ok r,h5⟩
theorem CK{a:Addr}{xs:List (PK×Addr×Value)}(z:xs.length<=bg)(y:(a == dn)=false)(d:h.DictOfH (L5 P w) a xs):gc P w H h a (.ext (Jp a xs)):=by
 obtain⟨o,es,ep,h1,h2,h3,h4,_,h5⟩:=d;refine⟨⟨z,y,o,es,ep,h1,h2,h3,h4,h5⟩,⟨o,h1⟩,?_⟩;rintro g1 g2 ⟨z,y,o,es,ep,q1,q⟩ k;exact⟨z,y,o,es,ep,k _ q1,q⟩
theorem Oi{xs:List (PK×Addr×Value)}{kvs:List (PK×D)}(r:kF (P1 K H) xs kvs)(k:PK):(∃ q v d,atKey xs k=some q/\ql kvs k=some d/\RelV v q.2/\cE K H v d)\/(atKey xs k=none/\ql kvs k=none):=by
 induction r with
 | nil=>exact .inr ⟨rfl,rfl⟩
 | @cons x p xs kvs h1 _ ih =>
  obtain⟨e1,e2,v,e3,e4⟩:=h1;by_cases e:x.1=k
  ·left;refine⟨x.2,v,p.2,?_,?_,e3,e4⟩
   ·unfold atKey; rw [cG (by simpa using e)]; rfl
   ·unfold ql; rw [cG (by simpa using e1.symm.trans e)]; rfl
  ·have a1:atKey (x :: xs) k=atKey xs k:=by unfold atKey; rw [cH (by simpa using e)]
   have a2:ql (p :: kvs) k=ql kvs k:=by unfold ql; rw [cH (by simpa using fun z=>e (e1.trans z))]
   rw [a1,a2]; exact ih
theorem Q8{xs:List (PK×Addr×Value)}{kvs:List (PK×D)}(r:kF (P1 K H) xs kvs)(k:PK):(kvs.any fun p=>decide (p.1=k))=(atKey xs k).isSome:=by
 induction r with
 | nil=>rfl
 | @cons x p xs kvs h1 _ ih =>
  rw [lC];by_cases e:x.1=k
  ·have a1:(atKey (x :: xs) k).isSome=true:=by unfold atKey; rw [cG (by simpa using e)]; rfl
   rw [a1]; simp [h1.1 ▸ e]
  ·have a1:atKey (x :: xs) k=atKey xs k:=by unfold atKey; rw [cH (by simpa using e)]
   have:¬ p.1=k:=fun z=>e (h1.1.trans z);rw [a1,<-ih]; simp [this]
theorem Q7{xs:List (PK×Addr×Value)}{kvs:List (PK×D)}(r:kF (P1 K H) xs kvs){k:PK}{b:Addr}{v:V}{u:Value}{d:D}(rk:cE K H (.ref b) (qi k))(ru:RelV v u)(rd:cE K H v d):kF (P1 K H) (Hg xs k b u) (LK kvs k d):=by
 unfold Hg LK;rw [Q8 r k];split
 ·rename_i hs;clear rk hs;induction r with
  | nil=>exact .nil
  | @cons x p xs kvs h1 _ ih =>
   rw [ak,ak];refine .cons ?_ ih;unfold putAt;obtain⟨e1,e2,e3⟩:=h1;by_cases e:x.1=k
   ·rw [if_pos e,if_pos (e1.symm.trans e)];exact⟨e1,e2,v,ru,rd⟩
   ·rw [if_neg e,if_neg (fun z=>e (e1.trans z))];exact⟨e1,e2,e3⟩
 ·exact Qo r ⟨rfl,rk,v,ru,rd⟩
theorem J7{xs:List (PK×Addr×Value)}{kvs:List (PK×D)}(r:kF (P1 K H) xs kvs):xs.length=kvs.length:=iM r
theorem DR{a:Addr}{xs:List (PK×Addr×Value)}{kvs:List (PK×D)}(e:H a=some (.ext (Jp a xs)))(r:kF (P1 K H) xs kvs):Lg K H a (.sJ kvs):=by
 obtain⟨vs,a1,a2,a3⟩:=T5 r;exact⟨xs,_,vs,e,a1,a2,a3⟩
theorem Jb{G:Gp}{a:Addr}{kvs:List (PK×D)}(ab:lQ K H G)(hg:G a=some (.sJ kvs)):∃ xs,H a=some (.ext (Jp a xs))/\kF (P1 K H) xs kvs:=by
 obtain⟨xs,ks,vs,e,a1,a2,a3⟩:=ab a _ hg;exact⟨xs,e,CG a1 a2 a3⟩
theorem Kp.VY{p:Addr}{o:HO}{φ:Heap->Prop}(hp:H p=some (.ext φ)):Kp H (upd H p o) :=
 ⟨fun a ys e=>by rw [bX (by rintro rfl; rw [hp] at e; cases e)]; exact e,fun a ob u e=>by rw [bX (by rintro rfl; rw [hp] at e; cases e)]; exact e⟩
theorem Ds{φ:Heap->Prop}{a:Addr}(ok:qv P w H h)(e:H a=some (.ext φ)):φ h:=(ok a _ e).1
end
section
variable {X:Cx} {elts:List Expr} {kk:Nat} {AG apos kb pos:Pos} {o i k v:Expr} {to ti tk tv:gI}
theorem JP:Sa X "dict" tyP:=by
 intro pins s σ H G x d u I ab r rd h;cases rd with
 | ref l =>
  unfold tyP at h;dsimp only at h;split at h
  ·rename_i kvs hg;obtain⟨xs,e,_⟩:=Jb ab hg;obtain⟨_,_,o,es,ep,h1,h2,_⟩:=Ds I.cL e;cases r;exact⟨⟨o,h1,h2.1⟩,fun a z=>by cases z; exact⟨o,h1,h2.2.1⟩⟩
  ·exact h.elim
 | oE hq _ _ _ =>
  obtain⟨_,_,o,es,ep,h1,h2,_⟩:=(I.cL _ _ hq).2.1;cases r;exact⟨⟨o,h1,h2.1⟩,fun a z=>by cases z; exact⟨o,h1,h2.2.1⟩⟩
 | _=>exact bW h
theorem KI{pins:List (Addr×Obj)}{s:aA}{σ:L2.St}{H:Hp}{G:Gp}{a:Addr}{kvs:List (PK×D)}{ys:List (PK×Addr×Value)}{pk:PK}{w w2:V}{u1 u2:Value}{d':D}{Q:DK}(hu:X.A.units+64 < cLine)(I:Inv X pins σ H s)(ab:lQ X.K H G)(pd:Jp a ys s.heap)(r:kF (P1 X.K H) ys kvs)(EJ:cE X.K H w (qi pk))(LF:RelV w u1)(QU:cE X.K H w2 d')(N7:RelV w2 u2)(q:Q ((ql kvs pk).getD d') G) :
  wpAny (model X.prog X.w) X.A (call (.builtin "dict.get") [.ref a,u1,u2]) (um X pins σ H G Q) X.xe s:=by
 have dd:=yV I.cL pd r;obtain⟨b,rfl,rfl,hb⟩:=Rw I.cL EJ LF;have hT:s.TypeIs (.ref a) "dict":=by obtain⟨o,es,ep,ho,hc,_⟩:=dd; exact⟨o,ho,hc.1⟩
 refine yi fB hT JG (Hr _ _ _) (meetsH_dict_get_default (L5 X.prog X.w) a b pd.2.1 u2) ⟨Fc (by lia),pk,ys,hb,dd,?_⟩;rcases Oi r pk with ⟨q1,v1,d1,h1,h2,h3,h4⟩ | ⟨h1,h2⟩
 ·rw [h1];rw [h2] at q;exact⟨v1,H,d1,G,I.tok _,.refl ab,h3,h4,q⟩
 ·rw [h1];rw [h2] at q;exact⟨w2,H,d',G,I.tok _,.refl ab,N7,QU,q⟩
theorem Ff (hu:X.A.units+64 < cLine):Ju X "dict.get" Fo:=by
 intro pins s σ H G x d xs ds v us Q I ab rx rd M8 Ct q;unfold Fo at q;split at q
 ·rename_i a k d';obtain⟨kvs,pk,hg,rfl,q⟩:=q;cases rd;obtain⟨w,w2,rfl,EJ,QU⟩:=Ct.two;obtain⟨u1,u2,rfl,LF,N7⟩:=vals2 M8;cases rx;obtain⟨ys,e,r⟩:=Jb ab hg;exact KI hu I ab (Ds I.cL e) r EJ LF QU N7 q
 ·rename_i kvs k d';obtain⟨pk,rfl,q⟩:=q;obtain⟨w,w2,rfl,EJ,QU⟩:=Ct.two;obtain⟨u1,u2,rfl,LF,N7⟩:=vals2 M8;cases rd with
  | oE hq rel rk rv =>
   cases rx;exact KI hu I ab (I.cL _ _ hq).2.1 (CG rel rk rv) EJ LF QU N7 q
 ·exact q.elim
theorem RT{pins:List (Addr×Obj)}{s:aA}{σ:L2.St}{H:Hp}{G:Gp}{a:Addr}{kvs:List (PK×D)}{pk:PK}{y w:V}{u r:Value}{d:D}{Q:Unit->aA->Prop}(hu:X.A.units+64 < cLine)(I:Inv X pins σ H s)(ab:lQ X.K H G)(hg:G a=some (.sJ kvs))(hz:kvs.length < SZ)(ry:RelV y u)(dy:cE X.K H y (qi pk))(rv:RelV w r)(dv:cE X.K H w d)
  (h:∀ H' s',Inv X pins σ H' s'->Mv X.K H G H' (eY G a (.sJ (LK kvs pk d)))->Q () s'):wpAny (model X.prog X.w) X.A (setItem (.ref a) u r) Q X.xe s:=by
 obtain⟨xs,e,rr⟩:=Jb ab hg;have pd:=Ds I.cL e;have dd:=yV I.cL pd rr;obtain⟨b,rfl,rfl,hb⟩:=Rw I.cL dy ry;have sz:bg=16777216:=c6;have hl:xs.length < bg:=by rw [J7 rr,sz]; exact hz
 refine wpAny_setItem_heap (hsz:=by lia) (Fc (by lia)) hb dd fun h' BW hs=>?_;have kp:Kp H (upd H a (.ext (Jp a (Hg xs pk b r)))):=.VY e;have pr:=E2 kp (Q7 rr dy rv dv);have he:∃ q,h'.get? a=some q:=let ⟨q,_,_,hq,_⟩:=BW; ⟨q,hq⟩
 have BE:(Hg xs pk b r).length<=bg:=by
  unfold Hg;split
  ·rw [au]; lia
  ·rw [aJ]; show xs.length+1<=_; lia
 exact h _ _ (sL I (by rw [e]; exact gk) hs he (CK BE pd.2.1 BW)) (.put ab hg kp (DR cf pr))
theorem E5(hu:X.A.units+64 < cLine)(ho:g6 X o to)(hi:g6 X i ti)
  (ha:autoParam (∀ v,Jz (.Subscript o i pos) X.env v=(do
   let ov ← Nr [v] (eval o X.env)
   let iv ← Nr [v,ov] (eval i X.env)
   standAt pos
   Nr [v,ov,iv] (setItem ov iv v)
   release [v,ov,iv] [])) Ai._auto_1):MQ X (.Subscript o i pos) (FK to ti):=by
 intro E pins s σ H τ G w d u Q hE I r rd h;rw [ha];refine ah (fe (j9 ho hE I h fun x H1 dx G1 ov s1 I1 m1 r1 jM q1=>?_));refine ah (fe (j9 hi hE I1 q1 fun y H2 dy G2 iv s2 nH m2 r2 yN q2=>?_));refine ah (Ea (ah (fe ?_)));have Hb:=m1.trans m2;have Vg:=rd.mono (Hb.kp I.ab);have Ha:=I.st.mono (Hb.kp I.ab);have YC:=jM.mono (m2.kp I1.ab);unfold HN at q2;split at q2
 ·rename_i l;cases YC;cases r1;obtain⟨kvs,pk,hg,rfl,hz,q⟩:=q2;exact RT hu nH.inv nH.ab hg hz r2 yN r Vg fun H4 s4 I4 m4=>wpAny_release ⟨σ,H4,τ,_,⟨I4,Ha.mono (m4.kp nH.ab),m4.ab⟩,Hb.trans m4,q⟩
 ·exact q2.elim
theorem BU {P:bN} {w:World} {H:Hp} (h:Heap) (hb:dn < h.objs.size):gc P w H (h.push { cls:=.type "dict",data:=.dict #[] }) h.objs.size (.ext (Jp h.objs.size [])) :=
 CK (cQ _) (beq_eq_false_iff_ne.mpr (gm (bQ hb))) ⟨_,#[],0,bH _ rfl,⟨rfl,rfl,rfl⟩,rfl,rfl,(fun x hx=>absurd hx (by simp)),cR⟩
theorem Kc:g6 X (.Dict [] [] pos) P2:=by
 intro E pins s σ H τ G Q hE I h;have hn:=I.inv.cL.fresh (aH s.heap.objs.size);have I1:=I.inv.laid (a:=s.heap.objs.size) (o:=.ext (Jp s.heap.objs.size [])) (h':=s.heap.push { cls:=.type "dict",data:=.dict #[] }) (t':=s.toks) (fun _ _ q=>aM _ q) (aH _) (BU s.heap I.inv.big);exact wpAny_Dict_empty ⟨.ref s.heap.objs.size,_,.ref _,_,I1,.new I.ab hn (DR cf .nil),rfl,.ref _,h _ (I.ab.free hn)⟩
theorem Ou(hu:X.A.units+64 < cLine)(hk:g6 X k tk)(hv:g6 X v tv):g6 X (.Dict [some k] [v] pos) (PZ tk tv):=by
 intro E pins s σ H τ G Q hE I h;have hn:=I.inv.cL.fresh (aH s.heap.objs.size);have I1:=I.inv.laid (a:=s.heap.objs.size) (o:=.ext (Jp s.heap.objs.size [])) (h':=s.heap.push { cls:=.type "dict",data:=.dict #[] }) (t':=s.toks) (fun _ _ q=>aM _ q) (aH _) (BU s.heap I.inv.big);have mh:Mv X.K H G (upd H s.heap.objs.size (.ext (Jp s.heap.objs.size []))) G:=.Mj I.ab hn;have I2:I2 X pins σ (upd H s.heap.objs.size (.ext (Jp s.heap.objs.size []))) τ G { s with heap:=s.heap.push { cls:=.type "dict",data:=.dict #[] },toks:=s.toks }:=⟨I1,I.st.mono (.new hn),mh.ab⟩;refine wpAny_Dict_any (by rfl) (by rfl) (by simp) (show 1<=15 by decide) ?_;refine pairTrees_cons_walk (j9 hk hE I2 h fun x H1 dx G1 u s1 I3 m1 r1 jM q1=>?_);refine j9 hv hE I3 q1 fun y H2 dy G2 w s2 I4 m2 r2 yN q2=>?_;obtain⟨pk,rfl,q2⟩:=q2;refine pairTrees_nil_walk ?_;have g0:G s.heap.objs.size=none:=I.ab.free hn;obtain⟨p1,p2⟩:=m1.keep _ _ (cf (H:=H) (a:=s.heap.objs.size) (o:=.ext (Jp s.heap.objs.size []))) g0;obtain⟨p3,p4⟩:=m2.keep _ _ p1 p2;have VS:=jM.mono (m2.kp I3.ab);have pd:=Ds I4.inv.cL p3;have dd:=yV (K:=X.K) (kvs:=[]) I4.inv.cL pd .nil;obtain⟨b,rfl,rfl,hb⟩:=Rw I4.inv.cL VS r1;unfold storeAll;rw [List.forIn_cons];refine ah (ah (wpAny_dictSet_heap (hsz:=cQ _) (LW (by lia)) hb dd fun h' BW hs=>aE ?_));show wpAny _ _ (forIn [] PUnit.unit _) _ _ _;rw [List.forIn_nil];refine aE ?_;have he:∃ q,h'.get? s.heap.objs.size=some q:=let ⟨q,_,_,hq,_⟩:=BW; ⟨q,hq⟩
 have es:Hg [] pk b w=[(pk,b,w)]:=rfl;rw [es] at BW;have kp:Kp H2 (upd H2 s.heap.objs.size (.ext (Jp s.heap.objs.size [(pk,b,w)]))):=.VY p3;have I5:=sL (t':=s2.toks+(L5 X.prog X.w).draws pk) I4.inv (by rw [p3]; exact gk) hs he (CK (by exact(show 1<=bg by decide)) pd.2.1 BW);have Hb:=(mh.trans m1).trans m2;refine⟨.ref s.heap.objs.size,_,.ref s.heap.objs.size,_,I5,?_,rfl,.ref _,q2 _ p4⟩;refine⟨fun a o e n=>?_,fun a n=>?_,fun a g e=>?_⟩
 ·have ne:a≠s.heap.objs.size:=eC e hn;obtain⟨k1,k2⟩:=Hb.keep a o e n;exact⟨by rw [bX ne]; exact k1,by rw [cF ne]; exact k2⟩
 ·by_cases ha:a=s.heap.objs.size
  ·rw [ha,cf]; simp
  ·rw [bX ha]; exact Hb.mK a n
 ·by_cases ha:a=s.heap.objs.size
  ·subst ha;rw [az] at e; cases e;exact DR cf (E2 kp (.cons ⟨rfl,VS,y,r2,yN⟩ .nil))
  ·rw [cF ha] at e;exact(Hb.ab a g e).mono kp (bX ha)
theorem yU (ho:g6 X o to) (zB:autoParam (qw o "items" X.env (eval o X.env)=eval o X.env) Ar._auto_1) (zA:autoParam ((apos.endLine == kb.line)=true) Ar._auto_1) :
  MP X (.Tuple elts kk AG) (.Call (.Attribute o "items" apos) [] [] kb) (vo to):=by
 intro E pins s σ H τ G R hE I h;refine vV zB zA (j9 ho hE I h fun x H1 d G1 v s1 I1 m1 r1 jM q1=>?_);cases d with
 | oE kvs =>
  have q1:R (kvs.map fun p=>.tup [qi p.1,p.2]) (fun _=>True) G1:=q1;cases jM with
  | oE hq rel rk rv =>
  rename_i a ob xs ks vs;have pr:=CG rel rk rv;obtain⟨z,ns,o',es,ep,D6,ex,dd,hl,nd⟩:=(I1.inv.cL a _ hq).2.1;have eo:o'=ob:=by have:=(I1.inv.cL a _ hq).1; rw [D6] at this; exact bc this
  subst eo;have t1:s1.TypeIs (.ref a) "dict":=⟨_,D6,ex.1⟩;have t2:∀ b,fU a=.ref b->∃ ob,s1.heap.get? b=some ob/\ob.dict=none:=fun b z=>by cases z; exact⟨_,D6,ex.2.1⟩
  have l1:=congrArg dH hl;rw [au,fk] at l1;have l2:=J7 pr;have l3:vs.length=xs.length:=by have:=rel.2.2.length; simpa using this
  have ps:∀ i (h:i < es.size),∃ p,((xs.zip vs).map fun z=>(V.ref z.1.2.1,z.2))[i]?=some p/\RelV p.1 es[i].key/\RelV p.2 es[i].val:=fun i hi=>by
   have i2:i < xs.length:=by lia
   have i3:i < vs.length:=by lia
   have ee:es[i]=⟨hP xs[i].1,.ref xs[i].2.1,xs[i].2.2⟩:=by
    have:=congrArg (fun l=>l[i]?) hl;simp only [bI,ay i2] at this;simpa [hi] using this
   refine⟨(V.ref xs[i].2.1,vs[i]),by rw [bI,ay (by rw [ly]; lia),tK]; rfl,?_⟩;rw [ee];refine⟨rfl,?_⟩;obtain⟨u,XM,ZN⟩:=rel.2.2.get (ay i3);rw [bI,ay i2] at XM;cases XM;exact ZN
  have TZ:∀ (i:Nat) (q:PK×D),kvs[i]?=some q->∃ p,((xs.zip vs).map fun z=>(V.ref z.1.2.1,z.2))[i]?=some p/\cE X.K H1 p.1 (qi q.1)/\cE X.K H1 p.2 q.2:=fun i q e=>by
   have i1:i < kvs.length:=(List.getElem?_eq_some_iff.mp e).1;have i2:i < xs.length:=by lia
   have i3:i < vs.length:=by lia
   refine⟨(V.ref xs[i].2.1,vs[i]),by rw [bI,ay (by rw [ly]; lia),tK]; rfl,?_,?_⟩
   ·obtain⟨w,hw,qA⟩:=rk.get (i:=i) (d:=qi q.1) (by rw [bI,e]; rfl);rw [rel.2.1,bI,ay i2] at hw;cases hw;exact qA
   ·obtain⟨w,hw,qA⟩:=rv.get (i:=i) (d:=q.2) (by rw [bI,e]; rfl);rw [ay i3] at hw;cases hw;exact qA
  have hlen:kvs.length=es.size:=by lia
  cases r1;refine⟨"dict","dict.items",cU,fW,qK,t1,t2,lK rfl (xu ?_)⟩;refine yi fW t1 qx (o8 _) (u6 a ns) ⟨t1,?_⟩;have I2:Inv X pins σ H1 { s1 with heap:=s1.heap.push { cls:=.type "dict_items",data:=.fields #[.ref a] } }:=I1.inv.kept (t':=s1.toks) fun b o e=>aM _ e;refine xi (s:={ s1 with heap:=s1.heap.push { cls:=.type "dict_items",data:=.fields #[.ref a] } }) ⟨_,bH _ rfl,rfl,rfl⟩ (aM _ (I1.inv.cL a _ hq).1) dd ?_;refine⟨_,[_],_,_,H1,G1,kvs.map (fun p=>.tup [qi p.1,p.2]),_,rfl,I2.kept (t':=s1.toks) fun b o e=>aM _ e,m1,wV a _ _ es ep _ dd ps,⟨.none,.none,bH _ rfl⟩,fun b hb=>?_,fun i H2 G2 k ab _=>?_,q1⟩
  ·have e:=List.mem_singleton.mp hb;subst e;exact I2.AO (aH _) (I2.cL.fresh (aH _))
  ·have BE:=k.kd _ _ _ hq;refine⟨fun d hd=>?_,fun hle=>⟨⟨_,BE⟩,by rw [<-hlen]; simpa using hle⟩⟩;rw [bI] at hd;cases Hd:kvs[i]? with
   | none=>rw [Hd] at hd; cases hd
   | some q =>
    rw [Hd] at hd;obtain⟨p,hp,rk,rp⟩:=TZ i q Hd;have hi:i < es.size:=by rw [<-hlen]; exact(List.getElem?_eq_some_iff.mp Hd).1
    refine⟨⟨⟨_,BE⟩,hi⟩,?_⟩;rintro x H3 ⟨T,p',ex,hT,e3,hy⟩;subst ex e3;rw [hp] at hy;cases hy;have ed:D.tup [qi q.1,q.2]=d:=by simpa using hd
    subst ed;exact⟨.tup cf (.cons ((rk.mono k).mono (.new hT)) (.cons ((rp.mono k).mono (.new hT)) .nil)),.Mj ab hT⟩
 | _=>exact q1.elim
theorem mx.drop{K:ai}{H:Hp}{kv:List (List Key×V)}{kvs:List (D×D)}(r:mx K H kv kvs)(k:List Key):mx K H (kv.filter fun p=>decide (p.1≠k)) (kvs.filter fun p=>!iN p.1 (.tup (k.map eM))):=by
 induction r using mx.ind with
 | nil=>exact .nil
 | @cons j v d r t rd rs ih =>
  rw [bS,bS];simp only [rL];by_cases e:j=k
  ·simp only [e,ne_eq,not_true_eq_false,decide_false,decide_true,bL,ar,if_false]; exact ih
  ·simp only [e,ne_eq,not_false_eq_true,decide_true,decide_false,di,if_true]; exact .cons rd ih
theorem KT.drop{H:Hp}{kvs:List (List Key×V)}{xs:List (List Key×Addr×Value)}(r:KT H kvs xs)(k:List Key):KT H (kvs.filter fun p=>decide (p.1≠k)) (Tu xs k):=by
 unfold Tu;induction r with
 | nil=>exact .nil
 | @cons p q ps qs h1 _ ih =>
  rw [bS,bS];by_cases e:p.1=k
  ·have e2:q.1=k:=h1.1.symm.trans e;simp only [e,e2,ne_eq,not_true_eq_false,decide_false,ar,if_false]; exact ih
  ·have e2:¬ q.1=k:=fun z=>e (h1.1.trans z);simp only [e,e2,ne_eq,not_false_eq_true,decide_true,if_true]; exact .cons h1 ih
theorem Fe (hu:X.A.units+64 < cLine):Ju X "dict.pop" Fm:=by
 intro pins s σ H G x d xs ds v us Q I ab rx rd M8 Ct q;unfold Fm at q;split at q
 ·rename_i a k;obtain⟨kvs,d',hg,⟨hk,ha,hl⟩,q⟩:=q;cases rd;obtain⟨w,rfl,EJ⟩:=Ct.one;obtain⟨u1,rfl,LF⟩:=vals1 M8;cases rx;obtain⟨H',I',m,h⟩:=DA I ab hg (by unfold iu; rw [oW]; right; rw [hk,ha]; rfl) EJ;rcases h with ⟨kv,kk,hv,rs,rfl,rfl⟩ | ⟨kv,kk,b,hv,rs,rfl,rfl,hb⟩
  ·cases kk <;> simp [eM,kQ] at hk
  ·cases LF;obtain⟨z,hd,ys,rel,dd⟩:=PQ I'.cL hv;rcases rs.look kk with ⟨v',d2,e1,e2,rr⟩ | ⟨e1,e2⟩
   ·rw [e2] at hl;cases hl;obtain⟨w',hw,qA⟩:=wQ.some_of (v:=v') (o:=(atKey ys kk).map (·.2)) (by rw [<-e1]; exact rel.val kk);obtain⟨p,hp,pP⟩:=Option.map_eq_some_iff.mp hw;refine Oj (knd:=iW (cY X.prog X.w)) (mI (by lia)) (wB I'.cL hb) dd hp (by rw [<-iM rel]; exact z) fun h' BW hs=>?_;rw [pP];have kp:Kp H' (upd H' a (.dT (kv.filter fun p=>decide (p.1≠kk)))):=.putD hv (.inr ⟨_,rfl⟩);obtain⟨q',es,ep,hq,h2,h3,h4,_,h5⟩:=BW;have I5:=sL (t':=s.toks+(iW (cY X.prog X.w)).draws kk) I' (by rw [hv]; exact gk) hs ⟨q',hq⟩ (ob:=.dT (kv.filter fun p=>decide (p.1≠kk))) ⟨aZ (eg _ _) z,hd,_,(KT.drop rel kk).keeps fun c ys ec=>by rw [bX (SG ec hv (fun z=>nomatch z))]; exact ec,q',es,ep,hq,h2,h3,h4,h5⟩;exact⟨v',_,d',_,I5,m.trans (.put m.ab hg kp (.dt cf ((rs.drop kk).mono kp))),qA,rr.mono kp,q⟩
   ·rw [e2] at hl; cases hl
 ·exact q.elim
end
end K2
end
section
namespace K2
open PySem PySem.W PySem.Spec PyProof.Rows PySem.Calls
theorem L3{p q:bN}{loose:List Str}{Xt:aA->Bool}{α:Type}{Yf:aA->α}{Ya:World->α}{N:Nat}(e:opening p=plainProg p.main.scope.names)(hN:Nat.ble 600 N=true)(f:∀ s,fenceModules? p s=some s)
  (h:∀ (w:World) (os:OsState),(topFrom treeTable p w N ⟨Nv w.params,Lm [],Hm,Nu,os⟩).map (fun s=>(openSeen q loose (yh p.main.body) Xt true s,Yf s))=some (openGood q loose,Ya w)):LeftO p q loose Xt Yf Ya N:=fun w=>by
 obtain⟨⟨h',gs,d,k,os⟩,e1,e2⟩:=Option.map_eq_some_iff.mp (boot_open e hN f w);obtain⟨rfl,rfl,rfl,rfl⟩:h'=Nv w.params/\gs=Lm []/\d=Hm/\k=Nu:=by simpa using e2
 unfold openEnds;rw [e1];exact h w os
noncomputable abbrev JR(l:OpenLaw)(q:bN):Bool:=chainsOk q&&opensWell l.row.prog&&(frees l.row.toRowW&&l.row.within.isEmpty)
noncomputable abbrev Tt(l:OpenLaw)(q:bN)(s:aA):Bool:=xlAt q [] s&&recOk l.row.records s
theorem Ml{l:OpenLaw}{q:bN}{loose:List Str}{K:Params->Frag}{as:List Addr}{d:DefRec}{N:Nat}(ok:l.wellSaid=true)(e:opening l.row.prog=plainProg l.row.prog.main.scope.names)(hN:Nat.ble 600 N=true)(f:∀ s,fenceModules? l.row.prog s=some s)(hK:∀ P,as=(K P).map (·.1))
  (h:∀ (w:World) (os:OsState),(topFrom treeTable l.row.prog w N ⟨Nv w.params,Lm [],Hm,Nu,os⟩).map (fun s=>(openSeen q loose (yh l.row.prog.main.body) (Tt l q) true s,as.map s.heap.get?))=some (openGood q loose,(K w.params).map fun p=>some p.2))
  (hd:defOf q l.row.name=some (d,[])) (hp:l.row.prog.theDef l.row.name=some (d.params,d.body,d.scope)) (hk:kwWritten? d.params.kwonlyargs d.params.kw_defaults=some []) (hr:(!l.row.writes||l.row.records.isEmpty)=true) (ht:JR l q=true) (hb:l.row.prog.bare) (hw:l.row.toRowW.promised)
  (c:WalkO q loose (XL q []) (InK K) l.row.toRowW d [] fun f vs=>JA f vs):l.Holds :=
 holds_law ok fun k1=>holds_open (L3 (Yf:=Hook.obs (kHook K as hK)) (Ya:=Hook.val (kHook K as hK)) e hN f h) (Hook.of (kHook K as hK)) (Hook.keeps (kHook K as hK)) (fun s x=>xl_of s (Bool.and_eq_true_iff.mp x).1) XL.keeps hd hp hk (fun s x=>recFacts_of (Bool.and_eq_true_iff.mp x).2) hr k1 ht hb hw c
structure At(K:Frag)(x:Str)(st:Stmt)(f:Addr)(fd:aI):Prop where
 a:nsIn K cb x=some (some (.ref f))
 F:L2.oy K x x st f fd
theorem At.mg{K:Frag}{h:Heap}{mg:Str->Option Value}{x:Str}{st:Stmt}{f:Addr}{fd:aI}(z:At K x st f fd)(X:K.In h)(G:h.Ns cb mg):mg x=some (.ref f):=mg_of X G z.a
theorem fi{K:Frag}{x:Str}{st:Stmt}{f:Addr}{oc:Value}{od an:Option Addr}{Oz:Array (Option Value)}{kV doc pm oY ct:Value}(a:autoParam (nsIn K cb x=some (some (.ref f))) Aq._auto_1)(l:autoParam (K.lookup f=some ⟨oc,od,.func (fnOf x x (L2.nQ st) (L2.kA st) (L2.bo st) .none kV doc pm an oY ct),Oz⟩) Aq._auto_1)
  (c:autoParam (codeIn K oY x=true) Aq._auto_1) (k:autoParam (keepIn K (.ref f)=true) Aq._auto_1):At K x st f (fnOf x x (L2.nQ st) (L2.kA st) (L2.bo st) .none kV doc pm an oY ct):=⟨a,L2.UP l c k⟩
structure ny(P:bN)(w:World)(K:Frag)(mg:Str->Option Value)(base:Heap)(CX:L2.MX)(k:Nat)(f:Addr)(fd:aI)(x:Str)(ps:List Str)(sp:L2.Sp):Prop where
 ok:L2.gf P w K mg base CX k f fd ps sp
 mg:mg x=some (.ref f)
 kp:keepIn K (.ref f)=true
 bi:L2.Binds K fd ps []
end K2
end
section
set_option maxHeartbeats 1000000
namespace K2
namespace J
section
variable {α:Type} [DecidableEq α]
noncomputable def Iv(f:α->α):Prop:=∀ e,f (f e)=e
noncomputable def jn(f:α->α)(x y:α):α->α:=fun e=>if e=x\/e=y then e else if e=f x then f y else if e=f y then f x else f e
noncomputable def cl(f:α->α)(x y:α):Nat:=if f x=y then 1 else 0
theorem Ws{f:α->α}(h:Iv f){x y:α}(hx:f x≠x)(hy:f y≠y)(Vn:x≠y):Iv (jn f x y):=by
 intro e;have h1:=h x;have h2:=h y;have h3:=h e;unfold jn
 grind (splits:=40)
theorem O4{f:α->α}(h:Iv f){x y e:α}(Vn:x≠y)(he:jn f x y e=e):e=x\/e=y\/f e=e:=by
 have h1:=h x;have h2:=h y;unfold jn at he
 grind (splits:=40)
theorem Wr{f:α->α}{x y:α}:jn f x y x=x:=by unfold jn; grind
theorem Wq{f:α->α}{x y:α}:jn f x y y=y:=by unfold jn; grind
theorem Kr{f:α->α}{x y:α}:jn f x y=jn f y x:=by funext e; unfold jn; grind
theorem R0{f:α->α}(h:Iv f){x y:α}:cl f x y=cl f y x:=by
 have h1:=h x;have h2:=h y;unfold cl; grind
theorem RE{f:α->α}(h:Iv f){x y z w:α}(hx:f x≠x)(hy:f y≠y)(hz:f z≠z)(hw:f w≠w)(xy:x≠y)(xz:x≠z)(xw:x≠w)(yz:y≠z)(yw:y≠w)(zw:z≠w):jn (jn f x y) z w=jn (jn f z w) x y:=by
 funext e;have h1:=h x;have h2:=h y;have h3:=h z;have h4:=h w;have h5:=h e;unfold jn
 grind (splits:=40)
theorem R1{f:α->α}(h:Iv f){x y z w:α}(hx:f x≠x)(hy:f y≠y)(hz:f z≠z)(hw:f w≠w)(xy:x≠y)(xz:x≠z)(xw:x≠w)(yz:y≠z)(yw:y≠w)(zw:z≠w):cl f x y+cl (jn f x y) z w=cl f z w+cl (jn f z w) x y:=by
 have h1:=h x;have h2:=h y;have h3:=h z;have h4:=h w;unfold cl jn
 grind (splits:=40)
end
end J
end K2
end
section
set_option maxHeartbeats 1000000
namespace K2
namespace J
section
variable {α:Type} [DecidableEq α]
noncomputable abbrev Pr(α:Type):=List (α×α)
noncomputable def iV(f:α->α):Pr α->α->α
 | []=>f
 | p :: ps=>iV (jn f p.1 p.2) ps
noncomputable def cls(f:α->α):Pr α->Nat
 | []=>0
 | p :: ps=>cl f p.1 p.2+cls (jn f p.1 p.2) ps
noncomputable def es:Pr α->List α
 | []=>[]
 | p :: ps=>p.1 :: p.2 :: es ps
structure Ok(f:α->α)(ps:Pr α):Prop where
 iv:Iv f
 nd:(es ps).Nodup
 dm:∀ e∈es ps,f e≠e
theorem pR{ps qs:Pr α}(h:ps.Perm qs):(es ps).Perm (es qs):=by
 induction h with
 | nil=>exact .nil
 | cons x _ ih=>exact(ih.cons _).cons _
 | swap x y l =>
  show (y.1 :: y.2 :: x.1 :: x.2 :: es l).Perm (x.1 :: x.2 :: y.1 :: y.2 :: es l);have:∀ (a b c d:α) (l:List α),(a :: b :: c :: d :: l).Perm (c :: d :: a :: b :: l):=fun a b c d l=>by
   refine((ff c b _).cons a).trans ?_;refine(ff c a _).trans ?_;refine jT c ?_;refine((ff d b _).cons a).trans ?_;exact ff d a _
  exact this _ _ _ _ _
 | trans _ _ a b=>exact a.trans b
theorem sI(ps qs:Pr α):es (ps++qs)=es ps++es qs:=by
 induction ps with
 | nil=>rfl
 | cons p ps ih=>rw [aB,es,es,ih]; rfl
theorem IY(ps:Pr α):(es ps).length=2 * ps.length:=by
 induction ps with
 | nil=>rfl
 | cons p ps ih=>rw [es,aj,aj,ih,aj]; lia
theorem mY{ps:Pr α}{e:α}:e∈es ps↔∃ p∈ps,e=p.1\/e=p.2:=by
 induction ps with
 | nil=>simp [es]
 | cons p ps ih =>
  rw [es,aY,aY,ih];constructor
  ·rintro(h | h | ⟨q,h,z⟩)
   ·exact⟨p,by simp,.inl h⟩
   ·exact⟨p,by simp,.inr h⟩
   ·exact⟨q,aO _ h,z⟩
  ·rintro⟨q,h,z⟩;rcases List.mem_cons.mp h with rfl | h
   ·rcases z with z | z
    ·exact .inl z
    ·exact .inr (.inl z)
   ·exact .inr (.inr ⟨q,h,z⟩)
theorem Ok.perm{f:α->α}{ps qs:Pr α}(h:ps.Perm qs)(o:Ok f ps):Ok f qs :=
 ⟨o.iv,(pR h).nodup_iff.mp o.nd,fun e he=>o.dm e ((pR h).mem_iff.mpr he)⟩
theorem Ok.hd{f:α->α}{p:α×α}{ps:Pr α}(o:Ok f (p :: ps)):p.1≠p.2/\f p.1≠p.1/\f p.2≠p.2:=by
 have n:=o.nd;rw [es,aP] at n;exact⟨fun z=>n.1 (by rw [z]; exact c4),o.dm _ (by simp [es]),o.dm _ (by simp [es])⟩
theorem Ok.tl{f:α->α}{p:α×α}{ps:Pr α}(o:Ok f (p :: ps)):Ok (jn f p.1 p.2) ps:=by
 obtain⟨h1,h2,h3⟩:=o.hd;have n:=o.nd;rw [es,aP,aP] at n;refine⟨Ws o.iv h2 h3 h1,n.2.2,fun e he z=>?_⟩;rcases O4 o.iv h1 z with z | z | z
 ·exact n.1 (by rw [<-z]; exact aO _ he)
 ·exact n.2.1 (by rw [<-z]; exact he)
 ·exact o.dm e (by simp [es,he]) z
theorem Ok.left{f:α->α}{ps qs:Pr α}(o:Ok f (ps++qs)):Ok (iV f ps) qs:=by
 induction ps generalizing f with
 | nil=>exact o
 | cons p ps ih=>exact ih o.tl
theorem Ok.pre{f:α->α}{ps qs:Pr α}(o:Ok f (ps++qs)):Ok f ps :=
 ⟨o.iv,by have:=o.nd; rw [sI] at this; exact(List.nodup_append.mp this).1,fun e he=>o.dm e (by rw [sI]; exact oe _ he)⟩
theorem tT(f:α->α)(ps qs:Pr α):iV f (ps++qs)=iV (iV f ps) qs:=by
 induction ps generalizing f with
 | nil=>rfl
 | cons p ps ih=>exact ih _
theorem uc(f:α->α)(ps qs:Pr α):cls f (ps++qs)=cls f ps+cls (iV f ps) qs:=by
 induction ps generalizing f with
 | nil=>simp [cls,iV]
 | cons p ps ih=>rw [aB,cls,cls,ih,iV,oA]
theorem FA{f:α->α}{ps qs:Pr α}(h:ps.Perm qs)(o:Ok f ps):iV f ps=iV f qs/\cls f ps=cls f qs:=by
 induction h generalizing f with
 | nil=>exact⟨rfl,rfl⟩
 | cons x _ ih =>
  obtain⟨a,b⟩:=ih o.tl;exact⟨a,by rw [cls,cls,b]⟩
 | swap x y l =>
  have n:=o.nd;simp only [es,aP,aY,not_or] at n;have d:∀ e,e=y.1\/e=y.2\/e=x.1\/e=x.2->f e≠e:=fun e he=>o.dm e (by
   simp only [es,aY];rcases he with h | h | h | h <;> simp [h])
  have a:=RE o.iv (d y.1 (by simp)) (d y.2 (by simp)) (d x.1 (by simp)) (d x.2 (by simp)) n.1.1 n.1.2.1 n.1.2.2.1 n.2.1.1 n.2.1.2.1 n.2.2.1.1;have b:=R1 o.iv (d y.1 (by simp)) (d y.2 (by simp)) (d x.1 (by simp)) (d x.2 (by simp)) n.1.1 n.1.2.1 n.1.2.2.1 n.2.1.1 n.2.1.2.1 n.2.2.1.1;refine⟨?_,?_⟩
  ·show iV (jn (jn f y.1 y.2) x.1 x.2) l=iV (jn (jn f x.1 x.2) y.1 y.2) l;rw [a]
  ·show cl f y.1 y.2+(cl (jn f y.1 y.2) x.1 x.2+cls (jn (jn f y.1 y.2) x.1 x.2) l)=cl f x.1 x.2+(cl (jn f x.1 x.2) y.1 y.2+cls (jn (jn f x.1 x.2) y.1 y.2) l);rw [a]; lia
 | trans h1 h2 i1 i2 =>
  obtain⟨a,b⟩:=i1 o;obtain⟨c,d⟩:=i2 (o.perm h1);exact⟨a.trans c,b.trans d⟩
theorem O2{f:α->α}{x y:α}{ps:Pr α}(o:Iv f):iV f ((x,y) :: ps)=iV f ((y,x) :: ps)/\cls f ((x,y) :: ps)=cls f ((y,x) :: ps):=by
 refine⟨?_,?_⟩
 ·show iV (jn f x y) ps=iV (jn f y x) ps;rw [Kr]
 ·show cl f x y+cls (jn f x y) ps=cl f y x+cls (jn f y x) ps;rw [Kr,R0 o]
end
end J
end K2
end
section
set_option maxHeartbeats 1000000
namespace K2
namespace J
noncomputable abbrev Fn:=Int->Int
noncomputable def lp(g:Fn):Fn:=fun i=>-(g (i+2)) - g (i - 2)
noncomputable def sh(b:Int)(g:Fn):Fn:=fun i=>g (i+b)
noncomputable def jz:Nat->Fn->Fn
 | 0,g=>g
 | n+1,g=>lp (jz n g)
theorem Kk(n m:Nat)(g:Fn):jz (n+m) g=jz n (jz m g):=by
 induction n with
 | zero=>rw [DZ]; rfl
 | succ n ih=>rw [Nat.succ_add,jz,jz,ih]
theorem Wk(b:Int)(g:Fn):lp (sh b g)=sh b (lp g):=by
 funext i;unfold lp sh;rw [show i+2+b=i+b+2 by lia,show i - 2+b=i+b - 2 by lia]
theorem tP(n:Nat)(b:Int)(g:Fn):jz n (sh b g)=sh b (jz n g):=by
 induction n with
 | zero=>rfl
 | succ n ih=>rw [jz,jz,ih,Wk]
theorem Bf(a b:Int)(g:Fn):sh a (sh b g)=sh (a+b) g:=by
 funext i;unfold sh;rw [Int.add_assoc]
theorem QT(g:Fn):sh 0 g=g:=by
 funext i;unfold sh;rw [D3]
noncomputable def pl(g k:Fn):Fn:=fun i=>g i+k i
noncomputable def sc(c:Int)(g:Fn):Fn:=fun i=>c * g i
theorem Wm(g k:Fn):lp (pl g k)=pl (lp g) (lp k):=by
 funext i;show -(g (i+2)+k (i+2)) - (g (i - 2)+k (i - 2))=(-(g (i+2)) - g (i - 2))+(-(k (i+2)) - k (i - 2));lia
theorem Wl(c:Int)(g:Fn):lp (sc c g)=sc c (lp g):=by
 funext i;unfold lp sc;rw [Int.mul_sub,Int.mul_neg]
theorem OR(n:Nat)(g k:Fn):jz n (pl g k)=pl (jz n g) (jz n k):=by
 induction n with
 | zero=>rfl
 | succ n ih=>rw [jz,jz,jz,ih,Wm]
theorem OQ(n:Nat)(c:Int)(g:Fn):jz n (sc c g)=sc c (jz n g):=by
 induction n with
 | zero=>rfl
 | succ n ih=>rw [jz,jz,ih,Wl]
theorem Ss(b:Int)(g k:Fn):sh b (pl g k)=pl (sh b g) (sh b k):=rfl
theorem Sr(b c:Int)(g:Fn):sh b (sc c g)=sc c (sh b g):=rfl
noncomputable def js(n:Int)(w:Bool):Pr T3:=if w=false then [(⟨n,0,0⟩,⟨n,1,1⟩),(⟨n,1,0⟩,⟨n,0,1⟩)] else [(⟨n,0,0⟩,⟨n,1,0⟩),(⟨n,0,1⟩,⟨n,1,1⟩)]
noncomputable def Br:(T3->T3)->List (Int×Int)->Fn->Int
 | _,[],g=>g 0
 | f,p :: ps,g=>Br (iV f (js p.1 false)) ps (jz (cls f (js p.1 false)) (sh p.2 g))+Br (iV f (js p.1 true)) ps (jz (cls f (js p.1 true)) (sh (-p.2) g))
theorem Qn:∀ (ps:List (Int×Int)) (f:T3->T3) (g k:Fn),Br f ps (pl g k)=Br f ps g+Br f ps k
 | [],_,_,_=>rfl
 | p :: ps,f,g,k=>by
  rw [Br,Br,Br,Ss,Ss,OR,OR,Qn,Qn]; lia
theorem Le:∀ (ps:List (Int×Int)) (f:T3->T3) (c:Int) (g:Fn),Br f ps (sc c g)=c * Br f ps g
 | [],_,_,_=>rfl
 | p :: ps,f,c,g=>by
  rw [Br,Br,Sr,Sr,OQ,OQ,Le,Le,Ht]
noncomputable def kJ(n:Int):List T3:=[⟨n,0,0⟩,⟨n,1,1⟩,⟨n,1,0⟩,⟨n,0,1⟩]
theorem jQ(n:Int)(w:Bool):(es (js n w)).Perm (kJ n):=by
 cases w with
 | false=>exact .refl _
 | true =>
  show [(⟨n,0,0⟩:T3),⟨n,1,0⟩,⟨n,0,1⟩,⟨n,1,1⟩].Perm _;refine jT _ ?_;refine(jG (l₁:=[(⟨n,1,0⟩:T3),⟨n,0,1⟩]) (l₂:=[⟨n,1,1⟩]))
structure Dm(f:T3->T3)(ns:List Int):Prop where
 iv:Iv f
 nd:ns.Nodup
 dm:∀ n∈ns,∀ e∈kJ n,f e≠e
theorem Dm.perm{f:T3->T3}{ns ms:List Int}(h:ns.Perm ms)(d:Dm f ns):Dm f ms:=⟨d.iv,h.nodup_iff.mp d.nd,fun n hn=>d.dm n (h.mem_iff.mpr hn)⟩
theorem zM(n:Int):(kJ n).Nodup:=by
 unfold kJ;simp
theorem pV{n:Int}{e:T3}(h:e∈kJ n):e.a=n:=by
 unfold kJ at h;simp only [aY,ez,or_false] at h;rcases h with rfl | rfl | rfl | rfl <;> rfl
theorem Dm.ok{f:T3->T3}{n:Int}{ns:List Int}(d:Dm f (n :: ns))(w:Bool):Ok f (js n w) :=
 ⟨d.iv,(jQ n w).nodup_iff.mpr (zM n),fun e he=>d.dm n (by simp) e ((jQ n w).mem_iff.mp he)⟩
theorem Dm.SD{f:T3->T3}{n m:Int}{ns:List Int}(d:Dm f (n :: m :: ns))(w v:Bool):Ok f (js n w++js m v):=by
 have WE:n≠m:=fun z=>(List.nodup_cons.mp d.nd).1 (by rw [z]; exact c4);refine⟨d.iv,?_,fun e he=>?_⟩
 ·rw [sI,eE];refine⟨(jQ n w).nodup_iff.mpr (zM n),(jQ m v).nodup_iff.mpr (zM m),fun a ha b hb z=>?_⟩;have h1:=pV ((jQ n w).mem_iff.mp ha);have h2:=pV ((jQ m v).mem_iff.mp hb);rw [z] at h1;exact WE (h1.symm.trans h2)
 ·rw [sI,List.mem_append] at he;rcases he with he | he
  ·exact d.dm n (by simp) e ((jQ n w).mem_iff.mp he)
  ·exact d.dm m (by simp) e ((jQ m v).mem_iff.mp he)
theorem Kq{f:T3->T3}:∀ {ps:Pr T3},Ok f ps->∀ {e:T3},iV f ps e=e->e∈es ps\/f e=e:=by
 intro ps;induction ps generalizing f with
 | nil=>intro o e h; exact .inr h
 | cons p ps ih =>
  intro o e h;rcases ih o.tl h with z | z
  ·exact .inl (by simp [es,z])
  ·rcases O4 o.iv o.hd.1 z with z | z | z
   ·exact .inl (by simp [es,z])
   ·exact .inl (by simp [es,z])
   ·exact .inr z
theorem Iz{f:T3->T3}:∀ {ps:Pr T3},Ok f ps->Iv (iV f ps):=by
 intro ps;induction ps generalizing f with
 | nil=>intro o; exact o.iv
 | cons p ps ih=>intro o; exact ih o.tl
theorem Dm.step{f:T3->T3}{n:Int}{ns:List Int}(d:Dm f (n :: ns))(w:Bool):Dm (iV f (js n w)) ns:=by
 have nn:=List.nodup_cons.mp d.nd;refine⟨Iz (d.ok w),nn.2,fun m hm e he z=>?_⟩;rcases Kq (d.ok w) z with z | z
 ·have h1:=pV ((jQ n w).mem_iff.mp z);have h2:=pV he;exact nn.1 (by rw [<-h1,h2]; exact hm)
 ·exact d.dm m (aO _ hm) e he z
theorem Sj{f:T3->T3}{p q:Int×Int}{ps:List (Int×Int)}(d:Dm f (p.1 :: q.1 :: ps.map (·.1)))(g:Fn):Br f (p :: q :: ps) g=Br f (q :: p :: ps) g:=by
 have key:∀ (w v:Bool),iV (iV f (js p.1 w)) (js q.1 v)=iV (iV f (js q.1 v)) (js p.1 w)/\cls (iV f (js p.1 w)) (js q.1 v)+cls f (js p.1 w)=cls (iV f (js q.1 v)) (js p.1 w)+cls f (js q.1 v):=fun w v=>by
  obtain⟨a,b⟩:=FA (jG) (d.SD w v);rw [tT,tT] at a;rw [uc,uc] at b;exact⟨a,by lia⟩
 have kk:∀ (w v:Bool) (x y:Int),Br (iV (iV f (js p.1 w)) (js q.1 v)) ps (jz (cls (iV f (js p.1 w)) (js q.1 v)) (sh x (jz (cls f (js p.1 w)) (sh y g))))=Br (iV (iV f (js q.1 v)) (js p.1 w)) ps (jz (cls (iV f (js q.1 v)) (js p.1 w)) (sh y (jz (cls f (js q.1 v)) (sh x g)))):=fun w v x y=>by
  obtain⟨a,b⟩:=key w v;have z:∀ (m n:Nat) (x y:Int),jz m (sh x (jz n (sh y g)))=sh (x+y) (jz (m+n) g):=fun m n x y=>by rw [tP,tP,tP,Bf,Kk]
  rw [a,z,z,b,Int.add_comm x y]
 show (Br _ ps _+Br _ ps _)+(Br _ ps _+Br _ ps _)=(Br _ ps _+Br _ ps _)+(Br _ ps _+Br _ ps _);rw [kk,kk,kk,kk];lia
theorem Lf{ps qs:List (Int×Int)}(h:ps.Perm qs):∀ {f:T3->T3},Dm f (ps.map (·.1))->∀ g,Br f ps g=Br f qs g:=by
 induction h with
 | nil=>intro f d g; rfl
 | cons x _ ih=>intro f d g; rw [Br,Br,ih (d.step false),ih (d.step true)]
 | swap x y l=>intro f d g; exact Sj d g
 | trans h1 h2 i1 i2=>intro f d g; rw [i1 d,i2 (d.perm (h1.map _))]
end J
end K2
end
section
set_option maxHeartbeats 1000000
namespace K2
namespace J
section
variable {α:Type} [DecidableEq α]
theorem Ok.es{f:α->α}{ps qs:Pr α}(h:(es ps).Perm (es qs))(o:Ok f ps):Ok f qs:=⟨o.iv,h.nodup_iff.mp o.nd,fun e he=>o.dm e (h.mem_iff.mpr he)⟩
structure Sm(ps qs:Pr α):Prop where
 es:(es ps).Perm (es qs)
 eq:∀ f,Ok f ps->iV f ps=iV f qs/\cls f ps=cls f qs
theorem Sm.trans{ps qs rs:Pr α}(a:Sm ps qs)(b:Sm qs rs):Sm ps rs:=⟨a.es.trans b.es,fun f o=>by
 obtain⟨a1,a2⟩:=a.eq f o;obtain⟨b1,b2⟩:=b.eq f (o.es a.es);exact⟨a1.trans b1,a2.trans b2⟩⟩
theorem Sm.perm{ps qs:Pr α}(h:ps.Perm qs):Sm ps qs:=⟨pR h,fun f o=>FA h o⟩
theorem Sm.turn(x y:α)(ps:Pr α):Sm ((x,y) :: ps) ((y,x) :: ps):=⟨ff _ _ _,fun f o=>O2 o.iv⟩
theorem Sm.cons(p:α×α){ps qs:Pr α}(h:Sm ps qs):Sm (p :: ps) (p :: qs):=⟨(h.es.cons _).cons _,fun f o=>by
 obtain⟨a1,a2⟩:=h.eq _ o.tl;exact⟨a1,by rw [cls,cls,a2]⟩⟩
end
noncomputable abbrev Pn:=List (Nat×Nat)
section
variable {α:Type} [DecidableEq α] (v:Nat->α)
noncomputable abbrev mp(ps:Pn):Pr α:=ps.map fun p=>(v p.1,v p.2)
structure Th(f:α->α)(T:Pn):Prop where
 iv:Iv f
 nd:(es (mp v T)).Nodup
 th:∀ t∈T,f (v t.1)=v t.2
variable {v}
end
end J
end K2
end
section
set_option maxHeartbeats 1000000
end
section
set_option maxHeartbeats 1000000
namespace K2
namespace J
noncomputable def vv(nm:Nat->Int)(i:Nat):T3:=⟨nm (i / 4),((i / 2 % 2:Nat):Int),((i % 2:Nat):Int)⟩
noncomputable def jN(i:Nat)(w:Bool):Pn:=if w=false then [(4 * i,4 * i+3),(4 * i+2,4 * i+1)] else [(4 * i,4 * i+2),(4 * i+1,4 * i+3)]
structure Tg(v:Nat->T3)(f:T3->T3)(m:Nat):Prop where
 iv:Iv f
 inj:∀ i j,i < 4 * m->j < 4 * m->v i=v j->i=j
 dm:∀ i,i < 4 * m->f (v i)≠v i
theorem wu{α β:Type}{v:α->β}:∀ {l:List α},l.Nodup->(∀ i∈l,∀ j∈l,v i=v j->i=j)->(l.map v).Nodup
 | [],_,_=>cR
 | a :: l,h,hi=>by
  rw [aP] at h;rw [ak,aP];refine⟨fun z=>?_,wu h.2 fun i UE j hj=>hi i (aO _ UE) j (aO _ hj)⟩;obtain⟨b,hb,e⟩:=List.mem_map.mp z;have:=hi a (by simp) b (aO _ hb) e.symm;exact h.1 (this ▸ hb)
end J
end K2
end
section
namespace K2
open PySem (Str)
open Enc (enc)
theorem iL{α:Type} [DecidableEq α] [Enc α]{G G1:Gp}{p:Nat}{xs:List α}{Q:DK}(l:fm G G1)(hp:G p=none)(h1:G1 p=some (.lst (xs.map enc)))(q:Q (enc xs) G):GS G1 (.ref p) Q :=
 Dc l hp h1 (DX.same _) q
theorem dI{α:Type}{f:α->D}{g:AA}{body:iE}{ok:Gp->Prop}{xs:List α}{E:mw}{K:lP}{τ:iQ}{G:Gp}(I:List α->iQ->Gp->Prop)
  (h0:I [] τ G) (cL:∀ pre τ G,I pre τ G->ok G)
  (step:∀ (pre:List α) (x:α) (post:List α) τ G (N:iQ->Gp->Prop),xs=pre++x :: post->I pre τ G->(∀ v7 G2,I (pre++[x]) v7 G2->N v7 G2) ->
   g E (f x) τ G fun pe G1=>body E { K with nx:=N,ct:=N,bk:=K.nx } pe G1)
  (fin:∀ τ G,I xs τ G->K.nx τ G):qr g body ok (xs.map f) E K τ G:=by
 have main:∀ (post pre:List α) τ G,xs=pre++post->I pre τ G->qr g body ok (post.map f) E K τ G:=by
  intro post;induction post with
  | nil =>
   intro pre τ G e h;rw [cP] at e;subst e;exact⟨cL _ _ _ h,fin _ _ h⟩
  | cons d post ih =>
   intro pre τ G e h;refine⟨cL _ _ _ h,?_⟩;exact step pre d post τ G _ e h fun v7 G2 h2=>ih (pre++[d]) v7 G2 (by rw [e,bP]; rfl) h2
 exact main xs [] τ G rfl h0
theorem lg{α:Type}{f:α->D}{g:AA}{c:Option xp}{e:gI}{ok:Gp->Prop}{xs:List α}{E:mw}{τ:iQ}{G:Gp}{Q:List D->Gp->Prop}(I:List α->List D->iQ->Gp->Prop)
  (h0:I [] [] τ G) (cL:∀ pre acc τ G,I pre acc τ G->ok G)
  (step:∀ (pre:List α) (x:α) (post:List α) (acc:List D) τ G (N:iQ->List D->Gp->Prop),xs=pre++x :: post->I pre acc τ G->(∀ v7 wO G2,I (pre++[x]) wO v7 G2->N v7 wO G2) ->
   g E (f x) τ G fun pe G1=>match c with
    | none=>e E pe G1 fun x G2=>N pe (acc++[x]) G2
    | some c=>c E pe G1 fun k G2=>if k=true then e E pe G2 fun x G3=>N pe (acc++[x]) G3 else N pe acc G2)
  (fin:∀ acc τ G,I xs acc τ G->Q acc G):jy g c e ok (xs.map f) E τ G [] Q:=by
 have main:∀ (post pre:List α) (acc:List D) τ G,xs=pre++post->I pre acc τ G->jy g c e ok (post.map f) E τ G acc Q:=by
  intro post;induction post with
  | nil =>
   intro pre acc τ G e h;rw [cP] at e;subst e;exact⟨cL _ _ _ _ h,fin _ _ _ h⟩
  | cons d post ih =>
   intro pre acc τ G e' h;refine⟨cL _ _ _ _ h,?_⟩;have:=step pre d post acc τ G (fun v7 wO G2=>jy g c e ok (post.map f) E v7 G2 wO Q) e' h fun v7 wO G2 h2=>ih (pre++[d]) wO v7 G2 (by rw [e',bP]; rfl) h2;cases c with
   | none=>exact this
   | some c=>exact this
 exact main xs [] [] τ G rfl h0
theorem jR{α:Type} [DecidableEq α] [Enc α]{xs:List α}{G:Gp}{R:List D->(Gp->Prop)->Gp->Prop}(h:R (xs.map enc) (fun _=>True) G):RF (enc xs) G R:=h
theorem FF{α:Type} [DecidableEq α] [Enc α]{xs:List α}{G:Gp}{R:List D->(Gp->Prop)->Gp->Prop}(h:R (nk 0 (xs.map enc)) (fun _=>True) G):vp (enc xs) G R:=h
theorem Ey{n:Nat}(h:n<=1000):n<=SZ:=by unfold SZ; lia
theorem HG{n:Nat}(h:n<=1000):n < SZ:=by unfold SZ; lia
noncomputable abbrev Rows:=List (List T3)
noncomputable def T3.s(p:T3):T2:=⟨p.a,p.b⟩
structure Dr(rows:Rows):Prop where
 nd:(rows.flatten.map T3.s).Nodup
 way:∀ p∈rows.flatten,p.b=0\/p.b=1
 hand:∀ p∈rows.flatten,p.c=1\/p.c=-1
 Fi:∀ p∈rows.flatten,(⟨p.a,1 - p.b,p.c⟩:T3)∈rows.flatten
 AR:rows.flatten.length<=24
 str:rows.length<=3
namespace P
noncomputable def fY:lO:=TL (fun rows:Rows=>rows.flatten.length<=1000) fun rows=>rows.flatten
noncomputable def qY:iE :=
 (cC (bK (iT aX) (aL 1))
 (cC (eQ (oR (av 0)) (aL 2) (kK (tG Er xP (av 1) (aw (av 2) aX))))
 (cZ (cM (av 1)))))
theorem rV(ds:List D)(G:Gp)(Q:DK)(h:fY ds G Q fun _ _=>False):qY (fun _ _=>False) (ends Q) (bE 3 ds) G:=by
 obtain⟨rows,rfl,hl,q⟩:=h;unfold qY;simp only [ends,bE,ak,bq,aj,aC,a8,aB,aW,cX,bK,iT,aX,aL,aq,ao];refine⟨by decide,fun p hp=>?_⟩;refine fg (fun τ G'=>(∃ b,τ=[some (enc rows),some (.ref p),b])/\fm G G'/\G' p=some (.lst (rows.flatten.map enc))) ?_ ?_
 ·intro N hN;simp only [eQ,gB,av,aa];refine jR ?_;refine dI (xs:=rows) (fun pre τ G'=>(∃ b,τ=[some (enc rows),some (.ref p),b])/\fm G G'/\G' p=some (.lst (pre.flatten.map enc))) ⟨⟨_,rfl⟩,.new hp,az⟩ (fun _ _ _ _=>trivial) ?_ ?_
  ·rintro pre r post τ G' N2 e ⟨⟨b,rfl⟩,l,gp⟩ mC;have hlen:pre.flatten.length+r.length<=rows.flatten.length:=by
    rw [e]; simp only [iU,cW,aJ]; lia
   simp only [aL,kK,tG,av,aq,ao,ae,aa,nK,gp,aw,aX,rC,va (IsL.enc r),true_and];refine⟨Ey (by simp only [au]; lia),?_⟩;refine mC _ _ ⟨⟨_,rfl⟩,l.put hp,?_⟩;rw [az]; simp
  ·rintro τ G' ⟨⟨b,rfl⟩,l,gp⟩;exact hN _ _ ⟨⟨_,rfl⟩,l,gp⟩
 ·rintro _ G' ⟨⟨b,rfl⟩,l,gp⟩;simp only [cZ,cM,av,ae,aa];exact iL l hp gp q
theorem ot(p:T3):(enc p:D)=.tup [.int p.a,.int p.b,.int p.c]:=rfl
theorem UW(p:T2):(enc p:D)=.tup [.int p.a,.int p.b]:=rfl
theorem Dw(i:Int):(enc i:D)=.int i:=rfl
theorem Nj{a:D}{r:List D}:qu (a :: r) 0=some a:=by
 rw [qa _ (by lia) (by simp)]; rfl
theorem Qz{a b:D}{r:List D}:qu (a :: b :: r) 1=some b:=by
 rw [qa _ (by lia) (by simp; lia)]; rfl
theorem at2{a b c:D}{r:List D}:qu (a :: b :: c :: r) 2=some c:=by
 rw [qa _ (by lia) (by simp; lia)]; rfl
noncomputable def names(rows:Rows):List Int:=QS ((rows.flatten.filter fun p=>p.b == 0).map (·.a))
noncomputable def ib:lO:=TL (fun rows:Rows=>rows.flatten.length < 64) names
noncomputable def w6:iE :=
 (cZ (cM (ua vJ (aw (iO 1 [] (oR (bJ fY (aw (av 0) aX))) (aL 0) (some (jf (a9 (CB false) (a9 ip (av 0) (dC (.int 1))) (dC (.int 0))))) (a9 ip (av 0) (dC (.int 0)))) aX))))
theorem xq(ds:List D)(G:Gp)(Q:DK)(h:ib ds G Q fun _ _=>False):w6 (fun _ _=>False) (ends Q) (bE 1 ds) G:=by
 obtain⟨rows,rfl,hl,q⟩:=h;unfold w6;simp only [cZ,cM,ua,aw,iO,bE,ak,bq,aj,aC,aB,aW,aX,ends,gB,bJ,av,aa];refine⟨rows,rfl,(show rows.flatten.length<=1000 by lia),jR ⟨Ey (by rw [au]; show rows.flatten.length<=1000; lia),?_⟩⟩;refine lg (xs:=rows.flatten) (fun pre acc τ G'=>G=G'/\(∃ a,τ=[a])/\acc=((pre.filter fun p=>p.b == 0).map (·.a)).map enc) ⟨rfl,⟨_,rfl⟩,rfl⟩ (fun _ _ _ _ _=>trivial) ?_ ?_
 ·rintro pre x post acc τ G' N e ⟨rfl,⟨a,rfl⟩,rfl⟩ hN;simp only [aL,ot,ao,a9,av,aa,dC,fF,Nj,eP,Qz];refine⟨_,_,.int _,.int _,?_⟩;simp only [ar,i5,if_false,cB];split
  ·rename_i h;refine hN _ _ _ ⟨rfl,⟨_,rfl⟩,?_⟩;simp [eL,bS,h,Dw]
  ·rename_i h;refine hN _ _ _ ⟨rfl,⟨_,rfl⟩,?_⟩;simp [eL,bS,h]
 ·rintro acc τ G' ⟨rfl,⟨a,rfl⟩,rfl⟩ p hp;refine zX (IsL.ref az) (by rw [au]; exact fR (eg _ _) hl) fun p2 pP=>?_;exact iL ((fm.new hp).trans (.new pP)) ((fm.new hp).free pP) az q
noncomputable def handOf(rows:Rows)(n:Int):Int:=((rows.flatten.find? fun p=>p.a == n).map (·.c)).getD 0
noncomputable def iZ:lO:=YA (fun (rows:Rows) (n:Int)=>rows.flatten.length<=1000/\∃ p∈rows.flatten,p.a=n) handOf
noncomputable def yL:iE :=
 (cC (eQ (oR (bJ fY (aw (av 0) aX))) (aL 2) (jx (jf (a9 (CB false) (a9 ip (av 2) (dC (.int 0))) (av 1))) (cZ (cM (a9 ip (av 2) (dC (.int 2))))) fM))
 PX)
theorem Ag(ds:List D)(G:Gp)(Q:DK)(h:iZ ds G Q fun _ _=>False):yL (fun _ _=>False) (ends Q) (bE 3 ds) G:=by
 obtain⟨rows,n,rfl,⟨hl,hn⟩,q⟩:=h;unfold yL;refine fg (fun τ G'=>False) ?_ (fun _ _ h=>h.elim);intro N hN;simp only [eQ,bE,ak,bq,aj,aC,a8,aB,aW,ends,gB,bJ,aw,av,aa,aX];refine⟨rows,rfl,hl,jR ?_⟩;refine dI (xs:=rows.flatten) (fun pre τ G'=>G=G'/\(∃ a,τ=[some (enc rows),some (enc n),a])/\∀ p∈pre,p.a≠n) ⟨rfl,⟨_,rfl⟩,by simp⟩ (fun _ _ _ _=>trivial) ?_ ?_
 ·rintro pre x post τ G' N2 e ⟨rfl,⟨a,rfl⟩,hp⟩ mC;simp only [aL,jx,Dw,ot,aq,ao,cZ,cM,a9,av,ae,aa,dC,fF,at2,fM,eP,Nj];refine⟨_,_,.int _,.int _,?_⟩;simp only [ar,i5,if_false,cB];by_cases hx:x.a=n
  ·simp only [hx,beq_self_eq_true,if_true];refine cz ?_;have:handOf rows n=x.c:=by
    unfold handOf;have:rows.flatten.find? (fun p=>p.a == n)=some x:=by
     rw [e,List.find?_append];have:pre.find? (fun p=>p.a == n)=none:=by
      rw [hB]; intro p me; simpa using hp p me
     rw [this];simp [hx]
    rw [this]; rfl
   rw [<-this]; exact q
  ·have:(x.a == n)=false:=by simpa using hx
   simp only [this,ar,if_false];refine mC _ _ ⟨rfl,⟨_,rfl⟩,fun p me=>?_⟩;rcases List.mem_append.mp me with h | h
   ·exact hp p h
   ·rw [List.mem_singleton.mp h]; exact hx
 ·rintro τ G' ⟨rfl,_,hp⟩;obtain⟨p,ZU,pP⟩:=hn;exact absurd pP (hp p ZU)
noncomputable def uE(row:List T3)(i:Int):List T2:=if row=[] then [⟨i,2⟩] else row.map T3.s
noncomputable def NU:Rows->Nat->List T2
 | [],_=>[]
 | r :: rs,k=>uE r (k:Int)++NU rs (k+1)
noncomputable def Sq(rows:Rows):List T2:=QS (NU rows 0)
theorem Cc{α:Type}{xs:List α}{pre post:List (α×Nat)}{x:α×Nat}(h:xs.zipIdx 0=pre++x :: post):∃ l r,xs=l++x.1 :: r/\x.2=l.length/\pre=l.zipIdx 0:=by
 have e1:xs=(pre.map (·.1))++x.1 :: post.map (·.1):=by
  have:=congrArg (List.map (·.1)) h;rw [List.zipIdx_map_fst] at this;rw [this]; simp
 have hl:pre.length < (xs.zipIdx 0).length:=by rw [h]; simp
 have hx:(xs.zipIdx 0)[pre.length]?=some x:=by rw [h]; simp
 refine⟨pre.map (·.1),post.map (·.1),e1,?_,?_⟩
 ·rw [List.getElem?_zipIdx] at hx;rw [au];cases q:xs[pre.length]? with
  | none=>rw [q] at hx; cases hx
  | some y=>rw [q] at hx; simp at hx; rw [<-hx]
 ·have:(pre.map (·.1)).zipIdx 0=(xs.zipIdx 0).take pre.length:=by
   conv=>rhs; rw [e1,List.zipIdx_append]
   rw [List.take_append_of_le_length (by simp)];rw [Nw (by simp)]
  rw [this,h]; simp
theorem aaC{a b c:D}:cut [a,b,c] none (some 2)=[a,b]:=rfl
theorem L1{α:Type} [DecidableEq α] [Enc α](xs:List α)(G:Gp):vb (enc xs) G=some (xs.map enc,fun _=>True):=rfl
theorem L0{a:Nat}{ds:List D}{G:Gp}(h:G a=some (.lst ds)):vb (.ref a) G=some (ds,fun G2=>G2 a=some (.lst ds)):=by unfold vb; simp only [h]
theorem yn{α β:Type} [DecidableEq α] [Enc α] [DecidableEq β] [Enc β]:∀ (xs:List α) (ys:List β),ph (xs.map enc) (ys.map enc)=(xs.zip ys).map fun p=>D.tup [enc p.1,enc p.2]
 | [],ys=>by simp [ph]
 | x :: xs,[]=>by simp [ph]
 | x :: xs,y :: ys=>by simp [ph,yn xs ys]
theorem fN{κ α:Type} [DecidableEq κ] [Enc κ] [uk κ] [DecidableEq α] [Enc α]{a:Nat}{l:List (κ×α)}{k:κ}{v:α}{G:Gp}{Q:Gp->Prop}(h:G a=some (.gF (bD l)))(hl:l.length<=1000)(q:Q (eY G a (.gF (bD (eW l k v))))):yy (.ref a) (enc k) (enc v) G Q:=by
 unfold yy;simp only [h];refine⟨nc l k,?_,by rw [J4]; exact q⟩;unfold bD; rw [au]; exact HG hl
noncomputable def i9(r:List T3):List T3:=r.drop 1++r.take 1
noncomputable def pairsOf(rows:Rows):List (T3×T3):=rows.flatMap fun r=>r.zip (i9 r)
noncomputable def mX(ps:List (T3×T3)):List (T2×T2):=ps.foldl (fun l p=>eW l p.1.s p.2.s) []
theorem Bt(ps:List (T3×T3)):(mX ps).length<=ps.length:=by
 have:∀ (ps:List (T3×T3)) (l:List (T2×T2)),(ps.foldl (fun l p=>eW l p.1.s p.2.s) l).length<=l.length+ps.length:=by
  intro ps;induction ps with
  | nil=>intro l; simp
  | cons p ps ih =>
   intro l;rw [c5,aj];have h1:=ih (eW l p.1.s p.2.s);have h2:=rQ l p.1.s p.2.s;lia
 simpa [mX] using this ps []
theorem Ih(ps:List (T3×T3))(p:T3×T3):mX (ps++[p])=eW (mX ps) p.1.s p.2.s:=by unfold mX; rw [jZ]; rfl
noncomputable def mL:lO:=fun ds G Q _=>∃ rows:Rows,ds=[enc rows]/\rows.flatten.length<=500/\Q (.kI (bD (mX (pairsOf rows)))) G
theorem pairs_len(rows:Rows):(pairsOf rows).length<=rows.flatten.length:=by
 unfold pairsOf;induction rows with
 | nil=>simp
 | cons r rs ih=>simp only [cw,cW,aJ,ly]; lia
noncomputable def yJ:iE :=
 (cC (bK nG (aL 1))
 (cC (eQ (oR (av 0)) (aL 2) (eQ (Pd (av 2) (a9 hV (Az (av 2) (lN (dC (.int 1))) fA) (Az (av 2) fA (lN (dC (.int 1)))))) (ka (dZ (aL 3) (dZ (aL 4) jX))) (bK (Az (av 4) fA (lN (dC (.int 2)))) (kz (av 1) (Az (av 3) fA (lN (dC (.int 2))))))))
 (cZ (cM (av 1)))))
theorem z9(ds:List D)(G:Gp)(Q:DK)(h:mL ds G Q fun _ _=>False):yJ (fun _ _=>False) (ends Q) (bE 5 ds) G:=by
 obtain⟨rows,rfl,hl,q⟩:=h;unfold yJ;simp only [ends,bE,ak,bq,aj,aC,a8,aB,aW,cX,bK,nG,gZ,aL,aq,ao];intro d hd;refine fg (fun τ G'=>(∃ a b c,τ=[some (enc rows),some (.ref d),a,b,c])/\fm G G'/\G' d=some (.gF (bD (mX (pairsOf rows))))) ?_ ?_
 ·intro N hN;simp only [eQ,gB,av,aa];refine jR ?_;refine dI (xs:=rows) (fun pre τ G'=>(∃ a b c,τ=[some (enc rows),some (.ref d),a,b,c])/\fm G G'/\G' d=some (.gF (bD (mX (pairsOf pre))))) ⟨⟨_,_,_,rfl⟩,.new hd,az⟩ (fun _ _ _ _=>trivial) ?_ ?_
  ·rintro pre r post τ G' N2 e ⟨⟨a,b,c,rfl⟩,l,gd⟩ mC;have hr:pre.flatten.length+r.length<=rows.flatten.length:=by
    rw [e]; simp only [iU,cW,aJ]; lia
   simp only [aL,eQ,Pd,av,aq,ao,ae,aa,a9,Az,fA,lb,dC,gb];refine Cw (IsL.enc r) fun p1 h1=>?_;refine Cw (IsL.enc r) fun p2 h2=>?_;have d1:d≠p1:=by rintro rfl; rw [gd] at h1; cases h1
   have l1:=l.trans (fm.new (o:=.lst (cut (r.map enc) (some 1) none)) h1);have d2:d≠p2:=by rintro rfl; rw [cF d1,gd] at h2; cases h2
   have h12:p1≠p2:=by rintro rfl; rw [az] at h2; cases h2
   refine pD (IsL.ref (by rw [cF h12,az])) (IsL.ref az) ?_ fun p3 h3=>?_
   ·rw [vE,vE,au,au];have e1:(cut r (some 1) none).length<=r.length:=by unfold cut; rw [eA,cJ]; lia
    have e2:(cut r none (some 1)).length<=r.length:=by unfold cut; rw [eA,cJ]; lia
    exact Ey (by lia)
   have d3:d≠p3:=by rintro rfl; rw [cF d2,cF d1,gd] at h3; cases h3
   have et:cut (r.map enc) (some 1) none++cut (r.map enc) none (some 1)=(i9 r).map enc:=by
    rw [vE,vE,<-aT];congr 1;cases r with
    | nil=>rfl
    | cons x r=>rw [show (1:Int)=((1:Nat):Int) from rfl,vF _ _ (by simp),DG _ _ (by simp)]; rfl
   rw [et];generalize hG3:eY (eY (eY G' p1 (.lst (cut (r.map enc) (some 1) none))) p2 (.lst (cut (r.map enc) none (some 1)))) p3 (.lst ((i9 r).map enc))=G3;have g3:G3 p3=some (.lst ((i9 r).map enc)):=by rw [<-hG3,az]
   have gd3:G3 d=some (.gF (bD (mX (pairsOf pre)))):=by rw [<-hG3,cF d3,cF d2,cF d1]; exact gd
   have l3:fm G G3:=by rw [<-hG3]; exact(l1.trans (.new h2)).trans (.new h3)
   unfold tU;rw [L1,L0 g3];dsimp only;rw [yn];refine dI (xs:=r.zip (i9 r)) (fun pp τ G'=>(∃ a b c,τ=[some (enc rows),some (.ref d),a,b,c])/\fm G G'/\G' d=some (.gF (bD (mX (pairsOf pre++pp))))/\G' p3=some (.lst ((i9 r).map enc)))
    ⟨⟨_,_,_,rfl⟩,l3,by rw [cP]; exact gd3,g3⟩ (fun _ _ _ h=>⟨trivial,h.2.2.2⟩) ?_ ?_
   ·rintro pp x post τ G4 N3 e4 ⟨⟨a,b,c,rfl⟩,l4,gd4,UN⟩ D8;have hz:(pairsOf pre++pp).length<=1000:=by
     have:=pairs_len pre;have h5:pp.length < (r.zip (i9 r)).length:=by rw [e4]; simp
     rw [ly] at h5;rw [aJ]; lia
    simp only [ka,dZ,aL,jX,bK,Az,av,ot,aq,ao,ae,aa,fA,kz,Cu,aj,aC,lb,dC,gb,aaC];refine⟨by decide,by decide,?_⟩;refine fN (k:=x.1.s) (v:=x.2.s) gd4 (aZ (Bt _) hz) ?_;refine D8 _ _ ⟨⟨_,_,_,rfl⟩,l4.put hd,?_,by rw [cF (gm d3)]; exact UN⟩;rw [az,<-bP,Ih]
   ·rintro τ G4 ⟨⟨a,b,c,rfl⟩,l4,gd4,UN⟩;refine mC _ _ ⟨⟨_,_,_,rfl⟩,l4,?_⟩;have:pairsOf (pre++[r])=pairsOf pre++r.zip (i9 r):=by unfold pairsOf; simp
    rw [this]; exact gd4
  ·rintro τ G' ⟨⟨a,b,c,rfl⟩,l,gd⟩;exact hN _ _ ⟨⟨_,_,_,rfl⟩,l,gd⟩
 ·rintro _ G' ⟨⟨a,b,c,rfl⟩,l,gd⟩;simp only [cZ,cM,av,ae,aa];exact iw l hd gd q
noncomputable def Zq(s:T2):T3:=⟨s.a,s.b,0⟩
noncomputable def YE(s:T2):T3:=⟨s.a,s.b,1⟩
noncomputable def TR(ss:List T2):List T3:=ss.flatMap fun s=>[Zq s,YE s]
end P
end K2
end
section
set_option maxHeartbeats 1000000
namespace K2
namespace J
noncomputable def pt:Pr T3->T3->T3
 | [],e=>e
 | p :: r,e=>if e=p.1 then p.2 else if e=p.2 then p.1 else pt r e
theorem lY{P:Pr T3}{e:T3}(h:e∉es P):pt P e=e:=by
 induction P with
 | nil=>rfl
 | cons p r ih =>
  rw [es,aY,aY,not_or,not_or] at h;rw [pt,if_neg h.1,if_neg h.2.1,ih h.2.2]
theorem kq{P:Pr T3}(nd:(es P).Nodup){p:T3×T3}(h:p∈P):pt P p.1=p.2/\pt P p.2=p.1:=by
 induction P with
 | nil=>cases h
 | cons q r ih =>
  rw [es,aP,aP,aY,not_or] at nd;rcases List.mem_cons.mp h with rfl | h
  ·refine⟨by rw [pt,if_pos rfl],?_⟩;rw [pt,if_neg (fun z=>nd.1.1 z.symm),if_pos rfl]
  ·obtain⟨a,b⟩:=ih nd.2.2 h;have m1:p.1∈es r:=mY.mpr ⟨p,h,.inl rfl⟩;have m2:p.2∈es r:=mY.mpr ⟨p,h,.inr rfl⟩;have ne:∀ e∈es r,e≠q.1/\e≠q.2:=fun e he=>⟨fun z=>nd.1.2 (z ▸ he),fun z=>nd.2.1 (z ▸ he)⟩;exact⟨by rw [pt,if_neg (ne _ m1).1,if_neg (ne _ m1).2,a],by rw [pt,if_neg (ne _ m2).1,if_neg (ne _ m2).2,b]⟩
theorem Of{P:Pr T3}(nd:(es P).Nodup){f:T3->T3}(h1:∀ p∈P,f p.1=p.2/\f p.2=p.1)(h2:∀ e,e∉es P->f e=e):pt P=f:=by
 funext e;by_cases he:e∈es P
 ·obtain⟨p,hp,z⟩:=mY.mp he;rcases z with rfl | rfl
  ·rw [(kq nd hp).1,(h1 p hp).1]
  ·rw [(kq nd hp).2,(h1 p hp).2]
 ·rw [lY he,h2 e he]
theorem Q3{P P':Pr T3}(h:P.Perm P')(nd:(es P).Nodup):pt P=pt P':=by
 refine Of nd (fun p hp=>kq ((pR h).nodup_iff.mp nd) (h.mem_iff.mp hp)) fun e he=>lY fun z=>he ((pR h).mem_iff.mpr z)
theorem Og{P:Pr T3}(nd:(es P).Nodup):Iv (pt P):=by
 intro e;by_cases he:e∈es P
 ·obtain⟨p,hp,z⟩:=mY.mp he;rcases z with rfl | rfl
  ·rw [(kq nd hp).1,(kq nd hp).2]
  ·rw [(kq nd hp).2,(kq nd hp).1]
 ·rw [lY he,lY he]
theorem Sy{P:Pr T3}(nd:(es P).Nodup){p:T3×T3}(h:p∈P):p.1≠p.2:=by
 induction P with
 | nil=>cases h
 | cons q r ih =>
  rw [es,aP,aP,aY,not_or] at nd;rcases List.mem_cons.mp h with rfl | h
  ·exact nd.1.1
  ·exact ih nd.2.2 h
theorem wc{P:Pr T3}(nd:(es P).Nodup){e:T3}:pt P e≠e↔e∈es P:=by
 refine⟨fun h=>gP fun z=>h (lY z),fun he=>?_⟩;obtain⟨p,hp,z⟩:=mY.mp he;rcases z with rfl | rfl
 ·rw [(kq nd hp).1]; exact(Sy nd hp).symm
 ·rw [(kq nd hp).2]; exact Sy nd hp
theorem T1{P:Pr T3}(nd:(es P).Nodup)(h:∀ e,pt P e=e):P=[]:=by
 cases P with
 | nil=>rfl
 | cons p r=>exact absurd (h p.1) (wc nd |>.mpr (by simp [es]))
structure Lc(l:List (T3×T3))(f:T3->T3):Prop where
 nd:(l.map (·.1)).Nodup
 at':∀ e,cV l e=if f e=e then none else some (f e)
theorem rS{κ β:Type} [DecidableEq κ]{l:List (κ×β)}{k j:κ}:cV (l.filter fun p=>decide (p.1≠k)) j=if j=k then none else cV l j:=by
 induction l with
 | nil=>simp [cV]
 | cons p r ih =>
  unfold cV at *;rw [bS];by_cases h:p.1=k
  ·rw [if_neg (by simp [h]),ih];by_cases hj:j=k
   ·rw [if_pos hj,if_pos hj]
   ·rw [if_neg hj,if_neg hj,cH (by simp [h]; exact fun z=>hj z.symm)]
  ·rw [if_pos (by simp [h])];by_cases WC:p.1=j
   ·rw [cG (by simp [WC]),cG (by simp [WC]),if_neg (fun z=>h (WC.trans z))]
   ·rw [cH (by simp [WC]),cH (by simp [WC]),ih]
noncomputable def Dx(l:List (T3×T3))(k:T3):List (T3×T3):=l.filter fun p=>decide (p.1≠k)
theorem qb{κ β:Type} [DecidableEq κ]{l:List (κ×β)}{k:κ}{v:β}(h:(l.map (·.1)).Nodup):((eW l k v).map (·.1)).Nodup:=by
 unfold eW;split
 ·rw [bw];have:(l.map ((fun x:κ×β=>x.1)∘fun p=>if p.1=k then (p.1,v) else p))=l.map (·.1):=by
   refine cI fun p _=>?_;show (if p.1=k then (p.1,v) else p).1=p.1;split <;> rfl
  rw [this]; exact h
 ·rename_i hk;rw [aT,eE];refine⟨h,by simp,fun a ha b hb z=>?_⟩;rw [List.map_singleton,cq] at hb;obtain⟨p,hp,e⟩:=List.mem_map.mp ha;exact hk (List.any_eq_true.mpr ⟨p,hp,by simp; rw [e,z,hb]⟩)
theorem Lc.join{l:List (T3×T3)}{f:T3->T3}(h:Lc l f)(iv:Iv f){x y:T3}(xy:x≠y)(hx:f x≠x)(hy:f y≠y) :
  cV l x=some (f x)/\cV (Dx l x) y=some (f y)/\(f x=y->Lc (Dx (Dx l x) y) (jn f x y))/\(f x≠y->Lc (eW (eW (Dx (Dx l x) y) (f x) (f y)) (f y) (f x)) (jn f x y)):=by
 have a1:cV l x=some (f x):=by rw [h.at',if_neg hx]
 have a2:cV (Dx l x) y=some (f y):=by unfold Dx; rw [rS,if_neg (fun z=>xy z.symm),h.at',if_neg hy]
 have Nb:((Dx (Dx l x) y).map (·.1)).Nodup:=nB (lD _ (List.filter_sublist.trans kH)) h.nd;have d2:∀ e,cV (Dx (Dx l x) y) e=if e=x\/e=y then none else if f e=e then none else some (f e):=fun e=>by
  unfold Dx;rw [rS,rS,h.at']
  grind
 have ix:=iv x;have iy:=iv y;refine⟨a1,a2,fun e=>⟨Nb,fun z=>?_⟩,fun e=>⟨qb (qb Nb),fun z=>?_⟩⟩
 ·have iz:=iv z;rw [d2];unfold jn
  grind (splits:=30)
 ·have iz:=iv z;rw [sQ,sQ,d2];unfold jn
  grind (splits:=30)
end J
end K2
end
section
namespace K2
namespace Y
noncomputable abbrev Po:=List (Int×Int)
noncomputable def ND(l:Po):Prop:=(l.map (·.1)).Nodup
noncomputable def c0(l:Po)(k:Int):Int:=(cV l k).getD 0
noncomputable def fL(l:Po):Po:=l.filter fun p=>p.2 != 0
noncomputable def plus(a:Po)(p:Int×Int):Po:=eW a p.1 (c0 a p.1+p.2)
noncomputable def mW(l m:Po):Po:=m.foldl plus l
noncomputable def sV(l m:Po):Po:=fL (mW l m)
noncomputable def oI(m:Po)(a:Po)(p:Int×Int):Po:=m.foldl (fun a q=>plus a (p.1+q.1,p.2 * q.2)) a
noncomputable def nP(l m:Po):Po:=l.foldl (oI m) []
noncomputable def ju(l m:Po):Po:=fL (nP l m)
noncomputable def gK(l:Po)(by_ f:Int):Po:=fL (l.map fun p=>(p.1+by_,p.2 * f))
noncomputable def eB(l:Po):Nat->Po
 | 0=>[(0,1)]
 | n+1=>ju (eB l n) l
theorem lh{κ β:Type} [DecidableEq κ]{l:List (κ×β)}{k:κ}{v:β}(h:k∉l.map (·.1)):eW l k v=l++[(k,v)]:=by
 unfold eW;rw [if_neg];intro q;obtain⟨p,h1,h2⟩:=List.any_eq_true.mp q;exact h (List.mem_map.mpr ⟨p,h1,by simpa using h2⟩)
theorem zY{κ β:Type} [DecidableEq κ]{l:List (κ×β)}{k:κ}{v:β}(h:k∈l.map (·.1)):eW l k v=l.map (fun p=>if p.1=k then (p.1,v) else p):=by
 unfold eW;rw [if_pos];obtain⟨p,h1,h2⟩:=List.mem_map.mp h;exact List.any_eq_true.mpr ⟨p,h1,by simpa using h2⟩
theorem MJ{κ β:Type} [DecidableEq κ](l:List (κ×β))(k:κ)(v:β):(eW l k v).map (·.1)=if k∈l.map (·.1) then l.map (·.1) else l.map (·.1)++[k]:=by
 split
 ·rename_i h;rw [zY h,bw];refine cI fun p _=>?_;show (if p.1=k then (p.1,v) else p).1=p.1;split <;> rfl
 ·rename_i h;rw [lh h,aT]; rfl
theorem ND.put{l:Po}(h:ND l)(k v:Int):ND (eW l k v):=by
 unfold ND;rw [MJ];split
 ·exact h
 ·rename_i hk;rw [eE];exact⟨h,by simp,fun a ha b hb=>by rw [cq] at hb; subst hb; intro z; exact hk (z ▸ ha)⟩
theorem ND.nil:ND []:=cR
theorem ND.one(k v:Int):ND [(k,v)]:=by unfold ND; simp
theorem ND.tail{p:Int×Int}{l:Po}(h:ND (p :: l)):ND l:=by unfold ND at *; rw [ak,aP] at h; exact h.2
theorem ND.head{p:Int×Int}{l:Po}(h:ND (p :: l)):p.1∉l.map (·.1):=by unfold ND at *; rw [ak,aP] at h; exact h.1
theorem ND.fL{l:Po}(h:ND l):ND (fL l):=by
 unfold ND Y.fL at *;exact nB (lD _ kH) h
theorem sg{l:Po}(h:ND l)(p:Int×Int):ND (plus l p):=h.put _ _
theorem vt{α:Type}(f:Po->α->Po)(hf:∀ a x,ND a->ND (f a x)):∀ (xs:List α) (a:Po),ND a->ND (xs.foldl f a)
 | [],_,h=>h
 | x :: xs,a,h=>vt f hf xs _ (hf a x h)
theorem yZ{l m:Po}(h:ND l):ND (mW l m):=vt _ (fun a x h=>sg h x) m l h
theorem CH{m a:Po}(h:ND a)(p:Int×Int):ND (oI m a p):=vt _ (fun a x h=>sg h _) m a h
theorem yT(l m:Po):ND (nP l m):=vt _ (fun a x h=>CH h x) l [] .nil
theorem CL{l m:Po}(h:ND l):ND (sV l m):=(yZ h).fL
theorem wb(l m:Po):ND (ju l m):=(yT l m).fL
theorem yv{l:Po}(h:ND l)(b f:Int):ND (l.map fun p=>(p.1+b,p.2 * f)):=by
 unfold ND at *;rw [bw];have:(l.map ((fun x:Int×Int=>x.1)∘fun p=>(p.1+b,p.2 * f)))=(l.map (·.1)).map (· + b):=by rw [bw]; rfl
 rw [this];exact List.Pairwise.map _ (fun a c hac z=>hac (by lia)) h
theorem Bp{l:Po}(h:ND l)(b f:Int):ND (gK l b f):=(yv h b f).fL
theorem we(l:Po):∀ n,ND (eB l n)
 | 0=>.one _ _
 | n+1=>wb _ _
theorem E4(l:Po)(p:Int×Int):(plus l p).length<=l.length+1:=by unfold plus eW; split <;> simp
theorem sH{α:Type}(f:Po->α->Po)(c:Nat)(hf:∀ a x,(f a x).length<=a.length+c):∀ (xs:List α) (a:Po),(xs.foldl f a).length<=a.length+xs.length * c
 | [],a=>by simp
 | x :: xs,a=>by
  have:=sH f c hf xs (f a x);have:=hf a x;rw [c5,aj,Nat.succ_mul]; lia
theorem sr(l m:Po):(mW l m).length<=l.length+m.length:=by
 have:=sH plus 1 E4 m l;unfold mW; lia
theorem E3(m a:Po)(p:Int×Int):(oI m a p).length<=a.length+m.length:=by
 have:=sH (fun a q=>plus a (p.1+q.1,p.2 * q.2)) 1 (fun a q=>E4 a _) m a;unfold oI; lia
theorem rm(l m:Po):(nP l m).length<=l.length * m.length:=by
 have:=sH (oI m) m.length (fun a p=>E3 m a p) l [];simpa [nP] using this
theorem si(l:Po):(fL l).length<=l.length:=eg _ _
theorem yS(l m:Po):(ju l m).length<=l.length * m.length:=aZ (si _) (rm l m)
theorem tM(l:Po):∀ n,(eB l n).length<=l.length ^ n
 | 0=>by simp [eB]
 | n+1=>aZ (yS _ _) (by rw [QD]; exact kj _ (tM l n))
noncomputable def L(g:Int->Int):Po->Int
 | []=>0
 | p :: l=>p.2 * g p.1+L g l
theorem GP(g:Int->Int):∀ (l m:Po),L g (l++m)=L g l+L g m
 | [],m=>by simp [L]
 | p :: l,m=>by rw [aB,L,L,GP g l m]; lia
theorem B6{l:Po}{k:Int}(h:k∉l.map (·.1)):cV l k=none:=by
 unfold cV;have:l.find? (fun p=>decide (p.1=k))=none:=by
  rw [hB];intro p hp z;exact h (List.mem_map.mpr ⟨p,hp,by simpa using z⟩)
 rw [this]; rfl
theorem DL{p:Int×Int}{l:Po}{k:Int}:c0 (p :: l) k=if p.1=k then p.2 else c0 l k:=by
 unfold c0 cV;rw [eN];by_cases h:p.1=k <;> simp [h]
theorem B8(g:Int->Int)(k v:Int):∀ (l:Po),ND l->k∈l.map (·.1)->L g (l.map fun p=>if p.1=k then (p.1,v) else p)=L g l+(v - c0 l k) * g k
 | [],_,h=>by cases h
 | p :: l,hn,h=>by
  rw [ak,DL];by_cases e:p.1=k
  ·rw [if_pos e,if_pos e,L,L];have:l.map (fun p=>if p.1=k then (p.1,v) else p)=l:=by
    conv=>rhs; rw [<-jH l]
    refine cI fun q hq=>?_;rw [if_neg]; rfl;intro z; exact hn.head (by rw [e,<-z]; exact bM hq)
   rw [this];show v * g p.1+L g l=_;rw [e,Int.sub_mul]; lia
  ·rw [if_neg e,if_neg e,L,L,B8 g k v l hn.tail (by
    rw [ak,aY] at h;rcases h with h | h
    ·exact absurd h.symm e
    ·exact h)]
   lia
theorem Xl(g:Int->Int){l:Po}(hn:ND l)(k v:Int):L g (eW l k v)=L g l+(v - c0 l k) * g k:=by
 by_cases h:k∈l.map (·.1)
 ·rw [zY h]; exact B8 g k v l hn h
 ·rw [lh h,GP];have:c0 l k=0:=by unfold c0; rw [B6 h]; rfl
  rw [this];simp [L]
theorem Qh(g:Int->Int){l:Po}(hn:ND l)(p:Int×Int):L g (plus l p)=L g l+p.2 * g p.1:=by
 unfold plus;rw [Xl g hn];congr 1;rw [show c0 l p.1+p.2 - c0 l p.1=p.2 by lia]
theorem x6(g:Int->Int):∀ (l:Po),L g (fL l)=L g l
 | []=>rfl
 | p :: l=>by
  have ih:=x6 g l;unfold fL at *;rw [bS];by_cases h:p.2=0
  ·rw [if_neg (by simp [h]),ih,L,h]; simp
  ·rw [if_pos (by simp [h]),L,L,ih]
theorem Qi(g:Int->Int):∀ (m l:Po),ND l->L g (m.foldl plus l)=L g l+L g m
 | [],l,_=>by simp [L]
 | p :: m,l,h=>by
  rw [c5,Qi g m _ (sg h p),Qh g h,L]; lia
theorem Jv(g:Int->Int){l:Po}(h:ND l)(m:Po):L g (sV l m)=L g l+L g m:=by
 unfold sV mW; rw [x6,Qi g m l h]
theorem Qg(g:Int->Int)(p:Int×Int):∀ (m a:Po),ND a->L g (oI m a p)=L g a+p.2 * L (fun j=>g (p.1+j)) m
 | [],a,_=>by simp [oI,L]
 | q :: m,a,h=>by
  have ih:=Qg g p m (plus a (p.1+q.1,p.2 * q.2)) (sg h _);unfold oI at *;rw [c5,ih,Qh g h,L,Ht];show L g a+p.2 * q.2 * g (p.1+q.1)+_=_;rw [Int.mul_assoc]; lia
theorem GL(g:Int->Int)(l m:Po):L g (ju l m)=L (fun i=>L (fun j=>g (i+j)) m) l:=by
 unfold ju nP;rw [x6];have:∀ (l a:Po),ND a->L g (l.foldl (oI m) a)=L g a+L (fun i=>L (fun j=>g (i+j)) m) l:=by
  intro l;induction l with
  | nil=>intro a _; simp [L]
  | cons p l ih =>
   intro a h;rw [c5,ih _ (CH h p),Qg g p m a h,L]; lia
 rw [this l [] .nil]; simp [L]
theorem xr(g:Int->Int)(b f:Int):∀ (l:Po),L g (l.map fun p=>(p.1+b,p.2 * f))=f * L (fun i=>g (i+b)) l
 | []=>by simp [L]
 | p :: l=>by
  rw [ak,L,xr g b f l,L,Ht];congr 1;show p.2 * f * g (p.1+b)=f * (p.2 * g (p.1+b));rw [Int.mul_comm p.2 f,Int.mul_assoc]
theorem GN(g:Int->Int)(b f:Int)(l:Po):L g (gK l b f)=f * L (fun i=>g (i+b)) l:=by
 unfold gK; rw [x6,xr]
theorem Te(g h:Int->Int):∀ (l:Po),L (fun i=>g i+h i) l=L g l+L h l
 | []=>rfl
 | p :: l=>by rw [L,L,L,Te g h l,Ht]; lia
theorem P8{l:Po}{k:Int}(h:k∉l.map (·.1)):c0 l k=0:=by unfold c0; rw [B6 h]; rfl
theorem Lb{l:Po}(hn:ND l)(k:Int):L (fun i=>if i=k then 1 else 0) l=c0 l k:=by
 induction l with
 | nil=>rfl
 | cons p l ih =>
  rw [L,ih hn.tail,DL];by_cases h:p.1=k
  ·have:c0 l k=0:=P8 (h ▸ hn.head);simp [h,this]
  ·simp [h]
noncomputable def NZ(l:Po):Prop:=∀ p∈l,p.2≠0
theorem rB(l:Po):NZ (fL l):=fun p h=>by
 have:=(List.mem_filter.mp h).2;simpa using this
theorem oU{l:Po}(hn:ND l){p:Int×Int}(h:p∈l):cV l p.1=some p.2:=by
 induction l with
 | nil=>cases h
 | cons q l ih =>
  unfold cV;rw [eN];rcases List.mem_cons.mp h with rfl | h
  ·simp
  ·have:q.1≠p.1:=fun z=>hn.head (by rw [z]; exact bM h);simp only [this,decide_false];exact ih hn.tail h
theorem P9{l:Po}(hn:ND l){p:Int×Int}(h:p∈l):c0 l p.1=p.2:=by unfold c0; rw [oU hn h]; rfl
theorem OK{l:Po}{k:Int}(h:c0 l k≠0):(k,c0 l k)∈l:=by
 unfold c0 at *;unfold cV at *;cases q:l.find? (fun p=>decide (p.1=k)) with
 | none=>rw [q] at h; exact absurd rfl h
 | some p =>
  have h1:=vS q;have h2:=kE q;simp at h1;simp only [uq,sT];rw [<-h1]; exact h2
theorem iI:∀ (xs ys:List Int),xs.Nodup->(∀ x∈xs,x∈ys)->xs.length<=ys.length
 | [],_,_,_=>cQ _
 | x :: xs,ys,hn,h=>by
  rw [aP] at hn;have:=iI xs (ys.erase x) hn.2 fun y hy=>(QG (show y≠x from fun z=>hn.1 (by rw [<-z]; exact hy))).mpr (h y (aO _ hy));have hx:=h x (by simp);rw [Ll hx] at this;have:=Nx hx;rw [aj]; lia
theorem sub_len{l m:Po}(hl:ND l)(zl:NZ l)(h:∀ k,c0 l k=c0 m k):l.length<=m.length:=by
 have:=iI (l.map fun p:Int×Int=>p.1) (m.map fun p:Int×Int=>p.1) hl fun k hk=>by
  obtain⟨p,hp,rfl⟩:=List.mem_map.mp hk;have h1:c0 m p.1≠0:=by rw [<-h,P9 hl hp]; exact zl p hp
  exact bM (f:=(·.1)) (OK h1)
 simpa using this
theorem RR{l m:Po}(hl:ND l)(hm:ND m)(zl:NZ l)(zm:NZ m)(h:∀ k,c0 l k=c0 m k):AW l m=true:=by
 unfold AW;rw [aN];refine⟨?_,List.all_eq_true.mpr fun p hp=>?_⟩
 ·have h1:=sub_len hl zl h;have h2:=sub_len hm zm fun k=>(h k).symm;simpa using Nat.le_antisymm h1 h2
 ·have h1:c0 m p.1=p.2:=by rw [<-h,P9 hl hp]
  have h2:c0 m p.1≠0:=by rw [h1]; exact zl p hp
  have:=oU hm (OK h2);rw [h1] at this;simp only at this;rw [this]; simp
theorem I0{l m:Po}(hl:ND l)(hm:ND m)(zl:NZ l)(zm:NZ m)(h:∀ g,L g l=L g m):AW l m=true :=
 RR hl hm zl zm fun k=>by rw [<-Lb hl,<-Lb hm,h]
noncomputable def fh:Po->Nat
 | []=>0
 | p :: l=>p.2.natAbs+fh l
theorem zc:∀ (l m:Po),fh (l++m)=fh l+fh m
 | [],m=>by simp [fh]
 | p :: l,m=>by rw [aB,fh,fh,zc l m]; lia
theorem xN{l:Po}{p:Int×Int}(h:p∈l):p.2.natAbs<=fh l:=by
 induction l with
 | nil=>cases h
 | cons q l ih =>
  rw [fh];rcases List.mem_cons.mp h with rfl | h
  ·lia
  ·have:=ih h; lia
theorem xb(k v:Int):∀ (l:Po),ND l->k∈l.map (·.1)->fh (l.map fun p=>if p.1=k then (p.1,v) else p)+(c0 l k).natAbs=fh l+v.natAbs
 | [],_,h=>by cases h
 | p :: l,hn,h=>by
  rw [ak,DL];by_cases e:p.1=k
  ·rw [if_pos e,if_pos e,fh,fh];have:l.map (fun p=>if p.1=k then (p.1,v) else p)=l:=by
    conv=>rhs; rw [<-jH l]
    refine cI fun q hq=>?_;rw [if_neg]; rfl;intro z; exact hn.head (by rw [e,<-z]; exact bM hq)
   rw [this];show v.natAbs+fh l+_=_;lia
  ·have:=xb k v l hn.tail (by
    rw [ak,aY] at h;rcases h with h | h
    ·exact absurd h.symm e
    ·exact h)
   rw [if_neg e,if_neg e,fh,fh];lia
theorem E8{l:Po}(hn:ND l)(p:Int×Int):fh (plus l p)<=fh l+p.2.natAbs:=by
 unfold plus;by_cases h:p.1∈l.map (·.1)
 ·rw [zY h];have:=xb p.1 (c0 l p.1+p.2) l hn h;have:=Int.natAbs_add_le (c0 l p.1) p.2;lia
 ·rw [lh h,zc,P8 h];simp [fh]
theorem sx(l:Po):fh (fL l)<=fh l:=by
 induction l with
 | nil=>exact aH _
 | cons p l ih =>
  unfold fL at *;rw [bS];split
  ·rw [fh,fh]; lia
  ·rw [fh]; lia
theorem E7(p:Int×Int):∀ (m a:Po),ND a->fh (oI m a p)<=fh a+p.2.natAbs * fh m
 | [],a,_=>by simp [oI,fh]
 | q :: m,a,h=>by
  have ih:=E7 p m (plus a (p.1+q.1,p.2 * q.2)) (sg h _);have:=E8 h (p.1+q.1,p.2 * q.2);unfold oI at *;rw [c5,fh,Nat.mul_add];have e:(p.2 * q.2).natAbs=p.2.natAbs * q.2.natAbs:=Int.natAbs_mul _ _;simp only at this;lia
theorem tO(l m:Po):fh (ju l m)<=fh l * fh m:=by
 refine aZ (sx _) ?_;unfold nP;have:∀ (l a:Po),ND a->fh (l.foldl (oI m) a)<=fh a+fh l * fh m:=by
  intro l;induction l with
  | nil=>intro a _; simp [fh]
  | cons p l ih =>
   intro a h;rw [c5];have h1:=ih _ (CH (m:=m) h p);have h2:=E7 p m a h;rw [fh,Nat.add_mul]; lia
 have:=this l [] .nil;simpa [fh] using this
theorem pI(l:Po):∀ n,fh (eB l n)<=fh l ^ n
 | 0=>by simp [eB,fh]
 | n+1=>aZ (tO _ _) (by rw [QD]; exact kj _ (pI l n))
theorem E9:∀ (m l:Po),ND l->fh (m.foldl plus l)<=fh l+fh m
 | [],l,_=>by simp [fh]
 | p :: m,l,h=>by
  have h1:=E9 m _ (sg h p);have h2:=E8 h p;rw [c5,fh]; lia
theorem OB{l:Po}(h:ND l)(m:Po):fh (sV l m)<=fh l+fh m:=aZ (sx _) (E9 m l h)
theorem LN(l:Po):∀ n,NZ (eB l n)
 | 0=>fun p h=>by
  simp only [eB,cq] at h;subst h; decide
 | n+1=>rB _
end Y
end K2
end
section
namespace K2
open PySem (Str)
open Enc (enc)
class inductive Cn {α:Type} (ps:List (α×α)):α->α->Prop
 | refl (x:α):Cn ps x x
 | pair {x y:α}:(x,y)∈ps->Cn ps x y
 | symm {x y:α}:Cn ps x y->Cn ps y x
 | trans {x y z:α}:Cn ps x y->Cn ps y z->Cn ps x z
class DY (α:Type) [DecidableEq α] [Enc α] [bC α] where
 mn:∀ {x:D} {G:Gp} {xs:List α} {Q:DK},itemsOf x G=some (xs.map enc)->xs≠[]->(∀ m∈xs,(∀ y∈xs,Nd m y=true)->Q (enc m) G)->aaD [x] G Q
theorem nj{α:Type} [DecidableEq α] [Enc α] [bC α]:∀ (r:List α) (a:α),r.foldl (fun m x=>if bC.lt x m=true then x else m) a∈a :: r/\∀ y∈a :: r,Nd (r.foldl (fun m x=>if bC.lt x m=true then x else m) a) y=true
 | [],a=>⟨by simp,fun y hy=>by rw [List.mem_singleton.mp hy]; unfold Nd; rw [List.foldl_nil,bC.IC]; rfl⟩
 | b :: r,a=>by
  rw [c5];by_cases c:bC.lt b a=true
  ·rw [if_pos c];obtain⟨h1,h2⟩:=nj r b;refine⟨aO _ h1,fun y hy=>?_⟩;rcases List.mem_cons.mp hy with rfl | hy
   ·refine BA _ _ _ (h2 b (by simp)) ?_;unfold Nd;cases q:bC.lt y b with
    | false=>rfl
    | true=>have:=bC.trans _ _ _ q c; rw [bC.IC] at this; cases this
   ·exact h2 y hy
  ·rw [if_neg c];obtain⟨h1,h2⟩:=nj r a;refine⟨?_,fun y hy=>?_⟩
   ·rcases List.mem_cons.mp h1 with h | h
    ·rw [h]; simp
    ·exact aO _ (aO _ h)
   ·rcases List.mem_cons.mp hy with rfl | hy
    ·exact h2 y (by simp)
    ·rcases List.mem_cons.mp hy with rfl | hy
     ·refine BA _ _ _ (h2 a (by simp)) ?_;unfold Nd; simpa using c
     ·exact h2 y (aO _ hy)
noncomputable instance:DY Int where
 mn:=by
  intro x G xs Q hi D7 k;cases xs with
  | nil=>exact absurd rfl D7
  | cons a r =>
   obtain⟨h1,h2⟩:=nj r a;refine .inl ⟨a :: r,_,hi,rfl,?_⟩;have:(fun (m x:Int)=>if x < m then x else m)=fun m x=>if bC.lt x m=true then x else m:=by
    funext m x;show (if x < m then x else m)=if decide (x < m)=true then x else m
    simp
   show Q (enc (r.foldl (fun m x=>if x < m then x else m) a)) G;rw [this];exact k _ h1 h2
theorem tQ:∀ (x y:List Int),tR (fun a b=>decide (a < b)) x y=lexLt x y
 | [],[]=>rfl
 | [],_ :: _=>rfl
 | _ :: _,[]=>rfl
 | a :: x,b :: y=>by simp only [wA,lexLt,tQ x y]
noncomputable instance:DY T3 where
 mn:=by
  intro x G xs Q hi D7 k;cases xs with
  | nil=>exact absurd rfl D7
  | cons a r =>
   obtain⟨h1,h2⟩:=nj r a;have ei:itemsOf x G=some (((a :: r).map T3.l).map tI):=by rw [hi,bw]; rfl
   refine .inr ⟨(a :: r).map T3.l,_,ei,rfl,?_⟩;have:∀ (r:List T3) (a:T3),(r.map T3.l).foldl (fun m x=>if lexLt x m=true then x else m) a.l=(r.foldl (fun m x=>if bC.lt x m=true then x else m) a).l:=by
    intro r;induction r with
    | nil=>intro a; rfl
    | cons b r ih =>
     intro a;rw [ak,c5,c5];have e:(if lexLt b.l a.l=true then b.l else a.l)=(if bC.lt b a=true then b else a).l:=by
      have:bC.lt b a=lexLt b.l a.l:=tQ _ _;rw [this];split <;> rfl
     rw [e]; exact ih _
   rw [this r a];exact k _ h1 h2
namespace P
section
variable {α:Type} [DecidableEq α] [Enc α] [bC α] [uk α] [DY α]
structure GI(ms:List α)(ps:List (α×α))(l:List (α×List α)):Prop where
 len:l.length<=64
 at':∀ m∈ms,∃ g,cV l m=some g/\g.Nodup/\∀ x,x∈g↔Cn ps m x
end
end P
end K2
end
section
namespace K2
open PySem (Str)
open Enc (enc)
namespace P
theorem lh{κ β:Type} [DecidableEq κ]{l:List (κ×β)}{k:κ}{v:β}(h:k∉l.map (·.1)):eW l k v=l++[(k,v)]:=by
 unfold eW;rw [if_neg];intro q;obtain⟨p,h1,h2⟩:=List.any_eq_true.mp q;exact h (List.mem_map.mpr ⟨p,h1,by simpa using h2⟩)
theorem FL{κ β γ:Type} [DecidableEq κ](kf:γ->κ)(vf:γ->β):∀ (ps:List γ) (l:List (κ×β)),(l.map (·.1)++ps.map kf).Nodup->ps.foldl (fun l p=>eW l (kf p) (vf p)) l=l++ps.map fun p=>(kf p,vf p)
 | [],l,_=>by simp
 | p :: ps,l,h=>by
  rw [c5,lh (fun z=>by
   rw [ak,eE] at h;exact h.2.2 _ z _ (by simp) rfl),FL kf vf ps _ (by simpa using h)]
  simp
theorem wU(r:List T3):(i9 r).length=r.length:=by unfold i9; rw [aJ,cJ,eA]; lia
theorem Cg(r:List T3):(i9 r).Perm r:=by
 unfold i9;exact List.perm_append_comm.trans (by rw [jF])
theorem oM(rows:Rows):(pairsOf rows).map (·.1)=rows.flatten:=by
 unfold pairsOf;induction rows with
 | nil=>rfl
 | cons r rs ih =>
  rw [cw,aT,ih,cW];congr 1;rw [List.map_fst_zip]; rw [wU]; exact aH _
theorem oK(rows:Rows):((pairsOf rows).map (·.2)).Perm rows.flatten:=by
 unfold pairsOf;induction rows with
 | nil=>exact .refl _
 | cons r rs ih =>
  rw [cw,aT,cW];refine List.Perm.append ?_ ih;rw [List.map_snd_zip]
  ·exact Cg r
  ·rw [wU]; exact aH _
variable {rows:Rows}
theorem PB(d:Dr rows):((pairsOf rows).map fun p=>p.1.s).Nodup:=by
 have:((pairsOf rows).map fun p=>p.1.s)=rows.flatten.map T3.s:=by rw [<-oM,bw]; rfl
 rw [this]; exact d.nd
theorem TN(d:Dr rows):((pairsOf rows).map fun p=>p.2.s).Nodup:=by
 have:((pairsOf rows).map fun p=>p.2.s)=((pairsOf rows).map (·.2)).map T3.s:=by rw [bw]; rfl
 rw [this,((oK rows).map T3.s).nodup_iff]; exact d.nd
theorem OI(d:Dr rows):mX (pairsOf rows)=(pairsOf rows).map fun p=>(p.1.s,p.2.s):=by
 unfold mX;rw [FL (fun p:T3×T3=>p.1.s) (fun p=>p.2.s) _ _ (by simpa using PB d)]; rfl
noncomputable def Xw(rows:Rows)(s:T2):T3:=(rows.flatten.find? fun p=>decide (p.s=s)).getD ⟨0,0,0⟩
noncomputable def nxt(rows:Rows)(s:T2):T2:=(cV ((pairsOf rows).map fun p=>(p.1.s,p.2.s)) s).getD s
noncomputable def cmg(rows:Rows)(s:T2):T2:=(cV ((pairsOf rows).map fun p=>(p.2.s,p.1.s)) s).getD s
noncomputable def mt(p:T3):T2:=⟨p.a,1 - p.b⟩
noncomputable def fst(p:T3):Bool:=decide (p.b=0) == decide (p.c=1)
theorem Kd(d:Dr rows){p:T3}(h:p∈rows.flatten):Xw rows p.s=p:=by
 unfold Xw;cases q:rows.flatten.find? (fun x=>decide (x.s=p.s)) with
 | none=>rw [hB] at q; exact absurd (by simp) (q p h)
 | some x =>
  have h1:=vS q;have h2:=kE q;have h1:x.s=p.s:=by simpa using h1
  have:∀ (L:List T3),(L.map T3.s).Nodup->x∈L->p∈L->x=p:=by
   intro L;induction L with
   | nil=>intro _ h; cases h
   | cons y L ih =>
    intro hn hx hp;rw [ak,aP] at hn;rcases List.mem_cons.mp hx with e1 | hx2
    ·rcases List.mem_cons.mp hp with e2 | pP
     ·rw [e1,e2]
     ·exact absurd (by rw [<-e1,h1]; exact bM pP) hn.1
    ·rcases List.mem_cons.mp hp with e2 | pP
     ·exact absurd (by rw [<-e2,<-h1]; exact bM hx2) hn.1
     ·exact ih hn.2 hx2 pP
  exact this _ d.nd h2 h
theorem Pw{p:T3}(h:p∈rows.flatten):∃ q,(p,q)∈pairsOf rows/\q∈rows.flatten:=by
 rw [<-oM] at h;obtain⟨x,hx,rfl⟩:=List.mem_map.mp h;exact⟨x.2,hx,(oK rows).mem_iff.mp (bM hx)⟩
theorem Pu{q:T3}(h:q∈rows.flatten):∃ p,(p,q)∈pairsOf rows/\p∈rows.flatten:=by
 rw [<-(oK rows).mem_iff] at h;obtain⟨x,hx,rfl⟩:=List.mem_map.mp h;exact⟨x.1,hx,by rw [<-oM]; exact bM hx⟩
noncomputable def om(p:T3):T3:=⟨p.a,1 - p.b,p.c⟩
theorem V5(d:Dr rows){p:T3}(h:p∈rows.flatten):om p∈rows.flatten:=d.Fi p h
noncomputable def step(rows:Rows)(x:T3):T3 :=
 if x.b=2 then x else
 let al:=decide (x.c=0)
 let p:=if al=true then Xw rows (nxt rows x.s) else Xw rows x.s
 if (fst p == al)=true then Zq (mt p) else YE (cmg rows (mt p))
theorem oN{n:Int}:n∈names rows↔∃ p∈rows.flatten,p.b=0/\p.a=n:=by
 unfold names;rw [QR,List.mem_map];constructor
 ·rintro⟨p,h,rfl⟩;obtain⟨h1,h2⟩:=List.mem_filter.mp h;exact⟨p,h1,by simpa using h2,rfl⟩
 ·rintro⟨p,h1,h2,rfl⟩;exact⟨p,List.mem_filter.mpr ⟨h1,by simpa using h2⟩,rfl⟩
theorem KD(d:Dr rows){p:T3}(h:p∈rows.flatten):handOf rows p.a=p.c:=by
 unfold handOf;cases q:rows.flatten.find? (fun x=>x.a == p.a) with
 | none=>rw [hB] at q; exact absurd (by simp) (q p h)
 | some x =>
  have h1:x.a=p.a:=by simpa using vS q
  have h2:=kE q;show x.c=p.c;have hw:=d.way p h;have XJ:=d.way x h2;by_cases e:x.b=p.b
  ·have:x.s=p.s:=by unfold T3.s; rw [h1,e]
   have e1:=Kd d h2;rw [this,Kd d h] at e1;rw [e1]
  ·have:(om x).s=p.s:=by unfold T3.s om; rw [h1]; congr 1; dsimp only; lia
   have e1:=Kd d (V5 d h2);rw [this,Kd d h] at e1;rw [e1]; rfl
end P
end K2
end
section
set_option maxHeartbeats 1000000
namespace K2
open Enc (enc)
noncomputable instance {α β:Type} [DecidableEq α] [Enc α] [bC α] [DecidableEq β] [Enc β] [bC β]:bC (α×β) where
 lt:=fun x y=>if x.1=y.1 then bC.lt x.2 y.2 else bC.lt x.1 y.1
 Be:=.tup [bC.Be α,bC.Be β]
 C7:=fun x=>by
  show (da _ (enc x.1)&&(da _ (enc x.2)&&true))=true;rw [bC.C7,bC.C7]; rfl
 RA:=fun x y=>by
  show md [enc x.1,enc x.2] [enc y.1,enc y.2]=_;rw [mZ,mZ,Enc.eqv,Enc.eqv,bC.RA,bC.RA,show md [] []=false from rfl];by_cases h:x.1=y.1
  ·simp only [h,decide_true,if_true];by_cases h2:x.2=y.2
   ·simp only [h2,decide_true,if_true]; exact(bC.IC _).symm
   ·simp only [h2,decide_false,ar,if_false]
  ·simp only [h,decide_false,ar,if_false]
 IC:=fun x=>by simp only [if_true]; exact bC.IC _
 trans:=fun x y z h1 h2=>by
  by_cases e1:x.1=y.1
  ·rw [if_pos e1] at h1;by_cases e2:y.1=z.1
   ·rw [if_pos e2] at h2;rw [if_pos (e1.trans e2)];exact bC.trans _ _ _ h1 h2
   ·rw [if_neg e2] at h2;rw [if_neg (fun q=>e2 (e1.symm.trans q)),e1]; exact h2
  ·rw [if_neg e1] at h1;by_cases e2:y.1=z.1
   ·rw [if_neg (fun q=>e1 (q.trans e2.symm)),<-e2]; exact h1
   ·rw [if_neg e2] at h2;have h3:=bC.trans _ _ _ h1 h2;rw [if_neg (fun q=>by rw [q,bC.IC] at h3; cases h3)]; exact h3
 oi:=fun x y h1 h2=>by
  by_cases e1:x.1=y.1
  ·rw [if_pos e1] at h1;rw [if_pos e1.symm] at h2;exact Prod.ext e1 (bC.oi _ _ h1 h2)
  ·rw [if_neg e1] at h1;rw [if_neg (fun q=>e1 q.symm)] at h2;exact absurd (bC.oi _ _ h1 h2) e1
namespace J
noncomputable def LQ(l:List (T3×T3)):Pr T3:=QS (l.filter fun p=>bC.lt p.1 p.2)
theorem zg{κ β:Type} [DecidableEq κ]:∀ {l:List (κ×β)},(l.map (·.1)).Nodup->∀ {p:κ×β},p∈l->cV l p.1=some p.2
 | [],_,_,h=>by cases h
 | q :: l,nd,p,h=>by
  rw [ak,aP] at nd;unfold cV;rcases List.mem_cons.mp h with rfl | h
  ·rw [cG (by simp)]; rfl
  ·have:¬ q.1=p.1:=fun z=>nd.1 (by rw [z]; exact bM h);rw [cH (by simpa using this)];exact zg nd.2 h
theorem DP{κ β:Type} [DecidableEq κ]{l:List (κ×β)}{k:κ}{v:β}(h:cV l k=some v):(k,v)∈l:=by
 unfold cV at h;obtain⟨p,h1,h2⟩:=Option.map_eq_some_iff.mp h;have h3:=vS h1;have h4:=kE h1;simp at h3;rw [<-h3,<-h2]; exact h4
theorem Lc.mem{l:List (T3×T3)}{f:T3->T3}(h:Lc l f){p:T3×T3}(hp:p∈l):f p.1=p.2/\f p.1≠p.1:=by
 have a:=zg h.nd hp;rw [h.at'] at a;split at a
 ·cases a
 ·rename_i z; exact⟨bc a,z⟩
theorem RC{α:Type} [DecidableEq α] [Enc α] [bC α]{a b:α}(h1:bC.lt a b=true)(h2:bC.lt b a=true):False:=by
 have:=bC.trans _ _ _ h1 h2;rw [bC.IC] at this; cases this
theorem KQ{f:T3->T3}(iv:Iv f):∀ {l:List (T3×T3)},(l.map (·.1)).Nodup->(∀ p∈l,f p.1=p.2)->(es (l.filter fun p=>bC.lt p.1 p.2)).Nodup
 | [],_,_=>cR
 | p :: l,nd,h=>by
  rw [ak,aP] at nd;have ih:=KQ iv nd.2 fun q hq=>h q (aO _ hq);rw [bS];split
  ·rename_i hl;have fp:=h p (by simp);rw [es,aP,aP,aY,not_or];have out:∀ q∈l.filter (fun p=>bC.lt p.1 p.2),p.1≠q.1/\p.1≠q.2/\p.2≠q.1/\p.2≠q.2:=fun q hq=>by
    have SX:=List.mem_filter.mp hq;have fq:=h q (aO _ SX.1);have n1:p.1≠q.1:=fun z=>nd.1 (by rw [z]; exact bM SX.1);have n2:p.1=q.2->p.2=q.1:=fun z=>by rw [<-fp,z,<-fq,iv]
    have n3:p.2=q.1->p.1=q.2:=fun z=>by rw [<-fq,<-z,<-fp,iv]
    have S9:¬ (p.1=q.2/\p.2=q.1):=fun ⟨a,b⟩=>RC hl (by rw [a,b]; exact SX.2);refine⟨n1,fun z=>S9 ⟨z,n2 z⟩,fun z=>S9 ⟨n3 z,z⟩,fun z=>n1 ?_⟩;have:=congrArg f z;rw [<-fp,<-fq,iv,iv] at this;exact this
   have ne:p.1≠p.2:=fun z=>by rw [z,bC.IC] at hl; cases hl
   refine⟨⟨ne,fun z=>?_⟩,fun z=>?_,ih⟩
   ·obtain⟨q,hq,e⟩:=mY.mp z;rcases e with e | e
    ·exact(out q hq).1 e
    ·exact(out q hq).2.1 e
   ·obtain⟨q,hq,e⟩:=mY.mp z;rcases e with e | e
    ·exact(out q hq).2.2.1 e
    ·exact(out q hq).2.2.2 e
  ·exact ih
theorem J9{l:List (T3×T3)}{f:T3->T3}(h:Lc l f)(iv:Iv f):(es (LQ l)).Nodup/\pt (LQ l)=f:=by
 have sp:=uC (l.filter fun p=>bC.lt p.1 p.2);have nd0:=KQ iv h.nd fun p hp=>(h.mem hp).1;have nd:(es (LQ l)).Nodup:=(pR sp).nodup_iff.mpr nd0;refine⟨nd,Of nd (fun p hp=>?_) fun e he=>?_⟩
 ·have me:=(List.mem_filter.mp (sp.mem_iff.mp hp)).1;have:=(h.mem me).1;exact⟨this,by rw [<-this,iv]⟩
 ·refine gP fun z=>he ?_;have a1:cV l e=some (f e):=by rw [h.at',if_neg z]
  have z2:f (f e)≠f e:=fun q=>z (by rw [iv] at q; exact q.symm);have a2:cV l (f e)=some e:=by rw [h.at',if_neg z2,iv]
  have m1:=DP a1;have m2:=DP a2;rw [mY];by_cases hl:bC.lt e (f e)=true
  ·exact⟨(e,f e),sp.mem_iff.mpr (List.mem_filter.mpr ⟨m1,hl⟩),.inl rfl⟩
  ·by_cases BE:bC.lt (f e) e=true
   ·exact⟨(f e,e),sp.mem_iff.mpr (List.mem_filter.mpr ⟨m2,BE⟩),.inr rfl⟩
   ·exact absurd (bC.oi _ _ (by simpa using BE) (by simpa using hl)) z
noncomputable def IQ(P:Pr T3):List (T3×T3):=P.foldl (fun l p=>eW (eW l p.1 p.2) p.2 p.1) []
theorem KP:∀ {P:Pr T3},(es P).Nodup->Lc (IQ P) (pt P):=by
 have main:∀ (P:Pr T3) (l:List (T3×T3)) (f:T3->T3),Lc l f->(es P).Nodup->(∀ e∈es P,f e=e)->Lc (P.foldl (fun l p=>eW (eW l p.1 p.2) p.2 p.1) l) (fun e=>if e∈es P then pt P e else f e):=by
  intro P;induction P with
  | nil =>
   intro l f h _ _;have:(fun e=>if e∈es ([]:Pr T3) then pt [] e else f e)=f:=by funext e; simp [es]
   rw [this]; exact h
  | cons p P ih =>
   intro l f h nd hf;rw [es,aP,aP,aY,not_or] at nd;have f1:f p.1=p.1:=hf _ (by simp [es]);have f2:f p.2=p.2:=hf _ (by simp [es]);have h2:Lc (eW (eW l p.1 p.2) p.2 p.1) (fun e=>if e=p.1 then p.2 else if e=p.2 then p.1 else f e):=by
    refine⟨qb (qb h.nd),fun e=>?_⟩;rw [sQ,sQ,h.at'];have:=nd.1.1
    grind
   have:=ih _ _ h2 nd.2.2 fun e he=>by
    have m1:e≠p.1:=fun z=>nd.1.2 (z ▸ he);have m2:e≠p.2:=fun z=>nd.2.1 (z ▸ he);simp only [if_neg m1,if_neg m2];exact hf e (by simp [es,he])
   rw [c5];have e2:(fun e=>if e∈es (p :: P) then pt (p :: P) e else f e)=fun e=>if e∈es P then pt P e else if e=p.1 then p.2 else if e=p.2 then p.1 else f e:=by
    funext e;rw [es,pt];by_cases he:e∈es P
    ·have m1:e≠p.1:=fun z=>nd.1.2 (z ▸ he);have m2:e≠p.2:=fun z=>nd.2.1 (z ▸ he);rw [if_pos (by simp [he]),if_neg m1,if_neg m2,if_pos he]
    ·rw [if_neg he];by_cases m1:e=p.1
     ·rw [if_pos (by simp [m1]),if_pos m1,if_pos m1]
     ·by_cases m2:e=p.2
      ·rw [if_pos (by simp [m2]),if_neg m1,if_pos m2,if_neg m1,if_pos m2]
      ·rw [if_neg (by simp [m1,m2,he]),if_neg m1,if_neg m2]
   rw [e2]; exact this
 intro P nd;have:=main P [] (fun e=>e) ⟨cR,fun e=>by simp [cV]⟩ nd (fun _ _=>rfl);have e2:(fun e=>if e∈es P then pt P e else e)=pt P:=by
  funext e;by_cases he:e∈es P
  ·rw [if_pos he]
  ·rw [if_neg he,lY he]
 rw [e2] at this; exact this
theorem KO(P:Pr T3):(IQ P).length<=2 * P.length:=by
 have:∀ (P:Pr T3) (l:List (T3×T3)),(P.foldl (fun l p=>eW (eW l p.1 p.2) p.2 p.1) l).length<=l.length+2 * P.length:=by
  intro P;induction P with
  | nil=>intro l; simp
  | cons p P ih =>
   intro l;have h1:=ih (eW (eW l p.1 p.2) p.2 p.1);have h2:=rQ (eW l p.1 p.2) p.2 p.1;have h3:=rQ l p.1 p.2;rw [c5,aj]; lia
 have:=this P [];simpa [IQ] using this
end J
end K2
end
section
set_option maxHeartbeats 1000000
namespace K2
open Enc (enc)
namespace J
open Y (Po L ND NZ fh sV ju gK eB)
noncomputable def oj(P:Pr T3):PK:=P.map fun p=>[p.1.l,p.2.l]
noncomputable def aaA:List (List Int)->T3×T3
 | [[a,b,c],[x,y,z]]=>(⟨a,b,c⟩,⟨x,y,z⟩)
 | _=>(⟨0,0,0⟩,⟨0,0,0⟩)
noncomputable def dec(k:PK):Pr T3:=k.map aaA
theorem Jc(P:Pr T3):dec (oj P)=P:=by
 unfold dec oj;rw [bw]
 conv=>rhs; rw [<-jH P]
 rfl
theorem Ol(P:Pr T3):qi (oj P)=.tup (P.map enc):=by
 unfold qi oj;rw [bw];rfl
noncomputable abbrev Su:=List (PK×Po)
noncomputable def iS(S:Su):List (PK×D):=S.map fun p=>(p.1,D.kI (bD p.2))
theorem By(S:Su)(k:PK):ql (iS S) k=(cV S k).map fun l=>D.kI (bD l):=by
 unfold ql cV iS;rw [List.find?_map,Option.map_map,Option.map_map];rfl
theorem Oe(S:Su)(k:PK)(l:Po):LK (iS S) k (.kI (bD l))=iS (eW S k l):=by
 unfold LK eW iS;rw [List.any_map];split
 ·rename_i h;rw [if_pos (by simpa [Qq] using h),bw,bw];refine cI fun p _=>?_;simp only [Function.comp];split <;> rfl
 ·rename_i h;rw [if_neg (by simpa [Qq] using h),aT]; rfl
noncomputable def oi(ns:List (Int×Int))(g:Fn):Su->Int
 | []=>0
 | p :: S=>L (fun j=>Br (pt (dec p.1)) ns (sh j g)) p.2+oi ns g S
theorem JQ(ns:List (Int×Int))(g:Fn)(S S':Su):oi ns g (S++S')=oi ns g S+oi ns g S':=by
 induction S with
 | nil=>simp [oi]
 | cons p S ih=>rw [aB,oi,oi,ih]; lia
theorem QP(ns:List (Int×Int))(g:Fn)(k:PK)(l:Po):∀ {S:Su},(S.map (·.1)).Nodup->oi ns g (eW S k l)=oi ns g S+(L (fun j=>Br (pt (dec k)) ns (sh j g)) l - L (fun j=>Br (pt (dec k)) ns (sh j g)) ((cV S k).getD []))
 | S,nd=>by
  unfold eW;split
  ·rename_i h;have main:∀ {S:Su},(S.map (·.1)).Nodup->(S.any fun p=>decide (p.1=k))=true->oi ns g (S.map fun p=>if p.1=k then (p.1,l) else p)=oi ns g S+(L (fun j=>Br (pt (dec k)) ns (sh j g)) l - L (fun j=>Br (pt (dec k)) ns (sh j g)) ((cV S k).getD [])):=by
    intro S;induction S with
    | nil=>intro _ h; cases h
    | cons p S ih =>
     intro nd h;rw [ak,aP] at nd;rw [ak,oi,oi];by_cases e:p.1=k
     ·have e2:(S.map fun p=>if p.1=k then (p.1,l) else p)=S:=by
       conv=>rhs; rw [<-jH S]
       refine cI fun q hq=>?_;rw [if_neg]; rfl;intro z; exact nd.1 (by rw [e,<-z]; exact bM hq)
      have e3:cV (p :: S) k=some p.2:=by unfold cV; rw [cG (by simpa using e)]; rfl
      rw [e2,e3,if_pos e,e];simp only [sT];lia
     ·have e3:cV (p :: S) k=cV S k:=by unfold cV; rw [cH (by simpa using e)]
      rw [e3,if_neg e,ih nd.2 (by simpa [e] using h)];lia
   exact main nd h
  ·rename_i h;rw [JQ];have e3:cV S k=none:=by
    unfold cV;have:S.find? (fun p=>decide (p.1=k))=none:=by
     rw [hB];intro p hp z;exact h (List.any_eq_true.mpr ⟨p,hp,z⟩)
    rw [this]; rfl
   rw [e3];show oi ns g S+(L _ l+0)=_;simp only [A8,L];lia
noncomputable def LP:Po:=[(2,-1),(-2,-1)]
theorem aaN(g:Fn)(i:Int):L (fun j=>g (i+j)) LP=lp g i:=by
 show -1 * g (i+2)+(-1 * g (i+-2)+0)=-(g (i+2)) - g (i - 2);rw [show i+-2=i - 2 by lia]; lia
theorem OP(n:Nat)(g:Fn):jz n (lp g)=lp (jz n g):=by
 induction n with
 | zero=>rfl
 | succ n ih=>rw [jz,jz,ih]
theorem uj:∀ (n:Nat) (g:Fn),L g (eB LP n)=jz n g 0
 | 0,g=>by show 1 * g 0+0=g 0; lia
 | n+1,g=>by
  show L g (ju (eB LP n) LP)=_;rw [Y.GL];have:(fun i=>L (fun j=>g (i+j)) LP)=lp g:=by funext i; exact aaN g i
  rw [this,uj n,OP]; rfl
theorem Ir(f:T3->T3)(ns:List (Int×Int))(g:Fn):∀ (n:Nat) (b:Int),jz n (fun t=>Br f ns (sh (t+b) g))=fun t=>Br f ns (sh (t+b) (jz n g))
 | 0,b=>rfl
 | n+1,b=>by
  rw [jz,Ir f ns g n b];funext t;show -(Br f ns (sh (t+2+b) (jz n g))) - Br f ns (sh (t - 2+b) (jz n g))=Br f ns (sh (t+b) (lp (jz n g)));have e:sh (t+b) (lp (jz n g))=pl (sc (-1) (sh (t+2+b) (jz n g))) (sc (-1) (sh (t - 2+b) (jz n g))):=by
   funext i;show -(jz n g (i+(t+b)+2)) - jz n g (i+(t+b) - 2)=-1 * jz n g (i+(t+2+b))+-1 * jz n g (i+(t - 2+b));rw [show i+(t+b)+2=i+(t+2+b) by lia,show i+(t+b) - 2=i+(t - 2+b) by lia];lia
  rw [e,Qn,Le,Le]; lia
noncomputable def Q6(l:Po)(c:Nat)(b:Int):Po:=gK (ju l (eB LP c)) b 1
theorem Xm(f:T3->T3)(ns:List (Int×Int))(g:Fn)(l:Po)(c:Nat)(b:Int):L (fun j=>Br f ns (sh j g)) (Q6 l c b)=L (fun j=>Br f ns (jz c (sh b (sh j g)))) l:=by
 unfold Q6;rw [Y.GN,Y.GL,Int.one_mul];congr 1;funext i;rw [uj];have:(fun j=>Br f ns (sh (i+j+b) g))=fun t=>Br f ns (sh (t+(i+b)) g):=by
  funext t; rw [show i+t+b=t+(i+b) by lia]
 rw [this,Ir];show Br f ns (sh (0+(i+b)) (jz c g))=_;rw [D1,tP,tP,Bf,Int.add_comm i b]
theorem Rv(l:Po)(c:Nat)(b:Int):fh (Q6 l c b)<=fh l * 2 ^ c:=by
 unfold Q6 gK;refine aZ (Y.sx _) ?_;have e:∀ m:Po,fh (m.map fun p=>(p.1+b,p.2 * 1))=fh m:=by
  intro m;induction m with
  | nil=>rfl
  | cons p m ih=>rw [ak,fh,fh,ih]; simp
 rw [e];exact aZ (Y.tO _ _) (yk _ (Y.pI LP c))
noncomputable def tu(A:Su)(k':PK)(l:Po)(c:Nat)(b:Int):Su:=eW A k' (sV ((cV A k').getD []) (Q6 l c b))
noncomputable def MV(S:Su):Prop:=(S.map (·.1)).Nodup/\∀ p∈S,ND p.2/\NZ p.2
theorem MV.get{S:Su}(h:MV S)(k:PK):ND ((cV S k).getD [])/\NZ ((cV S k).getD []):=by
 cases e:cV S k with
 | none=>exact⟨Y.ND.nil,fun p hp=>by cases hp⟩
 | some l=>exact h.2 _ (DP e)
theorem MV.put{S:Su}(h:MV S){k:PK}{l:Po}(h1:ND l)(h2:NZ l):MV (eW S k l):=by
 refine⟨qb h.1,fun p hp=>?_⟩;unfold eW at hp;split at hp
 ·obtain⟨q,hq,rfl⟩:=List.mem_map.mp hp;split
  ·exact⟨h1,h2⟩
  ·exact h.2 q hq
 ·rcases List.mem_append.mp hp with hp | hp
  ·exact h.2 p hp
  ·rw [cq] at hp; subst hp; exact⟨h1,h2⟩
theorem NR{A:Su}(h:MV A)(k':PK)(l:Po)(c:Nat)(b:Int):MV (tu A k' l c b):=h.put (Y.CL (h.get k').1) (Y.rB _)
theorem NP{A:Su}(h:MV A)(ns:List (Int×Int))(g:Fn)(k':PK)(l:Po)(c:Nat)(b:Int):oi ns g (tu A k' l c b)=oi ns g A+L (fun j=>Br (pt (dec k')) ns (jz c (sh b (sh j g)))) l:=by
 unfold tu;rw [QP ns g k' _ h.1,Y.Jv _ (h.get k').1,Xm];lia
noncomputable def hW:Su->Nat
 | []=>0
 | p :: S=>fh p.2+hW S
theorem zd(S S':Su):hW (S++S')=hW S+hW S':=by
 induction S with
 | nil=>simp [hW]
 | cons p S ih=>rw [aB,hW,hW,ih]; lia
theorem OC(k:PK)(l:Po):∀ {S:Su},(S.map (·.1)).Nodup->hW (eW S k l)+fh ((cV S k).getD [])<=hW S+fh l
 | S,nd=>by
  unfold eW;split
  ·rename_i h;have main:∀ {S:Su},(S.map (·.1)).Nodup->(S.any fun p=>decide (p.1=k))=true->hW (S.map fun p=>if p.1=k then (p.1,l) else p)+fh ((cV S k).getD [])<=hW S+fh l:=by
    intro S;induction S with
    | nil=>intro _ h; cases h
    | cons p S ih =>
     intro nd h;rw [ak,aP] at nd;rw [ak,hW,hW];by_cases e:p.1=k
     ·have e2:(S.map fun p=>if p.1=k then (p.1,l) else p)=S:=by
       conv=>rhs; rw [<-jH S]
       refine cI fun q hq=>?_;rw [if_neg]; rfl;intro z; exact nd.1 (by rw [e,<-z]; exact bM hq)
      have e3:cV (p :: S) k=some p.2:=by unfold cV; rw [cG (by simpa using e)]; rfl
      rw [e2,e3,if_pos e];simp only [sT];lia
     ·have e3:cV (p :: S) k=cV S k:=by unfold cV; rw [cH (by simpa using e)]
      have:=ih nd.2 (by simpa [e] using h);rw [e3,if_neg e];lia
   exact main nd h
  ·rename_i h;rw [zd];have e3:cV S k=none:=by
    unfold cV;have:S.find? (fun p=>decide (p.1=k))=none:=by
     rw [hB];intro p hp z;exact h (List.any_eq_true.mpr ⟨p,hp,z⟩)
    rw [this]; rfl
   rw [e3];show hW S+(fh l+0)+0<=_;lia
theorem NQ{A:Su}(h:MV A)(k':PK)(l:Po){c:Nat}(hc:c<=2)(b:Int):hW (tu A k' l c b)<=hW A+4 * fh l:=by
 unfold tu;have h1:=OC k' (sV ((cV A k').getD []) (Q6 l c b)) h.1;have h2:=Y.OB (h.get k').1 (Q6 l c b);have h3:=Rv l c b;have h4:fh l * 2 ^ c<=fh l * 4:=yk _ (show 2 ^ c<=2 ^ 2 from kh (by decide) hc);lia
theorem Kf(S:Su)(k:PK):fh ((cV S k).getD [])<=hW S:=by
 induction S with
 | nil=>exact aH _
 | cons p S ih =>
  unfold cV at *;rw [hW];by_cases e:p.1=k
  ·rw [cG (by simpa using e)]; simp only [uq,sT]; lia
  ·rw [cH (by simpa using e)]; lia
theorem zb:∀ {l:Po},NZ l->l.length<=fh l
 | [],_=>aH _
 | p :: l,h=>by
  have h1:=h p (by simp);have h2:=zb (l:=l) fun q hq=>h q (aO _ hq);rw [aj,fh]; lia
noncomputable def jE(S:Su):Su:=S.filter fun p=>!p.2.isEmpty
theorem OX(ns:List (Int×Int))(g:Fn)(S:Su):oi ns g (jE S)=oi ns g S:=by
 unfold jE;induction S with
 | nil=>rfl
 | cons p S ih =>
  rw [bS];split
  ·rw [oi,oi,ih]
  ·rename_i h;have:p.2=[]:=by simpa using h
   rw [ih,oi,this,L,D1]
theorem Fw{S:Su}(h:MV S):MV (jE S):=⟨nB (lD _ kH) h.1,fun p hp=>h.2 p (List.mem_filter.mp hp).1⟩
theorem OY(S:Su):hW (jE S)<=hW S:=by
 unfold jE;induction S with
 | nil=>exact aH _
 | cons p S ih =>
  rw [bS];split
  ·rw [hW,hW]; lia
  ·rw [hW]; lia
theorem O0{S:Su}(h:MV S):(jE S).length<=hW S:=by
 have:∀ {S:Su},(∀ p∈S,NZ p.2)->(jE S).length<=hW S:=by
  intro S;unfold jE;induction S with
  | nil=>intro _; exact aH _
  | cons p S ih =>
   intro h;have ih:=ih fun q hq=>h q (aO _ hq);rw [bS,hW];split
   ·rename_i z;have h1:=zb (h p (by simp));have h2:0 < p.2.length:=by
     cases q:p.2 with
     | nil=>rw [q] at z; cases z
     | cons _ _=>simp
    rw [aj]; lia
   ·lia
 exact this fun p hp=>(h.2 p hp).2
end J
end K2
end
section
namespace K2
open PySem (Str)
open Enc (enc)
namespace Y
structure Pl(G:Gp)(d:D)(l:Po):Prop where
 is:Tj G d l
 nd:ND l
theorem nR{G G1:Gp}{p:Nat}{o:GO}{Q:DK}(l:fm G G1)(hp:G p=none)(h1:G1 p=some o)(q:gZ G o Q):GS G1 (.ref p) Q:=PA l hp h1 (q p hp)
theorem Du(i j:Int):iN (.int i) (.int j)=decide (i=j):=Enc.eqv i j
theorem uZ(l m:Po):fL (l++m)=fL l++fL m:=eL _ _
theorem Ia{l:Po}{k:Int}(h:k∈(fL l).map (·.1)):k∈l.map (·.1):=(lD _ kH).subset h
theorem SH{l pre post:Po}{p:Int×Int}(h:ND l)(e:l=pre++p :: post):p.1∉pre.map (·.1):=by
 subst e;unfold ND at h;rw [aT,ak,eE] at h;intro z;exact h.2.2 _ z _ (by simp) rfl
theorem yW{l pre post:Po}{p:Int×Int}(h:ND l)(e:l=pre++p :: post)(hz:p.2≠0):eW (fL pre) p.1 p.2=fL (pre++[p]):=by
 rw [lh fun z=>SH h e (Ia z),uZ];congr 1;simp [fL,hz]
theorem yX{pre:Po}{p:Int×Int}(hz:p.2=0):fL (pre++[p])=fL pre:=by
 rw [uZ]; simp [fL,hz]
theorem rM(i:Int):(enc i:D)=.int i:=rfl
noncomputable def dg:lO:=fun ds G Q _=>∃ (d:D) (l:Po),ds=[d]/\Pl G d l/\l.length<=SZ/\gZ G (.gF (bD (fL l))) Q
noncomputable def mR:iE :=
 (cC (bK nG (aL 1))
 (cC (eQ (kR (av 0)) (ka (dZ (aL 2) (dZ (aL 3) jX))) (jx (jf (a9 (CB true) (av 3) (dC (.int 0)))) (bK (av 3) (kz (av 1) (av 2))) fM))
 (cZ (cM (av 1)))))
theorem ug(ds:List D)(G:Gp)(Q:DK)(h:dg ds G Q fun _ _=>False):mR (fun _ _=>False) (ends Q) (bE 4 ds) G:=by
 obtain⟨d,l,rfl,hd,hl,q⟩:=h;unfold mR;simp only [ends,bE,ak,bq,aj,aC,a8,aB,aW,cX,bK,nG,aL,aq,ao];intro p hp;refine fg (fun τ G'=>(∃ a b,τ=[some d,some (.ref p),a,b])/\fm G G'/\G' p=some (.gF (bD (fL l)))) ?_ ?_
 ·intro N hN;simp only [eQ,kR,av,aa];refine k8 hd.is (.new hp) fun ok cL=>?_;refine dI (xs:=l) (fun pre τ G'=>(∃ a b,τ=[some d,some (.ref p),a,b])/\fm G G'/\G' p=some (.gF (bD (fL pre)))) ⟨⟨_,_,rfl⟩,.new hp,az⟩ (fun pre τ G' h=>cL G' h.2.1) ?_ ?_
  ·rintro pre x post τ G' N2 e ⟨⟨a,b,rfl⟩,le,gp⟩ mC;have hlen:(fL pre).length < SZ:=by
    have:=si pre;have:=congrArg dH e;rw [aJ,aj] at this; lia
   simp only [ka,dZ,aL,jX,aq,ao];refine⟨_,_,.int _,.int _,?_⟩;simp only [Du,if_true,bK,av,ae,aa,kz,fM];by_cases hz:x.2=0
   ·simp only [hz,decide_true,bL];exact mC _ _ ⟨⟨_,_,rfl⟩,le,by rw [yX hz]; exact gp⟩
   ·simp only [hz,decide_false,di];refine fN (α:=Int) gp hlen ?_;exact mC _ _ ⟨⟨_,_,rfl⟩,le.put hp,by rw [az,<-yW hd.nd e hz]⟩
  ·rintro τ G' ⟨⟨a,b,rfl⟩,le,gp⟩;exact hN _ _ ⟨⟨_,_,rfl⟩,le,gp⟩
 ·rintro _ G' ⟨⟨a,b,rfl⟩,le,gp⟩;simp only [cZ,cM,av,ae,aa];exact nR le hp gp q
theorem OM{G:Gp}{d:D}{l:Po}{i:Int}{Q:DK}(h:xD G d l)(k:Q (.int (c0 l i)) G):Fp d [.int i,.int 0] G Q:=Rz (α:=Int) (e:=0) h k
theorem ft{α:Type}{l pre post:List α}{x:α}(e:l=pre++x :: post):pre.length < l.length:=by
 have:=congrArg dH e;rw [aJ,aj] at this; lia
noncomputable def i0:lO:=fun ds G Q _=>∃ (d e:D) (l m:Po),ds=[d,e]/\Pl G d l/\Pl G e m/\l.length+m.length<=SZ/\gZ G (.gF (bD (sV l m))) Q
noncomputable def ES:iE :=
 (cC (bK (ua B0 (aw (av 0) aX)) (aL 2))
 (cC (eQ (kR (av 1)) (ka (dZ (aL 3) (dZ (aL 4) jX))) (bK (a9 hV (tG NK Fp (av 2) (aw (av 3) (aw (dC (.int 0)) aX))) (av 4)) (kz (av 2) (av 3))))
 (cZ (cM (bJ dg (aw (cM (av 2)) aX))))))
theorem Qf(ds:List D)(G:Gp)(Q:DK)(h:i0 ds G Q fun _ _=>False):ES (fun _ _=>False) (ends Q) (bE 5 ds) G:=by
 obtain⟨d,e,l,m,rfl,hd,he,hl,q⟩:=h;unfold ES;simp only [ends,bE,ak,bq,aj,aC,a8,aB,aW,cX,bK,ua,aw,av,aa,aX,aL,aq,ao];refine GB hd.is.p (by lia) fun p hp=>?_;refine fg (fun τ G'=>(∃ a b,τ=[some d,some e,some (.ref p),a,b])/\fm G G'/\G' p=some (.gF (bD (mW l m)))) ?_ ?_
 ·intro N hN;simp only [eQ,kR,av,ae,aa];refine k8 he.is (.new hp) fun ok cL=>?_;refine dI (xs:=m) (fun pre τ G'=>(∃ a b,τ=[some d,some e,some (.ref p),a,b])/\fm G G'/\G' p=some (.gF (bD (mW l pre)))) ⟨⟨_,_,rfl⟩,.new hp,az⟩ (fun pre τ G' h=>cL G' h.2.1) ?_ ?_
  ·rintro pre x post τ G' N2 e2 ⟨⟨a,b,rfl⟩,le,gp⟩ mC;have hlen:(mW l pre).length < SZ:=by
    have:=sr l pre;have:=ft e2; lia
   simp only [ka,dZ,aL,jX,bK,a9,tG,av,aq,ao,ae,aa,rZ,aw,dC,aX,kz];refine⟨Hz (xD.ref gp),OM (xD.ref gp) ?_⟩;simp only [rM,dU];refine fN (α:=Int) gp hlen ?_;refine mC _ _ ⟨⟨_,_,rfl⟩,le.put hp,?_⟩;rw [az];unfold mW plus;rw [jZ]; rfl
  ·rintro τ G' ⟨⟨a,b,rfl⟩,le,gp⟩;exact hN _ _ ⟨⟨_,_,rfl⟩,le,gp⟩
 ·rintro _ G' ⟨⟨a,b,rfl⟩,le,gp⟩;simp only [cZ,cM,bJ,aw,av,ae,aa,aX];refine iw le hp gp ?_;refine⟨_,mW l m,rfl,⟨rfl,yZ hd.nd⟩,by have:=sr l m; lia,fun p2 pP=>?_⟩;exact nR (.new pP) pP az q
noncomputable def fC:lO:=fun ds G Q _=>∃ (d:D) (l:Po) (b f:Int),ds=[d,.int b,.int f]/\Pl G d l/\l.length<=SZ/\(fh l < qB/\f.natAbs < qB)/\gZ G (.gF (bD (gK l b f))) Q
noncomputable def yH:iE :=
 (cC (bK nG (aL 3))
 (cC (eQ (kR (av 0)) (ka (dZ (aL 4) (dZ (aL 5) jX))) (bK (a9 Bn (av 5) (av 2)) (kz (av 3) (a9 hV (av 4) (av 1)))))
 (cZ (cM (bJ dg (aw (cM (av 3)) aX))))))
noncomputable def EB(b f:Int)(l:Po):Po:=l.map fun p=>(p.1+b,p.2 * f)
theorem yu{l pre post:Po}{p:Int×Int}(b f:Int)(h:ND l)(e:l=pre++p :: post):eW (EB b f pre) (p.1+b) (p.2 * f)=EB b f (pre++[p]):=by
 rw [lh,EB,EB,aT]; rfl;intro z;unfold EB at z;rw [bw] at z;obtain⟨r,hr,er⟩:=List.mem_map.mp z;have:r.1=p.1:=by have:r.1+b=p.1+b:=er; lia
 exact SH h e (this ▸ bM hr)
theorem Jq(ds:List D)(G:Gp)(Q:DK)(h:fC ds G Q fun _ _=>False):yH (fun _ _=>False) (ends Q) (bE 6 ds) G:=by
 obtain⟨d,l,b,f,rfl,hd,hl,⟨hb,hf⟩,q⟩:=h;unfold yH;simp only [ends,bE,ak,bq,aj,aC,a8,aB,aW,cX,bK,nG,aL,aq,ao];intro p hp;refine fg (fun τ G'=>(∃ u v,τ=[some d,some (.int b),some (.int f),some (.ref p),u,v])/\fm G G'/\G' p=some (.gF (bD (EB b f l)))) ?_ ?_
 ·intro N hN;simp only [eQ,kR,av,aa];refine k8 hd.is (.new hp) fun ok cL=>?_;refine dI (xs:=l) (fun pre τ G'=>(∃ u v,τ=[some d,some (.int b),some (.int f),some (.ref p),u,v])/\fm G G'/\G' p=some (.gF (bD (EB b f pre)))) ⟨⟨_,_,rfl⟩,.new hp,az⟩ (fun pre τ G' h=>cL G' h.2.1) ?_ ?_
  ·rintro pre x post τ G' N2 e ⟨⟨u,v,rfl⟩,le,gp⟩ mC;have hlen:(EB b f pre).length < SZ:=by
    have:=ft e;unfold EB; rw [au]; lia
   have hx:x.2.natAbs < qB:=fR (xN (by rw [e]; simp)) hb;simp only [ka,dZ,aL,jX,bK,a9,av,aq,ao,rM,ae,aa,kz,dU,sf];refine⟨⟨hx,hf⟩,?_⟩;refine fN (α:=Int) gp hlen ?_;exact mC _ _ ⟨⟨_,_,rfl⟩,le.put hp,by rw [az,<-yu b f hd.nd e]⟩
  ·rintro τ G' ⟨⟨u,v,rfl⟩,le,gp⟩;exact hN _ _ ⟨⟨_,_,rfl⟩,le,gp⟩
 ·rintro _ G' ⟨⟨u,v,rfl⟩,le,gp⟩;simp only [cZ,cM,bJ,aw,av,ae,aa,aX];refine iw le hp gp ?_;refine⟨_,EB b f l,rfl,⟨rfl,yv hd.nd b f⟩,by unfold EB; rw [au]; exact hl,fun p2 pP=>?_⟩;exact nR (.new pP) pP az q
noncomputable def jB:lO:=fun ds G Q _=>∃ (d e:D) (l m:Po),ds=[d,e]/\Pl G d l/\Pl G e m/\l.length * m.length<=SZ/\(fh l < qB/\fh m < qB)/\gZ G (.gF (bD (ju l m))) Q
noncomputable def ER:iE :=
 (cC (bK nG (aL 2))
 (cC (eQ (kR (av 0)) (ka (dZ (aL 3) (dZ (aL 4) jX))) (eQ (kR (av 1)) (ka (dZ (aL 5) (dZ (aL 6) jX))) (cC (bK (a9 hV (av 3) (av 5)) (aL 7))
 (bK (a9 hV (tG NK Fp (av 2) (aw (av 7) (aw (dC (.int 0)) aX))) (a9 Bn (av 4) (av 6))) (kz (av 2) (av 7))))))
 (cZ (cM (bJ dg (aw (cM (av 2)) aX))))))
theorem Rx{l pre post:Po}{x:Int×Int}{m mp mq:Po}{y:Int×Int}(e:l=pre++x :: post)(e2:m=mp++y :: mq)(a:Po)(ha:a.length<=pre.length * m.length):(oI mp a x).length < l.length * m.length:=by
 have h1:=E3 mp a x;have h2:=ft e;have h3:=ft e2;have h4:(pre.length+1) * m.length<=l.length * m.length:=kj _ h2;rw [Nat.succ_mul] at h4;lia
theorem Mp(m:Po):∀ (l:Po),(l.foldl (oI m) []).length<=l.length * m.length:=fun l=>rm l m
theorem Qe(ds:List D)(G:Gp)(Q:DK)(h:jB ds G Q fun _ _=>False):ER (fun _ _=>False) (ends Q) (bE 8 ds) G:=by
 obtain⟨d,e,l,m,rfl,hd,he,hl,⟨hb,hf⟩,q⟩:=h;unfold ER;simp only [ends,bE,ak,bq,aj,aC,a8,aB,aW,cX,bK,nG,aL,aq,ao];intro p hp;refine fg (fun τ G'=>(∃ a1 a2 a3 a4 a5,τ=[some d,some e,some (.ref p),a1,a2,a3,a4,a5])/\fm G G'/\G' p=some (.gF (bD (nP l m)))) ?_ ?_
 ·intro N hN;simp only [eQ,kR,av,aa];refine k8 hd.is (.new hp) fun ok cL=>?_;refine dI (xs:=l) (fun pre τ G'=>(∃ a1 a2 a3 a4 a5,τ=[some d,some e,some (.ref p),a1,a2,a3,a4,a5])/\fm G G'/\G' p=some (.gF (bD (pre.foldl (oI m) [])))) ⟨⟨_,_,_,_,_,rfl⟩,.new hp,az⟩ (fun pre τ G' h=>cL G' h.2.1) ?_ ?_
  ·rintro pre x post τ G' N2 e1 ⟨⟨a1,a2,a3,a4,a5,rfl⟩,le,gp⟩ mC;have hx:x.2.natAbs < qB:=fR (xN (by rw [e1]; simp)) hb;simp only [ka,dZ,aL,jX,eQ,kR,av,aq,ao,rM,ae,aa];refine k8 he.is le fun SD ZV=>?_;refine dI (xs:=m) (fun mp τ G'=>(∃ a3 a4 a5,τ=[some d,some e,some (.ref p),some (.int x.1),some (.int x.2),a3,a4,a5])/\fm G G'/\G' p=some (.gF (bD (oI mp (pre.foldl (oI m) []) x)))) ⟨⟨_,_,_,rfl⟩,le,gp⟩ (fun pre τ G' h=>ZV G' h.2.1) ?_ ?_
   ·rintro mp y mq τ G2 N3 e2 ⟨⟨b3,b4,b5,rfl⟩,Qw,Ng⟩ D8;have hlen:=bY (Rx e1 e2 (pre.foldl (oI m) []) (Mp m pre)) hl;have hy:y.2.natAbs < qB:=fR (xN (by rw [e2]; simp)) hf;simp only [ka,dZ,aL,jX,aq,ao,rM,cX,bK,a9,av,ae,aa,tG,rZ,aw,dC,aX,kz,sf,dU];refine⟨Hz (xD.ref Ng),OM (xD.ref Ng) ?_⟩;simp only [dU];refine⟨⟨hx,hy⟩,?_⟩;refine fN (α:=Int) Ng hlen ?_;refine D8 _ _ ⟨⟨_,_,_,rfl⟩,Qw.put hp,?_⟩;rw [az]
    conv=>rhs; rw [oI,jZ]
    rfl
   ·rintro τ G2 ⟨⟨b3,b4,b5,rfl⟩,Qw,Ng⟩;refine mC _ _ ⟨⟨_,_,_,_,_,rfl⟩,Qw,?_⟩;rw [Ng,jZ]; rfl
  ·rintro τ G' ⟨⟨a1,a2,a3,a4,a5,rfl⟩,le,gp⟩;exact hN _ _ ⟨⟨_,_,_,_,_,rfl⟩,le,gp⟩
 ·rintro _ G' ⟨⟨a1,a2,a3,a4,a5,rfl⟩,le,gp⟩;simp only [cZ,cM,bJ,aw,av,ae,aa,aX];refine iw le hp gp ?_;refine⟨_,nP l m,rfl,⟨rfl,yT l m⟩,aZ (rm l m) hl,fun p2 pP=>?_⟩;exact nR (.new pP) pP az q
noncomputable def iH:lO:=fun ds G Q _=>∃ (d:D) (l:Po) (n:Nat),ds=[d,.int n]/\Pl G d l/\(n<=1000/\∀ k,k < n->l.length ^ k * l.length<=SZ/\fh l ^ k < qB)/\fh l < qB/\gZ G (.gF (bD (eB l n))) Q
noncomputable def Bj:iE :=
 (cC (bK (Gr (dC (.int 0)) (dC (.int 1))) (aL 2))
 (cC (eQ (xj (av 1)) (aL 3) (bK (bJ jB (aw (cM (av 2)) (aw (cM (av 0)) aX))) (aL 2)))
 (cZ (cM (av 2)))))
theorem MS(ds:List D)(G:Gp)(Q:DK)(h:iH ds G Q fun _ _=>False):Bj (fun _ _=>False) (ends Q) (bE 4 ds) G:=by
 obtain⟨d,l,n,rfl,hd,⟨hn,hk⟩,hb,q⟩:=h;unfold Bj;simp only [ends,bE,ak,bq,aj,aC,a8,aB,aW,cX,bK,Gr,dC,aL,aq,ao];refine⟨rfl,fun p0 Nf=>?_⟩;refine fg (fun τ G'=>(∃ a p,τ=[some d,some (.int n),some (.ref p),a]/\G p=none/\G' p=some (.gF (bD (eB l n))))/\fm G G') ?_ ?_
 ·intro N hN;simp only [eQ,k7,av,ae,aa,j4];refine⟨by lia,by lia,?_⟩;rw [df];refine UQ (fun pre τ G'=>(∃ a p,τ=[some d,some (.int n),some (.ref p),a]/\G p=none/\G' p=some (.gF (bD (eB l pre.length))))/\fm G G') ⟨⟨_,p0,rfl,Nf,az⟩,.new Nf⟩ (fun _ _ _ _=>trivial) ?_ ?_
  ·rintro pre x post τ G' N2 e1 ⟨⟨a,p,rfl,hp,gp⟩,le⟩ mC;obtain⟨rfl,xA⟩:=HU e1;obtain⟨h1,h2⟩:=hk pre.length xA;simp only [aL,bK,bJ,aw,cM,av,aq,ao,ae,aa,aX];refine iw le hp gp (cz ?_);refine⟨_,d,eB l pre.length,l,rfl,⟨rfl,we _ _⟩,hd,aZ (kj _ (tM l _)) h1,⟨fR (pI l _) h2,hb⟩,fun p2 pP=>?_⟩;refine mC _ _ ⟨⟨_,p2,rfl,pP,?_⟩,.new pP⟩;rw [az,aJ]; rfl
  ·rintro τ G' ⟨⟨a,p,rfl,hp,gp⟩,le⟩;rw [show (gJ 0 n).length=n by simp [gJ]] at gp;exact hN _ _ ⟨⟨_,p,rfl,hp,gp⟩,le⟩
 ·rintro _ G' ⟨⟨a,p,rfl,hp,gp⟩,le⟩;simp only [cZ,cM,av,ae,aa];exact nR le hp gp q
end Y
end K2
end
section
namespace K2
open PySem (Str)
open Enc (enc)
namespace JB
open K2.P K2.J
noncomputable def Bl:iE :=
 (cC (jx (jf (a9 (CB false) (av 1) (dC (.int 0)))) (cZ (cM (iT (aw (iA (aw (iA (aw (av 0) (aw (dC (.int 0)) (aw (dC (.int 0)) aX)))) (aw (iA (aw (av 0) (aw (dC (.int 1)) (aw (dC (.int 1)) aX)))) aX))) (aw (iA (aw (iA (aw (av 0) (aw (dC (.int 1)) (aw (dC (.int 0)) aX)))) (aw (iA (aw (av 0) (aw (dC (.int 0)) (aw (dC (.int 1)) aX)))) aX))) aX))))) fM)
 (cZ (cM (iT (aw (iA (aw (iA (aw (av 0) (aw (dC (.int 0)) (aw (dC (.int 0)) aX)))) (aw (iA (aw (av 0) (aw (dC (.int 1)) (aw (dC (.int 0)) aX)))) aX))) (aw (iA (aw (iA (aw (av 0) (aw (dC (.int 0)) (aw (dC (.int 1)) aX)))) (aw (iA (aw (av 0) (aw (dC (.int 1)) (aw (dC (.int 1)) aX)))) aX))) aX))))))
noncomputable def wI(w:Bool):Int:=if w=true then 1 else 0
noncomputable def se:lO:=fun ds G Q _=>∃ (n:Int) (w:Bool),ds=[.int n,.int (wI w)]/\Q (enc (js n w)) G
theorem MU(ds:List D)(G:Gp)(Q:DK)(h:se ds G Q fun _ _=>False):Bl (fun _ _=>False) (ends Q) (bE 2 ds) G:=by
 obtain⟨n,w,rfl,q⟩:=h;unfold Bl;simp only [cC,jx,bE,ak,bq,aj,aC,aB,aW,cZ,cM,iT,aw,iA,av,aa,dC,aX,ends,fM,eP,a9,ae];refine⟨_,_,.int _,.int _,?_⟩;simp only [ar,i5,if_false,cB];cases w with
 | false =>
  simp only [wI,ar,if_false,beq_self_eq_true,if_true];refine⟨by decide,by decide,by decide,by decide,by decide,by decide,by decide,fun p hp=>?_⟩;exact iL (xs:=js n false) (.new hp) hp az q
 | true =>
  simp only [wI,if_true,show ((1:Int) == 0)=false from rfl,ar,if_false];refine⟨by decide,by decide,by decide,by decide,by decide,by decide,by decide,fun p hp=>?_⟩;exact iL (xs:=js n true) (.new hp) hp az q
noncomputable def w5:iE :=
 (cZ (cM (dIf (jf (a9 (CB false) (av 1) (dC (.int 0)))) (av 0) (Ni EW (av 0)))))
noncomputable def pw(h:Int)(w:Bool):Int:=if w=true then -h else h
noncomputable def nM:lO:=fun ds G Q _=>∃ (h:Int) (w:Bool),ds=[.int h,.int (wI w)]/\Q (.int (pw h w)) G
theorem GG(ds:List D)(G:Gp)(Q:DK)(h:nM ds G Q fun _ _=>False):w5 (fun _ _=>False) (ends Q) (bE 2 ds) G:=by
 obtain⟨n,w,rfl,q⟩:=h;unfold w5;simp only [cZ,cM,dIf,bE,ak,bq,aj,aC,aB,aW,av,aa,ends,Ni,rh,eP,a9,ae,dC];refine⟨_,_,.int _,.int _,?_⟩;simp only [ar,i5,if_false,cB];cases w with
 | false =>
  simp only [wI,ar,if_false,beq_self_eq_true,if_true];exact cz q
 | true =>
  simp only [wI,if_true,show ((1:Int) == 0)=false from rfl,ar,if_false];exact cz q
theorem Wo:∀ (x y:List Int),tR (fun a b=>decide (a < b)) x y=lexLt x y
 | [],[]=>rfl
 | [],_ :: _=>rfl
 | _ :: _,[]=>rfl
 | a :: x,b :: y=>by rw [wA,Wo x y]; rfl
theorem lt3(p q:T3):lexLt p.l q.l=bC.lt p q:=(Wo _ _).symm
noncomputable def yI:iE :=
 (cZ (cM (ua R4 (aw (ua vJ (aw (iO 1 [0] (ng (av 0)) (aL 0) (some (jf (a9 Xv (av 0) (a9 ip (av 1) (av 0))))) (iA (aw (av 0) (aw (a9 ip (av 1) (av 0)) aX)))) aX)) aX))))
noncomputable def kM:lO:=fun ds G Q _=>∃ (l:List (T3×T3)),ds=[.kI (bD l)]/\((l.map (·.1)).Nodup/\l.length < 64)/\Q (qi (oj (LQ l))) G
theorem Jr(ds:List D)(G:Gp)(Q:DK)(h:kM ds G Q fun _ _=>False):yI (fun _ _=>False) (ends Q) (bE 1 ds) G:=by
 obtain⟨l,rfl,⟨nd,hl⟩,q⟩:=h;unfold yI;simp only [cZ,cM,ua,aw,iO,ng,av,bE,ak,bq,aj,aC,aB,aW,aa,aX,ends];show _/\_;have ek:((bD l).map fun p=>p.1)=l.map fun p=>enc p.1:=by unfold bD; rw [bw]; rfl
 refine⟨Ey (by unfold bD; rw [au,au]; lia),?_⟩;rw [ek];refine lg (xs:=l) (f:=fun p=>enc p.1) (fun pre acc τ G'=>G=G'/\(∃ a,τ=[a,some (.kI (bD l))])/\acc=(pre.filter fun p=>bC.lt p.1 p.2).map enc) ⟨rfl,⟨_,rfl⟩,rfl⟩ (fun _ _ _ _ _=>trivial) ?_ ?_
 ·rintro pre x post acc τ G' N e ⟨rfl,⟨a,rfl⟩,rfl⟩ hN;have hx:cV l x.1=some x.2:=zg nd (by rw [e]; simp);simp only [aL,ao,iA,aw,av,aa,a9,ae,aX,aj,aC,xJ,vc,hx,uq,eP];refine⟨nc _ _,?_⟩;show ∃ xs ys,_;refine⟨x.1.l,x.2.l,rfl,rfl,?_⟩;simp only [lt3,cB];split
  ·rename_i xA;refine⟨nc _ _,by decide,hN _ _ _ ⟨rfl,⟨_,rfl⟩,?_⟩⟩;simp only [eL,bS,xA,if_true,lB,aT]; rfl
  ·rename_i xA;refine hN _ _ _ ⟨rfl,⟨_,rfl⟩,?_⟩;simp only [eL,bS,xA,if_false,lB,cP,ar]
 ·rintro acc τ G' ⟨rfl,⟨a,rfl⟩,rfl⟩ p hp;refine zX (IsL.ref az) (fR (eg _ _) hl) fun p2 pP=>?_;unfold R4;simp only [va (IsL.ref az)];rw [Ol] at q;exact xT ((fm.new hp).trans (.new pP)) q
theorem Mg{G G2:Gp}{d:D}{ds:List D}{R:List D->(Gp->Prop)->Gp->Prop}(h:itemsOf d G=some ds)(l:fm G G2)(k:∀ ok:Gp->Prop,(∀ G',fm G G'->ok G')->R ds ok G2):RF d G2 R:=by
 cases d with
 | tup xs=>cases h; exact k _ fun _ _=>trivial
 | dQ xs=>cases h; exact k _ fun _ _=>trivial
 | ref a =>
  unfold itemsOf at h;dsimp only at h;split at h
  ·rename_i xs ha;cases h;rw [Kw (l _ _ ha)];exact k _ fun G' le=>le _ _ ha
  ·cases h
 | _=>cases h
noncomputable def w9:iE :=
 (cC (bK nG (aL 1))
 (cC (eQ (oR (av 0)) (ka (dZ (aL 2) (dZ (aL 3) jX))) (cC (bK (av 3) (kz (av 1) (av 2)))
 (bK (av 2) (kz (av 1) (av 3)))))
 (cZ (cM (av 1)))))
noncomputable def j3:lO:=fun ds G Q _=>∃ (d:D) (P:Pr T3),ds=[d]/\itemsOf d G=some (P.map enc)/\P.length<=200/\gZ G (.gF (bD (IQ P))) Q
theorem PG(P:Pr T3)(p:T3×T3):IQ (P++[p])=eW (eW (IQ P) p.1 p.2) p.2 p.1:=by unfold IQ; rw [jZ]; rfl
theorem GK(ds:List D)(G:Gp)(Q:DK)(h:j3 ds G Q fun _ _=>False):w9 (fun _ _=>False) (ends Q) (bE 4 ds) G:=by
 obtain⟨d,P,rfl,hi,hl,q⟩:=h;unfold w9;simp only [ends,bE,ak,bq,aj,aC,a8,aB,aW,cX,bK,nG,gZ,aL,aq,ao];intro p hp;refine fg (fun τ G'=>(∃ a b,τ=[some d,some (.ref p),a,b])/\fm G G'/\G' p=some (.gF (bD (IQ P)))) ?_ ?_
 ·intro N hN;simp only [eQ,gB,av,aa];refine Mg hi (.new hp) fun ok cL=>?_;refine dI (xs:=P) (fun pre τ G'=>(∃ a b,τ=[some d,some (.ref p),a,b])/\fm G G'/\G' p=some (.gF (bD (IQ pre)))) ⟨⟨_,_,rfl⟩,.new hp,az⟩ (fun pre τ G' h=>cL G' h.2.1) ?_ ?_
  ·rintro pre x post τ G' N2 e ⟨⟨a,b,rfl⟩,le,gp⟩ mC;have hlen:=KO pre;have BE:pre.length < P.length:=by rw [e]; simp
   have e0:(enc x:D)=.tup [enc x.1,enc x.2]:=rfl;simp only [ka,e0,dZ,aL,jX,aq,ao,cX,bK,av,ae,aa,kz];refine K2.P.fN (k:=x.1) (v:=x.2) gp (by lia) ?_;have abx:=rQ (IQ pre) x.1 x.2;refine K2.P.fN (k:=x.2) (v:=x.1) az (by lia) ?_;refine mC _ _ ⟨⟨_,_,rfl⟩,(le.put hp).put hp,?_⟩;rw [az,PG]
  ·rintro τ G' ⟨⟨a,b,rfl⟩,le,gp⟩;exact hN _ _ ⟨⟨_,_,rfl⟩,le,gp⟩
 ·rintro _ G' ⟨⟨a,b,rfl⟩,le,gp⟩;simp only [cZ,cM,av,ae,aa];exact PA le hp gp (q p hp)
noncomputable def Qt(l:List (T2×T2)):Pr T3:=l.map fun p=>(⟨p.1.a,p.1.b,1⟩,⟨p.2.a,p.2.b,0⟩)
theorem US(P:Pr T3):((IQ P).map (·.1)).Nodup:=by
 have:∀ (P:Pr T3) (l:List (T3×T3)),(l.map (·.1)).Nodup->((P.foldl (fun l p=>eW (eW l p.1 p.2) p.2 p.1) l).map (·.1)).Nodup:=by
  intro P;induction P with
  | nil=>intro l h; exact h
  | cons p P ih=>intro l h; exact ih _ (qb (qb h))
 exact this P [] cR
noncomputable def tD:iE :=
 (cC (bK (iO 2 [] (C2 (bJ mL (aw (av 0) aX))) (ka (dZ (aL 0) (dZ (aL 1) jX))) none (iA (aw (a9 hV (av 0) (iA (aw (dC (.int 1)) aX))) (aw (a9 hV (av 1) (iA (aw (dC (.int 0)) aX))) aX)))) (aL 1))
 (cZ (cM (bJ kM (aw (cM (bJ j3 (aw (av 1) aX))) aX)))))
noncomputable def kU:lO:=fun ds G Q _=>∃ rows:Rows,ds=[enc rows]/\rows.flatten.length<=24/\Q (qi (oj (LQ (IQ (Qt (mX (pairsOf rows))))))) G
theorem A4(ds:List D)(G:Gp)(Q:DK)(h:kU ds G Q fun _ _=>False):tD (fun _ _=>False) (ends Q) (bE 2 ds) G:=by
 obtain⟨rows,rfl,hl,q⟩:=h;have l1:=Bt (pairsOf rows);have l2:=pairs_len rows;unfold tD;simp only [ends,bE,ak,bq,aj,aC,a8,aB,aW,cX,bK,iO,C2,bJ,aw,av,aa,aX,aL,cZ,cM,aq,ao,ae];refine⟨rows,rfl,by lia,?_⟩;generalize hn:mX (pairsOf rows)=l at q l1;have hk:(((bD l).all fun p=>kQ p.1)=true):=by
  unfold bD; rw [nu,i7]; intro p _; rfl
 refine⟨hk,?_⟩;have em:((bD l).map fun p=>D.tup [p.1,p.2])=l.map fun p=>D.tup [enc p.1,enc p.2]:=by unfold bD; rw [bw]; rfl
 rw [em];refine⟨Ey (by rw [au]; lia),?_⟩;refine lg (xs:=l) (f:=fun p=>D.tup [enc p.1,enc p.2]) (fun pre acc τ G'=>G=G'/\(∃ a b,τ=[a,b])/\acc=(Qt pre).map enc) ⟨rfl,⟨_,_,rfl⟩,rfl⟩ (fun _ _ _ _ _=>trivial) ?_ ?_
 ·rintro pre x post acc τ G' N e ⟨rfl,⟨a,b,rfl⟩,rfl⟩ hN;simp only [ka,dZ,aL,jX,iA,aw,a9,av,UW,ao,aq,aa,dC,aX,aj,aC,ae,yO,aB,aW];refine⟨by decide,by simp,by decide,by decide,by simp,by decide,by decide,hN _ _ _ ⟨rfl,⟨_,_,rfl⟩,?_⟩⟩;unfold Qt;rw [aT,aT]; rfl
 ·rintro acc τ G' ⟨rfl,⟨a,b,rfl⟩,rfl⟩ p hp;have lt:(Qt l).length<=24:=by unfold Qt; rw [au]; lia
  refine⟨.ref p,Qt l,rfl,pM (IsL.ref az),by lia,fun p2 pP=>?_⟩;refine iw ((fm.new hp).trans (.new pP)) ((fm.new hp).free pP) az ?_;have lf:=KO (Qt l);exact⟨IQ (Qt l),rfl,⟨US _,by lia⟩,cz q⟩
end JB
end K2
end
section
namespace K2
open PySem (Str)
open Enc (enc)
namespace JB
open K2.P K2.J
open K2.Y (Po L ND NZ fh sV ju gK eB fC jB iH i0 Pl)
theorem RS(l:List (T3×T3))(k:T3):((bD l).filter fun p=>!iN p.1 (enc k))=bD (Dx l k):=by
 unfold bD Dx;rw [List.filter_map];congr 1;refine List.filter_congr fun p _=>?_;show (!iN (enc p.1) (enc k))=_;rw [Enc.eqv]; simp
theorem J8{G:Gp}{a:Nat}{l:List (T3×T3)}{k v:T3}{Q:DK}(h:G a=some (.gF (bD l)))(e:cV l k=some v)(q:Q (enc v) (eY G a (.gF (bD (Dx l k))))):Fm (.ref a) [enc k] G Q:=by
 refine⟨bD l,enc v,h,⟨rfl,?_,by rw [vc,e]; rfl⟩,by rw [RS]; exact q⟩;unfold bD; rw [nu,i7]; intro p _; rfl
theorem Uy{α:Type} [DecidableEq α]{f:α->α}(h:Iv f){x y e:α}(he:f e=e):jn f x y e=e:=by
 have h1:=h x;have h2:=h y;unfold jn
 grind
theorem vm{f:T3->T3}:∀ {ps:Pr T3},Ok f ps->∀ {e:T3},f e=e->iV f ps e=e:=by
 intro ps;induction ps generalizing f with
 | nil=>intro o e h; exact h
 | cons p ps ih=>intro o e h; exact ih o.tl (Uy o.iv h)
theorem sub_len'{α:Type} [DecidableEq α]:∀ (xs ys:List α),xs.Nodup->(∀ x∈xs,x∈ys)->xs.length<=ys.length
 | [],_,_,_=>cQ _
 | x :: xs,ys,hn,h=>by
  rw [aP] at hn;have:=sub_len' xs (ys.erase x) hn.2 fun y hy=>(QG (show y≠x from fun z=>hn.1 (by rw [<-z]; exact hy))).mpr (h y (aO _ hy));have hx:=h x (by simp);rw [Ll hx] at this;have:=Nx hx;rw [aj]; lia
theorem KR{l:List (T3×T3)}{f:T3->T3}(h:Lc l f){E:List T3}(hE:∀ e,f e≠e->e∈E):l.length<=E.length:=by
 have:=sub_len' (l.map fun p:T3×T3=>p.1) E h.nd fun e he=>by
  obtain⟨p,hp,rfl⟩:=List.mem_map.mp he;exact hE _ (h.mem hp).2
 simpa using this
theorem KW(l:List (T3×T3))(k:T3):(Dx l k).length<=l.length:=eg _ _
theorem Gv(f:T3->T3)(ps:Pr T3)(x:T3×T3):cls f (ps++[x])=cls f ps+cl (iV f ps) x.1 x.2:=by rw [uc]; rfl
theorem Fy(f:T3->T3)(ps:Pr T3)(x:T3×T3):iV f (ps++[x])=jn (iV f ps) x.1 x.2:=by rw [tT]; rfl
noncomputable def rg:iE :=
 (cC (bK (bJ j3 (aw (av 0) aX)) (aL 2))
 (cC (bK (dC (.int 0)) (aL 3))
 (cC (eQ (oR (av 1)) (ka (dZ (aL 4) (dZ (aL 5) jX))) (cC (bK (tG NK Fm (av 2) (aw (av 4) aX)) (aL 6))
 (cC (bK (tG NK Fm (av 2) (aw (av 5) aX)) (aL 7))
 (jx (jf (a9 (CB false) (av 6) (av 5))) (bK (a9 hV (av 3) (dC (.int 1))) (aL 3)) (cC (bK (av 7) (kz (av 2) (av 6)))
 (bK (av 6) (kz (av 2) (av 7))))))))
 (cZ (cM (iA (aw (bJ kM (aw (cM (av 2)) aX)) (aw (av 3) aX))))))))
noncomputable def km:lO:=fun ds G Q _=>∃ (P ps:Pr T3),ds=[qi (oj P),enc ps]/\((es P).Nodup/\P.length<=24/\Ok (pt P) ps)/\∀ P':Pr T3,(es P').Nodup->pt P'=iV (pt P) ps->Q (.tup [qi (oj P'),.int (cls (pt P) ps)]) G
theorem Ac(ds:List D)(G:Gp)(Q:DK)(h:km ds G Q fun _ _=>False):rg (fun _ _=>False) (ends Q) (bE 8 ds) G:=by
 obtain⟨P,ps,rfl,⟨nd,hl,ok⟩,q⟩:=h;unfold rg;simp only [↓cX,bK,bJ,aw,av,bE,↓ak,↓Ol,↓bq,↓aj,↓aC,a8,↓aB,↓aW,↓aa,aX,aL,dC,ends,↓aq,↓ao];refine⟨.tup (P.map enc),P,rfl,rfl,by lia,fun p hp=>?_⟩;simp only [↓cM,↓bE,↓ends,↓eP,↓a9,↓Ni,↓av,↓ua,↓tG,↓aw,↓aX,↓cZ,↓S8,↓kK,↓bK,↓aL,↓dC,↓fM,↓iA,↓iT,↓nG,↓xU,↓DF,↓RW,↓vD,↓zR,↓K0,↓zQ,↓Az,↓lb,↓fA,↓gB,↓k7,↓bJ,↓iO,↓dU,↓yO,↓uW,↓uV,↓oG,↓mT,↓jC,↓oH,↓rh,↓Cz,↓JZ,↓J0,↓J1,↓fF,↓jD,↓Cu,↓pC,↓Cv,↓vL,↓Gz,↓BZ,↓i4,↓rC,↓xg,↓qk,↓nK,↓rZ,↓JO,↓JN,↓true_and,↓and_true,↓C5,↓C4,↓gb,↓cB,↓j4,↓zy,↓Kv,↓FD,↓ak,↓bq,↓aB,↓aW,↓aa,↓ae,↓ao,↓aq,↓aj,↓aC,↓a8,↓if_true,↓if_false,↓bL,↓di,↓ar,↓cX,↓yA,↓kz,↓kR,↓ng,↓EV,↓sf,↓Gr,↓ka,↓dZ,↓jX];refine fg (fun τ G'=>∃ (l:List (T3×T3)) (a1 a2 a3 a4:Option D),τ=[some (.tup (P.map enc)),some (enc ps),some (.ref p),some (.int (cls (pt P) ps)),a1,a2,a3,a4]/\fm G G'/\G' p=some (.gF (bD l))/\Lc l (iV (pt P) ps)) ?_ ?_
 ·intro N hN;simp only [eQ,↓gB,av,↓ae,↓aa];refine jR ?_;refine dI (xs:=ps) (fun pre τ G'=>∃ (l:List (T3×T3)) (a1 a2 a3 a4:Option D),τ=[some (.tup (P.map enc)),some (enc ps),some (.ref p),some (.int (cls (pt P) pre)),a1,a2,a3,a4]/\fm G G'/\G' p=some (.gF (bD l))/\Lc l (iV (pt P) pre)) ⟨IQ P,_,_,_,_,rfl,.new hp,az,KP nd⟩ (fun _ _ _ _=>trivial) ?_ ?_
  ·rintro pre x post τ G' N2 e ⟨l,a1,a2,a3,a4,rfl,le,gp,fa⟩ mC;have Xz:Ok (pt P) (pre++x :: post):=by rw [<-e]; exact ok
   have SD:=Xz.left;obtain⟨n1,n2,n3⟩:=SD.hd;obtain⟨f1,f2,f3,f4⟩:=fa.join SD.iv n1 n2 n3;have ll:l.length<=(es P).length:=KR fa fun e he=>(wc nd).mp fun z=>he (vm Xz.pre z);rw [IY] at ll;have e0:(enc x:D)=.tup [enc x.1,enc x.2]:=rfl;rw [e0];simp only [ka,dZ,jX,aL,ao,aq];simp only [↓cX,bK,tG,av,↓ae,↓aa,↓rZ,↓gp,aw,aX,aL,↓aq,↓ao,↓true_and];refine J8 gp f1 ?_;simp only [↓az,↓true_and];refine J8 az f2 ?_;simp only [jx,↓eP,a9,av,↓ae,↓aa,bK,dC,↓dU,aL,↓aq,↓ao,↓cX,kz];refine⟨_,_,Enc.sn _ _ _ (by decide),Enc.sn _ _ _ (by decide),?_⟩;simp only [↓cB,↓ar,↓Enc.eqv,↓if_false];by_cases c:iV (pt P) pre x.1=x.2
   ·simp only [↓c,↓decide_true,↓if_true];refine mC _ _ ?_;have ec:((cls (pt P) pre+1:Nat):Int)=(cls (pt P) pre:Int)+1:=Int.natCast_add _ _;rw [Gv,Fy,cl,if_pos c,ec];exact⟨_,_,_,_,_,rfl,(le.put hp).put hp,az,f3 c⟩
   ·simp only [↓c,↓decide_false,↓ar,↓if_false];have d1:=KW l x.1;have d2:=KW (Dx l x.1) x.2;refine K2.P.fN (k:=iV (pt P) pre x.1) (v:=iV (pt P) pre x.2) az (by lia) ?_;have d3:=rQ (Dx (Dx l x.1) x.2) (iV (pt P) pre x.1) (iV (pt P) pre x.2);refine K2.P.fN (k:=iV (pt P) pre x.2) (v:=iV (pt P) pre x.1) az (by lia) ?_;refine mC _ _ ?_;rw [Gv,Fy,cl,if_neg c,v3];exact⟨_,_,_,_,_,rfl,(((le.put hp).put hp).put hp).put hp,az,f4 c⟩
  ·rintro τ G' ⟨l,a1,a2,a3,a4,rfl,le,gp,fa⟩;exact hN _ _ ⟨l,_,_,_,_,rfl,le,gp,fa⟩
 ·rintro _ G' ⟨l,a1,a2,a3,a4,rfl,le,gp,fa⟩;have iv:Iv (iV (pt P) ps):=Iz ok;have ll:l.length<=(es P).length:=KR fa fun e he=>(wc nd).mp fun z=>he (vm ok z);rw [IY] at ll;obtain⟨h1,h2⟩:=J9 fa iv;simp only [cZ,cM,iA,aw,bJ,av,↓ae,↓aa,aX,↓aj,↓aC];refine iw le hp gp ?_;refine⟨l,rfl,⟨fa.nd,by lia⟩,by decide,cz (q _ h1 h2)⟩
end JB
end K2
end
section
namespace K2
open PySem (Str)
open Enc (enc)
namespace JB
open K2.P K2.J
open K2.Y (Po L ND NZ fh sV ju gK eB fC jB iH i0 Pl)
noncomputable def Xi(ns:List Int)(k:PK):Prop:=∃ P,k=oj P/\(es P).Nodup/\∀ e,pt P e≠e↔∃ n∈ns,e∈kJ n
structure Sb(S:Su)(ns:List Int):Prop where
 Na:MV S
 pl:∀ p∈S,Xi ns p.1
noncomputable def DO(ns:List Int):List T3:=ns.flatMap kJ
theorem GF(ns:List Int):(DO ns).length=4 * ns.length:=by
 induction ns with
 | nil=>rfl
 | cons n ns ih=>unfold DO at *; rw [cw,aJ,ih,aj]; show 4+_=_; lia
theorem T7{ns:List Int}{P:Pr T3}(nd:(es P).Nodup)(h:∀ e,pt P e≠e↔∃ n∈ns,e∈kJ n):P.length<=2 * ns.length:=by
 have:=sub_len' (es P) (DO ns) nd fun e he=>by
  obtain⟨n,h1,h2⟩:=(h e).mp ((wc nd).mpr he);exact List.mem_flatMap.mpr ⟨n,h1,h2⟩
 rw [IY,GF] at this; lia
theorem V0{ns:List Int}{P:Pr T3}(nd:(es P).Nodup)(hn:ns.Nodup)(h:∀ e,pt P e≠e↔∃ n∈ns,e∈kJ n):Dm (pt P) ns:=⟨Og nd,hn,fun n Vp e he=>(h e).mpr ⟨n,Vp,he⟩⟩
theorem Ux{f:T3->T3}:∀ {ps:Pr T3},Ok f ps->∀ {e:T3},e∈es ps->iV f ps e=e:=by
 intro ps;induction ps generalizing f with
 | nil=>intro o e h; cases h
 | cons p ps ih =>
  intro o e h;rw [es,aY,aY] at h;rcases h with rfl | rfl | h
  ·exact vm o.tl Wr
  ·exact vm o.tl Wq
  ·exact ih o.tl h
theorem Ra{n:Int}{ns:List Int}{f:T3->T3}(d:Dm f (n :: ns))(h:∀ e,f e≠e↔∃ m∈n :: ns,e∈kJ m)(w:Bool):∀ e,iV f (js n w) e≠e↔∃ m∈ns,e∈kJ m:=by
 have ok:=d.ok w;have nn:=(List.nodup_cons.mp d.nd).1;intro e;constructor
 ·intro z;have h1:f e≠e:=fun y=>z (vm ok y);obtain⟨m,hm,he⟩:=(h e).mp h1;rcases List.mem_cons.mp hm with rfl | hm
  ·exact absurd (Ux ok ((jQ m w).mem_iff.mpr he)) z
  ·exact⟨m,hm,he⟩
 ·rintro⟨m,hm,he⟩ z;rcases Kq ok z with z | z
  ·have h1:=pV ((jQ n w).mem_iff.mp z);have h2:=pV he;exact nn (by rw [<-h1,h2]; exact hm)
  ·exact(h e).mpr ⟨m,aO _ hm,he⟩ z
theorem Ta{α:Type} [DecidableEq α](f:α->α)(x y:α):cl f x y<=1:=by unfold cl; split <;> decide
theorem P4(f:T3->T3)(n:Int)(w:Bool):cls f (js n w)<=2:=by
 cases w <;> (show _+(_+0)<=2; have:=Ta f; have a:=fun f x y=>Ta (α:=T3) f x y; have h1:=a f; have h2:=a; grind)
theorem Tf:ND LP:=by unfold ND LP; decide
theorem Qj:fh LP=2:=rfl
theorem lH{n:Nat}(h:n<=2 ^ 30):n < qB:=fR h (by unfold qB; exact Nat.pow_lt_pow_right (by decide) (by decide))
theorem EU{c:Nat}(h:c<=3):c<=1000/\∀ k,k < c->LP.length ^ k * LP.length<=SZ/\fh LP ^ k < qB:=by
 refine⟨by lia,fun k hk=>?_⟩;have:k=0\/k=1\/k=2:=by lia
 rcases this with rfl | rfl | rfl
 ·exact⟨by decide,lH (by decide)⟩
 ·exact⟨by decide,lH (by decide)⟩
 ·exact⟨by decide,lH (by decide)⟩
theorem HY{c:Nat}(h:c<=3):fh (eB LP c)<=8:=aZ (Y.pI LP c) (show 2 ^ c<=2 ^ 3 from kh (by decide) h)
theorem Q9{c:Nat}(h:c<=2):(eB LP c).length<=4:=aZ (Y.tM LP c) (show 2 ^ c<=2 ^ 2 from kh (by decide) h)
theorem Lu{l:Po}{G:Gp}{Q:Bool->Gp->Prop}(h:Q (!l.isEmpty) G):qQ (.kI (bD l)) G Q:=by
 unfold qQ G5;dsimp only;have k:((bD l).all fun p=>eS p.1)=true:=by unfold bD; rw [nu,i7]; intro p _; rfl
 rw [if_pos k];have:(bD l).isEmpty=l.isEmpty:=by cases l <;> rfl
 rw [this]; exact h
theorem OL{G:Gp}{a:Nat}{A:Su}{k:PK}{Q:DK}(h:G a=some (.sJ (iS A)))(q:Q (.kI (bD ((cV A k).getD []))) G):Fo (.ref a) [qi k,.kI []] G Q:=by
 refine⟨_,k,h,rfl,?_⟩;rw [By];cases e:cV A k with
 | none=>rw [e] at q; exact q
 | some l=>rw [e] at q; exact q
theorem Bg{G:Gp}{a:Nat}{A:Su}{k:PK}{l:Po}{Q:Gp->Prop}(h:G a=some (.sJ (iS A)))(hz:A.length < SZ)(q:Q (eY G a (.sJ (iS (eW A k l))))):HN (.ref a) (qi k) (.kI (bD l)) G Q:=by
 refine⟨_,k,h,rfl,by unfold iS; rw [au]; exact hz,?_⟩;rw [Oe]; exact q
theorem IE{G G1:Gp}{p:Nat}{A:Su}{Q:DK}(l:fm G G1)(hp:G p=none)(h1:G1 p=some (.sJ (iS A)))(q:Q (.oE (iS A)) G):GS G1 (.ref p) Q :=
 ⟨fun a=>(G a).isNone,.oE (iS A),.sJ h1 (by simp [hp]) (.same _) rfl,by rw [vB l]; exact q⟩
noncomputable def term(h n:Int)(rest:List (Int×Int))(g:Fn)(f:T3->T3)(l:Po)(w:Bool):Int:=L (fun j=>Br (iV f (js n w)) rest (jz (cls f (js n w)) (sh (pw h w) (sh j g)))) l
theorem Lw(h n:Int)(rest:List (Int×Int))(g:Fn)(f:T3->T3)(l:Po):term h n rest g f l false+term h n rest g f l true=L (fun j=>Br f ((n,h) :: rest) (sh j g)) l:=by
 unfold term;rw [<-Y.Te]; rfl
noncomputable def yr(h n:Int)(rest:List (Int×Int))(g:Fn)(f:T3->T3)(l:Po):List Bool->Int
 | []=>0
 | w :: ws=>term h n rest g f l w+yr h n rest g f l ws
theorem HF(h n:Int)(rest:List (Int×Int))(g:Fn)(f:T3->T3)(l:Po)(ws:List Bool)(w:Bool):yr h n rest g f l (ws++[w])=yr h n rest g f l ws+term h n rest g f l w:=by
 induction ws with
 | nil=>simp [yr]
 | cons v ws ih=>rw [aB,yr,yr,ih]; lia
structure Nk(n h:Int)(rest:List (Int×Int))(pre:Su)(f:T3->T3)(l:Po)(ws:List Bool)(A:Su):Prop where
 ok:Sb A (rest.map (·.1))
 len:A.length<=2 * pre.length+ws.length
 fh:hW A<=8 * hW pre+ws.length * (4 * fh l)
 val:∀ g,oi rest g A=oi ((n,h) :: rest) g pre+yr h n rest g f l ws
theorem Nk.step{n h:Int}{rest:List (Int×Int)}{pre:Su}{f:T3->T3}{l:Po}{ws:List Bool}{A:Su}(a:Nk n h rest pre f l ws A){P':Pr T3}{w:Bool}(nd:(es P').Nodup)(e:pt P'=iV f (js n w))(hp:∀ e,iV f (js n w) e≠e↔∃ m∈rest.map (·.1),e∈kJ m) :
  Nk n h rest pre f l (ws++[w]) (tu A (oj P') l (cls f (js n w)) (pw h w)):=by
 refine⟨⟨NR a.ok.Na _ _ _ _,fun p me=>?_⟩,?_,?_,fun g=>?_⟩
 ·unfold tu eW at me;have here:Xi (rest.map (·.1)) (oj P'):=⟨P',rfl,nd,fun e'=>by rw [e]; exact hp e'⟩;split at me
  ·obtain⟨q,hq,rfl⟩:=List.mem_map.mp me;have:=a.ok.pl q hq;split <;> exact this
  ·rcases List.mem_append.mp me with me | me
   ·exact a.ok.pl p me
   ·rw [cq] at me; subst me; exact here
 ·have h1:=a.len;have h2:(tu A (oj P') l (cls f (js n w)) (pw h w)).length<=A.length+1:=by unfold tu eW; split <;> simp
  rw [aJ,du]; lia
 ·have h1:=a.fh;have h2:=NQ a.ok.Na (oj P') l (P4 f n w) (pw h w);rw [aJ,du,Nat.add_mul,Nat.one_mul]; lia
 ·rw [NP a.ok.Na,a.val,HF,Jc,e];unfold term;lia
end JB
end K2
end
section
namespace K2
open PySem (Str)
open Enc (enc)
namespace JB
open K2.P K2.J
open K2.Y (Po L ND NZ fh sV ju gK eB fC jB iH i0 Pl)
theorem Nk.zero{n h:Int}{rest:List (Int×Int)}{f:T3->T3}{l:Po}:Nk n h rest [] f l [] [] :=
 ⟨⟨⟨cR,fun p hp=>by cases hp⟩,fun p hp=>by cases hp⟩,aH _,cQ _,fun g=>rfl⟩
theorem Nk.next{n h:Int}{rest:List (Int×Int)}{pre:Su}{x:PK×Po}{l':Po}{f':T3->T3}{A:Su}(a:Nk n h rest pre (pt (dec x.1)) x.2 [false,true] A):Nk n h rest (pre++[x]) f' l' [] A:=by
 refine⟨a.ok,?_,?_,fun g=>?_⟩
 ·have:=a.len;rw [aJ,du]; simp at this ⊢; lia
 ·have:=a.fh;rw [zd];simp only [aj,aC,hW] at this ⊢; lia
 ·rw [a.val,JQ];show _+(term h n rest g _ x.2 false+(term h n rest g _ x.2 true+0))=_+(L _ x.2+0)+0;have:=Lw h n rest g (pt (dec x.1)) x.2;lia
theorem OD{S pre post:Su}{x:PK×Po}(e:S=pre++x :: post):hW pre+fh x.2<=hW S:=by
 rw [e,zd,hW]; lia
theorem BC(S:Su)(p:PK×Po):jE (S++[p])=if p.2.isEmpty=true then jE S else jE S++[p]:=by
 unfold jE;rw [eL];by_cases h:p.2.isEmpty=true
 ·rw [if_pos h,MZ (by simp [h])]; simp
 ·rw [if_neg h,MY (by simp [h])]; simp
theorem OZ{S pre post:Su}{x:PK×Po}(nd:(S.map (·.1)).Nodup)(e:S=pre++x :: post):x.1∉(jE pre).map (·.1):=by
 intro z;obtain⟨q,hq,e2⟩:=List.mem_map.mp z;have SX:=(List.mem_filter.mp hq).1;rw [e,aT,ak,eE] at nd;exact nd.2.2 _ (bM SX) _ c4 e2
noncomputable def uQ:iE :=
 (cC (bK P2 (aL 3))
 (cC (Gn 3 (eQ (vo (av 0)) (ka (dZ (aL 4) (dZ (aL 5) jX))) (eQ (oR (iA (aw (dC (.int 0)) (aw (dC (.int 1)) aX)))) (aL 6) (cC (bK (bJ km (aw (av 4) (aw (bJ se (aw (av 1) (aw (av 6) aX))) aX))) (aL 7))
 (cC (bK (bJ fC (aw (cM (bJ jB (aw (cM (av 5)) (aw (cM (bJ iH (aw (cM (Gq [(2,-1),(-2,-1)])) (aw (cM (a9 ip (av 7) (dC (.int 1)))) aX)))) aX)))) (aw (cM (bJ nM (aw (av 2) (aw (av 6) aX)))) (aw (cM (dC (.int 1))) aX)))) (aL 8))
 (bK (cM (bJ i0 (aw (cM (tG tyP Fo (av 3) (aw (cM (a9 ip (av 7) (dC (.int 0)))) (aw (cM nG) aX)))) (aw (cM (av 8)) aX)))) (FK (av 3) (a9 ip (av 7) (dC (.int 0))))))))))
 (cC (bK P2 (aL 9))
 (cC (Gn 3 (eQ (vo (av 3)) (ka (dZ (aL 4) (dZ (aL 5) jX))) (jx (jf (av 5)) (bK (cM (av 5)) (FK (av 9) (av 4))) fM)))
 (cZ (cM (av 9)))))))
noncomputable def lV:lO:=fun ds G Q _=>∃ (S:Su) (n h:Int) (rest:List (Int×Int)),ds=[.oE (iS S),.int n,.int h]/\(Sb S (n :: rest.map (·.1))/\(n :: rest.map (·.1)).Nodup/\rest.length<=11/\S.length<=1048576/\hW S<=1048576) /\
 ∀ S':Su,Sb S' (rest.map (·.1))->S'.length<=hW S'->hW S'<=8 * hW S->(∀ g,oi rest g S'=oi ((n,h) :: rest) g S)->Q (.oE (iS S')) G
theorem DT(ds:List D)(G:Gp)(Q:DK)(h:lV ds G Q fun _ _=>False):uQ (fun _ _=>False) (ends Q) (bE 10 ds) G:=by
 obtain⟨S,n,h,rest,rfl,⟨so,nn,hr,hSl,hSn⟩,q⟩:=h;unfold uQ;simp only [↓cX,bK,P2,gZ,aL,ends,bE,↓ak,↓bq,↓aj,↓aC,a8,↓aB,↓aW,↓aq,↓ao];intro p hp;refine fg (fun τ G'=>∃ (A:Su) (a1 a2 a3 a4 a5 a6:Option D),G=G'/\τ=[some (.oE (iS S)),some (.int n),some (.int h),some (.oE (iS A)),a1,a2,a3,a4,a5,a6]/\Nk n h rest S (fun e=>e) [] [] A) ?_ ?_
 ·intro N hN;simp only [Gn];simp only [eQ,vo,av,↓aa];show qr _ _ _ ((iS S).map _) _ _ _ _;have em:((iS S).map fun p=>D.tup [qi p.1,p.2])=S.map fun p=>D.tup [qi p.1,.kI (bD p.2)]:=by unfold iS; rw [bw]; rfl
  rw [em];refine dI (xs:=S) (f:=fun p=>D.tup [qi p.1,.kI (bD p.2)]) (fun pre τ G'=>∃ (A:Su) (a1 a2 a3 a4 a5 a6:Option D),fm G G'/\G' p=some (.sJ (iS A))/\τ=[some (.oE (iS S)),some (.int n),some (.int h),some (.ref p),a1,a2,a3,a4,a5,a6]/\Nk n h rest pre (fun e=>e) [] [] A)
   ⟨[],_,_,_,_,_,_,.new hp,az,rfl,.zero⟩ (fun _ _ _ _=>trivial) ?_ ?_
  ·rintro pre x post τ G' N2 e ⟨A,a1,a2,a3,a4,a5,a6,le,gp,rfl,af⟩ mC;obtain⟨P,ek,nd,pl⟩:=so.pl x (by rw [e]; simp);have dm:=V0 nd nn pl;have pll:=T7 nd pl;have hx:=so.Na.2 x (by rw [e]; simp);have hnx:=OD e;have hlx:=zb hx.2;have Kz:pre.length < S.length:=by rw [e]; simp
   have ed:dec x.1=P:=by rw [ek,Jc]
   simp only [ka,dZ,jX,aL,ao,aq];simp only [eQ,↓gB,iA,aw,dC,aX,↓aj,↓aC,↓C4];refine⟨by decide,?_⟩;refine dI (xs:=[false,true]) (f:=fun w=>D.int (wI w)) (fun ws τ G'=>∃ (A:Su) (a3 a4 a5 a6:Option D),fm G G'/\G' p=some (.sJ (iS A))/\τ=[some (.oE (iS S)),some (.int n),some (.int h),some (.ref p),some (qi x.1),some (.kI (bD x.2)),a3,a4,a5,a6]/\Nk n h rest pre (pt P) x.2 ws A)
    ⟨A,_,_,_,_,le,gp,rfl,⟨af.ok,af.len,by have:=af.fh; simp only [aC,Nat.zero_mul] at this ⊢; exact this,af.val⟩⟩ (fun _ _ _ _=>trivial) ?_ ?_
   ·rintro ws w wt τ G2 N3 ew ⟨B,b3,b4,b5,b6,Qw,Ng,rfl,bf⟩ D8;have VG:ws.length<=1:=by
     have:=congrArg dH ew;simp at this; lia
    have hc:=P4 (pt P) n w;have bl:=bf.len;have bn:=bf.fh;have bn2:hW B<=8388608:=by
     have:ws.length * (4 * fh x.2)<=1 * (4 * fh x.2):=kj _ VG;lia
    simp only [aL,↓cX,bK,bJ,aw,av,↓aq,ek,↓ao,↓ae,↓aa,aX,cM,a9,dC,tG,nG];refine⟨n,w,rfl,?_⟩;refine⟨P,js n w,rfl,⟨nd,by simp only [aj,au] at pll; lia,dm.ok w⟩,fun P' Nc ep=>?_⟩;have p0:Nk n h rest pre (pt P) x.2 (ws++[w]) (tu B (oj P') x.2 (cls (pt P) (js n w)) (pw h w)):=bf.step Nc ep (Ra dm pl w);simp only [↓fF,Qz,Nj];generalize ec:cls (pt P) (js n w)=c at hc p0;have hx1:=hx.1;have l1:(eB LP c).length<=4:=Q9 hc;have l2:x.2.length * (eB LP c).length<=1048576 * 4:=Nat.mul_le_mul (by lia) l1;have l3:=Y.yS x.2 (eB LP c);have l4:fh x.2 * fh (eB LP c)<=1048576 * 8:=Nat.mul_le_mul (by lia) (HY (by lia));have l5:=Y.tO x.2 (eB LP c);have l6:(Q6 x.2 c (pw h w)).length<=(ju x.2 (eB LP c)).length:=aZ (Y.si _) (by rw [au]; exact aH _);have l7:=zb (bf.ok.Na.get (oj P')).2;have l8:=Kf B (oj P');refine cz ?_;unfold Gq;intro p5 f5;refine iw (.new f5) f5 az (cz ?_);refine⟨_,LP,c,rfl,⟨rfl,Tf⟩,EU (by lia),by rw [Qj]; exact lH (by decide),fun p6 f6=>?_⟩;refine iw (.new f6) f6 az ?_;refine⟨_,_,x.2,eB LP c,rfl,⟨rfl,hx1⟩,⟨rfl,Y.we _ _⟩,aZ l2 (by decide),⟨lH (by lia),lH (aZ (HY (by lia)) (by decide))⟩,fun p7 f7=>?_⟩;refine iw (.new f7) f7 az ?_;refine⟨h,w,rfl,cz (cz ?_)⟩;refine⟨_,ju x.2 (eB LP c),pw h w,1,rfl,⟨rfl,Y.wb _ _⟩,aZ (aZ l3 l2) (by decide),⟨lH (aZ (aZ l5 l4) (by decide)),lH (by decide)⟩,fun p8 f8=>?_⟩;have h8:p≠p8:=by rintro rfl; rw [Ng] at f8; cases f8
    refine⟨by unfold tyP; simp only [cF h8,Ng],cz ?_⟩;intro p9 f9;refine iw (.new f9) f9 az ?_;refine OL (by rw [cF h8]; exact Ng) (cz ?_);refine iw (.new f8) f8 az ?_;refine⟨_,_,(cV B (oj P')).getD [],Q6 x.2 c (pw h w),rfl,⟨rfl,(bf.ok.Na.get _).1⟩,⟨rfl,Y.Bp (Y.wb _ _) _ _⟩,?_,fun p10 XW=>?_⟩
    ·show _<=16777216;lia
    refine iw (.new XW) XW az ?_;unfold FK;simp only [av,↓ae,↓aa,a9,dC,↓fF,Nj];refine Bg Ng (show _ < 16777216 by lia) ?_;rw [<-ek];exact D8 _ _ ⟨_,_,_,_,_,Qw.put hp,az,rfl,p0⟩
   ·rintro τ G2 ⟨B,b3,b4,b5,b6,Qw,Ng,rfl,bf⟩;refine mC _ _ ⟨B,_,_,_,_,_,_,Qw,Ng,rfl,?_⟩;rw [<-ed] at bf;exact bf.next
  ·rintro τ G' ⟨A,a1,a2,a3,a4,a5,a6,le,gp,rfl,af⟩;simp only [↓ae,↓aa,↓aq,↓ao];refine IE le hp gp ?_;exact hN _ _ ⟨A,_,_,_,_,_,_,rfl,rfl,af⟩
 ·rintro _ G' ⟨A,a1,a2,a3,a4,a5,a6,rfl,rfl,af⟩;simp only [↓cX,bK,P2,gZ,aL,↓aq,↓ao];intro p2 pP;have al:=af.len;have an:=af.fh;simp only [aC,Nat.zero_mul,v3] at al an;refine fg (fun τ G'=>∃ (a1 a2 a3 a4 a5:Option D),τ=[some (.oE (iS S)),some (.int n),some (.int h),some (.oE (iS A)),a1,a2,a3,a4,a5,some (.ref p2)]/\fm G G'/\G' p2=some (.sJ (iS (jE A)))) ?_ ?_
  ·intro N hN;simp only [Gn];simp only [eQ,vo,av,↓ae,↓aa];show qr _ _ _ ((iS A).map _) _ _ _ _;have em:((iS A).map fun p=>D.tup [qi p.1,p.2])=A.map fun p=>D.tup [qi p.1,.kI (bD p.2)]:=by unfold iS; rw [bw]; rfl
   rw [em];refine dI (xs:=A) (f:=fun p=>D.tup [qi p.1,.kI (bD p.2)]) (fun pre τ G'=>∃ (a1 a2 a3 a4 a5:Option D),τ=[some (.oE (iS S)),some (.int n),some (.int h),some (.oE (iS A)),a1,a2,a3,a4,a5,some (.ref p2)]/\fm G G'/\G' p2=some (.sJ (iS (jE pre))))
    ⟨_,_,_,_,_,rfl,.new pP,az⟩ (fun _ _ _ _=>trivial) ?_ ?_
   ·rintro pre x post τ G' N2 e ⟨b1,b2,b3,b4,b5,rfl,le,gp⟩ mC;simp only [ka,dZ,jX,aL,ao,aq];simp only [jx,↓eP,av,↓ae,↓aa,bK,cM,fM];refine Lu ?_;have Kz:pre.length < A.length:=by rw [e]; simp
    have hkl:(jE pre).length<=pre.length:=eg _ _;by_cases c:x.2.isEmpty=true
    ·simp only [c,bL,ar,if_false,fM];refine mC _ _ ⟨_,_,_,_,_,rfl,le,?_⟩;rw [BC,if_pos c]; exact gp
    ·have c':x.2.isEmpty=false:=by simpa using c
     simp only [c',di,if_true];refine cz ?_;unfold FK;simp only [av,↓ae,↓aa];refine Bg gp (show _ < 16777216 by lia) ?_;refine mC _ _ ⟨_,_,_,_,_,rfl,le.put pP,?_⟩;rw [az,BC,if_neg c,Y.lh (OZ af.ok.Na.1 e)]
   ·rintro τ G' ⟨b1,b2,b3,b4,b5,rfl,le,gp⟩;simp only [↓ae,↓aa,↓aq,↓ao];exact cz (hN _ _ ⟨_,_,_,_,_,rfl,le,gp⟩)
  ·rintro _ G' ⟨b1,b2,b3,b4,b5,rfl,le,gp⟩;simp only [cZ,cM,av,↓ae,↓aa];refine IE le pP gp ?_;refine q (jE A) ⟨Fw af.ok.Na,fun p me=>af.ok.pl p (List.mem_filter.mp me).1⟩ ?_ ?_ fun g=>?_
   ·have:jE (jE A)=jE A:=by unfold jE; rw [List.filter_filter]; simp
    have h2:=O0 (Fw af.ok.Na);rw [this] at h2; exact h2
   ·exact aZ (OY A) an
   ·rw [OX,af.val];show _+0=_;lia
end JB
end K2
end
section
namespace K2
open PySem (Str)
open Enc (enc)
namespace JB
open K2.P K2.J
open K2.Y (Po L ND NZ fh sV ju gK eB fC jB iH i0 Pl)
variable {rows:Rows}
noncomputable def eO(s:T2):T3:=⟨s.a,s.b,1⟩
noncomputable def eI(s:T2):T3:=⟨s.a,s.b,0⟩
noncomputable def oB(ps:List (T3×T3)):Pr T3:=ps.map fun p=>(eO p.1.s,eI p.2.s)
noncomputable def JS(rows:Rows):Pr T3:=oB (pairsOf rows)
noncomputable def fr(rows:Rows):T3->T3:=pt (JS rows)
noncomputable def lo(rows:Rows):Nat:=(rows.filter fun r=>r.isEmpty).length
noncomputable def nh(rows:Rows):List (Int×Int):=(names rows).map fun n=>(n,handOf rows n)
theorem Gb:∀ (P:Pr T3),(es P).Perm (P.map (·.1)++P.map (·.2))
 | []=>.refl _
 | p :: P=>by
  rw [es,ak,ak,aB];refine jT _ ?_;exact((Gb P).cons p.2).trans List.perm_middle.symm
theorem Sl{ps:List (T3×T3)}(h1:(ps.map fun p=>p.1.s).Nodup)(h2:(ps.map fun p=>p.2.s).Nodup):(es (oB ps)).Nodup:=by
 refine(Gb _).nodup_iff.mpr (List.nodup_append.mpr ⟨?_,?_,?_⟩)
 ·have:(oB ps).map (·.1)=(ps.map fun p=>p.1.s).map eO:=by unfold oB; rw [bw,bw]; rfl
  rw [this];refine wu h1 fun i _ j _ e=>?_;injection e with e1 e2
  cases i; cases j; simp only at e1 e2; rw [e1,e2]
 ·have:(oB ps).map (·.2)=(ps.map fun p=>p.2.s).map eI:=by unfold oB; rw [bw,bw]; rfl
  rw [this];refine wu h2 fun i _ j _ e=>?_;injection e with e1 e2
  cases i; cases j; simp only at e1 e2; rw [e1,e2]
 ·intro a ha b hb e;obtain⟨p,hp,rfl⟩:=List.mem_map.mp ha;obtain⟨q,hq,rfl⟩:=List.mem_map.mp hb;obtain⟨p',_,rfl⟩:=List.mem_map.mp hp;obtain⟨q',_,rfl⟩:=List.mem_map.mp hq;injection e with _ _ e3
  cases e3
theorem HE(d:Dr rows):(es (JS rows)).Nodup:=Sl (PB d) (TN d)
theorem TB(d:Dr rows):Qt (mX (pairsOf rows))=JS rows:=by
 rw [OI d];unfold Qt JS oB;rw [bw]; rfl
theorem TC(d:Dr rows)(e:T3):e∈es (JS rows)↔∃ p∈rows.flatten,e=eO p.s\/e=eI p.s:=by
 rw [mY];constructor
 ·rintro⟨q,hq,z⟩;obtain⟨pq,hpq,rfl⟩:=List.mem_map.mp hq;have h1:pq.1∈rows.flatten:=by rw [<-oM rows]; exact bM hpq
  have h2:pq.2∈rows.flatten:=(oK rows).mem_iff.mp (bM hpq);rcases z with z | z
  ·exact⟨_,h1,.inl z⟩
  ·exact⟨_,h2,.inr z⟩
 ·rintro⟨p,hp,z | z⟩
  ·obtain⟨q,hq,_⟩:=Pw hp;exact⟨_,List.mem_map.mpr ⟨_,hq,rfl⟩,.inl z⟩
  ·obtain⟨q,hq,_⟩:=Pu hp;exact⟨_,List.mem_map.mpr ⟨_,hq,rfl⟩,.inr z⟩
theorem Ci(d:Dr rows)(e:T3):e∈es (JS rows)↔∃ n∈names rows,e∈kJ n:=by
 rw [TC d];constructor
 ·rintro⟨p,hp,z⟩;have hn:p.a∈names rows:=by
   rw [oN];rcases d.way p hp with w | w
   ·exact⟨p,hp,w,rfl⟩
   ·exact⟨_,d.Fi p hp,by simp [w],rfl⟩
  refine⟨p.a,hn,?_⟩;rcases d.way p hp with w | w <;> rcases z with rfl | rfl <;> simp [kJ,eO,eI,T3.s,w]
 ·rintro⟨n,hn,he⟩;obtain⟨p,hp,w,rfl⟩:=oN.mp hn;have hm:=d.Fi p hp;unfold kJ at he;simp only [aY,ez,or_false] at he;have e0:p.s=⟨p.a,0⟩:=by show (⟨p.a,p.b⟩:T2)=_; rw [w]
  have e1:T3.s ⟨p.a,1 - p.b,p.c⟩=⟨p.a,1⟩:=by show (⟨p.a,1 - p.b⟩:T2)=_; rw [w]; rfl
  rcases he with rfl | rfl | rfl | rfl
  ·exact⟨p,hp,.inr (by rw [e0]; rfl)⟩
  ·exact⟨_,hm,.inl (by rw [e1]; rfl)⟩
  ·exact⟨_,hm,.inr (by rw [e1]; rfl)⟩
  ·exact⟨p,hp,.inl (by rw [e0]; rfl)⟩
theorem zf(d:Dr rows):(names rows).Nodup:=by
 unfold names;refine Ly ?_;have h:=d.nd;have:∀ {L:List T3},(L.map T3.s).Nodup->((L.filter fun p=>p.b == 0).map (·.a)).Nodup:=by
  intro L;induction L with
  | nil=>intro _; exact cR
  | cons p L ih =>
   intro h;rw [ak,aP] at h;rw [bS];split
   ·rename_i hp;rw [ak,aP];refine⟨fun z=>h.1 ?_,ih h.2⟩;obtain⟨q,hq,e⟩:=List.mem_map.mp z;have SX:=List.mem_filter.mp hq;refine List.mem_map.mpr ⟨q,SX.1,?_⟩;have b1:p.b=0:=by simpa using hp
    have b2:q.b=0:=by simpa using SX.2
    show (⟨q.a,q.b⟩:T2)=⟨p.a,p.b⟩;rw [e,b1,b2]
   ·exact ih h.2
 exact this h
theorem KL(d:Dr rows):Dm (fr rows) (names rows) :=
 ⟨Og (HE d),zf d,fun n hn e he=>(wc (HE d)).mpr ((Ci d e).mpr ⟨n,hn,he⟩)⟩
theorem Ij(d:Dr rows):2 * (names rows).length<=rows.flatten.length:=by
 have h:=sub_len' ((names rows).flatMap fun n=>[(⟨n,0⟩:T2),⟨n,1⟩]) (rows.flatten.map T3.s) ?_ ?_
 ·have:((names rows).flatMap fun n=>[(⟨n,0⟩:T2),⟨n,1⟩]).length=2 * (names rows).length:=by
   generalize names rows=l;induction l with
   | nil=>rfl
   | cons n l ih=>rw [cw,aJ,ih]; simp only [aj,aC]; lia
  rw [this,au] at h; exact h
 ·have:∀ {l:List Int},l.Nodup->(l.flatMap fun n=>[(⟨n,0⟩:T2),⟨n,1⟩]).Nodup:=by
   intro l;induction l with
   | nil=>intro _; exact cR
   | cons n l ih =>
    intro h;rw [aP] at h;rw [cw,eE];refine⟨by simp,ih h.2,fun a ha b hb e=>?_⟩;obtain⟨m,hm,hb⟩:=List.mem_flatMap.mp hb;have ea:a.a=n:=by simp only [aY,ez,or_false] at ha; rcases ha with rfl | rfl <;> rfl
    have eb:b.a=m:=by simp only [aY,ez,or_false] at hb; rcases hb with rfl | rfl <;> rfl
    rw [e,eb] at ea;exact h.1 (ea ▸ hm)
  exact this (zf d)
 ·intro s hs;obtain⟨n,hn,hs⟩:=List.mem_flatMap.mp hs;obtain⟨p,hp,w,rfl⟩:=oN.mp hn;simp only [aY,ez,or_false] at hs;rcases hs with rfl | rfl
  ·exact List.mem_map.mpr ⟨p,hp,by show (⟨p.a,p.b⟩:T2)=_; rw [w]⟩
  ·exact List.mem_map.mpr ⟨_,d.Fi p hp,by show (⟨p.a,1 - p.b⟩:T2)=_; rw [w]; rfl⟩
theorem WR(d:Dr rows){n:Int}(h:n∈names rows):∃ p∈rows.flatten,p.a=n:=by
 obtain⟨p,hp,_,e⟩:=oN.mp h;exact⟨p,hp,e⟩
theorem HS(d:Dr rows):∀ r∈rows,r.length<=24:=fun r hr=>by
 have h1:=d.AR;obtain⟨a,b,e⟩:=List.append_of_mem hr;rw [e,iU,cW,aJ,aJ] at h1;lia
noncomputable def Bs(rows:Rows)(ns:List Int):List (Int×Int):=ns.map fun n=>(n,handOf rows n)
theorem Kg(rows:Rows)(ns:List Int):(Bs rows ns).map (·.1)=ns:=by
 unfold Bs;rw [bw];exact jH ns
theorem zip_map(f:Int->Int):∀ l:List Int,l.zip (l.map f)=l.map fun n=>(n,f n)
 | []=>rfl
 | n :: l=>by rw [ak,qy,zip_map f l,ak]
theorem YR{k:Nat}(h:k<=5):8 * 8 ^ k<=1048576:=by
 have:8 ^ k<=8 ^ 5:=kh (by decide) h;lia
noncomputable def Bk:iE :=
 (cC (bK (iO 1 [0] (oR (av 1)) (aL 0) none (bJ iZ (aw (av 1) (aw (av 0) aX)))) (aL 2))
 (cC (bK (ua ue (aw (iO 1 [] (oR (av 0)) (aL 0) (some (vD (jf (av 0)))) (av 0)) aX)) (aL 3))
 (cC (bK (cM (PZ (bJ kU (aw (av 0) aX)) (cM (bJ iH (aw (cM (Gq [(2,-1),(-2,-1)])) (aw (cM (av 3)) aX)))))) (aL 4))
 (cC (eQ (Pd (av 1) (av 2)) (ka (dZ (aL 5) (dZ (aL 6) jX))) (bK (cM (bJ lV (aw (av 4) (aw (av 5) (aw (av 6) aX))))) (aL 4)))
 (cZ (cM (av 4)))))))
noncomputable def sd:lO:=fun ds G Q _=>∃ (rows:Rows) (ns:List Int),ds=[enc rows,enc ns]/\(Dr rows/\ns.Perm (names rows)/\ns.length<=6) /\
 ∀ S':Su,Sb S' []->hW S'<=2097152->(∀ g,oi [] g S'=Br (fr rows) (Bs rows ns) (jz (lo rows) g))->Q (.oE (iS S')) G
theorem MT(ds:List D)(G:Gp)(Q:DK)(h:sd ds G Q fun _ _=>False):Bk (fun _ _=>False) (ends Q) (bE 7 ds) G:=by
 obtain⟨rows,ns,rfl,⟨d,hp,hl⟩,q⟩:=h;have AR:=d.AR;have str:=d.str;have nn:ns.Nodup:=hp.nodup_iff.mpr (zf d);have lol:lo rows<=3:=aZ (eg _ _) str;unfold Bk;simp only [↓cX,bK,iO,↓gB,av,bE,↓ak,↓bq,↓aj,↓aC,a8,↓aB,↓aW,↓ae,↓aa,aL,ua,aw,↓aq,↓ao,aX,cM,ends];refine jR ⟨Ey (by rw [au]; lia),?_⟩;refine lg (xs:=ns) (fun pre acc τ G'=>G=G'/\(∃ a,τ=[a,some (enc rows)])/\acc=(pre.map (handOf rows)).map D.int) ⟨rfl,⟨_,rfl⟩,rfl⟩ (fun _ _ _ _ _=>trivial) ?_ ?_
 ·rintro pre n post acc τ G' N e ⟨rfl,⟨a,rfl⟩,rfl⟩ hN;have hn:n∈names rows:=hp.mem_iff.mp (by rw [e]; simp);simp only [aL,bJ,aw,av,↓ao,Dw,↓ae,↓aa,aX];refine⟨rows,n,rfl,⟨by lia,WR d hn⟩,?_⟩;refine hN _ _ _ ⟨rfl,⟨_,rfl⟩,?_⟩;rw [aT,aT]; rfl
 rintro acc τ G' ⟨rfl,⟨a,rfl⟩,rfl⟩ p1 f1;refine jR ⟨Ey (by rw [au]; lia),?_⟩;refine lg (xs:=rows) (fun pre acc τ G'=>eY G p1 (.lst ((ns.map (handOf rows)).map D.int))=G'/\(∃ a,τ=[a])/\acc=(pre.filter fun r=>r.isEmpty).map enc) ⟨rfl,⟨_,rfl⟩,rfl⟩ (fun _ _ _ _ _=>trivial) ?_ ?_
 ·rintro pre r post acc τ G' N e ⟨rfl,⟨a,rfl⟩,rfl⟩ hN;simp only [aL,vD,↓eP,av,↓ao,↓aa];show qQ (.dQ (r.map enc)) _ _;unfold qQ G5;simp only [];by_cases c:r.isEmpty=true
  ·have c2:(r.map (enc:T3->D)).isEmpty=true:=by cases r with
    | nil=>rfl
    | cons _ _=>cases c
   simp only [c2,bL,di,if_true];refine hN _ _ _ ⟨rfl,⟨_,rfl⟩,?_⟩;simp only [eL,bS,c,if_true,lB,aT,ak,bq]
  ·have c2:(r.map (enc:T3->D)).isEmpty=false:=by cases r with
    | nil=>exact absurd rfl c
    | cons _ _=>rfl
   simp only [c2,bL,di,if_false,ar];refine hN _ _ _ ⟨rfl,⟨_,rfl⟩,?_⟩;have c':r.isEmpty=false:=by simpa using c
   simp only [eL,bS,c',if_false,ar,lB,cP]
 rintro acc τ G' ⟨rfl,⟨a,rfl⟩,rfl⟩ p2 f2;have p12:p1≠p2:=by rintro rfl; rw [az] at f2; cases f2
 simp only [GA az,au];simp only [PZ,bJ,aw,av,↓aa,aX,cM,↓ae];have elo:(rows.filter fun r=>r.isEmpty).length=lo rows:=rfl;rw [elo];refine⟨rows,rfl,by lia,?_⟩;rw [TB d];have nd:=HE d;obtain⟨n0,e0⟩:=J9 (KP nd) (Og nd);generalize hP0:LQ (IQ (JS rows))=P0 at n0 e0;unfold Gq;intro p5 f5;refine iw (.new f5) f5 az (cz ?_);refine⟨_,LP,lo rows,rfl,⟨rfl,Tf⟩,EU lol,by rw [Qj]; exact lH (by decide),fun p6 f6=>?_⟩;refine iw (.new f6) f6 az ?_;refine⟨oj P0,rfl,fun p7 f7=>?_⟩;have g1:fm G (eY (eY G p1 (.lst ((ns.map (handOf rows)).map D.int))) p2 (.lst (((rows.filter fun r=>r.isEmpty)).map enc))):=(fm.new f1).trans (.new f2);refine IE (A:=[(oj P0,eB LP (lo rows))]) (.new f7) f7 az ?_;generalize hG2:eY (eY G p1 (.lst ((ns.map (handOf rows)).map D.int))) p2 (.lst (((rows.filter fun r=>r.isEmpty)).map enc))=G2 at g1;have gh:G2 p1=some (.lst ((ns.map (handOf rows)).map D.int)):=by rw [<-hG2,cF p12,az]
 refine fg (fun τ G'=>∃ (S:Su) (a b:Option D),G'=G2/\τ=[some (enc rows),some (enc ns),some (.ref p1),some (.int (lo rows)),some (.oE (iS S)),a,b]/\Sb S []/\hW S<=2097152/\∀ g,oi [] g S=Br (fr rows) (Bs rows ns) (jz (lo rows) g)) ?_ ?_
 ·intro N hN;simp only [eQ,Pd,av,↓ae,↓aa];have hz:ph (ns.map enc) ((ns.map (handOf rows)).map D.int)=(Bs rows ns).map enc:=by
   have:ph (ns.map enc) ((ns.map (handOf rows)).map enc)=(ns.zip (ns.map (handOf rows))).map enc:=yn _ _;refine this.trans ?_;rw [zip_map]; rfl
  refine Md (IsL.enc ns) (IsL.ref gh) fun ok cL=>?_;rw [hz];have hnl:(Bs rows ns).length=ns.length:=by unfold Bs; rw [au]
  have start:∀ g,oi (Bs rows ns) g [(oj P0,eB LP (lo rows))]=Br (fr rows) (Bs rows ns) (jz (lo rows) g):=fun g=>by
   show L _ _+0=_;rw [uj,D3,Jc,e0];have:=congrFun (Ir (fr rows) (Bs rows ns) g (lo rows) 0) 0;simp only [D3] at this;rw [QT] at this;exact this
  have so0:Sb [(oj P0,eB LP (lo rows))] ((Bs rows ns).map (·.1)):=by
   refine⟨⟨by simp,fun p me=>?_⟩,fun p me=>?_⟩
   ·rw [cq] at me; subst me; exact⟨Y.we _ _,Y.LN _ _⟩
   ·rw [cq] at me; subst me;refine⟨P0,rfl,n0,fun e=>?_⟩;rw [e0,wc nd,Ci d,Kg];exact⟨fun ⟨n,h1,h2⟩=>⟨n,hp.mem_iff.mpr h1,h2⟩,fun ⟨n,h1,h2⟩=>⟨n,hp.mem_iff.mp h1,h2⟩⟩
  refine dI (xs:=Bs rows ns) (fun pre τ G'=>∃ (S:Su) (a b:Option D),G'=G2/\τ=[some (enc rows),some (enc ns),some (.ref p1),some (.int (lo rows)),some (.oE (iS S)),a,b]/\Sb S (((Bs rows ns).drop pre.length).map (·.1))/\(S.length<=8 * 8 ^ pre.length/\hW S<=8 * 8 ^ pre.length)/\∀ g,oi ((Bs rows ns).drop pre.length) g S=Br (fr rows) (Bs rows ns) (jz (lo rows) g))
   ⟨_,_,_,rfl,rfl,so0,⟨(by decide:1<=8 * 8 ^ 0),aZ (Nat.le_of_eq (v3 _)) (HY lol)⟩,start⟩ (fun pre τ G' h=>cL G' (by obtain⟨_,_,_,rfl,_⟩:=h; exact .refl _)) ?_ ?_
  ·rintro pre x post τ G' N2 e ⟨S,a,b,rfl,rfl,so,⟨sl,sn⟩,sv⟩ mC;have dr:(Bs rows ns).drop pre.length=x :: post:=by rw [e,List.drop_left]
   have dr2:(Bs rows ns).drop (pre++[x]).length=post:=by
    rw [e,show pre++x :: post=(pre++[x])++post by simp,List.drop_left]
   have Kz:pre.length+1+post.length<=6:=by
    have:=congrArg dH e;rw [aJ,aj,hnl] at this; lia
   have ZQ:(x.1 :: post.map (·.1)).Nodup:=by
    have h1:=Kg rows ns;rw [e,aT,ak] at h1;have h2:=nn;rw [<-h1] at h2;exact(List.nodup_append.mp h2).2.1
   rw [dr] at so sv;have p8:=YR (k:=pre.length) (by lia);have e3:(enc x:D)=.tup [.int x.1,.int x.2]:=rfl;rw [e3];simp only [ka,dZ,jX,aL,ao,aq];simp only [bK,cM,bJ,aw,av,↓ae,↓aa,aX,aL,↓aq,↓ao];refine⟨S,x.1,x.2,post,rfl,⟨so,ZQ,by lia,by lia,by lia⟩,fun S' so' l1 l2 v=>?_⟩;refine cz (mC _ _ ?_);rw [dr2];have e8:8 * 8 ^ (pre++[x]).length=8 * (8 * 8 ^ pre.length):=by
    rw [aJ,du,QD]; lia
   rw [e8];exact⟨S',_,_,rfl,rfl,so',⟨by lia,by lia⟩,fun g=>by rw [v]; exact sv g⟩
  ·rintro τ G' ⟨S,a,b,rfl,rfl,so,⟨sl,sn⟩,sv⟩;have dr:(Bs rows ns).drop (Bs rows ns).length=[]:=List.drop_length;rw [dr] at so sv;have:8 ^ (Bs rows ns).length<=8 ^ 6:=kh (by decide) (by lia);exact hN _ _ ⟨S,_,_,rfl,rfl,so,by lia,sv⟩
 ·rintro _ G' ⟨S,a,b,rfl,rfl,so,hn,hv⟩;simp only [cZ,cM,av,↓ae,↓aa];exact xT g1 (q S so hn hv)
structure BP(T:Po)(f:Fn->Int):Prop where
 nd:ND T
 nz:NZ T
 fh:fh T<=2097152
 val:∀ g,L g T=f g
theorem BP.len{T:Po}{f:Fn->Int}(b:BP T f):T.length<=2097152:=aZ (zb b.nz) b.fh
noncomputable def brk(rows:Rows)(g:Fn):Int:=Br (fr rows) (nh rows) (jz (lo rows) g)
theorem TM{S:Su}(so:Sb S []):∀ p∈S,p.1=[]:=fun p hp=>by
 obtain⟨P,e,nd,h⟩:=so.pl p hp;have:P=[]:=T1 nd fun e=>gP fun z=>by
  obtain⟨n,hn,_⟩:=(h e).mp z;cases hn
 rw [e,this]; rfl
theorem QQ{S:Su}(so:Sb S [])(g:Fn):oi [] g S=L g ((cV S []).getD []):=by
 have h:=TM so;have nd:=so.Na.1;cases S with
 | nil=>rfl
 | cons p S =>
  have e1:=h p (by simp);have e2:S=[]:=by
   cases S with
   | nil=>rfl
   | cons q S =>
    have e3:=h q (by simp);rw [ak,ak,aP] at nd;exact absurd (by rw [e1,e3]; exact c4) nd.1
  subst e2;have e4:cV [p] ([]:PK)=some p.2:=by unfold cV; rw [cG (by simpa using e1)]; rfl
  rw [e4];show L _ p.2+0=L g p.2;rw [D3];congr 1;funext j;show sh j g 0=g j;unfold sh;rw [D1]
noncomputable def yM:iE :=
 (cZ (cM (tG tyP Fo (bJ sd (aw (av 0) (aw (bJ ib (aw (av 0) aX)) aX))) (aw (cM (iA aX)) (aw (cM nG) aX)))))
noncomputable def kN:lO:=fun ds G Q _=>∃ rows:Rows,ds=[enc rows]/\(Dr rows/\rows.flatten.length<=12)/\∀ T:Po,BP T (brk rows)->Q (.kI (bD T)) G
theorem Jt(ds:List D)(G:Gp)(Q:DK)(h:kN ds G Q fun _ _=>False):yM (fun _ _=>False) (ends Q) (bE 1 ds) G:=by
 obtain⟨rows,rfl,⟨d,hl⟩,q⟩:=h;have nl:=Ij d;unfold yM;simp only [cZ,cM,tG,bJ,aw,av,bE,↓ak,↓bq,↓aj,↓aC,↓aB,↓aW,↓aa,aX,iA,nG,ends];refine⟨rows,rfl,(show rows.flatten.length < 64 by lia),?_⟩;refine⟨rows,names rows,rfl,⟨d,.refl _,by lia⟩,fun S so hn hv=>?_⟩;refine⟨trivial,by decide,cz ?_⟩;intro p hp;refine iw (.new hp) hp az ?_;refine⟨[],rfl,?_⟩;have bp:BP ((cV S []).getD []) (brk rows):=⟨(so.Na.get []).1,(so.Na.get []).2,aZ (Kf S []) hn,fun g=>by rw [<-QQ so,hv]; rfl⟩;have e:(ql (iS S) []).getD (.kI [])=.kI (bD ((cV S []).getD [])):=by
  rw [By];cases cV S [] <;> rfl
 rw [e];exact cz (q _ bp)
end JB
end K2
end
section
namespace K2
namespace JB
open K2.P K2.J
section
variable {α:Type}
noncomputable def gQ:List α->List (α×α)
 | a :: b :: l=>(a,b) :: gQ (b :: l)
 | _=>[]
noncomputable def ub:List α->List (α×α)
 | []=>[]
 | a :: l=>gQ (a :: l++[a])
theorem rT(a b:α)(l:List α):gQ (a :: b :: l)=(a,b) :: gQ (b :: l):=rfl
theorem xY:∀ (xs:List α) (m:α) (ys:List α),gQ (xs++m :: ys)=gQ (xs++[m])++gQ (m :: ys)
 | [],m,ys=>rfl
 | [a],m,ys=>rfl
 | a :: b :: xs,m,ys=>by
  rw [aB,aB,rT,aB,aB,rT,aB];congr 1;exact xY (b :: xs) m ys
theorem JM:∀ (l:List α) (c:α),l.zip (l.drop 1++[c])=gQ (l++[c])
 | [],_=>rfl
 | [a],c=>rfl
 | a :: b :: l,c=>by
  rw [aB,aB,rT];show (a,b) :: (b :: l).zip (l++[c])=_;congr 1;exact JM (b :: l) c
theorem RX(A B:List α):(ub (A++B)).Perm (ub (B++A)):=by
 cases A with
 | nil=>rw [aW,cP]
 | cons a A =>
  cases B with
  | nil=>rw [aW,cP]
  | cons b B =>
   show (gQ (a :: A++b :: B++[a])).Perm (gQ (b :: B++a :: A++[b]));have e1:gQ (a :: A++b :: B++[a])=gQ (a :: A++[b])++gQ (b :: B++[a]):=by
    rw [bP]; exact xY (a :: A) b (B++[a])
   have e2:gQ (b :: B++a :: A++[b])=gQ (b :: B++[a])++gQ (a :: A++[b]):=by
    rw [bP]; exact xY (b :: B) a (A++[b])
   rw [e1,e2];exact jG
end
theorem QJ(r:List T3):r.zip (i9 r)=ub r:=by
 cases r with
 | nil=>rfl
 | cons a l=>exact JM (a :: l) a
theorem iG(rows:Rows):pairsOf rows=rows.flatMap ub:=by
 unfold pairsOf;congr 1;funext r;exact QJ r
theorem rJ{α β:Type}(f:α->List β):∀ {rows:List α} {i:Nat} {r r':α},rows[i]?=some r->((rows.set i r').flatMap f).Perm (f r'++(rows.eraseIdx i).flatMap f)
 | [],_,_,_,h=>by simp at h
 | a :: rows,0,r,r',h=>by rw [ao,cw,M0]
 | a :: rows,i+1,r,r',h=>by
  rw [aq,cw,M3,cw];refine((rJ f (rows:=rows) (i:=i) (r:=r) (by simpa using h)).append_left _).trans ?_;rw [<-bP,<-bP];exact List.perm_append_comm.append_right _
theorem IP{α β:Type}(f:α->List β){rows:List α}{i:Nat}{r:α}(h:rows[i]?=some r):(rows.flatMap f).Perm (f r++(rows.eraseIdx i).flatMap f):=by
 have:=rJ f (r':=r) h;have e:rows.set i r=rows:=by
  obtain⟨hi,e⟩:=List.getElem?_eq_some_iff.mp h;rw [<-e]; exact Qp hi
 rw [e] at this; exact this
theorem Oh{a b x y:T3}{R:Pr T3}(nd:(es ((y,b) :: (a,x) :: R)).Nodup):jn (pt ((y,b) :: (a,x) :: R)) x y=pt ((a,b) :: R)/\cl (pt ((y,b) :: (a,x) :: R)) x y=0:=by
 have n:=nd;simp only [es,aP,aY,not_or] at n;obtain⟨⟨yb,ya,yx,yR⟩,⟨ba,bx,bR⟩,⟨ax,aR⟩,xR,rR⟩:=n;have fx:pt ((y,b) :: (a,x) :: R) x=a:=(kq nd (p:=(a,x)) (by simp)).2;have fy:pt ((y,b) :: (a,x) :: R) y=b:=(kq nd (p:=(y,b)) (by simp)).1;have Nb:(es ((a,b) :: R)).Nodup:=by
  simp only [es,aP,aY,not_or];exact⟨⟨fun z=>ba z.symm,aR⟩,bR,rR⟩
 refine⟨?_,by unfold cl; rw [fx,if_neg (fun z=>ya z.symm)]⟩;symm;refine Of Nb (fun p hp=>?_) fun e he=>?_
 ·have off:∀ e,e∈es R->e≠x/\e≠y/\e≠a/\e≠b:=fun e he=>⟨fun z=>xR (z ▸ he),fun z=>yR (z ▸ he),fun z=>aR (z ▸ he),fun z=>bR (z ▸ he)⟩;rcases List.mem_cons.mp hp with rfl | hp
  ·unfold jn;rw [fx,fy];refine⟨?_,?_⟩
   ·show (if a=x\/a=y then a else if a=a then b else _)=b;rw [if_neg (by rintro(z | z); exact ax z; exact ya z.symm),if_pos rfl]
   ·show (if b=x\/b=y then b else if b=a then b else if b=b then a else _)=a;rw [if_neg (by rintro(z | z); exact bx z; exact yb z.symm),if_neg (fun z=>ba z),if_pos rfl]
  ·have m1:p.1∈es R:=mY.mpr ⟨p,hp,.inl rfl⟩;have m2:p.2∈es R:=mY.mpr ⟨p,hp,.inr rfl⟩;obtain⟨o1,o2,o3,o4⟩:=off _ m1;obtain⟨u1,u2,u3,u4⟩:=off _ m2;have:=kq nd (p:=p) (by simp [hp]);unfold jn;rw [fx,fy,if_neg (by rintro(z | z); exact o1 z; exact o2 z),if_neg o3,if_neg o4,if_neg (by rintro(z | z); exact u1 z; exact u2 z),if_neg u3,if_neg u4];exact this
 ·simp only [es,aY,not_or] at he;unfold jn;rw [fx,fy];split
  ·rfl
  ·rename_i hz;rw [if_neg he.1,if_neg he.2.1];refine lY ?_;simp only [es,aY,not_or];rw [not_or] at hz;exact⟨hz.2,he.2.1,he.1,hz.1,he.2.2⟩
theorem Q4{x y:T3}{R:Pr T3}(nd:(es ((y,x) :: R)).Nodup):jn (pt ((y,x) :: R)) x y=pt R/\cl (pt ((y,x) :: R)) x y=1:=by
 have n:=nd;simp only [es,aP,aY,not_or] at n;obtain⟨⟨yx,yR⟩,xR,rR⟩:=n;have fx:pt ((y,x) :: R) x=y:=(kq nd (p:=(y,x)) (by simp)).2;have fy:pt ((y,x) :: R) y=x:=(kq nd (p:=(y,x)) (by simp)).1;refine⟨?_,by unfold cl; rw [fx,if_pos rfl]⟩;funext e;unfold jn;rw [fx,fy];split
 ·rename_i hz;rw [lY (by rcases hz with rfl | rfl; exact xR; exact yR)]
 ·rename_i hz;rw [not_or] at hz;rw [if_neg hz.2,if_neg hz.1,pt,if_neg hz.2,if_neg hz.1]
noncomputable def Sh(rows:Rows):Prop:=(rows.flatten.map T3.s).Nodup
theorem CT{rows:Rows}(h:Sh rows):(es (JS rows)).Nodup:=by
 refine Sl ?_ ?_
 ·have:=congrArg (List.map T3.s) (oM rows);rw [bw] at this;have h2:((pairsOf rows).map fun p=>p.1.s)=rows.flatten.map T3.s:=this;rw [h2]; exact h
 ·have:=(oK rows).map T3.s;rw [bw] at this;exact this.nodup_iff.mpr h
theorem PF{rows:Rows}{i:Nat}{r r':List T3}(h:rows[i]?=some r):(rows.set i r').flatten.Perm (r'++(rows.eraseIdx i).flatten):=by
 have:=rJ (fun r:List T3=>r) (r':=r') h;simpa [List.flatMap_id'] using this
theorem RO{rows:Rows}{i:Nat}{r:List T3}(h:rows[i]?=some r):rows.flatten.Perm (r++(rows.eraseIdx i).flatten):=by
 have:=IP (fun r:List T3=>r) h;simpa [List.flatMap_id'] using this
end JB
end K2
end
section
namespace K2
open PySem (Str)
open Enc (enc)
namespace T
noncomputable abbrev Tb:=List (List Int)
structure HL(G G':Gp)(p0:Nat)(as:List Nat)(rs:List (List D)):Prop where
 le:fm G G'
 fp:G p0=none
 gp:G' p0=some (.lst (as.map D.ref))
 np:p0∉as
 nd:as.Nodup
 fr:∀ a∈as,G a=none
 len:as.length=rs.length
 at':∀ (i a:Nat) (r:List D),as[i]?=some a->rs[i]?=some r->G' a=some (.lst r)
theorem HL.ext{G G' G'':Gp}{p0:Nat}{as:List Nat}{rs:List (List D)}(h:HL G G' p0 as rs)(l:fm G' G''):HL G G'' p0 as rs :=
 ⟨h.le.trans l,h.fp,l _ _ h.gp,h.np,h.nd,h.fr,h.len,fun i a r h1 h2=>l _ _ (h.at' i a r h1 h2)⟩
theorem HL.row{G G':Gp}{p0:Nat}{as:List Nat}{rs:List (List D)}(h:HL G G' p0 as rs){i:Nat}{r:List D}(hr:rs[i]?=some r):∃ a,as[i]?=some a/\G' a=some (.lst r)/\qu (as.map D.ref) (i:Int)=some (.ref a):=by
 have hi:i < as.length:=by rw [h.len]; exact(List.getElem?_eq_some_iff.mp hr).1
 refine⟨as[i],ay hi,h.at' i _ r (ay hi) hr,?_⟩;rw [qa _ (by lia) (by rw [au]; lia)];simp
theorem OG{as:List Nat}(hn:as.Nodup){i j a:Nat}(h1:as[i]?=some a)(h2:as[j]?=some a):i=j:=by
 have g1:=List.getElem?_eq_some_iff.mp h1;have g2:=List.getElem?_eq_some_iff.mp h2;have pw:=List.pairwise_iff_getElem.mp hn;rcases Nat.lt_trichotomy i j with lt | eq | gt
 ·exact absurd (g1.2.trans g2.2.symm) (pw i j g1.1 g2.1 lt)
 ·exact eq
 ·exact absurd (g2.2.trans g1.2.symm) (pw j i g2.1 g1.1 gt)
theorem OF{as:List Nat}(h:∀ i k a:Nat,i < k->as[i]?=some a->as[k]?=some a->False):as.Nodup:=by
 refine List.pairwise_iff_getElem.mpr fun i k hi hk hik z=>?_;exact h i k as[i] hik (ay hi) (by rw [ay hk,z])
theorem HL.N8{G G':Gp}{p0:Nat}{as:List Nat}{rs:List (List D)}(h:HL G G' p0 as rs){j a:Nat}{r':List D}(hj:j < as.length)(ga:G' a=some (.lst r'))(na:a∉as)(fa:G a=none)(np:a≠p0):HL G (eY G' p0 (.lst ((as.set j a).map D.ref))) p0 (as.set j a) (rs.set j r'):=by
 have Z5:∀ b,b∈as.set j a->b=a\/b∈as:=fun b hb=>by
  rcases qD hb with z | z
  ·exact .inr z
  ·exact .inl z
 refine⟨h.le.put h.fp,h.fp,az,fun z=>?_,?_,fun b hb=>?_,by rw [cK,cK]; exact h.len,fun i b r hb hr=>?_⟩
 ·rcases Z5 _ z with z | z
  ·exact np z.symm
  ·exact h.np z
 ·refine OF fun i k b hik h1 h2=>?_;by_cases e1:j=i
  ·subst e1;rw [dc hj] at h1;rw [eK (by lia)] at h2;cases h1;exact na (br h2)
  ·rw [eK e1] at h1;by_cases e2:j=k
   ·subst e2;rw [dc hj] at h2;cases h2;exact na (br h1)
   ·rw [eK e2] at h2;have:=OG h.nd h1 h2;lia
 ·rcases Z5 b hb with z | z
  ·rw [z]; exact fa
  ·exact h.fr b z
 ·have hb0:b≠p0:=by
   rintro rfl;rcases Z5 b (br hb) with z | z
   ·exact np z.symm
   ·exact h.np z
  rw [cF hb0];by_cases e:j=i
  ·subst e;rw [dc hj] at hb;rw [dc (by rw [<-h.len]; exact hj)] at hr;cases hb; cases hr;exact ga
  ·rw [eK e] at hb hr;exact h.at' i b r hb hr
theorem HL.fz{G G':Gp}{p0:Nat}{as:List Nat}{rs:List (List D)}(h:HL G G' p0 as rs){Q:DK}(q:Q (.dQ (rs.map D.dQ)) G):GS G' (.ref p0) Q:=by
 refine Dc h.le h.fp h.gp (ss:=rs.map D.dQ) ?_ q;have:∀ (as:List Nat) (rs:List (List D)),as.length=rs.length->(∀ a∈as,G a=none)->(∀ (i a:Nat) (r:List D),as[i]?=some a->rs[i]?=some r->G' a=some (.lst r))->DX G' (fun a=>(G a).isNone) (as.map D.ref) (rs.map D.dQ):=by
  intro as;induction as with
  | nil=>intro rs hl _ _; cases rs with
   | nil=>exact .nil
   | cons _ _=>cases hl
  | cons a as ih =>
   intro rs hl hf Mn;cases rs with
   | nil=>cases hl
   | cons r rs =>
    refine .cons (.ref (Mn 0 a r rfl rfl) (by simp [hf a (by simp)]) (DX.same _)) ?_;exact ih rs (by simpa using hl) (fun b hb=>hf b (aO _ hb)) fun i b s h1 h2=>Mn (i+1) b s h1 h2
 exact this as rs h.len h.fr h.at'
end T
end K2
end
section
namespace K2
open PySem (Str)
open Enc (enc)
namespace P
variable {rows:Rows}
noncomputable def VO(rows:Rows):List T3:=TR (Sq rows)
end P
end K2
end
section
namespace K2
open PySem (Str)
open Enc (enc)
namespace P
variable {rows:Rows}
noncomputable def TG(rows:Rows)(s:T2):Nat:=(((rows.zipIdx 0).find? fun p=>decide (s∈uE p.1 (p.2:Int))).map (·.2)).getD 0
theorem HV(n:Nat):gJ 0 n=((c9 n).map fun (i:Nat)=>(i:Int)).map enc:=by
 unfold gJ;rw [bw];refine cI fun i _=>?_;show D.int (0+(i:Int))=D.int (i:Int);rw [D1]
end P
end K2
end
section
namespace K2
open PySem (Str)
open Enc (enc)
namespace Y
noncomputable def q0:iE :=
 (cC (jx (jf (a9 Xv (av 1) (ua ue (aw (av 0) aX)))) (cZ (cM (a9 ip (av 0) (av 1)))) fM)
 (cZ (cM (dC (.int 0)))))
noncomputable def gN(ns:List Int)(k:Int):Int:=ns.getD k.toNat 0
noncomputable def bO:lO:=fun ds G Q _=>∃ (ns:List Int) (k:Int),ds=[.dQ (ns.map D.int),.int k]/\0<=k/\Q (.int (gN ns k)) G
theorem Ab(ds:List D)(G:Gp)(Q:DK)(h:bO ds G Q fun _ _=>False):q0 (fun _ _=>False) (ends Q) (bE 2 ds) G:=by
 obtain⟨ns,k,rfl,h0,q⟩:=h;unfold q0;simp only [cC,jx,bE,ak,bq,aj,aC,aB,aW,cZ,cM,a9,av,aa,ae,ends,jD,fM,dC,eP,ua,aw,aX,vL,Cz,cB];split
 ·rename_i h;have h1:k < (ns.map D.int).length:=by simpa using h
  rw [qa _ h0 h1];simp only [i6];rw [au] at h1;have e:gN ns k=ns[k.toNat]:=by unfold gN; rw [gR,ay (by lia)]; rfl
  rw [<-e]; exact cz q
 ·rename_i h;have h1:¬ k < (ns.map D.int).length:=by simpa using h
  rw [au] at h1;have e:gN ns k=0:=by unfold gN; rw [gR,vR (by lia)]; rfl
  rw [<-e]; exact cz q
noncomputable def uR:iE :=
 (cZ (cM (K1 (PY "int" (av 0)) (PW (PY "bool" (av 0))))))
noncomputable def dh:lO:=fun ds G Q _=>∃ i:Int,ds=[.int i]/\Q (.bl true) G
theorem DU(ds:List D)(G:Gp)(Q:DK)(h:dh ds G Q fun _ _=>False):uR (fun _ _=>False) (ends Q) (bE 1 ds) G:=by
 obtain⟨i,rfl,q⟩:=h;unfold uR;simp only [cZ,cM,bE,ak,bq,aj,aC,aB,aW,ends,zR,zQ,xU,av,aa,zy,cB];simpa using cz q
noncomputable def w8:iE :=
 (cZ (cM (a9 tL (a9 tL (a9 Cy (av 0) (dC (.int 48271))) (av 1)) (av 2))))
noncomputable def pick(c p m:Int):Int:=c * 48271 % p % m
noncomputable def dJ:lO:=fun ds G Q _=>∃ c p m:Int,ds=[.int c,.int p,.int m]/\(0 < p/\0 < m)/\Q (.int (pick c p m)) G
theorem GJ(ds:List D)(G:Gp)(Q:DK)(h:dJ ds G Q fun _ _=>False):w8 (fun _ _=>False) (ends Q) (bE 3 ds) G:=by
 obtain⟨c,p,m,rfl,⟨hp,hm⟩,q⟩:=h;unfold w8;simp only [cZ,cM,a9,av,bE,ak,bq,aj,aC,aB,aW,aa,dC,ae,ends,mT,jC];exact⟨.inr ⟨by decide,by decide⟩,hp,hm,cz q⟩
theorem jO(c p:Int){m:Int}(h:0 < m):0<=pick c p m:=jU _ (by lia)
theorem jP(c p:Int){m:Int}(h:0 < m):pick c p m < m:=hU _ h
noncomputable def w7:iE :=
 (cC (jx (vD (jf (PY "dict" (av 0)))) (cZ (cM (dC (.bl false)))) fM)
 (cC (eQ (ng (av 0)) (aL 1) (jx (RW (vD (jf (bJ dh (aw (av 1) aX)))) (RW (vD (jf (bJ dh (aw (a9 ip (av 0) (av 1)) aX)))) (jf (a9 (CB false) (a9 ip (av 0) (av 1)) (dC (.int 0)))))) (cZ (cM (dC (.bl false)))) fM))
 (cZ (cM (dC (.bl true))))))
noncomputable def ic:lO:=fun ds G Q _=>∃ (d:D) (l:Po),ds=[d]/\Pl G d l/\NZ l/\Q (.bl true) G
theorem GH(ds:List D)(G:Gp)(Q:DK)(h:ic ds G Q fun _ _=>False):w7 (fun _ _=>False) (ends Q) (bE 2 ds) G:=by
 obtain⟨d,l,rfl,hd,hz,q⟩:=h;unfold w7;refine fg (fun τ G'=>τ=[some d,none]/\G=G') ?_ ?_
 ·intro N hN;simp only [jx,vD,bE,ak,bq,aj,aC,a8,aB,aW,cZ,cM,dC,ends,fM,eP,xU,av,aa];refine O8 (G:=G) hd.is.p ?_;simp only [beq_self_eq_true,cB,bL,ar,if_false];exact hN _ _ ⟨rfl,rfl⟩
 rintro _ _ ⟨rfl,rfl⟩;refine fg (fun τ G'=>(∃ a,τ=[some d,a])/\G=G') ?_ ?_
 ·intro N hN;simp only [eQ,ng,av,aa,ends];refine pN hd.is (.refl _) fun ok cL=>?_;refine dI (xs:=l) (fun pre τ G'=>(∃ a,τ=[some d,a])/\G=G') ⟨⟨_,rfl⟩,rfl⟩ (fun pre τ G' h=>cL G' (by rw [<-h.2]; exact .refl _)) ?_ ?_
  ·rintro pre x post τ G' N2 e ⟨⟨a,rfl⟩,rfl⟩ mC;have hm:x∈l:=by rw [e]; simp
   have hx:=oU hd.nd hm;simp only [aL,jx,RW,vD,aq,ao,cZ,cM,dC,fM,if_true,eP,a9,av,aa,ae,bJ,aw,aX];refine⟨_,rfl,?_⟩;simp only [cB,bL,ar,if_false];refine Bo hd.is.p hx ⟨x.2,rfl,?_⟩;simp only [cB,bL,ar,if_false];refine Bo hd.is.p hx ⟨_,_,.int _,.int _,?_⟩;simp only [ar,Du,hz x hm,decide_false,di,if_false,cB];exact mC _ _ ⟨⟨_,rfl⟩,rfl⟩
  ·rintro τ G' ⟨⟨a,rfl⟩,rfl⟩;exact hN _ _ ⟨⟨_,rfl⟩,rfl⟩
 ·rintro _ _ ⟨⟨a,rfl⟩,rfl⟩;simp only [cZ,cM,dC,ends];exact cz q
noncomputable def uS:iE :=
 (cC (bK nG (aL 1))
 (cC (eQ (ng (av 0)) (aL 2) (jx (jf (a9 (CB true) (a9 ip (av 0) (av 2)) (dC (.int 0)))) (bK (a9 ip (av 0) (av 2)) (kz (av 1) (av 2))) fM))
 (cZ (cM (av 1)))))
noncomputable def eZ:lO:=dg
theorem DV(ds:List D)(G:Gp)(Q:DK)(h:eZ ds G Q fun _ _=>False):uS (fun _ _=>False) (ends Q) (bE 3 ds) G:=by
 obtain⟨d,l,rfl,hd,hl,q⟩:=h;unfold uS;simp only [ends,bE,ak,bq,aj,aC,a8,aB,aW,cX,bK,nG,aL,aq,ao];intro p hp;refine fg (fun τ G'=>(∃ a,τ=[some d,some (.ref p),a])/\fm G G'/\G' p=some (.gF (bD (fL l)))) ?_ ?_
 ·intro N hN;simp only [eQ,ng,av,aa];refine pN hd.is (.new hp) fun ok cL=>?_;refine dI (xs:=l) (fun pre τ G'=>(∃ a,τ=[some d,some (.ref p),a])/\fm G G'/\G' p=some (.gF (bD (fL pre)))) ⟨⟨_,rfl⟩,.new hp,az⟩ (fun pre τ G' h=>cL G' h.2.1) ?_ ?_
  ·rintro pre x post τ G' N2 e ⟨⟨a,rfl⟩,le,gp⟩ mC;have hlen:(fL pre).length < SZ:=by
    have:=si pre;have:=ft e; lia
   have hm:x∈l:=by rw [e]; simp
   have hx:=oU hd.nd hm;simp only [aL,jx,aq,ao,bK,a9,av,aa,ae,kz,fM,eP,dC];refine Bo hd.is.p hx ⟨_,_,.int _,.int _,?_⟩;simp only [Du,if_true,cB];by_cases hz:x.2=0
   ·simp only [hz,decide_true,bL,ar,if_false];exact mC _ _ ⟨⟨_,rfl⟩,le,by rw [yX hz]; exact gp⟩
   ·simp only [hz,decide_false,di,if_true];refine Bo hd.is.p hx ?_;refine fN (α:=Int) gp hlen ?_;exact mC _ _ ⟨⟨_,rfl⟩,le.put hp,by rw [az,<-yW hd.nd e hz]⟩
  ·rintro τ G' ⟨⟨a,rfl⟩,le,gp⟩;exact hN _ _ ⟨⟨_,rfl⟩,le,gp⟩
 ·rintro _ G' ⟨⟨a,rfl⟩,le,gp⟩;simp only [cZ,cM,av,ae,aa];exact nR le hp gp q
end Y
end K2
end
section
namespace K2
open PySem (Str)
open Enc (enc)
namespace GR
open K2.T
open K2.P (names handOf TG uE ib iZ)
open K2.Y (gN pick jO jP bO dh dJ iI ft)
theorem gE{α:Type} [DecidableEq α] [Enc α](rs:List (List α)):(enc rs:D)=.dQ ((rs.map fun r=>r.map enc).map D.dQ):=by
 show D.dQ _=_;rw [bw]; rfl
noncomputable def nO:iE :=
 (cZ (cM (iO 1 [] (oR (av 0)) (aL 0) none (ua vK (aw (av 0) aX)))))
noncomputable def eT:lO:=fun ds G Q _=>∃ rs:List (List D),ds=[.dQ (rs.map D.dQ)]/\rs.length<=1000/\∀ G' p0 as,HL G G' p0 as rs->Q (.ref p0) G'
theorem rX(ds:List D)(G:Gp)(Q:DK)(h:eT ds G Q fun _ _=>False):nO (fun _ _=>False) (ends Q) (bE 1 ds) G:=by
 obtain⟨rs,rfl,hl,q⟩:=h;unfold nO;simp only [cZ,cM,iO,bE,ak,bq,aj,aC,aB,aW,ends,gB,av,aa,C5];refine⟨Ey (by rw [au]; exact hl),?_⟩;refine lg (xs:=rs) (fun pre acc τ G'=>(∃ a,τ=[a])/\∃ as:List Nat,acc=as.map D.ref/\fm G G'/\as.Nodup/\(∀ a∈as,G a=none)/\as.length=pre.length/\(∀ (i a:Nat) (r:List D),as[i]?=some a->pre[i]?=some r->G' a=some (.lst r))) ?_ (fun _ _ _ _ _=>trivial) ?_ ?_
 ·exact⟨⟨_,rfl⟩,[],rfl,.refl G,cR,fun _ h=>by(cases h),rfl,fun i a r h=>by simp at h⟩
 ·rintro pre r post acc τ G' N e ⟨⟨a,rfl⟩,as,rfl,le,nd,fr,ln,Mn⟩ hN;simp only [aL,ua,aw,av,ao,aa,aX];refine Gy (IsL.dQ) fun p hp=>?_;have Z0:p∉as:=fun z=>by
   obtain⟨i,hi⟩:=og z;have h1:i < pre.length:=by rw [<-ln]; exact(List.getElem?_eq_some_iff.mp hi).1
   have:=Mn i p pre[i] hi (ay h1);rw [hp] at this; cases this
  refine hN _ _ _ ⟨⟨_,rfl⟩,as++[p],by simp,le.trans (.new hp),?_,fun b hb=>?_,by rw [aJ,aJ,ln]; rfl,fun i b r2 h1 h2=>?_⟩
  ·rw [eE];exact⟨nd,by simp,fun x hx y hy=>by rw [cq] at hy; subst hy; intro z; exact Z0 (z ▸ hx)⟩
  ·rcases List.mem_append.mp hb with z | z
   ·exact fr b z
   ·rw [cq] at z; rw [z]; exact le.free hp
  ·by_cases hi:i < as.length
   ·rw [c7 hi] at h1;rw [c7 (by rw [<-ln]; exact hi)] at h2;have:=Mn i b r2 h1 h2;exact(fm.new hp) _ _ this
   ·rw [cm (by lia)] at h1;rw [cm (by lia)] at h2;have:i - as.length=0:=by
     have:=(List.getElem?_eq_some_iff.mp h1).1;simp at this; lia
    rw [this] at h1;rw [show i - pre.length=0 by lia] at h2;simp at h1 h2;subst h1 h2;exact az
 ·rintro acc τ G' ⟨⟨a,rfl⟩,as,rfl,le,nd,fr,ln,Mn⟩ p hp;have Z0:p∉as:=fun z=>by
   obtain⟨i,hi⟩:=og z;have h1:i < rs.length:=by rw [<-ln]; exact(List.getElem?_eq_some_iff.mp hi).1
   have:=Mn i p rs[i] hi (ay h1);rw [hp] at this; cases this
  refine cz (q _ p as ⟨le.trans (.new hp),le.free hp,az,Z0,nd,fr,ln,fun i b r h1 h2=>?_⟩);exact(fm.new hp) _ _ (Mn i b r h1 h2)
noncomputable def nN:iE :=
 (cC (Jh (jf (a9 (QZ false) (av 1) (av 0))) (bK (a9 hV (a9 tL (av 1) (dC (.int 999))) (dC (.int 1))) (aL 1)))
 (cZ (cM (av 1))))
noncomputable def XU(n:Int):Int:=n % 999+1
noncomputable def fit(n:Int):Nat->Int
 | 0=>n
 | k+1=>XU (fit n k)
theorem zJ{n:Int}(h1:1<=n)(h2:n<=999):∀ k:Nat,fit n k=(n - 1+k) % 999+1
 | 0=>by show n=_; lia
 | k+1=>by
  show XU (fit n k)=_;rw [zJ h1 h2 k];unfold XU;lia
theorem PH{n:Int}{ns:List Int}(h1:1<=n)(h2:n<=999)(hl:ns.length<=500):∃ k,k<=ns.length/\fit n k∉ns:=by
 apply gP;intro UC;have AN:∀ k,k<=ns.length->fit n k∈ns:=fun k hk=>gP fun z=>UC ⟨k,hk,z⟩;have nd:((c9 (ns.length+1)).map fun k=>fit n k).Nodup:=by
  refine List.pairwise_iff_getElem.mpr fun i j hi hj Mh=>?_;simp only [au,jY] at hi hj;rw [i6,i6,lz,lz,zJ h1 h2,zJ h1 h2];lia
 have:=iI _ ns nd fun x hx=>by
  obtain⟨k,hk,rfl⟩:=List.mem_map.mp hx;exact AN k (by have:=List.mem_range.mp hk; lia)
 simp at this;lia
noncomputable def gw:lO:=fun ds G Q _=>∃ (d:D) (ns:List Int) (n:Int),ds=[d,.int n]/\IsL G d (ns.map D.int)/\(ns.length<=500/\1<=n/\n<=999)/\∀ m:Int,m∉ns->1<=m->m<=999->Q (.int m) G
theorem EX{G:Gp}{d:D}{ns:List Int}{i:Int}{Q:DK}(h:IsL G d (ns.map D.int))(k:Q (.bl (decide (i∈ns))) G):QZ false (.int i) d G Q:=by
 have e:(ns.map D.int).any (fun x=>iN x (.int i))=decide (i∈ns):=R8 ns i;rcases h with rfl | ⟨a,rfl,g⟩
 ·refine⟨.int i,ns.map D.int,.int _,Sn.rI ns,?_⟩;simp only [ar,if_false];rw [e]; exact k
 ·unfold QZ;simp only [g];refine⟨.int i,ns.map D.int,.int _,Sn.rI ns,?_⟩;simp only [ar,if_false];rw [e]; exact k
theorem rW(ds:List D)(G:Gp)(Q:DK)(h:gw ds G Q fun _ _=>False):nN (fun _ _=>False) (ends Q) (bE 2 ds) G:=by
 obtain⟨d,ns,n,rfl,hd,⟨hl,h1,h2⟩,q⟩:=h;unfold nN;refine fg (fun τ G'=>G=G'/\∃ m:Int,(m∉ns/\1<=m/\m<=999)/\τ=[some d,some (.int m)]) ?_ ?_
 ·intro N hN;obtain⟨k,hk,qm⟩:=PH h1 h2 hl;have main:∀ (j:Nat),j<=k->En (jf (a9 (QZ false) (av 1) (av 0))) (bK (a9 hV (a9 tL (av 1) (dC (.int 999))) (dC (.int 1))) (aL 1)) (j+1) (fun _ _=>False) { ends Q with nx:=N } [some d,some (.int (fit n (k - j)))] G:=by
   intro j;induction j with
   | zero =>
    intro _;show En _ _ (0+1) _ _ _ _;rw [En];simp only [bK,a9,av,ae,aa,dC,aL,ends,aq,ao,jC,dU,eP];refine EX hd ?_;simp only [Nat.sub_zero,qm,decide_false,cB,ar,if_false];have:=zJ h1 h2 k;exact hN _ _ ⟨rfl,_,⟨qm,by lia,by lia⟩,rfl⟩
   | succ j ih =>
    intro hj;rw [En];simp only [bK,a9,av,ae,aa,dC,aL,ends,aq,ao,jC,dU,eP];refine EX hd ?_;have hb:=zJ h1 h2 (k - (j+1));by_cases hm:fit n (k - (j+1))∈ns
    ·simp only [hm,decide_true,cB,if_true];refine⟨by decide,?_⟩;have e:fit n (k - (j+1)) % 999+1=fit n (k - j):=by
      rw [show k - j=(k - (j+1))+1 by lia]; rfl
     rw [e];exact ih (by lia)
    ·simp only [hm,decide_false,cB,ar,if_false];exact hN _ _ ⟨rfl,_,⟨hm,by lia,by lia⟩,rfl⟩
  have:=main k (aH _);rw [Nat.sub_self] at this;exact⟨k+1,this⟩
 ·rintro _ _ ⟨rfl,m,⟨m1,m2,m3⟩,rfl⟩;simp only [cZ,cM,av,ae,aa,ends];exact cz (q m m1 m2 m3)
noncomputable abbrev dT(t:Tb):List (List D):=t.map fun r=>r.map D.int
structure Lk(rows:Rows):Prop where
 dr:Dr rows
 sp:∀ n∈names rows,∀ w:Int,w=0\/w=1->(∃ p∈rows.zipIdx 0,(⟨n,w⟩:T2)∈uE p.1 (p.2:Int))/\TG rows ⟨n,w⟩ < rows.length
 hd:∀ n∈names rows,∃ p∈rows.flatten,p.a=n
noncomputable def wr(rows:Rows):Int:=((names rows).map (handOf rows)).sum
end GR
end K2
end
section
namespace K2
open PySem (Str)
open Enc (enc)
namespace GR
open K2.T
open K2.P (names handOf TG uE ib iZ)
open K2.Y (gN pick jO jP bO dh dJ iI ft)
structure Cr where
 n:Int
 i:Nat
 j:Nat
 h:Int
noncomputable def Cr.ps(c:Cr):List T3:=[⟨c.n,0,c.h⟩,⟨c.n,1,c.h⟩]
noncomputable def flat(cs:List Cr):List T3:=cs.flatMap Cr.ps
structure CR(S:Nat)(rows:Rows)(cs:List Cr):Prop where
 len:rows.length=S
 perm:rows.flatten.Perm (flat cs)
 nd:(cs.map Cr.n).Nodup
 hand:∀ c∈cs,c.h=1\/c.h=-1
 ix:∀ c∈cs,c.i < S/\c.j < S
 Nj:∀ c∈cs,∃ r,rows[c.i]?=some r/\(⟨c.n,0,c.h⟩:T3)∈r
 Qz:∀ c∈cs,∃ r,rows[c.j]?=some r/\(⟨c.n,1,c.h⟩:T3)∈r
 AR:cs.length<=12
section
variable {S:Nat} {rows:Rows} {cs:List Cr}
theorem inj{c d:Cr}:∀ {cs:List Cr},(cs.map Cr.n).Nodup->c∈cs->d∈cs->c.n=d.n->c=d
 | e :: cs,h,hc,hd,hn=>by
  rw [ak,aP] at h;rcases List.mem_cons.mp hc with e1 | BH
  ·rcases List.mem_cons.mp hd with e2 | hd2
   ·rw [e1,e2]
   ·exact absurd (by rw [<-e1,hn]; exact bM hd2) h.1
  ·rcases List.mem_cons.mp hd with e2 | hd2
   ·exact absurd (by rw [<-e2,<-hn]; exact bM BH) h.1
   ·exact inj h.2 BH hd2 hn
end
structure AL(G G':Gp)(as:List Nat)(rs:List (List D)):Prop where
 le:fm G G'
 nd:as.Nodup
 fr:∀ a∈as,G a=none
 len:as.length=rs.length
 at':∀ (i a:Nat) (r:List D),as[i]?=some a->rs[i]?=some r->G' a=some (.lst r)
theorem AL.nil(G:Gp):AL G G [] []:=⟨.refl G,cR,fun _ h=>by(cases h),rfl,fun i a r h=>by simp at h⟩
theorem AL.new{G G':Gp}{as:List Nat}{rs:List (List D)}(h:AL G G' as rs){p:Nat}(hp:G' p=none):p∉as:=fun z=>by
 obtain⟨i,hi⟩:=og z;have h1:i < rs.length:=by rw [<-h.len]; exact(List.getElem?_eq_some_iff.mp hi).1
 have:=h.at' i p rs[i] hi (ay h1);rw [hp] at this; cases this
theorem AL.push{G G':Gp}{as:List Nat}{rs:List (List D)}(h:AL G G' as rs){p:Nat}(hp:G' p=none)(r:List D):AL G (eY G' p (.lst r)) (as++[p]) (rs++[r]):=by
 refine⟨h.le.trans (.new hp),?_,fun b hb=>?_,by rw [aJ,aJ,h.len]; rfl,fun i b r2 h1 h2=>?_⟩
 ·rw [eE];exact⟨h.nd,by simp,fun x hx y hy=>by rw [cq] at hy; subst hy; intro z; exact h.new hp (z ▸ hx)⟩
 ·rcases List.mem_append.mp hb with z | z
  ·exact h.fr b z
  ·rw [cq] at z; rw [z]; exact h.le.free hp
 ·by_cases hi:i < as.length
  ·rw [c7 hi] at h1;rw [c7 (by rw [<-h.len]; exact hi)] at h2;exact(fm.new hp) _ _ (h.at' i b r2 h1 h2)
  ·have ln:=h.len;rw [cm (by lia)] at h1;rw [cm (by lia)] at h2;have:i - as.length=0:=by
    have:=(List.getElem?_eq_some_iff.mp h1).1;simp at this; lia
   rw [this] at h1;rw [show i - rs.length=0 by lia] at h2;simp at h1 h2;subst h1 h2;exact az
theorem AL.top{G G':Gp}{as:List Nat}{rs:List (List D)}(h:AL G G' as rs){p:Nat}(hp:G' p=none):HL G (eY G' p (.lst (as.map D.ref))) p as rs :=
 ⟨h.le.trans (.new hp),h.le.free hp,az,h.new hp,h.nd,h.fr,h.len,fun i b r h1 h2=>(fm.new hp) _ _ (h.at' i b r h1 h2)⟩
theorem kB{i:Nat}{t:iE}{E:mw}{K:lP}{τ:iQ}{G:Gp}:Gn i t E K τ G=t E { K with nx:=fun pe G1=>match pe[i]? with
 | some (some d)=>GS G1 d fun t G2=>K.nx (pe.set i (some t)) G2
 | _=>False } τ G:=rfl
end GR
end K2
end
section
namespace K2
open PySem (Str)
open Enc (enc)
namespace Vb
open K2.P
section
variable {α β:Type} [DecidableEq α] [DecidableEq β]
structure Tr(V:List α)(R:α->α->Prop)(A:List α):Prop where
 pw:A.Pairwise fun a b=>¬ R a b
 cov:∀ v∈V,∃ a∈A,R v a
 in':∀ a∈A,a∈V
structure Eqv(R:α->α->Prop):Prop where
 rf:∀ x,R x x
 sy:∀ {x y},R x y->R y x
 tr:∀ {x y z},R x y->R y z->R x z
variable {V:List α} {R:α->α->Prop}
noncomputable def it(f:α->α):Nat->α->α
 | 0,a=>a
 | n+1,a=>f (it f n a)
structure Pm(V:List α)(f:α->α):Prop where
 cl:∀ a∈V,f a∈V
 inj:∀ a∈V,∀ b∈V,f a=f b->a=b
variable {f:α->α}
noncomputable def gr(V:List α)(f:α->α):List (α×α):=V.map fun a=>(a,f a)
end
end Vb
end K2
end
section
namespace K2
open PySem (Str)
open Enc (enc)
namespace Vb
open K2.P
variable {rows:Rows}
noncomputable def flp(z:T3):T3:=⟨z.a,z.b,1 - z.c⟩
noncomputable def swp(off:List T2)(z:T3):T3:=if z.s∈off then flp z else z
noncomputable def phi(rows:Rows)(off:List T2)(a:T3):T3:=swp off (step rows a)
noncomputable def aaG(rows:Rows):List T2:=rows.flatten.map T3.s
noncomputable def aaw(rows:Rows):List T2:=(Sq rows).filter fun s=>decide (s.b=2)
noncomputable def pr(s:T2):T3×T3:=(Zq s,YE s)
noncomputable def base(rows:Rows):List (T3×T3):=gr (VO rows) (phi rows (aaG rows))++(aaw rows).map pr
end Vb
end K2
end
section
namespace K2
open PySem (Str)
open Enc (enc)
namespace Ti
open K2.P
structure HR(G G':Gp)(p0:Nat)(as:List Nat)(rs:Rows):Prop where
 le:fm G G'
 fp:G p0=none
 gp:G' p0=some (.lst (as.map D.ref))
 np:p0∉as
 nd:as.Nodup
 fr:∀ a∈as,G a=none
 len:as.length=rs.length
 at':∀ (i a:Nat) (r:List T3),as[i]?=some a->rs[i]?=some r->G' a=some (.lst (r.map enc))
structure MI(st:Int)(n:Nat)(name:Int)(L:List T3):Prop where
 off:∃ off:Int,0<=off/\off<=83 * n/\name=(st+off) % 999/\∀ p∈L,∃ o:Int,0 < o/\o<=off/\p.a=(st+o) % 999+1
 nd:(L.map T3.s).Nodup
 way:∀ p∈L,p.b=0\/p.b=1
 hand:∀ p∈L,p.c=1\/p.c=-1
 Fi:∀ p∈L,(⟨p.a,1 - p.b,p.c⟩:T3)∈L
 len:L.length=2 * n
end Ti
end K2
end
section
namespace K2
open PySem (Str)
open Enc (enc)
namespace K13
open K2.P K2.Ti
variable {rows:Rows}
theorem Pc{c:xp}{a b:iE}{E:mw}{K:lP}{τ:iQ}{G:Gp}:jx c a b E K τ G=c E τ G fun k G1=>if k=true then a E K τ G1 else b E K τ G1:=rfl
end K13
end K2
end
section
namespace K2
open PySem (Str)
open Enc (enc)
namespace K13
open K2.P K2.Ti
variable {rows:Rows}
structure HI(n:Nat)(ps:List (Int×Int))(RH:List Int):Prop where
 len:RH.length=n
 VQ:∀ x∈RH,0<=x/\x < (n:Int)
 eq:∀ i j:Nat,i < n->j < n->(RH.getD i 0=RH.getD j 0↔Cn ps (i:Int) (j:Int))
end K13
end K2
end
section
namespace K2
open PySem (Str)
open Enc (enc)
namespace Vb
open K2.P
variable {rows:Rows}
end Vb
end K2
end
section
namespace K2
open PySem (Str)
open Enc (enc)
namespace GQ
open K2.P K2.Vb
section
variable {α:Type} [DecidableEq α]
noncomputable def dd(l:List α):List α:=l.foldl (fun acc x=>if x∈acc then acc else acc++[x]) []
end
variable {rows:Rows}
end GQ
end K2
end
section
namespace K2
open PySem (Str)
open Enc (enc)
noncomputable instance:DY T2 where
 mn:=by
  intro x G xs Q hi D7 k;cases xs with
  | nil=>exact absurd rfl D7
  | cons a r =>
   obtain⟨h1,h2⟩:=nj r a;have ei:itemsOf x G=some (((a :: r).map T2.l).map tI):=by rw [hi,bw]; rfl
   refine .inr ⟨(a :: r).map T2.l,_,ei,rfl,?_⟩;have:∀ (r:List T2) (a:T2),(r.map T2.l).foldl (fun m x=>if lexLt x m=true then x else m) a.l=(r.foldl (fun m x=>if bC.lt x m=true then x else m) a).l:=by
    intro r;induction r with
    | nil=>intro a; rfl
    | cons b r ih =>
     intro a;rw [ak,c5,c5];have e:(if lexLt b.l a.l=true then b.l else a.l)=(if bC.lt b a=true then b else a).l:=by
      have:bC.lt b a=lexLt b.l a.l:=tQ _ _;rw [this];split <;> rfl
     rw [e]; exact ih _
   rw [this r a];exact k _ h1 h2
namespace GQ
open K2.P K2.Vb K2.T
open K2.Y (ft)
variable {rows:Rows}
end GQ
end K2
end
section
namespace K2
open PySem (Str)
open Enc (enc)
namespace GQ
open K2.P K2.T
open K2.GR (CR Cr AL eT XU gE kB)
open K2.Y (gN pick jO jP bO dh dJ iI ft)
theorem Pc{c:xp}{a b:iE}{E:mw}{K:lP}{τ:iQ}{G:Gp}:jx c a b E K τ G=c E τ G fun k G1=>if k=true then a E K τ G1 else b E K τ G1:=rfl
theorem eq_int(i j:Int):iN (.int i) (.int j)=decide (i=j):=Enc.eqv i j
noncomputable def wo(L:List T3):List Int:=(L.filter fun p=>p.b == 0).map (·.a)
noncomputable def ik:lO:=TL (fun rows:Rows=>rows.flatten.length<=500) fun rows=>wo rows.flatten
noncomputable def uT:iE :=
 (cC (bK (iT aX) (aL 1))
 (cC (eQ (oR (av 0)) (aL 2) (eQ (oR (av 2)) (aL 3) (jx (jf (a9 (CB false) (a9 ip (av 3) (dC (.int 1))) (dC (.int 0)))) (kK (tG Er ma (av 1) (aw (a9 ip (av 3) (dC (.int 0))) aX))) fM)))
 (cZ (cM (av 1)))))
theorem l0(L:List T3):(wo L).length<=L.length:=by unfold wo; rw [au]; exact eg _ _
theorem Rt(a b:List T3):wo (a++b)=wo a++wo b:=by unfold wo; rw [eL,aT]
theorem vP(ds:List D)(G:Gp)(Q:DK)(h:ik ds G Q fun _ _=>False):uT (fun _ _=>False) (ends Q) (bE 4 ds) G:=by
 obtain⟨rows,rfl,hl,q⟩:=h;unfold uT;simp only [ends,bE,ak,bq,aj,aC,a8,aB,aW,cX,bK,iT,aX,aL,aq,ao];refine⟨by decide,fun p hp=>?_⟩;refine fg (fun τ G'=>(∃ a b,τ=[some (enc rows),some (.ref p),a,b])/\fm G G'/\G' p=some (.lst ((wo rows.flatten).map enc))) ?_ ?_
 ·intro N hN;simp only [eQ,gB,av,aa];refine jR ?_;refine dI (xs:=rows) (fun pre τ G'=>(∃ a b,τ=[some (enc rows),some (.ref p),a,b])/\fm G G'/\G' p=some (.lst ((wo pre.flatten).map enc))) ⟨⟨_,_,rfl⟩,.new hp,az⟩ (fun _ _ _ _=>trivial) ?_ ?_
  ·rintro pre r post τ G' N2 e ⟨⟨a,b,rfl⟩,l,gp⟩ mC;have hlen:pre.flatten.length+r.length<=rows.flatten.length:=by
    rw [e]; simp only [iU,cW,aJ]; lia
   simp only [aL,eQ,aq,ao,gB,av,ae,aa];refine jR ?_;refine dI (xs:=r) (fun pp τ G'=>(∃ a b,τ=[some (enc rows),some (.ref p),a,b])/\fm G G'/\G' p=some (.lst ((wo (pre.flatten++pp)).map enc))) ⟨⟨_,_,rfl⟩,l,by rw [cP]; exact gp⟩ (fun _ _ _ _=>trivial) ?_ ?_
   ·rintro pp t pt τ G4 N3 e4 ⟨⟨a,b,rfl⟩,l4,UN⟩ D8;have hpp:pp.length < r.length:=by have:=congrArg dH e4; simp at this; lia
    have hz:=l0 (pre.flatten++pp);rw [aJ] at hz;simp only [aL,ot,aq,ao,Pc,kK,tG,av,ae,aa,nK,aw,a9,dC,aX,i4,fF,Nj,fM,eP,Qz];refine⟨_,_,.int _,.int _,?_⟩;rw [eq_int];have eu:wo (pre.flatten++(pp++[t]))=wo (pre.flatten++pp)++wo [t]:=by rw [<-bP,Rt]
    by_cases hb:t.b=0
    ·simp only [ar,hb,decide_true,bL,if_false,cB,UN,true_and,if_true];refine⟨HG (by rw [au]; lia),D8 _ _ ⟨⟨_,_,rfl⟩,l4.put hp,?_⟩⟩;rw [az,eu,aT];have:wo [t]=[t.a]:=by simp [wo,hb]
     rw [this]; rfl
    ·simp only [ar,hb,decide_false,di,if_false,cB];refine D8 _ _ ⟨⟨_,_,rfl⟩,l4,?_⟩;have:wo [t]=[]:=by simp [wo,hb]
     rw [eu,this,cP]; exact UN
   ·rintro τ G4 ⟨⟨a,b,rfl⟩,l4,UN⟩;refine mC _ _ ⟨⟨_,_,rfl⟩,l4,?_⟩;have:(pre++[r]).flatten=pre.flatten++r:=by simp
    rw [this]; exact UN
  ·rintro τ G' ⟨⟨a,b,rfl⟩,l,gp⟩;exact hN _ _ ⟨⟨_,_,rfl⟩,l,gp⟩
 ·rintro _ G' ⟨⟨a,b,rfl⟩,l,gp⟩;simp only [cZ,cM,av,ae,aa];exact iL l hp gp q
theorem pO{G G2:Gp}{d:D}{ds:List D}{R:List D->(Gp->Prop)->Gp->Prop}(h:IsL G d ds)(l:fm G G2)(k:∀ ok:Gp->Prop,(∀ G',fm G G'->ok G')->R ds ok G2):RF d G2 R:=by
 rcases h with rfl | ⟨a,rfl,e⟩
 ·exact k _ fun _ _=>trivial
 ·rw [Kw (l _ _ e)];exact k _ fun G' le=>le _ _ e
end GQ
end K2
end
section
namespace K2
open PySem (Str)
open Enc (enc)
namespace JB
open K2.T
open K2.P (names handOf ib iZ oN KD pairsOf)
open K2.Y (gN pick jO jP bO dh dJ ft)
open K2.GR (AL gE kB)
open K2.GQ (pO wo l0)
noncomputable def eT:lO:=GR.eT
noncomputable def nO:iE :=
 (cZ (cM (iO 1 [] (oR (av 0)) (aL 0) none (ua vK (aw (av 0) aX)))))
theorem rX(ds:List D)(G:Gp)(Q:DK)(h:eT ds G Q fun _ _=>False):nO (fun _ _=>False) (ends Q) (bE 1 ds) G:=GR.rX ds G Q h
noncomputable def gw:lO:=GR.gw
noncomputable def nN:iE :=
 (cC (Jh (jf (a9 (QZ false) (av 1) (av 0))) (bK (a9 hV (a9 tL (av 1) (dC (.int 999))) (dC (.int 1))) (aL 1)))
 (cZ (cM (av 1))))
theorem rW(ds:List D)(G:Gp)(Q:DK)(h:gw ds G Q fun _ _=>False):nN (fun _ _=>False) (ends Q) (bE 2 ds) G:=GR.rW ds G Q h
noncomputable def yK:iE :=
 (cC (bK (bJ eT (aw (av 0) aX)) (aL 4))
 (cC (bK (a9 tL (av 2) (a9 hV (ua ue (aw (a9 ip (av 4) (av 1)) aX)) (dC (.int 1)))) (aL 2))
 (cC (bK (a9 hV (a9 hV (Az (a9 ip (av 4) (av 1)) fA (lN (av 2))) (av 3)) (Az (a9 ip (av 4) (av 1)) (lN (av 2)) fA)) (kz (av 4) (av 1)))
 (cZ (cM (av 4))))))
noncomputable def iY:lO:=fun ds G Q _=>∃ (rs:List (List D)) (i:Nat) (pl:Int) (more:List D),ds=[.dQ (rs.map D.dQ),.int i,.int pl,.dQ more]/\(i < rs.length/\rs.length<=1000/\(∀ r∈rs,r.length<=500)/\more.length<=100)/\∀ (r:List D) (k:Nat),rs[i]?=some r->k<=r.length->(k:Int)=pl % ((r.length:Int)+1)->Q (.dQ ((rs.set i (r.take k++more++r.drop k)).map D.dQ)) G
theorem Js(ds:List D)(G:Gp)(Q:DK)(h:iY ds G Q fun _ _=>False):yK (fun _ _=>False) (ends Q) (bE 5 ds) G:=by
 obtain⟨rs,i,pl,more,rfl,⟨hi,hl,hr,hm⟩,q⟩:=h;unfold yK;simp only [ends,bE,ak,bq,aj,aC,a8,aB,aW,cX,bK,bJ,aw,av,aa,aX,aL,aq,ao,a9,ae,ua,dC,Az,fA,kz,cZ,cM,lb];refine⟨rs,rfl,hl,fun G1 p0 as h1=>?_⟩;obtain⟨r,er⟩:∃ r,rs[i]?=some r:=⟨rs[i],ay hi⟩;have ZT:=hr r (br er);obtain⟨a,ea,ga,ia⟩:=h1.row (i:=i) (r:=r) er;refine HW (IsL.ref h1.gp) ia (R5 (IsL.ref ga) ?_);simp only [dU,jC,gb];refine⟨by lia,?_⟩;have c1:0<=pl % ((r.length:Int)+1):=jU _ (by lia);have c2:pl % ((r.length:Int)+1) < (r.length:Int)+1:=hU _ (by lia);generalize ec:pl % ((r.length:Int)+1)=c at c1 c2;obtain⟨k,rfl⟩:∃ k:Nat,c=(k:Int):=⟨c.toNat,by lia⟩;have hk:k<=r.length:=by lia
 refine HW (IsL.ref h1.gp) ia (Cw (IsL.ref ga) fun p1 f1=>?_);rw [DG _ _ hk];have l1:=fm.new (o:=.lst (r.take k)) f1;refine pD (IsL.ref az) (IsL.dQ) (by rw [eA]; exact Ey (by lia)) fun p2 f2=>?_;have l2:=fm.new (o:=.lst (r.take k++more)) f2;have XG:=l1.trans l2;refine HW (IsL.ref (XG _ _ h1.gp)) ia (Cw (IsL.ref (XG _ _ ga)) fun p3 f3=>?_);rw [vF _ _ hk];have l3:=fm.new (o:=.lst (r.drop k)) f3;refine pD (IsL.ref (l3 _ _ az)) (IsL.ref az) (by simp only [aJ,eA,cJ]; exact Ey (by lia)) fun p4 f4=>?_;have l4:=fm.new (o:=.lst (r.take k++more++r.drop k)) f4;have h4:=h1.ext ((XG.trans l3).trans l4);have hn:∀ o,G1 p4≠some o:=fun o z=>by
  have:=(XG.trans l3) _ _ z;rw [f4] at this; cases this
 have n4:p4∉as:=fun z=>by
  obtain⟨j,hj⟩:=og z;have hjl:j < rs.length:=by rw [<-h1.len]; exact(List.getElem?_eq_some_iff.mp hj).1
  exact hn _ (h1.at' j p4 _ hj (ay hjl))
 have n0:p4≠p0:=fun z=>hn _ (by rw [z]; exact h1.gp);have hf4:G p4=none:=by
  cases e:G p4 with
  | none=>rfl
  | some o=>exact absurd (h1.le _ _ e) (hn o)
 have hj:i < as.length:=(List.getElem?_eq_some_iff.mp ea).1;have h5:=h4.N8 (r':=r.take k++more++r.drop k) hj az n4 hf4 n0;unfold yy;simp only [h4.gp];have ei:Ku (as.map D.ref).length (i:Int)=some i:=by
  unfold Ku;rw [if_pos (by lia),if_pos (by rw [au]; lia)]; simp
 simp only [ei];have es:(as.map D.ref).set i (.ref p4)=(as.set i p4).map D.ref:=by rw [List.map_set]
 rw [es];refine h5.fz ?_;exact q r k er hk ec.symm
theorem CF{α:Type} [DecidableEq α] [Enc α]{G:Gp}{Q:DK}{rows:List (List α)}{i:Nat}{pl:Int}{more:List α}(h:i < rows.length/\rows.length<=1000/\(∀ r∈rows,r.length<=500)/\more.length<=100)
  (q:∀ (r:List α) (k:Nat),rows[i]?=some r->k<=r.length->(k:Int)=pl % ((r.length:Int)+1)->Q (enc (rows.set i (r.take k++more++r.drop k))) G):iY [enc rows,.int i,.int pl,enc more] G Q fun _ _=>False:=by
 refine⟨rows.map fun r=>r.map enc,i,pl,more.map enc,by rw [gE]; rfl,⟨by rw [au]; exact h.1,by rw [au]; exact h.2.1,fun r hr=>?_,by rw [au]; exact h.2.2.2⟩,fun r k hr hk e=>?_⟩
 ·obtain⟨r',Pj,rfl⟩:=List.mem_map.mp hr;rw [au]; exact h.2.2.1 r' Pj
 ·rw [bI] at hr;obtain⟨r',Pj,rfl⟩:=Option.map_eq_some_iff.mp hr;rw [au] at hk e;have:=q r' k Pj hk e;rw [gE,List.map_set,aT,aT,Au,Av] at this;exact this
theorem Dr.two{rows R:Rows}(d:Dr rows){m h:Int}(hm:∀ p∈rows.flatten,p.a≠m)(hh:h=1\/h=-1)(hp:R.flatten.Perm (⟨m,1,h⟩ :: ⟨m,0,h⟩ :: rows.flatten))(AR:rows.flatten.length<=22)(str:R.length<=3):Dr R:=by
 have mem:∀ p,p∈R.flatten↔p=⟨m,1,h⟩\/p=⟨m,0,h⟩\/p∈rows.flatten:=fun p=>by rw [hp.mem_iff,aY,aY]
 refine⟨?_,fun p h1=>?_,fun p h1=>?_,fun p h1=>?_,?_,str⟩
 ·refine(hp.map T3.s).nodup_iff.mpr ?_;rw [ak,ak,aP,aP];have out:∀ w:Int,(⟨m,w⟩:T2)∉rows.flatten.map T3.s:=fun w z=>by
   obtain⟨p,me,e⟩:=List.mem_map.mp z;injection e with e1 _
   exact hm p me e1
  refine⟨fun z=>?_,out 0,d.nd⟩;rcases List.mem_cons.mp z with z | z
  ·injection z with _ z2; cases z2
  ·exact out 1 z
 ·rcases (mem p).mp h1 with rfl | rfl | h1
  ·exact .inr rfl
  ·exact .inl rfl
  ·exact d.way p h1
 ·rcases (mem p).mp h1 with rfl | rfl | h1
  ·exact hh
  ·exact hh
  ·exact d.hand p h1
 ·rcases (mem p).mp h1 with rfl | rfl | h1
  ·exact(mem _).mpr (.inr (.inl rfl))
  ·exact(mem _).mpr (.inl rfl)
  ·exact(mem _).mpr (.inr (.inr (d.Fi p h1)))
 ·rw [hp.length_eq,aj,aj]; lia
theorem Dr.nil{S:Nat}(h:S<=3):Dr (a8 S []):=by
 have e:(a8 S ([]:List T3)).flatten=[]:=by
  rw [List.flatten_eq_nil_iff]; intro l hl; exact(List.mem_replicate.mp hl).2
 refine⟨by rw [e]; exact cR,fun p hp=>?_,fun p hp=>?_,fun p hp=>?_,by rw [e]; simp,by simpa using h⟩ <;> rw [e] at hp <;> cases hp
theorem vn{rows:Rows}{i k:Nat}{r more:List T3}(hr:rows[i]?=some r):(rows.set i (r.take k++more++r.drop k)).flatten.Perm (more++rows.flatten):=by
 refine(PF hr).trans ?_;refine nC ?_ ((RO hr).symm.append_left _);rw [<-bP];refine List.Perm.append_right _ ?_
 conv=>rhs; rw [<-jF k r]
 rw [<-bP];exact List.perm_append_comm.append_right _
noncomputable def aaM(rows:Rows)(ns:List Int):Prop:=∀ p∈rows.flatten,p.a∈ns
noncomputable def fZ:lO:=fun ds G Q _=>∃ (d:D) (cells:List Int) (S:Nat) (sp:Int),ds=[d,.int S,.int sp]/\IsL G d (cells.map D.int)/\(cells.length<=12/\(1<=S/\S<=3)/\1<=sp/\sp<=999) /\
 ∀ rows:Rows,Dr rows->rows.length=S->rows.flatten.length=2 * cells.length->Q (enc rows) G
end JB
end K2
end
section
namespace K2
open PySem (Str)
open Enc (enc)
namespace K33
open K2.Y
noncomputable def lX:iE :=
 (cC (bK nG (aL 3))
 (cC (eQ (ng (av 0)) (aL 4) (bK (a9 Bn (a9 ip (av 0) (av 4)) (av 2)) (kz (av 3) (a9 hV (av 4) (av 1)))))
 (cZ (cM (bJ eZ (aw (cM (av 3)) aX))))))
noncomputable def e7:lO:=fC
theorem qe(ds:List D)(G:Gp)(Q:DK)(h:e7 ds G Q fun _ _=>False):lX (fun _ _=>False) (ends Q) (bE 5 ds) G:=by
 obtain⟨d,l,b,f,rfl,hd,hl,⟨hb,hf⟩,q⟩:=h;unfold lX;simp only [ends,bE,ak,bq,aj,aC,a8,aB,aW,cX,bK,nG,aL,aq,ao];intro p hp;refine fg (fun τ G'=>(∃ u,τ=[some d,some (.int b),some (.int f),some (.ref p),u])/\fm G G'/\G' p=some (.gF (bD (EB b f l)))) ?_ ?_
 ·intro N hN;simp only [eQ,ng,av,aa];refine pN hd.is (.new hp) fun ok cL=>?_;refine dI (xs:=l) (fun pre τ G'=>(∃ u,τ=[some d,some (.int b),some (.int f),some (.ref p),u])/\fm G G'/\G' p=some (.gF (bD (EB b f pre)))) ⟨⟨_,rfl⟩,.new hp,az⟩ (fun pre τ G' h=>cL G' h.2.1) ?_ ?_
  ·rintro pre x post τ G' N2 e ⟨⟨u,rfl⟩,le,gp⟩ mC;have hlen:(EB b f pre).length < SZ:=by
    have:=ft e;unfold EB; rw [au]; lia
   have hm:x∈l:=by rw [e]; simp
   have hx:x.2.natAbs < qB:=fR (xN hm) hb;simp only [aL,bK,a9,av,aq,ao,aa,ae,kz,dU];refine Bo hd.is.p (oU hd.nd hm) ?_;refine⟨⟨hx,hf⟩,?_⟩;refine fN (α:=Int) gp hlen ?_;exact mC _ _ ⟨⟨_,rfl⟩,le.put hp,by rw [az,<-yu b f hd.nd e]⟩
  ·rintro τ G' ⟨⟨u,rfl⟩,le,gp⟩;exact hN _ _ ⟨⟨_,rfl⟩,le,gp⟩
 ·rintro _ G' ⟨⟨u,rfl⟩,le,gp⟩;simp only [cZ,cM,bJ,aw,av,ae,aa,aX];refine iw le hp gp ?_;refine⟨_,EB b f l,rfl,⟨rfl,yv hd.nd b f⟩,by unfold EB; rw [au]; exact hl,fun p2 pP=>?_⟩;exact nR (.new pP) pP az q
end K33
end K2
end
section
namespace K2
open PySem (Str)
open Enc (enc)
namespace JB
open K2.P K2.J
open K2.Y (Po L ND NZ fh gK fC eZ ic bO dJ gN pick jO jP Pl I0)
open K2.GR (gE)
open K2.GQ (wo l0 ik)
variable {rows:Rows}
noncomputable def wr(rows:Rows):Int:=((names rows).map (handOf rows)).sum
theorem Um{T:Po}{b f:Int}(h:f.natAbs<=1):fh (gK T b f)<=fh T:=by
 unfold gK;refine aZ (Y.sx _) ?_;induction T with
 | nil=>exact aH _
 | cons p m ih =>
  rw [ak,fh,fh];have:(p.2 * f).natAbs<=p.2.natAbs:=by
   rw [Int.natAbs_mul];exact aZ (yk _ h) (by lia)
  show (p.2 * f).natAbs+_<=_;lia
theorem BP.moved{T:Po}{f:Fn->Int}(b:BP T f)(U4 c:Int)(hc:c=1\/c=-1):BP (gK T U4 c) (fun g=>c * f (sh U4 g)) :=
 ⟨Y.Bp b.nd _ _,Y.rB _,aZ (Um (by lia)) b.fh,fun g=>by rw [Y.GN,<-b.val]; rfl⟩
theorem BP.big{T:Po}{f:Fn->Int}(b:BP T f):Y.fh T < qB:=lH (aZ b.fh (by decide))
theorem BP.sz{T:Po}{f:Fn->Int}(b:BP T f):T.length<=SZ:=aZ b.len (by decide)
noncomputable def hs(L:List T3):Int:=((L.filter fun p=>p.b == 0).map (·.c)).sum
noncomputable def e7:lO:=fC
noncomputable def lX:iE :=
 (cC (bK nG (aL 3))
 (cC (eQ (ng (av 0)) (aL 4) (bK (a9 Bn (a9 ip (av 0) (av 4)) (av 2)) (kz (av 3) (a9 hV (av 4) (av 1)))))
 (cZ (cM (bJ eZ (aw (cM (av 3)) aX))))))
theorem qe(ds:List D)(G:Gp)(Q:DK)(h:e7 ds G Q fun _ _=>False):lX (fun _ _=>False) (ends Q) (bE 5 ds) G:=K33.qe ds G Q h
noncomputable def OH(L:List T3):List (Int×Int):=(L.filter fun p=>p.b == 0).map fun p=>(p.a,p.c)
theorem xO(d:Dr rows):(nh rows).Perm (OH rows.flatten):=by
 unfold nh names;refine((uC _).map _).trans ?_;rw [bw];unfold OH;have:((rows.flatten.filter fun p=>p.b == 0).map ((fun n=>(n,handOf rows n))∘fun p:T3=>p.a))=(rows.flatten.filter fun p=>p.b == 0).map fun p=>(p.a,p.c):=by
  refine cI fun p hp=>?_;show (p.a,handOf rows p.a)=_;rw [KD d (List.mem_filter.mp hp).1]
 rw [this]
theorem u5{a b:List T3}(h:a.Perm b):(OH a).Perm (OH b):=(h.filter _).map _
theorem CS(rows:Rows):(nh rows).map (·.1)=names rows:=by
 unfold nh;rw [bw];exact jH _
theorem Dm.sub{f:T3->T3}{ns ms:List Int}(d:Dm f ns)(h:ms.Nodup)(hs:∀ m∈ms,m∈ns):Dm f ms:=⟨d.iv,h,fun n hn=>d.dm n (hs n hn)⟩
theorem Kj(c m:Nat)(b:Int)(g:Fn):jz c (sh b (jz m g))=jz (m+c) (sh b g):=by
 rw [tP,<-Kk,<-tP,QF]
end JB
end K2
end
section
set_option maxHeartbeats 1000000
namespace K2
namespace J
section
variable {α:Type} [DecidableEq α]
noncomputable def cj(r f:α->α):α->α:=fun e=>r (f (r e))
theorem Wt{r f:α->α}(hr:Iv r)(x y:α):jn (cj r f) (r x) (r y)=cj r (jn f x y)/\cl (cj r f) (r x) (r y)=cl f x y:=by
 have inj:∀ {a b:α},r a=r b->a=b:=fun {a b} h=>by rw [<-hr a,h,hr]
 have sw:∀ {a b:α},a=r b↔r a=b:=fun {a b}=>⟨fun h=>by rw [h,hr],fun h=>by rw [<-h,hr]⟩;refine⟨?_,?_⟩
 ·funext e;show (if e=r x\/e=r y then e else if e=r (f (r (r x))) then r (f (r (r y))) else if e=r (f (r (r y))) then r (f (r (r x))) else r (f (r e)))=r (if r e=x\/r e=y then r e else if r e=f x then f y else if r e=f y then f x else f (r e));rw [hr,hr];by_cases c1:r e=x\/r e=y
  ·rw [if_pos (c1.imp sw.mpr sw.mpr),if_pos c1,hr]
  ·rw [if_neg (fun z=>c1 (z.imp sw.mp sw.mp)),if_neg c1];by_cases c2:r e=f x
   ·rw [if_pos (sw.mpr c2),if_pos c2]
   ·rw [if_neg (fun z=>c2 (sw.mp z)),if_neg c2];by_cases c3:r e=f y
    ·rw [if_pos (sw.mpr c3),if_pos c3]
    ·rw [if_neg (fun z=>c3 (sw.mp z)),if_neg c3]
 ·show (if r (f (r (r x)))=r y then 1 else 0)=if f x=y then 1 else 0
  rw [hr];by_cases c:f x=y
  ·rw [if_pos c,if_pos (by rw [c])]
  ·rw [if_neg c,if_neg (fun z=>c (inj z))]
theorem O3{r:α->α}(hr:Iv r):∀ (ps:Pr α) (f:α->α),iV (cj r f) (ps.map fun p=>(r p.1,r p.2))=cj r (iV f ps)/\cls (cj r f) (ps.map fun p=>(r p.1,r p.2))=cls f ps
 | [],f=>⟨rfl,rfl⟩
 | p :: ps,f=>by
  obtain⟨a,b⟩:=Wt (f:=f) hr p.1 p.2;obtain⟨c,d⟩:=O3 hr ps (jn f p.1 p.2);rw [ak,iV,cls,iV,cls];show iV (jn (cj r f) (r p.1) (r p.2)) _=_/\cl (cj r f) (r p.1) (r p.2)+cls (jn (cj r f) (r p.1) (r p.2)) _=_;rw [a,b,c,d];exact⟨rfl,rfl⟩
end
theorem RD{f:T3->T3}:∀ {ps:Pr T3},Ok f ps->∀ {e:T3},(e∈es ps\/f e=e)->iV f ps e=e:=by
 intro ps;induction ps generalizing f with
 | nil =>
  intro o e h;rcases h with h | h
  ·cases h
  ·exact h
 | cons p ps ih =>
  intro o e h;refine ih o.tl ?_;by_cases c:e∈es ps
  ·exact .inl c
  ·right;rw [es,aY,aY] at h;have h1:=o.iv p.1;have h2:=o.iv p.2;rcases h with (rfl | rfl | h) | h
   ·exact Wr
   ·exact Wq
   ·exact absurd h c
   ·unfold jn
    grind
end J
end K2
end
section
namespace K2
open Enc (enc)
namespace JD
open K2.P K2.J K2.JB
section
variable {nm:Nat->Int} (inj:∀ i j,i < 12->j < 12->vv nm i=vv nm j->i=j)
include inj
omit inj in
end
theorem HX{r:T3->T3}(hr:Iv r):∀ (P:Pr T3),pt (P.map fun p=>(r p.1,r p.2))=cj r (pt P)
 | []=>by
  funext e;show e=r (r e);rw [hr]
 | p :: P=>by
  funext e;have sw:∀ {a b:T3},a=r b↔r a=b:=fun {a b}=>⟨fun h=>by rw [h,hr],fun h=>by rw [<-h,hr]⟩;show (if e=r p.1 then r p.2 else if e=r p.2 then r p.1 else pt (P.map fun p=>(r p.1,r p.2)) e)=r (if r e=p.1 then p.2 else if r e=p.2 then p.1 else pt P (r e));rw [HX hr P];by_cases c1:r e=p.1
  ·rw [if_pos (sw.mpr c1),if_pos c1]
  ·rw [if_neg (fun z=>c1 (sw.mp z)),if_neg c1];by_cases c2:r e=p.2
   ·rw [if_pos (sw.mpr c2),if_pos c2]
   ·rw [if_neg (fun z=>c2 (sw.mp z)),if_neg c2]; rfl
noncomputable def d0:T3:=⟨0,0,0⟩
noncomputable def S1(x:List T3):T3:=x.head?.getD d0
noncomputable def AK(x:List T3):T3:=x.getLast?.getD d0
theorem ml:∀ {x y:List T3},x≠[]->y≠[]->gQ (x++y)=gQ x++(AK x,S1 y) :: gQ y
 | [],_,h,_=>absurd rfl h
 | [a],b :: l,_,_=>rfl
 | [_],[],_,h=>absurd rfl h
 | a :: b :: l,y,_,hy=>by
  have ih:=ml (x:=b :: l) (y:=y) (by simp) hy;rw [aB] at ih;rw [aB,aB,rT,ih,rT,aB];have:AK (a :: b :: l)=AK (b :: l):=by unfold AK; rw [List.getLast?_cons_cons]
  rw [this]
theorem DQ{α β:Type}(f:α->β):∀ l:List α,gQ (l.map f)=(gQ l).map fun p=>(f p.1,f p.2)
 | []=>rfl
 | [_]=>rfl
 | a :: b :: l=>by
  show (f a,f b) :: gQ ((b :: l).map f)=_;rw [DQ f (b :: l)]; rfl
theorem K3{α β:Type}(f:α->β)(l:List α):ub (l.map f)=(ub l).map fun p=>(f p.1,f p.2):=by
 cases l with
 | nil=>rfl
 | cons a l =>
  show gQ (f a :: l.map f++[f a])=(gQ (a :: l++[a])).map _;rw [<-DQ f (a :: l++[a])];congr 1;simp
noncomputable def Uc(o:Bool)(p q:T3):List T3:=if o then [p,q] else [q,p]
noncomputable def YO(a b c h0 h1 h2:Int)(o m u:Bool):List (List T3):=[Uc o ⟨a,0,h0⟩ ⟨b,0,h1⟩,Uc m ⟨a,1,h0⟩ ⟨c,0,h2⟩,Uc u ⟨b,1,h1⟩ ⟨c,1,h2⟩]
end JD
end K2
end
section
namespace K2
open Enc (enc)
namespace JE
open K2.P K2.J K2.JB
open K2.JD (ml S1 AK DQ K3 HX)
theorem yq(p:T3×T3)(B:List (T3×T3)):oB (p :: B)=(eO p.1.s,eI p.2.s) :: oB B:=rfl
theorem Eu{A B:List (T3×T3)}(h:A.Perm B):(oB A).Perm (oB B):=h.map _
theorem uX{A B:List (T3×T3)}(h:A.Perm B)(nd:(es (oB A)).Nodup):pt (oB A)=pt (oB B):=Q3 (Eu h) nd
theorem xc{A B:List (T3×T3)}(h:A.Perm B)(nd:(es (oB A)).Nodup):(es (oB B)).Nodup:=(pR (Eu h)).nodup_iff.mp nd
theorem tN{p n:T3}{U:List T3}{R:List (T3×T3)}(nd:(es (oB (gQ (p :: U++[n])++R))).Nodup) :
  jn (pt (oB (gQ (p :: U++[n])++R))) (eI n.s) (eO p.s)=pt (oB (ub U++R))/\cl (pt (oB (gQ (p :: U++[n])++R))) (eI n.s) (eO p.s)=if U.isEmpty=true then 1 else 0:=by
 cases U with
 | nil=>exact Q4 (y:=eO p.s) (x:=eI n.s) (R:=oB R) nd
 | cons u U =>
  have e1:gQ (p :: (u :: U)++[n])=(p,u) :: (gQ (u :: U)++[(AK (u :: U),n)]):=by
   show (p,u) :: gQ ((u :: U)++[n])=_;rw [ml (by simp) (by simp)]; rfl
  have e2:ub (u :: U)=gQ (u :: U)++[(AK (u :: U),u)]:=by
   show gQ ((u :: U)++[u])=_;rw [ml (by simp) (by simp)]; rfl
  have p1:(gQ (p :: (u :: U)++[n])++R).Perm ((p,u) :: (AK (u :: U),n) :: (gQ (u :: U)++R)):=by
   rw [e1];refine jT _ ?_;exact(List.perm_append_comm.append_right _)
  have p2:(ub (u :: U)++R).Perm ((AK (u :: U),u) :: (gQ (u :: U)++R)):=by
   rw [e2];exact(List.perm_append_comm.append_right _)
  have Nc:=xc p1 nd;rw [uX p1 nd];obtain⟨z1,z2⟩:=Oh (y:=eO p.s) (b:=eI u.s) (a:=eO (AK (u :: U)).s) (x:=eI n.s) (R:=oB (gQ (u :: U)++R)) Nc;have Nb:(es (oB ((AK (u :: U),u) :: (gQ (u :: U)++R)))).Nodup:=by
   have:=Nc;simp only [yq,es,aP,aY,not_or] at this ⊢;exact⟨⟨fun z=>this.2.1.1 z.symm,this.2.2.1.2⟩,this.2.1.2.2,this.2.2.2.2⟩
  refine⟨z1.trans ?_,z2⟩;exact uX p2.symm Nb
theorem QO{p q:T3}{U V:List T3}{R:List (T3×T3)}(nd:(es (oB (gQ (p :: U++[p])++(gQ (q :: V++[q])++R)))).Nodup) :
  jn (pt (oB (gQ (p :: U++[p])++(gQ (q :: V++[q])++R)))) (eI p.s) (eO q.s)=pt (oB (gQ (p :: (U++V)++[q])++R))/\cl (pt (oB (gQ (p :: U++[p])++(gQ (q :: V++[q])++R)))) (eI p.s) (eO q.s)=0
  /\ (es (oB (gQ (p :: (U++V)++[q])++R))).Nodup:=by
 have e1:gQ (p :: U++[p])=gQ (p :: U)++[(AK (p :: U),p)]:=by rw [ml (by simp) (by simp)]; rfl
 have e2:gQ (q :: V++[q])=(q,S1 (V++[q])) :: gQ (V++[q]):=by
  have:=ml (x:=[q]) (y:=V++[q]) (by simp) (by simp);exact this
 have e3:gQ (p :: (U++V)++[q])=gQ (p :: U)++(AK (p :: U),S1 (V++[q])) :: gQ (V++[q]):=by
  have:=ml (x:=p :: U) (y:=V++[q]) (by simp) (by simp);rw [<-this]; simp
 have p1:(gQ (p :: U++[p])++(gQ (q :: V++[q])++R)).Perm ((q,S1 (V++[q])) :: (AK (p :: U),p) :: (gQ (p :: U)++(gQ (V++[q])++R))):=by
  rw [e1,e2];refine(List.perm_append_comm.append_right _).trans ?_;refine nC ?_ (ff _ _ _);rw [bP];refine jT _ ?_;exact List.perm_middle
 have p2:(gQ (p :: (U++V)++[q])++R).Perm ((AK (p :: U),S1 (V++[q])) :: (gQ (p :: U)++(gQ (V++[q])++R))):=by
  rw [e3,bP];exact List.perm_middle
 have Nc:=xc p1 nd;rw [uX p1 nd];obtain⟨z1,z2⟩:=Oh (y:=eO q.s) (b:=eI (S1 (V++[q])).s) (a:=eO (AK (p :: U)).s) (x:=eI p.s) (R:=oB (gQ (p :: U)++(gQ (V++[q])++R))) Nc;have Nb:(es (oB ((AK (p :: U),S1 (V++[q])) :: (gQ (p :: U)++(gQ (V++[q])++R))))).Nodup:=by
  have:=Nc;simp only [yq,es,aP,aY,not_or] at this ⊢;exact⟨⟨fun z=>this.2.1.1 z.symm,this.2.2.1.2⟩,this.2.1.2.2,this.2.2.2.2⟩
 refine⟨z1.trans (uX p2.symm Nb),z2,xc p2.symm Nb⟩
theorem MK{h X:Int}{U V:List T3}{R:List (T3×T3)}{rows:Rows}(nd:(es (JS rows)).Nodup)(hp:(pairsOf rows).Perm (ub (⟨X,0,h⟩ :: U)++(ub (⟨X,1,h⟩ :: V)++R))) :
  iV (fr rows) (js X false)=pt (oB (ub (U++V)++R))/\cls (fr rows) (js X false)=if (U++V).isEmpty=true then 1 else 0:=by
 have Nc:=xc hp nd;have ef:fr rows=pt (oB (ub (⟨X,0,h⟩ :: U)++(ub (⟨X,1,h⟩ :: V)++R))):=uX hp nd;obtain⟨a1,a2,a3⟩:=QO (p:=⟨X,0,h⟩) (q:=⟨X,1,h⟩) (U:=U) (V:=V) (R:=R) Nc;obtain⟨b1,b2⟩:=tN (p:=⟨X,0,h⟩) (n:=⟨X,1,h⟩) (U:=U++V) (R:=R) a3;have c1:jn (fr rows) ⟨X,0,0⟩ ⟨X,1,1⟩=pt (oB (gQ (⟨X,0,h⟩ :: (U++V)++[⟨X,1,h⟩])++R)):=by rw [ef]; exact a1
 have c2:cl (fr rows) ⟨X,0,0⟩ ⟨X,1,1⟩=0:=by rw [ef]; exact a2
 refine⟨?_,?_⟩
 ·show jn (jn (fr rows) ⟨X,0,0⟩ ⟨X,1,1⟩) ⟨X,1,0⟩ ⟨X,0,1⟩=_;rw [c1]; exact b1
 ·show cl (fr rows) ⟨X,0,0⟩ ⟨X,1,1⟩+(cl (jn (fr rows) ⟨X,0,0⟩ ⟨X,1,1⟩) ⟨X,1,0⟩ ⟨X,0,1⟩+0)=_;rw [c2,c1,DZ,v3]; exact b2
theorem ML{h X:Int}{U V:List T3}{R:List (T3×T3)}{rows:Rows}(nd:(es (JS rows)).Nodup)(hp:(pairsOf rows).Perm (ub (⟨X,0,h⟩ :: U++⟨X,1,h⟩ :: V)++R)) :
  iV (fr rows) (js X false)=pt (oB (ub U++(ub V++R)))/\cls (fr rows) (js X false)=(if U.isEmpty=true then 1 else 0)+(if V.isEmpty=true then 1 else 0):=by
 have e0:ub ((⟨X,0,h⟩:T3) :: U++⟨X,1,h⟩ :: V)=gQ (⟨X,0,h⟩ :: U++[⟨X,1,h⟩])++gQ (⟨X,1,h⟩ :: V++[⟨X,0,h⟩]):=by
  show gQ ((⟨X,0,h⟩ :: U++⟨X,1,h⟩ :: V)++[⟨X,0,h⟩])=_;rw [bP];exact xY _ _ _
 have p1:(pairsOf rows).Perm (gQ (⟨X,1,h⟩ :: V++[⟨X,0,h⟩])++(gQ (⟨X,0,h⟩ :: U++[⟨X,1,h⟩])++R)):=by
  refine hp.trans ?_;rw [e0,<-bP];exact List.perm_append_comm.append_right _
 have Nc:=xc p1 nd;have ef:fr rows=pt (oB (gQ (⟨X,1,h⟩ :: V++[⟨X,0,h⟩])++(gQ (⟨X,0,h⟩ :: U++[⟨X,1,h⟩])++R))):=uX p1 nd;obtain⟨a1,a2⟩:=tN (p:=⟨X,1,h⟩) (n:=⟨X,0,h⟩) (U:=V) (R:=gQ (⟨X,0,h⟩ :: U++[⟨X,1,h⟩])++R) Nc;have Nb:(es (oB (ub V++(gQ (⟨X,0,h⟩ :: U++[⟨X,1,h⟩])++R)))).Nodup:=by
  have su:∀ {V:List T3} {p n:T3} {R:List (T3×T3)},(es (oB (gQ (p :: V++[n])++R))).Nodup->(es (oB (ub V++R))).Nodup:=by
   intro V p n R nd;cases V with
   | nil=>exact(List.nodup_cons.mp (List.nodup_cons.mp nd).2).2
   | cons u U =>
    have e1:gQ (p :: (u :: U)++[n])=(p,u) :: (gQ (u :: U)++[(AK (u :: U),n)]):=by
     show (p,u) :: gQ ((u :: U)++[n])=_;rw [ml (by simp) (by simp)]; rfl
    have e2:ub (u :: U)=gQ (u :: U)++[(AK (u :: U),u)]:=by
     show gQ ((u :: U)++[u])=_;rw [ml (by simp) (by simp)]; rfl
    have p1:(gQ (p :: (u :: U)++[n])++R).Perm ((p,u) :: (AK (u :: U),n) :: (gQ (u :: U)++R)):=by
     rw [e1];refine jT _ ?_;exact(List.perm_append_comm.append_right _)
    have p2:(ub (u :: U)++R).Perm ((AK (u :: U),u) :: (gQ (u :: U)++R)):=by
     rw [e2];exact(List.perm_append_comm.append_right _)
    refine xc p2.symm ?_;have:=xc p1 nd;simp only [yq,es,aP,aY,not_or] at this ⊢;exact⟨⟨fun z=>this.2.1.1 z.symm,this.2.2.1.2⟩,this.2.1.2.2,this.2.2.2.2⟩
  exact su Nc
 have p2:(ub V++(gQ ((⟨X,0,h⟩:T3) :: U++[(⟨X,1,h⟩:T3)])++R)).Perm (gQ ((⟨X,0,h⟩:T3) :: U++[(⟨X,1,h⟩:T3)])++(ub V++R)):=by
  rw [<-bP,<-bP];exact List.perm_append_comm.append_right _
 obtain⟨b1,b2⟩:=tN (p:=⟨X,0,h⟩) (n:=⟨X,1,h⟩) (U:=U) (R:=ub V++R) (xc p2 Nb);rw [<-uX p2 Nb] at b1 b2;have c1:jn (fr rows) ⟨X,0,0⟩ ⟨X,1,1⟩=pt (oB (ub V++(gQ (⟨X,0,h⟩ :: U++[⟨X,1,h⟩])++R))):=by rw [ef]; exact a1
 have c2:cl (fr rows) ⟨X,0,0⟩ ⟨X,1,1⟩=if V.isEmpty=true then 1 else 0:=by rw [ef]; exact a2
 refine⟨?_,?_⟩
 ·show jn (jn (fr rows) ⟨X,0,0⟩ ⟨X,1,1⟩) ⟨X,1,0⟩ ⟨X,0,1⟩=_;rw [c1]; exact b1
 ·show cl (fr rows) ⟨X,0,0⟩ ⟨X,1,1⟩+(cl (jn (fr rows) ⟨X,0,0⟩ ⟨X,1,1⟩) ⟨X,1,0⟩ ⟨X,0,1⟩+0)=_;rw [c2,c1,v3,QF];exact congrArg (· + _) b2
noncomputable def rx(X:Int)(e:T3):T3:=if e.a=X then ⟨X,1 - e.b,e.c⟩ else e
theorem NY(X:Int):Iv (rx X):=fun e=>by
 by_cases c:e.a=X
 ·have e1:rx X e=⟨X,1 - e.b,e.c⟩:=by unfold rx; rw [if_pos c]
  rw [e1];unfold rx;rw [if_pos rfl];show (⟨X,1 - (1 - e.b),e.c⟩:T3)=e;rw [<-c];rw [show 1 - (1 - e.b)=e.b by lia]
 ·have e1:rx X e=e:=by unfold rx; rw [if_neg c]
  rw [e1,e1]
theorem YB(X:Int)(e:T3):(rx X e).a=e.a:=by
 unfold rx;split
 ·rename_i c; exact c.symm
 ·rfl
theorem Uw{X:Int}{f:T3->T3}(w:Bool)(ok:Ok f (js X w))(ok':Ok (cj (rx X) f) (js X w))(hf:∀ e:T3,e.a=X->e∈kJ X\/f e=e):iV (cj (rx X) f) (js X w)=iV f (js X w)/\cls (cj (rx X) f) (js X w)=cls f (js X w):=by
 have sm:Sm (js X w) ((js X w).map fun p=>(rx X p.1,rx X p.2)):=by
  have r0:∀ b c,rx X ⟨X,b,c⟩=⟨X,1 - b,c⟩:=fun b c=>by unfold rx; rw [if_pos rfl]
  cases w with
  | false =>
   have:((js X false).map fun p=>(rx X p.1,rx X p.2))=[(⟨X,1,0⟩,⟨X,0,1⟩),(⟨X,0,0⟩,⟨X,1,1⟩)]:=by
    show [(rx X ⟨X,0,0⟩,rx X ⟨X,1,1⟩),(rx X ⟨X,1,0⟩,rx X ⟨X,0,1⟩)]=_;simp only [r0]; rfl
   rw [this];exact Sm.perm (ff _ _ _)
  | true =>
   have:((js X true).map fun p=>(rx X p.1,rx X p.2))=[(⟨X,1,0⟩,⟨X,0,0⟩),(⟨X,1,1⟩,⟨X,0,1⟩)]:=by
    show [(rx X ⟨X,0,0⟩,rx X ⟨X,1,0⟩),(rx X ⟨X,0,1⟩,rx X ⟨X,1,1⟩)]=_;simp only [r0]; rfl
   rw [this];exact(Sm.turn _ _ _).trans (Sm.cons _ (Sm.turn _ _ _))
 obtain⟨s1,s2⟩:=sm.2 _ ok';obtain⟨t1,t2⟩:=O3 (NY X) (js X w) f;rw [s1,s2,t1,t2];refine⟨?_,rfl⟩;have iv:=Iz ok;funext e;unfold cj;have UT:∀ x:T3,x.a=X->iV f (js X w) x=x:=fun x h1=>by
  refine RD ok ?_;rcases hf x h1 with z | z
  ·exact .inl ((jQ X w).mem_iff.mpr z)
  ·exact .inr z
 by_cases c:e.a=X
 ·rw [UT (rx X e) (by rw [YB]; exact c),NY X e,UT e c]
 ·have e1:∀ y:T3,y.a≠X->rx X y=y:=fun y hy=>by unfold rx; rw [if_neg hy]
  rw [e1 e c];refine e1 _ fun z=>?_;have:=UT _ z;rw [iv e] at this;rw [<-this] at z;exact c z
noncomputable def ex(X:Int)(p:T3):T3:=if p.a=X then ⟨X,1 - p.b,-p.c⟩ else p
noncomputable def xk(X:Int)(rows:Rows):Rows:=rows.map fun r=>r.map (ex X)
theorem KS(X:Int)(p:T3):eO (ex X p).s=rx X (eO p.s)/\eI (ex X p).s=rx X (eI p.s):=by
 unfold ex;split
 ·rename_i c;subst c;refine⟨?_,?_⟩
  ·show (⟨p.a,1 - p.b,1⟩:T3)=rx p.a ⟨p.a,p.b,1⟩;unfold rx; rw [if_pos rfl]
  ·show (⟨p.a,1 - p.b,0⟩:T3)=rx p.a ⟨p.a,p.b,0⟩;unfold rx; rw [if_pos rfl]
 ·rename_i c;have:∀ i,rx X ⟨p.a,p.b,i⟩=⟨p.a,p.b,i⟩:=fun i=>by unfold rx; rw [if_neg c]
  exact⟨(this 1).symm,(this 0).symm⟩
theorem VI(X:Int)(rows:Rows):JS (xk X rows)=(JS rows).map fun p=>(rx X p.1,rx X p.2):=by
 have e:pairsOf (xk X rows)=(pairsOf rows).map fun p=>(ex X p.1,ex X p.2):=by
  rw [iG,iG];unfold xk;induction rows with
  | nil=>rfl
  | cons r rows ih=>rw [ak,cw,ih,cw,aT,K3]
 unfold JS oB;rw [e,bw,bw];refine cI fun p _=>?_;show (eO (ex X p.1).s,eI (ex X p.2).s)=(rx X (eO p.1.s),rx X (eI p.2.s));rw [(KS X p.1).1,(KS X p.2).2]
theorem S4(X:Int)(rows:Rows):fr (xk X rows)=cj (rx X) (fr rows):=by
 unfold fr;rw [VI];exact HX (NY X) _
theorem Wn(X:Int)(rows:Rows):lo (xk X rows)=lo rows:=by
 unfold lo xk;rw [List.filter_map,au];congr 2;funext r;cases r <;> rfl
theorem KN(X:Int)(rows:Rows):(xk X rows).flatten=rows.flatten.map (ex X):=by
 unfold xk;rw [List.map_flatten]
theorem Dr.perm{rows R:Rows}(d:Dr rows)(h:R.flatten.Perm rows.flatten)(str:R.length<=3):Dr R :=
 ⟨(h.map _).nodup_iff.mpr d.nd,fun p hp=>d.way p (h.mem_iff.mp hp),fun p hp=>d.hand p (h.mem_iff.mp hp),fun p hp=>h.mem_iff.mpr (d.Fi p (h.mem_iff.mp hp)),by rw [h.length_eq]; exact d.AR,str⟩
theorem EA{R:Rows}{X h:Int}{L:List T3}(d:Dr R)(hp:R.flatten.Perm (⟨X,1,h⟩ :: ⟨X,0,h⟩ :: L))(g:Fn) :
  brk R g=Br (iV (fr R) (js X false)) (OH L) (jz (lo R+cls (fr R) (js X false)) (sh h g))+Br (iV (fr R) (js X true)) (OH L) (jz (lo R+cls (fr R) (js X true)) (sh (-h) g)):=by
 have pn:(nh R).Perm ((X,h) :: OH L):=(xO d).trans (u5 hp);unfold brk;rw [Lf pn (by rw [CS]; exact KL d)];show Br _ _ (jz _ (sh h (jz _ g)))+Br _ _ (jz _ (sh (-h) (jz _ g)))=_;rw [Kj,Kj]
theorem VM{rows R T:Rows}{X h:Int}(d:Dr rows)(hX:∀ p∈rows.flatten,p.a≠X)(hh:h=1\/h=-1)(AR:rows.flatten.length<=22)(str:R.length<=3)
  (hp:R.flatten.Perm (⟨X,1,h⟩ :: ⟨X,0,h⟩ :: rows.flatten)) (tp:T.flatten.Perm rows.flatten) (ts:T.length<=3)
  (tf:iV (fr R) (js X false)=fr T) (tl:lo T=lo R+cls (fr R) (js X false)) :
  Dr R/\Dr (xk X R)/\Dr T/\(xk X R).flatten.length=rows.flatten.length+2/\∀ g,brk R (sh h g)+-1 * brk (xk X R) (sh (-h) g)=brk T (sh (2 * h) g)+-1 * brk T (sh (-(2 * h)) g):=by
 have dR:Dr R:=Dr.two d hX hh hp AR str;have hL:rows.flatten.map (ex X)=rows.flatten:=by
  conv=>rhs; rw [<-jH rows.flatten]
  refine cI fun p hp=>?_;unfold ex; rw [if_neg (hX p hp)]; rfl
 have e0:∀ b,ex X ⟨X,b,h⟩=⟨X,1 - b,-h⟩:=fun b=>by unfold ex; rw [if_pos rfl]
 have me:(xk X R).flatten.Perm (⟨X,1,-h⟩ :: ⟨X,0,-h⟩ :: rows.flatten):=by
  rw [KN];refine(hp.map _).trans ?_;rw [ak,ak,hL,e0,e0];exact ff _ _ _
 have dE:Dr (xk X R):=Dr.two d hX (by lia) me AR (by unfold xk; rw [au]; exact str);have dT:Dr T:=JE.Dr.perm d tp ts;refine⟨dR,dE,dT,by rw [me.length_eq]; rfl,fun g=>?_⟩;have nX:X∈names R:=by
  have:=((xO dR).trans (u5 hp)).map (·.1);rw [CS] at this;exact this.mem_iff.mpr (by simp [OH])
 have dmX:Dm (fr R) [X]:=Dm.sub (KL dR) (by simp) (by intro m hm; rw [cq] at hm; rw [hm]; exact nX);have nX':X∈names (xk X R):=by
  have:=((xO dE).trans (u5 me)).map (·.1);rw [CS] at this;exact this.mem_iff.mpr (by simp [OH])
 have aaz:Dm (fr (xk X R)) [X]:=Dm.sub (KL dE) (by simp) (by intro m hm; rw [cq] at hm; rw [hm]; exact nX');have hf:∀ e:T3,e.a=X->e∈kJ X\/fr R e=e:=fun e he=>by
  by_cases c:e∈es (JS R)
  ·obtain⟨n,hn,hm⟩:=(Ci dR e).mp c;have:=pV hm;rw [<-he,this]; exact .inl hm
  ·exact .inr (lY c)
 have XY:=fun w=>Uw (X:=X) (f:=fr R) w (dmX.ok w) (by rw [<-S4]; exact aaz.ok w) hf;have tn:∀ G,Br (fr T) (OH rows.flatten) (jz (lo T) G)=brk T G:=fun G=>by
  unfold brk;have pn:(nh T).Perm (OH rows.flatten):=(xO dT).trans (u5 tp);rw [Lf pn (by rw [CS]; exact KL dT)]
 rw [EA dR hp,EA dE me,Wn,S4,(XY false).1,(XY false).2,(XY true).1,(XY true).2,tf,<-tl,tn,tn,Bf,Bf,Bf,Bf];rw [show h+h=2 * h by lia,show -h+-h=-(2 * h) by lia,show -h+h=0 by lia,show - -h+-h=0 by lia];lia
end JE
end K2
end
section
namespace K2
open Enc (enc)
namespace JE
open K2.P K2.J K2.JB
noncomputable def vU(R:Rows)(i j:Nat):Rows:=((c9 R.length).filter fun k=>decide (k≠i)&&decide (k≠j)).map fun k=>(R[k]?).getD []
theorem EL(R:Rows):R=(c9 R.length).map fun k=>(R[k]?).getD []:=by
 refine List.ext_getElem (by simp) fun n h1 h2=>?_;simp [ay h1]
theorem Rk{R:Rows}{i j:Nat}{r r':List T3}(hi:R[i]?=some r)(hj:R[j]?=some r')(ne:i≠j):R.Perm (r :: r' :: vU R i j):=by
 have li:=(List.getElem?_eq_some_iff.mp hi).1;have lj:=(List.getElem?_eq_some_iff.mp hj).1;have p:(c9 R.length).Perm (i :: j :: (c9 R.length).filter fun k=>decide (k≠i)&&decide (k≠j)):=by
  refine(Hs List.nodup_range ?_).mpr fun a=>?_
  ·rw [aP,aP];refine⟨?_,?_,List.nodup_range.filter _⟩
   ·rw [aY,oV]; rintro(z | ⟨_,z⟩)
    ·exact ne z
    ·simp at z
   ·rw [oV]; rintro⟨_,z⟩; simp at z
  ·rw [aY,aY,oV,List.mem_range];constructor
   ·intro h;by_cases c1:a=i
    ·exact .inl c1
    ·by_cases c2:a=j
     ·exact .inr (.inl c2)
     ·exact .inr (.inr ⟨h,by simp [c1,c2]⟩)
   ·rintro(rfl | rfl | h)
    ·exact li
    ·exact lj
    ·exact h.1
 have:=p.map fun k=>(R[k]?).getD [];rw [<-EL,ak,ak,hi,hj] at this;exact this
theorem Rl{R:Rows}{i:Nat}{r:List T3}(hi:R[i]?=some r):R.Perm (r :: vU R i i):=by
 have li:=(List.getElem?_eq_some_iff.mp hi).1;have p:(c9 R.length).Perm (i :: (c9 R.length).filter fun k=>decide (k≠i)&&decide (k≠i)):=by
  refine(Hs List.nodup_range ?_).mpr fun a=>?_
  ·rw [aP];refine⟨?_,List.nodup_range.filter _⟩;rw [oV]; rintro⟨_,z⟩; simp at z
  ·rw [aY,oV,List.mem_range];constructor
   ·intro h;by_cases c1:a=i
    ·exact .inl c1
    ·exact .inr ⟨h,by simp [c1]⟩
   ·rintro(rfl | h)
    ·exact li
    ·exact h.1
 have:=p.map fun k=>(R[k]?).getD [];rw [<-EL,ak,hi] at this;exact this
noncomputable def roll(r:List T3)(k:Nat):List T3:=r.drop (k+1)++r.take k
theorem uN{r:List T3}{k:Nat}{p:T3}(h:r[k]?=some p):(ub r).Perm (ub (p :: roll r k))/\r.Perm (p :: roll r k):=by
 have lk:=(List.getElem?_eq_some_iff.mp h).1;have e:r=r.take k++p :: r.drop (k+1):=by
  have:=(List.getElem?_eq_some_iff.mp h).2;rw [<-this,Ny,jF]
 have e2:p :: roll r k=(p :: r.drop (k+1))++r.take k:=rfl;rw [e2];refine⟨?_,?_⟩
 ·conv=>lhs; rw [e]
  exact RX _ _
 ·conv=>lhs; rw [e]
  exact jG
theorem xS{A B:Rows}(h:A.Perm B):lo A=lo B:=(h.filter _).length_eq
theorem pF{A B:Rows}(h:A.Perm B):(pairsOf A).Perm (pairsOf B):=by
 rw [iG,iG];exact h.flatMap_right _
theorem sD(r:List T3)(A:Rows):lo (r :: A)=(if r.isEmpty=true then 1 else 0)+lo A:=by
 unfold lo;rw [bS];split
 ·rw [aj,QF]
 ·rw [DZ]
theorem Kh{R T:Rows}{p q:T3}(fp:R.flatten.Perm (p :: q :: T.flatten))(nd:Sh R):Sh T:=by
 have:=(fp.map T3.s).nodup_iff.mp nd;rw [ak,ak,aP,aP] at this;exact this.2.2
theorem Lo{R:Rows}{i j k l:Nat}{r r':List T3}{X h:Int}(nd:Sh R)(hi:R[i]?=some r)(hj:R[j]?=some r')(ne:i≠j)(hk:r[k]?=some ⟨X,0,h⟩)(hl:r'[l]?=some ⟨X,1,h⟩) :
  iV (fr R) (js X false)=fr (vU R i j++[roll r k++roll r' l])/\lo (vU R i j++[roll r k++roll r' l])=lo R+cls (fr R) (js X false)/\R.flatten.Perm (⟨X,1,h⟩ :: ⟨X,0,h⟩ :: (vU R i j++[roll r k++roll r' l]).flatten)/\(vU R i j++[roll r k++roll r' l]).length+1=R.length:=by
 have po:=Rk hi hj ne;obtain⟨c1,q1⟩:=uN hk;obtain⟨c2,q2⟩:=uN hl;have pp:(pairsOf R).Perm (ub (⟨X,0,h⟩ :: roll r k)++(ub (⟨X,1,h⟩ :: roll r' l)++pairsOf (vU R i j))):=by
  refine(pF po).trans ?_;rw [iG,cw,cw,<-iG];exact c1.append (c2.append_right _)
 obtain⟨a1,a2⟩:=MK (CT nd) pp;have pT:(vU R i j++[roll r k++roll r' l]).Perm ((roll r k++roll r' l) :: vU R i j):=List.perm_append_singleton _ _;have nz:r.isEmpty=false/\r'.isEmpty=false:=by
  constructor
  ·cases r with
   | nil=>cases hk
   | cons=>rfl
  ·cases r' with
   | nil=>cases hl
   | cons=>rfl
 have fp:R.flatten.Perm (⟨X,1,h⟩ :: ⟨X,0,h⟩ :: (vU R i j++[roll r k++roll r' l]).flatten):=by
  refine(o9 po).trans ?_;refine nC ?_ (((o9 pT).symm.cons _).cons _);rw [cW,cW,cW];refine(q1.append (q2.append_right _)).trans ?_;rw [aB,aB];refine(List.perm_middle.cons _).trans ?_;refine(ff _ _ _).trans ?_;rw [bP]
 refine⟨?_,?_,fp,?_⟩
 ·rw [a1];have nT:(es (oB (pairsOf (vU R i j++[roll r k++roll r' l])))).Nodup:=by
   refine CT (rows:=vU R i j++[roll r k++roll r' l]) ?_;exact Kh fp nd
  symm;refine uX ?_ nT;refine(pF pT).trans ?_;rw [iG,cw,<-iG]
 ·rw [a2,xS pT,xS po,sD,sD,sD,nz.1,nz.2];simp only [ar,if_false];lia
 ·rw [pT.length_eq,po.length_eq]; rfl
theorem LS{R:Rows}{i k c:Nat}{r:List T3}{X h:Int}(nd:Sh R)(hi:R[i]?=some r)(hk:r[k]?=some ⟨X,0,h⟩)(hc:(roll r k)[c]?=some ⟨X,1,h⟩) :
  iV (fr R) (js X false)=fr (vU R i i++[(roll r k).take c,(roll r k).drop (c+1)])/\lo (vU R i i++[(roll r k).take c,(roll r k).drop (c+1)])=lo R+cls (fr R) (js X false)/\R.flatten.Perm (⟨X,1,h⟩ :: ⟨X,0,h⟩ :: (vU R i i++[(roll r k).take c,(roll r k).drop (c+1)]).flatten)/\(vU R i i++[(roll r k).take c,(roll r k).drop (c+1)]).length=R.length+1:=by
 have po:=Rl hi;obtain⟨c1,q1⟩:=uN hk;have e:roll r k=(roll r k).take c++⟨X,1,h⟩ :: (roll r k).drop (c+1):=by
  have:=(List.getElem?_eq_some_iff.mp hc).2;rw [<-this,Ny,jF]
 have nz:r.isEmpty=false:=by
  cases r with
  | nil=>cases hk
  | cons=>rfl
 generalize (roll r k).take c=U at e;generalize (roll r k).drop (c+1)=V at e;rw [e] at c1 q1;have pp:(pairsOf R).Perm (ub (⟨X,0,h⟩ :: U++⟨X,1,h⟩ :: V)++pairsOf (vU R i i)):=by
  refine(pF po).trans ?_;rw [iG,cw,<-iG];exact c1.append_right _
 obtain⟨a1,a2⟩:=ML (CT nd) pp;have pT:(vU R i i++[U,V]).Perm (U :: V :: vU R i i):=jG;have fp:R.flatten.Perm (⟨X,1,h⟩ :: ⟨X,0,h⟩ :: (vU R i i++[U,V]).flatten):=by
  refine(o9 po).trans ?_;refine nC ?_ (((o9 pT).symm.cons _).cons _);rw [cW,cW,cW];refine(q1.append_right _).trans ?_;refine nC ?_ (ff _ _ _);rw [aB];refine jT _ ?_;refine(List.perm_middle.append_right _).trans ?_;rw [aB,bP]
 refine⟨?_,?_,fp,?_⟩
 ·rw [a1];symm;refine uX ?_ (CT (rows:=vU R i i++[U,V]) (Kh fp nd));refine(pF pT).trans ?_;rw [iG,cw,cw,<-iG]
 ·rw [a2,xS pT,xS po,sD,sD,sD,nz];simp only [ar,if_false];lia
 ·rw [pT.length_eq,po.length_eq]; rfl
end JE
end K2
end
section
namespace K2
open PySem (Str)
open Enc (enc)
namespace JE
open K2.P K2.J K2.JB
open K2.Y (Po gN pick jO jP bO dh dJ ft)
open K2.GR (AL gE kB)
open K2.GQ (pO wo l0)
noncomputable def Dg(f s:Int):Prop:=0<=f/\f < s
noncomputable def Vd:List Int->List Int->Prop
 | [],[]=>True
 | f :: fs,s :: ss=>Dg f s/\Vd fs ss
 | _,_=>False
noncomputable def prim:List Int:=[10007,10009,10037,10039,10061,10067,10069,10079,10091,10093]
noncomputable def tE:iE :=
 (cC (bK (iT (aw (dC (.int 10007)) (aw (dC (.int 10009)) (aw (dC (.int 10037)) (aw (dC (.int 10039)) (aw (dC (.int 10061)) (aw (dC (.int 10067)) (aw (dC (.int 10069)) (aw (dC (.int 10079)) (aw (dC (.int 10091)) (aw (dC (.int 10093)) aX))))))))))) (aL 2))
 (cC (bK (a9 EY (av 0) (dC (.int 2))) (aL 3))
 (cC (bK (iT aX) (aL 4))
 (cC (eQ (Pe (av 1)) (ka (dZ (aL 5) (dZ (aL 6) jX))) (jx (jf (a9 (CB false) (a9 tL (av 0) (dC (.int 2))) (dC (.int 0)))) (cC (kK (tG Er ma (av 4) (aw (a9 tL (av 3) (av 6)) aX)))
 (bK (a9 EY (av 3) (av 6)) (aL 3))) (kK (tG Er ma (av 4) (aw (bJ dJ (aw (av 0) (aw (a9 ip (av 2) (av 5)) (aw (av 6) aX)))) aX)))))
 (cZ (cM (av 4)))))))
noncomputable def e9:lO:=fun ds G Q _=>∃ (cell:Int) (uG:List Int),ds=[.int cell,enc uG]/\(uG.length<=10/\∀ s∈uG,1<=s/\s<=10000)/\∀ fs:List Int,Vd fs uG->Q (enc fs) G
theorem Dl:∀ {fs ss:List Int} {f s:Int},Vd fs ss->Dg f s->Vd (fs++[f]) (ss++[s])
 | [],[],_,_,_,k=>⟨k,trivial⟩
 | _ :: _,[],_,_,h,_=>h.elim
 | [],_ :: _,_,_,h,_=>h.elim
 | _ :: _,_ :: _,_,_,h,k=>⟨h.1,Dl h.2 k⟩
theorem IS:∀ {fs ss:List Int},Vd fs ss->fs.length=ss.length
 | [],[],_=>rfl
 | _ :: _,[],h=>h.elim
 | [],_ :: _,h=>h.elim
 | _ :: _,_ :: _,h=>by rw [aj,aj,IS h.2]
theorem PO(xs:List Int):nk 0 (xs.map enc)=(xs.zipIdx 0).map fun p=>D.tup [.int (p.2:Int),.int p.1]:=by
 have:∀ (xs:List Int) (k:Nat),nk k (xs.map enc)=(xs.zipIdx k).map fun p=>D.tup [.int (p.2:Int),.int p.1]:=by
  intro xs;induction xs with
  | nil=>intro k; rfl
  | cons x xs ih =>
   intro k;show D.tup [.int (k:Int),.int x] :: nk (k+1) (xs.map enc)=_;rw [ih (k+1)]; rfl
 exact this xs 0
theorem A5(ds:List D)(G:Gp)(Q:DK)(h:e9 ds G Q fun _ _=>False):tE (fun _ _=>False) (ends Q) (bE 7 ds) G:=by
 obtain⟨cell,uG,rfl,⟨hl,hs⟩,q⟩:=h;unfold tE;simp only [↓cX,bK,iT,aw,dC,aX,↓aj,↓aC,aL,a9,av,bE,↓ak,↓bq,a8,↓aB,↓aW,↓aq,↓ao,↓aa,↓oH,ends];refine⟨by decide,fun p2 f2=>⟨by decide,by decide,by decide,fun p4 f4=>?_⟩⟩;have Zk:p2≠p4:=fun z=>by rw [<-z,az] at f4; cases f4
 have f4':G p4=none:=(fm.new f2).free f4;refine fg (fun τ G'=>∃ fs:List Int,Vd fs uG/\fm G G'/\G' p4=some (.lst (fs.map enc))/\∃ a3 a5 a6,τ=[some (.int cell),some (enc uG),some (.ref p2),a3,some (.ref p4),a5,a6]) ?_ ?_
 ·intro N hN;simp only [eQ,Pe,av,↓ae,↓aa];refine FF ?_;rw [PO];refine dI (xs:=uG.zipIdx 0) (fun pre τ G'=>∃ (fs:List Int) (left:Int) (a5 a6:Option D),Vd fs (pre.map (·.1))/\fm G G'/\G' p2=some (.lst (prim.map D.int))/\G' p4=some (.lst (fs.map enc))/\τ=[some (.int cell),some (enc uG),some (.ref p2),some (.int left),some (.ref p4),a5,a6])
   ⟨[],_,_,_,trivial,(fm.new f2).trans (.new f4),by rw [cF Zk,az]; rfl,az,rfl⟩ (fun _ _ _ _=>trivial) ?_ ?_
  ·rintro pre x post τ G' N2 e ⟨fs,left,a5,a6,fa,le,g2,g4,rfl⟩ mC;obtain⟨lf,rt,e1,e2,e3⟩:=Cc e;have hx:1<=x.1/\x.1<=10000:=hs x.1 (by rw [e1]; simp);have hlf:lf.length < 10:=by have:=congrArg dH e1; simp at this; lia
   simp only [ka,dZ,aL,jX,jx,↓eP,a9,av,↓aq,↓ao,↓aa,dC,↓jC,↓yA,kK,tG,↓ae,↓nK,aw,aX,↓i4,bK,↓oH,bJ];refine⟨by decide,_,_,.int _,.int _,?_⟩;simp only [↓cB,↓ar,i5,↓if_false];by_cases c:cell % 2=0
   ·have c':(cell % 2 == 0)=true:=by simpa using c
    simp only [c',g4,↓true_and,↓if_true];refine⟨by lia,by rw [au]; exact HG (by have:=IS fa; rw [this,e3,au,List.length_zipIdx]; lia),by lia,by lia,?_⟩;refine mC _ _ ⟨fs++[left % x.1],_,_,_,by rw [aT]; exact Dl fa ⟨jU _ (by lia),hU _ (by lia)⟩,le.put f4',by rw [cF Zk]; exact g2,by rw [az,aT]; rfl,rfl⟩
   ·have c':(cell % 2 == 0)=false:=by simpa using c
    simp only [c',↓ar,g4,↓true_and,↓if_false];rw [CA,g2];have ea:∃ pr:Int,qu (prim.map D.int) (x.2:Int)=some (.int pr)/\1<=pr/\pr<=10093:=by
     have hk:x.2 < prim.length:=by rw [e2]; exact hlf
     refine⟨prim[x.2],?_,?_⟩
     ·rw [qa _ (by lia) (by rw [au]; lia)];simp only [df,i6]
     ·have:∀ y∈prim,1<=y/\y<=10093:=by decide
      exact this _ (fT hk)
    obtain⟨pr,ea,YQ,pr2⟩:=ea;simp only [ea];refine⟨_,_,_,rfl,⟨by lia,by lia⟩,?_⟩;simp only [g4];refine⟨by rw [au]; exact HG (by have:=IS fa; rw [this,e3,au,List.length_zipIdx]; lia),?_⟩;refine mC _ _ ⟨fs++[pick cell pr x.1],_,_,_,by rw [aT]; exact Dl fa ⟨jO _ _ (by lia),jP _ _ (by lia)⟩,le.put f4',by rw [cF Zk]; exact g2,by rw [az,aT]; rfl,rfl⟩
  ·rintro τ G' ⟨fs,left,a5,a6,fa,le,g2,g4,rfl⟩;rw [List.zipIdx_map_fst] at fa;exact hN _ _ ⟨fs,fa,le,g4,_,_,_,rfl⟩
 ·rintro _ G' ⟨fs,fa,le,g4,a3,a5,a6,rfl⟩;simp only [cZ,cM,av,↓ae,↓aa];exact iL le f4' g4 (q fs fa)
section
variable (a b c d e f:D)
theorem x0:qu [a,b,c,d,e,f] 0=some a:=rfl
theorem x1:qu [a,b,c,d,e,f] 1=some b:=rfl
theorem x2:qu [a,b,c,d,e,f] (2+2 * 0)=some c:=rfl
theorem x3:qu [a,b,c,d,e,f] (3+2 * 0)=some d:=rfl
theorem x4:qu [a,b,c,d,e,f] (2+2 * 1)=some e:=rfl
theorem x5:qu [a,b,c,d,e,f] (3+2 * 1)=some f:=rfl
end
noncomputable def qZ:iE :=
 (cC (Gn 3 (bK (iO 1 [] (xj (av 1)) (aL 0) none (iT aX)) (aL 3)))
 (cC (bK (iT aX) (aL 4))
 (cC (eQ (oR (av 0)) (aL 5) (cC (bK (bJ e9 (aw (cM (av 5)) (aw (cM (iT (aw (av 2) (aw (dC (.int 2)) (aw (av 1) (aw (dC (.int 10000)) (aw (av 1) (aw (dC (.int 10000)) aX)))))))) aX))) (aL 6))
 (cC (bK (bJ gw (aw (av 4) (aw (a9 hV (dC (.int 1)) (a9 ip (av 6) (dC (.int 0)))) aX))) (aL 7))
 (cC (kK (tG Er ma (av 4) (aw (av 7) aX)))
 (eQ (xj (dC (.int 2))) (aL 8) (bK (cM (bJ iY (aw (cM (av 3)) (aw (cM (a9 ip (av 6) (a9 hV (dC (.int 2)) (a9 Cy (dC (.int 2)) (av 8))))) (aw (cM (a9 ip (av 6) (a9 hV (dC (.int 3)) (a9 Cy (dC (.int 2)) (av 8))))) (aw (cM (iT (aw (iA (aw (av 7) (aw (av 8) (aw (a9 Oc (dC (.int 1)) (a9 Cy (dC (.int 2)) (a9 ip (av 6) (dC (.int 1))))) aX)))) aX))) aX)))))) (aL 3)))))))
 (cZ (cM (av 3))))))
noncomputable def fZ:lO:=JB.fZ
theorem Aa(ds:List D)(G:Gp)(Q:DK)(h:fZ ds G Q fun _ _=>False):qZ (fun _ _=>False) (ends Q) (bE 9 ds) G:=by
 obtain⟨d,cells,S,sp,rfl,hd,⟨RL,⟨hS1,hS3⟩,sp1,sp2⟩,q⟩:=h;unfold qZ;simp only [ends,bE,ak,bq,aj,aC,a8,aB,aW,qT,kB,bK,iO,aL,aq,ao,ae,aa,iT,aX,k7,av,j4,df];have WA:(-(2 ^ 62):Int)<=(S:Int)/\(S:Int) < 2 ^ 62:=by lia
 refine⟨WA.1,WA.2,Ey (by simp [gJ]; lia),?_⟩;refine RY (fun pre acc τ G'=>(∃ a,τ=[a])/\∃ as:List Nat,acc=as.map D.ref/\AL G G' as (a8 pre.length [])) ⟨⟨_,rfl⟩,[],rfl,.nil G⟩ (fun _ _ _ _ _=>trivial) ?_ ?_
 ·rintro pre x post acc τ G' N e ⟨⟨a,rfl⟩,as,rfl,al⟩ hN;simp only [aL,iT,aX,aC,ao];refine⟨by decide,fun p hp=>hN _ _ _ ⟨⟨_,rfl⟩,as++[p],by simp,?_⟩⟩;rw [aJ,du,List.replicate_succ'];exact al.push hp []
 rintro acc τ G' ⟨⟨a,rfl⟩,as,rfl,al⟩ p3 f3;refine(al.top f3).fz ?_;have e3:D.dQ ((a8 (gJ 0 S).length ([]:List D)).map D.dQ)=enc (a8 S ([]:List T3)):=by
  rw [gE]; simp [gJ]
 rw [e3];clear al f3 p3 as G' a e3;refine⟨by decide,fun p6 f6=>?_⟩;simp only [eQ];simp only [gB,av,aa];refine pO hd (.new f6) fun ok cL=>?_;refine dI (xs:=cells) (f:=D.int) (fun pre τ G'=>fm G G'/\∃ (rows:Rows) (ns:List Int) (a1 a2 a3 a4:Option D),(Dr rows/\rows.length=S/\rows.flatten.length=2 * pre.length/\ns.length=pre.length/\aaM rows ns)/\G' p6=some (.lst (ns.map D.int)) /\
  τ=[some d,some (.int S),some (.int sp),some (enc rows),some (.ref p6),a1,a2,a3,a4]) ⟨.new f6,_,[],_,_,_,_,⟨Dr.nil hS3,by simp,by simp,rfl,fun p hp=>by simp at hp⟩,az,rfl⟩ (fun _ _ _ h=>cL _ h.1) ?_ ?_
 ·rintro pre x post τ G' N2 e ⟨le,rows,ns,a1,a2,a3,a4,⟨dr,hlen,hfl,WS,WE⟩,g6',rfl⟩ mC;have hlp:=ft e;simp only [aL,aq,ao,qT,bK,bJ,aw,cM,av,ae,aa,iT,dC,aX,aj,aC,a9,kK,tG,nK,i4];refine cz ⟨by decide,fun p7 f7=>?_⟩;refine iL (xs:=([sp,2,(S:Int),10000,(S:Int),10000]:List Int)) (.new f7) f7 az ?_;refine⟨_,_,rfl,⟨by simp,fun s hs=>by simp only [aY,ez,or_false] at hs; lia⟩,fun fs fa=>?_⟩
  match fs,fa with
  | [d0,d1,d2,d3,d4,d5],⟨⟨a0,b0⟩,⟨a1',b1⟩,⟨a2',b2⟩,⟨a3',b3⟩,⟨a4',b4⟩,⟨a5',b5⟩,_⟩ =>
  have e6:(enc [d0,d1,d2,d3,d4,d5]:D)=.dQ [.int d0,.int d1,.int d2,.int d3,.int d4,.int d5]:=rfl;rw [e6];simp only [jD,x0,dU];refine⟨.ref p6,ns,_,rfl,IsL.ref g6',⟨by lia,by lia,by lia⟩,fun m m1 m2 m3=>?_⟩;simp only [g6',true_and];refine⟨HG (by rw [au]; lia),?_⟩;have Qw:fm G (eY G' p6 (.lst (ns.map D.int++[.int m]))):=le.put f6;have g62:(eY G' p6 (.lst (ns.map D.int++[.int m]))) p6=some (.lst (ns.map D.int++[.int m])):=az;generalize eY G' p6 (.lst (ns.map D.int++[.int m]))=G2 at Qw g62;have hh:(1 - 2 * d1)=1\/(1 - 2 * d1)=-1:=by lia
  simp only [eQ];simp only [k7,dC,j4];refine⟨by decide,by decide,?_⟩;have er:gJ 0 (Int.toNat 2)=([0,1]:List Int).map D.int:=rfl;rw [er];have rl:=HS dr;have fw:=dr.AR;obtain⟨i,rfl⟩:∃ i:Nat,d2=(i:Int):=⟨d2.toNat,by lia⟩;obtain⟨j,rfl⟩:∃ i:Nat,d4=(i:Int):=⟨d4.toNat,by lia⟩;have hmf:∀ p∈rows.flatten,p.a≠m:=fun p hp z=>m1 (z ▸ WE p hp);refine dI (xs:=([0,1]:List Int)) (f:=D.int) (fun wd τ G3=>G2=G3/\∃ (R:Rows) (b1:Option D),((wd=[]/\R=rows)\/(∃ (i:Nat) (r:List T3) (k:Nat),wd=[0]/\i < S/\rows[i]?=some r/\R=rows.set i (r.take k++[⟨m,0,1 - 2 * d1⟩]++r.drop k))\/(wd=[0,1]/\Dr R/\R.length=S/\R.flatten.Perm (⟨m,1,1 - 2 * d1⟩ :: ⟨m,0,1 - 2 * d1⟩ :: rows.flatten))) /\
   τ=[some d,some (.int S),some (.int sp),some (enc R),some (.ref p6),some (.int x),some (.dQ [.int d0,.int d1,.int i,.int d3,.int j,.int d5]),some (.int m),b1]) ⟨rfl,rows,_,.inl ⟨rfl,rfl⟩,rfl⟩ (fun _ _ _ _=>trivial) ?_ ?_
  ·rintro wd w VZ τ G3 N3 e2 ⟨rfl,R,b1,J,rfl⟩ D8;have U0:(wd=[]/\w=0)\/(wd=[0]/\w=1):=by
    cases wd with
    | nil=>cases e2; exact .inl ⟨rfl,rfl⟩
    | cons u wd =>
     cases wd with
     | nil=>cases e2; exact .inr ⟨rfl,rfl⟩
     | cons v wd =>
      have:=congrArg dH e2;simp at this
   rcases U0 with ⟨rfl,rfl⟩ | ⟨rfl,rfl⟩
   ·have eR:R=rows:=by
     rcases J with ⟨_,z⟩ | ⟨_,_,_,z,_⟩ | ⟨z,_⟩
     ·exact z
     ·cases z
     ·cases z
    subst eR;simp only [aL,bK,cM,bJ,aw,av,aq,ao,ae,aa,a9,dC,iT,iA,aX,aj,aC,jD,x1,mT,oG,dU,x3,x2];refine cz ⟨.inl ⟨by decide,by decide⟩,cz ⟨.inl ⟨by decide,by decide⟩,cz ?_⟩⟩;refine⟨.inl ⟨by decide,by decide⟩,by decide,by decide,fun pa fa=>?_⟩;refine iL (xs:=[(⟨m,0,1 - 2 * d1⟩:T3)]) (.new fa) fa az ?_;refine CF (rows:=R) (more:=[(⟨m,0,1 - 2 * d1⟩:T3)]) ⟨by rw [hlen]; lia,by rw [hlen]; lia,fun r hr=>by have:=rl r hr; lia,by simp⟩ fun r k hr hk ek=>cz ?_;exact D8 _ _ ⟨rfl,_,_,.inr (.inl ⟨i,r,k,rfl,by lia,hr,rfl⟩),rfl⟩
   ·obtain⟨i',r,k,hi,hr,rfl⟩:∃ (i:Nat) (r:List T3) (k:Nat),i < S/\rows[i]?=some r/\R=rows.set i (r.take k++[⟨m,0,1 - 2 * d1⟩]++r.drop k):=by
     rcases J with ⟨z,_⟩ | ⟨i,r,k,_,z⟩ | ⟨z,_⟩
     ·cases z
     ·exact⟨i,r,k,z⟩
     ·cases z
    simp only [aL,bK,cM,bJ,aw,av,aq,ao,ae,aa,a9,dC,iT,iA,aX,aj,aC,jD,x1,mT,oG,dU,x5,x4];refine cz ⟨.inl ⟨by decide,by decide⟩,cz ⟨.inl ⟨by decide,by decide⟩,cz ?_⟩⟩;refine⟨.inl ⟨by decide,by decide⟩,by decide,by decide,fun pa fa=>?_⟩;refine iL (xs:=[(⟨m,1,1 - 2 * d1⟩:T3)]) (.new fa) fa az ?_;refine CF (more:=[(⟨m,1,1 - 2 * d1⟩:T3)]) ⟨by rw [cK,hlen]; lia,by rw [cK,hlen]; lia,fun r2 SU=>?_,by simp⟩ fun r' k' Pj WI ek'=>cz ?_
    ·rcases qD SU with z | z
     ·have:=rl r2 z; lia
     ·have:=rl r (br hr);rw [z,aJ,aJ,du,eA,cJ]; lia
    have pf:=(vn (k:=k') (more:=[⟨m,1,1 - 2 * d1⟩]) Pj).trans ((vn (k:=k) (more:=[⟨m,0,1 - 2 * d1⟩]) hr).append_left _);have dr2:=K2.JB.Dr.two dr hmf hh pf (by lia) (by rw [cK,cK]; lia);exact D8 _ _ ⟨rfl,_,_,.inr (.inr ⟨rfl,dr2,by rw [cK,cK]; exact hlen,pf⟩),rfl⟩
  ·rintro τ G3 ⟨rfl,R,b1,J,rfl⟩;obtain⟨drn,ln,pf⟩:Dr R/\R.length=S/\R.flatten.Perm (⟨m,1,1 - 2 * d1⟩ :: ⟨m,0,1 - 2 * d1⟩ :: rows.flatten):=by
    rcases J with ⟨z,_⟩ | ⟨_,_,_,z,_⟩ | ⟨_,z⟩
    ·cases z
    ·cases z
    ·exact z
   refine mC _ _ ⟨Qw,R,ns++[m],_,_,_,_,⟨drn,ln,by rw [pf.length_eq,aj,aj,aJ,du]; lia,by rw [aJ,aJ,WS]; rfl,fun p hp=>?_⟩,?_,rfl⟩
   ·rcases List.mem_cons.mp (pf.mem_iff.mp hp) with rfl | hp
    ·simp
    ·rcases List.mem_cons.mp hp with rfl | hp
     ·simp
     ·exact oe _ (WE p hp)
   ·rw [g62,aT]; rfl
 ·rintro τ G' ⟨le,rows,ns,a1,a2,a3,a4,⟨dr,hlen,hfl,WS,WE⟩,g6',rfl⟩;simp only [cZ,cM,av,ae,aa];exact xT le (q rows dr hlen hfl)
end JE
end K2
end
section
namespace K2
open PySem (Str)
open Enc (enc)
namespace Ti
open K2.P
variable {rows:Rows}
end Ti
end K2
end
section
namespace K2
open PySem (Str)
open Enc (enc)
namespace Ti
open K2.P
variable {rows:Rows}
noncomputable def z3:T3:=⟨0,0,0⟩
noncomputable def prv(r:List T3)(k:Nat):T3:=if k=0 then r.getD (r.length - 1) z3 else r.getD (k - 1) z3
noncomputable def YQ(r:List T3)(ks:List Nat):List (T3×T3):=ks.map fun k=>(prv r k,r.getD k z3)
noncomputable def YO(rows:Rows):List (T3×T3):=rows.flatMap fun r=>YQ r (c9 r.length)
end Ti
end K2
end
section
namespace K2
open PySem (Str)
open Enc (enc)
namespace GQ
open K2.P K2.T
open K2.Ti (prv YQ YO z3)
open K2.GR (CR Cr kB)
open K2.Y (ft)
variable {rows:Rows}
noncomputable def ks(rows:Rows):List T2:=(YO rows).map fun p=>p.2.s
end GQ
end K2
end
section
namespace K2
open PySem (Str)
open Enc (enc)
namespace GQ
open K2.P K2.T
open K2.GR (CR Cr kB gE eT)
open K2.Y (gN pick jO jP bO dh dJ ft)
variable {rows:Rows}
theorem zi{x:D}{G:Gp}{l:List Int}{n:Int}{Q:DK}(h:IsL G x (l.map D.int))(hn:n∈l)(q:Q (.int ((l.idxOf n:Nat):Int)) G):CV x [.int n] G Q:=by
 refine⟨Hy h,l.map D.int,.int n,l.map D.int,pM h,.int _,HM (α:=Int) _ 7 (by decide) l,?_⟩;have e:(l.map D.int).findIdx? (iN · (.int n))=some (l.idxOf n):=by
  rw [List.findIdx?_map];have:((fun x=>iN x (D.int n))∘D.int)=fun y=>y == n:=by funext y; rfl
  rw [this,List.findIdx?_eq_some_iff_getElem];have hi:=GW hn;exact⟨hi,by simp,fun j hj=>by
   have:=List.not_of_lt_findIdx (p:=(· == n)) (xs:=l) hj;simpa using this⟩
 rw [e];exact q
end GQ
end K2
end
section
namespace K2
open PySem (Str)
open Enc (enc)
namespace JE
open K2.P K2.J K2.JB
open K2.Y (Po gN pick jO jP bO dh dJ ft)
open K2.GR (AL gE kB)
open K2.GQ (pO wo l0)
theorem W5{α:Type} [DecidableEq α] [Enc α]{xs:List α}{i:Nat}{r:α}(h:xs[i]?=some r):qu (xs.map enc) (i:Int)=some (enc r):=by
 have hi:=(List.getElem?_eq_some_iff.mp h).1;rw [qa _ (by lia) (by rw [au]; lia)];simp only [df,i6];have:=(List.getElem?_eq_some_iff.mp h).2;rw [this]
theorem rj{α:Type} [DecidableEq α] [Enc α]{xs:List α}{i:Nat}{r:α}{G:Gp}{Q:DK}(h:xs[i]?=some r)(q:Q (enc r) G):ip (enc xs) (.int i) G Q:=by
 show ip (.dQ (xs.map enc)) (.int i) G Q;rw [jD,W5 h];exact q
theorem DJ{α:Type} [DecidableEq α] [Enc α]{r:List α}{G:Gp}{Q:DK}(q:Q (.int (r.length:Int)) G):ue [enc r] G Q:=by
 show ue [.dQ (r.map enc)] G Q;rw [vL,au]; exact q
theorem Cs(n:Nat):gJ 0 n=(c9 n).map fun k:Nat=>D.int (k:Int):=by
 rw [HV,bw]; rfl
theorem Cq{n:Nat}{pre post:List Nat}{x:Nat}(e:c9 n=pre++x :: post):x=pre.length/\x < n:=by
 have h1:=congrArg (fun l=>l[pre.length]?) e;simp only [cm (aH _),Nat.sub_self,aa] at h1;have hl:pre.length < n:=by have:=congrArg dH e; simp at this; lia
 rw [ay (by rw [jY]; exact hl),lz] at h1;injection h1 with h1
 exact⟨h1.symm,by lia⟩
noncomputable def uU:iE :=
 (cC (eQ (xj (ua ue (aw (av 0) aX))) (aL 3) (eQ (xj (ua ue (aw (a9 ip (av 0) (av 3)) aX))) (aL 4) (jx (DF (jf (a9 (CB false) (a9 ip (a9 ip (a9 ip (av 0) (av 3)) (av 4)) (dC (.int 0))) (av 1))) (jf (a9 (CB false) (a9 ip (a9 ip (a9 ip (av 0) (av 3)) (av 4)) (dC (.int 1))) (av 2)))) (cZ (cM (iA (aw (av 3) (aw (av 4) aX))))) fM)))
 (cZ (cM (iA (aw (dC (.int 0)) (aw (dC (.int 0)) aX))))))
noncomputable def kl:lO:=fun ds G Q _=>∃ (rows:Rows) (n w:Int),ds=[enc rows,.int n,.int w]/\(rows.length<=100/\(∀ r∈rows,r.length<=100)/\∃ p∈rows.flatten,p.a=n/\p.b=w) /\
 ∀ (i k:Nat) (r:List T3) (p:T3),rows[i]?=some r->r[k]?=some p->p.a=n->p.b=w->Q (.tup [.int i,.int k]) G
theorem DW(ds:List D)(G:Gp)(Q:DK)(h:kl ds G Q fun _ _=>False):uU (fun _ _=>False) (ends Q) (bE 5 ds) G:=by
 obtain⟨rows,n,w,rfl,⟨hl,hr,p0,Nf,ha0,hb0⟩,q⟩:=h;unfold uU;refine fg (fun τ G'=>False) ?_ fun _ _ h=>h.elim;intro N hN;simp only [eQ,↓k7,ua,aw,av,bE,↓ak,↓bq,↓aj,↓aC,a8,↓aB,↓aW,↓aa,aX,ends];refine DJ ?_;simp only [↓j4];refine⟨by lia,by lia,?_⟩;rw [df,Cs];refine dI (xs:=c9 rows.length) (f:=fun k:Nat=>D.int (k:Int)) (fun pre τ G'=>G=G'/\(∃ a b,τ=[some (enc rows),some (.int n),some (.int w),a,b])/\∀ i∈pre,∀ r,rows[i]?=some r->∀ p∈r,¬ (p.a=n/\p.b=w)) ⟨rfl,⟨_,_,rfl⟩,fun _ h=>by cases h⟩ (fun _ _ _ _=>trivial) ?_ ?_
 ·rintro pre x post τ _ N2 e ⟨rfl,⟨a,b,rfl⟩,no⟩ mC;obtain⟨ex,hx⟩:=Cq e;obtain⟨r,Qx⟩:∃ r,rows[x]?=some r:=⟨rows[x],ay hx⟩;have ZT:=hr r (br Qx);simp only [aL,eQ,↓k7,ua,aw,a9,av,↓aq,↓ao,↓aa,↓ae,aX];refine rj Qx (DJ ?_);simp only [↓j4];refine⟨by lia,by lia,?_⟩;rw [df,Cs];refine dI (xs:=c9 r.length) (f:=fun k:Nat=>D.int (k:Int)) (fun wd τ G'=>G=G'/\(∃ b,τ=[some (enc rows),some (.int n),some (.int w),some (.int x),b])/\∀ k∈wd,∀ p,r[k]?=some p->¬ (p.a=n/\p.b=w)) ⟨rfl,⟨_,rfl⟩,fun _ h=>by cases h⟩ (fun _ _ _ _=>trivial) ?_ ?_
  ·rintro wd y VZ τ _ N3 e2 ⟨rfl,⟨b,rfl⟩,XC⟩ D8;obtain⟨ey,hy⟩:=Cq e2;obtain⟨p,WB⟩:∃ p,r[y]?=some p:=⟨r[y],ay hy⟩;simp only [aL,jx,DF,↓eP,a9,av,↓aq,↓ao,↓aa,↓ae,dC,cZ,cM,iA,aw,aX,↓aj,↓aC,fM,↓ar,↓if_false];refine rj Qx (rj WB ?_);rw [ot,fF,Nj];refine⟨_,_,.int _,.int _,?_⟩;simp only [↓cB,↓ar,i5,↓if_false];by_cases c1:p.a=n
   ·have U2:(p.a == n)=true:=by simpa using c1
    simp only [U2,↓if_true];refine rj Qx (rj WB ?_);rw [ot,fF,Qz];refine⟨_,_,.int _,.int _,?_⟩;simp only [↓cB,↓ar,i5,↓if_false];by_cases c2:p.b=w
    ·have U1:(p.b == w)=true:=by simpa using c2
     simp only [U1,↓if_true];exact⟨by decide,cz (q x y r p Qx WB c1 c2)⟩
    ·have U1:(p.b == w)=false:=by simpa using c2
     simp only [U1,↓ar,↓if_false];exact D8 _ _ ⟨rfl,⟨_,rfl⟩,fun k hk p' me=>by
      rcases List.mem_append.mp hk with hk | hk
      ·exact XC k hk p' me
      ·rw [cq] at hk; subst hk; rw [WB] at me; injection me with e; subst e; exact fun z=>c2 z.2⟩
   ·have U2:(p.a == n)=false:=by simpa using c1
    simp only [U2,↓ar,↓if_false];exact D8 _ _ ⟨rfl,⟨_,rfl⟩,fun k hk p' me=>by
     rcases List.mem_append.mp hk with hk | hk
     ·exact XC k hk p' me
     ·rw [cq] at hk; subst hk; rw [WB] at me; injection me with e; subst e; exact fun z=>c1 z.1⟩
  ·rintro τ _ ⟨rfl,⟨b,rfl⟩,XC⟩;refine mC _ _ ⟨rfl,⟨_,_,rfl⟩,fun i hi r' Pj p' me=>?_⟩;rcases List.mem_append.mp hi with hi | hi
   ·exact no i hi r' Pj p' me
   ·rw [cq] at hi; subst hi; rw [Qx] at Pj; injection Pj with e; subst e
    obtain⟨k,hk,e⟩:=xE me;exact XC k (List.mem_range.mpr hk) p' (by rw [ay hk,e])
 ·rintro τ _ ⟨rfl,_,no⟩;exfalso;obtain⟨r,XQ,SU⟩:=List.mem_flatten.mp Nf;obtain⟨k,hk,e⟩:=xE XQ;exact no k (List.mem_range.mpr hk) r (by rw [ay hk,e]) p0 SU ⟨ha0,hb0⟩
end JE
end K2
end
section
namespace K2
open PySem (Str)
open Enc (enc)
namespace JE
open K2.P K2.J K2.JB
open K2.Y (Po gN pick jO jP bO dh dJ ft)
open K2.GR (AL gE kB)
open K2.GQ (pO wo l0)
noncomputable def oF:iE :=
 (cC (bK (iT aX) (aL 2))
 (cC (eQ (oR (av 0)) (aL 3) (cC (bK (iT aX) (aL 4))
 (cC (eQ (oR (av 3)) (aL 5) (cC (jx (jf (a9 (CB false) (a9 ip (av 5) (dC (.int 0))) (av 1))) (bK (iA (aw (av 1) (aw (a9 Oc (dC (.int 1)) (a9 ip (av 5) (dC (.int 1)))) (aw (Ni EW (a9 ip (av 5) (dC (.int 2)))) aX)))) (aL 5)) fM)
 (kK (tG Er ma (av 4) (aw (cM (av 5)) aX)))))
 (kK (tG Er ma (av 2) (aw (cM (av 4)) aX))))))
 (cZ (cM (av 2)))))
noncomputable def jb:lO:=fun ds G Q _=>∃ (rows:Rows) (n:Int),ds=[enc rows,.int n]/\(rows.length<=100/\∀ r∈rows,r.length<=500)/\Q (enc (xk n rows)) G
theorem wR(ds:List D)(G:Gp)(Q:DK)(h:jb ds G Q fun _ _=>False):oF (fun _ _=>False) (ends Q) (bE 6 ds) G:=by
 obtain⟨rows,n,rfl,⟨hl,hr⟩,q⟩:=h;unfold oF;simp only [↓cX,bK,iT,aX,↓aC,aL,ends,bE,↓ak,↓bq,↓aj,a8,↓aB,↓aW,↓aq,↓ao];refine⟨by decide,fun p hp=>?_⟩;refine fg (fun τ G'=>(∃ a1 a2 a3,τ=[some (enc rows),some (.int n),some (.ref p),a1,a2,a3])/\fm G G'/\G' p=some (.lst ((xk n rows).map enc))) ?_ ?_
 ·intro N hN;simp only [eQ,↓gB,av,↓aa];refine jR ?_;refine dI (xs:=rows) (fun pre τ G'=>(∃ a1 a2 a3,τ=[some (enc rows),some (.int n),some (.ref p),a1,a2,a3])/\fm G G'/\G' p=some (.lst ((xk n pre).map enc))) ⟨⟨_,_,_,rfl⟩,.new hp,az⟩ (fun _ _ _ _=>trivial) ?_ ?_
  ·rintro pre r post τ G' N2 e ⟨⟨a1,a2,a3,rfl⟩,le,gp⟩ mC;have ZT:=hr r (by rw [e]; simp);have Kz:pre.length < rows.length:=by rw [e]; simp
   simp only [aL,↓cX,bK,iT,aX,↓aC,↓aq,↓ao];refine⟨by decide,fun p2 f2=>?_⟩;have hpp:p≠p2:=by rintro rfl; rw [gp] at f2; cases f2
   refine fg (fun τ G2=>∃ (b1:Option D),τ=[some (enc rows),some (.int n),some (.ref p),some (enc r),some (.ref p2),b1]/\fm G' G2/\G2 p2=some (.lst ((r.map (ex n)).map enc))) ?_ ?_
   ·intro N3 D8;simp only [eQ,↓gB,av,↓ae,↓aa];refine jR ?_;refine dI (xs:=r) (fun pr τ G2=>∃ (b1:Option D),τ=[some (enc rows),some (.int n),some (.ref p),some (enc r),some (.ref p2),b1]/\fm G' G2/\G2 p2=some (.lst ((pr.map (ex n)).map enc))) ⟨_,rfl,.new f2,az⟩ (fun _ _ _ _=>trivial) ?_ ?_
    ·rintro pr x po τ G2 N4 e2 ⟨b1,rfl,Vm,g3⟩ hN4;have adt:pr.length < r.length:=by rw [e2]; simp
     simp only [aL,↓aq,↓ao];refine fg (fun τ G3=>G2=G3/\τ=[some (enc rows),some (.int n),some (.ref p),some (enc r),some (.ref p2),some (enc (ex n x))]) ?_ ?_
     ·intro N5 hN5;simp only [jx,↓eP,a9,av,↓ae,↓aa,dC,bK,iA,aw,Ni,aX,↓aj,↓aC,aL,↓aq,↓ao,fM];rw [ot,fF,Nj];refine⟨_,_,.int _,.int _,?_⟩;simp only [↓cB,↓ar,i5,↓if_false,↓fF];by_cases c:x.a=n
      ·have c':(x.a == n)=true:=by simpa using c
       simp only [c',Qz,↓oG,at2,↓rh,↓if_true];refine⟨by decide,hN5 _ _ ⟨rfl,?_⟩⟩;unfold ex; rw [if_pos c,ot]
      ·have c':(x.a == n)=false:=by simpa using c
       simp only [c',↓ar,↓if_false];refine hN5 _ _ ⟨rfl,?_⟩;unfold ex; rw [if_neg c,ot]
     ·rintro _ _ ⟨rfl,rfl⟩;simp only [kK,tG,av,↓ae,↓aa,↓nK,g3,aw,cM,aX,↓i4,↓true_and];refine cz ?_;simp only [g3];refine⟨HG (by rw [au,au]; lia),?_⟩;refine hN4 _ _ ⟨_,rfl,Vm.put f2,?_⟩;rw [az,aT,aT]; rfl
    ·rintro τ G2 ⟨b1,rfl,Vm,g3⟩;exact D8 _ _ ⟨_,rfl,Vm,g3⟩
   rintro _ G2 ⟨b1,rfl,Vm,g3⟩;simp only [kK,tG,av,↓ae,↓aa,↓nK,Vm _ _ gp,aw,cM,aX,↓i4,↓true_and];refine iL (G:=G') (xs:=r.map (ex n)) Vm f2 g3 ?_;simp only [gp];refine⟨HG (by rw [au]; unfold xk; rw [au]; lia),?_⟩;refine mC _ _ ⟨⟨_,_,_,rfl⟩,le.put hp,?_⟩;rw [az];unfold xk;rw [aT,aT]; rfl
  ·rintro τ G' ⟨⟨a1,a2,a3,rfl⟩,le,gp⟩;exact hN _ _ ⟨⟨_,_,_,rfl⟩,le,gp⟩
 ·rintro _ G' ⟨⟨a1,a2,a3,rfl⟩,le,gp⟩;simp only [cZ,cM,av,↓ae,↓aa];exact iL le hp gp q
end JE
end K2
end
section
namespace K2
open PySem (Str)
open Enc (enc)
namespace JE
open K2.P K2.J K2.JB
open K2.Y (Po gN pick jO jP bO dh dJ ft)
open K2.GR (AL gE kB)
open K2.GQ (pO wo l0 zi)
structure Spl(R:Rows)(X h:Int)(T:Rows):Prop where
 fr:iV (JB.fr R) (js X false)=JB.fr T
 lo:JB.lo T=JB.lo R+cls (JB.fr R) (js X false)
 pm:R.flatten.Perm (⟨X,1,h⟩ :: ⟨X,0,h⟩ :: T.flatten)
 ln:∃ (i j:Nat) (r r':List T3),R[i]?=some r/\(⟨X,0,h⟩:T3)∈r/\R[j]?=some r'/\(⟨X,1,h⟩:T3)∈r'/\((i=j/\T.length=R.length+1)\/(i≠j/\T.length+1=R.length))
theorem EI:∀ {L:List T3},(L.map T3.s).Nodup->∀ {p q:T3},p∈L->q∈L->p.s=q.s->p=q
 | x :: L,nd,p,q,hp,hq,e=>by
  rw [ak,aP] at nd;rcases List.mem_cons.mp hp with e1 | h1
  ·rcases List.mem_cons.mp hq with e2 | h2
   ·rw [e1,e2]
   ·exact absurd (List.mem_map.mpr ⟨q,h2,by rw [<-e,e1]⟩) nd.1
  ·rcases List.mem_cons.mp hq with e2 | h2
   ·exact absurd (List.mem_map.mpr ⟨p,h1,by rw [e,e2]⟩) nd.1
   ·exact EI nd.2 h1 h2 e
theorem OJ{rows:Rows}{i k:Nat}{r:List T3}{p:T3}(hi:rows[i]?=some r)(hk:r[k]?=some p):p∈rows.flatten :=
 List.mem_flatten.mpr ⟨r,br hi,br hk⟩
theorem C9{G:Gp}{R:Nat->Bool}{ds ss:List D}:∀ (xs:List D),DX G R ds ss->DX G R (xs++ds) (xs++ss)
 | [],h=>h
 | x :: xs,h=>.cons (.same x) (C9 xs h)
noncomputable def mS:iE :=
 (cC (bK (bJ kl (aw (av 0) (aw (av 1) (aw (dC (.int 0)) aX)))) (aL 2))
 (cC (bK (bJ kl (aw (av 0) (aw (av 1) (aw (dC (.int 1)) aX)))) (aL 3))
 (cC (Gn 4 (bK (iO 1 [0,2,3] (xj (ua ue (aw (av 0) aX))) (aL 0) (some (DF (jf (a9 (CB true) (av 0) (a9 ip (av 2) (dC (.int 0))))) (jf (a9 (CB true) (av 0) (a9 ip (av 3) (dC (.int 0))))))) (cM (ua vK (aw (a9 ip (av 1) (av 0)) aX)))) (aL 4)))
 (cC (bK (cM (a9 hV (Az (a9 ip (av 0) (a9 ip (av 2) (dC (.int 0)))) (lN (a9 hV (a9 ip (av 2) (dC (.int 1))) (dC (.int 1)))) fA) (Az (a9 ip (av 0) (a9 ip (av 2) (dC (.int 0)))) fA (lN (a9 ip (av 2) (dC (.int 1))))))) (aL 5))
 (cC (jx (jf (a9 (CB true) (a9 ip (av 2) (dC (.int 0))) (a9 ip (av 3) (dC (.int 0))))) (cC (bK (cM (a9 hV (Az (a9 ip (av 0) (a9 ip (av 3) (dC (.int 0)))) (lN (a9 hV (a9 ip (av 3) (dC (.int 1))) (dC (.int 1)))) fA) (Az (a9 ip (av 0) (a9 ip (av 3) (dC (.int 0)))) fA (lN (a9 ip (av 3) (dC (.int 1))))))) (aL 6))
 (cZ (cM (a9 hV (av 4) (iT (aw (a9 hV (av 5) (av 6)) aX)))))) fM)
 (cC (bK (tG Er CV (iO 1 [] (oR (av 5)) (aL 0) none (cM (a9 ip (av 0) (dC (.int 0))))) (aw (av 1) aX)) (aL 7))
 (cZ (cM (a9 hV (av 4) (iT (aw (Az (av 5) fA (lN (av 7))) (aw (Az (av 5) (lN (a9 hV (av 7) (dC (.int 1)))) fA) aX))))))))))))
noncomputable def ij:lO:=fun ds G Q _=>∃ (rows:Rows) (n h:Int),ds=[enc rows,.int n]/\(Sh rows/\(∀ p∈rows.flatten,p.b=0\/p.b=1)/\(⟨n,0,h⟩:T3)∈rows.flatten/\(⟨n,1,h⟩:T3)∈rows.flatten/\rows.length<=100/\∀ r∈rows,r.length<=100)/\∀ T:Rows,Spl rows n h T->Q (enc T) G
theorem ui(ds:List D)(G:Gp)(Q:DK)(h:ij ds G Q fun _ _=>False):mS (fun _ _=>False) (ends Q) (bE 8 ds) G:=by
 obtain⟨rows,n,h,rfl,⟨nd,wy,m0,m1,hl,hr⟩,q⟩:=h;unfold mS;simp only [↓cX,bK,bJ,aw,av,bE,↓ak,↓bq,↓aj,↓aC,a8,↓aB,↓aW,↓aa,↓ae,dC,aX,aL,↓aq,↓ao,ends];refine⟨rows,n,0,rfl,⟨hl,hr,_,m0,rfl,rfl⟩,fun i k r p hi hk ha hb=>?_⟩;have ep:p=⟨n,0,h⟩:=EI nd (OJ hi hk) m0 (by show (⟨p.a,p.b⟩:T2)=⟨n,0⟩; rw [ha,hb]);subst ep;refine⟨rows,n,1,rfl,⟨hl,hr,_,m1,rfl,rfl⟩,fun j l r' p' hj RI ha' RM=>?_⟩;have W3:p'=⟨n,1,h⟩:=EI nd (OJ hj RI) m1 (by show (⟨p'.a,p'.b⟩:T2)=⟨n,1⟩; rw [ha',RM]);subst W3;clear ha hb ha' RM;show cC _ _ _ _ _ _;rw [qT,kB];simp only [bK,iO,↓k7,ua,aw,av,↓aa,aX,aL,↓aq,↓ao,↓ae,↓cX,cM,a9,Az,dC,↓fF,↓lb,fA];refine DJ ?_;simp only [↓j4];refine⟨by lia,by lia,?_⟩;rw [df,Cs];refine⟨Ey (by rw [au,jY]; lia),?_⟩;refine lg (xs:=c9 rows.length) (f:=fun k:Nat=>D.int (k:Int)) (fun pre acc τ G'=>G=G'/\(∃ a,τ=[a,some (enc rows),some (.tup [.int i,.int k]),some (.tup [.int j,.int l])])/\acc=((pre.filter fun k=>decide (k≠i)&&decide (k≠j)).map fun k=>(rows[k]?).getD []).map enc) ⟨rfl,⟨_,rfl⟩,rfl⟩ (fun _ _ _ _ _=>trivial) ?_ ?_
 ·rintro pre x post acc τ G' N e ⟨rfl,⟨a,rfl⟩,rfl⟩ hN;obtain⟨ex,hx⟩:=Cq e;obtain⟨rx,Qx⟩:∃ r,rows[x]?=some r:=⟨rows[x],ay hx⟩;have ZT:=hr rx (br Qx);simp only [aL,DF,↓eP,a9,av,↓ao,↓aa,↓ae,dC,↓fF,Nj,cM,ua,aw,aX,↓ar,↓if_false];have fin:N [some (.int x),some (enc rows),some (.tup [.int i,.int k]),some (.tup [.int j,.int l])] (((pre.filter fun k=>decide (k≠i)&&decide (k≠j)).map fun k=>(rows[k]?).getD []).map enc++(if x≠i/\x≠j then [enc rx] else [])) G:=by
   refine hN _ _ _ ⟨rfl,⟨_,rfl⟩,?_⟩;rw [eL,aT,aT];congr 1;by_cases c:x≠i/\x≠j
   ·rw [if_pos c,bS,if_pos (by simp [c.1,c.2]),lB,ak,ak,Qx]; rfl
   ·rw [if_neg c,bS,if_neg (by simpa using c),lB]; rfl
  refine⟨_,_,.int _,.int _,?_⟩;simp only [↓cB,i5,↓if_true];by_cases c1:x=i
  ·have U2:((x:Int) == (i:Int))=true:=by rw [beq_iff_eq]; lia
   simp only [U2,↓bL,↓ar,↓if_false];rw [if_neg (fun z=>z.1 c1),cP] at fin;exact fin
  ·have U2:((x:Int) == (i:Int))=false:=by rw [beq_eq_false_iff_ne]; lia
   simp only [U2,↓di,↓if_true];refine⟨_,_,.int _,.int _,?_⟩;simp only [↓cB,i5,↓if_true];by_cases c2:x=j
   ·have U1:((x:Int) == (j:Int))=true:=by rw [beq_iff_eq]; lia
    simp only [U1,↓bL,↓ar,↓if_false];rw [if_neg (fun z=>z.2 c2),cP] at fin;exact fin
   ·have U1:((x:Int) == (j:Int))=false:=by rw [beq_eq_false_iff_ne]; lia
    simp only [U1,↓di,↓if_true];refine rj Qx (Gy (IsL.enc rx) fun p5 f5=>?_);refine iL (xs:=rx) (.new f5) f5 az ?_;rw [if_pos ⟨c1,c2⟩] at fin;exact fin
 rintro acc τ G' ⟨rfl,⟨a,rfl⟩,rfl⟩ p4 f4;show GS _ (.ref p4) _;refine iL (xs:=vU rows i j) (.new f4) f4 az ?_;have lk:=(List.getElem?_eq_some_iff.mp hk).1;have ll:=(List.getElem?_eq_some_iff.mp RI).1;have XQ:=hr r (br hi);have SU:=hr r' (br hj);have lo1:(vU rows i j).length<=100:=by
  unfold vU; rw [au];have:=eg (fun k=>decide (k≠i)&&decide (k≠j)) (c9 rows.length);rw [jY] at this; lia
 have slice:∀ {rows:Rows} {G:Gp} {i k:Nat} {r:List T3} {Q:DK},rows[i]?=some r->r.length<=100->k < r.length->Q (enc (roll r k)) G->ip (enc rows) (.int i) G fun x G1=>LI x (some ((k:Int)+1)) none G1 fun y G2=>ip (enc rows) (.int i) G2 fun z G3=>LI z none (some (k:Int)) G3 fun w G4=>hV y w G4 fun x G1=>GS G1 x Q:=by
  intro rows G i k r Q hi hr hk q;refine rj hi ?_;show LI (.dQ (r.map enc)) _ _ _ _;rw [pC,show ((k:Int)+1)=((k+1:Nat):Int) by lia,vF _ _ (by rw [au]; lia)];intro p5 f5;refine rj hi ?_;show LI (.dQ (r.map enc)) _ _ _ _;rw [pC,DG _ _ (by rw [au]; lia)];intro p6 f6;have n56:p5≠p6:=by rintro rfl; rw [az] at f6; cases f6
  refine pD (IsL.ref (by rw [cF n56,az])) (IsL.ref az) (by rw [cJ,eA,au]; exact Ey (by lia)) fun p7 f7=>?_;have l6:=(fm.new (o:=.lst ((r.map enc).drop (k+1))) f5).trans (fm.new (o:=.lst ((r.map enc).take k)) f6);exact iL (G:=G) (xs:=roll r k) (l6.trans (.new f7)) (l6.free f7) (by rw [az]; unfold roll; rw [aT,Av,Au]) q
 simp only [Nj,Qz,↓dU,↓gb];refine slice hi XQ lk ?_;have lr:∀ {r:List T3} {k:Nat},(roll r k).length<=r.length:=fun {r k}=>by unfold roll; rw [aJ,cJ,eA]; lia
 have lr1:(roll r k).length<=100:=aZ lr XQ;have lr2:(roll r' l).length<=100:=aZ lr SU;rw [qT];simp only [jx,↓eP,a9,av,↓ae,↓aa,dC,↓fF,Nj,↓cX,bK,cM,Az,↓lb,fA,aL,cZ,↓aq,↓ao,iT,aw,aX,↓aj,↓aC,fM,tG,iO,↓gB];refine⟨_,_,.int _,.int _,?_⟩;simp only [↓cB,i5,↓if_true];by_cases c:i=j
 ·have c':((i:Int) == (j:Int))=true:=by rw [beq_iff_eq]; lia
  simp only [c',↓bL,↓ar,↓if_false];subst c;rw [hi] at hj;injection hj with ej
  subst ej;obtain⟨_,pr⟩:=uN hk;have rnd:(r.map T3.s).Nodup:=by
   have:=nd;obtain⟨A,B,e⟩:=List.append_of_mem (br hi);unfold Sh at this;rw [e,iU,cW,aT,aT,eE] at this;exact(List.nodup_append.mp this.2.1).1
  have nr:(⟨n,0,h⟩:T3)∉roll r k:=fun z=>by
   have:=(pr.map T3.s).nodup_iff.mp rnd;rw [ak,aP] at this;exact this.1 (List.mem_map.mpr ⟨_,z,rfl⟩)
  have m1r:(⟨n,1,h⟩:T3)∈roll r k:=by
   rcases List.mem_cons.mp (pr.mem_iff.mp (br RI)) with z | z
   ·injection z with _ z _; cases z
   ·exact z
  have mr:∀ x∈roll r k,x∈rows.flatten:=fun x hx=>List.mem_flatten.mpr ⟨r,br hi,pr.mem_iff.mpr (aO _ hx)⟩;have hn:n∈(roll r k).map T3.a:=List.mem_map.mpr ⟨_,m1r,rfl⟩;have hc:(roll r k)[((roll r k).map T3.a).idxOf n]?=some ⟨n,1,h⟩:=by
   have Z6:=GW hn;have WN:((roll r k).map T3.a).idxOf n < (roll r k).length:=by rw [au] at Z6; exact Z6
   have ea:(((roll r k).map T3.a)[((roll r k).map T3.a).idxOf n]'Z6)=n:=List.getElem_idxOf Z6;rw [i6] at ea;rw [ay WN];congr 1;have hm:=fT WN;generalize (roll r k)[((roll r k).map T3.a).idxOf n]'WN=x at ea hm;rcases wy x (mr x hm) with w | w
   ·exact absurd (EI nd (mr x hm) m0 (by show (⟨x.a,x.b⟩:T2)=⟨n,0⟩; rw [ea,w]) ▸ hm) nr
   ·exact EI nd (mr x hm) m1 (by show (⟨x.a,x.b⟩:T2)=⟨n,1⟩; rw [ea,w])
  have lc:=(List.getElem?_eq_some_iff.mp hc).1;refine jR ⟨Ey (by rw [au]; lia),?_⟩;refine lg (xs:=roll r k) (fun pr acc τ G2=>G=G2/\(∃ a,τ=[a])/\acc=(pr.map T3.a).map D.int) ⟨rfl,⟨_,rfl⟩,rfl⟩ (fun _ _ _ _ _=>trivial) ?_ ?_
  ·rintro pr x po acc τ G2 N3 e2 ⟨rfl,⟨a,rfl⟩,rfl⟩ D8;simp only [aL,cM,a9,av,↓ao,↓aa,dC];rw [ot,fF,Nj];refine cz (D8 _ _ _ ⟨rfl,⟨_,rfl⟩,?_⟩);rw [aT,aT]; rfl
  rintro acc τ G2 ⟨rfl,⟨a,rfl⟩,rfl⟩ p6 f6;refine⟨Hy (IsL.ref az),?_⟩;refine zi (IsL.ref az) hn ?_;generalize ((roll r k).map T3.a).idxOf n=cu at hc lc;rw [gb];show LI (.dQ ((roll r k).map enc)) none (some (cu:Int)) _ _;rw [pC,DG _ _ (by rw [au]; lia)];intro p7 f7;simp only [↓dU,↓gb];show LI (.dQ ((roll r k).map enc)) (some ((cu:Int)+1)) none _ _;rw [pC,show ((cu:Int)+1)=((cu+1:Nat):Int) by lia,vF _ _ (by rw [au]; lia)];intro p8 f8;refine⟨by decide,fun p9 f9=>?_⟩;refine pD (IsL.enc (vU rows i i)) (IsL.ref az) (by rw [au]; exact Ey (by simp only [aj,aC]; lia)) fun pa fa=>?_;have l6:=fm.new (o:=.lst (((roll r k).map T3.a).map D.int)) f6;have l7:=l6.trans (fm.new (o:=.lst (((roll r k).map enc).take cu)) f7);have l8:=l7.trans (fm.new (o:=.lst (((roll r k).map enc).drop (cu+1))) f8);have l9:=l8.trans (fm.new (o:=.lst [.ref p7,.ref p8]) f9);have Wg:p7≠p8:=by rintro rfl; rw [az] at f8; cases f8
  have XE:p8≠p9:=by rintro rfl; rw [az] at f9; cases f9
  have XF:p7≠p9:=by rintro rfl; rw [cF Wg,az] at f9; cases f9
  have n7a:p7≠pa:=by rintro rfl; rw [cF XF,cF Wg,az] at fa; cases fa
  have n8a:p8≠pa:=by rintro rfl; rw [cF XE,az] at fa; cases fa
  refine Dc (G:=G) (ss:=(vU rows i i++[(roll r k).take cu,(roll r k).drop (cu+1)]).map enc) (l9.trans (.new fa)) (l9.free fa) az ?_ ?_
  ·rw [aT];refine C9 _ (.cons (.ref (by rw [cF n7a,cF XF,cF Wg,az]) (by rw [l6.free f7]; rfl) ?_) (.cons (.ref (by rw [cF n8a,cF XE,az]) (by rw [l7.free f8]; rfl) ?_) .nil))
   ·rw [<-Au];exact DX.same _
   ·rw [<-Av];exact DX.same _
  ·obtain⟨t1,t2,t3,t4⟩:=LS nd hi hk hc;exact q _ ⟨t1,t2,t3,i,i,r,r,hi,br hk,hi,br RI,.inl ⟨rfl,t4⟩⟩
 ·have c':((i:Int) == (j:Int))=false:=by rw [beq_eq_false_iff_ne]; lia
  simp only [c',↓di,Qz,↓dU,↓gb,↓if_true];refine slice hj SU ll ?_;refine pD (IsL.enc (roll r k)) (IsL.enc (roll r' l)) (by rw [au,au]; exact Ey (by lia)) fun p7 f7=>?_;refine⟨by decide,fun p8 f8=>?_⟩;refine pD (IsL.enc (vU rows i j)) (IsL.ref az) (by rw [au]; exact Ey (by simp only [aj,aC]; lia)) fun p9 f9=>?_;have Wg:p7≠p8:=by rintro rfl; rw [az] at f8; cases f8
  have l8:=(fm.new (o:=.lst ((roll r k).map enc++(roll r' l).map enc)) f7).trans (fm.new (o:=.lst [.ref p7]) f8);have g7:(eY (eY G p7 (.lst ((roll r k).map enc++(roll r' l).map enc))) p8 (.lst [.ref p7])) p7=some (.lst ((roll r k).map enc++(roll r' l).map enc)):=by rw [cF Wg,az]
  have XF:p7≠p9:=by rintro rfl; rw [g7] at f9; cases f9
  refine Dc (G:=G) (ss:=(vU rows i j++[roll r k++roll r' l]).map enc) (l8.trans (.new f9)) (l8.free f9) az ?_ ?_
  ·rw [aT];refine C9 _ (.cons (.ref (by rw [cF XF]; exact g7) (by simp [f7]) ?_) .nil);rw [<-aT];exact DX.same _
  ·obtain⟨t1,t2,t3,t4⟩:=Lo nd hi hj c hk RI;exact q _ ⟨t1,t2,t3,i,j,r,r',hi,br hk,hj,br RI,.inr ⟨c,t4⟩⟩
end JE
end K2
end
section
namespace K2
open PySem (Str)
open Enc (enc)
namespace K31
open K2.Y
noncomputable def pB:iE :=
 (cC (bK (ua B0 (aw (av 0) aX)) (aL 2))
 (cC (eQ (ng (av 1)) (aL 3) (bK (a9 hV (tG NK Fp (av 2) (aw (av 3) (aw (dC (.int 0)) aX))) (a9 ip (av 1) (av 3))) (kz (av 2) (av 3))))
 (cZ (cM (bJ eZ (aw (cM (av 2)) aX))))))
noncomputable def iX:lO:=i0
theorem uh(ds:List D)(G:Gp)(Q:DK)(h:iX ds G Q fun _ _=>False):pB (fun _ _=>False) (ends Q) (bE 4 ds) G:=by
 obtain⟨d,e,l,m,rfl,hd,he,hl,q⟩:=h;unfold pB;simp only [ends,bE,ak,bq,aj,aC,a8,aB,aW,cX,bK,ua,aw,av,aa,aX,aL,aq,ao];refine GB hd.is.p (by lia) fun p hp=>?_;refine fg (fun τ G'=>(∃ a,τ=[some d,some e,some (.ref p),a])/\fm G G'/\G' p=some (.gF (bD (mW l m)))) ?_ ?_
 ·intro N hN;simp only [eQ,ng,av,ae,aa];refine pN he.is (.new hp) fun ok cL=>?_;refine dI (xs:=m) (fun pre τ G'=>(∃ a,τ=[some d,some e,some (.ref p),a])/\fm G G'/\G' p=some (.gF (bD (mW l pre)))) ⟨⟨_,rfl⟩,.new hp,az⟩ (fun pre τ G' h=>cL G' h.2.1) ?_ ?_
  ·rintro pre x post τ G' N2 e2 ⟨⟨a,rfl⟩,le,gp⟩ mC;have hm:x∈m:=by rw [e2]; simp
   have hlen:(mW l pre).length < SZ:=by
    have:=sr l pre;have:=ft e2; lia
   simp only [aL,bK,a9,tG,av,aq,ao,ae,aa,rZ,aw,dC,aX,kz];refine⟨Hz (xD.ref gp),OM (xD.ref gp) ?_⟩;refine Bo he.is.p (oU he.nd hm) ?_;simp only [rM,dU];refine fN (α:=Int) gp hlen ?_;refine mC _ _ ⟨⟨_,rfl⟩,le.put hp,?_⟩;rw [az];unfold mW plus;rw [jZ]; rfl
  ·rintro τ G' ⟨⟨a,rfl⟩,le,gp⟩;exact hN _ _ ⟨⟨_,rfl⟩,le,gp⟩
 ·rintro _ G' ⟨⟨a,rfl⟩,le,gp⟩;simp only [cZ,cM,bJ,aw,av,ae,aa,aX];refine iw le hp gp ?_;refine⟨_,mW l m,rfl,⟨rfl,yZ hd.nd⟩,by have:=sr l m; lia,fun p2 pP=>?_⟩;exact nR (.new pP) pP az q
end K31
end K2
end
section
namespace K2
open PySem (Str)
open Enc (enc)
namespace JE
open K2.P K2.J K2.JB
open K2.Y (Po L ND NZ fh gK sV fC i0 ic gN pick jO jP bO dh dJ eZ ft I0)
open K2.GR (AL gE kB)
open K2.GQ (pO wo l0 ik)
noncomputable def pB:iE :=
 (cC (bK (ua B0 (aw (av 0) aX)) (aL 2))
 (cC (eQ (ng (av 1)) (aL 3) (bK (a9 hV (tG NK Fp (av 2) (aw (av 3) (aw (dC (.int 0)) aX))) (a9 ip (av 1) (av 3))) (kz (av 2) (av 3))))
 (cZ (cM (bJ eZ (aw (cM (av 2)) aX))))))
noncomputable def iX:lO:=i0
theorem uh(ds:List D)(G:Gp)(Q:DK)(h:iX ds G Q fun _ _=>False):pB (fun _ _=>False) (ends Q) (bE 4 ds) G:=K31.uh ds G Q h
theorem Ep{R:Rows}(nd:Sh R){i j:Nat}{r r':List T3}{p:T3}(hi:R[i]?=some r)(hj:R[j]?=some r')(hp:p∈r)(me:p∈r'):i=j:=by
 have main:∀ {i j:Nat} {r r':List T3},R[i]?=some r->R[j]?=some r'->p∈r->p∈r'->i < j->False:=by
  intro i j r r' hi hj hp me lt;have li:=(List.getElem?_eq_some_iff.mp hi);have e:R=R.take (i+1)++R.drop (i+1):=(jF _ _).symm;have n1:=nd;unfold Sh at n1;rw [e,iU,aT,eE] at n1;have m1:p∈(R.take (i+1)).flatten:=List.mem_flatten.mpr ⟨r,by rw [<-li.2]; exact List.mem_take_iff_getElem.mpr ⟨i,by have:=li.1; lia,rfl⟩,hp⟩;have m2:p∈(R.drop (i+1)).flatten:=List.mem_flatten.mpr ⟨r',by
   refine br (i:=j - (i+1)) ?_;rw [List.getElem?_drop,show i+1+(j - (i+1))=j by lia]; exact hj,me⟩
  exact n1.2.2 _ (List.mem_map.mpr ⟨p,m1,rfl⟩) _ (List.mem_map.mpr ⟨p,m2,rfl⟩) rfl
 rcases Nat.lt_trichotomy i j with c | c | c
 ·exact(main hi hj hp me c).elim
 ·exact c
 ·exact(main hj hi me hp c).elim
theorem W2{rows R:Rows}{X h:Int}(d:Dr rows)(hX:∀ p∈rows.flatten,p.a≠X)(hh:h=1\/h=-1)(AR:rows.flatten.length<=22)(str:R.length<=3)
  (hp:R.flatten.Perm (⟨X,1,h⟩ :: ⟨X,0,h⟩ :: rows.flatten)):Dr (xk X R)/\(xk X R).flatten.length=rows.flatten.length+2:=by
 have hL:rows.flatten.map (ex X)=rows.flatten:=by
  conv=>rhs; rw [<-jH rows.flatten]
  refine cI fun p hp=>?_;unfold ex; rw [if_neg (hX p hp)]; rfl
 have e0:∀ b,ex X ⟨X,b,h⟩=⟨X,1 - b,-h⟩:=fun b=>by unfold ex; rw [if_pos rfl]
 have me:(xk X R).flatten.Perm (⟨X,1,-h⟩ :: ⟨X,0,-h⟩ :: rows.flatten):=by
  rw [KN];refine(hp.map _).trans ?_;rw [ak,ak,hL,e0,e0];exact ff _ _ _
 exact⟨Dr.two d hX (by lia) me AR (by unfold xk; rw [au]; exact str),by rw [me.length_eq]; rfl⟩
theorem y0(a b:D):qu [a,b] 0=some a:=rfl
theorem y1(a b:D):qu [a,b] 1=some b:=rfl
theorem z0(a:D):qu [a] 0=some a:=rfl
noncomputable abbrev TK:lO:=Bc
noncomputable def N9:iE :=
 (cC (bK (a9 hV (dC (.int 1)) (a9 tL (bJ bO (aw (av 0) (aw (dC (.int 0)) aX))) (dC (.int 3)))) (aL 1))
 (cC (bK (cM (bJ fZ (aw (Az (av 0) (lN (dC (.int 6))) (lN (a9 hV (dC (.int 6)) (a9 tL (bJ bO (aw (av 0) (aw (dC (.int 1)) aX))) (dC (.int 5)))))) (aw (av 1) (aw (dC (.int 999)) aX))))) (aL 2))
 (cC (bK (bJ e9 (aw (cM (bJ bO (aw (av 0) (aw (dC (.int 2)) aX)))) (aw (cM (iT (aw (dC (.int 999)) (aw (dC (.int 2)) aX)))) aX))) (aL 3))
 (cC (bK (bJ gw (aw (bJ ik (aw (av 2) aX)) (aw (a9 hV (dC (.int 1)) (a9 ip (av 3) (dC (.int 0)))) aX))) (aL 4))
 (cC (bK (a9 Oc (dC (.int 1)) (a9 Cy (dC (.int 2)) (a9 ip (av 3) (dC (.int 1))))) (aL 5))
 (cC (bK (a9 tL (bJ bO (aw (av 0) (aw (dC (.int 3)) aX))) (av 1)) (aL 6))
 (cC (bK (a9 tL (a9 EY (bJ bO (aw (av 0) (aw (dC (.int 3)) aX))) (dC (.int 3))) (av 1)) (aL 7))
 (cC (jx (DF (jf (a9 (LJ false) (av 1) (dC (.int 3)))) (jf (a9 (LJ false) (av 7) (av 6)))) (bK (a9 tL (a9 hV (av 6) (dC (.int 1))) (dC (.int 3))) (aL 7)) fM)
 (cC (bK (cM (bJ iY (aw (cM (av 2)) (aw (cM (av 6)) (aw (cM (a9 ip (bJ e9 (aw (cM (bJ bO (aw (av 0) (aw (dC (.int 4)) aX)))) (aw (cM (iT (aw (dC (.int 10000)) aX))) aX))) (dC (.int 0)))) (aw (cM (iT (aw (iA (aw (av 4) (aw (dC (.int 0)) (aw (av 5) aX)))) aX))) aX)))))) (aL 2))
 (cC (bK (cM (bJ iY (aw (cM (av 2)) (aw (cM (av 7)) (aw (cM (a9 ip (bJ e9 (aw (cM (bJ bO (aw (av 0) (aw (dC (.int 5)) aX)))) (aw (cM (iT (aw (dC (.int 10000)) aX))) aX))) (dC (.int 0)))) (aw (cM (iT (aw (iA (aw (av 4) (aw (dC (.int 1)) (aw (av 5) aX)))) aX))) aX)))))) (aL 2))
 (cC (bK (cM (bJ kN (aw (cM (bJ eT (aw (av 2) aX))) aX))) (aL 8))
 (cC (bK (cM (bJ kN (aw (cM (bJ jb (aw (cM (av 2)) (aw (cM (av 4)) aX)))) aX))) (aL 9))
 (cC (bK (cM (bJ kN (aw (cM (bJ ij (aw (cM (av 2)) (aw (cM (av 4)) aX)))) aX))) (aL 10))
 (cC (jx (RW (vD (jf (bJ ic (aw (av 8) aX)))) (RW (vD (jf (bJ ic (aw (av 9) aX)))) (vD (jf (bJ ic (aw (av 10) aX)))))) (cZ (cM (dC (.bl false)))) fM)
 (cC (bK (bJ iX (aw (cM (bJ e7 (aw (cM (av 8)) (aw (cM (av 5)) (aw (cM (dC (.int 1))) aX))))) (aw (cM (bJ e7 (aw (cM (av 9)) (aw (cM (Ni EW (av 5))) (aw (cM (Ni EW (dC (.int 1)))) aX))))) aX))) (aL 11))
 (cZ (cM (a9 (LJ false) (av 11) (bJ iX (aw (cM (bJ e7 (aw (cM (av 10)) (aw (cM (a9 Cy (dC (.int 2)) (av 5))) (aw (cM (dC (.int 1))) aX))))) (aw (cM (bJ e7 (aw (cM (av 10)) (aw (cM (a9 Cy (Ni EW (dC (.int 2))) (av 5))) (aw (cM (Ni EW (dC (.int 1)))) aX))))) aX)))))))))))))))))))))
theorem Va(ds:List D)(G:Gp)(Q:DK)(h:TK ds G Q fun _ _=>False):N9 (fun _ _=>False) (ends Q) (bE 12 ds) G:=by
 obtain⟨ns,rfl,hl,hG,q⟩:=h;unfold N9;simp only [↓cX,bK,a9,dC,bJ,aw,av,bE,↓ak,↓bq,↓aj,↓aC,a8,↓aB,↓aW,↓aa,aX,aL,cM,Az,↓aq,↓ao,↓lb,↓gb,↓pC,↓ae,iT,ends];refine⟨ns,0,rfl,by decide,by decide,?_⟩;have s1:0<=gN ns 0 % 3:=jU _ (by decide);have s2:gN ns 0 % 3 < 3:=hU _ (by decide);generalize gN ns 0 % 3=s0 at s1 s2;obtain⟨S,hS⟩:∃ S:Nat,1+s0=(S:Int):=⟨(1+s0).toNat,by lia⟩;have hS1:1<=S:=by lia
 have hS3:S<=3:=by lia
 simp only [↓dU,hS];refine⟨ns,1,rfl,by decide,by decide,?_⟩;have d1:0<=gN ns 1 % 5:=jU _ (by decide);have d2:gN ns 1 % 5 < 5:=hU _ (by decide);generalize gN ns 1 % 5=j at d1 d2;simp only [↓dU,↓gb];rw [vE];intro pS fS;have RL:(cut ns (some 6) (some (6+j))).length<=4:=by
  unfold cut jL;simp only;rw [if_neg (by lia),if_neg (by lia)];simp only [eA,cJ]; lia
 generalize cut ns (some 6) (some (6+j))=cells at RL;refine⟨.ref pS,cells,S,999,rfl,IsL.ref az,⟨by lia,⟨hS1,hS3⟩,by decide,by decide⟩,fun rows d hlen hfl=>xT (.new fS) ?_⟩;refine⟨ns,2,rfl,by decide,cz ?_⟩;refine⟨by decide,fun pa fa=>?_⟩;refine iL (xs:=([999,2]:List Int)) (.new fa) fa az ?_;refine⟨_,_,rfl,⟨by decide,by decide⟩,fun fs fd=>?_⟩
 match fs,fd with
 | [e0,e1],⟨⟨a0,b0⟩,⟨a1,b1⟩,_⟩ =>
 have e2:(enc [e0,e1]:D)=.dQ [.int e0,.int e1]:=rfl;rw [e2];simp only [↓jD,y0,↓dU,y1,↓mT,↓oG];refine⟨rows,rfl,by lia,?_⟩;have ol:=l0 rows.flatten;refine⟨enc (wo rows.flatten),wo rows.flatten,_,rfl,IsL.enc (wo rows.flatten),⟨by lia,by lia,by lia⟩,fun X m1 m2 m3=>?_⟩;have hX:∀ p∈rows.flatten,p.a≠X:=fun p hp z=>by
  refine m1 ?_;rw [<-z];rcases d.way p hp with w | w
  ·exact List.mem_map.mpr ⟨p,List.mem_filter.mpr ⟨hp,by simp [w]⟩,rfl⟩
  ·exact List.mem_map.mpr ⟨_,List.mem_filter.mpr ⟨d.Fi p hp,by simp [w]⟩,rfl⟩
 simp only [↓cM,↓bE,↓ends,↓eP,↓a9,↓Ni,↓av,↓ua,↓tG,↓aw,↓aX,↓cZ,↓S8,↓kK,↓bK,↓aL,↓dC,↓fM,↓iA,↓iT,↓nG,↓xU,↓DF,↓RW,↓vD,↓zR,↓K0,↓zQ,↓Az,↓lb,↓fA,↓gB,↓k7,↓bJ,↓iO,↓dU,↓yO,↓uW,↓uV,↓oG,↓mT,↓jC,↓oH,↓rh,↓Cz,↓JZ,↓J0,↓J1,↓fF,↓jD,↓Cu,↓pC,↓Cv,↓vL,↓Gz,↓BZ,↓i4,↓rC,↓xg,↓qk,↓nK,↓rZ,↓JO,↓JN,↓true_and,↓and_true,↓C5,↓C4,↓gb,↓cB,↓j4,↓zy,↓Kv,↓FD,↓ak,↓bq,↓aB,↓aW,↓aa,↓ae,↓ao,↓aq,↓aj,↓aC,↓a8,↓if_true,↓if_false,↓bL,↓di,↓ar,↓cX,↓yA,↓kz,↓kR,↓ng,↓EV,↓sf,↓Gr,↓ka,↓dZ,↓jX,y0,y1];refine⟨.inl ⟨by decide,by decide⟩,?_⟩;have hh:(1 - 2 * e1)=1\/(1 - 2 * e1)=-1:=by lia
 generalize (1 - 2 * e1)=h at hh;refine⟨ns,3,rfl,by decide,?_⟩;simp only [↓jC];refine⟨by lia,?_⟩;have i1:0<=gN ns 3 % (S:Int):=jU _ (by lia);have i2:gN ns 3 % (S:Int) < S:=hU _ (by lia);generalize gN ns 3 % (S:Int)=ia at i1 i2;obtain⟨i,rfl⟩:∃ i:Nat,ia=(i:Int):=⟨ia.toNat,by lia⟩;refine⟨ns,3,rfl,by decide,?_⟩;simp only [↓oH,↓jC];refine⟨by decide,by decide,by lia,?_⟩;have j1:0<=gN ns 3 / 3 % (S:Int):=jU _ (by lia);have j2:gN ns 3 / 3 % (S:Int) < S:=hU _ (by lia);generalize gN ns 3 / 3 % (S:Int)=ja at j1 j2;obtain⟨j',rfl⟩:∃ i:Nat,ja=(i:Int):=⟨ja.toNat,by lia⟩;refine fg (fun τ G'=>G=G'/\∃ o:Nat,o < S/\(S=3->o≠i)/\τ=[some (.dQ (ns.map D.int)),some (.int S),some (enc rows),some (.dQ [.int e0,.int e1]),some (.int X),some (.int h),some (.int i),some (.int o),none,none,none,none]) ?_ ?_
 ·intro N hN;simp only [jx,DF,↓eP,a9,av,↓ae,↓aa,dC,bK,↓dU,↓jC,aL,↓aq,↓ao,fM,↓ar,↓if_false];refine EZ ?_;by_cases c:(S:Int)=3
  ·simp only [↓cB,↓ar,c,decide_true,↓bL,↓if_false,↓if_true];refine EZ ?_;by_cases c2:(j':Int)=i
   ·simp only [↓cB,↓ar,c2,decide_true,↓bL,↓if_false,↓if_true];refine⟨by decide,hN _ _ ⟨rfl,((i+1) % 3:Nat),by lia,fun _=>by lia,?_⟩⟩;rw [show ((((i+1) % 3:Nat)):Int)=((i:Int)+1) % 3 by lia,c]
   ·simp only [↓cB,↓ar,c2,decide_false,↓di,↓if_false];refine hN _ _ ⟨rfl,j',by lia,fun _=>by lia,?_⟩;rw [c]
  ·simp only [↓cB,↓ar,c,decide_false,↓di,↓if_false];exact hN _ _ ⟨rfl,j',by lia,fun z=>by lia,rfl⟩
 rintro _ _ ⟨rfl,o,ho,hoi,rfl⟩;have rl:=HS d;simp only [↓cX,bK,cM,bJ,aw,av,↓ae,↓aa,a9,dC,aX,iT,↓aj,↓aC,iA,aL,↓aq,↓ao];have dig:∀ {c:Int} {G:Gp} {Q:DK},(∀ v:Int,Q (.int v) G)->0+1<=SZ/\∀ p,G p=none->GS (eY G p (.lst [.int 10000])) (.ref p) fun x G1=>e9 [.int c,x] G1 (fun y G2=>ip y (.int 0) G2 Q) fun _ _=>False:=by
  intro c G Q qq;refine⟨by decide,fun p f=>?_⟩;refine iL (xs:=([10000]:List Int)) (.new f) f az ?_;refine⟨_,_,rfl,⟨by decide,by decide⟩,fun fs fd=>?_⟩
  match fs,fd with
  | [v],_ =>
  show ip (.dQ [.int v]) (.int 0) _ _;rw [jD,z0];exact qq v
 refine cz (cz ⟨ns,4,rfl,by decide,cz (dig fun v1=>cz ?_)⟩);refine⟨by decide,by decide,fun p1 f1=>?_⟩;refine iL (xs:=[(⟨X,0,h⟩:T3)]) (.new f1) f1 az ?_;refine CF (rows:=rows) (more:=[(⟨X,0,h⟩:T3)]) ⟨by lia,by lia,fun r hr=>by have:=rl r hr; lia,by simp⟩ fun r k hr hk _=>cz ?_;refine cz (cz ⟨ns,5,rfl,by decide,cz (dig fun v2=>cz ?_)⟩);refine⟨by decide,by decide,fun p2 f2=>?_⟩;refine iL (xs:=[(⟨X,1,h⟩:T3)]) (.new f2) f2 az ?_;refine CF (more:=[(⟨X,1,h⟩:T3)]) ⟨by rw [cK]; lia,by rw [cK]; lia,fun r2 SU=>?_,by simp⟩ fun r' k' Pj WI _=>cz ?_
 ·rcases qD SU with z | z
  ·have:=rl r2 z; lia
  ·have:=rl r (br hr);rw [z,aJ,aJ,du,eA,cJ]; lia
 have pf:=(vn (k:=k') (more:=[⟨X,1,h⟩]) Pj).trans ((vn (k:=k) (more:=[⟨X,0,h⟩]) hr).append_left _);have SA:((rows.set i (r.take k++[⟨X,0,h⟩]++r.drop k)).set o (r'.take k'++[⟨X,1,h⟩]++r'.drop k')).flatten.Perm (⟨X,1,h⟩ :: ⟨X,0,h⟩ :: rows.flatten):=pf;have dR:=K2.JB.Dr.two d hX hh SA (by lia) (by rw [cK,cK]; lia);have lR:((rows.set i (r.take k++[⟨X,0,h⟩]++r.drop k)).set o (r'.take k'++[⟨X,1,h⟩]++r'.drop k')).length=S:=by rw [cK,cK]; exact hlen
 have wh:S=3->∃ s s',((rows.set i (r.take k++[⟨X,0,h⟩]++r.drop k)).set o (r'.take k'++[⟨X,1,h⟩]++r'.drop k'))[i]?=some s/\(⟨X,0,h⟩:T3)∈s/\((rows.set i (r.take k++[⟨X,0,h⟩]++r.drop k)).set o (r'.take k'++[⟨X,1,h⟩]++r'.drop k'))[o]?=some s'/\(⟨X,1,h⟩:T3)∈s':=fun z=>by
  have D7:=hoi z;exact⟨r.take k++[⟨X,0,h⟩]++r.drop k,r'.take k'++[⟨X,1,h⟩]++r'.drop k',by rw [eK D7]; exact dc (by lia),by simp,dc (by rw [cK]; lia),by simp⟩
 generalize (rows.set i (r.take k++[⟨X,0,h⟩]++r.drop k)).set o (r'.take k'++[⟨X,1,h⟩]++r'.drop k')=R at SA dR lR wh;have rlR:=HS dR;have flR:R.flatten.length=rows.flatten.length+2:=by rw [SA.length_eq]; rfl
 have copy:∀ {A:Rows} {G:Gp} {Q:DK},A.length<=1000->Q (enc A) G->eT [enc A] G (fun x G1=>GS G1 x Q) fun _ _=>False:=fun {A G Q} hA qq=>by
  refine⟨A.map fun r=>r.map enc,by rw [gE],by rw [au]; exact hA,fun G3 p2 as2 h2=>h2.fz ?_⟩;rw [<-gE]; exact qq
 refine copy (by lia) ?_;refine⟨R,rfl,⟨dR,by lia⟩,fun T bT=>cz ?_⟩;refine cz (cz ⟨R,X,rfl,⟨by lia,fun r hr=>by have:=rlR r hr; lia⟩,cz ?_⟩);obtain⟨dE,lE⟩:=W2 d hX hh (by lia) (by lia) SA;refine⟨xk X R,rfl,⟨dE,by lia⟩,fun U bU=>cz ?_⟩;refine cz (cz ⟨R,X,h,rfl,⟨dR.nd,dR.way,SA.mem_iff.mpr (by simp),SA.mem_iff.mpr (by simp),by lia,fun r hr=>by have:=rlR r hr; lia⟩,fun W sp=>cz ?_⟩);have tp:W.flatten.Perm rows.flatten:=((sp.pm.symm.trans SA).cons_inv).cons_inv;have ts:W.length<=3:=by
  obtain⟨i',j'',s,s',q1,q2,q3,q4,c⟩:=sp.ln;rcases c with ⟨e,c⟩ | ⟨_,c⟩
  ·by_cases z:S=3
   ·obtain⟨u,u',w1,w2,w3,w4⟩:=wh z;have a1:=Ep dR.nd q1 w1 q2 w2;have a2:=Ep dR.nd q3 w3 q4 w4;exact absurd (by lia) (hoi z)
   ·lia
  ·lia
 obtain⟨_,_,dW,_,sk⟩:=VM d hX hh (by lia) (by lia) SA tp ts sp.fr sp.lo;have lW:=tp.length_eq;refine⟨W,rfl,⟨dW,by lia⟩,fun V bV=>cz ?_⟩;rw [qT];simp only [jx,RW,vD,↓eP,bJ,aw,av,↓ae,↓aa,aX,cZ,cM,dC,fM,↓cX,bK,Ni,↓rh,aL,a9,↓aq,↓ao,↓mT,↓if_true];refine⟨_,T,rfl,⟨rfl,bT.nd⟩,bT.nz,?_⟩;simp only [↓cB,↓bL,↓ar,↓if_false];refine⟨_,U,rfl,⟨rfl,bU.nd⟩,bU.nz,?_⟩;simp only [↓cB,↓bL,↓ar,↓if_false];refine⟨_,V,rfl,⟨rfl,bV.nd⟩,bV.nz,?_⟩;simp only [↓cB,↓bL,↓ar,↓if_false];have mv:∀ {T:Po} {f:Fn->Int} (b:BP T f) (U4 c:Int) (hc:c=1\/c=-1) {G:Gp} {Q:DK},Q (.kI (bD (gK T U4 c))) G->e7 [.kI (bD T),.int U4,.int c] G (fun x G1=>GS G1 x Q) fun _ _=>False:=fun {T f} b U4 c hc {G Q} qq=>by
  refine⟨_,T,U4,c,rfl,⟨rfl,b.nd⟩,b.sz,⟨b.big,?_⟩,fun p f=>iw (.new f) f az qq⟩;rcases hc with rfl | rfl
  ·exact lH (by decide)
  ·exact lH (by decide)
 have sm:∀ {A B:Po} {f g:Fn->Int} (bA:BP A f) (bB:BP B g) {G:Gp} {Q:DK},gZ G (.gF (bD (sV A B))) Q->iX [.kI (bD A),.kI (bD B)] G Q fun _ _=>False:=fun {A B f g} bA bB {G Q} qq =>
  ⟨_,_,A,B,rfl,⟨rfl,bA.nd⟩,⟨rfl,bB.nd⟩,aZ (Nat.add_le_add bA.len bB.len) (by decide),qq⟩
 refine cz (cz (cz (mv bT h 1 (.inl rfl) ?_)));refine cz (cz (cz (mv bU (-h) (-1) (.inr rfl) ?_)));have X1:=bT.moved h 1 (.inl rfl);have b2':=bU.moved (-h) (-1) (.inr rfl);have X0:=bV.moved (2 * h) 1 (.inl rfl);have b4':=bV.moved (-2 * h) (-1) (.inr rfl);refine sm X1 b2' fun p8 f8=>?_;refine cz ⟨.inl ⟨by decide,by decide⟩,cz (cz (mv bV (2 * h) 1 (.inl rfl) ?_))⟩;refine cz ⟨.inl ⟨by decide,by decide⟩,cz (cz (mv bV (-2 * h) (-1) (.inr rfl) ?_))⟩;refine sm X0 b4' fun p9 f9=>?_;have XE:p8≠p9:=by rintro rfl; rw [az] at f9; cases f9
 refine Od (xD.ref (by rw [cF XE,az])) (xD.ref az) ?_;have ee:AW (sV (gK T h 1) (gK U (-h) (-1))) (sV (gK V (2 * h) 1) (gK V (-2 * h) (-1)))=true:=by
  refine I0 (Y.CL X1.nd) (Y.CL X0.nd) (Y.rB _) (Y.rB _) fun g=>?_;rw [Y.Jv g X1.nd,Y.Jv g X0.nd,X1.val,b2'.val,X0.val,b4'.val];have:=sk g;rw [Int.one_mul,Int.one_mul,show -2 * h=-(2 * h) by lia];exact this
 simp only [↓ar,ee,↓bL,↓if_false];exact cz (q _)
end JE
end K2
end
namespace Fin
open PySem PySem.Spec PyProof.Rows L2 K2
open K2.JB hiding fZ
open K2.JE
open K2.GQ (ik vP)
open K2.P (fY rV ib xq iZ Ag mL z9)
open K2.Y
noncomputable def top(i:Nat):Stmt:=PySem.Challenge.pw_knotwise_k50_whole_three_drawings.main.body.getD i (.Pass ⟨0,0,0,0⟩)
section
variable {P:bN} {w:World} {K:ai} {mg:Str->Option Value} {base:Heap}
theorem yF:cD ["_law_script","_law_k"] ["_law_script","_law_k"] (bo (top 28)):=qU
theorem zH {f:Addr} {fd:aI} (F:oy K "_law_cell_at" "_law_cell_at" (top 28) f fd) (jw:mg "len" = none):gf P w K mg base gi 1 f fd ["_law_script","_law_k"] (cS K bO) :=
 rH F yF Ab fun _ _ _ _ _ _ hr=>have hu:=hr.units; have ZO:=hr.NI; (aK (jv (fb (OA ZO) (bz 1) (j6 mD rfl jw wM (ag (bz 0) aF)) (gL _)) (aS (cy (aQ (cc hu (bz 0) (bz 1) (fun _ _=>rfl))))) gx)
 (aS (cy (aQ aG))))
theorem EF:cD ["_law_cell","_law_prime","_law_many"] ["_law_cell","_law_prime","_law_many"] (bo (top 30)):=qU
theorem FQ {f:Addr} {fd:aI} (F:oy K "_law_pick" "_law_pick" (top 30) f fd):gf P w K mg base gi 1 f fd ["_law_cell","_law_prime","_law_many"] (cS K dJ) :=
 rH F EF GJ fun _ _ _ _ _ _ hr=>(aS (cy (aQ (cg ku (cg ku (cg pG (bz 0) aG) (bz 1)) (bz 2)))))
theorem tx:cD ["_law_cell","_law_sizes","_law_primes","_law_left","_law_found_here","_law_at","_law_size"] ["_law_cell","_law_sizes"] (bo (top 38)):=qU
theorem AQ {f:Addr} {fd:aI} (F:oy K "_law_digits" "_law_digits" (top 38) f fd) (pJ:mg "enumerate" = none) {IW:Addr} {Jg:aI} (pZ:ny P w K mg base gi 1 IW Jg "_law_pick" ["_law_cell","_law_prime","_law_many"] (cS K dJ)):gf P w K mg base gi 2 f fd ["_law_cell","_law_sizes"] (cS K e9) :=
 rH F tx A5 fun _ _ _ _ _ _ hr=>have nd:=tx.nd; have hu:=hr.units; (aK (kr (i:=2) nd rfl (fK (ag aG (ag aG (ag aG (ag aG (ag aG (ag aG (ag aG (ag aG (ag aG (ag aG aF))))))))))))
 (aK (kr (i:=3) nd rfl (cg y9 (bz 0) aG))
 (aK (kr (i:=4) nd rfl (fK aF))
 (aK (dB bu rfl (Oo rfl pJ (bz 1)) (jd rfl (cN (lF (i:=5) nd rfl) (cN (lF (i:=6) nd rfl) gW)) (cO (cO gY))) (aS (jv (fb (lG hu) (cg ku (bz 0) aG) aG (gL _)) (aK (mU (jW eh fH fG k6 kP (bz 4) (ag (cg ku (bz 3) (bz 6)) aF)))
 (aS (kr (i:=3) nd rfl (cg y9 (bz 3) (bz 6))))) (aS (mU (jW eh fH fG k6 kP (bz 4) (ag (aU pZ.ok (hr.mono (by decide)) rfl pZ.mg pZ.kp pZ.bi (ag (bz 0) (ag (cc hu (bz 2) (bz 5) (fun _ _=>rfl)) (ag (bz 6) aF)))) aF)))))))
 (aS (cy (aQ (bz 4))))))))
theorem wX:cD ["_law_names_here","_law_name"] ["_law_names_here","_law_name"] (bo (top 36)):=qU
theorem FR {f:Addr} {fd:aI} (F:oy K "_law_free" "_law_free" (top 36) f fd):gf P w K mg base gi 1 f fd ["_law_names_here","_law_name"] (cS K gw) :=
 rH F wX rW fun _ _ _ _ _ _ hr=>have nd:=wX.nd; have hu:=hr.units; (aK (LL bu (fb (Uj hu) (bz 1) (bz 0) (by with_unfolding_all rfl)) (aS (kr (i:=1) nd rfl (cg dD (cg ku (bz 1) aG) aG))))
 (aS (cy (aQ (bz 1)))))
theorem EG:cD ["_law_rows"] ["_law_rows"] (bo (top 35)):=qU
theorem FT {f:Addr} {fd:aI} (F:oy K "_law_copy" "_law_copy" (top 35) f fd) (sA:mg "list" = none):gf P w K mg base gi 1 f fd ["_law_rows"] (cS K eT) :=
 rH F EG rX fun _ _ _ _ _ _ hr=>(aS (cy (aQ (rz ["_law_row"] (sc:=bo (top 35)) (XN:=["_law_rows"]) (gS (bz 0)) (fun _ _ _ _=>(lF (i:=0) (show (["_law_row"]:List Str).Nodup by decide +kernel) rfl)) (fun _ _ _ _=>.none) (fun _ _ _ _=>(mV zV rfl sA K5 (ag (bz 0) aF)))))))
theorem yE:cD ["_law_rows","_law_at","_law_place","_law_more","_law_made"] ["_law_rows","_law_at","_law_place","_law_more"] (bo (top 37)):=qU
theorem IK {f:Addr} {fd:aI} (F:oy K "_law_put" "_law_put" (top 37) f fd) (jw:mg "len" = none) {tY:Addr} {t8:aI} (iC:ny P w K mg base gi 1 tY t8 "_law_copy" ["_law_rows"] (cS K eT)):gf P w K mg base gi 2 f fd ["_law_rows","_law_at","_law_place","_law_more"] (cS K iY) :=
 rH F yE Js fun _ _ _ _ _ _ hr=>have nd:=yE.nd; have hu:=hr.units; (aK (kr (i:=4) nd rfl (aU iC.ok (hr.mono (by decide)) rfl iC.mg iC.kp iC.bi (ag (bz 0) aF)))
 (aK (kr (i:=2) nd rfl (cg ku (bz 2) (cg dD (j6 mD rfl jw wM (ag (cc hu (bz 4) (bz 1) (fun _ _=>rfl)) aF)) aG)))
 (aK (iq (cg dD (cg dD (fO (cc hu (bz 4) (bz 1) (fun _ _=>rfl)) iF (gy (bz 2))) (bz 3)) (fO (cc hu (bz 4) (bz 1) (fun _ _=>rfl)) (gy (bz 2)) iF)) (je hu (bz 4) (bz 1)))
 (aS (cy (aQ (bz 4)))))))
theorem qW:cD ["_law_cells","_law_strings","_law_spread","_law_rows","_law_names_here","_law_cell","_law_part","_law_name","_law_way"] ["_law_cells","_law_strings","_law_spread"] (bo (top 39)):=qU
theorem zG {f:Addr} {fd:aI} (F:oy K "_law_drawing" "_law_drawing" (top 39) f fd) (gz:mg "range" = none) {pQ:Addr} {pW:aI} (cT:ny P w K mg base gi 2 pQ pW "_law_digits" ["_law_cell","_law_sizes"] (cS K e9)) {tX:Addr} {t7:aI} (iB:ny P w K mg base gi 1 tX t7 "_law_free" ["_law_names_here","_law_name"] (cS K gw)) {wH:Addr} {wK:aI} (fP:ny P w K mg base gi 2 wH wK "_law_put" ["_law_rows","_law_at","_law_place","_law_more"] (cS K iY)):gf P w K mg base gi 3 f fd ["_law_cells","_law_strings","_law_spread"] (cS K fZ) :=
 rH F qW Aa fun _ _ _ _ _ _ hr=>have nd:=qW.nd; have hu:=hr.units; (aK (xK (uY ["_law_k"] (sc:=bo (top 39)) (XN:=["_law_cells","_law_strings","_law_spread","_law_rows","_law_names_here","_law_cell","_law_part","_law_name","_law_way"]) (i:=3) nd rfl rfl (kO rfl gz (bz 1)) (fun _ _ _ _=>(lF (i:=0) (show (["_law_k"]:List Str).Nodup by decide +kernel) rfl)) (fun _ _ _ _=>.none) (fun _ _ _ _=>(fK aF))))
 (aK (kr (i:=4) nd rfl (fK aF))
 (aK (dB bu rfl (gS (bz 0)) (lF (i:=5) nd rfl) (aK (kr (i:=6) nd rfl (aU cT.ok (hr.mono (by decide)) rfl cT.mg cT.kp cT.bi (ag (aQ (bz 5)) (ag (aQ (fK (ag (bz 2) (ag aG (ag (bz 1) (ag aG (ag (bz 1) (ag aG aF)))))))) aF))))
 (aK (kr (i:=7) nd rfl (aU iB.ok (hr.mono (by decide)) rfl iB.mg iB.kp iB.bi (ag (bz 4) (ag (cg dD aG (cc hu (bz 6) aG (fun _ _=>rfl))) aF))))
 (aK (mU (jW eh fH fG k6 kP (bz 4) (ag (bz 7) aF)))
 (aS (dB bu rfl (kO rfl gz aG) (lF (i:=8) nd rfl) (aS (kr (i:=3) nd rfl (aQ (aU fP.ok (hr.mono (by decide)) rfl fP.mg fP.kp fP.bi (ag (aQ (bz 3)) (ag (aQ (cc hu (bz 6) (cg dD aG (cg pG aG (bz 8))) (fun _ _=>rfl))) (ag (aQ (cc hu (bz 6) (cg dD aG (cg pG aG (bz 8))) (fun _ _=>rfl))) (ag (aQ (fK (ag (eG (ag (bz 7) (ag (bz 8) (ag (cg CM aG (cg pG aG (cc hu (bz 6) aG (fun _ _=>rfl)))) aF)))) aF))) aF))))))))))))))
 (aS (cy (aQ (bz 3)))))))
theorem uJ:cD ["_law_rows","_law_names_here","_law_row","_law_passing"] ["_law_rows"] (bo (top 40)):=qU
theorem Di {f:Addr} {fd:aI} (F:oy K "_law_names" "_law_names" (top 40) f fd):gf P w K mg base gi 1 f fd ["_law_rows"] (cS K ik) :=
 rH F uJ vP fun _ _ _ _ _ _ hr=>have nd:=uJ.nd; have hu:=hr.units; (aK (kr (i:=1) nd rfl (fK aF))
 (aK (dB bu rfl (gS (bz 0)) (lF (i:=2) nd rfl) (aS (dB bu rfl (gS (bz 2)) (lF (i:=3) nd rfl) (aS (jv (fb (lG hu) (cc hu (bz 3) aG (fun _ _=>rfl)) aG (gL _)) (aS (mU (jW eh fH fG k6 kP (bz 1) (ag (cc hu (bz 3) aG (fun _ _=>rfl)) aF)))) gx)))))
 (aS (cy (aQ (bz 1))))))
theorem qV:cD ["rows","passings","row"] ["rows"] (bo (top 4)):=qU
theorem zF {f:Addr} {fd:aI} (F:oy K "passings_of" "passings_of" (top 4) f fd):gf P w K mg base gi 1 f fd ["rows"] (cS K fY) :=
 rH F qV rV fun _ _ _ _ _ _ hr=>have nd:=qV.nd; (aK (kr (i:=1) nd rfl (fK aF))
 (aK (dB bu rfl (gS (bz 0)) (lF (i:=2) nd rfl) (aS (mU (jW eh PySem.F.slot_list_extend PySem.F.type_list_extend k6 Ik (bz 1) (ag (bz 2) aF)))))
 (aS (cy (aQ (bz 1))))))
theorem yG:cD ["drawing","name","passing"] ["drawing","name"] (bo (top 6)):=qU
theorem IL {f:Addr} {fd:aI} (F:oy K "hand_of" "hand_of" (top 6) f fd) {oq:Addr} {ou:aI} (fc:ny P w K mg base gi 1 oq ou "passings_of" ["rows"] (cS K fY)):gf P w K mg base gi 2 f fd ["drawing","name"] (cS K iZ) :=
 rH F yG Ag fun _ _ _ _ _ _ hr=>have nd:=yG.nd; have hu:=hr.units; (aK (dB bu rfl (gS (aU fc.ok (hr.mono (by decide)) rfl fc.mg fc.kp fc.bi (ag (bz 0) aF))) (lF (i:=2) nd rfl) (aS (jv (fb (lG hu) (cc hu (bz 2) aG (fun _ _=>rfl)) (bz 1) (gL _)) (aS (cy (aQ (cc hu (bz 2) aG (fun _ _=>rfl))))) gx)))
 (aS LM))
theorem yC:cD ["drawing","behind","row","passing","follower"] ["drawing"] (bo (top 7)):=qU
theorem II {f:Addr} {fd:aI} (F:oy K "next_of" "next_of" (top 7) f fd) (wx:mg "zip" = none):gf P w K mg base gi 1 f fd ["drawing"] (cS K mL) :=
 rH F yC z9 fun _ _ _ _ _ _ hr=>have nd:=yC.nd; have hu:=hr.units; (aK (kr (i:=1) nd rfl lZ)
 (aK (dB bu rfl (gS (bz 0)) (lF (i:=2) nd rfl) (aS (dB bu rfl (Kb rfl wx (bz 2) (cg dD (fO (bz 2) (gy aG) iF) (fO (bz 2) iF (gy aG)))) (jd rfl (cN (lF (i:=3) nd rfl) (cN (lF (i:=4) nd rfl) gW)) (cO (cO gY))) (aS (iq (fO (bz 4) iF (gy aG)) (je hu (bz 1) (fO (bz 3) iF (gy aG))))))))
 (aS (cy (aQ (bz 1))))))
theorem HP:cD ["far"] ["far"] (bo (top 20)):=qU
theorem IH {f:Addr} {fd:aI} (F:oy K "plan_of" "plan_of" (top 20) f fd) (mB:mg "sorted" = none) (ze:mg "tuple" = none):gf P w K mg base gi 1 f fd ["far"] (cS K kM) :=
 rH F HP Jr fun _ _ _ _ _ _ hr=>have hu:=hr.units; have ZO:=hr.NI; (aS (cy (aQ (mV Gx rfl ze Qa (ag (j6 (vG rfl hu) rfl mB B1 (ag (rz ["end","far"] (sc:=bo (top 20)) (XN:=["far"]) (rq (bz 0)) (fun _ _ _ _=>(lF (i:=0) (show (["end","far"]:List Str).Nodup by decide +kernel) rfl)) (fun _ _ _ _=>(.some (fb (OA ZO) (bz 0) (cc hu (bz 1) (bz 0) (fun _ _=>rfl)) (gL _)))) (fun _ _ _ _=>(eG (ag (bz 0) (ag (cc hu (bz 1) (bz 0) (fun _ _=>rfl)) aF))))) aF)) aF)))))
theorem wY:cD ["threads","far","one","other"] ["threads"] (bo (top 22)):=qU
theorem FU {f:Addr} {fd:aI} (F:oy K "far_ends" "far_ends" (top 22) f fd):gf P w K mg base gi 1 f fd ["threads"] (cS K j3) :=
 rH F wY GK fun _ _ _ _ _ _ hr=>have nd:=wY.nd; have hu:=hr.units; (aK (kr (i:=1) nd rfl lZ)
 (aK (dB bu rfl (gS (bz 0)) (jd rfl (cN (lF (i:=2) nd rfl) (cN (lF (i:=3) nd rfl) gW)) (cO (cO gY))) (aK (iq (bz 3) (je hu (bz 1) (bz 2)))
 (aS (iq (bz 2) (je hu (bz 1) (bz 3))))))
 (aS (cy (aQ (bz 1))))))
theorem tw:cD ["drawing","threads"] ["drawing"] (bo (top 21)):=qU
theorem AP {f:Addr} {fd:aI} (F:oy K "whole_plan" "whole_plan" (top 21) f fd) {Mu:Addr} {MD:aI} (sN:ny P w K mg base gi 1 Mu MD "next_of" ["drawing"] (cS K mL)) {wG:Addr} {wJ:aI} (jg:ny P w K mg base gi 1 wG wJ "plan_of" ["far"] (cS K kM)) {tZ:Addr} {t9:aI} (iD:ny P w K mg base gi 1 tZ t9 "far_ends" ["threads"] (cS K j3)):gf P w K mg base gi 2 f fd ["drawing"] (cS K kU) :=
 rH F tw A4 fun _ _ _ _ _ _ hr=>have nd:=tw.nd; (aK (uY ["spot","after"] (sc:=bo (top 21)) (XN:=["drawing","threads"]) (i:=1) nd rfl rfl (H0 (aU sN.ok (hr.mono (by decide)) rfl sN.mg sN.kp sN.bi (ag (bz 0) aF))) (fun _ _ _ _=>(jd rfl (cN (lF (i:=0) (show (["spot","after"]:List Str).Nodup by decide +kernel) rfl) (cN (lF (i:=1) (show (["spot","after"]:List Str).Nodup by decide +kernel) rfl) gW)) (cO (cO gY)))) (fun _ _ _ _=>.none) (fun _ _ _ _=>(eG (ag (cg dD (bz 0) (eG (ag aG aF))) (ag (cg dD (bz 1) (eG (ag aG aF))) aF)))))
 (aS (cy (aQ (aU jg.ok (hr.mono (by decide)) rfl jg.mg jg.kp jg.bi (ag (aQ (aU iD.ok (hr.mono (by decide)) rfl iD.mg iD.kp iD.bi (ag (bz 1) aF))) aF))))))
theorem mM:cD ["sums","kept","power","number"] ["sums"] (bo (top 10)):=qU
theorem tV {f:Addr} {fd:aI} (F:oy K "without_noughts" "without_noughts" (top 10) f fd):gf P w K mg base gi 1 f fd ["sums"] (cS K dg) :=
 rH F mM ug fun _ _ _ _ _ _ hr=>have nd:=mM.nd; have hu:=hr.units; (aK (kr (i:=1) nd rfl lZ)
 (aK (dB bu rfl (oJ (bz 0)) (jd rfl (cN (lF (i:=2) nd rfl) (cN (lF (i:=3) nd rfl) gW)) (cO (cO gY))) (aS (jv (fb (y7 hu) (bz 3) aG (gL _)) (aS (iq (bz 3) (je hu (bz 1) (bz 2)))) gx)))
 (aS (cy (aQ (bz 1))))))
theorem EC:cD ["one","other","sums","power","number","other_power","other_number","both"] ["one","other"] (bo (top 12)):=qU
theorem PC {f:Addr} {fd:aI} (F:oy K "times" "times" (top 12) f fd) {gC:Addr} {gG:aI} (ck:ny P w K mg base gi 1 gC gG "without_noughts" ["sums"] (cS K dg)):gf P w K mg base gi 2 f fd ["one","other"] (cS K jB) :=
 rH F EC Qe fun _ _ _ _ _ _ hr=>have nd:=EC.nd; have hu:=hr.units; (aK (kr (i:=2) nd rfl lZ)
 (aK (dB bu rfl (oJ (bz 0)) (jd rfl (cN (lF (i:=3) nd rfl) (cN (lF (i:=4) nd rfl) gW)) (cO (cO gY))) (aS (dB bu rfl (oJ (bz 1)) (jd rfl (cN (lF (i:=5) nd rfl) (cN (lF (i:=6) nd rfl) gW)) (cO (cO gY))) (aK (kr (i:=7) nd rfl (cg dD (bz 3) (bz 5)))
 (aS (iq (cg dD (jW cU fB jm mJ CU (bz 2) (ag (bz 7) (ag aG aF))) (cg y8 (bz 4) (bz 6))) (je hu (bz 2) (bz 7))))))))
 (aS (cy (aQ (aU ck.ok (hr.mono (by decide)) rfl ck.mg ck.kp ck.bi (ag (aQ (bz 2)) aF)))))))
theorem Bh:cD ["one","count","product","step"] ["one","count"] (bo (top 14)):=qU
theorem Mq {f:Addr} {fd:aI} (F:oy K "raised" "raised" (top 14) f fd) (gz:mg "range" = none) {Dq:Addr} {DE:aI} (mj:ny P w K mg base gi 2 Dq DE "times" ["one","other"] (cS K jB)):gf P w K mg base gi 3 f fd ["one","count"] (cS K iH) :=
 rH F Bh MS fun _ _ _ _ _ _ hr=>have nd:=Bh.nd; (aK (kr (i:=2) nd rfl (Ov aG aG))
 (aK (dB bu rfl (kO rfl gz (bz 1)) (lF (i:=3) nd rfl) (aS (kr (i:=2) nd rfl (aU mj.ok (hr.mono (by decide)) rfl mj.mg mj.kp mj.bi (ag (aQ (bz 2)) (ag (aQ (bz 0)) aF))))))
 (aS (cy (aQ (bz 2))))))
theorem qX:cD ["plan","pairs","far","closed","one","other","before","after"] ["plan","pairs"] (bo (top 23)):=qU
theorem zI {f:Addr} {fd:aI} (F:oy K "joined_plan" "joined_plan" (top 23) f fd) {tZ:Addr} {t9:aI} (iD:ny P w K mg base gi 1 tZ t9 "far_ends" ["threads"] (cS K j3)) {wG:Addr} {wJ:aI} (jg:ny P w K mg base gi 1 wG wJ "plan_of" ["far"] (cS K kM)):gf P w K mg base gi 2 f fd ["plan","pairs"] (cS K km) :=
 rH F qX Ac fun _ _ _ _ _ _ hr=>have nd:=qX.nd; have hu:=hr.units; (aK (kr (i:=2) nd rfl (aU iD.ok (hr.mono (by decide)) rfl iD.mg iD.kp iD.bi (ag (bz 0) aF)))
 (aK (kr (i:=3) nd rfl aG)
 (aK (dB bu rfl (gS (bz 1)) (jd rfl (cN (lF (i:=4) nd rfl) (cN (lF (i:=5) nd rfl) gW)) (cO (cO gY))) (aK (kr (i:=6) nd rfl (jW cU tH Lh mJ (Fe hu) (bz 2) (ag (bz 4) aF)))
 (aK (kr (i:=7) nd rfl (jW cU tH Lh mJ (Fe hu) (bz 2) (ag (bz 5) aF)))
 (aS (jv (fb (lG hu) (bz 6) (bz 5) (gL _)) (aS (kr (i:=3) nd rfl (cg dD (bz 3) aG))) (aK (iq (bz 7) (je hu (bz 2) (bz 6)))
 (aS (iq (bz 6) (je hu (bz 2) (bz 7))))))))))
 (aS (cy (aQ (eG (ag (aU jg.ok (hr.mono (by decide)) rfl jg.mg jg.kp jg.bi (ag (aQ (bz 2)) aF)) (ag (bz 3) aF)))))))))
theorem LB:cD ["name","split"] ["name","split"] (bo (top 18)):=qU
theorem Ms {f:Addr} {fd:aI} (F:oy K "joints" "joints" (top 18) f fd) {pv:Tok} (rP:mg "ALONG" = some (.int 0 pv)):gf P w K mg base gi 1 f fd ["name","split"] (cS K se) :=
 rH F LB MU fun _ _ _ _ _ _ hr=>have hu:=hr.units; (aK (jv (fb (lG hu) (bz 1) (xM rfl rP) (gL _)) (aS (cy (aQ (fK (ag (eG (ag (eG (ag (bz 0) (ag aG (ag aG aF)))) (ag (eG (ag (bz 0) (ag aG (ag aG aF)))) aF))) (ag (eG (ag (eG (ag (bz 0) (ag aG (ag aG aF)))) (ag (eG (ag (bz 0) (ag aG (ag aG aF)))) aF))) aF)))))) gx)
 (aS (cy (aQ (fK (ag (eG (ag (eG (ag (bz 0) (ag aG (ag aG aF)))) (ag (eG (ag (bz 0) (ag aG (ag aG aF)))) aF))) (ag (eG (ag (eG (ag (bz 0) (ag aG (ag aG aF)))) (ag (eG (ag (bz 0) (ag aG (ag aG aF)))) aF))) aF)))))))
theorem yB:cD ["one","by","factor","sums","power","number"] ["one","by","factor"] (bo (top 13)):=qU
theorem IG {f:Addr} {fd:aI} (F:oy K "shifted" "shifted" (top 13) f fd) {gC:Addr} {gG:aI} (ck:ny P w K mg base gi 1 gC gG "without_noughts" ["sums"] (cS K dg)):gf P w K mg base gi 2 f fd ["one","by","factor"] (cS K fC) :=
 rH F yB Jq fun _ _ _ _ _ _ hr=>have nd:=yB.nd; have hu:=hr.units; (aK (kr (i:=3) nd rfl lZ)
 (aK (dB bu rfl (oJ (bz 0)) (jd rfl (cN (lF (i:=4) nd rfl) (cN (lF (i:=5) nd rfl) gW)) (cO (cO gY))) (aS (iq (cg y8 (bz 5) (bz 2)) (je hu (bz 3) (cg dD (bz 4) (bz 1))))))
 (aS (cy (aQ (aU ck.ok (hr.mono (by decide)) rfl ck.mg ck.kp ck.bi (ag (aQ (bz 3)) aF)))))))
theorem ED:cD ["hand","split"] ["hand","split"] (bo (top 19)):=qU
theorem FN {f:Addr} {fd:aI} (F:oy K "power_at" "power_at" (top 19) f fd) {pv:Tok} (rP:mg "ALONG" = some (.int 0 pv)):gf P w K mg base gi 1 f fd ["hand","split"] (cS K nM) :=
 rH F ED GG fun _ _ _ _ _ _ hr=>have hu:=hr.units; (aS (cy (aQ (Ua (fb (lG hu) (bz 1) (xM rfl rP) (gL _)) (bz 0) (wg rY (bz 0))))))
theorem EH:cD ["one","other","sums","power","number"] ["one","other"] (bo (top 11)):=qU
theorem PD {f:Addr} {fd:aI} (F:oy K "added" "added" (top 11) f fd) (no_dict:mg "dict" = none) {gC:Addr} {gG:aI} (ck:ny P w K mg base gi 1 gC gG "without_noughts" ["sums"] (cS K dg)):gf P w K mg base gi 2 f fd ["one","other"] (cS K i0) :=
 rH F EH Qf fun _ _ _ _ _ _ hr=>have nd:=EH.nd; have hu:=hr.units; (aK (kr (i:=2) nd rfl (mV zW rfl no_dict xX (ag (bz 0) aF)))
 (aK (dB bu rfl (oJ (bz 1)) (jd rfl (cN (lF (i:=3) nd rfl) (cN (lF (i:=4) nd rfl) gW)) (cO (cO gY))) (aS (iq (cg dD (jW cU fB jm mJ CU (bz 2) (ag (bz 3) (ag aG aF))) (bz 4)) (je hu (bz 2) (bz 3)))))
 (aS (cy (aQ (aU ck.ok (hr.mono (by decide)) rfl ck.mg ck.kp ck.bi (ag (aQ (bz 2)) aF)))))))
theorem uH:cD ["sums","name","hand","after","plan","poly","split","made","part","kept"] ["sums","name","hand"] (bo (top 24)):=qU
theorem De {f:Addr} {fd:aI} (F:oy K "opened_at" "opened_at" (top 24) f fd) (no_dict:mg "dict" = none) {v8:Tok} (Jj:mg "AGAINST" = some (.int 1 v8)) {pv:Tok} (rP:mg "ALONG" = some (.int 0 pv)) {ni:Addr} (C8:mg "LOOP" = some (.ref ni)) (sE:(ni == dn)=false) (sF:BV K ni [(2,-1),(-2,-1)]=true) {AV:Addr} {A0:aI} (kY:ny P w K mg base gi 2 AV A0 "joined_plan" ["plan","pairs"] (cS K km)) {PJ:Addr} {PV:aI} (vI:ny P w K mg base gi 1 PJ PV "joints" ["name","split"] (cS K se)) {Mt:Addr} {MB:aI} (sM:ny P w K mg base gi 2 Mt MB "shifted" ["one","by","factor"] (cS K fC)) {IT:Addr} {Jd:aI} (pX:ny P w K mg base gi 1 IT Jd "power_at" ["hand","split"] (cS K nM)) {Dq:Addr} {DE:aI} (mj:ny P w K mg base gi 2 Dq DE "times" ["one","other"] (cS K jB)) {zK:Addr} {zP:aI} (kC:ny P w K mg base gi 3 zK zP "raised" ["one","count"] (cS K iH)) {RP:Addr} {RV:aI} (xW:ny P w K mg base gi 2 RP RV "added" ["one","other"] (cS K i0)):gf P w K mg base gi 4 f fd ["sums","name","hand"] (cS K lV) :=
 rH F uH DT fun _ _ _ _ _ _ hr=>have nd:=uH.nd; have hu:=hr.units; (aK (kr (i:=3) nd rfl Kc)
 (aK (xK (dB bu rfl (yU (bz 0)) (jd rfl (cN (lF (i:=4) nd rfl) (cN (lF (i:=5) nd rfl) gW)) (cO (cO gY))) (aS (dB bu rfl (gS (eG (ag (xM rfl rP) (ag (xM rfl Jj) aF)))) (lF (i:=6) nd rfl) (aK (kr (i:=7) nd rfl (aU kY.ok (hr.mono (by decide)) rfl kY.mg kY.kp kY.bi (ag (bz 4) (ag (aU vI.ok (hr.mono (by decide)) rfl vI.mg vI.kp vI.bi (ag (bz 1) (ag (bz 6) aF))) aF))))
 (aK (kr (i:=8) nd rfl (aU sM.ok (hr.mono (by decide)) rfl sM.mg sM.kp sM.bi (ag (aQ (aU mj.ok (hr.mono (by decide)) rfl mj.mg mj.kp mj.bi (ag (aQ (bz 5)) (ag (aQ (aU kC.ok (hr.mono (by decide)) rfl kC.mg kC.kp kC.bi (ag (aQ (Bq rfl no_dict rfl C8 sE sF (by decide) (by decide))) (ag (aQ (cc hu (bz 7) aG (fun _ _=>rfl))) aF)))) aF)))) (ag (aQ (aU pX.ok (hr.mono (by decide)) rfl pX.mg pX.kp pX.bi (ag (bz 2) (ag (bz 6) aF)))) (ag (aQ aG) aF)))))
 (aS (iq (aQ (aU xW.ok (hr.mono (by decide)) rfl xW.mg xW.kp xW.bi (ag (aQ (jW cU fB jm JP (Ff hu) (bz 3) (ag (aQ (cc hu (bz 7) aG (fun _ _=>rfl))) (ag (aQ lZ) aF)))) (ag (aQ (bz 8)) aF)))) (E5 hu (bz 3) (cc hu (bz 7) aG (fun _ _=>rfl)))))))))))
 (aK (kr (i:=9) nd rfl Kc)
 (aK (xK (dB bu rfl (yU (bz 3)) (jd rfl (cN (lF (i:=4) nd rfl) (cN (lF (i:=5) nd rfl) gW)) (cO (cO gY))) (aS (jv (j5 (bz 5)) (aS (iq (aQ (bz 5)) (E5 hu (bz 9) (bz 4)))) gx))))
 (aS (cy (aQ (bz 9))))))))
theorem Bi:cD ["drawing","names","hands","loose","sums","name","hand"] ["drawing","names"] (bo (top 25)):=qU
theorem Mr {f:Addr} {fd:aI} (F:oy K "opened" "opened" (top 25) f fd) (no_dict:mg "dict" = none) (jw:mg "len" = none) (wx:mg "zip" = none) {ni:Addr} (C8:mg "LOOP" = some (.ref ni)) (sE:(ni == dn)=false) (sF:BV K ni [(2,-1),(-2,-1)]=true) {Mx:Addr} {MF:aI} (sO:ny P w K mg base gi 2 Mx MF "hand_of" ["drawing","name"] (cS K iZ)) {Dp:Addr} {DD:aI} (mi:ny P w K mg base gi 2 Dp DD "whole_plan" ["drawing"] (cS K kU)) {zK:Addr} {zP:aI} (kC:ny P w K mg base gi 3 zK zP "raised" ["one","count"] (cS K iH)) {FV:Addr} {Gh:aI} (nS:ny P w K mg base gi 4 FV Gh "opened_at" ["sums","name","hand"] (cS K lV)):gf P w K mg base gi 5 f fd ["drawing","names"] (cS K sd) :=
 rH F Bi MT fun _ _ _ _ _ _ hr=>have nd:=Bi.nd; have hu:=hr.units; (aK (uY ["name","drawing"] (sc:=bo (top 25)) (XN:=["drawing","names","hands","loose","sums","name","hand"]) (i:=2) nd rfl rfl (gS (bz 1)) (fun _ _ _ _=>(lF (i:=0) (show (["name","drawing"]:List Str).Nodup by decide +kernel) rfl)) (fun _ _ _ _=>.none) (fun _ _ _ _=>(aU sO.ok (hr.mono (by decide)) rfl sO.mg sO.kp sO.bi (ag (bz 1) (ag (bz 0) aF)))))
 (aK (kr (i:=3) nd rfl (j6 mD rfl jw wM (ag (rz ["row"] (sc:=bo (top 25)) (XN:=["drawing","names","hands","loose","sums","name","hand"]) (gS (bz 0)) (fun _ _ _ _=>(lF (i:=0) (show (["row"]:List Str).Nodup by decide +kernel) rfl)) (fun _ _ _ _=>(.some (pE (j5 (bz 0))))) (fun _ _ _ _=>(bz 0))) aF)))
 (aK (kr (i:=4) nd rfl (aQ (Ou hu (aU mi.ok (hr.mono (by decide)) rfl mi.mg mi.kp mi.bi (ag (bz 0) aF)) (aQ (aU kC.ok (hr.mono (by decide)) rfl kC.mg kC.kp kC.bi (ag (aQ (Bq rfl no_dict rfl C8 sE sF (by decide) (by decide))) (ag (aQ (bz 3)) aF)))))))
 (aK (dB bu rfl (Kb rfl wx (bz 1) (bz 2)) (jd rfl (cN (lF (i:=5) nd rfl) (cN (lF (i:=6) nd rfl) gW)) (cO (cO gY))) (aS (kr (i:=4) nd rfl (aQ (aU nS.ok (hr.mono (by decide)) rfl nS.mg nS.kp nS.bi (ag (bz 4) (ag (bz 5) (ag (bz 6) aF))))))))
 (aS (cy (aQ (bz 4))))))))
theorem EE:cD ["drawing"] ["drawing"] (bo (top 5)):=qU
theorem FO {f:Addr} {fd:aI} (F:oy K "names_of" "names_of" (top 5) f fd) (mB:mg "sorted" = none) {oq:Addr} {ou:aI} (fc:ny P w K mg base gi 1 oq ou "passings_of" ["rows"] (cS K fY)):gf P w K mg base gi 2 f fd ["drawing"] (cS K ib) :=
 rH F EE xq fun _ _ _ _ _ _ hr=>have hu:=hr.units; (aS (cy (aQ (j6 (vG rfl hu) rfl mB B1 (ag (rz ["passing"] (sc:=bo (top 5)) (XN:=["drawing"]) (gS (aU fc.ok (hr.mono (by decide)) rfl fc.mg fc.kp fc.bi (ag (bz 0) aF))) (fun _ _ _ _=>(lF (i:=0) (show (["passing"]:List Str).Nodup by decide +kernel) rfl)) (fun _ _ _ _=>(.some (fb (lG hu) (cc hu (bz 0) aG (fun _ _=>rfl)) aG (gL _)))) (fun _ _ _ _=>(cc hu (bz 0) aG (fun _ _=>rfl)))) aF)))))
theorem HQ:cD ["drawing"] ["drawing"] (bo (top 26)):=qU
theorem IM {f:Addr} {fd:aI} (F:oy K "bracket" "bracket" (top 26) f fd) {PI:Addr} {PU:aI} (vH:ny P w K mg base gi 5 PI PU "opened" ["drawing","names"] (cS K sd)) {IU:Addr} {Je:aI} (pY:ny P w K mg base gi 2 IU Je "names_of" ["drawing"] (cS K ib)):gf P w K mg base gi 6 f fd ["drawing"] (cS K kN) :=
 rH F HQ Jt fun _ _ _ _ _ _ hr=>have hu:=hr.units; (aS (cy (aQ (jW cU fB jm JP (Ff hu) (aU vH.ok (hr.mono (by decide)) rfl vH.mg vH.kp vH.bi (ag (bz 0) (ag (aU pY.ok (hr.mono (by decide)) rfl pY.mg pY.kp pY.bi (ag (bz 0) aF)) aF))) (ag (aQ (eG aF)) (ag (aQ lZ) aF))))))
theorem oD:cD ["_law_rows","_law_name","_law_made","_law_row","_law_fresh","_law_passing"] ["_law_rows","_law_name"] (bo (top 42)):=qU
theorem wF {f:Addr} {fd:aI} (F:oy K "_law_exchanged" "_law_exchanged" (top 42) f fd):gf P w K mg base gi 1 f fd ["_law_rows","_law_name"] (cS K jb) :=
 rH F oD wR fun _ _ _ _ _ _ hr=>have nd:=oD.nd; have hu:=hr.units; (aK (kr (i:=2) nd rfl (fK aF))
 (aK (dB bu rfl (gS (bz 0)) (lF (i:=3) nd rfl) (aK (kr (i:=4) nd rfl (fK aF))
 (aK (dB bu rfl (gS (bz 3)) (lF (i:=5) nd rfl) (aK (jv (fb (lG hu) (cc hu (bz 5) aG (fun _ _=>rfl)) (bz 1) (gL _)) (aS (kr (i:=5) nd rfl (eG (ag (bz 1) (ag (cg CM aG (cc hu (bz 5) aG (fun _ _=>rfl))) (ag (wg rY (cc hu (bz 5) aG (fun _ _=>rfl))) aF)))))) gx)
 (aS (mU (jW eh fH fG k6 kP (bz 4) (ag (aQ (bz 5)) aF))))))
 (aS (mU (jW eh fH fG k6 kP (bz 2) (ag (aQ (bz 4)) aF)))))))
 (aS (cy (aQ (bz 2))))))
theorem uL:cD ["_law_rows","_law_name","_law_way","_law_at","_law_k"] ["_law_rows","_law_name","_law_way"] (bo (top 41)):=qU
theorem Dk {f:Addr} {fd:aI} (F:oy K "_law_found" "_law_found" (top 41) f fd) (jw:mg "len" = none) (gz:mg "range" = none):gf P w K mg base gi 1 f fd ["_law_rows","_law_name","_law_way"] (cS K kl) :=
 rH F uL DW fun _ _ _ _ _ _ hr=>have nd:=uL.nd; have hu:=hr.units; (aK (dB bu rfl (kO rfl gz (j6 mD rfl jw wM (ag (bz 0) aF))) (lF (i:=3) nd rfl) (aS (dB bu rfl (kO rfl gz (j6 mD rfl jw wM (ag (cc hu (bz 0) (bz 3) (fun _ _=>rfl)) aF))) (lF (i:=4) nd rfl) (aS (jv (MO.pt (CD (fb (lG hu) (cc hu (cc hu (cc hu (bz 0) (bz 3) (fun _ _=>rfl)) (bz 4) (fun _ _=>rfl)) aG (fun _ _=>rfl)) (bz 1) (gL _)) (yQ (fb (lG hu) (cc hu (cc hu (cc hu (bz 0) (bz 3) (fun _ _=>rfl)) (bz 4) (fun _ _=>rfl)) aG (fun _ _=>rfl)) (bz 2) (gL _))))) (aS (cy (aQ (eG (ag (bz 3) (ag (bz 4) aF)))))) gx)))))
 (aS (cy (aQ (eG (ag aG (ag aG aF)))))))
theorem mO:cD ["_law_rows","_law_name","_law_over","_law_under","_law_others","_law_row","_law_second","_law_cut"] ["_law_rows","_law_name"] (bo (top 43)):=qU
theorem tW {f:Addr} {fd:aI} (F:oy K "_law_split_along" "_law_split_along" (top 43) f fd) (jw:mg "len" = none) (sA:mg "list" = none) (gz:mg "range" = none) {FZ:Addr} {Gm:aI} (ig:ny P w K mg base gi 1 FZ Gm "_law_found" ["_law_rows","_law_name","_law_way"] (cS K kl)):gf P w K mg base gi 2 f fd ["_law_rows","_law_name"] (cS K ij) :=
 rH F mO ui fun _ _ _ _ _ _ hr=>have nd:=mO.nd; have hu:=hr.units; (aK (kr (i:=2) nd rfl (aU ig.ok (hr.mono (by decide)) rfl ig.mg ig.kp ig.bi (ag (bz 0) (ag (bz 1) (ag aG aF)))))
 (aK (kr (i:=3) nd rfl (aU ig.ok (hr.mono (by decide)) rfl ig.mg ig.kp ig.bi (ag (bz 0) (ag (bz 1) (ag aG aF)))))
 (aK (xK (uY ["_law_k","_law_rows","_law_over","_law_under"] (sc:=bo (top 43)) (XN:=["_law_rows","_law_name","_law_over","_law_under","_law_others","_law_row","_law_second","_law_cut"]) (i:=4) nd rfl rfl (kO rfl gz (j6 mD rfl jw wM (ag (bz 0) aF))) (fun _ _ _ _=>(lF (i:=0) (show (["_law_k","_law_rows","_law_over","_law_under"]:List Str).Nodup by decide +kernel) rfl)) (fun _ _ _ _=>(.some (MO.pt (CD (fb (y7 hu) (bz 0) (cc hu (bz 2) aG (fun _ _=>rfl)) (gL _)) (yQ (fb (y7 hu) (bz 0) (cc hu (bz 3) aG (fun _ _=>rfl)) (gL _))))))) (fun _ _ _ _=>(aQ (mV zV rfl sA K5 (ag (cc hu (bz 1) (bz 0) (fun _ _=>rfl)) aF))))))
 (aK (kr (i:=5) nd rfl (aQ (cg dD (fO (cc hu (bz 0) (cc hu (bz 2) aG (fun _ _=>rfl)) (fun _ _=>rfl)) (gy (cg dD (cc hu (bz 2) aG (fun _ _=>rfl)) aG)) iF) (fO (cc hu (bz 0) (cc hu (bz 2) aG (fun _ _=>rfl)) (fun _ _=>rfl)) iF (gy (cc hu (bz 2) aG (fun _ _=>rfl)))))))
 (aK (jv (fb (y7 hu) (cc hu (bz 2) aG (fun _ _=>rfl)) (cc hu (bz 3) aG (fun _ _=>rfl)) (gL _)) (aK (kr (i:=6) nd rfl (aQ (cg dD (fO (cc hu (bz 0) (cc hu (bz 3) aG (fun _ _=>rfl)) (fun _ _=>rfl)) (gy (cg dD (cc hu (bz 3) aG (fun _ _=>rfl)) aG)) iF) (fO (cc hu (bz 0) (cc hu (bz 3) aG (fun _ _=>rfl)) (fun _ _=>rfl)) iF (gy (cc hu (bz 3) aG (fun _ _=>rfl)))))))
 (aS (cy (aQ (cg dD (bz 4) (fK (ag (cg dD (bz 5) (bz 6)) aF))))))) gx)
 (aK (kr (i:=7) nd rfl (jW eh Ho PySem.F.type_list_index k6 (LX hu) (rz ["_law_passing"] (sc:=bo (top 43)) (XN:=["_law_rows","_law_name","_law_over","_law_under","_law_others","_law_row","_law_second","_law_cut"]) (gS (bz 5)) (fun _ _ _ _=>(lF (i:=0) (show (["_law_passing"]:List Str).Nodup by decide +kernel) rfl)) (fun _ _ _ _=>.none) (fun _ _ _ _=>(aQ (cc hu (bz 0) aG (fun _ _=>rfl))))) (ag (bz 1) aF)))
 (aS (cy (aQ (cg dD (bz 4) (fK (ag (fO (bz 5) iF (gy (bz 7))) (ag (fO (bz 5) (gy (cg dD (bz 7) aG)) iF) aF)))))))))))))
theorem Cm:cD ["_law_found_here"] ["_law_found_here"] (bo (top 29)):=qU
theorem Df {f:Addr} {fd:aI} (F:oy K "_law_whole" "_law_whole" (top 29) f fd) (CO:mg "bool" = none) (Ig:mg "int" = none) (gM:mg "isinstance" = none):gf P w K mg base gi 1 f fd ["_law_found_here"] (cS K dh) :=
 rH F Cm DU fun _ _ _ _ _ _ hr=>(aS (cy (aQ (Ri (CI "int" (by decide) rfl gM rfl Ig U6 (bz 0)) (Rf (Rg (CI "bool" (by decide) rfl gM rfl CO R6 (bz 0))))))))
theorem wW:cD ["_law_found_here","_law_at"] ["_law_found_here"] (bo (top 31)):=qU
theorem FP {f:Addr} {fd:aI} (F:oy K "_law_poly" "_law_poly" (top 31) f fd) (no_dict:mg "dict" = none) (gM:mg "isinstance" = none) {FW:Addr} {Gi:aI} (ie:ny P w K mg base gi 1 FW Gi "_law_whole" ["_law_found_here"] (cS K dh)):gf P w K mg base gi 2 f fd ["_law_found_here"] (cS K ic) :=
 rH F wW GH fun _ _ _ _ _ _ hr=>have nd:=wW.nd; have hu:=hr.units; (aK (jv (pE (j5 (CI "dict" (by decide) rfl gM rfl no_dict xX (bz 0)))) (aS (cy (aQ CJ))) gx)
 (aK (dB bu rfl (rq (bz 0)) (lF (i:=1) nd rfl) (aS (jv (MO.pt (CC (pE (j5 (aU ie.ok (hr.mono (by decide)) rfl ie.mg ie.kp ie.bi (ag (bz 1) aF)))) (CC (pE (j5 (aU ie.ok (hr.mono (by decide)) rfl ie.mg ie.kp ie.bi (ag (cc hu (bz 0) (bz 1) (fun _ _=>rfl)) aF)))) (J3 (fb (lG hu) (cc hu (bz 0) (bz 1) (fun _ _=>rfl)) aG (gL _)))))) (aS (cy (aQ CJ))) gx)))
 (aS (cy (aQ CJ)))))
theorem uI:cD ["_law_one","_law_kept","_law_at"] ["_law_one"] (bo (top 32)):=qU
theorem Dh {f:Addr} {fd:aI} (F:oy K "_law_pared" "_law_pared" (top 32) f fd):gf P w K mg base gi 1 f fd ["_law_one"] (cS K eZ) :=
 rH F uI DV fun _ _ _ _ _ _ hr=>have nd:=uI.nd; have hu:=hr.units; (aK (kr (i:=1) nd rfl lZ)
 (aK (dB bu rfl (rq (bz 0)) (lF (i:=2) nd rfl) (aS (jv (fb (y7 hu) (cc hu (bz 0) (bz 2) (fun _ _=>rfl)) aG (gL _)) (aS (iq (cc hu (bz 0) (bz 2) (fun _ _=>rfl)) (je hu (bz 1) (bz 2)))) gx)))
 (aS (cy (aQ (bz 1))))))
theorem yD:cD ["_law_one","_law_other","_law_total","_law_at"] ["_law_one","_law_other"] (bo (top 33)):=qU
theorem IJ {f:Addr} {fd:aI} (F:oy K "_law_sum" "_law_sum" (top 33) f fd) (no_dict:mg "dict" = none) {rK:Addr} {rO:aI} (gH:ny P w K mg base gi 1 rK rO "_law_pared" ["_law_one"] (cS K eZ)):gf P w K mg base gi 2 f fd ["_law_one","_law_other"] (cS K iX) :=
 rH F yD uh fun _ _ _ _ _ _ hr=>have nd:=yD.nd; have hu:=hr.units; (aK (kr (i:=2) nd rfl (mV zW rfl no_dict xX (ag (bz 0) aF)))
 (aK (dB bu rfl (rq (bz 1)) (lF (i:=3) nd rfl) (aS (iq (cg dD (jW cU fB jm mJ CU (bz 2) (ag (bz 3) (ag aG aF))) (cc hu (bz 1) (bz 3) (fun _ _=>rfl))) (je hu (bz 2) (bz 3)))))
 (aS (cy (aQ (aU gH.ok (hr.mono (by decide)) rfl gH.mg gH.kp gH.bi (ag (aQ (bz 2)) aF)))))))
theorem uK:cD ["_law_one","_law_by","_law_factor","_law_made","_law_at"] ["_law_one","_law_by","_law_factor"] (bo (top 34)):=qU
theorem Dj {f:Addr} {fd:aI} (F:oy K "_law_moved" "_law_moved" (top 34) f fd) {rK:Addr} {rO:aI} (gH:ny P w K mg base gi 1 rK rO "_law_pared" ["_law_one"] (cS K eZ)):gf P w K mg base gi 2 f fd ["_law_one","_law_by","_law_factor"] (cS K e7) :=
 rH F uK qe fun _ _ _ _ _ _ hr=>have nd:=uK.nd; have hu:=hr.units; (aK (kr (i:=3) nd rfl lZ)
 (aK (dB bu rfl (rq (bz 0)) (lF (i:=4) nd rfl) (aS (iq (cg y8 (cc hu (bz 0) (bz 4) (fun _ _=>rfl)) (bz 2)) (je hu (bz 3) (cg dD (bz 4) (bz 1))))))
 (aS (cy (aQ (aU gH.ok (hr.mono (by decide)) rfl gH.mg gH.kp gH.bi (ag (aQ (bz 3)) aF)))))))
theorem NX:cD ["_law_script","_law_strings","_law_rows","_law_part","_law_name","_law_hand","_law_one","_law_other","_law_first","_law_second","_law_third","_law_left"] ["_law_script"] (bo (top 44)):=qU
theorem UR {f:Addr} {fd:aI} (F:oy K "law" "law" (top 44) f fd) {AU:Addr} {AZ:aI} (bF:ny P w K mg base gi 1 AU AZ "_law_cell_at" ["_law_script","_law_k"] (cS K bO)) {AS:Addr} {AY:aI} (kX:ny P w K mg base gi 3 AS AY "_law_drawing" ["_law_cells","_law_strings","_law_spread"] (cS K fZ)) {pQ:Addr} {pW:aI} (cT:ny P w K mg base gi 2 pQ pW "_law_digits" ["_law_cell","_law_sizes"] (cS K e9)) {tX:Addr} {t7:aI} (iB:ny P w K mg base gi 1 tX t7 "_law_free" ["_law_names_here","_law_name"] (cS K gw)) {FX:Addr} {Gj:aI} (nU:ny P w K mg base gi 1 FX Gj "_law_names" ["_law_rows"] (cS K ik)) {wH:Addr} {wK:aI} (fP:ny P w K mg base gi 2 wH wK "_law_put" ["_law_rows","_law_at","_law_place","_law_more"] (cS K iY)) {Mz:Addr} {MG:aI} (gq:ny P w K mg base gi 6 Mz MG "bracket" ["drawing"] (cS K kN)) {tY:Addr} {t8:aI} (iC:ny P w K mg base gi 1 tY t8 "_law_copy" ["_law_rows"] (cS K eT)) {xB:Addr} {xC:aI} (jS:ny P w K mg base gi 1 xB xC "_law_exchanged" ["_law_rows","_law_name"] (cS K jb)) {vw:Addr} {vC:aI} (iP:ny P w K mg base gi 2 vw vC "_law_split_along" ["_law_rows","_law_name"] (cS K ij)) {IV:Addr} {Jf:aI} (fD:ny P w K mg base gi 2 IV Jf "_law_poly" ["_law_found_here"] (cS K ic)) {Mw:Addr} {ME:aI} (j7:ny P w K mg base gi 2 Mw ME "_law_sum" ["_law_one","_law_other"] (cS K iX)) {FY:Addr} {Gk:aI} (dw:ny P w K mg base gi 2 FY Gk "_law_moved" ["_law_one","_law_by","_law_factor"] (cS K e7)):gf P w K mg base gi 7 f fd ["_law_script"] (cS K K2.Bc) :=
 rH F NX Va fun _ _ _ _ _ _ hr=>have nd:=NX.nd; have hu:=hr.units; (aK (kr (i:=1) nd rfl (cg dD aG (cg ku (aU bF.ok (hr.mono (by decide)) rfl bF.mg bF.kp bF.bi (ag (bz 0) (ag aG aF))) aG)))
 (aK (kr (i:=2) nd rfl (aQ (aU kX.ok (hr.mono (by decide)) rfl kX.mg kX.kp kX.bi (ag (fO (bz 0) (gy aG) (gy (cg dD aG (cg ku (aU bF.ok (hr.mono (by decide)) rfl bF.mg bF.kp bF.bi (ag (bz 0) (ag aG aF))) aG)))) (ag (bz 1) (ag aG aF))))))
 (aK (kr (i:=3) nd rfl (aU cT.ok (hr.mono (by decide)) rfl cT.mg cT.kp cT.bi (ag (aQ (aU bF.ok (hr.mono (by decide)) rfl bF.mg bF.kp bF.bi (ag (bz 0) (ag aG aF)))) (ag (aQ (fK (ag aG (ag aG aF)))) aF))))
 (aK (kr (i:=4) nd rfl (aU iB.ok (hr.mono (by decide)) rfl iB.mg iB.kp iB.bi (ag (aU nU.ok (hr.mono (by decide)) rfl nU.mg nU.kp nU.bi (ag (bz 2) aF)) (ag (cg dD aG (cc hu (bz 3) aG (fun _ _=>rfl))) aF))))
 (aK (kr (i:=5) nd rfl (cg CM aG (cg pG aG (cc hu (bz 3) aG (fun _ _=>rfl)))))
 (aK (kr (i:=6) nd rfl (cg ku (aU bF.ok (hr.mono (by decide)) rfl bF.mg bF.kp bF.bi (ag (bz 0) (ag aG aF))) (bz 1)))
 (aK (kr (i:=7) nd rfl (cg ku (cg y9 (aU bF.ok (hr.mono (by decide)) rfl bF.mg bF.kp bF.bi (ag (bz 0) (ag aG aF))) aG) (bz 1)))
 (aK (jv (MO.pt (CD (fb (CN hu) (bz 1) aG (gL _)) (yQ (fb (CN hu) (bz 7) (bz 6) (gL _))))) (aS (kr (i:=7) nd rfl (cg ku (cg dD (bz 6) aG) aG))) gx)
 (aK (kr (i:=2) nd rfl (aQ (aU fP.ok (hr.mono (by decide)) rfl fP.mg fP.kp fP.bi (ag (aQ (bz 2)) (ag (aQ (bz 6)) (ag (aQ (cc hu (aU cT.ok (hr.mono (by decide)) rfl cT.mg cT.kp cT.bi (ag (aQ (aU bF.ok (hr.mono (by decide)) rfl bF.mg bF.kp bF.bi (ag (bz 0) (ag aG aF)))) (ag (aQ (fK (ag aG aF))) aF))) aG (fun _ _=>rfl))) (ag (aQ (fK (ag (eG (ag (bz 4) (ag aG (ag (bz 5) aF)))) aF))) aF)))))))
 (aK (kr (i:=2) nd rfl (aQ (aU fP.ok (hr.mono (by decide)) rfl fP.mg fP.kp fP.bi (ag (aQ (bz 2)) (ag (aQ (bz 7)) (ag (aQ (cc hu (aU cT.ok (hr.mono (by decide)) rfl cT.mg cT.kp cT.bi (ag (aQ (aU bF.ok (hr.mono (by decide)) rfl bF.mg bF.kp bF.bi (ag (bz 0) (ag aG aF)))) (ag (aQ (fK (ag aG aF))) aF))) aG (fun _ _=>rfl))) (ag (aQ (fK (ag (eG (ag (bz 4) (ag aG (ag (bz 5) aF)))) aF))) aF)))))))
 (aK (kr (i:=8) nd rfl (aQ (aU gq.ok (hr.mono (by decide)) rfl gq.mg gq.kp gq.bi (ag (aQ (aU iC.ok (hr.mono (by decide)) rfl iC.mg iC.kp iC.bi (ag (bz 2) aF))) aF))))
 (aK (kr (i:=9) nd rfl (aQ (aU gq.ok (hr.mono (by decide)) rfl gq.mg gq.kp gq.bi (ag (aQ (aU jS.ok (hr.mono (by decide)) rfl jS.mg jS.kp jS.bi (ag (aQ (bz 2)) (ag (aQ (bz 4)) aF)))) aF))))
 (aK (kr (i:=10) nd rfl (aQ (aU gq.ok (hr.mono (by decide)) rfl gq.mg gq.kp gq.bi (ag (aQ (aU iP.ok (hr.mono (by decide)) rfl iP.mg iP.kp iP.bi (ag (aQ (bz 2)) (ag (aQ (bz 4)) aF)))) aF))))
 (aK (jv (MO.pt (CC (pE (j5 (aU fD.ok (hr.mono (by decide)) rfl fD.mg fD.kp fD.bi (ag (bz 8) aF)))) (CC (pE (j5 (aU fD.ok (hr.mono (by decide)) rfl fD.mg fD.kp fD.bi (ag (bz 9) aF)))) (J3 (pE (j5 (aU fD.ok (hr.mono (by decide)) rfl fD.mg fD.kp fD.bi (ag (bz 10) aF)))))))) (aS (cy (aQ CJ))) gx)
 (aK (kr (i:=11) nd rfl (aU j7.ok (hr.mono (by decide)) rfl j7.mg j7.kp j7.bi (ag (aQ (aU dw.ok (hr.mono (by decide)) rfl dw.mg dw.kp dw.bi (ag (aQ (bz 8)) (ag (aQ (bz 5)) (ag (aQ aG) aF))))) (ag (aQ (aU dw.ok (hr.mono (by decide)) rfl dw.mg dw.kp dw.bi (ag (aQ (bz 9)) (ag (aQ (wg rY (bz 5))) (ag (aQ (wg rY aG)) aF))))) aF))))
 (aS (cy (aQ (Rh (CN hu) (bz 11) (aU j7.ok (hr.mono (by decide)) rfl j7.mg j7.kp j7.bi (ag (aQ (aU dw.ok (hr.mono (by decide)) rfl dw.mg dw.kp dw.bi (ag (aQ (bz 10)) (ag (aQ (cg pG aG (bz 5))) (ag (aQ aG) aF))))) (ag (aQ (aU dw.ok (hr.mono (by decide)) rfl dw.mg dw.kp dw.bi (ag (aQ (bz 10)) (ag (aQ (cg pG (wg rY aG) (bz 5))) (ag (aQ (wg rY aG)) aF))))) aF))) (gL _))))))))))))))))))))
end
theorem all_mk {l:B9} {w:World} {K:ai} {h:Heap} {mg:Str->Option Value} {fa:Addr} (X:K.In h) (G:h.Ns cb mg) (hfa:mg "law" = some (.ref fa))
  {f0:Addr} {d0:aI} (F0:At K "_law_cell_at" (top 28) f0 d0)
  {f1:Addr} {d1:aI} (F1:At K "_law_pick" (top 30) f1 d1)
  {f2:Addr} {d2:aI} (F2:At K "_law_digits" (top 38) f2 d2)
  {f3:Addr} {d3:aI} (F3:At K "_law_free" (top 36) f3 d3)
  {f4:Addr} {d4:aI} (F4:At K "_law_copy" (top 35) f4 d4)
  {f5:Addr} {d5:aI} (F5:At K "_law_put" (top 37) f5 d5)
  {f6:Addr} {d6:aI} (F6:At K "_law_drawing" (top 39) f6 d6)
  {f7:Addr} {d7:aI} (F7:At K "_law_names" (top 40) f7 d7)
  {f8:Addr} {d8:aI} (F8:At K "passings_of" (top 4) f8 d8)
  {f9:Addr} {d9:aI} (F9:At K "hand_of" (top 6) f9 d9)
  {XW:Addr} {d10:aI} (Yp:At K "next_of" (top 7) XW d10)
  {f11:Addr} {d11:aI} (VA:At K "plan_of" (top 20) f11 d11)
  {f12:Addr} {d12:aI} (Vz:At K "far_ends" (top 22) f12 d12)
  {f13:Addr} {d13:aI} (Yo:At K "whole_plan" (top 21) f13 d13)
  {f14:Addr} {d14:aI} (Tn:At K "without_noughts" (top 10) f14 d14)
  {f15:Addr} {d15:aI} (Vy:At K "times" (top 12) f15 d15)
  {f16:Addr} {d16:aI} (Vx:At K "raised" (top 14) f16 d16)
  {f17:Addr} {d17:aI} (Yn:At K "joined_plan" (top 23) f17 d17)
  {f18:Addr} {d18:aI} (Ym:At K "joints" (top 18) f18 d18)
  {f19:Addr} {d19:aI} (Yl:At K "shifted" (top 13) f19 d19)
  {f20:Addr} {d20:aI} (Yk:At K "power_at" (top 19) f20 d20)
  {f21:Addr} {d21:aI} (Yj:At K "added" (top 11) f21 d21)
  {f22:Addr} {d22:aI} (Yi:At K "opened_at" (top 24) f22 d22)
  {f23:Addr} {d23:aI} (Yh:At K "opened" (top 25) f23 d23)
  {f24:Addr} {d24:aI} (Yg:At K "names_of" (top 5) f24 d24)
  {f25:Addr} {d25:aI} (Ye:At K "bracket" (top 26) f25 d25)
  {f26:Addr} {d26:aI} (Yd:At K "_law_exchanged" (top 42) f26 d26)
  {f27:Addr} {d27:aI} (Yc:At K "_law_found" (top 41) f27 d27)
  {f28:Addr} {d28:aI} (Yb:At K "_law_split_along" (top 43) f28 d28)
  {f29:Addr} {d29:aI} (X9:At K "_law_whole" (top 29) f29 d29)
  {f30:Addr} {d30:aI} (X8:At K "_law_poly" (top 31) f30 d30)
  {f31:Addr} {d31:aI} (Vw:At K "_law_pared" (top 32) f31 d31)
  {f32:Addr} {d32:aI} (X7:At K "_law_sum" (top 33) f32 d32)
  {f33:Addr} {d33:aI} (X6:At K "_law_moved" (top 34) f33 d33)
  {f34:Addr} {d34:aI} (F34:At K "law" (top 44) f34 d34)
  (VD:autoParam (dF K cb "len" = some none) Aq._auto_1) (Em:autoParam (dF K cb "enumerate" = some none) Aq._auto_1) (Tp:autoParam (dF K cb "list" = some none) Aq._auto_1) (QL:autoParam (dF K cb "range" = some none) Aq._auto_1) (VC:autoParam (dF K cb "zip" = some none) Aq._auto_1) (NG:autoParam (dF K cb "sorted" = some none) Aq._auto_1) (QK:autoParam (dF K cb "tuple" = some none) Aq._auto_1) (Tq:autoParam (dF K cb "dict" = some none) Aq._auto_1) (Ts:autoParam (dF K cb "bool" = some none) Aq._auto_1) (VE:autoParam (dF K cb "int" = some none) Aq._auto_1) (Cd:autoParam (dF K cb "isinstance" = some none) Aq._auto_1) {pv:Tok} (zS:autoParam (dF K cb "ALONG" = some (some (.int 0 pv))) Aq._auto_1) {v8:Tok} (Ji:autoParam (dF K cb "AGAINST" = some (some (.int 1 v8))) Aq._auto_1) {ni:Addr} (KH:autoParam (dF K cb "LOOP" = some (some (.ref ni))) Aq._auto_1) (sE:autoParam ((ni == dn)=false) Ae._auto_1) (sF:autoParam (BV K ni [(2,-1),(-2,-1)]=true) Af._auto_1) :
  ∃ fd:aI,(∀ (s:aA) (v:Value),NB s fd ⟨[v],[]⟩ [("_law_script",v)])/\∀ base:Heap,K.In base->base.Ns cb mg->gf l.prog w K mg base gi 7 fa fd ["_law_script"] (cS K K2.Bc):=by
 have e:=hfa.symm.trans (kL X G F34.a);cases e;have b0:=F0.F.binds (ps:=["_law_script","_law_k"]) fun _ _ _ _ _ _ us hl=>by obtain⟨_,_,rfl⟩:=tS hl; rfl
 have b1:=F1.F.binds (ps:=["_law_cell","_law_prime","_law_many"]) fun _ _ _ _ _ _ us hl=>by obtain⟨_,_,_,rfl⟩:=Iw hl; rfl
 have b2:=F2.F.binds (ps:=["_law_cell","_law_sizes"]) fun _ _ _ _ _ _ us hl=>by obtain⟨_,_,rfl⟩:=tS hl; rfl
 have b3:=F3.F.binds (ps:=["_law_names_here","_law_name"]) fun _ _ _ _ _ _ us hl=>by obtain⟨_,_,rfl⟩:=tS hl; rfl
 have b4:=F4.F.binds (ps:=["_law_rows"]) fun _ _ _ _ _ _ us hl=>by obtain⟨_,rfl⟩:=vh hl; rfl
 have b5:=F5.F.binds (ps:=["_law_rows","_law_at","_law_place","_law_more"]) fun _ _ _ _ _ _ us hl=>by obtain⟨_,_,_,_,rfl⟩:=Zs hl; rfl
 have b6:=F6.F.binds (ps:=["_law_cells","_law_strings","_law_spread"]) fun _ _ _ _ _ _ us hl=>by obtain⟨_,_,_,rfl⟩:=Iw hl; rfl
 have b7:=F7.F.binds (ps:=["_law_rows"]) fun _ _ _ _ _ _ us hl=>by obtain⟨_,rfl⟩:=vh hl; rfl
 have b8:=F8.F.binds (ps:=["rows"]) fun _ _ _ _ _ _ us hl=>by obtain⟨_,rfl⟩:=vh hl; rfl
 have b9:=F9.F.binds (ps:=["drawing","name"]) fun _ _ _ _ _ _ us hl=>by obtain⟨_,_,rfl⟩:=tS hl; rfl
 have b10:=Yp.F.binds (ps:=["drawing"]) fun _ _ _ _ _ _ us hl=>by obtain⟨_,rfl⟩:=vh hl; rfl
 have b11:=VA.F.binds (ps:=["far"]) fun _ _ _ _ _ _ us hl=>by obtain⟨_,rfl⟩:=vh hl; rfl
 have b12:=Vz.F.binds (ps:=["threads"]) fun _ _ _ _ _ _ us hl=>by obtain⟨_,rfl⟩:=vh hl; rfl
 have b13:=Yo.F.binds (ps:=["drawing"]) fun _ _ _ _ _ _ us hl=>by obtain⟨_,rfl⟩:=vh hl; rfl
 have b14:=Tn.F.binds (ps:=["sums"]) fun _ _ _ _ _ _ us hl=>by obtain⟨_,rfl⟩:=vh hl; rfl
 have b15:=Vy.F.binds (ps:=["one","other"]) fun _ _ _ _ _ _ us hl=>by obtain⟨_,_,rfl⟩:=tS hl; rfl
 have b16:=Vx.F.binds (ps:=["one","count"]) fun _ _ _ _ _ _ us hl=>by obtain⟨_,_,rfl⟩:=tS hl; rfl
 have b17:=Yn.F.binds (ps:=["plan","pairs"]) fun _ _ _ _ _ _ us hl=>by obtain⟨_,_,rfl⟩:=tS hl; rfl
 have b18:=Ym.F.binds (ps:=["name","split"]) fun _ _ _ _ _ _ us hl=>by obtain⟨_,_,rfl⟩:=tS hl; rfl
 have b19:=Yl.F.binds (ps:=["one","by","factor"]) fun _ _ _ _ _ _ us hl=>by obtain⟨_,_,_,rfl⟩:=Iw hl; rfl
 have b20:=Yk.F.binds (ps:=["hand","split"]) fun _ _ _ _ _ _ us hl=>by obtain⟨_,_,rfl⟩:=tS hl; rfl
 have b21:=Yj.F.binds (ps:=["one","other"]) fun _ _ _ _ _ _ us hl=>by obtain⟨_,_,rfl⟩:=tS hl; rfl
 have b22:=Yi.F.binds (ps:=["sums","name","hand"]) fun _ _ _ _ _ _ us hl=>by obtain⟨_,_,_,rfl⟩:=Iw hl; rfl
 have b23:=Yh.F.binds (ps:=["drawing","names"]) fun _ _ _ _ _ _ us hl=>by obtain⟨_,_,rfl⟩:=tS hl; rfl
 have b24:=Yg.F.binds (ps:=["drawing"]) fun _ _ _ _ _ _ us hl=>by obtain⟨_,rfl⟩:=vh hl; rfl
 have b25:=Ye.F.binds (ps:=["drawing"]) fun _ _ _ _ _ _ us hl=>by obtain⟨_,rfl⟩:=vh hl; rfl
 have b26:=Yd.F.binds (ps:=["_law_rows","_law_name"]) fun _ _ _ _ _ _ us hl=>by obtain⟨_,_,rfl⟩:=tS hl; rfl
 have b27:=Yc.F.binds (ps:=["_law_rows","_law_name","_law_way"]) fun _ _ _ _ _ _ us hl=>by obtain⟨_,_,_,rfl⟩:=Iw hl; rfl
 have b28:=Yb.F.binds (ps:=["_law_rows","_law_name"]) fun _ _ _ _ _ _ us hl=>by obtain⟨_,_,rfl⟩:=tS hl; rfl
 have b29:=X9.F.binds (ps:=["_law_found_here"]) fun _ _ _ _ _ _ us hl=>by obtain⟨_,rfl⟩:=vh hl; rfl
 have b30:=X8.F.binds (ps:=["_law_found_here"]) fun _ _ _ _ _ _ us hl=>by obtain⟨_,rfl⟩:=vh hl; rfl
 have b31:=Vw.F.binds (ps:=["_law_one"]) fun _ _ _ _ _ _ us hl=>by obtain⟨_,rfl⟩:=vh hl; rfl
 have b32:=X7.F.binds (ps:=["_law_one","_law_other"]) fun _ _ _ _ _ _ us hl=>by obtain⟨_,_,rfl⟩:=tS hl; rfl
 have b33:=X6.F.binds (ps:=["_law_one","_law_by","_law_factor"]) fun _ _ _ _ _ _ us hl=>by obtain⟨_,_,_,rfl⟩:=Iw hl; rfl
 have jw:=dG X G VD;have pJ:=dG X G Em;have sA:=dG X G Tp;have gz:=dG X G QL;have wx:=dG X G VC;have mB:=dG X G NG;have ze:=dG X G QK;have no_dict:=dG X G Tq;have CO:=dG X G Ts;have Ig:=dG X G VE;have gM:=dG X G Cd;obtain⟨Fa,Fl⟩:=F34;obtain⟨oc,od,kV,doc,pm,an,oY,ct,Oz,rfl,lk,KA⟩:=Fl.ex;refine⟨kD "law" "law" (nQ (top 44)) (kA (top 44)) (bo (top 44)) .none kV doc pm an oY ct,fun s v=>.of_eq rfl,fun base _ _=>?_⟩;have ok0:=zH (P:=l.prog) (w:=w) (mg:=mg) (base:=base) F0.F jw;have Xz:=FQ (P:=l.prog) (w:=w) (mg:=mg) (base:=base) F1.F;have SD:=AQ (P:=l.prog) (w:=w) (mg:=mg) (base:=base) F2.F pJ ⟨Xz,F1.mg X G,F1.F.kp,b1⟩;have Vh:=FR (P:=l.prog) (w:=w) (mg:=mg) (base:=base) F3.F;have ok4:=FT (P:=l.prog) (w:=w) (mg:=mg) (base:=base) F4.F sA;have ok5:=IK (P:=l.prog) (w:=w) (mg:=mg) (base:=base) F5.F jw ⟨ok4,F4.mg X G,F4.F.kp,b4⟩;have ok6:=zG (P:=l.prog) (w:=w) (mg:=mg) (base:=base) F6.F gz ⟨SD,F2.mg X G,F2.F.kp,b2⟩ ⟨Vh,F3.mg X G,F3.F.kp,b3⟩ ⟨ok5,F5.mg X G,F5.F.kp,b5⟩;have ok7:=Di (P:=l.prog) (w:=w) (mg:=mg) (base:=base) F7.F;have ok8:=zF (P:=l.prog) (w:=w) (mg:=mg) (base:=base) F8.F;have ok9:=IL (P:=l.prog) (w:=w) (mg:=mg) (base:=base) F9.F ⟨ok8,F8.mg X G,F8.F.kp,b8⟩;have Zd:=II (P:=l.prog) (w:=w) (mg:=mg) (base:=base) Yp.F wx;have Wa:=IH (P:=l.prog) (w:=w) (mg:=mg) (base:=base) VA.F mB ze;have V9:=FU (P:=l.prog) (w:=w) (mg:=mg) (base:=base) Vz.F;have Zc:=AP (P:=l.prog) (w:=w) (mg:=mg) (base:=base) Yo.F ⟨Zd,Yp.mg X G,Yp.F.kp,b10⟩ ⟨Wa,VA.mg X G,VA.F.kp,b11⟩ ⟨V9,Vz.mg X G,Vz.F.kp,b12⟩;have Ul:=tV (P:=l.prog) (w:=w) (mg:=mg) (base:=base) Tn.F;have V8:=PC (P:=l.prog) (w:=w) (mg:=mg) (base:=base) Vy.F ⟨Ul,Tn.mg X G,Tn.F.kp,b14⟩;have V7:=Mq (P:=l.prog) (w:=w) (mg:=mg) (base:=base) Vx.F gz ⟨V8,Vy.mg X G,Vy.F.kp,b15⟩;have Zb:=zI (P:=l.prog) (w:=w) (mg:=mg) (base:=base) Yn.F ⟨V9,Vz.mg X G,Vz.F.kp,b12⟩ ⟨Wa,VA.mg X G,VA.F.kp,b11⟩;have Za:=Ms (P:=l.prog) (w:=w) (mg:=mg) (base:=base) Ym.F (kL X G zS);have Y9:=IG (P:=l.prog) (w:=w) (mg:=mg) (base:=base) Yl.F ⟨Ul,Tn.mg X G,Tn.F.kp,b14⟩;have Y8:=FN (P:=l.prog) (w:=w) (mg:=mg) (base:=base) Yk.F (kL X G zS);have Y7:=PD (P:=l.prog) (w:=w) (mg:=mg) (base:=base) Yj.F no_dict ⟨Ul,Tn.mg X G,Tn.F.kp,b14⟩;have Y6:=De (P:=l.prog) (w:=w) (mg:=mg) (base:=base) Yi.F no_dict (kL X G Ji) (kL X G zS) (kL X G KH) sE sF ⟨Zb,Yn.mg X G,Yn.F.kp,b17⟩ ⟨Za,Ym.mg X G,Ym.F.kp,b18⟩ ⟨Y9,Yl.mg X G,Yl.F.kp,b19⟩ ⟨Y8,Yk.mg X G,Yk.F.kp,b20⟩ ⟨V8,Vy.mg X G,Vy.F.kp,b15⟩ ⟨V7,Vx.mg X G,Vx.F.kp,b16⟩ ⟨Y7,Yj.mg X G,Yj.F.kp,b21⟩;have Y5:=Mr (P:=l.prog) (w:=w) (mg:=mg) (base:=base) Yh.F no_dict jw wx (kL X G KH) sE sF ⟨ok9,F9.mg X G,F9.F.kp,b9⟩ ⟨Zc,Yo.mg X G,Yo.F.kp,b13⟩ ⟨V7,Vx.mg X G,Vx.F.kp,b16⟩ ⟨Y6,Yi.mg X G,Yi.F.kp,b22⟩;have Y4:=FO (P:=l.prog) (w:=w) (mg:=mg) (base:=base) Yg.F mB ⟨ok8,F8.mg X G,F8.F.kp,b8⟩;have Y3:=IM (P:=l.prog) (w:=w) (mg:=mg) (base:=base) Ye.F ⟨Y5,Yh.mg X G,Yh.F.kp,b23⟩ ⟨Y4,Yg.mg X G,Yg.F.kp,b24⟩;have Y2:=wF (P:=l.prog) (w:=w) (mg:=mg) (base:=base) Yd.F;have Y1:=Dk (P:=l.prog) (w:=w) (mg:=mg) (base:=base) Yc.F jw gz;have Y0:=tW (P:=l.prog) (w:=w) (mg:=mg) (base:=base) Yb.F jw sA gz ⟨Y1,Yc.mg X G,Yc.F.kp,b27⟩;have YZ:=Df (P:=l.prog) (w:=w) (mg:=mg) (base:=base) X9.F CO Ig gM;have YY:=FP (P:=l.prog) (w:=w) (mg:=mg) (base:=base) X8.F no_dict gM ⟨YZ,X9.mg X G,X9.F.kp,b29⟩;have V6:=Dh (P:=l.prog) (w:=w) (mg:=mg) (base:=base) Vw.F;have YX:=IJ (P:=l.prog) (w:=w) (mg:=mg) (base:=base) X7.F no_dict ⟨V6,Vw.mg X G,Vw.F.kp,b31⟩;have YW:=Dj (P:=l.prog) (w:=w) (mg:=mg) (base:=base) X6.F ⟨V6,Vw.mg X G,Vw.F.kp,b31⟩;exact UR Fl ⟨ok0,F0.mg X G,F0.F.kp,b0⟩ ⟨ok6,F6.mg X G,F6.F.kp,b6⟩ ⟨SD,F2.mg X G,F2.F.kp,b2⟩ ⟨Vh,F3.mg X G,F3.F.kp,b3⟩ ⟨ok7,F7.mg X G,F7.F.kp,b7⟩ ⟨ok5,F5.mg X G,F5.F.kp,b5⟩ ⟨Y3,Ye.mg X G,Ye.F.kp,b25⟩ ⟨ok4,F4.mg X G,F4.F.kp,b4⟩ ⟨Y2,Yd.mg X G,Yd.F.kp,b26⟩ ⟨Y0,Yb.mg X G,Yb.F.kp,b28⟩ ⟨YY,X8.mg X G,X8.F.kp,b30⟩ ⟨YX,X7.mg X G,X7.F.kp,b32⟩ ⟨YW,X6.mg X G,X6.F.kp,b33⟩
section
open PySem.W PySem.Calls
noncomputable def hC (n:Str) (t:Nat) (l:List Value):Obj:=⟨.type "code",none,.fields (.str n t :: .str n (t+1) :: .str "/claim/cut.py" (t+2) :: l).toArray,#[]⟩
noncomputable def hI(n:Int):Value:=.int n 0
noncomputable def hR(n:Nat):Value:=.ref n
noncomputable def hN:Value:=.none
noncomputable def hT:Value:=.bool true
noncomputable def hS (n:Nat):Value:=.str "/claim/cut.py" n
noncomputable def hD(n:Str)(t:Nat)(l a:Int)(r:Nat)(x y z:Value)(u:Nat):Obj:=hC n t [hI l,hI a,hI 0,hI 0,hI 3,hR r,hT,hI 181,hR (r+1),hN,x,y,z,hI (u - 1),hI l,hS u]
noncomputable abbrev hF (i:Nat) (n:Str) (m c:Value):Obj:=⟨.type "function",none,.func (kD n n (nQ (top i)) (kA (top i)) (bo (top i)) .none .none .none m none c .none),#[]⟩
noncomputable abbrev hE(P:Params)(s:Str)(t:Nat)(v:Value):fE:=⟨PyData.keyHash P s,.str s t,v⟩
noncomputable def hQ:bN:=PySem.W.view PySem.Challenge.pw_knotwise_k50_whole_three_drawings [1,2,4,5,6,7,9,10,11,12,13,14,16,17,18,19,20,21,22,23,24,25,26,28,29,30,31,32,33,34,35,36,37,38,39,40,41,42,43,44]
noncomputable def hK (P:Params):ai:=(nat_lit 3,⟨(.type "dict"),none,(.dict #[hE P "__name__" 165 (.str "law_knotwise_k50_whole_three_drawings" 416),hE P "__doc__" 166 .none,hE P "__package__" 167 .none,hE P "__loader__" 168 (.builtin "__main__.__loader__#opaque"),hE P "__spec__" 169 .none,hE P "__annotations__" 170 (.ref 6),hE P "__builtins__" 171 (.ref 4),hE P "__file__" 173 (.str "/claim/cut.py" 172),hE P "__cached__" 174 .none,hE P "KnotError" 206 (.ref 24),hE P "NoName" 222 (.ref 37),hE P "passings_of" 233 (.ref 46),hE P "names_of" 239 (.ref 51),hE P "hand_of" 248 (.ref 58),hE P "next_of" 259 (.ref 65),hE P "LOOP" 271 (.ref 66),hE P "without_noughts" 281 (.ref 73),hE P "added" 292 (.ref 80),hE P "times" 306 (.ref 87),hE P "shifted" 318 (.ref 94),hE P "raised" 328 (.ref 101),hE P "ALONG" 332 (.int 0 331),hE P "AGAINST" 334 (.int 1 333),hE P "joints" 342 (.ref 108),hE P "power_at" 350 (.ref 115),hE P "plan_of" 356 (.ref 120),hE P "whole_plan" 362 (.ref 125),hE P "far_ends" 372 (.ref 132),hE P "joined_plan" 386 (.ref 139),hE P "opened_at" 402 (.ref 146),hE P "opened" 408 (.ref 151),hE P "bracket" 415 (.ref 158),hE P "_law_cell_at" 425 (.ref 165),hE P "_law_whole" 432 (.ref 172),hE P "_law_pick" 441 (.ref 179),hE P "_law_poly" 449 (.ref 186),hE P "_law_pared" 458 (.ref 193),hE P "_law_sum" 468 (.ref 200),hE P "_law_moved" 479 (.ref 207),hE P "_law_copy" 485 (.ref 212),hE P "_law_free" 493 (.ref 219),hE P "_law_put" 504 (.ref 226),hE P "_law_digits" 517 (.ref 233),hE P "_law_drawing" 523 (.ref 238),hE P "_law_names" 533 (.ref 245),hE P "_law_found" 544 (.ref 252),hE P "_law_exchanged" 556 (.ref 259),hE P "_law_split_along" 562 (.ref 264),hE P "law" 580 (.ref 271)] 49),#[]⟩) ::
(nat_lit 45,hD "passings_of" 225 7 1 40 (hR 42) (hR 43) (hR 44) 232) ::
(nat_lit 46,hF 4 "passings_of" (.str "knotwise.drawings" 223) (.ref 45)) ::
(nat_lit 50,hD "names_of" 234 12 1 47 hN hN (hR 49) 238) ::
(nat_lit 51,hF 5 "names_of" (.str "knotwise.drawings" 223) (.ref 50)) ::
(nat_lit 57,hD "hand_of" 240 14 2 52 (hR 54) (hR 55) (hR 56) 247) ::
(nat_lit 58,hF 6 "hand_of" (.str "knotwise.drawings" 223) (.ref 57)) ::
(nat_lit 64,hD "next_of" 249 19 1 59 (hR 61) (hR 62) (hR 63) 258) ::
(nat_lit 65,hF 7 "next_of" (.str "knotwise.drawings" 223) (.ref 64)) ::
(nat_lit 66,⟨(.type "dict"),none,(.dict #[⟨2,(.int 2 262),(.int (-1) 264)⟩,⟨(-2),(.int (-2) 266),(.int (-1) 268)⟩] 2),#[]⟩) ::
(nat_lit 72,hD "without_noughts" 272 27 1 67 (hR 69) (hR 70) (hR 71) 280) ::
(nat_lit 73,hF 10 "without_noughts" (.str "knotwise.polys" 260) (.ref 72)) ::
(nat_lit 79,hD "added" 282 33 2 74 (hR 76) (hR 77) (hR 78) 291) ::
(nat_lit 80,hF 11 "added" (.str "knotwise.polys" 260) (.ref 79)) ::
(nat_lit 86,hD "times" 293 38 2 81 (hR 83) (hR 84) (hR 85) 305) ::
(nat_lit 87,hF 12 "times" (.str "knotwise.polys" 260) (.ref 86)) ::
(nat_lit 93,hD "shifted" 307 45 3 88 (hR 90) (hR 91) (hR 92) 317) ::
(nat_lit 94,hF 13 "shifted" (.str "knotwise.polys" 260) (.ref 93)) ::
(nat_lit 100,hD "raised" 319 50 2 95 (hR 97) (hR 98) (hR 99) 327) ::
(nat_lit 101,hF 14 "raised" (.str "knotwise.polys" 260) (.ref 100)) ::
(nat_lit 107,hD "joints" 335 58 2 102 (hR 104) (hR 105) (hR 106) 341) ::
(nat_lit 108,hF 18 "joints" (.str "knotwise.brackets" 329) (.ref 107)) ::
(nat_lit 114,hD "power_at" 343 62 2 109 (hR 111) (hR 112) (hR 113) 349) ::
(nat_lit 115,hF 19 "power_at" (.str "knotwise.brackets" 329) (.ref 114)) ::
(nat_lit 119,hD "plan_of" 351 64 1 116 hN hN (hR 118) 355) ::
(nat_lit 120,hF 20 "plan_of" (.str "knotwise.brackets" 329) (.ref 119)) ::
(nat_lit 124,hD "whole_plan" 357 66 1 121 hN hN (hR 123) 361) ::
(nat_lit 125,hF 21 "whole_plan" (.str "knotwise.brackets" 329) (.ref 124)) ::
(nat_lit 131,hD "far_ends" 363 69 1 126 (hR 128) (hR 129) (hR 130) 371) ::
(nat_lit 132,hF 22 "far_ends" (.str "knotwise.brackets" 329) (.ref 131)) ::
(nat_lit 138,hD "joined_plan" 373 75 2 133 (hR 135) (hR 136) (hR 137) 385) ::
(nat_lit 139,hF 23 "joined_plan" (.str "knotwise.brackets" 329) (.ref 138)) ::
(nat_lit 145,hD "opened_at" 387 87 3 140 (hR 142) (hR 143) (hR 144) 401) ::
(nat_lit 146,hF 24 "opened_at" (.str "knotwise.brackets" 329) (.ref 145)) ::
(nat_lit 150,hD "opened" 403 99 2 147 hN hN (hR 149) 407) ::
(nat_lit 151,hF 25 "opened" (.str "knotwise.brackets" 329) (.ref 150)) ::
(nat_lit 157,hD "bracket" 409 106 1 152 (hR 154) (hR 155) (hR 156) 414) ::
(nat_lit 158,hF 26 "bracket" (.str "knotwise.brackets" 329) (.ref 157)) ::
(nat_lit 164,hD "_law_cell_at" 418 109 2 159 (hR 161) (hR 162) (hR 163) 424) ::
(nat_lit 165,hF 28 "_law_cell_at" (.str "law_knotwise_k50_whole_three_drawings" 416) (.ref 164)) ::
(nat_lit 171,hD "_law_whole" 426 113 1 166 (hR 168) (hR 169) (hR 170) 431) ::
(nat_lit 172,hF 29 "_law_whole" (.str "law_knotwise_k50_whole_three_drawings" 416) (.ref 171)) ::
(nat_lit 178,hD "_law_pick" 433 115 3 173 (hR 175) (hR 176) (hR 177) 440) ::
(nat_lit 179,hF 30 "_law_pick" (.str "law_knotwise_k50_whole_three_drawings" 416) (.ref 178)) ::
(nat_lit 185,hD "_law_poly" 442 117 1 180 (hR 182) (hR 183) (hR 184) 448) ::
(nat_lit 186,hF 31 "_law_poly" (.str "law_knotwise_k50_whole_three_drawings" 416) (.ref 185)) ::
(nat_lit 192,hD "_law_pared" 450 124 1 187 (hR 189) (hR 190) (hR 191) 457) ::
(nat_lit 193,hF 32 "_law_pared" (.str "law_knotwise_k50_whole_three_drawings" 416) (.ref 192)) ::
(nat_lit 199,hD "_law_sum" 459 130 2 194 (hR 196) (hR 197) (hR 198) 467) ::
(nat_lit 200,hF 33 "_law_sum" (.str "law_knotwise_k50_whole_three_drawings" 416) (.ref 199)) ::
(nat_lit 206,hD "_law_moved" 469 135 3 201 (hR 203) (hR 204) (hR 205) 478) ::
(nat_lit 207,hF 34 "_law_moved" (.str "law_knotwise_k50_whole_three_drawings" 416) (.ref 206)) ::
(nat_lit 211,hD "_law_copy" 480 140 1 208 hN hN (hR 210) 484) ::
(nat_lit 212,hF 35 "_law_copy" (.str "law_knotwise_k50_whole_three_drawings" 416) (.ref 211)) ::
(nat_lit 218,hD "_law_free" 486 142 2 213 (hR 215) (hR 216) (hR 217) 492) ::
(nat_lit 219,hF 36 "_law_free" (.str "law_knotwise_k50_whole_three_drawings" 416) (.ref 218)) ::
(nat_lit 225,hD "_law_put" 494 146 4 220 (hR 222) (hR 223) (hR 224) 503) ::
(nat_lit 226,hF 37 "_law_put" (.str "law_knotwise_k50_whole_three_drawings" 416) (.ref 225)) ::
(nat_lit 232,hD "_law_digits" 505 151 2 227 (hR 229) (hR 230) (hR 231) 516) ::
(nat_lit 233,hF 38 "_law_digits" (.str "law_knotwise_k50_whole_three_drawings" 416) (.ref 232)) ::
(nat_lit 237,hD "_law_drawing" 518 162 3 234 hN hN (hR 236) 522) ::
(nat_lit 238,hF 39 "_law_drawing" (.str "law_knotwise_k50_whole_three_drawings" 416) (.ref 237)) ::
(nat_lit 244,hD "_law_names" 524 172 1 239 (hR 241) (hR 242) (hR 243) 532) ::
(nat_lit 245,hF 40 "_law_names" (.str "law_knotwise_k50_whole_three_drawings" 416) (.ref 244)) ::
(nat_lit 251,hD "_law_found" 534 179 3 246 (hR 248) (hR 249) (hR 250) 543) ::
(nat_lit 252,hF 41 "_law_found" (.str "law_knotwise_k50_whole_three_drawings" 416) (.ref 251)) ::
(nat_lit 258,hD "_law_exchanged" 545 185 2 253 (hR 255) (hR 256) (hR 257) 555) ::
(nat_lit 259,hF 42 "_law_exchanged" (.str "law_knotwise_k50_whole_three_drawings" 416) (.ref 258)) ::
(nat_lit 263,hD "_law_split_along" 557 195 2 260 hN hN (hR 262) 561) ::
(nat_lit 264,hF 43 "_law_split_along" (.str "law_knotwise_k50_whole_three_drawings" 416) (.ref 263)) ::
(nat_lit 270,hD "law" 563 205 1 265 (hR 267) (hR 268) (hR 269) 579) ::
(nat_lit 271,hF 44 "law" (.str "law_knotwise_k50_whole_three_drawings" 416) (.ref 270)) :: []
noncomputable def hA:List Addr:=[3,45,46,50,51,57,58,64,65,66,72,73,79,80,86,87,93,94,100,101,107,108,114,115,119,120,124,125,131,132,138,139,145,146,150,151,157,158,164,165,171,172,178,179,185,186,192,193,199,200,206,207,211,212,218,219,225,226,232,233,237,238,244,245,251,252,258,259,263,264,270,271]
noncomputable def hL:List Str:=["LOOP"]
noncomputable abbrev Px(w:World):Prop:=∀ os:OsState,(topFrom treeTable (PySem.Challenge.rw_knotwise_k50_whole_three_drawings).row.prog w 3336 ⟨Nv w.params,Lm [],Hm,Nu,os⟩).map (fun s=>(openSeen hQ hL (yh (PySem.Challenge.rw_knotwise_k50_whole_three_drawings).row.prog.main.body) (Tt PySem.Challenge.rw_knotwise_k50_whole_three_drawings hQ) true s,hA.map s.heap.get?))=some (openGood hQ hL,(hK w.params).map fun p=>some p.2)
theorem h_f (w:World):Px (w.withFollow "special-get-raises" false):=fun os=>by kernel_rfl
theorem h_t (w:World):Px (w.withFollow "special-get-raises" true):=fun os=>by kernel_rfl
theorem UL (w:World) (os:OsState):(topFrom treeTable (PySem.Challenge.rw_knotwise_k50_whole_three_drawings).row.prog w 3336 ⟨Nv w.params,Lm [],Hm,Nu,os⟩).map (fun s=>(openSeen hQ hL (yh (PySem.Challenge.rw_knotwise_k50_whole_three_drawings).row.prog.main.body) (Tt PySem.Challenge.rw_knotwise_k50_whole_three_drawings hQ) true s,hA.map s.heap.get?))=some (openGood hQ hL,(hK w.params).map fun p=>some p.2):=(byRow2 "special-get-raises" (P:=fun w=>Px w) h_f h_t) w os
theorem UK:(PySem.Challenge.rw_knotwise_k50_whole_three_drawings).wellSaid=true:=by kernel_rfl
theorem UJ:JR PySem.Challenge.rw_knotwise_k50_whole_three_drawings hQ=true:=by kernel_rfl
end
end Fin
end Internal
open Internal
open PySem PySem.W PyProof.Rows
set_option maxRecDepth 100000 in
set_option maxHeartbeats 0 in
theorem PySem.Challenge.cw_knotwise_k50_whole_three_drawings_holds : PySem.Challenge.rw_knotwise_k50_whole_three_drawings.Holds := by
 w_on
 refine K2.Ml (q:=Fin.hQ) (K:=Fin.hK) (as:=Fin.hA) (N:=3336) Fin.UK (by kernel_rfl) (by kernel_rfl) (fun _=>by kernel_rfl) (fun _=>by kernel_rfl) Fin.UL (by rfl) (by rfl) (by rfl) (by rfl) Fin.UJ ⟨rfl,rfl,rfl,rfl,rfl,by decide +kernel⟩ ?hw ?hc
 (case hw=>w_witness2)
 k_fill
 refine K2.OS (l:=PySem.Challenge.rw_knotwise_k50_whole_three_drawings) (k:=7) (x:="_law_script") rfl rfl ⟨rfl,by decide,by decide⟩ (fun w h Y=>Y) ?F
 case F =>
  intro w mg fa h KX G WG;exact Fin.all_mk KX G WG K2.fi K2.fi K2.fi K2.fi K2.fi K2.fi K2.fi K2.fi K2.fi K2.fi K2.fi K2.fi K2.fi K2.fi K2.fi K2.fi K2.fi K2.fi K2.fi K2.fi K2.fi K2.fi K2.fi K2.fi K2.fi K2.fi K2.fi K2.fi K2.fi K2.fi K2.fi K2.fi K2.fi K2.fi K2.fi
