import PyProof.Rows.All
import Wide.All
import OpenK.AllK
import Wide.FinOn
import Lean
import PyProof.EqAt
import PyProof.EqKinds
import PyProof.TupleCall
import PySem.Challenge.RW_knotwise_k47_slides_keep
open Array renaming length_toList -> eE, getElem?_eq_getElem -> jT, forIn_toList -> yc, getD -> Jd, mk -> KI, getElem?_eq_none -> Mw
open Array.Perm renaming refl -> ng
open Bool renaming false_eq_true -> aw, and_eq_true -> aK, noConfusion -> bz, not_true -> cb, not_false -> eX, false_ne_true -> i6, and_eq_true_iff -> nX, or_eq_true -> oW, false_and -> Jb, and_false -> Jc, false_or -> Mu, beq_eq_decide_eq -> Qx
open Classical renaming byContradiction -> gB
open False renaming elim -> bS
open ForInStep renaming yield -> su
open Function renaming comp_def -> Qw
open Int renaming toNat_natCast -> eN, add_zero -> nu, natCast_nonneg -> ql, emod_lt_of_pos -> qm, mul_add -> sZ, zero_add -> vE, emod_nonneg -> vF, mul_assoc -> MX
open List renaming getElem?_cons_zero -> aa, getElem?_cons_succ -> ae, map_cons -> aj, length_cons -> ak, set_cons_zero -> ao, length_map -> aq, set_cons_succ -> ar, length_append -> au, getElem?_eq_getElem -> ay, cons_append -> aB, mem_cons_of_mem -> aE, length_nil -> aF, mem_cons -> aO, nodup_cons -> aP, map_append -> aQ, nil_append -> aU, map_map -> aW, flatten_cons -> aX, size_toArray -> aY, replicate -> bg, map_nil -> bq, getElem?_map -> bA, append_assoc -> bB, mem_map_of_mem -> bC, reverse -> bJ, append_nil -> bN, not_mem_nil -> bO, flatMap_cons -> bV, filter_cons -> bX, map_congr_left -> bZ, mem_singleton -> cy, mem_cons_self -> cz, find?_cons_of_pos -> cA, find?_cons_of_neg -> cB, getElem?_append_right -> cD, nodup_nil -> cH, length_drop -> cN, foldl_cons -> cR, getElem?_append_left -> cV, flatten_append -> cW, mem_append_right -> df, length_singleton -> dg, length -> di, length_filter_le -> dF, getD_eq_getElem?_getD -> dU, getElem?_set_self -> dZ, length_set -> eg, find?_cons -> eh, length_take -> eD, nodup_append -> eL, filter_append -> eY, mem_of_getElem? -> eZ, getElem?_set_ne -> e7, length_replicate -> fE, range -> fK, find?_eq_none -> fL, getElem_mem -> fN, mem_of_find?_eq_some -> gS, drop_eq_getElem_cons -> gT, mem_append_left -> hW, all_eq_true -> iK, take_append_drop -> jk, getElem?_eq_none -> jl, getElem_map -> ka, map_id -> kg, length_reverse -> kh, filter_sublist -> kj, sum_cons -> lh, length_zip -> lj, getElem?_replicate -> lq, any_cons -> lr, drop_eq_nil_of_le -> lL, foldl_append -> l0, all_map -> mZ, flatten_nil -> nE, getElem?_of_mem -> nV, find?_some -> oV, zip_cons_cons -> qc, getElem_range -> qe, reverse_cons -> rF, filter_cons_of_neg -> sL, getElem_zip -> sX, cons_ne_nil -> sY, set_getElem_self -> vq, perm_append_comm -> vr, filter_nil -> vt, flatMap_append -> xn, filterMap_cons -> xt, take_nil -> zY, drop_nil -> zZ, all_cons -> z0, pairwise_map -> AQ, length_range -> AR, set_nil -> BR, lookup_cons -> Dp, getElem_inj -> Dq, of_mem_zip -> FW, mem_append -> FX, filter_map -> FY, mem_or_eq_of_mem_set -> I0, length_erase_of_mem -> KH, map_take -> Mp, map_drop -> Mq, filter_cons_of_pos -> Mr, eraseIdx_cons_zero -> Ms, eraseIdx_cons_succ -> Mt, take_of_length_le -> MU, length_pos_of_mem -> MV, map_set -> Qv, mem_erase_of_ne -> QR
open List.Perm renaming swap -> fO, trans -> kb, cons -> ly, append -> yb, append_left -> GC
open List.Sublist renaming map -> lu, nodup -> nq
open Nat renaming le_refl -> aI, le_trans -> bu, ne_of_lt -> bK, lt_of_lt_of_le -> bR, zero_le -> cC, lt_of_le_of_lt -> gM, lt_irrefl -> iH, add_assoc -> jH, pow_le_pow_right -> jP, mul_le_mul_right -> jS, add_sub_cancel_left -> sW, succ_le_succ -> tY, le_add_right -> tZ, le_of_succ_le_succ -> ud, not_lt_zero -> vB, ne_of_gt -> vC, zero_add -> Dk, add_zero -> Dl, lt_succ_self -> DG, le_succ -> GB, lt_of_succ_lt_succ -> Qu, pow_succ -> QP, le_of_lt -> QQ
open Ne renaming symm -> fW
open Option renaming getD_some -> sr, map_some -> tX, isSome_map -> zX, getD_none -> AP
open Option.some renaming inj -> ba, injEq -> KG
open PyProof.Rows renaming callWith_type1 -> eF, IntsAre -> o7, slot_tuple_getitem -> vp, callWith_builtin1 -> vA, seqObj -> x3, preSum_getD -> Ab, AllBare -> BU, envOfC -> DE
open PySem renaming wpAny_bind -> ag, Shared -> az, wpAny_pure -> aC, FuncData -> aJ, sizeLine -> bc, Program -> bM, mainGlobals -> bP, wpAny_loadPart' -> cm, starEach -> cK, sizeLine_eq -> cY, wpAny_call_entry -> c9, sysModules -> da, wpAny_newObj_type -> dB, Around -> dD, bootBuiltins -> eB, wpAny_holding -> eM, compareOp -> fk, DictEntry -> ft, wpAny_dictEntries -> gy, wpAny_Call_Name_kw -> hU, ReadsAll -> hV, mem_of_lookup -> iD, tupleKind -> iG, wpAny_typeNameOfWhole_itemiter -> iV, wpAny_callSpecial?_slot -> iX, binaryOp -> iY, wpAny_typeNameOfWhole_keyiter -> jc, wpAny_passesOwn -> jM, Paired -> kd, wpAny_typeNameOf_itemiter -> kP, wpAny_isInstance -> la, wpAny_forIn_list -> lb, wpAny_typeNameOf_keyiter -> lD, wpAny_specialOf -> mx, wpAny_setField_rec -> my, wpAny_dictEpoch -> mz, tupleKind_room_in1 -> mB, wpAny_isOneOf_itemiter -> nC, wpAny_pyIter_slot -> nS, foldedSetIterable -> nT, valueAt -> nU, IsItemIter -> nW, wpAny_fieldsOf -> ow, backTo -> oy, attributeBase -> qa, wpAny_field -> qo, sliceBounds -> qp, NameKind -> sJ, wpAny_truthy_bool -> ub, wpAny_Call_method0_late -> vw, richCompare_meets_room -> xc, evalArgs_none -> xf, wpAny_notOrdered_dict -> xZ, wpAny_execs_nil -> x2, letOwnedTupleGo -> x4, isSubtype_tuple_tuple -> x6, importedModules -> x8, call_meetsIn -> x9, assignEach -> zV, firstArgMember -> AO, wpAny_tupleItemsOf -> Dy, wpAny_standAt -> DA, wpAny_attempt -> DB, rawInt -> DC, pyNext -> DD, HeapKind -> DH, wpAny_truthy_dict -> Gn, storedH -> Gq, spliced -> Gr, relabel -> Gs, intKind -> Gu, codeAny -> Gv, callerA -> Gw, wpAny_callSpecialIfBound?_slot -> IS, assign -> IT, call -> IV, wpAny_letOwnedTupleGo_items -> ML, valueAt -> MM, swapsWith -> MN, pyIter -> MO, holding -> MQ, eqIsQuiet -> MR, Keyword -> MW, BindsTo -> MY, wpAny_setField -> QM, wpAny_seqItems -> QN
open PySem.Around renaming under_plainId -> MZ
open PySem.AutoSeq1 renaming sub_tuple_tuple -> pO, sub_list_list -> GG
open PySem.Builtin.Dict renaming showsAll -> kG, takeOut -> DL
open PySem.Builtin.Dict_items renaming ownsTuple -> fh, ownedTupleIsFree -> iL, ownedTupleFields -> pN, pairFromOwner -> qw
open PySem.Builtin.Int renaming intBits -> GF
open PySem.Builtin.List renaming listTooLong -> jw, listExtendWith -> ma, listSameRef -> Ac, listItems -> BS
open PySem.Builtin.Slice renaming slicePlaces -> i5, sliceAdjust -> nv, sliceApplied -> xx
open PySem.Builtin.Tuple renaming tupleHashOf -> dN, tupleExact -> jq, tupleCompareSizes -> ue, tupleItemsOf -> xu
open PySem.Calls renaming spliced_cons -> iW, callWith_builtin -> lF, spliced_nil -> lM, Name_function_global -> Gb
open PySem.F renaming plainAttrs_dict -> dc, plainAttrs_list -> eT, type_list_append -> fC, slot_list_append -> fD, slot_dict_items -> fQ, slot_dict_get -> gz, slot_dict_itemiterator_next -> i0, slot_dict_itemiterator_iter -> i4, slot_dict_keyiterator_next -> jo, type_dict_get -> lJ, slot_tuple_lt -> lK, args_dict_items_1 -> o6, entry_dict_items -> qb, type_dict_items -> qu, args_tuple_lt_2 -> qv, entry_tuple_lt -> sk, slot_dict_pop -> sV, slot_list_lt -> uc, args_dict_itemiterator_next_1 -> DI, args_dict_itemiterator_iter_1 -> DJ, args_tuple_add_2 -> FV, entry_dict_itemiterator_next -> FZ, args_dict_keyiterator_next_1 -> Ga, entry_tuple_add -> Gz, args_dict_get_3 -> GA, entry_dict_keyiterator_next -> GD, slot_tuple_add -> IX, entry_dict_get -> IY, args_list_lt_2 -> IZ, slot_dict_keyiterator_iter -> Ja, type_dict_pop -> KC, entry_list_lt -> KD
open PySem.Heap renaming get?_push_of_some -> aG, lt_size -> aS, get?_push_size -> bh, SameBut -> fF, get?_update_self -> nc, get?_update_other -> t4, size_push -> xg, size_update -> Ds, get?_none_of_le -> QS
open PySem.Heap.SameBut renaming update -> jm
open PySem.NameKind renaming free -> ke
open PySem.Obj renaming mapSeq -> fM
open PySem.Paired renaming length -> iu, snoc -> Qt
open PySem.PassesOwn renaming never -> bw
open PySem.PyData renaming depthAll -> cE, eqv -> zW
open PySem.SeqAt renaming any_by_data -> qt, items_eqAt -> sI
open PySem.Shared renaming TypeIs -> IU
open PySem.Str renaming ofString -> qk
open PySem.Value renaming int -> eG, ref -> fm, none -> fX, isInt -> si
open PySem.W renaming Frag -> ai, mg_none_of -> c5, nsIn -> c6, kas_rev -> gF, kia_one -> iZ, kas_place -> jO, fnOf -> j9, mg_of -> km, kas_desc -> lg, keepIn -> lE, findIn -> o4, kas_asc -> qr, kas_descPart -> x5, methodObj -> ya, OpenLaw -> BQ, codeIn -> DF, boot_drawn -> Gx, cellsFrom_some -> IW, kas_tail3 -> MP, boot_toks -> MS, boot_heap -> MT, specialIn -> QO
open PySem.W.KasT renaming ret -> vD
open Sum renaming inl -> vz, inr -> Gy
open True renaming intro -> fZ
set_option Elab.async false
set_option linter.all false
set_option maxRecDepth 100000
set_option maxHeartbeats 4000000
set_option genSizeOf false
set_option genInjectivity false
set_option compiler.extract_closed false
namespace Internal
theorem Ad(h:0=0:=by decide):0=0:=h
theorem Ae(h:0=0:=by first | rfl | decide):0=0:=h
theorem Af(h:0=0:=by first | k_is | rfl):0=0:=h
theorem Ai(h:0=0:=by intro _; rfl):0=0:=h
theorem Ak(h:0=0:=by decide +kernel):0=0:=h
theorem Al(h:0=0:=by intro _ _ _ _ h; repeat (first | (cases h.1; rfl) | (cases h <;> rename_i h))):0=0:=h
theorem Ao(h:0=0:=by first | exact .inl rfl | exact .inr rfl | exact .inr (.inl rfl) | exact .inr (.inr rfl) | assumption):0=0:=h
theorem Aq(h:0=0:=by k_is):0=0:=h
theorem Ar(h:0=0:=by rfl):0=0:=h
namespace L2
open PySem PySem.Spec PyProof.Rows
noncomputable abbrev Key:=Sum Int Str
noncomputable def Bj:Key->Value->Bool
 | .inl k,v=>si k v
 | .inr x,v=>Value.isStrOf x v
noncomputable def Z1(w:World):Key->Int
 | .inl k=>hashInt k
 | .inr x=>hashStr w x
theorem eQ:∀ {k:Key} {v:Value},Bj k v=true->(∃ i t,k=vz i/\v=eG i t)\/(∃ x t,k=Gy x/\v=Value.str x t)
 | .inl i,v,h=>by
  obtain⟨t,e⟩:=Value.isInt_shape (k:=i) (v:=v) h;exact .inl ⟨i,t,rfl,e⟩
 | .inr x,v,h=>by
  obtain⟨t,e⟩:=Value.isStrOf_shape (x:=x) (v:=v) h;exact .inr ⟨x,t,rfl,e⟩
theorem Lz(i:Int)(t:Tok):Bj (.inl i) (.int i t)=true:=by simp [Bj,si]
theorem Ly(x:Str)(t:Tok):Bj (.inr x) (.str x t)=true:=by simp [Bj,Value.isStrOf]
theorem OG(a b:Int):decide ((vz a:Key)=vz b)=(a == b):=by
 by_cases e:a=b
 ·subst e; simp
 ·have h:¬ (vz a:Key)=vz b:=fun q=>e (Sum.inl.inj q);rw [decide_eq_false h];exact(beq_eq_false_iff_ne.mpr e).symm
theorem OF(a b:Str):decide ((Gy a:Key)=Gy b)=decide (a=b):=by
 by_cases e:a=b
 ·subst e; simp
 ·have h:¬ (Gy a:Key)=Gy b:=fun q=>e (Sum.inr.inj q);rw [decide_eq_false h,decide_eq_false e]
theorem U5(a:Int)(b:Str):decide ((vz a:Key)=Gy b)=false:=decide_eq_false (fun q=>nomatch q)
theorem U4(a:Str)(b:Int):decide ((Gy a:Key)=vz b)=false:=decide_eq_false (fun q=>nomatch q)
noncomputable def cP(prog:bM)(w:World):PySem.KeyKind prog w Key where
 is:=Bj
 hash:=Z1 w
 inj:=fun v a b ha hb=>by
  rcases eQ ha with ⟨i,t,rfl,rfl⟩ | ⟨x,t,rfl,rfl⟩
  ·rcases eQ hb with ⟨j,u,rfl,e⟩ | ⟨y,u,rfl,e⟩
   ·injection e with e1 _; rw [e1]
   ·exact nomatch e
  ·rcases eQ hb with ⟨j,u,rfl,e⟩ | ⟨y,u,rfl,e⟩
   ·exact nomatch e
   ·injection e with e1 _; rw [e1]
 byValue:=fun k v h=>by
  rcases eQ h with ⟨i,t,rfl,rfl⟩ | ⟨x,t,rfl,rfl⟩ <;> rfl
 pyHash:=fun hv h=>by
  rcases eQ hv with ⟨i,t,rfl,rfl⟩ | ⟨x,t,rfl,rfl⟩
  ·exact wpAny_pyHash_int h
  ·exact wpAny_pyHash_str h
 eqBool:=fun hu hv h=>by
  rcases eQ hu with ⟨i,t,rfl,rfl⟩ | ⟨x,t,rfl,rfl⟩
  ·rcases eQ hv with ⟨j,u,rfl,rfl⟩ | ⟨y,u,rfl,rfl⟩
   ·rw [OG] at h; exact wpAny_eqBool_int h
   ·rw [U5] at h; exact SeqAt.EqAt.int_str i t y u _ _ _ _ h
  ·rcases eQ hv with ⟨j,u,rfl,rfl⟩ | ⟨y,u,rfl,rfl⟩
   ·rw [U4] at h; exact SeqAt.EqAt.str_int x t j u _ _ _ _ h
   ·rw [OF] at h; exact wpAny_eqBool_str h
 «strs»:=fun k x t v h=>by
  rcases eQ h with ⟨i,u,rfl,e⟩ | ⟨y,u,rfl,e⟩
  ·exact nomatch e
  ·injection e with e1 _
   subst e1;cases v <;> rfl
theorem EJ(prog:bM)(w:World)(i:Int)(t:Tok):(cP prog w).is (.inl i) (.int i t)=true:=Lz i t
theorem EI(prog:bM)(w:World)(x:Str)(t:Tok):(cP prog w).is (.inr x) (.str x t)=true:=Ly x t
inductive V where
 | eU | bl (b:Bool) | int (i:Int) | str (x:Str) | VC (b:Array UInt8) | XJ (b:UInt64) | ref (a:Addr) | ty (n:String)
noncomputable def RelV:V->Value->Prop
 | .eU,u=>u=fX
 | .bl b,u=>u=Value.bool b
 | .int i,u=>∃ t,u=eG i t
 | .str x,u=>∃ t,u=Value.str x t
 | .VC b,u=>∃ t,u=Value.bytes b t
 | .XJ b,u=>∃ t,u=Value.float b t
 | .ref a,u=>u=fm a
 | .ty n,u=>u=Value.type n
noncomputable abbrev Vals:List V->List Value->Prop:=kd RelV
theorem Vals.length{xs:List V}{us:List Value}(r:Vals xs us):xs.length=us.length:=iu r
theorem Vals.get:∀ {xs:List V} {us:List Value} {i:Nat} {x:V},Vals xs us->xs[i]?=some x->∃ u,us[i]?=some u/\RelV x u:=by
 intro xs us i x h;induction h generalizing i with
 | nil=>intro e; cases e
 | cons r t ih =>
  intro e;cases i with
  | zero=>cases e; exact⟨_,rfl,r⟩
  | succ i=>exact ih e
theorem Vals.set{x:V}{u:Value}(r:RelV x u):∀ {xs:List V} {us:List Value} (i:Nat),Vals xs us->Vals (xs.set i x) (us.set i u):=by
 intro xs us i h;induction h generalizing i with
 | nil=>rw [BR,BR]; exact .nil
 | cons q t ih =>
  cases i with
  | zero=>exact .cons r t
  | succ i=>exact .cons q (ih i)
theorem Vals.append:∀ {xs ys:List V} {us ws:List Value},Vals xs us->Vals ys ws->Vals (xs++ys) (us++ws):=by
 intro xs ys us ws h s;induction h with
 | nil=>exact s
 | cons r t ih=>exact .cons r ih
theorem Vals.take:∀ {xs:List V} {us:List Value} (n:Nat),Vals xs us->Vals (xs.take n) (us.take n):=by
 intro xs us n h;induction h generalizing n with
 | nil=>rw [zY,zY]; exact .nil
 | cons r t ih =>
  cases n with
  | zero=>exact .nil
  | succ n=>exact .cons r (ih n)
theorem Vals.drop:∀ {xs:List V} {us:List Value} (n:Nat),Vals xs us->Vals (xs.drop n) (us.drop n):=by
 intro xs us n h;induction h generalizing n with
 | nil=>rw [zZ,zZ]; exact .nil
 | cons r t ih =>
  cases n with
  | zero=>exact .cons r t
  | succ n=>exact ih n
noncomputable def wx:Option V->Option Value->Prop
 | some v,some u=>RelV v u
 | none,none=>True
 | _,_=>False
noncomputable def KV{κ:Type}:List (κ×V)->List (κ×Value)->Prop:=kd fun (p:κ×V) (q:κ×Value)=>p.1=q.1/\RelV p.2 q.2
noncomputable def kV:Key->V
 | .inl i=>.int i
 | .inr x=>.str x
inductive HO where
 | lst (xs:List V)
 | tup (xs:List V)
 | dK (kvs:List (Key×V)) | dT (kvs:List (List Key×V))
 | set (S:Int->Bool) (n:Nat)
 | ins (C dx:Addr) (fs:List (Str×V))
 | own (x:Addr)
 | xd (fs:List (Str×V))
 | met (f x:Addr)
 | WA (lo hi:Int)
 | jL (o:Obj) (u:HO)
 | SO (q:Str)
 | ext (φ:Heap->Prop)
noncomputable abbrev Hp:=Addr->Option HO
noncomputable def upd(H:Hp)(a:Addr)(o:HO):Hp:=fun b=>if b=a then some o else H b
theorem cc{H:Hp}{a:Addr}{o:HO}:upd H a o a=some o:=by unfold upd; rw [if_pos rfl]
theorem bQ{H:Hp}{a b:Addr}{o:HO}(h:b≠a):upd H a o b=H b:=by unfold upd; rw [if_neg h]
theorem S7{H:Hp}{a b:Addr}{o u:HO}(h:H a=some o)(h':H b=some u)(d:o≠u):a≠b:=by
 intro e; subst e; rw [h] at h'; exact d (ba h')
theorem dH{H:Hp}{a b:Addr}{o:HO}(h:H a=some o)(h':H b=none):a≠b:=by
 intro e; subst e; rw [h] at h'; cases h'
section
variable (P:bM) (w:World)
noncomputable def fV(H:Hp)(h:Heap)(a:Addr):HO->Prop
 | .lst xs=>xs.length<=bc/\∃ (bW:List Value) (n:Nat),Vals xs bW/\h.get? a=some { cls:=.type "list",data:=.seq bW.toArray n }
 | .tup xs=>xs.length<=bc/\∃ bW:List Value,Vals xs bW/\IsTup h a bW.toArray
 | .dK kvs=>kvs.length<=bc/\(a == da)=false/\∃ vs,KV kvs vs/\h.DictOf (cP P w) a vs
 | .dT kvs=>kvs.length<=bc/\(a == da)=false/\∃ xs:List (List Key×Addr×Value),
   kd (fun (p:List Key×V) (q:List Key×Addr×Value)=>p.1=q.1/\H q.2.1=some (.tup (p.1.map kV))/\RelV p.2 q.2.2) kvs xs /\
   ∃ o es ep,h.get? a=some o/\o.ExactDict/\o.data=.dict es ep/\es.toList=xs.map (entryOfKey (iG (cP P w)))/\(xs.map (·.1)).Nodup
 | .set S n=>h.SetOf (Gu P w) a S n
 | .ins C dx fs=>H dx=some (.own a)/\fs.length<=1000/\dx≠a/\h.get? a=some (PySem.W.instObj C dx) /\
   ∃ mA,h.Ns1 dx mA/\(∀ f,wx (fs.lookup f) (mA f))/\PySem.Within mA (fs.map (·.1))
 | .own _=>∃ o,h.get? a=some o
 | .xd fs=>∃ mA,h.Ns1 a mA/\∀ f,wx (fs.lookup f) (mA f)
 | .WA lo hi=>∃ t u v,h.get? a=some { cls:=.type "range",data:=.fields #[.int lo t,.int hi u,.int 1 v] }
 | .jL o u=>h.get? a=some o/\fV H h a u
 | .SO q=>∃ ps,h.get? a=some { cls:=.none,data:=.fields ps }/\TriplesOk ps.toList/\∀ pos cv,codeAmong pos ps.toList=some cv->∃ c',cv=.ref c'/\H c'=some (.own a)/\h.CodeRec (.ref c') q
 | .met f x=>h.get? a=some (ya (.ref f) (.ref x))
 | .ext φ=>φ h/\(∃ o,h.get? a=some o)/\∀ h1 h2:Heap,φ h1->(∀ o,h1.get? a=some o->h2.get? a=some o)->φ h2
noncomputable def pZ(H:Hp)(h:Heap):Prop:=∀ a o,H a=some o->fV P w H h a o
end
section
variable {P:bM} {w:World} {H H':Hp} {h h':Heap} {a:Addr} {o:HO}
theorem fV.lt(x:fV P w H h a o):a < h.objs.size:=by
 cases o with
 | lst xs=>obtain⟨_,_,_,_,e⟩:=x; exact aS e
 | tup xs=>obtain⟨_,_,_,p⟩:=x; exact p.lt
 | dK kvs=>obtain⟨_,_,_,_,o,_,_,e,_⟩:=x; exact aS e
 | dT kvs=>obtain⟨_,_,_,_,o,_,_,e,_⟩:=x; exact aS e
 | set S n=>obtain⟨o,_,_,_,e,_⟩:=x; exact aS e
 | ins C dx fs=>obtain⟨_,_,_,e,_⟩:=x; exact aS e
 | own y=>obtain⟨_,e⟩:=x; exact aS e
 | xd fs=>obtain⟨_,⟨_,_,_,e,_⟩,_⟩:=x; exact aS e
 | WA lo hi=>obtain⟨_,_,_,e⟩:=x; exact aS e
 | jL ob u=>obtain⟨e,_⟩:=x; exact aS e
 | SO q=>obtain⟨_,e,_⟩:=x; exact aS e
 | met f y=>exact aS (show h.get? a=some _ from x)
 | ext φ=>obtain⟨_,⟨_,e⟩,_⟩:=x; exact aS e
theorem Paired.UY{α β:Type}{F G:α->β->Prop}:∀ {l₁:List α} {l₂:List β},kd F l₁ l₂->(∀ a b,F a b->G a b)->kd G l₁ l₂:=by
 intro l₁ l₂ h f;induction h with
 | nil=>exact .nil
 | cons r t ih=>exact .cons (f _ _ r) ih
theorem fV.kQ(x:fV P w H h a o)(k:∀ b u,(b=a\/H b=some (.own a))->h.get? b=some u->h'.get? b=some u)
  (ho:∀ b,H b=some (.own a)->H' b=some (.own a)) (ht:∀ b xs,H b=some (.tup xs)->H' b=some (.tup xs)):fV P w H' h' a o:=by
 induction o with
 | lst xs=>obtain⟨z,bW,n,r,e⟩:=x; exact⟨z,bW,n,r,k _ _ (.inl rfl) e⟩
 | tup xs=>obtain⟨z,bW,r,ob,e,c⟩:=x; exact⟨z,bW,r,ob,k _ _ (.inl rfl) e,c⟩
 | dK kvs=>obtain⟨z,y,vs,r,ob,es,ep,e,c⟩:=x; exact⟨z,y,vs,r,ob,es,ep,k _ _ (.inl rfl) e,c⟩
 | dT kvs =>
  obtain⟨z,y,xs,r,ob,es,ep,e,c⟩:=x;exact⟨z,y,xs,Paired.UY r fun p q z=>⟨z.1,ht _ _ z.2.1,z.2.2⟩,ob,es,ep,k _ _ (.inl rfl) e,c⟩
 | set S n=>obtain⟨ob,es,ep,t,e,c⟩:=x; exact⟨ob,es,ep,t,k _ _ (.inl rfl) e,c⟩
 | ins C dx fs =>
  obtain⟨d,z,ne,e,mA,⟨od,es,ep,e2,c⟩,r⟩:=x;exact⟨ho _ d,z,ne,k _ _ (.inl rfl) e,mA,⟨od,es,ep,k _ _ (.inr d) e2,c⟩,r⟩
 | own y=>obtain⟨ob,e⟩:=x; exact⟨ob,k _ _ (.inl rfl) e⟩
 | xd fs=>obtain⟨mA,⟨od,es,ep,e,c⟩,r⟩:=x; exact⟨mA,⟨od,es,ep,k _ _ (.inl rfl) e,c⟩,r⟩
 | WA lo hi=>obtain⟨t,u,v,e⟩:=x; exact⟨t,u,v,k _ _ (.inl rfl) e⟩
 | jL ob u ih=>obtain⟨e,q⟩:=x; exact⟨k _ _ (.inl rfl) e,ih q⟩
 | SO q =>
  obtain⟨ps,e,t,z⟩:=x;refine⟨ps,k _ _ (.inl rfl) e,t,fun pos cv y=>?_⟩;obtain⟨c',e1,e2,c2,oc,vs,tq,e3,e4,r⟩:=z pos cv y;cases e3;exact⟨c',e1,ho _ e2,c',oc,vs,tq,rfl,k _ _ (.inr e2) e4,r⟩
 | met f y =>
  have e:h.get? a=some (ya (.ref f) (.ref y)):=x;show h'.get? a=some (ya (.ref f) (.ref y));exact k a _ (.inl rfl) e
 | ext φ=>obtain⟨p,⟨o,e⟩,st⟩:=x; exact⟨st _ _ p fun o q=>k _ _ (.inl rfl) q,⟨o,k _ _ (.inl rfl) e⟩,st⟩
theorem pZ.lt(x:pZ P w H h)(e:H a=some o):a < h.objs.size:=(x a o e).lt
theorem pZ.fresh(x:pZ P w H h)(e:h.objs.size<=a):H a=none:=by
 cases q:H a with
 | none=>rfl
 | some u=>exact absurd (bR (x.lt q) e) (iH _)
theorem pZ.kept(x:pZ P w H h)(k:∀ b u,h.get? b=some u->h'.get? b=some u):pZ P w H h':=fun a o e =>
 (x a o e).kQ (fun b u _ q=>k b u q) (fun _ q=>q) fun _ _ q=>q
theorem pZ.laid(x:pZ P w H h)(k:∀ b u,h.get? b=some u->h'.get? b=some u)(hp:h.objs.size<=a)(new:fV P w (upd H a o) h' a o):pZ P w (upd H a o) h':=fun b u e=>by
 have hn:=x.fresh hp;by_cases hb:b=a
 ·subst hb; rw [cc] at e; cases e; exact new
 ·rw [bQ hb] at e;exact(x b u e).kQ (fun c v _ q=>k c v q) (fun c q=>by rw [bQ (dH q hn)]; exact q) fun c xs q=>by rw [bQ (dH q hn)]; exact q
end
noncomputable def Rd(H:Hp)(a:Addr)(u:HO):Prop:=H a=some u\/∃ o,H a=some (.jL o u)
theorem Rd.ok{P:bM}{w:World}{H:Hp}{h:Heap}{a:Addr}{u:HO}(r:Rd H a u)(x:pZ P w H h):fV P w H h a u:=by
 rcases r with r | ⟨o,r⟩
 ·exact x a u r
 ·obtain⟨_,q⟩:=x a _ r;exact q
noncomputable def X6:Option HO->Prop
 | some (.lst _)=>True
 | some (.dK _)=>True
 | some (.dT _)=>True
 | some (.set _ _)=>True
 | some (.ins _ _ _)=>True
 | some (.ext _)=>True
 | _=>False
section
variable {P:bM} {w:World} {H:Hp} {h h':Heap} {x e:Addr} {o':HO}
theorem pZ.write(ok:pZ P w H h)(mu:X6 (H x))(he:e=x\/H e=some (.own x))(k:∀ b u,b≠e->h.get? b=some u->h'.get? b=some u)(V5:∃ u,h'.get? e=some u)
  (new:fV P w (upd H x o') h' x o'):pZ P w (upd H x o') h':=fun b u q=>by
 have WX:∀ c y,H c=some (.own y)->c≠x:=fun c y r z=>by subst z; rw [r] at mu; exact mu
 have ZJ:∀ c xs,H c=some (.tup xs)->c≠x:=fun c xs r z=>by subst z; rw [r] at mu; exact mu
 by_cases hb:b=x
 ·subst hb; rw [cc] at q; cases q; exact new
 ·rw [bQ hb] at q;by_cases Vi:b=e
  ·have q':H b=some (.own x):=by
    rcases he with z | z
    ·exact absurd (Vi.trans z) hb
    ·rw [Vi]; exact z
   rw [q] at q'; cases q';obtain⟨v,hv⟩:=V5;exact⟨v,by rw [Vi]; exact hv⟩
  ·refine(ok b u q).kQ (fun c v hc r=>k c v ?_ r) (fun c r=>by rw [bQ (WX c b r)]; exact r) fun c xs r=>by rw [bQ (ZJ c xs r)]; exact r
   rcases hc with rfl | hc
   ·exact Vi
   ·rintro rfl;rcases he with z | z
    ·exact WX c b hc z
    ·rw [hc] at z; cases z; exact hb rfl
end
structure Un(fs ex:List Addr)(H H':Hp)(h h':Heap):Prop where
 keep:∀ b o,h.get? b=some o->H b=none->b∉fs->b∉ex->h'.get? b=some o
 slot:∀ b o,h.get? b=some o->H b=none->b∈fs->b∉ex->∃ sl,h'.get? b=some { o with slots:=sl }
 free:∀ b o,h.get? b=some o->H b=none->b∉ex->H' b=none
 there:∀ b o,h.get? b=some o->b∉ex->∃ o',h'.get? b=some o'
 Ah:∀ b xs,H b=some (.tup xs)->H' b=some (.tup xs)
 zg:∀ b o u,H b=some (.jL o u)->H' b=some (.jL o u)
 Am:∀ b q,H b=some (.SO q)->H' b=some (.SO q)
 As:∀ b x,H b=some (.own x)->H' b=some (.own x)
section
variable {fs fs' ex ex':List Addr} {H H1 H2:Hp} {h h1 h2 h':Heap} {a x e:Addr} {o:HO}
theorem Un.any(u:Un fs ex H H1 h h1){b:Addr}{ob:Obj}(q:h.get? b=some ob)(n:H b=none)(hx:b∉ex):∃ sl,h1.get? b=some { ob with slots:=sl }:=by
 by_cases hb:b∈fs
 ·exact u.slot b ob q n hb hx
 ·exact⟨ob.slots,u.keep b ob q n hb hx⟩
theorem Un.kept(k:∀ b u,h.get? b=some u->h'.get? b=some u):Un fs ex H H h h' :=
 ⟨fun b ob q _ _ _=>k b ob q,fun b ob q _ _ _=>⟨ob.slots,k b ob q⟩,fun _ _ _ n _=>n,fun b ob q _=>⟨ob,k b ob q⟩,fun _ _ q=>q,fun _ _ _ q=>q,fun _ _ q=>q,fun _ _ q=>q⟩
theorem Un.refl:Un fs ex H H h h:=Un.kept fun _ _ q=>q
theorem Un.laid(k:∀ b u,h.get? b=some u->h'.get? b=some u)(hp:h.objs.size<=a)(hn:H a=none):Un fs ex H (upd H a o) h h' where
 keep:=fun b u q _ _ _=>k b u q
 slot:=fun b u q _ _ _=>⟨u.slots,k b u q⟩
 free:=fun b u q n _=>by rw [bQ (bK (bR (aS q) hp))]; exact n
 there:=fun b u q _=>⟨u,k b u q⟩
 Ah:=fun b xs q=>by rw [bQ (dH q hn)]; exact q
 zg:=fun b u xs q=>by rw [bQ (dH q hn)]; exact q
 Am:=fun b ps q=>by rw [bQ (dH q hn)]; exact q
 As:=fun b ps q=>by rw [bQ (dH q hn)]; exact q
theorem Un.write(mu:X6 (H x))(he:e=x\/H e=some (.own x))(k:∀ b u,b≠e->h.get? b=some u->h'.get? b=some u)(V5:∃ u,h'.get? e=some u):Un fs ex H (upd H x o) h h':=by
 have hx:∀ b,H b=none->b≠x:=fun b n z=>by subst z; rw [n] at mu; exact mu
 have hb:∀ b,H b=none->b≠e:=fun b n z=>by
  subst z;rcases he with r | r
  ·exact hx b n r
  ·rw [n] at r; cases r
 have hm:∀ b u,H b=some u->¬ X6 (some u)->b≠x:=fun b u q nm z=>by subst z; rw [q] at mu; exact nm mu
 refine⟨fun b u q n _ _=>k b u (hb b n) q,fun b u q n _ _=>⟨u.slots,k b u (hb b n) q⟩,fun b u q n _=>by rw [bQ (hx b n)]; exact n,fun b u q _=>?_,
  fun b xs q=>by rw [bQ (hm b _ q fun z=>z)]; exact q,fun b u xs q=>by rw [bQ (hm b _ q fun z=>z)]; exact q,fun b ps q=>by rw [bQ (hm b _ q fun z=>z)]; exact q,fun b ps q=>by rw [bQ (hm b _ q fun z=>z)]; exact q⟩
 by_cases Vi:b=e
 ·subst Vi; exact V5
 ·exact⟨u,k b u Vi q⟩
end
noncomputable def Yd(h:Heap)(H:Hp):List Addr:=(fK h.objs.size).filter fun a=>(H a).isSome
noncomputable def Cv(h:Heap)(H:Hp):Heap:=PySem.W.hideAll h (Yd h H)
theorem LL(h:Heap)(H:Hp):(Cv h H).objs.size=h.objs.size:=PySem.W.hideAll_size _ _
theorem O6{h:Heap}{H:Hp}{b:Addr}{o:Obj}(e:h.get? b=some o)(n:H b=none):(Cv h H).get? b=some o :=
 PySem.W.hideAll_get _ e fun hm=>by
  have q:(H b).isSome=true:=(List.mem_filter.mp hm).2;rw [n] at q; simp at q
theorem RJ{h:Heap}{H:Hp}{b:Addr}{o:Obj}(e:(Cv h H).get? b=some o):h.get? b=some o/\H b=none:=by
 have e':h.get? b=some o:=PySem.W.of_hideAll (Yd h H) e;refine⟨e',?_⟩;cases q:H b with
 | none=>rfl
 | some x =>
  have hm:b∈Yd h H:=List.mem_filter.mpr ⟨List.mem_range.mpr (aS e'),by simp [q]⟩;have z:(Cv h H).get? b=none:=PySem.W.hideAll_none (Yd h H) hm;rw [z] at e; cases e
noncomputable def se(g h:Heap)(L:Addr):List (Addr×Obj):=(fK h.objs.size).filterMap fun a=>if a=L\/(g.get? a).isSome=true then none else (h.get? a).map fun o=>(a,o)
theorem wW{g h:Heap}{L a:Addr}{o:Obj}(h1:a≠L)(h2:g.get? a=none)(h3:h.get? a=some o):(a,o)∈se g h L :=
 List.mem_filterMap.mpr ⟨a,List.mem_range.mpr (aS h3),by simp [h1,h2,h3]⟩
theorem yK{g h:Heap}{L:Addr}{p:Addr×Obj}(hp:p∈se g h L):p.1≠L/\g.get? p.1=none/\h.get? p.1=some p.2:=by
 obtain⟨b,_,e⟩:=List.mem_filterMap.mp hp;split at e
 ·cases e
 ·rename_i hn;cases q:h.get? b with
  | none=>rw [q] at e; simp at e
  | some u =>
   rw [q] at e;simp only [tX,KG] at e;subst e;refine⟨fun z=>hn (.inl z),?_,q⟩;show g.get? b=none;cases r:g.get? b with
   | none=>rfl
   | some v=>exact(hn (.inr (by simp [r]))).elim
noncomputable def rest(g h:Heap)(L d:Addr):List (Addr×Obj):=(se g h L).filter fun p=>decide (p.1≠d)
theorem EE{g h:Heap}{L:Addr}:News g L h (se g h L):=fun p hp=>let ⟨a,b,c⟩:=yK hp; ⟨c,a,b⟩
structure Mod(K:ai)(mg:Str->Option Value)(base:Heap):Prop where
 Ys:K.In base
 glob:base.Ns bP mg
 blt:∃ mb,base.Ns builtinsNs mb/\∀ x:Str,x≠"__name__"->mb x=eB x
 nolimit:base.NoLimit
structure Cx where
 prog:bM
 w:World
 K:ai
 mg:Str->Option Value
 base:Heap
 A:dD
 N:List Str
 ny:az
 Qq:Hp
 env:Env
 outer:List Env
 stack:List Env
 ex:List Addr
 fn:Str->Bool
 calm:Bool
 pn:List (Addr×Obj)
 xe:Value->az->Prop
noncomputable def ME(l:List Env):List Addr:=l.filterMap (·.frame)
noncomputable abbrev Cx.fs(X:Cx):List Addr:=ME X.outer
noncomputable def YJ(sc:Scope)(x:Str):Prop:=sc.names.lookup x=some .local\/sc.names.lookup x=some .cell\/sc.names.lookup x=some .free
noncomputable def Loc(sc:Scope)(x:Str):Prop:=sc.names.lookup x=some .local\/sc.names.lookup x=some .cell
noncomputable def Look(env:Env)(h:Heap)(m:Str->Option Value)(x:Str)(u:Value):Prop :=
 (env.kindOf x=some .local/\m x=some u)\/((env.kindOf x=some .cell\/env.kindOf x=some .free)/\∃ c,env.cells.lookup x=some c/\h.IsCell c (some u))
structure Cx.Ok(X:Cx):Prop where
 mod:Mod X.K X.mg X.base
 kind:X.env.scope.kind=.function
 glob:X.env.globals=bP
 blt:X.env.builtins=builtinsNs
 above:X.ny.heap.objs.size<=X.env.locals
 inj:∀ x y c,X.env.cells.lookup x=some c->X.env.cells.lookup y=some c->x=y
 has:∀ x,(X.env.kindOf x=some .cell\/X.env.kindOf x=some .free)->∃ c,X.env.cells.lookup x=some c
 XU:∀ x c,X.fn x=true->X.env.cells.lookup x=some c->X.ny.heap.objs.size<=c
 hd:X.calm=true->X.A.handled=none
 frames:X.A.frames=some X.stack
 Yg:X.stack=X.outer\/(X.stack=X.env :: X.outer/\X.env.frame=some X.env.locals)
 YH:∀ b∈X.ex,b≠X.env.locals/\∀ x c,X.env.cells.lookup x=some c->c≠b
 bs:∀ b o,X.base.get? b=some o->X.ny.heap.get? b=some o/\X.Qq b=none
 Sv:X.base.objs.size<=X.ny.heap.objs.size
 Ll:∀ b o,X.base.get? b=some o->b∉X.ex
 PF:∀ b∈X.ex,b∉X.fs
 zd:X.ny.heap.FunFrames X.base X.outer
 V7:∀ b∈X.fs,X.Qq b=none
structure Inv(X:Cx)(pins:List (Addr×Obj))(σ:List (Option V))(H:Hp)(s:az):Prop where
 ok:X.Ok
 os:s.os=X.ny.os
 bare:BU s.gens
 base:Un X.fs X.ex X.Qq H X.ny.heap s.heap
 loc:∃ m,s.heap.Ns X.env.locals m/\∀ (i:Nat) (x:Str) (v:V),X.N[i]?=some x->σ[i]?=some (some v)->YJ X.env.scope x->∃ u,RelV v u/\Look X.env s.heap m x u
 cell:∀ x c,X.env.cells.lookup x=some c->∃ v,s.heap.IsCell c v
 free:H X.env.locals=none
 pV:∀ x c,X.env.cells.lookup x=some c->H c=none
 pin:∀ p∈X.pn++pins,s.heap.get? p.1=some p.2/\H p.1=none/\p.1≠X.env.locals/\p.1∉X.fs/\∀ v,p.2.data≠.cell v
 cL:pZ X.prog X.w H s.heap
 len:σ.length=X.N.length
section
variable {X:Cx} {pins:List (Addr×Obj)} {σ:List (Option V)} {H H':Hp} {s:az} {h':Heap}
theorem Cx.Ok.ZL(ok:X.Ok){b:Addr}{o:Obj}(e:X.base.get? b=some o):b∉X.fs:=fun hb=>by
 have:=(ok.zd.mem hb).1;rw [e] at this; cases this
theorem Inv.bs(I:Inv X pins σ H s):∀ b o,X.base.get? b=some o->s.heap.get? b=some o/\H b=none:=fun b o e =>
 ⟨I.base.keep b o (I.ok.bs b o e).1 (I.ok.bs b o e).2 (I.ok.ZL e) (I.ok.Ll b o e),I.base.free b o (I.ok.bs b o e).1 (I.ok.bs b o e).2 (I.ok.Ll b o e)⟩
theorem Inv.bk(I:Inv X pins σ H s):∀ b o,X.base.get? b=some o->s.heap.get? b=some o:=fun b o e=>(I.bs b o e).1
theorem Inv.mod(I:Inv X pins σ H s):Mod X.K X.mg X.base:=I.ok.mod
theorem Inv.JS(I:Inv X pins σ H s):X.K.In s.heap:=I.ok.mod.Ys.keeps I.bk
theorem Inv.fr(I:Inv X pins σ H s):∃ m,Fr X.base X.env.locals s.heap m :=
 let ⟨m,hn,_⟩:=I.loc
 ⟨m,hn,I.bk,bu I.ok.Sv I.ok.above⟩
theorem Inv.lt(I:Inv X pins σ H s):X.env.locals < s.heap.objs.size:=let ⟨_,hn,_⟩:=I.loc; hn.lt
theorem Inv.sz(I:Inv X pins σ H s):X.ny.heap.objs.size<=s.heap.objs.size:=bu I.ok.above (QQ I.lt)
theorem Inv.ZK(I:Inv X pins σ H s){a:Addr}(h:s.heap.objs.size<=a):a∉X.fs:=fun hb=>by
 obtain⟨_,o,ho,_⟩:=I.ok.zd.mem hb;exact absurd (bR (aS ho) (bu I.sz h)) (iH _)
theorem Inv.Vz(I:Inv X pins σ H s):∀ x c,X.env.cells.lookup x=some c->c≠X.env.locals:=fun x c e z=>by
 obtain⟨v,o,ho,hd⟩:=I.cell x c e;obtain⟨m,⟨o',es,ep,Dw,z9,_⟩,_⟩:=I.loc;rw [z,Dw] at ho; cases ho; rw [z9] at hd; cases hd
theorem Inv.zd(I:Inv X pins σ H s):s.heap.FunFrames X.base X.outer:=by
 have all:∀ (l:List Env),(∀ b∈ME l,b∈X.fs)->X.ny.heap.FunFrames X.base l->s.heap.FunFrames X.base l:=by
  intro l;induction l with
  | nil=>intro _ _; trivial
  | cons env r ih =>
   intro hs hl;obtain⟨hk,⟨L,o,hf,hn,ho,hd⟩,hr⟩:=hl;have hL:L∈X.fs:=hs L (by unfold ME; rw [xt,hf]; exact cz);obtain⟨sl,e⟩:=I.base.slot L o ho (I.ok.V7 L hL) hL fun z=>I.ok.PF L z hL;exact⟨hk,⟨L,_,hf,hn,e,hd⟩,ih (fun b hb=>hs b (by unfold ME; rw [xt,hf]; exact aE _ hb)) hr⟩
 exact all X.outer (fun _ hb=>hb) I.ok.zd
theorem Inv.stack(I:Inv X pins σ H s):s.heap.FunFrames X.base X.stack:=by
 rcases I.ok.Yg with e | ⟨e,hf⟩
 ·rw [e]; exact I.zd
 ·rw [e];obtain⟨m,hn,_⟩:=I.loc;refine .cons (by rw [I.ok.kind]; decide) hf hn ?_ I.zd;exact QS (bu I.ok.Sv I.ok.above)
theorem Inv.GS(I:Inv X pins σ H s):∀ b∈ME X.stack,b∈X.env.locals :: X.fs:=fun b hb=>by
 rcases I.ok.Yg with e | ⟨e,hf⟩
 ·rw [e] at hb; exact aE _ hb
 ·rw [e] at hb;unfold ME at hb;rw [xt,hf] at hb;exact hb
theorem Inv.Jk(I:Inv X pins σ H s):∀ b∈ME X.stack,H b=none:=fun b hb=>by
 rcases List.mem_cons.mp (I.GS b hb) with e | hb
 ·rw [e]; exact I.free
 ·obtain⟨_,o,ho,_⟩:=I.ok.zd.mem hb;exact I.base.free b o ho (I.ok.V7 b hb) fun z=>I.ok.PF b z hb
theorem Inv.step{g':Array GenState}{t':Nat}{d':Drawn}{ch:List Addr}(I:Inv X pins σ H s)
  (TG:∀ b∈ch,(b∈X.ex\/X.ny.heap.objs.size<=b)/\b≠X.env.locals/\(∀ x c,X.env.cells.lookup x=some c->c≠b)/\∀ p∈X.pn++pins,p.1≠b)
  (keep:∀ b o,b≠X.env.locals->b∉X.fs->b∉ch->s.heap.get? b=some o->H b=none->h'.get? b=some o)
  (slot:∀ b o,b≠X.env.locals->b∈X.fs->b∉ch->s.heap.get? b=some o->H b=none->∃ sl,h'.get? b=some { o with slots:=sl }) (free:∀ b o,b∉ch->s.heap.get? b=some o->H b=none->H' b=none)
  (there:∀ b o,b∉ch->s.heap.get? b=some o->∃ o',h'.get? b=some o')
  (Ah:∀ b xs,H b=some (.tup xs)->H' b=some (.tup xs)) (zg:∀ b o u,H b=some (.jL o u)->H' b=some (.jL o u)) (Am:∀ b q,H b=some (.SO q)->H' b=some (.SO q)) (As:∀ b x,H b=some (.own x)->H' b=some (.own x))
  (ns:∀ m,s.heap.Ns X.env.locals m->h'.Ns X.env.locals m) (cL:pZ X.prog X.w H' h') (hg:BU g') :
  Inv X pins σ H' { s with heap:=h',gens:=g',drawn:=d',toks:=t' }:=by
 have neL:∀ b o,X.ny.heap.get? b=some o->b≠X.env.locals:=fun b o e=>bK (bR (aS e) I.ok.above);have Yq:∀ b o,X.ny.heap.get? b=some o->b∉X.ex->b∉ch:=fun b o e hx hb=>by
  rcases (TG b hb).1 with z | z
  ·exact hx z
  ·exact absurd (bR (aS e) z) (iH _)
 have cellK:∀ x c,X.env.cells.lookup x=some c->∀ v,s.heap.IsCell c v->h'.IsCell c v:=fun x c e v ⟨o,ho,hd⟩=>by
  have W3:c∉ch:=fun z=>(TG c z).2.2.1 x c e rfl;by_cases hc:c∈X.fs
  ·obtain⟨sl,q⟩:=slot c o (I.Vz x c e) hc W3 ho (I.pV x c e);exact⟨_,q,hd⟩
  ·exact⟨o,keep c o (I.Vz x c e) hc W3 ho (I.pV x c e),hd⟩
 refine⟨I.ok,I.os,hg,⟨fun b o e n hb hx=>?_,fun b o e n hb hx=>?_,fun b o e n hx=>?_,fun b o e hx=>?_,fun b xs e=>Ah b xs (I.base.Ah b xs e),fun b o xs e=>zg b o xs (I.base.zg b o xs e),fun b ps e=>?_,fun b x e=>As b x (I.base.As b x e)⟩,?_,fun x c e=>?_,?_,fun x c e=>?_,fun p hp=>?_,cL,I.len⟩
 ·exact keep b o (neL b o e) hb (Yq b o e hx) (I.base.keep b o e n hb hx) (I.base.free b o e n hx)
 ·obtain⟨sl,e1⟩:=I.base.slot b o e n hb hx;obtain⟨sl',e2⟩:=slot b _ (neL b o e) hb (Yq b o e hx) e1 (I.base.free b o e n hx);exact⟨sl',e2⟩
 ·obtain⟨o',e1⟩:=I.base.there b o e hx;exact free b o' (Yq b o e hx) e1 (I.base.free b o e n hx)
 ·obtain⟨o',e1⟩:=I.base.there b o e hx;exact there b o' (Yq b o e hx) e1
 ·exact Am b _ (I.base.Am b ps e)
 ·obtain⟨m,hn,hl⟩:=I.loc;refine⟨m,ns m hn,fun i x v e1 e2 e3=>?_⟩;obtain⟨u,r,l⟩:=hl i x v e1 e2 e3;refine⟨u,r,?_⟩;rcases l with l | ⟨k,c,e,z⟩
  ·exact .inl l
  ·exact .inr ⟨k,c,e,cellK x c e _ z⟩
 ·obtain⟨v,z⟩:=I.cell x c e;exact⟨v,cellK x c e v z⟩
 ·obtain⟨m,⟨o,_,_,ho,_⟩,_⟩:=I.loc;exact free _ o (fun z=>(TG _ z).2.1 rfl) ho I.free
 ·obtain⟨v,o,ho,hd⟩:=I.cell x c e;exact free c o (fun z=>(TG c z).2.2.1 x c e rfl) ho (I.pV x c e)
 ·obtain⟨e,n,ne,nf,d⟩:=I.pin p hp;have W3:p.1∉ch:=fun z=>(TG p.1 z).2.2.2 p hp rfl;exact⟨keep p.1 p.2 ne nf W3 e n,free p.1 p.2 W3 e n,ne,nf,d⟩
theorem Inv.un{t':Nat}(I:Inv X pins σ H s)(u:Un X.fs [] H H' s.heap h')(cL:pZ X.prog X.w H' h'):Inv X pins σ H' { s with heap:=h',toks:=t' }:=by
 obtain⟨m,⟨o,es,ep,ho,r⟩,_⟩:=id I.loc;obtain⟨sl,hL⟩:=u.any ho I.free (by simp);exact I.step (g':=s.gens) (d':=s.drawn) (ch:=[]) (fun _ z=>nomatch z) (fun b o _ hb _ e n=>u.keep b o e n hb (by simp)) (fun b o _ hb _ e n=>u.slot b o e n hb (by simp)) (fun b o _ e n=>u.free b o e n (by simp)) (fun b o _ e=>u.there b o e (by simp)) u.Ah u.zg u.Am u.As (fun m' hm=>by
  obtain⟨o',es',ep',Dw,r'⟩:=hm;rw [ho] at Dw; cases Dw;exact⟨_,es',ep',hL,r'⟩) cL I.bare
theorem Inv.call{g':Array GenState}{t':Nat}{d':Drawn}{ch:List Addr}(I:Inv X pins σ H s)(u:Un (ME X.stack) ch H H' s.heap h')(cL:pZ X.prog X.w H' h')(hg:BU g')
  (TG:∀ b∈ch,(b∈X.ex\/X.ny.heap.objs.size<=b)/\b≠X.env.locals/\(∀ x c,X.env.cells.lookup x=some c->c≠b)/\∀ p∈X.pn++pins,p.1≠b) :
  Inv X pins σ H' { s with heap:=h',gens:=g',drawn:=d',toks:=t' }:=by
 obtain⟨m,⟨o,es,ep,ho,r⟩,_⟩:=id I.loc;obtain⟨sl,hL⟩:=u.any ho I.free fun z=>(TG _ z).2.1 rfl;exact I.step (ch:=ch) TG (fun b o hL hb hc e n=>u.keep b o e n (fun z=>(List.mem_cons.mp (I.GS b z)).elim hL hb) hc) (fun b o _ _ hc e n=>u.any e n hc) (fun b o hc e n=>u.free b o e n hc) (fun b o hc e=>u.there b o e hc) u.Ah u.zg u.Am u.As (fun m' hm=>by
  obtain⟨o',es',ep',Dw,r'⟩:=hm;rw [ho] at Dw; cases Dw;exact⟨_,es',ep',hL,r'⟩) cL hg
theorem Inv.turned{t':Nat}{it:Addr}(I:Inv X pins σ H s)(k:∀ b o,b≠it->s.heap.get? b=some o->h'.get? b=some o)(hn:H it=none)(hL:it≠X.env.locals)
  (h1:it∈X.ex\/X.ny.heap.objs.size<=it) (h2:∀ x c,X.env.cells.lookup x=some c->c≠it) (h3:∀ p∈X.pn++pins,p.1≠it):Inv X pins σ H { s with heap:=h',toks:=t' }:=by
 have nit:∀ b u,H b=some u->b≠it:=fun b u e z=>by rw [z,hn] at e; cases e
 refine I.step (g':=s.gens) (d':=s.drawn) (ch:=[it]) (fun b hb=>?_) (fun b o _ _ hc e _=>k b o (fun z=>hc (by simp [z])) e) (fun b o _ _ hc e _=>⟨o.slots,k b o (fun z=>hc (by simp [z])) e⟩) (fun _ _ _ _ n=>n)
  (fun b o hc e=>⟨o,k b o (fun z=>hc (by simp [z])) e⟩) (fun _ _ e=>e) (fun _ _ _ e=>e) (fun _ _ e=>e) (fun _ _ e=>e) (fun m hm=>?_) (fun b u e=>?_) I.bare
 ·have e:b=it:=by simpa using hb
  subst e;exact⟨h1,hL,h2,h3⟩
 ·obtain⟨o,es,ep,ho,r⟩:=hm;exact⟨o,es,ep,k _ o (fW hL) ho,r⟩
 ·refine(I.cL b u e).kQ (fun c v hc q=>k c v ?_ q) (fun _ q=>q) fun _ _ q=>q;rcases hc with z | z
  ·rw [z]; exact nit b u e
  ·exact nit c _ z
theorem Inv.tok(I:Inv X pins σ H s)(t:Nat):Inv X pins σ H { s with toks:=t }:=I.un (h':=s.heap) (t':=t) Un.refl I.cL
theorem Inv.kept{t':Nat}(I:Inv X pins σ H s)(k:∀ b u,s.heap.get? b=some u->h'.get? b=some u):Inv X pins σ H { s with heap:=h',toks:=t' }:=I.un (Un.kept k) (I.cL.kept k)
theorem Inv.laid{a:Addr}{o:HO}{t':Nat}(I:Inv X pins σ H s)(k:∀ b u,s.heap.get? b=some u->h'.get? b=some u)(hp:s.heap.objs.size<=a)(new:fV X.prog X.w (upd H a o) h' a o) :
  Inv X pins σ (upd H a o) { s with heap:=h',toks:=t' }:=I.un (Un.laid k hp (I.cL.fresh hp)) (I.cL.laid k hp new)
theorem Inv.write{x e:Addr}{o:HO}{t':Nat}(I:Inv X pins σ H s)(mu:X6 (H x))(he:e=x\/H e=some (.own x))(k:∀ b u,b≠e->s.heap.get? b=some u->h'.get? b=some u)(V5:∃ u,h'.get? e=some u)
  (new:fV X.prog X.w (upd H x o) h' x o):Inv X pins σ (upd H x o) { s with heap:=h',toks:=t' }:=I.un (Un.write mu he k V5) (I.cL.write mu he k V5 new)
theorem Inv.JF{S3:List (Addr×Obj)}(I:Inv X pins σ H s)(h:∀ p∈S3,s.heap.get? p.1=some p.2/\H p.1=none/\p.1≠X.env.locals/\p.1∉X.fs/\∀ v,p.2.data≠.cell v):Inv X S3 σ H s :=
 ⟨I.ok,I.os,I.bare,I.base,I.loc,I.cell,I.free,I.pV,fun p hp=>(List.mem_append.mp hp).elim (fun z=>I.pin p (hW _ z)) (h p),I.cL,I.len⟩
theorem EC{N:List Str}(hN:N.Nodup){i j:Nat}{x:Str}(a:N[i]?=some x)(b:N[j]?=some x):i=j:=by
 obtain⟨h1,e1⟩:=List.getElem?_eq_some_iff.mp a;obtain⟨h2,e2⟩:=List.getElem?_eq_some_iff.mp b;exact(Dq hN).mp (e1.trans e2.symm)
theorem AU{M:Model}{A:dD}{E:Value->az->Prop}{i:Nat}{x:Str}{v:V}{u:Value}{Q:Unit->az->Prop}(I:Inv X pins σ H s)(hN:X.N.Nodup)(hi:X.N[i]?=some x)(hx:Loc X.env.scope x)(r:RelV v u)
  (h:∀ s',Inv X pins (σ.set i (some v)) H s'->(∃ a,fF a s.heap s'.heap/\(a=X.env.locals\/X.env.cells.lookup x=some a))->Q () s') (hf:autoParam (X.fn x=true\/X.env.scope.names.lookup x=some .local) Ao._auto_1):wpAny M A (storeName X.env x u) Q E s:=by
 obtain⟨m,hn,hl⟩:=id I.loc;have aaJ:(X.env.scope.kind == .class||(X.env.scope.kind == .module&&X.env.locals != X.env.globals))=false:=by rw [I.ok.kind]; rfl
 have Xr:i < σ.length:=by rw [I.len]; exact(List.getElem?_eq_some_iff.mp hi).1
 have Vz:=I.Vz;have tracked:∀ {a:Addr} {h':Heap},(∃ o,s.heap.get? a=some o/\H a=none)->fF a s.heap h'->pZ X.prog X.w H h':=fun {a h'} ha hs b ob e=>by
  obtain⟨_,_,pT⟩:=ha;refine(I.cL b ob e).kQ (fun c w' hc q=>(hs.2 c ?_).trans q) (fun _ q=>q) fun _ _ q=>q;rintro rfl;rcases hc with rfl | hc
  ·rw [pT] at e; cases e
  ·rw [pT] at hc; cases hc
 rcases hx with hk | hk
 ·refine wpAny_storeName_local hk hn (fun h' hn' hs=>?_) aaJ;obtain⟨oL,_,_,hoL,_⟩:=id hn;refine h _ ⟨I.ok,I.os,I.bare,⟨fun b o e n hb hx=>?_,fun b o e n hb hx=>?_,I.base.free,fun b o e hx=>?_,I.base.Ah,I.base.zg,I.base.Am,I.base.As⟩,⟨_,hn',fun j y v' e1 e2 e3=>?_⟩,fun y c e=>?_,I.free,I.pV,fun p hp=>?_,tracked ⟨oL,hoL,I.free⟩ hs,by simpa using I.len⟩ ⟨_,hs,.inl rfl⟩
  ·exact(hs.2 b (bK (bR (aS e) I.ok.above))).trans (I.base.keep b o e n hb hx)
  ·obtain⟨sl,e1⟩:=I.base.slot b o e n hb hx;exact⟨sl,(hs.2 b (bK (bR (aS e) I.ok.above))).trans e1⟩
  ·obtain⟨o',e1⟩:=I.base.there b o e hx;exact⟨o',(hs.2 b (bK (bR (aS e) I.ok.above))).trans e1⟩
  ·by_cases hj:j=i
   ·subst hj;rw [hi] at e1; cases e1;rw [dZ Xr] at e2;cases e2;exact⟨u,r,.inl ⟨hk,by simp⟩⟩
   ·rw [e7 (fW hj)] at e2;obtain⟨u',r',q⟩:=hl j y v' e1 e2 e3;refine⟨u',r',?_⟩;rcases q with ⟨k,e⟩ | ⟨k,c,e,z⟩
    ·refine .inl ⟨k,?_⟩;have:y≠x:=fun e=>hj (EC hN e1 (e ▸ hi));simp [this,e]
    ·exact .inr ⟨k,c,e,z.sameBut hs (Vz y c e)⟩
  ·obtain⟨w',z⟩:=I.cell y c e;exact⟨w',z.sameBut hs (Vz y c e)⟩
  ·obtain⟨e,n,ne,nf,d⟩:=I.pin p hp;exact⟨(hs.2 p.1 ne).trans e,n,ne,nf,d⟩
 ·have hfn:X.fn x=true:=by
   rcases hf with z | z
   ·exact z
   ·rw [z] at hk; cases hk
  obtain⟨c,hc⟩:=I.ok.has x (.inl hk);obtain⟨w',z⟩:=I.cell x c hc;refine wpAny_storeName_cell I.ok.kind hk hc z (fun h' QI hs=>?_);obtain⟨oc,V2,aar⟩:=id z;refine h { s with heap:=h' } ⟨I.ok,I.os,I.bare,⟨fun b o e n hb hx=>?_,fun b o e n hb hx=>?_,I.base.free,fun b o e hx=>?_,I.base.Ah,I.base.zg,I.base.Am,I.base.As⟩,⟨m,hn.sameBut hs (fW (Vz x c hc)),fun j y v' e1 e2 e3=>?_⟩,fun y c' e=>?_,I.free,I.pV,fun p hp=>?_,tracked ⟨oc,V2,I.pV x c hc⟩ hs,by simpa using I.len⟩ ⟨c,hs,.inr hc⟩
  ·exact(hs.2 b (bK (bR (aS e) (I.ok.XU x c hfn hc)))).trans (I.base.keep b o e n hb hx)
  ·obtain⟨sl,e1⟩:=I.base.slot b o e n hb hx;exact⟨sl,(hs.2 b (bK (bR (aS e) (I.ok.XU x c hfn hc)))).trans e1⟩
  ·obtain⟨o',e1⟩:=I.base.there b o e hx;exact⟨o',(hs.2 b (bK (bR (aS e) (I.ok.XU x c hfn hc)))).trans e1⟩
  ·by_cases hj:j=i
   ·subst hj;rw [hi] at e1; cases e1;rw [dZ Xr] at e2;cases e2;exact⟨u,r,.inr ⟨.inl hk,c,hc,QI⟩⟩
   ·rw [e7 (fW hj)] at e2;obtain⟨u',r',q⟩:=hl j y v' e1 e2 e3;refine⟨u',r',?_⟩;rcases q with q | ⟨k,c',e,z'⟩
    ·exact .inl q
    ·refine .inr ⟨k,c',e,z'.sameBut hs ?_⟩;rintro rfl;exact hj (EC hN e1 (I.ok.inj _ _ _ e hc ▸ hi))
  ·by_cases hcc:c'=c
   ·subst hcc; exact⟨_,QI⟩
   ·obtain⟨w2,z2⟩:=I.cell y c' e;exact⟨w2,z2.sameBut hs hcc⟩
  ·obtain⟨e,n,ne,nf,d⟩:=I.pin p hp;refine⟨(hs.2 p.1 ?_).trans e,n,ne,nf,d⟩;intro q;rw [q,V2] at e;have q':oc=p.2:=ba e;exact d w' (by rw [<-q']; exact aar)
theorem DX{M:Model}{A:dD}{E:Value->az->Prop}{i:Nat}{x:Str}{v:V}{u:Value}{Q:Unit->az->Prop}(I:Inv X pins σ H s)(hN:X.N.Nodup)(hi:X.N[i]?=some x)(hx:Loc X.env.scope x)(r:RelV v u)
  (h:∀ s',Inv X pins (σ.set i (some v)) H s'->Q () s') (hf:autoParam (X.fn x=true\/X.env.scope.names.lookup x=some .local) Ao._auto_1):wpAny M A (storeName X.env x u) Q E s :=
 AU I hN hi hx r (fun s' I' _=>h s' I') hf
end
noncomputable abbrev XK:=Value->Option Addr->Hp->Prop
noncomputable abbrev St:=List (Option V)
noncomputable abbrev VK:=V->Hp->Prop
noncomputable abbrev TE:=St->Hp->VK->Prop
noncomputable abbrev TT:=St->Hp->(Bool->Hp->Prop)->Prop
noncomputable abbrev TA:=St->Hp->(List V->Hp->Prop)->Prop
structure Ends where
 nx:St->Hp->Prop
 rt:VK
 bk:St->Hp->Prop:=fun _ _=>False
 ct:St->Hp->Prop:=fun _ _=>False
noncomputable abbrev TS:=Ends->St->Hp->Prop
noncomputable def EP(X:Cx)(pins:List (Addr×Obj))(σ:St)(Q:VK)(u:Value)(s':az):Prop:=∃ v H',Inv X pins σ H' s'/\RelV v u/\Q v H'
noncomputable def TP(X:Cx)(pins:List (Addr×Obj))(σ:St)(Q:Bool->Hp->Prop)(b:Bool)(s':az):Prop:=∃ H',Inv X pins σ H' s'/\Q b H'
noncomputable def SP(X:Cx)(pins:List (Addr×Obj))(D:Ends)(f:Flow)(s':az):Prop :=
 match f with
 | .next=>∃ jB H',Inv X pins jB H' s'/\D.nx jB H'
 | .brk=>∃ jB H',Inv X pins jB H' s'/\D.bk jB H'
 | .cont=>∃ jB H',Inv X pins jB H' s'/\D.ct jB H'
 | .ret u=>∃ v jB H',Inv X pins jB H' s'/\RelV v u/\D.rt v H'
noncomputable def PE(X:Cx)(e:Expr)(t:TE):Prop :=
 ∀ (pins:List (Addr×Obj)) (s:az) (σ:St) (H:Hp) (Q:VK),Inv X pins σ H s->t σ H Q->wpAny (model X.prog X.w) X.A (eval e X.env) (EP X pins σ Q) X.xe s
noncomputable def Wb(X:Cx)(st:List Stmt)(t:TS):Prop :=
 ∀ (pins:List (Addr×Obj)) (s:az) (σ:St) (H:Hp) (D:Ends),Inv X pins σ H s->t D σ H->wpAny (model X.prog X.w) X.A (execs st X.env) (SP X pins D) X.xe s
theorem gN{α:Type}{t:Sem α}{Q Q':α->az->Prop}{M:Model}{A:dD}{E:Value->az->Prop}{s:az}(h:wpAny M A t Q E s)(hQ:∀ a s,Q a s->Q' a s):wpAny M A t Q' E s:=wpAny_mono h hQ fun _ _ x=>x
section
variable {X:Cx}
noncomputable def Y8(i:Nat):TE:=fun σ H Q=>∃ v,σ[i]?=some (some v)/\Q v H
noncomputable def tC(v:V):TE:=fun _ H Q=>Q v H
theorem UJ {i:Nat} {x:Str} {pos:Pos} (hN:X.N[i]?=some x) (hv:YJ X.env.scope x) (hd:autoParam ((x == ("__debug__" : Str))=false) Ad._auto_1) (J2:autoParam ((x == ("__classdict__" : Str))=false) Ad._auto_1):PE X (.Name x pos) (Y8 i):=by
 intro pins s σ H Q I h;obtain⟨v,e,h⟩:=h;obtain⟨m,hn,hl⟩:=I.loc;obtain⟨u,r,l⟩:=hl i x v hN e hv;have fin:EP X pins σ Q u s:=⟨v,H,I,r,h⟩;rcases l with ⟨hk,hm⟩ | ⟨hk,c,hc,pU⟩
 ·exact wpAny_Name (wpAny_loadName_local I.ok.kind hk hn hm fin) hd
 ·rcases hk with hk | hk
  ·exact wpAny_Name (wpAny_loadName_cell I.ok.kind hk hc pU fin) hd
  ·exact wpAny_Name (wpAny_loadName_free I.ok.kind hk hc pU fin J2) hd
theorem UK{i j pos}:PE X (.Constant (.int i) j pos) (tC (.int i)):=fun _ _ _ H _ I h=>wpAny_Constant_int ⟨.int i,H,I.tok _,⟨_,rfl⟩,h⟩
theorem WI{b j pos}:PE X (.Constant (.bool b) j pos) (tC (.bl b)):=fun _ _ _ H _ I h=>Constant_bool ⟨.bl b,H,I,rfl,h⟩
noncomputable def Gl(X:Cx)(x:Str):Prop:=X.env.kindOf x=some .globalImplicit
theorem Co{E:Value->az->Prop}{pins:List (Addr×Obj)}{s:az}{σ:St}{H:Hp}{x:Str}{u:Value}{pos:Pos}{Q:Value->az->Prop}(I:Inv X pins σ H s)(hg:Gl X x)(hm:X.mg x=some u)(h:Q u s)
  (hd:autoParam ((x == ("__debug__" : Str))=false) Ad._auto_1):wpAny (model X.prog X.w) X.A (eval (.Name x pos) X.env) Q E s :=
 Gb I.ok.kind hg (Calls.loadGlobal_global (by rw [I.ok.glob]; exact I.mod.glob.keeps I.bk) hm h) hd
theorem pF{E:Value->az->Prop}{pins:List (Addr×Obj)}{s:az}{σ:St}{H:Hp}{x:Str}{u:Value}{pos:Pos}{Q:Value->az->Prop}(I:Inv X pins σ H s)(hg:Gl X x)(hm:X.mg x=none)(hv:eB x=some u)(h:Q u s)
  (hn:autoParam (x≠"__name__") Ad._auto_1) (hd:autoParam ((x == ("__debug__" : Str))=false) Ad._auto_1):wpAny (model X.prog X.w) X.A (eval (.Name x pos) X.env) Q E s:=by
 obtain⟨mb,h1,h2⟩:=I.mod.blt;exact Gb I.ok.kind hg (Calls.loadGlobal_builtin (by rw [I.ok.glob]; exact I.mod.glob.keeps I.bk) hm (by rw [I.ok.blt]; exact h1.keeps I.bk) ((h2 x hn).trans hv) h) hd
theorem Rp {x:Str} {v:V} {u:Value} {pos:Pos} (hg:Gl X x) (hm:X.mg x=some u) (r:RelV v u) (hd:autoParam ((x == ("__debug__" : Str))=false) Ad._auto_1):PE X (.Name x pos) (tC v) :=
 fun _ _ _ H _ I h=>Co I hg hm ⟨v,H,I,r,h⟩ hd
variable {a b:Expr} {ta tb:TE} {pos:Pos}
noncomputable def tB(t:TE):TT:=fun σ H Q=>t σ H fun x H1=>∃ c,x=.bl c/\Q c H1
variable {tA tB':TT} {rest:List Expr}
end
noncomputable def rz(K:ai)(H:Hp)(a:Addr)(xs:List V):Prop :=
 Rd H a (.lst xs) \/
  ∃ (o:Obj) (bW:Array Value) (n:Nat),K.lookup a=some o/\o.cls=.type "list"/\o.dict=none/\o.data=.seq bW n/\bW.size<=bc/\Vals xs bW.toList
noncomputable def xX(K:ai)(H:Hp)(a:Addr)(xs:List V):Prop :=
 Rd H a (.tup xs) \/
  ∃ (o:Obj) (bW:Array Value) (n:Nat),K.lookup a=some o/\o.cls=.type "tuple"/\o.data=.seq bW n/\bW.size<=bc/\Vals xs bW.toList
noncomputable def aa8:Value->Option V
 | .none=>some .eU
 | .bool b=>some (.bl b)
 | .int i _=>some (.int i)
 | .str x _=>some (.str x)
 | .bytes b _=>some (.VC b)
 | .float b _=>some (.XJ b)
 | .ref a=>some (.ref a)
 | .type n=>some (.ty n)
 | _=>none
theorem RelV.abs{x:V}{u:Value}(r:RelV x u):aa8 u=some x:=by
 cases x with
 | eU=>cases r; rfl
 | bl _=>cases r; rfl
 | int _=>obtain⟨t,rfl⟩:=r; rfl
 | str _=>obtain⟨t,rfl⟩:=r; rfl
 | VC _=>obtain⟨t,rfl⟩:=r; rfl
 | XJ _=>obtain⟨t,rfl⟩:=r; rfl
 | ref _=>cases r; rfl
 | ty _=>cases r; rfl
theorem RelV.inj{x y:V}{u:Value}(r:RelV x u)(q:RelV y u):x=y:=ba (r.abs.symm.trans q.abs)
theorem Vals.inj:∀ {xs ys:List V} {us:List Value},Vals xs us->Vals ys us->xs=ys:=by
 intro xs ys us h;induction h generalizing ys with
 | nil=>intro k; cases k; rfl
 | cons r t ih =>
  intro k;cases k with
  | cons r' t'=>rw [r.inj r',ih t']
section
variable {X:Cx} {pins:List (Addr×Obj)} {σ:St} {H:Hp} {s:az} {a:Addr} {xs ys:List V}
theorem rz.of{K:ai}(h:H a=some (.lst xs)):rz K H a xs:=.inl (.inl h)
theorem xX.of{K:ai}(h:H a=some (.tup xs)):xX K H a xs:=.inl (.inl h)
theorem Inv.list(I:Inv X pins σ H s)(h:rz X.K H a xs):∃ bW:List Value,Vals xs bW/\PlainL s.heap a bW.toArray/\xs.length<=bc:=by
 rcases h with h | ⟨o,bW,n,hk,hc,hd,hs,hz,r⟩
 ·obtain⟨z,bW,n,r,e⟩:=h.ok I.cL;exact⟨bW,r,⟨_,n,e,rfl,rfl,rfl⟩,z⟩
 ·refine⟨bW.toList,r,⟨o,n,I.JS a o hk,hc,hd,by simpa using hs⟩,?_⟩;have e:=r.length;simp only [eE] at e;lia
theorem Inv.tuple(I:Inv X pins σ H s)(h:xX X.K H a xs):∃ bW:List Value,Vals xs bW/\IsTup s.heap a bW.toArray/\xs.length<=bc:=by
 rcases h with h | ⟨o,bW,n,hk,hc,hs,hz,r⟩
 ·obtain⟨z,bW,r,p⟩:=h.ok I.cL;exact⟨bW,r,p,z⟩
 ·refine⟨bW.toList,r,⟨o,I.JS a o hk,hc,n,by simpa using hs⟩,?_⟩;have e:=r.length;simp only [eE] at e;lia
theorem Inv.yX(I:Inv X pins σ H s)(h:rz X.K H a xs)(h':rz X.K H a ys):xs=ys:=by
 obtain⟨bW,r,⟨o,n,e,_,_,d⟩,_⟩:=I.list h;obtain⟨its',r',⟨o',n',e',_,_,d'⟩,_⟩:=I.list h';rw [e] at e'; cases e';rw [d] at d';injection d' with d1 _
 have:bW=its':=by simpa using congrArg Array.toList d1
 subst this;exact r.inj r'
theorem Inv.KO(I:Inv X pins σ H s)(h:xX X.K H a xs)(h':xX X.K H a ys):xs=ys:=by
 obtain⟨bW,r,⟨o,e,_,n,d⟩,_⟩:=I.tuple h;obtain⟨its',r',⟨o',e',_,n',d'⟩,_⟩:=I.tuple h';rw [e] at e'; cases e';rw [d] at d';injection d' with d1 _
 have:bW=its':=by simpa using congrArg Array.toList d1
 subst this;exact r.inj r'
end
noncomputable abbrev Cx.Ag(X:Cx)(E:Value->az->Prop):Cx:={ X with xe:=E }
noncomputable abbrev Cx.VY(X:Cx):Cx:=X.Ag fun _ _=>False
theorem Cx.Ok.Ag{X:Cx}(ok:X.Ok)(E:Value->az->Prop):(X.Ag E).Ok :=
 ⟨ok.mod,ok.kind,ok.glob,ok.blt,ok.above,ok.inj,ok.has,ok.XU,ok.hd,ok.frames,ok.Yg,ok.YH,ok.bs,ok.Sv,ok.Ll,ok.PF,ok.zd,ok.V7⟩
theorem Cx.Ok.qz{X:Cx}{E:Value->az->Prop}(ok:(X.Ag E).Ok):X.Ok :=
 ⟨ok.mod,ok.kind,ok.glob,ok.blt,ok.above,ok.inj,ok.has,ok.XU,ok.hd,ok.frames,ok.Yg,ok.YH,ok.bs,ok.Sv,ok.Ll,ok.PF,ok.zd,ok.V7⟩
section
variable {X:Cx} {pins:List (Addr×Obj)} {σ:St} {H:Hp} {s:az} {E:Value->az->Prop}
theorem Inv.Ag(I:Inv X pins σ H s)(E:Value->az->Prop):Inv (X.Ag E) pins σ H s:=⟨I.ok.Ag E,I.os,I.bare,I.base,I.loc,I.cell,I.free,I.pV,I.pin,I.cL,I.len⟩
theorem Inv.qz(I:Inv (X.Ag E) pins σ H s):Inv X pins σ H s:=⟨I.ok.qz,I.os,I.bare,I.base,I.loc,I.cell,I.free,I.pV,I.pin,I.cL,I.len⟩
theorem SP.qz{D:Ends}{f:Flow}{s':az}(h:SP (X.Ag E) pins D f s'):SP X pins D f s':=by
 cases f with
 | next=>obtain⟨jB,H',I,q⟩:=h; exact⟨jB,H',I.qz,q⟩
 | brk=>obtain⟨jB,H',I,q⟩:=h; exact⟨jB,H',I.qz,q⟩
 | cont=>obtain⟨jB,H',I,q⟩:=h; exact⟨jB,H',I.qz,q⟩
 | ret u=>obtain⟨v,jB,H',I,r,q⟩:=h; exact⟨v,jB,H',I.qz,r,q⟩
theorem Wb.VY{st:List Stmt}{t:TS}(h:Wb X.VY st t):Wb X st t:=fun pins s σ H D I hw =>
 wpAny_mono (h pins s σ H D (I.Ag _) hw) (fun _ _ q=>q.qz) fun _ _ z=>bS z
end
section
variable {X:Cx} {st:Stmt} {rest:List Stmt} {t u:TS} {e:Expr} {te:TE} {pos:Pos}
theorem Inv.quiet{pins:List (Addr×Obj)}{σ:St}{H:Hp}{s:az}(I:Inv X pins σ H s):interactive X.env=false:=by simp [interactive,I.ok.kind]
end
noncomputable abbrev aba:=V->V->V->Hp->(Hp->Prop)->Prop
noncomputable def abc(X:Cx)(t:aba):Prop :=
 ∀ (pins:List (Addr×Obj)) (s:az) (σ:St) (H:Hp) (o i v:V) (ov iv u:Value) (Q:Hp->Prop),Inv X pins σ H s->RelV o ov->RelV i iv->RelV v u->t o i v H Q ->
  wpAny (model X.prog X.w) X.A (setItem ov iv u) (fun _ s'=>∃ H',Inv X pins σ H' s'/\Q H') X.xe s
structure It where
 go:Nat->Hp->Prop
 yld:Nat->Hp->V->Hp->Prop
 stop:Nat->Hp->Prop
noncomputable def ou(X:Cx)(pins:List (Addr×Obj))(H:Hp)(b:Addr):Prop :=
 H b=none/\b≠X.env.locals/\b∉X.fs/\(b∈X.ex\/X.ny.heap.objs.size<=b)/\(∀ x c,X.env.cells.lookup x=some c->c≠b)/\∀ p∈X.pn++pins,p.1≠b
theorem Inv.CB{X:Cx}{pins:List (Addr×Obj)}{σ:St}{H H':Hp}{s:az}{b:Addr}(I:Inv X pins σ H s)(hb:s.heap.objs.size<=b)(hn:H' b=none):ou X pins H' b:=by
 refine⟨hn,vC (bR I.lt hb),I.ZK hb,.inr (bu I.sz hb),fun x c e z=>?_,fun p hp z=>?_⟩
 ·obtain⟨v,q⟩:=I.cell x c e;exact absurd (bR q.lt (by rw [z]; exact hb)) (iH _)
 ·exact absurd (bR (aS (I.pin p hp).1) (by rw [z]; exact hb)) (iH _)
structure Turn(P:bM)(w:World)(K:ai)(tg:Expr)(J:It)(fp:List Addr)(it:Addr)(tn:Nat->Heap->Prop):Prop where
 mem:it∈fp
 obj:∀ i h,tn i h->∀ b∈fp,∃ o,h.get? b=some o/\∀ v,o.data≠.cell v
 keep:∀ i h h',tn i h->(∀ b∈fp,∀ o,h.get? b=some o->h'.get? b=some o)->tn i h'
 item:∀ (X:Cx),X.prog=P->X.w=w->X.K=K->X.calm=true->∀ (i:Nat) (pins:List (Addr×Obj)) (s:az) (σ:St) (H:Hp) (E:Value->az->Prop),Inv X pins σ H s->(∀ b∈fp,ou X pins H b)->tn i s.heap->J.go i H ->
  wpAny (model P w) X.A (DD (.ref it)) (fun r s1=>∃ u,r=some u /\
   wpAny (model P w) X.A (x4 tg (.ref it) u) (fun _ s2=>∃ x H',Inv X pins σ H' s2/\RelV x u/\J.yld i H x H'/\tn (i+1) s2.heap/\∀ b∈fp,H' b=none) E s1) E s
 done:∀ (X:Cx),X.prog=P->X.w=w->X.K=K->X.calm=true->∀ (i:Nat) (pins:List (Addr×Obj)) (s:az) (σ:St) (H:Hp) (E:Value->az->Prop),Inv X pins σ H s->(∀ b∈fp,ou X pins H b)->tn i s.heap->J.stop i H ->
  wpAny (model P w) X.A (DD (.ref it)) (fun r s1=>r=none/\Inv X pins σ H s1) E s
 self:∀ (A:dD) (i:Nat) (s:az) (Q:Value->az->Prop) (E:Value->az->Prop),tn i s.heap->Q (.ref it) s->wpAny (model P w) A (MO (.ref it)) Q E s
noncomputable abbrev TI:=St->Hp->(It->Hp->Prop)->Prop
noncomputable def PIE(X:Cx)(pins:List (Addr×Obj))(σ:St)(tg:Expr)(R:It->Hp->Prop)(To:Value)(s2:az):Prop :=
 ∃ (it:Addr) (fp:List Addr) (tn:Nat->Heap->Prop) (J:It) (H':Hp),To=.ref it/\Inv X pins σ H' s2/\Turn X.prog X.w X.K tg J fp it tn/\tn 0 s2.heap/\(∀ b∈fp,ou X pins H' b)/\R J H'
theorem J4{M:Model}{A:dD}{E:Value->az->Prop}{s:az}{tg:Expr}{it:Addr}{u:Value}{o:Obj}{n:String}{vs:Array Value}{Q:Unit->az->Prop}(ho:s.heap.get? it=some o)(hc:o.cls=.type n)(hd:o.data=.fields vs)
    (hn:["enumerate","zip","dict_itemiterator","dict_reverseitemiterator","odict_iterator","itertools.zip_longest","itertools.pairwise"].contains n=false) (hQ:Q () s):wpAny M A (x4 tg (.ref it) u) Q E s:=by
  unfold x4;cases tg <;> first
    | exact aC hQ
    | (cases u <;> first
        | exact aC hQ
        | (refine ag (wpAny_load ho ?_)
           rw [hc,hd];show wpAny M A (if (["enumerate","zip","dict_itemiterator","dict_reverseitemiterator","odict_iterator","itertools.zip_longest","itertools.pairwise"].contains n&&vs[0]? == some (DC _))=true then _ else _) Q E s;rw [if_neg (by intro h; rw [hn,Jb] at h; cases h)];exact aC hQ))
noncomputable def Itl(K:ai)(a:Addr):It :=
 ⟨fun i H=>∃ xs x,rz K H a xs/\xs[i]?=some x,fun i H x H'=>H'=H/\∀ xs,rz K H a xs->xs[i]?=some x,fun i H=>∃ xs,rz K H a xs/\xs.length<=i⟩
noncomputable def Itt(K:ai)(a:Addr):It :=
 ⟨fun i H=>∃ xs x,xX K H a xs/\xs[i]?=some x,fun i H x H'=>H'=H/\∀ xs,xX K H a xs->xs[i]?=some x,fun i H=>∃ xs,xX K H a xs/\xs.length<=i⟩
noncomputable def Itr(lo:Int)(n:Nat):It:=⟨fun i _=>i < n,fun i H x H'=>H'=H/\x=.int (lo+i),fun i _=>n<=i⟩
theorem KL{P:bM}{w:World}{K:ai}{tg:Expr}(a it:Addr):Turn P w K tg (Itl K a) [it] it (fun i h=>h.IsListIter it a i) where
 mem:=by simp
 obj:=fun i h st b hb=>by
  have e:b=it:=by simpa using hb
  subst e;obtain⟨o,e,c,d⟩:=st;exact⟨o,e,fun v z=>by rw [d] at z; cases z⟩
 keep:=fun i h h' st k=>st.at fun o e=>k it (by simp) o e
 item:=by
  intro X hP hw hK hc i pins s σ H E I hf st hg;subst hP hw hK;obtain⟨xs,x,hq,hx⟩:=hg;obtain⟨bW,rv,p,hz⟩:=I.list hq;obtain⟨u,hu,ru⟩:=rv.get hx;obtain⟨f0,f1,f2,f3,f4,f5⟩:=hf it (by simp);refine wpAny_pyNext_list_item st p.isList (x:=u) (by simpa using hu) fun h' Gf sb=>?_;have I1:Inv X pins σ H { s with heap:=h' }:=I.turned (t':=s.toks) (fun b o hb e=>(sb.2 b hb).trans e) f0 f1 f3 f4 f5;obtain⟨o,e,c,d⟩:=id Gf;exact⟨u,rfl,J4 (s:={ s with heap:=h' }) e c d (by decide) ⟨x,H,I1,ru,⟨rfl,fun ys hy=>by rw [I.yX hy hq]; exact hx⟩,Gf,fun b hb=>(hf b hb).1⟩⟩
 done:=by
  intro X hP hw hK hc i pins s σ H E I hf st hg;subst hP hw hK;obtain⟨xs,hq,hx⟩:=hg;obtain⟨bW,rv,p,hz⟩:=I.list hq;obtain⟨f0,f1,f2,f3,f4,f5⟩:=hf it (by simp);have hl:=rv.length;exact wpAny_pyNext_list_end (I.ok.hd hc) st p.isList (by simp; lia) fun h' eb=>⟨rfl,I.turned (t':=s.toks) (fun b o hb e=>eb b o hb e) f0 f1 f3 f4 f5⟩
 self:=fun _ _ _ _ _ st h=>wpAny_pyIter_listiter st h
theorem GJ{P:bM}{w:World}{K:ai}{tg:Expr}(a it:Addr):Turn P w K tg (Itt K a) [it] it (fun i h=>h.IsTupleIter it a i) where
 mem:=by simp
 obj:=fun i h st b hb=>by
  have e:b=it:=by simpa using hb
  subst e;obtain⟨o,e,c,d⟩:=st;exact⟨o,e,fun v z=>by rw [d] at z; cases z⟩
 keep:=fun i h h' st k=>st.at fun o e=>k it (by simp) o e
 item:=by
  intro X hP hw hK hc i pins s σ H E I hf st hg;subst hP hw hK;obtain⟨xs,x,hq,hx⟩:=hg;obtain⟨bW,rv,p,hz⟩:=I.tuple hq;obtain⟨u,hu,ru⟩:=rv.get hx;obtain⟨f0,f1,f2,f3,f4,f5⟩:=hf it (by simp);refine wpAny_pyNext_tuple_item st (show s.heap.IsTuple a bW.toArray from p) (x:=u) (by simpa using hu) fun h' Gf sb=>?_;have I1:Inv X pins σ H { s with heap:=h' }:=I.turned (t':=s.toks) (fun b o hb e=>(sb.2 b hb).trans e) f0 f1 f3 f4 f5;obtain⟨o,e,c,d⟩:=id Gf;exact⟨u,rfl,J4 (s:={ s with heap:=h' }) e c d (by decide) ⟨x,H,I1,ru,⟨rfl,fun ys hy=>by rw [I.KO hy hq]; exact hx⟩,Gf,fun b hb=>(hf b hb).1⟩⟩
 done:=by
  intro X hP hw hK hc i pins s σ H E I hf st hg;subst hP hw hK;obtain⟨xs,hq,hx⟩:=hg;obtain⟨bW,rv,p,hz⟩:=I.tuple hq;obtain⟨f0,f1,f2,f3,f4,f5⟩:=hf it (by simp);have hl:=rv.length;exact wpAny_pyNext_tuple_end (I.ok.hd hc) st (show s.heap.IsTuple a bW.toArray from p) (by simp; lia) fun h' eb=>⟨rfl,I.turned (t':=s.toks) (fun b o hb e=>eb b o hb e) f0 f1 f3 f4 f5⟩
 self:=fun _ _ _ _ _ st h=>wpAny_pyIter_tupleiter st h
theorem GK{P:bM}{w:World}{K:ai}{tg:Expr}(it:Addr)(lo:Int)(n:Nat):Turn P w K tg (Itr lo n) [it] it (fun i h=>IsRangeIter h it (lo+(i:Nat) * 1) ((n:Int) - (i:Nat)) 1) where
 mem:=by simp
 obj:=fun i h st b hb=>by
  have e:b=it:=by simpa using hb
  subst e;exact⟨_,st,fun v z=>by
   have z':Data.fields _=Data.cell v:=z;cases z'⟩
 keep:=fun i h h' st k=>k it (by simp) _ st
 item:=by
  intro X hP hw hK hc i pins s σ H E I hf st hg;subst hP hw hK;obtain⟨f0,f1,f2,f3,f4,f5⟩:=hf it (by simp);have W:=Walks.range (prog:=X.prog) (w:=X.w) (I.ok.hd hc) it lo 1 n;refine W.item i s _ _ hg st fun v h' tk hv Gf kk=>?_;obtain⟨t,rfl⟩:=hv;have I1:Inv X pins σ H { s with heap:=h',toks:=tk }:=I.turned (fun b o hb e=>kk b o (by simpa using hb) e) f0 f1 f3 f4 f5;refine⟨_,rfl,J4 (s:={ s with heap:=h',toks:=tk }) (n:="range_iterator") Gf rfl rfl (by decide) ⟨.int (lo+i),H,I1,⟨t,?_⟩,⟨rfl,rfl⟩,Gf,fun b hb=>(hf b hb).1⟩⟩;rw [Int.mul_one]
 done:=by
  intro X hP hw hK hc i pins s σ H E I hf st hg;subst hP hw hK;obtain⟨f0,f1,f2,f3,f4,f5⟩:=hf it (by simp);exact wpAny_pyNext_range_end (I.ok.hd hc) st (by have:n<=i:=hg; lia) fun h' eb=>⟨rfl,I.turned (t':=s.toks) (fun b o hb e=>eb b o hb e) f0 f1 f3 f4 f5⟩
 self:=fun _ _ _ _ _ st h=>wpAny_pyIter_rangeiter st h
section
variable {X:Cx} {tg:Expr}
theorem NM{pins:List (Addr×Obj)}{σ:St}{H:Hp}{s:az}{R:It->Hp->Prop}{E:Value->az->Prop}{lo hi:Int}{t u v:Tok}{tk:Nat}(I:Inv X pins σ H s)(h1:-(2 ^ 62)<=lo)(h2:lo < 2 ^ 62)(h3:-(2 ^ 62)<=hi)(h4:hi < 2 ^ 62)
  (q:R (Itr lo (hi - lo).toNat) H):wpAny (model X.prog X.w) X.A (MO (.ref s.heap.objs.size)) (PIE X pins σ tg R) E { s with heap:=s.heap.push { cls:=.type "range",data:=.fields #[.int lo t,.int hi u,.int 1 v] },toks:=tk }:=by
 refine wpAny_pyIter_range (IsRange.new ..) (small_one h1 h2 h3 h4) ?_;have I1:Inv X pins σ H { s with heap:=s.heap.push { cls:=.type "range",data:=.fields #[.int lo t,.int hi u,.int 1 v] },toks:=tk }:=I.kept fun b o e=>aG _ e
 refine⟨(s.heap.push { cls:=.type "range",data:=.fields #[.int lo t,.int hi u,.int 1 v] }).objs.size,[(s.heap.push { cls:=.type "range",data:=.fields #[.int lo t,.int hi u,.int 1 v] }).objs.size],_,_,H,rfl,
  I1.kept (t':=tk) fun b o e=>aG _ e,GK _ lo (hi - lo).toNat,?_,fun b hb=>?_,q⟩
 ·have e1:lo+((0:Nat):Int) * 1=lo:=by simp
  have e2:(((hi - lo).toNat:Nat):Int) - ((0:Nat):Int)=Builtin.Range.rangeSize lo hi 1:=by rw [rangeSize_one]; split <;> lia
  show IsRangeIter _ _ (lo+((0:Nat):Int) * 1) ((((hi - lo).toNat:Nat):Int) - ((0:Nat):Int)) 1;rw [e1,e2];exact bh _ rfl
 ·have e:b=(s.heap.push { cls:=.type "range",data:=.fields #[.int lo t,.int hi u,.int 1 v] }).objs.size:=by simpa using hb
  subst e;exact I1.CB (aI _) (I1.cL.fresh (aI _))
noncomputable def qQ(fp:List Addr)(h:Heap):List (Addr×Obj):=fp.filterMap fun b=>(h.get? b).map fun o=>(b,o)
theorem pD{fp:List Addr}{h:Heap}{b:Addr}{o:Obj}(hb:b∈fp)(e:h.get? b=some o):(b,o)∈qQ fp h:=List.mem_filterMap.mpr ⟨b,hb,by rw [e]; rfl⟩
theorem Li{fp:List Addr}{h:Heap}{p:Addr×Obj}(hp:p∈qQ fp h):p.1∈fp/\h.get? p.1=some p.2:=by
 obtain⟨b,hb,e⟩:=List.mem_filterMap.mp hp;cases q:h.get? b with
 | none=>rw [q] at e; cases e
 | some o =>
  rw [q] at e;have e':(b,o)=p:=ba e;subst e';exact⟨hb,q⟩
theorem Inv.pinned{pins:List (Addr×Obj)}{σ:St}{H:Hp}{s:az}{fp:List Addr}(I:Inv X pins σ H s)(hf:∀ b∈fp,ou X pins H b)(ho:∀ b∈fp,∃ o,s.heap.get? b=some o/\∀ v,o.data≠.cell v):Inv X (pins++qQ fp s.heap) σ H s :=
 I.JF fun p hp=>(List.mem_append.mp hp).elim (fun z=>I.pin p (df _ z)) fun z=>by
  obtain⟨hb,e⟩:=Li z;obtain⟨f0,f1,f2,_⟩:=hf p.1 hb;obtain⟨o,e',d⟩:=ho p.1 hb;rw [e] at e'; cases e';exact⟨e,f0,f1,f2,d⟩
theorem Inv.uf{pins pl:List (Addr×Obj)}{σ:St}{H:Hp}{s:az}(I:Inv X (pins++pl) σ H s):Inv X pins σ H s:=I.JF fun p hp=>I.pin p (df _ (hW _ hp))
end
noncomputable abbrev R2:=V->V->Hp->VK->Prop
noncomputable def Me(X:Cx)(f:Value->Value->Sem Value)(r:R2):Prop :=
 ∀ (pins:List (Addr×Obj)) (s:az) (σ:St) (H:Hp) (x y:V) (v u:Value) (Q:VK),Inv X pins σ H s->RelV x v->RelV y u->r x y H Q ->
  wpAny (model X.prog X.w) X.A (f v u) (EP X pins σ Q) X.xe s
noncomputable def UnR(X:Cx)(f:Value->Sem Value)(r:V->Hp->VK->Prop):Prop :=
 ∀ (pins:List (Addr×Obj)) (s:az) (σ:St) (H:Hp) (x:V) (v:Value) (Q:VK),Inv X pins σ H s->RelV x v->r x H Q ->
  wpAny (model X.prog X.w) X.A (f v) (EP X pins σ Q) X.xe s
noncomputable def Qr(X:Cx)(f:Value)(r:List V->Hp->VK->Prop):Prop :=
 ∀ (pins:List (Addr×Obj)) (s:az) (σ:St) (H:Hp) (xs:List V) (us:List Value) (Q:VK),Inv X pins σ H s->Vals xs us->r xs H Q ->
  wpAny (model X.prog X.w) X.A (call f us) (EP X pins σ Q) X.xe s
noncomputable def aa9(X:Cx)(r:V->Hp->(Bool->Hp->Prop)->Prop):Prop :=
 ∀ (pins:List (Addr×Obj)) (s:az) (σ:St) (H:Hp) (x:V) (v:Value) (Q:Bool->Hp->Prop),Inv X pins σ H s->RelV x v->r x H Q ->
  wpAny (model X.prog X.w) X.A (truthy v) (TP X pins σ Q) X.xe s
noncomputable def rI(C:Int->Int->Prop)(g:Int->Int->V):R2:=fun x y H Q=>∃ i j,x=.int i/\y=.int j/\C i j/\Q (g i j) H
noncomputable def WD(g:Int->Int->V):R2:=fun x y H Q=>∃ i j,x=.int i/\y=.int j/\Q (g i j) H
noncomputable def rU(g:Int->V):V->Hp->VK->Prop:=fun x H Q=>∃ i,x=.int i/\Q (g i) H
section
variable {X:Cx} {a b c:Expr} {ta tb tc:TE} {pos:Pos}
theorem Ym{f:Value->Value->Sem Value}{C:Int->Int->Prop}{g:Int->Int->Int}
  (rule:∀ (i j:Int) (t u:Tok) (s:az) (Q:Value->az->Prop) (E:Value->az->Prop),C i j->Q (.int (g i j) s.toks) { s with toks:=s.toks+1 }->wpAny (model X.prog X.w) X.A (f (.int i t) (.int j u)) Q E s) :
  Me X f (rI C fun i j=>.int (g i j)):=by
 intro pins s σ H x y v u Q I rx ry h;obtain⟨i,j,rfl,rfl,hc,q⟩:=h;obtain⟨t,rfl⟩:=rx;obtain⟨t',rfl⟩:=ry;exact rule i j t t' s _ _ hc ⟨.int (g i j),H,I.tok _,⟨_,rfl⟩,q⟩
theorem WL{f:Value->Value->Sem Value}{g:Int->Int->Int}
  (rule:∀ (i j:Int) (t u:Tok) (s:az) (Q:Value->az->Prop) (E:Value->az->Prop),Q (.int (g i j) s.toks) { s with toks:=s.toks+1 }->wpAny (model X.prog X.w) X.A (f (.int i t) (.int j u)) Q E s) :
  Me X f (WD fun i j=>.int (g i j)):=by
 intro pins s σ H x y v u Q I rx ry h;obtain⟨i,j,rfl,rfl,q⟩:=h;obtain⟨t,rfl⟩:=rx;obtain⟨t',rfl⟩:=ry;exact rule i j t t' s _ _ ⟨.int (g i j),H,I.tok _,⟨_,rfl⟩,q⟩
theorem Zs{f:Value->Value->Sem Value}{g:Int->Int->Bool}
  (rule:∀ (i j:Int) (t u:Tok) (s:az) (Q:Value->az->Prop) (E:Value->az->Prop),Q (.bool (g i j)) s->wpAny (model X.prog X.w) X.A (f (.int i t) (.int j u)) Q E s) :
  Me X f (WD fun i j=>.bl (g i j)):=by
 intro pins s σ H x y v u Q I rx ry h;obtain⟨i,j,rfl,rfl,q⟩:=h;obtain⟨t,rfl⟩:=rx;obtain⟨t',rfl⟩:=ry;exact rule i j t t' s _ _ ⟨.bl (g i j),H,I,rfl,q⟩
noncomputable def abl(i j:Int):Prop:=0 < j/\j < 1073741824
noncomputable def VR(i j:Int):Prop:=(-(2 ^ 64) < i/\i < 2 ^ 64)\/(-(2 ^ 64) < j/\j < 2 ^ 64)
theorem VR.ok{i j:Int}(h:VR i j):IntMulOk i j:=by
 rcases h with ⟨h1,h2⟩ | ⟨h1,h2⟩
 ·exact .of_left (intBits_le_64 h1 h2)
 ·exact .of_right (intBits_le_64 h1 h2)
theorem UR:Me X (iY .Add) (WD fun i j=>.int (i+j)):=WL fun _ _ _ _ _ _ _ q=>add_int q
theorem UN:Me X (iY .Sub) (WD fun i j=>.int (i - j)):=WL fun _ _ _ _ _ _ _ q=>sub_int q
theorem UO:Me X (iY .Mult) (rI VR fun i j=>.int (i * j)):=Ym fun _ _ _ _ _ _ _ hc q=>mul_int q hc.ok
theorem RA:Me X (iY .FloorDiv) (rI abl fun i j=>.int (i / j)):=Ym fun i j _ _ _ _ _ hc q=>by
 have h1:(0:Int) < j:=hc.1;have h2:j < 1073741824:=hc.2;exact floordiv_int (by lia) (by rw [Int.fdiv_eq_ediv_of_nonneg i (by lia)]; exact q) (.inl (PyProof.noPylong_small (by lia)))
theorem UP:Me X (iY .Mod) (rI (fun _ j=>0 < j) fun i j=>.int (i % j)):=Ym fun i j _ _ _ _ _ hc q=>by
 have h1:(0:Int) < j:=hc;exact mod_int' (by lia) (by rw [Int.fmod_eq_emod_of_nonneg i (by lia)]; exact q)
theorem unI{f:Value->Sem Value}{g:Int->Int}
  (rule:∀ (i:Int) (t:Tok) (s:az) (Q:Value->az->Prop) (E:Value->az->Prop),Q (.int (g i) s.toks) { s with toks:=s.toks+1 }->wpAny (model X.prog X.w) X.A (f (.int i t)) Q E s) :
  UnR X f (rU fun i=>.int (g i)):=by
 intro pins s σ H x v Q I rx h;obtain⟨i,rfl,q⟩:=h;obtain⟨t,rfl⟩:=rx;exact rule i t s _ _ ⟨.int (g i),H,I.tok _,⟨_,rfl⟩,q⟩
theorem Ua:UnR X (unaryOp .USub) (rU fun i=>.int (-i)):=unI fun _ _ _ _ _ q=>neg_int q
end
section
variable {X:Cx} {a b c:Expr} {ta tb tc:TE} {pos:Pos}
theorem WK:Me X (fk .Lt) (WD fun i j=>.bl (decide (i < j))):=Zs fun _ _ _ _ _ _ _ q=>lt_int q
theorem ku(b:Expr){op:CmpOp}(h:autoParam (op≠.In) Ad._auto_1)(h2:autoParam (op≠.NotIn) Ad._auto_1):behindInMarks op b=false:=by
 have e1:(op == CmpOp.In)=false:=by cases op <;> first | rfl | exact absurd rfl h
 have e2:(op == CmpOp.NotIn)=false:=by cases op <;> first | rfl | exact absurd rfl h2
 cases b with
 | Set es k _ =>
  show (k == 0&&(op == .In||op == .NotIn)&&es.all (constantsAlone 8))=false;rw [e1,e2,Bool.or_false,Jc,Jb]
 | _=>rfl
noncomputable def VI(K:ai)(x:V)(H:Hp)(k:Bool):Prop :=
 match x with
 | .eU=>k=false
 | .bl b=>k=b
 | .int i=>k=(i != 0)
 | .str y=>y.length<=bc/\k=((y.length:Int) != 0)
 | .VC y=>y.size<=bc/\k=((y.size:Int) != 0)
 | .ref p=>(∃ xs,rz K H p xs/\k=!xs.isEmpty)\/(∃ xs,xX K H p xs/\k=!xs.isEmpty)\/∃ kvs,H p=some (.dK kvs)/\k=!kvs.isEmpty
 | _=>False
theorem HG{κ:Type}{kvs:List (κ×V)}{vs:List (κ×Value)}(r:KV kvs vs):(!vs.isEmpty)=!kvs.isEmpty:=by
 cases r <;> rfl
theorem y8{xs:List V}{bW:List Value}(r:Vals xs bW):(!bW.toArray.isEmpty)=!xs.isEmpty:=by
 cases r <;> simp
theorem yY:(bc:Nat) < 2 ^ 63:=by rw [cY]; decide
theorem Uc:aa9 X (fun x H Q=>∃ k,VI X.K x H k/\Q k H):=by
 intro pins s σ H x v Q I rx h;obtain⟨k,e,q⟩:=h;have hl:=yY;have hs:bc=16777216:=cY;cases x with
 | eU =>
  cases rx;have e':k=false:=e;subst e';exact truthy_none ⟨H,I,q⟩
 | bl b =>
  cases rx;have e':k=b:=e;subst e';exact ub ⟨H,I,q⟩
 | int i =>
  obtain⟨t,rfl⟩:=rx;have e':k=(i != 0):=e;subst e';exact PySem.P.truthy_int ⟨H,I,q⟩
 | str y =>
  obtain⟨t,rfl⟩:=rx;obtain⟨hy,e'⟩:y.length<=bc/\k=((y.length:Int) != 0):=e;subst e';exact PySem.P.truthy_str (by lia) ⟨H,I.tok _,q⟩
 | VC y =>
  obtain⟨t,rfl⟩:=rx;obtain⟨hy,e'⟩:y.size<=bc/\k=((y.size:Int) != 0):=e;subst e';exact PySem.W.truthy_bytes (by lia) ⟨H,I.tok _,q⟩
 | ref p =>
  cases rx;have e':(∃ xs,rz X.K H p xs/\k=!xs.isEmpty)\/(∃ xs,xX X.K H p xs/\k=!xs.isEmpty)\/∃ kvs,H p=some (.dK kvs)/\k=!kvs.isEmpty:=e;rcases e' with ⟨xs,hx,e'⟩ | ⟨xs,hx,e'⟩ | ⟨kvs,hx,e'⟩
  ·subst e';obtain⟨bW,r,pl,hz⟩:=I.list hx;have hlen:=r.length;exact wpAny_truthy_list pl.isList (by simp only [aY]; lia) ⟨H,I.tok _,by rw [y8 r]; exact q⟩
  ·subst e';obtain⟨bW,r,pl,hz⟩:=I.tuple hx;have hlen:=r.length;exact truthy_tuple pl (by simp only [aY]; lia) ⟨H,I.tok _,by rw [y8 r]; exact q⟩
  ·subst e';obtain⟨hz,hS,vs,r,m⟩:kvs.length<=bc/\(p == da)=false/\∃ vs,KV kvs vs/\s.heap.DictOf (cP X.prog X.w) p vs:=I.cL p _ hx;have hlen:kvs.length=vs.length:=iu r;exact Gn hS m (by lia) ⟨H,I.tok _,by rw [HG r]; exact q⟩
 | _=>exact(show False from e).elim
theorem Hm:Me X (iY .Add) (fun x y H Q=>∃ i j,x=.str i/\y=.str j/\i.length+j.length<=bc/\Q (.str (i++j)) H):=by
 intro pins s σ H x y v u Q I rx ry h;obtain⟨i,j,rfl,rfl,hz,q⟩:=h;obtain⟨t,rfl⟩:=rx;obtain⟨t',rfl⟩:=ry;exact add_str (fun t' tk=>⟨.str (i++j),H,I.tok _,⟨_,rfl⟩,q⟩) hz
theorem vals1{x:V}{us:List Value}(r:Vals [x] us):∃ u,us=[u]/\RelV x u:=by
 cases r with
 | cons r1 r2=>cases r2; exact⟨_,rfl,r1⟩
theorem vals2{x y:V}{us:List Value}(r:Vals [x,y] us):∃ u w',us=[u,w']/\RelV x u/\RelV y w':=by
 cases r with
 | cons r1 r2 =>
  cases r2 with
  | cons r3 r4=>cases r4; exact⟨_,_,rfl,r1,r3⟩
noncomputable def X7(K:ai)(x:V)(H:Hp)(n:Nat):Prop :=
 match x with
 | .str y=>y.length<=bc/\n=y.length
 | .VC y=>y.size<=bc/\n=y.size
 | .ref p=>(∃ xs,rz K H p xs/\n=xs.length)\/∃ xs,xX K H p xs/\n=xs.length
 | _=>False
theorem P8:Qr X (.builtin "len") (fun xs H Q=>∃ x n,xs=[x]/\X7 X.K x H n/\Q (.int n) H):=by
 intro pins s σ H xs us Q I r h;obtain⟨x,n,rfl,e,q⟩:=h;obtain⟨u,rfl,rx⟩:=vals1 r;have hl:=yY;have hs:bc=16777216:=cY;cases x with
 | str y =>
  obtain⟨t,rfl⟩:=rx;obtain⟨hy,e'⟩:y.length<=bc/\n=y.length:=e;subst e';exact len_str (by lia) ⟨.int _,H,I.tok _,⟨_,rfl⟩,q⟩
 | VC y =>
  obtain⟨t,rfl⟩:=rx;obtain⟨hy,e'⟩:y.size<=bc/\n=y.size:=e;subst e';exact PySem.W.len_bytes (by lia) ⟨.int _,H,I.tok _,⟨_,rfl⟩,q⟩
 | ref p =>
  cases rx;have e':(∃ xs,rz X.K H p xs/\n=xs.length)\/∃ xs,xX X.K H p xs/\n=xs.length:=e;rcases e' with ⟨xs,hx,e'⟩ | ⟨xs,hx,e'⟩
  ·subst e';obtain⟨bW,r',pl,hz⟩:=I.list hx;have hlen:=r'.length;exact Calls.call_len_list pl.isList (by simp only [aY]; lia) ⟨.int xs.length,H,I.tok _,⟨_,by simp only [aY]; rw [hlen]⟩,q⟩
  ·subst e';obtain⟨bW,r',pl,hz⟩:=I.tuple hx;have hlen:=r'.length;exact len_tuple pl (by simp only [aY]; lia) ⟨.int xs.length,H,I.tok _,⟨_,by simp only [aY]; rw [hlen]⟩,q⟩
 | _=>exact(show False from e).elim
end
structure af2(h:Heap)(x dx C:Addr)(mA:Str->Option Value):Prop where
 obj:h.get? x=some (PySem.W.instObj C dx)
 ns:h.Ns1 dx mA
 ne:dx≠x
theorem wx.some_of{v:V}{o:Option Value}(r:wx (some v) o):∃ u,o=some u/\RelV v u:=by
 cases o with
 | none=>exact(show False from r).elim
 | some u=>exact⟨u,rfl,r⟩
structure Cls(K:ai)(C:Addr):Prop where
 pg:PySem.W.plainGet K C Str.empty=true
 hd:PySem.W.hasDictIn K C=true
 po:PySem.W.plainOver K C=true
 sa:o4 K (.ref C) "__setattr__" = some (some (.builtin "object.__setattr__"))
structure Con(K:ai)(C:Addr)(f:Str)(v:V)(u:Value):Prop where
 at_:o4 K (.ref C) f=some (some u)
 rel:RelV v u
 get:QO K u "__get__" = some none
 cp:PySem.W.copiedNames.contains f=false
structure Meth(K:ai)(C:Addr)(m:Str)(f:Addr):Prop where
 at_:o4 K (.ref C) m=some (some (.ref f))
 fn:PySem.W.isFn K (.ref f)=true
 kp:lE K (.ref f)=true
section
variable {X:Cx} {pins:List (Addr×Obj)} {σ:St} {H:Hp} {s:az} {A:dD} {E:Value->az->Prop} {Q:Value->az->Prop} {c:Value} {b:Bool}
inductive zK (K:ai) (H:Hp):V->Value->Prop where
 | eU:zK K H .eU (.type "NoneType")
 | bl (x:Bool):zK K H (.bl x) (.type "bool")
 | int (i:Int):zK K H (.int i) (.type "int")
 | str (x:Str):zK K H (.str x) (.type "str")
 | XJ (x:UInt64):zK K H (.XJ x) (.type "float")
 | lst {a:Addr} {xs:List V} (e:H a=some (.lst xs)):zK K H (.ref a) (.type "list")
 | jL {a:Addr} {o:Obj} {xs:List V} (e:H a=some (.jL o (.lst xs))):zK K H (.ref a) (.type "list")
 | tup {a:Addr} {xs:List V} (e:H a=some (.tup xs)):zK K H (.ref a) (.type "tuple")
 | dK {a:Addr} {kvs:List (Key×V)} (e:H a=some (.dK kvs)):zK K H (.ref a) (.type "dict")
 | dT {a:Addr} {kvs:List (List Key×V)} (e:H a=some (.dT kvs)):zK K H (.ref a) (.type "dict")
 | ins {a C dx:Addr} {fs:List (Str×V)} (e:H a=some (.ins C dx fs)) (cl:Cls K C) (ha:o4 K (.ref C) "__class__" = some (some (.builtin "object.__class__")))
   (hn:QO K (.builtin "object.__class__") "__get__" = some (some (.builtin "getset_descriptor.__get__"))) (htk:PySem.W.takesIn K (.builtin "object.__class__")=some true)
   (hm:PySem.W.mroIn K C (.type "object")=some true):zK K H (.ref a) (.ref C)
end
structure mY(k:Nat)(A:dD):Prop where
 hd:A.handled=none
 dp:A.depth+3 * k+5 < recursionLimit
 un:A.units+16 * k+200 < cLine
theorem mY.mono{j k:Nat}{A:dD}(r:mY k A)(h:j<=k):mY j A:=⟨r.hd,by have:=r.dp; lia,by have:=r.un; lia⟩
theorem mY.deeper{k:Nat}{A:dD}(r:mY (k+1) A)(env:Env):mY k (A.deeper env) :=
 ⟨r.hd,by have:=r.dp; show A.depth+1+3 * k+5 < _; lia,by have:=r.un; show A.units+3+16 * k+200 < _; lia⟩
theorem mY.depth{k:Nat}{A:dD}(r:mY k A):A.depth < recursionLimit:=by have:=r.dp; lia
theorem mY.units{k:Nat}{A:dD}(r:mY k A):A.units+64 < cLine:=by have:=r.un; lia
theorem mY.M7{k:Nat}{A:dD}(r:mY k A):A.units < cLine:=by have:=r.un; lia
noncomputable abbrev Sp:=List V->Hp->VK->XK->Prop
noncomputable abbrev Mo:=List Env->Hp->az->XK->Value->az->Prop
structure SH(P:bM)(w:World)(K:ai)(mg:Str->Option Value)(base:Heap)(A:dD)(outer:List Env)(s:az)(H:Hp):Prop where
 frames:A.frames=some outer
 mod:Mod K mg base
 bs:∀ b o,base.get? b=some o->s.heap.get? b=some o/\H b=none
 Sv:base.objs.size<=s.heap.objs.size
 zd:s.heap.FunFrames base outer
 V7:∀ b∈ME outer,H b=none
 cL:pZ P w H s.heap
 bare:BU s.gens
noncomputable def CE(outer:List Env)(P:bM)(w:World)(H:Hp)(s:az)(Q:VK)(u:Value)(s':az):Prop :=
 ∃ v H',s'.os=s.os/\BU s'.gens/\Un (ME outer) [] H H' s.heap s'.heap/\pZ P w H' s'.heap/\RelV v u/\Q v H'
noncomputable def CR(CX:Mo)(outer:List Env)(P:bM)(w:World)(H:Hp)(s:az)(Q:VK)(E:XK)(r:Result)(s':az):Prop :=
 match r with
 | .ok (.ret u)=>CE outer P w H s Q u s'
 | .ok _=>False
 | .error e=>CX outer H s E e s'
structure gq(P:bM)(w:World)(K:ai)(mg:Str->Option Value)(base:Heap)(CX:Mo)(k:Nat)(f:Addr)(fd:aJ)(ps:List Str)(sp:Sp):Prop where
 len:∀ vs H Q E,sp vs H Q E->vs.length=ps.length
 run:∀ (A:dD) (outer:List Env) (s:az) (H:Hp) (args:Args) (us:List Value) (vs:List V) (Q:VK) (E:XK),mY k A->SH P w K mg base A outer s H->MY s fd args (ps.zip us)->Vals vs us->sp vs H Q E ->
  Gv (model P w) A (.call (.ref f) args) (CR CX outer P w H s Q E) s
section
variable {X:Cx} {pins:List (Addr×Obj)} {σ:St} {H:Hp} {s s':az}
theorem Inv.aaY(I:Inv X pins σ H s):SH X.prog X.w X.K X.mg X.base X.A X.stack s H :=
 ⟨I.ok.frames,I.ok.mod,I.bs,bu I.ok.Sv I.sz,I.stack,I.Jk,I.cL,I.bare⟩
theorem Inv.after{Q:VK}{u:Value}(I:Inv X pins σ H s)(h:CE X.stack X.prog X.w H s Q u s'):EP X pins σ Q u s':=by
 obtain⟨v,H',os,bare,un,cL,r,q⟩:=h;obtain⟨hh,g,d,t,os'⟩:=s';obtain rfl:os'=s.os:=os;exact⟨v,H',I.call (h':=hh) (g':=g) (d':=d) (t':=t) (ch:=[]) un cL bare (fun b z=>absurd z (by simp)),r,q⟩
end
noncomputable def Binds(K:ai)(fd:aJ)(ps:List Str)(ds:List Value):Prop :=
 ∀ (s:az) (us:List Value),K.In s.heap->(us++ds).length=ps.length->MY s fd ⟨us,[]⟩ (ps.zip (us++ds))
theorem Binds.all{K:ai}{fd:aJ}{ps:List Str}(h:∀ us:List Value,us.length=ps.length->bindArgs fd ⟨us,[]⟩=pure (ps.zip us)):Binds K fd ps []:=fun s us _ hl=>by
 rw [bN] at hl ⊢;exact .of_eq (h us hl)
noncomputable def Passes(CX:Mo)(X:Cx)(E:XK):Prop:=∀ (pins:List (Addr×Obj)) (σ:St) (H:Hp) (s:az) (e:Value) (s':az),Inv X pins σ H s->CX X.stack H s E e s'->X.xe e s'
section
variable {X:Cx} {CX:Mo} {k:Nat} {f C:Addr} {fd:aJ} {ps:List Str} {sp:Sp} {YI:List V} {ds:List Value} {E:XK} {x m:Str} {p pos apos:Pos} {e o:Expr} {es:List Expr} {ta:TE} {t:TA}
theorem Uv{pins:List (Addr×Obj)}{σ:St}{H:Hp}{s:az}{Q:VK}{us:List Value}{vs:List V}(F:gq X.prog X.w X.K X.mg X.base CX k f fd ps sp)(hr:mY k X.A)(hb:Binds X.K fd ps ds)(hd:Vals YI ds)(hx:Passes CX X E)
  (I:Inv X pins σ H s) (r:Vals vs us) (h:sp (vs++YI) H Q E):wpAny (model X.prog X.w) X.A (call (.ref f) us) (EP X pins σ Q) X.xe s:=by
 have r2:Vals (vs++YI) (us++ds):=r.append hd;have hl:(us++ds).length=ps.length:=by rw [<-r2.length]; exact F.len _ _ _ _ h
 refine wpAny_call (codeAny_mono (F.run X.A X.stack s H ⟨us,[]⟩ (us++ds) (vs++YI) Q E hr I.aaY (hb s us I.JS hl) r2 h) fun r s' hq=>?_);cases r with
 | error e=>exact hx pins σ H s e s' I hq
 | ok fl =>
  cases fl with
  | ret u=>exact I.after hq
  | next=>exact bS hq
  | brk=>exact bS hq
  | cont=>exact bS hq
structure Mk(K:ai)(C f:Addr):Prop where
 makes:PySem.W.makesIn K C=true
 init:o4 K (.ref C) "__init__" = some (some (.ref f))
 fn:PySem.W.isFn K (.ref f)=true
 kp:lE K (.ref C)=true
end
section
variable {X:Cx} {CX:Mo} {k:Nat} {f C:Addr} {fd:aJ} {ps ks:List Str} {sp:Sp} {E:XK} {x m:Str} {p pos apos adM:Pos} {e o:Expr} {es:List Expr} {kws:List MW} {te ta:TE} {t tk:TA} {nm:Option Str}
structure abf(K:ai)(fd:aJ)(ps ks:List Str)(g:List Value->List Value->List Value)(gV:List V->List V->List V):Prop where
 to:∀ (s:az) (us ws:List Value),K.In s.heap->(g us ws).length=ps.length->MY s fd ⟨us,ks.zip ws⟩ (ps.zip (g us ws))
 rel:∀ {vs:List V} {us:List Value} {zs:List V} {ws:List Value},Vals vs us->Vals zs ws->Vals (gV vs zs) (g us ws)
variable {g:List Value->List Value->List Value} {gV:List V->List V->List V}
end
structure cF(N P:List Str)(sc:Scope):Prop where
 kind:sc.kind=.function
 co:sc.isCoroutine=false
 gen:sc.isGenerator=false
 nd:N.Nodup
 pre:N.take P.length=P
 par:∀ x∈P,sc.names.lookup x=some .local\/sc.names.lookup x=some .cell
 UW:∀ y∈sc.names,y.2≠.free
theorem BH{kindOf:Str->Option sJ}{x:Str}:∀ {binds:List (Str×Value)} {m:Str->Option Value},(∀ v,(x,v)∉binds)->bindL kindOf binds m x=m x
 | [],_,_=>rfl
 | (n,v) :: r,m,h=>by
  unfold bindL;rw [BH fun w hw=>h w (aE _ hw)];split
  ·have:x≠n:=by rintro rfl; exact h v cz
   simp [this]
  ·rfl
theorem BJ{kindOf:Str->Option sJ}{x:Str}:∀ {binds:List (Str×Value)} {m:Str->Option Value},(∀ v,(x,v)∉binds)->bindC kindOf binds m x=m x
 | [],_,_=>rfl
 | (n,v) :: r,m,h=>by
  unfold bindC;rw [BJ fun w hw=>h w (aE _ hw)];split
  ·rfl
  ·have:x≠n:=by rintro rfl; exact h v cz
   simp [this]
theorem BI{kindOf:Str->Option sJ}{x:Str}{v:Value}:∀ {P:List Str} {vs:List Value} {i:Nat} {m:Str->Option Value},P.Nodup->P[i]?=some x->vs[i]?=some v->kindOf x=some .local ->
  bindL kindOf (P.zip vs) m x=some v
 | [],_,_,_,_,h,_,_=>by simp at h
 | _ :: _,[],_,_,_,_,h,_=>by simp at h
 | p :: P,w :: vs,0,m,nd,h1,h2,hk=>by
  simp at h1 h2; subst h1; subst h2;show bindL kindOf ((p,w) :: P.zip vs) m p=_;unfold bindL;rw [BH fun v hv=>(List.nodup_cons.mp nd).1 (FW hv).1,if_pos hk];simp
 | p :: P,w :: vs,i+1,m,nd,h1,h2,hk=>by
  show bindL kindOf ((p,w) :: P.zip vs) m x=_;unfold bindL;exact BI (i:=i) (List.nodup_cons.mp nd).2 (by simpa using h1) (by simpa using h2) hk
theorem BK{kindOf:Str->Option sJ}{x:Str}{v:Value}:∀ {P:List Str} {vs:List Value} {i:Nat} {m:Str->Option Value},P.Nodup->P[i]?=some x->vs[i]?=some v->kindOf x≠some .local ->
  bindC kindOf (P.zip vs) m x=some v
 | [],_,_,_,_,h,_,_=>by simp at h
 | _ :: _,[],_,_,_,_,h,_=>by simp at h
 | p :: P,w :: vs,0,m,nd,h1,h2,hk=>by
  simp at h1 h2; subst h1; subst h2;show bindC kindOf ((p,w) :: P.zip vs) m p=_;unfold bindC;rw [BJ fun v hv=>(List.nodup_cons.mp nd).1 (FW hv).1,if_neg hk];simp
 | p :: P,w :: vs,i+1,m,nd,h1,h2,hk=>by
  show bindC kindOf ((p,w) :: P.zip vs) m x=_;unfold bindC;exact BK (i:=i) (List.nodup_cons.mp nd).2 (by simpa using h1) (by simpa using h2) hk
noncomputable def start(N:List Str)(vs:List V):St:=vs.map some++bg (N.length - vs.length) none
noncomputable def FC(CX:Mo)(P:bM)(w:World)(K:ai)(mg:Str->Option Value)(base:Heap)(N:List Str)(qual:Str)(scope:Scope)(f:Addr)(cd:Value)(A:dD)(outer:List Env)(s:az)(H:Hp)(E:XK):Cx where
 prog:=P
 w:=w
 K:=K
 mg:=mg
 base:=base
 A:=A.deeper (DE qual scope s.heap.objs.size f cd)
 N:=N
 ny:=s
 Qq:=H
 env:=DE qual scope s.heap.objs.size f cd
 outer:=outer
 stack:=DE qual scope s.heap.objs.size f cd :: outer
 ex:=[]
 calm:=true
 fn:=fun _=>true
 pn:=[]
 xe:=fun e s'=>wpAny (model P w) (A.deeper (DE qual scope s.heap.objs.size f cd)) (leaving (DE qual scope s.heap.objs.size f cd) e) (fun _ Wz=>CX outer H s E e Wz) (fun e' Wz=>CX outer H s E e' Wz) s'
theorem FF{sc:Scope}{n:Nat}{x:Str}(h:sc.names.lookup x=some .cell):∃ c,(cellsFrom n sc.names []).lookup x=some c:=by
 have q:=IW sc.names n [] (.inl h);exact Option.isSome_iff_exists.mp q
theorem LD{CX:Mo}{P:bM}{w:World}{K:ai}{mg:Str->Option Value}{base:Heap}{N ps:List Str}{qual:Str}{scope:Scope}{f:Addr}{cd:Value}{A:dD}{outer:List Env}{s s1:az}{H:Hp}{E:XK}{us:List Value}{vs:List V}
  (S:cF N ps scope) (hd:A.handled=none) (e0:SH P w K mg base A outer s H) (hl:vs.length=ps.length) (r:Vals vs us)
  (x:InCallC s s.heap.objs.size (bindL (DE qual scope s.heap.objs.size f cd).kindOf (ps.zip us) fun _=>none) (cellsFrom (s.heap.objs.size+1) scope.names []) (bindC (DE qual scope s.heap.objs.size f cd).kindOf (ps.zip us) fun _=>none) s1) :
  Inv (FC CX P w K mg base N qual scope f cd A outer s H E) [] (start N vs) H s1:=by
 have HN:ps.length<=N.length:=by have:=congrArg di S.pre; rw [eD] at this; lia
 obtain⟨h1,tk,rfl,hk⟩:=x.done;have W0:∀ b:Addr,b∉(FC CX P w K mg base N qual scope f cd A outer s H E).ex:=fun b z=>absurd (show b∈([]:List Addr) from z) (by simp);refine⟨⟨e0.mod,S.kind,rfl,rfl,aI _,fun y z c h1 h2=>?_,fun y hy=>?_,fun y c _ h=>?_,fun _=>hd,Around.frames_deeper e0.frames,.inr ⟨rfl,rfl⟩,fun b z=>absurd z (W0 b),e0.bs,e0.Sv,fun b _ _=>W0 b,fun b z=>absurd z (W0 b),e0.zd,e0.V7⟩,
  rfl,e0.bare,Un.kept hk,⟨_,x.toInCall.ns,fun i y v h1 h2 h3=>?_⟩,fun y c h=>⟨_,x.cell y c h⟩,e0.cL.fresh (aI _),fun y c h=>?_,fun p hp=>absurd (show p∈([]:List (Addr×Obj)) from hp) (by simp),e0.cL.kept hk,?_⟩
 ·exact name_of_addr x.apart (iD h1) (iD h2)
 ·have hy:scope.names.lookup y=some .cell\/scope.names.lookup y=some .free:=hy;rcases hy with hy | hy
  ·exact FF hy
  ·exact absurd rfl (S.UW _ (iD hy))
 ·exact QQ (x.above y c (iD h))
 ·have hi:i < vs.length:=by
   unfold start at h2;by_cases hi:i < vs.length
   ·exact hi
   ·rw [cD (by simpa using hi)] at h2;rw [lq] at h2;split at h2 <;> cases h2
  have ha:vs[i]?=some v:=by
   unfold start at h2;rw [cV (by simpa using hi),bA] at h2;cases e:vs[i]? with
   | none=>rw [e] at h2; cases h2
   | some a=>rw [e] at h2; cases h2; rfl
  obtain⟨u,hu,rv⟩:=r.get ha;have hp:ps[i]?=some y:=by
   rw [<-S.pre,List.getElem?_take_of_lt (by lia)]; exact h1
  have ndP:ps.Nodup:=by rw [<-S.pre]; exact S.nd.sublist (List.take_sublist _ _)
  refine⟨u,rv,?_⟩;rcases S.par y (eZ hp) with k | k
  ·exact .inl ⟨k,BI ndP hp hu k⟩
  ·obtain⟨c,e⟩:=FF (n:=s.heap.objs.size+1) k;refine .inr ⟨.inl k,c,e,?_⟩;have q:=x.cell y c e;rw [BK ndP hp hu (by show scope.names.lookup y≠_; rw [k]; decide)] at q;exact q
 ·exact e0.cL.fresh (QQ (x.above y c (iD h)))
 ·unfold start;show _=N.length;rw [au,aq,fE];lia
theorem XI{CX:Mo}{P:bM}{w:World}{K:ai}{mg:Str->Option Value}{base:Heap}{k:Nat}{f:Addr}{name qual:Str}{params:Arguments}{body:List Stmt}{scope:Scope}{dV kV doc pm oZ ct oc:Value}{an od:Option Addr}
  {Od:Array (Option Value)} {N ps:List Str} {sp:Sp} (lk:K.lookup f=some ⟨oc,od,.func (j9 name qual params body scope dV kV doc pm an oZ ct),Od⟩) (J2:DF K oZ qual=true) (S:cF N ps scope)
  (len:∀ vs H Q E,sp vs H Q E->vs.length=ps.length)
  (Pa:∀ (A:dD) (outer:List Env) (s:az) (H:Hp) (vs:List V) (Q:VK) (E:XK),mY k (A.deeper (DE qual scope s.heap.objs.size f oZ))->sp vs H Q E ->
   ∃ t,Wb (FC CX P w K mg base N qual scope f oZ A outer s H E) body t/\t { nx:=fun _ H'=>Q .eU H',rt:=Q } (start N vs) H) :
  gq P w K mg base CX (k+1) f (j9 name qual params body scope dV kV doc pm an oZ ct) ps sp:=by
 refine⟨len,fun A outer s H args us vs Q E hr e0 hb r Ts=>?_⟩;have hl:=len _ _ _ _ Ts;have KX:K.In s.heap:=e0.mod.Ys.keeps fun b o e=>(e0.bs b o e).1;have lim:s.heap.NoLimit:=e0.mod.nolimit.keeps fun b o e=>(e0.bs b o e).1;have Bo:∀ y∈ps.zip us,scope.names.lookup y.1=some .local\/(scope.names.lookup y.1=some .cell/\((cellsFrom (s.heap.objs.size+1) scope.names []).lookup y.1).isSome=true):=fun ⟨n,v⟩ hy=>by
  rcases S.par n (FW hy).1 with q | q
  ·exact .inl q
  ·exact .inr ⟨q,IW _ _ _ (.inl q)⟩
 refine codeAny_call_function hr.depth (KX _ _ lk) rfl S.co S.gen rfl (PySem.W.codeRec_of KX J2) (hb _ _ _ _ ?_);refine wpAny_newFunctionEnv_cells S.kind Bo fun env he s1 x=>?_;subst he;refine⟨lim.keeps x.toInCall.keep,codeAny_func ?_⟩;obtain⟨t,ht,hq⟩:=Pa A outer s H vs Q E (hr.deeper _) Ts;have I:Inv (FC CX P w K mg base N qual scope f oZ A outer s H E) [] (start N vs) H s1:=LD S hr.hd e0 hl r x;refine wpAny_mono (ht [] s1 (start N vs) H _ I hq) (fun fl s' hs=>?_) fun e s' hs=>hs;have fin:∀ {jB:St} {H':Hp} {v:V} {u:Value},Inv (FC CX P w K mg base N qual scope f oZ A outer s H E) [] jB H' s'->RelV v u->Q v H'->CE outer P w H s Q u s' :=
  fun {jB H' v u} J rv q=>⟨v,H',J.os,J.bare,J.base,J.cL,rv,q⟩
 cases fl with
 | ret u =>
  obtain⟨v,jB,H',J,rv,q⟩:=hs;exact fin J rv q
 | next =>
  obtain⟨jB,H',J,q⟩:=hs;exact fin (v:=V.eU) (u:=fX) J rfl q
 | brk =>
  obtain⟨_,_,_,q⟩:=hs;exact bS q
 | cont =>
  obtain⟨_,_,_,q⟩:=hs;exact bS q
end L2
namespace HT
open PySem PyProof.Rows
noncomputable def lexLt:List Int->List Int->Bool
 | [],[]=>false
 | [],_ :: _=>true
 | _ :: _,[]=>false
 | x :: xs,y :: ys=>if x=y then lexLt xs ys else decide (x < y)
theorem HB(x y:Int)(xs ys:List Int):lexLt (x :: xs) (y :: ys)=if x=y then lexLt xs ys else decide (x < y):=rfl
theorem Av:lexLt [] []=false:=rfl
theorem yZ(y:Int)(ys:List Int):lexLt [] (y :: ys)=true:=rfl
theorem y0(x:Int)(xs:List Int):lexLt (x :: xs) []=false:=rfl
theorem PI(A:dD)(s:az)(a:Int)(t:Tok)(c:Int)(u:Tok):∃ e,SeqAt.EqAt A s (.int a t) (.int c u) e/\(e=true↔a=c) :=
 ⟨(a == c),SeqAt.EqAt.int_int a t c u,by simp⟩
theorem Eh(A:dD)(s:az)(a:Int)(t:Tok)(c:Int)(u:Tok)(prog:bM)(w:World)(E:Value->az->Prop)(Q:Value->az->Prop)(h:Q (.bool (decide (a < c))) s) :
  wpAny (model prog w) A (richCompare .Lt (.int a t) (.int c u)) Q E s :=
 (PyProof.Rows.lt_int h:wpAny (model prog w) A (fk .Lt (.int a t) (.int c u)) Q E s)
section
open PySem.SeqAt
open PySem.AutoSeq1 (wpAny_loadPart')
open PySem.MeetsSeq PySem.MeetsSeq2 PySem.MeetsSeq3
theorem Aj(l b:Addr)(items og:Array Value)(n n2:Nat)(dd Dx:Option Addr)(sl Jo:Array (Option Value))(ns ms:List Int)(hi:o7 items.toList ns)(hj:o7 og.toList ms) :
  Meets (Builtin.«tuple.__lt__» ⟨[.ref l,.ref b],[]⟩)
   (fun _ R s=>s.heap.get? l=some { cls:=.type "tuple",dict:=dd,data:=.seq items n,slots:=sl }/\s.heap.get? b=some { cls:=.type "tuple",dict:=Dx,data:=.seq og n2,slots:=Jo } /\
    R (.ok (.ret (.bool (lexLt ns ms)))) s) :=
 .of_wp fun prog w A R s h=>by
  obtain⟨hp,g,d,tk,os⟩:=s; obtain⟨hl,hb,h⟩:=h;have f2:=pO;have z1:items.size=ns.length:=by rw [<-hi.length]; simp
  have z2:og.size=ms.length:=by rw [<-hj.length]; simp
  wp_walk using cm hl,cm hb,lb _ (fun rest b s'=>b.1=none/\s'=⟨hp,g,d,tk,os⟩/\∃ (vs ws:List Value) (VX V0:List Int),rest=vs.zip ws /\
   o7 vs VX/\o7 ws V0/\VX.length+og.size=V0.length+items.size/\R (.ok (.ret (.bool (lexLt VX V0)))) ⟨hp,g,d,tk,os⟩) _
  case turn =>
   rintro⟨y,x⟩ rest b s' ⟨Vj,rfl,vs,ws,VX,V0,hz,hvi,Yu,hlen,hR⟩;cases hvi with
   | nil=>rw [List.zip_nil_left] at hz; cases hz
   | cons a t aag =>
    cases Yu with
    | nil=>rw [List.zip_nil_right] at hz; cases hz
    | cons c u aae =>
     rw [qc] at hz;injection hz with Z7 O2
     injection Z7 with hy hx
     subst hy hx;rw [HB] at hR;simp only [ak] at hlen;obtain⟨e,he,Xs⟩:=PI A.in1 ⟨hp,g,d,tk,os⟩ a t c u;refine ag (he prog w _ _ ?_);cases e with
     | true =>
      rw [if_pos (Xs.mp rfl)] at hR
      wp_walk
      exact⟨rfl,rfl,_,_,_,_,O2,aag,aae,by lia,hR⟩
     | false =>
      rw [if_neg (fun q=>absurd (Xs.mpr q) i6)] at hR;have Xi:=Eh A.in1 ⟨hp,g,d,tk,os⟩ a t c u prog w
      wp_walk using Xi
      exact⟨_,rfl,by simpa using hR⟩
  case fin =>
   rintro⟨b1,b2⟩ s' ⟨Vj,rfl,vs,ws,VX,V0,hz,hvi,Yu,hlen,hR⟩;simp only at Vj;subst Vj;have hv:lexLt VX V0=decide (items.size < og.size):=by
    cases hvi with
    | nil =>
     cases Yu with
     | nil =>
      simp only [aF] at hlen;rw [Av];exact(decide_eq_false (by lia)).symm
     | cons c u hw =>
      simp only [aF,ak] at hlen;rw [yZ];exact(decide_eq_true (by lia)).symm
    | cons a t hv =>
     cases Yu with
     | nil =>
      simp only [aF,ak] at hlen;rw [y0];exact(decide_eq_false (by lia)).symm
     | cons c u hw =>
      rw [qc] at hz;cases hz
   rw [hv] at hR
   wp_walk
   exact⟨_,rfl,by simpa [ue] using hR⟩
  case h =>
   exact⟨rfl,rfl,items.toList,og.toList,ns,ms,rfl,hi,hj,by lia,h⟩
end
section
variable {prog:bM} {w:World} {A:dD} {E:Value->az->Prop} {s:az}
theorem Hx{l b:Addr}{items og:Array Value}{ns ms:List Int}{Q:Value->az->Prop}(hl:IsTup s.heap l items)(hb:IsTup s.heap b og)(hi:o7 items.toList ns)(hj:o7 og.toList ms)
  (hu:A.units < cLine) (h:Q (.bool (lexLt ns ms)) s):wpAny (model prog w) A (fk .Lt (.ref l) (.ref b)) Q E s:=by
 obtain⟨⟨cls,dd,data,sl⟩,ho,hc,n,hd⟩:=id hl;obtain⟨⟨P4,Dx,data2,Jo⟩,E5,Bp,n2,hd2⟩:=id hb;simp only at hc hd Bp hd2;subst hc hd Bp hd2;exact xc (op:=.Lt) ⟨_,ho,rfl⟩ ⟨_,E5,rfl⟩ lK sk (qv _ _) (Aj l b items og n n2 dd Dx sl Jo ns ms hi hj)
  ⟨ho,E5,show Value.bool (lexLt ns ms)≠Value.notImplemented/\Q (.bool (lexLt ns ms)) s from⟨(fun x=>nomatch x),h⟩⟩ hu
theorem So{t b:Addr}{vs ws:List Value}{Q:Value->az->Prop}(ht:IsTup s.heap t vs.toArray)(hb:IsTup s.heap b ws.toArray)(hv:vs≠[])
  (h1:ws=[]->Q (.ref t) s) (h2:ws≠[]->Q (.ref s.heap.objs.size) { s with heap:=s.heap.push { cls:=.type "tuple",data:=.seq (vs++ws).toArray } })
  (hsz:vs.length+ws.length<=bc):wpAny (model prog w) A (iY .Add (.ref t) (.ref b)) Q E s:=by
 obtain⟨⟨cls,dd,data,sl⟩,ho,hc,n,hd⟩:=id ht;obtain⟨⟨P4,Dx,data2,Jo⟩,E5,Bp,n2,hd2⟩:=id hb;simp only at hc hd Bp hd2;subst hc hd Bp hd2;have e:vs.toArray++ws.toArray=(vs++ws).toArray:=by simp
 by_cases hw:ws=[]
 ·exact concat_meets ⟨_,ho,rfl⟩ ⟨_,E5,rfl⟩ noFill_tuple_add seq_tuple_add IX Gz (FV _ _)
   (tuple_addW1 t b vs.toArray ws.toArray n n2 dd Dx sl Jo (by simpa using hv) (by simp [hw])) ⟨ho,E5,h1 hw⟩
 ·refine concat_meets ⟨_,ho,rfl⟩ ⟨_,E5,rfl⟩ noFill_tuple_add seq_tuple_add IX Gz (FV _ _)
   (tuple_addW2 t b vs.toArray ws.toArray n n2 dd Dx sl Jo (by simpa using hv) (by simpa using hw) (by rw [aY,aY]; exact hsz)) ⟨ho,E5,?_⟩
  rw [e];exact h2 hw
noncomputable def jr(n d:Nat):Option Int->Nat
 | none=>d
 | some v=>if v < 0 then (v+(n:Int)).toNat else min v.toNat n
theorem Uu(n d:Nat)(hd:d<=n)(o:Option Int):jr n d o<=n:=by
 cases o with
 | none=>exact hd
 | some v =>
  show (if v < 0 then (v+(n:Int)).toNat else min v.toNat n)<=n;by_cases hv:v < 0
  ·rw [if_pos hv]; lia
  ·rw [if_neg hv]; exact Nat.min_le_right _ _
theorem Kl(v:Int)(n d:Nat):(if v < 0 then max (v+(n:Int)) 0 else min v (n:Int))=((jr n d (some v):Nat):Int):=by
 show (if v < 0 then max (v+(n:Int)) 0 else min v (n:Int))=(((if v < 0 then (v+(n:Int)).toNat else min v.toNat n):Nat):Int);by_cases hv:v < 0
 ·simp only [if_pos hv]; lia
 ·simp only [if_neg hv]; lia
theorem IF(lo hi:Option Int)(n:Nat):nv lo hi 1 (n:Int)=(((jr n 0 lo:Nat):Int),((jr n n hi:Nat):Int)):=by
 have h1:¬ ((1:Int) < 0):=by lia
 unfold nv;simp only [h1,if_false];refine Prod.ext ?_ ?_
 ·cases lo with
  | none=>rfl
  | some v=>exact Kl v n 0
 ·cases hi with
  | none=>rfl
  | some v=>exact Kl v n n
theorem Hh(i j:Nat):i5 (i:Int) (j:Int) 1=j - i:=by
 unfold i5;have h1:(1:Int) > 0:=by lia
 simp only [h1,if_true,Int.ediv_one];split <;> lia
theorem yh{v:Value}{o:Option Int}{Q:Option Int->az->Prop}(p:IsPart v o)(h:Q o s):wpAny (model prog w) A (Builtin.Slice.slicePartIndex v) Q E s:=by
 cases p with
 | none=>exact slicePart_none h
 | int i t=>exact slicePart_int h
theorem vI{sl:Addr}{vl vu:Value}{lo hi:Option Int}{n:Nat}{Q:Int×Int×Nat->az->Prop}(hs:s.heap.IsSliceOf sl vl vu .none)(pl:IsPart vl lo)(pu:IsPart vu hi)
  (h:Q (((jr n 0 lo:Nat):Int),1,jr n n hi - jr n 0 lo) s):wpAny (model prog w) A (xx (.ref sl) (pure (n:Int))) Q E s:=by
 obtain⟨os,Xm,Xz,Gi⟩:=id hs;unfold xx Builtin.Slice.sliceFields;refine ag (ag (qo Xm Gi (x:=vl) rfl (ag (qo Xm Gi (x:=vu) rfl (ag (qo Xm Gi (x:=.none) rfl (aC ?_)))))));refine ag (slicePart_none ?_);show wpAny _ _ (if ((1:Int) == 0)=true then _ else _) _ _ s;rw [if_neg (by decide)];refine ag (yh pl (ag (yh pu (ag (aC ?_)))));show wpAny _ _ (match nv lo hi 1 (n:Int) with | (lo,hi)=>pure (lo,(1:Int),i5 lo hi 1)) _ _ s;rw [IF lo hi n];show wpAny _ _ (pure (((jr n 0 lo:Nat):Int),(1:Int),i5 ((jr n 0 lo:Nat):Int) ((jr n n hi:Nat):Int) 1)) _ _ s;rw [Hh];exact aC h
theorem N0(xs:Array Value)(i k:Nat):((fK k).filterMap fun (m:Nat)=>xs[((i:Int)+(m:Int) * 1).toNat]?).toArray=((xs.toList.drop i).take k).toArray:=by
 have e:(fun (m:Nat)=>xs[((i:Int)+(m:Int) * 1).toNat]?)=fun m=>xs[i+m]?:=by
  funext m;have:((i:Int)+(m:Int) * 1).toNat=i+m:=by lia
  rw [this]
 rw [e];have:=pick_run xs i k;rw [List.filterMap_map] at this;have e2:((fun x=>xs[x]?)∘fun x=>i+x)=fun m=>xs[i+m]?:=rfl;rw [e2] at this;rw [this]
theorem uY{t sl:Addr}{items:Array Value}{vl vu:Value}{lo hi:Option Int}{Q:Value->az->Prop}(ht:IsTup s.heap t items)(hs:s.heap.IsSliceOf sl vl vu .none)(pl:IsPart vl lo)(pu:IsPart vu hi)
  (hw:¬ (jr items.size 0 lo=0/\jr items.size items.size hi=items.size))
  (h:Q (.ref s.heap.objs.size) { s with heap:=s.heap.push { cls:=.type "tuple",data:=.seq ((items.toList.drop (jr items.size 0 lo)).take (jr items.size items.size hi - jr items.size 0 lo)).toArray } })
  (hsz:items.size<=bc):wpAny (model prog w) A (getItem (.ref t) (.ref sl)) Q E s:=by
 have JZ:sizeOk (.seq ((items.toList.drop (jr items.size 0 lo)).take (jr items.size items.size hi - jr items.size 0 lo)).toArray):=by
  show ((items.toList.drop (jr items.size 0 lo)).take (jr items.size items.size hi - jr items.size 0 lo)).toArray.size<=bc;rw [aY];exact bu (bu (List.length_take_le' _ _) (by rw [cN,eE]; exact Nat.sub_le _ _)) hsz
 have hj:jr items.size items.size hi<=items.size:=Uu _ _ (aI _) hi;obtain⟨os,Xm,Xz,Gi⟩:=id hs;have hTs:s.TypeIs (.ref sl) "slice":=⟨os,Xm,Xz⟩;unfold getItem
 try with_reducible refine eM ?_
 first | refine ag (aC ?_) | skip
 refine ag (wpAny_sequenceKey ht.typeIs (by decide) ?_);refine ag (iX (name:=qk "__getitem__") ht.typeIs vp
  (c9 vp ht.typeIs entry_tuple_getitem ?_ (args_tuple_getitem _ _)))
 show wpAny _ _ (xu (.ref t) >>= _) _ _ s;refine ag (tupleItemsOf_ ht ?_);refine ag (wpAny_typeOf hTs ?_);rw [if_pos (by decide)];refine ag (vI hs pl pu ?_);have Xn:¬ ((((jr items.size 0 lo:Nat):Int) == 0&&(1:Int) == 1&&(jr items.size items.size hi - jr items.size 0 lo) == items.size)=true):=by
  intro q;rw [aK,aK] at q;have q1:((jr items.size 0 lo:Nat):Int)=0:=eq_of_beq q.1.1;have q2:jr items.size items.size hi - jr items.size 0 lo=items.size:=eq_of_beq q.2;exact hw ⟨by lia,by lia⟩
 show wpAny _ _ (if (((jr items.size 0 lo:Nat):Int) == 0&&(1:Int) == 1&&(jr items.size items.size hi - jr items.size 0 lo) == items.size)=true then _ else _) _ _ s;rw [if_neg Xn,N0]
 first
  | exact ag (m:=jq _) (dB (aC ⟨_,rfl,aC h⟩) JZ)
  | exact ag (m:=jq _) (dB (ag (aC (aC ⟨_,rfl,aC h⟩))) JZ)
  | exact ag (ag (m:=jq _) (dB (aC (aC ⟨_,rfl,aC h⟩)) JZ))
  | exact ag (ag (m:=jq _) (dB (aC ⟨_,rfl,aC h⟩) JZ))
end
end HT
namespace L2
open PySem PySem.Spec PyProof.Rows
noncomputable abbrev TO:=St->Hp->(Option Int->Hp->Prop)->Prop
theorem intsAre_of{ns:List Int}:∀ {us:List Value},Vals (ns.map V.int) us->o7 us ns:=by
 induction ns with
 | nil=>intro us r; rw [bq] at r; cases r; exact .nil
 | cons n ns ih =>
  intro us r;rw [aj] at r;cases r with
  | cons r1 r2 =>
   obtain⟨t,e⟩:=r1;subst e;exact .cons n t (ih r2)
section
variable {X:Cx} {e:Expr} {te:TE} {lo hi:Option Expr} {tl th:TO} {pos p2:Pos}
noncomputable def SlR(X:Cx)(r:V->Option Int->Option Int->Hp->VK->Prop):Prop :=
 ∀ (pins:List (Addr×Obj)) (s:az) (σ:St) (H:Hp) (x:V) (v vl vu:Value) (lo hi:Option Int) (sl:Addr) (Q:VK),Inv X pins σ H s->RelV x v->s.heap.IsSliceOf sl vl vu .none->IsPart vl lo->IsPart vu hi->r x lo hi H Q ->
  ∃ T id,typeLookup (.type T) "__getitem__" = pure (some (.builtin id))/\s.TypeIs v T/\wpAny (model X.prog X.w) X.A (getItem v (.ref sl)) (EP X pins σ Q) X.xe s
noncomputable def FD(xs:List V)(lo hi:Option Int):List V:=(xs.drop (HT.jr xs.length 0 lo)).take (HT.jr xs.length xs.length hi - HT.jr xs.length 0 lo)
theorem w7(xs:List V)(lo hi:Option Int):(FD xs lo hi).length<=xs.length:=by
 unfold FD;rw [eD,cN];lia
noncomputable def Zl(K:ai):V->Option Int->Option Int->Hp->VK->Prop:=fun x lo hi H Q=>∃ a xs,x=.ref a/\xX K H a xs /\
 ¬ (HT.jr xs.length 0 lo=0/\HT.jr xs.length xs.length hi=xs.length)/\∀ p,H p=none->Q (.ref p) (upd H p (.tup (FD xs lo hi)))
theorem Us:SlR X (Zl X.K):=by
 intro pins s σ H x v vl vu lo hi sl Q I rx hs pl pu h;obtain⟨a,xs,rfl,hx,hw,q⟩:=h;cases rx;obtain⟨bW,r,ht,hz⟩:=I.tuple hx;have hlen:bW.toArray.size=xs.length:=by rw [aY]; exact r.length.symm
 refine⟨"tuple",_,PyProof.Rows.slot_tuple_getitem.lookup,ht.typeIs,?_⟩;refine HT.uY ht hs pl pu (by rw [hlen]; exact hw) ?_ (by rw [hlen]; exact hz);rw [hlen];refine⟨.ref s.heap.objs.size,_,I.laid (t':=s.toks) (o:=.tup (FD xs lo hi)) (fun b ob q=>aG _ q) (aI _) ?_,rfl,q _ (I.cL.fresh (aI _))⟩;exact⟨bu (w7 xs lo hi) hz,_,(r.drop (HT.jr xs.length 0 lo)).take (HT.jr xs.length xs.length hi - HT.jr xs.length 0 lo),IsTup.new _ _⟩
noncomputable def Zo(K:ai):R2:=fun x y H Q=>∃ a b ns ms,x=.ref a/\y=.ref b/\xX K H a (ns.map V.int)/\xX K H b (ms.map V.int)/\Q (.bl (HT.lexLt ns ms)) H
theorem UQ(hu:X.A.units < cLine):Me X (fk .Lt) (Zo X.K):=by
 intro pins s σ H x y v u Q I rx ry h;obtain⟨a,b,ns,ms,rfl,rfl,ha,hb,q⟩:=h;cases rx;cases ry;obtain⟨bW,r1,p1,_⟩:=I.tuple ha;obtain⟨vX,r2,p2,_⟩:=I.tuple hb;have i1:o7 bW.toArray.toList ns:=intsAre_of r1;have i2:o7 vX.toArray.toList ms:=intsAre_of r2;exact HT.Hx p1 p2 i1 i2 hu ⟨.bl (HT.lexLt ns ms),H,I,rfl,q⟩
noncomputable def WE(K:ai):R2:=fun x y H Q=>∃ a b xs ys,x=.ref a/\y=.ref b/\xX K H a xs/\xX K H b ys/\xs≠[]/\xs.length+ys.length<=bc /\
 (ys=[]->Q (.ref a) H)/\(ys≠[]->∀ p,H p=none->Q (.ref p) (upd H p (.tup (xs++ys))))
theorem Vals.Cj{xs:List V}{us:List Value}(r:Vals xs us):us=[]↔xs=[]:=by
 cases r with
 | nil=>simp
 | cons _ _=>simp
theorem RB:Me X (iY .Add) (WE X.K):=by
 intro pins s σ H x y v u Q I rx ry h;obtain⟨a,b,xs,ys,rfl,rfl,ha,hb,hx,hz,q1,q2⟩:=h;cases rx;cases ry;obtain⟨bW,r1,p1,_⟩:=I.tuple ha;obtain⟨vX,r2,p2,_⟩:=I.tuple hb;refine HT.So p1 p2 (fun z=>hx (r1.Cj.mp z)) (fun z=>⟨.ref a,H,I,rfl,q1 (r2.Cj.mp z)⟩) (fun z=>?_) (by rw [<-r1.length,<-r2.length]; exact hz);refine⟨.ref s.heap.objs.size,_,I.laid (t':=s.toks) (o:=.tup (xs++ys)) (fun b ob q=>aG _ q) (aI _) ?_,rfl,q2 (fun w=>z (r2.Cj.mpr w)) _ (I.cL.fresh (aI _))⟩;exact⟨by rw [au]; exact hz,_,r1.append r2,IsTup.new _ _⟩
end
noncomputable def Gh(n:Nat)(i:Int):Option Nat:=if 0<=i then (if i < n then some i.toNat else none) else if -(n:Int)<=i then some (i+n).toNat else none
noncomputable def ua{α:Type}(xs:List α)(i:Int):Option α:=(Gh xs.length i).bind fun j=>xs[j]?
theorem JV{n:Nat}{i:Int}{j:Nat}(h:Gh n i=some j):seqIndex? i n=some j/\j < n/\-(n:Int)<=i/\i < n:=by
 unfold Gh at h;by_cases h0:0<=i
 ·rw [if_pos h0] at h;by_cases h1:i < n
  ·rw [if_pos h1] at h;have e:i.toNat=j:=ba h;exact⟨by rw [seqIndex_of h0 h1,e],by lia,by lia,h1⟩
  ·rw [if_neg h1] at h; cases h
 ·rw [if_neg h0] at h;by_cases h1:-(n:Int)<=i
  ·rw [if_pos h1] at h;have e:(i+n).toNat=j:=ba h;exact⟨by rw [seqIndex_neg (by lia) h1,e],by lia,h1,by lia⟩
  ·rw [if_neg h1] at h; cases h
theorem Kr{α:Type}{xs:List α}{i:Int}{v:α}(h:ua xs i=some v):∃ j,seqIndex? i xs.length=some j/\xs[j]?=some v/\j < xs.length/\-(xs.length:Int)<=i/\i < xs.length:=by
 unfold ua at h;cases e:Gh xs.length i with
 | none=>rw [e] at h; cases h
 | some j =>
  rw [e] at h;obtain⟨h1,h2,h3,h4⟩:=JV e;exact⟨j,h1,h,h2,h3,h4⟩
noncomputable def SD(b:Expr):Prop:=∀ o i,subscripted b false o i=operate [o,i] (getItem o i)
noncomputable def IxR(X:Cx)(r:R2):Prop :=
 ∀ (value slice:Expr) (pins:List (Addr×Obj)) (s:az) (σ:St) (H:Hp) (x y:V) (v u:Value) (Q:VK),Inv X pins σ H s->RelV x v->RelV y u->r x y H Q ->
  subscripted slice false v u=operate [v,u] (getItem v u)->wpAny (model X.prog X.w) X.A (subscriptTail value slice v u) (EP X pins σ Q) X.xe s
noncomputable def MtR(X:Cx)(id:String)(r:V->List V->Hp->VK->Prop):Prop :=
 ∀ (pins:List (Addr×Obj)) (s:az) (σ:St) (H:Hp) (x:V) (xs:List V) (v:Value) (us:List Value) (Q:VK),Inv X pins σ H s->RelV x v->Vals xs us->r x xs H Q ->
  wpAny (model X.prog X.w) X.A (call (.builtin id) (v :: us)) (EP X pins σ Q) X.xe s
section
variable {X:Cx} {a b:Expr} {ta tb:TE} {pos:Pos}
noncomputable def Zq(K:ai):R2:=fun x y H Q=>∃ p xs i v,x=.ref p/\y=.int i/\rz K H p xs/\ua xs i=some v/\Q v H
noncomputable def Zp(K:ai):R2:=fun x y H Q=>∃ p xs i v,x=.ref p/\y=.int i/\xX K H p xs/\ua xs i=some v/\Q v H
theorem JU:IxR X (Zq X.K):=by
 intro value slice pins s σ H x y v u Q I rx ry h hs;obtain⟨p,xs,i,z,rfl,rfl,hq,he,q⟩:=h;cases rx;obtain⟨t,rfl⟩:=ry;obtain⟨bW,r,pl,hz⟩:=I.list hq;obtain⟨j,h1,h2,h3,h4,h5⟩:=Kr he;obtain⟨w,ew,sx⟩:=r.get h2;have hl:=r.length;have hn:=yY;have fin:EP X pins σ Q w s:=⟨z,H,I,sx,q⟩;by_cases h0:0<=i
 ·have hj:i.toNat=j:=by
   rw [seqIndex_of h0 h5] at h1;exact ba h1
  exact item_listR pl.isList h0 (by lia) (by rw [hj]; simpa using ew) fin hs
 ·have hj:(i+(bW.toArray.size:Int)).toNat=j:=by
   rw [seqIndex_neg (by lia) h4] at h1;rw [aY,<-hl];exact ba h1
  exact subscriptTail_builtinR (x:=w) pl.isList.typeIs slot_list_getitem.lookup
   (wpAny_getItem_list_neg (Q:=fun r s'=>r=w/\EP X pins σ Q r s') pl.isList (by lia) (by rw [aY] <;> lia) (by lia) (by rw [hj]; simpa using ew) ⟨rfl,fin⟩) hs
theorem Va:IxR X (Zp X.K):=by
 intro value slice pins s σ H x y v u Q I rx ry h hs;obtain⟨p,xs,i,z,rfl,rfl,hq,he,q⟩:=h;cases rx;obtain⟨t,rfl⟩:=ry;obtain⟨bW,r,pl,hz⟩:=I.tuple hq;obtain⟨j,h1,h2,h3,h4,h5⟩:=Kr he;obtain⟨w,ew,sx⟩:=r.get h2;have hl:=r.length;have hn:=yY;have fin:EP X pins σ Q w s:=⟨z,H,I,sx,q⟩;exact subscriptTail_builtinR (x:=w) pl.typeIs slot_tuple_getitem.lookup
  (getItem_tuple (j:=j) (Q:=fun r s'=>r=w/\EP X pins σ Q r s') pl (by lia) (by lia) (by rw [aY,<-hl]; exact h1) (by simpa using ew) ⟨rfl,fin⟩) hs
theorem Hw (bW:List Value) (n j:Nat) (u:Value):fM (·.setIfInBounds j u) { cls:=.type "list",data:=.seq bW.toArray n } = { cls:=.type "list",data:=.seq (bW.set j u).toArray n }:=by
 simp [fM]
theorem Inv.lst{pins:List (Addr×Obj)}{σ:St}{H:Hp}{s:az}{p:Addr}{xs:List V}(I:Inv X pins σ H s)(h:H p=some (.lst xs)) :
  ∃ (bW:List Value) (n:Nat),Vals xs bW/\s.heap.get? p=some { cls:=.type "list",data:=.seq bW.toArray n }/\xs.length<=bc:=by
 obtain⟨z,bW,n,r,e⟩:=I.cL p _ h;exact⟨bW,n,r,e,z⟩
theorem Inv.UZ{pins:List (Addr×Obj)}{σ:St}{H:Hp}{s:az}{p:Addr}{xs ys:List V}{bW its':List Value}{n n':Nat}{f:Obj->Obj}(I:Inv X pins σ H s)(h:H p=some (.lst xs))
  (ho:s.heap.get? p=some { cls:=.type "list",data:=.seq bW.toArray n }) (hf:f { cls:=.type "list",data:=.seq bW.toArray n } = { cls:=.type "list",data:=.seq its'.toArray n' }) (r:Vals ys its') (hz:ys.length<=bc) (t:Nat) :
  Inv X pins σ (upd H p (.lst ys)) { s with heap:=s.heap.update p f,toks:=t }:=by
 have e:(s.heap.update p f).get? p=some { cls:=.type "list",data:=.seq its'.toArray n' }:=by
  rw [nc f ho (by rw [hf] <;> rfl),hf]
 refine I.write (x:=p) (e:=p) (by rw [h]; trivial) (.inl rfl) (fun b u hb q=>(t4 _ _ (fW hb)).trans q) ⟨_,e⟩ ?_;exact⟨hz,its',n',r,e⟩
noncomputable def WC:V->V->V->Hp->(Hp->Prop)->Prop:=fun o i v H Q=>∃ p xs k j,o=.ref p/\i=.int k/\H p=some (.lst xs)/\Gh xs.length k=some j/\Q (upd H p (.lst (xs.set j v)))
theorem set_list:abc X WC:=by
 intro pins s σ H o i v ov iv u Q I ro ri rv h;obtain⟨p,xs,k,j,rfl,rfl,hp,hj,q⟩:=h;cases ro;obtain⟨t,rfl⟩:=ri;obtain⟨bW,n,r,ho,hz⟩:=I.lst hp;obtain⟨h1,h2,h3,h4⟩:=JV hj;have hl:=r.length;have hn:=yY;have I':Inv X pins σ (upd H p (.lst (xs.set j v))) { s with heap:=s.heap.update p (fM (·.setIfInBounds j u)) } :=
  I.UZ hp ho (Hw bW n j u) (r.set rv j) (by rw [eg]; exact hz) s.toks
 by_cases h0:0<=k
 ·have hk:k.toNat=j:=by
   rw [seqIndex_of h0 h4] at h1;exact ba h1
  exact PySem.W.ki_setAt ho h0 (by lia) (by rw [aY,<-hl]; exact h4) (by rw [hk]; exact⟨_,I',q⟩)
 ·have hk:(k+(bW.toArray.size:Int)).toNat=j:=by
   rw [seqIndex_neg (by lia) h3] at h1;rw [aY,<-hl];exact ba h1
  exact PySem.W.ki_setBack ho (by lia) (by rw [aY,<-hl]; exact h3) (by lia) (by rw [hk]; exact⟨_,I',q⟩)
theorem B2(lo hi:Option Int)(n:Nat):(qp lo hi none n).1=((HT.jr n 0 lo:Nat):Int)/\(qp lo hi none n).2.1=((HT.jr n n hi:Nat):Int)/\(qp lo hi none n).2.2=1:=by
 refine⟨?_,?_,rfl⟩
 ·cases lo with
  | none=>simp [qp,HT.jr]
  | some i =>
   simp only [qp,HT.jr,AP,show (1:Int) > 0 by decide,if_true];by_cases h:i < 0
   ·simp only [h,if_true] <;> lia
   ·simp only [h,if_false] <;> lia
 ·cases hi with
  | none=>simp [qp,HT.jr]
  | some i =>
   simp only [qp,HT.jr,AP,show (1:Int) > 0 by decide,if_true];by_cases h:i < 0
   ·simp only [h,if_true] <;> lia
   ·simp only [h,if_false] <;> lia
theorem An(bW:List Value)(lo hi:Option Int):slicePick bW.toArray lo hi none=((bW.drop (HT.jr bW.length 0 lo)).take (HT.jr bW.length bW.length hi - HT.jr bW.length 0 lo)).toArray:=by
 obtain⟨h1,h2,h3⟩:=B2 lo hi bW.toArray.size;unfold slicePick;rw [h1,h2,h3];simp only [sliceRange_one,pick_run,aY] <;> rfl
noncomputable def Zm(K:ai):V->Option Int->Option Int->Hp->VK->Prop:=fun x lo hi H Q=>∃ a xs,x=.ref a/\rz K H a xs/\∀ p,H p=none->Q (.ref p) (upd H p (.lst (FD xs lo hi)))
theorem Jn:SlR X (Zm X.K):=by
 intro pins s σ H x v vl vu lo hi sl Q I rx hs pl pu h;obtain⟨a,xs,rfl,hx,q⟩:=h;cases rx;obtain⟨bW,r,ht,hz⟩:=I.list hx;have hlen:=r.length;refine⟨"list",_,slot_list_getitem.lookup,ht.isList.typeIs,?_⟩;refine wpAny_getItem_list_slice ht.isList hs pl pu .none (by simp) ?_ (by rw [aY] <;> lia);rw [An,<-hlen];refine⟨.ref s.heap.objs.size,_,I.laid (t':=s.toks) (o:=.lst (FD xs lo hi)) (fun b ob q=>aG _ q) (aI _) ?_,rfl,q _ (I.cL.fresh (aI _))⟩;exact⟨bu (w7 xs lo hi) hz,_,0,(r.drop (HT.jr xs.length 0 lo)).take (HT.jr xs.length xs.length hi - HT.jr xs.length 0 lo),bh _ rfl⟩
theorem C1:Qr X (.type "list") (fun xs H Q=>∃ p ys,xs=[.ref p]/\(rz X.K H p ys\/xX X.K H p ys)/\∀ l,H l=none->Q (.ref l) (upd H l (.lst ys))):=by
 intro pins s σ H xs us Q I r h;obtain⟨p,ys,rfl,hq,q⟩:=h;obtain⟨u,rfl,rx⟩:=vals1 r;cases rx;have fin:∀ (bW:List Value),Vals ys bW->ys.length<=bc->∀ (h':Heap) (c':Nat),(∀ b o',s.heap.get? b=some o'->h'.get? b=some o') ->
   h'.get? s.heap.objs.size=some { cls:=.type "list",dict:=none,data:=.seq bW.toArray c',slots:=#[] }->EP X pins σ Q (.ref s.heap.objs.size) { s with heap:=h' }:=fun bW r' hz h' c' kp e =>
  ⟨.ref s.heap.objs.size,_,I.laid (t':=s.toks) kp (aI _) (show fV X.prog X.w _ h' _ (.lst ys) from⟨hz,bW,c',r',e⟩),rfl,q _ (I.cL.fresh (aI _))⟩
 rcases hq with hq | hq
 ·obtain⟨bW,r',pl,hz⟩:=I.list hq;have hlen:=r'.length;obtain⟨o,ho,hc,n,hd⟩:=pl.isList;exact call_list_seq p (.inl rfl) ho hc hd (fun h' c' kp e=>fin bW r' hz h' c' kp e) (by simp only [aY] <;> lia)
 ·obtain⟨bW,r',pl,hz⟩:=I.tuple hq;have hlen:=r'.length;obtain⟨o,ho,hc,n,hd⟩:=pl;exact call_list_seq p (.inr rfl) ho hc hd (fun h' c' kp e=>fin bW r' hz h' c' kp e) (by simp only [aY] <;> lia)
theorem AJ:Qr X (.type "tuple") (fun xs H Q=>∃ p ys,xs=[.ref p]/\((rz X.K H p ys/\∀ l,H l=none->Q (.ref l) (upd H l (.tup ys)))\/(xX X.K H p ys/\Q (.ref p) H))):=by
 intro pins s σ H xs us Q I r h;obtain⟨p,ys,rfl,h⟩:=h;obtain⟨u,rfl,rx⟩:=vals1 r;cases rx;rcases h with ⟨hq,q⟩ | ⟨hq,q⟩
 ·obtain⟨bW,r',pl,hz⟩:=I.list hq;have hlen:=r'.length;refine call_tuple_list pl.isList (fun h' kp=>?_) (by simp only [aY] <;> lia);have I1:Inv X pins σ H { s with heap:=h' }:=I.kept (t':=s.toks) kp;have I2:Inv X pins σ (upd H h'.objs.size (.tup ys)) { s with heap:=h'.push { cls:=.type "tuple",data:=.seq bW.toArray } } :=
   I1.laid (t':=s.toks) (fun b o e=>aG _ e) (aI _) (show fV X.prog X.w _ _ _ (.tup ys) from⟨hz,bW,r',IsTup.new _ _⟩)
  exact⟨.ref h'.objs.size,_,I2,rfl,q _ (I1.cL.fresh (aI _))⟩
 ·obtain⟨bW,r',pl,hz⟩:=I.tuple hq;exact call_tuple_same pl ⟨.ref p,H,I,rfl,q⟩
noncomputable def tyV(K:ai)(T:String)(x:V)(H:Hp):Prop:=match x with
 | .str _=>T = "str"
 | .int _=>T = "int"
 | .ref p=>(T = "list"/\∃ xs,rz K H p xs)\/(T = "tuple"/\∃ o,K.lookup p=some o/\o.cls=.type "tuple"/\o.dict=none) \/
   (T = "dict"/\((∃ kvs,H p=some (.dK kvs))\/∃ kvs,H p=some (.dT kvs)))\/(T = "set"/\∃ S n,H p=some (.set S n))
 | _=>False
theorem BX{pins:List (Addr×Obj)}{σ:St}{H:Hp}{s:az}{T:String}{x:V}{v:Value}(I:Inv X pins σ H s)(r:RelV x v)(ty:tyV X.K T x H) :
  s.TypeIs v T/\∀ a,v=.ref a->∃ ob,s.heap.get? a=some ob/\ob.dict=none:=by
 cases x with
 | str z =>
  obtain⟨t,rfl⟩:=r;cases (show T = "str" from ty);exact⟨typeIs_str s z t,fun _ e=>nomatch e⟩
 | int i =>
  obtain⟨t,rfl⟩:=r;cases (show T = "int" from ty);exact⟨typeIs_int s i t,fun _ e=>nomatch e⟩
 | ref p =>
  cases r;rcases ty with ⟨rfl,xs,hq⟩ | ⟨rfl,o,hk,hc,hd⟩ | ⟨rfl,hk⟩ | ⟨rfl,S,n,hk⟩
  ·obtain⟨bW,_,pl,_⟩:=I.list hq;refine⟨pl.isList.typeIs,fun a e=>?_⟩;cases e;obtain⟨o,n,e,c,hd,_⟩:=pl;exact⟨o,e,hd⟩
  ·refine⟨⟨o,I.JS p o hk,hc⟩,fun a e=>?_⟩;cases e;exact⟨o,I.JS _ o hk,hd⟩
  ·have z:∃ o,s.heap.get? p=some o/\o.ExactDict:=by
    rcases hk with ⟨kvs,hk⟩ | ⟨kvs,hk⟩
    ·obtain⟨_,_,_,_,o,_,_,e,ex,_⟩:=I.cL p _ hk;exact⟨o,e,ex⟩
    ·obtain⟨_,_,_,_,o,_,_,e,ex,_⟩:=I.cL p _ hk;exact⟨o,e,ex⟩
   obtain⟨o,e,ex⟩:=z;refine⟨⟨o,e,ex.1⟩,fun a e2=>?_⟩;cases e2;exact⟨o,e,ex.2.1⟩
  ·obtain⟨o,_,_,_,e,ex,_⟩:=I.cL p _ hk;refine⟨⟨o,e,ex.1⟩,fun a e2=>?_⟩;cases e2;exact⟨o,e,ex.2.1⟩
 | _=>exact bS ty
variable {o e:Expr} {es:List Expr} {to:TE} {t:TA} {name:Str} {apos jJ:Pos} {T id:String} {r:V->List V->Hp->VK->Prop}
/- xs.append(e),list.index on a W4 tuple .. are MtR facts of 06m -/
end
noncomputable def MtM(X:Cx)(id:String)(r:V->List V->Hp->VK->Prop):Prop :=
 ∀ (pins:List (Addr×Obj)) (s:az) (σ:St) (H:Hp) (x:V) (xs:List V) (v:Value) (us:List Value) (Q:VK),Inv X pins σ H s->RelV x v->Vals xs us->r x xs H Q ->
  wpAny (model X.prog X.w) X.A (call (.builtin id) (v :: us)) (EP X pins σ Q) X.xe s
theorem Vals.one:∀ {x:V} {us:List Value},Vals [x] us->∃ u,us=[u]/\RelV x u:=by
 intro x us h;cases h with
 | cons r t=>cases t; exact⟨_,rfl,r⟩
section
variable {X:Cx} {pins:List (Addr×Obj)} {σ:St} {H:Hp} {s:az} {l b:Addr} {xs ys zs:List V}
theorem Inv.W6{bW its':List Value}{n:Nat}{f:Array Value->Array Value}{t':Nat}(I:Inv X pins σ H s)(hH:H l=some (.lst xs))
  (e:s.heap.get? l=some { cls:=.type "list",data:=.seq bW.toArray n }) (hf:f bW.toArray=its'.toArray) (hv:Vals ys its') (hz:ys.length<=bc) :
  Inv X pins σ (upd H l (.lst ys)) { s with heap:=s.heap.update l (fM f),toks:=t' }:=by
 have q:=PySem.IsL.update e f;rw [hf] at q;refine I.write (x:=l) (e:=l) (by rw [hH]; exact trivial) (.inl rfl) (fun b' u hb hu=>(t4 s.heap (fM f) (fW hb)).trans hu) ⟨_,q⟩ ?_;exact⟨hz,its',_,hv,q⟩
theorem Inv.ZU{bW:List Value}{t':Nat}(I:Inv X pins σ H s)(hv:Vals ys bW)(hz:ys.length<=bc) :
  Inv X pins σ (upd H s.heap.objs.size (.lst ys)) { s with heap:=s.heap.push { cls:=.type "list",data:=.seq bW.toArray },toks:=t' } :=
 I.laid (fun _ _ q=>aG _ q) (aI _) ⟨hz,bW,0,hv,bh _ rfl⟩
theorem Inv.W5 (I:Inv X pins σ H s) (hH:H l=some (.lst xs)):xs.length<=bc/\∃ (bW:List Value) (n:Nat),Vals xs bW/\xs.length=bW.length/\s.heap.get? l=some { cls:=.type "list",data:=.seq bW.toArray n }:=by
 obtain⟨z,bW,n,r,e⟩:=I.cL l _ hH;exact⟨z,bW,n,r,r.length,e⟩
theorem Oj{n:Nat}(h:n<=bc):jw n=false:=by
 unfold jw;exact decide_eq_false (by lia)
end
section
variable {X:Cx}
noncomputable def Rg:V->List V->Hp->VK->Prop:=fun x vs H Q=>∃ l xs y,x=.ref l/\vs=[y]/\H l=some (.lst xs)/\xs.length < bc/\Q .eU (upd H l (.lst (xs++[y])))
theorem Ba:MtM X "list.append" Rg:=by
 intro pins s σ H x vs v us Q I rx rv h;obtain⟨l,xs,y,rfl,rfl,hH,hz,q⟩:=h;cases rx;obtain⟨u,rfl,ru⟩:=rv.one;obtain⟨z,bW,n,r,hl,e⟩:=I.W5 hH;refine call_meets F.slot_list_append ⟨_,e,rfl⟩ F.entry_list_append (F.args_list_append_2 _ _) (PySem.list_append l bW.toArray n u (by rw [aY]; lia)) ⟨e,?_⟩;refine⟨.eU,_,I.W6 (its':=bW++[u]) hH e (by simp) (r.append (.cons ru .nil)) ?_,rfl,q⟩;rw [au,dg];lia
end
section
variable {κ:Type} [DecidableEq κ]
noncomputable def lN(kvs:List (κ×V))(k:κ):Option V:=(kvs.find? fun kv=>decide (kv.1=k)).map (·.2)
noncomputable def putK(kvs:List (κ×V))(k:κ)(v:V):List (κ×V) :=
 if (kvs.any fun kv=>decide (kv.1=k))=true then kvs.map (fun kv=>if kv.1=k then (kv.1,v) else kv) else kvs++[(k,v)]
theorem qx{p:κ×V}{r:List (κ×V)}{k:κ}(e:p.1=k):lN (p :: r) k=some p.2:=by simp [lN,eh,e]
theorem qy{p:κ×V}{r:List (κ×V)}{k:κ}(e:¬ p.1=k):lN (p :: r) k=lN r k:=by simp [lN,eh,e]
theorem DR(k:κ):∀ kvs:List (κ×V),(kvs.any fun kv=>decide (kv.1=k))=(lN kvs k).isSome
 | []=>rfl
 | p :: r=>by
  rw [lr];by_cases e:p.1=k
  ·simp only [qx e,decide_eq_true e,Bool.true_or,Option.isSome_some]
  ·rw [qy e,decide_eq_false e,Mu]; exact DR k r
theorem wX(kvs:List (κ×V))(k:κ)(v:V):(putK kvs k v).length<=kvs.length+1:=by
 unfold putK;split
 ·rw [aq]; lia
 ·rw [au,ak,aF]; lia
theorem wx.oQ{o:Option V}{u:Option Value}(r:wx o u):o.isSome=u.isSome:=by
 cases o with
 | none=>cases u with
  | none=>rfl
  | some _=>exact(show False from r).elim
 | some _=>cases u with
  | none=>exact(show False from r).elim
  | some _=>rfl
theorem wx.getD{o:Option V}{u:Option Value}{d:V}{d':Value}(r:wx o u)(rd:RelV d d'):RelV (o.getD d) (u.getD d'):=by
 cases o with
 | none=>cases u with
  | none=>exact rd
  | some _=>exact(show False from r).elim
 | some _=>cases u with
  | none=>exact(show False from r).elim
  | some _=>exact r
theorem KV.val{kvs:List (κ×V)}{vs:List (κ×Value)}(r:KV kvs vs)(k:κ):wx (lN kvs k) (MM vs k):=by
 unfold KV at r;induction r with
 | nil=>exact fZ
 | @cons p q ps qs h t ih =>
  obtain⟨h1,h2⟩:=h;by_cases e:p.1=k
  ·have e':q.1=k:=h1.symm.trans e;have b:MM (q :: qs) k=some q.2:=by simp [MM,eh,e']
   rw [qx e,b]; exact h2
  ·have e':¬ q.1=k:=fun z=>e (h1.trans z);have b:MM (q :: qs) k=MM qs k:=by simp [MM,eh,e']
   rw [qy e,b]; exact ih
theorem KV.any{kvs:List (κ×V)}{vs:List (κ×Value)}(r:KV kvs vs)(k:κ):(kvs.any fun kv=>decide (kv.1=k))=vs.any fun kv=>decide (kv.1=k):=by
 unfold KV at r;induction r with
 | nil=>rfl
 | cons h t ih=>rw [lr,lr,ih,h.1]
theorem KV.NJ{kvs:List (κ×V)}{vs:List (κ×Value)}(r:KV kvs vs)(k:κ){y:V}{u:Value}(ry:RelV y u) :
  KV (kvs.map fun kv=>if kv.1=k then (kv.1,y) else kv) (vs.map fun kv=>if kv.1=k then (kv.1,u) else kv):=by
 unfold KV at r ⊢;induction r with
 | nil=>exact .nil
 | @cons p q ps qs h t ih =>
  rw [aj,aj];refine .cons ?_ ih;obtain⟨h1,h2⟩:=h;by_cases e:p.1=k
  ·rw [if_pos e,if_pos (h1.symm.trans e)]; exact⟨h1,ry⟩
  ·rw [if_neg e,if_neg (fun z=>e (h1.trans z))]; exact⟨h1,h2⟩
theorem KV.put{kvs:List (κ×V)}{vs:List (κ×Value)}(r:KV kvs vs)(k:κ){y:V}{u:Value}(ry:RelV y u):KV (putK kvs k y) (stored vs k u):=by
 unfold putK stored;rw [r.any k];by_cases e:(vs.any fun kv=>decide (kv.1=k))=true
 ·rw [if_pos e,if_pos e]; exact r.NJ k ry
 ·rw [if_neg e,if_neg e]; exact Qt r ⟨rfl,ry⟩
theorem KV.length{kvs:List (κ×V)}{vs:List (κ×Value)}(r:KV kvs vs):kvs.length=vs.length:=iu r
end
theorem y7{P:bM}{w:World}{k:Key}{u:Value}(r:RelV (kV k) u):(cP P w).is k u=true:=by
 cases k with
 | inl i=>obtain⟨t,e⟩:=(show ∃ t,u=eG i t from r); subst e; exact EJ P w i t
 | inr x=>obtain⟨t,e⟩:=(show ∃ t,u=Value.str x t from r); subst e; exact EI P w x t
theorem Bl{P:bM}{w:World}:∀ {ks:List Key} {us:List Value},Vals (ks.map kV) us->ItemsAre (cP P w) ks us
 | [],_,r=>by rw [bq] at r; cases r; exact .nil
 | k :: ks,_,r=>by
  rw [aj] at r;cases r with
  | cons h t=>exact .cons (y7 h) (Bl t)
noncomputable abbrev KT(H:Hp):List (List Key×V)->List (List Key×Addr×Value)->Prop:=kd fun p q=>p.1=q.1/\H q.2.1=some (.tup (p.1.map kV))/\RelV p.2 q.2.2
theorem KT.val{H:Hp}{kvs:List (List Key×V)}{xs:List (List Key×Addr×Value)}(r:KT H kvs xs)(k:List Key):wx (lN kvs k) ((atKey xs k).map (·.2)):=by
 induction r with
 | nil=>exact fZ
 | @cons p q ps qs h t ih =>
  obtain⟨h1,_,h2⟩:=h;by_cases e:p.1=k
  ·have e':q.1=k:=h1.symm.trans e;have b:atKey (q :: qs) k=some q.2:=by simp [atKey,eh,e']
   rw [qx e,b]; exact h2
  ·have e':¬ q.1=k:=fun z=>e (h1.trans z);have b:atKey (q :: qs) k=atKey qs k:=by simp [atKey,eh,e']
   rw [qy e,b]; exact ih
theorem KT.NJ{H:Hp}{kvs:List (List Key×V)}{xs:List (List Key×Addr×Value)}(r:KT H kvs xs)(k:List Key){y:V}{u:Value}(ry:RelV y u) :
  KT H (kvs.map fun kv=>if kv.1=k then (kv.1,y) else kv) (xs.map (putAt k u)):=by
 induction r with
 | nil=>exact .nil
 | @cons p q ps qs h t ih =>
  rw [aj,aj];refine .cons ?_ ih;obtain⟨h1,h2,h3⟩:=h;unfold putAt;by_cases e:p.1=k
  ·rw [if_pos e,if_pos (h1.symm.trans e)]; exact⟨h1,h2,ry⟩
  ·rw [if_neg e,if_neg (fun z=>e (h1.trans z))]; exact⟨h1,h2,h3⟩
theorem KT.put{H:Hp}{kvs:List (List Key×V)}{xs:List (List Key×Addr×Value)}(r:KT H kvs xs)(k:List Key){b:Addr}{y:V}{u:Value}(hb:H b=some (.tup (k.map kV)))(ry:RelV y u) :
  KT H (putK kvs k y) (Gq xs k b u):=by
 have e:(kvs.any fun kv=>decide (kv.1=k))=(atKey xs k).isSome:=by
  rw [DR,(r.val k).oQ,zX]
 unfold putK Gq;rw [e];by_cases q:(atKey xs k).isSome=true
 ·rw [if_pos q,if_pos q]; exact r.NJ k ry
 ·rw [if_neg q,if_neg q]; exact Qt r ⟨rfl,hb,ry⟩
theorem KT.keeps{H H':Hp}{kvs:List (List Key×V)}{xs:List (List Key×Addr×Value)}(r:KT H kvs xs)(ht:∀ b ys,H b=some (.tup ys)->H' b=some (.tup ys)):KT H' kvs xs :=
 Paired.UY r fun _ _ z=>⟨z.1,ht _ _ z.2.1,z.2.2⟩
section
variable {P:bM} {w:World} {H:Hp} {h:Heap} {a:Addr}
theorem SX{u:HO}(ok:pZ P w H h)(e:Rd H a u):fV P w H h a u:=e.ok ok
theorem sU{kvs:List (Key×V)}(ok:pZ P w H h)(e:Rd H a (.dK kvs)):kvs.length<=bc/\(a == da)=false/\∃ vs,KV kvs vs/\h.DictOf (cP P w) a vs :=
 show fV P w H h a (.dK kvs) from SX ok e
theorem Bz{kvs:List (Key×V)}(ok:pZ P w H h)(e:H a=some (.dK kvs)):kvs.length<=bc/\(a == da)=false/\∃ vs,KV kvs vs/\h.DictOf (cP P w) a vs:=sU ok (.inl e)
theorem vW{ks:List Key}(ok:pZ P w H h)(e:H a=some (.tup (ks.map kV))):(iG (cP P w)).is h ks a:=by
 obtain⟨_,bW,r,o,h1,h2,n,h3⟩:=(show fV P w H h a (.tup (ks.map kV)) from ok a _ e);exact⟨o,bW.toArray,n,h1,h2,h3,by simpa using Bl r⟩
theorem zv{kvs:List (List Key×V)}(ok:pZ P w H h)(e:Rd H a (.dT kvs)):kvs.length<=bc/\(a == da)=false /\
  ∃ xs,KT H kvs xs/\h.DictOfH (iG (cP P w)) a xs:=by
 obtain⟨z,y,xs,r,o,es,ep,h1,h2,h3,h4,h5⟩:=(show fV P w H h a (.dT kvs) from SX ok e);refine⟨z,y,xs,r,o,es,ep,h1,h2,h3,h4,fun x hx=>?_,h5⟩;have all:∀ {l:List (List Key×V)} {m:List (List Key×Addr×Value)},KT H l m->∀ x∈m,(iG (cP P w)).is h x.1 x.2.1:=by
  intro l m q;induction q with
  | nil=>intro x hx; exact nomatch hx
  | @cons p q ps qs hq t ih =>
   intro x hx;rcases List.mem_cons.mp hx with e | hx
   ·subst e;exact vW ok (by rw [<-hq.1]; exact hq.2.1)
   ·exact ih x hx
 exact all r x hx
theorem PJ{kvs:List (List Key×V)}(ok:pZ P w H h)(e:H a=some (.dT kvs)):kvs.length<=bc/\(a == da)=false /\
  ∃ xs,KT H kvs xs/\h.DictOfH (iG (cP P w)) a xs:=zv ok (.inl e)
end
noncomputable def zT(H:Hp)(a:Addr)(y:V)(r:Option V):Prop :=
 (∃ kvs k,Rd H a (.dK kvs)/\y=kV k/\r=lN kvs k)\/∃ kvs k b,Rd H a (.dT kvs)/\y=.ref b/\H b=some (.tup (k.map kV))/\r=lN kvs k
noncomputable def Mn(H:Hp)(a:Addr)(y v:V)(H':Hp):Prop :=
 (∃ kvs k,H a=some (.dK kvs)/\y=kV k/\kvs.length < bc/\H'=upd H a (.dK (putK kvs k v))) \/
 ∃ kvs k b,H a=some (.dT kvs)/\y=.ref b/\H b=some (.tup (k.map kV))/\kvs.length < bc/\H'=upd H a (.dT (putK kvs k v))
theorem zT.k{H:Hp}{a:Addr}{kvs:List (Key×V)}{k:Key}(e:H a=some (.dK kvs)):zT H a (kV k) (lN kvs k):=.inl ⟨kvs,k,.inl e,rfl,rfl⟩
theorem zT.t{H:Hp}{a b:Addr}{kvs:List (List Key×V)}{k:List Key}(e:H a=some (.dT kvs))(eb:H b=some (.tup (k.map kV))):zT H a (.ref b) (lN kvs k):=.inr ⟨kvs,k,b,.inl e,rfl,eb,rfl⟩
theorem Mn.k{H:Hp}{a:Addr}{kvs:List (Key×V)}{k:Key}{v:V}(e:H a=some (.dK kvs))(hl:kvs.length < bc):Mn H a (kV k) v (upd H a (.dK (putK kvs k v))):=.inl ⟨kvs,k,e,rfl,hl,rfl⟩
theorem Mn.t{H:Hp}{a b:Addr}{kvs:List (List Key×V)}{k:List Key}{v:V}(e:H a=some (.dT kvs))(eb:H b=some (.tup (k.map kV)))(hl:kvs.length < bc) :
  Mn H a (.ref b) v (upd H a (.dT (putK kvs k v))):=.inr ⟨kvs,k,b,e,rfl,eb,hl,rfl⟩
section
variable {X:Cx} {pins:List (Addr×Obj)} {σ:St} {H:Hp} {s:az} {a:Addr} {y v:V} {u r:Value} {o:Option V} {A:dD} {E:Value->az->Prop}
theorem Inv.big(I:Inv X pins σ H s):da < s.heap.objs.size:=by
 have h:bP < s.heap.objs.size:=(I.mod.glob.keeps I.bk).lt;exact Nat.lt_trans (by decide) h
theorem wj{Q:Value->az->Prop}(hu:A.units+1 < cLine)(I:Inv X pins σ H s)(g:zT H a y (some v))(ry:RelV y u)(h:∀ w' s',Inv X pins σ H s'->RelV v w'->Q w' s') :
  wpAny (model X.prog X.w) A (getItem (.ref a) u) Q E s:=by
 rcases g with ⟨kvs,k,e,ey,l⟩ | ⟨kvs,k,b,e,ey,eb,l⟩
 ·subst ey;obtain⟨z,hd,vs,rel,dd⟩:=sU I.cL e;obtain⟨w',hw,sx⟩:=wx.some_of (v:=v) (o:=MM vs k) (by rw [l]; exact rel.val k);exact wpAny_getItem_of (y7 ry) dd.mapOf hw (h w' _ (I.tok _) sx)
 ·subst ey;cases (show u=fm b from ry);obtain⟨z,hd,xs,rel,dd⟩:=zv I.cL e;obtain⟨w',hw,sx⟩:=wx.some_of (v:=v) (o:=(atKey xs k).map (·.2)) (by rw [l]; exact rel.val k);obtain⟨p,hp,sD⟩:=Option.map_eq_some_iff.mp hw;refine wpAny_getItem_heap (mB hu) (vW I.cL eb) dd hp ?_;rw [sD];exact h w' _ (I.tok _) sx
theorem XQ{Q:Value->az->Prop}(hu:A.units+1 < cLine)(I:Inv X pins σ H s)(g:zT H a y o)(ry:RelV y u)(h:∀ s',Inv X pins σ H s'->Q (.bool o.isSome) s') :
  wpAny (model X.prog X.w) A (fk .In u (.ref a)) Q E s:=by
 rcases g with ⟨kvs,k,e,ey,l⟩ | ⟨kvs,k,b,e,ey,eb,l⟩
 ·subst ey;obtain⟨z,hd,vs,rel,dd⟩:=sU I.cL e;refine wpAny_in_of (y7 ry) hd dd.mapOf ?_;rw [<-(rel.val k).oQ,<-l];exact h _ (I.tok _)
 ·subst ey;cases (show u=fm b from ry);obtain⟨z,hd,xs,rel,dd⟩:=zv I.cL e;refine wpAny_in_heap (mB hu) (vW I.cL eb) hd dd ?_;have q:=(rel.val k).oQ;rw [zX] at q;rw [<-q,<-l];exact h _ (I.tok _)
theorem Ki{Q:Value->az->Prop}(hu:A.units+1 < cLine)(I:Inv X pins σ H s)(g:zT H a y o)(ry:RelV y u)(h:∀ s',Inv X pins σ H s'->Q (.bool (!o.isSome)) s') :
  wpAny (model X.prog X.w) A (fk .NotIn u (.ref a)) Q E s:=by
 rcases g with ⟨kvs,k,e,ey,l⟩ | ⟨kvs,k,b,e,ey,eb,l⟩
 ·subst ey;obtain⟨z,hd,vs,rel,dd⟩:=sU I.cL e;refine wpAny_notIn_of (y7 ry) hd dd.mapOf ?_;rw [<-(rel.val k).oQ,<-l];exact h _ (I.tok _)
 ·subst ey;cases (show u=fm b from ry);obtain⟨z,hd,xs,rel,dd⟩:=zv I.cL e;refine wpAny_notIn_heap (mB hu) (vW I.cL eb) hd dd ?_;have q:=(rel.val k).oQ;rw [zX] at q;rw [<-q,<-l];exact h _ (I.tok _)
theorem rX{h':Heap}{t':Nat}{ob:HO}(I:Inv X pins σ H s)(mu:X6 (H a))(hs:fF a s.heap h')(he:∃ q,h'.get? a=some q)(new:fV X.prog X.w (upd H a ob) h' a ob) :
  Inv X pins σ (upd H a ob) { s with heap:=h',toks:=t' } :=
 I.write (x:=a) (e:=a) mu (.inl rfl) (fun b q hb z=>(hs.2 b hb).trans z) he new
theorem CP{P:bM}{w:World}{H':Hp}{h':Heap}{kvs:List (Key×V)}{vs:List (Key×Value)}(z:kvs.length<=bc)(hd:(a == da)=false)(rel:KV kvs vs)(dd:h'.DictOf (cP P w) a vs) :
  fV P w H' h' a (.dK kvs):=⟨z,hd,vs,rel,dd⟩
theorem L3{H':Hp}{Q:Unit->az->Prop}(hu:A.units+1 < cLine)(I:Inv X pins σ H s)(g:Mn H a y v H')(ry:RelV y u)(rv:RelV v r)(h:∀ s',Inv X pins σ H' s'->Q () s') :
  wpAny (model X.prog X.w) A (setItem (.ref a) u r) Q E s:=by
 rcases g with ⟨kvs,k,e,ey,l,eH⟩ | ⟨kvs,k,b,e,ey,eb,l,eH⟩
 ·subst ey eH;obtain⟨z,hd,vs,rel,dd⟩:=Bz I.cL e;have hz:vs.length<=bc:=by rw [<-rel.length]; exact z
  have hl:(putK kvs k v).length<=bc:=by have:=wX kvs k v; lia
  refine wpAny_setItem_pairs (hsz:=hz) (y7 ry) dd fun h' BC hs=>h _ ?_;have he:∃ q,h'.get? a=some q:=let ⟨q,_,_,hq,_⟩:=BC; ⟨q,hq⟩
  exact rX I (by rw [e]; exact fZ) hs he (CP hl hd (rel.put k rv) BC)
 ·subst ey eH;cases (show u=fm b from ry);obtain⟨z,hd,xs,rel,dd⟩:=PJ I.cL e;have hz:xs.length<=bc:=by rw [<-iu rel]; exact z
  have hl:(putK kvs k v).length<=bc:=by have:=wX kvs k v; lia
  refine wpAny_setItem_heap (hsz:=hz) (mB hu) (vW I.cL eb) dd fun h' BC hs=>h _ ?_;obtain⟨q,es,ep,hq,h2,h3,h4,_,h5⟩:=BC;refine rX I (by rw [e]; exact fZ) hs ⟨q,hq⟩ ⟨hl,hd,_,(rel.put k eb rv).keeps fun c ys ec=>?_,q,es,ep,hq,h2,h3,h4,h5⟩;rw [bQ (S7 ec e (fun z=>nomatch z))];exact ec
end
section
variable {X:Cx} {pins:List (Addr×Obj)} {σ:St} {H:Hp} {s:az} {a:Addr} {kvs:List (Key×V)} {k:Key} {u:Value} {A:dD} {E:Value->az->Prop}
theorem TM {Q:Value->az->Prop} (I:Inv X pins σ H s) (e:Rd H a (.dK kvs)) (h:∀ t s',Inv X pins σ H s'->Q (.int kvs.length t) s'):wpAny (model X.prog X.w) A (call (.builtin "len") [.ref a]) Q E s:=by
 obtain⟨z,hd,vs,rel,dd⟩:=sU I.cL e;refine call_len_dict hd dd (by rw [<-rel.length]; rw [cY] at z; lia) ?_;rw [<-rel.length];exact h _ _ (I.tok _)
theorem R9{Q:Bool->az->Prop}(I:Inv X pins σ H s)(e:Rd H a (.dK kvs))(h:∀ s',Inv X pins σ H s'->Q (!kvs.isEmpty) s'):wpAny (model X.prog X.w) A (truthy (.ref a)) Q E s:=by
 obtain⟨z,hd,vs,rel,dd⟩:=sU I.cL e;refine Gn hd dd (by rw [<-rel.length]; rw [cY] at z; lia) ?_;have q:kvs.isEmpty=vs.isEmpty:=by cases rel <;> rfl
 rw [<-q];exact h _ (I.tok _)
end
theorem qY {X:Cx} {pins:List (Addr×Obj)} {σ:St} {H:Hp} {s:az} {a:Addr} {y:V} {o:Option V} (I:Inv X pins σ H s) (g:zT H a y o):s.TypeIs (.ref a) "dict":=by
 rcases g with ⟨kvs,k,e,_,_⟩ | ⟨kvs,k,b,e,_,_,_⟩
 ·obtain⟨_,_,vs,_,dd⟩:=sU I.cL e;exact dd.typeIs
 ·obtain⟨_,_,xs,_,dd⟩:=zv I.cL e;exact dd.typeIs
theorem Fs {P:bM} {w:World} {H:Hp} (h:Heap) (hb:da < h.objs.size):fV P w H (h.push { cls:=.type "dict",data:=.dict #[] }) h.objs.size (.dK []) :=
 ⟨cC _,beq_eq_false_iff_ne.mpr (fW (bK hb)),[],.nil,Heap.DictOf.new h⟩
noncomputable def Uj:TE:=fun _ H Q=>∀ p,H p=none->Q (.ref p) (upd H p (.dK []))
section
variable {X:Cx} {pos:Pos}
theorem N5:PE X (.Dict [] [] pos) Uj:=fun pins s σ H Q I h =>
 wpAny_Dict_empty ⟨.ref s.heap.objs.size,_,I.laid (a:=s.heap.objs.size) (o:=.dK []) (t':=s.toks) (fun _ _ q=>aG _ q) (aI _) (Fs s.heap I.big),rfl,h _ (I.cL.fresh (aI _))⟩
end
noncomputable abbrev VV:List (V×V)->List (Value×Value)->Prop:=kd fun p q=>RelV p.1 q.1/\RelV p.2 q.2
noncomputable def Hu(kvs more:List (Key×V)):List (Key×V):=more.foldl (fun acc kv=>putK acc kv.1 kv.2) kvs
theorem KV.merge:∀ {more:List (Key×V)} {rs:List (Key×Value)} {kvs:List (Key×V)} {vs:List (Key×Value)},KV more rs->KV kvs vs->KV (Hu kvs more) (merged vs rs):=by
 intro more rs kvs vs r;unfold KV at r;induction r generalizing kvs vs with
 | nil=>intro q; exact q
 | @cons p q ps qs h t ih =>
  intro r0;have e:KV (putK kvs p.1 p.2) (stored vs q.1 q.2):=by
   have:=r0.put p.1 h.2;rw [<-h.1]; exact this
  exact ih e
theorem zE{P:bM}{w:World}:∀ {kvs:List (Key×V)} {ws:List (Value×Value)},VV (kvs.map fun kv=>(kV kv.1,kv.2)) ws->∃ rs,Carries (cP P w) ws rs/\KV kvs rs
 | [],_,r=>by rw [bq] at r; cases r; exact⟨[],fZ,.nil⟩
 | p :: kvs,_,r=>by
  rw [aj] at r;cases r with
  | @cons a b as bs h t =>
   obtain⟨rs,c,q⟩:=zE (P:=P) (w:=w) t;obtain⟨b1,b2⟩:=b;exact⟨(p.1,b2) :: rs,⟨y7 h.1,rfl,c⟩,.cons ⟨rfl,h.2⟩ q⟩
structure M1(X:Cx)(o:Expr)(m:Str)(apos:Pos)(e:Expr)(jJ:Pos):Prop where
 base:qa o m X.env (eval o X.env)=eval o X.env
 Az:((oy jJ (cK [e] X.env)).all (fun x=>!x.1)&&(backToKw jJ (keywordEach [] X.env)).all (fun x=>x.1.isSome)
  && decide (([e]:List Expr).length+([]:List MW).length+(if ([]:List MW).isEmpty then 0 else 1) < 30))=true
 line:(apos.endLine == jJ.line)=true
 trees:oy jJ (cK [e] X.env)=[(false,eval e X.env)]
structure M2(X:Cx)(o:Expr)(m:Str)(apos:Pos)(e f:Expr)(jJ:Pos):Prop where
 base:qa o m X.env (eval o X.env)=eval o X.env
 Az:((oy jJ (cK [e,f] X.env)).all (fun x=>!x.1)&&(backToKw jJ (keywordEach [] X.env)).all (fun x=>x.1.isSome)
  && decide (([e,f]:List Expr).length+([]:List MW).length+(if ([]:List MW).isEmpty then 0 else 1) < 30))=true
 line:(apos.endLine == jJ.line)=true
 trees:oy jJ (cK [e,f] X.env)=[(false,eval e X.env),(false,eval f X.env)]
noncomputable def IsD(H:Hp)(a:Addr):Prop:=(∃ kvs,Rd H a (.dK kvs))\/∃ kvs,Rd H a (.dT kvs)
theorem OS{X:Cx}{pins:List (Addr×Obj)}{σ:St}{H:Hp}{s:az}{a:Addr}(I:Inv X pins σ H s)(d:IsD H a) :
  s.TypeIs (.ref a) "dict"/\(∀ b,fm a=.ref b->∃ ob,s.heap.get? b=some ob/\ob.dict=none)/\(a == da)=false:=by
 rcases d with ⟨kvs,e⟩ | ⟨kvs,e⟩
 ·obtain⟨_,hd,vs,_,dd⟩:=sU I.cL e;refine⟨dd.typeIs,fun b q=>?_,hd⟩;cases q;obtain⟨ob,_,_,h1,h2,_⟩:=dd;exact⟨ob,h1,h2.2.1⟩
 ·obtain⟨_,hd,xs,_,dd⟩:=zv I.cL e;refine⟨dd.typeIs,fun b q=>?_,hd⟩;cases q;obtain⟨ob,_,_,h1,h2,_⟩:=dd;exact⟨ob,h1,h2.2.1⟩
end L2
namespace Att
open PySem PySem.W PySem.Calls PyProof.Rows
theorem xj{P:Params}{h:Heap}:∀ (ns:List Int) (vs:List Value),WellAll P h vs (ns.map WData.int)->o7 vs ns:=by
 intro ns;induction ns with
 | nil =>
  intro vs w;rw [bq] at w;cases w;exact .nil
 | cons n ns ih =>
  intro vs w;rw [aj] at w;cases w with
  | cons a b =>
   cases a;exact .cons _ _ (ih _ b)
theorem KZ{l:OpenLaw}{n:Nat}(hn:l.most=some n){P:Params}{h:Heap}{args:List WData}{vals:List Value}
  (O3:l.row.toRowW.claim.pre args=true) (hwl:WellAll P h vals args) :
  ∃ a vs ns,vals=[fm a]/\args=[WData.list (ns.map WData.int)]/\h.get? a=some { cls:=.type "list",data:=.seq vs.toArray }/\o7 vs ns/\ns.length<=n:=by
 have hsh:WShape.hasAll [] args [.list .int]=true:=(pre_splitW O3).1;have hc:l.pre.holds [] { args:=args } = true:=(pre_splitW O3).2;obtain⟨d,r,rfl,h1,h2⟩:=hasAllW_cons hsh;obtain rfl:=hasAllW_nil h2;obtain⟨xs,rfl,h3⟩:=hasW_list h1;obtain⟨ns,rfl⟩:=items_int h3;have hlen:ns.length<=n:=by
  unfold OpenLaw.pre at hc;have h4:(WTm.not (.lt (.lit (.int (n:Int))) (.len (.arg 0)))).holds [] { args:=[.list (ns.map .int)] } = true:=by
   have h4:=(holds_andW hc).1;rw [hn] at h4;exact h4
  have h5:=condW_of h4 (w_not (w_lt w_lit (w_len_list (w_arg rfl))));rw [aq] at h5;refine Nat.le_of_not_lt fun q=>?_;have q':(n:Int) < ((ns.length:Nat):Int):=by lia
  first
   | (rw [decide_eq_true q'] at h5; exact absurd h5 (by decide))
   | (simp at h5; lia)
 cases hwl with
 | cons w1 w2 =>
  cases w2;cases w1 with
  | list ho Aw=>exact⟨_,_,ns,rfl,rfl,ho,xj ns _ Aw,hlen⟩
theorem Lf(l:OpenLaw)(args:List WData):l.row.toRowW.claim.post args (.bool true) args=true :=
 postW_of (r:=l.row.toRowW) (X:=(true == true))
  (show WShape.has [] (.bool true) .bool=true by first | rfl | decide | simp [WShape.has,WShape.arms,WShape.armsAll])
  (show (WTm.eq .res (.lit (.bool true))).value [] { args:=args,res:=some (.bool true),after:=args } = some (.bool (true == true)) from w_eq_bool (w_res rfl) w_lit) rfl
theorem FK{l:OpenLaw}{n:Nat}{q:bM}{loose:List Str}{XP:(Str->Option Value)->Heap->Prop}{YP:World->Heap->Prop}{d:DefRec}
  (hn:l.most=some n) (Xy:d.params.defaults=[])
  (call:∀ (w:World) (ny fu:az) (mg mb:Str->Option Value) (fa:Addr) (o:Obj) (pm cd doc:Value) (a:Addr) (vs:List Value) (ns:List Int),
   Ground q loose [] XP w ny mg mb fu.heap->YP w fu.heap ->
   fu.heap.get? fa=some o->o.data=.func (docDef d.name d.params d.body d.scope pm cd doc)->fu.heap.CodeRec cd d.name->mg d.name=some (.ref fa) ->
   fu.heap.get? a=some { cls:=.type "list",data:=.seq vs.toArray }->o7 vs ns->ns.length<=n->fu.gens=#[] ->
   Gv (model l.prog w) Gw (.call (.ref fa) ⟨[.ref a],[]⟩) (fun r s'=>r=.ok (.ret (.bool true))/\OldK fu.heap s'.heap/\s'.os=fu.os/\BU s'.gens) fu) :
  WalkO q loose XP YP l.row.toRowW d [] (fun f vs=>IV f vs):=by
 intro w ny fu mg mb G Y fa o pm cd doc dV kV ho hd J2 hD Xp hg args vals as O3 aek hrd hwl hlo;obtain rfl:dV=.none:=Dflts.none hD Xy;obtain rfl:kV=.none:=Dflts.noKw hD;obtain⟨a,vs,ns,rfl,rfl,Vc,hints,hlen⟩:=KZ hn O3 hwl;refine enter_call (codeAny_mono (call w ny fu mg mb fa o pm cd doc a vs ns G Y ho (fd_plain hd) J2 Xp Vc hints hlen hg) fun r s' hq=>?_);obtain⟨rfl,h2,h3,h4⟩:=hq;exact⟨.inl ⟨.bool true,.bool true,[],rfl,fun _=>rfl,.bool true,Lf l _,fun _=>⟨List.Pairwise.nil,fun _ hm=>(nomatch hm)⟩⟩,h2,h3,h4⟩
end Att
namespace L2
open PySem PySem.Spec PyProof.Rows
theorem AS:∀ {vs:List Value} {ns:List Int},o7 vs ns->Vals (ns.map V.int) vs
 | _,_,.nil=>.nil
 | _,_,.cons n t h=>.cons ⟨t,rfl⟩ (AS h)
noncomputable def SG(H:Hp):Prop:=∀ b,H b=none\/∃ o xs,H b=some (.jL o (.lst xs))
theorem OD{P:bM}{w:World}{K:ai}{mg mb:Str->Option Value}{CX:Mo}{k:Nat}{fa a:Addr}{fd:aJ}{x:Str}{sp:Sp}{fu:az}{vs:List Value}{ns:List Int}
  (KX:K.In fu.heap) (QH:fu.heap.Ns bP mg) (hb:fu.heap.Ns builtinsNs mb) (hbb:∀ x:Str,x≠"__name__"->mb x=eB x) (aax:fu.heap.NoLimit) (hg:fu.gens=#[])
  (ha:fu.heap.get? a=some { cls:=.type "list",data:=.seq vs.toArray }) (hi:o7 vs ns) (hl:ns.length<=bc) (hr:mY k Gw)
  (F:∀ base:Heap,K.In base->base.Ns bP mg->gq P w K mg base CX k fa fd [x] sp) (XB:∀ (s:az) (u:Value),MY s fd ⟨[u],[]⟩ [(x,u)])
  (Ts:∀ H:Hp,SG H->rz K H a (ns.map V.int)->sp [.ref a] H (fun v _=>v=.bl true) fun _ _ _=>False)
  (hCX:∀ H e s',CX [] H fu (fun _ _ _=>False) e s'->False) :
  Gv (model P w) Gw (.call (.ref fa) ⟨[.ref a],[]⟩) (fun r s'=>r=.ok (.ret (.bool true))/\OldK fu.heap s'.heap/\s'.os=fu.os/\BU s'.gens) fu:=by
 have rv:=AS hi;have ZW:=hi.length;have core:∀ H:Hp,SG H->rz K H a (ns.map V.int)->pZ P w H fu.heap->(∀ b,H b≠none->b=a)->(H a≠none->K.lookup a=none) ->
   Gv (model P w) Gw (.call (.ref fa) ⟨[.ref a],[]⟩) (fun r s'=>r=.ok (.ret (.bool true))/\OldK fu.heap s'.heap/\s'.os=fu.os/\BU s'.gens) fu:=by
  intro H hO hS cL hA hK;have Kq:∀ {b:Addr} {o:Obj},fu.heap.get? b=some o->H b=none->(Cv fu.heap H).get? b=some o:=fun e n=>O6 e n;have W0:∀ {b:Addr} {o:Obj} {es:Array ft} {ep:Nat},fu.heap.get? b=some o->o.data=.dict es ep->H b=none:=fun {b o es ep} e d=>by
   cases q:H b with
   | none=>rfl
   | some u =>
    have e':b=a:=hA b (by rw [q]; simp);subst e';rw [ha] at e; cases e;have d':Data.seq vs.toArray _=Data.dict es ep:=d;cases d'
  have Yo:∀ {b:Addr} {m:Str->Option Value},fu.heap.Ns b m->(Cv fu.heap H).Ns b m:=fun {b m} ⟨o,es,ep,e,d,r⟩=>⟨o,es,ep,Kq e (W0 e d),d,r⟩;have hKb:K.In (Cv fu.heap H):=fun b o e=>Kq (KX b o e) (by
   cases q:H b with
   | none=>rfl
   | some u =>
    have e':b=a:=hA b (by rw [q]; simp);subst e';rw [hK (by rw [q]; simp)] at e; cases e)
  have hM:Mod K mg (Cv fu.heap H):=⟨hKb,Yo QH,⟨mb,Yo hb,hbb⟩,let ⟨mc,h1,h2⟩:=aax; ⟨mc,Yo h1,h2⟩⟩;have e0:SH P w K mg (Cv fu.heap H) Gw [] fu H:=⟨rfl,hM,fun b o e=>RJ e,Nat.le_of_eq (LL _ _),trivial,fun b hb=>absurd (show b∈([]:List Addr) from hb) (by simp),cL,.of_eq hg⟩;refine codeAny_mono ((F _ hKb (Yo QH)).run Gw [] fu H ⟨[.ref a],[]⟩ [.ref a] [.ref a] _ _ hr e0 (XB fu (.ref a)) (.cons rfl .nil) (Ts H hO hS)) fun r s' h=>?_;cases r with
  | error e=>exact(hCX H e s' h).elim
  | ok fl =>
   cases fl with
   | next=>exact bS h
   | brk=>exact bS h
   | cont=>exact bS h
   | ret u =>
    obtain⟨v,H',os,bare,un,aaq,r',q⟩:=h;have q':v=.bl true:=q;subst q';obtain rfl:u=Value.bool true:=r';refine⟨rfl,OldK.of_keep fun b o e=>?_,os,bare⟩;cases q:H b with
    | none=>exact un.keep b o e q (by intro z; exact absurd (show b∈([]:List Addr) from z) (by simp)) (by simp)
    | some u =>
     rcases hO b with z | ⟨ob,xs,z⟩
     ·rw [q] at z; cases z
     ·have z2:=un.zg b ob _ z;obtain⟨e1,_⟩:=cL b _ z;obtain⟨e2,_⟩:=aaq b _ z2;rw [e] at e1; cases e1;exact e2
 cases hk:K.lookup a with
 | some o =>
  have e:=KX a o hk;rw [ha] at e;cases e;refine core (fun _=>none) (fun _=>.inl rfl) (.inr ⟨_,vs.toArray,_,hk,rfl,rfl,rfl,by rw [aY,ZW]; exact hl,by simpa using rv⟩) (fun b u z=>by have z':(none:Option HO)=some u:=z; cases z') (fun b z=>absurd rfl z) fun z=>absurd rfl z
 | none =>
  refine core (fun b=>if b=a then some (.jL { cls:=.type "list",data:=.seq vs.toArray } (.lst (ns.map V.int))) else none) (fun b=>?_) (.inl (.inr ⟨{ cls:=.type "list",data:=.seq vs.toArray },if_pos rfl⟩)) (fun b u z=>?_) (fun b z=>?_) fun _=>hk
  ·by_cases hb:b=a
   ·exact .inr ⟨_,_,if_pos hb⟩
   ·exact .inl (if_neg hb)
  ·by_cases hb:b=a
   ·have z':=(if_pos hb).symm.trans z;cases z';subst hb;exact⟨ha,by rw [aq]; exact hl,vs,_,rv,ha⟩
   ·have z':=(if_neg hb).symm.trans z;cases z'
  ·by_cases hb:b=a
   ·exact hb
   ·exact absurd (if_neg hb) z
theorem QX{l:BQ}{n k:Nat}{q:bM}{loose:List Str}{XP:(Str->Option Value)->Heap->Prop}{YP:World->Heap->Prop}{d:DefRec}{K:Params->ai}{CX:World->Mo}{sp:World->Sp}{x:Str}
  (hn:l.most=some n) (hn2:n<=bc) (Xy:d.params.defaults=[]) (hr:mY k Gw)
  (hY:∀ (w:World) (h:Heap),YP w h->(K w.params).In h)
  (F:∀ (w:World) (mg:Str->Option Value) (fa:Addr) (h:Heap),(K w.params).In h->h.Ns bP mg->mg d.name=some (.ref fa) ->
   ∃ fd:aJ,(∀ (s:az) (u:Value),MY s fd ⟨[u],[]⟩ [(x,u)]) /\
    ∀ base:Heap,(K w.params).In base->base.Ns bP mg->gq l.prog w (K w.params) mg base (CX w) k fa fd [x] (sp w))
  (Ts:∀ (w:World) (H:Hp) (a:Addr) (ns:List Int),ns.length<=n->SG H->rz (K w.params) H a (ns.map V.int)->sp w [.ref a] H (fun v _=>v=.bl true) fun _ _ _=>False)
  (hCX:∀ (w:World) (H:Hp) (s:az) (e:Value) (s':az),CX w [] H s (fun _ _ _=>False) e s'->False) :
  PySem.W.WalkO q loose XP YP l.row.toRowW d [] (fun f vs=>IV f vs):=by
 refine Att.FK hn Xy fun w ny fu mg mb fa o pm cd doc a vs ns G Y ho hd J2 Xp Vc hints hlen hg=>?_;have KX:=hY w _ Y;obtain⟨fd,hb,hF⟩:=F w mg fa _ KX G.T.g Xp;exact OD KX G.T.g G.T.b G.T.builtins G.T.nolimit hg Vc hints (bu hlen hn2) hr hF hb (fun H hO hS=>Ts w H a ns hlen hO hS) fun H e s'=>hCX w H fu e s'
end L2
/- THE af6 YK (shape; LID,My.* are abm):
   My.Adr: a structure of Y7 addresses acX acS abR names (classes,V6); My.Txt K t: a structure (Prop) of Y7 equations over K;
   My.Y6:{K} {implicit addresses ..} (e1:nsIn K bP "law" = some (some (.ref f))) (e2:K.lookup f=some ⟨oc,od,.func (fnOf "law" "law" params body scope dV kV doc pm an oZ ct),sl⟩) (e3:codeIn K oZ "law" = true) ..:∃ t,My.Txt K t
(Y7 tactic k_is has no namespace: write k_is) -/
namespace L2
open PySem PySem.Spec PyProof.Rows
noncomputable def nM(s:Stmt):Arguments:=match s with
 | .FunctionDef _ a _ _ _ _ _ _ _ _=>a
 | _=>{ posonlyargs:=[],args:=[],vararg:=none,kwonlyargs:=[],kw_defaults:=[],kwarg:=none,defaults:=[] }
noncomputable def j6(s:Stmt):List Stmt:=match s with
 | .FunctionDef _ _ b _ _ _ _ _ _ _=>b
 | _=>[]
noncomputable def bo(s:Stmt):Scope:=match s with
 | .FunctionDef _ _ _ _ _ _ sc _ _ _=>sc
 | _=>{ kind:=.function,names:=[],isGenerator:=false,isCoroutine:=false }
noncomputable abbrev gu:Mo:=fun _ _ _ _ _ _=>False
noncomputable abbrev E0:XK:=fun _ _ _=>False
theorem WJ{X:Cx}:Passes gu X E0:=fun _ _ _ _ _ _ _ h=>h.elim
structure o3(K:ai)(x qual:Str)(st:Stmt)(f:Addr)(fd:aJ):Prop where
 ex:∃ (oc:Value) (od:Option Addr) (kV doc pm:Value) (an:Option Addr) (oZ ct:Value) (Od:Array (Option Value)),
  fd=j9 x qual (nM st) (j6 st) (bo st) .none kV doc pm an oZ ct/\K.lookup f=some ⟨oc,od,.func fd,Od⟩/\DF K oZ qual=true
 kp:lE K (.ref f)=true
section
variable {P:bM} {w:World} {K:ai} {mg:Str->Option Value} {base:Heap}
theorem o3.ok{x qual:Str}{st:Stmt}{f:Addr}{fd:aJ}{N ps:List Str}{k:Nat}{sp:Sp}(F:o3 K x qual st f fd)(S:cF N ps (bo st))(len:∀ vs H Q E,sp vs H Q E->vs.length=ps.length)
  (Pa:∀ (oZ:Value) (A:dD) (outer:List Env) (s:az) (H:Hp) (vs:List V) (Q:VK) (E:XK),mY k (A.deeper (DE qual (bo st) s.heap.objs.size f oZ))->sp vs H Q E ->
   ∃ t,Wb (FC gu P w K mg base N qual (bo st) f oZ A outer s H E).VY (j6 st) t/\t { nx:=fun _ H'=>Q .eU H',rt:=Q } (start N vs) H):gq P w K mg base gu (k+1) f fd ps sp:=by
 obtain⟨oc,od,kV,doc,pm,an,oZ,ct,Od,rfl,lk,J2⟩:=F.ex;refine XI lk J2 S len fun A outer s H vs Q E hr Ts=>?_;obtain⟨t,h,q⟩:=Pa oZ A outer s H vs Q E hr Ts;exact⟨t,h.VY,q⟩
theorem o3.binds{x qual:Str}{st:Stmt}{f:Addr}{fd:aJ}{ps:List Str}(F:o3 K x qual st f fd)
  (h:∀ (kV doc pm:Value) (an:Option Addr) (oZ ct:Value) (us:List Value),us.length=ps.length->bindArgs (j9 x qual (nM st) (j6 st) (bo st) .none kV doc pm an oZ ct) ⟨us,[]⟩=pure (ps.zip us)):Binds K fd ps []:=by
 obtain⟨oc,od,kV,doc,pm,an,oZ,ct,Od,rfl,lk,J2⟩:=F.ex;exact .all (h kV doc pm an oZ ct)
theorem Vp{x qual:Str}{st:Stmt}{f:Addr}{oc:Value}{od an:Option Addr}{Od:Array (Option Value)}{kV doc pm oZ ct:Value}(l:K.lookup f=some ⟨oc,od,.func (j9 x qual (nM st) (j6 st) (bo st) .none kV doc pm an oZ ct),Od⟩)
  (c:DF K oZ qual=true) (k:lE K (.ref f)=true):o3 K x qual st f (j9 x qual (nM st) (j6 st) (bo st) .none kV doc pm an oZ ct):=⟨⟨oc,od,kV,doc,pm,an,oZ,ct,Od,rfl,l,c⟩,k⟩
end
end L2
set_option autoImplicit false
section
namespace K2
open PySem (Str)
noncomputable abbrev PK:=List (List (List Int))
inductive D where
 | eU | bl (b:Bool) | int (i:Int) | str (x:Str) | tup (ds:List D) | dP (ds:List D) | kJ (kvs:List (D×D)) | ref (a:Nat) | exc (c:Str) | Gj (c:Str) (ns:List Str) (ds:List D) | oX (kvs:List (PK×D))
 deriving Inhabited
inductive GO where
 | lst (ds:List D)
 | gP (kvs:List (D×D))
 | ins (c:Str) (fs:List (Str×D))
 | sE (kvs:List (PK×D))
noncomputable abbrev Gp:=Nat->Option GO
noncomputable def dO(G:Gp)(a:Nat)(o:GO):Gp:=fun b=>if b=a then some o else G b
theorem aA{G:Gp}{a:Nat}{o:GO}:dO G a o a=some o:=by unfold dO; rw [if_pos rfl]
theorem cT{G:Gp}{a b:Nat}{o:GO}(h:b≠a):dO G a o b=G b:=by unfold dO; rw [if_neg h]
noncomputable abbrev SZ:Nat:=16777216
structure Ex where
 cls:Str
 aeW:List (Str×D)
noncomputable abbrev lX:=Ex->Gp->Prop
noncomputable abbrev ik:=List (Option D)
noncomputable abbrev DK:=D->Gp->Prop
noncomputable abbrev fY:=lX->ik->Gp->DK->Prop
noncomputable abbrev w9:=lX->ik->Gp->(Bool->Gp->Prop)->Prop
noncomputable abbrev IH:=lX->ik->Gp->(List D->Gp->Prop)->Prop
structure lH where
 nx:ik->Gp->Prop
 rt:DK
 bk:ik->Gp->Prop
 ct:ik->Gp->Prop
noncomputable abbrev iF:=lX->lH->ik->Gp->Prop
noncomputable abbrev nQ:=List D->Gp->DK->lX->Prop
noncomputable abbrev AK:=D->D->Gp->DK->Prop
noncomputable def Gh(n:Nat)(i:Int):Option Nat:=if 0<=i then (if i < n then some i.toNat else none) else if -(n:Int)<=i then some (i+n).toNat else none
noncomputable def ua{α:Type}(xs:List α)(i:Int):Option α:=(Gh xs.length i).bind fun j=>xs[j]?
noncomputable def jr(n d:Nat):Option Int->Nat
 | none=>d
 | some v=>if v < 0 then (v+(n:Int)).toNat else min v.toNat n
noncomputable def cut{α:Type}(xs:List α)(lo hi:Option Int):List α:=(xs.drop (jr xs.length 0 lo)).take (jr xs.length xs.length hi - jr xs.length 0 lo)
mutual
noncomputable def iM:D->D->Bool
 | .eU,.eU=>true
 | .bl a,.bl b=>a == b
 | .bl a,.int b=>(if a then 1 else 0) == b
 | .int a,.bl b=>a == (if b then 1 else 0)
 | .int a,.int b=>a == b
 | .str a,.str b=>a == b
 | .tup a,.tup b=>kX a b
 | .dP a,.dP b=>kX a b
 | _,_=>false
noncomputable def kX:List D->List D->Bool
 | [],[]=>true
 | a :: r,b :: t=>iM a b&&kX r t
 | _,_=>false
end
mutual
noncomputable def nr:D->Bool
 | .ref _=>false
 | .exc _=>false
 | .Gj _ _ _=>false
 | .kJ _=>false
 | .oX _=>false
 | .str x=>x.cps.all (· < 0x110000)
 | .tup ds=>qR ds
 | .dP ds=>qR ds
 | _=>true
noncomputable def qR:List D->Bool
 | []=>true
 | d :: r=>nr d&&qR r
end
class inductive Sn (G:Gp):Nat->D->D->Prop
 | eU {n:Nat}:Sn G n .eU .eU
 | bl {n:Nat} (b:Bool):Sn G n (.bl b) (.bl b)
 | int {n:Nat} (i:Int):Sn G n (.int i) (.int i)
 | str {n:Nat} (x:Str) (h:x.cps.all (· < 0x110000)=true):Sn G n (.str x) (.str x)
 | GN {n:Nat}:Sn G (n+1) (.tup []) (.tup [])
 | qB {n:Nat} {d s:D} {ds ss:List D}:Sn G n d s->Sn G (n+1) (.tup ds) (.tup ss)->Sn G (n+1) (.tup (d :: ds)) (.tup (s :: ss))
 | K6 {n:Nat}:Sn G (n+1) (.dP []) (.dP [])
 | A4 {n:Nat} {d s:D} {ds ss:List D}:Sn G n d s->Sn G (n+1) (.dP ds) (.dP ss)->Sn G (n+1) (.dP (d :: ds)) (.dP (s :: ss))
 | ref {n:Nat} {a:Nat} {ds ss:List D}:G a=some (.lst ds)->Sn G n (.dP ds) (.dP ss)->Sn G n (.ref a) (.dP ss)
noncomputable abbrev SN:Nat:=8
theorem Sn.nr{G:Gp}{n:Nat}{d t:D}(h:Sn G n d t):K2.nr t=true:=by
 induction h with
 | eU=>rfl
 | bl b=>rfl
 | int i=>rfl
 | str x h=>exact h
 | GN=>rfl
 | qB _ _ OX OW =>
  show (K2.nr _&&K2.qR _)=true;rw [OX];exact OW
 | K6=>rfl
 | A4 _ _ OX OW =>
  show (K2.nr _&&K2.qR _)=true;rw [OX];exact OW
 | ref _ _ ih=>exact ih
noncomputable def pP(k:PK):D:=.tup (k.map fun r=>.tup (r.map fun t=>.tup (t.map D.int)))
noncomputable def eK:D->Bool
 | .int _=>true
 | .str _=>true
 | _=>false
noncomputable def Ge:D->Gp->Option Bool
 | .eU,_=>some false
 | .bl b,_=>some b
 | .int i,_=>some (i != 0)
 | .str x,_=>if x.length<=SZ then some ((x.length:Int) != 0) else none
 | .tup ds,_=>some (!ds.isEmpty)
 | .dP ds,_=>some (!ds.isEmpty)
 | .exc _,_=>none
 | .Gj _ _ _,_=>none
 | .oX _,_=>none
 | .kJ kvs,_=>if (kvs.all fun p=>eK p.1)=true then some (!kvs.isEmpty) else none
 | .ref a,G=>match G a with
  | some (.lst ds)=>some (!ds.isEmpty)
  | some (.gP kvs)=>if (kvs.all fun p=>eK p.1)=true then some (!kvs.isEmpty) else none
  | _=>none
noncomputable def ax(i:Nat):fY:=fun _ τ G Q=>match τ[i]? with
 | some (some d)=>Q d G
 | _=>False
noncomputable def dC(d:D):fY:=fun _ _ G Q=>Q d G
noncomputable def a8:IH:=fun _ _ G Q=>Q [] G
noncomputable def av(a:fY)(r:IH):IH:=fun E τ G Q=>a E τ G fun x G1=>r E τ G1 fun xs G2=>Q (x :: xs) G2
noncomputable def gQ(t:IH):fY:=fun E τ G Q=>t E τ G fun ds G1=>ds.length<=SZ/\Q (.tup ds) G1
noncomputable def gR(t:IH):fY:=fun E τ G Q=>t E τ G fun ds G1=>ds.length<=SZ/\∀ p,G1 p=none->Q (.ref p) (dO G1 p (.lst ds))
noncomputable def bD(r:AK)(a b:fY):fY:=fun E τ G Q=>a E τ G fun x G1=>b E τ G1 fun y G2=>r x y G2 Q
noncomputable def QJ(r:D->Gp->DK->Prop)(a:fY):fY:=fun E τ G Q=>a E τ G fun x G1=>r x G1 Q
noncomputable def gL(G:Gp)(o:GO)(Q:DK):Prop:=∀ p,G p=none->Q (.ref p) (dO G p o)
noncomputable def MulOk(i j:Int):Prop:=(-(2 ^ 64) < i/\i < 2 ^ 64)\/(-(2 ^ 64) < j/\j < 2 ^ 64)
noncomputable def pQ:D->Gp->Option (List D)
 | .dP ds,_=>some ds
 | .ref a,G=>match G a with
  | some (.lst ds)=>some ds
  | _=>none
 | _,_=>none
noncomputable def IG(x y:D)(G:Gp)(Q:DK):Prop:=match pQ x G,pQ y G with
 | some xs,some ys=>xs.length+ys.length<=SZ/\gL G (.lst (xs++ys)) Q
 | _,_=>False
noncomputable def i7:AK
 | .int i,.int j,G,Q=>Q (.int (i+j)) G
 | .str a,.str b,G,Q=>a.length+b.length<=SZ/\Q (.str (a++b)) G
 | .tup a,.tup b,G,Q=>a≠[]/\a.length+b.length<=SZ/\Q (.tup (a++b)) G
 | x,y,G,Q=>IG x y G Q
noncomputable def Hd:AK
 | .int i,.int j,G,Q=>Q (.int (i - j)) G
 | _,_,_,_=>False
noncomputable def sA:AK
 | .int i,.int j,G,Q=>MulOk i j/\Q (.int (i * j)) G
 | _,_,_,_=>False
noncomputable def uD:AK
 | .int i,.int j,G,Q=>0 < j/\Q (.int (i % j)) G
 | _,_,_,_=>False
noncomputable def Ek:AK
 | .int i,.int j,G,Q=>0 < j/\j < 2 ^ 30/\Q (.int (i / j)) G
 | _,_,_,_=>False
noncomputable def NN:D->Gp->DK->Prop
 | .int i,G,Q=>Q (.int (-i)) G
 | _,_,_=>False
noncomputable def K9(neg:Bool):AK:=fun x y G Q=>∃ a b,Sn G SN x a/\Sn G SN y b/\Q (.bl (if neg then !iM a b else iM a b)) G
noncomputable def lexLt:List Int->List Int->Bool
 | [],[]=>false
 | [],_ :: _=>true
 | _ :: _,[]=>false
 | x :: xs,y :: ys=>if x=y then lexLt xs ys else decide (x < y)
noncomputable def Yj:AK
 | .int i,.int j,G,Q=>Q (.bl (decide (i < j))) G
 | .tup a,.tup b,G,Q=>∃ xs ys,a=xs.map D.int/\b=ys.map D.int/\Q (.bl (lexLt xs ys)) G
 | _,_,_,_=>False
noncomputable def rLe:AK
 | .int i,.int j,G,Q=>Q (.bl (decide (i<=j))) G
 | _,_,_,_=>False
noncomputable def rGt:AK
 | .int i,.int j,G,Q=>Q (.bl (decide (i > j))) G
 | _,_,_,_=>False
noncomputable def rGe:AK
 | .int i,.int j,G,Q=>Q (.bl (decide (i>=j))) G
 | _,_,_,_=>False
noncomputable def itemsOf:D->Gp->Option (List D)
 | .tup ds,_=>some ds
 | .dP ds,_=>some ds
 | .ref a,G=>match G a with
  | some (.lst ds)=>some ds
  | _=>none
 | _,_=>none
noncomputable def kC:D->Bool
 | .tup ds=>ds.all eK
 | _=>false
noncomputable def gZ(kvs:List (D×D))(k:D):Bool:=(eK k&&kvs.all fun p=>eK p.1)||(kC k&&kvs.all fun p=>kC p.1)
noncomputable def look(kvs:List (D×D))(k:D):Option D:=(kvs.find? fun p=>iM p.1 k).map (·.2)
noncomputable def put(kvs:List (D×D))(k v:D):List (D×D) :=
 if (kvs.any fun p=>iM p.1 k)=true then kvs.map (fun p=>if iM p.1 k=true then (p.1,v) else p) else kvs++[(k,v)]
noncomputable def Rf(neg:Bool):AK:=fun x y G Q=>match y with
 | .ref a=>(match G a with
  | some (.gP kvs)=>gZ kvs x=true/\Q (.bl (if neg then !(look kvs x).isSome else (look kvs x).isSome)) G
  | some (.lst ds)=>∃ s ss,Sn G SN x s/\Sn G SN (.dP ds) (.dP ss)/\Q (.bl (if neg then !ss.any (iM · s) else ss.any (iM · s))) G
  | _=>False)
 | .kJ kvs=>kvs≠[]/\gZ kvs x=true/\Q (.bl (if neg then !(look kvs x).isSome else (look kvs x).isSome)) G
 | .tup ds=>∃ s ss,Sn G SN x s/\Sn G SN (.dP ds) (.dP ss)/\Q (.bl (if neg then !ss.any (iM · s) else ss.any (iM · s))) G
 | .dP ds=>∃ s ss,Sn G SN x s/\Sn G SN (.dP ds) (.dP ss)/\Q (.bl (if neg then !ss.any (iM · s) else ss.any (iM · s))) G
 | _=>False
noncomputable def mf:AK
 | .tup ds,.int i,G,Q=>(match ua ds i with
  | some d=>Q d G
  | none=>False)
 | .dP ds,.int i,G,Q=>(match ua ds i with
  | some d=>Q d G
  | none=>False)
 | .kJ kvs,k,G,Q=>gZ kvs k=true/\(match look kvs k with
  | some d=>Q d G
  | none=>False)
 | .ref a,k,G,Q=>(match G a with
  | some (.lst ds)=>(match k with
   | .int i=>(match ua ds i with
    | some d=>Q d G
    | none=>False)
   | _=>False)
  | some (.gP kvs)=>gZ kvs k=true/\(match look kvs k with
   | some d=>Q d G
   | none=>False)
  | _=>False)
 | _,_,_,_=>False
noncomputable abbrev X4:=lX->ik->Gp->(Option Int->Gp->Prop)->Prop
noncomputable def gm:X4:=fun _ _ G Q=>Q none G
noncomputable def pY(t:fY):X4:=fun E τ G Q=>t E τ G fun x G1=>match x with
 | .int i=>Q (some i) G1
 | _=>False
noncomputable def UA:D->Option Int->Option Int->Gp->DK->Prop
 | .tup ds,lo,hi,G,Q=>¬ (jr ds.length 0 lo=0/\jr ds.length ds.length hi=ds.length)/\Q (.tup (cut ds lo hi)) G
 | .dP ds,lo,hi,G,Q=>gL G (.lst (cut ds lo hi)) Q
 | .ref a,lo,hi,G,Q=>(match G a with
  | some (.lst ds)=>gL G (.lst (cut ds lo hi)) Q
  | _=>False)
 | _,_,_,_,_=>False
noncomputable def CW(a:fY)(lo hi:X4):fY:=fun E τ G Q=>a E τ G fun x G1=>lo E τ G1 fun l G2=>hi E τ G2 fun h G3=>UA x l h G3 Q
noncomputable def kE(a:fY):w9:=fun E τ G Q=>a E τ G fun x G1=>match Ge x G1 with
 | some b=>Q b G1
 | none=>False
noncomputable def Sb(a b:w9):w9:=fun E τ G Q=>a E τ G fun c G1=>if c=true then b E τ G1 Q else Q false G1
noncomputable def PT(a b:w9):w9:=fun E τ G Q=>a E τ G fun c G1=>if c=true then Q true G1 else b E τ G1 Q
noncomputable def tQ(a:w9):w9:=fun E τ G Q=>a E τ G fun c G1=>Q (!c) G1
noncomputable def Kk(a b:fY):fY:=fun E τ G Q=>a E τ G fun x G1=>match Ge x G1 with
 | some true=>b E τ G1 Q
 | some false=>Q x G1
 | none=>False
noncomputable def XR(a b:fY):fY:=fun E τ G Q=>a E τ G fun x G1=>match Ge x G1 with
 | some true=>Q x G1
 | some false=>b E τ G1 Q
 | none=>False
noncomputable def PU(a:fY):fY:=fun E τ G Q=>a E τ G fun x G1=>match Ge x G1 with
 | some c=>Q (.bl (!c)) G1
 | none=>False
noncomputable def dIf(c:w9)(a b:fY):fY:=fun E τ G Q=>c E τ G fun k G1=>if k=true then a E τ G1 Q else b E τ G1 Q
noncomputable def bH(sp:nQ)(t:IH):fY:=fun E τ G Q=>t E τ G fun ds G1=>sp ds G1 Q fun _ _=>False
noncomputable def wm(r:List D->Gp->DK->Prop)(t:IH):fY:=fun E τ G Q=>t E τ G fun ds G1=>r ds G1 Q
noncomputable def Gd(x:D)(G:Gp):Prop:=match x with
 | .ref a=>(match G a with
  | some (.lst _)=>True
  | _=>False)
 | .dP _=>True
 | _=>False
noncomputable def Q0(x:D)(G:Gp):Prop:=match x with
 | .kJ _=>True
 | .ref a=>(match G a with
  | some (.gP _)=>True
  | _=>False)
 | _=>False
noncomputable def tyS(x:D)(_:Gp):Prop:=match x with
 | .str _=>True
 | _=>False
noncomputable def t8(ty:D->Gp->Prop)(r:D->List D->Gp->DK->Prop)(o:fY)(t:IH):fY:=fun E τ G Q=>o E τ G fun x G1=>ty x G1/\t E τ G1 fun ds G2=>r x ds G2 Q
noncomputable def lenOf:D->Gp->Option Nat
 | .tup ds,_=>some ds.length
 | .dP ds,_=>some ds.length
 | .str x,_=>if x.length<=SZ then some x.length else none
 | .kJ kvs,_=>if (kvs.all fun p=>eK p.1)=true then some kvs.length else none
 | .ref a,G=>match G a with
  | some (.lst ds)=>some ds.length
  | some (.gP kvs)=>if (kvs.all fun p=>eK p.1)=true then some kvs.length else none
  | _=>none
 | _,_=>none
noncomputable def xm(ds:List D)(G:Gp)(Q:DK):Prop:=match ds with
 | [x]=>(match lenOf x G with
  | some n=>Q (.int (n:Int)) G
  | none=>False)
 | _=>False
noncomputable def w8(ds:List D)(G:Gp)(Q:DK):Prop:=match ds with
 | [x]=>(match itemsOf x G with
  | some xs=>gL G (.lst xs) Q
  | none=>False)
 | _=>False
noncomputable def Tp(C:String):D->Gp->Option Bool
 | .eU,_=>some false
 | .bl _,_=>some (C == "bool" || C == "int")
 | .int _,_=>some (C == "int")
 | .str _,_=>some (C == "str")
 | .tup _,_=>some (C == "tuple")
 | .dP _,_=>some (C == "list")
 | .kJ _,_=>some (C == "dict")
 | .exc _,_=>none
 | .Gj _ _ _,_=>none
 | .oX _,_=>none
 | .ref a,G=>match G a with
  | some (.lst _)=>some (C == "list")
  | some (.gP _)=>some (C == "dict")
  | _=>none
noncomputable def PW(C:String)(a:fY):fY:=fun E τ G Q=>a E τ G fun x G1=>match Tp C x G1 with
 | some b=>Q (.bl b) G1
 | none=>False
noncomputable def lR(x:D)(ds:List D)(G:Gp)(Q:DK):Prop:=match x,ds with
 | .ref a,[d]=>(match G a with
  | some (.lst xs)=>xs.length < SZ/\Q .eU (dO G a (.lst (xs++[d])))
  | _=>False)
 | _,_=>False
noncomputable def xM(x:D)(ds:List D)(G:Gp)(Q:DK):Prop:=match x,ds with
 | .ref a,[y]=>(match G a,pQ y G with
  | some (.lst xs),some ys=>xs.length+ys.length<=SZ/\Q .eU (dO G a (.lst (xs++ys)))
  | _,_=>False)
 | _,_=>False
noncomputable def RO(x:D)(ds:List D)(G:Gp)(Q:DK):Prop:=match x,ds with
 | .ref a,[.int i,d]=>(match G a with
  | some (.lst xs)=>0<=i/\i<=xs.length/\xs.length < SZ/\Q .eU (dO G a (.lst (xs.take i.toNat++d :: xs.drop i.toNat)))
  | _=>False)
 | _,_=>False
noncomputable def EK(x:D)(ds:List D)(G:Gp)(Q:DK):Prop:=match x,ds with
 | .ref a,[k,d]=>(match G a with
  | some (.gP kvs)=>gZ kvs k=true/\eK k=true/\(match look kvs k with
   | some v=>Q v G
   | none=>kvs.length < SZ/\Q d (dO G a (.gP (put kvs k d))))
  | _=>False)
 | _,_=>False
noncomputable def gK:iF:=fun _ K τ G=>K.nx τ G
noncomputable def cG(a b:iF):iF:=fun E K τ G=>a E { K with nx:=b E K } τ G
noncomputable def jj(a:fY):iF:=fun E K τ G=>a E τ G fun _ G1=>K.nx τ G1
noncomputable def c7(a:fY):iF:=fun E K τ G=>a E τ G K.rt
noncomputable def Kj:iF:=fun _ K _ G=>K.rt .eU G
noncomputable def kZ(c:w9)(a b:iF):iF:=fun E K τ G=>c E τ G fun k G1=>if k=true then a E K τ G1 else b E K τ G1
noncomputable def PV:iF:=fun _ _ _ _=>False
noncomputable abbrev Aa:=lX->D->ik->Gp->(ik->Gp->Prop)->Prop
noncomputable abbrev Df:=lX->List D->ik->Gp->(ik->Gp->Prop)->Prop
noncomputable def aN(i:Nat):Aa:=fun _ d τ G Q=>Q (τ.set i (some d)) G
noncomputable def jA:Df:=fun _ ds τ G Q=>match ds with
 | []=>Q τ G
 | _=>False
noncomputable def dJ(t:Aa)(r:Df):Df:=fun E ds τ G Q=>match ds with
 | d :: ds=>t E d τ G fun o8 G1=>r E ds o8 G1 Q
 | _=>False
noncomputable def jI(t:Df):Aa:=fun E d τ G Q=>match d with
 | .tup ds=>t E ds τ G Q
 | _=>False
noncomputable def wD(o k d:D)(G:Gp)(Q:Gp->Prop):Prop:=match o with
 | .ref a=>(match G a with
  | some (.lst xs)=>(match k with
   | .int i=>(match Gh xs.length i with
    | some j=>Q (dO G a (.lst (xs.set j d)))
    | none=>False)
   | _=>False)
  | some (.gP kvs)=>gZ kvs k=true/\kvs.length < SZ/\Q (dO G a (.gP (put kvs k d)))
  | _=>False)
 | _=>False
noncomputable def kW(o k:fY):Aa:=fun E d τ G Q=>o E τ G fun x G1=>k E τ G1 fun y G2=>wD x y d G2 fun G3=>Q τ G3
noncomputable def bL(a:fY)(g:Aa):iF:=fun E K τ G=>a E τ G fun x G1=>g E x τ G1 K.nx
noncomputable abbrev MF:=lX->ik->Gp->(List D->(Gp->Prop)->Gp->Prop)->Prop
noncomputable def mR(a:fY):MF:=fun E τ G R=>a E τ G fun x G1=>match x with
 | .tup ds=>R ds (fun _=>True) G1
 | .dP ds=>R ds (fun _=>True) G1
 | .ref p=>(match G1 p with
  | some (.lst ds)=>R ds (fun G2=>G2 p=some (.lst ds)) G1
  | _=>False)
 | _=>False
noncomputable def gH(lo:Int)(n:Nat):List D:=(fK n).map fun (i:Nat)=>D.int (lo+(i:Int))
noncomputable def y9(a:fY):MF:=fun E τ G R=>a E τ G fun x G1=>match x with
 | .int n=>-(2 ^ 62)<=n/\n < 2 ^ 62/\R (gH 0 n.toNat) (fun _=>True) G1
 | _=>False
noncomputable def pW(g:Aa)(body:iF)(ok:Gp->Prop):List D->iF
 | []=>fun _ K τ G=>ok G/\K.nx τ G
 | d :: r=>fun E K τ G=>ok G/\g E d τ G fun o8 G1=>body E { K with nx:=pW g body ok r E K,ct:=pW g body ok r E K,bk:=K.nx } o8 G1
noncomputable def fb(i:MF)(g:Aa)(body:iF):iF:=fun E K τ G=>i E τ G fun ds ok G1=>pW g body ok ds E K τ G1
noncomputable def DO(c:w9)(body:iF):Nat->iF
 | 0=>fun _ _ _ _=>False
 | n+1=>fun E K τ G=>c E τ G fun k G1=>if k=true then body E { K with nx:=DO c body n E K,ct:=DO c body n E K,bk:=K.nx } τ G1 else K.nx τ G1
noncomputable def Iu(c:w9)(body:iF):iF:=fun E K τ G=>∃ n,DO c body n E K τ G
noncomputable def jb(g:Aa)(c:Option w9)(e:fY)(ok:Gp->Prop):List D->lX->ik->Gp->List D->(List D->Gp->Prop)->Prop
 | [],_,_,G,acc,Q=>ok G/\Q acc G
 | d :: r,E,τ,G,acc,Q=>ok G/\g E d τ G fun o8 G1=>match c with
  | none=>e E o8 G1 fun x G2=>jb g c e ok r E o8 G2 (acc++[x]) Q
  | some c=>c E o8 G1 fun k G2=>if k=true then e E o8 G2 fun x G3=>jb g (some c) e ok r E o8 G3 (acc++[x]) Q else jb g (some c) e ok r E o8 G2 acc Q
noncomputable def zC(m:Nat)(fr:List Nat)(τ:ik):ik:=bg m none++fr.map fun i=>(τ[i]?).getD none
noncomputable def gW(m:Nat)(fr:List Nat)(i:MF)(g:Aa)(c:Option w9)(e:fY):fY:=fun E τ G Q =>
 i E τ G fun ds ok G1=>ds.length<=SZ/\jb g c e ok ds (fun _ _=>False) (zC m fr τ) G1 [] fun xs G2=>gL G2 (.lst xs) Q
noncomputable abbrev tI(ns:List Int):D:=.tup (ns.map D.int)
noncomputable def ZS:List Int->Option Int
 | []=>none
 | a :: r=>some (r.foldl (fun m x=>if x < m then x else m) a)
noncomputable def ZR:List (List Int)->Option (List Int)
 | []=>none
 | a :: r=>some (r.foldl (fun m x=>if lexLt x m=true then x else m) a)
noncomputable def aa4(ds:List D)(G:Gp)(Q:DK):Prop:=match ds with
 | [x]=>(∃ ns m,itemsOf x G=some (ns.map D.int)/\ZS ns=some m/\Q (.int m) G)\/∃ nss m,itemsOf x G=some (nss.map tI)/\ZR nss=some m/\Q (tI m) G
 | _=>False
noncomputable def pI:fY:=fun _ _ G Q=>gL G (.gP []) Q
noncomputable def fB(G G':Gp):Prop:=∀ a o,G a=some o->G' a=some o
theorem fB.refl(G:Gp):fB G G:=fun _ _ h=>h
theorem fB.trans{G G1 G2:Gp}(a:fB G G1)(b:fB G1 G2):fB G G2:=fun c o h=>b c o (a c o h)
theorem fB.new{G:Gp}{p:Nat}{o:GO}(h:G p=none):fB G (dO G p o):=fun a ob e=>by
 by_cases ha:a=p
 ·subst ha; rw [h] at e; cases e
 ·rw [cT ha]; exact e
theorem fB.free{G G':Gp}{p:Nat}(l:fB G G')(h:G' p=none):G p=none:=by
 cases q:G p with
 | none=>rfl
 | some o=>rw [l p o q] at h; cases h
theorem fB.put{G G':Gp}{p:Nat}{o:GO}(l:fB G G')(h:G p=none):fB G (dO G' p o):=fun a ob e=>by
 by_cases ha:a=p
 ·subst ha; rw [h] at e; cases e
 ·rw [cT ha]; exact l a ob e
noncomputable def ends(Q:DK):lH:=⟨fun _ G=>Q .eU G,Q,fun _ _=>False,fun _ _=>False⟩
noncomputable def bE(n:Nat)(ds:List D):ik:=ds.map some++bg (n - ds.length) none
noncomputable def QG(x:D)(G1:Gp)(R:List D->(Gp->Prop)->Gp->Prop):Prop:=match x with
 | .tup ds=>R ds (fun _=>True) G1
 | .dP ds=>R ds (fun _=>True) G1
 | .ref p=>(match G1 p with
  | some (.lst ds)=>R ds (fun G2=>G2 p=some (.lst ds)) G1
  | _=>False)
 | _=>False
noncomputable def Oa(x:D)(G1:Gp)(Q:Option Int->Gp->Prop):Prop:=match x with
 | .int i=>Q (some i) G1
 | _=>False
noncomputable def qA(x:D)(G1:Gp)(Q:Bool->Gp->Prop):Prop:=match Ge x G1 with
 | some b=>Q b G1
 | none=>False
noncomputable def SV(x:D)(G1:Gp)(R:List D->(Gp->Prop)->Gp->Prop):Prop:=match x with
 | .int n=>-(2 ^ 62)<=n/\n < 2 ^ 62/\R (gH 0 n.toNat) (fun _=>True) G1
 | _=>False
noncomputable def isAt(C:String)(x:D)(G1:Gp)(Q:DK):Prop:=match Tp C x G1 with
 | some b=>Q (.bl b) G1
 | none=>False
theorem dQ{i j:Int}{G:Gp}{Q:DK}:i7 (.int i) (.int j) G Q=Q (.int (i+j)) G:=rfl
theorem qO{a b:List D}{G:Gp}{Q:DK}:i7 (.tup a) (.tup b) G Q=(a≠[]/\a.length+b.length<=SZ/\Q (.tup (a++b)) G):=rfl
theorem oE{i j:Int}{G:Gp}{Q:DK}:Hd (.int i) (.int j) G Q=Q (.int (i - j)) G:=rfl
theorem jZ{i j:Int}{G:Gp}{Q:DK}:sA (.int i) (.int j) G Q=(MulOk i j/\Q (.int (i * j)) G):=rfl
theorem j0{i j:Int}{G:Gp}{Q:DK}:uD (.int i) (.int j) G Q=(0 < j/\Q (.int (i % j)) G):=rfl
theorem oG{i j:Int}{G:Gp}{Q:DK}:Ek (.int i) (.int j) G Q=(0 < j/\j < 2 ^ 30/\Q (.int (i / j)) G):=rfl
theorem oF{i:Int}{G:Gp}{Q:DK}:NN (.int i) G Q=Q (.int (-i)) G:=rfl
theorem uE{i j:Int}{G:Gp}{Q:DK}:Yj (.int i) (.int j) G Q=Q (.bl (decide (i < j))) G:=rfl
theorem xE{i j:Int}{G:Gp}{Q:DK}:rLe (.int i) (.int j) G Q=Q (.bl (decide (i<=j))) G:=rfl
theorem xH{i j:Int}{G:Gp}{Q:DK}:rGt (.int i) (.int j) G Q=Q (.bl (decide (i > j))) G:=rfl
theorem xI{i j:Int}{G:Gp}{Q:DK}:rGe (.int i) (.int j) G Q=Q (.bl (decide (i>=j))) G:=rfl
theorem Rb{ds:List D}{i:Int}{d:D}{G:Gp}{Q:DK}(h:ua ds i=some d):mf (.dP ds) (.int i) G Q=Q d G:=by unfold mf; simp only [h]
theorem Rc{a:Nat}{ds:List D}{i:Int}{d:D}{G:Gp}{Q:DK}(h1:G a=some (.lst ds))(h:ua ds i=some d):mf (.ref a) (.int i) G Q=Q d G:=by unfold mf; simp only [h1,h]
theorem uA{ds:List D}{lo hi:Option Int}{G:Gp}{Q:DK}:UA (.tup ds) lo hi G Q=(¬ (jr ds.length 0 lo=0/\jr ds.length ds.length hi=ds.length)/\Q (.tup (cut ds lo hi)) G):=rfl
theorem uB{ds:List D}{lo hi:Option Int}{G:Gp}{Q:DK}:UA (.dP ds) lo hi G Q=gL G (.lst (cut ds lo hi)) Q:=rfl
theorem Ra{a:Nat}{ds:List D}{lo hi:Option Int}{G:Gp}{Q:DK}(h:G a=some (.lst ds)):UA (.ref a) lo hi G Q=gL G (.lst (cut ds lo hi)) Q:=by unfold UA; simp only [h]
theorem rj{ds:List D}{G:Gp}{Q:DK}:xm [.dP ds] G Q=Q (.int (ds.length:Int)) G:=rfl
theorem vj{ds:List D}{G:Gp}{Q:DK}:xm [.tup ds] G Q=Q (.int (ds.length:Int)) G:=rfl
theorem FH{a:Nat}{ds:List D}{G:Gp}{Q:DK}(h:G a=some (.lst ds)):xm [.ref a] G Q=Q (.int (ds.length:Int)) G:=by unfold xm lenOf; simp only [h]
theorem eW{a:fY}{E:lX}{τ:ik}{G:Gp}{R:List D->(Gp->Prop)->Gp->Prop}:mR a E τ G R=a E τ G fun x G1=>QG x G1 R:=by
 unfold mR QG; rfl
theorem uX{ds:List D}{G:Gp}{R:List D->(Gp->Prop)->Gp->Prop}:QG (.dP ds) G R=R ds (fun _=>True) G:=rfl
theorem uW{ds:List D}{G:Gp}{R:List D->(Gp->Prop)->Gp->Prop}:QG (.tup ds) G R=R ds (fun _=>True) G:=rfl
theorem JY{a:Nat}{ds:List D}{G:Gp}{R:List D->(Gp->Prop)->Gp->Prop}(h:G a=some (.lst ds)):QG (.ref a) G R=R ds (fun G2=>G2 a=some (.lst ds)) G:=by unfold QG; simp only [h]
theorem j7{t:fY}{E:lX}{τ:ik}{G:Gp}{Q:Option Int->Gp->Prop}:pY t E τ G Q=t E τ G fun x G1=>Oa x G1 Q:=rfl
theorem gw{i:Int}{G:Gp}{Q:Option Int->Gp->Prop}:Oa (.int i) G Q=Q (some i) G:=rfl
theorem fe{a:fY}{E:lX}{τ:ik}{G:Gp}{Q:Bool->Gp->Prop}:kE a E τ G Q=a E τ G fun x G1=>qA x G1 Q:=rfl
theorem cZ{b:Bool}{G:Gp}{Q:Bool->Gp->Prop}:qA (.bl b) G Q=Q b G:=rfl
theorem j5{a:fY}{E:lX}{τ:ik}{G:Gp}{R:List D->(Gp->Prop)->Gp->Prop}:y9 a E τ G R=a E τ G fun x G1=>SV x G1 R:=rfl
theorem iO{n:Int}{G:Gp}{R:List D->(Gp->Prop)->Gp->Prop}:SV (.int n) G R=(-(2 ^ 62)<=n/\n < 2 ^ 62/\R (gH 0 n.toNat) (fun _=>True) G):=rfl
theorem rY{C:String}{a:fY}{E:lX}{τ:ik}{G:Gp}{Q:DK}:PW C a E τ G Q=a E τ G fun x G1=>isAt C x G1 Q:=rfl
theorem qS {C:String} {i:Int} {G:Gp} {Q:DK}:isAt C (.int i) G Q=Q (.bl (C == "int")) G:=rfl
theorem uT {C:String} {ds:List D} {G:Gp} {Q:DK}:isAt C (.tup ds) G Q=Q (.bl (C == "tuple")) G:=rfl
theorem rg{a b:fY}{E:lX}{τ:ik}{G:Gp}{Q:DK}:Kk a b E τ G Q=a E τ G fun x G1=>qA x G1 fun k G2=>if k=true then b E τ G2 Q else Q x G2:=by
 unfold Kk qA;refine congrArg (a E τ G) ?_;funext x G1;cases Ge x G1 with
 | none=>rfl
 | some k=>cases k <;> simp
theorem xU{a b:fY}{E:lX}{τ:ik}{G:Gp}{Q:DK}:XR a b E τ G Q=a E τ G fun x G1=>qA x G1 fun k G2=>if k=true then Q x G2 else b E τ G2 Q:=by
 unfold XR qA;refine congrArg (a E τ G) ?_;funext x G1;cases Ge x G1 with
 | none=>rfl
 | some k=>cases k <;> simp
theorem qZ{a:fY}{E:lX}{τ:ik}{G:Gp}{Q:DK}:PU a E τ G Q=a E τ G fun x G1=>qA x G1 fun k G2=>Q (.bl (!k)) G2:=rfl
theorem mJ{a:Nat}{y:D}{G:Gp}{Q:DK}:i7 (.ref a) y G Q=IG (.ref a) y G Q:=by cases y <;> rfl
theorem oH{a:List D}{y:D}{G:Gp}{Q:DK}:i7 (.dP a) y G Q=IG (.dP a) y G Q:=by cases y <;> rfl
theorem rJ{a:Nat}{lo hi:Option Int}{G:Gp}{Q:DK}:UA (.ref a) lo hi G Q=(match G a with
  | some (.lst ds)=>gL G (.lst (cut ds lo hi)) Q
  | _=>False):=rfl
theorem xG{a:Nat}{k:D}{G:Gp}{Q:DK}:mf (.ref a) k G Q=(match G a with
  | some (.lst ds)=>(match k with
   | .int i=>(match ua ds i with
    | some d=>Q d G
    | none=>False)
   | _=>False)
  | some (.gP kvs)=>gZ kvs k=true/\(match look kvs k with
   | some d=>Q d G
   | none=>False)
  | _=>False):=by unfold mf; cases k <;> rfl
theorem je{ds:List D}{i:Int}{G:Gp}{Q:DK}:mf (.tup ds) (.int i) G Q=(match ua ds i with
  | some d=>Q d G
  | none=>False):=rfl
theorem iI{ds:List D}{i:Int}{G:Gp}{Q:DK}:mf (.dP ds) (.int i) G Q=(match ua ds i with
  | some d=>Q d G
  | none=>False):=rfl
theorem sd{a:Nat}{G:Gp}{Q:DK}:w8 [.ref a] G Q=(match G a with
  | some (.lst ds)=>gL G (.lst ds) Q
  | _=>False):=by
 unfold w8 itemsOf;cases h:G a with
 | none=>simp only [h]
 | some g=>cases g <;> simp only [h]
theorem fg{a:Nat}{d:D}{G:Gp}{Q:DK}:lR (.ref a) [d] G Q=(match G a with
  | some (.lst xs)=>xs.length < SZ/\Q .eU (dO G a (.lst (xs++[d])))
  | _=>False):=rfl
theorem kT{a:Nat}{y:D}{G:Gp}{Q:DK}:xM (.ref a) [y] G Q=(match G a,pQ y G with
  | some (.lst xs),some ys=>xs.length+ys.length<=SZ/\Q .eU (dO G a (.lst (xs++ys)))
  | _,_=>False):=rfl
theorem nJ{a:Nat}{i:Int}{d:D}{G:Gp}{Q:DK}:RO (.ref a) [.int i,d] G Q=(match G a with
  | some (.lst xs)=>0<=i/\i<=xs.length/\xs.length < SZ/\Q .eU (dO G a (.lst (xs.take i.toNat++d :: xs.drop i.toNat)))
  | _=>False):=rfl
theorem jv{a:Nat}{k d:D}{G:Gp}{Q:DK}:EK (.ref a) [k,d] G Q=(match G a with
  | some (.gP kvs)=>gZ kvs k=true/\eK k=true/\(match look kvs k with
   | some v=>Q v G
   | none=>kvs.length < SZ/\Q d (dO G a (.gP (put kvs k d))))
  | _=>False):=rfl
theorem OT{C:String}{p:Nat}{G:Gp}{Q:DK}:isAt C (.ref p) G Q=(match G p with
  | some (.lst _)=>Q (.bl (C == "list")) G
  | some (.gP _)=>Q (.bl (C == "dict")) G
  | _=>False):=by
 unfold isAt Tp;cases h:G p with
 | none=>simp only [h]
 | some g=>cases g <;> simp only [h]
theorem xP {C:String} {b:Bool} {G:Gp} {Q:DK}:isAt C (.bl b) G Q=Q (.bl (C == "bool" || C == "int")) G:=rfl
theorem jU{a:Nat}{G:Gp}:Gd (.ref a) G=(match G a with
  | some (.lst _)=>True
  | _=>False):=rfl
theorem pb{a:Nat}{G:Gp}:Q0 (.ref a) G=(match G a with
  | some (.gP _)=>True
  | _=>False):=rfl
theorem xB{ds:List D}{G:Gp}:Gd (.dP ds) G=True:=rfl
theorem xF{kvs:List (D×D)}{k:D}{G:Gp}{Q:DK}:mf (.kJ kvs) k G Q=(gZ kvs k=true/\(match look kvs k with
  | some d=>Q d G
  | none=>False)):=by unfold mf; cases k <;> rfl
theorem xA{x:Str}{G:Gp}:tyS (.str x) G=True:=rfl
end K2
end
section
namespace K2
open PySem (Str)
noncomputable def AE(R:Nat->Bool)(G:Gp):Gp:=fun a=>if R a=true then none else G a
mutual
inductive Fz (G:Gp) (R:Nat->Bool):D->D->Prop
 | same (d:D):Fz G R d d
 | tup {ds ss:List D}:Gm G R ds ss->Fz G R (.tup ds) (.tup ss)
 | dP {ds ss:List D}:Gm G R ds ss->Fz G R (.dP ds) (.dP ss)
 | ref {a:Nat} {ds ss:List D}:G a=some (.lst ds)->R a=true->Gm G R ds ss->Fz G R (.ref a) (.dP ss)
 | gP {a:Nat} {kvs Te:List (D×D)}:G a=some (.gP kvs)->R a=true->IQ G R kvs Te->Fz G R (.ref a) (.kJ Te)
 | sE {a:Nat} {kvs Te:List (PK×D)}:G a=some (.sE kvs)->R a=true->Gm G R (kvs.map fun p=>p.2) (Te.map fun p=>p.2)->kvs.map (fun p=>p.1)=Te.map (fun p=>p.1)->Fz G R (.ref a) (.oX Te)
inductive Gm (G:Gp) (R:Nat->Bool):List D->List D->Prop
 | nil:Gm G R [] []
 | cons {d s:D} {ds ss:List D}:Fz G R d s->Gm G R ds ss->Gm G R (d :: ds) (s :: ss)
inductive IQ (G:Gp) (R:Nat->Bool):List (D×D)->List (D×D)->Prop
 | nil:IQ G R [] []
 | cons {k d s:D} {ds ss:List (D×D)}:Fz G R d s->IQ G R ds ss->IQ G R ((k,d) :: ds) ((k,s) :: ss)
end
theorem IQ.same{G:Gp}{R:Nat->Bool}:∀ (kvs:List (D×D)),IQ G R kvs kvs
 | []=>.nil
 | (k,v) :: r=>.cons (.same v) (IQ.same r)
noncomputable def Mm(G:Gp)(x:D)(Q:DK):Prop:=∃ (R:Nat->Bool) (t:D),Fz G R x t/\Q t (AE R G)
noncomputable def c8(e:fY):fY:=fun E τ G Q=>e E τ G fun x G1=>Mm G1 x Q
noncomputable def Iw(i:Nat)(t:iF):iF:=fun E K τ G=>t E { K with nx:=fun o8 G1=>match o8[i]? with
 | some (some d)=>Mm G1 d fun t G2=>K.nx (o8.set i (some t)) G2
 | _=>False } τ G
theorem Gm.same{G:Gp}{R:Nat->Bool}:∀ (ds:List D),Gm G R ds ds
 | []=>.nil
 | d :: ds=>.cons (.same d) (Gm.same ds)
theorem va{G G1:Gp}(l:fB G G1):AE (fun a=>(G a).isNone) G1=G:=by
 funext a;unfold AE;cases h:G a with
 | none=>simp [h]
 | some o=>simp [l a o h,h]
theorem L0{G G1:Gp}{p:Nat}{o:GO}(l:fB G G1)(hp:G p=none)(h1:G1 p=some o):AE (fun a=>(G a).isNone&&decide (a≠p)) G1=dO G p o:=by
 funext a;unfold AE dO;by_cases ha:a=p
 ·subst ha; simp [h1]
 ·cases h:G a with
  | none=>simp [ha,h]
  | some o=>simp [l a o h,ha,h]
theorem dh{G:Gp}{d:D}{Q:DK}(q:Q d G):Mm G d Q:=⟨fun _=>false,d,.same d,by
 have e:AE (fun _=>false) G=G:=by funext a; simp [AE]
 rw [e]; exact q⟩
theorem uZ{G G1:Gp}{d:D}{Q:DK}(l:fB G G1)(q:Q d G):Mm G1 d Q:=⟨_,d,.same d,by rw [va l]; exact q⟩
theorem Pk{G G1:Gp}{p:Nat}{o:GO}{Q:DK}(l:fB G G1)(hp:G p=none)(h1:G1 p=some o)(q:Q (.ref p) (dO G p o)):Mm G1 (.ref p) Q :=
 ⟨_,.ref p,.same _,by rw [L0 l hp h1]; exact q⟩
theorem CA{G G1:Gp}{p:Nat}{ds ss:List D}{Q:DK}(l:fB G G1)(hp:G p=none)(h1:G1 p=some (.lst ds))(hs:Gm G1 (fun a=>(G a).isNone) ds ss)(q:Q (.dP ss) G):Mm G1 (.ref p) Q :=
 ⟨_,.dP ss,.ref h1 (by simp [hp]) hs,by rw [va l]; exact q⟩
theorem ja{G G1:Gp}{p:Nat}{kvs:List (D×D)}{Q:DK}(l:fB G G1)(hp:G p=none)(h1:G1 p=some (.gP kvs))(q:Q (.kJ kvs) G):Mm G1 (.ref p) Q :=
 ⟨fun a=>(G a).isNone,.kJ kvs,.gP h1 (by simp [hp]) (.same _),by rw [va l]; exact q⟩
noncomputable def AV:nQ:=fun ds G Q _=>∃ ns:List Int,ds=[.dP (ns.map D.int)]/\ns.length<=63/\(∀ a,G a=none)/\∀ G',Q (.bl true) G'
theorem fU{a b:iF}{E:lX}{K:lH}{τ:ik}{G:Gp}(P:ik->Gp->Prop)(h1:∀ N,(∀ τ G,P τ G->N τ G)->a E { K with nx:=N } τ G)(h2:∀ τ G,P τ G->b E K τ G):cG a b E K τ G:=h1 (b E K) h2
theorem qE{a b:iF}{E:lX}{K:lH}{τ:ik}{G:Gp}:cG a b E K τ G=a E { K with nx:=b E K } τ G:=rfl
theorem cU{a:fY}{g:Aa}{b:iF}{E:lX}{K:lH}{τ:ik}{G:Gp}:cG (bL a g) b E K τ G=bL a g E { K with nx:=b E K } τ G:=rfl
theorem qF{a:fY}{b:iF}{E:lX}{K:lH}{τ:ik}{G:Gp}:cG (jj a) b E K τ G=jj a E { K with nx:=b E K } τ G:=rfl
theorem Vq{g:Aa}{body:iF}{ok:Gp->Prop}{ds:List D}{E:lX}{K:lH}{τ:ik}{G:Gp}(I:List D->ik->Gp->Prop)
  (h0:I [] τ G) (cL:∀ pre τ G,I pre τ G->ok G)
  (step:∀ (pre:List D) (d:D) (post:List D) τ G (N:ik->Gp->Prop),ds=pre++d :: post->I pre τ G->(∀ vG G2,I (pre++[d]) vG G2->N vG G2) ->
   g E d τ G fun o8 G1=>body E { K with nx:=N,ct:=N,bk:=K.nx } o8 G1)
  (fin:∀ τ G,I ds τ G->K.nx τ G):pW g body ok ds E K τ G:=by
 have main:∀ (post pre:List D) τ G,ds=pre++post->I pre τ G->pW g body ok post E K τ G:=by
  intro post;induction post with
  | nil =>
   intro pre τ G e h;rw [bN] at e;subst e;exact⟨cL _ _ _ h,fin _ _ h⟩
  | cons d post ih =>
   intro pre τ G e h;refine⟨cL _ _ _ h,?_⟩;exact step pre d post τ G _ e h fun vG G2 h2=>ih (pre++[d]) vG G2 (by rw [e,bB]; rfl) h2
 exact main ds [] τ G rfl h0
theorem Sg{g:Aa}{c:Option w9}{e:fY}{ok:Gp->Prop}{ds:List D}{E:lX}{τ:ik}{G:Gp}{Q:List D->Gp->Prop}(I:List D->List D->ik->Gp->Prop)
  (h0:I [] [] τ G) (cL:∀ pre acc τ G,I pre acc τ G->ok G)
  (step:∀ (pre:List D) (d:D) (post acc:List D) τ G (N:ik->List D->Gp->Prop),ds=pre++d :: post->I pre acc τ G->(∀ vG wu G2,I (pre++[d]) wu vG G2->N vG wu G2) ->
   g E d τ G fun o8 G1=>match c with
    | none=>e E o8 G1 fun x G2=>N o8 (acc++[x]) G2
    | some c=>c E o8 G1 fun k G2=>if k=true then e E o8 G2 fun x G3=>N o8 (acc++[x]) G3 else N o8 acc G2)
  (fin:∀ acc τ G,I ds acc τ G->Q acc G):jb g c e ok ds E τ G [] Q:=by
 have main:∀ (post pre acc:List D) τ G,ds=pre++post->I pre acc τ G->jb g c e ok post E τ G acc Q:=by
  intro post;induction post with
  | nil =>
   intro pre acc τ G e h;rw [bN] at e;subst e;exact⟨cL _ _ _ _ h,fin _ _ _ h⟩
  | cons d post ih =>
   intro pre acc τ G e' h;refine⟨cL _ _ _ _ h,?_⟩;have:=step pre d post acc τ G (fun vG wu G2=>jb g c e ok post E vG G2 wu Q) e' h fun vG wu G2 h2=>ih (pre++[d]) wu vG G2 (by rw [e',bB]; rfl) h2;cases c with
   | none=>exact this
   | some c=>exact this
 exact main ds [] [] τ G rfl h0
theorem Sn.rI{G:Gp}{n:Nat}:∀ (ns:List Int),Sn G (n+1) (.dP (ns.map D.int)) (.dP (ns.map D.int))
 | []=>.K6
 | i :: ns=>.A4 (.int i) (Sn.rI ns)
theorem pH(a b:D)(r t:List D):kX (a :: r) (b :: t)=(iM a b&&kX r t):=rfl
theorem mV(a b:Int):iM (.int a) (.int b)=(a == b):=rfl
theorem Im(a b:List D):iM (.tup a) (.tup b)=kX a b:=rfl
theorem Fu{α:Type} [DecidableEq α](a b:α)(as bs:List α):(decide (a=b)&&decide (as=bs))=decide (a :: as=b :: bs):=by
 by_cases h:a=b <;> by_cases h2:as=bs <;> simp [h,h2]
end K2
end
section
namespace K2
open PySem (Str)
set_option genInjectivity true in structure T2 where
 a:Int
 b:Int
 deriving DecidableEq
set_option genInjectivity true in structure T3 where
 a:Int
 b:Int
 c:Int
 deriving DecidableEq
class Enc (α:Type) [DecidableEq α] where
 enc:α->D
 dep:Nat
 eqv:∀ a b,iM (enc a) (enc b)=decide (a=b)
 sn:∀ (G:Gp) (n:Nat) (a:α),dep<=n->Sn G n (enc a) (enc a)
open Enc (enc)
noncomputable instance:Enc Int where
 enc:=D.int
 dep:=0
 eqv:=fun a b=>rfl
 sn:=fun G n a _=>.int a
noncomputable instance:Enc Bool where
 enc:=D.bl
 dep:=0
 eqv:=fun a b=>Qx a b
 sn:=fun G n a _=>.bl a
noncomputable instance:Enc T2 where
 enc:=fun t=>.tup [.int t.a,.int t.b]
 dep:=1
 eqv:=fun x y=>by
  cases x; cases y;rw [Im,pH,pH,mV,mV]; simp only [T2.mk.injEq]; rename_i a b c d; by_cases h:a=c <;> by_cases h2:b=d <;> simp [h,h2,show kX [] []=true from rfl]
 sn:=fun G n t h=>by
  obtain⟨m,rfl⟩:∃ m,n=m+1:=⟨n - 1,by lia⟩;exact .qB (.int _) (.qB (.int _) .GN)
noncomputable instance:Enc T3 where
 enc:=fun t=>.tup [.int t.a,.int t.b,.int t.c]
 dep:=1
 eqv:=fun x y=>by
  cases x; cases y;rw [Im,pH,pH,pH,mV,mV,mV]; simp only [T3.mk.injEq]; rename_i a b e c d f; by_cases h:a=c <;> by_cases h2:b=d <;> by_cases h3:e=f <;> simp [h,h2,h3,show kX [] []=true from rfl]
 sn:=fun G n t h=>by
  obtain⟨m,rfl⟩:∃ m,n=m+1:=⟨n - 1,by lia⟩;exact .qB (.int _) (.qB (.int _) (.qB (.int _) .GN))
noncomputable instance {α β:Type} [DecidableEq α] [DecidableEq β] [Enc α] [Enc β]:Enc (α×β) where
 enc:=fun t=>.tup [enc t.1,enc t.2]
 dep:=max (Enc.dep α) (Enc.dep β)+1
 eqv:=fun x y=>by
  cases x; cases y;rw [Im,pH,pH,Enc.eqv,Enc.eqv]; simp only [Prod.mk.injEq]; rename_i a b c d; by_cases h:a=c <;> by_cases h2:b=d <;> simp [h,h2,show kX [] []=true from rfl]
 sn:=fun G n t h=>by
  obtain⟨m,rfl⟩:∃ m,n=m+1:=⟨n - 1,by lia⟩;exact .qB (Enc.sn _ _ _ (by lia)) (.qB (Enc.sn _ _ _ (by lia)) .GN)
theorem Fq{α:Type} [DecidableEq α] [Enc α]:∀ (a b:List α),kX (a.map enc) (b.map enc)=decide (a=b)
 | [],[]=>(decide_eq_true rfl).symm
 | [],b :: bs=>(decide_eq_false (fun z=>nomatch z)).symm
 | a :: as,[]=>(decide_eq_false (fun z=>nomatch z)).symm
 | a :: as,b :: bs=>by
  show (iM (enc a) (enc b)&&kX (as.map enc) (bs.map enc))=_;rw [Enc.eqv,Fq as bs,Fu]
theorem Nv{α:Type} [DecidableEq α] [Enc α](G:Gp)(n:Nat)(h:Enc.dep α<=n):∀ (xs:List α),Sn G (n+1) (.dP (xs.map enc)) (.dP (xs.map enc))
 | []=>.K6
 | a :: as=>.A4 (Enc.sn _ _ _ h) (Nv G n h as)
noncomputable instance {α:Type} [DecidableEq α] [Enc α]:Enc (List α) where
 enc:=fun xs=>.dP (xs.map enc)
 dep:=Enc.dep α+1
 eqv:=fun a b=>by
  show kX _ _=_;exact Fq a b
 sn:=fun G n t h=>by
  obtain⟨m,rfl⟩:∃ m,n=m+1:=⟨n - 1,by lia⟩;exact Nv G m (by lia) t
section
variable {α:Type} [DecidableEq α] [Enc α]
theorem Sx(L:List α)(t:α):(L.map enc).any (iM · (enc t))=decide (t∈L):=by
 induction L with
 | nil=>simp
 | cons a r ih =>
  simp only [aj,lr,Enc.eqv,ih,aO];by_cases h:a=t
  ·simp [h]
  ·have h':¬ t=a:=fun z=>h z.symm;by_cases h2:t∈r <;> simp [h,h',h2]
end
section
variable {κ α:Type} [DecidableEq κ] [Enc κ] [DecidableEq α] [Enc α]
noncomputable def bF(l:List (κ×α)):List (D×D):=l.map fun p=>(enc p.1,enc p.2)
noncomputable def cM(l:List (κ×α))(k:κ):Option α:=(l.find? fun p=>p.1=k).map (·.2)
noncomputable def eV(l:List (κ×α))(k:κ)(v:α):List (κ×α):=if (l.any fun p=>p.1=k)=true then l.map (fun p=>if p.1=k then (p.1,v) else p) else l++[(k,v)]
theorem uM(l:List (κ×α))(k:κ):look (bF l) (enc k)=(cM l k).map enc:=by
 unfold look cM bF;induction l with
 | nil=>rfl
 | cons p r ih =>
  rw [aj,eh,eh];simp only [Enc.eqv];by_cases h:p.1=k
  ·simp [h]
  ·simp only [h,decide_false]; exact ih
theorem Jy(l:List (κ×α))(k:κ)(v:α):put (bF l) (enc k) (enc v)=bF (eV l k v):=by
 unfold put eV;have e:((bF l).any fun p=>iM p.1 (enc k))=l.any fun p=>decide (p.1=k):=by
  unfold bF; rw [List.any_map]; congr 1; funext p; exact Enc.eqv _ _
 rw [e];split
 ·unfold bF; rw [aW,aW];refine bZ fun p _=>?_;simp only [Function.comp,Enc.eqv,decide_eq_true_eq];split <;> rfl
 ·unfold bF; rw [aQ]; rfl
theorem sf(l:List (κ×α))(k j:κ)(v:α):cM (eV l k v) j=if k=j then some v else cM l j:=by
 unfold eV;split
 ·rename_i h;unfold cM;induction l with
  | nil=>simp at h
  | cons p r ih =>
   rw [aj,eh,eh];by_cases h1:p.1=k
   ·rw [if_pos h1];by_cases h2:k=j
    ·simp [h1,h2]
    ·have:¬ p.1=j:=fun z=>h2 (h1.symm.trans z);simp only [this,decide_false,h2,if_false];by_cases h3:(r.any fun p=>decide (p.1=k))=true
     ·have:=ih h3;rw [if_neg h2] at this;exact this
     ·congr 1;have:r.map (fun p=>if p.1=k then (p.1,v) else p)=r:=by
       conv=>rhs; rw [<-kg r]
       refine bZ fun q hq=>?_;rw [if_neg]; rfl;intro z; exact h3 (List.any_eq_true.mpr ⟨q,hq,by simpa using z⟩)
      rw [this]
   ·rw [if_neg h1];have h3:(r.any fun p=>decide (p.1=k))=true:=by simpa [h1] using h
    by_cases h2:p.1=j
    ·have:¬ k=j:=fun z=>h1 (h2.trans z.symm);simp [h2,this]
    ·simp only [h2,decide_false]; exact ih h3
 ·rename_i h;unfold cM;rw [List.find?_append];by_cases h2:k=j
  ·subst h2;have:l.find? (fun p=>decide (p.1=k))=none:=by
    rw [fL];intro p hp z;exact h (List.any_eq_true.mpr ⟨p,hp,z⟩)
   rw [this]; simp
  ·simp [h2]
theorem rn(l:List (κ×α))(k:κ)(v:α):(eV l k v).length<=l.length+1:=by
 unfold eV; split <;> simp
end
class tV (κ:Type) [DecidableEq κ] [Enc κ] where
 ok:(∀ k:κ,eK (enc k)=true)\/∀ k:κ,kC (enc k)=true
noncomputable instance:tV Int:=⟨.inl fun _=>rfl⟩
noncomputable instance:tV T2:=⟨.inr fun _=>rfl⟩
noncomputable instance:tV T3:=⟨.inr fun _=>rfl⟩
theorem mP{κ α:Type} [DecidableEq κ] [Enc κ] [tV κ] [DecidableEq α] [Enc α](l:List (κ×α))(k:κ):gZ (bF l) (enc k)=true:=by
 unfold gZ bF;rcases tV.ok (κ:=κ) with h | h
 ·rw [oW]; left;rw [h k,Bool.true_and,mZ,iK];intro p _; exact h p.1
 ·rw [oW]; right;rw [h k,Bool.true_and,mZ,iK];intro p _; exact h p.1
end K2
end
section
namespace K2
open PySem (Str)
open Enc (enc)
mutual
noncomputable def oY:D->D->Bool
 | .int a,.int b=>decide (a < b)
 | .tup a,.tup b=>lS a b
 | .dP a,.dP b=>lS a b
 | _,_=>false
noncomputable def lS:List D->List D->Bool
 | [],[]=>false
 | [],_ :: _=>true
 | _ :: _,[]=>false
 | x :: xs,y :: ys=>if iM x y=true then lS xs ys else oY x y
end
theorem mO(x y:D)(xs ys:List D):lS (x :: xs) (y :: ys)=if iM x y=true then lS xs ys else oY x y:=rfl
theorem Ox(a b:Int):oY (.int a) (.int b)=decide (a < b):=rfl
inductive nR where
 | int | tup (l:List nR) | lst (s:nR)
mutual
noncomputable def cX:nR->D->Bool
 | .int,.int _=>true
 | .tup l,.tup ds=>fj l ds
 | .lst s,.dP ds=>gJ s ds
 | _,_=>false
noncomputable def fj:List nR->List D->Bool
 | [],[]=>true
 | s :: l,d :: ds=>cX s d&&fj l ds
 | _,_=>false
noncomputable def gJ:nR->List D->Bool
 | _,[]=>true
 | s,d :: ds=>cX s d&&gJ s ds
end
theorem dw{a:D}(h:cX .int a=true):∃ i,a=.int i:=by cases a <;> first | exact⟨_,rfl⟩ | exact bz (show false=true from h)
theorem dq{l:List nR}{a:D}(h:cX (.tup l) a=true):∃ x,a=.tup x:=by cases a <;> first | exact⟨_,rfl⟩ | exact bz (show false=true from h)
theorem du{l:nR}{a:D}(h:cX (.lst l) a=true):∃ x,a=.dP x:=by cases a <;> first | exact⟨_,rfl⟩ | exact bz (show false=true from h)
mutual
noncomputable def TK:nR->Nat
 | .int=>0
 | .tup l=>PM l+1
 | .lst s=>TK s+1
noncomputable def PM:List nR->Nat
 | []=>0
 | s :: l=>max (TK s) (PM l)
end
noncomputable def UT(sh:nR):Bool:=decide (TK sh<=7)&&(match sh with
 | .tup []=>false
 | _=>true)
noncomputable def QD(a b:D):Bool:=!oY b a
noncomputable def qD(ds:List D):List D:=ds.mergeSort QD
noncomputable def vi(ds:List D)(G:Gp)(Q:DK):Prop:=match ds with
 | [x]=>∃ (sh:nR) (xs:List D),Gd x G/\itemsOf x G=some xs/\xs.all (cX sh)=true/\UT sh=true/\xs.length < 64/\gL G (.lst (qD xs)) Q
 | _=>False
class bt (α:Type) [DecidableEq α] [Enc α] where
 lt:α->α->Bool
 AW:nR
 Cy:∀ a:α,cX AW (enc a)=true
 RQ:∀ a b:α,oY (enc a) (enc b)=lt a b
 HH:∀ a,lt a a=false
 trans:∀ a b c,lt a b=true->lt b c=true->lt a c=true
 nY:∀ a b,lt a b=false->lt b a=false->a=b
noncomputable instance:bt Int where
 lt:=fun a b=>decide (a < b)
 AW:=.int
 Cy:=fun _=>rfl
 RQ:=fun a b=>rfl
 HH:=fun a=>by simp
 trans:=fun a b c h1 h2=>by simp at *; lia
 nY:=fun a b h1 h2=>by simp at *; lia
noncomputable def tx{α:Type} [DecidableEq α](lt:α->α->Bool):List α->List α->Bool
 | [],[]=>false
 | [],_ :: _=>true
 | _ :: _,[]=>false
 | x :: xs,y :: ys=>if x=y then tx lt xs ys else lt x y
theorem vV{α:Type} [DecidableEq α](lt:α->α->Bool)(x y:α)(xs ys:List α):tx lt (x :: xs) (y :: ys)=if x=y then tx lt xs ys else lt x y:=rfl
section
variable {α:Type} [DecidableEq α] {lt:α->α->Bool}
theorem uO:∀ x:List α,tx lt x x=false
 | []=>rfl
 | a :: x=>by simp only [vV,if_true]; exact uO x
theorem uN(t:∀ a b,lt a b=false->lt b a=false->a=b):∀ (x y:List α),tx lt x y=false->tx lt y x=false->x=y
 | [],[],_,_=>rfl
 | [],_ :: _,h,_=>by cases h
 | _ :: _,[],_,h=>by cases h
 | a :: x,b :: y,h1,h2=>by
  simp only [vV] at h1 h2;by_cases e:a=b
  ·subst e;simp only [if_true] at h1 h2;rw [uN t x y h1 h2]
  ·rw [if_neg e] at h1;rw [if_neg (fW e)] at h2;exact absurd (t a b h1 h2) e
theorem pE(ir:∀ a,lt a a=false)(tr:∀ a b c,lt a b=true->lt b c=true->lt a c=true):∀ (x y z:List α),tx lt x y=true->tx lt y z=true->tx lt x z=true
 | [],[],_,h,_=>by cases h
 | [],_ :: _,[],_,h=>by cases h
 | [],_ :: _,_ :: _,_,_=>rfl
 | _ :: _,[],_,h,_=>by cases h
 | _ :: _,_ :: _,[],_,h=>by cases h
 | a :: x,b :: y,c :: z,h1,h2=>by
  simp only [vV] at h1 h2 ⊢;by_cases e1:a=b
  ·subst e1;simp only [if_true] at h1;by_cases e2:a=c
   ·subst e2;simp only [if_true] at h2 ⊢;exact pE ir tr x y z h1 h2
   ·rw [if_neg e2] at h2 ⊢; exact h2
  ·rw [if_neg e1] at h1;by_cases e2:b=c
   ·subst e2;rw [if_neg e1]; exact h1
   ·rw [if_neg e2] at h2;have h3:=tr _ _ _ h1 h2;rw [if_neg (by rintro rfl; rw [ir] at h3; cases h3)]; exact h3
end
theorem uK{α:Type} [DecidableEq α] [Enc α] [bt α]:∀ (x y:List α),lS (x.map enc) (y.map enc)=tx (bt.lt (α:=α)) x y
 | [],[]=>rfl
 | [],_ :: _=>rfl
 | _ :: _,[]=>rfl
 | a :: x,b :: y=>by simp only [aj,mO,vV,Enc.eqv,uK x y,bt.RQ,decide_eq_true_eq]
theorem Bq{α:Type} [DecidableEq α] [Enc α] [bt α]:∀ (x:List α),gJ (bt.AW α) (x.map enc)=true
 | []=>rfl
 | a :: x=>by simp only [aj,gJ,bt.Cy,Bq x,Bool.and_self]
noncomputable instance {α:Type} [DecidableEq α] [Enc α] [bt α]:bt (List α) where
 lt:=tx bt.lt
 AW:=.lst (bt.AW α)
 Cy:=fun a=>Bq a
 RQ:=fun a b=>uK a b
 HH:=uO
 trans:=pE bt.HH bt.trans
 nY:=uN bt.nY
noncomputable def T2.l(t:T2):List Int:=[t.a,t.b]
noncomputable def T3.l(t:T3):List Int:=[t.a,t.b,t.c]
noncomputable instance:bt T2 where
 lt:=fun x y=>tx (fun a b=>decide (a < b)) x.l y.l
 AW:=.tup [.int,.int]
 Cy:=fun _=>rfl
 RQ:=fun a b=>uK a.l b.l
 HH:=fun a=>uO _
 trans:=fun a b c=>pE (α:=Int) bt.HH bt.trans _ _ _
 nY:=fun ⟨a,b⟩ ⟨c,d⟩ h1 h2=>by
  have:=uN (α:=Int) bt.nY _ _ h1 h2;simpa [T2.l] using this
noncomputable instance:bt T3 where
 lt:=fun x y=>tx (fun a b=>decide (a < b)) x.l y.l
 AW:=.tup [.int,.int,.int]
 Cy:=fun _=>rfl
 RQ:=fun a b=>uK a.l b.l
 HH:=fun a=>uO _
 trans:=fun a b c=>pE (α:=Int) bt.HH bt.trans _ _ _
 nY:=fun ⟨a,b,e⟩ ⟨c,d,f⟩ h1 h2=>by
  have:=uN (α:=Int) bt.nY _ _ h1 h2;simpa [T3.l] using this
section
variable {α:Type} [DecidableEq α] [Enc α] [bt α]
noncomputable def MC(a b:α):Bool:=!bt.lt b a
noncomputable def Q6(xs:List α):List α:=xs.mergeSort MC
theorem KW(xs:List α):qD (xs.map enc)=(Q6 xs).map enc:=by
 unfold qD Q6;symm;exact List.map_mergeSort fun a _ b _=>by unfold MC QD; rw [bt.RQ]
theorem Bi(a b c:α)(h1:MC a b=true)(h2:MC b c=true):MC a c=true:=by
 unfold MC at *;simp only [Bool.not_eq_true'] at *;cases h:bt.lt c a with
 | false=>rfl
 | true =>
  by_cases e:a=b
  ·subst e; rw [h] at h2; cases h2
  ·have XC:bt.lt a b=true:=by
    cases q:bt.lt a b with
    | true=>rfl
    | false=>exact absurd (bt.nY _ _ q h1) e
   rw [bt.trans _ _ _ h XC] at h2; cases h2
theorem qC(xs:List α):(Q6 xs).Perm xs:=List.mergeSort_perm xs MC
theorem Q5{xs:List α}{x:α}:x∈Q6 xs↔x∈xs:=(qC xs).mem_iff
theorem KU{xs:List α}(h:xs.Nodup):(Q6 xs).Nodup:=(qC xs).nodup_iff.mpr h
end
end K2
end
section
namespace K2
open PySem (Str)
mutual
theorem kD:∀ (sh:nR) (a:D),cX sh a=true->iM a a=true
 | .int,.int i,_=>by show (i == i)=true; exact beq_self_eq_true i
 | .tup l,.tup xs,h=>by show kX xs xs=true; exact w5 l xs h
 | .lst l,.dP xs,h=>by show kX xs xs=true; exact w6 l xs h
theorem w5:∀ (l:List nR) (xs:List D),fj l xs=true->kX xs xs=true
 | [],[],_=>rfl
 | s :: l,x :: xs,h=>by
  have h:(cX s x&&fj l xs)=true:=h;rw [aK] at h;show (iM x x&&kX xs xs)=true;rw [kD s x h.1,w5 l xs h.2]; rfl
theorem w6:∀ (s:nR) (xs:List D),gJ s xs=true->kX xs xs=true
 | _,[],_=>rfl
 | s,x :: xs,h=>by
  have h:(cX s x&&gJ s xs)=true:=h;rw [aK] at h;show (iM x x&&kX xs xs)=true;rw [kD s x h.1,w6 s xs h.2]; rfl
end
theorem Vu(s:nR)(ih:∀ (a b:D),cX s a=true->cX s b=true->iM a b=true->a=b):∀ (xs ys:List D),gJ s xs=true->gJ s ys=true->kX xs ys=true->xs=ys:=by
 intro xs;induction xs with
 | nil=>intro ys _ _ h; cases ys with
  | nil=>rfl
  | cons _ _=>cases h
 | cons x xs Xe =>
  intro ys h1 h2 h;cases ys with
  | nil=>cases h
  | cons y ys =>
   have h1:(cX s x&&gJ s xs)=true:=h1;have h2:(cX s y&&gJ s ys)=true:=h2;have h:(iM x y&&kX xs ys)=true:=h;rw [aK] at h1 h2 h;rw [ih x y h1.1 h2.1 h.1,Xe ys h1.2 h2.2 h.2]
mutual
theorem pX:∀ (sh:nR) (a b:D),cX sh a=true->cX sh b=true->iM a b=true->a=b
 | .int,a,b,h1,h2,h=>by
  first | obtain⟨_,rfl⟩:=dw h1 | obtain⟨_,rfl⟩:=dq h1 | obtain⟨_,rfl⟩:=du h1
  first | obtain⟨_,rfl⟩:=dw h2 | obtain⟨_,rfl⟩:=dq h2 | obtain⟨_,rfl⟩:=du h2
  rw [mV] at h; rw [beq_iff_eq.mp h]
 | .tup l,a,b,h1,h2,h=>by
  first | obtain⟨_,rfl⟩:=dw h1 | obtain⟨_,rfl⟩:=dq h1 | obtain⟨_,rfl⟩:=du h1
  first | obtain⟨_,rfl⟩:=dw h2 | obtain⟨_,rfl⟩:=dq h2 | obtain⟨_,rfl⟩:=du h2
  rw [PH l _ _ h1 h2 h]
 | .lst l,a,b,h1,h2,h=>by
  first | obtain⟨_,rfl⟩:=dw h1 | obtain⟨_,rfl⟩:=dq h1 | obtain⟨_,rfl⟩:=du h1
  first | obtain⟨_,rfl⟩:=dw h2 | obtain⟨_,rfl⟩:=dq h2 | obtain⟨_,rfl⟩:=du h2
  rw [Vu l (pX l) _ _ h1 h2 h]
theorem PH:∀ (l:List nR) (xs ys:List D),fj l xs=true->fj l ys=true->kX xs ys=true->xs=ys
 | [],xs,ys,h1,h2,_=>by
  cases xs with
  | nil=>cases ys with
   | nil=>rfl
   | cons _ _=>cases h2
  | cons _ _=>cases h1
 | s :: l,xs,ys,h1,h2,h=>by
  cases xs with
  | nil=>cases h1
  | cons x xs =>
   cases ys with
   | nil=>cases h2
   | cons y ys =>
    have h1:(cX s x&&fj l xs)=true:=h1;have h2:(cX s y&&fj l ys)=true:=h2;have h:(iM x y&&kX xs ys)=true:=h;rw [aK] at h1 h2 h;rw [pX s x y h1.1 h2.1 h.1,PH l xs ys h1.2 h2.2 h.2]
end
theorem Ow(s:nR)(ih:∀ (a b:D),cX s a=true->cX s b=true->oY a b=false->oY b a=false->a=b):∀ (xs ys:List D),gJ s xs=true->gJ s ys=true->lS xs ys=false->lS ys xs=false->xs=ys:=by
 intro xs;induction xs with
 | nil=>intro ys _ _ h _; cases ys with
  | nil=>rfl
  | cons _ _=>cases h
 | cons x xs Xe =>
  intro ys h1 h2 h3 h4;cases ys with
  | nil=>cases h4
  | cons y ys =>
   have h1:(cX s x&&gJ s xs)=true:=h1;have h2:(cX s y&&gJ s ys)=true:=h2;rw [aK] at h1 h2;simp only [mO] at h3 h4;by_cases e:iM x y=true
   ·have exy:=pX s x y h1.1 h2.1 e;subst exy;rw [if_pos e] at h3 h4;rw [Xe ys h1.2 h2.2 h3 h4]
   ·rw [if_neg e] at h3;by_cases e2:iM y x=true
    ·have:=pX s y x h2.1 h1.1 e2;subst this; exact absurd e2 e
    ·rw [if_neg e2] at h4;have:=ih x y h1.1 h2.1 h3 h4;subst this;exact absurd (kD s x h1.1) e
mutual
theorem xN:∀ (sh:nR) (a b:D),cX sh a=true->cX sh b=true->oY a b=false->oY b a=false->a=b
 | .int,a,b,h1,h2,h3,h4=>by
  first | obtain⟨_,rfl⟩:=dw h1 | obtain⟨_,rfl⟩:=dq h1 | obtain⟨_,rfl⟩:=du h1
  first | obtain⟨_,rfl⟩:=dw h2 | obtain⟨_,rfl⟩:=dq h2 | obtain⟨_,rfl⟩:=du h2
  simp [Ox] at h3 h4; congr 1; lia
 | .tup l,a,b,h1,h2,h3,h4=>by
  first | obtain⟨_,rfl⟩:=dw h1 | obtain⟨_,rfl⟩:=dq h1 | obtain⟨_,rfl⟩:=du h1
  first | obtain⟨_,rfl⟩:=dw h2 | obtain⟨_,rfl⟩:=dq h2 | obtain⟨_,rfl⟩:=du h2
  rw [EN l _ _ h1 h2 h3 h4]
 | .lst l,a,b,h1,h2,h3,h4=>by
  first | obtain⟨_,rfl⟩:=dw h1 | obtain⟨_,rfl⟩:=dq h1 | obtain⟨_,rfl⟩:=du h1
  first | obtain⟨_,rfl⟩:=dw h2 | obtain⟨_,rfl⟩:=dq h2 | obtain⟨_,rfl⟩:=du h2
  rw [Ow l (xN l) _ _ h1 h2 h3 h4]
theorem EN:∀ (l:List nR) (xs ys:List D),fj l xs=true->fj l ys=true->lS xs ys=false->lS ys xs=false->xs=ys
 | [],xs,ys,h1,h2,_,_=>by
  cases xs with
  | nil=>cases ys with
   | nil=>rfl
   | cons _ _=>cases h2
  | cons _ _=>cases h1
 | s :: l,xs,ys,h1,h2,h3,h4=>by
  cases xs with
  | nil=>cases h1
  | cons x xs =>
   cases ys with
   | nil=>cases h2
   | cons y ys =>
    have h1:(cX s x&&fj l xs)=true:=h1;have h2:(cX s y&&fj l ys)=true:=h2;rw [aK] at h1 h2;simp only [mO] at h3 h4;by_cases e:iM x y=true
    ·have exy:=pX s x y h1.1 h2.1 e;subst exy;rw [if_pos e] at h3 h4;rw [EN l xs ys h1.2 h2.2 h3 h4]
    ·rw [if_neg e] at h3;by_cases e2:iM y x=true
     ·have:=pX s y x h2.1 h1.1 e2;subst this; exact absurd e2 e
     ·rw [if_neg e2] at h4;have:=xN s x y h1.1 h2.1 h3 h4;subst this;exact absurd (kD s x h1.1) e
end
mutual
theorem Ck:∀ (sh:nR) (a:D),cX sh a=true->oY a a=false
 | .int,.int i,_=>by rw [Ox]; exact decide_eq_false (Int.lt_irrefl _)
 | .tup l,.tup xs,h=>by show lS xs xs=false; exact EO l xs h
 | .lst l,.dP xs,h=>by show lS xs xs=false; exact ER l xs h
theorem EO:∀ (l:List nR) (xs:List D),fj l xs=true->lS xs xs=false
 | [],[],_=>rfl
 | s :: l,x :: xs,h=>by
  have h:(cX s x&&fj l xs)=true:=h;rw [aK] at h;simp only [mO,kD s x h.1,if_true]; exact EO l xs h.2
theorem ER:∀ (s:nR) (xs:List D),gJ s xs=true->lS xs xs=false
 | _,[],_=>rfl
 | s,x :: xs,h=>by
  have h:(cX s x&&gJ s xs)=true:=h;rw [aK] at h;simp only [mO,kD s x h.1,if_true]; exact ER s xs h.2
end
theorem Hy(s:nR)(ih:∀ (a b c:D),cX s a=true->cX s b=true->cX s c=true->oY a b=true->oY b c=true->oY a c=true):∀ (xs ys zs:List D),gJ s xs=true->gJ s ys=true->gJ s zs=true->lS xs ys=true->lS ys zs=true->lS xs zs=true:=by
 intro xs;induction xs with
 | nil =>
  intro ys zs _ _ _ h4 h5;cases ys with
  | nil=>cases h4
  | cons _ _=>cases zs with
   | nil=>cases h5
   | cons _ _=>rfl
 | cons x xs Xe =>
  intro ys zs h1 h2 h3 h4 h5;cases ys with
  | nil=>cases h4
  | cons y ys =>
   cases zs with
   | nil=>cases h5
   | cons z zs =>
    have h1:(cX s x&&gJ s xs)=true:=h1;have h2:(cX s y&&gJ s ys)=true:=h2;have h3:(cX s z&&gJ s zs)=true:=h3;rw [aK] at h1 h2 h3;simp only [mO] at h4 h5 ⊢;by_cases e1:iM x y=true
    ·have:=pX s x y h1.1 h2.1 e1;subst this;rw [if_pos e1] at h4;by_cases e2:iM x z=true
     ·rw [if_pos e2] at h5 ⊢;exact Xe ys zs h1.2 h2.2 h3.2 h4 h5
     ·rw [if_neg e2] at h5 ⊢; exact h5
    ·rw [if_neg e1] at h4;by_cases e2:iM y z=true
     ·have:=pX s y z h2.1 h3.1 e2;subst this;rw [if_neg e1]; exact h4
     ·rw [if_neg e2] at h5;have h6:=ih x y z h1.1 h2.1 h3.1 h4 h5;rw [if_neg (fun e3=>by
       have:=pX s x z h1.1 h3.1 e3;subst this;rw [Ck s x h1.1] at h6; cases h6)]
      exact h6
mutual
theorem rO:∀ (sh:nR) (a b c:D),cX sh a=true->cX sh b=true->cX sh c=true->oY a b=true->oY b c=true->oY a c=true
 | .int,a,b,c,h1,h2,h3,h4,h5=>by
  first | obtain⟨_,rfl⟩:=dw h1 | obtain⟨_,rfl⟩:=dq h1 | obtain⟨_,rfl⟩:=du h1
  first | obtain⟨_,rfl⟩:=dw h2 | obtain⟨_,rfl⟩:=dq h2 | obtain⟨_,rfl⟩:=du h2
  first | obtain⟨_,rfl⟩:=dw h3 | obtain⟨_,rfl⟩:=dq h3 | obtain⟨_,rfl⟩:=du h3
  simp [Ox] at *; lia
 | .tup l,a,b,c,h1,h2,h3,h4,h5=>by
  first | obtain⟨_,rfl⟩:=dw h1 | obtain⟨_,rfl⟩:=dq h1 | obtain⟨_,rfl⟩:=du h1
  first | obtain⟨_,rfl⟩:=dw h2 | obtain⟨_,rfl⟩:=dq h2 | obtain⟨_,rfl⟩:=du h2
  first | obtain⟨_,rfl⟩:=dw h3 | obtain⟨_,rfl⟩:=dq h3 | obtain⟨_,rfl⟩:=du h3
  exact yU l _ _ _ h1 h2 h3 h4 h5
 | .lst l,a,b,c,h1,h2,h3,h4,h5=>by
  first | obtain⟨_,rfl⟩:=dw h1 | obtain⟨_,rfl⟩:=dq h1 | obtain⟨_,rfl⟩:=du h1
  first | obtain⟨_,rfl⟩:=dw h2 | obtain⟨_,rfl⟩:=dq h2 | obtain⟨_,rfl⟩:=du h2
  first | obtain⟨_,rfl⟩:=dw h3 | obtain⟨_,rfl⟩:=dq h3 | obtain⟨_,rfl⟩:=du h3
  exact Hy l (rO l) _ _ _ h1 h2 h3 h4 h5
theorem yU:∀ (l:List nR) (xs ys zs:List D),fj l xs=true->fj l ys=true->fj l zs=true->lS xs ys=true->lS ys zs=true->lS xs zs=true
 | [],xs,ys,zs,h1,h2,_,h,_=>by
  cases xs with
  | nil=>cases ys with
   | nil=>cases h
   | cons _ _=>cases h2
  | cons _ _=>cases h1
 | s :: l,xs,ys,zs,h1,h2,h3,h4,h5=>by
  cases xs with
  | nil=>cases h1
  | cons x xs =>
   cases ys with
   | nil=>cases h2
   | cons y ys =>
    cases zs with
    | nil=>cases h3
    | cons z zs =>
     have h1:(cX s x&&fj l xs)=true:=h1;have h2:(cX s y&&fj l ys)=true:=h2;have h3:(cX s z&&fj l zs)=true:=h3;rw [aK] at h1 h2 h3;simp only [mO] at h4 h5 ⊢;by_cases e1:iM x y=true
     ·have:=pX s x y h1.1 h2.1 e1;subst this;rw [if_pos e1] at h4;by_cases e2:iM x z=true
      ·rw [if_pos e2] at h5 ⊢;exact yU l xs ys zs h1.2 h2.2 h3.2 h4 h5
      ·rw [if_neg e2] at h5 ⊢; exact h5
     ·rw [if_neg e1] at h4;by_cases e2:iM y z=true
      ·have:=pX s y z h2.1 h3.1 e2;subst this;rw [if_neg e1]; exact h4
      ·rw [if_neg e2] at h5;have h6:=rO s x y z h1.1 h2.1 h3.1 h4 h5;rw [if_neg (fun e3=>by
        have:=pX s x z h1.1 h3.1 e3;subst this;rw [Ck s x h1.1] at h6; cases h6)]
       exact h6
end
theorem Bc(sh:nR){a b:D}(h1:cX sh a=true)(h2:cX sh b=true)(h:oY a b=true):oY b a=false:=by
 cases q:oY b a with
 | false=>rfl
 | true=>have:=rO sh a b a h1 h2 h1 h q; rw [Ck sh a h1] at this; cases this
theorem yV(sh:nR){a b c:D}(h1:cX sh a=true)(h2:cX sh b=true)(h3:cX sh c=true)(q1:oY b a=false)(q2:oY c b=false):oY c a=false:=by
 cases h:oY c a with
 | false=>rfl
 | true =>
  exfalso;cases q:oY a b with
  | false =>
   have:=xN sh a b h1 h2 q q1;subst this; rw [h] at q2; cases q2
  | true=>rw [rO sh c a b h3 h1 h2 h q] at q2; cases q2
theorem uj(sh:nR){xs ys:List D}(hx:∀ x∈xs,cX sh x=true)(hp:ys.Perm xs)(hs:ys.Pairwise fun a b=>oY b a=false):qD xs=ys:=by
 have hy:∀ y∈ys,cX sh y=true:=fun y h=>hx y (hp.mem_iff.mp h);have p1:(qD xs).Perm xs:=List.mergeSort_perm xs QD;have hz:∀ z∈qD xs,cX sh z=true:=fun z h=>hx z (p1.mem_iff.mp h);have s1:(qD xs).Pairwise fun a b=>oY b a=false:=by
  let M4:List { d:D // cX sh d=true }:=xs.attach.map fun x=>⟨x.1,hx x.1 x.2⟩
  have ex:xs=M4.map (·.1):=by
   simp only [M4,aW]
   conv=>lhs; rw [<-List.attach_map_subtype_val xs]
   rfl
  have e2:qD xs=(M4.mergeSort fun a b=>QD a.1 b.1).map (·.1):=by
   unfold qD;rw [ex];exact(List.map_mergeSort (r:=fun (a b:{ d:D // cX sh d=true })=>QD a.1 b.1) (s:=QD) (f:=fun x=>x.1) (l:=M4) fun a _ b _=>rfl).symm
  rw [e2,AQ]
  have:=List.pairwise_mergeSort (le:=fun (a b:{ d:D // cX sh d=true })=>QD a.1 b.1) (fun a b c h1 h2=>by
   unfold QD at *;simp only [Bool.not_eq_true'] at *;exact yV sh a.2 b.2 c.2 h1 h2) (fun a b=>by
   unfold QD;cases q:oY b.1 a.1 with
   | false=>rfl
   | true=>rw [Bc sh b.2 a.2 q]; rfl) M4
  exact this.imp fun h=>by unfold QD at h; simpa using h
 refine List.Perm.eq_of_pairwise (le:=fun a b=>oY b a=false) (fun a b ha hb h h'=>?_) s1 hs (p1.trans hp.symm);exact xN sh a b (hz a ha) (hy b hb) h' h
end K2
end
section
namespace K2
open PySem (Str)
open Enc (enc)
noncomputable def Zt(P:D->D->Gp->Prop):List D->Gp->Prop
 | [x,y],G=>P x y G
 | _,_=>False
noncomputable def o9:List D->List D->List D
 | x :: xs,y :: ys=>.tup [x,y] :: o9 xs ys
 | _,_=>[]
theorem DN:∀ (xs ys:List D) (i:Nat),(o9 xs ys)[i]?=(xs[i]?).bind fun x=>(ys[i]?).map fun y=>D.tup [x,y]
 | [],ys,i=>by simp [o9]
 | x :: xs,[],i=>by cases h:(x :: xs)[i]? <;> simp [o9]
 | x :: xs,y :: ys,0=>by simp [o9]
 | x :: xs,y :: ys,i+1=>by rw [o9,ae,DN xs ys i,ae,ae]
theorem DM:∀ (xs ys:List D),(o9 xs ys).length=min xs.length ys.length
 | [],ys=>by simp [o9]
 | x :: xs,[]=>by simp [o9]
 | x :: xs,y :: ys=>by rw [o9,ak,DM xs ys,ak,ak]; lia
noncomputable def uL(x:D)(G:Gp):Option (List D×(Gp->Prop)):=match x with
 | .dP ds=>some (ds,fun _=>True)
 | .ref p=>(match G p with
  | some (.lst ds)=>some (ds,fun G2=>G2 p=some (.lst ds))
  | _=>none)
 | _=>none
noncomputable def tE(x y:D)(G1:Gp)(R:List D->(Gp->Prop)->Gp->Prop):Prop:=match uL x G1,uL y G1 with
 | some (xs,k1),some (ys,k2)=>R (o9 xs ys) (fun G2=>k1 G2/\k2 G2) G1
 | _,_=>False
noncomputable def OZ(a b:fY):MF:=fun E τ G R=>a E τ G fun x G1=>b E τ G1 fun y G2=>tE x y G2 R
noncomputable def Cu(x:D)(G1:Gp)(R:List D->(Gp->Prop)->Gp->Prop):Prop:=match x with
 | .kJ kvs=>R (kvs.map (·.1)) (fun _=>True) G1
 | _=>False
noncomputable def uV(a:fY):MF:=fun E τ G R=>a E τ G fun x G1=>Cu x G1 R
noncomputable def IsL(G:Gp)(d:D)(ds:List D):Prop:=d=.dP ds\/∃ a,d=.ref a/\G a=some (.lst ds)
theorem IsL.dP{G:Gp}{ds:List D}:IsL G (.dP ds) ds:=.inl rfl
theorem IsL.enc{α:Type} [DecidableEq α] [Enc α]{G:Gp}(xs:List α):IsL G (enc xs) (xs.map enc):=.inl rfl
theorem IsL.ref{G:Gp}{a:Nat}{ds:List D}(h:G a=some (.lst ds)):IsL G (.ref a) ds:=.inr ⟨a,rfl,h⟩
theorem ET{G:Gp}{d:D}{ds:List D}(h:IsL G d ds):∃ ok:Gp->Prop,uL d G=some (ds,ok)/\∀ G',fB G G'->ok G':=by
 rcases h with rfl | ⟨a,rfl,e⟩
 ·exact⟨_,rfl,fun _ _=>trivial⟩
 ·unfold uL; simp only [e]; exact⟨_,rfl,fun G' l=>l a _ e⟩
theorem LF{G:Gp}{d d':D}{ds ds':List D}{R:List D->(Gp->Prop)->Gp->Prop}(h:IsL G d ds)(h':IsL G d' ds')(k:∀ ok:Gp->Prop,(∀ G',fB G G'->ok G')->R (o9 ds ds') ok G):tE d d' G R:=by
 obtain⟨k1,e1,h1⟩:=ET h;obtain⟨k2,e2,h2⟩:=ET h';unfold tE; simp only [e1,e2];exact k _ fun G' l=>⟨h1 G' l,h2 G' l⟩
theorem pG{G:Gp}{d:D}{ds:List D}(h:IsL G d ds):itemsOf d G=some ds:=by
 rcases h with rfl | ⟨a,rfl,e⟩
 ·rfl
 ·unfold itemsOf; simp only [e]
theorem M9{G:Gp}{d:D}{ds:List D}(h:IsL G d ds):Gd d G:=by
 rcases h with rfl | ⟨a,rfl,e⟩
 ·trivial
 ·unfold Gd; simp only [e]
theorem B7{G:Gp}{d:D}{ds:List D}{lo hi:Option Int}{Q:DK}(h:IsL G d ds)(k:gL G (.lst (cut ds lo hi)) Q):UA d lo hi G Q:=by
 rcases h with rfl | ⟨a,rfl,e⟩
 ·exact k
 ·rw [Ra e]; exact k
theorem C2{G:Gp}{d:D}{ds:List D}{Q:DK}(h:IsL G d ds)(k:Q (.int (ds.length:Int)) G):xm [d] G Q:=by
 rcases h with rfl | ⟨a,rfl,e⟩
 ·exact k
 ·rw [FH e]; exact k
theorem P9{G:Gp}{d:D}{ds:List D}{Q:DK}(h:IsL G d ds)(k:gL G (.lst ds) Q):w8 [d] G Q:=by
 unfold w8; simp only [pG h]; exact k
theorem zF{α:Type} [DecidableEq α] [Enc α] [bt α]{G:Gp}{d:D}{xs:List α}{Q:DK}(h:IsL G d (xs.map enc))(hl:xs.length < 64)(k:gL G (.lst ((Q6 xs).map enc)) Q)(ok:autoParam (UT (bt.AW α)=true) Ad._auto_1):vi [d] G Q :=
 ⟨bt.AW α,xs.map enc,M9 h,pG h,by rw [mZ,iK]; intro x _; exact bt.Cy x,ok,by rw [aq]; exact hl,by rw [KW]; exact k⟩
theorem He{G:Gp}{d x:D}{ds:List D}{i:Int}{Q:DK}(h:IsL G d ds)(e:ua ds i=some x)(k:Q x G):mf d (.int i) G Q:=by
 rcases h with rfl | ⟨a,rfl,e2⟩
 ·rw [Rb e]; exact k
 ·rw [Rc e2 e]; exact k
theorem oO{G:Gp}{d:D}{ds:List D}(h:IsL G d ds):pQ d G=some ds:=by
 rcases h with rfl | ⟨a,rfl,e⟩
 ·rfl
 ·unfold pQ; simp only [e]
theorem Sy{G:Gp}{d e:D}{ds es:List D}{Q:DK}(h:IsL G d ds)(h':IsL G e es)(hz:ds.length+es.length<=SZ)(k:gL G (.lst (ds++es)) Q):IG d e G Q:=by
 unfold IG; simp only [oO h,oO h']; exact⟨hz,k⟩
theorem pj{G:Gp}{d e:D}{ds es:List D}{Q:DK}(h:IsL G d ds)(h':IsL G e es)(hz:ds.length+es.length<=SZ)(k:gL G (.lst (ds++es)) Q):i7 d e G Q:=by
 have:=Sy h h' hz k;rcases h with rfl | ⟨a,rfl,_⟩
 ·rw [oH]; exact this
 ·rw [mJ]; exact this
theorem zA{α:Type}(xs:List α)(i:Nat)(h:i<=xs.length):cut xs (some (i:Int)) none=xs.drop i:=by
 unfold cut jr;simp only;rw [if_neg (by lia),eN,Nat.min_eq_left h];exact MU (by rw [cN]; lia)
theorem Iz{α:Type}(xs:List α)(i:Nat)(h:i<=xs.length):cut xs none (some (i:Int))=xs.take i:=by
 unfold cut jr;simp only;rw [if_neg (by lia),eN,Nat.min_eq_left h];simp
theorem vc{α β:Type}(f:α->β)(xs:List α)(lo hi:Option Int):cut (xs.map f) lo hi=(cut xs lo hi).map f:=by
 unfold cut; rw [aq,Mp,Mq]
theorem pL{α:Type}(xs:List α){k:Int}(h0:0<=k)(h1:k < xs.length):ua xs k=some (xs[k.toNat]'(by lia)):=by
 unfold ua Gh;rw [if_pos h0,if_pos h1];show xs[k.toNat]?=_;exact ay (by lia)
theorem Hb{n:Nat}{pre post:List D}{d:D}(h:gH 0 n=pre++d :: post):d=.int (pre.length:Int)/\pre.length < n:=by
 have hl:pre.length < n:=by
  have:=congrArg di h;simp [gH] at this; lia
 have:=congrArg (fun l=>l[pre.length]?) h;simp only [gH,bA,List.getElem?_range hl] at this;rw [cD (aI _)] at this;simp at this;exact⟨this.symm,hl⟩
noncomputable def Uo{α β:Type} [DecidableEq α] [Enc α] [DecidableEq β] [Enc β](pre:α->Prop)(f:α->β):nQ:=fun ds G Q _=>∃ a:α,ds=[enc a]/\pre a/\Q (enc (f a)) G
noncomputable def Zd{α β γ:Type} [DecidableEq α] [Enc α] [DecidableEq β] [Enc β] [DecidableEq γ] [Enc γ](pre:α->β->Prop)(f:α->β->γ):nQ:=fun ds G Q _=>∃ (a:α) (b:β),ds=[enc a,enc b]/\pre a b/\Q (enc (f a b)) G
end K2
end
section
namespace K2
open PySem (Str)
open Enc (enc)
noncomputable def Zn:AK
 | .int i,.int j,G,Q=>(0<=j/\j<=1000000/\i.natAbs < 2 ^ 64)/\Q (.int (i ^ j.toNat)) G
 | _,_,_,_=>False
noncomputable def sF:Nat:=2 ^ 4000
noncomputable def Jv:AK
 | .int i,.int j,G,Q=>(i.natAbs < sF/\j.natAbs < sF)/\Q (.int (i * j)) G
 | _,_,_,_=>False
theorem uC{i j:Int}{G:Gp}{Q:DK}:Zn (.int i) (.int j) G Q=((0<=j/\j<=1000000/\i.natAbs < 2 ^ 64)/\Q (.int (i ^ j.toNat)) G):=rfl
theorem me{i j:Int}{G:Gp}{Q:DK}:Jv (.int i) (.int j) G Q=((i.natAbs < sF/\j.natAbs < sF)/\Q (.int (i * j)) G):=rfl
noncomputable def u7:D->Gp->Option (List (D×D))
 | .kJ kvs,_=>some kvs
 | .ref a,G=>match G a with
  | some (.gP kvs)=>some kvs
  | _=>none
 | _,_=>none
noncomputable def uQ(kvs:List (D×D)):Bool:=kvs.all fun p=>eK p.1
noncomputable def Kn(ds:List D)(G:Gp)(Q:DK):Prop:=match ds with
 | [x]=>∃ kvs,u7 x G=some kvs/\uQ kvs=true/\kvs.length<=SZ/\gL G (.gP kvs) Q
 | _=>False
noncomputable def Ln(x:D)(ds:List D)(G:Gp)(Q:DK):Prop:=match ds with
 | [k,d]=>∃ kvs,u7 x G=some kvs/\uQ kvs=true/\eK k=true/\Q ((look kvs k).getD d) G
 | _=>False
noncomputable def E2(x:D)(G1:Gp)(R:List D->(Gp->Prop)->Gp->Prop):Prop:=match x with
 | .kJ kvs=>uQ kvs=true/\R (kvs.map fun p=>.tup [p.1,p.2]) (fun _=>True) G1
 | _=>False
noncomputable def jz(a:fY):MF:=fun E τ G R=>a E τ G fun x G1=>E2 x G1 R
noncomputable def zy(k v:fY):fY:=fun E τ G Q=>k E τ G fun x G1=>v E τ G1 fun y G2=>eK x=true/\gL G2 (.gP [(x,y)]) Q
noncomputable def wb(l m:List (Int×Int)):Bool:=l.length == m.length&&l.all fun p=>cM m p.1 == some p.2
noncomputable def UB(neg:Bool):AK:=fun x y G Q=>∃ l m:List (Int×Int),u7 x G=some (bF l)/\u7 y G=some (bF m)/\Q (.bl (if neg then !wb l m else wb l m)) G
noncomputable def K8(neg:Bool):AK:=fun x y G Q=>K9 neg x y G Q\/UB neg x y G Q
noncomputable def zS{κ α:Type} [DecidableEq κ] [Enc κ] [DecidableEq α] [Enc α](G:Gp)(d:D)(l:List (κ×α)):Prop:=u7 d G=some (bF l)
section
variable {κ α:Type} [DecidableEq κ] [Enc κ] [DecidableEq α] [Enc α] {l:List (κ×α)} {G G':Gp} {d:D}
theorem zS.ref{a:Nat}(h:G a=some (.gP (bF l))):zS G (.ref a) l:=by unfold zS u7; simp only [h]
theorem zS.kJ:zS G (.kJ (bF l)) l:=rfl
theorem zS.inv(h:zS G d l):d=.kJ (bF l)\/∃ a,d=.ref a/\G a=some (.gP (bF l)):=by
 unfold zS u7 at h;split at h
 ·exact .inl (by rw [ba h])
 ·rename_i a;split at h
  ·rename_i kvs e;exact .inr ⟨a,rfl,by rw [e,ba h]⟩
  ·cases h
 ·cases h
noncomputable def TZ(_:Gp)(d:D)(l:List (κ×α)):Prop:=d=.kJ (bF l)
theorem TZ.p(h:TZ G d l):zS G' d l:=by unfold TZ at h; rw [h]; exact .kJ
theorem kB{β:Type} [DecidableEq β] [Enc β](l:List (Int×β)):uQ (bF l)=true:=by
 unfold uQ bF; rw [mZ,iK]; intro p _; rfl
theorem By(l:List (κ×α)):(bF l).length=l.length:=by unfold bF; rw [aq]
theorem Na(h:zS G d l):Q0 d G:=by
 rcases h.inv with rfl | ⟨a,rfl,e⟩
 ·trivial
 ·unfold Q0; simp only [e]
theorem OU {C:String} {Q:DK} (h:zS G d l) (k:Q (.bl (C == "dict")) G):isAt C d G Q:=by
 rcases h.inv with rfl | ⟨a,rfl,e⟩
 ·exact k
 ·rw [OT]; simp only [e]; exact k
end
section
variable {α:Type} [DecidableEq α] [Enc α] {l:List (Int×α)} {G:Gp} {d:D}
theorem Qa{Q:DK}(h:zS G d l)(hs:l.length<=SZ)(k:gL G (.gP (bF l)) Q):Kn [d] G Q:=⟨_,h,kB l,by rw [By]; exact hs,k⟩
theorem RP{Q:DK}{i:Int}{e:α}(h:zS G d l)(k:Q (enc ((cM l i).getD e)) G):Ln d [.int i,enc e] G Q:=by
 refine⟨_,h,kB l,rfl,?_⟩;have:(look (bF l) (.int i)).getD (enc e)=enc ((cM l i).getD e):=by
  rw [show (D.int i)=enc i from rfl,uM]; cases cM l i <;> rfl
 rw [this]; exact k
theorem kU{G0:Gp}{R:List D->(Gp->Prop)->Gp->Prop}(h:TZ G0 d l)(le0:fB G0 G)(k:∀ ok:Gp->Prop,(∀ G',fB G0 G'->ok G')->R (l.map fun p=>.tup [.int p.1,enc p.2]) ok G):E2 d G R:=by
 unfold TZ at h;rw [h];refine⟨kB l,?_⟩;have:(bF l).map (fun p=>D.tup [p.1,p.2])=l.map fun p=>.tup [.int p.1,enc p.2]:=by unfold bF; rw [aW]; rfl
 rw [this];exact k _ fun G' le=>trivial
theorem HK{G0:Gp}{R:List D->(Gp->Prop)->Gp->Prop}(h:TZ G0 d l)(le0:fB G0 G)(k:∀ ok:Gp->Prop,(∀ G',fB G0 G'->ok G')->R (l.map fun p=>.int p.1) ok G):Cu d G R:=by
 unfold TZ at h;rw [h];show R ((bF l).map (·.1)) _ G;have:(bF l).map (·.1)=l.map fun p=>D.int p.1:=by unfold bF; rw [aW]; rfl
 rw [this];exact k _ fun G' le=>trivial
theorem S0{i:Int}{v:α}{Q:DK}(h:zS G d l)(e:cM l i=some v)(k:Q (enc v) G):mf d (.int i) G Q:=by
 have hk:gZ (bF l) (.int i)=true:=mP l i;have hl:look (bF l) (.int i)=some (enc v):=by rw [show (D.int i)=enc i from rfl,uM,e]; rfl
 rcases h.inv with rfl | ⟨a,rfl,e⟩
 ·rw [xF,hl]; exact⟨hk,k⟩
 ·rw [xG,e]; simp only [hl]; exact⟨hk,k⟩
theorem ie{a:Nat}{i:Int}{v:α}{Q:Gp->Prop}(h:G a=some (.gP (bF l)))(hs:l.length < SZ)(k:Q (dO G a (.gP (bF (eV l i v))))):wD (.ref a) (.int i) (enc v) G Q:=by
 unfold wD;simp only [h];refine⟨mP l i,by rw [By]; exact hs,?_⟩;rw [show (D.int i)=enc i from rfl,Jy]; exact k
end
theorem NP{neg:Bool}{G:Gp}{d e:D}{l m:List (Int×Int)}{Q:DK}(h1:zS G d l)(h2:zS G e m)(k:Q (.bl (if neg then !wb l m else wb l m)) G):K8 neg d e G Q:=.inr ⟨l,m,h1,h2,k⟩
theorem NO{neg:Bool}{G:Gp}{i j:Int}{Q:DK}(k:Q (.bl (if neg then !decide (i=j) else decide (i=j))) G):K8 neg (.int i) (.int j) G Q:=.inl ⟨_,_,.int _,.int _,by
 have:iM (.int i) (.int j)=decide (i=j):=Enc.eqv i j;rw [this]; exact k⟩
end K2
end
section
namespace K2
open PySem (Str)
open Enc (enc)
noncomputable abbrev TF2:=lX->ik->Gp->(List Str->Gp->Prop)->Prop
noncomputable def BD(a:fY):fY:=fun E τ G Q=>a E τ G fun x G1=>∃ ds,pQ x G1=some ds/\gL G1 (.lst ds.reverse) Q
end K2
end
section
namespace K2
open PySem (Str)
open Enc (enc)
noncomputable def VB(ds:List D)(G:Gp)(Q:DK):Prop:=match ds with
 | [x]=>∃ ns:List Int,Gd x G/\itemsOf x G=some (ns.map D.int)/\(ns.length<=1000/\∀ n∈ns,-1000<=n/\n<=1000)/\Q (.int ns.sum) G
 | _=>False
end K2
end
section
namespace K2
open PySem (Str)
noncomputable def LG(x:D)(G1:Gp)(R:List D->(Gp->Prop)->Gp->Prop):Prop:=match x with
 | .kJ kvs=>(kvs.all fun p=>kC p.1)=true/\R (kvs.map fun p=>.tup [p.1,p.2]) (fun _=>True) G1
 | _=>False
noncomputable def Ct(a:fY):MF:=fun E τ G R=>a E τ G fun x G1=>LG x G1 R
end K2
end
section
namespace K2
open PySem (Str)
noncomputable def FA(kv:List (Int×Int)):fY:=fun _ _ G Q=>gL G (.gP (bF kv)) Q
end K2
end
section
namespace K2
open PySem (Str)
open Enc (enc)
noncomputable def h2(t:T2):Int:=PySem.reduceHash (PySem.Builtin.Tuple.tupleHashOf [PySem.hashInt t.a,PySem.hashInt t.b])
end K2
end
section
namespace K2
open PySem (Str)
noncomputable def Sr(ds:List D)(G:Gp)(Q:DK):Prop:=match ds with
 | [x]=>(match pQ x G with
  | some xs=>Q (.tup xs) G
  | none=>False)
 | _=>False
end K2
end
section
namespace K2
open PySem (Str)
noncomputable def only(a:Nat)(o:GO):Gp:=fun b=>if b=a then some o else none
end K2
end
section
namespace K2
open PySem (Str)
noncomputable def pR(kvs:List (PK×D))(k:PK):Option D:=(kvs.find? fun p=>decide (p.1=k)).map (·.2)
noncomputable def La(kvs:List (PK×D))(k:PK)(v:D):List (PK×D) :=
 if (kvs.any fun p=>decide (p.1=k))=true then kvs.map (fun p=>if p.1=k then (p.1,v) else p) else kvs++[(k,v)]
noncomputable def tyP(x:D)(G:Gp):Prop:=match x with
 | .ref a=>(match G a with
  | some (.sE _)=>True
  | _=>False)
 | .oX _=>True
 | _=>False
noncomputable def EM(x:D)(ds:List D)(G:Gp)(Q:DK):Prop:=match x,ds with
 | .ref a,[k,d]=>∃ kvs pk,G a=some (.sE kvs)/\k=pP pk/\Q ((pR kvs pk).getD d) G
 | .oX kvs,[k,d]=>∃ pk,k=pP pk/\Q ((pR kvs pk).getD d) G
 | _,_=>False
noncomputable def GZ(o k d:D)(G:Gp)(Q:Gp->Prop):Prop:=match o with
 | .ref a=>∃ kvs pk,G a=some (.sE kvs)/\k=pP pk/\kvs.length < SZ/\Q (dO G a (.sE (La kvs pk d)))
 | _=>False
noncomputable def E7(o k:fY):Aa:=fun E d τ G Q=>o E τ G fun x G1=>k E τ G1 fun y G2=>GZ x y d G2 fun G3=>Q τ G3
noncomputable def PY:fY:=fun _ _ G Q=>gL G (.sE []) Q
noncomputable def PX(k v:fY):fY:=fun E τ G Q=>k E τ G fun x G1=>v E τ G1 fun y G2=>∃ pk,x=pP pk/\gL G2 (.sE [(pk,y)]) Q
noncomputable def LH(x:D)(G1:Gp)(R:List D->(Gp->Prop)->Gp->Prop):Prop:=match x with
 | .oX kvs=>R (kvs.map fun p=>.tup [pP p.1,p.2]) (fun _=>True) G1
 | _=>False
noncomputable def uU(a:fY):MF:=fun E τ G R=>a E τ G fun x G1=>LH x G1 R
noncomputable def EL(x:D)(ds:List D)(G:Gp)(Q:DK):Prop:=match x,ds with
 | .ref a,[k]=>∃ kvs d,G a=some (.gP kvs)/\(kC k=true/\(kvs.all fun p=>kC p.1)=true/\look kvs k=some d)/\Q d (dO G a (.gP (kvs.filter fun p=>!iM p.1 k)))
 | _,_=>False
end K2
end
section
namespace K2
open PySem
section
variable {prog:bM} {w:World} {K:Type} [DecidableEq K] (knd:DH prog w K)
inductive sG (h:Heap):List K->List Value->Prop
 | nil:sG h [] []
 | cons {k:K} {b:Addr} {ks:List K} {vs:List Value}:knd.is h k b->sG h ks vs->sG h (k :: ks) (.ref b :: vs)
noncomputable def sH (h:Heap) (ks:List K) (a:Addr):Prop:=∃ o items n,h.get? a=some o/\o.cls=.type "tuple"/\o.data=.seq items n/\sG knd h ks items.toList
variable {knd}
theorem sG.inj{h:Heap}{x y:List K}{vs:List Value}(hx:sG knd h x vs)(hy:sG knd h y vs):x=y:=by
 induction hx generalizing y with
 | nil=>cases hy; rfl
 | cons h1 _ ih =>
  cases hy with
  | cons h2 t2=>rw [knd.inj h1 h2,ih t2]
theorem sG.keeps{h h':Heap}{ks:List K}{vs:List Value}{d:Addr}{o:Obj}{es ep}(x:sG knd h ks vs)(ho:h.get? d=some o)(hd:o.data=.dict es ep)(hs:fF d h h'):sG knd h' ks vs:=by
 induction x with
 | nil=>exact .nil
 | cons h1 _ ih=>exact .cons (knd.keeps h1 ho hd hs) ih
theorem sH.typeIs {s:az} {ks:List K} {a:Addr} (x:sH knd s.heap ks a):s.TypeIs (.ref a) "tuple":=let ⟨o,_,_,ho,hc,_⟩:=x; ⟨o,ho,hc⟩
theorem sH.inj{h:Heap}{a:Addr}{x y:List K}(hx:sH knd h x a)(hy:sH knd h y a):x=y:=by
 obtain⟨o,items,n,ho,_,hd,hi⟩:=hx;obtain⟨o',Z2,n',Dw,_,z9,O7⟩:=hy;obtain rfl:o=o':=ba (ho.symm.trans Dw);rw [hd] at z9;injection z9 with h1 _
 subst h1;exact hi.inj O7
theorem sH.keeps{h h':Heap}{ks:List K}{a d:Addr}{o:Obj}{es ep}(x:sH knd h ks a)(ho:h.get? d=some o)(hd:o.data=.dict es ep)(hs:fF d h h'):sH knd h' ks a:=by
 obtain⟨o',items,n,Dw,hc,z9,hi⟩:=x;have Bn:a≠d:=by
  rintro rfl;obtain rfl:o'=o:=ba (Dw.symm.trans ho);rw [hd] at z9; exact nomatch z9
 exact⟨o',items,n,(hs.2 a Bn).trans Dw,hc,z9,hi.keeps ho hd hs⟩
noncomputable def Ci(knd:DH prog w K)(ks:List K):Int:=reduceHash (dN (ks.map knd.hash))
noncomputable def kL(knd:DH prog w K):List K->Nat
 | []=>0
 | k :: ks=>knd.draws k+kL knd ks
theorem uI(ks:List K)(k:K):kL knd (ks++[k])=kL knd ks+knd.draws k:=by
 induction ks with
 | nil=>simp [kL]
 | cons a r ih=>rw [aB,kL,kL,ih,jH]
variable {A:dD} {E:Value->az->Prop} {s:az}
theorem J3{ks:List K}{a:Addr}{Q:Int->az->Prop}(hu:A.units < cLine/\knd.room A.in1)(hk:sH knd s.heap ks a)(h:Q (Ci knd ks) { s with toks:=s.toks+(kL knd ks+1) }) :
  wpAny (model prog w) A (pyHash (.ref a)) Q E s:=by
 have hT:=hk.typeIs;obtain⟨o,items,n,ho,_,hd,hi⟩:=hk;unfold pyHash
 first | unfold pyHashByItsType | skip
 first | refine ag (wpAny_cRoomFor_or (.inr hu.1) ?_) | skip
 refine ag (mx hT F.slot_tuple_hash.lookup ?_);show wpAny _ _ (if (some (Value.builtin "tuple.__hash__") == some fX)=true then _ else _) Q E s;rw [if_neg (by rw [beq_builtin_none]; exact i6)];refine ag (mx hT F.slot_tuple_hash.lookup ?_);show wpAny _ _ (callSpecialIfBoundUnlessNone? (.ref a) "__hash__" _ >>= _) Q E s;refine ag (wpAny_callSpecialIfBoundUnlessNone?_slot hT F.slot_tuple_hash (c9 F.slot_tuple_hash hT F.entry_tuple_hash ?_ (F.args_tuple_hash_1 _)));show wpAny _ _ (xu (.ref a) >>= _) _ _ s;refine ag (Dy ho hd ?_);refine ag ?_;rw [<-yc];refine lb _
  (fun rest (b:Array Int) s'=>∃ done left,ks=done++left/\sG knd s.heap left rest/\b.toList=done.map knd.hash/\s'={ s with toks:=s.toks+kL knd done })
  _ ?_ ?_ _ _ ⟨[],ks,rfl,hi,rfl,rfl⟩
 ·rintro x rest b s' ⟨done,left,rfl,hl,hb,rfl⟩;cases hl with
  | @cons k _ ks' _ h1 hl' =>
   refine ag (knd.pyHash hu.2 h1 ?_)
   first
    | exact aC ⟨done++[k],ks',by simp,hl',by simp [hb],by simp [uI,jH]⟩
    | exact ag (aC (aC ⟨done++[k],ks',by simp,hl',by simp [hb],by simp [uI,jH]⟩))
 ·rintro b s' ⟨done,left,rfl,hl,hb,rfl⟩;cases hl;rw [bN] at h;show wpAny _ _ (retInt (dN b.toList)) _ _ _;rw [hb];refine wpAny_ret_mkInt ?_;show wpAny _ _ (if (decide (-(2:Int) ^ 63<=dN (done.map knd.hash))&&decide (dN (done.map knd.hash) < 2 ^ 63))=true then _ else _) Q E _;unfold Ci reduceHash at h;by_cases hr:(decide (-(2:Int) ^ 63<=dN (done.map knd.hash))&&decide (dN (done.map knd.hash) < 2 ^ 63))=true
  ·rw [if_pos hr];rw [if_pos hr] at h;exact aC (by simpa [jH] using h)
  ·rw [if_neg hr];rw [if_neg hr] at h;exact ag (wpAny_rule (aC (by simpa [jH] using h)))
theorem Il{x y:List K}{a b:Addr}{P:Fin->az->Prop}(hu:knd.room A)(hx:sH knd s.heap x a)(hy:sH knd s.heap y b)(h:P (.done (.ret (.bool (decide (x=y))))) s) :
  wpAny (model prog w) A (Builtin.«tuple.__eq__» ⟨[.ref a,.ref b],[]⟩) P E s:=by
 have hTb:=hy.typeIs;obtain⟨oa,xs,na,hoa,_,hda,hia⟩:=hx;obtain⟨ob,ys,nb,hob,_,LN,hib⟩:=hy;show wpAny _ _ (isInstance (.ref b) (.type "tuple") >>= _) _ _ s;refine ag (la hTb x6 ?_);simp only [cb,aw,if_false];refine ag (Dy hoa hda ?_);refine ag (Dy hob LN ?_);refine ag ?_;refine lb _
  (fun rest r s'=>r.1=none/\s'=s/\∃ x' y' M4 Wq,rest=List.zip M4 Wq/\sG knd s.heap x' M4/\sG knd s.heap y' Wq/\decide (x'=y')=decide (x=y)/\(M4.length == Wq.length)=(xs.size == ys.size))
  _ ?_ ?_ _ _ ⟨rfl,rfl,x,y,xs.toList,ys.toList,rfl,hia,hib,rfl,by simp⟩
 ·rintro⟨u,v⟩ rest r s' ⟨hr,rfl,x',y',M4,Wq,hz,hx',Tq,RY,hlen⟩;cases hx' with
  | nil=>simp at hz
  | @cons k1 u' x'' Y4 h1 aab =>
   cases Tq with
   | nil=>simp at hz
   | @cons k2 v' y'' Y3 h2 Z9 =>
    simp only [qc,List.cons.injEq,Prod.mk.injEq] at hz;obtain⟨⟨rfl,rfl⟩,rfl⟩:=hz;refine ag (knd.eqBool hu h1 h2 ?_);by_cases hk:k1=k2
    ·subst hk;rw [decide_eq_true rfl];simp only [cb,aw,if_false];refine aC ⟨rfl,rfl,x'',y'',Y4,Y3,rfl,aab,Z9,?_,by simpa using hlen⟩;rw [<-RY];by_cases V1:x''=y''
     ·simp [V1]
     ·simp [V1]
    ·rw [decide_eq_false hk];simp only [eX,if_true];have hf:decide (x=y)=false:=by rw [<-RY]; simp [hk]
     rw [hf] at h;exact ag (aC (aC (aC h)))
 ·rintro⟨r1,r2⟩ s' ⟨hr,rfl,x',y',M4,Wq,hz,hx',Tq,RY,hlen⟩;simp only at hr;subst hr;refine aC ?_;have aaF:(xs.size == ys.size)=decide (x=y):=by
   rw [<-RY,<-hlen];cases hx' with
   | nil =>
    cases Tq with
    | nil=>simp
    | cons _ _=>simp
   | cons _ _ =>
    cases Tq with
    | nil=>simp
    | cons _ _=>simp at hz
  show P (.done (.ret (.bool (xs.size == ys.size)))) s';rw [aaF]; exact h
theorem Bx{x y:List K}{a b:Addr}{Q:Bool->az->Prop}(hu:A.units < cLine/\knd.room A.in1)(hx:sH knd s.heap x a)(hy:sH knd s.heap y b)(h:Q (decide (x=y)) s) :
  wpAny (model prog w) A (eqBool (.ref a) (.ref b)) Q E s:=by
 unfold eqBool
 try with_reducible refine eM ?_
 show wpAny _ _ (if (fm a == fm b)=true then _ else _) Q E s;by_cases XC:(fm a == fm b)=true
 ·rw [if_pos XC];have e:a=b:=by have:=eq_of_beq XC; injection this
  subst e;obtain rfl:=hx.inj hy;exact ag (wpAny_rule (aC (by simpa using h)))
 ·rw [if_neg XC];exact ag (wpAny_richCompare_same_room (op:=.Eq) hx.typeIs hy.typeIs F.slot_tuple_eq
   (c9 F.slot_tuple_eq hx.typeIs F.entry_tuple_eq (Il hu.2 hx hy ⟨_,rfl,(fun e=>nomatch e),ub h⟩) (F.args_tuple_eq_2 _ _)) hu.1)
theorem yC{ks:List K}{a:Addr}{Q:Bool->az->Prop}(n:Nat)(hq:∀ (k:K) (b:Addr) (Q:Bool->az->Prop),knd.is s.heap k b->Q true s->wpAny (model prog w) A (MR n (.ref b)) Q E s)(hk:sH knd s.heap ks a)(h:Q true s):wpAny (model prog w) A (MR (n+1) (.ref a)) Q E s:=by
 have hT:=hk.typeIs;obtain⟨o,items,n',ho,_,hd,hi⟩:=hk;unfold MR;refine ag (mx hT F.slot_tuple_eq.lookup ?_);show wpAny _ _ (isInstance (.ref a) (.type "tuple") >>= _) _ _ s;refine ag (la hT x6 ?_);simp only [cb,aw,if_false];refine ag (QN ho hd ?_);refine ag ?_;show wpAny _ _ (forIn items _ _) _ _ s;rw [<-yc];refine lb _ (fun rest r s'=>r.1=none/\s'=s/\∃ l,sG knd s.heap l rest) _ ?_ ?_ _ _ ⟨rfl,rfl,_,hi⟩
 ·rintro v rest r s' ⟨hr,rfl,l,Aw⟩;cases Aw with
  | cons h1 h2 =>
   refine ag (hq _ _ _ h1 ?_);simp only [cb,aw,if_false];exact aC ⟨rfl,rfl,_,h2⟩
 ·rintro⟨r1,r2⟩ s' ⟨hr,rfl,_⟩;simp only at hr;subst hr;exact aC h
end
theorem Jw{prog:bM}{w:World}{K:Type} [DecidableEq K]{knd:KeyKind prog w K}{A:dD}{E:Value->az->Prop}{s:az}{ks:List K}{a:Addr}{Q:Bool->az->Prop}(n:Nat)(hk:IsTupleKey knd s.heap ks a)(h:Q true s):wpAny (model prog w) A (MR (n+1) (.ref a)) Q E s:=by
 have hT:=hk.typeIs;obtain⟨o,items,n',ho,_,hd,hi⟩:=hk;unfold MR;refine ag (mx hT F.slot_tuple_eq.lookup ?_);show wpAny _ _ (isInstance (.ref a) (.type "tuple") >>= _) _ _ s;refine ag (la hT x6 ?_);simp only [cb,aw,if_false];refine ag (QN ho hd ?_);refine ag ?_;show wpAny _ _ (forIn items _ _) _ _ s;rw [<-yc];refine lb _ (fun rest r s'=>r.1=none/\s'=s/\∀ v∈rest,carriedByValue v=true) _ ?_ ?_ _ _ ⟨rfl,rfl,hi.byValue⟩
 ·rintro v rest r s' ⟨hr,rfl,Aw⟩;rw [eqIsQuiet_byValue _ (Aw v cz)];refine ag (aC ?_);simp only [cb,aw,if_false];exact aC ⟨rfl,rfl,fun u HM=>Aw u (aE _ HM)⟩
 ·rintro⟨r1,r2⟩ s' ⟨hr,rfl,_⟩;simp only at hr;subst hr;exact aC h
section
variable {prog:bM} {w:World}
noncomputable def VZ{K:Type} [DecidableEq K](knd:KeyKind prog w K):DH prog w (List (List K)) where
 is:=sH (iG knd)
 hash:=Ci (iG knd)
 draws:=fun ks=>kL (iG knd) ks+1
 room:=fun A=>A.units < cLine/\(iG knd).room A.in1
 inj:=fun hx hy=>hx.inj hy
 keeps:=fun x ho hd hs=>x.keeps ho hd hs
 pyHash:=fun hu hk h=>J3 hu hk h
 eqBool:=fun hu hx hy h=>Bx hu hx hy h
 quiet:=fun hk h=>yC 7 (fun _ _ _ h1 h2=>Jw 6 h1 h2) hk h
noncomputable def ZO{K:Type} [DecidableEq K](knd:KeyKind prog w K):DH prog w (List (List (List K))) where
 is:=sH (VZ knd)
 hash:=Ci (VZ knd)
 draws:=fun ks=>kL (VZ knd) ks+1
 room:=fun A=>A.units < cLine/\(VZ knd).room A.in1
 inj:=fun hx hy=>hx.inj hy
 keeps:=fun x ho hd hs=>x.keeps ho hd hs
 pyHash:=fun hu hk h=>J3 hu hk h
 eqBool:=fun hu hx hy h=>Bx hu hx hy h
 quiet:=fun hk h=>yC 7 (fun _ _ _ h1 h2=>yC 6 (fun _ _ _ h3 h4=>Jw 5 h3 h4) h1 h2) hk h
theorem Lm{K:Type} [DecidableEq K]{knd:KeyKind prog w K}{A:dD}(hu:A.units+8 < cLine):(ZO knd).room A:=by
 refine⟨?_,?_,?_⟩
 ·lia
 ·show A.units+1 < cLine; lia
 ·show A.units+1+1 < cLine; lia
theorem ED{K:Type} [DecidableEq K]{knd:KeyKind prog w K}{A:dD}(hu:A.units+8 < cLine):(ZO knd).room A.in1:=by
 refine⟨?_,?_,?_⟩
 ·show A.units+1 < cLine; lia
 ·show A.units+1+1 < cLine; lia
 ·show A.units+1+1+1 < cLine; lia
end
end K2
end
section
namespace K2
open PySem
section
variable {K:Type} [DecidableEq K]
noncomputable def T9(xs:List (K×Addr×Value))(k:K):List (K×Addr×Value):=xs.filter fun x=>decide (x.1≠k)
theorem KJ{xs:List (K×Addr×Value)}(hn:(xs.map (·.1)).Nodup):∀ {j:Nat} {k:K} {p:Addr×Value},xs[j]?=some (k,p)->xs.eraseIdx j=T9 xs k:=by
 induction xs with
 | nil=>intro j k p h; simp at h
 | cons x r ih =>
  intro j k p h;rw [aj,aP] at hn;cases j with
  | zero =>
   simp only [aa,KG] at h;subst h;unfold T9;rw [Ms,sL (by simp)];symm;refine List.filter_eq_self.mpr fun y hy=>?_;have:y.1≠k:=fun z=>hn.1 (List.mem_map.mpr ⟨y,hy,z⟩);simpa using this
  | succ j =>
   simp only [ae] at h;have:x.1≠k:=fun z=>hn.1 (by rw [z]; exact List.mem_map.mpr ⟨_,eZ h,rfl⟩);unfold T9;rw [Mt,Mr (by simpa using this),ih hn.2 h];rfl
theorem Bb{α β:Type}(f:α->β):∀ (l:List α) (j:Nat),(l.eraseIdx j).map f=(l.map f).eraseIdx j
 | [],_=>rfl
 | _ :: _,0=>rfl
 | a :: l,j+1=>congrArg (f a :: ·) (Bb f l j)
end
section
variable {prog:bM} {w:World} {K:Type} [DecidableEq K] {knd:DH prog w K} {A:dD} {E:Value->az->Prop} {s:az}
theorem B0{d a:Addr}{xs:List (K×Addr×Value)}{k:K}{p:Addr×Value}{Q:Option ft->az->Prop}(hu:knd.room A)(RX:knd.is s.heap k a)(hm:s.heap.DictOfH knd d xs)(hp:atKey xs k=some p)(hsz:xs.length<=bc)
  (hQ:∀ e:ft,e.val=p.2->∀ h',h'.DictOfH knd d (T9 xs k)->fF d s.heap h'->Q (some e) { s with heap:=h',toks:=s.toks+knd.draws k }) :
  wpAny (model prog w) A (DL d (.ref a)) Q E s:=by
 obtain⟨o,es,ep,ho,hc,hd,he,his,hn⟩:=hm;unfold DL
 try with_reducible refine eM ?_
 refine ag (knd.pyHash hu RX (ag (wpAny_dictFind_heap (s:={ s with toks:=s.toks+knd.draws k }) hu RX ho hd he his hn ?_ ?_)))
 ·intro Xn;rw [atKey_none_of_get Xn] at hp; cases hp
 ·intro j q hj;rw [atKey_of_get hn hj] at hp;cases hp;refine ag (gy (s:={ s with toks:=s.toks+knd.draws k }) ho hd ?_);rw [entry_at he j,hj]
  refine ag (wpAny_updateDictKeys (hz:=by have e:=size_of_entries he; lia) (s:={ s with toks:=s.toks+knd.draws k }) ho hd (aC (hQ _ rfl _ ⟨_,_,ep+1,nc _ ho (Obj.isFreed_of_dict (Obj.data_mapDictKeys hd _)),
   hc.mapDictKeys _,Obj.data_mapDictKeys hd _,?_,?_,?_⟩ (jm ..))))
  ·rw [<-KJ hn hj,Bb,<-he];obtain⟨l⟩:=es;simp
  ·intro x hx;exact knd.keeps (his x (List.mem_filter.mp hx).1) ho hd (jm ..)
  ·exact nq (lu _ kj) hn
theorem NX{d a:Addr}{xs:List (K×Addr×Value)}{k:K}{p:Addr×Value}{Q:Value->az->Prop}(hu:knd.room A.in1)(RX:knd.is s.heap k a)(hm:s.heap.DictOfH knd d xs)(hp:atKey xs k=some p)(hsz:xs.length<=bc)
  (hQ:∀ h',h'.DictOfH knd d (T9 xs k)->fF d s.heap h'->Q p.2 { s with heap:=h',toks:=s.toks+knd.draws k }) :
  wpAny (model prog w) A (call (.builtin "dict.pop") [.ref d,.ref a]) Q E s:=by
 have hT:s.TypeIs (.ref d) "dict":=by obtain⟨o,es,ep,ho,hc,_⟩:=hm; exact⟨o,ho,hc.1⟩
 refine c9 sV hT PySem.F.entry_dict_pop ?_ (PySem.F.args_dict_pop_2 _ _);unfold Builtin.«dict.pop»;refine ag ?_;unfold Builtin.Dict.keyAndDefault;refine ag (xZ hT ?_);show wpAny _ _ (pure (d,fm a,none)) _ _ s;refine aC ?_;have hm':=hm;obtain⟨o,es,ep,ho,hc,hd,he,his,hn⟩:=hm';have Bn:es.isEmpty=false:=by
  have:xs≠[]:=by rintro rfl; cases hp
  have h2:=size_of_entries he;have h3:0 < xs.length:=List.length_pos_iff.mpr this;rw [Array.isEmpty_eq_false_iff];rintro rfl;simp at h2; lia
 simp only [keyPart,Option.isSome_none,aw,if_false];refine ag (gy ho hd (ag (aC ?_)));rw [Bn,if_neg i6];refine ag (B0 hu RX hm hp hsz fun e hv h' hm' Tt=>?_);simp only [Option.isNone_some,aw,if_false];exact ag (wpAny_letGo (aC ⟨e.val,rfl,by rw [hv]; exact hQ h' hm' Tt⟩))
end
end K2
end
section
namespace K2
open PySem PySem.Spec PyProof.Rows L2
noncomputable def Wa(K:ai)(H:Hp)(a:Addr)(xs:List V):Prop :=
 (∃ o,H a=some (.jL o (.lst xs))) \/
  ∃ (o:Obj) (bW:Array Value) (n:Nat),K.lookup a=some o/\o.cls=.type "list"/\o.dict=none/\o.data=.seq bW n/\bW.size<=bc/\Vals xs bW.toList
theorem Wa.sq{K:ai}{H:Hp}{a:Addr}{xs:List V}(h:Wa K H a xs):rz K H a xs:=by
 rcases h with ⟨o,h⟩ | h
 ·exact .inl (.inr ⟨o,h⟩)
 ·exact .inr h
noncomputable def ef:Key->D
 | .inl i=>.int i
 | .inr x=>.str x
noncomputable def ExcAt(K:ai)(H:Hp)(a:Addr)(c:Str):Prop:=∃ (o:Obj) (C:Addr),H a=some (.jL o (.ext fun h=>h.get? a=some o))/\o.cls=.ref C/\c6 K bP c=some (some (.ref C))
noncomputable def Kw(K:ai)(H:Hp)(a:Addr)(c:Str)(ns:List Str)(vs:List V):Prop:=∃ (o:Obj) (C dx:Addr) (od:Obj) (fs:List (Str×V)),H a=some (.jL o (.ext fun h=>h.get? a=some o))/\o.cls=.ref C/\c6 K bP c=some (some (.ref C))/\o.dict=some dx/\H dx=some (.jL od (.xd fs))/\PySem.W.notCls o=true/\fs.map (·.1)=ns/\fs.map (·.2)=vs
noncomputable def hsT(hs:List Int):Int:=reduceHash (dN hs)
noncomputable def hP(k:PK):Int:=hsT (k.map fun r=>hsT (r.map fun t=>hsT (t.map hashInt)))
noncomputable def IJ(a:Addr)(xs:List (PK×Addr×Value))(h:Heap):Prop:=xs.length<=bc/\(a == da)=false/\∃ (o:Obj) (es:Array ft) (ep:Nat),h.get? a=some o/\o.ExactDict/\o.data=.dict es ep/\es.toList=xs.map (fun x=>⟨hP x.1,.ref x.2.1,x.2.2⟩)/\(xs.map (·.1)).Nodup
noncomputable def SE(kvs:List (PK×D))(ks vs:List V)(xs:List (PK×Addr×Value)):Prop:=kvs.map (fun p=>p.1)=xs.map (fun x=>x.1)/\ks=xs.map (fun x=>V.ref x.2.1)/\Vals vs (xs.map fun x=>x.2.2)
mutual
inductive cw (K:ai) (H:Hp):V->D->Prop
 | eU:cw K H .eU .eU
 | bl (b:Bool):cw K H (.bl b) (.bl b)
 | int (i:Int):cw K H (.int i) (.int i)
 | str (x:Str):cw K H (.str x) (.str x)
 | tup {a:Addr} {vs:List V} {ds:List D}:H a=some (.tup vs)->br K H vs ds->cw K H (.ref a) (.tup ds)
 | dP {a:Addr} {vs:List V} {ds:List D}:Wa K H a vs->br K H vs ds->cw K H (.ref a) (.dP ds)
 | qh {a:Addr} {o:Obj} {kv:List (Key×V)} {kvs:List (D×D)}:H a=some (.jL o (.dK kv))->mw K H kv kvs->cw K H (.ref a) (.kJ kvs)
 | qg {a:Addr} {o:Obj} {kv:List (List Key×V)} {kvs:List (D×D)}:H a=some (.jL o (.dT kv))->lY K H kv kvs->cw K H (.ref a) (.kJ kvs)
 | ref (a:Addr):cw K H (.ref a) (.ref a)
 | exc {a:Addr} {c:Str}:ExcAt K H a c->cw K H (.ref a) (.exc c)
 | Gj {a:Addr} {c:Str} {ns:List Str} {vs:List V} {ds:List D}:Kw K H a c ns vs->br K H vs ds->cw K H (.ref a) (.Gj c ns ds)
 | oX {a:Addr} {o:Obj} {xs:List (PK×Addr×Value)} {ks vs:List V} {kvs:List (PK×D)}:H a=some (.jL o (.ext (IJ a xs)))->SE kvs ks vs xs->br K H ks (kvs.map fun p=>pP p.1)->br K H vs (kvs.map fun p=>p.2)->cw K H (.ref a) (.oX kvs)
inductive br (K:ai) (H:Hp):List V->List D->Prop
 | nil:br K H [] []
 | cons {v:V} {d:D} {vs:List V} {ds:List D}:cw K H v d->br K H vs ds->br K H (v :: vs) (d :: ds)
inductive mw (K:ai) (H:Hp):List (Key×V)->List (D×D)->Prop
 | nil:mw K H [] []
 | cons {k:Key} {v:V} {d:D} {r:List (Key×V)} {t:List (D×D)}:cw K H v d->mw K H r t->mw K H ((k,v) :: r) ((ef k,d) :: t)
inductive lY (K:ai) (H:Hp):List (List Key×V)->List (D×D)->Prop
 | nil:lY K H [] []
 | cons {k:List Key} {v:V} {d:D} {r:List (List Key×V)} {t:List (D×D)}:cw K H v d->lY K H r t->lY K H ((k,v) :: r) ((.tup (k.map ef),d) :: t)
end
structure Kp(H H':Hp):Prop where
 tup:∀ a xs,H a=some (.tup xs)->H' a=some (.tup xs)
 jL:∀ a o u,H a=some (.jL o u)->H' a=some (.jL o u)
theorem Kp.refl(H:Hp):Kp H H:=⟨fun _ _ h=>h,fun _ _ _ h=>h⟩
theorem Kp.trans{H H1 H2:Hp}(a:Kp H H1)(b:Kp H1 H2):Kp H H2:=⟨fun c xs h=>b.tup c xs (a.tup c xs h),fun c o u h=>b.jL c o u (a.jL c o u h)⟩
theorem Kp.sqT{K:ai}{H H':Hp}{a:Addr}{xs:List V}(k:Kp H H')(h:xX K H a xs):xX K H' a xs:=by
 rcases h with (h | ⟨o,h⟩) | h
 ·exact .inl (.inl (k.tup _ _ h))
 ·exact .inl (.inr ⟨o,k.jL _ _ _ h⟩)
 ·exact .inr h
theorem Kp.VT{K:ai}{H H':Hp}{a:Addr}{xs:List V}(k:Kp H H')(h:Wa K H a xs):Wa K H' a xs:=by
 rcases h with ⟨o,h⟩ | h
 ·exact .inl ⟨o,k.jL _ _ _ h⟩
 ·exact .inr h
theorem ExcAt.mono{K:ai}{H H':Hp}(k:Kp H H'){a:Addr}{c:Str}(h:ExcAt K H a c):ExcAt K H' a c :=
 let ⟨o,C,h1,h2,h3⟩:=h
 ⟨o,C,k.jL _ _ _ h1,h2,h3⟩
theorem Kw.mono{K:ai}{H H':Hp}(k:Kp H H'){a:Addr}{c:Str}{ns:List Str}{vs:List V}(h:Kw K H a c ns vs):Kw K H' a c ns vs :=
 let ⟨o,C,dx,od,fs,h1,h2,h3,h4,h5,h6⟩:=h
 ⟨o,C,dx,od,fs,k.jL _ _ _ h1,h2,h3,h4,k.jL _ _ _ h5,h6⟩
theorem br.HJ{K:ai}{H:Hp}{P:List V->List D->Prop}(h0:P [] [])(h1:∀ {v:V} {d:D} {vs:List V} {ds:List D},cw K H v d->br K H vs ds->P vs ds->P (v :: vs) (d :: ds)){vs:List V}{ds:List D}(h:br K H vs ds):P vs ds :=
 br.rec (motive_1:=fun _ _ _=>True) (motive_2:=fun vs ds _=>P vs ds) (motive_3:=fun _ _ _=>True) (motive_4:=fun _ _ _=>True) trivial (fun _=>trivial) (fun _=>trivial) (fun _=>trivial) (fun _ _ _=>trivial) (fun _ _ _=>trivial) (fun _ _ _=>trivial) (fun _ _ _=>trivial) (fun _=>trivial) (fun _=>trivial) (fun _ _ _=>trivial) (fun _ _ _ _ _ _=>trivial) h0 (fun a b _ ih=>h1 a b ih) trivial (fun _ _ _ _=>trivial) trivial (fun _ _ _ _=>trivial) h
theorem cw.mono{K:ai}{H H':Hp}(k:Kp H H'):∀ {v:V} {d:D},cw K H v d->cw K H' v d:=fun h =>
 cw.rec (motive_1:=fun v d _=>cw K H' v d) (motive_2:=fun v d _=>br K H' v d) (motive_3:=fun v d _=>mw K H' v d) (motive_4:=fun v d _=>lY K H' v d)
  .eU .bl .int .str (fun h _ r=>.tup (k.tup _ _ h) r) (fun h _ r=>.dP (k.VT h) r) (fun h _ r=>.qh (k.jL _ _ _ h) r) (fun h _ r=>.qg (k.jL _ _ _ h) r) .ref (fun h=>.exc (h.mono k)) (fun h _ r=>.Gj (h.mono k) r) (fun h z _ _ r1 r2=>.oX (k.jL _ _ _ h) z r1 r2) .nil (fun _ _ a b=>.cons a b) .nil (fun _ _ a b=>.cons a b) .nil (fun _ _ a b=>.cons a b) h
theorem br.mono{K:ai}{H H':Hp}(k:Kp H H'){v:List V}{d:List D}(h:br K H v d):br K H' v d :=
 br.HJ (P:=fun v d=>br K H' v d) .nil (fun r _ ih=>.cons (r.mono k) ih) h
theorem mw.mono{K:ai}{H H':Hp}(k:Kp H H'){v:List (Key×V)}{d:List (D×D)}(h:mw K H v d):mw K H' v d :=
 mw.rec (motive_1:=fun v d _=>cw K H' v d) (motive_2:=fun v d _=>br K H' v d) (motive_3:=fun v d _=>mw K H' v d) (motive_4:=fun v d _=>lY K H' v d)
  .eU .bl .int .str (fun h _ r=>.tup (k.tup _ _ h) r) (fun h _ r=>.dP (k.VT h) r) (fun h _ r=>.qh (k.jL _ _ _ h) r) (fun h _ r=>.qg (k.jL _ _ _ h) r) .ref (fun h=>.exc (h.mono k)) (fun h _ r=>.Gj (h.mono k) r) (fun h z _ _ r1 r2=>.oX (k.jL _ _ _ h) z r1 r2) .nil (fun _ _ a b=>.cons a b) .nil (fun _ _ a b=>.cons a b) .nil (fun _ _ a b=>.cons a b) h
theorem lY.mono{K:ai}{H H':Hp}(k:Kp H H'){v:List (List Key×V)}{d:List (D×D)}(h:lY K H v d):lY K H' v d :=
 lY.rec (motive_1:=fun v d _=>cw K H' v d) (motive_2:=fun v d _=>br K H' v d) (motive_3:=fun v d _=>mw K H' v d) (motive_4:=fun v d _=>lY K H' v d)
  .eU .bl .int .str (fun h _ r=>.tup (k.tup _ _ h) r) (fun h _ r=>.dP (k.VT h) r) (fun h _ r=>.qh (k.jL _ _ _ h) r) (fun h _ r=>.qg (k.jL _ _ _ h) r) .ref (fun h=>.exc (h.mono k)) (fun h _ r=>.Gj (h.mono k) r) (fun h z _ _ r1 r2=>.oX (k.jL _ _ _ h) z r1 r2) .nil (fun _ _ a b=>.cons a b) .nil (fun _ _ a b=>.cons a b) .nil (fun _ _ a b=>.cons a b) h
theorem br.length{K:ai}{H:Hp}:∀ {vs:List V} {ds:List D},br K H vs ds->vs.length=ds.length:=fun h =>
 br.HJ (P:=fun vs ds=>vs.length=ds.length) rfl (fun _ _ ih=>congrArg (· + 1) ih) h
theorem br.get{K:ai}{H:Hp}:∀ {vs:List V} {ds:List D} {i:Nat} {d:D},br K H vs ds->ds[i]?=some d->∃ v,vs[i]?=some v/\cw K H v d:=by
 intro vs ds i d h;refine br.HJ (P:=fun vs ds=>∀ (i:Nat) (d:D),ds[i]?=some d->∃ v,vs[i]?=some v/\cw K H v d) (fun i d e=>by cases e) (fun r _ ih i d e=>?_) h i d;cases i with
 | zero=>cases e; exact⟨_,rfl,r⟩
 | succ i=>exact ih i d e
theorem br.append{K:ai}{H:Hp}:∀ {vs ws:List V} {ds es:List D},br K H vs ds->br K H ws es->br K H (vs++ws) (ds++es):=fun {_ ws _ es} h s =>
 br.HJ (P:=fun vs ds=>br K H (vs++ws) (ds++es)) s (fun r _ ih=>.cons r ih) h
theorem br.take{K:ai}{H:Hp}:∀ {vs:List V} {ds:List D} (n:Nat),br K H vs ds->br K H (vs.take n) (ds.take n):=fun {_ _} n h =>
 br.HJ (P:=fun vs ds=>∀ n,br K H (vs.take n) (ds.take n)) (fun n=>by rw [zY,zY]; exact .nil) (fun r _ ih n=>by
  cases n with
  | zero=>exact .nil
  | succ n=>exact .cons r (ih n)) h n
theorem br.drop{K:ai}{H:Hp}:∀ {vs:List V} {ds:List D} (n:Nat),br K H vs ds->br K H (vs.drop n) (ds.drop n):=fun {_ _} n h =>
 br.HJ (P:=fun vs ds=>∀ n,br K H (vs.drop n) (ds.drop n)) (fun n=>by rw [zZ,zZ]; exact .nil) (fun r t ih n=>by
  cases n with
  | zero=>exact .cons r t
  | succ n=>exact ih n) h n
theorem br.set{K:ai}{H:Hp}{v:V}{d:D}(r:cw K H v d):∀ {vs:List V} {ds:List D} (i:Nat),br K H vs ds->br K H (vs.set i v) (ds.set i d):=fun {_ _} i h =>
 br.HJ (P:=fun vs ds=>∀ i,br K H (vs.set i v) (ds.set i d)) (fun i=>by rw [BR,BR]; exact .nil) (fun q t ih i=>by
  cases i with
  | zero=>exact .cons r t
  | succ i=>exact .cons q (ih i)) h i
theorem br.one{K:ai}{H:Hp}:∀ {vs:List V} {d:D},br K H vs [d]->∃ v,vs=[v]/\cw K H v d:=by
 intro vs d h;cases h with
 | cons r t=>cases t; exact⟨_,rfl,r⟩
theorem br.two{K:ai}{H:Hp}:∀ {vs:List V} {d e:D},br K H vs [d,e]->∃ v u,vs=[v,u]/\cw K H v d/\cw K H u e:=by
 intro vs d e h;cases h with
 | cons r t =>
  obtain⟨u,rfl,q⟩:=br.one t;exact⟨_,_,rfl,r,q⟩
theorem br.zero{K:ai}{H:Hp}:∀ {vs:List V},br K H vs []->vs=[]
 | _,.nil=>rfl
theorem br.ints{K:ai}{H:Hp}:∀ {vs:List V} {ns:List Int},br K H vs (ns.map D.int)->vs=ns.map V.int:=by
 intro vs ns;induction ns generalizing vs with
 | nil=>intro h; exact h.zero
 | cons n ns ih =>
  intro h;cases h with
  | cons r t =>
   cases r;rw [ih t]; rfl
theorem br.JJ{K:ai}{H:Hp}:∀ (ns:List Int),br K H (ns.map V.int) (ns.map D.int)
 | []=>.nil
 | n :: ns=>.cons (.int n) (br.JJ ns)
theorem mw.ind{K:ai}{H:Hp}{motive:∀ (kv:List (Key×V)) (kvs:List (D×D)),mw K H kv kvs->Prop}(nil:motive [] [] .nil)
  (cons:∀ {k:Key} {v:V} {d:D} {r:List (Key×V)} {t:List (D×D)} (re:cw K H v d) (rs:mw K H r t),motive r t rs->motive ((k,v) :: r) ((ef k,d) :: t) (.cons re rs)):∀ {kv:List (Key×V)} {kvs:List (D×D)} (h:mw K H kv kvs),motive kv kvs h:=fun h =>
 mw.rec (motive_1:=fun _ _ _=>True) (motive_2:=fun _ _ _=>True) (motive_3:=motive) (motive_4:=fun _ _ _=>True) trivial (fun _=>trivial) (fun _=>trivial) (fun _=>trivial) (fun _ _ _=>trivial) (fun _ _ _=>trivial) (fun _ _ _=>trivial) (fun _ _ _=>trivial) (fun _=>trivial) (fun _=>trivial) (fun _ _ _=>trivial) (fun _ _ _ _ _ _=>trivial) trivial (fun _ _ _ _=>trivial) nil (fun a b _ ih=>cons a b ih) trivial (fun _ _ _ _=>trivial) h
theorem lY.ind{K:ai}{H:Hp}{motive:∀ (kv:List (List Key×V)) (kvs:List (D×D)),lY K H kv kvs->Prop}(nil:motive [] [] .nil)
  (cons:∀ {k:List Key} {v:V} {d:D} {r:List (List Key×V)} {t:List (D×D)} (re:cw K H v d) (rs:lY K H r t),motive r t rs->motive ((k,v) :: r) ((.tup (k.map ef),d) :: t) (.cons re rs)):∀ {kv:List (List Key×V)} {kvs:List (D×D)} (h:lY K H kv kvs),motive kv kvs h:=fun h =>
 lY.rec (motive_1:=fun _ _ _=>True) (motive_2:=fun _ _ _=>True) (motive_3:=fun _ _ _=>True) (motive_4:=motive) trivial (fun _=>trivial) (fun _=>trivial) (fun _=>trivial) (fun _ _ _=>trivial) (fun _ _ _=>trivial) (fun _ _ _=>trivial) (fun _ _ _=>trivial) (fun _=>trivial) (fun _=>trivial) (fun _ _ _=>trivial) (fun _ _ _ _ _ _=>trivial) trivial (fun _ _ _ _=>trivial) trivial (fun _ _ _ _=>trivial) nil (fun a b _ ih=>cons a b ih) h
theorem mw.length{K:ai}{H:Hp}:∀ {v:List (Key×V)} {d:List (D×D)},mw K H v d->v.length=d.length:=fun h =>
 mw.ind (motive:=fun v d _=>v.length=d.length) rfl (fun _ _ ih=>congrArg (· + 1) ih) h
theorem lY.length{K:ai}{H:Hp}:∀ {v:List (List Key×V)} {d:List (D×D)},lY K H v d->v.length=d.length:=fun h =>
 lY.ind (motive:=fun v d _=>v.length=d.length) rfl (fun _ _ ih=>congrArg (· + 1) ih) h
noncomputable def KA(K:ai)(H:Hp)(a:Addr):GO->Prop
 | .lst ds=>∃ vs,H a=some (.lst vs)/\br K H vs ds
 | .gP kvs=>(∃ kv,H a=some (.dK kv)/\mw K H kv kvs)\/∃ kv,H a=some (.dT kv)/\lY K H kv kvs
 | .ins c fs=>∃ C dx fv,H a=some (.ins C dx fv)/\c6 K bP c=some (some (.ref C))/\fv.map (·.1)=fs.map (·.1)/\br K H (fv.map (·.2)) (fs.map (·.2))
 | .sE kvs=>∃ xs ks vs,H a=some (.ext (IJ a xs))/\SE kvs ks vs xs/\br K H ks (kvs.map fun p=>pP p.1)/\br K H vs (kvs.map fun p=>p.2)
noncomputable def lZ(K:ai)(H:Hp)(G:Gp):Prop:=∀ a g,G a=some g->KA K H a g
theorem KA.dk{K:ai}{H:Hp}{a:Addr}{kv:List (Key×V)}{kvs:List (D×D)}(h:H a=some (.dK kv))(r:mw K H kv kvs):KA K H a (.gP kvs):=.inl ⟨kv,h,r⟩
theorem KA.dt{K:ai}{H:Hp}{a:Addr}{kv:List (List Key×V)}{kvs:List (D×D)}(h:H a=some (.dT kv))(r:lY K H kv kvs):KA K H a (.gP kvs):=.inr ⟨kv,h,r⟩
theorem KA.mono{K:ai}{H H':Hp}{a:Addr}{g:GO}(k:Kp H H')(e:H' a=H a)(h:KA K H a g):KA K H' a g:=by
 cases g with
 | lst ds=>obtain⟨vs,q,r⟩:=h; exact⟨vs,e.trans q,r.mono k⟩
 | ins c fs=>obtain⟨C,dx,fv,q,h1,h2,r⟩:=h; exact⟨C,dx,fv,e.trans q,h1,h2,r.mono k⟩
 | sE kvs=>obtain⟨xs,ks,vs,q,h1,r1,r2⟩:=h; exact⟨xs,ks,vs,e.trans q,h1,r1.mono k,r2.mono k⟩
 | gP kvs =>
  rcases h with ⟨kv,q,r⟩ | ⟨kv,q,r⟩
  ·exact .inl ⟨kv,e.trans q,r.mono k⟩
  ·exact .inr ⟨kv,e.trans q,r.mono k⟩
theorem KA.tracked{K:ai}{H:Hp}{a:Addr}{g:GO}(h:KA K H a g):H a≠none:=by
 cases g with
 | lst ds=>obtain⟨vs,q,r⟩:=h; rw [q]; simp
 | ins c fs=>obtain⟨C,dx,fv,q,_⟩:=h; rw [q]; simp
 | sE kvs=>obtain⟨xs,ks,vs,q,_⟩:=h; rw [q]; simp
 | gP kvs =>
  rcases h with ⟨kv,q,r⟩ | ⟨kv,q,r⟩
  ·rw [q]; simp
  ·rw [q]; simp
theorem lZ.free{K:ai}{H:Hp}{G:Gp}{a:Addr}(h:lZ K H G)(e:H a=none):G a=none:=by
 cases q:G a with
 | none=>rfl
 | some g=>exact absurd e (h a g q).tracked
theorem lZ.WY{K:ai}{H:Hp}{G:Gp}{a:Addr}{xs:List V}(h:lZ K H G)(e:H a=some (.tup xs)):G a=none:=by
 cases q:G a with
 | none=>rfl
 | some g =>
  have z:=h a g q;cases g with
  | lst ds=>obtain⟨vs,q,r⟩:=z; rw [e] at q; cases q
  | ins c fs=>obtain⟨C,dx,fv,q,_⟩:=z; rw [e] at q; cases q
  | sE kvs=>obtain⟨xs,ks,vs,q,_⟩:=z; rw [e] at q; cases q
  | gP kvs =>
   rcases z with ⟨kv,q,r⟩ | ⟨kv,q,r⟩
   ·rw [e] at q; cases q
   ·rw [e] at q; cases q
theorem lZ.WZ{K:ai}{H:Hp}{G:Gp}{a:Addr}{o:Obj}{u:HO}(h:lZ K H G)(e:H a=some (.jL o u)):G a=none:=by
 cases q:G a with
 | none=>rfl
 | some g =>
  have z:=h a g q;cases g with
  | lst ds=>obtain⟨vs,q,r⟩:=z; rw [e] at q; cases q
  | ins c fs=>obtain⟨C,dx,fv,q,_⟩:=z; rw [e] at q; cases q
  | sE kvs=>obtain⟨xs,ks,vs,q,_⟩:=z; rw [e] at q; cases q
  | gP kvs =>
   rcases z with ⟨kv,q,r⟩ | ⟨kv,q,r⟩
   ·rw [e] at q; cases q
   ·rw [e] at q; cases q
structure Mv(K:ai)(H:Hp)(G:Gp)(H':Hp)(G':Gp):Prop where
 keep:∀ a o,H a=some o->G a=none->H' a=some o/\G' a=none
 kQ:∀ a,G a≠none->H' a≠none
 ab:lZ K H' G'
theorem Mv.refl{K:ai}{H:Hp}{G:Gp}(h:lZ K H G):Mv K H G H G:=⟨fun _ _ e n=>⟨e,n⟩,fun a n=>by
 cases q:G a with
 | none=>exact absurd q n
 | some g=>exact(h a g q).tracked,h⟩
theorem Mv.trans{K:ai}{H H1 H2:Hp}{G G1 G2:Gp}(a:Mv K H G H1 G1)(b:Mv K H1 G1 H2 G2):Mv K H G H2 G2 :=
 ⟨fun c o e n=>let ⟨e1,n1⟩:=a.keep c o e n; b.keep c o e1 n1,fun c n=>by
  have h1:=a.kQ c n;cases q:G1 c with
  | some g=>exact b.kQ c (by rw [q]; simp)
  | none =>
   cases q1:H1 c with
   | none=>exact absurd q1 h1
   | some o=>rw [(b.keep c o q1 q).1]; simp,b.ab⟩
theorem Mv.kp{K:ai}{H H':Hp}{G G':Gp}(m:Mv K H G H' G')(h:lZ K H G):Kp H H' :=
 ⟨fun a xs e=>(m.keep a _ e (h.WY e)).1,fun a o u e=>(m.keep a _ e (h.WZ e)).1⟩
theorem Kp.new{H:Hp}{p:Addr}{o:HO}(hp:H p=none):Kp H (upd H p o):=⟨fun a xs e=>by rw [bQ (dH e hp)]; exact e,fun a ob u e=>by rw [bQ (dH e hp)]; exact e⟩
theorem Kp.putL{H:Hp}{p:Addr}{xs:List V}{o:HO}(hp:H p=some (.lst xs)):Kp H (upd H p o) :=
 ⟨fun a ys e=>by rw [bQ (by rintro rfl; rw [hp] at e; cases e)]; exact e,fun a ob u e=>by rw [bQ (by rintro rfl; rw [hp] at e; cases e)]; exact e⟩
theorem Mv.new{K:ai}{H:Hp}{G:Gp}{p:Addr}{o:HO}{g:GO}(h:lZ K H G)(hp:H p=none)(ho:KA K (upd H p o) p g):Mv K H G (upd H p o) (dO G p g) where
 keep:=fun a ob e n=>by
  have ne:=dH e hp;exact⟨by rw [bQ ne]; exact e,by rw [cT ne]; exact n⟩
 kQ:=fun a n=>by
  have ne:a≠p:=by rintro rfl; exact n (h.free hp)
  rw [bQ ne];exact(Mv.refl h).kQ a n
 ab:=fun a g' e=>by
  by_cases ha:a=p
  ·subst ha; rw [aA] at e; cases e; exact ho
  ·rw [cT ha] at e;exact(h a g' e).mono (.new hp) (bQ ha)
theorem Mv.HP{K:ai}{H:Hp}{G:Gp}{p:Addr}{o:HO}(h:lZ K H G)(hp:H p=none):Mv K H G (upd H p o) G where
 keep:=fun a ob e n=>⟨by rw [bQ (dH e hp)]; exact e,n⟩
 kQ:=fun a n=>by
  have ne:a≠p:=by rintro rfl; exact n (h.free hp)
  rw [bQ ne];exact(Mv.refl h).kQ a n
 ab:=fun a g' e=>by
  have ne:a≠p:=by rintro rfl; rw [h.free hp] at e; cases e
  exact(h a g' e).mono (.new hp) (bQ ne)
theorem Mv.put{K:ai}{H:Hp}{G:Gp}{p:Addr}{o:HO}{g g0:GO}(h:lZ K H G)(hg:G p=some g0)(k:Kp H (upd H p o))(ho:KA K (upd H p o) p g):Mv K H G (upd H p o) (dO G p g) where
 keep:=fun a ob e n=>by
  have ne:a≠p:=by rintro rfl; rw [hg] at n; cases n
  exact⟨by rw [bQ ne]; exact e,by rw [cT ne]; exact n⟩
 kQ:=fun a n=>by
  by_cases ha:a=p
  ·subst ha; rw [cc]; simp
  ·rw [bQ ha]; exact(Mv.refl h).kQ a n
 ab:=fun a g' e=>by
  by_cases ha:a=p
  ·subst ha; rw [aA] at e; cases e; exact ho
  ·rw [cT ha] at e;exact(h a g' e).mono k (bQ ha)
theorem lZ.lst{K:ai}{H:Hp}{G:Gp}{a:Addr}{ds:List D}(h:lZ K H G)(e:G a=some (.lst ds)):∃ vs,H a=some (.lst vs)/\br K H vs ds:=h a _ e
theorem Mv.EF{K:ai}{H:Hp}{G:Gp}{p:Addr}{vs:List V}{ds:List D}(h:lZ K H G)(hp:H p=none)(r:br K H vs ds):Mv K H G (upd H p (.lst vs)) (dO G p (.lst ds)) :=
 .new h hp ⟨vs,cc,r.mono (.new hp)⟩
theorem Mv.putL{K:ai}{H:Hp}{G:Gp}{p:Addr}{vs0 vs:List V}{ds0 ds:List D}(h:lZ K H G)(hg:G p=some (.lst ds0))(hp:H p=some (.lst vs0))(r:br K H vs ds):Mv K H G (upd H p (.lst vs)) (dO G p (.lst ds)) :=
 .put h hg (.putL hp) ⟨vs,cc,r.mono (.putL hp)⟩
structure QL(K:ai)(H:Hp)(σ:L2.St)(τ:ik):Prop where
 len:σ.length=τ.length
 at':∀ (i:Nat) (d:D),τ[i]?=some (some d)->∃ v,σ[i]?=some (some v)/\cw K H v d
theorem QL.mono{K:ai}{H H':Hp}{σ:L2.St}{τ:ik}(k:Kp H H')(a:QL K H σ τ):QL K H' σ τ :=
 ⟨a.len,fun i d e=>let ⟨v,h1,h2⟩:=a.at' i d e; ⟨v,h1,h2.mono k⟩⟩
theorem QL.set{K:ai}{H:Hp}{σ:L2.St}{τ:ik}{v:V}{d:D}(a:QL K H σ τ)(i:Nat)(r:cw K H v d):QL K H (σ.set i (some v)) (τ.set i (some d)):=by
 refine⟨by rw [eg,eg]; exact a.len,fun j e h=>?_⟩;by_cases hj:i=j
 ·subst hj;by_cases hi:i < τ.length
  ·rw [dZ hi] at h;cases h;exact⟨v,by rw [dZ (by rw [a.len]; exact hi)],r⟩
  ·rw [List.set_eq_of_length_le (by lia)] at h;rw [jl (by lia)] at h;cases h
 ·rw [e7 hj] at h;obtain⟨w,h1,h2⟩:=a.at' j e h;exact⟨w,by rw [e7 hj]; exact h1,h2⟩
structure I2(X:Cx)(pins:List (Addr×Obj))(σ:L2.St)(H:Hp)(τ:ik)(G:Gp)(s:az):Prop where
 inv:Inv X pins σ H s
 st:QL X.K H σ τ
 ab:lZ X.K H G
theorem I2.mv{X:Cx}{pins:List (Addr×Obj)}{σ:L2.St}{H H':Hp}{τ:ik}{G G':Gp}{s s':az}(I:I2 X pins σ H τ G s)(I':Inv X pins σ H' s')(m:Mv X.K H G H' G'):I2 X pins σ H' τ G' s' :=
 ⟨I',I.st.mono (m.kp I.ab),m.ab⟩
noncomputable def CXe(P:bM)(w:World):Mo:=fun outer H s E e s'=>∃ (a C t:Addr) (B:Heap) (H':Hp),e=.ref a/\s'.os=s.os/\BU s'.gens/\Un (ME outer) [] H H' s.heap s'.heap/\pZ P w H' s'.heap /\
 (∀ b o,s'.heap.get? b=some o->b∉ME outer->(s.heap.get? b≠none\/H' b≠none)->B.get? b=some o)/\PySem.Heap.FlyingW B outer a (.ref C) (.ref t) s'.heap/\H' a=none/\s.heap.get? a=none/\E (.ref C) none H'
noncomputable def exK(K:ai)(mg:Str->Option Value)(E:lX):XK:=fun cls _ H=>∃ (ex:Ex) (C:Addr) (G:Gp),cls=.ref C/\mg ex.cls=some (.ref C)/\lZ K H G/\E ex G
structure Lk(X:Cx)(E:lX):Prop where
 made:∀ (pins:List (Addr×Obj)) (σ:L2.St) (H:Hp) (s:az) (h1:Heap) (a C:Addr) (args:List Value) (ex:Ex) (G:Gp),Inv X pins σ H s->lZ X.K H G->PySem.Heap.MadeExcOf s.heap h1 a (.ref C) args->X.mg ex.cls=some (.ref C)->E ex G->X.xe (.ref a) { s with heap:=h1 }
 pass:∀ (pins:List (Addr×Obj)) (σ:L2.St) (H:Hp) (s s':az) (e:Value),Inv X pins σ H s->CXe X.prog X.w X.stack H s (exK X.K X.mg E) e s'->X.xe e s'
theorem Lk.none{X:Cx}{E:lX}(h:∀ ex G,¬ E ex G):Lk X E where
 made:=fun _ _ _ _ _ _ _ _ ex _ _ _ _ _ z=>absurd z (h ex _)
 pass:=fun _ _ _ _ _ _ _ hc=>by
  obtain⟨_,_,_,_,_,_,_,_,_,_,_,_,_,_,hz⟩:=hc;obtain⟨ex,_,_,_,_,_,z⟩:=hz;exact absurd z (h ex _)
inductive tW (X:Cx) (pins:List (Addr×Obj)) (σ:L2.St) (H:Hp) (G:Gp) (Q:DK) (u:Value) (s':az):Prop
 | mk (v:V) (H':Hp) (d:D) (G':Gp) (i:Inv X pins σ H' s') (m:Mv X.K H G H' G') (r:RelV v u) (rd:cw X.K H' v d) (q:Q d G'):tW X pins σ H G Q u s'
inductive V9 (X:Cx) (pins:List (Addr×Obj)) (σ:L2.St) (H:Hp) (G:Gp) (Q:Bool->Gp->Prop) (b:Bool) (s':az):Prop
 | mk (H':Hp) (G':Gp) (i:Inv X pins σ H' s') (m:Mv X.K H G H' G') (q:Q b G'):V9 X pins σ H G Q b s'
inductive AP2 (X:Cx) (pins:List (Addr×Obj)) (σ:L2.St) (H:Hp) (G:Gp) (Q:List D->Gp->Prop) (us:List Value) (s':az):Prop
 | mk (vs:List V) (H':Hp) (ds:List D) (G':Gp) (i:Inv X pins σ H' s') (m:Mv X.K H G H' G') (r:Vals vs us) (rd:br X.K H' vs ds) (q:Q ds G'):AP2 X pins σ H G Q us s'
inductive YL (X:Cx) (pins:List (Addr×Obj)) (H:Hp) (G:Gp) (P:ik->Gp->Prop) (s':az):Prop
 | mk (jB:L2.St) (H':Hp) (qf:ik) (G':Gp) (i:I2 X pins jB H' qf G' s') (m:Mv X.K H G H' G') (q:P qf G'):YL X pins H G P s'
inductive SPr (X:Cx) (pins:List (Addr×Obj)) (H:Hp) (G:Gp) (P:D->Gp->Prop) (u:Value) (s':az):Prop
 | mk (v:V) (jB:L2.St) (H':Hp) (d:D) (G':Gp) (i:Inv X pins jB H' s') (m:Mv X.K H G H' G') (r:RelV v u) (rd:cw X.K H' v d) (q:P d G'):SPr X pins H G P u s'
noncomputable def VJ(X:Cx)(pins:List (Addr×Obj))(H:Hp)(G:Gp)(D:lH)(f:Flow)(s':az):Prop :=
 match f with
 | .next=>YL X pins H G D.nx s'
 | .brk=>YL X pins H G D.bk s'
 | .cont=>YL X pins H G D.ct s'
 | .ret u=>SPr X pins H G D.rt u s'
noncomputable def gE(X:Cx)(e:Expr)(t:fY):Prop :=
 ∀ (E:lX) (pins:List (Addr×Obj)) (s:az) (σ:L2.St) (H:Hp) (τ:ik) (G:Gp) (Q:DK),Lk X E->I2 X pins σ H τ G s->t E τ G Q->wpAny (model X.prog X.w) X.A (eval e X.env) (tW X pins σ H G Q) X.xe s
noncomputable def MG(X:Cx)(e:Expr)(t:w9):Prop :=
 ∀ (E:lX) (pins:List (Addr×Obj)) (s:az) (σ:L2.St) (H:Hp) (τ:ik) (G:Gp) (Q:Bool->Gp->Prop),Lk X E->I2 X pins σ H τ G s->t E τ G Q->wpAny (model X.prog X.w) X.A (isTrue e X.env (eval e X.env)) (V9 X pins σ H G Q) X.xe s
noncomputable def VL(X:Cx)(e:Expr)(t:w9):Prop :=
 ∀ (wh:Sem Value) (E:lX) (pins:List (Addr×Obj)) (s:az) (σ:L2.St) (H:Hp) (τ:ik) (G:Gp) (Q:Bool->Gp->Prop),Lk X E->I2 X pins σ H τ G s->t E τ G Q->wpAny (model X.prog X.w) X.A (isTrue e X.env wh) (V9 X pins σ H G Q) X.xe s
noncomputable def Md(X:Cx)(es:List Expr)(t:IH):Prop :=
 ∀ (pos:Pos) (E:lX) (pins:List (Addr×Obj)) (s:az) (σ:L2.St) (H:Hp) (τ:ik) (G:Gp) (Q:List D->Gp->Prop),Lk X E->I2 X pins σ H τ G s->t E τ G Q->wpAny (model X.prog X.w) X.A (Gr (oy pos (cK es X.env))) (AP2 X pins σ H G Q) X.xe s
noncomputable def II(X:Cx)(st:Stmt)(t:iF):Prop :=
 ∀ (E:lX) (pins:List (Addr×Obj)) (s:az) (σ:L2.St) (H:Hp) (τ:ik) (G:Gp) (D:lH),Lk X E->I2 X pins σ H τ G s->t E D τ G->wpAny (model X.prog X.w) X.A (exec st X.env) (VJ X pins H G D) X.xe s
noncomputable def zL(X:Cx)(st:List Stmt)(t:iF):Prop :=
 ∀ (E:lX) (pins:List (Addr×Obj)) (s:az) (σ:L2.St) (H:Hp) (τ:ik) (G:Gp) (D:lH),Lk X E->I2 X pins σ H τ G s->t E D τ G->wpAny (model X.prog X.w) X.A (execs st X.env) (VJ X pins H G D) X.xe s
theorem VJ.trans{X:Cx}{pins:List (Addr×Obj)}{H H1:Hp}{G G1:Gp}{D:lH}{f:Flow}{s':az}(m:Mv X.K H G H1 G1)(h:VJ X pins H1 G1 D f s'):VJ X pins H G D f s':=by
 cases f with
 | next=>obtain⟨jB,H',qf,G',I,m',q⟩:=h; exact⟨jB,H',qf,G',I,m.trans m',q⟩
 | brk=>obtain⟨jB,H',qf,G',I,m',q⟩:=h; exact⟨jB,H',qf,G',I,m.trans m',q⟩
 | cont=>obtain⟨jB,H',qf,G',I,m',q⟩:=h; exact⟨jB,H',qf,G',I,m.trans m',q⟩
 | ret u=>obtain⟨v,jB,H',d,G',I,m',r,rd,q⟩:=h; exact⟨v,jB,H',d,G',I,m.trans m',r,rd,q⟩
section
variable {X:Cx} {a b c:Expr} {ta tb tc:fY} {pos:Pos}
theorem jx{pins:List (Addr×Obj)}{σ:L2.St}{H:Hp}{τ:ik}{G:Gp}{s:az}{E:lX}{R:DK}{Q:Value->az->Prop}(ha:gE X a ta)(hE:Lk X E)(I:I2 X pins σ H τ G s)(h:ta E τ G R)
  (k:∀ v H1 d G1 u s1,I2 X pins σ H1 τ G1 s1->Mv X.K H G H1 G1->RelV v u->cw X.K H1 v d->R d G1->Q u s1):wpAny (model X.prog X.w) X.A (eval a X.env) Q X.xe s :=
 gN (ha E pins s σ H τ G R hE I h) (by rintro u s1 ⟨v,H1,d,G1,I1,m,r,rd,q⟩; exact k v H1 d G1 u s1 (I.mv I1 m) m r rd q)
theorem tW.trans{pins:List (Addr×Obj)}{σ:L2.St}{H H1:Hp}{G G1:Gp}{Q:DK}{u:Value}{s':az}(m:Mv X.K H G H1 G1)(h:tW X pins σ H1 G1 Q u s'):tW X pins σ H G Q u s':=by
 obtain⟨v,H',d,G',I,m',r,rd,q⟩:=h;exact⟨v,H',d,G',I,m.trans m',r,rd,q⟩
theorem V9.trans{pins:List (Addr×Obj)}{σ:L2.St}{H H1:Hp}{G G1:Gp}{Q:Bool->Gp->Prop}{u:Bool}{s':az}(m:Mv X.K H G H1 G1)(h:V9 X pins σ H1 G1 Q u s'):V9 X pins σ H G Q u s':=by
 obtain⟨H',G',I,m',r⟩:=h;exact⟨H',G',I,m.trans m',r⟩
theorem Rq {i:Nat} {x:Str} (hN:X.N[i]?=some x) (hv:YJ X.env.scope x) (hd:autoParam ((x == ("__debug__" : Str))=false) Ad._auto_1) (J2:autoParam ((x == ("__classdict__" : Str))=false) Ad._auto_1):gE X (.Name x pos) (ax i):=by
 intro E pins s σ H τ G Q hE I h;unfold ax at h;split at h
 ·rename_i d e;obtain⟨v,h1,h2⟩:=I.st.at' i d e;exact gN (UJ hN hv hd J2 pins s σ H (fun v' H'=>v'=v/\H'=H) I.inv ⟨v,h1,rfl,rfl⟩) fun u s1 Tx=>by
   obtain⟨v',H',I1,r,e1,e2⟩:=Tx;subst e1; subst e2;exact⟨_,_,d,G,I1,.refl I.ab,r,h2,h⟩
 ·exact h.elim
theorem vN{e:Expr}{v:V}{d:D}(h:PE X e (tC v))(r:∀ K H,cw K H v d):gE X e (dC d):=by
 intro E pins s σ H τ G Q hE I hq;exact gN (h pins s σ H (fun v' H'=>v'=v/\H'=H) I.inv ⟨rfl,rfl⟩) fun u s1 hp1=>by
  obtain⟨v',H',I1,rr,e1,e2⟩:=hp1;subst e1; subst e2;exact⟨_,_,d,G,I1,.refl I.ab,rr,r _ _,hq⟩
theorem aM{i j}:gE X (.Constant (.int i) j pos) (dC (.int i)):=vN UK fun _ _=>.int i
noncomputable def qj(X:Cx)(f:Value->Value->Sem Value)(r:AK):Prop :=
 ∀ (pins:List (Addr×Obj)) (s:az) (σ:L2.St) (H:Hp) (G:Gp) (x y:V) (dx dy:D) (v u:Value) (Q:DK),Inv X pins σ H s->lZ X.K H G->RelV x v->RelV y u->cw X.K H x dx->cw X.K H y dy->r dx dy G Q ->
  wpAny (model X.prog X.w) X.A (f v u) (tW X pins σ H G Q) X.xe s
noncomputable def X1(X:Cx)(f:Value->Sem Value)(r:D->Gp->DK->Prop):Prop :=
 ∀ (pins:List (Addr×Obj)) (s:az) (σ:L2.St) (H:Hp) (G:Gp) (x:V) (dx:D) (v:Value) (Q:DK),Inv X pins σ H s->lZ X.K H G->RelV x v->cw X.K H x dx->r dx G Q ->
  wpAny (model X.prog X.w) X.A (f v) (tW X pins σ H G Q) X.xe s
noncomputable def rE(X:Cx)(f:Value)(r:List D->Gp->DK->Prop):Prop :=
 ∀ (pins:List (Addr×Obj)) (s:az) (σ:L2.St) (H:Hp) (G:Gp) (xs:List V) (ds:List D) (us:List Value) (Q:DK),Inv X pins σ H s->lZ X.K H G->Vals xs us->br X.K H xs ds->r ds G Q ->
  wpAny (model X.prog X.w) X.A (call f us) (tW X pins σ H G Q) X.xe s
noncomputable abbrev BM(K:ai)(H:Hp)(G:Gp)(Q:DK):VK:=fun v H'=>∃ d G',Mv K H G H' G'/\cw K H' v d/\Q d G'
theorem tW.of{pins:List (Addr×Obj)}{σ:L2.St}{H:Hp}{G:Gp}{Q:DK}{u:Value}{s':az}(h:EP X pins σ (BM X.K H G Q) u s'):tW X pins σ H G Q u s':=by
 obtain⟨v,H',I,r,d,G',m,rd,q⟩:=h;exact⟨v,H',d,G',I,m,r,rd,q⟩
theorem Qf(ha:gE X a ta)(hb:gE X b tb){E:lX}{pins:List (Addr×Obj)}{s:az}{σ:L2.St}{H:Hp}{τ:ik}{G:Gp}{R:D->D->Gp->Prop}(hE:Lk X E)(I:I2 X pins σ H τ G s)
  (h:ta E τ G fun x G1=>tb E τ G1 fun y G2=>R x y G2) {Q:Value->az->Prop} {f:Value->Value->Sem Value}
  (hf:∀ v u s2 x y dx dy H2 G2,I2 X pins σ H2 τ G2 s2->Mv X.K H G H2 G2->RelV x v->RelV y u->cw X.K H2 x dx->cw X.K H2 y dy->R dx dy G2->wpAny (model X.prog X.w) X.A (f v u) Q X.xe s2) :
  wpAny (model X.prog X.w) X.A (eval a X.env) (fun v fu=>wpAny (model X.prog X.w) X.A (eval b X.env) (fun u DV=>wpAny (model X.prog X.w) X.A (f v u) Q X.xe DV) X.xe fu) X.xe s:=by
 refine jx ha hE I h fun x H1 dx G1 v s1 I1 m1 r1 jt q1=>?_;refine jx hb hE I1 q1 fun y H2 dy G2 u s2 nk m2 r2 yB q2=>?_;exact hf v u s2 x y dx dy H2 G2 nk (m1.trans m2) r1 r2 (jt.mono (m2.kp I1.ab)) yB q2
theorem bY{op:Operator}{r:AK}(ho:qj X (iY op) r)(ha:gE X a ta)(hb:gE X b tb):gE X (.BinOp a op b pos) (bD r ta tb):=by
 intro E pins s σ H τ G Q hE I h;exact wpAny_BinOp (Qf ha hb hE I h fun v u s2 x y dx dy H2 G2 nk m rx ry dX dY q=>gN (ho pins s2 σ H2 G2 x y dx dy v u Q nk.inv nk.ab rx ry dX dY q) fun _ _ z=>z.trans m)
theorem N6{op:UnaryOp}{r:D->Gp->DK->Prop}(ho:X1 X (unaryOp op) r)(ha:gE X a ta):gE X (.UnaryOp op a pos) (QJ r ta):=by
 intro E pins s σ H τ G Q hE I h;exact UnaryOp_ (jx ha hE I h fun x H1 dx G1 v s1 I1 m1 r1 jt q1=>gN (ho pins s1 σ H1 G1 x dx v Q I1.inv I1.ab r1 jt q1) fun _ _ z=>z.trans m1)
theorem Rv{op:CmpOp}{r:AK}(ho:qj X (fk op) r)(ha:gE X a ta)(hb:gE X b tb)(hm:behindInMarks op b=false):gE X (.Compare a [op] [b] pos) (bD r ta tb):=by
 intro E pins s σ H τ G Q hE I h;exact wpAny_Compare1 (Qf ha hb hE I h fun v u s2 x y dx dy H2 G2 nk m rx ry dX dY q=>gN (ho pins s2 σ H2 G2 x y dx dy v u Q nk.inv nk.ab rx ry dX dY q) fun _ _ z=>z.trans m) hm
end
end K2
end
section
namespace K2
open PySem PySem.Spec PyProof.Rows L2
theorem Wt{K:ai}{H:Hp}{G:Gp}{x:V}{d:D}{k:Bool}(ab:lZ K H G)(r:cw K H x d)(e:Ge d G=some k):(∃ p,x=.ref p/\Rd H p (.dT [])/\k=false)\/(∃ p kv,x=.ref p/\Rd H p (.dK kv)/\k=!kv.isEmpty)\/VI K x H k:=by
 have PN:∀ kvs:List (D×D),(if (kvs.all fun p=>eK p.1)=true then some (!kvs.isEmpty) else none)=some k->∀ p,((∃ kv,Rd H p (.dK kv)/\mw K H kv kvs)\/∃ kv,Rd H p (.dT kv)/\lY K H kv kvs) ->
   (∃ p',V.ref p=.ref p'/\Rd H p' (.dT [])/\k=false)\/(∃ p' kv,V.ref p=.ref p'/\Rd H p' (.dK kv)/\k=!kv.isEmpty)\/VI K (.ref p) H k:=by
  intro kvs e p z;by_cases ha:(kvs.all fun p=>eK p.1)=true
  ·rw [if_pos ha] at e;cases e;rcases z with ⟨kv,hv,rs⟩ | ⟨kv,hv,rs⟩
   ·right; left;refine⟨p,kv,rfl,hv,?_⟩;cases rs <;> rfl
   ·left;cases rs with
    | nil=>exact⟨p,rfl,hv,rfl⟩
    | cons _ _=>simp [eK] at ha
  ·rw [if_neg ha] at e; cases e
 cases r with
 | eU=>right; right; cases e; rfl
 | bl b=>right; right; cases e; rfl
 | int i=>right; right; cases e; rfl
 | str y =>
  right; right;unfold Ge at e;dsimp only at e;by_cases h:y.length<=SZ
  ·rw [if_pos h] at e; cases e; exact⟨by rw [cY]; exact h,rfl⟩
  ·rw [if_neg h] at e; cases e
 | tup h rs =>
  right; right;cases e;refine .inr (.inl ⟨_,.of h,?_⟩);cases rs <;> rfl
 | dP h rs =>
  right; right;cases e;refine .inl ⟨_,h.sq,?_⟩;cases rs <;> rfl
 | qh h rs=>exact PN _ e _ (.inl ⟨_,.inr ⟨_,h⟩,rs⟩)
 | qg h rs=>exact PN _ e _ (.inr ⟨_,.inr ⟨_,h⟩,rs⟩)
 | exc h=>simp [Ge] at e
 | Gj h _=>simp [Ge] at e
 | oX _ _ _ _=>simp [Ge] at e
 | ref a =>
  unfold Ge at e;dsimp only at e;cases q:G a with
  | none=>rw [q] at e; cases e
  | some g =>
   rw [q] at e;have z:=ab a g q;cases g with
   | lst ds =>
    right; right;obtain⟨vs,hv,rs⟩:=z;cases e;refine .inl ⟨vs,.of hv,?_⟩;cases rs <;> rfl
   | ins _ _=>cases e
   | sE _=>cases e
   | gP kvs =>
    refine PN kvs e a ?_;rcases z with ⟨kv,hv,rs⟩ | ⟨kv,hv,rs⟩
    ·exact .inl ⟨kv,.inl hv,rs⟩
    ·exact .inr ⟨kv,.inl hv,rs⟩
section
variable {X:Cx} {a b c:Expr} {ta tb tc:fY} {pos:Pos}
noncomputable def X2(X:Cx):Prop:=∀ (pins:List (Addr×Obj)) (s:az) (σ:L2.St) (H:Hp) (G:Gp) (x:V) (d:D) (v:Value) (k:Bool) (Q:Bool->az->Prop),Inv X pins σ H s->lZ X.K H G->RelV x v->cw X.K H x d->Ge d G=some k ->
  (∀ s',Inv X pins σ H s'->Q k s')->wpAny (model X.prog X.w) X.A (truthy v) Q X.xe s
theorem Nc:X2 X:=by
 intro pins s σ H G x d v k Q I ab rx rd e q;rcases Wt ab rd e with ⟨p,rfl,hv,hk⟩ | ⟨p,kv,rfl,hv,hk⟩ | h
 ·obtain⟨z,hS,xs,rel,o,es,ep,ho,hx,z9,hl,nd⟩:=hv.ok I.cL;have hxs:xs=[]:=by cases rel; rfl
  subst hxs;have he:es=#[]:=by simpa using hl
  subst he;cases rx;have dd:s.heap.DictOf (cP X.prog X.w) p []:=⟨o,#[],ep,ho,hx,z9,(fun _ h=>by simp at h),.nil,cH⟩;refine Gn hS dd (by simp) ?_;subst hk;exact q _ (I.tok _)
 ·cases rx;subst hk;exact R9 I hv q
 ·exact gN (Uc pins s σ H x v (fun k' H'=>k'=k/\H'=H) I rx ⟨k,h,rfl,rfl⟩) fun k' s' Tx=>by
   obtain⟨H',I',e1,e2⟩:=Tx;subst e1; subst e2; exact q s' I'
theorem jD(ha:gE X a ta)(he:autoParam (∀ whole,isTrue a X.env whole=(do let v ← whole; standAt a.pos; MQ [v] (truthy v))) Ai._auto_1):MG X a (kE ta):=by
 intro E pins s σ H τ G Q hE I h;refine isTrue_plain (jx ha hE I h fun x H1 d G1 v s1 I1 m1 r1 jt q1=>?_) (he _)
 try dsimp only at q1
 split at q1
 ·rename_i k e;exact Nc pins s1 σ H1 G1 x d v k _ I1.inv I1.ab r1 jt e fun s' I'=>⟨H1,G1,I',m1,q1⟩
 ·exact q1.elim
theorem iP{op:CmpOp}{r:AK}(ho:qj X (fk op) r)(ha:gE X a ta)(hb:gE X b tb)(hm:behindInMarks op b=false):MG X (.Compare a [op] [b] pos) (kE (bD r ta tb)):=by
 intro E pins s σ H τ G Q hE I h;refine wpAny_isTrue_Compare1 (jx ha hE I h fun x H1 dx G1 v s1 I1 m1 r1 jt q1=>jx hb hE I1 q1 fun y H2 dy G2 u s2 nk m2 r2 yB q2 =>
  gN (ho pins s2 σ H2 G2 x y dx dy v u _ nk.inv nk.ab r1 r2 (jt.mono (m2.kp I1.ab)) yB q2) ?_) hm
 rintro c s3 ⟨z,H3,dz,G3,I3,m3,r3,Zk,q3⟩
 try dsimp only at q3
 split at q3
 ·rename_i k e;exact Nc pins s3 σ H3 G3 z dz c k _ I3 m3.ab r3 Zk e fun s' I'=>⟨H3,G3,I',(m1.trans m2).trans m3,q3⟩
 ·exact q3.elim
variable {tA tB:w9} {rest:List Expr}
theorem VL.pt{e:Expr}{t:w9}(h:VL X e t):MG X e t:=fun E pins s σ H τ G Q hE I q=>h _ E pins s σ H τ G Q hE I q
theorem Nd{pins:List (Addr×Obj)}{σ:L2.St}{H:Hp}{τ:ik}{G:Gp}{s:az}{E:lX}{R:Bool->Gp->Prop}{Q:Bool->az->Prop}(ha:MG X a tA)(hE:Lk X E)(I:I2 X pins σ H τ G s)(h:tA E τ G R)
  (k:∀ c H1 G1 s1,I2 X pins σ H1 τ G1 s1->Mv X.K H G H1 G1->R c G1->Q c s1):wpAny (model X.prog X.w) X.A (isTrue a X.env (eval a X.env)) Q X.xe s :=
 gN (ha E pins s σ H τ G R hE I h) (by rintro c s1 ⟨H1,G1,I1,m,q⟩; exact k c H1 G1 s1 (I.mv I1 m) m q)
theorem Jx(ha:MG X a tA):VL X (.BoolOp .Or [a] pos) tA:=by
 intro wh E pins s σ H τ G Q hE I h;refine isTrue_or (gN (ha E pins s σ H τ G Q hE I h) fun c s1 e=>?_);cases c with
 | false=>exact isTrue_or_nil e
 | true=>exact e
theorem B8(ha:MG X a tA)(hb:VL X (.BoolOp .Or (b :: rest) pos) tB):VL X (.BoolOp .Or (a :: b :: rest) pos) (PT tA tB):=by
 intro wh E pins s σ H τ G Q hE I h;refine isTrue_or (Nd ha hE I h fun c H1 G1 s1 I1 m1 q1=>?_);cases c with
 | false=>exact gN (hb wh E pins s1 σ H1 τ G1 Q hE I1 (by simpa using q1)) fun _ _ z=>z.trans m1
 | true=>exact⟨H1,G1,I1.inv,m1,by simpa using q1⟩
theorem rK(ha:MG X a tA):MG X (.UnaryOp .Not a pos) (tQ tA):=by
 intro E pins s σ H τ G Q hE I h;exact isTrue_not (gN (ha E pins s σ H τ G (fun c H1=>Q (!c) H1) hE I h) (by rintro c s' ⟨H',G',i,m,q⟩; exact⟨H',G',i,m,q⟩))
theorem Rt{op}{t:fY}(h:gE X a t):gE X (.BoolOp op [a] pos) t:=fun E pins s σ H τ G Q hE I hw=>BoolOp_one (h E pins s σ H τ G Q hE I hw)
theorem Rw(ha:gE X a ta)(hb:gE X (.BoolOp .And (b :: rest) pos) tb):gE X (.BoolOp .And (a :: b :: rest) pos) (Kk ta tb):=by
 intro E pins s σ H τ G Q hE I h;refine BoolOp_and (jx ha hE I h fun x H1 d G1 v s1 I1 m1 r1 jt q1=>?_)
 try dsimp only at q1
 split at q1
 ·rename_i e;exact Nc pins s1 σ H1 G1 x d v true _ I1.inv I1.ab r1 jt e fun s' I'=>gN (hb E pins s' σ H1 τ G1 Q hE ⟨I',I1.st,I1.ab⟩ q1) fun _ _ z=>z.trans m1
 ·rename_i e;exact Nc pins s1 σ H1 G1 x d v false _ I1.inv I1.ab r1 jt e fun s' I'=>⟨x,H1,d,G1,I',m1,r1,jt,q1⟩
 ·exact q1.elim
theorem Ru(ha:gE X a ta):gE X (.UnaryOp .Not a pos) (PU ta):=by
 intro E pins s σ H τ G Q hE I h;refine UnaryOp_ (jx ha hE I h fun x H1 d G1 v s1 I1 m1 r1 jt q1=>?_)
 try dsimp only at q1
 split at q1
 ·rename_i k e;exact not_of (Nc pins s1 σ H1 G1 x d v k _ I1.inv I1.ab r1 jt e fun s' I'=>⟨.bl (!k),H1,.bl (!k),G1,I',m1,rfl,.bl _,q1⟩)
 ·exact q1.elim
theorem UL(hc:MG X c tA)(ha:gE X a ta)(hb:gE X b tb):gE X (.IfExp c a b pos) (dIf tA ta tb):=by
 intro E pins s σ H τ G Q hE I h;refine wpAny_IfExp (Nd hc hE I h fun d H1 G1 s1 I1 m1 q1=>?_);cases d with
 | true=>exact gN (ha E pins s1 σ H1 τ G1 Q hE I1 (by simpa using q1)) fun _ _ z=>z.trans m1
 | false=>exact gN (hb E pins s1 σ H1 τ G1 Q hE I1 (by simpa using q1)) fun _ _ z=>z.trans m1
variable {e:Expr} {es:List Expr} {te:fY} {t:IH}
theorem aH:Md X [] a8:=fun _ _ _ _ _ H _ G Q _ I h=>lM ⟨[],H,[],G,I.inv,.refl I.ab,.nil,.nil,h⟩
theorem ah(ha:gE X e te)(hr:Md X es t)(hs:autoParam (cK (e :: es) X.env=(false,eval e X.env) :: cK es X.env) Ar._auto_1):Md X (e :: es) (av te t):=by
 intro pos E pins s σ H τ G Q hE I h;rw [hs];show wpAny _ _ (Gr ((false,eval e X.env) :: oy pos (cK es X.env))) _ _ s;refine iW (jx ha hE I h fun x H1 d G1 u s1 I1 m1 r1 jt q1=>?_);exact gN (hr pos E pins s1 σ H1 τ G1 _ hE I1 q1) (by rintro us s2 ⟨xs,H2,ds,G2,nk,m2,r2,yB,q2⟩; exact⟨x :: xs,H2,d :: ds,G2,nk,m1.trans m2,.cons r1 r2,.cons (jt.mono (m2.kp I1.ab)) yB,q2⟩)
theorem GP{pins:List (Addr×Obj)}{σ:L2.St}{H:Hp}{τ:ik}{G:Gp}{s:az}{E:lX}{R:List D->Gp->Prop}{Q:List Value->az->Prop}(ha:Md X es t)(pos:Pos)(hE:Lk X E)(I:I2 X pins σ H τ G s)(h:t E τ G R)
  (k:∀ vs H1 ds G1 us s1,I2 X pins σ H1 τ G1 s1->Mv X.K H G H1 G1->Vals vs us->br X.K H1 vs ds->R ds G1->Q us s1):wpAny (model X.prog X.w) X.A (Gr (oy pos (cK es X.env))) Q X.xe s :=
 gN (ha pos E pins s σ H τ G R hE I h) (by rintro us s1 ⟨vs,H1,ds,G1,I1,m,r,rd,q⟩; exact k vs H1 ds G1 us s1 (I.mv I1 m) m r rd q)
theorem dI{x1}(h:Md X es t):gE X (.Tuple es x1 pos) (gQ t):=by
 intro E pins s σ H τ G Q hE I hq;refine wpAny_Tuple_spliced (GP h pos hE I hq ?_);rintro xs H1 ds G1 us s1 I1 m1 r rd ⟨z,q⟩;refine⟨by rw [<-r.length,rd.length,cY]; exact z,?_⟩;have hf:H1 s1.heap.objs.size=none:=I1.inv.cL.fresh (aI _);refine⟨.ref s1.heap.objs.size,upd H1 s1.heap.objs.size (.tup xs),.tup ds,G1,I1.inv.laid (t':=s1.toks) (fun b u e=>aG _ e) (aI _) ?_,m1.trans (.HP I1.ab hf),rfl,?_,q⟩
 ·exact⟨by rw [rd.length,cY]; exact z,us,r,⟨_,bh _ rfl,rfl,_,rfl⟩⟩
 ·exact .tup cc (rd.mono (.new hf))
theorem fi(h:Md X es t):gE X (.List es pos) (gR t):=by
 intro E pins s σ H τ G Q hE I hq;refine wpAny_List_spliced (GP h pos hE I hq ?_);rintro xs H1 ds G1 us s1 I1 m1 r rd ⟨z,q⟩;refine⟨by rw [<-r.length,rd.length,cY]; exact z,?_⟩;have hf:H1 s1.heap.objs.size=none:=I1.inv.cL.fresh (aI _);refine⟨.ref s1.heap.objs.size,upd H1 s1.heap.objs.size (.lst xs),.ref _,dO G1 s1.heap.objs.size (.lst ds),I1.inv.laid (t':=s1.toks) (fun b u e=>aG _ e) (aI _) ?_,m1.trans (.EF I1.ab hf rd),rfl,.ref _,q _ (I1.ab.free hf)⟩;exact⟨by rw [rd.length,cY]; exact z,us,0,r,bh _ rfl⟩
noncomputable def cS(K:ai)(sp:nQ):Sp:=fun vs H Q _=>∃ ds G Q2,br K H vs ds/\lZ K H G/\sp ds G Q2 (fun _ _=>False)/\∀ d G' v H',Q2 d G'->Mv K H G H' G'->cw K H' v d->Q v H'
variable {k:Nat} {f:Addr} {fd:aJ} {ps:List Str} {sp:nQ} {x:Str} {p:Pos} {r:List D->Gp->DK->Prop} {id:String}
theorem N9(F:gq X.prog X.w X.K X.mg X.base gu k f fd ps (cS X.K sp))(hr:mY k X.A)(hg:Gl X x)(hm:X.mg x=some (.ref f))(hk:lE X.K (.ref f)=true)(hb:Binds X.K fd ps [])
  (ha:Md X (e :: es) t) (LN:autoParam ((x == ("__debug__" : Str))=false) Ad._auto_1) (he:autoParam (cK (e :: es) X.env=(false,eval e X.env) :: cK es X.env) Ar._auto_1) (HN:autoParam ((oy pos (cK es X.env)).any (·.1)=false) Ar._auto_1) :
  gE X (.Call (.Name x p) (e :: es) [] pos) (fun E τ G Q=>bH (fun ds G1 Q1 _=>sp ds G1 Q1 fun _ _=>False) t E τ G Q):=by
 intro E pins s σ H τ G Q hE I h;refine hU (Co I.inv hg hm ?_ LN);refine PySem.W.callWith_K (h₀:=X.base) I.inv.ok.mod.Ys hk (GP ha pos hE I h fun vs H1 ds G1 us s1 I1 m1 r rd q=>⟨I1.inv.JS,?_⟩) he HN;refine gN (Uv F hr hb .nil WJ I1.inv r (Q:=BM X.K H1 G1 Q) ?_) fun _ _ z=>(tW.of z).trans m1;rw [bN];exact⟨ds,G1,Q,rd,I1.ab,q,fun d G' v H' q' m' VU=>⟨d,G',m',VU,q'⟩⟩
theorem jE (hc:rE X (.builtin id) r) (hg:Gl X x) (hm:X.mg x=none) (hv:eB x=some (.builtin id)) (ha:Md X (e :: es) t) (hn:autoParam (x≠"__name__") Ad._auto_1) (LN:autoParam ((x == ("__debug__" : Str))=false) Ad._auto_1)
  (he:autoParam (cK (e :: es) X.env=(false,eval e X.env) :: cK es X.env) Ar._auto_1) (HN:autoParam ((oy pos (cK es X.env)).any (·.1)=false) Ar._auto_1):gE X (.Call (.Name x p) (e :: es) [] pos) (wm r t):=by
 intro E pins s σ H τ G Q hE I h;refine hU (pF I.inv hg hm hv ?_ hn LN);exact vA (GP ha pos hE I h fun vs H1 ds G1 us s1 I1 m1 r1 jt q1=>gN (hc pins s1 σ H1 G1 vs ds us Q I1.inv I1.ab r1 jt q1) fun _ _ z=>z.trans m1) he HN
variable {st:Stmt} {sts:List Stmt} {u v:iF}
theorem jf:zL X [] gK:=fun _ _ _ σ H τ G _ _ I h=>x2 ⟨σ,H,τ,G,I,.refl I.ab,h⟩
theorem aL(h1:II X st u)(h2:zL X sts v):zL X (st :: sts) (cG u v):=by
 intro E pins s σ H τ G D hE I h;refine wpAny_execs_cons (gN (h1 E pins s σ H τ G { D with nx:=v E D } hE I h) fun f s1 q=>?_);cases f with
 | next =>
  obtain⟨jB,H',qf,G',I',m,q⟩:=q;exact gN (h2 E pins s1 jB H' qf G' D hE I' q) fun _ _ z=>z.trans m
 | ret v=>exact q
 | brk=>exact q
 | cont=>exact q
theorem aR(h1:II X st u):zL X [st] u:=by
 intro E pins s σ H τ G D hE I h;refine wpAny_execs_cons (gN (h1 E pins s σ H τ G D hE I h) fun f s1 q=>?_);cases f with
 | next=>exact x2 q
 | ret v=>exact q
 | brk=>exact q
 | cont=>exact q
theorem cI(he:gE X e te):II X (.Return (some e) pos) (c7 te):=by
 intro E pins s σ H τ G D hE I h;exact wpAny_Return_some (gN (he E pins s σ H τ G _ hE I h) (by rintro v s1 ⟨x,H1,d,G1,I1,m,r1,rd,q1⟩; exact⟨x,σ,H1,d,G1,I1,m,r1,rd,q1⟩))
theorem lB{sa sb:List Stmt}(hc:MG X c tA)(ha:zL X sa u)(hb:zL X sb v):II X (.If c sa sb pos) (kZ tA u v):=by
 intro E pins s σ H τ G D hE I h;refine wpAny_If (Nd hc hE I h fun d H1 G1 s1 I1 m1 q1=>?_);cases d with
 | true=>exact gN (ha E pins s1 σ H1 τ G1 D hE I1 (by simpa using q1)) fun _ _ z=>z.trans m1
 | false=>exact gN (hb E pins s1 σ H1 τ G1 D hE I1 (by simpa using q1)) fun _ _ z=>z.trans m1
noncomputable def Mc(X:Cx)(target:Expr)(t:Aa):Prop :=
 ∀ (E:lX) (pins:List (Addr×Obj)) (s:az) (σ:L2.St) (H:Hp) (τ:ik) (G:Gp) (w:V) (d:D) (u:Value) (Q:ik->Gp->Prop),Lk X E->I2 X pins σ H τ G s->RelV w u->cw X.K H w d->t E d τ G Q ->
  wpAny (model X.prog X.w) X.A (IT target X.env u) (fun _ s'=>∃ jB H' qf G',I2 X pins jB H' qf G' s'/\Mv X.K H G H' G'/\Q qf G') X.xe s
noncomputable def SF(X:Cx)(ts:List Expr)(t:Df):Prop :=
 ∀ (E:lX) (pins:List (Addr×Obj)) (s:az) (σ:L2.St) (H:Hp) (τ:ik) (G:Gp) (ws:List V) (ds:List D) (us:List Value) (Q:ik->Gp->Prop),Lk X E->I2 X pins σ H τ G s->Vals ws us->br X.K H ws ds->t E ds τ G Q ->
  wpAny (model X.prog X.w) X.A (assignInOrder ((zV ts X.env).map (·.2)) us) (fun _ s'=>∃ jB H' qf G',I2 X pins jB H' qf G' s'/\Mv X.K H G H' G'/\Q qf G') X.xe s
theorem N1{i:Nat}{x:Str}(hN:X.N.Nodup)(hi:X.N[i]?=some x)(hx:Loc X.env.scope x)(hf:autoParam (X.fn x=true\/X.env.scope.names.lookup x=some .local) Ao._auto_1):Mc X (.Name x pos) (aN i):=by
 intro E pins s σ H τ G w d u Q hE I r rd h;exact wpAny_assign_Name (DX I.inv hN hi hx r (fun s' I'=>⟨_,H,_,G,⟨I',I.st.set i rd,I.ab⟩,.refl I.ab,h⟩) hf)
theorem hX:SF X [] jA:=by
 intro E pins s σ H τ G ws ds us Q hE I r rd h;unfold jA at h;split at h
 ·have e:=rd.zero;subst e;cases r;exact assignInOrder_nil ⟨σ,H,τ,G,I,.refl I.ab,h⟩
 ·exact h.elim
theorem cO{t:Aa}{u:Df}(h1:Mc X e t)(h2:SF X es u)
  (hs:autoParam ((zV (e :: es) X.env).map (·.2)=IT e X.env :: (zV es X.env).map (·.2)) Ar._auto_1):SF X (e :: es) (dJ t u):=by
 intro E pins s σ H τ G ws ds us Q hE I r rd h;unfold dJ at h;split at h
 ·cases rd with
  | cons jt yB =>
   cases r with
   | cons r1 r2 =>
    rw [hs];refine assignInOrder_cons (gN (h1 E pins s σ H τ G _ _ _ _ hE I r1 jt h) ?_);rintro _ s1 ⟨Yc,H1,o8,G1,I1,m1,q1⟩;exact gN (h2 E pins s1 Yc H1 o8 G1 _ _ _ Q hE I1 r2 (yB.mono (m1.kp I.ab)) q1) (by rintro _ _ ⟨Y2,H2,vG,G2,nk,m2,q2⟩; exact⟨Y2,H2,vG,G2,nk,m1.trans m2,q2⟩)
 ·exact h.elim
theorem ju{k:Nat}{t:Df}{n:Nat}(hc:X.calm=true)(h:SF X es t)(hgl:∀ E ds τ G Q,t E ds τ G Q->ds.length=n)
  (hn:autoParam ((zV es X.env).length=n) Ar._auto_1) (hst:autoParam ((zV es X.env).findIdx? (·.1)=none) Ar._auto_1):Mc X (.Tuple es k pos) (jI t):=by
 intro E pins s σ H τ G w d u Q hE I r rd hw;unfold jI at hw;split at hw
 ·cases rd with
  | tup hq rs =>
   cases r;obtain⟨bW,rv,ht,hz⟩:=I.inv.tuple (.of hq);refine assign_Tuple_tuple (I.inv.ok.hd hc) ht (by rw [hn,aY,<-rv.length,rs.length]; exact(hgl _ _ _ _ _ hw).symm) hst fun h' hx=>?_;have I1:Inv X pins σ H { s with heap:=h' }:=I.inv.kept (t':=s.toks) fun b o e=>hx b o (bK (aS e)) e;exact h E pins _ σ H τ G _ _ _ Q hE ⟨I1,I.st,I.ab⟩ (by simpa using rv) rs hw
 ·exact hw.elim
theorem ib:∀ E ds τ G Q,jA E ds τ G Q->ds.length=0:=by
 intro E ds τ G Q h;cases ds with
 | nil=>rfl
 | cons _ _=>exact h.elim
theorem LQ{t:Aa}{u:Df}{n:Nat}(h:∀ E ds τ G Q,u E ds τ G Q->ds.length=n)(hm:∀ E d τ G (Q Q':ik->Gp->Prop),t E d τ G Q->(∀ qf G',Q qf G'->Q' qf G')->t E d τ G Q')(hx:∀ E d τ G,¬ t E d τ G fun _ _=>False) :
  ∀ E ds τ G Q,dJ t u E ds τ G Q->ds.length=n+1:=by
 intro E ds τ G Q q;cases ds with
 | nil=>exact q.elim
 | cons d ds =>
  by_cases hl:ds.length=n
  ·rw [ak,hl]
  ·exact absurd (hm E d τ G _ (fun _ _=>False) q fun qf G' z=>hl (h _ _ _ _ _ z)) (hx E d τ G)
theorem iQ{tg:Expr}{g:Aa}(he:gE X e te)(hg:Mc X tg g)(hs:autoParam (swapsWithSole [tg] e pos.line X.env=pure false) Ar._auto_1)(hw:autoParam (swappedStores [tg] e X.env=pure none) Ar._auto_1)
  (h1:autoParam ((zV [tg] X.env).map (·.2)=[IT tg X.env]) Ar._auto_1):II X (.Assign [tg] e pos) (bL te g):=by
 intro E pins s σ H τ G D hE I h;refine wpAny_Assign_stores (jx he hE I h fun x H1 d G1 v s1 I1 m1 r1 jt q1=>?_) hs hw;rw [h1];exact gN (hg E pins s1 σ H1 τ G1 x d v _ hE I1 r1 jt q1) (by rintro _ s2 ⟨Y2,H2,vG,G2,nk,m2,q2⟩; exact⟨Y2,H2,vG,G2,nk,m1.trans m2,q2⟩)
theorem Ri{i:Nat}{x:Str}{pos':Pos}(hN:X.N.Nodup)(hi:X.N[i]?=some x)(hx:Loc X.env.scope x)(he:gE X e te)(hs:autoParam (MN e (some (.Name x pos')) pos.line X.env=pure false) Ar._auto_1)(hf:autoParam (X.fn x=true\/X.env.scope.names.lookup x=some .local) Ao._auto_1) :
  II X (.Assign [.Name x pos'] e pos) (bL te (aN i)):=by
 intro E pins s σ H τ G D hE I h;refine wpAny_Assign_Name (jx he hE I h fun y H1 d G1 v s1 I1 m1 r1 jt q1=>?_) hs;exact DX I1.inv hN hi hx r1 (fun s2 nk=>⟨_,H1,_,G1,⟨nk,I1.st.set i jt,I1.ab⟩,m1,q1⟩) hf
theorem mK(he:gE X e te)(hs:autoParam (MN e none pos.line X.env=pure false) Ar._auto_1):II X (.Expr e pos) (jj te):=by
 intro E pins s σ H τ G D hE I h;exact wpAny_Expr_any (jx he hE I h fun y H1 d G1 v s1 I1 m1 r1 jt q1=>⟨σ,H1,τ,G1,I1,m1,q1⟩) I.inv.quiet hs
end
end K2
end
section
namespace K2
open PySem PySem.Spec PyProof.Rows L2
noncomputable def TV(K:ai)(J:It)(H':Hp)(ds:List D)(ok:Gp->Prop):Prop :=
 ∀ i H1 G1,Kp H' H1->lZ K H1 G1->ok G1->(∀ d,ds[i]?=some d->J.go i H1/\∀ x H2,J.yld i H1 x H2->cw K H2 x d/\Mv K H1 G1 H2 G1)/\(ds.length<=i->J.stop i H1)
inductive Mb (X:Cx) (pins:List (Addr×Obj)) (σ:L2.St) (tg:Expr) (H:Hp) (G:Gp) (R:List D->(Gp->Prop)->Gp->Prop) (To:Value) (s2:az):Prop
 | mk (it:Addr) (fp:List Addr) (tn:Nat->Heap->Prop) (J:It) (H':Hp) (G':Gp) (ds:List D) (ok:Gp->Prop) (e:To=.ref it) (i:Inv X pins σ H' s2) (m:Mv X.K H G H' G') (T:Turn X.prog X.w X.K tg J fp it tn) (t0:tn 0 s2.heap) (f:∀ b∈fp,ou X pins H' b)
  (wk:TV X.K J H' ds ok) (q:R ds ok G'):Mb X pins σ tg H G R To s2
noncomputable def MH(X:Cx)(tg iter:Expr)(wi:MF):Prop :=
 ∀ (E:lX) (pins:List (Addr×Obj)) (s:az) (σ:L2.St) (H:Hp) (τ:ik) (G:Gp) (R:List D->(Gp->Prop)->Gp->Prop),Lk X E->I2 X pins σ H τ G s->wi E τ G R ->
  wpAny (model X.prog X.w) X.A (eval iter X.env) (fun v s1=>wpAny (model X.prog X.w) X.A (MO v) (Mb X pins σ tg H G R) X.xe s1) X.xe s
section
variable {X:Cx} {tg:Expr} {a b:Expr} {ta tb:fY} {pos p:Pos}
theorem JP{pins:List (Addr×Obj)}{σ:L2.St}{H H1:Hp}{G G1:Gp}{s1:az}{l:Addr}{vs:List V}{ds:List D}{ok:Gp->Prop}{R:List D->(Gp->Prop)->Gp->Prop}(I1:Inv X pins σ H1 s1)(m:Mv X.K H G H1 G1)(hq:rz X.K H1 l vs)
  (hk:∀ H2 G2,Kp H1 H2->lZ X.K H2 G2->ok G2->∃ ws,rz X.K H2 l ws/\br X.K H2 ws ds) (q:R ds ok G1):wpAny (model X.prog X.w) X.A (MO (.ref l)) (Mb X pins σ tg H G R) X.xe s1:=by
 obtain⟨bW,rv,pl,hz⟩:=I1.list hq;refine wpAny_pyIter_list pl.isList ?_;refine⟨s1.heap.objs.size,[s1.heap.objs.size],_,_,H1,G1,ds,ok,rfl,I1.kept (t':=s1.toks) fun b o e=>aG _ e,m,KL l _,⟨_,bh _ rfl,rfl,rfl⟩,fun b hb=>?_,fun i H2 G2 k ab o=>?_,q⟩
 ·have e:b=s1.heap.objs.size:=by simpa using hb
  subst e;exact I1.CB (aI _) (I1.cL.fresh (aI _))
 ·obtain⟨ws,hw,rd⟩:=hk H2 G2 k ab o;refine⟨fun d hd=>?_,fun hl=>⟨ws,hw,by rw [rd.length]; exact hl⟩⟩;obtain⟨v,hv,r⟩:=rd.get hd;refine⟨⟨ws,v,hw,hv⟩,?_⟩;rintro x H3 ⟨e,y⟩;subst e;have:=y ws hw;rw [hv] at this;cases this;exact⟨r,.refl ab⟩
theorem Ub{pins:List (Addr×Obj)}{σ:L2.St}{H H1:Hp}{G G1:Gp}{s1:az}{l:Addr}{vs:List V}{ds:List D}{R:List D->(Gp->Prop)->Gp->Prop}(I1:Inv X pins σ H1 s1)(m:Mv X.K H G H1 G1)(hq:xX X.K H1 l vs)(rd:br X.K H1 vs ds)
  (q:R ds (fun _=>True) G1):wpAny (model X.prog X.w) X.A (MO (.ref l)) (Mb X pins σ tg H G R) X.xe s1:=by
 obtain⟨bW,rv,pl,hz⟩:=I1.tuple hq;refine wpAny_pyIter_tuple (show s1.heap.IsTuple l bW.toArray from pl) ?_;refine⟨s1.heap.objs.size,[s1.heap.objs.size],_,_,H1,G1,ds,_,rfl,I1.kept (t':=s1.toks) fun b o e=>aG _ e,m,GJ l _,⟨_,bh _ rfl,rfl,rfl⟩,fun b hb=>?_,fun i H2 G2 k ab _=>?_,q⟩
 ·have e:b=s1.heap.objs.size:=by simpa using hb
  subst e;exact I1.CB (aI _) (I1.cL.fresh (aI _))
 ·have hw:=k.sqT hq;have yB:=rd.mono k;refine⟨fun d hd=>?_,fun hl=>⟨vs,hw,by rw [rd.length]; exact hl⟩⟩;obtain⟨v,hv,r⟩:=yB.get hd;refine⟨⟨vs,v,hw,hv⟩,?_⟩;rintro x H3 ⟨e,y⟩;subst e;have:=y vs hw;rw [hv] at this;cases this;exact⟨r,.refl ab⟩
theorem fH(ha:gE X a ta):MH X tg a (mR ta):=by
 intro E pins s σ H τ G R hE I h;refine jx ha hE I h fun x H1 d G1 v s1 I1 m1 r1 jt q1=>?_;cases jt with
 | tup hq rs=>cases r1; exact Ub I1.inv m1 (.of hq) rs q1
 | dP hq rs=>cases r1; exact JP I1.inv m1 hq.sq (fun H2 G2 k ab _=>⟨_,(k.VT hq).sq,rs.mono k⟩) q1
 | ref p =>
  cases r1;dsimp only at q1;split at q1
  ·rename_i ds e;obtain⟨vs,hv,rs⟩:=I1.ab.lst e;refine JP I1.inv m1 (.of hv) (fun H2 G2 k ab o=>?_) q1;obtain⟨ws,hw,sx⟩:=ab.lst o;exact⟨ws,.of hw,sx⟩
  ·exact q1.elim
 | qh _ _=>exact q1.elim
 | qg _ _=>exact q1.elim
 | eU=>exact q1.elim
 | bl _=>exact q1.elim
 | int _=>exact q1.elim
 | str _=>exact q1.elim
 | exc _=>exact q1.elim
 | Gj _ _=>exact q1.elim
 | oX _ _ _ _=>exact q1.elim
theorem Ux{pins:List (Addr×Obj)}{σ:L2.St}{H H1:Hp}{G G1:Gp}{s:az}{R:List D->(Gp->Prop)->Gp->Prop}{lo hi:Int}{t u v:Tok}{tk:Nat}(I:Inv X pins σ H1 s)(m:Mv X.K H G H1 G1)(h1:-(2 ^ 62)<=lo)(h2:lo < 2 ^ 62)(h3:-(2 ^ 62)<=hi)(h4:hi < 2 ^ 62)
  (q:R (gH lo (hi - lo).toNat) (fun _=>True) G1):wpAny (model X.prog X.w) X.A (MO (.ref s.heap.objs.size)) (Mb X pins σ tg H G R) X.xe { s with heap:=s.heap.push { cls:=.type "range",data:=.fields #[.int lo t,.int hi u,.int 1 v] },toks:=tk }:=by
 refine gN (NM (tg:=tg) I h1 h2 h3 h4 (R:=fun J H'=>J=Itr lo (hi - lo).toNat/\H'=H1) ⟨rfl,rfl⟩) ?_;rintro To s2 ⟨it,fp,tn,J,H',e,nk,T,st,fo,eJ,eH⟩;subst eJ; subst eH;refine⟨it,fp,tn,_,H',G1,_,_,e,nk,m,T,st,fo,fun i H2 G2 k ab _=>⟨fun d hd=>?_,fun hl=>?_⟩,q⟩
 ·unfold gH at hd;rw [bA] at hd;cases O7:(fK (hi - lo).toNat)[i]? with
  | none=>rw [O7] at hd; cases hd
  | some j =>
   rw [O7] at hd;obtain⟨za,ej⟩:=List.getElem?_eq_some_iff.mp O7;rw [AR] at za;rw [qe] at ej;subst ej;cases hd;refine⟨za,?_⟩;rintro x H3 ⟨e1,e2⟩;subst e1; subst e2;exact⟨.int _,.refl ab⟩
 ·unfold gH at hl;rw [aq,AR] at hl;exact hl
theorem mL (hg:Gl X "range") (hm:X.mg "range" = none) (ha:gE X a ta) (hs:autoParam (cK [a] X.env=[(false,eval a X.env)]) Ar._auto_1):MH X tg (.Call (.Name "range" p) [a] [] pos) (y9 ta):=by
 intro E pins s σ H τ G R hE I h;have hA:Md X [a] (av ta a8):=ah ha aH hs;refine Call_ (pF I.inv hg hm boot_range (eF (GP hA pos hE I (R:=fun ds G1=>match ds with | [.int n]=>-(2 ^ 62)<=n/\n < 2 ^ 62/\R (gH 0 n.toNat) (fun _=>True) G1 | _=>False) ?_ fun vs H1 ds G1 us s1 I1 m1 r1 jt q1=>?_) hs rfl))
 ·show ta E τ G _;have e:(fun (x:D) (G1:Gp)=>match [x] with | [.int n]=>-(2 ^ 62)<=n/\n < 2 ^ 62/\R (gH 0 n.toNat) (fun _=>True) G1 | _=>False)=fun x G1=>match x with | .int n=>-(2 ^ 62)<=n/\n < 2 ^ 62/\R (gH 0 n.toNat) (fun _=>True) G1 | _=>False:=by
   funext x G1; cases x <;> rfl
  exact e ▸ h
 ·split at q1
  ·rename_i n;obtain⟨w,rfl,D7⟩:=jt.one;cases D7;obtain⟨u,rfl,ru⟩:=r1.one;obtain⟨t,rfl⟩:=ru;obtain⟨q1,q2,q⟩:=q1;exact call_range_1 (Ux I1.inv m1 (by lia) (by lia) q1 q2 (by simpa using q))
  ·exact q1.elim
theorem dE{iter:Expr}{body:List Stmt}{wi:MF}{g:Aa}{t:iF}(hp:PassesOwn (model X.prog X.w) X.A X.env X.xe)(hc:X.calm=true)(hi:MH X tg iter wi)(hg:Mc X tg g)(hb:zL X body t)
  (hs:autoParam (∀ x,nT iter X.env x=pure x) Ai._auto_1):II X (.For tg iter body [] pos) (fb wi g t):=by
 intro E pins s σ H τ G D hE I h;refine wpAny_For (gN (hi E pins s σ H τ G _ hE I h) fun v s1 h1=>gN h1 fun To s2 h2=>?_) hs;obtain⟨it,fp,tn,J,H2,G2,ds,ok,e,nk,m2,T,QB,f2,wk,q⟩:=h2;subst e;have Ul:∀ {H':Hp},(∀ b∈fp,H' b=none)->∀ b∈fp,ou X pins H' b:=fun hn b hb=>⟨hn b hb,(f2 b hb).2⟩;refine codeAny_forLoop_any (fun n s'=>∃ i jB H' qf G',I2 X pins jB H' qf G' s'/\Mv X.K H G H' G'/\Kp H2 H'/\tn i s'.heap/\(∀ b∈fp,H' b=none)/\n=ds.length - i/\i<=ds.length/\pW g t ok (ds.drop i) E D qf G') ?_ ds.length
  ⟨0,σ,H2,τ,G2,I.mv nk m2,m2,.refl _,QB,fun b hb=>(f2 b hb).1,rfl,cC _,q⟩
 rintro n s3 ⟨i,QT,H3,T4,G3,I3,m3,k3,Yh,fr3,rfl,hle,w3⟩;by_cases za:i < ds.length
 ·rw [gT za] at w3;obtain⟨VW,w3⟩:=w3;obtain⟨go,yl⟩:=(wk i H3 G3 k3 I3.ab VW).1 ds[i] (by simp [za]);refine jM hp (gN (T.item X rfl rfl rfl hc i pins s3 QT H3 X.xe I3.inv (Ul fr3) Yh go) ?_);rintro r s4 ⟨u,hr,h4⟩;subst hr;refine jM hp (gN h4 ?_);rintro _ s5 ⟨x,H5,I5,r5,y5,Zc,fr5⟩;obtain⟨rd5,m5⟩:=yl x H5 y5;have I5':=I5.pinned (Ul fr5) (T.obj _ _ Zc);have J5:I2 X (pins++qQ fp s5.heap) QT H5 T4 G3 s5:=⟨I5',I3.st.mono (m5.kp I3.ab),m5.ab⟩;refine jM hp (gN (hg E _ s5 QT H5 T4 G3 x ds[i] u _ hE J5 r5 rd5 w3) ?_);rintro _ s6 ⟨σ6,H6,τ6,G6,I6,m6,q6⟩;refine jM hp (gN (hb E _ s6 σ6 H6 τ6 G6 _ hE I6 q6) fun f s7 q7=>?_);have again:∀ {Mz:L2.St} {H7:Hp} {Mx:ik} {G7:Gp},I2 X (pins++qQ fp s5.heap) Mz H7 Mx G7 s7->Mv X.K H6 G6 H7 G7->pW g t ok (ds.drop (i+1)) E D Mx G7 ->
    ∃ m,m < ds.length - i/\∃ i jB H' qf G',I2 X pins jB H' qf G' s7/\Mv X.K H G H' G'/\Kp H2 H'/\tn i s7.heap/\(∀ b∈fp,H' b=none)/\m=ds.length - i/\i<=ds.length/\pW g t ok (ds.drop i) E D qf G':=fun {Mz H7 Mx G7} I7 m7 n7=>by
   have mm:=m5.trans (m6.trans m7);refine⟨ds.length - (i+1),by lia,i+1,Mz,H7,Mx,G7,⟨I7.inv.uf,I7.st,I7.ab⟩,m3.trans mm,k3.trans (mm.kp I3.ab),T.keep _ _ _ Zc fun b hb o e=>(I7.inv.pin (b,o) (df _ (df _ (pD hb e)))).1,fun b hb=>?_,rfl,za,n7⟩;obtain⟨o,e,d⟩:=T.obj _ _ Zc b hb;exact(I7.inv.pin (b,o) (df _ (df _ (pD hb e)))).2.1
  cases f with
  | next=>obtain⟨Mz,H7,Mx,G7,I7,m7,n7⟩:=q7; exact again I7 m7 n7
  | cont=>obtain⟨Mz,H7,Mx,G7,I7,m7,n7⟩:=q7; exact again I7 m7 n7
  | brk=>obtain⟨Mz,H7,Mx,G7,I7,m7,q7⟩:=q7; exact⟨Mz,H7,Mx,G7,⟨I7.inv.uf,I7.st,I7.ab⟩,m3.trans (m5.trans (m6.trans m7)),q7⟩
  | ret v=>obtain⟨x7,Mz,H7,d7,G7,I7,m7,r7,rd7,q7⟩:=q7; exact⟨x7,Mz,H7,d7,G7,I7.uf,m3.trans (m5.trans (m6.trans m7)),r7,rd7,q7⟩
 ·have hn:ds.length<=i:=by lia
  rw [lL hn] at w3;obtain⟨VW,qn⟩:=w3;have stop:=(wk i H3 G3 k3 I3.ab VW).2 hn;refine jM hp (gN (T.done X rfl rfl rfl hc i pins s3 QT H3 X.xe I3.inv (Ul fr3) Yh stop) ?_);rintro r s4 ⟨hr,I4⟩;subst hr;exact x2 ⟨QT,H3,T4,G3,⟨I4,I3.st,I3.ab⟩,m3,qn⟩
theorem Lc{c:Expr}{body:List Stmt}{tc:w9}{t:iF}(hp:PassesOwn (model X.prog X.w) X.A X.env X.xe)(hc:MG X c tc)(hb:zL X body t):II X (.While c body [] pos) (Iu tc t):=by
 intro E pins s σ H τ G D hE I h;obtain⟨n0,w0⟩:=h;refine wpAny_While (codeAny_whileLoop (fun n s'=>∃ jB H' qf G',I2 X pins jB H' qf G' s'/\Mv X.K H G H' G'/\DO tc t n E D qf G') ?_ n0 ⟨σ,H,τ,G,I,.refl I.ab,w0⟩);rintro n s1 ⟨Yc,H1,o8,G1,I1,m1,w1⟩;cases n with
 | zero=>exact w1.elim
 | succ n =>
  refine jM hp (Nd hc hE I1 w1 fun b H2 G2 s2 nk m2 q2=>?_);cases b with
  | true =>
   rw [if_pos rfl] at q2 ⊢;refine jM hp (gN (hb E pins s2 Yc H2 o8 G2 _ hE nk q2) fun f s3 q3=>?_);cases f with
   | next=>obtain⟨QT,H3,T4,G3,I3,m3,n3⟩:=q3; exact⟨n,DG _,QT,H3,T4,G3,I3,m1.trans (m2.trans m3),n3⟩
   | cont=>obtain⟨QT,H3,T4,G3,I3,m3,n3⟩:=q3; exact⟨n,DG _,QT,H3,T4,G3,I3,m1.trans (m2.trans m3),n3⟩
   | brk=>exact q3.trans (m1.trans m2)
   | ret v=>exact q3.trans (m1.trans m2)
  | false =>
   rw [if_neg i6] at q2 ⊢;exact x2 ⟨Yc,H2,o8,G2,nk,m1.trans m2,q2⟩
end
end K2
end
section
namespace K2
open PySem PySem.Spec PyProof.Rows L2
theorem B5(n d:Nat)(o:Option Int):HT.jr n d o=jr n d o:=by cases o <;> rfl
theorem br.cut{K:ai}{H:Hp}{vs:List V}{ds:List D}(r:br K H vs ds)(lo hi:Option Int):br K H (FD vs lo hi) (K2.cut ds lo hi):=by
 unfold FD K2.cut;rw [B5,B5,r.length];exact(r.drop _).take _
theorem br.ua{K:ai}{H:Hp}{vs:List V}{ds:List D}{i:Int}{d:D}(r:br K H vs ds)(h:K2.ua ds i=some d):∃ v,L2.ua vs i=some v/\cw K H v d:=by
 unfold K2.ua at h;cases e:K2.Gh ds.length i with
 | none=>rw [e] at h; cases h
 | some j =>
  rw [e] at h;obtain⟨v,h1,h2⟩:=r.get (show ds[j]?=some d from h);refine⟨v,?_,h2⟩;show (L2.Gh vs.length i).bind _=_;have e':L2.Gh vs.length i=some j:=by rw [r.length]; exact e
  rw [e'];exact h1
section
variable {X:Cx} {a b c e:Expr} {ta tb tc te:fY} {pos p2:Pos}
theorem kF{pins:List (Addr×Obj)}{s:az}{σ:L2.St}{H:Hp}{G:Gp}{x:V}{d:D}{v:Value}{zs:List D}(I:Inv X pins σ H s)(ab:lZ X.K H G)(rx:RelV x v)(rd:cw X.K H x d)(hi:pQ d G=some zs) :
  ∃ l vs bW,v=.ref l/\Vals vs bW/\br X.K H vs zs/\s.heap.IsList l bW.toArray/\vs.length<=bc:=by
 cases rd with
 | dP hq rs =>
  cases hi;cases rx;obtain⟨bW,rv,pl,hz⟩:=I.list hq.sq;exact⟨_,_,bW,rfl,rv,rs,pl.isList,hz⟩
 | ref l =>
  unfold pQ at hi;dsimp only at hi;cases hg:G l with
  | none=>rw [hg] at hi; cases hi
  | some gg =>
   rw [hg] at hi;cases gg with
   | lst ds =>
    cases hi;cases rx;obtain⟨vs,hv,rs⟩:=ab.lst hg;obtain⟨bW,rv,pl,hz⟩:=I.list (.of hv);exact⟨_,_,bW,rfl,rv,rs,pl.isList,hz⟩
   | ins _ _=>cases hi
   | sE _=>cases hi
   | gP _=>cases hi
 | _=>cases hi
theorem vU{pins:List (Addr×Obj)}{s:az}{σ:L2.St}{H:Hp}(I:Inv X pins σ H s){m:Str->Option Value}(F0:Fr X.base X.env.locals s.heap m){h':Heap}(F:Fr X.base X.env.locals h' m)(N:News X.base X.env.locals h' (se X.base s.heap X.env.locals)) :
  (∀ b o,b≠X.env.locals->s.heap.get? b=some o->h'.get? b=some o)/\∀ m',s.heap.Ns X.env.locals m'->h'.Ns X.env.locals m':=by
 refine⟨fun b o hb e=>?_,fun m' hm=>?_⟩
 ·cases q:X.base.get? b with
  | some u =>
   have:=I.bk b u q;rw [e] at this; cases this;exact F.keep b _ q
  | none=>exact(N (b,o) (wW hb q e)).1
 ·have e1:=hm.eq_nsMap;have e2:=F0.ns.eq_nsMap;rw [e1,<-e2]; exact F.ns
theorem mj{P:bM}{w:World}{H:Hp}{h:Heap}{a:Addr}:∀ {o:HO},fV P w H h a o->∃ ob,h.get? a=some ob:=by
 intro o x;cases o with
 | lst _=>obtain⟨_,_,_,_,e⟩:=x; exact⟨_,e⟩
 | tup _=>obtain⟨_,_,_,ob,e,_⟩:=x; exact⟨ob,e⟩
 | dK _=>obtain⟨_,_,_,_,ob,_,_,e,_⟩:=x; exact⟨ob,e⟩
 | dT _=>obtain⟨_,_,_,_,ob,_,_,e,_⟩:=x; exact⟨ob,e⟩
 | set _ _=>obtain⟨ob,_,_,_,e,_⟩:=x; exact⟨ob,e⟩
 | ins _ _ _=>obtain⟨_,_,_,e,_⟩:=x; exact⟨_,e⟩
 | own _=>exact x
 | xd _=>obtain⟨_,⟨ob,_,_,e,_⟩,_⟩:=x; exact⟨ob,e⟩
 | met _ _=>exact⟨_,x⟩
 | WA _ _=>obtain⟨_,_,_,e⟩:=x; exact⟨_,e⟩
 | jL _ _=>exact⟨_,x.1⟩
 | SO _=>obtain⟨_,e,_⟩:=x; exact⟨_,e⟩
 | ext _=>exact x.2.1
theorem J9{P:bM}{w:World}{H:Hp}{h:Heap}{a:Addr}(ok:pZ P w H h)(e:h.get? a=none):H a=none:=by
 cases q:H a with
 | none=>rfl
 | some o =>
  obtain⟨ob,z⟩:=mj (ok a o q);rw [e] at z; cases z
theorem Inv.Td{pins:List (Addr×Obj)}{s:az}{σ:L2.St}{H:Hp}(I:Inv X pins σ H s){h':Heap}{t':Nat}{a:Addr}{o:HO}(k:∀ b o,b≠X.env.locals->s.heap.get? b=some o->h'.get? b=some o)(ns:∀ m',s.heap.Ns X.env.locals m'->h'.Ns X.env.locals m')
  (hp:s.heap.get? a=none) (new:fV X.prog X.w (upd H a o) h' a o):Inv X pins σ (upd H a o) { s with heap:=h',toks:=t' }:=by
 have hn:H a=none:=J9 I.cL hp;have ne:∀ b u,H b=some u->b≠a:=fun b u e=>dH e hn;have nL:∀ b u,H b=some u->b≠X.env.locals:=fun b u e=>dH e I.free;have ht:∀ b u,s.heap.get? b=some u->b≠a:=fun b u e z=>by subst z; rw [hp] at e; cases e
 have thL:∃ o',h'.get? X.env.locals=some o':=by
  obtain⟨m,hm,_⟩:=I.loc;obtain⟨o',_,_,ho,_⟩:=ns m hm;exact⟨o',ho⟩
 refine I.step (g':=s.gens) (d':=s.drawn) (ch:=[]) (fun b hb=>absurd hb (by simp)) (fun b o hL _ _ e _=>k b o hL e) (fun b o hL _ _ e _=>⟨o.slots,k b o hL e⟩) (fun b o _ e n=>by rw [bQ (ht b o e)]; exact n)
  (fun b o _ e=>?_) (fun b xs e=>by rw [bQ (ne _ _ e)]; exact e) (fun b o u e=>by rw [bQ (ne _ _ e)]; exact e) (fun b ps e=>by rw [bQ (ne _ _ e)]; exact e) (fun b ps e=>by rw [bQ (ne _ _ e)]; exact e) ns (fun b u e=>?_) I.bare
 ·by_cases hb:b=X.env.locals
  ·rw [hb]; exact thL
  ·exact⟨o,k b o hb e⟩
 ·by_cases hb:b=a
  ·subst hb; rw [cc] at e; cases e; exact new
  ·rw [bQ hb] at e;refine(I.cL b u e).kQ (fun c v hc r=>k c v ?_ r) (fun c z=>by rw [bQ (ne _ _ z)]; exact z) (fun c xs z=>by rw [bQ (ne _ _ z)]; exact z);rcases hc with rfl | hc
   ·exact nL _ _ e
   ·exact nL _ _ hc
theorem dW:qj X (iY .Add) i7:=by
 intro pins s σ H G x y dx dy v u Q I ab rx ry dX dY q;have lists:IG dx dy G Q->wpAny (model X.prog X.w) X.A (iY .Add v u) (tW X pins σ H G Q) X.xe s:=by
  intro q;unfold IG at q;split at q
  ·rename_i xs ys e1 e2;obtain⟨hz,q⟩:=q;obtain⟨l,vs,bW,rfl,rv,rs,hl,_⟩:=kF I ab rx dX e1;obtain⟨b,ws,vX,rfl,NA,Jt,hb,_⟩:=kF I ab ry dY e2;obtain⟨m,F0⟩:=I.fr;have hsz:bW.length+vX.length<=bc:=by rw [<-rv.length,<-NA.length,rs.length,Jt.length,cY]; exact hz
   refine PyProof.Rows.add_lists F0 EE hl hb (fun h' F N=>?_) hsz;obtain⟨kk,ns⟩:=vU I F0 F fun p hp=>N p (aE _ hp);have hp:H s.heap.objs.size=none:=I.cL.fresh (aI _);refine⟨.ref s.heap.objs.size,upd H s.heap.objs.size (.lst (vs++ws)),.ref _,_,Inv.Td (t':=s.toks) I kk ns (QS (aI _)) ?_,.EF ab hp (rs.append Jt),rfl,.ref _,q _ (ab.free hp)⟩;exact⟨by rw [au,rv.length,NA.length]; exact hsz,bW++vX,0,rv.append NA,(N _ cz).1⟩
  ·exact q.elim
 cases dX with
 | int i =>
  cases dY with
  | int j=>exact gN (UR pins s σ H _ _ v u (BM X.K H G Q) I rx ry ⟨i,j,rfl,rfl,_,_,.refl ab,.int _,q⟩) fun _ _ z=>.of z
  | _=>exact lists q
 | str i =>
  cases dY with
  | str j =>
   obtain⟨hz,q⟩:=q;exact gN (Hm pins s σ H _ _ v u (BM X.K H G Q) I rx ry ⟨i,j,rfl,rfl,by rw [cY]; exact hz,_,_,.refl ab,.str _,q⟩) fun _ _ z=>.of z
  | _=>exact lists q
 | tup h1 r1 =>
  cases dY with
  | tup h2 r2 =>
   obtain⟨hn,hz,q⟩:=q;refine gN (RB pins s σ H _ _ v u (BM X.K H G Q) I rx ry ⟨_,_,_,_,rfl,rfl,.of h1,.of h2,?_,?_,fun e=>?_,fun e p hp=>?_⟩) fun _ _ z=>.of z
   ·rintro rfl; cases r1; exact hn rfl
   ·rw [r1.length,r2.length,cY]; exact hz
   ·subst e;cases r2;rw [bN] at q;exact⟨_,_,.refl ab,.tup h1 r1,q⟩
   ·exact⟨_,_,.HP ab hp,.tup cc ((r1.append r2).mono (.new hp)),q⟩
  | _=>exact lists q
 | ref l=>exact lists (by rw [mJ] at q; exact q)
 | dP _ _=>exact lists (by rw [oH] at q; exact q)
 | _=>exact lists (by cases dY <;> exact q)
theorem uH:qj X (iY .Sub) Hd:=by
 intro pins s σ H G x y dx dy v u Q I ab rx ry dX dY q;cases dX with
 | int i =>
  cases dY with
  | int j=>exact gN (UN pins s σ H _ _ v u (BM X.K H G Q) I rx ry ⟨i,j,rfl,rfl,_,_,.refl ab,.int _,q⟩) fun _ _ z=>.of z
  | _=>exact bS q
 | _=>exact bS q
theorem iB:qj X (iY .Mult) sA:=by
 intro pins s σ H G x y dx dy v u Q I ab rx ry dX dY q;cases dX with
 | int i =>
  cases dY with
  | int j=>exact gN (UO pins s σ H _ _ v u (BM X.K H G Q) I rx ry ⟨i,j,rfl,rfl,q.1,_,_,.refl ab,.int _,q.2⟩) fun _ _ z=>.of z
  | _=>exact bS q
 | _=>exact bS q
theorem kK:qj X (iY .Mod) uD:=by
 intro pins s σ H G x y dx dy v u Q I ab rx ry dX dY q;cases dX with
 | int i =>
  cases dY with
  | int j=>exact gN (UP pins s σ H _ _ v u (BM X.K H G Q) I rx ry ⟨i,j,rfl,rfl,q.1,_,_,.refl ab,.int _,q.2⟩) fun _ _ z=>.of z
  | _=>exact bS q
 | _=>exact bS q
theorem yJ:qj X (iY .FloorDiv) Ek:=by
 intro pins s σ H G x y dx dy v u Q I ab rx ry dX dY q;cases dX with
 | int i =>
  cases dY with
  | int j=>exact gN (RA pins s σ H _ _ v u (BM X.K H G Q) I rx ry ⟨i,j,rfl,rfl,⟨q.1,q.2.1⟩,_,_,.refl ab,.int _,q.2.2⟩) fun _ _ z=>.of z
  | _=>exact bS q
 | _=>exact bS q
theorem Of(hu:X.A.units < cLine):qj X (fk .Lt) Yj:=by
 intro pins s σ H G x y dx dy v u Q I ab rx ry dX dY q;cases dX with
 | int i =>
  cases dY with
  | int j=>exact gN (WK pins s σ H _ _ v u (BM X.K H G Q) I rx ry ⟨i,j,rfl,rfl,_,_,.refl ab,.bl _,q⟩) fun _ _ z=>.of z
  | _=>exact bS q
 | tup h1 r1 =>
  cases dY with
  | tup h2 r2 =>
   obtain⟨xs,ys,e1,e2,q⟩:=q;subst e1 e2;have z1:=r1.ints;have z2:=r2.ints;subst z1 z2;have el:∀ xs ys:List Int,HT.lexLt xs ys=K2.lexLt xs ys:=by
    intro xs;induction xs with
    | nil=>intro ys; cases ys <;> rfl
    | cons x xs ih=>intro ys; cases ys with
     | nil=>rfl
     | cons y ys=>unfold HT.lexLt K2.lexLt; rw [ih]
   exact gN (UQ hu pins s σ H _ _ v u (BM X.K H G Q) I rx ry ⟨_,_,xs,ys,rfl,rfl,.of h1,.of h2,_,_,.refl ab,.bl _,by rw [el]; exact q⟩) fun _ _ z=>.of z
  | _=>exact bS q
 | _=>exact bS q
mutual
noncomputable def pd:D->PyData
 | .eU=>.none
 | .bl b=>.bool b
 | .int i=>.int i
 | .str x=>.str x
 | .tup ds=>.tuple (nA ds)
 | .dP ds=>.list (nA ds)
 | .kJ _=>.none
 | .exc _=>.none
 | .Gj _ _ _=>.none
 | .oX _=>.none
 | .ref _=>.none
noncomputable def nA:List D->List PyData
 | []=>[]
 | d :: r=>pd d :: nA r
end
mutual
theorem wa:∀ (s t:D),nr s=true->nr t=true->zW (pd s) (pd t)=iM s t
 | .eU,t,_,ht=>by cases t <;> first | rfl | (exact bz (show false=true from ht))
 | .bl a,t,_,ht=>by cases t <;> first | rfl | (exact bz (show false=true from ht))
 | .int a,t,_,ht=>by cases t <;> first | rfl | (exact bz (show false=true from ht))
 | .str a,t,_,ht=>by cases t <;> first | rfl | (exact bz (show false=true from ht))
 | .tup a,t,hs,ht=>by
  cases t with
  | tup b=>exact CL a b hs ht
  | ref _=>exact bz (show false=true from ht)
  | exc _=>exact bz (show false=true from ht)
  | Gj _ _ _=>exact bz (show false=true from ht)
  | oX _=>exact bz (show false=true from ht)
  | kJ _=>exact bz (show false=true from ht)
  | _=>rfl
 | .dP a,t,hs,ht=>by
  cases t with
  | dP b=>exact CL a b hs ht
  | ref _=>exact bz (show false=true from ht)
  | exc _=>exact bz (show false=true from ht)
  | Gj _ _ _=>exact bz (show false=true from ht)
  | oX _=>exact bz (show false=true from ht)
  | kJ _=>exact bz (show false=true from ht)
  | _=>rfl
 | .ref _,_,hs,_=>bz (show false=true from hs)
 | .exc _,_,hs,_=>bz (show false=true from hs)
 | .Gj _ _ _,_,hs,_=>bz (show false=true from hs)
 | .oX _,_,hs,_=>bz (show false=true from hs)
 | .kJ _,_,hs,_=>bz (show false=true from hs)
theorem CL:∀ (s t:List D),qR s=true->qR t=true->PyData.eqvAll (nA s) (nA t)=kX s t
 | [],[],_,_=>rfl
 | [],_ :: _,_,_=>rfl
 | _ :: _,[],_,_=>rfl
 | a :: r,b :: t,hs,ht=>by
  have Tt:nr a=true/\qR r=true:=(nX).mp hs;have ht':nr b=true/\qR t=true:=(nX).mp ht;show (zW (pd a) (pd b)&&PyData.eqvAll (nA r) (nA t))=(iM a b&&kX r t);rw [wa a b Tt.1 ht'.1,CL r t Tt.2 ht'.2]
end
mutual
theorem kA:∀ (s:D),nr s=true->(pd s).canLay0=true
 | .eU,_=>rfl
 | .bl a,_=>rfl
 | .int a,_=>rfl
 | .str a,h=>h
 | .tup a,h=>xO a h
 | .dP a,h=>xO a h
 | .exc _,_=>rfl
 | .Gj _ _ _,_=>rfl
 | .oX _,_=>rfl
 | .ref _,_=>rfl
 | .kJ _,_=>rfl
theorem xO:∀ (s:List D),qR s=true->PyData.canLayAll0 (nA s)=true
 | [],_=>rfl
 | a :: r,h=>by
  have h':nr a=true/\qR r=true:=(nX).mp h;show ((pd a).canLay0&&PyData.canLayAll0 (nA r))=true;rw [kA a h'.1,xO r h'.2]; rfl
end
theorem CS{G:Gp}{n:Nat}{d t:D}(h:Sn G n d t):(pd t).depth<=n:=by
 induction h with
 | eU=>exact cC _
 | bl b=>exact cC _
 | int i=>exact cC _
 | str x h=>exact cC _
 | GN=>exact tY (cC _)
 | qB _ _ OX OW =>
  exact tY (Nat.max_le.mpr ⟨OX,ud OW⟩)
 | K6=>exact tY (cC _)
 | A4 _ _ OX OW =>
  exact tY (Nat.max_le.mpr ⟨OX,ud OW⟩)
 | ref _ _ ih=>exact ih
theorem ko{pins:List (Addr×Obj)}{σ:L2.St}{H:Hp}{s:az}{G:Gp}(I:Inv X pins σ H s)(ab:lZ X.K H G){n:Nat}{d t:D}(h:Sn G n d t) :
  (∀ v u,cw X.K H v d->RelV v u->∃ as,Reads s.heap u (pd t) as) /\
  (∀ ds ss,(d=.dP ds/\t=.dP ss)\/(d=.tup ds/\t=.tup ss)->∀ vs us,br X.K H vs ds->Vals vs us->∃ as,hV s.heap us (nA ss) as):=by
 have SK:∀ {ds ss:List D},(∀ vs us,br X.K H vs ds->Vals vs us->∃ as,hV s.heap us (nA ss) as)->∀ v u,cw X.K H v (.tup ds)->RelV v u->∃ as,Reads s.heap u (pd (.tup ss)) as:=by
  intro ds ss k v u r ru;cases r with
  | tup hq rs =>
   cases ru;obtain⟨bW,rv,⟨o,ho,hc,n,hd⟩,hz⟩:=I.tuple (.of hq);obtain⟨as,ra⟩:=k _ bW rs rv;exact⟨as,.tuple ho hc hd (by simpa using ra)⟩
 have SU:∀ {ds ss:List D},(∀ vs us,br X.K H vs ds->Vals vs us->∃ as,hV s.heap us (nA ss) as)->∀ v u,cw X.K H v (.dP ds)->RelV v u->∃ as,Reads s.heap u (pd (.dP ss)) as:=by
  intro ds ss k v u r ru;cases r with
  | dP hq rs =>
   cases ru;obtain⟨bW,rv,pl,hz⟩:=I.list hq.sq;obtain⟨o,ho,hc,n,hd⟩:=pl.isList;obtain⟨as,ra⟩:=k _ bW rs rv;exact⟨_,.list ho hc hd (by simpa using ra)⟩
 induction h with
 | eU=>exact⟨fun v u r ru=>by cases r; cases ru; exact⟨_,.none⟩,fun ds ss e=>by rcases e with ⟨e,_⟩ | ⟨e,_⟩ <;> cases e⟩
 | bl b=>exact⟨fun v u r ru=>by cases r; cases ru; exact⟨_,.bool b⟩,fun ds ss e=>by rcases e with ⟨e,_⟩ | ⟨e,_⟩ <;> cases e⟩
 | int i=>exact⟨fun v u r ru=>by cases r; obtain⟨t,rfl⟩:=ru; exact⟨_,.int i t⟩,fun ds ss e=>by rcases e with ⟨e,_⟩ | ⟨e,_⟩ <;> cases e⟩
 | str x hx=>exact⟨fun v u r ru=>by cases r; obtain⟨t,rfl⟩:=ru; exact⟨_,.str x t⟩,fun ds ss e=>by rcases e with ⟨e,_⟩ | ⟨e,_⟩ <;> cases e⟩
 | GN =>
  have k:∀ vs us,br X.K H vs []->Vals vs us->∃ as,hV s.heap us (nA []) as:=fun vs us r ru=>by
   have e:=r.zero;subst e;cases ru;exact⟨_,.nil⟩
  refine⟨SK k,fun ds ss e=>?_⟩;rcases e with ⟨e,_⟩ | ⟨e,e2⟩
  ·cases e
  ·cases e; cases e2; exact k
 | qB h1 h2 OX OW =>
  have k2:=OW.2 _ _ (.inr ⟨rfl,rfl⟩);have k:∀ vs us,br X.K H vs (_ :: _)->Vals vs us->∃ as,hV s.heap us (nA (_ :: _)) as:=fun vs us r ru=>by
   cases r with
   | cons r1 r2 =>
    cases ru with
    | cons u1 u2 =>
     obtain⟨as,ra⟩:=OX.1 _ _ r1 u1;obtain⟨bs,rb⟩:=k2 _ _ r2 u2;exact⟨_,.cons ra rb⟩
  refine⟨SK k,fun ds ss e=>?_⟩;rcases e with ⟨e,_⟩ | ⟨e,e2⟩
  ·cases e
  ·cases e; cases e2; exact k
 | K6 =>
  have k:∀ vs us,br X.K H vs []->Vals vs us->∃ as,hV s.heap us (nA []) as:=fun vs us r ru=>by
   have e:=r.zero;subst e;cases ru;exact⟨_,.nil⟩
  refine⟨SU k,fun ds ss e=>?_⟩;rcases e with ⟨e,e2⟩ | ⟨e,_⟩
  ·cases e; cases e2; exact k
  ·cases e
 | A4 h1 h2 OX OW =>
  have k2:=OW.2 _ _ (.inl ⟨rfl,rfl⟩);have k:∀ vs us,br X.K H vs (_ :: _)->Vals vs us->∃ as,hV s.heap us (nA (_ :: _)) as:=fun vs us r ru=>by
   cases r with
   | cons r1 r2 =>
    cases ru with
    | cons u1 u2 =>
     obtain⟨as,ra⟩:=OX.1 _ _ r1 u1;obtain⟨bs,rb⟩:=k2 _ _ r2 u2;exact⟨_,.cons ra rb⟩
  refine⟨SU k,fun ds ss e=>?_⟩;rcases e with ⟨e,e2⟩ | ⟨e,_⟩
  ·cases e; cases e2; exact k
  ·cases e
 | ref hg h1 ih =>
  refine⟨fun v u r ru=>?_,fun ds ss e=>by rcases e with ⟨e,_⟩ | ⟨e,_⟩ <;> cases e⟩;cases r;cases ru;obtain⟨vs,hv,rs⟩:=ab.lst hg;obtain⟨bW,rv,pl,hz⟩:=I.list (.of hv);obtain⟨o,ho,hc,n,hd⟩:=pl.isList;obtain⟨as,ra⟩:=ih.2 _ _ (.inl ⟨rfl,rfl⟩) vs bW rs rv;exact⟨_,.list ho hc hd (by simpa using ra)⟩
theorem pA(hu:X.A.units+64 < cLine):qj X (fk .Eq) (K9 false):=by
 intro pins s σ H G x y dx dy v u Q I ab rx ry dX dY q;obtain⟨a,b,sa,sb,q⟩:=q;obtain⟨as,ra⟩:=(ko I ab sa).1 x v dX rx;obtain⟨bs,rb⟩:=(ko I ab sb).1 y u dY ry;have d1:=CS sa;refine SeqAt.compareEq_reads ra rb (kA _ sa.nr) (kA _ sb.nr) (by unfold SN at d1; lia) ?_;rw [wa _ _ sa.nr sb.nr];exact⟨.bl _,H,.bl _,G,I,.refl ab,rfl,.bl _,q⟩
theorem Oe(hu:X.A.units+64 < cLine):qj X (fk .NotEq) (K9 true):=by
 intro pins s σ H G x y dx dy v u Q I ab rx ry dX dY q;obtain⟨a,b,sa,sb,q⟩:=q;obtain⟨as,ra⟩:=(ko I ab sa).1 x v dX rx;obtain⟨bs,rb⟩:=(ko I ab sb).1 y u dY ry;have d1:=CS sa;refine SeqAt.compareNe_reads ra rb (kA _ sa.nr) (kA _ sb.nr) (by unfold SN at d1; lia) ?_;rw [wa _ _ sa.nr sb.nr];exact⟨.bl _,H,.bl _,G,I,.refl ab,rfl,.bl _,q⟩
end
end K2
end
section
namespace K2
open PySem PySem.Spec PyProof.Rows L2
theorem u5(j k:Key):iM (ef j) (ef k)=decide (j=k):=by
 cases j with
 | inl a=>cases k with
  | inl b=>rw [OG]; rfl
  | inr b=>exact(decide_eq_false (fun z=>nomatch z)).symm
 | inr a=>cases k with
  | inl b=>exact(decide_eq_false (fun z=>nomatch z)).symm
  | inr b=>rw [OF]; exact(Qx a b)
theorem Bw:∀ (js ks:List Key),kX (js.map ef) (ks.map ef)=decide (js=ks)
 | [],[]=>(decide_eq_true rfl).symm
 | [],_ :: _=>(decide_eq_false (fun z=>nomatch z)).symm
 | _ :: _,[]=>(decide_eq_false (fun z=>nomatch z)).symm
 | j :: js,k :: ks=>by
  show (iM (ef j) (ef k)&&kX (js.map ef) (ks.map ef))=_;rw [u5,Bw js ks,Fu]
theorem qW(js ks:List Key):iM (.tup (js.map ef)) (.tup (ks.map ef))=decide (js=ks):=by
 exact Bw js ks
section
variable {K:ai} {H:Hp}
theorem uR{d:D}(h:eK d=true):∃ k:Key,d=ef k:=by
 cases d with
 | int i=>exact⟨.inl i,rfl⟩
 | str x=>exact⟨.inr x,rfl⟩
 | _=>exact absurd h (by simp [eK])
theorem JQ:∀ {ds:List D},ds.all eK=true->∃ ks:List Key,ds=ks.map ef
 | [],_=>⟨[],rfl⟩
 | d :: r,h=>by
  rw [z0,aK] at h;obtain⟨k,rfl⟩:=uR h.1;obtain⟨ks,rfl⟩:=JQ h.2;exact⟨k :: ks,rfl⟩
theorem JR{d:D}(h:kC d=true):∃ ks:List Key,d=.tup (ks.map ef):=by
 cases d with
 | tup ds=>obtain⟨ks,rfl⟩:=JQ (ds:=ds) h; exact⟨ks,rfl⟩
 | _=>exact absurd h (by simp [kC])
theorem uu{v:V}{k:Key}(r:cw K H v (ef k)):v=kV k:=by
 cases k with
 | inl i=>cases r; rfl
 | inr x=>cases r; rfl
theorem Eb:∀ {vs:List V} {ks:List Key},br K H vs (ks.map ef)->vs=ks.map kV
 | _,[],r=>r.zero
 | _,k :: ks,r=>by
  rw [aj] at r;cases r with
  | cons r1 r2=>rw [uu r1,Eb r2]; rfl
theorem Ec{v:V}{ks:List Key}(r:cw K H v (.tup (ks.map ef))):∃ b,v=.ref b/\H b=some (.tup (ks.map kV)):=by
 cases r with
 | tup h rs=>have e:=Eb rs; subst e; exact⟨_,rfl,h⟩
theorem mw.look{kv:List (Key×V)}{kvs:List (D×D)}(r:mw K H kv kvs)(k:Key):(∃ v d,lN kv k=some v/\K2.look kvs (ef k)=some d/\cw K H v d)\/(lN kv k=none/\K2.look kvs (ef k)=none):=by
 induction r using mw.ind with
 | nil=>exact .inr ⟨rfl,rfl⟩
 | @cons j v d r t rd rs ih =>
  by_cases e:j=k
  ·left;refine⟨v,d,qx (p:=(j,v)) e,?_,rd⟩;unfold K2.look;rw [cA (by show iM (ef j) (ef k)=true; rw [u5]; exact decide_eq_true e)]; rfl
  ·have e1:lN ((j,v) :: r) k=lN r k:=qy (p:=(j,v)) e;have e2:K2.look ((ef j,d) :: t) (ef k)=K2.look t (ef k):=by
    unfold K2.look;rw [cB (by show ¬ iM (ef j) (ef k)=true; rw [u5]; simpa using e)]
   rw [e1,e2];exact ih
theorem lY.look{kv:List (List Key×V)}{kvs:List (D×D)}(r:lY K H kv kvs)(k:List Key):(∃ v d,lN kv k=some v/\K2.look kvs (.tup (k.map ef))=some d/\cw K H v d)\/(lN kv k=none/\K2.look kvs (.tup (k.map ef))=none):=by
 induction r using lY.ind with
 | nil=>exact .inr ⟨rfl,rfl⟩
 | @cons j v d r t rd rs ih =>
  by_cases e:j=k
  ·left;refine⟨v,d,qx (p:=(j,v)) e,?_,rd⟩;unfold K2.look;rw [cA (by show iM (.tup (j.map ef)) (.tup (k.map ef))=true; rw [qW]; exact decide_eq_true e)]; rfl
  ·have e1:lN ((j,v) :: r) k=lN r k:=qy (p:=(j,v)) e;have e2:K2.look ((.tup (j.map ef),d) :: t) (.tup (k.map ef))=K2.look t (.tup (k.map ef)):=by
    unfold K2.look;rw [cB (by show ¬ iM (.tup (j.map ef)) (.tup (k.map ef))=true; rw [qW]; simpa using e)]
   rw [e1,e2];exact ih
theorem mw.any{kv:List (Key×V)}{kvs:List (D×D)}(r:mw K H kv kvs)(k:Key):(kv.any fun p=>decide (p.1=k))=kvs.any fun p=>iM p.1 (ef k):=by
 induction r using mw.ind with
 | nil=>rfl
 | @cons j v d r t rd rs ih=>simp only [lr]; rw [ih,u5]
theorem lY.any{kv:List (List Key×V)}{kvs:List (D×D)}(r:lY K H kv kvs)(k:List Key):(kv.any fun p=>decide (p.1=k))=kvs.any fun p=>iM p.1 (.tup (k.map ef)):=by
 induction r using lY.ind with
 | nil=>rfl
 | @cons j v d r t rd rs ih=>simp only [lr]; rw [ih,qW]
theorem mw.put{kv:List (Key×V)}{kvs:List (D×D)}(r:mw K H kv kvs)(k:Key){v:V}{d:D}(rd:cw K H v d):mw K H (putK kv k v) (K2.put kvs (ef k) d):=by
 unfold putK K2.put;rw [r.any k];by_cases h:(kvs.any fun p=>iM p.1 (ef k))=true
 ·rw [if_pos h,if_pos h];clear h;induction r using mw.ind with
  | nil=>exact .nil
  | @cons j w e r t re rs ih =>
   simp only [aj];rw [u5];by_cases e:j=k
   ·simp only [e,if_true,decide_true]; exact .cons rd ih
   ·simp only [e,if_false,decide_false,aw]; exact .cons re ih
 ·rw [if_neg h,if_neg h];clear h;induction r using mw.ind with
  | nil=>exact .cons rd .nil
  | cons re rs ih=>exact .cons re ih
theorem lY.put{kv:List (List Key×V)}{kvs:List (D×D)}(r:lY K H kv kvs)(k:List Key){v:V}{d:D}(rd:cw K H v d):lY K H (putK kv k v) (K2.put kvs (.tup (k.map ef)) d):=by
 unfold putK K2.put;rw [r.any k];by_cases h:(kvs.any fun p=>iM p.1 (.tup (k.map ef)))=true
 ·rw [if_pos h,if_pos h];clear h;induction r using lY.ind with
  | nil=>exact .nil
  | @cons j w e r t re rs ih =>
   simp only [aj];rw [qW];by_cases e:j=k
   ·simp only [e,if_true,decide_true]; exact .cons rd ih
   ·simp only [e,if_false,decide_false,aw]; exact .cons re ih
 ·rw [if_neg h,if_neg h];clear h;induction r using lY.ind with
  | nil=>exact .cons rd .nil
  | cons re rs ih=>exact .cons re ih
end
theorem Kp.putD{H:Hp}{p:Addr}{o o':HO}(hp:H p=some o)(h:(∃ k,o=.dK k)\/∃ k,o=.dT k):Kp H (upd H p o') :=
 ⟨fun a ys e=>by rw [bQ (by rintro rfl; rw [hp] at e; rcases h with ⟨_,rfl⟩ | ⟨_,rfl⟩ <;> cases e)]; exact e,fun a ob u e=>by rw [bQ (by rintro rfl; rw [hp] at e; rcases h with ⟨_,rfl⟩ | ⟨_,rfl⟩ <;> cases e)]; exact e⟩
section
variable {X:Cx} {pins:List (Addr×Obj)} {σ:L2.St} {H:Hp} {s:az} {G:Gp} {a:Addr} {kvs:List (D×D)} {k:D} {y:V}
theorem toT(I:Inv X pins σ H s)(e:H a=some (.dK [])):Inv X pins σ (upd H a (.dT [])) s:=by
 obtain⟨z,hd,vs,rel,dd⟩:=Bz I.cL e;have hv:vs=[]:=by cases rel; rfl
 subst hv;obtain⟨o,es,ep,ho,hx,z9,hko,hl,nd⟩:=dd;have he:es=#[]:=by
  cases hq:es.toList with
  | nil=>simpa using hq
  | cons _ _=>rw [hq] at hl; cases hl
 subst he;exact I.write (h':=s.heap) (t':=s.toks) (x:=a) (e:=a) (by rw [e]; exact fZ) (.inl rfl) (fun b u _ q=>q) ⟨o,ho⟩ ⟨cC _,hd,[],.nil,o,#[],ep,ho,hx,z9,rfl,cH⟩
theorem toK(I:Inv X pins σ H s)(e:H a=some (.dT [])):Inv X pins σ (upd H a (.dK [])) s:=by
 obtain⟨z,hd,xs,rel,o,es,ep,ho,hx,z9,hl,nd⟩:=I.cL a _ e;have hv:xs=[]:=by cases rel; rfl
 subst hv;have he:es=#[]:=by simpa using hl
 subst he;exact I.write (h':=s.heap) (t':=s.toks) (x:=a) (e:=a) (by rw [e]; exact fZ) (.inl rfl) (fun b u _ q=>q) ⟨o,ho⟩ ⟨cC _,hd,[],.nil,o,#[],ep,ho,hx,z9,(fun _ h=>by simp at h),.nil,cH⟩
theorem JN{o:HO}(ab:lZ X.K H G)(hg:G a=some (.gP kvs))(k:Kp H (upd H a o))(ho:KA X.K (upd H a o) a (.gP kvs)):Mv X.K H G (upd H a o) G:=by
 have m:=Mv.put ab hg k ho;have e:dO G a (.gP kvs)=G:=by
  funext b; unfold dO; split
  ·rename_i z; rw [z,hg]
  ·rfl
 rw [e] at m;exact m
theorem CQ(I:Inv X pins σ H s)(ab:lZ X.K H G)(hg:G a=some (.gP kvs))(hk:gZ kvs k=true)(ry:cw X.K H y k) :
  ∃ H',Inv X pins σ H' s/\Mv X.K H G H' G/\((∃ (kv:List (Key×V)) (kk:Key),H' a=some (.dK kv)/\mw X.K H' kv kvs/\k=ef kk/\y=kV kk)\/∃ (kv:List (List Key×V)) (kk:List Key) (b:Addr),H' a=some (.dT kv)/\lY X.K H' kv kvs/\k=.tup (kk.map ef)/\y=.ref b/\H' b=some (.tup (kk.map kV))):=by
 unfold gZ at hk;rw [oW,aK,aK] at hk;rcases hk with ⟨h1,h2⟩ | ⟨h1,h2⟩
 ·obtain⟨kk,rfl⟩:=uR h1;have ey:=uu ry;subst ey;rcases ab a _ hg with ⟨kv,hv,rs⟩ | ⟨kv,hv,rs⟩
  ·exact⟨H,I,.refl ab,.inl ⟨kv,kk,hv,rs,rfl,rfl⟩⟩
  ·cases rs with
   | nil =>
    refine⟨_,toK I hv,JN ab hg (.putD hv (.inr ⟨_,rfl⟩)) (.inl ⟨[],cc,.nil⟩),.inl ⟨[],kk,cc,.nil,rfl,rfl⟩⟩
   | cons _ _=>simp [eK] at h2
 ·obtain⟨kk,rfl⟩:=JR h1;obtain⟨b,rfl,hb⟩:=Ec ry;rcases ab a _ hg with ⟨kv,hv,rs⟩ | ⟨kv,hv,rs⟩
  ·cases rs with
   | nil =>
    have kp:Kp H (upd H a (.dT [])):=.putD hv (.inl ⟨_,rfl⟩);exact⟨_,toT I hv,JN ab hg kp (.inr ⟨[],cc,.nil⟩),.inr ⟨[],kk,b,cc,.nil,rfl,rfl,kp.tup _ _ hb⟩⟩
   | @cons j _ _ _ _ _ _=>cases j <;> simp [ef,kC] at h2
  ·exact⟨H,I,.refl ab,.inr ⟨kv,kk,b,hv,rs,rfl,rfl,hb⟩⟩
theorem Ft(I:Inv X pins σ H s)(ab:lZ X.K H G)(hg:G a=some (.gP kvs))(hk:gZ kvs k=true)(ry:cw X.K H y k) :
  ∃ H' o,Inv X pins σ H' s/\Mv X.K H G H' G/\zT H' a y o/\o.isSome=(look kvs k).isSome/\∀ d,look kvs k=some d->∃ v,o=some v/\cw X.K H' v d:=by
 obtain⟨H',I',m,h⟩:=CQ I ab hg hk ry;rcases h with ⟨kv,kk,hv,rs,rfl,rfl⟩ | ⟨kv,kk,b,hv,rs,rfl,rfl,hb⟩
 ·refine⟨H',lN kv kk,I',m,.k hv,?_,fun d hd=>?_⟩
  ·rcases rs.look kk with ⟨v,d,e1,e2,_⟩ | ⟨e1,e2⟩ <;> rw [e1,e2] <;> rfl
  ·rcases rs.look kk with ⟨v,d',e1,e2,r⟩ | ⟨e1,e2⟩
   ·rw [e2] at hd; cases hd; exact⟨v,e1,r⟩
   ·rw [e2] at hd; cases hd
 ·refine⟨H',lN kv kk,I',m,.t hv hb,?_,fun d hd=>?_⟩
  ·rcases rs.look kk with ⟨v,d,e1,e2,_⟩ | ⟨e1,e2⟩ <;> rw [e1,e2] <;> rfl
  ·rcases rs.look kk with ⟨v,d',e1,e2,r⟩ | ⟨e1,e2⟩
   ·rw [e2] at hd; cases hd; exact⟨v,e1,r⟩
   ·rw [e2] at hd; cases hd
theorem B6{x:V}(I:Inv X pins σ H s)(rd:cw X.K H x (.kJ kvs))(hk:gZ kvs k=true)(ry:cw X.K H y k) :
  ∃ a o,x=.ref a/\(kvs=[]\/zT H a y o)/\o.isSome=(look kvs k).isSome/\∀ d,look kvs k=some d->∃ v,o=some v/\cw X.K H v d:=by
 unfold gZ at hk;rw [oW,aK,aK] at hk;cases rd with
 | qh h rs =>
  rename_i a ob kv;rcases hk with ⟨h1,h2⟩ | ⟨h1,h2⟩
  ·obtain⟨kk,rfl⟩:=uR h1;have ey:=uu ry;subst ey;refine⟨a,lN kv kk,rfl,.inr (.inl ⟨kv,kk,.inr ⟨_,h⟩,rfl,rfl⟩),?_,fun d hd=>?_⟩
   ·rcases rs.look kk with ⟨v,d,e1,e2,_⟩ | ⟨e1,e2⟩ <;> rw [e1,e2] <;> rfl
   ·rcases rs.look kk with ⟨v,d',e1,e2,r⟩ | ⟨e1,e2⟩
    ·rw [e2] at hd; cases hd; exact⟨v,e1,r⟩
    ·rw [e2] at hd; cases hd
  ·cases rs with
   | nil=>exact⟨a,none,rfl,.inl rfl,rfl,fun d hd=>by cases hd⟩
   | cons _ _ =>
    rename_i kx _ _ _ _ _ _;rw [z0,aK] at h2;cases kx <;> exact absurd h2.1 (by simp [ef,kC])
 | qg h rs =>
  rename_i a ob kv;rcases hk with ⟨h1,h2⟩ | ⟨h1,h2⟩
  ·cases rs with
   | nil=>exact⟨a,none,rfl,.inl rfl,rfl,fun d hd=>by cases hd⟩
   | cons _ _ =>
    rw [z0,aK] at h2;exact absurd h2.1 (by simp [eK])
  ·obtain⟨kk,rfl⟩:=JR h1;obtain⟨b,rfl,hb⟩:=Ec ry;refine⟨a,lN kv kk,rfl,.inr (.inr ⟨kv,kk,b,.inr ⟨_,h⟩,rfl,hb,rfl⟩),?_,fun d hd=>?_⟩
   ·rcases rs.look kk with ⟨v,d,e1,e2,_⟩ | ⟨e1,e2⟩ <;> rw [e1,e2] <;> rfl
   ·rcases rs.look kk with ⟨v,d',e1,e2,r⟩ | ⟨e1,e2⟩
    ·rw [e2] at hd; cases hd; exact⟨v,e1,r⟩
    ·rw [e2] at hd; cases hd
theorem PO{v:V}{d:D}(I:Inv X pins σ H s)(ab:lZ X.K H G)(hg:G a=some (.gP kvs))(hk:gZ kvs k=true)(hz:kvs.length < SZ)(ry:cw X.K H y k)(rv:cw X.K H v d) :
  ∃ H' H'',Inv X pins σ H' s/\Mn H' a y v H''/\Mv X.K H G H'' (dO G a (.gP (put kvs k d))):=by
 obtain⟨H',I',m,h⟩:=CQ I ab hg hk ry;have rv':=rv.mono (m.kp ab);have sz:bc=16777216:=cY;rcases h with ⟨kv,kk,hv,rs,rfl,rfl⟩ | ⟨kv,kk,b,hv,rs,rfl,rfl,hb⟩
 ·have kp:Kp H' (upd H' a (.dK (putK kv kk v))):=.putD hv (.inl ⟨_,rfl⟩);exact⟨H',_,I',.k hv (by rw [rs.length,sz]; exact hz),m.trans (.put m.ab hg kp (.inl ⟨_,cc,(rs.put kk rv').mono kp⟩))⟩
 ·have kp:Kp H' (upd H' a (.dT (putK kv kk v))):=.putD hv (.inr ⟨_,rfl⟩);exact⟨H',_,I',.t hv hb (by rw [rs.length,sz]; exact hz),m.trans (.put m.ab hg kp (.inr ⟨_,cc,(rs.put kk rv').mono kp⟩))⟩
end
end K2
end
section
namespace K2
open PySem PySem.Spec PyProof.Rows L2
section
variable {X:Cx} {a b c e:Expr} {es:List Expr} {ta tb tc te:fY} {t:IH} {pos p p2 apos jJ:Pos} {x:Str}
theorem vO{k:Bool}{j}:gE X (.Constant (.bool k) j pos) (dC (.bl k)):=vN WI fun _ _=>.bl k
theorem Ld{st:Stmt}:II X st PV:=fun _ _ _ _ _ _ _ _ _ _ h=>h.elim
theorem Jf:X1 X (unaryOp .USub) NN:=by
 intro pins s σ H G x dx v Q I ab rx dX q;cases dX with
 | int i=>exact gN (Ua pins s σ H _ v (BM X.K H G Q) I rx ⟨i,rfl,_,_,.refl ab,.int _,q⟩) fun _ _ z=>.of z
 | _=>exact bS q
theorem ez(hu:X.A.units+64 < cLine)(ha:gE X a ta)(hb:gE X b tb)(hs:SD b):gE X (.Subscript a b pos) (bD mf ta tb):=by
 intro E pins s σ H τ G Q hE I h;refine Subscript_ (Qf ha hb hE I h fun v u s2 x y dx dy H2 G2 J m rx ry dX dY q=>?_);have fin:∀ {rb:R2},IxR X rb->rb x y H2 (BM X.K H2 G2 Q)->wpAny (model X.prog X.w) X.A (subscriptTail a b v u) (tW X pins σ H G Q) X.xe s2:=fun hr hq =>
  gN (hr a b pins s2 σ H2 x y v u _ J.inv rx ry hq (hs _ _)) fun _ _ z=>(tW.of z).trans m
 cases dX with
 | tup hq rs =>
  cases dY with
  | int i =>
   rw [je] at q;split at q
   ·rename_i d hd;obtain⟨w,hw,sx⟩:=rs.ua hd;exact fin Va ⟨_,_,i,w,rfl,rfl,.of hq,hw,d,G2,.refl J.ab,sx,q⟩
   ·exact q.elim
  | _=>exact bS q
 | dP hq rs =>
  cases dY with
  | int i =>
   rw [iI] at q;split at q
   ·rename_i d hd;obtain⟨w,hw,sx⟩:=rs.ua hd;exact fin JU ⟨_,_,i,w,rfl,rfl,hq.sq,hw,d,G2,.refl J.ab,sx,q⟩
   ·exact q.elim
  | _=>exact bS q
 | qh h rs =>
  rw [xF] at q;obtain⟨hk,q⟩:=q;split at q
  ·rename_i d hd;obtain⟨a',o,ea,g,_,hv⟩:=B6 J.inv (.qh h rs) hk dY;obtain⟨w,rfl,sx⟩:=hv d hd;cases ea;rcases g with rfl | g
   ·cases hd
   ·cases rx;exact tail_any (qY J.inv g) PySem.F.slot_dict_getitem.lookup (wj (by lia) J.inv g ry fun w' s3 I4 rv=>⟨w,H2,d,G2,I4,m,rv,sx,q⟩) (hs _ _)
  ·exact q.elim
 | qg h rs =>
  rw [xF] at q;obtain⟨hk,q⟩:=q;split at q
  ·rename_i d hd;obtain⟨a',o,ea,g,_,hv⟩:=B6 J.inv (.qg h rs) hk dY;obtain⟨w,rfl,sx⟩:=hv d hd;cases ea;rcases g with rfl | g
   ·cases hd
   ·cases rx;exact tail_any (qY J.inv g) PySem.F.slot_dict_getitem.lookup (wj (by lia) J.inv g ry fun w' s3 I4 rv=>⟨w,H2,d,G2,I4,m,rv,sx,q⟩) (hs _ _)
  ·exact q.elim
 | ref l =>
  rw [xG] at q;split at q
  ·rename_i ds hl;obtain⟨vs,hv,rs⟩:=J.ab.lst hl;cases dY with
   | int i =>
    dsimp only at q;split at q
    ·rename_i d hd;obtain⟨w,hw,sx⟩:=rs.ua hd;exact fin JU ⟨_,_,i,w,rfl,rfl,.of hv,hw,d,G2,.refl J.ab,sx,q⟩
    ·exact q.elim
   | _=>exact bS q
  ·rename_i kvs hl;obtain⟨hk,q⟩:=q;split at q
   ·rename_i d hd;obtain⟨H3,o,I3,m3,g,_,hv⟩:=Ft J.inv J.ab hl hk dY;obtain⟨w,rfl,sx⟩:=hv d hd;cases rx;exact tail_any (qY I3 g) PySem.F.slot_dict_getitem.lookup (wj (by lia) I3 g ry fun w' s3 I4 rv=>⟨w,H3,d,G2,I4,m.trans m3,rv,sx,q⟩) (hs _ _)
   ·exact q.elim
  ·exact q.elim
 | _=>exact bS q
noncomputable def YM(X:Cx)(e:Option Expr)(t:X4):Prop :=
 ∀ (E:lX) (pins:List (Addr×Obj)) (s:az) (σ:L2.St) (H:Hp) (τ:ik) (G:Gp) (Q:Option Int->Gp->Prop),Lk X E->I2 X pins σ H τ G s->t E τ G Q ->
  wpAny (model X.prog X.w) X.A (evalPart e X.env) (fun u s'=>∃ o H' G',Inv X pins σ H' s'/\Mv X.K H G H' G'/\IsPart u o/\Q o G') X.xe s
theorem kS:YM X none gm:=by
 intro E pins s σ H τ G Q hE I h;rw [evalPart_none];exact aC ⟨none,H,G,I.inv,.refl I.ab,.none,h⟩
theorem jg(h:gE X e te):YM X (some e) (pY te):=by
 intro E pins s σ H τ G Q hE I hw;rw [evalPart_some];refine jx h hE I hw fun x H1 d G1 u s1 I1 m1 r1 jt q1=>?_;cases jt with
 | int i =>
  obtain⟨t,rfl⟩:=r1;exact⟨some i,H1,G1,I1.inv,m1,.int i t,q1⟩
 | _=>exact bS q1
theorem iR{lo hi:Option Expr}{tl th:X4}(he:gE X a ta)(hl:YM X lo tl)(hu:YM X hi th):gE X (.Subscript a (.Slice lo hi none p2) pos) (CW ta tl th):=by
 intro E pins s σ H τ G Q hE I h;refine Subscript_ (jx he hE I h fun x H1 d G1 v s1 I1 m1 r1 jt q1=>?_);refine wpAny_Slice (gN (hl E pins s1 σ H1 τ G1 _ hE I1 q1) ?_);rintro vl s2 ⟨l,H2,G2,nk,m2,pl,q2⟩;refine gN (hu E pins s2 σ H2 τ G2 _ hE (I1.mv nk m2) q2) ?_;rintro vu s3 ⟨r,H3,G3,I3,m3,pu,q3⟩;rw [evalPart_none];refine aC ?_;have m13:=m2.trans m3;have mm:=m1.trans m13;have I4:Inv X pins σ H3 { s3 with heap:=s3.heap.push { cls:=.type "slice",data:=.fields #[vl,vu,.none] } }:=I3.kept (t':=s3.toks) fun b ob q=>aG _ q;have Zk:=jt.mono (m13.kp I1.ab);have TU:=m3.ab;have key:∀ {rb:V->Option Int->Option Int->Hp->VK->Prop},SlR X rb->rb x l r H3 (BM X.K H3 G3 Q)->wpAny (model X.prog X.w) X.A (subscriptTail a (.Slice lo hi none p2) v (.ref s3.heap.objs.size)) (tW X pins σ H G Q) X.xe { s3 with heap:=s3.heap.push { cls:=.type "slice",data:=.fields #[vl,vu,.none] } }:=fun hr hq=>by
  obtain⟨T,id,hT,ht,hg⟩:=hr pins { s3 with heap:=s3.heap.push { cls:=.type "slice",data:=.fields #[vl,vu,.none] } } σ H3 x v vl vu l r s3.heap.objs.size _ I4 r1 (Heap.IsSliceOf.new ..) pl pu hq;exact gN (tail_any (ops:=[.ref s3.heap.objs.size,v]) ht hT hg (by with_unfolding_all rfl)) fun _ _ z=>(tW.of z).trans mm
 cases Zk with
 | tup hq rs =>
  obtain⟨hw,q⟩:=q3;refine key Us ⟨_,_,rfl,.of hq,?_,fun p hp=>⟨_,G3,.HP TU hp,.tup cc ((rs.cut l r).mono (.new hp)),q⟩⟩;rw [B5,B5,rs.length];exact hw
 | dP hq rs=>exact key Jn ⟨_,_,rfl,hq.sq,fun p hp=>⟨_,_,.EF TU hp (rs.cut l r),.ref _,q3 p (TU.free hp)⟩⟩
 | ref g =>
  rw [rJ] at q3;split at q3
  ·rename_i ds hg;obtain⟨vs,hv,rs⟩:=TU.lst hg;exact key Jn ⟨_,_,rfl,.of hv,fun p hp=>⟨_,_,.EF TU hp (rs.cut l r),.ref _,q3 p (TU.free hp)⟩⟩
  ·exact q3.elim
 | _=>exact bS q3
theorem Rx(ss:List D)(s:D)(h1:qR ss=true)(h2:nr s=true):((nA ss).any fun y=>zW y (pd s))=ss.any (iM · s):=by
 induction ss with
 | nil=>rfl
 | cons d r ih =>
  have h':nr d=true/\qR r=true:=(nX).mp h1;show (zW (pd d) (pd s)||(nA r).any _)=_;rw [ih h'.2,wa d s h'.1 h2]; rfl
theorem R8{G:Gp}{n:Nat}{ds ss:List D}(h:Sn G (n+1) (.dP ds) (.dP ss)):cE (nA ss)<=n:=by
 exact ud (CS h)
theorem Cs(hu:X.A.units+64 < cLine)(neg:Bool){pins:List (Addr×Obj)}{s:az}{σ:L2.St}{H:Hp}{G:Gp}{x y:V}{dx t:D}{ds ss:List D}{v u:Value}{Q:DK}(I:Inv X pins σ H s)(ab:lZ X.K H G)(rx:RelV x v)(dX:cw X.K H x dx)
  (hy:(∃ l vs bW,u=.ref l/\Vals vs bW/\br X.K H vs ds/\(s.heap.IsList l bW.toArray\/s.heap.IsTuple l bW.toArray))) (s1:Sn G SN dx t) (s2:Sn G SN (.dP ds) (.dP ss))
  (q:Q (.bl (if neg then !ss.any (iM · t) else ss.any (iM · t))) G):wpAny (model X.prog X.w) X.A (fk (if neg then .NotIn else .In) v u) (tW X pins σ H G Q) X.xe s:=by
 obtain⟨l,vs,bW,rfl,rv,rs,hl⟩:=hy;obtain⟨as,ra⟩:=(ko I ab s1).1 x v dX rx;obtain⟨bs,rb⟩:=(ko I ab s2).2 ds ss (.inl ⟨rfl,rfl⟩) vs bW rs rv;have d2:=R8 (n:=7) s2;have n2:qR ss=true:=s2.nr;have EU:=xO _ n2;have e:=Rx ss t n2 s1.nr;have HM:X.A.units+1+min (cE (nA ss)) (pd t).depth < cLine:=by lia
 have SY:hV s.heap bW.toArray.toList (nA ss) bs:=by simpa using rb
 have fin:∀ k:Bool,k=(if neg then !ss.any (iM · t) else ss.any (iM · t))->tW X pins σ H G Q (.bool k) s:=fun k hk=>by subst hk; exact⟨.bl _,H,.bl _,G,I,.refl ab,rfl,.bl _,q⟩
 cases neg with
 | false =>
  rcases hl with hl | hl
  ·exact SeqAt.in_listAt _ hl (sI SY ra EU (kA _ s1.nr) HM) (by rw [qt SY EU,e]; exact fin _ rfl)
  ·exact SeqAt.in_tupleAt _ hl (sI SY ra EU (kA _ s1.nr) HM) (by rw [qt SY EU,e]; exact fin _ rfl)
 | true =>
  rcases hl with hl | hl
  ·exact SeqAt.notIn_listAt _ hl (sI SY ra EU (kA _ s1.nr) HM) (by rw [qt SY EU,e]; exact fin _ rfl)
  ·exact SeqAt.notIn_tupleAt _ hl (sI SY ra EU (kA _ s1.nr) HM) (by rw [qt SY EU,e]; exact fin _ rfl)
theorem OV(hu:X.A.units+64 < cLine)(neg:Bool){pins:List (Addr×Obj)}{s:az}{σ:L2.St}{H:Hp}{G:Gp}{x y:V}{dx:D}{kvs:List (D×D)}{v u:Value}{Q:DK}(I:Inv X pins σ H s)(ab:lZ X.K H G)(rx:RelV x v)(ry:RelV y u)(dY:cw X.K H y (.kJ kvs))(dX:cw X.K H x dx)
  (q:Rf neg dx (.kJ kvs) G Q):wpAny (model X.prog X.w) X.A (fk (if neg then .NotIn else .In) v u) (tW X pins σ H G Q) X.xe s:=by
 obtain⟨Bn,hk,q⟩:=q;have go:∀ (a:Addr) (o:Option V),y=.ref a->zT H a x o->o.isSome=(look kvs dx).isSome->wpAny (model X.prog X.w) X.A (fk (if neg then .NotIn else .In) v u) (tW X pins σ H G Q) X.xe s:=by
  intro a o ea g ho;subst ea;cases ry;cases neg with
  | false=>exact XQ (by lia) I g rx fun s3 I4=>⟨.bl _,H,.bl _,G,I4,.refl ab,rfl,.bl _,by rw [ho]; exact q⟩
  | true=>exact Ki (by lia) I g rx fun s3 I4=>⟨.bl _,H,.bl _,G,I4,.refl ab,rfl,.bl _,by rw [ho]; exact q⟩
 obtain⟨a,o,ea,g,ho,_⟩:=B6 I dY hk dX;rcases g with rfl | g
 ·exact absurd rfl Bn
 ·exact go a o ea g ho
theorem RE(hu:X.A.units+64 < cLine)(neg:Bool):qj X (fk (if neg then .NotIn else .In)) (Rf neg):=by
 intro pins s σ H G x y dx dy v u Q I ab rx ry dX dY q;cases dY with
 | tup hq rs =>
  obtain⟨t,ss,s1,s2,q⟩:=q;cases ry;obtain⟨bW,rv,pl,hz⟩:=I.tuple (.of hq);exact Cs hu neg (y:=x) I ab rx dX ⟨_,_,bW,rfl,rv,rs,.inr pl⟩ s1 s2 q
 | dP hq rs =>
  obtain⟨t,ss,s1,s2,q⟩:=q;cases ry;obtain⟨bW,rv,pl,hz⟩:=I.list hq.sq;exact Cs hu neg (y:=x) I ab rx dX ⟨_,_,bW,rfl,rv,rs,.inl pl.isList⟩ s1 s2 q
 | qh h rs=>exact OV hu neg I ab rx ry (.qh h rs) dX q
 | qg h rs=>exact OV hu neg I ab rx ry (.qg h rs) dX q
 | ref l =>
  unfold Rf at q;dsimp only at q;split at q
  ·rename_i kvs hl;obtain⟨hk,q⟩:=q;obtain⟨H3,o,I3,m3,g,ho,_⟩:=Ft I ab hl hk dX;cases ry;cases neg with
   | false=>exact XQ (by lia) I3 g rx fun s3 I4=>⟨.bl _,H3,.bl _,G,I4,m3,rfl,.bl _,by rw [ho]; exact q⟩
   | true=>exact Ki (by lia) I3 g rx fun s3 I4=>⟨.bl _,H3,.bl _,G,I4,m3,rfl,.bl _,by rw [ho]; exact q⟩
  ·rename_i ds hl;obtain⟨t,ss,s1,s2,q⟩:=q;cases ry;obtain⟨vs,hv,rs⟩:=ab.lst hl;obtain⟨bW,rv,pl,hz⟩:=I.list (.of hv);exact Cs hu neg (y:=x) I ab rx dX ⟨_,_,bW,rfl,rv,rs,.inl pl.isList⟩ s1 s2 q
  ·exact q.elim
 | _=>exact bS q
theorem US(hu:X.A.units+64 < cLine):qj X (fk .In) (Rf false):=RE hu false
end
end K2
end
section
namespace K2
open PySem PySem.Spec PyProof.Rows L2
section
variable {X:Cx} {a b c e o:Expr} {es:List Expr} {ta tb tc te to:fY} {t:IH} {pos p p2 apos jJ:Pos} {x name:Str} {id T:String}
theorem oT:rE X (.builtin "len") xm:=by
 intro pins s σ H G xs ds us Q I ab rx rd q;unfold xm at q;split at q
 ·rename_i x;obtain⟨v,rfl,r⟩:=rd.one;have QZ:∀ (n:Nat),X7 X.K v H n->Q (.int (n:Int)) G->wpAny (model X.prog X.w) X.A (call (.builtin "len") us) (tW X pins σ H G Q) X.xe s:=fun n hn hq =>
   gN (P8 pins s σ H [v] us (BM X.K H G Q) I rx ⟨v,n,rfl,hn,_,_,.refl ab,.int _,hq⟩) fun _ _ z=>.of z
  have sz:bc=16777216:=cY;cases r with
  | tup hq rs=>exact QZ _ (.inr ⟨_,.of hq,by rw [rs.length]⟩) q
  | dP hq rs=>exact QZ _ (.inl ⟨_,hq.sq,by rw [rs.length]⟩) q
  | str y =>
   unfold lenOf at q;dsimp only at q;by_cases hz:y.length<=SZ
   ·rw [if_pos hz] at q; exact QZ _ ⟨by rw [sz]; exact hz,rfl⟩ q
   ·rw [if_neg hz] at q; exact q.elim
  | qh h rs =>
   rename_i l o kv kvs;obtain⟨u,rfl,ru⟩:=rx.one;cases ru;unfold lenOf at q;dsimp only at q;by_cases ha:(kvs.all fun p=>eK p.1)=true
   ·rw [if_pos ha] at q;exact TM I (.inr ⟨_,h⟩) fun t s' I'=>⟨.int kv.length,H,_,G,I',.refl ab,⟨t,rfl⟩,.int _,by rw [rs.length]; exact q⟩
   ·rw [if_neg ha] at q; exact q.elim
  | qg h rs =>
   rename_i l o kv kvs;obtain⟨u,rfl,ru⟩:=rx.one;cases ru;unfold lenOf at q;dsimp only at q;by_cases ha:(kvs.all fun p=>eK p.1)=true
   ·rw [if_pos ha] at q;cases rs with
    | nil =>
     obtain⟨z,hS,xs,rel,ob,es,ep,ho,hx,z9,hl,nd⟩:=(I.cL l _ h).2;have hxs:xs=[]:=by cases rel; rfl
     subst hxs;have he:es=#[]:=by simpa using hl
     subst he;have dd:s.heap.DictOf (cP X.prog X.w) l []:=⟨ob,#[],ep,ho,hx,z9,(fun _ h=>by simp at h),.nil,cH⟩;refine call_len_dict hS dd (by simp) ?_;exact⟨.int 0,H,_,G,I.tok _,.refl ab,⟨_,rfl⟩,.int _,q⟩
    | cons _ _=>simp [eK] at ha
   ·rw [if_neg ha] at q; exact q.elim
  | ref l =>
   unfold lenOf at q;dsimp only at q;cases hg:G l with
   | none=>rw [hg] at q; exact q.elim
   | some g =>
    rw [hg] at q;cases g with
    | lst ds =>
     obtain⟨vs,hv,rs⟩:=ab.lst hg;exact QZ _ (.inl ⟨_,.of hv,by rw [rs.length]⟩) q
    | ins _ _=>exact q.elim
    | sE _=>exact q.elim
    | gP kvs =>
     obtain⟨u,rfl,ru⟩:=rx.one;cases ru;dsimp only at q;by_cases ha:(kvs.all fun p=>eK p.1)=true
     ·rw [if_pos ha] at q;rcases ab l _ hg with ⟨kv,hv,rs⟩ | ⟨kv,hv,rs⟩
      ·exact TM I (.inl hv) fun t s' I'=>⟨.int kv.length,H,_,G,I',.refl ab,⟨t,rfl⟩,.int _,by rw [rs.length]; exact q⟩
      ·cases rs with
       | nil =>
        obtain⟨z,hd,vs,rel,dd⟩:=Bz (toK I hv).cL cc;have hvs:vs=[]:=by cases rel; rfl
        subst hvs;refine call_len_dict hd dd (by simp) ?_;exact⟨.int 0,H,_,G,I.tok _,.refl ab,⟨_,rfl⟩,.int _,q⟩
       | cons _ _=>simp [eK] at ha
     ·rw [if_neg ha] at q; exact q.elim
  | _=>exact bS q
 ·exact q.elim
theorem ID:rE X (.type "list") w8:=by
 intro pins s σ H G xs ds us Q I ab rx rd q;unfold w8 at q;split at q
 ·rename_i x;obtain⟨v,rfl,r⟩:=rd.one;have VS:∀ (l:Addr) (ys:List V) (zs:List D),v=.ref l->(rz X.K H l ys\/xX X.K H l ys)->br X.K H ys zs->gL G (.lst zs) Q->wpAny (model X.prog X.w) X.A (call (.type "list") us) (tW X pins σ H G Q) X.xe s:=fun l ys zs e h rs hq=>by
   subst e;exact gN (C1 pins s σ H _ us (BM X.K H G Q) I rx ⟨l,ys,rfl,h,fun p hp=>⟨_,_,.EF ab hp rs,.ref _,hq p (ab.free hp)⟩⟩) fun _ _ z=>.of z
  cases r with
  | tup hq rs=>exact VS _ _ _ rfl (.inr (.of hq)) rs q
  | dP hq rs=>exact VS _ _ _ rfl (.inl hq.sq) rs q
  | ref l =>
   unfold itemsOf at q;dsimp only at q;cases hg:G l with
   | none=>rw [hg] at q; exact q.elim
   | some g =>
    rw [hg] at q;cases g with
    | lst ds =>
     obtain⟨vs,hv,rs⟩:=ab.lst hg;exact VS _ _ _ rfl (.inl (.of hv)) rs q
    | ins _ _=>exact q.elim
    | sE _=>exact q.elim
    | gP kvs=>exact q.elim
  | _=>exact bS q
 ·exact q.elim
theorem tj {r:List D->Gp->DK->Prop} (hc:rE X (.type T) r) (hg:Gl X x) (hm:X.mg x=none) (hv:eB x=some (.type T)) (ha:Md X (e :: es) t) (hn:autoParam (x≠"__name__") Ad._auto_1) (LN:autoParam ((x == ("__debug__" : Str))=false) Ad._auto_1)
  (he:autoParam (cK (e :: es) X.env=(false,eval e X.env) :: cK es X.env) Ar._auto_1) (HN:autoParam ((oy pos (cK es X.env)).any (·.1)=false) Ar._auto_1):gE X (.Call (.Name x p) (e :: es) [] pos) (wm r t):=by
 intro E pins s σ H τ G Q hE I h;refine hU (pF I.inv hg hm hv ?_ hn LN);exact eF (GP ha pos hE I h fun vs H1 ds G1 us s1 I1 m1 r1 jt q1=>gN (hc pins s1 σ H1 G1 vs ds us Q I1.inv I1.ab r1 jt q1) fun _ _ z=>z.trans m1) he HN
theorem U3 (K:ai):∀ C∈["int","bool","list","tuple","dict","str"],∀ T∈["NoneType","bool","int","str","tuple","list","dict"],PySem.W.kitOne K (.type T) (.type C)=some (T == C||(T == "bool" && C == "int")):=by
 intro C hC T hT;simp only [aO,bO,or_false] at hC hT;rcases hC with rfl | rfl | rfl | rfl | rfl | rfl <;> rcases hT with rfl | rfl | rfl | rfl | rfl | rfl | rfl <;> kernel_rfl
theorem OR (C:String) (hC:C∈["int","bool","list","tuple","dict","str"]) {pins:List (Addr×Obj)} {s:az} {σ:L2.St} {H:Hp} {G:Gp} {v:V} {d:D} {u:Value} {k:Bool} {Q:DK} (I:Inv X pins σ H s) (ab:lZ X.K H G) (ru:RelV v u) (r:cw X.K H v d)
  (hk:Tp C d G=some k) (q:Q (.bl k) G):wpAny (model X.prog X.w) X.A (call (.builtin "isinstance") [u,.type C]) (tW X pins σ H G Q) X.xe s:=by
 have fin:∀ tk,tW X pins σ H G Q (.bool k) { s with toks:=tk }:=fun tk=>⟨.bl k,H,.bl k,G,I.tok _,.refl ab,rfl,.bl k,q⟩;have hl:∀ T∈["NoneType","bool","int","str","tuple","list","dict"],k=(T == C||(T == "bool" && C == "int"))->PySem.W.kitOne X.K (.type T) (.type C)=some k:=fun T hT e=>by rw [U3 X.K C hC T hT,e]
 have tl:∀ {l:Addr} {o:Obj},s.heap.get? l=some o->o.cls=.type "list"->k=("list" == C||("list" == "bool" && C == "int"))->v=.ref l->wpAny (model X.prog X.w) X.A (call (.builtin "isinstance") [u,.type C]) (tW X pins σ H G Q) X.xe s:=fun ho hc e ev=>by
  subst ev;cases ru;exact iZ PySem.W.kitx_list I.JS ⟨_,ho,hc⟩ (hl "list" (by decide) e) (fun z=>nomatch z) fin
 have td:∀ {l:Addr} {o:Obj},s.heap.get? l=some o->o.cls=.type "dict"->k=("dict" == C||("dict" == "bool" && C == "int"))->v=.ref l->wpAny (model X.prog X.w) X.A (call (.builtin "isinstance") [u,.type C]) (tW X pins σ H G Q) X.xe s:=fun ho hc e ev=>by
  subst ev;cases ru;exact iZ PySem.W.kitx_dict I.JS ⟨_,ho,hc⟩ (hl "dict" (by decide) e) (fun z=>nomatch z) fin
 have oq:∀ P:String->Prop,(∀ C'∈["int","bool","list","tuple","dict","str"],P C')->P C:=fun P h=>h C hC;cases r with
 | eU =>
  cases ru;have e:k=("NoneType" == C||("NoneType" == "bool" && C == "int")):=by
   have:k=false:=(ba hk).symm;rw [this];exact oq (fun C=>false=("NoneType" == C||("NoneType" == "bool" && C == "int"))) (by decide)
  exact iZ PySem.W.kitx_none I.JS fZ (hl _ (by decide) e) (fun z=>nomatch z) fin
 | bl y =>
  cases ru;have e:k=("bool" == C||("bool" == "bool" && C == "int")):=by
   have:k=(C == "bool" || C == "int"):=(ba hk).symm;rw [this];exact oq (fun C=>(C == "bool" || C == "int")=("bool" == C||("bool" == "bool" && C == "int"))) (by decide)
  exact iZ PySem.W.kitx_bool I.JS fZ (hl _ (by decide) e) (fun z=>nomatch z) fin
 | int y =>
  obtain⟨t,rfl⟩:=ru;have e:k=("int" == C||("int" == "bool" && C == "int")):=by
   have:k=(C == "int"):=(ba hk).symm;rw [this];exact oq (fun C=>(C == "int")=("int" == C||("int" == "bool" && C == "int"))) (by decide)
  exact iZ PySem.W.kitx_int I.JS fZ (hl _ (by decide) e) (fun z=>nomatch z) fin
 | str y =>
  obtain⟨t,rfl⟩:=ru;have e:k=("str" == C||("str" == "bool" && C == "int")):=by
   have:k=(C == "str"):=(ba hk).symm;rw [this];exact oq (fun C=>(C == "str")=("str" == C||("str" == "bool" && C == "int"))) (by decide)
  exact iZ PySem.W.kitx_str I.JS fZ (hl _ (by decide) e) (fun z=>nomatch z) fin
 | tup hq rs =>
  cases ru;have e:k=("tuple" == C||("tuple" == "bool" && C == "int")):=by
   have:k=(C == "tuple"):=(ba hk).symm;rw [this];exact oq (fun C=>(C == "tuple")=("tuple" == C||("tuple" == "bool" && C == "int"))) (by decide)
  obtain⟨bW,rv,⟨o,h1,h2,_⟩,hz⟩:=I.tuple (.of hq);exact iZ PySem.W.kitx_tuple I.JS ⟨o,h1,h2⟩ (hl _ (by decide) e) (fun z=>nomatch z) fin
 | dP hq rs =>
  obtain⟨bW,rv,pl,hz⟩:=I.list hq.sq;obtain⟨o,h1,h2,_⟩:=pl.isList;refine tl h1 h2 ?_ rfl;have:k=(C == "list"):=(ba hk).symm;rw [this];exact oq (fun C=>(C == "list")=("list" == C||("list" == "bool" && C == "int"))) (by decide)
 | qh h rs =>
  have e:k=("dict" == C||("dict" == "bool" && C == "int")):=by
   have:k=(C == "dict"):=(ba hk).symm;rw [this];exact oq (fun C=>(C == "dict")=("dict" == C||("dict" == "bool" && C == "int"))) (by decide)
  obtain⟨_,_,vs,_,ob,_,_,h1,h2,_⟩:=sU I.cL (.inr ⟨_,h⟩);exact td h1 h2.1 e rfl
 | qg h rs =>
  have e:k=("dict" == C||("dict" == "bool" && C == "int")):=by
   have:k=(C == "dict"):=(ba hk).symm;rw [this];exact oq (fun C=>(C == "dict")=("dict" == C||("dict" == "bool" && C == "int"))) (by decide)
  obtain⟨_,_,ys,_,ob,_,_,h1,h2,_⟩:=zv I.cL (.inr ⟨_,h⟩);exact td h1 h2.1 e rfl
 | exc h=>simp [Tp] at hk
 | Gj h _=>simp [Tp] at hk
 | oX _ _ _ _=>simp [Tp] at hk
 | ref l =>
  unfold Tp at hk;dsimp only at hk;cases hg:G l with
  | none=>rw [hg] at hk; cases hk
  | some g =>
   rw [hg] at hk;cases g with
   | lst ds =>
    obtain⟨vs,hv,rs⟩:=ab.lst hg;obtain⟨bW,rv,pl,hz⟩:=I.list (.of hv);obtain⟨o,h1,h2,_⟩:=pl.isList;refine tl h1 h2 ?_ rfl;have:k=(C == "list"):=(ba hk).symm;rw [this];exact oq (fun C=>(C == "list")=("list" == C||("list" == "bool" && C == "int"))) (by decide)
   | ins _ _=>cases hk
   | sE _=>cases hk
   | gP kvs =>
    have e:k=("dict" == C||("dict" == "bool" && C == "int")):=by
     have:k=(C == "dict"):=(ba hk).symm;rw [this];exact oq (fun C=>(C == "dict")=("dict" == C||("dict" == "bool" && C == "int"))) (by decide)
    rcases ab l _ hg with ⟨kv,hv,rs⟩ | ⟨kv,hv,rs⟩
    ·obtain⟨_,_,vs,_,ob,_,_,h1,h2,_⟩:=Bz I.cL hv;exact td h1 h2.1 e rfl
    ·obtain⟨_,_,ys,_,ob,_,_,h1,h2,_⟩:=PJ I.cL hv;exact td h1 h2.1 e rfl
theorem Cc (C:String) (hC:C∈["int","bool","list","tuple","dict","str"]) {y:Str} {py:Pos} (hg:Gl X "isinstance") (hm:X.mg "isinstance" = none) (hgC:Gl X y) (hmC:X.mg y=none) (hvC:eB y=some (.type C)) (ha:gE X a ta) (hn:autoParam (y≠"__name__") Ad._auto_1) (LN:autoParam ((y == ("__debug__" : Str))=false) Ad._auto_1)
  (he:autoParam (cK [a,.Name y py] X.env=(false,eval a X.env) :: cK [.Name y py] X.env) Ar._auto_1) (HN:autoParam ((oy pos (cK [Expr.Name y py] X.env)).any (·.1)=false) Ar._auto_1) (Xx:autoParam (cK [.Name y py] X.env=[(false,eval (.Name y py) X.env)]) Ar._auto_1) :
  gE X (.Call (.Name "isinstance" p) [a,.Name y py] [] pos) (PW C ta):=by
 intro E pins s σ H τ G Q hE I h;refine hU (pF I.inv hg hm PyProof.Rows.boot_isinstance ?_);refine vA ?_ he HN;rw [he];show wpAny _ _ (Gr ((false,eval a X.env) :: oy pos (cK [.Name y py] X.env))) _ _ s;refine iW (jx ha hE I h fun v H1 d G1 u s1 I1 m1 r1 jt q1=>?_);rw [Xx];show wpAny _ _ (Gr [(false,eval (.Name y py) X.env)]) _ _ s1;refine iW (pF I1.inv hgC hmC hvC (lM ?_) hn LN)
 try dsimp only at q1
 split at q1
 ·rename_i k hk;exact gN (OR C hC I1.inv I1.ab r1 jt hk q1) fun _ _ z=>z.trans m1
 ·exact q1.elim
end
end K2
end
section
namespace K2
open PySem PySem.Spec PyProof.Rows L2
section
variable {X:Cx} {a b c e o:Expr} {es:List Expr} {ta tb tc te to:fY} {t:IH} {pos p p2 apos jJ:Pos} {x name:Str} {id T:String}
noncomputable def Ml(X:Cx)(id:String)(r:D->List D->Gp->DK->Prop):Prop :=
 ∀ (pins:List (Addr×Obj)) (s:az) (σ:L2.St) (H:Hp) (G:Gp) (x:V) (d:D) (xs:List V) (ds:List D) (v:Value) (us:List Value) (Q:DK),Inv X pins σ H s->lZ X.K H G->RelV x v->cw X.K H x d->Vals xs us->br X.K H xs ds->r d ds G Q ->
  wpAny (model X.prog X.w) X.A (call (.builtin id) (v :: us)) (tW X pins σ H G Q) X.xe s
noncomputable def Sz(X:Cx)(T:String)(ty:D->Gp->Prop):Prop:=∀ (pins:List (Addr×Obj)) (s:az) (σ:L2.St) (H:Hp) (G:Gp) (x:V) (d:D) (v:Value),Inv X pins σ H s->lZ X.K H G->RelV x v->cw X.K H x d->ty d G ->
  s.TypeIs v T/\∀ a,v=.ref a->∃ ob,s.heap.get? a=some ob/\ob.dict=none
theorem mC:Sz X "list" Gd:=by
 intro pins s σ H G x d v I ab r rd h;cases rd with
 | dP hq rs=>exact BX I r (.inl ⟨rfl,_,hq.sq⟩)
 | ref l =>
  unfold Gd at h;dsimp only at h;split at h
  ·rename_i ds hg;obtain⟨vs,hv,rs⟩:=ab.lst hg;exact BX I r (.inl ⟨rfl,vs,.of hv⟩)
  ·exact h.elim
 | _=>exact bS h
theorem oz:Sz X "dict" Q0:=by
 intro pins s σ H G x d v I ab r rd h;cases rd with
 | qh q rs =>
  cases r;obtain⟨t1,t2,_⟩:=OS I (.inl ⟨_,.inr ⟨_,q⟩⟩);exact⟨t1,t2⟩
 | qg q rs =>
  cases r;obtain⟨t1,t2,_⟩:=OS I (.inr ⟨_,.inr ⟨_,q⟩⟩);exact⟨t1,t2⟩
 | ref l =>
  unfold Q0 at h;dsimp only at h;split at h
  ·rename_i kvs hg;rcases ab l _ hg with ⟨kv,hv,rs⟩ | ⟨kv,hv,rs⟩
   ·exact BX I r (.inr (.inr (.inl ⟨rfl,.inl ⟨kv,hv⟩⟩)))
   ·exact BX I r (.inr (.inr (.inl ⟨rfl,.inr ⟨kv,hv⟩⟩)))
  ·exact h.elim
 | _=>exact bS h
theorem kr {ty:D->Gp->Prop} {r:D->List D->Gp->DK->Prop} (pa:PlainAttrs T) (slot:Slot T name id) (hty:typeOf (.builtin id)=pure (.type "method_descriptor")) (ht:Sz X T ty) (hm:Ml X id r) (ho:gE X o to) (ha:Md X (e :: es) t)
  (zc:autoParam (qa o name X.env (eval o X.env)=eval o X.env) Ar._auto_1)
  (aaG:autoParam (((oy jJ (cK (e :: es) X.env)).all (fun x=>!x.1)&&(backToKw jJ (keywordEach [] X.env)).all (fun x=>x.1.isSome)
   && decide ((e :: es).length+([]:List MW).length+(if ([]:List MW).isEmpty then 0 else 1) < 30))=true) Ar._auto_1)
  (zb:autoParam ((apos.endLine == jJ.line)=true) Ar._auto_1) (hs:autoParam (cK (e :: es) X.env=(false,eval e X.env) :: cK es X.env) Ar._auto_1) (Vb:autoParam ((oy jJ (cK es X.env)).any (·.1)=false) Ar._auto_1) :
  gE X (.Call (.Attribute o name apos) (e :: es) [] jJ) (t8 ty r to t):=by
 intro E pins s σ H τ G Q hE I h;refine wpAny_Call_method_late zc aaG zb rfl (jx ho hE I h ?_);rintro x H1 d G1 v s1 I1 m1 r1 jt ⟨hy,q1⟩;obtain⟨h1,h2⟩:=ht pins s1 σ H1 G1 x d v I1.inv I1.ab r1 jt hy;refine⟨T,id,pa,slot,hty,h1,h2,?_⟩;have hA:=ha jJ E pins s1 σ H1 τ G1 _ hE I1 q1;rw [hs] at hA ⊢;refine lF (by show (false||(oy jJ (cK es X.env)).any (·.1))=false; rw [Vb] <;> rfl) (Calls.evalArgs_plain ?_);exact gN hA (by rintro us s2 ⟨vs,H2,ds,G2,nk,m2,r2,yB,q2⟩; exact gN (hm pins s2 σ H2 G2 x d vs ds v us Q nk m2.ab r1 (jt.mono (m2.kp I1.ab)) r2 yB q2) fun _ _ z=>z.trans (m1.trans m2))
theorem kz:Ml X "list.append" lR:=by
 intro pins s σ H G x d xs ds v us Q I ab rx rd QC Ee q;unfold lR at q;split at q
 ·rename_i l d';cases rd;obtain⟨w,rfl,sx⟩:=Ee.one;split at q
  ·rename_i zs hg;obtain⟨hz,q⟩:=q;obtain⟨vs,hv,rs⟩:=ab.lst hg;exact gN (Ba pins s σ H _ _ v us (BM X.K H G Q) I rx QC ⟨l,vs,w,rfl,rfl,hv,by rw [rs.length,cY]; exact hz,_,_,.putL ab hg hv (rs.append (.cons sx .nil)),.eU,q⟩) fun _ _ z=>.of z
  ·exact q.elim
 ·exact q.elim
theorem Ii(l:Addr)(xs:Array Value)(n:Nat)(b:Addr)(ys:Array Value)(n2:Nat)(dd:Option Addr)(sl:Array (Option Value))(Tz:¬(!xs.isEmpty&&jw (xs.size+ys.size))=true)(hx:xs.size<=bc)(V1:xs.size+ys.size<=bc+1) :
  Meets (Builtin.«list.extend» ⟨[.ref l,.ref b],[]⟩) (fun _ R s=>s.heap.get? l=some { cls:=.type "list",dict:=none,data:=.seq xs n,slots:=#[] }/\s.heap.get? b=some { cls:=.type "list",dict:=dd,data:=.seq ys n2,slots:=sl }/\R (.ok (.ret fX)) { s with heap:=s.heap.update l (fM fun x=>x++ys),toks:=s.toks }) :=
 .of_wp fun prog w A R s h=>by
  obtain⟨hp,g,d,tk,os⟩:=s;obtain⟨h1,h2,h3⟩:=h;have e1:=AutoSeq1.idx_int;have e2:=pO;have e3:=GG;have e4:=AutoSeq1.sub_tuple_list;have e5:=AutoSeq1.sub_list_tuple;have hz':(xs++ys).size<=bc+1:=by rw [Array.size_append]; exact V1
  wp_walk using (wpAny_updateSeq h1 rfl (hz:=hx) (_hz':=hz')),cm h1,cm h2
  exact⟨_,rfl,h3⟩
theorem Ht:Ml X "list.extend" xM:=by
 intro pins s σ H G x d xs ds v us Q I ab rx rd QC Ee q;unfold xM at q;split at q
 ·rename_i l y;cases rd;obtain⟨w,rfl,sx⟩:=Ee.one;obtain⟨u,rfl,ru⟩:=QC.one;split at q
  ·rename_i zs ys hg Xv;obtain⟨hz,q⟩:=q;obtain⟨vs,hv,rs⟩:=ab.lst hg;obtain⟨b,ws,vX,rfl,NA,Jt,hb,_⟩:=kF I ab ru sx Xv;cases rx;obtain⟨z,bW,n,r,hl,e⟩:=I.W5 hv;obtain⟨⟨cl,dd,dt,sl⟩,ho,O9,n2,hdt⟩:=hb;simp only at O9 hdt;subst O9 hdt;have h1:=NA.length;have h2:=Jt.length;have h3:=rs.length;have h4:=r.length;have h5:bc=16777216:=cY;have h6:SZ=16777216:=rfl;have hsz:bW.toArray.size+vX.toArray.size<=bc:=by rw [aY,aY]; lia
   have Tz:¬ (!bW.toArray.isEmpty&&jw (bW.toArray.size+vX.toArray.size))=true:=by
    rw [Oj hsz,Jc];exact i6
   refine call_meets F.slot_list_extend ⟨_,e,rfl⟩ F.entry_list_extend (F.args_list_extend_2 _ _) (Ii l bW.toArray n b vX.toArray n2 dd sl Tz (by rw [aY]; lia) (by lia)) ⟨e,ho,?_⟩;refine⟨.eU,_,.eU,_,I.W6 (its':=bW++vX) hv e (by simp) (r.append NA) ?_,.putL ab hg hv (rs.append Jt),rfl,.eU,q⟩;rw [au];lia
  ·exact q.elim
 ·exact q.elim
theorem pz:gE X (.Dict [] [] pos) pI:=by
 intro E pins s σ H τ G Q hE I h;exact gN (N5 pins s σ H (BM X.K H G Q) I.inv fun p hp=>⟨_,_,.new I.ab hp (.dk cc .nil),.ref _,h p (I.ab.free hp)⟩) fun _ _ z=>.of z
end
end K2
end
section
namespace K2
open PySem PySem.Spec PyProof.Rows L2
noncomputable def gb(env:Env):List (Str×sJ)->List (Str×Addr)->List (Str×Addr)
 | [],acc=>acc
 | (n,k) :: r,acc=>if k=.free then gb env r ((n,(env.cells.lookup n).getD 0) :: acc) else gb env r acc
theorem tR(env:Env)(f:Str×sJ->List (Str×Addr)->Sem (ForInStep (List (Str×Addr))))(hf:∀ n k c,f (n,k) c=if (k == ke)=true then (cellOf env n >>= fun a=>pure (su ((n,a) :: c))) else pure (su c)) :
  ∀ (ns:List (Str×sJ)) (acc:List (Str×Addr)),(∀ x∈ns,x.2=.free->∃ c,env.cells.lookup x.1=some c)->forIn ns acc f=(pure (gb env ns acc):Sem (List (Str×Addr)))
 | [],acc,_=>rfl
 | (n,k) :: r,acc,h=>by
  rw [List.forIn_cons,hf];have hr:∀ x∈r,x.2=.free->∃ c,env.cells.lookup x.1=some c:=fun x hx=>h x (aE _ hx);by_cases hk:k=.free
  ·subst hk;obtain⟨c,hc⟩:=h (n,.free) cz rfl;have ec:cellOf env n=pure c:=by unfold cellOf; rw [hc]
   rw [if_pos (by decide),ec,pure_bind,pure_bind];show forIn r ((n,c) :: acc) f=_;rw [tR env f hf r _ hr];show _=(pure (gb env ((n,.free) :: r) acc):Sem (List (Str×Addr)));rw [gb,if_pos rfl,hc]; rfl
  ·rw [if_neg (by simpa using hk),pure_bind];show forIn r acc f=_;rw [tR env f hf r _ hr];show _=(pure (gb env ((n,k) :: r) acc):Sem (List (Str×Addr)));rw [gb,if_neg hk]
theorem AI{env:Env}{scope:Scope}(h:∀ x∈scope.names,x.2=.free->∃ c,env.cells.lookup x.1=some c):closureFor scope env=pure (gb env scope.names []):=by
 unfold closureFor;dsimp only;rw [tR env _ (fun n k c=>?_) scope.names [] h]
 ·rfl
 ·by_cases hk:(k == ke)=true
  ·simp only [hk,if_true]
  ·simp only [hk,if_false,aw]
theorem ug{env:Env}{x:Str}{c:Addr}:∀ {ns:List (Str×sJ)} {acc:List (Str×Addr)},(∀ y∈ns,y.2=.free->∃ c,env.cells.lookup y.1=some c)->(∀ y c,acc.lookup y=some c->env.cells.lookup y=some c)->(gb env ns acc).lookup x=some c->env.cells.lookup x=some c
 | [],_,_,ha,e=>ha _ _ e
 | (n,k) :: r,acc,h,ha,e=>by
  have hr:∀ y∈r,y.2=.free->∃ c,env.cells.lookup y.1=some c:=fun y hy=>h y (aE _ hy);unfold gb at e;by_cases hk:k=.free
  ·rw [if_pos hk] at e;refine ug hr (fun y c' q=>?_) e;rw [Dp] at q;by_cases hy:(y == n)=true
   ·rw [hy] at q;have e1:y=n:=eq_of_beq hy;subst e1;obtain⟨c0,hc0⟩:=h (y,k) cz hk;rw [hc0] at q ⊢;exact q
   ·have Tq:(y == n)=false:=by simpa using hy
    rw [Tq] at q;exact ha y c' q
  ·rw [if_neg hk] at e;exact ug hr ha e
theorem pe{env:Env}{x:Str}:∀ {ns:List (Str×sJ)} {acc:List (Str×Addr)},((x,ke)∈ns\/∃ c,acc.lookup x=some c)->∃ c,(gb env ns acc).lookup x=some c
 | [],_,h=>by rcases h with h | h; exact absurd h (by simp); exact h
 | (n,k) :: r,acc,h=>by
  unfold gb;have grow:∀ a,(∃ c,acc.lookup x=some c)->∃ c,((n,a) :: acc).lookup x=some c:=fun a Tx=>by
   obtain⟨c,hc⟩:=Tx;rw [Dp];by_cases hy:(x == n)=true
   ·rw [hy]; exact⟨_,rfl⟩
   ·have Tq:(x == n)=false:=by simpa using hy
    rw [Tq]; exact⟨c,hc⟩
  by_cases hk:k=.free
  ·rw [if_pos hk];refine pe ?_;rcases h with h | h
   ·rcases List.mem_cons.mp h with e | h
    ·injection e with e1 e2
     subst e1;exact .inr ⟨(env.cells.lookup x).getD 0,by rw [Dp]; simp⟩
    ·exact .inl h
   ·exact .inr (grow _ h)
  ·rw [if_neg hk];refine pe ?_;rcases h with h | h
   ·rcases List.mem_cons.mp h with e | h
    ·injection e with e1 e2
     exact absurd e2.symm hk
    ·exact .inl h
   ·exact .inr h
noncomputable abbrev dS(X:Cx)(N:List Str)(scope:Scope)(C:Addr)(s:az)(H:Hp)(fp:List Addr):Cx :=
 { X with env:=compEnvC scope (gb X.env scope.names []) C X.env,N:=N,ny:=s,Qq:=H,outer:=X.stack,stack:=X.stack,ex:=fp,fn:=fun _=>false,pn:=[],xe:=fun _ _=>False }
theorem uv{scope:Scope}{env:Env}{x:Str}(h:(Gs scope env).names.lookup x=some .cell\/(Gs scope env).names.lookup x=some .free)(pU:∀ y∈scope.names,y.2≠.cell):(x,ke)∈scope.names:=by
 have go:∀ k,(Gs scope env).names.lookup x=some k->k=.cell\/k=.free->(x,ke)∈scope.names:=by
  intro k hk hkk;have hm:=iD hk;unfold Gs at hm;dsimp only at hm;obtain⟨⟨n,j⟩,hj,e⟩:=List.mem_map.mp hm;dsimp only at e;by_cases hc:(j == ke&&env.scope.kind == .function&&env.kindOf n == some .cell)=true
  ·rw [if_pos hc] at e;rw [aK,aK] at hc;injection e with e1 e2
   have ej:j=.free:=eq_of_beq hc.1.1;rw [ej,e1] at hj;exact hj
  ·rw [if_neg hc] at e;injection e with e1 e2
   subst e1;rcases hkk with r | r
   ·exact absurd (e2.trans r) (pU _ hj)
   ·rw [e2.trans r] at hj; exact hj
 rcases h with h | h
 ·exact go _ h (.inl rfl)
 ·exact go _ h (.inr rfl)
section
variable {X:Cx} {N:List Str} {scope:Scope} {fp:List Addr} {pins:List (Addr×Obj)} {σ:L2.St} {H:Hp} {s:az} {C:Addr}
theorem Vy(I:Inv X pins σ H s)(pU:∀ y∈scope.names,y.2≠.cell)(Bo:scope.kind=.function)(pT:∀ y∈scope.names,y.2=.free->X.env.kindOf y.1=some .cell)(hC:s.heap.objs.size<=C)(hfp:∀ b∈fp,ou X pins H b/\b < s.heap.objs.size):(dS X N scope C s H fp).Ok:=by
 have O9:∀ y∈scope.names,y.2=.free->∃ c,X.env.cells.lookup y.1=some c:=fun y hy hf=>I.ok.has _ (.inl (pT y hy hf));have Ud:∀ x c,(gb X.env scope.names []).lookup x=some c->X.env.cells.lookup x=some c:=fun x c e=>ug O9 (fun y c q=>by simp at q) e;refine⟨I.ok.mod,Bo,I.ok.glob,I.ok.blt,hC,fun x y c h1 h2=>I.ok.inj x y c (Ud x c h1) (Ud y c h2),fun x hx=>?_,fun x c h=>absurd h (by simp),I.ok.hd,I.ok.frames,.inl rfl,fun b hb=>?_,I.bs,bu I.ok.Sv I.sz,fun b o e hb=>?_,fun b hb=>?_,I.stack,I.Jk⟩
 ·exact pe (.inl (uv hx pU))
 ·obtain⟨⟨f0,f1,f2,f3,f4,f5⟩,za⟩:=hfp b hb;exact⟨bK (bR za hC),fun x c e=>f4 x c (Ud x c e)⟩
 ·obtain⟨⟨f0,f1,f2,f3,f4,f5⟩,za⟩:=hfp b hb;rcases f3 with f3 | f3
  ·exact I.ok.Ll b o e f3
  ·exact absurd (bR (aS e) (bu I.ok.Sv f3)) (iH _)
 ·obtain⟨⟨f0,f1,f2,f3,f4,f5⟩,za⟩:=hfp b hb;intro z;rcases List.mem_cons.mp (I.GS b z) with e | e
  ·exact f1 e
  ·exact f2 e
theorem Sh{qi:Heap}{m:Nat}{fr:List Nat}{tk:Nat}(I:Inv X pins σ H s)(ok:(dS X N scope s.heap.objs.size s H fp).Ok)(Vh:∀ y∈scope.names,y.2≠.cell)(pT:∀ y∈scope.names,y.2=.free->X.env.kindOf y.1=some .cell)(hN:N.length=m+fr.length)
  (hfr:∀ j i x,fr[j]?=some i->N[m+j]?=some x->X.N[i]?=some x/\X.env.scope.names.lookup x=some .cell/\(Gs scope X.env).names.lookup x=some .cell) (QH:∃ mm,qi.Ns s.heap.objs.size mm) (hk:∀ b o,s.heap.get? b=some o->qi.get? b=some o) :
  Inv (dS X N scope s.heap.objs.size s H fp) [] (bg m none++fr.map fun i=>(σ[i]?).getD none) H { s with heap:=qi,toks:=tk }:=by
 have O9:∀ y∈scope.names,y.2=.free->∃ c,X.env.cells.lookup y.1=some c:=fun y hy hf=>I.ok.has _ (.inl (pT y hy hf));have Ud:∀ x c,(gb X.env scope.names []).lookup x=some c->X.env.cells.lookup x=some c:=fun x c e=>ug O9 (fun y c q=>by simp at q) e;obtain⟨mm,QH⟩:=QH;refine⟨ok,rfl,I.bare,Un.kept hk,⟨mm,QH,fun i x v h1 h2 h3=>?_⟩,fun x c e=>?_,I.cL.fresh (aI _),fun x c e=>?_,fun p hp=>absurd hp (by simp),I.cL.kept hk,?_⟩
 ·by_cases hi:i < m
  ·rw [cV (by simpa using hi),lq] at h2;split at h2 <;> cases h2
  ·obtain⟨j,rfl⟩:∃ j,i=m+j:=⟨i - m,by lia⟩;rw [cD (by simp),fE,sW,bA] at h2;cases hj:fr[j]? with
   | none=>rw [hj] at h2; cases h2
   | some k =>
    rw [hj] at h2;have Pf:(σ[k]?).getD none=some v:=by simpa using h2
    have Yy:σ[k]?=some (some v):=by
     cases q:σ[k]? with
     | none=>rw [q] at Pf; cases Pf
     | some o=>rw [q] at Pf; simp at Pf; rw [Pf]
    obtain⟨e1,e2,e3⟩:=hfr j k x hj h1;obtain⟨m0,hn0,hl0⟩:=I.loc;obtain⟨u,r,l⟩:=hl0 k x v e1 Yy (.inr (.inl e2));refine⟨u,r,.inr ⟨.inl e3,?_⟩⟩;rcases l with ⟨l1,_⟩ | ⟨_,c,hc,pU⟩
    ·have:X.env.scope.names.lookup x=some .local:=l1;rw [e2] at this; cases this
    ·have hx:(x,ke)∈scope.names:=uv (.inl e3) Vh;obtain⟨c',QI⟩:=pe (env:=X.env) (x:=x) (ns:=scope.names) (acc:=[]) (.inl hx);have:=Ud x c' QI;rw [hc] at this;have ec:c=c':=ba this;subst ec;obtain⟨oc,V2,hd⟩:=pU;exact⟨c,QI,oc,hk _ _ V2,hd⟩
 ·obtain⟨v,oc,V2,hd⟩:=I.cell x c (Ud x c e);exact⟨v,oc,hk _ _ V2,hd⟩
 ·exact I.pV x c (Ud x c e)
 ·rw [au,fE,aq];exact hN.symm
theorem C0{prog:bM}{w:World}{A:dD}{R:Result->az->Prop}{s:az}{elt target iter:Expr}{ifs:List Expr}{sc:Scope}{pos:Pos}{it acc:Value}{env:Env}(J:Nat->az->Prop)
  (turn:∀ n s,J n s->wpAny (model prog w) A (DD it) (fun r fu=>match r with
   | none=>R (.ok .next) fu
   | some v=>wpAny (model prog w) A (x4 target it v) (fun _ Wu=>wpAny (model prog w) A (IT target env v) (fun _ DV =>
     wpAny (model prog w) A (forIn ifs true fun c r=>if r=true then do let ok ← isTrue c env (eval c env); pure (su ok) else pure (su r)) (fun k Ng =>
      if k=true then wpAny (model prog w) A (eval elt env) (fun x KR=>wpAny (model prog w) A (call (.builtin "list.append") [acc,x]) (fun _ Nf=>∃ m,m < n/\J m Nf) (fun _ _=>False) KR) (fun _ _=>False) Ng
      else ∃ m,m < n/\J m Ng) (fun _ _=>False) DV) (fun _ _=>False) Wu) (fun _ _=>False) fu) (fun _ _=>False) s) (n:Nat) (h:J n s) :
  Gv (model prog w) A (.compLoop (.ListComp elt [⟨target,iter,ifs,0⟩] sc pos) 0 it acc env) R s:=by
 have no:∀ {α:Type} {t:Sem α} {Q:α->az->Prop} {E:Value->az->Prop} {s:az},wpAny (model prog w) A t Q (fun _ _=>False) s->wpAny (model prog w) A t Q E s:=fun h=>wpAny_mono h (fun _ _ q=>q) fun _ _ z=>z.elim;refine codeAny_loop rfl J (fun n s hJ=>?_) n h;show wpAny _ A ((compTurn (.ListComp elt [⟨target,iter,ifs,0⟩] sc pos) 0 it acc env).onRaise (fun x=>do noteFrame x env; theTreesLotGoes x)) _ _ s;refine wpAny_noted ?_;rw [compTurn_list];refine ag (DA (ag (gN (no (turn n s hJ)) fun r fu qi=>?_)));cases r with
 | none=>exact aC qi
 | some v =>
  refine ag (gN (no qi) fun _ DV O0=>ag (gN (no O0) fun _ Ng Z5=>ag (gN (no Z5) fun k KR Xf=>?_)));cases k with
  | false=>exact aC ⟨rfl,Xf⟩
  | true=>exact ag (ag (gN (no Xf) fun x Nf Z4=>ag (gN (no Z4) fun _ ac0 Z3=>aC (aC ⟨rfl,Z3⟩))))
noncomputable def CompEnd(X:Cx)(pins:List (Addr×Obj))(σ:L2.St)(H:Hp)(G:Gp)(Q:DK)(C Dd:Addr)(s':az):Prop :=
 ∃ m H' G',Inv X pins σ H' s'/\s'.heap.Ns C m/\ou X pins H' C/\Mv X.K H G H' G'/\Q (.ref Dd) G'
inductive VM (Xc:Cx):List Expr->Option w9->Prop
 | none:VM Xc [] none
 | some {c:Expr} {t:w9}:MG Xc c t->VM Xc [c] (some t)
theorem BE{τ:ik}{G G2:Gp}{H2:Hp}{s2:az}{tg elt iter:Expr}{ifs:List Expr}{pos:Pos}{m:Nat}{fr:List Nat}{E:lX}{g:Aa}{c:Option w9}{te:fY}{J:It}{tn:Nat->Heap->Prop}{it:Addr}{ds:List D}{ok:Gp->Prop}{Q:DK}{Rr:Value->Addr->Result->az->Prop}{E0:Value->az->Prop}
  (hc:X.calm=true) (pU:∀ y∈scope.names,y.2≠.cell) (Bo:scope.kind=.function) (pT:∀ y∈scope.names,y.2=.free->X.env.kindOf y.1=some .cell) (hN:N.length=m+fr.length)
  (hfr:∀ j i x,fr[j]?=some i->N[m+j]?=some x->X.N[i]?=some x/\X.env.scope.names.lookup x=some .cell/\(Gs scope X.env).names.lookup x=some .cell)
  (hg:∀ C s H fp,Mc (dS X N scope C s H fp) tg g) (hi:∀ C s H fp,VM (dS X N scope C s H fp) ifs c) (he:∀ C s H fp,gE (dS X N scope C s H fp) elt te)
  (I:I2 X pins σ H2 τ G2 s2) (m2:Mv X.K H G H2 G2) (T:Turn X.prog X.w X.K tg J fp it tn) (QB:tn 0 s2.heap) (f2:∀ b∈fp,ou X pins H2 b) (wk:TV X.K J H2 ds ok) (hz:ds.length<=SZ)
  (hE0:∀ ex G,¬ E ex G) (q:jb g c te ok ds E (zC m fr τ) G2 [] fun xs G3=>gL G3 (.lst xs) Q)
  (fin:∀ C s',CompEnd X pins σ H G Q C s2.heap.objs.size s'->Rr (.ref s2.heap.objs.size) C (.ok .next) s') :
  wpAny (model X.prog X.w) X.A (newList []) (fun acc Ng=>wpAny (model X.prog X.w) X.A (newFunctionEnv scope X.env.globals (gb X.env scope.names []) [] X.env.qual none .none (some X.env)) (fun XT KR =>
   Gv (model X.prog X.w) X.A (.compStart (.ListComp elt [⟨tg,iter,ifs,0⟩] scope pos) 0 (.ref it) acc { XT with scope:=Gs scope X.env }) (Rr acc XT.locals) KR) E0 Ng) E0 s2:=by
 have sz:bc=16777216:=cY;have vZ:H2 s2.heap.objs.size=none:=I.inv.cL.fresh (aI _);have Vo:G2 s2.heap.objs.size=none:=I.ab.free vZ;refine dB (wpAny_newFunctionEnv pU (by intro y hy; simp at hy) (fun qi O4 O1=>?_) Bo);dsimp only at O4 O1 ⊢;have I3:Inv X pins σ (upd H2 s2.heap.objs.size (.lst [])) { s2 with heap:=s2.heap.push { cls:=.type "list",data:=.seq ([]:List Value).toArray },toks:=s2.toks }:=I.inv.ZU (ys:=[]) .nil (cC _);generalize hs3:({ s2 with heap:=s2.heap.push { cls:=.type "list",data:=.seq ([]:List Value).toArray },toks:=s2.toks }:az)=s3 at I3;generalize XG:upd H2 s2.heap.objs.size (.lst [])=H3 at I3;have eH3:∀ b,b≠s2.heap.objs.size->H3 b=H2 b:=fun b hb=>by rw [<-XG,bQ hb]
 have E6:s3.heap=s2.heap.push { cls:=.type "list",data:=.seq ([]:List Value).toArray }:=by rw [<-hs3]
 have Ww:s3.heap.objs.size=s2.heap.objs.size+1:=by rw [E6,xg]
 have O8:∀ b∈fp,b < s2.heap.objs.size:=fun b hb=>by
  obtain⟨o,e,_⟩:=T.obj _ _ QB b hb;exact aS e
 have Xw:∀ b∈fp,ou X pins H3 b/\b < s3.heap.objs.size:=fun b hb=>by
  have hb2:=O8 b hb;obtain⟨f0,f1⟩:=f2 b hb;exact⟨⟨by rw [eH3 b (bK hb2)]; exact f0,f1⟩,bR hb2 (by rw [Ww]; exact GB _)⟩
 have Yn:(dS X N scope s3.heap.objs.size s3 H3 fp).Ok:=Vy I3 pU Bo pT (aI _) Xw;have TB:∀ b o,s3.heap.get? b=some o->qi.get? b=some o:=fun b o e=>by
  have hb:b < s3.heap.objs.size:=aS e;refine O1.extBut b o ?_ (aG _ ?_)
  ·rw [<-E6]; exact bK hb
  ·rw [<-E6]; exact e
 have aas:∃ mm,qi.Ns s3.heap.objs.size mm:=⟨_,by rw [E6]; exact O4⟩;have I4:=Sh (tk:=s3.toks+([]:List (Str×Value)).length) I3 Yn pU pT hN hfr aas TB;have Z0:Kp H2 H3:=by rw [<-XG]; exact .new vZ
 have TU:lZ X.K H3 G2:=by rw [<-XG]; exact(Mv.HP I.ab vZ).ab
 have mv3:Mv X.K H2 G2 H3 G2:=by rw [<-XG]; exact .HP I.ab vZ
 have Yh:QL X.K H3 (bg m none++fr.map fun i=>(σ[i]?).getD none) (zC m fr τ):=by
  refine⟨by unfold zC; rw [au,au,aq,aq,fE,fE],fun i d h2=>?_⟩;unfold zC at h2;by_cases hi:i < m
  ·rw [cV (by simpa using hi),lq] at h2;split at h2 <;> cases h2
  ·obtain⟨j,rfl⟩:∃ j,i=m+j:=⟨i - m,by lia⟩;rw [cD (by simp),fE,sW,bA] at h2;rw [cD (by simp),fE,sW,bA];cases hj:fr[j]? with
   | none=>rw [hj] at h2; cases h2
   | some k =>
    rw [hj] at h2;have Pf:(τ[k]?).getD none=some d:=by simpa using h2
    have Yy:τ[k]?=some (some d):=by
     cases qq:τ[k]? with
     | none=>rw [qq] at Pf; cases Pf
     | some o=>rw [qq] at Pf; simp at Pf; rw [Pf]
    obtain⟨v,e1,e2⟩:=I.st.at' k d Yy;exact⟨v,by simp [e1],e2.mono Z0⟩
 have hD3:H3 s2.heap.objs.size=some (.lst []):=by rw [<-XG,cc]
 have Wv:tn 0 qi:=T.keep _ _ _ QB fun b hb o e=>TB b o (by rw [E6]; exact aG _ e);have Nm:∀ {Hc:Hp},(∀ b∈fp,Hc b=none)->∀ b∈fp,ou (dS X N scope s3.heap.objs.size s3 H3 fp) [] Hc b:=fun hn b hb =>
  ⟨hn b hb,(Yn.YH b hb).1,Yn.PF b hb,.inl hb,fun x c e=>(Yn.YH b hb).2 x c e,fun p hp=>absurd hp (by simp)⟩
 have neD:∀ b∈fp,b≠s2.heap.objs.size:=fun b hb=>bK (O8 b hb);have loop:Gv (model X.prog X.w) X.A (.compLoop (.ListComp elt [⟨tg,iter,ifs,0⟩] scope pos) 0 (.ref it) (.ref s2.heap.objs.size) (dS X N scope s3.heap.objs.size s3 H3 fp).env) (Rr (.ref s2.heap.objs.size) s3.heap.objs.size)
   { s3 with heap:=qi,toks:=s3.toks+([]:List (Str×Value)).length }:=by
  refine C0 (fun n s'=>∃ i Qy Hc M0 Gc tS vn,I2 (dS X N scope s3.heap.objs.size s3 H3 fp) [] Qy Hc M0 Gc s'/\Gc s2.heap.objs.size=none/\Hc s2.heap.objs.size=some (.lst tS)/\br X.K Hc tS vn/\vn.length<=i/\Mv X.K H2 G2 Hc Gc/\tn i s'.heap/\(∀ b∈fp,Hc b=none) /\
   n=ds.length - i/\i<=ds.length/\jb g c te ok (ds.drop i) E M0 Gc vn fun xs G3=>gL G3 (.lst xs) Q) ?_ ds.length
   ⟨0,_,H3,_,G2,[],[],⟨I4,Yh,TU⟩,Vo,hD3,.nil,aI _,mv3,Wv,fun b hb=>by rw [eH3 b (neD b hb)]; exact(f2 b hb).1,rfl,cC _,q⟩
  rintro n s4 ⟨i,Qy,Hc,M0,Gc,tS,vn,Ic,gD,hD,rA,hA,mc,stc,frc,rfl,hle,wq⟩;have kpc:Kp H2 Hc:=mc.kp I.ab;by_cases za:i < ds.length
  ·rw [gT za] at wq;obtain⟨Zu,wq⟩:=wq;obtain⟨go,yl⟩:=(wk i Hc Gc kpc Ic.ab Zu).1 ds[i] (by simp [za]);refine gN (T.item (dS X N scope s3.heap.objs.size s3 H3 fp) rfl rfl rfl hc i [] s4 Qy Hc (fun _ _=>False) Ic.inv (Nm frc) stc go) ?_;rintro r s5 ⟨u,hr,h5⟩;subst hr;refine gN h5 ?_;rintro _ s6 ⟨x,H6,I6,r6,y6,Zb,fr6⟩;obtain⟨rd6,m6⟩:=yl x H6 y6;have I6':=I6.pinned (Nm fr6) (T.obj _ _ Zb);have J6:I2 (dS X N scope s3.heap.objs.size s3 H3 fp) ([]++qQ fp s6.heap) Qy H6 M0 Gc s6:=⟨I6',Ic.st.mono (m6.kp Ic.ab),m6.ab⟩;have back:∀ {Y1:L2.St} {H9:Hp} {Yb:ik} {G9:Gp} {s9:az} {aV:List V} {aD:List D},I2 (dS X N scope s3.heap.objs.size s3 H3 fp) ([]++qQ fp s6.heap) Y1 H9 Yb G9 s9->Mv X.K H2 G2 H9 G9->G9 s2.heap.objs.size=none->H9 s2.heap.objs.size=some (.lst aV)->br X.K H9 aV aD->aD.length<=i+1 ->
     (jb g c te ok (ds.drop (i+1)) E Yb G9 aD fun xs G3=>gL G3 (.lst xs) Q)->∃ mm,mm < ds.length - i/\∃ i Qy Hc M0 Gc tS vn,I2 (dS X N scope s3.heap.objs.size s3 H3 fp) [] Qy Hc M0 Gc s9/\Gc s2.heap.objs.size=none/\Hc s2.heap.objs.size=some (.lst tS)/\br X.K Hc tS vn/\vn.length<=i /\
      Mv X.K H2 G2 Hc Gc/\tn i s9.heap/\(∀ b∈fp,Hc b=none)/\mm=ds.length - i/\i<=ds.length/\jb g c te ok (ds.drop i) E M0 Gc vn fun xs G3=>gL G3 (.lst xs) Q:=fun {Y1 H9 Yb G9 s9 aV aD} I9 m9 g9 h9 r9 l9 n9=>by
    refine⟨ds.length - (i+1),by lia,i+1,Y1,H9,Yb,G9,aV,aD,⟨I9.inv.uf,I9.st,I9.ab⟩,g9,h9,r9,l9,m9,T.keep _ _ _ Zb fun b hb o e=>(I9.inv.pin (b,o) (df _ (df _ (pD hb e)))).1,fun b hb=>?_,rfl,za,n9⟩;obtain⟨o,e,d⟩:=T.obj _ _ Zb b hb;exact(I9.inv.pin (b,o) (df _ (df _ (pD hb e)))).2.1
   have mc6:=mc.trans m6;have hD6:=m6.keep _ _ hD gD;refine gN (hg _ _ _ _ E _ s6 Qy H6 M0 Gc x ds[i] u _ (Lk.none hE0) J6 r6 rd6 wq) ?_;rintro _ s7 ⟨Mz,H7,Mx,G7,I7,m7,q7⟩;have YD:=m7.keep _ _ hD6.1 gD;have mc7:=mc6.trans m7;have rA7:=rA.mono ((m6.trans m7).kp Ic.ab);have XO:∀ (H8:Hp) (G8:Gp) (s8:az),I2 (dS X N scope s3.heap.objs.size s3 H3 fp) ([]++qQ fp s6.heap) Mz H8 Mx G8 s8->Mv X.K H7 G7 H8 G8->(te E Mx G8 fun y G9=>jb g c te ok (ds.drop (i+1)) E Mx G9 (vn++[y]) fun xs G3=>gL G3 (.lst xs) Q) ->
     wpAny (model X.prog X.w) X.A (eval elt (dS X N scope s3.heap.objs.size s3 H3 fp).env) (fun y KR=>wpAny (model X.prog X.w) X.A (call (.builtin "list.append") [.ref s2.heap.objs.size,y]) (fun _ Nf=>∃ mm,mm < ds.length - i/\∃ i Qy Hc M0 Gc tS vn,I2 (dS X N scope s3.heap.objs.size s3 H3 fp) [] Qy Hc M0 Gc Nf/\Gc s2.heap.objs.size=none/\Hc s2.heap.objs.size=some (.lst tS)/\br X.K Hc tS vn/\vn.length<=i /\
      Mv X.K H2 G2 Hc Gc/\tn i Nf.heap/\(∀ b∈fp,Hc b=none)/\mm=ds.length - i/\i<=ds.length/\jb g c te ok (ds.drop i) E M0 Gc vn fun xs G3=>gL G3 (.lst xs) Q) (fun _ _=>False) KR) (fun _ _=>False) s8:=fun H8 G8 s8 I8 m8 q8=>by
    refine jx (he _ _ _ _) (Lk.none hE0) I8 q8 fun v H9 d9 G9 u9 s9 I9 m9 r9 rd9 q9=>?_;have ZT:=m8.trans m9;have YC:=ZT.keep _ _ YD.1 YD.2;have rA9:=rA7.mono (ZT.kp I7.ab);have mc9:=mc7.trans ZT;refine gN (Ba (X:=dS X N scope s3.heap.objs.size s3 H3 fp) _ s9 Mz H9 (.ref s2.heap.objs.size) [v] _ [u9] (fun _ H'=>H'=upd H9 s2.heap.objs.size (.lst (tS++[v]))) I9.inv rfl (.cons r9 .nil)
     ⟨_,tS,v,rfl,rfl,YC.1,by rw [rA.length,sz]; have:SZ=16777216:=rfl; lia,rfl⟩) ?_
    rintro _ s10 ⟨v10,H10,I10,_,e10⟩;subst e10;have ZZ:Kp H9 (upd H9 s2.heap.objs.size (.lst (tS++[v]))):=.putL YC.1;have abA:lZ X.K (upd H9 s2.heap.objs.size (.lst (tS++[v]))) G9:=fun a g' e=>by
     have ne:a≠s2.heap.objs.size:=by rintro rfl; rw [YC.2] at e; cases e
     exact(I9.ab a g' e).mono ZZ (bQ ne)
    have mA:Mv X.K H2 G2 (upd H9 s2.heap.objs.size (.lst (tS++[v]))) G9:=⟨fun a o e n=>by
      have ne:a≠s2.heap.objs.size:=dH e vZ;obtain⟨e1,e2⟩:=mc9.keep a o e n;exact⟨by rw [bQ ne]; exact e1,e2⟩,fun a n=>by
      by_cases ha:a=s2.heap.objs.size
      ·rw [ha,cc]; simp
      ·rw [bQ ha]; exact mc9.kQ a n,abA⟩
    exact back ⟨I10,I9.st.mono ZZ,abA⟩ mA YC.2 cc ((rA9.append (.cons rd9 .nil)).mono ZZ) (by rw [au,dg]; lia) q9
   cases hi s3.heap.objs.size s3 H3 fp with
   | none =>
    refine wpAny_tests_nil ?_;rw [if_pos rfl];exact XO H7 G7 s7 I7 (.refl I7.ab) q7
   | some XA =>
    refine wpAny_tests_one (Nd XA (Lk.none hE0) I7 q7 fun k H8 G8 s8 I8 m8 q8=>?_);cases k with
    | true =>
     rw [if_pos rfl] at q8 ⊢;exact XO H8 G8 s8 I8 m8 q8
    | false =>
     rw [if_neg i6] at q8 ⊢;have hD8:=m8.keep _ _ YD.1 YD.2;exact back I8 (mc7.trans m8) hD8.2 hD8.1 (rA7.mono (m8.kp I7.ab)) (by lia) q8
  ·have hn:ds.length<=i:=by lia
   rw [lL hn] at wq;obtain⟨Zu,qn⟩:=wq;have stop:=(wk i Hc Gc kpc Ic.ab Zu).2 hn;refine gN (T.done (dS X N scope s3.heap.objs.size s3 H3 fp) rfl rfl rfl hc i [] s4 Qy Hc (fun _ _=>False) Ic.inv (Nm frc) stc stop) ?_;rintro r s5 ⟨hr,I5⟩;subst hr;refine fin s3.heap.objs.size s5 ?_;obtain⟨mm,aat,_⟩:=I5.loc;have hC5:Hc s3.heap.objs.size=none:=I5.free;have I6:Inv X pins σ Hc s5:=by
    obtain⟨h5,g5,d5,t5,o5⟩:=s5;have eo:o5=s3.os:=I5.os;subst eo;exact I3.call (h':=h5) (g':=g5) (d':=d5) (t':=t5) (ch:=fp) I5.base I5.cL I5.bare fun b hb=>by
     obtain⟨⟨f0,f1,f2',f3,f4,f5⟩,hl⟩:=Xw b hb;exact⟨f3,f1,f4,f5⟩
   have mvF:Mv X.K H2 G2 Hc (dO Gc s2.heap.objs.size (.lst vn)):=⟨fun a o e n=>by
     have ne:a≠s2.heap.objs.size:=dH e vZ;obtain⟨e1,e2⟩:=mc.keep a o e n;exact⟨e1,by rw [cT ne]; exact e2⟩,mc.kQ,fun a g' e=>by
     by_cases ha:a=s2.heap.objs.size
     ·subst ha;rw [aA] at e;cases e;exact⟨tS,hD,rA⟩
     ·rw [cT ha] at e;exact Ic.ab a g' e⟩
   exact⟨mm,Hc,_,I6,aat,I3.CB (aI _) hC5,m2.trans mvF,qn _ gD⟩
 have all:Gv (model X.prog X.w) X.A (.compStart (.ListComp elt [⟨tg,iter,ifs,0⟩] scope pos) 0 (.ref it) (.ref s2.heap.objs.size) (dS X N scope s3.heap.objs.size s3 H3 fp).env) (Rr (.ref s2.heap.objs.size) s3.heap.objs.size)
   { s3 with heap:=qi,toks:=s3.toks+([]:List (Str×Value)).length }:=codeAny_compStart_list loop (T.self _ 0 _ _ _ Wv loop)
 subst hs3;exact all
end
end K2
end
section
namespace K2
open PySem PySem.Spec PyProof.Rows L2
section
variable {X:Cx} {N:List Str} {scope:Scope} {tg elt iter:Expr} {ifs:List Expr} {pos:Pos} {m:Nat} {fr:List Nat} {wi:MF} {g:Aa} {c:Option w9} {te:fY}
structure zU(X:Cx)(N:List Str)(scope:Scope)(m:Nat)(fr:List Nat):Prop where
 cell:∀ y∈scope.names,y.2≠.cell
 kind:scope.kind=.function
 names:∀ y∈scope.names,y.2=.local->scope.names.lookup y.1=some .local
 free:∀ y∈scope.names,y.2=.free->X.env.kindOf y.1=some .cell
 len:N.length=m+fr.length
 at':∀ j i x,fr[j]?=some i->N[m+j]?=some x->X.N[i]?=some x/\X.env.scope.names.lookup x=some .cell/\(Gs scope X.env).names.lookup x=some .cell
theorem zU.closed{X:Cx}{N:List Str}{scope:Scope}{m:Nat}{fr:List Nat}(k:zU X N scope m fr){pins:List (Addr×Obj)}{σ:L2.St}{H:Hp}{s:az}(I:Inv X pins σ H s):closureFor scope X.env=pure (gb X.env scope.names []) :=
 AI fun y hy hf=>I.ok.has _ (.inl (k.free y hy hf))
theorem Lh(hc:X.calm=true)(k:zU X N scope m fr)(hi:MH X tg iter wi)(hg:∀ C s H fp,Mc (dS X N scope C s H fp) tg g)(Ve:∀ C s H fp,VM (dS X N scope C s H fp) ifs c)(he:∀ C s H fp,gE (dS X N scope C s H fp) elt te)
  (hs:autoParam (∀ x,nT iter X.env x=pure x) Ai._auto_1):gE X (.ListComp elt [⟨tg,iter,ifs,0⟩] scope pos) (gW m fr wi g c te):=by
 intro E pins s σ H τ G Q hE I h;rw [eval_ListComp];refine wpAny_comprehension_free (use:=none) rfl hs (k.closed I.inv) k.kind k.names (gN (hi E pins s σ H τ G _ hE I h) fun xv fu qi=>gN qi fun To DV O0=>?_);obtain⟨it,fp,tn,J,H2,G2,ds,ok,e,nk,m2,T,QB,f2,wk,hz,q⟩:=O0;subst e;refine BE (Rr:=fun acc C=>compPost (model X.prog X.w) X.A X.xe none (tW X pins σ H G Q) acc C) hc k.cell k.kind k.free k.len k.at' hg Ve he (I.mv nk m2) m2 T QB f2 wk hz (fun _ _ z=>z) q ?_;rintro C s' ⟨mm,H',G',I',QH,fpC,mv,q'⟩;refine⟨mm,QH,fun h' Tt=>?_⟩;obtain⟨f0,f1,_,f3,f4,f5⟩:=fpC;exact⟨.ref _,H',.ref _,G',I'.turned (t':=s'.toks) (fun b o hb e=>Tt.extBut b o hb e) f0 f1 f3 f4 f5,mv,rfl,.ref _,q'⟩
theorem El{i:Nat}{y:Str}{py Nt:Pos}(hN:X.N.Nodup)(Z8:X.N[i]?=some y)(hy:X.env.scope.names.lookup y=some .local)(hc:X.calm=true)(k:zU X N scope m fr)(hi:MH X tg iter wi)(hg:∀ C s H fp,Mc (dS X N scope C s H fp) tg g)
  (Ve:∀ C s H fp,VM (dS X N scope C s H fp) ifs c) (he:∀ C s H fp,gE (dS X N scope C s H fp) elt te) (hsw:autoParam (MN (.ListComp elt [⟨tg,iter,ifs,0⟩] scope pos) (some (.Name y py)) Nt.line X.env=pure true) Ar._auto_1)
  (hs:autoParam (∀ x,nT iter X.env x=pure x) Ai._auto_1):II X (.Assign [.Name y py] (.ListComp elt [⟨tg,iter,ifs,0⟩] scope pos) Nt) (bL (gW m fr wi g c te) (aN i)):=by
 intro E pins s σ H τ G D hE I h;rw [exec_Assign_Name_used _ _ _ _ hsw];refine ag (DA (ag ?_));show wpAny _ X.A (do let _ ← comprehension (.ListComp elt [⟨tg,iter,ifs,0⟩] scope pos) scope X.env _ (newList []) false (eval iter X.env) (some (IT (.Name y py) X.env))) _ _ s;refine ag (gN (wpAny_comprehension_free (use:=some (IT (.Name y py) X.env)) (Q:=fun _ s'=>VJ X pins H G D .next s') rfl hs (k.closed I.inv) k.kind k.names (gN (hi E pins s σ H τ G _ hE I h) fun xv fu qi=>gN qi fun To DV O0=>?_)) fun _ s' hq=>aC (aC hq));obtain⟨it,fp,tn,J,H2,G2,ds,ok,e,nk,m2,T,QB,f2,wk,hz,q⟩:=O0;subst e;refine BE (Rr:=fun acc C=>compPost (model X.prog X.w) X.A X.xe (some (IT (.Name y py) X.env)) (fun _ s'=>VJ X pins H G D .next s') acc C) hc k.cell k.kind k.free k.len k.at' hg Ve he (I.mv nk m2) m2 T QB f2 wk hz (fun _ _ z=>z) q ?_;rintro C s' ⟨mm,H',G',I',QH,fpC,mv,q'⟩;show wpAny (model X.prog X.w) X.A (IT (.Name y py) X.env (.ref DV.heap.objs.size)) _ X.xe s';obtain⟨f0,f1,_,f3,f4,f5⟩:=fpC;refine wpAny_assign_Name (AU (v:=.ref DV.heap.objs.size) I' hN Z8 (.inl hy) rfl (?_) (.inr hy));rintro s3 I3 ⟨a,hsb,ha⟩;have hCa:C≠a:=by
  rcases ha with rfl | ha
  ·exact f1
  ·exact fun e=>f4 y a ha e.symm
 refine⟨mm,QH.sameBut hsb hCa,fun h' Tt=>?_⟩;exact⟨_,H',_,G',⟨I3.turned (t':=s3.toks) (fun b o hb e=>Tt.extBut b o hb e) f0 f1 f3 f4 f5,(I.st.mono (mv.kp I.ab)).set i (.ref _),mv.ab⟩,mv,q'⟩
theorem cQ{i:Nat}{u:Df}{n:Nat}(h:∀ E ds τ G Q,u E ds τ G Q->ds.length=n):∀ E ds τ G Q,dJ (aN i) u E ds τ G Q->ds.length=n+1 :=
 LQ h (fun _ _ _ _ _ _ q k=>k _ _ q) fun _ _ _ _ q=>q
theorem bG (i:Nat) {x:Str} {pos:Pos} (hN:autoParam (X.N[i]?=some x) Ar._auto_1) (hv:autoParam (YJ X.env.scope x) Ao._auto_1) (hd:autoParam ((x == ("__debug__" : Str))=false) Ad._auto_1)
  (J2:autoParam ((x == ("__classdict__" : Str))=false) Ad._auto_1):gE X (.Name x pos) (ax i):=Rq hN hv hd J2
theorem UD{body:List Stmt}{t2:iF}(h:zL X body t2){E:lX}(hE:Lk X E):Wb X body (fun D σ H=>∃ (τ:ik) (G:Gp) (D2:lH),QL X.K H σ τ/\lZ X.K H G/\t2 E D2 τ G /\
  (∀ jB H' qf G',Mv X.K H G H' G'->D2.nx qf G'->D.nx jB H')/\(∀ v H' d G',Mv X.K H G H' G'->cw X.K H' v d->D2.rt d G'->D.rt v H')/\(∀ τ G,¬ D2.bk τ G)/\(∀ τ G,¬ D2.ct τ G)):=by
 rintro pins s σ H D I ⟨τ,G,D2,st,ab,q,k1,k2,k3,k4⟩;refine gN (h E pins s σ H τ G D2 hE ⟨I,st,ab⟩ q) fun f s1 z=>?_;cases f with
 | next=>obtain⟨jB,H',qf,G',J,mv,z⟩:=z; exact⟨jB,H',J.inv,k1 jB H' qf G' mv z⟩
 | brk=>obtain⟨jB,H',qf,G',J,mv,z⟩:=z; exact(k3 _ _ z).elim
 | cont=>obtain⟨jB,H',qf,G',J,mv,z⟩:=z; exact(k4 _ _ z).elim
 | ret u=>obtain⟨v,jB,H',d,G',J,mv,r,rd,z⟩:=z; exact⟨v,jB,H',J,r,k2 v H' d G' mv rd z⟩
theorem Np{K:ai}{H:Hp}{Nn:List Str}{vs:List V}{ds:List D}(r:br K H vs ds):QL K H (L2.start Nn vs) (bE Nn.length ds):=by
 unfold L2.start bE;refine⟨by simp [r.length],fun i d h=>?_⟩;by_cases hi:i < ds.length
 ·rw [cV (by simpa using hi),bA] at h;cases hd:ds[i]? with
  | none=>rw [hd] at h; cases h
  | some d' =>
   rw [hd] at h;have e:d'=d:=by simpa using h
   subst e;obtain⟨v,h1,h2⟩:=r.get hd;refine⟨v,?_,h2⟩;rw [cV (by simpa [r.length] using hi),bA,h1]; rfl
 ·rw [cD (by simpa using hi),lq] at h;split at h <;> cases h
theorem RZ{P:bM}{w:World}{K:ai}{mg:Str->Option Value}{base:Heap}{x qual:Str}{st:Stmt}{f:Addr}{fd:aJ}{Nn ps:List Str}{k:Nat}{sp:nQ}{rd:iF}(F:o3 K x qual st f fd)(S:cF Nn ps (bo st))(len:∀ ds G Q E,sp ds G Q E->ds.length=ps.length)
  (hr:∀ ds G Q,sp ds G Q (fun _ _=>False)->rd (fun _ _=>False) (ends Q) (bE Nn.length ds) G)
  (hb:∀ (oZ:Value) (A:dD) (outer:List Env) (s:az) (H:Hp) (E:XK),mY k (A.deeper (DE qual (bo st) s.heap.objs.size f oZ))->zL (FC gu P w K mg base Nn qual (bo st) f oZ A outer s H E).VY (j6 st) rd):gq P w K mg base gu (k+1) f fd ps (cS K sp):=by
 refine F.ok S ((by rintro vs H Q E ⟨ds,G,Q2,r,ab,q,_⟩; exact by rw [r.length]; exact len _ _ _ _ q)) ?_;rintro oZ A outer s H vs Q E Xh ⟨ds,G,Q2,r,ab,q,kk⟩;refine⟨_,UD (hb oZ A outer s H E Xh) (E:=fun _ _=>False) (Lk.none fun _ _ z=>z),?_⟩;exact⟨bE Nn.length ds,G,ends Q2,Np r,ab,hr ds G Q2 q,fun jB H' qf G' mv z=>kk _ _ _ _ z mv .eU,fun v H' d G' mv Zj z=>kk _ _ _ _ z mv Zj,fun _ _ z=>z,fun _ _ z=>z⟩
noncomputable def Zi(scope sc:Scope):List (Str×sJ):=scope.names.map fun (n,k)=>if (k == .free&&sc.kind == .function&&sc.names.lookup n == some .cell) then (n,.cell) else (n,k)
noncomputable def xV(N:List Str)(scope:Scope)(m:Nat)(fr:List Nat)(sc:Scope)(XN:List Str):Bool :=
 scope.names.all (fun y=>decide (y.2≠.cell))&&decide (scope.kind=.function)&&scope.names.all (fun y=>!decide (y.2=.local)||decide (scope.names.lookup y.1=some .local)) &&
 scope.names.all (fun y=>!decide (y.2=.free)||decide (sc.names.lookup y.1=some .cell))&&decide (N.length=m+fr.length) &&
 (fK fr.length).all (fun j=>match fr[j]?,N[m+j]? with
  | some i,some x=>decide (XN[i]?=some x)&&decide (sc.names.lookup x=some .cell)&&decide ((Zi scope sc).lookup x=some .cell)
  | _,_=>false)
theorem BF{sc:Scope}{XN:List Str}(Xg:X.env.scope=sc)(XD:X.N=XN)(hb:xV N scope m fr sc XN=true):zU X N scope m fr:=by
 subst Xg XD;unfold xV at hb;simp only [aK] at hb;obtain⟨⟨⟨⟨⟨h1,h2⟩,h3⟩,h4⟩,h5⟩,h6⟩:=hb;refine⟨fun y hy=>of_decide_eq_true (List.all_eq_true.mp h1 y hy),of_decide_eq_true h2,fun y hy hl=>?_,fun y hy hl=>?_,of_decide_eq_true h5,fun j i x e1 e2=>?_⟩
 ·have:=List.all_eq_true.mp h3 y hy;simp only [hl,decide_true,cb,Mu] at this;exact of_decide_eq_true this
 ·have:=List.all_eq_true.mp h4 y hy;simp only [hl,decide_true,cb,Mu] at this;exact of_decide_eq_true this
 ·have hj:j < fr.length:=(List.getElem?_eq_some_iff.mp e1).1;have:=List.all_eq_true.mp h6 j (List.mem_range.mpr hj);rw [e1,e2] at this;simp only [aK] at this;exact⟨of_decide_eq_true this.1.1,of_decide_eq_true this.1.2,of_decide_eq_true this.2⟩
theorem oK(N:List Str){sc:Scope}{XN:List Str}(hi:MH X tg iter wi)(hg:∀ C s H fp,Mc (dS X N scope C s H fp) tg g)(Ve:∀ C s H fp,VM (dS X N scope C s H fp) ifs c)(he:∀ C s H fp,gE (dS X N scope C s H fp) elt te)
  (Xg:autoParam (X.env.scope=sc) Ar._auto_1) (XD:autoParam (X.N=XN) Ar._auto_1) (hb:autoParam (xV N scope m fr sc XN=true) Ak._auto_1) (hc:autoParam (X.calm=true) Ar._auto_1) (hs:autoParam (∀ x,nT iter X.env x=pure x) Ai._auto_1):gE X (.ListComp elt [⟨tg,iter,ifs,0⟩] scope pos) (gW m fr wi g c te) :=
 Lh hc (BF Xg XD hb) hi hg Ve he hs
theorem yF(N:List Str){sc:Scope}{XN:List Str}{i:Nat}{y:Str}{py Nt:Pos}(hN:X.N.Nodup)(Z8:X.N[i]?=some y)(hy:X.env.scope.names.lookup y=some .local)(hi:MH X tg iter wi)(hg:∀ C s H fp,Mc (dS X N scope C s H fp) tg g)
  (Ve:∀ C s H fp,VM (dS X N scope C s H fp) ifs c) (he:∀ C s H fp,gE (dS X N scope C s H fp) elt te) (Xg:autoParam (X.env.scope=sc) Ar._auto_1) (XD:autoParam (X.N=XN) Ar._auto_1) (hb:autoParam (xV N scope m fr sc XN=true) Ak._auto_1) (hc:autoParam (X.calm=true) Ar._auto_1)
  (hsw:autoParam (MN (.ListComp elt [⟨tg,iter,ifs,0⟩] scope pos) (some (.Name y py)) Nt.line X.env=pure true) Ar._auto_1) (hs:autoParam (∀ x,nT iter X.env x=pure x) Ai._auto_1) :
  II X (.Assign [.Name y py] (.ListComp elt [⟨tg,iter,ifs,0⟩] scope pos) Nt) (bL (gW m fr wi g c te) (aN i)) :=
 El hN Z8 hy hc (BF Xg XD hb) hi hg Ve he hsw hs
theorem Lu{K:ai}{H:Hp}{a:Addr}{ns:List Int}(hO:SG H)(hS:rz K H a (ns.map V.int))(hl:ns.length<=63):cS K AV [.ref a] H (fun v _=>v=.bl true) fun _ _ _=>False:=by
 have hF:Wa K H a (ns.map V.int):=by
  rcases hS with (h | ⟨o,h⟩) | h
  ·rcases hO a with z | ⟨o,xs,z⟩
   ·rw [z] at h; cases h
   ·rw [z] at h; cases h
  ·exact .inl ⟨o,h⟩
  ·exact .inr h
 refine⟨[.dP (ns.map D.int)],fun _=>none,fun d _=>d=.bl true,.cons (.dP hF (br.JJ ns)) .nil,fun a g e=>(by cases e),⟨ns,rfl,hl,fun _=>rfl,fun _=>rfl⟩,fun d G' v H' e mv r=>?_⟩;subst e;cases r;rfl
theorem OC{l:BQ}{q:bM}{loose:List Str}{XP:(Str->Option Value)->Heap->Prop}{YP:World->Heap->Prop}{d:DefRec}{K:Params->ai}{k:Nat}{x:Str}(hn:l.most=some 63)(Xy:d.params.defaults=[])(hr:mY k Gw)
  (hY:∀ (w:World) (h:Heap),YP w h->(K w.params).In h)
  (F:∀ (w:World) (mg:Str->Option Value) (fa:Addr) (h:Heap),(K w.params).In h->h.Ns bP mg->mg d.name=some (.ref fa) ->
   ∃ fd:aJ,(∀ (s:az) (u:Value),MY s fd ⟨[u],[]⟩ [(x,u)])/\∀ base:Heap,(K w.params).In base->base.Ns bP mg->gq l.prog w (K w.params) mg base gu k fa fd [x] (cS (K w.params) AV)) :
  PySem.W.WalkO q loose XP YP l.row.toRowW d [] (fun f vs=>IV f vs) :=
 L2.QX (n:=63) (k:=k) (x:=x) (CX:=fun _=>gu) (sp:=fun w=>cS (K w.params) AV) hn (by decide) Xy hr hY F (fun _ _ _ _ hl hO hS=>Lu hO hS hl) fun _ _ _ _ _ z=>z
end
end K2
end
section
namespace K2
open PySem PySem.Spec PyProof.Rows L2
noncomputable def P7:HO->Bool
 | .lst _=>true
 | .dK _=>true
 | .dT _=>true
 | .ext _=>true
 | _=>false
noncomputable def oS(h:Heap)(S:Addr->Bool)(H:Hp):Hp:=fun a=>match H a with
 | some u=>if (P7 u&&S a)=true then (match h.get? a with
  | some o=>some (.jL o u)
  | none=>some u) else some u
 | none=>none
section
variable {h:Heap} {S:Addr->Bool} {H:Hp} {a:Addr}
theorem HV(n:∀ u,H a=some u->P7 u=false):oS h S H a=H a:=by
 unfold oS;cases e:H a with
 | none=>rfl
 | some u=>simp only [n u e,Jb,aw,if_false]
theorem zh(hs:S a=false):oS h S H a=H a:=by
 unfold oS;cases e:H a with
 | none=>rfl
 | some u=>simp only [hs,Jc,aw,if_false]
theorem u0{u:HO}{o:Obj}(hs:S a=true)(e:H a=some u)(hu:P7 u=true)(ho:h.get? a=some o):oS h S H a=some (.jL o u):=by
 unfold oS;simp only [e,hs,hu,Bool.and_self,if_true,ho]
theorem oR(e:H a=none):oS h S H a=none:=by unfold oS; rw [e]
theorem lT{u:HO}(e:H a=some u)(hu:P7 u=false):oS h S H a=some u:=by rw [HV (fun v z=>by rw [e] at z; cases z; exact hu)]; exact e
theorem rS:Kp H (oS h S H):=⟨fun a xs e=>lT e rfl,fun a o u e=>lT e rfl⟩
end
section
variable {X:Cx} {pins:List (Addr×Obj)} {σ:L2.St} {H:Hp} {s:az} {G:Gp}
theorem Inv.freeze(I : Inv X pins σ H s)(S : Addr -> Bool) : Inv X pins σ (oS s.heap S H) s where
  ok := I.ok
  os := I.os
  bare := I.bare
  base := { keep := I.base.keep, slot := I.base.slot, there := I.base.there
            free := fun b o q n hx => oR (I.base.free b o q n hx)
            Ah := fun b xs q => lT (I.base.Ah b xs q) rfl
            zg := fun b o u q => lT (I.base.zg b o u q) rfl
            Am := fun b ps q => lT (I.base.Am b ps q) rfl
            As := fun b x q => lT (I.base.As b x q) rfl }
  loc := I.loc
  cell := I.cell
  free := oR I.free
  pV := fun x c e => oR (I.pV x c e)
  pin := fun p hp => let ⟨h1, h2, h3⟩ := I.pin p hp; ⟨h1, oR h2, h3⟩
  cL := fun a o q => by
    have st : ∀ u, H a = some u -> fV X.prog X.w (oS s.heap S H) s.heap a u := fun u e =>
      (I.cL a u e).kQ (fun b v _ r => r) (fun b r => lT r rfl) (fun b xs r => lT r rfl)
    cases e : H a with
    | none => rw [oR e] at q; cases q
    | some u =>
      by_cases hc : P7 u = true
      · by_cases hs : S a = true
        · obtain⟨ob, ho⟩ := mj (I.cL a _ e)
          rw [u0 hs e hc ho] at q;cases q;exact⟨ho, st _ e⟩
        · rw [zh (by simpa using hs), e] at q
          cases q;exact st _ e
      · rw [lT e (by simpa using hc)] at q
        cases q;exact st _ e
  len := I.len
noncomputable def oB(R:Nat->Bool)(G:Gp):Addr->Bool:=fun a=>R a&&(G a).isSome
theorem Bv(I:Inv X pins σ H s)(ab:lZ X.K H G)(R:Nat->Bool):Mv X.K H G (oS s.heap (oB R G) H) (AE R G) where
 keep:=fun a o e n=>by
  refine⟨by rw [zh (by simp [oB,n])]; exact e,?_⟩;unfold AE; split
  ·rfl
  ·exact n
 kQ:=fun a n=>by
  cases q:G a with
  | none=>exact absurd q n
  | some g =>
   have t:=(ab a g q).tracked;cases e:H a with
   | none=>exact absurd e t
   | some u =>
    unfold oS;rw [e];dsimp only;split
    ·split <;> simp
    ·simp
 ab:=fun a g e=>by
  unfold AE at e;split at e
  ·cases e
  ·rename_i hr;exact(ab a g e).mono rS (zh (by simp [oB,hr]))
theorem Pj(I:Inv X pins σ H s)(ab:lZ X.K H G){R:Nat->Bool}:∀ {d t:D} {v:V},Fz G R d t->cw X.K H v d->cw X.K (oS s.heap (oB R G) H) v t:=by
 intro d t v h;revert v;refine Fz.rec (motive_1:=fun d t _=>∀ {v:V},cw X.K H v d->cw X.K (oS s.heap (oB R G) H) v t)
  (motive_2:=fun ds ts _=>∀ {vs:List V},br X.K H vs ds->br X.K (oS s.heap (oB R G) H) vs ts)
  (motive_3:=fun ds ts _=>(∀ {vs:List (Key×V)},mw X.K H vs ds->mw X.K (oS s.heap (oB R G) H) vs ts)/\∀ {vs:List (List Key×V)},lY X.K H vs ds->lY X.K (oS s.heap (oB R G) H) vs ts)
  ?_ ?_ ?_ ?_ ?_ ?_ ?_ ?_ ?_ ?_ h
 ·intro d v r; exact r.mono rS
 ·intro ds ss _ ih v r;cases r with
  | tup h rs=>exact .tup (rS.tup _ _ h) (ih rs)
 ·intro ds ss _ ih v r;cases r with
  | dP h rs=>exact .dP (rS.VT h) (ih rs)
 ·intro a ds ss g hr _ ih v r;cases r;obtain⟨vs,hv,rs⟩:=ab a _ g;obtain⟨ob,ho⟩:=mj (I.cL a _ hv);exact .dP (.inl ⟨_,u0 (by simp [oB,hr,g]) hv rfl ho⟩) (ih rs)
 ·intro a ds ss g hr _ ih v r;cases r;rcases ab a _ g with ⟨kv,hv,rs⟩ | ⟨kv,hv,rs⟩
  ·obtain⟨ob,ho⟩:=mj (I.cL a _ hv);exact .qh (u0 (by simp [oB,hr,g]) hv rfl ho) (ih.1 rs)
  ·obtain⟨ob,ho⟩:=mj (I.cL a _ hv);exact .qg (u0 (by simp [oB,hr,g]) hv rfl ho) (ih.2 rs)
 ·intro a kvs Te g hr _ ek ih v r;cases r;obtain⟨xs,ks,vs,hv,rel,r1,r2⟩:=ab a _ g;obtain⟨ob,ho⟩:=mj (I.cL a _ hv);have e2:(Te.map fun p=>pP p.1)=kvs.map fun p=>pP p.1:=by
   have:=congrArg (List.map pP) ek;rw [aW,aW] at this;exact this.symm
  exact .oX (u0 (by simp [oB,hr,g]) hv rfl ho) ⟨ek.symm.trans rel.1,rel.2⟩ (by rw [e2]; exact r1.mono rS) (ih r2)
 ·intro vs r; cases r; exact .nil
 ·intro d s ds ss _ _ i1 i2 vs r;cases r with
  | cons r rs=>exact .cons (i1 r) (i2 rs)
 ·exact⟨fun r=>by cases r; exact .nil,fun r=>by cases r; exact .nil⟩
 ·intro k d s ds ss _ _ i1 i2;exact⟨fun r=>by cases r with | cons r rs=>exact .cons (i1 r) (i2.1 rs),fun r=>by cases r with | cons r rs=>exact .cons (i1 r) (i2.2 rs)⟩
variable {e:Expr} {te:fY} {st:Stmt} {t:iF}
theorem aZ(he:gE X e te):gE X e (c8 te):=by
 intro E pins s σ H τ G Q hE I h;refine gN (he E pins s σ H τ G _ hE I h) ?_;rintro u s1 ⟨v,H1,d,G1,I1,m,r,rd,R,t,hf,q⟩;exact⟨v,_,t,_,Inv.freeze I1 _,m.trans (Bv I1 m.ab R),r,Pj I1 m.ab hf rd,q⟩
theorem B9{i:Nat}(h1:II X st t):II X st (Iw i t):=by
 intro E pins s σ H τ G D hE I h;refine gN (h1 E pins s σ H τ G _ hE I h) fun f s1 z=>?_;cases f with
 | next =>
  obtain⟨jB,H',qf,G',I',m,q⟩:=z;simp only at q;split at q
  ·rename_i d hd;obtain⟨R,t,hf,q⟩:=q;obtain⟨v,hv,rv⟩:=I'.st.at' i d hd;have a1:=(I'.st.mono (H':=oS s1.heap (oB R G') H') rS).set i (Pj I'.inv I'.ab hf rv);have es:jB.set i (some v)=jB:=by
    have hi:i < jB.length:=(List.getElem?_eq_some_iff.mp hv).1;have e2:=(List.getElem?_eq_some_iff.mp hv).2;rw [<-e2]; exact vq hi
   rw [es] at a1;have m2:=Bv I'.inv I'.ab R;exact⟨jB,_,_,_,⟨Inv.freeze I'.inv _,a1,m2.ab⟩,m.trans m2,q⟩
  ·exact q.elim
 | ret v=>exact z
 | brk=>exact z
 | cont=>exact z
end
end K2
end
section
namespace K2
open PySem PySem.Spec PyProof.Rows L2
theorem zG:eB "len" = some (.builtin "len"):=by decide +kernel
theorem VE:eB "sum" = some (.builtin "sum"):=by decide +kernel
theorem BG:eB "sorted" = some (.builtin "sorted"):=by decide +kernel
theorem Ko:eB "list" = some (.type "list"):=by decide +kernel
theorem Qd:eB "tuple" = some (.type "tuple"):=by decide +kernel
theorem C4:eB "dict" = some (.type "dict"):=by decide +kernel
theorem VF:eB "int" = some (.type "int"):=by decide +kernel
theorem Ss:eB "bool" = some (.type "bool"):=by decide +kernel
section
variable {X:Cx} {a b c e o:Expr} {es:List Expr} {ta tb tc te to:fY} {t:IH} {pos p p2 apos jJ:Pos} {x name:Str} {id T:String} {k:Nat} {f:Addr} {fd:aJ} {ps:List Str} {sp:nQ}
theorem aT(F:gq X.prog X.w X.K X.mg X.base gu k f fd ps (cS X.K sp))(hr:mY k X.A)(hg:Gl X x)(hm:X.mg x=some (.ref f))(hk:lE X.K (.ref f)=true)(hb:Binds X.K fd ps [])
  (ha:Md X (e :: es) t) (LN:autoParam ((x == ("__debug__" : Str))=false) Ad._auto_1) (he:autoParam (cK (e :: es) X.env=(false,eval e X.env) :: cK es X.env) Ar._auto_1) (HN:autoParam ((oy pos (cK es X.env)).any (·.1)=false) Ar._auto_1) :
  gE X (.Call (.Name x p) (e :: es) [] pos) (bH sp t):=N9 F hr hg hm hk hb ha LN he HN
end
end K2
end
section
namespace L2
open PySem PySem.Spec PyProof.Rows
section
variable {X:Cx} {pins:List (Addr×Obj)} {σ:St} {H:Hp} {s:az} {h':Heap}
theorem Inv.xC{t':Nat}{fp:List Addr}(I:Inv X pins σ H s)(hf:∀ b∈fp,ou X pins H b)(k:∀ b o,b∉fp->s.heap.get? b=some o->h'.get? b=some o):Inv X pins σ H { s with heap:=h',toks:=t' }:=by
 have nt:∀ b u,H b=some u->b∉fp:=fun b u e z=>by rw [(hf b z).1] at e; cases e
 refine I.step (g':=s.gens) (d':=s.drawn) (ch:=fp) (fun b hb=>?_) (fun b o _ _ hc e _=>k b o hc e) (fun b o _ _ hc e _=>⟨o.slots,k b o hc e⟩) (fun _ _ _ _ n=>n)
  (fun b o hc e=>⟨o,k b o hc e⟩) (fun _ _ e=>e) (fun _ _ _ e=>e) (fun _ _ e=>e) (fun _ _ e=>e) (fun m hm=>?_) (fun b u e=>?_) I.bare
 ·obtain⟨f0,f1,f2,f3,f4,f5⟩:=hf b hb;exact⟨f3,f1,f4,f5⟩
 ·obtain⟨o,es,ep,ho,r⟩:=hm;exact⟨o,es,ep,k _ _ (fun z=>(hf _ z).2.1 rfl) ho,r⟩
 ·refine(I.cL b u e).kQ (fun c v hc r=>k c v ?_ r) (fun _ z=>z) (fun _ _ z=>z);rcases hc with rfl | hc
  ·exact nt _ _ e
  ·exact nt _ _ hc
theorem Inv.BY{t':Nat}{fp:List Addr}{T:Addr}{vs:List V}(I:Inv X pins σ H s)(hf:∀ b∈fp,ou X pins H b)(k:∀ b o,b∉fp->s.heap.get? b=some o->h'.get? b=some o)(hT:s.heap.objs.size<=T)
  (new:fV X.prog X.w (upd H T (.tup vs)) h' T (.tup vs)):Inv X pins σ (upd H T (.tup vs)) { s with heap:=h',toks:=t' }:=by
 have hn:H T=none:=I.cL.fresh hT;have ht:∀ b o,s.heap.get? b=some o->b≠T:=fun b o e z=>by subst z; exact absurd (aS e) (Nat.not_lt.mpr hT)
 have nt:∀ b u,H b=some u->b∉fp:=fun b u e z=>by rw [(hf b z).1] at e; cases e
 have ne:∀ b u,H b=some u->b≠T:=fun b u e=>dH e hn;refine I.step (g':=s.gens) (d':=s.drawn) (ch:=fp) (fun b hb=>?_) (fun b o _ _ hc e _=>k b o hc e) (fun b o _ _ hc e _=>⟨o.slots,k b o hc e⟩) (fun b o _ e n=>by rw [bQ (ht b o e)]; exact n)
  (fun b o hc e=>⟨o,k b o hc e⟩) (fun b xs e=>by rw [bQ (ne _ _ e)]; exact e) (fun b o u e=>by rw [bQ (ne _ _ e)]; exact e) (fun b ps e=>by rw [bQ (ne _ _ e)]; exact e) (fun b ps e=>by rw [bQ (ne _ _ e)]; exact e) (fun m hm=>?_) (fun b u e=>?_) I.bare
 ·obtain⟨f0,f1,f2,f3,f4,f5⟩:=hf b hb;exact⟨f3,f1,f4,f5⟩
 ·obtain⟨o,es,ep,ho,r⟩:=hm;exact⟨o,es,ep,k _ _ (fun z=>(hf _ z).2.1 rfl) ho,r⟩
 ·by_cases hb:b=T
  ·subst hb; rw [cc] at e; cases e; exact new
  ·rw [bQ hb] at e;refine(I.cL b u e).kQ (fun c v hc r=>k c v ?_ r) (fun c z=>by rw [bQ (ne _ _ z)]; exact z) (fun c xs z=>by rw [bQ (ne _ _ z)]; exact z);rcases hc with rfl | hc
   ·exact nt _ _ e
   ·exact nt _ _ hc
theorem ou.upd{b T:Addr}{o:HO}(h:ou X pins H b)(hb:b≠T):ou X pins (L2.upd H T o) b:=by
 obtain⟨f0,r⟩:=h;exact⟨by rw [bQ hb]; exact f0,r⟩
end
end L2
namespace K2
open PySem PySem.Spec PyProof.Rows L2
section
variable {X:Cx} {elts:List Expr} {kk:Nat} {DT:Pos} {a b:Expr} {ta tb:fY} {pos p:Pos}
theorem VD:eB "zip" = some (.type "zip"):=by decide +kernel
end
end K2
end
section
namespace K2
open PySem PySem.Spec PyProof.Rows L2
section
variable {X:Cx} {o i a b:Expr} {to ti ta tb:fY} {pos p:Pos}
theorem j3(hu:X.A.units+64 < cLine)(ho:gE X o to)(hi:gE X i ti)
  (ha:autoParam (∀ v,IT (.Subscript o i pos) X.env v=(do
   let ov ← MQ [v] (eval o X.env)
   let iv ← MQ [v,ov] (eval i X.env)
   standAt pos
   MQ [v,ov,iv] (setItem ov iv v)
   release [v,ov,iv] [])) Ai._auto_1):Mc X (.Subscript o i pos) (kW to ti):=by
 intro E pins s σ H τ G w d u Q hE I r rd h;rw [ha];refine ag (eM (jx ho hE I h fun x H1 dx G1 ov s1 I1 m1 r1 jt q1=>?_));refine ag (eM (jx hi hE I1 q1 fun y H2 dy G2 iv s2 nk m2 r2 yB q2=>?_));refine ag (DA (ag (eM ?_)));have Gg:=m1.trans m2;have VU:=rd.mono (Gg.kp I.ab);have Gf:=I.st.mono (Gg.kp I.ab);have Zf:=jt.mono (m2.kp I1.ab);unfold wD at q2;split at q2
 ·rename_i l;cases Zf;cases r1;split at q2
  ·rename_i xs hg;obtain⟨vs,hv,rs⟩:=nk.ab.lst hg;split at q2
   ·rename_i k;cases yB;split at q2
    ·rename_i j hj;have m3:Mv X.K H2 G2 (upd H2 l (.lst (vs.set j w))) (dO G2 l (.lst (xs.set j d))):=.putL nk.ab hg hv (rs.set VU j);refine gN (set_list pins s2 σ H2 (.ref l) (.int k) w _ _ _ (fun H3=>H3=upd H2 l (.lst (vs.set j w))) nk.inv rfl r2 r ⟨l,vs,k,j,rfl,rfl,hv,?_,rfl⟩) ?_
     ·rw [rs.length]; exact hj
     ·rintro _ s3 ⟨H3,I3,e3⟩;subst e3;exact wpAny_release ⟨σ,_,τ,_,⟨I3,Gf.mono (m3.kp nk.ab),m3.ab⟩,Gg.trans m3,q2⟩
    ·exact q2.elim
   ·exact q2.elim
  ·rename_i kvs hg;obtain⟨hk,hz,q⟩:=q2;obtain⟨H3,H4,I3,dp,m3⟩:=PO nk.inv nk.ab hg hk hz yB VU;exact L3 (by lia) I3 dp r2 r fun s4 I4=>wpAny_release ⟨σ,H4,τ,_,⟨I4,Gf.mono (m3.kp nk.ab),m3.ab⟩,Gg.trans m3,q⟩
  ·exact q2.elim
 ·exact q2.elim
end
end K2
end
section
namespace L2
open PySem PySem.Spec PyProof.Rows
theorem uh{X:Cx}{pins:List (Addr×Obj)}{σ:St}{H:Hp}{s:az}{l b:Addr}{xs:List V}(I:Inv X pins σ H s)(hq:rz X.K H l xs)(hf:ou X pins H b):l≠b:=by
 rintro rfl;obtain⟨f0,f1,f2,f3,f4,f5⟩:=hf;rcases hq with (h | ⟨o,h⟩) | ⟨o,bW,n,h,_⟩
 ·rw [f0] at h; cases h
 ·rw [f0] at h; cases h
 ·have hb:=I.ok.mod.Ys _ _ h;rcases f3 with f3 | f3
  ·exact I.ok.Ll _ _ hb f3
  ·exact absurd (aS (I.ok.bs _ _ hb).1) (Nat.not_lt.mpr f3)
noncomputable def Itz(K:ai)(a b:Addr):It :=
  ⟨fun i H=>∃ xs x ys y,rz K H a xs/\xs[i]?=some x/\rz K H b ys/\ys[i]?=some y,
   fun i H v H'=>∃ T x y,v=.ref T/\H T=none/\H'=upd H T (.tup [x,y])/\(∀ xs,rz K H a xs->xs[i]?=some x)/\∀ ys,rz K H b ys->ys[i]?=some y,
   fun i H=>∃ xs ys,rz K H a xs/\rz K H b ys/\(xs.length<=i\/ys.length<=i)⟩
structure X0(z TI TO i1 i2 a b:Addr)(i:Nat)(h:Heap):Prop where
 hz:IsZip h z TI TO .none
 hI:IsPair h TI (.ref i1) (.ref i2)
 hO:∃ x y,IsPair h TO x y
 h1:h.IsListIter i1 a i
 h2:h.IsListIter i2 b i
theorem Nb{P:bM}{w:World}{K:ai}{elts:List Expr}{kk:Nat}{pos:Pos}(a b z TI TO i1 i2:Addr)(nd:[z,TI,TO,i1,i2].Nodup) :
  Turn P w K (.Tuple elts kk pos) (Itz K a b) [z,TI,TO,i1,i2] z (X0 z TI TO i1 i2 a b) where
 mem:=by simp
 obj:=fun i h st c hc=>by
  simp only [aO,bO,or_false] at hc;rcases hc with rfl | rfl | rfl | rfl | rfl
  ·exact⟨_,st.hz,fun v q=>by cases q⟩
  ·exact⟨_,st.hI,fun v q=>by cases q⟩
  ·obtain⟨x,y,h⟩:=st.hO; exact⟨_,h,fun v q=>by cases q⟩
  ·obtain⟨o,e,_,d⟩:=st.h1; exact⟨o,e,fun v q=>by rw [d] at q; cases q⟩
  ·obtain⟨o,e,_,d⟩:=st.h2; exact⟨o,e,fun v q=>by rw [d] at q; cases q⟩
 keep:=fun i h h' st k=>⟨k _ (by simp) _ st.hz,k _ (by simp) _ st.hI,let ⟨x,y,q⟩:=st.hO; ⟨x,y,k _ (by simp) _ q⟩,st.h1.at fun o q=>k _ (by simp) o q,st.h2.at fun o q=>k _ (by simp) o q⟩
 item:=by
  intro X hP hw hK hc i pins s σ H E I hf st hg;subst hP hw hK;obtain⟨xs,x,ys,y,Tv,hx,Tu,hy⟩:=hg;obtain⟨Xd,Yi,p1,hz1⟩:=I.list Tv;obtain⟨vX,NA,p2,Z6⟩:=I.list Tu;obtain⟨u1,Yw,K5⟩:=Yi.get hx;obtain⟨u2,hu2,NF⟩:=NA.get hy;obtain⟨xo,yo,hO⟩:=st.hO;have ap:∀ c∈[z,TI,TO,i1,i2],a≠c/\b≠c:=fun c hc=>⟨uh I Tv (hf c hc),uh I Tu (hf c hc)⟩;simp only [aP,aO,bO,or_false,not_or] at nd;obtain⟨⟨n1,n2,n3,n4⟩,⟨n5,n6,n7⟩,⟨n8,n9⟩,ZQ,_⟩:=nd;have Dz:ZipApart z TI TO i1 i2 a b:=⟨fW n1,fW n2,fW n3,fW n4,n5,n6,n7,n8,n9,ZQ,(ap z (by simp)).1,(ap TO (by simp)).1,(ap i1 (by simp)).1,(ap i2 (by simp)).1,(ap z (by simp)).2,(ap TO (by simp)).2,(ap i1 (by simp)).2,(ap i2 (by simp)).2⟩;have XE:H s.heap.objs.size=none:=I.cL.fresh (aI _);have inH:∀ c∈[z,TI,TO,i1,i2],c≠s.heap.objs.size:=fun c hc=>by
   simp only [aO,bO,or_false] at hc;rcases hc with rfl | rfl | rfl | rfl | rfl
   ·exact bK (aS st.hz)
   ·exact bK (aS st.hI)
   ·exact bK (aS hO)
   ·obtain⟨o,e,_⟩:=st.h1; exact bK (aS e)
   ·obtain⟨o,e,_⟩:=st.h2; exact bK (aS e)
  refine wpAny_pyNext_zip_item Dz st.hz st.hI hO st.h1 st.h2 p1.isList p2.isList (x:=u1) (y:=u2) (by simpa using Yw) (by simpa using hu2) fun h' a1 a2 a3 a4 a5 a6 a7=>?_;refine⟨_,rfl,?_⟩;have k1:∀ c o,c∉[z,TI,TO,i1,i2]->s.heap.get? c=some o->h'.get? c=some o:=fun c o hc q =>
   a7 c o (fun e=>hc (by simp [e])) (fun e=>hc (by simp [e])) (fun e=>hc (by simp [e])) (fun e=>hc (by simp [e])) q
  have I1:Inv X pins σ (upd H s.heap.objs.size (.tup [x,y])) { s with heap:=h' } :=
   I.BY (t':=s.toks) (fp:=[z,TI,TO,i1,i2]) hf k1 (aI _) ⟨by show 2<=bc; decide,[u1,u2],.cons K5 (.cons NF .nil),⟨_,a5,rfl,_,rfl⟩⟩
  refine wpAny_letOwnedTupleGo_zip (s:={ s with heap:=h' }) a1 fun h2 Z6 E3=>?_;have f1:∀ c∈[z,TI,TO,i1,i2],ou X pins (upd H s.heap.objs.size (.tup [x,y])) c:=fun c hc=>(hf c hc).upd (inH c hc);have I2:Inv X pins σ (upd H s.heap.objs.size (.tup [x,y])) { s with heap:=h2 } :=
   Inv.xC (s:={ s with heap:=h' }) (t':=s.toks) (fp:=[z,TI,TO,i1,i2]) I1 f1 fun c o hc q=>(E3.2 c (fun e=>hc (by simp [e]))).trans q
  have hI':IsPair h' TI (.ref i1) (.ref i2):=a7 TI _ (fW n1) n5 n6 n7 st.hI;refine⟨.ref s.heap.objs.size,_,I2,rfl,⟨_,x,y,rfl,XE,rfl,fun zs hs=>by rw [I.yX hs Tv]; exact hx,fun zs hs=>by rw [I.yX hs Tu]; exact hy⟩,⟨Z6,?_,⟨u1,u2,?_⟩,?_,?_⟩,fun c hc=>(f1 c hc).1⟩
  ·exact(E3.2 TI (fW n1)).trans hI'
  ·exact(E3.2 TO (fW n2)).trans a2
  ·exact a3.at fun o q=>(E3.2 i1 (fW n3)).trans q
  ·exact a4.at fun o q=>(E3.2 i2 (fW n4)).trans q
 done:=by
  intro X hP hw hK hc i pins s σ H E I hf st hg;subst hP hw hK;obtain⟨xs,ys,Tv,Tu,hx⟩:=hg;obtain⟨Xd,Yi,p1,hz1⟩:=I.list Tv;obtain⟨vX,NA,p2,Z6⟩:=I.list Tu;have hl1:=Yi.length;have z8:=NA.length;obtain⟨xo,yo,hO⟩:=st.hO;have ap:∀ c∈[z,TI,TO,i1,i2],a≠c/\b≠c:=fun c hc=>⟨uh I Tv (hf c hc),uh I Tu (hf c hc)⟩;simp only [aP,aO,bO,or_false,not_or] at nd;obtain⟨⟨n1,n2,n3,n4⟩,⟨n5,n6,n7⟩,⟨n8,n9⟩,ZQ,_⟩:=nd;have Dz:ZipApart z TI TO i1 i2 a b:=⟨fW n1,fW n2,fW n3,fW n4,n5,n6,n7,n8,n9,ZQ,(ap z (by simp)).1,(ap TO (by simp)).1,(ap i1 (by simp)).1,(ap i2 (by simp)).1,(ap z (by simp)).2,(ap TO (by simp)).2,(ap i1 (by simp)).2,(ap i2 (by simp)).2⟩;refine wpAny_pyNext_zip_end (I.ok.hd hc) Dz st.hz st.hI hO st.h1 st.h2 p1.isList p2.isList (by
   rcases hx with hx | hx
   ·left; simp; lia
   ·right; simp; lia) fun h' k1=>⟨rfl,?_⟩
  exact I.xC (t':=s.toks) (fp:=[z,TI,TO,i1,i2]) hf fun c o hc q=>k1 c o (fun e=>hc (by simp [e])) (fun e=>hc (by simp [e])) (fun e=>hc (by simp [e])) (fun e=>hc (by simp [e])) q
 self:=fun A i s Q E st h=>wpAny_pyIter_zip st.hz h
end L2
namespace K2
open PySem PySem.Spec PyProof.Rows L2
section
variable {X:Cx} {elts:List Expr} {kk:Nat} {DT:Pos} {a b:Expr} {ta tb:fY} {pos p:Pos}
theorem ES{pins:List (Addr×Obj)}{s:az}{σ:L2.St}{H:Hp}{G:Gp}{x:V}{d:D}{v:Value}{ds:List D}{ok:Gp->Prop}(I:Inv X pins σ H s)(ab:lZ X.K H G)(rx:RelV x v)(rd:cw X.K H x d)(hi:uL d G=some (ds,ok)) :
  ∃ l vs,v=.ref l/\rz X.K H l vs/\br X.K H vs ds/\∀ H2 G2,Kp H H2->lZ X.K H2 G2->ok G2->∃ ws,rz X.K H2 l ws/\br X.K H2 ws ds:=by
 cases rd with
 | dP hq rs=>cases hi; cases rx; exact⟨_,_,rfl,hq.sq,rs,fun H2 G2 k ab _=>⟨_,(k.VT hq).sq,rs.mono k⟩⟩
 | ref l =>
  unfold uL at hi;dsimp only at hi;cases hg:G l with
  | none=>rw [hg] at hi; cases hi
  | some gg =>
   rw [hg] at hi;cases gg with
   | lst zs =>
    cases hi;cases rx;obtain⟨vs,hv,rs⟩:=ab.lst hg;refine⟨_,_,rfl,.of hv,rs,fun H2 G2 k ab o=>?_⟩;obtain⟨ws,hw,sx⟩:=ab.lst o;exact⟨ws,.of hw,sx⟩
   | ins _ _=>cases hi
   | sE _=>cases hi
   | gP _=>cases hi
 | _=>cases hi
theorem JG (hg:Gl X "zip") (hm:X.mg "zip" = none) (ha:gE X a ta) (hb:gE X b tb) (hs:autoParam (cK [a,b] X.env=[(false,eval a X.env),(false,eval b X.env)]) Ar._auto_1) (E3:autoParam (cK [b] X.env=[(false,eval b X.env)]) Ar._auto_1) :
  MH X (.Tuple elts kk DT) (.Call (.Name "zip" p) [a,b] [] pos) (OZ ta tb):=by
 intro E pins s σ H τ G R hE I h;have hA:Md X [a,b] (av ta (av tb a8)):=ah ha (ah hb aH E3) (by rw [hs,E3]);refine Call_ (pF I.inv hg hm VD (eF (GP hA pos hE I (R:=Zt fun x y G1=>tE x y G1 R) h fun vs H1 ds G1 us s1 I1 m1 r1 jt q1=>?_) (by rw [hs,E3]) (by rw [E3]; rfl)))
 match ds,q1 with
 | [x,y],q1 =>
  change tE x y G1 R at q1;obtain⟨w1,w2,rfl,D7,Q7⟩:=jt.two;obtain⟨u1,u2,rfl,K5,NF⟩:=vals2 r1;unfold tE at q1;split at q1
  ·rename_i xs k1 ys k2 e1 e2;obtain⟨l1,v1,rfl,Tv,rs1,st1⟩:=ES I1.inv I1.ab K5 D7 e1;obtain⟨l2,v2,rfl,Tu,Jt,QB⟩:=ES I1.inv I1.ab NF Q7 e2;obtain⟨Xd,Yi,pl1,_⟩:=I1.inv.list Tv;obtain⟨vX,NA,pl2,_⟩:=I1.inv.list Tu;refine call_zip_2 pl1.isList pl2.isList fun h' z1 z2 z3 z4 z5 z6 z7=>?_;refine wpAny_pyIter_zip z1 ?_;refine⟨_,[s1.heap.objs.size+4,s1.heap.objs.size+2,s1.heap.objs.size+3,s1.heap.objs.size,s1.heap.objs.size+1],_,_,H1,G1,o9 xs ys,_,rfl,I1.inv.kept (t':=s1.toks) z7,m1,
    Nb l1 l2 _ _ _ _ _ (by simp),⟨z1,z2,⟨_,_,z3⟩,z4,z5⟩,fun c hc=>?_,fun i H2 G2 k ab o=>?_,q1⟩
   ·have QI:s1.heap.objs.size<=c:=by
     simp only [aO,bO,or_false] at hc;rcases hc with rfl | rfl | rfl | rfl | rfl
     ·exact tZ _ _
     ·exact tZ _ _
     ·exact tZ _ _
     ·exact aI _
     ·exact tZ _ _
    exact I1.inv.CB QI (I1.inv.cL.fresh QI)
   ·obtain⟨Wr,hw1,jt⟩:=st1 H2 G2 k ab o.1;obtain⟨Y5,Yv,yB⟩:=QB H2 G2 k ab o.2;refine⟨fun d hd=>?_,fun hl=>⟨Wr,Y5,hw1,Yv,?_⟩⟩
    ·rw [DN] at hd;cases hx:xs[i]? with
     | none=>rw [hx] at hd; cases hd
     | some x' =>
      cases hy:ys[i]? with
      | none=>rw [hx,hy] at hd; cases hd
      | some y' =>
       rw [hx,hy] at hd;have ed:D.tup [x',y']=d:=by simpa using hd
       subst ed;obtain⟨vx,hvx,rx⟩:=jt.get hx;obtain⟨vy,hvy,ry⟩:=yB.get hy;refine⟨⟨Wr,vx,Y5,vy,hw1,hvx,Yv,hvy⟩,?_⟩;rintro v H3 ⟨T,px,py,ex,hT,e3,hx3,hy3⟩;subst ex e3;have q1:=hx3 Wr hw1;have q2:=hy3 Y5 Yv;rw [hvx] at q1;rw [hvy] at q2;cases q1; cases q2;exact⟨.tup cc (.cons (rx.mono (.new hT)) (.cons (ry.mono (.new hT)) .nil)),.HP ab hT⟩
    ·rw [DM] at hl;rw [jt.length,yB.length];lia
  ·exact q1.elim
 | [],q1=>exact q1.elim
 | [_],q1=>exact q1.elim
 | _ :: _ :: _ :: _,q1=>exact q1.elim
end
end K2
end
section
namespace K2
open PySem PySem.W PyProof.Rows
noncomputable def ip{α:Type}(lt:Nat->Nat->Bool):KasT α->α
 | .ret a=>a
 | .ask i j k=>ip lt (k (lt i j))
theorem md{α β:Type}(lt:Nat->Nat->Bool)(f:α->KasT β):∀ t:KasT α,ip lt (t.bind f)=ip lt (f (ip lt t))
 | .ret _=>rfl
 | .ask i j k=>md lt f (k (lt i j))
noncomputable abbrev gA(p:Array Nat)(k:Nat):Nat:=p.getD k 0
theorem Bs(p:Array Nat)(k:Nat):gA p k=(p[k]?).getD 0:=by
 unfold gA; rw [Array.getD_eq_getD_getElem?]
structure Ma(lt:Nat->Nat->Bool):Prop where
 asymm:∀ i j,lt i j=true->lt j i=false
 trans:∀ i j k,lt j i=false->lt k j=false->lt k i=false
theorem Ma.refl{lt:Nat->Nat->Bool}(w:Ma lt)(i:Nat):lt i i=false:=by
 cases h:lt i i with
 | false=>rfl
 | true=>rw [w.asymm _ _ h] at h; cases h
noncomputable def Up(lt:Nat->Nat->Bool)(p:Array Nat)(m:Nat):Prop:=∀ i j,i<=j->j < m->lt (gA p j) (gA p i)=false
noncomputable def Dn(lt:Nat->Nat->Bool)(p:Array Nat)(m:Nat):Prop:=∀ i j,i<=j->j < m->lt (gA p i) (gA p j)=false
section
variable {lt:Nat->Nat->Bool}
theorem Up.more(w:Ma lt){p:Array Nat}{n m:Nat}(h1:1<=n)(h:Up lt p n)(hs:∀ k,n<=k->k < m->lt (gA p k) (gA p (k - 1))=false):Up lt p m:=by
 intro i j LK hjm;induction j with
 | zero =>
  have:i=0:=by lia
  subst this; exact w.refl _
 | succ j ih =>
  by_cases hj:j+1 < n
  ·exact h i (j+1) LK hj
  ·by_cases e:i=j+1
   ·subst e; exact w.refl _
   ·have h1:=ih (by lia) (by lia);have h2:=hs (j+1) (by lia) hjm;exact w.trans _ _ _ h1 h2
theorem Js(p:Array Nat):∀ (f n:Nat),n<=ip lt (qr p f n)/\ip lt (qr p f n)<=n+f/\(∀ k,n<=k->k < ip lt (qr p f n)->lt (gA p k) (gA p (k - 1))=false) /\
  (ip lt (qr p f n) < n+f->lt (gA p (ip lt (qr p f n))) (gA p (ip lt (qr p f n) - 1))=true):=by
 intro f;induction f with
 | zero=>intro n; exact⟨aI _,aI _,fun k h1 h2=>absurd (show k < n from h2) (by lia),fun h=>absurd (show n < n+0 from h) (by lia)⟩
 | succ f ih =>
  intro n;have e:ip lt (qr p (f+1) n)=if lt (gA p n) (gA p (n - 1))=true then n else ip lt (qr p f (n+1)):=by
   show ip lt (if lt (gA p n) (gA p (n - 1))=true then vD n else qr p f (n+1))=_;split <;> rfl
  rw [e];by_cases c:lt (gA p n) (gA p (n - 1))=true
  ·rw [if_pos c];exact⟨aI _,by lia,fun k h1 h2=>absurd h2 (by lia),fun _=>c⟩
  ·rw [if_neg c];obtain⟨h1,h2,h3,h4⟩:=ih (n+1);refine⟨by lia,by lia,fun k k1 k2=>?_,fun h=>h4 (by lia)⟩;by_cases e:k=n
   ·subst e; simpa using c
   ·exact h3 k (by lia) k2
theorem ij{p:Array Nat}{i j:Nat}(hj:j<=p.size)(k:Nat):gA (gF p i j) k=if i<=k/\k < j then gA p (i+j - 1 - k) else gA p k:=by
 rw [Bs,gF,getElem?_mirror_all hj];split <;> rw [Bs]
theorem mG(p:Array Nat)(i j:Nat):(gF p i j).size=p.size:=mirror_size _ _ _ _
theorem jX(p:Array Nat)(i j:Nat):(gF p i j).Perm p:=mirror_perm _ _ _ _
theorem Dn.rev{p:Array Nat}{a n:Nat}(w:Ma lt)(hn:n<=p.size)(h:Dn lt p n)(he:∀ k,a<=k->k < n->lt (gA p (n - 1)) (gA p k)=false):Dn lt (gF p a n) n:=by
 intro i j LK Xq;rw [ij hn,ij hn];by_cases hi:a<=i
 ·rw [if_pos ⟨hi,by lia⟩,if_pos ⟨by lia,Xq⟩];exact w.trans _ _ _ (he (a+n - 1 - j) (by lia) (by lia)) (h (a+n - 1 - i) (n - 1) (by lia) (by lia))
 ·rw [if_neg (by lia)];by_cases hj:a<=j
  ·rw [if_pos ⟨hj,Xq⟩];exact h i (a+n - 1 - j) (by lia) (by lia)
  ·rw [if_neg (by lia)];exact h i j LK Xq
noncomputable def Eqs(lt:Nat->Nat->Bool)(p:Array Nat)(n q:Nat):Prop:=q+1<=n/\∀ k,n - (q+1)<=k->k < n->lt (gA p (n - 1)) (gA p k)=false
theorem Dn.one(w:Ma lt){p:Array Nat}{n:Nat}(h1:1<=n)(h:Dn lt p n)(hc:lt (gA p (n - 1)) (gA p n)=false):Dn lt p (n+1):=by
 intro i j LK hj;by_cases e:j=n
 ·subst e;by_cases e2:i=j
  ·subst e2; exact w.refl _
  ·exact w.trans _ _ _ hc (h i (j - 1) (by lia) (by lia))
 ·exact h i j LK (by lia)
theorem NC(w:Ma lt):∀ (f:Nat) (p:Array Nat) (n q:Nat),n+f<=p.size->Dn lt p n->Eqs lt p n q->∃ p' n' q',ip lt (lg f p n q)=(p',n',q')/\p'.Perm p/\p'.size=p.size/\n<=n'/\n'<=n+f/\Dn lt p' n'/\Eqs lt p' n' q':=by
 intro f;induction f with
 | zero=>intro p n q _ hd he; exact⟨p,n,q,rfl,ng _,rfl,aI _,aI _,hd,he⟩
 | succ f ih =>
  intro p n q hs hd he;have h1:1<=n:=by have:=he.1; lia
  have e:ip lt (lg (f+1) p n q)=if lt (gA p n) (gA p (n - 1))=true then (if q > 0 then ip lt (lg f (gF p (n - (q+1)) n) (n+1) 0) else ip lt (lg f p (n+1) 0))
    else if lt (gA p (n - 1)) (gA p n)=true then (p,n,q) else ip lt (lg f p (n+1) (q+1)):=by
   show ip lt (if lt (gA p n) (gA p (n - 1))=true then (if q > 0 then lg f (gF p (n - (q+1)) n) (n+1) 0 else lg f p (n+1) 0) else .ask (gA p (n - 1)) (gA p n) fun d=>if d=true then .ret (p,n,q) else lg f p (n+1) (q+1))=_;split
   ·split <;> rfl
   ·show ip lt (if lt (gA p (n - 1)) (gA p n)=true then vD (p,n,q) else lg f p (n+1) (q+1))=_;split <;> rfl
  rw [e];by_cases c:lt (gA p n) (gA p (n - 1))=true
  ·rw [if_pos c];have ca:=w.asymm _ _ c;by_cases hq:q > 0
   ·rw [if_pos hq];have d1:Dn lt (gF p (n - (q+1)) n) n:=hd.rev w (by lia) he.2;have en:gA (gF p (n - (q+1)) n) n=gA p n:=by rw [ij (by lia),if_neg (by lia)]
    have ca':lt (gA (gF p (n - (q+1)) n) (n - 1)) (gA (gF p (n - (q+1)) n) n)=false:=by
     rw [en,ij (by lia)];split
     ·-- an item of Y7 Ye is above p n
      exact w.trans _ _ _ ca (hd _ (n - 1) (by lia) (by lia))
     ·exact ca
    obtain⟨p',n',q',z,h2,h3,h4,h5,h6,h7⟩:=ih (gF p (n - (q+1)) n) (n+1) 0 (by rw [mG]; lia) (d1.one w h1 ca') ⟨by lia,fun k k1 k2=>by
     have:k=n:=by lia
     subst this; exact w.refl _⟩
    exact⟨p',n',q',z,h2.trans (jX _ _ _),h3.trans (mG _ _ _),by lia,by lia,h6,h7⟩
   ·rw [if_neg hq];obtain⟨p',n',q',z,h2,h3,h4,h5,h6,h7⟩:=ih p (n+1) 0 (by lia) (hd.one w h1 ca) ⟨by lia,fun k k1 k2=>by
     have:k=n:=by lia
     subst this; exact w.refl _⟩
    exact⟨p',n',q',z,h2,h3,by lia,by lia,h6,h7⟩
  ·rw [if_neg c];have c':lt (gA p n) (gA p (n - 1))=false:=by simpa using c
   by_cases d:lt (gA p (n - 1)) (gA p n)=true
   ·rw [if_pos d];exact⟨p,n,q,rfl,ng _,rfl,aI _,by lia,hd,he⟩
   ·rw [if_neg d];have d':lt (gA p (n - 1)) (gA p n)=false:=by simpa using d
    obtain⟨p',n',q',z,h2,h3,h4,h5,h6,h7⟩:=ih p (n+1) (q+1) (by lia) (hd.one w h1 d') ⟨by have:=he.1; lia,fun k k1 k2=>by
     rw [Nat.add_sub_cancel];by_cases e:k=n
     ·subst e; exact w.refl _
     ·exact w.trans _ _ _ (he.2 k (by lia) (by lia)) c'⟩
    exact⟨p',n',q',z,h2,h3,by lia,by lia,h6,h7⟩
theorem Dn.up{p:Array Nat}{n:Nat}(hn:n<=p.size)(h:Dn lt p n):Up lt (gF p 0 n) n:=by
 intro i j LK Xq;rw [ij hn,ij hn,if_pos ⟨by lia,Xq⟩,if_pos ⟨by lia,by lia⟩];exact h _ _ (by lia) (by lia)
theorem D8(w:Ma lt){p:Array Nat}{n nrem:Nat}(h1:1<=n)(hn:n<=nrem)(hs:nrem<=p.size)(h:Dn lt p n):∃ p' m,ip lt (MP n nrem p)=(m,p')/\p'.Perm p/\p'.size=p.size/\n<=m/\m<=nrem/\Up lt p' m:=by
 obtain⟨a1,a2,a3,_⟩:=Js (lt:=lt) (gF p 0 n) (nrem - n) n;refine⟨gF p 0 n,ip lt (qr (gF p 0 n) (nrem - n) n),by rw [MP,md]; rfl,jX _ _ _,mG _ _ _,a1,by lia,?_⟩;exact(h.up (by lia)).more w h1 a3
theorem uq(w:Ma lt){p:Array Nat}{n nrem:Nat}(h1:1<=n)(hn:n < nrem)(hs:nrem<=p.size)(h:Dn lt p n)(hc:lt (gA p (n - 1)) (gA p n)=false) :
  ∃ p' m,ip lt (x5 n nrem p)=(m,p')/\p'.Perm p/\p'.size=p.size/\n<=m/\m<=nrem/\Up lt p' m:=by
 obtain⟨p1,n1,q1,z,z2,z3,z4,z5,z6,z7⟩:=NC w (nrem - (n+1)) p (n+1) 0 (by lia) (h.one w h1 hc) ⟨by lia,fun k k1 k2=>by
  have:k=n:=by lia
  subst this; exact w.refl _⟩
 rw [x5,md,z];show ∃ p' m,ip lt (if q1 > 0 then MP n1 nrem (gF p1 (n1 - (q1+1)) n1) else MP n1 nrem p1)=(m,p')/\_;by_cases hq:q1 > 0
 ·rw [if_pos hq];obtain⟨p',m,y1,y2,y3,y4,y5,y6⟩:=D8 (nrem:=nrem) w (p:=gF p1 (n1 - (q1+1)) n1) (by lia) (by lia) (by rw [mG]; lia) (z6.rev w (by lia) z7.2);exact⟨p',m,y1,(y2.trans (jX _ _ _)).trans z2,(y3.trans (mG _ _ _)).trans z3,by lia,y5,y6⟩
 ·rw [if_neg hq];obtain⟨p',m,y1,y2,y3,y4,y5,y6⟩:=D8 (nrem:=nrem) w (p:=p1) (by lia) (by lia) (by lia) z6;exact⟨p',m,y1,y2.trans z2,y3.trans z3,by lia,y5,y6⟩
theorem K4(w:Ma lt){p:Array Nat}{nrem:Nat}(h1:1<=nrem)(hs:nrem<=p.size):∃ p' m,ip lt (kas_count nrem p)=(m,p')/\p'.Perm p/\p'.size=p.size/\1<=m/\m<=nrem/\Up lt p' m:=by
 obtain⟨a1,a2,a3,a4⟩:=Js (lt:=lt) p (nrem - 1) 1;rw [kas_count,md];generalize ip lt (qr p (nrem - 1) 1)=n at a1 a2 a3 a4;have u1:Up lt p 1:=fun i j LK hj=>by
  have:i=j:=by lia
  subst this; exact w.refl _
 have up:Up lt p n:=u1.more w (aI _) a3;by_cases e:n=nrem
 ·subst e;rw [if_pos (by simp)];exact⟨p,n,rfl,ng _,rfl,a1,aI _,up⟩
 ·rw [if_neg (by simpa using e)];have hb:=a4 (by lia);by_cases h2:n > 1
  ·rw [if_pos h2];show ∃ p' m,ip lt (if lt (gA p 0) (gA p (n - 1))=true then vD (n,p) else x5 n nrem (gF p 0 n))=(m,p')/\_;by_cases c:lt (gA p 0) (gA p (n - 1))=true
   ·rw [if_pos c];exact⟨p,n,rfl,ng _,rfl,a1,by lia,up⟩
   ·rw [if_neg c];have c':lt (gA p 0) (gA p (n - 1))=false:=by simpa using c
    have all:∀ i j,i < n->j < n->lt (gA p i) (gA p j)=false:=fun i j hi hj =>
     w.trans _ _ _ (w.trans _ _ _ (up j (n - 1) (by lia) (by lia)) c') (up 0 i (by lia) hi)
    have d1:Dn lt (gF p 0 n) n:=fun i j LK hj=>by
     rw [ij (by lia),ij (by lia),if_pos ⟨by lia,by lia⟩,if_pos ⟨by lia,hj⟩];exact all _ _ (by lia) (by lia)
    have hl:lt (gA (gF p 0 n) (n - 1)) (gA (gF p 0 n) n)=false:=by
     rw [ij (by lia),ij (by lia),if_pos ⟨by lia,by lia⟩,if_neg (by lia)];exact w.trans _ _ _ (w.asymm _ _ hb) (all _ _ (by lia) (by lia))
    obtain⟨p',m,y1,y2,y3,y4,y5,y6⟩:=uq (nrem:=nrem) w (p:=gF p 0 n) a1 (by lia) (by rw [mG]; lia) d1 hl;exact⟨p',m,y1,y2.trans (jX _ _ _),y3.trans (mG _ _ _),by lia,y5,y6⟩
  ·rw [if_neg h2];have e1:n=1:=by lia
   subst e1;have d1:Dn lt p 1:=fun i j LK hj=>by
    have:i=j:=by lia
    subst this; exact w.refl _
   obtain⟨p',m,y1,y2,y3,y4,y5,y6⟩:=uq (nrem:=nrem) w (p:=p) (aI _) (by lia) hs d1 (w.asymm _ _ hb);exact⟨p',m,y1,y2,y3,by lia,y5,y6⟩
theorem K3(w:Ma lt){p:Array Nat}{k:Nat}:∀ (f l r:Nat),l<=r->r<=k->r - l<=f->Up lt p k->(∀ i,i < l->lt (gA p k) (gA p i)=false)->(∀ i,r<=i->i < k->lt (gA p k) (gA p i)=true) ->
  ∃ m,ip lt (jO p k f l r)=m/\m<=k/\(∀ i,i < m->lt (gA p k) (gA p i)=false)/\(∀ i,m<=i->i < k->lt (gA p k) (gA p i)=true):=by
 intro f;induction f with
 | zero =>
  intro l r hlr Yx hf up h1 h2;have:l=r:=by lia
  subst this;exact⟨l,rfl,Yx,h1,h2⟩
 | succ f ih =>
  intro l r hlr Yx hf up h1 h2;have e:ip lt (jO p k (f+1) l r)=if l>=r then l else if lt (gA p k) (gA p ((l+r) / 2))=true then ip lt (jO p k f l ((l+r) / 2)) else ip lt (jO p k f ((l+r) / 2+1) r):=by
   show ip lt (if l>=r then vD l else .ask (gA p k) (gA p ((l+r) / 2)) fun c=>if c=true then jO p k f l ((l+r) / 2) else jO p k f ((l+r) / 2+1) r)=_;split
   ·rfl
   ·show ip lt (if lt (gA p k) (gA p ((l+r) / 2))=true then jO p k f l ((l+r) / 2) else jO p k f ((l+r) / 2+1) r)=_;split <;> rfl
  rw [e];by_cases c:l>=r
  ·rw [if_pos c];have:l=r:=by lia
   subst this;exact⟨l,rfl,Yx,h1,h2⟩
  ·rw [if_neg c];by_cases d:lt (gA p k) (gA p ((l+r) / 2))=true
   ·rw [if_pos d];refine ih l ((l+r) / 2) (by lia) (by lia) (by lia) up h1 fun i i1 i2=>?_;cases q:lt (gA p k) (gA p i) with
    | true=>rfl
    | false=>rw [w.trans _ _ _ (up ((l+r) / 2) i i1 i2) q] at d; cases d
   ·rw [if_neg d];refine ih ((l+r) / 2+1) r (by lia) Yx (by lia) up (fun i hi=>?_) h2;exact w.trans _ _ _ (up i ((l+r) / 2) (by lia) (by lia)) (by simpa using d)
theorem Bt{p:Array Nat}{src d:Nat}(hs:src < p.size)(hd:d<=src)(k:Nat):gA (bubble p src d) k=if k=src - d then gA p src else if src - d < k/\k<=src then gA p (k - 1) else gA p k:=by
 rw [Bs,getElem?_bubble hs d hd,Bs p src,Bs p (k - 1),Bs p k];by_cases h1:k=src - d
 ·rw [if_pos h1,if_pos h1]
 ·rw [if_neg h1,if_neg h1];by_cases h2:src - d < k/\k<=src
  ·rw [if_pos h2,if_pos h2]
  ·rw [if_neg h2,if_neg h2]
theorem Q8(w:Ma lt):∀ (f:Nat) (p:Array Nat) (k:Nat),k+f<=p.size->Up lt p k->∃ p',ip lt (kas_bin f p k)=p'/\p'.Perm p/\p'.size=p.size/\Up lt p' (k+f):=by
 intro f;induction f with
 | zero=>intro p k _ up; exact⟨p,rfl,ng _,rfl,up⟩
 | succ f ih =>
  intro p k hs up;obtain⟨m,e,hm,h1,h2⟩:=K3 w k 0 k (cC _) (aI _) (aI _) up (fun i hi=>absurd hi (by lia)) (fun i i1 i2=>absurd i1 (by lia));have up':Up lt (bubble p k (k - m)) (k+1):=by
   intro i j LK hj;rw [Bt (by lia) (by lia),Bt (by lia) (by lia)];have ek:k - (k - m)=m:=by lia
   rw [ek];by_cases j1:j=m
   ·rw [if_pos j1];by_cases i1:i=m
    ·rw [if_pos i1]; exact w.refl _
    ·rw [if_neg i1,if_neg (by lia)]; exact h1 i (by lia)
   ·rw [if_neg j1];by_cases j2:m < j/\j<=k
    ·rw [if_pos j2];by_cases i1:i=m
     ·rw [if_pos i1]; exact w.asymm _ _ (h2 (j - 1) (by lia) (by lia))
     ·rw [if_neg i1];by_cases i2:m < i/\i<=k
      ·rw [if_pos i2]; exact up _ _ (by lia) (by lia)
      ·rw [if_neg i2]; exact up _ _ (by lia) (by lia)
    ·rw [if_neg j2,if_neg (by lia),if_neg (by lia)]; exact up _ _ LK (by lia)
  obtain⟨p',z,z1,z2,z3⟩:=ih (bubble p k (k - m)) (k+1) (by rw [bubble_size]; lia) up';refine⟨p',?_,z1.trans (bubble_perm _ _ _),z2.trans (bubble_size _ _ _),by rw [show k+(f+1)=k+1+f by lia]; exact z3⟩;rw [kas_bin,md,e]; exact z
theorem NB(w:Ma lt){n:Nat}(h1:1<=n):∃ p,ip lt (kas_sort n)=p/\p.toList.Perm (fK n)/\p.size=n/\Up lt p n:=by
 obtain⟨p,m,z,z1,z2,z3,z4,z5⟩:=K4 w (p:=(fK n).toArray) h1 (by simp);have zs:p.size=n:=by rw [z2]; simp
 have zp:p.toList.Perm (fK n):=by simpa using z1.toList
 rw [kas_sort,md,z];show ∃ q,ip lt (if m < n then kas_bin (n - max m 1) p (max m 1) else .ret p)=q/\_;by_cases c:m < n
 ·rw [if_pos c];have em:max m 1=m:=by lia
  rw [em];obtain⟨p',y,y1,y2,y3⟩:=Q8 w (n - m) p m (by lia) z5;exact⟨p',y,(by simpa using y1.toList:p'.toList.Perm p.toList).trans zp,y2.trans zs,by rw [show n=m+(n - m) by lia]; exact y3⟩
 ·rw [if_neg c];have:m=n:=by lia
  subst this;exact⟨p,rfl,zp,zs,z5⟩
end
end K2
end
section
namespace K2
open PySem PySem.Spec PyProof.Rows L2
open PySem.AutoSeq1 (wpAny_loadPart')
open PySem.MeetsSeq PySem.MeetsSeq2 PySem.MeetsSeq3 PySem.SeqAt
noncomputable def zR(A:dD)(s:az)(y x:Value)(b:Bool):Prop :=
 ∀ (prog:bM) (w:World) (E:Value->az->Prop) (Q:Value->az->Prop),Q (.bool b) s->wpAny (model prog w) A (richCompare .Lt y x) Q E s
noncomputable def sC(e l:Nat->Bool)(n m:Nat):Nat->Nat->Bool
 | 0,_=>decide (n < m)
 | f+1,i=>if e i=true then sC e l n m f (i+1) else l i
theorem RR(l b:Addr)(xs ys:Array Value)(n m:Nat)(dd de:Option Addr)(sl sm:Array (Option Value))(e lt:Nat->Bool)(k:Nat) :
  ∀ i:Nat,i<=min xs.size ys.size->min xs.size ys.size - i=k->Meets (Builtin.«list.__eq__.loop» ⟨[.ref l,.ref b,DC i,DC 0],[]⟩)
   (fun A R s=>s.heap.get? l=some { cls:=.type "list",dict:=dd,data:=.seq xs n,slots:=sl }/\s.heap.get? b=some { cls:=.type "list",dict:=de,data:=.seq ys m,slots:=sm } /\
    (∀ j (h1:j < xs.size) (h2:j < ys.size),EqAt A.in1 s xs[j] ys[j] (e j)/\zR A.in1 s xs[j] ys[j] (lt j)) /\
    R (.ok (.ret (.bool (sC e lt xs.size ys.size k i)))) s):=by
 induction k with
 | zero =>
  intro i hi hk prog w A R s h;obtain⟨hp,g,d,tk,os⟩:=s;obtain⟨hl,hb,he,h⟩:=h
  wp_walk using cm hl,cm hb
  by_cases c:xs.size<=ys.size
  ·have h1:xs[((i:Nat):Int).toNat]?=none:=by simp; lia
   rw [h1]
   wp_walk using cm hl,cm hb
   exact h
  ·have h2:ys[((i:Nat):Int).toNat]?=none:=by simp; lia
   rw [h2];cases q:xs[((i:Nat):Int).toNat]? with
   | none =>
    wp_walk using cm hl,cm hb
    exact h
   | some v =>
    wp_walk using cm hl,cm hb
    exact h
 | succ k ih =>
  intro i hi hk prog w A R s h;obtain⟨hp,g,d,tk,os⟩:=s;obtain⟨hl,hb,he,h⟩:=h
  wp_walk using cm hl,cm hb
  have l1:i < xs.size:=by lia
  have l2:i < ys.size:=by lia
  have h1:xs[((i:Nat):Int).toNat]?=some xs[i]:=by simp [l1]
  have h2:ys[((i:Nat):Int).toNat]?=some ys[i]:=by simp [l2]
  have hc:((i:Int)+1)=((i+1:Nat):Int):=by push_cast; rfl
  rw [h1,h2];refine ag ((he i l1 l2).1 prog w _ _ ?_);cases q:e i with
  | true =>
   rw [sC,q,if_pos rfl] at h
   wp_walk
   rw [hc];exact⟨plainId_quiet plain_eq_loop _,codeAny_builtin entry_eq_loop (by
    rw [MZ plain_eq_loop _];exact ih (i+1) (by lia) (by lia) prog w A R _ ⟨hl,hb,he,h⟩)⟩
  | false =>
   rw [sC,q,if_neg (by simp)] at h
   wp_walk using cm hl,cm hb
   rw [h1,h2];have Xi:=(he i l1 l2).2 prog w
   wp_walk using Xi
   exact h
theorem Bh(l b:Addr)(xs ys:Array Value)(n m:Nat)(dd de:Option Addr)(sl sm:Array (Option Value))(e lt:Nat->Bool) :
  Meets (Builtin.«list.__lt__» ⟨[.ref l,.ref b],[]⟩)
   (fun A R s=>s.heap.get? l=some { cls:=.type "list",dict:=dd,data:=.seq xs n,slots:=sl }/\s.heap.get? b=some { cls:=.type "list",dict:=de,data:=.seq ys m,slots:=sm } /\
    (∀ j (h1:j < xs.size) (h2:j < ys.size),EqAt A.in1 s xs[j] ys[j] (e j)/\zR A.in1 s xs[j] ys[j] (lt j)) /\
    R (.ok (.ret (.bool (sC e lt xs.size ys.size (min xs.size ys.size) 0)))) s):=by
 intro prog w A R s h;obtain⟨hp,g,d,tk,os⟩:=s;obtain⟨hl,hb,he,h⟩:=h;have f3:=GG
 wp_walk using cm hl,cm hb
 exact⟨plainId_quiet plain_eq_loop _,codeAny_builtin entry_eq_loop (by
  rw [MZ plain_eq_loop _];exact RR l b xs ys n m dd de sl sm e lt _ 0 (cC _) rfl prog w A R _ ⟨hl,hb,he,h⟩)⟩
theorem ye(l b:Addr)(xs ys:Array Value)(n m:Nat)(dd de:Option Addr)(sl sm:Array (Option Value))(e lt:Nat->Bool) :
  Meets (Builtin.«tuple.__lt__» ⟨[.ref l,.ref b],[]⟩)
   (fun A R s=>s.heap.get? l=some { cls:=.type "tuple",dict:=dd,data:=.seq xs n,slots:=sl }/\s.heap.get? b=some { cls:=.type "tuple",dict:=de,data:=.seq ys m,slots:=sm } /\
    (∀ j (h1:j < xs.size) (h2:j < ys.size),EqAt A.in1 s xs[j] ys[j] (e j)/\zR A.in1 s xs[j] ys[j] (lt j)) /\
    R (.ok (.ret (.bool (sC e lt xs.size ys.size (min xs.size ys.size) 0)))) s) :=
 .of_wp fun prog w A R s h=>by
  obtain⟨hp,g,d,tk,os⟩:=s;obtain⟨hl,hb,he,h⟩:=h;have f2:=pO;have zl:(xs.toList.zip ys.toList).length=min xs.size ys.size:=by simp
  wp_walk using cm hl,cm hb,lb _ (fun rest c s'=>c.1=none/\s'=⟨hp,g,d,tk,os⟩/\∃ i,i<=min xs.size ys.size/\rest=(xs.toList.zip ys.toList).drop i /\
   R (.ok (.ret (.bool (sC e lt xs.size ys.size (min xs.size ys.size - i) i)))) ⟨hp,g,d,tk,os⟩) _
  case turn =>
   rintro⟨y,x⟩ rest c s' ⟨hc,rfl,i,hi,hz,hR⟩;have il:i < min xs.size ys.size:=by
    have:=congrArg di hz;rw [cN,zl,ak] at this;lia
   have l1:i < xs.size:=by lia
   have l2:i < ys.size:=by lia
   rw [gT (by rw [zl]; exact il)] at hz;injection hz with Z7 O2
   have ey:y=xs[i]/\x=ys[i]:=by simpa using Z7
   obtain⟨rfl,rfl⟩:=ey;obtain⟨k,ek⟩:∃ k,min xs.size ys.size - i=k+1:=⟨min xs.size ys.size - i - 1,by lia⟩;rw [ek,sC] at hR;refine ag ((he i l1 l2).1 prog w _ _ ?_);cases q:e i with
   | true =>
    rw [q,if_pos rfl] at hR
    wp_walk
    exact⟨rfl,rfl,i+1,by lia,O2,by rw [show min xs.size ys.size - (i+1)=k by lia]; exact hR⟩
   | false =>
    rw [q,if_neg (by simp)] at hR;have Xi:=(he i l1 l2).2 prog w
    wp_walk using Xi
    exact⟨_,rfl,by simpa using hR⟩
  case fin =>
   rintro⟨c1,c2⟩ s' ⟨hc,rfl,i,hi,hz,hR⟩;simp only at hc;subst hc;have il:min xs.size ys.size - i=0:=by
    have:=congrArg di hz;rw [cN,zl,aF] at this;lia
   rw [il,sC] at hR
   wp_walk
   exact⟨_,rfl,by simpa [ue] using hR⟩
  case h =>
   exact⟨rfl,rfl,0,cC _,rfl,by simpa using h⟩
theorem Lo{A:dD}{s:az}{l b:Addr}{xs ys:Array Value}{e lt:Nat->Bool}(hl:s.heap.IsList l xs)(hb:s.heap.IsList b ys)(hu:A.units < cLine)
  (he:∀ j (h1:j < xs.size) (h2:j < ys.size),EqAt A.in1 s xs[j] ys[j] (e j)/\zR A.in1 s xs[j] ys[j] (lt j)):zR A s (.ref l) (.ref b) (sC e lt xs.size ys.size (min xs.size ys.size) 0):=by
 intro prog w E Q hq;obtain⟨⟨cls,dd,data,sl⟩,ho,hc,n,hd⟩:=id hl;obtain⟨⟨P4,Dx,data2,Jo⟩,E5,Bp,n2,hd2⟩:=id hb;simp only at hc hd Bp hd2;subst hc hd Bp hd2;exact xc (op:=.Lt) ⟨_,ho,rfl⟩ ⟨_,E5,rfl⟩ uc KD (IZ _ _) (Bh l b xs ys n n2 dd Dx sl Jo e lt)
  ⟨ho,E5,he,(fun x=>nomatch x),hq⟩ hu
theorem Hz{A:dD}{s:az}{l b:Addr}{xs ys:Array Value}{e lt:Nat->Bool}(hl:s.heap.IsTuple l xs)(hb:s.heap.IsTuple b ys)(hu:A.units < cLine)
  (he:∀ j (h1:j < xs.size) (h2:j < ys.size),EqAt A.in1 s xs[j] ys[j] (e j)/\zR A.in1 s xs[j] ys[j] (lt j)):zR A s (.ref l) (.ref b) (sC e lt xs.size ys.size (min xs.size ys.size) 0):=by
 intro prog w E Q hq;obtain⟨⟨cls,dd,data,sl⟩,ho,hc,n,hd⟩:=id hl;obtain⟨⟨P4,Dx,data2,Jo⟩,E5,Bp,n2,hd2⟩:=id hb;simp only at hc hd Bp hd2;subst hc hd Bp hd2;exact xc (op:=.Lt) ⟨_,ho,rfl⟩ ⟨_,E5,rfl⟩ lK sk (qv _ _) (ye l b xs ys n n2 dd Dx sl Jo e lt)
  ⟨ho,E5,he,(fun x=>nomatch x),hq⟩ hu
theorem oP(xs ys:List D):∀ (k i:Nat),i<=min xs.length ys.length->min xs.length ys.length - i=k ->
  sC (fun j=>iM (xs.getD j .eU) (ys.getD j .eU)) (fun j=>oY (xs.getD j .eU) (ys.getD j .eU)) xs.length ys.length k i=lS (xs.drop i) (ys.drop i)
 | 0,i,hi,hk=>by
  rw [sC];by_cases c:xs.length<=ys.length
  ·have e1:xs.drop i=[]:=lL (by lia);rw [e1];cases q:ys.drop i with
   | nil =>
    have:=congrArg di q;rw [cN,aF] at this;exact decide_eq_false (by lia)
   | cons y r =>
    have:=congrArg di q;rw [cN,ak] at this;exact decide_eq_true (by lia)
  ·have e1:ys.drop i=[]:=lL (by lia);rw [e1];cases q:xs.drop i with
   | nil =>
    have:=congrArg di q;rw [cN,aF] at this;exact decide_eq_false (by lia)
   | cons y r=>exact decide_eq_false (by lia)
 | k+1,i,hi,hk=>by
  have l1:i < xs.length:=by lia
  have l2:i < ys.length:=by lia
  rw [sC,gT l1,gT l2,mO,oP xs ys k (i+1) (by lia) (by lia)];have g1:xs.getD i .eU=xs[i]:=by rw [dU,ay l1]; rfl
  have g2:ys.getD i .eU=ys[i]:=by rw [dU,ay l2]; rfl
  rw [g1,g2]
theorem jY{h:Heap}:∀ {ds:List D} {vs:List Value} {as:List Addr},hV h vs (nA ds) as->∀ j (hj:j < vs.length),∃ bs,Reads h vs[j] (pd (ds.getD j .eU)) bs
 | [],vs,as,r,j,hj=>by cases r; exact absurd hj (vB _)
 | d :: ds,_,_,.cons (v:=v) (vs:=vs) r1 r2,j,hj=>by
  cases j with
  | zero=>exact⟨_,r1⟩
  | succ j=>exact jY r2 j (by simpa using hj)
theorem readsAll_len{h:Heap}:∀ {ds:List D} {vs:List Value} {as:List Addr},hV h vs (nA ds) as->vs.length=ds.length
 | [],_,_,r=>by cases r; rfl
 | d :: ds,_,_,.cons r1 r2=>by rw [ak,ak,readsAll_len r2]
theorem pB:∀ {ds:List D},qR ds=true->∀ j,nr (ds.getD j .eU)=true
 | [],_,j=>by rw [List.getD_nil]; rfl
 | d :: ds,h,0=>by
  have h:(nr d&&qR ds)=true:=h;rw [aK] at h; simpa using h.1
 | d :: ds,h,j+1=>by
  have h:(nr d&&qR ds)=true:=h;rw [aK] at h; simpa using pB h.2 j
theorem kY:∀ (ds:List D) (j:Nat),(pd (ds.getD j .eU)).depth<=cE (nA ds)
 | [],j=>by rw [List.getD_nil]; exact aI _
 | d :: ds,0=>by
  show (pd d).depth<=cE (pd d :: nA ds);simp only [cE]; lia
 | d :: ds,j+1=>by
  have:=kY ds j;show (pd (ds.getD j .eU)).depth<=cE (pd d :: nA ds);simp only [cE]; lia
theorem qT:∀ {l:List nR} {ds:List D},fj l ds=true->∀ j,j < ds.length->∃ s∈l,cX s (ds.getD j .eU)=true/\l[j]?=some s
 | [],[],_,j,hj=>absurd hj (vB _)
 | [],_ :: _,h,_,_=>by cases h
 | _ :: _,[],h,_,_=>by cases h
 | s :: l,d :: ds,h,0,_=>by
  have h:(cX s d&&fj l ds)=true:=h;rw [aK] at h;exact⟨s,by simp,by simpa using h.1,by simp⟩
 | s :: l,d :: ds,h,j+1,hj=>by
  have h:(cX s d&&fj l ds)=true:=h;rw [aK] at h;obtain⟨s',h1,h2,h3⟩:=qT h.2 j (by simpa using hj);exact⟨s',aE _ h1,by simpa using h2,by simpa using h3⟩
theorem qU:∀ {s:nR} {ds:List D},gJ s ds=true->∀ j,j < ds.length->cX s (ds.getD j .eU)=true
 | s,[],_,j,hj=>absurd hj (vB _)
 | s,d :: ds,h,0,_=>by
  have h:(cX s d&&gJ s ds)=true:=h;rw [aK] at h; simpa using h.1
 | s,d :: ds,h,j+1,hj=>by
  have h:(cX s d&&gJ s ds)=true:=h;rw [aK] at h; simpa using qU h.2 j (by simpa using hj)
theorem CM{A:dD}{s:az}{xs ys:List D}{vs ws:Array Value}{as bs:List Addr}(r1:hV s.heap vs.toList (nA xs) as)(r2:hV s.heap ws.toList (nA ys) bs)(n1:qR xs=true)(n2:qR ys=true)
  (hu:A.units+cE (nA xs) < cLine) (j:Nat) (h1:j < vs.size) (h2:j < ws.size):EqAt A s vs[j] ws[j] (iM (xs.getD j .eU) (ys.getD j .eU)):=by
 obtain⟨XZ,q1⟩:=jY r1 j (by simpa using h1);obtain⟨XW,q2⟩:=jY r2 j (by simpa using h2);have m1:=pB n1 j;have m2:=pB n2 j;have dp:=kY xs j;have:=eqAt_reads (pd (xs.getD j .eU)) (pd (ys.getD j .eU)) A s _ _ _ _ q1 q2 (kA _ m1) (kA _ m2) (by lia);rw [wa _ _ m1 m2] at this;simpa using this
theorem yW:∀ (n:Nat) (sh:nR) (a b:D) (A:dD) (s:az) (u v:Value) (as bs:List Addr),(pd a).depth<=n->cX sh a=true->cX sh b=true->nr a=true->nr b=true->Reads s.heap u (pd a) as->Reads s.heap v (pd b) bs->A.units+n < cLine->zR A s u v (oY a b):=by
 intro n;induction n using Nat.strongRecOn with
 | _ n ih =>
 intro sh a b A s u v as bs hn h1 h2 n1 n2 r1 r2 hu;cases sh with
 | int =>
  first | obtain⟨_,rfl⟩:=dw h1 | obtain⟨_,rfl⟩:=dq h1 | obtain⟨_,rfl⟩:=du h1
  first | obtain⟨_,rfl⟩:=dw h2 | obtain⟨_,rfl⟩:=dq h2 | obtain⟨_,rfl⟩:=du h2
  cases r1; cases r2;intro prog w E Q hq;exact HT.Eh A s _ _ _ _ prog w E Q hq
 | tup l =>
  first | obtain⟨_,rfl⟩:=dw h1 | obtain⟨_,rfl⟩:=dq h1 | obtain⟨_,rfl⟩:=du h1
  first | obtain⟨_,rfl⟩:=dw h2 | obtain⟨_,rfl⟩:=dq h2 | obtain⟨_,rfl⟩:=du h2
  rename_i xs ys;have n1:qR xs=true:=n1;have n2:qR ys=true:=n2;cases r1 with
  | tuple k1 k2 k3 k4 =>
   cases r2 with
   | tuple m1 m2 m3 m4 =>
    rename_i p o vs c p' o' ws c';have hd:(pd (.tup xs)).depth=cE (nA xs)+1:=rfl;obtain⟨n',rfl⟩:∃ n',n=n'+1:=⟨n - 1,by lia⟩;have z1:=readsAll_len k4;have z2:=readsAll_len m4;have e1:vs.size=xs.length:=by simpa using z1
    have e2:ws.size=ys.length:=by simpa using z2
    have base:=Hz (A:=A) (s:=s) (e:=fun j=>iM (xs.getD j .eU) (ys.getD j .eU)) (lt:=fun j=>oY (xs.getD j .eU) (ys.getD j .eU)) ⟨_,k1,k2,_,k3⟩ ⟨_,m1,m2,_,m3⟩ (by lia) (fun j j1 j2=>by
     refine⟨CM k4 m4 n1 n2 (by show A.units+1+_ < _; lia) j j1 j2,?_⟩;obtain⟨XZ,q1⟩:=jY k4 j (by simpa using j1);obtain⟨XW,q2⟩:=jY m4 j (by simpa using j2);obtain⟨sj,hsj,g1,g2⟩:=qT (l:=l) (ds:=xs) h1 j (by lia);obtain⟨sj',aam,g1',XH⟩:=qT (l:=l) (ds:=ys) h2 j (by lia);rw [g2] at XH; cases XH;have dp:=kY xs j;have:=ih n' (by lia) sj (xs.getD j .eU) (ys.getD j .eU) A.in1 s _ _ _ _ (by lia) g1 g1' (pB n1 j) (pB n2 j) q1 q2 (by show A.units+1+n' < cLine; lia);simpa using this)
    have fin:=oP xs ys (min xs.length ys.length) 0 (cC _) rfl;rw [e1,e2,fin] at base;exact base
 | lst l =>
  first | obtain⟨_,rfl⟩:=dw h1 | obtain⟨_,rfl⟩:=dq h1 | obtain⟨_,rfl⟩:=du h1
  first | obtain⟨_,rfl⟩:=dw h2 | obtain⟨_,rfl⟩:=dq h2 | obtain⟨_,rfl⟩:=du h2
  rename_i xs ys;have n1:qR xs=true:=n1;have n2:qR ys=true:=n2;cases r1 with
  | list k1 k2 k3 k4 =>
   cases r2 with
   | list m1 m2 m3 m4 =>
    rename_i p o vs c p' XZ o' ws c' XW;have hd:(pd (.dP xs)).depth=cE (nA xs)+1:=rfl;obtain⟨n',rfl⟩:∃ n',n=n'+1:=⟨n - 1,by lia⟩;have z1:=readsAll_len k4;have z2:=readsAll_len m4;have e1:vs.size=xs.length:=by simpa using z1
    have e2:ws.size=ys.length:=by simpa using z2
    have base:=Lo (A:=A) (s:=s) (e:=fun j=>iM (xs.getD j .eU) (ys.getD j .eU)) (lt:=fun j=>oY (xs.getD j .eU) (ys.getD j .eU)) ⟨_,k1,k2,_,k3⟩ ⟨_,m1,m2,_,m3⟩ (by lia) (fun j j1 j2=>by
     refine⟨CM k4 m4 n1 n2 (by show A.units+1+_ < _; lia) j j1 j2,?_⟩;obtain⟨XZ,q1⟩:=jY k4 j (by simpa using j1);obtain⟨XW,q2⟩:=jY m4 j (by simpa using j2);have dp:=kY xs j;have:=ih n' (by lia) l (xs.getD j .eU) (ys.getD j .eU) A.in1 s _ _ _ _ (by lia) (qU (s:=l) (ds:=xs) h1 j (by lia)) (qU (s:=l) (ds:=ys) h2 j (by lia)) (pB n1 j) (pB n2 j) q1 q2 (by show A.units+1+n' < cLine; lia);simpa using this)
    have fin:=oP xs ys (min xs.length ys.length) 0 (cC _) rfl;rw [e1,e2,fin] at base;exact base
end K2
end
section
namespace K2
open PySem PySem.Spec PyProof.Rows L2 PySem.W
section
variable {prog:bM} {w:World} {A:dD} {E:Value->az->Prop} {s:az}
theorem Nu {at':Addr} {bW:List Value} {n:Nat} {P:PySem.Fin->az->Prop} (LO:s.heap.get? at'=some (x3 "list" bW.toArray n)) (Az:bW.length < 2)
  (done:P (.done (.ret .none)) { s with heap:=sortedHeap s.heap at' bW bW.toArray }):wpAny (model prog w) A (Builtin.«list.sort» ⟨[.ref at'],[]⟩) P E s:=by
 rw [list_sort_plain];have lt':at' < s.heap.objs.size:=aS LO;refine ag (listItems_at LO rfl (ag (listUpdate_at LO rfl ?_)));obtain⟨c,hc⟩:∃ c,(s.heap.update at' (fM fun _=>#[])).get? at'=some (x3 "list" #[] c):=⟨_,get?_update_seq LO (fun _=>#[])⟩;refine ag (seqEpoch_at hc rfl (ag (wpAny_newTuple (ag (wpAny_newList (eM ?_))))));have h6:(((s.heap.update at' (fM fun _=>#[])).push (x3 "tuple" bW.toArray 0)).push (x3 "list" #[] 0)).get? at'=some (x3 "list" #[] c):=by
  rw [Heap.get?_push_ne _ _ _ (by rw [size_push',Ds]; exact bK (Nat.lt_succ_of_lt lt')),Heap.get?_push_ne _ _ _ (by rw [Ds]; exact bK lt')];exact hc
 show wpAny (model prog w) A _ P E { s with heap:=((s.heap.update at' (fM fun _=>#[])).push (x3 "tuple" bW.toArray 0)).push (x3 "list" #[] 0) };dsimp only;have sz2:bW.toArray.size < 2:=by simpa using Az
 rw [if_pos sz2,if_pos sz2];refine ag (aC ?_);rw [StateT.run_pure];refine ag (aC ?_);dsimp only;have es:(bW.toArray.zip bW.toArray).map (·.2)=bW.toArray:=by
  apply Array.toList_inj.mp;simp [List.map_snd_zip]
 refine ag (seqEpoch_at h6 rfl (ag (listUpdate_at h6 rfl ?_ (hsz2:=by rw [show (arrOf (SortSt.mk' general' (bW.toArray.zip bW.toArray) #[] 7 none)).map (·.2)=bW.toArray from es,cY]; simp; lia))));simp only [bne_self_eq_false,aw,if_false];refine aC ?_;rw [show (arrOf (SortSt.mk' general' (bW.toArray.zip bW.toArray) #[] 7 none)).map (·.2)=bW.toArray from es];exact done
theorem GV{l:Addr}{bW:List Value}{Q:Value->az->Prop}(hl:s.heap.IsList l bW.toArray)(Az:bW.length < 2)
  (done:Q (.ref (s.heap.objs.size+1)) { s with heap:=sortedAll s.heap bW bW.toArray }):wpAny (model prog w) A (call (.builtin "sorted") [.ref l]) Q E s:=by
 refine Calls.call_function_entry kind_sorted plain_sorted entry_sorted (args_sorted1 _) ?_;unfold Builtin.«sorted»;refine ag (m:=checkCount "sorted" 1 1 _) (aC (ag (collect_list hl (ag (wpAny_newList ?_)))));have e1:((s.heap.push (x3 "list" #[] 0)).update s.heap.objs.size (fM (·++bW.toArray))).objs.size=s.heap.objs.size+1:=by rw [Ds,size_push']
 have e2:(((s.heap.push (x3 "list" #[] 0)).update s.heap.objs.size (fM (·++bW.toArray))).push (x3 "list" bW.toArray 0)).get? (s.heap.objs.size+1)=some (x3 "list" bW.toArray 0):=by
  rw [<-e1]; exact bh _ rfl
 show wpAny _ _ _ _ _ { s with heap:=((s.heap.push (x3 "list" #[] 0)).update s.heap.objs.size (fM (·++bW.toArray))).push (x3 "list" bW.toArray 0) };rw [e1];refine ag (eM (c9 slot_list_sort ⟨_,e2,rfl⟩ entry_list_sort (Nu e2 Az ⟨_,rfl,?_⟩) (args_list_sort _)));exact aC ⟨_,rfl,done⟩
end
section
open PySem.SeqAt
noncomputable def Qi(A:dD)(s:az)(y x:Value)(b:Bool):Prop :=
 ∀ (prog:bM) (w:World) (E:Value->az->Prop) (Q:Bool->az->Prop),Q b s->wpAny (model prog w) A (oneLt' true y x) Q E s
theorem Hn{A:dD}{s:az}{l b:Addr}{xs ys:Array Value}{e lt:Nat->Bool}(hl:s.heap.IsList l xs)(hb:s.heap.IsList b ys)(hu:A.units < cLine)
  (he:∀ j (h1:j < xs.size) (h2:j < ys.size),EqAt A.in1 s xs[j] ys[j] (e j)/\zR A.in1 s xs[j] ys[j] (lt j)):Qi A s (.ref l) (.ref b) (sC e lt xs.size ys.size (min xs.size ys.size) 0):=by
 intro prog w E Q hq;obtain⟨⟨cls,dd,data,sl⟩,ho,hc,n,hd⟩:=id hl;obtain⟨⟨P4,Dx,data2,Jo⟩,E5,Bp,n2,hd2⟩:=id hb;simp only at hc hd Bp hd2;subst hc hd Bp hd2;rw [oneLt'_eq];simp only [if_true];refine ag (wpAny_cRoomFor hu (ag (IS (T:="list") ⟨_,ho,rfl⟩ uc ?_)));exact call_meets uc ⟨_,ho,rfl⟩ KD (IZ _ _) (Bh l b xs ys n n2 dd Dx sl Jo e lt) ⟨ho,E5,he,ub hq⟩
theorem Ey{A:dD}{s:az}{l b:Addr}{xs ys:Array Value}{e lt:Nat->Bool}(hl:s.heap.IsTuple l xs)(hb:s.heap.IsTuple b ys)(hu:A.units < cLine)
  (he:∀ j (h1:j < xs.size) (h2:j < ys.size),EqAt A.in1 s xs[j] ys[j] (e j)/\zR A.in1 s xs[j] ys[j] (lt j)):Qi A s (.ref l) (.ref b) (sC e lt xs.size ys.size (min xs.size ys.size) 0):=by
 intro prog w E Q hq;obtain⟨⟨cls,dd,data,sl⟩,ho,hc,n,hd⟩:=id hl;obtain⟨⟨P4,Dx,data2,Jo⟩,E5,Bp,n2,hd2⟩:=id hb;simp only at hc hd Bp hd2;subst hc hd Bp hd2;rw [oneLt'_eq];simp only [if_true];refine ag (wpAny_cRoomFor hu (ag (IS (T:="tuple") ⟨_,ho,rfl⟩ lK ?_)));exact call_meets lK ⟨_,ho,rfl⟩ sk (qv _ _) (ye l b xs ys n n2 dd Dx sl Jo e lt) ⟨ho,E5,he,ub hq⟩
theorem EZ{n:Nat}{A:dD}{s:az}{xs ys:List D}{vs ws:Array Value}{as bs:List Addr}(r1:hV s.heap vs.toList (nA xs) as)(r2:hV s.heap ws.toList (nA ys) bs)(n1:qR xs=true)(n2:qR ys=true)(hd:cE (nA xs)<=n)
  (hu:A.units+n < cLine) (hs:∀ j,j < xs.length->j < ys.length->∃ sh,cX sh (xs.getD j .eU)=true/\cX sh (ys.getD j .eU)=true) (j:Nat) (h1:j < vs.size) (h2:j < ws.size) :
  EqAt A s vs[j] ws[j] (iM (xs.getD j .eU) (ys.getD j .eU))/\zR A s vs[j] ws[j] (oY (xs.getD j .eU) (ys.getD j .eU)):=by
 have z1:=readsAll_len r1;have z2:=readsAll_len r2;have e1:vs.size=xs.length:=by simpa using z1
 have e2:ws.size=ys.length:=by simpa using z2
 refine⟨CM r1 r2 n1 n2 (by lia) j h1 h2,?_⟩;obtain⟨XZ,q1⟩:=jY r1 j (by simpa using h1);obtain⟨XW,q2⟩:=jY r2 j (by simpa using h2);obtain⟨sh,g1,g2⟩:=hs j (by lia) (by lia);have dp:=kY xs j;have:=yW n sh (xs.getD j .eU) (ys.getD j .eU) A s _ _ _ _ (by lia) g1 g2 (pB n1 j) (pB n2 j) q1 q2 hu;simpa using this
theorem wU{n:Nat}{sh:nR}{a b:D}{A:dD}{s:az}{u v:Value}{as bs:List Addr}(hn:(pd a).depth<=n)(h1:cX sh a=true)(h2:cX sh b=true)(n1:nr a=true)(n2:nr b=true)(r1:Reads s.heap u (pd a) as)(r2:Reads s.heap v (pd b) bs)
  (hu:A.units+n < cLine):Qi A s u v (oY a b):=by
 cases sh with
 | int =>
  first | obtain⟨_,rfl⟩:=dw h1 | obtain⟨_,rfl⟩:=dq h1 | obtain⟨_,rfl⟩:=du h1
  first | obtain⟨_,rfl⟩:=dw h2 | obtain⟨_,rfl⟩:=dq h2 | obtain⟨_,rfl⟩:=du h2
  cases r1; cases r2;intro prog w E Q hq;exact oneLt_int hq
 | tup l =>
  first | obtain⟨_,rfl⟩:=dw h1 | obtain⟨_,rfl⟩:=dq h1 | obtain⟨_,rfl⟩:=du h1
  first | obtain⟨_,rfl⟩:=dw h2 | obtain⟨_,rfl⟩:=dq h2 | obtain⟨_,rfl⟩:=du h2
  rename_i xs ys;have n1:qR xs=true:=n1;have n2:qR ys=true:=n2;cases r1 with
  | tuple k1 k2 k3 k4 =>
   cases r2 with
   | tuple m1 m2 m3 m4 =>
    rename_i p o vs c p' o' ws c';have hd:(pd (.tup xs)).depth=cE (nA xs)+1:=rfl;obtain⟨n',rfl⟩:∃ n',n=n'+1:=⟨n - 1,by lia⟩;have z1:=readsAll_len k4;have z2:=readsAll_len m4;have e1:vs.size=xs.length:=by simpa using z1
    have e2:ws.size=ys.length:=by simpa using z2
    have base:=Ey (A:=A) (s:=s) ⟨_,k1,k2,_,k3⟩ ⟨_,m1,m2,_,m3⟩ (by lia) (EZ (A:=A.in1) (n:=n') k4 m4 n1 n2 (by lia) (by show A.units+1+n' < cLine; lia) fun j j1 j2=>by
     obtain⟨sj,hsj,g1,g2⟩:=qT (l:=l) (ds:=xs) h1 j j1;obtain⟨sj',aam,g1',XH⟩:=qT (l:=l) (ds:=ys) h2 j j2;rw [g2] at XH; cases XH;exact⟨sj,g1,g1'⟩)
    have fin:=oP xs ys (min xs.length ys.length) 0 (cC _) rfl;rw [e1,e2,fin] at base;exact base
 | lst l =>
  first | obtain⟨_,rfl⟩:=dw h1 | obtain⟨_,rfl⟩:=dq h1 | obtain⟨_,rfl⟩:=du h1
  first | obtain⟨_,rfl⟩:=dw h2 | obtain⟨_,rfl⟩:=dq h2 | obtain⟨_,rfl⟩:=du h2
  rename_i xs ys;have n1:qR xs=true:=n1;have n2:qR ys=true:=n2;cases r1 with
  | list k1 k2 k3 k4 =>
   cases r2 with
   | list m1 m2 m3 m4 =>
    rename_i p o vs c p' XZ o' ws c' XW;have hd:(pd (.dP xs)).depth=cE (nA xs)+1:=rfl;obtain⟨n',rfl⟩:∃ n',n=n'+1:=⟨n - 1,by lia⟩;have z1:=readsAll_len k4;have z2:=readsAll_len m4;have e1:vs.size=xs.length:=by simpa using z1
    have e2:ws.size=ys.length:=by simpa using z2
    have base:=Hn (A:=A) (s:=s) ⟨_,k1,k2,_,k3⟩ ⟨_,m1,m2,_,m3⟩ (by lia) (EZ (A:=A.in1) (n:=n') k4 m4 n1 n2 (by lia) (by show A.units+1+n' < cLine; lia) fun j j1 j2=>⟨l,qU (s:=l) (ds:=xs) h1 j j1,qU (s:=l) (ds:=ys) h2 j j2⟩);have fin:=oP xs ys (min xs.length ys.length) 0 (cC _) rfl;rw [e1,e2,fin] at base;exact base
theorem Cp{prog:bM}{w:World}{A:dD}{s:az}{b fin:Bool}{Q:Bool->az->Prop}{n:Nat}(hu:A.units+n < cLine):∀ (l:List nR) (xs ys:List D) (vs ws:List Value) (as bs:List Addr) (i:Nat),fj l xs=true->fj l ys=true->qR xs=true->qR ys=true ->
  hV s.heap vs (nA xs) as->hV s.heap ws (nA ys) bs->cE (nA xs)<=n->fin=false->Q (lS xs ys) s->KatLex prog w A b fin Q (vs.zip ws) i s:=by
 intro l xs;induction xs generalizing l with
 | nil =>
  intro ys vs ws as bs i h1 h2 n1 n2 r1 r2 hd hf hq;cases r1;cases l with
  | nil =>
   cases ys with
   | nil=>cases r2; subst hf; exact hq
   | cons _ _=>cases h2
  | cons _ _=>cases h1
 | cons x xs ih =>
  intro ys vs ws as bs i h1 h2 n1 n2 r1 r2 hd hf hq;cases l with
  | nil=>cases h1
  | cons sh l =>
  cases ys with
  | nil=>cases h2
  | cons y ys =>
  cases r1 with
  | @cons v vs _ _ _ _ a1 a2 =>
  cases r2 with
  | @cons u ws _ _ _ _ b1 b2 =>
  have h1:(cX sh x&&fj l xs)=true:=h1;have h2:(cX sh y&&fj l ys)=true:=h2;have n1:(nr x&&qR xs)=true:=n1;have n2:(nr y&&qR ys)=true:=n2;rw [aK] at h1 h2 n1 n2;have hd1:(pd x).depth<=n/\cE (nA xs)<=n:=by
   have hd:cE (pd x :: nA xs)<=n:=hd;simp only [cE] at hd;lia
  show KatLex prog w A b fin Q ((v,u) :: vs.zip ws) i s;have eq:=eqAt_reads (pd x) (pd y) A s _ _ _ _ a1 b1 (kA _ n1.1) (kA _ n2.1) (by lia);rw [wa _ _ n1.1 n2.1] at eq;refine kat_cons (eq prog w _ _ ?_);rw [mO] at hq;cases q:iM x y with
  | true =>
   rw [q,if_pos rfl] at hq;exact kat_yes (ih l ys vs ws _ _ (i+1) h1.2 h2.2 n1.2 n2.2 a2 b2 hd1.2 hf hq)
  | false =>
   rw [q,if_neg (by simp)] at hq;refine kat_no ?_;cases c:(b&&i == 0) with
   | true=>exact wU hd1.1 h1.1 h2.1 n1.1 n2.1 a1 b1 hu prog w _ Q hq
   | false=>exact kat_one v u (yW n sh x y A s _ _ _ _ hd1.1 h1.1 h2.1 n1.1 n2.1 a1 b1 hu prog w _ _ hq)
end
noncomputable def k9{α:Type}(n:Nat)(P:α->Prop):KasT α->Prop
 | .ret a=>P a
 | .ask i j k=>i < n/\j < n/\∀ b,k9 n P (k b)
theorem k9.bind{α β:Type}{n:Nat}{P:α->Prop}{P':β->Prop}{f:α->KasT β}:∀ {t:KasT α},k9 n P t->(∀ a,P a->k9 n P' (f a))->k9 n P' (t.bind f)
 | .ret a,q,h=>h a q
 | .ask i j k,⟨q1,q2,q3⟩,h=>⟨q1,q2,fun b=>k9.bind (q3 b) h⟩
theorem EW{α:Type}{n:Nat}{lt:Nat->Nat->Bool}{cmp:Nat->Nat->(Bool->az->Prop)->az->Prop}{s:az}{Q:α->az->Prop}(hc:∀ i j,i < n->j < n->∀ C:Bool->az->Prop,C (lt i j) s->cmp i j C s) :
  ∀ (t:KasT α),k9 n (fun _=>True) t->Q (ip lt t) s->t.kasWp cmp Q s
 | .ret a,_,q=>q
 | .ask i j k,⟨h1,h2,h3⟩,q=>hc i j h1 h2 _ (EW hc (k (lt i j)) (h3 _) q)
noncomputable def Bd(n:Nat)(p:Array Nat):Prop:=0 < n/\∀ x∈p,x < n
theorem Bd.at{n:Nat}{p:Array Nat}(h:Bd n p)(k:Nat):p.getD k 0 < n:=by
 by_cases hk:k < p.size
 ·have:p.getD k 0=p[k]:=by simp [Jd,hk]
  rw [this]; exact h.2 _ (Array.getElem_mem hk)
 ·have:p.getD k 0=0:=by simp [Jd,hk]
  rw [this]; exact h.1
theorem Bd.perm{n:Nat}{p q:Array Nat}(h:Bd n p)(hp:q.Perm p):Bd n q:=⟨h.1,fun x hx=>h.2 x (hp.mem_iff.mp hx)⟩
theorem C5{n:Nat}{p:Array Nat}(h:Bd n p):∀ (f k:Nat),k9 n (fun _=>True) (qr p f k)
 | 0,k=>trivial
 | f+1,k=>⟨h.at _,h.at _,fun b=>by
  show k9 n _ (if b=true then vD k else qr p f (k+1));split
  ·trivial
  ·exact C5 h f (k+1)⟩
theorem vm{n:Nat}:∀ (f:Nat) (p:Array Nat) (k q:Nat),Bd n p->k9 n (fun r=>Bd n r.1) (lg f p k q)
 | 0,p,k,q,h=>h
 | f+1,p,k,q,h=>⟨h.at _,h.at _,fun b=>by
  show k9 n _ (if b=true then (if q > 0 then lg f (gF p (k - (q+1)) k) (k+1) 0 else lg f p (k+1) 0) else .ask (p.getD (k - 1) 0) (p.getD k 0) fun d=>if d=true then .ret (p,k,q) else lg f p (k+1) (q+1));split
  ·split
   ·exact vm f _ _ _ (h.perm (jX _ _ _))
   ·exact vm f _ _ _ h
  ·refine⟨h.at _,h.at _,fun d=>?_⟩;show k9 n _ (if d=true then vD (p,k,q) else lg f p (k+1) (q+1));split
   ·exact h
   ·exact vm f _ _ _ h⟩
theorem FL{n:Nat}{p:Array Nat}(h:Bd n p)(k m:Nat):k9 n (fun r=>Bd n r.2) (MP k m p) :=
 k9.bind (C5 (h.perm (jX _ _ _)) _ _) fun _ _=>h.perm (jX _ _ _)
theorem vk{n:Nat}{p:Array Nat}(h:Bd n p)(k m:Nat):k9 n (fun r=>Bd n r.2) (x5 k m p) :=
 k9.bind (vm _ _ _ _ h) fun r hr=>by
  split
  ·exact FL (hr.perm (jX _ _ _)) _ _
  ·exact FL hr _ _
theorem L7{n:Nat}{p:Array Nat}(h:Bd n p)(m:Nat):k9 n (fun r=>Bd n r.2) (kas_count m p) :=
 k9.bind (C5 h _ _) fun k _=>by
  split
  ·exact h
  ·split
   ·refine⟨h.at _,h.at _,fun b=>?_⟩;show k9 n _ (if b=true then vD (k,p) else x5 k m (gF p 0 k));split
    ·exact h
    ·exact vk (h.perm (jX _ _ _)) _ _
   ·exact vk h _ _
theorem wo{n:Nat}{p:Array Nat}(h:Bd n p)(k:Nat):∀ (f l r:Nat),k9 n (fun _=>True) (jO p k f l r)
 | 0,l,r=>trivial
 | f+1,l,r=>by
  show k9 n _ (if l>=r then vD l else .ask (p.getD k 0) (p.getD ((l+r) / 2) 0) fun c=>if c=true then jO p k f l ((l+r) / 2) else jO p k f ((l+r) / 2+1) r);split
  ·trivial
  ·refine⟨h.at _,h.at _,fun b=>?_⟩;show k9 n _ (if b=true then jO p k f l ((l+r) / 2) else jO p k f ((l+r) / 2+1) r);split
   ·exact wo h k f _ _
   ·exact wo h k f _ _
theorem Ks{n:Nat}:∀ (f:Nat) (p:Array Nat) (k:Nat),Bd n p->k9 n (fun _=>True) (kas_bin f p k)
 | 0,p,k,h=>trivial
 | f+1,p,k,h=>k9.bind (wo h k _ _ _) fun l _=>Ks f _ _ (h.perm (bubble_perm _ _ _))
theorem Qg{n:Nat}(h:0 < n):k9 n (fun _=>True) (kas_sort n) :=
 k9.bind (L7 ⟨h,fun x hx=>by simpa using hx⟩ n) fun r hr=>by
  split
  ·exact Ks _ _ _ hr
  ·trivial
end K2
end
section
namespace K2
open PySem PySem.Spec PyProof.Rows L2 PySem.W
mutual
theorem wJ{h h':Heap}(hk:∀ b o vs n,o.data=.seq vs n->h.get? b=some o->h'.get? b=some o):∀ (d:D) {v:Value} {as:List Addr},nr d=true->Reads h v (pd d) as->Reads h' v (pd d) as
 | .eU,_,_,_,r=>by cases r; exact .none
 | .bl b,_,_,_,r=>by cases r; exact .bool b
 | .int i,_,_,_,r=>by cases r; exact .int i _
 | .str x,_,_,_,r=>by cases r; exact .str x _
 | .tup ds,_,_,n,r=>by
  cases r with
  | tuple h1 h2 h3 h4=>exact .tuple (hk _ _ _ _ h3 h1) h2 h3 (mH hk ds n h4)
 | .dP ds,_,_,n,r=>by
  cases r with
  | list h1 h2 h3 h4=>exact .list (hk _ _ _ _ h3 h1) h2 h3 (mH hk ds n h4)
 | .kJ _,_,_,n,_=>by cases n
 | .ref _,_,_,n,_=>by cases n
 | .exc _,_,_,n,_=>by cases n
theorem mH{h h':Heap}(hk:∀ b o vs n,o.data=.seq vs n->h.get? b=some o->h'.get? b=some o):∀ (ds:List D) {vs:List Value} {as:List Addr},qR ds=true->hV h vs (nA ds) as->hV h' vs (nA ds) as
 | [],_,_,_,r=>by cases r; exact .nil
 | d :: ds,_,_,n,r=>by
  have n:(nr d&&qR ds)=true:=n;rw [aK] at n;cases r with
  | cons r1 r2=>exact .cons (wJ hk d n.1 r1) (mH hk ds n.2 r2)
end
mutual
theorem GW(G:Gp):∀ (sh:nR) (d:D) (n:Nat),cX sh d=true->TK sh<=n->Sn G n d d
 | .int,.int i,n,_,_=>.int i
 | .tup l,.tup ds,n,h,hn=>by
  have hn:PM l+1<=n:=hn;obtain⟨m,rfl⟩:∃ m,n=m+1:=⟨n - 1,by lia⟩;exact Jl G l ds m h (by lia)
 | .lst s,.dP ds,n,h,hn=>by
  have hn:TK s+1<=n:=hn;obtain⟨m,rfl⟩:∃ m,n=m+1:=⟨n - 1,by lia⟩;exact Jm G s ds m h (by lia)
theorem Jl(G:Gp):∀ (l:List nR) (ds:List D) (m:Nat),fj l ds=true->PM l<=m->Sn G (m+1) (.tup ds) (.tup ds)
 | [],[],m,_,_=>.GN
 | s :: l,d :: ds,m,h,hm=>by
  have h:(cX s d&&fj l ds)=true:=h;have hm:max (TK s) (PM l)<=m:=hm;rw [aK] at h;exact .qB (GW G s d m h.1 (by lia)) (Jl G l ds m h.2 (by lia))
theorem Jm(G:Gp):∀ (s:nR) (ds:List D) (m:Nat),gJ s ds=true->TK s<=m->Sn G (m+1) (.dP ds) (.dP ds)
 | s,[],m,_,_=>.K6
 | s,d :: ds,m,h,hm=>by
  have h:(cX s d&&gJ s ds)=true:=h;rw [aK] at h;exact .A4 (GW G s d m h.1 hm) (Jm G s ds m h.2 hm)
end
theorem getD_at{α:Type}(xs:List α)(d:α){i:Nat}(h:i < xs.length):xs.getD i d=xs[i]:=by
 rw [dU,ay h]; rfl
theorem yT{α:Type}(xs:List α)(d:α):(fK xs.length).map (fun i=>xs.getD i d)=xs:=by
 refine List.ext_getElem (by simp) fun i h1 h2=>?_;rw [ka,qe];exact getD_at _ _ h2
theorem DS{h:Heap}{s1:nR}{l:List nR}:∀ (zs:List D) (vs:List Value),(∀ z∈zs,cX (.tup (s1 :: l)) z=true)->(∀ i,i < vs.length->∃ as,Reads h (vs.getD i .none) (pd (zs.getD i .eU)) as)->vs.length=zs.length ->
  ∃ fs,KatTups h vs fs/\fs.length=vs.length/\∀ f∈fs,∃ d as,cX s1 d=true/\Reads h f (pd d) as:=by
 intro zs;induction zs with
 | nil =>
  intro vs _ _ h;have:vs=[]:=List.length_eq_zero_iff.mp h;subst this;exact⟨[],trivial,rfl,fun _ h=>by cases h⟩
 | cons z zs ih =>
 intro vs hs hr hl;cases vs with
 | nil=>cases hl
 | cons v vs =>
  obtain⟨fs,h1,h2,h3⟩:=ih vs (fun z hz=>hs z (aE _ hz)) (fun i hi=>by
   obtain⟨as,r⟩:=hr (i+1) (by simpa using hi);exact⟨as,by simpa using r⟩) (by simpa using hl)
  obtain⟨as,r⟩:=hr 0 (by simp);have hz:=hs z (by simp);simp only [List.getD_cons_zero] at r;cases z <;> first | (cases hz; done) | skip
  rename_i ds;cases ds with
  | nil=>cases hz
  | cons d ds =>
   have hz:(cX s1 d&&fj l ds)=true:=hz;rw [aK] at hz;cases r with
   | tuple k1 k2 k3 k4 =>
    rename_i p o ws c;have k5:hV h ws.toList (pd d :: nA ds) as:=k4;cases q:ws.toList with
    | nil=>rw [q] at k5; cases k5
    | cons f rest =>
     rw [q] at k5;cases k5 with
     | cons r1 r2 =>
      have hf:ws[0]?=some f:=by
       have:ws.toList[0]?=some f:=by rw [q]; rfl
       simpa using this
      refine⟨f :: fs,.cons k1 k2 k3 hf h1,by simp [h2],fun g hg=>?_⟩;rcases List.mem_cons.mp hg with rfl | hg
      ·exact⟨d,_,hz.1,r1⟩
      ·exact h3 g hg
noncomputable def M8:nR->Value
 | .int=>.type "int"
 | .tup _=>.type "tuple"
 | .lst _=>.type "list"
theorem Bf{M:Model}{h:Heap}{sh:nR}{d:D}{v:Value}{as:List Addr}(hs:cX sh d=true)(r:Reads h v (pd d) as):Looks M h (typeOf v) (M8 sh):=by
 cases sh with
 | int =>
  cases d <;> first | (cases hs; done) | skip
  cases r;exact .now
 | tup l =>
  cases d <;> first | (cases hs; done) | skip
  cases r with
  | tuple k1 k2 k3 k4 =>
   rename_i p o ws c;have:Looks M h (typeOf (.ref p)) o.cls:=(Looks.ld k1).andThen .now;rw [k2] at this; exact this
 | lst l =>
  cases d <;> first | (cases hs; done) | skip
  cases r with
  | list k1 k2 k3 k4 =>
   rename_i p o ws c as;have:Looks M h (typeOf (.ref p)) o.cls:=(Looks.ld k1).andThen .now;rw [k2] at this; exact this
theorem Lx{prog:bM}{w:World}{A:dD}{s:az}{E:Value->az->Prop}{Q:Bool->az->Prop}{n:Nat}{b:Bool}{l:List nR}{a c:D}{u v:Value}{as bs:List Addr}(hn:(pd a).depth<=n+1)(h1:cX (.tup l) a=true)(h2:cX (.tup l) c=true)(n1:nr a=true)(n2:nr c=true)
  (r1:Reads s.heap u (pd a) as) (r2:Reads s.heap v (pd c) bs) (hu:A.units+n < cLine) (hq:Q (oY a c) s):wpAny (model prog w) A (keyLt' (tuples' b) u v) Q E s:=by
 first | obtain⟨_,rfl⟩:=dw h1 | obtain⟨_,rfl⟩:=dq h1 | obtain⟨_,rfl⟩:=du h1
 first | obtain⟨_,rfl⟩:=dw h2 | obtain⟨_,rfl⟩:=dq h2 | obtain⟨_,rfl⟩:=du h2
 rename_i xs ys;cases r1 with
 | tuple k1 k2 k3 k4 =>
  cases r2 with
  | tuple m1 m2 m3 m4 =>
   rename_i p o vs c p' o' ws c';have z1:=readsAll_len k4;have z2:=readsAll_len m4;have e1:vs.size=xs.length:=by simpa using z1
   have e2:ws.size=ys.length:=by simpa using z2
   have el:∀ (l:List nR) (xs ys:List D),fj l xs=true->fj l ys=true->xs.length=ys.length:=by
    intro l;induction l with
    | nil =>
     intro xs ys h1 h2;cases xs with
     | nil=>cases ys with
      | nil=>rfl
      | cons _ _=>cases h2
     | cons _ _=>cases h1
    | cons s l ih =>
     intro xs ys h1 h2;cases xs with
     | nil=>cases h1
     | cons x xs =>
      cases ys with
      | nil=>cases h2
      | cons y ys =>
       have h1:(cX s x&&fj l xs)=true:=h1;have h2:(cX s y&&fj l ys)=true:=h2;rw [aK] at h1 h2;rw [ak,ak,ih xs ys h1.2 h2.2]
   have hd:(pd (.tup xs)).depth=cE (nA xs)+1:=rfl;refine kat_lt k1 k3 m1 m3 (Cp (n:=n) hu l xs ys _ _ _ _ 0 h1 h2 n1 n2 k4 m4 (by lia) (decide_eq_false (by rw [e1,e2,el l xs ys h1 h2]; lia)) hq)
section
variable {X:Cx}
theorem Be{x:D}{G:Gp}{zs:List D}(ty:Gd x G)(hi:itemsOf x G=some zs):pQ x G=some zs:=by
 cases x <;> first | exact ty.elim | exact hi
theorem ve (hc:X.calm=true) (hu:X.A.units+64 < cLine):rE X (.builtin "sorted") vi:=by
 intro pins s σ H G xs ds us Q I ab rx rd q;unfold vi at q;split at q
 ·rename_i x;obtain⟨sh,zs,ty,hi,Aw,cL,h64,q⟩:=q;obtain⟨w1,rfl,D7⟩:=rd.one;obtain⟨u,rfl,ru⟩:=rx.one;obtain⟨l,vs,bW,rfl,rv,rs,hl,_⟩:=kF I ab ru D7 (Be ty hi);have hl1:=rv.length;have z8:=rs.length;have hsz:bc=16777216:=cY;have hz:∀ z∈zs,cX sh z=true:=fun z h=>List.all_eq_true.mp Aw z h;by_cases Az:bW.length < 2
  ·refine GV hl Az ?_;obtain⟨e,he⟩:=sortedAll_at s.heap bW bW.toArray;have hp:H (s.heap.objs.size+1)=none:=I.cL.fresh (GB _);have es:qD zs=zs:=uj sh hz (.refl _) (by
    match zs,z8,Az with
    | [],_,_=>exact .nil
    | [z],_,_=>exact List.pairwise_singleton _ _
    | _ :: _ :: _,h,f=>exact absurd f (by rw [<-hl1,h]; simp))
   rw [es] at q;refine⟨.ref (s.heap.objs.size+1),upd H (s.heap.objs.size+1) (.lst vs),.ref _,_,I.laid (t':=s.toks) (fun b o e=>sortedAll_old e) (GB _) ?_,.EF ab hp rs,rfl,.ref _,q _ (ab.free hp)⟩;exact⟨by lia,bW,e,rv,he⟩
  ·obtain⟨m,F0⟩:=I.fr;have nz:0 < zs.length:=by lia
   have nL:∀ b o vs n,o.data=.seq vs n->s.heap.get? b=some o->b≠X.env.locals:=fun b o vs n e1 e2 z=>by
    obtain⟨o',es,ep,Dw,z9,_⟩:=F0.ns;rw [z,Dw] at e2; cases e2; rw [z9] at e1; cases e1
   unfold UT at cL;rw [aK] at cL;have hdp:TK sh<=7:=of_decide_eq_true cL.1;have sn:∀ z∈zs,Sn G 7 z z:=fun z h=>GW G sh z 7 (hz z h) hdp;refine kat_sorted F0 EE hl (by lia) (by lia) fun Dd e1 h' F N za=>?_;obtain⟨kk,ns⟩:=vU I F0 F fun p hp=>N p (aE _ hp);have Ee:∀ i,i < bW.length->∃ as,Reads h' (bW.getD i .none) (pd (zs.getD i .eU)) as:=fun i hi=>by
    have i1:i < zs.length:=by lia
    have i2:i < vs.length:=by lia
    have g1:zs.getD i .eU=zs[i]:=getD_at _ _ i1;have g2:bW.getD i .none=bW[i]:=getD_at _ _ hi;obtain⟨v,hv,Zj⟩:=rs.get (ay i1);obtain⟨u,HM,Zg⟩:=rv.get hv;rw [ay hi] at HM;cases HM;obtain⟨as,r⟩:=(ko I ab (sn _ (fN i1))).1 v _ Zj Zg;rw [g1,g2];exact⟨as,wJ (fun b o vs n e1 e2=>kk b o (nL b o vs n e1 e2) e2) _ (sn _ (fN i1)).nr r⟩
   have AW:∀ i,i < zs.length->cX sh (zs.getD i .eU)=true:=fun i hi=>by rw [getD_at _ _ hi]; exact hz _ (fN hi)
   have Yp:∀ i,i < zs.length->nr (zs.getD i .eU)=true:=fun i hi=>by rw [getD_at _ _ hi]; exact(sn _ (fN hi)).nr
   have dpz:∀ i,i < zs.length->(pd (zs.getD i .eU)).depth<=7:=fun i hi=>by rw [getD_at _ _ hi]; exact CS (sn _ (fN hi))
   let zz:Nat->D:=fun i=>if i < zs.length then zs.getD i .eU else zs.getD 0 .eU
   have Wj:∀ i,cX sh (zz i)=true:=fun i=>by
    show cX sh (if i < zs.length then zs.getD i .eU else zs.getD 0 .eU)=true;split
    ·exact AW i (by assumption)
    ·exact AW 0 nz
   let lt:Nat->Nat->Bool:=fun i j=>oY (zz i) (zz j)
   have swo:Ma lt:=⟨fun i j h=>Bc sh (Wj i) (Wj j) h,fun i j k h1 h2=>yV sh (Wj i) (Wj j) (Wj k) h1 h2⟩;have lte:∀ i j,i < zs.length->j < zs.length->lt i j=oY (zs.getD i .eU) (zs.getD j .eU):=fun i j hi hj=>by
    show oY (if i < zs.length then _ else _) (if j < zs.length then _ else _)=_;rw [if_pos hi,if_pos hj]
   obtain⟨p,ep,E4,psz,hup⟩:=NB swo (n:=bW.length) (by lia);have hA2:X.A.in1.in1.units=X.A.units+2:=rfl;have ask:∀ κ:SortKind,(∀ i j,i < bW.length->j < bW.length->∀ C:Bool->az->Prop,C (oY (zs.getD i .eU) (zs.getD j .eU)) { s with heap:=h' }->kas_ask X.prog X.w X.A.in1.in1 κ bW i j C { s with heap:=h' }) ->
     (kas_sort bW.length).kasWp (kas_ask X.prog X.w X.A.in1.in1 κ bW) (fun p Wz=>KasFin X.base X.env.locals m Dd e1 (p.toList.map fun i=>bW.getD i fX) (fun s3=>tW X pins σ H G Q (.ref Dd) s3) Wz) { s with heap:=h' }:=by
    intro κ hk;refine EW (lt:=lt) (n:=bW.length) (fun i j i1 i2 C hC=>hk i j i1 i2 C (by rw [<-lte i j (by lia) (by lia)]; exact hC)) _ (Qg (by lia)) ?_;rw [ep];refine KasFin.intro (g:=fun o=>(Dd,o) :: se X.base s.heap X.env.locals) F N (.head (fun q hq z=>absurd (za q hq) (by rw [z]; exact iH _))) fun h2 c F2 N2=>?_;obtain⟨k2,ns2⟩:=vU I F0 F2 fun p hp=>N2 p (aE _ hp);have hD:s.heap.get? Dd=none:=by
     have nD:=N _ cz;cases qd:s.heap.get? Dd with
     | none=>rfl
     | some o=>exact absurd (za _ (wW nD.2.1 nD.2.2 qd)) (iH _)
    have hp:H Dd=none:=J9 I.cL hD;have rvp:Vals (p.toList.map fun i=>vs.getD i .eU) (p.toList.map fun i=>bW.getD i fX):=by
     have:∀ (ps:List Nat),(∀ i∈ps,i < bW.length)->Vals (ps.map fun i=>vs.getD i .eU) (ps.map fun i=>bW.getD i fX):=by
      intro ps;induction ps with
      | nil=>intro _; exact .nil
      | cons i ps ih =>
       intro hh;have hi:=hh i (by simp);refine .cons ?_ (ih fun j hj=>hh j (aE _ hj));have i2:i < vs.length:=by lia
       obtain⟨u,HM,Zg⟩:=rv.get (ay i2);rw [ay hi] at HM;cases HM;show RelV (vs.getD i .eU) (bW.getD i .none);rw [getD_at _ _ i2,getD_at _ _ hi]; exact Zg
     exact this _ fun i hi=>by simpa using E4.mem_iff.mp hi
    have rsp:br X.K H (p.toList.map fun i=>vs.getD i .eU) (p.toList.map fun i=>zs.getD i .eU):=by
     have:∀ (ps:List Nat),(∀ i∈ps,i < bW.length)->br X.K H (ps.map fun i=>vs.getD i .eU) (ps.map fun i=>zs.getD i .eU):=by
      intro ps;induction ps with
      | nil=>intro _; exact .nil
      | cons i ps ih =>
       intro hh;have hi:=hh i (by simp);refine .cons ?_ (ih fun j hj=>hh j (aE _ hj));have i2:i < vs.length:=by lia
       have i1:i < zs.length:=by lia
       obtain⟨v,hv,r⟩:=rs.get (ay i1);rw [ay i2] at hv;cases hv;show cw X.K H (vs.getD i .eU) (zs.getD i .eU);rw [getD_at _ _ i2,getD_at _ _ i1]; exact r
     exact this _ fun i hi=>by simpa using E4.mem_iff.mp hi
    have es:qD zs=p.toList.map fun i=>zs.getD i .eU:=by
     refine uj sh hz ?_ ?_
     ·have h1:(p.toList.map fun i=>zs.getD i .eU).Perm ((fK zs.length).map fun i=>zs.getD i .eU):=by
       have:bW.length=zs.length:=by lia
       rw [<-this];exact E4.map _
      rw [yT] at h1;exact h1
     ·rw [AQ,List.pairwise_iff_getElem];intro i j hi hj LK;have g1:gA p i=p.toList[i]:=by
       have:i < p.size:=by simpa using hi
       simp [gA,Jd,this]
      have g2:gA p j=p.toList[j]:=by
       have:j < p.size:=by simpa using hj
       simp [gA,Jd,this]
      have bi:p.toList[i] < bW.length:=by simpa using E4.mem_iff.mp (fN hi)
      have bj:p.toList[j] < bW.length:=by simpa using E4.mem_iff.mp (fN hj)
      have:=hup i j (by lia) (by have:j < p.toList.length:=hj; rw [eE,psz] at this; exact this);rw [g1,g2,lte _ _ (by lia) (by lia)] at this;exact this
    rw [es] at q;have ln:(p.toList.map fun i=>vs.getD i .eU).length<=bc:=by rw [aq,eE,psz]; lia
    refine⟨.ref Dd,upd H Dd (.lst (p.toList.map fun i=>vs.getD i .eU)),.ref _,_,Inv.Td (t':=s.toks) I k2 ns2 hD ?_,.EF ab hp rsp,rfl,.ref _,q _ (ab.free hp)⟩;exact⟨ln,_,c,rvp,(N2 _ cz).1⟩
   have gen:∀ i j,i < bW.length->j < bW.length->∀ C:Bool->az->Prop,C (oY (zs.getD i .eU) (zs.getD j .eU)) { s with heap:=h' }->wpAny (model X.prog X.w) X.A.in1.in1 (keyLt' oneType' (bW.getD i fX) (bW.getD j fX)) C (fun _ _=>False) { s with heap:=h' }:=by
    intro i j hi hj C hC;obtain⟨as,r1⟩:=Ee i hi;obtain⟨bs,r2⟩:=Ee j hj;rw [keyLt'_oneType];exact wU (s:={ s with heap:=h' }) (n:=7) (dpz i (by lia)) (AW i (by lia)) (AW j (by lia)) (Yp i (by lia)) (Yp j (by lia)) r1 r2 (by rw [hA2]; lia) X.prog X.w _ C hC
   have lk:∀ v∈bW,Looks (model X.prog X.w) h' (typeOf v) (M8 sh):=fun v hv=>by
    obtain⟨i,hi,rfl⟩:=List.getElem_of_mem hv;obtain⟨as,r⟩:=Ee i hi;rw [getD_at _ _ hi] at r;exact Bf (AW i (by lia)) r
   cases sh with
   | int=>exact kas_kind (s:={ s with heap:=h' }) (T:=.type "int") (by lia) lk rfl rfl (ask oneType' gen)
   | lst ss=>exact kas_kind (s:={ s with heap:=h' }) (T:=.type "list") (by lia) lk rfl rfl (ask oneType' gen)
   | tup ss =>
    cases ss with
    | nil=>exact absurd cL.2 (by simp)
    | cons s1 ss =>
     obtain⟨fs,t1,t2,t3⟩:=DS (h:=h') zs bW hz Ee (by lia);refine kat_kind (s:={ s with heap:=h' }) (T:=M8 s1) t1 (by lia) (fun f hf=>?_) (by cases s1 <;> rfl) (ask _ fun i j hi hj C hC=>?_)
     ·obtain⟨d,as,h1,h2⟩:=t3 f hf;exact Bf h1 h2
     ·obtain⟨as,r1⟩:=Ee i hi;obtain⟨bs,r2⟩:=Ee j hj;exact Lx (s:={ s with heap:=h' }) (n:=7) (by have:=dpz i (by lia); lia) (AW i (by lia)) (AW j (by lia)) (Yp i (by lia)) (Yp j (by lia)) r1 r2 (by rw [hA2]; lia) hC
 ·exact q.elim
end
end K2
end
section
namespace L2
open PySem PySem.Spec PyProof.Rows
section
variable {prog:bM} {w:World} {A:dD} {E:Value->az->Prop} {s:az}
theorem HC{d:Addr}{od:Obj}{es:Array ft}{c:Nat}{Q:Value->az->Prop}(ns:(d == da)=false)(Dv:s.heap.get? d=some od)(ex:od.ExactDict)(dd:od.data=.dict es c)
  (hQ:Q (.ref s.heap.objs.size) { s with heap:=s.heap.push { cls:=.type "dict_keyiterator",data:=.fields #[.ref d,.int 0 0,.int es.size 0,.int c 0] } }):wpAny (model prog w) A (MO (.ref d)) Q E s:=by
 have ty:s.TypeIs (.ref d) "dict":=⟨od,Dv,ex.1⟩;refine nS ty F.slot_dict_iter (c9 F.slot_dict_iter ty F.entry_dict_iter ?_ (F.args_dict_iter_1 _));unfold Builtin.«dict.__iter__» Builtin.Dict.dictSlotNone;refine ag (ag (xZ ty (show wpAny _ _ (pure (fm d)) _ _ s from aC ?_)));show wpAny _ _ (kG d >>= _) _ _ s;unfold kG;rw [if_neg (fun z=>by rw [ns] at z; cases z)];refine ag (aC (ag (gy Dv dd (ag (mz Dv dd ?_)))));refine ag (dB (aC ⟨_,rfl,"dict_keyiterator",_,⟨_,bh _ rfl,rfl⟩,F.slot_dict_keyiterator_next.lookup,?_⟩));simpa [DC] using hQ
theorem Lw{it d:Addr}{od:Obj}{es:Array ft}{i c:Nat}{Q:Option Value->az->Prop}(ki:s.heap.IsKeyIter it d i es.size c)(Dv:s.heap.get? d=some od)(dd:od.data=.dict es c)(hi:i < es.size)
  (hQ:∀ h',h'.IsKeyIter it d (i+1) es.size c->fF it s.heap h'->Q (some es[i].key) { s with heap:=h' }):wpAny (model prog w) A (DD (.ref it)) Q E s:=by
 obtain⟨o,ho,hc,hf⟩:=id ki;unfold DD;refine ag (DB (iX (name:=qk "__next__") ki.typeIs jo (c9 jo ki.typeIs GD ?_ (Ga _))));refine ag (aC (ag (ag ?_)))
 first | refine ag (jc ki.typeIs (aC ?_)) | refine ag (lD ki.typeIs (aC ?_))
 refine ag (ow ho hf ?_);have UM:fh "dict_keyiterator" = false:=by decide
 rw [UM];show wpAny _ _ (if (fm d == fX)=true then _ else _) _ _ s;rw [if_neg (fun z=>by cases z)];refine ag (aC (ag (gy Dv dd ?_)));rw [if_neg (by simp)];refine ag (aC (ag (mz Dv dd ?_)));rw [if_neg (by simp)];refine aC ?_;dsimp only;rw [if_neg (show ¬ ((i:Int) < 0) from Int.not_lt.mpr (ql i)),eN,jT hi];dsimp only;refine ag ?_
 first | refine ag (jc ki.typeIs (aC ?_)) | refine ag (lD ki.typeIs (aC ?_))
 refine ag (wpAny_isOneOf_keyiter ki.typeIs ?_);show wpAny _ _ (setField (.ref it) 1 (DC ((i:Int)+1)) >>= _) _ _ s;refine ag (QM ho hf (by simp) ?_);have ki2:(s.heap.update it (Obj.mapFields (·.setIfInBounds 1 (DC ((i:Int)+1))))).IsKeyIter it d (i+1) es.size c :=
  ⟨_,nc _ ho (Obj.isFreed_of_fields (Obj.data_mapFields hf _)),(Obj.cls_mapFields ..).trans hc,by rw [Obj.data_mapFields hf]; simp [DC]⟩
 refine ag (eM (ag (wpAny_isOneOf_keyiter (s:={ s with heap:=s.heap.update it (Obj.mapFields (·.setIfInBounds 1 (DC ((i:Int)+1)))) }) ki2.typeIs ?_)));show wpAny _ _ (pure es[i].key) _ _ _;exact aC (aC ⟨_,rfl,aC (hQ _ ki2 (jm ..))⟩)
theorem OE{it d:Addr}{od:Obj}{es:Array ft}{i c:Nat}{Q:Option Value->az->Prop}(calm:A.handled=none)(ki:s.heap.IsKeyIter it d i es.size c)(Dv:s.heap.get? d=some od)(dd:od.data=.dict es c)(hi:es.size<=i)
  (hQ:∀ h',Heap.ExtBut it s.heap h'->Q none { s with heap:=h' }):wpAny (model prog w) A (DD (.ref it)) Q E s:=by
 obtain⟨o,ho,hc,hf⟩:=id ki;unfold DD;refine ag (DB (iX (name:=qk "__next__") ki.typeIs jo (c9 jo ki.typeIs GD ?_ (Ga _))));refine ag (aC (ag (ag ?_)))
 first | refine ag (jc ki.typeIs (aC ?_)) | refine ag (lD ki.typeIs (aC ?_))
 refine ag (ow ho hf ?_);have UM:fh "dict_keyiterator" = false:=by decide
 rw [UM];show wpAny _ _ (if (fm d == fX)=true then _ else _) _ _ s;rw [if_neg (fun z=>by cases z)];refine ag (aC (ag (gy Dv dd ?_)));rw [if_neg (by simp)];refine ag (aC (ag (mz Dv dd ?_)));rw [if_neg (by simp)];refine aC ?_;dsimp only;rw [if_neg (show ¬ ((i:Int) < 0) from Int.not_lt.mpr (ql i)),eN,Mw hi];dsimp only;refine ag ?_
 first | refine ag (jc ki.typeIs (aC ?_)) | refine ag (lD ki.typeIs (aC ?_))
 show wpAny _ _ (setField (.ref it) 0 .none >>= _) _ _ s;refine ag (QM ho hf (by simp) ?_);show wpAny _ _ (newExc (.type "StopIteration") [] >>= _) _ _ _;refine ag ?_;simp only [newExc,newTuple];refine ag (dB (ag (m:=AO _ _) (wpAny_of_eq (a:=fX) (by first | rfl | (simp only [AO]; rfl)) (dB ?_ (by size_fits)))) (by size_fits));simp only [raiseNew];refine ag (wpAny_handled ?_);rw [show A.in1.handled=none from calm];refine ag (aC (wpAny_throw ?_));refine ag (la (T:="StopIteration") (b:=true) ⟨_,bh _ rfl,rfl⟩ isSubtype_stop (?_));exact aC (hQ _ (((jm ..).extBut.push _).push _))
end
noncomputable def Itk(a:Addr)(o:Obj)(es:Array ft)(ks:List V):It :=
 ⟨fun i H=>(∃ u,H a=some (.jL o u))/\i < es.size,fun i H v H'=>H'=H/\ks[i]?=some v,fun i H=>(∃ u,H a=some (.jL o u))/\es.size<=i⟩
theorem KN{P:bM}{w:World}{K:ai}{tg:Expr}(a it:Addr)(o:Obj)(es:Array ft)(c:Nat)(ks:List V)(dd:o.data=.dict es c)(hk:∀ i (h:i < es.size),∃ v,ks[i]?=some v/\RelV v es[i].key) :
  Turn P w K tg (Itk a o es ks) [it] it (fun i h=>h.IsKeyIter it a i es.size c) where
 mem:=by simp
 obj:=fun i h st b hb=>by
  have e:b=it:=by simpa using hb
  subst e;obtain⟨o',q,_,d⟩:=st;exact⟨o',q,fun v z=>by rw [d] at z; cases z⟩
 keep:=(by rintro i h h' ⟨o',q,r⟩ k; exact⟨o',k it (by simp) o' q,r⟩)
 item:=by
  intro X hP hw hK hc i pins s σ H E I hf st hg;subst hP hw hK;obtain⟨⟨u,hu⟩,hi⟩:=hg;obtain⟨f0,f1,f2,f3,f4,f5⟩:=hf it (by simp);obtain⟨v,hv,rv⟩:=hk i hi;refine Lw st (I.cL a _ hu).1 dd hi fun h' Gf sb=>?_;have I1:Inv X pins σ H { s with heap:=h' }:=I.turned (t':=s.toks) (fun b o hb e=>(sb.2 b hb).trans e) f0 f1 f3 f4 f5;obtain⟨o',e,cl,d'⟩:=id Gf;exact⟨_,rfl,J4 (s:={ s with heap:=h' }) e cl d' (by decide) ⟨v,H,I1,rv,⟨rfl,hv⟩,Gf,fun b hb=>(hf b hb).1⟩⟩
 done:=by
  intro X hP hw hK hc i pins s σ H E I hf st hg;subst hP hw hK;obtain⟨⟨u,hu⟩,hi⟩:=hg;obtain⟨f0,f1,f2,f3,f4,f5⟩:=hf it (by simp);exact OE (I.ok.hd hc) st (I.cL a _ hu).1 dd hi fun h' eb=>⟨rfl,I.turned (t':=s.toks) (fun b o hb e=>eb b o hb e) f0 f1 f3 f4 f5⟩
 self:=fun A i s Q E st h=>by
  refine nS st.typeIs Ja (c9 Ja st.typeIs F.entry_dict_keyiterator_iter ?_ (F.args_dict_keyiterator_iter_1 _));show wpAny _ _ (ret (.ref it)) _ _ s;exact aC ⟨_,rfl,"dict_keyiterator",_,st.typeIs,F.slot_dict_keyiterator_next.lookup,h⟩
end L2
namespace K2
open PySem PySem.Spec PyProof.Rows L2
section
variable {X:Cx} {tg a:Expr} {ta:fY} {pos p:Pos}
theorem vQ{α β:Type}{F:α->β->Prop}:∀ {l:List α} {m:List β},kd F l m->∀ i (h1:i < l.length) (h2:i < m.length),F l[i] m[i]:=by
 intro l m h;induction h with
 | nil=>intro i h1; exact absurd h1 (vB i)
 | cons h t ih =>
  intro i h1 h2;cases i with
  | zero=>exact h
  | succ i=>exact ih i (Qu h1) (Qu h2)
theorem OL{P:bM}{w:World}{k:Key}{u:Value}(h:(cP P w).is k u=true):RelV (kV k) u:=by
 rcases eQ h with ⟨i,t,rfl,rfl⟩ | ⟨x,t,rfl,rfl⟩
 ·exact⟨t,rfl⟩
 ·exact⟨t,rfl⟩
theorem mw.keys{K:ai}{H:Hp}:∀ {kv:List (Key×V)} {kvs:List (D×D)},mw K H kv kvs->kvs.map (·.1)=kv.map fun p=>ef p.1:=fun h =>
 mw.ind (motive:=fun kv kvs _=>kvs.map (·.1)=kv.map fun p=>ef p.1) rfl (fun _ _ ih=>congrArg (_ :: ·) ih) h
theorem lY.keys{K:ai}{H:Hp}:∀ {kv:List (List Key×V)} {kvs:List (D×D)},lY K H kv kvs->kvs.map (·.1)=kv.map fun p=>D.tup (p.1.map ef):=fun h =>
 lY.ind (motive:=fun kv kvs _=>kvs.map (·.1)=kv.map fun p=>D.tup (p.1.map ef)) rfl (fun _ _ ih=>congrArg (_ :: ·) ih) h
theorem Ed{K:ai}{H:Hp}(k:Key):cw K H (kV k) (ef k):=by
 cases k with
 | inl i=>exact .int i
 | inr x=>exact .str x
theorem vJ{K:ai}{H:Hp}:∀ (ks:List Key),br K H (ks.map kV) (ks.map ef)
 | []=>.nil
 | k :: ks=>.cons (Ed k) (vJ ks)
theorem Ep(ha:gE X a ta):MH X tg a (uV ta):=by
 intro E pins s σ H τ G R hE I h;refine jx ha hE I h fun x H1 d G1 v s1 I1 m1 r1 jt q1=>?_;unfold Cu at q1;have go:∀ (l:Addr) (o:Obj) (u:HO) (kvs:List (D×D)) (es:Array ft) (c:Nat) (ks:List V),(l == da)=false->H1 l=some (.jL o u)->o.ExactDict->o.data=.dict es c->(∀ i (h:i < es.size),∃ v,ks[i]?=some v/\RelV v es[i].key)->ks.length=es.size ->
   br X.K H1 ks (kvs.map (·.1))->R (kvs.map (·.1)) (fun _=>True) G1->wpAny (model X.prog X.w) X.A (MO (.ref l)) (Mb X pins σ tg H G R) X.xe s1:=by
  intro l o u kvs es c ks ns hl ex dd hk hlen rs q;refine HC ns (I1.inv.cL l _ hl).1 ex dd ?_;refine⟨s1.heap.objs.size,[s1.heap.objs.size],_,_,H1,G1,kvs.map (·.1),_,rfl,I1.inv.kept (t':=s1.toks) fun b o e=>aG _ e,m1,KN l _ o es c ks dd hk,⟨_,bh _ rfl,rfl,rfl⟩,fun b hb=>?_,fun i H2 G2 k ab _=>?_,q⟩
  ·have e:b=s1.heap.objs.size:=by simpa using hb
   subst e;exact I1.inv.CB (aI _) (I1.inv.cL.fresh (aI _))
  ·have z8:=k.jL _ _ _ hl;have Jt:=rs.mono k;refine⟨fun d hd=>?_,fun hle=>⟨⟨u,z8⟩,by rw [<-hlen,rs.length]; exact hle⟩⟩;obtain⟨v,hv,r⟩:=Jt.get hd;have hi:i < es.size:=by rw [<-hlen]; exact(List.getElem?_eq_some_iff.mp hv).1
   refine⟨⟨⟨u,z8⟩,hi⟩,?_⟩;rintro x H3 ⟨e,y⟩;subst e;rw [hv] at y;cases y;exact⟨r,.refl ab⟩
 cases jt with
 | qh hq rs =>
  rename_i l o kv kvs;cases r1;obtain⟨z,ns,vs,rel,ob,es,ep,ho,ex,dd,hko,hp,nd⟩:=(I1.inv.cL l _ hq).2;have eo:ob=o:=by have:=(I1.inv.cL l _ hq).1; rw [ho] at this; exact ba this
  subst eo;have l1:es.size=vs.length:=by simpa using hp.length
  have l2:kv.length=vs.length:=iu rel;refine go l ob _ kvs es ep (kv.map fun p=>kV p.1) ns hq ex dd (fun i hi=>?_) (by rw [aq]; lia) ?_ q1
  ·have i2:i < vs.length:=by lia
   have i3:i < kv.length:=by lia
   have g1:=(hp.get? (e:=es[i]) (k:=vs[i].1) (v:=vs[i].2) (by rw [ay (by simpa using hi)]; simp) (by rw [ay i2])).1;refine⟨kV kv[i].1,by simp [i3],?_⟩;have ek:kv[i].1=vs[i].1:=(vQ rel i i3 i2).1;rw [ek];exact OL g1
  ·rw [rs.keys];have:∀ (l:List (Key×V)),br X.K H1 (l.map fun p=>kV p.1) (l.map fun p=>ef p.1):=by
    intro l;induction l with
    | nil=>exact .nil
    | cons p l ih=>exact .cons (Ed p.1) ih
   exact this kv
 | qg hq rs =>
  rename_i l o kv kvs;cases r1;obtain⟨z,ns,xs,rel,ob,es,ep,ho,ex,dd,hl,nd⟩:=(I1.inv.cL l _ hq).2;have eo:ob=o:=by have:=(I1.inv.cL l _ hq).1; rw [ho] at this; exact ba this
  subst eo;have l1:=congrArg di hl;rw [aq,eE] at l1;refine go l ob _ kvs es ep (xs.map fun q=>V.ref q.2.1) ns hq ex dd (fun i hi=>?_) (by rw [aq]; lia) ?_ q1
  ·have i2:i < xs.length:=by lia
   refine⟨.ref xs[i].2.1,by simp [i2],?_⟩;have:es[i]=entryOfKey (iG (cP X.prog X.w)) xs[i]:=by
    have:=congrArg (fun l=>l[i]?) hl;simp only [bA,ay i2] at this;simpa [hi] using this
   rw [this];rfl
  ·rw [rs.keys];have:∀ (kv:List (List Key×V)) (xs:List (List Key×Addr×Value)),kd (fun (p:List Key×V) (q:List Key×Addr×Value)=>p.1=q.1/\H1 q.2.1=some (.tup (p.1.map kV))/\RelV p.2 q.2.2) kv xs->br X.K H1 (xs.map fun q=>V.ref q.2.1) (kv.map fun p=>D.tup (p.1.map ef)):=by
    intro kv xs r;induction r with
    | nil=>exact .nil
    | cons h _ ih=>exact .cons (.tup h.2.1 (vJ _)) ih
   exact this kv xs rel
 | _=>exact q1.elim
end
end K2
end
section
namespace L2
open PySem PySem.Spec PyProof.Rows
section
variable {X:Cx}
noncomputable def Qs(i j:Int):Prop:=i.natAbs < 2 ^ 4000/\j.natAbs < 2 ^ 4000
theorem Qs.ok{i j:Int}(h:Qs i j):IntMulOk i j:=by
 have h1:=intBits_le h.1;have h2:=intBits_le h.2;unfold IntMulOk;intro z;rw [aK] at z;have z2:((GF i+GF j:Nat):Int) > (bitsLine:Int):=of_decide_eq_true z.2;have hb:8000<=bitsLine:=by decide
 lia
theorem Rz:Me X (iY .Mult) (rI Qs fun i j=>.int (i * j)):=Ym fun _ _ _ _ _ _ _ hc q=>mul_int q hc.ok
end
end L2
namespace K2
open PySem PySem.Spec PyProof.Rows L2
section
variable {X:Cx}
theorem Ew:qj X (iY .Mult) Jv:=by
 intro pins s σ H G x y dx dy v u Q I ab rx ry dX dY q;cases dX with
 | int i =>
  cases dY with
  | int j=>exact gN (Rz pins s σ H _ _ v u (BM X.K H G Q) I rx ry ⟨i,j,rfl,rfl,q.1,_,_,.refl ab,.int _,q.2⟩) fun _ _ z=>.of z
  | _=>exact bS q
 | _=>exact bS q
theorem wc{pins:List (Addr×Obj)}{σ:L2.St}{H:Hp}{s:az}{G:Gp}{x:V}{d:D}{kvs:List (D×D)}(I:Inv X pins σ H s)(ab:lZ X.K H G)(rd:cw X.K H x d)(hd:u7 d G=some kvs)(h1:uQ kvs=true) :
  ∃ a kv vs,x=.ref a/\mw X.K H kv kvs/\kv.length<=bc/\(a == da)=false/\KV kv vs/\s.heap.DictOf (cP X.prog X.w) a vs:=by
 have empty:∀ (a:Addr) (kv:List (List Key×V)),fV X.prog X.w H s.heap a (.dT kv)->lY X.K H kv kvs ->
   ∃ a' kv vs,V.ref a=.ref a'/\mw X.K H kv kvs/\kv.length<=bc/\(a' == da)=false/\KV kv vs/\s.heap.DictOf (cP X.prog X.w) a' vs:=by
  intro a kv ok rs;cases rs with
  | nil =>
   obtain⟨z,hm,xs,rel,o,es,ep,ho,hx,z9,hl,nd⟩:=ok;have hv:xs=[]:=by cases rel; rfl
   subst hv;have he:es=#[]:=by simpa using hl
   subst he;exact⟨a,[],[],rfl,.nil,cC _,hm,.nil,o,#[],ep,ho,hx,z9,(fun _ h=>by simp at h),.nil,cH⟩
  | cons _ _=>simp [uQ,eK] at h1
 cases rd with
 | qh hq rs =>
  cases (show some _=some kvs from hd);obtain⟨z,hm,vs,rel,dd⟩:=sU I.cL (.inr ⟨_,hq⟩);exact⟨_,_,vs,rfl,rs,z,hm,rel,dd⟩
 | qg hq rs =>
  cases (show some _=some kvs from hd);exact empty _ _ (I.cL _ _ hq).2 rs
 | ref a =>
  unfold u7 at hd;dsimp only at hd;split at hd
  ·rename_i kv' hg;cases hd;rcases ab a _ hg with ⟨kv,hv,rs⟩ | ⟨kv,hv,rs⟩
   ·obtain⟨z,hm,vs,rel,dd⟩:=Bz I.cL hv;exact⟨a,kv,vs,rfl,rs,z,hm,rel,dd⟩
   ·exact empty a _ (I.cL _ _ hv) rs
  ·cases hd
 | _=>cases hd
theorem IE:rE X (.type "dict") Kn:=by
 intro pins s σ H G xs ds us Q I ab rx rd q;unfold Kn at q;split at q
 ·rename_i x;obtain⟨kvs,hd,h1,hl,q⟩:=q;obtain⟨v,rfl,r⟩:=rd.one;obtain⟨a,kv,vs,rfl,rs,z,hm,rel,dd⟩:=wc I ab r hd h1;obtain⟨u,rfl,ru⟩:=rx.one;cases ru;refine kt_call_dict hm dd (by rw [<-rel.length]; exact z) fun h' BC hs=>?_;have hp:H s.heap.objs.size=none:=I.cL.fresh (aI _);refine⟨.ref _,upd H s.heap.objs.size (.dK kv),.ref _,_,I.laid (a:=s.heap.objs.size) (o:=.dK kv) (t':=s.toks) (fun b q hq=>?_) (aI _) (CP z (beq_eq_false_iff_ne.mpr (fW (bK I.big))) rel BC),.new ab hp (.dk cc (rs.mono (.new hp))),rfl,.ref _,q _ (ab.free hp)⟩;exact(hs.2 b (bK (aS hq))).trans (aG _ hq)
 ·exact q.elim
theorem JO:Ml X "dict.get" Ln:=by
 intro pins s σ H G x d xs ds v us Q I ab rx rd QC Ee q;unfold Ln at q;split at q
 ·rename_i k d';obtain⟨kvs,hd,h1,hk,q⟩:=q;obtain⟨w,w2,rfl,D7,Q7⟩:=Ee.two;obtain⟨u1,u2,rfl,K5,NF⟩:=vals2 QC;obtain⟨a,kv,vs,rfl,rs,z,hm,rel,dd⟩:=wc I ab rd hd h1;cases rx;obtain⟨kk,rfl⟩:=uR hk;have ey:=uu D7;subst ey;refine x9 gz dd.typeIs IY (GA _ _ _) (meets_dict_get_default (cP X.prog X.w) a (y7 K5) hm u2) ⟨_,dd.mapOf,?_⟩;have ro:=(rel.val kk).getD NF;rcases rs.look kk with ⟨v',d2,e1,e2,r⟩ | ⟨e1,e2⟩
  ·rw [e1] at ro;rw [e2] at q;exact⟨v',H,d2,G,I.tok _,.refl ab,ro,r,q⟩
  ·rw [e1] at ro;rw [e2] at q;exact⟨w2,H,d',G,I.tok _,.refl ab,ro,Q7,q⟩
 ·exact q.elim
end
end K2
end
section
namespace L2
open PySem PySem.Spec PyProof.Rows
noncomputable def Iti(a:Addr)(o:Obj)(kv:List (Key×V)):It :=
 ⟨fun i H=>(∃ u,H a=some (.jL o u))/\i < kv.length,fun i H v H'=>∃ T p,v=.ref T/\H T=none/\H'=upd H T (.tup [kV p.1,p.2])/\kv[i]?=some p,fun i H=>(∃ u,H a=some (.jL o u))/\kv.length<=i⟩
theorem yI{α β:Type}{F:α->β->Prop}:∀ {l:List α} {m:List β},kd F l m->∀ i (h1:i < l.length) (h2:i < m.length),F l[i] m[i]
 | _,_,.cons h _,0,_,_=>h
 | _,_,.cons _ t,i+1,h1,h2=>yI t i (by simpa using h1) (by simpa using h2)
theorem LA{P:bM}{w:World}{k:Key}{u:Value}(h:(cP P w).is k u=true):RelV (kV k) u:=by
 rcases eQ h with ⟨i,t,rfl,rfl⟩ | ⟨x,t,rfl,rfl⟩
 ·exact⟨t,rfl⟩
 ·exact⟨t,rfl⟩
theorem lG:entryFor table "dict_itemiterator.__iter__" = some Builtin.«dict_keyiterator.__iter__» :=
 entryFor_alias (id':="dict_keyiterator.__iter__") (by rw [fastTable_eq_tree]; kernel_rfl) (by decide +kernel) (by decide +kernel) (by rw [fastTable_eq_tree]; kernel_rfl)
theorem GL{P:bM}{w:World}{K:ai}{elts:List Expr}{kk:Nat}{pos:Pos}(a it:Addr)(o:Obj)(kv:List (Key×V))(vs:List (Key×Value))(ep:Nat)(rel:KV kv vs)(hD:∀ h:Heap,h.get? a=some o->h.DictAt (cP P w) a vs ep) :
  Turn P w K (.Tuple elts kk pos) (Iti a o kv) [it] it (fun i h=>∃ ok ov,nW h it a i vs.length ep ok ov) where
 mem:=by simp
 obj:=fun i h ⟨ok,ov,st⟩ b hb=>by
  have e:b=it:=by simpa using hb
  subst e;exact⟨_,st,fun v z=>by cases z⟩
 keep:=fun i h h' ⟨ok,ov,st⟩ k=>⟨ok,ov,k it (by simp) _ st⟩
 item:=by
  intro X hP hw hK hc i pins s σ H E I hf st hg;obtain⟨ok,ov,st⟩:=st;subst hP hw hK;obtain⟨⟨u,hu⟩,hi⟩:=hg;have hl:=rel.length;have hi2:i < vs.length:=by lia
  have hx:vs[i]?=some (vs[i].1,vs[i].2):=ay hi2;have rp:=yI rel i hi hi2;have XE:H s.heap.objs.size=none:=I.cL.fresh (aI _);have hiT:it≠s.heap.objs.size:=bK (aS st);refine wpAny_pyNext_items_item st (hD _ (I.cL a _ hu).1) hx fun key h' hk ho hT hsz kk=>?_;refine⟨_,rfl,?_⟩;have rk:RelV (kV kv[i].1) key:=by rw [rp.1]; exact LA hk
  have I1:Inv X pins σ (upd H s.heap.objs.size (.tup [kV kv[i].1,kv[i].2])) { s with heap:=h',toks:=s.toks } :=
   I.BY (fp:=[it]) hf (fun b o hb q=>kk b o (fun z=>hb (by simp [z])) q) (aI _)
    ⟨by show 2<=bc; decide,[key,vs[i].2],.cons rk (.cons rp.2 .nil),⟨_,hT,rfl,_,rfl⟩⟩
  refine ML (s:={ s with heap:=h' }) ho fun h2 Xx E3=>?_;have f1:∀ b∈[it],ou X pins (upd H s.heap.objs.size (.tup [kV kv[i].1,kv[i].2])) b:=fun b hb=>(hf b hb).upd (by rw [List.mem_singleton.mp hb]; exact hiT);have I2:Inv X pins σ (upd H s.heap.objs.size (.tup [kV kv[i].1,kv[i].2])) { s with heap:=h2,toks:=s.toks } :=
   Inv.xC (s:={ s with heap:=h',toks:=s.toks }) (t':=s.toks) (fp:=[it]) I1 f1 fun b o hb q=>(E3.2 b (fun z=>hb (by simp [z]))).trans q
  exact⟨.ref s.heap.objs.size,_,I2,rfl,⟨_,kv[i],rfl,XE,rfl,ay hi⟩,⟨_,_,Xx⟩,fun b hb=>(f1 b hb).1⟩
 done:=by
  intro X hP hw hK hc i pins s σ H E I hf st hg;obtain⟨ok,ov,st⟩:=st;subst hP hw hK;obtain⟨⟨u,hu⟩,hi⟩:=hg;have hl:=rel.length;obtain⟨f0,f1,f2,f3,f4,f5⟩:=hf it (by simp);exact wpAny_pyNext_items_end (I.ok.hd hc) st (hD _ (I.cL a _ hu).1) (jl (by lia)) fun h' eb=>⟨rfl,I.turned (t':=s.toks) (fun b o hb e=>eb b o hb e) f0 f1 f3 f4 f5⟩
 self:=fun A i s Q E ⟨ok,ov,st⟩ h=>by
  have ty:s.TypeIs (.ref it) "dict_itemiterator":=⟨_,st,rfl⟩;refine nS ty i4 (c9 i4 ty lG ?_ (DJ _));show wpAny _ _ (ret (.ref it)) _ _ s;exact aC ⟨_,rfl,"dict_itemiterator",_,ty,F.slot_dict_itemiterator_next.lookup,h⟩
end L2
namespace K2
open PySem PySem.Spec PyProof.Rows L2
section
variable {X:Cx}
theorem Uw{pins:List (Addr×Obj)}{σ:L2.St}{H:Hp}{s:az}{x:V}{kvs:List (D×D)}(I:Inv X pins σ H s)(rd:cw X.K H x (.kJ kvs))(h1:uQ kvs=true) :
  ∃ a ob u kv vs ep,x=.ref a/\H a=some (.jL ob u)/\mw X.K H kv kvs/\(a == da)=false/\KV kv vs/\∀ h:Heap,h.get? a=some ob->h.DictAt (cP X.prog X.w) a vs ep:=by
 cases rd with
 | qh hq rs =>
  rename_i a o kv;obtain⟨z,hm,vs,rel,ob,es,ep,ho,r⟩:=(I.cL a _ hq).2;have eo:ob=o:=by have:=(I.cL a _ hq).1; rw [ho] at this; exact ba this
  subst eo;exact⟨a,ob,_,kv,vs,ep,rfl,hq,rs,hm,rel,fun h e=>⟨ob,es,e,r⟩⟩
 | qg hq rs =>
  rename_i a o kv;cases rs with
  | nil =>
   obtain⟨z,hm,xs,rel,ob,es,ep,ho,hx,z9,hl,nd⟩:=(I.cL a _ hq).2;have eo:ob=o:=by have:=(I.cL a _ hq).1; rw [ho] at this; exact ba this
   subst eo;have hv:xs=[]:=by cases rel; rfl
   subst hv;have he:es=#[]:=by simpa using hl
   subst he;exact⟨a,ob,_,[],[],ep,rfl,hq,.nil,hm,.nil,fun h e=>⟨ob,#[],e,hx,z9,(fun _ h=>by simp at h),.nil,cH⟩⟩
  | cons _ _=>simp [uQ,eK] at h1
theorem mw.item{K:ai}{H:Hp}:∀ {kv:List (Key×V)} {kvs:List (D×D)} {i:Nat} {q:D×D},mw K H kv kvs->kvs[i]?=some q->∃ p,kv[i]?=some p/\q.1=ef p.1/\cw K H p.2 q.2
 | _,_,_,_,.nil,e=>by simp at e
 | _,_,0,_,.cons r _,e=>by simp at e; subst e; exact⟨_,rfl,rfl,r⟩
 | _,_,i+1,q,.cons _ t,e=>by
  obtain⟨p,h1,h2⟩:=mw.item (i:=i) (q:=q) t (by simpa using e);exact⟨p,by simpa using h1,h2⟩
variable {elts:List Expr} {kk:Nat} {DT apos jJ:Pos} {o:Expr} {to:fY}
theorem K7{K:ai}{H:Hp}(k:Key):cw K H (kV k) (ef k):=by
 cases k with
 | inl i=>exact .int i
 | inr x=>exact .str x
theorem oJ (ho:gE X o to) (zc:autoParam (qa o "items" X.env (eval o X.env)=eval o X.env) Ar._auto_1) (zb:autoParam ((apos.endLine == jJ.line)=true) Ar._auto_1) :
  MH X (.Tuple elts kk DT) (.Call (.Attribute o "items" apos) [] [] jJ) (jz to):=by
 intro E pins s σ H τ G R hE I h;refine vw zc zb (jx ho hE I h fun x H1 d G1 v s1 I1 m1 r1 jt q1=>?_);cases d with
 | kJ kvs =>
  obtain⟨h1,q1⟩:=q1;obtain⟨t1,t2⟩:=oz pins s1 σ H1 G1 x _ v I1.inv I1.ab r1 jt trivial;obtain⟨a,ob,u,kv,vs,ep,rfl,hu,rs,hm,rel,hD⟩:=Uw I1.inv jt h1;cases r1;refine⟨"dict","dict.items",dc,fQ,qu,t1,t2,lF rfl (xf ?_)⟩;have dA:=hD _ (I1.inv.cL a _ hu).1;refine x9 fQ t1 qb (o6 _) (meets_dict_items (cP X.prog X.w) a hm) ⟨⟨vs,dA.dictOf⟩,?_⟩;have I2:Inv X pins σ H1 { s1 with heap:=s1.heap.push { cls:=.type "dict_items",data:=.fields #[.ref a] } }:=I1.inv.kept (t':=s1.toks) fun b o e=>aG _ e;refine wpAny_pyIter_items (s:={ s1 with heap:=s1.heap.push { cls:=.type "dict_items",data:=.fields #[.ref a] } }) (kvs:=vs) (ep:=ep) ⟨_,bh _ rfl,rfl,rfl⟩ (dA.push _) ?_;refine⟨_,[_],_,_,H1,G1,kvs.map (fun p=>.tup [p.1,p.2]),_,rfl,I2.kept (t':=s1.toks) fun b o e=>aG _ e,m1,GL a _ ob kv vs ep rel hD,⟨.none,.none,bh _ rfl⟩,fun b hb=>?_,fun i H2 G2 k ab _=>?_,q1⟩
  ·have e:=List.mem_singleton.mp hb;subst e;exact I2.CB (aI _) (I2.cL.fresh (aI _))
  ·have z8:=k.jL _ _ _ hu;have Jt:=rs.mono k;have hlen:kv.length=kvs.length:=rs.length;refine⟨fun d hd=>?_,fun hle=>⟨⟨u,z8⟩,by rw [hlen]; simpa using hle⟩⟩;rw [bA] at hd;cases LJ:kvs[i]? with
   | none=>rw [LJ] at hd; cases hd
   | some q =>
    rw [LJ] at hd;obtain⟨p,hp,ek,rp⟩:=Jt.item LJ;have hi:i < kv.length:=(List.getElem?_eq_some_iff.mp hp).1;refine⟨⟨⟨u,z8⟩,hi⟩,fun x H3 ⟨T,p',ex,hT,e3,hy⟩=>?_⟩;subst ex e3;rw [hp] at hy;cases hy;have ed:D.tup [q.1,q.2]=d:=by simpa using hd
    subst ed;rw [ek];exact⟨.tup cc (.cons (K7 _) (.cons (rp.mono (.new hT)) .nil)),.HP ab hT⟩
 | _=>exact q1.elim
end
end K2
end
section
namespace K2
open PySem PySem.Spec PyProof.Rows L2
section
variable {X:Cx}
theorem qX{K:ai}{H:Hp}:∀ {kv:List (Key×V)} {l:List (Int×Int)},mw K H kv (bF l)->kv=l.map fun p=>((.inl p.1:Key),V.int p.2)
 | _,[],h=>by cases h; rfl
 | _,p :: l,h=>by
  have h:mw K H _ ((D.int p.1,D.int p.2) :: bF l):=h;generalize e:(D.int p.1,D.int p.2) :: bF l=t at h;cases h with
  | nil=>cases e
  | cons r rs =>
   rename_i k v d r' t';injection e with e1 e2
   injection e1 with e3 e4
   subst e2 e4;cases r;rw [qX rs];cases k with
   | inl i=>cases e3; rfl
   | inr x=>cases e3
theorem uP:∀ {l:List (Int×Int)} {vs:List (Key×Value)},KV (l.map fun p=>((.inl p.1:Key),V.int p.2)) vs->∃ ts:List Tok,ts.length=l.length/\vs=(l.zip ts).map fun q=>((.inl q.1.1:Key),eG q.1.2 q.2)
 | [],_,.nil=>⟨[],rfl,rfl⟩
 | p :: l,_,.cons h r=>by
  obtain⟨ts,h1,h2⟩:=uP r;rename_i q vs;obtain⟨k,v⟩:=q;obtain⟨e1,t,e2⟩:=h;cases e1;cases e2;exact⟨t :: ts,by simp [h1],by rw [h2]; rfl⟩
theorem BW{l:List (Int×Int)}{ts:List Tok}(h:ts.length=l.length)(k:Int):(cM l k=none/\nU ((l.zip ts).map fun q=>((.inl q.1.1:Key),eG q.1.2 q.2)) (.inl k)=none)\/∃ v t,cM l k=some v/\nU ((l.zip ts).map fun q=>((.inl q.1.1:Key),eG q.1.2 q.2)) (.inl k)=some (.int v t):=by
 induction l generalizing ts with
 | nil=>exact .inl ⟨rfl,rfl⟩
 | cons p l ih =>
  cases ts with
  | nil=>cases h
  | cons t ts =>
   have ih:=ih (ts:=ts) (by simpa using h);by_cases e:p.1=k
   ·refine .inr ⟨p.2,t,?_,?_⟩
    ·unfold cM; simp [e]
    ·unfold nU; simp [e]
   ·have e':¬ ((.inl p.1:Key)=.inl k):=fun z=>e (by injection z);have a1:cM (p :: l) k=cM l k:=by unfold cM; simp [e]
    have a2:nU (((p :: l).zip (t :: ts)).map fun q=>((.inl q.1.1:Key),eG q.1.2 q.2)) (.inl k)=nU ((l.zip ts).map fun q=>((.inl q.1.1:Key),eG q.1.2 q.2)) (.inl k):=by
     unfold nU; simp [e']
    rw [a1,a2]; exact ih
theorem vY{A:dD}{s:az}{m:List (Int×Int)}{us:List Tok}(hm:us.length=m.length):∀ {l:List (Int×Int)} {ts:List Tok},ts.length=l.length ->
  PySem.W.KeqHits A s ((m.zip us).map fun q=>((.inl q.1.1:Key),eG q.1.2 q.2)) ((l.zip ts).map fun q=>((.inl q.1.1:Key),eG q.1.2 q.2)) (l.all fun p=>cM m p.1 == some p.2)
 | [],_,_=>.nil
 | p :: l,[],h=>by cases h
 | p :: l,t :: ts,h=>by
  have ih:=vY (A:=A) (s:=s) hm (l:=l) (ts:=ts) (by simpa using h);rcases BW hm p.1 with ⟨e1,e2⟩ | ⟨v,t',e1,e2⟩
  ·have:((p :: l).all fun p=>cM m p.1 == some p.2)=false:=by simp [e1]
   rw [this];exact .miss e2
  ·have eq:SeqAt.EqAt A s (eG p.2 t) (eG v t') (decide (p.2=v)):=by
    have:=PySem.W.keq_flat (A:=A) (s:=s) (v:=eG p.2 t) (y:=eG v t') (d:=.int p.2) (e:=.int v) (.int _ _) (.int _ _);have e2:SeqAt.EqAt A s (eG p.2 t) (eG v t') (p.2 == v):=by simpa [zW] using this
    exact e2
   have:((p :: l).all fun p=>cM m p.1 == some p.2)=(decide (p.2=v)&&l.all fun p=>cM m p.1 == some p.2):=by
    rw [z0,e1];congr 1;by_cases z:p.2=v
    ·simp [z]
    ·have:¬ v=p.2:=fun y=>z y.symm;simp [z,this]
   rw [this];exact .hit e2 eq ih
theorem RG(hu:X.A.units+64 < cLine):qj X (fk .Eq) (UB false):=by
 intro pins s σ H G x y dx dy v u Q I ab rx ry dX dY q;obtain⟨l,m,e1,e2,q⟩:=q;obtain⟨a,kv,vs,rfl,rs,z,hm,rel,dd⟩:=wc I ab dX e1 (kB l);obtain⟨b,kw,ws,rfl,Jt,z2,J1,NK,Dx⟩:=wc I ab dY e2 (kB m);cases rx;cases ry;rw [qX rs] at rel;rw [qX Jt] at NK;obtain⟨ts,t1,rfl⟩:=uP rel;obtain⟨us,t2,rfl⟩:=uP NK;refine PySem.W.keq_eq hm J1 dd Dx (by lia) (fun _=>vY t2 t1) ?_;refine⟨.bl _,H,.bl _,G,I,.refl ab,rfl,.bl _,?_⟩;have:((((l.zip ts).map fun q=>((.inl q.1.1:Key),eG q.1.2 q.2)).length == ((m.zip us).map fun q=>((.inl q.1.1:Key),eG q.1.2 q.2)).length)&&l.all fun p=>cM m p.1 == some p.2)=wb l m:=by
  unfold wb; simp [t1,t2]
 rw [this]; exact q
theorem RD(hu:X.A.units+64 < cLine):qj X (fk .NotEq) (UB true):=by
 intro pins s σ H G x y dx dy v u Q I ab rx ry dX dY q;obtain⟨l,m,e1,e2,q⟩:=q;obtain⟨a,kv,vs,rfl,rs,z,hm,rel,dd⟩:=wc I ab dX e1 (kB l);obtain⟨b,kw,ws,rfl,Jt,z2,J1,NK,Dx⟩:=wc I ab dY e2 (kB m);cases rx;cases ry;rw [qX rs] at rel;rw [qX Jt] at NK;obtain⟨ts,t1,rfl⟩:=uP rel;obtain⟨us,t2,rfl⟩:=uP NK;refine PySem.W.keq_ne hm J1 dd Dx (by lia) (fun _=>vY t2 t1) ?_;refine⟨.bl _,H,.bl _,G,I,.refl ab,rfl,.bl _,?_⟩;have:((((l.zip ts).map fun q=>((.inl q.1.1:Key),eG q.1.2 q.2)).length == ((m.zip us).map fun q=>((.inl q.1.1:Key),eG q.1.2 q.2)).length)&&l.all fun p=>cM m p.1 == some p.2)=wb l m:=by
  unfold wb; simp [t1,t2]
 rw [this]; exact q
theorem RF(hu:X.A.units+64 < cLine):qj X (fk .Eq) (K8 false):=by
 intro pins s σ H G x y dx dy v u Q I ab rx ry dX dY q;rcases q with q | q
 ·exact pA hu pins s σ H G x y dx dy v u Q I ab rx ry dX dY q
 ·exact RG hu pins s σ H G x y dx dy v u Q I ab rx ry dX dY q
theorem RC(hu:X.A.units+64 < cLine):qj X (fk .NotEq) (K8 true):=by
 intro pins s σ H G x y dx dy v u Q I ab rx ry dX dY q;rcases q with q | q
 ·exact Oe hu pins s σ H G x y dx dy v u Q I ab rx ry dX dY q
 ·exact RD hu pins s σ H G x y dx dy v u Q I ab rx ry dX dY q
variable {k v:Expr} {tk tv:fY} {pos:Pos}
theorem N8(hk:gE X k tk)(hv:gE X v tv):gE X (.Dict [some k] [v] pos) (zy tk tv):=by
 intro E pins s σ H τ G Q hE I h;have hn:=I.inv.cL.fresh (aI s.heap.objs.size);have I1:=I.inv.laid (a:=s.heap.objs.size) (o:=.dK []) (h':=s.heap.push { cls:=.type "dict",data:=.dict #[] }) (t':=s.toks) (fun _ _ q=>aG _ q) (aI _) (Fs s.heap I.inv.big);have mh:Mv X.K H G (upd H s.heap.objs.size (.dK [])) G:=.HP I.ab hn;have I2:I2 X pins σ (upd H s.heap.objs.size (.dK [])) τ G { s with heap:=s.heap.push { cls:=.type "dict",data:=.dict #[] },toks:=s.toks }:=⟨I1,I.st.mono (.new hn),mh.ab⟩;refine wpAny_Dict_walk (knd:=cP X.prog X.w) (by rfl) (by rfl) (by simp) (show 1<=15 by decide) ?_;refine pairTrees_cons_walk (jx hk hE I2 h fun x H1 dx G1 u s1 I3 m1 r1 jt q1=>?_);refine jx hv hE I3 q1 fun y H2 dy G2 w s2 I4 m2 r2 yB q2=>?_;obtain⟨hk1,q2⟩:=q2;refine pairTrees_nil_walk ?_;obtain⟨kk,rfl⟩:=uR hk1;have ex:=uu jt;subst ex;have g0:G s.heap.objs.size=none:=I.ab.free hn;obtain⟨p1,p2⟩:=m1.keep _ _ (cc (H:=H) (a:=s.heap.objs.size) (o:=.dK [])) g0;obtain⟨p3,p4⟩:=m2.keep _ _ p1 p2;obtain⟨rs,c,rk⟩:=zE (P:=X.prog) (w:=X.w) (kvs:=[(kk,y)]) (ws:=[(u,w)]) (.cons ⟨r1,r2⟩ .nil);obtain⟨z,hd,vs0,r0,dd⟩:=Bz I4.inv.cL p3;cases r0;refine⟨rs,c,dd,fun h' BC hs=>?_⟩;have he:∃ q,h'.get? s.heap.objs.size=some q:=let ⟨q,_,_,hq,_⟩:=BC; ⟨q,hq⟩
 have em:Hu [] [(kk,y)]=[(kk,y)]:=rfl;have kp:Kp H2 (upd H2 s.heap.objs.size (.dK [(kk,y)])):=.putD p3 (.inl ⟨_,rfl⟩);have I5:=rX (t':=s2.toks+[(u,w)].length) I4.inv (by rw [p3]; exact fZ) hs he (CP (kvs:=Hu [] [(kk,y)]) (by rw [em]; exact(show 1<=bc by decide)) hd (rk.merge .nil) BC);rw [em] at I5;have Gg:=(mh.trans m1).trans m2;refine⟨.ref s.heap.objs.size,_,.ref s.heap.objs.size,_,I5,?_,rfl,.ref _,q2 _ p4⟩;refine⟨fun a o e n=>?_,fun a n=>?_,fun a g e=>?_⟩
 ·have ha:a≠s.heap.objs.size:=fun z=>by rw [z,hn] at e; cases e
  obtain⟨k1,k2⟩:=Gg.keep a o e n;exact⟨by rw [bQ ha]; exact k1,by rw [cT ha]; exact k2⟩
 ·by_cases ha:a=s.heap.objs.size
  ·subst ha; rw [cc]; simp
  ·rw [bQ ha]; exact Gg.kQ a n
 ·by_cases ha:a=s.heap.objs.size
  ·subst ha;rw [aA] at e;cases e;exact .dk cc (.cons ((yB.mono kp)) .nil)
  ·rw [cT ha] at e;exact(Gg.ab a g e).mono kp (bQ ha)
end
end K2
end
section
namespace L2
open PySem PySem.Spec PyProof.Rows
theorem Lj:typeLookup (.type "list_reverseiterator") "__len__" = pure none:=by rw [typeLookup_type,builtinLookup_eq_fast]; kernel_rfl
theorem O5:typeLookup (.type "list_reverseiterator") "__length_hint__" = pure (some (.builtin "list_reverseiterator.__length_hint__")):=by rw [typeLookup_type,builtinLookup_eq_fast]; kernel_rfl
section
variable {prog:bM} {w:World} {A:dD} {E:Value->az->Prop} {s:az}
theorem OB{I l:Addr}{items:Array Value}{Q:Value->az->Prop}(hh:A.handled=none)(hl:s.heap.IsList l items)(hI:s.heap.IsRevIter I l ((items.size:Int) - 1))(Bn:l≠I)(hn:items.size<=bc)
  (hQ:∀ h' tk zJ c',(∀ b o,b≠I->s.heap.get? b=some o->h'.get? b=some o)->h'.get? s.heap.objs.size=some { cls:=.type "list",dict:=none,data:=.seq zJ c',slots:=#[] }->ItemsOf (fun i v=>items[items.size - 1 - i]?=some v) zJ items.size->Q (.ref s.heap.objs.size) { s with heap:=h',toks:=tk }) :
  wpAny (model prog w) A (call (.type "list") [.ref I]) Q E s:=by
 have lI:I < s.heap.objs.size:=by obtain⟨o,e,_⟩:=hI; exact aS e
 have ll:l < s.heap.objs.size:=by obtain⟨o,e,_⟩:=hl; exact aS e
 refine callType_codes (Q₁:=fun obj fu=>obj=.ref s.heap.objs.size/\fu={ s with heap:=s.heap.push { cls:=.type "list",data:=.seq #[] } }) PySem.F.called_list (PySem.F.typeCall_list_1 _) PySem.F.entry_list_init
  (code_list_new _ ⟨rfl,rfl⟩) fun obj fu qi=>?_
 obtain⟨rfl,rfl⟩:=qi;have hS:(s.heap.push { cls:=.type "list",data:=.seq #[] }).get? s.heap.objs.size=some { cls:=.type "list",data:=.seq #[] }:=bh _ rfl;refine⟨⟨_,hS,rfl⟩,PySem.F.args_list_init_2 _ _,?_⟩;show wpAny _ _ (do let old ← BS (.ref s.heap.objs.size); Builtin.List.listUpdate (.ref s.heap.objs.size) (fun _=>#[]); letGo old.toList.reverse; ma (.ref s.heap.objs.size) (.ref I) .none) _ _ _;refine ag ?_;unfold BS;refine ag (QN hS rfl (aC ?_));show wpAny _ _ (updateSeq s.heap.objs.size (fun _=>#[]) >>= fun _=>letGo (#[]:Array Value).toList.reverse >>= fun _=>ma (.ref s.heap.objs.size) (.ref I) .none) _ _ _;refine ag (wpAny_updateSeq hS rfl ?_);have TH:=nc (fM (fun _=>(#[]:Array Value))) hS rfl;have Yl:∀ b o,s.heap.get? b=some o->((s.heap.push { cls:=.type "list",data:=.seq #[] }).update s.heap.objs.size (fM (fun _=>(#[]:Array Value)))).get? b=some o :=
  fun b o e=>(t4 _ _ (vC (aS e))).trans (aG _ e)
 refine ag (wpAny_letGo ?_);have W:=Walks.listRev (prog:=prog) (w:=w) (A:=A.in1.in1) hh I l Bn items;have st:(fun (i:Nat) (h:Heap)=>i<=items.size/\h.IsRevIter I l ((items.size:Int) - 1 - (i:Int))/\h.IsList l items) 0 ((s.heap.push { cls:=.type "list",data:=.seq #[] }).update s.heap.objs.size (fM (fun _=>(#[]:Array Value)))) :=
  ⟨cC _,by have:=hI.at (fun o e=>Yl I o e); simpa using this,hl.at fun o e=>Yl l o e⟩
 generalize (s.heap.push { cls:=.type "list",data:=.seq #[] }).update s.heap.objs.size (fM (fun _=>(#[]:Array Value)))=h2 at TH Yl st;have hT:IU { s with heap:=h2 } (.ref I) "list_reverseiterator":=st.2.1.typeIs;have hSI:s.heap.objs.size≠I:=vC lI;have hSf:s.heap.objs.size∉[I,l]:=by simp only [aO,bO,or_false,not_or]; exact⟨hSI,vC ll⟩
 unfold ma;refine ag (wpAny_typeOf hT ?_);have h1:Ac (.ref s.heap.objs.size) (.ref I)=false:=by simp [Ac,hSI]
 rw [if_neg (by rw [h1]; decide)];refine ag (wpAny_pyIter_revIter (s:={ s with heap:=h2 }) st.2.1 ?_);refine ag (eM ?_);unfold Builtin.List.listLengthHint;refine ag (mx hT Lj ?_);show wpAny _ _ (specialOf (fm I) (qk "__length_hint__") >>= _) _ _ _;refine ag (mx hT O5 ?_);generalize HP:("list_reverseiterator.__length_hint__" : String)=id0
 wp_delta
 rw [show splitId id0=some ("list_reverseiterator","__length_hint__") from by subst HP; decide +kernel];subst HP;refine ag (la (b:=true) hT (by rw [isSubtype_type]; kernel_rfl) ?_);refine aC ?_;rw [if_neg (by decide)];obtain⟨c₀,XF⟩:∃ c₀,h2.get? s.heap.objs.size=some { cls:=.type "list",data:=.seq #[] c₀ }:=⟨_,TH⟩;refine aC ⟨plainId_quiet PySem.F.plain_extend_loop _,codeAny_extend_loopS W.toS hn _ hSf _ items.size 0 _ #[] c₀ rfl (cC _) st XF (ItemsOf.nil _) fun s' zJ c' hm hS' Pd=>?_⟩;rw [Moved.eq_with hm];refine⟨rfl,hQ s'.heap s'.toks zJ c' (fun b o hb e=>hm.heap b o (fun Vd=>?_) (Yl b o e)) hS' Pd⟩;rcases List.mem_cons.mp Vd with e' | Vd
 ·exact absurd (aS e) (by rw [e']; exact iH _)
 ·exact hb (List.mem_singleton.mp Vd)
end
end L2
namespace K2
open PySem PySem.Spec PyProof.Rows L2 PySem.W
section
variable {X:Cx}
variable {es:List Expr} {t:TF2} {e v1 v2:Expr} {te:fY} {pos:Pos} {c:Str} {k:Nat}
theorem DQ:∀ {vs:List V} {us:List Value} {v:V} {u:Value},Vals vs us->RelV v u->Vals (vs++[v]) (us++[u])
 | _,_,_,_,.nil,h=>.cons h .nil
 | _,_,_,_,.cons a r,h=>.cons a (DQ r h)
theorem DP:∀ {vs:List V} {us:List Value},Vals vs us->Vals vs.reverse us.reverse
 | _,_,.nil=>.nil
 | _,_,.cons h r=>by rw [rF,rF]; exact DQ (DP r) h
theorem Ea{K:ai}{H:Hp}:∀ {vs:List V} {ds:List D},br K H vs ds->br K H vs.reverse ds.reverse
 | _,_,.nil=>.nil
 | _,_,.cons h r=>by rw [rF,rF]; exact(Ea r).append (.cons h .nil)
theorem FI:eB "reversed" = some (.type "reversed"):=by decide +kernel
variable {a:Expr} {ta:fY} {p p2 NW:Pos}
theorem Es (hc:X.calm=true) (hg:Gl X "list") (hm:X.mg "list" = none) (Xv:Gl X "reversed") (J1:X.mg "reversed" = none) (ha:gE X a ta) (hs:autoParam (cK [a] X.env=[(false,eval a X.env)]) Ar._auto_1)
  (E3:autoParam (cK [.Call (.Name "reversed" p2) [a] [] NW] X.env=[(false,eval (.Call (.Name "reversed" p2) [a] [] NW) X.env)]) Ar._auto_1) :
  gE X (.Call (.Name "list" p) [.Call (.Name "reversed" p2) [a] [] NW] [] pos) (BD ta):=by
 intro E pins s σ H τ G Q hE I h;refine hU (pF I.inv hg hm Ko ?_);refine eF ?_ E3 rfl;rw [E3];show wpAny _ _ (Gr ((false,eval (.Call (.Name "reversed" p2) [a] [] NW) X.env) :: oy pos (cK [] X.env))) _ _ s;refine iW ?_;refine hU (pF I.inv Xv J1 FI ?_);refine eF ?_ hs rfl;rw [hs];show wpAny _ _ (Gr ((false,eval a X.env) :: oy NW (cK [] X.env))) _ _ s;refine iW (jx ha hE I h fun x H1 d G1 u s1 I1 m1 r1 jt q1=>?_);refine lM ?_;obtain⟨ds,hd,q⟩:=q1;obtain⟨l,vs,bW,rfl,rv,rs,hl,hz⟩:=kF I1.inv I1.ab r1 jt hd;have hzl:bW.toArray.size<=bc:=by rw [aY,<-rv.length]; exact hz
 refine call_reversed_list hl ?_;refine lM ?_;have ll:l < s1.heap.objs.size:=by obtain⟨o,e,_⟩:=hl; exact aS e
 have z8:(s1.heap.push (revObj l ((bW.toArray.size:Int) - 1))).IsList l bW.toArray:=hl.at fun o e=>aG _ e;have hI2:(s1.heap.push (revObj l ((bW.toArray.size:Int) - 1))).IsRevIter s1.heap.objs.size l ((bW.toArray.size:Int) - 1):=⟨_,bh _ rfl,rfl,rfl⟩;have nk:Inv X pins σ H1 { s1 with heap:=s1.heap.push (revObj l ((bW.toArray.size:Int) - 1)) }:=I1.inv.kept (t':=s1.toks) fun b o e=>aG _ e;refine OB (s:={ s1 with heap:=s1.heap.push (revObj l ((bW.toArray.size:Int) - 1)) }) (I1.inv.ok.hd hc) z8 hI2 (bK ll) hzl fun h' tk zJ c' kk hS' Pd=>?_;have eq:zJ.toList=bW.reverse:=by
  refine List.ext_getElem? fun j=>?_;by_cases hj:j < zJ.size
  ·have h1:=Pd.2 j zJ[j] (jT hj);have hs:zJ.size=bW.length:=by rw [Pd.1]; simp
   rw [List.getElem?_reverse (by lia),Array.getElem?_toList,jT hj,<-h1];simp
  ·have hs:zJ.size=bW.length:=by rw [Pd.1]; simp
   rw [jl (by rw [eE]; lia),jl (by rw [kh]; lia)]
 have hsz:(s1.heap.push (revObj l ((bW.toArray.size:Int) - 1))).objs.size=s1.heap.objs.size+1:=xg _ _;have hle:s1.heap.objs.size<=(s1.heap.push (revObj l ((bW.toArray.size:Int) - 1))).objs.size:=by rw [hsz]; exact GB _
 have hp:H1 (s1.heap.push (revObj l ((bW.toArray.size:Int) - 1))).objs.size=none:=I1.inv.cL.fresh hle;refine⟨.ref _,upd H1 _ (.lst vs.reverse),.ref _,_,I1.inv.laid (t':=tk) (fun b u e=>kk b u (bK (aS e)) (aG _ e)) hle ⟨by rw [kh]; exact hz,zJ.toList,c',by rw [eq]; exact DP rv,by simpa using hS'⟩,m1.trans (.EF I1.ab hp (Ea rs)),rfl,.ref _,q _ (I1.ab.free hp)⟩
end
end K2
end
section
namespace K2
open PySem PySem.Spec PyProof.Rows L2 PySem.W
section
variable {X:Cx}
theorem wB:∀ (ns:List Int) (j:Nat),(∀ n∈ns,-1000<=n/\n<=1000)->-1000 * (ns.length:Int)<=(ns.take j).sum/\(ns.take j).sum<=1000 * (ns.length:Int)
 | [],j,_=>by simp
 | n :: ns,0,_=>by simp only [List.take_zero,List.sum_nil,ak]; lia
 | n :: ns,j+1,h=>by
  have h1:=h n (by simp);have:=wB ns j fun m hm=>h m (aE _ hm);rw [List.take_succ_cons,lh,ak]; lia
theorem L6 (hc:X.calm=true):rE X (.builtin "sum") VB:=by
 intro pins s σ H G xs ds us Q I ab rx rd q;unfold VB at q;split at q
 ·rename_i x;obtain⟨ns,ty,hi,⟨hn,hb⟩,q⟩:=q;obtain⟨w1,rfl,D7⟩:=rd.one;obtain⟨u,rfl,ru⟩:=rx.one;obtain⟨l,vs,bW,rfl,rv,rs,hl,_⟩:=kF I ab ru D7 (Be ty hi);have ev:=rs.ints;subst ev;have hlen:bW.length=ns.length:=by rw [<-rv.length,aq]
  obtain⟨o,ho,O9,n,hd⟩:=id hl;have Bn:l≠s.heap.objs.size:=bK (aS ho);refine call_sum_walk (wpAny_pyIter_list hl ?_);refine⟨s.heap.objs.size,_,_,_,_,_,fun i=>ns.getD i 0,rfl,Walks.list (A:=X.A.in1) (show X.A.in1.handled=none from I.ok.hd hc) _ l Bn bW.toArray,⟨⟨_,bh _ rfl,rfl,rfl⟩,⟨o,aG _ ho,O9,n,hd⟩⟩,fun b hb=>?_,fun i v hv=>?_,fun j hj=>?_,fun h' tk t' hk=>?_⟩
  ·rcases (by simpa using hb:b=s.heap.objs.size\/b=l) with rfl | rfl
   ·rw [xg]; exact DG _
   ·rw [xg]; exact Nat.lt_succ_of_lt (aS ho)
  ·have hv':bW[i]?=some v:=by simpa using hv
   have O7:i < bW.length:=(List.getElem?_eq_some_iff.mp hv').1;have V4:i < ns.length:=by lia
   obtain⟨u,HM,ru⟩:=rv.get (i:=i) (x:=.int ns[i]) (by rw [bA,ay V4]; rfl);rw [hv'] at HM;cases HM;obtain⟨t,rfl⟩:=ru;refine⟨t,?_⟩;have e9:ns.getD i 0=ns[i]:=by rw [dU,ay V4]; rfl
   show eG ns[i] t=eG (ns.getD i 0) t;rw [e9]
  ·have hj':j < ns.length:=by rw [<-hlen]; simpa using hj
   have e1:ns.getD j 0=ns[j]:=by rw [dU,ay hj']; rfl
   have b1:=hb ns[j] (fN hj');have b2:=wB ns (j+1) hb;rw [Ab];dsimp only;rw [e1];unfold InLong;lia
  ·have e:preSum (fun i=>ns.getD i 0) bW.toArray.size=ns.sum:=by
    rw [Ab,aY,hlen,List.take_length]
   rw [e];refine⟨.int _,H,.int _,G,I.kept (t':=tk) fun b o e=>hk b o (by simpa using bK (aS e)) (aG _ e),.refl ab,⟨_,rfl⟩,.int _,q⟩
 ·exact q.elim
end
end K2
end
section
namespace K2
open PySem PySem.Spec PyProof.Rows L2
section
variable {K:ai} {h:Heap} {C:Addr} {XX:List Value} {newId:String}
inductive VQ (h:Heap) (C:Addr) (XX:List Value) (newId:String):Prop
 | mk (bm N nm qn bs aaH sn sub ab col dd k0 k1 k2 k3 k5 mN) (o:h.get? C=some (excClassObj nm qn C N bs bm aaH sn sub ab col dd k0 k1 k2 k3 k5 newId)) (n:h.Ns N mN) (i:mN "__init__" = none) (t:OwnTail h XX bm):VQ h C XX newId
end
end K2
end
section
namespace K2
open PySem PySem.Spec PyProof.Rows L2
noncomputable def kp1:HO->Bool
 | .tup _=>true
 | .jL _ (.lst _)=>true
 | .jL _ (.dK _)=>true
 | .jL _ (.dT _)=>true
 | .jL _ (.ext _)=>true
 | .jL _ (.xd _)=>true
 | _=>false
noncomputable def hr(H:Hp):Hp:=fun b=>(H b).bind fun o=>if kp1 o=true then some o else none
noncomputable def hj(H1 H':Hp):Hp:=fun b=>match H1 b with
 | some o=>some o
 | none=>H' b
end K2
end
section
namespace K2
open PySem PySem.Spec PyProof.Rows L2
noncomputable def subIn(K:ai)(C:Addr)(v:Value):Bool:=match K.lookup C with
 | some ⟨_,_,.cls cd,_⟩=>cd.mro.contains v
 | _=>false
section
variable {X:Cx} {x cn n:Str} {D f:Addr} {fd:aJ} {ps:List Str} {k i:Nat} {sp:nQ} {bmD:List Value} {newD:String} {cat:List Str} {e:Expr} {es:List Expr} {p np pos ep aea tp:Pos} {st0:Stmt} {abv:List Stmt} {t:IH} {th:iF}
structure acO(X:Cx):Prop where
 st:X.stack=X.env :: X.outer
 fr:X.env.frame=some X.env.locals
 ex:X.ex=[]
structure Clause(X:Cx)(i:Nat)(n cn:Str)(D:Addr)(cat:List Str):Prop where
 nd:X.N.Nodup
 VG:X.N[i]?=some n
 loc:X.env.scope.names.lookup n=some .local
 gl:Gl X cn
 mg:X.mg cn=some (.ref D)
 cls:∃ bmD newD,PySem.W.excIn X.K D bmD newD=true/\bmD.contains (.type "BaseException")=true
 cat:∀ c,cat.contains c=true->∃ C XX newId,c6 X.K bP c=some (some (.ref C))/\PySem.W.excIn X.K C XX newId=true/\subIn X.K C (.ref D)=true
end
end K2
end
section
namespace K2
open PySem PySem.Spec PyProof.Rows L2 PySem.W PySem.Calls PySem.Builtin PySem.Builtin.Getset_descriptor
section
variable {prog:bM} {w:World} {A:dD} {E:Value->az->Prop} {s:az} {K:ai} {a C:Addr} {ox:Obj}
structure acL(K:ai)(C:Addr):Prop where
 ga:findIn K (.ref C) "__getattribute__" = some (some (.builtin "BaseException.__getattribute__"))
 gn:findIn K (.ref C) "__getattr__" = some none
 VG:findIn K (.ref C) "__class__" = some (some (.builtin "object.__class__"))
 sp:specialIn K (.builtin "object.__class__") "__get__" = some (some (.builtin "getset_descriptor.__get__"))
 tk:takesIn K (.builtin "object.__class__")=some true
 mo:mroIn K C (.type "object")=some true
 mb:mroIn K C (.type "BaseException")=some true
 is:(clsIn K C).isSome=true
end
end K2
end
section
namespace K2
open PySem PySem.Spec PyProof.Rows L2
section
variable {X:Cx} {e:Expr} {te:fY} {pos:Pos}
theorem jK{i:Nat}{x:Str}{pos':Pos}(hN:X.N.Nodup)(hi:X.N[i]?=some x)(he:gE X e te)(hx:autoParam (Loc X.env.scope x) Ao._auto_1)(hs:autoParam (MN e (some (.Name x pos')) pos.line X.env=pure false) Ar._auto_1)(hf:autoParam (X.fn x=true\/X.env.scope.names.lookup x=some .local) Ao._auto_1) :
  II X (.Assign [.Name x pos'] e pos) (bL te (aN i)):=Ri hN hi hx he hs hf
theorem mi{i:Nat}{x:Str}(hN:X.N.Nodup)(hi:X.N[i]?=some x)(hx:autoParam (Loc X.env.scope x) Ao._auto_1)(hf:autoParam (X.fn x=true\/X.env.scope.names.lookup x=some .local) Ao._auto_1):Mc X (.Name x pos) (aN i):=N1 hN hi hx hf
theorem sT{P:bM}{w:World}{K:ai}{mg:Str->Option Value}{base:Heap}{x qual:Str}{st:Stmt}{f:Addr}{fd:aJ}{Nn ps:List Str}{k:Nat}{sp:nQ}{rd:iF}(F:o3 K x qual st f fd)(S:cF Nn ps (bo st))
  (hr:∀ ds G Q,sp ds G Q (fun _ _=>False)->rd (fun _ _=>False) (ends Q) (bE Nn.length ds) G)
  (hb:∀ (oZ:Value) (A:dD) (outer:List Env) (s:az) (H:Hp) (E:XK),mY k (A.deeper (DE qual (bo st) s.heap.objs.size f oZ))->zL (FC gu P w K mg base Nn qual (bo st) f oZ A outer s H E).VY (j6 st) rd)
  (len:autoParam (∀ ds G Q E,sp ds G Q E->ds.length=ps.length) Al._auto_1):gq P w K mg base gu (k+1) f fd ps (cS K sp):=RZ F S len hr hb
theorem sN{N ps:List Str}{sc:Scope}(h1:autoParam (sc.kind=.function) Ar._auto_1)(h2:autoParam (sc.isCoroutine=false) Ar._auto_1)(h3:autoParam (sc.isGenerator=false) Ar._auto_1)(h4:autoParam N.Nodup Ak._auto_1)(h5:autoParam (N.take ps.length=ps) Ar._auto_1)
  (h6:autoParam (∀ x∈ps,sc.names.lookup x=some .local\/sc.names.lookup x=some .cell) Ak._auto_1) (h7:autoParam (∀ y∈sc.names,y.2≠.free) Ak._auto_1):cF N ps sc:=⟨h1,h2,h3,h4,h5,h6,h7⟩
end
end K2
end
section
namespace K2
open PySem PySem.Spec PyProof.Rows L2
section
variable {X:Cx} {a b c:Expr} {ta tb tc:fY} {pos:Pos}
theorem xJ {x:Str} {i:Int} {t:Tok} {p:Pos} (hg:Gl X x) (hm:X.mg x=some (.int i t)) (hd:autoParam ((x == ("__debug__" : Str))=false) Ad._auto_1):gE X (.Name x p) (dC (.int i)):=vN (Rp (v:=.int i) hg hm ⟨t,rfl⟩ hd) fun _ _=>.int i
end
end K2
end
section
namespace K2
open PySem PySem.Spec PyProof.Rows L2
theorem tD{α:Type}{us:List α}(h:us.length=1):∃ a,us=[a]:=List.length_eq_one_iff.mp h
theorem U2{α:Type}{us:List α}{n:Nat}(h:us.length=n+1):∃ a t,us=a :: t/\t.length=n:=by
 cases us with
 | nil=>cases h
 | cons a t=>exact⟨a,t,rfl,Nat.succ.inj h⟩
theorem xi{α:Type}{us:List α}(h:us.length=2):∃ a b,us=[a,b]:=by
 obtain⟨a,t,rfl,h2⟩:=U2 h; obtain⟨b,rfl⟩:=tD h2; exact⟨a,b,rfl⟩
theorem Lr{α:Type}{us:List α}(h:us.length=3):∃ a b c,us=[a,b,c]:=by
 obtain⟨a,t,rfl,h2⟩:=U2 h; obtain⟨b,c,rfl⟩:=xi h2; exact⟨a,b,c,rfl⟩
theorem ZX{α:Type}{us:List α}(h:us.length=4):∃ a b c d,us=[a,b,c,d]:=by
 obtain⟨a,t,rfl,h2⟩:=U2 h; obtain⟨b,c,d,rfl⟩:=Lr h2; exact⟨a,b,c,d,rfl⟩
end K2
end
section
namespace L2
open PySem PySem.Spec PyProof.Rows
section
variable {prog:bM} {w:World} {A:dD} {E:Value->az->Prop} {s:az}
theorem HF{it d:Addr}{od:Obj}{es:Array ft}{i ep:Nat}{ok ov:Value}{Q:Option Value->az->Prop}(hit:nW s.heap it d i es.size ep ok ov)(Dv:s.heap.get? d=some od)(dd:od.data=.dict es ep)(hi:i < es.size)
  (hQ:∀ h',IsItemIterOut h' it d (i+1) es.size ep es[i].key es[i].val s.heap.objs.size->h'.get? s.heap.objs.size=some { cls:=.type "tuple",data:=.seq #[es[i].key,es[i].val] }->(∀ b o,b≠it->s.heap.get? b=some o->h'.get? b=some o)->Q (some (.ref s.heap.objs.size)) { s with heap:=h' }) :
  wpAny (model prog w) A (DD (.ref it)) Q E s:=by
 obtain⟨hp,g,dr,tk,os⟩:=s;have ty:IU ⟨hp,g,dr,tk,os⟩ (.ref it) "dict_itemiterator":=⟨_,hit,rfl⟩;unfold DD;refine ag (DB (iX (name:=qk "__next__") ty i0 (c9 i0 ty FZ ?_ (DI _))));refine ag (aC (ag (ag ?_)))
 first | refine ag (iV ty (aC (ag (ow hit rfl ?_)))) | refine ag (kP ty (aC (ag (ow hit rfl ?_))))
 have Oc:fh "dict_itemiterator" = true:=by decide
 rw [Oc];show wpAny _ _ (if (fm d == fX)=true then _ else _) _ _ _;rw [if_neg (fun z=>by cases z)];refine ag (aC (ag (gy Dv dd ?_)));rw [if_neg (by simp)];refine ag (aC (ag (mz Dv dd ?_)));rw [if_neg (by simp)];refine aC ?_;dsimp only;rw [if_neg (show ¬ ((i:Int) < 0) from Int.not_lt.mpr (ql i)),eN,jT hi];dsimp only;refine ag ?_
 first | refine ag (iV ty (aC (ag (nC ty ?_)))) | refine ag (kP ty (aC (ag (nC ty ?_))))
 show wpAny _ _ (setField (.ref it) 3 (DC ((i:Int)+1)) >>= _) _ _ ⟨hp,g,dr,tk,os⟩;refine ag (my hit (by simp) fun h1 e1 s1=>?_);have s1:fF it hp h1:=s1;have e1:nW h1 it d (i+1) es.size ep ok ov:=by
  have e:((i+1:Nat):Int)=(i:Int)+1:=by lia
  unfold nW; rw [e]; simpa [DC] using e1
 have ty1:IU ⟨h1,g,dr,tk,os⟩ (.ref it) "dict_itemiterator":=⟨_,e1,rfl⟩;refine ag (eM (ag (nC ty1 (ag (nC ty1 ?_)))));show wpAny _ _ (qw (.ref it) 6 es[i].key es[i].val) _ _ ⟨h1,g,dr,tk,os⟩;unfold qw;refine ag (wpAny_newTuple ?_);have z1:h1.objs.size=hp.objs.size:=s1.1;have lt:it < hp.objs.size:=aS hit;have e2:nW (h1.push { cls:=.type "tuple",data:=.seq #[es[i].key,es[i].val] }) it d (i+1) es.size ep ok ov:=aG _ e1;have t2:(h1.push { cls:=.type "tuple",data:=.seq #[es[i].key,es[i].val] }).get? hp.objs.size=some { cls:=.type "tuple",data:=.seq #[es[i].key,es[i].val] }:=by rw [<-z1]; exact bh _ rfl
 have k2:∀ b o,b≠it->hp.get? b=some o->(h1.push { cls:=.type "tuple",data:=.seq #[es[i].key,es[i].val] }).get? b=some o:=fun b o hb e=>aG _ (s1.extBut b o hb e);generalize h1.push { cls:=.type "tuple",data:=.seq #[es[i].key,es[i].val] } = h2 at e2 t2 k2;show wpAny _ _ (iL (.ref it) >>= _) _ _ ⟨h2,g,dr,tk,os⟩;rw [z1];refine ag (show wpAny _ _ (iL (.ref it)) _ _ _ from ?_);unfold iL;refine ag (qo e2 rfl (x:=.none) rfl (aC ?_));rw [if_pos rfl];refine ag (qo e2 rfl (x:=ok) rfl (ag (qo e2 rfl (x:=ov) rfl (ag (my e2 (by simp) fun h3 e3 s3=>?_)))));have s3:fF it h2 h3:=s3;have e3:nW h3 it d (i+1) es.size ep es[i].key ov:=e3;refine ag (my e3 (by simp) fun h4 e4 s4=>?_);have s4:fF it h3 h4:=s4;have e4:nW h4 it d (i+1) es.size ep es[i].key es[i].val:=e4;refine ag (my e4 (by simp) fun h5 e5 s5=>?_);have s5:fF it h4 h5:=s5;have e5:IsItemIterOut h5 it d (i+1) es.size ep es[i].key es[i].val hp.objs.size:=e5;refine ag (my e5 (by simp) fun h6 e6 s6=>?_);have s6:fF it h5 h6:=s6;have all:∀ b o,b≠it->h2.get? b=some o->h6.get? b=some o:=fun b o hb e=>s6.extBut b o hb (s5.extBut b o hb (s4.extBut b o hb (s3.extBut b o hb e)));exact ag (wpAny_letGo (aC (aC ⟨_,rfl,aC (hQ h6 e6 (all _ _ (vC lt) t2) fun b o hb e=>all b o hb (k2 b o hb e))⟩)))
end
end L2
namespace L2
open PySem PySem.Spec PyProof.Rows
section
variable {prog:bM} {w:World} {A:dD} {E:Value->az->Prop} {s:az}
theorem LC{it d:Addr}{od:Obj}{es:Array ft}{i ep:Nat}{ok ov:Value}{Q:Option Value->az->Prop}(calm:A.handled=none)(hit:nW s.heap it d i es.size ep ok ov)(Dv:s.heap.get? d=some od)(dd:od.data=.dict es ep)(hi:es.size<=i)
  (hQ:∀ h',Heap.ExtBut it s.heap h'->Q none { s with heap:=h' }):wpAny (model prog w) A (DD (.ref it)) Q E s:=by
 have ty:s.TypeIs (.ref it) "dict_itemiterator":=⟨_,hit,rfl⟩;unfold DD;refine ag (DB (iX (name:=qk "__next__") ty i0 (c9 i0 ty FZ ?_ (DI _))));refine ag (aC (ag (ag ?_)))
 first | refine ag (iV ty (aC (ag (ow hit rfl ?_)))) | refine ag (kP ty (aC (ag (ow hit rfl ?_))))
 have Oc:fh "dict_itemiterator" = true:=by decide
 rw [Oc];show wpAny _ _ (if (fm d == fX)=true then _ else _) _ _ s;rw [if_neg (fun z=>by cases z)];refine ag (aC (ag (gy Dv dd ?_)));rw [if_neg (by simp)];refine ag (aC (ag (mz Dv dd ?_)));rw [if_neg (by simp)];refine aC ?_;dsimp only;rw [if_neg (show ¬ ((i:Int) < 0) from Int.not_lt.mpr (ql i)),eN,Mw hi];dsimp only;refine ag ?_
 first | refine ag (iV ty (aC (?_))) | refine ag (kP ty (aC (?_)))
 show wpAny _ _ (setField (.ref it) 2 .none >>= _) _ _ s;refine ag (QM hit rfl (by simp) (show wpAny _ _ (newExc (.type "StopIteration") [] >>= _) _ _ _ from ag ?_));simp only [newExc,newTuple];refine ag (dB (ag (m:=AO _ _) (wpAny_of_eq (a:=fX) (by first | rfl | (simp only [AO]; rfl)) (dB ?_ (by size_fits)))) (by size_fits));simp only [raiseNew];refine ag (wpAny_handled ?_);rw [show A.in1.handled=none from calm];refine ag (aC (wpAny_throw ?_));refine ag (la (T:="StopIteration") (b:=true) ⟨_,bh _ rfl,rfl⟩ isSubtype_stop (?_));exact aC (hQ _ (((jm ..).extBut.push _).push _))
end
end L2
namespace L2
open PySem PySem.Spec PyProof.Rows
section
variable {prog:bM} {w:World} {A:dD} {E:Value->az->Prop} {s:az}
theorem uJ (d:Addr) (ns:(d == da)=false):MeetsIn prog w (Builtin.«dict.items» ⟨[.ref d],[]⟩) (fun _ R s=>s.TypeIs (.ref d) "dict"/\R (.ok (.ret (.ref s.heap.objs.size))) { s with heap:=s.heap.push { cls:=.type "dict_items",data:=.fields #[.ref d] } }):=by
 refine .of_wp ?_;rintro A R s ⟨ty,h⟩;unfold Builtin.«dict.items» Builtin.Dict.noArgs;refine ag (ag (xZ ty (show wpAny _ _ (pure d) _ _ s from aC ?_)));show wpAny _ _ (kG d >>= _) _ _ s;unfold kG;rw [if_neg (fun z=>by rw [ns] at z; cases z)];exact ag (aC (ag (dB (aC ⟨_,rfl,h⟩))))
theorem wY{v d:Addr}{od:Obj}{es:Array ft}{ep:Nat}{Q:Value->az->Prop}(hv:s.heap.IsItemsView v d)(Dv:s.heap.get? d=some od)(dd:od.data=.dict es ep)
  (hQ:Q (.ref s.heap.objs.size) { s with heap:=s.heap.push { cls:=.type "dict_itemiterator",data:=.fields #[.none,.bool false,.ref d,.int 0 0,.int es.size 0,.int ep 0,.none,.none] } }) :
  wpAny (model prog w) A (MO (.ref v)) Q E s:=by
 obtain⟨ov,hov,hcv,hdv⟩:=id hv;refine nS hv.typeIs F.slot_dict_items_iter (c9 F.slot_dict_items_iter hv.typeIs F.entry_dict_items_iter ?_ (F.args_dict_items_iter_1 _));unfold Builtin.«dict_items.__iter__» Builtin.Dict_items.dictOf;refine ag (aC (ag (ag (qo hov hdv (x:=.ref d) rfl (aC (ag ?_))))));unfold Builtin.Dict_items.newIterator;refine ag (gy Dv dd (ag (mz Dv dd ?_)));have Oc:fh "dict_itemiterator" = true:=by decide
 rw [Oc];dsimp only;rw [if_pos (show true=true from rfl)];refine dB (aC ⟨_,rfl,"dict_itemiterator",_,⟨_,bh _ rfl,rfl⟩,F.slot_dict_itemiterator_next.lookup,?_⟩) ?_
 ·simpa [DC,pN] using hQ
 ·simp only [sizeOk,pN,aY,au,ak,aF,cY]; lia
end
noncomputable def abk(a:Addr)(o:Obj)(es:Array ft)(ps:List (V×V)):It :=
 ⟨fun i H=>(∃ u,H a=some (.jL o u))/\i < es.size,fun i H v H'=>∃ T p,v=.ref T/\H T=none/\H'=upd H T (.tup [p.1,p.2])/\ps[i]?=some p,fun i H=>(∃ u,H a=some (.jL o u))/\es.size<=i⟩
theorem wA{P:bM}{w:World}{K:ai}{elts:List Expr}{kk:Nat}{pos:Pos}(a it:Addr)(o:Obj)(es:Array ft)(ep:Nat)(ps:List (V×V))(dd:o.data=.dict es ep)(hk:∀ i (h:i < es.size),∃ p,ps[i]?=some p/\RelV p.1 es[i].key/\RelV p.2 es[i].val) :
  Turn P w K (.Tuple elts kk pos) (abk a o es ps) [it] it (fun i h=>∃ ok ov,nW h it a i es.size ep ok ov) where
 mem:=by simp
 obj:=by
  rintro i h ⟨ok,ov,st⟩ b hb;have e:b=it:=by simpa using hb
  subst e;exact⟨_,st,fun v z=>by cases z⟩
 keep:=by rintro i h h' ⟨ok,ov,st⟩ k; exact⟨ok,ov,k it (by simp) _ st⟩
 item:=by
  intro X hP hw hK hc i pins s σ H E I hf st hg;obtain⟨ok,ov,st⟩:=st;subst hP hw hK;obtain⟨⟨u,hu⟩,hi⟩:=hg;obtain⟨p,hp,r1,r2⟩:=hk i hi;have XE:H s.heap.objs.size=none:=I.cL.fresh (aI _);have hiT:it≠s.heap.objs.size:=bK (aS st);refine HF st (I.cL a _ hu).1 dd hi fun h' ho hT kk=>?_;refine⟨_,rfl,?_⟩;have I1:Inv X pins σ (upd H s.heap.objs.size (.tup [p.1,p.2])) { s with heap:=h',toks:=s.toks } :=
   I.BY (fp:=[it]) hf (fun b o hb q=>kk b o (fun z=>hb (by simp [z])) q) (aI _)
    ⟨by show 2<=bc; decide,[es[i].key,es[i].val],.cons r1 (.cons r2 .nil),⟨_,hT,rfl,_,rfl⟩⟩
  refine ML (s:={ s with heap:=h' }) ho fun h2 Xx E3=>?_;have f1:∀ b∈[it],ou X pins (upd H s.heap.objs.size (.tup [p.1,p.2])) b:=fun b hb=>(hf b hb).upd (by rw [List.mem_singleton.mp hb]; exact hiT);have I2:Inv X pins σ (upd H s.heap.objs.size (.tup [p.1,p.2])) { s with heap:=h2,toks:=s.toks } :=
   Inv.xC (s:={ s with heap:=h',toks:=s.toks }) (t':=s.toks) (fp:=[it]) I1 f1 fun b o hb q=>(E3.2 b (fun z=>hb (by simp [z]))).trans q
  exact⟨.ref s.heap.objs.size,_,I2,rfl,⟨_,p,rfl,XE,rfl,hp⟩,⟨_,_,Xx⟩,fun b hb=>(f1 b hb).1⟩
 done:=by
  intro X hP hw hK hc i pins s σ H E I hf st hg;obtain⟨ok,ov,st⟩:=st;subst hP hw hK;obtain⟨⟨u,hu⟩,hi⟩:=hg;obtain⟨f0,f1,f2,f3,f4,f5⟩:=hf it (by simp);exact LC (I.ok.hd hc) st (I.cL a _ hu).1 dd hi fun h' eb=>⟨rfl,I.turned (t':=s.toks) (fun b o hb e=>eb b o hb e) f0 f1 f3 f4 f5⟩
 self:=by
  rintro A i s Q E ⟨ok,ov,st⟩ h;have ty:s.TypeIs (.ref it) "dict_itemiterator":=⟨_,st,rfl⟩;refine nS ty i4 (c9 i4 ty lG ?_ (DJ _));show wpAny _ _ (ret (.ref it)) _ _ s;exact aC ⟨_,rfl,"dict_itemiterator",_,ty,F.slot_dict_itemiterator_next.lookup,h⟩
end L2
end
section
namespace K2
open PySem PySem.Spec PyProof.Rows L2
section
variable {X:Cx} {elts:List Expr} {kk:Nat} {DT apos jJ:Pos} {o:Expr} {to:fY}
theorem lY.item{K:ai}{H:Hp}{kv:List (List Key×V)}{kvs:List (D×D)}(h:lY K H kv kvs):∀ {i:Nat} {q:D×D},kvs[i]?=some q->∃ p,kv[i]?=some p/\q.1=.tup (p.1.map ef)/\cw K H p.2 q.2:=by
 induction h using lY.ind with
 | nil=>intro i q e; simp at e
 | @cons k v d r t rd rs ih =>
  intro i q e;cases i with
  | zero=>simp at e; subst e; exact⟨_,rfl,rfl,rd⟩
  | succ i =>
   obtain⟨p,h1,h2⟩:=ih (i:=i) (q:=q) (by simpa using e);exact⟨p,by simpa using h1,h2⟩
theorem lY.len{K:ai}{H:Hp}{kv:List (List Key×V)}{kvs:List (D×D)}(h:lY K H kv kvs):kv.length=kvs.length:=by
 have:=congrArg di h.keys;simpa using this.symm
theorem Hi (ho:gE X o to) (zc:autoParam (qa o "items" X.env (eval o X.env)=eval o X.env) Ar._auto_1) (zb:autoParam ((apos.endLine == jJ.line)=true) Ar._auto_1) :
  MH X (.Tuple elts kk DT) (.Call (.Attribute o "items" apos) [] [] jJ) (Ct to):=by
 intro E pins s σ H τ G R hE I h;refine vw zc zb (jx ho hE I h fun x H1 d G1 v s1 I1 m1 r1 jt q1=>?_);cases d with
 | kJ kvs =>
  obtain⟨h1,q1⟩:=q1;obtain⟨t1,t2⟩:=oz pins s1 σ H1 G1 x _ v I1.inv I1.ab r1 jt trivial;have main:∃ (a:Addr) (ob:Obj) (u:HO) (es:Array ft) (ep:Nat) (ps:List (V×V)),x=.ref a/\(a == da)=false/\H1 a=some (.jL ob u)/\ob.data=.dict es ep/\(∀ i (h:i < es.size),∃ p,ps[i]?=some p/\RelV p.1 es[i].key/\RelV p.2 es[i].val)/\kvs.length=es.size /\
    (∀ (i:Nat) (q:D×D),kvs[i]?=some q->∃ p,ps[i]?=some p/\cw X.K H1 p.1 q.1/\cw X.K H1 p.2 q.2):=by
   cases jt with
   | qh hq rs =>
    rename_i a o kv;cases rs with
    | nil =>
     obtain⟨z,ns,vs,rel,ob,es,ep,ho,ex,dd,hko,hp,nd⟩:=(I1.inv.cL a _ hq).2;have eo:ob=o:=by have:=(I1.inv.cL a _ hq).1; rw [ho] at this; exact ba this
     subst eo;have l1:es.size=vs.length:=by simpa using hp.length
     have l2:([]:List (Key×V)).length=vs.length:=iu rel;have l3:es.size=0:=by rw [l1,<-l2]; rfl
     exact⟨a,ob,_,es,ep,[],rfl,ns,hq,dd,fun i h=>by lia,by rw [l3]; rfl,fun i q e=>by simp at e⟩
    | @cons j _ _ _ _ _ _=>cases j <;> simp [ef,kC] at h1
   | qg hq rs =>
    rename_i a o kv;obtain⟨z,ns,xs,rel,ob,es,ep,ho,ex,dd,hl,nd⟩:=(I1.inv.cL a _ hq).2;have eo:ob=o:=by have:=(I1.inv.cL a _ hq).1; rw [ho] at this; exact ba this
    subst eo;have l1:=congrArg di hl;rw [aq,eE] at l1;have l2:kv.length=xs.length:=iu rel;have l3:=rs.len;refine⟨a,ob,_,es,ep,(kv.zip xs).map fun z=>(V.ref z.2.2.1,z.1.2),rfl,ns,hq,dd,fun i hi=>?_,by lia,fun i q e=>?_⟩
    ·have i2:i < xs.length:=by lia
     have i3:i < kv.length:=by lia
     have ee:es[i]=entryOfKey (iG (cP X.prog X.w)) xs[i]:=by
      have:=congrArg (fun l=>l[i]?) hl;simp only [bA,ay i2] at this;simpa [hi] using this
     refine⟨(V.ref xs[i].2.1,kv[i].2),by rw [bA,ay (by rw [lj]; lia),sX]; rfl,?_⟩;rw [ee];exact⟨rfl,(vQ rel i i3 i2).2.2⟩
    ·obtain⟨p,hp,ek,rp⟩:=rs.item e;have i3:i < kv.length:=(List.getElem?_eq_some_iff.mp hp).1;have i2:i < xs.length:=by lia
     have pr:=vQ rel i i3 i2;rw [ay i3] at hp;cases hp;refine⟨(V.ref xs[i].2.1,kv[i].2),by rw [bA,ay (by rw [lj]; lia),sX]; rfl,?_,rp⟩;rw [ek];exact .tup pr.2.1 (vJ _)
  obtain⟨a,ob,u,es,ep,ps,rfl,hm,hu,dd,hk,hlen,Uz⟩:=main;cases r1;refine⟨"dict","dict.items",dc,fQ,qu,t1,t2,lF rfl (xf ?_)⟩;refine x9 fQ t1 qb (o6 _) (uJ a hm) ⟨t1,?_⟩;have I2:Inv X pins σ H1 { s1 with heap:=s1.heap.push { cls:=.type "dict_items",data:=.fields #[.ref a] } }:=I1.inv.kept (t':=s1.toks) fun b o e=>aG _ e;refine wY (s:={ s1 with heap:=s1.heap.push { cls:=.type "dict_items",data:=.fields #[.ref a] } }) ⟨_,bh _ rfl,rfl,rfl⟩ (aG _ (I1.inv.cL a _ hu).1) dd ?_;refine⟨_,[_],_,_,H1,G1,kvs.map (fun p=>.tup [p.1,p.2]),_,rfl,I2.kept (t':=s1.toks) fun b o e=>aG _ e,m1,wA a _ ob es ep ps dd hk,⟨.none,.none,bh _ rfl⟩,fun b hb=>?_,fun i H2 G2 k ab _=>?_,q1⟩
  ·have e:=List.mem_singleton.mp hb;subst e;exact I2.CB (aI _) (I2.cL.fresh (aI _))
  ·have z8:=k.jL _ _ _ hu;refine⟨fun d hd=>?_,fun hle=>⟨⟨u,z8⟩,by rw [<-hlen]; simpa using hle⟩⟩;rw [bA] at hd;cases LJ:kvs[i]? with
   | none=>rw [LJ] at hd; cases hd
   | some q =>
    rw [LJ] at hd;obtain⟨p,hp,rk,rp⟩:=Uz i q LJ;have hi:i < es.size:=by rw [<-hlen]; exact(List.getElem?_eq_some_iff.mp LJ).1
    refine⟨⟨⟨u,z8⟩,hi⟩,?_⟩;rintro x H3 ⟨T,p',ex,hT,e3,hy⟩;subst ex e3;rw [hp] at hy;cases hy;have ed:D.tup [q.1,q.2]=d:=by simpa using hd
    subst ed;exact⟨.tup cc (.cons ((rk.mono k).mono (.new hT)) (.cons ((rp.mono k).mono (.new hT)) .nil)),.HP ab hT⟩
 | _=>exact q1.elim
end
end K2
end
section
namespace K2
open PySem PySem.Spec PyProof.Rows L2
noncomputable def eOk(e:ft)(p:Int×Int):Bool:=e.hash == hashInt p.1&&si p.1 e.key&&si p.2 e.val
noncomputable def R4:List ft->List (Int×Int)->Bool
 | [],[]=>true
 | e :: es,p :: ps=>eOk e p&&R4 es ps
 | _,_=>false
noncomputable def BB(K:ai)(a:Addr)(kv:List (Int×Int)):Bool:=match K.lookup a with
 | some o=>o.cls == .type "dict" && o.dict == none&&o.slots.toList == []&&(match o.data with | .dict es _=>R4 es.toList kv | _=>false)
 | none=>false
noncomputable def Tf(kv:List (Int×Int)):List (Key×V):=kv.map fun p=>(.inl p.1,.int p.2)
theorem isInt_shape{i:Int}{v:Value}(h:si i v=true):∃ t,v=.int i t:=by
 rcases eQ (k:=.inl i) h with ⟨j,t,e,rfl⟩ | ⟨_,_,e,_⟩
 ·cases e; exact⟨t,rfl⟩
 ·cases e
section
variable {P:bM} {w:World}
theorem zt:∀ (es:List ft) (kv:List (Int×Int)),R4 es kv=true->∃ vs,KV (Tf kv) vs/\Pairs (cP P w) es vs/\vs.map (·.1)=kv.map (fun p=>(vz p.1:Key))/\∀ e∈es,∃ k,(cP P w).is k e.key=true/\e.hash=(cP P w).hash k
 | [],[],_=>⟨[],.nil,.nil,rfl,fun e h=>by cases h⟩
 | [],_ :: _,h=>bz (show false=true from h)
 | _ :: _,[],h=>bz (show false=true from h)
 | e :: es,p :: ps,h=>by
  have h:(eOk e p&&R4 es ps)=true:=h;rw [aK] at h;obtain⟨vs,h1,h2,h3,h4⟩:=zt es ps h.2;have he:=h.1;unfold eOk at he;rw [aK,aK] at he;obtain⟨t,ev⟩:=isInt_shape he.2;refine⟨(.inl p.1,e.val) :: vs,.cons ⟨rfl,t,ev⟩ h1,.cons he.1.2 rfl h2,by rw [aj,aj,h3],fun x hx=>?_⟩;rcases List.mem_cons.mp hx with rfl | hx
  ·exact⟨.inl p.1,he.1.2,beq_iff_eq.mp he.1.1⟩
  ·exact h4 x hx
theorem Vx{K:ai}{a:Addr}{kv:List (Int×Int)}{h:Heap}(Y:K.In h)(e:BB K a kv=true)(nd:(kv.map (·.1)).Nodup):∃ vs,KV (Tf kv) vs/\h.DictOf (cP P w) a vs:=by
 unfold BB at e;cases hl:K.lookup a with
 | none=>rw [hl] at e; exact bz (show false=true from e)
 | some o =>
  rw [hl] at e;dsimp only at e;rw [aK,aK,aK] at e;obtain⟨⟨⟨e1,e2⟩,e3⟩,e4⟩:=e;obtain⟨c,dd,dt,⟨sl⟩⟩:=o;have f1:c=.type "dict":=beq_iff_eq.mp e1;have f2:dd=none:=beq_iff_eq.mp e2;have f3:sl=[]:=beq_iff_eq.mp e3;clear e1 e2 e3;subst f1;subst f2;subst f3;cases dt with
  | dict es ep =>
   obtain⟨vs,h1,h2,h3,h4⟩:=zt (P:=P) (w:=w) es.toList kv e4;refine⟨vs,h1,_,es,ep,Y _ _ hl,⟨rfl,rfl,rfl⟩,rfl,?_,h2,?_⟩
   ·intro e he;obtain⟨k,q1,q2⟩:=h4 e (Array.mem_toList_iff.mpr he);exact⟨k,q1,q2⟩
   ·rw [h3];have:kv.map (fun p=>(vz p.1:Key))=(kv.map (·.1)).map vz:=by rw [aW]; rfl
    rw [this,List.nodup_iff_pairwise_ne,AQ];exact(List.nodup_iff_pairwise_ne.mp nd).imp fun Bn e=>Bn (Sum.inl.inj e)
  | _=>exact bz (show false=true from e4)
end
end K2
namespace K2
open PySem PySem.Spec PyProof.Rows L2
section
variable {X:Cx} {x:Str} {a:Addr} {kv:List (Int×Int)} {p px pos:Pos}
theorem TL{K:ai}{H:Hp}:∀ kv:List (Int×Int),mw K H (Tf kv) (bF kv)
 | []=>.nil
 | p :: kv=>.cons (k:=.inl p.1) (.int p.2) (TL kv)
theorem A5 (hg:Gl X "dict") (hm:X.mg "dict" = none) (Xv:Gl X x) (J1:X.mg x=some (.ref a)) (ns:(a == da)=false) (hD:BB X.K a kv=true) (nd:(kv.map (·.1)).Nodup) (hz:kv.length<=1000) (LN:autoParam ((x == ("__debug__" : Str))=false) Ad._auto_1)
  (hs:autoParam (cK [.Name x px] X.env=[(false,eval (.Name x px) X.env)]) Ar._auto_1):gE X (.Call (.Name "dict" p) [.Name x px] [] pos) (FA kv):=by
 intro E pins s σ H τ G Q hE I h;refine hU (pF I.inv hg hm C4 ?_);refine eF ?_ hs rfl;rw [hs];show wpAny _ _ (Gr ((false,eval (.Name x px) X.env) :: oy pos (cK [] X.env))) _ _ s;refine iW ?_;refine Co I.inv Xv J1 ?_ LN;refine lM ?_;obtain⟨vs,rel,dd⟩:=Vx (P:=X.prog) (w:=X.w) I.inv.JS hD nd;have hl:vs.length=kv.length:=by rw [<-rel.length]; unfold Tf; rw [aq]
 have sz:bc=16777216:=cY;refine kt_call_dict ns dd (by lia) fun h' BC hs=>?_;have hp:H s.heap.objs.size=none:=I.inv.cL.fresh (aI _);have zz:(Tf kv).length<=bc:=by unfold Tf; rw [aq]; lia
 refine⟨.ref _,upd H s.heap.objs.size (.dK (Tf kv)),.ref _,_,I.inv.laid (a:=s.heap.objs.size) (o:=.dK (Tf kv)) (t':=s.toks) (fun b q hq=>?_) (aI _) (CP zz (beq_eq_false_iff_ne.mpr (fW (bK I.inv.big))) rel BC),.new I.ab hp (.dk cc (TL kv)),rfl,.ref _,h _ (I.ab.free hp)⟩;exact(hs.2 b (bK (aS hq))).trans (aG _ hq)
end
end K2
end
section
namespace K2
open PySem PySem.Spec PyProof.Rows L2
section
variable {X:Cx}
theorem FG:rE X (.type "tuple") Sr:=by
 intro pins s σ H G xs ds us Q I ab rx rd q;unfold Sr at q;split at q
 ·rename_i x;obtain⟨v,rfl,r⟩:=rd.one;have VS:∀ (l:Addr) (ys:List V) (zs:List D),v=.ref l->rz X.K H l ys->br X.K H ys zs->Q (.tup zs) G->wpAny (model X.prog X.w) X.A (call (.type "tuple") us) (tW X pins σ H G Q) X.xe s:=fun l ys zs e h rs hq=>by
   subst e;exact gN (AJ pins s σ H _ us (BM X.K H G Q) I rx ⟨l,ys,rfl,.inl ⟨h,fun p hp=>⟨.tup zs,G,.HP ab hp,.tup cc (rs.mono (.new hp)),hq⟩⟩⟩) fun _ _ z=>.of z
  cases r with
  | dP hq rs=>exact VS _ _ _ rfl hq.sq rs q
  | ref l =>
   unfold pQ at q;dsimp only at q;cases hg:G l with
   | none=>rw [hg] at q; exact q.elim
   | some g =>
    rw [hg] at q;cases g with
    | lst ds =>
     obtain⟨vs,hv,rs⟩:=ab.lst hg;exact VS _ _ _ rfl (.of hv) rs q
    | ins _ _=>exact q.elim
    | sE _=>exact q.elim
    | gP kvs=>exact q.elim
  | _=>exact bS q
 ·exact q.elim
end
end K2
end
section
namespace K2
open PySem PySem.Spec PyProof.Rows L2
noncomputable abbrev Lv(P:bM)(w:World):DH P w PK:=ZO (Gu P w)
section
variable {P:bM} {w:World} {K:ai} {H:Hp} {h:Heap}
theorem items_int:∀ {t:List Int} {us:List Value},Vals (t.map V.int) us->ItemsAre (Gu P w) t us
 | [],_,r=>by rw [bq] at r; cases r; exact .nil
 | i :: t,_,r=>by
  rw [aj] at r;cases r with
  | cons h r =>
   obtain⟨q,rfl⟩:=h;exact .cons (by simp [Gu,si]) (items_int r)
theorem ZN(ok:pZ P w H h){v:V}{u:Value}{t:List Int}(r:cw K H v (.tup (t.map D.int)))(ru:RelV v u):∃ b,u=.ref b/\(iG (Gu P w)).is h t b:=by
 cases r with
 | tup e rs =>
  have z:=rs.ints;subst z;cases ru;obtain⟨_,bW,r,o,h1,h2,n,h3⟩:=(show fV P w H h _ (.tup (t.map V.int)) from ok _ _ e);exact⟨_,rfl,o,bW.toArray,n,h1,h2,h3,by simpa using items_int r⟩
theorem S6(ok:pZ P w H h):∀ {r:List (List Int)} {vs:List V} {us:List Value},br K H vs (r.map fun t=>.tup (t.map D.int))->Vals vs us->sG (iG (Gu P w)) h r us
 | [],_,_,q,ru=>by have:=q.zero; subst this; cases ru; exact .nil
 | t :: r,_,_,q,ru=>by
  rw [aj] at q;cases q with
  | cons q1 q2 =>
   cases ru with
   | cons r1 r2 =>
    obtain⟨b,rfl,hb⟩:=ZN ok q1 r1;exact .cons hb (S6 ok q2 r2)
theorem ZM(ok:pZ P w H h){v:V}{u:Value}{r:List (List Int)}(q:cw K H v (.tup (r.map fun t=>.tup (t.map D.int))))(ru:RelV v u):∃ b,u=.ref b/\(VZ (Gu P w)).is h r b:=by
 cases q with
 | tup e rs =>
  cases ru;obtain⟨_,bW,r',o,h1,h2,n,h3⟩:=(show fV P w H h _ (.tup _) from ok _ _ e);exact⟨_,rfl,o,bW.toArray,n,h1,h2,h3,by simpa using S6 ok rs r'⟩
theorem S5(ok:pZ P w H h):∀ {k:PK} {vs:List V} {us:List Value},br K H vs (k.map fun r=>.tup (r.map fun t=>.tup (t.map D.int)))->Vals vs us->sG (VZ (Gu P w)) h k us
 | [],_,_,q,ru=>by have:=q.zero; subst this; cases ru; exact .nil
 | t :: r,_,_,q,ru=>by
  rw [aj] at q;cases q with
  | cons q1 q2 =>
   cases ru with
   | cons r1 r2 =>
    obtain⟨b,rfl,hb⟩:=ZM ok q1 r1;exact .cons hb (S5 ok q2 r2)
theorem RL(ok:pZ P w H h){v:V}{u:Value}{k:PK}(q:cw K H v (pP k))(ru:RelV v u):∃ b,v=.ref b/\u=.ref b/\(Lv P w).is h k b:=by
 unfold pP at q;cases q with
 | tup e rs =>
  cases ru;obtain⟨_,bW,r',o,h1,h2,n,h3⟩:=(show fV P w H h _ (.tup _) from ok _ _ e);exact⟨_,rfl,rfl,o,bW.toArray,n,h1,h2,h3,by simpa using S5 ok rs r'⟩
noncomputable def P1(K:ai)(H:Hp)(x:PK×Addr×Value)(p:PK×D):Prop:=x.1=p.1/\cw K H (.ref x.2.1) (pP p.1)/\∃ v,RelV v x.2.2/\cw K H v p.2
theorem Ca:∀ {xs:List (PK×Addr×Value)} {ks vs:List V} {kvs:List (PK×D)},SE kvs ks vs xs->br K H ks (kvs.map fun p=>pP p.1)->br K H vs (kvs.map fun p=>p.2)->kd (P1 K H) xs kvs
 | [],ks,vs,kvs,r,r1,r2=>by
  have:kvs=[]:=by simpa using r.1
  subst this; exact .nil
 | x :: xs,ks,vs,kvs,r,r1,r2=>by
  obtain⟨e1,e2,e3⟩:=r;cases kvs with
  | nil=>cases e1
  | cons p kvs =>
   rw [aj,aj] at e1;injection e1 with e4 e5
   subst e2;rw [aj] at r1;rw [aj] at r1 r2;rw [aj] at e3;cases r1 with
   | cons q1 q2 =>
    cases r2 with
    | cons q3 q4 =>
     cases e3 with
     | cons q5 q6=>exact .cons ⟨e4.symm,q1,_,q5,q3⟩ (Ca ⟨e5,rfl,q6⟩ q2 q4)
theorem UE{xs:List (PK×Addr×Value)}{kvs:List (PK×D)}(h:kd (P1 K H) xs kvs):∃ vs,SE kvs (xs.map fun x=>.ref x.2.1) vs xs/\br K H (xs.map fun x=>.ref x.2.1) (kvs.map fun p=>pP p.1)/\br K H vs (kvs.map fun p=>p.2):=by
 induction h with
 | nil=>exact⟨[],⟨rfl,rfl,.nil⟩,.nil,.nil⟩
 | cons h1 _ ih =>
  obtain⟨vs,⟨a,b,c⟩,r1,r2⟩:=ih;obtain⟨e1,e2,v,e3,e4⟩:=h1;exact⟨v :: vs,⟨by rw [aj,aj,a,e1],rfl,.cons e3 c⟩,.cons e2 r1,.cons e4 r2⟩
theorem P1.mono{H':Hp}(k:Kp H H'){x:PK×Addr×Value}{p:PK×D}(h:P1 K H x p):P1 K H' x p:=let ⟨a,b,v,c,d⟩:=h; ⟨a,b.mono k,v,c,d.mono k⟩
theorem Em{H':Hp}(k:Kp H H'){xs:List (PK×Addr×Value)}{kvs:List (PK×D)}(h:kd (P1 K H) xs kvs):kd (P1 K H') xs kvs:=Paired.UY h fun _ _ z=>z.mono k
theorem UG(ok:pZ P w H h){xs:List (PK×Addr×Value)}{kvs:List (PK×D)}(r:kd (P1 K H) xs kvs):∀ x∈xs,(Lv P w).is h x.1 x.2.1:=by
 induction r with
 | nil=>intro x hx; cases hx
 | cons h1 _ ih =>
  intro x hx;rcases List.mem_cons.mp hx with rfl | hx
  ·obtain⟨e1,e2,_⟩:=h1;obtain⟨b,e3,e4,e5⟩:=RL ok e2 (rfl:RelV (.ref _) (.ref _));cases e4;rw [e1]; exact e5
  ·exact ih x hx
theorem yH(ok:pZ P w H h){a:Addr}{xs:List (PK×Addr×Value)}{kvs:List (PK×D)}(p:IJ a xs h)(r:kd (P1 K H) xs kvs):h.DictOfH (Lv P w) a xs:=by
 obtain⟨z,y,o,es,ep,h1,h2,h3,h4,h5⟩:=p;exact⟨o,es,ep,h1,h2,h3,h4,UG ok r,h5⟩
theorem Cd{a:Addr}{xs:List (PK×Addr×Value)}(z:xs.length<=bc)(y:(a == da)=false)(d:h.DictOfH (Lv P w) a xs):fV P w H h a (.ext (IJ a xs)):=by
 obtain⟨o,es,ep,h1,h2,h3,h4,_,h5⟩:=d;refine⟨⟨z,y,o,es,ep,h1,h2,h3,h4,h5⟩,⟨o,h1⟩,?_⟩;rintro g1 g2 ⟨z,y,o,es,ep,q1,q⟩ k;exact⟨z,y,o,es,ep,k _ q1,q⟩
theorem NU{xs:List (PK×Addr×Value)}{kvs:List (PK×D)}(r:kd (P1 K H) xs kvs)(k:PK):(∃ q v d,atKey xs k=some q/\pR kvs k=some d/\RelV v q.2/\cw K H v d)\/(atKey xs k=none/\pR kvs k=none):=by
 induction r with
 | nil=>exact .inr ⟨rfl,rfl⟩
 | @cons x p xs kvs h1 _ ih =>
  obtain⟨e1,e2,v,e3,e4⟩:=h1;by_cases e:x.1=k
  ·left;refine⟨x.2,v,p.2,?_,?_,e3,e4⟩
   ·unfold atKey; rw [cA (by simpa using e)]; rfl
   ·unfold pR; rw [cA (by simpa using e1.symm.trans e)]; rfl
  ·have a1:atKey (x :: xs) k=atKey xs k:=by unfold atKey; rw [cB (by simpa using e)]
   have a2:pR (p :: kvs) k=pR kvs k:=by unfold pR; rw [cB (by simpa using fun z=>e (e1.trans z))]
   rw [a1,a2]; exact ih
theorem Rl{xs:List (PK×Addr×Value)}{kvs:List (PK×D)}(r:kd (P1 K H) xs kvs)(k:PK):(kvs.any fun p=>decide (p.1=k))=(atKey xs k).isSome:=by
 induction r with
 | nil=>rfl
 | @cons x p xs kvs h1 _ ih =>
  rw [lr];by_cases e:x.1=k
  ·have a1:(atKey (x :: xs) k).isSome=true:=by unfold atKey; rw [cA (by simpa using e)]; rfl
   rw [a1]; simp [h1.1 ▸ e]
  ·have a1:atKey (x :: xs) k=atKey xs k:=by unfold atKey; rw [cB (by simpa using e)]
   have:¬ p.1=k:=fun z=>e (h1.1.trans z);rw [a1,<-ih]; simp [this]
theorem Rk{xs:List (PK×Addr×Value)}{kvs:List (PK×D)}(r:kd (P1 K H) xs kvs){k:PK}{b:Addr}{v:V}{u:Value}{d:D}(rk:cw K H (.ref b) (pP k))(ru:RelV v u)(rd:cw K H v d):kd (P1 K H) (Gq xs k b u) (La kvs k d):=by
 unfold Gq La;rw [Rl r k];split
 ·rename_i hs;clear rk hs;induction r with
  | nil=>exact .nil
  | @cons x p xs kvs h1 _ ih =>
   rw [aj,aj];refine .cons ?_ ih;unfold putAt;obtain⟨e1,e2,e3⟩:=h1;by_cases e:x.1=k
   ·rw [if_pos e,if_pos (e1.symm.trans e)];exact⟨e1,e2,v,ru,rd⟩
   ·rw [if_neg e,if_neg (fun z=>e (e1.trans z))];exact⟨e1,e2,e3⟩
 ·exact Qt r ⟨rfl,rk,v,ru,rd⟩
theorem JA{xs:List (PK×Addr×Value)}{kvs:List (PK×D)}(r:kd (P1 K H) xs kvs):xs.length=kvs.length:=iu r
theorem De{a:Addr}{xs:List (PK×Addr×Value)}{kvs:List (PK×D)}(e:H a=some (.ext (IJ a xs)))(r:kd (P1 K H) xs kvs):KA K H a (.sE kvs):=by
 obtain⟨vs,a1,a2,a3⟩:=UE r;exact⟨xs,_,vs,e,a1,a2,a3⟩
theorem Io{G:Gp}{a:Addr}{kvs:List (PK×D)}(ab:lZ K H G)(hg:G a=some (.sE kvs)):∃ xs,H a=some (.ext (IJ a xs))/\kd (P1 K H) xs kvs:=by
 obtain⟨xs,ks,vs,e,a1,a2,a3⟩:=ab a _ hg;exact⟨xs,e,Ca a1 a2 a3⟩
theorem Kp.WG{p:Addr}{o:HO}{φ:Heap->Prop}(hp:H p=some (.ext φ)):Kp H (upd H p o) :=
 ⟨fun a ys e=>by rw [bQ (by rintro rfl; rw [hp] at e; cases e)]; exact e,fun a ob u e=>by rw [bQ (by rintro rfl; rw [hp] at e; cases e)]; exact e⟩
theorem CK{φ:Heap->Prop}{a:Addr}(ok:pZ P w H h)(e:H a=some (.ext φ)):φ h:=(ok a _ e).1
end
section
variable {X:Cx} {elts:List Expr} {kk:Nat} {DT apos jJ pos:Pos} {o i k v:Expr} {to ti tk tv:fY}
theorem Jg:Sz X "dict" tyP:=by
 intro pins s σ H G x d u I ab r rd h;cases rd with
 | ref l =>
  unfold tyP at h;dsimp only at h;split at h
  ·rename_i kvs hg;obtain⟨xs,e,_⟩:=Io ab hg;obtain⟨_,_,o,es,ep,h1,h2,_⟩:=CK I.cL e;cases r;exact⟨⟨o,h1,h2.1⟩,fun a z=>by cases z; exact⟨o,h1,h2.2.1⟩⟩
  ·exact h.elim
 | oX hq _ _ _ =>
  obtain⟨_,_,o,es,ep,h1,h2,_⟩:=(I.cL _ _ hq).2.1;cases r;exact⟨⟨o,h1,h2.1⟩,fun a z=>by cases z; exact⟨o,h1,h2.2.1⟩⟩
 | _=>exact bS h
theorem J8{pins:List (Addr×Obj)}{s:az}{σ:L2.St}{H:Hp}{G:Gp}{a:Addr}{kvs:List (PK×D)}{ys:List (PK×Addr×Value)}{pk:PK}{w w2:V}{u1 u2:Value}{d':D}{Q:DK}(hu:X.A.units+64 < cLine)(I:Inv X pins σ H s)(ab:lZ X.K H G)(pd:IJ a ys s.heap)(r:kd (P1 X.K H) ys kvs)(D7:cw X.K H w (pP pk))(K5:RelV w u1)(Q7:cw X.K H w2 d')(NF:RelV w2 u2)(q:Q ((pR kvs pk).getD d') G) :
  wpAny (model X.prog X.w) X.A (call (.builtin "dict.get") [.ref a,u1,u2]) (tW X pins σ H G Q) X.xe s:=by
 have dd:=yH I.cL pd r;obtain⟨b,rfl,rfl,hb⟩:=RL I.cL D7 K5;have hT:s.TypeIs (.ref a) "dict":=by obtain⟨o,es,ep,ho,hc,_⟩:=dd; exact⟨o,ho,hc.1⟩
 refine x9 gz hT IY (GA _ _ _) (meetsH_dict_get_default (Lv X.prog X.w) a b pd.2.1 u2) ⟨ED (by lia),pk,ys,hb,dd,?_⟩;rcases NU r pk with ⟨q1,v1,d1,h1,h2,h3,h4⟩ | ⟨h1,h2⟩
 ·rw [h1];rw [h2] at q;exact⟨v1,H,d1,G,I.tok _,.refl ab,h3,h4,q⟩
 ·rw [h1];rw [h2] at q;exact⟨w2,H,d',G,I.tok _,.refl ab,NF,Q7,q⟩
theorem EH (hu:X.A.units+64 < cLine):Ml X "dict.get" EM:=by
 intro pins s σ H G x d xs ds v us Q I ab rx rd QC Ee q;unfold EM at q;split at q
 ·rename_i a k d';obtain⟨kvs,pk,hg,rfl,q⟩:=q;cases rd;obtain⟨w,w2,rfl,D7,Q7⟩:=Ee.two;obtain⟨u1,u2,rfl,K5,NF⟩:=vals2 QC;cases rx;obtain⟨ys,e,r⟩:=Io ab hg;exact J8 hu I ab (CK I.cL e) r D7 K5 Q7 NF q
 ·rename_i kvs k d';obtain⟨pk,rfl,q⟩:=q;obtain⟨w,w2,rfl,D7,Q7⟩:=Ee.two;obtain⟨u1,u2,rfl,K5,NF⟩:=vals2 QC;cases rd with
  | oX hq rel rk rv =>
   cases rx;exact J8 hu I ab (I.cL _ _ hq).2.1 (Ca rel rk rv) D7 K5 Q7 NF q
 ·exact q.elim
theorem R7{pins:List (Addr×Obj)}{s:az}{σ:L2.St}{H:Hp}{G:Gp}{a:Addr}{kvs:List (PK×D)}{pk:PK}{y w:V}{u r:Value}{d:D}{Q:Unit->az->Prop}(hu:X.A.units+64 < cLine)(I:Inv X pins σ H s)(ab:lZ X.K H G)(hg:G a=some (.sE kvs))(hz:kvs.length < SZ)(ry:RelV y u)(dy:cw X.K H y (pP pk))(rv:RelV w r)(dv:cw X.K H w d)
  (h:∀ H' s',Inv X pins σ H' s'->Mv X.K H G H' (dO G a (.sE (La kvs pk d)))->Q () s'):wpAny (model X.prog X.w) X.A (setItem (.ref a) u r) Q X.xe s:=by
 obtain⟨xs,e,rr⟩:=Io ab hg;have pd:=CK I.cL e;have dd:=yH I.cL pd rr;obtain⟨b,rfl,rfl,hb⟩:=RL I.cL dy ry;have sz:bc=16777216:=cY;have hl:xs.length < bc:=by rw [JA rr,sz]; exact hz
 refine wpAny_setItem_heap (hsz:=by lia) (ED (by lia)) hb dd fun h' BC hs=>?_;have kp:Kp H (upd H a (.ext (IJ a (Gq xs pk b r)))):=.WG e;have pr:=Em kp (Rk rr dy rv dv);have he:∃ q,h'.get? a=some q:=let ⟨q,_,_,hq,_⟩:=BC; ⟨q,hq⟩
 have z8:(Gq xs pk b r).length<=bc:=by
  unfold Gq;split
  ·rw [aq]; lia
  ·rw [au]; show xs.length+1<=_; lia
 exact h _ _ (rX I (by rw [e]; exact fZ) hs he (Cd z8 pd.2.1 BC)) (.put ab hg kp (De cc pr))
theorem Er(hu:X.A.units+64 < cLine)(ho:gE X o to)(hi:gE X i ti)
  (ha:autoParam (∀ v,IT (.Subscript o i pos) X.env v=(do
   let ov ← MQ [v] (eval o X.env)
   let iv ← MQ [v,ov] (eval i X.env)
   standAt pos
   MQ [v,ov,iv] (setItem ov iv v)
   release [v,ov,iv] [])) Ai._auto_1):Mc X (.Subscript o i pos) (E7 to ti):=by
 intro E pins s σ H τ G w d u Q hE I r rd h;rw [ha];refine ag (eM (jx ho hE I h fun x H1 dx G1 ov s1 I1 m1 r1 jt q1=>?_));refine ag (eM (jx hi hE I1 q1 fun y H2 dy G2 iv s2 nk m2 r2 yB q2=>?_));refine ag (DA (ag (eM ?_)));have Gg:=m1.trans m2;have VU:=rd.mono (Gg.kp I.ab);have Gf:=I.st.mono (Gg.kp I.ab);have Zf:=jt.mono (m2.kp I1.ab);unfold GZ at q2;split at q2
 ·rename_i l;cases Zf;cases r1;obtain⟨kvs,pk,hg,rfl,hz,q⟩:=q2;exact R7 hu nk.inv nk.ab hg hz r2 yB r VU fun H4 s4 I4 m4=>wpAny_release ⟨σ,H4,τ,_,⟨I4,Gf.mono (m4.kp nk.ab),m4.ab⟩,Gg.trans m4,q⟩
 ·exact q2.elim
theorem BA {P:bM} {w:World} {H:Hp} (h:Heap) (hb:da < h.objs.size):fV P w H (h.push { cls:=.type "dict",data:=.dict #[] }) h.objs.size (.ext (IJ h.objs.size [])) :=
 Cd (cC _) (beq_eq_false_iff_ne.mpr (fW (bK hb))) ⟨_,#[],0,bh _ rfl,⟨rfl,rfl,rfl⟩,rfl,rfl,(fun x hx=>absurd hx (by simp)),cH⟩
theorem JH:gE X (.Dict [] [] pos) PY:=by
 intro E pins s σ H τ G Q hE I h;have hn:=I.inv.cL.fresh (aI s.heap.objs.size);have I1:=I.inv.laid (a:=s.heap.objs.size) (o:=.ext (IJ s.heap.objs.size [])) (h':=s.heap.push { cls:=.type "dict",data:=.dict #[] }) (t':=s.toks) (fun _ _ q=>aG _ q) (aI _) (BA s.heap I.inv.big);exact wpAny_Dict_empty ⟨.ref s.heap.objs.size,_,.ref _,_,I1,.new I.ab hn (De cc .nil),rfl,.ref _,h _ (I.ab.free hn)⟩
theorem N7(hu:X.A.units+64 < cLine)(hk:gE X k tk)(hv:gE X v tv):gE X (.Dict [some k] [v] pos) (PX tk tv):=by
 intro E pins s σ H τ G Q hE I h;have hn:=I.inv.cL.fresh (aI s.heap.objs.size);have I1:=I.inv.laid (a:=s.heap.objs.size) (o:=.ext (IJ s.heap.objs.size [])) (h':=s.heap.push { cls:=.type "dict",data:=.dict #[] }) (t':=s.toks) (fun _ _ q=>aG _ q) (aI _) (BA s.heap I.inv.big);have mh:Mv X.K H G (upd H s.heap.objs.size (.ext (IJ s.heap.objs.size []))) G:=.HP I.ab hn;have I2:I2 X pins σ (upd H s.heap.objs.size (.ext (IJ s.heap.objs.size []))) τ G { s with heap:=s.heap.push { cls:=.type "dict",data:=.dict #[] },toks:=s.toks }:=⟨I1,I.st.mono (.new hn),mh.ab⟩;refine wpAny_Dict_any (by rfl) (by rfl) (by simp) (show 1<=15 by decide) ?_;refine pairTrees_cons_walk (jx hk hE I2 h fun x H1 dx G1 u s1 I3 m1 r1 jt q1=>?_);refine jx hv hE I3 q1 fun y H2 dy G2 w s2 I4 m2 r2 yB q2=>?_;obtain⟨pk,rfl,q2⟩:=q2;refine pairTrees_nil_walk ?_;have g0:G s.heap.objs.size=none:=I.ab.free hn;obtain⟨p1,p2⟩:=m1.keep _ _ (cc (H:=H) (a:=s.heap.objs.size) (o:=.ext (IJ s.heap.objs.size []))) g0;obtain⟨p3,p4⟩:=m2.keep _ _ p1 p2;have WB:=jt.mono (m2.kp I3.ab);have pd:=CK I4.inv.cL p3;have dd:=yH (K:=X.K) (kvs:=[]) I4.inv.cL pd .nil;obtain⟨b,rfl,rfl,hb⟩:=RL I4.inv.cL WB r1;unfold storeAll;rw [List.forIn_cons];refine ag (ag (wpAny_dictSet_heap (hsz:=cC _) (Lm (by lia)) hb dd fun h' BC hs=>aC ?_));show wpAny _ _ (forIn [] PUnit.unit _) _ _ _;rw [List.forIn_nil];refine aC ?_;have he:∃ q,h'.get? s.heap.objs.size=some q:=let ⟨q,_,_,hq,_⟩:=BC; ⟨q,hq⟩
 have es:Gq [] pk b w=[(pk,b,w)]:=rfl;rw [es] at BC;have kp:Kp H2 (upd H2 s.heap.objs.size (.ext (IJ s.heap.objs.size [(pk,b,w)]))):=.WG p3;have I5:=rX (t':=s2.toks+(Lv X.prog X.w).draws pk) I4.inv (by rw [p3]; exact fZ) hs he (Cd (by exact(show 1<=bc by decide)) pd.2.1 BC);have Gg:=(mh.trans m1).trans m2;refine⟨.ref s.heap.objs.size,_,.ref s.heap.objs.size,_,I5,?_,rfl,.ref _,q2 _ p4⟩;refine⟨fun a o e n=>?_,fun a n=>?_,fun a g e=>?_⟩
 ·have ne:a≠s.heap.objs.size:=dH e hn;obtain⟨k1,k2⟩:=Gg.keep a o e n;exact⟨by rw [bQ ne]; exact k1,by rw [cT ne]; exact k2⟩
 ·by_cases ha:a=s.heap.objs.size
  ·rw [ha,cc]; simp
  ·rw [bQ ha]; exact Gg.kQ a n
 ·by_cases ha:a=s.heap.objs.size
  ·subst ha;rw [aA] at e; cases e;exact De cc (Em kp (.cons ⟨rfl,WB,y,r2,yB⟩ .nil))
  ·rw [cT ha] at e;exact(Gg.ab a g e).mono kp (bQ ha)
theorem yG (ho:gE X o to) (zc:autoParam (qa o "items" X.env (eval o X.env)=eval o X.env) Ar._auto_1) (zb:autoParam ((apos.endLine == jJ.line)=true) Ar._auto_1) :
  MH X (.Tuple elts kk DT) (.Call (.Attribute o "items" apos) [] [] jJ) (uU to):=by
 intro E pins s σ H τ G R hE I h;refine vw zc zb (jx ho hE I h fun x H1 d G1 v s1 I1 m1 r1 jt q1=>?_);cases d with
 | oX kvs =>
  have q1:R (kvs.map fun p=>.tup [pP p.1,p.2]) (fun _=>True) G1:=q1;cases jt with
  | oX hq rel rk rv =>
  rename_i a ob xs ks vs;have pr:=Ca rel rk rv;obtain⟨z,ns,o',es,ep,Dw,ex,dd,hl,nd⟩:=(I1.inv.cL a _ hq).2.1;have eo:o'=ob:=by have:=(I1.inv.cL a _ hq).1; rw [Dw] at this; exact ba this
  subst eo;have t1:s1.TypeIs (.ref a) "dict":=⟨_,Dw,ex.1⟩;have t2:∀ b,fm a=.ref b->∃ ob,s1.heap.get? b=some ob/\ob.dict=none:=fun b z=>by cases z; exact⟨_,Dw,ex.2.1⟩
  have l1:=congrArg di hl;rw [aq,eE] at l1;have l2:=JA pr;have l3:vs.length=xs.length:=by have:=rel.2.2.length; simpa using this
  have ps:∀ i (h:i < es.size),∃ p,((xs.zip vs).map fun z=>(V.ref z.1.2.1,z.2))[i]?=some p/\RelV p.1 es[i].key/\RelV p.2 es[i].val:=fun i hi=>by
   have i2:i < xs.length:=by lia
   have i3:i < vs.length:=by lia
   have ee:es[i]=⟨hP xs[i].1,.ref xs[i].2.1,xs[i].2.2⟩:=by
    have:=congrArg (fun l=>l[i]?) hl;simp only [bA,ay i2] at this;simpa [hi] using this
   refine⟨(V.ref xs[i].2.1,vs[i]),by rw [bA,ay (by rw [lj]; lia),sX]; rfl,?_⟩;rw [ee];refine⟨rfl,?_⟩;obtain⟨u,Yw,hu2⟩:=rel.2.2.get (ay i3);rw [bA,ay i2] at Yw;cases Yw;exact hu2
  have Uz:∀ (i:Nat) (q:PK×D),kvs[i]?=some q->∃ p,((xs.zip vs).map fun z=>(V.ref z.1.2.1,z.2))[i]?=some p/\cw X.K H1 p.1 (pP q.1)/\cw X.K H1 p.2 q.2:=fun i q e=>by
   have i1:i < kvs.length:=(List.getElem?_eq_some_iff.mp e).1;have i2:i < xs.length:=by lia
   have i3:i < vs.length:=by lia
   refine⟨(V.ref xs[i].2.1,vs[i]),by rw [bA,ay (by rw [lj]; lia),sX]; rfl,?_,?_⟩
   ·obtain⟨w,hw,sx⟩:=rk.get (i:=i) (d:=pP q.1) (by rw [bA,e]; rfl);rw [rel.2.1,bA,ay i2] at hw;cases hw;exact sx
   ·obtain⟨w,hw,sx⟩:=rv.get (i:=i) (d:=q.2) (by rw [bA,e]; rfl);rw [ay i3] at hw;cases hw;exact sx
  have hlen:kvs.length=es.size:=by lia
  cases r1;refine⟨"dict","dict.items",dc,fQ,qu,t1,t2,lF rfl (xf ?_)⟩;refine x9 fQ t1 qb (o6 _) (uJ a ns) ⟨t1,?_⟩;have I2:Inv X pins σ H1 { s1 with heap:=s1.heap.push { cls:=.type "dict_items",data:=.fields #[.ref a] } }:=I1.inv.kept (t':=s1.toks) fun b o e=>aG _ e;refine wY (s:={ s1 with heap:=s1.heap.push { cls:=.type "dict_items",data:=.fields #[.ref a] } }) ⟨_,bh _ rfl,rfl,rfl⟩ (aG _ (I1.inv.cL a _ hq).1) dd ?_;refine⟨_,[_],_,_,H1,G1,kvs.map (fun p=>.tup [pP p.1,p.2]),_,rfl,I2.kept (t':=s1.toks) fun b o e=>aG _ e,m1,wA a _ _ es ep _ dd ps,⟨.none,.none,bh _ rfl⟩,fun b hb=>?_,fun i H2 G2 k ab _=>?_,q1⟩
  ·have e:=List.mem_singleton.mp hb;subst e;exact I2.CB (aI _) (I2.cL.fresh (aI _))
  ·have z8:=k.jL _ _ _ hq;refine⟨fun d hd=>?_,fun hle=>⟨⟨_,z8⟩,by rw [<-hlen]; simpa using hle⟩⟩;rw [bA] at hd;cases LJ:kvs[i]? with
   | none=>rw [LJ] at hd; cases hd
   | some q =>
    rw [LJ] at hd;obtain⟨p,hp,rk,rp⟩:=Uz i q LJ;have hi:i < es.size:=by rw [<-hlen]; exact(List.getElem?_eq_some_iff.mp LJ).1
    refine⟨⟨⟨_,z8⟩,hi⟩,?_⟩;rintro x H3 ⟨T,p',ex,hT,e3,hy⟩;subst ex e3;rw [hp] at hy;cases hy;have ed:D.tup [pP q.1,q.2]=d:=by simpa using hd
    subst ed;exact⟨.tup cc (.cons ((rk.mono k).mono (.new hT)) (.cons ((rp.mono k).mono (.new hT)) .nil)),.HP ab hT⟩
 | _=>exact q1.elim
theorem lY.drop{K:ai}{H:Hp}{kv:List (List Key×V)}{kvs:List (D×D)}(r:lY K H kv kvs)(k:List Key):lY K H (kv.filter fun p=>decide (p.1≠k)) (kvs.filter fun p=>!iM p.1 (.tup (k.map ef))):=by
 induction r using lY.ind with
 | nil=>exact .nil
 | @cons j v d r t rd rs ih =>
  rw [bX,bX];simp only [qW];by_cases e:j=k
  ·simp only [e,ne_eq,not_true_eq_false,decide_false,decide_true,cb,aw,if_false]; exact ih
  ·simp only [e,ne_eq,not_false_eq_true,decide_true,decide_false,eX,if_true]; exact .cons rd ih
theorem KT.drop{H:Hp}{kvs:List (List Key×V)}{xs:List (List Key×Addr×Value)}(r:KT H kvs xs)(k:List Key):KT H (kvs.filter fun p=>decide (p.1≠k)) (T9 xs k):=by
 unfold T9;induction r with
 | nil=>exact .nil
 | @cons p q ps qs h1 _ ih =>
  rw [bX,bX];by_cases e:p.1=k
  ·have e2:q.1=k:=h1.1.symm.trans e;simp only [e,e2,ne_eq,not_true_eq_false,decide_false,aw,if_false]; exact ih
  ·have e2:¬ q.1=k:=fun z=>e (h1.1.trans z);simp only [e,e2,ne_eq,not_false_eq_true,decide_true,if_true]; exact .cons h1 ih
theorem EG (hu:X.A.units+64 < cLine):Ml X "dict.pop" EL:=by
 intro pins s σ H G x d xs ds v us Q I ab rx rd QC Ee q;unfold EL at q;split at q
 ·rename_i a k;obtain⟨kvs,d',hg,⟨hk,ha,hl⟩,q⟩:=q;cases rd;obtain⟨w,rfl,D7⟩:=Ee.one;obtain⟨u1,rfl,K5⟩:=vals1 QC;cases rx;obtain⟨H',I',m,h⟩:=CQ I ab hg (by unfold gZ; rw [oW]; right; rw [hk,ha]; rfl) D7;rcases h with ⟨kv,kk,hv,rs,rfl,rfl⟩ | ⟨kv,kk,b,hv,rs,rfl,rfl,hb⟩
  ·cases kk <;> simp [ef,kC] at hk
  ·cases K5;obtain⟨z,hd,ys,rel,dd⟩:=PJ I'.cL hv;rcases rs.look kk with ⟨v',d2,e1,e2,rr⟩ | ⟨e1,e2⟩
   ·rw [e2] at hl;cases hl;obtain⟨w',hw,sx⟩:=wx.some_of (v:=v') (o:=(atKey ys kk).map (·.2)) (by rw [<-e1]; exact rel.val kk);obtain⟨p,hp,sD⟩:=Option.map_eq_some_iff.mp hw;refine NX (knd:=iG (cP X.prog X.w)) (mB (by lia)) (vW I'.cL hb) dd hp (by rw [<-iu rel]; exact z) fun h' BC hs=>?_;rw [sD];have kp:Kp H' (upd H' a (.dT (kv.filter fun p=>decide (p.1≠kk)))):=.putD hv (.inr ⟨_,rfl⟩);obtain⟨q',es,ep,hq,h2,h3,h4,_,h5⟩:=BC;have I5:=rX (t':=s.toks+(iG (cP X.prog X.w)).draws kk) I' (by rw [hv]; exact fZ) hs ⟨q',hq⟩ (ob:=.dT (kv.filter fun p=>decide (p.1≠kk))) ⟨bu (dF _ _) z,hd,_,(KT.drop rel kk).keeps fun c ys ec=>by rw [bQ (S7 ec hv (fun z=>nomatch z))]; exact ec,q',es,ep,hq,h2,h3,h4,h5⟩;exact⟨v',_,d',_,I5,m.trans (.put m.ab hg kp (.dt cc ((rs.drop kk).mono kp))),sx,rr.mono kp,q⟩
   ·rw [e2] at hl; cases hl
 ·exact q.elim
end
end K2
end
section
namespace K2
open PySem PySem.W PySem.Spec PyProof.Rows PySem.Calls
theorem Ls{p q:bM}{loose:List Str}{Xt:az->Bool}{α:Type}{Yf:az->α}{Ya:World->α}{N:Nat}(e:opening p=plainProg p.main.scope.names)(hN:Nat.ble 600 N=true)(f:∀ s,fenceModules? p s=some s)
  (h:∀ (w:World) (os:OsState),(topFrom treeTable p w N ⟨MT w.params,KI [],Gx,MS,os⟩).map (fun s=>(openSeen q loose (x8 p.main.body) Xt true s,Yf s))=some (openGood q loose,Ya w)):LeftO p q loose Xt Yf Ya N:=fun w=>by
 obtain⟨⟨h',gs,d,k,os⟩,e1,e2⟩:=Option.map_eq_some_iff.mp (boot_open e hN f w);obtain⟨rfl,rfl,rfl,rfl⟩:h'=MT w.params/\gs=KI []/\d=Gx/\k=MS:=by simpa using e2
 unfold openEnds;rw [e1];exact h w os
noncomputable abbrev Ji(l:OpenLaw)(q:bM):Bool:=chainsOk q&&opensWell l.row.prog&&(frees l.row.toRowW&&l.row.within.isEmpty)
noncomputable abbrev T8(l:OpenLaw)(q:bM)(s:az):Bool:=xlAt q [] s&&recOk l.row.records s
theorem LM{l:OpenLaw}{q:bM}{loose:List Str}{K:Params->Frag}{as:List Addr}{d:DefRec}{N:Nat}(ok:l.wellSaid=true)(e:opening l.row.prog=plainProg l.row.prog.main.scope.names)(hN:Nat.ble 600 N=true)(f:∀ s,fenceModules? l.row.prog s=some s)(hK:∀ P,as=(K P).map (·.1))
  (h:∀ (w:World) (os:OsState),(topFrom treeTable l.row.prog w N ⟨MT w.params,KI [],Gx,MS,os⟩).map (fun s=>(openSeen q loose (x8 l.row.prog.main.body) (T8 l q) true s,as.map s.heap.get?))=some (openGood q loose,(K w.params).map fun p=>some p.2))
  (hd:defOf q l.row.name=some (d,[])) (hp:l.row.prog.theDef l.row.name=some (d.params,d.body,d.scope)) (hk:kwWritten? d.params.kwonlyargs d.params.kw_defaults=some []) (hr:(!l.row.writes||l.row.records.isEmpty)=true) (ht:Ji l q=true) (hb:l.row.prog.bare) (hw:l.row.toRowW.promised)
  (c:WalkO q loose (XL q []) (InK K) l.row.toRowW d [] fun f vs=>IV f vs):l.Holds :=
 holds_law ok fun k1=>holds_open (Ls (Yf:=Hook.obs (kHook K as hK)) (Ya:=Hook.val (kHook K as hK)) e hN f h) (Hook.of (kHook K as hK)) (Hook.keeps (kHook K as hK)) (fun s x=>xl_of s (Bool.and_eq_true_iff.mp x).1) XL.keeps hd hp hk (fun s x=>recFacts_of (Bool.and_eq_true_iff.mp x).2) hr k1 ht hb hw c
structure At(K:Frag)(x:Str)(st:Stmt)(f:Addr)(fd:aJ):Prop where
 a:nsIn K bP x=some (some (.ref f))
 F:L2.o3 K x x st f fd
theorem At.mg{K:Frag}{h:Heap}{mg:Str->Option Value}{x:Str}{st:Stmt}{f:Addr}{fd:aJ}(z:At K x st f fd)(X:K.In h)(G:h.Ns bP mg):mg x=some (.ref f):=mg_of X G z.a
theorem fJ{K:Frag}{x:Str}{st:Stmt}{f:Addr}{oc:Value}{od an:Option Addr}{Od:Array (Option Value)}{kV doc pm oZ ct:Value}(a:autoParam (nsIn K bP x=some (some (.ref f))) Aq._auto_1)(l:autoParam (K.lookup f=some ⟨oc,od,.func (fnOf x x (L2.nM st) (L2.j6 st) (L2.bo st) .none kV doc pm an oZ ct),Od⟩) Aq._auto_1)
  (c:autoParam (codeIn K oZ x=true) Aq._auto_1) (k:autoParam (keepIn K (.ref f)=true) Aq._auto_1):At K x st f (fnOf x x (L2.nM st) (L2.j6 st) (L2.bo st) .none kV doc pm an oZ ct):=⟨a,L2.Vp l c k⟩
structure nB(P:bM)(w:World)(K:Frag)(mg:Str->Option Value)(base:Heap)(CX:L2.Mo)(k:Nat)(f:Addr)(fd:aJ)(x:Str)(ps:List Str)(sp:L2.Sp):Prop where
 ok:L2.gq P w K mg base CX k f fd ps sp
 mg:mg x=some (.ref f)
 kp:keepIn K (.ref f)=true
 bi:L2.Binds K fd ps []
end K2
end
section
set_option maxHeartbeats 1000000
namespace K2
namespace J
section
variable {α:Type} [DecidableEq α]
noncomputable def Iv(f:α->α):Prop:=∀ e,f (f e)=e
noncomputable def jn(f:α->α)(x y:α):α->α:=fun e=>if e=x\/e=y then e else if e=f x then f y else if e=f y then f x else f e
noncomputable def cl(f:α->α)(x y:α):Nat:=if f x=y then 1 else 0
theorem Ti{f:α->α}(h:Iv f){x y:α}(hx:f x≠x)(hy:f y≠y)(V1:x≠y):Iv (jn f x y):=by
 intro e;have h1:=h x;have h2:=h y;have h3:=h e;unfold jn
 grind (splits:=40)
theorem OP{f:α->α}(h:Iv f){x y e:α}(V1:x≠y)(he:jn f x y e=e):e=x\/e=y\/f e=e:=by
 have h1:=h x;have h2:=h y;unfold jn at he
 grind (splits:=40)
theorem U8{f:α->α}{x y:α}:jn f x y x=x:=by unfold jn; grind
theorem U7{f:α->α}{x y:α}:jn f x y y=y:=by unfold jn; grind
theorem Cq{f:α->α}{x y:α}:jn f x y=jn f y x:=by funext e; unfold jn; grind
theorem Sk{f:α->α}(h:Iv f){x y:α}:cl f x y=cl f y x:=by
 have h1:=h x;have h2:=h y;unfold cl; grind
theorem RU{f:α->α}(h:Iv f){x y z w:α}(hx:f x≠x)(hy:f y≠y)(hz:f z≠z)(hw:f w≠w)(xy:x≠y)(xz:x≠z)(xw:x≠w)(yz:y≠z)(yw:y≠w)(zw:z≠w):jn (jn f x y) z w=jn (jn f z w) x y:=by
 funext e;have h1:=h x;have h2:=h y;have h3:=h z;have h4:=h w;have h5:=h e;unfold jn
 grind (splits:=40)
theorem Sl{f:α->α}(h:Iv f){x y z w:α}(hx:f x≠x)(hy:f y≠y)(hz:f z≠z)(hw:f w≠w)(xy:x≠y)(xz:x≠z)(xw:x≠w)(yz:y≠z)(yw:y≠w)(zw:z≠w):cl f x y+cl (jn f x y) z w=cl f z w+cl (jn f z w) x y:=by
 have h1:=h x;have h2:=h y;have h3:=h z;have h4:=h w;unfold cl jn
 grind (splits:=40)
end
end J
end K2
end
section
set_option maxHeartbeats 1000000
namespace K2
namespace J
section
variable {α:Type} [DecidableEq α]
noncomputable abbrev Pr(α:Type):=List (α×α)
noncomputable def gC(f:α->α):Pr α->α->α
 | []=>f
 | p :: ps=>gC (jn f p.1 p.2) ps
noncomputable def cls(f:α->α):Pr α->Nat
 | []=>0
 | p :: ps=>cl f p.1 p.2+cls (jn f p.1 p.2) ps
noncomputable def es:Pr α->List α
 | []=>[]
 | p :: ps=>p.1 :: p.2 :: es ps
structure Ok(f:α->α)(ps:Pr α):Prop where
 iv:Iv f
 nd:(es ps).Nodup
 dm:∀ e∈es ps,f e≠e
theorem nK{ps qs:Pr α}(h:ps.Perm qs):(es ps).Perm (es qs):=by
 induction h with
 | nil=>exact .nil
 | cons x _ ih=>exact(ih.cons _).cons _
 | swap x y l =>
  show (y.1 :: y.2 :: x.1 :: x.2 :: es l).Perm (x.1 :: x.2 :: y.1 :: y.2 :: es l);have:∀ (a b c d:α) (l:List α),(a :: b :: c :: d :: l).Perm (c :: d :: a :: b :: l):=fun a b c d l=>by
   refine((fO c b _).cons a).trans ?_;refine(fO c a _).trans ?_;refine ly c ?_;refine((fO d b _).cons a).trans ?_;exact fO d a _
  exact this _ _ _ _ _
 | trans _ _ a b=>exact a.trans b
theorem rV(ps qs:Pr α):es (ps++qs)=es ps++es qs:=by
 induction ps with
 | nil=>rfl
 | cons p ps ih=>rw [aB,es,es,ih]; rfl
theorem Ik(ps:Pr α):(es ps).length=2 * ps.length:=by
 induction ps with
 | nil=>rfl
 | cons p ps ih=>rw [es,ak,ak,ih,ak]; lia
theorem oe{ps:Pr α}{e:α}:e∈es ps↔∃ p∈ps,e=p.1\/e=p.2:=by
 induction ps with
 | nil=>simp [es]
 | cons p ps ih =>
  rw [es,aO,aO,ih];constructor
  ·rintro(h | h | ⟨q,h,z⟩)
   ·exact⟨p,by simp,.inl h⟩
   ·exact⟨p,by simp,.inr h⟩
   ·exact⟨q,aE _ h,z⟩
  ·rintro⟨q,h,z⟩;rcases List.mem_cons.mp h with rfl | h
   ·rcases z with z | z
    ·exact .inl z
    ·exact .inr (.inl z)
   ·exact .inr (.inr ⟨q,h,z⟩)
theorem Ok.perm{f:α->α}{ps qs:Pr α}(h:ps.Perm qs)(o:Ok f ps):Ok f qs :=
 ⟨o.iv,(nK h).nodup_iff.mp o.nd,fun e he=>o.dm e ((nK h).mem_iff.mpr he)⟩
theorem Ok.hd{f:α->α}{p:α×α}{ps:Pr α}(o:Ok f (p :: ps)):p.1≠p.2/\f p.1≠p.1/\f p.2≠p.2:=by
 have n:=o.nd;rw [es,aP] at n;exact⟨fun z=>n.1 (by rw [z]; exact cz),o.dm _ (by simp [es]),o.dm _ (by simp [es])⟩
theorem Ok.tl{f:α->α}{p:α×α}{ps:Pr α}(o:Ok f (p :: ps)):Ok (jn f p.1 p.2) ps:=by
 obtain⟨h1,h2,h3⟩:=o.hd;have n:=o.nd;rw [es,aP,aP] at n;refine⟨Ti o.iv h2 h3 h1,n.2.2,fun e he z=>?_⟩;rcases OP o.iv h1 z with z | z | z
 ·exact n.1 (by rw [<-z]; exact aE _ he)
 ·exact n.2.1 (by rw [<-z]; exact he)
 ·exact o.dm e (by simp [es,he]) z
theorem Ok.left{f:α->α}{ps qs:Pr α}(o:Ok f (ps++qs)):Ok (gC f ps) qs:=by
 induction ps generalizing f with
 | nil=>exact o
 | cons p ps ih=>exact ih o.tl
theorem Ok.pre{f:α->α}{ps qs:Pr α}(o:Ok f (ps++qs)):Ok f ps :=
 ⟨o.iv,by have:=o.nd; rw [rV] at this; exact(List.nodup_append.mp this).1,fun e he=>o.dm e (by rw [rV]; exact hW _ he)⟩
theorem mQ(f:α->α)(ps qs:Pr α):gC f (ps++qs)=gC (gC f ps) qs:=by
 induction ps generalizing f with
 | nil=>rfl
 | cons p ps ih=>exact ih _
theorem mX(f:α->α)(ps qs:Pr α):cls f (ps++qs)=cls f ps+cls (gC f ps) qs:=by
 induction ps generalizing f with
 | nil=>simp [cls,gC]
 | cons p ps ih=>rw [aB,cls,cls,ih,gC,jH]
theorem EY{f:α->α}{ps qs:Pr α}(h:ps.Perm qs)(o:Ok f ps):gC f ps=gC f qs/\cls f ps=cls f qs:=by
 induction h generalizing f with
 | nil=>exact⟨rfl,rfl⟩
 | cons x _ ih =>
  obtain⟨a,b⟩:=ih o.tl;exact⟨a,by rw [cls,cls,b]⟩
 | swap x y l =>
  have n:=o.nd;simp only [es,aP,aO,not_or] at n;have d:∀ e,e=y.1\/e=y.2\/e=x.1\/e=x.2->f e≠e:=fun e he=>o.dm e (by
   simp only [es,aO];rcases he with h | h | h | h <;> simp [h])
  have a:=RU o.iv (d y.1 (by simp)) (d y.2 (by simp)) (d x.1 (by simp)) (d x.2 (by simp)) n.1.1 n.1.2.1 n.1.2.2.1 n.2.1.1 n.2.1.2.1 n.2.2.1.1;have b:=Sl o.iv (d y.1 (by simp)) (d y.2 (by simp)) (d x.1 (by simp)) (d x.2 (by simp)) n.1.1 n.1.2.1 n.1.2.2.1 n.2.1.1 n.2.1.2.1 n.2.2.1.1;refine⟨?_,?_⟩
  ·show gC (jn (jn f y.1 y.2) x.1 x.2) l=gC (jn (jn f x.1 x.2) y.1 y.2) l;rw [a]
  ·show cl f y.1 y.2+(cl (jn f y.1 y.2) x.1 x.2+cls (jn (jn f y.1 y.2) x.1 x.2) l)=cl f x.1 x.2+(cl (jn f x.1 x.2) y.1 y.2+cls (jn (jn f x.1 x.2) y.1 y.2) l);rw [a]; lia
 | trans h1 h2 i1 i2 =>
  obtain⟨a,b⟩:=i1 o;obtain⟨c,d⟩:=i2 (o.perm h1);exact⟨a.trans c,b.trans d⟩
theorem OM{f:α->α}{x y:α}{ps:Pr α}(o:Iv f):gC f ((x,y) :: ps)=gC f ((y,x) :: ps)/\cls f ((x,y) :: ps)=cls f ((y,x) :: ps):=by
 refine⟨?_,?_⟩
 ·show gC (jn f x y) ps=gC (jn f y x) ps;rw [Cq]
 ·show cl f x y+cls (jn f x y) ps=cl f y x+cls (jn f y x) ps;rw [Cq,Sk o]
theorem OQ{f:α->α}(h:Iv f){p q x y:α}(e:f p=q)(pq:p≠q)(hx:f x≠x)(hy:f y≠y)(xp:x≠p)(xq:x≠q)(yp:y≠p)(yq:y≠q)(xy:x≠y) :
  jn (jn f x p) q y=jn (jn f p q) x y/\cl f x p+cl (jn f x p) q y=cl (jn f p q) x y:=by
 have h1:=h x;have h2:=h y;have h3:=h p;refine⟨?_,?_⟩
 ·funext a;have h5:=h a;unfold jn
  grind (splits:=40)
 ·unfold cl jn
  grind (splits:=40)
theorem LB{f:α->α}{p q x y:α}{ps:Pr α}(o:Ok f ((x,p) :: (q,y) :: ps))(e:f p=q) :
  gC f ((x,p) :: (q,y) :: ps)=gC (jn f p q) ((x,y) :: ps)/\cls f ((x,p) :: (q,y) :: ps)=cls (jn f p q) ((x,y) :: ps):=by
 have n:=o.nd;simp only [es,aP,aO,not_or] at n;have d:∀ e,e=x\/e=p\/e=q\/e=y->f e≠e:=fun e he=>o.dm e (by
  simp only [es,aO];rcases he with h | h | h | h <;> simp [h])
 obtain⟨a,b⟩:=OQ o.iv e n.2.1.1 (d x (by simp)) (d y (by simp)) n.1.1 n.1.2.1 (fun z=>n.2.1.2.1 z.symm) (fun z=>n.2.2.1.1 z.symm) n.1.2.2.1;refine⟨?_,?_⟩
 ·show gC (jn (jn f x p) q y) ps=gC (jn (jn f p q) x y) ps;rw [a]
 ·show cl f x p+(cl (jn f x p) q y+cls (jn (jn f x p) q y) ps)=cl (jn f p q) x y+cls (jn (jn f p q) x y) ps;rw [<-jH,b,a]
theorem ON{f:α->α}{p q:α}{ps:Pr α}(e:f p=q):cls f ((p,q) :: ps)=1+cls (jn f p q) ps:=by
 show cl f p q+_=_;unfold cl;rw [if_pos e]
end
end J
end K2
end
section
set_option maxHeartbeats 1000000
namespace K2
namespace J
noncomputable abbrev Fn:=Int->Int
noncomputable def lp(g:Fn):Fn:=fun i=>-(g (i+2)) - g (i - 2)
noncomputable def sh(b:Int)(g:Fn):Fn:=fun i=>g (i+b)
noncomputable def hZ:Nat->Fn->Fn
 | 0,g=>g
 | n+1,g=>lp (hZ n g)
theorem Cm(n m:Nat)(g:Fn):hZ (n+m) g=hZ n (hZ m g):=by
 induction n with
 | zero=>rw [Dk]; rfl
 | succ n ih=>rw [Nat.succ_add,hZ,hZ,ih]
theorem W7(b:Int)(g:Fn):lp (sh b g)=sh b (lp g):=by
 funext i;unfold lp sh;rw [show i+2+b=i+b+2 by lia,show i - 2+b=i+b - 2 by lia]
theorem i9(n:Nat)(b:Int)(g:Fn):hZ n (sh b g)=sh b (hZ n g):=by
 induction n with
 | zero=>rfl
 | succ n ih=>rw [hZ,hZ,ih,W7]
theorem Jq(a b:Int)(g:Fn):sh a (sh b g)=sh (a+b) g:=by
 funext i;unfold sh;rw [Int.add_assoc]
theorem B3(g:Fn):sh 0 g=g:=by
 funext i;unfold sh;rw [nu]
noncomputable def pl(g k:Fn):Fn:=fun i=>g i+k i
noncomputable def sc(c:Int)(g:Fn):Fn:=fun i=>c * g i
theorem W9(g k:Fn):lp (pl g k)=pl (lp g) (lp k):=by
 funext i;show -(g (i+2)+k (i+2)) - (g (i - 2)+k (i - 2))=(-(g (i+2)) - g (i - 2))+(-(k (i+2)) - k (i - 2));lia
theorem W8(c:Int)(g:Fn):lp (sc c g)=sc c (lp g):=by
 funext i;unfold lp sc;rw [Int.mul_sub,Int.mul_neg]
theorem OA(n:Nat)(g k:Fn):hZ n (pl g k)=pl (hZ n g) (hZ n k):=by
 induction n with
 | zero=>rfl
 | succ n ih=>rw [hZ,hZ,hZ,ih,W9]
theorem Oz(n:Nat)(c:Int)(g:Fn):hZ n (sc c g)=sc c (hZ n g):=by
 induction n with
 | zero=>rfl
 | succ n ih=>rw [hZ,hZ,ih,W8]
theorem SS(b:Int)(g k:Fn):sh b (pl g k)=pl (sh b g) (sh b k):=rfl
theorem SR(b c:Int)(g:Fn):sh b (sc c g)=sc c (sh b g):=rfl
noncomputable def js(n:Int)(w:Bool):Pr T3:=if w=false then [(⟨n,0,0⟩,⟨n,1,1⟩),(⟨n,1,0⟩,⟨n,0,1⟩)] else [(⟨n,0,0⟩,⟨n,1,0⟩),(⟨n,0,1⟩,⟨n,1,1⟩)]
noncomputable def Br:(T3->T3)->List (Int×Int)->Fn->Int
 | _,[],g=>g 0
 | f,p :: ps,g=>Br (gC f (js p.1 false)) ps (hZ (cls f (js p.1 false)) (sh p.2 g))+Br (gC f (js p.1 true)) ps (hZ (cls f (js p.1 true)) (sh (-p.2) g))
theorem Kx:∀ (ps:List (Int×Int)) (f:T3->T3) (g k:Fn),Br f ps (pl g k)=Br f ps g+Br f ps k
 | [],_,_,_=>rfl
 | p :: ps,f,g,k=>by
  rw [Br,Br,Br,SS,SS,OA,OA,Kx,Kx]; lia
theorem BO:∀ (ps:List (Int×Int)) (f:T3->T3) (c:Int) (g:Fn),Br f ps (sc c g)=c * Br f ps g
 | [],_,_,_=>rfl
 | p :: ps,f,c,g=>by
  rw [Br,Br,SR,SR,Oz,Oz,BO,BO,sZ]
noncomputable def kl(n:Int):List T3:=[⟨n,0,0⟩,⟨n,1,1⟩,⟨n,1,0⟩,⟨n,0,1⟩]
theorem j4(n:Int)(w:Bool):(es (js n w)).Perm (kl n):=by
 cases w with
 | false=>exact .refl _
 | true =>
  show [(⟨n,0,0⟩:T3),⟨n,1,0⟩,⟨n,0,1⟩,⟨n,1,1⟩].Perm _;refine ly _ ?_;refine(vr (l₁:=[(⟨n,1,0⟩:T3),⟨n,0,1⟩]) (l₂:=[⟨n,1,1⟩]))
structure Dm(f:T3->T3)(ns:List Int):Prop where
 iv:Iv f
 nd:ns.Nodup
 dm:∀ n∈ns,∀ e∈kl n,f e≠e
theorem Dm.perm{f:T3->T3}{ns ms:List Int}(h:ns.Perm ms)(d:Dm f ns):Dm f ms:=⟨d.iv,h.nodup_iff.mp d.nd,fun n hn=>d.dm n (h.mem_iff.mpr hn)⟩
theorem zu(n:Int):(kl n).Nodup:=by
 unfold kl;simp
theorem rW{n:Int}{e:T3}(h:e∈kl n):e.a=n:=by
 unfold kl at h;simp only [aO,bO,or_false] at h;rcases h with rfl | rfl | rfl | rfl <;> rfl
theorem Dm.ok{f:T3->T3}{n:Int}{ns:List Int}(d:Dm f (n :: ns))(w:Bool):Ok f (js n w) :=
 ⟨d.iv,(j4 n w).nodup_iff.mpr (zu n),fun e he=>d.dm n (by simp) e ((j4 n w).mem_iff.mp he)⟩
theorem Dm.RI{f:T3->T3}{n m:Int}{ns:List Int}(d:Dm f (n :: m :: ns))(w v:Bool):Ok f (js n w++js m v):=by
 have Xo:n≠m:=fun z=>(List.nodup_cons.mp d.nd).1 (by rw [z]; exact cz);refine⟨d.iv,?_,fun e he=>?_⟩
 ·rw [rV,eL];refine⟨(j4 n w).nodup_iff.mpr (zu n),(j4 m v).nodup_iff.mpr (zu m),fun a ha b hb z=>?_⟩;have h1:=rW ((j4 n w).mem_iff.mp ha);have h2:=rW ((j4 m v).mem_iff.mp hb);rw [z] at h1;exact Xo (h1.symm.trans h2)
 ·rw [rV,FX] at he;rcases he with he | he
  ·exact d.dm n (by simp) e ((j4 n w).mem_iff.mp he)
  ·exact d.dm m (by simp) e ((j4 m v).mem_iff.mp he)
theorem JT{f:T3->T3}:∀ {ps:Pr T3},Ok f ps->∀ {e:T3},gC f ps e=e->e∈es ps\/f e=e:=by
 intro ps;induction ps generalizing f with
 | nil=>intro o e h; exact .inr h
 | cons p ps ih =>
  intro o e h;rcases ih o.tl h with z | z
  ·exact .inl (by simp [es,z])
  ·rcases OP o.iv o.hd.1 z with z | z | z
   ·exact .inl (by simp [es,z])
   ·exact .inl (by simp [es,z])
   ·exact .inr z
theorem HD{f:T3->T3}:∀ {ps:Pr T3},Ok f ps->Iv (gC f ps):=by
 intro ps;induction ps generalizing f with
 | nil=>intro o; exact o.iv
 | cons p ps ih=>intro o; exact ih o.tl
theorem Dm.step{f:T3->T3}{n:Int}{ns:List Int}(d:Dm f (n :: ns))(w:Bool):Dm (gC f (js n w)) ns:=by
 have nn:=List.nodup_cons.mp d.nd;refine⟨HD (d.ok w),nn.2,fun m hm e he z=>?_⟩;rcases JT (d.ok w) z with z | z
 ·have h1:=rW ((j4 n w).mem_iff.mp z);have h2:=rW he;exact nn.1 (by rw [<-h1,h2]; exact hm)
 ·exact d.dm m (aE _ hm) e he z
theorem SI{f:T3->T3}{p q:Int×Int}{ps:List (Int×Int)}(d:Dm f (p.1 :: q.1 :: ps.map (·.1)))(g:Fn):Br f (p :: q :: ps) g=Br f (q :: p :: ps) g:=by
 have key:∀ (w v:Bool),gC (gC f (js p.1 w)) (js q.1 v)=gC (gC f (js q.1 v)) (js p.1 w)/\cls (gC f (js p.1 w)) (js q.1 v)+cls f (js p.1 w)=cls (gC f (js q.1 v)) (js p.1 w)+cls f (js q.1 v):=fun w v=>by
  obtain⟨a,b⟩:=EY (vr) (d.RI w v);rw [mQ,mQ] at a;rw [mX,mX] at b;exact⟨a,by lia⟩
 have kk:∀ (w v:Bool) (x y:Int),Br (gC (gC f (js p.1 w)) (js q.1 v)) ps (hZ (cls (gC f (js p.1 w)) (js q.1 v)) (sh x (hZ (cls f (js p.1 w)) (sh y g))))=Br (gC (gC f (js q.1 v)) (js p.1 w)) ps (hZ (cls (gC f (js q.1 v)) (js p.1 w)) (sh y (hZ (cls f (js q.1 v)) (sh x g)))):=fun w v x y=>by
  obtain⟨a,b⟩:=key w v;have z:∀ (m n:Nat) (x y:Int),hZ m (sh x (hZ n (sh y g)))=sh (x+y) (hZ (m+n) g):=fun m n x y=>by rw [i9,i9,i9,Jq,Cm]
  rw [a,z,z,b,Int.add_comm x y]
 show (Br _ ps _+Br _ ps _)+(Br _ ps _+Br _ ps _)=(Br _ ps _+Br _ ps _)+(Br _ ps _+Br _ ps _);rw [kk,kk,kk,kk];lia
theorem Kz{ps qs:List (Int×Int)}(h:ps.Perm qs):∀ {f:T3->T3},Dm f (ps.map (·.1))->∀ g,Br f ps g=Br f qs g:=by
 induction h with
 | nil=>intro f d g; rfl
 | cons x _ ih=>intro f d g; rw [Br,Br,ih (d.step false),ih (d.step true)]
 | swap x y l=>intro f d g; exact SI d g
 | trans h1 h2 i1 i2=>intro f d g; rw [i1 d,i2 (d.perm (h1.map _))]
end J
end K2
end
section
set_option maxHeartbeats 1000000
namespace K2
namespace J
section
variable {α:Type} [DecidableEq α]
theorem Ok.es{f:α->α}{ps qs:Pr α}(h:(es ps).Perm (es qs))(o:Ok f ps):Ok f qs:=⟨o.iv,h.nodup_iff.mp o.nd,fun e he=>o.dm e (h.mem_iff.mpr he)⟩
structure Sm(ps qs:Pr α):Prop where
 es:(es ps).Perm (es qs)
 eq:∀ f,Ok f ps->gC f ps=gC f qs/\cls f ps=cls f qs
theorem Sm.refl(ps:Pr α):Sm ps ps:=⟨.refl _,fun _ o=>⟨rfl,rfl⟩⟩
theorem Sm.trans{ps qs rs:Pr α}(a:Sm ps qs)(b:Sm qs rs):Sm ps rs:=⟨a.es.trans b.es,fun f o=>by
 obtain⟨a1,a2⟩:=a.eq f o;obtain⟨b1,b2⟩:=b.eq f (o.es a.es);exact⟨a1.trans b1,a2.trans b2⟩⟩
theorem Sm.perm{ps qs:Pr α}(h:ps.Perm qs):Sm ps qs:=⟨nK h,fun f o=>EY h o⟩
theorem Sm.turn(x y:α)(ps:Pr α):Sm ((x,y) :: ps) ((y,x) :: ps):=⟨fO _ _ _,fun f o=>OM o.iv⟩
theorem Sm.cons(p:α×α){ps qs:Pr α}(h:Sm ps qs):Sm (p :: ps) (p :: qs):=⟨(h.es.cons _).cons _,fun f o=>by
 obtain⟨a1,a2⟩:=h.eq _ o.tl;exact⟨a1,by rw [cls,cls,a2]⟩⟩
end
noncomputable abbrev Pn:=List (Nat×Nat)
noncomputable def DU(p:Nat):Pn->Option (Nat×Pn)
 | []=>none
 | (a,b) :: r=>if a=p then some (b,r) else if b=p then some (a,r) else match DU p r with
  | some (x,r')=>some (x,(a,b) :: r')
  | none=>none
noncomputable def Nl(p q:Nat)(ps:Pn):Option (Nat×Pn):=match DU p ps with
 | none=>none
 | some (x,r)=>if x=q then some (1,r) else match DU q r with
  | none=>none
  | some (y,r2)=>some (0,(x,y) :: r2)
noncomputable def YE:Pn->Pn->Option (Nat×Pn)
 | [],ps=>some (0,ps)
 | (p,q) :: T,ps=>match Nl p q ps with
  | none=>none
  | some (k,ps')=>match YE T ps' with
   | none=>none
   | some (k',qs)=>some (k+k',qs)
noncomputable def RV(p:Nat×Nat):Pn->Pn
 | []=>[p]
 | a :: r=>if p.1<=a.1 then p :: a :: r else a :: RV p r
noncomputable def Sq:Pn->Pn
 | []=>[]
 | (a,b) :: r=>RV (if a<=b then (a,b) else (b,a)) (Sq r)
section
variable {α:Type} [DecidableEq α] (v:Nat->α)
noncomputable abbrev mp(ps:Pn):Pr α:=ps.map fun p=>(v p.1,v p.2)
theorem yg{p x:Nat}:∀ {ps r:Pn},DU p ps=some (x,r)->Sm (mp v ps) (mp v ((x,p) :: r))
 | [],_,h=>by cases h
 | (a,b) :: ps,r,h=>by
  unfold DU at h;by_cases h1:a=p
  ·rw [if_pos h1] at h;cases h;subst h1;exact Sm.turn _ _ _
  ·rw [if_neg h1] at h;by_cases h2:b=p
   ·rw [if_pos h2] at h;cases h;subst h2;exact .refl _
   ·rw [if_neg h2] at h;split at h
    ·rename_i x' r' e;cases h;exact((yg e).cons _).trans (.perm (.swap _ _ _))
    ·cases h
theorem Bm(p:Nat×Nat):∀ ps:Pn,(RV p ps).Perm (p :: ps)
 | []=>.refl _
 | a :: r=>by
  unfold RV;split
  ·exact .refl _
  ·exact((Bm p r).cons a).trans (.swap _ _ _)
theorem Km:∀ ps:Pn,Sm (mp v ps) (mp v (Sq ps))
 | []=>.refl _
 | (a,b) :: r=>by
  unfold Sq;refine Sm.trans ?_ (.perm ((Bm _ _).symm.map _));refine((Km r).cons (v a,v b)).trans ?_;split
  ·exact .refl _
  ·exact .turn _ _ _
noncomputable def qJ(f:α->α):Pn->α->α
 | []=>f
 | (p,q) :: T=>qJ (jn f (v p) (v q)) T
structure Th(f:α->α)(T:Pn):Prop where
 iv:Iv f
 nd:(es (mp v T)).Nodup
 th:∀ t∈T,f (v t.1)=v t.2
variable {v}
theorem HE{f:α->α}(h:Iv f){p q e:α}(t:f p=q)(h1:e≠p)(h2:e≠q):jn f p q e=f e:=by
 have:=h p;have:=h e;unfold jn
 grind
theorem Th.tl{f:α->α}{p q:Nat}{T:Pn}(h:Th v f ((p,q) :: T)):Th v (jn f (v p) (v q)) T:=by
 have n:=h.nd;have t0:=h.th (p,q) (by simp);have e1:v p≠v q:=by
  show (v p)≠(v q);have n':(v p :: v q :: es (mp v T)).Nodup:=n;rw [aP] at n';exact fun z=>n'.1 (by rw [z]; exact cz)
 have n':(v p :: v q :: es (mp v T)).Nodup:=n;rw [aP,aP] at n';have fq:f (v q)=v p:=by rw [<-t0]; exact h.iv _
 refine⟨Ti h.iv (by rw [t0]; exact e1.symm) (by rw [fq]; exact e1) e1,n'.2.2,fun t ht=>?_⟩;have m1:v t.1∈es (mp v T):=oe.mpr ⟨_,List.mem_map.mpr ⟨t,ht,rfl⟩,.inl rfl⟩;rw [HE h.iv t0]
 ·exact h.th t (aE _ ht)
 ·exact fun z=>n'.1 (by rw [<-z]; exact aE _ m1)
 ·exact fun z=>n'.2.1 (by rw [<-z]; exact m1)
theorem Nk{f:α->α}{p q k:Nat}{T ps qs:Pn}(h:Th v f ((p,q) :: T))(o:Ok f (mp v ps))(e:Nl p q ps=some (k,qs)) :
  Ok (jn f (v p) (v q)) (mp v qs)/\gC f (mp v ps)=gC (jn f (v p) (v q)) (mp v qs)/\cls f (mp v ps)=k+cls (jn f (v p) (v q)) (mp v qs):=by
 have t0:=h.th (p,q) (by simp);unfold Nl at e;split at e
 ·cases e
 ·rename_i x r e1;have s1:=yg v e1;have o1:=o.es s1.es;obtain⟨a1,a2⟩:=s1.eq f o;split at e
  ·rename_i z;cases e;subst z;have s2:=Sm.turn (v x) (v p) (mp v qs);have o2:Ok f ((v p,v x) :: mp v qs):=o1.es s2.es;obtain⟨b1,b2⟩:=s2.eq f o1;refine⟨o2.tl,a1.trans b1,?_⟩;rw [a2];exact b2.trans (ON t0)
  ·split at e
   ·cases e
   ·rename_i z y r2 e2;cases e;have s2:Sm (mp v ((x,p) :: r)) ((v x,v p) :: (v q,v y) :: mp v r2):=((yg v e2).trans (.turn _ _ _)).cons _;have o2:=o1.es s2.es;obtain⟨b1,b2⟩:=s2.eq f o1;obtain⟨c1,c2⟩:=LB o2 t0;refine⟨?_,a1.trans (b1.trans c1),by rw [a2,b2,c2,Dk]; rfl⟩;have n:=o2.nd;have iv:=h.tl.iv;have e1':v p≠v q:=by
     have n':(v p :: v q :: es (mp v T)).Nodup:=h.nd;rw [aP] at n';exact fun z=>n'.1 (by rw [z]; exact cz)
    simp only [es,aP,aO,not_or] at n;have m:∀ {e:α},e∈es (mp v ((x,y) :: r2))->e∈es ((v x,v p) :: (v q,v y) :: mp v r2)/\e≠v p/\e≠v q:=by
     intro e he;have TC:e=v x\/e=v y\/e∈es (mp v r2):=by simpa [es] using he
     refine⟨by simp only [es,aO]; rcases TC with z | z | z <;> simp [z],?_,?_⟩
     ·rintro rfl;rcases TC with z | z | z
      ·exact n.1.1 z.symm
      ·exact n.2.1.2.1 z
      ·exact n.2.1.2.2 z
     ·rintro rfl;rcases TC with z | z | z
      ·exact n.1.2.1 z.symm
      ·exact n.2.2.1.1 z
      ·exact n.2.2.1.2 z
    refine⟨iv,?_,fun e he=>?_⟩
    ·show (v x :: v y :: es (mp v r2)).Nodup;simp only [aP,aO,not_or];exact⟨⟨n.1.2.2.1,n.1.2.2.2⟩,n.2.2.2.1,n.2.2.2.2⟩
    ·obtain⟨m1,m2,m3⟩:=m he;rw [HE h.iv t0 m2 m3];exact o2.dm e m1
theorem Ph:∀ {T:Pn} {f:α->α} {ps qs:Pn} {k:Nat},Th v f T->Ok f (mp v ps)->YE T ps=some (k,qs) ->
  Ok (qJ v f T) (mp v qs)/\gC f (mp v ps)=gC (qJ v f T) (mp v qs)/\cls f (mp v ps)=k+cls (qJ v f T) (mp v qs)
 | [],f,ps,qs,k,h,o,e=>by
  cases e;exact⟨o,rfl,by rw [Dk]; rfl⟩
 | (p,q) :: T,f,ps,qs,k,h,o,e=>by
  unfold YE at e;split at e
  ·cases e
  ·rename_i k1 ps' e1;split at e
   ·cases e
   ·rename_i k2 qs' e2;cases e;obtain⟨o1,a1,a2⟩:=Nk h o e1;obtain⟨o2,b1,b2⟩:=Ph h.tl o1 e2;exact⟨o2,a1.trans b1,by rw [a2,b2,jH]; rfl⟩
noncomputable def ZP(T ps:Pn):Option (Nat×Pn):=(YE T ps).map fun r=>(r.1,Sq r.2)
theorem UX{T:Pn}{f:α->α}{ps qs:Pn}{k:Nat}(h:Th v f T)(o:Ok f (mp v ps))(e:ZP T ps=some (k,qs)) :
  gC f (mp v ps)=gC (qJ v f T) (mp v qs)/\cls f (mp v ps)=k+cls (qJ v f T) (mp v qs):=by
 unfold ZP at e;obtain⟨r,e1,e2⟩:=Option.map_eq_some_iff.mp e;cases e2;obtain⟨o1,a1,a2⟩:=Ph h o (k:=r.1) (qs:=r.2) e1;obtain⟨b1,b2⟩:=(Km v r.2).eq _ o1;exact⟨a1.trans b1,by rw [a2,b2]⟩
end
end J
end K2
end
section
set_option maxHeartbeats 1000000
namespace K2
namespace J
section
variable {κ:Type} [DecidableEq κ]
noncomputable def fsum(W:κ->Int):List (κ×Int)->Int
 | []=>0
 | p :: S=>p.2 * W p.1+fsum W S
noncomputable def vd(k:κ):List (κ×Int)->Int
 | []=>0
 | p :: S=>(if p.1=k then p.2 else 0)+vd k S
theorem zf(W:κ->Int)(S S':List (κ×Int)):fsum W (S++S')=fsum W S+fsum W S':=by
 induction S with
 | nil=>simp [fsum]
 | cons p S ih=>rw [aB,fsum,fsum,ih]; lia
theorem Sj(k:κ)(S S':List (κ×Int)):vd k (S++S')=vd k S+vd k S':=by
 induction S with
 | nil=>simp [vd]
 | cons p S ih=>rw [aB,vd,vd,ih]; lia
noncomputable def Au(c:Int)(S:List (κ×Int)):List (κ×Int):=S.map fun p=>(p.1,c * p.2)
theorem E8(W:κ->Int)(c:Int)(S:List (κ×Int)):fsum W (Au c S)=c * fsum W S:=by
 induction S with
 | nil=>simp [Au,fsum]
 | cons p S ih =>
  have:Au c (p :: S)=(p.1,c * p.2) :: Au c S:=rfl;rw [this,fsum,fsum,ih,sZ,MX]
theorem Si(k:κ)(c:Int)(S:List (κ×Int)):vd k (Au c S)=c * vd k S:=by
 induction S with
 | nil=>simp [Au,vd]
 | cons p S ih =>
  have:Au c (p :: S)=(p.1,c * p.2) :: Au c S:=rfl;rw [this,vd,vd,ih,sZ];congr 1;split <;> simp
theorem HU(W:κ->Int)(k:κ)(S:List (κ×Int)):fsum W S=vd k S * W k+fsum W (S.filter fun p=>decide (p.1≠k)):=by
 induction S with
 | nil=>simp [fsum,vd]
 | cons p S ih =>
  rw [fsum,vd,ih,bX];by_cases h:p.1=k
  ·simp only [h,ne_eq,not_true_eq_false,decide_false,aw,if_false,if_true,Int.add_mul];lia
  ·simp only [h,ne_eq,not_false_eq_true,decide_true,if_true,if_false,vE];rw [fsum]; lia
theorem IC(k j:κ)(S:List (κ×Int)):vd j (S.filter fun p=>decide (p.1≠k))=if j=k then 0 else vd j S:=by
 induction S with
 | nil=>simp [vd]
 | cons p S ih =>
  rw [bX];by_cases h:p.1=k
  ·simp only [h,ne_eq,not_true_eq_false,decide_false,aw,if_false];have:(S.filter fun p=>!decide (p.1=k))=S.filter fun p=>decide (p.1≠k):=by simp
   rw [vd];by_cases hj:j=k
   ·simp [hj] at ih ⊢; exact ih
   ·have:¬ p.1=j:=fun z=>hj (z.symm.trans h);simp [hj,this] at ih ⊢; exact ih
  ·simp only [h,ne_eq,not_false_eq_true,decide_true,if_true];rw [vd,vd];simp only [ne_eq] at ih;rw [ih];by_cases hj:j=k
   ·have:¬ p.1=j:=fun z=>h (z.trans hj);simp [hj,h]
   ·simp [hj]
theorem Bu(W:κ->Int):∀ (n:Nat) (S:List (κ×Int)),S.length<=n->(∀ k,vd k S=0)->fsum W S=0
 | _,[],_,_=>rfl
 | 0,_ :: _,h,_=>by simp at h
 | n+1,p :: S,hl,h=>by
  rw [HU W p.1,h,Int.zero_mul,vE];refine Bu W n _ ?_ fun k=>?_
  ·rw [sL (by simp)];exact bu (dF _ _) (by simpa using hl)
  ·rw [IC]; split
   ·rfl
   ·exact h k
theorem zD{k:κ}:∀ {S:List (κ×Int)},k∉S.map (·.1)->vd k S=0
 | [],_=>rfl
 | p :: S,h=>by
  rw [aj,aO,not_or] at h;rw [vd,if_neg (fun z=>h.1 z.symm),zD h.2]; rfl
noncomputable def eqF(S S':List (κ×Int)):Bool:=(S++S').all fun p=>decide (vd p.1 S=vd p.1 S')
theorem Vt(W:κ->Int){S S':List (κ×Int)}(h:eqF S S'=true):fsum W S=fsum W S':=by
 have z:∀ k,vd k (S++Au (-1) S')=0:=fun k=>by
  rw [Sj,Si];by_cases hk:k∈(S++S').map (·.1)
  ·obtain⟨p,hp,rfl⟩:=List.mem_map.mp hk;have:=List.all_eq_true.mp h p hp;have e:vd p.1 S=vd p.1 S':=by simpa using this
   rw [e]; lia
  ·rw [aQ,FX,not_or] at hk;rw [zD hk.1,zD hk.2]; rfl
 have:=Bu W _ _ (aI _) z;rw [zf,E8] at this;lia
end
noncomputable abbrev Ky:=Pn×Int
noncomputable def XM:Nat->Int->List (Int×Int)
 | 0,b=>[(b,1)]
 | k+1,b=>(XM k (b+2)).map (fun p=>(p.1,-1 * p.2))++(XM k (b - 2)).map fun p=>(p.1,-1 * p.2)
noncomputable def Nq(jN:Nat->Bool->Pn):List (Nat×Int)->List (Pn×Int)
 | []=>[([],0)]
 | p :: r=>((Nq jN r).map fun q=>(jN p.1 false++q.1,q.2+p.2))++(Nq jN r).map fun q=>(jN p.1 true++q.1,q.2+-p.2)
noncomputable def WM(T:Pn)(s:Pn×Int):Option (List (Ky×Int)):=(ZP T s.1).map fun r=>(XM r.1 s.2).map fun x=>((r.2,x.1),x.2)
noncomputable def Qh(T:Pn):List (Pn×Int)->Option (List (Ky×Int))
 | []=>some []
 | s :: r=>match WM T s,Qh T r with
  | some a,some b=>some (a++b)
  | _,_=>none
section
variable (v:Nat->T3) (F:T3->T3) (ns:List (Int×Int)) (g:Fn)
noncomputable def Wk(k:Ky):Int:=Br (gC F (mp v k.1)) ns (hZ (cls F (mp v k.1)) (sh k.2 g))
theorem Ij(q:Pn):∀ (k:Nat) (b:Int),fsum (Wk v F ns g) ((XM k b).map fun x=>((q,x.1),x.2))=Br (gC F (mp v q)) ns (hZ (k+cls F (mp v q)) (sh b g))
 | 0,b=>by
  rw [Dk];show 1 * Wk v F ns g (q,b)+0=_;rw [Int.one_mul,nu]; rfl
 | k+1,b=>by
  have neg:∀ l:List (Int×Int),fsum (Wk v F ns g) ((l.map fun p=>(p.1,-1 * p.2)).map fun x=>((q,x.1),x.2))=-1 * fsum (Wk v F ns g) (l.map fun x=>((q,x.1),x.2)):=fun l=>by
   rw [<-E8,Au,aW,aW]; rfl
  rw [XM,aQ,zf,neg,neg,Ij q k,Ij q k,Nat.succ_add,hZ];have e:lp (hZ (k+cls F (mp v q)) (sh b g))=pl (sc (-1) (hZ (k+cls F (mp v q)) (sh (b+2) g))) (sc (-1) (hZ (k+cls F (mp v q)) (sh (b - 2) g))):=by
   rw [i9,i9,i9];funext i;show -(hZ _ g (i+2+b)) - hZ _ g (i - 2+b)=-1 * (hZ _ g (i+(b+2)))+-1 * hZ _ g (i+(b - 2));rw [show i+2+b=i+(b+2) by lia,show i - 2+b=i+(b - 2) by lia];lia
  rw [e,Kx,BO,BO]
end
section
variable {v:Nat->T3} {jN:Nat->Bool->Pn} {nm:Nat->Int}
noncomputable def vS(v:Nat->T3)(f:T3->T3)(ns:List (Int×Int))(g:Fn):List (Pn×Int)->Int
 | []=>0
 | s :: r=>Br (gC f (mp v s.1)) ns (hZ (cls f (mp v s.1)) (sh s.2 g))+vS v f ns g r
theorem M6(f:T3->T3)(ns:List (Int×Int))(g:Fn)(a b:List (Pn×Int)):vS v f ns g (a++b)=vS v f ns g a+vS v f ns g b:=by
 induction a with
 | nil=>simp [vS]
 | cons s a ih=>rw [aB,vS,vS,ih]; lia
theorem GU(hj:∀ i w,mp v (jN i w)=js (nm i) w):∀ (as:List (Nat×Int)) (f:T3->T3) (ns:List (Int×Int)) (g:Fn),Br f ((as.map fun p=>(nm p.1,p.2))++ns) g=vS v f ns g (Nq jN as)
 | [],f,ns,g=>by
  show Br f ns g=Br f ns (sh 0 g)+0;rw [B3,nu]
 | p :: r,f,ns,g=>by
  have one:∀ (w:Bool) (b:Int) (l:List (Pn×Int)),vS v (gC f (js (nm p.1) w)) ns (hZ (cls f (js (nm p.1) w)) (sh b g)) l=vS v f ns g (l.map fun q=>(jN p.1 w++q.1,q.2+b)):=fun w b l=>by
   induction l with
   | nil=>rfl
   | cons s l ih =>
    rw [aj,vS,vS,ih];congr 1;show _=Br (gC f ((jN p.1 w++s.1).map fun p=>(v p.1,v p.2))) ns (hZ (cls f ((jN p.1 w++s.1).map fun p=>(v p.1,v p.2))) (sh (s.2+b) g));rw [aQ];have e:=hj p.1 w;unfold mp at e;rw [e,mQ,mX];congr 1;have z:∀ (m n:Nat) (x y:Int),hZ m (sh x (hZ n (sh y g)))=sh (x+y) (hZ (m+n) g):=fun m n x y=>by rw [i9,i9,i9,Jq,Cm]
    rw [z,i9,Nat.add_comm]
  rw [aj,aB,Br,Nq,M6,GU hj r,GU hj r,one,one]
theorem C6{T:Pn}{f:T3->T3}(ns:List (Int×Int))(g:Fn)(h:Th v f T):∀ {ss:List (Pn×Int)} {S:List (Ky×Int)},(∀ s∈ss,Ok f (mp v s.1))->Qh T ss=some S->vS v f ns g ss=fsum (Wk v (qJ v f T) ns g) S
 | [],S,_,e=>by cases e; rfl
 | s :: ss,S,o,e=>by
  unfold Qh at e;split at e
  ·rename_i a b e1 e2;cases e;rw [vS,zf,C6 ns g h (fun s hs=>o s (aE _ hs)) e2];congr 1;unfold WM at e1;obtain⟨r,e3,e4⟩:=Option.map_eq_some_iff.mp e1;subst e4;rw [Ij];obtain⟨a1,a2⟩:=UX h (o s (by simp)) (k:=r.1) (qs:=r.2) e3;rw [a1,a2]
  ·cases e
end
end J
end K2
end
section
set_option maxHeartbeats 1000000
namespace K2
namespace J
noncomputable def vv(nm:Nat->Int)(i:Nat):T3:=⟨nm (i / 4),((i / 2 % 2:Nat):Int),((i % 2:Nat):Int)⟩
noncomputable def jN(i:Nat)(w:Bool):Pn:=if w=false then [(4 * i,4 * i+3),(4 * i+2,4 * i+1)] else [(4 * i,4 * i+2),(4 * i+1,4 * i+3)]
theorem Ws(nm:Nat->Int)(i:Nat):vv nm (4 * i)=⟨nm i,0,0⟩/\vv nm (4 * i+1)=⟨nm i,0,1⟩/\vv nm (4 * i+2)=⟨nm i,1,0⟩/\vv nm (4 * i+3)=⟨nm i,1,1⟩:=by
 have q:∀ (k:Nat),k < 4->(4 * i+k) / 4=i/\(4 * i+k) / 2 % 2=k / 2/\(4 * i+k) % 2=k % 2:=fun k hk=>by lia
 obtain⟨a0,a1,a2⟩:=q 0 (by lia);obtain⟨b0,b1,b2⟩:=q 1 (by lia);obtain⟨c0,c1,c2⟩:=q 2 (by lia);obtain⟨d0,d1,d2⟩:=q 3 (by lia);unfold vv;rw [Dl] at a0 a1 a2;rw [a0,a1,a2,b0,b1,b2,c0,c1,c2,d0,d1,d2];exact⟨rfl,rfl,rfl,rfl⟩
theorem Tn(nm:Nat->Int)(i:Nat)(w:Bool):mp (vv nm) (jN i w)=js (nm i) w:=by
 obtain⟨a,b,c,d⟩:=Ws nm i;cases w
 ·show [(vv nm (4 * i),vv nm (4 * i+3)),(vv nm (4 * i+2),vv nm (4 * i+1))]=_;rw [a,b,c,d]; rfl
 ·show [(vv nm (4 * i),vv nm (4 * i+2)),(vv nm (4 * i+1),vv nm (4 * i+3))]=_;rw [a,b,c,d]; rfl
noncomputable def okN(m:Nat)(ps:Pn):Bool:=decide (es ps).Nodup&&(es ps).all fun i=>decide (i < 4 * m)
theorem v9{α β:Type}(v:α->β):∀ ps:Pr α,es (ps.map fun p=>(v p.1,v p.2))=(es ps).map v
 | []=>rfl
 | p :: ps=>by rw [aj,es,es,v9 v ps,aj,aj]
structure Tg(v:Nat->T3)(f:T3->T3)(m:Nat):Prop where
 iv:Iv f
 inj:∀ i j,i < 4 * m->j < 4 * m->v i=v j->i=j
 dm:∀ i,i < 4 * m->f (v i)≠v i
theorem rN{α β:Type}{v:α->β}:∀ {l:List α},l.Nodup->(∀ i∈l,∀ j∈l,v i=v j->i=j)->(l.map v).Nodup
 | [],_,_=>cH
 | a :: l,h,hi=>by
  rw [aP] at h;rw [aj,aP];refine⟨fun z=>?_,rN h.2 fun i O7 j hj=>hi i (aE _ O7) j (aE _ hj)⟩;obtain⟨b,hb,e⟩:=List.mem_map.mp z;have:=hi a (by simp) b (aE _ hb) e.symm;exact h.1 (this ▸ hb)
theorem xK{m:Nat}{ps:Pn}(h:okN m ps=true):(es ps).Nodup/\∀ i∈es ps,i < 4 * m:=by
 unfold okN at h;rw [aK] at h;exact⟨of_decide_eq_true h.1,fun i hi=>of_decide_eq_true (List.all_eq_true.mp h.2 i hi)⟩
theorem Tg.nd{v:Nat->T3}{f:T3->T3}{m:Nat}(t:Tg v f m){ps:Pn}(h:okN m ps=true):(es (mp v ps)).Nodup:=by
 obtain⟨h1,h2⟩:=xK h;unfold mp;rw [v9];exact rN h1 fun i hi j hj=>t.inj i j (h2 i hi) (h2 j hj)
theorem Tg.ok{v:Nat->T3}{f:T3->T3}{m:Nat}(t:Tg v f m){ps:Pn}(h:okN m ps=true):Ok f (mp v ps):=by
 refine⟨t.iv,t.nd h,fun e he=>?_⟩;unfold mp at he;rw [v9] at he;obtain⟨i,hi,rfl⟩:=List.mem_map.mp he;exact t.dm i ((xK h).2 i hi)
theorem Tg.th{v:Nat->T3}{f:T3->T3}{m:Nat}(t:Tg v f m){T:Pn}(h:okN m T=true)(ht:∀ p∈T,f (v p.1)=v p.2):Th v f T:=⟨t.iv,t.nd h,ht⟩
theorem M5{nm:Nat->Int}{m:Nat}(h:∀ i j,i < m->j < m->nm i=nm j->i=j):∀ i j,i < 4 * m->j < 4 * m->vv nm i=vv nm j->i=j:=by
 intro i j hi hj e;unfold vv at e;injection e with e1 e2 e3
 have:=h (i / 4) (j / 4) (by lia) (by lia) e1;have e2':i / 2 % 2=j / 2 % 2:=by exact_mod_cast e2
 have e3':i % 2=j % 2:=by exact_mod_cast e3
 lia
theorem QY{nm:Nat->Int}(i:Nat):vv nm i∈kl (nm (i / 4)):=by
 have h1:i / 2 % 2=0\/i / 2 % 2=1:=by lia
 have h2:i % 2=0\/i % 2=1:=by lia
 unfold vv kl;rcases h1 with h1 | h1 <;> rcases h2 with h2 | h2 <;> rw [h1,h2] <;> simp
noncomputable def S4(l:List Int)(i:Nat):Int:=(l[i]?).getD 0
theorem yO{l:List Int}{i:Nat}(h:i < l.length):S4 l i=l[i]:=by unfold S4; rw [ay h]; rfl
theorem Dm.tg{f:T3->T3}{l:List Int}(d:Dm f l):Tg (vv (S4 l)) f l.length:=by
 refine⟨d.iv,M5 fun i j hi hj e=>?_,fun i hi=>?_⟩
 ·rw [yO hi,yO hj] at e;exact(Dq d.nd).mp e
 ·have O7:i / 4 < l.length:=by lia
  refine d.dm (S4 l (i / 4)) ?_ _ (QY i);rw [yO O7];exact fN O7
end J
end K2
end
section
namespace K2
open PySem (Str)
open Enc (enc)
theorem iq{α:Type} [DecidableEq α] [Enc α]{G G1:Gp}{p:Nat}{xs:List α}{Q:DK}(l:fB G G1)(hp:G p=none)(h1:G1 p=some (.lst (xs.map enc)))(q:Q (enc xs) G):Mm G1 (.ref p) Q :=
 CA l hp h1 (Gm.same _) q
theorem dM{α:Type}{f:α->D}{g:Aa}{body:iF}{ok:Gp->Prop}{xs:List α}{E:lX}{K:lH}{τ:ik}{G:Gp}(I:List α->ik->Gp->Prop)
  (h0:I [] τ G) (cL:∀ pre τ G,I pre τ G->ok G)
  (step:∀ (pre:List α) (x:α) (post:List α) τ G (N:ik->Gp->Prop),xs=pre++x :: post->I pre τ G->(∀ vG G2,I (pre++[x]) vG G2->N vG G2) ->
   g E (f x) τ G fun o8 G1=>body E { K with nx:=N,ct:=N,bk:=K.nx } o8 G1)
  (fin:∀ τ G,I xs τ G->K.nx τ G):pW g body ok (xs.map f) E K τ G:=by
 have main:∀ (post pre:List α) τ G,xs=pre++post->I pre τ G->pW g body ok (post.map f) E K τ G:=by
  intro post;induction post with
  | nil =>
   intro pre τ G e h;rw [bN] at e;subst e;exact⟨cL _ _ _ h,fin _ _ h⟩
  | cons d post ih =>
   intro pre τ G e h;refine⟨cL _ _ _ h,?_⟩;exact step pre d post τ G _ e h fun vG G2 h2=>ih (pre++[d]) vG G2 (by rw [e,bB]; rfl) h2
 exact main xs [] τ G rfl h0
theorem k6{α:Type}{f:α->D}{g:Aa}{c:Option w9}{e:fY}{ok:Gp->Prop}{xs:List α}{E:lX}{τ:ik}{G:Gp}{Q:List D->Gp->Prop}(I:List α->List D->ik->Gp->Prop)
  (h0:I [] [] τ G) (cL:∀ pre acc τ G,I pre acc τ G->ok G)
  (step:∀ (pre:List α) (x:α) (post:List α) (acc:List D) τ G (N:ik->List D->Gp->Prop),xs=pre++x :: post->I pre acc τ G->(∀ vG wu G2,I (pre++[x]) wu vG G2->N vG wu G2) ->
   g E (f x) τ G fun o8 G1=>match c with
    | none=>e E o8 G1 fun x G2=>N o8 (acc++[x]) G2
    | some c=>c E o8 G1 fun k G2=>if k=true then e E o8 G2 fun x G3=>N o8 (acc++[x]) G3 else N o8 acc G2)
  (fin:∀ acc τ G,I xs acc τ G->Q acc G):jb g c e ok (xs.map f) E τ G [] Q:=by
 have main:∀ (post pre:List α) (acc:List D) τ G,xs=pre++post->I pre acc τ G->jb g c e ok (post.map f) E τ G acc Q:=by
  intro post;induction post with
  | nil =>
   intro pre acc τ G e h;rw [bN] at e;subst e;exact⟨cL _ _ _ _ h,fin _ _ _ h⟩
  | cons d post ih =>
   intro pre acc τ G e' h;refine⟨cL _ _ _ _ h,?_⟩;have:=step pre d post acc τ G (fun vG wu G2=>jb g c e ok (post.map f) E vG G2 wu Q) e' h fun vG wu G2 h2=>ih (pre++[d]) wu vG G2 (by rw [e',bB]; rfl) h2;cases c with
   | none=>exact this
   | some c=>exact this
 exact main xs [] [] τ G rfl h0
theorem iC{α:Type} [DecidableEq α] [Enc α]{xs:List α}{G:Gp}{R:List D->(Gp->Prop)->Gp->Prop}(h:R (xs.map enc) (fun _=>True) G):QG (enc xs) G R:=h
theorem Dt{n:Nat}(h:n<=1000):n<=SZ:=by unfold SZ; lia
theorem KS{n:Nat}(h:n<=1000):n < SZ:=by unfold SZ; lia
noncomputable abbrev Rows:=List (List T3)
noncomputable def T3.s(p:T3):T2:=⟨p.a,p.b⟩
structure Dr(rows:Rows):Prop where
 nd:(rows.flatten.map T3.s).Nodup
 way:∀ p∈rows.flatten,p.b=0\/p.b=1
 hand:∀ p∈rows.flatten,p.c=1\/p.c=-1
 Hv:∀ p∈rows.flatten,(⟨p.a,1 - p.b,p.c⟩:T3)∈rows.flatten
 Az:rows.flatten.length<=24
 str:rows.length<=3
namespace P
noncomputable def fT:nQ:=Uo (fun rows:Rows=>rows.flatten.length<=1000) fun rows=>rows.flatten
noncomputable def qK:iF :=
 (cG (bL (gR a8) (aN 1))
 (cG (fb (mR (ax 0)) (aN 2) (jj (t8 Gd xM (ax 1) (av (ax 2) a8))))
 (c7 (c8 (ax 1)))))
theorem rB(ds:List D)(G:Gp)(Q:DK)(h:fT ds G Q fun _ _=>False):qK (fun _ _=>False) (ends Q) (bE 3 ds) G:=by
 obtain⟨rows,rfl,hl,q⟩:=h;unfold qK;simp only [ends,bE,aj,bq,ak,aF,bg,aB,aU,cU,bL,gR,a8,aN,ar,ao];refine⟨by decide,fun p hp=>?_⟩;refine fU (fun τ G'=>(∃ b,τ=[some (enc rows),some (.ref p),b])/\fB G G'/\G' p=some (.lst (rows.flatten.map enc))) ?_ ?_
 ·intro N hN;simp only [fb,eW,ax,aa];refine iC ?_;refine dM (xs:=rows) (fun pre τ G'=>(∃ b,τ=[some (enc rows),some (.ref p),b])/\fB G G'/\G' p=some (.lst (pre.flatten.map enc))) ⟨⟨_,rfl⟩,.new hp,aA⟩ (fun _ _ _ _=>trivial) ?_ ?_
  ·rintro pre r post τ G' N2 e ⟨⟨b,rfl⟩,l,gp⟩ nj;have hlen:pre.flatten.length+r.length<=rows.flatten.length:=by
    rw [e]; simp only [cW,aX,au]; lia
   simp only [aN,jj,t8,ax,ar,ao,ae,aa,jU,gp,av,a8,kT,oO (IsL.enc r),true_and];refine⟨Dt (by simp only [aq]; lia),?_⟩;refine nj _ _ ⟨⟨_,rfl⟩,l.put hp,?_⟩;rw [aA]; simp
  ·rintro τ G' ⟨⟨b,rfl⟩,l,gp⟩;exact hN _ _ ⟨⟨_,rfl⟩,l,gp⟩
 ·rintro _ G' ⟨⟨b,rfl⟩,l,gp⟩;simp only [c7,c8,ax,ae,aa];exact iq l hp gp q
theorem CN(p:T3):(enc p:D)=.tup [.int p.a,.int p.b,.int p.c]:=rfl
theorem Vv(p:T2):(enc p:D)=.tup [.int p.a,.int p.b]:=rfl
theorem xT(i:Int):(enc i:D)=.int i:=rfl
theorem VH{a:D}{r:List D}:ua (a :: r) 0=some a:=by
 rw [pL _ (by lia) (by simp)]; rfl
theorem VG{a b:D}{r:List D}:ua (a :: b :: r) 1=some b:=by
 rw [pL _ (by lia) (by simp; lia)]; rfl
theorem at2{a b c:D}{r:List D}:ua (a :: b :: c :: r) 2=some c:=by
 rw [pL _ (by lia) (by simp; lia)]; rfl
noncomputable def names(rows:Rows):List Int:=Q6 ((rows.flatten.filter fun p=>p.b == 0).map (·.a))
noncomputable def fI:nQ:=Uo (fun rows:Rows=>rows.flatten.length < 64) names
noncomputable def wL:iF :=
 (c7 (c8 (wm vi (av (gW 1 [] (mR (bH fT (av (ax 0) a8))) (aN 0) (some (kE (bD (K9 false) (bD mf (ax 0) (dC (.int 1))) (dC (.int 0))))) (bD mf (ax 0) (dC (.int 0)))) a8))))
theorem xa(ds:List D)(G:Gp)(Q:DK)(h:fI ds G Q fun _ _=>False):wL (fun _ _=>False) (ends Q) (bE 1 ds) G:=by
 obtain⟨rows,rfl,hl,q⟩:=h;unfold wL;simp only [c7,c8,wm,av,gW,bE,aj,bq,ak,aF,aB,aU,a8,ends,eW,bH,ax,aa];refine⟨rows,rfl,(show rows.flatten.length<=1000 by lia),iC ⟨Dt (by rw [aq]; show rows.flatten.length<=1000; lia),?_⟩⟩;refine k6 (xs:=rows.flatten) (fun pre acc τ G'=>G=G'/\(∃ a,τ=[a])/\acc=((pre.filter fun p=>p.b == 0).map (·.a)).map enc) ⟨rfl,⟨_,rfl⟩,rfl⟩ (fun _ _ _ _ _=>trivial) ?_ ?_
 ·rintro pre x post acc τ G' N e ⟨rfl,⟨a,rfl⟩,rfl⟩ hN;simp only [aN,CN,ao,bD,ax,aa,dC,je,VH,fe,VG];refine⟨_,_,.int _,.int _,?_⟩;simp only [aw,mV,if_false,cZ];split
  ·rename_i h;refine hN _ _ _ ⟨rfl,⟨_,rfl⟩,?_⟩;simp [eY,bX,h,xT]
  ·rename_i h;refine hN _ _ _ ⟨rfl,⟨_,rfl⟩,?_⟩;simp [eY,bX,h]
 ·rintro acc τ G' ⟨rfl,⟨a,rfl⟩,rfl⟩ p hp;refine zF (IsL.ref aA) (by rw [aq]; exact gM (dF _ _) hl) fun p2 sD=>?_;exact iq ((fB.new hp).trans (.new sD)) ((fB.new hp).free sD) aA q
noncomputable def handOf(rows:Rows)(n:Int):Int:=((rows.flatten.find? fun p=>p.a == n).map (·.c)).getD 0
noncomputable def gv:nQ:=Zd (fun (rows:Rows) (n:Int)=>rows.flatten.length<=1000/\∃ p∈rows.flatten,p.a=n) handOf
noncomputable def yy:iF :=
 (cG (fb (mR (bH fT (av (ax 0) a8))) (aN 2) (kZ (kE (bD (K9 false) (bD mf (ax 2) (dC (.int 0))) (ax 1))) (c7 (c8 (bD mf (ax 2) (dC (.int 2))))) gK))
 PV)
theorem zQ(ds:List D)(G:Gp)(Q:DK)(h:gv ds G Q fun _ _=>False):yy (fun _ _=>False) (ends Q) (bE 3 ds) G:=by
 obtain⟨rows,n,rfl,⟨hl,hn⟩,q⟩:=h;unfold yy;refine fU (fun τ G'=>False) ?_ (fun _ _ h=>h.elim);intro N hN;simp only [fb,bE,aj,bq,ak,aF,bg,aB,aU,ends,eW,bH,av,ax,aa,a8];refine⟨rows,rfl,hl,iC ?_⟩;refine dM (xs:=rows.flatten) (fun pre τ G'=>G=G'/\(∃ a,τ=[some (enc rows),some (enc n),a])/\∀ p∈pre,p.a≠n) ⟨rfl,⟨_,rfl⟩,by simp⟩ (fun _ _ _ _=>trivial) ?_ ?_
 ·rintro pre x post τ G' N2 e ⟨rfl,⟨a,rfl⟩,hp⟩ nj;simp only [aN,kZ,xT,CN,ar,ao,c7,c8,bD,ax,ae,aa,dC,je,at2,gK,fe,VH];refine⟨_,_,.int _,.int _,?_⟩;simp only [aw,mV,if_false,cZ];by_cases hx:x.a=n
  ·simp only [hx,beq_self_eq_true,if_true];refine dh ?_;have:handOf rows n=x.c:=by
    unfold handOf;have:rows.flatten.find? (fun p=>p.a == n)=some x:=by
     rw [e,List.find?_append];have:pre.find? (fun p=>p.a == n)=none:=by
      rw [fL]; intro p t7; simpa using hp p t7
     rw [this];simp [hx]
    rw [this]; rfl
   rw [<-this]; exact q
  ·have:(x.a == n)=false:=by simpa using hx
   simp only [this,aw,if_false];refine nj _ _ ⟨rfl,⟨_,rfl⟩,fun p t7=>?_⟩;rcases List.mem_append.mp t7 with h | h
   ·exact hp p h
   ·rw [List.mem_singleton.mp h]; exact hx
 ·rintro τ G' ⟨rfl,_,hp⟩;obtain⟨p,hp1,sD⟩:=hn;exact absurd sD (hp p hp1)
noncomputable def ui(row:List T3)(i:Int):List T2:=if row=[] then [⟨i,2⟩] else row.map T3.s
noncomputable def Nr:Rows->Nat->List T2
 | [],_=>[]
 | r :: rs,k=>ui r (k:Int)++Nr rs (k+1)
noncomputable def SQ(rows:Rows):List T2:=Q6 (Nr rows 0)
theorem aa3{a b c:D}:cut [a,b,c] none (some 2)=[a,b]:=rfl
theorem Lq{α:Type} [DecidableEq α] [Enc α](xs:List α)(G:Gp):uL (enc xs) G=some (xs.map enc,fun _=>True):=rfl
theorem Lp{a:Nat}{ds:List D}{G:Gp}(h:G a=some (.lst ds)):uL (.ref a) G=some (ds,fun G2=>G2 a=some (.lst ds)):=by unfold uL; simp only [h]
theorem yd{α β:Type} [DecidableEq α] [Enc α] [DecidableEq β] [Enc β]:∀ (xs:List α) (ys:List β),o9 (xs.map enc) (ys.map enc)=(xs.zip ys).map fun p=>D.tup [enc p.1,enc p.2]
 | [],ys=>by simp [o9]
 | x :: xs,[]=>by simp [o9]
 | x :: xs,y :: ys=>by simp [o9,yd xs ys]
theorem ie{κ α:Type} [DecidableEq κ] [Enc κ] [tV κ] [DecidableEq α] [Enc α]{a:Nat}{l:List (κ×α)}{k:κ}{v:α}{G:Gp}{Q:Gp->Prop}(h:G a=some (.gP (bF l)))(hl:l.length<=1000)(q:Q (dO G a (.gP (bF (eV l k v))))):wD (.ref a) (enc k) (enc v) G Q:=by
 unfold wD;simp only [h];refine⟨mP l k,?_,by rw [Jy]; exact q⟩;unfold bF; rw [aq]; exact KS hl
noncomputable def iN(r:List T3):List T3:=r.drop 1++r.take 1
noncomputable def pairsOf(rows:Rows):List (T3×T3):=rows.flatMap fun r=>r.zip (iN r)
noncomputable def mM(ps:List (T3×T3)):List (T2×T2):=ps.foldl (fun l p=>eV l p.1.s p.2.s) []
theorem A8(ps:List (T3×T3)):(mM ps).length<=ps.length:=by
 have:∀ (ps:List (T3×T3)) (l:List (T2×T2)),(ps.foldl (fun l p=>eV l p.1.s p.2.s) l).length<=l.length+ps.length:=by
  intro ps;induction ps with
  | nil=>intro l; simp
  | cons p ps ih =>
   intro l;rw [cR,ak];have h1:=ih (eV l p.1.s p.2.s);have h2:=rn l p.1.s p.2.s;lia
 simpa [mM] using this ps []
theorem Hs(ps:List (T3×T3))(p:T3×T3):mM (ps++[p])=eV (mM ps) p.1.s p.2.s:=by unfold mM; rw [l0]; rfl
noncomputable def mD:nQ:=fun ds G Q _=>∃ rows:Rows,ds=[enc rows]/\rows.flatten.length<=500/\Q (.kJ (bF (mM (pairsOf rows)))) G
theorem pairs_len(rows:Rows):(pairsOf rows).length<=rows.flatten.length:=by
 unfold pairsOf;induction rows with
 | nil=>simp
 | cons r rs ih=>simp only [bV,aX,au,lj]; lia
noncomputable def yu:iF :=
 (cG (bL pI (aN 1))
 (cG (fb (mR (ax 0)) (aN 2) (fb (OZ (ax 2) (bD i7 (CW (ax 2) (pY (dC (.int 1))) gm) (CW (ax 2) gm (pY (dC (.int 1)))))) (jI (dJ (aN 3) (dJ (aN 4) jA))) (bL (CW (ax 4) gm (pY (dC (.int 2)))) (kW (ax 1) (CW (ax 3) gm (pY (dC (.int 2))))))))
 (c7 (c8 (ax 1)))))
theorem zM(ds:List D)(G:Gp)(Q:DK)(h:mD ds G Q fun _ _=>False):yu (fun _ _=>False) (ends Q) (bE 5 ds) G:=by
 obtain⟨rows,rfl,hl,q⟩:=h;unfold yu;simp only [ends,bE,aj,bq,ak,aF,bg,aB,aU,cU,bL,pI,gL,aN,ar,ao];intro d hd;refine fU (fun τ G'=>(∃ a b c,τ=[some (enc rows),some (.ref d),a,b,c])/\fB G G'/\G' d=some (.gP (bF (mM (pairsOf rows))))) ?_ ?_
 ·intro N hN;simp only [fb,eW,ax,aa];refine iC ?_;refine dM (xs:=rows) (fun pre τ G'=>(∃ a b c,τ=[some (enc rows),some (.ref d),a,b,c])/\fB G G'/\G' d=some (.gP (bF (mM (pairsOf pre))))) ⟨⟨_,_,_,rfl⟩,.new hd,aA⟩ (fun _ _ _ _=>trivial) ?_ ?_
  ·rintro pre r post τ G' N2 e ⟨⟨a,b,c,rfl⟩,l,gd⟩ nj;have hr:pre.flatten.length+r.length<=rows.flatten.length:=by
    rw [e]; simp only [cW,aX,au]; lia
   simp only [aN,fb,OZ,ax,ar,ao,ae,aa,bD,CW,gm,j7,dC,gw];refine B7 (IsL.enc r) fun p1 h1=>?_;refine B7 (IsL.enc r) fun p2 h2=>?_;have d1:d≠p1:=by rintro rfl; rw [gd] at h1; cases h1
   have l1:=l.trans (fB.new (o:=.lst (cut (r.map enc) (some 1) none)) h1);have d2:d≠p2:=by rintro rfl; rw [cT d1,gd] at h2; cases h2
   have h12:p1≠p2:=by rintro rfl; rw [aA] at h2; cases h2
   refine pj (IsL.ref (by rw [cT h12,aA])) (IsL.ref aA) ?_ fun p3 h3=>?_
   ·rw [vc,vc,aq,aq];have e1:(cut r (some 1) none).length<=r.length:=by unfold cut; rw [eD,cN]; lia
    have e2:(cut r none (some 1)).length<=r.length:=by unfold cut; rw [eD,cN]; lia
    exact Dt (by lia)
   have d3:d≠p3:=by rintro rfl; rw [cT d2,cT d1,gd] at h3; cases h3
   have et:cut (r.map enc) (some 1) none++cut (r.map enc) none (some 1)=(iN r).map enc:=by
    rw [vc,vc,<-aQ];congr 1;cases r with
    | nil=>rfl
    | cons x r=>rw [show (1:Int)=((1:Nat):Int) from rfl,zA _ _ (by simp),Iz _ _ (by simp)]; rfl
   rw [et];generalize hG3:dO (dO (dO G' p1 (.lst (cut (r.map enc) (some 1) none))) p2 (.lst (cut (r.map enc) none (some 1)))) p3 (.lst ((iN r).map enc))=G3;have g3:G3 p3=some (.lst ((iN r).map enc)):=by rw [<-hG3,aA]
   have gd3:G3 d=some (.gP (bF (mM (pairsOf pre)))):=by rw [<-hG3,cT d3,cT d2,cT d1]; exact gd
   have l3:fB G G3:=by rw [<-hG3]; exact(l1.trans (.new h2)).trans (.new h3)
   unfold tE;rw [Lq,Lp g3];dsimp only;rw [yd];refine dM (xs:=r.zip (iN r)) (fun pp τ G'=>(∃ a b c,τ=[some (enc rows),some (.ref d),a,b,c])/\fB G G'/\G' d=some (.gP (bF (mM (pairsOf pre++pp))))/\G' p3=some (.lst ((iN r).map enc)))
    ⟨⟨_,_,_,rfl⟩,l3,by rw [bN]; exact gd3,g3⟩ (fun _ _ _ h=>⟨trivial,h.2.2.2⟩) ?_ ?_
   ·rintro pp x post τ G4 N3 e4 ⟨⟨a,b,c,rfl⟩,l4,gd4,Vn⟩ HQ;have hz:(pairsOf pre++pp).length<=1000:=by
     have:=pairs_len pre;have h5:pp.length < (r.zip (iN r)).length:=by rw [e4]; simp
     rw [lj] at h5;rw [au]; lia
    simp only [jI,dJ,aN,jA,bL,CW,ax,CN,ar,ao,ae,aa,gm,kW,uA,ak,aF,j7,dC,gw,aa3];refine⟨by decide,by decide,?_⟩;refine ie (k:=x.1.s) (v:=x.2.s) gd4 (bu (A8 _) hz) ?_;refine HQ _ _ ⟨⟨_,_,_,rfl⟩,l4.put hd,?_,by rw [cT (fW d3)]; exact Vn⟩;rw [aA,<-bB,Hs]
   ·rintro τ G4 ⟨⟨a,b,c,rfl⟩,l4,gd4,Vn⟩;refine nj _ _ ⟨⟨_,_,_,rfl⟩,l4,?_⟩;have:pairsOf (pre++[r])=pairsOf pre++r.zip (iN r):=by unfold pairsOf; simp
    rw [this]; exact gd4
  ·rintro τ G' ⟨⟨a,b,c,rfl⟩,l,gd⟩;exact hN _ _ ⟨⟨_,_,_,rfl⟩,l,gd⟩
 ·rintro _ G' ⟨⟨a,b,c,rfl⟩,l,gd⟩;simp only [c7,c8,ax,ae,aa];exact ja l hd gd q
noncomputable def ZV(s:T2):T3:=⟨s.a,s.b,0⟩
noncomputable def Zh(s:T2):T3:=⟨s.a,s.b,1⟩
noncomputable def Ut(ss:List T2):List T3:=ss.flatMap fun s=>[ZV s,Zh s]
end P
end K2
end
section
set_option maxHeartbeats 1000000
namespace K2
namespace J
noncomputable def pt:Pr T3->T3->T3
 | [],e=>e
 | p :: r,e=>if e=p.1 then p.2 else if e=p.2 then p.1 else pt r e
theorem pv{P:Pr T3}{e:T3}(h:e∉es P):pt P e=e:=by
 induction P with
 | nil=>rfl
 | cons p r ih =>
  rw [es,aO,aO,not_or,not_or] at h;rw [pt,if_neg h.1,if_neg h.2.1,ih h.2.2]
theorem kq{P:Pr T3}(nd:(es P).Nodup){p:T3×T3}(h:p∈P):pt P p.1=p.2/\pt P p.2=p.1:=by
 induction P with
 | nil=>cases h
 | cons q r ih =>
  rw [es,aP,aP,aO,not_or] at nd;rcases List.mem_cons.mp h with rfl | h
  ·refine⟨by rw [pt,if_pos rfl],?_⟩;rw [pt,if_neg (fun z=>nd.1.1 z.symm),if_pos rfl]
  ·obtain⟨a,b⟩:=ih nd.2.2 h;have m1:p.1∈es r:=oe.mpr ⟨p,h,.inl rfl⟩;have m2:p.2∈es r:=oe.mpr ⟨p,h,.inr rfl⟩;have ne:∀ e∈es r,e≠q.1/\e≠q.2:=fun e he=>⟨fun z=>nd.1.2 (z ▸ he),fun z=>nd.2.1 (z ▸ he)⟩;exact⟨by rw [pt,if_neg (ne _ m1).1,if_neg (ne _ m1).2,a],by rw [pt,if_neg (ne _ m2).1,if_neg (ne _ m2).2,b]⟩
theorem S1{P:Pr T3}(nd:(es P).Nodup){f:T3->T3}(h1:∀ p∈P,f p.1=p.2/\f p.2=p.1)(h2:∀ e,e∉es P->f e=e):pt P=f:=by
 funext e;by_cases he:e∈es P
 ·obtain⟨p,hp,z⟩:=oe.mp he;rcases z with rfl | rfl
  ·rw [(kq nd hp).1,(h1 p hp).1]
  ·rw [(kq nd hp).2,(h1 p hp).2]
 ·rw [pv he,h2 e he]
theorem Jz{P P':Pr T3}(h:P.Perm P')(nd:(es P).Nodup):pt P=pt P':=by
 refine S1 nd (fun p hp=>kq ((nK h).nodup_iff.mp nd) (h.mem_iff.mp hp)) fun e he=>pv fun z=>he ((nK h).mem_iff.mpr z)
theorem NT{P:Pr T3}(nd:(es P).Nodup):Iv (pt P):=by
 intro e;by_cases he:e∈es P
 ·obtain⟨p,hp,z⟩:=oe.mp he;rcases z with rfl | rfl
  ·rw [(kq nd hp).1,(kq nd hp).2]
  ·rw [(kq nd hp).2,(kq nd hp).1]
 ·rw [pv he,pv he]
theorem S2{P:Pr T3}(nd:(es P).Nodup){p:T3×T3}(h:p∈P):p.1≠p.2:=by
 induction P with
 | nil=>cases h
 | cons q r ih =>
  rw [es,aP,aP,aO,not_or] at nd;rcases List.mem_cons.mp h with rfl | h
  ·exact nd.1.1
  ·exact ih nd.2.2 h
theorem vL{P:Pr T3}(nd:(es P).Nodup){e:T3}:pt P e≠e↔e∈es P:=by
 refine⟨fun h=>gB fun z=>h (pv z),fun he=>?_⟩;obtain⟨p,hp,z⟩:=oe.mp he;rcases z with rfl | rfl
 ·rw [(kq nd hp).1]; exact(S2 nd hp).symm
 ·rw [(kq nd hp).2]; exact S2 nd hp
theorem UC{P:Pr T3}(nd:(es P).Nodup)(h:∀ e,pt P e=e):P=[]:=by
 cases P with
 | nil=>rfl
 | cons p r=>exact absurd (h p.1) (vL nd |>.mpr (by simp [es]))
structure Kv(l:List (T3×T3))(f:T3->T3):Prop where
 nd:(l.map (·.1)).Nodup
 at':∀ e,cM l e=if f e=e then none else some (f e)
theorem rq{κ β:Type} [DecidableEq κ]{l:List (κ×β)}{k j:κ}:cM (l.filter fun p=>decide (p.1≠k)) j=if j=k then none else cM l j:=by
 induction l with
 | nil=>simp [cM]
 | cons p r ih =>
  unfold cM at *;rw [bX];by_cases h:p.1=k
  ·rw [if_neg (by simp [h]),ih];by_cases hj:j=k
   ·rw [if_pos hj,if_pos hj]
   ·rw [if_neg hj,if_neg hj,cB (by simp [h]; exact fun z=>hj z.symm)]
  ·rw [if_pos (by simp [h])];by_cases Xl:p.1=j
   ·rw [cA (by simp [Xl]),cA (by simp [Xl]),if_neg (fun z=>h (Xl.trans z))]
   ·rw [cB (by simp [Xl]),cB (by simp [Xl]),ih]
noncomputable def CO(l:List (T3×T3))(k:T3):List (T3×T3):=l.filter fun p=>decide (p.1≠k)
theorem pM{κ β:Type} [DecidableEq κ]{l:List (κ×β)}{k:κ}{v:β}(h:(l.map (·.1)).Nodup):((eV l k v).map (·.1)).Nodup:=by
 unfold eV;split
 ·rw [aW];have:(l.map ((fun x:κ×β=>x.1)∘fun p=>if p.1=k then (p.1,v) else p))=l.map (·.1):=by
   refine bZ fun p _=>?_;show (if p.1=k then (p.1,v) else p).1=p.1;split <;> rfl
  rw [this]; exact h
 ·rename_i hk;rw [aQ,eL];refine⟨h,by simp,fun a ha b hb z=>?_⟩;rw [List.map_singleton,cy] at hb;obtain⟨p,hp,e⟩:=List.mem_map.mp ha;exact hk (List.any_eq_true.mpr ⟨p,hp,by simp; rw [e,z,hb]⟩)
theorem Kv.join{l:List (T3×T3)}{f:T3->T3}(h:Kv l f)(iv:Iv f){x y:T3}(xy:x≠y)(hx:f x≠x)(hy:f y≠y) :
  cM l x=some (f x)/\cM (CO l x) y=some (f y)/\(f x=y->Kv (CO (CO l x) y) (jn f x y))/\(f x≠y->Kv (eV (eV (CO (CO l x) y) (f x) (f y)) (f y) (f x)) (jn f x y)):=by
 have a1:cM l x=some (f x):=by rw [h.at',if_neg hx]
 have a2:cM (CO l x) y=some (f y):=by unfold CO; rw [rq,if_neg (fun z=>xy z.symm),h.at',if_neg hy]
 have nd2:((CO (CO l x) y).map (·.1)).Nodup:=nq (lu _ (List.filter_sublist.trans kj)) h.nd;have d2:∀ e,cM (CO (CO l x) y) e=if e=x\/e=y then none else if f e=e then none else some (f e):=fun e=>by
  unfold CO;rw [rq,rq,h.at']
  grind
 have ix:=iv x;have iy:=iv y;refine⟨a1,a2,fun e=>⟨nd2,fun z=>?_⟩,fun e=>⟨pM (pM nd2),fun z=>?_⟩⟩
 ·have iz:=iv z;rw [d2];unfold jn
  grind (splits:=30)
 ·have iz:=iv z;rw [sf,sf,d2];unfold jn
  grind (splits:=30)
end J
end K2
end
section
namespace K2
namespace Y
noncomputable abbrev Po:=List (Int×Int)
noncomputable def ND(l:Po):Prop:=(l.map (·.1)).Nodup
noncomputable def c0(l:Po)(k:Int):Int:=(cM l k).getD 0
noncomputable def gi(l:Po):Po:=l.filter fun p=>p.2 != 0
noncomputable def plus(a:Po)(p:Int×Int):Po:=eV a p.1 (c0 a p.1+p.2)
noncomputable def sS(l m:Po):Po:=m.foldl plus l
noncomputable def xh(l m:Po):Po:=gi (sS l m)
noncomputable def oI(m:Po)(a:Po)(p:Int×Int):Po:=m.foldl (fun a q=>plus a (p.1+q.1,p.2 * q.2)) a
noncomputable def nI(l m:Po):Po:=l.foldl (oI m) []
noncomputable def i8(l m:Po):Po:=gi (nI l m)
noncomputable def lz(l:Po)(by_ f:Int):Po:=gi (l.map fun p=>(p.1+by_,p.2 * f))
noncomputable def dG(l:Po):Nat->Po
 | 0=>[(0,1)]
 | n+1=>i8 (dG l n) l
theorem k8{κ β:Type} [DecidableEq κ]{l:List (κ×β)}{k:κ}{v:β}(h:k∉l.map (·.1)):eV l k v=l++[(k,v)]:=by
 unfold eV;rw [if_neg];intro q;obtain⟨p,h1,h2⟩:=List.any_eq_true.mp q;exact h (List.mem_map.mpr ⟨p,h1,by simpa using h2⟩)
theorem zH{κ β:Type} [DecidableEq κ]{l:List (κ×β)}{k:κ}{v:β}(h:k∈l.map (·.1)):eV l k v=l.map (fun p=>if p.1=k then (p.1,v) else p):=by
 unfold eV;rw [if_pos];obtain⟨p,h1,h2⟩:=List.mem_map.mp h;exact List.any_eq_true.mpr ⟨p,h1,by simpa using h2⟩
theorem L8{κ β:Type} [DecidableEq κ](l:List (κ×β))(k:κ)(v:β):(eV l k v).map (·.1)=if k∈l.map (·.1) then l.map (·.1) else l.map (·.1)++[k]:=by
 split
 ·rename_i h;rw [zH h,aW];refine bZ fun p _=>?_;show (if p.1=k then (p.1,v) else p).1=p.1;split <;> rfl
 ·rename_i h;rw [k8 h,aQ]; rfl
theorem ND.put{l:Po}(h:ND l)(k v:Int):ND (eV l k v):=by
 unfold ND;rw [L8];split
 ·exact h
 ·rename_i hk;rw [eL];exact⟨h,by simp,fun a ha b hb=>by rw [cy] at hb; subst hb; intro z; exact hk (z ▸ ha)⟩
theorem ND.nil:ND []:=cH
theorem ND.one(k v:Int):ND [(k,v)]:=by unfold ND; simp
theorem ND.tail{p:Int×Int}{l:Po}(h:ND (p :: l)):ND l:=by unfold ND at *; rw [aj,aP] at h; exact h.2
theorem ND.head{p:Int×Int}{l:Po}(h:ND (p :: l)):p.1∉l.map (·.1):=by unfold ND at *; rw [aj,aP] at h; exact h.1
theorem ND.gi{l:Po}(h:ND l):ND (gi l):=by
 unfold ND Y.gi at *;exact nq (lu _ kj) h
theorem rL{l:Po}(h:ND l)(p:Int×Int):ND (plus l p):=h.put _ _
theorem u3{α:Type}(f:Po->α->Po)(hf:∀ a x,ND a->ND (f a x)):∀ (xs:List α) (a:Po),ND a->ND (xs.foldl f a)
 | [],_,h=>h
 | x :: xs,a,h=>u3 f hf xs _ (hf a x h)
theorem Eu{l m:Po}(h:ND l):ND (sS l m):=u3 _ (fun a x h=>rL h x) m l h
theorem Cb{m a:Po}(h:ND a)(p:Int×Int):ND (oI m a p):=u3 _ (fun a x h=>rL h _) m a h
theorem yE(l m:Po):ND (nI l m):=u3 _ (fun a x h=>Cb h x) l [] .nil
theorem Ry{l m:Po}(h:ND l):ND (xh l m):=(Eu h).gi
theorem vK(l m:Po):ND (i8 l m):=(yE l m).gi
theorem DZ{l:Po}(h:ND l)(b f:Int):ND (l.map fun p=>(p.1+b,p.2 * f)):=by
 unfold ND at *;rw [aW];have:(l.map ((fun x:Int×Int=>x.1)∘fun p=>(p.1+b,p.2 * f)))=(l.map (·.1)).map (· + b):=by rw [aW]; rfl
 rw [this];exact List.Pairwise.map _ (fun a c hac z=>hac (by lia)) h
theorem Lb{l:Po}(h:ND l)(b f:Int):ND (lz l b f):=(DZ h b f).gi
theorem vM(l:Po):∀ n,ND (dG l n)
 | 0=>.one _ _
 | n+1=>vK _ _
theorem Eo(l:Po)(p:Int×Int):(plus l p).length<=l.length+1:=by unfold plus eV; split <;> simp
theorem rT{α:Type}(f:Po->α->Po)(c:Nat)(hf:∀ a x,(f a x).length<=a.length+c):∀ (xs:List α) (a:Po),(xs.foldl f a).length<=a.length+xs.length * c
 | [],a=>by simp
 | x :: xs,a=>by
  have:=rT f c hf xs (f a x);have:=hf a x;rw [cR,ak,Nat.succ_mul]; lia
theorem A6(l m:Po):(sS l m).length<=l.length+m.length:=by
 have:=rT plus 1 Eo m l;unfold sS; lia
theorem En(m a:Po)(p:Int×Int):(oI m a p).length<=a.length+m.length:=by
 have:=rT (fun a q=>plus a (p.1+q.1,p.2 * q.2)) 1 (fun a q=>Eo a _) m a;unfold oI; lia
theorem qP(l m:Po):(nI l m).length<=l.length * m.length:=by
 have:=rT (oI m) m.length (fun a p=>En m a p) l [];simpa [nI] using this
theorem vP(l:Po):(gi l).length<=l.length:=dF _ _
theorem yD(l m:Po):(i8 l m).length<=l.length * m.length:=bu (vP _) (qP l m)
theorem tf(l:Po):∀ n,(dG l n).length<=l.length ^ n
 | 0=>by simp [dG]
 | n+1=>bu (yD _ _) (by rw [QP]; exact jS _ (tf l n))
noncomputable def L(g:Int->Int):Po->Int
 | []=>0
 | p :: l=>p.2 * g p.1+L g l
theorem FU(g:Int->Int):∀ (l m:Po),L g (l++m)=L g l+L g m
 | [],m=>by simp [L]
 | p :: l,m=>by rw [aB,L,L,FU g l m]; lia
theorem BL{l:Po}{k:Int}(h:k∉l.map (·.1)):cM l k=none:=by
 unfold cM;have:l.find? (fun p=>decide (p.1=k))=none:=by
  rw [fL];intro p hp z;exact h (List.mem_map.mpr ⟨p,hp,by simpa using z⟩)
 rw [this]; rfl
theorem C3{p:Int×Int}{l:Po}{k:Int}:c0 (p :: l) k=if p.1=k then p.2 else c0 l k:=by
 unfold c0 cM;rw [eh];by_cases h:p.1=k <;> simp [h]
theorem BN(g:Int->Int)(k v:Int):∀ (l:Po),ND l->k∈l.map (·.1)->L g (l.map fun p=>if p.1=k then (p.1,v) else p)=L g l+(v - c0 l k) * g k
 | [],_,h=>by cases h
 | p :: l,hn,h=>by
  rw [aj,C3];by_cases e:p.1=k
  ·rw [if_pos e,if_pos e,L,L];have:l.map (fun p=>if p.1=k then (p.1,v) else p)=l:=by
    conv=>rhs; rw [<-kg l]
    refine bZ fun q hq=>?_;rw [if_neg]; rfl;intro z; exact hn.head (by rw [e,<-z]; exact bC hq)
   rw [this];show v * g p.1+L g l=_;rw [e,Int.sub_mul]; lia
  ·rw [if_neg e,if_neg e,L,L,BN g k v l hn.tail (by
    rw [aj,aO] at h;rcases h with h | h
    ·exact absurd h.symm e
    ·exact h)]
   lia
theorem X8(g:Int->Int){l:Po}(hn:ND l)(k v:Int):L g (eV l k v)=L g l+(v - c0 l k) * g k:=by
 by_cases h:k∈l.map (·.1)
 ·rw [zH h]; exact BN g k v l hn h
 ·rw [k8 h,FU];have:c0 l k=0:=by unfold c0; rw [BL h]; rfl
  rw [this];simp [L]
theorem Qn(g:Int->Int){l:Po}(hn:ND l)(p:Int×Int):L g (plus l p)=L g l+p.2 * g p.1:=by
 unfold plus;rw [X8 g hn];congr 1;rw [show c0 l p.1+p.2 - c0 l p.1=p.2 by lia]
theorem xY(g:Int->Int):∀ (l:Po),L g (gi l)=L g l
 | []=>rfl
 | p :: l=>by
  have ih:=xY g l;unfold gi at *;rw [bX];by_cases h:p.2=0
  ·rw [if_neg (by simp [h]),ih,L,h]; simp
  ·rw [if_pos (by simp [h]),L,L,ih]
theorem Qo(g:Int->Int):∀ (m l:Po),ND l->L g (m.foldl plus l)=L g l+L g m
 | [],l,_=>by simp [L]
 | p :: m,l,h=>by
  rw [cR,Qo g m _ (rL h p),Qn g h,L]; lia
theorem VO(g:Int->Int){l:Po}(h:ND l)(m:Po):L g (xh l m)=L g l+L g m:=by
 unfold xh sS; rw [xY,Qo g m l h]
theorem Qm(g:Int->Int)(p:Int×Int):∀ (m a:Po),ND a->L g (oI m a p)=L g a+p.2 * L (fun j=>g (p.1+j)) m
 | [],a,_=>by simp [oI,L]
 | q :: m,a,h=>by
  have ih:=Qm g p m (plus a (p.1+q.1,p.2 * q.2)) (rL h _);unfold oI at *;rw [cR,ih,Qn g h,L,sZ];show L g a+p.2 * q.2 * g (p.1+q.1)+_=_;rw [MX]; lia
theorem FT(g:Int->Int)(l m:Po):L g (i8 l m)=L (fun i=>L (fun j=>g (i+j)) m) l:=by
 unfold i8 nI;rw [xY];have:∀ (l a:Po),ND a->L g (l.foldl (oI m) a)=L g a+L (fun i=>L (fun j=>g (i+j)) m) l:=by
  intro l;induction l with
  | nil=>intro a _; simp [L]
  | cons p l ih =>
   intro a h;rw [cR,ih _ (Cb h p),Qm g p m a h,L]; lia
 rw [this l [] .nil]; simp [L]
theorem xb(g:Int->Int)(b f:Int):∀ (l:Po),L g (l.map fun p=>(p.1+b,p.2 * f))=f * L (fun i=>g (i+b)) l
 | []=>by simp [L]
 | p :: l=>by
  rw [aj,L,xb g b f l,L,sZ];congr 1;show p.2 * f * g (p.1+b)=f * (p.2 * g (p.1+b));rw [Int.mul_comm p.2 f,MX]
theorem Ql(g:Int->Int)(b f:Int)(l:Po):L g (lz l b f)=f * L (fun i=>g (i+b)) l:=by
 unfold lz; rw [xY,xb]
theorem TX(g h:Int->Int):∀ (l:Po),L (fun i=>g i+h i) l=L g l+L h l
 | []=>rfl
 | p :: l=>by rw [L,L,L,TX g h l,sZ]; lia
theorem Qb{l:Po}{k:Int}(h:k∉l.map (·.1)):c0 l k=0:=by unfold c0; rw [BL h]; rfl
theorem Ku{l:Po}(hn:ND l)(k:Int):L (fun i=>if i=k then 1 else 0) l=c0 l k:=by
 induction l with
 | nil=>rfl
 | cons p l ih =>
  rw [L,ih hn.tail,C3];by_cases h:p.1=k
  ·have:c0 l k=0:=Qb (h ▸ hn.head);simp [h,this]
  ·simp [h]
noncomputable def NZ(l:Po):Prop:=∀ p∈l,p.2≠0
theorem Et(l:Po):NZ (gi l):=fun p h=>by
 have:=(List.mem_filter.mp h).2;simpa using this
theorem zI{l:Po}(hn:ND l){p:Int×Int}(h:p∈l):cM l p.1=some p.2:=by
 induction l with
 | nil=>cases h
 | cons q l ih =>
  unfold cM;rw [eh];rcases List.mem_cons.mp h with rfl | h
  ·simp
  ·have:q.1≠p.1:=fun z=>hn.head (by rw [z]; exact bC h);simp only [this,decide_false];exact ih hn.tail h
theorem Qc{l:Po}(hn:ND l){p:Int×Int}(h:p∈l):c0 l p.1=p.2:=by unfold c0; rw [zI hn h]; rfl
theorem Ou{l:Po}{k:Int}(h:c0 l k≠0):(k,c0 l k)∈l:=by
 unfold c0 at *;unfold cM at *;cases q:l.find? (fun p=>decide (p.1=k)) with
 | none=>rw [q] at h; exact absurd rfl h
 | some p =>
  have h1:=oV q;have h2:=gS q;simp at h1;simp only [tX,sr];rw [<-h1]; exact h2
theorem ig:∀ (xs ys:List Int),xs.Nodup->(∀ x∈xs,x∈ys)->xs.length<=ys.length
 | [],_,_,_=>cC _
 | x :: xs,ys,hn,h=>by
  rw [aP] at hn;have:=ig xs (ys.erase x) hn.2 fun y hy=>(QR (show y≠x from fun z=>hn.1 (by rw [<-z]; exact hy))).mpr (h y (aE _ hy));have hx:=h x (by simp);rw [KH hx] at this;have:=MV hx;rw [ak]; lia
theorem sub_len{l m:Po}(hl:ND l)(zl:NZ l)(h:∀ k,c0 l k=c0 m k):l.length<=m.length:=by
 have:=ig (l.map fun p:Int×Int=>p.1) (m.map fun p:Int×Int=>p.1) hl fun k hk=>by
  obtain⟨p,hp,rfl⟩:=List.mem_map.mp hk;have h1:c0 m p.1≠0:=by rw [<-h,Qc hl hp]; exact zl p hp
  exact bC (f:=(·.1)) (Ou h1)
 simpa using this
theorem R5{l m:Po}(hl:ND l)(hm:ND m)(zl:NZ l)(zm:NZ m)(h:∀ k,c0 l k=c0 m k):wb l m=true:=by
 unfold wb;rw [aK];refine⟨?_,List.all_eq_true.mpr fun p hp=>?_⟩
 ·have h1:=sub_len hl zl h;have h2:=sub_len hm zm fun k=>(h k).symm;simpa using Nat.le_antisymm h1 h2
 ·have h1:c0 m p.1=p.2:=by rw [<-h,Qc hl hp]
  have h2:c0 m p.1≠0:=by rw [h1]; exact zl p hp
  have:=zI hm (Ou h2);rw [h1] at this;simp only at this;rw [this]; simp
theorem PG{l m:Po}(hl:ND l)(hm:ND m)(zl:NZ l)(zm:NZ m)(h:∀ g,L g l=L g m):wb l m=true :=
 R5 hl hm zl zm fun k=>by rw [<-Ku hl,<-Ku hm,h]
noncomputable def fP:Po->Nat
 | []=>0
 | p :: l=>p.2.natAbs+fP l
theorem yL:∀ (l m:Po),fP (l++m)=fP l+fP m
 | [],m=>by simp [fP]
 | p :: l,m=>by rw [aB,fP,fP,yL l m]; lia
theorem Cf{l:Po}{p:Int×Int}(h:p∈l):p.2.natAbs<=fP l:=by
 induction l with
 | nil=>cases h
 | cons q l ih =>
  rw [fP];rcases List.mem_cons.mp h with rfl | h
  ·lia
  ·have:=ih h; lia
theorem wV(k v:Int):∀ (l:Po),ND l->k∈l.map (·.1)->fP (l.map fun p=>if p.1=k then (p.1,v) else p)+(c0 l k).natAbs=fP l+v.natAbs
 | [],_,h=>by cases h
 | p :: l,hn,h=>by
  rw [aj,C3];by_cases e:p.1=k
  ·rw [if_pos e,if_pos e,fP,fP];have:l.map (fun p=>if p.1=k then (p.1,v) else p)=l:=by
    conv=>rhs; rw [<-kg l]
    refine bZ fun q hq=>?_;rw [if_neg]; rfl;intro z; exact hn.head (by rw [e,<-z]; exact bC hq)
   rw [this];show v.natAbs+fP l+_=_;lia
  ·have:=wV k v l hn.tail (by
    rw [aj,aO] at h;rcases h with h | h
    ·exact absurd h.symm e
    ·exact h)
   rw [if_neg e,if_neg e,fP,fP];lia
theorem EA{l:Po}(hn:ND l)(p:Int×Int):fP (plus l p)<=fP l+p.2.natAbs:=by
 unfold plus;by_cases h:p.1∈l.map (·.1)
 ·rw [zH h];have:=wV p.1 (c0 l p.1+p.2) l hn h;have:=Int.natAbs_add_le (c0 l p.1) p.2;lia
 ·rw [k8 h,yL,Qb h];simp [fP]
theorem vR(l:Po):fP (gi l)<=fP l:=by
 induction l with
 | nil=>exact aI _
 | cons p l ih =>
  unfold gi at *;rw [bX];split
  ·rw [fP,fP]; lia
  ·rw [fP]; lia
theorem Ez(p:Int×Int):∀ (m a:Po),ND a->fP (oI m a p)<=fP a+p.2.natAbs * fP m
 | [],a,_=>by simp [oI,fP]
 | q :: m,a,h=>by
  have ih:=Ez p m (plus a (p.1+q.1,p.2 * q.2)) (rL h _);have:=EA h (p.1+q.1,p.2 * q.2);unfold oI at *;rw [cR,fP,Nat.mul_add];have e:(p.2 * q.2).natAbs=p.2.natAbs * q.2.natAbs:=Int.natAbs_mul _ _;simp only at this;lia
theorem tu(l m:Po):fP (i8 l m)<=fP l * fP m:=by
 refine bu (vR _) ?_;unfold nI;have:∀ (l a:Po),ND a->fP (l.foldl (oI m) a)<=fP a+fP l * fP m:=by
  intro l;induction l with
  | nil=>intro a _; simp [fP]
  | cons p l ih =>
   intro a h;rw [cR];have h1:=ih _ (Cb (m:=m) h p);have h2:=Ez p m a h;rw [fP,Nat.add_mul]; lia
 have:=this l [] .nil;simpa [fP] using this
theorem pC(l:Po):∀ n,fP (dG l n)<=fP l ^ n
 | 0=>by simp [dG,fP]
 | n+1=>bu (tu _ _) (by rw [QP]; exact jS _ (pC l n))
theorem EB:∀ (m l:Po),ND l->fP (m.foldl plus l)<=fP l+fP m
 | [],l,_=>by simp [fP]
 | p :: m,l,h=>by
  have h1:=EB m _ (rL h p);have h2:=EA h p;rw [cR,fP]; lia
theorem Og{l:Po}(h:ND l)(m:Po):fP (xh l m)<=fP l+fP m:=bu (vR _) (EB m l h)
theorem Le(l:Po):∀ n,NZ (dG l n)
 | 0=>fun p h=>by
  simp only [dG,cy] at h;subst h; decide
 | n+1=>Et _
end Y
end K2
end
section
namespace K2
open PySem (Str)
open Enc (enc)
class inductive Cn {α:Type} (ps:List (α×α)):α->α->Prop
 | refl (x:α):Cn ps x x
 | pair {x y:α}:(x,y)∈ps->Cn ps x y
 | symm {x y:α}:Cn ps x y->Cn ps y x
 | trans {x y z:α}:Cn ps x y->Cn ps y z->Cn ps x z
class Dj (α:Type) [DecidableEq α] [Enc α] [bt α] where
 mn:∀ {x:D} {G:Gp} {xs:List α} {Q:DK},itemsOf x G=some (xs.map enc)->xs≠[]->(∀ m∈xs,(∀ y∈xs,MC m y=true)->Q (enc m) G)->aa4 [x] G Q
theorem mT{α:Type} [DecidableEq α] [Enc α] [bt α]:∀ (r:List α) (a:α),r.foldl (fun m x=>if bt.lt x m=true then x else m) a∈a :: r/\∀ y∈a :: r,MC (r.foldl (fun m x=>if bt.lt x m=true then x else m) a) y=true
 | [],a=>⟨by simp,fun y hy=>by rw [List.mem_singleton.mp hy]; unfold MC; rw [List.foldl_nil,bt.HH]; rfl⟩
 | b :: r,a=>by
  rw [cR];by_cases c:bt.lt b a=true
  ·rw [if_pos c];obtain⟨h1,h2⟩:=mT r b;refine⟨aE _ h1,fun y hy=>?_⟩;rcases List.mem_cons.mp hy with rfl | hy
   ·refine Bi _ _ _ (h2 b (by simp)) ?_;unfold MC;cases q:bt.lt y b with
    | false=>rfl
    | true=>have:=bt.trans _ _ _ q c; rw [bt.HH] at this; cases this
   ·exact h2 y hy
  ·rw [if_neg c];obtain⟨h1,h2⟩:=mT r a;refine⟨?_,fun y hy=>?_⟩
   ·rcases List.mem_cons.mp h1 with h | h
    ·rw [h]; simp
    ·exact aE _ (aE _ h)
   ·rcases List.mem_cons.mp hy with rfl | hy
    ·exact h2 y (by simp)
    ·rcases List.mem_cons.mp hy with rfl | hy
     ·refine Bi _ _ _ (h2 a (by simp)) ?_;unfold MC; simpa using c
     ·exact h2 y (aE _ hy)
noncomputable instance:Dj Int where
 mn:=by
  intro x G xs Q hi Bn k;cases xs with
  | nil=>exact absurd rfl Bn
  | cons a r =>
   obtain⟨h1,h2⟩:=mT r a;refine .inl ⟨a :: r,_,hi,rfl,?_⟩;have:(fun (m x:Int)=>if x < m then x else m)=fun m x=>if bt.lt x m=true then x else m:=by
    funext m x;show (if x < m then x else m)=if decide (x < m)=true then x else m
    simp
   show Q (enc (r.foldl (fun m x=>if x < m then x else m) a)) G;rw [this];exact k _ h1 h2
theorem tw:∀ (x y:List Int),tx (fun a b=>decide (a < b)) x y=lexLt x y
 | [],[]=>rfl
 | [],_ :: _=>rfl
 | _ :: _,[]=>rfl
 | a :: x,b :: y=>by simp only [vV,lexLt,tw x y]
noncomputable instance:Dj T3 where
 mn:=by
  intro x G xs Q hi Bn k;cases xs with
  | nil=>exact absurd rfl Bn
  | cons a r =>
   obtain⟨h1,h2⟩:=mT r a;have ei:itemsOf x G=some (((a :: r).map T3.l).map tI):=by rw [hi,aW]; rfl
   refine .inr ⟨(a :: r).map T3.l,_,ei,rfl,?_⟩;have:∀ (r:List T3) (a:T3),(r.map T3.l).foldl (fun m x=>if lexLt x m=true then x else m) a.l=(r.foldl (fun m x=>if bt.lt x m=true then x else m) a).l:=by
    intro r;induction r with
    | nil=>intro a; rfl
    | cons b r ih =>
     intro a;rw [aj,cR,cR];have e:(if lexLt b.l a.l=true then b.l else a.l)=(if bt.lt b a=true then b else a).l:=by
      have:bt.lt b a=lexLt b.l a.l:=tw _ _;rw [this];split <;> rfl
     rw [e]; exact ih _
   rw [this r a];exact k _ h1 h2
namespace P
section
variable {α:Type} [DecidableEq α] [Enc α] [bt α] [tV α] [Dj α]
structure GI(ms:List α)(ps:List (α×α))(l:List (α×List α)):Prop where
 len:l.length<=64
 at':∀ m∈ms,∃ g,cM l m=some g/\g.Nodup/\∀ x,x∈g↔Cn ps m x
end
end P
end K2
end
section
namespace K2
open PySem (Str)
open Enc (enc)
namespace P
theorem k8{κ β:Type} [DecidableEq κ]{l:List (κ×β)}{k:κ}{v:β}(h:k∉l.map (·.1)):eV l k v=l++[(k,v)]:=by
 unfold eV;rw [if_neg];intro q;obtain⟨p,h1,h2⟩:=List.any_eq_true.mp q;exact h (List.mem_map.mpr ⟨p,h1,by simpa using h2⟩)
theorem E9{κ β γ:Type} [DecidableEq κ](kf:γ->κ)(vf:γ->β):∀ (ps:List γ) (l:List (κ×β)),(l.map (·.1)++ps.map kf).Nodup->ps.foldl (fun l p=>eV l (kf p) (vf p)) l=l++ps.map fun p=>(kf p,vf p)
 | [],l,_=>by simp
 | p :: ps,l,h=>by
  rw [cR,k8 (fun z=>by
   rw [aj,eL] at h;exact h.2.2 _ z _ (by simp) rfl),E9 kf vf ps _ (by simpa using h)]
  simp
theorem wz(r:List T3):(iN r).length=r.length:=by unfold iN; rw [au,cN,eD]; lia
theorem BZ(r:List T3):(iN r).Perm r:=by
 unfold iN;exact List.perm_append_comm.trans (by rw [jk])
theorem oN(rows:Rows):(pairsOf rows).map (·.1)=rows.flatten:=by
 unfold pairsOf;induction rows with
 | nil=>rfl
 | cons r rs ih =>
  rw [bV,aQ,ih,aX];congr 1;rw [List.map_fst_zip]; rw [wz]; exact aI _
theorem oM(rows:Rows):((pairsOf rows).map (·.2)).Perm rows.flatten:=by
 unfold pairsOf;induction rows with
 | nil=>exact .refl _
 | cons r rs ih =>
  rw [bV,aQ,aX];refine yb ?_ ih;rw [List.map_snd_zip]
  ·exact BZ r
  ·rw [wz]; exact aI _
variable {rows:Rows}
theorem Pp(d:Dr rows):((pairsOf rows).map fun p=>p.1.s).Nodup:=by
 have:((pairsOf rows).map fun p=>p.1.s)=rows.flatten.map T3.s:=by rw [<-oN,aW]; rfl
 rw [this]; exact d.nd
theorem Ur(d:Dr rows):((pairsOf rows).map fun p=>p.2.s).Nodup:=by
 have:((pairsOf rows).map fun p=>p.2.s)=((pairsOf rows).map (·.2)).map T3.s:=by rw [aW]; rfl
 rw [this,((oM rows).map T3.s).nodup_iff]; exact d.nd
theorem Oq(d:Dr rows):mM (pairsOf rows)=(pairsOf rows).map fun p=>(p.1.s,p.2.s):=by
 unfold mM;rw [E9 (fun p:T3×T3=>p.1.s) (fun p=>p.2.s) _ _ (by simpa using Pp d)]; rfl
noncomputable def Yk(rows:Rows)(s:T2):T3:=(rows.flatten.find? fun p=>decide (p.s=s)).getD ⟨0,0,0⟩
noncomputable def nxt(rows:Rows)(s:T2):T2:=(cM ((pairsOf rows).map fun p=>(p.1.s,p.2.s)) s).getD s
noncomputable def cmg(rows:Rows)(s:T2):T2:=(cM ((pairsOf rows).map fun p=>(p.2.s,p.1.s)) s).getD s
noncomputable def mt(p:T3):T2:=⟨p.a,1 - p.b⟩
noncomputable def fst(p:T3):Bool:=decide (p.b=0) == decide (p.c=1)
theorem JI(d:Dr rows){p:T3}(h:p∈rows.flatten):Yk rows p.s=p:=by
 unfold Yk;cases q:rows.flatten.find? (fun x=>decide (x.s=p.s)) with
 | none=>rw [fL] at q; exact absurd (by simp) (q p h)
 | some x =>
  have h1:=oV q;have h2:=gS q;have h1:x.s=p.s:=by simpa using h1
  have:∀ (L:List T3),(L.map T3.s).Nodup->x∈L->p∈L->x=p:=by
   intro L;induction L with
   | nil=>intro _ h; cases h
   | cons y L ih =>
    intro hn hx hp;rw [aj,aP] at hn;rcases List.mem_cons.mp hx with e1 | hx2
    ·rcases List.mem_cons.mp hp with e2 | sD
     ·rw [e1,e2]
     ·exact absurd (by rw [<-e1,h1]; exact bC sD) hn.1
    ·rcases List.mem_cons.mp hp with e2 | sD
     ·exact absurd (by rw [<-e2,<-h1]; exact bC hx2) hn.1
     ·exact ih hn.2 hx2 sD
  exact this _ d.nd h2 h
theorem Pc{p:T3}(h:p∈rows.flatten):∃ q,(p,q)∈pairsOf rows/\q∈rows.flatten:=by
 rw [<-oN] at h;obtain⟨x,hx,rfl⟩:=List.mem_map.mp h;exact⟨x.2,hx,(oM rows).mem_iff.mp (bC hx)⟩
theorem Pb{q:T3}(h:q∈rows.flatten):∃ p,(p,q)∈pairsOf rows/\p∈rows.flatten:=by
 rw [<-(oM rows).mem_iff] at h;obtain⟨x,hx,rfl⟩:=List.mem_map.mp h;exact⟨x.1,hx,by rw [<-oN]; exact bC hx⟩
noncomputable def om(p:T3):T3:=⟨p.a,1 - p.b,p.c⟩
theorem WN(d:Dr rows){p:T3}(h:p∈rows.flatten):om p∈rows.flatten:=d.Hv p h
noncomputable def step(rows:Rows)(x:T3):T3 :=
 if x.b=2 then x else
 let al:=decide (x.c=0)
 let p:=if al=true then Yk rows (nxt rows x.s) else Yk rows x.s
 if (fst p == al)=true then ZV (mt p) else Zh (cmg rows (mt p))
theorem mr{n:Int}:n∈names rows↔∃ p∈rows.flatten,p.b=0/\p.a=n:=by
 unfold names;rw [Q5,List.mem_map];constructor
 ·rintro⟨p,h,rfl⟩;obtain⟨h1,h2⟩:=List.mem_filter.mp h;exact⟨p,h1,by simpa using h2,rfl⟩
 ·rintro⟨p,h1,h2,rfl⟩;exact⟨p,List.mem_filter.mpr ⟨h1,by simpa using h2⟩,rfl⟩
theorem xQ(d:Dr rows){p:T3}(h:p∈rows.flatten):handOf rows p.a=p.c:=by
 unfold handOf;cases q:rows.flatten.find? (fun x=>x.a == p.a) with
 | none=>rw [fL] at q; exact absurd (by simp) (q p h)
 | some x =>
  have h1:x.a=p.a:=by simpa using oV q
  have h2:=gS q;show x.c=p.c;have hw:=d.way p h;have Yv:=d.way x h2;by_cases e:x.b=p.b
  ·have:x.s=p.s:=by unfold T3.s; rw [h1,e]
   have e1:=JI d h2;rw [this,JI d h] at e1;rw [e1]
  ·have:(om x).s=p.s:=by unfold T3.s om; rw [h1]; congr 1; dsimp only; lia
   have e1:=JI d (WN d h2);rw [this,JI d h] at e1;rw [e1]; rfl
end P
end K2
end
section
set_option maxHeartbeats 1000000
namespace K2
open Enc (enc)
noncomputable instance {α β:Type} [DecidableEq α] [Enc α] [bt α] [DecidableEq β] [Enc β] [bt β]:bt (α×β) where
 lt:=fun x y=>if x.1=y.1 then bt.lt x.2 y.2 else bt.lt x.1 y.1
 AW:=.tup [bt.AW α,bt.AW β]
 Cy:=fun x=>by
  show (cX _ (enc x.1)&&(cX _ (enc x.2)&&true))=true;rw [bt.Cy,bt.Cy]; rfl
 RQ:=fun x y=>by
  show lS [enc x.1,enc x.2] [enc y.1,enc y.2]=_;rw [mO,mO,Enc.eqv,Enc.eqv,bt.RQ,bt.RQ,show lS [] []=false from rfl];by_cases h:x.1=y.1
  ·simp only [h,decide_true,if_true];by_cases h2:x.2=y.2
   ·simp only [h2,decide_true,if_true]; exact(bt.HH _).symm
   ·simp only [h2,decide_false,aw,if_false]
  ·simp only [h,decide_false,aw,if_false]
 HH:=fun x=>by simp only [if_true]; exact bt.HH _
 trans:=fun x y z h1 h2=>by
  by_cases e1:x.1=y.1
  ·rw [if_pos e1] at h1;by_cases e2:y.1=z.1
   ·rw [if_pos e2] at h2;rw [if_pos (e1.trans e2)];exact bt.trans _ _ _ h1 h2
   ·rw [if_neg e2] at h2;rw [if_neg (fun q=>e2 (e1.symm.trans q)),e1]; exact h2
  ·rw [if_neg e1] at h1;by_cases e2:y.1=z.1
   ·rw [if_neg (fun q=>e1 (q.trans e2.symm)),<-e2]; exact h1
   ·rw [if_neg e2] at h2;have h3:=bt.trans _ _ _ h1 h2;rw [if_neg (fun q=>by rw [q,bt.HH] at h3; cases h3)]; exact h3
 nY:=fun x y h1 h2=>by
  by_cases e1:x.1=y.1
  ·rw [if_pos e1] at h1;rw [if_pos e1.symm] at h2;exact Prod.ext e1 (bt.nY _ _ h1 h2)
  ·rw [if_neg e1] at h1;rw [if_neg (fun q=>e1 q.symm)] at h2;exact absurd (bt.nY _ _ h1 h2) e1
namespace J
noncomputable def Lg(l:List (T3×T3)):Pr T3:=Q6 (l.filter fun p=>bt.lt p.1 p.2)
theorem yS{κ β:Type} [DecidableEq κ]:∀ {l:List (κ×β)},(l.map (·.1)).Nodup->∀ {p:κ×β},p∈l->cM l p.1=some p.2
 | [],_,_,h=>by cases h
 | q :: l,nd,p,h=>by
  rw [aj,aP] at nd;unfold cM;rcases List.mem_cons.mp h with rfl | h
  ·rw [cA (by simp)]; rfl
  ·have:¬ q.1=p.1:=fun z=>nd.1 (by rw [z]; exact bC h);rw [cB (by simpa using this)];exact yS nd.2 h
theorem C8{κ β:Type} [DecidableEq κ]{l:List (κ×β)}{k:κ}{v:β}(h:cM l k=some v):(k,v)∈l:=by
 unfold cM at h;obtain⟨p,h1,h2⟩:=Option.map_eq_some_iff.mp h;have h3:=oV h1;have h4:=gS h1;simp at h3;rw [<-h3,<-h2]; exact h4
theorem Kv.mem{l:List (T3×T3)}{f:T3->T3}(h:Kv l f){p:T3×T3}(hp:p∈l):f p.1=p.2/\f p.1≠p.1:=by
 have a:=yS h.nd hp;rw [h.at'] at a;split at a
 ·cases a
 ·rename_i z; exact⟨ba a,z⟩
theorem RS{α:Type} [DecidableEq α] [Enc α] [bt α]{a b:α}(h1:bt.lt a b=true)(h2:bt.lt b a=true):False:=by
 have:=bt.trans _ _ _ h1 h2;rw [bt.HH] at this; cases this
theorem Kd{f:T3->T3}(iv:Iv f):∀ {l:List (T3×T3)},(l.map (·.1)).Nodup->(∀ p∈l,f p.1=p.2)->(es (l.filter fun p=>bt.lt p.1 p.2)).Nodup
 | [],_,_=>cH
 | p :: l,nd,h=>by
  rw [aj,aP] at nd;have ih:=Kd iv nd.2 fun q hq=>h q (aE _ hq);rw [bX];split
  ·rename_i hl;have fp:=h p (by simp);rw [es,aP,aP,aO,not_or];have out:∀ q∈l.filter (fun p=>bt.lt p.1 p.2),p.1≠q.1/\p.1≠q.2/\p.2≠q.1/\p.2≠q.2:=fun q hq=>by
    have Tw:=List.mem_filter.mp hq;have fq:=h q (aE _ Tw.1);have n1:p.1≠q.1:=fun z=>nd.1 (by rw [z]; exact bC Tw.1);have n2:p.1=q.2->p.2=q.1:=fun z=>by rw [<-fp,z,<-fq,iv]
    have n3:p.2=q.1->p.1=q.2:=fun z=>by rw [<-fq,<-z,<-fp,iv]
    have TN:¬ (p.1=q.2/\p.2=q.1):=fun ⟨a,b⟩=>RS hl (by rw [a,b]; exact Tw.2);refine⟨n1,fun z=>TN ⟨z,n2 z⟩,fun z=>TN ⟨n3 z,z⟩,fun z=>n1 ?_⟩;have:=congrArg f z;rw [<-fp,<-fq,iv,iv] at this;exact this
   have ne:p.1≠p.2:=fun z=>by rw [z,bt.HH] at hl; cases hl
   refine⟨⟨ne,fun z=>?_⟩,fun z=>?_,ih⟩
   ·obtain⟨q,hq,e⟩:=oe.mp z;rcases e with e | e
    ·exact(out q hq).1 e
    ·exact(out q hq).2.1 e
   ·obtain⟨q,hq,e⟩:=oe.mp z;rcases e with e | e
    ·exact(out q hq).2.2.1 e
    ·exact(out q hq).2.2.2 e
  ·exact ih
theorem JE{l:List (T3×T3)}{f:T3->T3}(h:Kv l f)(iv:Iv f):(es (Lg l)).Nodup/\pt (Lg l)=f:=by
 have sp:=qC (l.filter fun p=>bt.lt p.1 p.2);have nd0:=Kd iv h.nd fun p hp=>(h.mem hp).1;have nd:(es (Lg l)).Nodup:=(nK sp).nodup_iff.mpr nd0;refine⟨nd,S1 nd (fun p hp=>?_) fun e he=>?_⟩
 ·have t7:=(List.mem_filter.mp (sp.mem_iff.mp hp)).1;have:=(h.mem t7).1;exact⟨this,by rw [<-this,iv]⟩
 ·refine gB fun z=>he ?_;have a1:cM l e=some (f e):=by rw [h.at',if_neg z]
  have z2:f (f e)≠f e:=fun q=>z (by rw [iv] at q; exact q.symm);have a2:cM l (f e)=some e:=by rw [h.at',if_neg z2,iv]
  have m1:=C8 a1;have m2:=C8 a2;rw [oe];by_cases hl:bt.lt e (f e)=true
  ·exact⟨(e,f e),sp.mem_iff.mpr (List.mem_filter.mpr ⟨m1,hl⟩),.inl rfl⟩
  ·by_cases z8:bt.lt (f e) e=true
   ·exact⟨(f e,e),sp.mem_iff.mpr (List.mem_filter.mpr ⟨m2,z8⟩),.inr rfl⟩
   ·exact absurd (bt.nY _ _ (by simpa using z8) (by simpa using hl)) z
noncomputable def Ie(P:Pr T3):List (T3×T3):=P.foldl (fun l p=>eV (eV l p.1 p.2) p.2 p.1) []
theorem Kc:∀ {P:Pr T3},(es P).Nodup->Kv (Ie P) (pt P):=by
 have main:∀ (P:Pr T3) (l:List (T3×T3)) (f:T3->T3),Kv l f->(es P).Nodup->(∀ e∈es P,f e=e)->Kv (P.foldl (fun l p=>eV (eV l p.1 p.2) p.2 p.1) l) (fun e=>if e∈es P then pt P e else f e):=by
  intro P;induction P with
  | nil =>
   intro l f h _ _;have:(fun e=>if e∈es ([]:Pr T3) then pt [] e else f e)=f:=by funext e; simp [es]
   rw [this]; exact h
  | cons p P ih =>
   intro l f h nd hf;rw [es,aP,aP,aO,not_or] at nd;have f1:f p.1=p.1:=hf _ (by simp [es]);have f2:f p.2=p.2:=hf _ (by simp [es]);have h2:Kv (eV (eV l p.1 p.2) p.2 p.1) (fun e=>if e=p.1 then p.2 else if e=p.2 then p.1 else f e):=by
    refine⟨pM (pM h.nd),fun e=>?_⟩;rw [sf,sf,h.at'];have:=nd.1.1
    grind
   have:=ih _ _ h2 nd.2.2 fun e he=>by
    have m1:e≠p.1:=fun z=>nd.1.2 (z ▸ he);have m2:e≠p.2:=fun z=>nd.2.1 (z ▸ he);simp only [if_neg m1,if_neg m2];exact hf e (by simp [es,he])
   rw [cR];have e2:(fun e=>if e∈es (p :: P) then pt (p :: P) e else f e)=fun e=>if e∈es P then pt P e else if e=p.1 then p.2 else if e=p.2 then p.1 else f e:=by
    funext e;rw [es,pt];by_cases he:e∈es P
    ·have m1:e≠p.1:=fun z=>nd.1.2 (z ▸ he);have m2:e≠p.2:=fun z=>nd.2.1 (z ▸ he);rw [if_pos (by simp [he]),if_neg m1,if_neg m2,if_pos he]
    ·rw [if_neg he];by_cases m1:e=p.1
     ·rw [if_pos (by simp [m1]),if_pos m1,if_pos m1]
     ·by_cases m2:e=p.2
      ·rw [if_pos (by simp [m2]),if_neg m1,if_pos m2,if_neg m1,if_pos m2]
      ·rw [if_neg (by simp [m1,m2,he]),if_neg m1,if_neg m2]
   rw [e2]; exact this
 intro P nd;have:=main P [] (fun e=>e) ⟨cH,fun e=>by simp [cM]⟩ nd (fun _ _=>rfl);have e2:(fun e=>if e∈es P then pt P e else e)=pt P:=by
  funext e;by_cases he:e∈es P
  ·rw [if_pos he]
  ·rw [if_neg he,pv he]
 rw [e2] at this; exact this
theorem Kb(P:Pr T3):(Ie P).length<=2 * P.length:=by
 have:∀ (P:Pr T3) (l:List (T3×T3)),(P.foldl (fun l p=>eV (eV l p.1 p.2) p.2 p.1) l).length<=l.length+2 * P.length:=by
  intro P;induction P with
  | nil=>intro l; simp
  | cons p P ih =>
   intro l;have h1:=ih (eV (eV l p.1 p.2) p.2 p.1);have h2:=rn (eV l p.1 p.2) p.2 p.1;have h3:=rn l p.1 p.2;rw [cR,ak]; lia
 have:=this P [];simpa [Ie] using this
end J
end K2
end
section
set_option maxHeartbeats 1000000
namespace K2
open Enc (enc)
namespace J
open Y (Po L ND NZ fP xh i8 lz dG)
noncomputable def nZ(P:Pr T3):PK:=P.map fun p=>[p.1.l,p.2.l]
noncomputable def aa1:List (List Int)->T3×T3
 | [[a,b,c],[x,y,z]]=>(⟨a,b,c⟩,⟨x,y,z⟩)
 | _=>(⟨0,0,0⟩,⟨0,0,0⟩)
noncomputable def dec(k:PK):Pr T3:=k.map aa1
theorem Ip(P:Pr T3):dec (nZ P)=P:=by
 unfold dec nZ;rw [aW]
 conv=>rhs; rw [<-kg P]
 rfl
theorem NY(P:Pr T3):pP (nZ P)=.tup (P.map enc):=by
 unfold pP nZ;rw [aW];rfl
noncomputable abbrev Su:=List (PK×Po)
noncomputable def iE(S:Su):List (PK×D):=S.map fun p=>(p.1,D.kJ (bF p.2))
theorem Bg(S:Su)(k:PK):pR (iE S) k=(cM S k).map fun l=>D.kJ (bF l):=by
 unfold pR cM iE;rw [List.find?_map,Option.map_map,Option.map_map];rfl
theorem NQ(S:Su)(k:PK)(l:Po):La (iE S) k (.kJ (bF l))=iE (eV S k l):=by
 unfold La eV iE;rw [List.any_map];split
 ·rename_i h;rw [if_pos (by simpa [Qw] using h),aW,aW];refine bZ fun p _=>?_;simp only [Function.comp];split <;> rfl
 ·rename_i h;rw [if_neg (by simpa [Qw] using h),aQ]; rfl
noncomputable def nY(ns:List (Int×Int))(g:Fn):Su->Int
 | []=>0
 | p :: S=>L (fun j=>Br (pt (dec p.1)) ns (sh j g)) p.2+nY ns g S
theorem Jh(ns:List (Int×Int))(g:Fn)(S S':Su):nY ns g (S++S')=nY ns g S+nY ns g S':=by
 induction S with
 | nil=>simp [nY]
 | cons p S ih=>rw [aB,nY,nY,ih]; lia
theorem Q3(ns:List (Int×Int))(g:Fn)(k:PK)(l:Po):∀ {S:Su},(S.map (·.1)).Nodup->nY ns g (eV S k l)=nY ns g S+(L (fun j=>Br (pt (dec k)) ns (sh j g)) l - L (fun j=>Br (pt (dec k)) ns (sh j g)) ((cM S k).getD []))
 | S,nd=>by
  unfold eV;split
  ·rename_i h;have main:∀ {S:Su},(S.map (·.1)).Nodup->(S.any fun p=>decide (p.1=k))=true->nY ns g (S.map fun p=>if p.1=k then (p.1,l) else p)=nY ns g S+(L (fun j=>Br (pt (dec k)) ns (sh j g)) l - L (fun j=>Br (pt (dec k)) ns (sh j g)) ((cM S k).getD [])):=by
    intro S;induction S with
    | nil=>intro _ h; cases h
    | cons p S ih =>
     intro nd h;rw [aj,aP] at nd;rw [aj,nY,nY];by_cases e:p.1=k
     ·have e2:(S.map fun p=>if p.1=k then (p.1,l) else p)=S:=by
       conv=>rhs; rw [<-kg S]
       refine bZ fun q hq=>?_;rw [if_neg]; rfl;intro z; exact nd.1 (by rw [e,<-z]; exact bC hq)
      have e3:cM (p :: S) k=some p.2:=by unfold cM; rw [cA (by simpa using e)]; rfl
      rw [e2,e3,if_pos e,e];simp only [sr];lia
     ·have e3:cM (p :: S) k=cM S k:=by unfold cM; rw [cB (by simpa using e)]
      rw [e3,if_neg e,ih nd.2 (by simpa [e] using h)];lia
   exact main nd h
  ·rename_i h;rw [Jh];have e3:cM S k=none:=by
    unfold cM;have:S.find? (fun p=>decide (p.1=k))=none:=by
     rw [fL];intro p hp z;exact h (List.any_eq_true.mpr ⟨p,hp,z⟩)
    rw [this]; rfl
   rw [e3];show nY ns g S+(L _ l+0)=_;simp only [AP,L];lia
noncomputable def LP:Po:=[(2,-1),(-2,-1)]
theorem abe(g:Fn)(i:Int):L (fun j=>g (i+j)) LP=lp g i:=by
 show -1 * g (i+2)+(-1 * g (i+-2)+0)=-(g (i+2)) - g (i - 2);rw [show i+-2=i - 2 by lia]; lia
theorem Oy(n:Nat)(g:Fn):hZ n (lp g)=lp (hZ n g):=by
 induction n with
 | zero=>rfl
 | succ n ih=>rw [hZ,hZ,ih]
theorem tU:∀ (n:Nat) (g:Fn),L g (dG LP n)=hZ n g 0
 | 0,g=>by show 1 * g 0+0=g 0; lia
 | n+1,g=>by
  show L g (i8 (dG LP n) LP)=_;rw [Y.FT];have:(fun i=>L (fun j=>g (i+j)) LP)=lp g:=by funext i; exact abe g i
  rw [this,tU n,Oy]; rfl
theorem HA(f:T3->T3)(ns:List (Int×Int))(g:Fn):∀ (n:Nat) (b:Int),hZ n (fun t=>Br f ns (sh (t+b) g))=fun t=>Br f ns (sh (t+b) (hZ n g))
 | 0,b=>rfl
 | n+1,b=>by
  rw [hZ,HA f ns g n b];funext t;show -(Br f ns (sh (t+2+b) (hZ n g))) - Br f ns (sh (t - 2+b) (hZ n g))=Br f ns (sh (t+b) (lp (hZ n g)));have e:sh (t+b) (lp (hZ n g))=pl (sc (-1) (sh (t+2+b) (hZ n g))) (sc (-1) (sh (t - 2+b) (hZ n g))):=by
   funext i;show -(hZ n g (i+(t+b)+2)) - hZ n g (i+(t+b) - 2)=-1 * hZ n g (i+(t+2+b))+-1 * hZ n g (i+(t - 2+b));rw [show i+(t+b)+2=i+(t+2+b) by lia,show i+(t+b) - 2=i+(t - 2+b) by lia];lia
  rw [e,Kx,BO,BO]; lia
noncomputable def Rj(l:Po)(c:Nat)(b:Int):Po:=lz (i8 l (dG LP c)) b 1
theorem X9(f:T3->T3)(ns:List (Int×Int))(g:Fn)(l:Po)(c:Nat)(b:Int):L (fun j=>Br f ns (sh j g)) (Rj l c b)=L (fun j=>Br f ns (hZ c (sh b (sh j g)))) l:=by
 unfold Rj;rw [Y.Ql,Y.FT,Int.one_mul];congr 1;funext i;rw [tU];have:(fun j=>Br f ns (sh (i+j+b) g))=fun t=>Br f ns (sh (t+(i+b)) g):=by
  funext t; rw [show i+t+b=t+(i+b) by lia]
 rw [this,HA];show Br f ns (sh (0+(i+b)) (hZ c g))=_;rw [vE,i9,i9,Jq,Int.add_comm i b]
theorem RK(l:Po)(c:Nat)(b:Int):fP (Rj l c b)<=fP l * 2 ^ c:=by
 unfold Rj lz;refine bu (Y.vR _) ?_;have e:∀ m:Po,fP (m.map fun p=>(p.1+b,p.2 * 1))=fP m:=by
  intro m;induction m with
  | nil=>rfl
  | cons p m ih=>rw [aj,fP,fP,ih]; simp
 rw [e];exact bu (Y.tu _ _) (Nat.mul_le_mul_left _ (Y.pC LP c))
noncomputable def sM(A:Su)(k':PK)(l:Po)(c:Nat)(b:Int):Su:=eV A k' (xh ((cM A k').getD []) (Rj l c b))
noncomputable def Mj(S:Su):Prop:=(S.map (·.1)).Nodup/\∀ p∈S,ND p.2/\NZ p.2
theorem Mj.get{S:Su}(h:Mj S)(k:PK):ND ((cM S k).getD [])/\NZ ((cM S k).getD []):=by
 cases e:cM S k with
 | none=>exact⟨Y.ND.nil,fun p hp=>by cases hp⟩
 | some l=>exact h.2 _ (C8 e)
theorem Mj.put{S:Su}(h:Mj S){k:PK}{l:Po}(h1:ND l)(h2:NZ l):Mj (eV S k l):=by
 refine⟨pM h.1,fun p hp=>?_⟩;unfold eV at hp;split at hp
 ·obtain⟨q,hq,rfl⟩:=List.mem_map.mp hp;split
  ·exact⟨h1,h2⟩
  ·exact h.2 q hq
 ·rcases List.mem_append.mp hp with hp | hp
  ·exact h.2 p hp
  ·rw [cy] at hp; subst hp; exact⟨h1,h2⟩
theorem Nj{A:Su}(h:Mj A)(k':PK)(l:Po)(c:Nat)(b:Int):Mj (sM A k' l c b):=h.put (Y.Ry (h.get k').1) (Y.Et _)
theorem Nh{A:Su}(h:Mj A)(ns:List (Int×Int))(g:Fn)(k':PK)(l:Po)(c:Nat)(b:Int):nY ns g (sM A k' l c b)=nY ns g A+L (fun j=>Br (pt (dec k')) ns (hZ c (sh b (sh j g)))) l:=by
 unfold sM;rw [Q3 ns g k' _ h.1,Y.VO _ (h.get k').1,X9];lia
noncomputable def gO:Su->Nat
 | []=>0
 | p :: S=>fP p.2+gO S
theorem yM(S S':Su):gO (S++S')=gO S+gO S':=by
 induction S with
 | nil=>simp [gO]
 | cons p S ih=>rw [aB,gO,gO,ih]; lia
theorem Oh(k:PK)(l:Po):∀ {S:Su},(S.map (·.1)).Nodup->gO (eV S k l)+fP ((cM S k).getD [])<=gO S+fP l
 | S,nd=>by
  unfold eV;split
  ·rename_i h;have main:∀ {S:Su},(S.map (·.1)).Nodup->(S.any fun p=>decide (p.1=k))=true->gO (S.map fun p=>if p.1=k then (p.1,l) else p)+fP ((cM S k).getD [])<=gO S+fP l:=by
    intro S;induction S with
    | nil=>intro _ h; cases h
    | cons p S ih =>
     intro nd h;rw [aj,aP] at nd;rw [aj,gO,gO];by_cases e:p.1=k
     ·have e2:(S.map fun p=>if p.1=k then (p.1,l) else p)=S:=by
       conv=>rhs; rw [<-kg S]
       refine bZ fun q hq=>?_;rw [if_neg]; rfl;intro z; exact nd.1 (by rw [e,<-z]; exact bC hq)
      have e3:cM (p :: S) k=some p.2:=by unfold cM; rw [cA (by simpa using e)]; rfl
      rw [e2,e3,if_pos e];simp only [sr];lia
     ·have e3:cM (p :: S) k=cM S k:=by unfold cM; rw [cB (by simpa using e)]
      have:=ih nd.2 (by simpa [e] using h);rw [e3,if_neg e];lia
   exact main nd h
  ·rename_i h;rw [yM];have e3:cM S k=none:=by
    unfold cM;have:S.find? (fun p=>decide (p.1=k))=none:=by
     rw [fL];intro p hp z;exact h (List.any_eq_true.mpr ⟨p,hp,z⟩)
    rw [this]; rfl
   rw [e3];show gO S+(fP l+0)+0<=_;lia
theorem Ni{A:Su}(h:Mj A)(k':PK)(l:Po){c:Nat}(hc:c<=2)(b:Int):gO (sM A k' l c b)<=gO A+4 * fP l:=by
 unfold sM;have h1:=Oh k' (xh ((cM A k').getD []) (Rj l c b)) h.1;have h2:=Y.Og (h.get k').1 (Rj l c b);have h3:=RK l c b;have h4:fP l * 2 ^ c<=fP l * 4:=Nat.mul_le_mul_left _ (show 2 ^ c<=2 ^ 2 from jP (by decide) hc);lia
theorem JK(S:Su)(k:PK):fP ((cM S k).getD [])<=gO S:=by
 induction S with
 | nil=>exact aI _
 | cons p S ih =>
  unfold cM at *;rw [gO];by_cases e:p.1=k
  ·rw [cA (by simpa using e)]; simp only [tX,sr]; lia
  ·rw [cB (by simpa using e)]; lia
theorem Ce:∀ {l:Po},NZ l->l.length<=fP l
 | [],_=>aI _
 | p :: l,h=>by
  have h1:=h p (by simp);have h2:=Ce (l:=l) fun q hq=>h q (aE _ hq);rw [ak,fP]; lia
noncomputable def jh(S:Su):Su:=S.filter fun p=>!p.2.isEmpty
theorem OH(ns:List (Int×Int))(g:Fn)(S:Su):nY ns g (jh S)=nY ns g S:=by
 unfold jh;induction S with
 | nil=>rfl
 | cons p S ih =>
  rw [bX];split
  ·rw [nY,nY,ih]
  ·rename_i h;have:p.2=[]:=by simpa using h
   rw [ih,nY,this,L,vE]
theorem EV{S:Su}(h:Mj S):Mj (jh S):=⟨nq (lu _ kj) h.1,fun p hp=>h.2 p (List.mem_filter.mp hp).1⟩
theorem OI(S:Su):gO (jh S)<=gO S:=by
 unfold jh;induction S with
 | nil=>exact aI _
 | cons p S ih =>
  rw [bX];split
  ·rw [gO,gO]; lia
  ·rw [gO]; lia
theorem OK{S:Su}(h:Mj S):(jh S).length<=gO S:=by
 have:∀ {S:Su},(∀ p∈S,NZ p.2)->(jh S).length<=gO S:=by
  intro S;unfold jh;induction S with
  | nil=>intro _; exact aI _
  | cons p S ih =>
   intro h;have ih:=ih fun q hq=>h q (aE _ hq);rw [bX,gO];split
   ·rename_i z;have h1:=Ce (h p (by simp));have h2:0 < p.2.length:=by
     cases q:p.2 with
     | nil=>rw [q] at z; cases z
     | cons _ _=>simp
    rw [ak]; lia
   ·lia
 exact this fun p hp=>(h.2 p hp).2
end J
end K2
end
section
namespace K2
open PySem (Str)
open Enc (enc)
namespace Y
structure Pl(G:Gp)(d:D)(l:Po):Prop where
 is:TZ G d l
 nd:ND l
theorem vb{G G1:Gp}{p:Nat}{o:GO}{Q:DK}(l:fB G G1)(hp:G p=none)(h1:G1 p=some o)(q:gL G o Q):Mm G1 (.ref p) Q:=Pk l hp h1 (q p hp)
theorem Kf(i j:Int):iM (.int i) (.int j)=decide (i=j):=Enc.eqv i j
theorem uF(l m:Po):gi (l++m)=gi l++gi m:=eY _ _
theorem Hl{l:Po}{k:Int}(h:k∈(gi l).map (·.1)):k∈l.map (·.1):=(lu _ kj).subset h
theorem S9{l pre post:Po}{p:Int×Int}(h:ND l)(e:l=pre++p :: post):p.1∉pre.map (·.1):=by
 subst e;unfold ND at h;rw [aQ,aj,eL] at h;intro z;exact h.2.2 _ z _ (by simp) rfl
theorem Hj{l pre post:Po}{p:Int×Int}(h:ND l)(e:l=pre++p :: post)(hz:p.2≠0):eV (gi pre) p.1 p.2=gi (pre++[p]):=by
 rw [k8 fun z=>S9 h e (Hl z),uF];congr 1;simp [gi,hz]
theorem Hk{pre:Po}{p:Int×Int}(hz:p.2=0):gi (pre++[p])=gi pre:=by
 rw [uF]; simp [gi,hz]
theorem u6(i:Int):(enc i:D)=.int i:=rfl
noncomputable def dj:nQ:=fun ds G Q _=>∃ (d:D) (l:Po),ds=[d]/\Pl G d l/\l.length<=SZ/\gL G (.gP (bF (gi l))) Q
noncomputable def mI:iF :=
 (cG (bL pI (aN 1))
 (cG (fb (jz (ax 0)) (jI (dJ (aN 2) (dJ (aN 3) jA))) (kZ (kE (bD (K9 true) (ax 3) (dC (.int 0)))) (bL (ax 3) (kW (ax 1) (ax 2))) gK))
 (c7 (c8 (ax 1)))))
theorem tT(ds:List D)(G:Gp)(Q:DK)(h:dj ds G Q fun _ _=>False):mI (fun _ _=>False) (ends Q) (bE 4 ds) G:=by
 obtain⟨d,l,rfl,hd,hl,q⟩:=h;unfold mI;simp only [ends,bE,aj,bq,ak,aF,bg,aB,aU,cU,bL,pI,aN,ar,ao];intro p hp;refine fU (fun τ G'=>(∃ a b,τ=[some d,some (.ref p),a,b])/\fB G G'/\G' p=some (.gP (bF (gi l)))) ?_ ?_
 ·intro N hN;simp only [fb,jz,ax,aa];refine kU hd.is (.new hp) fun ok cL=>?_;refine dM (xs:=l) (fun pre τ G'=>(∃ a b,τ=[some d,some (.ref p),a,b])/\fB G G'/\G' p=some (.gP (bF (gi pre)))) ⟨⟨_,_,rfl⟩,.new hp,aA⟩ (fun pre τ G' h=>cL G' h.2.1) ?_ ?_
  ·rintro pre x post τ G' N2 e ⟨⟨a,b,rfl⟩,le,gp⟩ nj;have hlen:(gi pre).length < SZ:=by
    have:=vP pre;have:=congrArg di e;rw [au,ak] at this; lia
   simp only [jI,dJ,aN,jA,ar,ao];refine⟨_,_,.int _,.int _,?_⟩;simp only [Kf,if_true,bL,ax,ae,aa,kW,gK];by_cases hz:x.2=0
   ·simp only [hz,decide_true,cb];exact nj _ _ ⟨⟨_,_,rfl⟩,le,by rw [Hk hz]; exact gp⟩
   ·simp only [hz,decide_false,eX];refine ie (α:=Int) gp hlen ?_;exact nj _ _ ⟨⟨_,_,rfl⟩,le.put hp,by rw [aA,<-Hj hd.nd e hz]⟩
  ·rintro τ G' ⟨⟨a,b,rfl⟩,le,gp⟩;exact hN _ _ ⟨⟨_,_,rfl⟩,le,gp⟩
 ·rintro _ G' ⟨⟨a,b,rfl⟩,le,gp⟩;simp only [c7,c8,ax,ae,aa];exact vb le hp gp q
theorem Ta{G:Gp}{d:D}{l:Po}{i:Int}{Q:DK}(h:zS G d l)(k:Q (.int (c0 l i)) G):Ln d [.int i,.int 0] G Q:=RP (α:=Int) (e:=0) h k
theorem kM{α:Type}{l pre post:List α}{x:α}(e:l=pre++x :: post):pre.length < l.length:=by
 have:=congrArg di e;rw [au,ak] at this; lia
noncomputable def kR:nQ:=fun ds G Q _=>∃ (d e:D) (l m:Po),ds=[d,e]/\Pl G d l/\Pl G e m/\l.length+m.length<=SZ/\gL G (.gP (bF (xh l m))) Q
noncomputable def Eg:iF :=
 (cG (bL (wm Kn (av (ax 0) a8)) (aN 2))
 (cG (fb (jz (ax 1)) (jI (dJ (aN 3) (dJ (aN 4) jA))) (bL (bD i7 (t8 Q0 Ln (ax 2) (av (ax 3) (av (dC (.int 0)) a8))) (ax 4)) (kW (ax 2) (ax 3))))
 (c7 (c8 (bH dj (av (c8 (ax 2)) a8))))))
theorem Qk(ds:List D)(G:Gp)(Q:DK)(h:kR ds G Q fun _ _=>False):Eg (fun _ _=>False) (ends Q) (bE 5 ds) G:=by
 obtain⟨d,e,l,m,rfl,hd,he,hl,q⟩:=h;unfold Eg;simp only [ends,bE,aj,bq,ak,aF,bg,aB,aU,cU,bL,wm,av,ax,aa,a8,aN,ar,ao];refine Qa hd.is.p (by lia) fun p hp=>?_;refine fU (fun τ G'=>(∃ a b,τ=[some d,some e,some (.ref p),a,b])/\fB G G'/\G' p=some (.gP (bF (sS l m)))) ?_ ?_
 ·intro N hN;simp only [fb,jz,ax,ae,aa];refine kU he.is (.new hp) fun ok cL=>?_;refine dM (xs:=m) (fun pre τ G'=>(∃ a b,τ=[some d,some e,some (.ref p),a,b])/\fB G G'/\G' p=some (.gP (bF (sS l pre)))) ⟨⟨_,_,rfl⟩,.new hp,aA⟩ (fun pre τ G' h=>cL G' h.2.1) ?_ ?_
  ·rintro pre x post τ G' N2 e2 ⟨⟨a,b,rfl⟩,le,gp⟩ nj;have hlen:(sS l pre).length < SZ:=by
    have:=A6 l pre;have:=kM e2; lia
   simp only [jI,dJ,aN,jA,bL,bD,t8,ax,ar,ao,ae,aa,pb,av,dC,a8,kW];refine⟨Na (zS.ref gp),Ta (zS.ref gp) ?_⟩;simp only [u6,dQ];refine ie (α:=Int) gp hlen ?_;refine nj _ _ ⟨⟨_,_,rfl⟩,le.put hp,?_⟩;rw [aA];unfold sS plus;rw [l0]; rfl
  ·rintro τ G' ⟨⟨a,b,rfl⟩,le,gp⟩;exact hN _ _ ⟨⟨_,_,rfl⟩,le,gp⟩
 ·rintro _ G' ⟨⟨a,b,rfl⟩,le,gp⟩;simp only [c7,c8,bH,av,ax,ae,aa,a8];refine ja le hp gp ?_;refine⟨_,sS l m,rfl,⟨rfl,Eu hd.nd⟩,by have:=A6 l m; lia,fun p2 sD=>?_⟩;exact vb (.new sD) sD aA q
noncomputable def gY:nQ:=fun ds G Q _=>∃ (d:D) (l:Po) (b f:Int),ds=[d,.int b,.int f]/\Pl G d l/\l.length<=SZ/\(fP l < sF/\f.natAbs < sF)/\gL G (.gP (bF (lz l b f))) Q
noncomputable def yr:iF :=
 (cG (bL pI (aN 3))
 (cG (fb (jz (ax 0)) (jI (dJ (aN 4) (dJ (aN 5) jA))) (bL (bD Jv (ax 5) (ax 2)) (kW (ax 3) (bD i7 (ax 4) (ax 1)))))
 (c7 (c8 (bH dj (av (c8 (ax 3)) a8))))))
noncomputable def Ny(b f:Int)(l:Po):Po:=l.map fun p=>(p.1+b,p.2 * f)
theorem GY{l pre post:Po}{p:Int×Int}(b f:Int)(h:ND l)(e:l=pre++p :: post):eV (Ny b f pre) (p.1+b) (p.2 * f)=Ny b f (pre++[p]):=by
 rw [k8,Ny,Ny,aQ]; rfl;intro z;unfold Ny at z;rw [aW] at z;obtain⟨r,hr,er⟩:=List.mem_map.mp z;have:r.1=p.1:=by have:r.1+b=p.1+b:=er; lia
 exact S9 h e (this ▸ bC hr)
theorem IK(ds:List D)(G:Gp)(Q:DK)(h:gY ds G Q fun _ _=>False):yr (fun _ _=>False) (ends Q) (bE 6 ds) G:=by
 obtain⟨d,l,b,f,rfl,hd,hl,⟨hb,hf⟩,q⟩:=h;unfold yr;simp only [ends,bE,aj,bq,ak,aF,bg,aB,aU,cU,bL,pI,aN,ar,ao];intro p hp;refine fU (fun τ G'=>(∃ u v,τ=[some d,some (.int b),some (.int f),some (.ref p),u,v])/\fB G G'/\G' p=some (.gP (bF (Ny b f l)))) ?_ ?_
 ·intro N hN;simp only [fb,jz,ax,aa];refine kU hd.is (.new hp) fun ok cL=>?_;refine dM (xs:=l) (fun pre τ G'=>(∃ u v,τ=[some d,some (.int b),some (.int f),some (.ref p),u,v])/\fB G G'/\G' p=some (.gP (bF (Ny b f pre)))) ⟨⟨_,_,rfl⟩,.new hp,aA⟩ (fun pre τ G' h=>cL G' h.2.1) ?_ ?_
  ·rintro pre x post τ G' N2 e ⟨⟨u,v,rfl⟩,le,gp⟩ nj;have hlen:(Ny b f pre).length < SZ:=by
    have:=kM e;unfold Ny; rw [aq]; lia
   have hx:x.2.natAbs < sF:=gM (Cf (by rw [e]; simp)) hb;simp only [jI,dJ,aN,jA,bL,bD,ax,ar,ao,u6,ae,aa,kW,dQ,me];refine⟨⟨hx,hf⟩,?_⟩;refine ie (α:=Int) gp hlen ?_;exact nj _ _ ⟨⟨_,_,rfl⟩,le.put hp,by rw [aA,<-GY b f hd.nd e]⟩
  ·rintro τ G' ⟨⟨u,v,rfl⟩,le,gp⟩;exact hN _ _ ⟨⟨_,_,rfl⟩,le,gp⟩
 ·rintro _ G' ⟨⟨u,v,rfl⟩,le,gp⟩;simp only [c7,c8,bH,av,ax,ae,aa,a8];refine ja le hp gp ?_;refine⟨_,Ny b f l,rfl,⟨rfl,DZ hd.nd b f⟩,by unfold Ny; rw [aq]; exact hl,fun p2 sD=>?_⟩;exact vb (.new sD) sD aA q
noncomputable def jd:nQ:=fun ds G Q _=>∃ (d e:D) (l m:Po),ds=[d,e]/\Pl G d l/\Pl G e m/\l.length * m.length<=SZ/\(fP l < sF/\fP m < sF)/\gL G (.gP (bF (i8 l m))) Q
noncomputable def Ef:iF :=
 (cG (bL pI (aN 2))
 (cG (fb (jz (ax 0)) (jI (dJ (aN 3) (dJ (aN 4) jA))) (fb (jz (ax 1)) (jI (dJ (aN 5) (dJ (aN 6) jA))) (cG (bL (bD i7 (ax 3) (ax 5)) (aN 7))
 (bL (bD i7 (t8 Q0 Ln (ax 2) (av (ax 7) (av (dC (.int 0)) a8))) (bD Jv (ax 4) (ax 6))) (kW (ax 2) (ax 7))))))
 (c7 (c8 (bH dj (av (c8 (ax 2)) a8))))))
theorem RM{l pre post:Po}{x:Int×Int}{m mp mq:Po}{y:Int×Int}(e:l=pre++x :: post)(e2:m=mp++y :: mq)(a:Po)(ha:a.length<=pre.length * m.length):(oI mp a x).length < l.length * m.length:=by
 have h1:=En mp a x;have h2:=kM e;have h3:=kM e2;have h4:(pre.length+1) * m.length<=l.length * m.length:=jS _ h2;rw [Nat.succ_mul] at h4;lia
theorem LR(m:Po):∀ (l:Po),(l.foldl (oI m) []).length<=l.length * m.length:=fun l=>qP l m
theorem Qj(ds:List D)(G:Gp)(Q:DK)(h:jd ds G Q fun _ _=>False):Ef (fun _ _=>False) (ends Q) (bE 8 ds) G:=by
 obtain⟨d,e,l,m,rfl,hd,he,hl,⟨hb,hf⟩,q⟩:=h;unfold Ef;simp only [ends,bE,aj,bq,ak,aF,bg,aB,aU,cU,bL,pI,aN,ar,ao];intro p hp;refine fU (fun τ G'=>(∃ a1 a2 a3 a4 a5,τ=[some d,some e,some (.ref p),a1,a2,a3,a4,a5])/\fB G G'/\G' p=some (.gP (bF (nI l m)))) ?_ ?_
 ·intro N hN;simp only [fb,jz,ax,aa];refine kU hd.is (.new hp) fun ok cL=>?_;refine dM (xs:=l) (fun pre τ G'=>(∃ a1 a2 a3 a4 a5,τ=[some d,some e,some (.ref p),a1,a2,a3,a4,a5])/\fB G G'/\G' p=some (.gP (bF (pre.foldl (oI m) [])))) ⟨⟨_,_,_,_,_,rfl⟩,.new hp,aA⟩ (fun pre τ G' h=>cL G' h.2.1) ?_ ?_
  ·rintro pre x post τ G' N2 e1 ⟨⟨a1,a2,a3,a4,a5,rfl⟩,le,gp⟩ nj;have hx:x.2.natAbs < sF:=gM (Cf (by rw [e1]; simp)) hb;simp only [jI,dJ,aN,jA,fb,jz,ax,ar,ao,u6,ae,aa];refine kU he.is le fun RI aap=>?_;refine dM (xs:=m) (fun mp τ G'=>(∃ a3 a4 a5,τ=[some d,some e,some (.ref p),some (.int x.1),some (.int x.2),a3,a4,a5])/\fB G G'/\G' p=some (.gP (bF (oI mp (pre.foldl (oI m) []) x)))) ⟨⟨_,_,_,rfl⟩,le,gp⟩ (fun pre τ G' h=>aap G' h.2.1) ?_ ?_
   ·rintro mp y mq τ G2 N3 e2 ⟨⟨b3,b4,b5,rfl⟩,QE,MD⟩ HQ;have hlen:=bR (RM e1 e2 (pre.foldl (oI m) []) (LR m pre)) hl;have hy:y.2.natAbs < sF:=gM (Cf (by rw [e2]; simp)) hf;simp only [jI,dJ,aN,jA,ar,ao,u6,cU,bL,bD,ax,ae,aa,t8,pb,av,dC,a8,kW,me,dQ];refine⟨Na (zS.ref MD),Ta (zS.ref MD) ?_⟩;simp only [dQ];refine⟨⟨hx,hy⟩,?_⟩;refine ie (α:=Int) MD hlen ?_;refine HQ _ _ ⟨⟨_,_,_,rfl⟩,QE.put hp,?_⟩;rw [aA]
    conv=>rhs; rw [oI,l0]
    rfl
   ·rintro τ G2 ⟨⟨b3,b4,b5,rfl⟩,QE,MD⟩;refine nj _ _ ⟨⟨_,_,_,_,_,rfl⟩,QE,?_⟩;rw [MD,l0]; rfl
  ·rintro τ G' ⟨⟨a1,a2,a3,a4,a5,rfl⟩,le,gp⟩;exact hN _ _ ⟨⟨_,_,_,_,_,rfl⟩,le,gp⟩
 ·rintro _ G' ⟨⟨a1,a2,a3,a4,a5,rfl⟩,le,gp⟩;simp only [c7,c8,bH,av,ax,ae,aa,a8];refine ja le hp gp ?_;refine⟨_,nI l m,rfl,⟨rfl,yE l m⟩,bu (qP l m) hl,fun p2 sD=>?_⟩;exact vb (.new sD) sD aA q
noncomputable def ic:nQ:=fun ds G Q _=>∃ (d:D) (l:Po) (n:Nat),ds=[d,.int n]/\Pl G d l/\(n<=1000/\∀ k,k < n->l.length ^ k * l.length<=SZ/\fP l ^ k < sF)/\fP l < sF/\gL G (.gP (bF (dG l n))) Q
noncomputable def A1:iF :=
 (cG (bL (zy (dC (.int 0)) (dC (.int 1))) (aN 2))
 (cG (fb (y9 (ax 1)) (aN 3) (bL (bH jd (av (c8 (ax 2)) (av (c8 (ax 0)) a8))) (aN 2)))
 (c7 (c8 (ax 2)))))
theorem Mg(ds:List D)(G:Gp)(Q:DK)(h:ic ds G Q fun _ _=>False):A1 (fun _ _=>False) (ends Q) (bE 4 ds) G:=by
 obtain⟨d,l,n,rfl,hd,⟨hn,hk⟩,hb,q⟩:=h;unfold A1;simp only [ends,bE,aj,bq,ak,aF,bg,aB,aU,cU,bL,zy,dC,aN,ar,ao];refine⟨rfl,fun p0 Tx=>?_⟩;refine fU (fun τ G'=>(∃ a p,τ=[some d,some (.int n),some (.ref p),a]/\G p=none/\G' p=some (.gP (bF (dG l n))))/\fB G G') ?_ ?_
 ·intro N hN;simp only [fb,j5,ax,ae,aa,iO];refine⟨by lia,by lia,?_⟩;rw [eN];refine Vq (fun pre τ G'=>(∃ a p,τ=[some d,some (.int n),some (.ref p),a]/\G p=none/\G' p=some (.gP (bF (dG l pre.length))))/\fB G G') ⟨⟨_,p0,rfl,Tx,aA⟩,.new Tx⟩ (fun _ _ _ _=>trivial) ?_ ?_
  ·rintro pre x post τ G' N2 e1 ⟨⟨a,p,rfl,hp,gp⟩,le⟩ nj;obtain⟨rfl,za⟩:=Hb e1;obtain⟨h1,h2⟩:=hk pre.length za;simp only [aN,bL,bH,av,c8,ax,ar,ao,ae,aa,a8];refine ja le hp gp (dh ?_);refine⟨_,d,dG l pre.length,l,rfl,⟨rfl,vM _ _⟩,hd,bu (jS _ (tf l _)) h1,⟨gM (pC l _) h2,hb⟩,fun p2 sD=>?_⟩;refine nj _ _ ⟨⟨_,p2,rfl,sD,?_⟩,.new sD⟩;rw [aA,au]; rfl
  ·rintro τ G' ⟨⟨a,p,rfl,hp,gp⟩,le⟩;rw [show (gH 0 n).length=n by simp [gH]] at gp;exact hN _ _ ⟨⟨_,p,rfl,hp,gp⟩,le⟩
 ·rintro _ G' ⟨⟨a,p,rfl,hp,gp⟩,le⟩;simp only [c7,c8,ax,ae,aa];exact vb le hp gp q
end Y
end K2
end
section
namespace K2
open PySem (Str)
open Enc (enc)
namespace JB
open K2.P K2.J
noncomputable def A3:iF :=
 (cG (kZ (kE (bD (K9 false) (ax 1) (dC (.int 0)))) (c7 (c8 (gR (av (gQ (av (gQ (av (ax 0) (av (dC (.int 0)) (av (dC (.int 0)) a8)))) (av (gQ (av (ax 0) (av (dC (.int 1)) (av (dC (.int 1)) a8)))) a8))) (av (gQ (av (gQ (av (ax 0) (av (dC (.int 1)) (av (dC (.int 0)) a8)))) (av (gQ (av (ax 0) (av (dC (.int 0)) (av (dC (.int 1)) a8)))) a8))) a8))))) gK)
 (c7 (c8 (gR (av (gQ (av (gQ (av (ax 0) (av (dC (.int 0)) (av (dC (.int 0)) a8)))) (av (gQ (av (ax 0) (av (dC (.int 1)) (av (dC (.int 0)) a8)))) a8))) (av (gQ (av (gQ (av (ax 0) (av (dC (.int 0)) (av (dC (.int 1)) a8)))) (av (gQ (av (ax 0) (av (dC (.int 1)) (av (dC (.int 1)) a8)))) a8))) a8))))))
noncomputable def wI(w:Bool):Int:=if w=true then 1 else 0
noncomputable def rH:nQ:=fun ds G Q _=>∃ (n:Int) (w:Bool),ds=[.int n,.int (wI w)]/\Q (enc (js n w)) G
theorem Mi(ds:List D)(G:Gp)(Q:DK)(h:rH ds G Q fun _ _=>False):A3 (fun _ _=>False) (ends Q) (bE 2 ds) G:=by
 obtain⟨n,w,rfl,q⟩:=h;unfold A3;simp only [cG,kZ,bE,aj,bq,ak,aF,aB,aU,c7,c8,gR,av,gQ,ax,aa,dC,a8,ends,gK,fe,bD,ae];refine⟨_,_,.int _,.int _,?_⟩;simp only [aw,mV,if_false,cZ];cases w with
 | false =>
  simp only [wI,aw,if_false,beq_self_eq_true,if_true];refine⟨by decide,by decide,by decide,by decide,by decide,by decide,by decide,fun p hp=>?_⟩;exact iq (xs:=js n false) (.new hp) hp aA q
 | true =>
  simp only [wI,if_true,show ((1:Int) == 0)=false from rfl,aw,if_false];refine⟨by decide,by decide,by decide,by decide,by decide,by decide,by decide,fun p hp=>?_⟩;exact iq (xs:=js n true) (.new hp) hp aA q
noncomputable def wK:iF :=
 (c7 (c8 (dIf (kE (bD (K9 false) (ax 1) (dC (.int 0)))) (ax 0) (QJ NN (ax 0)))))
noncomputable def pw(h:Int)(w:Bool):Int:=if w=true then -h else h
noncomputable def nF:nQ:=fun ds G Q _=>∃ (h:Int) (w:Bool),ds=[.int h,.int (wI w)]/\Q (.int (pw h w)) G
theorem FO(ds:List D)(G:Gp)(Q:DK)(h:nF ds G Q fun _ _=>False):wK (fun _ _=>False) (ends Q) (bE 2 ds) G:=by
 obtain⟨n,w,rfl,q⟩:=h;unfold wK;simp only [c7,c8,dIf,bE,aj,bq,ak,aF,aB,aU,ax,aa,ends,QJ,oF,fe,bD,ae,dC];refine⟨_,_,.int _,.int _,?_⟩;simp only [aw,mV,if_false,cZ];cases w with
 | false =>
  simp only [wI,aw,if_false,beq_self_eq_true,if_true];exact dh q
 | true =>
  simp only [wI,if_true,show ((1:Int) == 0)=false from rfl,aw,if_false];exact dh q
theorem Xa:∀ (x y:List Int),tx (fun a b=>decide (a < b)) x y=lexLt x y
 | [],[]=>rfl
 | [],_ :: _=>rfl
 | _ :: _,[]=>rfl
 | a :: x,b :: y=>by rw [vV,Xa x y]; rfl
theorem lt3(p q:T3):lexLt p.l q.l=bt.lt p q:=(Xa _ _).symm
noncomputable def yt:iF :=
 (c7 (c8 (wm Sr (av (wm vi (av (gW 1 [0] (uV (ax 0)) (aN 0) (some (kE (bD Yj (ax 0) (bD mf (ax 1) (ax 0))))) (gQ (av (ax 0) (av (bD mf (ax 1) (ax 0)) a8)))) a8)) a8))))
noncomputable def kn:nQ:=fun ds G Q _=>∃ (l:List (T3×T3)),ds=[.kJ (bF l)]/\((l.map (·.1)).Nodup/\l.length < 64)/\Q (pP (nZ (Lg l))) G
theorem IL(ds:List D)(G:Gp)(Q:DK)(h:kn ds G Q fun _ _=>False):yt (fun _ _=>False) (ends Q) (bE 1 ds) G:=by
 obtain⟨l,rfl,⟨nd,hl⟩,q⟩:=h;unfold yt;simp only [c7,c8,wm,av,gW,uV,ax,bE,aj,bq,ak,aF,aB,aU,aa,a8,ends];show _/\_;have ek:((bF l).map fun p=>p.1)=l.map fun p=>enc p.1:=by unfold bF; rw [aW]; rfl
 refine⟨Dt (by unfold bF; rw [aq,aq]; lia),?_⟩;rw [ek];refine k6 (xs:=l) (f:=fun p=>enc p.1) (fun pre acc τ G'=>G=G'/\(∃ a,τ=[a,some (.kJ (bF l))])/\acc=(pre.filter fun p=>bt.lt p.1 p.2).map enc) ⟨rfl,⟨_,rfl⟩,rfl⟩ (fun _ _ _ _ _=>trivial) ?_ ?_
 ·rintro pre x post acc τ G' N e ⟨rfl,⟨a,rfl⟩,rfl⟩ hN;have hx:cM l x.1=some x.2:=yS nd (by rw [e]; simp);simp only [aN,ao,gQ,av,ax,aa,bD,ae,a8,ak,aF,xF,uM,hx,tX,fe];refine⟨mP _ _,?_⟩;show ∃ xs ys,_;refine⟨x.1.l,x.2.l,rfl,rfl,?_⟩;simp only [lt3,cZ];split
  ·rename_i za;refine⟨mP _ _,by decide,hN _ _ _ ⟨rfl,⟨_,rfl⟩,?_⟩⟩;simp only [eY,bX,za,if_true,vt,aQ]; rfl
  ·rename_i za;refine hN _ _ _ ⟨rfl,⟨_,rfl⟩,?_⟩;simp only [eY,bX,za,if_false,vt,bN,aw]
 ·rintro acc τ G' ⟨rfl,⟨a,rfl⟩,rfl⟩ p hp;refine zF (IsL.ref aA) (gM (dF _ _) hl) fun p2 sD=>?_;unfold Sr;simp only [oO (IsL.ref aA)];rw [NY] at q;exact uZ ((fB.new hp).trans (.new sD)) q
theorem LI{G G2:Gp}{d:D}{ds:List D}{R:List D->(Gp->Prop)->Gp->Prop}(h:itemsOf d G=some ds)(l:fB G G2)(k:∀ ok:Gp->Prop,(∀ G',fB G G'->ok G')->R ds ok G2):QG d G2 R:=by
 cases d with
 | tup xs=>cases h; exact k _ fun _ _=>trivial
 | dP xs=>cases h; exact k _ fun _ _=>trivial
 | ref a =>
  unfold itemsOf at h;dsimp only at h;split at h
  ·rename_i xs ha;cases h;rw [JY (l _ _ ha)];exact k _ fun G' le=>le _ _ ha
  ·cases h
 | _=>cases h
noncomputable def wO:iF :=
 (cG (bL pI (aN 1))
 (cG (fb (mR (ax 0)) (jI (dJ (aN 2) (dJ (aN 3) jA))) (cG (bL (ax 3) (kW (ax 1) (ax 2)))
 (bL (ax 2) (kW (ax 1) (ax 3)))))
 (c7 (c8 (ax 1)))))
noncomputable def jC:nQ:=fun ds G Q _=>∃ (d:D) (P:Pr T3),ds=[d]/\itemsOf d G=some (P.map enc)/\P.length<=200/\gL G (.gP (bF (Ie P))) Q
theorem Pz(P:Pr T3)(p:T3×T3):Ie (P++[p])=eV (eV (Ie P) p.1 p.2) p.2 p.1:=by unfold Ie; rw [l0]; rfl
theorem FR(ds:List D)(G:Gp)(Q:DK)(h:jC ds G Q fun _ _=>False):wO (fun _ _=>False) (ends Q) (bE 4 ds) G:=by
 obtain⟨d,P,rfl,hi,hl,q⟩:=h;unfold wO;simp only [ends,bE,aj,bq,ak,aF,bg,aB,aU,cU,bL,pI,gL,aN,ar,ao];intro p hp;refine fU (fun τ G'=>(∃ a b,τ=[some d,some (.ref p),a,b])/\fB G G'/\G' p=some (.gP (bF (Ie P)))) ?_ ?_
 ·intro N hN;simp only [fb,eW,ax,aa];refine LI hi (.new hp) fun ok cL=>?_;refine dM (xs:=P) (fun pre τ G'=>(∃ a b,τ=[some d,some (.ref p),a,b])/\fB G G'/\G' p=some (.gP (bF (Ie pre)))) ⟨⟨_,_,rfl⟩,.new hp,aA⟩ (fun pre τ G' h=>cL G' h.2.1) ?_ ?_
  ·rintro pre x post τ G' N2 e ⟨⟨a,b,rfl⟩,le,gp⟩ nj;have hlen:=Kb pre;have z8:pre.length < P.length:=by rw [e]; simp
   have e0:(enc x:D)=.tup [enc x.1,enc x.2]:=rfl;simp only [jI,e0,dJ,aN,jA,ar,ao,cU,bL,ax,ae,aa,kW];refine K2.P.ie (k:=x.1) (v:=x.2) gp (by lia) ?_;have ab6:=rn (Ie pre) x.1 x.2;refine K2.P.ie (k:=x.2) (v:=x.1) aA (by lia) ?_;refine nj _ _ ⟨⟨_,_,rfl⟩,(le.put hp).put hp,?_⟩;rw [aA,Pz]
  ·rintro τ G' ⟨⟨a,b,rfl⟩,le,gp⟩;exact hN _ _ ⟨⟨_,_,rfl⟩,le,gp⟩
 ·rintro _ G' ⟨⟨a,b,rfl⟩,le,gp⟩;simp only [c7,c8,ax,ae,aa];exact Pk le hp gp (q p hp)
noncomputable def Qz(l:List (T2×T2)):Pr T3:=l.map fun p=>(⟨p.1.a,p.1.b,1⟩,⟨p.2.a,p.2.b,0⟩)
theorem Vs(P:Pr T3):((Ie P).map (·.1)).Nodup:=by
 have:∀ (P:Pr T3) (l:List (T3×T3)),(l.map (·.1)).Nodup->((P.foldl (fun l p=>eV (eV l p.1 p.2) p.2 p.1) l).map (·.1)).Nodup:=by
  intro P;induction P with
  | nil=>intro l h; exact h
  | cons p P ih=>intro l h; exact ih _ (pM (pM h))
 exact this P [] cH
noncomputable def sQ:iF :=
 (cG (bL (gW 2 [] (Ct (bH mD (av (ax 0) a8))) (jI (dJ (aN 0) (dJ (aN 1) jA))) none (gQ (av (bD i7 (ax 0) (gQ (av (dC (.int 1)) a8))) (av (bD i7 (ax 1) (gQ (av (dC (.int 0)) a8))) a8)))) (aN 1))
 (c7 (c8 (bH kn (av (c8 (bH jC (av (ax 1) a8))) a8)))))
noncomputable def kH:nQ:=fun ds G Q _=>∃ rows:Rows,ds=[enc rows]/\rows.flatten.length<=24/\Q (pP (nZ (Lg (Ie (Qz (mM (pairsOf rows))))))) G
theorem AM(ds:List D)(G:Gp)(Q:DK)(h:kH ds G Q fun _ _=>False):sQ (fun _ _=>False) (ends Q) (bE 2 ds) G:=by
 obtain⟨rows,rfl,hl,q⟩:=h;have l1:=A8 (pairsOf rows);have l2:=pairs_len rows;unfold sQ;simp only [ends,bE,aj,bq,ak,aF,bg,aB,aU,cU,bL,gW,Ct,bH,av,ax,aa,a8,aN,c7,c8,ar,ao,ae];refine⟨rows,rfl,by lia,?_⟩;generalize hn:mM (pairsOf rows)=l at q l1;have hk:(((bF l).all fun p=>kC p.1)=true):=by
  unfold bF; rw [mZ,iK]; intro p _; rfl
 refine⟨hk,?_⟩;have em:((bF l).map fun p=>D.tup [p.1,p.2])=l.map fun p=>D.tup [enc p.1,enc p.2]:=by unfold bF; rw [aW]; rfl
 rw [em];refine⟨Dt (by rw [aq]; lia),?_⟩;refine k6 (xs:=l) (f:=fun p=>D.tup [enc p.1,enc p.2]) (fun pre acc τ G'=>G=G'/\(∃ a b,τ=[a,b])/\acc=(Qz pre).map enc) ⟨rfl,⟨_,_,rfl⟩,rfl⟩ (fun _ _ _ _ _=>trivial) ?_ ?_
 ·rintro pre x post acc τ G' N e ⟨rfl,⟨a,b,rfl⟩,rfl⟩ hN;simp only [jI,dJ,aN,jA,gQ,av,bD,ax,Vv,ao,ar,aa,dC,a8,ak,aF,ae,qO,aB,aU];refine⟨by decide,by simp,by decide,by decide,by simp,by decide,by decide,hN _ _ _ ⟨rfl,⟨_,_,rfl⟩,?_⟩⟩;unfold Qz;rw [aQ,aQ]; rfl
 ·rintro acc τ G' ⟨rfl,⟨a,b,rfl⟩,rfl⟩ p hp;have lt:(Qz l).length<=24:=by unfold Qz; rw [aq]; lia
  refine⟨.ref p,Qz l,rfl,pG (IsL.ref aA),by lia,fun p2 sD=>?_⟩;refine ja ((fB.new hp).trans (.new sD)) ((fB.new hp).free sD) aA ?_;have lf:=Kb (Qz l);exact⟨Ie (Qz l),rfl,⟨Vs _,by lia⟩,dh q⟩
end JB
end K2
end
section
namespace K2
open PySem (Str)
open Enc (enc)
namespace JB
open K2.P K2.J
open K2.Y (Po L ND NZ fP xh i8 lz dG gY jd ic kR Pl)
theorem R6(l:List (T3×T3))(k:T3):((bF l).filter fun p=>!iM p.1 (enc k))=bF (CO l k):=by
 unfold bF CO;rw [FY];congr 1;refine List.filter_congr fun p _=>?_;show (!iM (enc p.1) (enc k))=_;rw [Enc.eqv]; simp
theorem JC{G:Gp}{a:Nat}{l:List (T3×T3)}{k v:T3}{Q:DK}(h:G a=some (.gP (bF l)))(e:cM l k=some v)(q:Q (enc v) (dO G a (.gP (bF (CO l k))))):EL (.ref a) [enc k] G Q:=by
 refine⟨bF l,enc v,h,⟨rfl,?_,by rw [uM,e]; rfl⟩,by rw [R6]; exact q⟩;unfold bF; rw [mZ,iK]; intro p _; rfl
theorem U9{α:Type} [DecidableEq α]{f:α->α}(h:Iv f){x y e:α}(he:f e=e):jn f x y e=e:=by
 have h1:=h x;have h2:=h y;unfold jn
 grind
theorem uS{f:T3->T3}:∀ {ps:Pr T3},Ok f ps->∀ {e:T3},f e=e->gC f ps e=e:=by
 intro ps;induction ps generalizing f with
 | nil=>intro o e h; exact h
 | cons p ps ih=>intro o e h; exact ih o.tl (U9 o.iv h)
theorem sub_len'{α:Type} [DecidableEq α]:∀ (xs ys:List α),xs.Nodup->(∀ x∈xs,x∈ys)->xs.length<=ys.length
 | [],_,_,_=>cC _
 | x :: xs,ys,hn,h=>by
  rw [aP] at hn;have:=sub_len' xs (ys.erase x) hn.2 fun y hy=>(QR (show y≠x from fun z=>hn.1 (by rw [<-z]; exact hy))).mpr (h y (aE _ hy));have hx:=h x (by simp);rw [KH hx] at this;have:=MV hx;rw [ak]; lia
theorem Ke{l:List (T3×T3)}{f:T3->T3}(h:Kv l f){E:List T3}(hE:∀ e,f e≠e->e∈E):l.length<=E.length:=by
 have:=sub_len' (l.map fun p:T3×T3=>p.1) E h.nd fun e he=>by
  obtain⟨p,hp,rfl⟩:=List.mem_map.mp he;exact hE _ (h.mem hp).2
 simpa using this
theorem Kh(l:List (T3×T3))(k:T3):(CO l k).length<=l.length:=dF _ _
theorem FE(f:T3->T3)(ps:Pr T3)(x:T3×T3):cls f (ps++[x])=cls f ps+cl (gC f ps) x.1 x.2:=by rw [mX]; rfl
theorem EX(f:T3->T3)(ps:Pr T3)(x:T3×T3):gC f (ps++[x])=jn (gC f ps) x.1 x.2:=by rw [mQ]; rfl
noncomputable def qN:iF :=
 (cG (bL (bH jC (av (ax 0) a8)) (aN 2))
 (cG (bL (dC (.int 0)) (aN 3))
 (cG (fb (mR (ax 1)) (jI (dJ (aN 4) (dJ (aN 5) jA))) (cG (bL (t8 Q0 EL (ax 2) (av (ax 4) a8)) (aN 6))
 (cG (bL (t8 Q0 EL (ax 2) (av (ax 5) a8)) (aN 7))
 (kZ (kE (bD (K9 false) (ax 6) (ax 5))) (bL (bD i7 (ax 3) (dC (.int 1))) (aN 3)) (cG (bL (ax 7) (kW (ax 2) (ax 6)))
 (bL (ax 6) (kW (ax 2) (ax 7))))))))
 (c7 (c8 (gQ (av (bH kn (av (c8 (ax 2)) a8)) (av (ax 3) a8))))))))
noncomputable def jW:nQ:=fun ds G Q _=>∃ (P ps:Pr T3),ds=[pP (nZ P),enc ps]/\((es P).Nodup/\P.length<=24/\Ok (pt P) ps)/\∀ P':Pr T3,(es P').Nodup->pt P'=gC (pt P) ps->Q (.tup [pP (nZ P'),.int (cls (pt P) ps)]) G
theorem zP(ds:List D)(G:Gp)(Q:DK)(h:jW ds G Q fun _ _=>False):qN (fun _ _=>False) (ends Q) (bE 8 ds) G:=by
 obtain⟨P,ps,rfl,⟨nd,hl,ok⟩,q⟩:=h;unfold qN;simp only [↓cU,bL,bH,av,ax,bE,↓aj,↓NY,↓bq,↓ak,↓aF,bg,↓aB,↓aU,↓aa,a8,aN,dC,ends,↓ar,↓ao];refine⟨.tup (P.map enc),P,rfl,rfl,by lia,fun p hp=>?_⟩;simp only [↓c8,↓bE,↓ends,↓fe,↓bD,↓QJ,↓ax,↓wm,↓t8,↓av,↓a8,↓c7,↓Kj,↓jj,↓bL,↓aN,↓dC,↓gK,↓gQ,↓gR,↓pI,↓rY,↓Sb,↓PT,↓tQ,↓rg,↓xU,↓qZ,↓CW,↓j7,↓gm,↓eW,↓j5,↓bH,↓gW,↓dQ,↓qO,↓mJ,↓oH,↓oE,↓jZ,↓j0,↓oG,↓oF,↓uE,↓xE,↓xH,↓xI,↓je,↓iI,↓uA,↓uB,↓rJ,↓rj,↓vj,↓sd,↓fg,↓kT,↓nJ,↓jv,↓jU,↓pb,↓xB,↓xA,↓true_and,↓and_true,↓uX,↓uW,↓gw,↓cZ,↓iO,↓qS,↓xP,↓uT,↓aj,↓bq,↓aB,↓aU,↓aa,↓ae,↓ao,↓ar,↓ak,↓aF,↓bg,↓if_true,↓if_false,↓cb,↓eX,↓aw,↓cU,↓qF,↓kW,↓jz,↓uV,↓uC,↓me,↓zy,↓jI,↓dJ,↓jA];refine fU (fun τ G'=>∃ (l:List (T3×T3)) (a1 a2 a3 a4:Option D),τ=[some (.tup (P.map enc)),some (enc ps),some (.ref p),some (.int (cls (pt P) ps)),a1,a2,a3,a4]/\fB G G'/\G' p=some (.gP (bF l))/\Kv l (gC (pt P) ps)) ?_ ?_
 ·intro N hN;simp only [fb,↓eW,ax,↓ae,↓aa];refine iC ?_;refine dM (xs:=ps) (fun pre τ G'=>∃ (l:List (T3×T3)) (a1 a2 a3 a4:Option D),τ=[some (.tup (P.map enc)),some (enc ps),some (.ref p),some (.int (cls (pt P) pre)),a1,a2,a3,a4]/\fB G G'/\G' p=some (.gP (bF l))/\Kv l (gC (pt P) pre)) ⟨Ie P,_,_,_,_,rfl,.new hp,aA,Kc nd⟩ (fun _ _ _ _=>trivial) ?_ ?_
  ·rintro pre x post τ G' N2 e ⟨l,a1,a2,a3,a4,rfl,le,gp,fa⟩ nj;have WW:Ok (pt P) (pre++x :: post):=by rw [<-e]; exact ok
   have RI:=WW.left;obtain⟨n1,n2,n3⟩:=RI.hd;obtain⟨f1,f2,f3,f4⟩:=fa.join RI.iv n1 n2 n3;have ll:l.length<=(es P).length:=Ke fa fun e he=>(vL nd).mp fun z=>he (uS WW.pre z);rw [Ik] at ll;have e0:(enc x:D)=.tup [enc x.1,enc x.2]:=rfl;rw [e0];simp only [jI,dJ,jA,aN,ao,ar];simp only [↓cU,bL,t8,ax,↓ae,↓aa,↓pb,↓gp,av,a8,aN,↓ar,↓ao,↓true_and];refine JC gp f1 ?_;simp only [↓aA,↓true_and];refine JC aA f2 ?_;simp only [kZ,↓fe,bD,ax,↓ae,↓aa,bL,dC,↓dQ,aN,↓ar,↓ao,↓cU,kW];refine⟨_,_,Enc.sn _ _ _ (by decide),Enc.sn _ _ _ (by decide),?_⟩;simp only [↓cZ,↓aw,↓Enc.eqv,↓if_false];by_cases c:gC (pt P) pre x.1=x.2
   ·simp only [↓c,↓decide_true,↓if_true];refine nj _ _ ?_;have ec:((cls (pt P) pre+1:Nat):Int)=(cls (pt P) pre:Int)+1:=Int.natCast_add _ _;rw [FE,EX,cl,if_pos c,ec];exact⟨_,_,_,_,_,rfl,(le.put hp).put hp,aA,f3 c⟩
   ·simp only [↓c,↓decide_false,↓aw,↓if_false];have d1:=Kh l x.1;have d2:=Kh (CO l x.1) x.2;refine K2.P.ie (k:=gC (pt P) pre x.1) (v:=gC (pt P) pre x.2) aA (by lia) ?_;have d3:=rn (CO (CO l x.1) x.2) (gC (pt P) pre x.1) (gC (pt P) pre x.2);refine K2.P.ie (k:=gC (pt P) pre x.2) (v:=gC (pt P) pre x.1) aA (by lia) ?_;refine nj _ _ ?_;rw [FE,EX,cl,if_neg c,Dl];exact⟨_,_,_,_,_,rfl,(((le.put hp).put hp).put hp).put hp,aA,f4 c⟩
  ·rintro τ G' ⟨l,a1,a2,a3,a4,rfl,le,gp,fa⟩;exact hN _ _ ⟨l,_,_,_,_,rfl,le,gp,fa⟩
 ·rintro _ G' ⟨l,a1,a2,a3,a4,rfl,le,gp,fa⟩;have iv:Iv (gC (pt P) ps):=HD ok;have ll:l.length<=(es P).length:=Ke fa fun e he=>(vL nd).mp fun z=>he (uS ok z);rw [Ik] at ll;obtain⟨h1,h2⟩:=JE fa iv;simp only [c7,c8,gQ,av,bH,ax,↓ae,↓aa,a8,↓ak,↓aF];refine ja le hp gp ?_;refine⟨l,rfl,⟨fa.nd,by lia⟩,by decide,dh (q _ h1 h2)⟩
end JB
end K2
end
section
namespace K2
open PySem (Str)
open Enc (enc)
namespace JB
open K2.P K2.J
open K2.Y (Po L ND NZ fP xh i8 lz dG gY jd ic kR Pl)
noncomputable def X5(ns:List Int)(k:PK):Prop:=∃ P,k=nZ P/\(es P).Nodup/\∀ e,pt P e≠e↔∃ n∈ns,e∈kl n
structure SA(S:Su)(ns:List Int):Prop where
 MB:Mj S
 pl:∀ p∈S,X5 ns p.1
noncomputable def C7(ns:List Int):List T3:=ns.flatMap kl
theorem FN(ns:List Int):(C7 ns).length=4 * ns.length:=by
 induction ns with
 | nil=>rfl
 | cons n ns ih=>unfold C7 at *; rw [bV,au,ih,ak]; show 4+_=_; lia
theorem UI{ns:List Int}{P:Pr T3}(nd:(es P).Nodup)(h:∀ e,pt P e≠e↔∃ n∈ns,e∈kl n):P.length<=2 * ns.length:=by
 have:=sub_len' (es P) (C7 ns) nd fun e he=>by
  obtain⟨n,h1,h2⟩:=(h e).mp ((vL nd).mpr he);exact List.mem_flatMap.mpr ⟨n,h1,h2⟩
 rw [Ik,FN] at this; lia
theorem WH{ns:List Int}{P:Pr T3}(nd:(es P).Nodup)(hn:ns.Nodup)(h:∀ e,pt P e≠e↔∃ n∈ns,e∈kl n):Dm (pt P) ns:=⟨NT nd,hn,fun n hn' e he=>(h e).mpr ⟨n,hn',he⟩⟩
theorem U6{f:T3->T3}:∀ {ps:Pr T3},Ok f ps->∀ {e:T3},e∈es ps->gC f ps e=e:=by
 intro ps;induction ps generalizing f with
 | nil=>intro o e h; cases h
 | cons p ps ih =>
  intro o e h;rw [es,aO,aO] at h;rcases h with rfl | rfl | h
  ·exact uS o.tl U8
  ·exact uS o.tl U7
  ·exact ih o.tl h
theorem Ro{n:Int}{ns:List Int}{f:T3->T3}(d:Dm f (n :: ns))(h:∀ e,f e≠e↔∃ m∈n :: ns,e∈kl m)(w:Bool):∀ e,gC f (js n w) e≠e↔∃ m∈ns,e∈kl m:=by
 have ok:=d.ok w;have nn:=(List.nodup_cons.mp d.nd).1;intro e;constructor
 ·intro z;have h1:f e≠e:=fun y=>z (uS ok y);obtain⟨m,hm,he⟩:=(h e).mp h1;rcases List.mem_cons.mp hm with rfl | hm
  ·exact absurd (U6 ok ((j4 m w).mem_iff.mpr he)) z
  ·exact⟨m,hm,he⟩
 ·rintro⟨m,hm,he⟩ z;rcases JT ok z with z | z
  ·have h1:=rW ((j4 n w).mem_iff.mp z);have h2:=rW he;exact nn (by rw [<-h1,h2]; exact hm)
  ·exact(h e).mpr ⟨m,aE _ hm,he⟩ z
theorem TQ{α:Type} [DecidableEq α](f:α->α)(x y:α):cl f x y<=1:=by unfold cl; split <;> decide
theorem P2(f:T3->T3)(n:Int)(w:Bool):cls f (js n w)<=2:=by
 cases w <;> (show _+(_+0)<=2; have:=TQ f; have a:=fun f x y=>TQ (α:=T3) f x y; have h1:=a f; have h2:=a; grind)
theorem TY:ND LP:=by unfold ND LP; decide
theorem Qp:fP LP=2:=rfl
theorem pK{n:Nat}(h:n<=2 ^ 30):n < sF:=gM h (by unfold sF; exact Nat.pow_lt_pow_right (by decide) (by decide))
theorem Ei{c:Nat}(h:c<=3):c<=1000/\∀ k,k < c->LP.length ^ k * LP.length<=SZ/\fP LP ^ k < sF:=by
 refine⟨by lia,fun k hk=>?_⟩;have:k=0\/k=1\/k=2:=by lia
 rcases this with rfl | rfl | rfl
 ·exact⟨by decide,pK (by decide)⟩
 ·exact⟨by decide,pK (by decide)⟩
 ·exact⟨by decide,pK (by decide)⟩
theorem Hg{c:Nat}(h:c<=3):fP (dG LP c)<=8:=bu (Y.pC LP c) (show 2 ^ c<=2 ^ 3 from jP (by decide) h)
theorem Rn{c:Nat}(h:c<=2):(dG LP c).length<=4:=bu (Y.tf LP c) (show 2 ^ c<=2 ^ 2 from jP (by decide) h)
theorem KP{l:Po}{G:Gp}{Q:Bool->Gp->Prop}(h:Q (!l.isEmpty) G):qA (.kJ (bF l)) G Q:=by
 unfold qA Ge;dsimp only;have k:((bF l).all fun p=>eK p.1)=true:=by unfold bF; rw [mZ,iK]; intro p _; rfl
 rw [if_pos k];have:(bF l).isEmpty=l.isEmpty:=by cases l <;> rfl
 rw [this]; exact h
theorem Ov{G:Gp}{a:Nat}{A:Su}{k:PK}{Q:DK}(h:G a=some (.sE (iE A)))(q:Q (.kJ (bF ((cM A k).getD []))) G):EM (.ref a) [pP k,.kJ []] G Q:=by
 refine⟨_,k,h,rfl,?_⟩;rw [Bg];cases e:cM A k with
 | none=>rw [e] at q; exact q
 | some l=>rw [e] at q; exact q
theorem AX{G:Gp}{a:Nat}{A:Su}{k:PK}{l:Po}{Q:Gp->Prop}(h:G a=some (.sE (iE A)))(hz:A.length < SZ)(q:Q (dO G a (.sE (iE (eV A k l))))):GZ (.ref a) (pP k) (.kJ (bF l)) G Q:=by
 refine⟨_,k,h,rfl,by unfold iE; rw [aq]; exact hz,?_⟩;rw [NQ]; exact q
theorem HS{G G1:Gp}{p:Nat}{A:Su}{Q:DK}(l:fB G G1)(hp:G p=none)(h1:G1 p=some (.sE (iE A)))(q:Q (.oX (iE A)) G):Mm G1 (.ref p) Q :=
 ⟨fun a=>(G a).isNone,.oX (iE A),.sE h1 (by simp [hp]) (.same _) rfl,by rw [va l]; exact q⟩
noncomputable def term(h n:Int)(rest:List (Int×Int))(g:Fn)(f:T3->T3)(l:Po)(w:Bool):Int:=L (fun j=>Br (gC f (js n w)) rest (hZ (cls f (js n w)) (sh (pw h w) (sh j g)))) l
theorem KQ(h n:Int)(rest:List (Int×Int))(g:Fn)(f:T3->T3)(l:Po):term h n rest g f l false+term h n rest g f l true=L (fun j=>Br f ((n,h) :: rest) (sh j g)) l:=by
 unfold term;rw [<-Y.TX]; rfl
noncomputable def yf(h n:Int)(rest:List (Int×Int))(g:Fn)(f:T3->T3)(l:Po):List Bool->Int
 | []=>0
 | w :: ws=>term h n rest g f l w+yf h n rest g f l ws
theorem GR(h n:Int)(rest:List (Int×Int))(g:Fn)(f:T3->T3)(l:Po)(ws:List Bool)(w:Bool):yf h n rest g f l (ws++[w])=yf h n rest g f l ws+term h n rest g f l w:=by
 induction ws with
 | nil=>simp [yf]
 | cons v ws ih=>rw [aB,yf,yf,ih]; lia
structure MK(n h:Int)(rest:List (Int×Int))(pre:Su)(f:T3->T3)(l:Po)(ws:List Bool)(A:Su):Prop where
 ok:SA A (rest.map (·.1))
 len:A.length<=2 * pre.length+ws.length
 fP:gO A<=8 * gO pre+ws.length * (4 * fP l)
 val:∀ g,nY rest g A=nY ((n,h) :: rest) g pre+yf h n rest g f l ws
theorem MK.step{n h:Int}{rest:List (Int×Int)}{pre:Su}{f:T3->T3}{l:Po}{ws:List Bool}{A:Su}(a:MK n h rest pre f l ws A){P':Pr T3}{w:Bool}(nd:(es P').Nodup)(e:pt P'=gC f (js n w))(hp:∀ e,gC f (js n w) e≠e↔∃ m∈rest.map (·.1),e∈kl m) :
  MK n h rest pre f l (ws++[w]) (sM A (nZ P') l (cls f (js n w)) (pw h w)):=by
 refine⟨⟨Nj a.ok.MB _ _ _ _,fun p t7=>?_⟩,?_,?_,fun g=>?_⟩
 ·unfold sM eV at t7;have here:X5 (rest.map (·.1)) (nZ P'):=⟨P',rfl,nd,fun e'=>by rw [e]; exact hp e'⟩;split at t7
  ·obtain⟨q,hq,rfl⟩:=List.mem_map.mp t7;have:=a.ok.pl q hq;split <;> exact this
  ·rcases List.mem_append.mp t7 with t7 | t7
   ·exact a.ok.pl p t7
   ·rw [cy] at t7; subst t7; exact here
 ·have h1:=a.len;have h2:(sM A (nZ P') l (cls f (js n w)) (pw h w)).length<=A.length+1:=by unfold sM eV; split <;> simp
  rw [au,dg]; lia
 ·have h1:=a.fP;have h2:=Ni a.ok.MB (nZ P') l (P2 f n w) (pw h w);rw [au,dg,Nat.add_mul,Nat.one_mul]; lia
 ·rw [Nh a.ok.MB,a.val,GR,Ip,e];unfold term;lia
end JB
end K2
end
section
namespace K2
open PySem (Str)
open Enc (enc)
namespace JB
open K2.P K2.J
open K2.Y (Po L ND NZ fP xh i8 lz dG gY jd ic kR Pl)
theorem MK.zero{n h:Int}{rest:List (Int×Int)}{f:T3->T3}{l:Po}:MK n h rest [] f l [] [] :=
 ⟨⟨⟨cH,fun p hp=>by cases hp⟩,fun p hp=>by cases hp⟩,aI _,cC _,fun g=>rfl⟩
theorem MK.next{n h:Int}{rest:List (Int×Int)}{pre:Su}{x:PK×Po}{l':Po}{f':T3->T3}{A:Su}(a:MK n h rest pre (pt (dec x.1)) x.2 [false,true] A):MK n h rest (pre++[x]) f' l' [] A:=by
 refine⟨a.ok,?_,?_,fun g=>?_⟩
 ·have:=a.len;rw [au,dg]; simp at this ⊢; lia
 ·have:=a.fP;rw [yM];simp only [ak,aF,gO] at this ⊢; lia
 ·rw [a.val,Jh];show _+(term h n rest g _ x.2 false+(term h n rest g _ x.2 true+0))=_+(L _ x.2+0)+0;have:=KQ h n rest g (pt (dec x.1)) x.2;lia
theorem Oi{S pre post:Su}{x:PK×Po}(e:S=pre++x :: post):gO pre+fP x.2<=gO S:=by
 rw [e,yM,gO]; lia
theorem Bk(S:Su)(p:PK×Po):jh (S++[p])=if p.2.isEmpty=true then jh S else jh S++[p]:=by
 unfold jh;rw [eY];by_cases h:p.2.isEmpty=true
 ·rw [if_pos h,sL (by simp [h])]; simp
 ·rw [if_neg h,Mr (by simp [h])]; simp
theorem OJ{S pre post:Su}{x:PK×Po}(nd:(S.map (·.1)).Nodup)(e:S=pre++x :: post):x.1∉(jh pre).map (·.1):=by
 intro z;obtain⟨q,hq,e2⟩:=List.mem_map.mp z;have Tw:=(List.mem_filter.mp hq).1;rw [e,aQ,aj,eL] at nd;exact nd.2.2 _ (bC Tw) _ cz e2
noncomputable def uw:iF :=
 (cG (bL PY (aN 3))
 (cG (Iw 3 (fb (uU (ax 0)) (jI (dJ (aN 4) (dJ (aN 5) jA))) (fb (mR (gQ (av (dC (.int 0)) (av (dC (.int 1)) a8)))) (aN 6) (cG (bL (bH jW (av (ax 4) (av (bH rH (av (ax 1) (av (ax 6) a8))) a8))) (aN 7))
 (cG (bL (bH gY (av (c8 (bH jd (av (c8 (ax 5)) (av (c8 (bH ic (av (c8 (FA [(2,-1),(-2,-1)])) (av (c8 (bD mf (ax 7) (dC (.int 1)))) a8)))) a8)))) (av (c8 (bH nF (av (ax 2) (av (ax 6) a8)))) (av (c8 (dC (.int 1))) a8)))) (aN 8))
 (bL (c8 (bH kR (av (c8 (t8 tyP EM (ax 3) (av (c8 (bD mf (ax 7) (dC (.int 0)))) (av (c8 pI) a8)))) (av (c8 (ax 8)) a8)))) (E7 (ax 3) (bD mf (ax 7) (dC (.int 0))))))))))
 (cG (bL PY (aN 9))
 (cG (Iw 3 (fb (uU (ax 3)) (jI (dJ (aN 4) (dJ (aN 5) jA))) (kZ (kE (ax 5)) (bL (c8 (ax 5)) (E7 (ax 9) (ax 4))) gK)))
 (c7 (c8 (ax 9)))))))
noncomputable def lO:nQ:=fun ds G Q _=>∃ (S:Su) (n h:Int) (rest:List (Int×Int)),ds=[.oX (iE S),.int n,.int h]/\(SA S (n :: rest.map (·.1))/\(n :: rest.map (·.1)).Nodup/\rest.length<=11/\S.length<=1048576/\gO S<=1048576) /\
 ∀ S':Su,SA S' (rest.map (·.1))->S'.length<=gO S'->gO S'<=8 * gO S->(∀ g,nY rest g S'=nY ((n,h) :: rest) g S)->Q (.oX (iE S')) G
theorem Dg(ds:List D)(G:Gp)(Q:DK)(h:lO ds G Q fun _ _=>False):uw (fun _ _=>False) (ends Q) (bE 10 ds) G:=by
 obtain⟨S,n,h,rest,rfl,⟨so,nn,hr,hSl,hSn⟩,q⟩:=h;unfold uw;simp only [↓cU,bL,PY,gL,aN,ends,bE,↓aj,↓bq,↓ak,↓aF,bg,↓aB,↓aU,↓ar,↓ao];intro p hp;refine fU (fun τ G'=>∃ (A:Su) (a1 a2 a3 a4 a5 a6:Option D),G=G'/\τ=[some (.oX (iE S)),some (.int n),some (.int h),some (.oX (iE A)),a1,a2,a3,a4,a5,a6]/\MK n h rest S (fun e=>e) [] [] A) ?_ ?_
 ·intro N hN;simp only [Iw];simp only [fb,uU,ax,↓aa];show pW _ _ _ ((iE S).map _) _ _ _ _;have em:((iE S).map fun p=>D.tup [pP p.1,p.2])=S.map fun p=>D.tup [pP p.1,.kJ (bF p.2)]:=by unfold iE; rw [aW]; rfl
  rw [em];refine dM (xs:=S) (f:=fun p=>D.tup [pP p.1,.kJ (bF p.2)]) (fun pre τ G'=>∃ (A:Su) (a1 a2 a3 a4 a5 a6:Option D),fB G G'/\G' p=some (.sE (iE A))/\τ=[some (.oX (iE S)),some (.int n),some (.int h),some (.ref p),a1,a2,a3,a4,a5,a6]/\MK n h rest pre (fun e=>e) [] [] A)
   ⟨[],_,_,_,_,_,_,.new hp,aA,rfl,.zero⟩ (fun _ _ _ _=>trivial) ?_ ?_
  ·rintro pre x post τ G' N2 e ⟨A,a1,a2,a3,a4,a5,a6,le,gp,rfl,af⟩ nj;obtain⟨P,ek,nd,pl⟩:=so.pl x (by rw [e]; simp);have dm:=WH nd nn pl;have pll:=UI nd pl;have hx:=so.MB.2 x (by rw [e]; simp);have hnx:=Oi e;have hlx:=Ce hx.2;have HN:pre.length < S.length:=by rw [e]; simp
   have ed:dec x.1=P:=by rw [ek,Ip]
   simp only [jI,dJ,jA,aN,ao,ar];simp only [fb,↓eW,gQ,av,dC,a8,↓ak,↓aF,↓uW];refine⟨by decide,?_⟩;refine dM (xs:=[false,true]) (f:=fun w=>D.int (wI w)) (fun ws τ G'=>∃ (A:Su) (a3 a4 a5 a6:Option D),fB G G'/\G' p=some (.sE (iE A))/\τ=[some (.oX (iE S)),some (.int n),some (.int h),some (.ref p),some (pP x.1),some (.kJ (bF x.2)),a3,a4,a5,a6]/\MK n h rest pre (pt P) x.2 ws A)
    ⟨A,_,_,_,_,le,gp,rfl,⟨af.ok,af.len,by have:=af.fP; simp only [aF,Nat.zero_mul] at this ⊢; exact this,af.val⟩⟩ (fun _ _ _ _=>trivial) ?_ ?_
   ·rintro ws w wt τ G2 N3 ew ⟨B,b3,b4,b5,b6,QE,MD,rfl,bf⟩ HQ;have Wr:ws.length<=1:=by
     have:=congrArg di ew;simp at this; lia
    have hc:=P2 (pt P) n w;have bl:=bf.len;have bn:=bf.fP;have bn2:gO B<=8388608:=by
     have:ws.length * (4 * fP x.2)<=1 * (4 * fP x.2):=jS _ Wr;lia
    simp only [aN,↓cU,bL,bH,av,ax,↓ar,ek,↓ao,↓ae,↓aa,a8,c8,bD,dC,t8,pI];refine⟨n,w,rfl,?_⟩;refine⟨P,js n w,rfl,⟨nd,by simp only [ak,aq] at pll; lia,dm.ok w⟩,fun P' nd' ep=>?_⟩;have p0:MK n h rest pre (pt P) x.2 (ws++[w]) (sM B (nZ P') x.2 (cls (pt P) (js n w)) (pw h w)):=bf.step nd' ep (Ro dm pl w);simp only [↓je,VG,VH];generalize ec:cls (pt P) (js n w)=c at hc p0;have hx1:=hx.1;have l1:(dG LP c).length<=4:=Rn hc;have l2:x.2.length * (dG LP c).length<=1048576 * 4:=Nat.mul_le_mul (by lia) l1;have l3:=Y.yD x.2 (dG LP c);have l4:fP x.2 * fP (dG LP c)<=1048576 * 8:=Nat.mul_le_mul (by lia) (Hg (by lia));have l5:=Y.tu x.2 (dG LP c);have l6:(Rj x.2 c (pw h w)).length<=(i8 x.2 (dG LP c)).length:=bu (Y.vP _) (by rw [aq]; exact aI _);have l7:=Ce (bf.ok.MB.get (nZ P')).2;have l8:=JK B (nZ P');refine dh ?_;unfold FA;intro p5 f5;refine ja (.new f5) f5 aA (dh ?_);refine⟨_,LP,c,rfl,⟨rfl,TY⟩,Ei (by lia),by rw [Qp]; exact pK (by decide),fun p6 f6=>?_⟩;refine ja (.new f6) f6 aA ?_;refine⟨_,_,x.2,dG LP c,rfl,⟨rfl,hx1⟩,⟨rfl,Y.vM _ _⟩,bu l2 (by decide),⟨pK (by lia),pK (bu (Hg (by lia)) (by decide))⟩,fun p7 f7=>?_⟩;refine ja (.new f7) f7 aA ?_;refine⟨h,w,rfl,dh (dh ?_)⟩;refine⟨_,i8 x.2 (dG LP c),pw h w,1,rfl,⟨rfl,Y.vK _ _⟩,bu (bu l3 l2) (by decide),⟨pK (bu (bu l5 l4) (by decide)),pK (by decide)⟩,fun p8 f8=>?_⟩;have h8:p≠p8:=by rintro rfl; rw [MD] at f8; cases f8
    refine⟨by unfold tyP; simp only [cT h8,MD],dh ?_⟩;intro p9 f9;refine ja (.new f9) f9 aA ?_;refine Ov (by rw [cT h8]; exact MD) (dh ?_);refine ja (.new f8) f8 aA ?_;refine⟨_,_,(cM B (nZ P')).getD [],Rj x.2 c (pw h w),rfl,⟨rfl,(bf.ok.MB.get _).1⟩,⟨rfl,Y.Lb (Y.vK _ _) _ _⟩,?_,fun p10 YG=>?_⟩
    ·show _<=16777216;lia
    refine ja (.new YG) YG aA ?_;unfold E7;simp only [ax,↓ae,↓aa,bD,dC,↓je,VH];refine AX MD (show _ < 16777216 by lia) ?_;rw [<-ek];exact HQ _ _ ⟨_,_,_,_,_,QE.put hp,aA,rfl,p0⟩
   ·rintro τ G2 ⟨B,b3,b4,b5,b6,QE,MD,rfl,bf⟩;refine nj _ _ ⟨B,_,_,_,_,_,_,QE,MD,rfl,?_⟩;rw [<-ed] at bf;exact bf.next
  ·rintro τ G' ⟨A,a1,a2,a3,a4,a5,a6,le,gp,rfl,af⟩;simp only [↓ae,↓aa,↓ar,↓ao];refine HS le hp gp ?_;exact hN _ _ ⟨A,_,_,_,_,_,_,rfl,rfl,af⟩
 ·rintro _ G' ⟨A,a1,a2,a3,a4,a5,a6,rfl,rfl,af⟩;simp only [↓cU,bL,PY,gL,aN,↓ar,↓ao];intro p2 sD;have al:=af.len;have an:=af.fP;simp only [aF,Nat.zero_mul,Dl] at al an;refine fU (fun τ G'=>∃ (a1 a2 a3 a4 a5:Option D),τ=[some (.oX (iE S)),some (.int n),some (.int h),some (.oX (iE A)),a1,a2,a3,a4,a5,some (.ref p2)]/\fB G G'/\G' p2=some (.sE (iE (jh A)))) ?_ ?_
  ·intro N hN;simp only [Iw];simp only [fb,uU,ax,↓ae,↓aa];show pW _ _ _ ((iE A).map _) _ _ _ _;have em:((iE A).map fun p=>D.tup [pP p.1,p.2])=A.map fun p=>D.tup [pP p.1,.kJ (bF p.2)]:=by unfold iE; rw [aW]; rfl
   rw [em];refine dM (xs:=A) (f:=fun p=>D.tup [pP p.1,.kJ (bF p.2)]) (fun pre τ G'=>∃ (a1 a2 a3 a4 a5:Option D),τ=[some (.oX (iE S)),some (.int n),some (.int h),some (.oX (iE A)),a1,a2,a3,a4,a5,some (.ref p2)]/\fB G G'/\G' p2=some (.sE (iE (jh pre))))
    ⟨_,_,_,_,_,rfl,.new sD,aA⟩ (fun _ _ _ _=>trivial) ?_ ?_
   ·rintro pre x post τ G' N2 e ⟨b1,b2,b3,b4,b5,rfl,le,gp⟩ nj;simp only [jI,dJ,jA,aN,ao,ar];simp only [kZ,↓fe,ax,↓ae,↓aa,bL,c8,gK];refine KP ?_;have HN:pre.length < A.length:=by rw [e]; simp
    have hkl:(jh pre).length<=pre.length:=dF _ _;by_cases c:x.2.isEmpty=true
    ·simp only [c,cb,aw,if_false,gK];refine nj _ _ ⟨_,_,_,_,_,rfl,le,?_⟩;rw [Bk,if_pos c]; exact gp
    ·have c':x.2.isEmpty=false:=by simpa using c
     simp only [c',eX,if_true];refine dh ?_;unfold E7;simp only [ax,↓ae,↓aa];refine AX gp (show _ < 16777216 by lia) ?_;refine nj _ _ ⟨_,_,_,_,_,rfl,le.put sD,?_⟩;rw [aA,Bk,if_neg c,Y.k8 (OJ af.ok.MB.1 e)]
   ·rintro τ G' ⟨b1,b2,b3,b4,b5,rfl,le,gp⟩;simp only [↓ae,↓aa,↓ar,↓ao];exact dh (hN _ _ ⟨_,_,_,_,_,rfl,le,gp⟩)
  ·rintro _ G' ⟨b1,b2,b3,b4,b5,rfl,le,gp⟩;simp only [c7,c8,ax,↓ae,↓aa];refine HS le sD gp ?_;refine q (jh A) ⟨EV af.ok.MB,fun p t7=>af.ok.pl p (List.mem_filter.mp t7).1⟩ ?_ ?_ fun g=>?_
   ·have:jh (jh A)=jh A:=by unfold jh; rw [List.filter_filter]; simp
    have h2:=OK (EV af.ok.MB);rw [this] at h2; exact h2
   ·exact bu (OI A) an
   ·rw [OH,af.val];show _+0=_;lia
end JB
end K2
end
section
namespace K2
open PySem (Str)
open Enc (enc)
namespace JB
open K2.P K2.J
open K2.Y (Po L ND NZ fP xh i8 lz dG gY jd ic kR Pl)
variable {rows:Rows}
noncomputable def eO(s:T2):T3:=⟨s.a,s.b,1⟩
noncomputable def eI(s:T2):T3:=⟨s.a,s.b,0⟩
noncomputable def Ui(ps:List (T3×T3)):Pr T3:=ps.map fun p=>(eO p.1.s,eI p.2.s)
noncomputable def QA(rows:Rows):Pr T3:=Ui (pairsOf rows)
noncomputable def fr(rows:Rows):T3->T3:=pt (QA rows)
noncomputable def lo(rows:Rows):Nat:=(rows.filter fun r=>r.isEmpty).length
noncomputable def nh(rows:Rows):List (Int×Int):=(names rows).map fun n=>(n,handOf rows n)
theorem Fp:∀ (P:Pr T3),(es P).Perm (P.map (·.1)++P.map (·.2))
 | []=>.refl _
 | p :: P=>by
  rw [es,aj,aj,aB];refine ly _ ?_;exact((Fp P).cons p.2).trans List.perm_middle.symm
theorem SM{ps:List (T3×T3)}(h1:(ps.map fun p=>p.1.s).Nodup)(h2:(ps.map fun p=>p.2.s).Nodup):(es (Ui ps)).Nodup:=by
 refine(Fp _).nodup_iff.mpr (List.nodup_append.mpr ⟨?_,?_,?_⟩)
 ·have:(Ui ps).map (·.1)=(ps.map fun p=>p.1.s).map eO:=by unfold Ui; rw [aW,aW]; rfl
  rw [this];refine rN h1 fun i _ j _ e=>?_;injection e with e1 e2
  cases i; cases j; simp only at e1 e2; rw [e1,e2]
 ·have:(Ui ps).map (·.2)=(ps.map fun p=>p.2.s).map eI:=by unfold Ui; rw [aW,aW]; rfl
  rw [this];refine rN h2 fun i _ j _ e=>?_;injection e with e1 e2
  cases i; cases j; simp only at e1 e2; rw [e1,e2]
 ·intro a ha b hb e;obtain⟨p,hp,rfl⟩:=List.mem_map.mp ha;obtain⟨q,hq,rfl⟩:=List.mem_map.mp hb;obtain⟨p',_,rfl⟩:=List.mem_map.mp hp;obtain⟨q',_,rfl⟩:=List.mem_map.mp hq;injection e with _ _ e3
  cases e3
theorem GQ(d:Dr rows):(es (QA rows)).Nodup:=SM (Pp d) (Ur d)
theorem Ue(d:Dr rows):Qz (mM (pairsOf rows))=QA rows:=by
 rw [Oq d];unfold Qz QA Ui;rw [aW]; rfl
theorem Ug(d:Dr rows)(e:T3):e∈es (QA rows)↔∃ p∈rows.flatten,e=eO p.s\/e=eI p.s:=by
 rw [oe];constructor
 ·rintro⟨q,hq,z⟩;obtain⟨pq,hpq,rfl⟩:=List.mem_map.mp hq;have h1:pq.1∈rows.flatten:=by rw [<-oN rows]; exact bC hpq
  have h2:pq.2∈rows.flatten:=(oM rows).mem_iff.mp (bC hpq);rcases z with z | z
  ·exact⟨_,h1,.inl z⟩
  ·exact⟨_,h2,.inr z⟩
 ·rintro⟨p,hp,z | z⟩
  ·obtain⟨q,hq,_⟩:=Pc hp;exact⟨_,List.mem_map.mpr ⟨_,hq,rfl⟩,.inl z⟩
  ·obtain⟨q,hq,_⟩:=Pb hp;exact⟨_,List.mem_map.mpr ⟨_,hq,rfl⟩,.inr z⟩
theorem Jj(d:Dr rows)(e:T3):e∈es (QA rows)↔∃ n∈names rows,e∈kl n:=by
 rw [Ug d];constructor
 ·rintro⟨p,hp,z⟩;have hn:p.a∈names rows:=by
   rw [mr];rcases d.way p hp with w | w
   ·exact⟨p,hp,w,rfl⟩
   ·exact⟨_,d.Hv p hp,by simp [w],rfl⟩
  refine⟨p.a,hn,?_⟩;rcases d.way p hp with w | w <;> rcases z with rfl | rfl <;> simp [kl,eO,eI,T3.s,w]
 ·rintro⟨n,hn,he⟩;obtain⟨p,hp,w,rfl⟩:=mr.mp hn;have hm:=d.Hv p hp;unfold kl at he;simp only [aO,bO,or_false] at he;have e0:p.s=⟨p.a,0⟩:=by show (⟨p.a,p.b⟩:T2)=_; rw [w]
  have e1:T3.s ⟨p.a,1 - p.b,p.c⟩=⟨p.a,1⟩:=by show (⟨p.a,1 - p.b⟩:T2)=_; rw [w]; rfl
  rcases he with rfl | rfl | rfl | rfl
  ·exact⟨p,hp,.inr (by rw [e0]; rfl)⟩
  ·exact⟨_,hm,.inl (by rw [e1]; rfl)⟩
  ·exact⟨_,hm,.inr (by rw [e1]; rfl)⟩
  ·exact⟨p,hp,.inl (by rw [e0]; rfl)⟩
theorem yP(d:Dr rows):(names rows).Nodup:=by
 unfold names;refine KU ?_;have h:=d.nd;have:∀ {L:List T3},(L.map T3.s).Nodup->((L.filter fun p=>p.b == 0).map (·.a)).Nodup:=by
  intro L;induction L with
  | nil=>intro _; exact cH
  | cons p L ih =>
   intro h;rw [aj,aP] at h;rw [bX];split
   ·rename_i hp;rw [aj,aP];refine⟨fun z=>h.1 ?_,ih h.2⟩;obtain⟨q,hq,e⟩:=List.mem_map.mp z;have Tw:=List.mem_filter.mp hq;refine List.mem_map.mpr ⟨q,Tw.1,?_⟩;have b1:p.b=0:=by simpa using hp
    have b2:q.b=0:=by simpa using Tw.2
    show (⟨q.a,q.b⟩:T2)=⟨p.a,p.b⟩;rw [e,b1,b2]
   ·exact ih h.2
 exact this h
theorem Pq(d:Dr rows):Dm (fr rows) (names rows) :=
 ⟨NT (GQ d),yP d,fun n hn e he=>(vL (GQ d)).mpr ((Jj d e).mpr ⟨n,hn,he⟩)⟩
theorem yQ(d:Dr rows):2 * (names rows).length<=rows.flatten.length:=by
 have h:=sub_len' ((names rows).flatMap fun n=>[(⟨n,0⟩:T2),⟨n,1⟩]) (rows.flatten.map T3.s) ?_ ?_
 ·have:((names rows).flatMap fun n=>[(⟨n,0⟩:T2),⟨n,1⟩]).length=2 * (names rows).length:=by
   generalize names rows=l;induction l with
   | nil=>rfl
   | cons n l ih=>rw [bV,au,ih]; simp only [ak,aF]; lia
  rw [this,aq] at h; exact h
 ·have:∀ {l:List Int},l.Nodup->(l.flatMap fun n=>[(⟨n,0⟩:T2),⟨n,1⟩]).Nodup:=by
   intro l;induction l with
   | nil=>intro _; exact cH
   | cons n l ih =>
    intro h;rw [aP] at h;rw [bV,eL];refine⟨by simp,ih h.2,fun a ha b hb e=>?_⟩;obtain⟨m,hm,hb⟩:=List.mem_flatMap.mp hb;have ea:a.a=n:=by simp only [aO,bO,or_false] at ha; rcases ha with rfl | rfl <;> rfl
    have eb:b.a=m:=by simp only [aO,bO,or_false] at hb; rcases hb with rfl | rfl <;> rfl
    rw [e,eb] at ea;exact h.1 (ea ▸ hm)
  exact this (yP d)
 ·intro s hs;obtain⟨n,hn,hs⟩:=List.mem_flatMap.mp hs;obtain⟨p,hp,w,rfl⟩:=mr.mp hn;simp only [aO,bO,or_false] at hs;rcases hs with rfl | rfl
  ·exact List.mem_map.mpr ⟨p,hp,by show (⟨p.a,p.b⟩:T2)=_; rw [w]⟩
  ·exact List.mem_map.mpr ⟨_,d.Hv p hp,by show (⟨p.a,1 - p.b⟩:T2)=_; rw [w]; rfl⟩
theorem TF(d:Dr rows){n:Int}(h:n∈names rows):∃ p∈rows.flatten,p.a=n:=by
 obtain⟨p,hp,_,e⟩:=mr.mp h;exact⟨p,hp,e⟩
theorem NG(d:Dr rows):∀ r∈rows,r.length<=24:=fun r hr=>by
 have h1:=d.Az;obtain⟨a,b,e⟩:=List.append_of_mem hr;rw [e,cW,aX,au,au] at h1;lia
noncomputable def A7(rows:Rows)(ns:List Int):List (Int×Int):=ns.map fun n=>(n,handOf rows n)
theorem JL(rows:Rows)(ns:List Int):(A7 rows ns).map (·.1)=ns:=by
 unfold A7;rw [aW];exact kg ns
theorem zip_map(f:Int->Int):∀ l:List Int,l.zip (l.map f)=l.map fun n=>(n,f n)
 | []=>rfl
 | n :: l=>by rw [aj,qc,zip_map f l,aj]
theorem Zr{k:Nat}(h:k<=5):8 * 8 ^ k<=1048576:=by
 have:8 ^ k<=8 ^ 5:=jP (by decide) h;lia
noncomputable def A2:iF :=
 (cG (bL (gW 1 [0] (mR (ax 1)) (aN 0) none (bH gv (av (ax 1) (av (ax 0) a8)))) (aN 2))
 (cG (bL (wm xm (av (gW 1 [] (mR (ax 0)) (aN 0) (some (tQ (kE (ax 0)))) (ax 0)) a8)) (aN 3))
 (cG (bL (c8 (PX (bH kH (av (ax 0) a8)) (c8 (bH ic (av (c8 (FA [(2,-1),(-2,-1)])) (av (c8 (ax 3)) a8)))))) (aN 4))
 (cG (fb (OZ (ax 1) (ax 2)) (jI (dJ (aN 5) (dJ (aN 6) jA))) (bL (c8 (bH lO (av (ax 4) (av (ax 5) (av (ax 6) a8))))) (aN 4)))
 (c7 (c8 (ax 4)))))))
noncomputable def rG:nQ:=fun ds G Q _=>∃ (rows:Rows) (ns:List Int),ds=[enc rows,enc ns]/\(Dr rows/\ns.Perm (names rows)/\ns.length<=6) /\
 ∀ S':Su,SA S' []->gO S'<=2097152->(∀ g,nY [] g S'=Br (fr rows) (A7 rows ns) (hZ (lo rows) g))->Q (.oX (iE S')) G
theorem Mh(ds:List D)(G:Gp)(Q:DK)(h:rG ds G Q fun _ _=>False):A2 (fun _ _=>False) (ends Q) (bE 7 ds) G:=by
 obtain⟨rows,ns,rfl,⟨d,hp,hl⟩,q⟩:=h;have Az:=d.Az;have str:=d.str;have nn:ns.Nodup:=hp.nodup_iff.mpr (yP d);have lol:lo rows<=3:=bu (dF _ _) str;unfold A2;simp only [↓cU,bL,gW,↓eW,ax,bE,↓aj,↓bq,↓ak,↓aF,bg,↓aB,↓aU,↓ae,↓aa,aN,wm,av,↓ar,↓ao,a8,c8,ends];refine iC ⟨Dt (by rw [aq]; lia),?_⟩;refine k6 (xs:=ns) (fun pre acc τ G'=>G=G'/\(∃ a,τ=[a,some (enc rows)])/\acc=(pre.map (handOf rows)).map D.int) ⟨rfl,⟨_,rfl⟩,rfl⟩ (fun _ _ _ _ _=>trivial) ?_ ?_
 ·rintro pre n post acc τ G' N e ⟨rfl,⟨a,rfl⟩,rfl⟩ hN;have hn:n∈names rows:=hp.mem_iff.mp (by rw [e]; simp);simp only [aN,bH,av,ax,↓ao,xT,↓ae,↓aa,a8];refine⟨rows,n,rfl,⟨by lia,TF d hn⟩,?_⟩;refine hN _ _ _ ⟨rfl,⟨_,rfl⟩,?_⟩;rw [aQ,aQ]; rfl
 rintro acc τ G' ⟨rfl,⟨a,rfl⟩,rfl⟩ p1 f1;refine iC ⟨Dt (by rw [aq]; lia),?_⟩;refine k6 (xs:=rows) (fun pre acc τ G'=>dO G p1 (.lst ((ns.map (handOf rows)).map D.int))=G'/\(∃ a,τ=[a])/\acc=(pre.filter fun r=>r.isEmpty).map enc) ⟨rfl,⟨_,rfl⟩,rfl⟩ (fun _ _ _ _ _=>trivial) ?_ ?_
 ·rintro pre r post acc τ G' N e ⟨rfl,⟨a,rfl⟩,rfl⟩ hN;simp only [aN,tQ,↓fe,ax,↓ao,↓aa];show qA (.dP (r.map enc)) _ _;unfold qA Ge;simp only [];by_cases c:r.isEmpty=true
  ·have c2:(r.map (enc:T3->D)).isEmpty=true:=by cases r with
    | nil=>rfl
    | cons _ _=>cases c
   simp only [c2,cb,eX,if_true];refine hN _ _ _ ⟨rfl,⟨_,rfl⟩,?_⟩;simp only [eY,bX,c,if_true,vt,aQ,aj,bq]
  ·have c2:(r.map (enc:T3->D)).isEmpty=false:=by cases r with
    | nil=>exact absurd rfl c
    | cons _ _=>rfl
   simp only [c2,cb,eX,if_false,aw];refine hN _ _ _ ⟨rfl,⟨_,rfl⟩,?_⟩;have c':r.isEmpty=false:=by simpa using c
   simp only [eY,bX,c',if_false,aw,vt,bN]
 rintro acc τ G' ⟨rfl,⟨a,rfl⟩,rfl⟩ p2 f2;have p12:p1≠p2:=by rintro rfl; rw [aA] at f2; cases f2
 simp only [FH aA,aq];simp only [PX,bH,av,ax,↓aa,a8,c8,↓ae];have elo:(rows.filter fun r=>r.isEmpty).length=lo rows:=rfl;rw [elo];refine⟨rows,rfl,by lia,?_⟩;rw [Ue d];have nd:=GQ d;obtain⟨n0,e0⟩:=JE (Kc nd) (NT nd);generalize hP0:Lg (Ie (QA rows))=P0 at n0 e0;unfold FA;intro p5 f5;refine ja (.new f5) f5 aA (dh ?_);refine⟨_,LP,lo rows,rfl,⟨rfl,TY⟩,Ei lol,by rw [Qp]; exact pK (by decide),fun p6 f6=>?_⟩;refine ja (.new f6) f6 aA ?_;refine⟨nZ P0,rfl,fun p7 f7=>?_⟩;have g1:fB G (dO (dO G p1 (.lst ((ns.map (handOf rows)).map D.int))) p2 (.lst (((rows.filter fun r=>r.isEmpty)).map enc))):=(fB.new f1).trans (.new f2);refine HS (A:=[(nZ P0,dG LP (lo rows))]) (.new f7) f7 aA ?_;generalize hG2:dO (dO G p1 (.lst ((ns.map (handOf rows)).map D.int))) p2 (.lst (((rows.filter fun r=>r.isEmpty)).map enc))=G2 at g1;have gh:G2 p1=some (.lst ((ns.map (handOf rows)).map D.int)):=by rw [<-hG2,cT p12,aA]
 refine fU (fun τ G'=>∃ (S:Su) (a b:Option D),G'=G2/\τ=[some (enc rows),some (enc ns),some (.ref p1),some (.int (lo rows)),some (.oX (iE S)),a,b]/\SA S []/\gO S<=2097152/\∀ g,nY [] g S=Br (fr rows) (A7 rows ns) (hZ (lo rows) g)) ?_ ?_
 ·intro N hN;simp only [fb,OZ,ax,↓ae,↓aa];have hz:o9 (ns.map enc) ((ns.map (handOf rows)).map D.int)=(A7 rows ns).map enc:=by
   have:o9 (ns.map enc) ((ns.map (handOf rows)).map enc)=(ns.zip (ns.map (handOf rows))).map enc:=yd _ _;refine this.trans ?_;rw [zip_map]; rfl
  refine LF (IsL.enc ns) (IsL.ref gh) fun ok cL=>?_;rw [hz];have hnl:(A7 rows ns).length=ns.length:=by unfold A7; rw [aq]
  have start:∀ g,nY (A7 rows ns) g [(nZ P0,dG LP (lo rows))]=Br (fr rows) (A7 rows ns) (hZ (lo rows) g):=fun g=>by
   show L _ _+0=_;rw [tU,nu,Ip,e0];have:=congrFun (HA (fr rows) (A7 rows ns) g (lo rows) 0) 0;simp only [nu] at this;rw [B3] at this;exact this
  have so0:SA [(nZ P0,dG LP (lo rows))] ((A7 rows ns).map (·.1)):=by
   refine⟨⟨by simp,fun p t7=>?_⟩,fun p t7=>?_⟩
   ·rw [cy] at t7; subst t7; exact⟨Y.vM _ _,Y.Le _ _⟩
   ·rw [cy] at t7; subst t7;refine⟨P0,rfl,n0,fun e=>?_⟩;rw [e0,vL nd,Jj d,JL];exact⟨fun ⟨n,h1,h2⟩=>⟨n,hp.mem_iff.mpr h1,h2⟩,fun ⟨n,h1,h2⟩=>⟨n,hp.mem_iff.mp h1,h2⟩⟩
  refine dM (xs:=A7 rows ns) (fun pre τ G'=>∃ (S:Su) (a b:Option D),G'=G2/\τ=[some (enc rows),some (enc ns),some (.ref p1),some (.int (lo rows)),some (.oX (iE S)),a,b]/\SA S (((A7 rows ns).drop pre.length).map (·.1))/\(S.length<=8 * 8 ^ pre.length/\gO S<=8 * 8 ^ pre.length)/\∀ g,nY ((A7 rows ns).drop pre.length) g S=Br (fr rows) (A7 rows ns) (hZ (lo rows) g))
   ⟨_,_,_,rfl,rfl,so0,⟨(by decide:1<=8 * 8 ^ 0),bu (Nat.le_of_eq (Dl _)) (Hg lol)⟩,start⟩ (fun pre τ G' h=>cL G' (by obtain⟨_,_,_,rfl,_⟩:=h; exact .refl _)) ?_ ?_
  ·rintro pre x post τ G' N2 e ⟨S,a,b,rfl,rfl,so,⟨sl,sn⟩,sv⟩ nj;have dr:(A7 rows ns).drop pre.length=x :: post:=by rw [e,List.drop_left]
   have PL:(A7 rows ns).drop (pre++[x]).length=post:=by
    rw [e,show pre++x :: post=(pre++[x])++post by simp,List.drop_left]
   have HN:pre.length+1+post.length<=6:=by
    have:=congrArg di e;rw [au,ak,hnl] at this; lia
   have aal:(x.1 :: post.map (·.1)).Nodup:=by
    have h1:=JL rows ns;rw [e,aQ,aj] at h1;have h2:=nn;rw [<-h1] at h2;exact(List.nodup_append.mp h2).2.1
   rw [dr] at so sv;have p8:=Zr (k:=pre.length) (by lia);have e3:(enc x:D)=.tup [.int x.1,.int x.2]:=rfl;rw [e3];simp only [jI,dJ,jA,aN,ao,ar];simp only [bL,c8,bH,av,ax,↓ae,↓aa,a8,aN,↓ar,↓ao];refine⟨S,x.1,x.2,post,rfl,⟨so,aal,by lia,by lia,by lia⟩,fun S' so' l1 l2 v=>?_⟩;refine dh (nj _ _ ?_);rw [PL];have e8:8 * 8 ^ (pre++[x]).length=8 * (8 * 8 ^ pre.length):=by
    rw [au,dg,QP]; lia
   rw [e8];exact⟨S',_,_,rfl,rfl,so',⟨by lia,by lia⟩,fun g=>by rw [v]; exact sv g⟩
  ·rintro τ G' ⟨S,a,b,rfl,rfl,so,⟨sl,sn⟩,sv⟩;have dr:(A7 rows ns).drop (A7 rows ns).length=[]:=List.drop_length;rw [dr] at so sv;have:8 ^ (A7 rows ns).length<=8 ^ 6:=jP (by decide) (by lia);exact hN _ _ ⟨S,_,_,rfl,rfl,so,by lia,sv⟩
 ·rintro _ G' ⟨S,a,b,rfl,rfl,so,hn,hv⟩;simp only [c7,c8,ax,↓ae,↓aa];exact uZ g1 (q S so hn hv)
structure BP(T:Po)(f:Fn->Int):Prop where
 nd:ND T
 nz:NZ T
 fP:fP T<=2097152
 val:∀ g,L g T=f g
noncomputable def brk(rows:Rows)(g:Fn):Int:=Br (fr rows) (nh rows) (hZ (lo rows) g)
theorem Uq{S:Su}(so:SA S []):∀ p∈S,p.1=[]:=fun p hp=>by
 obtain⟨P,e,nd,h⟩:=so.pl p hp;have:P=[]:=UC nd fun e=>gB fun z=>by
  obtain⟨n,hn,_⟩:=(h e).mp z;cases hn
 rw [e,this]; rfl
theorem Q4{S:Su}(so:SA S [])(g:Fn):nY [] g S=L g ((cM S []).getD []):=by
 have h:=Uq so;have nd:=so.MB.1;cases S with
 | nil=>rfl
 | cons p S =>
  have e1:=h p (by simp);have e2:S=[]:=by
   cases S with
   | nil=>rfl
   | cons q S =>
    have e3:=h q (by simp);rw [aj,aj,aP] at nd;exact absurd (by rw [e1,e3]; exact cz) nd.1
  subst e2;have e4:cM [p] ([]:PK)=some p.2:=by unfold cM; rw [cA (by simpa using e1)]; rfl
  rw [e4];show L _ p.2+0=L g p.2;rw [nu];congr 1;funext j;show sh j g 0=g j;unfold sh;rw [vE]
noncomputable def yA:iF :=
 (c7 (c8 (t8 tyP EM (bH rG (av (ax 0) (av (bH fI (av (ax 0) a8)) a8))) (av (c8 (gQ a8)) (av (c8 pI) a8)))))
noncomputable def mE:nQ:=fun ds G Q _=>∃ rows:Rows,ds=[enc rows]/\(Dr rows/\rows.flatten.length<=12)/\∀ T:Po,BP T (brk rows)->Q (.kJ (bF T)) G
theorem IP(ds:List D)(G:Gp)(Q:DK)(h:mE ds G Q fun _ _=>False):yA (fun _ _=>False) (ends Q) (bE 1 ds) G:=by
 obtain⟨rows,rfl,⟨d,hl⟩,q⟩:=h;have nl:=yQ d;unfold yA;simp only [c7,c8,t8,bH,av,ax,bE,↓aj,↓bq,↓ak,↓aF,↓aB,↓aU,↓aa,a8,gQ,pI,ends];refine⟨rows,rfl,(show rows.flatten.length < 64 by lia),?_⟩;refine⟨rows,names rows,rfl,⟨d,.refl _,by lia⟩,fun S so hn hv=>?_⟩;refine⟨trivial,by decide,dh ?_⟩;intro p hp;refine ja (.new hp) hp aA ?_;refine⟨[],rfl,?_⟩;have bp:BP ((cM S []).getD []) (brk rows):=⟨(so.MB.get []).1,(so.MB.get []).2,bu (JK S []) hn,fun g=>by rw [<-Q4 so,hv]; rfl⟩;have e:(pR (iE S) []).getD (.kJ [])=.kJ (bF ((cM S []).getD [])):=by
  rw [Bg];cases cM S [] <;> rfl
 rw [e];exact dh (q _ bp)
end JB
end K2
end
section
namespace K2
namespace JB
open K2.P K2.J
section
variable {α:Type}
noncomputable def ot:List α->List (α×α)
 | a :: b :: l=>(a,b) :: ot (b :: l)
 | _=>[]
noncomputable def CZ:List α->List (α×α)
 | []=>[]
 | a :: l=>ot (a :: l++[a])
theorem oU(a b:α)(l:List α):ot (a :: b :: l)=(a,b) :: ot (b :: l):=rfl
theorem C9:∀ (xs:List α) (m:α) (ys:List α),ot (xs++m :: ys)=ot (xs++[m])++ot (m :: ys)
 | [],m,ys=>rfl
 | [a],m,ys=>rfl
 | a :: b :: xs,m,ys=>by
  rw [aB,aB,oU,aB,aB,oU,aB];congr 1;exact C9 (b :: xs) m ys
theorem Je:∀ (l:List α) (c:α),l.zip (l.drop 1++[c])=ot (l++[c])
 | [],_=>rfl
 | [a],c=>rfl
 | a :: b :: l,c=>by
  rw [aB,aB,oU];show (a,b) :: (b :: l).zip (l++[c])=_;congr 1;exact Je (b :: l) c
theorem Sd(A B:List α):(CZ (A++B)).Perm (CZ (B++A)):=by
 cases A with
 | nil=>rw [aU,bN]
 | cons a A =>
  cases B with
  | nil=>rw [aU,bN]
  | cons b B =>
   show (ot (a :: A++b :: B++[a])).Perm (ot (b :: B++a :: A++[b]));have e1:ot (a :: A++b :: B++[a])=ot (a :: A++[b])++ot (b :: B++[a]):=by
    rw [bB]; exact C9 (a :: A) b (B++[a])
   have e2:ot (b :: B++a :: A++[b])=ot (b :: B++[a])++ot (a :: A++[b]):=by
    rw [bB]; exact C9 (b :: B) a (A++[b])
   rw [e1,e2];exact vr
end
theorem QU(r:List T3):r.zip (iN r)=CZ r:=by
 cases r with
 | nil=>rfl
 | cons a l=>exact Je (a :: l) a
theorem Ob(rows:Rows):pairsOf rows=rows.flatMap CZ:=by
 unfold pairsOf;congr 1;funext r;exact QU r
theorem qV{α β:Type}(f:α->List β):∀ {rows:List α} {i:Nat} {r r':α},rows[i]?=some r->((rows.set i r').flatMap f).Perm (f r'++(rows.eraseIdx i).flatMap f)
 | [],_,_,_,h=>by simp at h
 | a :: rows,0,r,r',h=>by rw [ao,bV,Ms]
 | a :: rows,i+1,r,r',h=>by
  rw [ar,bV,Mt,bV];refine((qV f (rows:=rows) (i:=i) (r:=r) (by simpa using h)).append_left _).trans ?_;rw [<-bB,<-bB];exact List.perm_append_comm.append_right _
theorem Ib{α β:Type}(f:α->List β){rows:List α}{i:Nat}{r:α}(h:rows[i]?=some r):(rows.flatMap f).Perm (f r++(rows.eraseIdx i).flatMap f):=by
 have:=qV f (r':=r) h;have e:rows.set i r=rows:=by
  obtain⟨hi,e⟩:=List.getElem?_eq_some_iff.mp h;rw [<-e]; exact vq hi
 rw [e] at this; exact this
theorem Rh{x y:T3}{R:Pr T3}(nd:(es ((y,x) :: R)).Nodup):jn (pt ((y,x) :: R)) x y=pt R/\cl (pt ((y,x) :: R)) x y=1:=by
 have n:=nd;simp only [es,aP,aO,not_or] at n;obtain⟨⟨yx,yR⟩,xR,rR⟩:=n;have fx:pt ((y,x) :: R) x=y:=(kq nd (p:=(y,x)) (by simp)).2;have fy:pt ((y,x) :: R) y=x:=(kq nd (p:=(y,x)) (by simp)).1;refine⟨?_,by unfold cl; rw [fx,if_pos rfl]⟩;funext e;unfold jn;rw [fx,fy];split
 ·rename_i hz;rw [pv (by rcases hz with rfl | rfl; exact xR; exact yR)]
 ·rename_i hz;rw [not_or] at hz;rw [if_neg hz.2,if_neg hz.1,pt,if_neg hz.2,if_neg hz.1]
noncomputable def Nds(rows:Rows):Prop:=(rows.flatten.map T3.s).Nodup
theorem Ot{rows:Rows}(h:Nds rows):(es (QA rows)).Nodup:=by
 refine SM ?_ ?_
 ·have:=congrArg (List.map T3.s) (oN rows);rw [aW] at this;have h2:((pairsOf rows).map fun p=>p.1.s)=rows.flatten.map T3.s:=this;rw [h2]; exact h
 ·have:=(oM rows).map T3.s;rw [aW] at this;exact this.nodup_iff.mpr h
theorem Pw{rows:Rows}{i:Nat}{r r':List T3}(h:rows[i]?=some r):(rows.set i r').flatten.Perm (r'++(rows.eraseIdx i).flatten):=by
 have:=qV (fun r:List T3=>r) (r':=r') h;simpa [List.flatMap_id'] using this
theorem R0{rows:Rows}{i:Nat}{r:List T3}(h:rows[i]?=some r):rows.flatten.Perm (r++(rows.eraseIdx i).flatten):=by
 have:=Ib (fun r:List T3=>r) h;simpa [List.flatMap_id'] using this
end JB
end K2
end
section
namespace K2
open PySem (Str)
open Enc (enc)
namespace T
noncomputable abbrev Tb:=List (List Int)
structure HL(G G':Gp)(p0:Nat)(as:List Nat)(rs:List (List D)):Prop where
 le:fB G G'
 fp:G p0=none
 gp:G' p0=some (.lst (as.map D.ref))
 np:p0∉as
 nd:as.Nodup
 fr:∀ a∈as,G a=none
 len:as.length=rs.length
 at':∀ (i a:Nat) (r:List D),as[i]?=some a->rs[i]?=some r->G' a=some (.lst r)
theorem HL.ext{G G' G'':Gp}{p0:Nat}{as:List Nat}{rs:List (List D)}(h:HL G G' p0 as rs)(l:fB G' G''):HL G G'' p0 as rs :=
 ⟨h.le.trans l,h.fp,l _ _ h.gp,h.np,h.nd,h.fr,h.len,fun i a r h1 h2=>l _ _ (h.at' i a r h1 h2)⟩
theorem HL.row{G G':Gp}{p0:Nat}{as:List Nat}{rs:List (List D)}(h:HL G G' p0 as rs){i:Nat}{r:List D}(hr:rs[i]?=some r):∃ a,as[i]?=some a/\G' a=some (.lst r)/\ua (as.map D.ref) (i:Int)=some (.ref a):=by
 have hi:i < as.length:=by rw [h.len]; exact(List.getElem?_eq_some_iff.mp hr).1
 refine⟨as[i],ay hi,h.at' i _ r (ay hi) hr,?_⟩;rw [pL _ (by lia) (by rw [aq]; lia)];simp
theorem Om{as:List Nat}(hn:as.Nodup){i j a:Nat}(h1:as[i]?=some a)(h2:as[j]?=some a):i=j:=by
 have g1:=List.getElem?_eq_some_iff.mp h1;have g2:=List.getElem?_eq_some_iff.mp h2;have pw:=List.pairwise_iff_getElem.mp hn;rcases Nat.lt_trichotomy i j with lt | eq | gt
 ·exact absurd (g1.2.trans g2.2.symm) (pw i j g1.1 g2.1 lt)
 ·exact eq
 ·exact absurd (g2.2.trans g1.2.symm) (pw j i g2.1 g1.1 gt)
theorem Ol{as:List Nat}(h:∀ i k a:Nat,i < k->as[i]?=some a->as[k]?=some a->False):as.Nodup:=by
 refine List.pairwise_iff_getElem.mpr fun i k hi hk hik z=>?_;exact h i k as[i] hik (ay hi) (by rw [ay hk,z])
theorem HL.NJ{G G':Gp}{p0:Nat}{as:List Nat}{rs:List (List D)}(h:HL G G' p0 as rs){j a:Nat}{r':List D}(hj:j < as.length)(ga:G' a=some (.lst r'))(na:a∉as)(fa:G a=none)(np:a≠p0):HL G (dO G' p0 (.lst ((as.set j a).map D.ref))) p0 (as.set j a) (rs.set j r'):=by
 have V4:∀ b,b∈as.set j a->b=a\/b∈as:=fun b hb=>by
  rcases I0 hb with z | z
  ·exact .inr z
  ·exact .inl z
 refine⟨h.le.put h.fp,h.fp,aA,fun z=>?_,?_,fun b hb=>?_,by rw [eg,eg]; exact h.len,fun i b r hb hr=>?_⟩
 ·rcases V4 _ z with z | z
  ·exact np z.symm
  ·exact h.np z
 ·refine Ol fun i k b hik h1 h2=>?_;by_cases e1:j=i
  ·subst e1;rw [dZ hj] at h1;rw [e7 (by lia)] at h2;cases h1;exact na (eZ h2)
  ·rw [e7 e1] at h1;by_cases e2:j=k
   ·subst e2;rw [dZ hj] at h2;cases h2;exact na (eZ h1)
   ·rw [e7 e2] at h2;have:=Om h.nd h1 h2;lia
 ·rcases V4 b hb with z | z
  ·rw [z]; exact fa
  ·exact h.fr b z
 ·have hb0:b≠p0:=by
   rintro rfl;rcases V4 b (eZ hb) with z | z
   ·exact np z.symm
   ·exact h.np z
  rw [cT hb0];by_cases e:j=i
  ·subst e;rw [dZ hj] at hb;rw [dZ (by rw [<-h.len]; exact hj)] at hr;cases hb; cases hr;exact ga
  ·rw [e7 e] at hb hr;exact h.at' i b r hb hr
theorem HL.fz{G G':Gp}{p0:Nat}{as:List Nat}{rs:List (List D)}(h:HL G G' p0 as rs){Q:DK}(q:Q (.dP (rs.map D.dP)) G):Mm G' (.ref p0) Q:=by
 refine CA h.le h.fp h.gp (ss:=rs.map D.dP) ?_ q;have:∀ (as:List Nat) (rs:List (List D)),as.length=rs.length->(∀ a∈as,G a=none)->(∀ (i a:Nat) (r:List D),as[i]?=some a->rs[i]?=some r->G' a=some (.lst r))->Gm G' (fun a=>(G a).isNone) (as.map D.ref) (rs.map D.dP):=by
  intro as;induction as with
  | nil=>intro rs hl _ _; cases rs with
   | nil=>exact .nil
   | cons _ _=>cases hl
  | cons a as ih =>
   intro rs hl hf LO;cases rs with
   | nil=>cases hl
   | cons r rs =>
    refine .cons (.ref (LO 0 a r rfl rfl) (by simp [hf a (by simp)]) (Gm.same _)) ?_;exact ih rs (by simpa using hl) (fun b hb=>hf b (aE _ hb)) fun i b s h1 h2=>LO (i+1) b s h1 h2
 exact this as rs h.len h.fr h.at'
end T
end K2
end
section
namespace K2
open PySem (Str)
open Enc (enc)
namespace P
variable {rows:Rows}
noncomputable def Wx(rows:Rows):List T3:=Ut (SQ rows)
end P
end K2
end
section
namespace K2
open PySem (Str)
open Enc (enc)
namespace P
variable {rows:Rows}
noncomputable def Uk(rows:Rows)(s:T2):Nat:=(((rows.zipIdx 0).find? fun p=>decide (s∈ui p.1 (p.2:Int))).map (·.2)).getD 0
end P
end K2
end
section
namespace K2
open PySem (Str)
open Enc (enc)
namespace Y
noncomputable def qM:iF :=
 (cG (kZ (kE (bD Yj (ax 1) (wm xm (av (ax 0) a8)))) (c7 (c8 (bD mf (ax 0) (ax 1)))) gK)
 (c7 (c8 (dC (.int 0)))))
noncomputable def fA(ns:List Int)(k:Int):Int:=ns.getD k.toNat 0
noncomputable def cu:nQ:=fun ds G Q _=>∃ (ns:List Int) (k:Int),ds=[.dP (ns.map D.int),.int k]/\0<=k/\Q (.int (fA ns k)) G
theorem zO(ds:List D)(G:Gp)(Q:DK)(h:cu ds G Q fun _ _=>False):qM (fun _ _=>False) (ends Q) (bE 2 ds) G:=by
 obtain⟨ns,k,rfl,h0,q⟩:=h;unfold qM;simp only [cG,kZ,bE,aj,bq,ak,aF,aB,aU,c7,c8,bD,ax,aa,ae,ends,iI,gK,dC,fe,wm,av,a8,rj,uE,cZ];split
 ·rename_i h;have h1:k < (ns.map D.int).length:=by simpa using h
  rw [pL _ h0 h1];simp only [ka];rw [aq] at h1;have e:fA ns k=ns[k.toNat]:=by unfold fA; rw [dU,ay (by lia)]; rfl
  rw [<-e]; exact dh q
 ·rename_i h;have h1:¬ k < (ns.map D.int).length:=by simpa using h
  rw [aq] at h1;have e:fA ns k=0:=by unfold fA; rw [dU,jl (by lia)]; rfl
  rw [<-e]; exact dh q
noncomputable def ux:iF :=
 (c7 (c8 (Kk (PW "int" (ax 0)) (PU (PW "bool" (ax 0))))))
noncomputable def fG:nQ:=fun ds G Q _=>∃ i:Int,ds=[.int i]/\Q (.bl true) G
theorem Dh(ds:List D)(G:Gp)(Q:DK)(h:fG ds G Q fun _ _=>False):ux (fun _ _=>False) (ends Q) (bE 1 ds) G:=by
 obtain⟨i,rfl,q⟩:=h;unfold ux;simp only [c7,c8,bE,aj,bq,ak,aF,aB,aU,ends,rg,qZ,rY,ax,aa,qS,cZ];simpa using dh q
noncomputable def wN:iF :=
 (c7 (c8 (bD uD (bD uD (bD sA (ax 0) (dC (.int 48271))) (ax 1)) (ax 2))))
noncomputable def pick(c p m:Int):Int:=c * 48271 % p % m
noncomputable def cJ:nQ:=fun ds G Q _=>∃ c p m:Int,ds=[.int c,.int p,.int m]/\(0 < p/\0 < m)/\Q (.int (pick c p m)) G
theorem FQ(ds:List D)(G:Gp)(Q:DK)(h:cJ ds G Q fun _ _=>False):wN (fun _ _=>False) (ends Q) (bE 3 ds) G:=by
 obtain⟨c,p,m,rfl,⟨hp,hm⟩,q⟩:=h;unfold wN;simp only [c7,c8,bD,ax,bE,aj,bq,ak,aF,aB,aU,aa,dC,ae,ends,jZ,j0];exact⟨.inr ⟨by decide,by decide⟩,hp,hm,dh q⟩
theorem iw(c p:Int){m:Int}(h:0 < m):0<=pick c p m:=vF _ (by lia)
theorem iA(c p:Int){m:Int}(h:0 < m):pick c p m < m:=qm _ h
noncomputable def wM:iF :=
 (cG (kZ (tQ (kE (PW "dict" (ax 0)))) (c7 (c8 (dC (.bl false)))) gK)
 (cG (fb (uV (ax 0)) (aN 1) (kZ (PT (tQ (kE (bH fG (av (ax 1) a8)))) (PT (tQ (kE (bH fG (av (bD mf (ax 0) (ax 1)) a8)))) (kE (bD (K9 false) (bD mf (ax 0) (ax 1)) (dC (.int 0)))))) (c7 (c8 (dC (.bl false)))) gK))
 (c7 (c8 (dC (.bl true))))))
noncomputable def gU:nQ:=fun ds G Q _=>∃ (d:D) (l:Po),ds=[d]/\Pl G d l/\NZ l/\Q (.bl true) G
theorem FP(ds:List D)(G:Gp)(Q:DK)(h:gU ds G Q fun _ _=>False):wM (fun _ _=>False) (ends Q) (bE 2 ds) G:=by
 obtain⟨d,l,rfl,hd,hz,q⟩:=h;unfold wM;refine fU (fun τ G'=>τ=[some d,none]/\G=G') ?_ ?_
 ·intro N hN;simp only [kZ,tQ,bE,aj,bq,ak,aF,bg,aB,aU,c7,c8,dC,ends,gK,fe,rY,ax,aa];refine OU (G:=G) hd.is.p ?_;simp only [beq_self_eq_true,cZ,cb,aw,if_false];exact hN _ _ ⟨rfl,rfl⟩
 rintro _ _ ⟨rfl,rfl⟩;refine fU (fun τ G'=>(∃ a,τ=[some d,a])/\G=G') ?_ ?_
 ·intro N hN;simp only [fb,uV,ax,aa,ends];refine HK hd.is (.refl _) fun ok cL=>?_;refine dM (xs:=l) (fun pre τ G'=>(∃ a,τ=[some d,a])/\G=G') ⟨⟨_,rfl⟩,rfl⟩ (fun pre τ G' h=>cL G' (by rw [<-h.2]; exact .refl _)) ?_ ?_
  ·rintro pre x post τ G' N2 e ⟨⟨a,rfl⟩,rfl⟩ nj;have hm:x∈l:=by rw [e]; simp
   have hx:=zI hd.nd hm;simp only [aN,kZ,PT,tQ,ar,ao,c7,c8,dC,gK,if_true,fe,bD,ax,aa,ae,bH,av,a8];refine⟨_,rfl,?_⟩;simp only [cZ,cb,aw,if_false];refine S0 hd.is.p hx ⟨x.2,rfl,?_⟩;simp only [cZ,cb,aw,if_false];refine S0 hd.is.p hx ⟨_,_,.int _,.int _,?_⟩;simp only [aw,Kf,hz x hm,decide_false,eX,if_false,cZ];exact nj _ _ ⟨⟨_,rfl⟩,rfl⟩
  ·rintro τ G' ⟨⟨a,rfl⟩,rfl⟩;exact hN _ _ ⟨⟨_,rfl⟩,rfl⟩
 ·rintro _ _ ⟨⟨a,rfl⟩,rfl⟩;simp only [c7,c8,dC,ends];exact dh q
end Y
end K2
end
section
namespace K2
open PySem (Str)
open Enc (enc)
namespace MJ
open K2.T
open K2.P (names handOf Uk ui fI gv)
open K2.Y (fA pick iw iA cu fG cJ ig kM)
theorem ji{α:Type} [DecidableEq α] [Enc α](rs:List (List α)):(enc rs:D)=.dP ((rs.map fun r=>r.map enc).map D.dP):=by
 show D.dP _=_;rw [aW]; rfl
noncomputable def nH:iF :=
 (c7 (c8 (gW 1 [] (mR (ax 0)) (aN 0) none (wm w8 (av (ax 0) a8)))))
noncomputable def eP:nQ:=fun ds G Q _=>∃ rs:List (List D),ds=[.dP (rs.map D.dP)]/\rs.length<=1000/\∀ G' p0 as,HL G G' p0 as rs->Q (.ref p0) G'
theorem rD(ds:List D)(G:Gp)(Q:DK)(h:eP ds G Q fun _ _=>False):nH (fun _ _=>False) (ends Q) (bE 1 ds) G:=by
 obtain⟨rs,rfl,hl,q⟩:=h;unfold nH;simp only [c7,c8,gW,bE,aj,bq,ak,aF,aB,aU,ends,eW,ax,aa,uX];refine⟨Dt (by rw [aq]; exact hl),?_⟩;refine k6 (xs:=rs) (fun pre acc τ G'=>(∃ a,τ=[a])/\∃ as:List Nat,acc=as.map D.ref/\fB G G'/\as.Nodup/\(∀ a∈as,G a=none)/\as.length=pre.length/\(∀ (i a:Nat) (r:List D),as[i]?=some a->pre[i]?=some r->G' a=some (.lst r))) ?_ (fun _ _ _ _ _=>trivial) ?_ ?_
 ·exact⟨⟨_,rfl⟩,[],rfl,.refl G,cH,fun _ h=>by(cases h),rfl,fun i a r h=>by simp at h⟩
 ·rintro pre r post acc τ G' N e ⟨⟨a,rfl⟩,as,rfl,le,nd,fr,ln,LO⟩ hN;simp only [aN,wm,av,ax,ao,aa,a8];refine P9 (IsL.dP) fun p hp=>?_;have hna:p∉as:=fun z=>by
   obtain⟨i,hi⟩:=nV z;have h1:i < pre.length:=by rw [<-ln]; exact(List.getElem?_eq_some_iff.mp hi).1
   have:=LO i p pre[i] hi (ay h1);rw [hp] at this; cases this
  refine hN _ _ _ ⟨⟨_,rfl⟩,as++[p],by simp,le.trans (.new hp),?_,fun b hb=>?_,by rw [au,au,ln]; rfl,fun i b r2 h1 h2=>?_⟩
  ·rw [eL];exact⟨nd,by simp,fun x hx y hy=>by rw [cy] at hy; subst hy; intro z; exact hna (z ▸ hx)⟩
  ·rcases List.mem_append.mp hb with z | z
   ·exact fr b z
   ·rw [cy] at z; rw [z]; exact le.free hp
  ·by_cases hi:i < as.length
   ·rw [cV hi] at h1;rw [cV (by rw [<-ln]; exact hi)] at h2;have:=LO i b r2 h1 h2;exact(fB.new hp) _ _ this
   ·rw [cD (by lia)] at h1;rw [cD (by lia)] at h2;have:i - as.length=0:=by
     have:=(List.getElem?_eq_some_iff.mp h1).1;simp at this; lia
    rw [this] at h1;rw [show i - pre.length=0 by lia] at h2;simp at h1 h2;subst h1 h2;exact aA
 ·rintro acc τ G' ⟨⟨a,rfl⟩,as,rfl,le,nd,fr,ln,LO⟩ p hp;have hna:p∉as:=fun z=>by
   obtain⟨i,hi⟩:=nV z;have h1:i < rs.length:=by rw [<-ln]; exact(List.getElem?_eq_some_iff.mp hi).1
   have:=LO i p rs[i] hi (ay h1);rw [hp] at this; cases this
  refine dh (q _ p as ⟨le.trans (.new hp),le.free hp,aA,hna,nd,fr,ln,fun i b r h1 h2=>?_⟩);exact(fB.new hp) _ _ (LO i b r h1 h2)
noncomputable def nG:iF :=
 (cG (Iu (kE (bD (Rf false) (ax 1) (ax 0))) (bL (bD i7 (bD uD (ax 1) (dC (.int 999))) (dC (.int 1))) (aN 1)))
 (c7 (c8 (ax 1))))
noncomputable def YF(n:Int):Int:=n % 999+1
noncomputable def fit(n:Int):Nat->Int
 | 0=>n
 | k+1=>YF (fit n k)
theorem zq{n:Int}(h1:1<=n)(h2:n<=999):∀ k:Nat,fit n k=(n - 1+k) % 999+1
 | 0=>by show n=_; lia
 | k+1=>by
  show YF (fit n k)=_;rw [zq h1 h2 k];unfold YF;lia
theorem PA{n:Int}{ns:List Int}(h1:1<=n)(h2:n<=999)(hl:ns.length<=500):∃ k,k<=ns.length/\fit n k∉ns:=by
 apply gB;intro Xn;have Aw:∀ k,k<=ns.length->fit n k∈ns:=fun k hk=>gB fun z=>Xn ⟨k,hk,z⟩;have nd:((fK (ns.length+1)).map fun k=>fit n k).Nodup:=by
  refine List.pairwise_iff_getElem.mpr fun i j hi hj LK=>?_;simp only [aq,AR] at hi hj;rw [ka,ka,qe,qe,zq h1 h2,zq h1 h2];lia
 have:=ig _ ns nd fun x hx=>by
  obtain⟨k,hk,rfl⟩:=List.mem_map.mp hx;exact Aw k (by have:=List.mem_range.mp hk; lia)
 simp at this;lia
noncomputable def gf:nQ:=fun ds G Q _=>∃ (d:D) (ns:List Int) (n:Int),ds=[d,.int n]/\IsL G d (ns.map D.int)/\(ns.length<=500/\1<=n/\n<=999)/\∀ m:Int,m∉ns->1<=m->m<=999->Q (.int m) G
theorem Ej{G:Gp}{d:D}{ns:List Int}{i:Int}{Q:DK}(h:IsL G d (ns.map D.int))(k:Q (.bl (decide (i∈ns))) G):Rf false (.int i) d G Q:=by
 have e:(ns.map D.int).any (fun x=>iM x (.int i))=decide (i∈ns):=Sx ns i;rcases h with rfl | ⟨a,rfl,g⟩
 ·refine⟨.int i,ns.map D.int,.int _,Sn.rI ns,?_⟩;simp only [aw,if_false];rw [e]; exact k
 ·unfold Rf;simp only [g];refine⟨.int i,ns.map D.int,.int _,Sn.rI ns,?_⟩;simp only [aw,if_false];rw [e]; exact k
theorem rC(ds:List D)(G:Gp)(Q:DK)(h:gf ds G Q fun _ _=>False):nG (fun _ _=>False) (ends Q) (bE 2 ds) G:=by
 obtain⟨d,ns,n,rfl,hd,⟨hl,h1,h2⟩,q⟩:=h;unfold nG;refine fU (fun τ G'=>G=G'/\∃ m:Int,(m∉ns/\1<=m/\m<=999)/\τ=[some d,some (.int m)]) ?_ ?_
 ·intro N hN;obtain⟨k,hk,pT⟩:=PA h1 h2 hl;have main:∀ (j:Nat),j<=k->DO (kE (bD (Rf false) (ax 1) (ax 0))) (bL (bD i7 (bD uD (ax 1) (dC (.int 999))) (dC (.int 1))) (aN 1)) (j+1) (fun _ _=>False) { ends Q with nx:=N } [some d,some (.int (fit n (k - j)))] G:=by
   intro j;induction j with
   | zero =>
    intro _;show DO _ _ (0+1) _ _ _ _;rw [DO];simp only [bL,bD,ax,ae,aa,dC,aN,ends,ar,ao,j0,dQ,fe];refine Ej hd ?_;simp only [Nat.sub_zero,pT,decide_false,cZ,aw,if_false];have:=zq h1 h2 k;exact hN _ _ ⟨rfl,_,⟨pT,by lia,by lia⟩,rfl⟩
   | succ j ih =>
    intro hj;rw [DO];simp only [bL,bD,ax,ae,aa,dC,aN,ends,ar,ao,j0,dQ,fe];refine Ej hd ?_;have hb:=zq h1 h2 (k - (j+1));by_cases hm:fit n (k - (j+1))∈ns
    ·simp only [hm,decide_true,cZ,if_true];refine⟨by decide,?_⟩;have e:fit n (k - (j+1)) % 999+1=fit n (k - j):=by
      rw [show k - j=(k - (j+1))+1 by lia]; rfl
     rw [e];exact ih (by lia)
    ·simp only [hm,decide_false,cZ,aw,if_false];exact hN _ _ ⟨rfl,_,⟨hm,by lia,by lia⟩,rfl⟩
  have:=main k (aI _);rw [Nat.sub_self] at this;exact⟨k+1,this⟩
 ·rintro _ _ ⟨rfl,m,⟨m1,m2,m3⟩,rfl⟩;simp only [c7,c8,ax,ae,aa,ends];exact dh (q m m1 m2 m3)
noncomputable abbrev dT(t:Tb):List (List D):=t.map fun r=>r.map D.int
structure Lk(rows:Rows):Prop where
 dr:Dr rows
 sp:∀ n∈names rows,∀ w:Int,w=0\/w=1->(∃ p∈rows.zipIdx 0,(⟨n,w⟩:T2)∈ui p.1 (p.2:Int))/\Uk rows ⟨n,w⟩ < rows.length
 hd:∀ n∈names rows,∃ p∈rows.flatten,p.a=n
end MJ
end K2
end
section
namespace K2
open PySem (Str)
open Enc (enc)
namespace MJ
open K2.T
open K2.P (names handOf Uk ui fI gv)
open K2.Y (fA pick iw iA cu fG cJ ig kM)
structure Cr where
 n:Int
 i:Nat
 j:Nat
 h:Int
noncomputable def Cr.ps(c:Cr):List T3:=[⟨c.n,0,c.h⟩,⟨c.n,1,c.h⟩]
noncomputable def flat(cs:List Cr):List T3:=cs.flatMap Cr.ps
structure CR(S:Nat)(rows:Rows)(cs:List Cr):Prop where
 len:rows.length=S
 perm:rows.flatten.Perm (flat cs)
 nd:(cs.map Cr.n).Nodup
 hand:∀ c∈cs,c.h=1\/c.h=-1
 ix:∀ c∈cs,c.i < S/\c.j < S
 VH:∀ c∈cs,∃ r,rows[c.i]?=some r/\(⟨c.n,0,c.h⟩:T3)∈r
 VG:∀ c∈cs,∃ r,rows[c.j]?=some r/\(⟨c.n,1,c.h⟩:T3)∈r
 Az:cs.length<=12
section
variable {S:Nat} {rows:Rows} {cs:List Cr}
theorem inj{c d:Cr}:∀ {cs:List Cr},(cs.map Cr.n).Nodup->c∈cs->d∈cs->c.n=d.n->c=d
 | e :: cs,h,hc,hd,hn=>by
  rw [aj,aP] at h;rcases List.mem_cons.mp hc with e1 | Bp
  ·rcases List.mem_cons.mp hd with e2 | hd2
   ·rw [e1,e2]
   ·exact absurd (by rw [<-e1,hn]; exact bC hd2) h.1
  ·rcases List.mem_cons.mp hd with e2 | hd2
   ·exact absurd (by rw [<-e2,<-hn]; exact bC Bp) h.1
   ·exact inj h.2 Bp hd2 hn
end
structure AL(G G':Gp)(as:List Nat)(rs:List (List D)):Prop where
 le:fB G G'
 nd:as.Nodup
 fr:∀ a∈as,G a=none
 len:as.length=rs.length
 at':∀ (i a:Nat) (r:List D),as[i]?=some a->rs[i]?=some r->G' a=some (.lst r)
theorem AL.nil(G:Gp):AL G G [] []:=⟨.refl G,cH,fun _ h=>by(cases h),rfl,fun i a r h=>by simp at h⟩
theorem AL.new{G G':Gp}{as:List Nat}{rs:List (List D)}(h:AL G G' as rs){p:Nat}(hp:G' p=none):p∉as:=fun z=>by
 obtain⟨i,hi⟩:=nV z;have h1:i < rs.length:=by rw [<-h.len]; exact(List.getElem?_eq_some_iff.mp hi).1
 have:=h.at' i p rs[i] hi (ay h1);rw [hp] at this; cases this
theorem AL.push{G G':Gp}{as:List Nat}{rs:List (List D)}(h:AL G G' as rs){p:Nat}(hp:G' p=none)(r:List D):AL G (dO G' p (.lst r)) (as++[p]) (rs++[r]):=by
 refine⟨h.le.trans (.new hp),?_,fun b hb=>?_,by rw [au,au,h.len]; rfl,fun i b r2 h1 h2=>?_⟩
 ·rw [eL];exact⟨h.nd,by simp,fun x hx y hy=>by rw [cy] at hy; subst hy; intro z; exact h.new hp (z ▸ hx)⟩
 ·rcases List.mem_append.mp hb with z | z
  ·exact h.fr b z
  ·rw [cy] at z; rw [z]; exact h.le.free hp
 ·by_cases hi:i < as.length
  ·rw [cV hi] at h1;rw [cV (by rw [<-h.len]; exact hi)] at h2;exact(fB.new hp) _ _ (h.at' i b r2 h1 h2)
  ·have ln:=h.len;rw [cD (by lia)] at h1;rw [cD (by lia)] at h2;have:i - as.length=0:=by
    have:=(List.getElem?_eq_some_iff.mp h1).1;simp at this; lia
   rw [this] at h1;rw [show i - rs.length=0 by lia] at h2;simp at h1 h2;subst h1 h2;exact aA
theorem AL.top{G G':Gp}{as:List Nat}{rs:List (List D)}(h:AL G G' as rs){p:Nat}(hp:G' p=none):HL G (dO G' p (.lst (as.map D.ref))) p as rs :=
 ⟨h.le.trans (.new hp),h.le.free hp,aA,h.new hp,h.nd,h.fr,h.len,fun i b r h1 h2=>(fB.new hp) _ _ (h.at' i b r h1 h2)⟩
theorem CY{i:Nat}{t:iF}{E:lX}{K:lH}{τ:ik}{G:Gp}:Iw i t E K τ G=t E { K with nx:=fun o8 G1=>match o8[i]? with
 | some (some d)=>Mm G1 d fun t G2=>K.nx (o8.set i (some t)) G2
 | _=>False } τ G:=rfl
end MJ
end K2
end
section
namespace K2
open PySem (Str)
open Enc (enc)
namespace VP
open K2.P
section
variable {α β:Type} [DecidableEq α] [DecidableEq β]
structure Tr(V:List α)(R:α->α->Prop)(A:List α):Prop where
 pw:A.Pairwise fun a b=>¬ R a b
 cov:∀ v∈V,∃ a∈A,R v a
 in':∀ a∈A,a∈V
structure Eqv(R:α->α->Prop):Prop where
 rf:∀ x,R x x
 sy:∀ {x y},R x y->R y x
 tr:∀ {x y z},R x y->R y z->R x z
variable {V:List α} {R:α->α->Prop}
noncomputable def it(f:α->α):Nat->α->α
 | 0,a=>a
 | n+1,a=>f (it f n a)
structure Pm(V:List α)(f:α->α):Prop where
 cl:∀ a∈V,f a∈V
 inj:∀ a∈V,∀ b∈V,f a=f b->a=b
variable {f:α->α}
noncomputable def gr(V:List α)(f:α->α):List (α×α):=V.map fun a=>(a,f a)
end
end VP
end K2
end
section
namespace K2
open PySem (Str)
open Enc (enc)
namespace VP
open K2.P
variable {rows:Rows}
noncomputable def flp(z:T3):T3:=⟨z.a,z.b,1 - z.c⟩
noncomputable def swp(off:List T2)(z:T3):T3:=if z.s∈off then flp z else z
noncomputable def phi(rows:Rows)(off:List T2)(a:T3):T3:=swp off (step rows a)
noncomputable def aa7(rows:Rows):List T2:=rows.flatten.map T3.s
noncomputable def aaZ(rows:Rows):List T2:=(SQ rows).filter fun s=>decide (s.b=2)
noncomputable def pr(s:T2):T3×T3:=(ZV s,Zh s)
noncomputable def base(rows:Rows):List (T3×T3):=gr (Wx rows) (phi rows (aa7 rows))++(aaZ rows).map pr
end VP
end K2
end
section
namespace K2
open PySem (Str)
open Enc (enc)
namespace K12
open K2.P
structure HR(G G':Gp)(p0:Nat)(as:List Nat)(rs:Rows):Prop where
 le:fB G G'
 fp:G p0=none
 gp:G' p0=some (.lst (as.map D.ref))
 np:p0∉as
 nd:as.Nodup
 fr:∀ a∈as,G a=none
 len:as.length=rs.length
 at':∀ (i a:Nat) (r:List T3),as[i]?=some a->rs[i]?=some r->G' a=some (.lst (r.map enc))
structure MI(st:Int)(n:Nat)(name:Int)(L:List T3):Prop where
 off:∃ off:Int,0<=off/\off<=83 * n/\name=(st+off) % 999/\∀ p∈L,∃ o:Int,0 < o/\o<=off/\p.a=(st+o) % 999+1
 nd:(L.map T3.s).Nodup
 way:∀ p∈L,p.b=0\/p.b=1
 hand:∀ p∈L,p.c=1\/p.c=-1
 Hv:∀ p∈L,(⟨p.a,1 - p.b,p.c⟩:T3)∈L
 len:L.length=2 * n
end K12
end K2
end
section
namespace K2
open PySem (Str)
open Enc (enc)
namespace K13
open K2.P K2.K12
variable {rows:Rows}
theorem OY{c:w9}{a b:iF}{E:lX}{K:lH}{τ:ik}{G:Gp}:kZ c a b E K τ G=c E τ G fun k G1=>if k=true then a E K τ G1 else b E K τ G1:=rfl
end K13
end K2
end
section
namespace K2
open PySem (Str)
open Enc (enc)
namespace K13
open K2.P K2.K12
variable {rows:Rows}
structure HI(n:Nat)(ps:List (Int×Int))(RW:List Int):Prop where
 len:RW.length=n
 WA:∀ x∈RW,0<=x/\x < (n:Int)
 eq:∀ i j:Nat,i < n->j < n->(RW.getD i 0=RW.getD j 0↔Cn ps (i:Int) (j:Int))
end K13
end K2
end
section
namespace K2
open PySem (Str)
open Enc (enc)
namespace VP
open K2.P
variable {rows:Rows}
end VP
end K2
end
section
namespace K2
open PySem (Str)
open Enc (enc)
namespace QK
open K2.P K2.VP
section
variable {α:Type} [DecidableEq α]
noncomputable def dd(l:List α):List α:=l.foldl (fun acc x=>if x∈acc then acc else acc++[x]) []
end
variable {rows:Rows}
end QK
end K2
end
section
namespace K2
open PySem (Str)
open Enc (enc)
noncomputable instance:Dj T2 where
 mn:=by
  intro x G xs Q hi Bn k;cases xs with
  | nil=>exact absurd rfl Bn
  | cons a r =>
   obtain⟨h1,h2⟩:=mT r a;have ei:itemsOf x G=some (((a :: r).map T2.l).map tI):=by rw [hi,aW]; rfl
   refine .inr ⟨(a :: r).map T2.l,_,ei,rfl,?_⟩;have:∀ (r:List T2) (a:T2),(r.map T2.l).foldl (fun m x=>if lexLt x m=true then x else m) a.l=(r.foldl (fun m x=>if bt.lt x m=true then x else m) a).l:=by
    intro r;induction r with
    | nil=>intro a; rfl
    | cons b r ih =>
     intro a;rw [aj,cR,cR];have e:(if lexLt b.l a.l=true then b.l else a.l)=(if bt.lt b a=true then b else a).l:=by
      have:bt.lt b a=lexLt b.l a.l:=tw _ _;rw [this];split <;> rfl
     rw [e]; exact ih _
   rw [this r a];exact k _ h1 h2
namespace QK
open K2.P K2.VP K2.T
open K2.Y (kM)
variable {rows:Rows}
end QK
end K2
end
section
namespace K2
open PySem (Str)
open Enc (enc)
namespace QK
open K2.P K2.T
open K2.MJ (CR Cr AL eP YF ji CY)
open K2.Y (fA pick iw iA cu fG cJ ig kM)
theorem OY{c:w9}{a b:iF}{E:lX}{K:lH}{τ:ik}{G:Gp}:kZ c a b E K τ G=c E τ G fun k G1=>if k=true then a E K τ G1 else b E K τ G1:=rfl
theorem eq_int(i j:Int):iM (.int i) (.int j)=decide (i=j):=Enc.eqv i j
noncomputable def t6(L:List T3):List Int:=(L.filter fun p=>p.b == 0).map (·.a)
noncomputable def gc:nQ:=Uo (fun rows:Rows=>rows.flatten.length<=500) fun rows=>t6 rows.flatten
noncomputable def uz:iF :=
 (cG (bL (gR a8) (aN 1))
 (cG (fb (mR (ax 0)) (aN 2) (fb (mR (ax 2)) (aN 3) (kZ (kE (bD (K9 false) (bD mf (ax 3) (dC (.int 1))) (dC (.int 0)))) (jj (t8 Gd lR (ax 1) (av (bD mf (ax 3) (dC (.int 0))) a8))) gK)))
 (c7 (c8 (ax 1)))))
theorem rM(L:List T3):(t6 L).length<=L.length:=by unfold t6; rw [aq]; exact dF _ _
theorem RH(a b:List T3):t6 (a++b)=t6 a++t6 b:=by unfold t6; rw [eY,aQ]
theorem vo(ds:List D)(G:Gp)(Q:DK)(h:gc ds G Q fun _ _=>False):uz (fun _ _=>False) (ends Q) (bE 4 ds) G:=by
 obtain⟨rows,rfl,hl,q⟩:=h;unfold uz;simp only [ends,bE,aj,bq,ak,aF,bg,aB,aU,cU,bL,gR,a8,aN,ar,ao];refine⟨by decide,fun p hp=>?_⟩;refine fU (fun τ G'=>(∃ a b,τ=[some (enc rows),some (.ref p),a,b])/\fB G G'/\G' p=some (.lst ((t6 rows.flatten).map enc))) ?_ ?_
 ·intro N hN;simp only [fb,eW,ax,aa];refine iC ?_;refine dM (xs:=rows) (fun pre τ G'=>(∃ a b,τ=[some (enc rows),some (.ref p),a,b])/\fB G G'/\G' p=some (.lst ((t6 pre.flatten).map enc))) ⟨⟨_,_,rfl⟩,.new hp,aA⟩ (fun _ _ _ _=>trivial) ?_ ?_
  ·rintro pre r post τ G' N2 e ⟨⟨a,b,rfl⟩,l,gp⟩ nj;have hlen:pre.flatten.length+r.length<=rows.flatten.length:=by
    rw [e]; simp only [cW,aX,au]; lia
   simp only [aN,fb,ar,ao,eW,ax,ae,aa];refine iC ?_;refine dM (xs:=r) (fun pp τ G'=>(∃ a b,τ=[some (enc rows),some (.ref p),a,b])/\fB G G'/\G' p=some (.lst ((t6 (pre.flatten++pp)).map enc))) ⟨⟨_,_,rfl⟩,l,by rw [bN]; exact gp⟩ (fun _ _ _ _=>trivial) ?_ ?_
   ·rintro pp t pt τ G4 N3 e4 ⟨⟨a,b,rfl⟩,l4,Vn⟩ HQ;have hpp:pp.length < r.length:=by have:=congrArg di e4; simp at this; lia
    have hz:=rM (pre.flatten++pp);rw [au] at hz;simp only [aN,CN,ar,ao,OY,jj,t8,ax,ae,aa,jU,av,bD,dC,a8,fg,je,VH,gK,fe,VG];refine⟨_,_,.int _,.int _,?_⟩;rw [eq_int];have eu:t6 (pre.flatten++(pp++[t]))=t6 (pre.flatten++pp)++t6 [t]:=by rw [<-bB,RH]
    by_cases hb:t.b=0
    ·simp only [aw,hb,decide_true,cb,if_false,cZ,Vn,true_and,if_true];refine⟨KS (by rw [aq]; lia),HQ _ _ ⟨⟨_,_,rfl⟩,l4.put hp,?_⟩⟩;rw [aA,eu,aQ];have:t6 [t]=[t.a]:=by simp [t6,hb]
     rw [this]; rfl
    ·simp only [aw,hb,decide_false,eX,if_false,cZ];refine HQ _ _ ⟨⟨_,_,rfl⟩,l4,?_⟩;have:t6 [t]=[]:=by simp [t6,hb]
     rw [eu,this,bN]; exact Vn
   ·rintro τ G4 ⟨⟨a,b,rfl⟩,l4,Vn⟩;refine nj _ _ ⟨⟨_,_,rfl⟩,l4,?_⟩;have:(pre++[r]).flatten=pre.flatten++r:=by simp
    rw [this]; exact Vn
  ·rintro τ G' ⟨⟨a,b,rfl⟩,l,gp⟩;exact hN _ _ ⟨⟨_,_,rfl⟩,l,gp⟩
 ·rintro _ G' ⟨⟨a,b,rfl⟩,l,gp⟩;simp only [c7,c8,ax,ae,aa];exact iq l hp gp q
theorem JX{G G2:Gp}{d:D}{ds:List D}{R:List D->(Gp->Prop)->Gp->Prop}(h:IsL G d ds)(l:fB G G2)(k:∀ ok:Gp->Prop,(∀ G',fB G G'->ok G')->R ds ok G2):QG d G2 R:=by
 rcases h with rfl | ⟨a,rfl,e⟩
 ·exact k _ fun _ _=>trivial
 ·rw [JY (l _ _ e)];exact k _ fun G' le=>le _ _ e
end QK
end K2
end
section
namespace K2
open PySem (Str)
open Enc (enc)
namespace JB
open K2.T
open K2.P (names handOf fI gv mr xQ pairsOf)
open K2.Y (fA pick iw iA cu fG cJ kM)
open K2.MJ (AL ji CY)
open K2.QK (JX t6 rM)
noncomputable def eP:nQ:=MJ.eP
noncomputable def nH:iF :=
 (c7 (c8 (gW 1 [] (mR (ax 0)) (aN 0) none (wm w8 (av (ax 0) a8)))))
theorem rD(ds:List D)(G:Gp)(Q:DK)(h:eP ds G Q fun _ _=>False):nH (fun _ _=>False) (ends Q) (bE 1 ds) G:=MJ.rD ds G Q h
noncomputable def gf:nQ:=MJ.gf
noncomputable def nG:iF :=
 (cG (Iu (kE (bD (Rf false) (ax 1) (ax 0))) (bL (bD i7 (bD uD (ax 1) (dC (.int 999))) (dC (.int 1))) (aN 1)))
 (c7 (c8 (ax 1))))
theorem rC(ds:List D)(G:Gp)(Q:DK)(h:gf ds G Q fun _ _=>False):nG (fun _ _=>False) (ends Q) (bE 2 ds) G:=MJ.rC ds G Q h
noncomputable def yv:iF :=
 (cG (bL (bH eP (av (ax 0) a8)) (aN 4))
 (cG (bL (bD uD (ax 2) (bD i7 (wm xm (av (bD mf (ax 4) (ax 1)) a8)) (dC (.int 1)))) (aN 2))
 (cG (bL (bD i7 (bD i7 (CW (bD mf (ax 4) (ax 1)) gm (pY (ax 2))) (ax 3)) (CW (bD mf (ax 4) (ax 1)) (pY (ax 2)) gm)) (kW (ax 4) (ax 1)))
 (c7 (c8 (ax 4))))))
noncomputable def jy:nQ:=fun ds G Q _=>∃ (rs:List (List D)) (i:Nat) (pl:Int) (more:List D),ds=[.dP (rs.map D.dP),.int i,.int pl,.dP more]/\(i < rs.length/\rs.length<=1000/\(∀ r∈rs,r.length<=500)/\more.length<=100)/\∀ (r:List D) (k:Nat),rs[i]?=some r->k<=r.length->(k:Int)=pl % ((r.length:Int)+1)->Q (.dP ((rs.set i (r.take k++more++r.drop k)).map D.dP)) G
theorem IM(ds:List D)(G:Gp)(Q:DK)(h:jy ds G Q fun _ _=>False):yv (fun _ _=>False) (ends Q) (bE 5 ds) G:=by
 obtain⟨rs,i,pl,more,rfl,⟨hi,hl,hr,hm⟩,q⟩:=h;unfold yv;simp only [ends,bE,aj,bq,ak,aF,bg,aB,aU,cU,bL,bH,av,ax,aa,a8,aN,ar,ao,bD,ae,wm,dC,CW,gm,kW,c7,c8,j7];refine⟨rs,rfl,hl,fun G1 p0 as h1=>?_⟩;obtain⟨r,er⟩:∃ r,rs[i]?=some r:=⟨rs[i],ay hi⟩;have hrl:=hr r (eZ er);obtain⟨a,ea,ga,ia⟩:=h1.row (i:=i) (r:=r) er;refine He (IsL.ref h1.gp) ia (C2 (IsL.ref ga) ?_);simp only [dQ,j0,gw];refine⟨by lia,?_⟩;have c1:0<=pl % ((r.length:Int)+1):=vF _ (by lia);have c2:pl % ((r.length:Int)+1) < (r.length:Int)+1:=qm _ (by lia);generalize ec:pl % ((r.length:Int)+1)=c at c1 c2;obtain⟨k,rfl⟩:∃ k:Nat,c=(k:Int):=⟨c.toNat,by lia⟩;have hk:k<=r.length:=by lia
 refine He (IsL.ref h1.gp) ia (B7 (IsL.ref ga) fun p1 f1=>?_);rw [Iz _ _ hk];have l1:=fB.new (o:=.lst (r.take k)) f1;refine pj (IsL.ref aA) (IsL.dP) (by rw [eD]; exact Dt (by lia)) fun p2 f2=>?_;have l2:=fB.new (o:=.lst (r.take k++more)) f2;have Yr:=l1.trans l2;refine He (IsL.ref (Yr _ _ h1.gp)) ia (B7 (IsL.ref (Yr _ _ ga)) fun p3 f3=>?_);rw [zA _ _ hk];have l3:=fB.new (o:=.lst (r.drop k)) f3;refine pj (IsL.ref (l3 _ _ aA)) (IsL.ref aA) (by simp only [au,eD,cN]; exact Dt (by lia)) fun p4 f4=>?_;have l4:=fB.new (o:=.lst (r.take k++more++r.drop k)) f4;have h4:=h1.ext ((Yr.trans l3).trans l4);have hn:∀ o,G1 p4≠some o:=fun o z=>by
  have:=(Yr.trans l3) _ _ z;rw [f4] at this; cases this
 have n4:p4∉as:=fun z=>by
  obtain⟨j,hj⟩:=nV z;have hjl:j < rs.length:=by rw [<-h1.len]; exact(List.getElem?_eq_some_iff.mp hj).1
  exact hn _ (h1.at' j p4 _ hj (ay hjl))
 have n0:p4≠p0:=fun z=>hn _ (by rw [z]; exact h1.gp);have hf4:G p4=none:=by
  cases e:G p4 with
  | none=>rfl
  | some o=>exact absurd (h1.le _ _ e) (hn o)
 have hj:i < as.length:=(List.getElem?_eq_some_iff.mp ea).1;have h5:=h4.NJ (r':=r.take k++more++r.drop k) hj aA n4 hf4 n0;unfold wD;simp only [h4.gp];have ei:Gh (as.map D.ref).length (i:Int)=some i:=by
  unfold Gh;rw [if_pos (by lia),if_pos (by rw [aq]; lia)]; simp
 simp only [ei];have es:(as.map D.ref).set i (.ref p4)=(as.set i p4).map D.ref:=by rw [Qv]
 rw [es];refine h5.fz ?_;exact q r k er hk ec.symm
theorem Hf{α:Type} [DecidableEq α] [Enc α]{G:Gp}{Q:DK}{rows:List (List α)}{i:Nat}{pl:Int}{more:List α}(h:i < rows.length/\rows.length<=1000/\(∀ r∈rows,r.length<=500)/\more.length<=100)
  (q:∀ (r:List α) (k:Nat),rows[i]?=some r->k<=r.length->(k:Int)=pl % ((r.length:Int)+1)->Q (enc (rows.set i (r.take k++more++r.drop k))) G):jy [enc rows,.int i,.int pl,enc more] G Q fun _ _=>False:=by
 refine⟨rows.map fun r=>r.map enc,i,pl,more.map enc,by rw [ji]; rfl,⟨by rw [aq]; exact h.1,by rw [aq]; exact h.2.1,fun r hr=>?_,by rw [aq]; exact h.2.2.2⟩,fun r k hr hk e=>?_⟩
 ·obtain⟨r',Xk,rfl⟩:=List.mem_map.mp hr;rw [aq]; exact h.2.2.1 r' Xk
 ·rw [bA] at hr;obtain⟨r',Xk,rfl⟩:=Option.map_eq_some_iff.mp hr;rw [aq] at hk e;have:=q r' k Xk hk e;rw [ji,Qv,aQ,aQ,Mp,Mq] at this;exact this
theorem Dr.two{rows R:Rows}(d:Dr rows){m h:Int}(hm:∀ p∈rows.flatten,p.a≠m)(hh:h=1\/h=-1)(hp:R.flatten.Perm (⟨m,1,h⟩ :: ⟨m,0,h⟩ :: rows.flatten))(Az:rows.flatten.length<=22)(str:R.length<=3):Dr R:=by
 have mem:∀ p,p∈R.flatten↔p=⟨m,1,h⟩\/p=⟨m,0,h⟩\/p∈rows.flatten:=fun p=>by rw [hp.mem_iff,aO,aO]
 refine⟨?_,fun p h1=>?_,fun p h1=>?_,fun p h1=>?_,?_,str⟩
 ·refine(hp.map T3.s).nodup_iff.mpr ?_;rw [aj,aj,aP,aP];have out:∀ w:Int,(⟨m,w⟩:T2)∉rows.flatten.map T3.s:=fun w z=>by
   obtain⟨p,t7,e⟩:=List.mem_map.mp z;injection e with e1 _
   exact hm p t7 e1
  refine⟨fun z=>?_,out 0,d.nd⟩;rcases List.mem_cons.mp z with z | z
  ·injection z with _ z2; cases z2
  ·exact out 1 z
 ·rcases (mem p).mp h1 with rfl | rfl | h1
  ·exact .inr rfl
  ·exact .inl rfl
  ·exact d.way p h1
 ·rcases (mem p).mp h1 with rfl | rfl | h1
  ·exact hh
  ·exact hh
  ·exact d.hand p h1
 ·rcases (mem p).mp h1 with rfl | rfl | h1
  ·exact(mem _).mpr (.inr (.inl rfl))
  ·exact(mem _).mpr (.inl rfl)
  ·exact(mem _).mpr (.inr (.inr (d.Hv p h1)))
 ·rw [hp.length_eq,ak,ak]; lia
theorem Dr.nil{S:Nat}(h:S<=3):Dr (bg S []):=by
 have e:(bg S ([]:List T3)).flatten=[]:=by
  rw [List.flatten_eq_nil_iff]; intro l hl; exact(List.mem_replicate.mp hl).2
 refine⟨by rw [e]; exact cH,fun p hp=>?_,fun p hp=>?_,fun p hp=>?_,by rw [e]; simp,by simpa using h⟩ <;> rw [e] at hp <;> cases hp
theorem E1{rows:Rows}{i k:Nat}{r more:List T3}(hr:rows[i]?=some r):(rows.set i (r.take k++more++r.drop k)).flatten.Perm (more++rows.flatten):=by
 refine(Pw hr).trans ?_;refine kb ?_ ((R0 hr).symm.append_left _);rw [<-bB];refine List.Perm.append_right _ ?_
 conv=>rhs; rw [<-jk k r]
 rw [<-bB];exact List.perm_append_comm.append_right _
noncomputable def abd(rows:Rows)(ns:List Int):Prop:=∀ p∈rows.flatten,p.a∈ns
noncomputable def qL:iF :=
 (cG (Iw 3 (bL (gW 1 [] (y9 (ax 1)) (aN 0) none (gR a8)) (aN 3)))
 (cG (bL (gR a8) (aN 4))
 (cG (fb (mR (ax 0)) (aN 5) (cG (bL (bH gf (av (ax 4) (av (bD i7 (dC (.int 1)) (bH cJ (av (ax 5) (av (dC (.int 10007)) (av (ax 2) a8))))) a8))) (aN 6))
 (cG (jj (t8 Gd lR (ax 4) (av (ax 6) a8)))
 (cG (bL (bD Hd (dC (.int 1)) (bD sA (dC (.int 2)) (bH cJ (av (ax 5) (av (dC (.int 10009)) (av (dC (.int 2)) a8)))))) (aN 7))
 (fb (y9 (dC (.int 2))) (aN 8) (cG (bL (bD i7 (dC (.int 10037)) (bD sA (dC (.int 24)) (ax 8))) (aN 9))
 (cG (bL (bH cJ (av (ax 5) (av (bD i7 (dC (.int 10039)) (bD sA (dC (.int 28)) (ax 8))) (av (dC (.int 10000)) a8)))) (aN 10))
 (bL (c8 (bH jy (av (c8 (ax 3)) (av (c8 (bH cJ (av (ax 5) (av (ax 9) (av (ax 1) a8))))) (av (c8 (ax 10)) (av (c8 (gR (av (gQ (av (ax 6) (av (ax 8) (av (ax 7) a8)))) a8))) a8)))))) (aN 3)))))))))
 (c7 (c8 (ax 3))))))
noncomputable def jV:nQ:=fun ds G Q _=>∃ (d:D) (cells:List Int) (S:Nat) (sp:Int),ds=[d,.int S,.int sp]/\IsL G d (cells.map D.int)/\(cells.length<=12/\(1<=S/\S<=3)/\1<=sp/\sp<=999) /\
 ∀ rows:Rows,Dr rows->rows.length=S->rows.flatten.length=2 * cells.length->Q (enc rows) G
theorem zN(ds:List D)(G:Gp)(Q:DK)(h:jV ds G Q fun _ _=>False):qL (fun _ _=>False) (ends Q) (bE 11 ds) G:=by
 obtain⟨d,cells,S,sp,rfl,hd,⟨O9,⟨hS1,hS3⟩,sp1,sp2⟩,q⟩:=h;unfold qL;simp only [ends,bE,aj,bq,ak,aF,bg,aB,aU,qE,CY,bL,gW,aN,ar,ao,ae,aa,gR,a8,j5,ax,iO,eN];have Xj:(-(2 ^ 62):Int)<=(S:Int)/\(S:Int) < 2 ^ 62:=by lia
 refine⟨Xj.1,Xj.2,Dt (by simp [gH]; lia),?_⟩;refine Sg (fun pre acc τ G'=>(∃ a,τ=[a])/\∃ as:List Nat,acc=as.map D.ref/\AL G G' as (bg pre.length [])) ⟨⟨_,rfl⟩,[],rfl,.nil G⟩ (fun _ _ _ _ _=>trivial) ?_ ?_
 ·rintro pre x post acc τ G' N e ⟨⟨a,rfl⟩,as,rfl,al⟩ hN;simp only [aN,gR,a8,aF,ao];refine⟨by decide,fun p hp=>hN _ _ _ ⟨⟨_,rfl⟩,as++[p],by simp,?_⟩⟩;rw [au,dg,List.replicate_succ'];exact al.push hp []
 rintro acc τ G' ⟨⟨a,rfl⟩,as,rfl,al⟩ p3 f3;refine(al.top f3).fz ?_;have e3:D.dP ((bg (gH 0 S).length ([]:List D)).map D.dP)=enc (bg S ([]:List T3)):=by
  rw [ji]; simp [gH]
 rw [e3];clear al f3 p3 as G' a e3;refine⟨by decide,fun p6 f6=>?_⟩;simp only [fb];simp only [eW,ax,aa];refine JX hd (.new f6) fun ok cL=>?_;refine dM (xs:=cells) (f:=D.int) (fun pre τ G'=>fB G G'/\∃ (rows:Rows) (ns:List Int) (a1 a2 a3 a4 a5 a6:Option D),(Dr rows/\rows.length=S/\rows.flatten.length=2 * pre.length/\ns.length=pre.length/\abd rows ns)/\G' p6=some (.lst (ns.map D.int)) /\
  τ=[some d,some (.int S),some (.int sp),some (enc rows),some (.ref p6),a1,a2,a3,a4,a5,a6]) ⟨.new f6,_,[],_,_,_,_,_,_,⟨Dr.nil hS3,by simp,by simp,rfl,fun p hp=>by simp at hp⟩,aA,rfl⟩ (fun _ _ _ h=>cL _ h.1) ?_ ?_
 ·rintro pre x post τ G' N2 e ⟨le,rows,ns,a1,a2,a3,a4,a5,a6,⟨dr,hlen,hfl,Xz,Xo⟩,g6',rfl⟩ nj;have hlp:=kM e;simp only [aN,ar,ao,qE,bL,bH,av,ax,ae,aa,bD,dC,a8,jj,t8,jU,fg];refine⟨_,_,_,rfl,⟨by decide,by lia⟩,?_⟩;simp only [dQ];have q1:=iw x 10007 (m:=sp) (by lia);have q2:=iA x 10007 (m:=sp) (by lia);refine⟨.ref p6,ns,_,rfl,IsL.ref g6',⟨by lia,by lia,by lia⟩,fun m m1 m2 m3=>?_⟩;simp only [g6',true_and];refine⟨KS (by rw [aq]; lia),?_⟩;have QE:fB G (dO G' p6 (.lst (ns.map D.int++[.int m]))):=le.put f6;have g62:(dO G' p6 (.lst (ns.map D.int++[.int m]))) p6=some (.lst (ns.map D.int++[.int m])):=aA;generalize dO G' p6 (.lst (ns.map D.int++[.int m]))=G2 at QE g62;refine⟨_,_,_,rfl,by decide,?_⟩;simp only [jZ,oE];have h1:=iw x 10009 (m:=2) (by decide);have h2:=iA x 10009 (m:=2) (by decide);refine⟨.inl ⟨by decide,by decide⟩,?_⟩;have hh:(1 - 2 * pick x 10009 2)=1\/(1 - 2 * pick x 10009 2)=-1:=by lia
  generalize (1 - 2 * pick x 10009 2)=hd at hh;simp only [fb];simp only [j5,dC,iO];refine⟨by decide,by decide,?_⟩;have er:gH 0 (Int.toNat 2)=([0,1]:List Int).map D.int:=rfl;rw [er];have rl:=NG dr;have fw:=dr.Az;have hmf:∀ p∈rows.flatten,p.a≠m:=fun p hp z=>m1 (z ▸ Xo p hp);refine dM (xs:=([0,1]:List Int)) (f:=D.int) (fun Ap τ G3=>G2=G3/\∃ (R:Rows) (b1 b2 b3:Option D),((Ap=[]/\R=rows)\/(∃ (i:Nat) (r:List T3) (k:Nat),Ap=[0]/\i < S/\rows[i]?=some r/\R=rows.set i (r.take k++[⟨m,0,hd⟩]++r.drop k))\/(Ap=[0,1]/\Dr R/\R.length=S/\R.flatten.Perm (⟨m,1,hd⟩ :: ⟨m,0,hd⟩ :: rows.flatten))) /\
   τ=[some d,some (.int S),some (.int sp),some (enc R),some (.ref p6),some (.int x),some (.int m),some (.int hd),b1,b2,b3]) ⟨rfl,rows,_,_,_,.inl ⟨rfl,rfl⟩,rfl⟩ (fun _ _ _ _=>trivial) ?_ ?_
  ·rintro Ap w abE τ G3 N3 e2 ⟨rfl,R,b1,b2,b3,J,rfl⟩ HQ;have VA:(Ap=[]/\w=0)\/(Ap=[0]/\w=1):=by
    cases Ap with
    | nil=>cases e2; exact .inl ⟨rfl,rfl⟩
    | cons u Ap =>
     cases Ap with
     | nil=>cases e2; exact .inr ⟨rfl,rfl⟩
     | cons v Ap =>
      have:=congrArg di e2;simp at this
   rcases VA with ⟨rfl,rfl⟩ | ⟨rfl,rfl⟩
   ·have eR:R=rows:=by
     rcases J with ⟨_,z⟩ | ⟨_,_,_,z,_⟩ | ⟨z,_⟩
     ·exact z
     ·cases z
     ·cases z
    subst eR;simp only [aN,ar,ao,qE,bL,bD,dC,ax,ae,aa,bH,av,a8,c8,gR,gQ,ak,aF,jZ,dQ];refine⟨.inl ⟨by decide,by decide⟩,?_⟩;refine⟨.inl ⟨by decide,by decide⟩,?_⟩;refine⟨_,_,_,rfl,⟨by decide,by decide⟩,?_⟩;refine dh ⟨_,_,_,rfl,⟨by decide,by lia⟩,dh ?_⟩;have i1:=iw x (10037+24 * 0) (m:=S) (by lia);have i2:=iA x (10037+24 * 0) (m:=S) (by lia);generalize pick x (10037+24 * 0) S=oi at i1 i2;obtain⟨i,rfl⟩:∃ i:Nat,oi=(i:Int):=⟨oi.toNat,by lia⟩;refine dh ⟨by decide,by decide,fun pa fa=>?_⟩;refine iq (xs:=[(⟨m,0,hd⟩:T3)]) (.new fa) fa aA ?_;refine Hf (rows:=R) (more:=[(⟨m,0,hd⟩:T3)]) ⟨by rw [hlen]; lia,by rw [hlen]; lia,fun r hr=>by have:=rl r hr; lia,by simp⟩ fun r k hr hk ek=>dh ?_;exact HQ _ _ ⟨rfl,_,_,_,_,.inr (.inl ⟨i,r,k,rfl,by lia,hr,rfl⟩),rfl⟩
   ·obtain⟨i,r,k,hi,hr,rfl⟩:∃ (i:Nat) (r:List T3) (k:Nat),i < S/\rows[i]?=some r/\R=rows.set i (r.take k++[⟨m,0,hd⟩]++r.drop k):=by
     rcases J with ⟨z,_⟩ | ⟨i,r,k,_,z⟩ | ⟨z,_⟩
     ·cases z
     ·exact⟨i,r,k,z⟩
     ·cases z
    simp only [aN,ar,ao,qE,bL,bD,dC,ax,ae,aa,bH,av,a8,c8,gR,gQ,ak,aF,jZ,dQ];refine⟨.inl ⟨by decide,by decide⟩,?_⟩;refine⟨.inl ⟨by decide,by decide⟩,?_⟩;refine⟨_,_,_,rfl,⟨by decide,by decide⟩,?_⟩;refine dh ⟨_,_,_,rfl,⟨by decide,by lia⟩,dh ?_⟩;have i1:=iw x (10037+24 * 1) (m:=S) (by lia);have i2:=iA x (10037+24 * 1) (m:=S) (by lia);generalize pick x (10037+24 * 1) S=oj at i1 i2;obtain⟨j,rfl⟩:∃ i:Nat,oj=(i:Int):=⟨oj.toNat,by lia⟩;refine dh ⟨by decide,by decide,fun pa fa=>?_⟩;refine iq (xs:=[(⟨m,1,hd⟩:T3)]) (.new fa) fa aA ?_;refine Hf (more:=[(⟨m,1,hd⟩:T3)]) ⟨by rw [eg,hlen]; lia,by rw [eg,hlen]; lia,fun r2 hr2=>?_,by simp⟩ fun r' k' Xk Yy ek'=>dh ?_
    ·rcases I0 hr2 with z | z
     ·have:=rl r2 z; lia
     ·have:=rl r (eZ hr);rw [z,au,au,dg,eD,cN]; lia
    have pf:=(E1 (k:=k') (more:=[⟨m,1,hd⟩]) Xk).trans ((E1 (k:=k) (more:=[⟨m,0,hd⟩]) hr).append_left _);have PL:Dr ((rows.set i (r.take k++[⟨m,0,hd⟩]++r.drop k)).set j (r'.take k'++[⟨m,1,hd⟩]++r'.drop k')):=K2.JB.Dr.two dr hmf hh pf (by lia) (by rw [eg,eg]; lia);exact HQ _ _ ⟨rfl,_,_,_,_,.inr (.inr ⟨rfl,PL,by rw [eg,eg]; exact hlen,pf⟩),rfl⟩
  ·rintro τ G3 ⟨rfl,R,b1,b2,b3,J,rfl⟩;obtain⟨drn,ln,pf⟩:Dr R/\R.length=S/\R.flatten.Perm (⟨m,1,hd⟩ :: ⟨m,0,hd⟩ :: rows.flatten):=by
    rcases J with ⟨z,_⟩ | ⟨_,_,_,z,_⟩ | ⟨_,z⟩
    ·cases z
    ·cases z
    ·exact z
   refine nj _ _ ⟨QE,R,ns++[m],_,_,_,_,_,_,⟨drn,ln,by rw [pf.length_eq,ak,ak,au,dg]; lia,by rw [au,au,Xz]; rfl,fun p hp=>?_⟩,?_,rfl⟩
   ·rcases List.mem_cons.mp (pf.mem_iff.mp hp) with rfl | hp
    ·simp
    ·rcases List.mem_cons.mp hp with rfl | hp
     ·simp
     ·exact hW _ (Xo p hp)
   ·rw [g62,aQ]; rfl
 ·rintro τ G' ⟨le,rows,ns,a1,a2,a3,a4,a5,a6,⟨dr,hlen,hfl,Xz,Xo⟩,g6',rfl⟩;simp only [c7,c8,ax,ae,aa];exact uZ le (q rows dr hlen hfl)
end JB
end K2
end
section
namespace K2
open PySem (Str)
open Enc (enc)
namespace JB
open K2.P K2.J
open K2.Y (Po L ND NZ fP lz gY gU cu cJ fA pick iw iA Pl PG)
open K2.MJ (ji)
open K2.QK (t6 rM gc)
variable {rows:Rows}
noncomputable def wr(rows:Rows):Int:=((names rows).map (handOf rows)).sum
noncomputable def A0:iF :=
 (c7 (c8 (wm VB (av (gW 1 [0] (mR (bH fI (av (ax 0) a8))) (aN 0) none (bH gv (av (ax 1) (av (ax 0) a8)))) a8))))
noncomputable def oA:nQ:=fun ds G Q _=>∃ rows:Rows,ds=[enc rows]/\Dr rows/\Q (.int (wr rows)) G
theorem Mf(ds:List D)(G:Gp)(Q:DK)(h:oA ds G Q fun _ _=>False):A0 (fun _ _=>False) (ends Q) (bE 1 ds) G:=by
 obtain⟨rows,rfl,d,q⟩:=h;have Az:=d.Az;have nl:=yQ d;unfold A0;simp only [c7,c8,wm,av,gW,bE,aj,bq,ak,aF,aB,aU,a8,ends,eW,bH,ax,aa];refine⟨rows,rfl,(show rows.flatten.length < 64 by lia),iC ⟨Dt (by rw [aq]; show (names rows).length<=1000; lia),?_⟩⟩;refine k6 (xs:=names rows) (fun pre acc τ G'=>G=G'/\(∃ a,τ=[a,some (enc rows)])/\acc=(pre.map (handOf rows)).map D.int) ⟨rfl,⟨_,rfl⟩,rfl⟩ (fun _ _ _ _ _=>trivial) ?_ ?_
 ·rintro pre n post acc τ G' N e ⟨rfl,⟨a,rfl⟩,rfl⟩ hN;have hn:n∈names rows:=by rw [e]; simp
  simp only [aN,bH,av,ax,xT,ao,ae,aa,a8];refine⟨rows,n,rfl,⟨by lia,TF d hn⟩,?_⟩;refine hN _ _ _ ⟨rfl,⟨_,rfl⟩,?_⟩;rw [aQ,aQ]; rfl
 ·rintro acc τ G' ⟨rfl,⟨a,rfl⟩,rfl⟩ p hp;refine⟨(names rows).map (handOf rows),M9 (IsL.ref aA),pG (IsL.ref aA),⟨by rw [aq]; lia,fun n hn=>?_⟩,uZ (.new hp) q⟩;obtain⟨m,hm,rfl⟩:=List.mem_map.mp hn;obtain⟨p,t7,_,e⟩:=mr.mp hm;have:=d.hand p t7;rw [<-xQ d t7,e] at this;lia
theorem BP.eq{T U:Po}{f k:Fn->Int}(b:BP T f)(c:BP U k)(h:∀ g,f g=k g):wb T U=true:=PG b.nd c.nd b.nz c.nz fun g=>by rw [b.val,c.val,h]
noncomputable def hs(L:List T3):Int:=((L.filter fun p=>p.b == 0).map (·.c)).sum
theorem DW{a b:List Int}(h:a.Perm b):a.sum=b.sum:=by
 induction h with
 | nil=>rfl
 | cons x _ ih=>rw [lh,lh,ih]
 | swap x y l=>rw [lh,lh,lh,lh]; lia
 | trans _ _ a b=>exact a.trans b
theorem SJ(d:Dr rows):wr rows=hs rows.flatten:=by
 unfold wr hs names;rw [DW ((qC _).map (handOf rows)),aW];congr 1;refine bZ fun p hp=>?_;exact xQ d (List.mem_filter.mp hp).1
theorem J0{a b:List T3}(h:a.Perm b):hs a=hs b:=by unfold hs; exact DW ((h.filter _).map _)
noncomputable def W2(L:List T3):List (Int×Int):=(L.filter fun p=>p.b == 0).map fun p=>(p.a,p.c)
theorem JM(d:Dr rows):(nh rows).Perm (W2 rows.flatten):=by
 unfold nh names;refine((qC _).map _).trans ?_;rw [aW];unfold W2;have:((rows.flatten.filter fun p=>p.b == 0).map ((fun n=>(n,handOf rows n))∘fun p:T3=>p.a))=(rows.flatten.filter fun p=>p.b == 0).map fun p=>(p.a,p.c):=by
  refine bZ fun p hp=>?_;show (p.a,handOf rows p.a)=_;rw [xQ d (List.mem_filter.mp hp).1]
 rw [this]
theorem Oo{a b:List T3}(h:a.Perm b):(W2 a).Perm (W2 b):=(h.filter _).map _
theorem Hr(rows:Rows):(nh rows).map (·.1)=names rows:=by
 unfold nh;rw [aW];exact kg _
theorem Dm.sub{f:T3->T3}{ns ms:List Int}(d:Dm f ns)(h:ms.Nodup)(hs:∀ m∈ms,m∈ns):Dm f ms:=⟨d.iv,h,fun n hn=>d.dm n (hs n hn)⟩
end JB
end K2
end
section
set_option maxHeartbeats 1000000
namespace K2
namespace J
section
variable {α:Type} [DecidableEq α]
noncomputable def cj(r f:α->α):α->α:=fun e=>r (f (r e))
theorem Xb{r f:α->α}(hr:Iv r)(x y:α):jn (cj r f) (r x) (r y)=cj r (jn f x y)/\cl (cj r f) (r x) (r y)=cl f x y:=by
 have inj:∀ {a b:α},r a=r b->a=b:=fun {a b} h=>by rw [<-hr a,h,hr]
 have sw:∀ {a b:α},a=r b↔r a=b:=fun {a b}=>⟨fun h=>by rw [h,hr],fun h=>by rw [<-h,hr]⟩;refine⟨?_,?_⟩
 ·funext e;show (if e=r x\/e=r y then e else if e=r (f (r (r x))) then r (f (r (r y))) else if e=r (f (r (r y))) then r (f (r (r x))) else r (f (r e)))=r (if r e=x\/r e=y then r e else if r e=f x then f y else if r e=f y then f x else f (r e));rw [hr,hr];by_cases c1:r e=x\/r e=y
  ·rw [if_pos (c1.imp sw.mpr sw.mpr),if_pos c1,hr]
  ·rw [if_neg (fun z=>c1 (z.imp sw.mp sw.mp)),if_neg c1];by_cases c2:r e=f x
   ·rw [if_pos (sw.mpr c2),if_pos c2]
   ·rw [if_neg (fun z=>c2 (sw.mp z)),if_neg c2];by_cases c3:r e=f y
    ·rw [if_pos (sw.mpr c3),if_pos c3]
    ·rw [if_neg (fun z=>c3 (sw.mp z)),if_neg c3]
 ·show (if r (f (r (r x)))=r y then 1 else 0)=if f x=y then 1 else 0
  rw [hr];by_cases c:f x=y
  ·rw [if_pos c,if_pos (by rw [c])]
  ·rw [if_neg c,if_neg (fun z=>c (inj z))]
theorem OO{r:α->α}(hr:Iv r):∀ (ps:Pr α) (f:α->α),gC (cj r f) (ps.map fun p=>(r p.1,r p.2))=cj r (gC f ps)/\cls (cj r f) (ps.map fun p=>(r p.1,r p.2))=cls f ps
 | [],f=>⟨rfl,rfl⟩
 | p :: ps,f=>by
  obtain⟨a,b⟩:=Xb (f:=f) hr p.1 p.2;obtain⟨c,d⟩:=OO hr ps (jn f p.1 p.2);rw [aj,gC,cls,gC,cls];show gC (jn (cj r f) (r p.1) (r p.2)) _=_/\cl (cj r f) (r p.1) (r p.2)+cls (jn (cj r f) (r p.1) (r p.2)) _=_;rw [a,b,c,d];exact⟨rfl,rfl⟩
end
theorem ze{κ:Type} [DecidableEq κ]{W W':κ->Int}:∀ {S:List (κ×Int)},(∀ p∈S,W p.1=W' p.1)->fsum W S=fsum W' S
 | [],_=>rfl
 | p :: S,h=>by rw [fsum,fsum,h p (by simp),ze fun q hq=>h q (aE _ hq)]
theorem NI{v:Nat->T3}:∀ {T:Pn} {f:T3->T3},Th v f T->∀ i∈es T,qJ v f T (v i)=v i
 | [],_,_,i,hi=>by cases hi
 | (p,q) :: T,f,h,i,hi=>by
  have kQ:∀ {T:Pn} {f:T3->T3} {e:T3},Th v f T->f e=e->qJ v f T e=e:=by
   intro T;induction T with
   | nil=>intro f e _ he; exact he
   | cons t T ih =>
    intro f e h he;refine ih (f:=jn f (v t.1) (v t.2)) h.tl ?_;have h1:=h.iv (v t.1);have h2:=h.iv (v t.2);unfold jn
    grind
  rw [es,aO,aO] at hi;rcases hi with rfl | rfl | hi
  ·show qJ v (jn f (v i) (v q)) T (v i)=v i;exact kQ h.tl U8
  ·show qJ v (jn f (v p) (v i)) T (v i)=v i;exact kQ h.tl U7
  ·exact NI h.tl i hi
noncomputable def MA(i:Nat):Nat:=[4,5,8,9,0,1,10,11,2,3,6,7].getD i i
noncomputable def jR(i:Nat)(w:Bool):Pn:=(jN i w).map fun p=>(MA p.1,MA p.2)
noncomputable def Tg.full(T:Pn)(q:Pn):Bool:=(fK 12).all fun i=>decide (i∈es q) != decide (i∈es T)
noncomputable def xD(o m u:Bool):Pn:=[if o then (1,4) else (5,0),if m then (3,8) else (9,2),if u then (7,10) else (11,6)]
noncomputable def sg(b:Bool):Int:=if b then 1 else -1
noncomputable def Gi(o m u s:Bool):List (Nat×Int):=[(0,sg s * sg o * sg m),(1,sg s * sg o * sg u),(2,sg s * sg m * sg u)]
noncomputable def XS(o m u s:Bool):Bool:=okN 3 (xD o m u)&&((Nq jN (Gi o m u s)).all fun x=>okN 3 x.1)&&((Nq jR (Gi o m u s)).all fun x=>okN 3 x.1)&&(match Qh (xD o m u) (Nq jN (Gi o m u s)),Qh (xD o m u) (Nq jR (Gi o m u s)) with
 | some S,some S'=>eqF S S'&&(S'.all fun x=>Tg.full (xD o m u) x.1.1&&okN 3 x.1.1)
 | _,_=>false)
theorem P5:∀ o m u s:Bool,XS o m u s=true:=by decide +kernel
theorem B1{v:Nat->T3}{jQ:Nat->Bool->Pn}{nm:Nat->Int}:∀ (as:List (Nat×Int)),(∀ p∈as,∀ w,mp v (jQ p.1 w)=js (nm p.1) w)->∀ (f:T3->T3) (ns:List (Int×Int)) (g:Fn),Br f ((as.map fun p=>(nm p.1,p.2))++ns) g=vS v f ns g (Nq jQ as)
 | [],_,f,ns,g=>by
  show Br f ns g=Br f ns (sh 0 g)+0;rw [B3,nu]
 | p :: r,hj,f,ns,g=>by
  have one:∀ (w:Bool) (b:Int) (l:List (Pn×Int)),vS v (gC f (js (nm p.1) w)) ns (hZ (cls f (js (nm p.1) w)) (sh b g)) l=vS v f ns g (l.map fun q=>(jQ p.1 w++q.1,q.2+b)):=fun w b l=>by
   induction l with
   | nil=>rfl
   | cons s l ih =>
    rw [aj,vS,vS,ih];congr 1;show _=Br (gC f ((jQ p.1 w++s.1).map fun p=>(v p.1,v p.2))) ns (hZ (cls f ((jQ p.1 w++s.1).map fun p=>(v p.1,v p.2))) (sh (s.2+b) g));rw [aQ];have e:=hj p (by simp) w;unfold mp at e;rw [e,mQ,mX];congr 1;have z:∀ (m n:Nat) (x y:Int),hZ m (sh x (hZ n (sh y g)))=sh (x+y) (hZ (m+n) g):=fun m n x y=>by rw [i9,i9,i9,Jq,Cm]
    rw [z,i9,Nat.add_comm]
  have hr:∀ q∈r,∀ w,mp v (jQ q.1 w)=js (nm q.1) w:=fun q hq=>hj q (aE _ hq);rw [aj,aB,Br,Nq,M6,B1 r hr,B1 r hr,one,one]
theorem RT{f:T3->T3}:∀ {ps:Pr T3},Ok f ps->∀ {e:T3},(e∈es ps\/f e=e)->gC f ps e=e:=by
 intro ps;induction ps generalizing f with
 | nil =>
  intro o e h;rcases h with h | h
  ·cases h
  ·exact h
 | cons p ps ih =>
  intro o e h;refine ih o.tl ?_;by_cases c:e∈es ps
  ·exact .inl c
  ·right;rw [es,aO,aO] at h;have h1:=o.iv p.1;have h2:=o.iv p.2;rcases h with (rfl | rfl | h) | h
   ·exact U8
   ·exact U7
   ·exact absurd h c
   ·unfold jn
    grind
theorem Ju{v:Nat->T3}:∀ {T:Pn} {f:T3->T3},Th v f T->∀ {e:T3},e∉es (mp v T)->qJ v f T e=f e
 | [],_,_,_,_=>rfl
 | (p,q) :: T,f,h,e,he=>by
  have TC:e∉v p :: v q :: es (mp v T):=he;rw [aO,aO,not_or,not_or] at TC;rw [qJ,Ju h.tl TC.2.2,HE h.iv (h.th (p,q) (by simp)) TC.1 TC.2.1]
theorem NH{v:Nat->T3}:∀ {T:Pn} {f:T3->T3},Th v f T->Iv (qJ v f T)
 | [],_,h=>h.iv
 | (p,q) :: T,f,h=>by rw [qJ]; exact NH h.tl
theorem Tg.rm{v:Nat->T3}{f:T3->T3}{T q:Pn}(t:Tg v f 3)(c1:okN 3 T=true)(h1:∀ p∈T,f (v p.1)=v p.2)(cq:okN 3 q=true)(cf:Tg.full T q=true):Ok (qJ v f T) (mp v q)/\∀ i,i < 12->gC (qJ v f T) (mp v q) (v i)=v i:=by
 have th:=t.th c1 h1;have xr:∀ i,i < 12->(decide (i∈es q) != decide (i∈es T))=true:=fun i hi=>List.all_eq_true.mp cf i (List.mem_range.mpr hi);have ok:Ok (qJ v f T) (mp v q):=by
  refine⟨NH th,t.nd cq,fun e he=>?_⟩;unfold mp at he;rw [v9] at he;obtain⟨i,hi,rfl⟩:=List.mem_map.mp he;have Xu:=(xK cq).2 i hi;rw [Ju th]
  ·exact t.dm i Xu
  ·intro z;unfold mp at z;rw [v9] at z;obtain⟨j,hj,e⟩:=List.mem_map.mp z;have aay:=(xK c1).2 j hj;have:=t.inj i j Xu aay e.symm;subst this;have:=xr i (by lia);simp [hi,hj] at this
 refine⟨ok,fun i hi=>RT ok ?_⟩;have:=xr i hi;by_cases c:i∈es q
 ·left;unfold mp;rw [v9];exact bC c
 ·right;have c2:i∈es T:=by simpa [c] using this
  exact NI th i c2
theorem ur:∀ i,i < 12->MA (MA i)=i/\MA i < 12:=by decide +kernel
section
variable {f1 f2:T3->T3} {nm:Nat->Int} {r:T3->T3} {o m u s:Bool}
theorem Nx(hr:Iv r)(hv:∀ i,i < 12->r (vv nm i)=vv nm (MA i))(ho:∀ e,(∀ i,i < 12->e≠vv nm i)->r e=e)(t1:Tg (vv nm) f1 3)(t2:Tg (vv nm) f2 3)
  (h1:∀ p∈xD o m u,f1 (vv nm p.1)=vv nm p.2) (h2:∀ p∈xD o m u,f2 (r (vv nm p.1))=r (vv nm p.2)) (hF:qJ (fun i=>r (vv nm i)) f2 (xD o m u)=cj r (qJ (vv nm) f1 (xD o m u))) (ns:List (Int×Int)) (g:Fn) :
  Br f1 (((Gi o m u s).map fun p=>(nm p.1,p.2))++ns) g=Br f2 (((Gi o m u s).map fun p=>(nm p.1,p.2))++ns) g:=by
 have ck:=P5 o m u s;unfold XS at ck;rw [aK,aK,aK] at ck;obtain⟨⟨⟨c1,c2⟩,c3⟩,c4⟩:=ck;have t2':Tg (fun i=>r (vv nm i)) f2 3:=by
  refine⟨t2.iv,fun i j hi hj e=>t1.inj i j hi hj (by rw [<-hr (vv nm i),e,hr]),fun i hi=>?_⟩;rw [hv i (by lia)];exact t2.dm _ (by have:=(ur i (by lia)).2; lia)
 have hj:∀ i w,i < 3->mp (fun i=>r (vv nm i)) (jR i w)=js (nm i) w:=fun i w hi=>by
  rw [<-Tn nm i w];unfold jR mp;rw [aW];refine bZ fun p hp=>?_;have lt:p.1 < 12/\p.2 < 12:=by
   cases w
   ·simp only [jN,if_true,aO,bO,or_false] at hp;rcases hp with rfl | rfl <;> constructor <;> simp only <;> lia
   ·simp only [jN,aO,bO,or_false,Bool.true_eq_false,if_false] at hp;rcases hp with rfl | rfl <;> constructor <;> simp only <;> lia
  obtain⟨a1,a2⟩:=ur p.1 lt.1;obtain⟨b1,b2⟩:=ur p.2 lt.2;show (r (vv nm (MA p.1)),r (vv nm (MA p.2)))=(vv nm p.1,vv nm p.2);rw [hv _ a2,hv _ b2,a1,b1]
 have e1:=GU (v:=vv nm) (jN:=jN) (nm:=nm) (Tn nm) (Gi o m u s) f1 ns g;have e2:Br f2 (((Gi o m u s).map fun p=>(nm p.1,p.2))++ns) g=vS (fun i=>r (vv nm i)) f2 ns g (Nq jR (Gi o m u s)):=by
  refine B1 (jQ:=jR) (Gi o m u s) (fun p hp w=>hj p.1 w ?_) f2 ns g;unfold Gi at hp;simp only [aO,bO,or_false] at hp;rcases hp with rfl | rfl | rfl <;> simp
 rw [e1,e2];split at c4
 ·rename_i S S' s1 s2;rw [aK] at c4;rw [C6 ns g (t1.th c1 h1) (fun x hx=>t1.ok (List.all_eq_true.mp c2 x hx)) s1,C6 ns g (t2'.th c1 h2) (fun x hx=>t2'.ok (List.all_eq_true.mp c3 x hx)) s2,Vt _ c4.1];refine ze fun x hx=>?_;have cx:=List.all_eq_true.mp c4.2 x hx;rw [aK] at cx;unfold Wk;have th1:=t1.th c1 h1;obtain⟨z1,z2⟩:=OO hr (mp (vv nm) x.1.1) (qJ (vv nm) f1 (xD o m u));have em:(mp (vv nm) x.1.1).map (fun p=>(r p.1,r p.2))=mp (fun i=>r (vv nm i)) x.1.1:=by unfold mp; rw [aW]; rfl
  rw [em,<-hF] at z1 z2;rw [z1,z2];have fix:cj r (gC (qJ (vv nm) f1 (xD o m u)) (mp (vv nm) x.1.1))=gC (qJ (vv nm) f1 (xD o m u)) (mp (vv nm) x.1.1):=by
   have iv1:Iv (gC (qJ (vv nm) f1 (xD o m u)) (mp (vv nm) x.1.1)):=by
    obtain⟨y1,y2⟩:=t1.rm c1 h1 cx.2 cx.1;exact HD y1
   have fx:∀ i,i < 12->gC (qJ (vv nm) f1 (xD o m u)) (mp (vv nm) x.1.1) (vv nm i)=vv nm i:=(t1.rm c1 h1 cx.2 cx.1).2;have XY:∀ e,(∃ i,i < 12/\e=vv nm i)\/r e=e:=fun e=>by
    by_cases c:∃ i,i < 12/\e=vv nm i
    ·exact .inl c
    ·exact .inr (ho e fun i hi z=>c ⟨i,hi,z⟩)
   funext e;show r (gC _ _ (r e))=_;rcases XY e with ⟨i,hi,rfl⟩ | he
   ·obtain⟨q1,q2⟩:=ur i hi;rw [hv i hi,fx _ q2,hv _ q2,q1,fx i hi]
   ·rw [he];rcases XY (gC (qJ (vv nm) f1 (xD o m u)) (mp (vv nm) x.1.1) e) with ⟨i,hi,z⟩ | h
    ·have e2:e=vv nm i:=by rw [<-iv1 e,z,fx i hi]
     rw [z,hv i hi];rw [e2] at he;rw [hv i hi] at he;exact he
    ·exact h
  rw [fix]
 ·cases c4
end
end J
end K2
end
section
namespace K2
open Enc (enc)
namespace JD
open K2.P K2.J K2.JB
noncomputable def rl(nm:Nat->Int)(e:T3):T3:=match (fK 12).find? fun i=>decide (vv nm i=e) with
 | some i=>vv nm (MA i)
 | none=>e
section
variable {nm:Nat->Int} (inj:∀ i j,i < 12->j < 12->vv nm i=vv nm j->i=j)
include inj
theorem Q9{i:Nat}(hi:i < 12):rl nm (vv nm i)=vv nm (MA i):=by
 unfold rl;cases h:(fK 12).find? fun j=>decide (vv nm j=vv nm i) with
 | none =>
  have:=List.find?_eq_none.mp h i (List.mem_range.mpr hi);simp at this
 | some j =>
  have h1:=oV h;have h2:=List.mem_range.mp (gS h);rw [inj j i h2 hi (by simpa using h1)]
omit inj in
theorem Uy{e:T3}(h:∀ i,i < 12->e≠vv nm i):rl nm e=e:=by
 unfold rl;have:(fK 12).find? (fun j=>decide (vv nm j=e))=none:=by
  rw [fL];intro i hi z;exact h i (List.mem_range.mp hi) (of_decide_eq_true z).symm
 rw [this]
theorem SW:Iv (rl nm):=by
 intro e;by_cases c:∃ i,i < 12/\e=vv nm i
 ·obtain⟨i,hi,rfl⟩:=c;obtain⟨q1,q2⟩:=ur i hi;rw [Q9 inj hi,Q9 inj q2,q1]
 ·have:rl nm e=e:=Uy fun i hi z=>c ⟨i,hi,z⟩;rw [this,this]
end
theorem NS{r:T3->T3}(hr:Iv r):∀ (P:Pr T3),pt (P.map fun p=>(r p.1,r p.2))=cj r (pt P)
 | []=>by
  funext e;show e=r (r e);rw [hr]
 | p :: P=>by
  funext e;have sw:∀ {a b:T3},a=r b↔r a=b:=fun {a b}=>⟨fun h=>by rw [h,hr],fun h=>by rw [<-h,hr]⟩;show (if e=r p.1 then r p.2 else if e=r p.2 then r p.1 else pt (P.map fun p=>(r p.1,r p.2)) e)=r (if r e=p.1 then p.2 else if r e=p.2 then p.1 else pt P (r e));rw [NS hr P];by_cases c1:r e=p.1
  ·rw [if_pos (sw.mpr c1),if_pos c1]
  ·rw [if_neg (fun z=>c1 (sw.mp z)),if_neg c1];by_cases c2:r e=p.2
   ·rw [if_pos (sw.mpr c2),if_pos c2]
   ·rw [if_neg (fun z=>c2 (sw.mp z)),if_neg c2]; rfl
theorem NR{p q:T3}{R:Pr T3}(nd:(es ((p,q) :: R)).Nodup):jn (pt ((p,q) :: R)) p q=pt R:=by
 rw [Cq];exact(Rh nd).1
theorem S8{p:T3×T3}{R:Pr T3}(nd:(es (p :: R)).Nodup):(es R).Nodup:=by
 rw [es,aP,aP] at nd;exact nd.2.2
theorem rm3{v:Nat->T3}{p0 q0 p1 q1 p2 q2:Nat}{R:Pr T3}(nd:(es ((v p0,v q0) :: (v p1,v q1) :: (v p2,v q2) :: R)).Nodup):qJ v (pt ((v p0,v q0) :: (v p1,v q1) :: (v p2,v q2) :: R)) [(p0,q0),(p1,q1),(p2,q2)]=pt R:=by
 have n1:=S8 nd;rw [qJ,NR nd,qJ,NR n1,qJ,NR (S8 n1),qJ]
noncomputable def xS(o:Bool)(p q:T2):T2:=if o then p else q
section
variable {a b c:Int} {o m u s:Bool}
noncomputable abbrev kc(a b c:Int):Nat->Int:=S4 [a,b,c]
noncomputable def X3(a b c:Int)(o m u:Bool):Pr T2:=[(xS o ⟨a,0⟩ ⟨b,0⟩,xS (!o) ⟨a,0⟩ ⟨b,0⟩),(xS m ⟨a,1⟩ ⟨c,0⟩,xS (!m) ⟨a,1⟩ ⟨c,0⟩),(xS u ⟨b,1⟩ ⟨c,1⟩,xS (!u) ⟨b,1⟩ ⟨c,1⟩)]
noncomputable def tO(p:T2×T2):T3×T3:=(eO p.1,eI p.2)
theorem Uh:∀ (o m u:Bool),∀ p∈xD o m u,p.1 < 12/\p.2 < 12:=by decide
theorem lab(a b c:Int)(o m u:Bool):mp (vv (kc a b c)) (xD o m u)=(X3 a b c o m u).map tO:=by cases o <;> cases m <;> cases u <;> rfl
theorem ZY(a b c:Int)(o m u:Bool):mp (fun i=>vv (kc a b c) (MA i)) (xD o m u)=(X3 a b c o m u).map fun p=>tO (p.2,p.1):=by cases o <;> cases m <;> cases u <;> rfl
theorem Nw{f1 f2:T3->T3}{B:Pr T3}(d1:Dm f1 [a,b,c])(d2:Dm f2 [a,b,c])(n1:(es ((X3 a b c o m u).map tO++B)).Nodup)(n2:(es ((X3 a b c o m u).map (fun p=>tO (p.2,p.1))++B.map fun p=>(rl (kc a b c) p.1,rl (kc a b c) p.2))).Nodup)
  (e1:f1=pt ((X3 a b c o m u).map tO++B)) (e2:f2=pt ((X3 a b c o m u).map (fun p=>tO (p.2,p.1))++B.map fun p=>(rl (kc a b c) p.1,rl (kc a b c) p.2))) (ns:List (Int×Int)) (g:Fn) :
  Br f1 ((a,sg s * sg o * sg m) :: (b,sg s * sg o * sg u) :: (c,sg s * sg m * sg u) :: ns) g=Br f2 ((a,sg s * sg o * sg m) :: (b,sg s * sg o * sg u) :: (c,sg s * sg m * sg u) :: ns) g:=by
 have t1:Tg (vv (kc a b c)) f1 3:=d1.tg;have t2:Tg (vv (kc a b c)) f2 3:=d2.tg;have inj:∀ i j,i < 12->j < 12->vv (kc a b c) i=vv (kc a b c) j->i=j:=fun i j hi hj=>t1.inj i j (by lia) (by lia);have lt:=Uh o m u;have rv:∀ i,i < 12->rl (kc a b c) (vv (kc a b c) i)=vv (kc a b c) (MA i):=fun i hi=>Q9 inj hi;have J1:mp (fun i=>rl (kc a b c) (vv (kc a b c) i)) (xD o m u)=(X3 a b c o m u).map fun p=>tO (p.2,p.1):=by
  rw [<-ZY];refine bZ fun p hp=>?_;show (rl _ (vv _ p.1),rl _ (vv _ p.2))=_;rw [rv _ (lt p hp).1,rv _ (lt p hp).2]
 have h1:∀ p∈xD o m u,f1 (vv (kc a b c) p.1)=vv (kc a b c) p.2:=fun p hp=>by
  rw [e1];refine(kq n1 (p:=(vv (kc a b c) p.1,vv (kc a b c) p.2)) (hW _ ?_)).1;rw [<-lab];exact bC (f:=fun p:Nat×Nat=>(vv (kc a b c) p.1,vv (kc a b c) p.2)) hp
 have h2:∀ p∈xD o m u,f2 (rl (kc a b c) (vv (kc a b c) p.1))=rl (kc a b c) (vv (kc a b c) p.2):=fun p hp=>by
  rw [e2];refine(kq n2 (p:=(rl (kc a b c) (vv (kc a b c) p.1),rl (kc a b c) (vv (kc a b c) p.2))) (hW _ ?_)).1;rw [<-J1];exact bC (f:=fun p:Nat×Nat=>(rl (kc a b c) (vv (kc a b c) p.1),rl (kc a b c) (vv (kc a b c) p.2))) hp
 have hF:qJ (fun i=>rl (kc a b c) (vv (kc a b c) i)) f2 (xD o m u)=cj (rl (kc a b c)) (qJ (vv (kc a b c)) f1 (xD o m u)):=by
  have r1:qJ (vv (kc a b c)) f1 (xD o m u)=pt B:=by
   rw [e1];rw [<-lab] at n1 ⊢;exact rm3 n1
  have r2:qJ (fun i=>rl (kc a b c) (vv (kc a b c) i)) f2 (xD o m u)=pt (B.map fun p=>(rl (kc a b c) p.1,rl (kc a b c) p.2)):=by
   rw [e2];rw [<-J1] at n2 ⊢;exact rm3 (v:=fun i=>rl (kc a b c) (vv (kc a b c) i)) n2
  rw [r1,r2,NS (SW inj)]
 exact Nx (s:=s) (SW inj) rv (fun e he=>Uy he) t1 t2 h1 h2 hF ns g
end
noncomputable def d0:T3:=⟨0,0,0⟩
noncomputable def Cw(x:List T3):T3:=x.head?.getD d0
noncomputable def Du(x:List T3):T3:=x.getLast?.getD d0
theorem Dc:∀ {x y:List T3},x≠[]->y≠[]->ot (x++y)=ot x++(Du x,Cw y) :: ot y
 | [],_,h,_=>absurd rfl h
 | [a],b :: l,_,_=>rfl
 | [_],[],_,h=>absurd rfl h
 | a :: b :: l,y,_,hy=>by
  have ih:=Dc (x:=b :: l) (y:=y) (by simp) hy;rw [aB] at ih;rw [aB,aB,oU,ih,oU,aB];have:Du (a :: b :: l)=Du (b :: l):=by unfold Du; rw [List.getLast?_cons_cons]
  rw [this]
theorem Vg{x y:List T3}(h:x≠[]):Cw (x++y)=Cw x:=by
 cases x with
 | nil=>exact absurd rfl h
 | cons a l=>rfl
noncomputable def Tj(p:List T3×List T3):T3×T3:=(Du p.1,Cw p.2)
theorem wR(z:T3)(Z:List T3)(hz:Cw Z=z):∀ (bs:List (List T3)),bs≠[]->(∀ x∈bs,x≠[])->(ot (bs.flatten++[z])).Perm (bs.flatMap ot++(ot (bs++[Z])).map Tj)
 | [],h,_=>absurd rfl h
 | [b],_,hb=>by
  have Vj:=hb b (by simp);rw [aX,nE,bN,Dc Vj (by simp),bV,List.flatMap_nil,bN];show (ot b++[(Du b,z)]).Perm (ot b++[(Du b,Cw Z)]);rw [hz]
 | b :: c :: l,_,hb=>by
  have Vj:=hb b (by simp);have QI:=hb c (by simp);have ne:(c :: l).flatten++[z]≠[]:=by simp
  have ih:=wR z Z hz (c :: l) (by simp) fun x hx=>hb x (aE _ hx);rw [aX,bB,Dc Vj ne,bV,bB];refine GC _ ?_;have e1:Cw ((c :: l).flatten++[z])=Cw c:=by
   rw [aX,bB]; exact Vg QI
  have e2:(ot (b :: c :: l++[Z])).map Tj=(Du b,Cw c) :: (ot (c :: l++[Z])).map Tj:=rfl;rw [e1,e2];exact(ih.cons _).trans List.perm_middle.symm
theorem Iy{bs:List (List T3)}(h:∀ x∈bs,x≠[]):(CZ bs.flatten).Perm (bs.flatMap ot++(CZ bs).map Tj):=by
 cases bs with
 | nil=>exact .refl _
 | cons b l =>
  have hb:=h b (by simp);cases b with
  | nil=>exact absurd rfl hb
  | cons z b=>exact wR z (z :: b) rfl ((z :: b) :: l) (by simp) h
theorem Kt{α β:Type}(f:α->β):∀ l:List α,ot (l.map f)=(ot l).map fun p=>(f p.1,f p.2)
 | []=>rfl
 | [_]=>rfl
 | a :: b :: l=>by
  show (f a,f b) :: ot ((b :: l).map f)=_;rw [Kt f (b :: l)]; rfl
theorem Sf{α β:Type}(f:α->β)(l:List α):CZ (l.map f)=(CZ l).map fun p=>(f p.1,f p.2):=by
 cases l with
 | nil=>rfl
 | cons a l =>
  show ot (f a :: l.map f++[f a])=(ot (a :: l++[a])).map _;rw [<-Kt f (a :: l++[a])];congr 1;simp
theorem Se{α:Type}{l:List α}{p:α×α}(h:p∈CZ l):p.1∈l/\p.2∈l:=by
 have adm:∀ {l:List α} {p:α×α},p∈ot l->p.1∈l/\p.2∈l:=by
  intro l;induction l with
  | nil=>intro p h; cases h
  | cons a l ih =>
   intro p h;cases l with
   | nil=>cases h
   | cons b l =>
    rw [oU] at h;rcases List.mem_cons.mp h with rfl | h
    ·exact⟨by simp,by simp⟩
    ·have:=ih h;exact⟨aE _ this.1,aE _ this.2⟩
 cases l with
 | nil=>cases h
 | cons a l =>
  obtain⟨h1,h2⟩:=adm (l:=a :: l++[a]) h;refine⟨?_,?_⟩
  ·rcases List.mem_append.mp h1 with z | z
   ·exact z
   ·rw [cy] at z; rw [z]; simp
  ·rcases List.mem_append.mp h2 with z | z
   ·exact z
   ·rw [cy] at z; rw [z]; simp
theorem Vf(x:List T3):Cw x.reverse=Du x:=by unfold Cw Du; rw [List.head?_reverse]
theorem U0(x:List T3):Du x.reverse=Cw x:=by unfold Cw Du; rw [List.getLast?_reverse]
noncomputable def tm(o:Bool)(p q:T3):List T3:=if o then [p,q] else [q,p]
noncomputable def wQ(a b c h0 h1 h2:Int)(o m u:Bool):List (List T3):=[tm o ⟨a,0,h0⟩ ⟨b,0,h1⟩,tm m ⟨a,1,h0⟩ ⟨c,0,h2⟩,tm u ⟨b,1,h1⟩ ⟨c,1,h2⟩]
noncomputable def ni(c:Nat)(l:List T3):List T3:=l.drop c++l.take c
theorem PZ(c:Nat)(l:List T3):(CZ (ni c l)).Perm (CZ l):=by
 unfold ni;refine(Sd _ _).trans ?_;rw [jk]
theorem D9(c:Nat)(l:List T3):(ni c l).Perm l:=by
 unfold ni;refine List.perm_append_comm.trans ?_;rw [jk]
theorem u4{α β:Type}{f g:α->List β}:∀ {l:List α},(∀ x∈l,(f x).Perm (g x))->(l.flatMap f).Perm (l.flatMap g)
 | [],_=>.refl _
 | a :: l,h=>by
  rw [bV,bV];exact(h a (by simp)).append (u4 fun x hx=>h x (aE _ hx))
theorem w4{α β:Type}(f g:α->List β):∀ (l:List α),(l.flatMap fun x=>f x++g x).Perm (l.flatMap f++l.flatMap g)
 | []=>.refl _
 | a :: l=>by
  rw [bV,bV,bV,bB,bB];refine GC _ ?_;refine((w4 f g l).append_left _).trans ?_;rw [<-bB,<-bB];exact List.perm_append_comm.append_right _
theorem uG{B:List (List (List T3))}{ct:List (List T3)->Nat}(Bn:∀ row∈B,∀ x∈row,x≠[]):(pairsOf (B.map fun row=>ni (ct row) row.flatten)).Perm (B.flatten.flatMap ot++(B.flatMap CZ).map Tj):=by
 rw [Ob,List.flatMap_map];refine(u4 (g:=fun row=>row.flatMap ot++(CZ row).map Tj) fun row hr=>(PZ _ _).trans (Iy (Bn row hr))).trans ?_;refine(w4 _ _ B).trans ?_;have e1:(B.flatMap fun row=>row.flatMap ot)=B.flatten.flatMap ot:=by
  clear Bn;induction B with
  | nil=>rfl
  | cons r B ih=>rw [bV,aX,xn,ih]
 have e2:(B.flatMap fun row=>(CZ row).map Tj)=(B.flatMap CZ).map Tj:=by rw [List.map_flatMap]
 rw [e1,e2]
section
variable {a b c h0 h1 h2:Int} {o m u:Bool}
theorem Rm(a b c h0 h1 h2:Int)(o m u:Bool):((wQ a b c h0 h1 h2 o m u).flatMap ot).map (fun p=>(p.1.s,p.2.s))=X3 a b c o m u:=by cases o <;> cases m <;> cases u <;> rfl
theorem NV(a b c h0 h1 h2:Int)(o m u:Bool):(((wQ a b c h0 h1 h2 o m u).map bJ).flatMap ot).map (fun p=>(p.1.s,p.2.s))=(X3 a b c o m u).map fun p=>(p.2,p.1):=by cases o <;> cases m <;> cases u <;> rfl
theorem GX(L:List T3):(L.map fun p=>[p]).flatMap ot=[]:=by
 induction L with
 | nil=>rfl
 | cons p L ih=>rw [aj,bV,ih]; rfl
theorem DY(L:List T3):((L.map fun p=>[p]).map bJ).flatMap ot=[]:=by
 induction L with
 | nil=>rfl
 | cons p L ih=>rw [aj,aj,bV,ih]; rfl
theorem Qe(hd:[a,b,c].Nodup){L:List T3}(hL:∀ p∈L,p.a≠a/\p.a≠b/\p.a≠c){x:List T3}(hx:x∈wQ a b c h0 h1 h2 o m u++L.map fun p=>[p]) :
  rl (kc a b c) (eO (Du x).s)=eO (Cw x).s/\rl (kc a b c) (eI (Cw x).s)=eI (Du x).s:=by
 have inj:∀ i j,i < 12->j < 12->vv (kc a b c) i=vv (kc a b c) j->i=j:=fun i j hi hj e=>by
  refine M5 (m:=3) (fun i j hi hj e=>?_) i j (by lia) (by lia) e;unfold kc at e;rw [yO (l:=[a,b,c]) hi,yO (l:=[a,b,c]) hj] at e;exact(Dq hd).mp e
 have rv:=fun i hi=>Q9 inj (i:=i) hi;rcases List.mem_append.mp hx with hx | hx
 ·unfold wQ at hx;simp only [aO,bO,or_false] at hx;rcases hx with rfl | rfl | rfl
  ·cases o
   ·exact⟨rv 1 (by decide),rv 4 (by decide)⟩
   ·exact⟨rv 5 (by decide),rv 0 (by decide)⟩
  ·cases m
   ·exact⟨rv 3 (by decide),rv 8 (by decide)⟩
   ·exact⟨rv 9 (by decide),rv 2 (by decide)⟩
  ·cases u
   ·exact⟨rv 7 (by decide),rv 10 (by decide)⟩
   ·exact⟨rv 11 (by decide),rv 6 (by decide)⟩
 ·obtain⟨p,hp,rfl⟩:=List.mem_map.mp hx;have h3:=hL p hp;have out:∀ e:T3,e.a=p.a->rl (kc a b c) e=e:=fun e he=>by
   refine Uy fun i hi z=>?_;have:(vv (kc a b c) i).a=a\/(vv (kc a b c) i).a=b\/(vv (kc a b c) i).a=c:=by
    have hq:i / 4=0\/i / 4=1\/i / 4=2:=by lia
    show S4 [a,b,c] (i / 4)=a\/S4 [a,b,c] (i / 4)=b\/S4 [a,b,c] (i / 4)=c;rcases hq with q | q | q <;> rw [q]
    ·exact .inl rfl
    ·exact .inr (.inl rfl)
    ·exact .inr (.inr rfl)
   rw [<-z,he] at this;rcases this with q | q | q
   ·exact h3.1 q
   ·exact h3.2.1 q
   ·exact h3.2.2 q
  exact⟨out _ rfl,out _ rfl⟩
end
section
variable {a b c:Int} {o m u s:Bool}
noncomputable def six(a b c h0 h1 h2:Int):List T3:=[⟨c,1,h2⟩,⟨c,0,h2⟩,⟨b,1,h1⟩,⟨b,0,h1⟩,⟨a,1,h0⟩,⟨a,0,h0⟩]
theorem Jp(a b c h0 h1 h2:Int)(o m u:Bool):(wQ a b c h0 h1 h2 o m u).flatten.Perm (six a b c h0 h1 h2)/\((wQ a b c h0 h1 h2 o m u).map bJ).flatten.Perm (six a b c h0 h1 h2):=by
 have two:∀ (o:Bool) (p q:T3),(tm o p q).Perm [p,q]/\(tm o p q).reverse.Perm [p,q]:=fun o p q=>by
  cases o
  ·exact⟨.swap _ _ _,.refl _⟩
  ·exact⟨.refl _,.swap _ _ _⟩
 have main:[(⟨a,0,h0⟩:T3),⟨b,0,h1⟩,⟨a,1,h0⟩,⟨c,0,h2⟩,⟨b,1,h1⟩,⟨c,1,h2⟩].Perm (six a b c h0 h1 h2):=by
  refine kb ?_ (List.reverse_perm _);show List.Perm _ [(⟨a,0,h0⟩:T3),⟨a,1,h0⟩,⟨b,0,h1⟩,⟨b,1,h1⟩,⟨c,0,h2⟩,⟨c,1,h2⟩];refine ly _ ?_;refine(fO _ _ _).trans ?_;refine ly _ (ly _ ?_);exact fO _ _ _
 refine⟨kb ?_ main,kb ?_ main⟩
 ·show (tm o _ _++(tm m _ _++(tm u _ _++[]))).Perm ([_,_]++([_,_]++([_,_]++[])));exact(two o _ _).1.append ((two m _ _).1.append ((two u _ _).1.append (.refl _)))
 ·show ((tm o _ _).reverse++((tm m _ _).reverse++((tm u _ _).reverse++[]))).Perm ([_,_]++([_,_]++([_,_]++[])));exact(two o _ _).2.append ((two m _ _).2.append ((two u _ _).2.append (.refl _)))
theorem wC(L:List T3):(L.map fun p=>[p]).flatten=L/\((L.map fun p=>[p]).map bJ).flatten=L:=by
 induction L with
 | nil=>exact⟨rfl,rfl⟩
 | cons p L ih =>
  refine⟨?_,?_⟩
  ·rw [aj,aX,ih.1]; rfl
  ·rw [aj,aj,aX,ih.2]; rfl
theorem wZ{B:List (List (List T3))}{ct:List (List T3)->Nat}:((B.map fun row=>ni (ct row) row.flatten).flatten).Perm B.flatten.flatten:=by
 induction B with
 | nil=>exact .refl _
 | cons r B ih =>
  rw [aj,aX,aX,cW];exact(D9 _ _).append ih
theorem Dr.six{rows R:Rows}(d:Dr rows){h0 h1 h2:Int}(hd:[a,b,c].Nodup)(hL:∀ p∈rows.flatten,p.a≠a/\p.a≠b/\p.a≠c)(e0:h0=1\/h0=-1)(e1:h1=1\/h1=-1)(e2:h2=1\/h2=-1)(Az:rows.flatten.length<=18)(str:R.length<=3)
  (hp:R.flatten.Perm (six a b c h0 h1 h2++rows.flatten)):Dr R:=by
 simp only [aP,aO,bO,or_false,not_or] at hd;have m1:Dr [⟨a,1,h0⟩ :: ⟨a,0,h0⟩ :: rows.flatten]:=K2.JB.Dr.two d (fun p hp=>(hL p hp).1) e0 (by simp) (by lia) (by simp);have m2:Dr [⟨b,1,h1⟩ :: ⟨b,0,h1⟩ :: ⟨a,1,h0⟩ :: ⟨a,0,h0⟩ :: rows.flatten]:=by
  refine K2.JB.Dr.two m1 (m:=b) (fun p hp=>?_) e1 (by simp) (by simp only [aX,nE,bN,ak]; lia) (by simp);simp only [aX,nE,bN,aO] at hp;rcases hp with rfl | rfl | hp
  ·exact hd.1.1
  ·exact hd.1.1
  ·exact(hL p hp).2.1
 refine K2.JB.Dr.two m2 (m:=c) (h:=h2) (fun p hp=>?_) e2 (by simpa [JD.six] using hp) (by simp only [aX,nE,bN,ak]; lia) str;simp only [aX,nE,bN,aO] at hp;rcases hp with rfl | rfl | rfl | rfl | hp
 ·exact hd.2.1
 ·exact hd.2.1
 ·exact hd.1.2
 ·exact hd.1.2
 ·exact(hL p hp).2.2
theorem Wy(b:Bool):sg b=1\/sg b=-1:=by cases b <;> simp [sg]
theorem Ze(x y z:Bool):sg x * sg y * sg z=1\/sg x * sg y * sg z=-1:=by cases x <;> cases y <;> cases z <;> decide
theorem KY{rows:Rows}{B:List (List (List T3))}{c1 c2:List (List T3)->Nat}(d:Dr rows)(hd:[a,b,c].Nodup)(hL:∀ p∈rows.flatten,p.a≠a/\p.a≠b/\p.a≠c)(Az:rows.flatten.length<=18)(str:B.length<=3)
  (hB:B.flatten.Perm (wQ a b c (sg s * sg o * sg m) (sg s * sg o * sg u) (sg s * sg m * sg u) o m u++rows.flatten.map fun p=>[p])) :
  Dr (B.map fun row=>ni (c1 row) row.flatten)/\Dr (B.map fun row=>ni (c2 row) (row.map bJ).flatten) /\
  (∀ g,brk (B.map fun row=>ni (c1 row) row.flatten) g=brk (B.map fun row=>ni (c2 row) (row.map bJ).flatten) g) /\
  wr (B.map fun row=>ni (c1 row) row.flatten)=wr (B.map fun row=>ni (c2 row) (row.map bJ).flatten) /\
  (B.map fun row=>ni (c1 row) row.flatten).flatten.length=rows.flatten.length+6/\(B.map fun row=>ni (c2 row) (row.map bJ).flatten).flatten.length=rows.flatten.length+6:=by
 generalize YB:sg s * sg o * sg m=h0 at hB;generalize YA:sg s * sg o * sg u=h1 at hB;generalize Yz:sg s * sg m * sg u=h2 at hB;have o0:h0=1\/h0=-1:=YB ▸ Ze s o m;have o1:h1=1\/h1=-1:=YA ▸ Ze s o u;have o2:h2=1\/h2=-1:=Yz ▸ Ze s m u;obtain⟨s1,s2⟩:=Jp a b c h0 h1 h2 o m u;obtain⟨l1,l2⟩:=wC rows.flatten;have eB2:(B.map fun row=>ni (c2 row) (row.map bJ).flatten)=(B.map fun row=>row.map bJ).map fun row=>ni (c2 (row.map bJ)) row.flatten:=by
  rw [aW];refine bZ fun row _=>?_;show ni (c2 row) _=ni (c2 ((row.map bJ).map bJ)) _;rw [aW];have:row.map (bJ∘bJ)=row:=by
   conv=>rhs; rw [<-kg row]
   refine bZ fun x _=>?_;simp
  rw [this]
 have fB2:((B.map fun row=>row.map bJ).flatten).Perm ((wQ a b c h0 h1 h2 o m u).map bJ++(rows.flatten.map fun p=>[p]).map bJ):=by
  rw [<-aQ];refine kb ?_ (hB.map bJ);rw [List.map_flatten]
 have f1:(B.map fun row=>ni (c1 row) row.flatten).flatten.Perm (six a b c h0 h1 h2++rows.flatten):=by
  refine wZ.trans ?_;refine(hB.flatten).trans ?_;rw [cW,l1];exact s1.append_right _
 have f2:(B.map fun row=>ni (c2 row) (row.map bJ).flatten).flatten.Perm (six a b c h0 h1 h2++rows.flatten):=by
  rw [eB2];refine wZ.trans ?_;refine(fB2.flatten).trans ?_;rw [cW,l2];exact s2.append_right _
 have Vw:Dr (B.map fun row=>ni (c1 row) row.flatten):=K2.JD.Dr.six d hd hL o0 o1 o2 Az (by rw [aq]; exact str) f1;have PL:Dr (B.map fun row=>ni (c2 row) (row.map bJ).flatten):=K2.JD.Dr.six d hd hL o0 o1 o2 Az (by rw [aq]; exact str) f2;have bne:∀ x∈wQ a b c h0 h1 h2 o m u++rows.flatten.map fun p=>[p],x≠[]:=fun x hx=>by
  rcases List.mem_append.mp hx with hx | hx
  ·unfold wQ at hx;simp only [aO,bO,or_false] at hx;rcases hx with rfl | rfl | rfl
   ·cases o <;> exact sY _ _
   ·cases m <;> exact sY _ _
   ·cases u <;> exact sY _ _
  ·obtain⟨p,_,rfl⟩:=List.mem_map.mp hx;exact sY _ _
 have Yt:∀ row∈B,∀ x∈row,x∈wQ a b c h0 h1 h2 o m u++rows.flatten.map fun p=>[p]:=fun row hr x hx=>hB.mem_iff.mp (List.mem_flatten.mpr ⟨row,hr,hx⟩);have n1:∀ row∈B,∀ x∈row,x≠[]:=fun row hr x hx=>bne x (Yt row hr x hx);have n2:∀ row∈B.map (fun row=>row.map bJ),∀ x∈row,x≠[]:=fun row hr x hx=>by
  obtain⟨r0,hr0,rfl⟩:=List.mem_map.mp hr;obtain⟨x0,hx0,rfl⟩:=List.mem_map.mp hx;have:=n1 r0 hr0 x0 hx0;simpa using this
 have p1:=uG (ct:=c1) n1;have p2:=uG (ct:=fun row=>c2 (row.map bJ)) n2;rw [<-eB2] at p2;have q1:(QA (B.map fun row=>ni (c1 row) row.flatten)).Perm ((X3 a b c o m u).map tO++(B.flatMap CZ).map fun p=>(eO (Du p.1).s,eI (Cw p.2).s)):=by
  have:=p1.map fun p:T3×T3=>(eO p.1.s,eI p.2.s);refine this.trans ?_;rw [aQ];refine yb ?_ (by rw [aW]; exact .refl _);have z:=((hB.flatMap_right ot).map fun p:T3×T3=>(p.1.s,p.2.s)).map tO;rw [xn,GX,bN,Rm,aW] at z;exact z
 have q2:(QA (B.map fun row=>ni (c2 row) (row.map bJ).flatten)).Perm ((X3 a b c o m u).map (fun p=>tO (p.2,p.1))++((B.flatMap CZ).map fun p=>(eO (Du p.1).s,eI (Cw p.2).s)).map fun p=>(rl (kc a b c) p.1,rl (kc a b c) p.2)):=by
  have:=p2.map fun p:T3×T3=>(eO p.1.s,eI p.2.s);refine this.trans ?_;rw [aQ];refine yb ?_ ?_
  ·have z:=((fB2.flatMap_right ot).map fun p:T3×T3=>(p.1.s,p.2.s)).map tO;rw [xn,DY,bN,NV,aW,aW] at z;exact z
  ·have e:((B.map fun row=>row.map bJ).flatMap CZ)=(B.flatMap CZ).map fun p=>(p.1.reverse,p.2.reverse):=by
    rw [List.flatMap_map,List.map_flatMap];congr 1;funext row;exact Sf _ _
   rw [e,aW,aW,aW];refine List.Perm.of_eq (bZ fun p hp=>?_);obtain⟨row,hr,t7⟩:=List.mem_flatMap.mp hp;obtain⟨y1,y2⟩:=Se t7;show (eO (Du p.1.reverse).s,eI (Cw p.2.reverse).s)=(rl (kc a b c) (eO (Du p.1).s),rl (kc a b c) (eI (Cw p.2).s));rw [U0,Vf,(Qe hd hL (Yt row hr _ y1)).1,(Qe hd hL (Yt row hr _ y2)).2]
 have U1:lo (B.map fun row=>ni (c1 row) row.flatten)=lo (B.map fun row=>ni (c2 row) (row.map bJ).flatten):=by
  unfold lo;rw [FY,FY,aq,aq];congr 1;refine List.filter_congr fun row hr=>?_;show (ni _ _).isEmpty=(ni _ _).isEmpty;have em:∀ (k:Nat) (l:List T3),(ni k l).isEmpty=l.isEmpty:=fun k l=>by
   have:=(D9 k l).length_eq;cases hl:l with
   | nil=>simp [ni]
   | cons x y =>
    rw [hl] at this;cases hr:ni k (x :: y) with
    | nil=>rw [hr] at this; cases this
    | cons _ _=>rfl
  rw [em,em];have:(row.map bJ).flatten.length=row.flatten.length:=by
   clear hr Yt n1;induction row with
   | nil=>rfl
   | cons x r ih=>rw [aj,aX,aX,au,au,ih,kh]
  cases h1:row.flatten with
  | nil=>rw [h1] at this; cases h2:(row.map bJ).flatten with
   | nil=>rfl
   | cons _ _=>rw [h2] at this; cases this
  | cons _ _=>rw [h1] at this; cases h2:(row.map bJ).flatten with
   | nil=>rw [h2] at this; cases this
   | cons _ _=>rfl
 have g1:=f1.length_eq;have g2:=f2.length_eq;generalize (B.map fun row=>ni (c1 row) row.flatten)=R1 at Vw f1 q1 U1 g1;generalize (B.map fun row=>ni (c2 row) (row.map bJ).flatten)=R2 at PL f2 q2 U1 g2;have pn:∀ {R:Rows},Dr R->R.flatten.Perm (six a b c h0 h1 h2++rows.flatten)->(nh R).Perm ((a,h0) :: (b,h1) :: (c,h2) :: nh rows):=fun {R} dR fR=>by
  refine(JM dR).trans ((Oo fR).trans ?_);refine kb ?_ ((((JM d).symm.cons _).cons _).cons _);show List.Perm ((c,h2) :: (b,h1) :: (a,h0) :: W2 rows.flatten) _;exact((fO _ _ _).cons _).trans ((fO _ _ _).trans ((fO _ _ _).cons _))
 have dn:∀ {R:Rows},Dr R->R.flatten.Perm (six a b c h0 h1 h2++rows.flatten)->Dm (fr R) [a,b,c]:=fun {R} dR fR=>by
  refine Dm.sub (Pq dR) hd fun x hx=>?_;have:=((pn dR fR).map (·.1)).mem_iff (a:=x);rw [Hr] at this;refine this.mpr ?_;simp only [aO,bO,or_false] at hx;simp only [aj,aO];rcases hx with rfl | rfl | rfl <;> simp
 have t1:=Ot Vw.nd;have t2:=Ot PL.nd;refine⟨Vw,PL,fun g=>?_,?_,by rw [g1,au]; show 6+_=_; lia,by rw [g2,au]; show 6+_=_; lia⟩
 ·unfold brk;rw [Kz (pn Vw f1) (by rw [Hr]; exact Pq Vw),Kz (pn PL f2) (by rw [Hr]; exact Pq PL),U1,<-YB,<-YA,<-Yz];exact Nw (dn Vw f1) (dn PL f2) ((nK q1).nodup_iff.mp t1) ((nK q2).nodup_iff.mp t2) (Jz q1 t1) (Jz q2 t2) _ _
 ·rw [SJ Vw,SJ PL,J0 f1,J0 f2]
end
end JD
end K2
end
section
namespace K2
open PySem (Str)
open Enc (enc)
namespace JD
open K2.P K2.J K2.JB
open K2.Y (Po gU cu cJ fA pick iw iA)
open K2.MJ (ji)
open K2.QK (t6 rM gc)
noncomputable def Sw(rows:Rows):List (List (List T3)):=rows.map fun r=>r.map fun p=>[p]
noncomputable def sR:iF :=
 (cG (bL (gR a8) (aN 1))
 (cG (fb (mR (ax 0)) (aN 2) (jj (t8 Gd lR (ax 1) (av (c8 (gW 1 [] (mR (ax 2)) (aN 0) none (c8 (gR (av (ax 0) a8))))) a8))))
 (c7 (c8 (ax 1)))))
noncomputable def kI:nQ:=fun ds G Q _=>∃ rows:Rows,ds=[enc rows]/\(rows.length<=100/\∀ r∈rows,r.length<=500)/\Q (enc (Sw rows)) G
theorem AN(ds:List D)(G:Gp)(Q:DK)(h:kI ds G Q fun _ _=>False):sR (fun _ _=>False) (ends Q) (bE 3 ds) G:=by
 obtain⟨rows,rfl,⟨hl,hr⟩,q⟩:=h;unfold sR;simp only [↓cU,bL,gR,a8,↓aF,aN,ends,bE,↓aj,↓bq,↓ak,bg,↓aB,↓aU,↓ar,↓ao];refine⟨by decide,fun p hp=>?_⟩;refine fU (fun τ G'=>(∃ a,τ=[some (enc rows),some (.ref p),a])/\fB G G'/\G' p=some (.lst ((Sw rows).map enc))) ?_ ?_
 ·intro N hN;simp only [fb,↓eW,ax,↓aa];refine iC ?_;refine dM (xs:=rows) (fun pre τ G'=>(∃ a,τ=[some (enc rows),some (.ref p),a])/\fB G G'/\G' p=some (.lst ((Sw pre).map enc))) ⟨⟨_,rfl⟩,.new hp,aA⟩ (fun _ _ _ _=>trivial) ?_ ?_
  ·rintro pre r post τ G' N2 e ⟨⟨a,rfl⟩,le,gp⟩ nj;have hrl:=hr r (by rw [e]; simp);have HN:pre.length < rows.length:=by rw [e]; simp
   simp only [aN,jj,t8,ax,↓ar,↓ao,↓ae,↓aa,↓jU,↓gp,av,c8,gW,↓eW,a8,↓fg,↓true_and];refine iC ⟨Dt (by rw [aq]; lia),?_⟩;refine k6 (xs:=r) (fun pr acc τ G2=>G'=G2/\(∃ a,τ=[a])/\acc=(pr.map fun p=>[p]).map enc) ⟨rfl,⟨_,rfl⟩,rfl⟩ (fun _ _ _ _ _=>trivial) ?_ ?_
   ·rintro pr x po acc τ G2 N3 e2 ⟨rfl,⟨a,rfl⟩,rfl⟩ HQ;simp only [aN,c8,gR,av,ax,↓ao,↓aa,a8,↓ak,↓aF];refine⟨by decide,fun p2 f2=>?_⟩;refine iq (xs:=[x]) (.new f2) f2 aA ?_;refine HQ _ _ _ ⟨rfl,⟨_,rfl⟩,?_⟩;rw [aQ,aQ]; rfl
   ·rintro acc τ G2 ⟨rfl,⟨a,rfl⟩,rfl⟩ p3 f3;refine iq (xs:=r.map fun p=>[p]) (.new f3) f3 aA ?_;simp only [fg,gp];refine⟨KS (by rw [aq]; unfold Sw; rw [aq]; lia),?_⟩;refine nj _ _ ⟨⟨_,rfl⟩,le.put hp,?_⟩;rw [aA];unfold Sw;rw [aQ,aQ]; rfl
  ·rintro τ G' ⟨⟨a,rfl⟩,le,gp⟩;exact hN _ _ ⟨⟨_,rfl⟩,le,gp⟩
 ·rintro _ G' ⟨⟨a,rfl⟩,le,gp⟩;simp only [c7,c8,ax,↓ae,↓aa];exact iq le hp gp q
noncomputable def fl(b:Bool)(row:List (List T3)):List T3:=if b then (row.map bJ).flatten else row.flatten
noncomputable def Gk(cell:Int)(b:Bool)(row:List (List T3)):Nat:=(pick (cell+row.length) 10103 ((fl b row).length+1)).toNat
theorem Ka(b:Bool)(row:List (List T3))(x:List T3):fl b (row++[x])=fl b row++(if b then x.reverse else x):=by
 unfold fl;cases b
 ·simp
 ·simp
theorem Py(b:Bool)(row:List (List T3)):(fl b row).length=row.flatten.length:=by
 unfold fl;cases b
 ·rfl
 ·simp only [if_true];induction row with
  | nil=>rfl
  | cons x r ih=>rw [aj,aX,aX,au,au,ih,kh]
noncomputable def oD:iF :=
 (cG (bL (gR a8) (aN 3))
 (cG (fb (mR (ax 0)) (aN 4) (cG (bL (gR a8) (aN 5))
 (cG (fb (mR (ax 4)) (aN 6) (kZ (kE (ax 1)) (bL (bD i7 (ax 5) (BD (ax 6))) (aN 5)) (bL (bD i7 (ax 5) (ax 6)) (aN 5))))
 (cG (bL (bH cJ (av (bD i7 (ax 2) (wm xm (av (ax 4) a8))) (av (dC (.int 10103)) (av (bD i7 (wm xm (av (ax 5) a8)) (dC (.int 1))) a8)))) (aN 7))
 (jj (t8 Gd lR (ax 3) (av (c8 (bD i7 (CW (ax 5) (pY (ax 7)) gm) (CW (ax 5) gm (pY (ax 7))))) a8)))))))
 (c7 (c8 (ax 3)))))
noncomputable def gG:nQ:=fun ds G Q _=>∃ (B:List (List (List T3))) (b:Bool) (cell:Int),ds=[enc B,.bl b,.int cell]/\(B.length<=100/\∀ row∈B,row.length<=500/\row.flatten.length<=500)/\Q (enc (B.map fun row=>ni (Gk cell b row) (fl b row))) G
theorem wy(ds:List D)(G:Gp)(Q:DK)(h:gG ds G Q fun _ _=>False):oD (fun _ _=>False) (ends Q) (bE 8 ds) G:=by
 obtain⟨B,b,cell,rfl,⟨hl,hr⟩,q⟩:=h;unfold oD;simp only [↓cU,bL,gR,a8,↓aF,aN,ends,bE,↓aj,↓bq,↓ak,bg,↓aB,↓aU,↓ar,↓ao];refine⟨by decide,fun p hp=>?_⟩;refine fU (fun τ G'=>(∃ a1 a2 a3 a4,τ=[some (enc B),some (.bl b),some (.int cell),some (.ref p),a1,a2,a3,a4])/\fB G G'/\G' p=some (.lst ((B.map fun row=>ni (Gk cell b row) (fl b row)).map enc))) ?_ ?_
 ·intro N hN;simp only [fb,↓eW,ax,↓aa];refine iC ?_;refine dM (xs:=B) (fun pre τ G'=>(∃ a1 a2 a3 a4,τ=[some (enc B),some (.bl b),some (.int cell),some (.ref p),a1,a2,a3,a4])/\fB G G'/\G' p=some (.lst ((pre.map fun row=>ni (Gk cell b row) (fl b row)).map enc))) ⟨⟨_,_,_,_,rfl⟩,.new hp,aA⟩ (fun _ _ _ _=>trivial) ?_ ?_
  ·rintro pre row post τ G' N2 e ⟨⟨a1,a2,a3,a4,rfl⟩,le,gp⟩ nj;obtain⟨r1,r2⟩:=hr row (by rw [e]; simp);have HN:pre.length < B.length:=by rw [e]; simp
   simp only [aN,↓cU,bL,gR,a8,↓aF,↓ar,↓ao];refine⟨by decide,fun p2 f2=>?_⟩;have hpp:p≠p2:=by rintro rfl; rw [gp] at f2; cases f2
   refine fU (fun τ G2=>∃ (b1 b2:Option D) (p3:Nat),τ=[some (enc B),some (.bl b),some (.int cell),some (.ref p),some (enc row),some (.ref p3),b1,b2]/\G' p3=none/\fB G' G2/\G2 p3=some (.lst ((fl b row).map enc))) ?_ ?_
   ·intro N3 HQ;simp only [fb,↓eW,ax,↓ae,↓aa];refine iC ?_;refine dM (xs:=row) (fun pr τ G2=>∃ (b1 b2:Option D) (p3:Nat),τ=[some (enc B),some (.bl b),some (.int cell),some (.ref p),some (enc row),some (.ref p3),b1,b2]/\G' p3=none/\fB G' G2/\G2 p3=some (.lst ((fl b pr).map enc))) ⟨_,_,p2,rfl,f2,.new f2,by rw [aA]; cases b <;> rfl⟩ (fun _ _ _ _=>trivial) ?_ ?_
    ·rintro pr x po τ G2 N4 e2 ⟨b1,b2,p3,rfl,f3,Tc,g3⟩ hN4;have lx:(fl b pr).length+x.length<=500:=by
      have:row.flatten.length=pr.flatten.length+(x.length+po.flatten.length):=by rw [e2,cW,aX,au,au]
      rw [Py]; lia
     simp only [aN,kZ,↓fe,ax,↓ar,↓ao,↓ae,↓aa,↓cZ,bL,bD,↓mJ];cases b with
     | true =>
      simp only [if_true,BD];simp only [ax,↓ae,↓aa];refine⟨x.map enc,oO (IsL.enc x),fun p4 f4=>?_⟩;have h34:p3≠p4:=by rintro rfl; rw [g3] at f4; cases f4
      refine pj (IsL.ref (by rw [cT h34]; exact g3)) (IsL.ref aA) (by rw [aq,kh,aq]; exact Dt (by lia)) fun p5 f5=>?_;have l4:=Tc.trans (fB.new (o:=.lst (x.map enc).reverse) f4);refine hN4 _ _ ⟨_,_,p5,rfl,l4.free f5,l4.trans (.new f5),?_⟩;rw [aA,Ka,aQ];simp only [if_true,List.map_reverse]
     | false =>
      simp only [if_false,aw];refine pj (IsL.ref g3) (IsL.enc x) (by rw [aq,aq]; exact Dt (by lia)) fun p5 f5=>?_;refine hN4 _ _ ⟨_,_,p5,rfl,Tc.free f5,Tc.trans (.new f5),?_⟩;rw [aA,Ka,aQ];simp only [if_false,aw]
    ·rintro τ G2 ⟨b1,b2,p3,rfl,f3,Tc,g3⟩;exact HQ _ _ ⟨_,_,p3,rfl,f3,Tc,g3⟩
   rintro _ G2 ⟨b1,b2,p3,rfl,f3,Tc,g3⟩;simp only [↓cU,bL,bH,av,bD,ax,↓ae,↓aa,wm,a8,dC,aN,jj,t8,↓ar,↓ao,↓jU,c8,CW,↓j7,gm,↓rJ,↓fg];refine C2 (IsL.enc row) ?_;simp only [↓dQ,aq];refine C2 (IsL.ref g3) ?_;simp only [↓dQ,aq];refine⟨_,_,_,rfl,⟨by decide,by lia⟩,?_⟩;have k1:=iw (cell+row.length) 10103 (m:=((fl b row).length:Int)+1) (by lia);have k2:=iA (cell+row.length) 10103 (m:=((fl b row).length:Int)+1) (by lia);obtain⟨k,ek⟩:∃ k:Nat,pick (cell+row.length) 10103 ((fl b row).length+1)=(k:Int):=⟨(pick (cell+row.length) 10103 ((fl b row).length+1)).toNat,by lia⟩;have ec:Gk cell b row=k:=by unfold Gk; rw [ek]; rfl
   have hk:k<=(fl b row).length:=by lia
   have lf:=Py b row;rw [ek];simp only [Tc _ _ gp,gw,g3];rw [zA _ _ (by rw [aq]; exact hk)];refine⟨trivial,fun p4 f4=>?_⟩;have h34:p3≠p4:=by rintro rfl; rw [g3] at f4; cases f4
   simp only [cT h34,g3];rw [Iz _ _ (by rw [aq]; exact hk)];intro p5 f5;have h45:p4≠p5:=by rintro rfl; rw [aA] at f5; cases f5
   refine pj (IsL.ref (by rw [cT h45,aA])) (IsL.ref aA) (by rw [cN,eD,aq]; exact Dt (by lia)) fun p6 f6=>?_;have l5:=(Tc.trans (fB.new (o:=.lst (((fl b row).map enc).drop k)) f4)).trans (fB.new (o:=.lst (((fl b row).map enc).take k)) f5);refine iq (G:=G') (xs:=ni (Gk cell b row) (fl b row)) (l5.trans (.new f6)) (l5.free f6) (by rw [aA]; unfold ni; rw [ec,aQ,Mq,Mp]) ?_;simp only [gp];refine⟨KS (by rw [aq,aq]; lia),?_⟩;refine nj _ _ ⟨⟨_,_,_,_,rfl⟩,le.put hp,?_⟩;rw [aA,aQ,aQ]; rfl
  ·rintro τ G' ⟨⟨a1,a2,a3,a4,rfl⟩,le,gp⟩;exact hN _ _ ⟨⟨_,_,_,_,rfl⟩,le,gp⟩
 ·rintro _ G' ⟨⟨a1,a2,a3,a4,rfl⟩,le,gp⟩;simp only [c7,c8,ax,↓ae,↓aa];exact iq le hp gp q
theorem Jr{x:Int}(h:x=0\/x=1):1 - 2 * x=sg (decide (x=0)):=by rcases h with rfl | rfl <;> rfl
theorem Kg(x:Int):x % 2=0\/x % 2=1:=by lia
theorem A9{x y:Int}(h:x=1\/x=-1):MulOk x y:=.inl ⟨by lia,by lia⟩
noncomputable def uy:iF :=
 (cG (bL (bD Hd (dC (.int 1)) (bD sA (dC (.int 2)) (bD uD (ax 1) (dC (.int 2))))) (aN 2))
 (cG (bL (bD Hd (dC (.int 1)) (bD sA (dC (.int 2)) (bD uD (bD Ek (ax 1) (dC (.int 2))) (dC (.int 2))))) (aN 3))
 (cG (bL (bD Hd (dC (.int 1)) (bD sA (dC (.int 2)) (bD uD (bD Ek (ax 1) (dC (.int 4))) (dC (.int 2))))) (aN 4))
 (cG (bL (bD Hd (dC (.int 1)) (bD sA (dC (.int 2)) (bD uD (bD Ek (ax 1) (dC (.int 8))) (dC (.int 2))))) (aN 5))
 (cG (bL (bD sA (bD sA (ax 5) (ax 2)) (ax 3)) (aN 6))
 (cG (bL (bD sA (bD sA (ax 5) (ax 2)) (ax 4)) (aN 7))
 (cG (bL (bD sA (bD sA (ax 5) (ax 3)) (ax 4)) (aN 8))
 (cG (bL (gR (av (c8 (gR (av (gQ (av (bD mf (ax 0) (dC (.int 0))) (av (dC (.int 0)) (av (ax 6) a8)))) (av (gQ (av (bD mf (ax 0) (dC (.int 1))) (av (dC (.int 0)) (av (ax 7) a8)))) a8)))) (av (c8 (gR (av (gQ (av (bD mf (ax 0) (dC (.int 0))) (av (dC (.int 1)) (av (ax 6) a8)))) (av (gQ (av (bD mf (ax 0) (dC (.int 2))) (av (dC (.int 0)) (av (ax 8) a8)))) a8)))) a8))) (aN 9))
 (cG (jj (t8 Gd lR (ax 9) (av (c8 (gR (av (gQ (av (bD mf (ax 0) (dC (.int 1))) (av (dC (.int 1)) (av (ax 7) a8)))) (av (gQ (av (bD mf (ax 0) (dC (.int 2))) (av (dC (.int 1)) (av (ax 8) a8)))) a8)))) a8)))
 (cG (bL (gR (av (ax 2) (av (ax 3) (av (ax 4) a8)))) (aN 10))
 (cG (fb (y9 (dC (.int 3))) (aN 11) (kZ (kE (bD (K9 false) (bD mf (ax 10) (ax 11)) (QJ NN (dC (.int 1))))) (bL (c8 (BD (bD mf (ax 9) (ax 11)))) (kW (ax 9) (ax 11))) gK))
 (c7 (c8 (ax 9))))))))))))))
noncomputable def lP:nQ:=fun ds G Q _=>∃ (a b c cell:Int),ds=[.dP [.int a,.int b,.int c],.int cell]/\∀ o m u s:Bool,Q (enc (wQ a b c (sg s * sg o * sg m) (sg s * sg o * sg u) (sg s * sg m * sg u) o m u)) G
theorem Di(ds:List D)(G:Gp)(Q:DK)(h:lP ds G Q fun _ _=>False):uy (fun _ _=>False) (ends Q) (bE 12 ds) G:=by
 obtain⟨a,b,c,cell,rfl,q⟩:=h;unfold uy;simp only [↓cU,bL,bD,dC,ax,bE,↓aj,↓bq,↓ak,↓aF,bg,↓aB,↓aU,↓ae,↓aa,↓j0,↓jZ,↓oE,aN,↓ar,↓ao,↓oG,gR,av,c8,gQ,↓iI,a8,↓qF,jj,t8,↓jU,↓fg,ends];have e1:=Jr (Kg cell);have e2:=Jr (Kg (cell / 2));have e3:=Jr (Kg (cell / 4));have e4:=Jr (Kg (cell / 8));rw [e1,e2,e3,e4];generalize decide (cell % 2=0)=o;generalize decide (cell / 2 % 2=0)=m;generalize decide (cell / 4 % 2=0)=u;generalize decide (cell / 8 % 2=0)=s;have ss:=Wy s;have so:sg s * sg o=1\/sg s * sg o=-1:=by cases s <;> cases o <;> decide
 have sm:sg s * sg m=1\/sg s * sg m=-1:=by cases s <;> cases m <;> decide
 have m2:∀ {x:Int},MulOk 2 x:=.inl ⟨by decide,by decide⟩;refine⟨by decide,m2,by decide,by decide,by decide,m2,by decide,by decide,by decide,m2,by decide,by decide,by decide,m2,A9 ss,A9 so,A9 ss,A9 so,A9 ss,A9 sm,?_⟩;generalize YB:sg s * sg o * sg m=h0;generalize YA:sg s * sg o * sg u=h1;generalize Yz:sg s * sg m * sg u=h2;simp only [VH,VG,at2];refine⟨by decide,by decide,by decide,fun p1 f1=>?_⟩;refine iq (xs:=[(⟨a,0,h0⟩:T3),⟨b,0,h1⟩]) (.new f1) f1 aA ?_;refine⟨by decide,by decide,by decide,fun p2 f2=>?_⟩;refine iq (xs:=[(⟨a,1,h0⟩:T3),⟨c,0,h2⟩]) (.new f2) f2 aA ?_;refine⟨by decide,fun p f=>?_⟩;simp only [aA];refine⟨trivial,by decide,by decide,by decide,fun p3 f3=>?_⟩;have h3:p≠p3:=by rintro rfl; rw [aA] at f3; cases f3
 refine iq (xs:=[(⟨b,1,h1⟩:T3),⟨c,1,h2⟩]) (.new f3) f3 aA ?_;simp only [aA];refine⟨KS (by simp),by decide,fun p4 f4=>?_⟩;have eu:∀ o1 o2,dO (dO G p o1) p o2=dO G p o2:=fun o1 o2=>by funext z; unfold dO; split <;> rfl
 rw [eu] at f4 ⊢;have h4:p≠p4:=by rintro rfl; rw [aA] at f4; cases f4
 have le:fB G (dO (dO G p (.lst ((wQ a b c h0 h1 h2 true true true).map enc))) p4 (.lst [.int (sg o),.int (sg m),.int (sg u)])):=(fB.new f).trans (.new f4);have gp:(dO (dO G p (.lst ((wQ a b c h0 h1 h2 true true true).map enc))) p4 (.lst [.int (sg o),.int (sg m),.int (sg u)])) p=some (.lst ((wQ a b c h0 h1 h2 true true true).map enc)):=by rw [cT h4,aA]
 have g4:(dO (dO G p (.lst ((wQ a b c h0 h1 h2 true true true).map enc))) p4 (.lst [.int (sg o),.int (sg m),.int (sg u)])) p4=some (.lst [.int (sg o),.int (sg m),.int (sg u)]):=aA;show cG _ _ _ _ _ (dO (dO G p (.lst ((wQ a b c h0 h1 h2 true true true).map enc))) p4 (.lst [.int (sg o),.int (sg m),.int (sg u)]));generalize dO (dO G p (.lst ((wQ a b c h0 h1 h2 true true true).map enc))) p4 (.lst [.int (sg o),.int (sg m),.int (sg u)])=G1 at le gp g4;have Za:∀ (G':Gp) (k:Nat) (xs:List (List T3)) (y:List T3) (bb:Bool) (τ:ik) (N:ik->Gp->Prop),k < 3->xs.length=3->fB G G'->G' p4=some (.lst [.int (sg o),.int (sg m),.int (sg u)])->G' p=some (.lst (xs.map enc))->xs[k]?=some y->ua [D.int (sg o),.int (sg m),.int (sg u)] (k:Int)=some (.int (sg bb))->τ[9]?=some (some (.ref p))->τ[10]?=some (some (.ref p4))->τ[11]?=some (some (.int k))->y.length<=2 ->
   (∀ G2,fB G G2->G2 p4=some (.lst [.int (sg o),.int (sg m),.int (sg u)])->G2 p=some (.lst ((xs.set k (if bb then y else y.reverse)).map enc))->N τ G2) ->
   kZ (kE (bD (K9 false) (bD mf (ax 10) (ax 11)) (QJ NN (dC (.int 1))))) (bL (c8 (BD (bD mf (ax 9) (ax 11)))) (kW (ax 9) (ax 11))) gK (fun _ _=>False) { nx:=N,rt:=Q,bk:=N,ct:=N } τ G':=by
  intro G' k xs y bb τ N hk hxl QF TJ Pg hy ha t9 t10 Y9 hyl hN;have hky:k < xs.length:=(List.getElem?_eq_some_iff.mp hy).1;have hyk:xs[k]=y:=(List.getElem?_eq_some_iff.mp hy).2;have ap:ua (xs.map enc) (k:Int)=some (enc y):=by
   rw [pL _ (by lia) (by rw [aq]; lia)];simp only [eN,ka,hyk]
  simp only [kZ,fe,bD,QJ,ax,t9,t10,Y9,dC,oF];rw [xG,TJ];simp only [ha];refine⟨_,_,.int _,.int _,?_⟩;simp only [cZ,mV,aw,if_false];cases bb with
  | true =>
   simp only [sg,if_true,show ((1:Int) == -1)=false from rfl,aw,if_false,gK];refine hN G' QF TJ ?_;have:xs.set k (if true=true then y else y.reverse)=xs:=by
    simp only [if_true];rw [<-hyk]; exact vq hky
   rw [this]; exact Pg
  | false =>
   simp only [sg,aw,if_false,show ((-1:Int) == -1)=true from rfl,if_true,bL,c8,BD,bD,ax,t9,Y9];rw [xG,Pg];simp only [ap];refine⟨y.map enc,oO (IsL.enc y),fun p5 f5=>?_⟩;rw [<-List.map_reverse];refine iq (xs:=y.reverse) (.new f5) f5 aA ?_;simp only [kW,ax,t9,Y9];unfold wD;simp only [Pg];have ei:Gh (xs.map (enc (α:=List T3))).length (k:Int)=some k:=by
    unfold Gh;rw [if_pos (by lia),if_pos (by rw [aq]; lia)]; simp
   simp only [ei];refine hN _ (QF.put f) (by rw [cT (fW h4)]; exact TJ) ?_;rw [aA,Qv];rfl
 refine fU (fun τ G'=>(∃ L9,τ=[some (.dP [.int a,.int b,.int c]),some (.int cell),some (.int (sg o)),some (.int (sg m)),some (.int (sg u)),some (.int (sg s)),some (.int h0),some (.int h1),some (.int h2),some (.ref p),some (.ref p4),L9])/\fB G G'/\G' p=some (.lst ((wQ a b c h0 h1 h2 o m u).map enc))) ?_ ?_
 ·intro N hN;simp only [fb,↓j5,dC,↓iO];refine⟨by decide,by decide,?_⟩;have er:gH 0 (Int.toNat 3)=([0,1,2]:List Nat).map fun k:Nat=>D.int (k:Int):=rfl;rw [er];refine dM (xs:=([0,1,2]:List Nat)) (f:=fun k:Nat=>D.int (k:Int)) (fun pre τ G'=>(∃ L9,τ=[some (.dP [.int a,.int b,.int c]),some (.int cell),some (.int (sg o)),some (.int (sg m)),some (.int (sg u)),some (.int (sg s)),some (.int h0),some (.int h1),some (.int h2),some (.ref p),some (.ref p4),L9])/\fB G G'/\G' p4=some (.lst [.int (sg o),.int (sg m),.int (sg u)])/\G' p=some (.lst ((wQ a b c h0 h1 h2 (if pre.length=0 then true else o) (if pre.length<=1 then true else m) (if pre.length<=2 then true else u)).map enc)))
   ⟨⟨_,rfl⟩,le,g4,gp⟩ (fun _ _ _ _=>trivial) ?_ ?_
  ·rintro pre x post τ G' N2 e ⟨⟨L9,rfl⟩,QF,TJ,Pg⟩ nj;have cs:(pre=[]/\x=0)\/(pre=[0]/\x=1)\/(pre=[0,1]/\x=2):=by
    cases pre with
    | nil=>cases e; exact .inl ⟨rfl,rfl⟩
    | cons v0 pre =>
     cases pre with
     | nil=>cases e; exact .inr (.inl ⟨rfl,rfl⟩)
     | cons v1 pre =>
      cases pre with
      | nil=>cases e; exact .inr (.inr ⟨rfl,rfl⟩)
      | cons v2 pre =>
       have:=congrArg di e;simp at this
   simp only [aN,ao,ar];rcases cs with ⟨rfl,rfl⟩ | ⟨rfl,rfl⟩ | ⟨rfl,rfl⟩
   ·refine Za G' 0 _ _ o _ N2 (by decide) rfl QF TJ Pg rfl rfl rfl rfl rfl (by simp [tm]) fun G2 l2 g2 z=>nj _ _ ⟨⟨_,rfl⟩,l2,g2,?_⟩;rw [z];cases o <;> rfl
   ·refine Za G' 1 _ _ m _ N2 (by decide) rfl QF TJ Pg rfl rfl rfl rfl rfl (by simp [tm]) fun G2 l2 g2 z=>nj _ _ ⟨⟨_,rfl⟩,l2,g2,?_⟩;rw [z];cases o <;> cases m <;> rfl
   ·refine Za G' 2 _ _ u _ N2 (by decide) rfl QF TJ Pg rfl rfl rfl rfl rfl (by simp [tm]) fun G2 l2 g2 z=>nj _ _ ⟨⟨_,rfl⟩,l2,g2,?_⟩;rw [z];cases o <;> cases m <;> cases u <;> rfl
  ·rintro τ G' ⟨⟨L9,rfl⟩,QF,TJ,Pg⟩;exact hN _ _ ⟨⟨_,rfl⟩,QF,Pg⟩
 ·rintro _ G' ⟨⟨L9,rfl⟩,QF,Pg⟩;simp only [c7,c8,ax,↓ae,↓aa];refine iq QF f Pg ?_;rw [<-YB,<-YA,<-Yz];exact q o m u s
end JD
end K2
end
section
namespace K2
open PySem (Str)
open Enc (enc)
namespace JD
open K2.P K2.J K2.JB
open K2.Y (Po gU cu cJ fA pick iw iA)
open K2.MJ (ji)
open K2.QK (t6 rM gc)
theorem RN{rows:Rows}(d:Dr rows):∀ p∈rows.flatten,p.a∈t6 rows.flatten:=fun p hp=>by
 rcases d.way p hp with w | w
 ·exact List.mem_map.mpr ⟨p,List.mem_filter.mpr ⟨hp,by simp [w]⟩,rfl⟩
 ·exact List.mem_map.mpr ⟨_,List.mem_filter.mpr ⟨d.Hv p hp,by simp [w]⟩,rfl⟩
theorem JW{α:Type}:∀ {rows:List (List α)} {i k:Nat} {r more:List α},rows[i]?=some r->(rows.set i (r.take k++more++r.drop k)).flatten.Perm (more++rows.flatten)
 | [],_,_,_,_,h=>by cases h
 | x :: l,0,k,r,more,h=>by
  have e:x=r:=by simpa using h
  subst e;rw [ao,aX,aX];have:(x.take k++more++x.drop k).Perm (more++x):=by
   refine(List.perm_append_comm.append_right _).trans ?_;rw [bB,jk]
  refine(this.append_right _).trans ?_;rw [bB]
 | x :: l,i+1,k,r,more,h=>by
  rw [ar,aX,aX];refine((JW (rows:=l) (i:=i) (k:=k) (r:=r) (more:=more) (by simpa using h)).append_left x).trans ?_;rw [<-bB,<-bB];exact List.perm_append_comm.append_right _
theorem FJ:∀ rows:Rows,(Sw rows).flatten=rows.flatten.map fun p=>[p]
 | []=>rfl
 | r :: rows=>by
  have:=FJ rows;unfold Sw at *;rw [aj,aX,this,aX,aQ]
theorem Px{α:Type}:∀ {B:List (List α)} {x:List α},x∈B->x.length<=B.flatten.length
 | y :: B,x,h=>by
  rw [aX,au];rcases List.mem_cons.mp h with rfl | h
  ·lia
  ·have:=Px h; lia
theorem TR{B:List (List (List T3))}{P:List (List T3)}{L:List T3}(hB:B.flatten.Perm (P++L.map fun p=>[p])):∀ row∈B,row.length<=P.length+L.length/\row.flatten.length<=P.flatten.length+L.length:=fun row hr=>by
 have h1:=Px hr;have h2:=hB.length_eq;rw [au,aq] at h2;have h3:row.flatten.length<=B.flatten.flatten.length:=by
  obtain⟨l1,l2,rfl⟩:=List.append_of_mem hr;rw [cW,aX,cW,cW,au,au];lia
 have h4:=hB.flatten.length_eq;rw [cW,au,(wC L).1] at h4;exact⟨by lia,by lia⟩
theorem UH(a b c h0 h1 h2:Int)(o m u:Bool):(wQ a b c h0 h1 h2 o m u).flatten.length=6:=(Jp a b c h0 h1 h2 o m u).1.length_eq
noncomputable abbrev Um:nQ:=AV
noncomputable def NL:iF :=
 (cG (bL (bD i7 (dC (.int 1)) (bD uD (bH cu (av (ax 0) (av (dC (.int 0)) a8))) (dC (.int 3)))) (aN 1))
 (cG (bL (c8 (bH jV (av (CW (ax 0) (pY (dC (.int 8))) (pY (bD i7 (dC (.int 8)) (bD uD (bH cu (av (ax 0) (av (dC (.int 1)) a8))) (dC (.int 3)))))) (av (ax 1) (av (dC (.int 999)) a8))))) (aN 2))
 (cG (bL (bH gc (av (ax 2) a8)) (aN 3))
 (cG (bL (gR a8) (aN 4))
 (cG (bL (gR (av (dC (.int 10007)) (av (dC (.int 10111)) (av (dC (.int 10169)) a8)))) (aN 5))
 (cG (fb (mR (ax 5)) (aN 6) (jj (t8 Gd lR (ax 4) (av (bH gf (av (bD i7 (ax 3) (ax 4)) (av (bD i7 (dC (.int 1)) (bH cJ (av (bH cu (av (ax 0) (av (dC (.int 2)) a8))) (av (ax 6) (av (dC (.int 999)) a8))))) a8))) a8))))
 (cG (bL (c8 (bH lP (av (c8 (ax 4)) (av (c8 (bH cu (av (ax 0) (av (dC (.int 3)) a8)))) a8)))) (aN 7))
 (cG (bL (c8 (bH kI (av (c8 (ax 2)) a8))) (aN 8))
 (cG (fb (y9 (dC (.int 3))) (aN 9) (cG (bL (bH cu (av (ax 0) (av (bD i7 (dC (.int 4)) (ax 9)) a8))) (aN 10))
 (cG (bL (bH cJ (av (ax 10) (av (dC (.int 10039)) (av (dC (.int 10000)) a8)))) (aN 11))
 (bL (c8 (bH jy (av (c8 (ax 8)) (av (c8 (bH cJ (av (ax 10) (av (dC (.int 10061)) (av (ax 1) a8))))) (av (c8 (ax 11)) (av (c8 (gR (av (bD mf (ax 7) (ax 9)) a8))) a8)))))) (aN 8)))))
 (cG (bL (c8 (bH gG (av (c8 (ax 8)) (av (c8 (dC (.bl false))) (av (c8 (bH cu (av (ax 0) (av (dC (.int 7)) a8)))) a8))))) (aN 12))
 (cG (bL (c8 (bH gG (av (c8 (ax 8)) (av (c8 (dC (.bl true))) (av (c8 (bH cu (av (ax 0) (av (dC (.int 7)) a8)))) a8))))) (aN 13))
 (cG (bL (c8 (gR (av (bH mE (av (c8 (bH eP (av (ax 12) a8))) a8)) (av (bH mE (av (c8 (bH eP (av (ax 13) a8))) a8)) a8)))) (aN 14))
 (cG (kZ (PT (tQ (kE (bH gU (av (bD mf (ax 14) (dC (.int 0))) a8)))) (PT (tQ (kE (bH gU (av (bD mf (ax 14) (dC (.int 1))) a8)))) (kE (bD (K8 true) (bD mf (ax 14) (dC (.int 0))) (bD mf (ax 14) (dC (.int 1))))))) (c7 (c8 (dC (.bl false)))) gK)
 (c7 (c8 (bD (K8 false) (bH oA (av (ax 12) a8)) (bH oA (av (ax 13) a8))))))))))))))))))
theorem VN(ds:List D)(G:Gp)(Q:DK)(h:Um ds G Q fun _ _=>False):NL (fun _ _=>False) (ends Q) (bE 15 ds) G:=by
 obtain⟨ns,rfl,hl,hG,q⟩:=h;unfold NL;simp only [↓cU,bL,bD,dC,bH,av,ax,bE,↓aj,↓bq,↓ak,↓aF,bg,↓aB,↓aU,↓aa,a8,aN,c8,CW,↓ar,↓ao,↓j7,↓gw,↓uB,↓ae,gR,ends];refine⟨ns,0,rfl,by decide,by decide,?_⟩;have s1:0<=fA ns 0 % 3:=vF _ (by decide);have s2:fA ns 0 % 3 < 3:=qm _ (by decide);generalize fA ns 0 % 3=s0 at s1 s2;obtain⟨S,hS⟩:∃ S:Nat,1+s0=(S:Int):=⟨(1+s0).toNat,by lia⟩;have hS1:1<=S:=by lia
 have hS3:S<=3:=by lia
 simp only [↓dQ,hS];refine⟨ns,1,rfl,by decide,by decide,?_⟩;have d1:0<=fA ns 1 % 3:=vF _ (by decide);have d2:fA ns 1 % 3 < 3:=qm _ (by decide);generalize fA ns 1 % 3=j at d1 d2;simp only [↓dQ,↓gw];rw [vc];intro pS fS;have O9:(cut ns (some 8) (some (8+j))).length<=2:=by
  unfold cut jr;simp only;rw [if_neg (by lia),if_neg (by lia)];simp only [eD,cN]; lia
 generalize cut ns (some 8) (some (8+j))=cells at O9;refine⟨.ref pS,cells,S,999,rfl,IsL.ref aA,⟨by lia,⟨hS1,hS3⟩,by decide,by decide⟩,fun rows d hlen hfl=>uZ (.new fS) ?_⟩;refine⟨rows,rfl,by lia,?_⟩;have ol:=rM rows.flatten;have J1:=RN d;simp only [↓c8,↓bE,↓ends,↓fe,↓bD,↓QJ,↓ax,↓wm,↓t8,↓av,↓a8,↓c7,↓Kj,↓jj,↓bL,↓aN,↓dC,↓gK,↓gQ,↓gR,↓pI,↓rY,↓Sb,↓PT,↓tQ,↓rg,↓xU,↓qZ,↓CW,↓j7,↓gm,↓eW,↓j5,↓bH,↓gW,↓dQ,↓qO,↓mJ,↓oH,↓oE,↓jZ,↓j0,↓oG,↓oF,↓uE,↓xE,↓xH,↓xI,↓je,↓iI,↓uA,↓uB,↓rJ,↓rj,↓vj,↓sd,↓fg,↓kT,↓nJ,↓jv,↓jU,↓pb,↓xB,↓xA,↓true_and,↓and_true,↓uX,↓uW,↓gw,↓cZ,↓iO,↓qS,↓xP,↓uT,↓aj,↓bq,↓aB,↓aU,↓aa,↓ae,↓ao,↓ar,↓ak,↓aF,↓bg,↓if_true,↓if_false,↓cb,↓eX,↓aw,↓cU,↓qF,↓kW,↓jz,↓uV,↓uC,↓me,↓zy,↓jI,↓dJ,↓jA];refine⟨by decide,fun p4 f4=>⟨by decide,fun p5 f5=>?_⟩⟩;have n45:p4≠p5:=fun z=>by rw [<-z,aA] at f5; cases f5
 refine fU (fun τ G'=>∃ (a b c:Int) (a6:Option D),[a,b,c].Nodup/\(∀ x∈[a,b,c],x∉t6 rows.flatten)/\fB G G'/\G' p4=some (.lst [.int a,.int b,.int c])/\τ=[some (.dP (ns.map D.int)),some (.int S),some (enc rows),some (enc (t6 rows.flatten)),some (.ref p4),some (.ref p5),a6,none,none,none,none,none,none,none,none]) ?_ ?_
 ·intro N hN;simp only [fb,↓eW,ax,↓ae,↓aa,QG,aA];refine dM (xs:=([10007,10111,10169]:List Int)) (f:=D.int) (fun pre τ G'=>∃ (fs:List Int) (a6:Option D),fs.length=pre.length/\fs.Nodup/\(∀ x∈fs,x∉t6 rows.flatten)/\fB G G'/\G' p4=some (.lst (fs.map D.int))/\G' p5=some (.lst [.int 10007,.int 10111,.int 10169])/\τ=[some (.dP (ns.map D.int)),some (.int S),some (enc rows),some (enc (t6 rows.flatten)),some (.ref p4),some (.ref p5),a6,none,none,none,none,none,none,none,none])
   ⟨[],none,rfl,cH,fun x h=>by simp at h,(fB.new f4).trans (.new f5),by rw [cT n45,aA]; rfl,aA,rfl⟩ ?_ ?_ ?_
  ·rintro pre τ G' ⟨_,_,_,_,_,_,_,g5,_⟩;exact g5
  ·rintro pre x post τ G' N2 e ⟨fs,a6,fl0,nd,nf,le,g4,g5,rfl⟩ nj;have hx:1<=x/\x<=10169:=by
    have:x∈([10007,10111,10169]:List Int):=by rw [e]; simp
    simp only [aO,bO,or_false] at this;lia
   have O3:pre.length < 3:=by have:=congrArg di e; simp at this; lia
   simp only [aN,jj,t8,ax,↓ar,↓ao,↓ae,↓aa,↓jU,g4,av,bH,bD,dC,a8,↓fg,true_and];refine pj (IsL.enc (t6 rows.flatten)) (IsL.ref g4) (by rw [aq,aq]; exact Dt (by lia)) fun p6 f6=>?_;refine⟨ns,2,rfl,by decide,?_⟩;refine⟨_,_,_,rfl,⟨by lia,by decide⟩,?_⟩;simp only [↓dQ];have q1:=iw (fA ns 2) x (m:=999) (by lia);have q2:=iA (fA ns 2) x (m:=999) (by lia);refine⟨.ref p6,t6 rows.flatten++fs,_,rfl,IsL.ref (by rw [aA,aQ]; rfl),⟨by rw [au]; lia,by lia,by lia⟩,fun m m1 m2 m3=>?_⟩;rw [FX,not_or] at m1;have n46:p4≠p6:=fun z=>by rw [<-z,g4] at f6; cases f6
   have n56:p5≠p6:=fun z=>by rw [<-z,g5] at f6; cases f6
   simp only [cT n46,g4];refine⟨by rw [aq]; exact Dt (by lia),?_⟩;refine nj _ _ ⟨fs++[m],_,by rw [au,au,fl0]; rfl,?_,?_,?_,?_,?_,rfl⟩
   ·rw [eL];exact⟨nd,by simp,fun a ha b hb=>by rw [cy] at hb; subst hb; exact fun z=>m1.2 (z ▸ ha)⟩
   ·intro y hy;rcases List.mem_append.mp hy with hy | hy
    ·exact nf y hy
    ·rw [cy] at hy; rw [hy]; exact m1.1
   ·exact(le.trans (.new f6)).put f4
   ·rw [aA,aQ]; rfl
   ·rw [cT (fW n45),cT n56]; exact g5
  ·rintro τ G' ⟨fs,a6,fl0,nd,nf,le,g4,g5,rfl⟩
   match fs,fl0 with
   | [a,b,c],_=>exact hN _ _ ⟨a,b,c,a6,nd,nf,le,g4,rfl⟩
 rintro _ G' ⟨a,b,c,a6,nd,nf,le,g4,rfl⟩;simp only [↓cU,bL,c8,bH,av,ax,↓ae,↓aa,dC,a8,aN,↓ar,↓ao];refine CA le f4 g4 (Gm.same _) ?_;refine⟨ns,3,rfl,by decide,dh ?_⟩;refine⟨a,b,c,_,rfl,fun o m u s=>dh ?_⟩;have rl:=NG d;refine dh ⟨rows,rfl,⟨by lia,fun r hr=>by have:=rl r hr; lia⟩,dh ?_⟩;have P3:(wQ a b c (sg s * sg o * sg m) (sg s * sg o * sg u) (sg s * sg m * sg u) o m u).length=3:=rfl;have P6:=UH a b c (sg s * sg o * sg m) (sg s * sg o * sg u) (sg s * sg m * sg u) o m u;have Pl:∀ x∈wQ a b c (sg s * sg o * sg m) (sg s * sg o * sg u) (sg s * sg m * sg u) o m u,x.length=2:=fun x hx=>by
  have o2:∀ o p q,(tm o p q).length=2:=fun o p q=>by cases o <;> rfl
  simp only [wQ,aO,bO,or_false] at hx;rcases hx with rfl | rfl | rfl <;> exact o2 _ _ _
 have key:=fun (B:List (List (List T3))) (c1 c2:List (List T3)->Nat) (str:B.length<=3) (hB:B.flatten.Perm (wQ a b c (sg s * sg o * sg m) (sg s * sg o * sg u) (sg s * sg m * sg u) o m u++rows.flatten.map fun p=>[p]))=>KY (c1:=c1) (c2:=c2) d nd (fun p hp=>⟨fun z=>nf a (by simp) (z ▸ J1 p hp),fun z=>nf b (by simp) (z ▸ J1 p hp),fun z=>nf c (by simp) (z ▸ J1 p hp)⟩) (by lia) str hB;generalize wQ a b c (sg s * sg o * sg m) (sg s * sg o * sg u) (sg s * sg m * sg u) o m u=P at *;refine fU (fun τ G'=>G'=G/\∃ (B:List (List (List T3))) (a4 a5 a6 a9 V8 L9:Option D),B.length=S/\B.flatten.Perm (P++rows.flatten.map fun p=>[p])/\τ=[some (.dP (ns.map D.int)),some (.int S),some (enc rows),some (enc (t6 rows.flatten)),a4,a5,a6,some (enc P),some (enc B),a9,V8,L9,none,none,none]) ?_ ?_
 ·intro N hN;simp only [fb,↓j5,dC,↓iO];refine⟨by decide,by decide,?_⟩;have er:gH 0 (Int.toNat 3)=([0,1,2]:List Nat).map fun k:Nat=>D.int (k:Int):=rfl;rw [er];refine dM (xs:=([0,1,2]:List Nat)) (f:=fun k:Nat=>D.int (k:Int)) (fun pre τ G'=>G'=G/\∃ (B:List (List (List T3))) (a4 a5 a6 a9 V8 L9:Option D),B.length=S/\B.flatten.Perm (P.take pre.length++rows.flatten.map fun p=>[p])/\τ=[some (.dP (ns.map D.int)),some (.int S),some (enc rows),some (enc (t6 rows.flatten)),a4,a5,a6,some (enc P),some (enc B),a9,V8,L9,none,none,none])
   ⟨rfl,Sw rows,_,_,_,_,_,_,by unfold Sw; rw [aq]; exact hlen,by rw [FJ]; exact List.Perm.refl _,rfl⟩ (fun _ _ _ _=>trivial) ?_ ?_
  ·rintro pre x post τ _ N2 e ⟨rfl,B,a4,a5,a6,a9,V8,L9,V3,hB,rfl⟩ nj;have hx:pre.length=x/\x < 3:=by
    match pre,e with
    | [],e=>injection e with e _; exact⟨by rw [<-e]; rfl,by lia⟩
    | [_],e=>injection e with _ e; injection e with e _; exact⟨by rw [<-e]; rfl,by lia⟩
    | [_,_],e=>injection e with _ e; injection e with _ e; injection e with e _; exact⟨by rw [<-e]; rfl,by lia⟩
    | _ :: _ :: _ :: pre,e=>have:=congrArg di e; simp at this
   obtain⟨hx,hx3⟩:=hx;obtain⟨y,hy⟩:∃ y,P[x]?=some y:=⟨P[x],ay (by lia)⟩;have hyl:=Pl y (eZ hy);simp only [aN,↓cU,bL,bH,av,ax,↓ar,↓ao,↓aa,bD,dC,↓ae,↓dQ,a8,c8,gR,↓ak,↓aF];refine⟨ns,4+(x:Int),rfl,by lia,?_⟩;simp only [↓c8,↓bE,↓ends,↓fe,↓bD,↓QJ,↓ax,↓wm,↓t8,↓av,↓a8,↓c7,↓Kj,↓jj,↓bL,↓aN,↓dC,↓gK,↓gQ,↓gR,↓pI,↓rY,↓Sb,↓PT,↓tQ,↓rg,↓xU,↓qZ,↓CW,↓j7,↓gm,↓eW,↓j5,↓bH,↓gW,↓dQ,↓qO,↓mJ,↓oH,↓oE,↓jZ,↓j0,↓oG,↓oF,↓uE,↓xE,↓xH,↓xI,↓je,↓iI,↓uA,↓uB,↓rJ,↓rj,↓vj,↓sd,↓fg,↓kT,↓nJ,↓jv,↓jU,↓pb,↓xB,↓xA,↓true_and,↓and_true,↓uX,↓uW,↓gw,↓cZ,↓iO,↓qS,↓xP,↓uT,↓aj,↓bq,↓aB,↓aU,↓aa,↓ae,↓ao,↓ar,↓ak,↓aF,↓bg,↓if_true,↓if_false,↓cb,↓eX,↓aw,↓cU,↓qF,↓kW,↓jz,↓uV,↓uC,↓me,↓zy,↓jI,↓dJ,↓jA];refine⟨_,_,_,rfl,⟨by decide,by decide⟩,?_⟩;simp only [↓c8,↓bE,↓ends,↓fe,↓bD,↓QJ,↓ax,↓wm,↓t8,↓av,↓a8,↓c7,↓Kj,↓jj,↓bL,↓aN,↓dC,↓gK,↓gQ,↓gR,↓pI,↓rY,↓Sb,↓PT,↓tQ,↓rg,↓xU,↓qZ,↓CW,↓j7,↓gm,↓eW,↓j5,↓bH,↓gW,↓dQ,↓qO,↓mJ,↓oH,↓oE,↓jZ,↓j0,↓oG,↓oF,↓uE,↓xE,↓xH,↓xI,↓je,↓iI,↓uA,↓uB,↓rJ,↓rj,↓vj,↓sd,↓fg,↓kT,↓nJ,↓jv,↓jU,↓pb,↓xB,↓xA,↓true_and,↓and_true,↓uX,↓uW,↓gw,↓cZ,↓iO,↓qS,↓xP,↓uT,↓aj,↓bq,↓aB,↓aU,↓aa,↓ae,↓ao,↓ar,↓ak,↓aF,↓bg,↓if_true,↓if_false,↓cb,↓eX,↓aw,↓cU,↓qF,↓kW,↓jz,↓uV,↓uC,↓me,↓zy,↓jI,↓dJ,↓jA];refine dh ⟨_,_,_,rfl,⟨by decide,by lia⟩,dh (dh ?_)⟩;have i1:=iw (fA ns (4+(x:Int))) 10061 (m:=S) (by lia);have i2:=iA (fA ns (4+(x:Int))) 10061 (m:=S) (by lia);generalize pick (fA ns (4+(x:Int))) 10061 S=oj at i1 i2;obtain⟨i,rfl⟩:∃ i:Nat,oj=(i:Int):=⟨oj.toNat,by lia⟩;have ri:ua (P.map enc) (x:Int)=some (enc y):=by
    rw [pL _ (by lia) (by rw [aq]; lia)];simp only [eN,ka];rw [(List.getElem?_eq_some_iff.mp hy).2]
   show mf (.dP (P.map enc)) (.int x) _ _;rw [iI,ri];refine⟨by decide,fun p7 f7=>?_⟩;refine iq (xs:=[y]) (.new f7) f7 aA ?_;have bl:=TR hB;have tl:(P.take pre.length).length<=3:=by rw [eD]; lia
   refine Hf (rows:=B) (more:=[y]) ⟨by lia,by lia,fun r hr=>by have:=(bl r hr).1; lia,by simp⟩ fun r k hr hk ek=>dh ?_;refine nj _ _ ⟨rfl,_,_,_,_,_,_,_,by rw [eg]; exact V3,?_,rfl⟩;refine(JW hr).trans ?_;refine(hB.append_left [y]).trans ?_;have e2:P.take (pre++[x]).length=P.take pre.length++[y]:=by
    rw [au,dg,List.take_add_one,hx,hy]; rfl
   rw [e2,<-bB];exact List.perm_append_comm.append_right _
  ·rintro τ _ ⟨rfl,B,a4,a5,a6,a9,V8,L9,V3,hB,rfl⟩;refine hN _ _ ⟨rfl,B,_,_,_,_,_,_,V3,?_,rfl⟩;rw [MU (by rw [P3]; simp)] at hB;exact hB
 rintro _ _ ⟨rfl,B,a4,a5,a6',a9,V8,L9,V3,hB,rfl⟩;simp only [↓cU,bL,c8,bH,av,ax,↓ae,↓aa,dC,a8,aN,↓ar,↓ao,gR,↓ak,↓aF];have bl:=TR hB;refine dh (dh ⟨ns,7,rfl,by decide,dh ?_⟩);refine⟨B,false,_,rfl,⟨by lia,fun r hr=>by have:=bl r hr; lia⟩,dh ?_⟩;refine dh (dh ⟨ns,7,rfl,by decide,dh ?_⟩);refine⟨B,true,_,rfl,⟨by lia,fun r hr=>by have:=bl r hr; lia⟩,dh ?_⟩;obtain⟨z1,z2,z3,z4,z5,z6⟩:=key B (Gk (fA ns 7) false) (Gk (fA ns 7) true) (by lia) hB;have lA:(B.map fun row=>ni (Gk (fA ns 7) false row) (fl false row)).length=S:=by rw [aq]; exact V3
 have lC:(B.map fun row=>ni (Gk (fA ns 7) true row) (fl true row)).length=S:=by rw [aq]; exact V3
 have eA:(B.map fun row=>ni (Gk (fA ns 7) false row) (fl false row))=B.map fun row=>ni (Gk (fA ns 7) false row) row.flatten:=rfl;have eC:(B.map fun row=>ni (Gk (fA ns 7) true row) (fl true row))=B.map fun row=>ni (Gk (fA ns 7) true row) (row.map bJ).flatten:=rfl;rw [<-eA] at z1 z3 z4 z5;rw [<-eC] at z2 z3 z4 z6;generalize (B.map fun row=>ni (Gk (fA ns 7) false row) (fl false row))=A at *;generalize (B.map fun row=>ni (Gk (fA ns 7) true row) (fl true row))=C at *;have copy:∀ {A:Rows} {G:Gp} {Q:DK},A.length<=1000->Q (enc A) G->eP [enc A] G (fun x G1=>Mm G1 x Q) fun _ _=>False:=fun {A G Q} hA qq=>by
  refine⟨A.map fun r=>r.map enc,by rw [ji],by rw [aq]; exact hA,fun G3 p2 as2 h2=>h2.fz ?_⟩;rw [<-ji]; exact qq
 refine copy (by lia) ?_;refine⟨A,rfl,⟨z1,by lia⟩,fun T bT=>?_⟩;refine copy (by lia) ?_;refine⟨C,rfl,⟨z2,by lia⟩,fun U bU=>?_⟩;refine⟨by decide,fun p8 f8=>?_⟩;refine CA (.new f8) f8 aA (Gm.same _) ?_;rw [qE];have rix:∀ {e0 e1:D} {G:Gp} {Q:DK},(mf (.dP [e0,e1]) (.int 0) G Q=Q e0 G)/\(mf (.dP [e0,e1]) (.int 1) G Q=Q e1 G):=fun {e0 e1 G Q}=>⟨by rw [iI]; rfl,by rw [iI]; rfl⟩;simp only [kZ,PT,tQ,↓fe,bH,av,bD,ax,↓ae,↓aa,dC,↓iI,a8,c7,c8,gK,↓if_true];refine⟨_,T,rfl,⟨rfl,bT.nd⟩,bT.nz,?_⟩;simp only [↓cZ,↓cb,↓aw,↓if_false];refine⟨_,U,rfl,⟨rfl,bU.nd⟩,bU.nz,?_⟩;simp only [↓cZ,↓cb,↓aw,↓if_false];refine NP zS.kJ zS.kJ ?_;have e1:wb T U=true:=bT.eq bU z3;simp only [↓cZ,e1,↓cb,↓if_true,↓aw,↓if_false];refine⟨A,rfl,z1,?_⟩;refine⟨C,rfl,z2,NO ?_⟩;simp only [↓aw,z4,decide_true,↓cb,↓if_false];exact dh (q _)
end JD
end K2
end
namespace Fin
open PySem PySem.Spec PyProof.Rows L2 K2
open K2.JB
open K2.JD
open K2.QK (gc vo)
open K2.P (fT rB fI xa gv zQ mD zM)
open K2.Y
noncomputable def top(i:Nat):Stmt:=PySem.Challenge.pw_knotwise_k47_slides_keep.main.body.getD i (.Pass ⟨0,0,0,0⟩)
section
variable {P:bM} {w:World} {K:ai} {mg:Str->Option Value} {base:Heap}
theorem ym:cF ["_law_script","_law_k"] ["_law_script","_law_k"] (bo (top 30)):=sN
theorem zk {f:Addr} {fd:aJ} (F:o3 K "_law_cell_at" "_law_cell_at" (top 30) f fd) (ky:mg "len" = none):gq P w K mg base gu 1 f fd ["_law_script","_law_k"] (cS K cu) :=
 sT F ym zO fun _ _ _ _ _ _ hr=>have hu:=hr.units; have hu0:=hr.M7; (aL (lB (iP (Of hu0) (bG 1) (jE oT rfl ky zG (ah (bG 0) aH)) (ku _)) (aR (cI (aZ (ez hu (bG 0) (bG 1) (fun _ _=>rfl))))) jf)
 (aR (cI (aZ aM))))
theorem wG:cF ["_law_names_here","_law_name"] ["_law_names_here","_law_name"] (bo (top 35)):=sN
theorem Ff {f:Addr} {fd:aJ} (F:o3 K "_law_free" "_law_free" (top 35) f fd):gq P w K mg base gu 1 f fd ["_law_names_here","_law_name"] (cS K gf) :=
 sT F wG rC fun _ _ _ _ _ _ hr=>have nd:=wG.nd; have hu:=hr.units; (aL (Lc bw (iP (US hu) (bG 1) (bG 0) (by with_unfolding_all rfl)) (aR (jK (i:=1) nd rfl (bY dW (bY kK (bG 1) aM) aM))))
 (aR (cI (aZ (bG 1)))))
theorem D4:cF ["_law_cell","_law_prime","_law_many"] ["_law_cell","_law_prime","_law_many"] (bo (top 32)):=sN
theorem Fe {f:Addr} {fd:aJ} (F:o3 K "_law_pick" "_law_pick" (top 32) f fd):gq P w K mg base gu 1 f fd ["_law_cell","_law_prime","_law_many"] (cS K cJ) :=
 sT F D4 FQ fun _ _ _ _ _ _ hr=>(aR (cI (aZ (bY kK (bY kK (bY iB (bG 0) aM) (bG 1)) (bG 2)))))
theorem D5:cF ["_law_rows"] ["_law_rows"] (bo (top 34)):=sN
theorem Fg {f:Addr} {fd:aJ} (F:o3 K "_law_copy" "_law_copy" (top 34) f fd) (lQ:mg "list" = none):gq P w K mg base gu 1 f fd ["_law_rows"] (cS K eP) :=
 sT F D5 rD fun _ _ _ _ _ _ hr=>(aR (cI (aZ (oK ["_law_row"] (sc:=bo (top 34)) (XN:=["_law_rows"]) (fH (bG 0)) (fun _ _ _ _=>(mi (i:=0) (show (["_law_row"]:List Str).Nodup by decide +kernel) rfl)) (fun _ _ _ _=>.none) (fun _ _ _ _=>(tj ID rfl lQ Ko (ah (bG 0) aH)))))))
theorem yk:cF ["_law_rows","_law_at","_law_place","_law_more","_law_made"] ["_law_rows","_law_at","_law_place","_law_more"] (bo (top 36)):=sN
theorem HZ {f:Addr} {fd:aJ} (F:o3 K "_law_put" "_law_put" (top 36) f fd) (ky:mg "len" = none) {tJ:Addr} {tN:aJ} (fc:nB P w K mg base gu 1 tJ tN "_law_copy" ["_law_rows"] (cS K eP)):gq P w K mg base gu 2 f fd ["_law_rows","_law_at","_law_place","_law_more"] (cS K jy) :=
 sT F yk IM fun _ _ _ _ _ _ hr=>have nd:=yk.nd; have hu:=hr.units; (aL (jK (i:=4) nd rfl (aT fc.ok (hr.mono (by decide)) rfl fc.mg fc.kp fc.bi (ah (bG 0) aH)))
 (aL (jK (i:=2) nd rfl (bY kK (bG 2) (bY dW (jE oT rfl ky zG (ah (ez hu (bG 4) (bG 1) (fun _ _=>rfl)) aH)) aM)))
 (aL (iQ (bY dW (bY dW (iR (ez hu (bG 4) (bG 1) (fun _ _=>rfl)) kS (jg (bG 2))) (bG 3)) (iR (ez hu (bG 4) (bG 1) (fun _ _=>rfl)) (jg (bG 2)) kS)) (j3 hu (bG 4) (bG 1)))
 (aR (cI (aZ (bG 4)))))))
theorem qH:cF ["_law_cells","_law_strings","_law_spread","_law_rows","_law_names_here","_law_cell","_law_name","_law_hand","_law_way","_law_prime","_law_place"] ["_law_cells","_law_strings","_law_spread"] (bo (top 37)):=sN
theorem zj {f:Addr} {fd:aJ} (F:o3 K "_law_drawing" "_law_drawing" (top 37) f fd) (gI:mg "range" = none) {tH:Addr} {tM:aJ} (g7:nB P w K mg base gu 1 tH tM "_law_free" ["_law_names_here","_law_name"] (cS K gf)) {mU:Addr} {mW:aJ} (bI:nB P w K mg base gu 1 mU mW "_law_pick" ["_law_cell","_law_prime","_law_many"] (cS K cJ)) {v7:Addr} {we:aJ} (iT:nB P w K mg base gu 2 v7 we "_law_put" ["_law_rows","_law_at","_law_place","_law_more"] (cS K jy)):gq P w K mg base gu 3 f fd ["_law_cells","_law_strings","_law_spread"] (cS K jV) :=
 sT F qH zN fun _ _ _ _ _ _ hr=>have nd:=qH.nd; (aL (B9 (yF ["_law_k"] (sc:=bo (top 37)) (XN:=["_law_cells","_law_strings","_law_spread","_law_rows","_law_names_here","_law_cell","_law_name","_law_hand","_law_way","_law_prime","_law_place"]) (i:=3) nd rfl rfl (mL rfl gI (bG 1)) (fun _ _ _ _=>(mi (i:=0) (show (["_law_k"]:List Str).Nodup by decide +kernel) rfl)) (fun _ _ _ _=>.none) (fun _ _ _ _=>(fi aH))))
 (aL (jK (i:=4) nd rfl (fi aH))
 (aL (dE bw rfl (fH (bG 0)) (mi (i:=5) nd rfl) (aL (jK (i:=6) nd rfl (aT g7.ok (hr.mono (by decide)) rfl g7.mg g7.kp g7.bi (ah (bG 4) (ah (bY dW aM (aT bI.ok (hr.mono (by decide)) rfl bI.mg bI.kp bI.bi (ah (bG 5) (ah aM (ah (bG 2) aH))))) aH))))
 (aL (mK (kr eT fD fC mC kz (bG 4) (ah (bG 6) aH)))
 (aL (jK (i:=7) nd rfl (bY uH aM (bY iB aM (aT bI.ok (hr.mono (by decide)) rfl bI.mg bI.kp bI.bi (ah (bG 5) (ah aM (ah aM aH)))))))
 (aR (dE bw rfl (mL rfl gI aM) (mi (i:=8) nd rfl) (aL (jK (i:=9) nd rfl (bY dW aM (bY iB aM (bG 8))))
 (aL (jK (i:=10) nd rfl (aT bI.ok (hr.mono (by decide)) rfl bI.mg bI.kp bI.bi (ah (bG 5) (ah (bY dW aM (bY iB aM (bG 8))) (ah aM aH)))))
 (aR (jK (i:=3) nd rfl (aZ (aT iT.ok (hr.mono (by decide)) rfl iT.mg iT.kp iT.bi (ah (aZ (bG 3)) (ah (aZ (aT bI.ok (hr.mono (by decide)) rfl bI.mg bI.kp bI.bi (ah (bG 5) (ah (bG 9) (ah (bG 1) aH))))) (ah (aZ (bG 10)) (ah (aZ (fi (ah (dI (ah (bG 6) (ah (bG 8) (ah (bG 7) aH)))) aH))) aH))))))))))))))))
 (aR (cI (aZ (bG 3)))))))
theorem uo:cF ["_law_rows","_law_names_here","_law_row","_law_passing"] ["_law_rows"] (bo (top 38)):=sN
theorem CG {f:Addr} {fd:aJ} (F:o3 K "_law_names" "_law_names" (top 38) f fd):gq P w K mg base gu 1 f fd ["_law_rows"] (cS K gc) :=
 sT F uo vo fun _ _ _ _ _ _ hr=>have nd:=uo.nd; have hu:=hr.units; (aL (jK (i:=1) nd rfl (fi aH))
 (aL (dE bw rfl (fH (bG 0)) (mi (i:=2) nd rfl) (aR (dE bw rfl (fH (bG 2)) (mi (i:=3) nd rfl) (aR (lB (iP (pA hu) (ez hu (bG 3) aM (fun _ _=>rfl)) aM (ku _)) (aR (mK (kr eT fD fC mC kz (bG 1) (ah (ez hu (bG 3) aM (fun _ _=>rfl)) aH)))) jf)))))
 (aR (cI (aZ (bG 1))))))
theorem um:cF ["_law_names_here","_law_cell","_law_over","_law_middle","_law_under","_law_sign","_law_one","_law_two","_law_three","_law_pairs_here","_law_signs","_law_k"] ["_law_names_here","_law_cell"] (bo (top 41)):=sN
theorem CF {f:Addr} {fd:aJ} (F:o3 K "_law_pairs" "_law_pairs" (top 41) f fd) (lQ:mg "list" = none) (gI:mg "range" = none) (jF:mg "reversed" = none):gq P w K mg base gu 1 f fd ["_law_names_here","_law_cell"] (cS K lP) :=
 sT F um Di fun _ _ _ _ _ _ hr=>have nd:=um.nd; have hu:=hr.units; (aL (jK (i:=2) nd rfl (bY uH aM (bY iB aM (bY kK (bG 1) aM))))
 (aL (jK (i:=3) nd rfl (bY uH aM (bY iB aM (bY kK (bY yJ (bG 1) aM) aM))))
 (aL (jK (i:=4) nd rfl (bY uH aM (bY iB aM (bY kK (bY yJ (bG 1) aM) aM))))
 (aL (jK (i:=5) nd rfl (bY uH aM (bY iB aM (bY kK (bY yJ (bG 1) aM) aM))))
 (aL (jK (i:=6) nd rfl (bY iB (bY iB (bG 5) (bG 2)) (bG 3)))
 (aL (jK (i:=7) nd rfl (bY iB (bY iB (bG 5) (bG 2)) (bG 4)))
 (aL (jK (i:=8) nd rfl (bY iB (bY iB (bG 5) (bG 3)) (bG 4)))
 (aL (jK (i:=9) nd rfl (fi (ah (aZ (fi (ah (dI (ah (ez hu (bG 0) aM (fun _ _=>rfl)) (ah aM (ah (bG 6) aH)))) (ah (dI (ah (ez hu (bG 0) aM (fun _ _=>rfl)) (ah aM (ah (bG 7) aH)))) aH)))) (ah (aZ (fi (ah (dI (ah (ez hu (bG 0) aM (fun _ _=>rfl)) (ah aM (ah (bG 6) aH)))) (ah (dI (ah (ez hu (bG 0) aM (fun _ _=>rfl)) (ah aM (ah (bG 8) aH)))) aH)))) aH))))
 (aL (mK (kr eT fD fC mC kz (bG 9) (ah (aZ (fi (ah (dI (ah (ez hu (bG 0) aM (fun _ _=>rfl)) (ah aM (ah (bG 7) aH)))) (ah (dI (ah (ez hu (bG 0) aM (fun _ _=>rfl)) (ah aM (ah (bG 8) aH)))) aH)))) aH)))
 (aL (jK (i:=10) nd rfl (fi (ah (bG 2) (ah (bG 3) (ah (bG 4) aH)))))
 (aL (dE bw rfl (mL rfl gI aM) (mi (i:=11) nd rfl) (aR (lB (iP (pA hu) (ez hu (bG 10) (bG 11) (fun _ _=>rfl)) (N6 Jf aM) (ku _)) (aR (iQ (aZ (Es rfl rfl lQ rfl jF (ez hu (bG 9) (bG 11) (fun _ _=>rfl)))) (j3 hu (bG 9) (bG 11)))) jf)))
 (aR (cI (aZ (bG 9)))))))))))))))
theorem sP:cF ["_law_rows","_law_made","_law_row"] ["_law_rows"] (bo (top 39)):=sN
theorem Ay {f:Addr} {fd:aJ} (F:o3 K "_law_blocks" "_law_blocks" (top 39) f fd):gq P w K mg base gu 1 f fd ["_law_rows"] (cS K kI) :=
 sT F sP AN fun _ _ _ _ _ _ hr=>have nd:=sP.nd; (aL (jK (i:=1) nd rfl (fi aH))
 (aL (dE bw rfl (fH (bG 0)) (mi (i:=2) nd rfl) (aR (mK (kr eT fD fC mC kz (bG 1) (ah (aZ (oK ["_law_passing"] (sc:=bo (top 39)) (XN:=["_law_rows","_law_made","_law_row"]) (fH (bG 2)) (fun _ _ _ _=>(mi (i:=0) (show (["_law_passing"]:List Str).Nodup by decide +kernel) rfl)) (fun _ _ _ _=>.none) (fun _ _ _ _=>(aZ (fi (ah (bG 0) aH)))))) aH)))))
 (aR (cI (aZ (bG 1))))))
theorem oC:cF ["_law_rows","_law_back","_law_cell","_law_made","_law_row","_law_line","_law_block","_law_cut"] ["_law_rows","_law_back","_law_cell"] (bo (top 40)):=sN
theorem v3 {f:Addr} {fd:aJ} (F:o3 K "_law_flattened" "_law_flattened" (top 40) f fd) (ky:mg "len" = none) (lQ:mg "list" = none) (jF:mg "reversed" = none) {mU:Addr} {mW:aJ} (bI:nB P w K mg base gu 1 mU mW "_law_pick" ["_law_cell","_law_prime","_law_many"] (cS K cJ)):gq P w K mg base gu 2 f fd ["_law_rows","_law_back","_law_cell"] (cS K gG) :=
 sT F oC wy fun _ _ _ _ _ _ hr=>have nd:=oC.nd; (aL (jK (i:=3) nd rfl (fi aH))
 (aL (dE bw rfl (fH (bG 0)) (mi (i:=4) nd rfl) (aL (jK (i:=5) nd rfl (fi aH))
 (aL (dE bw rfl (fH (bG 4)) (mi (i:=6) nd rfl) (aR (lB (jD (bG 1)) (aR (jK (i:=5) nd rfl (bY dW (bG 5) (Es rfl rfl lQ rfl jF (bG 6))))) (aR (jK (i:=5) nd rfl (bY dW (bG 5) (bG 6)))))))
 (aL (jK (i:=7) nd rfl (aT bI.ok (hr.mono (by decide)) rfl bI.mg bI.kp bI.bi (ah (bY dW (bG 2) (jE oT rfl ky zG (ah (bG 4) aH))) (ah aM (ah (bY dW (jE oT rfl ky zG (ah (bG 5) aH)) aM) aH)))))
 (aR (mK (kr eT fD fC mC kz (bG 3) (ah (aZ (bY dW (iR (bG 5) (jg (bG 7)) kS) (iR (bG 5) kS (jg (bG 7))))) aH))))))))
 (aR (cI (aZ (bG 3))))))
theorem qG:cF ["rows","passings","row"] ["rows"] (bo (top 4)):=sN
theorem zi {f:Addr} {fd:aJ} (F:o3 K "passings_of" "passings_of" (top 4) f fd):gq P w K mg base gu 1 f fd ["rows"] (cS K fT) :=
 sT F qG rB fun _ _ _ _ _ _ hr=>have nd:=qG.nd; (aL (jK (i:=1) nd rfl (fi aH))
 (aL (dE bw rfl (fH (bG 0)) (mi (i:=2) nd rfl) (aR (mK (kr eT PySem.F.slot_list_extend PySem.F.type_list_extend mC Ht (bG 1) (ah (bG 2) aH)))))
 (aR (cI (aZ (bG 1))))))
theorem yn:cF ["drawing","name","passing"] ["drawing","name"] (bo (top 6)):=sN
theorem H0 {f:Addr} {fd:aJ} (F:o3 K "hand_of" "hand_of" (top 6) f fd) {oh:Addr} {oo:aJ} (ff:nB P w K mg base gu 1 oh oo "passings_of" ["rows"] (cS K fT)):gq P w K mg base gu 2 f fd ["drawing","name"] (cS K gv) :=
 sT F yn zQ fun _ _ _ _ _ _ hr=>have nd:=yn.nd; have hu:=hr.units; (aL (dE bw rfl (fH (aT ff.ok (hr.mono (by decide)) rfl ff.mg ff.kp ff.bi (ah (bG 0) aH))) (mi (i:=2) nd rfl) (aR (lB (iP (pA hu) (ez hu (bG 2) aM (fun _ _=>rfl)) (bG 1) (ku _)) (aR (cI (aZ (ez hu (bG 2) aM (fun _ _=>rfl))))) jf)))
 (aR Ld))
theorem yj:cF ["drawing","behind","row","passing","follower"] ["drawing"] (bo (top 7)):=sN
theorem HY {f:Addr} {fd:aJ} (F:o3 K "next_of" "next_of" (top 7) f fd) (vT:mg "zip" = none):gq P w K mg base gu 1 f fd ["drawing"] (cS K mD) :=
 sT F yj zM fun _ _ _ _ _ _ hr=>have nd:=yj.nd; have hu:=hr.units; (aL (jK (i:=1) nd rfl pz)
 (aL (dE bw rfl (fH (bG 0)) (mi (i:=2) nd rfl) (aR (dE bw rfl (JG rfl vT (bG 2) (bY dW (iR (bG 2) (jg aM) kS) (iR (bG 2) kS (jg aM)))) (ju rfl (cO (mi (i:=3) nd rfl) (cO (mi (i:=4) nd rfl) hX)) (cQ (cQ ib))) (aR (iQ (iR (bG 4) kS (jg aM)) (j3 hu (bG 1) (iR (bG 3) kS (jg aM))))))))
 (aR (cI (aZ (bG 1))))))
theorem G5:cF ["far"] ["far"] (bo (top 20)):=sN
theorem HX {f:Addr} {fd:aJ} (F:o3 K "plan_of" "plan_of" (top 20) f fd) (ml:mg "sorted" = none) (yN:mg "tuple" = none):gq P w K mg base gu 1 f fd ["far"] (cS K kn) :=
 sT F G5 IL fun _ _ _ _ _ _ hr=>have hu:=hr.units; have hu0:=hr.M7; (aR (cI (aZ (tj FG rfl yN Qd (ah (jE (ve rfl hu) rfl ml BG (ah (oK ["end","far"] (sc:=bo (top 20)) (XN:=["far"]) (Ep (bG 0)) (fun _ _ _ _=>(mi (i:=0) (show (["end","far"]:List Str).Nodup by decide +kernel) rfl)) (fun _ _ _ _=>(.some (iP (Of hu0) (bG 0) (ez hu (bG 1) (bG 0) (fun _ _=>rfl)) (ku _)))) (fun _ _ _ _=>(dI (ah (bG 0) (ah (ez hu (bG 1) (bG 0) (fun _ _=>rfl)) aH))))) aH)) aH)))))
theorem wH:cF ["threads","far","one","other"] ["threads"] (bo (top 22)):=sN
theorem Fh {f:Addr} {fd:aJ} (F:o3 K "far_ends" "far_ends" (top 22) f fd):gq P w K mg base gu 1 f fd ["threads"] (cS K jC) :=
 sT F wH FR fun _ _ _ _ _ _ hr=>have nd:=wH.nd; have hu:=hr.units; (aL (jK (i:=1) nd rfl pz)
 (aL (dE bw rfl (fH (bG 0)) (ju rfl (cO (mi (i:=2) nd rfl) (cO (mi (i:=3) nd rfl) hX)) (cQ (cQ ib))) (aL (iQ (bG 3) (j3 hu (bG 1) (bG 2)))
 (aR (iQ (bG 2) (j3 hu (bG 1) (bG 3))))))
 (aR (cI (aZ (bG 1))))))
theorem sO:cF ["drawing","threads"] ["drawing"] (bo (top 21)):=sN
theorem Ax {f:Addr} {fd:aJ} (F:o3 K "whole_plan" "whole_plan" (top 21) f fd) {LY:Addr} {L4:aJ} (r8:nB P w K mg base gu 1 LY L4 "next_of" ["drawing"] (cS K mD)) {v5:Addr} {wd:aJ} (iS:nB P w K mg base gu 1 v5 wd "plan_of" ["far"] (cS K kn)) {tK:Addr} {tP:aJ} (g8:nB P w K mg base gu 1 tK tP "far_ends" ["threads"] (cS K jC)):gq P w K mg base gu 2 f fd ["drawing"] (cS K kH) :=
 sT F sO AM fun _ _ _ _ _ _ hr=>have nd:=sO.nd; (aL (yF ["spot","after"] (sc:=bo (top 21)) (XN:=["drawing","threads"]) (i:=1) nd rfl rfl (Hi (aT r8.ok (hr.mono (by decide)) rfl r8.mg r8.kp r8.bi (ah (bG 0) aH))) (fun _ _ _ _=>(ju rfl (cO (mi (i:=0) (show (["spot","after"]:List Str).Nodup by decide +kernel) rfl) (cO (mi (i:=1) (show (["spot","after"]:List Str).Nodup by decide +kernel) rfl) hX)) (cQ (cQ ib)))) (fun _ _ _ _=>.none) (fun _ _ _ _=>(dI (ah (bY dW (bG 0) (dI (ah aM aH))) (ah (bY dW (bG 1) (dI (ah aM aH))) aH)))))
 (aR (cI (aZ (aT iS.ok (hr.mono (by decide)) rfl iS.mg iS.kp iS.bi (ah (aZ (aT g8.ok (hr.mono (by decide)) rfl g8.mg g8.kp g8.bi (ah (bG 1) aH))) aH))))))
theorem mF:cF ["sums","kept","power","number"] ["sums"] (bo (top 10)):=sN
theorem tF {f:Addr} {fd:aJ} (F:o3 K "without_noughts" "without_noughts" (top 10) f fd):gq P w K mg base gu 1 f fd ["sums"] (cS K dj) :=
 sT F mF tT fun _ _ _ _ _ _ hr=>have nd:=mF.nd; have hu:=hr.units; (aL (jK (i:=1) nd rfl pz)
 (aL (dE bw rfl (oJ (bG 0)) (ju rfl (cO (mi (i:=2) nd rfl) (cO (mi (i:=3) nd rfl) hX)) (cQ (cQ ib))) (aR (lB (iP (Oe hu) (bG 3) aM (ku _)) (aR (iQ (bG 3) (j3 hu (bG 1) (bG 2)))) jf)))
 (aR (cI (aZ (bG 1))))))
theorem D0:cF ["one","other","sums","power","number","other_power","other_number","both"] ["one","other"] (bo (top 12)):=sN
theorem Pt {f:Addr} {fd:aJ} (F:o3 K "times" "times" (top 12) f fd) {gj:Addr} {gk:aJ} (cg:nB P w K mg base gu 1 gj gk "without_noughts" ["sums"] (cS K dj)):gq P w K mg base gu 2 f fd ["one","other"] (cS K jd) :=
 sT F D0 Qj fun _ _ _ _ _ _ hr=>have nd:=D0.nd; have hu:=hr.units; (aL (jK (i:=2) nd rfl pz)
 (aL (dE bw rfl (oJ (bG 0)) (ju rfl (cO (mi (i:=3) nd rfl) (cO (mi (i:=4) nd rfl) hX)) (cQ (cQ ib))) (aR (dE bw rfl (oJ (bG 1)) (ju rfl (cO (mi (i:=5) nd rfl) (cO (mi (i:=6) nd rfl) hX)) (cQ (cQ ib))) (aL (jK (i:=7) nd rfl (bY dW (bG 3) (bG 5)))
 (aR (iQ (bY dW (kr dc gz lJ oz JO (bG 2) (ah (bG 7) (ah aM aH))) (bY Ew (bG 4) (bG 6))) (j3 hu (bG 2) (bG 7))))))))
 (aR (cI (aZ (aT cg.ok (hr.mono (by decide)) rfl cg.mg cg.kp cg.bi (ah (aZ (bG 2)) aH)))))))
theorem AY:cF ["one","count","product","step"] ["one","count"] (bo (top 14)):=sN
theorem LU {f:Addr} {fd:aJ} (F:o3 K "raised" "raised" (top 14) f fd) (gI:mg "range" = none) {CI:Addr} {CU:aJ} (lV:nB P w K mg base gu 2 CI CU "times" ["one","other"] (cS K jd)):gq P w K mg base gu 3 f fd ["one","count"] (cS K ic) :=
 sT F AY Mg fun _ _ _ _ _ _ hr=>have nd:=AY.nd; (aL (jK (i:=2) nd rfl (N8 aM aM))
 (aL (dE bw rfl (mL rfl gI (bG 1)) (mi (i:=3) nd rfl) (aR (jK (i:=2) nd rfl (aT lV.ok (hr.mono (by decide)) rfl lV.mg lV.kp lV.bi (ah (aZ (bG 2)) (ah (aZ (bG 0)) aH))))))
 (aR (cI (aZ (bG 2))))))
theorem qI:cF ["plan","pairs","far","closed","one","other","before","after"] ["plan","pairs"] (bo (top 23)):=sN
theorem zo {f:Addr} {fd:aJ} (F:o3 K "joined_plan" "joined_plan" (top 23) f fd) {tK:Addr} {tP:aJ} (g8:nB P w K mg base gu 1 tK tP "far_ends" ["threads"] (cS K jC)) {v5:Addr} {wd:aJ} (iS:nB P w K mg base gu 1 v5 wd "plan_of" ["far"] (cS K kn)):gq P w K mg base gu 2 f fd ["plan","pairs"] (cS K jW) :=
 sT F qI zP fun _ _ _ _ _ _ hr=>have nd:=qI.nd; have hu:=hr.units; (aL (jK (i:=2) nd rfl (aT g8.ok (hr.mono (by decide)) rfl g8.mg g8.kp g8.bi (ah (bG 0) aH)))
 (aL (jK (i:=3) nd rfl aM)
 (aL (dE bw rfl (fH (bG 1)) (ju rfl (cO (mi (i:=4) nd rfl) (cO (mi (i:=5) nd rfl) hX)) (cQ (cQ ib))) (aL (jK (i:=6) nd rfl (kr dc sV KC oz (EG hu) (bG 2) (ah (bG 4) aH)))
 (aL (jK (i:=7) nd rfl (kr dc sV KC oz (EG hu) (bG 2) (ah (bG 5) aH)))
 (aR (lB (iP (pA hu) (bG 6) (bG 5) (ku _)) (aR (jK (i:=3) nd rfl (bY dW (bG 3) aM))) (aL (iQ (bG 7) (j3 hu (bG 2) (bG 6)))
 (aR (iQ (bG 6) (j3 hu (bG 2) (bG 7))))))))))
 (aR (cI (aZ (dI (ah (aT iS.ok (hr.mono (by decide)) rfl iS.mg iS.kp iS.bi (ah (aZ (bG 2)) aH)) (ah (bG 3) aH)))))))))
theorem K1:cF ["name","split"] ["name","split"] (bo (top 18)):=sN
theorem LW {f:Addr} {fd:aJ} (F:o3 K "joints" "joints" (top 18) f fd) {ph:Tok} (rh:mg "ALONG" = some (.int 0 ph)):gq P w K mg base gu 1 f fd ["name","split"] (cS K rH) :=
 sT F K1 Mi fun _ _ _ _ _ _ hr=>have hu:=hr.units; (aL (lB (iP (pA hu) (bG 1) (xJ rfl rh) (ku _)) (aR (cI (aZ (fi (ah (dI (ah (dI (ah (bG 0) (ah aM (ah aM aH)))) (ah (dI (ah (bG 0) (ah aM (ah aM aH)))) aH))) (ah (dI (ah (dI (ah (bG 0) (ah aM (ah aM aH)))) (ah (dI (ah (bG 0) (ah aM (ah aM aH)))) aH))) aH)))))) jf)
 (aR (cI (aZ (fi (ah (dI (ah (dI (ah (bG 0) (ah aM (ah aM aH)))) (ah (dI (ah (bG 0) (ah aM (ah aM aH)))) aH))) (ah (dI (ah (dI (ah (bG 0) (ah aM (ah aM aH)))) (ah (dI (ah (bG 0) (ah aM (ah aM aH)))) aH))) aH)))))))
theorem yi:cF ["one","by","factor","sums","power","number"] ["one","by","factor"] (bo (top 13)):=sN
theorem HW {f:Addr} {fd:aJ} (F:o3 K "shifted" "shifted" (top 13) f fd) {gj:Addr} {gk:aJ} (cg:nB P w K mg base gu 1 gj gk "without_noughts" ["sums"] (cS K dj)):gq P w K mg base gu 2 f fd ["one","by","factor"] (cS K gY) :=
 sT F yi IK fun _ _ _ _ _ _ hr=>have nd:=yi.nd; have hu:=hr.units; (aL (jK (i:=3) nd rfl pz)
 (aL (dE bw rfl (oJ (bG 0)) (ju rfl (cO (mi (i:=4) nd rfl) (cO (mi (i:=5) nd rfl) hX)) (cQ (cQ ib))) (aR (iQ (bY Ew (bG 5) (bG 2)) (j3 hu (bG 3) (bY dW (bG 4) (bG 1))))))
 (aR (cI (aZ (aT cg.ok (hr.mono (by decide)) rfl cg.mg cg.kp cg.bi (ah (aZ (bG 3)) aH)))))))
theorem D1:cF ["hand","split"] ["hand","split"] (bo (top 19)):=sN
theorem Fb {f:Addr} {fd:aJ} (F:o3 K "power_at" "power_at" (top 19) f fd) {ph:Tok} (rh:mg "ALONG" = some (.int 0 ph)):gq P w K mg base gu 1 f fd ["hand","split"] (cS K nF) :=
 sT F D1 FO fun _ _ _ _ _ _ hr=>have hu:=hr.units; (aR (cI (aZ (UL (iP (pA hu) (bG 1) (xJ rfl rh) (ku _)) (bG 0) (N6 Jf (bG 0))))))
theorem D6:cF ["one","other","sums","power","number"] ["one","other"] (bo (top 11)):=sN
theorem Pu {f:Addr} {fd:aJ} (F:o3 K "added" "added" (top 11) f fd) (no_dict:mg "dict" = none) {gj:Addr} {gk:aJ} (cg:nB P w K mg base gu 1 gj gk "without_noughts" ["sums"] (cS K dj)):gq P w K mg base gu 2 f fd ["one","other"] (cS K kR) :=
 sT F D6 Qk fun _ _ _ _ _ _ hr=>have nd:=D6.nd; have hu:=hr.units; (aL (jK (i:=2) nd rfl (tj IE rfl no_dict C4 (ah (bG 0) aH)))
 (aL (dE bw rfl (oJ (bG 1)) (ju rfl (cO (mi (i:=3) nd rfl) (cO (mi (i:=4) nd rfl) hX)) (cQ (cQ ib))) (aR (iQ (bY dW (kr dc gz lJ oz JO (bG 2) (ah (bG 3) (ah aM aH))) (bG 4)) (j3 hu (bG 2) (bG 3)))))
 (aR (cI (aZ (aT cg.ok (hr.mono (by decide)) rfl cg.mg cg.kp cg.bi (ah (aZ (bG 2)) aH)))))))
theorem uk:cF ["sums","name","hand","after","plan","poly","split","made","part","kept"] ["sums","name","hand"] (bo (top 24)):=sN
theorem CC {f:Addr} {fd:aJ} (F:o3 K "opened_at" "opened_at" (top 24) f fd) (no_dict:mg "dict" = none) {vH:Tok} (IB:mg "AGAINST" = some (.int 1 vH)) {ph:Tok} (rh:mg "ALONG" = some (.int 0 ph)) {mS:Addr} (Cz:mg "LOOP" = some (.ref mS)) (rP:(mS == da)=false) (rQ:BB K mS [(2,-1),(-2,-1)]=true) {AD:Addr} {AH:aJ} (kO:nB P w K mg base gu 2 AD AH "joined_plan" ["plan","pairs"] (cS K jW)) {PD:Addr} {PS:aJ} (vh:nB P w K mg base gu 1 PD PS "joints" ["name","split"] (cS K rH)) {LX:Addr} {L1:aJ} (rZ:nB P w K mg base gu 2 LX L1 "shifted" ["one","by","factor"] (cS K gY)) {Ig:Addr} {Iq:aJ} (pJ:nB P w K mg base gu 1 Ig Iq "power_at" ["hand","split"] (cS K nF)) {CI:Addr} {CU:aJ} (lV:nB P w K mg base gu 2 CI CU "times" ["one","other"] (cS K jd)) {zr:Addr} {zx:aJ} (j8:nB P w K mg base gu 3 zr zx "raised" ["one","count"] (cS K ic)) {R3:Addr} {Sa:aJ} (xW:nB P w K mg base gu 2 R3 Sa "added" ["one","other"] (cS K kR)):gq P w K mg base gu 4 f fd ["sums","name","hand"] (cS K lO) :=
 sT F uk Dg fun _ _ _ _ _ _ hr=>have nd:=uk.nd; have hu:=hr.units; (aL (jK (i:=3) nd rfl JH)
 (aL (B9 (dE bw rfl (yG (bG 0)) (ju rfl (cO (mi (i:=4) nd rfl) (cO (mi (i:=5) nd rfl) hX)) (cQ (cQ ib))) (aR (dE bw rfl (fH (dI (ah (xJ rfl rh) (ah (xJ rfl IB) aH)))) (mi (i:=6) nd rfl) (aL (jK (i:=7) nd rfl (aT kO.ok (hr.mono (by decide)) rfl kO.mg kO.kp kO.bi (ah (bG 4) (ah (aT vh.ok (hr.mono (by decide)) rfl vh.mg vh.kp vh.bi (ah (bG 1) (ah (bG 6) aH))) aH))))
 (aL (jK (i:=8) nd rfl (aT rZ.ok (hr.mono (by decide)) rfl rZ.mg rZ.kp rZ.bi (ah (aZ (aT lV.ok (hr.mono (by decide)) rfl lV.mg lV.kp lV.bi (ah (aZ (bG 5)) (ah (aZ (aT j8.ok (hr.mono (by decide)) rfl j8.mg j8.kp j8.bi (ah (aZ (A5 rfl no_dict rfl Cz rP rQ (by decide) (by decide))) (ah (aZ (ez hu (bG 7) aM (fun _ _=>rfl))) aH)))) aH)))) (ah (aZ (aT pJ.ok (hr.mono (by decide)) rfl pJ.mg pJ.kp pJ.bi (ah (bG 2) (ah (bG 6) aH)))) (ah (aZ aM) aH)))))
 (aR (iQ (aZ (aT xW.ok (hr.mono (by decide)) rfl xW.mg xW.kp xW.bi (ah (aZ (kr dc gz lJ Jg (EH hu) (bG 3) (ah (aZ (ez hu (bG 7) aM (fun _ _=>rfl))) (ah (aZ pz) aH)))) (ah (aZ (bG 8)) aH)))) (Er hu (bG 3) (ez hu (bG 7) aM (fun _ _=>rfl)))))))))))
 (aL (jK (i:=9) nd rfl JH)
 (aL (B9 (dE bw rfl (yG (bG 3)) (ju rfl (cO (mi (i:=4) nd rfl) (cO (mi (i:=5) nd rfl) hX)) (cQ (cQ ib))) (aR (lB (jD (bG 5)) (aR (iQ (aZ (bG 5)) (Er hu (bG 9) (bG 4)))) jf))))
 (aR (cI (aZ (bG 9))))))))
theorem AZ:cF ["drawing","names","hands","loose","sums","name","hand"] ["drawing","names"] (bo (top 25)):=sN
theorem LV {f:Addr} {fd:aJ} (F:o3 K "opened" "opened" (top 25) f fd) (no_dict:mg "dict" = none) (ky:mg "len" = none) (vT:mg "zip" = none) {mS:Addr} (Cz:mg "LOOP" = some (.ref mS)) (rP:(mS == da)=false) (rQ:BB K mS [(2,-1),(-2,-1)]=true) {v8:Addr} {wg:aJ} (iU:nB P w K mg base gu 2 v8 wg "hand_of" ["drawing","name"] (cS K gv)) {CH:Addr} {CT:aJ} (lU:nB P w K mg base gu 2 CH CT "whole_plan" ["drawing"] (cS K kH)) {zr:Addr} {zx:aJ} (j8:nB P w K mg base gu 3 zr zx "raised" ["one","count"] (cS K ic)) {Fi:Addr} {Fv:aJ} (nN:nB P w K mg base gu 4 Fi Fv "opened_at" ["sums","name","hand"] (cS K lO)):gq P w K mg base gu 5 f fd ["drawing","names"] (cS K rG) :=
 sT F AZ Mh fun _ _ _ _ _ _ hr=>have nd:=AZ.nd; have hu:=hr.units; (aL (yF ["name","drawing"] (sc:=bo (top 25)) (XN:=["drawing","names","hands","loose","sums","name","hand"]) (i:=2) nd rfl rfl (fH (bG 1)) (fun _ _ _ _=>(mi (i:=0) (show (["name","drawing"]:List Str).Nodup by decide +kernel) rfl)) (fun _ _ _ _=>.none) (fun _ _ _ _=>(aT iU.ok (hr.mono (by decide)) rfl iU.mg iU.kp iU.bi (ah (bG 1) (ah (bG 0) aH)))))
 (aL (jK (i:=3) nd rfl (jE oT rfl ky zG (ah (oK ["row"] (sc:=bo (top 25)) (XN:=["drawing","names","hands","loose","sums","name","hand"]) (fH (bG 0)) (fun _ _ _ _=>(mi (i:=0) (show (["row"]:List Str).Nodup by decide +kernel) rfl)) (fun _ _ _ _=>(.some (rK (jD (bG 0))))) (fun _ _ _ _=>(bG 0))) aH)))
 (aL (jK (i:=4) nd rfl (aZ (N7 hu (aT lU.ok (hr.mono (by decide)) rfl lU.mg lU.kp lU.bi (ah (bG 0) aH)) (aZ (aT j8.ok (hr.mono (by decide)) rfl j8.mg j8.kp j8.bi (ah (aZ (A5 rfl no_dict rfl Cz rP rQ (by decide) (by decide))) (ah (aZ (bG 3)) aH)))))))
 (aL (dE bw rfl (JG rfl vT (bG 1) (bG 2)) (ju rfl (cO (mi (i:=5) nd rfl) (cO (mi (i:=6) nd rfl) hX)) (cQ (cQ ib))) (aR (jK (i:=4) nd rfl (aZ (aT nN.ok (hr.mono (by decide)) rfl nN.mg nN.kp nN.bi (ah (bG 4) (ah (bG 5) (ah (bG 6) aH))))))))
 (aR (cI (aZ (bG 4))))))))
theorem D3:cF ["drawing"] ["drawing"] (bo (top 5)):=sN
theorem Fc {f:Addr} {fd:aJ} (F:o3 K "names_of" "names_of" (top 5) f fd) (ml:mg "sorted" = none) {oh:Addr} {oo:aJ} (ff:nB P w K mg base gu 1 oh oo "passings_of" ["rows"] (cS K fT)):gq P w K mg base gu 2 f fd ["drawing"] (cS K fI) :=
 sT F D3 xa fun _ _ _ _ _ _ hr=>have hu:=hr.units; (aR (cI (aZ (jE (ve rfl hu) rfl ml BG (ah (oK ["passing"] (sc:=bo (top 5)) (XN:=["drawing"]) (fH (aT ff.ok (hr.mono (by decide)) rfl ff.mg ff.kp ff.bi (ah (bG 0) aH))) (fun _ _ _ _=>(mi (i:=0) (show (["passing"]:List Str).Nodup by decide +kernel) rfl)) (fun _ _ _ _=>(.some (iP (pA hu) (ez hu (bG 0) aM (fun _ _=>rfl)) aM (ku _)))) (fun _ _ _ _=>(ez hu (bG 0) aM (fun _ _=>rfl)))) aH)))))
theorem Ha:cF ["drawing"] ["drawing"] (bo (top 26)):=sN
theorem Ia {f:Addr} {fd:aJ} (F:o3 K "bracket" "bracket" (top 26) f fd) {PC:Addr} {PR:aJ} (vg:nB P w K mg base gu 5 PC PR "opened" ["drawing","names"] (cS K rG)) {tG:Addr} {tL:aJ} (g6:nB P w K mg base gu 2 tG tL "names_of" ["drawing"] (cS K fI)):gq P w K mg base gu 6 f fd ["drawing"] (cS K mE) :=
 sT F Ha IP fun _ _ _ _ _ _ hr=>have hu:=hr.units; (aR (cI (aZ (kr dc gz lJ Jg (EH hu) (aT vg.ok (hr.mono (by decide)) rfl vg.mg vg.kp vg.bi (ah (bG 0) (ah (aT g6.ok (hr.mono (by decide)) rfl g6.mg g6.kp g6.bi (ah (bG 0) aH)) aH))) (ah (aZ (dI aH)) (ah (aZ pz) aH))))))
theorem B4:cF ["_law_found"] ["_law_found"] (bo (top 31)):=sN
theorem CD {f:Addr} {fd:aJ} (F:o3 K "_law_whole" "_law_whole" (top 31) f fd) (Cg:mg "bool" = none) (Hq:mg "int" = none) (gx:mg "isinstance" = none):gq P w K mg base gu 1 f fd ["_law_found"] (cS K fG) :=
 sT F B4 Dh fun _ _ _ _ _ _ hr=>(aR (cI (aZ (Rw (Cc "int" (by decide) rfl gx rfl Hq VF (bG 0)) (Rt (Ru (Cc "bool" (by decide) rfl gx rfl Cg Ss (bG 0))))))))
theorem wF:cF ["_law_found","_law_at"] ["_law_found"] (bo (top 33)):=sN
theorem Fd {f:Addr} {fd:aJ} (F:o3 K "_law_poly" "_law_poly" (top 33) f fd) (no_dict:mg "dict" = none) (gx:mg "isinstance" = none) {Fj:Addr} {Fw:aJ} (gX:nB P w K mg base gu 1 Fj Fw "_law_whole" ["_law_found"] (cS K fG)):gq P w K mg base gu 2 f fd ["_law_found"] (cS K gU) :=
 sT F wF FP fun _ _ _ _ _ _ hr=>have nd:=wF.nd; have hu:=hr.units; (aL (lB (rK (jD (Cc "dict" (by decide) rfl gx rfl no_dict C4 (bG 0)))) (aR (cI (aZ vO))) jf)
 (aL (dE bw rfl (Ep (bG 0)) (mi (i:=1) nd rfl) (aR (lB (VL.pt (B8 (rK (jD (aT gX.ok (hr.mono (by decide)) rfl gX.mg gX.kp gX.bi (ah (bG 1) aH)))) (B8 (rK (jD (aT gX.ok (hr.mono (by decide)) rfl gX.mg gX.kp gX.bi (ah (ez hu (bG 0) (bG 1) (fun _ _=>rfl)) aH)))) (Jx (iP (pA hu) (ez hu (bG 0) (bG 1) (fun _ _=>rfl)) aM (ku _)))))) (aR (cI (aZ vO))) jf)))
 (aR (cI (aZ vO)))))
theorem K0:cF ["drawing"] ["drawing"] (bo (top 28)):=sN
theorem LS {f:Addr} {fd:aJ} (F:o3 K "writhe" "writhe" (top 28) f fd) (Ho:mg "sum" = none) {tG:Addr} {tL:aJ} (g6:nB P w K mg base gu 2 tG tL "names_of" ["drawing"] (cS K fI)) {v8:Addr} {wg:aJ} (iU:nB P w K mg base gu 2 v8 wg "hand_of" ["drawing","name"] (cS K gv)):gq P w K mg base gu 3 f fd ["drawing"] (cS K oA) :=
 sT F K0 Mf fun _ _ _ _ _ _ hr=>(aR (cI (aZ (jE (L6 rfl) rfl Ho VE (ah (oK ["name","drawing"] (sc:=bo (top 28)) (XN:=["drawing"]) (fH (aT g6.ok (hr.mono (by decide)) rfl g6.mg g6.kp g6.bi (ah (bG 0) aH))) (fun _ _ _ _=>(mi (i:=0) (show (["name","drawing"]:List Str).Nodup by decide +kernel) rfl)) (fun _ _ _ _=>.none) (fun _ _ _ _=>(aT iU.ok (hr.mono (by decide)) rfl iU.mg iU.kp iU.bi (ah (bG 1) (ah (bG 0) aH))))) aH)))))
theorem Nz:cF ["_law_script","_law_strings","_law_rows","_law_names_here","_law_fresh","_law_primes","_law_prime","_law_pairs_here","_law_blocks_here","_law_k","_law_cell","_law_place","_law_one","_law_other","_law_told"] ["_law_script"] (bo (top 42)):=sN
theorem Vr {f:Addr} {fd:aJ} (F:o3 K "law" "law" (top 42) f fd) (gI:mg "range" = none) {AB:Addr} {AG:aJ} (bx:nB P w K mg base gu 1 AB AG "_law_cell_at" ["_law_script","_law_k"] (cS K cu)) {AA:Addr} {AF:aJ} (kN:nB P w K mg base gu 3 AA AF "_law_drawing" ["_law_cells","_law_strings","_law_spread"] (cS K jV)) {Fo:Addr} {Fy:aJ} (nP:nB P w K mg base gu 1 Fo Fy "_law_names" ["_law_rows"] (cS K gc)) {tH:Addr} {tM:aJ} (g7:nB P w K mg base gu 1 tH tM "_law_free" ["_law_names_here","_law_name"] (cS K gf)) {mU:Addr} {mW:aJ} (bI:nB P w K mg base gu 1 mU mW "_law_pick" ["_law_cell","_law_prime","_law_many"] (cS K cJ)) {Fm:Addr} {Fx:aJ} (nO:nB P w K mg base gu 1 Fm Fx "_law_pairs" ["_law_names_here","_law_cell"] (cS K lP)) {CJ:Addr} {CV:aJ} (lW:nB P w K mg base gu 1 CJ CV "_law_blocks" ["_law_rows"] (cS K kI)) {v7:Addr} {we:aJ} (iT:nB P w K mg base gu 2 v7 we "_law_put" ["_law_rows","_law_at","_law_place","_law_more"] (cS K jy)) {xk:Addr} {xl:aJ} (eS:nB P w K mg base gu 2 xk xl "_law_flattened" ["_law_rows","_law_back","_law_cell"] (cS K gG)) {LZ:Addr} {L5:aJ} (jG:nB P w K mg base gu 6 LZ L5 "bracket" ["drawing"] (cS K mE)) {tJ:Addr} {tN:aJ} (fc:nB P w K mg base gu 1 tJ tN "_law_copy" ["_law_rows"] (cS K eP)) {Ih:Addr} {Ir:aJ} (iJ:nB P w K mg base gu 2 Ih Ir "_law_poly" ["_law_found"] (cS K gU)) {PB:Addr} {PQ:aJ} (k7:nB P w K mg base gu 3 PB PQ "writhe" ["drawing"] (cS K oA)):gq P w K mg base gu 7 f fd ["_law_script"] (cS K K2.AV) :=
 sT F Nz VN fun _ _ _ _ _ _ hr=>have nd:=Nz.nd; have hu:=hr.units; (aL (jK (i:=1) nd rfl (bY dW aM (bY kK (aT bx.ok (hr.mono (by decide)) rfl bx.mg bx.kp bx.bi (ah (bG 0) (ah aM aH))) aM)))
 (aL (jK (i:=2) nd rfl (aZ (aT kN.ok (hr.mono (by decide)) rfl kN.mg kN.kp kN.bi (ah (iR (bG 0) (jg aM) (jg (bY dW aM (bY kK (aT bx.ok (hr.mono (by decide)) rfl bx.mg bx.kp bx.bi (ah (bG 0) (ah aM aH))) aM)))) (ah (bG 1) (ah aM aH))))))
 (aL (jK (i:=3) nd rfl (aT nP.ok (hr.mono (by decide)) rfl nP.mg nP.kp nP.bi (ah (bG 2) aH)))
 (aL (jK (i:=4) nd rfl (fi aH))
 (aL (jK (i:=5) nd rfl (fi (ah aM (ah aM (ah aM aH)))))
 (aL (dE bw rfl (fH (bG 5)) (mi (i:=6) nd rfl) (aR (mK (kr eT fD fC mC kz (bG 4) (ah (aT g7.ok (hr.mono (by decide)) rfl g7.mg g7.kp g7.bi (ah (bY dW (bG 3) (bG 4)) (ah (bY dW aM (aT bI.ok (hr.mono (by decide)) rfl bI.mg bI.kp bI.bi (ah (aT bx.ok (hr.mono (by decide)) rfl bx.mg bx.kp bx.bi (ah (bG 0) (ah aM aH))) (ah (bG 6) (ah aM aH))))) aH))) aH)))))
 (aL (jK (i:=7) nd rfl (aZ (aT nO.ok (hr.mono (by decide)) rfl nO.mg nO.kp nO.bi (ah (aZ (bG 4)) (ah (aZ (aT bx.ok (hr.mono (by decide)) rfl bx.mg bx.kp bx.bi (ah (bG 0) (ah aM aH)))) aH)))))
 (aL (jK (i:=8) nd rfl (aZ (aT lW.ok (hr.mono (by decide)) rfl lW.mg lW.kp lW.bi (ah (aZ (bG 2)) aH))))
 (aL (dE bw rfl (mL rfl gI aM) (mi (i:=9) nd rfl) (aL (jK (i:=10) nd rfl (aT bx.ok (hr.mono (by decide)) rfl bx.mg bx.kp bx.bi (ah (bG 0) (ah (bY dW aM (bG 9)) aH))))
 (aL (jK (i:=11) nd rfl (aT bI.ok (hr.mono (by decide)) rfl bI.mg bI.kp bI.bi (ah (bG 10) (ah aM (ah aM aH)))))
 (aR (jK (i:=8) nd rfl (aZ (aT iT.ok (hr.mono (by decide)) rfl iT.mg iT.kp iT.bi (ah (aZ (bG 8)) (ah (aZ (aT bI.ok (hr.mono (by decide)) rfl bI.mg bI.kp bI.bi (ah (bG 10) (ah aM (ah (bG 1) aH))))) (ah (aZ (bG 11)) (ah (aZ (fi (ah (ez hu (bG 7) (bG 9) (fun _ _=>rfl)) aH))) aH)))))))))))
 (aL (jK (i:=12) nd rfl (aZ (aT eS.ok (hr.mono (by decide)) rfl eS.mg eS.kp eS.bi (ah (aZ (bG 8)) (ah (aZ vO) (ah (aZ (aT bx.ok (hr.mono (by decide)) rfl bx.mg bx.kp bx.bi (ah (bG 0) (ah aM aH)))) aH))))))
 (aL (jK (i:=13) nd rfl (aZ (aT eS.ok (hr.mono (by decide)) rfl eS.mg eS.kp eS.bi (ah (aZ (bG 8)) (ah (aZ vO) (ah (aZ (aT bx.ok (hr.mono (by decide)) rfl bx.mg bx.kp bx.bi (ah (bG 0) (ah aM aH)))) aH))))))
 (aL (jK (i:=14) nd rfl (aZ (fi (ah (aT jG.ok (hr.mono (by decide)) rfl jG.mg jG.kp jG.bi (ah (aZ (aT fc.ok (hr.mono (by decide)) rfl fc.mg fc.kp fc.bi (ah (bG 12) aH))) aH)) (ah (aT jG.ok (hr.mono (by decide)) rfl jG.mg jG.kp jG.bi (ah (aZ (aT fc.ok (hr.mono (by decide)) rfl fc.mg fc.kp fc.bi (ah (bG 13) aH))) aH)) aH)))))
 (aL (lB (VL.pt (B8 (rK (jD (aT iJ.ok (hr.mono (by decide)) rfl iJ.mg iJ.kp iJ.bi (ah (ez hu (bG 14) aM (fun _ _=>rfl)) aH)))) (B8 (rK (jD (aT iJ.ok (hr.mono (by decide)) rfl iJ.mg iJ.kp iJ.bi (ah (ez hu (bG 14) aM (fun _ _=>rfl)) aH)))) (Jx (iP (RC hu) (ez hu (bG 14) aM (fun _ _=>rfl)) (ez hu (bG 14) aM (fun _ _=>rfl)) (ku _)))))) (aR (cI (aZ vO))) jf)
 (aR (cI (aZ (Rv (RF hu) (aT k7.ok (hr.mono (by decide)) rfl k7.mg k7.kp k7.bi (ah (bG 12) aH)) (aT k7.ok (hr.mono (by decide)) rfl k7.mg k7.kp k7.bi (ah (bG 13) aH)) (ku _))))))))))))))))))
end
theorem all_mk {l:BQ} {w:World} {K:ai} {h:Heap} {mg:Str->Option Value} {fa:Addr} (X:K.In h) (G:h.Ns bP mg) (hfa:mg "law" = some (.ref fa))
  {f0:Addr} {d0:aJ} (F0:At K "_law_cell_at" (top 30) f0 d0)
  {f1:Addr} {d1:aJ} (F1:At K "_law_free" (top 35) f1 d1)
  {f2:Addr} {d2:aJ} (F2:At K "_law_pick" (top 32) f2 d2)
  {f3:Addr} {d3:aJ} (F3:At K "_law_copy" (top 34) f3 d3)
  {f4:Addr} {d4:aJ} (F4:At K "_law_put" (top 36) f4 d4)
  {f5:Addr} {d5:aJ} (F5:At K "_law_drawing" (top 37) f5 d5)
  {f6:Addr} {d6:aJ} (F6:At K "_law_names" (top 38) f6 d6)
  {f7:Addr} {d7:aJ} (F7:At K "_law_pairs" (top 41) f7 d7)
  {f8:Addr} {d8:aJ} (F8:At K "_law_blocks" (top 39) f8 d8)
  {f9:Addr} {d9:aJ} (F9:At K "_law_flattened" (top 40) f9 d9)
  {YG:Addr} {d10:aJ} (Wi:At K "passings_of" (top 4) YG d10)
  {f11:Addr} {d11:aJ} (Wh:At K "hand_of" (top 6) f11 d11)
  {f12:Addr} {d12:aJ} (Y0:At K "next_of" (top 7) f12 d12)
  {f13:Addr} {d13:aJ} (Wg:At K "plan_of" (top 20) f13 d13)
  {f14:Addr} {d14:aJ} (Wf:At K "far_ends" (top 22) f14 d14)
  {f15:Addr} {d15:aJ} (YZ:At K "whole_plan" (top 21) f15 d15)
  {f16:Addr} {d16:aJ} (T1:At K "without_noughts" (top 10) f16 d16)
  {f17:Addr} {d17:aJ} (We:At K "times" (top 12) f17 d17)
  {f18:Addr} {d18:aJ} (Wd:At K "raised" (top 14) f18 d18)
  {f19:Addr} {d19:aJ} (YY:At K "joined_plan" (top 23) f19 d19)
  {f20:Addr} {d20:aJ} (YX:At K "joints" (top 18) f20 d20)
  {f21:Addr} {d21:aJ} (YW:At K "shifted" (top 13) f21 d21)
  {f22:Addr} {d22:aJ} (YV:At K "power_at" (top 19) f22 d22)
  {f23:Addr} {d23:aJ} (YU:At K "added" (top 11) f23 d23)
  {f24:Addr} {d24:aJ} (YT:At K "opened_at" (top 24) f24 d24)
  {f25:Addr} {d25:aJ} (YS:At K "opened" (top 25) f25 d25)
  {f26:Addr} {d26:aJ} (Wc:At K "names_of" (top 5) f26 d26)
  {f27:Addr} {d27:aJ} (YR:At K "bracket" (top 26) f27 d27)
  {f28:Addr} {d28:aJ} (YQ:At K "_law_whole" (top 31) f28 d28)
  {f29:Addr} {d29:aJ} (YO:At K "_law_poly" (top 33) f29 d29)
  {f30:Addr} {d30:aJ} (YN:At K "writhe" (top 28) f30 d30)
  {f31:Addr} {d31:aJ} (F31:At K "law" (top 42) f31 d31)
  (Wn:autoParam (c6 K bP "len" = some none) Aq._auto_1) (T5:autoParam (c6 K bP "list" = some none) Aq._auto_1) (QW:autoParam (c6 K bP "range" = some none) Aq._auto_1) (GH:autoParam (c6 K bP "reversed" = some none) Aq._auto_1) (Wl:autoParam (c6 K bP "zip" = some none) Aq._auto_1) (M3:autoParam (c6 K bP "sorted" = some none) Aq._auto_1) (QV:autoParam (c6 K bP "tuple" = some none) Aq._auto_1) (T6:autoParam (c6 K bP "dict" = some none) Aq._auto_1) (T7:autoParam (c6 K bP "bool" = some none) Aq._auto_1) (Wo:autoParam (c6 K bP "int" = some none) Aq._auto_1) (BV:autoParam (c6 K bP "isinstance" = some none) Aq._auto_1) (Wm:autoParam (c6 K bP "sum" = some none) Aq._auto_1) {ph:Tok} (zB:autoParam (c6 K bP "ALONG" = some (some (.int 0 ph))) Aq._auto_1) {vH:Tok} (IA:autoParam (c6 K bP "AGAINST" = some (some (.int 1 vH))) Aq._auto_1) {mS:Addr} (J7:autoParam (c6 K bP "LOOP" = some (some (.ref mS))) Aq._auto_1) (rP:autoParam ((mS == da)=false) Ae._auto_1) (rQ:autoParam (BB K mS [(2,-1),(-2,-1)]=true) Af._auto_1) :
  ∃ fd:aJ,(∀ (s:az) (v:Value),MY s fd ⟨[v],[]⟩ [("_law_script",v)])/\∀ base:Heap,K.In base->base.Ns bP mg->gq l.prog w K mg base gu 7 fa fd ["_law_script"] (cS K K2.AV):=by
 have e:=hfa.symm.trans (km X G F31.a);cases e;have b0:=F0.F.binds (ps:=["_law_script","_law_k"]) fun _ _ _ _ _ _ us hl=>by obtain⟨_,_,rfl⟩:=xi hl; rfl
 have b1:=F1.F.binds (ps:=["_law_names_here","_law_name"]) fun _ _ _ _ _ _ us hl=>by obtain⟨_,_,rfl⟩:=xi hl; rfl
 have b2:=F2.F.binds (ps:=["_law_cell","_law_prime","_law_many"]) fun _ _ _ _ _ _ us hl=>by obtain⟨_,_,_,rfl⟩:=Lr hl; rfl
 have b3:=F3.F.binds (ps:=["_law_rows"]) fun _ _ _ _ _ _ us hl=>by obtain⟨_,rfl⟩:=tD hl; rfl
 have b4:=F4.F.binds (ps:=["_law_rows","_law_at","_law_place","_law_more"]) fun _ _ _ _ _ _ us hl=>by obtain⟨_,_,_,_,rfl⟩:=ZX hl; rfl
 have b5:=F5.F.binds (ps:=["_law_cells","_law_strings","_law_spread"]) fun _ _ _ _ _ _ us hl=>by obtain⟨_,_,_,rfl⟩:=Lr hl; rfl
 have b6:=F6.F.binds (ps:=["_law_rows"]) fun _ _ _ _ _ _ us hl=>by obtain⟨_,rfl⟩:=tD hl; rfl
 have b7:=F7.F.binds (ps:=["_law_names_here","_law_cell"]) fun _ _ _ _ _ _ us hl=>by obtain⟨_,_,rfl⟩:=xi hl; rfl
 have b8:=F8.F.binds (ps:=["_law_rows"]) fun _ _ _ _ _ _ us hl=>by obtain⟨_,rfl⟩:=tD hl; rfl
 have b9:=F9.F.binds (ps:=["_law_rows","_law_back","_law_cell"]) fun _ _ _ _ _ _ us hl=>by obtain⟨_,_,_,rfl⟩:=Lr hl; rfl
 have b10:=Wi.F.binds (ps:=["rows"]) fun _ _ _ _ _ _ us hl=>by obtain⟨_,rfl⟩:=tD hl; rfl
 have b11:=Wh.F.binds (ps:=["drawing","name"]) fun _ _ _ _ _ _ us hl=>by obtain⟨_,_,rfl⟩:=xi hl; rfl
 have b12:=Y0.F.binds (ps:=["drawing"]) fun _ _ _ _ _ _ us hl=>by obtain⟨_,rfl⟩:=tD hl; rfl
 have b13:=Wg.F.binds (ps:=["far"]) fun _ _ _ _ _ _ us hl=>by obtain⟨_,rfl⟩:=tD hl; rfl
 have b14:=Wf.F.binds (ps:=["threads"]) fun _ _ _ _ _ _ us hl=>by obtain⟨_,rfl⟩:=tD hl; rfl
 have b15:=YZ.F.binds (ps:=["drawing"]) fun _ _ _ _ _ _ us hl=>by obtain⟨_,rfl⟩:=tD hl; rfl
 have b16:=T1.F.binds (ps:=["sums"]) fun _ _ _ _ _ _ us hl=>by obtain⟨_,rfl⟩:=tD hl; rfl
 have b17:=We.F.binds (ps:=["one","other"]) fun _ _ _ _ _ _ us hl=>by obtain⟨_,_,rfl⟩:=xi hl; rfl
 have b18:=Wd.F.binds (ps:=["one","count"]) fun _ _ _ _ _ _ us hl=>by obtain⟨_,_,rfl⟩:=xi hl; rfl
 have b19:=YY.F.binds (ps:=["plan","pairs"]) fun _ _ _ _ _ _ us hl=>by obtain⟨_,_,rfl⟩:=xi hl; rfl
 have b20:=YX.F.binds (ps:=["name","split"]) fun _ _ _ _ _ _ us hl=>by obtain⟨_,_,rfl⟩:=xi hl; rfl
 have b21:=YW.F.binds (ps:=["one","by","factor"]) fun _ _ _ _ _ _ us hl=>by obtain⟨_,_,_,rfl⟩:=Lr hl; rfl
 have b22:=YV.F.binds (ps:=["hand","split"]) fun _ _ _ _ _ _ us hl=>by obtain⟨_,_,rfl⟩:=xi hl; rfl
 have b23:=YU.F.binds (ps:=["one","other"]) fun _ _ _ _ _ _ us hl=>by obtain⟨_,_,rfl⟩:=xi hl; rfl
 have b24:=YT.F.binds (ps:=["sums","name","hand"]) fun _ _ _ _ _ _ us hl=>by obtain⟨_,_,_,rfl⟩:=Lr hl; rfl
 have b25:=YS.F.binds (ps:=["drawing","names"]) fun _ _ _ _ _ _ us hl=>by obtain⟨_,_,rfl⟩:=xi hl; rfl
 have b26:=Wc.F.binds (ps:=["drawing"]) fun _ _ _ _ _ _ us hl=>by obtain⟨_,rfl⟩:=tD hl; rfl
 have b27:=YR.F.binds (ps:=["drawing"]) fun _ _ _ _ _ _ us hl=>by obtain⟨_,rfl⟩:=tD hl; rfl
 have b28:=YQ.F.binds (ps:=["_law_found"]) fun _ _ _ _ _ _ us hl=>by obtain⟨_,rfl⟩:=tD hl; rfl
 have b29:=YO.F.binds (ps:=["_law_found"]) fun _ _ _ _ _ _ us hl=>by obtain⟨_,rfl⟩:=tD hl; rfl
 have b30:=YN.F.binds (ps:=["drawing"]) fun _ _ _ _ _ _ us hl=>by obtain⟨_,rfl⟩:=tD hl; rfl
 have ky:=c5 X G Wn;have lQ:=c5 X G T5;have gI:=c5 X G QW;have jF:=c5 X G GH;have vT:=c5 X G Wl;have ml:=c5 X G M3;have yN:=c5 X G QV;have no_dict:=c5 X G T6;have Cg:=c5 X G T7;have Hq:=c5 X G Wo;have gx:=c5 X G BV;have Ho:=c5 X G Wm;obtain⟨Fa,Fl⟩:=F31;obtain⟨oc,od,kV,doc,pm,an,oZ,ct,Od,rfl,lk,J2⟩:=Fl.ex;refine⟨j9 "law" "law" (nM (top 42)) (j6 (top 42)) (bo (top 42)) .none kV doc pm an oZ ct,fun s v=>.of_eq rfl,fun base _ _=>?_⟩;have ok0:=zk (P:=l.prog) (w:=w) (mg:=mg) (base:=base) F0.F ky;have WW:=Ff (P:=l.prog) (w:=w) (mg:=mg) (base:=base) F1.F;have RI:=Fe (P:=l.prog) (w:=w) (mg:=mg) (base:=base) F2.F;have VW:=Fg (P:=l.prog) (w:=w) (mg:=mg) (base:=base) F3.F lQ;have ok4:=HZ (P:=l.prog) (w:=w) (mg:=mg) (base:=base) F4.F ky ⟨VW,F3.mg X G,F3.F.kp,b3⟩;have ok5:=zj (P:=l.prog) (w:=w) (mg:=mg) (base:=base) F5.F gI ⟨WW,F1.mg X G,F1.F.kp,b1⟩ ⟨RI,F2.mg X G,F2.F.kp,b2⟩ ⟨ok4,F4.mg X G,F4.F.kp,b4⟩;have ok6:=CG (P:=l.prog) (w:=w) (mg:=mg) (base:=base) F6.F;have ok7:=CF (P:=l.prog) (w:=w) (mg:=mg) (base:=base) F7.F lQ gI jF;have ok8:=Ay (P:=l.prog) (w:=w) (mg:=mg) (base:=base) F8.F;have ok9:=v3 (P:=l.prog) (w:=w) (mg:=mg) (base:=base) F9.F ky lQ jF ⟨RI,F2.mg X G,F2.F.kp,b2⟩;have WV:=zi (P:=l.prog) (w:=w) (mg:=mg) (base:=base) Wi.F;have WU:=H0 (P:=l.prog) (w:=w) (mg:=mg) (base:=base) Wh.F ⟨WV,Wi.mg X G,Wi.F.kp,b10⟩;have ZI:=HY (P:=l.prog) (w:=w) (mg:=mg) (base:=base) Y0.F vT;have WT:=HX (P:=l.prog) (w:=w) (mg:=mg) (base:=base) Wg.F ml yN;have WS:=Fh (P:=l.prog) (w:=w) (mg:=mg) (base:=base) Wf.F;have ZH:=Ax (P:=l.prog) (w:=w) (mg:=mg) (base:=base) YZ.F ⟨ZI,Y0.mg X G,Y0.F.kp,b12⟩ ⟨WT,Wg.mg X G,Wg.F.kp,b13⟩ ⟨WS,Wf.mg X G,Wf.F.kp,b14⟩;have UU:=tF (P:=l.prog) (w:=w) (mg:=mg) (base:=base) T1.F;have WR:=Pt (P:=l.prog) (w:=w) (mg:=mg) (base:=base) We.F ⟨UU,T1.mg X G,T1.F.kp,b16⟩;have WQ:=LU (P:=l.prog) (w:=w) (mg:=mg) (base:=base) Wd.F gI ⟨WR,We.mg X G,We.F.kp,b17⟩;have ZG:=zo (P:=l.prog) (w:=w) (mg:=mg) (base:=base) YY.F ⟨WS,Wf.mg X G,Wf.F.kp,b14⟩ ⟨WT,Wg.mg X G,Wg.F.kp,b13⟩;have ZF:=LW (P:=l.prog) (w:=w) (mg:=mg) (base:=base) YX.F (km X G zB);have ZE:=HW (P:=l.prog) (w:=w) (mg:=mg) (base:=base) YW.F ⟨UU,T1.mg X G,T1.F.kp,b16⟩;have ZD:=Fb (P:=l.prog) (w:=w) (mg:=mg) (base:=base) YV.F (km X G zB);have ZC:=Pu (P:=l.prog) (w:=w) (mg:=mg) (base:=base) YU.F no_dict ⟨UU,T1.mg X G,T1.F.kp,b16⟩;have ZA:=CC (P:=l.prog) (w:=w) (mg:=mg) (base:=base) YT.F no_dict (km X G IA) (km X G zB) (km X G J7) rP rQ ⟨ZG,YY.mg X G,YY.F.kp,b19⟩ ⟨ZF,YX.mg X G,YX.F.kp,b20⟩ ⟨ZE,YW.mg X G,YW.F.kp,b21⟩ ⟨ZD,YV.mg X G,YV.F.kp,b22⟩ ⟨WR,We.mg X G,We.F.kp,b17⟩ ⟨WQ,Wd.mg X G,Wd.F.kp,b18⟩ ⟨ZC,YU.mg X G,YU.F.kp,b23⟩;have Zz:=LV (P:=l.prog) (w:=w) (mg:=mg) (base:=base) YS.F no_dict ky vT (km X G J7) rP rQ ⟨WU,Wh.mg X G,Wh.F.kp,b11⟩ ⟨ZH,YZ.mg X G,YZ.F.kp,b15⟩ ⟨WQ,Wd.mg X G,Wd.F.kp,b18⟩ ⟨ZA,YT.mg X G,YT.F.kp,b24⟩;have WO:=Fc (P:=l.prog) (w:=w) (mg:=mg) (base:=base) Wc.F ml ⟨WV,Wi.mg X G,Wi.F.kp,b10⟩;have Zy:=Ia (P:=l.prog) (w:=w) (mg:=mg) (base:=base) YR.F ⟨Zz,YS.mg X G,YS.F.kp,b25⟩ ⟨WO,Wc.mg X G,Wc.F.kp,b26⟩;have Zx:=CD (P:=l.prog) (w:=w) (mg:=mg) (base:=base) YQ.F Cg Hq gx;have Zw:=Fd (P:=l.prog) (w:=w) (mg:=mg) (base:=base) YO.F no_dict gx ⟨Zx,YQ.mg X G,YQ.F.kp,b28⟩;have Zv:=LS (P:=l.prog) (w:=w) (mg:=mg) (base:=base) YN.F Ho ⟨WO,Wc.mg X G,Wc.F.kp,b26⟩ ⟨WU,Wh.mg X G,Wh.F.kp,b11⟩;exact Vr Fl gI ⟨ok0,F0.mg X G,F0.F.kp,b0⟩ ⟨ok5,F5.mg X G,F5.F.kp,b5⟩ ⟨ok6,F6.mg X G,F6.F.kp,b6⟩ ⟨WW,F1.mg X G,F1.F.kp,b1⟩ ⟨RI,F2.mg X G,F2.F.kp,b2⟩ ⟨ok7,F7.mg X G,F7.F.kp,b7⟩ ⟨ok8,F8.mg X G,F8.F.kp,b8⟩ ⟨ok4,F4.mg X G,F4.F.kp,b4⟩ ⟨ok9,F9.mg X G,F9.F.kp,b9⟩ ⟨Zy,YR.mg X G,YR.F.kp,b27⟩ ⟨VW,F3.mg X G,F3.F.kp,b3⟩ ⟨Zw,YO.mg X G,YO.F.kp,b29⟩ ⟨Zv,YN.mg X G,YN.F.kp,b30⟩
section
open PySem.W PySem.Calls
noncomputable def hC (n:Str) (t:Nat) (l:List Value):Obj:=⟨.type "code",none,.fields (.str n t :: .str n (t+1) :: .str "/claim/cut.py" (t+2) :: l).toArray,#[]⟩
noncomputable def hI(n:Int):Value:=.int n 0
noncomputable def hR(n:Nat):Value:=.ref n
noncomputable def hN:Value:=.none
noncomputable def hT:Value:=.bool true
noncomputable def hS (n:Nat):Value:=.str "/claim/cut.py" n
noncomputable def hD(n:Str)(t:Nat)(l a:Int)(r:Nat)(x y z:Value)(u:Nat):Obj:=hC n t [hI l,hI a,hI 0,hI 0,hI 3,hR r,hT,hI 181,hR (r+1),hN,x,y,z,hI (u - 1),hI l,hS u]
noncomputable abbrev hF (i:Nat) (n:Str) (m c:Value):Obj:=⟨.type "function",none,.func (j9 n n (nM (top i)) (j6 (top i)) (bo (top i)) .none .none .none m none c .none),#[]⟩
noncomputable abbrev hE(P:Params)(s:Str)(t:Nat)(v:Value):ft:=⟨PyData.keyHash P s,.str s t,v⟩
noncomputable def hQ:bM:=PySem.W.view PySem.Challenge.pw_knotwise_k47_slides_keep [1,2,4,5,6,7,9,10,11,12,13,14,16,17,18,19,20,21,22,23,24,25,26,28,30,31,32,33,34,35,36,37,38,39,40,41,42]
noncomputable def hK (P:Params):ai:=(nat_lit 3,⟨(.type "dict"),none,(.dict #[hE P "__name__" 165 (.str "law_knotwise_k47_slides_keep" 424),hE P "__doc__" 166 .none,hE P "__package__" 167 .none,hE P "__loader__" 168 (.builtin "__main__.__loader__#opaque"),hE P "__spec__" 169 .none,hE P "__annotations__" 170 (.ref 6),hE P "__builtins__" 171 (.ref 4),hE P "__file__" 173 (.str "/claim/cut.py" 172),hE P "__cached__" 174 .none,hE P "KnotError" 206 (.ref 24),hE P "NoName" 222 (.ref 37),hE P "passings_of" 233 (.ref 46),hE P "names_of" 239 (.ref 51),hE P "hand_of" 248 (.ref 58),hE P "next_of" 259 (.ref 65),hE P "LOOP" 271 (.ref 66),hE P "without_noughts" 281 (.ref 73),hE P "added" 292 (.ref 80),hE P "times" 306 (.ref 87),hE P "shifted" 318 (.ref 94),hE P "raised" 328 (.ref 101),hE P "ALONG" 332 (.int 0 331),hE P "AGAINST" 334 (.int 1 333),hE P "joints" 342 (.ref 108),hE P "power_at" 350 (.ref 115),hE P "plan_of" 356 (.ref 120),hE P "whole_plan" 362 (.ref 125),hE P "far_ends" 372 (.ref 132),hE P "joined_plan" 386 (.ref 139),hE P "opened_at" 402 (.ref 146),hE P "opened" 408 (.ref 151),hE P "bracket" 415 (.ref 158),hE P "writhe" 423 (.ref 163),hE P "_law_cell_at" 433 (.ref 170),hE P "_law_whole" 440 (.ref 177),hE P "_law_pick" 449 (.ref 184),hE P "_law_poly" 457 (.ref 191),hE P "_law_copy" 463 (.ref 196),hE P "_law_free" 471 (.ref 203),hE P "_law_put" 482 (.ref 210),hE P "_law_drawing" 488 (.ref 215),hE P "_law_names" 498 (.ref 222),hE P "_law_blocks" 504 (.ref 227),hE P "_law_flattened" 518 (.ref 234),hE P "_law_pairs" 536 (.ref 241),hE P "law" 557 (.ref 248)] 46),#[]⟩) ::
(nat_lit 45,hD "passings_of" 225 7 1 40 (hR 42) (hR 43) (hR 44) 232) ::
(nat_lit 46,hF 4 "passings_of" (.str "knotwise.drawings" 223) (.ref 45)) ::
(nat_lit 50,hD "names_of" 234 12 1 47 hN hN (hR 49) 238) ::
(nat_lit 51,hF 5 "names_of" (.str "knotwise.drawings" 223) (.ref 50)) ::
(nat_lit 57,hD "hand_of" 240 14 2 52 (hR 54) (hR 55) (hR 56) 247) ::
(nat_lit 58,hF 6 "hand_of" (.str "knotwise.drawings" 223) (.ref 57)) ::
(nat_lit 64,hD "next_of" 249 19 1 59 (hR 61) (hR 62) (hR 63) 258) ::
(nat_lit 65,hF 7 "next_of" (.str "knotwise.drawings" 223) (.ref 64)) ::
(nat_lit 66,⟨(.type "dict"),none,(.dict #[⟨2,(.int 2 262),(.int (-1) 264)⟩,⟨(-2),(.int (-2) 266),(.int (-1) 268)⟩] 2),#[]⟩) ::
(nat_lit 72,hD "without_noughts" 272 27 1 67 (hR 69) (hR 70) (hR 71) 280) ::
(nat_lit 73,hF 10 "without_noughts" (.str "knotwise.polys" 260) (.ref 72)) ::
(nat_lit 79,hD "added" 282 33 2 74 (hR 76) (hR 77) (hR 78) 291) ::
(nat_lit 80,hF 11 "added" (.str "knotwise.polys" 260) (.ref 79)) ::
(nat_lit 86,hD "times" 293 38 2 81 (hR 83) (hR 84) (hR 85) 305) ::
(nat_lit 87,hF 12 "times" (.str "knotwise.polys" 260) (.ref 86)) ::
(nat_lit 93,hD "shifted" 307 45 3 88 (hR 90) (hR 91) (hR 92) 317) ::
(nat_lit 94,hF 13 "shifted" (.str "knotwise.polys" 260) (.ref 93)) ::
(nat_lit 100,hD "raised" 319 50 2 95 (hR 97) (hR 98) (hR 99) 327) ::
(nat_lit 101,hF 14 "raised" (.str "knotwise.polys" 260) (.ref 100)) ::
(nat_lit 107,hD "joints" 335 58 2 102 (hR 104) (hR 105) (hR 106) 341) ::
(nat_lit 108,hF 18 "joints" (.str "knotwise.brackets" 329) (.ref 107)) ::
(nat_lit 114,hD "power_at" 343 62 2 109 (hR 111) (hR 112) (hR 113) 349) ::
(nat_lit 115,hF 19 "power_at" (.str "knotwise.brackets" 329) (.ref 114)) ::
(nat_lit 119,hD "plan_of" 351 64 1 116 hN hN (hR 118) 355) ::
(nat_lit 120,hF 20 "plan_of" (.str "knotwise.brackets" 329) (.ref 119)) ::
(nat_lit 124,hD "whole_plan" 357 66 1 121 hN hN (hR 123) 361) ::
(nat_lit 125,hF 21 "whole_plan" (.str "knotwise.brackets" 329) (.ref 124)) ::
(nat_lit 131,hD "far_ends" 363 69 1 126 (hR 128) (hR 129) (hR 130) 371) ::
(nat_lit 132,hF 22 "far_ends" (.str "knotwise.brackets" 329) (.ref 131)) ::
(nat_lit 138,hD "joined_plan" 373 75 2 133 (hR 135) (hR 136) (hR 137) 385) ::
(nat_lit 139,hF 23 "joined_plan" (.str "knotwise.brackets" 329) (.ref 138)) ::
(nat_lit 145,hD "opened_at" 387 87 3 140 (hR 142) (hR 143) (hR 144) 401) ::
(nat_lit 146,hF 24 "opened_at" (.str "knotwise.brackets" 329) (.ref 145)) ::
(nat_lit 150,hD "opened" 403 99 2 147 hN hN (hR 149) 407) ::
(nat_lit 151,hF 25 "opened" (.str "knotwise.brackets" 329) (.ref 150)) ::
(nat_lit 157,hD "bracket" 409 106 1 152 (hR 154) (hR 155) (hR 156) 414) ::
(nat_lit 158,hF 26 "bracket" (.str "knotwise.brackets" 329) (.ref 157)) ::
(nat_lit 162,hD "writhe" 418 109 1 159 hN hN (hR 161) 422) ::
(nat_lit 163,hF 28 "writhe" (.str "knotwise.marks" 416) (.ref 162)) ::
(nat_lit 169,hD "_law_cell_at" 426 112 2 164 (hR 166) (hR 167) (hR 168) 432) ::
(nat_lit 170,hF 30 "_law_cell_at" (.str "law_knotwise_k47_slides_keep" 424) (.ref 169)) ::
(nat_lit 176,hD "_law_whole" 434 116 1 171 (hR 173) (hR 174) (hR 175) 439) ::
(nat_lit 177,hF 31 "_law_whole" (.str "law_knotwise_k47_slides_keep" 424) (.ref 176)) ::
(nat_lit 183,hD "_law_pick" 441 118 3 178 (hR 180) (hR 181) (hR 182) 448) ::
(nat_lit 184,hF 32 "_law_pick" (.str "law_knotwise_k47_slides_keep" 424) (.ref 183)) ::
(nat_lit 190,hD "_law_poly" 450 120 1 185 (hR 187) (hR 188) (hR 189) 456) ::
(nat_lit 191,hF 33 "_law_poly" (.str "law_knotwise_k47_slides_keep" 424) (.ref 190)) ::
(nat_lit 195,hD "_law_copy" 458 127 1 192 hN hN (hR 194) 462) ::
(nat_lit 196,hF 34 "_law_copy" (.str "law_knotwise_k47_slides_keep" 424) (.ref 195)) ::
(nat_lit 202,hD "_law_free" 464 129 2 197 (hR 199) (hR 200) (hR 201) 470) ::
(nat_lit 203,hF 35 "_law_free" (.str "law_knotwise_k47_slides_keep" 424) (.ref 202)) ::
(nat_lit 209,hD "_law_put" 472 133 4 204 (hR 206) (hR 207) (hR 208) 481) ::
(nat_lit 210,hF 36 "_law_put" (.str "law_knotwise_k47_slides_keep" 424) (.ref 209)) ::
(nat_lit 214,hD "_law_drawing" 483 138 3 211 hN hN (hR 213) 487) ::
(nat_lit 215,hF 37 "_law_drawing" (.str "law_knotwise_k47_slides_keep" 424) (.ref 214)) ::
(nat_lit 221,hD "_law_names" 489 150 1 216 (hR 218) (hR 219) (hR 220) 497) ::
(nat_lit 222,hF 38 "_law_names" (.str "law_knotwise_k47_slides_keep" 424) (.ref 221)) ::
(nat_lit 226,hD "_law_blocks" 499 157 1 223 hN hN (hR 225) 503) ::
(nat_lit 227,hF 39 "_law_blocks" (.str "law_knotwise_k47_slides_keep" 424) (.ref 226)) ::
(nat_lit 233,hD "_law_flattened" 505 162 3 228 (hR 230) (hR 231) (hR 232) 517) ::
(nat_lit 234,hF 40 "_law_flattened" (.str "law_knotwise_k47_slides_keep" 424) (.ref 233)) ::
(nat_lit 240,hD "_law_pairs" 519 174 2 235 (hR 237) (hR 238) (hR 239) 535) ::
(nat_lit 241,hF 41 "_law_pairs" (.str "law_knotwise_k47_slides_keep" 424) (.ref 240)) ::
(nat_lit 247,hD "law" 537 189 1 242 (hR 244) (hR 245) (hR 246) 556) ::
(nat_lit 248,hF 42 "law" (.str "law_knotwise_k47_slides_keep" 424) (.ref 247)) :: []
noncomputable def hA:List Addr:=[3,45,46,50,51,57,58,64,65,66,72,73,79,80,86,87,93,94,100,101,107,108,114,115,119,120,124,125,131,132,138,139,145,146,150,151,157,158,162,163,169,170,176,177,183,184,190,191,195,196,202,203,209,210,214,215,221,222,226,227,233,234,240,241,247,248]
noncomputable def hL:List Str:=["LOOP"]
noncomputable abbrev Pe(w:World):Prop:=∀ os:OsState,(topFrom treeTable (PySem.Challenge.rw_knotwise_k47_slides_keep).row.prog w 3168 ⟨MT w.params,KI [],Gx,MS,os⟩).map (fun s=>(openSeen hQ hL (x8 (PySem.Challenge.rw_knotwise_k47_slides_keep).row.prog.main.body) (T8 PySem.Challenge.rw_knotwise_k47_slides_keep hQ) true s,hA.map s.heap.get?))=some (openGood hQ hL,(hK w.params).map fun p=>some p.2)
theorem h_f (w:World):Pe (w.withFollow "special-get-raises" false):=fun os=>by kernel_rfl
theorem h_t (w:World):Pe (w.withFollow "special-get-raises" true):=fun os=>by kernel_rfl
theorem Vm (w:World) (os:OsState):(topFrom treeTable (PySem.Challenge.rw_knotwise_k47_slides_keep).row.prog w 3168 ⟨MT w.params,KI [],Gx,MS,os⟩).map (fun s=>(openSeen hQ hL (x8 (PySem.Challenge.rw_knotwise_k47_slides_keep).row.prog.main.body) (T8 PySem.Challenge.rw_knotwise_k47_slides_keep hQ) true s,hA.map s.heap.get?))=some (openGood hQ hL,(hK w.params).map fun p=>some p.2):=(byRow2 "special-get-raises" (P:=fun w=>Pe w) h_f h_t) w os
theorem Vl:(PySem.Challenge.rw_knotwise_k47_slides_keep).wellSaid=true:=by kernel_rfl
theorem Vk:Ji PySem.Challenge.rw_knotwise_k47_slides_keep hQ=true:=by kernel_rfl
end
end Fin
end Internal
open Internal
open PySem PySem.W PyProof.Rows
set_option maxRecDepth 100000 in
set_option maxHeartbeats 0 in
theorem PySem.Challenge.cw_knotwise_k47_slides_keep_holds : PySem.Challenge.rw_knotwise_k47_slides_keep.Holds := by
 w_on
 refine K2.LM (q:=Fin.hQ) (K:=Fin.hK) (as:=Fin.hA) (N:=3168) Fin.Vl (by kernel_rfl) (by kernel_rfl) (fun _=>by kernel_rfl) (fun _=>by kernel_rfl) Fin.Vm (by rfl) (by rfl) (by rfl) (by rfl) Fin.Vk ⟨rfl,rfl,rfl,rfl,rfl,by decide +kernel⟩ ?hw ?hc
 (case hw=>w_witness2)
 k_fill
 refine K2.OC (l:=PySem.Challenge.rw_knotwise_k47_slides_keep) (k:=7) (x:="_law_script") rfl rfl ⟨rfl,by decide,by decide⟩ (fun w h Y=>Y) ?F
 case F =>
  intro w mg fa h KX G Xp;exact Fin.all_mk KX G Xp K2.fJ K2.fJ K2.fJ K2.fJ K2.fJ K2.fJ K2.fJ K2.fJ K2.fJ K2.fJ K2.fJ K2.fJ K2.fJ K2.fJ K2.fJ K2.fJ K2.fJ K2.fJ K2.fJ K2.fJ K2.fJ K2.fJ K2.fJ K2.fJ K2.fJ K2.fJ K2.fJ K2.fJ K2.fJ K2.fJ K2.fJ K2.fJ
