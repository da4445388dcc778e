import PyProof.Rows.All
import Wide.All
import OpenK.AllK
import Wide.FinOn
import Lean
import PyProof.EqAt
import PyProof.EqKinds
import PyProof.TupleCall
import PySem.Challenge.RW_knotwise_k63_beside_is_a_product
open Array renaming length_toList -> fK, forIn_toList -> zZ, getElem?_eq_getElem -> Jw, getD -> LG, mk -> Nj, getElem?_eq_none -> O7
open Array.Perm renaming refl -> oq
open Bool renaming false_eq_true -> au, and_eq_true -> aJ, noConfusion -> bg, not_true -> bK, not_false -> eW, false_ne_true -> fu, or_eq_true -> iU, and_eq_true_iff -> kN, false_and -> yZ, not_eq_true' -> CD, and_false -> LF, false_or -> O6, beq_eq_decide_eq -> S0
open Classical renaming byContradiction -> g7
open False renaming elim -> bI
open ForInStep renaming yield -> uG
open Function renaming comp_def -> SX
open Int renaming toNat_natCast -> fh, toNat_of_nonneg -> qg, natCast_nonneg -> rX, emod_lt_of_pos -> rY, emod_nonneg -> xD, zero_add -> FE, add_zero -> FF, mul_add -> Jr, add_comm -> Tp
open List renaming getElem?_cons_zero -> aa, getElem?_cons_succ -> ae, length_cons -> ah, set_cons_zero -> ai, map_cons -> ak, set_cons_succ -> ao, length_map -> aq, length_nil -> aw, getElem?_eq_getElem -> ax, cons_append -> aB, length_append -> aC, mem_cons_of_mem -> aG, nil_append -> aM, map_append -> aN, map_nil -> aQ, nodup_cons -> aS, replicate -> aT, size_toArray -> aW, map_map -> bq, getElem?_map -> bu, mem_cons_self -> bH, mem_cons -> bJ, mem_map_of_mem -> bR, getElem?_append_right -> bS, not_mem_nil -> bV, filter_cons -> bW, getElem?_append_left -> b9, append_nil -> cg, nodup_nil -> cj, find?_cons_of_pos -> ck, find?_cons_of_neg -> cm, length_drop -> cq, length_singleton -> cx, mem_singleton -> cK, length_set -> cL, foldl_cons -> cM, flatten_append -> cQ, getElem?_set_self -> cU, mem_of_getElem? -> cV, getElem?_set_ne -> cW, nodup_append -> cY, flatMap_cons -> cZ, mem_append_right -> dj, length_filter_le -> dn, map_congr_left -> dE, append_assoc -> dG, length -> dI, filter_append -> dS, find?_cons -> d4, length_take -> d6, getD_eq_getElem?_getD -> eK, getElem_mem -> e9, flatten_cons -> ff, range -> fL, length_replicate -> fW, all_eq_true -> gm, foldl_append -> gO, find?_eq_none -> iw, mem_of_find?_eq_some -> iE, drop_eq_getElem_cons -> iF, getElem?_of_mem -> iP, all_map -> jc, getElem?_eq_none -> kl, filter_sublist -> lE, length_zip -> mz, getElem_range -> mC, getElem?_replicate -> mD, any_cons -> mE, all_cons -> mF, drop_eq_nil_of_le -> mX, pairwise_map -> ny, map_id -> nC, length_range -> nE, getElem_map -> oH, mem_append_left -> oX, getElem_of_mem -> pY, find?_some -> pZ, zip_cons_cons -> rO, length_erase_of_mem -> tW, getElem_zip -> u4, length_pos_of_mem -> vF, take_append_drop -> xl, perm_append_comm -> xm, filter_nil -> xn, mem_erase_of_ne -> yv, filterMap_cons -> zt, take_nil -> BW, map_singleton -> BX, drop_nil -> BY, set_nil -> DU, lookup_cons -> FD, countP_eq_length_filter -> FW, of_mem_zip -> IL, filter_map -> IM, mem_or_eq_of_mem_set -> LC, filterMap_cons_some -> Ni, map_take -> O0, map_drop -> O1, filter_cons_of_pos -> O2, filter_cons_of_neg -> O3, eraseIdx_cons_zero -> O4, eraseIdx_cons_succ -> O5, set_getElem_self -> SV, contains_iff_mem -> SW
open List.Perm renaming swap -> vG, append -> zY, cons -> DV
open List.Sublist renaming map -> mG, nodup -> oy
open Nat renaming le_refl -> aE, le_trans -> bc, ne_of_lt -> bx, lt_of_lt_of_le -> bC, zero_le -> cw, lt_of_le_of_lt -> fC, pow_le_pow_right -> fD, mul_le_mul_right -> iT, lt_irrefl -> jh, add_assoc -> pB, not_lt_zero -> qf, mul_le_mul -> sx, add_sub_cancel_left -> u3, succ_le_succ -> vC, lt_succ_self -> vD, le_add_right -> vE, lt_of_succ_lt_succ -> vI, le_of_succ_le_succ -> vJ, pow_succ -> xB, add_le_add -> zr, lt_succ_of_lt -> DT, le_succ -> Jq, le_of_lt -> Tn, add_zero -> To
open Ne renaming symm -> e7
open Option renaming getD_some -> oh, map_some -> vB, isSome_map -> BV, getD_none -> CB, bind_some -> CC
open Option.some renaming inj -> aZ, injEq -> Nh
open PyProof.Rows renaming callWith_type1 -> jf, callWith_builtin1 -> lN, IntsAre -> nN, slot_tuple_getitem -> xk, envOfC -> yu, boot_isinstance -> yY, seqObj -> zQ, AllBare -> z8
open PySem renaming wpAny_bind -> ag, Shared -> ay, wpAny_pure -> aA, sizeLine -> a8, starEach -> bw, mainGlobals -> bz, Program -> bE, wpAny_loadPart' -> bM, sizeLine_eq -> cD, wpAny_holding -> cF, Around -> cO, wpAny_call_entry -> df, wpAny_newObj_type -> dg, sysModules -> dh, compareOp -> eU, wpAny_Call_Name_kw -> eY, bootBuiltins -> eZ, FuncData -> fH, DictEntry -> fV, wpAny_dictEntries -> g6, ReadsAll -> iu, mem_of_lookup -> jb, tupleKind -> jg, wpAny_typeNameOfWhole_itemiter -> jO, wpAny_callSpecial?_slot -> jT, binaryOp -> jU, wpAny_typeNameOfWhole_keyiter -> j7, wpAny_passesOwn -> kO, codeAny_builtin -> kQ, wpAny_mono -> ly, Paired -> lC, wpAny_typeNameOf_itemiter -> lW, backTo -> lX, wpAny_forIn_list -> mx, wpAny_typeNameOf_keyiter -> mO, wpAny_setField_rec -> nI, wpAny_execs_nil -> nJ, wpAny_dictEpoch -> nK, tupleKind_room_in1 -> nM, wpAny_isOneOf_itemiter -> oG, wpAny_truthy_bool -> oS, wpAny_pyIter_slot -> oT, wpAny_pyIter_list -> oU, foldedSetIterable -> oV, valueAt -> oW, IsItemIter -> oY, wpAny_fieldsOf -> pg, codeAny_mono -> pA, wpAny_isInstance -> qc, codeAny_call_builtin -> qX, wpAny_attempt -> rL, plainId_quiet -> rM, wpAny_field -> sd, sliceBounds -> se, richCompare -> sf, argBest -> si, NameKind -> uP, wpAny_seqItems -> uY, wpAny_standAt -> xr, wpAny_letGo -> xt, wpAny_Call_method0_late -> xu, rawInt -> yr, pyNext -> yt, richCompare_meets_room -> yW, evalArgs_none -> yX, wpAny_updateSeq -> zN, wpAny_specialOf -> zO, wpAny_notOrdered_dict -> zP, letOwnedTupleGo -> zR, isSubtype_tuple_tuple -> zT, importedModules -> zU, codeAny -> zV, call_meetsIn -> zW, assignEach -> BU, wpAny_tryCatch -> Cy, firstArgMember -> Cz, holding -> DQ, wpAny_tupleItemsOf -> FQ, swapsWith -> FR, pyIter -> FT, attributeBase -> FU, HeapKind -> FX, wpAny_truthy_dict -> Jc, wpAny_call -> Jd, storedH -> Je, spliced -> Jf, relabel -> Jg, isInstance -> Jh, intKind -> Ji, callerA -> Jj, call_meets -> Jk, wpAny_callSpecialIfBound?_slot -> Lu, assign -> Lv, call -> Lx, wpAny_execs_cons -> Nc, wpAny_of_eq -> Pk, wpAny_letOwnedTupleGo_items -> Pm, valueAt -> Pp, excClassObj -> Pu, eqIsQuiet -> Pw, wpAny_setField -> Ti
open PySem.Around renaming under_plainId -> kF
open PySem.AutoSeq1 renaming sub_tuple_tuple -> qZ, sub_list_list -> Jv
open PySem.Builtin.Builtins renaming bindParams -> xp
open PySem.Builtin.Dict renaming showsAll -> lO, takeOut -> Ga
open PySem.Builtin.Dict_items renaming ownsTuple -> fI, ownedTupleIsFree -> jD, ownedTupleFields -> qY, pairFromOwner -> sA
open PySem.Builtin.Int renaming intBits -> Ju
open PySem.Builtin.List renaming listTooLong -> ky
open PySem.Builtin.Slice renaming slicePlaces -> jZ, sliceAdjust -> oz, sliceApplied -> zv
open PySem.Builtin.SmallTypes renaming fitsIndex -> fJ
open PySem.Builtin.Tuple renaming tupleHashOf -> eD, tupleExact -> kr, tupleCompareSizes -> vK, tupleItemsOf -> zu
open PySem.Calls renaming spliced_cons -> jQ, callWith_builtin -> mQ, spliced_nil -> sy, Name_function_global -> IS, evalArgs_plain -> SY
open PySem.F renaming plainAttrs_dict -> cH, slot_dict_get -> fT, slot_dict_items -> gu, plainAttrs_list -> gv, type_dict_get -> jV, slot_dict_itemiterator_next -> jW, slot_dict_itemiterator_iter -> jX, plain_min_loop -> jY, slot_dict_keyiterator_next -> kq, type_list_append -> lh, slot_list_append -> lj, slot_tuple_lt -> mW, args_dict_items_1 -> qe, entry_dict_items -> rN, type_dict_items -> sr, args_tuple_lt_2 -> su, entry_tuple_lt -> uF, slot_dict_pop -> uZ, slot_list_lt -> vH, attrBase_ValueError -> DS, args_dict_itemiterator_next_1 -> FY, args_dict_itemiterator_iter_1 -> FZ, args_tuple_add_2 -> IK, entry_dict_itemiterator_next -> IP, args_dict_keyiterator_next_1 -> IQ, slot_list_index -> Jn, entry_tuple_add -> Jo, args_dict_get_3 -> Jp, entry_min_loop -> Js, entry_dict_keyiterator_next -> Jt, slot_tuple_add -> Lz, entry_dict_get -> LA, args_list_lt_2 -> LB, slot_dict_keyiterator_iter -> LD, type_dict_pop -> Nf, entry_list_lt -> Ng
open PySem.Heap renaming get?_push_of_some -> aF, lt_size -> aR, get?_push_size -> a9, get?_update_other -> dJ, SameBut -> fX, get?_update_self -> km, size_push -> lq, FlyingW -> xj, size_update -> FG, get?_none_of_le -> Tq
open PySem.Heap.SameBut renaming update -> ko
open PySem.NameKind renaming free -> lD
open PySem.Obj renaming mapSeq -> jP
open PySem.Paired renaming length -> i9, snoc -> SU
open PySem.PassesOwn renaming never -> bh
open PySem.PyData renaming depthAll -> cf, eqv -> rW
open PySem.SeqAt renaming items_eqAt -> ou, any_by_data -> sk, readOf -> CA
open PySem.Str renaming ofString -> xA
open PySem.Value renaming ref -> fe, int -> fG, none -> gM, isInt -> uE, type -> Lw, builtin -> Nd
open PySem.W renaming Frag -> aj, nsIn -> cG, kia_one -> fR, kas_rev -> hZ, kas_place -> kP, fnOf -> lg, kas_desc -> my, keepIn -> mP, excIn -> ow, callWith_K -> pX, kas_asc -> sg, kitOne -> xh, kas_descPart -> zS, methodObj -> zX, OpenLaw -> DR, codeIn -> FV, boot_drawn -> Jl, cellsFrom_some -> Ly, kas_tail3 -> Pq, findIn -> Pt, boot_toks -> Px, boot_heap -> Py, hideAll_get -> Pz, of_hideAll -> SS, kitx_none -> Tj
open PySem.W.KasT renaming ret -> xC
open Sum renaming inl -> xx, inr -> Jm
open True renaming intro -> gf
set_option Elab.async false
set_option linter.all false
set_option maxRecDepth 100000
set_option maxHeartbeats 4000000
set_option genSizeOf false
set_option genInjectivity false
set_option compiler.extract_closed false
namespace Internal
def Ad(h:0=0:=by decide):0=0:=h
def Ae(h:0=0:=by first | rfl | decide):0=0:=h
def Af(h:0=0:=by first | k_is | rfl):0=0:=h
def Ai(h:0=0:=by intro _; rfl):0=0:=h
def Ak(h:0=0:=by decide +kernel):0=0:=h
def Al(h:0=0:=by intro _ _ _ _ h; repeat (first | (cases h.1; rfl) | (cases h <;> rename_i h))):0=0:=h
def Ao(h:0=0:=by first | exact .inl rfl | exact .inr rfl | exact .inr (.inl rfl) | exact .inr (.inr rfl) | assumption):0=0:=h
def Aq(h:0=0:=by k_is):0=0:=h
def Ar(h:0=0:=by rfl):0=0:=h
def Aua(h:0=0:=by exact scm):0=0:=h
def Aub(h:0=0:=by intro _ _ _ _ _ _ us hl; rcases us with _ | ⟨_,_ | ⟨_,_ | ⟨_,_ | ⟨_,_ | ⟨_,_⟩⟩⟩⟩⟩ <;> first | rfl | (simp at hl; done)):0=0:=h
def Wa(h:0=0:=by show _=_; first | k_is | kit_is):0=0:=h
def Ph(h:0=0:=by show _=_; k_is):0=0:=h
def Ax(h:0=0:=by k_exc):0=0:=h
namespace L2
open PySem PySem.Spec PyProof.Rows
abbrev Key:=Sum Int Str
def C7:Key->Value->Bool
 | .inl k,v=>uE k v
 | .inr x,v=>Value.isStrOf x v
def abF(w:World):Key->Int
 | .inl k=>hashInt k
 | .inr x=>hashStr w x
theorem fj:∀ {k:Key} {v:Value},C7 k v=true->(∃ i t,k=xx i/\v=fG i t)\/(∃ x t,k=Jm x/\v=Value.str x t)
 | .inl i,v,h=>by
  obtain⟨t,e⟩:=Value.isInt_shape (k:=i) (v:=v) h;exact .inl ⟨i,t,rfl,e⟩
 | .inr x,v,h=>by
  obtain⟨t,e⟩:=Value.isStrOf_shape (x:=x) (v:=v) h;exact .inr ⟨x,t,rfl,e⟩
def Oa(i:Int)(t:Tok):C7 (.inl i) (.int i t)=true:=by simp [C7,uE]
def N9(x:Str)(t:Tok):C7 (.inr x) (.str x t)=true:=by simp [C7,Value.isStrOf]
theorem Q4(a b:Int):decide ((xx a:Key)=xx b)=(a == b):=by
 by_cases e:a=b
 ·subst e; simp
 ·have h:¬ (xx a:Key)=xx b:=fun q=>e (Sum.inl.inj q);rw [decide_eq_false h];exact(beq_eq_false_iff_ne.mpr e).symm
def Q3(a b:Str):decide ((Jm a:Key)=Jm b)=decide (a=b):=by
 by_cases e:a=b
 ·subst e; simp
 ·have h:¬ (Jm a:Key)=Jm b:=fun q=>e (Sum.inr.inj q);rw [decide_eq_false h,decide_eq_false e]
def Xd(a:Int)(b:Str):decide ((xx a:Key)=Jm b)=false:=decide_eq_false (fun q=>nomatch q)
def Xb(a:Str)(b:Int):decide ((Jm a:Key)=xx b)=false:=decide_eq_false (fun q=>nomatch q)
def cJ(prog:bE)(w:World):PySem.KeyKind prog w Key where
 is:=C7
 hash:=abF w
 inj:=fun v a b ha hb=>by
  rcases fj ha with ⟨i,t,rfl,rfl⟩ | ⟨x,t,rfl,rfl⟩
  ·rcases fj hb with ⟨j,u,rfl,e⟩ | ⟨y,u,rfl,e⟩
   ·injection e with e1 _; rw [e1]
   ·exact nomatch e
  ·rcases fj hb with ⟨j,u,rfl,e⟩ | ⟨y,u,rfl,e⟩
   ·exact nomatch e
   ·injection e with e1 _; rw [e1]
 byValue:=fun k v h=>by
  rcases fj h with ⟨i,t,rfl,rfl⟩ | ⟨x,t,rfl,rfl⟩ <;> rfl
 pyHash:=fun hv h=>by
  rcases fj hv with ⟨i,t,rfl,rfl⟩ | ⟨x,t,rfl,rfl⟩
  ·exact wpAny_pyHash_int h
  ·exact wpAny_pyHash_str h
 eqBool:=fun hu hv h=>by
  rcases fj hu with ⟨i,t,rfl,rfl⟩ | ⟨x,t,rfl,rfl⟩
  ·rcases fj hv with ⟨j,u,rfl,rfl⟩ | ⟨y,u,rfl,rfl⟩
   ·rw [Q4] at h; exact wpAny_eqBool_int h
   ·rw [Xd] at h; exact SeqAt.EqAt.int_str i t y u _ _ _ _ h
  ·rcases fj hv with ⟨j,u,rfl,rfl⟩ | ⟨y,u,rfl,rfl⟩
   ·rw [Xb] at h; exact SeqAt.EqAt.str_int x t j u _ _ _ _ h
   ·rw [Q3] at h; exact wpAny_eqBool_str h
 «strs»:=fun k x t v h=>by
  rcases fj h with ⟨i,u,rfl,e⟩ | ⟨y,u,rfl,e⟩
  ·exact nomatch e
  ·injection e with e1 _
   subst e1;cases v <;> rfl
def Hd(prog:bE)(w:World)(i:Int)(t:Tok):(cJ prog w).is (.inl i) (.int i t)=true:=Oa i t
def Hb(prog:bE)(w:World)(x:Str)(t:Tok):(cJ prog w).is (.inr x) (.str x t)=true:=N9 x t
inductive V where
 | eT | bl (b:Bool) | int (i:Int) | str (x:Str) | XR (b:Array UInt8) | flt (b:UInt64) | ref (a:Addr) | ty (n:String)
def RelV:V->Value->Prop
 | .eT,u=>u=gM
 | .bl b,u=>u=Value.bool b
 | .int i,u=>∃ t,u=fG i t
 | .str x,u=>∃ t,u=Value.str x t
 | .XR b,u=>∃ t,u=Value.bytes b t
 | .flt b,u=>∃ t,u=Value.float b t
 | .ref a,u=>u=fe a
 | .ty n,u=>u=Lw n
abbrev Vals:List V->List Value->Prop:=lC RelV
def Vals.length{xs:List V}{us:List Value}(r:Vals xs us):xs.length=us.length:=i9 r
theorem Vals.get:∀ {xs:List V} {us:List Value} {i:Nat} {x:V},Vals xs us->xs[i]?=some x->∃ u,us[i]?=some u/\RelV x u:=by
 intro xs us i x h;induction h generalizing i with
 | nil=>intro e; cases e
 | cons r t ih =>
  intro e;cases i with
  | zero=>cases e; exact⟨_,rfl,r⟩
  | succ i=>exact ih e
theorem Vals.set{x:V}{u:Value}(r:RelV x u):∀ {xs:List V} {us:List Value} (i:Nat),Vals xs us->Vals (xs.set i x) (us.set i u):=by
 intro xs us i h;induction h generalizing i with
 | nil=>rw [DU,DU]; exact .nil
 | cons q t ih =>
  cases i with
  | zero=>exact .cons r t
  | succ i=>exact .cons q (ih i)
theorem Vals.append:∀ {xs ys:List V} {us ws:List Value},Vals xs us->Vals ys ws->Vals (xs++ys) (us++ws):=by
 intro xs ys us ws h s;induction h with
 | nil=>exact s
 | cons r t ih=>exact .cons r ih
theorem Vals.take:∀ {xs:List V} {us:List Value} (n:Nat),Vals xs us->Vals (xs.take n) (us.take n):=by
 intro xs us n h;induction h generalizing n with
 | nil=>rw [BW,BW]; exact .nil
 | cons r t ih =>
  cases n with
  | zero=>exact .nil
  | succ n=>exact .cons r (ih n)
theorem Vals.drop:∀ {xs:List V} {us:List Value} (n:Nat),Vals xs us->Vals (xs.drop n) (us.drop n):=by
 intro xs us n h;induction h generalizing n with
 | nil=>rw [BY,BY]; exact .nil
 | cons r t ih =>
  cases n with
  | zero=>exact .cons r t
  | succ n=>exact ih n
def yq:Option V->Option Value->Prop
 | some v,some u=>RelV v u
 | none,none=>True
 | _,_=>False
def KV{κ:Type}:List (κ×V)->List (κ×Value)->Prop:=lC fun (p:κ×V) (q:κ×Value)=>p.1=q.1/\RelV p.2 q.2
def kV:Key->V
 | .inl i=>.int i
 | .inr x=>.str x
inductive HO where
 | lst (xs:List V)
 | tup (xs:List V)
 | dK (kvs:List (Key×V)) | dT (kvs:List (List Key×V))
 | set (S:Int->Bool) (n:Nat)
 | ins (C dx:Addr) (fs:List (Str×V))
 | own (x:Addr)
 | xd (fs:List (Str×V))
 | met (f x:Addr)
 | YG (lo hi:Int)
 | iN (o:Obj) (u:HO)
 | TC (q:Str)
 | ext (φ:Heap->Prop)
abbrev Hp:=Addr->Option HO
def upd(H:Hp)(a:Addr)(o:HO):Hp:=fun b=>if b=a then some o else H b
def bU{H:Hp}{a:Addr}{o:HO}:upd H a o a=some o:=by unfold upd; rw [if_pos rfl]
def bG{H:Hp}{a b:Addr}{o:HO}(h:b≠a):upd H a o b=H b:=by unfold upd; rw [if_neg h]
def Vy{H:Hp}{a b:Addr}{o u:HO}(h:H a=some o)(h':H b=some u)(d:o≠u):a≠b:=by
 intro e; subst e; rw [h] at h'; exact d (aZ h')
def ez{H:Hp}{a b:Addr}{o:HO}(h:H a=some o)(h':H b=none):a≠b:=by
 intro e; subst e; rw [h] at h'; cases h'
section
variable (P:bE) (w:World)
def fE(H:Hp)(h:Heap)(a:Addr):HO->Prop
 | .lst xs=>xs.length<=a8/\∃ (bL:List Value) (n:Nat),Vals xs bL/\h.get? a=some { cls:=.type "list",data:=.seq bL.toArray n }
 | .tup xs=>xs.length<=a8/\∃ bL:List Value,Vals xs bL/\IsTup h a bL.toArray
 | .dK kvs=>kvs.length<=a8/\(a == dh)=false/\∃ vs,KV kvs vs/\h.DictOf (cJ P w) a vs
 | .dT kvs=>kvs.length<=a8/\(a == dh)=false/\∃ xs:List (List Key×Addr×Value),
   lC (fun (p:List Key×V) (q:List Key×Addr×Value)=>p.1=q.1/\H q.2.1=some (.tup (p.1.map kV))/\RelV p.2 q.2.2) kvs xs /\
   ∃ o es ep,h.get? a=some o/\o.ExactDict/\o.data=.dict es ep/\es.toList=xs.map (entryOfKey (jg (cJ P w)))/\(xs.map (·.1)).Nodup
 | .set S n=>h.SetOf (Ji P w) a S n
 | .ins C dx fs=>H dx=some (.own a)/\fs.length<=1000/\dx≠a/\h.get? a=some (PySem.W.instObj C dx) /\
   ∃ mA,h.Ns1 dx mA/\(∀ f,yq (fs.lookup f) (mA f))/\PySem.Within mA (fs.map (·.1))
 | .own _=>∃ o,h.get? a=some o
 | .xd fs=>∃ mA,h.Ns1 a mA/\∀ f,yq (fs.lookup f) (mA f)
 | .YG lo hi=>∃ t u v,h.get? a=some { cls:=.type "range",data:=.fields #[.int lo t,.int hi u,.int 1 v] }
 | .iN o u=>h.get? a=some o/\fE H h a u
 | .TC q=>∃ ps,h.get? a=some { cls:=.none,data:=.fields ps }/\TriplesOk ps.toList/\∀ pos cv,codeAmong pos ps.toList=some cv->∃ c',cv=.ref c'/\H c'=some (.own a)/\h.CodeRec (.ref c') q
 | .met f x=>h.get? a=some (zX (.ref f) (.ref x))
 | .ext φ=>φ h/\(∃ o,h.get? a=some o)/\∀ h1 h2:Heap,φ h1->(∀ o,h1.get? a=some o->h2.get? a=some o)->φ h2
def oE(H:Hp)(h:Heap):Prop:=∀ a o,H a=some o->fE P w H h a o
end
section
variable {P:bE} {w:World} {H H':Hp} {h h':Heap} {a:Addr} {o:HO}
theorem fE.lt(x:fE P w H h a o):a < h.objs.size:=by
 cases o with
 | lst xs=>obtain⟨_,_,_,_,e⟩:=x; exact aR e
 | tup xs=>obtain⟨_,_,_,p⟩:=x; exact p.lt
 | dK kvs=>obtain⟨_,_,_,_,o,_,_,e,_⟩:=x; exact aR e
 | dT kvs=>obtain⟨_,_,_,_,o,_,_,e,_⟩:=x; exact aR e
 | set S n=>obtain⟨o,_,_,_,e,_⟩:=x; exact aR e
 | ins C dx fs=>obtain⟨_,_,_,e,_⟩:=x; exact aR e
 | own y=>obtain⟨_,e⟩:=x; exact aR e
 | xd fs=>obtain⟨_,⟨_,_,_,e,_⟩,_⟩:=x; exact aR e
 | YG lo hi=>obtain⟨_,_,_,e⟩:=x; exact aR e
 | iN ob u=>obtain⟨e,_⟩:=x; exact aR e
 | TC q=>obtain⟨_,e,_⟩:=x; exact aR e
 | met f y=>exact aR (show h.get? a=some _ from x)
 | ext φ=>obtain⟨_,⟨_,e⟩,_⟩:=x; exact aR e
theorem Paired.Uu{α β:Type}{F G:α->β->Prop}:∀ {l₁:List α} {l₂:List β},lC F l₁ l₂->(∀ a b,F a b->G a b)->lC G l₁ l₂:=by
 intro l₁ l₂ h f;induction h with
 | nil=>exact .nil
 | cons r t ih=>exact .cons (f _ _ r) ih
theorem fE.jF(x:fE P w H h a o)(k:∀ b u,(b=a\/H b=some (.own a))->h.get? b=some u->h'.get? b=some u)
  (ho:∀ b,H b=some (.own a)->H' b=some (.own a)) (ht:∀ b xs,H b=some (.tup xs)->H' b=some (.tup xs)):fE P w H' h' a o:=by
 induction o with
 | lst xs=>obtain⟨z,bL,n,r,e⟩:=x; exact⟨z,bL,n,r,k _ _ (.inl rfl) e⟩
 | tup xs=>obtain⟨z,bL,r,ob,e,c⟩:=x; exact⟨z,bL,r,ob,k _ _ (.inl rfl) e,c⟩
 | dK kvs=>obtain⟨z,y,vs,r,ob,es,ep,e,c⟩:=x; exact⟨z,y,vs,r,ob,es,ep,k _ _ (.inl rfl) e,c⟩
 | dT kvs =>
  obtain⟨z,y,xs,r,ob,es,ep,e,c⟩:=x;exact⟨z,y,xs,Paired.Uu r fun p q z=>⟨z.1,ht _ _ z.2.1,z.2.2⟩,ob,es,ep,k _ _ (.inl rfl) e,c⟩
 | set S n=>obtain⟨ob,es,ep,t,e,c⟩:=x; exact⟨ob,es,ep,t,k _ _ (.inl rfl) e,c⟩
 | ins C dx fs =>
  obtain⟨d,z,ne,e,mA,⟨od,es,ep,e2,c⟩,r⟩:=x;exact⟨ho _ d,z,ne,k _ _ (.inl rfl) e,mA,⟨od,es,ep,k _ _ (.inr d) e2,c⟩,r⟩
 | own y=>obtain⟨ob,e⟩:=x; exact⟨ob,k _ _ (.inl rfl) e⟩
 | xd fs=>obtain⟨mA,⟨od,es,ep,e,c⟩,r⟩:=x; exact⟨mA,⟨od,es,ep,k _ _ (.inl rfl) e,c⟩,r⟩
 | YG lo hi=>obtain⟨t,u,v,e⟩:=x; exact⟨t,u,v,k _ _ (.inl rfl) e⟩
 | iN ob u ih=>obtain⟨e,q⟩:=x; exact⟨k _ _ (.inl rfl) e,ih q⟩
 | TC q =>
  obtain⟨ps,e,t,z⟩:=x;refine⟨ps,k _ _ (.inl rfl) e,t,fun pos cv y=>?_⟩;obtain⟨c',e1,e2,c2,oc,vs,tq,e3,e4,r⟩:=z pos cv y;cases e3;exact⟨c',e1,ho _ e2,c',oc,vs,tq,rfl,k _ _ (.inr e2) e4,r⟩
 | met f y =>
  have e:h.get? a=some (zX (.ref f) (.ref y)):=x;show h'.get? a=some (zX (.ref f) (.ref y));exact k a _ (.inl rfl) e
 | ext φ=>obtain⟨p,⟨o,e⟩,st⟩:=x; exact⟨st _ _ p fun o q=>k _ _ (.inl rfl) q,⟨o,k _ _ (.inl rfl) e⟩,st⟩
def oE.lt(x:oE P w H h)(e:H a=some o):a < h.objs.size:=(x a o e).lt
def oE.fresh(x:oE P w H h)(e:h.objs.size<=a):H a=none:=by
 cases q:H a with
 | none=>rfl
 | some u=>exact absurd (bC (x.lt q) e) (jh _)
def oE.kept(x:oE P w H h)(k:∀ b u,h.get? b=some u->h'.get? b=some u):oE P w H h':=fun a o e =>
 (x a o e).jF (fun b u _ q=>k b u q) (fun _ q=>q) fun _ _ q=>q
theorem oE.laid(x:oE P w H h)(k:∀ b u,h.get? b=some u->h'.get? b=some u)(hp:h.objs.size<=a)(new:fE P w (upd H a o) h' a o):oE P w (upd H a o) h':=fun b u e=>by
 have hn:=x.fresh hp;by_cases hb:b=a
 ·subst hb; rw [bU] at e; cases e; exact new
 ·rw [bG hb] at e;exact(x b u e).jF (fun c v _ q=>k c v q) (fun c q=>by rw [bG (ez q hn)]; exact q) fun c xs q=>by rw [bG (ez q hn)]; exact q
end
def Rd(H:Hp)(a:Addr)(u:HO):Prop:=H a=some u\/∃ o,H a=some (.iN o u)
def Rd.ok{P:bE}{w:World}{H:Hp}{h:Heap}{a:Addr}{u:HO}(r:Rd H a u)(x:oE P w H h):fE P w H h a u:=by
 rcases r with r | ⟨o,r⟩
 ·exact x a u r
 ·obtain⟨_,q⟩:=x a _ r;exact q
def Z8:Option HO->Prop
 | some (.lst _)=>True
 | some (.dK _)=>True
 | some (.dT _)=>True
 | some (.set _ _)=>True
 | some (.ins _ _ _)=>True
 | some (.ext _)=>True
 | _=>False
section
variable {P:bE} {w:World} {H:Hp} {h h':Heap} {x e:Addr} {o':HO}
theorem oE.write(ok:oE P w H h)(mu:Z8 (H x))(he:e=x\/H e=some (.own x))(k:∀ b u,b≠e->h.get? b=some u->h'.get? b=some u)(Yh:∃ u,h'.get? e=some u)
  (new:fE P w (upd H x o') h' x o'):oE P w (upd H x o') h':=fun b u q=>by
 have YX:∀ c y,H c=some (.own y)->c≠x:=fun c y r z=>by subst z; rw [r] at mu; exact mu
 have abl:∀ c xs,H c=some (.tup xs)->c≠x:=fun c xs r z=>by subst z; rw [r] at mu; exact mu
 by_cases hb:b=x
 ·subst hb; rw [bU] at q; cases q; exact new
 ·rw [bG hb] at q;by_cases Xv:b=e
  ·have q':H b=some (.own x):=by
    rcases he with z | z
    ·exact absurd (Xv.trans z) hb
    ·rw [Xv]; exact z
   rw [q] at q'; cases q';obtain⟨v,hv⟩:=Yh;exact⟨v,by rw [Xv]; exact hv⟩
  ·refine(ok b u q).jF (fun c v hc r=>k c v ?_ r) (fun c r=>by rw [bG (YX c b r)]; exact r) fun c xs r=>by rw [bG (abl c xs r)]; exact r
   rcases hc with rfl | hc
   ·exact Xv
   ·rintro rfl;rcases he with z | z
    ·exact YX c b hc z
    ·rw [hc] at z; cases z; exact hb rfl
end
structure Un(fs ex:List Addr)(H H':Hp)(h h':Heap):Prop where
 keep:∀ b o,h.get? b=some o->H b=none->b∉fs->b∉ex->h'.get? b=some o
 slot:∀ b o,h.get? b=some o->H b=none->b∈fs->b∉ex->∃ sl,h'.get? b=some { o with slots:=sl }
 free:∀ b o,h.get? b=some o->H b=none->b∉ex->H' b=none
 there:∀ b o,h.get? b=some o->b∉ex->∃ o',h'.get? b=some o'
 rP:∀ b xs,H b=some (.tup xs)->H' b=some (.tup xs)
 qN:∀ b o u,H b=some (.iN o u)->H' b=some (.iN o u)
 uH:∀ b q,H b=some (.TC q)->H' b=some (.TC q)
 uI:∀ b x,H b=some (.own x)->H' b=some (.own x)
section
variable {fs fs' ex ex':List Addr} {H H1 H2:Hp} {h h1 h2 h':Heap} {a x e:Addr} {o:HO}
theorem Un.any(u:Un fs ex H H1 h h1){b:Addr}{ob:Obj}(q:h.get? b=some ob)(n:H b=none)(hx:b∉ex):∃ sl,h1.get? b=some { ob with slots:=sl }:=by
 by_cases hb:b∈fs
 ·exact u.slot b ob q n hb hx
 ·exact⟨ob.slots,u.keep b ob q n hb hx⟩
theorem Un.kept(k:∀ b u,h.get? b=some u->h'.get? b=some u):Un fs ex H H h h' :=
 ⟨fun b ob q _ _ _=>k b ob q,fun b ob q _ _ _=>⟨ob.slots,k b ob q⟩,fun _ _ _ n _=>n,fun b ob q _=>⟨ob,k b ob q⟩,fun _ _ q=>q,fun _ _ _ q=>q,fun _ _ q=>q,fun _ _ q=>q⟩
def Un.refl:Un fs ex H H h h:=Un.kept fun _ _ q=>q
theorem Un.laid(k:∀ b u,h.get? b=some u->h'.get? b=some u)(hp:h.objs.size<=a)(hn:H a=none):Un fs ex H (upd H a o) h h' where
 keep:=fun b u q _ _ _=>k b u q
 slot:=fun b u q _ _ _=>⟨u.slots,k b u q⟩
 free:=fun b u q n _=>by rw [bG (bx (bC (aR q) hp))]; exact n
 there:=fun b u q _=>⟨u,k b u q⟩
 rP:=fun b xs q=>by rw [bG (ez q hn)]; exact q
 qN:=fun b u xs q=>by rw [bG (ez q hn)]; exact q
 uH:=fun b ps q=>by rw [bG (ez q hn)]; exact q
 uI:=fun b ps q=>by rw [bG (ez q hn)]; exact q
theorem Un.write(mu:Z8 (H x))(he:e=x\/H e=some (.own x))(k:∀ b u,b≠e->h.get? b=some u->h'.get? b=some u)(Yh:∃ u,h'.get? e=some u):Un fs ex H (upd H x o) h h':=by
 have hx:∀ b,H b=none->b≠x:=fun b n z=>by subst z; rw [n] at mu; exact mu
 have hb:∀ b,H b=none->b≠e:=fun b n z=>by
  subst z;rcases he with r | r
  ·exact hx b n r
  ·rw [n] at r; cases r
 have hm:∀ b u,H b=some u->¬ Z8 (some u)->b≠x:=fun b u q nm z=>by subst z; rw [q] at mu; exact nm mu
 refine⟨fun b u q n _ _=>k b u (hb b n) q,fun b u q n _ _=>⟨u.slots,k b u (hb b n) q⟩,fun b u q n _=>by rw [bG (hx b n)]; exact n,fun b u q _=>?_,
  fun b xs q=>by rw [bG (hm b _ q fun z=>z)]; exact q,fun b u xs q=>by rw [bG (hm b _ q fun z=>z)]; exact q,fun b ps q=>by rw [bG (hm b _ q fun z=>z)]; exact q,fun b ps q=>by rw [bG (hm b _ q fun z=>z)]; exact q⟩
 by_cases Xv:b=e
 ·subst Xv; exact Yh
 ·exact⟨u,k b u Xv q⟩
end
def trk(h:Heap)(H:Hp):List Addr:=(fL h.objs.size).filter fun a=>(H a).isSome
def EF(h:Heap)(H:Hp):Heap:=PySem.W.hideAll h (trk h H)
def Om(h:Heap)(H:Hp):(EF h H).objs.size=h.objs.size:=PySem.W.hideAll_size _ _
theorem RC{h:Heap}{H:Hp}{b:Addr}{o:Obj}(e:h.get? b=some o)(n:H b=none):(EF h H).get? b=some o :=
 Pz _ e fun hm=>by
  have q:(H b).isSome=true:=(List.mem_filter.mp hm).2;rw [n] at q; simp at q
theorem Uq{h:Heap}{H:Hp}{b:Addr}{o:Obj}(e:(EF h H).get? b=some o):h.get? b=some o/\H b=none:=by
 have e':h.get? b=some o:=SS (trk h H) e;refine⟨e',?_⟩;cases q:H b with
 | none=>rfl
 | some x =>
  have hm:b∈trk h H:=List.mem_filter.mpr ⟨List.mem_range.mpr (aR e'),by simp [q]⟩;have z:(EF h H).get? b=none:=PySem.W.hideAll_none (trk h H) hm;rw [z] at e; cases e
def uB(g h:Heap)(L:Addr):List (Addr×Obj):=(fL h.objs.size).filterMap fun a=>if a=L\/(g.get? a).isSome=true then none else (h.get? a).map fun o=>(a,o)
def yK{g h:Heap}{L a:Addr}{o:Obj}(h1:a≠L)(h2:g.get? a=none)(h3:h.get? a=some o):(a,o)∈uB g h L :=
 List.mem_filterMap.mpr ⟨a,List.mem_range.mpr (aR h3),by simp [h1,h2,h3]⟩
theorem AQ{g h:Heap}{L:Addr}{p:Addr×Obj}(hp:p∈uB g h L):p.1≠L/\g.get? p.1=none/\h.get? p.1=some p.2:=by
 obtain⟨b,_,e⟩:=List.mem_filterMap.mp hp;split at e
 ·cases e
 ·rename_i hn;cases q:h.get? b with
  | none=>rw [q] at e; simp at e
  | some u =>
   rw [q] at e;simp only [vB,Nh] at e;subst e;refine⟨fun z=>hn (.inl z),?_,q⟩;show g.get? b=none;cases r:g.get? b with
   | none=>rfl
   | some v=>exact(hn (.inr (by simp [r]))).elim
def rest(g h:Heap)(L d:Addr):List (Addr×Obj):=(uB g h L).filter fun p=>decide (p.1≠d)
def GY{g h:Heap}{L:Addr}:News g L h (uB g h L):=fun p hp=>let ⟨a,b,c⟩:=AQ hp; ⟨c,a,b⟩
structure Mod(K:aj)(mg:Str->Option Value)(base:Heap):Prop where
 Uz:K.In base
 glob:base.Ns bz mg
 blt:∃ mb,base.Ns builtinsNs mb/\∀ x:Str,x≠"__name__"->mb x=eZ x
 nolimit:base.NoLimit
structure Cx where
 prog:bE
 w:World
 K:aj
 mg:Str->Option Value
 base:Heap
 A:cO
 N:List Str
 jk:ay
 OV:Hp
 env:Env
 outer:List Env
 stack:List Env
 ex:List Addr
 fn:Str->Bool
 calm:Bool
 pn:List (Addr×Obj)
 xe:Value->ay->Prop
def uL(l:List Env):List Addr:=l.filterMap (·.frame)
abbrev Cx.fs(X:Cx):List Addr:=uL X.outer
def Vis(sc:Scope)(x:Str):Prop:=sc.names.lookup x=some .local\/sc.names.lookup x=some .cell\/sc.names.lookup x=some .free
def Loc(sc:Scope)(x:Str):Prop:=sc.names.lookup x=some .local\/sc.names.lookup x=some .cell
def Look(env:Env)(h:Heap)(m:Str->Option Value)(x:Str)(u:Value):Prop :=
 (env.kindOf x=some .local/\m x=some u)\/((env.kindOf x=some .cell\/env.kindOf x=some .free)/\∃ c,env.cells.lookup x=some c/\h.IsCell c (some u))
structure Cx.Ok(X:Cx):Prop where
 mod:Mod X.K X.mg X.base
 kind:X.env.scope.kind=.function
 glob:X.env.globals=bz
 blt:X.env.builtins=builtinsNs
 above:X.jk.heap.objs.size<=X.env.locals
 inj:∀ x y c,X.env.cells.lookup x=some c->X.env.cells.lookup y=some c->x=y
 has:∀ x,(X.env.kindOf x=some .cell\/X.env.kindOf x=some .free)->∃ c,X.env.cells.lookup x=some c
 Yk:∀ x c,X.fn x=true->X.env.cells.lookup x=some c->X.jk.heap.objs.size<=c
 hd:X.calm=true->X.A.handled=none
 frames:X.A.frames=some X.stack
 YA:X.stack=X.outer\/(X.stack=X.env :: X.outer/\X.env.frame=some X.env.locals)
 ZN:∀ b∈X.ex,b≠X.env.locals/\∀ x c,X.env.cells.lookup x=some c->c≠b
 bs:∀ b o,X.base.get? b=some o->X.jk.heap.get? b=some o/\X.OV b=none
 Sk:X.base.objs.size<=X.jk.heap.objs.size
 J9:∀ b o,X.base.get? b=some o->b∉X.ex
 Oy:∀ b∈X.ex,b∉X.fs
 yd:X.jk.heap.FunFrames X.base X.outer
 Tf:∀ b∈X.fs,X.OV b=none
structure Inv(X:Cx)(pins:List (Addr×Obj))(σ:List (Option V))(H:Hp)(s:ay):Prop where
 ok:X.Ok
 os:s.os=X.jk.os
 bare:z8 s.gens
 base:Un X.fs X.ex X.OV H X.jk.heap s.heap
 loc:∃ m,s.heap.Ns X.env.locals m/\∀ (i:Nat) (x:Str) (v:V),X.N[i]?=some x->σ[i]?=some (some v)->Vis X.env.scope x->∃ u,RelV v u/\Look X.env s.heap m x u
 cell:∀ x c,X.env.cells.lookup x=some c->∃ v,s.heap.IsCell c v
 free:H X.env.locals=none
 jA:∀ x c,X.env.cells.lookup x=some c->H c=none
 pin:∀ p∈X.pn++pins,s.heap.get? p.1=some p.2/\H p.1=none/\p.1≠X.env.locals/\p.1∉X.fs/\∀ v,p.2.data≠.cell v
 b7:oE X.prog X.w H s.heap
 len:σ.length=X.N.length
section
variable {X:Cx} {pins:List (Addr×Obj)} {σ:List (Option V)} {H H':Hp} {s:ay} {h':Heap}
def Cx.Ok.abn(ok:X.Ok){b:Addr}{o:Obj}(e:X.base.get? b=some o):b∉X.fs:=fun hb=>by
 have:=(ok.yd.mem hb).1;rw [e] at this; cases this
theorem Inv.bs(I:Inv X pins σ H s):∀ b o,X.base.get? b=some o->s.heap.get? b=some o/\H b=none:=fun b o e =>
 ⟨I.base.keep b o (I.ok.bs b o e).1 (I.ok.bs b o e).2 (I.ok.abn e) (I.ok.J9 b o e),I.base.free b o (I.ok.bs b o e).1 (I.ok.bs b o e).2 (I.ok.J9 b o e)⟩
def Inv.bk(I:Inv X pins σ H s):∀ b o,X.base.get? b=some o->s.heap.get? b=some o:=fun b o e=>(I.bs b o e).1
def Inv.mod(I:Inv X pins σ H s):Mod X.K X.mg X.base:=I.ok.mod
def Inv.zF(I:Inv X pins σ H s):X.K.In s.heap:=I.ok.mod.Uz.keeps I.bk
def Inv.fr(I:Inv X pins σ H s):∃ m,Fr X.base X.env.locals s.heap m :=
 let ⟨m,hn,_⟩:=I.loc
 ⟨m,hn,I.bk,bc I.ok.Sk I.ok.above⟩
def Inv.lt(I:Inv X pins σ H s):X.env.locals < s.heap.objs.size:=let ⟨_,hn,_⟩:=I.loc; hn.lt
def Inv.sz(I:Inv X pins σ H s):X.jk.heap.objs.size<=s.heap.objs.size:=bc I.ok.above (Tn I.lt)
def Inv.abm(I:Inv X pins σ H s){a:Addr}(h:s.heap.objs.size<=a):a∉X.fs:=fun hb=>by
 obtain⟨_,o,ho,_⟩:=I.ok.yd.mem hb;exact absurd (bC (aR ho) (bc I.sz h)) (jh _)
theorem Inv.UT(I:Inv X pins σ H s):∀ x c,X.env.cells.lookup x=some c->c≠X.env.locals:=fun x c e z=>by
 obtain⟨v,o,ho,hd⟩:=I.cell x c e;obtain⟨m,⟨o',es,ep,FI,BZ,_⟩,_⟩:=I.loc;rw [z,FI] at ho; cases ho; rw [BZ] at hd; cases hd
theorem Inv.yd(I:Inv X pins σ H s):s.heap.FunFrames X.base X.outer:=by
 have all:∀ (l:List Env),(∀ b∈uL l,b∈X.fs)->X.jk.heap.FunFrames X.base l->s.heap.FunFrames X.base l:=by
  intro l;induction l with
  | nil=>intro _ _; trivial
  | cons env r ih =>
   intro hs hl;obtain⟨hk,⟨L,o,hf,hn,ho,hd⟩,hr⟩:=hl;have hL:L∈X.fs:=hs L (by unfold uL; rw [zt,hf]; exact bH);obtain⟨sl,e⟩:=I.base.slot L o ho (I.ok.Tf L hL) hL fun z=>I.ok.Oy L z hL;exact⟨hk,⟨L,_,hf,hn,e,hd⟩,ih (fun b hb=>hs b (by unfold uL; rw [zt,hf]; exact aG _ hb)) hr⟩
 exact all X.outer (fun _ hb=>hb) I.ok.yd
theorem Inv.stack(I:Inv X pins σ H s):s.heap.FunFrames X.base X.stack:=by
 rcases I.ok.YA with e | ⟨e,hf⟩
 ·rw [e]; exact I.yd
 ·rw [e];obtain⟨m,hn,_⟩:=I.loc;refine .cons (by rw [I.ok.kind]; decide) hf hn ?_ I.yd;exact Tq (bc I.ok.Sk I.ok.above)
theorem Inv.JM(I:Inv X pins σ H s):∀ b∈uL X.stack,b∈X.env.locals :: X.fs:=fun b hb=>by
 rcases I.ok.YA with e | ⟨e,hf⟩
 ·rw [e] at hb; exact aG _ hb
 ·rw [e] at hb;unfold uL at hb;rw [zt,hf] at hb;exact hb
theorem Inv.D4(I:Inv X pins σ H s):∀ b∈uL X.stack,H b=none:=fun b hb=>by
 rcases List.mem_cons.mp (I.JM b hb) with e | hb
 ·rw [e]; exact I.free
 ·obtain⟨_,o,ho,_⟩:=I.ok.yd.mem hb;exact I.base.free b o ho (I.ok.Tf b hb) fun z=>I.ok.Oy b z hb
theorem Inv.step{g':Array GenState}{t':Nat}{d':Drawn}{ch:List Addr}(I:Inv X pins σ H s)
  (Td:∀ b∈ch,(b∈X.ex\/X.jk.heap.objs.size<=b)/\b≠X.env.locals/\(∀ x c,X.env.cells.lookup x=some c->c≠b)/\∀ p∈X.pn++pins,p.1≠b)
  (keep:∀ b o,b≠X.env.locals->b∉X.fs->b∉ch->s.heap.get? b=some o->H b=none->h'.get? b=some o)
  (slot:∀ b o,b≠X.env.locals->b∈X.fs->b∉ch->s.heap.get? b=some o->H b=none->∃ sl,h'.get? b=some { o with slots:=sl }) (free:∀ b o,b∉ch->s.heap.get? b=some o->H b=none->H' b=none)
  (there:∀ b o,b∉ch->s.heap.get? b=some o->∃ o',h'.get? b=some o')
  (rP:∀ b xs,H b=some (.tup xs)->H' b=some (.tup xs)) (qN:∀ b o u,H b=some (.iN o u)->H' b=some (.iN o u)) (uH:∀ b q,H b=some (.TC q)->H' b=some (.TC q)) (uI:∀ b x,H b=some (.own x)->H' b=some (.own x))
  (ns:∀ m,s.heap.Ns X.env.locals m->h'.Ns X.env.locals m) (b7:oE X.prog X.w H' h') (hg:z8 g') :
  Inv X pins σ H' { s with heap:=h',gens:=g',drawn:=d',toks:=t' }:=by
 have neL:∀ b o,X.jk.heap.get? b=some o->b≠X.env.locals:=fun b o e=>bx (bC (aR e) I.ok.above);have neC:∀ b o,X.jk.heap.get? b=some o->b∉X.ex->b∉ch:=fun b o e hx hb=>by
  rcases (Td b hb).1 with z | z
  ·exact hx z
  ·exact absurd (bC (aR e) z) (jh _)
 have cellK:∀ x c,X.env.cells.lookup x=some c->∀ v,s.heap.IsCell c v->h'.IsCell c v:=fun x c e v ⟨o,ho,hd⟩=>by
  have Y3:c∉ch:=fun z=>(Td c z).2.2.1 x c e rfl;by_cases hc:c∈X.fs
  ·obtain⟨sl,q⟩:=slot c o (I.UT x c e) hc Y3 ho (I.jA x c e);exact⟨_,q,hd⟩
  ·exact⟨o,keep c o (I.UT x c e) hc Y3 ho (I.jA x c e),hd⟩
 refine⟨I.ok,I.os,hg,⟨fun b o e n hb hx=>?_,fun b o e n hb hx=>?_,fun b o e n hx=>?_,fun b o e hx=>?_,fun b xs e=>rP b xs (I.base.rP b xs e),fun b o xs e=>qN b o xs (I.base.qN b o xs e),fun b ps e=>?_,fun b x e=>uI b x (I.base.uI b x e)⟩,?_,fun x c e=>?_,?_,fun x c e=>?_,fun p hp=>?_,b7,I.len⟩
 ·exact keep b o (neL b o e) hb (neC b o e hx) (I.base.keep b o e n hb hx) (I.base.free b o e n hx)
 ·obtain⟨sl,e1⟩:=I.base.slot b o e n hb hx;obtain⟨sl',e2⟩:=slot b _ (neL b o e) hb (neC b o e hx) e1 (I.base.free b o e n hx);exact⟨sl',e2⟩
 ·obtain⟨o',e1⟩:=I.base.there b o e hx;exact free b o' (neC b o e hx) e1 (I.base.free b o e n hx)
 ·obtain⟨o',e1⟩:=I.base.there b o e hx;exact there b o' (neC b o e hx) e1
 ·exact uH b _ (I.base.uH b ps e)
 ·obtain⟨m,hn,hl⟩:=I.loc;refine⟨m,ns m hn,fun i x v e1 e2 e3=>?_⟩;obtain⟨u,r,l⟩:=hl i x v e1 e2 e3;refine⟨u,r,?_⟩;rcases l with l | ⟨k,c,e,z⟩
  ·exact .inl l
  ·exact .inr ⟨k,c,e,cellK x c e _ z⟩
 ·obtain⟨v,z⟩:=I.cell x c e;exact⟨v,cellK x c e v z⟩
 ·obtain⟨m,⟨o,_,_,ho,_⟩,_⟩:=I.loc;exact free _ o (fun z=>(Td _ z).2.1 rfl) ho I.free
 ·obtain⟨v,o,ho,hd⟩:=I.cell x c e;exact free c o (fun z=>(Td c z).2.2.1 x c e rfl) ho (I.jA x c e)
 ·obtain⟨e,n,ne,nf,d⟩:=I.pin p hp;have Y3:p.1∉ch:=fun z=>(Td p.1 z).2.2.2 p hp rfl;exact⟨keep p.1 p.2 ne nf Y3 e n,free p.1 p.2 Y3 e n,ne,nf,d⟩
theorem Inv.un{t':Nat}(I:Inv X pins σ H s)(u:Un X.fs [] H H' s.heap h')(b7:oE X.prog X.w H' h'):Inv X pins σ H' { s with heap:=h',toks:=t' }:=by
 obtain⟨m,⟨o,es,ep,ho,r⟩,_⟩:=id I.loc;obtain⟨sl,hL⟩:=u.any ho I.free (by simp);exact I.step (g':=s.gens) (d':=s.drawn) (ch:=[]) (fun _ z=>nomatch z) (fun b o _ hb _ e n=>u.keep b o e n hb (by simp)) (fun b o _ hb _ e n=>u.slot b o e n hb (by simp)) (fun b o _ e n=>u.free b o e n (by simp)) (fun b o _ e=>u.there b o e (by simp)) u.rP u.qN u.uH u.uI (fun m' hm=>by
  obtain⟨o',es',ep',FI,r'⟩:=hm;rw [ho] at FI; cases FI;exact⟨_,es',ep',hL,r'⟩) b7 I.bare
theorem Inv.call{g':Array GenState}{t':Nat}{d':Drawn}{ch:List Addr}(I:Inv X pins σ H s)(u:Un (uL X.stack) ch H H' s.heap h')(b7:oE X.prog X.w H' h')(hg:z8 g')
  (Td:∀ b∈ch,(b∈X.ex\/X.jk.heap.objs.size<=b)/\b≠X.env.locals/\(∀ x c,X.env.cells.lookup x=some c->c≠b)/\∀ p∈X.pn++pins,p.1≠b) :
  Inv X pins σ H' { s with heap:=h',gens:=g',drawn:=d',toks:=t' }:=by
 obtain⟨m,⟨o,es,ep,ho,r⟩,_⟩:=id I.loc;obtain⟨sl,hL⟩:=u.any ho I.free fun z=>(Td _ z).2.1 rfl;exact I.step (ch:=ch) Td (fun b o hL hb hc e n=>u.keep b o e n (fun z=>(List.mem_cons.mp (I.JM b z)).elim hL hb) hc) (fun b o _ _ hc e n=>u.any e n hc) (fun b o hc e n=>u.free b o e n hc) (fun b o hc e=>u.there b o e hc) u.rP u.qN u.uH u.uI (fun m' hm=>by
  obtain⟨o',es',ep',FI,r'⟩:=hm;rw [ho] at FI; cases FI;exact⟨_,es',ep',hL,r'⟩) b7 hg
theorem Inv.turned{t':Nat}{it:Addr}(I:Inv X pins σ H s)(k:∀ b o,b≠it->s.heap.get? b=some o->h'.get? b=some o)(hn:H it=none)(hL:it≠X.env.locals)
  (h1:it∈X.ex\/X.jk.heap.objs.size<=it) (h2:∀ x c,X.env.cells.lookup x=some c->c≠it) (h3:∀ p∈X.pn++pins,p.1≠it):Inv X pins σ H { s with heap:=h',toks:=t' }:=by
 have nit:∀ b u,H b=some u->b≠it:=fun b u e z=>by rw [z,hn] at e; cases e
 refine I.step (g':=s.gens) (d':=s.drawn) (ch:=[it]) (fun b hb=>?_) (fun b o _ _ hc e _=>k b o (fun z=>hc (by simp [z])) e) (fun b o _ _ hc e _=>⟨o.slots,k b o (fun z=>hc (by simp [z])) e⟩) (fun _ _ _ _ n=>n)
  (fun b o hc e=>⟨o,k b o (fun z=>hc (by simp [z])) e⟩) (fun _ _ e=>e) (fun _ _ _ e=>e) (fun _ _ e=>e) (fun _ _ e=>e) (fun m hm=>?_) (fun b u e=>?_) I.bare
 ·have e:b=it:=by simpa using hb
  subst e;exact⟨h1,hL,h2,h3⟩
 ·obtain⟨o,es,ep,ho,r⟩:=hm;exact⟨o,es,ep,k _ o (e7 hL) ho,r⟩
 ·refine(I.b7 b u e).jF (fun c v hc q=>k c v ?_ q) (fun _ q=>q) fun _ _ q=>q;rcases hc with z | z
  ·rw [z]; exact nit b u e
  ·exact nit c _ z
def Inv.tok(I:Inv X pins σ H s)(t:Nat):Inv X pins σ H { s with toks:=t }:=I.un (h':=s.heap) (t':=t) Un.refl I.b7
def Inv.kept{t':Nat}(I:Inv X pins σ H s)(k:∀ b u,s.heap.get? b=some u->h'.get? b=some u):Inv X pins σ H { s with heap:=h',toks:=t' }:=I.un (Un.kept k) (I.b7.kept k)
theorem Inv.laid{a:Addr}{o:HO}{t':Nat}(I:Inv X pins σ H s)(k:∀ b u,s.heap.get? b=some u->h'.get? b=some u)(hp:s.heap.objs.size<=a)(new:fE X.prog X.w (upd H a o) h' a o) :
  Inv X pins σ (upd H a o) { s with heap:=h',toks:=t' }:=I.un (Un.laid k hp (I.b7.fresh hp)) (I.b7.laid k hp new)
theorem Inv.write{x e:Addr}{o:HO}{t':Nat}(I:Inv X pins σ H s)(mu:Z8 (H x))(he:e=x\/H e=some (.own x))(k:∀ b u,b≠e->s.heap.get? b=some u->h'.get? b=some u)(Yh:∃ u,h'.get? e=some u)
  (new:fE X.prog X.w (upd H x o) h' x o):Inv X pins σ (upd H x o) { s with heap:=h',toks:=t' }:=I.un (Un.write mu he k Yh) (I.b7.write mu he k Yh new)
theorem Inv.Mf{Vs:List (Addr×Obj)}(I:Inv X pins σ H s)(h:∀ p∈Vs,s.heap.get? p.1=some p.2/\H p.1=none/\p.1≠X.env.locals/\p.1∉X.fs/\∀ v,p.2.data≠.cell v):Inv X Vs σ H s :=
 ⟨I.ok,I.os,I.bare,I.base,I.loc,I.cell,I.free,I.jA,fun p hp=>(List.mem_append.mp hp).elim (fun z=>I.pin p (oX _ z)) (h p),I.b7,I.len⟩
theorem AU{N:List Str}(hN:N.Nodup){i j:Nat}{x:Str}(a:N[i]?=some x)(b:N[j]?=some x):i=j:=by
 obtain⟨h1,e1⟩:=List.getElem?_eq_some_iff.mp a;obtain⟨h2,e2⟩:=List.getElem?_eq_some_iff.mp b;exact(List.getElem_inj hN).mp (e1.trans e2.symm)
theorem xG{M:Model}{A:cO}{E:Value->ay->Prop}{i:Nat}{x:Str}{v:V}{u:Value}{Q:Unit->ay->Prop}(I:Inv X pins σ H s)(hN:X.N.Nodup)(hi:X.N[i]?=some x)(hx:Loc X.env.scope x)(r:RelV v u)
  (h:∀ s',Inv X pins (σ.set i (some v)) H s'->(∃ a,fX a s.heap s'.heap/\(a=X.env.locals\/X.env.cells.lookup x=some a))->Q () s') (hf:autoParam (X.fn x=true\/X.env.scope.names.lookup x=some .local) Ao._auto_1):wpAny M A (storeName X.env x u) Q E s:=by
 obtain⟨m,hn,hl⟩:=id I.loc;have RE:(X.env.scope.kind == .class||(X.env.scope.kind == .module&&X.env.locals != X.env.globals))=false:=by rw [I.ok.kind]; rfl
 have Zw:i < σ.length:=by rw [I.len]; exact(List.getElem?_eq_some_iff.mp hi).1
 have UT:=I.UT;have tracked:∀ {a:Addr} {h':Heap},(∃ o,s.heap.get? a=some o/\H a=none)->fX a s.heap h'->oE X.prog X.w H h':=fun {a h'} ha hs b ob e=>by
  obtain⟨_,_,rF⟩:=ha;refine(I.b7 b ob e).jF (fun c w' hc q=>(hs.2 c ?_).trans q) (fun _ q=>q) fun _ _ q=>q;rintro rfl;rcases hc with rfl | hc
  ·rw [rF] at e; cases e
  ·rw [rF] at hc; cases hc
 rcases hx with hk | hk
 ·refine wpAny_storeName_local hk hn (fun h' VN hs=>?_) RE;obtain⟨oL,_,_,hoL,_⟩:=id hn;refine h _ ⟨I.ok,I.os,I.bare,⟨fun b o e n hb hx=>?_,fun b o e n hb hx=>?_,I.base.free,fun b o e hx=>?_,I.base.rP,I.base.qN,I.base.uH,I.base.uI⟩,⟨_,VN,fun j y v' e1 e2 e3=>?_⟩,fun y c e=>?_,I.free,I.jA,fun p hp=>?_,tracked ⟨oL,hoL,I.free⟩ hs,by simpa using I.len⟩ ⟨_,hs,.inl rfl⟩
  ·exact(hs.2 b (bx (bC (aR e) I.ok.above))).trans (I.base.keep b o e n hb hx)
  ·obtain⟨sl,e1⟩:=I.base.slot b o e n hb hx;exact⟨sl,(hs.2 b (bx (bC (aR e) I.ok.above))).trans e1⟩
  ·obtain⟨o',e1⟩:=I.base.there b o e hx;exact⟨o',(hs.2 b (bx (bC (aR e) I.ok.above))).trans e1⟩
  ·by_cases hj:j=i
   ·subst hj;rw [hi] at e1; cases e1;rw [cU Zw] at e2;cases e2;exact⟨u,r,.inl ⟨hk,by simp⟩⟩
   ·rw [cW (e7 hj)] at e2;obtain⟨u',r',q⟩:=hl j y v' e1 e2 e3;refine⟨u',r',?_⟩;rcases q with ⟨k,e⟩ | ⟨k,c,e,z⟩
    ·refine .inl ⟨k,?_⟩;have:y≠x:=fun e=>hj (AU hN e1 (e ▸ hi));simp [this,e]
    ·exact .inr ⟨k,c,e,z.sameBut hs (UT y c e)⟩
  ·obtain⟨w',z⟩:=I.cell y c e;exact⟨w',z.sameBut hs (UT y c e)⟩
  ·obtain⟨e,n,ne,nf,d⟩:=I.pin p hp;exact⟨(hs.2 p.1 ne).trans e,n,ne,nf,d⟩
 ·have hfn:X.fn x=true:=by
   rcases hf with z | z
   ·exact z
   ·rw [z] at hk; cases hk
  obtain⟨c,hc⟩:=I.ok.has x (.inl hk);obtain⟨w',z⟩:=I.cell x c hc;refine wpAny_storeName_cell I.ok.kind hk hc z (fun h' Pd hs=>?_);obtain⟨oc,Yg,ab5⟩:=id z;refine h { s with heap:=h' } ⟨I.ok,I.os,I.bare,⟨fun b o e n hb hx=>?_,fun b o e n hb hx=>?_,I.base.free,fun b o e hx=>?_,I.base.rP,I.base.qN,I.base.uH,I.base.uI⟩,⟨m,hn.sameBut hs (e7 (UT x c hc)),fun j y v' e1 e2 e3=>?_⟩,fun y c' e=>?_,I.free,I.jA,fun p hp=>?_,tracked ⟨oc,Yg,I.jA x c hc⟩ hs,by simpa using I.len⟩ ⟨c,hs,.inr hc⟩
  ·exact(hs.2 b (bx (bC (aR e) (I.ok.Yk x c hfn hc)))).trans (I.base.keep b o e n hb hx)
  ·obtain⟨sl,e1⟩:=I.base.slot b o e n hb hx;exact⟨sl,(hs.2 b (bx (bC (aR e) (I.ok.Yk x c hfn hc)))).trans e1⟩
  ·obtain⟨o',e1⟩:=I.base.there b o e hx;exact⟨o',(hs.2 b (bx (bC (aR e) (I.ok.Yk x c hfn hc)))).trans e1⟩
  ·by_cases hj:j=i
   ·subst hj;rw [hi] at e1; cases e1;rw [cU Zw] at e2;cases e2;exact⟨u,r,.inr ⟨.inl hk,c,hc,Pd⟩⟩
   ·rw [cW (e7 hj)] at e2;obtain⟨u',r',q⟩:=hl j y v' e1 e2 e3;refine⟨u',r',?_⟩;rcases q with q | ⟨k,c',e,z'⟩
    ·exact .inl q
    ·refine .inr ⟨k,c',e,z'.sameBut hs ?_⟩;rintro rfl;exact hj (AU hN e1 (I.ok.inj _ _ _ e hc ▸ hi))
  ·by_cases hcc:c'=c
   ·subst hcc; exact⟨_,Pd⟩
   ·obtain⟨w2,z2⟩:=I.cell y c' e;exact⟨w2,z2.sameBut hs hcc⟩
  ·obtain⟨e,n,ne,nf,d⟩:=I.pin p hp;refine⟨(hs.2 p.1 ?_).trans e,n,ne,nf,d⟩;intro q;rw [q,Yg] at e;have q':oc=p.2:=aZ e;exact d w' (by rw [<-q']; exact ab5)
theorem Gk{M:Model}{A:cO}{E:Value->ay->Prop}{i:Nat}{x:Str}{v:V}{u:Value}{Q:Unit->ay->Prop}(I:Inv X pins σ H s)(hN:X.N.Nodup)(hi:X.N[i]?=some x)(hx:Loc X.env.scope x)(r:RelV v u)
  (h:∀ s',Inv X pins (σ.set i (some v)) H s'->Q () s') (hf:autoParam (X.fn x=true\/X.env.scope.names.lookup x=some .local) Ao._auto_1):wpAny M A (storeName X.env x u) Q E s :=
 xG I hN hi hx r (fun s' I' _=>h s' I') hf
theorem Inv.V1{s':ay}{ch:List Addr}(I:Inv X pins σ H s)(ho:s'.os=s.os)(u:Un (uL X.stack) ch H H' s.heap s'.heap)(b7:oE X.prog X.w H' s'.heap)(hg:z8 s'.gens)
  (Td:∀ b∈ch,(b∈X.ex\/X.jk.heap.objs.size<=b)/\b≠X.env.locals/\(∀ x c,X.env.cells.lookup x=some c->c≠b)/\∀ p∈X.pn++pins,p.1≠b):Inv X pins σ H' s':=by
 obtain⟨h',g',d',t',o'⟩:=s';have e:o'=s.os:=ho;subst e;exact I.call (g':=g') (t':=t') (d':=d') u b7 hg Td
end
abbrev XK:=Value->Option Addr->Hp->Prop
abbrev St:=List (Option V)
abbrev VK:=V->Hp->Prop
abbrev TE:=St->Hp->VK->Prop
abbrev TT:=St->Hp->(Bool->Hp->Prop)->Prop
abbrev TA:=St->Hp->(List V->Hp->Prop)->Prop
structure Ends where
 nx:St->Hp->Prop
 rt:VK
 bk:St->Hp->Prop:=fun _ _=>False
 ct:St->Hp->Prop:=fun _ _=>False
abbrev TS:=Ends->St->Hp->Prop
def EP(X:Cx)(pins:List (Addr×Obj))(σ:St)(Q:VK)(u:Value)(s':ay):Prop:=∃ v H',Inv X pins σ H' s'/\RelV v u/\Q v H'
def TP(X:Cx)(pins:List (Addr×Obj))(σ:St)(Q:Bool->Hp->Prop)(b:Bool)(s':ay):Prop:=∃ H',Inv X pins σ H' s'/\Q b H'
def SP(X:Cx)(pins:List (Addr×Obj))(D:Ends)(f:Flow)(s':ay):Prop :=
 match f with
 | .next=>∃ kz H',Inv X pins kz H' s'/\D.nx kz H'
 | .brk=>∃ kz H',Inv X pins kz H' s'/\D.bk kz H'
 | .cont=>∃ kz H',Inv X pins kz H' s'/\D.ct kz H'
 | .ret u=>∃ v kz H',Inv X pins kz H' s'/\RelV v u/\D.rt v H'
def PE(X:Cx)(e:Expr)(t:TE):Prop :=
 ∀ (pins:List (Addr×Obj)) (s:ay) (σ:St) (H:Hp) (Q:VK),Inv X pins σ H s->t σ H Q->wpAny (model X.prog X.w) X.A (eval e X.env) (EP X pins σ Q) X.xe s
def Yn(X:Cx)(st:List Stmt)(t:TS):Prop :=
 ∀ (pins:List (Addr×Obj)) (s:ay) (σ:St) (H:Hp) (D:Ends),Inv X pins σ H s->t D σ H->wpAny (model X.prog X.w) X.A (execs st X.env) (SP X pins D) X.xe s
def hU{α:Type}{t:Sem α}{Q Q':α->ay->Prop}{M:Model}{A:cO}{E:Value->ay->Prop}{s:ay}(h:wpAny M A t Q E s)(hQ:∀ a s,Q a s->Q' a s):wpAny M A t Q' E s:=ly h hQ fun _ _ x=>x
section
variable {X:Cx}
def aaX(i:Nat):TE:=fun σ H Q=>∃ v,σ[i]?=some (some v)/\Q v H
def tC(v:V):TE:=fun _ H Q=>Q v H
theorem WM {i:Nat} {x:Str} {pos:Pos} (hN:X.N[i]?=some x) (hv:Vis X.env.scope x) (hd:autoParam ((x == ("__debug__" : Str))=false) Ad._auto_1) (Ja:autoParam ((x == ("__classdict__" : Str))=false) Ad._auto_1):PE X (.Name x pos) (aaX i):=by
 intro pins s σ H Q I h;obtain⟨v,e,h⟩:=h;obtain⟨m,hn,hl⟩:=I.loc;obtain⟨u,r,l⟩:=hl i x v hN e hv;have fin:EP X pins σ Q u s:=⟨v,H,I,r,h⟩;rcases l with ⟨hk,hm⟩ | ⟨hk,c,hc,rG⟩
 ·exact wpAny_Name (wpAny_loadName_local I.ok.kind hk hn hm fin) hd
 ·rcases hk with hk | hk
  ·exact wpAny_Name (wpAny_loadName_cell I.ok.kind hk hc rG fin) hd
  ·exact wpAny_Name (wpAny_loadName_free I.ok.kind hk hc rG fin Ja) hd
def WO{i j pos}:PE X (.Constant (.int i) j pos) (tC (.int i)):=fun _ _ _ H _ I h=>wpAny_Constant_int ⟨.int i,H,I.tok _,⟨_,rfl⟩,h⟩
def YS{b j pos}:PE X (.Constant (.bool b) j pos) (tC (.bl b)):=fun _ _ _ H _ I h=>Constant_bool ⟨.bl b,H,I,rfl,h⟩
def WN{x j pos}:PE X (.Constant (.str x) j pos) (tC (.str x)):=fun _ _ _ H _ I h=>Calls.Constant_str ⟨.str x,H,I.tok _,⟨_,rfl⟩,h⟩
def Gl(X:Cx)(x:Str):Prop:=X.env.kindOf x=some .globalImplicit
theorem nj{E:Value->ay->Prop}{pins:List (Addr×Obj)}{s:ay}{σ:St}{H:Hp}{x:Str}{u:Value}{pos:Pos}{Q:Value->ay->Prop}(I:Inv X pins σ H s)(hg:Gl X x)(hm:X.mg x=some u)(h:Q u s)
  (hd:autoParam ((x == ("__debug__" : Str))=false) Ad._auto_1):wpAny (model X.prog X.w) X.A (eval (.Name x pos) X.env) Q E s :=
 IS I.ok.kind hg (Calls.loadGlobal_global (by rw [I.ok.glob]; exact I.mod.glob.keeps I.bk) hm h) hd
theorem qK{E:Value->ay->Prop}{pins:List (Addr×Obj)}{s:ay}{σ:St}{H:Hp}{x:Str}{u:Value}{pos:Pos}{Q:Value->ay->Prop}(I:Inv X pins σ H s)(hg:Gl X x)(hm:X.mg x=none)(hv:eZ x=some u)(h:Q u s)
  (hn:autoParam (x≠"__name__") Ad._auto_1) (hd:autoParam ((x == ("__debug__" : Str))=false) Ad._auto_1):wpAny (model X.prog X.w) X.A (eval (.Name x pos) X.env) Q E s:=by
 obtain⟨mb,h1,h2⟩:=I.mod.blt;exact IS I.ok.kind hg (Calls.loadGlobal_builtin (by rw [I.ok.glob]; exact I.mod.glob.keeps I.bk) hm (by rw [I.ok.blt]; exact h1.keeps I.bk) ((h2 x hn).trans hv) h) hd
theorem T9 {x:Str} {v:V} {u:Value} {pos:Pos} (hg:Gl X x) (hm:X.mg x=some u) (r:RelV v u) (hd:autoParam ((x == ("__debug__" : Str))=false) Ad._auto_1):PE X (.Name x pos) (tC v) :=
 fun _ _ _ H _ I h=>nj I hg hm ⟨v,H,I,r,h⟩ hd
variable {a b:Expr} {ta tb:TE} {pos:Pos}
def tB(t:TE):TT:=fun σ H Q=>t σ H fun x H1=>∃ c,x=.bl c/\Q c H1
variable {tA tB':TT} {rest:List Expr}
end
def qb(K:aj)(H:Hp)(a:Addr)(xs:List V):Prop :=
 Rd H a (.lst xs) \/
  ∃ (o:Obj) (bL:Array Value) (n:Nat),K.lookup a=some o/\o.cls=.type "list"/\o.dict=none/\o.data=.seq bL n/\bL.size<=a8/\Vals xs bL.toList
def zL(K:aj)(H:Hp)(a:Addr)(xs:List V):Prop :=
 Rd H a (.tup xs) \/
  ∃ (o:Obj) (bL:Array Value) (n:Nat),K.lookup a=some o/\o.cls=.type "tuple"/\o.data=.seq bL n/\bL.size<=a8/\Vals xs bL.toList
def acS:Value->Option V
 | .none=>some .eT
 | .bool b=>some (.bl b)
 | .int i _=>some (.int i)
 | .str x _=>some (.str x)
 | .bytes b _=>some (.XR b)
 | .float b _=>some (.flt b)
 | .ref a=>some (.ref a)
 | .type n=>some (.ty n)
 | _=>none
theorem RelV.abs{x:V}{u:Value}(r:RelV x u):acS u=some x:=by
 cases x with
 | eT=>cases r; rfl
 | bl _=>cases r; rfl
 | int _=>obtain⟨t,rfl⟩:=r; rfl
 | str _=>obtain⟨t,rfl⟩:=r; rfl
 | XR _=>obtain⟨t,rfl⟩:=r; rfl
 | flt _=>obtain⟨t,rfl⟩:=r; rfl
 | ref _=>cases r; rfl
 | ty _=>cases r; rfl
def RelV.inj{x y:V}{u:Value}(r:RelV x u)(q:RelV y u):x=y:=aZ (r.abs.symm.trans q.abs)
theorem Vals.inj:∀ {xs ys:List V} {us:List Value},Vals xs us->Vals ys us->xs=ys:=by
 intro xs ys us h;induction h generalizing ys with
 | nil=>intro k; cases k; rfl
 | cons r t ih =>
  intro k;cases k with
  | cons r' t'=>rw [r.inj r',ih t']
section
variable {X:Cx} {pins:List (Addr×Obj)} {σ:St} {H:Hp} {s:ay} {a:Addr} {xs ys:List V}
def qb.of{K:aj}(h:H a=some (.lst xs)):qb K H a xs:=.inl (.inl h)
def zL.of{K:aj}(h:H a=some (.tup xs)):zL K H a xs:=.inl (.inl h)
theorem Inv.list(I:Inv X pins σ H s)(h:qb X.K H a xs):∃ bL:List Value,Vals xs bL/\PlainL s.heap a bL.toArray/\xs.length<=a8:=by
 rcases h with h | ⟨o,bL,n,hk,hc,hd,hs,hz,r⟩
 ·obtain⟨z,bL,n,r,e⟩:=h.ok I.b7;exact⟨bL,r,⟨_,n,e,rfl,rfl,rfl⟩,z⟩
 ·refine⟨bL.toList,r,⟨o,n,I.zF a o hk,hc,hd,by simpa using hs⟩,?_⟩;have e:=r.length;simp only [fK] at e;lia
theorem Inv.tuple(I:Inv X pins σ H s)(h:zL X.K H a xs):∃ bL:List Value,Vals xs bL/\IsTup s.heap a bL.toArray/\xs.length<=a8:=by
 rcases h with h | ⟨o,bL,n,hk,hc,hs,hz,r⟩
 ·obtain⟨z,bL,r,p⟩:=h.ok I.b7;exact⟨bL,r,p,z⟩
 ·refine⟨bL.toList,r,⟨o,I.zF a o hk,hc,n,by simpa using hs⟩,?_⟩;have e:=r.length;simp only [fK] at e;lia
theorem Inv.wx(I:Inv X pins σ H s)(h:qb X.K H a xs)(h':qb X.K H a ys):xs=ys:=by
 obtain⟨bL,r,⟨o,n,e,_,_,d⟩,_⟩:=I.list h;obtain⟨its',r',⟨o',n',e',_,_,d'⟩,_⟩:=I.list h';rw [e] at e'; cases e';rw [d] at d';injection d' with d1 _
 have:bL=its':=by simpa using congrArg Array.toList d1
 subst this;exact r.inj r'
theorem Inv.Nq(I:Inv X pins σ H s)(h:zL X.K H a xs)(h':zL X.K H a ys):xs=ys:=by
 obtain⟨bL,r,⟨o,e,_,n,d⟩,_⟩:=I.tuple h;obtain⟨its',r',⟨o',e',_,n',d'⟩,_⟩:=I.tuple h';rw [e] at e'; cases e';rw [d] at d';injection d' with d1 _
 have:bL=its':=by simpa using congrArg Array.toList d1
 subst this;exact r.inj r'
end
abbrev Cx.vL(X:Cx)(E:Value->ay->Prop):Cx:={ X with xe:=E }
abbrev Cx.W4(X:Cx):Cx:=X.vL fun _ _=>False
theorem Cx.Ok.vL{X:Cx}(ok:X.Ok)(E:Value->ay->Prop):(X.vL E).Ok :=
 ⟨ok.mod,ok.kind,ok.glob,ok.blt,ok.above,ok.inj,ok.has,ok.Yk,ok.hd,ok.frames,ok.YA,ok.ZN,ok.bs,ok.Sk,ok.J9,ok.Oy,ok.yd,ok.Tf⟩
theorem Cx.Ok.qj{X:Cx}{E:Value->ay->Prop}(ok:(X.vL E).Ok):X.Ok :=
 ⟨ok.mod,ok.kind,ok.glob,ok.blt,ok.above,ok.inj,ok.has,ok.Yk,ok.hd,ok.frames,ok.YA,ok.ZN,ok.bs,ok.Sk,ok.J9,ok.Oy,ok.yd,ok.Tf⟩
section
variable {X:Cx} {pins:List (Addr×Obj)} {σ:St} {H:Hp} {s:ay} {E:Value->ay->Prop}
def Inv.vL(I:Inv X pins σ H s)(E:Value->ay->Prop):Inv (X.vL E) pins σ H s:=⟨I.ok.vL E,I.os,I.bare,I.base,I.loc,I.cell,I.free,I.jA,I.pin,I.b7,I.len⟩
def Inv.qj(I:Inv (X.vL E) pins σ H s):Inv X pins σ H s:=⟨I.ok.qj,I.os,I.bare,I.base,I.loc,I.cell,I.free,I.jA,I.pin,I.b7,I.len⟩
theorem SP.qj{D:Ends}{f:Flow}{s':ay}(h:SP (X.vL E) pins D f s'):SP X pins D f s':=by
 cases f with
 | next=>obtain⟨kz,H',I,q⟩:=h; exact⟨kz,H',I.qj,q⟩
 | brk=>obtain⟨kz,H',I,q⟩:=h; exact⟨kz,H',I.qj,q⟩
 | cont=>obtain⟨kz,H',I,q⟩:=h; exact⟨kz,H',I.qj,q⟩
 | ret u=>obtain⟨v,kz,H',I,r,q⟩:=h; exact⟨v,kz,H',I.qj,r,q⟩
def Yn.W4{st:List Stmt}{t:TS}(h:Yn X.W4 st t):Yn X st t:=fun pins s σ H D I hw =>
 ly (h pins s σ H D (I.vL _) hw) (fun _ _ q=>q.qj) fun _ _ z=>bI z
end
section
variable {X:Cx} {st:Stmt} {rest:List Stmt} {t u:TS} {e:Expr} {te:TE} {pos:Pos}
def Inv.quiet{pins:List (Addr×Obj)}{σ:St}{H:Hp}{s:ay}(I:Inv X pins σ H s):interactive X.env=false:=by simp [interactive,I.ok.kind]
end
abbrev acU:=V->V->V->Hp->(Hp->Prop)->Prop
def acW(X:Cx)(t:acU):Prop :=
 ∀ (pins:List (Addr×Obj)) (s:ay) (σ:St) (H:Hp) (o i v:V) (ov iv u:Value) (Q:Hp->Prop),Inv X pins σ H s->RelV o ov->RelV i iv->RelV v u->t o i v H Q ->
  wpAny (model X.prog X.w) X.A (setItem ov iv u) (fun _ s'=>∃ H',Inv X pins σ H' s'/\Q H') X.xe s
structure It where
 go:Nat->Hp->Prop
 yld:Nat->Hp->V->Hp->Prop
 stop:Nat->Hp->Prop
def oF(X:Cx)(pins:List (Addr×Obj))(H:Hp)(b:Addr):Prop :=
 H b=none/\b≠X.env.locals/\b∉X.fs/\(b∈X.ex\/X.jk.heap.objs.size<=b)/\(∀ x c,X.env.cells.lookup x=some c->c≠b)/\∀ p∈X.pn++pins,p.1≠b
theorem Inv.Cf{X:Cx}{pins:List (Addr×Obj)}{σ:St}{H H':Hp}{s:ay}{b:Addr}(I:Inv X pins σ H s)(hb:s.heap.objs.size<=b)(hn:H' b=none):oF X pins H' b:=by
 refine⟨hn,Nat.ne_of_gt (bC I.lt hb),I.abm hb,.inr (bc I.sz hb),fun x c e z=>?_,fun p hp z=>?_⟩
 ·obtain⟨v,q⟩:=I.cell x c e;exact absurd (bC q.lt (by rw [z]; exact hb)) (jh _)
 ·exact absurd (bC (aR (I.pin p hp).1) (by rw [z]; exact hb)) (jh _)
structure Turn(P:bE)(w:World)(K:aj)(tg:Expr)(J:It)(fp:List Addr)(it:Addr)(tn:Nat->Heap->Prop):Prop where
 mem:it∈fp
 obj:∀ i h,tn i h->∀ b∈fp,∃ o,h.get? b=some o/\∀ v,o.data≠.cell v
 keep:∀ i h h',tn i h->(∀ b∈fp,∀ o,h.get? b=some o->h'.get? b=some o)->tn i h'
 item:∀ (X:Cx),X.prog=P->X.w=w->X.K=K->X.calm=true->∀ (i:Nat) (pins:List (Addr×Obj)) (s:ay) (σ:St) (H:Hp) (E:Value->ay->Prop),Inv X pins σ H s->(∀ b∈fp,oF X pins H b)->tn i s.heap->J.go i H ->
  wpAny (model P w) X.A (yt (.ref it)) (fun r s1=>∃ u,r=some u /\
   wpAny (model P w) X.A (zR tg (.ref it) u) (fun _ s2=>∃ x H',Inv X pins σ H' s2/\RelV x u/\J.yld i H x H'/\tn (i+1) s2.heap/\∀ b∈fp,H' b=none) E s1) E s
 done:∀ (X:Cx),X.prog=P->X.w=w->X.K=K->X.calm=true->∀ (i:Nat) (pins:List (Addr×Obj)) (s:ay) (σ:St) (H:Hp) (E:Value->ay->Prop),Inv X pins σ H s->(∀ b∈fp,oF X pins H b)->tn i s.heap->J.stop i H ->
  wpAny (model P w) X.A (yt (.ref it)) (fun r s1=>r=none/\Inv X pins σ H s1) E s
 self:∀ (A:cO) (i:Nat) (s:ay) (Q:Value->ay->Prop) (E:Value->ay->Prop),tn i s.heap->Q (.ref it) s->wpAny (model P w) A (FT (.ref it)) Q E s
abbrev TI:=St->Hp->(It->Hp->Prop)->Prop
def PIE(X:Cx)(pins:List (Addr×Obj))(σ:St)(tg:Expr)(R:It->Hp->Prop)(VE:Value)(s2:ay):Prop :=
 ∃ (it:Addr) (fp:List Addr) (tn:Nat->Heap->Prop) (J:It) (H':Hp),VE=.ref it/\Inv X pins σ H' s2/\Turn X.prog X.w X.K tg J fp it tn/\tn 0 s2.heap/\(∀ b∈fp,oF X pins H' b)/\R J H'
theorem MJ{M:Model}{A:cO}{E:Value->ay->Prop}{s:ay}{tg:Expr}{it:Addr}{u:Value}{o:Obj}{n:String}{vs:Array Value}{Q:Unit->ay->Prop}(ho:s.heap.get? it=some o)(hc:o.cls=.type n)(hd:o.data=.fields vs)
    (hn:["enumerate","zip","dict_itemiterator","dict_reverseitemiterator","odict_iterator","itertools.zip_longest","itertools.pairwise"].contains n=false) (hQ:Q () s):wpAny M A (zR tg (.ref it) u) Q E s:=by
  unfold zR;cases tg <;> first
    | exact aA hQ
    | (cases u <;> first
        | exact aA hQ
        | (refine ag (wpAny_load ho ?_)
           rw [hc,hd];show wpAny M A (if (["enumerate","zip","dict_itemiterator","dict_reverseitemiterator","odict_iterator","itertools.zip_longest","itertools.pairwise"].contains n&&vs[0]? == some (yr _))=true then _ else _) Q E s;rw [if_neg (by intro h; rw [hn,yZ] at h; cases h)];exact aA hQ))
def Itl(K:aj)(a:Addr):It :=
 ⟨fun i H=>∃ xs x,qb K H a xs/\xs[i]?=some x,fun i H x H'=>H'=H/\∀ xs,qb K H a xs->xs[i]?=some x,fun i H=>∃ xs,qb K H a xs/\xs.length<=i⟩
def Itt(K:aj)(a:Addr):It :=
 ⟨fun i H=>∃ xs x,zL K H a xs/\xs[i]?=some x,fun i H x H'=>H'=H/\∀ xs,zL K H a xs->xs[i]?=some x,fun i H=>∃ xs,zL K H a xs/\xs.length<=i⟩
def Itr(lo:Int)(n:Nat):It:=⟨fun i _=>i < n,fun i H x H'=>H'=H/\x=.int (lo+i),fun i _=>n<=i⟩
theorem Nl{P:bE}{w:World}{K:aj}{tg:Expr}(a it:Addr):Turn P w K tg (Itl K a) [it] it (fun i h=>h.IsListIter it a i) where
 mem:=by simp
 obj:=fun i h st b hb=>by
  have e:b=it:=by simpa using hb
  subst e;obtain⟨o,e,c,d⟩:=st;exact⟨o,e,fun v z=>by rw [d] at z; cases z⟩
 keep:=fun i h h' st k=>st.at fun o e=>k it (by simp) o e
 item:=by
  intro X hP hw hK hc i pins s σ H E I hf st hg;subst hP hw hK;obtain⟨xs,x,hq,hx⟩:=hg;obtain⟨bL,rv,p,hz⟩:=I.list hq;obtain⟨u,hu,ru⟩:=rv.get hx;obtain⟨f0,f1,f2,f3,f4,f5⟩:=hf it (by simp);refine wpAny_pyNext_list_item st p.isList (x:=u) (by simpa using hu) fun h' B5 sb=>?_;have I1:Inv X pins σ H { s with heap:=h' }:=I.turned (t':=s.toks) (fun b o hb e=>(sb.2 b hb).trans e) f0 f1 f3 f4 f5;obtain⟨o,e,c,d⟩:=id B5;exact⟨u,rfl,MJ (s:={ s with heap:=h' }) e c d (by decide) ⟨x,H,I1,ru,⟨rfl,fun ys hy=>by rw [I.wx hy hq]; exact hx⟩,B5,fun b hb=>(hf b hb).1⟩⟩
 done:=by
  intro X hP hw hK hc i pins s σ H E I hf st hg;subst hP hw hK;obtain⟨xs,hq,hx⟩:=hg;obtain⟨bL,rv,p,hz⟩:=I.list hq;obtain⟨f0,f1,f2,f3,f4,f5⟩:=hf it (by simp);have hl:=rv.length;exact wpAny_pyNext_list_end (I.ok.hd hc) st p.isList (by simp; lia) fun h' eb=>⟨rfl,I.turned (t':=s.toks) (fun b o hb e=>eb b o hb e) f0 f1 f3 f4 f5⟩
 self:=fun _ _ _ _ _ st h=>wpAny_pyIter_listiter st h
theorem JA{P:bE}{w:World}{K:aj}{tg:Expr}(a it:Addr):Turn P w K tg (Itt K a) [it] it (fun i h=>h.IsTupleIter it a i) where
 mem:=by simp
 obj:=fun i h st b hb=>by
  have e:b=it:=by simpa using hb
  subst e;obtain⟨o,e,c,d⟩:=st;exact⟨o,e,fun v z=>by rw [d] at z; cases z⟩
 keep:=fun i h h' st k=>st.at fun o e=>k it (by simp) o e
 item:=by
  intro X hP hw hK hc i pins s σ H E I hf st hg;subst hP hw hK;obtain⟨xs,x,hq,hx⟩:=hg;obtain⟨bL,rv,p,hz⟩:=I.tuple hq;obtain⟨u,hu,ru⟩:=rv.get hx;obtain⟨f0,f1,f2,f3,f4,f5⟩:=hf it (by simp);refine wpAny_pyNext_tuple_item st (show s.heap.IsTuple a bL.toArray from p) (x:=u) (by simpa using hu) fun h' B5 sb=>?_;have I1:Inv X pins σ H { s with heap:=h' }:=I.turned (t':=s.toks) (fun b o hb e=>(sb.2 b hb).trans e) f0 f1 f3 f4 f5;obtain⟨o,e,c,d⟩:=id B5;exact⟨u,rfl,MJ (s:={ s with heap:=h' }) e c d (by decide) ⟨x,H,I1,ru,⟨rfl,fun ys hy=>by rw [I.Nq hy hq]; exact hx⟩,B5,fun b hb=>(hf b hb).1⟩⟩
 done:=by
  intro X hP hw hK hc i pins s σ H E I hf st hg;subst hP hw hK;obtain⟨xs,hq,hx⟩:=hg;obtain⟨bL,rv,p,hz⟩:=I.tuple hq;obtain⟨f0,f1,f2,f3,f4,f5⟩:=hf it (by simp);have hl:=rv.length;exact wpAny_pyNext_tuple_end (I.ok.hd hc) st (show s.heap.IsTuple a bL.toArray from p) (by simp; lia) fun h' eb=>⟨rfl,I.turned (t':=s.toks) (fun b o hb e=>eb b o hb e) f0 f1 f3 f4 f5⟩
 self:=fun _ _ _ _ _ st h=>wpAny_pyIter_tupleiter st h
theorem JC{P:bE}{w:World}{K:aj}{tg:Expr}(it:Addr)(lo:Int)(n:Nat):Turn P w K tg (Itr lo n) [it] it (fun i h=>IsRangeIter h it (lo+(i:Nat) * 1) ((n:Int) - (i:Nat)) 1) where
 mem:=by simp
 obj:=fun i h st b hb=>by
  have e:b=it:=by simpa using hb
  subst e;exact⟨_,st,fun v z=>by
   have z':Data.fields _=Data.cell v:=z;cases z'⟩
 keep:=fun i h h' st k=>k it (by simp) _ st
 item:=by
  intro X hP hw hK hc i pins s σ H E I hf st hg;subst hP hw hK;obtain⟨f0,f1,f2,f3,f4,f5⟩:=hf it (by simp);have W:=Walks.range (prog:=X.prog) (w:=X.w) (I.ok.hd hc) it lo 1 n;refine W.item i s _ _ hg st fun v h' tk hv B5 kk=>?_;obtain⟨t,rfl⟩:=hv;have I1:Inv X pins σ H { s with heap:=h',toks:=tk }:=I.turned (fun b o hb e=>kk b o (by simpa using hb) e) f0 f1 f3 f4 f5;refine⟨_,rfl,MJ (s:={ s with heap:=h',toks:=tk }) (n:="range_iterator") B5 rfl rfl (by decide) ⟨.int (lo+i),H,I1,⟨t,?_⟩,⟨rfl,rfl⟩,B5,fun b hb=>(hf b hb).1⟩⟩;rw [Int.mul_one]
 done:=by
  intro X hP hw hK hc i pins s σ H E I hf st hg;subst hP hw hK;obtain⟨f0,f1,f2,f3,f4,f5⟩:=hf it (by simp);exact wpAny_pyNext_range_end (I.ok.hd hc) st (by have:n<=i:=hg; lia) fun h' eb=>⟨rfl,I.turned (t':=s.toks) (fun b o hb e=>eb b o hb e) f0 f1 f3 f4 f5⟩
 self:=fun _ _ _ _ _ st h=>wpAny_pyIter_rangeiter st h
section
variable {X:Cx} {tg:Expr}
theorem Qe{pins:List (Addr×Obj)}{σ:St}{H:Hp}{s:ay}{R:It->Hp->Prop}{E:Value->ay->Prop}{lo hi:Int}{t u v:Tok}{tk:Nat}(I:Inv X pins σ H s)(h1:-(2 ^ 62)<=lo)(h2:lo < 2 ^ 62)(h3:-(2 ^ 62)<=hi)(h4:hi < 2 ^ 62)
  (q:R (Itr lo (hi - lo).toNat) H):wpAny (model X.prog X.w) X.A (FT (.ref s.heap.objs.size)) (PIE X pins σ tg R) E { s with heap:=s.heap.push { cls:=.type "range",data:=.fields #[.int lo t,.int hi u,.int 1 v] },toks:=tk }:=by
 refine wpAny_pyIter_range (IsRange.new ..) (small_one h1 h2 h3 h4) ?_;have I1:Inv X pins σ H { s with heap:=s.heap.push { cls:=.type "range",data:=.fields #[.int lo t,.int hi u,.int 1 v] },toks:=tk }:=I.kept fun b o e=>aF _ e
 refine⟨(s.heap.push { cls:=.type "range",data:=.fields #[.int lo t,.int hi u,.int 1 v] }).objs.size,[(s.heap.push { cls:=.type "range",data:=.fields #[.int lo t,.int hi u,.int 1 v] }).objs.size],_,_,H,rfl,
  I1.kept (t':=tk) fun b o e=>aF _ e,JC _ lo (hi - lo).toNat,?_,fun b hb=>?_,q⟩
 ·have e1:lo+((0:Nat):Int) * 1=lo:=by simp
  have e2:(((hi - lo).toNat:Nat):Int) - ((0:Nat):Int)=Builtin.Range.rangeSize lo hi 1:=by rw [rangeSize_one]; split <;> lia
  show IsRangeIter _ _ (lo+((0:Nat):Int) * 1) ((((hi - lo).toNat:Nat):Int) - ((0:Nat):Int)) 1;rw [e1,e2];exact a9 _ rfl
 ·have e:b=(s.heap.push { cls:=.type "range",data:=.fields #[.int lo t,.int hi u,.int 1 v] }).objs.size:=by simpa using hb
  subst e;exact I1.Cf (aE _) (I1.b7.fresh (aE _))
def sX(fp:List Addr)(h:Heap):List (Addr×Obj):=fp.filterMap fun b=>(h.get? b).map fun o=>(b,o)
def qF{fp:List Addr}{h:Heap}{b:Addr}{o:Obj}(hb:b∈fp)(e:h.get? b=some o):(b,o)∈sX fp h:=List.mem_filterMap.mpr ⟨b,hb,by rw [e]; rfl⟩
theorem NS{fp:List Addr}{h:Heap}{p:Addr×Obj}(hp:p∈sX fp h):p.1∈fp/\h.get? p.1=some p.2:=by
 obtain⟨b,hb,e⟩:=List.mem_filterMap.mp hp;cases q:h.get? b with
 | none=>rw [q] at e; cases e
 | some o =>
  rw [q] at e;have e':(b,o)=p:=aZ e;subst e';exact⟨hb,q⟩
theorem Inv.pinned{pins:List (Addr×Obj)}{σ:St}{H:Hp}{s:ay}{fp:List Addr}(I:Inv X pins σ H s)(hf:∀ b∈fp,oF X pins H b)(ho:∀ b∈fp,∃ o,s.heap.get? b=some o/\∀ v,o.data≠.cell v):Inv X (pins++sX fp s.heap) σ H s :=
 I.Mf fun p hp=>(List.mem_append.mp hp).elim (fun z=>I.pin p (dj _ z)) fun z=>by
  obtain⟨hb,e⟩:=NS z;obtain⟨f0,f1,f2,_⟩:=hf p.1 hb;obtain⟨o,e',d⟩:=ho p.1 hb;rw [e] at e'; cases e';exact⟨e,f0,f1,f2,d⟩
def Inv.vM{pins pl:List (Addr×Obj)}{σ:St}{H:Hp}{s:ay}(I:Inv X (pins++pl) σ H s):Inv X pins σ H s:=I.Mf fun p hp=>I.pin p (dj _ (oX _ hp))
end
abbrev R2:=V->V->Hp->VK->Prop
def M5(X:Cx)(f:Value->Value->Sem Value)(r:R2):Prop :=
 ∀ (pins:List (Addr×Obj)) (s:ay) (σ:St) (H:Hp) (x y:V) (v u:Value) (Q:VK),Inv X pins σ H s->RelV x v->RelV y u->r x y H Q ->
  wpAny (model X.prog X.w) X.A (f v u) (EP X pins σ Q) X.xe s
def UnR(X:Cx)(f:Value->Sem Value)(r:V->Hp->VK->Prop):Prop :=
 ∀ (pins:List (Addr×Obj)) (s:ay) (σ:St) (H:Hp) (x:V) (v:Value) (Q:VK),Inv X pins σ H s->RelV x v->r x H Q ->
  wpAny (model X.prog X.w) X.A (f v) (EP X pins σ Q) X.xe s
def SM(X:Cx)(f:Value)(r:List V->Hp->VK->Prop):Prop :=
 ∀ (pins:List (Addr×Obj)) (s:ay) (σ:St) (H:Hp) (xs:List V) (us:List Value) (Q:VK),Inv X pins σ H s->Vals xs us->r xs H Q ->
  wpAny (model X.prog X.w) X.A (call f us) (EP X pins σ Q) X.xe s
def acT(X:Cx)(r:V->Hp->(Bool->Hp->Prop)->Prop):Prop :=
 ∀ (pins:List (Addr×Obj)) (s:ay) (σ:St) (H:Hp) (x:V) (v:Value) (Q:Bool->Hp->Prop),Inv X pins σ H s->RelV x v->r x H Q ->
  wpAny (model X.prog X.w) X.A (truthy v) (TP X pins σ Q) X.xe s
def rI(C:Int->Int->Prop)(g:Int->Int->V):R2:=fun x y H Q=>∃ i j,x=.int i/\y=.int j/\C i j/\Q (g i j) H
def X7(g:Int->Int->V):R2:=fun x y H Q=>∃ i j,x=.int i/\y=.int j/\Q (g i j) H
def rU(g:Int->V):V->Hp->VK->Prop:=fun x H Q=>∃ i,x=.int i/\Q (g i) H
section
variable {X:Cx} {a b c:Expr} {ta tb tc:TE} {pos:Pos}
theorem opI{f:Value->Value->Sem Value}{C:Int->Int->Prop}{g:Int->Int->Int}
  (rule:∀ (i j:Int) (t u:Tok) (s:ay) (Q:Value->ay->Prop) (E:Value->ay->Prop),C i j->Q (.int (g i j) s.toks) { s with toks:=s.toks+1 }->wpAny (model X.prog X.w) X.A (f (.int i t) (.int j u)) Q E s) :
  M5 X f (rI C fun i j=>.int (g i j)):=by
 intro pins s σ H x y v u Q I rx ry h;obtain⟨i,j,rfl,rfl,hc,q⟩:=h;obtain⟨t,rfl⟩:=rx;obtain⟨t',rfl⟩:=ry;exact rule i j t t' s _ _ hc ⟨.int (g i j),H,I.tok _,⟨_,rfl⟩,q⟩
theorem YV{f:Value->Value->Sem Value}{g:Int->Int->Int}
  (rule:∀ (i j:Int) (t u:Tok) (s:ay) (Q:Value->ay->Prop) (E:Value->ay->Prop),Q (.int (g i j) s.toks) { s with toks:=s.toks+1 }->wpAny (model X.prog X.w) X.A (f (.int i t) (.int j u)) Q E s) :
  M5 X f (X7 fun i j=>.int (g i j)):=by
 intro pins s σ H x y v u Q I rx ry h;obtain⟨i,j,rfl,rfl,q⟩:=h;obtain⟨t,rfl⟩:=rx;obtain⟨t',rfl⟩:=ry;exact rule i j t t' s _ _ ⟨.int (g i j),H,I.tok _,⟨_,rfl⟩,q⟩
theorem YW{f:Value->Value->Sem Value}{g:Int->Int->Bool}
  (rule:∀ (i j:Int) (t u:Tok) (s:ay) (Q:Value->ay->Prop) (E:Value->ay->Prop),Q (.bool (g i j)) s->wpAny (model X.prog X.w) X.A (f (.int i t) (.int j u)) Q E s) :
  M5 X f (X7 fun i j=>.bl (g i j)):=by
 intro pins s σ H x y v u Q I rx ry h;obtain⟨i,j,rfl,rfl,q⟩:=h;obtain⟨t,rfl⟩:=rx;obtain⟨t',rfl⟩:=ry;exact rule i j t t' s _ _ ⟨.bl (g i j),H,I,rfl,q⟩
def ac5(i j:Int):Prop:=0 < j/\j < 1073741824
def X3(i j:Int):Prop:=(-(2 ^ 64) < i/\i < 2 ^ 64)\/(-(2 ^ 64) < j/\j < 2 ^ 64)
def X3.ok{i j:Int}(h:X3 i j):IntMulOk i j:=by
 rcases h with ⟨h1,h2⟩ | ⟨h1,h2⟩
 ·exact .of_left (intBits_le_64 h1 h2)
 ·exact .of_right (intBits_le_64 h1 h2)
def WY:M5 X (jU .Add) (X7 fun i j=>.int (i+j)):=YV fun _ _ _ _ _ _ _ q=>add_int q
def WU:M5 X (jU .Sub) (X7 fun i j=>.int (i - j)):=YV fun _ _ _ _ _ _ _ q=>sub_int q
def WV:M5 X (jU .Mult) (rI X3 fun i j=>.int (i * j)):=opI fun _ _ _ _ _ _ _ hc q=>mul_int q hc.ok
theorem Uh:M5 X (jU .FloorDiv) (rI ac5 fun i j=>.int (i / j)):=opI fun i j _ _ _ _ _ hc q=>by
 have h1:(0:Int) < j:=hc.1;have h2:j < 1073741824:=hc.2;exact floordiv_int (by lia) (by rw [Int.fdiv_eq_ediv_of_nonneg i (by lia)]; exact q) (.inl (PyProof.noPylong_small (by lia)))
theorem WW:M5 X (jU .Mod) (rI (fun _ j=>0 < j) fun i j=>.int (i % j)):=opI fun i j _ _ _ _ _ hc q=>by
 have h1:(0:Int) < j:=hc;exact mod_int' (by lia) (by rw [Int.fmod_eq_emod_of_nonneg i (by lia)]; exact q)
theorem unI{f:Value->Sem Value}{g:Int->Int}
  (rule:∀ (i:Int) (t:Tok) (s:ay) (Q:Value->ay->Prop) (E:Value->ay->Prop),Q (.int (g i) s.toks) { s with toks:=s.toks+1 }->wpAny (model X.prog X.w) X.A (f (.int i t)) Q E s) :
  UnR X f (rU fun i=>.int (g i)):=by
 intro pins s σ H x v Q I rx h;obtain⟨i,rfl,q⟩:=h;obtain⟨t,rfl⟩:=rx;exact rule i t s _ _ ⟨.int (g i),H,I.tok _,⟨_,rfl⟩,q⟩
def Wg:UnR X (unaryOp .USub) (rU fun i=>.int (-i)):=unI fun _ _ _ _ _ q=>neg_int q
end
section
variable {X:Cx} {a b c:Expr} {ta tb tc:TE} {pos:Pos}
def YT:M5 X (eU .Lt) (X7 fun i j=>.bl (decide (i < j))):=YW fun _ _ _ _ _ _ _ q=>lt_int q
def YU:M5 X (eU .Gt) (X7 fun i j=>.bl (decide (j < i))):=YW fun _ _ _ _ _ _ _ q=>gt_int q
theorem fm(b:Expr){op:CmpOp}(h:autoParam (op≠.In) Ad._auto_1)(h2:autoParam (op≠.NotIn) Ad._auto_1):behindInMarks op b=false:=by
 have e1:(op == CmpOp.In)=false:=by cases op <;> first | rfl | exact absurd rfl h
 have e2:(op == CmpOp.NotIn)=false:=by cases op <;> first | rfl | exact absurd rfl h2
 cases b with
 | Set es k _ =>
  show (k == 0&&(op == .In||op == .NotIn)&&es.all (constantsAlone 8))=false;rw [e1,e2,Bool.or_false,LF,yZ]
 | _=>rfl
def XZ(K:aj)(x:V)(H:Hp)(k:Bool):Prop :=
 match x with
 | .eT=>k=false
 | .bl b=>k=b
 | .int i=>k=(i != 0)
 | .str y=>y.length<=a8/\k=((y.length:Int) != 0)
 | .XR y=>y.size<=a8/\k=((y.size:Int) != 0)
 | .ref p=>(∃ xs,qb K H p xs/\k=!xs.isEmpty)\/(∃ xs,zL K H p xs/\k=!xs.isEmpty)\/∃ kvs,H p=some (.dK kvs)/\k=!kvs.isEmpty
 | _=>False
def Ks{κ:Type}{kvs:List (κ×V)}{vs:List (κ×Value)}(r:KV kvs vs):(!vs.isEmpty)=!kvs.isEmpty:=by
 cases r <;> rfl
def A9{xs:List V}{bL:List Value}(r:Vals xs bL):(!bL.toArray.isEmpty)=!xs.isEmpty:=by
 cases r <;> simp
def A4:(a8:Nat) < 2 ^ 63:=by rw [cD]; decide
theorem Wk:acT X (fun x H Q=>∃ k,XZ X.K x H k/\Q k H):=by
 intro pins s σ H x v Q I rx h;obtain⟨k,e,q⟩:=h;have hl:=A4;have hs:a8=16777216:=cD;cases x with
 | eT =>
  cases rx;have e':k=false:=e;subst e';exact truthy_none ⟨H,I,q⟩
 | bl b =>
  cases rx;have e':k=b:=e;subst e';exact oS ⟨H,I,q⟩
 | int i =>
  obtain⟨t,rfl⟩:=rx;have e':k=(i != 0):=e;subst e';exact PySem.P.truthy_int ⟨H,I,q⟩
 | str y =>
  obtain⟨t,rfl⟩:=rx;obtain⟨hy,e'⟩:y.length<=a8/\k=((y.length:Int) != 0):=e;subst e';exact PySem.P.truthy_str (by lia) ⟨H,I.tok _,q⟩
 | XR y =>
  obtain⟨t,rfl⟩:=rx;obtain⟨hy,e'⟩:y.size<=a8/\k=((y.size:Int) != 0):=e;subst e';exact PySem.W.truthy_bytes (by lia) ⟨H,I.tok _,q⟩
 | ref p =>
  cases rx;have e':(∃ xs,qb X.K H p xs/\k=!xs.isEmpty)\/(∃ xs,zL X.K H p xs/\k=!xs.isEmpty)\/∃ kvs,H p=some (.dK kvs)/\k=!kvs.isEmpty:=e;rcases e' with ⟨xs,hx,e'⟩ | ⟨xs,hx,e'⟩ | ⟨kvs,hx,e'⟩
  ·subst e';obtain⟨bL,r,pl,hz⟩:=I.list hx;have hlen:=r.length;exact wpAny_truthy_list pl.isList (by simp only [aW]; lia) ⟨H,I.tok _,by rw [A9 r]; exact q⟩
  ·subst e';obtain⟨bL,r,pl,hz⟩:=I.tuple hx;have hlen:=r.length;exact truthy_tuple pl (by simp only [aW]; lia) ⟨H,I.tok _,by rw [A9 r]; exact q⟩
  ·subst e';obtain⟨hz,hS,vs,r,m⟩:kvs.length<=a8/\(p == dh)=false/\∃ vs,KV kvs vs/\s.heap.DictOf (cJ X.prog X.w) p vs:=I.b7 p _ hx;have hlen:kvs.length=vs.length:=i9 r;exact Jc hS m (by lia) ⟨H,I.tok _,by rw [Ks r]; exact q⟩
 | _=>exact(show False from e).elim
theorem J4:M5 X (jU .Add) (fun x y H Q=>∃ i j,x=.str i/\y=.str j/\i.length+j.length<=a8/\Q (.str (i++j)) H):=by
 intro pins s σ H x y v u Q I rx ry h;obtain⟨i,j,rfl,rfl,hz,q⟩:=h;obtain⟨t,rfl⟩:=rx;obtain⟨t',rfl⟩:=ry;exact add_str (fun t' tk=>⟨.str (i++j),H,I.tok _,⟨_,rfl⟩,q⟩) hz
def vals1{x:V}{us:List Value}(r:Vals [x] us):∃ u,us=[u]/\RelV x u:=by
 cases r with
 | cons r1 r2=>cases r2; exact⟨_,rfl,r1⟩
def vals2{x y:V}{us:List Value}(r:Vals [x,y] us):∃ u w',us=[u,w']/\RelV x u/\RelV y w':=by
 cases r with
 | cons r1 r2 =>
  cases r2 with
  | cons r3 r4=>cases r4; exact⟨_,_,rfl,r1,r3⟩
def Z9(K:aj)(x:V)(H:Hp)(n:Nat):Prop :=
 match x with
 | .str y=>y.length<=a8/\n=y.length
 | .XR y=>y.size<=a8/\n=y.size
 | .ref p=>(∃ xs,qb K H p xs/\n=xs.length)\/∃ xs,zL K H p xs/\n=xs.length
 | _=>False
theorem R7:SM X (.builtin "len") (fun xs H Q=>∃ x n,xs=[x]/\Z9 X.K x H n/\Q (.int n) H):=by
 intro pins s σ H xs us Q I r h;obtain⟨x,n,rfl,e,q⟩:=h;obtain⟨u,rfl,rx⟩:=vals1 r;have hl:=A4;have hs:a8=16777216:=cD;cases x with
 | str y =>
  obtain⟨t,rfl⟩:=rx;obtain⟨hy,e'⟩:y.length<=a8/\n=y.length:=e;subst e';exact len_str (by lia) ⟨.int _,H,I.tok _,⟨_,rfl⟩,q⟩
 | XR y =>
  obtain⟨t,rfl⟩:=rx;obtain⟨hy,e'⟩:y.size<=a8/\n=y.size:=e;subst e';exact PySem.W.len_bytes (by lia) ⟨.int _,H,I.tok _,⟨_,rfl⟩,q⟩
 | ref p =>
  cases rx;have e':(∃ xs,qb X.K H p xs/\n=xs.length)\/∃ xs,zL X.K H p xs/\n=xs.length:=e;rcases e' with ⟨xs,hx,e'⟩ | ⟨xs,hx,e'⟩
  ·subst e';obtain⟨bL,r',pl,hz⟩:=I.list hx;have hlen:=r'.length;exact Calls.call_len_list pl.isList (by simp only [aW]; lia) ⟨.int xs.length,H,I.tok _,⟨_,by simp only [aW]; rw [hlen]⟩,q⟩
  ·subst e';obtain⟨bL,r',pl,hz⟩:=I.tuple hx;have hlen:=r'.length;exact len_tuple pl (by simp only [aW]; lia) ⟨.int xs.length,H,I.tok _,⟨_,by simp only [aW]; rw [hlen]⟩,q⟩
 | _=>exact(show False from e).elim
end
def yq.some_of{v:V}{o:Option Value}(r:yq (some v) o):∃ u,o=some u/\RelV v u:=by
 cases o with
 | none=>exact(show False from r).elim
 | some u=>exact⟨u,rfl,r⟩
structure kM(k:Nat)(A:cO):Prop where
 hd:A.handled=none
 dp:A.depth+3 * k+5 < recursionLimit
 un:A.units+16 * k+200 < cLine
def kM.mono{j k:Nat}{A:cO}(r:kM k A)(h:j<=k):kM j A:=⟨r.hd,by have:=r.dp; lia,by have:=r.un; lia⟩
def kM.deeper{k:Nat}{A:cO}(r:kM (k+1) A)(env:Env):kM k (A.deeper env) :=
 ⟨r.hd,by have:=r.dp; show A.depth+1+3 * k+5 < _; lia,by have:=r.un; show A.units+3+16 * k+200 < _; lia⟩
def kM.depth{k:Nat}{A:cO}(r:kM k A):A.depth < recursionLimit:=by have:=r.dp; lia
def kM.units{k:Nat}{A:cO}(r:kM k A):A.units+64 < cLine:=by have:=r.un; lia
def kM.Jy{k:Nat}{A:cO}(r:kM k A):A.units < cLine:=by have:=r.un; lia
abbrev Sp:=List V->Hp->VK->XK->Prop
abbrev Na:=List Env->Hp->ay->XK->Value->ay->Prop
structure SK(P:bE)(w:World)(K:aj)(mg:Str->Option Value)(base:Heap)(A:cO)(outer:List Env)(s:ay)(H:Hp):Prop where
 frames:A.frames=some outer
 mod:Mod K mg base
 bs:∀ b o,base.get? b=some o->s.heap.get? b=some o/\H b=none
 Sk:base.objs.size<=s.heap.objs.size
 yd:s.heap.FunFrames base outer
 Tf:∀ b∈uL outer,H b=none
 b7:oE P w H s.heap
 bare:z8 s.gens
def CE(outer:List Env)(P:bE)(w:World)(H:Hp)(s:ay)(Q:VK)(u:Value)(s':ay):Prop :=
 ∃ v H',s'.os=s.os/\z8 s'.gens/\Un (uL outer) [] H H' s.heap s'.heap/\oE P w H' s'.heap/\RelV v u/\Q v H'
def CR(CX:Na)(outer:List Env)(P:bE)(w:World)(H:Hp)(s:ay)(Q:VK)(E:XK)(r:Result)(s':ay):Prop :=
 match r with
 | .ok (.ret u)=>CE outer P w H s Q u s'
 | .ok _=>False
 | .error e=>CX outer H s E e s'
structure tT(P:bE)(w:World)(K:aj)(mg:Str->Option Value)(base:Heap)(CX:Na)(k:Nat)(f:Addr)(fd:fH)(ps:List Str)(sp:Sp):Prop where
 len:∀ vs H Q E,sp vs H Q E->vs.length=ps.length
 run:∀ (A:cO) (outer:List Env) (s:ay) (H:Hp) (args:Args) (us:List Value) (vs:List V) (Q:VK) (E:XK),kM k A->SK P w K mg base A outer s H->BindsTo s fd args (ps.zip us)->Vals vs us->sp vs H Q E ->
  zV (model P w) A (.call (.ref f) args) (CR CX outer P w H s Q E) s
section
variable {X:Cx} {pins:List (Addr×Obj)} {σ:St} {H:Hp} {s s':ay}
def Inv.ZO(I:Inv X pins σ H s):SK X.prog X.w X.K X.mg X.base X.A X.stack s H :=
 ⟨I.ok.frames,I.ok.mod,I.bs,bc I.ok.Sk I.sz,I.stack,I.D4,I.b7,I.bare⟩
theorem Inv.after{Q:VK}{u:Value}(I:Inv X pins σ H s)(h:CE X.stack X.prog X.w H s Q u s'):EP X pins σ Q u s':=by
 obtain⟨v,H',os,bare,un,b7,r,q⟩:=h;obtain⟨hh,g,d,t,os'⟩:=s';obtain rfl:os'=s.os:=os;exact⟨v,H',I.call (h':=hh) (g':=g) (d':=d) (t':=t) (ch:=[]) un b7 bare (fun b z=>absurd z (by simp)),r,q⟩
end
def Binds(K:aj)(fd:fH)(ps:List Str)(ds:List Value):Prop :=
 ∀ (s:ay) (us:List Value),K.In s.heap->(us++ds).length=ps.length->BindsTo s fd ⟨us,[]⟩ (ps.zip (us++ds))
theorem Binds.all{K:aj}{fd:fH}{ps:List Str}(h:∀ us:List Value,us.length=ps.length->bindArgs fd ⟨us,[]⟩=pure (ps.zip us)):Binds K fd ps []:=fun s us _ hl=>by
 rw [cg] at hl ⊢;exact .of_eq (h us hl)
def Passes(CX:Na)(X:Cx)(E:XK):Prop:=∀ (pins:List (Addr×Obj)) (σ:St) (H:Hp) (s:ay) (e:Value) (s':ay),Inv X pins σ H s->CX X.stack H s E e s'->X.xe e s'
section
variable {X:Cx} {CX:Na} {k:Nat} {f C:Addr} {fd:fH} {ps:List Str} {sp:Sp} {dvs:List V} {ds:List Value} {E:XK} {x m:Str} {p pos apos:Pos} {e o:Expr} {es:List Expr} {ta:TE} {t:TA}
theorem JR{pins:List (Addr×Obj)}{σ:St}{H:Hp}{s:ay}{Q:VK}{us:List Value}{vs:List V}(F:tT X.prog X.w X.K X.mg X.base CX k f fd ps sp)(hr:kM k X.A)(hb:Binds X.K fd ps ds)(hd:Vals dvs ds)(hx:Passes CX X E)
  (I:Inv X pins σ H s) (r:Vals vs us) (h:sp (vs++dvs) H Q E):wpAny (model X.prog X.w) X.A (call (.ref f) us) (EP X pins σ Q) X.xe s:=by
 have r2:Vals (vs++dvs) (us++ds):=r.append hd;have hl:(us++ds).length=ps.length:=by rw [<-r2.length]; exact F.len _ _ _ _ h
 refine Jd (pA (F.run X.A X.stack s H ⟨us,[]⟩ (us++ds) (vs++dvs) Q E hr I.ZO (hb s us I.zF hl) r2 h) fun r s' hq=>?_);cases r with
 | error e=>exact hx pins σ H s e s' I hq
 | ok fl =>
  cases fl with
  | ret u=>exact I.after hq
  | next=>exact bI hq
  | brk=>exact bI hq
  | cont=>exact bI hq
end
structure lV(N P:List Str)(sc:Scope):Prop where
 kind:sc.kind=.function
 co:sc.isCoroutine=false
 gen:sc.isGenerator=false
 nd:N.Nodup
 pre:N.take P.length=P
 par:∀ x∈P,sc.names.lookup x=some .local\/sc.names.lookup x=some .cell
 W5:∀ y∈sc.names,y.2≠.free
theorem DE{kindOf:Str->Option uP}{x:Str}:∀ {binds:List (Str×Value)} {m:Str->Option Value},(∀ v,(x,v)∉binds)->bindL kindOf binds m x=m x
 | [],_,_=>rfl
 | (n,v) :: r,m,h=>by
  unfold bindL;rw [DE fun w hw=>h w (aG _ hw)];split
  ·have:x≠n:=by rintro rfl; exact h v bH
   simp [this]
  ·rfl
theorem DG{kindOf:Str->Option uP}{x:Str}:∀ {binds:List (Str×Value)} {m:Str->Option Value},(∀ v,(x,v)∉binds)->bindC kindOf binds m x=m x
 | [],_,_=>rfl
 | (n,v) :: r,m,h=>by
  unfold bindC;rw [DG fun w hw=>h w (aG _ hw)];split
  ·rfl
  ·have:x≠n:=by rintro rfl; exact h v bH
   simp [this]
theorem DF{kindOf:Str->Option uP}{x:Str}{v:Value}:∀ {P:List Str} {vs:List Value} {i:Nat} {m:Str->Option Value},P.Nodup->P[i]?=some x->vs[i]?=some v->kindOf x=some .local ->
  bindL kindOf (P.zip vs) m x=some v
 | [],_,_,_,_,h,_,_=>by simp at h
 | _ :: _,[],_,_,_,_,h,_=>by simp at h
 | p :: P,w :: vs,0,m,nd,h1,h2,hk=>by
  simp at h1 h2; subst h1; subst h2;show bindL kindOf ((p,w) :: P.zip vs) m p=_;unfold bindL;rw [DE fun v hv=>(List.nodup_cons.mp nd).1 (IL hv).1,if_pos hk];simp
 | p :: P,w :: vs,i+1,m,nd,h1,h2,hk=>by
  show bindL kindOf ((p,w) :: P.zip vs) m x=_;unfold bindL;exact DF (i:=i) (List.nodup_cons.mp nd).2 (by simpa using h1) (by simpa using h2) hk
theorem DH{kindOf:Str->Option uP}{x:Str}{v:Value}:∀ {P:List Str} {vs:List Value} {i:Nat} {m:Str->Option Value},P.Nodup->P[i]?=some x->vs[i]?=some v->kindOf x≠some .local ->
  bindC kindOf (P.zip vs) m x=some v
 | [],_,_,_,_,h,_,_=>by simp at h
 | _ :: _,[],_,_,_,_,h,_=>by simp at h
 | p :: P,w :: vs,0,m,nd,h1,h2,hk=>by
  simp at h1 h2; subst h1; subst h2;show bindC kindOf ((p,w) :: P.zip vs) m p=_;unfold bindC;rw [DG fun v hv=>(List.nodup_cons.mp nd).1 (IL hv).1,if_neg hk];simp
 | p :: P,w :: vs,i+1,m,nd,h1,h2,hk=>by
  show bindC kindOf ((p,w) :: P.zip vs) m x=_;unfold bindC;exact DH (i:=i) (List.nodup_cons.mp nd).2 (by simpa using h1) (by simpa using h2) hk
def start(N:List Str)(vs:List V):St:=vs.map some++aT (N.length - vs.length) none
def w4(CX:Na)(P:bE)(w:World)(K:aj)(mg:Str->Option Value)(base:Heap)(N:List Str)(qual:Str)(scope:Scope)(f:Addr)(cd:Value)(A:cO)(outer:List Env)(s:ay)(H:Hp)(E:XK):Cx where
 prog:=P
 w:=w
 K:=K
 mg:=mg
 base:=base
 A:=A.deeper (yu qual scope s.heap.objs.size f cd)
 N:=N
 jk:=s
 OV:=H
 env:=yu qual scope s.heap.objs.size f cd
 outer:=outer
 stack:=yu qual scope s.heap.objs.size f cd :: outer
 ex:=[]
 calm:=true
 fn:=fun _=>true
 pn:=[]
 xe:=fun e s'=>wpAny (model P w) (A.deeper (yu qual scope s.heap.objs.size f cd)) (leaving (yu qual scope s.heap.objs.size f cd) e) (fun _ YF=>CX outer H s E e YF) (fun e' YF=>CX outer H s E e' YF) s'
def Ik{sc:Scope}{n:Nat}{x:Str}(h:sc.names.lookup x=some .cell):∃ c,(cellsFrom n sc.names []).lookup x=some c:=by
 have q:=Ly sc.names n [] (.inl h);exact Option.isSome_iff_exists.mp q
theorem Od{CX:Na}{P:bE}{w:World}{K:aj}{mg:Str->Option Value}{base:Heap}{N ps:List Str}{qual:Str}{scope:Scope}{f:Addr}{cd:Value}{A:cO}{outer:List Env}{s s1:ay}{H:Hp}{E:XK}{us:List Value}{vs:List V}
  (S:lV N ps scope) (hd:A.handled=none) (e0:SK P w K mg base A outer s H) (hl:vs.length=ps.length) (r:Vals vs us)
  (x:InCallC s s.heap.objs.size (bindL (yu qual scope s.heap.objs.size f cd).kindOf (ps.zip us) fun _=>none) (cellsFrom (s.heap.objs.size+1) scope.names []) (bindC (yu qual scope s.heap.objs.size f cd).kindOf (ps.zip us) fun _=>none) s1) :
  Inv (w4 CX P w K mg base N qual scope f cd A outer s H E) [] (start N vs) H s1:=by
 have yO:ps.length<=N.length:=by have:=congrArg dI S.pre; rw [d6] at this; lia
 obtain⟨h1,tk,rfl,hk⟩:=x.done;have Y1:∀ b:Addr,b∉(w4 CX P w K mg base N qual scope f cd A outer s H E).ex:=fun b z=>absurd (show b∈([]:List Addr) from z) (by simp);refine⟨⟨e0.mod,S.kind,rfl,rfl,aE _,fun y z c h1 h2=>?_,fun y hy=>?_,fun y c _ h=>?_,fun _=>hd,Around.frames_deeper e0.frames,.inr ⟨rfl,rfl⟩,fun b z=>absurd z (Y1 b),e0.bs,e0.Sk,fun b _ _=>Y1 b,fun b z=>absurd z (Y1 b),e0.yd,e0.Tf⟩,
  rfl,e0.bare,Un.kept hk,⟨_,x.toInCall.ns,fun i y v h1 h2 h3=>?_⟩,fun y c h=>⟨_,x.cell y c h⟩,e0.b7.fresh (aE _),fun y c h=>?_,fun p hp=>absurd (show p∈([]:List (Addr×Obj)) from hp) (by simp),e0.b7.kept hk,?_⟩
 ·exact name_of_addr x.apart (jb h1) (jb h2)
 ·have hy:scope.names.lookup y=some .cell\/scope.names.lookup y=some .free:=hy;rcases hy with hy | hy
  ·exact Ik hy
  ·exact absurd rfl (S.W5 _ (jb hy))
 ·exact Tn (x.above y c (jb h))
 ·have hi:i < vs.length:=by
   unfold start at h2;by_cases hi:i < vs.length
   ·exact hi
   ·rw [bS (by simpa using hi)] at h2;rw [mD] at h2;split at h2 <;> cases h2
  have ha:vs[i]?=some v:=by
   unfold start at h2;rw [b9 (by simpa using hi),bu] at h2;cases e:vs[i]? with
   | none=>rw [e] at h2; cases h2
   | some a=>rw [e] at h2; cases h2; rfl
  obtain⟨u,hu,rv⟩:=r.get ha;have hp:ps[i]?=some y:=by
   rw [<-S.pre,List.getElem?_take_of_lt (by lia)]; exact h1
  have ndP:ps.Nodup:=by rw [<-S.pre]; exact S.nd.sublist (List.take_sublist _ _)
  refine⟨u,rv,?_⟩;rcases S.par y (cV hp) with k | k
  ·exact .inl ⟨k,DF ndP hp hu k⟩
  ·obtain⟨c,e⟩:=Ik (n:=s.heap.objs.size+1) k;refine .inr ⟨.inl k,c,e,?_⟩;have q:=x.cell y c e;rw [DH ndP hp hu (by show scope.names.lookup y≠_; rw [k]; decide)] at q;exact q
 ·exact e0.b7.fresh (Tn (x.above y c (jb h)))
 ·unfold start;show _=N.length;rw [aC,aq,fW];lia
theorem VU{CX:Na}{P:bE}{w:World}{K:aj}{mg:Str->Option Value}{base:Heap}{k:Nat}{f:Addr}{name qual:Str}{params:Arguments}{body:List Stmt}{scope:Scope}{dV kV doc pm lx ct oc:Value}{an od:Option Addr}
  {Mj:Array (Option Value)} {N ps:List Str} {sp:Sp} (lk:K.lookup f=some ⟨oc,od,.func (lg name qual params body scope dV kV doc pm an lx ct),Mj⟩) (Ja:FV K lx qual=true) (S:lV N ps scope)
  (len:∀ vs H Q E,sp vs H Q E->vs.length=ps.length)
  (RF:∀ (A:cO) (outer:List Env) (s:ay) (H:Hp) (vs:List V) (Q:VK) (E:XK),kM k (A.deeper (yu qual scope s.heap.objs.size f lx))->sp vs H Q E ->
   ∃ t,Yn (w4 CX P w K mg base N qual scope f lx A outer s H E) body t/\t { nx:=fun _ H'=>Q .eT H',rt:=Q } (start N vs) H) :
  tT P w K mg base CX (k+1) f (lg name qual params body scope dV kV doc pm an lx ct) ps sp:=by
 refine⟨len,fun A outer s H args us vs Q E hr e0 hb r Rt=>?_⟩;have hl:=len _ _ _ _ Rt;have KX:K.In s.heap:=e0.mod.Uz.keeps fun b o e=>(e0.bs b o e).1;have lim:s.heap.NoLimit:=e0.mod.nolimit.keeps fun b o e=>(e0.bs b o e).1;have Df:∀ y∈ps.zip us,scope.names.lookup y.1=some .local\/(scope.names.lookup y.1=some .cell/\((cellsFrom (s.heap.objs.size+1) scope.names []).lookup y.1).isSome=true):=fun ⟨n,v⟩ hy=>by
  rcases S.par n (IL hy).1 with q | q
  ·exact .inl q
  ·exact .inr ⟨q,Ly _ _ _ (.inl q)⟩
 refine codeAny_call_function hr.depth (KX _ _ lk) rfl S.co S.gen rfl (PySem.W.codeRec_of KX Ja) (hb _ _ _ _ ?_);refine wpAny_newFunctionEnv_cells S.kind Df fun env he s1 x=>?_;subst he;refine⟨lim.keeps x.toInCall.keep,codeAny_func ?_⟩;obtain⟨t,ht,hq⟩:=RF A outer s H vs Q E (hr.deeper _) Rt;have I:Inv (w4 CX P w K mg base N qual scope f lx A outer s H E) [] (start N vs) H s1:=Od S hr.hd e0 hl r x;refine ly (ht [] s1 (start N vs) H _ I hq) (fun fl s' hs=>?_) fun e s' hs=>hs;have fin:∀ {kz:St} {H':Hp} {v:V} {u:Value},Inv (w4 CX P w K mg base N qual scope f lx A outer s H E) [] kz H' s'->RelV v u->Q v H'->CE outer P w H s Q u s' :=
  fun {kz H' v u} J rv q=>⟨v,H',J.os,J.bare,J.base,J.b7,rv,q⟩
 cases fl with
 | ret u =>
  obtain⟨v,kz,H',J,rv,q⟩:=hs;exact fin J rv q
 | next =>
  obtain⟨kz,H',J,q⟩:=hs;exact fin (v:=V.eT) (u:=gM) J rfl q
 | brk =>
  obtain⟨_,_,_,q⟩:=hs;exact bI q
 | cont =>
  obtain⟨_,_,_,q⟩:=hs;exact bI q
end L2
namespace HT
open PySem PyProof.Rows
def lexLt:List Int->List Int->Bool
 | [],[]=>false
 | [],_ :: _=>true
 | _ :: _,[]=>false
 | x :: xs,y :: ys=>if x=y then lexLt xs ys else decide (x < y)
def Ko(x y:Int)(xs ys:List Int):lexLt (x :: xs) (y :: ys)=if x=y then lexLt xs ys else decide (x < y):=rfl
def Cd:lexLt [] []=false:=rfl
def A5(y:Int)(ys:List Int):lexLt [] (y :: ys)=true:=rfl
def A6(x:Int)(xs:List Int):lexLt (x :: xs) []=false:=rfl
def RV(A:cO)(s:ay)(a:Int)(t:Tok)(c:Int)(u:Tok):∃ e,SeqAt.EqAt A s (.int a t) (.int c u) e/\(e=true↔a=c) :=
 ⟨(a == c),SeqAt.EqAt.int_int a t c u,by simp⟩
theorem Ay(A:cO)(s:ay)(a:Int)(t:Tok)(c:Int)(u:Tok)(prog:bE)(w:World)(E:Value->ay->Prop)(Q:Value->ay->Prop)(h:Q (.bool (decide (a < c))) s) :
  wpAny (model prog w) A (sf .Lt (.int a t) (.int c u)) Q E s :=
 (PyProof.Rows.lt_int h:wpAny (model prog w) A (eU .Lt (.int a t) (.int c u)) Q E s)
section
open PySem.SeqAt
open PySem.AutoSeq1 (wpAny_loadPart')
open PySem.MeetsSeq PySem.MeetsSeq2 PySem.MeetsSeq3
theorem B4(l b:Addr)(items o6:Array Value)(n n2:Nat)(dd FK:Option Addr)(sl Gn:Array (Option Value))(ns ms:List Int)(hi:nN items.toList ns)(hj:nN o6.toList ms) :
  Meets (Builtin.«tuple.__lt__» ⟨[.ref l,.ref b],[]⟩)
   (fun _ R s=>s.heap.get? l=some { cls:=.type "tuple",dict:=dd,data:=.seq items n,slots:=sl }/\s.heap.get? b=some { cls:=.type "tuple",dict:=FK,data:=.seq o6 n2,slots:=Gn } /\
    R (.ok (.ret (.bool (lexLt ns ms)))) s) :=
 .of_wp fun prog w A R s h=>by
  obtain⟨hp,g,d,tk,os⟩:=s; obtain⟨hl,hb,h⟩:=h;have f2:=qZ;have z1:items.size=ns.length:=by rw [<-hi.length]; simp
  have z2:o6.size=ms.length:=by rw [<-hj.length]; simp
  wp_walk using bM hl,bM hb,mx _ (fun rest b s'=>b.1=none/\s'=⟨hp,g,d,tk,os⟩/\∃ (vs ws:List Value) (X9 Yc:List Int),rest=vs.zip ws /\
   nN vs X9/\nN ws Yc/\X9.length+o6.size=Yc.length+items.size/\R (.ok (.ret (.bool (lexLt X9 Yc)))) ⟨hp,g,d,tk,os⟩) _
  case turn =>
   rintro⟨y,x⟩ rest b s' ⟨KD,rfl,vs,ws,X9,Yc,hz,hvi,hwi,hlen,hR⟩;cases hvi with
   | nil=>rw [List.zip_nil_left] at hz; cases hz
   | cons a t abW =>
    cases hwi with
    | nil=>rw [List.zip_nil_right] at hz; cases hz
    | cons c u abU =>
     rw [rO] at hz;injection hz with hyx Rx
     injection hyx with hy hx
     subst hy hx;rw [Ko] at hR;simp only [ah] at hlen;obtain⟨e,he,Zx⟩:=RV A.in1 ⟨hp,g,d,tk,os⟩ a t c u;refine ag (he prog w _ _ ?_);cases e with
     | true =>
      rw [if_pos (Zx.mp rfl)] at hR
      wp_walk
      exact⟨rfl,rfl,_,_,_,_,Rx,abW,abU,by lia,hR⟩
     | false =>
      rw [if_neg (fun q=>absurd (Zx.mpr q) fu)] at hR;have Zo:=Ay A.in1 ⟨hp,g,d,tk,os⟩ a t c u prog w
      wp_walk using Zo
      exact⟨_,rfl,by simpa using hR⟩
  case fin =>
   rintro⟨b1,b2⟩ s' ⟨KD,rfl,vs,ws,X9,Yc,hz,hvi,hwi,hlen,hR⟩;simp only at KD;subst KD;have hv:lexLt X9 Yc=decide (items.size < o6.size):=by
    cases hvi with
    | nil =>
     cases hwi with
     | nil =>
      simp only [aw] at hlen;rw [Cd];exact(decide_eq_false (by lia)).symm
     | cons c u hw =>
      simp only [aw,ah] at hlen;rw [A5];exact(decide_eq_true (by lia)).symm
    | cons a t hv =>
     cases hwi with
     | nil =>
      simp only [aw,ah] at hlen;rw [A6];exact(decide_eq_false (by lia)).symm
     | cons c u hw =>
      rw [rO] at hz;cases hz
   rw [hv] at hR
   wp_walk
   exact⟨_,rfl,by simpa [vK] using hR⟩
  case h =>
   exact⟨rfl,rfl,items.toList,o6.toList,ns,ms,rfl,hi,hj,by lia,h⟩
end
section
variable {prog:bE} {w:World} {A:cO} {E:Value->ay->Prop} {s:ay}
theorem AZ{l b:Addr}{items o6:Array Value}{ns ms:List Int}{Q:Value->ay->Prop}(hl:IsTup s.heap l items)(hb:IsTup s.heap b o6)(hi:nN items.toList ns)(hj:nN o6.toList ms)
  (hu:A.units < cLine) (h:Q (.bool (lexLt ns ms)) s):wpAny (model prog w) A (eU .Lt (.ref l) (.ref b)) Q E s:=by
 obtain⟨⟨cls,dd,data,sl⟩,ho,hc,n,hd⟩:=id hl;obtain⟨⟨R6,FK,data2,Gn⟩,De,EG,n2,hd2⟩:=id hb;simp only at hc hd EG hd2;subst hc hd EG hd2;exact yW (op:=.Lt) ⟨_,ho,rfl⟩ ⟨_,De,rfl⟩ mW uF (su _ _) (B4 l b items o6 n n2 dd FK sl Gn ns ms hi hj)
  ⟨ho,De,show Value.bool (lexLt ns ms)≠Value.notImplemented/\Q (.bool (lexLt ns ms)) s from⟨(fun x=>nomatch x),h⟩⟩ hu
theorem UW{t b:Addr}{vs ws:List Value}{Q:Value->ay->Prop}(ht:IsTup s.heap t vs.toArray)(hb:IsTup s.heap b ws.toArray)(hv:vs≠[])
  (h1:ws=[]->Q (.ref t) s) (h2:ws≠[]->Q (.ref s.heap.objs.size) { s with heap:=s.heap.push { cls:=.type "tuple",data:=.seq (vs++ws).toArray } })
  (hsz:vs.length+ws.length<=a8):wpAny (model prog w) A (jU .Add (.ref t) (.ref b)) Q E s:=by
 obtain⟨⟨cls,dd,data,sl⟩,ho,hc,n,hd⟩:=id ht;obtain⟨⟨R6,FK,data2,Gn⟩,De,EG,n2,hd2⟩:=id hb;simp only at hc hd EG hd2;subst hc hd EG hd2;have e:vs.toArray++ws.toArray=(vs++ws).toArray:=by simp
 by_cases hw:ws=[]
 ·exact concat_meets ⟨_,ho,rfl⟩ ⟨_,De,rfl⟩ noFill_tuple_add seq_tuple_add Lz Jo (IK _ _)
   (tuple_addW1 t b vs.toArray ws.toArray n n2 dd FK sl Gn (by simpa using hv) (by simp [hw])) ⟨ho,De,h1 hw⟩
 ·refine concat_meets ⟨_,ho,rfl⟩ ⟨_,De,rfl⟩ noFill_tuple_add seq_tuple_add Lz Jo (IK _ _)
   (tuple_addW2 t b vs.toArray ws.toArray n n2 dd FK sl Gn (by simpa using hv) (by simpa using hw) (by rw [aW,aW]; exact hsz)) ⟨ho,De,?_⟩
  rw [e];exact h2 hw
def j9(n d:Nat):Option Int->Nat
 | none=>d
 | some v=>if v < 0 then (v+(n:Int)).toNat else min v.toNat n
theorem Wy(n d:Nat)(hd:d<=n)(o:Option Int):j9 n d o<=n:=by
 cases o with
 | none=>exact hd
 | some v =>
  show (if v < 0 then (v+(n:Int)).toNat else min v.toNat n)<=n;by_cases hv:v < 0
  ·rw [if_pos hv]; lia
  ·rw [if_neg hv]; exact Nat.min_le_right _ _
theorem MX(v:Int)(n d:Nat):(if v < 0 then max (v+(n:Int)) 0 else min v (n:Int))=((j9 n d (some v):Nat):Int):=by
 show (if v < 0 then max (v+(n:Int)) 0 else min v (n:Int))=(((if v < 0 then (v+(n:Int)).toNat else min v.toNat n):Nat):Int);by_cases hv:v < 0
 ·simp only [if_pos hv]; lia
 ·simp only [if_neg hv]; lia
theorem Lg(lo hi:Option Int)(n:Nat):oz lo hi 1 (n:Int)=(((j9 n 0 lo:Nat):Int),((j9 n n hi:Nat):Int)):=by
 have h1:¬ ((1:Int) < 0):=by lia
 unfold oz;simp only [h1,if_false];refine Prod.ext ?_ ?_
 ·cases lo with
  | none=>rfl
  | some v=>exact MX v n 0
 ·cases hi with
  | none=>rfl
  | some v=>exact MX v n n
def JZ(i j:Nat):jZ (i:Int) (j:Int) 1=j - i:=by
 unfold jZ;have h1:(1:Int) > 0:=by lia
 simp only [h1,if_true,Int.ediv_one];split <;> lia
theorem Ah{v:Value}{o:Option Int}{Q:Option Int->ay->Prop}(p:IsPart v o)(h:Q o s):wpAny (model prog w) A (Builtin.Slice.slicePartIndex v) Q E s:=by
 cases p with
 | none=>exact slicePart_none h
 | int i t=>exact slicePart_int h
theorem xH{sl:Addr}{vl vu:Value}{lo hi:Option Int}{n:Nat}{Q:Int×Int×Nat->ay->Prop}(hs:s.heap.IsSliceOf sl vl vu .none)(pl:IsPart vl lo)(pu:IsPart vu hi)
  (h:Q (((j9 n 0 lo:Nat):Int),1,j9 n n hi - j9 n 0 lo) s):wpAny (model prog w) A (zv (.ref sl) (pure (n:Int))) Q E s:=by
 obtain⟨os,Zs,ZG,hds⟩:=id hs;unfold zv Builtin.Slice.sliceFields;refine ag (ag (sd Zs hds (x:=vl) rfl (ag (sd Zs hds (x:=vu) rfl (ag (sd Zs hds (x:=.none) rfl (aA ?_)))))));refine ag (slicePart_none ?_);show wpAny _ _ (if ((1:Int) == 0)=true then _ else _) _ _ s;rw [if_neg (by decide)];refine ag (Ah pl (ag (Ah pu (ag (aA ?_)))));show wpAny _ _ (match oz lo hi 1 (n:Int) with | (lo,hi)=>pure (lo,(1:Int),jZ lo hi 1)) _ _ s;rw [Lg lo hi n];show wpAny _ _ (pure (((j9 n 0 lo:Nat):Int),(1:Int),jZ ((j9 n 0 lo:Nat):Int) ((j9 n n hi:Nat):Int) 1)) _ _ s;rw [JZ];exact aA h
theorem Qs(xs:Array Value)(i k:Nat):((fL k).filterMap fun (m:Nat)=>xs[((i:Int)+(m:Int) * 1).toNat]?).toArray=((xs.toList.drop i).take k).toArray:=by
 have e:(fun (m:Nat)=>xs[((i:Int)+(m:Int) * 1).toNat]?)=fun m=>xs[i+m]?:=by
  funext m;have:((i:Int)+(m:Int) * 1).toNat=i+m:=by lia
  rw [this]
 rw [e];have:=pick_run xs i k;rw [List.filterMap_map] at this;have e2:((fun x=>xs[x]?)∘fun x=>i+x)=fun m=>xs[i+m]?:=rfl;rw [e2] at this;rw [this]
theorem wO{t sl:Addr}{items:Array Value}{vl vu:Value}{lo hi:Option Int}{Q:Value->ay->Prop}(ht:IsTup s.heap t items)(hs:s.heap.IsSliceOf sl vl vu .none)(pl:IsPart vl lo)(pu:IsPart vu hi)
  (hw:¬ (j9 items.size 0 lo=0/\j9 items.size items.size hi=items.size))
  (h:Q (.ref s.heap.objs.size) { s with heap:=s.heap.push { cls:=.type "tuple",data:=.seq ((items.toList.drop (j9 items.size 0 lo)).take (j9 items.size items.size hi - j9 items.size 0 lo)).toArray } })
  (hsz:items.size<=a8):wpAny (model prog w) A (getItem (.ref t) (.ref sl)) Q E s:=by
 have MD:sizeOk (.seq ((items.toList.drop (j9 items.size 0 lo)).take (j9 items.size items.size hi - j9 items.size 0 lo)).toArray):=by
  show ((items.toList.drop (j9 items.size 0 lo)).take (j9 items.size items.size hi - j9 items.size 0 lo)).toArray.size<=a8;rw [aW];exact bc (bc (List.length_take_le' _ _) (by rw [cq,fK]; exact Nat.sub_le _ _)) hsz
 have hj:j9 items.size items.size hi<=items.size:=Wy _ _ (aE _) hi;obtain⟨os,Zs,ZG,hds⟩:=id hs;have hTs:s.TypeIs (.ref sl) "slice":=⟨os,Zs,ZG⟩;unfold getItem
 try with_reducible refine cF ?_
 first | refine ag (aA ?_) | skip
 refine ag (wpAny_sequenceKey ht.typeIs (by decide) ?_);refine ag (jT (name:=xA "__getitem__") ht.typeIs xk
  (df xk ht.typeIs entry_tuple_getitem ?_ (args_tuple_getitem _ _)))
 show wpAny _ _ (zu (.ref t) >>= _) _ _ s;refine ag (tupleItemsOf_ ht ?_);refine ag (wpAny_typeOf hTs ?_);rw [if_pos (by decide)];refine ag (xH hs pl pu ?_);have Xm:¬ ((((j9 items.size 0 lo:Nat):Int) == 0&&(1:Int) == 1&&(j9 items.size items.size hi - j9 items.size 0 lo) == items.size)=true):=by
  intro q;rw [aJ,aJ] at q;have q1:((j9 items.size 0 lo:Nat):Int)=0:=eq_of_beq q.1.1;have q2:j9 items.size items.size hi - j9 items.size 0 lo=items.size:=eq_of_beq q.2;exact hw ⟨by lia,by lia⟩
 show wpAny _ _ (if (((j9 items.size 0 lo:Nat):Int) == 0&&(1:Int) == 1&&(j9 items.size items.size hi - j9 items.size 0 lo) == items.size)=true then _ else _) _ _ s;rw [if_neg Xm,Qs]
 first
  | exact ag (m:=kr _) (dg (aA ⟨_,rfl,aA h⟩) MD)
  | exact ag (m:=kr _) (dg (ag (aA (aA ⟨_,rfl,aA h⟩))) MD)
  | exact ag (ag (m:=kr _) (dg (aA (aA ⟨_,rfl,aA h⟩)) MD))
  | exact ag (ag (m:=kr _) (dg (aA ⟨_,rfl,aA h⟩) MD))
end
end HT
namespace L2
open PySem PySem.Spec PyProof.Rows
abbrev TO:=St->Hp->(Option Int->Hp->Prop)->Prop
theorem intsAre_of{ns:List Int}:∀ {us:List Value},Vals (ns.map V.int) us->nN us ns:=by
 induction ns with
 | nil=>intro us r; rw [aQ] at r; cases r; exact .nil
 | cons n ns ih =>
  intro us r;rw [ak] at r;cases r with
  | cons r1 r2 =>
   obtain⟨t,e⟩:=r1;subst e;exact .cons n t (ih r2)
section
variable {X:Cx} {e:Expr} {te:TE} {lo hi:Option Expr} {tl th:TO} {pos p2:Pos}
def SlR(X:Cx)(r:V->Option Int->Option Int->Hp->VK->Prop):Prop :=
 ∀ (pins:List (Addr×Obj)) (s:ay) (σ:St) (H:Hp) (x:V) (v vl vu:Value) (lo hi:Option Int) (sl:Addr) (Q:VK),Inv X pins σ H s->RelV x v->s.heap.IsSliceOf sl vl vu .none->IsPart vl lo->IsPart vu hi->r x lo hi H Q ->
  ∃ T id,typeLookup (.type T) "__getitem__" = pure (some (.builtin id))/\s.TypeIs v T/\wpAny (model X.prog X.w) X.A (getItem v (.ref sl)) (EP X pins σ Q) X.xe s
def Ii(xs:List V)(lo hi:Option Int):List V:=(xs.drop (HT.j9 xs.length 0 lo)).take (HT.j9 xs.length xs.length hi - HT.j9 xs.length 0 lo)
def yR(xs:List V)(lo hi:Option Int):(Ii xs lo hi).length<=xs.length:=by
 unfold Ii;rw [d6,cq];lia
def aa8(K:aj):V->Option Int->Option Int->Hp->VK->Prop:=fun x lo hi H Q=>∃ a xs,x=.ref a/\zL K H a xs /\
 ¬ (HT.j9 xs.length 0 lo=0/\HT.j9 xs.length xs.length hi=xs.length)/\∀ p,H p=none->Q (.ref p) (upd H p (.tup (Ii xs lo hi)))
theorem Ww:SlR X (aa8 X.K):=by
 intro pins s σ H x v vl vu lo hi sl Q I rx hs pl pu h;obtain⟨a,xs,rfl,hx,hw,q⟩:=h;cases rx;obtain⟨bL,r,ht,hz⟩:=I.tuple hx;have hlen:bL.toArray.size=xs.length:=by rw [aW]; exact r.length.symm
 refine⟨"tuple",_,PyProof.Rows.slot_tuple_getitem.lookup,ht.typeIs,?_⟩;refine HT.wO ht hs pl pu (by rw [hlen]; exact hw) ?_ (by rw [hlen]; exact hz);rw [hlen];refine⟨.ref s.heap.objs.size,_,I.laid (t':=s.toks) (o:=.tup (Ii xs lo hi)) (fun b ob q=>aF _ q) (aE _) ?_,rfl,q _ (I.b7.fresh (aE _))⟩;exact⟨bc (yR xs lo hi) hz,_,(r.drop (HT.j9 xs.length 0 lo)).take (HT.j9 xs.length xs.length hi - HT.j9 xs.length 0 lo),IsTup.new _ _⟩
def abb(K:aj):R2:=fun x y H Q=>∃ a b ns ms,x=.ref a/\y=.ref b/\zL K H a (ns.map V.int)/\zL K H b (ms.map V.int)/\Q (.bl (HT.lexLt ns ms)) H
theorem WX(hu:X.A.units < cLine):M5 X (eU .Lt) (abb X.K):=by
 intro pins s σ H x y v u Q I rx ry h;obtain⟨a,b,ns,ms,rfl,rfl,ha,hb,q⟩:=h;cases rx;cases ry;obtain⟨bL,r1,p1,_⟩:=I.tuple ha;obtain⟨uK,r2,p2,_⟩:=I.tuple hb;have i1:nN bL.toArray.toList ns:=intsAre_of r1;have i2:nN uK.toArray.toList ms:=intsAre_of r2;exact HT.AZ p1 p2 i1 i2 hu ⟨.bl (HT.lexLt ns ms),H,I,rfl,q⟩
def YL(K:aj):R2:=fun x y H Q=>∃ a b xs ys,x=.ref a/\y=.ref b/\zL K H a xs/\zL K H b ys/\xs≠[]/\xs.length+ys.length<=a8 /\
 (ys=[]->Q (.ref a) H)/\(ys≠[]->∀ p,H p=none->Q (.ref p) (upd H p (.tup (xs++ys))))
def Vals.Et{xs:List V}{us:List Value}(r:Vals xs us):us=[]↔xs=[]:=by
 cases r with
 | nil=>simp
 | cons _ _=>simp
theorem Ui:M5 X (jU .Add) (YL X.K):=by
 intro pins s σ H x y v u Q I rx ry h;obtain⟨a,b,xs,ys,rfl,rfl,ha,hb,hx,hz,q1,q2⟩:=h;cases rx;cases ry;obtain⟨bL,r1,p1,_⟩:=I.tuple ha;obtain⟨uK,r2,p2,_⟩:=I.tuple hb;refine HT.UW p1 p2 (fun z=>hx (r1.Et.mp z)) (fun z=>⟨.ref a,H,I,rfl,q1 (r2.Et.mp z)⟩) (fun z=>?_) (by rw [<-r1.length,<-r2.length]; exact hz);refine⟨.ref s.heap.objs.size,_,I.laid (t':=s.toks) (o:=.tup (xs++ys)) (fun b ob q=>aF _ q) (aE _) ?_,rfl,q2 (fun w=>z (r2.Et.mpr w)) _ (I.b7.fresh (aE _))⟩;exact⟨by rw [aC]; exact hz,_,r1.append r2,IsTup.new _ _⟩
end
def IX(n:Nat)(i:Int):Option Nat:=if 0<=i then (if i < n then some i.toNat else none) else if -(n:Int)<=i then some (i+n).toNat else none
def rZ{α:Type}(xs:List α)(i:Int):Option α:=(IX xs.length i).bind fun j=>xs[j]?
theorem Mz{n:Nat}{i:Int}{j:Nat}(h:IX n i=some j):seqIndex? i n=some j/\j < n/\-(n:Int)<=i/\i < n:=by
 unfold IX at h;by_cases h0:0<=i
 ·rw [if_pos h0] at h;by_cases h1:i < n
  ·rw [if_pos h1] at h;have e:i.toNat=j:=aZ h;exact⟨by rw [seqIndex_of h0 h1,e],by lia,by lia,h1⟩
  ·rw [if_neg h1] at h; cases h
 ·rw [if_neg h0] at h;by_cases h1:-(n:Int)<=i
  ·rw [if_pos h1] at h;have e:(i+n).toNat=j:=aZ h;exact⟨by rw [seqIndex_neg (by lia) h1,e],by lia,h1,by lia⟩
  ·rw [if_neg h1] at h; cases h
theorem M3{α:Type}{xs:List α}{i:Int}{v:α}(h:rZ xs i=some v):∃ j,seqIndex? i xs.length=some j/\xs[j]?=some v/\j < xs.length/\-(xs.length:Int)<=i/\i < xs.length:=by
 unfold rZ at h;cases e:IX xs.length i with
 | none=>rw [e] at h; cases h
 | some j =>
  rw [e] at h;obtain⟨h1,h2,h3,h4⟩:=Mz e;exact⟨j,h1,h,h2,h3,h4⟩
def U7(b:Expr):Prop:=∀ o i,subscripted b false o i=operate [o,i] (getItem o i)
def IxR(X:Cx)(r:R2):Prop :=
 ∀ (value slice:Expr) (pins:List (Addr×Obj)) (s:ay) (σ:St) (H:Hp) (x y:V) (v u:Value) (Q:VK),Inv X pins σ H s->RelV x v->RelV y u->r x y H Q ->
  subscripted slice false v u=operate [v,u] (getItem v u)->wpAny (model X.prog X.w) X.A (subscriptTail value slice v u) (EP X pins σ Q) X.xe s
def MtR(X:Cx)(id:String)(r:V->List V->Hp->VK->Prop):Prop :=
 ∀ (pins:List (Addr×Obj)) (s:ay) (σ:St) (H:Hp) (x:V) (xs:List V) (v:Value) (us:List Value) (Q:VK),Inv X pins σ H s->RelV x v->Vals xs us->r x xs H Q ->
  wpAny (model X.prog X.w) X.A (call (.builtin id) (v :: us)) (EP X pins σ Q) X.xe s
section
variable {X:Cx} {a b:Expr} {ta tb:TE} {pos:Pos}
def abd(K:aj):R2:=fun x y H Q=>∃ p xs i v,x=.ref p/\y=.int i/\qb K H p xs/\rZ xs i=some v/\Q v H
def abc(K:aj):R2:=fun x y H Q=>∃ p xs i v,x=.ref p/\y=.int i/\zL K H p xs/\rZ xs i=some v/\Q v H
theorem Mx:IxR X (abd X.K):=by
 intro value slice pins s σ H x y v u Q I rx ry h hs;obtain⟨p,xs,i,z,rfl,rfl,hq,he,q⟩:=h;cases rx;obtain⟨t,rfl⟩:=ry;obtain⟨bL,r,pl,hz⟩:=I.list hq;obtain⟨j,h1,h2,h3,h4,h5⟩:=M3 he;obtain⟨w,ew,rQ⟩:=r.get h2;have hl:=r.length;have hn:=A4;have fin:EP X pins σ Q w s:=⟨z,H,I,rQ,q⟩;by_cases h0:0<=i
 ·have hj:i.toNat=j:=by
   rw [seqIndex_of h0 h5] at h1;exact aZ h1
  exact item_listR pl.isList h0 (by lia) (by rw [hj]; simpa using ew) fin hs
 ·have hj:(i+(bL.toArray.size:Int)).toNat=j:=by
   rw [seqIndex_neg (by lia) h4] at h1;rw [aW,<-hl];exact aZ h1
  exact subscriptTail_builtinR (x:=w) pl.isList.typeIs slot_list_getitem.lookup
   (wpAny_getItem_list_neg (Q:=fun r s'=>r=w/\EP X pins σ Q r s') pl.isList (by lia) (by rw [aW] <;> lia) (by lia) (by rw [hj]; simpa using ew) ⟨rfl,fin⟩) hs
theorem Xh:IxR X (abc X.K):=by
 intro value slice pins s σ H x y v u Q I rx ry h hs;obtain⟨p,xs,i,z,rfl,rfl,hq,he,q⟩:=h;cases rx;obtain⟨t,rfl⟩:=ry;obtain⟨bL,r,pl,hz⟩:=I.tuple hq;obtain⟨j,h1,h2,h3,h4,h5⟩:=M3 he;obtain⟨w,ew,rQ⟩:=r.get h2;have hl:=r.length;have hn:=A4;have fin:EP X pins σ Q w s:=⟨z,H,I,rQ,q⟩;exact subscriptTail_builtinR (x:=w) pl.typeIs slot_tuple_getitem.lookup
  (getItem_tuple (j:=j) (Q:=fun r s'=>r=w/\EP X pins σ Q r s') pl (by lia) (by lia) (by rw [aW,<-hl]; exact h1) (by simpa using ew) ⟨rfl,fin⟩) hs
theorem Kg (bL:List Value) (n j:Nat) (u:Value):jP (·.setIfInBounds j u) { cls:=.type "list",data:=.seq bL.toArray n } = { cls:=.type "list",data:=.seq (bL.set j u).toArray n }:=by
 simp [jP]
theorem Inv.lst{pins:List (Addr×Obj)}{σ:St}{H:Hp}{s:ay}{p:Addr}{xs:List V}(I:Inv X pins σ H s)(h:H p=some (.lst xs)) :
  ∃ (bL:List Value) (n:Nat),Vals xs bL/\s.heap.get? p=some { cls:=.type "list",data:=.seq bL.toArray n }/\xs.length<=a8:=by
 obtain⟨z,bL,n,r,e⟩:=I.b7 p _ h;exact⟨bL,n,r,e,z⟩
theorem Inv.W8{pins:List (Addr×Obj)}{σ:St}{H:Hp}{s:ay}{p:Addr}{xs ys:List V}{bL its':List Value}{n n':Nat}{f:Obj->Obj}(I:Inv X pins σ H s)(h:H p=some (.lst xs))
  (ho:s.heap.get? p=some { cls:=.type "list",data:=.seq bL.toArray n }) (hf:f { cls:=.type "list",data:=.seq bL.toArray n } = { cls:=.type "list",data:=.seq its'.toArray n' }) (r:Vals ys its') (hz:ys.length<=a8) (t:Nat) :
  Inv X pins σ (upd H p (.lst ys)) { s with heap:=s.heap.update p f,toks:=t }:=by
 have e:(s.heap.update p f).get? p=some { cls:=.type "list",data:=.seq its'.toArray n' }:=by
  rw [km f ho (by rw [hf] <;> rfl),hf]
 refine I.write (x:=p) (e:=p) (by rw [h]; trivial) (.inl rfl) (fun b u hb q=>(dJ _ _ (e7 hb)).trans q) ⟨_,e⟩ ?_;exact⟨hz,its',n',r,e⟩
def YJ:V->V->V->Hp->(Hp->Prop)->Prop:=fun o i v H Q=>∃ p xs k j,o=.ref p/\i=.int k/\H p=some (.lst xs)/\IX xs.length k=some j/\Q (upd H p (.lst (xs.set j v)))
theorem set_list:acW X YJ:=by
 intro pins s σ H o i v ov iv u Q I ro ri rv h;obtain⟨p,xs,k,j,rfl,rfl,hp,hj,q⟩:=h;cases ro;obtain⟨t,rfl⟩:=ri;obtain⟨bL,n,r,ho,hz⟩:=I.lst hp;obtain⟨h1,h2,h3,h4⟩:=Mz hj;have hl:=r.length;have hn:=A4;have I':Inv X pins σ (upd H p (.lst (xs.set j v))) { s with heap:=s.heap.update p (jP (·.setIfInBounds j u)) } :=
  I.W8 hp ho (Kg bL n j u) (r.set rv j) (by rw [cL]; exact hz) s.toks
 by_cases h0:0<=k
 ·have hk:k.toNat=j:=by
   rw [seqIndex_of h0 h4] at h1;exact aZ h1
  exact PySem.W.ki_setAt ho h0 (by lia) (by rw [aW,<-hl]; exact h4) (by rw [hk]; exact⟨_,I',q⟩)
 ·have hk:(k+(bL.toArray.size:Int)).toNat=j:=by
   rw [seqIndex_neg (by lia) h3] at h1;rw [aW,<-hl];exact aZ h1
  exact PySem.W.ki_setBack ho (by lia) (by rw [aW,<-hl]; exact h3) (by lia) (by rw [hk]; exact⟨_,I',q⟩)
theorem D6(lo hi:Option Int)(n:Nat):(se lo hi none n).1=((HT.j9 n 0 lo:Nat):Int)/\(se lo hi none n).2.1=((HT.j9 n n hi:Nat):Int)/\(se lo hi none n).2.2=1:=by
 refine⟨?_,?_,rfl⟩
 ·cases lo with
  | none=>simp [se,HT.j9]
  | some i =>
   simp only [se,HT.j9,CB,show (1:Int) > 0 by decide,if_true];by_cases h:i < 0
   ·simp only [h,if_true] <;> lia
   ·simp only [h,if_false] <;> lia
 ·cases hi with
  | none=>simp [se,HT.j9]
  | some i =>
   simp only [se,HT.j9,CB,show (1:Int) > 0 by decide,if_true];by_cases h:i < 0
   ·simp only [h,if_true] <;> lia
   ·simp only [h,if_false] <;> lia
theorem B7(bL:List Value)(lo hi:Option Int):slicePick bL.toArray lo hi none=((bL.drop (HT.j9 bL.length 0 lo)).take (HT.j9 bL.length bL.length hi - HT.j9 bL.length 0 lo)).toArray:=by
 obtain⟨h1,h2,h3⟩:=D6 lo hi bL.toArray.size;unfold slicePick;rw [h1,h2,h3];simp only [sliceRange_one,pick_run,aW] <;> rfl
def aa9(K:aj):V->Option Int->Option Int->Hp->VK->Prop:=fun x lo hi H Q=>∃ a xs,x=.ref a/\qb K H a xs/\∀ p,H p=none->Q (.ref p) (upd H p (.lst (Ii xs lo hi)))
theorem LU:SlR X (aa9 X.K):=by
 intro pins s σ H x v vl vu lo hi sl Q I rx hs pl pu h;obtain⟨a,xs,rfl,hx,q⟩:=h;cases rx;obtain⟨bL,r,ht,hz⟩:=I.list hx;have hlen:=r.length;refine⟨"list",_,slot_list_getitem.lookup,ht.isList.typeIs,?_⟩;refine wpAny_getItem_list_slice ht.isList hs pl pu .none (by simp) ?_ (by rw [aW] <;> lia);rw [B7,<-hlen];refine⟨.ref s.heap.objs.size,_,I.laid (t':=s.toks) (o:=.lst (Ii xs lo hi)) (fun b ob q=>aF _ q) (aE _) ?_,rfl,q _ (I.b7.fresh (aE _))⟩;exact⟨bc (yR xs lo hi) hz,_,0,(r.drop (HT.j9 xs.length 0 lo)).take (HT.j9 xs.length xs.length hi - HT.j9 xs.length 0 lo),a9 _ rfl⟩
theorem Fe:SM X (.type "list") (fun xs H Q=>∃ p ys,xs=[.ref p]/\(qb X.K H p ys\/zL X.K H p ys)/\∀ l,H l=none->Q (.ref l) (upd H l (.lst ys))):=by
 intro pins s σ H xs us Q I r h;obtain⟨p,ys,rfl,hq,q⟩:=h;obtain⟨u,rfl,rx⟩:=vals1 r;cases rx;have fin:∀ (bL:List Value),Vals ys bL->ys.length<=a8->∀ (h':Heap) (c':Nat),(∀ b o',s.heap.get? b=some o'->h'.get? b=some o') ->
   h'.get? s.heap.objs.size=some { cls:=.type "list",dict:=none,data:=.seq bL.toArray c',slots:=#[] }->EP X pins σ Q (.ref s.heap.objs.size) { s with heap:=h' }:=fun bL r' hz h' c' kp e =>
  ⟨.ref s.heap.objs.size,_,I.laid (t':=s.toks) kp (aE _) (show fE X.prog X.w _ h' _ (.lst ys) from⟨hz,bL,c',r',e⟩),rfl,q _ (I.b7.fresh (aE _))⟩
 rcases hq with hq | hq
 ·obtain⟨bL,r',pl,hz⟩:=I.list hq;have hlen:=r'.length;obtain⟨o,ho,hc,n,hd⟩:=pl.isList;exact call_list_seq p (.inl rfl) ho hc hd (fun h' c' kp e=>fin bL r' hz h' c' kp e) (by simp only [aW] <;> lia)
 ·obtain⟨bL,r',pl,hz⟩:=I.tuple hq;have hlen:=r'.length;obtain⟨o,ho,hc,n,hd⟩:=pl;exact call_list_seq p (.inr rfl) ho hc hd (fun h' c' kp e=>fin bL r' hz h' c' kp e) (by simp only [aW] <;> lia)
theorem Cn:SM X (.type "tuple") (fun xs H Q=>∃ p ys,xs=[.ref p]/\((qb X.K H p ys/\∀ l,H l=none->Q (.ref l) (upd H l (.tup ys)))\/(zL X.K H p ys/\Q (.ref p) H))):=by
 intro pins s σ H xs us Q I r h;obtain⟨p,ys,rfl,h⟩:=h;obtain⟨u,rfl,rx⟩:=vals1 r;cases rx;rcases h with ⟨hq,q⟩ | ⟨hq,q⟩
 ·obtain⟨bL,r',pl,hz⟩:=I.list hq;have hlen:=r'.length;refine call_tuple_list pl.isList (fun h' kp=>?_) (by simp only [aW] <;> lia);have I1:Inv X pins σ H { s with heap:=h' }:=I.kept (t':=s.toks) kp;have I2:Inv X pins σ (upd H h'.objs.size (.tup ys)) { s with heap:=h'.push { cls:=.type "tuple",data:=.seq bL.toArray } } :=
   I1.laid (t':=s.toks) (fun b o e=>aF _ e) (aE _) (show fE X.prog X.w _ _ _ (.tup ys) from⟨hz,bL,r',IsTup.new _ _⟩)
  exact⟨.ref h'.objs.size,_,I2,rfl,q _ (I1.b7.fresh (aE _))⟩
 ·obtain⟨bL,r',pl,hz⟩:=I.tuple hq;exact call_tuple_same pl ⟨.ref p,H,I,rfl,q⟩
def tyV(K:aj)(T:String)(x:V)(H:Hp):Prop:=match x with
 | .str _=>T = "str"
 | .int _=>T = "int"
 | .ref p=>(T = "list"/\∃ xs,qb K H p xs)\/(T = "tuple"/\∃ o,K.lookup p=some o/\o.cls=.type "tuple"/\o.dict=none) \/
   (T = "dict"/\((∃ kvs,H p=some (.dK kvs))\/∃ kvs,H p=some (.dT kvs)))\/(T = "set"/\∃ S n,H p=some (.set S n))
 | _=>False
theorem DX{pins:List (Addr×Obj)}{σ:St}{H:Hp}{s:ay}{T:String}{x:V}{v:Value}(I:Inv X pins σ H s)(r:RelV x v)(ty:tyV X.K T x H) :
  s.TypeIs v T/\∀ a,v=.ref a->∃ ob,s.heap.get? a=some ob/\ob.dict=none:=by
 cases x with
 | str z =>
  obtain⟨t,rfl⟩:=r;cases (show T = "str" from ty);exact⟨typeIs_str s z t,fun _ e=>nomatch e⟩
 | int i =>
  obtain⟨t,rfl⟩:=r;cases (show T = "int" from ty);exact⟨typeIs_int s i t,fun _ e=>nomatch e⟩
 | ref p =>
  cases r;rcases ty with ⟨rfl,xs,hq⟩ | ⟨rfl,o,hk,hc,hd⟩ | ⟨rfl,hk⟩ | ⟨rfl,S,n,hk⟩
  ·obtain⟨bL,_,pl,_⟩:=I.list hq;refine⟨pl.isList.typeIs,fun a e=>?_⟩;cases e;obtain⟨o,n,e,c,hd,_⟩:=pl;exact⟨o,e,hd⟩
  ·refine⟨⟨o,I.zF p o hk,hc⟩,fun a e=>?_⟩;cases e;exact⟨o,I.zF _ o hk,hd⟩
  ·have z:∃ o,s.heap.get? p=some o/\o.ExactDict:=by
    rcases hk with ⟨kvs,hk⟩ | ⟨kvs,hk⟩
    ·obtain⟨_,_,_,_,o,_,_,e,ex,_⟩:=I.b7 p _ hk;exact⟨o,e,ex⟩
    ·obtain⟨_,_,_,_,o,_,_,e,ex,_⟩:=I.b7 p _ hk;exact⟨o,e,ex⟩
   obtain⟨o,e,ex⟩:=z;refine⟨⟨o,e,ex.1⟩,fun a e2=>?_⟩;cases e2;exact⟨o,e,ex.2.1⟩
  ·obtain⟨o,_,_,_,e,ex,_⟩:=I.b7 p _ hk;refine⟨⟨o,e,ex.1⟩,fun a e2=>?_⟩;cases e2;exact⟨o,e,ex.2.1⟩
 | _=>exact bI ty
variable {o e:Expr} {es:List Expr} {to:TE} {t:TA} {name:Str} {apos mi:Pos} {T id:String} {r:V->List V->Hp->VK->Prop}
/- xs.append(e),list.index on a Y4 tuple .. are MtR facts of 06m -/
end
def MtM(X:Cx)(id:String)(r:V->List V->Hp->VK->Prop):Prop :=
 ∀ (pins:List (Addr×Obj)) (s:ay) (σ:St) (H:Hp) (x:V) (xs:List V) (v:Value) (us:List Value) (Q:VK),Inv X pins σ H s->RelV x v->Vals xs us->r x xs H Q ->
  wpAny (model X.prog X.w) X.A (call (.builtin id) (v :: us)) (EP X pins σ Q) X.xe s
def Vals.one:∀ {x:V} {us:List Value},Vals [x] us->∃ u,us=[u]/\RelV x u:=by
 intro x us h;cases h with
 | cons r t=>cases t; exact⟨_,rfl,r⟩
section
variable {X:Cx} {pins:List (Addr×Obj)} {σ:St} {H:Hp} {s:ay} {l b:Addr} {xs ys zs:List V}
theorem Inv.Y6{bL its':List Value}{n:Nat}{f:Array Value->Array Value}{t':Nat}(I:Inv X pins σ H s)(hH:H l=some (.lst xs))
  (e:s.heap.get? l=some { cls:=.type "list",data:=.seq bL.toArray n }) (hf:f bL.toArray=its'.toArray) (hv:Vals ys its') (hz:ys.length<=a8) :
  Inv X pins σ (upd H l (.lst ys)) { s with heap:=s.heap.update l (jP f),toks:=t' }:=by
 have q:=PySem.IsL.update e f;rw [hf] at q;refine I.write (x:=l) (e:=l) (by rw [hH]; exact trivial) (.inl rfl) (fun b' u hb hu=>(dJ s.heap (jP f) (e7 hb)).trans hu) ⟨_,q⟩ ?_;exact⟨hz,its',_,hv,q⟩
theorem Inv.abz{bL:List Value}{t':Nat}(I:Inv X pins σ H s)(hv:Vals ys bL)(hz:ys.length<=a8) :
  Inv X pins σ (upd H s.heap.objs.size (.lst ys)) { s with heap:=s.heap.push { cls:=.type "list",data:=.seq bL.toArray },toks:=t' } :=
 I.laid (fun _ _ q=>aF _ q) (aE _) ⟨hz,bL,0,hv,a9 _ rfl⟩
theorem Inv.Y5 (I:Inv X pins σ H s) (hH:H l=some (.lst xs)):xs.length<=a8/\∃ (bL:List Value) (n:Nat),Vals xs bL/\xs.length=bL.length/\s.heap.get? l=some { cls:=.type "list",data:=.seq bL.toArray n }:=by
 obtain⟨z,bL,n,r,e⟩:=I.b7 l _ hH;exact⟨z,bL,n,r,r.length,e⟩
def QI{n:Nat}(h:n<=a8):ky n=false:=by
 unfold ky;exact decide_eq_false (by lia)
end
section
variable {X:Cx}
def TV:V->List V->Hp->VK->Prop:=fun x vs H Q=>∃ l xs y,x=.ref l/\vs=[y]/\H l=some (.lst xs)/\xs.length < a8/\Q .eT (upd H l (.lst (xs++[y])))
theorem CZ:MtM X "list.append" TV:=by
 intro pins s σ H x vs v us Q I rx rv h;obtain⟨l,xs,y,rfl,rfl,hH,hz,q⟩:=h;cases rx;obtain⟨u,rfl,ru⟩:=rv.one;obtain⟨z,bL,n,r,hl,e⟩:=I.Y5 hH;refine Jk F.slot_list_append ⟨_,e,rfl⟩ F.entry_list_append (F.args_list_append_2 _ _) (PySem.list_append l bL.toArray n u (by rw [aW]; lia)) ⟨e,?_⟩;refine⟨.eT,_,I.Y6 (its':=bL++[u]) hH e (by simp) (r.append (.cons ru .nil)) ?_,rfl,q⟩;rw [aC,cx];lia
end
section
variable {κ:Type} [DecidableEq κ]
def mY(kvs:List (κ×V))(k:κ):Option V:=(kvs.find? fun kv=>decide (kv.1=k)).map (·.2)
def putK(kvs:List (κ×V))(k:κ)(v:V):List (κ×V) :=
 if (kvs.any fun kv=>decide (kv.1=k))=true then kvs.map (fun kv=>if kv.1=k then (kv.1,v) else kv) else kvs++[(k,v)]
def sC{p:κ×V}{r:List (κ×V)}{k:κ}(e:p.1=k):mY (p :: r) k=some p.2:=by simp [mY,d4,e]
def sD{p:κ×V}{r:List (κ×V)}{k:κ}(e:¬ p.1=k):mY (p :: r) k=mY r k:=by simp [mY,d4,e]
theorem Gf(k:κ):∀ kvs:List (κ×V),(kvs.any fun kv=>decide (kv.1=k))=(mY kvs k).isSome
 | []=>rfl
 | p :: r=>by
  rw [mE];by_cases e:p.1=k
  ·simp only [sC e,decide_eq_true e,Bool.true_or,Option.isSome_some]
  ·rw [sD e,decide_eq_false e,O6]; exact Gf k r
def yM(kvs:List (κ×V))(k:κ)(v:V):(putK kvs k v).length<=kvs.length+1:=by
 unfold putK;split
 ·rw [aq]; lia
 ·rw [aC,ah,aw]; lia
theorem yq.pM{o:Option V}{u:Option Value}(r:yq o u):o.isSome=u.isSome:=by
 cases o with
 | none=>cases u with
  | none=>rfl
  | some _=>exact(show False from r).elim
 | some _=>cases u with
  | none=>exact(show False from r).elim
  | some _=>rfl
theorem yq.getD{o:Option V}{u:Option Value}{d:V}{d':Value}(r:yq o u)(rd:RelV d d'):RelV (o.getD d) (u.getD d'):=by
 cases o with
 | none=>cases u with
  | none=>exact rd
  | some _=>exact(show False from r).elim
 | some _=>cases u with
  | none=>exact(show False from r).elim
  | some _=>exact r
theorem KV.val{kvs:List (κ×V)}{vs:List (κ×Value)}(r:KV kvs vs)(k:κ):yq (mY kvs k) (Pp vs k):=by
 unfold KV at r;induction r with
 | nil=>exact gf
 | @cons p q ps qs h t ih =>
  obtain⟨h1,h2⟩:=h;by_cases e:p.1=k
  ·have e':q.1=k:=h1.symm.trans e;have b:Pp (q :: qs) k=some q.2:=by simp [Pp,d4,e']
   rw [sC e,b]; exact h2
  ·have e':¬ q.1=k:=fun z=>e (h1.trans z);have b:Pp (q :: qs) k=Pp qs k:=by simp [Pp,d4,e']
   rw [sD e,b]; exact ih
theorem KV.any{kvs:List (κ×V)}{vs:List (κ×Value)}(r:KV kvs vs)(k:κ):(kvs.any fun kv=>decide (kv.1=k))=vs.any fun kv=>decide (kv.1=k):=by
 unfold KV at r;induction r with
 | nil=>rfl
 | cons h t ih=>rw [mE,mE,ih,h.1]
theorem KV.Qa{kvs:List (κ×V)}{vs:List (κ×Value)}(r:KV kvs vs)(k:κ){y:V}{u:Value}(ry:RelV y u) :
  KV (kvs.map fun kv=>if kv.1=k then (kv.1,y) else kv) (vs.map fun kv=>if kv.1=k then (kv.1,u) else kv):=by
 unfold KV at r ⊢;induction r with
 | nil=>exact .nil
 | @cons p q ps qs h t ih =>
  rw [ak,ak];refine .cons ?_ ih;obtain⟨h1,h2⟩:=h;by_cases e:p.1=k
  ·rw [if_pos e,if_pos (h1.symm.trans e)]; exact⟨h1,ry⟩
  ·rw [if_neg e,if_neg (fun z=>e (h1.trans z))]; exact⟨h1,h2⟩
theorem KV.put{kvs:List (κ×V)}{vs:List (κ×Value)}(r:KV kvs vs)(k:κ){y:V}{u:Value}(ry:RelV y u):KV (putK kvs k y) (stored vs k u):=by
 unfold putK stored;rw [r.any k];by_cases e:(vs.any fun kv=>decide (kv.1=k))=true
 ·rw [if_pos e,if_pos e]; exact r.Qa k ry
 ·rw [if_neg e,if_neg e]; exact SU r ⟨rfl,ry⟩
def KV.length{kvs:List (κ×V)}{vs:List (κ×Value)}(r:KV kvs vs):kvs.length=vs.length:=i9 r
end
theorem A8{P:bE}{w:World}{k:Key}{u:Value}(r:RelV (kV k) u):(cJ P w).is k u=true:=by
 cases k with
 | inl i=>obtain⟨t,e⟩:=(show ∃ t,u=fG i t from r); subst e; exact Hd P w i t
 | inr x=>obtain⟨t,e⟩:=(show ∃ t,u=Value.str x t from r); subst e; exact Hb P w x t
theorem C9{P:bE}{w:World}:∀ {ks:List Key} {us:List Value},Vals (ks.map kV) us->ItemsAre (cJ P w) ks us
 | [],_,r=>by rw [aQ] at r; cases r; exact .nil
 | k :: ks,_,r=>by
  rw [ak] at r;cases r with
  | cons h t=>exact .cons (A8 h) (C9 t)
abbrev KT(H:Hp):List (List Key×V)->List (List Key×Addr×Value)->Prop:=lC fun p q=>p.1=q.1/\H q.2.1=some (.tup (p.1.map kV))/\RelV p.2 q.2.2
theorem KT.val{H:Hp}{kvs:List (List Key×V)}{xs:List (List Key×Addr×Value)}(r:KT H kvs xs)(k:List Key):yq (mY kvs k) ((atKey xs k).map (·.2)):=by
 induction r with
 | nil=>exact gf
 | @cons p q ps qs h t ih =>
  obtain⟨h1,_,h2⟩:=h;by_cases e:p.1=k
  ·have e':q.1=k:=h1.symm.trans e;have b:atKey (q :: qs) k=some q.2:=by simp [atKey,d4,e']
   rw [sC e,b]; exact h2
  ·have e':¬ q.1=k:=fun z=>e (h1.trans z);have b:atKey (q :: qs) k=atKey qs k:=by simp [atKey,d4,e']
   rw [sD e,b]; exact ih
theorem KT.Qa{H:Hp}{kvs:List (List Key×V)}{xs:List (List Key×Addr×Value)}(r:KT H kvs xs)(k:List Key){y:V}{u:Value}(ry:RelV y u) :
  KT H (kvs.map fun kv=>if kv.1=k then (kv.1,y) else kv) (xs.map (putAt k u)):=by
 induction r with
 | nil=>exact .nil
 | @cons p q ps qs h t ih =>
  rw [ak,ak];refine .cons ?_ ih;obtain⟨h1,h2,h3⟩:=h;unfold putAt;by_cases e:p.1=k
  ·rw [if_pos e,if_pos (h1.symm.trans e)]; exact⟨h1,h2,ry⟩
  ·rw [if_neg e,if_neg (fun z=>e (h1.trans z))]; exact⟨h1,h2,h3⟩
theorem KT.put{H:Hp}{kvs:List (List Key×V)}{xs:List (List Key×Addr×Value)}(r:KT H kvs xs)(k:List Key){b:Addr}{y:V}{u:Value}(hb:H b=some (.tup (k.map kV)))(ry:RelV y u) :
  KT H (putK kvs k y) (Je xs k b u):=by
 have e:(kvs.any fun kv=>decide (kv.1=k))=(atKey xs k).isSome:=by
  rw [Gf,(r.val k).pM,BV]
 unfold putK Je;rw [e];by_cases q:(atKey xs k).isSome=true
 ·rw [if_pos q,if_pos q]; exact r.Qa k ry
 ·rw [if_neg q,if_neg q]; exact SU r ⟨rfl,hb,ry⟩
theorem KT.keeps{H H':Hp}{kvs:List (List Key×V)}{xs:List (List Key×Addr×Value)}(r:KT H kvs xs)(ht:∀ b ys,H b=some (.tup ys)->H' b=some (.tup ys)):KT H' kvs xs :=
 Paired.Uu r fun _ _ z=>⟨z.1,ht _ _ z.2.1,z.2.2⟩
section
variable {P:bE} {w:World} {H:Hp} {h:Heap} {a:Addr}
def Vn{u:HO}(ok:oE P w H h)(e:Rd H a u):fE P w H h a u:=e.ok ok
def uV{kvs:List (Key×V)}(ok:oE P w H h)(e:Rd H a (.dK kvs)):kvs.length<=a8/\(a == dh)=false/\∃ vs,KV kvs vs/\h.DictOf (cJ P w) a vs :=
 show fE P w H h a (.dK kvs) from Vn ok e
def Dw{kvs:List (Key×V)}(ok:oE P w H h)(e:H a=some (.dK kvs)):kvs.length<=a8/\(a == dh)=false/\∃ vs,KV kvs vs/\h.DictOf (cJ P w) a vs:=uV ok (.inl e)
theorem xZ{ks:List Key}(ok:oE P w H h)(e:H a=some (.tup (ks.map kV))):(jg (cJ P w)).is h ks a:=by
 obtain⟨_,bL,r,o,h1,h2,n,h3⟩:=(show fE P w H h a (.tup (ks.map kV)) from ok a _ e);exact⟨o,bL.toArray,n,h1,h2,h3,by simpa using C9 r⟩
theorem Bq{kvs:List (List Key×V)}(ok:oE P w H h)(e:Rd H a (.dT kvs)):kvs.length<=a8/\(a == dh)=false /\
  ∃ xs,KT H kvs xs/\h.DictOfH (jg (cJ P w)) a xs:=by
 obtain⟨z,y,xs,r,o,es,ep,h1,h2,h3,h4,h5⟩:=(show fE P w H h a (.dT kvs) from Vn ok e);refine⟨z,y,xs,r,o,es,ep,h1,h2,h3,h4,fun x hx=>?_,h5⟩;have all:∀ {l:List (List Key×V)} {m:List (List Key×Addr×Value)},KT H l m->∀ x∈m,(jg (cJ P w)).is h x.1 x.2.1:=by
  intro l m q;induction q with
  | nil=>intro x hx; exact nomatch hx
  | @cons p q ps qs hq t ih =>
   intro x hx;rcases List.mem_cons.mp hx with e | hx
   ·subst e;exact xZ ok (by rw [<-hq.1]; exact hq.2.1)
   ·exact ih x hx
 exact all r x hx
def RW{kvs:List (List Key×V)}(ok:oE P w H h)(e:H a=some (.dT kvs)):kvs.length<=a8/\(a == dh)=false /\
  ∃ xs,KT H kvs xs/\h.DictOfH (jg (cJ P w)) a xs:=Bq ok (.inl e)
end
def BR(H:Hp)(a:Addr)(y:V)(r:Option V):Prop :=
 (∃ kvs k,Rd H a (.dK kvs)/\y=kV k/\r=mY kvs k)\/∃ kvs k b,Rd H a (.dT kvs)/\y=.ref b/\H b=some (.tup (k.map kV))/\r=mY kvs k
def OX(H:Hp)(a:Addr)(y v:V)(H':Hp):Prop :=
 (∃ kvs k,H a=some (.dK kvs)/\y=kV k/\kvs.length < a8/\H'=upd H a (.dK (putK kvs k v))) \/
 ∃ kvs k b,H a=some (.dT kvs)/\y=.ref b/\H b=some (.tup (k.map kV))/\kvs.length < a8/\H'=upd H a (.dT (putK kvs k v))
def BR.k{H:Hp}{a:Addr}{kvs:List (Key×V)}{k:Key}(e:H a=some (.dK kvs)):BR H a (kV k) (mY kvs k):=.inl ⟨kvs,k,.inl e,rfl,rfl⟩
def BR.t{H:Hp}{a b:Addr}{kvs:List (List Key×V)}{k:List Key}(e:H a=some (.dT kvs))(eb:H b=some (.tup (k.map kV))):BR H a (.ref b) (mY kvs k):=.inr ⟨kvs,k,b,.inl e,rfl,eb,rfl⟩
def OX.k{H:Hp}{a:Addr}{kvs:List (Key×V)}{k:Key}{v:V}(e:H a=some (.dK kvs))(hl:kvs.length < a8):OX H a (kV k) v (upd H a (.dK (putK kvs k v))):=.inl ⟨kvs,k,e,rfl,hl,rfl⟩
theorem OX.t{H:Hp}{a b:Addr}{kvs:List (List Key×V)}{k:List Key}{v:V}(e:H a=some (.dT kvs))(eb:H b=some (.tup (k.map kV)))(hl:kvs.length < a8) :
  OX H a (.ref b) v (upd H a (.dT (putK kvs k v))):=.inr ⟨kvs,k,b,e,rfl,eb,hl,rfl⟩
section
variable {X:Cx} {pins:List (Addr×Obj)} {σ:St} {H:Hp} {s:ay} {a:Addr} {y v:V} {u r:Value} {o:Option V} {A:cO} {E:Value->ay->Prop}
def Inv.big(I:Inv X pins σ H s):dh < s.heap.objs.size:=by
 have h:bz < s.heap.objs.size:=(I.mod.glob.keeps I.bk).lt;exact Nat.lt_trans (by decide) h
theorem yg{Q:Value->ay->Prop}(hu:A.units+1 < cLine)(I:Inv X pins σ H s)(g:BR H a y (some v))(ry:RelV y u)(h:∀ w' s',Inv X pins σ H s'->RelV v w'->Q w' s') :
  wpAny (model X.prog X.w) A (getItem (.ref a) u) Q E s:=by
 rcases g with ⟨kvs,k,e,ey,l⟩ | ⟨kvs,k,b,e,ey,eb,l⟩
 ·subst ey;obtain⟨z,hd,vs,rel,dd⟩:=uV I.b7 e;obtain⟨w',hw,rQ⟩:=yq.some_of (v:=v) (o:=Pp vs k) (by rw [l]; exact rel.val k);exact wpAny_getItem_of (A8 ry) dd.mapOf hw (h w' _ (I.tok _) rQ)
 ·subst ey;cases (show u=fe b from ry);obtain⟨z,hd,xs,rel,dd⟩:=Bq I.b7 e;obtain⟨w',hw,rQ⟩:=yq.some_of (v:=v) (o:=(atKey xs k).map (·.2)) (by rw [l]; exact rel.val k);obtain⟨p,hp,pz⟩:=Option.map_eq_some_iff.mp hw;refine wpAny_getItem_heap (nM hu) (xZ I.b7 eb) dd hp ?_;rw [pz];exact h w' _ (I.tok _) rQ
theorem ZR{Q:Value->ay->Prop}(hu:A.units+1 < cLine)(I:Inv X pins σ H s)(g:BR H a y o)(ry:RelV y u)(h:∀ s',Inv X pins σ H s'->Q (.bool o.isSome) s') :
  wpAny (model X.prog X.w) A (eU .In u (.ref a)) Q E s:=by
 rcases g with ⟨kvs,k,e,ey,l⟩ | ⟨kvs,k,b,e,ey,eb,l⟩
 ·subst ey;obtain⟨z,hd,vs,rel,dd⟩:=uV I.b7 e;refine wpAny_in_of (A8 ry) hd dd.mapOf ?_;rw [<-(rel.val k).pM,<-l];exact h _ (I.tok _)
 ·subst ey;cases (show u=fe b from ry);obtain⟨z,hd,xs,rel,dd⟩:=Bq I.b7 e;refine wpAny_in_heap (nM hu) (xZ I.b7 eb) hd dd ?_;have q:=(rel.val k).pM;rw [BV] at q;rw [<-q,<-l];exact h _ (I.tok _)
theorem MU{Q:Value->ay->Prop}(hu:A.units+1 < cLine)(I:Inv X pins σ H s)(g:BR H a y o)(ry:RelV y u)(h:∀ s',Inv X pins σ H s'->Q (.bool (!o.isSome)) s') :
  wpAny (model X.prog X.w) A (eU .NotIn u (.ref a)) Q E s:=by
 rcases g with ⟨kvs,k,e,ey,l⟩ | ⟨kvs,k,b,e,ey,eb,l⟩
 ·subst ey;obtain⟨z,hd,vs,rel,dd⟩:=uV I.b7 e;refine wpAny_notIn_of (A8 ry) hd dd.mapOf ?_;rw [<-(rel.val k).pM,<-l];exact h _ (I.tok _)
 ·subst ey;cases (show u=fe b from ry);obtain⟨z,hd,xs,rel,dd⟩:=Bq I.b7 e;refine wpAny_notIn_heap (nM hu) (xZ I.b7 eb) hd dd ?_;have q:=(rel.val k).pM;rw [BV] at q;rw [<-q,<-l];exact h _ (I.tok _)
theorem uw{h':Heap}{t':Nat}{ob:HO}(I:Inv X pins σ H s)(mu:Z8 (H a))(hs:fX a s.heap h')(he:∃ q,h'.get? a=some q)(new:fE X.prog X.w (upd H a ob) h' a ob) :
  Inv X pins σ (upd H a ob) { s with heap:=h',toks:=t' } :=
 I.write (x:=a) (e:=a) mu (.inl rfl) (fun b q hb z=>(hs.2 b hb).trans z) he new
theorem E1{P:bE}{w:World}{H':Hp}{h':Heap}{kvs:List (Key×V)}{vs:List (Key×Value)}(z:kvs.length<=a8)(hd:(a == dh)=false)(rel:KV kvs vs)(dd:h'.DictOf (cJ P w) a vs) :
  fE P w H' h' a (.dK kvs):=⟨z,hd,vs,rel,dd⟩
theorem OB{H':Hp}{Q:Unit->ay->Prop}(hu:A.units+1 < cLine)(I:Inv X pins σ H s)(g:OX H a y v H')(ry:RelV y u)(rv:RelV v r)(h:∀ s',Inv X pins σ H' s'->Q () s') :
  wpAny (model X.prog X.w) A (setItem (.ref a) u r) Q E s:=by
 rcases g with ⟨kvs,k,e,ey,l,eH⟩ | ⟨kvs,k,b,e,ey,eb,l,eH⟩
 ·subst ey eH;obtain⟨z,hd,vs,rel,dd⟩:=Dw I.b7 e;have hz:vs.length<=a8:=by rw [<-rel.length]; exact z
  have hl:(putK kvs k v).length<=a8:=by have:=yM kvs k v; lia
  refine wpAny_setItem_pairs (hsz:=hz) (A8 ry) dd fun h' Bt hs=>h _ ?_;have he:∃ q,h'.get? a=some q:=let ⟨q,_,_,hq,_⟩:=Bt; ⟨q,hq⟩
  exact uw I (by rw [e]; exact gf) hs he (E1 hl hd (rel.put k rv) Bt)
 ·subst ey eH;cases (show u=fe b from ry);obtain⟨z,hd,xs,rel,dd⟩:=RW I.b7 e;have hz:xs.length<=a8:=by rw [<-i9 rel]; exact z
  have hl:(putK kvs k v).length<=a8:=by have:=yM kvs k v; lia
  refine wpAny_setItem_heap (hsz:=hz) (nM hu) (xZ I.b7 eb) dd fun h' Bt hs=>h _ ?_;obtain⟨q,es,ep,hq,h2,h3,h4,_,h5⟩:=Bt;refine uw I (by rw [e]; exact gf) hs ⟨q,hq⟩ ⟨hl,hd,_,(rel.put k eb rv).keeps fun c ys ec=>?_,q,es,ep,hq,h2,h3,h4,h5⟩;rw [bG (Vy ec e (fun z=>nomatch z))];exact ec
end
section
variable {X:Cx} {pins:List (Addr×Obj)} {σ:St} {H:Hp} {s:ay} {a:Addr} {kvs:List (Key×V)} {k:Key} {u:Value} {A:cO} {E:Value->ay->Prop}
theorem VY {Q:Value->ay->Prop} (I:Inv X pins σ H s) (e:Rd H a (.dK kvs)) (h:∀ t s',Inv X pins σ H s'->Q (.int kvs.length t) s'):wpAny (model X.prog X.w) A (call (.builtin "len") [.ref a]) Q E s:=by
 obtain⟨z,hd,vs,rel,dd⟩:=uV I.b7 e;refine call_len_dict hd dd (by rw [<-rel.length]; rw [cD] at z; lia) ?_;rw [<-rel.length];exact h _ _ (I.tok _)
theorem UP{Q:Bool->ay->Prop}(I:Inv X pins σ H s)(e:Rd H a (.dK kvs))(h:∀ s',Inv X pins σ H s'->Q (!kvs.isEmpty) s'):wpAny (model X.prog X.w) A (truthy (.ref a)) Q E s:=by
 obtain⟨z,hd,vs,rel,dd⟩:=uV I.b7 e;refine Jc hd dd (by rw [<-rel.length]; rw [cD] at z; lia) ?_;have q:kvs.isEmpty=vs.isEmpty:=by cases rel <;> rfl
 rw [<-q];exact h _ (I.tok _)
end
theorem tH {X:Cx} {pins:List (Addr×Obj)} {σ:St} {H:Hp} {s:ay} {a:Addr} {y:V} {o:Option V} (I:Inv X pins σ H s) (g:BR H a y o):s.TypeIs (.ref a) "dict":=by
 rcases g with ⟨kvs,k,e,_,_⟩ | ⟨kvs,k,b,e,_,_,_⟩
 ·obtain⟨_,_,vs,_,dd⟩:=uV I.b7 e;exact dd.typeIs
 ·obtain⟨_,_,xs,_,dd⟩:=Bq I.b7 e;exact dd.typeIs
theorem H0 {P:bE} {w:World} {H:Hp} (h:Heap) (hb:dh < h.objs.size):fE P w H (h.push { cls:=.type "dict",data:=.dict #[] }) h.objs.size (.dK []) :=
 ⟨cw _,beq_eq_false_iff_ne.mpr (e7 (bx hb)),[],.nil,Heap.DictOf.new h⟩
def Wn:TE:=fun _ H Q=>∀ p,H p=none->Q (.ref p) (upd H p (.dK []))
section
variable {X:Cx} {pos:Pos}
theorem Qu:PE X (.Dict [] [] pos) Wn:=fun pins s σ H Q I h =>
 wpAny_Dict_empty ⟨.ref s.heap.objs.size,_,I.laid (a:=s.heap.objs.size) (o:=.dK []) (t':=s.toks) (fun _ _ q=>aF _ q) (aE _) (H0 s.heap I.big),rfl,h _ (I.b7.fresh (aE _))⟩
end
abbrev VV:List (V×V)->List (Value×Value)->Prop:=lC fun p q=>RelV p.1 q.1/\RelV p.2 q.2
def Kf(kvs more:List (Key×V)):List (Key×V):=more.foldl (fun acc kv=>putK acc kv.1 kv.2) kvs
theorem KV.merge:∀ {more:List (Key×V)} {rs:List (Key×Value)} {kvs:List (Key×V)} {vs:List (Key×Value)},KV more rs->KV kvs vs->KV (Kf kvs more) (merged vs rs):=by
 intro more rs kvs vs r;unfold KV at r;induction r generalizing kvs vs with
 | nil=>intro q; exact q
 | @cons p q ps qs h t ih =>
  intro r0;have e:KV (putK kvs p.1 p.2) (stored vs q.1 q.2):=by
   have:=r0.put p.1 h.2;rw [<-h.1]; exact this
  exact ih e
theorem Bz{P:bE}{w:World}:∀ {kvs:List (Key×V)} {ws:List (Value×Value)},VV (kvs.map fun kv=>(kV kv.1,kv.2)) ws->∃ rs,Carries (cJ P w) ws rs/\KV kvs rs
 | [],_,r=>by rw [aQ] at r; cases r; exact⟨[],gf,.nil⟩
 | p :: kvs,_,r=>by
  rw [ak] at r;cases r with
  | @cons a b as bs h t =>
   obtain⟨rs,c,q⟩:=Bz (P:=P) (w:=w) t;obtain⟨b1,b2⟩:=b;exact⟨(p.1,b2) :: rs,⟨A8 h.1,rfl,c⟩,.cons ⟨rfl,h.2⟩ q⟩
def IsD(H:Hp)(a:Addr):Prop:=(∃ kvs,Rd H a (.dK kvs))\/∃ kvs,Rd H a (.dT kvs)
theorem Rh{X:Cx}{pins:List (Addr×Obj)}{σ:St}{H:Hp}{s:ay}{a:Addr}(I:Inv X pins σ H s)(d:IsD H a) :
  s.TypeIs (.ref a) "dict"/\(∀ b,fe a=.ref b->∃ ob,s.heap.get? b=some ob/\ob.dict=none)/\(a == dh)=false:=by
 rcases d with ⟨kvs,e⟩ | ⟨kvs,e⟩
 ·obtain⟨_,hd,vs,_,dd⟩:=uV I.b7 e;refine⟨dd.typeIs,fun b q=>?_,hd⟩;cases q;obtain⟨ob,_,_,h1,h2,_⟩:=dd;exact⟨ob,h1,h2.2.1⟩
 ·obtain⟨_,hd,xs,_,dd⟩:=Bq I.b7 e;refine⟨dd.typeIs,fun b q=>?_,hd⟩;cases q;obtain⟨ob,_,_,h1,h2,_⟩:=dd;exact⟨ob,h1,h2.2.1⟩
end L2
namespace Att
open PySem PySem.W PySem.Calls PyProof.Rows
theorem zb{P:Params}{h:Heap}:∀ (ns:List Int) (vs:List Value),WellAll P h vs (ns.map WData.int)->nN vs ns:=by
 intro ns;induction ns with
 | nil =>
  intro vs w;rw [aQ] at w;cases w;exact .nil
 | cons n ns ih =>
  intro vs w;rw [ak] at w;cases w with
  | cons a b =>
   cases a;exact .cons _ _ (ih _ b)
theorem Nx{l:OpenLaw}{n:Nat}(hn:l.most=some n){P:Params}{h:Heap}{args:List WData}{vals:List Value}
  (UC:l.row.toRowW.claim.pre args=true) (hwl:WellAll P h vals args) :
  ∃ a vs ns,vals=[fe a]/\args=[WData.list (ns.map WData.int)]/\h.get? a=some { cls:=.type "list",data:=.seq vs.toArray }/\nN vs ns/\ns.length<=n:=by
 have hsh:WShape.hasAll [] args [.list .int]=true:=(pre_splitW UC).1;have hc:l.pre.holds [] { args:=args } = true:=(pre_splitW UC).2;obtain⟨d,r,rfl,h1,h2⟩:=hasAllW_cons hsh;obtain rfl:=hasAllW_nil h2;obtain⟨xs,rfl,h3⟩:=hasW_list h1;obtain⟨ns,rfl⟩:=items_int h3;have hlen:ns.length<=n:=by
  unfold OpenLaw.pre at hc;have h4:(WTm.not (.lt (.lit (.int (n:Int))) (.len (.arg 0)))).holds [] { args:=[.list (ns.map .int)] } = true:=by
   have h4:=(holds_andW hc).1;rw [hn] at h4;exact h4
  have h5:=condW_of h4 (w_not (w_lt w_lit (w_len_list (w_arg rfl))));rw [aq] at h5;refine Nat.le_of_not_lt fun q=>?_;have q':(n:Int) < ((ns.length:Nat):Int):=by lia
  first
   | (rw [decide_eq_true q'] at h5; exact absurd h5 (by decide))
   | (simp at h5; lia)
 cases hwl with
 | cons w1 w2 =>
  cases w2;cases w1 with
  | list ho wN=>exact⟨_,_,ns,rfl,rfl,ho,zb ns _ wN,hlen⟩
theorem NM(l:OpenLaw)(args:List WData):l.row.toRowW.claim.post args (.bool true) args=true :=
 postW_of (r:=l.row.toRowW) (X:=(true == true))
  (show WShape.has [] (.bool true) .bool=true by first | rfl | decide | simp [WShape.has,WShape.arms,WShape.armsAll])
  (show (WTm.eq .res (.lit (.bool true))).value [] { args:=args,res:=some (.bool true),after:=args } = some (.bool (true == true)) from w_eq_bool (w_res rfl) w_lit) rfl
theorem Iy{l:OpenLaw}{n:Nat}{q:bE}{loose:List Str}{XP:(Str->Option Value)->Heap->Prop}{YP:World->Heap->Prop}{d:DefRec}
  (hn:l.most=some n) (ZD:d.params.defaults=[])
  (call:∀ (w:World) (jk fk:ay) (mg mb:Str->Option Value) (fa:Addr) (o:Obj) (pm cd doc:Value) (a:Addr) (vs:List Value) (ns:List Int),
   Ground q loose [] XP w jk mg mb fk.heap->YP w fk.heap ->
   fk.heap.get? fa=some o->o.data=.func (docDef d.name d.params d.body d.scope pm cd doc)->fk.heap.CodeRec cd d.name->mg d.name=some (.ref fa) ->
   fk.heap.get? a=some { cls:=.type "list",data:=.seq vs.toArray }->nN vs ns->ns.length<=n->fk.gens=#[] ->
   zV (model l.prog w) Jj (.call (.ref fa) ⟨[.ref a],[]⟩) (fun r s'=>r=.ok (.ret (.bool true))/\OldK fk.heap s'.heap/\s'.os=fk.os/\z8 s'.gens) fk) :
  WalkO q loose XP YP l.row.toRowW d [] (fun f vs=>Lx f vs):=by
 intro w jk fk mg mb G Y fa o pm cd doc dV kV ho hd Ja hD Zu hg args vals as UC age hrd hwl hlo;obtain rfl:dV=.none:=Dflts.none hD ZD;obtain rfl:kV=.none:=Dflts.noKw hD;obtain⟨a,vs,ns,rfl,rfl,Rz,hints,hlen⟩:=Nx hn UC hwl;refine enter_call (pA (call w jk fk mg mb fa o pm cd doc a vs ns G Y ho (fd_plain hd) Ja Zu Rz hints hlen hg) fun r s' hq=>?_);obtain⟨rfl,h2,h3,h4⟩:=hq;exact⟨.inl ⟨.bool true,.bool true,[],rfl,fun _=>rfl,.bool true,NM l _,fun _=>⟨List.Pairwise.nil,fun _ hm=>(nomatch hm)⟩⟩,h2,h3,h4⟩
end Att
namespace L2
open PySem PySem.Spec PyProof.Rows
def CF:∀ {vs:List Value} {ns:List Int},nN vs ns->Vals (ns.map V.int) vs
 | _,_,.nil=>.nil
 | _,_,.cons n t h=>.cons ⟨t,rfl⟩ (CF h)
def Va(H:Hp):Prop:=∀ b,H b=none\/∃ o xs,H b=some (.iN o (.lst xs))
theorem QZ{P:bE}{w:World}{K:aj}{mg mb:Str->Option Value}{CX:Na}{k:Nat}{fa a:Addr}{fd:fH}{x:Str}{sp:Sp}{fk:ay}{vs:List Value}{ns:List Int}
  (KX:K.In fk.heap) (Oi:fk.heap.Ns bz mg) (hb:fk.heap.Ns builtinsNs mb) (hbb:∀ x:Str,x≠"__name__"->mb x=eZ x) (acd:fk.heap.NoLimit) (hg:fk.gens=#[])
  (ha:fk.heap.get? a=some { cls:=.type "list",data:=.seq vs.toArray }) (hi:nN vs ns) (hl:ns.length<=a8) (hr:kM k Jj)
  (F:∀ base:Heap,K.In base->base.Ns bz mg->tT P w K mg base CX k fa fd [x] sp) (ZI:∀ (s:ay) (u:Value),BindsTo s fd ⟨[u],[]⟩ [(x,u)])
  (Rt:∀ H:Hp,Va H->qb K H a (ns.map V.int)->sp [.ref a] H (fun v _=>v=.bl true) fun _ _ _=>False)
  (hCX:∀ H e s',CX [] H fk (fun _ _ _=>False) e s'->False) :
  zV (model P w) Jj (.call (.ref fa) ⟨[.ref a],[]⟩) (fun r s'=>r=.ok (.ret (.bool true))/\OldK fk.heap s'.heap/\s'.os=fk.os/\z8 s'.gens) fk:=by
 have rv:=CF hi;have abC:=hi.length;have core:∀ H:Hp,Va H->qb K H a (ns.map V.int)->oE P w H fk.heap->(∀ b,H b≠none->b=a)->(H a≠none->K.lookup a=none) ->
   zV (model P w) Jj (.call (.ref fa) ⟨[.ref a],[]⟩) (fun r s'=>r=.ok (.ret (.bool true))/\OldK fk.heap s'.heap/\s'.os=fk.os/\z8 s'.gens) fk:=by
  intro H hO hS b7 hA hK;have M1:∀ {b:Addr} {o:Obj},fk.heap.get? b=some o->H b=none->(EF fk.heap H).get? b=some o:=fun e n=>RC e n;have Y1:∀ {b:Addr} {o:Obj} {es:Array fV} {ep:Nat},fk.heap.get? b=some o->o.data=.dict es ep->H b=none:=fun {b o es ep} e d=>by
   cases q:H b with
   | none=>rfl
   | some u =>
    have e':b=a:=hA b (by rw [q]; simp);subst e';rw [ha] at e; cases e;have d':Data.seq vs.toArray _=Data.dict es ep:=d;cases d'
  have nsK:∀ {b:Addr} {m:Str->Option Value},fk.heap.Ns b m->(EF fk.heap H).Ns b m:=fun {b m} ⟨o,es,ep,e,d,r⟩=>⟨o,es,ep,M1 e (Y1 e d),d,r⟩;have hKb:K.In (EF fk.heap H):=fun b o e=>M1 (KX b o e) (by
   cases q:H b with
   | none=>rfl
   | some u =>
    have e':b=a:=hA b (by rw [q]; simp);subst e';rw [hK (by rw [q]; simp)] at e; cases e)
  have hM:Mod K mg (EF fk.heap H):=⟨hKb,nsK Oi,⟨mb,nsK hb,hbb⟩,let ⟨mc,h1,h2⟩:=acd; ⟨mc,nsK h1,h2⟩⟩;have e0:SK P w K mg (EF fk.heap H) Jj [] fk H:=⟨rfl,hM,fun b o e=>Uq e,Nat.le_of_eq (Om _ _),trivial,fun b hb=>absurd (show b∈([]:List Addr) from hb) (by simp),b7,.of_eq hg⟩;refine pA ((F _ hKb (nsK Oi)).run Jj [] fk H ⟨[.ref a],[]⟩ [.ref a] [.ref a] _ _ hr e0 (ZI fk (.ref a)) (.cons rfl .nil) (Rt H hO hS)) fun r s' h=>?_;cases r with
  | error e=>exact(hCX H e s' h).elim
  | ok fl =>
   cases fl with
   | next=>exact bI h
   | brk=>exact bI h
   | cont=>exact bI h
   | ret u =>
    obtain⟨v,H',os,bare,un,KA,r',q⟩:=h;have q':v=.bl true:=q;subst q';obtain rfl:u=Value.bool true:=r';refine⟨rfl,OldK.of_keep fun b o e=>?_,os,bare⟩;cases q:H b with
    | none=>exact un.keep b o e q (by intro z; exact absurd (show b∈([]:List Addr) from z) (by simp)) (by simp)
    | some u =>
     rcases hO b with z | ⟨ob,xs,z⟩
     ·rw [q] at z; cases z
     ·have z2:=un.qN b ob _ z;obtain⟨e1,_⟩:=b7 b _ z;obtain⟨e2,_⟩:=KA b _ z2;rw [e] at e1; cases e1;exact e2
 cases hk:K.lookup a with
 | some o =>
  have e:=KX a o hk;rw [ha] at e;cases e;refine core (fun _=>none) (fun _=>.inl rfl) (.inr ⟨_,vs.toArray,_,hk,rfl,rfl,rfl,by rw [aW,abC]; exact hl,by simpa using rv⟩) (fun b u z=>by have z':(none:Option HO)=some u:=z; cases z') (fun b z=>absurd rfl z) fun z=>absurd rfl z
 | none =>
  refine core (fun b=>if b=a then some (.iN { cls:=.type "list",data:=.seq vs.toArray } (.lst (ns.map V.int))) else none) (fun b=>?_) (.inl (.inr ⟨{ cls:=.type "list",data:=.seq vs.toArray },if_pos rfl⟩)) (fun b u z=>?_) (fun b z=>?_) fun _=>hk
  ·by_cases hb:b=a
   ·exact .inr ⟨_,_,if_pos hb⟩
   ·exact .inl (if_neg hb)
  ·by_cases hb:b=a
   ·have z':=(if_pos hb).symm.trans z;cases z';subst hb;exact⟨ha,by rw [aq]; exact hl,vs,_,rv,ha⟩
   ·have z':=(if_neg hb).symm.trans z;cases z'
  ·by_cases hb:b=a
   ·exact hb
   ·exact absurd (if_neg hb) z
theorem Tt{l:DR}{n k:Nat}{q:bE}{loose:List Str}{XP:(Str->Option Value)->Heap->Prop}{YP:World->Heap->Prop}{d:DefRec}{K:Params->aj}{CX:World->Na}{sp:World->Sp}{x:Str}
  (hn:l.most=some n) (hn2:n<=a8) (ZD:d.params.defaults=[]) (hr:kM k Jj)
  (hY:∀ (w:World) (h:Heap),YP w h->(K w.params).In h)
  (F:∀ (w:World) (mg:Str->Option Value) (fa:Addr) (h:Heap),(K w.params).In h->h.Ns bz mg->mg d.name=some (.ref fa) ->
   ∃ fd:fH,(∀ (s:ay) (u:Value),BindsTo s fd ⟨[u],[]⟩ [(x,u)]) /\
    ∀ base:Heap,(K w.params).In base->base.Ns bz mg->tT l.prog w (K w.params) mg base (CX w) k fa fd [x] (sp w))
  (Rt:∀ (w:World) (H:Hp) (a:Addr) (ns:List Int),ns.length<=n->Va H->qb (K w.params) H a (ns.map V.int)->sp w [.ref a] H (fun v _=>v=.bl true) fun _ _ _=>False)
  (hCX:∀ (w:World) (H:Hp) (s:ay) (e:Value) (s':ay),CX w [] H s (fun _ _ _=>False) e s'->False) :
  PySem.W.WalkO q loose XP YP l.row.toRowW d [] (fun f vs=>Lx f vs):=by
 refine Att.Iy hn ZD fun w jk fk mg mb fa o pm cd doc a vs ns G Y ho hd Ja Zu Rz hints hlen hg=>?_;have KX:=hY w _ Y;obtain⟨fd,hb,hF⟩:=F w mg fa _ KX G.T.g Zu;exact QZ KX G.T.g G.T.b G.T.builtins G.T.nolimit hg Rz hints (bc hlen hn2) hr hF hb (fun H hO hS=>Rt w H a ns hlen hO hS) fun H e s'=>hCX w H fk e s'
end L2
/- THE ahM aaL (shape; LID,My.* are ac6):
   My.Adr: a structure of the addresses aeV aeO adG names (classes,Yi); My.Txt K t: a structure (Prop) of the equations over K;
   My.aaV:{K} {implicit addresses ..} (e1:nsIn K bz "law" = some (some (.ref f))) (e2:K.lookup f=some ⟨oc,od,.func (fnOf "law" "law" params body scope dV kV doc pm an lx ct),sl⟩) (e3:codeIn K lx "law" = true) ..:∃ t,My.Txt K t
(the tactic k_is has no namespace: write k_is) -/
namespace L2
open PySem PySem.Spec PyProof.Rows
def k9(s:Stmt):Arguments:=match s with
 | .FunctionDef _ a _ _ _ _ _ _ _ _=>a
 | _=>{ posonlyargs:=[],args:=[],vararg:=none,kwonlyargs:=[],kw_defaults:=[],kwarg:=none,defaults:=[] }
def gV(s:Stmt):List Stmt:=match s with
 | .FunctionDef _ _ b _ _ _ _ _ _ _=>b
 | _=>[]
def bO(s:Stmt):Scope:=match s with
 | .FunctionDef _ _ _ _ _ _ sc _ _ _=>sc
 | _=>{ kind:=.function,names:=[],isGenerator:=false,isCoroutine:=false }
abbrev Ls:Na:=fun _ _ _ _ _ _=>False
abbrev E0:XK:=fun _ _ _=>False
def Vt{X:Cx}:Passes Ls X E0:=fun _ _ _ _ _ _ _ h=>h.elim
structure Tg(K:aj)(x qual:Str)(st:Stmt)(f:Addr)(fd:fH):Prop where
 ex:∃ (oc:Value) (od:Option Addr) (kV doc pm:Value) (an:Option Addr) (lx ct:Value) (Mj:Array (Option Value)),
  fd=lg x qual (k9 st) (gV st) (bO st) .none kV doc pm an lx ct/\K.lookup f=some ⟨oc,od,.func fd,Mj⟩/\FV K lx qual=true
 kp:mP K (.ref f)=true
section
variable {P:bE} {w:World} {K:aj} {mg:Str->Option Value} {base:Heap}
theorem Tg.ok{x qual:Str}{st:Stmt}{f:Addr}{fd:fH}{N ps:List Str}{k:Nat}{sp:Sp}(F:Tg K x qual st f fd)(S:lV N ps (bO st))(len:∀ vs H Q E,sp vs H Q E->vs.length=ps.length)
  (RF:∀ (lx:Value) (A:cO) (outer:List Env) (s:ay) (H:Hp) (vs:List V) (Q:VK) (E:XK),kM k (A.deeper (yu qual (bO st) s.heap.objs.size f lx))->sp vs H Q E ->
   ∃ t,Yn (w4 Ls P w K mg base N qual (bO st) f lx A outer s H E).W4 (gV st) t/\t { nx:=fun _ H'=>Q .eT H',rt:=Q } (start N vs) H):tT P w K mg base Ls (k+1) f fd ps sp:=by
 obtain⟨oc,od,kV,doc,pm,an,lx,ct,Mj,rfl,lk,Ja⟩:=F.ex;refine VU lk Ja S len fun A outer s H vs Q E hr Rt=>?_;obtain⟨t,h,q⟩:=RF lx A outer s H vs Q E hr Rt;exact⟨t,h.W4,q⟩
theorem Tg.binds{x qual:Str}{st:Stmt}{f:Addr}{fd:fH}{ps:List Str}(F:Tg K x qual st f fd)
  (h:∀ (kV doc pm:Value) (an:Option Addr) (lx ct:Value) (us:List Value),us.length=ps.length->bindArgs (lg x qual (k9 st) (gV st) (bO st) .none kV doc pm an lx ct) ⟨us,[]⟩=pure (ps.zip us)):Binds K fd ps []:=by
 obtain⟨oc,od,kV,doc,pm,an,lx,ct,Mj,rfl,lk,Ja⟩:=F.ex;exact .all (h kV doc pm an lx ct)
theorem XC{x qual:Str}{st:Stmt}{f:Addr}{oc:Value}{od an:Option Addr}{Mj:Array (Option Value)}{kV doc pm lx ct:Value}(l:K.lookup f=some ⟨oc,od,.func (lg x qual (k9 st) (gV st) (bO st) .none kV doc pm an lx ct),Mj⟩)
  (c:FV K lx qual=true) (k:mP K (.ref f)=true):Tg K x qual st f (lg x qual (k9 st) (gV st) (bO st) .none kV doc pm an lx ct):=⟨⟨oc,od,kV,doc,pm,an,lx,ct,Mj,rfl,l,c⟩,k⟩
end
end L2
namespace K2
open PySem PySem.W PySem.Spec PyProof.Rows PySem.Calls
abbrev Wd(l:OpenLaw)(q:bE)(s:ay):Bool:=xlAt q [] s&&recOk l.row.records s
end K2
namespace Fin
open PySem PySem.Spec PyProof.Rows L2 K2
section
open PySem.W PySem.Calls
def top(i:Nat):Stmt:=PySem.Challenge.pw_knotwise_k63_beside_is_a_product.main.body.getD i (.Pass ⟨0,0,0,0⟩)
def hC (n:Str) (t:Nat) (l:List Value):Obj:=⟨.type "code",none,.fields (.str n t :: .str n (t+1) :: .str "/claim/cut.py" (t+2) :: l).toArray,#[]⟩
def hI(n:Int):Value:=.int n 0
def hR(n:Nat):Value:=.ref n
def hN:Value:=.none
def hT:Value:=.bool true
def hS (n:Nat):Value:=.str "/claim/cut.py" n
def hD(n:Str)(t:Nat)(l a:Int)(r:Nat)(x y z:Value)(u:Nat):Obj:=hC n t [hI l,hI a,hI 0,hI 0,hI 3,hR r,hT,hI 181,hR (r+1),hN,x,y,z,hI (u - 1),hI l,hS u]
abbrev hF (i:Nat) (n:Str) (m c:Value):Obj:=⟨.type "function",none,.func (lg n n (k9 (top i)) (gV (top i)) (bO (top i)) .none .none .none m none c .none),#[]⟩
abbrev hE(P:Params)(s:Str)(t:Nat)(v:Value):fV:=⟨PyData.keyHash P s,.str s t,v⟩
def hQ:bE:=PySem.W.view PySem.Challenge.pw_knotwise_k63_beside_is_a_product [1,2,3,4,6,7,8,9,10,11,12,13,15,16,17,18,19,21,22,23,24,25,26,28,29,30,31,32,33,34,35,36,37,38,40,41,42,43,44,45,46,47,48,49,50,51,52,53,54,55]
def hK(P:Params):aj:=(nat_lit 2,⟨.none,none,(.dict #[] 0),#[]⟩) ::
(nat_lit 3,⟨(.type "dict"),none,(.dict #[hE P "__name__" 165 (.str "law_knotwise_k63_beside_is_a_product" 509),hE P "__doc__" 166 .none,hE P "__package__" 167 .none,hE P "__loader__" 168 (.builtin "__main__.__loader__#opaque"),hE P "__spec__" 169 .none,hE P "__annotations__" 170 (.ref 6),hE P "__builtins__" 171 (.ref 4),hE P "__file__" 173 (.str "/claim/cut.py" 172),hE P "__cached__" 174 .none,hE P "KnotError" 206 (.ref 24),hE P "NoName" 222 (.ref 37),hE P "TooMany" 238 (.ref 49),hE P "NoString" 254 (.ref 61),hE P "MOST_STRINGS" 258 (.int 3 257),hE P "MOST_CROSSINGS" 260 (.int 12 259),hE P "passings_of" 269 (.ref 70),hE P "seated" 277 (.ref 77),hE P "seated_rows" 283 (.ref 82),hE P "names_of" 289 (.ref 87),hE P "hand_of" 298 (.ref 94),hE P "next_of" 309 (.ref 101),hE P "refuse_many" 319 (.ref 108),hE P "numbering" 330 (.ref 115),hE P "renamed_row" 336 (.ref 120),hE P "renamed_rows" 342 (.ref 125),hE P "beside" 352 (.ref 132),hE P "LOOP" 364 (.ref 133),hE P "without_noughts" 374 (.ref 140),hE P "added" 385 (.ref 147),hE P "times" 399 (.ref 154),hE P "shifted" 411 (.ref 161),hE P "raised" 421 (.ref 168),hE P "ALONG" 425 (.int 0 424),hE P "AGAINST" 427 (.int 1 426),hE P "joints" 435 (.ref 175),hE P "power_at" 443 (.ref 182),hE P "plan_of" 449 (.ref 187),hE P "whole_plan" 455 (.ref 192),hE P "far_ends" 465 (.ref 199),hE P "joined_plan" 479 (.ref 206),hE P "opened_at" 495 (.ref 213),hE P "opened" 501 (.ref 218),hE P "bracket" 508 (.ref 225),hE P "_law_cell_at" 518 (.ref 232),hE P "_law_whole" 525 (.ref 239),hE P "_law_pick" 534 (.ref 246),hE P "_law_poly" 542 (.ref 253),hE P "_law_pared" 551 (.ref 260),hE P "_law_product" 562 (.ref 267),hE P "_law_copy" 568 (.ref 272),hE P "_law_free" 576 (.ref 279),hE P "_law_put" 587 (.ref 286),hE P "_law_drawing" 593 (.ref 291),hE P "_law_names" 603 (.ref 298),hE P "_law_seated" 612 (.ref 305),hE P "_law_rows" 623 (.ref 312),hE P "_law_numbered" 629 (.ref 317),hE P "_law_refused" 639 (.ref 324),hE P "law" 645 (.ref 329)] 59),#[]⟩) ::
(nat_lit 15,⟨(.type "tuple"),none,(.seq #[(.type "ValueError")] 0),#[]⟩) ::
(nat_lit 22,⟨(.type "tuple"),none,(.seq #[] 0),#[]⟩) ::
(nat_lit 23,⟨(.type "dict"),none,(.dict #[hE P "__module__" 196 (.str "knotwise.errors" 187),hE P "__firstlineno__" 200 (.int 2 199),hE P "__static_attributes__" 201 (.ref 22),hE P "__weakref__" 203 (.ref 25),hE P "__doc__" 204 .none] 3),#[]⟩) ::
(nat_lit 24,⟨(.type "type"),none,(.cls ⟨"KnotError",[(.type "ValueError")],[(.ref 24),(.type "ValueError"),(.type "Exception"),(.type "BaseException"),(.type "object")],23,"KnotError",.true,[],[(.ref 37),(.ref 49),(.ref 61)],.false,none,.false⟩),#[(some (.ref 15)),none,(some (.str "KnotError" 189)),(some (.str "KnotError" 197)),(some (.builtin "ValueError.__new__")),(some (.bool .true))]⟩) ::
(nat_lit 25,⟨(.type "getset_descriptor"),none,(.fields #[(.str "__weakref__" 202),(.ref 24),(.builtin "ExceptionGroup.__weakref__"),.none]),#[]⟩) ::
(nat_lit 28,⟨(.type "tuple"),none,(.seq #[(.ref 24)] 0),#[]⟩) ::
(nat_lit 35,⟨(.type "tuple"),none,(.seq #[] 0),#[]⟩) ::
(nat_lit 36,⟨(.type "dict"),none,(.dict #[hE P "__module__" 214 (.str "knotwise.errors" 187),hE P "__firstlineno__" 218 (.int 4 217),hE P "__static_attributes__" 219 (.ref 35),hE P "__doc__" 220 .none] 2),#[]⟩) ::
(nat_lit 37,⟨(.type "type"),none,(.cls ⟨"NoName",[(.ref 24)],[(.ref 37),(.ref 24),(.type "ValueError"),(.type "Exception"),(.type "BaseException"),(.type "object")],36,"NoName",.true,[],[],.false,none,.false⟩),#[(some (.ref 28)),none,(some (.str "NoName" 207)),(some (.str "NoName" 215)),(some (.builtin "ValueError.__new__")),(some (.bool .true))]⟩) ::
(nat_lit 40,⟨(.type "tuple"),none,(.seq #[(.ref 24)] 0),#[]⟩) ::
(nat_lit 47,⟨(.type "tuple"),none,(.seq #[] 0),#[]⟩) ::
(nat_lit 48,⟨(.type "dict"),none,(.dict #[hE P "__module__" 230 (.str "knotwise.errors" 187),hE P "__firstlineno__" 234 (.int 6 233),hE P "__static_attributes__" 235 (.ref 47),hE P "__doc__" 236 .none] 2),#[]⟩) ::
(nat_lit 49,⟨(.type "type"),none,(.cls ⟨"TooMany",[(.ref 24)],[(.ref 49),(.ref 24),(.type "ValueError"),(.type "Exception"),(.type "BaseException"),(.type "object")],48,"TooMany",.true,[],[],.false,none,.false⟩),#[(some (.ref 40)),none,(some (.str "TooMany" 223)),(some (.str "TooMany" 231)),(some (.builtin "ValueError.__new__")),(some (.bool .true))]⟩) ::
(nat_lit 52,⟨(.type "tuple"),none,(.seq #[(.ref 24)] 0),#[]⟩) ::
(nat_lit 59,⟨(.type "tuple"),none,(.seq #[] 0),#[]⟩) ::
(nat_lit 60,⟨(.type "dict"),none,(.dict #[hE P "__module__" 246 (.str "knotwise.errors" 187),hE P "__firstlineno__" 250 (.int 8 249),hE P "__static_attributes__" 251 (.ref 59),hE P "__doc__" 252 .none] 2),#[]⟩) ::
(nat_lit 61,⟨(.type "type"),none,(.cls ⟨"NoString",[(.ref 24)],[(.ref 61),(.ref 24),(.type "ValueError"),(.type "Exception"),(.type "BaseException"),(.type "object")],60,"NoString",.true,[],[],.false,none,.false⟩),#[(some (.ref 52)),none,(some (.str "NoString" 239)),(some (.str "NoString" 247)),(some (.builtin "ValueError.__new__")),(some (.bool .true))]⟩) ::
(nat_lit 69,hD "passings_of" 261 13 1 64 (hR 66) (hR 67) (hR 68) 268) ::
(nat_lit 70,hF 8 "passings_of" (.str "knotwise.drawings" 255) (.ref 69)) ::
(nat_lit 76,hD "seated" 270 18 1 71 (hR 73) (hR 74) (hR 75) 276) ::
(nat_lit 77,hF 9 "seated" (.str "knotwise.drawings" 255) (.ref 76)) ::
(nat_lit 81,hD "seated_rows" 278 23 1 78 hN hN (hR 80) 282) ::
(nat_lit 82,hF 10 "seated_rows" (.str "knotwise.drawings" 255) (.ref 81)) ::
(nat_lit 86,hD "names_of" 284 25 1 83 hN hN (hR 85) 288) ::
(nat_lit 87,hF 11 "names_of" (.str "knotwise.drawings" 255) (.ref 86)) ::
(nat_lit 93,hD "hand_of" 290 27 2 88 (hR 90) (hR 91) (hR 92) 297) ::
(nat_lit 94,hF 12 "hand_of" (.str "knotwise.drawings" 255) (.ref 93)) ::
(nat_lit 100,hD "next_of" 299 32 1 95 (hR 97) (hR 98) (hR 99) 308) ::
(nat_lit 101,hF 13 "next_of" (.str "knotwise.drawings" 255) (.ref 100)) ::
(nat_lit 107,hD "refuse_many" 312 39 2 102 (hR 104) (hR 105) (hR 106) 318) ::
(nat_lit 108,hF 15 "refuse_many" (.str "knotwise.makings" 310) (.ref 107)) ::
(nat_lit 114,hD "numbering" 320 42 2 109 (hR 111) (hR 112) (hR 113) 329) ::
(nat_lit 115,hF 16 "numbering" (.str "knotwise.makings" 310) (.ref 114)) ::
(nat_lit 119,hD "renamed_row" 331 47 2 116 hN hN (hR 118) 335) ::
(nat_lit 120,hF 17 "renamed_row" (.str "knotwise.makings" 310) (.ref 119)) ::
(nat_lit 124,hD "renamed_rows" 337 49 2 121 hN hN (hR 123) 341) ::
(nat_lit 125,hF 18 "renamed_rows" (.str "knotwise.makings" 310) (.ref 124)) ::
(nat_lit 131,hD "beside" 343 51 2 126 (hR 128) (hR 129) (hR 130) 351) ::
(nat_lit 132,hF 19 "beside" (.str "knotwise.makings" 310) (.ref 131)) ::
(nat_lit 133,⟨(.type "dict"),none,(.dict #[⟨2,(.int 2 355),(.int (-1) 357)⟩,⟨(-2),(.int (-2) 359),(.int (-1) 361)⟩] 2),#[]⟩) ::
(nat_lit 139,hD "without_noughts" 365 58 1 134 (hR 136) (hR 137) (hR 138) 373) ::
(nat_lit 140,hF 22 "without_noughts" (.str "knotwise.polys" 353) (.ref 139)) ::
(nat_lit 146,hD "added" 375 64 2 141 (hR 143) (hR 144) (hR 145) 384) ::
(nat_lit 147,hF 23 "added" (.str "knotwise.polys" 353) (.ref 146)) ::
(nat_lit 153,hD "times" 386 69 2 148 (hR 150) (hR 151) (hR 152) 398) ::
(nat_lit 154,hF 24 "times" (.str "knotwise.polys" 353) (.ref 153)) ::
(nat_lit 160,hD "shifted" 400 76 3 155 (hR 157) (hR 158) (hR 159) 410) ::
(nat_lit 161,hF 25 "shifted" (.str "knotwise.polys" 353) (.ref 160)) ::
(nat_lit 167,hD "raised" 412 81 2 162 (hR 164) (hR 165) (hR 166) 420) ::
(nat_lit 168,hF 26 "raised" (.str "knotwise.polys" 353) (.ref 167)) ::
(nat_lit 174,hD "joints" 428 89 2 169 (hR 171) (hR 172) (hR 173) 434) ::
(nat_lit 175,hF 30 "joints" (.str "knotwise.brackets" 422) (.ref 174)) ::
(nat_lit 181,hD "power_at" 436 93 2 176 (hR 178) (hR 179) (hR 180) 442) ::
(nat_lit 182,hF 31 "power_at" (.str "knotwise.brackets" 422) (.ref 181)) ::
(nat_lit 186,hD "plan_of" 444 95 1 183 hN hN (hR 185) 448) ::
(nat_lit 187,hF 32 "plan_of" (.str "knotwise.brackets" 422) (.ref 186)) ::
(nat_lit 191,hD "whole_plan" 450 97 1 188 hN hN (hR 190) 454) ::
(nat_lit 192,hF 33 "whole_plan" (.str "knotwise.brackets" 422) (.ref 191)) ::
(nat_lit 198,hD "far_ends" 456 100 1 193 (hR 195) (hR 196) (hR 197) 464) ::
(nat_lit 199,hF 34 "far_ends" (.str "knotwise.brackets" 422) (.ref 198)) ::
(nat_lit 205,hD "joined_plan" 466 106 2 200 (hR 202) (hR 203) (hR 204) 478) ::
(nat_lit 206,hF 35 "joined_plan" (.str "knotwise.brackets" 422) (.ref 205)) ::
(nat_lit 212,hD "opened_at" 480 118 3 207 (hR 209) (hR 210) (hR 211) 494) ::
(nat_lit 213,hF 36 "opened_at" (.str "knotwise.brackets" 422) (.ref 212)) ::
(nat_lit 217,hD "opened" 496 130 2 214 hN hN (hR 216) 500) ::
(nat_lit 218,hF 37 "opened" (.str "knotwise.brackets" 422) (.ref 217)) ::
(nat_lit 224,hD "bracket" 502 137 1 219 (hR 221) (hR 222) (hR 223) 507) ::
(nat_lit 225,hF 38 "bracket" (.str "knotwise.brackets" 422) (.ref 224)) ::
(nat_lit 231,hD "_law_cell_at" 511 140 2 226 (hR 228) (hR 229) (hR 230) 517) ::
(nat_lit 232,hF 40 "_law_cell_at" (.str "law_knotwise_k63_beside_is_a_product" 509) (.ref 231)) ::
(nat_lit 238,hD "_law_whole" 519 144 1 233 (hR 235) (hR 236) (hR 237) 524) ::
(nat_lit 239,hF 41 "_law_whole" (.str "law_knotwise_k63_beside_is_a_product" 509) (.ref 238)) ::
(nat_lit 245,hD "_law_pick" 526 146 3 240 (hR 242) (hR 243) (hR 244) 533) ::
(nat_lit 246,hF 42 "_law_pick" (.str "law_knotwise_k63_beside_is_a_product" 509) (.ref 245)) ::
(nat_lit 252,hD "_law_poly" 535 148 1 247 (hR 249) (hR 250) (hR 251) 541) ::
(nat_lit 253,hF 43 "_law_poly" (.str "law_knotwise_k63_beside_is_a_product" 509) (.ref 252)) ::
(nat_lit 259,hD "_law_pared" 543 155 1 254 (hR 256) (hR 257) (hR 258) 550) ::
(nat_lit 260,hF 44 "_law_pared" (.str "law_knotwise_k63_beside_is_a_product" 509) (.ref 259)) ::
(nat_lit 266,hD "_law_product" 552 161 2 261 (hR 263) (hR 264) (hR 265) 561) ::
(nat_lit 267,hF 45 "_law_product" (.str "law_knotwise_k63_beside_is_a_product" 509) (.ref 266)) ::
(nat_lit 271,hD "_law_copy" 563 167 1 268 hN hN (hR 270) 567) ::
(nat_lit 272,hF 46 "_law_copy" (.str "law_knotwise_k63_beside_is_a_product" 509) (.ref 271)) ::
(nat_lit 278,hD "_law_free" 569 169 2 273 (hR 275) (hR 276) (hR 277) 575) ::
(nat_lit 279,hF 47 "_law_free" (.str "law_knotwise_k63_beside_is_a_product" 509) (.ref 278)) ::
(nat_lit 285,hD "_law_put" 577 173 4 280 (hR 282) (hR 283) (hR 284) 586) ::
(nat_lit 286,hF 48 "_law_put" (.str "law_knotwise_k63_beside_is_a_product" 509) (.ref 285)) ::
(nat_lit 290,hD "_law_drawing" 588 178 3 287 hN hN (hR 289) 592) ::
(nat_lit 291,hF 49 "_law_drawing" (.str "law_knotwise_k63_beside_is_a_product" 509) (.ref 290)) ::
(nat_lit 297,hD "_law_names" 594 190 1 292 (hR 294) (hR 295) (hR 296) 602) ::
(nat_lit 298,hF 50 "_law_names" (.str "law_knotwise_k63_beside_is_a_product" 509) (.ref 297)) ::
(nat_lit 304,hD "_law_seated" 604 197 1 299 (hR 301) (hR 302) (hR 303) 611) ::
(nat_lit 305,hF 51 "_law_seated" (.str "law_knotwise_k63_beside_is_a_product" 509) (.ref 304)) ::
(nat_lit 311,hD "_law_rows" 613 205 2 306 (hR 308) (hR 309) (hR 310) 622) ::
(nat_lit 312,hF 52 "_law_rows" (.str "law_knotwise_k63_beside_is_a_product" 509) (.ref 311)) ::
(nat_lit 316,hD "_law_numbered" 624 214 2 313 hN hN (hR 315) 628) ::
(nat_lit 317,hF 53 "_law_numbered" (.str "law_knotwise_k63_beside_is_a_product" 509) (.ref 316)) ::
(nat_lit 323,hD "_law_refused" 630 222 2 318 (hR 320) (hR 321) (hR 322) 638) ::
(nat_lit 324,hF 54 "_law_refused" (.str "law_knotwise_k63_beside_is_a_product" 509) (.ref 323)) ::
(nat_lit 328,hD "law" 640 229 1 325 hN hN (hR 327) 644) ::
(nat_lit 329,hF 55 "law" (.str "law_knotwise_k63_beside_is_a_product" 509) (.ref 328)) :: []
def hA:List Addr:=[2,3,15,22,23,24,25,28,35,36,37,40,47,48,49,52,59,60,61,69,70,76,77,81,82,86,87,93,94,100,101,107,108,114,115,119,120,124,125,131,132,133,139,140,146,147,153,154,160,161,167,168,174,175,181,182,186,187,191,192,198,199,205,206,212,213,217,218,224,225,231,232,238,239,245,246,252,253,259,260,266,267,271,272,278,279,285,286,290,291,297,298,304,305,311,312,316,317,323,324,328,329]
def hL:List Str:=["LOOP"]
abbrev RI(w:World):Prop:=∀ os:OsState,(topFrom treeTable (PySem.Challenge.rw_knotwise_k63_beside_is_a_product).row.prog w 4544 ⟨Py w.params,Nj [],Jl,Px,os⟩).map (fun s=>(openSeen hQ hL (zU (PySem.Challenge.rw_knotwise_k63_beside_is_a_product).row.prog.main.body) (Wd PySem.Challenge.rw_knotwise_k63_beside_is_a_product hQ) true s,hA.map s.heap.get?))=some (openGood hQ hL,(hK w.params).map fun p=>some p.2)
theorem h_f (w:World):RI (w.withFollow "special-get-raises" false):=fun os=>by kernel_rfl
theorem h_t (w:World):RI (w.withFollow "special-get-raises" true):=fun os=>by kernel_rfl
end
end Fin
set_option autoImplicit false
section
namespace K2
open PySem (Str)
abbrev PK:=List (List (List Int))
inductive D where
 | eT | bl (b:Bool) | int (i:Int) | str (x:Str) | tup (ds:List D) | dw (ds:List D) | kH (kvs:List (D×D)) | ref (a:Nat) | exc (c:Str) | Dp (c:Str) (ns:List Str) (ds:List D) | pj (kvs:List (PK×D))
 deriving Inhabited
inductive GO where
 | lst (ds:List D)
 | fU (kvs:List (D×D))
 | ins (c:Str) (fs:List (Str×D))
 | rV (kvs:List (PK×D))
abbrev Gp:=Nat->Option GO
def eL(G:Gp)(a:Nat)(o:GO):Gp:=fun b=>if b=a then some o else G b
def az{G:Gp}{a:Nat}{o:GO}:eL G a o a=some o:=by unfold eL; rw [if_pos rfl]
def cE{G:Gp}{a b:Nat}{o:GO}(h:b≠a):eL G a o b=G b:=by unfold eL; rw [if_neg h]
abbrev SZ:Nat:=16777216
structure Ex where
 cls:Str
 ag7:List (Str×D)
abbrev lM:=Ex->Gp->Prop
abbrev iO:=List (Option D)
abbrev DK:=D->Gp->Prop
abbrev gq:=lM->iO->Gp->DK->Prop
abbrev yp:=lM->iO->Gp->(Bool->Gp->Prop)->Prop
abbrev BF:=lM->iO->Gp->(List D->Gp->Prop)->Prop
structure lF where
 nx:iO->Gp->Prop
 rt:DK
 bk:iO->Gp->Prop
 ct:iO->Gp->Prop
abbrev gN:=lM->lF->iO->Gp->Prop
abbrev jM:=List D->Gp->DK->lM->Prop
abbrev B2:=D->D->Gp->DK->Prop
def IX(n:Nat)(i:Int):Option Nat:=if 0<=i then (if i < n then some i.toNat else none) else if -(n:Int)<=i then some (i+n).toNat else none
def rZ{α:Type}(xs:List α)(i:Int):Option α:=(IX xs.length i).bind fun j=>xs[j]?
def j9(n d:Nat):Option Int->Nat
 | none=>d
 | some v=>if v < 0 then (v+(n:Int)).toNat else min v.toNat n
def cut{α:Type}(xs:List α)(lo hi:Option Int):List α:=(xs.drop (j9 xs.length 0 lo)).take (j9 xs.length xs.length hi - j9 xs.length 0 lo)
mutual
def iM:D->D->Bool
 | .eT,.eT=>true
 | .bl a,.bl b=>a == b
 | .bl a,.int b=>(if a then 1 else 0) == b
 | .int a,.bl b=>a == (if b then 1 else 0)
 | .int a,.int b=>a == b
 | .str a,.str b=>a == b
 | .tup a,.tup b=>md a b
 | .dw a,.dw b=>md a b
 | _,_=>false
def md:List D->List D->Bool
 | [],[]=>true
 | a :: r,b :: t=>iM a b&&md r t
 | _,_=>false
end
mutual
def nr:D->Bool
 | .ref _=>false
 | .exc _=>false
 | .Dp _ _ _=>false
 | .kH _=>false
 | .pj _=>false
 | .str x=>x.cps.all (· < 0x110000)
 | .tup ds=>rq ds
 | .dw ds=>rq ds
 | _=>true
def rq:List D->Bool
 | []=>true
 | d :: r=>nr d&&rq r
end
class inductive Sn (G:Gp):Nat->D->D->Prop
 | eT {n:Nat}:Sn G n .eT .eT
 | bl {n:Nat} (b:Bool):Sn G n (.bl b) (.bl b)
 | int {n:Nat} (i:Int):Sn G n (.int i) (.int i)
 | str {n:Nat} (x:Str) (h:x.cps.all (· < 0x110000)=true):Sn G n (.str x) (.str x)
 | JJ {n:Nat}:Sn G (n+1) (.tup []) (.tup [])
 | sF {n:Nat} {d s:D} {ds ss:List D}:Sn G n d s->Sn G (n+1) (.tup ds) (.tup ss)->Sn G (n+1) (.tup (d :: ds)) (.tup (s :: ss))
 | Ea {n:Nat}:Sn G (n+1) (.dw []) (.dw [])
 | uT {n:Nat} {d s:D} {ds ss:List D}:Sn G n d s->Sn G (n+1) (.dw ds) (.dw ss)->Sn G (n+1) (.dw (d :: ds)) (.dw (s :: ss))
 | ref {n:Nat} {a:Nat} {ds ss:List D}:G a=some (.lst ds)->Sn G n (.dw ds) (.dw ss)->Sn G n (.ref a) (.dw ss)
abbrev SN:Nat:=8
theorem Sn.nr{G:Gp}{n:Nat}{d t:D}(h:Sn G n d t):K2.nr t=true:=by
 induction h with
 | eT=>rfl
 | bl b=>rfl
 | int i=>rfl
 | str x h=>exact h
 | JJ=>rfl
 | sF _ _ Ro Rm =>
  show (K2.nr _&&K2.rq _)=true;rw [Ro];exact Rm
 | Ea=>rfl
 | uT _ _ Ro Rm =>
  show (K2.nr _&&K2.rq _)=true;rw [Ro];exact Rm
 | ref _ _ ih=>exact ih
def rm(k:PK):D:=.tup (k.map fun r=>.tup (r.map fun t=>.tup (t.map D.int)))
def di:D->Bool
 | .int _=>true
 | .str _=>true
 | _=>false
def IU:D->Gp->Option Bool
 | .eT,_=>some false
 | .bl b,_=>some b
 | .int i,_=>some (i != 0)
 | .str x,_=>if x.length<=SZ then some ((x.length:Int) != 0) else none
 | .tup ds,_=>some (!ds.isEmpty)
 | .dw ds,_=>some (!ds.isEmpty)
 | .exc _,_=>none
 | .Dp _ _ _,_=>none
 | .pj _,_=>none
 | .kH kvs,_=>if (kvs.all fun p=>di p.1)=true then some (!kvs.isEmpty) else none
 | .ref a,G=>match G a with
  | some (.lst ds)=>some (!ds.isEmpty)
  | some (.fU kvs)=>if (kvs.all fun p=>di p.1)=true then some (!kvs.isEmpty) else none
  | _=>none
def ar(i:Nat):gq:=fun _ τ G Q=>match τ[i]? with
 | some (some d)=>Q d G
 | _=>False
def dC(d:D):gq:=fun _ _ G Q=>Q d G
def aO:BF:=fun _ _ G Q=>Q [] G
def av(a:gq)(r:BF):BF:=fun E τ G Q=>a E τ G fun x G1=>r E τ G1 fun xs G2=>Q (x :: xs) G2
def iD(t:BF):gq:=fun E τ G Q=>t E τ G fun ds G1=>ds.length<=SZ/\Q (.tup ds) G1
def iq(t:BF):gq:=fun E τ G Q=>t E τ G fun ds G1=>ds.length<=SZ/\∀ p,G1 p=none->Q (.ref p) (eL G1 p (.lst ds))
def aX(r:B2)(a b:gq):gq:=fun E τ G Q=>a E τ G fun x G1=>b E τ G1 fun y G2=>r x y G2 Q
def ZS(r:D->Gp->DK->Prop)(a:gq):gq:=fun E τ G Q=>a E τ G fun x G1=>r x G1 Q
def ip(G:Gp)(o:GO)(Q:DK):Prop:=∀ p,G p=none->Q (.ref p) (eL G p o)
def MulOk(i j:Int):Prop:=(-(2 ^ 64) < i/\i < 2 ^ 64)\/(-(2 ^ 64) < j/\j < 2 ^ 64)
def tf:D->Gp->Option (List D)
 | .dw ds,_=>some ds
 | .ref a,G=>match G a with
  | some (.lst ds)=>some ds
  | _=>none
 | _,_=>none
def Ft(x y:D)(G:Gp)(Q:DK):Prop:=match tf x G,tf y G with
 | some xs,some ys=>xs.length+ys.length<=SZ/\ip G (.lst (xs++ys)) Q
 | _,_=>False
def gK:B2
 | .int i,.int j,G,Q=>Q (.int (i+j)) G
 | .str a,.str b,G,Q=>a.length+b.length<=SZ/\Q (.str (a++b)) G
 | .tup a,.tup b,G,Q=>a≠[]/\a.length+b.length<=SZ/\Q (.tup (a++b)) G
 | x,y,G,Q=>Ft x y G Q
def TM:B2
 | .int i,.int j,G,Q=>Q (.int (i - j)) G
 | _,_,_,_=>False
def JU:B2
 | .int i,.int j,G,Q=>MulOk i j/\Q (.int (i * j)) G
 | _,_,_,_=>False
def sU:B2
 | .int i,.int j,G,Q=>0 < j/\Q (.int (i % j)) G
 | _,_,_,_=>False
def GF:B2
 | .int i,.int j,G,Q=>0 < j/\j < 2 ^ 30/\Q (.int (i / j)) G
 | _,_,_,_=>False
def WC:D->Gp->DK->Prop
 | .int i,G,Q=>Q (.int (-i)) G
 | _,_,_=>False
def JW(neg:Bool):B2:=fun x y G Q=>∃ a b,Sn G SN x a/\Sn G SN y b/\Q (.bl (if neg then !iM a b else iM a b)) G
def lexLt:List Int->List Int->Bool
 | [],[]=>false
 | [],_ :: _=>true
 | _ :: _,[]=>false
 | x :: xs,y :: ys=>if x=y then lexLt xs ys else decide (x < y)
def YK:B2
 | .int i,.int j,G,Q=>Q (.bl (decide (i < j))) G
 | .tup a,.tup b,G,Q=>∃ xs ys,a=xs.map D.int/\b=ys.map D.int/\Q (.bl (lexLt xs ys)) G
 | _,_,_,_=>False
def rLe:B2
 | .int i,.int j,G,Q=>Q (.bl (decide (i<=j))) G
 | _,_,_,_=>False
def Vo:B2
 | .int i,.int j,G,Q=>Q (.bl (decide (i > j))) G
 | _,_,_,_=>False
def rGe:B2
 | .int i,.int j,G,Q=>Q (.bl (decide (i>=j))) G
 | _,_,_,_=>False
def itemsOf:D->Gp->Option (List D)
 | .tup ds,_=>some ds
 | .dw ds,_=>some ds
 | .ref a,G=>match G a with
  | some (.lst ds)=>some ds
  | _=>none
 | _,_=>none
def lJ:D->Bool
 | .tup ds=>ds.all di
 | _=>false
def ig(kvs:List (D×D))(k:D):Bool:=(di k&&kvs.all fun p=>di p.1)||(lJ k&&kvs.all fun p=>lJ p.1)
def look(kvs:List (D×D))(k:D):Option D:=(kvs.find? fun p=>iM p.1 k).map (·.2)
def put(kvs:List (D×D))(k v:D):List (D×D) :=
 if (kvs.any fun p=>iM p.1 k)=true then kvs.map (fun p=>if iM p.1 k=true then (p.1,v) else p) else kvs++[(k,v)]
def TU(neg:Bool):B2:=fun x y G Q=>match y with
 | .ref a=>(match G a with
  | some (.fU kvs)=>ig kvs x=true/\Q (.bl (if neg then !(look kvs x).isSome else (look kvs x).isSome)) G
  | some (.lst ds)=>∃ s ss,Sn G SN x s/\Sn G SN (.dw ds) (.dw ss)/\Q (.bl (if neg then !ss.any (iM · s) else ss.any (iM · s))) G
  | _=>False)
 | .kH kvs=>kvs≠[]/\ig kvs x=true/\Q (.bl (if neg then !(look kvs x).isSome else (look kvs x).isSome)) G
 | .tup ds=>∃ s ss,Sn G SN x s/\Sn G SN (.dw ds) (.dw ss)/\Q (.bl (if neg then !ss.any (iM · s) else ss.any (iM · s))) G
 | .dw ds=>∃ s ss,Sn G SN x s/\Sn G SN (.dw ds) (.dw ss)/\Q (.bl (if neg then !ss.any (iM · s) else ss.any (iM · s))) G
 | _=>False
def j6:B2
 | .tup ds,.int i,G,Q=>(match rZ ds i with
  | some d=>Q d G
  | none=>False)
 | .dw ds,.int i,G,Q=>(match rZ ds i with
  | some d=>Q d G
  | none=>False)
 | .kH kvs,k,G,Q=>ig kvs k=true/\(match look kvs k with
  | some d=>Q d G
  | none=>False)
 | .ref a,k,G,Q=>(match G a with
  | some (.lst ds)=>(match k with
   | .int i=>(match rZ ds i with
    | some d=>Q d G
    | none=>False)
   | _=>False)
  | some (.fU kvs)=>ig kvs k=true/\(match look kvs k with
   | some d=>Q d G
   | none=>False)
  | _=>False)
 | _,_,_,_=>False
abbrev Z4:=lM->iO->Gp->(Option Int->Gp->Prop)->Prop
def gI:Z4:=fun _ _ G Q=>Q none G
def mU(t:gq):Z4:=fun E τ G Q=>t E τ G fun x G1=>match x with
 | .int i=>Q (some i) G1
 | _=>False
def Qf:D->Option Int->Option Int->Gp->DK->Prop
 | .tup ds,lo,hi,G,Q=>¬ (j9 ds.length 0 lo=0/\j9 ds.length ds.length hi=ds.length)/\Q (.tup (cut ds lo hi)) G
 | .dw ds,lo,hi,G,Q=>ip G (.lst (cut ds lo hi)) Q
 | .ref a,lo,hi,G,Q=>(match G a with
  | some (.lst ds)=>ip G (.lst (cut ds lo hi)) Q
  | _=>False)
 | _,_,_,_,_=>False
def Ck(a:gq)(lo hi:Z4):gq:=fun E τ G Q=>a E τ G fun x G1=>lo E τ G1 fun l G2=>hi E τ G2 fun h G3=>Qf x l h G3 Q
def ik(a:gq):yp:=fun E τ G Q=>a E τ G fun x G1=>match IU x G1 with
 | some b=>Q b G1
 | none=>False
def ZU(a b:yp):yp:=fun E τ G Q=>a E τ G fun c G1=>if c=true then b E τ G1 Q else Q false G1
def E5(a b:yp):yp:=fun E τ G Q=>a E τ G fun c G1=>if c=true then Q true G1 else b E τ G1 Q
def pR(a:yp):yp:=fun E τ G Q=>a E τ G fun c G1=>Q (!c) G1
def Bw(a b:gq):gq:=fun E τ G Q=>a E τ G fun x G1=>match IU x G1 with
 | some true=>b E τ G1 Q
 | some false=>Q x G1
 | none=>False
def ZT(a b:gq):gq:=fun E τ G Q=>a E τ G fun x G1=>match IU x G1 with
 | some true=>Q x G1
 | some false=>b E τ G1 Q
 | none=>False
def R3(a:gq):gq:=fun E τ G Q=>a E τ G fun x G1=>match IU x G1 with
 | some c=>Q (.bl (!c)) G1
 | none=>False
def dIf(c:yp)(a b:gq):gq:=fun E τ G Q=>c E τ G fun k G1=>if k=true then a E τ G1 Q else b E τ G1 Q
def br(sp:jM)(t:BF):gq:=fun E τ G Q=>t E τ G fun ds G1=>sp ds G1 Q fun _ _=>False
def ot(r:List D->Gp->DK->Prop)(t:BF):gq:=fun E τ G Q=>t E τ G fun ds G1=>r ds G1 Q
def IT(x:D)(G:Gp):Prop:=match x with
 | .ref a=>(match G a with
  | some (.lst _)=>True
  | _=>False)
 | .dw _=>True
 | _=>False
def S2(x:D)(G:Gp):Prop:=match x with
 | .kH _=>True
 | .ref a=>(match G a with
  | some (.fU _)=>True
  | _=>False)
 | _=>False
def tyS(x:D)(_:Gp):Prop:=match x with
 | .str _=>True
 | _=>False
def xq(ty:D->Gp->Prop)(r:D->List D->Gp->DK->Prop)(o:gq)(t:BF):gq:=fun E τ G Q=>o E τ G fun x G1=>ty x G1/\t E τ G1 fun ds G2=>r x ds G2 Q
def lenOf:D->Gp->Option Nat
 | .tup ds,_=>some ds.length
 | .dw ds,_=>some ds.length
 | .str x,_=>if x.length<=SZ then some x.length else none
 | .kH kvs,_=>if (kvs.all fun p=>di p.1)=true then some kvs.length else none
 | .ref a,G=>match G a with
  | some (.lst ds)=>some ds.length
  | some (.fU kvs)=>if (kvs.all fun p=>di p.1)=true then some kvs.length else none
  | _=>none
 | _,_=>none
def kj(ds:List D)(G:Gp)(Q:DK):Prop:=match ds with
 | [x]=>(match lenOf x G with
  | some n=>Q (.int (n:Int)) G
  | none=>False)
 | _=>False
def yS(ds:List D)(G:Gp)(Q:DK):Prop:=match ds with
 | [x]=>(match itemsOf x G with
  | some xs=>ip G (.lst xs) Q
  | none=>False)
 | _=>False
def VF(C:String):D->Gp->Option Bool
 | .eT,_=>some false
 | .bl _,_=>some (C == "bool" || C == "int")
 | .int _,_=>some (C == "int")
 | .str _,_=>some (C == "str")
 | .tup _,_=>some (C == "tuple")
 | .dw _,_=>some (C == "list")
 | .kH _,_=>some (C == "dict")
 | .exc _,_=>none
 | .Dp _ _ _,_=>none
 | .pj _,_=>none
 | .ref a,G=>match G a with
  | some (.lst _)=>some (C == "list")
  | some (.fU _)=>some (C == "dict")
  | _=>none
def OC(C:String)(a:gq):gq:=fun E τ G Q=>a E τ G fun x G1=>match VF C x G1 with
 | some b=>Q (.bl b) G1
 | none=>False
def qH(x:D)(ds:List D)(G:Gp)(Q:DK):Prop:=match x,ds with
 | .ref a,[d]=>(match G a with
  | some (.lst xs)=>xs.length < SZ/\Q .eT (eL G a (.lst (xs++[d])))
  | _=>False)
 | _,_=>False
def zD(x:D)(ds:List D)(G:Gp)(Q:DK):Prop:=match x,ds with
 | .ref a,[y]=>(match G a,tf y G with
  | some (.lst xs),some ys=>xs.length+ys.length<=SZ/\Q .eT (eL G a (.lst (xs++ys)))
  | _,_=>False)
 | _,_=>False
def Uv(x:D)(ds:List D)(G:Gp)(Q:DK):Prop:=match x,ds with
 | .ref a,[.int i,d]=>(match G a with
  | some (.lst xs)=>0<=i/\i<=xs.length/\xs.length < SZ/\Q .eT (eL G a (.lst (xs.take i.toNat++d :: xs.drop i.toNat)))
  | _=>False)
 | _,_=>False
def Ew(x:D)(ds:List D)(G:Gp)(Q:DK):Prop:=match ds with
 | [d]=>IT x G/\∃ xs s ss,itemsOf x G=some xs/\Sn G SN d s/\Sn G SN (.dw xs) (.dw ss)/\(match ss.findIdx? (iM · s) with
  | some k=>Q (.int (k:Int)) G
  | none=>False)
 | _=>False
def Hh(x:D)(ds:List D)(G:Gp)(Q:DK):Prop:=match x,ds with
 | .ref a,[k,d]=>(match G a with
  | some (.fU kvs)=>ig kvs k=true/\di k=true/\(match look kvs k with
   | some v=>Q v G
   | none=>kvs.length < SZ/\Q d (eL G a (.fU (put kvs k d))))
  | _=>False)
 | _,_=>False
def dH:gN:=fun _ K τ G=>K.nx τ G
def b8(a b:gN):gN:=fun E K τ G=>a E { K with nx:=b E K } τ G
def la(a:gq):gN:=fun E K τ G=>a E τ G fun _ G1=>K.nx τ G1
def cb(a:gq):gN:=fun E K τ G=>a E τ G K.rt
def VZ:gN:=fun _ K _ G=>K.rt .eT G
def gi(c:yp)(a b:gN):gN:=fun E K τ G=>c E τ G fun k G1=>if k=true then a E K τ G1 else b E K τ G1
def E6:gN:=fun _ _ _ _=>False
abbrev B0:=lM->D->iO->Gp->(iO->Gp->Prop)->Prop
abbrev Fv:=lM->List D->iO->Gp->(iO->Gp->Prop)->Prop
def aI(i:Nat):B0:=fun _ d τ G Q=>Q (τ.set i (some d)) G
def jz:Fv:=fun _ ds τ G Q=>match ds with
 | []=>Q τ G
 | _=>False
def cX(t:B0)(r:Fv):Fv:=fun E ds τ G Q=>match ds with
 | d :: ds=>t E d τ G fun qh G1=>r E ds qh G1 Q
 | _=>False
def jL(t:Fv):B0:=fun E d τ G Q=>match d with
 | .tup ds=>t E ds τ G Q
 | _=>False
def yA(o k d:D)(G:Gp)(Q:Gp->Prop):Prop:=match o with
 | .ref a=>(match G a with
  | some (.lst xs)=>(match k with
   | .int i=>(match IX xs.length i with
    | some j=>Q (eL G a (.lst (xs.set j d)))
    | none=>False)
   | _=>False)
  | some (.fU kvs)=>ig kvs k=true/\kvs.length < SZ/\Q (eL G a (.fU (put kvs k d)))
  | _=>False)
 | _=>False
def kh(o k:gq):B0:=fun E d τ G Q=>o E τ G fun x G1=>k E τ G1 fun y G2=>yA x y d G2 fun G3=>Q τ G3
def bF(a:gq)(g:B0):gN:=fun E K τ G=>a E τ G fun x G1=>g E x τ G1 K.nx
abbrev OL:=lM->iO->Gp->(List D->(Gp->Prop)->Gp->Prop)->Prop
def lz(a:gq):OL:=fun E τ G R=>a E τ G fun x G1=>match x with
 | .tup ds=>R ds (fun _=>True) G1
 | .dw ds=>R ds (fun _=>True) G1
 | .ref p=>(match G1 p with
  | some (.lst ds)=>R ds (fun G2=>G2 p=some (.lst ds)) G1
  | _=>False)
 | _=>False
def gX(lo:Int)(n:Nat):List D:=(fL n).map fun (i:Nat)=>D.int (lo+(i:Int))
def Dc(a:gq):OL:=fun E τ G R=>a E τ G fun x G1=>match x with
 | .int n=>-(2 ^ 62)<=n/\n < 2 ^ 62/\R (gX 0 n.toNat) (fun _=>True) G1
 | _=>False
def rH(g:B0)(body:gN)(ok:Gp->Prop):List D->gN
 | []=>fun _ K τ G=>ok G/\K.nx τ G
 | d :: r=>fun E K τ G=>ok G/\g E d τ G fun qh G1=>body E { K with nx:=rH g body ok r E K,ct:=rH g body ok r E K,bk:=K.nx } qh G1
def eF(i:OL)(g:B0)(body:gN):gN:=fun E K τ G=>i E τ G fun ds ok G1=>rH g body ok ds E K τ G1
def Ge(c:yp)(body:gN):Nat->gN
 | 0=>fun _ _ _ _=>False
 | n+1=>fun E K τ G=>c E τ G fun k G1=>if k=true then body E { K with nx:=Ge c body n E K,ct:=Ge c body n E K,bk:=K.nx } τ G1 else K.nx τ G1
def K6(c:yp)(body:gN):gN:=fun E K τ G=>∃ n,Ge c body n E K τ G
def j4(g:B0)(c:Option yp)(e:gq)(ok:Gp->Prop):List D->lM->iO->Gp->List D->(List D->Gp->Prop)->Prop
 | [],_,_,G,acc,Q=>ok G/\Q acc G
 | d :: r,E,τ,G,acc,Q=>ok G/\g E d τ G fun qh G1=>match c with
  | none=>e E qh G1 fun x G2=>j4 g c e ok r E qh G2 (acc++[x]) Q
  | some c=>c E qh G1 fun k G2=>if k=true then e E qh G2 fun x G3=>j4 g (some c) e ok r E qh G3 (acc++[x]) Q else j4 g (some c) e ok r E qh G2 acc Q
def Bx(m:Nat)(fr:List Nat)(τ:iO):iO:=aT m none++fr.map fun i=>(τ[i]?).getD none
def gL(m:Nat)(fr:List Nat)(i:OL)(g:B0)(c:Option yp)(e:gq):gq:=fun E τ G Q =>
 i E τ G fun ds ok G1=>ds.length<=SZ/\j4 g c e ok ds (fun _ _=>False) (Bx m fr τ) G1 [] fun xs G2=>ip G2 (.lst xs) Q
abbrev tI(ns:List Int):D:=.tup (ns.map D.int)
def abv:List Int->Option Int
 | []=>none
 | a :: r=>some (r.foldl (fun m x=>if x < m then x else m) a)
def abu:List (List Int)->Option (List Int)
 | []=>none
 | a :: r=>some (r.foldl (fun m x=>if lexLt x m=true then x else m) a)
def Sb(ds:List D)(G:Gp)(Q:DK):Prop:=match ds with
 | [x]=>(∃ ns m,itemsOf x G=some (ns.map D.int)/\abv ns=some m/\Q (.int m) G)\/∃ nss m,itemsOf x G=some (nss.map tI)/\abu nss=some m/\Q (tI m) G
 | _=>False
def mM:gq:=fun _ _ G Q=>ip G (.fU []) Q
def ft(G G':Gp):Prop:=∀ a o,G a=some o->G' a=some o
def ft.refl(G:Gp):ft G G:=fun _ _ h=>h
def ft.trans{G G1 G2:Gp}(a:ft G G1)(b:ft G1 G2):ft G G2:=fun c o h=>b c o (a c o h)
def ft.new{G:Gp}{p:Nat}{o:GO}(h:G p=none):ft G (eL G p o):=fun a ob e=>by
 by_cases ha:a=p
 ·subst ha; rw [h] at e; cases e
 ·rw [cE ha]; exact e
def ft.free{G G':Gp}{p:Nat}(l:ft G G')(h:G' p=none):G p=none:=by
 cases q:G p with
 | none=>rfl
 | some o=>rw [l p o q] at h; cases h
def ft.put{G G':Gp}{p:Nat}{o:GO}(l:ft G G')(h:G p=none):ft G (eL G' p o):=fun a ob e=>by
 by_cases ha:a=p
 ·subst ha; rw [h] at e; cases e
 ·rw [cE ha]; exact l a ob e
def ends(Q:DK):lF:=⟨fun _ G=>Q .eT G,Q,fun _ _=>False,fun _ _=>False⟩
def aY(n:Nat)(ds:List D):iO:=ds.map some++aT (n - ds.length) none
def S9(x:D)(G1:Gp)(R:List D->(Gp->Prop)->Gp->Prop):Prop:=match x with
 | .tup ds=>R ds (fun _=>True) G1
 | .dw ds=>R ds (fun _=>True) G1
 | .ref p=>(match G1 p with
  | some (.lst ds)=>R ds (fun G2=>G2 p=some (.lst ds)) G1
  | _=>False)
 | _=>False
def Qy(x:D)(G1:Gp)(Q:Option Int->Gp->Prop):Prop:=match x with
 | .int i=>Q (some i) G1
 | _=>False
def sE(x:D)(G1:Gp)(Q:Bool->Gp->Prop):Prop:=match IU x G1 with
 | some b=>Q b G1
 | none=>False
def Vk(x:D)(G1:Gp)(R:List D->(Gp->Prop)->Gp->Prop):Prop:=match x with
 | .int n=>-(2 ^ 62)<=n/\n < 2 ^ 62/\R (gX 0 n.toNat) (fun _=>True) G1
 | _=>False
def isAt(C:String)(x:D)(G1:Gp)(Q:DK):Prop:=match VF C x G1 with
 | some b=>Q (.bl b) G1
 | none=>False
def cR{i j:Int}{G:Gp}{Q:DK}:gK (.int i) (.int j) G Q=Q (.int (i+j)) G:=rfl
def AA{a b:List D}{G:Gp}{Q:DK}:gK (.tup a) (.tup b) G Q=(a≠[]/\a.length+b.length<=SZ/\Q (.tup (a++b)) G):=rfl
def vZ{i j:Int}{G:Gp}{Q:DK}:TM (.int i) (.int j) G Q=Q (.int (i - j)) G:=rfl
def nU{i j:Int}{G:Gp}{Q:DK}:JU (.int i) (.int j) G Q=(MulOk i j/\Q (.int (i * j)) G):=rfl
def jv{i j:Int}{G:Gp}{Q:DK}:sU (.int i) (.int j) G Q=(0 < j/\Q (.int (i % j)) G):=rfl
def t7{i j:Int}{G:Gp}{Q:DK}:GF (.int i) (.int j) G Q=(0 < j/\j < 2 ^ 30/\Q (.int (i / j)) G):=rfl
def Az{i:Int}{G:Gp}{Q:DK}:WC (.int i) G Q=Q (.int (-i)) G:=rfl
def zA{i j:Int}{G:Gp}{Q:DK}:YK (.int i) (.int j) G Q=Q (.bl (decide (i < j))) G:=rfl
def L6{i j:Int}{G:Gp}{Q:DK}:rLe (.int i) (.int j) G Q=Q (.bl (decide (i<=j))) G:=rfl
def qr{i j:Int}{G:Gp}{Q:DK}:Vo (.int i) (.int j) G Q=Q (.bl (decide (i > j))) G:=rfl
def L8{i j:Int}{G:Gp}{Q:DK}:rGe (.int i) (.int j) G Q=Q (.bl (decide (i>=j))) G:=rfl
def TQ{ds:List D}{i:Int}{d:D}{G:Gp}{Q:DK}(h:rZ ds i=some d):j6 (.dw ds) (.int i) G Q=Q d G:=by unfold j6; simp only [h]
def qp{a:Nat}{ds:List D}{i:Int}{d:D}{G:Gp}{Q:DK}(h1:G a=some (.lst ds))(h:rZ ds i=some d):j6 (.ref a) (.int i) G Q=Q d G:=by unfold j6; simp only [h1,h]
def TR{a:Nat}{kvs:List (D×D)}{k d:D}{G:Gp}{Q:DK}(h1:G a=some (.fU kvs))(h0:ig kvs k=true)(h:look kvs k=some d):j6 (.ref a) k G Q=Q d G:=by unfold j6; simp only [h1,h,h0,true_and]
def Ec{ds:List D}{lo hi:Option Int}{G:Gp}{Q:DK}:Qf (.tup ds) lo hi G Q=(¬ (j9 ds.length 0 lo=0/\j9 ds.length ds.length hi=ds.length)/\Q (.tup (cut ds lo hi)) G):=rfl
def v3{ds:List D}{lo hi:Option Int}{G:Gp}{Q:DK}:Qf (.dw ds) lo hi G Q=ip G (.lst (cut ds lo hi)) Q:=rfl
def TN{a:Nat}{ds:List D}{lo hi:Option Int}{G:Gp}{Q:DK}(h:G a=some (.lst ds)):Qf (.ref a) lo hi G Q=ip G (.lst (cut ds lo hi)) Q:=by unfold Qf; simp only [h]
def w7{ds:List D}{G:Gp}{Q:DK}:kj [.dw ds] G Q=Q (.int (ds.length:Int)) G:=rfl
def Iu{ds:List D}{G:Gp}{Q:DK}:kj [.tup ds] G Q=Q (.int (ds.length:Int)) G:=rfl
def Iw{a:Nat}{ds:List D}{G:Gp}{Q:DK}(h:G a=some (.lst ds)):kj [.ref a] G Q=Q (.int (ds.length:Int)) G:=by unfold kj lenOf; simp only [h]
def eQ{a:gq}{E:lM}{τ:iO}{G:Gp}{R:List D->(Gp->Prop)->Gp->Prop}:lz a E τ G R=a E τ G fun x G1=>S9 x G1 R:=by
 unfold lz S9; rfl
def EE{ds:List D}{G:Gp}{R:List D->(Gp->Prop)->Gp->Prop}:S9 (.dw ds) G R=R ds (fun _=>True) G:=rfl
def zG{ds:List D}{G:Gp}{R:List D->(Gp->Prop)->Gp->Prop}:S9 (.tup ds) G R=R ds (fun _=>True) G:=rfl
def MC{a:Nat}{ds:List D}{G:Gp}{R:List D->(Gp->Prop)->Gp->Prop}(h:G a=some (.lst ds)):S9 (.ref a) G R=R ds (fun G2=>G2 a=some (.lst ds)) G:=by unfold S9; simp only [h]
def mf{t:gq}{E:lM}{τ:iO}{G:Gp}{Q:Option Int->Gp->Prop}:mU t E τ G Q=t E τ G fun x G1=>Qy x G1 Q:=rfl
def iK{i:Int}{G:Gp}{Q:Option Int->Gp->Prop}:Qy (.int i) G Q=Q (some i) G:=rfl
def du{a:gq}{E:lM}{τ:iO}{G:Gp}{Q:Bool->Gp->Prop}:ik a E τ G Q=a E τ G fun x G1=>sE x G1 Q:=rfl
def bQ{b:Bool}{G:Gp}{Q:Bool->Gp->Prop}:sE (.bl b) G Q=Q b G:=rfl
def pN{a:gq}{E:lM}{τ:iO}{G:Gp}{R:List D->(Gp->Prop)->Gp->Prop}:Dc a E τ G R=a E τ G fun x G1=>Vk x G1 R:=rfl
def nG{n:Int}{G:Gp}{R:List D->(Gp->Prop)->Gp->Prop}:Vk (.int n) G R=(-(2 ^ 62)<=n/\n < 2 ^ 62/\R (gX 0 n.toNat) (fun _=>True) G):=rfl
def wZ{C:String}{a:gq}{E:lM}{τ:iO}{G:Gp}{Q:DK}:OC C a E τ G Q=a E τ G fun x G1=>isAt C x G1 Q:=rfl
def Ba {C:String} {i:Int} {G:Gp} {Q:DK}:isAt C (.int i) G Q=Q (.bl (C == "int")) G:=rfl
def Hy {C:String} {ds:List D} {G:Gp} {Q:DK}:isAt C (.tup ds) G Q=Q (.bl (C == "tuple")) G:=rfl
theorem pT{a b:gq}{E:lM}{τ:iO}{G:Gp}{Q:DK}:Bw a b E τ G Q=a E τ G fun x G1=>sE x G1 fun k G2=>if k=true then b E τ G2 Q else Q x G2:=by
 unfold Bw sE;refine congrArg (a E τ G) ?_;funext x G1;cases IU x G1 with
 | none=>rfl
 | some k=>cases k <;> simp
theorem MV{a b:gq}{E:lM}{τ:iO}{G:Gp}{Q:DK}:ZT a b E τ G Q=a E τ G fun x G1=>sE x G1 fun k G2=>if k=true then Q x G2 else b E τ G2 Q:=by
 unfold ZT sE;refine congrArg (a E τ G) ?_;funext x G1;cases IU x G1 with
 | none=>rfl
 | some k=>cases k <;> simp
def Bu{a:gq}{E:lM}{τ:iO}{G:Gp}{Q:DK}:R3 a E τ G Q=a E τ G fun x G1=>sE x G1 fun k G2=>Q (.bl (!k)) G2:=rfl
def v8{a:Nat}{y:D}{G:Gp}{Q:DK}:gK (.ref a) y G Q=Ft (.ref a) y G Q:=by cases y <;> rfl
def v7{a:List D}{y:D}{G:Gp}{Q:DK}:gK (.dw a) y G Q=Ft (.dw a) y G Q:=by cases y <;> rfl
def Ed{a:Nat}{lo hi:Option Int}{G:Gp}{Q:DK}:Qf (.ref a) lo hi G Q=(match G a with
  | some (.lst ds)=>ip G (.lst (cut ds lo hi)) Q
  | _=>False):=rfl
theorem L7{a:Nat}{k:D}{G:Gp}{Q:DK}:j6 (.ref a) k G Q=(match G a with
  | some (.lst ds)=>(match k with
   | .int i=>(match rZ ds i with
    | some d=>Q d G
    | none=>False)
   | _=>False)
  | some (.fU kvs)=>ig kvs k=true/\(match look kvs k with
   | some d=>Q d G
   | none=>False)
  | _=>False):=by unfold j6; cases k <;> rfl
def iS{ds:List D}{i:Int}{G:Gp}{Q:DK}:j6 (.tup ds) (.int i) G Q=(match rZ ds i with
  | some d=>Q d G
  | none=>False):=rfl
def sV{ds:List D}{i:Int}{G:Gp}{Q:DK}:j6 (.dw ds) (.int i) G Q=(match rZ ds i with
  | some d=>Q d G
  | none=>False):=rfl
theorem Se{a:Nat}{G:Gp}{Q:DK}:kj [.ref a] G Q=(match G a with
  | some (.lst ds)=>Q (.int (ds.length:Int)) G
  | some (.fU ds)=>(ds.all fun p=>di p.1)=true/\Q (.int (ds.length:Int)) G
  | _=>False):=by
 unfold kj lenOf;cases h:G a with
 | none=>simp only [h]
 | some g =>
  cases g with
  | lst ds=>simp only [h]
  | ins _ _=>simp only [h]
  | rV _=>simp only [h]
  | fU ds =>
   simp only [h];by_cases z:(ds.all fun p=>di p.1)=true
   ·simp only [z,if_true,true_and]
   ·simp only [z,if_false,false_and,au]
theorem DC{a:Nat}{G:Gp}{Q:DK}:yS [.ref a] G Q=(match G a with
  | some (.lst ds)=>ip G (.lst ds) Q
  | _=>False):=by
 unfold yS itemsOf;cases h:G a with
 | none=>simp only [h]
 | some g=>cases g <;> simp only [h]
def kJ{a:Nat}{d:D}{G:Gp}{Q:DK}:qH (.ref a) [d] G Q=(match G a with
  | some (.lst xs)=>xs.length < SZ/\Q .eT (eL G a (.lst (xs++[d])))
  | _=>False):=rfl
def sZ{a:Nat}{y:D}{G:Gp}{Q:DK}:zD (.ref a) [y] G Q=(match G a,tf y G with
  | some (.lst xs),some ys=>xs.length+ys.length<=SZ/\Q .eT (eL G a (.lst (xs++ys)))
  | _,_=>False):=rfl
theorem yL{a:Nat}{i:Int}{d:D}{G:Gp}{Q:DK}:Uv (.ref a) [.int i,d] G Q=(match G a with
  | some (.lst xs)=>0<=i/\i<=xs.length/\xs.length < SZ/\Q .eT (eL G a (.lst (xs.take i.toNat++d :: xs.drop i.toNat)))
  | _=>False):=rfl
theorem rz{a:Nat}{k d:D}{G:Gp}{Q:DK}:Hh (.ref a) [k,d] G Q=(match G a with
  | some (.fU kvs)=>ig kvs k=true/\di k=true/\(match look kvs k with
   | some v=>Q v G
   | none=>kvs.length < SZ/\Q d (eL G a (.fU (put kvs k d))))
  | _=>False):=rfl
def MB{p:Nat}{G:Gp}{R:List D->(Gp->Prop)->Gp->Prop}:S9 (.ref p) G R=(match G p with
  | some (.lst ds)=>R ds (fun G2=>G2 p=some (.lst ds)) G
  | _=>False):=rfl
theorem Ri{C:String}{p:Nat}{G:Gp}{Q:DK}:isAt C (.ref p) G Q=(match G p with
  | some (.lst _)=>Q (.bl (C == "list")) G
  | some (.fU _)=>Q (.bl (C == "dict")) G
  | _=>False):=by
 unfold isAt VF;cases h:G p with
 | none=>simp only [h]
 | some g=>cases g <;> simp only [h]
def MA {C:String} {b:Bool} {G:Gp} {Q:DK}:isAt C (.bl b) G Q=Q (.bl (C == "bool" || C == "int")) G:=rfl
def qk{a:Nat}{G:Gp}:IT (.ref a) G=(match G a with
  | some (.lst _)=>True
  | _=>False):=rfl
def tX{a:Nat}{G:Gp}:S2 (.ref a) G=(match G a with
  | some (.fU _)=>True
  | _=>False):=rfl
def LK{ds:List D}{G:Gp}:IT (.dw ds) G=True:=rfl
def v5{kvs:List (D×D)}{k:D}{G:Gp}{Q:DK}:j6 (.kH kvs) k G Q=(ig kvs k=true/\(match look kvs k with
  | some d=>Q d G
  | none=>False)):=by unfold j6; cases k <;> rfl
def LJ{x:Str}{G:Gp}:tyS (.str x) G=True:=rfl
def Cj(R:Nat->Bool)(G:Gp):Gp:=fun a=>if R a=true then none else G a
mutual
inductive Fz (G:Gp) (R:Nat->Bool):D->D->Prop
 | same (d:D):Fz G R d d
 | tup {ds ss:List D}:Cw G R ds ss->Fz G R (.tup ds) (.tup ss)
 | dw {ds ss:List D}:Cw G R ds ss->Fz G R (.dw ds) (.dw ss)
 | ref {a:Nat} {ds ss:List D}:G a=some (.lst ds)->R a=true->Cw G R ds ss->Fz G R (.ref a) (.dw ss)
 | fU {a:Nat} {kvs VC:List (D×D)}:G a=some (.fU kvs)->R a=true->Lr G R kvs VC->Fz G R (.ref a) (.kH VC)
 | rV {a:Nat} {kvs VC:List (PK×D)}:G a=some (.rV kvs)->R a=true->Cw G R (kvs.map fun p=>p.2) (VC.map fun p=>p.2)->kvs.map (fun p=>p.1)=VC.map (fun p=>p.1)->Fz G R (.ref a) (.pj VC)
inductive Cw (G:Gp) (R:Nat->Bool):List D->List D->Prop
 | nil:Cw G R [] []
 | cons {d s:D} {ds ss:List D}:Fz G R d s->Cw G R ds ss->Cw G R (d :: ds) (s :: ss)
inductive Lr (G:Gp) (R:Nat->Bool):List (D×D)->List (D×D)->Prop
 | nil:Lr G R [] []
 | cons {k d s:D} {ds ss:List (D×D)}:Fz G R d s->Lr G R ds ss->Lr G R ((k,d) :: ds) ((k,s) :: ss)
end
def Lr.same{G:Gp}{R:Nat->Bool}:∀ (kvs:List (D×D)),Lr G R kvs kvs
 | []=>.nil
 | (k,v) :: r=>.cons (.same v) (Lr.same r)
def OW(G:Gp)(x:D)(Q:DK):Prop:=∃ (R:Nat->Bool) (t:D),Fz G R x t/\Q t (Cj R G)
def cz(e:gq):gq:=fun E τ G Q=>e E τ G fun x G1=>OW G1 x Q
def Ie(i:Nat)(t:gN):gN:=fun E K τ G=>t E { K with nx:=fun qh G1=>match qh[i]? with
 | some (some d)=>OW G1 d fun t G2=>K.nx (qh.set i (some t)) G2
 | _=>False } τ G
def Cw.same{G:Gp}{R:Nat->Bool}:∀ (ds:List D),Cw G R ds ds
 | []=>.nil
 | d :: ds=>.cons (.same d) (Cw.same ds)
def wY{G G1:Gp}(l:ft G G1):Cj (fun a=>(G a).isNone) G1=G:=by
 funext a;unfold Cj;cases h:G a with
 | none=>simp [h]
 | some o=>simp [l a o h,h]
theorem OA{G G1:Gp}{p:Nat}{o:GO}(l:ft G G1)(hp:G p=none)(h1:G1 p=some o):Cj (fun a=>(G a).isNone&&decide (a≠p)) G1=eL G p o:=by
 funext a;unfold Cj eL;by_cases ha:a=p
 ·subst ha; simp [h1]
 ·cases h:G a with
  | none=>simp [ha,h]
  | some o=>simp [l a o h,ha,h]
def cC{G:Gp}{d:D}{Q:DK}(q:Q d G):OW G d Q:=⟨fun _=>false,d,.same d,by
 have e:Cj (fun _=>false) G=G:=by funext a; simp [Cj]
 rw [e]; exact q⟩
def zH{G G1:Gp}{d:D}{Q:DK}(l:ft G G1)(q:Q d G):OW G1 d Q:=⟨_,d,.same d,by rw [wY l]; exact q⟩
def EI{G G1:Gp}{p:Nat}{o:GO}{Q:DK}(l:ft G G1)(hp:G p=none)(h1:G1 p=some o)(q:Q (.ref p) (eL G p o)):OW G1 (.ref p) Q :=
 ⟨_,.ref p,.same _,by rw [OA l hp h1]; exact q⟩
theorem KH{G G1:Gp}{p:Nat}{ds ss:List D}{Q:DK}(l:ft G G1)(hp:G p=none)(h1:G1 p=some (.lst ds))(hs:Cw G1 (fun a=>(G a).isNone) ds ss)(q:Q (.dw ss) G):OW G1 (.ref p) Q :=
 ⟨_,.dw ss,.ref h1 (by simp [hp]) hs,by rw [wY l]; exact q⟩
theorem gY{G G1:Gp}{p:Nat}{kvs:List (D×D)}{Q:DK}(l:ft G G1)(hp:G p=none)(h1:G1 p=some (.fU kvs))(q:Q (.kH kvs) G):OW G1 (.ref p) Q :=
 ⟨fun a=>(G a).isNone,.kH kvs,.fU h1 (by simp [hp]) (.same _),by rw [wY l]; exact q⟩
def CI:jM:=fun ds G Q _=>∃ ns:List Int,ds=[.dw (ns.map D.int)]/\ns.length<=63/\(∀ a,G a=none)/\∀ G',Q (.bl true) G'
def dW{a b:gN}{E:lM}{K:lF}{τ:iO}{G:Gp}(P:iO->Gp->Prop)(h1:∀ N,(∀ τ G,P τ G->N τ G)->a E { K with nx:=N } τ G)(h2:∀ τ G,P τ G->b E K τ G):b8 a b E K τ G:=h1 (b E K) h2
def sI{a b:gN}{E:lM}{K:lF}{τ:iO}{G:Gp}:b8 a b E K τ G=a E { K with nx:=b E K } τ G:=rfl
def cu{a:gq}{g:B0}{b:gN}{E:lM}{K:lF}{τ:iO}{G:Gp}:b8 (bF a g) b E K τ G=bF a g E { K with nx:=b E K } τ G:=rfl
def vQ{a:gq}{b:gN}{E:lM}{K:lF}{τ:iO}{G:Gp}:b8 (la a) b E K τ G=la a E { K with nx:=b E K } τ G:=rfl
theorem RN{g:B0}{body:gN}{ok:Gp->Prop}{ds:List D}{E:lM}{K:lF}{τ:iO}{G:Gp}(I:List D->iO->Gp->Prop)
  (h0:I [] τ G) (b7:∀ pre τ G,I pre τ G->ok G)
  (step:∀ (pre:List D) (d:D) (post:List D) τ G (N:iO->Gp->Prop),ds=pre++d :: post->I pre τ G->(∀ xE G2,I (pre++[d]) xE G2->N xE G2) ->
   g E d τ G fun qh G1=>body E { K with nx:=N,ct:=N,bk:=K.nx } qh G1)
  (fin:∀ τ G,I ds τ G->K.nx τ G):rH g body ok ds E K τ G:=by
 have main:∀ (post pre:List D) τ G,ds=pre++post->I pre τ G->rH g body ok post E K τ G:=by
  intro post;induction post with
  | nil =>
   intro pre τ G e h;rw [cg] at e;subst e;exact⟨b7 _ _ _ h,fin _ _ h⟩
  | cons d post ih =>
   intro pre τ G e h;refine⟨b7 _ _ _ h,?_⟩;exact step pre d post τ G _ e h fun xE G2 h2=>ih (pre++[d]) xE G2 (by rw [e,dG]; rfl) h2
 exact main ds [] τ G rfl h0
theorem UR{g:B0}{c:Option yp}{e:gq}{ok:Gp->Prop}{ds:List D}{E:lM}{τ:iO}{G:Gp}{Q:List D->Gp->Prop}(I:List D->List D->iO->Gp->Prop)
  (h0:I [] [] τ G) (b7:∀ pre acc τ G,I pre acc τ G->ok G)
  (step:∀ (pre:List D) (d:D) (post acc:List D) τ G (N:iO->List D->Gp->Prop),ds=pre++d :: post->I pre acc τ G->(∀ xE yn G2,I (pre++[d]) yn xE G2->N xE yn G2) ->
   g E d τ G fun qh G1=>match c with
    | none=>e E qh G1 fun x G2=>N qh (acc++[x]) G2
    | some c=>c E qh G1 fun k G2=>if k=true then e E qh G2 fun x G3=>N qh (acc++[x]) G3 else N qh acc G2)
  (fin:∀ acc τ G,I ds acc τ G->Q acc G):j4 g c e ok ds E τ G [] Q:=by
 have main:∀ (post pre acc:List D) τ G,ds=pre++post->I pre acc τ G->j4 g c e ok post E τ G acc Q:=by
  intro post;induction post with
  | nil =>
   intro pre acc τ G e h;rw [cg] at e;subst e;exact⟨b7 _ _ _ _ h,fin _ _ _ h⟩
  | cons d post ih =>
   intro pre acc τ G e' h;refine⟨b7 _ _ _ _ h,?_⟩;have:=step pre d post acc τ G (fun xE yn G2=>j4 g c e ok post E xE G2 yn Q) e' h fun xE yn G2 h2=>ih (pre++[d]) yn xE G2 (by rw [e',dG]; rfl) h2;cases c with
   | none=>exact this
   | some c=>exact this
 exact main ds [] [] τ G rfl h0
def Sn.rI{G:Gp}{n:Nat}:∀ (ns:List Int),Sn G (n+1) (.dw (ns.map D.int)) (.dw (ns.map D.int))
 | []=>.Ea
 | i :: ns=>.uT (.int i) (Sn.rI ns)
def qP(a b:D)(r t:List D):md (a :: r) (b :: t)=(iM a b&&md r t):=rfl
def o7(a b:Int):iM (.int a) (.int b)=(a == b):=rfl
def K1(a b:List D):iM (.tup a) (.tup b)=md a b:=rfl
def Ib{α:Type} [DecidableEq α](a b:α)(as bs:List α):(decide (a=b)&&decide (as=bs))=decide (a :: as=b :: bs):=by
 by_cases h:a=b <;> by_cases h2:as=bs <;> simp [h,h2]
set_option genInjectivity true in structure T2 where
 a:Int
 b:Int
 deriving DecidableEq
set_option genInjectivity true in structure T3 where
 a:Int
 b:Int
 c:Int
 deriving DecidableEq
class Enc (α:Type) [DecidableEq α] where
 enc:α->D
 dep:Nat
 eqv:∀ a b,iM (enc a) (enc b)=decide (a=b)
 sn:∀ (G:Gp) (n:Nat) (a:α),dep<=n->Sn G n (enc a) (enc a)
open Enc (enc)
instance:Enc Int where
 enc:=D.int
 dep:=0
 eqv:=fun a b=>rfl
 sn:=fun G n a _=>.int a
instance:Enc Bool where
 enc:=D.bl
 dep:=0
 eqv:=fun a b=>S0 a b
 sn:=fun G n a _=>.bl a
instance:Enc T2 where
 enc:=fun t=>.tup [.int t.a,.int t.b]
 dep:=1
 eqv:=fun x y=>by
  cases x; cases y;rw [K1,qP,qP,o7,o7]; simp only [T2.mk.injEq]; rename_i a b c d; by_cases h:a=c <;> by_cases h2:b=d <;> simp [h,h2,show md [] []=true from rfl]
 sn:=fun G n t h=>by
  obtain⟨m,rfl⟩:∃ m,n=m+1:=⟨n - 1,by lia⟩;exact .sF (.int _) (.sF (.int _) .JJ)
instance:Enc T3 where
 enc:=fun t=>.tup [.int t.a,.int t.b,.int t.c]
 dep:=1
 eqv:=fun x y=>by
  cases x; cases y;rw [K1,qP,qP,qP,o7,o7,o7]; simp only [T3.mk.injEq]; rename_i a b e c d f; by_cases h:a=c <;> by_cases h2:b=d <;> by_cases h3:e=f <;> simp [h,h2,h3,show md [] []=true from rfl]
 sn:=fun G n t h=>by
  obtain⟨m,rfl⟩:∃ m,n=m+1:=⟨n - 1,by lia⟩;exact .sF (.int _) (.sF (.int _) (.sF (.int _) .JJ))
instance {α β:Type} [DecidableEq α] [DecidableEq β] [Enc α] [Enc β]:Enc (α×β) where
 enc:=fun t=>.tup [enc t.1,enc t.2]
 dep:=max (Enc.dep α) (Enc.dep β)+1
 eqv:=fun x y=>by
  cases x; cases y;rw [K1,qP,qP,Enc.eqv,Enc.eqv]; simp only [Prod.mk.injEq]; rename_i a b c d; by_cases h:a=c <;> by_cases h2:b=d <;> simp [h,h2,show md [] []=true from rfl]
 sn:=fun G n t h=>by
  obtain⟨m,rfl⟩:∃ m,n=m+1:=⟨n - 1,by lia⟩;exact .sF (Enc.sn _ _ _ (by lia)) (.sF (Enc.sn _ _ _ (by lia)) .JJ)
theorem HY{α:Type} [DecidableEq α] [Enc α]:∀ (a b:List α),md (a.map enc) (b.map enc)=decide (a=b)
 | [],[]=>(decide_eq_true rfl).symm
 | [],b :: bs=>(decide_eq_false (fun z=>nomatch z)).symm
 | a :: as,[]=>(decide_eq_false (fun z=>nomatch z)).symm
 | a :: as,b :: bs=>by
  show (iM (enc a) (enc b)&&md (as.map enc) (bs.map enc))=_;rw [Enc.eqv,HY as bs,Ib]
theorem Ag{α:Type} [DecidableEq α] [Enc α](G:Gp)(n:Nat)(h:Enc.dep α<=n):∀ (xs:List α),Sn G (n+1) (.dw (xs.map enc)) (.dw (xs.map enc))
 | []=>.Ea
 | a :: as=>.uT (Enc.sn _ _ _ h) (Ag G n h as)
instance {α:Type} [DecidableEq α] [Enc α]:Enc (List α) where
 enc:=fun xs=>.dw (xs.map enc)
 dep:=Enc.dep α+1
 eqv:=fun a b=>by
  show md _ _=_;exact HY a b
 sn:=fun G n t h=>by
  obtain⟨m,rfl⟩:∃ m,n=m+1:=⟨n - 1,by lia⟩;exact Ag G m (by lia) t
section
variable {α:Type} [DecidableEq α] [Enc α]
theorem U1(L:List α)(t:α):(L.map enc).any (iM · (enc t))=decide (t∈L):=by
 induction L with
 | nil=>simp
 | cons a r ih =>
  simp only [ak,mE,Enc.eqv,ih,bJ];by_cases h:a=t
  ·simp [h]
  ·have h':¬ t=a:=fun z=>h z.symm;by_cases h2:t∈r <;> simp [h,h',h2]
end
section
variable {κ α:Type} [DecidableEq κ] [Enc κ] [DecidableEq α] [Enc α]
def bb(l:List (κ×α)):List (D×D):=l.map fun p=>(enc p.1,enc p.2)
def cp(l:List (κ×α))(k:κ):Option α:=(l.find? fun p=>p.1=k).map (·.2)
def fc(l:List (κ×α))(k:κ)(v:α):List (κ×α):=if (l.any fun p=>p.1=k)=true then l.map (fun p=>if p.1=k then (p.1,v) else p) else l++[(k,v)]
theorem pK(l:List (κ×α))(k:κ):look (bb l) (enc k)=(cp l k).map enc:=by
 unfold look cp bb;induction l with
 | nil=>rfl
 | cons p r ih =>
  rw [ak,d4,d4];simp only [Enc.eqv];by_cases h:p.1=k
  ·simp [h]
  ·simp only [h,decide_false]; exact ih
theorem Ma(l:List (κ×α))(k:κ)(v:α):put (bb l) (enc k) (enc v)=bb (fc l k v):=by
 unfold put fc;have e:((bb l).any fun p=>iM p.1 (enc k))=l.any fun p=>decide (p.1=k):=by
  unfold bb; rw [List.any_map]; congr 1; funext p; exact Enc.eqv _ _
 rw [e];split
 ·unfold bb; rw [bq,bq];refine dE fun p _=>?_;simp only [Function.comp,Enc.eqv,decide_eq_true_eq];split <;> rfl
 ·unfold bb; rw [aN]; rfl
theorem uC(l:List (κ×α))(k j:κ)(v:α):cp (fc l k v) j=if k=j then some v else cp l j:=by
 unfold fc;split
 ·rename_i h;unfold cp;induction l with
  | nil=>simp at h
  | cons p r ih =>
   rw [ak,d4,d4];by_cases h1:p.1=k
   ·rw [if_pos h1];by_cases h2:k=j
    ·simp [h1,h2]
    ·have:¬ p.1=j:=fun z=>h2 (h1.symm.trans z);simp only [this,decide_false,h2,if_false];by_cases h3:(r.any fun p=>decide (p.1=k))=true
     ·have:=ih h3;rw [if_neg h2] at this;exact this
     ·congr 1;have:r.map (fun p=>if p.1=k then (p.1,v) else p)=r:=by
       conv=>rhs; rw [<-nC r]
       refine dE fun q hq=>?_;rw [if_neg]; rfl;intro z; exact h3 (List.any_eq_true.mpr ⟨q,hq,by simpa using z⟩)
      rw [this]
   ·rw [if_neg h1];have h3:(r.any fun p=>decide (p.1=k))=true:=by simpa [h1] using h
    by_cases h2:p.1=j
    ·have:¬ k=j:=fun z=>h1 (h2.trans z.symm);simp [h2,this]
    ·simp only [h2,decide_false]; exact ih h3
 ·rename_i h;unfold cp;rw [List.find?_append];by_cases h2:k=j
  ·subst h2;have:l.find? (fun p=>decide (p.1=k))=none:=by
    rw [iw];intro p hp z;exact h (List.any_eq_true.mpr ⟨p,hp,z⟩)
   rw [this]; simp
  ·simp [h2]
def tL(l:List (κ×α))(k:κ)(v:α):(fc l k v).length<=l.length+1:=by
 unfold fc; split <;> simp
end
class tU (κ:Type) [DecidableEq κ] [Enc κ] where
 ok:(∀ k:κ,di (enc k)=true)\/∀ k:κ,lJ (enc k)=true
instance:tU Int:=⟨.inl fun _=>rfl⟩
instance:tU T2:=⟨.inr fun _=>rfl⟩
instance:tU T3:=⟨.inr fun _=>rfl⟩
theorem kD{κ α:Type} [DecidableEq κ] [Enc κ] [tU κ] [DecidableEq α] [Enc α](l:List (κ×α))(k:κ):ig (bb l) (enc k)=true:=by
 unfold ig bb;rcases tU.ok (κ:=κ) with h | h
 ·rw [iU]; left;rw [h k,Bool.true_and,jc,gm];intro p _; exact h p.1
 ·rw [iU]; right;rw [h k,Bool.true_and,jc,gm];intro p _; exact h p.1
end K2
end
section
namespace K2
open PySem (Str)
open Enc (enc)
mutual
def pI:D->D->Bool
 | .int a,.int b=>decide (a < b)
 | .tup a,.tup b=>ni a b
 | .dw a,.dw b=>ni a b
 | _,_=>false
def ni:List D->List D->Bool
 | [],[]=>false
 | [],_ :: _=>true
 | _ :: _,[]=>false
 | x :: xs,y :: ys=>if iM x y=true then ni xs ys else pI x y
end
def nY(x y:D)(xs ys:List D):ni (x :: xs) (y :: ys)=if iM x y=true then ni xs ys else pI x y:=rfl
def QT(a b:Int):pI (.int a) (.int b)=decide (a < b):=rfl
inductive oD where
 | int | tup (l:List oD) | lst (s:oD)
mutual
def cN:oD->D->Bool
 | .int,.int _=>true
 | .tup l,.tup ds=>fP l ds
 | .lst s,.dw ds=>ij s ds
 | _,_=>false
def fP:List oD->List D->Bool
 | [],[]=>true
 | s :: l,d :: ds=>cN s d&&fP l ds
 | _,_=>false
def ij:oD->List D->Bool
 | _,[]=>true
 | s,d :: ds=>cN s d&&ij s ds
end
def dP{a:D}(h:cN .int a=true):∃ i,a=.int i:=by cases a <;> first | exact⟨_,rfl⟩ | exact bg (show false=true from h)
def dM{l:List oD}{a:D}(h:cN (.tup l) a=true):∃ x,a=.tup x:=by cases a <;> first | exact⟨_,rfl⟩ | exact bg (show false=true from h)
def dO{l:oD}{a:D}(h:cN (.lst l) a=true):∃ x,a=.dw x:=by cases a <;> first | exact⟨_,rfl⟩ | exact bg (show false=true from h)
mutual
def VW:oD->Nat
 | .int=>0
 | .tup l=>RY l+1
 | .lst s=>VW s+1
def RY:List oD->Nat
 | []=>0
 | s :: l=>max (VW s) (RY l)
end
def W0(sh:oD):Bool:=decide (VW sh<=7)&&(match sh with
 | .tup []=>false
 | _=>true)
def S7(a b:D):Bool:=!pI b a
def sH(ds:List D):List D:=ds.mergeSort S7
def ux(ds:List D)(G:Gp)(Q:DK):Prop:=match ds with
 | [x]=>∃ (sh:oD) (xs:List D),IT x G/\itemsOf x G=some xs/\xs.all (cN sh)=true/\W0 sh=true/\xs.length < 64/\ip G (.lst (sH xs)) Q
 | _=>False
class aU (α:Type) [DecidableEq α] [Enc α] where
 lt:α->α->Bool
 B8:oD
 Bc:∀ a:α,cN B8 (enc a)=true
 S6:∀ a b:α,pI (enc a) (enc b)=lt a b
 IY:∀ a,lt a a=false
 trans:∀ a b c,lt a b=true->lt b c=true->lt a c=true
 oA:∀ a b,lt a b=false->lt b a=false->a=b
instance:aU Int where
 lt:=fun a b=>decide (a < b)
 B8:=.int
 Bc:=fun _=>rfl
 S6:=fun a b=>rfl
 IY:=fun a=>by simp
 trans:=fun a b c h1 h2=>by simp at *; lia
 oA:=fun a b h1 h2=>by simp at *; lia
def rR{α:Type} [DecidableEq α](lt:α->α->Bool):List α->List α->Bool
 | [],[]=>false
 | [],_ :: _=>true
 | _ :: _,[]=>false
 | x :: xs,y :: ys=>if x=y then rR lt xs ys else lt x y
def xY{α:Type} [DecidableEq α](lt:α->α->Bool)(x y:α)(xs ys:List α):rR lt (x :: xs) (y :: ys)=if x=y then rR lt xs ys else lt x y:=rfl
section
variable {α:Type} [DecidableEq α] {lt:α->α->Bool}
def wz:∀ x:List α,rR lt x x=false
 | []=>rfl
 | a :: x=>by simp only [xY,if_true]; exact wz x
theorem wy(t:∀ a b,lt a b=false->lt b a=false->a=b):∀ (x y:List α),rR lt x y=false->rR lt y x=false->x=y
 | [],[],_,_=>rfl
 | [],_ :: _,h,_=>by cases h
 | _ :: _,[],_,h=>by cases h
 | a :: x,b :: y,h1,h2=>by
  simp only [xY] at h1 h2;by_cases e:a=b
  ·subst e;simp only [if_true] at h1 h2;rw [wy t x y h1 h2]
  ·rw [if_neg e] at h1;rw [if_neg (e7 e)] at h2;exact absurd (t a b h1 h2) e
theorem qJ(ir:∀ a,lt a a=false)(tr:∀ a b c,lt a b=true->lt b c=true->lt a c=true):∀ (x y z:List α),rR lt x y=true->rR lt y z=true->rR lt x z=true
 | [],[],_,h,_=>by cases h
 | [],_ :: _,[],_,h=>by cases h
 | [],_ :: _,_ :: _,_,_=>rfl
 | _ :: _,[],_,h,_=>by cases h
 | _ :: _,_ :: _,[],_,h=>by cases h
 | a :: x,b :: y,c :: z,h1,h2=>by
  simp only [xY] at h1 h2 ⊢;by_cases e1:a=b
  ·subst e1;simp only [if_true] at h1;by_cases e2:a=c
   ·subst e2;simp only [if_true] at h2 ⊢;exact qJ ir tr x y z h1 h2
   ·rw [if_neg e2] at h2 ⊢; exact h2
  ·rw [if_neg e1] at h1;by_cases e2:b=c
   ·subst e2;rw [if_neg e1]; exact h1
   ·rw [if_neg e2] at h2;have h3:=tr _ _ _ h1 h2;rw [if_neg (by rintro rfl; rw [ir] at h3; cases h3)]; exact h3
end
theorem wm{α:Type} [DecidableEq α] [Enc α] [aU α]:∀ (x y:List α),ni (x.map enc) (y.map enc)=rR (aU.lt (α:=α)) x y
 | [],[]=>rfl
 | [],_ :: _=>rfl
 | _ :: _,[]=>rfl
 | a :: x,b :: y=>by simp only [ak,nY,xY,Enc.eqv,wm x y,aU.S6,decide_eq_true_eq]
def Dg{α:Type} [DecidableEq α] [Enc α] [aU α]:∀ (x:List α),ij (aU.B8 α) (x.map enc)=true
 | []=>rfl
 | a :: x=>by simp only [ak,ij,aU.Bc,Dg x,Bool.and_self]
instance {α:Type} [DecidableEq α] [Enc α] [aU α]:aU (List α) where
 lt:=rR aU.lt
 B8:=.lst (aU.B8 α)
 Bc:=fun a=>Dg a
 S6:=fun a b=>wm a b
 IY:=wz
 trans:=qJ aU.IY aU.trans
 oA:=wy aU.oA
def T2.l(t:T2):List Int:=[t.a,t.b]
def T3.l(t:T3):List Int:=[t.a,t.b,t.c]
instance:aU T2 where
 lt:=fun x y=>rR (fun a b=>decide (a < b)) x.l y.l
 B8:=.tup [.int,.int]
 Bc:=fun _=>rfl
 S6:=fun a b=>wm a.l b.l
 IY:=fun a=>wz _
 trans:=fun a b c=>qJ (α:=Int) aU.IY aU.trans _ _ _
 oA:=fun ⟨a,b⟩ ⟨c,d⟩ h1 h2=>by
  have:=wy (α:=Int) aU.oA _ _ h1 h2;simpa [T2.l] using this
instance:aU T3 where
 lt:=fun x y=>rR (fun a b=>decide (a < b)) x.l y.l
 B8:=.tup [.int,.int,.int]
 Bc:=fun _=>rfl
 S6:=fun a b=>wm a.l b.l
 IY:=fun a=>wz _
 trans:=fun a b c=>qJ (α:=Int) aU.IY aU.trans _ _ _
 oA:=fun ⟨a,b,e⟩ ⟨c,d,f⟩ h1 h2=>by
  have:=wy (α:=Int) aU.oA _ _ h1 h2;simpa [T3.l] using this
section
variable {α:Type} [DecidableEq α] [Enc α] [aU α]
def Hr(a b:α):Bool:=!aU.lt b a
def PS(xs:List α):List α:=xs.mergeSort Hr
def Nw(xs:List α):sH (xs.map enc)=(PS xs).map enc:=by
 unfold sH PS;symm;exact List.map_mergeSort fun a _ b _=>by unfold Hr S7; rw [aU.S6]
theorem C6(a b c:α)(h1:Hr a b=true)(h2:Hr b c=true):Hr a c=true:=by
 unfold Hr at *;simp only [CD] at *;cases h:aU.lt c a with
 | false=>rfl
 | true =>
  by_cases e:a=b
  ·subst e; rw [h] at h2; cases h2
  ·have Te:aU.lt a b=true:=by
    cases q:aU.lt a b with
    | true=>rfl
    | false=>exact absurd (aU.oA _ _ q h1) e
   rw [aU.trans _ _ _ h Te] at h2; cases h2
def QX(a b:α)(h1:Hr a b=true)(h2:Hr b a=true):a=b:=by
 unfold Hr at *;exact aU.oA a b (by simpa using h2) (by simpa using h1)
def sG(xs:List α):(PS xs).Perm xs:=List.mergeSort_perm xs Hr
def TG{xs:List α}{x:α}:x∈PS xs↔x∈xs:=(sG xs).mem_iff
def D5(xs:List α):(PS xs).length=xs.length:=(sG xs).length_eq
def Nv{xs:List α}(h:xs.Nodup):(PS xs).Nodup:=(sG xs).nodup_iff.mpr h
end
end K2
end
section
namespace K2
open PySem (Str)
mutual
theorem lL:∀ (sh:oD) (a:D),cN sh a=true->iM a a=true
 | .int,.int i,_=>by show (i == i)=true; exact beq_self_eq_true i
 | .tup l,.tup xs,h=>by show md xs xs=true; exact yP l xs h
 | .lst l,.dw xs,h=>by show md xs xs=true; exact yQ l xs h
theorem yP:∀ (l:List oD) (xs:List D),fP l xs=true->md xs xs=true
 | [],[],_=>rfl
 | s :: l,x :: xs,h=>by
  have h:(cN s x&&fP l xs)=true:=h;rw [aJ] at h;show (iM x x&&md xs xs)=true;rw [lL s x h.1,yP l xs h.2]; rfl
theorem yQ:∀ (s:oD) (xs:List D),ij s xs=true->md xs xs=true
 | _,[],_=>rfl
 | s,x :: xs,h=>by
  have h:(cN s x&&ij s xs)=true:=h;rw [aJ] at h;show (iM x x&&md xs xs)=true;rw [lL s x h.1,yQ s xs h.2]; rfl
end
theorem XH(s:oD)(ih:∀ (a b:D),cN s a=true->cN s b=true->iM a b=true->a=b):∀ (xs ys:List D),ij s xs=true->ij s ys=true->md xs ys=true->xs=ys:=by
 intro xs;induction xs with
 | nil=>intro ys _ _ h; cases ys with
  | nil=>rfl
  | cons _ _=>cases h
 | cons x xs Zk =>
  intro ys h1 h2 h;cases ys with
  | nil=>cases h
  | cons y ys =>
   have h1:(cN s x&&ij s xs)=true:=h1;have h2:(cN s y&&ij s ys)=true:=h2;have h:(iM x y&&md xs ys)=true:=h;rw [aJ] at h1 h2 h;rw [ih x y h1.1 h2.1 h.1,Zk ys h1.2 h2.2 h.2]
mutual
theorem rJ:∀ (sh:oD) (a b:D),cN sh a=true->cN sh b=true->iM a b=true->a=b
 | .int,a,b,h1,h2,h=>by
  first | obtain⟨_,rfl⟩:=dP h1 | obtain⟨_,rfl⟩:=dM h1 | obtain⟨_,rfl⟩:=dO h1
  first | obtain⟨_,rfl⟩:=dP h2 | obtain⟨_,rfl⟩:=dM h2 | obtain⟨_,rfl⟩:=dO h2
  rw [o7] at h; rw [beq_iff_eq.mp h]
 | .tup l,a,b,h1,h2,h=>by
  first | obtain⟨_,rfl⟩:=dP h1 | obtain⟨_,rfl⟩:=dM h1 | obtain⟨_,rfl⟩:=dO h1
  first | obtain⟨_,rfl⟩:=dP h2 | obtain⟨_,rfl⟩:=dM h2 | obtain⟨_,rfl⟩:=dO h2
  rw [RU l _ _ h1 h2 h]
 | .lst l,a,b,h1,h2,h=>by
  first | obtain⟨_,rfl⟩:=dP h1 | obtain⟨_,rfl⟩:=dM h1 | obtain⟨_,rfl⟩:=dO h1
  first | obtain⟨_,rfl⟩:=dP h2 | obtain⟨_,rfl⟩:=dM h2 | obtain⟨_,rfl⟩:=dO h2
  rw [XH l (rJ l) _ _ h1 h2 h]
theorem RU:∀ (l:List oD) (xs ys:List D),fP l xs=true->fP l ys=true->md xs ys=true->xs=ys
 | [],xs,ys,h1,h2,_=>by
  cases xs with
  | nil=>cases ys with
   | nil=>rfl
   | cons _ _=>cases h2
  | cons _ _=>cases h1
 | s :: l,xs,ys,h1,h2,h=>by
  cases xs with
  | nil=>cases h1
  | cons x xs =>
   cases ys with
   | nil=>cases h2
   | cons y ys =>
    have h1:(cN s x&&fP l xs)=true:=h1;have h2:(cN s y&&fP l ys)=true:=h2;have h:(iM x y&&md xs ys)=true:=h;rw [aJ] at h1 h2 h;rw [rJ s x y h1.1 h2.1 h.1,RU l xs ys h1.2 h2.2 h.2]
end
theorem QS(s:oD)(ih:∀ (a b:D),cN s a=true->cN s b=true->pI a b=false->pI b a=false->a=b):∀ (xs ys:List D),ij s xs=true->ij s ys=true->ni xs ys=false->ni ys xs=false->xs=ys:=by
 intro xs;induction xs with
 | nil=>intro ys _ _ h _; cases ys with
  | nil=>rfl
  | cons _ _=>cases h
 | cons x xs Zk =>
  intro ys h1 h2 h3 h4;cases ys with
  | nil=>cases h4
  | cons y ys =>
   have h1:(cN s x&&ij s xs)=true:=h1;have h2:(cN s y&&ij s ys)=true:=h2;rw [aJ] at h1 h2;simp only [nY] at h3 h4;by_cases e:iM x y=true
   ·have exy:=rJ s x y h1.1 h2.1 e;subst exy;rw [if_pos e] at h3 h4;rw [Zk ys h1.2 h2.2 h3 h4]
   ·rw [if_neg e] at h3;by_cases e2:iM y x=true
    ·have:=rJ s y x h2.1 h1.1 e2;subst this; exact absurd e2 e
    ·rw [if_neg e2] at h4;have:=ih x y h1.1 h2.1 h3 h4;subst this;exact absurd (lL s x h1.1) e
mutual
theorem zE:∀ (sh:oD) (a b:D),cN sh a=true->cN sh b=true->pI a b=false->pI b a=false->a=b
 | .int,a,b,h1,h2,h3,h4=>by
  first | obtain⟨_,rfl⟩:=dP h1 | obtain⟨_,rfl⟩:=dM h1 | obtain⟨_,rfl⟩:=dO h1
  first | obtain⟨_,rfl⟩:=dP h2 | obtain⟨_,rfl⟩:=dM h2 | obtain⟨_,rfl⟩:=dO h2
  simp [QT] at h3 h4; congr 1; lia
 | .tup l,a,b,h1,h2,h3,h4=>by
  first | obtain⟨_,rfl⟩:=dP h1 | obtain⟨_,rfl⟩:=dM h1 | obtain⟨_,rfl⟩:=dO h1
  first | obtain⟨_,rfl⟩:=dP h2 | obtain⟨_,rfl⟩:=dM h2 | obtain⟨_,rfl⟩:=dO h2
  rw [Hl l _ _ h1 h2 h3 h4]
 | .lst l,a,b,h1,h2,h3,h4=>by
  first | obtain⟨_,rfl⟩:=dP h1 | obtain⟨_,rfl⟩:=dM h1 | obtain⟨_,rfl⟩:=dO h1
  first | obtain⟨_,rfl⟩:=dP h2 | obtain⟨_,rfl⟩:=dM h2 | obtain⟨_,rfl⟩:=dO h2
  rw [QS l (zE l) _ _ h1 h2 h3 h4]
theorem Hl:∀ (l:List oD) (xs ys:List D),fP l xs=true->fP l ys=true->ni xs ys=false->ni ys xs=false->xs=ys
 | [],xs,ys,h1,h2,_,_=>by
  cases xs with
  | nil=>cases ys with
   | nil=>rfl
   | cons _ _=>cases h2
  | cons _ _=>cases h1
 | s :: l,xs,ys,h1,h2,h3,h4=>by
  cases xs with
  | nil=>cases h1
  | cons x xs =>
   cases ys with
   | nil=>cases h2
   | cons y ys =>
    have h1:(cN s x&&fP l xs)=true:=h1;have h2:(cN s y&&fP l ys)=true:=h2;rw [aJ] at h1 h2;simp only [nY] at h3 h4;by_cases e:iM x y=true
    ·have exy:=rJ s x y h1.1 h2.1 e;subst exy;rw [if_pos e] at h3 h4;rw [Hl l xs ys h1.2 h2.2 h3 h4]
    ·rw [if_neg e] at h3;by_cases e2:iM y x=true
     ·have:=rJ s y x h2.1 h1.1 e2;subst this; exact absurd e2 e
     ·rw [if_neg e2] at h4;have:=zE s x y h1.1 h2.1 h3 h4;subst this;exact absurd (lL s x h1.1) e
end
mutual
theorem Ey:∀ (sh:oD) (a:D),cN sh a=true->pI a a=false
 | .int,.int i,_=>by rw [QT]; exact decide_eq_false (Int.lt_irrefl _)
 | .tup l,.tup xs,h=>by show ni xs xs=false; exact Hm l xs h
 | .lst l,.dw xs,h=>by show ni xs xs=false; exact Hn l xs h
theorem Hm:∀ (l:List oD) (xs:List D),fP l xs=true->ni xs xs=false
 | [],[],_=>rfl
 | s :: l,x :: xs,h=>by
  have h:(cN s x&&fP l xs)=true:=h;rw [aJ] at h;simp only [nY,lL s x h.1,if_true]; exact Hm l xs h.2
theorem Hn:∀ (s:oD) (xs:List D),ij s xs=true->ni xs xs=false
 | _,[],_=>rfl
 | s,x :: xs,h=>by
  have h:(cN s x&&ij s xs)=true:=h;rw [aJ] at h;simp only [nY,lL s x h.1,if_true]; exact Hn s xs h.2
end
theorem Ki(s:oD)(ih:∀ (a b c:D),cN s a=true->cN s b=true->cN s c=true->pI a b=true->pI b c=true->pI a c=true):∀ (xs ys zs:List D),ij s xs=true->ij s ys=true->ij s zs=true->ni xs ys=true->ni ys zs=true->ni xs zs=true:=by
 intro xs;induction xs with
 | nil =>
  intro ys zs _ _ _ h4 h5;cases ys with
  | nil=>cases h4
  | cons _ _=>cases zs with
   | nil=>cases h5
   | cons _ _=>rfl
 | cons x xs Zk =>
  intro ys zs h1 h2 h3 h4 h5;cases ys with
  | nil=>cases h4
  | cons y ys =>
   cases zs with
   | nil=>cases h5
   | cons z zs =>
    have h1:(cN s x&&ij s xs)=true:=h1;have h2:(cN s y&&ij s ys)=true:=h2;have h3:(cN s z&&ij s zs)=true:=h3;rw [aJ] at h1 h2 h3;simp only [nY] at h4 h5 ⊢;by_cases e1:iM x y=true
    ·have:=rJ s x y h1.1 h2.1 e1;subst this;rw [if_pos e1] at h4;by_cases e2:iM x z=true
     ·rw [if_pos e2] at h5 ⊢;exact Zk ys zs h1.2 h2.2 h3.2 h4 h5
     ·rw [if_neg e2] at h5 ⊢; exact h5
    ·rw [if_neg e1] at h4;by_cases e2:iM y z=true
     ·have:=rJ s y z h2.1 h3.1 e2;subst this;rw [if_neg e1]; exact h4
     ·rw [if_neg e2] at h5;have h6:=ih x y z h1.1 h2.1 h3.1 h4 h5;rw [if_neg (fun e3=>by
       have:=rJ s x z h1.1 h3.1 e3;subst this;rw [Ey s x h1.1] at h6; cases h6)]
      exact h6
mutual
theorem ui:∀ (sh:oD) (a b c:D),cN sh a=true->cN sh b=true->cN sh c=true->pI a b=true->pI b c=true->pI a c=true
 | .int,a,b,c,h1,h2,h3,h4,h5=>by
  first | obtain⟨_,rfl⟩:=dP h1 | obtain⟨_,rfl⟩:=dM h1 | obtain⟨_,rfl⟩:=dO h1
  first | obtain⟨_,rfl⟩:=dP h2 | obtain⟨_,rfl⟩:=dM h2 | obtain⟨_,rfl⟩:=dO h2
  first | obtain⟨_,rfl⟩:=dP h3 | obtain⟨_,rfl⟩:=dM h3 | obtain⟨_,rfl⟩:=dO h3
  simp [QT] at *; lia
 | .tup l,a,b,c,h1,h2,h3,h4,h5=>by
  first | obtain⟨_,rfl⟩:=dP h1 | obtain⟨_,rfl⟩:=dM h1 | obtain⟨_,rfl⟩:=dO h1
  first | obtain⟨_,rfl⟩:=dP h2 | obtain⟨_,rfl⟩:=dM h2 | obtain⟨_,rfl⟩:=dO h2
  first | obtain⟨_,rfl⟩:=dP h3 | obtain⟨_,rfl⟩:=dM h3 | obtain⟨_,rfl⟩:=dO h3
  exact A1 l _ _ _ h1 h2 h3 h4 h5
 | .lst l,a,b,c,h1,h2,h3,h4,h5=>by
  first | obtain⟨_,rfl⟩:=dP h1 | obtain⟨_,rfl⟩:=dM h1 | obtain⟨_,rfl⟩:=dO h1
  first | obtain⟨_,rfl⟩:=dP h2 | obtain⟨_,rfl⟩:=dM h2 | obtain⟨_,rfl⟩:=dO h2
  first | obtain⟨_,rfl⟩:=dP h3 | obtain⟨_,rfl⟩:=dM h3 | obtain⟨_,rfl⟩:=dO h3
  exact Ki l (ui l) _ _ _ h1 h2 h3 h4 h5
theorem A1:∀ (l:List oD) (xs ys zs:List D),fP l xs=true->fP l ys=true->fP l zs=true->ni xs ys=true->ni ys zs=true->ni xs zs=true
 | [],xs,ys,zs,h1,h2,_,h,_=>by
  cases xs with
  | nil=>cases ys with
   | nil=>cases h
   | cons _ _=>cases h2
  | cons _ _=>cases h1
 | s :: l,xs,ys,zs,h1,h2,h3,h4,h5=>by
  cases xs with
  | nil=>cases h1
  | cons x xs =>
   cases ys with
   | nil=>cases h2
   | cons y ys =>
    cases zs with
    | nil=>cases h3
    | cons z zs =>
     have h1:(cN s x&&fP l xs)=true:=h1;have h2:(cN s y&&fP l ys)=true:=h2;have h3:(cN s z&&fP l zs)=true:=h3;rw [aJ] at h1 h2 h3;simp only [nY] at h4 h5 ⊢;by_cases e1:iM x y=true
     ·have:=rJ s x y h1.1 h2.1 e1;subst this;rw [if_pos e1] at h4;by_cases e2:iM x z=true
      ·rw [if_pos e2] at h5 ⊢;exact A1 l xs ys zs h1.2 h2.2 h3.2 h4 h5
      ·rw [if_neg e2] at h5 ⊢; exact h5
     ·rw [if_neg e1] at h4;by_cases e2:iM y z=true
      ·have:=rJ s y z h2.1 h3.1 e2;subst this;rw [if_neg e1]; exact h4
      ·rw [if_neg e2] at h5;have h6:=ui s x y z h1.1 h2.1 h3.1 h4 h5;rw [if_neg (fun e3=>by
        have:=rJ s x z h1.1 h3.1 e3;subst this;rw [Ey s x h1.1] at h6; cases h6)]
       exact h6
end
theorem C1(sh:oD){a b:D}(h1:cN sh a=true)(h2:cN sh b=true)(h:pI a b=true):pI b a=false:=by
 cases q:pI b a with
 | false=>rfl
 | true=>have:=ui sh a b a h1 h2 h1 h q; rw [Ey sh a h1] at this; cases this
theorem A2(sh:oD){a b c:D}(h1:cN sh a=true)(h2:cN sh b=true)(h3:cN sh c=true)(q1:pI b a=false)(q2:pI c b=false):pI c a=false:=by
 cases h:pI c a with
 | false=>rfl
 | true =>
  exfalso;cases q:pI a b with
  | false =>
   have:=zE sh a b h1 h2 q q1;subst this; rw [h] at q2; cases q2
  | true=>rw [ui sh c a b h3 h1 h2 h q] at q2; cases q2
theorem vP(sh:oD){xs ys:List D}(hx:∀ x∈xs,cN sh x=true)(hp:ys.Perm xs)(hs:ys.Pairwise fun a b=>pI b a=false):sH xs=ys:=by
 have hy:∀ y∈ys,cN sh y=true:=fun y h=>hx y (hp.mem_iff.mp h);have p1:(sH xs).Perm xs:=List.mergeSort_perm xs S7;have hz:∀ z∈sH xs,cN sh z=true:=fun z h=>hx z (p1.mem_iff.mp h);have s1:(sH xs).Pairwise fun a b=>pI b a=false:=by
  let PB:List { d:D // cN sh d=true }:=xs.attach.map fun x=>⟨x.1,hx x.1 x.2⟩
  have ex:xs=PB.map (·.1):=by
   simp only [PB,bq]
   conv=>lhs; rw [<-List.attach_map_subtype_val xs]
   rfl
  have e2:sH xs=(PB.mergeSort fun a b=>S7 a.1 b.1).map (·.1):=by
   unfold sH;rw [ex];exact(List.map_mergeSort (r:=fun (a b:{ d:D // cN sh d=true })=>S7 a.1 b.1) (s:=S7) (f:=fun x=>x.1) (l:=PB) fun a _ b _=>rfl).symm
  rw [e2,ny]
  have:=List.pairwise_mergeSort (le:=fun (a b:{ d:D // cN sh d=true })=>S7 a.1 b.1) (fun a b c h1 h2=>by
   unfold S7 at *;simp only [CD] at *;exact A2 sh a.2 b.2 c.2 h1 h2) (fun a b=>by
   unfold S7;cases q:pI b.1 a.1 with
   | false=>rfl
   | true=>rw [C1 sh b.2 a.2 q]; rfl) PB
  exact this.imp fun h=>by unfold S7 at h; simpa using h
 refine List.Perm.eq_of_pairwise (le:=fun a b=>pI b a=false) (fun a b ha hb h h'=>?_) s1 hs (p1.trans hp.symm);exact zE sh a b (hz a ha) (hy b hb) h' h
end K2
end
section
namespace K2
open PySem (Str)
open Enc (enc)
def pQ(k:Nat):List D->List D
 | []=>[]
 | d :: r=>.tup [.int (k:Int),d] :: pQ (k+1) r
theorem Du:∀ (ds:List D) (k i:Nat),(pQ k ds)[i]?=(ds[i]?).map fun d=>D.tup [.int ((k+i:Nat):Int),d]
 | [],k,i=>by simp [pQ]
 | d :: r,k,0=>by simp [pQ]
 | d :: r,k,i+1=>by
  rw [pQ,ae,Du r (k+1) i,ae];congr 1; funext x; congr 3; lia
def Dt:∀ (ds:List D) (k:Nat),(pQ k ds).length=ds.length
 | [],_=>rfl
 | d :: r,k=>by rw [pQ,ah,ah,Dt r]
def abi(P:D->Gp->Prop):List D->Gp->Prop
 | [x],G=>P x G
 | _,_=>False
def abh(P:D->D->Gp->Prop):List D->Gp->Prop
 | [x,y],G=>P x y G
 | _,_=>False
def qi:List D->List D->List D
 | x :: xs,y :: ys=>.tup [x,y] :: qi xs ys
 | _,_=>[]
theorem Gd:∀ (xs ys:List D) (i:Nat),(qi xs ys)[i]?=(xs[i]?).bind fun x=>(ys[i]?).map fun y=>D.tup [x,y]
 | [],ys,i=>by simp [qi]
 | x :: xs,[],i=>by cases h:(x :: xs)[i]? <;> simp [qi]
 | x :: xs,y :: ys,0=>by simp [qi]
 | x :: xs,y :: ys,i+1=>by rw [qi,ae,Gd xs ys i,ae,ae]
def Gb:∀ (xs ys:List D),(qi xs ys).length=min xs.length ys.length
 | [],ys=>by simp [qi]
 | x :: xs,[]=>by simp [qi]
 | x :: xs,y :: ys=>by rw [qi,ah,Gb xs ys,ah,ah]; lia
def wo(x:D)(G:Gp):Option (List D×(Gp->Prop)):=match x with
 | .dw ds=>some (ds,fun _=>True)
 | .ref p=>(match G p with
  | some (.lst ds)=>some (ds,fun G2=>G2 p=some (.lst ds))
  | _=>none)
 | _=>none
def vi(x y:D)(G1:Gp)(R:List D->(Gp->Prop)->Gp->Prop):Prop:=match wo x G1,wo y G1 with
 | some (xs,k1),some (ys,k2)=>R (qi xs ys) (fun G2=>k1 G2/\k2 G2) G1
 | _,_=>False
def Rp(a b:gq):OL:=fun E τ G R=>a E τ G fun x G1=>b E τ G1 fun y G2=>vi x y G2 R
def ED(x:D)(G1:Gp)(R:List D->(Gp->Prop)->Gp->Prop):Prop:=match x with
 | .kH kvs=>R (kvs.map (·.1)) (fun _=>True) G1
 | _=>False
def pO(a:gq):OL:=fun E τ G R=>a E τ G fun x G1=>ED x G1 R
def IsL(G:Gp)(d:D)(ds:List D):Prop:=d=.dw ds\/∃ a,d=.ref a/\G a=some (.lst ds)
def IsL.dw{G:Gp}{ds:List D}:IsL G (.dw ds) ds:=.inl rfl
def IsL.enc{α:Type} [DecidableEq α] [Enc α]{G:Gp}(xs:List α):IsL G (enc xs) (xs.map enc):=.inl rfl
def IsL.ref{G:Gp}{a:Nat}{ds:List D}(h:G a=some (.lst ds)):IsL G (.ref a) ds:=.inr ⟨a,rfl,h⟩
def IsL.mono{G G':Gp}{d:D}{ds:List D}(h:IsL G d ds)(l:ft G G'):IsL G' d ds:=by
 rcases h with h | ⟨a,h,e⟩
 ·exact .inl h
 ·exact .inr ⟨a,h,l a _ e⟩
theorem Hq{G:Gp}{d:D}{ds:List D}(h:IsL G d ds):∃ ok:Gp->Prop,wo d G=some (ds,ok)/\∀ G',ft G G'->ok G':=by
 rcases h with rfl | ⟨a,rfl,e⟩
 ·exact⟨_,rfl,fun _ _=>trivial⟩
 ·unfold wo; simp only [e]; exact⟨_,rfl,fun G' l=>l a _ e⟩
theorem Oe{G:Gp}{d d':D}{ds ds':List D}{R:List D->(Gp->Prop)->Gp->Prop}(h:IsL G d ds)(h':IsL G d' ds')(k:∀ ok:Gp->Prop,(∀ G',ft G G'->ok G')->R (qi ds ds') ok G):vi d d' G R:=by
 obtain⟨k1,e1,h1⟩:=Hq h;obtain⟨k2,e2,h2⟩:=Hq h';unfold vi; simp only [e1,e2];exact k _ fun G' l=>⟨h1 G' l,h2 G' l⟩
def vh{G:Gp}{d:D}{ds:List D}(h:IsL G d ds):itemsOf d G=some ds:=by
 rcases h with rfl | ⟨a,rfl,e⟩
 ·rfl
 ·unfold itemsOf; simp only [e]
def Wh{G:Gp}{d:D}{ds:List D}(h:IsL G d ds):IT d G:=by
 rcases h with rfl | ⟨a,rfl,e⟩
 ·trivial
 ·unfold IT; simp only [e]
def xJ{G:Gp}{d:D}{ds:List D}{lo hi:Option Int}{Q:DK}(h:IsL G d ds)(k:ip G (.lst (cut ds lo hi)) Q):Qf d lo hi G Q:=by
 rcases h with rfl | ⟨a,rfl,e⟩
 ·exact k
 ·rw [TN e]; exact k
def UZ{G:Gp}{d:D}{ds:List D}{Q:DK}(h:IsL G d ds)(k:Q (.int (ds.length:Int)) G):kj [d] G Q:=by
 rcases h with rfl | ⟨a,rfl,e⟩
 ·exact k
 ·rw [Iw e]; exact k
def Sd{G:Gp}{d:D}{ds:List D}{Q:DK}(h:IsL G d ds)(k:ip G (.lst ds) Q):yS [d] G Q:=by
 unfold yS; simp only [vh h]; exact k
theorem vr{α:Type} [DecidableEq α] [Enc α] [aU α]{G:Gp}{d:D}{xs:List α}{Q:DK}(h:IsL G d (xs.map enc))(hl:xs.length < 64)(k:ip G (.lst ((PS xs).map enc)) Q)(ok:autoParam (W0 (aU.B8 α)=true) Ad._auto_1):ux [d] G Q :=
 ⟨aU.B8 α,xs.map enc,Wh h,vh h,by rw [jc,gm]; intro x _; exact aU.Bc x,ok,by rw [aq]; exact hl,by rw [Nw]; exact k⟩
def JV{G:Gp}{d x:D}{ds:List D}{i:Int}{Q:DK}(h:IsL G d ds)(e:rZ ds i=some x)(k:Q x G):j6 d (.int i) G Q:=by
 rcases h with rfl | ⟨a,rfl,e2⟩
 ·rw [TQ e]; exact k
 ·rw [qp e2 e]; exact k
def pJ{G:Gp}{d:D}{ds:List D}(h:IsL G d ds):tf d G=some ds:=by
 rcases h with rfl | ⟨a,rfl,e⟩
 ·rfl
 ·unfold tf; simp only [e]
def U2{G:Gp}{d e:D}{ds es:List D}{Q:DK}(h:IsL G d ds)(h':IsL G e es)(hz:ds.length+es.length<=SZ)(k:ip G (.lst (ds++es)) Q):Ft d e G Q:=by
 unfold Ft; simp only [pJ h,pJ h']; exact⟨hz,k⟩
theorem t8{G:Gp}{d e:D}{ds es:List D}{Q:DK}(h:IsL G d ds)(h':IsL G e es)(hz:ds.length+es.length<=SZ)(k:ip G (.lst (ds++es)) Q):gK d e G Q:=by
 have:=U2 h h' hz k;rcases h with rfl | ⟨a,rfl,_⟩
 ·rw [v7]; exact this
 ·rw [v8]; exact this
theorem w5{α:Type}(xs:List α)(i:Nat)(h:i<=xs.length):cut xs (some (i:Int)) none=xs.drop i:=by
 unfold cut j9;simp only;rw [if_neg (by lia),fh,Nat.min_eq_left h];exact List.take_of_length_le (by rw [cq]; lia)
def E8{α:Type}(xs:List α)(i:Nat)(h:i<=xs.length):cut xs none (some (i:Int))=xs.take i:=by
 unfold cut j9;simp only;rw [if_neg (by lia),fh,Nat.min_eq_left h];simp
def oQ{α β:Type}(f:α->β)(xs:List α)(lo hi:Option Int):cut (xs.map f) lo hi=(cut xs lo hi).map f:=by
 unfold cut; rw [aq,O0,O1]
def uA{α:Type}(xs:List α){k:Int}(h0:0<=k)(h1:k < xs.length):rZ xs k=some (xs[k.toNat]'(by lia)):=by
 unfold rZ IX;rw [if_pos h0,if_pos h1];show xs[k.toNat]?=_;exact ax (by lia)
theorem JS{n:Nat}{pre post:List D}{d:D}(h:gX 0 n=pre++d :: post):d=.int (pre.length:Int)/\pre.length < n:=by
 have hl:pre.length < n:=by
  have:=congrArg dI h;simp [gX] at this; lia
 have:=congrArg (fun l=>l[pre.length]?) h;simp only [gX,bu,List.getElem?_range hl] at this;rw [bS (aE _)] at this;simp at this;exact⟨this.symm,hl⟩
def Wt{α β:Type} [DecidableEq α] [Enc α] [DecidableEq β] [Enc β](pre:α->Prop)(f:α->β):jM:=fun ds G Q _=>∃ a:α,ds=[enc a]/\pre a/\Q (enc (f a)) G
def aa1{α β γ:Type} [DecidableEq α] [Enc α] [DecidableEq β] [Enc β] [DecidableEq γ] [Enc γ](pre:α->β->Prop)(f:α->β->γ):jM:=fun ds G Q _=>∃ (a:α) (b:β),ds=[enc a,enc b]/\pre a b/\Q (enc (f a b)) G
def aba:B2
 | .int i,.int j,G,Q=>(0<=j/\j<=1000000/\i.natAbs < 2 ^ 64)/\Q (.int (i ^ j.toNat)) G
 | _,_,_,_=>False
def qU:Nat:=2 ^ 4000
def GC:B2
 | .int i,.int j,G,Q=>(i.natAbs < qU/\j.natAbs < qU)/\Q (.int (i * j)) G
 | _,_,_,_=>False
def GB{i j:Int}{G:Gp}{Q:DK}:aba (.int i) (.int j) G Q=((0<=j/\j<=1000000/\i.natAbs < 2 ^ 64)/\Q (.int (i ^ j.toNat)) G):=rfl
def t6{i j:Int}{G:Gp}{Q:DK}:GC (.int i) (.int j) G Q=((i.natAbs < qU/\j.natAbs < qU)/\Q (.int (i * j)) G):=rfl
def wX:D->Gp->Option (List (D×D))
 | .kH kvs,_=>some kvs
 | .ref a,G=>match G a with
  | some (.fU kvs)=>some kvs
  | _=>none
 | _,_=>none
def wC(kvs:List (D×D)):Bool:=kvs.all fun p=>di p.1
def MZ(ds:List D)(G:Gp)(Q:DK):Prop:=match ds with
 | [x]=>∃ kvs,wX x G=some kvs/\wC kvs=true/\kvs.length<=SZ/\ip G (.fU kvs) Q
 | _=>False
def Kh(x:D)(ds:List D)(G:Gp)(Q:DK):Prop:=match ds with
 | [k,d]=>∃ kvs,wX x G=some kvs/\wC kvs=true/\di k=true/\Q ((look kvs k).getD d) G
 | _=>False
def HC(x:D)(G1:Gp)(R:List D->(Gp->Prop)->Gp->Prop):Prop:=match x with
 | .kH kvs=>wC kvs=true/\R (kvs.map fun p=>.tup [p.1,p.2]) (fun _=>True) G1
 | _=>False
def lK(a:gq):OL:=fun E τ G R=>a E τ G fun x G1=>HC x G1 R
def nW:D->Bool
 | .eT=>true
 | .bl _=>true
 | .int _=>true
 | _=>false
def Ih(k v:gq):gq:=fun E τ G Q=>k E τ G fun x G1=>v E τ G1 fun y G2=>di x=true/\ip G2 (.fU [(x,y)]) Q
def zj(l m:List (Int×Int)):Bool:=l.length == m.length&&l.all fun p=>cp m p.1 == some p.2
def WH(neg:Bool):B2:=fun x y G Q=>∃ l m:List (Int×Int),wX x G=some (bb l)/\wX y G=some (bb m)/\Q (.bl (if neg then !zj l m else zj l m)) G
def y9(neg:Bool):B2:=fun x y G Q=>JW neg x y G Q\/WH neg x y G Q
def zq{κ α:Type} [DecidableEq κ] [Enc κ] [DecidableEq α] [Enc α](G:Gp)(d:D)(l:List (κ×α)):Prop:=wX d G=some (bb l)
section
variable {κ α:Type} [DecidableEq κ] [Enc κ] [DecidableEq α] [Enc α] {l:List (κ×α)} {G G':Gp} {d:D}
def zq.ref{a:Nat}(h:G a=some (.fU (bb l))):zq G (.ref a) l:=by unfold zq wX; simp only [h]
def zq.kH:zq G (.kH (bb l)) l:=rfl
theorem zq.inv(h:zq G d l):d=.kH (bb l)\/∃ a,d=.ref a/\G a=some (.fU (bb l)):=by
 unfold zq wX at h;split at h
 ·exact .inl (by rw [aZ h])
 ·rename_i a;split at h
  ·rename_i kvs e;exact .inr ⟨a,rfl,by rw [e,aZ h]⟩
  ·cases h
 ·cases h
def V8(_:Gp)(d:D)(l:List (κ×α)):Prop:=d=.kH (bb l)
def V8.p(h:V8 G d l):zq G' d l:=by unfold V8 at h; rw [h]; exact .kH
def lI{β:Type} [DecidableEq β] [Enc β](l:List (Int×β)):wC (bb l)=true:=by
 unfold wC bb; rw [jc,gm]; intro p _; rfl
def Dv(l:List (κ×α)):(bb l).length=l.length:=by unfold bb; rw [aq]
def Jz(h:zq G d l):S2 d G:=by
 rcases h.inv with rfl | ⟨a,rfl,e⟩
 ·trivial
 ·unfold S2; simp only [e]
def Rj {C:String} {Q:DK} (h:zq G d l) (k:Q (.bl (C == "dict")) G):isAt C d G Q:=by
 rcases h.inv with rfl | ⟨a,rfl,e⟩
 ·exact k
 ·rw [Ri]; simp only [e]; exact k
end
section
variable {α:Type} [DecidableEq α] [Enc α] {l:List (Int×α)} {G:Gp} {d:D}
def Sg{Q:DK}(h:zq G d l)(hs:l.length<=SZ)(k:ip G (.fU (bb l)) Q):MZ [d] G Q:=⟨_,h,lI l,by rw [Dv]; exact hs,k⟩
theorem Uw{Q:DK}{i:Int}{e:α}(h:zq G d l)(k:Q (enc ((cp l i).getD e)) G):Kh d [.int i,enc e] G Q:=by
 refine⟨_,h,lI l,rfl,?_⟩;have:(look (bb l) (.int i)).getD (enc e)=enc ((cp l i).getD e):=by
  rw [show (D.int i)=enc i from rfl,pK]; cases cp l i <;> rfl
 rw [this]; exact k
theorem ma{G0:Gp}{R:List D->(Gp->Prop)->Gp->Prop}(h:V8 G0 d l)(le0:ft G0 G)(k:∀ ok:Gp->Prop,(∀ G',ft G0 G'->ok G')->R (l.map fun p=>.tup [.int p.1,enc p.2]) ok G):HC d G R:=by
 unfold V8 at h;rw [h];refine⟨lI l,?_⟩;have:(bb l).map (fun p=>D.tup [p.1,p.2])=l.map fun p=>.tup [.int p.1,enc p.2]:=by unfold bb; rw [bq]; rfl
 rw [this];exact k _ fun G' le=>trivial
theorem qM{G0:Gp}{R:List D->(Gp->Prop)->Gp->Prop}(h:V8 G0 d l)(le0:ft G0 G)(k:∀ ok:Gp->Prop,(∀ G',ft G0 G'->ok G')->R (l.map fun p=>.int p.1) ok G):ED d G R:=by
 unfold V8 at h;rw [h];show R ((bb l).map (·.1)) _ G;have:(bb l).map (·.1)=l.map fun p=>D.int p.1:=by unfold bb; rw [bq]; rfl
 rw [this];exact k _ fun G' le=>trivial
theorem CQ{i:Int}{v:α}{Q:DK}(h:zq G d l)(e:cp l i=some v)(k:Q (enc v) G):j6 d (.int i) G Q:=by
 have hk:ig (bb l) (.int i)=true:=kD l i;have hl:look (bb l) (.int i)=some (enc v):=by rw [show (D.int i)=enc i from rfl,pK,e]; rfl
 rcases h.inv with rfl | ⟨a,rfl,e⟩
 ·rw [v5,hl]; exact⟨hk,k⟩
 ·rw [L7,e]; simp only [hl]; exact⟨hk,k⟩
theorem fN{a:Nat}{i:Int}{v:α}{Q:Gp->Prop}(h:G a=some (.fU (bb l)))(hs:l.length < SZ)(k:Q (eL G a (.fU (bb (fc l i v))))):yA (.ref a) (.int i) (enc v) G Q:=by
 unfold yA;simp only [h];refine⟨kD l i,by rw [Dv]; exact hs,?_⟩;rw [show (D.int i)=enc i from rfl,Ma]; exact k
end
def Qi{neg:Bool}{G:Gp}{d e:D}{l m:List (Int×Int)}{Q:DK}(h1:zq G d l)(h2:zq G e m)(k:Q (.bl (if neg then !zj l m else zj l m)) G):y9 neg d e G Q:=.inr ⟨l,m,h1,h2,k⟩
theorem GG{neg:Bool}{G:Gp}{i j:Int}{Q:DK}(k:Q (.bl (if neg then !decide (i=j) else decide (i=j))) G):y9 neg (.int i) (.int j) G Q:=.inl ⟨_,_,.int _,.int _,by
 have:iM (.int i) (.int j)=decide (i=j):=Enc.eqv i j;rw [this]; exact k⟩
def Qp(l:List (Int×Int)):((bb l).all fun p=>di p.1&&nW p.2)=true:=by
 unfold bb; rw [jc,gm]; intro p _; rfl
abbrev TF2:=lM->iO->Gp->(List Str->Gp->Prop)->Prop
end K2
end
section
namespace K2
def E4(x:PySem.Str)(t:BF):gN:=fun E _ τ G=>t E τ G fun ds _=>ds.length<=SZ/\E ⟨x,[]⟩ (fun _=>none)
end K2
namespace K2
open PySem (Str)
def R1(sp:jM)(t:BF)(i:Nat)(cat:List Str)(th:gN):gN:=fun _ K τ G =>
 t (fun _ _=>False) τ G fun ds G1=>sp ds (fun _=>none) (fun _ _=>K.nx τ G1) fun ex _=>cat.contains ex.cls=true /\
  th (fun _ _=>False) ⟨fun ph G'=>K.nx (ph.set i none) G',fun _ _=>False,fun _ _=>False,fun _ _=>False⟩ (τ.set i (some (.exc ex.cls))) G1
end K2
namespace K2
open PySem (Str)
def MW(all sub:List Str)(a:gq):gq:=fun E τ G Q=>a E τ G fun x G1=>match x with
 | .eT=>Q (.bl false) G1
 | .exc c=>all.contains c=true/\Q (.bl (sub.contains c)) G1
 | .Dp c _ _=>all.contains c=true/\Q (.bl (sub.contains c)) G1
 | _=>False
end K2
namespace K2
open PySem (Str)
def K7(sp:jM)(t:BF):gq:=fun E τ G Q=>t E τ G fun ds G1=>sp ds G1 Q E
end K2
end
section
namespace K2
open PySem (Str)
open Enc (enc)
def wH(x:D)(n:Nat)(G1:Gp)(R:List D->(Gp->Prop)->Gp->Prop):Prop:=match x with
 | .dw ds=>R (pQ n ds) (fun _=>True) G1
 | .ref p=>(match G1 p with
  | some (.lst ds)=>R (pQ n ds) (fun G2=>G2 p=some (.lst ds)) G1
  | _=>False)
 | _=>False
end K2
end
section
namespace K2
open PySem (Str)
def Of(x:D)(G1:Gp)(R:List D->(Gp->Prop)->Gp->Prop):Prop:=match x with
 | .kH kvs=>(kvs.all fun p=>lJ p.1)=true/\R (kvs.map fun p=>.tup [p.1,p.2]) (fun _=>True) G1
 | _=>False
def EC(a:gq):OL:=fun E τ G R=>a E τ G fun x G1=>Of x G1 R
def Ig(kv:List (Int×Int)):gq:=fun _ _ G Q=>ip G (.fU (bb kv)) Q
end K2
end
section
namespace K2
open PySem (Str)
open Enc (enc)
def h2(t:T2):Int:=PySem.reduceHash (PySem.Builtin.Tuple.tupleHashOf [PySem.hashInt t.a,PySem.hashInt t.b])
end K2
end
section
namespace K2
open Enc (enc)
def WD:B2:=fun x y G Q=>∃ (sh:oD) (a b:D),(Sn G SN x a/\Sn G SN y b)/\(cN sh a=true/\cN sh b=true)/\Q (.bl (pI a b)) G
theorem Qg{α:Type} [DecidableEq α] [Enc α] [aU α]{x y:α}{G:Gp}{Q:DK}(hd:Enc.dep α<=8)(q:Q (.bl (aU.lt x y)) G):WD (enc x) (enc y) G Q :=
 ⟨aU.B8 α,enc x,enc y,⟨Enc.sn _ _ _ hd,Enc.sn _ _ _ hd⟩,⟨aU.Bc _,aU.Bc _⟩,by rw [aU.S6]; exact q⟩
end K2
end
section
namespace K2
open PySem (Str)
def UY(ds:List D)(G:Gp)(Q:DK):Prop:=match ds with
 | [x]=>(match tf x G with
  | some xs=>Q (.tup xs) G
  | none=>False)
 | _=>False
def only(a:Nat)(o:GO):Gp:=fun b=>if b=a then some o else none
def rC(kvs:List (PK×D))(k:PK):Option D:=(kvs.find? fun p=>decide (p.1=k)).map (·.2)
def NH(kvs:List (PK×D))(k:PK)(v:D):List (PK×D) :=
 if (kvs.any fun p=>decide (p.1=k))=true then kvs.map (fun p=>if p.1=k then (p.1,v) else p) else kvs++[(k,v)]
def tyP(x:D)(G:Gp):Prop:=match x with
 | .ref a=>(match G a with
  | some (.rV _)=>True
  | _=>False)
 | .pj _=>True
 | _=>False
def Hk(x:D)(ds:List D)(G:Gp)(Q:DK):Prop:=match x,ds with
 | .ref a,[k,d]=>∃ kvs pk,G a=some (.rV kvs)/\k=rm pk/\Q ((rC kvs pk).getD d) G
 | .pj kvs,[k,d]=>∃ pk,k=rm pk/\Q ((rC kvs pk).getD d) G
 | _,_=>False
def JQ(o k d:D)(G:Gp)(Q:Gp->Prop):Prop:=match o with
 | .ref a=>∃ kvs pk,G a=some (.rV kvs)/\k=rm pk/\kvs.length < SZ/\Q (eL G a (.rV (NH kvs pk d)))
 | _=>False
def HI(o k:gq):B0:=fun E d τ G Q=>o E τ G fun x G1=>k E τ G1 fun y G2=>JQ x y d G2 fun G3=>Q τ G3
def R5:gq:=fun _ _ G Q=>ip G (.rV []) Q
def R4(k v:gq):gq:=fun E τ G Q=>k E τ G fun x G1=>v E τ G1 fun y G2=>∃ pk,x=rm pk/\ip G2 (.rV [(pk,y)]) Q
def Og(x:D)(G1:Gp)(R:List D->(Gp->Prop)->Gp->Prop):Prop:=match x with
 | .pj kvs=>R (kvs.map fun p=>.tup [rm p.1,p.2]) (fun _=>True) G1
 | _=>False
def wG(a:gq):OL:=fun E τ G R=>a E τ G fun x G1=>Og x G1 R
def Hi(x:D)(ds:List D)(G:Gp)(Q:DK):Prop:=match x,ds with
 | .ref a,[k]=>∃ kvs d,G a=some (.fU kvs)/\(lJ k=true/\(kvs.all fun p=>lJ p.1)=true/\look kvs k=some d)/\Q d (eL G a (.fU (kvs.filter fun p=>!iM p.1 k)))
 | _,_=>False
end K2
end
section
namespace K2
def tupP:D->Bool
 | .tup ds=>ds.all nW
 | .ref _=>true
 | .kH kvs=>kvs.all fun p=>di p.1&&nW p.2
 | d=>nW d
def AP:GO->Bool
 | .lst ds=>ds.all tupP
 | .fU kvs=>kvs.all fun p=>di p.1&&nW p.2
 | _=>false
def Ve(G2 G1:Gp):Gp:=fun a=>match G2 a with
 | some o=>some o
 | none=>G1 a
def resT(T:Nat->Bool)(G:Gp):Gp:=fun a=>if T a=true then G a else none
def Bv(sp:jM)(t:BF):gq:=fun E τ G Q=>t E τ G fun ds G1=>∃ (R:Nat->Bool) (ts:List D),(∀ a,R a=true->∃ xs,G1 a=some (.lst xs))/\Cw G1 R ds ts /\
 sp ts (fun _=>none) (fun x G2=>tupP x=true/\∃ T:Nat->Bool,(∀ a o,T a=true->G2 a=some o->AP o=true)/\((∀ a o,G2 a=some o->G1 a=none)->Q x (Ve (resT T G2) G1))) fun _ _=>False
def Kw(a b:gq):OL:=fun E τ G R=>a E τ G fun x G1=>b E τ G1 fun y G2=>∃ n:Nat,y=.int n/\n < 4611686018427387904/\wH x n G2 R
end K2
end
section
namespace K2
open PySem
section
variable {prog:bE} {w:World} {K:Type} [DecidableEq K] (knd:FX prog w K)
inductive uN (h:Heap):List K->List Value->Prop
 | nil:uN h [] []
 | cons {k:K} {b:Addr} {ks:List K} {vs:List Value}:knd.is h k b->uN h ks vs->uN h (k :: ks) (.ref b :: vs)
def uO (h:Heap) (ks:List K) (a:Addr):Prop:=∃ o items n,h.get? a=some o/\o.cls=.type "tuple"/\o.data=.seq items n/\uN knd h ks items.toList
variable {knd}
theorem uN.inj{h:Heap}{x y:List K}{vs:List Value}(hx:uN knd h x vs)(hy:uN knd h y vs):x=y:=by
 induction hx generalizing y with
 | nil=>cases hy; rfl
 | cons h1 _ ih =>
  cases hy with
  | cons h2 t2=>rw [knd.inj h1 h2,ih t2]
theorem uN.keeps{h h':Heap}{ks:List K}{vs:List Value}{d:Addr}{o:Obj}{es ep}(x:uN knd h ks vs)(ho:h.get? d=some o)(hd:o.data=.dict es ep)(hs:fX d h h'):uN knd h' ks vs:=by
 induction x with
 | nil=>exact .nil
 | cons h1 _ ih=>exact .cons (knd.keeps h1 ho hd hs) ih
def uO.typeIs {s:ay} {ks:List K} {a:Addr} (x:uO knd s.heap ks a):s.TypeIs (.ref a) "tuple":=let ⟨o,_,_,ho,hc,_⟩:=x; ⟨o,ho,hc⟩
theorem uO.inj{h:Heap}{a:Addr}{x y:List K}(hx:uO knd h x a)(hy:uO knd h y a):x=y:=by
 obtain⟨o,items,n,ho,_,hd,hi⟩:=hx;obtain⟨o',abI,n',FI,_,BZ,VR⟩:=hy;obtain rfl:o=o':=aZ (ho.symm.trans FI);rw [hd] at BZ;injection BZ with h1 _
 subst h1;exact hi.inj VR
theorem uO.keeps{h h':Heap}{ks:List K}{a d:Addr}{o:Obj}{es ep}(x:uO knd h ks a)(ho:h.get? d=some o)(hd:o.data=.dict es ep)(hs:fX d h h'):uO knd h' ks a:=by
 obtain⟨o',items,n,FI,hc,BZ,hi⟩:=x;have tm:a≠d:=by
  rintro rfl;obtain rfl:o'=o:=aZ (FI.symm.trans ho);rw [hd] at BZ; exact nomatch BZ
 exact⟨o',items,n,(hs.2 a tm).trans FI,hc,BZ,hi.keeps ho hd hs⟩
def Es(knd:FX prog w K)(ks:List K):Int:=reduceHash (eD (ks.map knd.hash))
def lS(knd:FX prog w K):List K->Nat
 | []=>0
 | k :: ks=>knd.draws k+lS knd ks
def wg(ks:List K)(k:K):lS knd (ks++[k])=lS knd ks+knd.draws k:=by
 induction ks with
 | nil=>simp [lS]
 | cons a r ih=>rw [aB,lS,lS,ih,pB]
variable {A:cO} {E:Value->ay->Prop} {s:ay}
theorem MH{ks:List K}{a:Addr}{Q:Int->ay->Prop}(hu:A.units < cLine/\knd.room A.in1)(hk:uO knd s.heap ks a)(h:Q (Es knd ks) { s with toks:=s.toks+(lS knd ks+1) }) :
  wpAny (model prog w) A (pyHash (.ref a)) Q E s:=by
 have hT:=hk.typeIs;obtain⟨o,items,n,ho,_,hd,hi⟩:=hk;unfold pyHash
 first | unfold pyHashByItsType | skip
 first | refine ag (wpAny_cRoomFor_or (.inr hu.1) ?_) | skip
 refine ag (zO hT F.slot_tuple_hash.lookup ?_);show wpAny _ _ (if (some (Nd "tuple.__hash__") == some gM)=true then _ else _) Q E s;rw [if_neg (by rw [beq_builtin_none]; exact fu)];refine ag (zO hT F.slot_tuple_hash.lookup ?_);show wpAny _ _ (callSpecialIfBoundUnlessNone? (.ref a) "__hash__" _ >>= _) Q E s;refine ag (wpAny_callSpecialIfBoundUnlessNone?_slot hT F.slot_tuple_hash (df F.slot_tuple_hash hT F.entry_tuple_hash ?_ (F.args_tuple_hash_1 _)));show wpAny _ _ (zu (.ref a) >>= _) _ _ s;refine ag (FQ ho hd ?_);refine ag ?_;rw [<-zZ];refine mx _
  (fun rest (b:Array Int) s'=>∃ done left,ks=done++left/\uN knd s.heap left rest/\b.toList=done.map knd.hash/\s'={ s with toks:=s.toks+lS knd done })
  _ ?_ ?_ _ _ ⟨[],ks,rfl,hi,rfl,rfl⟩
 ·rintro x rest b s' ⟨done,left,rfl,hl,hb,rfl⟩;cases hl with
  | @cons k _ ks' _ h1 hl' =>
   refine ag (knd.pyHash hu.2 h1 ?_)
   first
    | exact aA ⟨done++[k],ks',by simp,hl',by simp [hb],by simp [wg,pB]⟩
    | exact ag (aA (aA ⟨done++[k],ks',by simp,hl',by simp [hb],by simp [wg,pB]⟩))
 ·rintro b s' ⟨done,left,rfl,hl,hb,rfl⟩;cases hl;rw [cg] at h;show wpAny _ _ (retInt (eD b.toList)) _ _ _;rw [hb];refine wpAny_ret_mkInt ?_;show wpAny _ _ (if (decide (-(2:Int) ^ 63<=eD (done.map knd.hash))&&decide (eD (done.map knd.hash) < 2 ^ 63))=true then _ else _) Q E _;unfold Es reduceHash at h;by_cases hr:(decide (-(2:Int) ^ 63<=eD (done.map knd.hash))&&decide (eD (done.map knd.hash) < 2 ^ 63))=true
  ·rw [if_pos hr];rw [if_pos hr] at h;exact aA (by simpa [pB] using h)
  ·rw [if_neg hr];rw [if_neg hr] at h;exact ag (wpAny_rule (aA (by simpa [pB] using h)))
theorem K0{x y:List K}{a b:Addr}{P:Fin->ay->Prop}(hu:knd.room A)(hx:uO knd s.heap x a)(hy:uO knd s.heap y b)(h:P (.done (.ret (.bool (decide (x=y))))) s) :
  wpAny (model prog w) A (Builtin.«tuple.__eq__» ⟨[.ref a,.ref b],[]⟩) P E s:=by
 have hTb:=hy.typeIs;obtain⟨oa,xs,na,hoa,_,hda,hia⟩:=hx;obtain⟨ob,ys,nb,hob,_,ze,hib⟩:=hy;show wpAny _ _ (Jh (.ref b) (.type "tuple") >>= _) _ _ s;refine ag (qc hTb zT ?_);simp only [bK,au,if_false];refine ag (FQ hoa hda ?_);refine ag (FQ hob ze ?_);refine ag ?_;refine mx _
  (fun rest r s'=>r.1=none/\s'=s/\∃ x' y' PB Yr,rest=List.zip PB Yr/\uN knd s.heap x' PB/\uN knd s.heap y' Yr/\decide (x'=y')=decide (x=y)/\(PB.length == Yr.length)=(xs.size == ys.size))
  _ ?_ ?_ _ _ ⟨rfl,rfl,x,y,xs.toList,ys.toList,rfl,hia,hib,rfl,by simp⟩
 ·rintro⟨u,v⟩ rest r s' ⟨hr,rfl,x',y',PB,Yr,hz,hx',VG,UH,hlen⟩;cases hx' with
  | nil=>simp at hz
  | @cons k1 u' x'' aaT h1 abR =>
   cases VG with
   | nil=>simp at hz
   | @cons k2 v' y'' aaS h2 abP =>
    simp only [rO,List.cons.injEq,Prod.mk.injEq] at hz;obtain⟨⟨rfl,rfl⟩,rfl⟩:=hz;refine ag (knd.eqBool hu h1 h2 ?_);by_cases hk:k1=k2
    ·subst hk;rw [decide_eq_true rfl];simp only [bK,au,if_false];refine aA ⟨rfl,rfl,x'',y'',aaT,aaS,rfl,abR,abP,?_,by simpa using hlen⟩;rw [<-UH];by_cases Yd:x''=y''
     ·simp [Yd]
     ·simp [Yd]
    ·rw [decide_eq_false hk];simp only [eW,if_true];have hf:decide (x=y)=false:=by rw [<-UH]; simp [hk]
     rw [hf] at h;exact ag (aA (aA (aA h)))
 ·rintro⟨r1,r2⟩ s' ⟨hr,rfl,x',y',PB,Yr,hz,hx',VG,UH,hlen⟩;simp only at hr;subst hr;refine aA ?_;have acn:(xs.size == ys.size)=decide (x=y):=by
   rw [<-UH,<-hlen];cases hx' with
   | nil =>
    cases VG with
    | nil=>simp
    | cons _ _=>simp
   | cons _ _ =>
    cases VG with
    | nil=>simp
    | cons _ _=>simp at hz
  show P (.done (.ret (.bool (xs.size == ys.size)))) s';rw [acn]; exact h
theorem Ds{x y:List K}{a b:Addr}{Q:Bool->ay->Prop}(hu:A.units < cLine/\knd.room A.in1)(hx:uO knd s.heap x a)(hy:uO knd s.heap y b)(h:Q (decide (x=y)) s) :
  wpAny (model prog w) A (eqBool (.ref a) (.ref b)) Q E s:=by
 unfold eqBool
 try with_reducible refine cF ?_
 show wpAny _ _ (if (fe a == fe b)=true then _ else _) Q E s;by_cases Te:(fe a == fe b)=true
 ·rw [if_pos Te];have e:a=b:=by have:=eq_of_beq Te; injection this
  subst e;obtain rfl:=hx.inj hy;exact ag (wpAny_rule (aA (by simpa using h)))
 ·rw [if_neg Te];exact ag (wpAny_richCompare_same_room (op:=.Eq) hx.typeIs hy.typeIs F.slot_tuple_eq
   (df F.slot_tuple_eq hx.typeIs F.entry_tuple_eq (K0 hu.2 hx hy ⟨_,rfl,(fun e=>nomatch e),oS h⟩) (F.args_tuple_eq_2 _ _)) hu.1)
theorem AB{ks:List K}{a:Addr}{Q:Bool->ay->Prop}(n:Nat)(hq:∀ (k:K) (b:Addr) (Q:Bool->ay->Prop),knd.is s.heap k b->Q true s->wpAny (model prog w) A (Pw n (.ref b)) Q E s)(hk:uO knd s.heap ks a)(h:Q true s):wpAny (model prog w) A (Pw (n+1) (.ref a)) Q E s:=by
 have hT:=hk.typeIs;obtain⟨o,items,n',ho,_,hd,hi⟩:=hk;unfold Pw;refine ag (zO hT F.slot_tuple_eq.lookup ?_);show wpAny _ _ (Jh (.ref a) (.type "tuple") >>= _) _ _ s;refine ag (qc hT zT ?_);simp only [bK,au,if_false];refine ag (uY ho hd ?_);refine ag ?_;show wpAny _ _ (forIn items _ _) _ _ s;rw [<-zZ];refine mx _ (fun rest r s'=>r.1=none/\s'=s/\∃ l,uN knd s.heap l rest) _ ?_ ?_ _ _ ⟨rfl,rfl,_,hi⟩
 ·rintro v rest r s' ⟨hr,rfl,l,wN⟩;cases wN with
  | cons h1 h2 =>
   refine ag (hq _ _ _ h1 ?_);simp only [bK,au,if_false];exact aA ⟨rfl,rfl,_,h2⟩
 ·rintro⟨r1,r2⟩ s' ⟨hr,rfl,_⟩;simp only at hr;subst hr;exact aA h
end
theorem L9{prog:bE}{w:World}{K:Type} [DecidableEq K]{knd:KeyKind prog w K}{A:cO}{E:Value->ay->Prop}{s:ay}{ks:List K}{a:Addr}{Q:Bool->ay->Prop}(n:Nat)(hk:IsTupleKey knd s.heap ks a)(h:Q true s):wpAny (model prog w) A (Pw (n+1) (.ref a)) Q E s:=by
 have hT:=hk.typeIs;obtain⟨o,items,n',ho,_,hd,hi⟩:=hk;unfold Pw;refine ag (zO hT F.slot_tuple_eq.lookup ?_);show wpAny _ _ (Jh (.ref a) (.type "tuple") >>= _) _ _ s;refine ag (qc hT zT ?_);simp only [bK,au,if_false];refine ag (uY ho hd ?_);refine ag ?_;show wpAny _ _ (forIn items _ _) _ _ s;rw [<-zZ];refine mx _ (fun rest r s'=>r.1=none/\s'=s/\∀ v∈rest,carriedByValue v=true) _ ?_ ?_ _ _ ⟨rfl,rfl,hi.byValue⟩
 ·rintro v rest r s' ⟨hr,rfl,wN⟩;rw [eqIsQuiet_byValue _ (wN v bH)];refine ag (aA ?_);simp only [bK,au,if_false];exact aA ⟨rfl,rfl,fun u HD=>wN u (aG _ HD)⟩
 ·rintro⟨r1,r2⟩ s' ⟨hr,rfl,_⟩;simp only at hr;subst hr;exact aA h
section
variable {prog:bE} {w:World}
def Yb{K:Type} [DecidableEq K](knd:KeyKind prog w K):FX prog w (List (List K)) where
 is:=uO (jg knd)
 hash:=Es (jg knd)
 draws:=fun ks=>lS (jg knd) ks+1
 room:=fun A=>A.units < cLine/\(jg knd).room A.in1
 inj:=fun hx hy=>hx.inj hy
 keeps:=fun x ho hd hs=>x.keeps ho hd hs
 pyHash:=fun hu hk h=>MH hu hk h
 eqBool:=fun hu hx hy h=>Ds hu hx hy h
 quiet:=fun hk h=>AB 7 (fun _ _ _ h1 h2=>L9 6 h1 h2) hk h
def nk3{K:Type} [DecidableEq K](knd:KeyKind prog w K):FX prog w (List (List (List K))) where
 is:=uO (Yb knd)
 hash:=Es (Yb knd)
 draws:=fun ks=>lS (Yb knd) ks+1
 room:=fun A=>A.units < cLine/\(Yb knd).room A.in1
 inj:=fun hx hy=>hx.inj hy
 keeps:=fun x ho hd hs=>x.keeps ho hd hs
 pyHash:=fun hu hk h=>MH hu hk h
 eqBool:=fun hu hx hy h=>Ds hu hx hy h
 quiet:=fun hk h=>AB 7 (fun _ _ _ h1 h2=>AB 6 (fun _ _ _ h3 h4=>L9 5 h3 h4) h1 h2) hk h
theorem NT{K:Type} [DecidableEq K]{knd:KeyKind prog w K}{A:cO}(hu:A.units+8 < cLine):(nk3 knd).room A:=by
 refine⟨?_,?_,?_⟩
 ·lia
 ·show A.units+1 < cLine; lia
 ·show A.units+1+1 < cLine; lia
theorem GX{K:Type} [DecidableEq K]{knd:KeyKind prog w K}{A:cO}(hu:A.units+8 < cLine):(nk3 knd).room A.in1:=by
 refine⟨?_,?_,?_⟩
 ·show A.units+1 < cLine; lia
 ·show A.units+1+1 < cLine; lia
 ·show A.units+1+1+1 < cLine; lia
end
section
variable {K:Type} [DecidableEq K]
def We(xs:List (K×Addr×Value))(k:K):List (K×Addr×Value):=xs.filter fun x=>decide (x.1≠k)
theorem Nk{xs:List (K×Addr×Value)}(hn:(xs.map (·.1)).Nodup):∀ {j:Nat} {k:K} {p:Addr×Value},xs[j]?=some (k,p)->xs.eraseIdx j=We xs k:=by
 induction xs with
 | nil=>intro j k p h; simp at h
 | cons x r ih =>
  intro j k p h;rw [ak,aS] at hn;cases j with
  | zero =>
   simp only [aa,Nh] at h;subst h;unfold We;rw [O4,O3 (by simp)];symm;refine List.filter_eq_self.mpr fun y hy=>?_;have:y.1≠k:=fun z=>hn.1 (List.mem_map.mpr ⟨y,hy,z⟩);simpa using this
  | succ j =>
   simp only [ae] at h;have:x.1≠k:=fun z=>hn.1 (by rw [z]; exact List.mem_map.mpr ⟨_,cV h,rfl⟩);unfold We;rw [O5,O2 (by simpa using this),ih hn.2 h];rfl
def C0{α β:Type}(f:α->β):∀ (l:List α) (j:Nat),(l.eraseIdx j).map f=(l.map f).eraseIdx j
 | [],_=>rfl
 | _ :: _,0=>rfl
 | a :: l,j+1=>congrArg (f a :: ·) (C0 f l j)
end
section
variable {prog:bE} {w:World} {K:Type} [DecidableEq K] {knd:FX prog w K} {A:cO} {E:Value->ay->Prop} {s:ay}
theorem D1{d a:Addr}{xs:List (K×Addr×Value)}{k:K}{p:Addr×Value}{Q:Option fV->ay->Prop}(hu:knd.room A)(UE:knd.is s.heap k a)(hm:s.heap.DictOfH knd d xs)(hp:atKey xs k=some p)(hsz:xs.length<=a8)
  (hQ:∀ e:fV,e.val=p.2->∀ h',h'.DictOfH knd d (We xs k)->fX d s.heap h'->Q (some e) { s with heap:=h',toks:=s.toks+knd.draws k }) :
  wpAny (model prog w) A (Ga d (.ref a)) Q E s:=by
 obtain⟨o,es,ep,ho,hc,hd,he,his,hn⟩:=hm;unfold Ga
 try with_reducible refine cF ?_
 refine ag (knd.pyHash hu UE (ag (wpAny_dictFind_heap (s:={ s with toks:=s.toks+knd.draws k }) hu UE ho hd he his hn ?_ ?_)))
 ·intro Xm;rw [atKey_none_of_get Xm] at hp; cases hp
 ·intro j q hj;rw [atKey_of_get hn hj] at hp;cases hp;refine ag (g6 (s:={ s with toks:=s.toks+knd.draws k }) ho hd ?_);rw [entry_at he j,hj]
  refine ag (wpAny_updateDictKeys (hz:=by have e:=size_of_entries he; lia) (s:={ s with toks:=s.toks+knd.draws k }) ho hd (aA (hQ _ rfl _ ⟨_,_,ep+1,km _ ho (Obj.isFreed_of_dict (Obj.data_mapDictKeys hd _)),
   hc.mapDictKeys _,Obj.data_mapDictKeys hd _,?_,?_,?_⟩ (ko ..))))
  ·rw [<-Nk hn hj,C0,<-he];obtain⟨l⟩:=es;simp
  ·intro x hx;exact knd.keeps (his x (List.mem_filter.mp hx).1) ho hd (ko ..)
  ·exact oy (mG _ lE) hn
theorem Qo{d a:Addr}{xs:List (K×Addr×Value)}{k:K}{p:Addr×Value}{Q:Value->ay->Prop}(hu:knd.room A.in1)(UE:knd.is s.heap k a)(hm:s.heap.DictOfH knd d xs)(hp:atKey xs k=some p)(hsz:xs.length<=a8)
  (hQ:∀ h',h'.DictOfH knd d (We xs k)->fX d s.heap h'->Q p.2 { s with heap:=h',toks:=s.toks+knd.draws k }) :
  wpAny (model prog w) A (call (.builtin "dict.pop") [.ref d,.ref a]) Q E s:=by
 have hT:s.TypeIs (.ref d) "dict":=by obtain⟨o,es,ep,ho,hc,_⟩:=hm; exact⟨o,ho,hc.1⟩
 refine df uZ hT PySem.F.entry_dict_pop ?_ (PySem.F.args_dict_pop_2 _ _);unfold Builtin.«dict.pop»;refine ag ?_;unfold Builtin.Dict.keyAndDefault;refine ag (zP hT ?_);show wpAny _ _ (pure (d,fe a,none)) _ _ s;refine aA ?_;have UD:=hm;obtain⟨o,es,ep,ho,hc,hd,he,his,hn⟩:=UD;have tm:es.isEmpty=false:=by
  have:xs≠[]:=by rintro rfl; cases hp
  have h2:=size_of_entries he;have h3:0 < xs.length:=List.length_pos_iff.mpr this;rw [Array.isEmpty_eq_false_iff];rintro rfl;simp at h2; lia
 simp only [keyPart,Option.isSome_none,au,if_false];refine ag (g6 ho hd (ag (aA ?_)));rw [tm,if_neg fu];refine ag (D1 hu UE hm hp hsz fun e hv h' UD Ce=>?_);simp only [Option.isNone_some,au,if_false];exact ag (xt (aA ⟨e.val,rfl,by rw [hv]; exact hQ h' UD Ce⟩))
end
end K2
end
section
namespace K2
open PySem PySem.Spec PyProof.Rows L2
def Ym(K:aj)(H:Hp)(a:Addr)(xs:List V):Prop :=
 (∃ o,H a=some (.iN o (.lst xs))) \/
  ∃ (o:Obj) (bL:Array Value) (n:Nat),K.lookup a=some o/\o.cls=.type "list"/\o.dict=none/\o.data=.seq bL n/\bL.size<=a8/\Vals xs bL.toList
def Ym.sq{K:aj}{H:Hp}{a:Addr}{xs:List V}(h:Ym K H a xs):qb K H a xs:=by
 rcases h with ⟨o,h⟩ | h
 ·exact .inl (.inr ⟨o,h⟩)
 ·exact .inr h
def eV:Key->D
 | .inl i=>.int i
 | .inr x=>.str x
def ExcAt(K:aj)(H:Hp)(a:Addr)(c:Str):Prop:=∃ (o:Obj) (C:Addr),H a=some (.iN o (.ext fun h=>h.get? a=some o))/\o.cls=.ref C/\cG K bz c=some (some (.ref C))
def M9(K:aj)(H:Hp)(a:Addr)(c:Str)(ns:List Str)(vs:List V):Prop:=∃ (o:Obj) (C dx:Addr) (od:Obj) (fs:List (Str×V)),H a=some (.iN o (.ext fun h=>h.get? a=some o))/\o.cls=.ref C/\cG K bz c=some (some (.ref C))/\o.dict=some dx/\H dx=some (.iN od (.xd fs))/\PySem.W.notCls o=true/\fs.map (·.1)=ns/\fs.map (·.2)=vs
def hsT(hs:List Int):Int:=reduceHash (eD hs)
def hP(k:PK):Int:=hsT (k.map fun r=>hsT (r.map fun t=>hsT (t.map hashInt)))
def Li(a:Addr)(xs:List (PK×Addr×Value))(h:Heap):Prop:=xs.length<=a8/\(a == dh)=false/\∃ (o:Obj) (es:Array fV) (ep:Nat),h.get? a=some o/\o.ExactDict/\o.data=.dict es ep/\es.toList=xs.map (fun x=>⟨hP x.1,.ref x.2.1,x.2.2⟩)/\(xs.map (·.1)).Nodup
def U8(kvs:List (PK×D))(ks vs:List V)(xs:List (PK×Addr×Value)):Prop:=kvs.map (fun p=>p.1)=xs.map (fun x=>x.1)/\ks=xs.map (fun x=>V.ref x.2.1)/\Vals vs (xs.map fun x=>x.2.2)
mutual
inductive bX (K:aj) (H:Hp):V->D->Prop
 | eT:bX K H .eT .eT
 | bl (b:Bool):bX K H (.bl b) (.bl b)
 | int (i:Int):bX K H (.int i) (.int i)
 | str (x:Str):bX K H (.str x) (.str x)
 | tup {a:Addr} {vs:List V} {ds:List D}:H a=some (.tup vs)->ba K H vs ds->bX K H (.ref a) (.tup ds)
 | dw {a:Addr} {vs:List V} {ds:List D}:Ym K H a vs->ba K H vs ds->bX K H (.ref a) (.dw ds)
 | oC {a:Addr} {o:Obj} {kv:List (Key×V)} {kvs:List (D×D)}:H a=some (.iN o (.dK kv))->mr K H kv kvs->bX K H (.ref a) (.kH kvs)
 | oB {a:Addr} {o:Obj} {kv:List (List Key×V)} {kvs:List (D×D)}:H a=some (.iN o (.dT kv))->mV K H kv kvs->bX K H (.ref a) (.kH kvs)
 | ref (a:Addr):bX K H (.ref a) (.ref a)
 | exc {a:Addr} {c:Str}:ExcAt K H a c->bX K H (.ref a) (.exc c)
 | Dp {a:Addr} {c:Str} {ns:List Str} {vs:List V} {ds:List D}:M9 K H a c ns vs->ba K H vs ds->bX K H (.ref a) (.Dp c ns ds)
 | pj {a:Addr} {o:Obj} {xs:List (PK×Addr×Value)} {ks vs:List V} {kvs:List (PK×D)}:H a=some (.iN o (.ext (Li a xs)))->U8 kvs ks vs xs->ba K H ks (kvs.map fun p=>rm p.1)->ba K H vs (kvs.map fun p=>p.2)->bX K H (.ref a) (.pj kvs)
inductive ba (K:aj) (H:Hp):List V->List D->Prop
 | nil:ba K H [] []
 | cons {v:V} {d:D} {vs:List V} {ds:List D}:bX K H v d->ba K H vs ds->ba K H (v :: vs) (d :: ds)
inductive mr (K:aj) (H:Hp):List (Key×V)->List (D×D)->Prop
 | nil:mr K H [] []
 | cons {k:Key} {v:V} {d:D} {r:List (Key×V)} {t:List (D×D)}:bX K H v d->mr K H r t->mr K H ((k,v) :: r) ((eV k,d) :: t)
inductive mV (K:aj) (H:Hp):List (List Key×V)->List (D×D)->Prop
 | nil:mV K H [] []
 | cons {k:List Key} {v:V} {d:D} {r:List (List Key×V)} {t:List (D×D)}:bX K H v d->mV K H r t->mV K H ((k,v) :: r) ((.tup (k.map eV),d) :: t)
end
structure Kp(H H':Hp):Prop where
 tup:∀ a xs,H a=some (.tup xs)->H' a=some (.tup xs)
 iN:∀ a o u,H a=some (.iN o u)->H' a=some (.iN o u)
def Kp.refl(H:Hp):Kp H H:=⟨fun _ _ h=>h,fun _ _ _ h=>h⟩
def Kp.trans{H H1 H2:Hp}(a:Kp H H1)(b:Kp H1 H2):Kp H H2:=⟨fun c xs h=>b.tup c xs (a.tup c xs h),fun c o u h=>b.iN c o u (a.iN c o u h)⟩
theorem Kp.sqT{K:aj}{H H':Hp}{a:Addr}{xs:List V}(k:Kp H H')(h:zL K H a xs):zL K H' a xs:=by
 rcases h with (h | ⟨o,h⟩) | h
 ·exact .inl (.inl (k.tup _ _ h))
 ·exact .inl (.inr ⟨o,k.iN _ _ _ h⟩)
 ·exact .inr h
def Kp.Wr{K:aj}{H H':Hp}{a:Addr}{xs:List V}(k:Kp H H')(h:Ym K H a xs):Ym K H' a xs:=by
 rcases h with ⟨o,h⟩ | h
 ·exact .inl ⟨o,k.iN _ _ _ h⟩
 ·exact .inr h
def ExcAt.mono{K:aj}{H H':Hp}(k:Kp H H'){a:Addr}{c:Str}(h:ExcAt K H a c):ExcAt K H' a c :=
 let ⟨o,C,h1,h2,h3⟩:=h
 ⟨o,C,k.iN _ _ _ h1,h2,h3⟩
theorem M9.mono{K:aj}{H H':Hp}(k:Kp H H'){a:Addr}{c:Str}{ns:List Str}{vs:List V}(h:M9 K H a c ns vs):M9 K H' a c ns vs :=
 let ⟨o,C,dx,od,fs,h1,h2,h3,h4,h5,h6⟩:=h
 ⟨o,C,dx,od,fs,k.iN _ _ _ h1,h2,h3,h4,k.iN _ _ _ h5,h6⟩
theorem ba.HB{K:aj}{H:Hp}{P:List V->List D->Prop}(h0:P [] [])(h1:∀ {v:V} {d:D} {vs:List V} {ds:List D},bX K H v d->ba K H vs ds->P vs ds->P (v :: vs) (d :: ds)){vs:List V}{ds:List D}(h:ba K H vs ds):P vs ds :=
 ba.rec (motive_1:=fun _ _ _=>True) (motive_2:=fun vs ds _=>P vs ds) (motive_3:=fun _ _ _=>True) (motive_4:=fun _ _ _=>True) trivial (fun _=>trivial) (fun _=>trivial) (fun _=>trivial) (fun _ _ _=>trivial) (fun _ _ _=>trivial) (fun _ _ _=>trivial) (fun _ _ _=>trivial) (fun _=>trivial) (fun _=>trivial) (fun _ _ _=>trivial) (fun _ _ _ _ _ _=>trivial) h0 (fun a b _ ih=>h1 a b ih) trivial (fun _ _ _ _=>trivial) trivial (fun _ _ _ _=>trivial) h
theorem bX.mono{K:aj}{H H':Hp}(k:Kp H H'):∀ {v:V} {d:D},bX K H v d->bX K H' v d:=fun h =>
 bX.rec (motive_1:=fun v d _=>bX K H' v d) (motive_2:=fun v d _=>ba K H' v d) (motive_3:=fun v d _=>mr K H' v d) (motive_4:=fun v d _=>mV K H' v d)
  .eT .bl .int .str (fun h _ r=>.tup (k.tup _ _ h) r) (fun h _ r=>.dw (k.Wr h) r) (fun h _ r=>.oC (k.iN _ _ _ h) r) (fun h _ r=>.oB (k.iN _ _ _ h) r) .ref (fun h=>.exc (h.mono k)) (fun h _ r=>.Dp (h.mono k) r) (fun h z _ _ r1 r2=>.pj (k.iN _ _ _ h) z r1 r2) .nil (fun _ _ a b=>.cons a b) .nil (fun _ _ a b=>.cons a b) .nil (fun _ _ a b=>.cons a b) h
def ba.mono{K:aj}{H H':Hp}(k:Kp H H'){v:List V}{d:List D}(h:ba K H v d):ba K H' v d :=
 ba.HB (P:=fun v d=>ba K H' v d) .nil (fun r _ ih=>.cons (r.mono k) ih) h
theorem mr.mono{K:aj}{H H':Hp}(k:Kp H H'){v:List (Key×V)}{d:List (D×D)}(h:mr K H v d):mr K H' v d :=
 mr.rec (motive_1:=fun v d _=>bX K H' v d) (motive_2:=fun v d _=>ba K H' v d) (motive_3:=fun v d _=>mr K H' v d) (motive_4:=fun v d _=>mV K H' v d)
  .eT .bl .int .str (fun h _ r=>.tup (k.tup _ _ h) r) (fun h _ r=>.dw (k.Wr h) r) (fun h _ r=>.oC (k.iN _ _ _ h) r) (fun h _ r=>.oB (k.iN _ _ _ h) r) .ref (fun h=>.exc (h.mono k)) (fun h _ r=>.Dp (h.mono k) r) (fun h z _ _ r1 r2=>.pj (k.iN _ _ _ h) z r1 r2) .nil (fun _ _ a b=>.cons a b) .nil (fun _ _ a b=>.cons a b) .nil (fun _ _ a b=>.cons a b) h
theorem mV.mono{K:aj}{H H':Hp}(k:Kp H H'){v:List (List Key×V)}{d:List (D×D)}(h:mV K H v d):mV K H' v d :=
 mV.rec (motive_1:=fun v d _=>bX K H' v d) (motive_2:=fun v d _=>ba K H' v d) (motive_3:=fun v d _=>mr K H' v d) (motive_4:=fun v d _=>mV K H' v d)
  .eT .bl .int .str (fun h _ r=>.tup (k.tup _ _ h) r) (fun h _ r=>.dw (k.Wr h) r) (fun h _ r=>.oC (k.iN _ _ _ h) r) (fun h _ r=>.oB (k.iN _ _ _ h) r) .ref (fun h=>.exc (h.mono k)) (fun h _ r=>.Dp (h.mono k) r) (fun h z _ _ r1 r2=>.pj (k.iN _ _ _ h) z r1 r2) .nil (fun _ _ a b=>.cons a b) .nil (fun _ _ a b=>.cons a b) .nil (fun _ _ a b=>.cons a b) h
def ba.length{K:aj}{H:Hp}:∀ {vs:List V} {ds:List D},ba K H vs ds->vs.length=ds.length:=fun h =>
 ba.HB (P:=fun vs ds=>vs.length=ds.length) rfl (fun _ _ ih=>congrArg (· + 1) ih) h
theorem ba.get{K:aj}{H:Hp}:∀ {vs:List V} {ds:List D} {i:Nat} {d:D},ba K H vs ds->ds[i]?=some d->∃ v,vs[i]?=some v/\bX K H v d:=by
 intro vs ds i d h;refine ba.HB (P:=fun vs ds=>∀ (i:Nat) (d:D),ds[i]?=some d->∃ v,vs[i]?=some v/\bX K H v d) (fun i d e=>by cases e) (fun r _ ih i d e=>?_) h i d;cases i with
 | zero=>cases e; exact⟨_,rfl,r⟩
 | succ i=>exact ih i d e
theorem ba.append{K:aj}{H:Hp}:∀ {vs ws:List V} {ds es:List D},ba K H vs ds->ba K H ws es->ba K H (vs++ws) (ds++es):=fun {_ ws _ es} h s =>
 ba.HB (P:=fun vs ds=>ba K H (vs++ws) (ds++es)) s (fun r _ ih=>.cons r ih) h
theorem ba.take{K:aj}{H:Hp}:∀ {vs:List V} {ds:List D} (n:Nat),ba K H vs ds->ba K H (vs.take n) (ds.take n):=fun {_ _} n h =>
 ba.HB (P:=fun vs ds=>∀ n,ba K H (vs.take n) (ds.take n)) (fun n=>by rw [BW,BW]; exact .nil) (fun r _ ih n=>by
  cases n with
  | zero=>exact .nil
  | succ n=>exact .cons r (ih n)) h n
theorem ba.drop{K:aj}{H:Hp}:∀ {vs:List V} {ds:List D} (n:Nat),ba K H vs ds->ba K H (vs.drop n) (ds.drop n):=fun {_ _} n h =>
 ba.HB (P:=fun vs ds=>∀ n,ba K H (vs.drop n) (ds.drop n)) (fun n=>by rw [BY,BY]; exact .nil) (fun r t ih n=>by
  cases n with
  | zero=>exact .cons r t
  | succ n=>exact ih n) h n
theorem ba.set{K:aj}{H:Hp}{v:V}{d:D}(r:bX K H v d):∀ {vs:List V} {ds:List D} (i:Nat),ba K H vs ds->ba K H (vs.set i v) (ds.set i d):=fun {_ _} i h =>
 ba.HB (P:=fun vs ds=>∀ i,ba K H (vs.set i v) (ds.set i d)) (fun i=>by rw [DU,DU]; exact .nil) (fun q t ih i=>by
  cases i with
  | zero=>exact .cons r t
  | succ i=>exact .cons q (ih i)) h i
def ba.one{K:aj}{H:Hp}:∀ {vs:List V} {d:D},ba K H vs [d]->∃ v,vs=[v]/\bX K H v d:=by
 intro vs d h;cases h with
 | cons r t=>cases t; exact⟨_,rfl,r⟩
theorem ba.two{K:aj}{H:Hp}:∀ {vs:List V} {d e:D},ba K H vs [d,e]->∃ v u,vs=[v,u]/\bX K H v d/\bX K H u e:=by
 intro vs d e h;cases h with
 | cons r t =>
  obtain⟨u,rfl,q⟩:=ba.one t;exact⟨_,_,rfl,r,q⟩
def ba.zero{K:aj}{H:Hp}:∀ {vs:List V},ba K H vs []->vs=[]
 | _,.nil=>rfl
theorem ba.ints{K:aj}{H:Hp}:∀ {vs:List V} {ns:List Int},ba K H vs (ns.map D.int)->vs=ns.map V.int:=by
 intro vs ns;induction ns generalizing vs with
 | nil=>intro h; exact h.zero
 | cons n ns ih =>
  intro h;cases h with
  | cons r t =>
   cases r;rw [ih t]; rfl
def ba.Ml{K:aj}{H:Hp}:∀ (ns:List Int),ba K H (ns.map V.int) (ns.map D.int)
 | []=>.nil
 | n :: ns=>.cons (.int n) (ba.Ml ns)
theorem mr.ind{K:aj}{H:Hp}{motive:∀ (kv:List (Key×V)) (kvs:List (D×D)),mr K H kv kvs->Prop}(nil:motive [] [] .nil)
  (cons:∀ {k:Key} {v:V} {d:D} {r:List (Key×V)} {t:List (D×D)} (re:bX K H v d) (rs:mr K H r t),motive r t rs->motive ((k,v) :: r) ((eV k,d) :: t) (.cons re rs)):∀ {kv:List (Key×V)} {kvs:List (D×D)} (h:mr K H kv kvs),motive kv kvs h:=fun h =>
 mr.rec (motive_1:=fun _ _ _=>True) (motive_2:=fun _ _ _=>True) (motive_3:=motive) (motive_4:=fun _ _ _=>True) trivial (fun _=>trivial) (fun _=>trivial) (fun _=>trivial) (fun _ _ _=>trivial) (fun _ _ _=>trivial) (fun _ _ _=>trivial) (fun _ _ _=>trivial) (fun _=>trivial) (fun _=>trivial) (fun _ _ _=>trivial) (fun _ _ _ _ _ _=>trivial) trivial (fun _ _ _ _=>trivial) nil (fun a b _ ih=>cons a b ih) trivial (fun _ _ _ _=>trivial) h
theorem mV.ind{K:aj}{H:Hp}{motive:∀ (kv:List (List Key×V)) (kvs:List (D×D)),mV K H kv kvs->Prop}(nil:motive [] [] .nil)
  (cons:∀ {k:List Key} {v:V} {d:D} {r:List (List Key×V)} {t:List (D×D)} (re:bX K H v d) (rs:mV K H r t),motive r t rs->motive ((k,v) :: r) ((.tup (k.map eV),d) :: t) (.cons re rs)):∀ {kv:List (List Key×V)} {kvs:List (D×D)} (h:mV K H kv kvs),motive kv kvs h:=fun h =>
 mV.rec (motive_1:=fun _ _ _=>True) (motive_2:=fun _ _ _=>True) (motive_3:=fun _ _ _=>True) (motive_4:=motive) trivial (fun _=>trivial) (fun _=>trivial) (fun _=>trivial) (fun _ _ _=>trivial) (fun _ _ _=>trivial) (fun _ _ _=>trivial) (fun _ _ _=>trivial) (fun _=>trivial) (fun _=>trivial) (fun _ _ _=>trivial) (fun _ _ _ _ _ _=>trivial) trivial (fun _ _ _ _=>trivial) trivial (fun _ _ _ _=>trivial) nil (fun a b _ ih=>cons a b ih) h
theorem mr.length{K:aj}{H:Hp}:∀ {v:List (Key×V)} {d:List (D×D)},mr K H v d->v.length=d.length:=fun h =>
 mr.ind (motive:=fun v d _=>v.length=d.length) rfl (fun _ _ ih=>congrArg (· + 1) ih) h
theorem mV.length{K:aj}{H:Hp}:∀ {v:List (List Key×V)} {d:List (D×D)},mV K H v d->v.length=d.length:=fun h =>
 mV.ind (motive:=fun v d _=>v.length=d.length) rfl (fun _ _ ih=>congrArg (· + 1) ih) h
def Jb(K:aj)(H:Hp)(a:Addr):GO->Prop
 | .lst ds=>∃ vs,H a=some (.lst vs)/\ba K H vs ds
 | .fU kvs=>(∃ kv,H a=some (.dK kv)/\mr K H kv kvs)\/∃ kv,H a=some (.dT kv)/\mV K H kv kvs
 | .ins c fs=>∃ C dx fv,H a=some (.ins C dx fv)/\cG K bz c=some (some (.ref C))/\fv.map (·.1)=fs.map (·.1)/\ba K H (fv.map (·.2)) (fs.map (·.2))
 | .rV kvs=>∃ xs ks vs,H a=some (.ext (Li a xs))/\U8 kvs ks vs xs/\ba K H ks (kvs.map fun p=>rm p.1)/\ba K H vs (kvs.map fun p=>p.2)
def kK(K:aj)(H:Hp)(G:Gp):Prop:=∀ a g,G a=some g->Jb K H a g
def Jb.dk{K:aj}{H:Hp}{a:Addr}{kv:List (Key×V)}{kvs:List (D×D)}(h:H a=some (.dK kv))(r:mr K H kv kvs):Jb K H a (.fU kvs):=.inl ⟨kv,h,r⟩
def Jb.dt{K:aj}{H:Hp}{a:Addr}{kv:List (List Key×V)}{kvs:List (D×D)}(h:H a=some (.dT kv))(r:mV K H kv kvs):Jb K H a (.fU kvs):=.inr ⟨kv,h,r⟩
theorem Jb.mono{K:aj}{H H':Hp}{a:Addr}{g:GO}(k:Kp H H')(e:H' a=H a)(h:Jb K H a g):Jb K H' a g:=by
 cases g with
 | lst ds=>obtain⟨vs,q,r⟩:=h; exact⟨vs,e.trans q,r.mono k⟩
 | ins c fs=>obtain⟨C,dx,fv,q,h1,h2,r⟩:=h; exact⟨C,dx,fv,e.trans q,h1,h2,r.mono k⟩
 | rV kvs=>obtain⟨xs,ks,vs,q,h1,r1,r2⟩:=h; exact⟨xs,ks,vs,e.trans q,h1,r1.mono k,r2.mono k⟩
 | fU kvs =>
  rcases h with ⟨kv,q,r⟩ | ⟨kv,q,r⟩
  ·exact .inl ⟨kv,e.trans q,r.mono k⟩
  ·exact .inr ⟨kv,e.trans q,r.mono k⟩
theorem Jb.tracked{K:aj}{H:Hp}{a:Addr}{g:GO}(h:Jb K H a g):H a≠none:=by
 cases g with
 | lst ds=>obtain⟨vs,q,r⟩:=h; rw [q]; simp
 | ins c fs=>obtain⟨C,dx,fv,q,_⟩:=h; rw [q]; simp
 | rV kvs=>obtain⟨xs,ks,vs,q,_⟩:=h; rw [q]; simp
 | fU kvs =>
  rcases h with ⟨kv,q,r⟩ | ⟨kv,q,r⟩
  ·rw [q]; simp
  ·rw [q]; simp
def kK.free{K:aj}{H:Hp}{G:Gp}{a:Addr}(h:kK K H G)(e:H a=none):G a=none:=by
 cases q:G a with
 | none=>rfl
 | some g=>exact absurd e (h a g q).tracked
theorem kK.YY{K:aj}{H:Hp}{G:Gp}{a:Addr}{xs:List V}(h:kK K H G)(e:H a=some (.tup xs)):G a=none:=by
 cases q:G a with
 | none=>rfl
 | some g =>
  have z:=h a g q;cases g with
  | lst ds=>obtain⟨vs,q,r⟩:=z; rw [e] at q; cases q
  | ins c fs=>obtain⟨C,dx,fv,q,_⟩:=z; rw [e] at q; cases q
  | rV kvs=>obtain⟨xs,ks,vs,q,_⟩:=z; rw [e] at q; cases q
  | fU kvs =>
   rcases z with ⟨kv,q,r⟩ | ⟨kv,q,r⟩
   ·rw [e] at q; cases q
   ·rw [e] at q; cases q
theorem kK.Y0{K:aj}{H:Hp}{G:Gp}{a:Addr}{o:Obj}{u:HO}(h:kK K H G)(e:H a=some (.iN o u)):G a=none:=by
 cases q:G a with
 | none=>rfl
 | some g =>
  have z:=h a g q;cases g with
  | lst ds=>obtain⟨vs,q,r⟩:=z; rw [e] at q; cases q
  | ins c fs=>obtain⟨C,dx,fv,q,_⟩:=z; rw [e] at q; cases q
  | rV kvs=>obtain⟨xs,ks,vs,q,_⟩:=z; rw [e] at q; cases q
  | fU kvs =>
   rcases z with ⟨kv,q,r⟩ | ⟨kv,q,r⟩
   ·rw [e] at q; cases q
   ·rw [e] at q; cases q
structure Mv(K:aj)(H:Hp)(G:Gp)(H':Hp)(G':Gp):Prop where
 keep:∀ a o,H a=some o->G a=none->H' a=some o/\G' a=none
 jF:∀ a,G a≠none->H' a≠none
 ab:kK K H' G'
def Mv.refl{K:aj}{H:Hp}{G:Gp}(h:kK K H G):Mv K H G H G:=⟨fun _ _ e n=>⟨e,n⟩,fun a n=>by
 cases q:G a with
 | none=>exact absurd q n
 | some g=>exact(h a g q).tracked,h⟩
theorem Mv.trans{K:aj}{H H1 H2:Hp}{G G1 G2:Gp}(a:Mv K H G H1 G1)(b:Mv K H1 G1 H2 G2):Mv K H G H2 G2 :=
 ⟨fun c o e n=>let ⟨e1,n1⟩:=a.keep c o e n; b.keep c o e1 n1,fun c n=>by
  have h1:=a.jF c n;cases q:G1 c with
  | some g=>exact b.jF c (by rw [q]; simp)
  | none =>
   cases q1:H1 c with
   | none=>exact absurd q1 h1
   | some o=>rw [(b.keep c o q1 q).1]; simp,b.ab⟩
def Mv.kp{K:aj}{H H':Hp}{G G':Gp}(m:Mv K H G H' G')(h:kK K H G):Kp H H' :=
 ⟨fun a xs e=>(m.keep a _ e (h.YY e)).1,fun a o u e=>(m.keep a _ e (h.Y0 e)).1⟩
def Kp.new{H:Hp}{p:Addr}{o:HO}(hp:H p=none):Kp H (upd H p o):=⟨fun a xs e=>by rw [bG (ez e hp)]; exact e,fun a ob u e=>by rw [bG (ez e hp)]; exact e⟩
theorem Kp.putL{H:Hp}{p:Addr}{xs:List V}{o:HO}(hp:H p=some (.lst xs)):Kp H (upd H p o) :=
 ⟨fun a ys e=>by rw [bG (by rintro rfl; rw [hp] at e; cases e)]; exact e,fun a ob u e=>by rw [bG (by rintro rfl; rw [hp] at e; cases e)]; exact e⟩
theorem Mv.new{K:aj}{H:Hp}{G:Gp}{p:Addr}{o:HO}{g:GO}(h:kK K H G)(hp:H p=none)(ho:Jb K (upd H p o) p g):Mv K H G (upd H p o) (eL G p g) where
 keep:=fun a ob e n=>by
  have ne:=ez e hp;exact⟨by rw [bG ne]; exact e,by rw [cE ne]; exact n⟩
 jF:=fun a n=>by
  have ne:a≠p:=by rintro rfl; exact n (h.free hp)
  rw [bG ne];exact(Mv.refl h).jF a n
 ab:=fun a g' e=>by
  by_cases ha:a=p
  ·subst ha; rw [az] at e; cases e; exact ho
  ·rw [cE ha] at e;exact(h a g' e).mono (.new hp) (bG ha)
theorem Mv.MG{K:aj}{H:Hp}{G:Gp}{p:Addr}{o:HO}(h:kK K H G)(hp:H p=none):Mv K H G (upd H p o) G where
 keep:=fun a ob e n=>⟨by rw [bG (ez e hp)]; exact e,n⟩
 jF:=fun a n=>by
  have ne:a≠p:=by rintro rfl; exact n (h.free hp)
  rw [bG ne];exact(Mv.refl h).jF a n
 ab:=fun a g' e=>by
  have ne:a≠p:=by rintro rfl; rw [h.free hp] at e; cases e
  exact(h a g' e).mono (.new hp) (bG ne)
theorem Mv.put{K:aj}{H:Hp}{G:Gp}{p:Addr}{o:HO}{g g0:GO}(h:kK K H G)(hg:G p=some g0)(k:Kp H (upd H p o))(ho:Jb K (upd H p o) p g):Mv K H G (upd H p o) (eL G p g) where
 keep:=fun a ob e n=>by
  have ne:a≠p:=by rintro rfl; rw [hg] at n; cases n
  exact⟨by rw [bG ne]; exact e,by rw [cE ne]; exact n⟩
 jF:=fun a n=>by
  by_cases ha:a=p
  ·subst ha; rw [bU]; simp
  ·rw [bG ha]; exact(Mv.refl h).jF a n
 ab:=fun a g' e=>by
  by_cases ha:a=p
  ·subst ha; rw [az] at e; cases e; exact ho
  ·rw [cE ha] at e;exact(h a g' e).mono k (bG ha)
def kK.lst{K:aj}{H:Hp}{G:Gp}{a:Addr}{ds:List D}(h:kK K H G)(e:G a=some (.lst ds)):∃ vs,H a=some (.lst vs)/\ba K H vs ds:=h a _ e
theorem Mv.Kd{K:aj}{H:Hp}{G:Gp}{p:Addr}{vs:List V}{ds:List D}(h:kK K H G)(hp:H p=none)(r:ba K H vs ds):Mv K H G (upd H p (.lst vs)) (eL G p (.lst ds)) :=
 .new h hp ⟨vs,bU,r.mono (.new hp)⟩
theorem Mv.putL{K:aj}{H:Hp}{G:Gp}{p:Addr}{vs0 vs:List V}{ds0 ds:List D}(h:kK K H G)(hg:G p=some (.lst ds0))(hp:H p=some (.lst vs0))(r:ba K H vs ds):Mv K H G (upd H p (.lst vs)) (eL G p (.lst ds)) :=
 .put h hg (.putL hp) ⟨vs,bU,r.mono (.putL hp)⟩
structure OZ(K:aj)(H:Hp)(σ:L2.St)(τ:iO):Prop where
 len:σ.length=τ.length
 at':∀ (i:Nat) (d:D),τ[i]?=some (some d)->∃ v,σ[i]?=some (some v)/\bX K H v d
def OZ.mono{K:aj}{H H':Hp}{σ:L2.St}{τ:iO}(k:Kp H H')(a:OZ K H σ τ):OZ K H' σ τ :=
 ⟨a.len,fun i d e=>let ⟨v,h1,h2⟩:=a.at' i d e; ⟨v,h1,h2.mono k⟩⟩
theorem OZ.set{K:aj}{H:Hp}{σ:L2.St}{τ:iO}{v:V}{d:D}(a:OZ K H σ τ)(i:Nat)(r:bX K H v d):OZ K H (σ.set i (some v)) (τ.set i (some d)):=by
 refine⟨by rw [cL,cL]; exact a.len,fun j e h=>?_⟩;by_cases hj:i=j
 ·subst hj;by_cases hi:i < τ.length
  ·rw [cU hi] at h;cases h;exact⟨v,by rw [cU (by rw [a.len]; exact hi)],r⟩
  ·rw [List.set_eq_of_length_le (by lia)] at h;rw [kl (by lia)] at h;cases h
 ·rw [cW hj] at h;obtain⟨w,h1,h2⟩:=a.at' j e h;exact⟨w,by rw [cW hj]; exact h1,h2⟩
structure I2(X:Cx)(pins:List (Addr×Obj))(σ:L2.St)(H:Hp)(τ:iO)(G:Gp)(s:ay):Prop where
 inv:Inv X pins σ H s
 st:OZ X.K H σ τ
 ab:kK X.K H G
theorem I2.mv{X:Cx}{pins:List (Addr×Obj)}{σ:L2.St}{H H':Hp}{τ:iO}{G G':Gp}{s s':ay}(I:I2 X pins σ H τ G s)(I':Inv X pins σ H' s')(m:Mv X.K H G H' G'):I2 X pins σ H' τ G' s' :=
 ⟨I',I.st.mono (m.kp I.ab),m.ab⟩
def SO(P:bE)(w:World):Na:=fun outer H s E e s'=>∃ (a C t:Addr) (B:Heap) (H':Hp),e=.ref a/\s'.os=s.os/\z8 s'.gens/\Un (uL outer) [] H H' s.heap s'.heap/\oE P w H' s'.heap /\
 (∀ b o,s'.heap.get? b=some o->b∉uL outer->(s.heap.get? b≠none\/H' b≠none)->B.get? b=some o)/\xj B outer a (.ref C) (.ref t) s'.heap/\H' a=none/\s.heap.get? a=none/\E (.ref C) none H'
def exK(K:aj)(mg:Str->Option Value)(E:lM):XK:=fun cls _ H=>∃ (ex:Ex) (C:Addr) (G:Gp),cls=.ref C/\mg ex.cls=some (.ref C)/\kK K H G/\E ex G
structure Lk(X:Cx)(E:lM):Prop where
 made:∀ (pins:List (Addr×Obj)) (σ:L2.St) (H:Hp) (s:ay) (h1:Heap) (a C:Addr) (args:List Value) (ex:Ex) (G:Gp),Inv X pins σ H s->kK X.K H G->PySem.Heap.MadeExcOf s.heap h1 a (.ref C) args->X.mg ex.cls=some (.ref C)->E ex G->X.xe (.ref a) { s with heap:=h1 }
 pass:∀ (pins:List (Addr×Obj)) (σ:L2.St) (H:Hp) (s s':ay) (e:Value),Inv X pins σ H s->SO X.prog X.w X.stack H s (exK X.K X.mg E) e s'->X.xe e s'
theorem Lk.none{X:Cx}{E:lM}(h:∀ ex G,¬ E ex G):Lk X E where
 made:=fun _ _ _ _ _ _ _ _ ex _ _ _ _ _ z=>absurd z (h ex _)
 pass:=fun _ _ _ _ _ _ _ hc=>by
  obtain⟨_,_,_,_,_,_,_,_,_,_,_,_,_,_,hz⟩:=hc;obtain⟨ex,_,_,_,_,_,z⟩:=hz;exact absurd z (h ex _)
inductive r8 (X:Cx) (pins:List (Addr×Obj)) (σ:L2.St) (H:Hp) (G:Gp) (Q:DK) (u:Value) (s':ay):Prop
 | mk (v:V) (H':Hp) (d:D) (G':Gp) (i:Inv X pins σ H' s') (m:Mv X.K H G H' G') (r:RelV v u) (rd:bX X.K H' v d) (q:Q d G'):r8 X pins σ H G Q u s'
inductive Yl (X:Cx) (pins:List (Addr×Obj)) (σ:L2.St) (H:Hp) (G:Gp) (Q:Bool->Gp->Prop) (b:Bool) (s':ay):Prop
 | mk (H':Hp) (G':Gp) (i:Inv X pins σ H' s') (m:Mv X.K H G H' G') (q:Q b G'):Yl X pins σ H G Q b s'
inductive AP2 (X:Cx) (pins:List (Addr×Obj)) (σ:L2.St) (H:Hp) (G:Gp) (Q:List D->Gp->Prop) (us:List Value) (s':ay):Prop
 | mk (vs:List V) (H':Hp) (ds:List D) (G':Gp) (i:Inv X pins σ H' s') (m:Mv X.K H G H' G') (r:Vals vs us) (rd:ba X.K H' vs ds) (q:Q ds G'):AP2 X pins σ H G Q us s'
inductive SPn (X:Cx) (pins:List (Addr×Obj)) (H:Hp) (G:Gp) (P:iO->Gp->Prop) (s':ay):Prop
 | mk (kz:L2.St) (H':Hp) (ph:iO) (G':Gp) (i:I2 X pins kz H' ph G' s') (m:Mv X.K H G H' G') (q:P ph G'):SPn X pins H G P s'
inductive SPr (X:Cx) (pins:List (Addr×Obj)) (H:Hp) (G:Gp) (P:D->Gp->Prop) (u:Value) (s':ay):Prop
 | mk (v:V) (kz:L2.St) (H':Hp) (d:D) (G':Gp) (i:Inv X pins kz H' s') (m:Mv X.K H G H' G') (r:RelV v u) (rd:bX X.K H' v d) (q:P d G'):SPr X pins H G P u s'
def U5(X:Cx)(pins:List (Addr×Obj))(H:Hp)(G:Gp)(D:lF)(f:Flow)(s':ay):Prop :=
 match f with
 | .next=>SPn X pins H G D.nx s'
 | .brk=>SPn X pins H G D.bk s'
 | .cont=>SPn X pins H G D.ct s'
 | .ret u=>SPr X pins H G D.rt u s'
def gG(X:Cx)(e:Expr)(t:gq):Prop :=
 ∀ (E:lM) (pins:List (Addr×Obj)) (s:ay) (σ:L2.St) (H:Hp) (τ:iO) (G:Gp) (Q:DK),Lk X E->I2 X pins σ H τ G s->t E τ G Q->wpAny (model X.prog X.w) X.A (eval e X.env) (r8 X pins σ H G Q) X.xe s
def Pg(X:Cx)(e:Expr)(t:yp):Prop :=
 ∀ (E:lM) (pins:List (Addr×Obj)) (s:ay) (σ:L2.St) (H:Hp) (τ:iO) (G:Gp) (Q:Bool->Gp->Prop),Lk X E->I2 X pins σ H τ G s->t E τ G Q->wpAny (model X.prog X.w) X.A (isTrue e X.env (eval e X.env)) (Yl X pins σ H G Q) X.xe s
def Pe(X:Cx)(e:Expr)(t:yp):Prop :=
 ∀ (wh:Sem Value) (E:lM) (pins:List (Addr×Obj)) (s:ay) (σ:L2.St) (H:Hp) (τ:iO) (G:Gp) (Q:Bool->Gp->Prop),Lk X E->I2 X pins σ H τ G s->t E τ G Q->wpAny (model X.prog X.w) X.A (isTrue e X.env wh) (Yl X pins σ H G Q) X.xe s
def B3(X:Cx)(es:List Expr)(t:BF):Prop :=
 ∀ (pos:Pos) (E:lM) (pins:List (Addr×Obj)) (s:ay) (σ:L2.St) (H:Hp) (τ:iO) (G:Gp) (Q:List D->Gp->Prop),Lk X E->I2 X pins σ H τ G s->t E τ G Q->wpAny (model X.prog X.w) X.A (Jf (lX pos (bw es X.env))) (AP2 X pins σ H G Q) X.xe s
def FN(X:Cx)(st:Stmt)(t:gN):Prop :=
 ∀ (E:lM) (pins:List (Addr×Obj)) (s:ay) (σ:L2.St) (H:Hp) (τ:iO) (G:Gp) (D:lF),Lk X E->I2 X pins σ H τ G s->t E D τ G->wpAny (model X.prog X.w) X.A (exec st X.env) (U5 X pins H G D) X.xe s
def uM(X:Cx)(st:List Stmt)(t:gN):Prop :=
 ∀ (E:lM) (pins:List (Addr×Obj)) (s:ay) (σ:L2.St) (H:Hp) (τ:iO) (G:Gp) (D:lF),Lk X E->I2 X pins σ H τ G s->t E D τ G->wpAny (model X.prog X.w) X.A (execs st X.env) (U5 X pins H G D) X.xe s
theorem U5.trans{X:Cx}{pins:List (Addr×Obj)}{H H1:Hp}{G G1:Gp}{D:lF}{f:Flow}{s':ay}(m:Mv X.K H G H1 G1)(h:U5 X pins H1 G1 D f s'):U5 X pins H G D f s':=by
 cases f with
 | next=>obtain⟨kz,H',ph,G',I,m',q⟩:=h; exact⟨kz,H',ph,G',I,m.trans m',q⟩
 | brk=>obtain⟨kz,H',ph,G',I,m',q⟩:=h; exact⟨kz,H',ph,G',I,m.trans m',q⟩
 | cont=>obtain⟨kz,H',ph,G',I,m',q⟩:=h; exact⟨kz,H',ph,G',I,m.trans m',q⟩
 | ret u=>obtain⟨v,kz,H',d,G',I,m',r,rd,q⟩:=h; exact⟨v,kz,H',d,G',I,m.trans m',r,rd,q⟩
section
variable {X:Cx} {a b c:Expr} {ta tb tc:gq} {pos:Pos}
theorem j8{pins:List (Addr×Obj)}{σ:L2.St}{H:Hp}{τ:iO}{G:Gp}{s:ay}{E:lM}{R:DK}{Q:Value->ay->Prop}(ha:gG X a ta)(hE:Lk X E)(I:I2 X pins σ H τ G s)(h:ta E τ G R)
  (k:∀ v H1 d G1 u s1,I2 X pins σ H1 τ G1 s1->Mv X.K H G H1 G1->RelV v u->bX X.K H1 v d->R d G1->Q u s1):wpAny (model X.prog X.w) X.A (eval a X.env) Q X.xe s :=
 hU (ha E pins s σ H τ G R hE I h) (by rintro u s1 ⟨v,H1,d,G1,I1,m,r,rd,q⟩; exact k v H1 d G1 u s1 (I.mv I1 m) m r rd q)
theorem r8.trans{pins:List (Addr×Obj)}{σ:L2.St}{H H1:Hp}{G G1:Gp}{Q:DK}{u:Value}{s':ay}(m:Mv X.K H G H1 G1)(h:r8 X pins σ H1 G1 Q u s'):r8 X pins σ H G Q u s':=by
 obtain⟨v,H',d,G',I,m',r,rd,q⟩:=h;exact⟨v,H',d,G',I,m.trans m',r,rd,q⟩
theorem Yl.trans{pins:List (Addr×Obj)}{σ:L2.St}{H H1:Hp}{G G1:Gp}{Q:Bool->Gp->Prop}{u:Bool}{s':ay}(m:Mv X.K H G H1 G1)(h:Yl X pins σ H1 G1 Q u s'):Yl X pins σ H G Q u s':=by
 obtain⟨H',G',I,m',r⟩:=h;exact⟨H',G',I,m.trans m',r⟩
theorem Ua {i:Nat} {x:Str} (hN:X.N[i]?=some x) (hv:Vis X.env.scope x) (hd:autoParam ((x == ("__debug__" : Str))=false) Ad._auto_1) (Ja:autoParam ((x == ("__classdict__" : Str))=false) Ad._auto_1):gG X (.Name x pos) (ar i):=by
 intro E pins s σ H τ G Q hE I h;unfold ar at h;split at h
 ·rename_i d e;obtain⟨v,h1,h2⟩:=I.st.at' i d e;exact hU (WM hN hv hd Ja pins s σ H (fun v' H'=>v'=v/\H'=H) I.inv ⟨v,h1,rfl,rfl⟩) fun u s1 Pc=>by
   obtain⟨v',H',I1,r,e1,e2⟩:=Pc;subst e1; subst e2;exact⟨_,_,d,G,I1,.refl I.ab,r,h2,h⟩
 ·exact h.elim
theorem ub{e:Expr}{v:V}{d:D}(h:PE X e (tC v))(r:∀ K H,bX K H v d):gG X e (dC d):=by
 intro E pins s σ H τ G Q hE I hq;exact hU (h pins s σ H (fun v' H'=>v'=v/\H'=H) I.inv ⟨rfl,rfl⟩) fun u s1 Zr=>by
  obtain⟨v',H',I1,rr,e1,e2⟩:=Zr;subst e1; subst e2;exact⟨_,_,d,G,I1,.refl I.ab,rr,r _ _,hq⟩
def aL{i j}:gG X (.Constant (.int i) j pos) (dC (.int i)):=ub WO fun _ _=>.int i
def pW(X:Cx)(f:Value->Value->Sem Value)(r:B2):Prop :=
 ∀ (pins:List (Addr×Obj)) (s:ay) (σ:L2.St) (H:Hp) (G:Gp) (x y:V) (dx dy:D) (v u:Value) (Q:DK),Inv X pins σ H s->kK X.K H G->RelV x v->RelV y u->bX X.K H x dx->bX X.K H y dy->r dx dy G Q ->
  wpAny (model X.prog X.w) X.A (f v u) (r8 X pins σ H G Q) X.xe s
def Z2(X:Cx)(f:Value->Sem Value)(r:D->Gp->DK->Prop):Prop :=
 ∀ (pins:List (Addr×Obj)) (s:ay) (σ:L2.St) (H:Hp) (G:Gp) (x:V) (dx:D) (v:Value) (Q:DK),Inv X pins σ H s->kK X.K H G->RelV x v->bX X.K H x dx->r dx G Q ->
  wpAny (model X.prog X.w) X.A (f v) (r8 X pins σ H G Q) X.xe s
def tV(X:Cx)(f:Value)(r:List D->Gp->DK->Prop):Prop :=
 ∀ (pins:List (Addr×Obj)) (s:ay) (σ:L2.St) (H:Hp) (G:Gp) (xs:List V) (ds:List D) (us:List Value) (Q:DK),Inv X pins σ H s->kK X.K H G->Vals xs us->ba X.K H xs ds->r ds G Q ->
  wpAny (model X.prog X.w) X.A (call f us) (r8 X pins σ H G Q) X.xe s
abbrev B1(K:aj)(H:Hp)(G:Gp)(Q:DK):VK:=fun v H'=>∃ d G',Mv K H G H' G'/\bX K H' v d/\Q d G'
theorem r8.of{pins:List (Addr×Obj)}{σ:L2.St}{H:Hp}{G:Gp}{Q:DK}{u:Value}{s':ay}(h:EP X pins σ (B1 X.K H G Q) u s'):r8 X pins σ H G Q u s':=by
 obtain⟨v,H',I,r,d,G',m,rd,q⟩:=h;exact⟨v,H',d,G',I,m,r,rd,q⟩
theorem Sq(ha:gG X a ta)(hb:gG X b tb){E:lM}{pins:List (Addr×Obj)}{s:ay}{σ:L2.St}{H:Hp}{τ:iO}{G:Gp}{R:D->D->Gp->Prop}(hE:Lk X E)(I:I2 X pins σ H τ G s)
  (h:ta E τ G fun x G1=>tb E τ G1 fun y G2=>R x y G2) {Q:Value->ay->Prop} {f:Value->Value->Sem Value}
  (hf:∀ v u s2 x y dx dy H2 G2,I2 X pins σ H2 τ G2 s2->Mv X.K H G H2 G2->RelV x v->RelV y u->bX X.K H2 x dx->bX X.K H2 y dy->R dx dy G2->wpAny (model X.prog X.w) X.A (f v u) Q X.xe s2) :
  wpAny (model X.prog X.w) X.A (eval a X.env) (fun v fk=>wpAny (model X.prog X.w) X.A (eval b X.env) (fun u j0=>wpAny (model X.prog X.w) X.A (f v u) Q X.xe j0) X.xe fk) X.xe s:=by
 refine j8 ha hE I h fun x H1 dx G1 v s1 I1 m1 r1 j5 q1=>?_;refine j8 hb hE I1 q1 fun y H2 dy G2 u s2 nv m2 r2 y8 q2=>?_;exact hf v u s2 x y dx dy H2 G2 nv (m1.trans m2) r1 r2 (j5.mono (m2.kp I1.ab)) y8 q2
theorem bP{op:Operator}{r:B2}(ho:pW X (jU op) r)(ha:gG X a ta)(hb:gG X b tb):gG X (.BinOp a op b pos) (aX r ta tb):=by
 intro E pins s σ H τ G Q hE I h;exact wpAny_BinOp (Sq ha hb hE I h fun v u s2 x y dx dy H2 G2 nv m rx ry dX dY q=>hU (ho pins s2 σ H2 G2 x y dx dy v u Q nv.inv nv.ab rx ry dX dY q) fun _ _ z=>z.trans m)
theorem WQ{op:UnaryOp}{r:D->Gp->DK->Prop}(ho:Z2 X (unaryOp op) r)(ha:gG X a ta):gG X (.UnaryOp op a pos) (ZS r ta):=by
 intro E pins s σ H τ G Q hE I h;exact UnaryOp_ (j8 ha hE I h fun x H1 dx G1 v s1 I1 m1 r1 j5 q1=>hU (ho pins s1 σ H1 G1 x dx v Q I1.inv I1.ab r1 j5 q1) fun _ _ z=>z.trans m1)
theorem Eh{op:CmpOp}{r:B2}(ho:pW X (eU op) r)(ha:gG X a ta)(hb:gG X b tb)(hm:behindInMarks op b=false):gG X (.Compare a [op] [b] pos) (aX r ta tb):=by
 intro E pins s σ H τ G Q hE I h;exact wpAny_Compare1 (Sq ha hb hE I h fun v u s2 x y dx dy H2 G2 nv m rx ry dX dY q=>hU (ho pins s2 σ H2 G2 x y dx dy v u Q nv.inv nv.ab rx ry dX dY q) fun _ _ z=>z.trans m) hm
end
theorem Yu{K:aj}{H:Hp}{G:Gp}{x:V}{d:D}{k:Bool}(ab:kK K H G)(r:bX K H x d)(e:IU d G=some k):(∃ p,x=.ref p/\Rd H p (.dT [])/\k=false)\/(∃ p kv,x=.ref p/\Rd H p (.dK kv)/\k=!kv.isEmpty)\/XZ K x H k:=by
 have RZ:∀ kvs:List (D×D),(if (kvs.all fun p=>di p.1)=true then some (!kvs.isEmpty) else none)=some k->∀ p,((∃ kv,Rd H p (.dK kv)/\mr K H kv kvs)\/∃ kv,Rd H p (.dT kv)/\mV K H kv kvs) ->
   (∃ p',V.ref p=.ref p'/\Rd H p' (.dT [])/\k=false)\/(∃ p' kv,V.ref p=.ref p'/\Rd H p' (.dK kv)/\k=!kv.isEmpty)\/XZ K (.ref p) H k:=by
  intro kvs e p z;by_cases ha:(kvs.all fun p=>di p.1)=true
  ·rw [if_pos ha] at e;cases e;rcases z with ⟨kv,hv,rs⟩ | ⟨kv,hv,rs⟩
   ·right; left;refine⟨p,kv,rfl,hv,?_⟩;cases rs <;> rfl
   ·left;cases rs with
    | nil=>exact⟨p,rfl,hv,rfl⟩
    | cons _ _=>simp [di] at ha
  ·rw [if_neg ha] at e; cases e
 cases r with
 | eT=>right; right; cases e; rfl
 | bl b=>right; right; cases e; rfl
 | int i=>right; right; cases e; rfl
 | str y =>
  right; right;unfold IU at e;dsimp only at e;by_cases h:y.length<=SZ
  ·rw [if_pos h] at e; cases e; exact⟨by rw [cD]; exact h,rfl⟩
  ·rw [if_neg h] at e; cases e
 | tup h rs =>
  right; right;cases e;refine .inr (.inl ⟨_,.of h,?_⟩);cases rs <;> rfl
 | dw h rs =>
  right; right;cases e;refine .inl ⟨_,h.sq,?_⟩;cases rs <;> rfl
 | oC h rs=>exact RZ _ e _ (.inl ⟨_,.inr ⟨_,h⟩,rs⟩)
 | oB h rs=>exact RZ _ e _ (.inr ⟨_,.inr ⟨_,h⟩,rs⟩)
 | exc h=>simp [IU] at e
 | Dp h _=>simp [IU] at e
 | pj _ _ _ _=>simp [IU] at e
 | ref a =>
  unfold IU at e;dsimp only at e;cases q:G a with
  | none=>rw [q] at e; cases e
  | some g =>
   rw [q] at e;have z:=ab a g q;cases g with
   | lst ds =>
    right; right;obtain⟨vs,hv,rs⟩:=z;cases e;refine .inl ⟨vs,.of hv,?_⟩;cases rs <;> rfl
   | ins _ _=>cases e
   | rV _=>cases e
   | fU kvs =>
    refine RZ kvs e a ?_;rcases z with ⟨kv,hv,rs⟩ | ⟨kv,hv,rs⟩
    ·exact .inl ⟨kv,.inl hv,rs⟩
    ·exact .inr ⟨kv,.inl hv,rs⟩
section
variable {X:Cx} {a b c:Expr} {ta tb tc:gq} {pos:Pos}
def Z3(X:Cx):Prop:=∀ (pins:List (Addr×Obj)) (s:ay) (σ:L2.St) (H:Hp) (G:Gp) (x:V) (d:D) (v:Value) (k:Bool) (Q:Bool->ay->Prop),Inv X pins σ H s->kK X.K H G->RelV x v->bX X.K H x d->IU d G=some k ->
  (∀ s',Inv X pins σ H s'->Q k s')->wpAny (model X.prog X.w) X.A (truthy v) Q X.xe s
theorem PF:Z3 X:=by
 intro pins s σ H G x d v k Q I ab rx rd e q;rcases Yu ab rd e with ⟨p,rfl,hv,hk⟩ | ⟨p,kv,rfl,hv,hk⟩ | h
 ·obtain⟨z,hS,xs,rel,o,es,ep,ho,hx,BZ,hl,nd⟩:=hv.ok I.b7;have hxs:xs=[]:=by cases rel; rfl
  subst hxs;have he:es=#[]:=by simpa using hl
  subst he;cases rx;have dd:s.heap.DictOf (cJ X.prog X.w) p []:=⟨o,#[],ep,ho,hx,BZ,(fun _ h=>by simp at h),.nil,cj⟩;refine Jc hS dd (by simp) ?_;subst hk;exact q _ (I.tok _)
 ·cases rx;subst hk;exact UP I hv q
 ·exact hU (Wk pins s σ H x v (fun k' H'=>k'=k/\H'=H) I rx ⟨k,h,rfl,rfl⟩) fun k' s' Pc=>by
   obtain⟨H',I',e1,e2⟩:=Pc;subst e1; subst e2; exact q s' I'
theorem iX(ha:gG X a ta)(he:autoParam (∀ whole,isTrue a X.env whole=(do let v ← whole; standAt a.pos; DQ [v] (truthy v))) Ai._auto_1):Pg X a (ik ta):=by
 intro E pins s σ H τ G Q hE I h;refine isTrue_plain (j8 ha hE I h fun x H1 d G1 v s1 I1 m1 r1 j5 q1=>?_) (he _)
 try dsimp only at q1
 split at q1
 ·rename_i k e;exact PF pins s1 σ H1 G1 x d v k _ I1.inv I1.ab r1 j5 e fun s' I'=>⟨H1,G1,I',m1,q1⟩
 ·exact q1.elim
theorem eA{op:CmpOp}{r:B2}(ho:pW X (eU op) r)(ha:gG X a ta)(hb:gG X b tb)(hm:behindInMarks op b=false):Pg X (.Compare a [op] [b] pos) (ik (aX r ta tb)):=by
 intro E pins s σ H τ G Q hE I h;refine wpAny_isTrue_Compare1 (j8 ha hE I h fun x H1 dx G1 v s1 I1 m1 r1 j5 q1=>j8 hb hE I1 q1 fun y H2 dy G2 u s2 nv m2 r2 y8 q2 =>
  hU (ho pins s2 σ H2 G2 x y dx dy v u _ nv.inv nv.ab r1 r2 (j5.mono (m2.kp I1.ab)) y8 q2) ?_) hm
 rintro c s3 ⟨z,H3,dz,G3,I3,m3,r3,rd3,q3⟩
 try dsimp only at q3
 split at q3
 ·rename_i k e;exact PF pins s3 σ H3 G3 z dz c k _ I3 m3.ab r3 rd3 e fun s' I'=>⟨H3,G3,I',(m1.trans m2).trans m3,q3⟩
 ·exact q3.elim
variable {tA tB:yp} {rest:List Expr}
def Pe.pt{e:Expr}{t:yp}(h:Pe X e t):Pg X e t:=fun E pins s σ H τ G Q hE I q=>h _ E pins s σ H τ G Q hE I q
theorem PI{pins:List (Addr×Obj)}{σ:L2.St}{H:Hp}{τ:iO}{G:Gp}{s:ay}{E:lM}{R:Bool->Gp->Prop}{Q:Bool->ay->Prop}(ha:Pg X a tA)(hE:Lk X E)(I:I2 X pins σ H τ G s)(h:tA E τ G R)
  (k:∀ c H1 G1 s1,I2 X pins σ H1 τ G1 s1->Mv X.K H G H1 G1->R c G1->Q c s1):wpAny (model X.prog X.w) X.A (isTrue a X.env (eval a X.env)) Q X.xe s :=
 hU (ha E pins s σ H τ G R hE I h) (by rintro c s1 ⟨H1,G1,I1,m,q⟩; exact k c H1 G1 s1 (I.mv I1 m) m q)
theorem qt(ha:Pg X a tA):Pe X (.BoolOp .Or [a] pos) tA:=by
 intro wh E pins s σ H τ G Q hE I h;refine isTrue_or (hU (ha E pins s σ H τ G Q hE I h) fun c s1 e=>?_);cases c with
 | false=>exact isTrue_or_nil e
 | true=>exact e
theorem sW(ha:Pg X a tA)(hb:Pe X (.BoolOp .Or (b :: rest) pos) tB):Pe X (.BoolOp .Or (a :: b :: rest) pos) (E5 tA tB):=by
 intro wh E pins s σ H τ G Q hE I h;refine isTrue_or (PI ha hE I h fun c H1 G1 s1 I1 m1 q1=>?_);cases c with
 | false=>exact hU (hb wh E pins s1 σ H1 τ G1 Q hE I1 (by simpa using q1)) fun _ _ z=>z.trans m1
 | true=>exact⟨H1,G1,I1.inv,m1,by simpa using q1⟩
theorem ng(ha:Pg X a tA):Pg X (.UnaryOp .Not a pos) (pR tA):=by
 intro E pins s σ H τ G Q hE I h;exact isTrue_not (hU (ha E pins s σ H τ G (fun c H1=>Q (!c) H1) hE I h) (by rintro c s' ⟨H',G',i,m,q⟩; exact⟨H',G',i,m,q⟩))
def Eg{op}{t:gq}(h:gG X a t):gG X (.BoolOp op [a] pos) t:=fun E pins s σ H τ G Q hE I hw=>BoolOp_one (h E pins s σ H τ G Q hE I hw)
theorem Ei(ha:gG X a ta)(hb:gG X (.BoolOp .And (b :: rest) pos) tb):gG X (.BoolOp .And (a :: b :: rest) pos) (Bw ta tb):=by
 intro E pins s σ H τ G Q hE I h;refine BoolOp_and (j8 ha hE I h fun x H1 d G1 v s1 I1 m1 r1 j5 q1=>?_)
 try dsimp only at q1
 split at q1
 ·rename_i e;exact PF pins s1 σ H1 G1 x d v true _ I1.inv I1.ab r1 j5 e fun s' I'=>hU (hb E pins s' σ H1 τ G1 Q hE ⟨I',I1.st,I1.ab⟩ q1) fun _ _ z=>z.trans m1
 ·rename_i e;exact PF pins s1 σ H1 G1 x d v false _ I1.inv I1.ab r1 j5 e fun s' I'=>⟨x,H1,d,G1,I',m1,r1,j5,q1⟩
 ·exact q1.elim
theorem Uc(ha:gG X a ta):gG X (.UnaryOp .Not a pos) (R3 ta):=by
 intro E pins s σ H τ G Q hE I h;refine UnaryOp_ (j8 ha hE I h fun x H1 d G1 v s1 I1 m1 r1 j5 q1=>?_)
 try dsimp only at q1
 split at q1
 ·rename_i k e;exact not_of (PF pins s1 σ H1 G1 x d v k _ I1.inv I1.ab r1 j5 e fun s' I'=>⟨.bl (!k),H1,.bl (!k),G1,I',m1,rfl,.bl _,q1⟩)
 ·exact q1.elim
theorem WR(hc:Pg X c tA)(ha:gG X a ta)(hb:gG X b tb):gG X (.IfExp c a b pos) (dIf tA ta tb):=by
 intro E pins s σ H τ G Q hE I h;refine wpAny_IfExp (PI hc hE I h fun d H1 G1 s1 I1 m1 q1=>?_);cases d with
 | true=>exact hU (ha E pins s1 σ H1 τ G1 Q hE I1 (by simpa using q1)) fun _ _ z=>z.trans m1
 | false=>exact hU (hb E pins s1 σ H1 τ G1 Q hE I1 (by simpa using q1)) fun _ _ z=>z.trans m1
variable {e:Expr} {es:List Expr} {te:gq} {t:BF}
def hW:B3 X [] aO:=fun _ _ _ _ _ H _ G Q _ I h=>sy ⟨[],H,[],G,I.inv,.refl I.ab,.nil,.nil,h⟩
theorem jw(ha:gG X e te)(hr:B3 X es t)(hs:autoParam (bw (e :: es) X.env=(false,eval e X.env) :: bw es X.env) Ar._auto_1):B3 X (e :: es) (av te t):=by
 intro pos E pins s σ H τ G Q hE I h;rw [hs];show wpAny _ _ (Jf ((false,eval e X.env) :: lX pos (bw es X.env))) _ _ s;refine jQ (j8 ha hE I h fun x H1 d G1 u s1 I1 m1 r1 j5 q1=>?_);exact hU (hr pos E pins s1 σ H1 τ G1 _ hE I1 q1) (by rintro us s2 ⟨xs,H2,ds,G2,nv,m2,r2,y8,q2⟩; exact⟨x :: xs,H2,d :: ds,G2,nv,m1.trans m2,.cons r1 r2,.cons (j5.mono (m2.kp I1.ab)) y8,q2⟩)
theorem y7{pins:List (Addr×Obj)}{σ:L2.St}{H:Hp}{τ:iO}{G:Gp}{s:ay}{E:lM}{R:List D->Gp->Prop}{Q:List Value->ay->Prop}(ha:B3 X es t)(pos:Pos)(hE:Lk X E)(I:I2 X pins σ H τ G s)(h:t E τ G R)
  (k:∀ vs H1 ds G1 us s1,I2 X pins σ H1 τ G1 s1->Mv X.K H G H1 G1->Vals vs us->ba X.K H1 vs ds->R ds G1->Q us s1):wpAny (model X.prog X.w) X.A (Jf (lX pos (bw es X.env))) Q X.xe s :=
 hU (ha pos E pins s σ H τ G R hE I h) (by rintro us s1 ⟨vs,H1,ds,G1,I1,m,r,rd,q⟩; exact k vs H1 ds G1 us s1 (I.mv I1 m) m r rd q)
theorem eN{x1}(h:B3 X es t):gG X (.Tuple es x1 pos) (iD t):=by
 intro E pins s σ H τ G Q hE I hq;refine wpAny_Tuple_spliced (y7 h pos hE I hq ?_);rintro xs H1 ds G1 us s1 I1 m1 r rd ⟨z,q⟩;refine⟨by rw [<-r.length,rd.length,cD]; exact z,?_⟩;have hf:H1 s1.heap.objs.size=none:=I1.inv.b7.fresh (aE _);refine⟨.ref s1.heap.objs.size,upd H1 s1.heap.objs.size (.tup xs),.tup ds,G1,I1.inv.laid (t':=s1.toks) (fun b u e=>aF _ e) (aE _) ?_,m1.trans (.MG I1.ab hf),rfl,?_,q⟩
 ·exact⟨by rw [rd.length,cD]; exact z,us,r,⟨_,a9 _ rfl,rfl,_,rfl⟩⟩
 ·exact .tup bU (rd.mono (.new hf))
theorem fO(h:B3 X es t):gG X (.List es pos) (iq t):=by
 intro E pins s σ H τ G Q hE I hq;refine wpAny_List_spliced (y7 h pos hE I hq ?_);rintro xs H1 ds G1 us s1 I1 m1 r rd ⟨z,q⟩;refine⟨by rw [<-r.length,rd.length,cD]; exact z,?_⟩;have hf:H1 s1.heap.objs.size=none:=I1.inv.b7.fresh (aE _);refine⟨.ref s1.heap.objs.size,upd H1 s1.heap.objs.size (.lst xs),.ref _,eL G1 s1.heap.objs.size (.lst ds),I1.inv.laid (t':=s1.toks) (fun b u e=>aF _ e) (aE _) ?_,m1.trans (.Kd I1.ab hf rd),rfl,.ref _,q _ (I1.ab.free hf)⟩;exact⟨by rw [rd.length,cD]; exact z,us,0,r,a9 _ rfl⟩
def B6(K:aj)(sp:jM):Sp:=fun vs H Q _=>∃ ds G Q2,ba K H vs ds/\kK K H G/\sp ds G Q2 (fun _ _=>False)/\∀ d G' v H',Q2 d G'->Mv K H G H' G'->bX K H' v d->Q v H'
variable {k:Nat} {f:Addr} {fd:fH} {ps:List Str} {sp:jM} {x:Str} {p:Pos} {r:List D->Gp->DK->Prop} {id:String}
theorem Qx(F:tT X.prog X.w X.K X.mg X.base Ls k f fd ps (B6 X.K sp))(hr:kM k X.A)(hg:Gl X x)(hm:X.mg x=some (.ref f))(hk:mP X.K (.ref f)=true)(hb:Binds X.K fd ps [])
  (ha:B3 X (e :: es) t) (ze:autoParam ((x == ("__debug__" : Str))=false) Ad._auto_1) (he:autoParam (bw (e :: es) X.env=(false,eval e X.env) :: bw es X.env) Ar._auto_1) (yO:autoParam ((lX pos (bw es X.env)).any (·.1)=false) Ar._auto_1) :
  gG X (.Call (.Name x p) (e :: es) [] pos) (fun E τ G Q=>br (fun ds G1 Q1 _=>sp ds G1 Q1 fun _ _=>False) t E τ G Q):=by
 intro E pins s σ H τ G Q hE I h;refine eY (nj I.inv hg hm ?_ ze);refine pX (h₀:=X.base) I.inv.ok.mod.Uz hk (y7 ha pos hE I h fun vs H1 ds G1 us s1 I1 m1 r rd q=>⟨I1.inv.zF,?_⟩) he yO;refine hU (JR F hr hb .nil Vt I1.inv r (Q:=B1 X.K H1 G1 Q) ?_) fun _ _ z=>(r8.of z).trans m1;rw [cg];exact⟨ds,G1,Q,rd,I1.ab,q,fun d G' v H' q' m' NG=>⟨d,G',m',NG,q'⟩⟩
theorem da (hc:tV X (.builtin id) r) (hg:Gl X x) (hm:X.mg x=none) (hv:eZ x=some (.builtin id)) (ha:B3 X (e :: es) t) (hn:autoParam (x≠"__name__") Ad._auto_1) (ze:autoParam ((x == ("__debug__" : Str))=false) Ad._auto_1)
  (he:autoParam (bw (e :: es) X.env=(false,eval e X.env) :: bw es X.env) Ar._auto_1) (yO:autoParam ((lX pos (bw es X.env)).any (·.1)=false) Ar._auto_1):gG X (.Call (.Name x p) (e :: es) [] pos) (ot r t):=by
 intro E pins s σ H τ G Q hE I h;refine eY (qK I.inv hg hm hv ?_ hn ze);exact lN (y7 ha pos hE I h fun vs H1 ds G1 us s1 I1 m1 r1 j5 q1=>hU (hc pins s1 σ H1 G1 vs ds us Q I1.inv I1.ab r1 j5 q1) fun _ _ z=>z.trans m1) he yO
variable {st:Stmt} {sts:List Stmt} {u v:gN}
def d0:uM X [] dH:=fun _ _ _ σ H τ G _ _ I h=>nJ ⟨σ,H,τ,G,I,.refl I.ab,h⟩
theorem aH(h1:FN X st u)(h2:uM X sts v):uM X (st :: sts) (b8 u v):=by
 intro E pins s σ H τ G D hE I h;refine Nc (hU (h1 E pins s σ H τ G { D with nx:=v E D } hE I h) fun f s1 q=>?_);cases f with
 | next =>
  obtain⟨kz,H',ph,G',I',m,q⟩:=q;exact hU (h2 E pins s1 kz H' ph G' D hE I' q) fun _ _ z=>z.trans m
 | ret v=>exact q
 | brk=>exact q
 | cont=>exact q
theorem aK(h1:FN X st u):uM X [st] u:=by
 intro E pins s σ H τ G D hE I h;refine Nc (hU (h1 E pins s σ H τ G D hE I h) fun f s1 q=>?_);cases f with
 | next=>exact nJ q
 | ret v=>exact q
 | brk=>exact q
 | cont=>exact q
theorem bN(he:gG X e te):FN X (.Return (some e) pos) (cb te):=by
 intro E pins s σ H τ G D hE I h;exact wpAny_Return_some (hU (he E pins s σ H τ G _ hE I h) (by rintro v s1 ⟨x,H1,d,G1,I1,m,r1,rd,q1⟩; exact⟨x,σ,H1,d,G1,I1,m,r1,rd,q1⟩))
theorem gB{sa sb:List Stmt}(hc:Pg X c tA)(ha:uM X sa u)(hb:uM X sb v):FN X (.If c sa sb pos) (gi tA u v):=by
 intro E pins s σ H τ G D hE I h;refine wpAny_If (PI hc hE I h fun d H1 G1 s1 I1 m1 q1=>?_);cases d with
 | true=>exact hU (ha E pins s1 σ H1 τ G1 D hE I1 (by simpa using q1)) fun _ _ z=>z.trans m1
 | false=>exact hU (hb E pins s1 σ H1 τ G1 D hE I1 (by simpa using q1)) fun _ _ z=>z.trans m1
def OO(X:Cx)(target:Expr)(t:B0):Prop :=
 ∀ (E:lM) (pins:List (Addr×Obj)) (s:ay) (σ:L2.St) (H:Hp) (τ:iO) (G:Gp) (w:V) (d:D) (u:Value) (Q:iO->Gp->Prop),Lk X E->I2 X pins σ H τ G s->RelV w u->bX X.K H w d->t E d τ G Q ->
  wpAny (model X.prog X.w) X.A (Lv target X.env u) (fun _ s'=>∃ kz H' ph G',I2 X pins kz H' ph G' s'/\Mv X.K H G H' G'/\Q ph G') X.xe s
def U9(X:Cx)(ts:List Expr)(t:Fv):Prop :=
 ∀ (E:lM) (pins:List (Addr×Obj)) (s:ay) (σ:L2.St) (H:Hp) (τ:iO) (G:Gp) (ws:List V) (ds:List D) (us:List Value) (Q:iO->Gp->Prop),Lk X E->I2 X pins σ H τ G s->Vals ws us->ba X.K H ws ds->t E ds τ G Q ->
  wpAny (model X.prog X.w) X.A (assignInOrder ((BU ts X.env).map (·.2)) us) (fun _ s'=>∃ kz H' ph G',I2 X pins kz H' ph G' s'/\Mv X.K H G H' G'/\Q ph G') X.xe s
theorem Qt{i:Nat}{x:Str}(hN:X.N.Nodup)(hi:X.N[i]?=some x)(hx:Loc X.env.scope x)(hf:autoParam (X.fn x=true\/X.env.scope.names.lookup x=some .local) Ao._auto_1):OO X (.Name x pos) (aI i):=by
 intro E pins s σ H τ G w d u Q hE I r rd h;exact wpAny_assign_Name (Gk I.inv hN hi hx r (fun s' I'=>⟨_,H,_,G,⟨I',I.st.set i rd,I.ab⟩,.refl I.ab,h⟩) hf)
theorem gC:U9 X [] jz:=by
 intro E pins s σ H τ G ws ds us Q hE I r rd h;unfold jz at h;split at h
 ·have e:=rd.zero;subst e;cases r;exact assignInOrder_nil ⟨σ,H,τ,G,I,.refl I.ab,h⟩
 ·exact h.elim
theorem bY{t:B0}{u:Fv}(h1:OO X e t)(h2:U9 X es u)
  (hs:autoParam ((BU (e :: es) X.env).map (·.2)=Lv e X.env :: (BU es X.env).map (·.2)) Ar._auto_1):U9 X (e :: es) (cX t u):=by
 intro E pins s σ H τ G ws ds us Q hE I r rd h;unfold cX at h;split at h
 ·cases rd with
  | cons j5 y8 =>
   cases r with
   | cons r1 r2 =>
    rw [hs];refine assignInOrder_cons (hU (h1 E pins s σ H τ G _ _ _ _ hE I r1 j5 h) ?_);rintro _ s1 ⟨σ1,H1,qh,G1,I1,m1,q1⟩;exact hU (h2 E pins s1 σ1 H1 qh G1 _ _ _ Q hE I1 r2 (y8.mono (m1.kp I.ab)) q1) (by rintro _ _ ⟨σ2,H2,xE,G2,nv,m2,q2⟩; exact⟨σ2,H2,xE,G2,nv,m1.trans m2,q2⟩)
 ·exact h.elim
theorem iJ{k:Nat}{t:Fv}{n:Nat}(hc:X.calm=true)(h:U9 X es t)(hgl:∀ E ds τ G Q,t E ds τ G Q->ds.length=n)
  (hn:autoParam ((BU es X.env).length=n) Ar._auto_1) (Ky:autoParam ((BU es X.env).findIdx? (·.1)=none) Ar._auto_1):OO X (.Tuple es k pos) (jL t):=by
 intro E pins s σ H τ G w d u Q hE I r rd hw;unfold jL at hw;split at hw
 ·cases rd with
  | tup hq rs =>
   cases r;obtain⟨bL,rv,ht,hz⟩:=I.inv.tuple (.of hq);refine assign_Tuple_tuple (I.inv.ok.hd hc) ht (by rw [hn,aW,<-rv.length,rs.length]; exact(hgl _ _ _ _ _ hw).symm) Ky fun h' hx=>?_;have I1:Inv X pins σ H { s with heap:=h' }:=I.inv.kept (t':=s.toks) fun b o e=>hx b o (bx (aR e)) e;exact h E pins _ σ H τ G _ _ _ Q hE ⟨I1,I.st,I.ab⟩ (by simpa using rv) rs hw
 ·exact hw.elim
def gE:∀ E ds τ G Q,jz E ds τ G Q->ds.length=0:=by
 intro E ds τ G Q h;cases ds with
 | nil=>rfl
 | cons _ _=>exact h.elim
theorem Oq{t:B0}{u:Fv}{n:Nat}(h:∀ E ds τ G Q,u E ds τ G Q->ds.length=n)(hm:∀ E d τ G (Q Q':iO->Gp->Prop),t E d τ G Q->(∀ ph G',Q ph G'->Q' ph G')->t E d τ G Q')(hx:∀ E d τ G,¬ t E d τ G fun _ _=>False) :
  ∀ E ds τ G Q,cX t u E ds τ G Q->ds.length=n+1:=by
 intro E ds τ G Q q;cases ds with
 | nil=>exact q.elim
 | cons d ds =>
  by_cases hl:ds.length=n
  ·rw [ah,hl]
  ·exact absurd (hm E d τ G _ (fun _ _=>False) q fun ph G' z=>hl (h _ _ _ _ _ z)) (hx E d τ G)
theorem gH{tg:Expr}{g:B0}(he:gG X e te)(hg:OO X tg g)(hs:autoParam (swapsWithSole [tg] e pos.line X.env=pure false) Ar._auto_1)(hw:autoParam (swappedStores [tg] e X.env=pure none) Ar._auto_1)
  (h1:autoParam ((BU [tg] X.env).map (·.2)=[Lv tg X.env]) Ar._auto_1):FN X (.Assign [tg] e pos) (bF te g):=by
 intro E pins s σ H τ G D hE I h;refine wpAny_Assign_stores (j8 he hE I h fun x H1 d G1 v s1 I1 m1 r1 j5 q1=>?_) hs hw;rw [h1];exact hU (hg E pins s1 σ H1 τ G1 x d v _ hE I1 r1 j5 q1) (by rintro _ s2 ⟨σ2,H2,xE,G2,nv,m2,q2⟩; exact⟨σ2,H2,xE,G2,nv,m1.trans m2,q2⟩)
theorem T1{i:Nat}{x:Str}{pos':Pos}(hN:X.N.Nodup)(hi:X.N[i]?=some x)(hx:Loc X.env.scope x)(he:gG X e te)(hs:autoParam (FR e (some (.Name x pos')) pos.line X.env=pure false) Ar._auto_1)(hf:autoParam (X.fn x=true\/X.env.scope.names.lookup x=some .local) Ao._auto_1) :
  FN X (.Assign [.Name x pos'] e pos) (bF te (aI i)):=by
 intro E pins s σ H τ G D hE I h;refine wpAny_Assign_Name (j8 he hE I h fun y H1 d G1 v s1 I1 m1 r1 j5 q1=>?_) hs;exact Gk I1.inv hN hi hx r1 (fun s2 nv=>⟨_,H1,_,G1,⟨nv,I1.st.set i j5,I1.ab⟩,m1,q1⟩) hf
theorem nV(he:gG X e te)(hs:autoParam (FR e none pos.line X.env=pure false) Ar._auto_1):FN X (.Expr e pos) (la te):=by
 intro E pins s σ H τ G D hE I h;exact wpAny_Expr_any (j8 he hE I h fun y H1 d G1 v s1 I1 m1 r1 j5 q1=>⟨σ,H1,τ,G1,I1,m1,q1⟩) I.inv.quiet hs
end
def V5(K:aj)(J:It)(H':Hp)(ds:List D)(ok:Gp->Prop):Prop :=
 ∀ i H1 G1,Kp H' H1->kK K H1 G1->ok G1->(∀ d,ds[i]?=some d->J.go i H1/\∀ x H2,J.yld i H1 x H2->bX K H2 x d/\Mv K H1 G1 H2 G1)/\(ds.length<=i->J.stop i H1)
inductive Lh (X:Cx) (pins:List (Addr×Obj)) (σ:L2.St) (tg:Expr) (H:Hp) (G:Gp) (R:List D->(Gp->Prop)->Gp->Prop) (VE:Value) (s2:ay):Prop
 | mk (it:Addr) (fp:List Addr) (tn:Nat->Heap->Prop) (J:It) (H':Hp) (G':Gp) (ds:List D) (ok:Gp->Prop) (e:VE=.ref it) (i:Inv X pins σ H' s2) (m:Mv X.K H G H' G') (T:Turn X.prog X.w X.K tg J fp it tn) (t0:tn 0 s2.heap) (f:∀ b∈fp,oF X pins H' b)
  (wk:V5 X.K J H' ds ok) (q:R ds ok G'):Lh X pins σ tg H G R VE s2
def ON(X:Cx)(tg iter:Expr)(wi:OL):Prop :=
 ∀ (E:lM) (pins:List (Addr×Obj)) (s:ay) (σ:L2.St) (H:Hp) (τ:iO) (G:Gp) (R:List D->(Gp->Prop)->Gp->Prop),Lk X E->I2 X pins σ H τ G s->wi E τ G R ->
  wpAny (model X.prog X.w) X.A (eval iter X.env) (fun v s1=>wpAny (model X.prog X.w) X.A (FT v) (Lh X pins σ tg H G R) X.xe s1) X.xe s
section
variable {X:Cx} {tg:Expr} {a b:Expr} {ta tb:gq} {pos p:Pos}
theorem Mr{pins:List (Addr×Obj)}{σ:L2.St}{H H1:Hp}{G G1:Gp}{s1:ay}{l:Addr}{vs:List V}{ds:List D}{ok:Gp->Prop}{R:List D->(Gp->Prop)->Gp->Prop}(I1:Inv X pins σ H1 s1)(m:Mv X.K H G H1 G1)(hq:qb X.K H1 l vs)
  (hk:∀ H2 G2,Kp H1 H2->kK X.K H2 G2->ok G2->∃ ws,qb X.K H2 l ws/\ba X.K H2 ws ds) (q:R ds ok G1):wpAny (model X.prog X.w) X.A (FT (.ref l)) (Lh X pins σ tg H G R) X.xe s1:=by
 obtain⟨bL,rv,pl,hz⟩:=I1.list hq;refine oU pl.isList ?_;refine⟨s1.heap.objs.size,[s1.heap.objs.size],_,_,H1,G1,ds,ok,rfl,I1.kept (t':=s1.toks) fun b o e=>aF _ e,m,Nl l _,⟨_,a9 _ rfl,rfl,rfl⟩,fun b hb=>?_,fun i H2 G2 k ab o=>?_,q⟩
 ·have e:b=s1.heap.objs.size:=by simpa using hb
  subst e;exact I1.Cf (aE _) (I1.b7.fresh (aE _))
 ·obtain⟨ws,hw,rd⟩:=hk H2 G2 k ab o;refine⟨fun d hd=>?_,fun hl=>⟨ws,hw,by rw [rd.length]; exact hl⟩⟩;obtain⟨v,hv,r⟩:=rd.get hd;refine⟨⟨ws,v,hw,hv⟩,?_⟩;rintro x H3 ⟨e,y⟩;subst e;have:=y ws hw;rw [hv] at this;cases this;exact⟨r,.refl ab⟩
theorem Wj{pins:List (Addr×Obj)}{σ:L2.St}{H H1:Hp}{G G1:Gp}{s1:ay}{l:Addr}{vs:List V}{ds:List D}{R:List D->(Gp->Prop)->Gp->Prop}(I1:Inv X pins σ H1 s1)(m:Mv X.K H G H1 G1)(hq:zL X.K H1 l vs)(rd:ba X.K H1 vs ds)
  (q:R ds (fun _=>True) G1):wpAny (model X.prog X.w) X.A (FT (.ref l)) (Lh X pins σ tg H G R) X.xe s1:=by
 obtain⟨bL,rv,pl,hz⟩:=I1.tuple hq;refine wpAny_pyIter_tuple (show s1.heap.IsTuple l bL.toArray from pl) ?_;refine⟨s1.heap.objs.size,[s1.heap.objs.size],_,_,H1,G1,ds,_,rfl,I1.kept (t':=s1.toks) fun b o e=>aF _ e,m,JA l _,⟨_,a9 _ rfl,rfl,rfl⟩,fun b hb=>?_,fun i H2 G2 k ab _=>?_,q⟩
 ·have e:b=s1.heap.objs.size:=by simpa using hb
  subst e;exact I1.Cf (aE _) (I1.b7.fresh (aE _))
 ·have hw:=k.sqT hq;have y8:=rd.mono k;refine⟨fun d hd=>?_,fun hl=>⟨vs,hw,by rw [rd.length]; exact hl⟩⟩;obtain⟨v,hv,r⟩:=y8.get hd;refine⟨⟨vs,v,hw,hv⟩,?_⟩;rintro x H3 ⟨e,y⟩;subst e;have:=y vs hw;rw [hv] at this;cases this;exact⟨r,.refl ab⟩
theorem eX(ha:gG X a ta):ON X tg a (lz ta):=by
 intro E pins s σ H τ G R hE I h;refine j8 ha hE I h fun x H1 d G1 v s1 I1 m1 r1 j5 q1=>?_;cases j5 with
 | tup hq rs=>cases r1; exact Wj I1.inv m1 (.of hq) rs q1
 | dw hq rs=>cases r1; exact Mr I1.inv m1 hq.sq (fun H2 G2 k ab _=>⟨_,(k.Wr hq).sq,rs.mono k⟩) q1
 | ref p =>
  cases r1;dsimp only at q1;split at q1
  ·rename_i ds e;obtain⟨vs,hv,rs⟩:=I1.ab.lst e;refine Mr I1.inv m1 (.of hv) (fun H2 G2 k ab o=>?_) q1;obtain⟨ws,hw,rQ⟩:=ab.lst o;exact⟨ws,.of hw,rQ⟩
  ·exact q1.elim
 | oC _ _=>exact q1.elim
 | oB _ _=>exact q1.elim
 | eT=>exact q1.elim
 | bl _=>exact q1.elim
 | int _=>exact q1.elim
 | str _=>exact q1.elim
 | exc _=>exact q1.elim
 | Dp _ _=>exact q1.elim
 | pj _ _ _ _=>exact q1.elim
theorem WA{pins:List (Addr×Obj)}{σ:L2.St}{H H1:Hp}{G G1:Gp}{s:ay}{R:List D->(Gp->Prop)->Gp->Prop}{lo hi:Int}{t u v:Tok}{tk:Nat}(I:Inv X pins σ H1 s)(m:Mv X.K H G H1 G1)(h1:-(2 ^ 62)<=lo)(h2:lo < 2 ^ 62)(h3:-(2 ^ 62)<=hi)(h4:hi < 2 ^ 62)
  (q:R (gX lo (hi - lo).toNat) (fun _=>True) G1):wpAny (model X.prog X.w) X.A (FT (.ref s.heap.objs.size)) (Lh X pins σ tg H G R) X.xe { s with heap:=s.heap.push { cls:=.type "range",data:=.fields #[.int lo t,.int hi u,.int 1 v] },toks:=tk }:=by
 refine hU (Qe (tg:=tg) I h1 h2 h3 h4 (R:=fun J H'=>J=Itr lo (hi - lo).toNat/\H'=H1) ⟨rfl,rfl⟩) ?_;rintro VE s2 ⟨it,fp,tn,J,H',e,nv,T,st,fo,eJ,eH⟩;subst eJ; subst eH;refine⟨it,fp,tn,_,H',G1,_,_,e,nv,m,T,st,fo,fun i H2 G2 k ab _=>⟨fun d hd=>?_,fun hl=>?_⟩,q⟩
 ·unfold gX at hd;rw [bu] at hd;cases VR:(fL (hi - lo).toNat)[i]? with
  | none=>rw [VR] at hd; cases hd
  | some j =>
   rw [VR] at hd;obtain⟨wL,ej⟩:=List.getElem?_eq_some_iff.mp VR;rw [nE] at wL;rw [mC] at ej;subst ej;cases hd;refine⟨wL,?_⟩;rintro x H3 ⟨e1,e2⟩;subst e1; subst e2;exact⟨.int _,.refl ab⟩
 ·unfold gX at hl;rw [aq,nE] at hl;exact hl
theorem qv (hg:Gl X "range") (hm:X.mg "range" = none) (ha:gG X a ta) (hs:autoParam (bw [a] X.env=[(false,eval a X.env)]) Ar._auto_1):ON X tg (.Call (.Name "range" p) [a] [] pos) (Dc ta):=by
 intro E pins s σ H τ G R hE I h;have hA:B3 X [a] (av ta aO):=jw ha hW hs;refine Call_ (qK I.inv hg hm boot_range (jf (y7 hA pos hE I (R:=fun ds G1=>match ds with | [.int n]=>-(2 ^ 62)<=n/\n < 2 ^ 62/\R (gX 0 n.toNat) (fun _=>True) G1 | _=>False) ?_ fun vs H1 ds G1 us s1 I1 m1 r1 j5 q1=>?_) hs rfl))
 ·show ta E τ G _;have e:(fun (x:D) (G1:Gp)=>match [x] with | [.int n]=>-(2 ^ 62)<=n/\n < 2 ^ 62/\R (gX 0 n.toNat) (fun _=>True) G1 | _=>False)=fun x G1=>match x with | .int n=>-(2 ^ 62)<=n/\n < 2 ^ 62/\R (gX 0 n.toNat) (fun _=>True) G1 | _=>False:=by
   funext x G1; cases x <;> rfl
  exact e ▸ h
 ·split at q1
  ·rename_i n;obtain⟨w,rfl,Gr⟩:=j5.one;cases Gr;obtain⟨u,rfl,ru⟩:=r1.one;obtain⟨t,rfl⟩:=ru;obtain⟨q1,q2,q⟩:=q1;exact call_range_1 (WA I1.inv m1 (by lia) (by lia) q1 q2 (by simpa using q))
  ·exact q1.elim
theorem cS{iter:Expr}{body:List Stmt}{wi:OL}{g:B0}{t:gN}(hp:PassesOwn (model X.prog X.w) X.A X.env X.xe)(hc:X.calm=true)(hi:ON X tg iter wi)(hg:OO X tg g)(hb:uM X body t)
  (hs:autoParam (∀ x,oV iter X.env x=pure x) Ai._auto_1):FN X (.For tg iter body [] pos) (eF wi g t):=by
 intro E pins s σ H τ G D hE I h;refine wpAny_For (hU (hi E pins s σ H τ G _ hE I h) fun v s1 h1=>hU h1 fun VE s2 h2=>?_) hs;obtain⟨it,fp,tn,J,H2,G2,ds,ok,e,nv,m2,T,S5,f2,wk,q⟩:=h2;subst e;have Wo:∀ {H':Hp},(∀ b∈fp,H' b=none)->∀ b∈fp,oF X pins H' b:=fun hn b hb=>⟨hn b hb,(f2 b hb).2⟩;refine codeAny_forLoop_any (fun n s'=>∃ i kz H' ph G',I2 X pins kz H' ph G' s'/\Mv X.K H G H' G'/\Kp H2 H'/\tn i s'.heap/\(∀ b∈fp,H' b=none)/\n=ds.length - i/\i<=ds.length/\rH g t ok (ds.drop i) E D ph G') ?_ ds.length
  ⟨0,σ,H2,τ,G2,I.mv nv m2,m2,.refl _,S5,fun b hb=>(f2 b hb).1,rfl,cw _,q⟩
 rintro n s3 ⟨i,Tr,H3,Wc,G3,I3,m3,k3,st3,fr3,rfl,hle,w3⟩;by_cases wL:i < ds.length
 ·rw [iF wL] at w3;obtain⟨ok3,w3⟩:=w3;obtain⟨go,yl⟩:=(wk i H3 G3 k3 I3.ab ok3).1 ds[i] (by simp [wL]);refine kO hp (hU (T.item X rfl rfl rfl hc i pins s3 Tr H3 X.xe I3.inv (Wo fr3) st3 go) ?_);rintro r s4 ⟨u,hr,h4⟩;subst hr;refine kO hp (hU h4 ?_);rintro _ s5 ⟨x,H5,I5,r5,y5,st5,fr5⟩;obtain⟨rd5,m5⟩:=yl x H5 y5;have I5':=I5.pinned (Wo fr5) (T.obj _ _ st5);have J5:I2 X (pins++sX fp s5.heap) Tr H5 Wc G3 s5:=⟨I5',I3.st.mono (m5.kp I3.ab),m5.ab⟩;refine kO hp (hU (hg E _ s5 Tr H5 Wc G3 x ds[i] u _ hE J5 r5 rd5 w3) ?_);rintro _ s6 ⟨σ6,H6,τ6,G6,I6,m6,q6⟩;refine kO hp (hU (hb E _ s6 σ6 H6 τ6 G6 _ hE I6 q6) fun f s7 q7=>?_);have again:∀ {O9:L2.St} {H7:Hp} {O8:iO} {G7:Gp},I2 X (pins++sX fp s5.heap) O9 H7 O8 G7 s7->Mv X.K H6 G6 H7 G7->rH g t ok (ds.drop (i+1)) E D O8 G7 ->
    ∃ m,m < ds.length - i/\∃ i kz H' ph G',I2 X pins kz H' ph G' s7/\Mv X.K H G H' G'/\Kp H2 H'/\tn i s7.heap/\(∀ b∈fp,H' b=none)/\m=ds.length - i/\i<=ds.length/\rH g t ok (ds.drop i) E D ph G':=fun {O9 H7 O8 G7} I7 m7 n7=>by
   have mm:=m5.trans (m6.trans m7);refine⟨ds.length - (i+1),by lia,i+1,O9,H7,O8,G7,⟨I7.inv.vM,I7.st,I7.ab⟩,m3.trans mm,k3.trans (mm.kp I3.ab),T.keep _ _ _ st5 fun b hb o e=>(I7.inv.pin (b,o) (dj _ (dj _ (qF hb e)))).1,fun b hb=>?_,rfl,wL,n7⟩;obtain⟨o,e,d⟩:=T.obj _ _ st5 b hb;exact(I7.inv.pin (b,o) (dj _ (dj _ (qF hb e)))).2.1
  cases f with
  | next=>obtain⟨O9,H7,O8,G7,I7,m7,n7⟩:=q7; exact again I7 m7 n7
  | cont=>obtain⟨O9,H7,O8,G7,I7,m7,n7⟩:=q7; exact again I7 m7 n7
  | brk=>obtain⟨O9,H7,O8,G7,I7,m7,q7⟩:=q7; exact⟨O9,H7,O8,G7,⟨I7.inv.vM,I7.st,I7.ab⟩,m3.trans (m5.trans (m6.trans m7)),q7⟩
  | ret v=>obtain⟨x7,O9,H7,d7,G7,I7,m7,r7,rd7,q7⟩:=q7; exact⟨x7,O9,H7,d7,G7,I7.vM,m3.trans (m5.trans (m6.trans m7)),r7,rd7,q7⟩
 ·have hn:ds.length<=i:=by lia
  rw [mX hn] at w3;obtain⟨ok3,qn⟩:=w3;have stop:=(wk i H3 G3 k3 I3.ab ok3).2 hn;refine kO hp (hU (T.done X rfl rfl rfl hc i pins s3 Tr H3 X.xe I3.inv (Wo fr3) st3 stop) ?_);rintro r s4 ⟨hr,I4⟩;subst hr;exact nJ ⟨Tr,H3,Wc,G3,⟨I4,I3.st,I3.ab⟩,m3,qn⟩
theorem NJ{c:Expr}{body:List Stmt}{tc:yp}{t:gN}(hp:PassesOwn (model X.prog X.w) X.A X.env X.xe)(hc:Pg X c tc)(hb:uM X body t):FN X (.While c body [] pos) (K6 tc t):=by
 intro E pins s σ H τ G D hE I h;obtain⟨n0,w0⟩:=h;refine wpAny_While (codeAny_whileLoop (fun n s'=>∃ kz H' ph G',I2 X pins kz H' ph G' s'/\Mv X.K H G H' G'/\Ge tc t n E D ph G') ?_ n0 ⟨σ,H,τ,G,I,.refl I.ab,w0⟩);rintro n s1 ⟨σ1,H1,qh,G1,I1,m1,w1⟩;cases n with
 | zero=>exact w1.elim
 | succ n =>
  refine kO hp (PI hc hE I1 w1 fun b H2 G2 s2 nv m2 q2=>?_);cases b with
  | true =>
   rw [if_pos rfl] at q2 ⊢;refine kO hp (hU (hb E pins s2 σ1 H2 qh G2 _ hE nv q2) fun f s3 q3=>?_);cases f with
   | next=>obtain⟨Tr,H3,Wc,G3,I3,m3,n3⟩:=q3; exact⟨n,vD _,Tr,H3,Wc,G3,I3,m1.trans (m2.trans m3),n3⟩
   | cont=>obtain⟨Tr,H3,Wc,G3,I3,m3,n3⟩:=q3; exact⟨n,vD _,Tr,H3,Wc,G3,I3,m1.trans (m2.trans m3),n3⟩
   | brk=>exact q3.trans (m1.trans m2)
   | ret v=>exact q3.trans (m1.trans m2)
  | false =>
   rw [if_neg fu] at q2 ⊢;exact nJ ⟨σ1,H2,qh,G2,nv,m1.trans m2,q2⟩
end
def D8(n d:Nat)(o:Option Int):HT.j9 n d o=j9 n d o:=by cases o <;> rfl
def ba.cut{K:aj}{H:Hp}{vs:List V}{ds:List D}(r:ba K H vs ds)(lo hi:Option Int):ba K H (Ii vs lo hi) (K2.cut ds lo hi):=by
 unfold Ii K2.cut;rw [D8,D8,r.length];exact(r.drop _).take _
theorem ba.rZ{K:aj}{H:Hp}{vs:List V}{ds:List D}{i:Int}{d:D}(r:ba K H vs ds)(h:K2.rZ ds i=some d):∃ v,L2.rZ vs i=some v/\bX K H v d:=by
 unfold K2.rZ at h;cases e:K2.IX ds.length i with
 | none=>rw [e] at h; cases h
 | some j =>
  rw [e] at h;obtain⟨v,h1,h2⟩:=r.get (show ds[j]?=some d from h);refine⟨v,?_,h2⟩;show (L2.IX vs.length i).bind _=_;have e':L2.IX vs.length i=some j:=by rw [r.length]; exact e
  rw [e'];exact h1
section
variable {X:Cx} {a b c e:Expr} {ta tb tc te:gq} {pos p2:Pos}
theorem qW{pins:List (Addr×Obj)}{s:ay}{σ:L2.St}{H:Hp}{G:Gp}{x:V}{d:D}{v:Value}{zs:List D}(I:Inv X pins σ H s)(ab:kK X.K H G)(rx:RelV x v)(rd:bX X.K H x d)(hi:tf d G=some zs) :
  ∃ l vs bL,v=.ref l/\Vals vs bL/\ba X.K H vs zs/\s.heap.IsList l bL.toArray/\vs.length<=a8:=by
 cases rd with
 | dw hq rs =>
  cases hi;cases rx;obtain⟨bL,rv,pl,hz⟩:=I.list hq.sq;exact⟨_,_,bL,rfl,rv,rs,pl.isList,hz⟩
 | ref l =>
  unfold tf at hi;dsimp only at hi;cases hg:G l with
  | none=>rw [hg] at hi; cases hi
  | some gg =>
   rw [hg] at hi;cases gg with
   | lst ds =>
    cases hi;cases rx;obtain⟨vs,hv,rs⟩:=ab.lst hg;obtain⟨bL,rv,pl,hz⟩:=I.list (.of hv);exact⟨_,_,bL,rfl,rv,rs,pl.isList,hz⟩
   | ins _ _=>cases hi
   | rV _=>cases hi
   | fU _=>cases hi
 | _=>cases hi
theorem xV{pins:List (Addr×Obj)}{s:ay}{σ:L2.St}{H:Hp}(I:Inv X pins σ H s){m:Str->Option Value}(F0:Fr X.base X.env.locals s.heap m){h':Heap}(F:Fr X.base X.env.locals h' m)(N:News X.base X.env.locals h' (uB X.base s.heap X.env.locals)) :
  (∀ b o,b≠X.env.locals->s.heap.get? b=some o->h'.get? b=some o)/\∀ m',s.heap.Ns X.env.locals m'->h'.Ns X.env.locals m':=by
 refine⟨fun b o hb e=>?_,fun m' hm=>?_⟩
 ·cases q:X.base.get? b with
  | some u =>
   have:=I.bk b u q;rw [e] at this; cases this;exact F.keep b _ q
  | none=>exact(N (b,o) (yK hb q e)).1
 ·have e1:=hm.eq_nsMap;have e2:=F0.ns.eq_nsMap;rw [e1,<-e2]; exact F.ns
theorem kI{P:bE}{w:World}{H:Hp}{h:Heap}{a:Addr}:∀ {o:HO},fE P w H h a o->∃ ob,h.get? a=some ob:=by
 intro o x;cases o with
 | lst _=>obtain⟨_,_,_,_,e⟩:=x; exact⟨_,e⟩
 | tup _=>obtain⟨_,_,_,ob,e,_⟩:=x; exact⟨ob,e⟩
 | dK _=>obtain⟨_,_,_,_,ob,_,_,e,_⟩:=x; exact⟨ob,e⟩
 | dT _=>obtain⟨_,_,_,_,ob,_,_,e,_⟩:=x; exact⟨ob,e⟩
 | set _ _=>obtain⟨ob,_,_,_,e,_⟩:=x; exact⟨ob,e⟩
 | ins _ _ _=>obtain⟨_,_,_,e,_⟩:=x; exact⟨_,e⟩
 | own _=>exact x
 | xd _=>obtain⟨_,⟨ob,_,_,e,_⟩,_⟩:=x; exact⟨ob,e⟩
 | met _ _=>exact⟨_,x⟩
 | YG _ _=>obtain⟨_,_,_,e⟩:=x; exact⟨_,e⟩
 | iN _ _=>exact⟨_,x.1⟩
 | TC _=>obtain⟨_,e,_⟩:=x; exact⟨_,e⟩
 | ext _=>exact x.2.1
def MN{P:bE}{w:World}{H:Hp}{h:Heap}{a:Addr}(ok:oE P w H h)(e:h.get? a=none):H a=none:=by
 cases q:H a with
 | none=>rfl
 | some o =>
  obtain⟨ob,z⟩:=kI (ok a o q);rw [e] at z; cases z
theorem Inv.VB{pins:List (Addr×Obj)}{s:ay}{σ:L2.St}{H:Hp}(I:Inv X pins σ H s){h':Heap}{t':Nat}{a:Addr}{o:HO}(k:∀ b o,b≠X.env.locals->s.heap.get? b=some o->h'.get? b=some o)(ns:∀ m',s.heap.Ns X.env.locals m'->h'.Ns X.env.locals m')
  (hp:s.heap.get? a=none) (new:fE X.prog X.w (upd H a o) h' a o):Inv X pins σ (upd H a o) { s with heap:=h',toks:=t' }:=by
 have hn:H a=none:=MN I.b7 hp;have ne:∀ b u,H b=some u->b≠a:=fun b u e=>ez e hn;have nL:∀ b u,H b=some u->b≠X.env.locals:=fun b u e=>ez e I.free;have ht:∀ b u,s.heap.get? b=some u->b≠a:=fun b u e z=>by subst z; rw [hp] at e; cases e
 have thL:∃ o',h'.get? X.env.locals=some o':=by
  obtain⟨m,hm,_⟩:=I.loc;obtain⟨o',_,_,ho,_⟩:=ns m hm;exact⟨o',ho⟩
 refine I.step (g':=s.gens) (d':=s.drawn) (ch:=[]) (fun b hb=>absurd hb (by simp)) (fun b o hL _ _ e _=>k b o hL e) (fun b o hL _ _ e _=>⟨o.slots,k b o hL e⟩) (fun b o _ e n=>by rw [bG (ht b o e)]; exact n)
  (fun b o _ e=>?_) (fun b xs e=>by rw [bG (ne _ _ e)]; exact e) (fun b o u e=>by rw [bG (ne _ _ e)]; exact e) (fun b ps e=>by rw [bG (ne _ _ e)]; exact e) (fun b ps e=>by rw [bG (ne _ _ e)]; exact e) ns (fun b u e=>?_) I.bare
 ·by_cases hb:b=X.env.locals
  ·rw [hb]; exact thL
  ·exact⟨o,k b o hb e⟩
 ·by_cases hb:b=a
  ·subst hb; rw [bU] at e; cases e; exact new
  ·rw [bG hb] at e;refine(I.b7 b u e).jF (fun c v hc r=>k c v ?_ r) (fun c z=>by rw [bG (ne _ _ z)]; exact z) (fun c xs z=>by rw [bG (ne _ _ z)]; exact z);rcases hc with rfl | hc
   ·exact nL _ _ e
   ·exact nL _ _ hc
theorem cy:pW X (jU .Add) gK:=by
 intro pins s σ H G x y dx dy v u Q I ab rx ry dX dY q;have lists:Ft dx dy G Q->wpAny (model X.prog X.w) X.A (jU .Add v u) (r8 X pins σ H G Q) X.xe s:=by
  intro q;unfold Ft at q;split at q
  ·rename_i xs ys e1 e2;obtain⟨hz,q⟩:=q;obtain⟨l,vs,bL,rfl,rv,rs,hl,_⟩:=qW I ab rx dX e1;obtain⟨b,ws,uK,rfl,Ny,IV,hb,_⟩:=qW I ab ry dY e2;obtain⟨m,F0⟩:=I.fr;have hsz:bL.length+uK.length<=a8:=by rw [<-rv.length,<-Ny.length,rs.length,IV.length,cD]; exact hz
   refine PyProof.Rows.add_lists F0 GY hl hb (fun h' F N=>?_) hsz;obtain⟨kk,ns⟩:=xV I F0 F fun p hp=>N p (aG _ hp);have hp:H s.heap.objs.size=none:=I.b7.fresh (aE _);refine⟨.ref s.heap.objs.size,upd H s.heap.objs.size (.lst (vs++ws)),.ref _,_,Inv.VB (t':=s.toks) I kk ns (Tq (aE _)) ?_,.Kd ab hp (rs.append IV),rfl,.ref _,q _ (ab.free hp)⟩;exact⟨by rw [aC,rv.length,Ny.length]; exact hsz,bL++uK,0,rv.append Ny,(N _ bH).1⟩
  ·exact q.elim
 cases dX with
 | int i =>
  cases dY with
  | int j=>exact hU (WY pins s σ H _ _ v u (B1 X.K H G Q) I rx ry ⟨i,j,rfl,rfl,_,_,.refl ab,.int _,q⟩) fun _ _ z=>.of z
  | _=>exact lists q
 | str i =>
  cases dY with
  | str j =>
   obtain⟨hz,q⟩:=q;exact hU (J4 pins s σ H _ _ v u (B1 X.K H G Q) I rx ry ⟨i,j,rfl,rfl,by rw [cD]; exact hz,_,_,.refl ab,.str _,q⟩) fun _ _ z=>.of z
  | _=>exact lists q
 | tup h1 r1 =>
  cases dY with
  | tup h2 r2 =>
   obtain⟨hn,hz,q⟩:=q;refine hU (Ui pins s σ H _ _ v u (B1 X.K H G Q) I rx ry ⟨_,_,_,_,rfl,rfl,.of h1,.of h2,?_,?_,fun e=>?_,fun e p hp=>?_⟩) fun _ _ z=>.of z
   ·rintro rfl; cases r1; exact hn rfl
   ·rw [r1.length,r2.length,cD]; exact hz
   ·subst e;cases r2;rw [cg] at q;exact⟨_,_,.refl ab,.tup h1 r1,q⟩
   ·exact⟨_,_,.MG ab hp,.tup bU ((r1.append r2).mono (.new hp)),q⟩
  | _=>exact lists q
 | ref l=>exact lists (by rw [v8] at q; exact q)
 | dw _ _=>exact lists (by rw [v7] at q; exact q)
 | _=>exact lists (by cases dY <;> exact q)
theorem Mk:pW X (jU .Sub) TM:=by
 intro pins s σ H G x y dx dy v u Q I ab rx ry dX dY q;cases dX with
 | int i =>
  cases dY with
  | int j=>exact hU (WU pins s σ H _ _ v u (B1 X.K H G Q) I rx ry ⟨i,j,rfl,rfl,_,_,.refl ab,.int _,q⟩) fun _ _ z=>.of z
  | _=>exact bI q
 | _=>exact bI q
theorem wb:pW X (jU .Mult) JU:=by
 intro pins s σ H G x y dx dy v u Q I ab rx ry dX dY q;cases dX with
 | int i =>
  cases dY with
  | int j=>exact hU (WV pins s σ H _ _ v u (B1 X.K H G Q) I rx ry ⟨i,j,rfl,rfl,q.1,_,_,.refl ab,.int _,q.2⟩) fun _ _ z=>.of z
  | _=>exact bI q
 | _=>exact bI q
theorem jI:pW X (jU .Mod) sU:=by
 intro pins s σ H G x y dx dy v u Q I ab rx ry dX dY q;cases dX with
 | int i =>
  cases dY with
  | int j=>exact hU (WW pins s σ H _ _ v u (B1 X.K H G Q) I rx ry ⟨i,j,rfl,rfl,q.1,_,_,.refl ab,.int _,q.2⟩) fun _ _ z=>.of z
  | _=>exact bI q
 | _=>exact bI q
theorem AO:pW X (jU .FloorDiv) GF:=by
 intro pins s σ H G x y dx dy v u Q I ab rx ry dX dY q;cases dX with
 | int i =>
  cases dY with
  | int j=>exact hU (Uh pins s σ H _ _ v u (B1 X.K H G Q) I rx ry ⟨i,j,rfl,rfl,⟨q.1,q.2.1⟩,_,_,.refl ab,.int _,q.2.2⟩) fun _ _ z=>.of z
  | _=>exact bI q
 | _=>exact bI q
theorem J7(hu:X.A.units < cLine):pW X (eU .Lt) YK:=by
 intro pins s σ H G x y dx dy v u Q I ab rx ry dX dY q;cases dX with
 | int i =>
  cases dY with
  | int j=>exact hU (YT pins s σ H _ _ v u (B1 X.K H G Q) I rx ry ⟨i,j,rfl,rfl,_,_,.refl ab,.bl _,q⟩) fun _ _ z=>.of z
  | _=>exact bI q
 | tup h1 r1 =>
  cases dY with
  | tup h2 r2 =>
   obtain⟨xs,ys,e1,e2,q⟩:=q;subst e1 e2;have z1:=r1.ints;have z2:=r2.ints;subst z1 z2;have el:∀ xs ys:List Int,HT.lexLt xs ys=K2.lexLt xs ys:=by
    intro xs;induction xs with
    | nil=>intro ys; cases ys <;> rfl
    | cons x xs ih=>intro ys; cases ys with
     | nil=>rfl
     | cons y ys=>unfold HT.lexLt K2.lexLt; rw [ih]
   exact hU (WX hu pins s σ H _ _ v u (B1 X.K H G Q) I rx ry ⟨_,_,xs,ys,rfl,rfl,.of h1,.of h2,_,_,.refl ab,.bl _,by rw [el]; exact q⟩) fun _ _ z=>.of z
  | _=>exact bI q
 | _=>exact bI q
theorem xQ:pW X (eU .Gt) Vo:=by
 intro pins s σ H G x y dx dy v u Q I ab rx ry dX dY q;cases dX with
 | int i =>
  cases dY with
  | int j=>exact hU (YU pins s σ H _ _ v u (B1 X.K H G Q) I rx ry ⟨i,j,rfl,rfl,_,_,.refl ab,.bl _,q⟩) fun _ _ z=>.of z
  | _=>exact bI q
 | _=>exact bI q
mutual
def pd:D->PyData
 | .eT=>.none
 | .bl b=>.bool b
 | .int i=>.int i
 | .str x=>.str x
 | .tup ds=>.tuple (mR ds)
 | .dw ds=>.list (mR ds)
 | .kH _=>.none
 | .exc _=>.none
 | .Dp _ _ _=>.none
 | .pj _=>.none
 | .ref _=>.none
def mR:List D->List PyData
 | []=>[]
 | d :: r=>pd d :: mR r
end
mutual
theorem vk:∀ (s t:D),nr s=true->nr t=true->rW (pd s) (pd t)=iM s t
 | .eT,t,_,ht=>by cases t <;> first | rfl | (exact bg (show false=true from ht))
 | .bl a,t,_,ht=>by cases t <;> first | rfl | (exact bg (show false=true from ht))
 | .int a,t,_,ht=>by cases t <;> first | rfl | (exact bg (show false=true from ht))
 | .str a,t,_,ht=>by cases t <;> first | rfl | (exact bg (show false=true from ht))
 | .tup a,t,hs,ht=>by
  cases t with
  | tup b=>exact ET a b hs ht
  | ref _=>exact bg (show false=true from ht)
  | exc _=>exact bg (show false=true from ht)
  | Dp _ _ _=>exact bg (show false=true from ht)
  | pj _=>exact bg (show false=true from ht)
  | kH _=>exact bg (show false=true from ht)
  | _=>rfl
 | .dw a,t,hs,ht=>by
  cases t with
  | dw b=>exact ET a b hs ht
  | ref _=>exact bg (show false=true from ht)
  | exc _=>exact bg (show false=true from ht)
  | Dp _ _ _=>exact bg (show false=true from ht)
  | pj _=>exact bg (show false=true from ht)
  | kH _=>exact bg (show false=true from ht)
  | _=>rfl
 | .ref _,_,hs,_=>bg (show false=true from hs)
 | .exc _,_,hs,_=>bg (show false=true from hs)
 | .Dp _ _ _,_,hs,_=>bg (show false=true from hs)
 | .pj _,_,hs,_=>bg (show false=true from hs)
 | .kH _,_,hs,_=>bg (show false=true from hs)
theorem ET:∀ (s t:List D),rq s=true->rq t=true->PyData.eqvAll (mR s) (mR t)=md s t
 | [],[],_,_=>rfl
 | [],_ :: _,_,_=>rfl
 | _ :: _,[],_,_=>rfl
 | a :: r,b :: t,hs,ht=>by
  have Ce:nr a=true/\rq r=true:=(kN).mp hs;have Ye:nr b=true/\rq t=true:=(kN).mp ht;show (rW (pd a) (pd b)&&PyData.eqvAll (mR r) (mR t))=(iM a b&&md r t);rw [vk a b Ce.1 Ye.1,ET r t Ce.2 Ye.2]
end
mutual
theorem k7:∀ (s:D),nr s=true->(pd s).canLay0=true
 | .eT,_=>rfl
 | .bl a,_=>rfl
 | .int a,_=>rfl
 | .str a,h=>h
 | .tup a,h=>wA a h
 | .dw a,h=>wA a h
 | .exc _,_=>rfl
 | .Dp _ _ _,_=>rfl
 | .pj _,_=>rfl
 | .ref _,_=>rfl
 | .kH _,_=>rfl
theorem wA:∀ (s:List D),rq s=true->PyData.canLayAll0 (mR s)=true
 | [],_=>rfl
 | a :: r,h=>by
  have h':nr a=true/\rq r=true:=(kN).mp h;show ((pd a).canLay0&&PyData.canLayAll0 (mR r))=true;rw [k7 a h'.1,wA r h'.2]; rfl
end
theorem Bs{G:Gp}{n:Nat}{d t:D}(h:Sn G n d t):(pd t).depth<=n:=by
 induction h with
 | eT=>exact cw _
 | bl b=>exact cw _
 | int i=>exact cw _
 | str x h=>exact cw _
 | JJ=>exact vC (cw _)
 | sF _ _ Ro Rm =>
  exact vC (Nat.max_le.mpr ⟨Ro,vJ Rm⟩)
 | Ea=>exact vC (cw _)
 | uT _ _ Ro Rm =>
  exact vC (Nat.max_le.mpr ⟨Ro,vJ Rm⟩)
 | ref _ _ ih=>exact ih
theorem ic{pins:List (Addr×Obj)}{σ:L2.St}{H:Hp}{s:ay}{G:Gp}(I:Inv X pins σ H s)(ab:kK X.K H G){n:Nat}{d t:D}(h:Sn G n d t) :
  (∀ v u,bX X.K H v d->RelV v u->∃ as,Reads s.heap u (pd t) as) /\
  (∀ ds ss,(d=.dw ds/\t=.dw ss)\/(d=.tup ds/\t=.tup ss)->∀ vs us,ba X.K H vs ds->Vals vs us->∃ as,iu s.heap us (mR ss) as):=by
 have Vf:∀ {ds ss:List D},(∀ vs us,ba X.K H vs ds->Vals vs us->∃ as,iu s.heap us (mR ss) as)->∀ v u,bX X.K H v (.tup ds)->RelV v u->∃ as,Reads s.heap u (pd (.tup ss)) as:=by
  intro ds ss k v u r ru;cases r with
  | tup hq rs =>
   cases ru;obtain⟨bL,rv,⟨o,ho,hc,n,hd⟩,hz⟩:=I.tuple (.of hq);obtain⟨as,ra⟩:=k _ bL rs rv;exact⟨as,.tuple ho hc hd (by simpa using ra)⟩
 have Vj:∀ {ds ss:List D},(∀ vs us,ba X.K H vs ds->Vals vs us->∃ as,iu s.heap us (mR ss) as)->∀ v u,bX X.K H v (.dw ds)->RelV v u->∃ as,Reads s.heap u (pd (.dw ss)) as:=by
  intro ds ss k v u r ru;cases r with
  | dw hq rs =>
   cases ru;obtain⟨bL,rv,pl,hz⟩:=I.list hq.sq;obtain⟨o,ho,hc,n,hd⟩:=pl.isList;obtain⟨as,ra⟩:=k _ bL rs rv;exact⟨_,.list ho hc hd (by simpa using ra)⟩
 induction h with
 | eT=>exact⟨fun v u r ru=>by cases r; cases ru; exact⟨_,.none⟩,fun ds ss e=>by rcases e with ⟨e,_⟩ | ⟨e,_⟩ <;> cases e⟩
 | bl b=>exact⟨fun v u r ru=>by cases r; cases ru; exact⟨_,.bool b⟩,fun ds ss e=>by rcases e with ⟨e,_⟩ | ⟨e,_⟩ <;> cases e⟩
 | int i=>exact⟨fun v u r ru=>by cases r; obtain⟨t,rfl⟩:=ru; exact⟨_,.int i t⟩,fun ds ss e=>by rcases e with ⟨e,_⟩ | ⟨e,_⟩ <;> cases e⟩
 | str x hx=>exact⟨fun v u r ru=>by cases r; obtain⟨t,rfl⟩:=ru; exact⟨_,.str x t⟩,fun ds ss e=>by rcases e with ⟨e,_⟩ | ⟨e,_⟩ <;> cases e⟩
 | JJ =>
  have k:∀ vs us,ba X.K H vs []->Vals vs us->∃ as,iu s.heap us (mR []) as:=fun vs us r ru=>by
   have e:=r.zero;subst e;cases ru;exact⟨_,.nil⟩
  refine⟨Vf k,fun ds ss e=>?_⟩;rcases e with ⟨e,_⟩ | ⟨e,e2⟩
  ·cases e
  ·cases e; cases e2; exact k
 | sF h1 h2 Ro Rm =>
  have k2:=Rm.2 _ _ (.inr ⟨rfl,rfl⟩);have k:∀ vs us,ba X.K H vs (_ :: _)->Vals vs us->∃ as,iu s.heap us (mR (_ :: _)) as:=fun vs us r ru=>by
   cases r with
   | cons r1 r2 =>
    cases ru with
    | cons u1 u2 =>
     obtain⟨as,ra⟩:=Ro.1 _ _ r1 u1;obtain⟨bs,rb⟩:=k2 _ _ r2 u2;exact⟨_,.cons ra rb⟩
  refine⟨Vf k,fun ds ss e=>?_⟩;rcases e with ⟨e,_⟩ | ⟨e,e2⟩
  ·cases e
  ·cases e; cases e2; exact k
 | Ea =>
  have k:∀ vs us,ba X.K H vs []->Vals vs us->∃ as,iu s.heap us (mR []) as:=fun vs us r ru=>by
   have e:=r.zero;subst e;cases ru;exact⟨_,.nil⟩
  refine⟨Vj k,fun ds ss e=>?_⟩;rcases e with ⟨e,e2⟩ | ⟨e,_⟩
  ·cases e; cases e2; exact k
  ·cases e
 | uT h1 h2 Ro Rm =>
  have k2:=Rm.2 _ _ (.inl ⟨rfl,rfl⟩);have k:∀ vs us,ba X.K H vs (_ :: _)->Vals vs us->∃ as,iu s.heap us (mR (_ :: _)) as:=fun vs us r ru=>by
   cases r with
   | cons r1 r2 =>
    cases ru with
    | cons u1 u2 =>
     obtain⟨as,ra⟩:=Ro.1 _ _ r1 u1;obtain⟨bs,rb⟩:=k2 _ _ r2 u2;exact⟨_,.cons ra rb⟩
  refine⟨Vj k,fun ds ss e=>?_⟩;rcases e with ⟨e,e2⟩ | ⟨e,_⟩
  ·cases e; cases e2; exact k
  ·cases e
 | ref hg h1 ih =>
  refine⟨fun v u r ru=>?_,fun ds ss e=>by rcases e with ⟨e,_⟩ | ⟨e,_⟩ <;> cases e⟩;cases r;cases ru;obtain⟨vs,hv,rs⟩:=ab.lst hg;obtain⟨bL,rv,pl,hz⟩:=I.list (.of hv);obtain⟨o,ho,hc,n,hd⟩:=pl.isList;obtain⟨as,ra⟩:=ih.2 _ _ (.inl ⟨rfl,rfl⟩) vs bL rs rv;exact⟨_,.list ho hc hd (by simpa using ra)⟩
theorem o4(hu:X.A.units+64 < cLine):pW X (eU .Eq) (JW false):=by
 intro pins s σ H G x y dx dy v u Q I ab rx ry dX dY q;obtain⟨a,b,sa,sb,q⟩:=q;obtain⟨as,ra⟩:=(ic I ab sa).1 x v dX rx;obtain⟨bs,rb⟩:=(ic I ab sb).1 y u dY ry;have d1:=Bs sa;refine SeqAt.compareEq_reads ra rb (k7 _ sa.nr) (k7 _ sb.nr) (by unfold SN at d1; lia) ?_;rw [vk _ _ sa.nr sb.nr];exact⟨.bl _,H,.bl _,G,I,.refl ab,rfl,.bl _,q⟩
theorem Em(hu:X.A.units+64 < cLine):pW X (eU .NotEq) (JW true):=by
 intro pins s σ H G x y dx dy v u Q I ab rx ry dX dY q;obtain⟨a,b,sa,sb,q⟩:=q;obtain⟨as,ra⟩:=(ic I ab sa).1 x v dX rx;obtain⟨bs,rb⟩:=(ic I ab sb).1 y u dY ry;have d1:=Bs sa;refine SeqAt.compareNe_reads ra rb (k7 _ sa.nr) (k7 _ sb.nr) (by unfold SN at d1; lia) ?_;rw [vk _ _ sa.nr sb.nr];exact⟨.bl _,H,.bl _,G,I,.refl ab,rfl,.bl _,q⟩
end
theorem wV(j k:Key):iM (eV j) (eV k)=decide (j=k):=by
 cases j with
 | inl a=>cases k with
  | inl b=>rw [Q4]; rfl
  | inr b=>exact(decide_eq_false (fun z=>nomatch z)).symm
 | inr a=>cases k with
  | inl b=>exact(decide_eq_false (fun z=>nomatch z)).symm
  | inr b=>rw [Q3]; exact(S0 a b)
theorem Dq:∀ (js ks:List Key),md (js.map eV) (ks.map eV)=decide (js=ks)
 | [],[]=>(decide_eq_true rfl).symm
 | [],_ :: _=>(decide_eq_false (fun z=>nomatch z)).symm
 | _ :: _,[]=>(decide_eq_false (fun z=>nomatch z)).symm
 | j :: js,k :: ks=>by
  show (iM (eV j) (eV k)&&md (js.map eV) (ks.map eV))=_;rw [wV,Dq js ks,Ib]
def tF(js ks:List Key):iM (.tup (js.map eV)) (.tup (ks.map eV))=decide (js=ks):=by
 exact Dq js ks
section
variable {K:aj} {H:Hp}
def wD{d:D}(h:di d=true):∃ k:Key,d=eV k:=by
 cases d with
 | int i=>exact⟨.inl i,rfl⟩
 | str x=>exact⟨.inr x,rfl⟩
 | _=>exact absurd h (by simp [di])
def Ms:∀ {ds:List D},ds.all di=true->∃ ks:List Key,ds=ks.map eV
 | [],_=>⟨[],rfl⟩
 | d :: r,h=>by
  rw [mF,aJ] at h;obtain⟨k,rfl⟩:=wD h.1;obtain⟨ks,rfl⟩:=Ms h.2;exact⟨k :: ks,rfl⟩
def Mt{d:D}(h:lJ d=true):∃ ks:List Key,d=.tup (ks.map eV):=by
 cases d with
 | tup ds=>obtain⟨ks,rfl⟩:=Ms (ds:=ds) h; exact⟨ks,rfl⟩
 | _=>exact absurd h (by simp [lJ])
def vS{v:V}{k:Key}(r:bX K H v (eV k)):v=kV k:=by
 cases k with
 | inl i=>cases r; rfl
 | inr x=>cases r; rfl
def Gu:∀ {vs:List V} {ks:List Key},ba K H vs (ks.map eV)->vs=ks.map kV
 | _,[],r=>r.zero
 | _,k :: ks,r=>by
  rw [ak] at r;cases r with
  | cons r1 r2=>rw [vS r1,Gu r2]; rfl
def Gw{v:V}{ks:List Key}(r:bX K H v (.tup (ks.map eV))):∃ b,v=.ref b/\H b=some (.tup (ks.map kV)):=by
 cases r with
 | tup h rs=>have e:=Gu rs; subst e; exact⟨_,rfl,h⟩
theorem mr.look{kv:List (Key×V)}{kvs:List (D×D)}(r:mr K H kv kvs)(k:Key):(∃ v d,mY kv k=some v/\K2.look kvs (eV k)=some d/\bX K H v d)\/(mY kv k=none/\K2.look kvs (eV k)=none):=by
 induction r using mr.ind with
 | nil=>exact .inr ⟨rfl,rfl⟩
 | @cons j v d r t rd rs ih =>
  by_cases e:j=k
  ·left;refine⟨v,d,sC (p:=(j,v)) e,?_,rd⟩;unfold K2.look;rw [ck (by show iM (eV j) (eV k)=true; rw [wV]; exact decide_eq_true e)]; rfl
  ·have e1:mY ((j,v) :: r) k=mY r k:=sD (p:=(j,v)) e;have e2:K2.look ((eV j,d) :: t) (eV k)=K2.look t (eV k):=by
    unfold K2.look;rw [cm (by show ¬ iM (eV j) (eV k)=true; rw [wV]; simpa using e)]
   rw [e1,e2];exact ih
theorem mV.look{kv:List (List Key×V)}{kvs:List (D×D)}(r:mV K H kv kvs)(k:List Key):(∃ v d,mY kv k=some v/\K2.look kvs (.tup (k.map eV))=some d/\bX K H v d)\/(mY kv k=none/\K2.look kvs (.tup (k.map eV))=none):=by
 induction r using mV.ind with
 | nil=>exact .inr ⟨rfl,rfl⟩
 | @cons j v d r t rd rs ih =>
  by_cases e:j=k
  ·left;refine⟨v,d,sC (p:=(j,v)) e,?_,rd⟩;unfold K2.look;rw [ck (by show iM (.tup (j.map eV)) (.tup (k.map eV))=true; rw [tF]; exact decide_eq_true e)]; rfl
  ·have e1:mY ((j,v) :: r) k=mY r k:=sD (p:=(j,v)) e;have e2:K2.look ((.tup (j.map eV),d) :: t) (.tup (k.map eV))=K2.look t (.tup (k.map eV)):=by
    unfold K2.look;rw [cm (by show ¬ iM (.tup (j.map eV)) (.tup (k.map eV))=true; rw [tF]; simpa using e)]
   rw [e1,e2];exact ih
theorem mr.any{kv:List (Key×V)}{kvs:List (D×D)}(r:mr K H kv kvs)(k:Key):(kv.any fun p=>decide (p.1=k))=kvs.any fun p=>iM p.1 (eV k):=by
 induction r using mr.ind with
 | nil=>rfl
 | @cons j v d r t rd rs ih=>simp only [mE]; rw [ih,wV]
theorem mV.any{kv:List (List Key×V)}{kvs:List (D×D)}(r:mV K H kv kvs)(k:List Key):(kv.any fun p=>decide (p.1=k))=kvs.any fun p=>iM p.1 (.tup (k.map eV)):=by
 induction r using mV.ind with
 | nil=>rfl
 | @cons j v d r t rd rs ih=>simp only [mE]; rw [ih,tF]
theorem mr.put{kv:List (Key×V)}{kvs:List (D×D)}(r:mr K H kv kvs)(k:Key){v:V}{d:D}(rd:bX K H v d):mr K H (putK kv k v) (K2.put kvs (eV k) d):=by
 unfold putK K2.put;rw [r.any k];by_cases h:(kvs.any fun p=>iM p.1 (eV k))=true
 ·rw [if_pos h,if_pos h];clear h;induction r using mr.ind with
  | nil=>exact .nil
  | @cons j w e r t re rs ih =>
   simp only [ak];rw [wV];by_cases e:j=k
   ·simp only [e,if_true,decide_true]; exact .cons rd ih
   ·simp only [e,if_false,decide_false,au]; exact .cons re ih
 ·rw [if_neg h,if_neg h];clear h;induction r using mr.ind with
  | nil=>exact .cons rd .nil
  | cons re rs ih=>exact .cons re ih
theorem mV.put{kv:List (List Key×V)}{kvs:List (D×D)}(r:mV K H kv kvs)(k:List Key){v:V}{d:D}(rd:bX K H v d):mV K H (putK kv k v) (K2.put kvs (.tup (k.map eV)) d):=by
 unfold putK K2.put;rw [r.any k];by_cases h:(kvs.any fun p=>iM p.1 (.tup (k.map eV)))=true
 ·rw [if_pos h,if_pos h];clear h;induction r using mV.ind with
  | nil=>exact .nil
  | @cons j w e r t re rs ih =>
   simp only [ak];rw [tF];by_cases e:j=k
   ·simp only [e,if_true,decide_true]; exact .cons rd ih
   ·simp only [e,if_false,decide_false,au]; exact .cons re ih
 ·rw [if_neg h,if_neg h];clear h;induction r using mV.ind with
  | nil=>exact .cons rd .nil
  | cons re rs ih=>exact .cons re ih
end
theorem Kp.putD{H:Hp}{p:Addr}{o o':HO}(hp:H p=some o)(h:(∃ k,o=.dK k)\/∃ k,o=.dT k):Kp H (upd H p o') :=
 ⟨fun a ys e=>by rw [bG (by rintro rfl; rw [hp] at e; rcases h with ⟨_,rfl⟩ | ⟨_,rfl⟩ <;> cases e)]; exact e,fun a ob u e=>by rw [bG (by rintro rfl; rw [hp] at e; rcases h with ⟨_,rfl⟩ | ⟨_,rfl⟩ <;> cases e)]; exact e⟩
section
variable {X:Cx} {pins:List (Addr×Obj)} {σ:L2.St} {H:Hp} {s:ay} {G:Gp} {a:Addr} {kvs:List (D×D)} {k:D} {y:V}
theorem toT(I:Inv X pins σ H s)(e:H a=some (.dK [])):Inv X pins σ (upd H a (.dT [])) s:=by
 obtain⟨z,hd,vs,rel,dd⟩:=Dw I.b7 e;have hv:vs=[]:=by cases rel; rfl
 subst hv;obtain⟨o,es,ep,ho,hx,BZ,hko,hl,nd⟩:=dd;have he:es=#[]:=by
  cases hq:es.toList with
  | nil=>simpa using hq
  | cons _ _=>rw [hq] at hl; cases hl
 subst he;exact I.write (h':=s.heap) (t':=s.toks) (x:=a) (e:=a) (by rw [e]; exact gf) (.inl rfl) (fun b u _ q=>q) ⟨o,ho⟩ ⟨cw _,hd,[],.nil,o,#[],ep,ho,hx,BZ,rfl,cj⟩
theorem toK(I:Inv X pins σ H s)(e:H a=some (.dT [])):Inv X pins σ (upd H a (.dK [])) s:=by
 obtain⟨z,hd,xs,rel,o,es,ep,ho,hx,BZ,hl,nd⟩:=I.b7 a _ e;have hv:xs=[]:=by cases rel; rfl
 subst hv;have he:es=#[]:=by simpa using hl
 subst he;exact I.write (h':=s.heap) (t':=s.toks) (x:=a) (e:=a) (by rw [e]; exact gf) (.inl rfl) (fun b u _ q=>q) ⟨o,ho⟩ ⟨cw _,hd,[],.nil,o,#[],ep,ho,hx,BZ,(fun _ h=>by simp at h),.nil,cj⟩
theorem Mo{o:HO}(ab:kK X.K H G)(hg:G a=some (.fU kvs))(k:Kp H (upd H a o))(ho:Jb X.K (upd H a o) a (.fU kvs)):Mv X.K H G (upd H a o) G:=by
 have m:=Mv.put ab hg k ho;have e:eL G a (.fU kvs)=G:=by
  funext b; unfold eL; split
  ·rename_i z; rw [z,hg]
  ·rfl
 rw [e] at m;exact m
theorem E3(I:Inv X pins σ H s)(ab:kK X.K H G)(hg:G a=some (.fU kvs))(hk:ig kvs k=true)(ry:bX X.K H y k) :
  ∃ H',Inv X pins σ H' s/\Mv X.K H G H' G/\((∃ (kv:List (Key×V)) (kk:Key),H' a=some (.dK kv)/\mr X.K H' kv kvs/\k=eV kk/\y=kV kk)\/∃ (kv:List (List Key×V)) (kk:List Key) (b:Addr),H' a=some (.dT kv)/\mV X.K H' kv kvs/\k=.tup (kk.map eV)/\y=.ref b/\H' b=some (.tup (kk.map kV))):=by
 unfold ig at hk;rw [iU,aJ,aJ] at hk;rcases hk with ⟨h1,h2⟩ | ⟨h1,h2⟩
 ·obtain⟨kk,rfl⟩:=wD h1;have ey:=vS ry;subst ey;rcases ab a _ hg with ⟨kv,hv,rs⟩ | ⟨kv,hv,rs⟩
  ·exact⟨H,I,.refl ab,.inl ⟨kv,kk,hv,rs,rfl,rfl⟩⟩
  ·cases rs with
   | nil =>
    refine⟨_,toK I hv,Mo ab hg (.putD hv (.inr ⟨_,rfl⟩)) (.inl ⟨[],bU,.nil⟩),.inl ⟨[],kk,bU,.nil,rfl,rfl⟩⟩
   | cons _ _=>simp [di] at h2
 ·obtain⟨kk,rfl⟩:=Mt h1;obtain⟨b,rfl,hb⟩:=Gw ry;rcases ab a _ hg with ⟨kv,hv,rs⟩ | ⟨kv,hv,rs⟩
  ·cases rs with
   | nil =>
    have kp:Kp H (upd H a (.dT [])):=.putD hv (.inl ⟨_,rfl⟩);exact⟨_,toT I hv,Mo ab hg kp (.inr ⟨[],bU,.nil⟩),.inr ⟨[],kk,b,bU,.nil,rfl,rfl,kp.tup _ _ hb⟩⟩
   | @cons j _ _ _ _ _ _=>cases j <;> simp [eV,lJ] at h2
  ·exact⟨H,I,.refl ab,.inr ⟨kv,kk,b,hv,rs,rfl,rfl,hb⟩⟩
theorem Ia(I:Inv X pins σ H s)(ab:kK X.K H G)(hg:G a=some (.fU kvs))(hk:ig kvs k=true)(ry:bX X.K H y k) :
  ∃ H' o,Inv X pins σ H' s/\Mv X.K H G H' G/\BR H' a y o/\o.isSome=(look kvs k).isSome/\∀ d,look kvs k=some d->∃ v,o=some v/\bX X.K H' v d:=by
 obtain⟨H',I',m,h⟩:=E3 I ab hg hk ry;rcases h with ⟨kv,kk,hv,rs,rfl,rfl⟩ | ⟨kv,kk,b,hv,rs,rfl,rfl,hb⟩
 ·refine⟨H',mY kv kk,I',m,.k hv,?_,fun d hd=>?_⟩
  ·rcases rs.look kk with ⟨v,d,e1,e2,_⟩ | ⟨e1,e2⟩ <;> rw [e1,e2] <;> rfl
  ·rcases rs.look kk with ⟨v,d',e1,e2,r⟩ | ⟨e1,e2⟩
   ·rw [e2] at hd; cases hd; exact⟨v,e1,r⟩
   ·rw [e2] at hd; cases hd
 ·refine⟨H',mY kv kk,I',m,.t hv hb,?_,fun d hd=>?_⟩
  ·rcases rs.look kk with ⟨v,d,e1,e2,_⟩ | ⟨e1,e2⟩ <;> rw [e1,e2] <;> rfl
  ·rcases rs.look kk with ⟨v,d',e1,e2,r⟩ | ⟨e1,e2⟩
   ·rw [e2] at hd; cases hd; exact⟨v,e1,r⟩
   ·rw [e2] at hd; cases hd
theorem D9{x:V}(I:Inv X pins σ H s)(rd:bX X.K H x (.kH kvs))(hk:ig kvs k=true)(ry:bX X.K H y k) :
  ∃ a o,x=.ref a/\(kvs=[]\/BR H a y o)/\o.isSome=(look kvs k).isSome/\∀ d,look kvs k=some d->∃ v,o=some v/\bX X.K H v d:=by
 unfold ig at hk;rw [iU,aJ,aJ] at hk;cases rd with
 | oC h rs =>
  rename_i a ob kv;rcases hk with ⟨h1,h2⟩ | ⟨h1,h2⟩
  ·obtain⟨kk,rfl⟩:=wD h1;have ey:=vS ry;subst ey;refine⟨a,mY kv kk,rfl,.inr (.inl ⟨kv,kk,.inr ⟨_,h⟩,rfl,rfl⟩),?_,fun d hd=>?_⟩
   ·rcases rs.look kk with ⟨v,d,e1,e2,_⟩ | ⟨e1,e2⟩ <;> rw [e1,e2] <;> rfl
   ·rcases rs.look kk with ⟨v,d',e1,e2,r⟩ | ⟨e1,e2⟩
    ·rw [e2] at hd; cases hd; exact⟨v,e1,r⟩
    ·rw [e2] at hd; cases hd
  ·cases rs with
   | nil=>exact⟨a,none,rfl,.inl rfl,rfl,fun d hd=>by cases hd⟩
   | cons _ _ =>
    rename_i kx _ _ _ _ _ _;rw [mF,aJ] at h2;cases kx <;> exact absurd h2.1 (by simp [eV,lJ])
 | oB h rs =>
  rename_i a ob kv;rcases hk with ⟨h1,h2⟩ | ⟨h1,h2⟩
  ·cases rs with
   | nil=>exact⟨a,none,rfl,.inl rfl,rfl,fun d hd=>by cases hd⟩
   | cons _ _ =>
    rw [mF,aJ] at h2;exact absurd h2.1 (by simp [di])
  ·obtain⟨kk,rfl⟩:=Mt h1;obtain⟨b,rfl,hb⟩:=Gw ry;refine⟨a,mY kv kk,rfl,.inr (.inr ⟨kv,kk,b,.inr ⟨_,h⟩,rfl,hb,rfl⟩),?_,fun d hd=>?_⟩
   ·rcases rs.look kk with ⟨v,d,e1,e2,_⟩ | ⟨e1,e2⟩ <;> rw [e1,e2] <;> rfl
   ·rcases rs.look kk with ⟨v,d',e1,e2,r⟩ | ⟨e1,e2⟩
    ·rw [e2] at hd; cases hd; exact⟨v,e1,r⟩
    ·rw [e2] at hd; cases hd
theorem R0{v:V}{d:D}(I:Inv X pins σ H s)(ab:kK X.K H G)(hg:G a=some (.fU kvs))(hk:ig kvs k=true)(hz:kvs.length < SZ)(ry:bX X.K H y k)(rv:bX X.K H v d) :
  ∃ H' H'',Inv X pins σ H' s/\OX H' a y v H''/\Mv X.K H G H'' (eL G a (.fU (put kvs k d))):=by
 obtain⟨H',I',m,h⟩:=E3 I ab hg hk ry;have rv':=rv.mono (m.kp ab);have sz:a8=16777216:=cD;rcases h with ⟨kv,kk,hv,rs,rfl,rfl⟩ | ⟨kv,kk,b,hv,rs,rfl,rfl,hb⟩
 ·have kp:Kp H' (upd H' a (.dK (putK kv kk v))):=.putD hv (.inl ⟨_,rfl⟩);exact⟨H',_,I',.k hv (by rw [rs.length,sz]; exact hz),m.trans (.put m.ab hg kp (.inl ⟨_,bU,(rs.put kk rv').mono kp⟩))⟩
 ·have kp:Kp H' (upd H' a (.dT (putK kv kk v))):=.putD hv (.inr ⟨_,rfl⟩);exact⟨H',_,I',.t hv hb (by rw [rs.length,sz]; exact hz),m.trans (.put m.ab hg kp (.inr ⟨_,bU,(rs.put kk rv').mono kp⟩))⟩
end
section
variable {X:Cx} {a b c e:Expr} {es:List Expr} {ta tb tc te:gq} {t:BF} {pos p p2 apos mi:Pos} {x:Str}
def o3{k:Bool}{j}:gG X (.Constant (.bool k) j pos) (dC (.bl k)):=ub YS fun _ _=>.bl k
def Ub{y:Str}{j}:gG X (.Constant (.str y) j pos) (dC (.str y)):=ub WN fun _ _=>.str y
def xM{st:Stmt}:FN X st E6:=fun _ _ _ _ _ _ _ _ _ _ h=>h.elim
theorem Tv:Z2 X (unaryOp .USub) WC:=by
 intro pins s σ H G x dx v Q I ab rx dX q;cases dX with
 | int i=>exact hU (Wg pins s σ H _ v (B1 X.K H G Q) I rx ⟨i,rfl,_,_,.refl ab,.int _,q⟩) fun _ _ z=>.of z
 | _=>exact bI q
theorem cI(hu:X.A.units+64 < cLine)(ha:gG X a ta)(hb:gG X b tb)(hs:U7 b):gG X (.Subscript a b pos) (aX j6 ta tb):=by
 intro E pins s σ H τ G Q hE I h;refine Subscript_ (Sq ha hb hE I h fun v u s2 x y dx dy H2 G2 J m rx ry dX dY q=>?_);have fin:∀ {rb:R2},IxR X rb->rb x y H2 (B1 X.K H2 G2 Q)->wpAny (model X.prog X.w) X.A (subscriptTail a b v u) (r8 X pins σ H G Q) X.xe s2:=fun hr hq =>
  hU (hr a b pins s2 σ H2 x y v u _ J.inv rx ry hq (hs _ _)) fun _ _ z=>(r8.of z).trans m
 cases dX with
 | tup hq rs =>
  cases dY with
  | int i =>
   rw [iS] at q;split at q
   ·rename_i d hd;obtain⟨w,hw,rQ⟩:=rs.rZ hd;exact fin Xh ⟨_,_,i,w,rfl,rfl,.of hq,hw,d,G2,.refl J.ab,rQ,q⟩
   ·exact q.elim
  | _=>exact bI q
 | dw hq rs =>
  cases dY with
  | int i =>
   rw [sV] at q;split at q
   ·rename_i d hd;obtain⟨w,hw,rQ⟩:=rs.rZ hd;exact fin Mx ⟨_,_,i,w,rfl,rfl,hq.sq,hw,d,G2,.refl J.ab,rQ,q⟩
   ·exact q.elim
  | _=>exact bI q
 | oC h rs =>
  rw [v5] at q;obtain⟨hk,q⟩:=q;split at q
  ·rename_i d hd;obtain⟨a',o,ea,g,_,hv⟩:=D9 J.inv (.oC h rs) hk dY;obtain⟨w,rfl,rQ⟩:=hv d hd;cases ea;rcases g with rfl | g
   ·cases hd
   ·cases rx;exact tail_any (tH J.inv g) PySem.F.slot_dict_getitem.lookup (yg (by lia) J.inv g ry fun w' s3 I4 rv=>⟨w,H2,d,G2,I4,m,rv,rQ,q⟩) (hs _ _)
  ·exact q.elim
 | oB h rs =>
  rw [v5] at q;obtain⟨hk,q⟩:=q;split at q
  ·rename_i d hd;obtain⟨a',o,ea,g,_,hv⟩:=D9 J.inv (.oB h rs) hk dY;obtain⟨w,rfl,rQ⟩:=hv d hd;cases ea;rcases g with rfl | g
   ·cases hd
   ·cases rx;exact tail_any (tH J.inv g) PySem.F.slot_dict_getitem.lookup (yg (by lia) J.inv g ry fun w' s3 I4 rv=>⟨w,H2,d,G2,I4,m,rv,rQ,q⟩) (hs _ _)
  ·exact q.elim
 | ref l =>
  rw [L7] at q;split at q
  ·rename_i ds hl;obtain⟨vs,hv,rs⟩:=J.ab.lst hl;cases dY with
   | int i =>
    dsimp only at q;split at q
    ·rename_i d hd;obtain⟨w,hw,rQ⟩:=rs.rZ hd;exact fin Mx ⟨_,_,i,w,rfl,rfl,.of hv,hw,d,G2,.refl J.ab,rQ,q⟩
    ·exact q.elim
   | _=>exact bI q
  ·rename_i kvs hl;obtain⟨hk,q⟩:=q;split at q
   ·rename_i d hd;obtain⟨H3,o,I3,m3,g,_,hv⟩:=Ia J.inv J.ab hl hk dY;obtain⟨w,rfl,rQ⟩:=hv d hd;cases rx;exact tail_any (tH I3 g) PySem.F.slot_dict_getitem.lookup (yg (by lia) I3 g ry fun w' s3 I4 rv=>⟨w,H3,d,G2,I4,m.trans m3,rv,rQ,q⟩) (hs _ _)
   ·exact q.elim
  ·exact q.elim
 | _=>exact bI q
def PO2(X:Cx)(e:Option Expr)(t:Z4):Prop :=
 ∀ (E:lM) (pins:List (Addr×Obj)) (s:ay) (σ:L2.St) (H:Hp) (τ:iO) (G:Gp) (Q:Option Int->Gp->Prop),Lk X E->I2 X pins σ H τ G s->t E τ G Q ->
  wpAny (model X.prog X.w) X.A (evalPart e X.env) (fun u s'=>∃ o H' G',Inv X pins σ H' s'/\Mv X.K H G H' G'/\IsPart u o/\Q o G') X.xe s
def kc:PO2 X none gI:=by
 intro E pins s σ H τ G Q hE I h;rw [evalPart_none];exact aA ⟨none,H,G,I.inv,.refl I.ab,.none,h⟩
theorem gT(h:gG X e te):PO2 X (some e) (mU te):=by
 intro E pins s σ H τ G Q hE I hw;rw [evalPart_some];refine j8 h hE I hw fun x H1 d G1 u s1 I1 m1 r1 j5 q1=>?_;cases j5 with
 | int i =>
  obtain⟨t,rfl⟩:=r1;exact⟨some i,H1,G1,I1.inv,m1,.int i t,q1⟩
 | _=>exact bI q1
theorem gP{lo hi:Option Expr}{tl th:Z4}(he:gG X a ta)(hl:PO2 X lo tl)(hu:PO2 X hi th):gG X (.Subscript a (.Slice lo hi none p2) pos) (Ck ta tl th):=by
 intro E pins s σ H τ G Q hE I h;refine Subscript_ (j8 he hE I h fun x H1 d G1 v s1 I1 m1 r1 j5 q1=>?_);refine wpAny_Slice (hU (hl E pins s1 σ H1 τ G1 _ hE I1 q1) ?_);rintro vl s2 ⟨l,H2,G2,nv,m2,pl,q2⟩;refine hU (hu E pins s2 σ H2 τ G2 _ hE (I1.mv nv m2) q2) ?_;rintro vu s3 ⟨r,H3,G3,I3,m3,pu,q3⟩;rw [evalPart_none];refine aA ?_;have m13:=m2.trans m3;have mm:=m1.trans m13;have I4:Inv X pins σ H3 { s3 with heap:=s3.heap.push { cls:=.type "slice",data:=.fields #[vl,vu,.none] } }:=I3.kept (t':=s3.toks) fun b ob q=>aF _ q;have rd3:=j5.mono (m13.kp I1.ab);have Ss:=m3.ab;have key:∀ {rb:V->Option Int->Option Int->Hp->VK->Prop},SlR X rb->rb x l r H3 (B1 X.K H3 G3 Q)->wpAny (model X.prog X.w) X.A (subscriptTail a (.Slice lo hi none p2) v (.ref s3.heap.objs.size)) (r8 X pins σ H G Q) X.xe { s3 with heap:=s3.heap.push { cls:=.type "slice",data:=.fields #[vl,vu,.none] } }:=fun hr hq=>by
  obtain⟨T,id,hT,ht,hg⟩:=hr pins { s3 with heap:=s3.heap.push { cls:=.type "slice",data:=.fields #[vl,vu,.none] } } σ H3 x v vl vu l r s3.heap.objs.size _ I4 r1 (Heap.IsSliceOf.new ..) pl pu hq;exact hU (tail_any (ops:=[.ref s3.heap.objs.size,v]) ht hT hg (by with_unfolding_all rfl)) fun _ _ z=>(r8.of z).trans mm
 cases rd3 with
 | tup hq rs =>
  obtain⟨hw,q⟩:=q3;refine key Ww ⟨_,_,rfl,.of hq,?_,fun p hp=>⟨_,G3,.MG Ss hp,.tup bU ((rs.cut l r).mono (.new hp)),q⟩⟩;rw [D8,D8,rs.length];exact hw
 | dw hq rs=>exact key LU ⟨_,_,rfl,hq.sq,fun p hp=>⟨_,_,.Kd Ss hp (rs.cut l r),.ref _,q3 p (Ss.free hp)⟩⟩
 | ref g =>
  rw [Ed] at q3;split at q3
  ·rename_i ds hg;obtain⟨vs,hv,rs⟩:=Ss.lst hg;exact key LU ⟨_,_,rfl,.of hv,fun p hp=>⟨_,_,.Kd Ss hp (rs.cut l r),.ref _,q3 p (Ss.free hp)⟩⟩
  ·exact q3.elim
 | _=>exact bI q3
theorem Ud(ss:List D)(s:D)(h1:rq ss=true)(h2:nr s=true):((mR ss).any fun y=>rW y (pd s))=ss.any (iM · s):=by
 induction ss with
 | nil=>rfl
 | cons d r ih =>
  have h':nr d=true/\rq r=true:=(kN).mp h1;show (rW (pd d) (pd s)||(mR r).any _)=_;rw [ih h'.2,vk d s h'.1 h2]; rfl
def MT{G:Gp}{n:Nat}{ds ss:List D}(h:Sn G (n+1) (.dw ds) (.dw ss)):cf (mR ss)<=n:=by
 exact vJ (Bs h)
theorem EB(hu:X.A.units+64 < cLine)(neg:Bool){pins:List (Addr×Obj)}{s:ay}{σ:L2.St}{H:Hp}{G:Gp}{x y:V}{dx t:D}{ds ss:List D}{v u:Value}{Q:DK}(I:Inv X pins σ H s)(ab:kK X.K H G)(rx:RelV x v)(dX:bX X.K H x dx)
  (hy:(∃ l vs bL,u=.ref l/\Vals vs bL/\ba X.K H vs ds/\(s.heap.IsList l bL.toArray\/s.heap.IsTuple l bL.toArray))) (s1:Sn G SN dx t) (s2:Sn G SN (.dw ds) (.dw ss))
  (q:Q (.bl (if neg then !ss.any (iM · t) else ss.any (iM · t))) G):wpAny (model X.prog X.w) X.A (eU (if neg then .NotIn else .In) v u) (r8 X pins σ H G Q) X.xe s:=by
 obtain⟨l,vs,bL,rfl,rv,rs,hl⟩:=hy;obtain⟨as,ra⟩:=(ic I ab s1).1 x v dX rx;obtain⟨bs,rb⟩:=(ic I ab s2).2 ds ss (.inl ⟨rfl,rfl⟩) vs bL rs rv;have d2:=MT (n:=7) s2;have n2:rq ss=true:=s2.nr;have A7:=wA _ n2;have e:=Ud ss t n2 s1.nr;have HD:X.A.units+1+min (cf (mR ss)) (pd t).depth < cLine:=by lia
 have Qd:iu s.heap bL.toArray.toList (mR ss) bs:=by simpa using rb
 have fin:∀ k:Bool,k=(if neg then !ss.any (iM · t) else ss.any (iM · t))->r8 X pins σ H G Q (.bool k) s:=fun k hk=>by subst hk; exact⟨.bl _,H,.bl _,G,I,.refl ab,rfl,.bl _,q⟩
 cases neg with
 | false =>
  rcases hl with hl | hl
  ·exact SeqAt.in_listAt _ hl (ou Qd ra A7 (k7 _ s1.nr) HD) (by rw [sk Qd A7,e]; exact fin _ rfl)
  ·exact SeqAt.in_tupleAt _ hl (ou Qd ra A7 (k7 _ s1.nr) HD) (by rw [sk Qd A7,e]; exact fin _ rfl)
 | true =>
  rcases hl with hl | hl
  ·exact SeqAt.notIn_listAt _ hl (ou Qd ra A7 (k7 _ s1.nr) HD) (by rw [sk Qd A7,e]; exact fin _ rfl)
  ·exact SeqAt.notIn_tupleAt _ hl (ou Qd ra A7 (k7 _ s1.nr) HD) (by rw [sk Qd A7,e]; exact fin _ rfl)
theorem Rl(hu:X.A.units+64 < cLine)(neg:Bool){pins:List (Addr×Obj)}{s:ay}{σ:L2.St}{H:Hp}{G:Gp}{x y:V}{dx:D}{kvs:List (D×D)}{v u:Value}{Q:DK}(I:Inv X pins σ H s)(ab:kK X.K H G)(rx:RelV x v)(ry:RelV y u)(dY:bX X.K H y (.kH kvs))(dX:bX X.K H x dx)
  (q:TU neg dx (.kH kvs) G Q):wpAny (model X.prog X.w) X.A (eU (if neg then .NotIn else .In) v u) (r8 X pins σ H G Q) X.xe s:=by
 obtain⟨tm,hk,q⟩:=q;have go:∀ (a:Addr) (o:Option V),y=.ref a->BR H a x o->o.isSome=(look kvs dx).isSome->wpAny (model X.prog X.w) X.A (eU (if neg then .NotIn else .In) v u) (r8 X pins σ H G Q) X.xe s:=by
  intro a o ea g ho;subst ea;cases ry;cases neg with
  | false=>exact ZR (by lia) I g rx fun s3 I4=>⟨.bl _,H,.bl _,G,I4,.refl ab,rfl,.bl _,by rw [ho]; exact q⟩
  | true=>exact MU (by lia) I g rx fun s3 I4=>⟨.bl _,H,.bl _,G,I4,.refl ab,rfl,.bl _,by rw [ho]; exact q⟩
 obtain⟨a,o,ea,g,ho,_⟩:=D9 I dY hk dX;rcases g with rfl | g
 ·exact absurd rfl tm
 ·exact go a o ea g ho
theorem Ul(hu:X.A.units+64 < cLine)(neg:Bool):pW X (eU (if neg then .NotIn else .In)) (TU neg):=by
 intro pins s σ H G x y dx dy v u Q I ab rx ry dX dY q;cases dY with
 | tup hq rs =>
  obtain⟨t,ss,s1,s2,q⟩:=q;cases ry;obtain⟨bL,rv,pl,hz⟩:=I.tuple (.of hq);exact EB hu neg (y:=x) I ab rx dX ⟨_,_,bL,rfl,rv,rs,.inr pl⟩ s1 s2 q
 | dw hq rs =>
  obtain⟨t,ss,s1,s2,q⟩:=q;cases ry;obtain⟨bL,rv,pl,hz⟩:=I.list hq.sq;exact EB hu neg (y:=x) I ab rx dX ⟨_,_,bL,rfl,rv,rs,.inl pl.isList⟩ s1 s2 q
 | oC h rs=>exact Rl hu neg I ab rx ry (.oC h rs) dX q
 | oB h rs=>exact Rl hu neg I ab rx ry (.oB h rs) dX q
 | ref l =>
  unfold TU at q;dsimp only at q;split at q
  ·rename_i kvs hl;obtain⟨hk,q⟩:=q;obtain⟨H3,o,I3,m3,g,ho,_⟩:=Ia I ab hl hk dX;cases ry;cases neg with
   | false=>exact ZR (by lia) I3 g rx fun s3 I4=>⟨.bl _,H3,.bl _,G,I4,m3,rfl,.bl _,by rw [ho]; exact q⟩
   | true=>exact MU (by lia) I3 g rx fun s3 I4=>⟨.bl _,H3,.bl _,G,I4,m3,rfl,.bl _,by rw [ho]; exact q⟩
  ·rename_i ds hl;obtain⟨t,ss,s1,s2,q⟩:=q;cases ry;obtain⟨vs,hv,rs⟩:=ab.lst hl;obtain⟨bL,rv,pl,hz⟩:=I.list (.of hv);exact EB hu neg (y:=x) I ab rx dX ⟨_,_,bL,rfl,rv,rs,.inl pl.isList⟩ s1 s2 q
  ·exact q.elim
 | _=>exact bI q
def WZ(hu:X.A.units+64 < cLine):pW X (eU .In) (TU false):=Ul hu false
end
section
variable {X:Cx} {a b c e o:Expr} {es:List Expr} {ta tb tc te to:gq} {t:BF} {pos p p2 apos mi:Pos} {x name:Str} {id T:String}
theorem eE:tV X (.builtin "len") kj:=by
 intro pins s σ H G xs ds us Q I ab rx rd q;unfold kj at q;split at q
 ·rename_i x;obtain⟨v,rfl,r⟩:=rd.one;have Tu:∀ (n:Nat),Z9 X.K v H n->Q (.int (n:Int)) G->wpAny (model X.prog X.w) X.A (call (.builtin "len") us) (r8 X pins σ H G Q) X.xe s:=fun n hn hq =>
   hU (R7 pins s σ H [v] us (B1 X.K H G Q) I rx ⟨v,n,rfl,hn,_,_,.refl ab,.int _,hq⟩) fun _ _ z=>.of z
  have sz:a8=16777216:=cD;cases r with
  | tup hq rs=>exact Tu _ (.inr ⟨_,.of hq,by rw [rs.length]⟩) q
  | dw hq rs=>exact Tu _ (.inl ⟨_,hq.sq,by rw [rs.length]⟩) q
  | str y =>
   unfold lenOf at q;dsimp only at q;by_cases hz:y.length<=SZ
   ·rw [if_pos hz] at q; exact Tu _ ⟨by rw [sz]; exact hz,rfl⟩ q
   ·rw [if_neg hz] at q; exact q.elim
  | oC h rs =>
   rename_i l o kv kvs;obtain⟨u,rfl,ru⟩:=rx.one;cases ru;unfold lenOf at q;dsimp only at q;by_cases ha:(kvs.all fun p=>di p.1)=true
   ·rw [if_pos ha] at q;exact VY I (.inr ⟨_,h⟩) fun t s' I'=>⟨.int kv.length,H,_,G,I',.refl ab,⟨t,rfl⟩,.int _,by rw [rs.length]; exact q⟩
   ·rw [if_neg ha] at q; exact q.elim
  | oB h rs =>
   rename_i l o kv kvs;obtain⟨u,rfl,ru⟩:=rx.one;cases ru;unfold lenOf at q;dsimp only at q;by_cases ha:(kvs.all fun p=>di p.1)=true
   ·rw [if_pos ha] at q;cases rs with
    | nil =>
     obtain⟨z,hS,xs,rel,ob,es,ep,ho,hx,BZ,hl,nd⟩:=(I.b7 l _ h).2;have hxs:xs=[]:=by cases rel; rfl
     subst hxs;have he:es=#[]:=by simpa using hl
     subst he;have dd:s.heap.DictOf (cJ X.prog X.w) l []:=⟨ob,#[],ep,ho,hx,BZ,(fun _ h=>by simp at h),.nil,cj⟩;refine call_len_dict hS dd (by simp) ?_;exact⟨.int 0,H,_,G,I.tok _,.refl ab,⟨_,rfl⟩,.int _,q⟩
    | cons _ _=>simp [di] at ha
   ·rw [if_neg ha] at q; exact q.elim
  | ref l =>
   unfold lenOf at q;dsimp only at q;cases hg:G l with
   | none=>rw [hg] at q; exact q.elim
   | some g =>
    rw [hg] at q;cases g with
    | lst ds =>
     obtain⟨vs,hv,rs⟩:=ab.lst hg;exact Tu _ (.inl ⟨_,.of hv,by rw [rs.length]⟩) q
    | ins _ _=>exact q.elim
    | rV _=>exact q.elim
    | fU kvs =>
     obtain⟨u,rfl,ru⟩:=rx.one;cases ru;dsimp only at q;by_cases ha:(kvs.all fun p=>di p.1)=true
     ·rw [if_pos ha] at q;rcases ab l _ hg with ⟨kv,hv,rs⟩ | ⟨kv,hv,rs⟩
      ·exact VY I (.inl hv) fun t s' I'=>⟨.int kv.length,H,_,G,I',.refl ab,⟨t,rfl⟩,.int _,by rw [rs.length]; exact q⟩
      ·cases rs with
       | nil =>
        obtain⟨z,hd,vs,rel,dd⟩:=Dw (toK I hv).b7 bU;have hvs:vs=[]:=by cases rel; rfl
        subst hvs;refine call_len_dict hd dd (by simp) ?_;exact⟨.int 0,H,_,G,I.tok _,.refl ab,⟨_,rfl⟩,.int _,q⟩
       | cons _ _=>simp [di] at ha
     ·rw [if_neg ha] at q; exact q.elim
  | _=>exact bI q
 ·exact q.elim
theorem La:tV X (.type "list") yS:=by
 intro pins s σ H G xs ds us Q I ab rx rd q;unfold yS at q;split at q
 ·rename_i x;obtain⟨v,rfl,r⟩:=rd.one;have X5:∀ (l:Addr) (ys:List V) (zs:List D),v=.ref l->(qb X.K H l ys\/zL X.K H l ys)->ba X.K H ys zs->ip G (.lst zs) Q->wpAny (model X.prog X.w) X.A (call (.type "list") us) (r8 X pins σ H G Q) X.xe s:=fun l ys zs e h rs hq=>by
   subst e;exact hU (Fe pins s σ H _ us (B1 X.K H G Q) I rx ⟨l,ys,rfl,h,fun p hp=>⟨_,_,.Kd ab hp rs,.ref _,hq p (ab.free hp)⟩⟩) fun _ _ z=>.of z
  cases r with
  | tup hq rs=>exact X5 _ _ _ rfl (.inr (.of hq)) rs q
  | dw hq rs=>exact X5 _ _ _ rfl (.inl hq.sq) rs q
  | ref l =>
   unfold itemsOf at q;dsimp only at q;cases hg:G l with
   | none=>rw [hg] at q; exact q.elim
   | some g =>
    rw [hg] at q;cases g with
    | lst ds =>
     obtain⟨vs,hv,rs⟩:=ab.lst hg;exact X5 _ _ _ rfl (.inl (.of hv)) rs q
    | ins _ _=>exact q.elim
    | rV _=>exact q.elim
    | fU kvs=>exact q.elim
  | _=>exact bI q
 ·exact q.elim
theorem vb {r:List D->Gp->DK->Prop} (hc:tV X (.type T) r) (hg:Gl X x) (hm:X.mg x=none) (hv:eZ x=some (.type T)) (ha:B3 X (e :: es) t) (hn:autoParam (x≠"__name__") Ad._auto_1) (ze:autoParam ((x == ("__debug__" : Str))=false) Ad._auto_1)
  (he:autoParam (bw (e :: es) X.env=(false,eval e X.env) :: bw es X.env) Ar._auto_1) (yO:autoParam ((lX pos (bw es X.env)).any (·.1)=false) Ar._auto_1):gG X (.Call (.Name x p) (e :: es) [] pos) (ot r t):=by
 intro E pins s σ H τ G Q hE I h;refine eY (qK I.inv hg hm hv ?_ hn ze);exact jf (y7 ha pos hE I h fun vs H1 ds G1 us s1 I1 m1 r1 j5 q1=>hU (hc pins s1 σ H1 G1 vs ds us Q I1.inv I1.ab r1 j5 q1) fun _ _ z=>z.trans m1) he yO
theorem Xa (K:aj):∀ C∈["int","bool","list","tuple","dict","str"],∀ T∈["NoneType","bool","int","str","tuple","list","dict"],xh K (.type T) (.type C)=some (T == C||(T == "bool" && C == "int")):=by
 intro C hC T hT;simp only [bJ,bV,or_false] at hC hT;rcases hC with rfl | rfl | rfl | rfl | rfl | rfl <;> rcases hT with rfl | rfl | rfl | rfl | rfl | rfl | rfl <;> kernel_rfl
theorem Rg (C:String) (hC:C∈["int","bool","list","tuple","dict","str"]) {pins:List (Addr×Obj)} {s:ay} {σ:L2.St} {H:Hp} {G:Gp} {v:V} {d:D} {u:Value} {k:Bool} {Q:DK} (I:Inv X pins σ H s) (ab:kK X.K H G) (ru:RelV v u) (r:bX X.K H v d)
  (hk:VF C d G=some k) (q:Q (.bl k) G):wpAny (model X.prog X.w) X.A (call (.builtin "isinstance") [u,.type C]) (r8 X pins σ H G Q) X.xe s:=by
 have fin:∀ tk,r8 X pins σ H G Q (.bool k) { s with toks:=tk }:=fun tk=>⟨.bl k,H,.bl k,G,I.tok _,.refl ab,rfl,.bl k,q⟩;have hl:∀ T∈["NoneType","bool","int","str","tuple","list","dict"],k=(T == C||(T == "bool" && C == "int"))->xh X.K (.type T) (.type C)=some k:=fun T hT e=>by rw [Xa X.K C hC T hT,e]
 have tl:∀ {l:Addr} {o:Obj},s.heap.get? l=some o->o.cls=.type "list"->k=("list" == C||("list" == "bool" && C == "int"))->v=.ref l->wpAny (model X.prog X.w) X.A (call (.builtin "isinstance") [u,.type C]) (r8 X pins σ H G Q) X.xe s:=fun ho hc e ev=>by
  subst ev;cases ru;exact fR PySem.W.kitx_list I.zF ⟨_,ho,hc⟩ (hl "list" (by decide) e) (fun z=>nomatch z) fin
 have td:∀ {l:Addr} {o:Obj},s.heap.get? l=some o->o.cls=.type "dict"->k=("dict" == C||("dict" == "bool" && C == "int"))->v=.ref l->wpAny (model X.prog X.w) X.A (call (.builtin "isinstance") [u,.type C]) (r8 X pins σ H G Q) X.xe s:=fun ho hc e ev=>by
  subst ev;cases ru;exact fR PySem.W.kitx_dict I.zF ⟨_,ho,hc⟩ (hl "dict" (by decide) e) (fun z=>nomatch z) fin
 have o8:∀ P:String->Prop,(∀ C'∈["int","bool","list","tuple","dict","str"],P C')->P C:=fun P h=>h C hC;cases r with
 | eT =>
  cases ru;have e:k=("NoneType" == C||("NoneType" == "bool" && C == "int")):=by
   have:k=false:=(aZ hk).symm;rw [this];exact o8 (fun C=>false=("NoneType" == C||("NoneType" == "bool" && C == "int"))) (by decide)
  exact fR Tj I.zF gf (hl _ (by decide) e) (fun z=>nomatch z) fin
 | bl y =>
  cases ru;have e:k=("bool" == C||("bool" == "bool" && C == "int")):=by
   have:k=(C == "bool" || C == "int"):=(aZ hk).symm;rw [this];exact o8 (fun C=>(C == "bool" || C == "int")=("bool" == C||("bool" == "bool" && C == "int"))) (by decide)
  exact fR PySem.W.kitx_bool I.zF gf (hl _ (by decide) e) (fun z=>nomatch z) fin
 | int y =>
  obtain⟨t,rfl⟩:=ru;have e:k=("int" == C||("int" == "bool" && C == "int")):=by
   have:k=(C == "int"):=(aZ hk).symm;rw [this];exact o8 (fun C=>(C == "int")=("int" == C||("int" == "bool" && C == "int"))) (by decide)
  exact fR PySem.W.kitx_int I.zF gf (hl _ (by decide) e) (fun z=>nomatch z) fin
 | str y =>
  obtain⟨t,rfl⟩:=ru;have e:k=("str" == C||("str" == "bool" && C == "int")):=by
   have:k=(C == "str"):=(aZ hk).symm;rw [this];exact o8 (fun C=>(C == "str")=("str" == C||("str" == "bool" && C == "int"))) (by decide)
  exact fR PySem.W.kitx_str I.zF gf (hl _ (by decide) e) (fun z=>nomatch z) fin
 | tup hq rs =>
  cases ru;have e:k=("tuple" == C||("tuple" == "bool" && C == "int")):=by
   have:k=(C == "tuple"):=(aZ hk).symm;rw [this];exact o8 (fun C=>(C == "tuple")=("tuple" == C||("tuple" == "bool" && C == "int"))) (by decide)
  obtain⟨bL,rv,⟨o,h1,h2,_⟩,hz⟩:=I.tuple (.of hq);exact fR PySem.W.kitx_tuple I.zF ⟨o,h1,h2⟩ (hl _ (by decide) e) (fun z=>nomatch z) fin
 | dw hq rs =>
  obtain⟨bL,rv,pl,hz⟩:=I.list hq.sq;obtain⟨o,h1,h2,_⟩:=pl.isList;refine tl h1 h2 ?_ rfl;have:k=(C == "list"):=(aZ hk).symm;rw [this];exact o8 (fun C=>(C == "list")=("list" == C||("list" == "bool" && C == "int"))) (by decide)
 | oC h rs =>
  have e:k=("dict" == C||("dict" == "bool" && C == "int")):=by
   have:k=(C == "dict"):=(aZ hk).symm;rw [this];exact o8 (fun C=>(C == "dict")=("dict" == C||("dict" == "bool" && C == "int"))) (by decide)
  obtain⟨_,_,vs,_,ob,_,_,h1,h2,_⟩:=uV I.b7 (.inr ⟨_,h⟩);exact td h1 h2.1 e rfl
 | oB h rs =>
  have e:k=("dict" == C||("dict" == "bool" && C == "int")):=by
   have:k=(C == "dict"):=(aZ hk).symm;rw [this];exact o8 (fun C=>(C == "dict")=("dict" == C||("dict" == "bool" && C == "int"))) (by decide)
  obtain⟨_,_,ys,_,ob,_,_,h1,h2,_⟩:=Bq I.b7 (.inr ⟨_,h⟩);exact td h1 h2.1 e rfl
 | exc h=>simp [VF] at hk
 | Dp h _=>simp [VF] at hk
 | pj _ _ _ _=>simp [VF] at hk
 | ref l =>
  unfold VF at hk;dsimp only at hk;cases hg:G l with
  | none=>rw [hg] at hk; cases hk
  | some g =>
   rw [hg] at hk;cases g with
   | lst ds =>
    obtain⟨vs,hv,rs⟩:=ab.lst hg;obtain⟨bL,rv,pl,hz⟩:=I.list (.of hv);obtain⟨o,h1,h2,_⟩:=pl.isList;refine tl h1 h2 ?_ rfl;have:k=(C == "list"):=(aZ hk).symm;rw [this];exact o8 (fun C=>(C == "list")=("list" == C||("list" == "bool" && C == "int"))) (by decide)
   | ins _ _=>cases hk
   | rV _=>cases hk
   | fU kvs =>
    have e:k=("dict" == C||("dict" == "bool" && C == "int")):=by
     have:k=(C == "dict"):=(aZ hk).symm;rw [this];exact o8 (fun C=>(C == "dict")=("dict" == C||("dict" == "bool" && C == "int"))) (by decide)
    rcases ab l _ hg with ⟨kv,hv,rs⟩ | ⟨kv,hv,rs⟩
    ·obtain⟨_,_,vs,_,ob,_,_,h1,h2,_⟩:=Dw I.b7 hv;exact td h1 h2.1 e rfl
    ·obtain⟨_,_,ys,_,ob,_,_,h1,h2,_⟩:=RW I.b7 hv;exact td h1 h2.1 e rfl
theorem zC (C:String) (hC:C∈["int","bool","list","tuple","dict","str"]) {y:Str} {py:Pos} (hg:Gl X "isinstance") (hm:X.mg "isinstance" = none) (hgC:Gl X y) (hmC:X.mg y=none) (hvC:eZ y=some (.type C)) (ha:gG X a ta) (hn:autoParam (y≠"__name__") Ad._auto_1) (ze:autoParam ((y == ("__debug__" : Str))=false) Ad._auto_1)
  (he:autoParam (bw [a,.Name y py] X.env=(false,eval a X.env) :: bw [.Name y py] X.env) Ar._auto_1) (yO:autoParam ((lX pos (bw [Expr.Name y py] X.env)).any (·.1)=false) Ar._auto_1) (UG:autoParam (bw [.Name y py] X.env=[(false,eval (.Name y py) X.env)]) Ar._auto_1) :
  gG X (.Call (.Name "isinstance" p) [a,.Name y py] [] pos) (OC C ta):=by
 intro E pins s σ H τ G Q hE I h;refine eY (qK I.inv hg hm yY ?_);refine lN ?_ he yO;rw [he];show wpAny _ _ (Jf ((false,eval a X.env) :: lX pos (bw [.Name y py] X.env))) _ _ s;refine jQ (j8 ha hE I h fun v H1 d G1 u s1 I1 m1 r1 j5 q1=>?_);rw [UG];show wpAny _ _ (Jf [(false,eval (.Name y py) X.env)]) _ _ s1;refine jQ (qK I1.inv hgC hmC hvC (sy ?_) hn ze)
 try dsimp only at q1
 split at q1
 ·rename_i k hk;exact hU (Rg C hC I1.inv I1.ab r1 j5 hk q1) fun _ _ z=>z.trans m1
 ·exact q1.elim
end
section
variable {X:Cx} {a b c e o:Expr} {es:List Expr} {ta tb tc te to:gq} {t:BF} {pos p p2 apos mi:Pos} {x name:Str} {id T:String}
def Lp(X:Cx)(id:String)(r:D->List D->Gp->DK->Prop):Prop :=
 ∀ (pins:List (Addr×Obj)) (s:ay) (σ:L2.St) (H:Hp) (G:Gp) (x:V) (d:D) (xs:List V) (ds:List D) (v:Value) (us:List Value) (Q:DK),Inv X pins σ H s->kK X.K H G->RelV x v->bX X.K H x d->Vals xs us->ba X.K H xs ds->r d ds G Q ->
  wpAny (model X.prog X.w) X.A (call (.builtin id) (v :: us)) (r8 X pins σ H G Q) X.xe s
def U4(X:Cx)(T:String)(ty:D->Gp->Prop):Prop:=∀ (pins:List (Addr×Obj)) (s:ay) (σ:L2.St) (H:Hp) (G:Gp) (x:V) (d:D) (v:Value),Inv X pins σ H s->kK X.K H G->RelV x v->bX X.K H x d->ty d G ->
  s.TypeIs v T/\∀ a,v=.ref a->∃ ob,s.heap.get? a=some ob/\ob.dict=none
theorem pC:U4 X "list" IT:=by
 intro pins s σ H G x d v I ab r rd h;cases rd with
 | dw hq rs=>exact DX I r (.inl ⟨rfl,_,hq.sq⟩)
 | ref l =>
  unfold IT at h;dsimp only at h;split at h
  ·rename_i ds hg;obtain⟨vs,hv,rs⟩:=ab.lst hg;exact DX I r (.inl ⟨rfl,vs,.of hv⟩)
  ·exact h.elim
 | _=>exact bI h
theorem nO:U4 X "dict" S2:=by
 intro pins s σ H G x d v I ab r rd h;cases rd with
 | oC q rs =>
  cases r;obtain⟨t1,t2,_⟩:=Rh I (.inl ⟨_,.inr ⟨_,q⟩⟩);exact⟨t1,t2⟩
 | oB q rs =>
  cases r;obtain⟨t1,t2,_⟩:=Rh I (.inr ⟨_,.inr ⟨_,q⟩⟩);exact⟨t1,t2⟩
 | ref l =>
  unfold S2 at h;dsimp only at h;split at h
  ·rename_i kvs hg;rcases ab l _ hg with ⟨kv,hv,rs⟩ | ⟨kv,hv,rs⟩
   ·exact DX I r (.inr (.inr (.inl ⟨rfl,.inl ⟨kv,hv⟩⟩)))
   ·exact DX I r (.inr (.inr (.inl ⟨rfl,.inr ⟨kv,hv⟩⟩)))
  ·exact h.elim
 | _=>exact bI h
theorem lH {ty:D->Gp->Prop} {r:D->List D->Gp->DK->Prop} (pa:PlainAttrs T) (slot:Slot T name id) (hty:typeOf (.builtin id)=pure (.type "method_descriptor")) (ht:U4 X T ty) (hm:Lp X id r) (ho:gG X o to) (ha:B3 X (e :: es) t)
  (wM:autoParam (FU o name X.env (eval o X.env)=eval o X.env) Ar._auto_1)
  (aco:autoParam (((lX mi (bw (e :: es) X.env)).all (fun x=>!x.1)&&(backToKw mi (keywordEach [] X.env)).all (fun x=>x.1.isSome)
   && decide ((e :: es).length+([]:List Keyword).length+(if ([]:List Keyword).isEmpty then 0 else 1) < 30))=true) Ar._auto_1)
  (Bb:autoParam ((apos.endLine == mi.line)=true) Ar._auto_1) (hs:autoParam (bw (e :: es) X.env=(false,eval e X.env) :: bw es X.env) Ar._auto_1) (Kz:autoParam ((lX mi (bw es X.env)).any (·.1)=false) Ar._auto_1) :
  gG X (.Call (.Attribute o name apos) (e :: es) [] mi) (xq ty r to t):=by
 intro E pins s σ H τ G Q hE I h;refine wpAny_Call_method_late wM aco Bb rfl (j8 ho hE I h ?_);rintro x H1 d G1 v s1 I1 m1 r1 j5 ⟨hy,q1⟩;obtain⟨h1,h2⟩:=ht pins s1 σ H1 G1 x d v I1.inv I1.ab r1 j5 hy;refine⟨T,id,pa,slot,hty,h1,h2,?_⟩;have hA:=ha mi E pins s1 σ H1 τ G1 _ hE I1 q1;rw [hs] at hA ⊢;refine mQ (by show (false||(lX mi (bw es X.env)).any (·.1))=false; rw [Kz] <;> rfl) (SY ?_);exact hU hA (by rintro us s2 ⟨vs,H2,ds,G2,nv,m2,r2,y8,q2⟩; exact hU (hm pins s2 σ H2 G2 x d vs ds v us Q nv m2.ab r1 (j5.mono (m2.kp I1.ab)) r2 y8 q2) fun _ _ z=>z.trans (m1.trans m2))
theorem qE:Lp X "list.append" qH:=by
 intro pins s σ H G x d xs ds v us Q I ab rx rd Pa Eb q;unfold qH at q;split at q
 ·rename_i l d';cases rd;obtain⟨w,rfl,rQ⟩:=Eb.one;split at q
  ·rename_i zs hg;obtain⟨hz,q⟩:=q;obtain⟨vs,hv,rs⟩:=ab.lst hg;exact hU (CZ pins s σ H _ _ v us (B1 X.K H G Q) I rx Pa ⟨l,vs,w,rfl,rfl,hv,by rw [rs.length,cD]; exact hz,_,_,.putL ab hg hv (rs.append (.cons rQ .nil)),.eT,q⟩) fun _ _ z=>.of z
  ·exact q.elim
 ·exact q.elim
theorem KY(l:Addr)(xs:Array Value)(n:Nat)(b:Addr)(ys:Array Value)(n2:Nat)(dd:Option Addr)(sl:Array (Option Value))(VO:¬(!xs.isEmpty&&ky (xs.size+ys.size))=true)(hx:xs.size<=a8)(Yd:xs.size+ys.size<=a8+1) :
  Meets (Builtin.«list.extend» ⟨[.ref l,.ref b],[]⟩) (fun _ R s=>s.heap.get? l=some { cls:=.type "list",dict:=none,data:=.seq xs n,slots:=#[] }/\s.heap.get? b=some { cls:=.type "list",dict:=dd,data:=.seq ys n2,slots:=sl }/\R (.ok (.ret gM)) { s with heap:=s.heap.update l (jP fun x=>x++ys),toks:=s.toks }) :=
 .of_wp fun prog w A R s h=>by
  obtain⟨hp,g,d,tk,os⟩:=s;obtain⟨h1,h2,h3⟩:=h;have e1:=AutoSeq1.idx_int;have e2:=qZ;have e3:=Jv;have e4:=AutoSeq1.sub_tuple_list;have e5:=AutoSeq1.sub_list_tuple;have hz':(xs++ys).size<=a8+1:=by rw [Array.size_append]; exact Yd
  wp_walk using (zN h1 rfl (hz:=hx) (_hz':=hz')),bM h1,bM h2
  exact⟨_,rfl,h3⟩
theorem Ke:Lp X "list.extend" zD:=by
 intro pins s σ H G x d xs ds v us Q I ab rx rd Pa Eb q;unfold zD at q;split at q
 ·rename_i l y;cases rd;obtain⟨w,rfl,rQ⟩:=Eb.one;obtain⟨u,rfl,ru⟩:=Pa.one;split at q
  ·rename_i zs ys hg hg2;obtain⟨hz,q⟩:=q;obtain⟨vs,hv,rs⟩:=ab.lst hg;obtain⟨b,ws,uK,rfl,Ny,IV,hb,_⟩:=qW I ab ru rQ hg2;cases rx;obtain⟨z,bL,n,r,hl,e⟩:=I.Y5 hv;obtain⟨⟨cl,dd,dt,sl⟩,ho,KC,n2,hdt⟩:=hb;simp only at KC hdt;subst KC hdt;have h1:=Ny.length;have h2:=IV.length;have h3:=rs.length;have h4:=r.length;have h5:a8=16777216:=cD;have h6:SZ=16777216:=rfl;have hsz:bL.toArray.size+uK.toArray.size<=a8:=by rw [aW,aW]; lia
   have VO:¬ (!bL.toArray.isEmpty&&ky (bL.toArray.size+uK.toArray.size))=true:=by
    rw [QI hsz,LF];exact fu
   refine Jk F.slot_list_extend ⟨_,e,rfl⟩ F.entry_list_extend (F.args_list_extend_2 _ _) (KY l bL.toArray n b uK.toArray n2 dd sl VO (by rw [aW]; lia) (by lia)) ⟨e,ho,?_⟩;refine⟨.eT,_,.eT,_,I.Y6 (its':=bL++uK) hv e (by simp) (r.append Ny) ?_,.putL ab hg hv (rs.append IV),rfl,.eT,q⟩;rw [aC];lia
  ·exact q.elim
 ·exact q.elim
theorem NU (hu : X.A.units + 64 < cLine) : Lp X "list.index" Ew := by
  intro pins s σ H G x d xs ds v us Q I ab rx rd Pa Eb q;unfold Ew at q;split at q
  · rename_i d'
    obtain⟨hy, zs, sn, ss, hi, s1, s2, q⟩ := q;obtain⟨w, rfl, rQ⟩ := Eb.one;obtain⟨u, rfl, ru⟩ := Pa.one;have lists : ∃ l vs bL, v = .ref l ∧ Vals vs bL ∧ ba X.K H vs zs ∧ s.heap.IsList l bL.toArray ∧ vs.length ≤ a8 := by
      cases rd with
      | dw hq rs =>
        cases hi;cases rx;obtain⟨bL, rv, pl, hz⟩ := I.list hq.sq;exact⟨_, _, bL, rfl, rv, rs, pl.isList, hz⟩
      | ref l =>
        unfold itemsOf at hi;dsimp only at hi;cases hg : G l with
        | none => rw [hg] at hi; cases hi
        | some g =>
          rw [hg] at hi;cases g with
          | lst ds =>
            cases hi;cases rx;obtain⟨vs, hv, rs⟩ := ab.lst hg;obtain⟨bL, rv, pl, hz⟩ := I.list (.of hv);exact⟨_, _, bL, rfl, rv, rs, pl.isList, hz⟩
          | ins _ _ => cases hi
          | rV _ => cases hi
          | fU _ => cases hi
      | _ => exact bI hy
    obtain⟨l, vs, bL, rfl, rv, rs, hl, hz⟩ := lists;obtain⟨as, ra⟩ := (ic I ab s1).1 w u rQ ru;obtain⟨bs, rb⟩ := (ic I ab s2).2 zs ss (.inl ⟨rfl, rfl⟩) vs bL rs rv;have d2 := MT (n := 7) s2;have n2 : rq ss = true := s2.nr;have A7 := wA _ n2;have HD : X.A.units + 1 + min (cf (mR ss)) (pd sn).depth < cLine := by lia
    have Qd : iu s.heap bL.toArray.toList (mR ss) bs := by simpa using rb
    have mp := SeqAt.readsAll_map _ _ _ A7 Qd;split at q
    · rename_i k hk
      obtain⟨wL, ach, Xm⟩ := List.findIdx?_eq_some_iff_getElem.mp hk;have pdl : ∀ (zz : List D), (mR zz).length = zz.length := by
        intro zz;induction zz with
        | nil => rfl
        | cons a r ih => exact congrArg Nat.succ ih
      have hlen : bL.length = ss.length := by
        have := congrArg dI mp;rw [aq, pdl] at this;simpa using this
      have at_ : ∀ (m : Nat) (h1 : m < bL.toArray.size) (h2 : m < ss.length), rW (CA s.heap bL.toArray[m]) (pd sn) = iM ss[m] sn := by
        intro m h1 h2;have e1 : (bL.toArray.toList.map (CA s.heap))[m]? = (mR ss)[m]? := by rw [mp]
        have pdg : ∀ (zz : List D) (m : Nat) (h : m < zz.length), (mR zz)[m]? = some (pd zz[m]) := by
          intro zz;induction zz with
          | nil => intro m h; simp at h
          | cons a r ih => intro m h; cases m with
            | zero => rfl
            | succ m => exact ih m (vI h)
        rw [pdg ss m h2] at e1;have h1' : m < bL.length := by simpa using h1
        have e2 : CA s.heap bL.toArray[m] = pd ss[m] := by
          simpa [h1'] using e1
        rw [e2];have fF : nr ss[m] = true := by
          have : ∀ (zz : List D) (m : Nat) (h : m < zz.length), rq zz = true -> nr zz[m] = true := by
            intro zz;induction zz with
            | nil => intro m h; simp at h
            | cons a r ih => intro m h hn; have VN : nr a = true ∧ rq r = true := (kN).mp hn
                             cases m with
                             | zero => exact VN.1
                             | succ m => exact ih m (by simpa using h) VN.2
          exact this ss m h2 n2
        exact vk _ _ fF s1.nr
      have sz : a8 = 16777216 := cD;have hvl : vs.length = bL.length := rv.length;obtain⟨⟨cls, dd, data, sl⟩, ho, hc, n, hd⟩ := id hl;simp only at hc hd;subst hc hd;have IZ : k < bL.toArray.size := by rw [aW]; lia
      refine Jk Jn ⟨_, ho, rfl⟩ PySem.F.entry_list_index (PySem.F.args_list_index_2 _ _)
        (SeqAt.list_indexAt l bL.toArray n dd sl u (fun y => rW (CA s.heap y) (pd sn)) k IZ (by lia) ?_ ?_) ⟨ho, ou Qd ra A7 (k7 _ s1.nr) HD, ?_⟩
      · rw [at_ k IZ wL]; exact ach
      · intro m hm hmk
        have Ta : m < ss.length := by lia
        rw [at_ m hm Ta];simpa using Xm m hmk
      · exact⟨.int k, H, .int k, G, I.tok _, .refl ab, ⟨_, rfl⟩, .int _, q⟩
    · exact q.elim
  · exact q.elim
theorem kX:gG X (.Dict [] [] pos) mM:=by
 intro E pins s σ H τ G Q hE I h;exact hU (Qu pins s σ H (B1 X.K H G Q) I.inv fun p hp=>⟨_,_,.new I.ab hp (.dk bU .nil),.ref _,h p (I.ab.free hp)⟩) fun _ _ z=>.of z
end
def gR(env:Env):List (Str×uP)->List (Str×Addr)->List (Str×Addr)
 | [],acc=>acc
 | (n,k) :: r,acc=>if k=.free then gR env r ((n,(env.cells.lookup n).getD 0) :: acc) else gR env r acc
theorem vo(env:Env)(f:Str×uP->List (Str×Addr)->Sem (ForInStep (List (Str×Addr))))(hf:∀ n k c,f (n,k) c=if (k == lD)=true then (cellOf env n >>= fun a=>pure (uG ((n,a) :: c))) else pure (uG c)) :
  ∀ (ns:List (Str×uP)) (acc:List (Str×Addr)),(∀ x∈ns,x.2=.free->∃ c,env.cells.lookup x.1=some c)->forIn ns acc f=(pure (gR env ns acc):Sem (List (Str×Addr)))
 | [],acc,_=>rfl
 | (n,k) :: r,acc,h=>by
  rw [List.forIn_cons,hf];have hr:∀ x∈r,x.2=.free->∃ c,env.cells.lookup x.1=some c:=fun x hx=>h x (aG _ hx);by_cases hk:k=.free
  ·subst hk;obtain⟨c,hc⟩:=h (n,.free) bH rfl;have ec:cellOf env n=pure c:=by unfold cellOf; rw [hc]
   rw [if_pos (by decide),ec,pure_bind,pure_bind];show forIn r ((n,c) :: acc) f=_;rw [vo env f hf r _ hr];show _=(pure (gR env ((n,.free) :: r) acc):Sem (List (Str×Addr)));rw [gR,if_pos rfl,hc]; rfl
  ·rw [if_neg (by simpa using hk),pure_bind];show forIn r acc f=_;rw [vo env f hf r _ hr];show _=(pure (gR env ((n,k) :: r) acc):Sem (List (Str×Addr)));rw [gR,if_neg hk]
theorem Cm{env:Env}{scope:Scope}(h:∀ x∈scope.names,x.2=.free->∃ c,env.cells.lookup x.1=some c):closureFor scope env=pure (gR env scope.names []):=by
 unfold closureFor;dsimp only;rw [vo env _ (fun n k c=>?_) scope.names [] h]
 ·rfl
 ·by_cases hk:(k == lD)=true
  ·simp only [hk,if_true]
  ·simp only [hk,if_false,au]
theorem vN{env:Env}{x:Str}{c:Addr}:∀ {ns:List (Str×uP)} {acc:List (Str×Addr)},(∀ y∈ns,y.2=.free->∃ c,env.cells.lookup y.1=some c)->(∀ y c,acc.lookup y=some c->env.cells.lookup y=some c)->(gR env ns acc).lookup x=some c->env.cells.lookup x=some c
 | [],_,_,ha,e=>ha _ _ e
 | (n,k) :: r,acc,h,ha,e=>by
  have hr:∀ y∈r,y.2=.free->∃ c,env.cells.lookup y.1=some c:=fun y hy=>h y (aG _ hy);unfold gR at e;by_cases hk:k=.free
  ·rw [if_pos hk] at e;refine vN hr (fun y c' q=>?_) e;rw [FD] at q;by_cases hy:(y == n)=true
   ·rw [hy] at q;have e1:y=n:=eq_of_beq hy;subst e1;obtain⟨c0,hc0⟩:=h (y,k) bH hk;rw [hc0] at q ⊢;exact q
   ·have VG:(y == n)=false:=by simpa using hy
    rw [VG] at q;exact ha y c' q
  ·rw [if_neg hk] at e;exact vN hr ha e
theorem ql{env:Env}{x:Str}:∀ {ns:List (Str×uP)} {acc:List (Str×Addr)},((x,lD)∈ns\/∃ c,acc.lookup x=some c)->∃ c,(gR env ns acc).lookup x=some c
 | [],_,h=>by rcases h with h | h; exact absurd h (by simp); exact h
 | (n,k) :: r,acc,h=>by
  unfold gR;have grow:∀ a,(∃ c,acc.lookup x=some c)->∃ c,((n,a) :: acc).lookup x=some c:=fun a Pc=>by
   obtain⟨c,hc⟩:=Pc;rw [FD];by_cases hy:(x == n)=true
   ·rw [hy]; exact⟨_,rfl⟩
   ·have VG:(x == n)=false:=by simpa using hy
    rw [VG]; exact⟨c,hc⟩
  by_cases hk:k=.free
  ·rw [if_pos hk];refine ql ?_;rcases h with h | h
   ·rcases List.mem_cons.mp h with e | h
    ·injection e with e1 e2
     subst e1;exact .inr ⟨(env.cells.lookup x).getD 0,by rw [FD]; simp⟩
    ·exact .inl h
   ·exact .inr (grow _ h)
  ·rw [if_neg hk];refine ql ?_;rcases h with h | h
   ·rcases List.mem_cons.mp h with e | h
    ·injection e with e1 e2
     exact absurd e2.symm hk
    ·exact .inl h
   ·exact .inr h
abbrev eG(X:Cx)(N:List Str)(scope:Scope)(C:Addr)(s:ay)(H:Hp)(fp:List Addr):Cx :=
 { X with env:=compEnvC scope (gR X.env scope.names []) C X.env,N:=N,jk:=s,OV:=H,outer:=X.stack,stack:=X.stack,ex:=fp,fn:=fun _=>false,pn:=[],xe:=fun _ _=>False }
theorem vT{scope:Scope}{env:Env}{x:Str}(h:(Jg scope env).names.lookup x=some .cell\/(Jg scope env).names.lookup x=some .free)(rG:∀ y∈scope.names,y.2≠.cell):(x,lD)∈scope.names:=by
 have go:∀ k,(Jg scope env).names.lookup x=some k->k=.cell\/k=.free->(x,lD)∈scope.names:=by
  intro k hk hkk;have hm:=jb hk;unfold Jg at hm;dsimp only at hm;obtain⟨⟨n,j⟩,hj,e⟩:=List.mem_map.mp hm;dsimp only at e;by_cases hc:(j == lD&&env.scope.kind == .function&&env.kindOf n == some .cell)=true
  ·rw [if_pos hc] at e;rw [aJ,aJ] at hc;injection e with e1 e2
   have ej:j=.free:=eq_of_beq hc.1.1;rw [ej,e1] at hj;exact hj
  ·rw [if_neg hc] at e;injection e with e1 e2
   subst e1;rcases hkk with r | r
   ·exact absurd (e2.trans r) (rG _ hj)
   ·rw [e2.trans r] at hj; exact hj
 rcases h with h | h
 ·exact go _ h (.inl rfl)
 ·exact go _ h (.inr rfl)
section
variable {X:Cx} {N:List Str} {scope:Scope} {fp:List Addr} {pins:List (Addr×Obj)} {σ:L2.St} {H:Hp} {s:ay} {C:Addr}
theorem XO(I:Inv X pins σ H s)(rG:∀ y∈scope.names,y.2≠.cell)(Df:scope.kind=.function)(rF:∀ y∈scope.names,y.2=.free->X.env.kindOf y.1=some .cell)(hC:s.heap.objs.size<=C)(ZA:∀ b∈fp,oF X pins H b/\b < s.heap.objs.size):(eG X N scope C s H fp).Ok:=by
 have KC:∀ y∈scope.names,y.2=.free->∃ c,X.env.cells.lookup y.1=some c:=fun y hy hf=>I.ok.has _ (.inl (rF y hy hf));have Wl:∀ x c,(gR X.env scope.names []).lookup x=some c->X.env.cells.lookup x=some c:=fun x c e=>vN KC (fun y c q=>by simp at q) e;refine⟨I.ok.mod,Df,I.ok.glob,I.ok.blt,hC,fun x y c h1 h2=>I.ok.inj x y c (Wl x c h1) (Wl y c h2),fun x hx=>?_,fun x c h=>absurd h (by simp),I.ok.hd,I.ok.frames,.inl rfl,fun b hb=>?_,I.bs,bc I.ok.Sk I.sz,fun b o e hb=>?_,fun b hb=>?_,I.stack,I.D4⟩
 ·exact ql (.inl (vT hx rG))
 ·obtain⟨⟨f0,f1,f2,f3,f4,f5⟩,wL⟩:=ZA b hb;exact⟨bx (bC wL hC),fun x c e=>f4 x c (Wl x c e)⟩
 ·obtain⟨⟨f0,f1,f2,f3,f4,f5⟩,wL⟩:=ZA b hb;rcases f3 with f3 | f3
  ·exact I.ok.J9 b o e f3
  ·exact absurd (bC (aR e) (bc I.ok.Sk f3)) (jh _)
 ·obtain⟨⟨f0,f1,f2,f3,f4,f5⟩,wL⟩:=ZA b hb;intro z;rcases List.mem_cons.mp (I.JM b z) with e | e
  ·exact f1 e
  ·exact f2 e
theorem US{rS:Heap}{m:Nat}{fr:List Nat}{tk:Nat}(I:Inv X pins σ H s)(ok:(eG X N scope s.heap.objs.size s H fp).Ok)(Xs:∀ y∈scope.names,y.2≠.cell)(rF:∀ y∈scope.names,y.2=.free->X.env.kindOf y.1=some .cell)(hN:N.length=m+fr.length)
  (hfr:∀ j i x,fr[j]?=some i->N[m+j]?=some x->X.N[i]?=some x/\X.env.scope.names.lookup x=some .cell/\(Jg scope X.env).names.lookup x=some .cell) (Oi:∃ mm,rS.Ns s.heap.objs.size mm) (hk:∀ b o,s.heap.get? b=some o->rS.get? b=some o) :
  Inv (eG X N scope s.heap.objs.size s H fp) [] (aT m none++fr.map fun i=>(σ[i]?).getD none) H { s with heap:=rS,toks:=tk }:=by
 have KC:∀ y∈scope.names,y.2=.free->∃ c,X.env.cells.lookup y.1=some c:=fun y hy hf=>I.ok.has _ (.inl (rF y hy hf));have Wl:∀ x c,(gR X.env scope.names []).lookup x=some c->X.env.cells.lookup x=some c:=fun x c e=>vN KC (fun y c q=>by simp at q) e;obtain⟨mm,Oi⟩:=Oi;refine⟨ok,rfl,I.bare,Un.kept hk,⟨mm,Oi,fun i x v h1 h2 h3=>?_⟩,fun x c e=>?_,I.b7.fresh (aE _),fun x c e=>?_,fun p hp=>absurd hp (by simp),I.b7.kept hk,?_⟩
 ·by_cases hi:i < m
  ·rw [b9 (by simpa using hi),mD] at h2;split at h2 <;> cases h2
  ·obtain⟨j,rfl⟩:∃ j,i=m+j:=⟨i - m,by lia⟩;rw [bS (by simp),fW,u3,bu] at h2;cases hj:fr[j]? with
   | none=>rw [hj] at h2; cases h2
   | some k =>
    rw [hj] at h2;have RJ:(σ[k]?).getD none=some v:=by simpa using h2
    have hk':σ[k]?=some (some v):=by
     cases q:σ[k]? with
     | none=>rw [q] at RJ; cases RJ
     | some o=>rw [q] at RJ; simp at RJ; rw [RJ]
    obtain⟨e1,e2,e3⟩:=hfr j k x hj h1;obtain⟨m0,hn0,hl0⟩:=I.loc;obtain⟨u,r,l⟩:=hl0 k x v e1 hk' (.inr (.inl e2));refine⟨u,r,.inr ⟨.inl e3,?_⟩⟩;rcases l with ⟨l1,_⟩ | ⟨_,c,hc,rG⟩
    ·have:X.env.scope.names.lookup x=some .local:=l1;rw [e2] at this; cases this
    ·have hx:(x,lD)∈scope.names:=vT (.inl e3) Xs;obtain⟨c',Pd⟩:=ql (env:=X.env) (x:=x) (ns:=scope.names) (acc:=[]) (.inl hx);have:=Wl x c' Pd;rw [hc] at this;have ec:c=c':=aZ this;subst ec;obtain⟨oc,Yg,hd⟩:=rG;exact⟨c,Pd,oc,hk _ _ Yg,hd⟩
 ·obtain⟨v,oc,Yg,hd⟩:=I.cell x c (Wl x c e);exact⟨v,oc,hk _ _ Yg,hd⟩
 ·exact I.jA x c (Wl x c e)
 ·rw [aC,fW,aq];exact hN.symm
theorem E9{prog:bE}{w:World}{A:cO}{R:Result->ay->Prop}{s:ay}{elt target iter:Expr}{ifs:List Expr}{sc:Scope}{pos:Pos}{it acc:Value}{env:Env}(J:Nat->ay->Prop)
  (turn:∀ n s,J n s->wpAny (model prog w) A (yt it) (fun r fk=>match r with
   | none=>R (.ok .next) fk
   | some v=>wpAny (model prog w) A (zR target it v) (fun _ Yx=>wpAny (model prog w) A (Lv target env v) (fun _ j0 =>
     wpAny (model prog w) A (forIn ifs true fun c r=>if r=true then do let ok ← isTrue c env (eval c env); pure (uG ok) else pure (uG r)) (fun k D3 =>
      if k=true then wpAny (model prog w) A (eval elt env) (fun x Nu=>wpAny (model prog w) A (call (.builtin "list.append") [acc,x]) (fun _ PM=>∃ m,m < n/\J m PM) (fun _ _=>False) Nu) (fun _ _=>False) D3
      else ∃ m,m < n/\J m D3) (fun _ _=>False) j0) (fun _ _=>False) Yx) (fun _ _=>False) fk) (fun _ _=>False) s) (n:Nat) (h:J n s) :
  zV (model prog w) A (.compLoop (.ListComp elt [⟨target,iter,ifs,0⟩] sc pos) 0 it acc env) R s:=by
 have no:∀ {α:Type} {t:Sem α} {Q:α->ay->Prop} {E:Value->ay->Prop} {s:ay},wpAny (model prog w) A t Q (fun _ _=>False) s->wpAny (model prog w) A t Q E s:=fun h=>ly h (fun _ _ q=>q) fun _ _ z=>z.elim;refine codeAny_loop rfl J (fun n s hJ=>?_) n h;show wpAny _ A ((compTurn (.ListComp elt [⟨target,iter,ifs,0⟩] sc pos) 0 it acc env).onRaise (fun x=>do noteFrame x env; theTreesLotGoes x)) _ _ s;refine wpAny_noted ?_;rw [compTurn_list];refine ag (xr (ag (hU (no (turn n s hJ)) fun r fk rS=>?_)));cases r with
 | none=>exact aA rS
 | some v =>
  refine ag (hU (no rS) fun _ j0 Kx=>ag (hU (no Kx) fun _ D3 abL=>ag (hU (no abL) fun k Nu Zl=>?_)));cases k with
  | false=>exact aA ⟨rfl,Zl⟩
  | true=>exact ag (ag (hU (no Zl) fun x PM abK=>ag (hU (no abK) fun _ aeX abJ=>aA (aA ⟨rfl,abJ⟩))))
def CompEnd(X:Cx)(pins:List (Addr×Obj))(σ:L2.St)(H:Hp)(G:Gp)(Q:DK)(C Dd:Addr)(s':ay):Prop :=
 ∃ m H' G',Inv X pins σ H' s'/\s'.heap.Ns C m/\oF X pins H' C/\Mv X.K H G H' G'/\Q (.ref Dd) G'
inductive X0 (Xc:Cx):List Expr->Option yp->Prop
 | none:X0 Xc [] none
 | some {c:Expr} {t:yp}:Pg Xc c t->X0 Xc [c] (some t)
theorem DA{τ:iO}{G G2:Gp}{H2:Hp}{s2:ay}{tg elt iter:Expr}{ifs:List Expr}{pos:Pos}{m:Nat}{fr:List Nat}{E:lM}{g:B0}{c:Option yp}{te:gq}{J:It}{tn:Nat->Heap->Prop}{it:Addr}{ds:List D}{ok:Gp->Prop}{Q:DK}{Rr:Value->Addr->Result->ay->Prop}{E0:Value->ay->Prop}
  (hc:X.calm=true) (rG:∀ y∈scope.names,y.2≠.cell) (Df:scope.kind=.function) (rF:∀ y∈scope.names,y.2=.free->X.env.kindOf y.1=some .cell) (hN:N.length=m+fr.length)
  (hfr:∀ j i x,fr[j]?=some i->N[m+j]?=some x->X.N[i]?=some x/\X.env.scope.names.lookup x=some .cell/\(Jg scope X.env).names.lookup x=some .cell)
  (hg:∀ C s H fp,OO (eG X N scope C s H fp) tg g) (hi:∀ C s H fp,X0 (eG X N scope C s H fp) ifs c) (he:∀ C s H fp,gG (eG X N scope C s H fp) elt te)
  (I:I2 X pins σ H2 τ G2 s2) (m2:Mv X.K H G H2 G2) (T:Turn X.prog X.w X.K tg J fp it tn) (S5:tn 0 s2.heap) (f2:∀ b∈fp,oF X pins H2 b) (wk:V5 X.K J H2 ds ok) (hz:ds.length<=SZ)
  (hE0:∀ ex G,¬ E ex G) (q:j4 g c te ok ds E (Bx m fr τ) G2 [] fun xs G3=>ip G3 (.lst xs) Q)
  (fin:∀ C s',CompEnd X pins σ H G Q C s2.heap.objs.size s'->Rr (.ref s2.heap.objs.size) C (.ok .next) s') :
  wpAny (model X.prog X.w) X.A (newList []) (fun acc D3=>wpAny (model X.prog X.w) X.A (newFunctionEnv scope X.env.globals (gR X.env scope.names []) [] X.env.qual none .none (some X.env)) (fun ZX Nu =>
   zV (model X.prog X.w) X.A (.compStart (.ListComp elt [⟨tg,iter,ifs,0⟩] scope pos) 0 (.ref it) acc { ZX with scope:=Jg scope X.env }) (Rr acc ZX.locals) Nu) E0 D3) E0 s2:=by
 have sz:a8=16777216:=cD;have ye:H2 s2.heap.objs.size=none:=I.inv.b7.fresh (aE _);have XB:G2 s2.heap.objs.size=none:=I.ab.free ye;refine dg (wpAny_newFunctionEnv rG (by intro y hy; simp at hy) (fun rS RA Ru=>?_) Df);dsimp only at RA Ru ⊢;have I3:Inv X pins σ (upd H2 s2.heap.objs.size (.lst [])) { s2 with heap:=s2.heap.push { cls:=.type "list",data:=.seq ([]:List Value).toArray },toks:=s2.toks }:=I.inv.abz (ys:=[]) .nil (cw _);generalize hs3:({ s2 with heap:=s2.heap.push { cls:=.type "list",data:=.seq ([]:List Value).toArray },toks:=s2.toks }:ay)=s3 at I3;generalize ZK:upd H2 s2.heap.objs.size (.lst [])=H3 at I3;have eH3:∀ b,b≠s2.heap.objs.size->H3 b=H2 b:=fun b hb=>by rw [<-ZK,bG hb]
 have HH:s3.heap=s2.heap.push { cls:=.type "list",data:=.seq ([]:List Value).toArray }:=by rw [<-hs3]
 have YC:s3.heap.objs.size=s2.heap.objs.size+1:=by rw [HH,lq]
 have RD:∀ b∈fp,b < s2.heap.objs.size:=fun b hb=>by
  obtain⟨o,e,_⟩:=T.obj _ _ S5 b hb;exact aR e
 have Zz:∀ b∈fp,oF X pins H3 b/\b < s3.heap.objs.size:=fun b hb=>by
  have hb2:=RD b hb;obtain⟨f0,f1⟩:=f2 b hb;exact⟨⟨by rw [eH3 b (bx hb2)]; exact f0,f1⟩,bC hb2 (by rw [YC]; exact Jq _)⟩
 have okc:(eG X N scope s3.heap.objs.size s3 H3 fp).Ok:=XO I3 rG Df rF (aE _) Zz;have VP:∀ b o,s3.heap.get? b=some o->rS.get? b=some o:=fun b o e=>by
  have hb:b < s3.heap.objs.size:=aR e;refine Ru.extBut b o ?_ (aF _ ?_)
  ·rw [<-HH]; exact bx hb
  ·rw [<-HH]; exact e
 have ab6:∃ mm,rS.Ns s3.heap.objs.size mm:=⟨_,by rw [HH]; exact RA⟩;have I4:=US (tk:=s3.toks+([]:List (Str×Value)).length) I3 okc rG rF hN hfr ab6 VP;have abE:Kp H2 H3:=by rw [<-ZK]; exact .new ye
 have Ss:kK X.K H3 G2:=by rw [<-ZK]; exact(Mv.MG I.ab ye).ab
 have mv3:Mv X.K H2 G2 H3 G2:=by rw [<-ZK]; exact .MG I.ab ye
 have st3:OZ X.K H3 (aT m none++fr.map fun i=>(σ[i]?).getD none) (Bx m fr τ):=by
  refine⟨by unfold Bx; rw [aC,aC,aq,aq,fW,fW],fun i d h2=>?_⟩;unfold Bx at h2;by_cases hi:i < m
  ·rw [b9 (by simpa using hi),mD] at h2;split at h2 <;> cases h2
  ·obtain⟨j,rfl⟩:∃ j,i=m+j:=⟨i - m,by lia⟩;rw [bS (by simp),fW,u3,bu] at h2;rw [bS (by simp),fW,u3,bu];cases hj:fr[j]? with
   | none=>rw [hj] at h2; cases h2
   | some k =>
    rw [hj] at h2;have RJ:(τ[k]?).getD none=some d:=by simpa using h2
    have hk':τ[k]?=some (some d):=by
     cases qq:τ[k]? with
     | none=>rw [qq] at RJ; cases RJ
     | some o=>rw [qq] at RJ; simp at RJ; rw [RJ]
    obtain⟨v,e1,e2⟩:=I.st.at' k d hk';exact⟨v,by simp [e1],e2.mono abE⟩
 have hD3:H3 s2.heap.objs.size=some (.lst []):=by rw [<-ZK,bU]
 have YB:tn 0 rS:=T.keep _ _ _ S5 fun b hb o e=>VP b o (by rw [HH]; exact aF _ e);have PR:∀ {Hc:Hp},(∀ b∈fp,Hc b=none)->∀ b∈fp,oF (eG X N scope s3.heap.objs.size s3 H3 fp) [] Hc b:=fun hn b hb =>
  ⟨hn b hb,(okc.ZN b hb).1,okc.Oy b hb,.inl hb,fun x c e=>(okc.ZN b hb).2 x c e,fun p hp=>absurd hp (by simp)⟩
 have neD:∀ b∈fp,b≠s2.heap.objs.size:=fun b hb=>bx (RD b hb);have loop:zV (model X.prog X.w) X.A (.compLoop (.ListComp elt [⟨tg,iter,ifs,0⟩] scope pos) 0 (.ref it) (.ref s2.heap.objs.size) (eG X N scope s3.heap.objs.size s3 H3 fp).env) (Rr (.ref s2.heap.objs.size) s3.heap.objs.size)
   { s3 with heap:=rS,toks:=s3.toks+([]:List (Str×Value)).length }:=by
  refine E9 (fun n s'=>∃ i S1 Hc PA Gc vt xf,I2 (eG X N scope s3.heap.objs.size s3 H3 fp) [] S1 Hc PA Gc s'/\Gc s2.heap.objs.size=none/\Hc s2.heap.objs.size=some (.lst vt)/\ba X.K Hc vt xf/\xf.length<=i/\Mv X.K H2 G2 Hc Gc/\tn i s'.heap/\(∀ b∈fp,Hc b=none) /\
   n=ds.length - i/\i<=ds.length/\j4 g c te ok (ds.drop i) E PA Gc xf fun xs G3=>ip G3 (.lst xs) Q) ?_ ds.length
   ⟨0,_,H3,_,G2,[],[],⟨I4,st3,Ss⟩,XB,hD3,.nil,aE _,mv3,YB,fun b hb=>by rw [eH3 b (neD b hb)]; exact(f2 b hb).1,rfl,cw _,q⟩
  rintro n s4 ⟨i,S1,Hc,PA,Gc,vt,xf,Ic,gD,hD,rA,hA,mc,stc,frc,rfl,hle,wq⟩;have kpc:Kp H2 Hc:=mc.kp I.ab;by_cases wL:i < ds.length
  ·rw [iF wL] at wq;obtain⟨okG,wq⟩:=wq;obtain⟨go,yl⟩:=(wk i Hc Gc kpc Ic.ab okG).1 ds[i] (by simp [wL]);refine hU (T.item (eG X N scope s3.heap.objs.size s3 H3 fp) rfl rfl rfl hc i [] s4 S1 Hc (fun _ _=>False) Ic.inv (PR frc) stc go) ?_;rintro r s5 ⟨u,hr,h5⟩;subst hr;refine hU h5 ?_;rintro _ s6 ⟨x,H6,I6,r6,y6,st6,fr6⟩;obtain⟨rd6,m6⟩:=yl x H6 y6;have I6':=I6.pinned (PR fr6) (T.obj _ _ st6);have J6:I2 (eG X N scope s3.heap.objs.size s3 H3 fp) ([]++sX fp s6.heap) S1 H6 PA Gc s6:=⟨I6',Ic.st.mono (m6.kp Ic.ab),m6.ab⟩;have back:∀ {Yp:L2.St} {H9:Hp} {X4:iO} {G9:Gp} {s9:ay} {aV:List V} {aD:List D},I2 (eG X N scope s3.heap.objs.size s3 H3 fp) ([]++sX fp s6.heap) Yp H9 X4 G9 s9->Mv X.K H2 G2 H9 G9->G9 s2.heap.objs.size=none->H9 s2.heap.objs.size=some (.lst aV)->ba X.K H9 aV aD->aD.length<=i+1 ->
     (j4 g c te ok (ds.drop (i+1)) E X4 G9 aD fun xs G3=>ip G3 (.lst xs) Q)->∃ mm,mm < ds.length - i/\∃ i S1 Hc PA Gc vt xf,I2 (eG X N scope s3.heap.objs.size s3 H3 fp) [] S1 Hc PA Gc s9/\Gc s2.heap.objs.size=none/\Hc s2.heap.objs.size=some (.lst vt)/\ba X.K Hc vt xf/\xf.length<=i /\
      Mv X.K H2 G2 Hc Gc/\tn i s9.heap/\(∀ b∈fp,Hc b=none)/\mm=ds.length - i/\i<=ds.length/\j4 g c te ok (ds.drop i) E PA Gc xf fun xs G3=>ip G3 (.lst xs) Q:=fun {Yp H9 X4 G9 s9 aV aD} I9 m9 g9 h9 r9 l9 n9=>by
    refine⟨ds.length - (i+1),by lia,i+1,Yp,H9,X4,G9,aV,aD,⟨I9.inv.vM,I9.st,I9.ab⟩,g9,h9,r9,l9,m9,T.keep _ _ _ st6 fun b hb o e=>(I9.inv.pin (b,o) (dj _ (dj _ (qF hb e)))).1,fun b hb=>?_,rfl,wL,n9⟩;obtain⟨o,e,d⟩:=T.obj _ _ st6 b hb;exact(I9.inv.pin (b,o) (dj _ (dj _ (qF hb e)))).2.1
   have mc6:=mc.trans m6;have hD6:=m6.keep _ _ hD gD;refine hU (hg _ _ _ _ E _ s6 S1 H6 PA Gc x ds[i] u _ (Lk.none hE0) J6 r6 rd6 wq) ?_;rintro _ s7 ⟨O9,H7,O8,G7,I7,m7,q7⟩;have hD7:=m7.keep _ _ hD6.1 gD;have mc7:=mc6.trans m7;have rA7:=rA.mono ((m6.trans m7).kp Ic.ab);have ZP:∀ (H8:Hp) (G8:Gp) (s8:ay),I2 (eG X N scope s3.heap.objs.size s3 H3 fp) ([]++sX fp s6.heap) O9 H8 O8 G8 s8->Mv X.K H7 G7 H8 G8->(te E O8 G8 fun y G9=>j4 g c te ok (ds.drop (i+1)) E O8 G9 (xf++[y]) fun xs G3=>ip G3 (.lst xs) Q) ->
     wpAny (model X.prog X.w) X.A (eval elt (eG X N scope s3.heap.objs.size s3 H3 fp).env) (fun y Nu=>wpAny (model X.prog X.w) X.A (call (.builtin "list.append") [.ref s2.heap.objs.size,y]) (fun _ PM=>∃ mm,mm < ds.length - i/\∃ i S1 Hc PA Gc vt xf,I2 (eG X N scope s3.heap.objs.size s3 H3 fp) [] S1 Hc PA Gc PM/\Gc s2.heap.objs.size=none/\Hc s2.heap.objs.size=some (.lst vt)/\ba X.K Hc vt xf/\xf.length<=i /\
      Mv X.K H2 G2 Hc Gc/\tn i PM.heap/\(∀ b∈fp,Hc b=none)/\mm=ds.length - i/\i<=ds.length/\j4 g c te ok (ds.drop i) E PA Gc xf fun xs G3=>ip G3 (.lst xs) Q) (fun _ _=>False) Nu) (fun _ _=>False) s8:=fun H8 G8 s8 I8 m8 q8=>by
    refine j8 (he _ _ _ _) (Lk.none hE0) I8 q8 fun v H9 d9 G9 u9 s9 I9 m9 r9 rd9 q9=>?_;have m79:=m8.trans m9;have hD9:=m79.keep _ _ hD7.1 hD7.2;have rA9:=rA7.mono (m79.kp I7.ab);have mc9:=mc7.trans m79;refine hU (CZ (X:=eG X N scope s3.heap.objs.size s3 H3 fp) _ s9 O9 H9 (.ref s2.heap.objs.size) [v] _ [u9] (fun _ H'=>H'=upd H9 s2.heap.objs.size (.lst (vt++[v]))) I9.inv rfl (.cons r9 .nil)
     ⟨_,vt,v,rfl,rfl,hD9.1,by rw [rA.length,sz]; have:SZ=16777216:=rfl; lia,rfl⟩) ?_
    rintro _ s10 ⟨v10,H10,I10,_,e10⟩;subst e10;have kpA:Kp H9 (upd H9 s2.heap.objs.size (.lst (vt++[v]))):=.putL hD9.1;have abA:kK X.K (upd H9 s2.heap.objs.size (.lst (vt++[v]))) G9:=fun a g' e=>by
     have ne:a≠s2.heap.objs.size:=by rintro rfl; rw [hD9.2] at e; cases e
     exact(I9.ab a g' e).mono kpA (bG ne)
    have mA:Mv X.K H2 G2 (upd H9 s2.heap.objs.size (.lst (vt++[v]))) G9:=⟨fun a o e n=>by
      have ne:a≠s2.heap.objs.size:=ez e ye;obtain⟨e1,e2⟩:=mc9.keep a o e n;exact⟨by rw [bG ne]; exact e1,e2⟩,fun a n=>by
      by_cases ha:a=s2.heap.objs.size
      ·rw [ha,bU]; simp
      ·rw [bG ha]; exact mc9.jF a n,abA⟩
    exact back ⟨I10,I9.st.mono kpA,abA⟩ mA hD9.2 bU ((rA9.append (.cons rd9 .nil)).mono kpA) (by rw [aC,cx]; lia) q9
   cases hi s3.heap.objs.size s3 H3 fp with
   | none =>
    refine wpAny_tests_nil ?_;rw [if_pos rfl];exact ZP H7 G7 s7 I7 (.refl I7.ab) q7
   | some ZH =>
    refine wpAny_tests_one (PI ZH (Lk.none hE0) I7 q7 fun k H8 G8 s8 I8 m8 q8=>?_);cases k with
    | true =>
     rw [if_pos rfl] at q8 ⊢;exact ZP H8 G8 s8 I8 m8 q8
    | false =>
     rw [if_neg fu] at q8 ⊢;have hD8:=m8.keep _ _ hD7.1 hD7.2;exact back I8 (mc7.trans m8) hD8.2 hD8.1 (rA7.mono (m8.kp I7.ab)) (by lia) q8
  ·have hn:ds.length<=i:=by lia
   rw [mX hn] at wq;obtain⟨okG,qn⟩:=wq;have stop:=(wk i Hc Gc kpc Ic.ab okG).2 hn;refine hU (T.done (eG X N scope s3.heap.objs.size s3 H3 fp) rfl rfl rfl hc i [] s4 S1 Hc (fun _ _=>False) Ic.inv (PR frc) stc stop) ?_;rintro r s5 ⟨hr,I5⟩;subst hr;refine fin s3.heap.objs.size s5 ?_;obtain⟨mm,ab7,_⟩:=I5.loc;have hC5:Hc s3.heap.objs.size=none:=I5.free;have I6:Inv X pins σ Hc s5:=by
    obtain⟨h5,g5,d5,t5,o5⟩:=s5;have eo:o5=s3.os:=I5.os;subst eo;exact I3.call (h':=h5) (g':=g5) (d':=d5) (t':=t5) (ch:=fp) I5.base I5.b7 I5.bare fun b hb=>by
     obtain⟨⟨f0,f1,f2',f3,f4,f5⟩,hl⟩:=Zz b hb;exact⟨f3,f1,f4,f5⟩
   have mvF:Mv X.K H2 G2 Hc (eL Gc s2.heap.objs.size (.lst xf)):=⟨fun a o e n=>by
     have ne:a≠s2.heap.objs.size:=ez e ye;obtain⟨e1,e2⟩:=mc.keep a o e n;exact⟨e1,by rw [cE ne]; exact e2⟩,mc.jF,fun a g' e=>by
     by_cases ha:a=s2.heap.objs.size
     ·subst ha;rw [az] at e;cases e;exact⟨vt,hD,rA⟩
     ·rw [cE ha] at e;exact Ic.ab a g' e⟩
   exact⟨mm,Hc,_,I6,ab7,I3.Cf (aE _) hC5,m2.trans mvF,qn _ gD⟩
 have all:zV (model X.prog X.w) X.A (.compStart (.ListComp elt [⟨tg,iter,ifs,0⟩] scope pos) 0 (.ref it) (.ref s2.heap.objs.size) (eG X N scope s3.heap.objs.size s3 H3 fp).env) (Rr (.ref s2.heap.objs.size) s3.heap.objs.size)
   { s3 with heap:=rS,toks:=s3.toks+([]:List (Str×Value)).length }:=codeAny_compStart_list loop (T.self _ 0 _ _ _ YB loop)
 subst hs3;exact all
end
section
variable {X:Cx} {N:List Str} {scope:Scope} {tg elt iter:Expr} {ifs:List Expr} {pos:Pos} {m:Nat} {fr:List Nat} {wi:OL} {g:B0} {c:Option yp} {te:gq}
structure BS(X:Cx)(N:List Str)(scope:Scope)(m:Nat)(fr:List Nat):Prop where
 cell:∀ y∈scope.names,y.2≠.cell
 kind:scope.kind=.function
 names:∀ y∈scope.names,y.2=.local->scope.names.lookup y.1=some .local
 free:∀ y∈scope.names,y.2=.free->X.env.kindOf y.1=some .cell
 len:N.length=m+fr.length
 at':∀ j i x,fr[j]?=some i->N[m+j]?=some x->X.N[i]?=some x/\X.env.scope.names.lookup x=some .cell/\(Jg scope X.env).names.lookup x=some .cell
theorem BS.closed{X:Cx}{N:List Str}{scope:Scope}{m:Nat}{fr:List Nat}(k:BS X N scope m fr){pins:List (Addr×Obj)}{σ:L2.St}{H:Hp}{s:ay}(I:Inv X pins σ H s):closureFor scope X.env=pure (gR X.env scope.names []) :=
 Cm fun y hy hf=>I.ok.has _ (.inl (k.free y hy hf))
theorem NP(hc:X.calm=true)(k:BS X N scope m fr)(hi:ON X tg iter wi)(hg:∀ C s H fp,OO (eG X N scope C s H fp) tg g)(Xq:∀ C s H fp,X0 (eG X N scope C s H fp) ifs c)(he:∀ C s H fp,gG (eG X N scope C s H fp) elt te)
  (hs:autoParam (∀ x,oV iter X.env x=pure x) Ai._auto_1):gG X (.ListComp elt [⟨tg,iter,ifs,0⟩] scope pos) (gL m fr wi g c te):=by
 intro E pins s σ H τ G Q hE I h;rw [eval_ListComp];refine wpAny_comprehension_free (use:=none) rfl hs (k.closed I.inv) k.kind k.names (hU (hi E pins s σ H τ G _ hE I h) fun xv fk rS=>hU rS fun VE j0 Kx=>?_);obtain⟨it,fp,tn,J,H2,G2,ds,ok,e,nv,m2,T,S5,f2,wk,hz,q⟩:=Kx;subst e;refine DA (Rr:=fun acc C=>compPost (model X.prog X.w) X.A X.xe none (r8 X pins σ H G Q) acc C) hc k.cell k.kind k.free k.len k.at' hg Xq he (I.mv nv m2) m2 T S5 f2 wk hz (fun _ _ z=>z) q ?_;rintro C s' ⟨mm,H',G',I',Oi,fpC,mv,q'⟩;refine⟨mm,Oi,fun h' Ce=>?_⟩;obtain⟨f0,f1,_,f3,f4,f5⟩:=fpC;exact⟨.ref _,H',.ref _,G',I'.turned (t':=s'.toks) (fun b o hb e=>Ce.extBut b o hb e) f0 f1 f3 f4 f5,mv,rfl,.ref _,q'⟩
theorem GH{i:Nat}{y:Str}{py PU:Pos}(hN:X.N.Nodup)(hyi:X.N[i]?=some y)(hy:X.env.scope.names.lookup y=some .local)(hc:X.calm=true)(k:BS X N scope m fr)(hi:ON X tg iter wi)(hg:∀ C s H fp,OO (eG X N scope C s H fp) tg g)
  (Xq:∀ C s H fp,X0 (eG X N scope C s H fp) ifs c) (he:∀ C s H fp,gG (eG X N scope C s H fp) elt te) (hsw:autoParam (FR (.ListComp elt [⟨tg,iter,ifs,0⟩] scope pos) (some (.Name y py)) PU.line X.env=pure true) Ar._auto_1)
  (hs:autoParam (∀ x,oV iter X.env x=pure x) Ai._auto_1):FN X (.Assign [.Name y py] (.ListComp elt [⟨tg,iter,ifs,0⟩] scope pos) PU) (bF (gL m fr wi g c te) (aI i)):=by
 intro E pins s σ H τ G D hE I h;rw [exec_Assign_Name_used _ _ _ _ hsw];refine ag (xr (ag ?_));show wpAny _ X.A (do let _ ← comprehension (.ListComp elt [⟨tg,iter,ifs,0⟩] scope pos) scope X.env _ (newList []) false (eval iter X.env) (some (Lv (.Name y py) X.env))) _ _ s;refine ag (hU (wpAny_comprehension_free (use:=some (Lv (.Name y py) X.env)) (Q:=fun _ s'=>U5 X pins H G D .next s') rfl hs (k.closed I.inv) k.kind k.names (hU (hi E pins s σ H τ G _ hE I h) fun xv fk rS=>hU rS fun VE j0 Kx=>?_)) fun _ s' hq=>aA (aA hq));obtain⟨it,fp,tn,J,H2,G2,ds,ok,e,nv,m2,T,S5,f2,wk,hz,q⟩:=Kx;subst e;refine DA (Rr:=fun acc C=>compPost (model X.prog X.w) X.A X.xe (some (Lv (.Name y py) X.env)) (fun _ s'=>U5 X pins H G D .next s') acc C) hc k.cell k.kind k.free k.len k.at' hg Xq he (I.mv nv m2) m2 T S5 f2 wk hz (fun _ _ z=>z) q ?_;rintro C s' ⟨mm,H',G',I',Oi,fpC,mv,q'⟩;show wpAny (model X.prog X.w) X.A (Lv (.Name y py) X.env (.ref j0.heap.objs.size)) _ X.xe s';obtain⟨f0,f1,_,f3,f4,f5⟩:=fpC;refine wpAny_assign_Name (xG (v:=.ref j0.heap.objs.size) I' hN hyi (.inl hy) rfl (?_) (.inr hy));rintro s3 I3 ⟨a,hsb,ha⟩;have hCa:C≠a:=by
  rcases ha with rfl | ha
  ·exact f1
  ·exact fun e=>f4 y a ha e.symm
 refine⟨mm,Oi.sameBut hsb hCa,fun h' Ce=>?_⟩;exact⟨_,H',_,G',⟨I3.turned (t':=s3.toks) (fun b o hb e=>Ce.extBut b o hb e) f0 f1 f3 f4 f5,(I.st.mono (mv.kp I.ab)).set i (.ref _),mv.ab⟩,mv,q'⟩
def bZ{i:Nat}{u:Fv}{n:Nat}(h:∀ E ds τ G Q,u E ds τ G Q->ds.length=n):∀ E ds τ G Q,cX (aI i) u E ds τ G Q->ds.length=n+1 :=
 Oq h (fun _ _ _ _ _ _ q k=>k _ _ q) fun _ _ _ _ q=>q
theorem bo (i:Nat) {x:Str} {pos:Pos} (hN:autoParam (X.N[i]?=some x) Ar._auto_1) (hv:autoParam (Vis X.env.scope x) Ao._auto_1) (hd:autoParam ((x == ("__debug__" : Str))=false) Ad._auto_1)
  (Ja:autoParam ((x == ("__classdict__" : Str))=false) Ad._auto_1):gG X (.Name x pos) (ar i):=Ua hN hv hd Ja
theorem Km{pins:List (Addr×Obj)}{s:ay}{σ:L2.St}{H:Hp}{G:Gp}{x:V}{d:D}{v:Value}{zs:List D}(I:Inv X pins σ H s)(ab:kK X.K H G)(rx:RelV x v)(rd:bX X.K H x d)(hi:itemsOf d G=some zs) :
  ∃ l vs bL,v=.ref l/\Vals vs bL/\ba X.K H vs zs/\(s.heap.IsList l bL.toArray\/s.heap.IsTuple l bL.toArray)/\vs.length<=a8:=by
 cases rd with
 | dw hq rs =>
  cases hi;cases rx;obtain⟨bL,rv,pl,hz⟩:=I.list hq.sq;exact⟨_,_,bL,rfl,rv,rs,.inl pl.isList,hz⟩
 | tup hq rs =>
  cases hi;cases rx;obtain⟨bL,rv,pl,hz⟩:=I.tuple (.of hq);exact⟨_,_,bL,rfl,rv,rs,.inr pl,hz⟩
 | ref l =>
  unfold itemsOf at hi;dsimp only at hi;cases hg:G l with
  | none=>rw [hg] at hi; cases hi
  | some gg =>
   rw [hg] at hi;cases gg with
   | lst ds =>
    cases hi;cases rx;obtain⟨vs,hv,rs⟩:=ab.lst hg;obtain⟨bL,rv,pl,hz⟩:=I.list (.of hv);exact⟨_,_,bL,rfl,rv,rs,.inl pl.isList,hz⟩
   | ins _ _=>cases hi
   | rV _=>cases hi
   | fU _=>cases hi
 | _=>cases hi
theorem Qm{body:List Stmt}{t2:gN}(h:uM X body t2){E:lM}(hE:Lk X E):Yn X body (fun D σ H=>∃ (τ:iO) (G:Gp) (D2:lF),OZ X.K H σ τ/\kK X.K H G/\t2 E D2 τ G /\
  (∀ kz H' ph G',Mv X.K H G H' G'->D2.nx ph G'->D.nx kz H')/\(∀ v H' d G',Mv X.K H G H' G'->bX X.K H' v d->D2.rt d G'->D.rt v H')/\(∀ τ G,¬ D2.bk τ G)/\(∀ τ G,¬ D2.ct τ G)):=by
 rintro pins s σ H D I ⟨τ,G,D2,st,ab,q,k1,k2,k3,k4⟩;refine hU (h E pins s σ H τ G D2 hE ⟨I,st,ab⟩ q) fun f s1 z=>?_;cases f with
 | next=>obtain⟨kz,H',ph,G',J,mv,z⟩:=z; exact⟨kz,H',J.inv,k1 kz H' ph G' mv z⟩
 | brk=>obtain⟨kz,H',ph,G',J,mv,z⟩:=z; exact(k3 _ _ z).elim
 | cont=>obtain⟨kz,H',ph,G',J,mv,z⟩:=z; exact(k4 _ _ z).elim
 | ret u=>obtain⟨v,kz,H',d,G',J,mv,r,rd,z⟩:=z; exact⟨v,kz,H',J,r,k2 v H' d G' mv rd z⟩
theorem Gm{K:aj}{H:Hp}{Nn:List Str}{vs:List V}{ds:List D}(r:ba K H vs ds):OZ K H (L2.start Nn vs) (aY Nn.length ds):=by
 unfold L2.start aY;refine⟨by simp [r.length],fun i d h=>?_⟩;by_cases hi:i < ds.length
 ·rw [b9 (by simpa using hi),bu] at h;cases hd:ds[i]? with
  | none=>rw [hd] at h; cases h
  | some d' =>
   rw [hd] at h;have e:d'=d:=by simpa using h
   subst e;obtain⟨v,h1,h2⟩:=r.get hd;refine⟨v,?_,h2⟩;rw [b9 (by simpa [r.length] using hi),bu,h1]; rfl
 ·rw [bS (by simpa using hi),mD] at h;split at h <;> cases h
theorem MM{P:bE}{w:World}{K:aj}{mg:Str->Option Value}{base:Heap}{x qual:Str}{st:Stmt}{f:Addr}{fd:fH}{Nn ps:List Str}{k:Nat}{sp:jM}{rd:gN}(F:Tg K x qual st f fd)(S:lV Nn ps (bO st))(len:∀ ds G Q E,sp ds G Q E->ds.length=ps.length)
  (hr:∀ ds G Q,sp ds G Q (fun _ _=>False)->rd (fun _ _=>False) (ends Q) (aY Nn.length ds) G)
  (hb:∀ (lx:Value) (A:cO) (outer:List Env) (s:ay) (H:Hp) (E:XK),kM k (A.deeper (yu qual (bO st) s.heap.objs.size f lx))->uM (w4 Ls P w K mg base Nn qual (bO st) f lx A outer s H E).W4 (gV st) rd):tT P w K mg base Ls (k+1) f fd ps (B6 K sp):=by
 refine F.ok S ((by rintro vs H Q E ⟨ds,G,Q2,r,ab,q,_⟩; exact by rw [r.length]; exact len _ _ _ _ q)) ?_;rintro lx A outer s H vs Q E Rw ⟨ds,G,Q2,r,ab,q,kk⟩;refine⟨_,Qm (hb lx A outer s H E Rw) (E:=fun _ _=>False) (Lk.none fun _ _ z=>z),?_⟩;exact⟨aY Nn.length ds,G,ends Q2,Gm r,ab,hr ds G Q2 q,fun kz H' ph G' mv z=>kk _ _ _ _ z mv .eT,fun v H' d G' mv YH z=>kk _ _ _ _ z mv YH,fun _ _ z=>z,fun _ _ z=>z⟩
section
variable {prog:bE} {w:World} {A:cO} {R:Result->ay->Prop} {It0:Addr} {fq wr:List Addr} {n:Nat} {P:Nat->Value->Prop} {Sx:Nat->Heap->Prop}
theorem W7(W:Walks prog w A.in1 It0 fq wr n P Sx)(bt:Nat->Nat->Bool)(T:Heap->Prop)(B:Addr)(hB:B∉fq)(hT:∀ h h',T h->(∀ b o,b∉wr->b≠B->h.get? b=some o->h'.get? b=some o)->T h')
  (cmp:∀ i j x y s (Q:Value->ay->Prop) (E:Value->ay->Prop),T s.heap->P i x->P j y->Q (.bool (bt i j)) s->wpAny (model prog w) A.in1 (sf .Lt x y) Q E s) :
  ∀ (k j:Nat) (s:ay) (best:Value) (cc:Nat),n - (j+1)=k->j+1<=n->Sx (j+1) s.heap->T s.heap->P (si bt j) best ->
  s.heap.get? B=some { cls:=.type "list",dict:=none,data:=.seq #[best,best] cc,slots:=#[] } ->
  (∀ v h' tk,P (si bt (n - 1)) v->(∀ b o,b∉wr->b≠B->s.heap.get? b=some o->h'.get? b=some o)->R (.ok (.ret v)) { s with heap:=h',toks:=tk }) ->
  zV (model prog w) A (.builtin "min.loop" ⟨[.ref It0,.none,.ref B],[]⟩) R s:=by
 have hBw:B∉wr:=fun z=>hB (W.sub _ z);have nm:(toString "min"++toString ".loop" : String) = "min.loop":=by decide
 intro k;induction k with
 | zero =>
  intro j s best cc hk hj hs ht hp hb hR;have ej:j+1=n:=by lia
  refine kQ Js ?_; rw [kF jY _];show wpAny _ A.in1 (seqItems? (.ref B) >>= _) _ _ s; refine ag (uY hb rfl ?_);show wpAny _ A.in1 (tryCatch (yt (.ref It0)) _ >>= _) _ _ s; refine ag (Cy (W.done s _ _ (ej ▸ hs) fun h' tk kept=>?_));have KD:=kept B _ hBw hb;show wpAny _ A.in1 (updateSeq B (fun _=>#[]) >>= _) _ _ _; refine ag ?_;refine zN KD rfl (ag (xt (aA ?_)));exact hR best _ tk (by rw [<-ej]; exact hp) fun b o z1 z2 e=>(dJ _ _ (e7 z2)).trans (kept b o z1 e)
 | succ k ih =>
  intro j s best cc hk hj hs ht hp hb hR;have lt:j+1 < n:=by lia
  refine kQ Js ?_; rw [kF jY _];show wpAny _ A.in1 (seqItems? (.ref B) >>= _) _ _ s; refine ag (uY hb rfl ?_);show wpAny _ A.in1 (tryCatch (yt (.ref It0)) _ >>= _) _ _ s; refine ag (Cy (W.item (j+1) s _ _ lt hs fun v h' tk pv B5 kept=>?_));have KD:=kept B _ hBw hb;have Ye:T h':=hT _ _ ht fun b o z1 _ e=>kept b o z1 e;show wpAny _ A.in1 (tryCatch (DQ [v,v] (sf .Lt v best >>= _)) _ >>= _) _ _ _;refine ag (Cy (cF (ag (cmp (j+1) (si bt j) v best _ _ _ Ye pv hp ?_)))); refine ag (cF (oS ?_)); refine ag (xt (aA ?_));cases hbt:bt (j+1) (si bt j) with
  | true =>
   simp only [if_true]; refine ag ?_;refine zN KD rfl (ag (xt ?_)); rw [nm];refine aA ⟨rM jY _,ih (j+1) _ v _ (by lia) lt (W.frame _ _ _ B5 fun b z o e=>?_) (hT _ _ Ye fun b o _ z2 e=>?_) (by simp only [si,hbt,if_true]; exact pv) (km _ KD rfl) fun v' ZL PG YM kk=>?_⟩
   ·exact(dJ _ _ (fun z':B=b=>hB (by rw [z']; exact z))).trans e
   ·exact(dJ _ _ (e7 z2)).trans e
   ·exact hR v' ZL PG YM fun b o z1 z2 e=>kk b o z1 z2 ((dJ _ _ (e7 z2)).trans (kept b o z1 e))
  | false =>
   simp only [au,if_false]; refine ag (xt ?_); rw [nm];refine aA ⟨rM jY _,ih (j+1) _ best cc (by lia) lt B5 Ye (by simp only [si,hbt,au,if_false]; exact hp) KD fun v' ZL PG YM kk=>?_⟩;exact hR v' ZL PG YM fun b o z1 z2 e=>kk b o z1 z2 (kept b o z1 e)
end
theorem He{prog:bE}{w:World}{A:cO}{E:Value->ay->Prop}{s:ay}{x:Value}{Q:Value->ay->Prop}
  (h:wpAny (model prog w) A.in1 (FT x) (fun it j0=>∃ (I:Addr) (fq wr:List Addr) (n:Nat) (P:Nat->Value->Prop) (Sx:Nat->Heap->Prop) (bt:Nat->Nat->Bool) (T:Heap->Prop),it=.ref I/\Walks prog w A.in1 I fq wr n P Sx/\Sx 0 j0.heap/\(∀ b∈fq,b < j0.heap.objs.size)/\0 < n/\T j0.heap/\(∀ (h h':Heap) (B:Addr),j0.heap.objs.size<=B->T h->(∀ b o,b∉wr->b≠B->h.get? b=some o->h'.get? b=some o)->T h') /\
   (∀ i j x y s (Q:Value->ay->Prop) (E:Value->ay->Prop),T s.heap->P i x->P j y->Q (.bool (bt i j)) s->wpAny (model prog w) A.in1 (sf .Lt x y) Q E s) /\
   ∀ v h' tk,P (si bt (n - 1)) v->(∀ b o,b∉wr->j0.heap.get? b=some o->h'.get? b=some o)->Q v { j0 with heap:=h',toks:=tk }) E s) :
  wpAny (model prog w) A (call (.builtin "min") [x]) Q E s:=by
 have nm:(toString "min"++toString ".loop" : String) = "min.loop":=by decide
 refine call_function_tree F.kind_min F.plain_min F.entry_min (F.args_min1 _) ?_;show wpAny _ A.in1 (xp "min" ["key","default"] 0 ⟨[],[]⟩ >>= _) _ _ s; refine ag (Pk (show xp "min" ["key","default"] 0 ⟨[],[]⟩=pure [none,none] from rfl) ?_);refine ag (aA ?_); refine ag (ly h (fun it j0 Kx=>?_) fun _ _ e=>e);obtain⟨I,fq,wr,n,P,Sx,bt,T,rfl,W,Ky,ZA,hn,ht,hT,cmp,hQ⟩:=Kx;refine ag (dg ?_);have hSf:j0.heap.objs.size∉fq:=fun z=>jh _ (ZA _ z);have hSw:j0.heap.objs.size∉wr:=fun z=>hSf (W.sub _ z);rw [nm];generalize hh:j0.heap.push { cls:=.type "list",data:=.seq ([]:List Value).toArray } = hp;have hb:hp.get? j0.heap.objs.size=some { cls:=.type "list",dict:=none,data:=.seq #[] 0,slots:=#[] }:=by rw [<-hh]; exact a9 _ rfl
 have old:∀ b o,j0.heap.get? b=some o->hp.get? b=some o:=fun b o e=>by rw [<-hh]; exact aF _ e
 have Wq:Sx 0 hp:=W.frame _ _ _ Ky fun b _ o e=>old b o e;have ht0:T hp:=hT _ _ _ (aE _) ht fun b o _ _ e=>old b o e;refine aA ⟨rM jY _,?_⟩;refine kQ Js ?_; rw [kF jY _];show wpAny _ A.in1 (seqItems? (.ref j0.heap.objs.size) >>= _) _ _ _; refine ag (uY hb rfl ?_);show wpAny _ A.in1 (tryCatch (yt (.ref I)) _ >>= _) _ _ _; refine ag (Cy (W.item 0 _ _ _ hn Wq fun v h' tk pv B5 kept=>?_));have KD:=kept _ _ hSw hb;show wpAny _ A.in1 (updateSeq j0.heap.objs.size (fun _=>#[v,v]) >>= _) _ _ _; refine ag ?_;refine zN KD rfl ?_; rw [nm];refine aA ⟨rM jY _,W7 W bt T _ hSf (fun h h'=>hT h h' _ (aE _)) cmp _ 0 _ v _ rfl hn (W.frame _ _ _ B5 fun b z o e=>?_) (hT _ _ _ (aE _) (hT _ _ _ (aE _) ht0 fun b o z1 _ e=>kept b o z1 e) fun b o _ z2 e=>?_) pv (km _ KD rfl) fun v' ZL PG YM kk=>?_⟩
 ·exact(dJ _ _ (fun z':j0.heap.objs.size=b=>hSf (by rw [z']; exact z))).trans e
 ·exact(dJ _ _ (e7 z2)).trans e
 ·refine hQ v' ZL PG YM fun b o z1 e=>?_;have nb:b≠j0.heap.objs.size:=bx (aR e);exact kk b o z1 nb ((dJ _ _ (e7 nb)).trans (kept b o z1 (old b o e)))
theorem IA{α:Type}(lt:α->α->Bool)(l:List α)(a:α)(f:Nat->α)(hf:∀ i,i < l.length+1->f i=(a :: l).getD i a) :
  f (si (fun i j=>lt (f i) (f j)) l.length)=l.foldl (fun m x=>if lt x m=true then x else m) a:=by
 have key:∀ k,k<=l.length->f (si (fun i j=>lt (f i) (f j)) k)=(l.take k).foldl (fun m x=>if lt x m=true then x else m) a:=by
  intro k;induction k with
  | zero=>intro _; rw [si,hf 0 (by lia)]; rfl
  | succ k ih =>
   intro hk;have ih':=ih (by lia);rw [List.take_succ_eq_append_getElem (by lia),gO,<-ih'];have e:f (k+1)=l[k]:=by
    rw [hf (k+1) (by lia),eK];simp [show k < l.length by lia]
   show f (if lt (f (k+1)) (f (si _ k))=true then k+1 else si _ k)=(if lt l[k] _=true then l[k] else _);rw [<-e];split <;> rfl
 rw [key l.length (aE _),List.take_length]
theorem OD (hc : X.calm = true) (hu : X.A.units + 64 < cLine) : tV X (.builtin "min") Sb := by
  intro pins s σ H G xs ds us Q I ab rx rd q;unfold Sb at q;split at q
  · rename_i x
    obtain⟨v, rfl, r⟩ := rd.one;obtain⟨u, rfl, ru⟩ := rx.one;have main : ∀ {α : Type} (zs : List α) (a : α) (enc : α -> D) (lt : α -> α -> Bool) (T : Heap -> Prop), itemsOf x G = some ((a :: zs).map enc) -> T s.heap -> (∀ (h h' : Heap) (B : Addr), s.heap.objs.size ≤ B -> T h -> (∀ b o, b < s.heap.objs.size -> b ≠ B -> h.get? b = some o -> h'.get? b = some o) -> T h') ->
        (∀ y z vy vz uy uz (s' : ay) (Q' : Value -> ay -> Prop) (E' : Value -> ay -> Prop), T s'.heap -> bX X.K H vy (enc y) -> RelV vy uy -> bX X.K H vz (enc z) -> RelV vz uz -> Q' (.bool (lt y z)) s' -> wpAny (model X.prog X.w) X.A.in1 (sf .Lt uy uz) Q' E' s') ->
        Q (enc (zs.foldl (fun m x => if lt x m = true then x else m) a)) G -> wpAny (model X.prog X.w) X.A (call (.builtin "min") [u]) (r8 X pins σ H G Q) X.xe s := by
      intro α zs a enc lt T hi ht hT cmp hq;obtain⟨l, vs, bL, rfl, rv, rs, hl, hz⟩ := Km I ab ru r hi;have hlen : bL.length = zs.length + 1 := by rw [<-rv.length, rs.length, aq, ah]
      have tm : ∀ {o : Obj}, s.heap.get? l = some o -> l ≠ s.heap.objs.size := fun e => bx (aR e);have at_ : ∀ i uu, bL.toArray[i]? = some uu -> ∃ vv, RelV vv uu ∧ bX X.K H vv (enc ((a :: zs).getD i a)) := fun i uu e => by
        have e' : bL[i]? = some uu := by simpa using e
        have VR : i < bL.length := (List.getElem?_eq_some_iff.mp e').1;have hd : ((a :: zs).map enc)[i]? = some (enc ((a :: zs).getD i a)) := by
          rw [bu, eK];cases h9 : (a :: zs)[i]? with
          | none => rw [List.getElem?_eq_none_iff] at h9; simp at h9; lia
          | some z => rfl
        obtain⟨vv, h1, h2⟩ := rs.get hd;obtain⟨uu', h3, h4⟩ := rv.get h1;rw [e'] at h3;cases h3;exact⟨vv, h4, h2⟩
      have ZW : ∀ i j p9 q9 s' (Q' : Value -> ay -> Prop) (E' : Value -> ay -> Prop), T s'.heap -> bL.toArray[i]? = some p9 -> bL.toArray[j]? = some q9 -> Q' (.bool (lt ((a :: zs).getD i a) ((a :: zs).getD j a))) s' -> wpAny (model X.prog X.w) X.A.in1 (sf .Lt p9 q9) Q' E' s' := fun i j p9 q9 s' Q' E' t' h1 h2 h3 => by
        obtain⟨v1, r1, d1⟩ := at_ i p9 h1;obtain⟨v2, r2, d2⟩ := at_ j q9 h2;exact cmp _ _ v1 v2 p9 q9 s' Q' E' t' d1 r1 d2 r2 h3
      have fin : ∀ vv h' tk, bL.toArray[si (fun i j => lt ((a :: zs).getD i a) ((a :: zs).getD j a)) (bL.toArray.size - 1)]? = some vv -> (∀ b o, b ∉ [s.heap.objs.size] -> s.heap.get? b = some o -> h'.get? b = some o) -> r8 X pins σ H G Q vv { s with heap := h', toks := tk } := fun vv h' tk e hk => by
        obtain⟨v1, r1, d1⟩ := at_ _ vv e;have es : bL.toArray.size - 1 = zs.length := by rw [aW]; lia
        rw [es, IA lt zs a (fun i => (a :: zs).getD i a) (fun i _ => rfl)] at d1;exact⟨v1, H, _, G, I.kept fun b o e => hk b o (by simpa using bx (aR e)) e, .refl ab, r1, d1, hq⟩
      have HF : 0 < bL.toArray.size := by rw [aW]; lia
      have hTp : ∀ (oo : Obj), T (s.heap.push oo) := fun oo => hT _ _ (s.heap.objs.size + 1) (Jq _) ht fun b o hb _ e => aF _ e;have hT2 : ∀ (oo : Obj) (h h' : Heap) (B : Addr), (s.heap.push oo).objs.size ≤ B -> T h -> (∀ b o, b ∉ [s.heap.objs.size] -> b ≠ B -> h.get? b = some o -> h'.get? b = some o) -> T h' := fun oo h h' B hB t kk => hT h h' B (by rw [lq] at hB; exact Nat.le_of_succ_le hB) t fun b o hb hn e => kk b o (by simpa using bx hb) hn e;rcases hl with hl | hl
      · refine He (oU hl ?_)
        obtain⟨o, ho, KC, n, hd⟩ := id hl;exact⟨s.heap.objs.size, _, _, _, _, _, _, T, rfl, Walks.list (A := X.A.in1) (show X.A.in1.handled = none from I.ok.hd hc) _ l (tm ho) bL.toArray, ⟨⟨_, a9 _ rfl, rfl, rfl⟩, ⟨o, aF _ ho, KC, n, hd⟩⟩,
          fun b hb => by rcases (by simpa using hb : b = s.heap.objs.size ∨ b = l) with rfl | rfl
                         · rw [lq]; exact vD _
                         · rw [lq]; exact DT (aR ho), HF, hTp _, hT2 _, ZW, fun vv h' tk e hk => fin vv h' tk e fun b o hb e => hk b o hb (aF _ e)⟩
      · refine He (wpAny_pyIter_tuple hl ?_)
        obtain⟨o, ho, KC, n, hd⟩ := id hl;exact⟨s.heap.objs.size, _, _, _, _, _, _, T, rfl, Walks.tuple (A := X.A.in1) (show X.A.in1.handled = none from I.ok.hd hc) _ l (tm ho) bL.toArray, ⟨⟨_, a9 _ rfl, rfl, rfl⟩, ⟨o, aF _ ho, KC, n, hd⟩⟩,
          fun b hb => by rcases (by simpa using hb : b = s.heap.objs.size ∨ b = l) with rfl | rfl
                         · rw [lq]; exact vD _
                         · rw [lq]; exact DT (aR ho), HF, hTp _, hT2 _, ZW, fun vv h' tk e hk => fin vv h' tk e fun b o hb e => hk b o hb (aF _ e)⟩
    rcases q with ⟨ns, mm, hi, hm, q⟩ | ⟨nss, mm, hi, hm, q⟩
    · cases ns with
      | nil => cases hm
      | cons a zs =>
        cases hm;have e : (fun m x : Int => if x < m then x else m) = fun m x => if decide (x < m) = true then x else m := by funext m x; simp
        rw [e] at q;refine main zs a D.int (fun x y => decide (x < y)) (fun _ => True) hi trivial (fun _ _ _ _ _ _ => trivial) (fun y z vy vz uy uz s' Q' E' _ d1 r1 d2 r2 hq => ?_) q;cases d1;cases d2;obtain⟨t1, rfl⟩ := r1;obtain⟨t2, rfl⟩ := r2;exact HT.Ay X.A.in1 s' y t1 z t2 X.prog X.w E' Q' hq
    · cases nss with
      | nil => cases hm
      | cons a zs =>
        cases hm;have el : ∀ xs ys : List Int, HT.lexLt xs ys = K2.lexLt xs ys := by
          intro xs;induction xs with
          | nil => intro ys; cases ys <;> rfl
          | cons x xs ih => intro ys; cases ys with
            | nil => rfl
            | cons y ys => unfold HT.lexLt K2.lexLt; rw [ih]
        refine main zs a tI K2.lexLt (fun h => ∀ b o, b < s.heap.objs.size -> s.heap.get? b = some o -> h.get? b = some o) hi (fun b o _ e => e) (fun h h' B hB t kk b o hb e => kk b o hb (bx (bC hb hB)) (t b o hb e)) (fun y z vy vz uy uz s' Q' E' t' d1 r1 d2 r2 hq => ?_) q;cases d1 with
        | tup h1 rs1 =>
          cases d2 with
          | tup h2 IV =>
            cases r1;cases r2;have z1 := rs1.ints;have z2 := IV.ints;subst z1 z2;obtain⟨Rf, X6, ⟨o1, ho1, hc1, n1, ZF⟩, _⟩ := I.tuple (.of h1);obtain⟨uK, Ny, ⟨o2, De, EG, n2, hd2⟩, _⟩ := I.tuple (.of h2);have p1 : IsTup s'.heap _ Rf.toArray := ⟨o1, t' _ _ (aR ho1) ho1, hc1, n1, ZF⟩;have p2 : IsTup s'.heap _ uK.toArray := ⟨o2, t' _ _ (aR De) De, EG, n2, hd2⟩;rw [<-el] at hq;have i1 : nN Rf.toArray.toList y := intsAre_of X6;have i2 : nN uK.toArray.toList z := intsAre_of Ny;exact(HT.AZ p1 p2 i1 i2 (show X.A.units + 1 < cLine by lia) hq : wpAny (model X.prog X.w) X.A.in1 (eU .Lt _ _) Q' E' s')
  · exact q.elim
def aa6(scope sc:Scope):List (Str×uP):=scope.names.map fun (n,k)=>if (k == .free&&sc.kind == .function&&sc.names.lookup n == some .cell) then (n,.cell) else (n,k)
def zJ(N:List Str)(scope:Scope)(m:Nat)(fr:List Nat)(sc:Scope)(XN:List Str):Bool :=
 scope.names.all (fun y=>decide (y.2≠.cell))&&decide (scope.kind=.function)&&scope.names.all (fun y=>!decide (y.2=.local)||decide (scope.names.lookup y.1=some .local)) &&
 scope.names.all (fun y=>!decide (y.2=.free)||decide (sc.names.lookup y.1=some .cell))&&decide (N.length=m+fr.length) &&
 (fL fr.length).all (fun j=>match fr[j]?,N[m+j]? with
  | some i,some x=>decide (XN[i]?=some x)&&decide (sc.names.lookup x=some .cell)&&decide ((aa6 scope sc).lookup x=some .cell)
  | _,_=>false)
theorem DB{sc:Scope}{XN:List Str}(Zn:X.env.scope=sc)(ZJ:X.N=XN)(hb:zJ N scope m fr sc XN=true):BS X N scope m fr:=by
 subst Zn ZJ;unfold zJ at hb;simp only [aJ] at hb;obtain⟨⟨⟨⟨⟨h1,h2⟩,h3⟩,h4⟩,h5⟩,h6⟩:=hb;refine⟨fun y hy=>of_decide_eq_true (List.all_eq_true.mp h1 y hy),of_decide_eq_true h2,fun y hy hl=>?_,fun y hy hl=>?_,of_decide_eq_true h5,fun j i x e1 e2=>?_⟩
 ·have:=List.all_eq_true.mp h3 y hy;simp only [hl,decide_true,bK,O6] at this;exact of_decide_eq_true this
 ·have:=List.all_eq_true.mp h4 y hy;simp only [hl,decide_true,bK,O6] at this;exact of_decide_eq_true this
 ·have hj:j < fr.length:=(List.getElem?_eq_some_iff.mp e1).1;have:=List.all_eq_true.mp h6 j (List.mem_range.mpr hj);rw [e1,e2] at this;simp only [aJ] at this;exact⟨of_decide_eq_true this.1.1,of_decide_eq_true this.1.2,of_decide_eq_true this.2⟩
theorem lZ(N:List Str){sc:Scope}{XN:List Str}(hi:ON X tg iter wi)(hg:∀ C s H fp,OO (eG X N scope C s H fp) tg g)(Xq:∀ C s H fp,X0 (eG X N scope C s H fp) ifs c)(he:∀ C s H fp,gG (eG X N scope C s H fp) elt te)
  (Zn:autoParam (X.env.scope=sc) Ar._auto_1) (ZJ:autoParam (X.N=XN) Ar._auto_1) (hb:autoParam (zJ N scope m fr sc XN=true) Ak._auto_1) (hc:autoParam (X.calm=true) Ar._auto_1) (hs:autoParam (∀ x,oV iter X.env x=pure x) Ai._auto_1):gG X (.ListComp elt [⟨tg,iter,ifs,0⟩] scope pos) (gL m fr wi g c te) :=
 NP hc (DB Zn ZJ hb) hi hg Xq he hs
theorem v9(N:List Str){sc:Scope}{XN:List Str}{i:Nat}{y:Str}{py PU:Pos}(hN:X.N.Nodup)(hyi:X.N[i]?=some y)(hy:X.env.scope.names.lookup y=some .local)(hi:ON X tg iter wi)(hg:∀ C s H fp,OO (eG X N scope C s H fp) tg g)
  (Xq:∀ C s H fp,X0 (eG X N scope C s H fp) ifs c) (he:∀ C s H fp,gG (eG X N scope C s H fp) elt te) (Zn:autoParam (X.env.scope=sc) Ar._auto_1) (ZJ:autoParam (X.N=XN) Ar._auto_1) (hb:autoParam (zJ N scope m fr sc XN=true) Ak._auto_1) (hc:autoParam (X.calm=true) Ar._auto_1)
  (hsw:autoParam (FR (.ListComp elt [⟨tg,iter,ifs,0⟩] scope pos) (some (.Name y py)) PU.line X.env=pure true) Ar._auto_1) (hs:autoParam (∀ x,oV iter X.env x=pure x) Ai._auto_1) :
  FN X (.Assign [.Name y py] (.ListComp elt [⟨tg,iter,ifs,0⟩] scope pos) PU) (bF (gL m fr wi g c te) (aI i)) :=
 GH hN hyi hy hc (DB Zn ZJ hb) hi hg Xq he hsw hs
theorem N5{K:aj}{H:Hp}{a:Addr}{ns:List Int}(hO:Va H)(hS:qb K H a (ns.map V.int))(hl:ns.length<=63):B6 K CI [.ref a] H (fun v _=>v=.bl true) fun _ _ _=>False:=by
 have hF:Ym K H a (ns.map V.int):=by
  rcases hS with (h | ⟨o,h⟩) | h
  ·rcases hO a with z | ⟨o,xs,z⟩
   ·rw [z] at h; cases h
   ·rw [z] at h; cases h
  ·exact .inl ⟨o,h⟩
  ·exact .inr h
 refine⟨[.dw (ns.map D.int)],fun _=>none,fun d _=>d=.bl true,.cons (.dw hF (ba.Ml ns)) .nil,fun a g e=>(by cases e),⟨ns,rfl,hl,fun _=>rfl,fun _=>rfl⟩,fun d G' v H' e mv r=>?_⟩;subst e;cases r;rfl
theorem QY{l:DR}{q:bE}{loose:List Str}{XP:(Str->Option Value)->Heap->Prop}{YP:World->Heap->Prop}{d:DefRec}{K:Params->aj}{k:Nat}{x:Str}(hn:l.most=some 63)(ZD:d.params.defaults=[])(hr:kM k Jj)
  (hY:∀ (w:World) (h:Heap),YP w h->(K w.params).In h)
  (F:∀ (w:World) (mg:Str->Option Value) (fa:Addr) (h:Heap),(K w.params).In h->h.Ns bz mg->mg d.name=some (.ref fa) ->
   ∃ fd:fH,(∀ (s:ay) (u:Value),BindsTo s fd ⟨[u],[]⟩ [(x,u)])/\∀ base:Heap,(K w.params).In base->base.Ns bz mg->tT l.prog w (K w.params) mg base Ls k fa fd [x] (B6 (K w.params) CI)) :
  PySem.W.WalkO q loose XP YP l.row.toRowW d [] (fun f vs=>Lx f vs) :=
 L2.Tt (n:=63) (k:=k) (x:=x) (CX:=fun _=>Ls) (sp:=fun w=>B6 (K w.params) CI) hn (by decide) ZD hr hY F (fun _ _ _ _ hl hO hS=>N5 hO hS hl) fun _ _ _ _ _ z=>z
end
def Fd:HO->Bool
 | .lst _=>true
 | .dK _=>true
 | .dT _=>true
 | .ext _=>true
 | _=>false
def mK(h:Heap)(S:Addr->Bool)(H:Hp):Hp:=fun a=>match H a with
 | some u=>if (Fd u&&S a)=true then (match h.get? a with
  | some o=>some (.iN o u)
  | none=>some u) else some u
 | none=>none
section
variable {h:Heap} {S:Addr->Bool} {H:Hp} {a:Addr}
def KJ(n:∀ u,H a=some u->Fd u=false):mK h S H a=H a:=by
 unfold mK;cases e:H a with
 | none=>rfl
 | some u=>simp only [n u e,yZ,au,if_false]
def wQ(hs:S a=false):mK h S H a=H a:=by
 unfold mK;cases e:H a with
 | none=>rfl
 | some u=>simp only [hs,LF,au,if_false]
def qO{u:HO}{o:Obj}(hs:S a=true)(e:H a=some u)(hu:Fd u=true)(ho:h.get? a=some o):mK h S H a=some (.iN o u):=by
 unfold mK;simp only [e,hs,hu,Bool.and_self,if_true,ho]
def pP(e:H a=none):mK h S H a=none:=by unfold mK; rw [e]
def nk{u:HO}(e:H a=some u)(hu:Fd u=false):mK h S H a=some u:=by rw [KJ (fun v z=>by rw [e] at z; cases z; exact hu)]; exact e
def uo:Kp H (mK h S H):=⟨fun a xs e=>nk e rfl,fun a o u e=>nk e rfl⟩
end
section
variable {X:Cx} {pins:List (Addr×Obj)} {σ:L2.St} {H:Hp} {s:ay} {G:Gp}
theorem Inv.freeze(I : Inv X pins σ H s)(S : Addr -> Bool) : Inv X pins σ (mK s.heap S H) s where
  ok := I.ok
  os := I.os
  bare := I.bare
  base := { keep := I.base.keep, slot := I.base.slot, there := I.base.there
            free := fun b o q n hx => pP (I.base.free b o q n hx)
            rP := fun b xs q => nk (I.base.rP b xs q) rfl
            qN := fun b o u q => nk (I.base.qN b o u q) rfl
            uH := fun b ps q => nk (I.base.uH b ps q) rfl
            uI := fun b x q => nk (I.base.uI b x q) rfl }
  loc := I.loc
  cell := I.cell
  free := pP I.free
  jA := fun x c e => pP (I.jA x c e)
  pin := fun p hp => let ⟨h1, h2, h3⟩ := I.pin p hp; ⟨h1, pP h2, h3⟩
  b7 := fun a o q => by
    have st : ∀ u, H a = some u -> fE X.prog X.w (mK s.heap S H) s.heap a u := fun u e =>
      (I.b7 a u e).jF (fun b v _ r => r) (fun b r => nk r rfl) (fun b xs r => nk r rfl)
    cases e : H a with
    | none => rw [pP e] at q; cases q
    | some u =>
      by_cases hc : Fd u = true
      · by_cases hs : S a = true
        · obtain⟨ob, ho⟩ := kI (I.b7 a _ e)
          rw [qO hs e hc ho] at q;cases q;exact⟨ho, st _ e⟩
        · rw [wQ (by simpa using hs), e] at q
          cases q;exact st _ e
      · rw [nk e (by simpa using hc)] at q
        cases q;exact st _ e
  len := I.len
def iR(R:Nat->Bool)(G:Gp):Addr->Bool:=fun a=>R a&&(G a).isSome
theorem Dj(I:Inv X pins σ H s)(ab:kK X.K H G)(R:Nat->Bool):Mv X.K H G (mK s.heap (iR R G) H) (Cj R G) where
 keep:=fun a o e n=>by
  refine⟨by rw [wQ (by simp [iR,n])]; exact e,?_⟩;unfold Cj; split
  ·rfl
  ·exact n
 jF:=fun a n=>by
  cases q:G a with
  | none=>exact absurd q n
  | some g =>
   have t:=(ab a g q).tracked;cases e:H a with
   | none=>exact absurd e t
   | some u =>
    unfold mK;rw [e];dsimp only;split
    ·split <;> simp
    ·simp
 ab:=fun a g e=>by
  unfold Cj at e;split at e
  ·cases e
  ·rename_i hr;exact(ab a g e).mono uo (wQ (by simp [iR,hr]))
theorem KI(I:Inv X pins σ H s)(ab:kK X.K H G){R:Nat->Bool}:∀ {d t:D} {v:V},Fz G R d t->bX X.K H v d->bX X.K (mK s.heap (iR R G) H) v t:=by
 intro d t v h;revert v;refine Fz.rec (motive_1:=fun d t _=>∀ {v:V},bX X.K H v d->bX X.K (mK s.heap (iR R G) H) v t)
  (motive_2:=fun ds ts _=>∀ {vs:List V},ba X.K H vs ds->ba X.K (mK s.heap (iR R G) H) vs ts)
  (motive_3:=fun ds ts _=>(∀ {vs:List (Key×V)},mr X.K H vs ds->mr X.K (mK s.heap (iR R G) H) vs ts)/\∀ {vs:List (List Key×V)},mV X.K H vs ds->mV X.K (mK s.heap (iR R G) H) vs ts)
  ?_ ?_ ?_ ?_ ?_ ?_ ?_ ?_ ?_ ?_ h
 ·intro d v r; exact r.mono uo
 ·intro ds ss _ ih v r;cases r with
  | tup h rs=>exact .tup (uo.tup _ _ h) (ih rs)
 ·intro ds ss _ ih v r;cases r with
  | dw h rs=>exact .dw (uo.Wr h) (ih rs)
 ·intro a ds ss g hr _ ih v r;cases r;obtain⟨vs,hv,rs⟩:=ab a _ g;obtain⟨ob,ho⟩:=kI (I.b7 a _ hv);exact .dw (.inl ⟨_,qO (by simp [iR,hr,g]) hv rfl ho⟩) (ih rs)
 ·intro a ds ss g hr _ ih v r;cases r;rcases ab a _ g with ⟨kv,hv,rs⟩ | ⟨kv,hv,rs⟩
  ·obtain⟨ob,ho⟩:=kI (I.b7 a _ hv);exact .oC (qO (by simp [iR,hr,g]) hv rfl ho) (ih.1 rs)
  ·obtain⟨ob,ho⟩:=kI (I.b7 a _ hv);exact .oB (qO (by simp [iR,hr,g]) hv rfl ho) (ih.2 rs)
 ·intro a kvs VC g hr _ ek ih v r;cases r;obtain⟨xs,ks,vs,hv,rel,r1,r2⟩:=ab a _ g;obtain⟨ob,ho⟩:=kI (I.b7 a _ hv);have e2:(VC.map fun p=>rm p.1)=kvs.map fun p=>rm p.1:=by
   have:=congrArg (List.map rm) ek;rw [bq,bq] at this;exact this.symm
  exact .pj (qO (by simp [iR,hr,g]) hv rfl ho) ⟨ek.symm.trans rel.1,rel.2⟩ (by rw [e2]; exact r1.mono uo) (ih r2)
 ·intro vs r; cases r; exact .nil
 ·intro d s ds ss _ _ i1 i2 vs r;cases r with
  | cons r rs=>exact .cons (i1 r) (i2 rs)
 ·exact⟨fun r=>by cases r; exact .nil,fun r=>by cases r; exact .nil⟩
 ·intro k d s ds ss _ _ i1 i2;exact⟨fun r=>by cases r with | cons r rs=>exact .cons (i1 r) (i2.1 rs),fun r=>by cases r with | cons r rs=>exact .cons (i1 r) (i2.2 rs)⟩
variable {e:Expr} {te:gq} {st:Stmt} {t:gN}
theorem aP(he:gG X e te):gG X e (cz te):=by
 intro E pins s σ H τ G Q hE I h;refine hU (he E pins s σ H τ G _ hE I h) ?_;rintro u s1 ⟨v,H1,d,G1,I1,m,r,rd,R,t,hf,q⟩;exact⟨v,_,t,_,Inv.freeze I1 _,m.trans (Dj I1 m.ab R),r,KI I1 m.ab hf rd,q⟩
theorem zB{i:Nat}(h1:FN X st t):FN X st (Ie i t):=by
 intro E pins s σ H τ G D hE I h;refine hU (h1 E pins s σ H τ G _ hE I h) fun f s1 z=>?_;cases f with
 | next =>
  obtain⟨kz,H',ph,G',I',m,q⟩:=z;simp only at q;split at q
  ·rename_i d hd;obtain⟨R,t,hf,q⟩:=q;obtain⟨v,hv,rv⟩:=I'.st.at' i d hd;have a1:=(I'.st.mono (H':=mK s1.heap (iR R G') H') uo).set i (KI I'.inv I'.ab hf rv);have es:kz.set i (some v)=kz:=by
    have hi:i < kz.length:=(List.getElem?_eq_some_iff.mp hv).1;have e2:=(List.getElem?_eq_some_iff.mp hv).2;rw [<-e2]; exact SV hi
   rw [es] at a1;have m2:=Dj I'.inv I'.ab R;exact⟨kz,_,_,_,⟨Inv.freeze I'.inv _,a1,m2.ab⟩,m.trans m2,q⟩
  ·exact q.elim
 | ret v=>exact z
 | brk=>exact z
 | cont=>exact z
end
def i8:eZ "len" = some (.builtin "len"):=by decide +kernel
def XT:eZ "min" = some (.builtin "min"):=by decide +kernel
def yk:eZ "sorted" = some (.builtin "sorted"):=by decide +kernel
def M0:eZ "list" = some (.type "list"):=by decide +kernel
def Sj:eZ "tuple" = some (.type "tuple"):=by decide +kernel
def Fm:eZ "dict" = some (.type "dict"):=by decide +kernel
def XU:eZ "int" = some (.type "int"):=by decide +kernel
def U0:eZ "bool" = some (.type "bool"):=by decide +kernel
end K2
end
section
namespace L2
open PySem PySem.Spec PyProof.Rows
section
variable {X:Cx} {pins:List (Addr×Obj)} {σ:St} {H:Hp} {s:ay} {h':Heap}
theorem Inv.tY{t':Nat}{fp:List Addr}(I:Inv X pins σ H s)(hf:∀ b∈fp,oF X pins H b)(k:∀ b o,b∉fp->s.heap.get? b=some o->h'.get? b=some o):Inv X pins σ H { s with heap:=h',toks:=t' }:=by
 have nt:∀ b u,H b=some u->b∉fp:=fun b u e z=>by rw [(hf b z).1] at e; cases e
 refine I.step (g':=s.gens) (d':=s.drawn) (ch:=fp) (fun b hb=>?_) (fun b o _ _ hc e _=>k b o hc e) (fun b o _ _ hc e _=>⟨o.slots,k b o hc e⟩) (fun _ _ _ _ n=>n)
  (fun b o hc e=>⟨o,k b o hc e⟩) (fun _ _ e=>e) (fun _ _ _ e=>e) (fun _ _ e=>e) (fun _ _ e=>e) (fun m hm=>?_) (fun b u e=>?_) I.bare
 ·obtain⟨f0,f1,f2,f3,f4,f5⟩:=hf b hb;exact⟨f3,f1,f4,f5⟩
 ·obtain⟨o,es,ep,ho,r⟩:=hm;exact⟨o,es,ep,k _ _ (fun z=>(hf _ z).2.1 rfl) ho,r⟩
 ·refine(I.b7 b u e).jF (fun c v hc r=>k c v ?_ r) (fun _ z=>z) (fun _ _ z=>z);rcases hc with rfl | hc
  ·exact nt _ _ e
  ·exact nt _ _ hc
theorem Inv.zx{t':Nat}{fp:List Addr}{T:Addr}{vs:List V}(I:Inv X pins σ H s)(hf:∀ b∈fp,oF X pins H b)(k:∀ b o,b∉fp->s.heap.get? b=some o->h'.get? b=some o)(hT:s.heap.objs.size<=T)
  (new:fE X.prog X.w (upd H T (.tup vs)) h' T (.tup vs)):Inv X pins σ (upd H T (.tup vs)) { s with heap:=h',toks:=t' }:=by
 have hn:H T=none:=I.b7.fresh hT;have ht:∀ b o,s.heap.get? b=some o->b≠T:=fun b o e z=>by subst z; exact absurd (aR e) (Nat.not_lt.mpr hT)
 have nt:∀ b u,H b=some u->b∉fp:=fun b u e z=>by rw [(hf b z).1] at e; cases e
 have ne:∀ b u,H b=some u->b≠T:=fun b u e=>ez e hn;refine I.step (g':=s.gens) (d':=s.drawn) (ch:=fp) (fun b hb=>?_) (fun b o _ _ hc e _=>k b o hc e) (fun b o _ _ hc e _=>⟨o.slots,k b o hc e⟩) (fun b o _ e n=>by rw [bG (ht b o e)]; exact n)
  (fun b o hc e=>⟨o,k b o hc e⟩) (fun b xs e=>by rw [bG (ne _ _ e)]; exact e) (fun b o u e=>by rw [bG (ne _ _ e)]; exact e) (fun b ps e=>by rw [bG (ne _ _ e)]; exact e) (fun b ps e=>by rw [bG (ne _ _ e)]; exact e) (fun m hm=>?_) (fun b u e=>?_) I.bare
 ·obtain⟨f0,f1,f2,f3,f4,f5⟩:=hf b hb;exact⟨f3,f1,f4,f5⟩
 ·obtain⟨o,es,ep,ho,r⟩:=hm;exact⟨o,es,ep,k _ _ (fun z=>(hf _ z).2.1 rfl) ho,r⟩
 ·by_cases hb:b=T
  ·subst hb; rw [bU] at e; cases e; exact new
  ·rw [bG hb] at e;refine(I.b7 b u e).jF (fun c v hc r=>k c v ?_ r) (fun c z=>by rw [bG (ne _ _ z)]; exact z) (fun c xs z=>by rw [bG (ne _ _ z)]; exact z);rcases hc with rfl | hc
   ·exact nt _ _ e
   ·exact nt _ _ hc
def oF.upd{b T:Addr}{o:HO}(h:oF X pins H b)(hb:b≠T):oF X pins (L2.upd H T o) b:=by
 obtain⟨f0,r⟩:=h;exact⟨by rw [bG hb]; exact f0,r⟩
end
end L2
namespace K2
open PySem PySem.Spec PyProof.Rows L2
section
variable {X:Cx} {elts:List Expr} {kk:Nat} {y0:Pos} {a b:Expr} {ta tb:gq} {pos p:Pos}
def Fj:eZ "enumerate" = some (.type "enumerate"):=by decide +kernel
def XS:eZ "zip" = some (.type "zip"):=by decide +kernel
end
end K2
end
section
namespace K2
open PySem PySem.Spec PyProof.Rows L2
section
variable {X:Cx} {o i a b:Expr} {to ti ta tb:gq} {pos p:Pos}
theorem hV(hu:X.A.units+64 < cLine)(ho:gG X o to)(hi:gG X i ti)
  (ha:autoParam (∀ v,Lv (.Subscript o i pos) X.env v=(do
   let ov ← DQ [v] (eval o X.env)
   let iv ← DQ [v,ov] (eval i X.env)
   standAt pos
   DQ [v,ov,iv] (setItem ov iv v)
   release [v,ov,iv] [])) Ai._auto_1):OO X (.Subscript o i pos) (kh to ti):=by
 intro E pins s σ H τ G w d u Q hE I r rd h;rw [ha];refine ag (cF (j8 ho hE I h fun x H1 dx G1 ov s1 I1 m1 r1 j5 q1=>?_));refine ag (cF (j8 hi hE I1 q1 fun y H2 dy G2 iv s2 nv m2 r2 y8 q2=>?_));refine ag (xr (ag (cF ?_)));have IW:=m1.trans m2;have NG:=rd.mono (IW.kp I.ab);have B5:=I.st.mono (IW.kp I.ab);have rx':=j5.mono (m2.kp I1.ab);unfold yA at q2;split at q2
 ·rename_i l;cases rx';cases r1;split at q2
  ·rename_i xs hg;obtain⟨vs,hv,rs⟩:=nv.ab.lst hg;split at q2
   ·rename_i k;cases y8;split at q2
    ·rename_i j hj;have m3:Mv X.K H2 G2 (upd H2 l (.lst (vs.set j w))) (eL G2 l (.lst (xs.set j d))):=.putL nv.ab hg hv (rs.set NG j);refine hU (set_list pins s2 σ H2 (.ref l) (.int k) w _ _ _ (fun H3=>H3=upd H2 l (.lst (vs.set j w))) nv.inv rfl r2 r ⟨l,vs,k,j,rfl,rfl,hv,?_,rfl⟩) ?_
     ·rw [rs.length]; exact hj
     ·rintro _ s3 ⟨H3,I3,e3⟩;subst e3;exact wpAny_release ⟨σ,_,τ,_,⟨I3,B5.mono (m3.kp nv.ab),m3.ab⟩,IW.trans m3,q2⟩
    ·exact q2.elim
   ·exact q2.elim
  ·rename_i kvs hg;obtain⟨hk,hz,q⟩:=q2;obtain⟨H3,H4,I3,dp,m3⟩:=R0 nv.inv nv.ab hg hk hz y8 NG;exact OB (by lia) I3 dp r2 r fun s4 I4=>wpAny_release ⟨σ,H4,τ,_,⟨I4,B5.mono (m3.kp nv.ab),m3.ab⟩,IW.trans m3,q⟩
  ·exact q2.elim
 ·exact q2.elim
end
end K2
end
section
namespace L2
open PySem PySem.Spec PyProof.Rows
theorem vO{X:Cx}{pins:List (Addr×Obj)}{σ:St}{H:Hp}{s:ay}{l b:Addr}{xs:List V}(I:Inv X pins σ H s)(hq:qb X.K H l xs)(hf:oF X pins H b):l≠b:=by
 rintro rfl;obtain⟨f0,f1,f2,f3,f4,f5⟩:=hf;rcases hq with (h | ⟨o,h⟩) | ⟨o,bL,n,h,_⟩
 ·rw [f0] at h; cases h
 ·rw [f0] at h; cases h
 ·have hb:=I.ok.mod.Uz _ _ h;rcases f3 with f3 | f3
  ·exact I.ok.J9 _ _ hb f3
  ·exact absurd (aR (I.ok.bs _ _ hb).1) (Nat.not_lt.mpr f3)
def Itz(K:aj)(a b:Addr):It :=
  ⟨fun i H=>∃ xs x ys y,qb K H a xs/\xs[i]?=some x/\qb K H b ys/\ys[i]?=some y,
   fun i H v H'=>∃ T x y,v=.ref T/\H T=none/\H'=upd H T (.tup [x,y])/\(∀ xs,qb K H a xs->xs[i]?=some x)/\∀ ys,qb K H b ys->ys[i]?=some y,
   fun i H=>∃ xs ys,qb K H a xs/\qb K H b ys/\(xs.length<=i\/ys.length<=i)⟩
structure Z1(z TI TO i1 i2 a b:Addr)(i:Nat)(h:Heap):Prop where
 hz:IsZip h z TI TO .none
 hI:IsPair h TI (.ref i1) (.ref i2)
 hO:∃ x y,IsPair h TO x y
 h1:h.IsListIter i1 a i
 h2:h.IsListIter i2 b i
theorem PD{P:bE}{w:World}{K:aj}{elts:List Expr}{kk:Nat}{pos:Pos}(a b z TI TO i1 i2:Addr)(nd:[z,TI,TO,i1,i2].Nodup) :
  Turn P w K (.Tuple elts kk pos) (Itz K a b) [z,TI,TO,i1,i2] z (Z1 z TI TO i1 i2 a b) where
 mem:=by simp
 obj:=fun i h st c hc=>by
  simp only [bJ,bV,or_false] at hc;rcases hc with rfl | rfl | rfl | rfl | rfl
  ·exact⟨_,st.hz,fun v q=>by cases q⟩
  ·exact⟨_,st.hI,fun v q=>by cases q⟩
  ·obtain⟨x,y,h⟩:=st.hO; exact⟨_,h,fun v q=>by cases q⟩
  ·obtain⟨o,e,_,d⟩:=st.h1; exact⟨o,e,fun v q=>by rw [d] at q; cases q⟩
  ·obtain⟨o,e,_,d⟩:=st.h2; exact⟨o,e,fun v q=>by rw [d] at q; cases q⟩
 keep:=fun i h h' st k=>⟨k _ (by simp) _ st.hz,k _ (by simp) _ st.hI,let ⟨x,y,q⟩:=st.hO; ⟨x,y,k _ (by simp) _ q⟩,st.h1.at fun o q=>k _ (by simp) o q,st.h2.at fun o q=>k _ (by simp) o q⟩
 item:=by
  intro X hP hw hK hc i pins s σ H E I hf st hg;subst hP hw hK;obtain⟨xs,x,ys,y,VJ,hx,VI,hy⟩:=hg;obtain⟨Rf,X6,p1,hz1⟩:=I.list VJ;obtain⟨uK,Ny,p2,hz2⟩:=I.list VI;obtain⟨u1,hu1,NB⟩:=X6.get hx;obtain⟨u2,hu2,P7⟩:=Ny.get hy;obtain⟨xo,yo,hO⟩:=st.hO;have ap:∀ c∈[z,TI,TO,i1,i2],a≠c/\b≠c:=fun c hc=>⟨vO I VJ (hf c hc),vO I VI (hf c hc)⟩;simp only [aS,bJ,bV,or_false,not_or] at nd;obtain⟨⟨n1,n2,n3,n4⟩,⟨n5,n6,n7⟩,⟨n8,n9⟩,n10,_⟩:=nd;have Dz:ZipApart z TI TO i1 i2 a b:=⟨e7 n1,e7 n2,e7 n3,e7 n4,n5,n6,n7,n8,n9,n10,(ap z (by simp)).1,(ap TO (by simp)).1,(ap i1 (by simp)).1,(ap i2 (by simp)).1,(ap z (by simp)).2,(ap TO (by simp)).2,(ap i1 (by simp)).2,(ap i2 (by simp)).2⟩;have Xz:H s.heap.objs.size=none:=I.b7.fresh (aE _);have inH:∀ c∈[z,TI,TO,i1,i2],c≠s.heap.objs.size:=fun c hc=>by
   simp only [bJ,bV,or_false] at hc;rcases hc with rfl | rfl | rfl | rfl | rfl
   ·exact bx (aR st.hz)
   ·exact bx (aR st.hI)
   ·exact bx (aR hO)
   ·obtain⟨o,e,_⟩:=st.h1; exact bx (aR e)
   ·obtain⟨o,e,_⟩:=st.h2; exact bx (aR e)
  refine wpAny_pyNext_zip_item Dz st.hz st.hI hO st.h1 st.h2 p1.isList p2.isList (x:=u1) (y:=u2) (by simpa using hu1) (by simpa using hu2) fun h' a1 a2 a3 a4 a5 a6 a7=>?_;refine⟨_,rfl,?_⟩;have k1:∀ c o,c∉[z,TI,TO,i1,i2]->s.heap.get? c=some o->h'.get? c=some o:=fun c o hc q =>
   a7 c o (fun e=>hc (by simp [e])) (fun e=>hc (by simp [e])) (fun e=>hc (by simp [e])) (fun e=>hc (by simp [e])) q
  have I1:Inv X pins σ (upd H s.heap.objs.size (.tup [x,y])) { s with heap:=h' } :=
   I.zx (t':=s.toks) (fp:=[z,TI,TO,i1,i2]) hf k1 (aE _) ⟨by show 2<=a8; decide,[u1,u2],.cons NB (.cons P7 .nil),⟨_,a5,rfl,_,rfl⟩⟩
  refine wpAny_letOwnedTupleGo_zip (s:={ s with heap:=h' }) a1 fun h2 hz2 HE=>?_;have f1:∀ c∈[z,TI,TO,i1,i2],oF X pins (upd H s.heap.objs.size (.tup [x,y])) c:=fun c hc=>(hf c hc).upd (inH c hc);have I2:Inv X pins σ (upd H s.heap.objs.size (.tup [x,y])) { s with heap:=h2 } :=
   Inv.tY (s:={ s with heap:=h' }) (t':=s.toks) (fp:=[z,TI,TO,i1,i2]) I1 f1 fun c o hc q=>(HE.2 c (fun e=>hc (by simp [e]))).trans q
  have hI':IsPair h' TI (.ref i1) (.ref i2):=a7 TI _ (e7 n1) n5 n6 n7 st.hI;refine⟨.ref s.heap.objs.size,_,I2,rfl,⟨_,x,y,rfl,Xz,rfl,fun zs hs=>by rw [I.wx hs VJ]; exact hx,fun zs hs=>by rw [I.wx hs VI]; exact hy⟩,⟨hz2,?_,⟨u1,u2,?_⟩,?_,?_⟩,fun c hc=>(f1 c hc).1⟩
  ·exact(HE.2 TI (e7 n1)).trans hI'
  ·exact(HE.2 TO (e7 n2)).trans a2
  ·exact a3.at fun o q=>(HE.2 i1 (e7 n3)).trans q
  ·exact a4.at fun o q=>(HE.2 i2 (e7 n4)).trans q
 done:=by
  intro X hP hw hK hc i pins s σ H E I hf st hg;subst hP hw hK;obtain⟨xs,ys,VJ,VI,hx⟩:=hg;obtain⟨Rf,X6,p1,hz1⟩:=I.list VJ;obtain⟨uK,Ny,p2,hz2⟩:=I.list VI;have Xo:=X6.length;have zd:=Ny.length;obtain⟨xo,yo,hO⟩:=st.hO;have ap:∀ c∈[z,TI,TO,i1,i2],a≠c/\b≠c:=fun c hc=>⟨vO I VJ (hf c hc),vO I VI (hf c hc)⟩;simp only [aS,bJ,bV,or_false,not_or] at nd;obtain⟨⟨n1,n2,n3,n4⟩,⟨n5,n6,n7⟩,⟨n8,n9⟩,n10,_⟩:=nd;have Dz:ZipApart z TI TO i1 i2 a b:=⟨e7 n1,e7 n2,e7 n3,e7 n4,n5,n6,n7,n8,n9,n10,(ap z (by simp)).1,(ap TO (by simp)).1,(ap i1 (by simp)).1,(ap i2 (by simp)).1,(ap z (by simp)).2,(ap TO (by simp)).2,(ap i1 (by simp)).2,(ap i2 (by simp)).2⟩;refine wpAny_pyNext_zip_end (I.ok.hd hc) Dz st.hz st.hI hO st.h1 st.h2 p1.isList p2.isList (by
   rcases hx with hx | hx
   ·left; simp; lia
   ·right; simp; lia) fun h' k1=>⟨rfl,?_⟩
  exact I.tY (t':=s.toks) (fp:=[z,TI,TO,i1,i2]) hf fun c o hc q=>k1 c o (fun e=>hc (by simp [e])) (fun e=>hc (by simp [e])) (fun e=>hc (by simp [e])) (fun e=>hc (by simp [e])) q
 self:=fun A i s Q E st h=>wpAny_pyIter_zip st.hz h
end L2
namespace K2
open PySem PySem.Spec PyProof.Rows L2
section
variable {X:Cx} {elts:List Expr} {kk:Nat} {y0:Pos} {a b:Expr} {ta tb:gq} {pos p:Pos}
theorem Ho{pins:List (Addr×Obj)}{s:ay}{σ:L2.St}{H:Hp}{G:Gp}{x:V}{d:D}{v:Value}{ds:List D}{ok:Gp->Prop}(I:Inv X pins σ H s)(ab:kK X.K H G)(rx:RelV x v)(rd:bX X.K H x d)(hi:wo d G=some (ds,ok)) :
  ∃ l vs,v=.ref l/\qb X.K H l vs/\ba X.K H vs ds/\∀ H2 G2,Kp H H2->kK X.K H2 G2->ok G2->∃ ws,qb X.K H2 l ws/\ba X.K H2 ws ds:=by
 cases rd with
 | dw hq rs=>cases hi; cases rx; exact⟨_,_,rfl,hq.sq,rs,fun H2 G2 k ab _=>⟨_,(k.Wr hq).sq,rs.mono k⟩⟩
 | ref l =>
  unfold wo at hi;dsimp only at hi;cases hg:G l with
  | none=>rw [hg] at hi; cases hi
  | some gg =>
   rw [hg] at hi;cases gg with
   | lst zs =>
    cases hi;cases rx;obtain⟨vs,hv,rs⟩:=ab.lst hg;refine⟨_,_,rfl,.of hv,rs,fun H2 G2 k ab o=>?_⟩;obtain⟨ws,hw,rQ⟩:=ab.lst o;exact⟨ws,.of hw,rQ⟩
   | ins _ _=>cases hi
   | rV _=>cases hi
   | fU _=>cases hi
 | _=>cases hi
theorem Mg (hg:Gl X "zip") (hm:X.mg "zip" = none) (ha:gG X a ta) (hb:gG X b tb) (hs:autoParam (bw [a,b] X.env=[(false,eval a X.env),(false,eval b X.env)]) Ar._auto_1) (HE:autoParam (bw [b] X.env=[(false,eval b X.env)]) Ar._auto_1) :
  ON X (.Tuple elts kk y0) (.Call (.Name "zip" p) [a,b] [] pos) (Rp ta tb):=by
 intro E pins s σ H τ G R hE I h;have hA:B3 X [a,b] (av ta (av tb aO)):=jw ha (jw hb hW HE) (by rw [hs,HE]);refine Call_ (qK I.inv hg hm XS (jf (y7 hA pos hE I (R:=abh fun x y G1=>vi x y G1 R) h fun vs H1 ds G1 us s1 I1 m1 r1 j5 q1=>?_) (by rw [hs,HE]) (by rw [HE]; rfl)))
 match ds,q1 with
 | [x,y],q1 =>
  change vi x y G1 R at q1;obtain⟨w1,w2,rfl,Gr,P2⟩:=j5.two;obtain⟨u1,u2,rfl,NB,P7⟩:=vals2 r1;unfold vi at q1;split at q1
  ·rename_i xs k1 ys k2 e1 e2;obtain⟨l1,v1,rfl,VJ,rs1,st1⟩:=Ho I1.inv I1.ab NB Gr e1;obtain⟨l2,v2,rfl,VI,IV,S5⟩:=Ho I1.inv I1.ab P7 P2 e2;obtain⟨Rf,X6,pl1,_⟩:=I1.inv.list VJ;obtain⟨uK,Ny,pl2,_⟩:=I1.inv.list VI;refine call_zip_2 pl1.isList pl2.isList fun h' z1 z2 z3 z4 z5 z6 z7=>?_;refine wpAny_pyIter_zip z1 ?_;refine⟨_,[s1.heap.objs.size+4,s1.heap.objs.size+2,s1.heap.objs.size+3,s1.heap.objs.size,s1.heap.objs.size+1],_,_,H1,G1,qi xs ys,_,rfl,I1.inv.kept (t':=s1.toks) z7,m1,
    PD l1 l2 _ _ _ _ _ (by simp),⟨z1,z2,⟨_,_,z3⟩,z4,z5⟩,fun c hc=>?_,fun i H2 G2 k ab o=>?_,q1⟩
   ·have Pd:s1.heap.objs.size<=c:=by
     simp only [bJ,bV,or_false] at hc;rcases hc with rfl | rfl | rfl | rfl | rfl
     ·exact vE _ _
     ·exact vE _ _
     ·exact vE _ _
     ·exact aE _
     ·exact vE _ _
    exact I1.inv.Cf Pd (I1.inv.b7.fresh Pd)
   ·obtain⟨Ys,hw1,j5⟩:=st1 H2 G2 k ab o.1;obtain⟨ws2,hw2,y8⟩:=S5 H2 G2 k ab o.2;refine⟨fun d hd=>?_,fun hl=>⟨Ys,ws2,hw1,hw2,?_⟩⟩
    ·rw [Gd] at hd;cases hx:xs[i]? with
     | none=>rw [hx] at hd; cases hd
     | some x' =>
      cases hy:ys[i]? with
      | none=>rw [hx,hy] at hd; cases hd
      | some y' =>
       rw [hx,hy] at hd;have ed:D.tup [x',y']=d:=by simpa using hd
       subst ed;obtain⟨vx,hvx,rx⟩:=j5.get hx;obtain⟨vy,hvy,ry⟩:=y8.get hy;refine⟨⟨Ys,vx,ws2,vy,hw1,hvx,hw2,hvy⟩,?_⟩;rintro v H3 ⟨T,px,py,ex,hT,e3,hx3,hy3⟩;subst ex e3;have q1:=hx3 Ys hw1;have q2:=hy3 ws2 hw2;rw [hvx] at q1;rw [hvy] at q2;cases q1; cases q2;exact⟨.tup bU (.cons (rx.mono (.new hT)) (.cons (ry.mono (.new hT)) .nil)),.MG ab hT⟩
    ·rw [Gb] at hl;rw [j5.length,y8.length];lia
  ·exact q1.elim
 | [],q1=>exact q1.elim
 | [_],q1=>exact q1.elim
 | _ :: _ :: _ :: _,q1=>exact q1.elim
end
end K2
end
section
namespace K2
open PySem PySem.W PyProof.Rows
def i4{α:Type}(lt:Nat->Nat->Bool):KasT α->α
 | .ret a=>a
 | .ask i j k=>i4 lt (k (lt i j))
def nF{α β:Type}(lt:Nat->Nat->Bool)(f:α->KasT β):∀ t:KasT α,i4 lt (t.bind f)=i4 lt (f (i4 lt t))
 | .ret _=>rfl
 | .ask i j k=>nF lt f (k (lt i j))
abbrev gA(p:Array Nat)(k:Nat):Nat:=p.getD k 0
def Dh(p:Array Nat)(k:Nat):gA p k=(p[k]?).getD 0:=by
 unfold gA; rw [Array.getD_eq_getD_getElem?]
structure OM(lt:Nat->Nat->Bool):Prop where
 asymm:∀ i j,lt i j=true->lt j i=false
 trans:∀ i j k,lt j i=false->lt k j=false->lt k i=false
def OM.refl{lt:Nat->Nat->Bool}(w:OM lt)(i:Nat):lt i i=false:=by
 cases h:lt i i with
 | false=>rfl
 | true=>rw [w.asymm _ _ h] at h; cases h
def Up(lt:Nat->Nat->Bool)(p:Array Nat)(m:Nat):Prop:=∀ i j,i<=j->j < m->lt (gA p j) (gA p i)=false
def Dn(lt:Nat->Nat->Bool)(p:Array Nat)(m:Nat):Prop:=∀ i j,i<=j->j < m->lt (gA p i) (gA p j)=false
section
variable {lt:Nat->Nat->Bool}
theorem Up.more(w:OM lt){p:Array Nat}{n m:Nat}(h1:1<=n)(h:Up lt p n)(hs:∀ k,n<=k->k < m->lt (gA p k) (gA p (k - 1))=false):Up lt p m:=by
 intro i j Ol hjm;induction j with
 | zero =>
  have:i=0:=by lia
  subst this; exact w.refl _
 | succ j ih =>
  by_cases hj:j+1 < n
  ·exact h i (j+1) Ol hj
  ·by_cases e:i=j+1
   ·subst e; exact w.refl _
   ·have h1:=ih (by lia) (by lia);have h2:=hs (j+1) (by lia) hjm;exact w.trans _ _ _ h1 h2
theorem LW(p:Array Nat):∀ (f n:Nat),n<=i4 lt (sg p f n)/\i4 lt (sg p f n)<=n+f/\(∀ k,n<=k->k < i4 lt (sg p f n)->lt (gA p k) (gA p (k - 1))=false) /\
  (i4 lt (sg p f n) < n+f->lt (gA p (i4 lt (sg p f n))) (gA p (i4 lt (sg p f n) - 1))=true):=by
 intro f;induction f with
 | zero=>intro n; exact⟨aE _,aE _,fun k h1 h2=>absurd (show k < n from h2) (by lia),fun h=>absurd (show n < n+0 from h) (by lia)⟩
 | succ f ih =>
  intro n;have e:i4 lt (sg p (f+1) n)=if lt (gA p n) (gA p (n - 1))=true then n else i4 lt (sg p f (n+1)):=by
   show i4 lt (if lt (gA p n) (gA p (n - 1))=true then xC n else sg p f (n+1))=_;split <;> rfl
  rw [e];by_cases c:lt (gA p n) (gA p (n - 1))=true
  ·rw [if_pos c];exact⟨aE _,by lia,fun k h1 h2=>absurd h2 (by lia),fun _=>c⟩
  ·rw [if_neg c];obtain⟨h1,h2,h3,h4⟩:=ih (n+1);refine⟨by lia,by lia,fun k k1 k2=>?_,fun h=>h4 (by lia)⟩;by_cases e:k=n
   ·subst e; simpa using c
   ·exact h3 k (by lia) k2
def iZ{p:Array Nat}{i j:Nat}(hj:j<=p.size)(k:Nat):gA (hZ p i j) k=if i<=k/\k < j then gA p (i+j - 1 - k) else gA p k:=by
 rw [Dh,hZ,getElem?_mirror_all hj];split <;> rw [Dh]
def nR(p:Array Nat)(i j:Nat):(hZ p i j).size=p.size:=mirror_size _ _ _ _
def kU(p:Array Nat)(i j:Nat):(hZ p i j).Perm p:=mirror_perm _ _ _ _
theorem Dn.rev{p:Array Nat}{a n:Nat}(w:OM lt)(hn:n<=p.size)(h:Dn lt p n)(he:∀ k,a<=k->k < n->lt (gA p (n - 1)) (gA p k)=false):Dn lt (hZ p a n) n:=by
 intro i j Ol Zv;rw [iZ hn,iZ hn];by_cases hi:a<=i
 ·rw [if_pos ⟨hi,by lia⟩,if_pos ⟨by lia,Zv⟩];exact w.trans _ _ _ (he (a+n - 1 - j) (by lia) (by lia)) (h (a+n - 1 - i) (n - 1) (by lia) (by lia))
 ·rw [if_neg (by lia)];by_cases hj:a<=j
  ·rw [if_pos ⟨hj,Zv⟩];exact h i (a+n - 1 - j) (by lia) (by lia)
  ·rw [if_neg (by lia)];exact h i j Ol Zv
def Eqs(lt:Nat->Nat->Bool)(p:Array Nat)(n q:Nat):Prop:=q+1<=n/\∀ k,n - (q+1)<=k->k < n->lt (gA p (n - 1)) (gA p k)=false
theorem Dn.one(w:OM lt){p:Array Nat}{n:Nat}(h1:1<=n)(h:Dn lt p n)(hc:lt (gA p (n - 1)) (gA p n)=false):Dn lt p (n+1):=by
 intro i j Ol hj;by_cases e:j=n
 ·subst e;by_cases e2:i=j
  ·subst e2; exact w.refl _
  ·exact w.trans _ _ _ hc (h i (j - 1) (by lia) (by lia))
 ·exact h i j Ol (by lia)
theorem P6(w:OM lt):∀ (f:Nat) (p:Array Nat) (n q:Nat),n+f<=p.size->Dn lt p n->Eqs lt p n q->∃ p' n' q',i4 lt (my f p n q)=(p',n',q')/\p'.Perm p/\p'.size=p.size/\n<=n'/\n'<=n+f/\Dn lt p' n'/\Eqs lt p' n' q':=by
 intro f;induction f with
 | zero=>intro p n q _ hd he; exact⟨p,n,q,rfl,oq _,rfl,aE _,aE _,hd,he⟩
 | succ f ih =>
  intro p n q hs hd he;have h1:1<=n:=by have:=he.1; lia
  have e:i4 lt (my (f+1) p n q)=if lt (gA p n) (gA p (n - 1))=true then (if q > 0 then i4 lt (my f (hZ p (n - (q+1)) n) (n+1) 0) else i4 lt (my f p (n+1) 0))
    else if lt (gA p (n - 1)) (gA p n)=true then (p,n,q) else i4 lt (my f p (n+1) (q+1)):=by
   show i4 lt (if lt (gA p n) (gA p (n - 1))=true then (if q > 0 then my f (hZ p (n - (q+1)) n) (n+1) 0 else my f p (n+1) 0) else .ask (gA p (n - 1)) (gA p n) fun d=>if d=true then .ret (p,n,q) else my f p (n+1) (q+1))=_;split
   ·split <;> rfl
   ·show i4 lt (if lt (gA p (n - 1)) (gA p n)=true then xC (p,n,q) else my f p (n+1) (q+1))=_;split <;> rfl
  rw [e];by_cases c:lt (gA p n) (gA p (n - 1))=true
  ·rw [if_pos c];have ca:=w.asymm _ _ c;by_cases hq:q > 0
   ·rw [if_pos hq];have d1:Dn lt (hZ p (n - (q+1)) n) n:=hd.rev w (by lia) he.2;have en:gA (hZ p (n - (q+1)) n) n=gA p n:=by rw [iZ (by lia),if_neg (by lia)]
    have ca':lt (gA (hZ p (n - (q+1)) n) (n - 1)) (gA (hZ p (n - (q+1)) n) n)=false:=by
     rw [en,iZ (by lia)];split
     ·-- an item of the aag is above p n
      exact w.trans _ _ _ ca (hd _ (n - 1) (by lia) (by lia))
     ·exact ca
    obtain⟨p',n',q',z,h2,h3,h4,h5,h6,h7⟩:=ih (hZ p (n - (q+1)) n) (n+1) 0 (by rw [nR]; lia) (d1.one w h1 ca') ⟨by lia,fun k k1 k2=>by
     have:k=n:=by lia
     subst this; exact w.refl _⟩
    exact⟨p',n',q',z,h2.trans (kU _ _ _),h3.trans (nR _ _ _),by lia,by lia,h6,h7⟩
   ·rw [if_neg hq];obtain⟨p',n',q',z,h2,h3,h4,h5,h6,h7⟩:=ih p (n+1) 0 (by lia) (hd.one w h1 ca) ⟨by lia,fun k k1 k2=>by
     have:k=n:=by lia
     subst this; exact w.refl _⟩
    exact⟨p',n',q',z,h2,h3,by lia,by lia,h6,h7⟩
  ·rw [if_neg c];have c':lt (gA p n) (gA p (n - 1))=false:=by simpa using c
   by_cases d:lt (gA p (n - 1)) (gA p n)=true
   ·rw [if_pos d];exact⟨p,n,q,rfl,oq _,rfl,aE _,by lia,hd,he⟩
   ·rw [if_neg d];have d':lt (gA p (n - 1)) (gA p n)=false:=by simpa using d
    obtain⟨p',n',q',z,h2,h3,h4,h5,h6,h7⟩:=ih p (n+1) (q+1) (by lia) (hd.one w h1 d') ⟨by have:=he.1; lia,fun k k1 k2=>by
     rw [Nat.add_sub_cancel];by_cases e:k=n
     ·subst e; exact w.refl _
     ·exact w.trans _ _ _ (he.2 k (by lia) (by lia)) c'⟩
    exact⟨p',n',q',z,h2,h3,by lia,by lia,h6,h7⟩
theorem Dn.up{p:Array Nat}{n:Nat}(hn:n<=p.size)(h:Dn lt p n):Up lt (hZ p 0 n) n:=by
 intro i j Ol Zv;rw [iZ hn,iZ hn,if_pos ⟨by lia,Zv⟩,if_pos ⟨by lia,by lia⟩];exact h _ _ (by lia) (by lia)
theorem Gs(w:OM lt){p:Array Nat}{n nrem:Nat}(h1:1<=n)(hn:n<=nrem)(hs:nrem<=p.size)(h:Dn lt p n):∃ p' m,i4 lt (Pq n nrem p)=(m,p')/\p'.Perm p/\p'.size=p.size/\n<=m/\m<=nrem/\Up lt p' m:=by
 obtain⟨a1,a2,a3,_⟩:=LW (lt:=lt) (hZ p 0 n) (nrem - n) n;refine⟨hZ p 0 n,i4 lt (sg (hZ p 0 n) (nrem - n) n),by rw [Pq,nF]; rfl,kU _ _ _,nR _ _ _,a1,by lia,?_⟩;exact(h.up (by lia)).more w h1 a3
theorem vR(w:OM lt){p:Array Nat}{n nrem:Nat}(h1:1<=n)(hn:n < nrem)(hs:nrem<=p.size)(h:Dn lt p n)(hc:lt (gA p (n - 1)) (gA p n)=false) :
  ∃ p' m,i4 lt (zS n nrem p)=(m,p')/\p'.Perm p/\p'.size=p.size/\n<=m/\m<=nrem/\Up lt p' m:=by
 obtain⟨p1,n1,q1,z,z2,z3,z4,z5,z6,z7⟩:=P6 w (nrem - (n+1)) p (n+1) 0 (by lia) (h.one w h1 hc) ⟨by lia,fun k k1 k2=>by
  have:k=n:=by lia
  subst this; exact w.refl _⟩
 rw [zS,nF,z];show ∃ p' m,i4 lt (if q1 > 0 then Pq n1 nrem (hZ p1 (n1 - (q1+1)) n1) else Pq n1 nrem p1)=(m,p')/\_;by_cases hq:q1 > 0
 ·rw [if_pos hq];obtain⟨p',m,y1,y2,y3,y4,y5,y6⟩:=Gs (nrem:=nrem) w (p:=hZ p1 (n1 - (q1+1)) n1) (by lia) (by lia) (by rw [nR]; lia) (z6.rev w (by lia) z7.2);exact⟨p',m,y1,(y2.trans (kU _ _ _)).trans z2,(y3.trans (nR _ _ _)).trans z3,by lia,y5,y6⟩
 ·rw [if_neg hq];obtain⟨p',m,y1,y2,y3,y4,y5,y6⟩:=Gs (nrem:=nrem) w (p:=p1) (by lia) (by lia) (by lia) z6;exact⟨p',m,y1,y2.trans z2,y3.trans z3,by lia,y5,y6⟩
theorem NA(w:OM lt){p:Array Nat}{nrem:Nat}(h1:1<=nrem)(hs:nrem<=p.size):∃ p' m,i4 lt (kas_count nrem p)=(m,p')/\p'.Perm p/\p'.size=p.size/\1<=m/\m<=nrem/\Up lt p' m:=by
 obtain⟨a1,a2,a3,a4⟩:=LW (lt:=lt) p (nrem - 1) 1;rw [kas_count,nF];generalize i4 lt (sg p (nrem - 1) 1)=n at a1 a2 a3 a4;have u1:Up lt p 1:=fun i j Ol hj=>by
  have:i=j:=by lia
  subst this; exact w.refl _
 have up:Up lt p n:=u1.more w (aE _) a3;by_cases e:n=nrem
 ·subst e;rw [if_pos (by simp)];exact⟨p,n,rfl,oq _,rfl,a1,aE _,up⟩
 ·rw [if_neg (by simpa using e)];have hb:=a4 (by lia);by_cases h2:n > 1
  ·rw [if_pos h2];show ∃ p' m,i4 lt (if lt (gA p 0) (gA p (n - 1))=true then xC (n,p) else zS n nrem (hZ p 0 n))=(m,p')/\_;by_cases c:lt (gA p 0) (gA p (n - 1))=true
   ·rw [if_pos c];exact⟨p,n,rfl,oq _,rfl,a1,by lia,up⟩
   ·rw [if_neg c];have c':lt (gA p 0) (gA p (n - 1))=false:=by simpa using c
    have all:∀ i j,i < n->j < n->lt (gA p i) (gA p j)=false:=fun i j hi hj =>
     w.trans _ _ _ (w.trans _ _ _ (up j (n - 1) (by lia) (by lia)) c') (up 0 i (by lia) hi)
    have d1:Dn lt (hZ p 0 n) n:=fun i j Ol hj=>by
     rw [iZ (by lia),iZ (by lia),if_pos ⟨by lia,by lia⟩,if_pos ⟨by lia,hj⟩];exact all _ _ (by lia) (by lia)
    have hl:lt (gA (hZ p 0 n) (n - 1)) (gA (hZ p 0 n) n)=false:=by
     rw [iZ (by lia),iZ (by lia),if_pos ⟨by lia,by lia⟩,if_neg (by lia)];exact w.trans _ _ _ (w.asymm _ _ hb) (all _ _ (by lia) (by lia))
    obtain⟨p',m,y1,y2,y3,y4,y5,y6⟩:=vR (nrem:=nrem) w (p:=hZ p 0 n) a1 (by lia) (by rw [nR]; lia) d1 hl;exact⟨p',m,y1,y2.trans (kU _ _ _),y3.trans (nR _ _ _),by lia,y5,y6⟩
  ·rw [if_neg h2];have e1:n=1:=by lia
   subst e1;have d1:Dn lt p 1:=fun i j Ol hj=>by
    have:i=j:=by lia
    subst this; exact w.refl _
   obtain⟨p',m,y1,y2,y3,y4,y5,y6⟩:=vR (nrem:=nrem) w (p:=p) (aE _) (by lia) hs d1 (w.asymm _ _ hb);exact⟨p',m,y1,y2,y3,by lia,y5,y6⟩
theorem Nz(w:OM lt){p:Array Nat}{k:Nat}:∀ (f l r:Nat),l<=r->r<=k->r - l<=f->Up lt p k->(∀ i,i < l->lt (gA p k) (gA p i)=false)->(∀ i,r<=i->i < k->lt (gA p k) (gA p i)=true) ->
  ∃ m,i4 lt (kP p k f l r)=m/\m<=k/\(∀ i,i < m->lt (gA p k) (gA p i)=false)/\(∀ i,m<=i->i < k->lt (gA p k) (gA p i)=true):=by
 intro f;induction f with
 | zero =>
  intro l r hlr hrk hf up h1 h2;have:l=r:=by lia
  subst this;exact⟨l,rfl,hrk,h1,h2⟩
 | succ f ih =>
  intro l r hlr hrk hf up h1 h2;have e:i4 lt (kP p k (f+1) l r)=if l>=r then l else if lt (gA p k) (gA p ((l+r) / 2))=true then i4 lt (kP p k f l ((l+r) / 2)) else i4 lt (kP p k f ((l+r) / 2+1) r):=by
   show i4 lt (if l>=r then xC l else .ask (gA p k) (gA p ((l+r) / 2)) fun c=>if c=true then kP p k f l ((l+r) / 2) else kP p k f ((l+r) / 2+1) r)=_;split
   ·rfl
   ·show i4 lt (if lt (gA p k) (gA p ((l+r) / 2))=true then kP p k f l ((l+r) / 2) else kP p k f ((l+r) / 2+1) r)=_;split <;> rfl
  rw [e];by_cases c:l>=r
  ·rw [if_pos c];have:l=r:=by lia
   subst this;exact⟨l,rfl,hrk,h1,h2⟩
  ·rw [if_neg c];by_cases d:lt (gA p k) (gA p ((l+r) / 2))=true
   ·rw [if_pos d];refine ih l ((l+r) / 2) (by lia) (by lia) (by lia) up h1 fun i i1 i2=>?_;cases q:lt (gA p k) (gA p i) with
    | true=>rfl
    | false=>rw [w.trans _ _ _ (up ((l+r) / 2) i i1 i2) q] at d; cases d
   ·rw [if_neg d];refine ih ((l+r) / 2+1) r (by lia) hrk (by lia) up (fun i hi=>?_) h2;exact w.trans _ _ _ (up i ((l+r) / 2) (by lia) (by lia)) (by simpa using d)
theorem Di{p:Array Nat}{src d:Nat}(hs:src < p.size)(hd:d<=src)(k:Nat):gA (bubble p src d) k=if k=src - d then gA p src else if src - d < k/\k<=src then gA p (k - 1) else gA p k:=by
 rw [Dh,getElem?_bubble hs d hd,Dh p src,Dh p (k - 1),Dh p k];by_cases h1:k=src - d
 ·rw [if_pos h1,if_pos h1]
 ·rw [if_neg h1,if_neg h1];by_cases h2:src - d < k/\k<=src
  ·rw [if_pos h2,if_pos h2]
  ·rw [if_neg h2,if_neg h2]
theorem TK(w:OM lt):∀ (f:Nat) (p:Array Nat) (k:Nat),k+f<=p.size->Up lt p k->∃ p',i4 lt (kas_bin f p k)=p'/\p'.Perm p/\p'.size=p.size/\Up lt p' (k+f):=by
 intro f;induction f with
 | zero=>intro p k _ up; exact⟨p,rfl,oq _,rfl,up⟩
 | succ f ih =>
  intro p k hs up;obtain⟨m,e,hm,h1,h2⟩:=Nz w k 0 k (cw _) (aE _) (aE _) up (fun i hi=>absurd hi (by lia)) (fun i i1 i2=>absurd i1 (by lia));have up':Up lt (bubble p k (k - m)) (k+1):=by
   intro i j Ol hj;rw [Di (by lia) (by lia),Di (by lia) (by lia)];have ek:k - (k - m)=m:=by lia
   rw [ek];by_cases j1:j=m
   ·rw [if_pos j1];by_cases i1:i=m
    ·rw [if_pos i1]; exact w.refl _
    ·rw [if_neg i1,if_neg (by lia)]; exact h1 i (by lia)
   ·rw [if_neg j1];by_cases j2:m < j/\j<=k
    ·rw [if_pos j2];by_cases i1:i=m
     ·rw [if_pos i1]; exact w.asymm _ _ (h2 (j - 1) (by lia) (by lia))
     ·rw [if_neg i1];by_cases i2:m < i/\i<=k
      ·rw [if_pos i2]; exact up _ _ (by lia) (by lia)
      ·rw [if_neg i2]; exact up _ _ (by lia) (by lia)
    ·rw [if_neg j2,if_neg (by lia),if_neg (by lia)]; exact up _ _ Ol (by lia)
  obtain⟨p',z,z1,z2,z3⟩:=ih (bubble p k (k - m)) (k+1) (by rw [bubble_size]; lia) up';refine⟨p',?_,z1.trans (bubble_perm _ _ _),z2.trans (bubble_size _ _ _),by rw [show k+(f+1)=k+1+f by lia]; exact z3⟩;rw [kas_bin,nF,e]; exact z
theorem P4(w:OM lt){n:Nat}(h1:1<=n):∃ p,i4 lt (kas_sort n)=p/\p.toList.Perm (fL n)/\p.size=n/\Up lt p n:=by
 obtain⟨p,m,z,z1,z2,z3,z4,z5⟩:=NA w (p:=(fL n).toArray) h1 (by simp);have zs:p.size=n:=by rw [z2]; simp
 have zp:p.toList.Perm (fL n):=by simpa using z1.toList
 rw [kas_sort,nF,z];show ∃ q,i4 lt (if m < n then kas_bin (n - max m 1) p (max m 1) else .ret p)=q/\_;by_cases c:m < n
 ·rw [if_pos c];have em:max m 1=m:=by lia
  rw [em];obtain⟨p',y,y1,y2,y3⟩:=TK w (n - m) p m (by lia) z5;exact⟨p',y,(by simpa using y1.toList:p'.toList.Perm p.toList).trans zp,y2.trans zs,by rw [show n=m+(n - m) by lia]; exact y3⟩
 ·rw [if_neg c];have:m=n:=by lia
  subst this;exact⟨p,rfl,zp,zs,z5⟩
end
end K2
end
section
namespace K2
open PySem PySem.Spec PyProof.Rows L2
open PySem.AutoSeq1 (wpAny_loadPart')
open PySem.MeetsSeq PySem.MeetsSeq2 PySem.MeetsSeq3 PySem.SeqAt
def BO(A:cO)(s:ay)(y x:Value)(b:Bool):Prop :=
 ∀ (prog:bE) (w:World) (E:Value->ay->Prop) (Q:Value->ay->Prop),Q (.bool b) s->wpAny (model prog w) A (sf .Lt y x) Q E s
def uJ(e l:Nat->Bool)(n m:Nat):Nat->Nat->Bool
 | 0,_=>decide (n < m)
 | f+1,i=>if e i=true then uJ e l n m f (i+1) else l i
theorem Ux(l b:Addr)(xs ys:Array Value)(n m:Nat)(dd de:Option Addr)(sl sm:Array (Option Value))(e lt:Nat->Bool)(k:Nat) :
  ∀ i:Nat,i<=min xs.size ys.size->min xs.size ys.size - i=k->Meets (Builtin.«list.__eq__.loop» ⟨[.ref l,.ref b,yr i,yr 0],[]⟩)
   (fun A R s=>s.heap.get? l=some { cls:=.type "list",dict:=dd,data:=.seq xs n,slots:=sl }/\s.heap.get? b=some { cls:=.type "list",dict:=de,data:=.seq ys m,slots:=sm } /\
    (∀ j (h1:j < xs.size) (h2:j < ys.size),EqAt A.in1 s xs[j] ys[j] (e j)/\BO A.in1 s xs[j] ys[j] (lt j)) /\
    R (.ok (.ret (.bool (uJ e lt xs.size ys.size k i)))) s):=by
 induction k with
 | zero =>
  intro i hi hk prog w A R s h;obtain⟨hp,g,d,tk,os⟩:=s;obtain⟨hl,hb,he,h⟩:=h
  wp_walk using bM hl,bM hb
  by_cases c:xs.size<=ys.size
  ·have h1:xs[((i:Nat):Int).toNat]?=none:=by simp; lia
   rw [h1]
   wp_walk using bM hl,bM hb
   exact h
  ·have h2:ys[((i:Nat):Int).toNat]?=none:=by simp; lia
   rw [h2];cases q:xs[((i:Nat):Int).toNat]? with
   | none =>
    wp_walk using bM hl,bM hb
    exact h
   | some v =>
    wp_walk using bM hl,bM hb
    exact h
 | succ k ih =>
  intro i hi hk prog w A R s h;obtain⟨hp,g,d,tk,os⟩:=s;obtain⟨hl,hb,he,h⟩:=h
  wp_walk using bM hl,bM hb
  have l1:i < xs.size:=by lia
  have l2:i < ys.size:=by lia
  have h1:xs[((i:Nat):Int).toNat]?=some xs[i]:=by simp [l1]
  have h2:ys[((i:Nat):Int).toNat]?=some ys[i]:=by simp [l2]
  have hc:((i:Int)+1)=((i+1:Nat):Int):=by push_cast; rfl
  rw [h1,h2];refine ag ((he i l1 l2).1 prog w _ _ ?_);cases q:e i with
  | true =>
   rw [uJ,q,if_pos rfl] at h
   wp_walk
   rw [hc];exact⟨rM plain_eq_loop _,kQ entry_eq_loop (by
    rw [kF plain_eq_loop _];exact ih (i+1) (by lia) (by lia) prog w A R _ ⟨hl,hb,he,h⟩)⟩
  | false =>
   rw [uJ,q,if_neg (by simp)] at h
   wp_walk using bM hl,bM hb
   rw [h1,h2];have Zo:=(he i l1 l2).2 prog w
   wp_walk using Zo
   exact h
theorem C5(l b:Addr)(xs ys:Array Value)(n m:Nat)(dd de:Option Addr)(sl sm:Array (Option Value))(e lt:Nat->Bool) :
  Meets (Builtin.«list.__lt__» ⟨[.ref l,.ref b],[]⟩)
   (fun A R s=>s.heap.get? l=some { cls:=.type "list",dict:=dd,data:=.seq xs n,slots:=sl }/\s.heap.get? b=some { cls:=.type "list",dict:=de,data:=.seq ys m,slots:=sm } /\
    (∀ j (h1:j < xs.size) (h2:j < ys.size),EqAt A.in1 s xs[j] ys[j] (e j)/\BO A.in1 s xs[j] ys[j] (lt j)) /\
    R (.ok (.ret (.bool (uJ e lt xs.size ys.size (min xs.size ys.size) 0)))) s):=by
 intro prog w A R s h;obtain⟨hp,g,d,tk,os⟩:=s;obtain⟨hl,hb,he,h⟩:=h;have f3:=Jv
 wp_walk using bM hl,bM hb
 exact⟨rM plain_eq_loop _,kQ entry_eq_loop (by
  rw [kF plain_eq_loop _];exact Ux l b xs ys n m dd de sl sm e lt _ 0 (cw _) rfl prog w A R _ ⟨hl,hb,he,h⟩)⟩
theorem Ab(l b:Addr)(xs ys:Array Value)(n m:Nat)(dd de:Option Addr)(sl sm:Array (Option Value))(e lt:Nat->Bool) :
  Meets (Builtin.«tuple.__lt__» ⟨[.ref l,.ref b],[]⟩)
   (fun A R s=>s.heap.get? l=some { cls:=.type "tuple",dict:=dd,data:=.seq xs n,slots:=sl }/\s.heap.get? b=some { cls:=.type "tuple",dict:=de,data:=.seq ys m,slots:=sm } /\
    (∀ j (h1:j < xs.size) (h2:j < ys.size),EqAt A.in1 s xs[j] ys[j] (e j)/\BO A.in1 s xs[j] ys[j] (lt j)) /\
    R (.ok (.ret (.bool (uJ e lt xs.size ys.size (min xs.size ys.size) 0)))) s) :=
 .of_wp fun prog w A R s h=>by
  obtain⟨hp,g,d,tk,os⟩:=s;obtain⟨hl,hb,he,h⟩:=h;have f2:=qZ;have zl:(xs.toList.zip ys.toList).length=min xs.size ys.size:=by simp
  wp_walk using bM hl,bM hb,mx _ (fun rest c s'=>c.1=none/\s'=⟨hp,g,d,tk,os⟩/\∃ i,i<=min xs.size ys.size/\rest=(xs.toList.zip ys.toList).drop i /\
   R (.ok (.ret (.bool (uJ e lt xs.size ys.size (min xs.size ys.size - i) i)))) ⟨hp,g,d,tk,os⟩) _
  case turn =>
   rintro⟨y,x⟩ rest c s' ⟨hc,rfl,i,hi,hz,hR⟩;have il:i < min xs.size ys.size:=by
    have:=congrArg dI hz;rw [cq,zl,ah] at this;lia
   have l1:i < xs.size:=by lia
   have l2:i < ys.size:=by lia
   rw [iF (by rw [zl]; exact il)] at hz;injection hz with hyx Rx
   have ey:y=xs[i]/\x=ys[i]:=by simpa using hyx
   obtain⟨rfl,rfl⟩:=ey;obtain⟨k,ek⟩:∃ k,min xs.size ys.size - i=k+1:=⟨min xs.size ys.size - i - 1,by lia⟩;rw [ek,uJ] at hR;refine ag ((he i l1 l2).1 prog w _ _ ?_);cases q:e i with
   | true =>
    rw [q,if_pos rfl] at hR
    wp_walk
    exact⟨rfl,rfl,i+1,by lia,Rx,by rw [show min xs.size ys.size - (i+1)=k by lia]; exact hR⟩
   | false =>
    rw [q,if_neg (by simp)] at hR;have Zo:=(he i l1 l2).2 prog w
    wp_walk using Zo
    exact⟨_,rfl,by simpa using hR⟩
  case fin =>
   rintro⟨c1,c2⟩ s' ⟨hc,rfl,i,hi,hz,hR⟩;simp only at hc;subst hc;have il:min xs.size ys.size - i=0:=by
    have:=congrArg dI hz;rw [cq,zl,aw] at this;lia
   rw [il,uJ] at hR
   wp_walk
   exact⟨_,rfl,by simpa [vK] using hR⟩
  case h =>
   exact⟨rfl,rfl,0,cw _,rfl,by simpa using h⟩
theorem NW{A:cO}{s:ay}{l b:Addr}{xs ys:Array Value}{e lt:Nat->Bool}(hl:s.heap.IsList l xs)(hb:s.heap.IsList b ys)(hu:A.units < cLine)
  (he:∀ j (h1:j < xs.size) (h2:j < ys.size),EqAt A.in1 s xs[j] ys[j] (e j)/\BO A.in1 s xs[j] ys[j] (lt j)):BO A s (.ref l) (.ref b) (uJ e lt xs.size ys.size (min xs.size ys.size) 0):=by
 intro prog w E Q hq;obtain⟨⟨cls,dd,data,sl⟩,ho,hc,n,hd⟩:=id hl;obtain⟨⟨R6,FK,data2,Gn⟩,De,EG,n2,hd2⟩:=id hb;simp only at hc hd EG hd2;subst hc hd EG hd2;exact yW (op:=.Lt) ⟨_,ho,rfl⟩ ⟨_,De,rfl⟩ vH Ng (LB _ _) (C5 l b xs ys n n2 dd FK sl Gn e lt)
  ⟨ho,De,he,(fun x=>nomatch x),hq⟩ hu
theorem Kj{A:cO}{s:ay}{l b:Addr}{xs ys:Array Value}{e lt:Nat->Bool}(hl:s.heap.IsTuple l xs)(hb:s.heap.IsTuple b ys)(hu:A.units < cLine)
  (he:∀ j (h1:j < xs.size) (h2:j < ys.size),EqAt A.in1 s xs[j] ys[j] (e j)/\BO A.in1 s xs[j] ys[j] (lt j)):BO A s (.ref l) (.ref b) (uJ e lt xs.size ys.size (min xs.size ys.size) 0):=by
 intro prog w E Q hq;obtain⟨⟨cls,dd,data,sl⟩,ho,hc,n,hd⟩:=id hl;obtain⟨⟨R6,FK,data2,Gn⟩,De,EG,n2,hd2⟩:=id hb;simp only at hc hd EG hd2;subst hc hd EG hd2;exact yW (op:=.Lt) ⟨_,ho,rfl⟩ ⟨_,De,rfl⟩ mW uF (su _ _) (Ab l b xs ys n n2 dd FK sl Gn e lt)
  ⟨ho,De,he,(fun x=>nomatch x),hq⟩ hu
theorem pL(xs ys:List D):∀ (k i:Nat),i<=min xs.length ys.length->min xs.length ys.length - i=k ->
  uJ (fun j=>iM (xs.getD j .eT) (ys.getD j .eT)) (fun j=>pI (xs.getD j .eT) (ys.getD j .eT)) xs.length ys.length k i=ni (xs.drop i) (ys.drop i)
 | 0,i,hi,hk=>by
  rw [uJ];by_cases c:xs.length<=ys.length
  ·have e1:xs.drop i=[]:=mX (by lia);rw [e1];cases q:ys.drop i with
   | nil =>
    have:=congrArg dI q;rw [cq,aw] at this;exact decide_eq_false (by lia)
   | cons y r =>
    have:=congrArg dI q;rw [cq,ah] at this;exact decide_eq_true (by lia)
  ·have e1:ys.drop i=[]:=mX (by lia);rw [e1];cases q:xs.drop i with
   | nil =>
    have:=congrArg dI q;rw [cq,aw] at this;exact decide_eq_false (by lia)
   | cons y r=>exact decide_eq_false (by lia)
 | k+1,i,hi,hk=>by
  have l1:i < xs.length:=by lia
  have l2:i < ys.length:=by lia
  rw [uJ,iF l1,iF l2,nY,pL xs ys k (i+1) (by lia) (by lia)];have g1:xs.getD i .eT=xs[i]:=by rw [eK,ax l1]; rfl
  have g2:ys.getD i .eT=ys[i]:=by rw [eK,ax l2]; rfl
  rw [g1,g2]
theorem kW{h:Heap}:∀ {ds:List D} {vs:List Value} {as:List Addr},iu h vs (mR ds) as->∀ j (hj:j < vs.length),∃ bs,Reads h vs[j] (pd (ds.getD j .eT)) bs
 | [],vs,as,r,j,hj=>by cases r; exact absurd hj (qf _)
 | d :: ds,_,_,.cons (v:=v) (vs:=vs) r1 r2,j,hj=>by
  cases j with
  | zero=>exact⟨_,r1⟩
  | succ j=>exact kW r2 j (by simpa using hj)
theorem readsAll_len{h:Heap}:∀ {ds:List D} {vs:List Value} {as:List Addr},iu h vs (mR ds) as->vs.length=ds.length
 | [],_,_,r=>by cases r; rfl
 | d :: ds,_,_,.cons r1 r2=>by rw [ah,ah,readsAll_len r2]
theorem qw:∀ {ds:List D},rq ds=true->∀ j,nr (ds.getD j .eT)=true
 | [],_,j=>by rw [List.getD_nil]; rfl
 | d :: ds,h,0=>by
  have h:(nr d&&rq ds)=true:=h;rw [aJ] at h; simpa using h.1
 | d :: ds,h,j+1=>by
  have h:(nr d&&rq ds)=true:=h;rw [aJ] at h; simpa using qw h.2 j
theorem me:∀ (ds:List D) (j:Nat),(pd (ds.getD j .eT)).depth<=cf (mR ds)
 | [],j=>by rw [List.getD_nil]; exact aE _
 | d :: ds,0=>by
  show (pd d).depth<=cf (pd d :: mR ds);simp only [cf]; lia
 | d :: ds,j+1=>by
  have:=me ds j;show (pd (ds.getD j .eT)).depth<=cf (pd d :: mR ds);simp only [cf]; lia
theorem tw:∀ {l:List oD} {ds:List D},fP l ds=true->∀ j,j < ds.length->∃ s∈l,cN s (ds.getD j .eT)=true/\l[j]?=some s
 | [],[],_,j,hj=>absurd hj (qf _)
 | [],_ :: _,h,_,_=>by cases h
 | _ :: _,[],h,_,_=>by cases h
 | s :: l,d :: ds,h,0,_=>by
  have h:(cN s d&&fP l ds)=true:=h;rw [aJ] at h;exact⟨s,by simp,by simpa using h.1,by simp⟩
 | s :: l,d :: ds,h,j+1,hj=>by
  have h:(cN s d&&fP l ds)=true:=h;rw [aJ] at h;obtain⟨s',h1,h2,h3⟩:=tw h.2 j (by simpa using hj);exact⟨s',aG _ h1,by simpa using h2,by simpa using h3⟩
theorem tx:∀ {s:oD} {ds:List D},ij s ds=true->∀ j,j < ds.length->cN s (ds.getD j .eT)=true
 | s,[],_,j,hj=>absurd hj (qf _)
 | s,d :: ds,h,0,_=>by
  have h:(cN s d&&ij s ds)=true:=h;rw [aJ] at h; simpa using h.1
 | s,d :: ds,h,j+1,hj=>by
  have h:(cN s d&&ij s ds)=true:=h;rw [aJ] at h; simpa using tx h.2 j (by simpa using hj)
theorem EY{A:cO}{s:ay}{xs ys:List D}{vs ws:Array Value}{as bs:List Addr}(r1:iu s.heap vs.toList (mR xs) as)(r2:iu s.heap ws.toList (mR ys) bs)(n1:rq xs=true)(n2:rq ys=true)
  (hu:A.units+cf (mR xs) < cLine) (j:Nat) (h1:j < vs.size) (h2:j < ws.size):EqAt A s vs[j] ws[j] (iM (xs.getD j .eT) (ys.getD j .eT)):=by
 obtain⟨Z0,q1⟩:=kW r1 j (by simpa using h1);obtain⟨V2,q2⟩:=kW r2 j (by simpa using h2);have m1:=qw n1 j;have m2:=qw n2 j;have dp:=me xs j;have:=eqAt_reads (pd (xs.getD j .eT)) (pd (ys.getD j .eT)) A s _ _ _ _ q1 q2 (k7 _ m1) (k7 _ m2) (by lia);rw [vk _ _ m1 m2] at this;simpa using this
theorem vd:∀ (n:Nat) (sh:oD) (a b:D) (A:cO) (s:ay) (u v:Value) (as bs:List Addr),(pd a).depth<=n->cN sh a=true->cN sh b=true->nr a=true->nr b=true->Reads s.heap u (pd a) as->Reads s.heap v (pd b) bs->A.units+n < cLine->BO A s u v (pI a b):=by
 intro n;induction n using Nat.strongRecOn with
 | _ n ih =>
 intro sh a b A s u v as bs hn h1 h2 n1 n2 r1 r2 hu;cases sh with
 | int =>
  first | obtain⟨_,rfl⟩:=dP h1 | obtain⟨_,rfl⟩:=dM h1 | obtain⟨_,rfl⟩:=dO h1
  first | obtain⟨_,rfl⟩:=dP h2 | obtain⟨_,rfl⟩:=dM h2 | obtain⟨_,rfl⟩:=dO h2
  cases r1; cases r2;intro prog w E Q hq;exact HT.Ay A s _ _ _ _ prog w E Q hq
 | tup l =>
  first | obtain⟨_,rfl⟩:=dP h1 | obtain⟨_,rfl⟩:=dM h1 | obtain⟨_,rfl⟩:=dO h1
  first | obtain⟨_,rfl⟩:=dP h2 | obtain⟨_,rfl⟩:=dM h2 | obtain⟨_,rfl⟩:=dO h2
  rename_i xs ys;have n1:rq xs=true:=n1;have n2:rq ys=true:=n2;cases r1 with
  | tuple k1 k2 k3 k4 =>
   cases r2 with
   | tuple m1 m2 m3 m4 =>
    rename_i p o vs c p' o' ws c';have hd:(pd (.tup xs)).depth=cf (mR xs)+1:=rfl;obtain⟨n',rfl⟩:∃ n',n=n'+1:=⟨n - 1,by lia⟩;have z1:=readsAll_len k4;have z2:=readsAll_len m4;have e1:vs.size=xs.length:=by simpa using z1
    have e2:ws.size=ys.length:=by simpa using z2
    have base:=Kj (A:=A) (s:=s) (e:=fun j=>iM (xs.getD j .eT) (ys.getD j .eT)) (lt:=fun j=>pI (xs.getD j .eT) (ys.getD j .eT)) ⟨_,k1,k2,_,k3⟩ ⟨_,m1,m2,_,m3⟩ (by lia) (fun j j1 j2=>by
     refine⟨EY k4 m4 n1 n2 (by show A.units+1+_ < _; lia) j j1 j2,?_⟩;obtain⟨Z0,q1⟩:=kW k4 j (by simpa using j1);obtain⟨V2,q2⟩:=kW m4 j (by simpa using j2);obtain⟨sj,hsj,g1,g2⟩:=tw (l:=l) (ds:=xs) h1 j (by lia);obtain⟨sj',ab2,g1',RK⟩:=tw (l:=l) (ds:=ys) h2 j (by lia);rw [g2] at RK; cases RK;have dp:=me xs j;have:=ih n' (by lia) sj (xs.getD j .eT) (ys.getD j .eT) A.in1 s _ _ _ _ (by lia) g1 g1' (qw n1 j) (qw n2 j) q1 q2 (by show A.units+1+n' < cLine; lia);simpa using this)
    have fin:=pL xs ys (min xs.length ys.length) 0 (cw _) rfl;rw [e1,e2,fin] at base;exact base
 | lst l =>
  first | obtain⟨_,rfl⟩:=dP h1 | obtain⟨_,rfl⟩:=dM h1 | obtain⟨_,rfl⟩:=dO h1
  first | obtain⟨_,rfl⟩:=dP h2 | obtain⟨_,rfl⟩:=dM h2 | obtain⟨_,rfl⟩:=dO h2
  rename_i xs ys;have n1:rq xs=true:=n1;have n2:rq ys=true:=n2;cases r1 with
  | list k1 k2 k3 k4 =>
   cases r2 with
   | list m1 m2 m3 m4 =>
    rename_i p o vs c p' Z0 o' ws c' V2;have hd:(pd (.dw xs)).depth=cf (mR xs)+1:=rfl;obtain⟨n',rfl⟩:∃ n',n=n'+1:=⟨n - 1,by lia⟩;have z1:=readsAll_len k4;have z2:=readsAll_len m4;have e1:vs.size=xs.length:=by simpa using z1
    have e2:ws.size=ys.length:=by simpa using z2
    have base:=NW (A:=A) (s:=s) (e:=fun j=>iM (xs.getD j .eT) (ys.getD j .eT)) (lt:=fun j=>pI (xs.getD j .eT) (ys.getD j .eT)) ⟨_,k1,k2,_,k3⟩ ⟨_,m1,m2,_,m3⟩ (by lia) (fun j j1 j2=>by
     refine⟨EY k4 m4 n1 n2 (by show A.units+1+_ < _; lia) j j1 j2,?_⟩;obtain⟨Z0,q1⟩:=kW k4 j (by simpa using j1);obtain⟨V2,q2⟩:=kW m4 j (by simpa using j2);have dp:=me xs j;have:=ih n' (by lia) l (xs.getD j .eT) (ys.getD j .eT) A.in1 s _ _ _ _ (by lia) (tx (s:=l) (ds:=xs) h1 j (by lia)) (tx (s:=l) (ds:=ys) h2 j (by lia)) (qw n1 j) (qw n2 j) q1 q2 (by show A.units+1+n' < cLine; lia);simpa using this)
    have fin:=pL xs ys (min xs.length ys.length) 0 (cw _) rfl;rw [e1,e2,fin] at base;exact base
end K2
end
section
namespace K2
open PySem PySem.Spec PyProof.Rows L2 PySem.W
section
variable {prog:bE} {w:World} {A:cO} {E:Value->ay->Prop} {s:ay}
theorem PV {at':Addr} {bL:List Value} {n:Nat} {P:PySem.Fin->ay->Prop} (zf:s.heap.get? at'=some (zQ "list" bL.toArray n)) (EO:bL.length < 2)
  (done:P (.done (.ret .none)) { s with heap:=sortedHeap s.heap at' bL bL.toArray }):wpAny (model prog w) A (Builtin.«list.sort» ⟨[.ref at'],[]⟩) P E s:=by
 rw [list_sort_plain];have lt':at' < s.heap.objs.size:=aR zf;refine ag (listItems_at zf rfl (ag (listUpdate_at zf rfl ?_)));obtain⟨c,hc⟩:∃ c,(s.heap.update at' (jP fun _=>#[])).get? at'=some (zQ "list" #[] c):=⟨_,get?_update_seq zf (fun _=>#[])⟩;refine ag (seqEpoch_at hc rfl (ag (wpAny_newTuple (ag (wpAny_newList (cF ?_))))));have h6:(((s.heap.update at' (jP fun _=>#[])).push (zQ "tuple" bL.toArray 0)).push (zQ "list" #[] 0)).get? at'=some (zQ "list" #[] c):=by
  rw [Heap.get?_push_ne _ _ _ (by rw [size_push',FG]; exact bx (DT lt')),Heap.get?_push_ne _ _ _ (by rw [FG]; exact bx lt')];exact hc
 show wpAny (model prog w) A _ P E { s with heap:=((s.heap.update at' (jP fun _=>#[])).push (zQ "tuple" bL.toArray 0)).push (zQ "list" #[] 0) };dsimp only;have sz2:bL.toArray.size < 2:=by simpa using EO
 rw [if_pos sz2,if_pos sz2];refine ag (aA ?_);rw [StateT.run_pure];refine ag (aA ?_);dsimp only;have es:(bL.toArray.zip bL.toArray).map (·.2)=bL.toArray:=by
  apply Array.toList_inj.mp;simp [List.map_snd_zip]
 refine ag (seqEpoch_at h6 rfl (ag (listUpdate_at h6 rfl ?_ (hsz2:=by rw [show (arrOf (SortSt.mk' general' (bL.toArray.zip bL.toArray) #[] 7 none)).map (·.2)=bL.toArray from es,cD]; simp; lia))));simp only [bne_self_eq_false,au,if_false];refine aA ?_;rw [show (arrOf (SortSt.mk' general' (bL.toArray.zip bL.toArray) #[] 7 none)).map (·.2)=bL.toArray from es];exact done
theorem JN{l:Addr}{bL:List Value}{Q:Value->ay->Prop}(hl:s.heap.IsList l bL.toArray)(EO:bL.length < 2)
  (done:Q (.ref (s.heap.objs.size+1)) { s with heap:=sortedAll s.heap bL bL.toArray }):wpAny (model prog w) A (call (.builtin "sorted") [.ref l]) Q E s:=by
 refine Calls.call_function_entry kind_sorted plain_sorted entry_sorted (args_sorted1 _) ?_;unfold Builtin.«sorted»;refine ag (m:=checkCount "sorted" 1 1 _) (aA (ag (collect_list hl (ag (wpAny_newList ?_)))));have e1:((s.heap.push (zQ "list" #[] 0)).update s.heap.objs.size (jP (·++bL.toArray))).objs.size=s.heap.objs.size+1:=by rw [FG,size_push']
 have e2:(((s.heap.push (zQ "list" #[] 0)).update s.heap.objs.size (jP (·++bL.toArray))).push (zQ "list" bL.toArray 0)).get? (s.heap.objs.size+1)=some (zQ "list" bL.toArray 0):=by
  rw [<-e1]; exact a9 _ rfl
 show wpAny _ _ _ _ _ { s with heap:=((s.heap.push (zQ "list" #[] 0)).update s.heap.objs.size (jP (·++bL.toArray))).push (zQ "list" bL.toArray 0) };rw [e1];refine ag (cF (df slot_list_sort ⟨_,e2,rfl⟩ entry_list_sort (PV e2 EO ⟨_,rfl,?_⟩) (args_list_sort _)));exact aA ⟨_,rfl,done⟩
end
section
open PySem.SeqAt
def Sw(A:cO)(s:ay)(y x:Value)(b:Bool):Prop :=
 ∀ (prog:bE) (w:World) (E:Value->ay->Prop) (Q:Bool->ay->Prop),Q b s->wpAny (model prog w) A (oneLt' true y x) Q E s
theorem J8{A:cO}{s:ay}{l b:Addr}{xs ys:Array Value}{e lt:Nat->Bool}(hl:s.heap.IsList l xs)(hb:s.heap.IsList b ys)(hu:A.units < cLine)
  (he:∀ j (h1:j < xs.size) (h2:j < ys.size),EqAt A.in1 s xs[j] ys[j] (e j)/\BO A.in1 s xs[j] ys[j] (lt j)):Sw A s (.ref l) (.ref b) (uJ e lt xs.size ys.size (min xs.size ys.size) 0):=by
 intro prog w E Q hq;obtain⟨⟨cls,dd,data,sl⟩,ho,hc,n,hd⟩:=id hl;obtain⟨⟨R6,FK,data2,Gn⟩,De,EG,n2,hd2⟩:=id hb;simp only at hc hd EG hd2;subst hc hd EG hd2;rw [oneLt'_eq];simp only [if_true];refine ag (wpAny_cRoomFor hu (ag (Lu (T:="list") ⟨_,ho,rfl⟩ vH ?_)));exact Jk vH ⟨_,ho,rfl⟩ Ng (LB _ _) (C5 l b xs ys n n2 dd FK sl Gn e lt) ⟨ho,De,he,oS hq⟩
theorem GQ{A:cO}{s:ay}{l b:Addr}{xs ys:Array Value}{e lt:Nat->Bool}(hl:s.heap.IsTuple l xs)(hb:s.heap.IsTuple b ys)(hu:A.units < cLine)
  (he:∀ j (h1:j < xs.size) (h2:j < ys.size),EqAt A.in1 s xs[j] ys[j] (e j)/\BO A.in1 s xs[j] ys[j] (lt j)):Sw A s (.ref l) (.ref b) (uJ e lt xs.size ys.size (min xs.size ys.size) 0):=by
 intro prog w E Q hq;obtain⟨⟨cls,dd,data,sl⟩,ho,hc,n,hd⟩:=id hl;obtain⟨⟨R6,FK,data2,Gn⟩,De,EG,n2,hd2⟩:=id hb;simp only at hc hd EG hd2;subst hc hd EG hd2;rw [oneLt'_eq];simp only [if_true];refine ag (wpAny_cRoomFor hu (ag (Lu (T:="tuple") ⟨_,ho,rfl⟩ mW ?_)));exact Jk mW ⟨_,ho,rfl⟩ uF (su _ _) (Ab l b xs ys n n2 dd FK sl Gn e lt) ⟨ho,De,he,oS hq⟩
theorem Hx{n:Nat}{A:cO}{s:ay}{xs ys:List D}{vs ws:Array Value}{as bs:List Addr}(r1:iu s.heap vs.toList (mR xs) as)(r2:iu s.heap ws.toList (mR ys) bs)(n1:rq xs=true)(n2:rq ys=true)(hd:cf (mR xs)<=n)
  (hu:A.units+n < cLine) (hs:∀ j,j < xs.length->j < ys.length->∃ sh,cN sh (xs.getD j .eT)=true/\cN sh (ys.getD j .eT)=true) (j:Nat) (h1:j < vs.size) (h2:j < ws.size) :
  EqAt A s vs[j] ws[j] (iM (xs.getD j .eT) (ys.getD j .eT))/\BO A s vs[j] ws[j] (pI (xs.getD j .eT) (ys.getD j .eT)):=by
 have z1:=readsAll_len r1;have z2:=readsAll_len r2;have e1:vs.size=xs.length:=by simpa using z1
 have e2:ws.size=ys.length:=by simpa using z2
 refine⟨EY r1 r2 n1 n2 (by lia) j h1 h2,?_⟩;obtain⟨Z0,q1⟩:=kW r1 j (by simpa using h1);obtain⟨V2,q2⟩:=kW r2 j (by simpa using h2);obtain⟨sh,g1,g2⟩:=hs j (by lia) (by lia);have dp:=me xs j;have:=vd n sh (xs.getD j .eT) (ys.getD j .eT) A s _ _ _ _ (by lia) g1 g2 (qw n1 j) (qw n2 j) q1 q2 hu;simpa using this
theorem yI{n:Nat}{sh:oD}{a b:D}{A:cO}{s:ay}{u v:Value}{as bs:List Addr}(hn:(pd a).depth<=n)(h1:cN sh a=true)(h2:cN sh b=true)(n1:nr a=true)(n2:nr b=true)(r1:Reads s.heap u (pd a) as)(r2:Reads s.heap v (pd b) bs)
  (hu:A.units+n < cLine):Sw A s u v (pI a b):=by
 cases sh with
 | int =>
  first | obtain⟨_,rfl⟩:=dP h1 | obtain⟨_,rfl⟩:=dM h1 | obtain⟨_,rfl⟩:=dO h1
  first | obtain⟨_,rfl⟩:=dP h2 | obtain⟨_,rfl⟩:=dM h2 | obtain⟨_,rfl⟩:=dO h2
  cases r1; cases r2;intro prog w E Q hq;exact oneLt_int hq
 | tup l =>
  first | obtain⟨_,rfl⟩:=dP h1 | obtain⟨_,rfl⟩:=dM h1 | obtain⟨_,rfl⟩:=dO h1
  first | obtain⟨_,rfl⟩:=dP h2 | obtain⟨_,rfl⟩:=dM h2 | obtain⟨_,rfl⟩:=dO h2
  rename_i xs ys;have n1:rq xs=true:=n1;have n2:rq ys=true:=n2;cases r1 with
  | tuple k1 k2 k3 k4 =>
   cases r2 with
   | tuple m1 m2 m3 m4 =>
    rename_i p o vs c p' o' ws c';have hd:(pd (.tup xs)).depth=cf (mR xs)+1:=rfl;obtain⟨n',rfl⟩:∃ n',n=n'+1:=⟨n - 1,by lia⟩;have z1:=readsAll_len k4;have z2:=readsAll_len m4;have e1:vs.size=xs.length:=by simpa using z1
    have e2:ws.size=ys.length:=by simpa using z2
    have base:=GQ (A:=A) (s:=s) ⟨_,k1,k2,_,k3⟩ ⟨_,m1,m2,_,m3⟩ (by lia) (Hx (A:=A.in1) (n:=n') k4 m4 n1 n2 (by lia) (by show A.units+1+n' < cLine; lia) fun j j1 j2=>by
     obtain⟨sj,hsj,g1,g2⟩:=tw (l:=l) (ds:=xs) h1 j j1;obtain⟨sj',ab2,g1',RK⟩:=tw (l:=l) (ds:=ys) h2 j j2;rw [g2] at RK; cases RK;exact⟨sj,g1,g1'⟩)
    have fin:=pL xs ys (min xs.length ys.length) 0 (cw _) rfl;rw [e1,e2,fin] at base;exact base
 | lst l =>
  first | obtain⟨_,rfl⟩:=dP h1 | obtain⟨_,rfl⟩:=dM h1 | obtain⟨_,rfl⟩:=dO h1
  first | obtain⟨_,rfl⟩:=dP h2 | obtain⟨_,rfl⟩:=dM h2 | obtain⟨_,rfl⟩:=dO h2
  rename_i xs ys;have n1:rq xs=true:=n1;have n2:rq ys=true:=n2;cases r1 with
  | list k1 k2 k3 k4 =>
   cases r2 with
   | list m1 m2 m3 m4 =>
    rename_i p o vs c p' Z0 o' ws c' V2;have hd:(pd (.dw xs)).depth=cf (mR xs)+1:=rfl;obtain⟨n',rfl⟩:∃ n',n=n'+1:=⟨n - 1,by lia⟩;have z1:=readsAll_len k4;have z2:=readsAll_len m4;have e1:vs.size=xs.length:=by simpa using z1
    have e2:ws.size=ys.length:=by simpa using z2
    have base:=J8 (A:=A) (s:=s) ⟨_,k1,k2,_,k3⟩ ⟨_,m1,m2,_,m3⟩ (by lia) (Hx (A:=A.in1) (n:=n') k4 m4 n1 n2 (by lia) (by show A.units+1+n' < cLine; lia) fun j j1 j2=>⟨l,tx (s:=l) (ds:=xs) h1 j j1,tx (s:=l) (ds:=ys) h2 j j2⟩);have fin:=pL xs ys (min xs.length ys.length) 0 (cw _) rfl;rw [e1,e2,fin] at base;exact base
theorem EA{prog:bE}{w:World}{A:cO}{s:ay}{b fin:Bool}{Q:Bool->ay->Prop}{n:Nat}(hu:A.units+n < cLine):∀ (l:List oD) (xs ys:List D) (vs ws:List Value) (as bs:List Addr) (i:Nat),fP l xs=true->fP l ys=true->rq xs=true->rq ys=true ->
  iu s.heap vs (mR xs) as->iu s.heap ws (mR ys) bs->cf (mR xs)<=n->fin=false->Q (ni xs ys) s->KatLex prog w A b fin Q (vs.zip ws) i s:=by
 intro l xs;induction xs generalizing l with
 | nil =>
  intro ys vs ws as bs i h1 h2 n1 n2 r1 r2 hd hf hq;cases r1;cases l with
  | nil =>
   cases ys with
   | nil=>cases r2; subst hf; exact hq
   | cons _ _=>cases h2
  | cons _ _=>cases h1
 | cons x xs ih =>
  intro ys vs ws as bs i h1 h2 n1 n2 r1 r2 hd hf hq;cases l with
  | nil=>cases h1
  | cons sh l =>
  cases ys with
  | nil=>cases h2
  | cons y ys =>
  cases r1 with
  | @cons v vs _ _ _ _ a1 a2 =>
  cases r2 with
  | @cons u ws _ _ _ _ b1 b2 =>
  have h1:(cN sh x&&fP l xs)=true:=h1;have h2:(cN sh y&&fP l ys)=true:=h2;have n1:(nr x&&rq xs)=true:=n1;have n2:(nr y&&rq ys)=true:=n2;rw [aJ] at h1 h2 n1 n2;have ZF:(pd x).depth<=n/\cf (mR xs)<=n:=by
   have hd:cf (pd x :: mR xs)<=n:=hd;simp only [cf] at hd;lia
  show KatLex prog w A b fin Q ((v,u) :: vs.zip ws) i s;have eq:=eqAt_reads (pd x) (pd y) A s _ _ _ _ a1 b1 (k7 _ n1.1) (k7 _ n2.1) (by lia);rw [vk _ _ n1.1 n2.1] at eq;refine kat_cons (eq prog w _ _ ?_);rw [nY] at hq;cases q:iM x y with
  | true =>
   rw [q,if_pos rfl] at hq;exact kat_yes (ih l ys vs ws _ _ (i+1) h1.2 h2.2 n1.2 n2.2 a2 b2 ZF.2 hf hq)
  | false =>
   rw [q,if_neg (by simp)] at hq;refine kat_no ?_;cases c:(b&&i == 0) with
   | true=>exact yI ZF.1 h1.1 h2.1 n1.1 n2.1 a1 b1 hu prog w _ Q hq
   | false=>exact kat_one v u (vd n sh x y A s _ _ _ _ ZF.1 h1.1 h2.1 n1.1 n2.1 a1 b1 hu prog w _ _ hq)
end
def mw{α:Type}(n:Nat)(P:α->Prop):KasT α->Prop
 | .ret a=>P a
 | .ask i j k=>i < n/\j < n/\∀ b,mw n P (k b)
theorem mw.bind{α β:Type}{n:Nat}{P:α->Prop}{P':β->Prop}{f:α->KasT β}:∀ {t:KasT α},mw n P t->(∀ a,P a->mw n P' (f a))->mw n P' (t.bind f)
 | .ret a,q,h=>h a q
 | .ask i j k,⟨q1,q2,q3⟩,h=>⟨q1,q2,fun b=>mw.bind (q3 b) h⟩
theorem Hv{α:Type}{n:Nat}{lt:Nat->Nat->Bool}{cmp:Nat->Nat->(Bool->ay->Prop)->ay->Prop}{s:ay}{Q:α->ay->Prop}(hc:∀ i j,i < n->j < n->∀ C:Bool->ay->Prop,C (lt i j) s->cmp i j C s) :
  ∀ (t:KasT α),mw n (fun _=>True) t->Q (i4 lt t) s->t.kasWp cmp Q s
 | .ret a,_,q=>q
 | .ask i j k,⟨h1,h2,h3⟩,q=>hc i j h1 h2 _ (Hv hc (k (lt i j)) (h3 _) q)
def Bd(n:Nat)(p:Array Nat):Prop:=0 < n/\∀ x∈p,x < n
theorem Bd.at{n:Nat}{p:Array Nat}(h:Bd n p)(k:Nat):p.getD k 0 < n:=by
 by_cases hk:k < p.size
 ·have:p.getD k 0=p[k]:=by simp [LG,hk]
  rw [this]; exact h.2 _ (Array.getElem_mem hk)
 ·have:p.getD k 0=0:=by simp [LG,hk]
  rw [this]; exact h.1
def Bd.perm{n:Nat}{p q:Array Nat}(h:Bd n p)(hp:q.Perm p):Bd n q:=⟨h.1,fun x hx=>h.2 x (hp.mem_iff.mp hx)⟩
theorem Fo{n:Nat}{p:Array Nat}(h:Bd n p):∀ (f k:Nat),mw n (fun _=>True) (sg p f k)
 | 0,k=>trivial
 | f+1,k=>⟨h.at _,h.at _,fun b=>by
  show mw n _ (if b=true then xC k else sg p f (k+1));split
  ·trivial
  ·exact Fo h f (k+1)⟩
theorem w9{n:Nat}:∀ (f:Nat) (p:Array Nat) (k q:Nat),Bd n p->mw n (fun r=>Bd n r.1) (my f p k q)
 | 0,p,k,q,h=>h
 | f+1,p,k,q,h=>⟨h.at _,h.at _,fun b=>by
  show mw n _ (if b=true then (if q > 0 then my f (hZ p (k - (q+1)) k) (k+1) 0 else my f p (k+1) 0) else .ask (p.getD (k - 1) 0) (p.getD k 0) fun d=>if d=true then .ret (p,k,q) else my f p (k+1) (q+1));split
  ·split
   ·exact w9 f _ _ _ (h.perm (kU _ _ _))
   ·exact w9 f _ _ _ h
  ·refine⟨h.at _,h.at _,fun d=>?_⟩;show mw n _ (if d=true then xC (p,k,q) else my f p (k+1) (q+1));split
   ·exact h
   ·exact w9 f _ _ _ h⟩
def Iz{n:Nat}{p:Array Nat}(h:Bd n p)(k m:Nat):mw n (fun r=>Bd n r.2) (Pq k m p) :=
 mw.bind (Fo (h.perm (kU _ _ _)) _ _) fun _ _=>h.perm (kU _ _ _)
def w8{n:Nat}{p:Array Nat}(h:Bd n p)(k m:Nat):mw n (fun r=>Bd n r.2) (zS k m p) :=
 mw.bind (w9 _ _ _ _ h) fun r hr=>by
  split
  ·exact Iz (hr.perm (kU _ _ _)) _ _
  ·exact Iz hr _ _
theorem OJ{n:Nat}{p:Array Nat}(h:Bd n p)(m:Nat):mw n (fun r=>Bd n r.2) (kas_count m p) :=
 mw.bind (Fo h _ _) fun k _=>by
  split
  ·exact h
  ·split
   ·refine⟨h.at _,h.at _,fun b=>?_⟩;show mw n _ (if b=true then xC (k,p) else zS k m (hZ p 0 k));split
    ·exact h
    ·exact w8 (h.perm (kU _ _ _)) _ _
   ·exact w8 h _ _
theorem ym{n:Nat}{p:Array Nat}(h:Bd n p)(k:Nat):∀ (f l r:Nat),mw n (fun _=>True) (kP p k f l r)
 | 0,l,r=>trivial
 | f+1,l,r=>by
  show mw n _ (if l>=r then xC l else .ask (p.getD k 0) (p.getD ((l+r) / 2) 0) fun c=>if c=true then kP p k f l ((l+r) / 2) else kP p k f ((l+r) / 2+1) r);split
  ·trivial
  ·refine⟨h.at _,h.at _,fun b=>?_⟩;show mw n _ (if b=true then kP p k f l ((l+r) / 2) else kP p k f ((l+r) / 2+1) r);split
   ·exact ym h k f _ _
   ·exact ym h k f _ _
theorem M4{n:Nat}:∀ (f:Nat) (p:Array Nat) (k:Nat),Bd n p->mw n (fun _=>True) (kas_bin f p k)
 | 0,p,k,h=>trivial
 | f+1,p,k,h=>mw.bind (ym h k _ _ _) fun l _=>M4 f _ _ (h.perm (bubble_perm _ _ _))
def Sr{n:Nat}(h:0 < n):mw n (fun _=>True) (kas_sort n) :=
 mw.bind (OJ ⟨h,fun x hx=>by simpa using hx⟩ n) fun r hr=>by
  split
  ·exact M4 _ _ _ hr
  ·trivial
mutual
theorem yB{h h':Heap}(hk:∀ b o vs n,o.data=.seq vs n->h.get? b=some o->h'.get? b=some o):∀ (d:D) {v:Value} {as:List Addr},nr d=true->Reads h v (pd d) as->Reads h' v (pd d) as
 | .eT,_,_,_,r=>by cases r; exact .none
 | .bl b,_,_,_,r=>by cases r; exact .bool b
 | .int i,_,_,_,r=>by cases r; exact .int i _
 | .str x,_,_,_,r=>by cases r; exact .str x _
 | .tup ds,_,_,n,r=>by
  cases r with
  | tuple h1 h2 h3 h4=>exact .tuple (hk _ _ _ _ h3 h1) h2 h3 (nS hk ds n h4)
 | .dw ds,_,_,n,r=>by
  cases r with
  | list h1 h2 h3 h4=>exact .list (hk _ _ _ _ h3 h1) h2 h3 (nS hk ds n h4)
 | .kH _,_,_,n,_=>by cases n
 | .ref _,_,_,n,_=>by cases n
 | .exc _,_,_,n,_=>by cases n
theorem nS{h h':Heap}(hk:∀ b o vs n,o.data=.seq vs n->h.get? b=some o->h'.get? b=some o):∀ (ds:List D) {vs:List Value} {as:List Addr},rq ds=true->iu h vs (mR ds) as->iu h' vs (mR ds) as
 | [],_,_,_,r=>by cases r; exact .nil
 | d :: ds,_,_,n,r=>by
  have n:(nr d&&rq ds)=true:=n;rw [aJ] at n;cases r with
  | cons r1 r2=>exact .cons (yB hk d n.1 r1) (nS hk ds n.2 r2)
end
mutual
theorem JO(G:Gp):∀ (sh:oD) (d:D) (n:Nat),cN sh d=true->VW sh<=n->Sn G n d d
 | .int,.int i,n,_,_=>.int i
 | .tup l,.tup ds,n,h,hn=>by
  have hn:RY l+1<=n:=hn;obtain⟨m,rfl⟩:∃ m,n=m+1:=⟨n - 1,by lia⟩;exact LR G l ds m h (by lia)
 | .lst s,.dw ds,n,h,hn=>by
  have hn:VW s+1<=n:=hn;obtain⟨m,rfl⟩:∃ m,n=m+1:=⟨n - 1,by lia⟩;exact LS G s ds m h (by lia)
theorem LR(G:Gp):∀ (l:List oD) (ds:List D) (m:Nat),fP l ds=true->RY l<=m->Sn G (m+1) (.tup ds) (.tup ds)
 | [],[],m,_,_=>.JJ
 | s :: l,d :: ds,m,h,hm=>by
  have h:(cN s d&&fP l ds)=true:=h;have hm:max (VW s) (RY l)<=m:=hm;rw [aJ] at h;exact .sF (JO G s d m h.1 (by lia)) (LR G l ds m h.2 (by lia))
theorem LS(G:Gp):∀ (s:oD) (ds:List D) (m:Nat),ij s ds=true->VW s<=m->Sn G (m+1) (.dw ds) (.dw ds)
 | s,[],m,_,_=>.Ea
 | s,d :: ds,m,h,hm=>by
  have h:(cN s d&&ij s ds)=true:=h;rw [aJ] at h;exact .uT (JO G s d m h.1 hm) (LS G s ds m h.2 hm)
end
def getD_at{α:Type}(xs:List α)(d:α){i:Nat}(h:i < xs.length):xs.getD i d=xs[i]:=by
 rw [eK,ax h]; rfl
def AX{α:Type}(xs:List α)(d:α):(fL xs.length).map (fun i=>xs.getD i d)=xs:=by
 refine List.ext_getElem (by simp) fun i h1 h2=>?_;rw [oH,mC];exact getD_at _ _ h2
theorem Gh{h:Heap}{s1:oD}{l:List oD}:∀ (zs:List D) (vs:List Value),(∀ z∈zs,cN (.tup (s1 :: l)) z=true)->(∀ i,i < vs.length->∃ as,Reads h (vs.getD i .none) (pd (zs.getD i .eT)) as)->vs.length=zs.length ->
  ∃ fs,KatTups h vs fs/\fs.length=vs.length/\∀ f∈fs,∃ d as,cN s1 d=true/\Reads h f (pd d) as:=by
 intro zs;induction zs with
 | nil =>
  intro vs _ _ h;have:vs=[]:=List.length_eq_zero_iff.mp h;subst this;exact⟨[],trivial,rfl,fun _ h=>by cases h⟩
 | cons z zs ih =>
 intro vs hs hr hl;cases vs with
 | nil=>cases hl
 | cons v vs =>
  obtain⟨fs,h1,h2,h3⟩:=ih vs (fun z hz=>hs z (aG _ hz)) (fun i hi=>by
   obtain⟨as,r⟩:=hr (i+1) (by simpa using hi);exact⟨as,by simpa using r⟩) (by simpa using hl)
  obtain⟨as,r⟩:=hr 0 (by simp);have hz:=hs z (by simp);simp only [List.getD_cons_zero] at r;cases z <;> first | (cases hz; done) | skip
  rename_i ds;cases ds with
  | nil=>cases hz
  | cons d ds =>
   have hz:(cN s1 d&&fP l ds)=true:=hz;rw [aJ] at hz;cases r with
   | tuple k1 k2 k3 k4 =>
    rename_i p o ws c;have k5:iu h ws.toList (pd d :: mR ds) as:=k4;cases q:ws.toList with
    | nil=>rw [q] at k5; cases k5
    | cons f rest =>
     rw [q] at k5;cases k5 with
     | cons r1 r2 =>
      have hf:ws[0]?=some f:=by
       have:ws.toList[0]?=some f:=by rw [q]; rfl
       simpa using this
      refine⟨f :: fs,.cons k1 k2 k3 hf h1,by simp [h2],fun g hg=>?_⟩;rcases List.mem_cons.mp hg with rfl | hg
      ·exact⟨d,_,hz.1,r1⟩
      ·exact h3 g hg
def PC:oD->Value
 | .int=>.type "int"
 | .tup _=>.type "tuple"
 | .lst _=>.type "list"
theorem C3{M:Model}{h:Heap}{sh:oD}{d:D}{v:Value}{as:List Addr}(hs:cN sh d=true)(r:Reads h v (pd d) as):Looks M h (typeOf v) (PC sh):=by
 cases sh with
 | int =>
  cases d <;> first | (cases hs; done) | skip
  cases r;exact .now
 | tup l =>
  cases d <;> first | (cases hs; done) | skip
  cases r with
  | tuple k1 k2 k3 k4 =>
   rename_i p o ws c;have:Looks M h (typeOf (.ref p)) o.cls:=(Looks.ld k1).andThen .now;rw [k2] at this; exact this
 | lst l =>
  cases d <;> first | (cases hs; done) | skip
  cases r with
  | list k1 k2 k3 k4 =>
   rename_i p o ws c as;have:Looks M h (typeOf (.ref p)) o.cls:=(Looks.ld k1).andThen .now;rw [k2] at this; exact this
theorem N8{prog:bE}{w:World}{A:cO}{s:ay}{E:Value->ay->Prop}{Q:Bool->ay->Prop}{n:Nat}{b:Bool}{l:List oD}{a c:D}{u v:Value}{as bs:List Addr}(hn:(pd a).depth<=n+1)(h1:cN (.tup l) a=true)(h2:cN (.tup l) c=true)(n1:nr a=true)(n2:nr c=true)
  (r1:Reads s.heap u (pd a) as) (r2:Reads s.heap v (pd c) bs) (hu:A.units+n < cLine) (hq:Q (pI a c) s):wpAny (model prog w) A (keyLt' (tuples' b) u v) Q E s:=by
 first | obtain⟨_,rfl⟩:=dP h1 | obtain⟨_,rfl⟩:=dM h1 | obtain⟨_,rfl⟩:=dO h1
 first | obtain⟨_,rfl⟩:=dP h2 | obtain⟨_,rfl⟩:=dM h2 | obtain⟨_,rfl⟩:=dO h2
 rename_i xs ys;cases r1 with
 | tuple k1 k2 k3 k4 =>
  cases r2 with
  | tuple m1 m2 m3 m4 =>
   rename_i p o vs c p' o' ws c';have z1:=readsAll_len k4;have z2:=readsAll_len m4;have e1:vs.size=xs.length:=by simpa using z1
   have e2:ws.size=ys.length:=by simpa using z2
   have el:∀ (l:List oD) (xs ys:List D),fP l xs=true->fP l ys=true->xs.length=ys.length:=by
    intro l;induction l with
    | nil =>
     intro xs ys h1 h2;cases xs with
     | nil=>cases ys with
      | nil=>rfl
      | cons _ _=>cases h2
     | cons _ _=>cases h1
    | cons s l ih =>
     intro xs ys h1 h2;cases xs with
     | nil=>cases h1
     | cons x xs =>
      cases ys with
      | nil=>cases h2
      | cons y ys =>
       have h1:(cN s x&&fP l xs)=true:=h1;have h2:(cN s y&&fP l ys)=true:=h2;rw [aJ] at h1 h2;rw [ah,ah,ih xs ys h1.2 h2.2]
   have hd:(pd (.tup xs)).depth=cf (mR xs)+1:=rfl;refine kat_lt k1 k3 m1 m3 (EA (n:=n) hu l xs ys _ _ _ _ 0 h1 h2 n1 n2 k4 m4 (by lia) (decide_eq_false (by rw [e1,e2,el l xs ys h1 h2]; lia)) hq)
section
variable {X:Cx}
def NX{x:D}{G:Gp}{zs:List D}(ty:IT x G)(hi:itemsOf x G=some zs):tf x G=some zs:=by
 cases x <;> first | exact ty.elim | exact hi
theorem qR (hc:X.calm=true) (hu:X.A.units+64 < cLine):tV X (.builtin "sorted") ux:=by
 intro pins s σ H G xs ds us Q I ab rx rd q;unfold ux at q;split at q
 ·rename_i x;obtain⟨sh,zs,ty,hi,wN,b7,h64,q⟩:=q;obtain⟨w1,rfl,Gr⟩:=rd.one;obtain⟨u,rfl,ru⟩:=rx.one;obtain⟨l,vs,bL,rfl,rv,rs,hl,_⟩:=qW I ab ru Gr (NX ty hi);have Xo:=rv.length;have zd:=rs.length;have hsz:a8=16777216:=cD;have hz:∀ z∈zs,cN sh z=true:=fun z h=>List.all_eq_true.mp wN z h;by_cases EO:bL.length < 2
  ·refine JN hl EO ?_;obtain⟨e,he⟩:=sortedAll_at s.heap bL bL.toArray;have hp:H (s.heap.objs.size+1)=none:=I.b7.fresh (Jq _);have es:sH zs=zs:=vP sh hz (.refl _) (by
    match zs,zd,EO with
    | [],_,_=>exact .nil
    | [z],_,_=>exact List.pairwise_singleton _ _
    | _ :: _ :: _,h,f=>exact absurd f (by rw [<-Xo,h]; simp))
   rw [es] at q;refine⟨.ref (s.heap.objs.size+1),upd H (s.heap.objs.size+1) (.lst vs),.ref _,_,I.laid (t':=s.toks) (fun b o e=>sortedAll_old e) (Jq _) ?_,.Kd ab hp rs,rfl,.ref _,q _ (ab.free hp)⟩;exact⟨by lia,bL,e,rv,he⟩
  ·obtain⟨m,F0⟩:=I.fr;have nz:0 < zs.length:=by lia
   have nL:∀ b o vs n,o.data=.seq vs n->s.heap.get? b=some o->b≠X.env.locals:=fun b o vs n e1 e2 z=>by
    obtain⟨o',es,ep,FI,BZ,_⟩:=F0.ns;rw [z,FI] at e2; cases e2; rw [BZ] at e1; cases e1
   unfold W0 at b7;rw [aJ] at b7;have hdp:VW sh<=7:=of_decide_eq_true b7.1;have sn:∀ z∈zs,Sn G 7 z z:=fun z h=>JO G sh z 7 (hz z h) hdp;refine kat_sorted F0 GY hl (by lia) (by lia) fun Dd e1 h' F N wL=>?_;obtain⟨kk,ns⟩:=xV I F0 F fun p hp=>N p (aG _ hp);have Eb:∀ i,i < bL.length->∃ as,Reads h' (bL.getD i .none) (pd (zs.getD i .eT)) as:=fun i hi=>by
    have i1:i < zs.length:=by lia
    have i2:i < vs.length:=by lia
    have g1:zs.getD i .eT=zs[i]:=getD_at _ _ i1;have g2:bL.getD i .none=bL[i]:=getD_at _ _ hi;obtain⟨v,hv,YH⟩:=rs.get (ax i1);obtain⟨u,HD,ruv⟩:=rv.get hv;rw [ax hi] at HD;cases HD;obtain⟨as,r⟩:=(ic I ab (sn _ (e9 i1))).1 v _ YH ruv;rw [g1,g2];exact⟨as,yB (fun b o vs n e1 e2=>kk b o (nL b o vs n e1 e2) e2) _ (sn _ (e9 i1)).nr r⟩
   have B8:∀ i,i < zs.length->cN sh (zs.getD i .eT)=true:=fun i hi=>by rw [getD_at _ _ hi]; exact hz _ (e9 hi)
   have nrz:∀ i,i < zs.length->nr (zs.getD i .eT)=true:=fun i hi=>by rw [getD_at _ _ hi]; exact(sn _ (e9 hi)).nr
   have dpz:∀ i,i < zs.length->(pd (zs.getD i .eT)).depth<=7:=fun i hi=>by rw [getD_at _ _ hi]; exact Bs (sn _ (e9 hi))
   let zz:Nat->D:=fun i=>if i < zs.length then zs.getD i .eT else zs.getD 0 .eT
   have Yq:∀ i,cN sh (zz i)=true:=fun i=>by
    show cN sh (if i < zs.length then zs.getD i .eT else zs.getD 0 .eT)=true;split
    ·exact B8 i (by assumption)
    ·exact B8 0 nz
   let lt:Nat->Nat->Bool:=fun i j=>pI (zz i) (zz j)
   have swo:OM lt:=⟨fun i j h=>C1 sh (Yq i) (Yq j) h,fun i j k h1 h2=>A2 sh (Yq i) (Yq j) (Yq k) h1 h2⟩;have lte:∀ i j,i < zs.length->j < zs.length->lt i j=pI (zs.getD i .eT) (zs.getD j .eT):=fun i j hi hj=>by
    show pI (if i < zs.length then _ else _) (if j < zs.length then _ else _)=_;rw [if_pos hi,if_pos hj]
   obtain⟨p,ep,HG,psz,hup⟩:=P4 swo (n:=bL.length) (by lia);have hA2:X.A.in1.in1.units=X.A.units+2:=rfl;have ask:∀ κ:SortKind,(∀ i j,i < bL.length->j < bL.length->∀ C:Bool->ay->Prop,C (pI (zs.getD i .eT) (zs.getD j .eT)) { s with heap:=h' }->kas_ask X.prog X.w X.A.in1.in1 κ bL i j C { s with heap:=h' }) ->
     (kas_sort bL.length).kasWp (kas_ask X.prog X.w X.A.in1.in1 κ bL) (fun p YF=>KasFin X.base X.env.locals m Dd e1 (p.toList.map fun i=>bL.getD i gM) (fun s3=>r8 X pins σ H G Q (.ref Dd) s3) YF) { s with heap:=h' }:=by
    intro κ hk;refine Hv (lt:=lt) (n:=bL.length) (fun i j i1 i2 C hC=>hk i j i1 i2 C (by rw [<-lte i j (by lia) (by lia)]; exact hC)) _ (Sr (by lia)) ?_;rw [ep];refine KasFin.intro (g:=fun o=>(Dd,o) :: uB X.base s.heap X.env.locals) F N (.head (fun q hq z=>absurd (wL q hq) (by rw [z]; exact jh _))) fun h2 c F2 N2=>?_;obtain⟨k2,ns2⟩:=xV I F0 F2 fun p hp=>N2 p (aG _ hp);have hD:s.heap.get? Dd=none:=by
     have nD:=N _ bH;cases qd:s.heap.get? Dd with
     | none=>rfl
     | some o=>exact absurd (wL _ (yK nD.2.1 nD.2.2 qd)) (jh _)
    have hp:H Dd=none:=MN I.b7 hD;have rvp:Vals (p.toList.map fun i=>vs.getD i .eT) (p.toList.map fun i=>bL.getD i gM):=by
     have:∀ (ps:List Nat),(∀ i∈ps,i < bL.length)->Vals (ps.map fun i=>vs.getD i .eT) (ps.map fun i=>bL.getD i gM):=by
      intro ps;induction ps with
      | nil=>intro _; exact .nil
      | cons i ps ih =>
       intro hh;have hi:=hh i (by simp);refine .cons ?_ (ih fun j hj=>hh j (aG _ hj));have i2:i < vs.length:=by lia
       obtain⟨u,HD,ruv⟩:=rv.get (ax i2);rw [ax hi] at HD;cases HD;show RelV (vs.getD i .eT) (bL.getD i .none);rw [getD_at _ _ i2,getD_at _ _ hi]; exact ruv
     exact this _ fun i hi=>by simpa using HG.mem_iff.mp hi
    have rsp:ba X.K H (p.toList.map fun i=>vs.getD i .eT) (p.toList.map fun i=>zs.getD i .eT):=by
     have:∀ (ps:List Nat),(∀ i∈ps,i < bL.length)->ba X.K H (ps.map fun i=>vs.getD i .eT) (ps.map fun i=>zs.getD i .eT):=by
      intro ps;induction ps with
      | nil=>intro _; exact .nil
      | cons i ps ih =>
       intro hh;have hi:=hh i (by simp);refine .cons ?_ (ih fun j hj=>hh j (aG _ hj));have i2:i < vs.length:=by lia
       have i1:i < zs.length:=by lia
       obtain⟨v,hv,r⟩:=rs.get (ax i1);rw [ax i2] at hv;cases hv;show bX X.K H (vs.getD i .eT) (zs.getD i .eT);rw [getD_at _ _ i2,getD_at _ _ i1]; exact r
     exact this _ fun i hi=>by simpa using HG.mem_iff.mp hi
    have es:sH zs=p.toList.map fun i=>zs.getD i .eT:=by
     refine vP sh hz ?_ ?_
     ·have h1:(p.toList.map fun i=>zs.getD i .eT).Perm ((fL zs.length).map fun i=>zs.getD i .eT):=by
       have:bL.length=zs.length:=by lia
       rw [<-this];exact HG.map _
      rw [AX] at h1;exact h1
     ·rw [ny,List.pairwise_iff_getElem];intro i j hi hj Ol;have g1:gA p i=p.toList[i]:=by
       have:i < p.size:=by simpa using hi
       simp [gA,LG,this]
      have g2:gA p j=p.toList[j]:=by
       have:j < p.size:=by simpa using hj
       simp [gA,LG,this]
      have bi:p.toList[i] < bL.length:=by simpa using HG.mem_iff.mp (e9 hi)
      have bj:p.toList[j] < bL.length:=by simpa using HG.mem_iff.mp (e9 hj)
      have:=hup i j (by lia) (by have:j < p.toList.length:=hj; rw [fK,psz] at this; exact this);rw [g1,g2,lte _ _ (by lia) (by lia)] at this;exact this
    rw [es] at q;have ln:(p.toList.map fun i=>vs.getD i .eT).length<=a8:=by rw [aq,fK,psz]; lia
    refine⟨.ref Dd,upd H Dd (.lst (p.toList.map fun i=>vs.getD i .eT)),.ref _,_,Inv.VB (t':=s.toks) I k2 ns2 hD ?_,.Kd ab hp rsp,rfl,.ref _,q _ (ab.free hp)⟩;exact⟨ln,_,c,rvp,(N2 _ bH).1⟩
   have gen:∀ i j,i < bL.length->j < bL.length->∀ C:Bool->ay->Prop,C (pI (zs.getD i .eT) (zs.getD j .eT)) { s with heap:=h' }->wpAny (model X.prog X.w) X.A.in1.in1 (keyLt' oneType' (bL.getD i gM) (bL.getD j gM)) C (fun _ _=>False) { s with heap:=h' }:=by
    intro i j hi hj C hC;obtain⟨as,r1⟩:=Eb i hi;obtain⟨bs,r2⟩:=Eb j hj;rw [keyLt'_oneType];exact yI (s:={ s with heap:=h' }) (n:=7) (dpz i (by lia)) (B8 i (by lia)) (B8 j (by lia)) (nrz i (by lia)) (nrz j (by lia)) r1 r2 (by rw [hA2]; lia) X.prog X.w _ C hC
   have lk:∀ v∈bL,Looks (model X.prog X.w) h' (typeOf v) (PC sh):=fun v hv=>by
    obtain⟨i,hi,rfl⟩:=pY hv;obtain⟨as,r⟩:=Eb i hi;rw [getD_at _ _ hi] at r;exact C3 (B8 i (by lia)) r
   cases sh with
   | int=>exact kas_kind (s:={ s with heap:=h' }) (T:=.type "int") (by lia) lk rfl rfl (ask oneType' gen)
   | lst ss=>exact kas_kind (s:={ s with heap:=h' }) (T:=.type "list") (by lia) lk rfl rfl (ask oneType' gen)
   | tup ss =>
    cases ss with
    | nil=>exact absurd b7.2 (by simp)
    | cons s1 ss =>
     obtain⟨fs,t1,t2,t3⟩:=Gh (h:=h') zs bL hz Eb (by lia);refine kat_kind (s:={ s with heap:=h' }) (T:=PC s1) t1 (by lia) (fun f hf=>?_) (by cases s1 <;> rfl) (ask _ fun i j hi hj C hC=>?_)
     ·obtain⟨d,as,h1,h2⟩:=t3 f hf;exact C3 h1 h2
     ·obtain⟨as,r1⟩:=Eb i hi;obtain⟨bs,r2⟩:=Eb j hj;exact N8 (s:={ s with heap:=h' }) (n:=7) (by have:=dpz i (by lia); lia) (B8 i (by lia)) (B8 j (by lia)) (nrz i (by lia)) (nrz j (by lia)) r1 r2 (by rw [hA2]; lia) hC
 ·exact q.elim
end
end K2
end
section
namespace L2
open PySem PySem.Spec PyProof.Rows
section
variable {prog:bE} {w:World} {A:cO} {E:Value->ay->Prop} {s:ay}
theorem Kq{d:Addr}{od:Obj}{es:Array fV}{c:Nat}{Q:Value->ay->Prop}(ns:(d == dh)=false)(FH:s.heap.get? d=some od)(ex:od.ExactDict)(dd:od.data=.dict es c)
  (hQ:Q (.ref s.heap.objs.size) { s with heap:=s.heap.push { cls:=.type "dict_keyiterator",data:=.fields #[.ref d,.int 0 0,.int es.size 0,.int c 0] } }):wpAny (model prog w) A (FT (.ref d)) Q E s:=by
 have ty:s.TypeIs (.ref d) "dict":=⟨od,FH,ex.1⟩;refine oT ty F.slot_dict_iter (df F.slot_dict_iter ty F.entry_dict_iter ?_ (F.args_dict_iter_1 _));unfold Builtin.«dict.__iter__» Builtin.Dict.dictSlotNone;refine ag (ag (zP ty (show wpAny _ _ (pure (fe d)) _ _ s from aA ?_)));show wpAny _ _ (lO d >>= _) _ _ s;unfold lO;rw [if_neg (fun z=>by rw [ns] at z; cases z)];refine ag (aA (ag (g6 FH dd (ag (nK FH dd ?_)))));refine ag (dg (aA ⟨_,rfl,"dict_keyiterator",_,⟨_,a9 _ rfl,rfl⟩,F.slot_dict_keyiterator_next.lookup,?_⟩));simpa [yr] using hQ
theorem N7{it d:Addr}{od:Obj}{es:Array fV}{i c:Nat}{Q:Option Value->ay->Prop}(ki:s.heap.IsKeyIter it d i es.size c)(FH:s.heap.get? d=some od)(dd:od.data=.dict es c)(hi:i < es.size)
  (hQ:∀ h',h'.IsKeyIter it d (i+1) es.size c->fX it s.heap h'->Q (some es[i].key) { s with heap:=h' }):wpAny (model prog w) A (yt (.ref it)) Q E s:=by
 obtain⟨o,ho,hc,hf⟩:=id ki;unfold yt;refine ag (rL (jT (name:=xA "__next__") ki.typeIs kq (df kq ki.typeIs Jt ?_ (IQ _))));refine ag (aA (ag (ag ?_)))
 first | refine ag (j7 ki.typeIs (aA ?_)) | refine ag (mO ki.typeIs (aA ?_))
 refine ag (pg ho hf ?_);have WS:fI "dict_keyiterator" = false:=by decide
 rw [WS];show wpAny _ _ (if (fe d == gM)=true then _ else _) _ _ s;rw [if_neg (fun z=>by cases z)];refine ag (aA (ag (g6 FH dd ?_)));rw [if_neg (by simp)];refine ag (aA (ag (nK FH dd ?_)));rw [if_neg (by simp)];refine aA ?_;dsimp only;rw [if_neg (show ¬ ((i:Int) < 0) from Int.not_lt.mpr (rX i)),fh,Jw hi];dsimp only;refine ag ?_
 first | refine ag (j7 ki.typeIs (aA ?_)) | refine ag (mO ki.typeIs (aA ?_))
 refine ag (wpAny_isOneOf_keyiter ki.typeIs ?_);show wpAny _ _ (setField (.ref it) 1 (yr ((i:Int)+1)) >>= _) _ _ s;refine ag (Ti ho hf (by simp) ?_);have ki2:(s.heap.update it (Obj.mapFields (·.setIfInBounds 1 (yr ((i:Int)+1))))).IsKeyIter it d (i+1) es.size c :=
  ⟨_,km _ ho (Obj.isFreed_of_fields (Obj.data_mapFields hf _)),(Obj.cls_mapFields ..).trans hc,by rw [Obj.data_mapFields hf]; simp [yr]⟩
 refine ag (cF (ag (wpAny_isOneOf_keyiter (s:={ s with heap:=s.heap.update it (Obj.mapFields (·.setIfInBounds 1 (yr ((i:Int)+1)))) }) ki2.typeIs ?_)));show wpAny _ _ (pure es[i].key) _ _ _;exact aA (aA ⟨_,rfl,aA (hQ _ ki2 (ko ..))⟩)
theorem Q0{it d:Addr}{od:Obj}{es:Array fV}{i c:Nat}{Q:Option Value->ay->Prop}(calm:A.handled=none)(ki:s.heap.IsKeyIter it d i es.size c)(FH:s.heap.get? d=some od)(dd:od.data=.dict es c)(hi:es.size<=i)
  (hQ:∀ h',Heap.ExtBut it s.heap h'->Q none { s with heap:=h' }):wpAny (model prog w) A (yt (.ref it)) Q E s:=by
 obtain⟨o,ho,hc,hf⟩:=id ki;unfold yt;refine ag (rL (jT (name:=xA "__next__") ki.typeIs kq (df kq ki.typeIs Jt ?_ (IQ _))));refine ag (aA (ag (ag ?_)))
 first | refine ag (j7 ki.typeIs (aA ?_)) | refine ag (mO ki.typeIs (aA ?_))
 refine ag (pg ho hf ?_);have WS:fI "dict_keyiterator" = false:=by decide
 rw [WS];show wpAny _ _ (if (fe d == gM)=true then _ else _) _ _ s;rw [if_neg (fun z=>by cases z)];refine ag (aA (ag (g6 FH dd ?_)));rw [if_neg (by simp)];refine ag (aA (ag (nK FH dd ?_)));rw [if_neg (by simp)];refine aA ?_;dsimp only;rw [if_neg (show ¬ ((i:Int) < 0) from Int.not_lt.mpr (rX i)),fh,O7 hi];dsimp only;refine ag ?_
 first | refine ag (j7 ki.typeIs (aA ?_)) | refine ag (mO ki.typeIs (aA ?_))
 show wpAny _ _ (setField (.ref it) 0 .none >>= _) _ _ s;refine ag (Ti ho hf (by simp) ?_);show wpAny _ _ (newExc (.type "StopIteration") [] >>= _) _ _ _;refine ag ?_;simp only [newExc,newTuple];refine ag (dg (ag (m:=Cz _ _) (Pk (a:=gM) (by first | rfl | (simp only [Cz]; rfl)) (dg ?_ (by size_fits)))) (by size_fits));simp only [raiseNew];refine ag (wpAny_handled ?_);rw [show A.in1.handled=none from calm];refine ag (aA (wpAny_throw ?_));refine ag (qc (T:="StopIteration") (b:=true) ⟨_,a9 _ rfl,rfl⟩ isSubtype_stop (?_));exact aA (hQ _ (((ko ..).extBut.push _).push _))
end
def Itk(a:Addr)(o:Obj)(es:Array fV)(ks:List V):It :=
 ⟨fun i H=>(∃ u,H a=some (.iN o u))/\i < es.size,fun i H v H'=>H'=H/\ks[i]?=some v,fun i H=>(∃ u,H a=some (.iN o u))/\es.size<=i⟩
theorem Np{P:bE}{w:World}{K:aj}{tg:Expr}(a it:Addr)(o:Obj)(es:Array fV)(c:Nat)(ks:List V)(dd:o.data=.dict es c)(hk:∀ i (h:i < es.size),∃ v,ks[i]?=some v/\RelV v es[i].key) :
  Turn P w K tg (Itk a o es ks) [it] it (fun i h=>h.IsKeyIter it a i es.size c) where
 mem:=by simp
 obj:=fun i h st b hb=>by
  have e:b=it:=by simpa using hb
  subst e;obtain⟨o',q,_,d⟩:=st;exact⟨o',q,fun v z=>by rw [d] at z; cases z⟩
 keep:=(by rintro i h h' ⟨o',q,r⟩ k; exact⟨o',k it (by simp) o' q,r⟩)
 item:=by
  intro X hP hw hK hc i pins s σ H E I hf st hg;subst hP hw hK;obtain⟨⟨u,hu⟩,hi⟩:=hg;obtain⟨f0,f1,f2,f3,f4,f5⟩:=hf it (by simp);obtain⟨v,hv,rv⟩:=hk i hi;refine N7 st (I.b7 a _ hu).1 dd hi fun h' B5 sb=>?_;have I1:Inv X pins σ H { s with heap:=h' }:=I.turned (t':=s.toks) (fun b o hb e=>(sb.2 b hb).trans e) f0 f1 f3 f4 f5;obtain⟨o',e,cl,d'⟩:=id B5;exact⟨_,rfl,MJ (s:={ s with heap:=h' }) e cl d' (by decide) ⟨v,H,I1,rv,⟨rfl,hv⟩,B5,fun b hb=>(hf b hb).1⟩⟩
 done:=by
  intro X hP hw hK hc i pins s σ H E I hf st hg;subst hP hw hK;obtain⟨⟨u,hu⟩,hi⟩:=hg;obtain⟨f0,f1,f2,f3,f4,f5⟩:=hf it (by simp);exact Q0 (I.ok.hd hc) st (I.b7 a _ hu).1 dd hi fun h' eb=>⟨rfl,I.turned (t':=s.toks) (fun b o hb e=>eb b o hb e) f0 f1 f3 f4 f5⟩
 self:=fun A i s Q E st h=>by
  refine oT st.typeIs LD (df LD st.typeIs F.entry_dict_keyiterator_iter ?_ (F.args_dict_keyiterator_iter_1 _));show wpAny _ _ (ret (.ref it)) _ _ s;exact aA ⟨_,rfl,"dict_keyiterator",_,st.typeIs,F.slot_dict_keyiterator_next.lookup,h⟩
end L2
namespace K2
open PySem PySem.Spec PyProof.Rows L2
section
variable {X:Cx} {tg a:Expr} {ta:gq} {pos p:Pos}
theorem xP{α β:Type}{F:α->β->Prop}:∀ {l:List α} {m:List β},lC F l m->∀ i (h1:i < l.length) (h2:i < m.length),F l[i] m[i]:=by
 intro l m h;induction h with
 | nil=>intro i h1; exact absurd h1 (qf i)
 | cons h t ih =>
  intro i h1 h2;cases i with
  | zero=>exact h
  | succ i=>exact ih i (vI h1) (vI h2)
def Q9{P:bE}{w:World}{k:Key}{u:Value}(h:(cJ P w).is k u=true):RelV (kV k) u:=by
 rcases fj h with ⟨i,t,rfl,rfl⟩ | ⟨x,t,rfl,rfl⟩
 ·exact⟨t,rfl⟩
 ·exact⟨t,rfl⟩
theorem mr.keys{K:aj}{H:Hp}:∀ {kv:List (Key×V)} {kvs:List (D×D)},mr K H kv kvs->kvs.map (·.1)=kv.map fun p=>eV p.1:=fun h =>
 mr.ind (motive:=fun kv kvs _=>kvs.map (·.1)=kv.map fun p=>eV p.1) rfl (fun _ _ ih=>congrArg (_ :: ·) ih) h
theorem mV.keys{K:aj}{H:Hp}:∀ {kv:List (List Key×V)} {kvs:List (D×D)},mV K H kv kvs->kvs.map (·.1)=kv.map fun p=>D.tup (p.1.map eV):=fun h =>
 mV.ind (motive:=fun kv kvs _=>kvs.map (·.1)=kv.map fun p=>D.tup (p.1.map eV)) rfl (fun _ _ ih=>congrArg (_ :: ·) ih) h
def Gx{K:aj}{H:Hp}(k:Key):bX K H (kV k) (eV k):=by
 cases k with
 | inl i=>exact .int i
 | inr x=>exact .str x
def xI{K:aj}{H:Hp}:∀ (ks:List Key),ba K H (ks.map kV) (ks.map eV)
 | []=>.nil
 | k :: ks=>.cons (Gx k) (xI ks)
theorem sY(ha:gG X a ta):ON X tg a (pO ta):=by
 intro E pins s σ H τ G R hE I h;refine j8 ha hE I h fun x H1 d G1 v s1 I1 m1 r1 j5 q1=>?_;unfold ED at q1;have go:∀ (l:Addr) (o:Obj) (u:HO) (kvs:List (D×D)) (es:Array fV) (c:Nat) (ks:List V),(l == dh)=false->H1 l=some (.iN o u)->o.ExactDict->o.data=.dict es c->(∀ i (h:i < es.size),∃ v,ks[i]?=some v/\RelV v es[i].key)->ks.length=es.size ->
   ba X.K H1 ks (kvs.map (·.1))->R (kvs.map (·.1)) (fun _=>True) G1->wpAny (model X.prog X.w) X.A (FT (.ref l)) (Lh X pins σ tg H G R) X.xe s1:=by
  intro l o u kvs es c ks ns hl ex dd hk hlen rs q;refine Kq ns (I1.inv.b7 l _ hl).1 ex dd ?_;refine⟨s1.heap.objs.size,[s1.heap.objs.size],_,_,H1,G1,kvs.map (·.1),_,rfl,I1.inv.kept (t':=s1.toks) fun b o e=>aF _ e,m1,Np l _ o es c ks dd hk,⟨_,a9 _ rfl,rfl,rfl⟩,fun b hb=>?_,fun i H2 G2 k ab _=>?_,q⟩
  ·have e:b=s1.heap.objs.size:=by simpa using hb
   subst e;exact I1.inv.Cf (aE _) (I1.inv.b7.fresh (aE _))
  ·have zd:=k.iN _ _ _ hl;have IV:=rs.mono k;refine⟨fun d hd=>?_,fun hle=>⟨⟨u,zd⟩,by rw [<-hlen,rs.length]; exact hle⟩⟩;obtain⟨v,hv,r⟩:=IV.get hd;have hi:i < es.size:=by rw [<-hlen]; exact(List.getElem?_eq_some_iff.mp hv).1
   refine⟨⟨⟨u,zd⟩,hi⟩,?_⟩;rintro x H3 ⟨e,y⟩;subst e;rw [hv] at y;cases y;exact⟨r,.refl ab⟩
 cases j5 with
 | oC hq rs =>
  rename_i l o kv kvs;cases r1;obtain⟨z,ns,vs,rel,ob,es,ep,ho,ex,dd,hko,hp,nd⟩:=(I1.inv.b7 l _ hq).2;have eo:ob=o:=by have:=(I1.inv.b7 l _ hq).1; rw [ho] at this; exact aZ this
  subst eo;have l1:es.size=vs.length:=by simpa using hp.length
  have l2:kv.length=vs.length:=i9 rel;refine go l ob _ kvs es ep (kv.map fun p=>kV p.1) ns hq ex dd (fun i hi=>?_) (by rw [aq]; lia) ?_ q1
  ·have i2:i < vs.length:=by lia
   have i3:i < kv.length:=by lia
   have g1:=(hp.get? (e:=es[i]) (k:=vs[i].1) (v:=vs[i].2) (by rw [ax (by simpa using hi)]; simp) (by rw [ax i2])).1;refine⟨kV kv[i].1,by simp [i3],?_⟩;have ek:kv[i].1=vs[i].1:=(xP rel i i3 i2).1;rw [ek];exact Q9 g1
  ·rw [rs.keys];have:∀ (l:List (Key×V)),ba X.K H1 (l.map fun p=>kV p.1) (l.map fun p=>eV p.1):=by
    intro l;induction l with
    | nil=>exact .nil
    | cons p l ih=>exact .cons (Gx p.1) ih
   exact this kv
 | oB hq rs =>
  rename_i l o kv kvs;cases r1;obtain⟨z,ns,xs,rel,ob,es,ep,ho,ex,dd,hl,nd⟩:=(I1.inv.b7 l _ hq).2;have eo:ob=o:=by have:=(I1.inv.b7 l _ hq).1; rw [ho] at this; exact aZ this
  subst eo;have l1:=congrArg dI hl;rw [aq,fK] at l1;refine go l ob _ kvs es ep (xs.map fun q=>V.ref q.2.1) ns hq ex dd (fun i hi=>?_) (by rw [aq]; lia) ?_ q1
  ·have i2:i < xs.length:=by lia
   refine⟨.ref xs[i].2.1,by simp [i2],?_⟩;have:es[i]=entryOfKey (jg (cJ X.prog X.w)) xs[i]:=by
    have:=congrArg (fun l=>l[i]?) hl;simp only [bu,ax i2] at this;simpa [hi] using this
   rw [this];rfl
  ·rw [rs.keys];have:∀ (kv:List (List Key×V)) (xs:List (List Key×Addr×Value)),lC (fun (p:List Key×V) (q:List Key×Addr×Value)=>p.1=q.1/\H1 q.2.1=some (.tup (p.1.map kV))/\RelV p.2 q.2.2) kv xs->ba X.K H1 (xs.map fun q=>V.ref q.2.1) (kv.map fun p=>D.tup (p.1.map eV)):=by
    intro kv xs r;induction r with
    | nil=>exact .nil
    | cons h _ ih=>exact .cons (.tup h.2.1 (xI _)) ih
   exact this kv xs rel
 | _=>exact q1.elim
end
end K2
end
section
namespace L2
open PySem PySem.Spec PyProof.Rows
section
variable {X:Cx}
def SQ(i j:Int):Prop:=i.natAbs < 2 ^ 4000/\j.natAbs < 2 ^ 4000
theorem SQ.ok{i j:Int}(h:SQ i j):IntMulOk i j:=by
 have h1:=intBits_le h.1;have h2:=intBits_le h.2;unfold IntMulOk;intro z;rw [aJ] at z;have z2:((Ju i+Ju j:Nat):Int) > (bitsLine:Int):=of_decide_eq_true z.2;have hb:8000<=bitsLine:=by decide
 lia
def Ug:M5 X (jU .Mult) (rI SQ fun i j=>.int (i * j)):=opI fun _ _ _ _ _ _ _ hc q=>mul_int q hc.ok
end
end L2
namespace K2
open PySem PySem.Spec PyProof.Rows L2
section
variable {X:Cx}
theorem AN:pW X (jU .Mult) GC:=by
 intro pins s σ H G x y dx dy v u Q I ab rx ry dX dY q;cases dX with
 | int i =>
  cases dY with
  | int j=>exact hU (Ug pins s σ H _ _ v u (B1 X.K H G Q) I rx ry ⟨i,j,rfl,rfl,q.1,_,_,.refl ab,.int _,q.2⟩) fun _ _ z=>.of z
  | _=>exact bI q
 | _=>exact bI q
theorem yf{pins:List (Addr×Obj)}{σ:L2.St}{H:Hp}{s:ay}{G:Gp}{x:V}{d:D}{kvs:List (D×D)}(I:Inv X pins σ H s)(ab:kK X.K H G)(rd:bX X.K H x d)(hd:wX d G=some kvs)(h1:wC kvs=true) :
  ∃ a kv vs,x=.ref a/\mr X.K H kv kvs/\kv.length<=a8/\(a == dh)=false/\KV kv vs/\s.heap.DictOf (cJ X.prog X.w) a vs:=by
 have empty:∀ (a:Addr) (kv:List (List Key×V)),fE X.prog X.w H s.heap a (.dT kv)->mV X.K H kv kvs ->
   ∃ a' kv vs,V.ref a=.ref a'/\mr X.K H kv kvs/\kv.length<=a8/\(a' == dh)=false/\KV kv vs/\s.heap.DictOf (cJ X.prog X.w) a' vs:=by
  intro a kv ok rs;cases rs with
  | nil =>
   obtain⟨z,hm,xs,rel,o,es,ep,ho,hx,BZ,hl,nd⟩:=ok;have hv:xs=[]:=by cases rel; rfl
   subst hv;have he:es=#[]:=by simpa using hl
   subst he;exact⟨a,[],[],rfl,.nil,cw _,hm,.nil,o,#[],ep,ho,hx,BZ,(fun _ h=>by simp at h),.nil,cj⟩
  | cons _ _=>simp [wC,di] at h1
 cases rd with
 | oC hq rs =>
  cases (show some _=some kvs from hd);obtain⟨z,hm,vs,rel,dd⟩:=uV I.b7 (.inr ⟨_,hq⟩);exact⟨_,_,vs,rfl,rs,z,hm,rel,dd⟩
 | oB hq rs =>
  cases (show some _=some kvs from hd);exact empty _ _ (I.b7 _ _ hq).2 rs
 | ref a =>
  unfold wX at hd;dsimp only at hd;split at hd
  ·rename_i kv' hg;cases hd;rcases ab a _ hg with ⟨kv,hv,rs⟩ | ⟨kv,hv,rs⟩
   ·obtain⟨z,hm,vs,rel,dd⟩:=Dw I.b7 hv;exact⟨a,kv,vs,rfl,rs,z,hm,rel,dd⟩
   ·exact empty a _ (I.b7 _ _ hv) rs
  ·cases hd
 | _=>cases hd
theorem Lb:tV X (.type "dict") MZ:=by
 intro pins s σ H G xs ds us Q I ab rx rd q;unfold MZ at q;split at q
 ·rename_i x;obtain⟨kvs,hd,h1,hl,q⟩:=q;obtain⟨v,rfl,r⟩:=rd.one;obtain⟨a,kv,vs,rfl,rs,z,hm,rel,dd⟩:=yf I ab r hd h1;obtain⟨u,rfl,ru⟩:=rx.one;cases ru;refine kt_call_dict hm dd (by rw [<-rel.length]; exact z) fun h' Bt hs=>?_;have hp:H s.heap.objs.size=none:=I.b7.fresh (aE _);refine⟨.ref _,upd H s.heap.objs.size (.dK kv),.ref _,_,I.laid (a:=s.heap.objs.size) (o:=.dK kv) (t':=s.toks) (fun b q hq=>?_) (aE _) (E1 z (beq_eq_false_iff_ne.mpr (e7 (bx I.big))) rel Bt),.new ab hp (.dk bU (rs.mono (.new hp))),rfl,.ref _,q _ (ab.free hp)⟩;exact(hs.2 b (bx (aR hq))).trans (aF _ hq)
 ·exact q.elim
theorem Eu:Lp X "dict.get" Kh:=by
 intro pins s σ H G x d xs ds v us Q I ab rx rd Pa Eb q;unfold Kh at q;split at q
 ·rename_i k d';obtain⟨kvs,hd,h1,hk,q⟩:=q;obtain⟨w,w2,rfl,Gr,P2⟩:=Eb.two;obtain⟨u1,u2,rfl,NB,P7⟩:=vals2 Pa;obtain⟨a,kv,vs,rfl,rs,z,hm,rel,dd⟩:=yf I ab rd hd h1;cases rx;obtain⟨kk,rfl⟩:=wD hk;have ey:=vS Gr;subst ey;refine zW fT dd.typeIs LA (Jp _ _ _) (meets_dict_get_default (cJ X.prog X.w) a (A8 NB) hm u2) ⟨_,dd.mapOf,?_⟩;have ro:=(rel.val kk).getD P7;rcases rs.look kk with ⟨v',d2,e1,e2,r⟩ | ⟨e1,e2⟩
  ·rw [e1] at ro;rw [e2] at q;exact⟨v',H,d2,G,I.tok _,.refl ab,ro,r,q⟩
  ·rw [e1] at ro;rw [e2] at q;exact⟨w2,H,d',G,I.tok _,.refl ab,ro,P2,q⟩
 ·exact q.elim
end
end K2
end
section
namespace L2
open PySem PySem.Spec PyProof.Rows
def Iti(a:Addr)(o:Obj)(kv:List (Key×V)):It :=
 ⟨fun i H=>(∃ u,H a=some (.iN o u))/\i < kv.length,fun i H v H'=>∃ T p,v=.ref T/\H T=none/\H'=upd H T (.tup [kV p.1,p.2])/\kv[i]?=some p,fun i H=>(∃ u,H a=some (.iN o u))/\kv.length<=i⟩
theorem AM{α β:Type}{F:α->β->Prop}:∀ {l:List α} {m:List β},lC F l m->∀ i (h1:i < l.length) (h2:i < m.length),F l[i] m[i]
 | _,_,.cons h _,0,_,_=>h
 | _,_,.cons _ t,i+1,h1,h2=>AM t i (by simpa using h1) (by simpa using h2)
def Ob{P:bE}{w:World}{k:Key}{u:Value}(h:(cJ P w).is k u=true):RelV (kV k) u:=by
 rcases fj h with ⟨i,t,rfl,rfl⟩ | ⟨x,t,rfl,rfl⟩
 ·exact⟨t,rfl⟩
 ·exact⟨t,rfl⟩
theorem mS:entryFor table "dict_itemiterator.__iter__" = some Builtin.«dict_keyiterator.__iter__» :=
 entryFor_alias (id':="dict_keyiterator.__iter__") (by rw [fastTable_eq_tree]; kernel_rfl) (by decide +kernel) (by decide +kernel) (by rw [fastTable_eq_tree]; kernel_rfl)
theorem JH{P:bE}{w:World}{K:aj}{elts:List Expr}{kk:Nat}{pos:Pos}(a it:Addr)(o:Obj)(kv:List (Key×V))(vs:List (Key×Value))(ep:Nat)(rel:KV kv vs)(hD:∀ h:Heap,h.get? a=some o->h.DictAt (cJ P w) a vs ep) :
  Turn P w K (.Tuple elts kk pos) (Iti a o kv) [it] it (fun i h=>∃ ok ov,oY h it a i vs.length ep ok ov) where
 mem:=by simp
 obj:=fun i h ⟨ok,ov,st⟩ b hb=>by
  have e:b=it:=by simpa using hb
  subst e;exact⟨_,st,fun v z=>by cases z⟩
 keep:=fun i h h' ⟨ok,ov,st⟩ k=>⟨ok,ov,k it (by simp) _ st⟩
 item:=by
  intro X hP hw hK hc i pins s σ H E I hf st hg;obtain⟨ok,ov,st⟩:=st;subst hP hw hK;obtain⟨⟨u,hu⟩,hi⟩:=hg;have hl:=rel.length;have Xr:i < vs.length:=by lia
  have hx:vs[i]?=some (vs[i].1,vs[i].2):=ax Xr;have rp:=AM rel i hi Xr;have Xz:H s.heap.objs.size=none:=I.b7.fresh (aE _);have Zy:it≠s.heap.objs.size:=bx (aR st);refine wpAny_pyNext_items_item st (hD _ (I.b7 a _ hu).1) hx fun key h' hk ho hT hsz kk=>?_;refine⟨_,rfl,?_⟩;have rk:RelV (kV kv[i].1) key:=by rw [rp.1]; exact Ob hk
  have I1:Inv X pins σ (upd H s.heap.objs.size (.tup [kV kv[i].1,kv[i].2])) { s with heap:=h',toks:=s.toks } :=
   I.zx (fp:=[it]) hf (fun b o hb q=>kk b o (fun z=>hb (by simp [z])) q) (aE _)
    ⟨by show 2<=a8; decide,[key,vs[i].2],.cons rk (.cons rp.2 .nil),⟨_,hT,rfl,_,rfl⟩⟩
  refine Pm (s:={ s with heap:=h' }) ho fun h2 UG HE=>?_;have f1:∀ b∈[it],oF X pins (upd H s.heap.objs.size (.tup [kV kv[i].1,kv[i].2])) b:=fun b hb=>(hf b hb).upd (by rw [List.mem_singleton.mp hb]; exact Zy);have I2:Inv X pins σ (upd H s.heap.objs.size (.tup [kV kv[i].1,kv[i].2])) { s with heap:=h2,toks:=s.toks } :=
   Inv.tY (s:={ s with heap:=h',toks:=s.toks }) (t':=s.toks) (fp:=[it]) I1 f1 fun b o hb q=>(HE.2 b (fun z=>hb (by simp [z]))).trans q
  exact⟨.ref s.heap.objs.size,_,I2,rfl,⟨_,kv[i],rfl,Xz,rfl,ax hi⟩,⟨_,_,UG⟩,fun b hb=>(f1 b hb).1⟩
 done:=by
  intro X hP hw hK hc i pins s σ H E I hf st hg;obtain⟨ok,ov,st⟩:=st;subst hP hw hK;obtain⟨⟨u,hu⟩,hi⟩:=hg;have hl:=rel.length;obtain⟨f0,f1,f2,f3,f4,f5⟩:=hf it (by simp);exact wpAny_pyNext_items_end (I.ok.hd hc) st (hD _ (I.b7 a _ hu).1) (kl (by lia)) fun h' eb=>⟨rfl,I.turned (t':=s.toks) (fun b o hb e=>eb b o hb e) f0 f1 f3 f4 f5⟩
 self:=fun A i s Q E ⟨ok,ov,st⟩ h=>by
  have ty:s.TypeIs (.ref it) "dict_itemiterator":=⟨_,st,rfl⟩;refine oT ty jX (df jX ty mS ?_ (FZ _));show wpAny _ _ (ret (.ref it)) _ _ s;exact aA ⟨_,rfl,"dict_itemiterator",_,ty,F.slot_dict_itemiterator_next.lookup,h⟩
end L2
namespace K2
open PySem PySem.Spec PyProof.Rows L2
section
variable {X:Cx}
theorem Wz{pins:List (Addr×Obj)}{σ:L2.St}{H:Hp}{s:ay}{x:V}{kvs:List (D×D)}(I:Inv X pins σ H s)(rd:bX X.K H x (.kH kvs))(h1:wC kvs=true) :
  ∃ a ob u kv vs ep,x=.ref a/\H a=some (.iN ob u)/\mr X.K H kv kvs/\(a == dh)=false/\KV kv vs/\∀ h:Heap,h.get? a=some ob->h.DictAt (cJ X.prog X.w) a vs ep:=by
 cases rd with
 | oC hq rs =>
  rename_i a o kv;obtain⟨z,hm,vs,rel,ob,es,ep,ho,r⟩:=(I.b7 a _ hq).2;have eo:ob=o:=by have:=(I.b7 a _ hq).1; rw [ho] at this; exact aZ this
  subst eo;exact⟨a,ob,_,kv,vs,ep,rfl,hq,rs,hm,rel,fun h e=>⟨ob,es,e,r⟩⟩
 | oB hq rs =>
  rename_i a o kv;cases rs with
  | nil =>
   obtain⟨z,hm,xs,rel,ob,es,ep,ho,hx,BZ,hl,nd⟩:=(I.b7 a _ hq).2;have eo:ob=o:=by have:=(I.b7 a _ hq).1; rw [ho] at this; exact aZ this
   subst eo;have hv:xs=[]:=by cases rel; rfl
   subst hv;have he:es=#[]:=by simpa using hl
   subst he;exact⟨a,ob,_,[],[],ep,rfl,hq,.nil,hm,.nil,fun h e=>⟨ob,#[],e,hx,BZ,(fun _ h=>by simp at h),.nil,cj⟩⟩
  | cons _ _=>simp [wC,di] at h1
theorem mr.item{K:aj}{H:Hp}:∀ {kv:List (Key×V)} {kvs:List (D×D)} {i:Nat} {q:D×D},mr K H kv kvs->kvs[i]?=some q->∃ p,kv[i]?=some p/\q.1=eV p.1/\bX K H p.2 q.2
 | _,_,_,_,.nil,e=>by simp at e
 | _,_,0,_,.cons r _,e=>by simp at e; subst e; exact⟨_,rfl,rfl,r⟩
 | _,_,i+1,q,.cons _ t,e=>by
  obtain⟨p,h1,h2⟩:=mr.item (i:=i) (q:=q) t (by simpa using e);exact⟨p,by simpa using h1,h2⟩
variable {elts:List Expr} {kk:Nat} {y0 apos mi:Pos} {o:Expr} {to:gq}
def NF{K:aj}{H:Hp}(k:Key):bX K H (kV k) (eV k):=by
 cases k with
 | inl i=>exact .int i
 | inr x=>exact .str x
theorem pF (ho:gG X o to) (wM:autoParam (FU o "items" X.env (eval o X.env)=eval o X.env) Ar._auto_1) (Bb:autoParam ((apos.endLine == mi.line)=true) Ar._auto_1) :
  ON X (.Tuple elts kk y0) (.Call (.Attribute o "items" apos) [] [] mi) (lK to):=by
 intro E pins s σ H τ G R hE I h;refine xu wM Bb (j8 ho hE I h fun x H1 d G1 v s1 I1 m1 r1 j5 q1=>?_);cases d with
 | kH kvs =>
  obtain⟨h1,q1⟩:=q1;obtain⟨t1,t2⟩:=nO pins s1 σ H1 G1 x _ v I1.inv I1.ab r1 j5 trivial;obtain⟨a,ob,u,kv,vs,ep,rfl,hu,rs,hm,rel,hD⟩:=Wz I1.inv j5 h1;cases r1;refine⟨"dict","dict.items",cH,gu,sr,t1,t2,mQ rfl (yX ?_)⟩;have dA:=hD _ (I1.inv.b7 a _ hu).1;refine zW gu t1 rN (qe _) (meets_dict_items (cJ X.prog X.w) a hm) ⟨⟨vs,dA.dictOf⟩,?_⟩;have I2:Inv X pins σ H1 { s1 with heap:=s1.heap.push { cls:=.type "dict_items",data:=.fields #[.ref a] } }:=I1.inv.kept (t':=s1.toks) fun b o e=>aF _ e;refine wpAny_pyIter_items (s:={ s1 with heap:=s1.heap.push { cls:=.type "dict_items",data:=.fields #[.ref a] } }) (kvs:=vs) (ep:=ep) ⟨_,a9 _ rfl,rfl,rfl⟩ (dA.push _) ?_;refine⟨_,[_],_,_,H1,G1,kvs.map (fun p=>.tup [p.1,p.2]),_,rfl,I2.kept (t':=s1.toks) fun b o e=>aF _ e,m1,JH a _ ob kv vs ep rel hD,⟨.none,.none,a9 _ rfl⟩,fun b hb=>?_,fun i H2 G2 k ab _=>?_,q1⟩
  ·have e:=List.mem_singleton.mp hb;subst e;exact I2.Cf (aE _) (I2.b7.fresh (aE _))
  ·have zd:=k.iN _ _ _ hu;have IV:=rs.mono k;have hlen:kv.length=kvs.length:=rs.length;refine⟨fun d hd=>?_,fun hle=>⟨⟨u,zd⟩,by rw [hlen]; simpa using hle⟩⟩;rw [bu] at hd;cases IZ:kvs[i]? with
   | none=>rw [IZ] at hd; cases hd
   | some q =>
    rw [IZ] at hd;obtain⟨p,hp,ek,rp⟩:=IV.item IZ;have hi:i < kv.length:=(List.getElem?_eq_some_iff.mp hp).1;refine⟨⟨⟨u,zd⟩,hi⟩,fun x H3 ⟨T,p',ex,hT,e3,hy⟩=>?_⟩;subst ex e3;rw [hp] at hy;cases hy;have ed:D.tup [q.1,q.2]=d:=by simpa using hd
    subst ed;rw [ek];exact⟨.tup bU (.cons (NF _) (.cons (rp.mono (.new hT)) .nil)),.MG ab hT⟩
 | _=>exact q1.elim
end
end K2
end
section
namespace K2
open PySem PySem.Spec PyProof.Rows L2
section
variable {X:Cx}
theorem tG{K:aj}{H:Hp}:∀ {kv:List (Key×V)} {l:List (Int×Int)},mr K H kv (bb l)->kv=l.map fun p=>((.inl p.1:Key),V.int p.2)
 | _,[],h=>by cases h; rfl
 | _,p :: l,h=>by
  have h:mr K H _ ((D.int p.1,D.int p.2) :: bb l):=h;generalize e:(D.int p.1,D.int p.2) :: bb l=t at h;cases h with
  | nil=>cases e
  | cons r rs =>
   rename_i k v d r' t';injection e with e1 e2
   injection e1 with e3 e4
   subst e2 e4;cases r;rw [tG rs];cases k with
   | inl i=>cases e3; rfl
   | inr x=>cases e3
theorem wB:∀ {l:List (Int×Int)} {vs:List (Key×Value)},KV (l.map fun p=>((.inl p.1:Key),V.int p.2)) vs->∃ ts:List Tok,ts.length=l.length/\vs=(l.zip ts).map fun q=>((.inl q.1.1:Key),fG q.1.2 q.2)
 | [],_,.nil=>⟨[],rfl,rfl⟩
 | p :: l,_,.cons h r=>by
  obtain⟨ts,h1,h2⟩:=wB r;rename_i q vs;obtain⟨k,v⟩:=q;obtain⟨e1,t,e2⟩:=h;cases e1;cases e2;exact⟨t :: ts,by simp [h1],by rw [h2]; rfl⟩
theorem DW{l:List (Int×Int)}{ts:List Tok}(h:ts.length=l.length)(k:Int):(cp l k=none/\oW ((l.zip ts).map fun q=>((.inl q.1.1:Key),fG q.1.2 q.2)) (.inl k)=none)\/∃ v t,cp l k=some v/\oW ((l.zip ts).map fun q=>((.inl q.1.1:Key),fG q.1.2 q.2)) (.inl k)=some (.int v t):=by
 induction l generalizing ts with
 | nil=>exact .inl ⟨rfl,rfl⟩
 | cons p l ih =>
  cases ts with
  | nil=>cases h
  | cons t ts =>
   have ih:=ih (ts:=ts) (by simpa using h);by_cases e:p.1=k
   ·refine .inr ⟨p.2,t,?_,?_⟩
    ·unfold cp; simp [e]
    ·unfold oW; simp [e]
   ·have e':¬ ((.inl p.1:Key)=.inl k):=fun z=>e (by injection z);have a1:cp (p :: l) k=cp l k:=by unfold cp; simp [e]
    have a2:oW (((p :: l).zip (t :: ts)).map fun q=>((.inl q.1.1:Key),fG q.1.2 q.2)) (.inl k)=oW ((l.zip ts).map fun q=>((.inl q.1.1:Key),fG q.1.2 q.2)) (.inl k):=by
     unfold oW; simp [e']
    rw [a1,a2]; exact ih
theorem x8{A:cO}{s:ay}{m:List (Int×Int)}{us:List Tok}(hm:us.length=m.length):∀ {l:List (Int×Int)} {ts:List Tok},ts.length=l.length ->
  PySem.W.KeqHits A s ((m.zip us).map fun q=>((.inl q.1.1:Key),fG q.1.2 q.2)) ((l.zip ts).map fun q=>((.inl q.1.1:Key),fG q.1.2 q.2)) (l.all fun p=>cp m p.1 == some p.2)
 | [],_,_=>.nil
 | p :: l,[],h=>by cases h
 | p :: l,t :: ts,h=>by
  have ih:=x8 (A:=A) (s:=s) hm (l:=l) (ts:=ts) (by simpa using h);rcases DW hm p.1 with ⟨e1,e2⟩ | ⟨v,t',e1,e2⟩
  ·have:((p :: l).all fun p=>cp m p.1 == some p.2)=false:=by simp [e1]
   rw [this];exact .miss e2
  ·have eq:SeqAt.EqAt A s (fG p.2 t) (fG v t') (decide (p.2=v)):=by
    have:=PySem.W.keq_flat (A:=A) (s:=s) (v:=fG p.2 t) (y:=fG v t') (d:=.int p.2) (e:=.int v) (.int _ _) (.int _ _);have e2:SeqAt.EqAt A s (fG p.2 t) (fG v t') (p.2 == v):=by simpa [rW] using this
    exact e2
   have:((p :: l).all fun p=>cp m p.1 == some p.2)=(decide (p.2=v)&&l.all fun p=>cp m p.1 == some p.2):=by
    rw [mF,e1];congr 1;by_cases z:p.2=v
    ·simp [z]
    ·have:¬ v=p.2:=fun y=>z y.symm;simp [z,this]
   rw [this];exact .hit e2 eq ih
theorem Um(hu:X.A.units+64 < cLine):pW X (eU .Eq) (WH false):=by
 intro pins s σ H G x y dx dy v u Q I ab rx ry dX dY q;obtain⟨l,m,e1,e2,q⟩:=q;obtain⟨a,kv,vs,rfl,rs,z,hm,rel,dd⟩:=yf I ab dX e1 (lI l);obtain⟨b,kw,ws,rfl,IV,z2,Ta,Qb,FK⟩:=yf I ab dY e2 (lI m);cases rx;cases ry;rw [tG rs] at rel;rw [tG IV] at Qb;obtain⟨ts,t1,rfl⟩:=wB rel;obtain⟨us,t2,rfl⟩:=wB Qb;refine PySem.W.keq_eq hm Ta dd FK (by lia) (fun _=>x8 t2 t1) ?_;refine⟨.bl _,H,.bl _,G,I,.refl ab,rfl,.bl _,?_⟩;have:((((l.zip ts).map fun q=>((.inl q.1.1:Key),fG q.1.2 q.2)).length == ((m.zip us).map fun q=>((.inl q.1.1:Key),fG q.1.2 q.2)).length)&&l.all fun p=>cp m p.1 == some p.2)=zj l m:=by
  unfold zj; simp [t1,t2]
 rw [this]; exact q
theorem Uj(hu:X.A.units+64 < cLine):pW X (eU .NotEq) (WH true):=by
 intro pins s σ H G x y dx dy v u Q I ab rx ry dX dY q;obtain⟨l,m,e1,e2,q⟩:=q;obtain⟨a,kv,vs,rfl,rs,z,hm,rel,dd⟩:=yf I ab dX e1 (lI l);obtain⟨b,kw,ws,rfl,IV,z2,Ta,Qb,FK⟩:=yf I ab dY e2 (lI m);cases rx;cases ry;rw [tG rs] at rel;rw [tG IV] at Qb;obtain⟨ts,t1,rfl⟩:=wB rel;obtain⟨us,t2,rfl⟩:=wB Qb;refine PySem.W.keq_ne hm Ta dd FK (by lia) (fun _=>x8 t2 t1) ?_;refine⟨.bl _,H,.bl _,G,I,.refl ab,rfl,.bl _,?_⟩;have:((((l.zip ts).map fun q=>((.inl q.1.1:Key),fG q.1.2 q.2)).length == ((m.zip us).map fun q=>((.inl q.1.1:Key),fG q.1.2 q.2)).length)&&l.all fun p=>cp m p.1 == some p.2)=zj l m:=by
  unfold zj; simp [t1,t2]
 rw [this]; exact q
theorem En(hu:X.A.units+64 < cLine):pW X (eU .Eq) (y9 false):=by
 intro pins s σ H G x y dx dy v u Q I ab rx ry dX dY q;rcases q with q | q
 ·exact o4 hu pins s σ H G x y dx dy v u Q I ab rx ry dX dY q
 ·exact Um hu pins s σ H G x y dx dy v u Q I ab rx ry dX dY q
theorem El(hu:X.A.units+64 < cLine):pW X (eU .NotEq) (y9 true):=by
 intro pins s σ H G x y dx dy v u Q I ab rx ry dX dY q;rcases q with q | q
 ·exact Em hu pins s σ H G x y dx dy v u Q I ab rx ry dX dY q
 ·exact Uj hu pins s σ H G x y dx dy v u Q I ab rx ry dX dY q
variable {k v:Expr} {tk tv:gq} {pos:Pos}
theorem Qw(hk:gG X k tk)(hv:gG X v tv):gG X (.Dict [some k] [v] pos) (Ih tk tv):=by
 intro E pins s σ H τ G Q hE I h;have hn:=I.inv.b7.fresh (aE s.heap.objs.size);have I1:=I.inv.laid (a:=s.heap.objs.size) (o:=.dK []) (h':=s.heap.push { cls:=.type "dict",data:=.dict #[] }) (t':=s.toks) (fun _ _ q=>aF _ q) (aE _) (H0 s.heap I.inv.big);have mh:Mv X.K H G (upd H s.heap.objs.size (.dK [])) G:=.MG I.ab hn;have I2:I2 X pins σ (upd H s.heap.objs.size (.dK [])) τ G { s with heap:=s.heap.push { cls:=.type "dict",data:=.dict #[] },toks:=s.toks }:=⟨I1,I.st.mono (.new hn),mh.ab⟩;refine wpAny_Dict_walk (knd:=cJ X.prog X.w) (by rfl) (by rfl) (by simp) (show 1<=15 by decide) ?_;refine pairTrees_cons_walk (j8 hk hE I2 h fun x H1 dx G1 u s1 I3 m1 r1 j5 q1=>?_);refine j8 hv hE I3 q1 fun y H2 dy G2 w s2 I4 m2 r2 y8 q2=>?_;obtain⟨hk1,q2⟩:=q2;refine pairTrees_nil_walk ?_;obtain⟨kk,rfl⟩:=wD hk1;have ex:=vS j5;subst ex;have g0:G s.heap.objs.size=none:=I.ab.free hn;obtain⟨p1,p2⟩:=m1.keep _ _ (bU (H:=H) (a:=s.heap.objs.size) (o:=.dK [])) g0;obtain⟨p3,p4⟩:=m2.keep _ _ p1 p2;obtain⟨rs,c,rk⟩:=Bz (P:=X.prog) (w:=X.w) (kvs:=[(kk,y)]) (ws:=[(u,w)]) (.cons ⟨r1,r2⟩ .nil);obtain⟨z,hd,vs0,r0,dd⟩:=Dw I4.inv.b7 p3;cases r0;refine⟨rs,c,dd,fun h' Bt hs=>?_⟩;have he:∃ q,h'.get? s.heap.objs.size=some q:=let ⟨q,_,_,hq,_⟩:=Bt; ⟨q,hq⟩
 have em:Kf [] [(kk,y)]=[(kk,y)]:=rfl;have kp:Kp H2 (upd H2 s.heap.objs.size (.dK [(kk,y)])):=.putD p3 (.inl ⟨_,rfl⟩);have I5:=uw (t':=s2.toks+[(u,w)].length) I4.inv (by rw [p3]; exact gf) hs he (E1 (kvs:=Kf [] [(kk,y)]) (by rw [em]; exact(show 1<=a8 by decide)) hd (rk.merge .nil) Bt);rw [em] at I5;have IW:=(mh.trans m1).trans m2;refine⟨.ref s.heap.objs.size,_,.ref s.heap.objs.size,_,I5,?_,rfl,.ref _,q2 _ p4⟩;refine⟨fun a o e n=>?_,fun a n=>?_,fun a g e=>?_⟩
 ·have ha:a≠s.heap.objs.size:=fun z=>by rw [z,hn] at e; cases e
  obtain⟨k1,k2⟩:=IW.keep a o e n;exact⟨by rw [bG ha]; exact k1,by rw [cE ha]; exact k2⟩
 ·by_cases ha:a=s.heap.objs.size
  ·subst ha; rw [bU]; simp
  ·rw [bG ha]; exact IW.jF a n
 ·by_cases ha:a=s.heap.objs.size
  ·subst ha;rw [az] at e;cases e;exact .dk bU (.cons ((y8.mono kp)) .nil)
  ·rw [cE ha] at e;exact(IW.ab a g e).mono kp (bG ha)
end
section
variable {X:Cx} {e:Expr} {t:BF} {pos p:Pos} {x:Str} {k:Nat} {f:Addr} {fd:fH} {ps:List Str} {sp:jM}
theorem mr.plain{K:aj}{H H2:Hp}:∀ {kv:List (Key×V)} {kvs:List (D×D)},mr K H kv kvs->(kvs.all fun p=>di p.1&&nW p.2)=true->mr K H2 kv kvs
 | _,_,.nil,_=>.nil
 | _,_,.cons (d:=d) r rs,h=>by
  rw [mF,aJ,aJ] at h;refine .cons ?_ (mr.plain rs h.2);have hp:=h.1.2;cases r with
  | eT=>exact .eT
  | bl b=>exact .bl _
  | int i=>exact .int _
  | _=>exact absurd hp (by simp [nW])
end
section
variable {K:aj} {h:Heap} {C:Addr} {DD:List Value} {newId:String}
theorem XG{P:Prop}{m:List Value}{sl:List (Option Value)}{f:Addr->List Value->Option Value->Option Value->Option Value->Option Value->String->Option Value->Bool}
  (q:PySem.W.excIn.match_1 (fun _ _=>Bool) m sl f (fun _ _=>false)=true)
  (k:∀ C' bm k0 k1 k2 k3 n k5,m=.ref C' :: bm->sl=[k0,k1,k2,k3,some (.builtin n),k5]->f C' bm k0 k1 k2 k3 n k5=true->P):P:=by
 have no:false=true->P:=fun z=>bg z;cases m with
 | nil=>exact no q
 | cons v bm =>
  cases v with
  | ref C' =>
   obtain _ | ⟨k0,_ | ⟨k1,_ | ⟨k2,_ | ⟨k3,_ | ⟨_ | w,sl⟩⟩⟩⟩⟩:=sl
   iterate 6 exact no q
   cases w with
   | builtin n =>
    obtain _ | ⟨k5,_ | _⟩:=sl
    ·exact no q
    ·exact k C' bm k0 k1 k2 k3 n k5 rfl rfl q
    ·exact no q
   | _=>exact no q
  | _=>exact no q
inductive SI (h:Heap) (C:Addr) (DD:List Value) (newId:String):Prop
 | mk (bm N nm qn bs hdct sn sub ab col dd k0 k1 k2 k3 k5 mN) (o:h.get? C=some (Pu nm qn C N bs bm hdct sn sub ab col dd k0 k1 k2 k3 k5 newId)) (n:h.Ns N mN) (i:mN "__init__" = none) (t:OwnTail h DD bm):SI h C DD newId
theorem ES(Y:K.In h)(q:ow K C DD newId=true):SI h C DD newId:=by
 unfold ow at q;split at q
 rotate_left
 ·cases q
 rename_i dd cd sl ho;refine XG q fun C' bm k0 k1 k2 k3 n k5 hm hs q=>?_;obtain⟨nm,bs,mro,ns,qn,hd,sn,sub,ab,col,del⟩:=cd;obtain⟨sl⟩:=sl;subst hm hs;have q:(C' == C&&n == newId&&!del&&PySem.W.tailIn K DD bm&&PySem.W.nsOkIn K ns&&cG K ns "__init__" == some none)=true:=q;simp only [aJ,beq_iff_eq,CD] at q;obtain⟨⟨⟨⟨⟨e1,e2⟩,e3⟩,e4⟩,e5⟩,e6⟩:=q;subst e1 e2 e3;exact⟨bm,_,_,_,_,_,_,_,_,_,dd,k0,k1,k2,k3,k5,_,Y _ _ ho,.of_isNs (PySem.W.isNs_of_in Y e5),PySem.W.nsMap_none_of_in Y e5 e6,PySem.W.tail_of_in Y e4⟩
end
section
variable {X:Cx} {x:Str} {C:Addr} {DD:List Value} {B newId Rk:String} {e0:Expr} {es:List Expr} {np mi pos:Pos} {t:BF}
theorem JX(g:Gp->Gp)(hgg:∀ H G,kK X.K H G->kK X.K H (g G))(hg:Gl X x)(hm:X.mg x=some (.ref C))(q:ow X.K C DD newId=true)(FB:ExcBaseFacts B newId Rk DD)(hc:X.calm=true)(ha:B3 X (e0 :: es) t)
  (ze:autoParam ((x == ("__debug__" : Str))=false) Ad._auto_1) (he:autoParam (bw (e0 :: es) X.env=(false,eval e0 X.env) :: bw es X.env) Ar._auto_1) (yO:autoParam ((lX mi (bw es X.env)).any (·.1)=false) Ar._auto_1) :
  FN X (.Raise (some (.Call (.Name x np) (e0 :: es) [] mi)) none pos) (fun E _ τ G=>t E τ G fun ds G1=>ds.length<=SZ/\E ⟨x,[]⟩ (g G1)):=by
 intro E pins s σ H τ G D hE I h;obtain⟨tl,N,nm,qn,bs,hdct,sn,sub,ab,col,dd,k0,k1,k2,k3,k5,mN,hC,hN,hni,T⟩:=ES I.inv.ok.mod.Uz q;refine wpAny_Raise_call_subT (C:=C) (nm:=nm) (q:=qn) (N:=N) (bs:=bs) (bm:=tl) (hdct:=hdct) (sn:=sn) (sub:=sub) (ab:=ab) (col:=col) (dd:=dd) (k0:=k0) (k1:=k1) (k2:=k2) (k3:=k3) (k5:=k5)
  FB (mN:=mN) (T.hasType FB.hasBase) (I.inv.ok.hd hc) (by rw [he]; show (false||(lX mi (bw es X.env)).any (·.1))=false; rw [yO]; rfl) hni (nj I.inv hg hm ⟨rfl,?_⟩ ze)
 have w:=y7 (Q:=fun us s2=>us.length<=a8/\(∀ b o,X.base.get? b=some o->s2.heap.get? b=some o)/\∀ h' e,Heap.MadeExcOf s2.heap h' e (.ref C) us->X.xe (.ref e) { s2 with heap:=h' }) ha mi hE I h
  fun vs H1 ds G1 us s1 I1 m1 r rd z=>⟨by rw [<-r.length,rd.length,cD]; exact z.1,I1.inv.bk,fun h' e hx=>hE.made pins σ H1 s1 h' e C us ⟨x,[]⟩ _ I1.inv (hgg _ _ I1.ab) hx hm z.2⟩
 rw [he] at w ⊢;exact SY (ly w (fun us s2 h2=>⟨rfl,h2.1,h2.2.1 _ _ hC,hN.keeps h2.2.1,T.keeps h2.2.1,h2.2.2⟩) fun _ _ y=>y)
theorem NK(hg:Gl X x)(hm:X.mg x=some (.ref C))(q:ow X.K C DD newId=true)(FB:ExcBaseFacts B newId Rk DD)(hc:X.calm=true)(ha:B3 X (e0 :: es) t)
  (ze:autoParam ((x == ("__debug__" : Str))=false) Ad._auto_1) (he:autoParam (bw (e0 :: es) X.env=(false,eval e0 X.env) :: bw es X.env) Ar._auto_1) (yO:autoParam ((lX mi (bw es X.env)).any (·.1)=false) Ar._auto_1) :
  FN X (.Raise (some (.Call (.Name x np) (e0 :: es) [] mi)) none pos) (E4 x t):=JX (fun _ _=>none) (fun _ _ _ _ _ z=>by cases z) hg hm q FB hc ha ze he yO
end
theorem _root_.Internal.L2.fE.there{P:bE}{w:World}{H:Hp}{h:Heap}{a:Addr}{o:HO}(x:fE P w H h a o):∃ ob,h.get? a=some ob:=by
 cases o with
 | lst xs=>obtain⟨_,_,_,_,e⟩:=x; exact⟨_,e⟩
 | tup xs=>obtain⟨_,_,_,ob,e,_⟩:=x; exact⟨_,e⟩
 | dK kvs=>obtain⟨_,_,_,_,o,_,_,e,_⟩:=x; exact⟨_,e⟩
 | dT kvs=>obtain⟨_,_,_,_,o,_,_,e,_⟩:=x; exact⟨_,e⟩
 | set S n=>obtain⟨o,_,_,_,e,_⟩:=x; exact⟨_,e⟩
 | ins C dx fs=>obtain⟨_,_,_,e,_⟩:=x; exact⟨_,e⟩
 | own y=>exact x
 | xd fs=>obtain⟨_,⟨_,_,_,e,_⟩,_⟩:=x; exact⟨_,e⟩
 | YG lo hi=>obtain⟨_,_,_,e⟩:=x; exact⟨_,e⟩
 | iN ob u=>obtain⟨e,_⟩:=x; exact⟨_,e⟩
 | TC ps=>obtain⟨_,e,_⟩:=x; exact⟨_,e⟩
 | met f y=>exact⟨_,x⟩
 | ext φ=>obtain⟨_,e,_⟩:=x; exact e
theorem J3{X:Cx}{pins:List (Addr×Obj)}{σ:L2.St}{H1:Hp}{s1:ay}{h1 h' B:Heap}(I:Inv X pins σ H1 s1)(Ky:X.stack=X.env :: X.outer)(Tc:X.env.frame=some X.env.locals)(hex:X.ex=[])
  (Zf:∀ b o,s1.heap.get? b=some o->h1.get? b=some o) (hB:∀ b o,s1.heap.get? b=some o->b∉uL X.stack->(X.jk.heap.get? b≠none\/H1 b≠none)->B.get? b=some o) (jF:B.StaysIn h') (up:h1.UpToSlots h') :
  Un (uL X.outer) [] X.OV H1 X.jk.heap h'/\oE X.prog X.w H1 h'/\∀ b o,h'.get? b=some o->b∉uL X.outer->(X.jk.heap.get? b≠none\/H1 b≠none)->B.get? b=some o:=by
 have efr:uL X.stack=X.env.locals :: uL X.outer:=by rw [Ky]; unfold uL; rw [Ni Tc]
 have QH:∀ b,b∉uL X.outer->b≠X.env.locals->b∉uL X.stack:=fun b h1 h2 h3=>by
  rw [efr] at h3;rcases List.mem_cons.mp h3 with e | e
  ·exact h2 e
  ·exact h1 e
 have old:∀ b o,X.jk.heap.get? b=some o->b≠X.env.locals:=fun b o q=>bx (bC (aR q) I.ok.above);have tr:∀ b u,H1 b=some u->b∉uL X.stack:=fun b u q hb=>by rw [I.D4 b hb] at q; cases q
 have nx:∀ b:Addr,b∉X.ex:=fun b=>by rw [hex]; exact bV
 have frame:∀ b o,b∈uL X.outer->s1.heap.get? b=some o->∃ sl,h'.get? b=some { o with slots:=sl }:=fun b o hb e=>by
  obtain⟨_,o2,e2,nf⟩:=I.stack.mem (show b∈uL X.stack by rw [efr]; exact .tail _ hb);rw [e] at e2; cases e2;exact up b o (Zf b o e) nf
 have go:∀ b o,s1.heap.get? b=some o->b∉uL X.stack->(X.jk.heap.get? b≠none\/H1 b≠none)->h'.get? b=some o:=fun b o e n c=>jF b o (hB b o e n c);refine⟨⟨fun b o q n hb _=>?_,fun b o q n hb _=>?_,fun b o q n _=>I.base.free b o q n (nx b),fun b o q _=>?_,I.base.rP,I.base.qN,I.base.uH,I.base.uI⟩,fun a o q=>?_,fun b o e hb hc=>?_⟩
 ·exact go b o (I.base.keep b o q n hb (nx b)) (QH b hb (old b o q)) (.inl (by rw [q]; simp))
 ·obtain⟨sl,e⟩:=I.base.slot b o q n hb (nx b);obtain⟨Gn,e2⟩:=frame b _ hb e;exact⟨Gn,e2⟩
 ·obtain⟨o',e⟩:=I.base.there b o q (nx b);by_cases hb:b∈uL X.outer
  ·obtain⟨Gn,e2⟩:=frame b _ hb e; exact⟨_,e2⟩
  ·exact⟨o',go b o' e (QH b hb (old b o q)) (.inl (by rw [q]; simp))⟩
 ·refine(I.b7 a o q).jF (fun b u hb e=>?_) (fun b r=>r) (fun b xs r=>r);rcases hb with rfl | hb
  ·exact go b u e (tr b _ q) (.inr (by rw [q]; simp))
  ·exact go b u e (tr b _ hb) (.inr (by rw [hb]; simp))
 ·have n:b∉uL X.stack:=by
   rcases hc with hc | hc
   ·cases q:X.jk.heap.get? b with
    | none=>exact absurd q hc
    | some o0=>exact QH b hb (old b o0 q)
   ·cases q:H1 b with
    | none=>exact absurd q hc
    | some u=>exact tr b u q
  have:∃ o1,s1.heap.get? b=some o1:=by
   rcases hc with hc | hc
   ·cases q:X.jk.heap.get? b with
    | none=>exact absurd q hc
    | some o0=>exact I.base.there b o0 q (nx b)
   ·cases q:H1 b with
    | none=>exact absurd q hc
    | some u=>exact(I.b7 b u q).there
  obtain⟨o1,e1⟩:=this;have e2:=go b o1 e1 n hc;rw [e] at e2; cases e2;exact hB b o e1 n hc
section
variable {P:bE} {w:World} {K:aj} {mg:Str->Option Value} {base:Heap} {N:List Str} {qual:Str} {scope:Scope} {f:Addr} {cd:Value} {A:cO} {outer:List Env} {s:ay} {H:Hp} {Ek:XK} {E2:lM}
theorem Zb(ke:∀ ex C H' G',E2 ex G'->kK K H' G'->mg ex.cls=some (.ref C)->Ek (.ref C) none H'):Lk (w4 (SO P w) P w K mg base N qual scope f cd A outer s H Ek) E2 where
 made:=fun pins σ H1 s1 h1 a C args ex G1 I Te hx hm hE=>by
  show wpAny (model P w) _ (leaving _ (.ref a)) _ _ _;refine wpAny_leaves_madeW (h:=s1.heap) (base:=PySem.W.hideAll s1.heap (uL (w4 (SO P w) P w K mg base N qual scope f cd A outer s H Ek).stack)) I.ok.frames rfl (fun b o q=>SS _ q)
   (PySem.W.funFrames_hide I.stack fun env he b hb=>List.mem_filterMap.mpr ⟨env,he,hb⟩) hx fun h' t fl tup tn up=>?_
  obtain⟨un,b7,hB⟩:=J3 I rfl rfl rfl hx.keeps (fun b o e n _=>Pz _ e n) fl.1 up;refine⟨a,C,t,_,H1,rfl,I.os,I.bare,un,b7,hB,fl,?_,?_,ke ex C H1 G1 hE Te hm⟩
  ·cases q:H1 a with
   | none=>rfl
   | some u =>
    obtain⟨o,e⟩:=(I.b7 a u q).there;have:=hx.new;rw [e] at this; cases this
  ·cases q:s.heap.get? a with
   | none=>rfl
   | some o =>
    obtain⟨o',e⟩:=I.base.there a o q bV;have:=hx.new;rw [e] at this; cases this
 pass:=fun pins σ H1 s1 s' e I Pc=>by
  obtain⟨a,C,t,B,H',e1,os,bare,un,b7,hB,fl,ha,hs,ex,C',G2,e2,hm,Te,hE⟩:=Pc;subst e1; cases e2;show wpAny (model P w) _ (leaving _ (.ref a)) _ _ _;have I':Inv (w4 (SO P w) P w K mg base N qual scope f cd A outer s H Ek) pins σ H' s':=by
   obtain⟨hh,g,d,t,os'⟩:=s';obtain rfl:os'=s1.os:=os;exact I.call (h':=hh) (g':=g) (d':=d) (t':=t) (ch:=[]) un b7 bare (fun b z=>absurd z (by simp))
  refine wpAny_leaves_onW I.ok.frames rfl fl fun h' fl' up=>?_;obtain⟨Yt,KA,hB'⟩:=J3 I' rfl rfl rfl (fun _ _ e=>e) (fun b o e n c=>hB b o e n (c.imp (fun z=>by
   cases q:s.heap.get? b with
   | none=>exact absurd q z
   | some o0=>obtain⟨o1,e1⟩:=I.base.there b o0 q bV; rw [e1]; simp) id)) fl'.1 up
  refine⟨a,C,t,B,H',rfl,I'.os,I'.bare,Yt,KA,hB',fl',ha,?_,ke ex C H' G2 hE Te hm⟩;cases q:s.heap.get? a with
  | none=>rfl
  | some o=>obtain⟨o1,e1⟩:=I.base.there a o q bV; rw [e1] at hs; cases hs
end
def CH(K:aj)(mg:Str->Option Value)(sp:jM):Sp:=fun vs H Q E=>∃ ds G Q2 E2,ba K H vs ds/\kK K H G/\sp ds G Q2 E2/\(∀ d G' v H',Q2 d G'->Mv K H G H' G'->bX K H' v d->Q v H') /\
 ∀ (ex:Ex) (C:Addr) (H':Hp) (G':Gp),E2 ex G'->kK K H' G'->mg ex.cls=some (.ref C)->E (.ref C) none H'
theorem UI{P:bE}{w:World}{K:aj}{mg:Str->Option Value}{base:Heap}{x qual:Str}{st:Stmt}{f:Addr}{fd:fH}{Nn ps:List Str}{k:Nat}{sp:jM}{rd:gN}(F:Tg K x qual st f fd)(S:lV Nn ps (bO st))(len:∀ ds G Q E,sp ds G Q E->ds.length=ps.length)
  (hr:∀ ds G Q E,sp ds G Q E->rd E (ends Q) (aY Nn.length ds) G)
  (hb:∀ (lx:Value) (A:cO) (outer:List Env) (s:ay) (H:Hp) (E:XK),kM k (A.deeper (yu qual (bO st) s.heap.objs.size f lx))->uM (w4 (SO P w) P w K mg base Nn qual (bO st) f lx A outer s H E) (gV st) rd):tT P w K mg base (SO P w) (k+1) f fd ps (CH K mg sp):=by
 obtain⟨oc,od,kV,doc,pm,an,lx,ct,Mj,rfl,lk,Ja⟩:=F.ex;refine VU lk Ja S ((by rintro vs H Q E ⟨ds,G,Q2,E2,r,ab,q,_⟩; exact by rw [r.length]; exact len _ _ _ _ q)) ?_;rintro A outer s H vs Q E Rw ⟨ds,G,Q2,E2,r,ab,q,kk,ke⟩;refine⟨_,Qm (hb lx A outer s H E Rw) (Zb ke),?_⟩;exact⟨aY Nn.length ds,G,ends Q2,Gm r,ab,hr ds G Q2 E2 q,fun kz H' ph G' mv z=>kk _ _ _ _ z mv .eT,fun v H' d G' mv YH z=>kk _ _ _ _ z mv YH,fun _ _ z=>z,fun _ _ z=>z⟩
def S8:HO->Bool
 | .tup _=>true
 | .iN _ (.lst _)=>true
 | .iN _ (.dK _)=>true
 | .iN _ (.dT _)=>true
 | .iN _ (.ext _)=>true
 | .iN _ (.xd _)=>true
 | _=>false
def hr(H:Hp):Hp:=fun b=>(H b).bind fun o=>if S8 o=true then some o else none
def hj(H1 H':Hp):Hp:=fun b=>match H1 b with
 | some o=>some o
 | none=>H' b
section
variable {P:bE} {w:World} {K:aj} {H H1 H':Hp} {h h':Heap} {b:Addr} {o:HO} {fs:List Addr}
theorem UB(q:hr H b=some o):H b=some o/\S8 o=true:=by
 unfold hr at q;cases e:H b with
 | none=>rw [e] at q; cases q
 | some u =>
  rw [e] at q;simp only [CC] at q;by_cases k:S8 u=true
  ·rw [if_pos k] at q; cases q; exact⟨rfl,k⟩
  ·rw [if_neg k] at q; cases q
def rE(q:H b=some o)(k:S8 o=true):hr H b=some o:=by unfold hr; rw [q,CC,if_pos k]
def wK(q:H b=none):hr H b=none:=by unfold hr; rw [q]; rfl
def VH(q:H b=some o)(k:S8 o=false):hr H b=none:=by unfold hr; rw [q,CC,if_neg (by rw [k]; exact fu)]
theorem Xk(x:oE P w H h):oE P w (hr H) h:=fun a o q=>by
 obtain⟨e,k⟩:=UB q;have y:=x a o e;cases o with
 | tup xs=>exact y
 | iN ob u =>
  cases u with
  | lst _=>exact y
  | dK _=>exact y
  | ext _=>exact y
  | xd _=>exact y
  | dT kvs =>
   obtain⟨e1,z,n,xs,r,rest⟩:=y;exact⟨e1,z,n,xs,L2.Paired.Uu r (fun p q z=>⟨z.1,rE z.2.1 rfl,z.2.2⟩),rest⟩
  | _=>exact bg (show false=true from k)
 | _=>exact bg (show false=true from k)
def oP(q:H1 b=some o):hj H1 H' b=some o:=by unfold hj; rw [q]
def tu(q:H1 b=none):hj H1 H' b=H' b:=by unfold hj; rw [q]
theorem join(un:Un fs [] (hr H1) H' h h')(k1:oE P w H1 h)(k2:oE P w H' h')(fr:∀ b∈fs,H1 b=none) :
  Un fs [] H1 (hj H1 H') h h'/\oE P w (hj H1 H') h'/\Kp H' (hj H1 H')/\∀ b u,(∀ o,H1 b=some o->S8 o=false\/∃ ob v,o=.iN ob v)->H1 b≠none->h.get? b=some u->h'.get? b=some u:=by
 have nx:∀ c:Addr,c∉([]:List Addr):=fun c=>bV;have YZ:∀ c u,H1 c=some u->c∉fs:=fun c u q z=>by rw [fr c z] at q; cases q
 have Lf:∀ c u v,H1 c=some u->H' c=some v->u=v/\S8 u=true:=fun c u v q q'=>by
  cases k:S8 u with
  | false =>
   obtain⟨ob,e⟩:=(k1 c u q).there;have:=un.free c ob e (VH q k) (nx c);rw [this] at q'; cases q'
  | true =>
   have r:=rE q k;cases u with
   | tup xs=>have:=un.rP c xs r; rw [q'] at this; cases this; exact⟨rfl,rfl⟩
   | iN ob x=>have:=un.qN c ob x r; rw [q'] at this; cases this; exact⟨rfl,rfl⟩
   | _=>exact bg (show false=true from k)
 have same:∀ b u,(∀ o,H1 b=some o->S8 o=false\/∃ ob v,o=.iN ob v)->H1 b≠none->h.get? b=some u->h'.get? b=some u:=fun b u hh hn e=>by
  cases q:H1 b with
  | none=>exact absurd q hn
  | some o =>
   cases k:S8 o with
   | false=>exact un.keep b u e (VH q k) (YZ b o q) (nx b)
   | true =>
    rcases hh o q with z | ⟨ob,v,rfl⟩
    ·rw [z] at k; cases k
    ·have h1:=(k2 b _ (un.qN b ob v (rE q k))).1;have h2:=(k1 b _ q).1;rw [h2] at e; cases e;exact h1
 refine⟨⟨fun c u e n hc hx=>un.keep c u e (wK n) hc hx,fun c u e n hc hx=>un.slot c u e (wK n) hc hx,fun c u e n hx=>?_,fun c u e hx=>un.there c u e hx,fun c xs q=>oP q,fun c ob u q=>oP q,fun c ps q=>oP q,fun c x q=>oP q⟩,fun c o q=>?_,⟨fun c xs q=>?_,fun c ob u q=>?_⟩,same⟩
 ·rw [tu n]; exact un.free c u e (wK n) hx
 ·cases q1:H1 c with
  | some o1 =>
   rw [oP q1] at q; cases q;by_cases ht:∃ xs,o=.tup xs
   ·obtain⟨xs,rfl⟩:=ht;exact k2 c _ (un.rP c xs (rE q1 rfl))
   ·refine(k1 c o q1).jF (fun d u hd e=>?_) (fun d r=>oP r) (fun d xs r=>oP r);rcases hd with rfl | hd
    ·refine same d u (fun o' e'=>?_) (by rw [q1]; simp) e;rw [q1] at e'; cases e';cases o with
     | tup xs=>exact absurd ⟨xs,rfl⟩ ht
     | iN ob v=>exact .inr ⟨ob,v,rfl⟩
     | _=>exact .inl rfl
    ·refine same d u (fun o' e'=>?_) (by rw [hd]; simp) e;rw [hd] at e'; cases e';exact .inl rfl
  | none =>
   rw [tu q1] at q;refine(k2 c o q).jF (fun d u _ e=>e) (fun d r=>?_) (fun d xs r=>?_)
   ·cases q2:H1 d with
    | none=>rw [tu q2]; exact r
    | some u=>obtain⟨rfl,k⟩:=Lf d u _ q2 r; exact bg (show false=true from k)
   ·cases q2:H1 d with
    | none=>rw [tu q2]; exact r
    | some u=>obtain⟨rfl,k⟩:=Lf d u _ q2 r; exact oP q2
 ·cases q2:H1 c with
  | none=>rw [tu q2]; exact q
  | some u=>obtain⟨rfl,k⟩:=Lf c u _ q2 q; exact oP q2
 ·cases q2:H1 c with
  | none=>rw [tu q2]; exact q
  | some v=>obtain⟨rfl,k⟩:=Lf c v _ q2 q; exact oP q2
end
theorem bX.hr{K:aj}{H:Hp}{v:V}{d:D}(h:bX K H v d):bX K (K2.hr H) v d :=
 bX.rec (motive_1:=fun v d _=>bX K (K2.hr H) v d) (motive_2:=fun v d _=>ba K (K2.hr H) v d) (motive_3:=fun v d _=>mr K (K2.hr H) v d) (motive_4:=fun v d _=>mV K (K2.hr H) v d)
  .eT .bl .int .str (fun h _ r=>.tup (rE h rfl) r) (fun h _ r=>.dw (h.imp (fun q=>q.elim fun o q=>⟨o,rE q rfl⟩) id) r) (fun h _ r=>.oC (rE h rfl) r) (fun h _ r=>.oB (rE h rfl) r) .ref (fun h=>.exc (by obtain⟨o,C,h1,h2,h3⟩:=h; exact⟨o,C,rE h1 rfl,h2,h3⟩)) (fun h _ r=>.Dp (by obtain⟨o,C,dx,od,fs,h1,h2,h3,h4,h5,h6⟩:=h; exact⟨o,C,dx,od,fs,rE h1 rfl,h2,h3,h4,rE h5 rfl,h6⟩) r) (fun h z _ _ r1 r2=>.pj (rE h rfl) z r1 r2) .nil (fun _ _ a b=>.cons a b) .nil (fun _ _ a b=>.cons a b) .nil (fun _ _ a b=>.cons a b) h
def ba.hr{K:aj}{H:Hp}{v:List V}{d:List D}(h:ba K H v d):ba K (K2.hr H) v d :=
 ba.HB (P:=fun v d=>ba K (K2.hr H) v d) .nil (fun r _ ih=>.cons r.hr ih) h
section
variable {M:Model} {A:cO} {E:Value->ay->Prop}
variable {nm q nm' q':Str} {C N D N':Addr} {bs bm V2 bm':List Value} {hdct VS:Bool} {sn sn':List Str} {sub Yy:List Value} {ab U3:Bool} {col ZV:Option Bool} {dd Bt:Option Addr} {k0 k1 k2 k3 k5 k0' k1' k2' k3' k5':Option Value} {newId W6:String}
theorem NV{h:Heap}{g:Array GenState}{d:Drawn}{t:Nat}{os:OsState}{e:Addr}{oe:Obj}{Q:Bool->ay->Prop}
  (hC:h.get? C=some (Pu nm q C N bs bm hdct sn sub ab col dd k0 k1 k2 k3 k5 newId)) (hD:h.get? D=some (Pu nm' q' D N' V2 bm' VS sn' Yy U3 ZV Bt k0' k1' k2' k3' k5' W6))
  (he:h.get? e=some oe) (RE:oe.cls=.ref C) (wM:bm'.contains (.type "BaseException")=true)
  (hq:Q ((fe C :: bm).contains (.ref D)) ⟨h,g,d,t,os⟩):wpAny M A (excMatches (.ref e) (.ref D)) Q E ⟨h,g,d,t,os⟩:=by
 have hcB:(fe D :: bm').contains (.type "BaseException")=true:=by rw [List.contains_cons,wM,Bool.or_true]
 have f:=tc_notTuple;generalize hb:(fe C :: bm).contains (.ref D)=r at hq;unfold excMatches
 repeat (first | (with_reducible refine wpAny_loadPart_at he ?_; rw [RE]) | with_reducible refine wpAny_loadPart_at hD ?_ | (with_reducible refine wpAny_isSubtype_exc hD ?_; rw [hcB]) | (with_reducible refine wpAny_isSubtype_exc hC ?_; rw [hb]) | wp_step)
 cases r
 ·wp_walk; exact hq
 ·wp_walk; exact hq
end
section
variable {X:Cx} {pins:List (Addr×Obj)} {σ:L2.St} {H1:Hp} {G1:Gp} {s1:ay} {k:Nat} {f:Addr} {fd:fH} {ps:List Str} {sp:jM}
theorem VA{H':Hp}(ab:kK X.K H1 G1):Mv X.K H1 G1 (hj H1 H') G1:=by
 have kp:Kp H1 (hj H1 H'):=⟨fun a xs e=>oP e,fun a o u e=>oP e⟩;have U3:kK X.K (hj H1 H') G1:=fun a g e=>(ab a g e).mono kp (by
  cases q:H1 a with
  | none=>exact absurd q (ab a g e).tracked
  | some o=>exact oP q)
 exact⟨fun a o e n=>⟨oP e,n⟩,fun a n=>by
  cases q:G1 a with
  | none=>exact absurd q n
  | some g=>exact(U3 a g q).tracked,U3⟩
theorem P5{us:List Value}{vs:List V}{ds:List D}{Q2:DK}{E2:lM}(F:tT X.prog X.w X.K X.mg X.base (SO X.prog X.w) k f fd ps (CH X.K X.mg sp))(hr:kM k X.A)(hb:Binds X.K fd ps [])(I:Inv X pins σ H1 s1)(ab:kK X.K H1 G1)(r:Vals vs us)(rd:ba X.K H1 vs ds)
  (h:sp ds (fun _=>none) Q2 E2):wpAny (model X.prog X.w) X.A (call (.ref f) us)
   (fun u s'=>∃ v d G' Hj,Inv X pins σ Hj s'/\Mv X.K H1 G1 Hj G1/\RelV v u/\bX X.K Hj v d/\Q2 d G')
   (fun e s'=>∃ (a C t:Addr) (B:Heap) (ex:Ex) (Hj:Hp),e=.ref a/\Inv X pins σ Hj s'/\Mv X.K H1 G1 Hj G1/\xj B X.stack a (.ref C) (.ref t) s'.heap /\
    (∀ b o,s'.heap.get? b=some o->b∉uL X.stack->(s1.heap.get? b≠none\/Hj b≠none)->B.get? b=some o)/\Hj a=none/\s1.heap.get? a=none/\X.mg ex.cls=some (.ref C)/\∃ G',E2 ex G') s1:=by
 have Rt:CH X.K X.mg sp vs (K2.hr H1) (fun v H'=>∃ d G',bX X.K H' v d/\Q2 d G') (exK X.K X.mg E2) :=
  ⟨ds,fun _=>none,Q2,E2,rd.hr,(fun _ _ z=>by cases z),h,fun d G' v H' q _ NG=>⟨d,G',NG,q⟩,fun ex C H' G' q U3 hm=>⟨ex,C,G',rfl,hm,U3,q⟩⟩
 have hl:us.length=ps.length:=by rw [<-r.length]; exact F.len _ _ _ _ Rt
 have e0:=I.ZO;have e1:SK X.prog X.w X.K X.mg X.base X.A X.stack s1 (K2.hr H1):=⟨e0.frames,e0.mod,fun b o q=>⟨(e0.bs b o q).1,wK (e0.bs b o q).2⟩,e0.Sk,e0.yd,fun b z=>wK (e0.Tf b z),Xk e0.b7,e0.bare⟩;have hbu:=hb s1 us I.zF (by rw [cg]; exact hl);rw [cg] at hbu;refine Jd (pA (F.run X.A X.stack s1 (K2.hr H1) ⟨us,[]⟩ us vs _ _ hr e1 hbu r Rt) fun res s' hq=>?_);cases res with
 | error e =>
  obtain⟨a,C,t,B,H',rfl,os,bare,un,b7,hB,fl,ha,hs,ex,C',G2,ec,hm,_,hE⟩:=hq;cases ec;obtain⟨Yt,KA,_,_⟩:=join un I.b7 b7 e0.Tf;have h1a:H1 a=none:=by
   cases q:H1 a with
   | none=>rfl
   | some u=>obtain⟨o,e⟩:=(I.b7 a u q).there; rw [e] at hs; cases hs
  refine⟨a,C,t,B,ex,hj H1 H',rfl,I.V1 (ch:=[]) os Yt KA bare (fun b z=>absurd z (by simp)),VA ab,fl,fun b o e n c=>hB b o e n ?_,by rw [tu h1a]; exact ha,hs,hm,G2,hE⟩;rcases c with c | c
  ·exact .inl c
  ·cases q:H1 b with
   | none=>rw [tu q] at c; exact .inr c
   | some u=>obtain⟨o1,e1⟩:=(I.b7 b u q).there; exact .inl (by rw [e1]; simp)
 | ok fl =>
  cases fl with
  | ret u =>
   obtain⟨v,H',os,bare,un,b7,rv,d,G',NG,q⟩:=hq;obtain⟨Yt,KA,kp,_⟩:=join un I.b7 b7 e0.Tf;exact⟨v,d,G',hj H1 H',I.V1 (ch:=[]) os Yt KA bare (fun b z=>absurd z (by simp)),VA ab,rv,NG.mono kp,q⟩
  | next=>exact bI hq
  | brk=>exact bI hq
  | cont=>exact bI hq
end
section
variable {X:Cx} {pins:List (Addr×Obj)} {σ:L2.St} {H H1:Hp} {s s1:ay} {h6 B:Heap} {a:Addr} {o:Obj} {u:HO}
theorem MY{h h':Heap}{c:Addr}{v:Option Value}(up:h.UpToSlots h')(z:h.IsCell c v):h'.IsCell c v:=by
 obtain⟨o,ho,hd⟩:=z;obtain⟨sl,e⟩:=up c o ho (fun vs q=>by rw [hd] at q; cases q);exact⟨_,e,hd⟩
theorem Qr(I:Inv X pins σ H s)(Ky:X.stack=X.env :: X.outer)(Tc:X.env.frame=some X.env.locals){p:Addr×Obj}(hp:p∈X.pn++pins):p.1∉uL X.stack:=fun z=>by
 obtain⟨_,_,h3,h4,_⟩:=I.pin p hp;rw [Ky] at z; unfold uL at z; rw [Ni Tc] at z;rcases List.mem_cons.mp z with e | e
 ·exact h3 e
 ·exact h4 e
theorem DN(I : Inv X pins σ H s)(I1 : Inv X pins σ H1 s1)(Ky : X.stack = X.env :: X.outer)(Tc : X.env.frame = some X.env.locals)(hex : X.ex = [])
    (hB : ∀ b o, s.heap.get? b = some o -> b ∉ uL X.stack -> (s1.heap.get? b ≠ none ∨ H b ≠ none) -> B.get? b = some o) (jF : B.StaysIn h6) (up : s.heap.UpToSlots h6) (tk : Nat) : Inv X pins σ H { s with heap := h6, toks := tk } := by
  have z := J3 I Ky Tc hex (fun _ _ e => e) (fun b o e n c => hB b o e n (c.imp (fun c => by
    cases q : X.jk.heap.get? b with
    | none => exact absurd q c
    | some o0 => obtain⟨o1, e1⟩ := I1.base.there b o0 q (by rw [hex]; exact bV); rw [e1]; simp) id)) jF up
  exact { ok := I.ok, os := I.os, bare := I.bare
          base := by rw [hex]; exact z.1
          loc := by
            obtain⟨m, hn, hl⟩ := I.loc;exact⟨m, up.ns hn, fun i x v e1 e2 e3 => let ⟨u, r, q⟩ := hl i x v e1 e2 e3; ⟨u, r, q.imp id fun ⟨k, c, e, y⟩ => ⟨k, c, e, MY up y⟩⟩⟩
          cell := fun x c e => let ⟨v, y⟩ := I.cell x c e; ⟨v, MY up y⟩
          free := I.free, jA := I.jA
          pin := fun p hp => by
            obtain⟨h1, h2⟩ := I.pin p hp;exact⟨jF _ _ (hB p.1 p.2 h1 (Qr I Ky Tc hp) (.inl (by rw [(I1.pin p hp).1]; simp))), h2⟩
          b7 := z.2.1
          len := I.len }
theorem OU(I : Inv X pins σ H s)(ha : H a = none)(hn : X.jk.heap.get? a = none)(nl : a ≠ X.env.locals)(nc : ∀ x c, X.env.cells.lookup x = some c -> c ≠ a)(np : ∀ p ∈ X.pn ++ pins, p.1 ≠ a)(new : fE X.prog X.w (upd H a u) s.heap a u) :
    Inv X pins σ (upd H a u) s := by
  have ne : ∀ b v, H b = some v -> b ≠ a := fun b v q e => by rw [e, ha] at q; cases q
  exact { ok := I.ok, os := I.os, bare := I.bare
          base := ⟨I.base.keep, I.base.slot, fun b o q n hx => by
            have : b ≠ a := fun e => by rw [e, hn] at q; cases q
            rw [bG this]; exact I.base.free b o q n hx, I.base.there, fun b xs q => by have r := I.base.rP b xs q; rw [bG (ne _ _ r)]; exact r, fun b o v q => by have r := I.base.qN b o v q; rw [bG (ne _ _ r)]; exact r,
            fun b ps q => by have r := I.base.uH b ps q; rw [bG (ne _ _ r)]; exact r,
            fun b x q => by have r := I.base.uI b x q; rw [bG (ne _ _ r)]; exact r⟩
          loc := I.loc, cell := I.cell
          free := by rw [bG (e7 nl)]; exact I.free
          jA := fun x c e => by rw [bG (nc x c e)]; exact I.jA x c e
          pin := fun p hp => by obtain⟨h1, h2, h3⟩ := I.pin p hp; exact⟨h1, by rw [bG (np p hp)]; exact h2, h3⟩
          b7 := fun b v q => by
            by_cases e : b = a
            · subst e; rw [bU] at q; cases q; exact new
            · rw [bG e] at q
              exact(I.b7 b v q).jF (fun _ _ _ y => y) (fun c r => by rw [bG (ne _ _ r)]; exact r) (fun c xs r => by rw [bG (ne _ _ r)]; exact r)
          len := I.len }
abbrev marked(X:Cx)(v:Value):Cx:={ X with A:=X.A.mark (some v),calm:=false,xe:=fun _ _=>False }
def Vb{v:Value}(ok:X.Ok):(marked X v).Ok :=
 ⟨ok.mod,ok.kind,ok.glob,ok.blt,ok.above,ok.inj,ok.has,ok.Yk,fun z=>(by cases z),ok.frames,ok.YA,ok.ZN,ok.bs,ok.Sk,ok.J9,ok.Oy,ok.yd,ok.Tf⟩
def IJ{v:Value}(I:Inv X pins σ H s):Inv (marked X v) pins σ H s:=⟨Vb I.ok,I.os,I.bare,I.base,I.loc,I.cell,I.free,I.jA,I.pin,I.b7,I.len⟩
def Lq{v:Value}(ok:X.Ok)(I:Inv (marked X v) pins σ H s):Inv X pins σ H s:=⟨ok,I.os,I.bare,I.base,I.loc,I.cell,I.free,I.jA,I.pin,I.b7,I.len⟩
theorem Wf{M : Model}{A : cO}{E : Value -> ay -> Prop}{i : Nat}{n : Str}{pos : Pos}{Q : Unit -> ay -> Prop}(I : Inv X pins σ H s)(hN : X.N.Nodup)(hi : X.N[i]? = some n)(hk : X.env.scope.names.lookup n = some .local)
    (h : ∀ s', Inv X pins (σ.set i none) H s' -> Q () s') : wpAny M A (do bindName X.env n .none; unbindBehindTheSuite X.env n pos) Q E s := by
  obtain⟨m, hn, hl⟩ := id I.loc;have RE : (X.env.scope.kind == .class || (X.env.scope.kind == .module && X.env.locals != X.env.globals)) = false := by rw [I.ok.kind]; rfl
  obtain⟨oL, _, _, hoL, _⟩ := id hn;refine wpAny_nameGoes_keeps hk hn RE fun h' v VN hs => h _ ?_;have low : ∀ b o, X.jk.heap.get? b = some o -> b ≠ X.env.locals := fun b o e => bx (bC (aR e) I.ok.above)
  exact { ok := I.ok, os := I.os, bare := I.bare
          base := ⟨fun b o e n hb hx => (hs.2 b (low b o e)).trans (I.base.keep b o e n hb hx), fun b o e n hb hx => by
              obtain⟨sl, e1⟩ := I.base.slot b o e n hb hx;exact⟨sl, (hs.2 b (low b o e)).trans e1⟩, I.base.free, fun b o e hx => by
              obtain⟨o', e1⟩ := I.base.there b o e hx;exact⟨o', (hs.2 b (low b o e)).trans e1⟩, I.base.rP, I.base.qN, I.base.uH, I.base.uI⟩
          loc := ⟨_, VN, fun j y v' e1 e2 e3 => by
            by_cases hj : j = i
            · subst hj
              by_cases wL : j < σ.length
              · rw [cU wL] at e2; cases e2
              · rw [kl (by rw [cL]; lia)] at e2; cases e2
            · rw [cW (e7 hj)] at e2
              obtain⟨u', r', q⟩ := hl j y v' e1 e2 e3;refine⟨u', r', ?_⟩;rcases q with ⟨k, e⟩ | ⟨k, c, e, z⟩
              · refine .inl ⟨k, ?_⟩
                have : y ≠ n := fun e => hj (AU hN e1 (e ▸ hi));simp [this, e]
              · exact .inr ⟨k, c, e, z.sameBut hs (I.UT y c e)⟩⟩
          cell := fun y c e => by
            obtain⟨w', z⟩ := I.cell y c e;exact⟨w', z.sameBut hs (I.UT y c e)⟩
          free := I.free, jA := I.jA
          pin := fun p hp => by
            obtain⟨h1, h2, h3, h4⟩ := I.pin p hp;exact⟨(hs.2 p.1 h3).trans h1, h2, h3, h4⟩
          b7 := fun b ob e => by
            refine(I.b7 b ob e).jF (fun c w' hc q => (hs.2 c ?_).trans q) (fun _ q => q) fun _ _ q => q;rintro rfl;rcases hc with rfl | hc
            · rw [I.free] at e; cases e
            · rw [I.free] at hc; cases hc
          len := by rw [cL]; exact I.len }
end
theorem OY{K:aj}{H:Hp}{σ:L2.St}{τ:iO}(a:OZ K H σ τ)(i:Nat):OZ K H (σ.set i none) (τ.set i none):=by
 refine⟨by rw [cL,cL]; exact a.len,fun j e h=>?_⟩;by_cases hj:i=j
 ·subst hj;by_cases hi:i < τ.length
  ·rw [cU hi] at h; cases h
  ·rw [kl (by rw [cL]; lia)] at h; cases h
 ·rw [cW hj] at h;obtain⟨w,h1,h2⟩:=a.at' j e h;exact⟨w,by rw [cW hj]; exact h1,h2⟩
def subIn(K:aj)(C:Addr)(v:Value):Bool:=match K.lookup C with
 | some ⟨_,_,.cls cd,_⟩=>cd.mro.contains v
 | _=>false
theorem TF{K:aj}{h:Heap}{C N:Addr}{nm q:Str}{bs bm:List Value}{hdct:Bool}{sn:List Str}{sub:List Value}{ab:Bool}{col:Option Bool}{dd:Option Addr}{k0 k1 k2 k3 k5:Option Value}{newId:String}{v:Value}
  (Y:K.In h) (hC:h.get? C=some (Pu nm q C N bs bm hdct sn sub ab col dd k0 k1 k2 k3 k5 newId)) (e:subIn K C v=true):(fe C :: bm).contains v=true:=by
 unfold subIn at e;split at e
 ·rename_i ho;have:=Y _ _ ho;rw [hC] at this;cases this;exact e
 ·cases e
section
variable {X:Cx} {x cn n:Str} {D f:Addr} {fd:fH} {ps:List Str} {k i:Nat} {sp:jM} {bmD:List Value} {newD:String} {cat:List Str} {e:Expr} {es:List Expr} {p np pos ep HF tp:Pos} {Wq:Stmt} {Gj:List Stmt} {t:BF} {th:gN}
structure Wb(X:Cx):Prop where
 st:X.stack=X.env :: X.outer
 fr:X.env.frame=some X.env.locals
 ex:X.ex=[]
structure Clause(X:Cx)(i:Nat)(n cn:Str)(D:Addr)(cat:List Str):Prop where
 nd:X.N.Nodup
 Lf:X.N[i]?=some n
 loc:X.env.scope.names.lookup n=some .local
 gl:Gl X cn
 mg:X.mg cn=some (.ref D)
 cls:∃ bmD newD,ow X.K D bmD newD=true/\bmD.contains (.type "BaseException")=true
 cat:∀ c,cat.contains c=true->∃ C DD newId,cG X.K bz c=some (some (.ref C))/\ow X.K C DD newId=true/\subIn X.K C (.ref D)=true
theorem Il{pins:List (Addr×Obj)}{σ:L2.St}{H H1 Hj:Hp}{τ:iO}{G G1:Gp}{s1 s':ay}{Dn:lF}{a C t0:Addr}{B:Heap}{ex:Ex}(A0:Wb X)(L:Clause X i n cn D cat)(hth:∀ v,uM (marked X v) (Wq :: Gj) th)(J1:Inv X pins σ H1 s1)(st1:OZ X.K H1 σ τ)(ab1:kK X.K H1 G1)(m1:Mv X.K H G H1 G1)
  (I':Inv X pins σ Hj s') (mv:Mv X.K H1 G1 Hj G1) (fl:xj B X.stack a (.ref C) (.ref t0) s'.heap) (hB:∀ b o,s'.heap.get? b=some o->b∉uL X.stack->(s1.heap.get? b≠none\/Hj b≠none)->B.get? b=some o)
  (ha':Hj a=none) (Ce:s1.heap.get? a=none) (UD:X.mg ex.cls=some (.ref C)) (Pd:cat.contains ex.cls=true)
  (q':th (fun _ _=>False) ⟨fun ph G'=>Dn.nx (ph.set i none) G',fun _ _=>False,fun _ _=>False,fun _ _=>False⟩ (τ.set i (some (.exc ex.cls))) G1) (hdD:(cn == ("__debug__" : Str))=false) :
  wpAny (model X.prog X.w) X.A (noteFrame (.ref a) X.env) (fun _ j0=>wpAny (model X.prog X.w) X.A (setFlight (.ref a) none) (fun _ D3=>wpAny (model X.prog X.w) X.A (handleBy (.ref a) X.env [.ExceptHandler (some (.Name cn np)) (some n) (Wq :: Gj) HF]) (U5 X pins H G Dn) X.xe D3) X.xe j0) X.xe s':=by
 obtain⟨Ky,Tc,hex⟩:=A0;obtain⟨hN,hi,hl,hgD,hmD,⟨bmD,newD,qD,bD⟩,acr⟩:=L;obtain⟨C',DD,newId,Oi,qC,Rq⟩:=acr ex.cls Pd;have eC:C'=C:=by
  have:=PySem.W.mg_of J1.ok.mod.Uz J1.ok.mod.glob Oi;rw [UD] at this; cases this; rfl
 subst eC;rw [Ky] at fl;refine wpAny_looks_onW (L:=X.env.locals) (by rw [<-Ky]; exact J1.ok.frames) Tc fl fun h4 held up4=>?_;refine wpAny_landsW held fun h5 fl5 up5=>?_;have I5:Inv X pins σ Hj { s' with heap:=h5 }:=DN I' J1 Ky Tc hex hB fl5.1 (up4.trans up5) _;refine wpAny_handleBy_cons (codeAny_handlers_test ?_) (by intro z; cases z);refine nj (X:=marked X (.ref a)) (IJ I5) hgD hmD ?_ hdD;obtain⟨bm,N,nm,qn,bs,hdct,sn,sub,ab,col,dd,k0,k1,k2,k3,k5,mN,hC,_,_,T⟩:=ES I5.zF qC;obtain⟨bm',N',nm',qn',V2,VS,sn',Yy,U3,ZV,Bt,k0',k1',k2',k3',k5',mN',hD,_,_,T'⟩:=ES I5.zF qD;obtain⟨oe,he5,hce⟩:=fl5.there;refine NV hC hD he5 hce (T'.hasType bD) ?_;rw [TF I5.zF hC Rq];refine codeAny_handlers_suite_as ?_;refine lands_againW fl5 fun h6 fl6 up6=>?_;have I6:Inv X pins σ Hj { s' with heap:=h6 }:=DN I' J1 Ky Tc hex hB fl6.1 ((up4.trans up5).trans up6) _;obtain⟨W2,he6,hc6⟩:=fl6.there;have nl:a≠X.env.locals:=fun z=>by
  obtain⟨m,⟨oL,_,_,hoL,_⟩,_⟩:=J1.loc;rw [z,hoL] at Ce; cases Ce
 have nc:∀ y c,X.env.cells.lookup y=some c->c≠a:=fun y c ec z=>by
  obtain⟨v,o,ho,_⟩:=J1.cell y c ec;rw [z,Ce] at ho; cases ho
 have npn:∀ q∈X.pn++pins,q.1≠a:=fun q hq z=>by
  have:=(J1.pin q hq).1;rw [z,Ce] at this; cases this
 have hn:X.jk.heap.get? a=none:=by
  cases q0:X.jk.heap.get? a with
  | none=>rfl
  | some o=>obtain⟨o1,e1⟩:=J1.base.there a o q0 (by rw [hex]; exact bV); rw [e1] at Ce; cases Ce
 have I7:=OU (u:=.iN W2 (.ext fun h=>h.get? a=some W2)) I6 ha' hn nl nc npn ⟨he6,he6,⟨_,he6⟩,fun h1 h2 q k=>k _ q⟩;have mvT:Mv X.K Hj G1 (upd Hj a (.iN W2 (.ext fun h=>h.get? a=some W2))) G1:=.MG mv.ab ha';have kp7:Kp H1 (upd Hj a (.iN W2 (.ext fun h=>h.get? a=some W2))):=(mv.trans mvT).kp ab1;refine xG (v:=.ref a) I7 hN hi (.inl hl) rfl (fun s8 I8 _=>?_) (.inr hl);refine ly (hth (.ref a) (fun _ _=>False) pins s8 _ _ (τ.set i (some (.exc ex.cls))) G1 _ (Lk.none fun _ _ z=>z)
  ⟨IJ I8,(st1.mono kp7).set i (.exc ⟨W2,C',bU,hc6,Oi⟩),mvT.ab⟩ q') (fun fw s9 q9=>?_) (fun _ _ z=>z.elim)
 cases fw with
 | next =>
  obtain⟨Yp,H9,X4,G9,I9,m9,q9⟩:=q9;exact Wf (Lq J1.ok I9.inv) hN hi hl fun s10 I10=>⟨Yp.set i none,H9,X4.set i none,G9,⟨I10,OY I9.st i,I9.ab⟩,m1.trans (mv.trans (mvT.trans m9)),q9⟩
 | brk=>obtain⟨_,_,_,_,_,_,z⟩:=q9; exact z.elim
 | cont=>obtain⟨_,_,_,_,_,_,z⟩:=q9; exact z.elim
 | ret u=>obtain⟨_,_,_,_,_,_,_,_,_,z⟩:=q9; exact z.elim
theorem TZ(A0:Wb X)(L:Clause X i n cn D cat)
  (F:tT X.prog X.w X.K X.mg X.base (SO X.prog X.w) k f fd ps (CH X.K X.mg sp)) (hr:kM k X.A) (hg:Gl X x) (hm:X.mg x=some (.ref f)) (hk:mP X.K (.ref f)=true) (hb:Binds X.K fd ps [])
  (ha:∀ EX,B3 (X.vL EX) (e :: es) t) (hth:∀ v,uM (marked X v) (Wq :: Gj) th)
  (ze:autoParam ((x == ("__debug__" : Str))=false) Ad._auto_1) (hdD:autoParam ((cn == ("__debug__" : Str))=false) Ad._auto_1) (he:autoParam (bw (e :: es) X.env=(false,eval e X.env) :: bw es X.env) Ar._auto_1) (yO:autoParam ((lX pos (bw es X.env)).any (·.1)=false) Ar._auto_1)
  (hs:autoParam (FR (.Call (.Name x p) (e :: es) [] pos) none ep.line X.env=pure false) Ar._auto_1) :
  FN X (.Try [.Expr (.Call (.Name x p) (e :: es) [] pos) ep] [.ExceptHandler (some (.Name cn np)) (some n) (Wq :: Gj) HF] [] [] tp) (R1 sp t i cat th):=by
 intro E pins s σ H τ G Dn hE I h;refine wpAny_Try_except ?_;refine Nc (wpAny_Expr_any ?_ I.inv.quiet hs);generalize hEX:(fun (e:Value) (fk:ay)=>wpAny (model X.prog X.w) X.A (noteFrame e X.env) (fun _ j0=>wpAny (model X.prog X.w) X.A (setFlight e none) (fun _ D3=>wpAny (model X.prog X.w) X.A (handleBy e X.env [.ExceptHandler (some (.Name cn np)) (some n) (Wq :: Gj) HF]) (U5 X pins H G Dn) X.xe D3) X.xe j0) X.xe fk)=EX;refine eY (nj I.inv hg hm ?_ ze);have I0:I2 (X.vL EX) pins σ H τ G s:=⟨I.inv.vL EX,I.st,I.ab⟩;refine pX (h₀:=X.base) I.inv.ok.mod.Uz hk (y7 (X:=X.vL EX) (ha EX) pos (Lk.none fun _ _ z=>z) I0 h fun vs H1 ds G1 us s1 I1 m1 r rd q=>⟨I1.inv.zF,?_⟩) he yO;have J1:Inv X pins σ H1 s1:=I1.inv.qj;refine ly (P5 F hr hb J1 I1.ab r rd q) ?_ ?_
 ·rintro u s' ⟨v,d,G',Hj,I',mv,rv,NG,q'⟩;exact nJ (nJ ⟨σ,Hj,τ,G1,⟨I',I1.st.mono (mv.kp I1.ab),mv.ab⟩,m1.trans mv,q'⟩)
 ·rintro ev s' ⟨a,C,t0,B,ex,Hj,ea,I',mv,fl,hB,ha',Ce,UD,_,Pd,q'⟩;subst ea; subst hEX;exact Il A0 L hth J1 I1.st I1.ab m1 I' mv fl hB ha' Ce UD Pd q' hdD
theorem NQ(F:tT X.prog X.w X.K X.mg X.base (SO X.prog X.w) k f fd ps (CH X.K X.mg sp))(hr:kM k X.A)(hg:Gl X x)(hm:X.mg x=some (.ref f))(hk:mP X.K (.ref f)=true)(hb:Binds X.K fd ps [])
  (ha:B3 X (e :: es) t) (ze:autoParam ((x == ("__debug__" : Str))=false) Ad._auto_1) (he:autoParam (bw (e :: es) X.env=(false,eval e X.env) :: bw es X.env) Ar._auto_1) (yO:autoParam ((lX pos (bw es X.env)).any (·.1)=false) Ar._auto_1) :
  gG X (.Call (.Name x p) (e :: es) [] pos) (K7 sp t):=by
 intro E pins s σ H τ G Q hE I h;refine eY (nj I.inv hg hm ?_ ze);refine pX (h₀:=X.base) I.inv.ok.mod.Uz hk (y7 ha pos hE I h fun vs H1 ds G1 us s1 I1 m1 r rd q=>⟨I1.inv.zF,?_⟩) he yO;refine hU (JR (E:=exK X.K X.mg E) F hr hb .nil (fun pins σ H s e s' I hq=>hE.pass pins σ H s s' e I hq) I1.inv r (Q:=B1 X.K H1 G1 Q) ?_) fun _ _ z=>(r8.of z).trans m1;rw [cg];exact⟨ds,G1,Q,E,rd,I1.ab,q,fun d G' v H' q' m' NG=>⟨d,G',m',NG,q'⟩,fun ex C H' G' q' U3 UD=>⟨ex,C,G',rfl,UD,U3,q'⟩⟩
end
end K2
end
section
namespace K2
open PySem PySem.Spec PyProof.Rows L2 PySem.W PySem.Calls PySem.Builtin PySem.Builtin.Getset_descriptor
section
variable {prog:bE} {w:World} {A:cO} {E:Value->ay->Prop} {s:ay} {K:aj} {a C:Addr} {ox:Obj}
theorem UK {Q:Option Value->ay->Prop} {B:String} {DD:List Value} (FB:ExcAttrBase B DD) (X:K.In s.heap) (hx:s.heap.get? a=some ox) (hc:ox.cls=.ref C) (hga:Pt K (.ref C) "__getattribute__" = some (some (.builtin "BaseException.__getattribute__"))) (hgn:Pt K (.ref C) "__getattr__" = some none)
  (hA:Pt K (.ref C) "__class__" = some (some (.builtin "object.__class__"))) (hG:specialIn K (.builtin "object.__class__") "__get__" = some (some (.builtin "getset_descriptor.__get__"))) (hT:takesIn K (.builtin "object.__class__")=some true) (hm:mroIn K C (.type "object")=some true) (hmB:mroIn K C (.type "BaseException")=some true)
  (h:Q (some (.ref C)) { s with toks:=s.toks+1 }):wpAny (model prog w) A (getAttr? (.ref a) "__class__") Q E s:=by
 obtain⟨hh,g,d,t,os⟩:=s;have L0:Looks (model prog w) hh (typeOf (.ref a)) (.ref C):=hc ▸ (Looks.ld hx).andThen .now;have L1:=looks_findIn (M:=model prog w) X hga;have L2:=looks_findIn (M:=model prog w) X hgn;have L5:=looks_mroIn (M:=model prog w) X hm;have L3:Looks (model prog w) hh (Builtin.ObjectAttr.find (.ref a) (.ref C) "__class__") (.bind (.builtin "getset_descriptor.__get__") (.builtin "object.__class__")):=by
  refine(looks_findIn X hA).andThen ((looks_specialIn X hG:Looks (model prog w) hh (Builtin.ObjectAttr.getOf (some (.builtin "object.__class__"))) _).andThen ?_);refine((looks_takesIn X hT).andThen .now:Looks (model prog w) hh (Builtin.ObjectAttr.dataDescriptor? (some (.builtin "object.__class__")) (some (.builtin "getset_descriptor.__get__"))) (some (.builtin "getset_descriptor.__get__",.builtin "object.__class__"))).andThen ?_;exact Looks.tag .now
 have L4:=looks_mroIn (M:=model prog w) X hmB;have hx2:(Nd "BaseException.__getattribute__" == Nd "object.__getattribute__")=false:=by decide +kernel
 unfold getAttr? getAttrBy? getAttrBy;refine ag (wpAny_mkText (ag (rL (cF (ag (L0.at (ag (L1.at ?_))))))));dsimp only;rw [if_neg (by rw [hx2]; simp)];unfold getAttrByItsOwn hookBefore callGetattribute;have f3:=FB.ga.bind (.ref a);have fin:zV (model prog w) A (.call (.builtin "BaseException.__getattribute__") ⟨[.ref a,.str "__class__" t],[]⟩) (fun r s'=>r=.ok (.ret (.ref C))/\s'=⟨hh,g,d,t+1,os⟩) ⟨hh,g,d,t+1,os⟩:=by
  refine qX FB.ga.plain F.entry_bexc_ga ?_;have hk:builtinKind "BaseException.__getattribute__" = some .slot:=by decide +kernel
  have Xi:splitId "BaseException.__getattribute__" = some ("BaseException","__getattribute__"):=by decide +kernel
  have ha:=F.args_bexc_ga (.ref a) (.str "__class__" t);have LI:Looks (model prog w) hh (Jh (.ref a) (.type "BaseException")) true:=L0.andThen L4;simp only [checkBuiltinCall,hk,Xi];refine ag (LI.at ?_);simp only [bK,au,if_false];have body:wpAny (model prog w) A.in1 (Builtin.«object.__getattribute__» ⟨[.ref a,.str "__class__" t],[]⟩)
    (fun fin s'=>fin=.done (.ret (.ref C))/\s'=⟨hh,g,d,t+1,os⟩) (fun _ _=>False) ⟨hh,g,d,t+1,os⟩:=by
   unfold Builtin.«object.__getattribute__»;refine ag (aA ?_);refine ag (aA ?_);refine ag (L0.at (ag (L3.at ?_)));show wpAny _ _ (Builtin.ObjectAttr.bindTo (.builtin "getset_descriptor.__get__") (.builtin "object.__class__") (.ref a) (.ref C)) _ _ _;show wpAny _ _ (do let v ← DQ [.builtin "object.__class__"] (call (.builtin "getset_descriptor.__get__") [.builtin "object.__class__",.ref a,.ref C]); ret v) _ _ _;refine ag (cF (Jd ?_));refine qX KF.slot_gs.plain KF.entry_gs (KF.slot_gs.check _ _ _ _ _ _ _ _ KF.type_class (KF.args_gs _ _ _) ?_);unfold Builtin.«getset_descriptor.__get__» descrGet;rw [dga_obj];refine ag (aA ?_);unfold descrGetter descrCheckInstance descrNameAndClass Jh;simp only [KF.owner_class]
   repeat lk
   refine⟨Code.quiet_builtin _ (by decide +kernel),kQ KF.entry_class ?_⟩;unfold Builtin.«object.__class__» shownTypeOf
   repeat lk
   exact⟨rfl,rfl⟩
  have go:∀ z:Sem Unit,z=pure ()->∀ (P:Unit->ay->Prop) (E':Value->ay->Prop) s',P () s'->wpAny (model prog w) A.in1 z P E' s':=fun z e P E' s' hp=>by rw [e]; exact aA hp
  refine go _ ha _ _ _ (ly body ?_ (fun _ _ z=>z.elim));rintro fin s' ⟨e1,e2⟩;subst e1; exact⟨rfl,e2⟩
 refine ag (L2.at (ag (rL (cF ?_))));simp only [yZ,au,if_false];unfold boundAndCalled;rw [f3];refine ag (aA (Jd (pA fin ?_)));rintro r s' ⟨e1,e2⟩;subst e1; subst e2;exact aA (aA h)
structure SJ(K:aj)(C:Addr):Prop where
 ga:Pt K (.ref C) "__getattribute__" = some (some (.builtin "BaseException.__getattribute__"))
 gn:Pt K (.ref C) "__getattr__" = some none
 Lf:Pt K (.ref C) "__class__" = some (some (.builtin "object.__class__"))
 sp:specialIn K (.builtin "object.__class__") "__get__" = some (some (.builtin "getset_descriptor.__get__"))
 tk:takesIn K (.builtin "object.__class__")=some true
 mo:mroIn K C (.type "object")=some true
 mb:mroIn K C (.type "BaseException")=some true
 is:(clsIn K C).isSome=true
theorem Ht{B:String}{DD:List Value}(FB:ExcAttrBase B DD)(Z:SJ K C):KitX K (.ref a) (.ref C) (fun h=>∃ o,h.get? a=some o/\o.cls=.ref C) where
 ty:=by rintro M h _ ⟨o,hx,hc⟩; exact hc ▸ (Looks.ld hx).andThen .now
 it:=fun M h X _=>by
  have Xu:=Z.is;unfold clsIn at Xu;split at Xu
  ·rename_i ho;intro A' Q' E' s' k q;unfold isType loadHead;exact ag (wpAny_loadPart (k _ _ (X _ _ ho)) (aA q))
  ·cases Xu
 ne:=fun h tp dd bL n sl X htp=>by
  have Xu:=Z.is;refine Bool.eq_false_iff.mpr fun q=>?_;have e:C=tp:=Value.ref.inj (beq_iff_eq.mp q);subst e;unfold clsIn at Xu;split at Xu
  ·rename_i ho;have z:=(X _ _ ho).symm.trans htp;cases z
  ·cases Xu
 ca:=fun X ⟨o,hx,hc⟩ k=>UK FB X hx hc Z.ga Z.gn Z.Lf Z.sp Z.tk Z.mo Z.mb k
end
end K2
end
section
namespace K2
open PySem PySem.Spec PyProof.Rows L2
def Fc{P:Str->Prop}:∀ c,([]:List Str).contains c=true->P c:=fun c h=>by simp at h
theorem og{l:List Str}{P:Str->Prop}{x:Str}(h:P x)(t:∀ c,l.contains c=true->P c):∀ c,(x :: l).contains c=true->P c:=fun c hc=>by
 rw [List.contains_cons,iU] at hc;rcases hc with hc | hc
 ·rw [beq_iff_eq.mp hc]; exact h
 ·exact t c hc
section
variable {X:Cx} {a:Expr} {ta:gq} {p pos:Pos} {B:String} {DD:List Value} {all sub:List Str}
theorem GN {y:Str} {py:Pos} {C:Addr} (FB:ExcAttrBase B DD) (hg:Gl X "isinstance") (hm:X.mg "isinstance" = none) (hgC:Gl X y) (hmC:X.mg y=some (.ref C)) (ab8:xh X.K (.type "NoneType") (.ref C)=some false)
  (ZC:∀ c,all.contains c=true->∃ C',cG X.K bz c=some (some (.ref C'))/\xh X.K (.ref C') (.ref C)=some (sub.contains c)/\SJ X.K C') (ha:gG X a ta) (ze:autoParam ((y == ("__debug__" : Str))=false) Ad._auto_1)
  (he:autoParam (bw [a,.Name y py] X.env=(false,eval a X.env) :: bw [.Name y py] X.env) Ar._auto_1) (yO:autoParam ((lX pos (bw [Expr.Name y py] X.env)).any (·.1)=false) Ar._auto_1) (UG:autoParam (bw [.Name y py] X.env=[(false,eval (.Name y py) X.env)]) Ar._auto_1) :
  gG X (.Call (.Name "isinstance" p) [a,.Name y py] [] pos) (MW all sub ta):=by
 intro E pins s σ H τ G Q hE I h;refine eY (qK I.inv hg hm yY ?_);refine lN ?_ he yO;rw [he];show wpAny _ _ (Jf ((false,eval a X.env) :: lX pos (bw [.Name y py] X.env))) _ _ s;refine jQ (j8 ha hE I h fun v H1 d G1 u s1 I1 m1 r1 j5 q1=>?_);rw [UG];show wpAny _ _ (Jf [(false,eval (.Name y py) X.env)]) _ _ s1;refine jQ (nj I1.inv hgC hmC (sy ?_) ze);have fin:∀ b tk,Q (.bl b) G1->r8 X pins σ H G Q (.bool b) { s1 with toks:=tk }:=fun b tk q =>
  ⟨.bl b,H1,.bl b,G1,I1.inv.tok _,m1,rfl,.bl b,q⟩
 cases j5 with
 | eT =>
  cases r1;exact fR Tj I1.inv.zF gf ab8 (fun z=>nomatch z) fun tk=>fin false tk q1
 | exc h0 =>
  cases r1;obtain⟨o,C',e1,e2,e3⟩:=h0;obtain⟨wN,q2⟩:=q1;obtain⟨C2,e4,k1,k2⟩:=ZC _ wN;rw [e3] at e4;cases e4;exact fR (Ht FB k2) I1.inv.zF ⟨o,(I1.inv.b7 _ _ e1).1,e2⟩ k1 (fun z=>nomatch z) fun tk=>fin _ tk q2
 | Dp h0 _ =>
  cases r1;obtain⟨o,C',_,_,_,e1,e2,e3,_⟩:=h0;obtain⟨wN,q2⟩:=q1;obtain⟨C2,e4,k1,k2⟩:=ZC _ wN;rw [e3] at e4;cases e4;exact fR (Ht FB k2) I1.inv.zF ⟨o,(I1.inv.b7 _ _ e1).1,e2⟩ k1 (fun z=>nomatch z) fun tk=>fin _ tk q2
 | _=>exact q1.elim
end
section
variable {X:Cx} {e:Expr} {te:gq} {pos:Pos}
theorem lr{i:Nat}{x:Str}{pos':Pos}(hN:X.N.Nodup)(hi:X.N[i]?=some x)(he:gG X e te)(hx:autoParam (Loc X.env.scope x) Ao._auto_1)(hs:autoParam (FR e (some (.Name x pos')) pos.line X.env=pure false) Ar._auto_1)(hf:autoParam (X.fn x=true\/X.env.scope.names.lookup x=some .local) Ao._auto_1) :
  FN X (.Assign [.Name x pos'] e pos) (bF te (aI i)):=T1 hN hi hx he hs hf
theorem kL{i:Nat}{x:Str}(hN:X.N.Nodup)(hi:X.N[i]?=some x)(hx:autoParam (Loc X.env.scope x) Ao._auto_1)(hf:autoParam (X.fn x=true\/X.env.scope.names.lookup x=some .local) Ao._auto_1):OO X (.Name x pos) (aI i):=Qt hN hi hx hf
theorem fo2{P:bE}{w:World}{K:aj}{mg:Str->Option Value}{base:Heap}{x qual:Str}{st:Stmt}{f:Addr}{fd:fH}{Nn ps:List Str}{k:Nat}{sp:jM}{rd:gN}(F:Tg K x qual st f fd)(S:lV Nn ps (bO st))
  (hr:∀ ds G Q,sp ds G Q (fun _ _=>False)->rd (fun _ _=>False) (ends Q) (aY Nn.length ds) G)
  (hb:∀ (lx:Value) (A:cO) (outer:List Env) (s:ay) (H:Hp) (E:XK),kM k (A.deeper (yu qual (bO st) s.heap.objs.size f lx))->uM (w4 Ls P w K mg base Nn qual (bO st) f lx A outer s H E).W4 (gV st) rd)
  (len:autoParam (∀ ds G Q E,sp ds G Q E->ds.length=ps.length) Al._auto_1):tT P w K mg base Ls (k+1) f fd ps (B6 K sp):=MM F S len hr hb
theorem scm{N ps:List Str}{sc:Scope}(h1:autoParam (sc.kind=.function) Ar._auto_1)(h2:autoParam (sc.isCoroutine=false) Ar._auto_1)(h3:autoParam (sc.isGenerator=false) Ar._auto_1)(h4:autoParam N.Nodup Ak._auto_1)(h5:autoParam (N.take ps.length=ps) Ar._auto_1)
  (h6:autoParam (∀ x∈ps,sc.names.lookup x=some .local\/sc.names.lookup x=some .cell) Ak._auto_1) (h7:autoParam (∀ y∈sc.names,y.2≠.free) Ak._auto_1):lV N ps sc:=⟨h1,h2,h3,h4,h5,h6,h7⟩
end
section
variable {X:Cx} {a b c:Expr} {ta tb tc:gq} {pos:Pos}
theorem oO {x:Str} {i:Int} {t:Tok} {p:Pos} (hg:Gl X x) (hm:X.mg x=some (.int i t)) (hd:autoParam ((x == ("__debug__" : Str))=false) Ad._auto_1):gG X (.Name x p) (dC (.int i)):=ub (T9 (v:=.int i) hg hm ⟨t,rfl⟩ hd) fun _ _=>.int i
end
end K2
end
section
namespace L2
open PySem PySem.Spec PyProof.Rows
def ac3(K:aj)(a:Addr)(n:Nat):It :=
  ⟨fun i H=>∃ xs x,qb K H a xs/\xs[i]?=some x,
   fun i H v H'=>∃ T y,v=.ref T/\H T=none/\H'=upd H T (.tup [.int ((n+i:Nat):Int),y])/\∀ xs,qb K H a xs->xs[i]?=some y,
   fun i H=>∃ xs,qb K H a xs/\xs.length<=i⟩
theorem RX{prog:bE}{w:World}{A:cO}{it l:Addr}{items:Array Value}(n:Nat)(hh:A.handled=none)(hil:l≠it) :
  Draws prog w A it [it,l] (n+items.size) (fun j x=>∃ i,j=n+i/\items[i]?=some x) (fun j h=>∃ i,j=n+i/\h.IsListIter it l i/\h.IsList l items) where
 live:=(by rintro j h ⟨i,_,⟨o,ho,_⟩,_⟩; exact⟨o,ho⟩)
 frame:=(by rintro j h h' ⟨i,e,hit,hl⟩ k; exact⟨i,e,hit.at fun o q=>k it (by simp) o q,let ⟨o,ho,r⟩:=hl; ⟨o,k l (by simp) o ho,r⟩⟩)
 item:=fun j s Q E hj Pc hQ=>by
  obtain⟨i,e,hit,hl⟩:=Pc;have hi:i < items.size:=by lia
  refine wpAny_nextOf_list_item hit hl (x:=items[i]) (by simp [hi]) fun h' Xp hs=>hQ _ h' s.toks ⟨i,e,by simp [hi]⟩ ⟨i+1,by lia,Xp,?_⟩ hs;obtain⟨o,ho,r⟩:=hl;exact⟨o,(hs.2 l hil).trans ho,r⟩
 done:=fun s Q E Zr hE=>by
  obtain⟨i,e,hit,hl⟩:=Zr;have hi:i=items.size:=by lia
  exact wpAny_nextOf_list_end hh hit hl (by simp [hi]) hE
theorem Oz{prog:bE}{w:World}{A:cO}{it l:Addr}{items:Array Value}{n:Nat}(hh:A.handled=none)(hx:items[n]?=none) :
  Draws prog w A it [it,l] n (fun _ _=>True) (fun j h=>j=n/\h.IsListIter it l n/\h.IsList l items) where
 live:=(by rintro j h ⟨_,⟨o,ho,_⟩,_⟩; exact⟨o,ho⟩)
 frame:=(by rintro j h h' ⟨e,hit,hl⟩ k; exact⟨e,hit.at fun o q=>k it (by simp) o q,let ⟨o,ho,r⟩:=hl; ⟨o,k l (by simp) o ho,r⟩⟩)
 item:=(by rintro j s Q E hj ⟨e,_,_⟩ hQ; exact absurd hj (by lia))
 done:=(by rintro s Q E ⟨_,hit,hl⟩ hE; exact wpAny_nextOf_list_end hh hit hl hx hE)
theorem JI{P:bE}{w:World}{K:aj}{elts:List Expr}{kk:Nat}{pos:Pos}(n:Nat)(a e it:Addr)(tm:e≠it) :
  Turn P w K (.Tuple elts kk pos) (ac3 K a n) [e,it] e (fun i h=>(∃ old,IsEnum h e it ((n+i:Nat):Int) old)/\h.IsListIter it a i) where
 mem:=by simp
 obj:=fun i h pz b hb=>by
  obtain⟨⟨old,he⟩,hit⟩:=pz;rcases List.mem_cons.mp hb with rfl | hb
  ·exact⟨_,he,fun v z=>by cases z⟩
  ·have e:b=it:=by simpa using hb
   subst e;obtain⟨o,e,c,d⟩:=hit;exact⟨o,e,fun v z=>by rw [d] at z; cases z⟩
 keep:=(by rintro i h h' ⟨⟨old,he⟩,hit⟩ k; exact⟨⟨old,k e (by simp) _ he⟩,hit.at fun o q=>k it (by simp) o q⟩)
 item:=by
  intro X hP hw hK hc i pins s σ H E I hf st hg;obtain⟨⟨old,he⟩,hit⟩:=st;subst hP hw hK;obtain⟨xs,x,hq,hx⟩:=hg;obtain⟨bL,rv,p,hz⟩:=I.list hq;obtain⟨u,hu,ru⟩:=rv.get hx;have Xz:H s.heap.objs.size=none:=I.b7.fresh (aE _);have heT:e≠s.heap.objs.size:=bx (aR he);have Zy:it≠s.heap.objs.size:=by obtain⟨o,q,_⟩:=hit; exact bx (aR q)
  obtain⟨ol,hol,KC,hdl⟩:=p.isList;have ace:=hit;obtain⟨oi,hoi,hci,hdi⟩:=ace;have hil:a≠it:=fun z=>by
   rw [z,hoi] at hol; cases hol; rw [hci] at KC; exact absurd KC (by decide)
  have hea:e∉[it,a]:=fun z=>by
   rcases List.mem_cons.mp z with z | z
   ·exact tm z
   ·have z:=List.mem_singleton.mp z;rw [<-z,he] at hol; cases hol; exact absurd (show Lw "enumerate" = Lw "list" from KC) (by decide)
  have wL:n+i < n+bL.toArray.size:=by
   have:=(List.getElem?_eq_some_iff.mp hu).1;simpa using this
  refine wpAny_pyNext_enum_itemD (RX (items:=bL.toArray) n (show X.A.in1.handled=none from I.ok.hd hc) hil) he ⟨i,rfl,hit,p.isList⟩ wL tm hea fun u' h' tk ⟨i',ei,HD⟩ ho ⟨i2,e2,Xp,_⟩ hT hsz kk=>?_;have ei':i'=i:=by lia
  have ei2:i2=i+1:=by lia
  subst ei' ei2;have:u'=u:=by
   rw [List.getElem?_toArray,hu] at HD;exact(aZ HD).symm
  subst this;refine⟨_,rfl,?_⟩;have I1:Inv X pins σ (upd H s.heap.objs.size (.tup [.int ((n+i':Nat):Int),x])) { s with heap:=h',toks:=tk+1 } :=
   I.zx (fp:=[e,it]) hf (fun b o hb q=>kk b o (fun z=>hb (by simp [z])) (fun z=>hb (by simp [z])) q) (aE _)
    ⟨by show 2<=a8; decide,[.int ((n+i':Nat):Int) tk,u'],.cons ⟨_,rfl⟩ (.cons ru .nil),⟨_,hT,rfl,_,rfl⟩⟩
  refine wpAny_letOwnedTupleGo_enum (s:={ s with heap:=h',toks:=tk+1 }) ho fun h2 UG HE=>?_;have f1:∀ b∈[e,it],oF X pins (upd H s.heap.objs.size (.tup [.int ((n+i':Nat):Int),x])) b:=fun b hb=>(hf b hb).upd (by
   rcases List.mem_cons.mp hb with rfl | hb
   ·exact heT
   ·rw [List.mem_singleton.mp hb]; exact Zy)
  have I2:Inv X pins σ (upd H s.heap.objs.size (.tup [.int ((n+i':Nat):Int),x])) { s with heap:=h2,toks:=tk+1 } :=
   Inv.tY (s:={ s with heap:=h',toks:=tk+1 }) (t':=tk+1) (fp:=[e,it]) I1 f1 fun b o hb q=>(HE.2 b (fun z=>hb (by simp [z]))).trans q
  refine⟨.ref s.heap.objs.size,_,I2,rfl,⟨_,x,rfl,Xz,rfl,fun ys hy=>by rw [I.wx hy hq]; exact hx⟩,⟨⟨u',?_⟩,?_⟩,fun b hb=>(f1 b hb).1⟩
  ·have:((n+(i'+1):Nat):Int)=((n+i':Nat):Int)+1:=by lia
   rw [this]; exact UG
  ·exact Xp.at fun o q=>(HE.2 it (e7 tm)).trans q
 done:=by
  intro X hP hw hK hc i pins s σ H E I hf st hg;obtain⟨⟨old,he⟩,hit⟩:=st;subst hP hw hK;obtain⟨xs,hq,hx⟩:=hg;obtain⟨bL,rv,p,hz⟩:=I.list hq;have hl:=rv.length;refine wpAny_pyNext_enum_endD (Oz (items:=bL.toArray) (n:=i) (show X.A.in1.handled=none from I.ok.hd hc) (by simp; lia)) he ⟨rfl,hit,p.isList⟩ fun h' eb=>⟨rfl,?_⟩;exact I.tY (t':=s.toks) (fp:=[e,it]) hf fun b o hb q=>eb b o (fun z=>hb (by simp [z])) q
 self:=(by rintro A i s Q E ⟨⟨old,he⟩,_⟩ h; exact wpAny_pyIter_enum he h)
end L2
end
section
namespace L2
open PySem PySem.Spec PyProof.Rows
open AutoSeq1 (wpAny_loadPart')
theorem Aa (a:Value) (k:Int) (t:Tok):checkTypeCall "enumerate" ⟨[a],[("start",.int k t)]⟩=pure ():=by kernel_rfl
theorem Cb (a:Value) (k:Int) (t:Tok):checkBuiltinCall "enumerate.__new__" ⟨[.type "enumerate",a],[("start",.int k t)]⟩=pure ():=by kernel_rfl
theorem Ku (o a:Value) (k:Int) (t:Tok):argsOk "object.__init__" ⟨[o,a],[("start",.int k t)]⟩:=by unfold argsOk; rw [signature?_of (id:="object.__init__") (n:=['_','_','t','i','n','i','_','_']) (o:=['t','c','e','j','b','o']) (by kernel_rfl) F.owner_object]; kernel_rfl
theorem HA (self a:Value) (k:Int) (t:Tok):Meets (Builtin.«object.__init__» ⟨[self,a],[("start",.int k t)]⟩) (fun _ R s=>s.TypeIs self "enumerate"/\R (.ok (.ret .none)) s):=by
 refine Meets.of_wp fun prog w A R s hs=>?_;obtain⟨hT,hq⟩:=hs;have hl:=F.called_enumerate.init.lookup;have hm:=F.called_enumerate.made;have tm:(some "enumerate.__new__" != some "object.__new__")=true:=by decide
 repeat (any_goals (first | assumption | wp_step))
 exact⟨_,rfl,hq⟩
end L2
end
section
namespace K2
open PySem PySem.Spec PyProof.Rows L2
section
theorem yh{M:Model}{A:cO}{E:Value->ay->Prop}{s:ay}{pos:Pos}{T:String}{args:List (Bool×Sem Value)}{keywords:List (Option Str×Sem Value)}{Q:Value->ay->Prop}
  (Kz:args.any (·.1)=false) (hkw:keywords.any (·.1.isNone)=false)
  (h:wpAny M A (evalArgs (.type T) true args keywords) (fun a fk=>wpAny M A (call (.type T) a.pos a.kw) Q E fk) E s) :
  wpAny M A (callWith pos (.type T) [] args keywords) Q E s:=by
 unfold callWith;refine ag (cF (ly h (fun a fk rS=>ag (xr ?_)) fun _ _ x=>x));rw [Kz,hkw];refine ag (aA ?_);exact ag (ly rS (fun r j0 hr=>ag (cF (wpAny_point (aA hr)))) fun _ _ x=>x)
variable {X:Cx} {elts:List Expr} {kk:Nat} {y0:Pos} {a:Expr} {ta:gq} {pos p kp p1:Pos} {c1:Nat}
end
end K2
end
section
namespace L2
open PySem PySem.Spec PyProof.Rows
section
variable {prog:bE} {w:World} {A:cO} {E:Value->ay->Prop} {s:ay}
theorem Kr{it d:Addr}{od:Obj}{es:Array fV}{i ep:Nat}{ok ov:Value}{Q:Option Value->ay->Prop}(hit:oY s.heap it d i es.size ep ok ov)(FH:s.heap.get? d=some od)(dd:od.data=.dict es ep)(hi:i < es.size)
  (hQ:∀ h',IsItemIterOut h' it d (i+1) es.size ep es[i].key es[i].val s.heap.objs.size->h'.get? s.heap.objs.size=some { cls:=.type "tuple",data:=.seq #[es[i].key,es[i].val] }->(∀ b o,b≠it->s.heap.get? b=some o->h'.get? b=some o)->Q (some (.ref s.heap.objs.size)) { s with heap:=h' }) :
  wpAny (model prog w) A (yt (.ref it)) Q E s:=by
 obtain⟨hp,g,dr,tk,os⟩:=s;have ty:Shared.TypeIs ⟨hp,g,dr,tk,os⟩ (.ref it) "dict_itemiterator":=⟨_,hit,rfl⟩;unfold yt;refine ag (rL (jT (name:=xA "__next__") ty jW (df jW ty IP ?_ (FY _))));refine ag (aA (ag (ag ?_)))
 first | refine ag (jO ty (aA (ag (pg hit rfl ?_)))) | refine ag (lW ty (aA (ag (pg hit rfl ?_))))
 have Qz:fI "dict_itemiterator" = true:=by decide
 rw [Qz];show wpAny _ _ (if (fe d == gM)=true then _ else _) _ _ _;rw [if_neg (fun z=>by cases z)];refine ag (aA (ag (g6 FH dd ?_)));rw [if_neg (by simp)];refine ag (aA (ag (nK FH dd ?_)));rw [if_neg (by simp)];refine aA ?_;dsimp only;rw [if_neg (show ¬ ((i:Int) < 0) from Int.not_lt.mpr (rX i)),fh,Jw hi];dsimp only;refine ag ?_
 first | refine ag (jO ty (aA (ag (oG ty ?_)))) | refine ag (lW ty (aA (ag (oG ty ?_))))
 show wpAny _ _ (setField (.ref it) 3 (yr ((i:Int)+1)) >>= _) _ _ ⟨hp,g,dr,tk,os⟩;refine ag (nI hit (by simp) fun h1 e1 s1=>?_);have s1:fX it hp h1:=s1;have e1:oY h1 it d (i+1) es.size ep ok ov:=by
  have e:((i+1:Nat):Int)=(i:Int)+1:=by lia
  unfold oY; rw [e]; simpa [yr] using e1
 have ty1:Shared.TypeIs ⟨h1,g,dr,tk,os⟩ (.ref it) "dict_itemiterator":=⟨_,e1,rfl⟩;refine ag (cF (ag (oG ty1 (ag (oG ty1 ?_)))));show wpAny _ _ (sA (.ref it) 6 es[i].key es[i].val) _ _ ⟨h1,g,dr,tk,os⟩;unfold sA;refine ag (wpAny_newTuple ?_);have z1:h1.objs.size=hp.objs.size:=s1.1;have lt:it < hp.objs.size:=aR hit;have e2:oY (h1.push { cls:=.type "tuple",data:=.seq #[es[i].key,es[i].val] }) it d (i+1) es.size ep ok ov:=aF _ e1;have t2:(h1.push { cls:=.type "tuple",data:=.seq #[es[i].key,es[i].val] }).get? hp.objs.size=some { cls:=.type "tuple",data:=.seq #[es[i].key,es[i].val] }:=by rw [<-z1]; exact a9 _ rfl
 have k2:∀ b o,b≠it->hp.get? b=some o->(h1.push { cls:=.type "tuple",data:=.seq #[es[i].key,es[i].val] }).get? b=some o:=fun b o hb e=>aF _ (s1.extBut b o hb e);generalize h1.push { cls:=.type "tuple",data:=.seq #[es[i].key,es[i].val] } = h2 at e2 t2 k2;show wpAny _ _ (jD (.ref it) >>= _) _ _ ⟨h2,g,dr,tk,os⟩;rw [z1];refine ag (show wpAny _ _ (jD (.ref it)) _ _ _ from ?_);unfold jD;refine ag (sd e2 rfl (x:=.none) rfl (aA ?_));rw [if_pos rfl];refine ag (sd e2 rfl (x:=ok) rfl (ag (sd e2 rfl (x:=ov) rfl (ag (nI e2 (by simp) fun h3 e3 s3=>?_)))));have s3:fX it h2 h3:=s3;have e3:oY h3 it d (i+1) es.size ep es[i].key ov:=e3;refine ag (nI e3 (by simp) fun h4 e4 s4=>?_);have s4:fX it h3 h4:=s4;have e4:oY h4 it d (i+1) es.size ep es[i].key es[i].val:=e4;refine ag (nI e4 (by simp) fun h5 e5 s5=>?_);have s5:fX it h4 h5:=s5;have e5:IsItemIterOut h5 it d (i+1) es.size ep es[i].key es[i].val hp.objs.size:=e5;refine ag (nI e5 (by simp) fun h6 e6 s6=>?_);have s6:fX it h5 h6:=s6;have all:∀ b o,b≠it->h2.get? b=some o->h6.get? b=some o:=fun b o hb e=>s6.extBut b o hb (s5.extBut b o hb (s4.extBut b o hb (s3.extBut b o hb e)));exact ag (xt (aA (aA ⟨_,rfl,aA (hQ h6 e6 (all _ _ (Nat.ne_of_gt lt) t2) fun b o hb e=>all b o hb (k2 b o hb e))⟩)))
end
end L2
namespace L2
open PySem PySem.Spec PyProof.Rows
section
variable {prog:bE} {w:World} {A:cO} {E:Value->ay->Prop} {s:ay}
theorem Oc{it d:Addr}{od:Obj}{es:Array fV}{i ep:Nat}{ok ov:Value}{Q:Option Value->ay->Prop}(calm:A.handled=none)(hit:oY s.heap it d i es.size ep ok ov)(FH:s.heap.get? d=some od)(dd:od.data=.dict es ep)(hi:es.size<=i)
  (hQ:∀ h',Heap.ExtBut it s.heap h'->Q none { s with heap:=h' }):wpAny (model prog w) A (yt (.ref it)) Q E s:=by
 have ty:s.TypeIs (.ref it) "dict_itemiterator":=⟨_,hit,rfl⟩;unfold yt;refine ag (rL (jT (name:=xA "__next__") ty jW (df jW ty IP ?_ (FY _))));refine ag (aA (ag (ag ?_)))
 first | refine ag (jO ty (aA (ag (pg hit rfl ?_)))) | refine ag (lW ty (aA (ag (pg hit rfl ?_))))
 have Qz:fI "dict_itemiterator" = true:=by decide
 rw [Qz];show wpAny _ _ (if (fe d == gM)=true then _ else _) _ _ s;rw [if_neg (fun z=>by cases z)];refine ag (aA (ag (g6 FH dd ?_)));rw [if_neg (by simp)];refine ag (aA (ag (nK FH dd ?_)));rw [if_neg (by simp)];refine aA ?_;dsimp only;rw [if_neg (show ¬ ((i:Int) < 0) from Int.not_lt.mpr (rX i)),fh,O7 hi];dsimp only;refine ag ?_
 first | refine ag (jO ty (aA (?_))) | refine ag (lW ty (aA (?_)))
 show wpAny _ _ (setField (.ref it) 2 .none >>= _) _ _ s;refine ag (Ti hit rfl (by simp) (show wpAny _ _ (newExc (.type "StopIteration") [] >>= _) _ _ _ from ag ?_));simp only [newExc,newTuple];refine ag (dg (ag (m:=Cz _ _) (Pk (a:=gM) (by first | rfl | (simp only [Cz]; rfl)) (dg ?_ (by size_fits)))) (by size_fits));simp only [raiseNew];refine ag (wpAny_handled ?_);rw [show A.in1.handled=none from calm];refine ag (aA (wpAny_throw ?_));refine ag (qc (T:="StopIteration") (b:=true) ⟨_,a9 _ rfl,rfl⟩ isSubtype_stop (?_));exact aA (hQ _ (((ko ..).extBut.push _).push _))
end
end L2
namespace L2
open PySem PySem.Spec PyProof.Rows
section
variable {prog:bE} {w:World} {A:cO} {E:Value->ay->Prop} {s:ay}
theorem wj (d:Addr) (ns:(d == dh)=false):MeetsIn prog w (Builtin.«dict.items» ⟨[.ref d],[]⟩) (fun _ R s=>s.TypeIs (.ref d) "dict"/\R (.ok (.ret (.ref s.heap.objs.size))) { s with heap:=s.heap.push { cls:=.type "dict_items",data:=.fields #[.ref d] } }):=by
 refine .of_wp ?_;rintro A R s ⟨ty,h⟩;unfold Builtin.«dict.items» Builtin.Dict.noArgs;refine ag (ag (zP ty (show wpAny _ _ (pure d) _ _ s from aA ?_)));show wpAny _ _ (lO d >>= _) _ _ s;unfold lO;rw [if_neg (fun z=>by rw [ns] at z; cases z)];exact ag (aA (ag (dg (aA ⟨_,rfl,h⟩))))
theorem yN{v d:Addr}{od:Obj}{es:Array fV}{ep:Nat}{Q:Value->ay->Prop}(hv:s.heap.IsItemsView v d)(FH:s.heap.get? d=some od)(dd:od.data=.dict es ep)
  (hQ:Q (.ref s.heap.objs.size) { s with heap:=s.heap.push { cls:=.type "dict_itemiterator",data:=.fields #[.none,.bool false,.ref d,.int 0 0,.int es.size 0,.int ep 0,.none,.none] } }) :
  wpAny (model prog w) A (FT (.ref v)) Q E s:=by
 obtain⟨ov,hov,hcv,hdv⟩:=id hv;refine oT hv.typeIs F.slot_dict_items_iter (df F.slot_dict_items_iter hv.typeIs F.entry_dict_items_iter ?_ (F.args_dict_items_iter_1 _));unfold Builtin.«dict_items.__iter__» Builtin.Dict_items.dictOf;refine ag (aA (ag (ag (sd hov hdv (x:=.ref d) rfl (aA (ag ?_))))));unfold Builtin.Dict_items.newIterator;refine ag (g6 FH dd (ag (nK FH dd ?_)));have Qz:fI "dict_itemiterator" = true:=by decide
 rw [Qz];dsimp only;rw [if_pos (show true=true from rfl)];refine dg (aA ⟨_,rfl,"dict_itemiterator",_,⟨_,a9 _ rfl,rfl⟩,F.slot_dict_itemiterator_next.lookup,?_⟩) ?_
 ·simpa [yr,qY] using hQ
 ·simp only [sizeOk,qY,aW,aC,ah,aw,cD]; lia
end
def ac2(a:Addr)(o:Obj)(es:Array fV)(ps:List (V×V)):It :=
 ⟨fun i H=>(∃ u,H a=some (.iN o u))/\i < es.size,fun i H v H'=>∃ T p,v=.ref T/\H T=none/\H'=upd H T (.tup [p.1,p.2])/\ps[i]?=some p,fun i H=>(∃ u,H a=some (.iN o u))/\es.size<=i⟩
theorem yy{P:bE}{w:World}{K:aj}{elts:List Expr}{kk:Nat}{pos:Pos}(a it:Addr)(o:Obj)(es:Array fV)(ep:Nat)(ps:List (V×V))(dd:o.data=.dict es ep)(hk:∀ i (h:i < es.size),∃ p,ps[i]?=some p/\RelV p.1 es[i].key/\RelV p.2 es[i].val) :
  Turn P w K (.Tuple elts kk pos) (ac2 a o es ps) [it] it (fun i h=>∃ ok ov,oY h it a i es.size ep ok ov) where
 mem:=by simp
 obj:=by
  rintro i h ⟨ok,ov,st⟩ b hb;have e:b=it:=by simpa using hb
  subst e;exact⟨_,st,fun v z=>by cases z⟩
 keep:=by rintro i h h' ⟨ok,ov,st⟩ k; exact⟨ok,ov,k it (by simp) _ st⟩
 item:=by
  intro X hP hw hK hc i pins s σ H E I hf st hg;obtain⟨ok,ov,st⟩:=st;subst hP hw hK;obtain⟨⟨u,hu⟩,hi⟩:=hg;obtain⟨p,hp,r1,r2⟩:=hk i hi;have Xz:H s.heap.objs.size=none:=I.b7.fresh (aE _);have Zy:it≠s.heap.objs.size:=bx (aR st);refine Kr st (I.b7 a _ hu).1 dd hi fun h' ho hT kk=>?_;refine⟨_,rfl,?_⟩;have I1:Inv X pins σ (upd H s.heap.objs.size (.tup [p.1,p.2])) { s with heap:=h',toks:=s.toks } :=
   I.zx (fp:=[it]) hf (fun b o hb q=>kk b o (fun z=>hb (by simp [z])) q) (aE _)
    ⟨by show 2<=a8; decide,[es[i].key,es[i].val],.cons r1 (.cons r2 .nil),⟨_,hT,rfl,_,rfl⟩⟩
  refine Pm (s:={ s with heap:=h' }) ho fun h2 UG HE=>?_;have f1:∀ b∈[it],oF X pins (upd H s.heap.objs.size (.tup [p.1,p.2])) b:=fun b hb=>(hf b hb).upd (by rw [List.mem_singleton.mp hb]; exact Zy);have I2:Inv X pins σ (upd H s.heap.objs.size (.tup [p.1,p.2])) { s with heap:=h2,toks:=s.toks } :=
   Inv.tY (s:={ s with heap:=h',toks:=s.toks }) (t':=s.toks) (fp:=[it]) I1 f1 fun b o hb q=>(HE.2 b (fun z=>hb (by simp [z]))).trans q
  exact⟨.ref s.heap.objs.size,_,I2,rfl,⟨_,p,rfl,Xz,rfl,hp⟩,⟨_,_,UG⟩,fun b hb=>(f1 b hb).1⟩
 done:=by
  intro X hP hw hK hc i pins s σ H E I hf st hg;obtain⟨ok,ov,st⟩:=st;subst hP hw hK;obtain⟨⟨u,hu⟩,hi⟩:=hg;obtain⟨f0,f1,f2,f3,f4,f5⟩:=hf it (by simp);exact Oc (I.ok.hd hc) st (I.b7 a _ hu).1 dd hi fun h' eb=>⟨rfl,I.turned (t':=s.toks) (fun b o hb e=>eb b o hb e) f0 f1 f3 f4 f5⟩
 self:=by
  rintro A i s Q E ⟨ok,ov,st⟩ h;have ty:s.TypeIs (.ref it) "dict_itemiterator":=⟨_,st,rfl⟩;refine oT ty jX (df jX ty mS ?_ (FZ _));show wpAny _ _ (ret (.ref it)) _ _ s;exact aA ⟨_,rfl,"dict_itemiterator",_,ty,F.slot_dict_itemiterator_next.lookup,h⟩
end L2
end
section
namespace K2
open PySem PySem.Spec PyProof.Rows L2
section
variable {X:Cx} {elts:List Expr} {kk:Nat} {y0 apos mi:Pos} {o:Expr} {to:gq}
theorem mV.item{K:aj}{H:Hp}{kv:List (List Key×V)}{kvs:List (D×D)}(h:mV K H kv kvs):∀ {i:Nat} {q:D×D},kvs[i]?=some q->∃ p,kv[i]?=some p/\q.1=.tup (p.1.map eV)/\bX K H p.2 q.2:=by
 induction h using mV.ind with
 | nil=>intro i q e; simp at e
 | @cons k v d r t rd rs ih =>
  intro i q e;cases i with
  | zero=>simp at e; subst e; exact⟨_,rfl,rfl,rd⟩
  | succ i =>
   obtain⟨p,h1,h2⟩:=ih (i:=i) (q:=q) (by simpa using e);exact⟨p,by simpa using h1,h2⟩
def mV.len{K:aj}{H:Hp}{kv:List (List Key×V)}{kvs:List (D×D)}(h:mV K H kv kvs):kv.length=kvs.length:=by
 have:=congrArg dI h.keys;simpa using this.symm
theorem J0 (ho:gG X o to) (wM:autoParam (FU o "items" X.env (eval o X.env)=eval o X.env) Ar._auto_1) (Bb:autoParam ((apos.endLine == mi.line)=true) Ar._auto_1) :
  ON X (.Tuple elts kk y0) (.Call (.Attribute o "items" apos) [] [] mi) (EC to):=by
 intro E pins s σ H τ G R hE I h;refine xu wM Bb (j8 ho hE I h fun x H1 d G1 v s1 I1 m1 r1 j5 q1=>?_);cases d with
 | kH kvs =>
  obtain⟨h1,q1⟩:=q1;obtain⟨t1,t2⟩:=nO pins s1 σ H1 G1 x _ v I1.inv I1.ab r1 j5 trivial;have main:∃ (a:Addr) (ob:Obj) (u:HO) (es:Array fV) (ep:Nat) (ps:List (V×V)),x=.ref a/\(a == dh)=false/\H1 a=some (.iN ob u)/\ob.data=.dict es ep/\(∀ i (h:i < es.size),∃ p,ps[i]?=some p/\RelV p.1 es[i].key/\RelV p.2 es[i].val)/\kvs.length=es.size /\
    (∀ (i:Nat) (q:D×D),kvs[i]?=some q->∃ p,ps[i]?=some p/\bX X.K H1 p.1 q.1/\bX X.K H1 p.2 q.2):=by
   cases j5 with
   | oC hq rs =>
    rename_i a o kv;cases rs with
    | nil =>
     obtain⟨z,ns,vs,rel,ob,es,ep,ho,ex,dd,hko,hp,nd⟩:=(I1.inv.b7 a _ hq).2;have eo:ob=o:=by have:=(I1.inv.b7 a _ hq).1; rw [ho] at this; exact aZ this
     subst eo;have l1:es.size=vs.length:=by simpa using hp.length
     have l2:([]:List (Key×V)).length=vs.length:=i9 rel;have l3:es.size=0:=by rw [l1,<-l2]; rfl
     exact⟨a,ob,_,es,ep,[],rfl,ns,hq,dd,fun i h=>by lia,by rw [l3]; rfl,fun i q e=>by simp at e⟩
    | @cons j _ _ _ _ _ _=>cases j <;> simp [eV,lJ] at h1
   | oB hq rs =>
    rename_i a o kv;obtain⟨z,ns,xs,rel,ob,es,ep,ho,ex,dd,hl,nd⟩:=(I1.inv.b7 a _ hq).2;have eo:ob=o:=by have:=(I1.inv.b7 a _ hq).1; rw [ho] at this; exact aZ this
    subst eo;have l1:=congrArg dI hl;rw [aq,fK] at l1;have l2:kv.length=xs.length:=i9 rel;have l3:=rs.len;refine⟨a,ob,_,es,ep,(kv.zip xs).map fun z=>(V.ref z.2.2.1,z.1.2),rfl,ns,hq,dd,fun i hi=>?_,by lia,fun i q e=>?_⟩
    ·have i2:i < xs.length:=by lia
     have i3:i < kv.length:=by lia
     have ee:es[i]=entryOfKey (jg (cJ X.prog X.w)) xs[i]:=by
      have:=congrArg (fun l=>l[i]?) hl;simp only [bu,ax i2] at this;simpa [hi] using this
     refine⟨(V.ref xs[i].2.1,kv[i].2),by rw [bu,ax (by rw [mz]; lia),u4]; rfl,?_⟩;rw [ee];exact⟨rfl,(xP rel i i3 i2).2.2⟩
    ·obtain⟨p,hp,ek,rp⟩:=rs.item e;have i3:i < kv.length:=(List.getElem?_eq_some_iff.mp hp).1;have i2:i < xs.length:=by lia
     have pr:=xP rel i i3 i2;rw [ax i3] at hp;cases hp;refine⟨(V.ref xs[i].2.1,kv[i].2),by rw [bu,ax (by rw [mz]; lia),u4]; rfl,?_,rp⟩;rw [ek];exact .tup pr.2.1 (xI _)
  obtain⟨a,ob,u,es,ep,ps,rfl,hm,hu,dd,hk,hlen,WB⟩:=main;cases r1;refine⟨"dict","dict.items",cH,gu,sr,t1,t2,mQ rfl (yX ?_)⟩;refine zW gu t1 rN (qe _) (wj a hm) ⟨t1,?_⟩;have I2:Inv X pins σ H1 { s1 with heap:=s1.heap.push { cls:=.type "dict_items",data:=.fields #[.ref a] } }:=I1.inv.kept (t':=s1.toks) fun b o e=>aF _ e;refine yN (s:={ s1 with heap:=s1.heap.push { cls:=.type "dict_items",data:=.fields #[.ref a] } }) ⟨_,a9 _ rfl,rfl,rfl⟩ (aF _ (I1.inv.b7 a _ hu).1) dd ?_;refine⟨_,[_],_,_,H1,G1,kvs.map (fun p=>.tup [p.1,p.2]),_,rfl,I2.kept (t':=s1.toks) fun b o e=>aF _ e,m1,yy a _ ob es ep ps dd hk,⟨.none,.none,a9 _ rfl⟩,fun b hb=>?_,fun i H2 G2 k ab _=>?_,q1⟩
  ·have e:=List.mem_singleton.mp hb;subst e;exact I2.Cf (aE _) (I2.b7.fresh (aE _))
  ·have zd:=k.iN _ _ _ hu;refine⟨fun d hd=>?_,fun hle=>⟨⟨u,zd⟩,by rw [<-hlen]; simpa using hle⟩⟩;rw [bu] at hd;cases IZ:kvs[i]? with
   | none=>rw [IZ] at hd; cases hd
   | some q =>
    rw [IZ] at hd;obtain⟨p,hp,rk,rp⟩:=WB i q IZ;have hi:i < es.size:=by rw [<-hlen]; exact(List.getElem?_eq_some_iff.mp IZ).1
    refine⟨⟨⟨u,zd⟩,hi⟩,?_⟩;rintro x H3 ⟨T,p',ex,hT,e3,hy⟩;subst ex e3;rw [hp] at hy;cases hy;have ed:D.tup [q.1,q.2]=d:=by simpa using hd
    subst ed;exact⟨.tup bU (.cons ((rk.mono k).mono (.new hT)) (.cons ((rp.mono k).mono (.new hT)) .nil)),.MG ab hT⟩
 | _=>exact q1.elim
end
def eOk(e:fV)(p:Int×Int):Bool:=e.hash == hashInt p.1&&uE p.1 e.key&&uE p.2 e.val
def UL:List fV->List (Int×Int)->Bool
 | [],[]=>true
 | e :: es,p :: ps=>eOk e p&&UL es ps
 | _,_=>false
def Dy(K:aj)(a:Addr)(kv:List (Int×Int)):Bool:=match K.lookup a with
 | some o=>o.cls == .type "dict" && o.dict == none&&o.slots.toList == []&&(match o.data with | .dict es _=>UL es.toList kv | _=>false)
 | none=>false
def VD(kv:List (Int×Int)):List (Key×V):=kv.map fun p=>(.inl p.1,.int p.2)
def isInt_shape{i:Int}{v:Value}(h:uE i v=true):∃ t,v=.int i t:=by
 rcases fj (k:=.inl i) h with ⟨j,t,e,rfl⟩ | ⟨_,_,e,_⟩
 ·cases e; exact⟨t,rfl⟩
 ·cases e
section
variable {P:bE} {w:World}
theorem Bo:∀ (es:List fV) (kv:List (Int×Int)),UL es kv=true->∃ vs,KV (VD kv) vs/\Pairs (cJ P w) es vs/\vs.map (·.1)=kv.map (fun p=>(xx p.1:Key))/\∀ e∈es,∃ k,(cJ P w).is k e.key=true/\e.hash=(cJ P w).hash k
 | [],[],_=>⟨[],.nil,.nil,rfl,fun e h=>by cases h⟩
 | [],_ :: _,h=>bg (show false=true from h)
 | _ :: _,[],h=>bg (show false=true from h)
 | e :: es,p :: ps,h=>by
  have h:(eOk e p&&UL es ps)=true:=h;rw [aJ] at h;obtain⟨vs,h1,h2,h3,h4⟩:=Bo es ps h.2;have he:=h.1;unfold eOk at he;rw [aJ,aJ] at he;obtain⟨t,ev⟩:=isInt_shape he.2;refine⟨(.inl p.1,e.val) :: vs,.cons ⟨rfl,t,ev⟩ h1,.cons he.1.2 rfl h2,by rw [ak,ak,h3],fun x hx=>?_⟩;rcases List.mem_cons.mp hx with rfl | hx
  ·exact⟨.inl p.1,he.1.2,beq_iff_eq.mp he.1.1⟩
  ·exact h4 x hx
theorem XM{K:aj}{a:Addr}{kv:List (Int×Int)}{h:Heap}(Y:K.In h)(e:Dy K a kv=true)(nd:(kv.map (·.1)).Nodup):∃ vs,KV (VD kv) vs/\h.DictOf (cJ P w) a vs:=by
 unfold Dy at e;cases hl:K.lookup a with
 | none=>rw [hl] at e; exact bg (show false=true from e)
 | some o =>
  rw [hl] at e;dsimp only at e;rw [aJ,aJ,aJ] at e;obtain⟨⟨⟨e1,e2⟩,e3⟩,e4⟩:=e;obtain⟨c,dd,dt,⟨sl⟩⟩:=o;have f1:c=.type "dict":=beq_iff_eq.mp e1;have f2:dd=none:=beq_iff_eq.mp e2;have f3:sl=[]:=beq_iff_eq.mp e3;clear e1 e2 e3;subst f1;subst f2;subst f3;cases dt with
  | dict es ep =>
   obtain⟨vs,h1,h2,h3,h4⟩:=Bo (P:=P) (w:=w) es.toList kv e4;refine⟨vs,h1,_,es,ep,Y _ _ hl,⟨rfl,rfl,rfl⟩,rfl,?_,h2,?_⟩
   ·intro e he;obtain⟨k,q1,q2⟩:=h4 e (Array.mem_toList_iff.mpr he);exact⟨k,q1,q2⟩
   ·rw [h3];have:kv.map (fun p=>(xx p.1:Key))=(kv.map (·.1)).map xx:=by rw [bq]; rfl
    rw [this,List.nodup_iff_pairwise_ne,ny];exact(List.nodup_iff_pairwise_ne.mp nd).imp fun tm e=>tm (Sum.inl.inj e)
  | _=>exact bg (show false=true from e4)
end
end K2
namespace K2
open PySem PySem.Spec PyProof.Rows L2
section
variable {X:Cx} {x:Str} {a:Addr} {kv:List (Int×Int)} {p px pos:Pos}
def VX{K:aj}{H:Hp}:∀ kv:List (Int×Int),mr K H (VD kv) (bb kv)
 | []=>.nil
 | p :: kv=>.cons (k:=.inl p.1) (.int p.2) (VX kv)
theorem CS (hg:Gl X "dict") (hm:X.mg "dict" = none) (hg2:Gl X x) (Ta:X.mg x=some (.ref a)) (ns:(a == dh)=false) (hD:Dy X.K a kv=true) (nd:(kv.map (·.1)).Nodup) (hz:kv.length<=1000) (ze:autoParam ((x == ("__debug__" : Str))=false) Ad._auto_1)
  (hs:autoParam (bw [.Name x px] X.env=[(false,eval (.Name x px) X.env)]) Ar._auto_1):gG X (.Call (.Name "dict" p) [.Name x px] [] pos) (Ig kv):=by
 intro E pins s σ H τ G Q hE I h;refine eY (qK I.inv hg hm Fm ?_);refine jf ?_ hs rfl;rw [hs];show wpAny _ _ (Jf ((false,eval (.Name x px) X.env) :: lX pos (bw [] X.env))) _ _ s;refine jQ ?_;refine nj I.inv hg2 Ta ?_ ze;refine sy ?_;obtain⟨vs,rel,dd⟩:=XM (P:=X.prog) (w:=X.w) I.inv.zF hD nd;have hl:vs.length=kv.length:=by rw [<-rel.length]; unfold VD; rw [aq]
 have sz:a8=16777216:=cD;refine kt_call_dict ns dd (by lia) fun h' Bt hs=>?_;have hp:H s.heap.objs.size=none:=I.inv.b7.fresh (aE _);have zz:(VD kv).length<=a8:=by unfold VD; rw [aq]; lia
 refine⟨.ref _,upd H s.heap.objs.size (.dK (VD kv)),.ref _,_,I.inv.laid (a:=s.heap.objs.size) (o:=.dK (VD kv)) (t':=s.toks) (fun b q hq=>?_) (aE _) (E1 zz (beq_eq_false_iff_ne.mpr (e7 (bx I.inv.big))) rel Bt),.new I.ab hp (.dk bU (VX kv)),rfl,.ref _,h _ (I.ab.free hp)⟩;exact(hs.2 b (bx (aR hq))).trans (aF _ hq)
end
end K2
end
section
namespace K2
open PySem PySem.Spec PyProof.Rows L2
section
variable {X:Cx}
theorem Im:tV X (.type "tuple") UY:=by
 intro pins s σ H G xs ds us Q I ab rx rd q;unfold UY at q;split at q
 ·rename_i x;obtain⟨v,rfl,r⟩:=rd.one;have X5:∀ (l:Addr) (ys:List V) (zs:List D),v=.ref l->qb X.K H l ys->ba X.K H ys zs->Q (.tup zs) G->wpAny (model X.prog X.w) X.A (call (.type "tuple") us) (r8 X pins σ H G Q) X.xe s:=fun l ys zs e h rs hq=>by
   subst e;exact hU (Cn pins s σ H _ us (B1 X.K H G Q) I rx ⟨l,ys,rfl,.inl ⟨h,fun p hp=>⟨.tup zs,G,.MG ab hp,.tup bU (rs.mono (.new hp)),hq⟩⟩⟩) fun _ _ z=>.of z
  cases r with
  | dw hq rs=>exact X5 _ _ _ rfl hq.sq rs q
  | ref l =>
   unfold tf at q;dsimp only at q;cases hg:G l with
   | none=>rw [hg] at q; exact q.elim
   | some g =>
    rw [hg] at q;cases g with
    | lst ds =>
     obtain⟨vs,hv,rs⟩:=ab.lst hg;exact X5 _ _ _ rfl (.of hv) rs q
    | ins _ _=>exact q.elim
    | rV _=>exact q.elim
    | fU kvs=>exact q.elim
  | _=>exact bI q
 ·exact q.elim
end
section
variable {X:Cx}
theorem Uk(hu:X.A.units+64 < cLine):pW X (eU .Lt) WD:=by
 intro pins s σ H G x y dx dy v u Q I ab rx ry dX dY q;obtain⟨sh,a,b,⟨sa,sb⟩,⟨h1,h2⟩,q⟩:=q;obtain⟨as,ra⟩:=(ic I ab sa).1 x v dX rx;obtain⟨bs,rb⟩:=(ic I ab sb).1 y u dY ry;have d1:=Bs sa;exact vd _ sh a b _ s _ _ as bs (aE _) h1 h2 sa.nr sb.nr ra rb (by unfold SN at d1; lia) _ _ _ _ ⟨.bl _,H,.bl _,G,I,.refl ab,rfl,.bl _,q⟩
end
section
variable {X:Cx} {pins:List (Addr×Obj)} {σ:L2.St} {H1 H':Hp} {s1 s':ay}
def S3(S:Addr->Bool)(H1 H':Hp):Hp:=fun a=>if S a=true then H1 a else H' a
def PH{S:Addr->Bool}{a:Addr}(h:S a=true):S3 S H1 H' a=H1 a:=by unfold S3; rw [if_pos h]
def g8{S:Addr->Bool}{a:Addr}(h:S a=false):S3 S H1 H' a=H' a:=by unfold S3; rw [if_neg (by rw [h]; exact fu)]
theorem Inv.Yv{S : Addr -> Bool}(I1 : Inv X pins σ H1 s1)(I' : Inv X pins σ H' s')(hS : ∀ a, S a = true -> ∃ u0 ob, H1 a = some u0 ∧ Fd u0 = true ∧ H' a = some (.iN ob u0)) : Inv X pins σ (S3 S H1 H') s' := by
  have cs : ∀ b, (S b = false ∨ ∃ u0 ob, S b = true ∧ H1 b = some u0 ∧ Fd u0 = true ∧ H' b = some (.iN ob u0)) := fun b => by
    cases c : S b with
    | false => exact .inl rfl
    | true => obtain⟨u0, ob, z⟩ := hS b c; exact .inr ⟨u0, ob, rfl, z⟩
  exact {
    ok := I'.ok
    os := I'.os
    bare := I'.bare
    base := { keep := I'.base.keep, slot := I'.base.slot, there := I'.base.there
              free := fun b o q n hx => by
                rcases cs b with hb | ⟨u0, ob, hb, e1, hu, e'⟩
                · rw [g8 hb]; exact I'.base.free b o q n hx
                · have := I1.base.free b o q n hx; rw [e1] at this; cases this
              rP := fun b xs q => by
                rcases cs b with hb | ⟨u0, ob, hb, e1, hu, e'⟩
                · rw [g8 hb]; exact I'.base.rP b xs q
                · have := I1.base.rP b xs q; rw [e1] at this; cases this; cases hu
              qN := fun b o u q => by
                rcases cs b with hb | ⟨u0, ob, hb, e1, hu, e'⟩
                · rw [g8 hb]; exact I'.base.qN b o u q
                · have := I1.base.qN b o u q; rw [e1] at this; cases this; cases hu
              uH := fun b ps q => by
                rcases cs b with hb | ⟨u0, ob, hb, e1, hu, e'⟩
                · rw [g8 hb]; exact I'.base.uH b ps q
                · have e := I1.base.uH b ps q; rw [e1] at e; cases e; cases hu
              uI := fun b x q => by
                rcases cs b with hb | ⟨u0, ob, hb, e1, hu, e'⟩
                · rw [g8 hb]; exact I'.base.uI b x q
                · have e := I1.base.uI b x q; rw [e1] at e; cases e; cases hu }
    loc := I'.loc
    cell := I'.cell
    free := by
      rcases cs X.env.locals with hb | ⟨u0, ob, hb, e1, hu, e'⟩
      · rw [g8 hb]; exact I'.free
      · have := I'.free; rw [e'] at this; cases this
    jA := fun x c e => by
      rcases cs c with hb | ⟨u0, ob, hb, e1, hu, e'⟩
      · rw [g8 hb]; exact I'.jA x c e
      · have := I'.jA x c e; rw [e'] at this; cases this
    pin := fun q hq => by
      obtain⟨h1, h2, h3⟩ := I'.pin q hq;rcases cs q.1 with hb | ⟨u0, ob, hb, e1, hu, e'⟩
      · exact⟨h1, by rw [g8 hb]; exact h2, h3⟩
      · rw [e'] at h2; cases h2
    b7 := fun a o q => by
      have st : ∀ u, fE X.prog X.w H' s'.heap a u -> fE X.prog X.w (S3 S H1 H') s'.heap a u := fun u x =>
        x.jF (fun b v _ r => r) (fun b r => by
          rcases cs b with hb | ⟨u0, ob, hb, e1, hu, e'⟩
          · rw [g8 hb]; exact r
          · rw [e'] at r; cases r) (fun b xs r => by
          rcases cs b with hb | ⟨u0, ob, hb, e1, hu, e'⟩
          · rw [g8 hb]; exact r
          · rw [e'] at r; cases r)
      rcases cs a with hb | ⟨u0, ob, hb, e1, hu, e'⟩
      · rw [g8 hb] at q
        exact st _ (I'.b7 a _ q)
      · rw [PH hb, e1] at q
        cases q;exact st _ (I'.b7 a _ e').2
    len := I'.len }
end
section
variable {K:aj} {H' H3:Hp}
def NC{v:V}{d:D}(rd:bX K H' v d)(hp:nW d=true):bX K H3 v d:=by
 cases rd with
 | eT=>exact .eT
 | bl b=>exact .bl _
 | int i=>exact .int _
 | _=>exact absurd hp (by simp [nW])
def Aj:∀ {ds:List D} {vs:List V},ba K H' vs ds->ds.all nW=true->ba K H3 vs ds
 | [],_,.nil,_=>.nil
 | _ :: _,_,.cons r rs,h=>by
  rw [mF,aJ] at h;exact .cons (NC r h.1) (Aj rs h.2)
structure KtP(H' H3:Hp):Prop where
 t:∀ a xs,H' a=some (.tup xs)->H3 a=some (.tup xs)
 k:∀ a o kv,H' a=some (.iN o (.dK kv))->H3 a=some (.iN o (.dK kv))
 d:∀ a o kv,H' a=some (.iN o (.dT kv))->H3 a=some (.iN o (.dT kv))
theorem Gv(kt:KtP H' H3){v:V}{d:D}(rd:bX K H' v d)(hp:tupP d=true):bX K H3 v d:=by
 cases rd with
 | eT=>exact .eT
 | bl b=>exact .bl _
 | int i=>exact .int _
 | ref a=>exact .ref a
 | tup h r=>exact .tup (kt.t _ _ h) (Aj r hp)
 | oC h r=>exact .oC (kt.k _ _ _ h) (r.plain hp)
 | oB h r =>
  cases r with
  | nil=>exact .oB (kt.d _ _ _ h) .nil
  | cons _ _=>exact absurd hp (by simp [tupP,di])
 | _=>exact absurd hp (by simp [tupP,nW])
theorem CK(kt:KtP H' H3):∀ {ds:List D} {vs:List V},ba K H' vs ds->ds.all tupP=true->ba K H3 vs ds
 | [],_,.nil,_=>.nil
 | _ :: _,_,.cons r rs,h=>by
  rw [mF,aJ] at h;exact .cons (Gv kt r h.1) (CK kt rs h.2)
theorem XY(kt:KtP H' H3){a:Addr}{o:GO}(e:H3 a=H' a)(h:Jb K H' a o)(ok:AP o=true):Jb K H3 a o:=by
 cases o with
 | lst ds=>obtain⟨vs,q,r⟩:=h; exact⟨vs,e.trans q,CK kt r ok⟩
 | fU kvs =>
  rcases h with ⟨kv,q,r⟩ | ⟨kv,q,r⟩
  ·exact .dk (e.trans q) (r.plain ok)
  ·cases r with
   | nil=>exact .dt (e.trans q) .nil
   | cons _ _=>exact absurd ok (by simp [AP,di])
 | ins c fs=>exact absurd ok (by simp [AP])
 | rV kvs=>exact absurd ok (by simp [AP])
end
section
variable {X:Cx} {pins:List (Addr×Obj)} {σ:L2.St} {H:Hp} {s:ay} {G:Gp}
theorem ML(I:Inv X pins σ H s)(ab:kK X.K H G){R:Nat->Bool}:∀ {ds ts:List D} {vs:List V},Cw G R ds ts->ba X.K H vs ds->ba X.K (mK s.heap (iR R G) H) vs ts
 | [],_,_,.nil,.nil=>.nil
 | _ :: _,_,_,.cons f fs,.cons r rs=>.cons (KI I ab f r) (ML I ab fs rs)
end
section
variable {X:Cx} {e:Expr} {es:List Expr} {t:BF} {pos p:Pos} {x:Str} {k:Nat} {f:Addr} {fd:fH} {ps:List Str} {sp:jM}
theorem xO(F:tT X.prog X.w X.K X.mg X.base Ls k f fd ps (B6 X.K sp))(hr:kM k X.A)(hg:Gl X x)(hm:X.mg x=some (.ref f))(hk:mP X.K (.ref f)=true)(hb:Binds X.K fd ps [])
  (ha:B3 X (e :: es) t) (ze:autoParam ((x == ("__debug__" : Str))=false) Ad._auto_1) (he:autoParam (bw (e :: es) X.env=(false,eval e X.env) :: bw es X.env) Ar._auto_1) (yO:autoParam ((lX pos (bw es X.env)).any (·.1)=false) Ar._auto_1) :
  gG X (.Call (.Name x p) (e :: es) [] pos) (Bv sp t):=by
 intro E pins s σ H τ G Q hE I h;refine eY (nj I.inv hg hm ?_ ze);refine pX (h₀:=X.base) I.inv.ok.mod.Uz hk (y7 ha pos hE I h fun vs H1 ds G1 us s1 I1 m1 r rd q=>⟨I1.inv.zF,?_⟩) he yO;obtain⟨R,ts,hR,fz,q⟩:=q;have rep:=ML I1.inv I1.ab fz rd;have I1':=Inv.freeze I1.inv (iR R G1);have VQ:∀ a,iR R G1 a=true->∃ u0 ob,H1 a=some u0/\Fd u0=true/\mK s1.heap (iR R G1) H1 a=some (.iN ob u0):=fun a h=>by
  have hRa:R a=true:=by unfold iR at h; rw [aJ] at h; exact h.1
  obtain⟨xs,hx⟩:=hR a hRa;obtain⟨vs',hv,rs⟩:=I1.ab a _ hx;obtain⟨ob,ho⟩:=K2.kI (I1.inv.b7 a _ hv);exact⟨_,ob,hv,rfl,qO h hv rfl ho⟩
 have Xn:∀ a,iR R G1 a=true->∃ vs ob,mK s1.heap (iR R G1) H1 a=some (.iN ob (.lst vs)):=fun a h=>by
  have hRa:R a=true:=by unfold iR at h; rw [aJ] at h; exact h.1
  obtain⟨xs,hx⟩:=hR a hRa;obtain⟨vs',hv,rs⟩:=I1.ab a _ hx;obtain⟨ob,ho⟩:=K2.kI (I1.inv.b7 a _ hv);exact⟨_,ob,qO h hv rfl ho⟩
 have out:∀ a,iR R G1 a=false->mK s1.heap (iR R G1) H1 a=H1 a:=fun a h=>wQ h;generalize mK s1.heap (iR R G1) H1=H2 at rep I1' VQ Xn out;generalize iR R G1=S at VQ Xn out;refine hU (JR F hr hb .nil Vt I1' r (Q:=fun v H'=>∃ d G',Mv X.K H2 (fun _=>none) H' G'/\bX X.K H' v d/\(tupP d=true/\∃ T:Nat->Bool,(∀ a o,T a=true->G' a=some o->AP o=true)/\((∀ a o,G' a=some o->G1 a=none)->Q d (Ve (resT T G') G1)))) ?_) fun u s2 z=>?_
 ·rw [cg];exact⟨ts,fun _=>none,_,rep,(fun a g e=>by(cases e)),q,(fun d G' v H' q2 m rd=>⟨d,G',m,rd,q2⟩)⟩
 ·obtain⟨v,H',I',rv,d,G',m,rd,hp,T,Rz,q3⟩:=z;have Ze:∀ a o,H2 a=some o->H' a=some o/\G' a=none:=fun a o e=>m.keep a o e rfl;have hS:∀ a,S a=true->∃ u0 ob,H1 a=some u0/\Fd u0=true/\H' a=some (.iN ob u0):=fun a h=>by
   obtain⟨u0,ob,h1,h2,h3⟩:=VQ a h;exact⟨u0,ob,h1,h2,(Ze a _ h3).1⟩
  have hL:∀ a,S a=true->∃ vs ob,H' a=some (.iN ob (.lst vs)):=fun a h=>by
   obtain⟨vs,ob,h3⟩:=Xn a h;exact⟨vs,ob,(Ze a _ h3).1⟩
  have I3:=Inv.Yv I1.inv I' hS;have same:∀ a o,H1 a=some o->S3 S H1 H' a=some o:=fun a o e=>by
   cases c:S a with
   | true=>rw [PH c]; exact e
   | false=>rw [g8 c]; exact(Ze a o (by rw [out a c]; exact e)).1
  have kp:Kp H1 (S3 S H1 H'):=⟨fun a xs e=>same a _ e,fun a o u e=>same a _ e⟩;have Ss:kK X.K (S3 S H1 H') G1:=fun a g eg=>by
   have ab1:=I1.ab a g eg;cases eh:H1 a with
   | none=>exact absurd eh ab1.tracked
   | some o=>exact ab1.mono kp (by rw [same a o eh,eh])
  have so':∀ a o u,H' a=some (.iN o u)->(∀ vs,u≠.lst vs)->S a=false:=fun a o u e n=>by
   cases c:S a with
   | false=>rfl
   | true=>obtain⟨vs,ob,h3⟩:=hL a c; rw [h3] at e; cases e; exact absurd rfl (n vs)
  have kt:KtP H' (S3 S H1 H'):=⟨fun a xs e=>by
   cases c:S a with
   | true=>obtain⟨u0,ob,_,_,h3⟩:=hS a c; rw [h3] at e; cases e
   | false=>rw [g8 c]; exact e,fun a o kv e=>by rw [g8 (so' a o _ e (fun _ z=>by cases z))]; exact e,fun a o kv e=>by rw [g8 (so' a o _ e (fun _ z=>by cases z))]; exact e⟩
  have fresh:∀ a o,G' a=some o->H1 a=none:=fun a o e=>by
   cases eh:H1 a with
   | none=>rfl
   | some u =>
    exfalso;cases c:S a with
    | true =>
     obtain⟨u0,ob,_,_,h3⟩:=VQ a c;have:=(Ze a _ h3).2;rw [e] at this; cases this
    | false =>
     have:=(Ze a u (by rw [out a c]; exact eh)).2;rw [e] at this; cases this
  have fg:∀ a o,G' a=some o->G1 a=none:=fun a o e=>I1.ab.free (fresh a o e);have so:∀ a o,G' a=some o->S a=false:=fun a o e=>by
   cases c:S a with
   | false=>rfl
   | true=>obtain⟨u0,ob,h1,_⟩:=hS a c; rw [fresh a o e] at h1; cases h1
  refine r8.trans m1 ⟨v,_,d,Ve (resT T G') G1,I3,?_,rv,Gv kt rd hp,q3 fg⟩;have rs:∀ a g,resT T G' a=some g->T a=true/\G' a=some g:=fun a g e=>by
   unfold resT at e;split at e
   ·rename_i c; exact⟨c,e⟩
   ·cases e
  refine⟨fun a o e n=>⟨same a o e,?_⟩,fun a n=>?_,fun a g eg=>?_⟩
  ·unfold Ve;cases eg:resT T G' a with
   | none=>exact n
   | some g=>have:=fresh a g (rs a g eg).2; rw [e] at this; cases this
  ·cases eg:G1 a with
   | none=>exact absurd eg n
   | some g=>exact(Ss a g eg).tracked
  ·unfold Ve at eg;cases eg':resT T G' a with
   | none=>rw [eg'] at eg; exact Ss a g eg
   | some g' =>
    rw [eg'] at eg;cases eg;obtain⟨t1,t2⟩:=rs a _ eg';exact XY kt (g8 (so a _ t2)) (m.ab a _ t2) (Rz a _ t1 t2)
end
end K2
end
section
namespace L2
open PySem PySem.Spec PyProof.Rows
open AutoSeq1 (wpAny_loadPart')
theorem Hg(k:Int)(hk:¬ (!fJ k)=true)(l:Addr)(items:Array Value)(n:Nat)(dct:Option Addr)(sl:Array (Option Value))(t:Tok) :
  Meets (Builtin.«enumerate.__new__» ⟨[.type "enumerate",.ref l],[("start",.int k t)]⟩) (fun _ R s=>s.heap.get? l=some { cls:=.type "list",dict:=dct,data:=.seq items n,slots:=sl } /\
   R (.ok (.ret (.ref (s.heap.push { cls:=.type "list_iterator",data:=.fields #[.ref l,.int 0 0] }).objs.size)))
    { s with heap:=(s.heap.push { cls:=.type "list_iterator",data:=.fields #[.ref l,.int 0 0] }).push { cls:=.type "enumerate",data:=.fields #[.none,.bool false,.ref s.heap.objs.size,yr k,.none,.none] } }) :=
 .of_wp fun prog w A R s h=>by
  obtain⟨hp,g,d,tk,os⟩:=s; obtain⟨hl,h⟩:=h;have Rq:=sub_enumerate;have hL:Heap.IsList (Shared.heap ⟨hp,g,d,tk,os⟩) l items:=⟨_,hl,rfl,n,rfl⟩
  wp_walk using bM hl
  refine wpAny_stack_any fun st=>aA ?_;split
  ·rename_i c _ _ _ _ _;cases (c == Lw "enumerate")
   ·wp_walk using bM hl,oU hL
    exact⟨_,rfl,h⟩
   ·wp_walk using bM hl,oU hL
    exact⟨_,rfl,h⟩
  ·wp_walk using bM hl,oU hL
   exact⟨_,rfl,h⟩
section
variable {prog:bE} {w:World} {A:cO} {E:Value->ay->Prop} {s:ay}
set_option maxRecDepth 100000 in
theorem K9{k:Int}(hk:¬ (!fJ k)=true){l:Addr}{items:Array Value}{t:Tok}{Q:Value->ay->Prop}(hL:s.heap.IsList l items)
  (h:∀ h',IsEnum h' (s.heap.objs.size+1) s.heap.objs.size k .none->h'.IsListIter s.heap.objs.size l 0 ->
   (∀ b o,s.heap.get? b=some o->h'.get? b=some o)->Q (.ref (s.heap.objs.size+1)) { s with heap:=h' }) :
  wpAny (model prog w) A (call (.type "enumerate") [.ref l] [("start",.int k t)]) Q E s:=by
 obtain⟨⟨c,dct,dt,sl⟩,hl,hc,n,hd⟩:=hL;replace hc:c=.type "list":=hc;replace hd:dt=.seq items n:=hd;subst hc hd;obtain⟨c,tl,af8⟩:=F.called_enumerate.mro;have adW:=F.called_enumerate.made;have Rq:=F.called_enumerate.sub;refine Jd (codeAny_of_tree (show wpAny _ _ (callAny (.type "enumerate") _) _ _ _ from ?_));refine aA ⟨Code.quiet_builtin _ (by decide +kernel),kQ F.entry_type_call ?_⟩;rw [Around.under_plain (weight_type_call_type "enumerate" [.ref l] [("start",.int k t)]) (units_type_call_type "enumerate" [.ref l] [("start",.int k t)])];have h1:=F.called_enumerate.notType;have h2:=F.called_enumerate.canCreate;have hct:=Aa (.ref l) k t;have hcn:=Cb (.ref l) k t
 repeat (any_goals (first | assumption | wp_step))
 have hz:(s.heap.push { cls:=.type "list_iterator",data:=.fields #[.ref l,.int 0 0] }).objs.size=s.heap.objs.size+1:=lq ..;refine pA (qX F.called_enumerate.plain F.entry_enumerate_new (Pk hcn (Hg k hk l items n dct sl t prog w A.in1 (wants (fun obj fk=>fk.TypeIs obj "enumerate"/\Q obj fk) E) s ⟨hl,?_⟩))) fun r fk hr=>?_
 ·show _/\_;rw [hz]
  have he:IsEnum ((s.heap.push { cls:=.type "list_iterator",data:=.fields #[.ref l,.int 0 0] }).push
    { cls:=.type "enumerate",data:=.fields #[.none,.bool false,.ref s.heap.objs.size,yr k,.none,.none] }) (s.heap.objs.size+1) s.heap.objs.size k .none:=by
   have:=a9 (s.heap.push { cls:=.type "list_iterator",data:=.fields #[.ref l,.int 0 0] })
    (o:={ cls:=.type "enumerate",data:=.fields #[.none,.bool false,.ref s.heap.objs.size,yr k,.none,.none] }) rfl
   rw [hz] at this; exact this
  exact⟨⟨_,he,rfl⟩,h _ he ⟨_,aF _ (a9 _ rfl),rfl,rfl⟩ fun b o x=>aF _ (aF _ x)⟩
 ·cases r with
  | error e=>exact hr
  | ok fl =>
   cases fl with
   | ret obj =>
    obtain⟨hT,hq⟩:=hr;have hli:=F.called_enumerate.init.lookup;have hbi:=F.called_enumerate.init.bind obj
    repeat (any_goals (first | assumption | wp_step))
    refine pA (qX F.called_enumerate.init.plain F.entry_object_init (F.called_enumerate.init.check _ _ _ _ _ _ _ _ hT (Ku obj (.ref l) k t) (HA obj (.ref l) k t prog w A.in1 (wants (fun r j0=>r=.none/\Q obj j0) E) fk ⟨hT,rfl,hq⟩))) fun aa2 j0 Rv=>?_;cases aa2 with
    | error e=>exact Rv
    | ok ZM =>
     cases ZM with
     | ret r =>
      obtain⟨rfl,hq⟩:=Rv
      repeat (any_goals (first | assumption | wp_step))
     | _=>exact Rv.elim
   | _=>exact hr.elim
end
end L2
end
section
namespace K2
open PySem PySem.Spec PyProof.Rows L2
section
def RS{n:Nat}(h:n < 4611686018427387904):(!fJ (n:Int))=false:=by
 unfold fJ;simp only [Bool.not_eq_false',aJ,decide_eq_true_eq];lia
variable {X:Cx} {elts:List Expr} {kk:Nat} {y0:Pos} {a:Expr} {ta:gq} {pos p kp p1:Pos} {c1:Nat}
theorem HZ{n:Nat}(hn:n < 4611686018427387904){pins:List (Addr×Obj)}{σ:L2.St}{H H1:Hp}{G G1:Gp}{s1:ay}{l:Addr}{vs:List V}{ds:List D}{ok:Gp->Prop}{R:List D->(Gp->Prop)->Gp->Prop}{t:Tok}(I1:Inv X pins σ H1 s1)(m:Mv X.K H G H1 G1)(hq:qb X.K H1 l vs)
  (hk:∀ H2 G2,Kp H1 H2->kK X.K H2 G2->ok G2->∃ ws,qb X.K H2 l ws/\ba X.K H2 ws ds) (q:R (pQ n ds) ok G1) :
  wpAny (model X.prog X.w) X.A (call (.type "enumerate") [.ref l] [("start",.int (n:Int) t)]) (fun v s2=>wpAny (model X.prog X.w) X.A (FT v) (Lh X pins σ (.Tuple elts kk y0) H G R) X.xe s2) X.xe s1:=by
 obtain⟨bL,rv,pl,hz⟩:=I1.list hq;refine K9 (by rw [RS hn]; exact fu) pl.isList fun h' he hit kp=>?_;refine wpAny_pyIter_enum he ?_;refine⟨_,[s1.heap.objs.size+1,s1.heap.objs.size],_,_,H1,G1,pQ n ds,ok,rfl,I1.kept (t':=s1.toks) kp,m,JI n l _ _ (Nat.succ_ne_self _),⟨⟨_,he⟩,hit⟩,fun b hb=>?_,fun i H2 G2 k ab o=>?_,q⟩
 ·have KD:s1.heap.objs.size<=b:=by
   rcases List.mem_cons.mp hb with rfl | hb
   ·lia
   ·rw [List.mem_singleton.mp hb]; exact aE _
  exact I1.Cf KD (I1.b7.fresh KD)
 ·obtain⟨ws,hw,rd⟩:=hk H2 G2 k ab o;refine⟨fun d hd=>?_,fun hl=>⟨ws,hw,by rw [rd.length,<-Dt ds n]; exact hl⟩⟩;rw [Du] at hd;cases hdi:ds[i]? with
  | none=>rw [hdi] at hd; cases hd
  | some d' =>
   rw [hdi] at hd;obtain⟨v,hv,r⟩:=rd.get hdi;refine⟨⟨ws,v,hw,hv⟩,?_⟩;rintro x H3 ⟨T,y,ex,hT,e3,hy⟩;subst ex e3;have:=hy ws hw;rw [hv] at this;cases this;have ed:D.tup [.int ((n+i:Nat):Int),d']=d:=by simpa using hd
   subst ed;exact⟨.tup bU (.cons (.int _) (.cons (r.mono (.new hT)) .nil)),.MG ab hT⟩
theorem NO {b:Expr} {tb:gq} (hg:Gl X "enumerate") (hm:X.mg "enumerate" = none) (ha:gG X a ta) (hb:gG X b tb) (hs:autoParam (bw [a] X.env=[(false,eval a X.env)]) Ar._auto_1) :
  ON X (.Tuple elts kk y0) (.Call (.Name "enumerate" p) [a] [⟨some "start",b,kp⟩] pos) (Kw ta tb):=by
 intro E pins s σ H τ G R hE I h;have hA:B3 X [a] (av ta aO):=jw ha hW hs;refine eY (qK I.inv hg hm Fj (yh ?_ rfl ?_))
 ·rw [hs]; rfl
 rw [show lX pos (bw [a] X.env)=(false,eval a X.env) :: [] from by rw [hs]; rfl];refine evalArgs_kwB rfl ?_;rw [show ((false,eval a X.env) :: []:List (Bool×Sem Value))=lX pos (bw [a] X.env) from by rw [hs]; rfl];refine y7 hA pos hE I (R:=abi fun x G1=>tb E τ G1 fun y G2=>∃ n:Nat,y=.int n/\n < 4611686018427387904/\wH x n G2 R) h fun vs H1 ds G1 us s1 I1 m1 r1 j5 q1=>?_
 match ds,q1 with
 | [x],q1 =>
  change tb E τ G1 _ at q1;obtain⟨w,rfl,Gr⟩:=j5.one;obtain⟨u,rfl,ru⟩:=r1.one;refine kws_cons (j8 hb hE I1 q1 fun v2 H2 d2 G2 u2 s2 nv m2 r2 y8 q2=>kws_nil ?_);obtain⟨n,rfl,hn,q2⟩:=q2;cases y8;obtain⟨t,rfl⟩:=r2;have P2:=Gr.mono (m2.kp I1.ab);show wpAny (model X.prog X.w) X.A (call (.type "enumerate") [u] [("start",.int (n:Int) t)]) _ _ _;cases P2 with
  | dw hq rs=>cases ru; exact HZ hn nv.inv (m1.trans m2) hq.sq (fun H2 G2 k ab _=>⟨_,(k.Wr hq).sq,rs.mono k⟩) q2
  | ref p =>
   cases ru;unfold wH at q2;dsimp only at q2;split at q2
   ·rename_i ds e;obtain⟨vs,hv,rs⟩:=nv.ab.lst e;refine HZ hn nv.inv (m1.trans m2) (.of hv) (fun H2 G2 k ab o=>?_) q2;obtain⟨ws,hw,rQ⟩:=ab.lst o;exact⟨ws,.of hw,rQ⟩
   ·exact q2.elim
  | tup _ _=>exact q2.elim
  | oC _ _=>exact q2.elim
  | oB _ _=>exact q2.elim
  | eT=>exact q2.elim
  | bl _=>exact q2.elim
  | int _=>exact q2.elim
  | str _=>exact q2.elim
  | exc _=>exact q2.elim
  | Dp _ _=>exact q2.elim
  | pj _ _ _ _=>exact q2.elim
 | [],q1=>exact q1.elim
 | _ :: _ :: _,q1=>exact q1.elim
end
abbrev N6(P:bE)(w:World):FX P w PK:=nk3 (Ji P w)
section
variable {P:bE} {w:World} {K:aj} {H:Hp} {h:Heap}
theorem items_int:∀ {t:List Int} {us:List Value},Vals (t.map V.int) us->ItemsAre (Ji P w) t us
 | [],_,r=>by rw [aQ] at r; cases r; exact .nil
 | i :: t,_,r=>by
  rw [ak] at r;cases r with
  | cons h r =>
   obtain⟨q,rfl⟩:=h;exact .cons (by simp [Ji,uE]) (items_int r)
theorem abp(ok:oE P w H h){v:V}{u:Value}{t:List Int}(r:bX K H v (.tup (t.map D.int)))(ru:RelV v u):∃ b,u=.ref b/\(jg (Ji P w)).is h t b:=by
 cases r with
 | tup e rs =>
  have z:=rs.ints;subst z;cases ru;obtain⟨_,bL,r,o,h1,h2,n,h3⟩:=(show fE P w H h _ (.tup (t.map V.int)) from ok _ _ e);exact⟨_,rfl,o,bL.toArray,n,h1,h2,h3,by simpa using items_int r⟩
theorem Vx(ok:oE P w H h):∀ {r:List (List Int)} {vs:List V} {us:List Value},ba K H vs (r.map fun t=>.tup (t.map D.int))->Vals vs us->uN (jg (Ji P w)) h r us
 | [],_,_,q,ru=>by have:=q.zero; subst this; cases ru; exact .nil
 | t :: r,_,_,q,ru=>by
  rw [ak] at q;cases q with
  | cons q1 q2 =>
   cases ru with
   | cons r1 r2 =>
    obtain⟨b,rfl,hb⟩:=abp ok q1 r1;exact .cons hb (Vx ok q2 r2)
theorem abo(ok:oE P w H h){v:V}{u:Value}{r:List (List Int)}(q:bX K H v (.tup (r.map fun t=>.tup (t.map D.int))))(ru:RelV v u):∃ b,u=.ref b/\(Yb (Ji P w)).is h r b:=by
 cases q with
 | tup e rs =>
  cases ru;obtain⟨_,bL,r',o,h1,h2,n,h3⟩:=(show fE P w H h _ (.tup _) from ok _ _ e);exact⟨_,rfl,o,bL.toArray,n,h1,h2,h3,by simpa using Vx ok rs r'⟩
theorem Vw(ok:oE P w H h):∀ {k:PK} {vs:List V} {us:List Value},ba K H vs (k.map fun r=>.tup (r.map fun t=>.tup (t.map D.int)))->Vals vs us->uN (Yb (Ji P w)) h k us
 | [],_,_,q,ru=>by have:=q.zero; subst this; cases ru; exact .nil
 | t :: r,_,_,q,ru=>by
  rw [ak] at q;cases q with
  | cons q1 q2 =>
   cases ru with
   | cons r1 r2 =>
    obtain⟨b,rfl,hb⟩:=abo ok q1 r1;exact .cons hb (Vw ok q2 r2)
theorem Ut(ok:oE P w H h){v:V}{u:Value}{k:PK}(q:bX K H v (rm k))(ru:RelV v u):∃ b,v=.ref b/\u=.ref b/\(N6 P w).is h k b:=by
 unfold rm at q;cases q with
 | tup e rs =>
  cases ru;obtain⟨_,bL,r',o,h1,h2,n,h3⟩:=(show fE P w H h _ (.tup _) from ok _ _ e);exact⟨_,rfl,rfl,o,bL.toArray,n,h1,h2,h3,by simpa using Vw ok rs r'⟩
def P1(K:aj)(H:Hp)(x:PK×Addr×Value)(p:PK×D):Prop:=x.1=p.1/\bX K H (.ref x.2.1) (rm p.1)/\∃ v,RelV v x.2.2/\bX K H v p.2
theorem Ee:∀ {xs:List (PK×Addr×Value)} {ks vs:List V} {kvs:List (PK×D)},U8 kvs ks vs xs->ba K H ks (kvs.map fun p=>rm p.1)->ba K H vs (kvs.map fun p=>p.2)->lC (P1 K H) xs kvs
 | [],ks,vs,kvs,r,r1,r2=>by
  have:kvs=[]:=by simpa using r.1
  subst this; exact .nil
 | x :: xs,ks,vs,kvs,r,r1,r2=>by
  obtain⟨e1,e2,e3⟩:=r;cases kvs with
  | nil=>cases e1
  | cons p kvs =>
   rw [ak,ak] at e1;injection e1 with e4 e5
   subst e2;rw [ak] at r1;rw [ak] at r1 r2;rw [ak] at e3;cases r1 with
   | cons q1 q2 =>
    cases r2 with
    | cons q3 q4 =>
     cases e3 with
     | cons q5 q6=>exact .cons ⟨e4.symm,q1,_,q5,q3⟩ (Ee ⟨e5,rfl,q6⟩ q2 q4)
theorem WJ{xs:List (PK×Addr×Value)}{kvs:List (PK×D)}(h:lC (P1 K H) xs kvs):∃ vs,U8 kvs (xs.map fun x=>.ref x.2.1) vs xs/\ba K H (xs.map fun x=>.ref x.2.1) (kvs.map fun p=>rm p.1)/\ba K H vs (kvs.map fun p=>p.2):=by
 induction h with
 | nil=>exact⟨[],⟨rfl,rfl,.nil⟩,.nil,.nil⟩
 | cons h1 _ ih =>
  obtain⟨vs,⟨a,b,c⟩,r1,r2⟩:=ih;obtain⟨e1,e2,v,e3,e4⟩:=h1;exact⟨v :: vs,⟨by rw [ak,ak,a,e1],rfl,.cons e3 c⟩,.cons e2 r1,.cons e4 r2⟩
def P1.mono{H':Hp}(k:Kp H H'){x:PK×Addr×Value}{p:PK×D}(h:P1 K H x p):P1 K H' x p:=let ⟨a,b,v,c,d⟩:=h; ⟨a,b.mono k,v,c,d.mono k⟩
def GI{H':Hp}(k:Kp H H'){xs:List (PK×Addr×Value)}{kvs:List (PK×D)}(h:lC (P1 K H) xs kvs):lC (P1 K H') xs kvs:=Paired.Uu h fun _ _ z=>z.mono k
theorem WK(ok:oE P w H h){xs:List (PK×Addr×Value)}{kvs:List (PK×D)}(r:lC (P1 K H) xs kvs):∀ x∈xs,(N6 P w).is h x.1 x.2.1:=by
 induction r with
 | nil=>intro x hx; cases hx
 | cons h1 _ ih =>
  intro x hx;rcases List.mem_cons.mp hx with rfl | hx
  ·obtain⟨e1,e2,_⟩:=h1;obtain⟨b,e3,e4,e5⟩:=Ut ok e2 (rfl:RelV (.ref _) (.ref _));cases e4;rw [e1]; exact e5
  ·exact ih x hx
theorem AH(ok:oE P w H h){a:Addr}{xs:List (PK×Addr×Value)}{kvs:List (PK×D)}(p:Li a xs h)(r:lC (P1 K H) xs kvs):h.DictOfH (N6 P w) a xs:=by
 obtain⟨z,y,o,es,ep,h1,h2,h3,h4,h5⟩:=p;exact⟨o,es,ep,h1,h2,h3,h4,WK ok r,h5⟩
theorem Ej{a:Addr}{xs:List (PK×Addr×Value)}(z:xs.length<=a8)(y:(a == dh)=false)(d:h.DictOfH (N6 P w) a xs):fE P w H h a (.ext (Li a xs)):=by
 obtain⟨o,es,ep,h1,h2,h3,h4,_,h5⟩:=d;refine⟨⟨z,y,o,es,ep,h1,h2,h3,h4,h5⟩,⟨o,h1⟩,?_⟩;rintro g1 g2 ⟨z,y,o,es,ep,q1,q⟩ k;exact⟨z,y,o,es,ep,k _ q1,q⟩
theorem Qn{xs:List (PK×Addr×Value)}{kvs:List (PK×D)}(r:lC (P1 K H) xs kvs)(k:PK):(∃ q v d,atKey xs k=some q/\rC kvs k=some d/\RelV v q.2/\bX K H v d)\/(atKey xs k=none/\rC kvs k=none):=by
 induction r with
 | nil=>exact .inr ⟨rfl,rfl⟩
 | @cons x p xs kvs h1 _ ih =>
  obtain⟨e1,e2,v,e3,e4⟩:=h1;by_cases e:x.1=k
  ·left;refine⟨x.2,v,p.2,?_,?_,e3,e4⟩
   ·unfold atKey; rw [ck (by simpa using e)]; rfl
   ·unfold rC; rw [ck (by simpa using e1.symm.trans e)]; rfl
  ·have a1:atKey (x :: xs) k=atKey xs k:=by unfold atKey; rw [cm (by simpa using e)]
   have a2:rC (p :: kvs) k=rC kvs k:=by unfold rC; rw [cm (by simpa using fun z=>e (e1.trans z))]
   rw [a1,a2]; exact ih
theorem T6{xs:List (PK×Addr×Value)}{kvs:List (PK×D)}(r:lC (P1 K H) xs kvs)(k:PK):(kvs.any fun p=>decide (p.1=k))=(atKey xs k).isSome:=by
 induction r with
 | nil=>rfl
 | @cons x p xs kvs h1 _ ih =>
  rw [mE];by_cases e:x.1=k
  ·have a1:(atKey (x :: xs) k).isSome=true:=by unfold atKey; rw [ck (by simpa using e)]; rfl
   rw [a1]; simp [h1.1 ▸ e]
  ·have a1:atKey (x :: xs) k=atKey xs k:=by unfold atKey; rw [cm (by simpa using e)]
   have:¬ p.1=k:=fun z=>e (h1.1.trans z);rw [a1,<-ih]; simp [this]
theorem T5{xs:List (PK×Addr×Value)}{kvs:List (PK×D)}(r:lC (P1 K H) xs kvs){k:PK}{b:Addr}{v:V}{u:Value}{d:D}(rk:bX K H (.ref b) (rm k))(ru:RelV v u)(rd:bX K H v d):lC (P1 K H) (Je xs k b u) (NH kvs k d):=by
 unfold Je NH;rw [T6 r k];split
 ·rename_i hs;clear rk hs;induction r with
  | nil=>exact .nil
  | @cons x p xs kvs h1 _ ih =>
   rw [ak,ak];refine .cons ?_ ih;unfold putAt;obtain⟨e1,e2,e3⟩:=h1;by_cases e:x.1=k
   ·rw [if_pos e,if_pos (e1.symm.trans e)];exact⟨e1,e2,v,ru,rd⟩
   ·rw [if_neg e,if_neg (fun z=>e (e1.trans z))];exact⟨e1,e2,e3⟩
 ·exact SU r ⟨rfl,rk,v,ru,rd⟩
def Mc{xs:List (PK×Addr×Value)}{kvs:List (PK×D)}(r:lC (P1 K H) xs kvs):xs.length=kvs.length:=i9 r
def Fu{a:Addr}{xs:List (PK×Addr×Value)}{kvs:List (PK×D)}(e:H a=some (.ext (Li a xs)))(r:lC (P1 K H) xs kvs):Jb K H a (.rV kvs):=by
 obtain⟨vs,a1,a2,a3⟩:=WJ r;exact⟨xs,_,vs,e,a1,a2,a3⟩
theorem K4{G:Gp}{a:Addr}{kvs:List (PK×D)}(ab:kK K H G)(hg:G a=some (.rV kvs)):∃ xs,H a=some (.ext (Li a xs))/\lC (P1 K H) xs kvs:=by
 obtain⟨xs,ks,vs,e,a1,a2,a3⟩:=ab a _ hg;exact⟨xs,e,Ee a1 a2 a3⟩
theorem Kp.YN{p:Addr}{o:HO}{φ:Heap->Prop}(hp:H p=some (.ext φ)):Kp H (upd H p o) :=
 ⟨fun a ys e=>by rw [bG (by rintro rfl; rw [hp] at e; cases e)]; exact e,fun a ob u e=>by rw [bG (by rintro rfl; rw [hp] at e; cases e)]; exact e⟩
def ER{φ:Heap->Prop}{a:Addr}(ok:oE P w H h)(e:H a=some (.ext φ)):φ h:=(ok a _ e).1
end
section
variable {X:Cx} {elts:List Expr} {kk:Nat} {y0 apos mi pos:Pos} {o i k v:Expr} {to ti tk tv:gq}
theorem LL:U4 X "dict" tyP:=by
 intro pins s σ H G x d u I ab r rd h;cases rd with
 | ref l =>
  unfold tyP at h;dsimp only at h;split at h
  ·rename_i kvs hg;obtain⟨xs,e,_⟩:=K4 ab hg;obtain⟨_,_,o,es,ep,h1,h2,_⟩:=ER I.b7 e;cases r;exact⟨⟨o,h1,h2.1⟩,fun a z=>by cases z; exact⟨o,h1,h2.2.1⟩⟩
  ·exact h.elim
 | pj hq _ _ _ =>
  obtain⟨_,_,o,es,ep,h1,h2,_⟩:=(I.b7 _ _ hq).2.1;cases r;exact⟨⟨o,h1,h2.1⟩,fun a z=>by cases z; exact⟨o,h1,h2.2.1⟩⟩
 | _=>exact bI h
theorem MK{pins:List (Addr×Obj)}{s:ay}{σ:L2.St}{H:Hp}{G:Gp}{a:Addr}{kvs:List (PK×D)}{ys:List (PK×Addr×Value)}{pk:PK}{w w2:V}{u1 u2:Value}{d':D}{Q:DK}(hu:X.A.units+64 < cLine)(I:Inv X pins σ H s)(ab:kK X.K H G)(pd:Li a ys s.heap)(r:lC (P1 X.K H) ys kvs)(Gr:bX X.K H w (rm pk))(NB:RelV w u1)(P2:bX X.K H w2 d')(P7:RelV w2 u2)(q:Q ((rC kvs pk).getD d') G) :
  wpAny (model X.prog X.w) X.A (call (.builtin "dict.get") [.ref a,u1,u2]) (r8 X pins σ H G Q) X.xe s:=by
 have dd:=AH I.b7 pd r;obtain⟨b,rfl,rfl,hb⟩:=Ut I.b7 Gr NB;have hT:s.TypeIs (.ref a) "dict":=by obtain⟨o,es,ep,ho,hc,_⟩:=dd; exact⟨o,ho,hc.1⟩
 refine zW fT hT LA (Jp _ _ _) (meetsH_dict_get_default (N6 X.prog X.w) a b pd.2.1 u2) ⟨GX (by lia),pk,ys,hb,dd,?_⟩;rcases Qn r pk with ⟨q1,v1,d1,h1,h2,h3,h4⟩ | ⟨h1,h2⟩
 ·rw [h1];rw [h2] at q;exact⟨v1,H,d1,G,I.tok _,.refl ab,h3,h4,q⟩
 ·rw [h1];rw [h2] at q;exact⟨w2,H,d',G,I.tok _,.refl ab,P7,P2,q⟩
theorem Ha (hu:X.A.units+64 < cLine):Lp X "dict.get" Hk:=by
 intro pins s σ H G x d xs ds v us Q I ab rx rd Pa Eb q;unfold Hk at q;split at q
 ·rename_i a k d';obtain⟨kvs,pk,hg,rfl,q⟩:=q;cases rd;obtain⟨w,w2,rfl,Gr,P2⟩:=Eb.two;obtain⟨u1,u2,rfl,NB,P7⟩:=vals2 Pa;cases rx;obtain⟨ys,e,r⟩:=K4 ab hg;exact MK hu I ab (ER I.b7 e) r Gr NB P2 P7 q
 ·rename_i kvs k d';obtain⟨pk,rfl,q⟩:=q;obtain⟨w,w2,rfl,Gr,P2⟩:=Eb.two;obtain⟨u1,u2,rfl,NB,P7⟩:=vals2 Pa;cases rd with
  | pj hq rel rk rv =>
   cases rx;exact MK hu I ab (I.b7 _ _ hq).2.1 (Ee rel rk rv) Gr NB P2 P7 q
 ·exact q.elim
theorem UO{pins:List (Addr×Obj)}{s:ay}{σ:L2.St}{H:Hp}{G:Gp}{a:Addr}{kvs:List (PK×D)}{pk:PK}{y w:V}{u r:Value}{d:D}{Q:Unit->ay->Prop}(hu:X.A.units+64 < cLine)(I:Inv X pins σ H s)(ab:kK X.K H G)(hg:G a=some (.rV kvs))(hz:kvs.length < SZ)(ry:RelV y u)(dy:bX X.K H y (rm pk))(rv:RelV w r)(dv:bX X.K H w d)
  (h:∀ H' s',Inv X pins σ H' s'->Mv X.K H G H' (eL G a (.rV (NH kvs pk d)))->Q () s'):wpAny (model X.prog X.w) X.A (setItem (.ref a) u r) Q X.xe s:=by
 obtain⟨xs,e,rr⟩:=K4 ab hg;have pd:=ER I.b7 e;have dd:=AH I.b7 pd rr;obtain⟨b,rfl,rfl,hb⟩:=Ut I.b7 dy ry;have sz:a8=16777216:=cD;have hl:xs.length < a8:=by rw [Mc rr,sz]; exact hz
 refine wpAny_setItem_heap (hsz:=by lia) (GX (by lia)) hb dd fun h' Bt hs=>?_;have kp:Kp H (upd H a (.ext (Li a (Je xs pk b r)))):=.YN e;have pr:=GI kp (T5 rr dy rv dv);have he:∃ q,h'.get? a=some q:=let ⟨q,_,_,hq,_⟩:=Bt; ⟨q,hq⟩
 have zd:(Je xs pk b r).length<=a8:=by
  unfold Je;split
  ·rw [aq]; lia
  ·rw [aC]; show xs.length+1<=_; lia
 exact h _ _ (uw I (by rw [e]; exact gf) hs he (Ej zd pd.2.1 Bt)) (.put ab hg kp (Fu bU pr))
theorem GL(hu:X.A.units+64 < cLine)(ho:gG X o to)(hi:gG X i ti)
  (ha:autoParam (∀ v,Lv (.Subscript o i pos) X.env v=(do
   let ov ← DQ [v] (eval o X.env)
   let iv ← DQ [v,ov] (eval i X.env)
   standAt pos
   DQ [v,ov,iv] (setItem ov iv v)
   release [v,ov,iv] [])) Ai._auto_1):OO X (.Subscript o i pos) (HI to ti):=by
 intro E pins s σ H τ G w d u Q hE I r rd h;rw [ha];refine ag (cF (j8 ho hE I h fun x H1 dx G1 ov s1 I1 m1 r1 j5 q1=>?_));refine ag (cF (j8 hi hE I1 q1 fun y H2 dy G2 iv s2 nv m2 r2 y8 q2=>?_));refine ag (xr (ag (cF ?_)));have IW:=m1.trans m2;have NG:=rd.mono (IW.kp I.ab);have B5:=I.st.mono (IW.kp I.ab);have rx':=j5.mono (m2.kp I1.ab);unfold JQ at q2;split at q2
 ·rename_i l;cases rx';cases r1;obtain⟨kvs,pk,hg,rfl,hz,q⟩:=q2;exact UO hu nv.inv nv.ab hg hz r2 y8 r NG fun H4 s4 I4 m4=>wpAny_release ⟨σ,H4,τ,_,⟨I4,B5.mono (m4.kp nv.ab),m4.ab⟩,IW.trans m4,q⟩
 ·exact q2.elim
theorem Dx {P:bE} {w:World} {H:Hp} (h:Heap) (hb:dh < h.objs.size):fE P w H (h.push { cls:=.type "dict",data:=.dict #[] }) h.objs.size (.ext (Li h.objs.size [])) :=
 Ej (cw _) (beq_eq_false_iff_ne.mpr (e7 (bx hb))) ⟨_,#[],0,a9 _ rfl,⟨rfl,rfl,rfl⟩,rfl,rfl,(fun x hx=>absurd hx (by simp)),cj⟩
theorem Mh:gG X (.Dict [] [] pos) R5:=by
 intro E pins s σ H τ G Q hE I h;have hn:=I.inv.b7.fresh (aE s.heap.objs.size);have I1:=I.inv.laid (a:=s.heap.objs.size) (o:=.ext (Li s.heap.objs.size [])) (h':=s.heap.push { cls:=.type "dict",data:=.dict #[] }) (t':=s.toks) (fun _ _ q=>aF _ q) (aE _) (Dx s.heap I.inv.big);exact wpAny_Dict_empty ⟨.ref s.heap.objs.size,_,.ref _,_,I1,.new I.ab hn (Fu bU .nil),rfl,.ref _,h _ (I.ab.free hn)⟩
theorem Qv(hu:X.A.units+64 < cLine)(hk:gG X k tk)(hv:gG X v tv):gG X (.Dict [some k] [v] pos) (R4 tk tv):=by
 intro E pins s σ H τ G Q hE I h;have hn:=I.inv.b7.fresh (aE s.heap.objs.size);have I1:=I.inv.laid (a:=s.heap.objs.size) (o:=.ext (Li s.heap.objs.size [])) (h':=s.heap.push { cls:=.type "dict",data:=.dict #[] }) (t':=s.toks) (fun _ _ q=>aF _ q) (aE _) (Dx s.heap I.inv.big);have mh:Mv X.K H G (upd H s.heap.objs.size (.ext (Li s.heap.objs.size []))) G:=.MG I.ab hn;have I2:I2 X pins σ (upd H s.heap.objs.size (.ext (Li s.heap.objs.size []))) τ G { s with heap:=s.heap.push { cls:=.type "dict",data:=.dict #[] },toks:=s.toks }:=⟨I1,I.st.mono (.new hn),mh.ab⟩;refine wpAny_Dict_any (by rfl) (by rfl) (by simp) (show 1<=15 by decide) ?_;refine pairTrees_cons_walk (j8 hk hE I2 h fun x H1 dx G1 u s1 I3 m1 r1 j5 q1=>?_);refine j8 hv hE I3 q1 fun y H2 dy G2 w s2 I4 m2 r2 y8 q2=>?_;obtain⟨pk,rfl,q2⟩:=q2;refine pairTrees_nil_walk ?_;have g0:G s.heap.objs.size=none:=I.ab.free hn;obtain⟨p1,p2⟩:=m1.keep _ _ (bU (H:=H) (a:=s.heap.objs.size) (o:=.ext (Li s.heap.objs.size []))) g0;obtain⟨p3,p4⟩:=m2.keep _ _ p1 p2;have YI:=j5.mono (m2.kp I3.ab);have pd:=ER I4.inv.b7 p3;have dd:=AH (K:=X.K) (kvs:=[]) I4.inv.b7 pd .nil;obtain⟨b,rfl,rfl,hb⟩:=Ut I4.inv.b7 YI r1;unfold storeAll;rw [List.forIn_cons];refine ag (ag (wpAny_dictSet_heap (hsz:=cw _) (NT (by lia)) hb dd fun h' Bt hs=>aA ?_));show wpAny _ _ (forIn [] PUnit.unit _) _ _ _;rw [List.forIn_nil];refine aA ?_;have he:∃ q,h'.get? s.heap.objs.size=some q:=let ⟨q,_,_,hq,_⟩:=Bt; ⟨q,hq⟩
 have es:Je [] pk b w=[(pk,b,w)]:=rfl;rw [es] at Bt;have kp:Kp H2 (upd H2 s.heap.objs.size (.ext (Li s.heap.objs.size [(pk,b,w)]))):=.YN p3;have I5:=uw (t':=s2.toks+(N6 X.prog X.w).draws pk) I4.inv (by rw [p3]; exact gf) hs he (Ej (by exact(show 1<=a8 by decide)) pd.2.1 Bt);have IW:=(mh.trans m1).trans m2;refine⟨.ref s.heap.objs.size,_,.ref s.heap.objs.size,_,I5,?_,rfl,.ref _,q2 _ p4⟩;refine⟨fun a o e n=>?_,fun a n=>?_,fun a g e=>?_⟩
 ·have ne:a≠s.heap.objs.size:=ez e hn;obtain⟨k1,k2⟩:=IW.keep a o e n;exact⟨by rw [bG ne]; exact k1,by rw [cE ne]; exact k2⟩
 ·by_cases ha:a=s.heap.objs.size
  ·rw [ha,bU]; simp
  ·rw [bG ha]; exact IW.jF a n
 ·by_cases ha:a=s.heap.objs.size
  ·subst ha;rw [az] at e; cases e;exact Fu bU (GI kp (.cons ⟨rfl,YI,y,r2,y8⟩ .nil))
  ·rw [cE ha] at e;exact(IW.ab a g e).mono kp (bG ha)
theorem AG (ho:gG X o to) (wM:autoParam (FU o "items" X.env (eval o X.env)=eval o X.env) Ar._auto_1) (Bb:autoParam ((apos.endLine == mi.line)=true) Ar._auto_1) :
  ON X (.Tuple elts kk y0) (.Call (.Attribute o "items" apos) [] [] mi) (wG to):=by
 intro E pins s σ H τ G R hE I h;refine xu wM Bb (j8 ho hE I h fun x H1 d G1 v s1 I1 m1 r1 j5 q1=>?_);cases d with
 | pj kvs =>
  have q1:R (kvs.map fun p=>.tup [rm p.1,p.2]) (fun _=>True) G1:=q1;cases j5 with
  | pj hq rel rk rv =>
  rename_i a ob xs ks vs;have pr:=Ee rel rk rv;obtain⟨z,ns,o',es,ep,FI,ex,dd,hl,nd⟩:=(I1.inv.b7 a _ hq).2.1;have eo:o'=ob:=by have:=(I1.inv.b7 a _ hq).1; rw [FI] at this; exact aZ this
  subst eo;have t1:s1.TypeIs (.ref a) "dict":=⟨_,FI,ex.1⟩;have t2:∀ b,fe a=.ref b->∃ ob,s1.heap.get? b=some ob/\ob.dict=none:=fun b z=>by cases z; exact⟨_,FI,ex.2.1⟩
  have l1:=congrArg dI hl;rw [aq,fK] at l1;have l2:=Mc pr;have l3:vs.length=xs.length:=by have:=rel.2.2.length; simpa using this
  have ps:∀ i (h:i < es.size),∃ p,((xs.zip vs).map fun z=>(V.ref z.1.2.1,z.2))[i]?=some p/\RelV p.1 es[i].key/\RelV p.2 es[i].val:=fun i hi=>by
   have i2:i < xs.length:=by lia
   have i3:i < vs.length:=by lia
   have ee:es[i]=⟨hP xs[i].1,.ref xs[i].2.1,xs[i].2.2⟩:=by
    have:=congrArg (fun l=>l[i]?) hl;simp only [bu,ax i2] at this;simpa [hi] using this
   refine⟨(V.ref xs[i].2.1,vs[i]),by rw [bu,ax (by rw [mz]; lia),u4]; rfl,?_⟩;rw [ee];refine⟨rfl,?_⟩;obtain⟨u,hu1,hu2⟩:=rel.2.2.get (ax i3);rw [bu,ax i2] at hu1;cases hu1;exact hu2
  have WB:∀ (i:Nat) (q:PK×D),kvs[i]?=some q->∃ p,((xs.zip vs).map fun z=>(V.ref z.1.2.1,z.2))[i]?=some p/\bX X.K H1 p.1 (rm q.1)/\bX X.K H1 p.2 q.2:=fun i q e=>by
   have i1:i < kvs.length:=(List.getElem?_eq_some_iff.mp e).1;have i2:i < xs.length:=by lia
   have i3:i < vs.length:=by lia
   refine⟨(V.ref xs[i].2.1,vs[i]),by rw [bu,ax (by rw [mz]; lia),u4]; rfl,?_,?_⟩
   ·obtain⟨w,hw,rQ⟩:=rk.get (i:=i) (d:=rm q.1) (by rw [bu,e]; rfl);rw [rel.2.1,bu,ax i2] at hw;cases hw;exact rQ
   ·obtain⟨w,hw,rQ⟩:=rv.get (i:=i) (d:=q.2) (by rw [bu,e]; rfl);rw [ax i3] at hw;cases hw;exact rQ
  have hlen:kvs.length=es.size:=by lia
  cases r1;refine⟨"dict","dict.items",cH,gu,sr,t1,t2,mQ rfl (yX ?_)⟩;refine zW gu t1 rN (qe _) (wj a ns) ⟨t1,?_⟩;have I2:Inv X pins σ H1 { s1 with heap:=s1.heap.push { cls:=.type "dict_items",data:=.fields #[.ref a] } }:=I1.inv.kept (t':=s1.toks) fun b o e=>aF _ e;refine yN (s:={ s1 with heap:=s1.heap.push { cls:=.type "dict_items",data:=.fields #[.ref a] } }) ⟨_,a9 _ rfl,rfl,rfl⟩ (aF _ (I1.inv.b7 a _ hq).1) dd ?_;refine⟨_,[_],_,_,H1,G1,kvs.map (fun p=>.tup [rm p.1,p.2]),_,rfl,I2.kept (t':=s1.toks) fun b o e=>aF _ e,m1,yy a _ _ es ep _ dd ps,⟨.none,.none,a9 _ rfl⟩,fun b hb=>?_,fun i H2 G2 k ab _=>?_,q1⟩
  ·have e:=List.mem_singleton.mp hb;subst e;exact I2.Cf (aE _) (I2.b7.fresh (aE _))
  ·have zd:=k.iN _ _ _ hq;refine⟨fun d hd=>?_,fun hle=>⟨⟨_,zd⟩,by rw [<-hlen]; simpa using hle⟩⟩;rw [bu] at hd;cases IZ:kvs[i]? with
   | none=>rw [IZ] at hd; cases hd
   | some q =>
    rw [IZ] at hd;obtain⟨p,hp,rk,rp⟩:=WB i q IZ;have hi:i < es.size:=by rw [<-hlen]; exact(List.getElem?_eq_some_iff.mp IZ).1
    refine⟨⟨⟨_,zd⟩,hi⟩,?_⟩;rintro x H3 ⟨T,p',ex,hT,e3,hy⟩;subst ex e3;rw [hp] at hy;cases hy;have ed:D.tup [rm q.1,q.2]=d:=by simpa using hd
    subst ed;exact⟨.tup bU (.cons ((rk.mono k).mono (.new hT)) (.cons ((rp.mono k).mono (.new hT)) .nil)),.MG ab hT⟩
 | _=>exact q1.elim
theorem mV.drop{K:aj}{H:Hp}{kv:List (List Key×V)}{kvs:List (D×D)}(r:mV K H kv kvs)(k:List Key):mV K H (kv.filter fun p=>decide (p.1≠k)) (kvs.filter fun p=>!iM p.1 (.tup (k.map eV))):=by
 induction r using mV.ind with
 | nil=>exact .nil
 | @cons j v d r t rd rs ih =>
  rw [bW,bW];simp only [tF];by_cases e:j=k
  ·simp only [e,ne_eq,not_true_eq_false,decide_false,decide_true,bK,au,if_false]; exact ih
  ·simp only [e,ne_eq,not_false_eq_true,decide_true,decide_false,eW,if_true]; exact .cons rd ih
theorem KT.drop{H:Hp}{kvs:List (List Key×V)}{xs:List (List Key×Addr×Value)}(r:KT H kvs xs)(k:List Key):KT H (kvs.filter fun p=>decide (p.1≠k)) (We xs k):=by
 unfold We;induction r with
 | nil=>exact .nil
 | @cons p q ps qs h1 _ ih =>
  rw [bW,bW];by_cases e:p.1=k
  ·have e2:q.1=k:=h1.1.symm.trans e;simp only [e,e2,ne_eq,not_true_eq_false,decide_false,au,if_false]; exact ih
  ·have e2:¬ q.1=k:=fun z=>e (h1.1.trans z);simp only [e,e2,ne_eq,not_false_eq_true,decide_true,if_true]; exact .cons h1 ih
theorem GZ (hu:X.A.units+64 < cLine):Lp X "dict.pop" Hi:=by
 intro pins s σ H G x d xs ds v us Q I ab rx rd Pa Eb q;unfold Hi at q;split at q
 ·rename_i a k;obtain⟨kvs,d',hg,⟨hk,ha,hl⟩,q⟩:=q;cases rd;obtain⟨w,rfl,Gr⟩:=Eb.one;obtain⟨u1,rfl,NB⟩:=vals1 Pa;cases rx;obtain⟨H',I',m,h⟩:=E3 I ab hg (by unfold ig; rw [iU]; right; rw [hk,ha]; rfl) Gr;rcases h with ⟨kv,kk,hv,rs,rfl,rfl⟩ | ⟨kv,kk,b,hv,rs,rfl,rfl,hb⟩
  ·cases kk <;> simp [eV,lJ] at hk
  ·cases NB;obtain⟨z,hd,ys,rel,dd⟩:=RW I'.b7 hv;rcases rs.look kk with ⟨v',d2,e1,e2,rr⟩ | ⟨e1,e2⟩
   ·rw [e2] at hl;cases hl;obtain⟨w',hw,rQ⟩:=yq.some_of (v:=v') (o:=(atKey ys kk).map (·.2)) (by rw [<-e1]; exact rel.val kk);obtain⟨p,hp,pz⟩:=Option.map_eq_some_iff.mp hw;refine Qo (knd:=jg (cJ X.prog X.w)) (nM (by lia)) (xZ I'.b7 hb) dd hp (by rw [<-i9 rel]; exact z) fun h' Bt hs=>?_;rw [pz];have kp:Kp H' (upd H' a (.dT (kv.filter fun p=>decide (p.1≠kk)))):=.putD hv (.inr ⟨_,rfl⟩);obtain⟨q',es,ep,hq,h2,h3,h4,_,h5⟩:=Bt;have I5:=uw (t':=s.toks+(jg (cJ X.prog X.w)).draws kk) I' (by rw [hv]; exact gf) hs ⟨q',hq⟩ (ob:=.dT (kv.filter fun p=>decide (p.1≠kk))) ⟨bc (dn _ _) z,hd,_,(KT.drop rel kk).keeps fun c ys ec=>by rw [bG (Vy ec hv (fun z=>nomatch z))]; exact ec,q',es,ep,hq,h2,h3,h4,h5⟩;exact⟨v',_,d',_,I5,m.trans (.put m.ab hg kp (.dt bU ((rs.drop kk).mono kp))),rQ,rr.mono kp,q⟩
   ·rw [e2] at hl; cases hl
 ·exact q.elim
end
end K2
end
section
namespace K2
open PySem PySem.W PySem.Spec PyProof.Rows PySem.Calls
theorem N1{p q:bE}{loose:List Str}{Xt:ay->Bool}{α:Type}{Yf:ay->α}{Ya:World->α}{N:Nat}(e:opening p=plainProg p.main.scope.names)(hN:Nat.ble 600 N=true)(f:∀ s,fenceModules? p s=some s)
  (h:∀ (w:World) (os:OsState),(topFrom treeTable p w N ⟨Py w.params,Nj [],Jl,Px,os⟩).map (fun s=>(openSeen q loose (zU p.main.body) Xt true s,Yf s))=some (openGood q loose,Ya w)):LeftO p q loose Xt Yf Ya N:=fun w=>by
 obtain⟨⟨h',gs,d,k,os⟩,e1,e2⟩:=Option.map_eq_some_iff.mp (boot_open e hN f w);obtain⟨rfl,rfl,rfl,rfl⟩:h'=Py w.params/\gs=Nj []/\d=Jl/\k=Px:=by simpa using e2
 unfold openEnds;rw [e1];exact h w os
abbrev LN(l:OpenLaw)(q:bE):Bool:=chainsOk q&&opensWell l.row.prog&&(frees l.row.toRowW&&l.row.within.isEmpty)
theorem Oo{l:OpenLaw}{q:bE}{loose:List Str}{K:Params->Frag}{as:List Addr}{d:DefRec}{N:Nat}(ok:l.wellSaid=true)(e:opening l.row.prog=plainProg l.row.prog.main.scope.names)(hN:Nat.ble 600 N=true)(f:∀ s,fenceModules? l.row.prog s=some s)(hK:∀ P,as=(K P).map (·.1))
  (h:∀ (w:World) (os:OsState),(topFrom treeTable l.row.prog w N ⟨Py w.params,Nj [],Jl,Px,os⟩).map (fun s=>(openSeen q loose (zU l.row.prog.main.body) (Wd l q) true s,as.map s.heap.get?))=some (openGood q loose,(K w.params).map fun p=>some p.2))
  (hd:defOf q l.row.name=some (d,[])) (hp:l.row.prog.theDef l.row.name=some (d.params,d.body,d.scope)) (hk:kwWritten? d.params.kwonlyargs d.params.kw_defaults=some []) (hr:(!l.row.writes||l.row.records.isEmpty)=true) (ht:LN l q=true) (hb:l.row.prog.bare) (hw:l.row.toRowW.promised)
  (c:WalkO q loose (XL q []) (InK K) l.row.toRowW d [] fun f vs=>Lx f vs):l.Holds :=
 holds_law ok fun k1=>holds_open (N1 (Yf:=Hook.obs (kHook K as hK)) (Ya:=Hook.val (kHook K as hK)) e hN f h) (Hook.of (kHook K as hK)) (Hook.keeps (kHook K as hK)) (fun s x=>xl_of s (Bool.and_eq_true_iff.mp x).1) XL.keeps hd hp hk (fun s x=>recFacts_of (Bool.and_eq_true_iff.mp x).2) hr k1 ht hb hw c
structure At(K:Frag)(x:Str)(st:Stmt)(f:Addr)(fd:fH):Prop where
 a:nsIn K bz x=some (some (.ref f))
 F:L2.Tg K x x st f fd
theorem V3{K:Frag}{x:Str}{st:Stmt}{f:Addr}{oc:Value}{od an:Option Addr}{Mj:Array (Option Value)}{kV doc pm lx ct:Value}(a:autoParam (nsIn K bz x=some (some (.ref f))) Aq._auto_1)(l:autoParam (K.lookup f=some ⟨oc,od,.func (fnOf x x (L2.k9 st) (L2.gV st) (L2.bO st) .none kV doc pm an lx ct),Mj⟩) Aq._auto_1)
  (c:autoParam (codeIn K lx x=true) Aq._auto_1) (k:autoParam (keepIn K (.ref f)=true) Aq._auto_1):At K x st f (fnOf x x (L2.k9 st) (L2.gV st) (L2.bO st) .none kV doc pm an lx ct):=⟨a,L2.XC l c k⟩
structure Cal(P:bE)(w:World)(K:Frag)(mg:Str->Option Value)(base:Heap)(CX:L2.Na)(k:Nat)(f:Addr)(fd:fH)(x:Str)(ps:List Str)(sp:L2.Sp):Prop where
 ok:L2.tT P w K mg base CX k f fd ps sp
 mg:mg x=some (.ref f)
 kp:keepIn K (.ref f)=true
 bi:L2.Binds K fd ps []
end K2
end
section
namespace K2
open PySem PySem.W PySem.Spec PyProof.Rows L2
structure Th where
 P:bE
 w:World
 K:Frag
 mg:Str->Option Value
 base:Heap
inductive Vc (V:Th):Prop
 | mk {h:Heap}:V.K.In h->h.Ns bz V.mg->Vc V
def Vc.mg{V:Th}{x:Str}{v:Value}(Y:Vc V)(a:nsIn V.K bz x=some (some v)):V.mg x=some v:=by obtain⟨X,G⟩:=Y; exact mg_of X G a
def Vc.no{V:Th}{x:Str}(Y:Vc V)(a:nsIn V.K bz x=some none):V.mg x=none:=by obtain⟨X,G⟩:=Y; exact mg_none_of X G a
inductive ClZ (V:Th) (CX:Na) (k:Nat) (x:Str) (ps:List Str) (sp:Sp):Prop
 | mk {f:Addr} {fd:fH}:Cal V.P V.w V.K V.mg V.base CX k f fd x ps sp->ClZ V CX k x ps sp
def ClZ.el{V:Th}{CX:Na}{k:Nat}{x:Str}{ps:List Str}{sp:Sp}{p:Prop}(z:ClZ V CX k x ps sp)(h:∀ f fd,Cal V.P V.w V.K V.mg V.base CX k f fd x ps sp->p):p:=by obtain⟨c⟩:=z; exact h _ _ c
abbrev gJ(V:Th)(k:Nat)(x:Str)(ps:List Str)(sp:jM):Prop:=ClZ V Ls k x ps (B6 V.K sp)
abbrev CEZ(V:Th)(k:Nat)(x:Str)(ps:List Str)(sp:jM):Prop:=ClZ V (SO V.P V.w) k x ps (CH V.K V.mg sp)
inductive gZ (K:Frag) (x:Str) (st:Stmt):Prop
 | mk {f:Addr} {fd:fH}:At K x st f fd->gZ K x st
theorem fb{K:Frag}{x:Str}{st:Stmt}{f:Addr}{oc:Value}{od an:Option Addr}{Mj:Array (Option Value)}{kV doc pm lx ct:Value}(a:autoParam (nsIn K bz x=some (some (.ref f))) Aq._auto_1)(l:autoParam (K.lookup f=some ⟨oc,od,.func (fnOf x x (L2.k9 st) (L2.gV st) (L2.bO st) .none kV doc pm an lx ct),Mj⟩) Aq._auto_1)
  (c:autoParam (codeIn K lx x=true) Aq._auto_1) (k:autoParam (keepIn K (.ref f)=true) Aq._auto_1):gZ K x st:=⟨V3 a l c k⟩
theorem qa{V:Th}{x:Str}{st:Stmt}{ps:List Str}{k:Nat}{sp:jM}{rd:gN}(Nn:List Str)(Y:Vc V)(F:gZ V.K x st)
  (hr:∀ ds G Q,sp ds G Q (fun _ _=>False)->rd (fun _ _=>False) (ends Q) (aY Nn.length ds) G)
  (hb:∀ {f:Addr} {lx:Value} {A:cO} {outer:List Env} {s:ay} {H:Hp} {E:XK},kM k (A.deeper (yu x (bO st) s.heap.objs.size f lx))->Nn.Nodup->uM (w4 Ls V.P V.w V.K V.mg V.base Nn x (bO st) f lx A outer s H E).W4 (gV st) rd)
  (S:autoParam (lV Nn ps (bO st)) Aua._auto_1)
  (bn:autoParam (∀ (kV doc pm:Value) (an:Option Addr) (lx ct:Value) (us:List Value),us.length=ps.length->bindArgs (fnOf x x (k9 st) (gV st) (bO st) .none kV doc pm an lx ct) ⟨us,[]⟩=pure (ps.zip us)) Aub._auto_1)
  (len:autoParam (∀ ds G Q E,sp ds G Q E->ds.length=ps.length) Al._auto_1):gJ V (k+1) x ps sp:=by
 obtain⟨z⟩:=F;exact⟨⟨MM z.F S len hr fun _ _ _ _ _ _ r=>hb r S.nd,Y.mg z.a,z.F.kp,z.F.binds bn⟩⟩
theorem foE{V:Th}{x:Str}{st:Stmt}{ps:List Str}{k:Nat}{sp:jM}{rd:gN}(Nn:List Str)(Y:Vc V)(F:gZ V.K x st)
  (hr:∀ ds G Q E,sp ds G Q E->rd E (ends Q) (aY Nn.length ds) G)
  (hb:∀ {f:Addr} {lx:Value} {A:cO} {outer:List Env} {s:ay} {H:Hp} {E:XK},kM k (A.deeper (yu x (bO st) s.heap.objs.size f lx))->Nn.Nodup->uM (w4 (SO V.P V.w) V.P V.w V.K V.mg V.base Nn x (bO st) f lx A outer s H E) (gV st) rd)
  (S:autoParam (lV Nn ps (bO st)) Aua._auto_1)
  (bn:autoParam (∀ (kV doc pm:Value) (an:Option Addr) (lx ct:Value) (us:List Value),us.length=ps.length->bindArgs (fnOf x x (k9 st) (gV st) (bO st) .none kV doc pm an lx ct) ⟨us,[]⟩=pure (ps.zip us)) Aub._auto_1)
  (len:autoParam (∀ ds G Q E,sp ds G Q E->ds.length=ps.length) Al._auto_1):CEZ V (k+1) x ps sp:=by
 obtain⟨z⟩:=F;exact⟨⟨UI z.F S len hr fun _ _ _ _ _ _ r=>hb r S.nd,Y.mg z.a,z.F.kp,z.F.binds bn⟩⟩
structure V4(K:Frag)(x:Str)(C:Addr):Prop where
 ns:nsIn K bz x=some (some (.ref C))
 ex:excIn K C [.type "ValueError",.type "Exception",.type "BaseException",.type "object"] "ValueError.__new__" = true
 xi:SJ K C
theorem Jx {K:Frag} {x:Str} {C:Addr} (ns:autoParam (nsIn K bz x=some (some (.ref C))) Aq._auto_1) (ex:autoParam (excIn K C [.type "ValueError",.type "Exception",.type "BaseException",.type "object"] "ValueError.__new__" = true) Ax._auto_1)
  (x0:autoParam (Pt K (.ref C) "__getattribute__" = some (some (.builtin "BaseException.__getattribute__"))) Af._auto_1) (x1:autoParam (Pt K (.ref C) "__getattr__" = some none) Af._auto_1) (x2:autoParam (Pt K (.ref C) "__class__" = some (some (.builtin "object.__class__"))) Af._auto_1)
  (x3:autoParam (specialIn K (.builtin "object.__class__") "__get__" = some (some (.builtin "getset_descriptor.__get__"))) Af._auto_1) (x4:autoParam (takesIn K (.builtin "object.__class__")=some true) Af._auto_1) (x5:autoParam (mroIn K C (.type "object")=some true) Af._auto_1) (x6:autoParam (mroIn K C (.type "BaseException")=some true) Af._auto_1) (x7:autoParam ((clsIn K C).isSome=true) Af._auto_1):V4 K x C:=⟨ns,ex,⟨x0,x1,x2,x3,x4,x5,x6,x7⟩⟩
theorem YE{K:Frag}{C:Addr}{D oc:Value}{od:Option Addr}{cd:ClassData}{sl:Array (Option Value)}(l:autoParam (K.lookup C=some ⟨oc,od,.cls cd,sl⟩) Aq._auto_1)(m:autoParam (cd.mro.contains D=true) Ae._auto_1):subIn K C D=true:=by unfold subIn; rw [l]; exact m
abbrev Kt(K:Frag)(C D:Addr)(b:Bool):Prop:=kitOne K (.ref C) (.ref D)=some b
abbrev Kn0 (K:Frag) (C:Addr):Prop:=kitOne K (.type "NoneType") (.ref C)=some false
abbrev pe(K:Frag)(x:Str):Prop:=nsIn K bz x=some none
section
variable {X:Cx} {a b c:Expr} {ta tb tc:gq}
def jS(h:gG X a ta)(h1:autoParam (bw [a] X.env=(false,eval a X.env) :: bw [] X.env) Ar._auto_1):B3 X [a] (av ta aO):=jw h hW h1
theorem lu(h:gG X a ta)(k:gG X b tb)(h1:autoParam (bw [a,b] X.env=(false,eval a X.env) :: bw [b] X.env) Ar._auto_1)(k1:autoParam (bw [b] X.env=(false,eval b X.env) :: bw [] X.env) Ar._auto_1):B3 X [a,b] (av ta (av tb aO)):=jw h (jw k hW k1) h1
theorem Ca(h:gG X a ta)(k:gG X b tb)(l:gG X c tc)(h1:autoParam (bw [a,b,c] X.env=(false,eval a X.env) :: bw [b,c] X.env) Ar._auto_1)(k1:autoParam (bw [b,c] X.env=(false,eval b X.env) :: bw [c] X.env) Ar._auto_1)(l1:autoParam (bw [c] X.env=(false,eval c X.env) :: bw [] X.env) Ar._auto_1):B3 X [a,b,c] (av ta (av tb (av tc aO))):=jw h (jw k (jw l hW l1) k1) h1
end
section
variable {X:Cx} {e:Expr} {es:List Expr} {t:BF} {pos p:Pos} {x:Str} {k n:Nat} {ps:List Str} {sp:jM} {b:Heap}
theorem jR (c:gJ ⟨X.prog,X.w,X.K,X.mg,X.base⟩ k x ps sp) (hr:kM n X.A) (ha:B3 X (e :: es) t) (hk:autoParam (k<=n) Ad._auto_1) (hg:autoParam (Gl X x) Ar._auto_1) (ze:autoParam ((x == ("__debug__" : Str))=false) Ad._auto_1) (he:autoParam (bw (e :: es) X.env=(false,eval e X.env) :: bw es X.env) Ar._auto_1) (yO:autoParam ((lX pos (bw es X.env)).any (·.1)=false) Ar._auto_1) :
  gG X (.Call (.Name x p) (e :: es) [] pos) (br sp t):=by
 obtain⟨c⟩:=c;exact Qx c.ok (hr.mono hk) hg c.mg c.kp c.bi ha ze he yO
end
end K2
end
section
set_option maxHeartbeats 1000000
namespace K2
namespace J
section
variable {α:Type} [DecidableEq α]
def Iv(f:α->α):Prop:=∀ e,f (f e)=e
def jn(f:α->α)(x y:α):α->α:=fun e=>if e=x\/e=y then e else if e=f x then f y else if e=f y then f x else f e
def cl(f:α->α)(x y:α):Nat:=if f x=y then 1 else 0
def Zi{f:α->α}(h:Iv f){x y:α}(hx:f x≠x)(hy:f y≠y)(Yd:x≠y):Iv (jn f x y):=by
 intro e;have h1:=h x;have h2:=h y;have h3:=h e;unfold jn
 grind (splits:=40)
def Rc{f:α->α}(h:Iv f){x y e:α}(Yd:x≠y)(he:jn f x y e=e):e=x\/e=y\/f e=e:=by
 have h1:=h x;have h2:=h y;unfold jn at he
 grind (splits:=40)
def abH{f:α->α}{x y:α}:jn f x y x=x:=by unfold jn; grind
def abG{f:α->α}{x y:α}:jn f x y y=y:=by unfold jn; grind
theorem UA{f:α->α}(h:Iv f){x y z w:α}(hx:f x≠x)(hy:f y≠y)(hz:f z≠z)(hw:f w≠w)(xy:x≠y)(xz:x≠z)(xw:x≠w)(yz:y≠z)(yw:y≠w)(zw:z≠w):jn (jn f x y) z w=jn (jn f z w) x y:=by
 funext e;have h1:=h x;have h2:=h y;have h3:=h z;have h4:=h w;have h5:=h e;unfold jn
 grind (splits:=40)
theorem UU{f:α->α}(h:Iv f){x y z w:α}(hx:f x≠x)(hy:f y≠y)(hz:f z≠z)(hw:f w≠w)(xy:x≠y)(xz:x≠z)(xw:x≠w)(yz:y≠z)(yw:y≠w)(zw:z≠w):cl f x y+cl (jn f x y) z w=cl f z w+cl (jn f z w) x y:=by
 have h1:=h x;have h2:=h y;have h3:=h z;have h4:=h w;unfold cl jn
 grind (splits:=40)
end
end J
end K2
end
section
set_option maxHeartbeats 1000000
namespace K2
namespace J
section
variable {α:Type} [DecidableEq α]
abbrev Pr(α:Type):=List (α×α)
def jK(f:α->α):Pr α->α->α
 | []=>f
 | p :: ps=>jK (jn f p.1 p.2) ps
def cls(f:α->α):Pr α->Nat
 | []=>0
 | p :: ps=>cl f p.1 p.2+cls (jn f p.1 p.2) ps
def es:Pr α->List α
 | []=>[]
 | p :: ps=>p.1 :: p.2 :: es ps
structure Ok(f:α->α)(ps:Pr α):Prop where
 iv:Iv f
 nd:(es ps).Nodup
 dm:∀ e∈es ps,f e≠e
theorem wU{ps qs:Pr α}(h:ps.Perm qs):(es ps).Perm (es qs):=by
 induction h with
 | nil=>exact .nil
 | cons x _ ih=>exact(ih.cons _).cons _
 | swap x y l =>
  show (y.1 :: y.2 :: x.1 :: x.2 :: es l).Perm (x.1 :: x.2 :: y.1 :: y.2 :: es l);have:∀ (a b c d:α) (l:List α),(a :: b :: c :: d :: l).Perm (c :: d :: a :: b :: l):=fun a b c d l=>by
   refine((vG c b _).cons a).trans ?_;refine(vG c a _).trans ?_;refine DV c ?_;refine((vG d b _).cons a).trans ?_;exact vG d a _
  exact this _ _ _ _ _
 | trans _ _ a b=>exact a.trans b
def ur(ps qs:Pr α):es (ps++qs)=es ps++es qs:=by
 induction ps with
 | nil=>rfl
 | cons p ps ih=>rw [aB,es,es,ih]; rfl
def KZ(ps:Pr α):(es ps).length=2 * ps.length:=by
 induction ps with
 | nil=>rfl
 | cons p ps ih=>rw [es,ah,ah,ih,ah]; lia
theorem qG{ps:Pr α}{e:α}:e∈es ps↔∃ p∈ps,e=p.1\/e=p.2:=by
 induction ps with
 | nil=>simp [es]
 | cons p ps ih =>
  rw [es,bJ,bJ,ih];constructor
  ·rintro(h | h | ⟨q,h,z⟩)
   ·exact⟨p,by simp,.inl h⟩
   ·exact⟨p,by simp,.inr h⟩
   ·exact⟨q,aG _ h,z⟩
  ·rintro⟨q,h,z⟩;rcases List.mem_cons.mp h with rfl | h
   ·rcases z with z | z
    ·exact .inl z
    ·exact .inr (.inl z)
   ·exact .inr (.inr ⟨q,h,z⟩)
def Ok.perm{f:α->α}{ps qs:Pr α}(h:ps.Perm qs)(o:Ok f ps):Ok f qs :=
 ⟨o.iv,(wU h).nodup_iff.mp o.nd,fun e he=>o.dm e ((wU h).mem_iff.mpr he)⟩
theorem Ok.hd{f:α->α}{p:α×α}{ps:Pr α}(o:Ok f (p :: ps)):p.1≠p.2/\f p.1≠p.1/\f p.2≠p.2:=by
 have n:=o.nd;rw [es,aS] at n;exact⟨fun z=>n.1 (by rw [z]; exact bH),o.dm _ (by simp [es]),o.dm _ (by simp [es])⟩
theorem Ok.tl{f:α->α}{p:α×α}{ps:Pr α}(o:Ok f (p :: ps)):Ok (jn f p.1 p.2) ps:=by
 obtain⟨h1,h2,h3⟩:=o.hd;have n:=o.nd;rw [es,aS,aS] at n;refine⟨Zi o.iv h2 h3 h1,n.2.2,fun e he z=>?_⟩;rcases Rc o.iv h1 z with z | z | z
 ·exact n.1 (by rw [<-z]; exact aG _ he)
 ·exact n.2.1 (by rw [<-z]; exact he)
 ·exact o.dm e (by simp [es,he]) z
def Ok.left{f:α->α}{ps qs:Pr α}(o:Ok f (ps++qs)):Ok (jK f ps) qs:=by
 induction ps generalizing f with
 | nil=>exact o
 | cons p ps ih=>exact ih o.tl
def Ok.pre{f:α->α}{ps qs:Pr α}(o:Ok f (ps++qs)):Ok f ps :=
 ⟨o.iv,by have:=o.nd; rw [ur] at this; exact(List.nodup_append.mp this).1,fun e he=>o.dm e (by rw [ur]; exact oX _ he)⟩
def vg(f:α->α)(ps qs:Pr α):jK f (ps++qs)=jK (jK f ps) qs:=by
 induction ps generalizing f with
 | nil=>rfl
 | cons p ps ih=>exact ih _
def vn(f:α->α)(ps qs:Pr α):cls f (ps++qs)=cls f ps+cls (jK f ps) qs:=by
 induction ps generalizing f with
 | nil=>simp [cls,jK]
 | cons p ps ih=>rw [aB,cls,cls,ih,jK,pB]
theorem Ra{f:α->α}{ps qs:Pr α}(h:ps.Perm qs)(o:Ok f ps):jK f ps=jK f qs/\cls f ps=cls f qs:=by
 induction h generalizing f with
 | nil=>exact⟨rfl,rfl⟩
 | cons x _ ih =>
  obtain⟨a,b⟩:=ih o.tl;exact⟨a,by rw [cls,cls,b]⟩
 | swap x y l =>
  have n:=o.nd;simp only [es,aS,bJ,not_or] at n;have d:∀ e,e=y.1\/e=y.2\/e=x.1\/e=x.2->f e≠e:=fun e he=>o.dm e (by
   simp only [es,bJ];rcases he with h | h | h | h <;> simp [h])
  have a:=UA o.iv (d y.1 (by simp)) (d y.2 (by simp)) (d x.1 (by simp)) (d x.2 (by simp)) n.1.1 n.1.2.1 n.1.2.2.1 n.2.1.1 n.2.1.2.1 n.2.2.1.1;have b:=UU o.iv (d y.1 (by simp)) (d y.2 (by simp)) (d x.1 (by simp)) (d x.2 (by simp)) n.1.1 n.1.2.1 n.1.2.2.1 n.2.1.1 n.2.1.2.1 n.2.2.1.1;refine⟨?_,?_⟩
  ·show jK (jn (jn f y.1 y.2) x.1 x.2) l=jK (jn (jn f x.1 x.2) y.1 y.2) l;rw [a]
  ·show cl f y.1 y.2+(cl (jn f y.1 y.2) x.1 x.2+cls (jn (jn f y.1 y.2) x.1 x.2) l)=cl f x.1 x.2+(cl (jn f x.1 x.2) y.1 y.2+cls (jn (jn f x.1 x.2) y.1 y.2) l);rw [a]; lia
 | trans h1 h2 i1 i2 =>
  obtain⟨a,b⟩:=i1 o;obtain⟨c,d⟩:=i2 (o.perm h1);exact⟨a.trans c,b.trans d⟩
end
end J
end K2
end
section
set_option maxHeartbeats 1000000
namespace K2
namespace J
abbrev Fn:=Int->Int
def lp(g:Fn):Fn:=fun i=>-(g (i+2)) - g (i - 2)
def sh(b:Int)(g:Fn):Fn:=fun i=>g (i+b)
def jd:Nat->Fn->Fn
 | 0,g=>g
 | n+1,g=>lp (jd n g)
def Mq(n m:Nat)(g:Fn):jd (n+m) g=jd n (jd m g):=by
 induction n with
 | zero=>rw [Nat.zero_add]; rfl
 | succ n ih=>rw [Nat.succ_add,jd,jd,ih]
def Y7(b:Int)(g:Fn):lp (sh b g)=sh b (lp g):=by
 funext i;unfold lp sh;rw [show i+2+b=i+b+2 by lia,show i - 2+b=i+b - 2 by lia]
def xW(n:Nat)(b:Int)(g:Fn):jd n (sh b g)=sh b (jd n g):=by
 induction n with
 | zero=>rfl
 | succ n ih=>rw [jd,jd,ih,Y7]
def PW(a b:Int)(g:Fn):sh a (sh b g)=sh (a+b) g:=by
 funext i;unfold sh;rw [Int.add_assoc]
def LV(g:Fn):sh 0 g=g:=by
 funext i;unfold sh;rw [FF]
def pl(g k:Fn):Fn:=fun i=>g i+k i
def sc(c:Int)(g:Fn):Fn:=fun i=>c * g i
def Y9(g k:Fn):lp (pl g k)=pl (lp g) (lp k):=by
 funext i;show -(g (i+2)+k (i+2)) - (g (i - 2)+k (i - 2))=(-(g (i+2)) - g (i - 2))+(-(k (i+2)) - k (i - 2));lia
def Y8(c:Int)(g:Fn):lp (sc c g)=sc c (lp g):=by
 funext i;unfold lp sc;rw [Int.mul_sub,Int.mul_neg]
def QW(n:Nat)(g k:Fn):jd n (pl g k)=pl (jd n g) (jd n k):=by
 induction n with
 | zero=>rfl
 | succ n ih=>rw [jd,jd,jd,ih,Y9]
def QV(n:Nat)(c:Int)(g:Fn):jd n (sc c g)=sc c (jd n g):=by
 induction n with
 | zero=>rfl
 | succ n ih=>rw [jd,jd,ih,Y8]
def Vi(b:Int)(g k:Fn):sh b (pl g k)=pl (sh b g) (sh b k):=rfl
def Vh(b c:Int)(g:Fn):sh b (sc c g)=sc c (sh b g):=rfl
def js(n:Int)(w:Bool):Pr T3:=if w=false then [(⟨n,0,0⟩,⟨n,1,1⟩),(⟨n,1,0⟩,⟨n,0,1⟩)] else [(⟨n,0,0⟩,⟨n,1,0⟩),(⟨n,0,1⟩,⟨n,1,1⟩)]
def Br:(T3->T3)->List (Int×Int)->Fn->Int
 | _,[],g=>g 0
 | f,p :: ps,g=>Br (jK f (js p.1 false)) ps (jd (cls f (js p.1 false)) (sh p.2 g))+Br (jK f (js p.1 true)) ps (jd (cls f (js p.1 true)) (sh (-p.2) g))
def Nb:∀ (ps:List (Int×Int)) (f:T3->T3) (g k:Fn),Br f ps (pl g k)=Br f ps g+Br f ps k
 | [],_,_,_=>rfl
 | p :: ps,f,g,k=>by
  rw [Br,Br,Br,Vi,Vi,QW,QW,Nb,Nb]; lia
def DO:∀ (ps:List (Int×Int)) (f:T3->T3) (c:Int) (g:Fn),Br f ps (sc c g)=c * Br f ps g
 | [],_,_,_=>rfl
 | p :: ps,f,c,g=>by
  rw [Br,Br,Vh,Vh,QV,QV,DO,DO,Jr]
def mT(n:Int):List T3:=[⟨n,0,0⟩,⟨n,1,1⟩,⟨n,1,0⟩,⟨n,0,1⟩]
theorem k8(n:Int)(w:Bool):(es (js n w)).Perm (mT n):=by
 cases w with
 | false=>exact .refl _
 | true =>
  show [(⟨n,0,0⟩:T3),⟨n,1,0⟩,⟨n,0,1⟩,⟨n,1,1⟩].Perm _;refine DV _ ?_;refine(xm (l₁:=[(⟨n,1,0⟩:T3),⟨n,0,1⟩]) (l₂:=[⟨n,1,1⟩]))
structure Dm(f:T3->T3)(ns:List Int):Prop where
 iv:Iv f
 nd:ns.Nodup
 dm:∀ n∈ns,∀ e∈mT n,f e≠e
def Dm.perm{f:T3->T3}{ns ms:List Int}(h:ns.Perm ms)(d:Dm f ns):Dm f ms:=⟨d.iv,h.nodup_iff.mp d.nd,fun n hn=>d.dm n (h.mem_iff.mpr hn)⟩
def Bp(n:Int):(mT n).Nodup:=by
 unfold mT;simp
def uv{n:Int}{e:T3}(h:e∈mT n):e.a=n:=by
 unfold mT at h;simp only [bJ,bV,or_false] at h;rcases h with rfl | rfl | rfl | rfl <;> rfl
def Dm.ok{f:T3->T3}{n:Int}{ns:List Int}(d:Dm f (n :: ns))(w:Bool):Ok f (js n w) :=
 ⟨d.iv,(k8 n w).nodup_iff.mpr (Bp n),fun e he=>d.dm n (by simp) e ((k8 n w).mem_iff.mp he)⟩
theorem Dm.X8{f:T3->T3}{n m:Int}{ns:List Int}(d:Dm f (n :: m :: ns))(w v:Bool):Ok f (js n w++js m v):=by
 have Zt:n≠m:=fun z=>(List.nodup_cons.mp d.nd).1 (by rw [z]; exact bH);refine⟨d.iv,?_,fun e he=>?_⟩
 ·rw [ur,cY];refine⟨(k8 n w).nodup_iff.mpr (Bp n),(k8 m v).nodup_iff.mpr (Bp m),fun a ha b hb z=>?_⟩;have h1:=uv ((k8 n w).mem_iff.mp ha);have h2:=uv ((k8 m v).mem_iff.mp hb);rw [z] at h1;exact Zt (h1.symm.trans h2)
 ·rw [ur,List.mem_append] at he;rcases he with he | he
  ·exact d.dm n (by simp) e ((k8 n w).mem_iff.mp he)
  ·exact d.dm m (by simp) e ((k8 m v).mem_iff.mp he)
theorem Mu{f:T3->T3}:∀ {ps:Pr T3},Ok f ps->∀ {e:T3},jK f ps e=e->e∈es ps\/f e=e:=by
 intro ps;induction ps generalizing f with
 | nil=>intro o e h; exact .inr h
 | cons p ps ih =>
  intro o e h;rcases ih o.tl h with z | z
  ·exact .inl (by simp [es,z])
  ·rcases Rc o.iv o.hd.1 z with z | z | z
   ·exact .inl (by simp [es,z])
   ·exact .inl (by simp [es,z])
   ·exact .inr z
def Rb{f:T3->T3}:∀ {ps:Pr T3},Ok f ps->Iv (jK f ps):=by
 intro ps;induction ps generalizing f with
 | nil=>intro o; exact o.iv
 | cons p ps ih=>intro o; exact ih o.tl
theorem Dm.step{f:T3->T3}{n:Int}{ns:List Int}(d:Dm f (n :: ns))(w:Bool):Dm (jK f (js n w)) ns:=by
 have nn:=List.nodup_cons.mp d.nd;refine⟨Rb (d.ok w),nn.2,fun m hm e he z=>?_⟩;rcases Mu (d.ok w) z with z | z
 ·have h1:=uv ((k8 n w).mem_iff.mp z);have h2:=uv he;exact nn.1 (by rw [<-h1,h2]; exact hm)
 ·exact d.dm m (aG _ hm) e he z
theorem Vd{f:T3->T3}{p q:Int×Int}{ps:List (Int×Int)}(d:Dm f (p.1 :: q.1 :: ps.map (·.1)))(g:Fn):Br f (p :: q :: ps) g=Br f (q :: p :: ps) g:=by
 have key:∀ (w v:Bool),jK (jK f (js p.1 w)) (js q.1 v)=jK (jK f (js q.1 v)) (js p.1 w)/\cls (jK f (js p.1 w)) (js q.1 v)+cls f (js p.1 w)=cls (jK f (js q.1 v)) (js p.1 w)+cls f (js q.1 v):=fun w v=>by
  obtain⟨a,b⟩:=Ra (xm) (d.X8 w v);rw [vg,vg] at a;rw [vn,vn] at b;exact⟨a,by lia⟩
 have kk:∀ (w v:Bool) (x y:Int),Br (jK (jK f (js p.1 w)) (js q.1 v)) ps (jd (cls (jK f (js p.1 w)) (js q.1 v)) (sh x (jd (cls f (js p.1 w)) (sh y g))))=Br (jK (jK f (js q.1 v)) (js p.1 w)) ps (jd (cls (jK f (js q.1 v)) (js p.1 w)) (sh y (jd (cls f (js q.1 v)) (sh x g)))):=fun w v x y=>by
  obtain⟨a,b⟩:=key w v;have z:∀ (m n:Nat) (x y:Int),jd m (sh x (jd n (sh y g)))=sh (x+y) (jd (m+n) g):=fun m n x y=>by rw [xW,xW,xW,PW,Mq]
  rw [a,z,z,b,Tp x y]
 show (Br _ ps _+Br _ ps _)+(Br _ ps _+Br _ ps _)=(Br _ ps _+Br _ ps _)+(Br _ ps _+Br _ ps _);rw [kk,kk,kk,kk];lia
theorem uD{ps qs:List (Int×Int)}(h:ps.Perm qs):∀ {f:T3->T3},Dm f (ps.map (·.1))->∀ g,Br f ps g=Br f qs g:=by
 induction h with
 | nil=>intro f d g; rfl
 | cons x _ ih=>intro f d g; rw [Br,Br,ih (d.step false),ih (d.step true)]
 | swap x y l=>intro f d g; exact Vd d g
 | trans h1 h2 i1 i2=>intro f d g; rw [i1 d,i2 (d.perm (h1.map _))]
end J
end K2
end
section
set_option maxHeartbeats 1000000
namespace K2
namespace J
abbrev Pn:=List (Nat×Nat)
section
variable {α:Type} [DecidableEq α] (v:Nat->α)
abbrev mp(ps:Pn):Pr α:=ps.map fun p=>(v p.1,v p.2)
variable {v}
end
end J
end K2
end
section
set_option maxHeartbeats 1000000
end
section
set_option maxHeartbeats 1000000
namespace K2
namespace J
def vv(nm:Nat->Int)(i:Nat):T3:=⟨nm (i / 4),((i / 2 % 2:Nat):Int),((i % 2:Nat):Int)⟩
def jN(i:Nat)(w:Bool):Pn:=if w=false then [(4 * i,4 * i+3),(4 * i+2,4 * i+1)] else [(4 * i,4 * i+2),(4 * i+1,4 * i+3)]
theorem ug{α β:Type}{v:α->β}:∀ {l:List α},l.Nodup->(∀ i∈l,∀ j∈l,v i=v j->i=j)->(l.map v).Nodup
 | [],_,_=>cj
 | a :: l,h,hi=>by
  rw [aS] at h;rw [ak,aS];refine⟨fun z=>?_,ug h.2 fun i VR j hj=>hi i (aG _ VR) j (aG _ hj)⟩;obtain⟨b,hb,e⟩:=List.mem_map.mp z;have:=hi a (by simp) b (aG _ hb) e.symm;exact h.1 (this ▸ hb)
end J
end K2
end
section
namespace K2
open PySem (Str)
open Enc (enc)
theorem i7{α:Type} [DecidableEq α] [Enc α]{G G1:Gp}{p:Nat}{xs:List α}{Q:DK}(l:ft G G1)(hp:G p=none)(h1:G1 p=some (.lst (xs.map enc)))(q:Q (enc xs) G):OW G1 (.ref p) Q :=
 KH l hp h1 (Cw.same _) q
theorem dq{α:Type}{f:α->D}{g:B0}{body:gN}{ok:Gp->Prop}{xs:List α}{E:lM}{K:lF}{τ:iO}{G:Gp}(I:List α->iO->Gp->Prop)
  (h0:I [] τ G) (b7:∀ pre τ G,I pre τ G->ok G)
  (step:∀ (pre:List α) (x:α) (post:List α) τ G (N:iO->Gp->Prop),xs=pre++x :: post->I pre τ G->(∀ xE G2,I (pre++[x]) xE G2->N xE G2) ->
   g E (f x) τ G fun qh G1=>body E { K with nx:=N,ct:=N,bk:=K.nx } qh G1)
  (fin:∀ τ G,I xs τ G->K.nx τ G):rH g body ok (xs.map f) E K τ G:=by
 have main:∀ (post pre:List α) τ G,xs=pre++post->I pre τ G->rH g body ok (post.map f) E K τ G:=by
  intro post;induction post with
  | nil =>
   intro pre τ G e h;rw [cg] at e;subst e;exact⟨b7 _ _ _ h,fin _ _ h⟩
  | cons d post ih =>
   intro pre τ G e h;refine⟨b7 _ _ _ h,?_⟩;exact step pre d post τ G _ e h fun xE G2 h2=>ih (pre++[d]) xE G2 (by rw [e,dG]; rfl) h2
 exact main xs [] τ G rfl h0
theorem jB{α:Type}{f:α->D}{g:B0}{c:Option yp}{e:gq}{ok:Gp->Prop}{xs:List α}{E:lM}{τ:iO}{G:Gp}{Q:List D->Gp->Prop}(I:List α->List D->iO->Gp->Prop)
  (h0:I [] [] τ G) (b7:∀ pre acc τ G,I pre acc τ G->ok G)
  (step:∀ (pre:List α) (x:α) (post:List α) (acc:List D) τ G (N:iO->List D->Gp->Prop),xs=pre++x :: post->I pre acc τ G->(∀ xE yn G2,I (pre++[x]) yn xE G2->N xE yn G2) ->
   g E (f x) τ G fun qh G1=>match c with
    | none=>e E qh G1 fun x G2=>N qh (acc++[x]) G2
    | some c=>c E qh G1 fun k G2=>if k=true then e E qh G2 fun x G3=>N qh (acc++[x]) G3 else N qh acc G2)
  (fin:∀ acc τ G,I xs acc τ G->Q acc G):j4 g c e ok (xs.map f) E τ G [] Q:=by
 have main:∀ (post pre:List α) (acc:List D) τ G,xs=pre++post->I pre acc τ G->j4 g c e ok (post.map f) E τ G acc Q:=by
  intro post;induction post with
  | nil =>
   intro pre acc τ G e h;rw [cg] at e;subst e;exact⟨b7 _ _ _ _ h,fin _ _ _ h⟩
  | cons d post ih =>
   intro pre acc τ G e' h;refine⟨b7 _ _ _ _ h,?_⟩;have:=step pre d post acc τ G (fun xE yn G2=>j4 g c e ok (post.map f) E xE G2 yn Q) e' h fun xE yn G2 h2=>ih (pre++[d]) yn xE G2 (by rw [e',dG]; rfl) h2;cases c with
   | none=>exact this
   | some c=>exact this
 exact main xs [] [] τ G rfl h0
def gU{α:Type} [DecidableEq α] [Enc α]{xs:List α}{G:Gp}{R:List D->(Gp->Prop)->Gp->Prop}(h:R (xs.map enc) (fun _=>True) G):S9 (enc xs) G R:=h
def CG{n:Nat}(h:n<=1000):n<=SZ:=by unfold SZ; lia
def JL{n:Nat}(h:n<=1000):n < SZ:=by unfold SZ; lia
abbrev Rows:=List (List T3)
def T3.s(p:T3):T2:=⟨p.a,p.b⟩
structure Dr(rows:Rows):Prop where
 nd:(rows.flatten.map T3.s).Nodup
 way:∀ p∈rows.flatten,p.b=0\/p.b=1
 hand:∀ p∈rows.flatten,p.c=1\/p.c=-1
 Cc:∀ p∈rows.flatten,(⟨p.a,1 - p.b,p.c⟩:T3)∈rows.flatten
 EO:rows.flatten.length<=24
 str:rows.length<=3
namespace P
def gz:jM:=Wt (fun rows:Rows=>rows.flatten.length<=1000) fun rows=>rows.flatten
def sO:gN :=
 (b8 (bF (iq aO) (aI 1))
 (b8 (eF (lz (ar 0)) (aI 2) (la (xq IT zD (ar 1) (av (ar 2) aO))))
 (cb (cz (ar 1)))))
theorem tQ(ds:List D)(G:Gp)(Q:DK)(h:gz ds G Q fun _ _=>False):sO (fun _ _=>False) (ends Q) (aY 3 ds) G:=by
 obtain⟨rows,rfl,hl,q⟩:=h;unfold sO;simp only [ends,aY,ak,aQ,ah,aw,aT,aB,aM,cu,bF,iq,aO,aI,ao,ai];refine⟨by decide,fun p hp=>?_⟩;refine dW (fun τ G'=>(∃ b,τ=[some (enc rows),some (.ref p),b])/\ft G G'/\G' p=some (.lst (rows.flatten.map enc))) ?_ ?_
 ·intro N hN;simp only [eF,eQ,ar,aa];refine gU ?_;refine dq (xs:=rows) (fun pre τ G'=>(∃ b,τ=[some (enc rows),some (.ref p),b])/\ft G G'/\G' p=some (.lst (pre.flatten.map enc))) ⟨⟨_,rfl⟩,.new hp,az⟩ (fun _ _ _ _=>trivial) ?_ ?_
  ·rintro pre r post τ G' N2 e ⟨⟨b,rfl⟩,l,gp⟩ mH;have hlen:pre.flatten.length+r.length<=rows.flatten.length:=by
    rw [e]; simp only [cQ,ff,aC]; lia
   simp only [aI,la,xq,ar,ao,ai,ae,aa,qk,gp,av,aO,sZ,pJ (IsL.enc r),true_and];refine⟨CG (by simp only [aq]; lia),?_⟩;refine mH _ _ ⟨⟨_,rfl⟩,l.put hp,?_⟩;rw [az]; simp
  ·rintro τ G' ⟨⟨b,rfl⟩,l,gp⟩;exact hN _ _ ⟨⟨_,rfl⟩,l,gp⟩
 ·rintro _ G' ⟨⟨b,rfl⟩,l,gp⟩;simp only [cb,cz,ar,ae,aa];exact i7 l hp gp q
def mL(p:T3):(enc p:D)=.tup [.int p.a,.int p.b,.int p.c]:=rfl
def XI(p:T2):(enc p:D)=.tup [.int p.a,.int p.b]:=rfl
def zI(i:Int):(enc i:D)=.int i:=rfl
def XX{a:D}{r:List D}:rZ (a :: r) 0=some a:=by
 rw [uA _ (by lia) (by simp)]; rfl
def Lf{a b:D}{r:List D}:rZ (a :: b :: r) 1=some b:=by
 rw [uA _ (by lia) (by simp; lia)]; rfl
def at2{a b c:D}{r:List D}:rZ (a :: b :: c :: r) 2=some c:=by
 rw [uA _ (by lia) (by simp; lia)]; rfl
def names(rows:Rows):List Int:=PS ((rows.flatten.filter fun p=>p.b == 0).map (·.a))
def fY:jM:=Wt (fun rows:Rows=>rows.flatten.length < 64) names
def yD:gN :=
 (cb (cz (ot ux (av (gL 1 [] (lz (br gz (av (ar 0) aO))) (aI 0) (some (ik (aX (JW false) (aX j6 (ar 0) (dC (.int 1))) (dC (.int 0))))) (aX j6 (ar 0) (dC (.int 0)))) aO))))
theorem yT(ds:List D)(G:Gp)(Q:DK)(h:fY ds G Q fun _ _=>False):yD (fun _ _=>False) (ends Q) (aY 1 ds) G:=by
 obtain⟨rows,rfl,hl,q⟩:=h;unfold yD;simp only [cb,cz,ot,av,gL,aY,ak,aQ,ah,aw,aB,aM,aO,ends,eQ,br,ar,aa];refine⟨rows,rfl,(show rows.flatten.length<=1000 by lia),gU ⟨CG (by rw [aq]; show rows.flatten.length<=1000; lia),?_⟩⟩;refine jB (xs:=rows.flatten) (fun pre acc τ G'=>G=G'/\(∃ a,τ=[a])/\acc=((pre.filter fun p=>p.b == 0).map (·.a)).map enc) ⟨rfl,⟨_,rfl⟩,rfl⟩ (fun _ _ _ _ _=>trivial) ?_ ?_
 ·rintro pre x post acc τ G' N e ⟨rfl,⟨a,rfl⟩,rfl⟩ hN;simp only [aI,mL,ai,aX,ar,aa,dC,iS,XX,du,Lf];refine⟨_,_,.int _,.int _,?_⟩;simp only [au,o7,if_false,bQ];split
  ·rename_i h;refine hN _ _ _ ⟨rfl,⟨_,rfl⟩,?_⟩;simp [dS,bW,h,zI]
  ·rename_i h;refine hN _ _ _ ⟨rfl,⟨_,rfl⟩,?_⟩;simp [dS,bW,h]
 ·rintro acc τ G' ⟨rfl,⟨a,rfl⟩,rfl⟩ p hp;refine vr (IsL.ref az) (by rw [aq]; exact fC (dn _ _) hl) fun p2 pz=>?_;exact i7 ((ft.new hp).trans (.new pz)) ((ft.new hp).free pz) az q
def handOf(rows:Rows)(n:Int):Int:=((rows.flatten.find? fun p=>p.a == n).map (·.c)).getD 0
def ju:jM:=aa1 (fun (rows:Rows) (n:Int)=>rows.flatten.length<=1000/\∃ p∈rows.flatten,p.a=n) handOf
def Au:gN :=
 (b8 (eF (lz (br gz (av (ar 0) aO))) (aI 2) (gi (ik (aX (JW false) (aX j6 (ar 2) (dC (.int 0))) (ar 1))) (cb (cz (aX j6 (ar 2) (dC (.int 2))))) dH))
 E6)
theorem BN(ds:List D)(G:Gp)(Q:DK)(h:ju ds G Q fun _ _=>False):Au (fun _ _=>False) (ends Q) (aY 3 ds) G:=by
 obtain⟨rows,n,rfl,⟨hl,hn⟩,q⟩:=h;unfold Au;refine dW (fun τ G'=>False) ?_ (fun _ _ h=>h.elim);intro N hN;simp only [eF,aY,ak,aQ,ah,aw,aT,aB,aM,ends,eQ,br,av,ar,aa,aO];refine⟨rows,rfl,hl,gU ?_⟩;refine dq (xs:=rows.flatten) (fun pre τ G'=>G=G'/\(∃ a,τ=[some (enc rows),some (enc n),a])/\∀ p∈pre,p.a≠n) ⟨rfl,⟨_,rfl⟩,by simp⟩ (fun _ _ _ _=>trivial) ?_ ?_
 ·rintro pre x post τ G' N2 e ⟨rfl,⟨a,rfl⟩,hp⟩ mH;simp only [aI,gi,zI,mL,ao,ai,cb,cz,aX,ar,ae,aa,dC,iS,at2,dH,du,XX];refine⟨_,_,.int _,.int _,?_⟩;simp only [au,o7,if_false,bQ];by_cases hx:x.a=n
  ·simp only [hx,beq_self_eq_true,if_true];refine cC ?_;have:handOf rows n=x.c:=by
    unfold handOf;have:rows.flatten.find? (fun p=>p.a == n)=some x:=by
     rw [e,List.find?_append];have:pre.find? (fun p=>p.a == n)=none:=by
      rw [iw]; intro p zc; simpa using hp p zc
     rw [this];simp [hx]
    rw [this]; rfl
   rw [<-this]; exact q
  ·have:(x.a == n)=false:=by simpa using hx
   simp only [this,au,if_false];refine mH _ _ ⟨rfl,⟨_,rfl⟩,fun p zc=>?_⟩;rcases List.mem_append.mp zc with h | h
   ·exact hp p h
   ·rw [List.mem_singleton.mp h]; exact hx
 ·rintro τ G' ⟨rfl,_,hp⟩;obtain⟨p,Zr,pz⟩:=hn;exact absurd pz (hp p Zr)
def zy(row:List T3)(i:Int):List T2:=if row=[] then [⟨i,2⟩] else row.map T3.s
def PT:Rows->Nat->List T2
 | [],_=>[]
 | r :: rs,k=>zy r (k:Int)++PT rs (k+1)
def Vg(rows:Rows):List T2:=PS (PT rows 0)
def acP{a b c:D}:cut [a,b,c] none (some 2)=[a,b]:=rfl
def N0{α:Type} [DecidableEq α] [Enc α](xs:List α)(G:Gp):wo (enc xs) G=some (xs.map enc,fun _=>True):=rfl
def NY{a:Nat}{ds:List D}{G:Gp}(h:G a=some (.lst ds)):wo (.ref a) G=some (ds,fun G2=>G2 a=some (.lst ds)):=by unfold wo; simp only [h]
theorem z9{α β:Type} [DecidableEq α] [Enc α] [DecidableEq β] [Enc β]:∀ (xs:List α) (ys:List β),qi (xs.map enc) (ys.map enc)=(xs.zip ys).map fun p=>D.tup [enc p.1,enc p.2]
 | [],ys=>by simp [qi]
 | x :: xs,[]=>by simp [qi]
 | x :: xs,y :: ys=>by simp [qi,z9 xs ys]
theorem fN{κ α:Type} [DecidableEq κ] [Enc κ] [tU κ] [DecidableEq α] [Enc α]{a:Nat}{l:List (κ×α)}{k:κ}{v:α}{G:Gp}{Q:Gp->Prop}(h:G a=some (.fU (bb l)))(hl:l.length<=1000)(q:Q (eL G a (.fU (bb (fc l k v))))):yA (.ref a) (enc k) (enc v) G Q:=by
 unfold yA;simp only [h];refine⟨kD l k,?_,by rw [Ma]; exact q⟩;unfold bb; rw [aq]; exact JL hl
def jE(r:List T3):List T3:=r.drop 1++r.take 1
def pairsOf(rows:Rows):List (T3×T3):=rows.flatMap fun r=>r.zip (jE r)
def nX(ps:List (T3×T3)):List (T2×T2):=ps.foldl (fun l p=>fc l p.1.s p.2.s) []
theorem CY(ps:List (T3×T3)):(nX ps).length<=ps.length:=by
 have:∀ (ps:List (T3×T3)) (l:List (T2×T2)),(ps.foldl (fun l p=>fc l p.1.s p.2.s) l).length<=l.length+ps.length:=by
  intro ps;induction ps with
  | nil=>intro l; simp
  | cons p ps ih =>
   intro l;rw [cM,ah];have h1:=ih (fc l p.1.s p.2.s);have h2:=tL l p.1.s p.2.s;lia
 simpa [nX] using this ps []
def Kc(ps:List (T3×T3))(p:T3×T3):nX (ps++[p])=fc (nX ps) p.1.s p.2.s:=by unfold nX; rw [gO]; rfl
def nP:jM:=fun ds G Q _=>∃ rows:Rows,ds=[enc rows]/\rows.flatten.length<=500/\Q (.kH (bb (nX (pairsOf rows)))) G
def pairs_len(rows:Rows):(pairsOf rows).length<=rows.flatten.length:=by
 unfold pairsOf;induction rows with
 | nil=>simp
 | cons r rs ih=>simp only [cZ,ff,aC,mz]; lia
def Ap:gN :=
 (b8 (bF mM (aI 1))
 (b8 (eF (lz (ar 0)) (aI 2) (eF (Rp (ar 2) (aX gK (Ck (ar 2) (mU (dC (.int 1))) gI) (Ck (ar 2) gI (mU (dC (.int 1)))))) (jL (cX (aI 3) (cX (aI 4) jz))) (bF (Ck (ar 4) gI (mU (dC (.int 2)))) (kh (ar 1) (Ck (ar 3) gI (mU (dC (.int 2))))))))
 (cb (cz (ar 1)))))
theorem BH(ds:List D)(G:Gp)(Q:DK)(h:nP ds G Q fun _ _=>False):Ap (fun _ _=>False) (ends Q) (aY 5 ds) G:=by
 obtain⟨rows,rfl,hl,q⟩:=h;unfold Ap;simp only [ends,aY,ak,aQ,ah,aw,aT,aB,aM,cu,bF,mM,ip,aI,ao,ai];intro d hd;refine dW (fun τ G'=>(∃ a b c,τ=[some (enc rows),some (.ref d),a,b,c])/\ft G G'/\G' d=some (.fU (bb (nX (pairsOf rows))))) ?_ ?_
 ·intro N hN;simp only [eF,eQ,ar,aa];refine gU ?_;refine dq (xs:=rows) (fun pre τ G'=>(∃ a b c,τ=[some (enc rows),some (.ref d),a,b,c])/\ft G G'/\G' d=some (.fU (bb (nX (pairsOf pre))))) ⟨⟨_,_,_,rfl⟩,.new hd,az⟩ (fun _ _ _ _=>trivial) ?_ ?_
  ·rintro pre r post τ G' N2 e ⟨⟨a,b,c,rfl⟩,l,gd⟩ mH;have hr:pre.flatten.length+r.length<=rows.flatten.length:=by
    rw [e]; simp only [cQ,ff,aC]; lia
   simp only [aI,eF,Rp,ar,ao,ai,ae,aa,aX,Ck,gI,mf,dC,iK];refine xJ (IsL.enc r) fun p1 h1=>?_;refine xJ (IsL.enc r) fun p2 h2=>?_;have d1:d≠p1:=by rintro rfl; rw [gd] at h1; cases h1
   have l1:=l.trans (ft.new (o:=.lst (cut (r.map enc) (some 1) none)) h1);have d2:d≠p2:=by rintro rfl; rw [cE d1,gd] at h2; cases h2
   have h12:p1≠p2:=by rintro rfl; rw [az] at h2; cases h2
   refine t8 (IsL.ref (by rw [cE h12,az])) (IsL.ref az) ?_ fun p3 h3=>?_
   ·rw [oQ,oQ,aq,aq];have e1:(cut r (some 1) none).length<=r.length:=by unfold cut; rw [d6,cq]; lia
    have e2:(cut r none (some 1)).length<=r.length:=by unfold cut; rw [d6,cq]; lia
    exact CG (by lia)
   have d3:d≠p3:=by rintro rfl; rw [cE d2,cE d1,gd] at h3; cases h3
   have et:cut (r.map enc) (some 1) none++cut (r.map enc) none (some 1)=(jE r).map enc:=by
    rw [oQ,oQ,<-aN];congr 1;cases r with
    | nil=>rfl
    | cons x r=>rw [show (1:Int)=((1:Nat):Int) from rfl,w5 _ _ (by simp),E8 _ _ (by simp)]; rfl
   rw [et];generalize hG3:eL (eL (eL G' p1 (.lst (cut (r.map enc) (some 1) none))) p2 (.lst (cut (r.map enc) none (some 1)))) p3 (.lst ((jE r).map enc))=G3;have g3:G3 p3=some (.lst ((jE r).map enc)):=by rw [<-hG3,az]
   have gd3:G3 d=some (.fU (bb (nX (pairsOf pre)))):=by rw [<-hG3,cE d3,cE d2,cE d1]; exact gd
   have l3:ft G G3:=by rw [<-hG3]; exact(l1.trans (.new h2)).trans (.new h3)
   unfold vi;rw [N0,NY g3];dsimp only;rw [z9];refine dq (xs:=r.zip (jE r)) (fun pp τ G'=>(∃ a b c,τ=[some (enc rows),some (.ref d),a,b,c])/\ft G G'/\G' d=some (.fU (bb (nX (pairsOf pre++pp))))/\G' p3=some (.lst ((jE r).map enc)))
    ⟨⟨_,_,_,rfl⟩,l3,by rw [cg]; exact gd3,g3⟩ (fun _ _ _ h=>⟨trivial,h.2.2.2⟩) ?_ ?_
   ·rintro pp x post τ G4 N3 e4 ⟨⟨a,b,c,rfl⟩,l4,gd4,XA⟩ EH;have hz:(pairsOf pre++pp).length<=1000:=by
     have:=pairs_len pre;have h5:pp.length < (r.zip (jE r)).length:=by rw [e4]; simp
     rw [mz] at h5;rw [aC]; lia
    simp only [jL,cX,aI,jz,bF,Ck,ar,mL,ao,ai,ae,aa,gI,kh,Ec,ah,aw,mf,dC,iK,acP];refine⟨by decide,by decide,?_⟩;refine fN (k:=x.1.s) (v:=x.2.s) gd4 (bc (CY _) hz) ?_;refine EH _ _ ⟨⟨_,_,_,rfl⟩,l4.put hd,?_,by rw [cE (e7 d3)]; exact XA⟩;rw [az,<-dG,Kc]
   ·rintro τ G4 ⟨⟨a,b,c,rfl⟩,l4,gd4,XA⟩;refine mH _ _ ⟨⟨_,_,_,rfl⟩,l4,?_⟩;have:pairsOf (pre++[r])=pairsOf pre++r.zip (jE r):=by unfold pairsOf; simp
    rw [this]; exact gd4
  ·rintro τ G' ⟨⟨a,b,c,rfl⟩,l,gd⟩;exact hN _ _ ⟨⟨_,_,_,rfl⟩,l,gd⟩
 ·rintro _ G' ⟨⟨a,b,c,rfl⟩,l,gd⟩;simp only [cb,cz,ar,ae,aa];exact gY l hd gd q
def lft(s:T2):T3:=⟨s.a,s.b,0⟩
def rgt(s:T2):T3:=⟨s.a,s.b,1⟩
def Wx(ss:List T2):List T3:=ss.flatMap fun s=>[lft s,rgt s]
end P
end K2
end
section
set_option maxHeartbeats 1000000
namespace K2
namespace J
def pt:Pr T3->T3->T3
 | [],e=>e
 | p :: r,e=>if e=p.1 then p.2 else if e=p.2 then p.1 else pt r e
def oN{P:Pr T3}{e:T3}(h:e∉es P):pt P e=e:=by
 induction P with
 | nil=>rfl
 | cons p r ih =>
  rw [es,bJ,bJ,not_or,not_or] at h;rw [pt,if_neg h.1,if_neg h.2.1,ih h.2.2]
theorem qu{P:Pr T3}(nd:(es P).Nodup){p:T3×T3}(h:p∈P):pt P p.1=p.2/\pt P p.2=p.1:=by
 induction P with
 | nil=>cases h
 | cons q r ih =>
  rw [es,aS,aS,bJ,not_or] at nd;rcases List.mem_cons.mp h with rfl | h
  ·refine⟨by rw [pt,if_pos rfl],?_⟩;rw [pt,if_neg (fun z=>nd.1.1 z.symm),if_pos rfl]
  ·obtain⟨a,b⟩:=ih nd.2.2 h;have m1:p.1∈es r:=qG.mpr ⟨p,h,.inl rfl⟩;have m2:p.2∈es r:=qG.mpr ⟨p,h,.inr rfl⟩;have ne:∀ e∈es r,e≠q.1/\e≠q.2:=fun e he=>⟨fun z=>nd.1.2 (z ▸ he),fun z=>nd.2.1 (z ▸ he)⟩;exact⟨by rw [pt,if_neg (ne _ m1).1,if_neg (ne _ m1).2,a],by rw [pt,if_neg (ne _ m2).1,if_neg (ne _ m2).2,b]⟩
theorem Vq{P:Pr T3}(nd:(es P).Nodup){f:T3->T3}(h1:∀ p∈P,f p.1=p.2/\f p.2=p.1)(h2:∀ e,e∉es P->f e=e):pt P=f:=by
 funext e;by_cases he:e∈es P
 ·obtain⟨p,hp,z⟩:=qG.mp he;rcases z with rfl | rfl
  ·rw [(qu nd hp).1,(h1 p hp).1]
  ·rw [(qu nd hp).2,(h1 p hp).2]
 ·rw [oN he,h2 e he]
def TX{P P':Pr T3}(h:P.Perm P')(nd:(es P).Nodup):pt P=pt P':=by
 refine Vq nd (fun p hp=>qu ((wU h).nodup_iff.mp nd) (h.mem_iff.mp hp)) fun e he=>oN fun z=>he ((wU h).mem_iff.mpr z)
theorem Ql{P:Pr T3}(nd:(es P).Nodup):Iv (pt P):=by
 intro e;by_cases he:e∈es P
 ·obtain⟨p,hp,z⟩:=qG.mp he;rcases z with rfl | rfl
  ·rw [(qu nd hp).1,(qu nd hp).2]
  ·rw [(qu nd hp).2,(qu nd hp).1]
 ·rw [oN he,oN he]
theorem Vr{P:Pr T3}(nd:(es P).Nodup){p:T3×T3}(h:p∈P):p.1≠p.2:=by
 induction P with
 | nil=>cases h
 | cons q r ih =>
  rw [es,aS,aS,bJ,not_or] at nd;rcases List.mem_cons.mp h with rfl | h
  ·exact nd.1.1
  ·exact ih nd.2.2 h
theorem xK{P:Pr T3}(nd:(es P).Nodup){e:T3}:pt P e≠e↔e∈es P:=by
 refine⟨fun h=>g7 fun z=>h (oN z),fun he=>?_⟩;obtain⟨p,hp,z⟩:=qG.mp he;rcases z with rfl | rfl
 ·rw [(qu nd hp).1]; exact(Vr nd hp).symm
 ·rw [(qu nd hp).2]; exact Vr nd hp
def WI{P:Pr T3}(nd:(es P).Nodup)(h:∀ e,pt P e=e):P=[]:=by
 cases P with
 | nil=>rfl
 | cons p r=>exact absurd (h p.1) (xK nd |>.mpr (by simp [es]))
structure M8(l:List (T3×T3))(f:T3->T3):Prop where
 nd:(l.map (·.1)).Nodup
 at':∀ e,cp l e=if f e=e then none else some (f e)
theorem tN{κ β:Type} [DecidableEq κ]{l:List (κ×β)}{k j:κ}:cp (l.filter fun p=>decide (p.1≠k)) j=if j=k then none else cp l j:=by
 induction l with
 | nil=>simp [cp]
 | cons p r ih =>
  unfold cp at *;rw [bW];by_cases h:p.1=k
  ·rw [if_neg (by simp [h]),ih];by_cases hj:j=k
   ·rw [if_pos hj,if_pos hj]
   ·rw [if_neg hj,if_neg hj,cm (by simp [h]; exact fun z=>hj z.symm)]
  ·rw [if_pos (by simp [h])];by_cases Zq:p.1=j
   ·rw [ck (by simp [Zq]),ck (by simp [Zq]),if_neg (fun z=>h (Zq.trans z))]
   ·rw [cm (by simp [Zq]),cm (by simp [Zq]),ih]
def EZ(l:List (T3×T3))(k:T3):List (T3×T3):=l.filter fun p=>decide (p.1≠k)
theorem qV{κ β:Type} [DecidableEq κ]{l:List (κ×β)}{k:κ}{v:β}(h:(l.map (·.1)).Nodup):((fc l k v).map (·.1)).Nodup:=by
 unfold fc;split
 ·rw [bq];have:(l.map ((fun x:κ×β=>x.1)∘fun p=>if p.1=k then (p.1,v) else p))=l.map (·.1):=by
   refine dE fun p _=>?_;show (if p.1=k then (p.1,v) else p).1=p.1;split <;> rfl
  rw [this]; exact h
 ·rename_i hk;rw [aN,cY];refine⟨h,by simp,fun a ha b hb z=>?_⟩;rw [BX,cK] at hb;obtain⟨p,hp,e⟩:=List.mem_map.mp ha;exact hk (List.any_eq_true.mpr ⟨p,hp,by simp; rw [e,z,hb]⟩)
theorem M8.join{l:List (T3×T3)}{f:T3->T3}(h:M8 l f)(iv:Iv f){x y:T3}(xy:x≠y)(hx:f x≠x)(hy:f y≠y) :
  cp l x=some (f x)/\cp (EZ l x) y=some (f y)/\(f x=y->M8 (EZ (EZ l x) y) (jn f x y))/\(f x≠y->M8 (fc (fc (EZ (EZ l x) y) (f x) (f y)) (f y) (f x)) (jn f x y)):=by
 have a1:cp l x=some (f x):=by rw [h.at',if_neg hx]
 have a2:cp (EZ l x) y=some (f y):=by unfold EZ; rw [tN,if_neg (fun z=>xy z.symm),h.at',if_neg hy]
 have nd2:((EZ (EZ l x) y).map (·.1)).Nodup:=oy (mG _ (List.filter_sublist.trans lE)) h.nd;have d2:∀ e,cp (EZ (EZ l x) y) e=if e=x\/e=y then none else if f e=e then none else some (f e):=fun e=>by
  unfold EZ;rw [tN,tN,h.at']
  grind
 have ix:=iv x;have iy:=iv y;refine⟨a1,a2,fun e=>⟨nd2,fun z=>?_⟩,fun e=>⟨qV (qV nd2),fun z=>?_⟩⟩
 ·have iz:=iv z;rw [d2];unfold jn
  grind (splits:=30)
 ·have iz:=iv z;rw [uC,uC,d2];unfold jn
  grind (splits:=30)
end J
end K2
end
section
namespace K2
namespace Y
abbrev Po:=List (Int×Int)
def ND(l:Po):Prop:=(l.map (·.1)).Nodup
def c0(l:Po)(k:Int):Int:=(cp l k).getD 0
def gc(l:Po):Po:=l.filter fun p=>p.2 != 0
def plus(a:Po)(p:Int×Int):Po:=fc a p.1 (c0 a p.1+p.2)
def uU(l m:Po):Po:=m.foldl plus l
def za(l m:Po):Po:=gc (uU l m)
def mJ(m:Po)(a:Po)(p:Int×Int):Po:=m.foldl (fun a q=>plus a (p.1+q.1,p.2 * q.2)) a
def lQ(l m:Po):Po:=l.foldl (mJ m) []
def iI(l m:Po):Po:=gc (lQ l m)
def mI(l:Po)(by_ f:Int):Po:=gc (l.map fun p=>(p.1+by_,p.2 * f))
def d8(l:Po):Nat->Po
 | 0=>[(0,1)]
 | n+1=>iI (d8 l n) l
theorem jC{κ β:Type} [DecidableEq κ]{l:List (κ×β)}{k:κ}{v:β}(h:k∉l.map (·.1)):fc l k v=l++[(k,v)]:=by
 unfold fc;rw [if_neg];intro q;obtain⟨p,h1,h2⟩:=List.any_eq_true.mp q;exact h (List.mem_map.mpr ⟨p,h1,by simpa using h2⟩)
theorem BD{κ β:Type} [DecidableEq κ]{l:List (κ×β)}{k:κ}{v:β}(h:k∈l.map (·.1)):fc l k v=l.map (fun p=>if p.1=k then (p.1,v) else p):=by
 unfold fc;rw [if_pos];obtain⟨p,h1,h2⟩:=List.mem_map.mp h;exact List.any_eq_true.mpr ⟨p,h1,by simpa using h2⟩
theorem OK{κ β:Type} [DecidableEq κ](l:List (κ×β))(k:κ)(v:β):(fc l k v).map (·.1)=if k∈l.map (·.1) then l.map (·.1) else l.map (·.1)++[k]:=by
 split
 ·rename_i h;rw [BD h,bq];refine dE fun p _=>?_;show (if p.1=k then (p.1,v) else p).1=p.1;split <;> rfl
 ·rename_i h;rw [jC h,aN]; rfl
theorem ND.put{l:Po}(h:ND l)(k v:Int):ND (fc l k v):=by
 unfold ND;rw [OK];split
 ·exact h
 ·rename_i hk;rw [cY];exact⟨h,by simp,fun a ha b hb=>by rw [cK] at hb; subst hb; intro z; exact hk (z ▸ ha)⟩
def ND.nil:ND []:=cj
def ND.one(k v:Int):ND [(k,v)]:=by unfold ND; simp
def ND.tail{p:Int×Int}{l:Po}(h:ND (p :: l)):ND l:=by unfold ND at *; rw [ak,aS] at h; exact h.2
def ND.head{p:Int×Int}{l:Po}(h:ND (p :: l)):p.1∉l.map (·.1):=by unfold ND at *; rw [ak,aS] at h; exact h.1
def ND.gc{l:Po}(h:ND l):ND (gc l):=by
 unfold ND Y.gc at *;exact oy (mG _ lE) h
def ua{l:Po}(h:ND l)(p:Int×Int):ND (plus l p):=h.put _ _
def wR{α:Type}(f:Po->α->Po)(hf:∀ a x,ND a->ND (f a x)):∀ (xs:List α) (a:Po),ND a->ND (xs.foldl f a)
 | [],_,h=>h
 | x :: xs,a,h=>wR f hf xs _ (hf a x h)
def GP{l m:Po}(h:ND l):ND (uU l m):=wR _ (fun a x h=>ua h x) m l h
def Ef{m a:Po}(h:ND a)(p:Int×Int):ND (mJ m a p):=wR _ (fun a x h=>ua h _) m a h
def u7(l m:Po):ND (lQ l m):=wR _ (fun a x h=>Ef h x) l [] .nil
def Ue{l m:Po}(h:ND l):ND (za l m):=(GP h).gc
def t9(l m:Po):ND (iI l m):=(u7 l m).gc
theorem Gq{l:Po}(h:ND l)(b f:Int):ND (l.map fun p=>(p.1+b,p.2 * f)):=by
 unfold ND at *;rw [bq];have:(l.map ((fun x:Int×Int=>x.1)∘fun p=>(p.1+b,p.2 * f)))=(l.map (·.1)).map (· + b):=by rw [bq]; rfl
 rw [this];exact List.Pairwise.map _ (fun a c hac z=>hac (by lia)) h
def NI{l:Po}(h:ND l)(b f:Int):ND (mI l b f):=(Gq h b f).gc
def xN(l:Po):∀ n,ND (d8 l n)
 | 0=>.one _ _
 | n+1=>t9 _ _
def GK(l:Po)(p:Int×Int):(plus l p).length<=l.length+1:=by unfold plus fc; split <;> simp
theorem uq{α:Type}(f:Po->α->Po)(c:Nat)(hf:∀ a x,(f a x).length<=a.length+c):∀ (xs:List α) (a:Po),(xs.foldl f a).length<=a.length+xs.length * c
 | [],a=>by simp
 | x :: xs,a=>by
  have:=uq f c hf xs (f a x);have:=hf a x;rw [cM,ah,Nat.succ_mul]; lia
def CT(l m:Po):(uU l m).length<=l.length+m.length:=by
 have:=uq plus 1 GK m l;unfold uU; lia
def GJ(m a:Po)(p:Int×Int):(mJ m a p).length<=a.length+m.length:=by
 have:=uq (fun a q=>plus a (p.1+q.1,p.2 * q.2)) 1 (fun a q=>GK a _) m a;unfold mJ; lia
def oM(l m:Po):(lQ l m).length<=l.length * m.length:=by
 have:=uq (mJ m) m.length (fun a p=>GJ m a p) l [];simpa [lQ] using this
def uc(l:Po):(gc l).length<=l.length:=dn _ _
def AD(l m:Po):(iI l m).length<=l.length * m.length:=bc (uc _) (oM l m)
def va(l:Po):∀ n,(d8 l n).length<=l.length ^ n
 | 0=>by simp [d8]
 | n+1=>bc (AD _ _) (by rw [xB]; exact iT _ (va l n))
def L(g:Int->Int):Po->Int
 | []=>0
 | p :: l=>p.2 * g p.1+L g l
def IG(g:Int->Int):∀ (l m:Po),L g (l++m)=L g l+L g m
 | [],m=>by simp [L]
 | p :: l,m=>by rw [aB,L,L,IG g l m]; lia
theorem DI{l:Po}{k:Int}(h:k∉l.map (·.1)):cp l k=none:=by
 unfold cp;have:l.find? (fun p=>decide (p.1=k))=none:=by
  rw [iw];intro p hp z;exact h (List.mem_map.mpr ⟨p,hp,by simpa using z⟩)
 rw [this]; rfl
def Fi{p:Int×Int}{l:Po}{k:Int}:c0 (p :: l) k=if p.1=k then p.2 else c0 l k:=by
 unfold c0 cp;rw [d4];by_cases h:p.1=k <;> simp [h]
theorem DL(g:Int->Int)(k v:Int):∀ (l:Po),ND l->k∈l.map (·.1)->L g (l.map fun p=>if p.1=k then (p.1,v) else p)=L g l+(v - c0 l k) * g k
 | [],_,h=>by cases h
 | p :: l,hn,h=>by
  rw [ak,Fi];by_cases e:p.1=k
  ·rw [if_pos e,if_pos e,L,L];have:l.map (fun p=>if p.1=k then (p.1,v) else p)=l:=by
    conv=>rhs; rw [<-nC l]
    refine dE fun q hq=>?_;rw [if_neg]; rfl;intro z; exact hn.head (by rw [e,<-z]; exact bR hq)
   rw [this];show v * g p.1+L g l=_;rw [e,Int.sub_mul]; lia
  ·rw [if_neg e,if_neg e,L,L,DL g k v l hn.tail (by
    rw [ak,bJ] at h;rcases h with h | h
    ·exact absurd h.symm e
    ·exact h)]
   lia
theorem aaa(g:Int->Int){l:Po}(hn:ND l)(k v:Int):L g (fc l k v)=L g l+(v - c0 l k) * g k:=by
 by_cases h:k∈l.map (·.1)
 ·rw [BD h]; exact DL g k v l hn h
 ·rw [jC h,IG];have:c0 l k=0:=by unfold c0; rw [DI h]; rfl
  rw [this];simp [L]
def SE(g:Int->Int){l:Po}(hn:ND l)(p:Int×Int):L g (plus l p)=L g l+p.2 * g p.1:=by
 unfold plus;rw [aaa g hn];congr 1;rw [show c0 l p.1+p.2 - c0 l p.1=p.2 by lia]
theorem zM(g:Int->Int):∀ (l:Po),L g (gc l)=L g l
 | []=>rfl
 | p :: l=>by
  have ih:=zM g l;unfold gc at *;rw [bW];by_cases h:p.2=0
  ·rw [if_neg (by simp [h]),ih,L,h]; simp
  ·rw [if_pos (by simp [h]),L,L,ih]
def SF(g:Int->Int):∀ (m l:Po),ND l->L g (m.foldl plus l)=L g l+L g m
 | [],l,_=>by simp [L]
 | p :: m,l,h=>by
  rw [cM,SF g m _ (ua h p),SE g h,L]; lia
def X2(g:Int->Int){l:Po}(h:ND l)(m:Po):L g (za l m)=L g l+L g m:=by
 unfold za uU; rw [zM,SF g m l h]
theorem SD(g:Int->Int)(p:Int×Int):∀ (m a:Po),ND a->L g (mJ m a p)=L g a+p.2 * L (fun j=>g (p.1+j)) m
 | [],a,_=>by simp [mJ,L]
 | q :: m,a,h=>by
  have ih:=SD g p m (plus a (p.1+q.1,p.2 * q.2)) (ua h _);unfold mJ at *;rw [cM,ih,SE g h,L,Jr];show L g a+p.2 * q.2 * g (p.1+q.1)+_=_;rw [Int.mul_assoc]; lia
theorem BQ(g:Int->Int)(l m:Po):L g (iI l m)=L (fun i=>L (fun j=>g (i+j)) m) l:=by
 unfold iI lQ;rw [zM];have:∀ (l a:Po),ND a->L g (l.foldl (mJ m) a)=L g a+L (fun i=>L (fun j=>g (i+j)) m) l:=by
  intro l;induction l with
  | nil=>intro a _; simp [L]
  | cons p l ih =>
   intro a h;rw [cM,ih _ (Ef h p),SD g p m a h,L]; lia
 rw [this l [] .nil]; simp [L]
theorem yV(g:Int->Int)(b f:Int):∀ (l:Po),L g (l.map fun p=>(p.1+b,p.2 * f))=f * L (fun i=>g (i+b)) l
 | []=>by simp [L]
 | p :: l=>by
  rw [ak,L,yV g b f l,L,Jr];congr 1;show p.2 * f * g (p.1+b)=f * (p.2 * g (p.1+b));rw [Int.mul_comm p.2 f,Int.mul_assoc]
def SA(g:Int->Int)(b f:Int)(l:Po):L g (mI l b f)=f * L (fun i=>g (i+b)) l:=by
 unfold mI; rw [zM,yV]
def V6(g h:Int->Int):∀ (l:Po),L (fun i=>g i+h i) l=L g l+L h l
 | []=>rfl
 | p :: l=>by rw [L,L,L,V6 g h l,Jr]; lia
def Sh{l:Po}{k:Int}(h:k∉l.map (·.1)):c0 l k=0:=by unfold c0; rw [DI h]; rfl
theorem M7{l:Po}(hn:ND l)(k:Int):L (fun i=>if i=k then 1 else 0) l=c0 l k:=by
 induction l with
 | nil=>rfl
 | cons p l ih =>
  rw [L,ih hn.tail,Fi];by_cases h:p.1=k
  ·have:c0 l k=0:=Sh (h ▸ hn.head);simp [h,this]
  ·simp [h]
def NZ(l:Po):Prop:=∀ p∈l,p.2≠0
def AK(l:Po):NZ (gc l):=fun p h=>by
 have:=(List.mem_filter.mp h).2;simpa using this
theorem pV{l:Po}(hn:ND l){p:Int×Int}(h:p∈l):cp l p.1=some p.2:=by
 induction l with
 | nil=>cases h
 | cons q l ih =>
  unfold cp;rw [d4];rcases List.mem_cons.mp h with rfl | h
  ·simp
  ·have:q.1≠p.1:=fun z=>hn.head (by rw [z]; exact bR h);simp only [this,decide_false];exact ih hn.tail h
def Si{l:Po}(hn:ND l){p:Int×Int}(h:p∈l):c0 l p.1=p.2:=by unfold c0; rw [pV hn h]; rfl
theorem QP{l:Po}{k:Int}(h:c0 l k≠0):(k,c0 l k)∈l:=by
 unfold c0 at *;unfold cp at *;cases q:l.find? (fun p=>decide (p.1=k)) with
 | none=>rw [q] at h; exact absurd rfl h
 | some p =>
  have h1:=pZ q;have h2:=iE q;simp at h1;simp only [vB,oh];rw [<-h1]; exact h2
theorem iY:∀ (xs ys:List Int),xs.Nodup->(∀ x∈xs,x∈ys)->xs.length<=ys.length
 | [],_,_,_=>cw _
 | x :: xs,ys,hn,h=>by
  rw [aS] at hn;have:=iY xs (ys.erase x) hn.2 fun y hy=>(yv (show y≠x from fun z=>hn.1 (by rw [<-z]; exact hy))).mpr (h y (aG _ hy));have hx:=h x (by simp);rw [tW hx] at this;have:=vF hx;rw [ah]; lia
theorem sub_len{l m:Po}(hl:ND l)(zl:NZ l)(h:∀ k,c0 l k=c0 m k):l.length<=m.length:=by
 have:=iY (l.map fun p:Int×Int=>p.1) (m.map fun p:Int×Int=>p.1) hl fun k hk=>by
  obtain⟨p,hp,rfl⟩:=List.mem_map.mp hk;have h1:c0 m p.1≠0:=by rw [<-h,Si hl hp]; exact zl p hp
  exact bR (f:=(·.1)) (QP h1)
 simpa using this
theorem UM{l m:Po}(hl:ND l)(hm:ND m)(zl:NZ l)(zm:NZ m)(h:∀ k,c0 l k=c0 m k):zj l m=true:=by
 unfold zj;rw [aJ];refine⟨?_,List.all_eq_true.mpr fun p hp=>?_⟩
 ·have h1:=sub_len hl zl h;have h2:=sub_len hm zm fun k=>(h k).symm;simpa using Nat.le_antisymm h1 h2
 ·have h1:c0 m p.1=p.2:=by rw [<-h,Si hl hp]
  have h2:c0 m p.1≠0:=by rw [h1]; exact zl p hp
  have:=pV hm (QP h2);rw [h1] at this;simp only at this;rw [this]; simp
def EW{l m:Po}(hl:ND l)(hm:ND m)(zl:NZ l)(zm:NZ m)(h:∀ g,L g l=L g m):zj l m=true :=
 UM hl hm zl zm fun k=>by rw [<-M7 hl,<-M7 hm,h]
def fF:Po->Nat
 | []=>0
 | p :: l=>p.2.natAbs+fF l
def AR:∀ (l m:Po),fF (l++m)=fF l+fF m
 | [],m=>by simp [fF]
 | p :: l,m=>by rw [aB,fF,fF,AR l m]; lia
def we{l:Po}{p:Int×Int}(h:p∈l):p.2.natAbs<=fF l:=by
 induction l with
 | nil=>cases h
 | cons q l ih =>
  rw [fF];rcases List.mem_cons.mp h with rfl | h
  ·lia
  ·have:=ih h; lia
theorem yJ(k v:Int):∀ (l:Po),ND l->k∈l.map (·.1)->fF (l.map fun p=>if p.1=k then (p.1,v) else p)+(c0 l k).natAbs=fF l+v.natAbs
 | [],_,h=>by cases h
 | p :: l,hn,h=>by
  rw [ak,Fi];by_cases e:p.1=k
  ·rw [if_pos e,if_pos e,fF,fF];have:l.map (fun p=>if p.1=k then (p.1,v) else p)=l:=by
    conv=>rhs; rw [<-nC l]
    refine dE fun q hq=>?_;rw [if_neg]; rfl;intro z; exact hn.head (by rw [e,<-z]; exact bR hq)
   rw [this];show v.natAbs+fF l+_=_;lia
  ·have:=yJ k v l hn.tail (by
    rw [ak,bJ] at h;rcases h with h | h
    ·exact absurd h.symm e
    ·exact h)
   rw [if_neg e,if_neg e,fF,fF];lia
theorem GV{l:Po}(hn:ND l)(p:Int×Int):fF (plus l p)<=fF l+p.2.natAbs:=by
 unfold plus;by_cases h:p.1∈l.map (·.1)
 ·rw [BD h];have:=yJ p.1 (c0 l p.1+p.2) l hn h;have:=Int.natAbs_add_le (c0 l p.1) p.2;lia
 ·rw [jC h,AR,Sh h];simp [fF]
def xS(l:Po):fF (gc l)<=fF l:=by
 induction l with
 | nil=>exact aE _
 | cons p l ih =>
  unfold gc at *;rw [bW];split
  ·rw [fF,fF]; lia
  ·rw [fF]; lia
theorem GU(p:Int×Int):∀ (m a:Po),ND a->fF (mJ m a p)<=fF a+p.2.natAbs * fF m
 | [],a,_=>by simp [mJ,fF]
 | q :: m,a,h=>by
  have ih:=GU p m (plus a (p.1+q.1,p.2 * q.2)) (ua h _);have:=GV h (p.1+q.1,p.2 * q.2);unfold mJ at *;rw [cM,fF,Nat.mul_add];have e:(p.2 * q.2).natAbs=p.2.natAbs * q.2.natAbs:=Int.natAbs_mul _ _;simp only at this;lia
theorem vc(l m:Po):fF (iI l m)<=fF l * fF m:=by
 refine bc (xS _) ?_;unfold lQ;have:∀ (l a:Po),ND a->fF (l.foldl (mJ m) a)<=fF a+fF l * fF m:=by
  intro l;induction l with
  | nil=>intro a _; simp [fF]
  | cons p l ih =>
   intro a h;rw [cM];have h1:=ih _ (Ef (m:=m) h p);have h2:=GU p m a h;rw [fF,Nat.add_mul]; lia
 have:=this l [] .nil;simpa [fF] using this
def qx(l:Po):∀ n,fF (d8 l n)<=fF l ^ n
 | 0=>by simp [d8,fF]
 | n+1=>bc (vc _ _) (by rw [xB]; exact iT _ (qx l n))
def GW:∀ (m l:Po),ND l->fF (m.foldl plus l)<=fF l+fF m
 | [],l,_=>by simp [fF]
 | p :: m,l,h=>by
  have h1:=GW m _ (ua h p);have h2:=GV h p;rw [cM,fF]; lia
def QE{l:Po}(h:ND l)(m:Po):fF (za l m)<=fF l+fF m:=bc (xS _) (GW m l h)
def NL(l:Po):∀ n,NZ (d8 l n)
 | 0=>fun p h=>by
  simp only [d8,cK] at h;subst h; decide
 | n+1=>AK _
end Y
end K2
end
section
namespace K2
open PySem (Str)
open Enc (enc)
theorem Qh{κ α:Type} [DecidableEq κ] [Enc κ] [tU κ] [DecidableEq α] [Enc α]{a:Nat}{l:List (κ×α)}{k:κ}{v:α}{G:Gp}{Q:DK}(h:G a=some (.fU (bb l)))(hv:cp l k=some v)(q:Q (enc v) G):j6 (.ref a) (enc k) G Q:=by
 rw [TR h (kD l k) (by rw [pK,hv]; rfl)]; exact q
class FC (α:Type) [DecidableEq α] [Enc α] [aU α] where
 mn:∀ {x:D} {G:Gp} {xs:List α} {Q:DK},itemsOf x G=some (xs.map enc)->xs≠[]->(∀ m∈xs,(∀ y∈xs,Hr m y=true)->Q (enc m) G)->Sb [x] G Q
theorem kE{α:Type} [DecidableEq α] [Enc α] [aU α]:∀ (r:List α) (a:α),r.foldl (fun m x=>if aU.lt x m=true then x else m) a∈a :: r/\∀ y∈a :: r,Hr (r.foldl (fun m x=>if aU.lt x m=true then x else m) a) y=true
 | [],a=>⟨by simp,fun y hy=>by rw [List.mem_singleton.mp hy]; unfold Hr; rw [List.foldl_nil,aU.IY]; rfl⟩
 | b :: r,a=>by
  rw [cM];by_cases c:aU.lt b a=true
  ·rw [if_pos c];obtain⟨h1,h2⟩:=kE r b;refine⟨aG _ h1,fun y hy=>?_⟩;rcases List.mem_cons.mp hy with rfl | hy
   ·refine C6 _ _ _ (h2 b (by simp)) ?_;unfold Hr;cases q:aU.lt y b with
    | false=>rfl
    | true=>have:=aU.trans _ _ _ q c; rw [aU.IY] at this; cases this
   ·exact h2 y hy
  ·rw [if_neg c];obtain⟨h1,h2⟩:=kE r a;refine⟨?_,fun y hy=>?_⟩
   ·rcases List.mem_cons.mp h1 with h | h
    ·rw [h]; simp
    ·exact aG _ (aG _ h)
   ·rcases List.mem_cons.mp hy with rfl | hy
    ·exact h2 y (by simp)
    ·rcases List.mem_cons.mp hy with rfl | hy
     ·refine C6 _ _ _ (h2 a (by simp)) ?_;unfold Hr; simpa using c
     ·exact h2 y (aG _ hy)
instance:FC Int where
 mn:=by
  intro x G xs Q hi tm k;cases xs with
  | nil=>exact absurd rfl tm
  | cons a r =>
   obtain⟨h1,h2⟩:=kE r a;refine .inl ⟨a :: r,_,hi,rfl,?_⟩;have:(fun (m x:Int)=>if x < m then x else m)=fun m x=>if aU.lt x m=true then x else m:=by
    funext m x;show (if x < m then x else m)=if decide (x < m)=true then x else m
    simp
   show Q (enc (r.foldl (fun m x=>if x < m then x else m) a)) G;rw [this];exact k _ h1 h2
def ve:∀ (x y:List Int),rR (fun a b=>decide (a < b)) x y=lexLt x y
 | [],[]=>rfl
 | [],_ :: _=>rfl
 | _ :: _,[]=>rfl
 | a :: x,b :: y=>by simp only [xY,lexLt,ve x y]
instance:FC T3 where
 mn:=by
  intro x G xs Q hi tm k;cases xs with
  | nil=>exact absurd rfl tm
  | cons a r =>
   obtain⟨h1,h2⟩:=kE r a;have ei:itemsOf x G=some (((a :: r).map T3.l).map tI):=by rw [hi,bq]; rfl
   refine .inr ⟨(a :: r).map T3.l,_,ei,rfl,?_⟩;have:∀ (r:List T3) (a:T3),(r.map T3.l).foldl (fun m x=>if lexLt x m=true then x else m) a.l=(r.foldl (fun m x=>if aU.lt x m=true then x else m) a).l:=by
    intro r;induction r with
    | nil=>intro a; rfl
    | cons b r ih =>
     intro a;rw [ak,cM,cM];have e:(if lexLt b.l a.l=true then b.l else a.l)=(if aU.lt b a=true then b else a).l:=by
      have:aU.lt b a=lexLt b.l a.l:=ve _ _;rw [this];split <;> rfl
     rw [e]; exact ih _
   rw [this r a];exact k _ h1 h2
namespace P
theorem jC{κ β:Type} [DecidableEq κ]{l:List (κ×β)}{k:κ}{v:β}(h:k∉l.map (·.1)):fc l k v=l++[(k,v)]:=by
 unfold fc;rw [if_neg];intro q;obtain⟨p,h1,h2⟩:=List.any_eq_true.mp q;exact h (List.mem_map.mpr ⟨p,h1,by simpa using h2⟩)
theorem HJ{κ β γ:Type} [DecidableEq κ](kf:γ->κ)(vf:γ->β):∀ (ps:List γ) (l:List (κ×β)),(l.map (·.1)++ps.map kf).Nodup->ps.foldl (fun l p=>fc l (kf p) (vf p)) l=l++ps.map fun p=>(kf p,vf p)
 | [],l,_=>by simp
 | p :: ps,l,h=>by
  rw [cM,jC (fun z=>by
   rw [ak,cY] at h;exact h.2.2 _ z _ (by simp) rfl),HJ kf vf ps _ (by simpa using h)]
  simp
theorem tM{κ β:Type} [DecidableEq κ]:∀ {l:List (κ×β)} {p:κ×β},(l.map (·.1)).Nodup->p∈l->cp l p.1=some p.2
 | q :: l,p,hn,h=>by
  unfold cp;rw [d4];rcases List.mem_cons.mp h with rfl | h
  ·simp
  ·rw [ak,aS] at hn;have:q.1≠p.1:=fun z=>hn.1 (by rw [z]; exact bR h);simp only [this,decide_false];exact tM hn.2 h
theorem Hf{κ β:Type} [DecidableEq κ]{l:List (κ×β)}{k:κ}{v:β}(h:cp l k=some v):(k,v)∈l:=by
 unfold cp at h;cases q:l.find? (fun p=>decide (p.1=k)) with
 | none=>rw [q] at h; cases h
 | some p =>
  rw [q] at h;have h1:=pZ q;have h2:=iE q;simp at h h1;rw [<-h,<-h1]; exact h2
def yx(r:List T3):(jE r).length=r.length:=by unfold jE; rw [aC,cq,d6]; lia
def DY(r:List T3):(jE r).Perm r:=by
 unfold jE;exact List.perm_append_comm.trans (by rw [xl])
theorem ue(rows:Rows):(pairsOf rows).map (·.1)=rows.flatten:=by
 unfold pairsOf;induction rows with
 | nil=>rfl
 | cons r rs ih =>
  rw [cZ,aN,ih,ff];congr 1;rw [List.map_fst_zip]; rw [yx]; exact aE _
theorem ud(rows:Rows):((pairsOf rows).map (·.2)).Perm rows.flatten:=by
 unfold pairsOf;induction rows with
 | nil=>exact .refl _
 | cons r rs ih =>
  rw [cZ,aN,ff];refine zY ?_ ih;rw [List.map_snd_zip]
  ·exact DY r
  ·rw [yx]; exact aE _
variable {rows:Rows}
def RM(d:Dr rows):((pairsOf rows).map fun p=>p.1.s).Nodup:=by
 have:((pairsOf rows).map fun p=>p.1.s)=rows.flatten.map T3.s:=by rw [<-ue,bq]; rfl
 rw [this]; exact d.nd
theorem Wv(d:Dr rows):((pairsOf rows).map fun p=>p.2.s).Nodup:=by
 have:((pairsOf rows).map fun p=>p.2.s)=((pairsOf rows).map (·.2)).map T3.s:=by rw [bq]; rfl
 rw [this,((ud rows).map T3.s).nodup_iff]; exact d.nd
def QN(d:Dr rows):nX (pairsOf rows)=(pairsOf rows).map fun p=>(p.1.s,p.2.s):=by
 unfold nX;rw [HJ (fun p:T3×T3=>p.1.s) (fun p=>p.2.s) _ _ (by simpa using RM d)]; rfl
def pas(rows:Rows)(s:T2):T3:=(rows.flatten.find? fun p=>decide (p.s=s)).getD ⟨0,0,0⟩
def nxt(rows:Rows)(s:T2):T2:=(cp ((pairsOf rows).map fun p=>(p.1.s,p.2.s)) s).getD s
def cmg(rows:Rows)(s:T2):T2:=(cp ((pairsOf rows).map fun p=>(p.2.s,p.1.s)) s).getD s
def mt(p:T3):T2:=⟨p.a,1 - p.b⟩
def fst(p:T3):Bool:=decide (p.b=0) == decide (p.c=1)
theorem Mi(d:Dr rows){p:T3}(h:p∈rows.flatten):pas rows p.s=p:=by
 unfold pas;cases q:rows.flatten.find? (fun x=>decide (x.s=p.s)) with
 | none=>rw [iw] at q; exact absurd (by simp) (q p h)
 | some x =>
  have h1:=pZ q;have h2:=iE q;have h1:x.s=p.s:=by simpa using h1
  have:∀ (L:List T3),(L.map T3.s).Nodup->x∈L->p∈L->x=p:=by
   intro L;induction L with
   | nil=>intro _ h; cases h
   | cons y L ih =>
    intro hn hx hp;rw [ak,aS] at hn;rcases List.mem_cons.mp hx with e1 | hx2
    ·rcases List.mem_cons.mp hp with e2 | pz
     ·rw [e1,e2]
     ·exact absurd (by rw [<-e1,h1]; exact bR pz) hn.1
    ·rcases List.mem_cons.mp hp with e2 | pz
     ·exact absurd (by rw [<-e2,<-h1]; exact bR hx2) hn.1
     ·exact ih hn.2 hx2 pz
  exact this _ d.nd h2 h
def RH{p:T3}(h:p∈rows.flatten):∃ q,(p,q)∈pairsOf rows/\q∈rows.flatten:=by
 rw [<-ue] at h;obtain⟨x,hx,rfl⟩:=List.mem_map.mp h;exact⟨x.2,hx,(ud rows).mem_iff.mp (bR hx)⟩
def RG{q:T3}(h:q∈rows.flatten):∃ p,(p,q)∈pairsOf rows/\p∈rows.flatten:=by
 rw [<-(ud rows).mem_iff] at h;obtain⟨x,hx,rfl⟩:=List.mem_map.mp h;exact⟨x.1,hx,by rw [<-ue]; exact bR hx⟩
def om(p:T3):T3:=⟨p.a,1 - p.b,p.c⟩
def QA(d:Dr rows){p:T3}(h:p∈rows.flatten):om p∈rows.flatten:=d.Cc p h
def Vu(p:T3):om (om p)=p:=by
 unfold om; cases p; simp only [T3.mk.injEq,true_and,and_true]; lia
def step(rows:Rows)(x:T3):T3 :=
 if x.b=2 then x else
 let al:=decide (x.c=0)
 let p:=if al=true then pas rows (nxt rows x.s) else pas rows x.s
 if (fst p == al)=true then lft (mt p) else rgt (cmg rows (mt p))
theorem nH{n:Int}:n∈names rows↔∃ p∈rows.flatten,p.b=0/\p.a=n:=by
 unfold names;rw [TG,List.mem_map];constructor
 ·rintro⟨p,h,rfl⟩;obtain⟨h1,h2⟩:=List.mem_filter.mp h;exact⟨p,h1,by simpa using h2,rfl⟩
 ·rintro⟨p,h1,h2,rfl⟩;exact⟨p,List.mem_filter.mpr ⟨h1,by simpa using h2⟩,rfl⟩
theorem MI(d:Dr rows){p:T3}(h:p∈rows.flatten):handOf rows p.a=p.c:=by
 unfold handOf;cases q:rows.flatten.find? (fun x=>x.a == p.a) with
 | none=>rw [iw] at q; exact absurd (by simp) (q p h)
 | some x =>
  have h1:x.a=p.a:=by simpa using pZ q
  have h2:=iE q;show x.c=p.c;have hw:=d.way p h;have hw2:=d.way x h2;by_cases e:x.b=p.b
  ·have:x.s=p.s:=by unfold T3.s; rw [h1,e]
   have e1:=Mi d h2;rw [this,Mi d h] at e1;rw [e1]
  ·have:(om x).s=p.s:=by unfold T3.s om; rw [h1]; congr 1; dsimp only; lia
   have e1:=Mi d (QA d h2);rw [this,Mi d h] at e1;rw [e1]; rfl
end P
end K2
end
section
set_option maxHeartbeats 1000000
namespace K2
open Enc (enc)
instance {α β:Type} [DecidableEq α] [Enc α] [aU α] [DecidableEq β] [Enc β] [aU β]:aU (α×β) where
 lt:=fun x y=>if x.1=y.1 then aU.lt x.2 y.2 else aU.lt x.1 y.1
 B8:=.tup [aU.B8 α,aU.B8 β]
 Bc:=fun x=>by
  show (cN _ (enc x.1)&&(cN _ (enc x.2)&&true))=true;rw [aU.Bc,aU.Bc]; rfl
 S6:=fun x y=>by
  show ni [enc x.1,enc x.2] [enc y.1,enc y.2]=_;rw [nY,nY,Enc.eqv,Enc.eqv,aU.S6,aU.S6,show ni [] []=false from rfl];by_cases h:x.1=y.1
  ·simp only [h,decide_true,if_true];by_cases h2:x.2=y.2
   ·simp only [h2,decide_true,if_true]; exact(aU.IY _).symm
   ·simp only [h2,decide_false,au,if_false]
  ·simp only [h,decide_false,au,if_false]
 IY:=fun x=>by simp only [if_true]; exact aU.IY _
 trans:=fun x y z h1 h2=>by
  by_cases e1:x.1=y.1
  ·rw [if_pos e1] at h1;by_cases e2:y.1=z.1
   ·rw [if_pos e2] at h2;rw [if_pos (e1.trans e2)];exact aU.trans _ _ _ h1 h2
   ·rw [if_neg e2] at h2;rw [if_neg (fun q=>e2 (e1.symm.trans q)),e1]; exact h2
  ·rw [if_neg e1] at h1;by_cases e2:y.1=z.1
   ·rw [if_neg (fun q=>e1 (q.trans e2.symm)),<-e2]; exact h1
   ·rw [if_neg e2] at h2;have h3:=aU.trans _ _ _ h1 h2;rw [if_neg (fun q=>by rw [q,aU.IY] at h3; cases h3)]; exact h3
 oA:=fun x y h1 h2=>by
  by_cases e1:x.1=y.1
  ·rw [if_pos e1] at h1;rw [if_pos e1.symm] at h2;exact Prod.ext e1 (aU.oA _ _ h1 h2)
  ·rw [if_neg e1] at h1;rw [if_neg (fun q=>e1 q.symm)] at h2;exact absurd (aU.oA _ _ h1 h2) e1
namespace J
def NN(l:List (T3×T3)):Pr T3:=PS (l.filter fun p=>aU.lt p.1 p.2)
theorem AW{κ β:Type} [DecidableEq κ]:∀ {l:List (κ×β)},(l.map (·.1)).Nodup->∀ {p:κ×β},p∈l->cp l p.1=some p.2
 | [],_,_,h=>by cases h
 | q :: l,nd,p,h=>by
  rw [ak,aS] at nd;unfold cp;rcases List.mem_cons.mp h with rfl | h
  ·rw [ck (by simp)]; rfl
  ·have:¬ q.1=p.1:=fun z=>nd.1 (by rw [z]; exact bR h);rw [cm (by simpa using this)];exact AW nd.2 h
theorem Fq{κ β:Type} [DecidableEq κ]{l:List (κ×β)}{k:κ}{v:β}(h:cp l k=some v):(k,v)∈l:=by
 unfold cp at h;obtain⟨p,h1,h2⟩:=Option.map_eq_some_iff.mp h;have h3:=pZ h1;have h4:=iE h1;simp at h3;rw [<-h3,<-h2]; exact h4
def M8.mem{l:List (T3×T3)}{f:T3->T3}(h:M8 l f){p:T3×T3}(hp:p∈l):f p.1=p.2/\f p.1≠p.1:=by
 have a:=AW h.nd hp;rw [h.at'] at a;split at a
 ·cases a
 ·rename_i z; exact⟨aZ a,z⟩
def Uy{α:Type} [DecidableEq α] [Enc α] [aU α]{a b:α}(h1:aU.lt a b=true)(h2:aU.lt b a=true):False:=by
 have:=aU.trans _ _ _ h1 h2;rw [aU.IY] at this; cases this
theorem MQ{f:T3->T3}(iv:Iv f):∀ {l:List (T3×T3)},(l.map (·.1)).Nodup->(∀ p∈l,f p.1=p.2)->(es (l.filter fun p=>aU.lt p.1 p.2)).Nodup
 | [],_,_=>cj
 | p :: l,nd,h=>by
  rw [ak,aS] at nd;have ih:=MQ iv nd.2 fun q hq=>h q (aG _ hq);rw [bW];split
  ·rename_i hl;have fp:=h p (by simp);rw [es,aS,aS,bJ,not_or];have out:∀ q∈l.filter (fun p=>aU.lt p.1 p.2),p.1≠q.1/\p.1≠q.2/\p.2≠q.1/\p.2≠q.2:=fun q hq=>by
    have VL:=List.mem_filter.mp hq;have fq:=h q (aG _ VL.1);have n1:p.1≠q.1:=fun z=>nd.1 (by rw [z]; exact bR VL.1);have n2:p.1=q.2->p.2=q.1:=fun z=>by rw [<-fp,z,<-fq,iv]
    have n3:p.2=q.1->p.1=q.2:=fun z=>by rw [<-fq,<-z,<-fp,iv]
    have V0:¬ (p.1=q.2/\p.2=q.1):=fun ⟨a,b⟩=>Uy hl (by rw [a,b]; exact VL.2);refine⟨n1,fun z=>V0 ⟨z,n2 z⟩,fun z=>V0 ⟨n3 z,z⟩,fun z=>n1 ?_⟩;have:=congrArg f z;rw [<-fp,<-fq,iv,iv] at this;exact this
   have ne:p.1≠p.2:=fun z=>by rw [z,aU.IY] at hl; cases hl
   refine⟨⟨ne,fun z=>?_⟩,fun z=>?_,ih⟩
   ·obtain⟨q,hq,e⟩:=qG.mp z;rcases e with e | e
    ·exact(out q hq).1 e
    ·exact(out q hq).2.1 e
   ·obtain⟨q,hq,e⟩:=qG.mp z;rcases e with e | e
    ·exact(out q hq).2.2.1 e
    ·exact(out q hq).2.2.2 e
  ·exact ih
theorem Me{l:List (T3×T3)}{f:T3->T3}(h:M8 l f)(iv:Iv f):(es (NN l)).Nodup/\pt (NN l)=f:=by
 have sp:=sG (l.filter fun p=>aU.lt p.1 p.2);have nd0:=MQ iv h.nd fun p hp=>(h.mem hp).1;have nd:(es (NN l)).Nodup:=(wU sp).nodup_iff.mpr nd0;refine⟨nd,Vq nd (fun p hp=>?_) fun e he=>?_⟩
 ·have zc:=(List.mem_filter.mp (sp.mem_iff.mp hp)).1;have:=(h.mem zc).1;exact⟨this,by rw [<-this,iv]⟩
 ·refine g7 fun z=>he ?_;have a1:cp l e=some (f e):=by rw [h.at',if_neg z]
  have z2:f (f e)≠f e:=fun q=>z (by rw [iv] at q; exact q.symm);have a2:cp l (f e)=some e:=by rw [h.at',if_neg z2,iv]
  have m1:=Fq a1;have m2:=Fq a2;rw [qG];by_cases hl:aU.lt e (f e)=true
  ·exact⟨(e,f e),sp.mem_iff.mpr (List.mem_filter.mpr ⟨m1,hl⟩),.inl rfl⟩
  ·by_cases zd:aU.lt (f e) e=true
   ·exact⟨(f e,e),sp.mem_iff.mpr (List.mem_filter.mpr ⟨m2,zd⟩),.inr rfl⟩
   ·exact absurd (aU.oA _ _ (by simpa using zd) (by simpa using hl)) z
def KW(P:Pr T3):List (T3×T3):=P.foldl (fun l p=>fc (fc l p.1 p.2) p.2 p.1) []
theorem MP:∀ {P:Pr T3},(es P).Nodup->M8 (KW P) (pt P):=by
 have main:∀ (P:Pr T3) (l:List (T3×T3)) (f:T3->T3),M8 l f->(es P).Nodup->(∀ e∈es P,f e=e)->M8 (P.foldl (fun l p=>fc (fc l p.1 p.2) p.2 p.1) l) (fun e=>if e∈es P then pt P e else f e):=by
  intro P;induction P with
  | nil =>
   intro l f h _ _;have:(fun e=>if e∈es ([]:Pr T3) then pt [] e else f e)=f:=by funext e; simp [es]
   rw [this]; exact h
  | cons p P ih =>
   intro l f h nd hf;rw [es,aS,aS,bJ,not_or] at nd;have f1:f p.1=p.1:=hf _ (by simp [es]);have f2:f p.2=p.2:=hf _ (by simp [es]);have h2:M8 (fc (fc l p.1 p.2) p.2 p.1) (fun e=>if e=p.1 then p.2 else if e=p.2 then p.1 else f e):=by
    refine⟨qV (qV h.nd),fun e=>?_⟩;rw [uC,uC,h.at'];have:=nd.1.1
    grind
   have:=ih _ _ h2 nd.2.2 fun e he=>by
    have m1:e≠p.1:=fun z=>nd.1.2 (z ▸ he);have m2:e≠p.2:=fun z=>nd.2.1 (z ▸ he);simp only [if_neg m1,if_neg m2];exact hf e (by simp [es,he])
   rw [cM];have e2:(fun e=>if e∈es (p :: P) then pt (p :: P) e else f e)=fun e=>if e∈es P then pt P e else if e=p.1 then p.2 else if e=p.2 then p.1 else f e:=by
    funext e;rw [es,pt];by_cases he:e∈es P
    ·have m1:e≠p.1:=fun z=>nd.1.2 (z ▸ he);have m2:e≠p.2:=fun z=>nd.2.1 (z ▸ he);rw [if_pos (by simp [he]),if_neg m1,if_neg m2,if_pos he]
    ·rw [if_neg he];by_cases m1:e=p.1
     ·rw [if_pos (by simp [m1]),if_pos m1,if_pos m1]
     ·by_cases m2:e=p.2
      ·rw [if_pos (by simp [m2]),if_neg m1,if_pos m2,if_neg m1,if_pos m2]
      ·rw [if_neg (by simp [m1,m2,he]),if_neg m1,if_neg m2]
   rw [e2]; exact this
 intro P nd;have:=main P [] (fun e=>e) ⟨cj,fun e=>by simp [cp]⟩ nd (fun _ _=>rfl);have e2:(fun e=>if e∈es P then pt P e else e)=pt P:=by
  funext e;by_cases he:e∈es P
  ·rw [if_pos he]
  ·rw [if_neg he,oN he]
 rw [e2] at this; exact this
theorem MO(P:Pr T3):(KW P).length<=2 * P.length:=by
 have:∀ (P:Pr T3) (l:List (T3×T3)),(P.foldl (fun l p=>fc (fc l p.1 p.2) p.2 p.1) l).length<=l.length+2 * P.length:=by
  intro P;induction P with
  | nil=>intro l; simp
  | cons p P ih =>
   intro l;have h1:=ih (fc (fc l p.1 p.2) p.2 p.1);have h2:=tL (fc l p.1 p.2) p.2 p.1;have h3:=tL l p.1 p.2;rw [cM,ah]; lia
 have:=this P [];simpa [KW] using this
end J
end K2
end
section
set_option maxHeartbeats 1000000
namespace K2
open Enc (enc)
namespace J
open Y (Po L ND NZ fF za iI mI d8)
def oZ(P:Pr T3):PK:=P.map fun p=>[p.1.l,p.2.l]
def acM:List (List Int)->T3×T3
 | [[a,b,c],[x,y,z]]=>(⟨a,b,c⟩,⟨x,y,z⟩)
 | _=>(⟨0,0,0⟩,⟨0,0,0⟩)
def dec(k:PK):Pr T3:=k.map acM
def K5(P:Pr T3):dec (oZ P)=P:=by
 unfold dec oZ;rw [bq]
 conv=>rhs; rw [<-nC P]
 rfl
def Qq(P:Pr T3):rm (oZ P)=.tup (P.map enc):=by
 unfold rm oZ;rw [bq];rfl
abbrev Su:=List (PK×Po)
def je(S:Su):List (PK×D):=S.map fun p=>(p.1,D.kH (bb p.2))
def C4(S:Su)(k:PK):rC (je S) k=(cp S k).map fun l=>D.kH (bb l):=by
 unfold rC cp je;rw [List.find?_map,Option.map_map,Option.map_map];rfl
theorem Qk(S:Su)(k:PK)(l:Po):NH (je S) k (.kH (bb l))=je (fc S k l):=by
 unfold NH fc je;rw [List.any_map];split
 ·rename_i h;rw [if_pos (by simpa [SX] using h),bq,bq];refine dE fun p _=>?_;simp only [Function.comp];split <;> rfl
 ·rename_i h;rw [if_neg (by simpa [SX] using h),aN]; rfl
def oA(ns:List (Int×Int))(g:Fn):Su->Int
 | []=>0
 | p :: S=>L (fun j=>Br (pt (dec p.1)) ns (sh j g)) p.2+oA ns g S
def LM(ns:List (Int×Int))(g:Fn)(S S':Su):oA ns g (S++S')=oA ns g S+oA ns g S':=by
 induction S with
 | nil=>simp [oA]
 | cons p S ih=>rw [aB,oA,oA,ih]; lia
theorem Tx(ns:List (Int×Int))(g:Fn)(k:PK)(l:Po):∀ {S:Su},(S.map (·.1)).Nodup->oA ns g (fc S k l)=oA ns g S+(L (fun j=>Br (pt (dec k)) ns (sh j g)) l - L (fun j=>Br (pt (dec k)) ns (sh j g)) ((cp S k).getD []))
 | S,nd=>by
  unfold fc;split
  ·rename_i h;have main:∀ {S:Su},(S.map (·.1)).Nodup->(S.any fun p=>decide (p.1=k))=true->oA ns g (S.map fun p=>if p.1=k then (p.1,l) else p)=oA ns g S+(L (fun j=>Br (pt (dec k)) ns (sh j g)) l - L (fun j=>Br (pt (dec k)) ns (sh j g)) ((cp S k).getD [])):=by
    intro S;induction S with
    | nil=>intro _ h; cases h
    | cons p S ih =>
     intro nd h;rw [ak,aS] at nd;rw [ak,oA,oA];by_cases e:p.1=k
     ·have e2:(S.map fun p=>if p.1=k then (p.1,l) else p)=S:=by
       conv=>rhs; rw [<-nC S]
       refine dE fun q hq=>?_;rw [if_neg]; rfl;intro z; exact nd.1 (by rw [e,<-z]; exact bR hq)
      have e3:cp (p :: S) k=some p.2:=by unfold cp; rw [ck (by simpa using e)]; rfl
      rw [e2,e3,if_pos e,e];simp only [oh];lia
     ·have e3:cp (p :: S) k=cp S k:=by unfold cp; rw [cm (by simpa using e)]
      rw [e3,if_neg e,ih nd.2 (by simpa [e] using h)];lia
   exact main nd h
  ·rename_i h;rw [LM];have e3:cp S k=none:=by
    unfold cp;have:S.find? (fun p=>decide (p.1=k))=none:=by
     rw [iw];intro p hp z;exact h (List.any_eq_true.mpr ⟨p,hp,z⟩)
    rw [this]; rfl
   rw [e3];show oA ns g S+(L _ l+0)=_;simp only [CB,L];lia
def LP:Po:=[(2,-1),(-2,-1)]
def acY(g:Fn)(i:Int):L (fun j=>g (i+j)) LP=lp g i:=by
 show -1 * g (i+2)+(-1 * g (i+-2)+0)=-(g (i+2)) - g (i - 2);rw [show i+-2=i - 2 by lia]; lia
def QU(n:Nat)(g:Fn):jd n (lp g)=lp (jd n g):=by
 induction n with
 | zero=>rfl
 | succ n ih=>rw [jd,jd,ih]
theorem vA:∀ (n:Nat) (g:Fn),L g (d8 LP n)=jd n g 0
 | 0,g=>by show 1 * g 0+0=g 0; lia
 | n+1,g=>by
  show L g (iI (d8 LP n) LP)=_;rw [Y.BQ];have:(fun i=>L (fun j=>g (i+j)) LP)=lp g:=by funext i; exact acY g i
  rw [this,vA n,QU]; rfl
theorem Kl(f:T3->T3)(ns:List (Int×Int))(g:Fn):∀ (n:Nat) (b:Int),jd n (fun t=>Br f ns (sh (t+b) g))=fun t=>Br f ns (sh (t+b) (jd n g))
 | 0,b=>rfl
 | n+1,b=>by
  rw [jd,Kl f ns g n b];funext t;show -(Br f ns (sh (t+2+b) (jd n g))) - Br f ns (sh (t - 2+b) (jd n g))=Br f ns (sh (t+b) (lp (jd n g)));have e:sh (t+b) (lp (jd n g))=pl (sc (-1) (sh (t+2+b) (jd n g))) (sc (-1) (sh (t - 2+b) (jd n g))):=by
   funext i;show -(jd n g (i+(t+b)+2)) - jd n g (i+(t+b) - 2)=-1 * jd n g (i+(t+2+b))+-1 * jd n g (i+(t - 2+b));rw [show i+(t+b)+2=i+(t+2+b) by lia,show i+(t+b) - 2=i+(t - 2+b) by lia];lia
  rw [e,Nb,DO,DO]; lia
def T4(l:Po)(c:Nat)(b:Int):Po:=mI (iI l (d8 LP c)) b 1
theorem aab(f:T3->T3)(ns:List (Int×Int))(g:Fn)(l:Po)(c:Nat)(b:Int):L (fun j=>Br f ns (sh j g)) (T4 l c b)=L (fun j=>Br f ns (jd c (sh b (sh j g)))) l:=by
 unfold T4;rw [Y.SA,Y.BQ,Int.one_mul];congr 1;funext i;rw [vA];have:(fun j=>Br f ns (sh (i+j+b) g))=fun t=>Br f ns (sh (t+(i+b)) g):=by
  funext t; rw [show i+t+b=t+(i+b) by lia]
 rw [this,Kl];show Br f ns (sh (0+(i+b)) (jd c g))=_;rw [FE,xW,xW,PW,Tp i b]
theorem Us(l:Po)(c:Nat)(b:Int):fF (T4 l c b)<=fF l * 2 ^ c:=by
 unfold T4 mI;refine bc (Y.xS _) ?_;have e:∀ m:Po,fF (m.map fun p=>(p.1+b,p.2 * 1))=fF m:=by
  intro m;induction m with
  | nil=>rfl
  | cons p m ih=>rw [ak,fF,fF,ih]; simp
 rw [e];exact bc (Y.vc _ _) (Nat.mul_le_mul_left _ (Y.qx LP c))
def uQ(A:Su)(k':PK)(l:Po)(c:Nat)(b:Int):Su:=fc A k' (za ((cp A k').getD []) (T4 l c b))
def OT(S:Su):Prop:=(S.map (·.1)).Nodup/\∀ p∈S,ND p.2/\NZ p.2
def OT.get{S:Su}(h:OT S)(k:PK):ND ((cp S k).getD [])/\NZ ((cp S k).getD []):=by
 cases e:cp S k with
 | none=>exact⟨Y.ND.nil,fun p hp=>by cases hp⟩
 | some l=>exact h.2 _ (Fq e)
theorem OT.put{S:Su}(h:OT S){k:PK}{l:Po}(h1:ND l)(h2:NZ l):OT (fc S k l):=by
 refine⟨qV h.1,fun p hp=>?_⟩;unfold fc at hp;split at hp
 ·obtain⟨q,hq,rfl⟩:=List.mem_map.mp hp;split
  ·exact⟨h1,h2⟩
  ·exact h.2 q hq
 ·rcases List.mem_append.mp hp with hp | hp
  ·exact h.2 p hp
  ·rw [cK] at hp; subst hp; exact⟨h1,h2⟩
def PQ{A:Su}(h:OT A)(k':PK)(l:Po)(c:Nat)(b:Int):OT (uQ A k' l c b):=h.put (Y.Ue (h.get k').1) (Y.AK _)
theorem PN{A:Su}(h:OT A)(ns:List (Int×Int))(g:Fn)(k':PK)(l:Po)(c:Nat)(b:Int):oA ns g (uQ A k' l c b)=oA ns g A+L (fun j=>Br (pt (dec k')) ns (jd c (sh b (sh j g)))) l:=by
 unfold uQ;rw [Tx ns g k' _ h.1,Y.X2 _ (h.get k').1,aab];lia
def iC:Su->Nat
 | []=>0
 | p :: S=>fF p.2+iC S
def AS(S S':Su):iC (S++S')=iC S+iC S':=by
 induction S with
 | nil=>simp [iC]
 | cons p S ih=>rw [aB,iC,iC,ih]; lia
theorem QF(k:PK)(l:Po):∀ {S:Su},(S.map (·.1)).Nodup->iC (fc S k l)+fF ((cp S k).getD [])<=iC S+fF l
 | S,nd=>by
  unfold fc;split
  ·rename_i h;have main:∀ {S:Su},(S.map (·.1)).Nodup->(S.any fun p=>decide (p.1=k))=true->iC (S.map fun p=>if p.1=k then (p.1,l) else p)+fF ((cp S k).getD [])<=iC S+fF l:=by
    intro S;induction S with
    | nil=>intro _ h; cases h
    | cons p S ih =>
     intro nd h;rw [ak,aS] at nd;rw [ak,iC,iC];by_cases e:p.1=k
     ·have e2:(S.map fun p=>if p.1=k then (p.1,l) else p)=S:=by
       conv=>rhs; rw [<-nC S]
       refine dE fun q hq=>?_;rw [if_neg]; rfl;intro z; exact nd.1 (by rw [e,<-z]; exact bR hq)
      have e3:cp (p :: S) k=some p.2:=by unfold cp; rw [ck (by simpa using e)]; rfl
      rw [e2,e3,if_pos e];simp only [oh];lia
     ·have e3:cp (p :: S) k=cp S k:=by unfold cp; rw [cm (by simpa using e)]
      have:=ih nd.2 (by simpa [e] using h);rw [e3,if_neg e];lia
   exact main nd h
  ·rename_i h;rw [AS];have e3:cp S k=none:=by
    unfold cp;have:S.find? (fun p=>decide (p.1=k))=none:=by
     rw [iw];intro p hp z;exact h (List.any_eq_true.mpr ⟨p,hp,z⟩)
    rw [this]; rfl
   rw [e3];show iC S+(fF l+0)+0<=_;lia
theorem PO{A:Su}(h:OT A)(k':PK)(l:Po){c:Nat}(hc:c<=2)(b:Int):iC (uQ A k' l c b)<=iC A+4 * fF l:=by
 unfold uQ;have h1:=QF k' (za ((cp A k').getD []) (T4 l c b)) h.1;have h2:=Y.QE (h.get k').1 (T4 l c b);have h3:=Us l c b;have h4:fF l * 2 ^ c<=fF l * 4:=Nat.mul_le_mul_left _ (show 2 ^ c<=2 ^ 2 from fD (by decide) hc);lia
theorem Mm(S:Su)(k:PK):fF ((cp S k).getD [])<=iC S:=by
 induction S with
 | nil=>exact aE _
 | cons p S ih =>
  unfold cp at *;rw [iC];by_cases e:p.1=k
  ·rw [ck (by simpa using e)]; simp only [vB,oh]; lia
  ·rw [cm (by simpa using e)]; lia
def xR:∀ {l:Po},NZ l->l.length<=fF l
 | [],_=>aE _
 | p :: l,h=>by
  have h1:=h p (by simp);have h2:=xR (l:=l) fun q hq=>h q (aG _ hq);rw [ah,fF]; lia
def kg(S:Su):Su:=S.filter fun p=>!p.2.isEmpty
theorem Q5(ns:List (Int×Int))(g:Fn)(S:Su):oA ns g (kg S)=oA ns g S:=by
 unfold kg;induction S with
 | nil=>rfl
 | cons p S ih =>
  rw [bW];split
  ·rw [oA,oA,ih]
  ·rename_i h;have:p.2=[]:=by simpa using h
   rw [ih,oA,this,L,FE]
def Hu{S:Su}(h:OT S):OT (kg S):=⟨oy (mG _ lE) h.1,fun p hp=>h.2 p (List.mem_filter.mp hp).1⟩
def Q6(S:Su):iC (kg S)<=iC S:=by
 unfold kg;induction S with
 | nil=>exact aE _
 | cons p S ih =>
  rw [bW];split
  ·rw [iC,iC]; lia
  ·rw [iC]; lia
theorem Q8{S:Su}(h:OT S):(kg S).length<=iC S:=by
 have:∀ {S:Su},(∀ p∈S,NZ p.2)->(kg S).length<=iC S:=by
  intro S;unfold kg;induction S with
  | nil=>intro _; exact aE _
  | cons p S ih =>
   intro h;have ih:=ih fun q hq=>h q (aG _ hq);rw [bW,iC];split
   ·rename_i z;have h1:=xR (h p (by simp));have h2:0 < p.2.length:=by
     cases q:p.2 with
     | nil=>rw [q] at z; cases z
     | cons _ _=>simp
    rw [ah]; lia
   ·lia
 exact this fun p hp=>(h.2 p hp).2
end J
end K2
end
section
namespace K2
open PySem (Str)
open Enc (enc)
namespace Y
structure Pl(G:Gp)(d:D)(l:Po):Prop where
 is:V8 G d l
 nd:ND l
def qQ{G G1:Gp}{p:Nat}{o:GO}{Q:DK}(l:ft G G1)(hp:G p=none)(h1:G1 p=some o)(q:ip G o Q):OW G1 (.ref p) Q:=EI l hp h1 (q p hp)
def EU(i j:Int):iM (.int i) (.int j)=decide (i=j):=Enc.eqv i j
def wa(l m:Po):gc (l++m)=gc l++gc m:=dS _ _
def J2{l:Po}{k:Int}(h:k∈(gc l).map (·.1)):k∈l.map (·.1):=(mG _ lE).subset h
def Vz{l pre post:Po}{p:Int×Int}(h:ND l)(e:l=pre++p :: post):p.1∉pre.map (·.1):=by
 subst e;unfold ND at h;rw [aN,ak,cY] at h;intro z;exact h.2.2 _ z _ (by simp) rfl
def AI{l pre post:Po}{p:Int×Int}(h:ND l)(e:l=pre++p :: post)(hz:p.2≠0):fc (gc pre) p.1 p.2=gc (pre++[p]):=by
 rw [jC fun z=>Vz h e (J2 z),wa];congr 1;simp [gc,hz]
def AJ{pre:Po}{p:Int×Int}(hz:p.2=0):gc (pre++[p])=gc pre:=by
 rw [wa]; simp [gc,hz]
def wW(i:Int):(enc i:D)=.int i:=rfl
def dc:jM:=fun ds G Q _=>∃ (d:D) (l:Po),ds=[d]/\Pl G d l/\l.length<=SZ/\ip G (.fU (bb (gc l))) Q
def nT:gN :=
 (b8 (bF mM (aI 1))
 (b8 (eF (lK (ar 0)) (jL (cX (aI 2) (cX (aI 3) jz))) (gi (ik (aX (JW true) (ar 3) (dC (.int 0)))) (bF (ar 3) (kh (ar 1) (ar 2))) dH))
 (cb (cz (ar 1)))))
theorem vw(ds:List D)(G:Gp)(Q:DK)(h:dc ds G Q fun _ _=>False):nT (fun _ _=>False) (ends Q) (aY 4 ds) G:=by
 obtain⟨d,l,rfl,hd,hl,q⟩:=h;unfold nT;simp only [ends,aY,ak,aQ,ah,aw,aT,aB,aM,cu,bF,mM,aI,ao,ai];intro p hp;refine dW (fun τ G'=>(∃ a b,τ=[some d,some (.ref p),a,b])/\ft G G'/\G' p=some (.fU (bb (gc l)))) ?_ ?_
 ·intro N hN;simp only [eF,lK,ar,aa];refine ma hd.is (.new hp) fun ok b7=>?_;refine dq (xs:=l) (fun pre τ G'=>(∃ a b,τ=[some d,some (.ref p),a,b])/\ft G G'/\G' p=some (.fU (bb (gc pre)))) ⟨⟨_,_,rfl⟩,.new hp,az⟩ (fun pre τ G' h=>b7 G' h.2.1) ?_ ?_
  ·rintro pre x post τ G' N2 e ⟨⟨a,b,rfl⟩,le,gp⟩ mH;have hlen:(gc pre).length < SZ:=by
    have:=uc pre;have:=congrArg dI e;rw [aC,ah] at this; lia
   simp only [jL,cX,aI,jz,ao,ai];refine⟨_,_,.int _,.int _,?_⟩;simp only [EU,if_true,bF,ar,ae,aa,kh,dH];by_cases hz:x.2=0
   ·simp only [hz,decide_true,bK];exact mH _ _ ⟨⟨_,_,rfl⟩,le,by rw [AJ hz]; exact gp⟩
   ·simp only [hz,decide_false,eW];refine fN (α:=Int) gp hlen ?_;exact mH _ _ ⟨⟨_,_,rfl⟩,le.put hp,by rw [az,<-AI hd.nd e hz]⟩
  ·rintro τ G' ⟨⟨a,b,rfl⟩,le,gp⟩;exact hN _ _ ⟨⟨_,_,rfl⟩,le,gp⟩
 ·rintro _ G' ⟨⟨a,b,rfl⟩,le,gp⟩;simp only [cb,cz,ar,ae,aa];exact qQ le hp gp q
def QR{G:Gp}{d:D}{l:Po}{i:Int}{Q:DK}(h:zq G d l)(k:Q (.int (c0 l i)) G):Kh d [.int i,.int 0] G Q:=Uw (α:=Int) (e:=0) h k
def hX{α:Type}{l pre post:List α}{x:α}(e:l=pre++x :: post):pre.length < l.length:=by
 have:=congrArg dI e;rw [aC,ah] at this; lia
def lY:jM:=fun ds G Q _=>∃ (d e:D) (l m:Po),ds=[d,e]/\Pl G d l/\Pl G e m/\l.length+m.length<=SZ/\ip G (.fU (bb (za l m))) Q
def Gz:gN :=
 (b8 (bF (ot MZ (av (ar 0) aO)) (aI 2))
 (b8 (eF (lK (ar 1)) (jL (cX (aI 3) (cX (aI 4) jz))) (bF (aX gK (xq S2 Kh (ar 2) (av (ar 3) (av (dC (.int 0)) aO))) (ar 4)) (kh (ar 2) (ar 3))))
 (cb (cz (br dc (av (cz (ar 2)) aO))))))
theorem Sz(ds:List D)(G:Gp)(Q:DK)(h:lY ds G Q fun _ _=>False):Gz (fun _ _=>False) (ends Q) (aY 5 ds) G:=by
 obtain⟨d,e,l,m,rfl,hd,he,hl,q⟩:=h;unfold Gz;simp only [ends,aY,ak,aQ,ah,aw,aT,aB,aM,cu,bF,ot,av,ar,aa,aO,aI,ao,ai];refine Sg hd.is.p (by lia) fun p hp=>?_;refine dW (fun τ G'=>(∃ a b,τ=[some d,some e,some (.ref p),a,b])/\ft G G'/\G' p=some (.fU (bb (uU l m)))) ?_ ?_
 ·intro N hN;simp only [eF,lK,ar,ae,aa];refine ma he.is (.new hp) fun ok b7=>?_;refine dq (xs:=m) (fun pre τ G'=>(∃ a b,τ=[some d,some e,some (.ref p),a,b])/\ft G G'/\G' p=some (.fU (bb (uU l pre)))) ⟨⟨_,_,rfl⟩,.new hp,az⟩ (fun pre τ G' h=>b7 G' h.2.1) ?_ ?_
  ·rintro pre x post τ G' N2 e2 ⟨⟨a,b,rfl⟩,le,gp⟩ mH;have hlen:(uU l pre).length < SZ:=by
    have:=CT l pre;have:=hX e2; lia
   simp only [jL,cX,aI,jz,bF,aX,xq,ar,ao,ai,ae,aa,tX,av,dC,aO,kh];refine⟨Jz (zq.ref gp),QR (zq.ref gp) ?_⟩;simp only [wW,cR];refine fN (α:=Int) gp hlen ?_;refine mH _ _ ⟨⟨_,_,rfl⟩,le.put hp,?_⟩;rw [az];unfold uU plus;rw [gO]; rfl
  ·rintro τ G' ⟨⟨a,b,rfl⟩,le,gp⟩;exact hN _ _ ⟨⟨_,_,rfl⟩,le,gp⟩
 ·rintro _ G' ⟨⟨a,b,rfl⟩,le,gp⟩;simp only [cb,cz,br,av,ar,ae,aa,aO];refine gY le hp gp ?_;refine⟨_,uU l m,rfl,⟨rfl,GP hd.nd⟩,by have:=CT l m; lia,fun p2 pz=>?_⟩;exact qQ (.new pz) pz az q
def iH:jM:=fun ds G Q _=>∃ (d:D) (l:Po) (b f:Int),ds=[d,.int b,.int f]/\Pl G d l/\l.length<=SZ/\(fF l < qU/\f.natAbs < qU)/\ip G (.fU (bb (mI l b f))) Q
def Am:gN :=
 (b8 (bF mM (aI 3))
 (b8 (eF (lK (ar 0)) (jL (cX (aI 4) (cX (aI 5) jz))) (bF (aX GC (ar 5) (ar 2)) (kh (ar 3) (aX gK (ar 4) (ar 1)))))
 (cb (cz (br dc (av (cz (ar 3)) aO))))))
def PX(b f:Int)(l:Po):Po:=l.map fun p=>(p.1+b,p.2 * f)
theorem JP{l pre post:Po}{p:Int×Int}(b f:Int)(h:ND l)(e:l=pre++p :: post):fc (PX b f pre) (p.1+b) (p.2 * f)=PX b f (pre++[p]):=by
 rw [jC,PX,PX,aN]; rfl;intro z;unfold PX at z;rw [bq] at z;obtain⟨r,hr,er⟩:=List.mem_map.mp z;have:r.1=p.1:=by have:r.1+b=p.1+b:=er; lia
 exact Vz h e (this ▸ bR hr)
theorem Lj(ds:List D)(G:Gp)(Q:DK)(h:iH ds G Q fun _ _=>False):Am (fun _ _=>False) (ends Q) (aY 6 ds) G:=by
 obtain⟨d,l,b,f,rfl,hd,hl,⟨hb,hf⟩,q⟩:=h;unfold Am;simp only [ends,aY,ak,aQ,ah,aw,aT,aB,aM,cu,bF,mM,aI,ao,ai];intro p hp;refine dW (fun τ G'=>(∃ u v,τ=[some d,some (.int b),some (.int f),some (.ref p),u,v])/\ft G G'/\G' p=some (.fU (bb (PX b f l)))) ?_ ?_
 ·intro N hN;simp only [eF,lK,ar,aa];refine ma hd.is (.new hp) fun ok b7=>?_;refine dq (xs:=l) (fun pre τ G'=>(∃ u v,τ=[some d,some (.int b),some (.int f),some (.ref p),u,v])/\ft G G'/\G' p=some (.fU (bb (PX b f pre)))) ⟨⟨_,_,rfl⟩,.new hp,az⟩ (fun pre τ G' h=>b7 G' h.2.1) ?_ ?_
  ·rintro pre x post τ G' N2 e ⟨⟨u,v,rfl⟩,le,gp⟩ mH;have hlen:(PX b f pre).length < SZ:=by
    have:=hX e;unfold PX; rw [aq]; lia
   have hx:x.2.natAbs < qU:=fC (we (by rw [e]; simp)) hb;simp only [jL,cX,aI,jz,bF,aX,ar,ao,ai,wW,ae,aa,kh,cR,t6];refine⟨⟨hx,hf⟩,?_⟩;refine fN (α:=Int) gp hlen ?_;exact mH _ _ ⟨⟨_,_,rfl⟩,le.put hp,by rw [az,<-JP b f hd.nd e]⟩
  ·rintro τ G' ⟨⟨u,v,rfl⟩,le,gp⟩;exact hN _ _ ⟨⟨_,_,rfl⟩,le,gp⟩
 ·rintro _ G' ⟨⟨u,v,rfl⟩,le,gp⟩;simp only [cb,cz,br,av,ar,ae,aa,aO];refine gY le hp gp ?_;refine⟨_,PX b f l,rfl,⟨rfl,Gq hd.nd b f⟩,by unfold PX; rw [aq]; exact hl,fun p2 pz=>?_⟩;exact qQ (.new pz) pz az q
def jl:jM:=fun ds G Q _=>∃ (d e:D) (l m:Po),ds=[d,e]/\Pl G d l/\Pl G e m/\l.length * m.length<=SZ/\(fF l < qU/\fF m < qU)/\ip G (.fU (bb (iI l m))) Q
def Gy:gN :=
 (b8 (bF mM (aI 2))
 (b8 (eF (lK (ar 0)) (jL (cX (aI 3) (cX (aI 4) jz))) (eF (lK (ar 1)) (jL (cX (aI 5) (cX (aI 6) jz))) (b8 (bF (aX gK (ar 3) (ar 5)) (aI 7))
 (bF (aX gK (xq S2 Kh (ar 2) (av (ar 7) (av (dC (.int 0)) aO))) (aX GC (ar 4) (ar 6))) (kh (ar 2) (ar 7))))))
 (cb (cz (br dc (av (cz (ar 2)) aO))))))
theorem Mp{l pre post:Po}{x:Int×Int}{m mp mq:Po}{y:Int×Int}(e:l=pre++x :: post)(e2:m=mp++y :: mq)(a:Po)(ha:a.length<=pre.length * m.length):(mJ mp a x).length < l.length * m.length:=by
 have h1:=GJ mp a x;have h2:=hX e;have h3:=hX e2;have h4:(pre.length+1) * m.length<=l.length * m.length:=iT _ h2;rw [Nat.succ_mul] at h4;lia
def Dl(m:Po):∀ (l:Po),(l.foldl (mJ m) []).length<=l.length * m.length:=fun l=>oM l m
theorem Sy(ds:List D)(G:Gp)(Q:DK)(h:jl ds G Q fun _ _=>False):Gy (fun _ _=>False) (ends Q) (aY 8 ds) G:=by
 obtain⟨d,e,l,m,rfl,hd,he,hl,⟨hb,hf⟩,q⟩:=h;unfold Gy;simp only [ends,aY,ak,aQ,ah,aw,aT,aB,aM,cu,bF,mM,aI,ao,ai];intro p hp;refine dW (fun τ G'=>(∃ a1 a2 a3 a4 a5,τ=[some d,some e,some (.ref p),a1,a2,a3,a4,a5])/\ft G G'/\G' p=some (.fU (bb (lQ l m)))) ?_ ?_
 ·intro N hN;simp only [eF,lK,ar,aa];refine ma hd.is (.new hp) fun ok b7=>?_;refine dq (xs:=l) (fun pre τ G'=>(∃ a1 a2 a3 a4 a5,τ=[some d,some e,some (.ref p),a1,a2,a3,a4,a5])/\ft G G'/\G' p=some (.fU (bb (pre.foldl (mJ m) [])))) ⟨⟨_,_,_,_,_,rfl⟩,.new hp,az⟩ (fun pre τ G' h=>b7 G' h.2.1) ?_ ?_
  ·rintro pre x post τ G' N2 e1 ⟨⟨a1,a2,a3,a4,a5,rfl⟩,le,gp⟩ mH;have hx:x.2.natAbs < qU:=fC (we (by rw [e1]; simp)) hb;simp only [jL,cX,aI,jz,eF,lK,ar,ao,ai,wW,ae,aa];refine ma he.is le fun X8 Xl=>?_;refine dq (xs:=m) (fun mp τ G'=>(∃ a3 a4 a5,τ=[some d,some e,some (.ref p),some (.int x.1),some (.int x.2),a3,a4,a5])/\ft G G'/\G' p=some (.fU (bb (mJ mp (pre.foldl (mJ m) []) x)))) ⟨⟨_,_,_,rfl⟩,le,gp⟩ (fun pre τ G' h=>Xl G' h.2.1) ?_ ?_
   ·rintro mp y mq τ G2 N3 e2 ⟨⟨b3,b4,b5,rfl⟩,Hs,FJ⟩ EH;have hlen:=bC (Mp e1 e2 (pre.foldl (mJ m) []) (Dl m pre)) hl;have hy:y.2.natAbs < qU:=fC (we (by rw [e2]; simp)) hf;simp only [jL,cX,aI,jz,ao,ai,wW,cu,bF,aX,ar,ae,aa,xq,tX,av,dC,aO,kh,t6,cR];refine⟨Jz (zq.ref FJ),QR (zq.ref FJ) ?_⟩;simp only [cR];refine⟨⟨hx,hy⟩,?_⟩;refine fN (α:=Int) FJ hlen ?_;refine EH _ _ ⟨⟨_,_,_,rfl⟩,Hs.put hp,?_⟩;rw [az]
    conv=>rhs; rw [mJ,gO]
    rfl
   ·rintro τ G2 ⟨⟨b3,b4,b5,rfl⟩,Hs,FJ⟩;refine mH _ _ ⟨⟨_,_,_,_,_,rfl⟩,Hs,?_⟩;rw [FJ,gO]; rfl
  ·rintro τ G' ⟨⟨a1,a2,a3,a4,a5,rfl⟩,le,gp⟩;exact hN _ _ ⟨⟨_,_,_,_,_,rfl⟩,le,gp⟩
 ·rintro _ G' ⟨⟨a1,a2,a3,a4,a5,rfl⟩,le,gp⟩;simp only [cb,cz,br,av,ar,ae,aa,aO];refine gY le hp gp ?_;refine⟨_,lQ l m,rfl,⟨rfl,u7 l m⟩,bc (oM l m) hl,fun p2 pz=>?_⟩;exact qQ (.new pz) pz az q
def iV:jM:=fun ds G Q _=>∃ (d:D) (l:Po) (n:Nat),ds=[d,.int n]/\Pl G d l/\(n<=1000/\∀ k,k < n->l.length ^ k * l.length<=SZ/\fF l ^ k < qU)/\fF l < qU/\ip G (.fU (bb (d8 l n))) Q
def CM:gN :=
 (b8 (bF (Ih (dC (.int 0)) (dC (.int 1))) (aI 2))
 (b8 (eF (Dc (ar 1)) (aI 3) (bF (br jl (av (cz (ar 2)) (av (cz (ar 0)) aO))) (aI 2)))
 (cb (cz (ar 2)))))
theorem OP(ds:List D)(G:Gp)(Q:DK)(h:iV ds G Q fun _ _=>False):CM (fun _ _=>False) (ends Q) (aY 4 ds) G:=by
 obtain⟨d,l,n,rfl,hd,⟨hn,hk⟩,hb,q⟩:=h;unfold CM;simp only [ends,aY,ak,aQ,ah,aw,aT,aB,aM,cu,bF,Ih,dC,aI,ao,ai];refine⟨rfl,fun p0 Pc=>?_⟩;refine dW (fun τ G'=>(∃ a p,τ=[some d,some (.int n),some (.ref p),a]/\G p=none/\G' p=some (.fU (bb (d8 l n))))/\ft G G') ?_ ?_
 ·intro N hN;simp only [eF,pN,ar,ae,aa,nG];refine⟨by lia,by lia,?_⟩;rw [fh];refine RN (fun pre τ G'=>(∃ a p,τ=[some d,some (.int n),some (.ref p),a]/\G p=none/\G' p=some (.fU (bb (d8 l pre.length))))/\ft G G') ⟨⟨_,p0,rfl,Pc,az⟩,.new Pc⟩ (fun _ _ _ _=>trivial) ?_ ?_
  ·rintro pre x post τ G' N2 e1 ⟨⟨a,p,rfl,hp,gp⟩,le⟩ mH;obtain⟨rfl,wL⟩:=JS e1;obtain⟨h1,h2⟩:=hk pre.length wL;simp only [aI,bF,br,av,cz,ar,ao,ai,ae,aa,aO];refine gY le hp gp (cC ?_);refine⟨_,d,d8 l pre.length,l,rfl,⟨rfl,xN _ _⟩,hd,bc (iT _ (va l _)) h1,⟨fC (qx l _) h2,hb⟩,fun p2 pz=>?_⟩;refine mH _ _ ⟨⟨_,p2,rfl,pz,?_⟩,.new pz⟩;rw [az,aC]; rfl
  ·rintro τ G' ⟨⟨a,p,rfl,hp,gp⟩,le⟩;rw [show (gX 0 n).length=n by simp [gX]] at gp;exact hN _ _ ⟨⟨_,p,rfl,hp,gp⟩,le⟩
 ·rintro _ G' ⟨⟨a,p,rfl,hp,gp⟩,le⟩;simp only [cb,cz,ar,ae,aa];exact qQ le hp gp q
end Y
namespace JB
open K2.P K2.J
def CO:gN :=
 (b8 (gi (ik (aX (JW false) (ar 1) (dC (.int 0)))) (cb (cz (iq (av (iD (av (iD (av (ar 0) (av (dC (.int 0)) (av (dC (.int 0)) aO)))) (av (iD (av (ar 0) (av (dC (.int 1)) (av (dC (.int 1)) aO)))) aO))) (av (iD (av (iD (av (ar 0) (av (dC (.int 1)) (av (dC (.int 0)) aO)))) (av (iD (av (ar 0) (av (dC (.int 0)) (av (dC (.int 1)) aO)))) aO))) aO))))) dH)
 (cb (cz (iq (av (iD (av (iD (av (ar 0) (av (dC (.int 0)) (av (dC (.int 0)) aO)))) (av (iD (av (ar 0) (av (dC (.int 1)) (av (dC (.int 0)) aO)))) aO))) (av (iD (av (iD (av (ar 0) (av (dC (.int 0)) (av (dC (.int 1)) aO)))) (av (iD (av (ar 0) (av (dC (.int 1)) (av (dC (.int 1)) aO)))) aO))) aO))))))
def wI(w:Bool):Int:=if w=true then 1 else 0
def t4:jM:=fun ds G Q _=>∃ (n:Int) (w:Bool),ds=[.int n,.int (wI w)]/\Q (enc (js n w)) G
theorem OR(ds:List D)(G:Gp)(Q:DK)(h:t4 ds G Q fun _ _=>False):CO (fun _ _=>False) (ends Q) (aY 2 ds) G:=by
 obtain⟨n,w,rfl,q⟩:=h;unfold CO;simp only [b8,gi,aY,ak,aQ,ah,aw,aB,aM,cb,cz,iq,av,iD,ar,aa,dC,aO,ends,dH,du,aX,ae];refine⟨_,_,.int _,.int _,?_⟩;simp only [au,o7,if_false,bQ];cases w with
 | false =>
  simp only [wI,au,if_false,beq_self_eq_true,if_true];refine⟨by decide,by decide,by decide,by decide,by decide,by decide,by decide,fun p hp=>?_⟩;exact i7 (xs:=js n false) (.new hp) hp az q
 | true =>
  simp only [wI,if_true,show ((1:Int) == 0)=false from rfl,au,if_false];refine⟨by decide,by decide,by decide,by decide,by decide,by decide,by decide,fun p hp=>?_⟩;exact i7 (xs:=js n true) (.new hp) hp az q
def yC:gN :=
 (cb (cz (dIf (ik (aX (JW false) (ar 1) (dC (.int 0)))) (ar 0) (ZS WC (ar 0)))))
def pw(h:Int)(w:Bool):Int:=if w=true then -h else h
def oI:jM:=fun ds G Q _=>∃ (h:Int) (w:Bool),ds=[.int h,.int (wI w)]/\Q (.int (pw h w)) G
theorem IC(ds:List D)(G:Gp)(Q:DK)(h:oI ds G Q fun _ _=>False):yC (fun _ _=>False) (ends Q) (aY 2 ds) G:=by
 obtain⟨n,w,rfl,q⟩:=h;unfold yC;simp only [cb,cz,dIf,aY,ak,aQ,ah,aw,aB,aM,ar,aa,ends,ZS,Az,du,aX,ae,dC];refine⟨_,_,.int _,.int _,?_⟩;simp only [au,o7,if_false,bQ];cases w with
 | false =>
  simp only [wI,au,if_false,beq_self_eq_true,if_true];exact cC q
 | true =>
  simp only [wI,if_true,show ((1:Int) == 0)=false from rfl,au,if_false];exact cC q
def Zc:∀ (x y:List Int),rR (fun a b=>decide (a < b)) x y=lexLt x y
 | [],[]=>rfl
 | [],_ :: _=>rfl
 | _ :: _,[]=>rfl
 | a :: x,b :: y=>by rw [xY,Zc x y]; rfl
def lt3(p q:T3):lexLt p.l q.l=aU.lt p q:=(Zc _ _).symm
def An:gN :=
 (cb (cz (ot UY (av (ot ux (av (gL 1 [0] (pO (ar 0)) (aI 0) (some (ik (aX YK (ar 0) (aX j6 (ar 1) (ar 0))))) (iD (av (ar 0) (av (aX j6 (ar 1) (ar 0)) aO)))) aO)) aO))))
def lG:jM:=fun ds G Q _=>∃ (l:List (T3×T3)),ds=[.kH (bb l)]/\((l.map (·.1)).Nodup/\l.length < 64)/\Q (rm (oZ (NN l))) G
theorem Ll(ds:List D)(G:Gp)(Q:DK)(h:lG ds G Q fun _ _=>False):An (fun _ _=>False) (ends Q) (aY 1 ds) G:=by
 obtain⟨l,rfl,⟨nd,hl⟩,q⟩:=h;unfold An;simp only [cb,cz,ot,av,gL,pO,ar,aY,ak,aQ,ah,aw,aB,aM,aa,aO,ends];show _/\_;have ek:((bb l).map fun p=>p.1)=l.map fun p=>enc p.1:=by unfold bb; rw [bq]; rfl
 refine⟨CG (by unfold bb; rw [aq,aq]; lia),?_⟩;rw [ek];refine jB (xs:=l) (f:=fun p=>enc p.1) (fun pre acc τ G'=>G=G'/\(∃ a,τ=[a,some (.kH (bb l))])/\acc=(pre.filter fun p=>aU.lt p.1 p.2).map enc) ⟨rfl,⟨_,rfl⟩,rfl⟩ (fun _ _ _ _ _=>trivial) ?_ ?_
 ·rintro pre x post acc τ G' N e ⟨rfl,⟨a,rfl⟩,rfl⟩ hN;have hx:cp l x.1=some x.2:=AW nd (by rw [e]; simp);simp only [aI,ai,iD,av,ar,aa,aX,ae,aO,ah,aw,v5,pK,hx,vB,du];refine⟨kD _ _,?_⟩;show ∃ xs ys,_;refine⟨x.1.l,x.2.l,rfl,rfl,?_⟩;simp only [lt3,bQ];split
  ·rename_i wL;refine⟨kD _ _,by decide,hN _ _ _ ⟨rfl,⟨_,rfl⟩,?_⟩⟩;simp only [dS,bW,wL,if_true,xn,aN]; rfl
  ·rename_i wL;refine hN _ _ _ ⟨rfl,⟨_,rfl⟩,?_⟩;simp only [dS,bW,wL,if_false,xn,cg,au]
 ·rintro acc τ G' ⟨rfl,⟨a,rfl⟩,rfl⟩ p hp;refine vr (IsL.ref az) (fC (dn _ _) hl) fun p2 pz=>?_;unfold UY;simp only [pJ (IsL.ref az)];rw [Qq] at q;exact zH ((ft.new hp).trans (.new pz)) q
theorem Oh{G G2:Gp}{d:D}{ds:List D}{R:List D->(Gp->Prop)->Gp->Prop}(h:itemsOf d G=some ds)(l:ft G G2)(k:∀ ok:Gp->Prop,(∀ G',ft G G'->ok G')->R ds ok G2):S9 d G2 R:=by
 cases d with
 | tup xs=>cases h; exact k _ fun _ _=>trivial
 | dw xs=>cases h; exact k _ fun _ _=>trivial
 | ref a =>
  unfold itemsOf at h;dsimp only at h;split at h
  ·rename_i xs ha;cases h;rw [MC (l _ _ ha)];exact k _ fun G' le=>le _ _ ha
  ·cases h
 | _=>cases h
def yH:gN :=
 (b8 (bF mM (aI 1))
 (b8 (eF (lz (ar 0)) (jL (cX (aI 2) (cX (aI 3) jz))) (b8 (bF (ar 3) (kh (ar 1) (ar 2)))
 (bF (ar 2) (kh (ar 1) (ar 3)))))
 (cb (cz (ar 1)))))
def kG:jM:=fun ds G Q _=>∃ (d:D) (P:Pr T3),ds=[d]/\itemsOf d G=some (P.map enc)/\P.length<=200/\ip G (.fU (bb (KW P))) Q
def RR(P:Pr T3)(p:T3×T3):KW (P++[p])=fc (fc (KW P) p.1 p.2) p.2 p.1:=by unfold KW; rw [gO]; rfl
theorem IF(ds:List D)(G:Gp)(Q:DK)(h:kG ds G Q fun _ _=>False):yH (fun _ _=>False) (ends Q) (aY 4 ds) G:=by
 obtain⟨d,P,rfl,hi,hl,q⟩:=h;unfold yH;simp only [ends,aY,ak,aQ,ah,aw,aT,aB,aM,cu,bF,mM,ip,aI,ao,ai];intro p hp;refine dW (fun τ G'=>(∃ a b,τ=[some d,some (.ref p),a,b])/\ft G G'/\G' p=some (.fU (bb (KW P)))) ?_ ?_
 ·intro N hN;simp only [eF,eQ,ar,aa];refine Oh hi (.new hp) fun ok b7=>?_;refine dq (xs:=P) (fun pre τ G'=>(∃ a b,τ=[some d,some (.ref p),a,b])/\ft G G'/\G' p=some (.fU (bb (KW pre)))) ⟨⟨_,_,rfl⟩,.new hp,az⟩ (fun pre τ G' h=>b7 G' h.2.1) ?_ ?_
  ·rintro pre x post τ G' N2 e ⟨⟨a,b,rfl⟩,le,gp⟩ mH;have hlen:=MO pre;have zd:pre.length < P.length:=by rw [e]; simp
   have e0:(enc x:D)=.tup [enc x.1,enc x.2]:=rfl;simp only [jL,e0,cX,aI,jz,ao,ai,cu,bF,ar,ae,aa,kh];refine K2.P.fN (k:=x.1) (v:=x.2) gp (by lia) ?_;have adY:=tL (KW pre) x.1 x.2;refine K2.P.fN (k:=x.2) (v:=x.1) az (by lia) ?_;refine mH _ _ ⟨⟨_,_,rfl⟩,(le.put hp).put hp,?_⟩;rw [az,RR]
  ·rintro τ G' ⟨⟨a,b,rfl⟩,le,gp⟩;exact hN _ _ ⟨⟨_,_,rfl⟩,le,gp⟩
 ·rintro _ G' ⟨⟨a,b,rfl⟩,le,gp⟩;simp only [cb,cz,ar,ae,aa];exact EI le hp gp (q p hp)
def S4(l:List (T2×T2)):Pr T3:=l.map fun p=>(⟨p.1.a,p.1.b,1⟩,⟨p.2.a,p.2.b,0⟩)
theorem XE(P:Pr T3):((KW P).map (·.1)).Nodup:=by
 have:∀ (P:Pr T3) (l:List (T3×T3)),(l.map (·.1)).Nodup->((P.foldl (fun l p=>fc (fc l p.1 p.2) p.2 p.1) l).map (·.1)).Nodup:=by
  intro P;induction P with
  | nil=>intro l h; exact h
  | cons p P ih=>intro l h; exact ih _ (qV (qV h))
 exact this P [] cj
def uR:gN :=
 (b8 (bF (gL 2 [] (EC (br nP (av (ar 0) aO))) (jL (cX (aI 0) (cX (aI 1) jz))) none (iD (av (aX gK (ar 0) (iD (av (dC (.int 1)) aO))) (av (aX gK (ar 1) (iD (av (dC (.int 0)) aO))) aO)))) (aI 1))
 (cb (cz (br lG (av (cz (br kG (av (ar 1) aO))) aO)))))
def lP:jM:=fun ds G Q _=>∃ rows:Rows,ds=[enc rows]/\rows.flatten.length<=24/\Q (rm (oZ (NN (KW (S4 (nX (pairsOf rows))))))) G
theorem Cv(ds:List D)(G:Gp)(Q:DK)(h:lP ds G Q fun _ _=>False):uR (fun _ _=>False) (ends Q) (aY 2 ds) G:=by
 obtain⟨rows,rfl,hl,q⟩:=h;have l1:=CY (pairsOf rows);have l2:=pairs_len rows;unfold uR;simp only [ends,aY,ak,aQ,ah,aw,aT,aB,aM,cu,bF,gL,EC,br,av,ar,aa,aO,aI,cb,cz,ao,ai,ae];refine⟨rows,rfl,by lia,?_⟩;generalize hn:nX (pairsOf rows)=l at q l1;have hk:(((bb l).all fun p=>lJ p.1)=true):=by
  unfold bb; rw [jc,gm]; intro p _; rfl
 refine⟨hk,?_⟩;have em:((bb l).map fun p=>D.tup [p.1,p.2])=l.map fun p=>D.tup [enc p.1,enc p.2]:=by unfold bb; rw [bq]; rfl
 rw [em];refine⟨CG (by rw [aq]; lia),?_⟩;refine jB (xs:=l) (f:=fun p=>D.tup [enc p.1,enc p.2]) (fun pre acc τ G'=>G=G'/\(∃ a b,τ=[a,b])/\acc=(S4 pre).map enc) ⟨rfl,⟨_,_,rfl⟩,rfl⟩ (fun _ _ _ _ _=>trivial) ?_ ?_
 ·rintro pre x post acc τ G' N e ⟨rfl,⟨a,b,rfl⟩,rfl⟩ hN;simp only [jL,cX,aI,jz,iD,av,aX,ar,XI,ai,ao,aa,dC,aO,ah,aw,ae,AA,aB,aM];refine⟨by decide,by simp,by decide,by decide,by simp,by decide,by decide,hN _ _ _ ⟨rfl,⟨_,_,rfl⟩,?_⟩⟩;unfold S4;rw [aN,aN]; rfl
 ·rintro acc τ G' ⟨rfl,⟨a,b,rfl⟩,rfl⟩ p hp;have lt:(S4 l).length<=24:=by unfold S4; rw [aq]; lia
  refine⟨.ref p,S4 l,rfl,vh (IsL.ref az),by lia,fun p2 pz=>?_⟩;refine gY ((ft.new hp).trans (.new pz)) ((ft.new hp).free pz) az ?_;have lf:=MO (S4 l);exact⟨KW (S4 l),rfl,⟨XE _,by lia⟩,cC q⟩
end JB
namespace JB
open K2.P K2.J
open K2.Y (Po L ND NZ fF za iI mI d8 iH jl iV lY Pl)
theorem UN(l:List (T3×T3))(k:T3):((bb l).filter fun p=>!iM p.1 (enc k))=bb (EZ l k):=by
 unfold bb EZ;rw [IM];congr 1;refine List.filter_congr fun p _=>?_;show (!iM (enc p.1) (enc k))=_;rw [Enc.eqv]; simp
theorem Md{G:Gp}{a:Nat}{l:List (T3×T3)}{k v:T3}{Q:DK}(h:G a=some (.fU (bb l)))(e:cp l k=some v)(q:Q (enc v) (eL G a (.fU (bb (EZ l k))))):Hi (.ref a) [enc k] G Q:=by
 refine⟨bb l,enc v,h,⟨rfl,?_,by rw [pK,e]; rfl⟩,by rw [UN]; exact q⟩;unfold bb; rw [jc,gm]; intro p _; rfl
def Xf{α:Type} [DecidableEq α]{f:α->α}(h:Iv f){x y e:α}(he:f e=e):jn f x y e=e:=by
 have h1:=h x;have h2:=h y;unfold jn
 grind
theorem wF{f:T3->T3}:∀ {ps:Pr T3},Ok f ps->∀ {e:T3},f e=e->jK f ps e=e:=by
 intro ps;induction ps generalizing f with
 | nil=>intro o e h; exact h
 | cons p ps ih=>intro o e h; exact ih o.tl (Xf o.iv h)
theorem sub_len'{α:Type} [DecidableEq α]:∀ (xs ys:List α),xs.Nodup->(∀ x∈xs,x∈ys)->xs.length<=ys.length
 | [],_,_,_=>cw _
 | x :: xs,ys,hn,h=>by
  rw [aS] at hn;have:=sub_len' xs (ys.erase x) hn.2 fun y hy=>(yv (show y≠x from fun z=>hn.1 (by rw [<-z]; exact hy))).mpr (h y (aG _ hy));have hx:=h x (by simp);rw [tW hx] at this;have:=vF hx;rw [ah]; lia
theorem MR{l:List (T3×T3)}{f:T3->T3}(h:M8 l f){E:List T3}(hE:∀ e,f e≠e->e∈E):l.length<=E.length:=by
 have:=sub_len' (l.map fun p:T3×T3=>p.1) E h.nd fun e he=>by
  obtain⟨p,hp,rfl⟩:=List.mem_map.mp he;exact hE _ (h.mem hp).2
 simpa using this
def MS(l:List (T3×T3))(k:T3):(EZ l k).length<=l.length:=dn _ _
def Ij(f:T3->T3)(ps:Pr T3)(x:T3×T3):cls f (ps++[x])=cls f ps+cl (jK f ps) x.1 x.2:=by rw [vn]; rfl
def Hw(f:T3->T3)(ps:Pr T3)(x:T3×T3):jK f (ps++[x])=jn (jK f ps) x.1 x.2:=by rw [vg]; rfl
def sT:gN :=
 (b8 (bF (br kG (av (ar 0) aO)) (aI 2))
 (b8 (bF (dC (.int 0)) (aI 3))
 (b8 (eF (lz (ar 1)) (jL (cX (aI 4) (cX (aI 5) jz))) (b8 (bF (xq S2 Hi (ar 2) (av (ar 4) aO)) (aI 6))
 (b8 (bF (xq S2 Hi (ar 2) (av (ar 5) aO)) (aI 7))
 (gi (ik (aX (JW false) (ar 6) (ar 5))) (bF (aX gK (ar 3) (dC (.int 1))) (aI 3)) (b8 (bF (ar 7) (kh (ar 2) (ar 6)))
 (bF (ar 6) (kh (ar 2) (ar 7))))))))
 (cb (cz (iD (av (br lG (av (cz (ar 2)) aO)) (av (ar 3) aO))))))))
def kT:jM:=fun ds G Q _=>∃ (P ps:Pr T3),ds=[rm (oZ P),enc ps]/\((es P).Nodup/\P.length<=24/\Ok (pt P) ps)/\∀ P':Pr T3,(es P').Nodup->pt P'=jK (pt P) ps->Q (.tup [rm (oZ P'),.int (cls (pt P) ps)]) G
theorem BM(ds:List D)(G:Gp)(Q:DK)(h:kT ds G Q fun _ _=>False):sT (fun _ _=>False) (ends Q) (aY 8 ds) G:=by
 obtain⟨P,ps,rfl,⟨nd,hl,ok⟩,q⟩:=h;unfold sT;simp only [↓cu,bF,br,av,ar,aY,↓ak,↓Qq,↓aQ,↓ah,↓aw,aT,↓aB,↓aM,↓aa,aO,aI,dC,ends,↓ao,↓ai];refine⟨.tup (P.map enc),P,rfl,rfl,by lia,fun p hp=>?_⟩;simp only [↓cz,↓aY,↓ends,↓du,↓aX,↓ZS,↓ar,↓ot,↓xq,↓av,↓aO,↓cb,↓VZ,↓la,↓bF,↓aI,↓dC,↓dH,↓iD,↓iq,↓mM,↓wZ,↓ZU,↓E5,↓pR,↓pT,↓MV,↓Bu,↓Ck,↓mf,↓gI,↓eQ,↓pN,↓br,↓gL,↓cR,↓AA,↓v8,↓v7,↓vZ,↓nU,↓jv,↓t7,↓Az,↓zA,↓L6,↓qr,↓L8,↓iS,↓sV,↓Ec,↓v3,↓Ed,↓w7,↓Iu,↓DC,↓kJ,↓sZ,↓yL,↓rz,↓qk,↓tX,↓LK,↓LJ,↓true_and,↓and_true,↓EE,↓zG,↓iK,↓bQ,↓nG,↓Ba,↓MA,↓Hy,↓ak,↓aQ,↓aB,↓aM,↓aa,↓ae,↓ai,↓ao,↓ah,↓aw,↓aT,↓if_true,↓if_false,↓bK,↓eW,↓au,↓cu,↓vQ,↓kh,↓lK,↓pO,↓GB,↓t6,↓Ih,↓jL,↓cX,↓jz];refine dW (fun τ G'=>∃ (l:List (T3×T3)) (a1 a2 a3 a4:Option D),τ=[some (.tup (P.map enc)),some (enc ps),some (.ref p),some (.int (cls (pt P) ps)),a1,a2,a3,a4]/\ft G G'/\G' p=some (.fU (bb l))/\M8 l (jK (pt P) ps)) ?_ ?_
 ·intro N hN;simp only [eF,↓eQ,ar,↓ae,↓aa];refine gU ?_;refine dq (xs:=ps) (fun pre τ G'=>∃ (l:List (T3×T3)) (a1 a2 a3 a4:Option D),τ=[some (.tup (P.map enc)),some (enc ps),some (.ref p),some (.int (cls (pt P) pre)),a1,a2,a3,a4]/\ft G G'/\G' p=some (.fU (bb l))/\M8 l (jK (pt P) pre)) ⟨KW P,_,_,_,_,rfl,.new hp,az,MP nd⟩ (fun _ _ _ _=>trivial) ?_ ?_
  ·rintro pre x post τ G' N2 e ⟨l,a1,a2,a3,a4,rfl,le,gp,fa⟩ mH;have ok1:Ok (pt P) (pre++x :: post):=by rw [<-e]; exact ok
   have X8:=ok1.left;obtain⟨n1,n2,n3⟩:=X8.hd;obtain⟨f1,f2,f3,f4⟩:=fa.join X8.iv n1 n2 n3;have ll:l.length<=(es P).length:=MR fa fun e he=>(xK nd).mp fun z=>he (wF ok1.pre z);rw [KZ] at ll;have e0:(enc x:D)=.tup [enc x.1,enc x.2]:=rfl;rw [e0];simp only [jL,cX,jz,aI,ai,ao];simp only [↓cu,bF,xq,ar,↓ae,↓aa,↓tX,↓gp,av,aO,aI,↓ao,↓ai,↓true_and];refine Md gp f1 ?_;simp only [↓az,↓true_and];refine Md az f2 ?_;simp only [gi,↓du,aX,ar,↓ae,↓aa,bF,dC,↓cR,aI,↓ao,↓ai,↓cu,kh];refine⟨_,_,Enc.sn _ _ _ (by decide),Enc.sn _ _ _ (by decide),?_⟩;simp only [↓bQ,↓au,↓Enc.eqv,↓if_false];by_cases c:jK (pt P) pre x.1=x.2
   ·simp only [↓c,↓decide_true,↓if_true];refine mH _ _ ?_;have ec:((cls (pt P) pre+1:Nat):Int)=(cls (pt P) pre:Int)+1:=Int.natCast_add _ _;rw [Ij,Hw,cl,if_pos c,ec];exact⟨_,_,_,_,_,rfl,(le.put hp).put hp,az,f3 c⟩
   ·simp only [↓c,↓decide_false,↓au,↓if_false];have d1:=MS l x.1;have d2:=MS (EZ l x.1) x.2;refine K2.P.fN (k:=jK (pt P) pre x.1) (v:=jK (pt P) pre x.2) az (by lia) ?_;have d3:=tL (EZ (EZ l x.1) x.2) (jK (pt P) pre x.1) (jK (pt P) pre x.2);refine K2.P.fN (k:=jK (pt P) pre x.2) (v:=jK (pt P) pre x.1) az (by lia) ?_;refine mH _ _ ?_;rw [Ij,Hw,cl,if_neg c,To];exact⟨_,_,_,_,_,rfl,(((le.put hp).put hp).put hp).put hp,az,f4 c⟩
  ·rintro τ G' ⟨l,a1,a2,a3,a4,rfl,le,gp,fa⟩;exact hN _ _ ⟨l,_,_,_,_,rfl,le,gp,fa⟩
 ·rintro _ G' ⟨l,a1,a2,a3,a4,rfl,le,gp,fa⟩;have iv:Iv (jK (pt P) ps):=Rb ok;have ll:l.length<=(es P).length:=MR fa fun e he=>(xK nd).mp fun z=>he (wF ok z);rw [KZ] at ll;obtain⟨h1,h2⟩:=Me fa iv;simp only [cb,cz,iD,av,br,ar,↓ae,↓aa,aO,↓ah,↓aw];refine gY le hp gp ?_;refine⟨l,rfl,⟨fa.nd,by lia⟩,by decide,cC (q _ h1 h2)⟩
end JB
namespace JB
open K2.P K2.J
open K2.Y (Po L ND NZ fF za iI mI d8 iH jl iV lY Pl)
def Z5(ns:List Int)(k:PK):Prop:=∃ P,k=oZ P/\(es P).Nodup/\∀ e,pt P e≠e↔∃ n∈ns,e∈mT n
structure U6(S:Su)(ns:List Int):Prop where
 Pb:OT S
 pl:∀ p∈S,Z5 ns p.1
def Fp(ns:List Int):List T3:=ns.flatMap mT
def IB(ns:List Int):(Fp ns).length=4 * ns.length:=by
 induction ns with
 | nil=>rfl
 | cons n ns ih=>unfold Fp at *; rw [cZ,aC,ih,ah]; show 4+_=_; lia
theorem WL{ns:List Int}{P:Pr T3}(nd:(es P).Nodup)(h:∀ e,pt P e≠e↔∃ n∈ns,e∈mT n):P.length<=2 * ns.length:=by
 have:=sub_len' (es P) (Fp ns) nd fun e he=>by
  obtain⟨n,h1,h2⟩:=(h e).mp ((xK nd).mpr he);exact List.mem_flatMap.mpr ⟨n,h1,h2⟩
 rw [KZ,IB] at this; lia
def YR{ns:List Int}{P:Pr T3}(nd:(es P).Nodup)(hn:ns.Nodup)(h:∀ e,pt P e≠e↔∃ n∈ns,e∈mT n):Dm (pt P) ns:=⟨Ql nd,hn,fun n VN e he=>(h e).mpr ⟨n,VN,he⟩⟩
theorem Xe{f:T3->T3}:∀ {ps:Pr T3},Ok f ps->∀ {e:T3},e∈es ps->jK f ps e=e:=by
 intro ps;induction ps generalizing f with
 | nil=>intro o e h; cases h
 | cons p ps ih =>
  intro o e h;rw [es,bJ,bJ] at h;rcases h with rfl | rfl | h
  ·exact wF o.tl abH
  ·exact wF o.tl abG
  ·exact ih o.tl h
theorem T8{n:Int}{ns:List Int}{f:T3->T3}(d:Dm f (n :: ns))(h:∀ e,f e≠e↔∃ m∈n :: ns,e∈mT m)(w:Bool):∀ e,jK f (js n w) e≠e↔∃ m∈ns,e∈mT m:=by
 have ok:=d.ok w;have nn:=(List.nodup_cons.mp d.nd).1;intro e;constructor
 ·intro z;have h1:f e≠e:=fun y=>z (wF ok y);obtain⟨m,hm,he⟩:=(h e).mp h1;rcases List.mem_cons.mp hm with rfl | hm
  ·exact absurd (Xe ok ((k8 m w).mem_iff.mpr he)) z
  ·exact⟨m,hm,he⟩
 ·rintro⟨m,hm,he⟩ z;rcases Mu ok z with z | z
  ·have h1:=uv ((k8 n w).mem_iff.mp z);have h2:=uv he;exact nn (by rw [<-h1,h2]; exact hm)
  ·exact(h e).mpr ⟨m,aG _ hm,he⟩ z
def By{α:Type} [DecidableEq α](f:α->α)(x y:α):cl f x y<=1:=by unfold cl; split <;> decide
def Fb(f:T3->T3)(n:Int)(w:Bool):cls f (js n w)<=2:=by
 cases w <;> (show _+(_+0)<=2; have:=By f; have a:=fun f x y=>By (α:=T3) f x y; have h1:=a f; have h2:=a; grind)
def V7:ND LP:=by unfold ND LP; decide
def SG:fF LP=2:=rfl
def pb{n:Nat}(h:n<=2 ^ 30):n < qU:=fC h (by unfold qU; exact Nat.pow_lt_pow_right (by decide) (by decide))
theorem GA{c:Nat}(h:c<=3):c<=1000/\∀ k,k < c->LP.length ^ k * LP.length<=SZ/\fF LP ^ k < qU:=by
 refine⟨by lia,fun k hk=>?_⟩;have:k=0\/k=1\/k=2:=by lia
 rcases this with rfl | rfl | rfl
 ·exact⟨by decide,pb (by decide)⟩
 ·exact⟨by decide,pb (by decide)⟩
 ·exact⟨by decide,pb (by decide)⟩
def JY{c:Nat}(h:c<=3):fF (d8 LP c)<=8:=bc (Y.qx LP c) (show 2 ^ c<=2 ^ 3 from fD (by decide) h)
def T7{c:Nat}(h:c<=2):(d8 LP c).length<=4:=bc (Y.va LP c) (show 2 ^ c<=2 ^ 2 from fD (by decide) h)
theorem Nr{l:Po}{G:Gp}{Q:Bool->Gp->Prop}(h:Q (!l.isEmpty) G):sE (.kH (bb l)) G Q:=by
 unfold sE IU;dsimp only;have k:((bb l).all fun p=>di p.1)=true:=by unfold bb; rw [jc,gm]; intro p _; rfl
 rw [if_pos k];have:(bb l).isEmpty=l.isEmpty:=by cases l <;> rfl
 rw [this]; exact h
theorem QQ{G:Gp}{a:Nat}{A:Su}{k:PK}{Q:DK}(h:G a=some (.rV (je A)))(q:Q (.kH (bb ((cp A k).getD []))) G):Hk (.ref a) [rm k,.kH []] G Q:=by
 refine⟨_,k,h,rfl,?_⟩;rw [C4];cases e:cp A k with
 | none=>rw [e] at q; exact q
 | some l=>rw [e] at q; exact q
theorem CJ{G:Gp}{a:Nat}{A:Su}{k:PK}{l:Po}{Q:Gp->Prop}(h:G a=some (.rV (je A)))(hz:A.length < SZ)(q:Q (eL G a (.rV (je (fc A k l))))):JQ (.ref a) (rm k) (.kH (bb l)) G Q:=by
 refine⟨_,k,h,rfl,by unfold je; rw [aq]; exact hz,?_⟩;rw [Qk]; exact q
theorem KG{G G1:Gp}{p:Nat}{A:Su}{Q:DK}(l:ft G G1)(hp:G p=none)(h1:G1 p=some (.rV (je A)))(q:Q (.pj (je A)) G):OW G1 (.ref p) Q :=
 ⟨fun a=>(G a).isNone,.pj (je A),.rV h1 (by simp [hp]) (.same _) rfl,by rw [wY l]; exact q⟩
def term(h n:Int)(rest:List (Int×Int))(g:Fn)(f:T3->T3)(l:Po)(w:Bool):Int:=L (fun j=>Br (jK f (js n w)) rest (jd (cls f (js n w)) (sh (pw h w) (sh j g)))) l
theorem Nt(h n:Int)(rest:List (Int×Int))(g:Fn)(f:T3->T3)(l:Po):term h n rest g f l false+term h n rest g f l true=L (fun j=>Br f ((n,h) :: rest) (sh j g)) l:=by
 unfold term;rw [<-Y.V6]; rfl
def Ac(h n:Int)(rest:List (Int×Int))(g:Fn)(f:T3->T3)(l:Po):List Bool->Int
 | []=>0
 | w :: ws=>term h n rest g f l w+Ac h n rest g f l ws
theorem JK(h n:Int)(rest:List (Int×Int))(g:Fn)(f:T3->T3)(l:Po)(ws:List Bool)(w:Bool):Ac h n rest g f l (ws++[w])=Ac h n rest g f l ws+term h n rest g f l w:=by
 induction ws with
 | nil=>simp [Ac]
 | cons v ws ih=>rw [aB,Ac,Ac,ih]; lia
structure Pj(n h:Int)(rest:List (Int×Int))(pre:Su)(f:T3->T3)(l:Po)(ws:List Bool)(A:Su):Prop where
 ok:U6 A (rest.map (·.1))
 len:A.length<=2 * pre.length+ws.length
 fF:iC A<=8 * iC pre+ws.length * (4 * fF l)
 val:∀ g,oA rest g A=oA ((n,h) :: rest) g pre+Ac h n rest g f l ws
theorem Pj.step{n h:Int}{rest:List (Int×Int)}{pre:Su}{f:T3->T3}{l:Po}{ws:List Bool}{A:Su}(a:Pj n h rest pre f l ws A){P':Pr T3}{w:Bool}(nd:(es P').Nodup)(e:pt P'=jK f (js n w))(hp:∀ e,jK f (js n w) e≠e↔∃ m∈rest.map (·.1),e∈mT m) :
  Pj n h rest pre f l (ws++[w]) (uQ A (oZ P') l (cls f (js n w)) (pw h w)):=by
 refine⟨⟨PQ a.ok.Pb _ _ _ _,fun p zc=>?_⟩,?_,?_,fun g=>?_⟩
 ·unfold uQ fc at zc;have here:Z5 (rest.map (·.1)) (oZ P'):=⟨P',rfl,nd,fun e'=>by rw [e]; exact hp e'⟩;split at zc
  ·obtain⟨q,hq,rfl⟩:=List.mem_map.mp zc;have:=a.ok.pl q hq;split <;> exact this
  ·rcases List.mem_append.mp zc with zc | zc
   ·exact a.ok.pl p zc
   ·rw [cK] at zc; subst zc; exact here
 ·have h1:=a.len;have h2:(uQ A (oZ P') l (cls f (js n w)) (pw h w)).length<=A.length+1:=by unfold uQ fc; split <;> simp
  rw [aC,cx]; lia
 ·have h1:=a.fF;have h2:=PO a.ok.Pb (oZ P') l (Fb f n w) (pw h w);rw [aC,cx,Nat.add_mul,Nat.one_mul]; lia
 ·rw [PN a.ok.Pb,a.val,JK,K5,e];unfold term;lia
end JB
namespace JB
open K2.P K2.J
open K2.Y (Po L ND NZ fF za iI mI d8 iH jl iV lY Pl)
def Pj.zero{n h:Int}{rest:List (Int×Int)}{f:T3->T3}{l:Po}:Pj n h rest [] f l [] [] :=
 ⟨⟨⟨cj,fun p hp=>by cases hp⟩,fun p hp=>by cases hp⟩,aE _,cw _,fun g=>rfl⟩
theorem Pj.next{n h:Int}{rest:List (Int×Int)}{pre:Su}{x:PK×Po}{l':Po}{f':T3->T3}{A:Su}(a:Pj n h rest pre (pt (dec x.1)) x.2 [false,true] A):Pj n h rest (pre++[x]) f' l' [] A:=by
 refine⟨a.ok,?_,?_,fun g=>?_⟩
 ·have:=a.len;rw [aC,cx]; simp at this ⊢; lia
 ·have:=a.fF;rw [AS];simp only [ah,aw,iC] at this ⊢; lia
 ·rw [a.val,LM];show _+(term h n rest g _ x.2 false+(term h n rest g _ x.2 true+0))=_+(L _ x.2+0)+0;have:=Nt h n rest g (pt (dec x.1)) x.2;lia
def QG{S pre post:Su}{x:PK×Po}(e:S=pre++x :: post):iC pre+fF x.2<=iC S:=by
 rw [e,AS,iC]; lia
theorem C8(S:Su)(p:PK×Po):kg (S++[p])=if p.2.isEmpty=true then kg S else kg S++[p]:=by
 unfold kg;rw [dS];by_cases h:p.2.isEmpty=true
 ·rw [if_pos h,O3 (by simp [h])]; simp
 ·rw [if_neg h,O2 (by simp [h])]; simp
theorem Q7{S pre post:Su}{x:PK×Po}(nd:(S.map (·.1)).Nodup)(e:S=pre++x :: post):x.1∉(kg pre).map (·.1):=by
 intro z;obtain⟨q,hq,e2⟩:=List.mem_map.mp z;have VL:=(List.mem_filter.mp hq).1;rw [e,aN,ak,cY] at nd;exact nd.2.2 _ (bR VL) _ bH e2
def vU:gN :=
 (b8 (bF R5 (aI 3))
 (b8 (Ie 3 (eF (wG (ar 0)) (jL (cX (aI 4) (cX (aI 5) jz))) (eF (lz (iD (av (dC (.int 0)) (av (dC (.int 1)) aO)))) (aI 6) (b8 (bF (br kT (av (ar 4) (av (br t4 (av (ar 1) (av (ar 6) aO))) aO))) (aI 7))
 (b8 (bF (br iH (av (cz (br jl (av (cz (ar 5)) (av (cz (br iV (av (cz (Ig [(2,-1),(-2,-1)])) (av (cz (aX j6 (ar 7) (dC (.int 1)))) aO)))) aO)))) (av (cz (br oI (av (ar 2) (av (ar 6) aO)))) (av (cz (dC (.int 1))) aO)))) (aI 8))
 (bF (cz (br lY (av (cz (xq tyP Hk (ar 3) (av (cz (aX j6 (ar 7) (dC (.int 0)))) (av (cz mM) aO)))) (av (cz (ar 8)) aO)))) (HI (ar 3) (aX j6 (ar 7) (dC (.int 0))))))))))
 (b8 (bF R5 (aI 9))
 (b8 (Ie 3 (eF (wG (ar 3)) (jL (cX (aI 4) (cX (aI 5) jz))) (gi (ik (ar 5)) (bF (cz (ar 5)) (HI (ar 9) (ar 4))) dH)))
 (cb (cz (ar 9)))))))
def mZ:jM:=fun ds G Q _=>∃ (S:Su) (n h:Int) (rest:List (Int×Int)),ds=[.pj (je S),.int n,.int h]/\(U6 S (n :: rest.map (·.1))/\(n :: rest.map (·.1)).Nodup/\rest.length<=11/\S.length<=1048576/\iC S<=1048576) /\
 ∀ S':Su,U6 S' (rest.map (·.1))->S'.length<=iC S'->iC S'<=8 * iC S->(∀ g,oA rest g S'=oA ((n,h) :: rest) g S)->Q (.pj (je S')) G
theorem Fw(ds:List D)(G:Gp)(Q:DK)(h:mZ ds G Q fun _ _=>False):vU (fun _ _=>False) (ends Q) (aY 10 ds) G:=by
 obtain⟨S,n,h,rest,rfl,⟨so,nn,hr,hSl,hSn⟩,q⟩:=h;unfold vU;simp only [↓cu,bF,R5,ip,aI,ends,aY,↓ak,↓aQ,↓ah,↓aw,aT,↓aB,↓aM,↓ao,↓ai];intro p hp;refine dW (fun τ G'=>∃ (A:Su) (a1 a2 a3 a4 a5 a6:Option D),G=G'/\τ=[some (.pj (je S)),some (.int n),some (.int h),some (.pj (je A)),a1,a2,a3,a4,a5,a6]/\Pj n h rest S (fun e=>e) [] [] A) ?_ ?_
 ·intro N hN;simp only [Ie];simp only [eF,wG,ar,↓aa];show rH _ _ _ ((je S).map _) _ _ _ _;have em:((je S).map fun p=>D.tup [rm p.1,p.2])=S.map fun p=>D.tup [rm p.1,.kH (bb p.2)]:=by unfold je; rw [bq]; rfl
  rw [em];refine dq (xs:=S) (f:=fun p=>D.tup [rm p.1,.kH (bb p.2)]) (fun pre τ G'=>∃ (A:Su) (a1 a2 a3 a4 a5 a6:Option D),ft G G'/\G' p=some (.rV (je A))/\τ=[some (.pj (je S)),some (.int n),some (.int h),some (.ref p),a1,a2,a3,a4,a5,a6]/\Pj n h rest pre (fun e=>e) [] [] A)
   ⟨[],_,_,_,_,_,_,.new hp,az,rfl,.zero⟩ (fun _ _ _ _=>trivial) ?_ ?_
  ·rintro pre x post τ G' N2 e ⟨A,a1,a2,a3,a4,a5,a6,le,gp,rfl,af⟩ mH;obtain⟨P,ek,nd,pl⟩:=so.pl x (by rw [e]; simp);have dm:=YR nd nn pl;have pll:=WL nd pl;have hx:=so.Pb.2 x (by rw [e]; simp);have hnx:=QG e;have hlx:=xR hx.2;have yO:pre.length < S.length:=by rw [e]; simp
   have ed:dec x.1=P:=by rw [ek,K5]
   simp only [jL,cX,jz,aI,ai,ao];simp only [eF,↓eQ,iD,av,dC,aO,↓ah,↓aw,↓zG];refine⟨by decide,?_⟩;refine dq (xs:=[false,true]) (f:=fun w=>D.int (wI w)) (fun ws τ G'=>∃ (A:Su) (a3 a4 a5 a6:Option D),ft G G'/\G' p=some (.rV (je A))/\τ=[some (.pj (je S)),some (.int n),some (.int h),some (.ref p),some (rm x.1),some (.kH (bb x.2)),a3,a4,a5,a6]/\Pj n h rest pre (pt P) x.2 ws A)
    ⟨A,_,_,_,_,le,gp,rfl,⟨af.ok,af.len,by have:=af.fF; simp only [aw,Nat.zero_mul] at this ⊢; exact this,af.val⟩⟩ (fun _ _ _ _=>trivial) ?_ ?_
   ·rintro ws w wt τ G2 N3 ew ⟨B,b3,b4,b5,b6,Hs,FJ,rfl,bf⟩ EH;have Ys:ws.length<=1:=by
     have:=congrArg dI ew;simp at this; lia
    have hc:=Fb (pt P) n w;have bl:=bf.len;have bn:=bf.fF;have bn2:iC B<=8388608:=by
     have:ws.length * (4 * fF x.2)<=1 * (4 * fF x.2):=iT _ Ys;lia
    simp only [aI,↓cu,bF,br,av,ar,↓ao,ek,↓ai,↓ae,↓aa,aO,cz,aX,dC,xq,mM];refine⟨n,w,rfl,?_⟩;refine⟨P,js n w,rfl,⟨nd,by simp only [ah,aq] at pll; lia,dm.ok w⟩,fun P' nd' ep=>?_⟩;have p0:Pj n h rest pre (pt P) x.2 (ws++[w]) (uQ B (oZ P') x.2 (cls (pt P) (js n w)) (pw h w)):=bf.step nd' ep (T8 dm pl w);simp only [↓iS,Lf,XX];generalize ec:cls (pt P) (js n w)=c at hc p0;have hx1:=hx.1;have l1:(d8 LP c).length<=4:=T7 hc;have l2:x.2.length * (d8 LP c).length<=1048576 * 4:=sx (by lia) l1;have l3:=Y.AD x.2 (d8 LP c);have l4:fF x.2 * fF (d8 LP c)<=1048576 * 8:=sx (by lia) (JY (by lia));have l5:=Y.vc x.2 (d8 LP c);have l6:(T4 x.2 c (pw h w)).length<=(iI x.2 (d8 LP c)).length:=bc (Y.uc _) (by rw [aq]; exact aE _);have l7:=xR (bf.ok.Pb.get (oZ P')).2;have l8:=Mm B (oZ P');refine cC ?_;unfold Ig;intro p5 f5;refine gY (.new f5) f5 az (cC ?_);refine⟨_,LP,c,rfl,⟨rfl,V7⟩,GA (by lia),by rw [SG]; exact pb (by decide),fun p6 f6=>?_⟩;refine gY (.new f6) f6 az ?_;refine⟨_,_,x.2,d8 LP c,rfl,⟨rfl,hx1⟩,⟨rfl,Y.xN _ _⟩,bc l2 (by decide),⟨pb (by lia),pb (bc (JY (by lia)) (by decide))⟩,fun p7 f7=>?_⟩;refine gY (.new f7) f7 az ?_;refine⟨h,w,rfl,cC (cC ?_)⟩;refine⟨_,iI x.2 (d8 LP c),pw h w,1,rfl,⟨rfl,Y.t9 _ _⟩,bc (bc l3 l2) (by decide),⟨pb (bc (bc l5 l4) (by decide)),pb (by decide)⟩,fun p8 f8=>?_⟩;have h8:p≠p8:=by rintro rfl; rw [FJ] at f8; cases f8
    refine⟨by unfold tyP; simp only [cE h8,FJ],cC ?_⟩;intro p9 f9;refine gY (.new f9) f9 az ?_;refine QQ (by rw [cE h8]; exact FJ) (cC ?_);refine gY (.new f8) f8 az ?_;refine⟨_,_,(cp B (oZ P')).getD [],T4 x.2 c (pw h w),rfl,⟨rfl,(bf.ok.Pb.get _).1⟩,⟨rfl,Y.NI (Y.t9 _ _) _ _⟩,?_,fun p10 f10=>?_⟩
    ·show _<=16777216;lia
    refine gY (.new f10) f10 az ?_;unfold HI;simp only [ar,↓ae,↓aa,aX,dC,↓iS,XX];refine CJ FJ (show _ < 16777216 by lia) ?_;rw [<-ek];exact EH _ _ ⟨_,_,_,_,_,Hs.put hp,az,rfl,p0⟩
   ·rintro τ G2 ⟨B,b3,b4,b5,b6,Hs,FJ,rfl,bf⟩;refine mH _ _ ⟨B,_,_,_,_,_,_,Hs,FJ,rfl,?_⟩;rw [<-ed] at bf;exact bf.next
  ·rintro τ G' ⟨A,a1,a2,a3,a4,a5,a6,le,gp,rfl,af⟩;simp only [↓ae,↓aa,↓ao,↓ai];refine KG le hp gp ?_;exact hN _ _ ⟨A,_,_,_,_,_,_,rfl,rfl,af⟩
 ·rintro _ G' ⟨A,a1,a2,a3,a4,a5,a6,rfl,rfl,af⟩;simp only [↓cu,bF,R5,ip,aI,↓ao,↓ai];intro p2 pz;have al:=af.len;have an:=af.fF;simp only [aw,Nat.zero_mul,To] at al an;refine dW (fun τ G'=>∃ (a1 a2 a3 a4 a5:Option D),τ=[some (.pj (je S)),some (.int n),some (.int h),some (.pj (je A)),a1,a2,a3,a4,a5,some (.ref p2)]/\ft G G'/\G' p2=some (.rV (je (kg A)))) ?_ ?_
  ·intro N hN;simp only [Ie];simp only [eF,wG,ar,↓ae,↓aa];show rH _ _ _ ((je A).map _) _ _ _ _;have em:((je A).map fun p=>D.tup [rm p.1,p.2])=A.map fun p=>D.tup [rm p.1,.kH (bb p.2)]:=by unfold je; rw [bq]; rfl
   rw [em];refine dq (xs:=A) (f:=fun p=>D.tup [rm p.1,.kH (bb p.2)]) (fun pre τ G'=>∃ (a1 a2 a3 a4 a5:Option D),τ=[some (.pj (je S)),some (.int n),some (.int h),some (.pj (je A)),a1,a2,a3,a4,a5,some (.ref p2)]/\ft G G'/\G' p2=some (.rV (je (kg pre))))
    ⟨_,_,_,_,_,rfl,.new pz,az⟩ (fun _ _ _ _=>trivial) ?_ ?_
   ·rintro pre x post τ G' N2 e ⟨b1,b2,b3,b4,b5,rfl,le,gp⟩ mH;simp only [jL,cX,jz,aI,ai,ao];simp only [gi,↓du,ar,↓ae,↓aa,bF,cz,dH];refine Nr ?_;have yO:pre.length < A.length:=by rw [e]; simp
    have hkl:(kg pre).length<=pre.length:=dn _ _;by_cases c:x.2.isEmpty=true
    ·simp only [c,bK,au,if_false,dH];refine mH _ _ ⟨_,_,_,_,_,rfl,le,?_⟩;rw [C8,if_pos c]; exact gp
    ·have c':x.2.isEmpty=false:=by simpa using c
     simp only [c',eW,if_true];refine cC ?_;unfold HI;simp only [ar,↓ae,↓aa];refine CJ gp (show _ < 16777216 by lia) ?_;refine mH _ _ ⟨_,_,_,_,_,rfl,le.put pz,?_⟩;rw [az,C8,if_neg c,Y.jC (Q7 af.ok.Pb.1 e)]
   ·rintro τ G' ⟨b1,b2,b3,b4,b5,rfl,le,gp⟩;simp only [↓ae,↓aa,↓ao,↓ai];exact cC (hN _ _ ⟨_,_,_,_,_,rfl,le,gp⟩)
  ·rintro _ G' ⟨b1,b2,b3,b4,b5,rfl,le,gp⟩;simp only [cb,cz,ar,↓ae,↓aa];refine KG le pz gp ?_;refine q (kg A) ⟨Hu af.ok.Pb,fun p zc=>af.ok.pl p (List.mem_filter.mp zc).1⟩ ?_ ?_ fun g=>?_
   ·have:kg (kg A)=kg A:=by unfold kg; rw [List.filter_filter]; simp
    have h2:=Q8 (Hu af.ok.Pb);rw [this] at h2; exact h2
   ·exact bc (Q6 A) an
   ·rw [Q5,af.val];show _+0=_;lia
end JB
namespace JB
open K2.P K2.J
open K2.Y (Po L ND NZ fF za iI mI d8 iH jl iV lY Pl)
variable {rows:Rows}
def eO(s:T2):T3:=⟨s.a,s.b,1⟩
def eI(s:T2):T3:=⟨s.a,s.b,0⟩
def LQ(ps:List (T3×T3)):Pr T3:=ps.map fun p=>(eO p.1.s,eI p.2.s)
def D0(rows:Rows):Pr T3:=LQ (pairsOf rows)
def fr(rows:Rows):T3->T3:=pt (D0 rows)
def lo(rows:Rows):Nat:=(rows.filter fun r=>r.isEmpty).length
def nh(rows:Rows):List (Int×Int):=(names rows).map fun n=>(n,handOf rows n)
def HX:∀ (P:Pr T3),(es P).Perm (P.map (·.1)++P.map (·.2))
 | []=>.refl _
 | p :: P=>by
  rw [es,ak,ak,aB];refine DV _ ?_;exact((HX P).cons p.2).trans List.perm_middle.symm
theorem Yw{ps:List (T3×T3)}(h1:(ps.map fun p=>p.1.s).Nodup)(h2:(ps.map fun p=>p.2.s).Nodup):(es (LQ ps)).Nodup:=by
 refine(HX _).nodup_iff.mpr (List.nodup_append.mpr ⟨?_,?_,?_⟩)
 ·have:(LQ ps).map (·.1)=(ps.map fun p=>p.1.s).map eO:=by unfold LQ; rw [bq,bq]; rfl
  rw [this];refine ug h1 fun i _ j _ e=>?_;injection e with e1 e2
  cases i; cases j; simp only at e1 e2; rw [e1,e2]
 ·have:(LQ ps).map (·.2)=(ps.map fun p=>p.2.s).map eI:=by unfold LQ; rw [bq,bq]; rfl
  rw [this];refine ug h2 fun i _ j _ e=>?_;injection e with e1 e2
  cases i; cases j; simp only at e1 e2; rw [e1,e2]
 ·intro a ha b hb e;obtain⟨p,hp,rfl⟩:=List.mem_map.mp ha;obtain⟨q,hq,rfl⟩:=List.mem_map.mp hb;obtain⟨p',_,rfl⟩:=List.mem_map.mp hp;obtain⟨q',_,rfl⟩:=List.mem_map.mp hq;injection e with _ _ e3
  cases e3
def DZ(d:Dr rows):(es (D0 rows)).Nodup:=Yw (RM d) (Wv d)
def Wm(d:Dr rows):S4 (nX (pairsOf rows))=D0 rows:=by
 rw [QN d];unfold S4 D0 LQ;rw [bq]; rfl
theorem PJ(d:Dr rows)(e:T3):e∈es (D0 rows)↔∃ p∈rows.flatten,e=eO p.s\/e=eI p.s:=by
 rw [qG];constructor
 ·rintro⟨q,hq,z⟩;obtain⟨pq,hpq,rfl⟩:=List.mem_map.mp hq;have h1:pq.1∈rows.flatten:=by rw [<-ue rows]; exact bR hpq
  have h2:pq.2∈rows.flatten:=(ud rows).mem_iff.mp (bR hpq);rcases z with z | z
  ·exact⟨_,h1,.inl z⟩
  ·exact⟨_,h2,.inr z⟩
 ·rintro⟨p,hp,z | z⟩
  ·obtain⟨q,hq,_⟩:=RH hp;exact⟨_,List.mem_map.mpr ⟨_,hq,rfl⟩,.inl z⟩
  ·obtain⟨q,hq,_⟩:=RG hp;exact⟨_,List.mem_map.mpr ⟨_,hq,rfl⟩,.inr z⟩
theorem LO(d:Dr rows)(e:T3):e∈es (D0 rows)↔∃ n∈names rows,e∈mT n:=by
 rw [PJ d];constructor
 ·rintro⟨p,hp,z⟩;have hn:p.a∈names rows:=by
   rw [nH];rcases d.way p hp with w | w
   ·exact⟨p,hp,w,rfl⟩
   ·exact⟨_,d.Cc p hp,by simp [w],rfl⟩
  refine⟨p.a,hn,?_⟩;rcases d.way p hp with w | w <;> rcases z with rfl | rfl <;> simp [mT,eO,eI,T3.s,w]
 ·rintro⟨n,hn,he⟩;obtain⟨p,hp,w,rfl⟩:=nH.mp hn;have hm:=d.Cc p hp;unfold mT at he;simp only [bJ,bV,or_false] at he;have e0:p.s=⟨p.a,0⟩:=by show (⟨p.a,p.b⟩:T2)=_; rw [w]
  have e1:T3.s ⟨p.a,1 - p.b,p.c⟩=⟨p.a,1⟩:=by show (⟨p.a,1 - p.b⟩:T2)=_; rw [w]; rfl
  rcases he with rfl | rfl | rfl | rfl
  ·exact⟨p,hp,.inr (by rw [e0]; rfl)⟩
  ·exact⟨_,hm,.inl (by rw [e1]; rfl)⟩
  ·exact⟨_,hm,.inr (by rw [e1]; rfl)⟩
  ·exact⟨p,hp,.inl (by rw [e0]; rfl)⟩
theorem pH(d:Dr rows):(names rows).Nodup:=by
 unfold names;refine Nv ?_;have h:=d.nd;have:∀ {L:List T3},(L.map T3.s).Nodup->((L.filter fun p=>p.b == 0).map (·.a)).Nodup:=by
  intro L;induction L with
  | nil=>intro _; exact cj
  | cons p L ih =>
   intro h;rw [ak,aS] at h;rw [bW];split
   ·rename_i hp;rw [ak,aS];refine⟨fun z=>h.1 ?_,ih h.2⟩;obtain⟨q,hq,e⟩:=List.mem_map.mp z;have VL:=List.mem_filter.mp hq;refine List.mem_map.mpr ⟨q,VL.1,?_⟩;have b1:p.b=0:=by simpa using hp
    have b2:q.b=0:=by simpa using VL.2
    show (⟨q.a,q.b⟩:T2)=⟨p.a,p.b⟩;rw [e,b1,b2]
   ·exact ih h.2
 exact this h
def Dk(d:Dr rows):Dm (fr rows) (names rows) :=
 ⟨Ql (DZ d),pH d,fun n hn e he=>(xK (DZ d)).mpr ((LO d e).mpr ⟨n,hn,he⟩)⟩
theorem qA(d:Dr rows):2 * (names rows).length<=rows.flatten.length:=by
 have h:=sub_len' ((names rows).flatMap fun n=>[(⟨n,0⟩:T2),⟨n,1⟩]) (rows.flatten.map T3.s) ?_ ?_
 ·have:((names rows).flatMap fun n=>[(⟨n,0⟩:T2),⟨n,1⟩]).length=2 * (names rows).length:=by
   generalize names rows=l;induction l with
   | nil=>rfl
   | cons n l ih=>rw [cZ,aC,ih]; simp only [ah,aw]; lia
  rw [this,aq] at h; exact h
 ·have:∀ {l:List Int},l.Nodup->(l.flatMap fun n=>[(⟨n,0⟩:T2),⟨n,1⟩]).Nodup:=by
   intro l;induction l with
   | nil=>intro _; exact cj
   | cons n l ih =>
    intro h;rw [aS] at h;rw [cZ,cY];refine⟨by simp,ih h.2,fun a ha b hb e=>?_⟩;obtain⟨m,hm,hb⟩:=List.mem_flatMap.mp hb;have ea:a.a=n:=by simp only [bJ,bV,or_false] at ha; rcases ha with rfl | rfl <;> rfl
    have eb:b.a=m:=by simp only [bJ,bV,or_false] at hb; rcases hb with rfl | rfl <;> rfl
    rw [e,eb] at ea;exact h.1 (ea ▸ hm)
  exact this (pH d)
 ·intro s hs;obtain⟨n,hn,hs⟩:=List.mem_flatMap.mp hs;obtain⟨p,hp,w,rfl⟩:=nH.mp hn;simp only [bJ,bV,or_false] at hs;rcases hs with rfl | rfl
  ·exact List.mem_map.mpr ⟨p,hp,by show (⟨p.a,p.b⟩:T2)=_; rw [w]⟩
  ·exact List.mem_map.mpr ⟨_,d.Cc p hp,by show (⟨p.a,1 - p.b⟩:T2)=_; rw [w]; rfl⟩
def ZE(d:Dr rows){n:Int}(h:n∈names rows):∃ p∈rows.flatten,p.a=n:=by
 obtain⟨p,hp,_,e⟩:=nH.mp h;exact⟨p,hp,e⟩
def sJ(d:Dr rows):∀ r∈rows,r.length<=24:=fun r hr=>by
 have h1:=d.EO;obtain⟨a,b,e⟩:=List.append_of_mem hr;rw [e,cQ,ff,aC,aC] at h1;lia
def CV(rows:Rows)(ns:List Int):List (Int×Int):=ns.map fun n=>(n,handOf rows n)
def Mn(rows:Rows)(ns:List Int):(CV rows ns).map (·.1)=ns:=by
 unfold CV;rw [bq];exact nC ns
def zip_map(f:Int->Int):∀ l:List Int,l.zip (l.map f)=l.map fun n=>(n,f n)
 | []=>rfl
 | n :: l=>by rw [ak,rO,zip_map f l,ak]
def abf{k:Nat}(h:k<=5):8 * 8 ^ k<=1048576:=by
 have:8 ^ k<=8 ^ 5:=fD (by decide) h;lia
def CN:gN :=
 (b8 (bF (gL 1 [0] (lz (ar 1)) (aI 0) none (br ju (av (ar 1) (av (ar 0) aO)))) (aI 2))
 (b8 (bF (ot kj (av (gL 1 [] (lz (ar 0)) (aI 0) (some (pR (ik (ar 0)))) (ar 0)) aO)) (aI 3))
 (b8 (bF (cz (R4 (br lP (av (ar 0) aO)) (cz (br iV (av (cz (Ig [(2,-1),(-2,-1)])) (av (cz (ar 3)) aO)))))) (aI 4))
 (b8 (eF (Rp (ar 1) (ar 2)) (jL (cX (aI 5) (cX (aI 6) jz))) (bF (cz (br mZ (av (ar 4) (av (ar 5) (av (ar 6) aO))))) (aI 4)))
 (cb (cz (ar 4)))))))
def tZ:jM:=fun ds G Q _=>∃ (rows:Rows) (ns:List Int),ds=[enc rows,enc ns]/\(Dr rows/\ns.Perm (names rows)/\ns.length<=6) /\
 ∀ S':Su,U6 S' []->iC S'<=2097152->(∀ g,oA [] g S'=Br (fr rows) (CV rows ns) (jd (lo rows) g))->Q (.pj (je S')) G
theorem OQ(ds:List D)(G:Gp)(Q:DK)(h:tZ ds G Q fun _ _=>False):CN (fun _ _=>False) (ends Q) (aY 7 ds) G:=by
 obtain⟨rows,ns,rfl,⟨d,hp,hl⟩,q⟩:=h;have EO:=d.EO;have str:=d.str;have nn:ns.Nodup:=hp.nodup_iff.mpr (pH d);have lol:lo rows<=3:=bc (dn _ _) str;unfold CN;simp only [↓cu,bF,gL,↓eQ,ar,aY,↓ak,↓aQ,↓ah,↓aw,aT,↓aB,↓aM,↓ae,↓aa,aI,ot,av,↓ao,↓ai,aO,cz,ends];refine gU ⟨CG (by rw [aq]; lia),?_⟩;refine jB (xs:=ns) (fun pre acc τ G'=>G=G'/\(∃ a,τ=[a,some (enc rows)])/\acc=(pre.map (handOf rows)).map D.int) ⟨rfl,⟨_,rfl⟩,rfl⟩ (fun _ _ _ _ _=>trivial) ?_ ?_
 ·rintro pre n post acc τ G' N e ⟨rfl,⟨a,rfl⟩,rfl⟩ hN;have hn:n∈names rows:=hp.mem_iff.mp (by rw [e]; simp);simp only [aI,br,av,ar,↓ai,zI,↓ae,↓aa,aO];refine⟨rows,n,rfl,⟨by lia,ZE d hn⟩,?_⟩;refine hN _ _ _ ⟨rfl,⟨_,rfl⟩,?_⟩;rw [aN,aN]; rfl
 rintro acc τ G' ⟨rfl,⟨a,rfl⟩,rfl⟩ p1 f1;refine gU ⟨CG (by rw [aq]; lia),?_⟩;refine jB (xs:=rows) (fun pre acc τ G'=>eL G p1 (.lst ((ns.map (handOf rows)).map D.int))=G'/\(∃ a,τ=[a])/\acc=(pre.filter fun r=>r.isEmpty).map enc) ⟨rfl,⟨_,rfl⟩,rfl⟩ (fun _ _ _ _ _=>trivial) ?_ ?_
 ·rintro pre r post acc τ G' N e ⟨rfl,⟨a,rfl⟩,rfl⟩ hN;simp only [aI,pR,↓du,ar,↓ai,↓aa];show sE (.dw (r.map enc)) _ _;unfold sE IU;simp only [];by_cases c:r.isEmpty=true
  ·have c2:(r.map (enc:T3->D)).isEmpty=true:=by cases r with
    | nil=>rfl
    | cons _ _=>cases c
   simp only [c2,bK,eW,if_true];refine hN _ _ _ ⟨rfl,⟨_,rfl⟩,?_⟩;simp only [dS,bW,c,if_true,xn,aN,ak,aQ]
  ·have c2:(r.map (enc:T3->D)).isEmpty=false:=by cases r with
    | nil=>exact absurd rfl c
    | cons _ _=>rfl
   simp only [c2,bK,eW,if_false,au];refine hN _ _ _ ⟨rfl,⟨_,rfl⟩,?_⟩;have c':r.isEmpty=false:=by simpa using c
   simp only [dS,bW,c',if_false,au,xn,cg]
 rintro acc τ G' ⟨rfl,⟨a,rfl⟩,rfl⟩ p2 f2;have p12:p1≠p2:=by rintro rfl; rw [az] at f2; cases f2
 simp only [Iw az,aq];simp only [R4,br,av,ar,↓aa,aO,cz,↓ae];have elo:(rows.filter fun r=>r.isEmpty).length=lo rows:=rfl;rw [elo];refine⟨rows,rfl,by lia,?_⟩;rw [Wm d];have nd:=DZ d;obtain⟨n0,e0⟩:=Me (MP nd) (Ql nd);generalize hP0:NN (KW (D0 rows))=P0 at n0 e0;unfold Ig;intro p5 f5;refine gY (.new f5) f5 az (cC ?_);refine⟨_,LP,lo rows,rfl,⟨rfl,V7⟩,GA lol,by rw [SG]; exact pb (by decide),fun p6 f6=>?_⟩;refine gY (.new f6) f6 az ?_;refine⟨oZ P0,rfl,fun p7 f7=>?_⟩;have g1:ft G (eL (eL G p1 (.lst ((ns.map (handOf rows)).map D.int))) p2 (.lst (((rows.filter fun r=>r.isEmpty)).map enc))):=(ft.new f1).trans (.new f2);refine KG (A:=[(oZ P0,d8 LP (lo rows))]) (.new f7) f7 az ?_;generalize hG2:eL (eL G p1 (.lst ((ns.map (handOf rows)).map D.int))) p2 (.lst (((rows.filter fun r=>r.isEmpty)).map enc))=G2 at g1;have gh:G2 p1=some (.lst ((ns.map (handOf rows)).map D.int)):=by rw [<-hG2,cE p12,az]
 refine dW (fun τ G'=>∃ (S:Su) (a b:Option D),G'=G2/\τ=[some (enc rows),some (enc ns),some (.ref p1),some (.int (lo rows)),some (.pj (je S)),a,b]/\U6 S []/\iC S<=2097152/\∀ g,oA [] g S=Br (fr rows) (CV rows ns) (jd (lo rows) g)) ?_ ?_
 ·intro N hN;simp only [eF,Rp,ar,↓ae,↓aa];have hz:qi (ns.map enc) ((ns.map (handOf rows)).map D.int)=(CV rows ns).map enc:=by
   have:qi (ns.map enc) ((ns.map (handOf rows)).map enc)=(ns.zip (ns.map (handOf rows))).map enc:=z9 _ _;refine this.trans ?_;rw [zip_map]; rfl
  refine Oe (IsL.enc ns) (IsL.ref gh) fun ok b7=>?_;rw [hz];have hnl:(CV rows ns).length=ns.length:=by unfold CV; rw [aq]
  have start:∀ g,oA (CV rows ns) g [(oZ P0,d8 LP (lo rows))]=Br (fr rows) (CV rows ns) (jd (lo rows) g):=fun g=>by
   show L _ _+0=_;rw [vA,FF,K5,e0];have:=congrFun (Kl (fr rows) (CV rows ns) g (lo rows) 0) 0;simp only [FF] at this;rw [LV] at this;exact this
  have so0:U6 [(oZ P0,d8 LP (lo rows))] ((CV rows ns).map (·.1)):=by
   refine⟨⟨by simp,fun p zc=>?_⟩,fun p zc=>?_⟩
   ·rw [cK] at zc; subst zc; exact⟨Y.xN _ _,Y.NL _ _⟩
   ·rw [cK] at zc; subst zc;refine⟨P0,rfl,n0,fun e=>?_⟩;rw [e0,xK nd,LO d,Mn];exact⟨fun ⟨n,h1,h2⟩=>⟨n,hp.mem_iff.mpr h1,h2⟩,fun ⟨n,h1,h2⟩=>⟨n,hp.mem_iff.mp h1,h2⟩⟩
  refine dq (xs:=CV rows ns) (fun pre τ G'=>∃ (S:Su) (a b:Option D),G'=G2/\τ=[some (enc rows),some (enc ns),some (.ref p1),some (.int (lo rows)),some (.pj (je S)),a,b]/\U6 S (((CV rows ns).drop pre.length).map (·.1))/\(S.length<=8 * 8 ^ pre.length/\iC S<=8 * 8 ^ pre.length)/\∀ g,oA ((CV rows ns).drop pre.length) g S=Br (fr rows) (CV rows ns) (jd (lo rows) g))
   ⟨_,_,_,rfl,rfl,so0,⟨(by decide:1<=8 * 8 ^ 0),bc (Nat.le_of_eq (To _)) (JY lol)⟩,start⟩ (fun pre τ G' h=>b7 G' (by obtain⟨_,_,_,rfl,_⟩:=h; exact .refl _)) ?_ ?_
  ·rintro pre x post τ G' N2 e ⟨S,a,b,rfl,rfl,so,⟨sl,sn⟩,sv⟩ mH;have dr:(CV rows ns).drop pre.length=x :: post:=by rw [e,List.drop_left]
   have dr2:(CV rows ns).drop (pre++[x]).length=post:=by
    rw [e,show pre++x :: post=(pre++[x])++post by simp,List.drop_left]
   have yO:pre.length+1+post.length<=6:=by
    have:=congrArg dI e;rw [aC,ah,hnl] at this; lia
   have Rq:(x.1 :: post.map (·.1)).Nodup:=by
    have h1:=Mn rows ns;rw [e,aN,ak] at h1;have h2:=nn;rw [<-h1] at h2;exact(List.nodup_append.mp h2).2.1
   rw [dr] at so sv;have p8:=abf (k:=pre.length) (by lia);have e3:(enc x:D)=.tup [.int x.1,.int x.2]:=rfl;rw [e3];simp only [jL,cX,jz,aI,ai,ao];simp only [bF,cz,br,av,ar,↓ae,↓aa,aO,aI,↓ao,↓ai];refine⟨S,x.1,x.2,post,rfl,⟨so,Rq,by lia,by lia,by lia⟩,fun S' so' l1 l2 v=>?_⟩;refine cC (mH _ _ ?_);rw [dr2];have e8:8 * 8 ^ (pre++[x]).length=8 * (8 * 8 ^ pre.length):=by
    rw [aC,cx,xB]; lia
   rw [e8];exact⟨S',_,_,rfl,rfl,so',⟨by lia,by lia⟩,fun g=>by rw [v]; exact sv g⟩
  ·rintro τ G' ⟨S,a,b,rfl,rfl,so,⟨sl,sn⟩,sv⟩;have dr:(CV rows ns).drop (CV rows ns).length=[]:=List.drop_length;rw [dr] at so sv;have:8 ^ (CV rows ns).length<=8 ^ 6:=fD (by decide) (by lia);exact hN _ _ ⟨S,_,_,rfl,rfl,so,by lia,sv⟩
 ·rintro _ G' ⟨S,a,b,rfl,rfl,so,hn,hv⟩;simp only [cb,cz,ar,↓ae,↓aa];exact zH g1 (q S so hn hv)
structure BP(T:Po)(f:Fn->Int):Prop where
 nd:ND T
 nz:NZ T
 fF:fF T<=2097152
 val:∀ g,L g T=f g
def brk(rows:Rows)(g:Fn):Int:=Br (fr rows) (nh rows) (jd (lo rows) g)
def Wu{S:Su}(so:U6 S []):∀ p∈S,p.1=[]:=fun p hp=>by
 obtain⟨P,e,nd,h⟩:=so.pl p hp;have:P=[]:=WI nd fun e=>g7 fun z=>by
  obtain⟨n,hn,_⟩:=(h e).mp z;cases hn
 rw [e,this]; rfl
theorem Tz{S:Su}(so:U6 S [])(g:Fn):oA [] g S=L g ((cp S []).getD []):=by
 have h:=Wu so;have nd:=so.Pb.1;cases S with
 | nil=>rfl
 | cons p S =>
  have e1:=h p (by simp);have e2:S=[]:=by
   cases S with
   | nil=>rfl
   | cons q S =>
    have e3:=h q (by simp);rw [ak,ak,aS] at nd;exact absurd (by rw [e1,e3]; exact bH) nd.1
  subst e2;have e4:cp [p] ([]:PK)=some p.2:=by unfold cp; rw [ck (by simpa using e1)]; rfl
  rw [e4];show L _ p.2+0=L g p.2;rw [FF];congr 1;funext j;show sh j g 0=g j;unfold sh;rw [FE]
def Av:gN :=
 (cb (cz (xq tyP Hk (br tZ (av (ar 0) (av (br fY (av (ar 0) aO)) aO))) (av (cz (iD aO)) (av (cz mM) aO)))))
def kB:jM:=fun ds G Q _=>∃ rows:Rows,ds=[enc rows]/\(Dr rows/\rows.flatten.length<=12)/\∀ T:Po,BP T (brk rows)->Q (.kH (bb T)) G
theorem Ln(ds:List D)(G:Gp)(Q:DK)(h:kB ds G Q fun _ _=>False):Av (fun _ _=>False) (ends Q) (aY 1 ds) G:=by
 obtain⟨rows,rfl,⟨d,hl⟩,q⟩:=h;have nl:=qA d;unfold Av;simp only [cb,cz,xq,br,av,ar,aY,↓ak,↓aQ,↓ah,↓aw,↓aB,↓aM,↓aa,aO,iD,mM,ends];refine⟨rows,rfl,(show rows.flatten.length < 64 by lia),?_⟩;refine⟨rows,names rows,rfl,⟨d,.refl _,by lia⟩,fun S so hn hv=>?_⟩;refine⟨trivial,by decide,cC ?_⟩;intro p hp;refine gY (.new hp) hp az ?_;refine⟨[],rfl,?_⟩;have bp:BP ((cp S []).getD []) (brk rows):=⟨(so.Pb.get []).1,(so.Pb.get []).2,bc (Mm S []) hn,fun g=>by rw [<-Tz so,hv]; rfl⟩;have e:(rC (je S) []).getD (.kH [])=.kH (bb ((cp S []).getD [])):=by
  rw [C4];cases cp S [] <;> rfl
 rw [e];exact cC (q _ bp)
end JB
end K2
end
section
namespace K2
namespace JB
open K2.P K2.J
section
variable {α:Type}
def Cu:List α->List (α×α)
 | a :: b :: l=>(a,b) :: Cu (b :: l)
 | _=>[]
def Yj:List α->List (α×α)
 | []=>[]
 | a :: l=>Cu (a :: l++[a])
def BE(a b:α)(l:List α):Cu (a :: b :: l)=(a,b) :: Cu (b :: l):=rfl
theorem Fs:∀ (xs:List α) (m:α) (ys:List α),Cu (xs++m :: ys)=Cu (xs++[m])++Cu (m :: ys)
 | [],m,ys=>rfl
 | [a],m,ys=>rfl
 | a :: b :: xs,m,ys=>by
  rw [aB,aB,BE,aB,aB,BE,aB];congr 1;exact Fs (b :: xs) m ys
theorem LH:∀ (l:List α) (c:α),l.zip (l.drop 1++[c])=Cu (l++[c])
 | [],_=>rfl
 | [a],c=>rfl
 | a :: b :: l,c=>by
  rw [aB,aB,BE];show (a,b) :: (b :: l).zip (l++[c])=_;congr 1;exact LH (b :: l) c
theorem UQ(A B:List α):(Yj (A++B)).Perm (Yj (B++A)):=by
 cases A with
 | nil=>rw [aM,cg]
 | cons a A =>
  cases B with
  | nil=>rw [aM,cg]
  | cons b B =>
   show (Cu (a :: A++b :: B++[a])).Perm (Cu (b :: B++a :: A++[b]));have e1:Cu (a :: A++b :: B++[a])=Cu (a :: A++[b])++Cu (b :: B++[a]):=by
    rw [dG]; exact Fs (a :: A) b (B++[a])
   have e2:Cu (b :: B++a :: A++[b])=Cu (b :: B++[a])++Cu (a :: A++[b]):=by
    rw [dG]; exact Fs (b :: B) a (A++[b])
   rw [e1,e2];exact xm
end
def Ts(r:List T3):r.zip (jE r)=Yj r:=by
 cases r with
 | nil=>rfl
 | cons a l=>exact LH (a :: l) a
def kY(rows:Rows):pairsOf rows=rows.flatMap Yj:=by
 unfold pairsOf;congr 1;funext r;exact Ts r
theorem tE{α β:Type}(f:α->List β):∀ {rows:List α} {i:Nat} {r r':α},rows[i]?=some r->((rows.set i r').flatMap f).Perm (f r'++(rows.eraseIdx i).flatMap f)
 | [],_,_,_,h=>by simp at h
 | a :: rows,0,r,r',h=>by rw [ai,cZ,O4]
 | a :: rows,i+1,r,r',h=>by
  rw [ao,cZ,O5,cZ];refine((tE f (rows:=rows) (i:=i) (r:=r) (by simpa using h)).append_left _).trans ?_;rw [<-dG,<-dG];exact List.perm_append_comm.append_right _
theorem KU{α β:Type}(f:α->List β){rows:List α}{i:Nat}{r:α}(h:rows[i]?=some r):(rows.flatMap f).Perm (f r++(rows.eraseIdx i).flatMap f):=by
 have:=tE f (r':=r) h;have e:rows.set i r=rows:=by
  obtain⟨hi,e⟩:=List.getElem?_eq_some_iff.mp h;rw [<-e]; exact SV hi
 rw [e] at this; exact this
theorem RQ{rows:Rows}{i:Nat}{r r':List T3}(h:rows[i]?=some r):(rows.set i r').flatten.Perm (r'++(rows.eraseIdx i).flatten):=by
 have:=tE (fun r:List T3=>r) (r':=r') h;simpa [List.flatMap_id'] using this
def UJ{rows:Rows}{i:Nat}{r:List T3}(h:rows[i]?=some r):rows.flatten.Perm (r++(rows.eraseIdx i).flatten):=by
 have:=KU (fun r:List T3=>r) h;simpa [List.flatMap_id'] using this
end JB
end K2
end
section
namespace K2
open PySem (Str)
open Enc (enc)
namespace T
abbrev Tb:=List (List Int)
structure HL(G G':Gp)(p0:Nat)(as:List Nat)(rs:List (List D)):Prop where
 le:ft G G'
 fp:G p0=none
 gp:G' p0=some (.lst (as.map D.ref))
 np:p0∉as
 nd:as.Nodup
 fr:∀ a∈as,G a=none
 len:as.length=rs.length
 at':∀ (i a:Nat) (r:List D),as[i]?=some a->rs[i]?=some r->G' a=some (.lst r)
theorem HL.ext{G G' G'':Gp}{p0:Nat}{as:List Nat}{rs:List (List D)}(h:HL G G' p0 as rs)(l:ft G' G''):HL G G'' p0 as rs :=
 ⟨h.le.trans l,h.fp,l _ _ h.gp,h.np,h.nd,h.fr,h.len,fun i a r h1 h2=>l _ _ (h.at' i a r h1 h2)⟩
theorem HL.row{G G':Gp}{p0:Nat}{as:List Nat}{rs:List (List D)}(h:HL G G' p0 as rs){i:Nat}{r:List D}(hr:rs[i]?=some r):∃ a,as[i]?=some a/\G' a=some (.lst r)/\rZ (as.map D.ref) (i:Int)=some (.ref a):=by
 have hi:i < as.length:=by rw [h.len]; exact(List.getElem?_eq_some_iff.mp hr).1
 refine⟨as[i],ax hi,h.at' i _ r (ax hi) hr,?_⟩;rw [uA _ (by lia) (by rw [aq]; lia)];simp
theorem QK{as:List Nat}(hn:as.Nodup){i j a:Nat}(h1:as[i]?=some a)(h2:as[j]?=some a):i=j:=by
 have g1:=List.getElem?_eq_some_iff.mp h1;have g2:=List.getElem?_eq_some_iff.mp h2;have pw:=List.pairwise_iff_getElem.mp hn;rcases Nat.lt_trichotomy i j with lt | eq | gt
 ·exact absurd (g1.2.trans g2.2.symm) (pw i j g1.1 g2.1 lt)
 ·exact eq
 ·exact absurd (g2.2.trans g1.2.symm) (pw j i g2.1 g1.1 gt)
theorem QJ{as:List Nat}(h:∀ i k a:Nat,i < k->as[i]?=some a->as[k]?=some a->False):as.Nodup:=by
 refine List.pairwise_iff_getElem.mpr fun i k hi hk hik z=>?_;exact h i k as[i] hik (ax hi) (by rw [ax hk,z])
theorem HL.Qa{G G':Gp}{p0:Nat}{as:List Nat}{rs:List (List D)}(h:HL G G' p0 as rs){j a:Nat}{r':List D}(hj:j < as.length)(ga:G' a=some (.lst r'))(na:a∉as)(fa:G a=none)(np:a≠p0):HL G (eL G' p0 (.lst ((as.set j a).map D.ref))) p0 (as.set j a) (rs.set j r'):=by
 have VQ:∀ b,b∈as.set j a->b=a\/b∈as:=fun b hb=>by
  rcases LC hb with z | z
  ·exact .inr z
  ·exact .inl z
 refine⟨h.le.put h.fp,h.fp,az,fun z=>?_,?_,fun b hb=>?_,by rw [cL,cL]; exact h.len,fun i b r hb hr=>?_⟩
 ·rcases VQ _ z with z | z
  ·exact np z.symm
  ·exact h.np z
 ·refine QJ fun i k b hik h1 h2=>?_;by_cases e1:j=i
  ·subst e1;rw [cU hj] at h1;rw [cW (by lia)] at h2;cases h1;exact na (cV h2)
  ·rw [cW e1] at h1;by_cases e2:j=k
   ·subst e2;rw [cU hj] at h2;cases h2;exact na (cV h1)
   ·rw [cW e2] at h2;have:=QK h.nd h1 h2;lia
 ·rcases VQ b hb with z | z
  ·rw [z]; exact fa
  ·exact h.fr b z
 ·have hb0:b≠p0:=by
   rintro rfl;rcases VQ b (cV hb) with z | z
   ·exact np z.symm
   ·exact h.np z
  rw [cE hb0];by_cases e:j=i
  ·subst e;rw [cU hj] at hb;rw [cU (by rw [<-h.len]; exact hj)] at hr;cases hb; cases hr;exact ga
  ·rw [cW e] at hb hr;exact h.at' i b r hb hr
theorem HL.fz{G G':Gp}{p0:Nat}{as:List Nat}{rs:List (List D)}(h:HL G G' p0 as rs){Q:DK}(q:Q (.dw (rs.map D.dw)) G):OW G' (.ref p0) Q:=by
 refine KH h.le h.fp h.gp (ss:=rs.map D.dw) ?_ q;have:∀ (as:List Nat) (rs:List (List D)),as.length=rs.length->(∀ a∈as,G a=none)->(∀ (i a:Nat) (r:List D),as[i]?=some a->rs[i]?=some r->G' a=some (.lst r))->Cw G' (fun a=>(G a).isNone) (as.map D.ref) (rs.map D.dw):=by
  intro as;induction as with
  | nil=>intro rs hl _ _; cases rs with
   | nil=>exact .nil
   | cons _ _=>cases hl
  | cons a as ih =>
   intro rs hl hf zf;cases rs with
   | nil=>cases hl
   | cons r rs =>
    refine .cons (.ref (zf 0 a r rfl rfl) (by simp [hf a (by simp)]) (Cw.same _)) ?_;exact ih rs (by simpa using hl) (fun b hb=>hf b (aG _ hb)) fun i b s h1 h2=>zf (i+1) b s h1 h2
 exact this as rs h.len h.fr h.at'
end T
namespace P
variable {rows:Rows}
def YD(rows:Rows):List T3:=Wx (Vg rows)
end P
namespace P
variable {rows:Rows}
def Yz(rows:Rows)(s:T2):Nat:=(((rows.zipIdx 0).find? fun p=>decide (s∈zy p.1 (p.2:Int))).map (·.2)).getD 0
def JT(n:Nat):gX 0 n=((fL n).map fun (i:Nat)=>(i:Int)).map enc:=by
 unfold gX;rw [bq];refine dE fun i _=>?_;show D.int (0+(i:Int))=D.int (i:Int);rw [FE]
end P
namespace Y
def sS:gN :=
 (b8 (gi (ik (aX YK (ar 1) (ot kj (av (ar 0) aO)))) (cb (cz (aX j6 (ar 0) (ar 1)))) dH)
 (cb (cz (dC (.int 0)))))
def ja(ns:List Int)(k:Int):Int:=ns.getD k.toNat 0
def b0:jM:=fun ds G Q _=>∃ (ns:List Int) (k:Int),ds=[.dw (ns.map D.int),.int k]/\0<=k/\Q (.int (ja ns k)) G
theorem BL(ds:List D)(G:Gp)(Q:DK)(h:b0 ds G Q fun _ _=>False):sS (fun _ _=>False) (ends Q) (aY 2 ds) G:=by
 obtain⟨ns,k,rfl,h0,q⟩:=h;unfold sS;simp only [b8,gi,aY,ak,aQ,ah,aw,aB,aM,cb,cz,aX,ar,aa,ae,ends,sV,dH,dC,du,ot,av,aO,w7,zA,bQ];split
 ·rename_i h;have h1:k < (ns.map D.int).length:=by simpa using h
  rw [uA _ h0 h1];simp only [oH];rw [aq] at h1;have e:ja ns k=ns[k.toNat]:=by unfold ja; rw [eK,ax (by lia)]; rfl
  rw [<-e]; exact cC q
 ·rename_i h;have h1:¬ k < (ns.map D.int).length:=by simpa using h
  rw [aq] at h1;have e:ja ns k=0:=by unfold ja; rw [eK,kl (by lia)]; rfl
  rw [<-e]; exact cC q
def vW:gN :=
 (cb (cz (Bw (OC "int" (ar 0)) (R3 (OC "bool" (ar 0))))))
def cP:jM:=fun ds G Q _=>∃ i:Int,ds=[.int i]/\Q (.bl true) G
theorem Fy(ds:List D)(G:Gp)(Q:DK)(h:cP ds G Q fun _ _=>False):vW (fun _ _=>False) (ends Q) (aY 1 ds) G:=by
 obtain⟨i,rfl,q⟩:=h;unfold vW;simp only [cb,cz,aY,ak,aQ,ah,aw,aB,aM,ends,pT,Bu,wZ,ar,aa,Ba,bQ];simpa using cC q
def yG:gN :=
 (cb (cz (aX sU (aX sU (aX JU (ar 0) (dC (.int 48271))) (ar 1)) (ar 2))))
def pick(c p m:Int):Int:=c * 48271 % p % m
def dF:jM:=fun ds G Q _=>∃ c p m:Int,ds=[.int c,.int p,.int m]/\(0 < p/\0 < m)/\Q (.int (pick c p m)) G
theorem IE(ds:List D)(G:Gp)(Q:DK)(h:dF ds G Q fun _ _=>False):yG (fun _ _=>False) (ends Q) (aY 3 ds) G:=by
 obtain⟨c,p,m,rfl,⟨hp,hm⟩,q⟩:=h;unfold yG;simp only [cb,cz,aX,ar,aY,ak,aQ,ah,aw,aB,aM,aa,dC,ae,ends,nU,jv];exact⟨.inr ⟨by decide,by decide⟩,hp,hm,cC q⟩
def jG(c p:Int){m:Int}(h:0 < m):0<=pick c p m:=xD _ (by lia)
def jH(c p:Int){m:Int}(h:0 < m):pick c p m < m:=rY _ h
def yF:gN :=
 (b8 (gi (pR (ik (OC "dict" (ar 0)))) (cb (cz (dC (.bl false)))) dH)
 (b8 (eF (pO (ar 0)) (aI 1) (gi (E5 (pR (ik (br cP (av (ar 1) aO)))) (E5 (pR (ik (br cP (av (aX j6 (ar 0) (ar 1)) aO)))) (ik (aX (JW false) (aX j6 (ar 0) (ar 1)) (dC (.int 0)))))) (cb (cz (dC (.bl false)))) dH))
 (cb (cz (dC (.bl true))))))
def jq:jM:=fun ds G Q _=>∃ (d:D) (l:Po),ds=[d]/\Pl G d l/\NZ l/\Q (.bl true) G
theorem ID(ds:List D)(G:Gp)(Q:DK)(h:jq ds G Q fun _ _=>False):yF (fun _ _=>False) (ends Q) (aY 2 ds) G:=by
 obtain⟨d,l,rfl,hd,hz,q⟩:=h;unfold yF;refine dW (fun τ G'=>τ=[some d,none]/\G=G') ?_ ?_
 ·intro N hN;simp only [gi,pR,aY,ak,aQ,ah,aw,aT,aB,aM,cb,cz,dC,ends,dH,du,wZ,ar,aa];refine Rj (G:=G) hd.is.p ?_;simp only [beq_self_eq_true,bQ,bK,au,if_false];exact hN _ _ ⟨rfl,rfl⟩
 rintro _ _ ⟨rfl,rfl⟩;refine dW (fun τ G'=>(∃ a,τ=[some d,a])/\G=G') ?_ ?_
 ·intro N hN;simp only [eF,pO,ar,aa,ends];refine qM hd.is (.refl _) fun ok b7=>?_;refine dq (xs:=l) (fun pre τ G'=>(∃ a,τ=[some d,a])/\G=G') ⟨⟨_,rfl⟩,rfl⟩ (fun pre τ G' h=>b7 G' (by rw [<-h.2]; exact .refl _)) ?_ ?_
  ·rintro pre x post τ G' N2 e ⟨⟨a,rfl⟩,rfl⟩ mH;have hm:x∈l:=by rw [e]; simp
   have hx:=pV hd.nd hm;simp only [aI,gi,E5,pR,ao,ai,cb,cz,dC,dH,if_true,du,aX,ar,aa,ae,br,av,aO];refine⟨_,rfl,?_⟩;simp only [bQ,bK,au,if_false];refine CQ hd.is.p hx ⟨x.2,rfl,?_⟩;simp only [bQ,bK,au,if_false];refine CQ hd.is.p hx ⟨_,_,.int _,.int _,?_⟩;simp only [au,EU,hz x hm,decide_false,eW,if_false,bQ];exact mH _ _ ⟨⟨_,rfl⟩,rfl⟩
  ·rintro τ G' ⟨⟨a,rfl⟩,rfl⟩;exact hN _ _ ⟨⟨_,rfl⟩,rfl⟩
 ·rintro _ _ ⟨⟨a,rfl⟩,rfl⟩;simp only [cb,cz,dC,ends];exact cC q
def vX:gN :=
 (b8 (bF mM (aI 1))
 (b8 (eF (pO (ar 0)) (aI 2) (gi (ik (aX (JW true) (aX j6 (ar 0) (ar 2)) (dC (.int 0)))) (bF (aX j6 (ar 0) (ar 2)) (kh (ar 1) (ar 2))) dH))
 (cb (cz (ar 1)))))
def kS:jM:=dc
theorem FA(ds:List D)(G:Gp)(Q:DK)(h:kS ds G Q fun _ _=>False):vX (fun _ _=>False) (ends Q) (aY 3 ds) G:=by
 obtain⟨d,l,rfl,hd,hl,q⟩:=h;unfold vX;simp only [ends,aY,ak,aQ,ah,aw,aT,aB,aM,cu,bF,mM,aI,ao,ai];intro p hp;refine dW (fun τ G'=>(∃ a,τ=[some d,some (.ref p),a])/\ft G G'/\G' p=some (.fU (bb (gc l)))) ?_ ?_
 ·intro N hN;simp only [eF,pO,ar,aa];refine qM hd.is (.new hp) fun ok b7=>?_;refine dq (xs:=l) (fun pre τ G'=>(∃ a,τ=[some d,some (.ref p),a])/\ft G G'/\G' p=some (.fU (bb (gc pre)))) ⟨⟨_,rfl⟩,.new hp,az⟩ (fun pre τ G' h=>b7 G' h.2.1) ?_ ?_
  ·rintro pre x post τ G' N2 e ⟨⟨a,rfl⟩,le,gp⟩ mH;have hlen:(gc pre).length < SZ:=by
    have:=uc pre;have:=hX e; lia
   have hm:x∈l:=by rw [e]; simp
   have hx:=pV hd.nd hm;simp only [aI,gi,ao,ai,bF,aX,ar,aa,ae,kh,dH,du,dC];refine CQ hd.is.p hx ⟨_,_,.int _,.int _,?_⟩;simp only [EU,if_true,bQ];by_cases hz:x.2=0
   ·simp only [hz,decide_true,bK,au,if_false];exact mH _ _ ⟨⟨_,rfl⟩,le,by rw [AJ hz]; exact gp⟩
   ·simp only [hz,decide_false,eW,if_true];refine CQ hd.is.p hx ?_;refine fN (α:=Int) gp hlen ?_;exact mH _ _ ⟨⟨_,rfl⟩,le.put hp,by rw [az,<-AI hd.nd e hz]⟩
  ·rintro τ G' ⟨⟨a,rfl⟩,le,gp⟩;exact hN _ _ ⟨⟨_,rfl⟩,le,gp⟩
 ·rintro _ G' ⟨⟨a,rfl⟩,le,gp⟩;simp only [cb,cz,ar,ae,aa];exact qQ le hp gp q
def sQ:gN :=
 (b8 (bF mM (aI 2))
 (b8 (eF (pO (ar 0)) (aI 3) (eF (pO (ar 1)) (aI 4) (bF (aX gK (xq S2 Kh (ar 2) (av (aX gK (ar 3) (ar 4)) (av (dC (.int 0)) aO))) (aX GC (aX j6 (ar 0) (ar 3)) (aX j6 (ar 1) (ar 4)))) (kh (ar 2) (aX gK (ar 3) (ar 4))))))
 (cb (cz (br kS (av (cz (ar 2)) aO))))))
def jo:jM:=jl
theorem BJ(ds:List D)(G:Gp)(Q:DK)(h:jo ds G Q fun _ _=>False):sQ (fun _ _=>False) (ends Q) (aY 5 ds) G:=by
 obtain⟨d,e,l,m,rfl,hd,he,hl,⟨hb,hf⟩,q⟩:=h;unfold sQ;simp only [ends,aY,ak,aQ,ah,aw,aT,aB,aM,cu,bF,mM,aI,ao,ai];intro p hp;refine dW (fun τ G'=>(∃ a1 a2,τ=[some d,some e,some (.ref p),a1,a2])/\ft G G'/\G' p=some (.fU (bb (lQ l m)))) ?_ ?_
 ·intro N hN;simp only [eF,pO,ar,aa];refine qM hd.is (.new hp) fun ok b7=>?_;refine dq (xs:=l) (fun pre τ G'=>(∃ a1 a2,τ=[some d,some e,some (.ref p),a1,a2])/\ft G G'/\G' p=some (.fU (bb (pre.foldl (mJ m) [])))) ⟨⟨_,_,rfl⟩,.new hp,az⟩ (fun pre τ G' h=>b7 G' h.2.1) ?_ ?_
  ·rintro pre x post τ G' N2 e1 ⟨⟨a1,a2,rfl⟩,le,gp⟩ mH;have hm1:x∈l:=by rw [e1]; simp
   have hx:x.2.natAbs < qU:=fC (we hm1) hb;simp only [aI,eF,pO,ar,ao,ai,ae,aa];refine qM he.is le fun X8 Xl=>?_;refine dq (xs:=m) (fun mp τ G'=>(∃ a2,τ=[some d,some e,some (.ref p),some (.int x.1),a2])/\ft G G'/\G' p=some (.fU (bb (mJ mp (pre.foldl (mJ m) []) x)))) ⟨⟨_,rfl⟩,le,gp⟩ (fun pre τ G' h=>Xl G' h.2.1) ?_ ?_
   ·rintro mp y mq τ G2 N3 e2 ⟨⟨b2,rfl⟩,Hs,FJ⟩ EH;have Ta:y∈m:=by rw [e2]; simp
    have hlen:=bC (Mp e1 e2 (pre.foldl (mJ m) []) (Dl m pre)) hl;have hy:y.2.natAbs < qU:=fC (we Ta) hf;simp only [aI,bF,aX,xq,ar,ao,ai,ae,aa,tX,av,dC,aO,kh,cR];refine⟨Jz (zq.ref FJ),QR (zq.ref FJ) ?_⟩;refine CQ hd.is.p (pV hd.nd hm1) (CQ he.is.p (pV he.nd Ta) ?_);refine⟨⟨hx,hy⟩,?_⟩;refine fN (α:=Int) FJ hlen ?_;refine EH _ _ ⟨⟨_,rfl⟩,Hs.put hp,?_⟩;rw [az]
    conv=>rhs; rw [mJ,gO]
    rfl
   ·rintro τ G2 ⟨⟨b2,rfl⟩,Hs,FJ⟩;refine mH _ _ ⟨⟨_,_,rfl⟩,Hs,?_⟩;rw [FJ,gO]; rfl
  ·rintro τ G' ⟨⟨a1,a2,rfl⟩,le,gp⟩;exact hN _ _ ⟨⟨_,_,rfl⟩,le,gp⟩
 ·rintro _ G' ⟨⟨a1,a2,rfl⟩,le,gp⟩;simp only [cb,cz,br,av,ar,ae,aa,aO];refine gY le hp gp ?_;refine⟨_,lQ l m,rfl,⟨rfl,u7 l m⟩,bc (oM l m) hl,fun p2 pz=>?_⟩;exact qQ (.new pz) pz az q
end Y
namespace FP
open K2.T
open K2.P (names handOf Yz zy fY ju)
open K2.Y (ja pick jG jH b0 cP dF iY hX)
def gF{α:Type} [DecidableEq α] [Enc α](rs:List (List α)):(enc rs:D)=.dw ((rs.map fun r=>r.map enc).map D.dw):=by
 show D.dw _=_;rw [bq]; rfl
def oK:gN :=
 (cb (cz (gL 1 [] (lz (ar 0)) (aI 0) none (ot yS (av (ar 0) aO)))))
def fi:jM:=fun ds G Q _=>∃ rs:List (List D),ds=[.dw (rs.map D.dw)]/\rs.length<=1000/\∀ G' p0 as,HL G G' p0 as rs->Q (.ref p0) G'
theorem tS(ds:List D)(G:Gp)(Q:DK)(h:fi ds G Q fun _ _=>False):oK (fun _ _=>False) (ends Q) (aY 1 ds) G:=by
 obtain⟨rs,rfl,hl,q⟩:=h;unfold oK;simp only [cb,cz,gL,aY,ak,aQ,ah,aw,aB,aM,ends,eQ,ar,aa,EE];refine⟨CG (by rw [aq]; exact hl),?_⟩;refine jB (xs:=rs) (fun pre acc τ G'=>(∃ a,τ=[a])/\∃ as:List Nat,acc=as.map D.ref/\ft G G'/\as.Nodup/\(∀ a∈as,G a=none)/\as.length=pre.length/\(∀ (i a:Nat) (r:List D),as[i]?=some a->pre[i]?=some r->G' a=some (.lst r))) ?_ (fun _ _ _ _ _=>trivial) ?_ ?_
 ·exact⟨⟨_,rfl⟩,[],rfl,.refl G,cj,fun _ h=>by(cases h),rfl,fun i a r h=>by simp at h⟩
 ·rintro pre r post acc τ G' N e ⟨⟨a,rfl⟩,as,rfl,le,nd,fr,ln,zf⟩ hN;simp only [aI,ot,av,ar,ai,aa,aO];refine Sd (IsL.dw) fun p hp=>?_;have hna:p∉as:=fun z=>by
   obtain⟨i,hi⟩:=iP z;have h1:i < pre.length:=by rw [<-ln]; exact(List.getElem?_eq_some_iff.mp hi).1
   have:=zf i p pre[i] hi (ax h1);rw [hp] at this; cases this
  refine hN _ _ _ ⟨⟨_,rfl⟩,as++[p],by simp,le.trans (.new hp),?_,fun b hb=>?_,by rw [aC,aC,ln]; rfl,fun i b r2 h1 h2=>?_⟩
  ·rw [cY];exact⟨nd,by simp,fun x hx y hy=>by rw [cK] at hy; subst hy; intro z; exact hna (z ▸ hx)⟩
  ·rcases List.mem_append.mp hb with z | z
   ·exact fr b z
   ·rw [cK] at z; rw [z]; exact le.free hp
  ·by_cases hi:i < as.length
   ·rw [b9 hi] at h1;rw [b9 (by rw [<-ln]; exact hi)] at h2;have:=zf i b r2 h1 h2;exact(ft.new hp) _ _ this
   ·rw [bS (by lia)] at h1;rw [bS (by lia)] at h2;have:i - as.length=0:=by
     have:=(List.getElem?_eq_some_iff.mp h1).1;simp at this; lia
    rw [this] at h1;rw [show i - pre.length=0 by lia] at h2;simp at h1 h2;subst h1 h2;exact az
 ·rintro acc τ G' ⟨⟨a,rfl⟩,as,rfl,le,nd,fr,ln,zf⟩ p hp;have hna:p∉as:=fun z=>by
   obtain⟨i,hi⟩:=iP z;have h1:i < rs.length:=by rw [<-ln]; exact(List.getElem?_eq_some_iff.mp hi).1
   have:=zf i p rs[i] hi (ax h1);rw [hp] at this; cases this
  refine cC (q _ p as ⟨le.trans (.new hp),le.free hp,az,hna,nd,fr,ln,fun i b r h1 h2=>?_⟩);exact(ft.new hp) _ _ (zf i b r h1 h2)
def oJ:gN :=
 (b8 (K6 (ik (aX (TU false) (ar 1) (ar 0))) (bF (aX gK (aX sU (ar 1) (dC (.int 999))) (dC (.int 1))) (aI 1)))
 (cb (cz (ar 1))))
def fnx(n:Int):Int:=n % 999+1
def fit(n:Int):Nat->Int
 | 0=>n
 | k+1=>fnx (fit n k)
def Bn{n:Int}(h1:1<=n)(h2:n<=999):∀ k:Nat,fit n k=(n - 1+k) % 999+1
 | 0=>by show n=_; lia
 | k+1=>by
  show fnx (fit n k)=_;rw [Bn h1 h2 k];unfold fnx;lia
theorem RT{n:Int}{ns:List Int}(h1:1<=n)(h2:n<=999)(hl:ns.length<=500):∃ k,k<=ns.length/\fit n k∉ns:=by
 apply g7;intro Xm;have wN:∀ k,k<=ns.length->fit n k∈ns:=fun k hk=>g7 fun z=>Xm ⟨k,hk,z⟩;have nd:((fL (ns.length+1)).map fun k=>fit n k).Nodup:=by
  refine List.pairwise_iff_getElem.mpr fun i j hi hj Ol=>?_;simp only [aq,nE] at hi hj;rw [oH,oH,mC,mC,Bn h1 h2,Bn h1 h2];lia
 have:=iY _ ns nd fun x hx=>by
  obtain⟨k,hk,rfl⟩:=List.mem_map.mp hx;exact wN k (by have:=List.mem_range.mp hk; lia)
 simp at this;lia
def jr:jM:=fun ds G Q _=>∃ (d:D) (ns:List Int) (n:Int),ds=[d,.int n]/\IsL G d (ns.map D.int)/\(ns.length<=500/\1<=n/\n<=999)/\∀ m:Int,m∉ns->1<=m->m<=999->Q (.int m) G
theorem GD{G:Gp}{d:D}{ns:List Int}{i:Int}{Q:DK}(h:IsL G d (ns.map D.int))(k:Q (.bl (decide (i∈ns))) G):TU false (.int i) d G Q:=by
 have e:(ns.map D.int).any (fun x=>iM x (.int i))=decide (i∈ns):=U1 ns i;rcases h with rfl | ⟨a,rfl,g⟩
 ·refine⟨.int i,ns.map D.int,.int _,Sn.rI ns,?_⟩;simp only [au,if_false];rw [e]; exact k
 ·unfold TU;simp only [g];refine⟨.int i,ns.map D.int,.int _,Sn.rI ns,?_⟩;simp only [au,if_false];rw [e]; exact k
theorem tR(ds:List D)(G:Gp)(Q:DK)(h:jr ds G Q fun _ _=>False):oJ (fun _ _=>False) (ends Q) (aY 2 ds) G:=by
 obtain⟨d,ns,n,rfl,hd,⟨hl,h1,h2⟩,q⟩:=h;unfold oJ;refine dW (fun τ G'=>G=G'/\∃ m:Int,(m∉ns/\1<=m/\m<=999)/\τ=[some d,some (.int m)]) ?_ ?_
 ·intro N hN;obtain⟨k,hk,rF⟩:=RT h1 h2 hl;have main:∀ (j:Nat),j<=k->Ge (ik (aX (TU false) (ar 1) (ar 0))) (bF (aX gK (aX sU (ar 1) (dC (.int 999))) (dC (.int 1))) (aI 1)) (j+1) (fun _ _=>False) { ends Q with nx:=N } [some d,some (.int (fit n (k - j)))] G:=by
   intro j;induction j with
   | zero =>
    intro _;show Ge _ _ (0+1) _ _ _ _;rw [Ge];simp only [bF,aX,ar,ae,aa,dC,aI,ends,ao,ai,jv,cR,du];refine GD hd ?_;simp only [Nat.sub_zero,rF,decide_false,bQ,au,if_false];have:=Bn h1 h2 k;exact hN _ _ ⟨rfl,_,⟨rF,by lia,by lia⟩,rfl⟩
   | succ j ih =>
    intro hj;rw [Ge];simp only [bF,aX,ar,ae,aa,dC,aI,ends,ao,ai,jv,cR,du];refine GD hd ?_;have hb:=Bn h1 h2 (k - (j+1));by_cases hm:fit n (k - (j+1))∈ns
    ·simp only [hm,decide_true,bQ,if_true];refine⟨by decide,?_⟩;have e:fit n (k - (j+1)) % 999+1=fit n (k - j):=by
      rw [show k - j=(k - (j+1))+1 by lia]; rfl
     rw [e];exact ih (by lia)
    ·simp only [hm,decide_false,bQ,au,if_false];exact hN _ _ ⟨rfl,_,⟨hm,by lia,by lia⟩,rfl⟩
  have:=main k (aE _);rw [Nat.sub_self] at this;exact⟨k+1,this⟩
 ·rintro _ _ ⟨rfl,m,⟨m1,m2,m3⟩,rfl⟩;simp only [cb,cz,ar,ae,aa,ends];exact cC (q m m1 m2 m3)
abbrev dT(t:Tb):List (List D):=t.map fun r=>r.map D.int
end FP
namespace FP
open K2.T
open K2.P (names handOf Yz zy fY ju)
open K2.Y (ja pick jG jH b0 cP dF iY hX)
structure AL(G G':Gp)(as:List Nat)(rs:List (List D)):Prop where
 le:ft G G'
 nd:as.Nodup
 fr:∀ a∈as,G a=none
 len:as.length=rs.length
 at':∀ (i a:Nat) (r:List D),as[i]?=some a->rs[i]?=some r->G' a=some (.lst r)
def AL.nil(G:Gp):AL G G [] []:=⟨.refl G,cj,fun _ h=>by(cases h),rfl,fun i a r h=>by simp at h⟩
theorem AL.new{G G':Gp}{as:List Nat}{rs:List (List D)}(h:AL G G' as rs){p:Nat}(hp:G' p=none):p∉as:=fun z=>by
 obtain⟨i,hi⟩:=iP z;have h1:i < rs.length:=by rw [<-h.len]; exact(List.getElem?_eq_some_iff.mp hi).1
 have:=h.at' i p rs[i] hi (ax h1);rw [hp] at this; cases this
theorem AL.push{G G':Gp}{as:List Nat}{rs:List (List D)}(h:AL G G' as rs){p:Nat}(hp:G' p=none)(r:List D):AL G (eL G' p (.lst r)) (as++[p]) (rs++[r]):=by
 refine⟨h.le.trans (.new hp),?_,fun b hb=>?_,by rw [aC,aC,h.len]; rfl,fun i b r2 h1 h2=>?_⟩
 ·rw [cY];exact⟨h.nd,by simp,fun x hx y hy=>by rw [cK] at hy; subst hy; intro z; exact h.new hp (z ▸ hx)⟩
 ·rcases List.mem_append.mp hb with z | z
  ·exact h.fr b z
  ·rw [cK] at z; rw [z]; exact h.le.free hp
 ·by_cases hi:i < as.length
  ·rw [b9 hi] at h1;rw [b9 (by rw [<-h.len]; exact hi)] at h2;exact(ft.new hp) _ _ (h.at' i b r2 h1 h2)
  ·have ln:=h.len;rw [bS (by lia)] at h1;rw [bS (by lia)] at h2;have:i - as.length=0:=by
    have:=(List.getElem?_eq_some_iff.mp h1).1;simp at this; lia
   rw [this] at h1;rw [show i - rs.length=0 by lia] at h2;simp at h1 h2;subst h1 h2;exact az
theorem AL.top{G G':Gp}{as:List Nat}{rs:List (List D)}(h:AL G G' as rs){p:Nat}(hp:G' p=none):HL G (eL G' p (.lst (as.map D.ref))) p as rs :=
 ⟨h.le.trans (.new hp),h.le.free hp,az,h.new hp,h.nd,h.fr,h.len,fun i b r h1 h2=>(ft.new hp) _ _ (h.at' i b r h1 h2)⟩
theorem lT{i:Nat}{t:gN}{E:lM}{K:lF}{τ:iO}{G:Gp}:Ie i t E K τ G=t E { K with nx:=fun qh G1=>match qh[i]? with
 | some (some d)=>OW G1 d fun t G2=>K.nx (qh.set i (some t)) G2
 | _=>False } τ G:=rfl
end FP
namespace SH
open K2.P
section
variable {α β:Type} [DecidableEq α] [DecidableEq β]
variable {V:List α} {R:α->α->Prop}
def it(f:α->α):Nat->α->α
 | 0,a=>a
 | n+1,a=>f (it f n a)
variable {f:α->α}
theorem QO:∀ (xs ys:List α),xs.Nodup->(∀ x∈xs,x∈ys)->xs.length<=ys.length
 | [],_,_,_=>cw _
 | x :: xs,ys,hn,h=>by
  rw [aS] at hn;have:=QO xs (ys.erase x) hn.2 fun y hy=>(yv (show y≠x from fun z=>hn.1 (by rw [<-z]; exact hy))).mpr (h y (aG _ hy));have hx:=h x (by simp);rw [tW hx] at this;have:=vF hx;rw [ah]; lia
def gr(V:List α)(f:α->α):List (α×α):=V.map fun a=>(a,f a)
end
end SH
namespace SH
open K2.P
variable {rows:Rows}
def flp(z:T3):T3:=⟨z.a,z.b,1 - z.c⟩
def swp(off:List T2)(z:T3):T3:=if z.s∈off then flp z else z
def phi(rows:Rows)(off:List T2)(a:T3):T3:=swp off (step rows a)
def acR(rows:Rows):List T2:=rows.flatten.map T3.s
def acI(rows:Rows):List T2:=(Vg rows).filter fun s=>decide (s.b=2)
def pr(s:T2):T3×T3:=(lft s,rgt s)
def base(rows:Rows):List (T3×T3):=gr (YD rows) (phi rows (acR rows))++(acI rows).map pr
end SH
namespace II
open K2.P
structure HR(G G':Gp)(p0:Nat)(as:List Nat)(rs:Rows):Prop where
 le:ft G G'
 fp:G p0=none
 gp:G' p0=some (.lst (as.map D.ref))
 np:p0∉as
 nd:as.Nodup
 fr:∀ a∈as,G a=none
 len:as.length=rs.length
 at':∀ (i a:Nat) (r:List T3),as[i]?=some a->rs[i]?=some r->G' a=some (.lst (r.map enc))
end II
namespace K13
open K2.P K2.II
variable {rows:Rows}
def Kv{c:yp}{a b:gN}{E:lM}{K:lF}{τ:iO}{G:Gp}:gi c a b E K τ G=c E τ G fun k G1=>if k=true then a E K τ G1 else b E K τ G1:=rfl
end K13
namespace K13
open K2.P K2.II
variable {rows:Rows}
end K13
namespace SH
open K2.P
variable {rows:Rows}
theorem twice(d:Dr rows):rows.flatten.length=2 * (names rows).length:=by
 have e0:(names rows).length=(rows.flatten.filter fun p=>p.b == 0).length:=by unfold names; rw [D5,aq]
 have nd:rows.flatten.Nodup:=by
  have:=d.nd;unfold List.Nodup at this;rw [ny] at this;exact this.imp fun {u v} q z=>q (by rw [z])
 have h1:rows.flatten.length=(rows.flatten.filter fun p=>p.b == 0).length+(rows.flatten.filter fun p=>!(p.b == 0)).length:=by
  rw [<-FW,<-FW];rw [List.length_eq_countP_add_countP (fun p:T3=>p.b == 0) (l:=rows.flatten)];congr 1;refine List.countP_congr fun x _=>?_;simp
 have Vv:∀ {L:List T3},L.Nodup->(L.map om).Nodup:=by
  intro L h;unfold List.Nodup;rw [ny];exact h.imp fun {u v} q z=>q (by rw [<-Vu u,z,Vu])
 have a1:=QO ((rows.flatten.filter fun p=>p.b == 0).map om) (rows.flatten.filter fun p=>!(p.b == 0)) (Vv (nd.filter _)) fun x hx=>by
  obtain⟨p,hp,rfl⟩:=List.mem_map.mp hx;obtain⟨h1,h2⟩:=List.mem_filter.mp hp;have h2:p.b=0:=by simpa using h2
  refine List.mem_filter.mpr ⟨QA d h1,?_⟩;show (!(1 - p.b == 0))=true;rw [h2]; rfl
 have a2:=QO ((rows.flatten.filter fun p=>!(p.b == 0)).map om) (rows.flatten.filter fun p=>p.b == 0) (Vv (nd.filter _)) fun x hx=>by
  obtain⟨p,hp,rfl⟩:=List.mem_map.mp hx;obtain⟨h1,h2⟩:=List.mem_filter.mp hp;have h2:p.b≠0:=by simpa using h2
  have h3:=(d.way p h1).resolve_left h2;refine List.mem_filter.mpr ⟨QA d h1,?_⟩;show (1 - p.b == 0)=true;rw [h3]; rfl
 rw [aq] at a1 a2;lia
end SH
namespace FO
open K2.P K2.SH
section
variable {α:Type} [DecidableEq α]
def dd(l:List α):List α:=l.foldl (fun acc x=>if x∈acc then acc else acc++[x]) []
end
variable {rows:Rows}
end FO
instance:FC T2 where
 mn:=by
  intro x G xs Q hi tm k;cases xs with
  | nil=>exact absurd rfl tm
  | cons a r =>
   obtain⟨h1,h2⟩:=kE r a;have ei:itemsOf x G=some (((a :: r).map T2.l).map tI):=by rw [hi,bq]; rfl
   refine .inr ⟨(a :: r).map T2.l,_,ei,rfl,?_⟩;have:∀ (r:List T2) (a:T2),(r.map T2.l).foldl (fun m x=>if lexLt x m=true then x else m) a.l=(r.foldl (fun m x=>if aU.lt x m=true then x else m) a).l:=by
    intro r;induction r with
    | nil=>intro a; rfl
    | cons b r ih =>
     intro a;rw [ak,cM,cM];have e:(if lexLt b.l a.l=true then b.l else a.l)=(if aU.lt b a=true then b else a).l:=by
      have:aU.lt b a=lexLt b.l a.l:=ve _ _;rw [this];split <;> rfl
     rw [e]; exact ih _
   rw [this r a];exact k _ h1 h2
namespace FO
open K2.P K2.SH K2.T
open K2.Y (hX)
variable {rows:Rows}
end FO
namespace FO
open K2.P K2.T
open K2.FP (AL fi fnx gF lT)
open K2.Y (ja pick jG jH b0 cP dF iY hX)
def Kv{c:yp}{a b:gN}{E:lM}{K:lF}{τ:iO}{G:Gp}:gi c a b E K τ G=c E τ G fun k G1=>if k=true then a E K τ G1 else b E K τ G1:=rfl
def eq_int(i j:Int):iM (.int i) (.int j)=decide (i=j):=Enc.eqv i j
def wc(L:List T3):List Int:=(L.filter fun p=>p.b == 0).map (·.a)
def dU:jM:=Wt (fun rows:Rows=>rows.flatten.length<=500) fun rows=>wc rows.flatten
def vY:gN :=
 (b8 (bF (iq aO) (aI 1))
 (b8 (eF (lz (ar 0)) (aI 2) (eF (lz (ar 2)) (aI 3) (gi (ik (aX (JW false) (aX j6 (ar 3) (dC (.int 1))) (dC (.int 0)))) (la (xq IT qH (ar 1) (av (aX j6 (ar 3) (dC (.int 0))) aO))) dH)))
 (cb (cz (ar 1)))))
def lR(L:List T3):(wc L).length<=L.length:=by unfold wc; rw [aq]; exact dn _ _
def Uo(a b:List T3):wc (a++b)=wc a++wc b:=by unfold wc; rw [dS,aN]
theorem xg(ds:List D)(G:Gp)(Q:DK)(h:dU ds G Q fun _ _=>False):vY (fun _ _=>False) (ends Q) (aY 4 ds) G:=by
 obtain⟨rows,rfl,hl,q⟩:=h;unfold vY;simp only [ends,aY,ak,aQ,ah,aw,aT,aB,aM,cu,bF,iq,aO,aI,ao,ai];refine⟨by decide,fun p hp=>?_⟩;refine dW (fun τ G'=>(∃ a b,τ=[some (enc rows),some (.ref p),a,b])/\ft G G'/\G' p=some (.lst ((wc rows.flatten).map enc))) ?_ ?_
 ·intro N hN;simp only [eF,eQ,ar,aa];refine gU ?_;refine dq (xs:=rows) (fun pre τ G'=>(∃ a b,τ=[some (enc rows),some (.ref p),a,b])/\ft G G'/\G' p=some (.lst ((wc pre.flatten).map enc))) ⟨⟨_,_,rfl⟩,.new hp,az⟩ (fun _ _ _ _=>trivial) ?_ ?_
  ·rintro pre r post τ G' N2 e ⟨⟨a,b,rfl⟩,l,gp⟩ mH;have hlen:pre.flatten.length+r.length<=rows.flatten.length:=by
    rw [e]; simp only [cQ,ff,aC]; lia
   simp only [aI,eF,ao,ai,eQ,ar,ae,aa];refine gU ?_;refine dq (xs:=r) (fun pp τ G'=>(∃ a b,τ=[some (enc rows),some (.ref p),a,b])/\ft G G'/\G' p=some (.lst ((wc (pre.flatten++pp)).map enc))) ⟨⟨_,_,rfl⟩,l,by rw [cg]; exact gp⟩ (fun _ _ _ _=>trivial) ?_ ?_
   ·rintro pp t pt τ G4 N3 e4 ⟨⟨a,b,rfl⟩,l4,XA⟩ EH;have hpp:pp.length < r.length:=by have:=congrArg dI e4; simp at this; lia
    have hz:=lR (pre.flatten++pp);rw [aC] at hz;simp only [aI,mL,ao,ai,Kv,la,xq,ar,ae,aa,qk,av,aX,dC,aO,kJ,iS,XX,dH,du,Lf];refine⟨_,_,.int _,.int _,?_⟩;rw [eq_int];have eu:wc (pre.flatten++(pp++[t]))=wc (pre.flatten++pp)++wc [t]:=by rw [<-dG,Uo]
    by_cases hb:t.b=0
    ·simp only [au,hb,decide_true,bK,if_false,bQ,XA,true_and,if_true];refine⟨JL (by rw [aq]; lia),EH _ _ ⟨⟨_,_,rfl⟩,l4.put hp,?_⟩⟩;rw [az,eu,aN];have:wc [t]=[t.a]:=by simp [wc,hb]
     rw [this]; rfl
    ·simp only [au,hb,decide_false,eW,if_false,bQ];refine EH _ _ ⟨⟨_,_,rfl⟩,l4,?_⟩;have:wc [t]=[]:=by simp [wc,hb]
     rw [eu,this,cg]; exact XA
   ·rintro τ G4 ⟨⟨a,b,rfl⟩,l4,XA⟩;refine mH _ _ ⟨⟨_,_,rfl⟩,l4,?_⟩;have:(pre++[r]).flatten=pre.flatten++r:=by simp
    rw [this]; exact XA
  ·rintro τ G' ⟨⟨a,b,rfl⟩,l,gp⟩;exact hN _ _ ⟨⟨_,_,rfl⟩,l,gp⟩
 ·rintro _ G' ⟨⟨a,b,rfl⟩,l,gp⟩;simp only [cb,cz,ar,ae,aa];exact i7 l hp gp q
theorem wJ{G G2:Gp}{d:D}{ds:List D}{R:List D->(Gp->Prop)->Gp->Prop}(h:IsL G d ds)(l:ft G G2)(k:∀ ok:Gp->Prop,(∀ G',ft G G'->ok G')->R ds ok G2):S9 d G2 R:=by
 rcases h with rfl | ⟨a,rfl,e⟩
 ·exact k _ fun _ _=>trivial
 ·rw [MC (l _ _ e)];exact k _ fun G' le=>le _ _ e
end FO
namespace JB
open K2.T
open K2.P (names handOf fY ju nH MI pairsOf)
open K2.Y (ja pick jG jH b0 cP dF hX)
open K2.FP (AL gF lT)
open K2.FO (wJ wc lR)
def fi:jM:=FP.fi
def oK:gN :=
 (cb (cz (gL 1 [] (lz (ar 0)) (aI 0) none (ot yS (av (ar 0) aO)))))
def tS(ds:List D)(G:Gp)(Q:DK)(h:fi ds G Q fun _ _=>False):oK (fun _ _=>False) (ends Q) (aY 1 ds) G:=FP.tS ds G Q h
def jr:jM:=FP.jr
def oJ:gN :=
 (b8 (K6 (ik (aX (TU false) (ar 1) (ar 0))) (bF (aX gK (aX sU (ar 1) (dC (.int 999))) (dC (.int 1))) (aI 1)))
 (cb (cz (ar 1))))
def tR(ds:List D)(G:Gp)(Q:DK)(h:jr ds G Q fun _ _=>False):oJ (fun _ _=>False) (ends Q) (aY 2 ds) G:=FP.tR ds G Q h
def As:gN :=
 (b8 (bF (br fi (av (ar 0) aO)) (aI 4))
 (b8 (bF (aX sU (ar 2) (aX gK (ot kj (av (aX j6 (ar 4) (ar 1)) aO)) (dC (.int 1)))) (aI 2))
 (b8 (bF (aX gK (aX gK (Ck (aX j6 (ar 4) (ar 1)) gI (mU (ar 2))) (ar 3)) (Ck (aX j6 (ar 4) (ar 1)) (mU (ar 2)) gI)) (kh (ar 4) (ar 1)))
 (cb (cz (ar 4))))))
def nQ:jM:=fun ds G Q _=>∃ (rs:List (List D)) (i:Nat) (pl:Int) (more:List D),ds=[.dw (rs.map D.dw),.int i,.int pl,.dw more]/\(i < rs.length/\rs.length<=1000/\(∀ r∈rs,r.length<=500)/\more.length<=100)/\∀ (r:List D) (k:Nat),rs[i]?=some r->k<=r.length->(k:Int)=pl % ((r.length:Int)+1)->Q (.dw ((rs.set i (r.take k++more++r.drop k)).map D.dw)) G
theorem Lm(ds:List D)(G:Gp)(Q:DK)(h:nQ ds G Q fun _ _=>False):As (fun _ _=>False) (ends Q) (aY 5 ds) G:=by
 obtain⟨rs,i,pl,more,rfl,⟨hi,hl,hr,hm⟩,q⟩:=h;unfold As;simp only [ends,aY,ak,aQ,ah,aw,aT,aB,aM,cu,bF,br,av,ar,aa,aO,aI,ao,ai,aX,ae,ot,dC,Ck,gI,kh,cb,cz,mf];refine⟨rs,rfl,hl,fun G1 p0 as h1=>?_⟩;obtain⟨r,er⟩:∃ r,rs[i]?=some r:=⟨rs[i],ax hi⟩;have hrl:=hr r (cV er);obtain⟨a,ea,ga,ia⟩:=h1.row (i:=i) (r:=r) er;refine JV (IsL.ref h1.gp) ia (UZ (IsL.ref ga) ?_);simp only [cR,jv,iK];refine⟨by lia,?_⟩;have c1:0<=pl % ((r.length:Int)+1):=xD _ (by lia);have c2:pl % ((r.length:Int)+1) < (r.length:Int)+1:=rY _ (by lia);generalize ec:pl % ((r.length:Int)+1)=c at c1 c2;obtain⟨k,rfl⟩:∃ k:Nat,c=(k:Int):=⟨c.toNat,by lia⟩;have hk:k<=r.length:=by lia
 refine JV (IsL.ref h1.gp) ia (xJ (IsL.ref ga) fun p1 f1=>?_);rw [E8 _ _ hk];have l1:=ft.new (o:=.lst (r.take k)) f1;refine t8 (IsL.ref az) (IsL.dw) (by rw [d6]; exact CG (by lia)) fun p2 f2=>?_;have l2:=ft.new (o:=.lst (r.take k++more)) f2;have l12:=l1.trans l2;refine JV (IsL.ref (l12 _ _ h1.gp)) ia (xJ (IsL.ref (l12 _ _ ga)) fun p3 f3=>?_);rw [w5 _ _ hk];have l3:=ft.new (o:=.lst (r.drop k)) f3;refine t8 (IsL.ref (l3 _ _ az)) (IsL.ref az) (by simp only [aC,d6,cq]; exact CG (by lia)) fun p4 f4=>?_;have l4:=ft.new (o:=.lst (r.take k++more++r.drop k)) f4;have h4:=h1.ext ((l12.trans l3).trans l4);have hn:∀ o,G1 p4≠some o:=fun o z=>by
  have:=(l12.trans l3) _ _ z;rw [f4] at this; cases this
 have n4:p4∉as:=fun z=>by
  obtain⟨j,hj⟩:=iP z;have hjl:j < rs.length:=by rw [<-h1.len]; exact(List.getElem?_eq_some_iff.mp hj).1
  exact hn _ (h1.at' j p4 _ hj (ax hjl))
 have n0:p4≠p0:=fun z=>hn _ (by rw [z]; exact h1.gp);have hf4:G p4=none:=by
  cases e:G p4 with
  | none=>rfl
  | some o=>exact absurd (h1.le _ _ e) (hn o)
 have hj:i < as.length:=(List.getElem?_eq_some_iff.mp ea).1;have h5:=h4.Qa (r':=r.take k++more++r.drop k) hj az n4 hf4 n0;unfold yA;simp only [h4.gp];have ei:IX (as.map D.ref).length (i:Int)=some i:=by
  unfold IX;rw [if_pos (by lia),if_pos (by rw [aq]; lia)]; simp
 simp only [ei];have es:(as.map D.ref).set i (.ref p4)=(as.set i p4).map D.ref:=by rw [List.map_set]
 rw [es];refine h5.fz ?_;exact q r k er hk ec.symm
theorem Qj{α:Type} [DecidableEq α] [Enc α]{G:Gp}{Q:DK}{rows:List (List α)}{i:Nat}{pl:Int}{more:List α}(h:i < rows.length/\rows.length<=1000/\(∀ r∈rows,r.length<=500)/\more.length<=100)
  (q:∀ (r:List α) (k:Nat),rows[i]?=some r->k<=r.length->(k:Int)=pl % ((r.length:Int)+1)->Q (enc (rows.set i (r.take k++more++r.drop k))) G):nQ [enc rows,.int i,.int pl,enc more] G Q fun _ _=>False:=by
 refine⟨rows.map fun r=>r.map enc,i,pl,more.map enc,by rw [gF]; rfl,⟨by rw [aq]; exact h.1,by rw [aq]; exact h.2.1,fun r hr=>?_,by rw [aq]; exact h.2.2.2⟩,fun r k hr hk e=>?_⟩
 ·obtain⟨r',Xj,rfl⟩:=List.mem_map.mp hr;rw [aq]; exact h.2.2.1 r' Xj
 ·rw [bu] at hr;obtain⟨r',Xj,rfl⟩:=Option.map_eq_some_iff.mp hr;rw [aq] at hk e;have:=q r' k Xj hk e;rw [gF,List.map_set,aN,aN,O0,O1] at this;exact this
theorem Dr.two{rows R:Rows}(d:Dr rows){m h:Int}(hm:∀ p∈rows.flatten,p.a≠m)(hh:h=1\/h=-1)(hp:R.flatten.Perm (⟨m,1,h⟩ :: ⟨m,0,h⟩ :: rows.flatten))(EO:rows.flatten.length<=22)(str:R.length<=3):Dr R:=by
 have mem:∀ p,p∈R.flatten↔p=⟨m,1,h⟩\/p=⟨m,0,h⟩\/p∈rows.flatten:=fun p=>by rw [hp.mem_iff,bJ,bJ]
 refine⟨?_,fun p h1=>?_,fun p h1=>?_,fun p h1=>?_,?_,str⟩
 ·refine(hp.map T3.s).nodup_iff.mpr ?_;rw [ak,ak,aS,aS];have out:∀ w:Int,(⟨m,w⟩:T2)∉rows.flatten.map T3.s:=fun w z=>by
   obtain⟨p,zc,e⟩:=List.mem_map.mp z;injection e with e1 _
   exact hm p zc e1
  refine⟨fun z=>?_,out 0,d.nd⟩;rcases List.mem_cons.mp z with z | z
  ·injection z with _ z2; cases z2
  ·exact out 1 z
 ·rcases (mem p).mp h1 with rfl | rfl | h1
  ·exact .inr rfl
  ·exact .inl rfl
  ·exact d.way p h1
 ·rcases (mem p).mp h1 with rfl | rfl | h1
  ·exact hh
  ·exact hh
  ·exact d.hand p h1
 ·rcases (mem p).mp h1 with rfl | rfl | h1
  ·exact(mem _).mpr (.inr (.inl rfl))
  ·exact(mem _).mpr (.inl rfl)
  ·exact(mem _).mpr (.inr (.inr (d.Cc p h1)))
 ·rw [hp.length_eq,ah,ah]; lia
theorem Dr.nil{S:Nat}(h:S<=3):Dr (aT S []):=by
 have e:(aT S ([]:List T3)).flatten=[]:=by
  rw [List.flatten_eq_nil_iff]; intro l hl; exact(List.mem_replicate.mp hl).2
 refine⟨by rw [e]; exact cj,fun p hp=>?_,fun p hp=>?_,fun p hp=>?_,by rw [e]; simp,by simpa using h⟩ <;> rw [e] at hp <;> cases hp
theorem Hz{rows:Rows}{i k:Nat}{r more:List T3}(hr:rows[i]?=some r):(rows.set i (r.take k++more++r.drop k)).flatten.Perm (more++rows.flatten):=by
 refine(RQ hr).trans ?_;refine List.Perm.trans ?_ ((UJ hr).symm.append_left _);rw [<-dG];refine List.Perm.append_right _ ?_
 conv=>rhs; rw [<-xl k r]
 rw [<-dG];exact List.perm_append_comm.append_right _
def acX(rows:Rows)(ns:List Int):Prop:=∀ p∈rows.flatten,p.a∈ns
def sR:gN :=
 (b8 (Ie 3 (bF (gL 1 [] (Dc (ar 1)) (aI 0) none (iq aO)) (aI 3)))
 (b8 (bF (iq aO) (aI 4))
 (b8 (eF (lz (ar 0)) (aI 5) (b8 (bF (br jr (av (ar 4) (av (aX gK (dC (.int 1)) (br dF (av (ar 5) (av (dC (.int 10007)) (av (ar 2) aO))))) aO))) (aI 6))
 (b8 (la (xq IT qH (ar 4) (av (ar 6) aO)))
 (b8 (bF (aX TM (dC (.int 1)) (aX JU (dC (.int 2)) (br dF (av (ar 5) (av (dC (.int 10009)) (av (dC (.int 2)) aO)))))) (aI 7))
 (eF (Dc (dC (.int 2))) (aI 8) (b8 (bF (aX gK (dC (.int 10037)) (aX JU (dC (.int 24)) (ar 8))) (aI 9))
 (b8 (bF (br dF (av (ar 5) (av (aX gK (dC (.int 10039)) (aX JU (dC (.int 28)) (ar 8))) (av (dC (.int 10000)) aO)))) (aI 10))
 (bF (cz (br nQ (av (cz (ar 3)) (av (cz (br dF (av (ar 5) (av (ar 9) (av (ar 1) aO))))) (av (cz (ar 10)) (av (cz (iq (av (iD (av (ar 6) (av (ar 8) (av (ar 7) aO)))) aO))) aO)))))) (aI 3)))))))))
 (cb (cz (ar 3))))))
def jt:jM:=fun ds G Q _=>∃ (d:D) (cells:List Int) (S:Nat) (sp:Int),ds=[d,.int S,.int sp]/\IsL G d (cells.map D.int)/\(cells.length<=12/\(1<=S/\S<=3)/\1<=sp/\sp<=999) /\
 ∀ rows:Rows,Dr rows->rows.length=S->rows.flatten.length=2 * cells.length->Q (enc rows) G
theorem BK(ds:List D)(G:Gp)(Q:DK)(h:jt ds G Q fun _ _=>False):sR (fun _ _=>False) (ends Q) (aY 11 ds) G:=by
 obtain⟨d,cells,S,sp,rfl,hd,⟨KC,⟨hS1,hS3⟩,sp1,sp2⟩,q⟩:=h;unfold sR;simp only [ends,aY,ak,aQ,ah,aw,aT,aB,aM,sI,lT,bF,gL,aI,ao,ai,ae,aa,iq,aO,pN,ar,nG,fh];have Zp:(-(2 ^ 62):Int)<=(S:Int)/\(S:Int) < 2 ^ 62:=by lia
 refine⟨Zp.1,Zp.2,CG (by simp [gX]; lia),?_⟩;refine UR (fun pre acc τ G'=>(∃ a,τ=[a])/\∃ as:List Nat,acc=as.map D.ref/\AL G G' as (aT pre.length [])) ⟨⟨_,rfl⟩,[],rfl,.nil G⟩ (fun _ _ _ _ _=>trivial) ?_ ?_
 ·rintro pre x post acc τ G' N e ⟨⟨a,rfl⟩,as,rfl,al⟩ hN;simp only [aI,iq,aO,aw,ai];refine⟨by decide,fun p hp=>hN _ _ _ ⟨⟨_,rfl⟩,as++[p],by simp,?_⟩⟩;rw [aC,cx,List.replicate_succ'];exact al.push hp []
 rintro acc τ G' ⟨⟨a,rfl⟩,as,rfl,al⟩ p3 f3;refine(al.top f3).fz ?_;have e3:D.dw ((aT (gX 0 S).length ([]:List D)).map D.dw)=enc (aT S ([]:List T3)):=by
  rw [gF]; simp [gX]
 rw [e3];clear al f3 p3 as G' a e3;refine⟨by decide,fun p6 f6=>?_⟩;simp only [eF];simp only [eQ,ar,aa];refine wJ hd (.new f6) fun ok b7=>?_;refine dq (xs:=cells) (f:=D.int) (fun pre τ G'=>ft G G'/\∃ (rows:Rows) (ns:List Int) (a1 a2 a3 a4 a5 a6:Option D),(Dr rows/\rows.length=S/\rows.flatten.length=2 * pre.length/\ns.length=pre.length/\acX rows ns)/\G' p6=some (.lst (ns.map D.int)) /\
  τ=[some d,some (.int S),some (.int sp),some (enc rows),some (.ref p6),a1,a2,a3,a4,a5,a6]) ⟨.new f6,_,[],_,_,_,_,_,_,⟨Dr.nil hS3,by simp,by simp,rfl,fun p hp=>by simp at hp⟩,az,rfl⟩ (fun _ _ _ h=>b7 _ h.1) ?_ ?_
 ·rintro pre x post τ G' N2 e ⟨le,rows,ns,a1,a2,a3,a4,a5,a6,⟨dr,hlen,hfl,ZG,Zt⟩,g6',rfl⟩ mH;have hlp:=hX e;simp only [aI,ao,ai,sI,bF,br,av,ar,ae,aa,aX,dC,aO,la,xq,qk,kJ];refine⟨_,_,_,rfl,⟨by decide,by lia⟩,?_⟩;simp only [cR];have q1:=jG x 10007 (m:=sp) (by lia);have q2:=jH x 10007 (m:=sp) (by lia);refine⟨.ref p6,ns,_,rfl,IsL.ref g6',⟨by lia,by lia,by lia⟩,fun m m1 m2 m3=>?_⟩;simp only [g6',true_and];refine⟨JL (by rw [aq]; lia),?_⟩;have Hs:ft G (eL G' p6 (.lst (ns.map D.int++[.int m]))):=le.put f6;have g62:(eL G' p6 (.lst (ns.map D.int++[.int m]))) p6=some (.lst (ns.map D.int++[.int m])):=az;generalize eL G' p6 (.lst (ns.map D.int++[.int m]))=G2 at Hs g62;refine⟨_,_,_,rfl,by decide,?_⟩;simp only [nU,vZ];have h1:=jG x 10009 (m:=2) (by decide);have h2:=jH x 10009 (m:=2) (by decide);refine⟨.inl ⟨by decide,by decide⟩,?_⟩;have hh:(1 - 2 * pick x 10009 2)=1\/(1 - 2 * pick x 10009 2)=-1:=by lia
  generalize (1 - 2 * pick x 10009 2)=hd at hh;simp only [eF];simp only [pN,dC,nG];refine⟨by decide,by decide,?_⟩;have er:gX 0 (Int.toNat 2)=([0,1]:List Int).map D.int:=rfl;rw [er];have rl:=sJ dr;have fw:=dr.EO;have hmf:∀ p∈rows.flatten,p.a≠m:=fun p hp z=>m1 (z ▸ Zt p hp);refine dq (xs:=([0,1]:List Int)) (f:=D.int) (fun AF τ G3=>G2=G3/\∃ (R:Rows) (b1 b2 b3:Option D),((AF=[]/\R=rows)\/(∃ (i:Nat) (r:List T3) (k:Nat),AF=[0]/\i < S/\rows[i]?=some r/\R=rows.set i (r.take k++[⟨m,0,hd⟩]++r.drop k))\/(AF=[0,1]/\Dr R/\R.length=S/\R.flatten.Perm (⟨m,1,hd⟩ :: ⟨m,0,hd⟩ :: rows.flatten))) /\
   τ=[some d,some (.int S),some (.int sp),some (enc R),some (.ref p6),some (.int x),some (.int m),some (.int hd),b1,b2,b3]) ⟨rfl,rows,_,_,_,.inl ⟨rfl,rfl⟩,rfl⟩ (fun _ _ _ _=>trivial) ?_ ?_
  ·rintro AF w YQ τ G3 N3 e2 ⟨rfl,R,b1,b2,b3,J,rfl⟩ EH;have XQ:(AF=[]/\w=0)\/(AF=[0]/\w=1):=by
    cases AF with
    | nil=>cases e2; exact .inl ⟨rfl,rfl⟩
    | cons u AF =>
     cases AF with
     | nil=>cases e2; exact .inr ⟨rfl,rfl⟩
     | cons v AF =>
      have:=congrArg dI e2;simp at this
   rcases XQ with ⟨rfl,rfl⟩ | ⟨rfl,rfl⟩
   ·have eR:R=rows:=by
     rcases J with ⟨_,z⟩ | ⟨_,_,_,z,_⟩ | ⟨z,_⟩
     ·exact z
     ·cases z
     ·cases z
    subst eR;simp only [aI,ao,ai,sI,bF,aX,dC,ar,ae,aa,br,av,aO,cz,iq,iD,ah,aw,nU,cR];refine⟨.inl ⟨by decide,by decide⟩,?_⟩;refine⟨.inl ⟨by decide,by decide⟩,?_⟩;refine⟨_,_,_,rfl,⟨by decide,by decide⟩,?_⟩;refine cC ⟨_,_,_,rfl,⟨by decide,by lia⟩,cC ?_⟩;have i1:=jG x (10037+24 * 0) (m:=S) (by lia);have i2:=jH x (10037+24 * 0) (m:=S) (by lia);generalize pick x (10037+24 * 0) S=oi at i1 i2;obtain⟨i,rfl⟩:∃ i:Nat,oi=(i:Int):=⟨oi.toNat,by lia⟩;refine cC ⟨by decide,by decide,fun pa fa=>?_⟩;refine i7 (xs:=[(⟨m,0,hd⟩:T3)]) (.new fa) fa az ?_;refine Qj (rows:=R) (more:=[(⟨m,0,hd⟩:T3)]) ⟨by rw [hlen]; lia,by rw [hlen]; lia,fun r hr=>by have:=rl r hr; lia,by simp⟩ fun r k hr hk ek=>cC ?_;exact EH _ _ ⟨rfl,_,_,_,_,.inr (.inl ⟨i,r,k,rfl,by lia,hr,rfl⟩),rfl⟩
   ·obtain⟨i,r,k,hi,hr,rfl⟩:∃ (i:Nat) (r:List T3) (k:Nat),i < S/\rows[i]?=some r/\R=rows.set i (r.take k++[⟨m,0,hd⟩]++r.drop k):=by
     rcases J with ⟨z,_⟩ | ⟨i,r,k,_,z⟩ | ⟨z,_⟩
     ·cases z
     ·exact⟨i,r,k,z⟩
     ·cases z
    simp only [aI,ao,ai,sI,bF,aX,dC,ar,ae,aa,br,av,aO,cz,iq,iD,ah,aw,nU,cR];refine⟨.inl ⟨by decide,by decide⟩,?_⟩;refine⟨.inl ⟨by decide,by decide⟩,?_⟩;refine⟨_,_,_,rfl,⟨by decide,by decide⟩,?_⟩;refine cC ⟨_,_,_,rfl,⟨by decide,by lia⟩,cC ?_⟩;have i1:=jG x (10037+24 * 1) (m:=S) (by lia);have i2:=jH x (10037+24 * 1) (m:=S) (by lia);generalize pick x (10037+24 * 1) S=oj at i1 i2;obtain⟨j,rfl⟩:∃ i:Nat,oj=(i:Int):=⟨oj.toNat,by lia⟩;refine cC ⟨by decide,by decide,fun pa fa=>?_⟩;refine i7 (xs:=[(⟨m,1,hd⟩:T3)]) (.new fa) fa az ?_;refine Qj (more:=[(⟨m,1,hd⟩:T3)]) ⟨by rw [cL,hlen]; lia,by rw [cL,hlen]; lia,fun r2 hr2=>?_,by simp⟩ fun r' k' Xj hk' ek'=>cC ?_
    ·rcases LC hr2 with z | z
     ·have:=rl r2 z; lia
     ·have:=rl r (cV hr);rw [z,aC,aC,cx,d6,cq]; lia
    have pf:=(Hz (k:=k') (more:=[⟨m,1,hd⟩]) Xj).trans ((Hz (k:=k) (more:=[⟨m,0,hd⟩]) hr).append_left _);have dr2:Dr ((rows.set i (r.take k++[⟨m,0,hd⟩]++r.drop k)).set j (r'.take k'++[⟨m,1,hd⟩]++r'.drop k')):=K2.JB.Dr.two dr hmf hh pf (by lia) (by rw [cL,cL]; lia);exact EH _ _ ⟨rfl,_,_,_,_,.inr (.inr ⟨rfl,dr2,by rw [cL,cL]; exact hlen,pf⟩),rfl⟩
  ·rintro τ G3 ⟨rfl,R,b1,b2,b3,J,rfl⟩;obtain⟨drn,ln,pf⟩:Dr R/\R.length=S/\R.flatten.Perm (⟨m,1,hd⟩ :: ⟨m,0,hd⟩ :: rows.flatten):=by
    rcases J with ⟨z,_⟩ | ⟨_,_,_,z,_⟩ | ⟨_,z⟩
    ·cases z
    ·cases z
    ·exact z
   refine mH _ _ ⟨Hs,R,ns++[m],_,_,_,_,_,_,⟨drn,ln,by rw [pf.length_eq,ah,ah,aC,cx]; lia,by rw [aC,aC,ZG]; rfl,fun p hp=>?_⟩,?_,rfl⟩
   ·rcases List.mem_cons.mp (pf.mem_iff.mp hp) with rfl | hp
    ·simp
    ·rcases List.mem_cons.mp hp with rfl | hp
     ·simp
     ·exact oX _ (Zt p hp)
   ·rw [g62,aN]; rfl
 ·rintro τ G' ⟨le,rows,ns,a1,a2,a3,a4,a5,a6,⟨dr,hlen,hfl,ZG,Zt⟩,g6',rfl⟩;simp only [cb,cz,ar,ae,aa];exact zH le (q rows dr hlen hfl)
end JB
namespace JB
open K2.P K2.J
open K2.Y (Po L ND NZ fF mI iH kS jq b0 dF ja pick jG jH Pl EW)
open K2.FP (gF)
open K2.FO (wc lR dU)
variable {rows:Rows}
def wr(rows:Rows):Int:=((names rows).map (handOf rows)).sum
def BP.big{T:Po}{f:Fn->Int}(b:BP T f):Y.fF T < qU:=pb (bc b.fF (by decide))
def hs(L:List T3):Int:=((L.filter fun p=>p.b == 0).map (·.c)).sum
def CW(L:List T3):List (Int×Int):=(L.filter fun p=>p.b == 0).map fun p=>(p.a,p.c)
theorem qz(d:Dr rows):(nh rows).Perm (CW rows.flatten):=by
 unfold nh names;refine((sG _).map _).trans ?_;rw [bq];unfold CW;have:((rows.flatten.filter fun p=>p.b == 0).map ((fun n=>(n,handOf rows n))∘fun p:T3=>p.a))=(rows.flatten.filter fun p=>p.b == 0).map fun p=>(p.a,p.c):=by
  refine dE fun p hp=>?_;show (p.a,handOf rows p.a)=_;rw [MI d (List.mem_filter.mp hp).1]
 rw [this]
def QM{a b:List T3}(h:a.Perm b):(CW a).Perm (CW b):=(h.filter _).map _
def xU(rows:Rows):(nh rows).map (·.1)=names rows:=by
 unfold nh;rw [bq];exact nC _
end JB
end K2
end
section
set_option maxHeartbeats 1000000
end
section
namespace K2
open Enc (enc)
namespace JD
open K2.P K2.J K2.JB
section
variable {nm:Nat->Int} (inj:∀ i j,i < 12->j < 12->vv nm i=vv nm j->i=j)
include inj
omit inj in
end
theorem zK{α β:Type}(f:α->β):∀ l:List α,Cu (l.map f)=(Cu l).map fun p=>(f p.1,f p.2)
 | []=>rfl
 | [_]=>rfl
 | a :: b :: l=>by
  show (f a,f b) :: Cu ((b :: l).map f)=_;rw [zK f (b :: l)]; rfl
theorem E7{α β:Type}(f:α->β)(l:List α):Yj (l.map f)=(Yj l).map fun p=>(f p.1,f p.2):=by
 cases l with
 | nil=>rfl
 | cons a l =>
  show Cu (f a :: l.map f++[f a])=(Cu (a :: l++[a])).map _;rw [<-zK f (a :: l++[a])];congr 1;simp
def WT(o:Bool)(p q:T3):List T3:=if o then [p,q] else [q,p]
def prs(a b c h0 h1 h2:Int)(o m u:Bool):List (List T3):=[WT o ⟨a,0,h0⟩ ⟨b,0,h1⟩,WT m ⟨a,1,h0⟩ ⟨c,0,h2⟩,WT u ⟨b,1,h1⟩ ⟨c,1,h2⟩]
end JD
namespace JE
open K2.P K2.J K2.JB
open K2.JD (zK E7)
def PL{A B:List (T3×T3)}(h:A.Perm B):(LQ A).Perm (LQ B):=h.map _
def YO{A B:List (T3×T3)}(h:A.Perm B)(nd:(es (LQ A)).Nodup):pt (LQ A)=pt (LQ B):=TX (PL h) nd
def ex(X:Int)(p:T3):T3:=if p.a=X then ⟨X,1 - p.b,-p.c⟩ else p
theorem Dr.perm{rows R:Rows}(d:Dr rows)(h:R.flatten.Perm rows.flatten)(str:R.length<=3):Dr R :=
 ⟨(h.map _).nodup_iff.mpr d.nd,fun p hp=>d.way p (h.mem_iff.mp hp),fun p hp=>d.hand p (h.mem_iff.mp hp),fun p hp=>h.mem_iff.mpr (d.Cc p (h.mem_iff.mp hp)),by rw [h.length_eq]; exact d.EO,str⟩
end JE
namespace JF
open K2.P K2.J K2.JB
open K2.JD (zK E7)
theorem Sl{rows R:Rows}(d:Dr rows)(dR:Dr R)(pp:(pairsOf R).Perm (pairsOf rows))(pf:R.flatten.Perm rows.flatten)(l:lo R=lo rows)(g:Fn):brk R g=brk rows g:=by
 have pn:(nh R).Perm (nh rows):=(qz dR).trans ((QM pf).trans (qz d).symm);have ef:fr R=fr rows:=JE.YO pp (DZ dR);unfold brk;rw [uD pn (by rw [xU]; exact Dk dR),ef,l]
theorem P9{rows:Rows}{σ:List T3->List T3}(h:∀ r∈rows,∃ k,σ r=r.drop k++r.take k):(pairsOf (rows.map σ)).Perm (pairsOf rows)/\(rows.map σ).flatten.Perm rows.flatten/\lo (rows.map σ)=lo rows:=by
 induction rows with
 | nil=>exact⟨.refl _,.refl _,rfl⟩
 | cons r rows ih =>
  obtain⟨k,hk⟩:=h r (by simp);obtain⟨i1,i2,i3⟩:=ih fun r' hr=>h r' (by simp [hr]);have e:r.take k++r.drop k=r:=xl k r;refine⟨?_,?_,?_⟩
  ·rw [ak,kY,kY,cZ,cZ,<-kY,<-kY];refine zY ?_ i1;rw [hk];refine(UQ _ _).trans ?_;rw [e]
  ·rw [ak,ff,ff];refine zY ?_ i2;rw [hk];refine List.perm_append_comm.trans ?_;rw [e]
  ·rw [ak];have ee:(σ r).isEmpty=r.isEmpty:=by
    have hl:(σ r).length=r.length:=by rw [hk,aC,cq,d6]; lia
    cases h1:σ r with
    | nil=>rw [h1] at hl; cases r with
     | nil=>rfl
     | cons=>simp at hl
    | cons=>rw [h1] at hl; cases r with
     | nil=>simp at hl
     | cons=>rfl
   unfold lo at i3 ⊢;rw [bW,bW,ee];split
   ·rw [ah,ah,i3]
   ·exact i3
theorem Sm{rows:Rows}{σ:List T3->List T3}(d:Dr rows)(h:∀ r∈rows,∃ k,σ r=r.drop k++r.take k):Dr (rows.map σ)/\∀ g,brk (rows.map σ) g=brk rows g:=by
 obtain⟨a1,a2,a3⟩:=P9 h;have dR:Dr (rows.map σ):=JE.Dr.perm d a2 (by rw [aq]; exact d.str);exact⟨dR,fun g=>Sl d dR a1 a2 a3 g⟩
def rf(p:T3):T3:=⟨p.a,p.b,-p.c⟩
theorem NR(f:T3->T3)(rows:Rows):pairsOf (rows.map fun r=>r.map f)=(pairsOf rows).map fun p=>(f p.1,f p.2):=by
 rw [kY,kY];induction rows with
 | nil=>rfl
 | cons r rows ih=>rw [ak,cZ,ih,cZ,aN,E7]
def HW(f:T3->T3)(rows:Rows):(rows.map fun r=>r.map f).flatten=rows.flatten.map f:=by rw [List.map_flatten]
def W9(f:T3->T3)(rows:Rows):lo (rows.map fun r=>r.map f)=lo rows:=by
 unfold lo;rw [IM,aq];congr 2;funext r;cases r <;> rfl
end JF
namespace JG
open K2.P K2.J K2.JB
def rn(ν:Int->Int)(e:T3):T3:=⟨ν e.a,e.b,e.c⟩
structure Rn(S:Int->Prop)(ν:Int->Int)(f f':T3->T3):Prop where
 cl:∀ e,S e.a->S (f e).a
 eq:∀ e,S e.a->f' (rn ν e)=rn ν (f e)
theorem u5{S:Int->Prop}{ν:Int->Int}(inj:∀ a b,S a->S b->ν a=ν b->a=b){x y:T3}(hx:S x.a)(hy:S y.a):rn ν x=rn ν y↔x=y:=by
 constructor
 ·intro h;obtain⟨xa,xb,xc⟩:=x;obtain⟨ya,yb,yc⟩:=y;injection h with h1 h2 h3
  simp only at h1 h2 h3 hx hy;rw [inj _ _ hx hy h1,h2,h3]
 ·intro h; rw [h]
theorem Rn.jn{S:Int->Prop}{ν:Int->Int}(inj:∀ a b,S a->S b->ν a=ν b->a=b){f f':T3->T3}(r:Rn S ν f f'){x y:T3}(hx:S x.a)(hy:S y.a) :
  Rn S ν (jn f x y) (jn f' (rn ν x) (rn ν y))/\J.cl f' (rn ν x) (rn ν y)=J.cl f x y:=by
 have fx:=r.cl x hx;have fy:=r.cl y hy;refine⟨⟨fun e he=>?_,fun e he=>?_⟩,?_⟩
 ·unfold J.jn;split
  ·exact he
  ·split
   ·exact fy
   ·split
    ·exact fx
    ·exact r.cl e he
 ·unfold J.jn;rw [r.eq x hx,r.eq y hy,r.eq e he];simp only [u5 inj he hx,u5 inj he hy,u5 inj he fx,u5 inj he fy];split
  ·rfl
  ·split
   ·rfl
   ·split
    ·rfl
    ·rfl
 ·unfold J.cl;rw [r.eq x hx];simp only [u5 inj fx hy]
theorem Rn.jK{S:Int->Prop}{ν:Int->Int}(inj:∀ a b,S a->S b->ν a=ν b->a=b):∀ (ps:Pr T3) {f f':T3->T3},Rn S ν f f'->(∀ p∈ps,S p.1.a/\S p.2.a) ->
  Rn S ν (jK f ps) (jK f' (ps.map fun p=>(rn ν p.1,rn ν p.2)))/\cls f' (ps.map fun p=>(rn ν p.1,rn ν p.2))=cls f ps
 | [],f,f',r,_=>⟨r,rfl⟩
 | p :: ps,f,f',r,h=>by
  obtain⟨a1,a2⟩:=Rn.jn inj r (h p (by simp)).1 (h p (by simp)).2;obtain⟨b1,b2⟩:=Rn.jK inj ps a1 fun q hq=>h q (by simp [hq]);refine⟨b1,?_⟩;show J.cl f' _ _+cls (J.jn f' _ _) _=J.cl f _ _+cls (J.jn f _ _) _;rw [a2,b2]
def Zg(ν:Int->Int)(n:Int)(w:Bool):((js n w).map fun p=>(rn ν p.1,rn ν p.2))=js (ν n) w:=by cases w <;> rfl
theorem Zh{S:Int->Prop}{n:Int}(h:S n)(w:Bool):∀ p∈js n w,S p.1.a/\S p.2.a:=fun p hp=>by
 cases w <;> simp only [js,bJ,bV,or_false,if_true,if_false,Bool.true_eq_false] at hp <;> rcases hp with rfl | rfl <;> exact⟨h,h⟩
theorem DP{S:Int->Prop}{ν:Int->Int}(inj:∀ a b,S a->S b->ν a=ν b->a=b):∀ (ps:List (Int×Int)) {f f':T3->T3} (g:Fn),Rn S ν f f'->(∀ p∈ps,S p.1)->Br f' (ps.map fun p=>(ν p.1,p.2)) g=Br f ps g
 | [],f,f',g,_,_=>rfl
 | p :: ps,f,f',g,r,h=>by
  have hp:=h p (by simp);have st:=fun w=>Rn.jK inj (js p.1 w) r (Zh hp w);have s0:=st false;have s1:=st true;rw [Zg] at s0 s1;show Br (J.jK f' (js (ν p.1) false)) (ps.map fun p=>(ν p.1,p.2)) (jd (cls f' (js (ν p.1) false)) (sh p.2 g))+Br (J.jK f' (js (ν p.1) true)) (ps.map fun p=>(ν p.1,p.2)) (jd (cls f' (js (ν p.1) true)) (sh (-p.2) g))=Br (J.jK f (js p.1 false)) ps (jd (cls f (js p.1 false)) (sh p.2 g))+Br (J.jK f (js p.1 true)) ps (jd (cls f (js p.1 true)) (sh (-p.2) g));rw [DP inj ps _ s0.1 fun q hq=>h q (by simp [hq]),DP inj ps _ s1.1 fun q hq=>h q (by simp [hq]),s0.2,s1.2]
def Pf(Λ:Fn->Int)(g:Fn):Fn:=fun i=>Λ (sh i g)
def Z6(Λ:Fn->Int)(b:Int)(g:Fn):Pf Λ (sh b g)=sh b (Pf Λ g):=by
 funext i;show Λ (sh i (sh b g))=Λ (sh (i+b) g);rw [PW]
theorem Z7(f:T3->T3)(ps:List (Int×Int))(g:Fn):Pf (Br f ps) (lp g)=lp (Pf (Br f ps) g):=by
 funext i;show Br f ps (sh i (lp g))=-(Br f ps (sh (i+2) g)) - Br f ps (sh (i - 2) g);have e:sh i (lp g)=pl (sc (-1) (sh (i+2) g)) (sc (-1) (sh (i - 2) g)):=by
  funext j;show -(g (j+i+2)) - g (j+i - 2)=-1 * g (j+(i+2))+-1 * g (j+(i - 2));rw [show j+(i+2)=j+i+2 by lia,show j+(i - 2)=j+i - 2 by lia];lia
 rw [e,Nb,DO,DO];lia
theorem Sv(f:T3->T3)(ps:List (Int×Int))(n:Nat)(g:Fn):Pf (Br f ps) (jd n g)=jd n (Pf (Br f ps) g):=by
 induction n with
 | zero=>rfl
 | succ n ih =>
  show Pf (Br f ps) (lp (jd n g))=lp (jd n (Pf (Br f ps) g));rw [Z7,ih]
theorem Xg{S:Int->Prop}{f:T3->T3}(c1:∀ e,S e.a->S (f e).a){x y:T3}(hx:S x.a)(hy:S y.a):(∀ e,¬ S e.a->jn f x y e=f e)/\∀ e,S e.a->S (jn f x y e).a:=by
 refine⟨fun e he=>?_,fun e he=>?_⟩
 ·unfold J.jn;rw [if_neg (by rintro(rfl | rfl); exact he hx; exact he hy),if_neg (fun z=>he (by rw [z]; exact c1 x hx)),if_neg (fun z=>he (by rw [z]; exact c1 y hy))]
 ·unfold J.jn;split
  ·exact he
  ·split
   ·exact c1 y hy
   ·split
    ·exact c1 x hx
    ·exact c1 e he
theorem Mw{S:Int->Prop}:∀ (ps:Pr T3) {f:T3->T3},(∀ e,S e.a->S (f e).a)->(∀ p∈ps,S p.1.a/\S p.2.a)->(∀ e,¬ S e.a->jK f ps e=f e)/\∀ e,S e.a->S (jK f ps e).a
 | [],f,c1,_=>⟨fun _ _=>rfl,c1⟩
 | p :: ps,f,c1,h=>by
  obtain⟨a1,a2⟩:=Xg c1 (h p (by simp)).1 (h p (by simp)).2;obtain⟨b1,b2⟩:=Mw ps a2 fun q hq=>h q (by simp [hq]);exact⟨fun e he=>(b1 e he).trans (a1 e he),b2⟩
def Vl(e:T3):rn (fun a=>a) e=e:=rfl
theorem SR{S:Int->Prop}(qs:List (Int×Int))(hq:∀ p∈qs,¬ S p.1):∀ (ps:List (Int×Int)) {f:T3->T3} (g:Fn),(∀ e,S e.a->S (f e).a)->(∀ e,¬ S e.a->¬ S (f e).a)->(∀ p∈ps,S p.1)->Br f (ps++qs) g=Br f ps (Pf (Br f qs) g)
 | [],f,g,_,_,_=>by
  show Br f qs g=Br f qs (sh 0 g);rw [LV]
 | p :: ps,f,g,c1,c2,h=>by
  have hp:=h p (by simp);have st:∀ (w:Bool) (b:Int),Br (J.jK f (js p.1 w)) (ps++qs) (jd (cls f (js p.1 w)) (sh b g))=Br (J.jK f (js p.1 w)) ps (jd (cls f (js p.1 w)) (sh b (Pf (Br f qs) g))):=fun w b=>by
   obtain⟨d1,d2⟩:=Mw (js p.1 w) c1 (Zh hp w);have d3:∀ e,¬ S e.a->¬ S (J.jK f (js p.1 w) e).a:=fun e he=>by rw [d1 e he]; exact c2 e he
   rw [SR qs hq ps _ d2 d3 fun q hq=>h q (by simp [hq])];have ee:∀ k,Br (J.jK f (js p.1 w)) qs k=Br f qs k:=fun k=>by
    have:=DP (S:=fun a=>¬ S a) (ν:=fun a=>a) (fun _ _ _ _ z=>z) qs (f:=f) (f':=J.jK f (js p.1 w)) k ⟨c2,fun e he=>by rw [Vl,Vl]; exact d1 e he⟩ hq;rw [<-this];congr 1;simp
   have e2:Pf (Br (J.jK f (js p.1 w)) qs)=Pf (Br f qs):=by
    funext k i;exact ee _
   rw [e2,Sv,Z6]
  show Br (J.jK f (js p.1 false)) (ps++qs) (jd (cls f (js p.1 false)) (sh p.2 g))+Br (J.jK f (js p.1 true)) (ps++qs) (jd (cls f (js p.1 true)) (sh (-p.2) g))=_;rw [st,st]; rfl
end JG
namespace JG
open K2.P K2.J K2.JB
theorem Mb:∀ {P Q:Pr T3} {e:T3},e∈es P->pt (P++Q) e=pt P e
 | (a,b) :: P,Q,e,h=>by
  show (if e=a then b else if e=b then a else pt (P++Q) e)=if e=a then b else if e=b then a else pt P e
  by_cases c1:e=a
  ·rw [if_pos c1,if_pos c1]
  ·by_cases c2:e=b
   ·rw [if_neg c1,if_pos c2,if_neg c1,if_pos c2]
   ·rw [if_neg c1,if_neg c2,if_neg c1,if_neg c2];refine Mb ?_;rcases List.mem_cons.mp h with z | z
    ·exact absurd z c1
    ·rcases List.mem_cons.mp z with z | z
     ·exact absurd z c2
     ·exact z
theorem AE:∀ {P Q:Pr T3} {e:T3},e∉es P->pt (P++Q) e=pt Q e
 | [],Q,e,_=>rfl
 | (a,b) :: P,Q,e,h=>by
  have h1:e≠a:=fun z=>h (by rw [z]; exact bH);have h2:e≠b:=fun z=>h (by rw [z]; exact aG _ bH);show (if e=a then b else if e=b then a else pt (P++Q) e)=pt Q e;rw [if_neg h1,if_neg h2];exact AE fun z=>h (aG _ (aG _ z))
theorem Vp{S:Int->Prop}{ν:Int->Int}(inj:∀ a b,S a->S b->ν a=ν b->a=b):∀ {P:Pr T3} {e:T3},(∀ x∈es P,S x.a)->S e.a->pt (P.map fun p=>(rn ν p.1,rn ν p.2)) (rn ν e)=rn ν (pt P e)
 | [],e,_,_=>rfl
 | (a,b) :: P,e,h,he=>by
  have ha:=h a bH;have hb:=h b (aG _ bH);show (if rn ν e=rn ν a then rn ν b else if rn ν e=rn ν b then rn ν a else pt (P.map fun p=>(rn ν p.1,rn ν p.2)) (rn ν e))=rn ν (if e=a then b else if e=b then a else pt P e);simp only [u5 inj he ha,u5 inj he hb];rw [Vp inj (fun x hx=>h x (aG _ (aG _ hx))) he];split
  ·rfl
  ·split
   ·rfl
   ·rfl
theorem TY{S:Int->Prop}:∀ {P:Pr T3} {e:T3},(∀ x∈es P,S x.a)->S e.a->S (pt P e).a
 | [],e,_,he=>he
 | (a,b) :: P,e,h,he=>by
  have ha:=h a bH;have hb:=h b (aG _ bH);show S (if e=a then b else if e=b then a else pt P e).a;split
  ·exact hb
  ·split
   ·exact ha
   ·exact TY (fun x hx=>h x (aG _ (aG _ hx))) he
def Nm(rows:Rows)(n:Int):Prop:=∃ p∈rows.flatten,p.a=n
def Gi{rows:Rows}(d:Dr rows):∀ x∈es (D0 rows),Nm rows x.a:=fun x hx=>by
 obtain⟨p,hp,z⟩:=(PJ d x).mp hx;exact⟨p,hp,by rcases z with rfl | rfl <;> rfl⟩
def QL{rows:Rows}:∀ p∈CW rows.flatten,Nm rows p.1:=fun p hp=>by
 obtain⟨q,hq,rfl⟩:=List.mem_map.mp hp;exact⟨q,(List.mem_filter.mp hq).1,rfl⟩
def nu(ν:Int->Int)(rows:Rows):Rows:=rows.map fun r=>r.map (rn ν)
theorem QC{rows:Rows}{ν:Int->Int}(d:Dr rows)(inj:∀ a b,Nm rows a->Nm rows b->ν a=ν b->a=b):Dr (nu ν rows):=by
 have fl:(nu ν rows).flatten=rows.flatten.map (rn ν):=JF.HW (rn ν) rows;refine⟨?_,?_,?_,?_,by rw [fl,aq]; exact d.EO,by unfold nu; rw [aq]; exact d.str⟩
 ·rw [fl,bq];have e:(T3.s∘rn ν)=(fun t:T2=>(⟨ν t.a,t.b⟩:T2))∘T3.s:=rfl;rw [e,<-bq];refine ug d.nd fun x hx y hy z=>?_;obtain⟨p,hp,rfl⟩:=List.mem_map.mp hx;obtain⟨q,hq,rfl⟩:=List.mem_map.mp hy;injection z with z1 z2
  show (⟨p.a,p.b⟩:T2)=⟨q.a,q.b⟩;have z2':p.b=q.b:=z2;rw [inj _ _ ⟨p,hp,rfl⟩ ⟨q,hq,rfl⟩ z1,z2']
 ·rw [fl]; intro p hp;obtain⟨q,hq,rfl⟩:=List.mem_map.mp hp;exact d.way q hq
 ·rw [fl]; intro p hp;obtain⟨q,hq,rfl⟩:=List.mem_map.mp hp;exact d.hand q hq
 ·rw [fl]; intro p hp;obtain⟨q,hq,rfl⟩:=List.mem_map.mp hp;exact List.mem_map.mpr ⟨_,d.Cc q hq,rfl⟩
theorem QD{rows:Rows}{ν:Int->Int}(d:Dr rows)(inj:∀ a b,Nm rows a->Nm rows b->ν a=ν b->a=b)(g:Fn):brk (nu ν rows) g=brk rows g:=by
 have dN:=QC d inj;have th:D0 (nu ν rows)=(D0 rows).map fun p=>(rn ν p.1,rn ν p.2):=by
  unfold nu D0 LQ;rw [JF.NR,bq,bq]; rfl
 have rr:Rn (Nm rows) ν (fr rows) (fr (nu ν rows)):=⟨fun e he=>TY (Gi d) he,fun e he=>by
  show pt (D0 (nu ν rows)) (rn ν e)=rn ν (pt (D0 rows) e);rw [th];exact Vp inj (Gi d) he⟩
 have pn:(nh (nu ν rows)).Perm ((CW rows.flatten).map fun p=>(ν p.1,p.2)):=by
  refine(qz dN).trans ?_;have:CW (nu ν rows).flatten=(CW rows.flatten).map fun p=>(ν p.1,p.2):=by
   unfold nu CW;rw [JF.HW,IM,bq,bq]; rfl
  rw [this]
 have pn0:=qz d;unfold brk;rw [uD pn (by rw [xU]; exact Dk dN),DP inj _ _ rr QL,uD pn0 (by rw [xU]; exact Dk d)];unfold nu;rw [JF.W9]
theorem Tw{A B:Rows}(dA:Dr A)(dB:Dr B)(d:Dr (A++B))(XF:∀ p∈B.flatten,¬ Nm A p.a)(g:Fn):brk (A++B) g=brk A (Pf (brk B) g):=by
 have th:D0 (A++B)=D0 A++D0 B:=by
  unfold D0 LQ;rw [kY,List.flatMap_append,aN,<-kY,<-kY]
 have eB:∀ e∈es (D0 B),¬ Nm A e.a:=fun e he=>by
  obtain⟨p,hp,z⟩:=Gi dB e he;rw [<-z]; exact XF p hp
 have fA:∀ e,Nm A e.a->fr (A++B) e=fr A e:=fun e he=>by
  unfold fr;rw [th];by_cases c:e∈es (D0 A)
  ·exact Mb c
  ·rw [AE c,oN c];exact oN fun z=>eB e z he
 have fB:∀ e,¬ Nm A e.a->fr (A++B) e=fr B e:=fun e he=>by
  unfold fr;rw [th];exact AE fun z=>he (Gi dA e z)
 have cA:∀ e,Nm A e.a->Nm A (fr A e).a:=fun e he=>TY (Gi dA) he;have cB:∀ e,¬ Nm A e.a->¬ Nm A (fr B e).a:=fun e he=>TY (S:=fun a=>¬ Nm A a) eB he;have pn:(nh (A++B)).Perm (CW A.flatten++CW B.flatten):=by
  refine(qz d).trans ?_;unfold CW;rw [cQ,dS,aN]
 have qB:∀ p∈CW B.flatten,¬ Nm A p.1:=fun p hp=>by
  obtain⟨q,hq,rfl⟩:=List.mem_map.mp hp;exact XF q (List.mem_filter.mp hq).1
 have rid:∀ l:List (Int×Int),(l.map fun p=>(p.1,p.2))=l:=fun l=>by simp
 have bA:∀ k,Br (fr (A++B)) (CW A.flatten) k=Br (fr A) (nh A) k:=fun k=>by
  have:=DP (S:=Nm A) (ν:=fun a=>a) (fun _ _ _ _ z=>z) (CW A.flatten) (f:=fr A) (f':=fr (A++B)) k ⟨cA,fun e he=>fA e he⟩ QL;rw [rid] at this;rw [this,uD (qz dA) (by rw [xU]; exact Dk dA)]
 have bB:∀ k,Br (fr (A++B)) (CW B.flatten) k=Br (fr B) (nh B) k:=fun k=>by
  have:=DP (S:=fun a=>¬ Nm A a) (ν:=fun a=>a) (fun _ _ _ _ z=>z) (CW B.flatten) (f:=fr B) (f':=fr (A++B)) k ⟨cB,fun e he=>fB e he⟩ qB;rw [rid] at this;rw [this,uD (qz dB) (by rw [xU]; exact Dk dB)]
 have el:lo (A++B)=lo A+lo B:=by unfold lo; rw [dS,aC]
 have c1:∀ e,Nm A e.a->Nm A (fr (A++B) e).a:=fun e he=>by rw [fA e he]; exact cA e he
 have c2:∀ e,¬ Nm A e.a->¬ Nm A (fr (A++B) e).a:=fun e he=>by rw [fB e he]; exact cB e he
 have eP:Pf (Br (fr (A++B)) (CW B.flatten))=Pf (Br (fr B) (nh B)):=by
  funext k i;exact bB _
 unfold brk;rw [uD pn (by rw [xU]; exact Dk d),SR (S:=Nm A) (CW B.flatten) qB (CW A.flatten) _ c1 c2 QL,eP,bA,el,Mq,Sv];congr 2;funext i;show Br (fr B) (nh B) (sh i (jd (lo B) g))=Br (fr B) (nh B) (jd (lo B) (sh i g));rw [xW]
end JG
end K2
end
section
namespace K2
open PySem (Str)
open Enc (enc)
namespace JE
open K2.P K2.J K2.JB
open K2.Y (Po ja pick jG jH b0 cP dF hX)
open K2.FP (AL gF lT)
open K2.FO (wJ wc lR)
section
variable (a b c d e f:D)
def x0:rZ [a,b,c,d,e,f] 0=some a:=rfl
def x1:rZ [a,b,c,d,e,f] 1=some b:=rfl
def x2:rZ [a,b,c,d,e,f] (2+2 * 0)=some c:=rfl
def x3:rZ [a,b,c,d,e,f] (3+2 * 0)=some d:=rfl
def x4:rZ [a,b,c,d,e,f] (2+2 * 1)=some e:=rfl
def x5:rZ [a,b,c,d,e,f] (3+2 * 1)=some f:=rfl
end
end JE
namespace II
open K2.P
variable {rows:Rows}
end II
namespace II
open K2.P
variable {rows:Rows}
def z3:T3:=⟨0,0,0⟩
def prv(r:List T3)(k:Nat):T3:=if k=0 then r.getD (r.length - 1) z3 else r.getD (k - 1) z3
def pr1(r:List T3)(ks:List Nat):List (T3×T3):=ks.map fun k=>(prv r k,r.getD k z3)
def prs(rows:Rows):List (T3×T3):=rows.flatMap fun r=>pr1 r (fL r.length)
end II
namespace FO
open K2.P K2.T
open K2.II (prv pr1 prs z3)
open K2.FP (lT)
open K2.Y (hX)
variable {rows:Rows}
def ks(rows:Rows):List T2:=(prs rows).map fun p=>p.2.s
end FO
namespace FO
open K2.P K2.T
open K2.FP (lT gF fi)
open K2.Y (ja pick jG jH b0 cP dF hX)
variable {rows:Rows}
end FO
namespace JE
open K2.P K2.J K2.JB
open K2.Y (Po ja pick jG jH b0 cP dF hX)
open K2.FP (AL gF lT)
open K2.FO (wJ wc lR)
theorem ZQ{α:Type} [DecidableEq α] [Enc α]{xs:List α}{i:Nat}{r:α}(h:xs[i]?=some r):rZ (xs.map enc) (i:Int)=some (enc r):=by
 have hi:=(List.getElem?_eq_some_iff.mp h).1;rw [uA _ (by lia) (by rw [aq]; lia)];simp only [fh,oH];have:=(List.getElem?_eq_some_iff.mp h).2;rw [this]
theorem u6{α:Type} [DecidableEq α] [Enc α]{xs:List α}{i:Nat}{r:α}{G:Gp}{Q:DK}(h:xs[i]?=some r)(q:Q (enc r) G):j6 (enc xs) (.int i) G Q:=by
 show j6 (.dw (xs.map enc)) (.int i) G Q;rw [sV,ZQ h];exact q
def nq{α:Type} [DecidableEq α] [Enc α]{r:List α}{G:Gp}{Q:DK}(q:Q (.int (r.length:Int)) G):kj [enc r] G Q:=by
 show kj [.dw (r.map enc)] G Q;rw [w7,aq]; exact q
def LY(n:Nat):gX 0 n=(fL n).map fun k:Nat=>D.int (k:Int):=by
 rw [JT,bq]; rfl
theorem LX{n:Nat}{pre post:List Nat}{x:Nat}(e:fL n=pre++x :: post):x=pre.length/\x < n:=by
 have h1:=congrArg (fun l=>l[pre.length]?) e;simp only [bS (aE _),Nat.sub_self,aa] at h1;have hl:pre.length < n:=by have:=congrArg dI e; simp at this; lia
 rw [ax (by rw [nE]; exact hl),mC] at h1;injection h1 with h1
 exact⟨h1.symm,by lia⟩
end JE
namespace JE
open K2.P K2.J K2.JB
open K2.Y (Po ja pick jG jH b0 cP dF hX)
open K2.FP (AL gF lT)
open K2.FO (wJ wc lR)
theorem PZ:∀ {L:List T3},(L.map T3.s).Nodup->∀ {p q:T3},p∈L->q∈L->p.s=q.s->p=q
 | x :: L,nd,p,q,hp,hq,e=>by
  rw [ak,aS] at nd;rcases List.mem_cons.mp hp with e1 | h1
  ·rcases List.mem_cons.mp hq with e2 | h2
   ·rw [e1,e2]
   ·exact absurd (List.mem_map.mpr ⟨q,h2,by rw [<-e,e1]⟩) nd.1
  ·rcases List.mem_cons.mp hq with e2 | h2
   ·exact absurd (List.mem_map.mpr ⟨p,h1,by rw [e,e2]⟩) nd.1
   ·exact PZ nd.2 h1 h2 e
end JE
end K2
end
section
namespace K2
namespace DM
def ab(c:Int):Int:=if c < 0 then -c else c
variable {α:Type}
end DM
end K2
end
section
namespace K2
open PySem (Str)
open Enc (enc)
namespace DM
open K2.P
def Ok(n:Int)(cs:List Int):Prop:=n<=3/\cs.length<=40/\∀ c∈cs,1<=ab c/\ab c < n
end DM
namespace DM
open K2.P
def Good(n:Int)(cs:List Int):Prop:=(1<=n/\n<=3)/\cs.length<=12/\∀ c∈cs,1<=ab c/\ab c < n
instance (n:Int) (cs:List Int):Decidable (Good n cs):=by unfold Good; exact inferInstance
end DM
namespace DM
open K2.P
def k6:List T3->T3
 | []=>⟨0,0,0⟩
 | a :: r=>r.foldl (fun m x=>if aU.lt x m=true then x else m) a
def l0{r:List T3}(h:r≠[]):k6 r∈r:=by
 cases r with
 | nil=>exact absurd rfl h
 | cons a r=>exact(kE r a).1
def qI{r:List T3}{y:T3}(hy:y∈r):Hr (k6 r) y=true:=by
 cases r with
 | nil=>cases hy
 | cons a r=>exact(kE r a).2 y hy
def fZ(r:List T3):List T3:=r.drop (r.idxOf (k6 r))++r.take (r.idxOf (k6 r))
theorem Ir{x:D}{G:Gp}{r:List T3}{Q:DK}(hi:itemsOf x G=some (r.map enc))(tm:r≠[])(q:Q (enc (k6 r)) G):Sb [x] G Q :=
 FC.mn hi tm fun m hm hl=>by
  have:m=k6 r:=QX _ _ (hl _ (l0 tm)) (qI hm);rw [this]; exact q
theorem AY{x:D}{G:Gp}{r:List T3}{Q:DK}(ht:IT x G)(hi:itemsOf x G=some (r.map enc))(tm:r≠[])(q:Q (.int ((r.idxOf (k6 r):Nat):Int)) G):Ew x [enc (k6 r)] G Q:=by
 refine⟨ht,r.map enc,enc (k6 r),r.map enc,hi,Enc.sn G 8 _ (by decide),Ag G 7 (by decide) r,?_⟩;have e:(r.map enc).findIdx? (iM · (enc (k6 r)))=some (r.idxOf (k6 r)):=by
  have hf:(fun y:T3=>iM (enc y) (enc (k6 r)))=fun y=>y == k6 r:=by
   funext y;rw [Enc.eqv];by_cases h:y=k6 r <;> simp [h]
  rw [List.findIdx?_map];show List.findIdx? (fun y=>iM (enc y) (enc (k6 r))) r=_;rw [hf];have hm:=l0 tm;rw [List.idxOf];rw [List.findIdx?_eq_some_iff_findIdx_eq];exact⟨List.findIdx_lt_length.mpr ⟨_,hm,by simp⟩,rfl⟩
 rw [e]; exact q
end DM
namespace K3
open K2.P K2.II
def Kv{c:yp}{a b:gN}{E:lM}{K:lF}{τ:iO}{G:Gp}:gi c a b E K τ G=c E τ G fun k G1=>if k=true then a E K τ G1 else b E K τ G1:=rfl
end K3
namespace K3
open K2.P K2.II
def ins(r:List T3)(k:Nat)(p:T3):List T3:=r.take k++p :: r.drop k
end K3
namespace IH
open K2.P
open K2.DM (fZ k6)
theorem Zj{κ α:Type} [DecidableEq κ] [Enc κ] [tU κ] [DecidableEq α] [Enc α]{l:List (κ×α)}{k:κ}{v:α}{G:Gp}{Q:DK}(hv:cp l k=some v)(q:Q (enc v) G):j6 (.kH (bb l)) (enc k) G Q:=by
 rw [v5,pK,hv]; exact⟨kD l k,q⟩
abbrev M:=List (Int×Int)
def Vm(m:M)(t:T3):T3:=⟨(cp m t.a).getD 0,t.b,t.c⟩
def B9(m:M)(r:List T3):List T3:=r.map (Vm m)
def Kn(m:M)(r:List T3):Prop:=∀ t∈r,(cp m t.a).isSome=true
def sM:gN :=
 (cb (cz (gL 3 [1] (lz (ar 0)) (jL (cX (aI 0) (cX (aI 1) (cX (aI 2) jz)))) none (iD (av (aX j6 (ar 3) (ar 0)) (av (ar 1) (av (ar 2) aO)))))))
def gy:jM:=fun ds G Q _=>∃ (r:List T3) (m:M),ds=[enc r,.kH (bb m)]/\(r.length<=1000/\Kn m r)/\Q (enc (B9 m r)) G
theorem tP(ds:List D)(G:Gp)(Q:DK)(h:gy ds G Q fun _ _=>False):sM (fun _ _=>False) (ends Q) (aY 2 ds) G:=by
 obtain⟨r,m,rfl,⟨hl,hk⟩,q⟩:=h;unfold sM;simp only [cb,cz,gL,aY,ak,aQ,ah,aw,aB,aM,ends,eQ,ar,aa];refine gU ⟨CG (by rw [aq]; exact hl),?_⟩;refine jB (xs:=r) (fun pre acc τ G'=>G=G'/\(∃ a b c,τ=[a,b,c,some (.kH (bb m))])/\acc=(pre.map (Vm m)).map enc) ⟨rfl,⟨_,_,_,rfl⟩,rfl⟩ (fun _ _ _ _ _=>trivial) ?_ ?_
 ·rintro pre t post acc τ G' N e ⟨rfl,⟨a,b,c,rfl⟩,rfl⟩ hN;obtain⟨v,hv⟩:=Option.isSome_iff_exists.mp (hk t (by rw [e]; simp));simp only [jL,mL,cX,aI,jz,iD,av,aX,ar,ai,ao,ae,aa,aO,ah,aw];refine Zj (k:=t.a) hv ?_;refine⟨by decide,hN _ _ _ ⟨rfl,⟨_,_,_,rfl⟩,?_⟩⟩;rw [aN,aN];unfold Vm;rw [BX,BX,hv]; rfl
 ·rintro acc τ G' ⟨rfl,⟨a,b,c,rfl⟩,rfl⟩ p hp;exact i7 (xs:=B9 m r) (.new hp) hp az q
def rg:gN :=
 (cb (cz (gL 1 [1] (lz (ar 0)) (aI 0) none (br gy (av (ar 0) (av (ar 1) aO))))))
def eM:jM:=fun ds G Q _=>∃ (rows:Rows) (m:M),ds=[enc rows,.kH (bb m)]/\(rows.length<=1000/\∀ r∈rows,r.length<=1000/\Kn m r)/\Q (enc (rows.map (B9 m))) G
theorem rK(ds:List D)(G:Gp)(Q:DK)(h:eM ds G Q fun _ _=>False):rg (fun _ _=>False) (ends Q) (aY 2 ds) G:=by
 obtain⟨rows,m,rfl,⟨hl,hk⟩,q⟩:=h;unfold rg;simp only [cb,cz,gL,aY,ak,aQ,ah,aw,aB,aM,ends,eQ,ar,aa];refine gU ⟨CG (by rw [aq]; exact hl),?_⟩;refine jB (xs:=rows) (fun pre acc τ G'=>G=G'/\(∃ a,τ=[a,some (.kH (bb m))])/\acc=(pre.map (B9 m)).map enc) ⟨rfl,⟨_,rfl⟩,rfl⟩ (fun _ _ _ _ _=>trivial) ?_ ?_
 ·rintro pre r post acc τ G' N e ⟨rfl,⟨a,rfl⟩,rfl⟩ hN;simp only [aI,br,av,ar,ai,aa,ae,aO];refine⟨r,m,rfl,hk r (by rw [e]; simp),hN _ _ _ ⟨rfl,⟨_,rfl⟩,?_⟩⟩;rw [aN,aN]; rfl
 ·rintro acc τ G' ⟨rfl,⟨a,rfl⟩,rfl⟩ p hp;exact i7 (xs:=rows.map (B9 m)) (.new hp) hp az q
def rot(r:List T3)(k:Nat):List T3:=r.drop k++r.take k
def abw(m:M)(n:Int):M:=if (cp m n).isSome=true then m else fc m n ((m.length:Int)+1)
def met(L:List T3):M:=L.foldl (fun m t=>abw m t.a) []
theorem Sf{a:Nat}{m:M}{G:Gp}{Q:DK}(h:G a=some (.fU (bb m)))(q:Q (.int (m.length:Int)) G):kj [.ref a] G Q:=by
 rw [Se];simp only [h];refine⟨?_,by unfold bb; rw [aq]; exact q⟩;unfold bb;rw [jc];exact List.all_eq_true.mpr fun _ _=>rfl
end IH
namespace IH
open K2.P
open K2.DM (fZ k6 l0 qI)
def sm(rows:Rows):Rows:=(rows.map (B9 (met rows.flatten))).map fZ
end IH
namespace IH
open K2.P
open K2.DM (fZ k6 l0 qI)
def tp(c:Rows):D:=.tup [enc (sm c),.kH (bb (met c.flatten))]
end IH
namespace IH
open K2.P
open K2.DM (fZ k6 l0 qI)
open K2.II (z3 HR)
theorem TL{r:List T3}{k:Nat}{G:Gp}{Q:DK}{d:D}(hd:IsL G d (r.map enc))(hk:k<=r.length)(hl:r.length<=1000)(q:∀ p G1,ft G G1->G p=none->G1 p=some (.lst ((rot r k).map enc))->Q (.ref p) G1) :
  Qf d (some (k:Int)) none G fun x G1=>Qf d none (some (k:Int)) G1 fun y G2=>gK x y G2 Q:=by
 refine xJ hd ?_;rw [oQ,w5 r k hk];intro p hp;refine xJ (hd.mono (.new hp)) ?_;rw [oQ,E8 r k hk];intro p2 pz;have ab9:p≠p2:=fun z=>by rw [<-z,az] at pz; cases pz
 have g1:eL (eL G p (.lst ((r.drop k).map enc))) p2 (.lst ((r.take k).map enc)) p=some (.lst ((r.drop k).map enc)):=by rw [cE ab9,az]
 have gl:ft G (eL (eL G p (.lst ((r.drop k).map enc))) p2 (.lst ((r.take k).map enc))):=(ft.new hp).trans (.new pz);show Ft _ _ _ _;unfold Ft;rw [pJ (IsL.ref (ds:=(r.drop k).map enc) g1),pJ (IsL.ref (ds:=(r.take k).map enc) az)];refine⟨CG (by simp; lia),fun p3 VM=>?_⟩;refine q _ _ (gl.trans (.new VM)) (gl.free VM) ?_;rw [az];unfold rot;rw [aN]
end IH
namespace IH
open K2.P
open K2.DM (fZ k6 l0 qI)
variable {rows c:Rows}
end IH
namespace Yo
open K2.P
open K2.IH (M met Kn B9 Vm rot sm eM)
open K2.DM (fZ k6 Ir AY)
open K2.II (HR)
theorem ME{G G1 G2:Gp}{p:Nat}{as:List Nat}{rs:Rows}(h:HR G G1 p as rs)(l:ft G1 G2):HR G G2 p as rs :=
 ⟨h.le.trans l,h.fp,l _ _ h.gp,h.np,h.nd,h.fr,h.len,fun i a r h1 h2=>l _ _ (h.at' i a r h1 h2)⟩
def CL:gN :=
 (b8 (gi (pR (ik (ar 0))) (cb (cz (iq aO))) dH)
 (b8 (bF (xq IT Ew (ar 0) (av (ot Sb (av (ar 0) aO)) aO)) (aI 1))
 (cb (cz (aX gK (Ck (ar 0) (mU (ar 1)) gI) (Ck (ar 0) gI (mU (ar 1))))))))
def pD:jM:=fun ds G Q _=>∃ r:List T3,ds=[enc r]/\r.length<=1000/\∀ p,G p=none->Q (.ref p) (eL G p (.lst ((fZ r).map enc)))
theorem DJ(ds:List D)(G:Gp)(Q:DK)(h:pD ds G Q fun _ _=>False):CL (fun _ _=>False) (ends Q) (aY 2 ds) G:=by
 obtain⟨r,rfl,hl,q⟩:=h;unfold CL;refine dW (fun τ G'=>G=G'/\r≠[]/\τ=[some (enc r),none]) ?_ ?_
 ·intro N hN;simp only [gi,pR,aY,ak,aQ,ah,aw,aT,aB,aM,cb,cz,iq,aO,ends,dH,du,ar,aa];cases r with
  | nil=>exact⟨by decide,fun p hp=>EI (.new hp) hp az (q p hp)⟩
  | cons a t=>exact hN _ _ ⟨rfl,by simp,rfl⟩
 ·rintro _ _ ⟨rfl,tm,rfl⟩;simp only [ends,cu,bF,xq,ar,aa,av,ot,aO,aI,cb,cz,aX,Ck,ao,ai,gI,mf,ae];refine⟨trivial,Ir rfl tm (AY trivial rfl tm ?_)⟩;have hkl:r.idxOf (k6 r)<=r.length:=List.idxOf_le_length;refine IH.TL (IsL.enc r) hkl hl fun p G1 l f g=>?_;exact EI l f g (q p f)
def sL:gN :=
 (cb (cz (gL 1 [] (lz (ar 0)) (aI 0) none (br pD (av (ar 0) aO)))))
def gw:jM:=fun ds G Q _=>∃ rows:Rows,ds=[enc rows]/\(rows.length<=1000/\∀ r∈rows,r.length<=1000)/\∀ p as G',HR G G' p as (rows.map fZ)->Q (.ref p) G'
theorem tO(ds:List D)(G:Gp)(Q:DK)(h:gw ds G Q fun _ _=>False):sL (fun _ _=>False) (ends Q) (aY 1 ds) G:=by
 obtain⟨rows,rfl,⟨hl,hr⟩,q⟩:=h;unfold sL;simp only [cb,cz,gL,aY,ak,aQ,ah,aw,aB,aM,ends,eQ,ar,aa];refine gU ⟨CG (by rw [aq]; exact hl),?_⟩;refine jB (xs:=rows) (fun pre acc τ G'=>(∃ a,τ=[a])/\∃ bs:List Nat,acc=bs.map D.ref/\bs.length=pre.length/\bs.Nodup/\(∀ a∈bs,G a=none)/\ft G G'/\∀ (i a:Nat) (r:List T3),bs[i]?=some a->pre[i]?=some r->G' a=some (.lst ((fZ r).map enc))) ⟨⟨_,rfl⟩,[],rfl,rfl,cj,(fun a h=>by cases h),.refl _,fun i a r h=>by simp at h⟩ (fun _ _ _ _ _=>trivial) ?_ ?_
 ·rintro pre r post acc τ G' N e ⟨⟨a,rfl⟩,bs,rfl,hl,nd,fr,le,zf⟩ hN;simp only [aI,br,av,ar,ai,aa,aO];refine⟨r,rfl,hr r (by rw [e]; simp),fun p hp=>?_⟩;have hnb:p∉bs:=fun z=>by
   obtain⟨i,hi⟩:=iP z;have h1:i < pre.length:=by rw [<-hl]; exact(List.getElem?_eq_some_iff.mp hi).1
   rw [zf i p pre[i] hi (ax h1)] at hp; cases hp
  refine hN _ _ _ ⟨⟨_,rfl⟩,bs++[p],by simp,by simp [hl],?_,?_,le.trans (.new hp),?_⟩
  ·rw [cY];refine⟨nd,by simp,fun a h b hb e=>?_⟩;rw [cK] at hb;subst hb e;exact hnb h
  ·intro a h0;rcases List.mem_append.mp h0 with h | h
   ·exact fr a h
   ·rw [cK] at h; subst h; exact le.free hp
  ·intro i b s h1 h2;by_cases hi:i < bs.length
   ·rw [b9 hi] at h1;rw [b9 (by lia)] at h2;have:b≠p:=by rintro rfl; exact hnb (cV h1)
    rw [cE this];exact zf i b s h1 h2
   ·rw [bS (by lia)] at h1 h2;have i0:i - bs.length=0:=by have:=(List.getElem?_eq_some_iff.mp h1).1; simp at this; lia
    rw [i0] at h1;rw [<-hl,i0] at h2;simp at h1 h2;subst h1 h2;exact az
 ·rintro acc τ G5 ⟨⟨a',rfl⟩,bs,rfl,hl,nd,fr,le,zf⟩ p3 VM;refine cC (q p3 bs _ ⟨le.trans (.new VM),le.free VM,az,fun z=>?_,nd,fr,by rw [aq]; exact hl,fun i b r h1 h2=>?_⟩)
  ·obtain⟨i,hi⟩:=iP z;have h1:i < rows.length:=by rw [<-hl]; exact(List.getElem?_eq_some_iff.mp hi).1
   rw [zf i p3 rows[i] hi (ax h1)] at VM; cases VM
  ·rw [bu] at h2;obtain⟨r',Xj,rfl⟩:=Option.map_eq_some_iff.mp h2;exact(ft.new VM) _ _ (zf i b r' h1 Xj)
end Yo
namespace JF
open K2.P K2.J K2.JB
open K2.DM (fZ k6 l0 qI)
open K2.JE (u6 nq LY LX PZ)
theorem aby{p q:T3}(h:aU.lt p.s q.s=true):aU.lt p q=true:=by
 obtain⟨a,b,c⟩:=p;obtain⟨a',b',c'⟩:=q;have h':rR (fun a b=>decide (a < b)) [a,b] [a',b']=true:=h;show rR (fun a b=>decide (a < b)) [a,b,c] [a',b',c']=true;simp only [rR] at h' ⊢
 grind
theorem TJ{r:List T3}{k:Nat}(nd:(r.map T3.s).Nodup)(hk:k < r.length)(h:∀ j (hj:j < r.length),aU.lt r[j].s r[k].s=false):k=r.idxOf (k6 r):=by
 have tm:r≠[]:=by intro z; rw [z] at hk; cases hk
 have hm:=l0 tm;obtain⟨j,hj,ej⟩:=pY hm;have Zd:aU.lt r[k] (k6 r)=false:=by
  have:=qI (e9 hk);unfold Hr at this;simpa using this
 have e:(k6 r).s=r[k].s:=by
  refine aU.oA _ _ (by rw [<-ej]; exact h j hj) ?_;cases c:aU.lt r[k].s (k6 r).s with
  | false=>rfl
  | true=>rw [aby c] at Zd; cases Zd
 have e2:k6 r=r[k]:=PZ nd hm (e9 hk) e;rw [e2];have nr:r.Nodup:=List.Pairwise.of_map _ (fun a b h z=>h (by rw [z])) nd;have hi:=List.idxOf_lt_length_of_mem (e9 hk);have e3:r[r.idxOf r[k]]=r[k]:=List.getElem_idxOf hi;have pw:=List.pairwise_iff_getElem.mp nr;rcases Nat.lt_trichotomy (r.idxOf r[k]) k with c | c | c
 ·exact absurd e3 (pw _ _ hi hk c)
 ·exact c.symm
 ·exact absurd e3.symm (pw _ _ hk hi c)
def uS:gN :=
 (b8 (gi (ik (aX (JW false) (ar 0) (iq aO))) (cb (cz (iq aO))) dH)
 (b8 (bF (dC (.int 0)) (aI 1))
 (b8 (eF (Dc (ot kj (av (ar 0) aO))) (aI 2) (gi (ik (aX WD (iD (av (aX j6 (aX j6 (ar 0) (ar 2)) (dC (.int 0))) (av (aX j6 (aX j6 (ar 0) (ar 2)) (dC (.int 1))) aO))) (iD (av (aX j6 (aX j6 (ar 0) (ar 1)) (dC (.int 0))) (av (aX j6 (aX j6 (ar 0) (ar 1)) (dC (.int 1))) aO))))) (bF (ar 2) (aI 1)) dH))
 (cb (cz (aX gK (Ck (ar 0) (mU (ar 1)) gI) (Ck (ar 0) gI (mU (ar 1)))))))))
def iW:jM:=fun ds G Q _=>∃ r:List T3,ds=[enc r]/\(r.length<=1000/\(r.map T3.s).Nodup)/\Q (enc (fZ r)) G
theorem uX(ds:List D)(G:Gp)(Q:DK)(h:iW ds G Q fun _ _=>False):uS (fun _ _=>False) (ends Q) (aY 3 ds) G:=by
 obtain⟨r,rfl,⟨hl,nd⟩,q⟩:=h;unfold uS;refine dW (fun τ G'=>ft G G'/\r≠[]/\τ=[some (enc r),none,none]) ?_ ?_
 ·intro N hN;simp only [gi,↓du,aX,ar,aY,↓ak,↓aQ,↓ah,↓aw,aT,↓aB,↓aM,↓aa,iq,aO,cb,cz,ends,dH];refine⟨by decide,fun p f=>?_⟩;refine⟨.dw (r.map enc),.dw [],Ag _ 7 (by decide) r,.ref az .Ea,?_⟩;cases r with
  | nil =>
   have e:iM (.dw (([]:List T3).map enc)) (.dw [])=true:=rfl;simp only [↓bQ,↓au,↓aQ,↓if_false];exact⟨by decide,fun p2 f2=>i7 (xs:=([]:List T3)) ((ft.new f).trans (.new f2)) ((ft.new f).free f2) az q⟩
  | cons a t =>
   have e:iM (.dw ((a :: t).map enc)) (.dw [])=false:=rfl;simp only [↓bQ,↓au,↓ak,↓if_false];exact hN _ _ ⟨.new f,by simp,rfl⟩
 ·rintro _ G' ⟨le,tm,rfl⟩;have HF:0 < r.length:=List.length_pos_iff.mpr tm;simp only [↓cu,bF,dC,aI,ends,↓ao,↓ai];refine dW (fun τ G2=>G'=G2/\∃ (k:Nat) (hk:k < r.length) (a2:Option D),(∀ j (hj:j < r.length),aU.lt r[j].s r[k].s=false)/\τ=[some (enc r),some (.int k),a2]) ?_ ?_
  ·intro N hN;simp only [eF,↓pN,ot,av,ar,↓aa,aO];refine nq ?_;simp only [↓nG];refine⟨by lia,by lia,?_⟩;rw [fh,LY];refine dq (xs:=fL r.length) (f:=fun k:Nat=>D.int (k:Int)) (fun pre τ G2=>G'=G2/\∃ (k:Nat) (hk:k < r.length) (a2:Option D),(∀ j (hj:j < r.length),j < pre.length->aU.lt r[j].s r[k].s=false)/\τ=[some (enc r),some (.int k),a2]) ⟨rfl,0,HF,_,(fun j hj z=>absurd z (qf _)),rfl⟩ (fun _ _ _ _=>trivial) ?_ ?_
   ·rintro pre x post τ _ N2 e ⟨rfl,k,hk,a2,Oj,rfl⟩ mH;obtain⟨ex,hx⟩:=LX e;have gx:r[x]?=some r[x]:=ax hx;have gk:r[k]?=some r[k]:=ax hk;simp only [aI,gi,↓du,aX,iD,av,ar,↓ao,↓ai,↓aa,↓ae,dC,aO,↓ah,↓aw,bF,dH];refine u6 gx ?_;rw [mL,iS,XX];refine u6 gx ?_;rw [mL,iS,Lf];refine⟨by decide,?_⟩;refine u6 gk ?_;rw [mL,iS,XX];refine u6 gk ?_;rw [mL,iS,Lf];refine⟨by decide,?_⟩;refine Qg (x:=r[x].s) (y:=r[k].s) (by decide) ?_;simp only [↓bQ];cases c:aU.lt r[x].s r[k].s with
    | true =>
     simp only [↓if_true];refine mH _ _ ⟨rfl,x,hx,_,fun j hj z=>?_,rfl⟩;rw [aC,cx] at z;by_cases c2:j=x
     ·subst c2; exact aU.IY _
     ·have:=Oj j hj (by lia);cases c3:aU.lt r[j].s r[x].s with
      | false=>rfl
      | true=>rw [aU.trans _ _ _ c3 c] at this; cases this
    | false =>
     simp only [↓au,↓if_false];refine mH _ _ ⟨rfl,k,hk,_,fun j hj z=>?_,rfl⟩;rw [aC,cx] at z;by_cases c2:j=x
     ·subst c2; exact c
     ·exact Oj j hj (by lia)
   ·rintro τ _ ⟨rfl,k,hk,a2,Oj,rfl⟩;exact hN _ _ ⟨rfl,k,hk,a2,fun j hj=>Oj j hj (by rw [nE]; exact hj),rfl⟩
  ·rintro _ _ ⟨rfl,k,hk,a2,Oj,rfl⟩;have ek:=TJ nd hk Oj;simp only [cb,cz,aX,Ck,ar,↓aa,↓mf,↓ae,↓iK,gI];show Qf (.dw (r.map enc)) _ _ _ _;rw [v3,w5 _ _ (by rw [aq]; lia)];intro p5 f5;show Qf (.dw (r.map enc)) _ _ _ _;rw [v3,E8 _ _ (by rw [aq]; lia)];intro p6 f6;have n56:p5≠p6:=by rintro rfl; rw [az] at f6; cases f6
   refine t8 (IsL.ref (by rw [cE n56,az])) (IsL.ref az) (by rw [cq,d6,aq]; exact CG (by lia)) fun p7 f7=>?_;have l6:=(le.trans (ft.new (o:=.lst ((r.map enc).drop k)) f5)).trans (ft.new (o:=.lst ((r.map enc).take k)) f6);refine i7 (G:=G) (xs:=fZ r) (l6.trans (.new f7)) (l6.free f7) ?_ q;rw [az];unfold fZ;rw [<-ek,aN,O1,O0]
end JF
end K2
end
section
namespace K2
open Enc (enc)
namespace JF
open K2.P K2.J K2.JB
open K2.T (Tb)
def cell(t:Tb)(a b:Nat):Int:=((t[a]?).getD [])[b]?.getD 0
end JF
namespace JF
open K2.P K2.J K2.JB
open K2.T (Tb)
open K2.DM (fZ k6)
def D7(r:List T3):∃ k,fZ r=r.drop k++r.take k:=⟨_,rfl⟩
end JF
end K2
end
section
namespace K2
open PySem (Str)
open Enc (enc)
namespace JF
open K2.P K2.J K2.JB
open K2.Y (cP)
def yE:gN :=
 (b8 (gi (E5 (pR (ik (OC "list" (ar 0)))) (ik (aX (JW true) (ar 0) (ar 1)))) (cb (cz (dC (.bl false)))) dH)
 (b8 (eF (lz (ar 0)) (aI 2) (eF (lz (ar 2)) (aI 3) (eF (lz (ar 3)) (aI 4) (gi (pR (ik (br cP (av (ar 4) aO)))) (cb (cz (dC (.bl false)))) dH))))
 (cb (cz (dC (.bl true))))))
def iG:jM:=fun ds G Q _=>∃ R:Rows,ds=[enc R,enc R]/\(R.length<=1000/\∀ r∈R,r.length<=1000)/\Q (.bl true) G
theorem yU(ds:List D)(G:Gp)(Q:DK)(h:iG ds G Q fun _ _=>False):yE (fun _ _=>False) (ends Q) (aY 5 ds) G:=by
 obtain⟨R,rfl,⟨hl,hr⟩,q⟩:=h;unfold yE;refine dW (fun τ G'=>G=G'/\τ=[some (enc R),some (enc R),none,none,none]) ?_ ?_
 ·intro N hN;simp only [gi,E5,pR,↓du,↓wZ,ar,aY,↓ak,↓aQ,↓ah,↓aw,aT,↓aB,↓aM,↓aa,cb,cz,dC,ends,dH,↓if_true,aX,↓ae];refine⟨_,_,Enc.sn G 8 R (by decide),Enc.sn G 8 R (by decide),?_⟩;have e:iM (enc R) (enc R)=true:=by rw [Enc.eqv]; simp
  simp only [↓bQ,e,↓bK,↓if_true,↓au,↓if_false];exact hN _ _ ⟨rfl,rfl⟩
 ·rintro _ _ ⟨rfl,rfl⟩;refine dW (fun τ G'=>G=G') ?_ ?_
  ·intro N hN;simp only [eF,↓eQ,ar,↓aa,ends];refine gU ?_;refine dq (xs:=R) (fun pre τ G'=>G=G'/\∃ a b c,τ=[some (enc R),some (enc R),a,b,c]) ⟨rfl,_,_,_,rfl⟩ (fun _ _ _ _=>trivial) ?_ ?_
   ·rintro pre r post τ _ N2 e ⟨rfl,a,b,c,rfl⟩ mH;simp only [aI,eF,↓eQ,ar,↓ao,↓ai,↓ae,↓aa];refine gU ?_;refine dq (xs:=r) (fun pre τ G'=>G=G'/\∃ b c,τ=[some (enc R),some (enc R),some (enc r),b,c]) ⟨rfl,_,_,rfl⟩ (fun _ _ _ _=>trivial) ?_ ?_
    ·rintro pr x po τ _ N3 e2 ⟨rfl,b,c,rfl⟩ EH;rw [mL];simp only [aI,eF,↓eQ,ar,↓ao,↓ai,↓ae,↓aa,↓zG];refine RN (fun pre τ G'=>G=G'/\∃ c,τ=[some (enc R),some (enc R),some (enc r),some (.tup [.int x.a,.int x.b,.int x.c]),c]) ⟨rfl,_,rfl⟩ (fun _ _ _ _=>trivial) ?_ ?_
     ·rintro AF d YQ τ _ N4 e4 ⟨rfl,c,rfl⟩ hN4;have hd:∃ i:Int,d=.int i:=by
       have:d∈([.int x.a,.int x.b,.int x.c]:List D):=by rw [e4]; simp
       simp only [bJ,bV,or_false] at this;rcases this with h | h | h <;> exact⟨_,h⟩
      obtain⟨i,rfl⟩:=hd;simp only [aI,gi,pR,↓du,br,av,ar,↓ao,↓ai,↓ae,↓aa,aO,cb,cz,dC,dH];refine⟨i,rfl,?_⟩;simp only [↓bQ,↓bK,↓au,↓if_false];exact hN4 _ _ ⟨rfl,_,rfl⟩
     ·rintro τ _ ⟨rfl,c,rfl⟩;exact EH _ _ ⟨rfl,_,_,rfl⟩
    ·rintro τ _ ⟨rfl,b,c,rfl⟩;exact mH _ _ ⟨rfl,_,_,_,rfl⟩
   ·rintro τ _ ⟨rfl,_⟩;exact hN _ _ rfl
  ·rintro τ _ rfl;simp only [cb,cz,dC,ends];exact cC q
end JF
namespace JF
open K2.P K2.J K2.JB
open K2.II (HR)
def M6(sp:jM)(ds:List D)(G1:Gp)(Q:DK):Prop:=∃ (R:Nat->Bool) (ts:List D),(∀ a,R a=true->∃ xs,G1 a=some (.lst xs))/\Cw G1 R ds ts /\
 sp ts (fun _=>none) (fun x G2=>tupP x=true/\∃ T:Nat->Bool,(∀ a o,T a=true->G2 a=some o->AP o=true)/\((∀ a o,G2 a=some o->G1 a=none)->Q x (Ve (resT T G2) G1))) fun _ _=>False
def w6{sp:jM}{t:BF}{E:lM}{τ:iO}{G:Gp}{Q:DK}:Bv sp t E τ G Q=t E τ G fun ds G1=>M6 sp ds G1 Q:=rfl
theorem RL{G1:Gp}{R:Nat->Bool}:∀ (as:List Nat) (rs:Rows),as.length=rs.length->(∀ (i a:Nat) (r:List T3),as[i]?=some a->rs[i]?=some r->G1 a=some (.lst (r.map enc))/\R a=true)->Cw G1 R (as.map D.ref) (rs.map enc)
 | [],[],_,_=>.nil
 | [],_ :: _,h,_=>by cases h
 | _ :: _,[],h,_=>by cases h
 | a :: as,r :: rs,h,k=>by
  obtain⟨k1,k2⟩:=k 0 a r rfl rfl;exact .cons (.ref k1 k2 (Cw.same _)) (RL as rs (by simpa using h) fun i a' r' h1 h2=>k (i+1) a' r' (by simpa using h1) (by simpa using h2))
def A3(p:Nat)(as:List Nat)(a:Nat):Bool:=a == p||as.contains a
theorem MF{G G1:Gp}{p:Nat}{as:List Nat}{rs:Rows}(h:HR G G1 p as rs):(∀ a,A3 p as a=true->∃ xs,G1 a=some (.lst xs))/\Fz G1 (A3 p as) (.ref p) (enc rs):=by
 refine⟨fun a ha=>?_,?_⟩
 ·unfold A3 at ha;rw [iU,beq_iff_eq,SW] at ha;rcases ha with rfl | ha
  ·exact⟨_,h.gp⟩
  ·obtain⟨i,hi,e⟩:=pY ha;have h1:as[i]?=some a:=by rw [ax hi,e]
   have Xr:i < rs.length:=by rw [<-h.len]; exact hi
   exact⟨_,h.at' i a rs[i] h1 (ax Xr)⟩
 ·refine .ref h.gp (by simp [A3]) (RL as rs h.len fun i a r h1 h2=>⟨h.at' i a r h1 h2,?_⟩);unfold A3;rw [iU,SW];exact .inr (cV h1)
def Gg(T:Nat->Bool)(G:Gp):Ve (resT T fun _=>none) G=G:=by
 funext a;unfold Ve resT;rw [ite_self]
theorem xX{G G1:Gp}{p:Nat}{as:List Nat}{rs:Rows}{Q:DK}(h:HR G G1 p as rs)(hz:rs.length<=1000/\∀ r∈rs,r.length<=1000)(q:Q (.bl true) G1) :
  M6 iG [.ref p,enc rs] G1 Q:=by
 obtain⟨h1,h2⟩:=MF h;refine⟨A3 p as,[enc rs,enc rs],h1,.cons h2 (.cons (.same _) .nil),rs,rfl,hz,rfl,fun _=>false,(fun a o _ e=>nomatch e),fun _=>?_⟩;rw [Gg]; exact q
theorem wu{G G1:Gp}{p:Nat}{as:List Nat}{rs:Rows}{Q:DK}(h:HR G G1 p as rs)(d:Dr rs)(hz:rs.flatten.length<=12)(q:∀ T,BP T (brk rs)->Q (.kH (bb T)) G1) :
  M6 kB [.ref p] G1 Q:=by
 obtain⟨h1,h2⟩:=MF h;refine⟨A3 p as,[enc rs],h1,.cons h2 .nil,rs,rfl,⟨d,hz⟩,fun T bT=>⟨Qp T,fun _=>false,(fun a o _ e=>nomatch e),fun _=>?_⟩⟩;rw [Gg]; exact q T bT
end JF
namespace JF
open K2.P K2.J K2.JB
open K2.Y (Po L ND NZ fF jq ja b0 EW)
open K2.II (HR)
open K2.DM (fZ)
open K2.IH (rot)
open K2.T (HL)
open K2.FP (gF dT lT)
def P8{rows:Rows}(d:Dr rows):∀ r∈rows,(r.map T3.s).Nodup:=fun r hr=>by
 have:=d.nd;obtain⟨s,t,rfl⟩:=List.append_of_mem hr;rw [cQ,ff,aN,aN,cY,cY] at this;exact this.2.1.1
theorem VT{G1:Gp}{R:Nat->Bool}:∀ (as:List Nat) (rs:List (List D)),as.length=rs.length->(∀ a∈as,R a=true)->(∀ (i a:Nat) (r:List D),as[i]?=some a->rs[i]?=some r->G1 a=some (.lst r))->Cw G1 R (as.map D.ref) (rs.map D.dw)
 | [],[],_,_,_=>.nil
 | [],_ :: _,h,_,_=>by cases h
 | _ :: _,[],h,_,_=>by cases h
 | a :: as,r :: rs,h,k,zf=>.cons (.ref (zf 0 a r rfl rfl) (k a (by simp)) (Cw.same _)) (VT as rs (by simpa using h) (fun b hb=>k b (aG _ hb)) fun i b s h1 h2=>zf (i+1) b s h1 h2)
theorem Ry{G G1:Gp}{p:Nat}{as:List Nat}{rs:Rows}(h:HR G G1 p as rs){a:Nat}(ha:a∈as):∃ r∈rs,G1 a=some (.lst ((r:List T3).map enc)):=by
 obtain⟨i,hi,e⟩:=pY ha;have h1:as[i]?=some a:=by rw [ax hi,e]
 have Xr:i < rs.length:=by rw [<-h.len]; exact hi
 exact⟨rs[i],e9 Xr,h.at' i a rs[i] h1 (ax Xr)⟩
end JF
namespace JG
open K2.P K2.J K2.JB
open K2.DM (fZ)
open K2.Yo (gw)
open K2.IH (M Kn B9 gy eM)
open K2.II (HR)
open K2.FO (wc dU lR)
def ie:List Int->Nat->M
 | [],_=>[]
 | n :: l,k=>(n,((k+1:Nat):Int)) :: ie l (k+1)
def pG:∀ (l:List Int) (k:Nat),(ie l k).map (·.1)=l
 | [],_=>rfl
 | n :: l,k=>by rw [ie,ak,pG l]
def kZ(l:List Int)(k:Nat):(ie l k).length=l.length:=by have:=congrArg dI (pG l k); rwa [aq] at this
def CU:∀ (l:List Int) (k:Nat),pQ (k+1) (l.map enc)=(ie l k).map fun p=>D.tup [.int p.2,.int p.1]
 | [],_=>rfl
 | n :: l,k=>by rw [ak,pQ,CU l (k+1),ie,ak]; rfl
def jC{κ β:Type} [DecidableEq κ]{l:List (κ×β)}{k:κ}{v:β}(h:k∉l.map (·.1)):fc l k v=l++[(k,v)]:=by
 unfold fc;rw [if_neg];intro z;exact h (by simpa using z)
def vV:gN :=
 (b8 (bF mM (aI 2))
 (b8 (eF (Kw (br fY (av (ar 0) aO)) (aX gK (ar 1) (dC (.int 1)))) (jL (cX (aI 3) (cX (aI 4) jz))) (bF (ar 3) (kh (ar 2) (ar 4))))
 (cb (cz (ar 2)))))
def gS:jM:=fun ds G Q _=>∃ (rows:Rows) (k:Nat),ds=[enc rows,.int k]/\(Dr rows/\k<=1000)/\ip G (.fU (bb (ie (names rows) k))) Q
theorem Fx(ds:List D)(G:Gp)(Q:DK)(h:gS ds G Q fun _ _=>False):vV (fun _ _=>False) (ends Q) (aY 5 ds) G:=by
 obtain⟨rows,k,rfl,⟨d,hk⟩,q⟩:=h;have EO:=d.EO;have nl:=qA d;have Y2:=pH d;unfold vV;simp only [↓cu,bF,mM,aI,ends,aY,↓ak,↓aQ,↓ah,↓aw,aT,↓aB,↓aM,↓ao,↓ai];intro p hp;refine dW (fun τ G'=>(∃ a b,τ=[some (enc rows),some (.int k),some (.ref p),a,b])/\ft G G'/\G'=eL G p (.fU (bb (ie (names rows) k)))) ?_ ?_
 ·intro N hN;simp only [eF,Kw,br,av,ar,↓aa,aO,aX,↓ae,dC,↓cR];refine⟨rows,rfl,(show rows.flatten.length < 64 by lia),?_⟩;simp only [↓cz,↓aY,↓ends,↓du,↓aX,↓ZS,↓ar,↓ot,↓xq,↓av,↓aO,↓cb,↓VZ,↓la,↓bF,↓aI,↓dC,↓dH,↓iD,↓iq,↓mM,↓wZ,↓ZU,↓E5,↓pR,↓pT,↓MV,↓Bu,↓Ck,↓mf,↓gI,↓eQ,↓pN,↓br,↓gL,↓cR,↓AA,↓v8,↓v7,↓vZ,↓nU,↓jv,↓t7,↓Az,↓zA,↓L6,↓qr,↓L8,↓iS,↓sV,↓Ec,↓v3,↓Ed,↓w7,↓Iu,↓DC,↓kJ,↓sZ,↓yL,↓rz,↓qk,↓tX,↓LK,↓LJ,↓true_and,↓and_true,↓EE,↓zG,↓iK,↓bQ,↓nG,↓Ba,↓MA,↓Hy,↓ak,↓aQ,↓aB,↓aM,↓aa,↓ae,↓ai,↓ao,↓ah,↓aw,↓aT,↓if_true,↓if_false,↓bK,↓eW,↓au,↓cu,↓vQ,↓kh,↓lK,↓pO,↓GB,↓t6,↓Ih,↓jL,↓cX,↓jz];refine⟨k+1,rfl,by lia,?_⟩;have en:∀ {R:List D->(Gp->Prop)->Gp->Prop} {G:Gp},R ((ie (names rows) k).map fun p=>D.tup [.int p.2,.int p.1]) (fun _=>True) G->wH (enc (names rows)) (k+1) G R:=fun h=>by
   show _;rw [<-CU] at h;exact h
  refine en ?_;refine dq (xs:=ie (names rows) k) (f:=fun p=>D.tup [.int p.2,.int p.1]) (fun pre τ G'=>(∃ a b,τ=[some (enc rows),some (.int k),some (.ref p),a,b])/\G'=eL G p (.fU (bb pre))) ⟨⟨_,_,rfl⟩,rfl⟩ (fun _ _ _ _=>trivial) ?_ ?_
  ·rintro pre x post τ G' N2 e ⟨⟨a,b,rfl⟩,rfl⟩ mH;have hx:x.1∉pre.map (·.1):=by
    have h1:=pG (names rows) k;rw [e,aN,ak] at h1;rw [<-h1] at Y2;have:=(List.nodup_append.mp Y2).2.2;exact fun z=>this _ z _ (bH ..) rfl
   have hl:pre.length < 1000:=by
    have h1:=kZ (names rows) k;rw [e,aC] at h1;lia
   simp only [jL,cX,aI,jz,bF,ar,↓ao,↓ai,↓ae,↓aa,kh];refine fN (l:=pre) (i:=x.1) (v:=x.2) az (JL (by lia)) ?_;refine mH _ _ ⟨⟨_,_,rfl⟩,?_⟩;rw [jC hx];funext a;unfold eL;split <;> rfl
  ·rintro τ G' ⟨⟨a,b,rfl⟩,rfl⟩;exact hN _ _ ⟨⟨_,_,rfl⟩,.new hp,rfl⟩
 ·rintro _ G' ⟨⟨a,b,rfl⟩,le,rfl⟩;simp only [cb,cz,ar,↓ae,↓aa];exact cC (q p hp)
def sN:gN :=
 (gi (E5 (ik (aX Vo (ar 0) (dC (.int 3)))) (ik (aX Vo (ar 1) (dC (.int 12))))) E6 dH)
def kR:jM:=fun ds G Q _=>∃ a b:Int,ds=[.int a,.int b]/\(a<=3/\b<=12)/\Q .eT G
theorem BG(ds:List D)(G:Gp)(Q:DK)(h:kR ds G Q fun _ _=>False):sN (fun _ _=>False) (ends Q) (aY 2 ds) G:=by
 obtain⟨a,b,rfl,⟨ha,hb⟩,q⟩:=h;unfold sN;have e1:decide (3 < a)=false:=decide_eq_false (by lia);have e2:decide (12 < b)=false:=decide_eq_false (by lia);simp only [gi,E5,↓du,aX,ar,aY,↓ak,↓aQ,↓ah,↓aw,↓aB,↓aM,↓aa,dC,↓qr,↓bQ,e1,↓au,ends,dH,↓if_true,↓ae,e2,↓if_false];exact q
def rh:gN :=
 (gi (E5 (ik (aX Vo (ar 0) (dC (.int 3)))) (ik (aX Vo (ar 1) (dC (.int 12))))) (E4 "TooMany" (av (dC (.str "more strings or crossings than a drawing has")) aO)) dH)
def ku:jM:=fun ds G Q E=>∃ a b:Int,ds=[.int a,.int b]/\(3 < a\/12 < b)/\E ⟨"TooMany",[]⟩ (fun _=>none)
theorem zk(ds:List D)(G:Gp)(Q:DK)(E:lM)(h:ku ds G Q E):rh E (ends Q) (aY 2 ds) G:=by
 obtain⟨a,b,rfl,Te,q⟩:=h;unfold rh;by_cases c:3 < a
 ·simp only [gi,E5,↓du,aX,ar,aY,↓ak,↓aQ,↓ah,↓aw,↓aB,↓aM,↓aa,dC,↓qr,↓bQ,decide_eq_true c,ends,dH,↓if_true,↓ae];unfold E4;simp only [av,dC,aO,↓ah,↓aw];exact⟨by decide,q⟩
 ·simp only [gi,E5,↓du,aX,ar,aY,↓ak,↓aQ,↓ah,↓aw,↓aB,↓aM,↓aa,dC,↓qr,↓bQ,decide_eq_false c,↓au,ends,dH,↓if_true,↓ae,decide_eq_true (show 12 < b by lia),↓if_false];unfold E4;simp only [av,dC,aO,↓ah,↓aw];exact⟨by decide,q⟩
end JG
namespace JG
open K2.P K2.J K2.JB
open K2.DM (fZ)
open K2.Yo (gw)
open K2.IH (M Kn B9 Vm gy eM)
open K2.II (HR)
open K2.FO (wc dU lR)
def mA(A:Rows):M:=ie (names A) 0
def mB(A B:Rows):M:=ie (names B) (names A).length
def two(A B:Rows):Rows:=A.map (B9 (mA A))++B.map (B9 (mB A B))
theorem Ez{rows:Rows}(d:Dr rows)(k:Nat){r:List T3}(hr:r∈rows):Kn (ie (names rows) k) r:=by
 intro p hp;have hf:p∈rows.flatten:=List.mem_flatten.mpr ⟨r,hr,hp⟩;have hn:p.a∈names rows:=by
  rw [nH];rcases d.way p hf with w | w
  ·exact⟨p,hf,w,rfl⟩
  ·exact⟨_,d.Cc p hf,by simp [w],rfl⟩
 rw [<-pG (names rows) k] at hn;obtain⟨q,hq,e⟩:=List.mem_map.mp hn;rw [<-e,tM (by rw [pG]; exact pH d) hq]; rfl
theorem pU{m:M}{G:Gp}{Q:DK}(q:Q (.int (m.length:Int)) G):kj [.kH (bb m)] G Q:=by
 unfold kj lenOf;have e:((bb m).all fun p=>di p.1)=true:=by
  unfold bb;rw [jc,gm];intro x _; rfl
 have l:(bb m).length=m.length:=by unfold bb; rw [aq]
 simp only [e,l,if_true];exact q
def LZ(m:M)(r:List T3):(B9 m r).length=r.length:=by unfold B9; rw [aq]
def CP:gN :=
 (b8 (bF (cz (br gS (av (ar 0) (av (dC (.int 0)) aO)))) (aI 2))
 (b8 (bF (cz (br gS (av (ar 1) (av (ot kj (av (ar 2) aO)) aO)))) (aI 3))
 (b8 (la (br kR (av (aX gK (ot kj (av (ar 0) aO)) (ot kj (av (ar 1) aO))) (av (aX gK (ot kj (av (ar 2) aO)) (ot kj (av (ar 3) aO))) aO))))
 (cb (cz (br gw (av (cz (aX gK (br eM (av (cz (ar 0)) (av (cz (ar 2)) aO))) (br eM (av (cz (ar 1)) (av (cz (ar 3)) aO))))) aO)))))))
def pE:jM:=fun ds G Q _=>∃ A B:Rows,ds=[enc A,enc B]/\(Dr A/\Dr B/\A.length+B.length<=3/\(names A).length+(names B).length<=12)/\∀ p as G',HR G G' p as ((two A B).map fZ)->Q (.ref p) G'
theorem OS(ds:List D)(G:Gp)(Q:DK)(h:pE ds G Q fun _ _=>False):CP (fun _ _=>False) (ends Q) (aY 4 ds) G:=by
 obtain⟨A,B,rfl,⟨dA,dB,hs,hn⟩,q⟩:=h;have lA:=sJ dA;have lB:=sJ dB;unfold CP;simp only [↓cu,bF,cz,br,av,ar,aY,↓ak,↓aQ,↓ah,↓aw,aT,↓aB,↓aM,↓aa,dC,aO,aI,↓ao,↓ai,↓ae,ot,↓vQ,la,aX,cb,ends];refine⟨A,0,rfl,⟨dA,by lia⟩,fun p1 f1=>gY (.new f1) f1 az ?_⟩;refine pU ⟨B,(names A).length,by rw [kZ],⟨dB,by lia⟩,fun p2 f2=>gY (.new f2) f2 az ?_⟩;refine JE.nq (JE.nq ?_);simp only [↓cR];refine pU (pU ?_);simp only [↓cR];refine⟨_,_,rfl,⟨by lia,by rw [kZ,kZ]; lia⟩,?_⟩;refine cC (cC ⟨A,mA A,rfl,⟨by lia,fun r hr=>⟨by have:=lA r hr; lia,Ez dA _ hr⟩⟩,?_⟩);refine cC (cC ⟨B,mB A B,rfl,⟨by lia,fun r hr=>⟨by have:=lB r hr; lia,Ez dB _ hr⟩⟩,?_⟩);refine t8 (IsL.enc _) (IsL.enc _) (CG (by simp only [aq]; lia)) fun p3 f3=>?_;rw [<-aN];refine i7 (xs:=two A B) (.new f3) f3 az ?_;refine⟨_,rfl,⟨?_,fun r hr=>?_⟩,fun p as G' h=>cC (q p as G' h)⟩
 ·unfold two; rw [aC,aq,aq]; lia
 ·unfold two at hr;rcases List.mem_append.mp hr with hr | hr
  ·obtain⟨x,hx,rfl⟩:=List.mem_map.mp hr;rw [LZ]; have:=lA x hx; lia
  ·obtain⟨x,hx,rfl⟩:=List.mem_map.mp hr;rw [LZ]; have:=lB x hx; lia
def Aw:gN :=
 (b8 (bF (cz (br gS (av (ar 0) (av (dC (.int 0)) aO)))) (aI 2))
 (b8 (bF (cz (br gS (av (ar 1) (av (ot kj (av (ar 2) aO)) aO)))) (aI 3))
 (b8 (la (K7 ku (av (aX gK (ot kj (av (ar 0) aO)) (ot kj (av (ar 1) aO))) (av (aX gK (ot kj (av (ar 2) aO)) (ot kj (av (ar 3) aO))) aO))))
 E6)))
def qo:jM:=fun ds G Q E=>∃ A B:Rows,ds=[enc A,enc B]/\(Dr A/\Dr B/\(3 < A.length+B.length\/12 < (names A).length+(names B).length))/\E ⟨"TooMany",[]⟩ (fun _=>none)
theorem Lo(ds:List D)(G:Gp)(Q:DK)(E:lM)(h:qo ds G Q E):Aw E (ends Q) (aY 4 ds) G:=by
 obtain⟨A,B,rfl,⟨dA,dB,hh⟩,q⟩:=h;have nA:=qA dA;have fA:=dA.EO;unfold Aw;simp only [↓cu,bF,cz,br,av,ar,aY,↓ak,↓aQ,↓ah,↓aw,aT,↓aB,↓aM,↓aa,dC,aO,aI,↓ao,↓ai,↓ae,ot,↓vQ,la,ends];refine⟨A,0,rfl,⟨dA,by lia⟩,fun p1 f1=>gY (.new f1) f1 az ?_⟩;refine pU ⟨B,(names A).length,by rw [kZ],⟨dB,by lia⟩,fun p2 f2=>gY (.new f2) f2 az ?_⟩;simp only [K7,av,aX,ot,ar,↓aa,aO,↓ae];refine JE.nq (JE.nq ?_);simp only [↓cR];refine pU (pU ?_);simp only [↓cR];refine⟨_,_,rfl,?_,q⟩;rw [kZ,kZ]; lia
def rj:gN :=
 (b8 (bF mM (aI 2))
 (b8 (eF (lz (ot ux (av (br dU (av (ar 0) aO)) aO))) (aI 3) (bF (aX gK (ar 1) (ot kj (av (ar 2) aO))) (kh (ar 2) (ar 3))))
 (b8 (bF (iq aO) (aI 4))
 (b8 (eF (lz (ar 0)) (aI 5) (la (xq IT qH (ar 4) (av (cz (gL 3 [2] (lz (ar 5)) (jL (cX (aI 0) (cX (aI 1) (cX (aI 2) jz)))) none (iD (av (aX j6 (ar 3) (ar 0)) (av (ar 1) (av (ar 2) aO)))))) aO))))
 (cb (cz (ar 4)))))))
def iQ:jM:=fun ds G Q _=>∃ (rows:Rows) (k:Nat),ds=[enc rows,.int ((k+1:Nat):Int)]/\(Dr rows/\k<=1000)/\Q (enc (rows.map (B9 (ie (names rows) k)))) G
def GS:∀ (l m:List Int) (k:Nat),ie (l++m) k=ie l k++ie m (k+l.length)
 | [],m,k=>by simp [ie]
 | n :: l,m,k=>by
  rw [aB,ie,GS l m,ie,aB,ah,show k+1+l.length=k+(l.length+1) by lia]
theorem zo(ds:List D)(G:Gp)(Q:DK)(h:iQ ds G Q fun _ _=>False):rj (fun _ _=>False) (ends Q) (aY 6 ds) G:=by
 obtain⟨rows,k,rfl,⟨d,hk⟩,q⟩:=h;have EO:=d.EO;have str:=d.str;have rle:=sJ d;have nl:=qA d;have Y2:=pH d;unfold rj;simp only [↓cu,bF,mM,aI,ends,aY,↓ak,↓aQ,↓ah,↓aw,aT,↓aB,↓aM,↓ao,↓ai];intro p hp;refine dW (fun τ G'=>(∃ a,τ=[some (enc rows),some (.int ((k+1:Nat):Int)),some (.ref p),a,none,none])/\ft G G'/\G' p=some (.fU (bb (ie (names rows) k)))) ?_ ?_
 ·intro N hN;simp only [eF,↓eQ,ot,av,br,ar,↓aa,aO];refine⟨rows,rfl,(show rows.flatten.length<=500 by lia),?_⟩;have ol:=lR rows.flatten;refine vr (IsL.enc (wc rows.flatten)) (by lia) fun p2 f2=>?_;have en:PS (wc rows.flatten)=names rows:=rfl;rw [en];simp only [MB,az];have n2:p≠p2:=by rintro rfl; rw [az] at f2; cases f2
  refine dq (xs:=names rows) (fun pre τ G'=>(∃ a,τ=[some (enc rows),some (.int ((k+1:Nat):Int)),some (.ref p),a,none,none])/\ft G G'/\G' p2=some (.lst ((names rows).map enc))/\G' p=some (.fU (bb (ie pre k)))) ⟨⟨_,rfl⟩,(ft.new hp).trans (.new f2),az,by rw [cE n2]; exact az⟩ (fun _ _ _ h=>h.2.2.1) ?_ ?_
  ·rintro pre x post τ G' N2 e ⟨⟨a,rfl⟩,le,g2,gp⟩ mH;have hx:x∉pre:=by
    rw [e] at Y2;exact fun z=>(List.nodup_append.mp Y2).2.2 _ z _ (bH ..) rfl
   have hl:pre.length < (names rows).length:=by rw [e]; simp
   rw [zI];simp only [aI,bF,aX,ar,↓ao,↓ai,↓ae,↓aa,ot,av,aO,kh];refine IH.Sf gp ?_;simp only [↓cR];refine fN (l:=ie pre k) (i:=x) (v:=((k+1:Nat):Int)+(((ie pre k).length:Nat):Int)) gp (JL (by rw [kZ]; lia)) ?_;refine mH _ _ ⟨⟨_,rfl⟩,le.put hp,by rw [cE (e7 n2)]; exact g2,?_⟩;rw [az,jC (by rw [pG]; exact hx),GS,kZ];show _=some (GO.fU (bb (ie pre k++[(x,((k+pre.length+1:Nat):Int))])));rw [show ((k+1:Nat):Int)+(pre.length:Int)=((k+pre.length+1:Nat):Int) by lia]
  ·rintro τ G' ⟨⟨a,rfl⟩,le,g2,gp⟩;exact hN _ _ ⟨⟨_,rfl⟩,le,gp⟩
 rintro _ G1 ⟨⟨a,rfl⟩,Zd,gp⟩;simp only [↓cu,bF,iq,aO,↓aw,aI,↓ao,↓ai];refine⟨by decide,fun p3 f3=>?_⟩;have n3:p≠p3:=by rintro rfl; rw [gp] at f3; cases f3
 have f3':=Zd.free f3;refine dW (fun τ G'=>(∃ b,τ=[some (enc rows),some (.int ((k+1:Nat):Int)),some (.ref p),a,some (.ref p3),b])/\ft G G'/\G' p3=some (.lst ((rows.map (B9 (ie (names rows) k))).map enc))) ?_ ?_
 ·intro N hN;simp only [eF,↓eQ,ar,↓aa];refine gU ?_;refine dq (xs:=rows) (fun pre τ G'=>(∃ b,τ=[some (enc rows),some (.int ((k+1:Nat):Int)),some (.ref p),a,some (.ref p3),b])/\ft G G'/\G' p=some (.fU (bb (ie (names rows) k)))/\G' p3=some (.lst ((pre.map (B9 (ie (names rows) k))).map enc))) ⟨⟨_,rfl⟩,Zd.trans (.new f3),by rw [cE n3]; exact gp,az⟩ (fun _ _ _ _=>trivial) ?_ ?_
  ·rintro pre r post τ G' N2 e ⟨⟨b,rfl⟩,le,gd,g3⟩ mH;have hr:r∈rows:=by rw [e]; simp
   have hrl:=rle r hr;have kn:=Ez d k hr;have yO:pre.length < rows.length:=by rw [e]; simp
   simp only [aI,la,xq,ar,↓ao,↓ai,↓ae,↓aa,↓qk,g3,av,cz,gL,↓eQ,aO,↓kJ,↓true_and];refine gU ⟨CG (by rw [aq]; lia),?_⟩;refine jB (xs:=r) (fun pr acc τ G2=>G'=G2/\(∃ a b c,τ=[a,b,c,some (.ref p)])/\acc=(B9 (ie (names rows) k) pr).map enc) ⟨rfl,⟨_,_,_,rfl⟩,rfl⟩ (fun _ _ _ _ _=>trivial) ?_ ?_
   ·rintro pr x po acc τ G2 N3 e2 ⟨rfl,⟨a,b,c,rfl⟩,rfl⟩ EH;obtain⟨v,hv⟩:=Option.isSome_iff_exists.mp (kn x (by rw [e2]; simp));rw [mL];simp only [jL,cX,aI,jz,iD,av,aX,ar,↓ai,↓ao,↓ae,↓aa,aO,↓ah,↓aw];refine Qh (k:=x.a) (v:=v) gd hv ?_;refine⟨by decide,EH _ _ _ ⟨rfl,⟨_,_,_,rfl⟩,?_⟩⟩;unfold B9;rw [aN,aN];have:Vm (ie (names rows) k) x=⟨v,x.b,x.c⟩:=by unfold Vm; rw [hv]; rfl
    simp only [ak,aQ,this,mL]; rfl
   ·rintro acc τ G2 ⟨rfl,_,rfl⟩ p4 f4;refine i7 (xs:=B9 (ie (names rows) k) r) (.new f4) f4 az ?_;simp only [g3];refine⟨JL (by rw [aq,aq]; lia),mH _ _ ⟨⟨_,rfl⟩,le.put f3',by rw [cE n3]; exact gd,?_⟩⟩;rw [az,aN,aN]; rfl
  ·rintro τ G' ⟨⟨b,rfl⟩,le,gd,g3⟩;exact hN _ _ ⟨⟨_,rfl⟩,le,g3⟩
 rintro _ G4 ⟨⟨b,rfl⟩,le4,g4⟩;simp only [cb,cz,ar,↓ae,↓aa];exact i7 le4 f3' g4 q
end JG
end K2
end
section
namespace K2
open Enc (enc)
namespace JG
open K2.P K2.J K2.JB
open K2.DM (fZ)
open K2.IH (M B9 Vm)
open K2.Y (Po L ND NZ fF)
def Za{g:Fn}{c:Nat}(h:∀ i,(g i).natAbs<=c)(i:Int):(lp g i).natAbs<=2 * c:=by
 have h1:=h (i+2);have h2:=h (i - 2);unfold lp; lia
theorem Kk:∀ (n:Nat) {g:Fn} {c:Nat},(∀ i,(g i).natAbs<=c)->∀ i,(jd n g i).natAbs<=2 ^ n * c
 | 0,g,c,h,i=>by rw [Nat.pow_zero,Nat.one_mul]; exact h i
 | n+1,g,c,h,i=>by
  have:=Za (Kk n h) i;rw [xB,Nat.mul_comm (2 ^ n) 2,Nat.mul_assoc]; exact this
def By(f:T3->T3)(x y:T3):cl f x y<=1:=by unfold cl; split <;> lia
def Fb(f:T3->T3)(n:Int)(w:Bool):cls f (js n w)<=2:=by
 cases w with
 | false =>
  exact zr (By _ _ _) (zr (By _ _ _) (aE 0))
 | true =>
  exact zr (By _ _ _) (zr (By _ _ _) (aE 0))
theorem V9:∀ (ps:List (Int×Int)) (f:T3->T3) {g:Fn} {c:Nat},(∀ i,(g i).natAbs<=c)->(Br f ps g).natAbs<=8 ^ ps.length * c
 | [],f,g,c,h=>by rw [aw,Nat.pow_zero,Nat.one_mul]; exact h 0
 | p :: ps,f,g,c,h=>by
  have st:∀ (w:Bool) (b:Int),(Br (jK f (js p.1 w)) ps (jd (cls f (js p.1 w)) (sh b g))).natAbs<=8 ^ ps.length * (4 * c):=fun w b=>by
   have h1:∀ i,(sh b g i).natAbs<=c:=fun i=>h _;have h2:∀ i,(jd (cls f (js p.1 w)) (sh b g) i).natAbs<=4 * c:=fun i=>by
    refine bc (Kk _ h1 i) (iT _ ?_);exact bc (fD (by decide) (Fb f p.1 w)) (by decide)
   exact V9 ps _ h2
  have a:=st false p.2;have b:=st true (-p.2);have e:8 ^ (p :: ps).length * c=8 ^ ps.length * (4 * c)+8 ^ ps.length * (4 * c):=by
   rw [ah,xB,Nat.mul_assoc,<-Nat.mul_add];congr 1; lia
  rw [e];show (Br _ ps _+Br _ ps _).natAbs<=_;lia
theorem XW(rows:Rows){g:Fn}(h:∀ i,(g i).natAbs<=1):(brk rows g).natAbs<=8 ^ (names rows).length * 2 ^ lo rows:=by
 have:=V9 (nh rows) (fr rows) (Kk (lo rows) h);rw [Nat.mul_one,show (nh rows).length=(names rows).length by unfold nh; rw [aq]] at this;exact this
theorem W3{T:Po}(nd:ND T):∃ g:Fn,(∀ i,(g i).natAbs<=1)/\L g T=(fF T:Int):=by
 refine⟨fun i=>if 0<=(cp T i).getD 0 then 1 else -1,fun i=>?_,?_⟩
 ·show (if _ then (1:Int) else -1).natAbs<=1;split <;> decide
 ·have:∀ U:Po,(∀ p∈U,cp T p.1=some p.2)->L (fun i=>if 0<=(cp T i).getD 0 then 1 else -1) U=(fF U:Int):=by
   intro U;induction U with
   | nil=>intro _; rfl
   | cons p U ih =>
    intro h;rw [L,fF,ih fun q hq=>h q (aG _ hq),h p (by simp),oh];split <;> lia
  exact this T fun p hp=>tM nd hp
def So{T:Po}{rows:Rows}(b:BP T (brk rows)):fF T<=8 ^ (names rows).length * 2 ^ lo rows:=by
 obtain⟨g,hg,e⟩:=W3 b.nd;have:=XW rows hg;rw [<-b.val,e] at this;exact this
theorem wd:∀ {l:List Int} {k:Nat} {p:Int×Int},p∈ie l k->(k:Int) < p.2/\p.2<=k+l.length
 | [],_,_,h=>nomatch h
 | n :: l,k,p,h=>by
  rw [ie] at h;rw [ah];rcases List.mem_cons.mp h with rfl | h
  ·simp only; lia
  ·have:=wd h; lia
def GR:∀ (l:List Int) (k:Nat),((ie l k).map (·.2)).Nodup
 | [],_=>cj
 | n :: l,k=>by
  rw [ie,ak,aS];refine⟨fun z=>?_,GR l (k+1)⟩;obtain⟨q,hq,e⟩:=List.mem_map.mp z;have:=wd hq;lia
def Ur(m:M)(a:Int):Int:=(cp m a).getD 0
def Eo(m:M)(rows:Rows):rows.map (B9 m)=nu (Ur m) rows:=rfl
theorem Er{rows:Rows}(d:Dr rows)(k:Nat){a:Int}(h:Nm rows a):(a,Ur (ie (names rows) k) a)∈ie (names rows) k:=by
 obtain⟨p,hp,rfl⟩:=h;obtain⟨r,hr,hpr⟩:=List.mem_flatten.mp hp;obtain⟨v,hv⟩:=Option.isSome_iff_exists.mp (Ez d k hr p hpr);unfold Ur;rw [hv];exact Hf hv
theorem TH{m:List (Int×Int)}(nd:(m.map (·.2)).Nodup){a b u:Int}(ha:(a,u)∈m)(hb:(b,u)∈m):a=b:=by
 induction m with
 | nil=>cases ha
 | cons p m ih =>
  rw [ak,aS] at nd;rcases List.mem_cons.mp ha with e | ha
  ·rcases List.mem_cons.mp hb with e' | hb
   ·rw [<-e'] at e; exact congrArg Prod.fst e
   ·exact absurd (List.mem_map.mpr ⟨_,hb,by rw [<-e]⟩) nd.1
  ·rcases List.mem_cons.mp hb with e' | hb
   ·exact absurd (List.mem_map.mpr ⟨_,ha,by rw [<-e']⟩) nd.1
   ·exact ih nd.2 ha hb
theorem QB{rows:Rows}(d:Dr rows)(k:Nat):∀ a b,Nm rows a->Nm rows b->Ur (ie (names rows) k) a=Ur (ie (names rows) k) b->a=b:=fun a b ha hb e=>by
 have h1:=Er d k ha;have h2:=Er d k hb;rw [<-e] at h2;exact TH (GR _ _) h1 h2
theorem XJ{A B:Rows}(dA:Dr A)(dB:Dr B)(XF:∀ p∈B.flatten,¬ Nm A p.a)(hs:A.length+B.length<=3)(hf:A.flatten.length+B.flatten.length<=24):Dr (A++B):=by
 refine⟨?_,?_,?_,?_,?_,?_⟩
 ·rw [cQ,aN,cY];refine⟨dA.nd,dB.nd,fun a ha b hb e=>?_⟩;obtain⟨p,hp,rfl⟩:=List.mem_map.mp ha;obtain⟨q,hq,rfl⟩:=List.mem_map.mp hb;exact XF q hq ⟨p,hp,congrArg T2.a e⟩
 ·intro p hp;rw [cQ] at hp;exact(List.mem_append.mp hp).elim (dA.way p) (dB.way p)
 ·intro p hp;rw [cQ] at hp;exact(List.mem_append.mp hp).elim (dA.hand p) (dB.hand p)
 ·intro p hp;rw [cQ] at hp ⊢;exact List.mem_append.mpr ((List.mem_append.mp hp).imp (dA.Cc p) (dB.Cc p))
 ·rw [cQ,aC]; exact hf
 ·rw [aC]; exact hs
def uf(ν:Int->Int)(rows:Rows):(nu ν rows).flatten=rows.flatten.map (rn ν):=by
 unfold nu;rw [List.map_flatten]
theorem Wi{A B:Rows}(dA:Dr A)(dB:Dr B)(hs:A.length+B.length<=3)(hn:(names A).length+(names B).length<=12):Dr (two A B)/\∀ g,brk (two A B) g=brk A (Pf (brk B) g):=by
 have tA:=SH.twice dA;have tB:=SH.twice dB;have iA:=QB dA 0;have iB:=QB dB (names A).length;have d1:=QC dA iA;have d2:=QC dB iB;have XF:∀ p∈(nu (Ur (mB A B)) B).flatten,¬ Nm (nu (Ur (mA A)) A) p.a:=fun p hp z=>by
  rw [uf] at hp;obtain⟨q,hq,rfl⟩:=List.mem_map.mp hp;obtain⟨y,hy,e⟩:=z;rw [uf] at hy;obtain⟨x,hx,rfl⟩:=List.mem_map.mp hy;have a1:=wd (Er dA 0 ⟨x,hx,rfl⟩);have a2:=wd (Er dB (names A).length ⟨q,hq,rfl⟩);have e':Ur (ie (names A) 0) x.a=Ur (ie (names B) (names A).length) q.a:=e;simp only at a1 a2;lia
 have dT:Dr (two A B):=XJ d1 d2 XF (by show (A.map _).length+(B.map _).length<=3; rw [aq,aq]; exact hs) (by rw [Eo,Eo,uf,uf,aq,aq]; lia);refine⟨dT,fun g=>?_⟩;have h:=Tw d1 d2 dT XF g;refine h.trans ?_;rw [QD dA iA];congr 1;funext i;exact QD dB iB _
end JG
end K2
end
section
namespace K2
open PySem (Str)
open Enc (enc)
namespace JG
open K2.P K2.J K2.JB
open K2.JF (P8 iW iG Ry M6 w6 xX wu Sm D7)
open K2.DM (fZ)
open K2.II (HR)
open K2.T (HL)
open K2.Y (Po L ND NZ fF iI jq jo ja b0 EW)
open K2.FP (gF)
open K2.FO (wc dU lR)
def sP:gN :=
 (b8 (bF (iq aO) (aI 2))
 (b8 (R1 qo (av (ar 0) (av (ar 1) aO)) 3 ["TooMany"] (bF (iq (av (MW ["TooMany","NoString","KnotError"] ["TooMany","NoString","KnotError"] (ar 3)) (av (MW ["TooMany","NoString","KnotError"] ["NoString"] (ar 3)) aO))) (aI 2)))
 (cb (cz (aX (JW false) (ar 2) (iq (av (dC (.bl true)) (av (dC (.bl false)) aO))))))))
def jm:jM:=fun ds G Q _=>∃ A B:Rows,ds=[enc A,enc B]/\(Dr A/\Dr B/\(3 < A.length+B.length\/12 < (names A).length+(names B).length))/\Q (.bl true) G
theorem BI(ds:List D)(G:Gp)(Q:DK)(h:jm ds G Q fun _ _=>False):sP (fun _ _=>False) (ends Q) (aY 4 ds) G:=by
 obtain⟨A,B,rfl,hi,q⟩:=h;unfold sP;simp only [↓cu,bF,iq,aO,↓aw,aI,ends,aY,↓ak,↓aQ,↓ah,aT,↓aB,↓aM,↓ao,↓ai,sI,R1,av,ar,↓aa,↓ae,cb,cz,aX,dC];refine⟨by decide,fun p f=>?_⟩;refine⟨A,B,rfl,hi,by decide,?_⟩;have e1:(["TooMany","NoString","KnotError"]:List Str).contains "TooMany" = true:=by decide
 have e3:(["NoString"]:List Str).contains "TooMany" = false:=by decide
 simp only [MW,ar,↓ae,↓aa,e1,e3,↓true_and];refine⟨by decide,fun p1 f1=>⟨by decide,fun p2 f2=>?_⟩⟩;have n12:p1≠p2:=by rintro rfl; rw [az] at f2; cases f2
 refine⟨_,_,.ref (by rw [cE n12]; exact az) (.uT (.bl _) (.uT (.bl _) .Ea)),.ref az (.uT (.bl _) (.uT (.bl _) .Ea)),?_⟩;have e4:iM (.dw [.bl true,.bl false]) (.dw [.bl true,.bl false])=true:=by decide
 simp only [↓au,e4,↓bK,↓if_false];exact zH ((ft.new f).trans ((ft.new f1).trans (.new f2))) q
theorem RB{G0 G G' G2:Gp}{p:Nat}{as:List Nat}{A:Rows}(h:HL G G' p as (A.map fun r=>r.map enc))(le:ft G0 G)(Hs:ft G' G2):Fz G2 (fun a=>(G0 a).isNone) (.ref p) (enc A):=by
 rw [gF];have fr:∀ a,G a=none->(G0 a).isNone=true:=fun a ha=>by rw [le.free ha]; rfl
 exact .ref (Hs _ _ h.gp) (fr _ h.fp) (JF.VT as _ h.len (fun a ha=>fr a (h.fr a ha)) fun i a r h1 h2=>Hs _ _ (h.at' i a r h1 h2))
def WG{A B:Rows}{G:Gp}{Q:DK}(q:Q (enc A) G):j6 (enc [A,B]) (.int 0) G Q:=JE.u6 (xs:=[A,B]) (i:=0) rfl q
def WE{A B:Rows}{G:Gp}{Q:DK}(q:Q (enc B) G):j6 (enc [A,B]) (.int 1) G Q:=JE.u6 (xs:=[A,B]) (i:=1) rfl q
theorem EV{neg:Bool}{A B:Rows}{p:Nat}{G:Gp}{Q:DK}(g:G p=some (.lst [enc A,enc B]))(q:Q (.bl (if neg then false else true)) G):y9 neg (enc [A,B]) (.ref p) G Q :=
 .inl ⟨_,_,Enc.sn G 8 [A,B] (by decide),.ref g (Ag G 7 (by decide) [A,B]),by
  rw [show (D.dw ([A,B].map enc))=enc [A,B] from rfl,Enc.eqv];cases neg <;> simpa using q⟩
abbrev Ws:jM:=CI
def Qc:gN :=
 (b8 (bF (br b0 (av (ar 0) (av (dC (.int 0)) aO))) (aI 1))
 (b8 (bF (iq (av (aX gK (dC (.int 1)) (aX sU (ar 1) (dC (.int 3)))) (av (aX gK (dC (.int 1)) (aX sU (aX GF (ar 1) (dC (.int 3))) (dC (.int 3)))) aO))) (aI 2))
 (b8 (gi (ik (aX (y9 true) (aX sU (aX GF (ar 1) (dC (.int 9))) (dC (.int 4))) (dC (.int 1)))) (b8 (bF (aX gK (dC (.int 1)) (aX sU (ar 1) (dC (.int 2)))) (kh (ar 2) (dC (.int 0))))
 (bF (aX gK (dC (.int 1)) (aX JU (aX TM (dC (.int 1)) (aX sU (ar 1) (dC (.int 2)))) (aX sU (aX GF (ar 1) (dC (.int 2))) (dC (.int 2))))) (kh (ar 2) (dC (.int 1))))) dH)
 (b8 (bF (dC (.int 4)) (aI 3))
 (b8 (gi (ik (aX (y9 false) (aX sU (br b0 (av (ar 0) (av (dC (.int 1)) aO))) (dC (.int 4))) (dC (.int 1)))) (bF (dC (.int 11)) (aI 3)) dH)
 (b8 (bF (iq (av (aX sU (br b0 (av (ar 0) (av (dC (.int 2)) aO))) (ar 3)) (av (aX sU (br b0 (av (ar 0) (av (dC (.int 3)) aO))) (ar 3)) aO))) (aI 4))
 (b8 (bF (cz (br jt (av (cz (Ck (ar 0) (mU (dC (.int 4))) (mU (aX gK (dC (.int 4)) (aX j6 (ar 4) (dC (.int 0))))))) (av (cz (aX j6 (ar 2) (dC (.int 0)))) (av (cz (dC (.int 999))) aO))))) (aI 5))
 (b8 (bF (cz (br jt (av (cz (Ck (ar 0) (mU (dC (.int 14))) (mU (aX gK (dC (.int 14)) (aX j6 (ar 4) (dC (.int 1))))))) (av (cz (aX j6 (ar 2) (dC (.int 1)))) (av (cz (dC (.int 12))) aO))))) (aI 6))
 (b8 (bF (cz (iq (av (br fi (av (cz (ar 5)) aO)) (av (br fi (av (cz (ar 6)) aO)) aO)))) (aI 7))
 (b8 (bF (aX gK (ot kj (av (br dU (av (ar 5) aO)) aO)) (ot kj (av (br dU (av (ar 6) aO)) aO))) (aI 8))
 (b8 (gi (E5 (ik (aX Vo (aX gK (aX j6 (ar 2) (dC (.int 0))) (aX j6 (ar 2) (dC (.int 1)))) (dC (.int 3)))) (ik (aX Vo (ar 8) (dC (.int 12))))) (cb (cz (Bw (br jm (av (aX j6 (ar 7) (dC (.int 0))) (av (aX j6 (ar 7) (dC (.int 1))) aO))) (aX (y9 false) (ar 7) (iq (av (ar 5) (av (ar 6) aO))))))) dH)
 (b8 (bF (cz (aX gK (br iQ (av (ar 5) (av (dC (.int 1)) aO))) (br iQ (av (ar 6) (av (aX gK (dC (.int 1)) (ot kj (av (br dU (av (ar 5) aO)) aO))) aO))))) (aI 9))
 (b8 (Ie 10 (bF (gL 1 [] (lz (ar 9)) (aI 0) none (cz (br iW (av (ar 0) aO)))) (aI 10)))
 (b8 (bF (br pE (av (cz (aX j6 (ar 7) (dC (.int 0)))) (av (cz (aX j6 (ar 7) (dC (.int 1)))) aO))) (aI 11))
 (b8 (gi (E5 (pR (ik (Bv iG (av (ar 11) (av (ar 10) aO))))) (ik (aX (y9 true) (ar 7) (iq (av (ar 5) (av (ar 6) aO)))))) (cb (cz (dC (.bl false)))) dH)
 (b8 (gi (ik (aX YK (ar 8) (dC (.int 7)))) (b8 (bF (Bv kB (av (ar 11) aO)) (aI 12))
 (gi (E5 (pR (ik (br jq (av (ar 12) aO)))) (ik (aX (y9 true) (ar 12) (br jo (av (cz (br kB (av (cz (ar 5)) aO))) (av (cz (br kB (av (cz (ar 6)) aO))) aO)))))) (cb (cz (dC (.bl false)))) dH)) dH)
 (b8 (eF (lz (ar 11)) (aI 13) (la (xq IT qH (ar 13) (av (iD (av (dC (.int 1)) (av (dC (.int 0)) (av (dC (.int 1)) aO)))) aO))))
 (cb (cz (Bw (aX (y9 false) (ar 7) (iq (av (ar 5) (av (ar 6) aO)))) (Bv iG (av (br pE (av (cz (aX j6 (ar 7) (dC (.int 0)))) (av (cz (aX j6 (ar 7) (dC (.int 1)))) aO))) (av (ar 10) aO)))))))))))))))))))))))
theorem X1(ds:List D)(G:Gp)(Q:DK)(h:Ws ds G Q fun _ _=>False):Qc (fun _ _=>False) (ends Q) (aY 14 ds) G:=by
 obtain⟨ns,rfl,hl,hG,q⟩:=h;unfold Qc;simp only [↓cu,bF,br,av,ar,aY,↓ak,↓aQ,↓ah,↓aw,aT,↓aB,↓aM,↓aa,dC,aO,aI,iq,aX,↓ao,↓ai,↓ae,ends];refine⟨ns,0,rfl,by decide,?_⟩;generalize ja ns 0=c0;simp only [↓jv,↓cR,↓t7];refine⟨by decide,by decide,by decide,by decide,by decide,fun p2 f2=>?_⟩;refine dW (fun τ G'=>∃ s0 s1:Nat,(1<=s0/\s0<=3)/\(1<=s1/\s1<=3)/\G' p2=some (.lst [.int s0,.int s1])/\τ=[some (.dw (ns.map D.int)),some (.int c0),some (.ref p2),none,none,none,none,none,none,none,none,none,none,none]) ?_ ?_
 ·intro N hN;simp only [gi,↓du,aX,ar,↓ae,↓aa,dC,↓t7,↓jv,↓cu,bF,↓cR,kh,↓vZ,↓nU,dH];refine⟨by decide,by decide,by decide,GG ?_⟩;by_cases c:c0 / 9 % 4=1
  ·simp only [↓bQ,c,decide_true,↓bK,↓if_true,↓au,↓if_false];refine hN _ _ ⟨(1+c0 % 3).toNat,(1+c0 / 3 % 3).toNat,by lia,by lia,?_,rfl⟩;rw [az,qg (by lia),qg (by lia)]
  ·simp only [↓bQ,c,decide_false,↓eW,↓if_true];have z0:IX [D.int (1+c0 % 3),D.int (1+c0 / 3 % 3)].length 0=some 0:=rfl;have z1:∀ x y:D,IX [x,y].length 1=some 1:=fun _ _=>rfl;have m1:(1 - c0 % 2=0\/1 - c0 % 2=1)/\(c0 / 2 % 2=0\/c0 / 2 % 2=1):=by lia
   have mu:0<=(1 - c0 % 2) * (c0 / 2 % 2)/\(1 - c0 % 2) * (c0 / 2 % 2)<=1:=by
    obtain⟨a | a,b | b⟩:=m1 <;> rw [a,b] <;> decide
   refine⟨by decide,?_⟩;unfold yA;simp only [az,z0];refine⟨by decide,by decide,by decide,by decide,.inr (by lia),?_⟩;simp only [ai,z1];refine hN _ _ ⟨(1+c0 % 2).toNat,(1+(1 - c0 % 2) * (c0 / 2 % 2)).toNat,by lia,by lia,?_,rfl⟩;rw [az,qg (by lia),qg (by lia)]; rfl
 rintro _ G0 ⟨s0,s1,hs0,hs1,g2,rfl⟩;simp only [↓cu,bF,dC,aI,↓ao,↓ai];refine dW (fun τ G'=>G0=G'/\∃ m:Int,0 < m/\m<=11/\τ=[some (.dw (ns.map D.int)),some (.int c0),some (.ref p2),some (.int m),none,none,none,none,none,none,none,none,none,none]) ?_ ?_
 ·intro N hN;simp only [gi,↓du,aX,br,av,ar,↓aa,dC,aO,bF,aI,↓ao,↓ai,dH];refine⟨ns,1,rfl,by decide,?_⟩;simp only [↓jv];refine⟨by decide,GG ?_⟩;by_cases c:ja ns 1 % 4=1
  ·simp only [↓bQ,↓au,c,decide_true,↓bK,↓if_false,↓if_true];exact hN _ _ ⟨rfl,11,by decide,by decide,rfl⟩
  ·simp only [↓bQ,↓au,c,decide_false,↓eW,↓if_false];exact hN _ _ ⟨rfl,4,by decide,by decide,rfl⟩
 rintro _ _ ⟨rfl,m,m0,m11,rfl⟩;simp only [↓cu,bF,iq,av,aX,br,ar,↓aa,dC,aO,↓ae,↓ah,↓aw,aI,cz,Ck,↓ao,↓ai,↓mf,↓iK,↓v3,ot];refine⟨ns,2,rfl,by decide,?_⟩;simp only [↓jv];refine⟨by lia,?_⟩;refine⟨ns,3,rfl,by decide,?_⟩;simp only [↓jv];refine⟨by lia,by decide,fun p4 f4=>?_⟩;have k0:=xD (ja ns 2) (show m≠0 by lia);have k1:=rY (ja ns 2) m0;have k2:=xD (ja ns 3) (show m≠0 by lia);have k3:=rY (ja ns 3) m0;generalize ja ns 2 % m=ka at k0 k1;generalize ja ns 3 % m=kb at k2 k3;have n24:p2≠p4:=by rintro rfl; rw [g2] at f4; cases f4
 have g4:eL G0 p4 (.lst [.int ka,.int kb]) p4=some (.lst [.int ka,.int kb]):=az;have RK:eL G0 p4 (.lst [.int ka,.int kb]) p2=some (.lst [.int s0,.int s1]):=by rw [cE n24]; exact g2
 generalize eL G0 p4 (.lst [.int ka,.int kb])=G4 at g4 RK;have a0:∀ x y:D,rZ [x,y] 0=some x:=fun _ _=>rfl;have a1:∀ x y:D,rZ [x,y] 1=some y:=fun _ _=>rfl;rw [qp g4 (a0 _ _)];simp only [↓cR,↓iK];rw [oQ];intro pS fS;have cl1:(cut ns (some 4) (some (4+ka))).length<=10:=by
  unfold cut j9;simp only;rw [if_neg (by lia),if_neg (by lia)];simp only [d6,cq]; lia
 generalize cut ns (some 4) (some (4+ka))=cells at cl1;refine i7 (xs:=cells) (.new fS) fS az ?_;rw [qp RK (a0 _ _)];refine cC (cC ⟨_,cells,s0,999,rfl,IsL.enc cells,⟨by lia,hs0,by decide,by decide⟩,fun A dA lA fA=>cC ?_⟩);rw [qp g4 (a1 _ _)];simp only [↓cR,↓iK];rw [oQ];intro pS2 fS2;have cl2:(cut ns (some 14) (some (14+kb))).length<=10:=by
  unfold cut j9;simp only;rw [if_neg (by lia),if_neg (by lia)];simp only [d6,cq]; lia
 generalize cut ns (some 14) (some (14+kb))=K8 at cl2;refine i7 (xs:=K8) (.new fS2) fS2 az ?_;rw [qp RK (a1 _ _)];refine cC (cC ⟨_,K8,s1,12,rfl,IsL.enc K8,⟨by lia,hs1,by decide,by decide⟩,fun B dB lB fB=>cC ?_⟩);have nA:(wc A.flatten).length=(names A).length:=(D5 _).symm;have nB:(wc B.flatten).length=(names B).length:=(D5 _).symm;have tA:=SH.twice dA;have tB:=SH.twice dB;have rA:=sJ dA;have rB:=sJ dB;refine cC ⟨A.map fun r=>r.map enc,by rw [gF],by rw [aq]; lia,fun G5 q1 bs1 Xo=>?_⟩;refine cC ⟨B.map fun r=>r.map enc,by rw [gF],by rw [aq]; lia,fun G6 q2 bs2 zd=>?_⟩;refine⟨by decide,fun q3 f3=>?_⟩;have l4:ft G4 (eL G6 q3 (.lst [.ref q1,.ref q2])):=Xo.le.trans (zd.le.trans (.new f3));refine KH l4 ((Xo.le.trans zd.le).free f3) az (ss:=[enc A,enc B]) (.cons (RB Xo (.refl _) (zd.le.trans (.new f3))) (.cons (RB zd Xo.le (.new f3)) .nil)) ?_;rw [show D.dw [enc A,enc B]=enc [A,B] from rfl];refine⟨A,rfl,(show A.flatten.length<=500 by lia),JE.nq ⟨B,rfl,(show B.flatten.length<=500 by lia),JE.nq ?_⟩⟩;rw [nA,nB];simp only [↓cR];refine dW (fun τ G'=>G4=G'/\(s0+s1<=3/\(names A).length+(names B).length<=12)/\τ=[some (.dw (ns.map D.int)),some (.int c0),some (.ref p2),some (.int m),some (.ref p4),some (enc A),some (enc B),some (enc [A,B]),some (.int (((names A).length:Int)+((names B).length:Int))),none,none,none,none,none]) ?_ ?_
 ·intro N hN;have ref:(3 < A.length+B.length\/12 < (names A).length+(names B).length)->Bw (br jm (av (aX j6 (ar 7) (dC (.int 0))) (av (aX j6 (ar 7) (dC (.int 1))) aO))) (aX (y9 false) (ar 7) (iq (av (ar 5) (av (ar 6) aO)))) (fun _ _=>False) [some (.dw (ns.map D.int)),some (.int c0),some (.ref p2),some (.int m),some (.ref p4),some (enc A),some (enc B),some (enc [A,B]),some (.int (((names A).length:Int)+((names B).length:Int))),none,none,none,none,none] G4 (fun x G1=>OW G1 x Q):=fun hh=>by
   simp only [↓pT,br,av,aX,ar,↓ae,↓aa,dC,aO,iq,↓ah,↓aw];refine WG (WE ⟨A,B,rfl,⟨dA,dB,hh⟩,?_⟩);simp only [↓bQ,↓if_true];refine⟨by decide,fun p7 f7=>EV az (cC (q _))⟩
  simp only [gi,E5,↓du,aX,ar,↓ae,↓aa,dC,cb,cz,↓pT,br,av,aO,iq,↓ah,↓aw,dH,↓if_true,↓qr,↓bQ];rw [qp RK (a0 _ _),qp RK (a1 _ _)];simp only [↓cR,↓qr,↓bQ];by_cases c:(3:Int) < (s0:Int)+s1
  ·simp only [decide_eq_true c,↓if_true];exact ref (.inl (by lia))
  ·by_cases c2:(12:Int) < ((names A).length:Int)+((names B).length:Int)
   ·simp only [decide_eq_false c,↓au,decide_eq_true c2,↓if_true,↓if_false];exact ref (.inr (by lia))
   ·simp only [decide_eq_false c,↓au,decide_eq_false c2,↓if_false];exact hN _ _ ⟨rfl,by lia,rfl⟩
 rintro _ _ ⟨rfl,⟨hs,hn⟩,rfl⟩;have Ce:A.length+B.length<=3:=by lia
 obtain⟨dT,bT⟩:=Wi dA dB Ce hn;obtain⟨dD,bD⟩:=Sm dT fun r _=>D7 r;have rT:=sJ dT;have rD:=sJ dD;simp only [↓cu,bF,cz,aX,br,av,ar,↓ae,↓aa,dC,aO,ot,aI,↓ao,↓ai];refine⟨A,0,rfl,⟨dA,by lia⟩,?_⟩;refine⟨A,rfl,(show A.flatten.length<=500 by lia),JE.nq ?_⟩;rw [nA];simp only [↓cR];refine⟨B,(names A).length,by rw [show ((1:Int)+((names A).length:Int))=(((names A).length+1:Nat):Int) by lia],⟨dB,by lia⟩,?_⟩;refine t8 (IsL.enc _) (IsL.enc _) (CG (by simp only [aq]; lia)) fun p8 f8=>?_;rw [<-aN];refine i7 (xs:=two A B) (.new f8) f8 az ?_;refine dW (fun τ G'=>G4=G'/\τ=[some (.dw (ns.map D.int)),some (.int c0),some (.ref p2),some (.int m),some (.ref p4),some (enc A),some (enc B),some (enc [A,B]),some (.int (((names A).length:Int)+((names B).length:Int))),some (enc (two A B)),some (enc ((two A B).map fZ)),none,none,none]) ?_ ?_
 ·intro N hN;simp only [FP.lT,bF,gL,↓eQ,ar,↓ae,↓aa,aI,↓ao,↓ai];refine gU ⟨CG (by rw [aq]; have:=dT.str; lia),?_⟩;refine jB (xs:=two A B) (fun pr acc τ G2=>G4=G2/\(∃ a,τ=[a])/\acc=(pr.map fZ).map enc) ⟨rfl,⟨_,rfl⟩,rfl⟩ (fun _ _ _ _ _=>trivial) ?_ ?_
  ·rintro pr x po acc τ G2 N3 e2 ⟨rfl,⟨a,rfl⟩,rfl⟩ EH;simp only [aI,cz,br,av,ar,↓ai,↓aa,aO];have hx:x∈two A B:=by rw [e2]; simp
   refine⟨x,rfl,⟨by have:=rT x hx; lia,P8 dT x hx⟩,cC (EH _ _ _ ⟨rfl,⟨_,rfl⟩,?_⟩)⟩;rw [aN,aN]; rfl
  ·rintro acc τ G2 ⟨rfl,⟨a,rfl⟩,rfl⟩ p f;exact i7 (xs:=(two A B).map fZ) (.new f) f az (hN _ _ ⟨rfl,rfl⟩)
 rintro _ _ ⟨rfl,rfl⟩;have szD:((two A B).map fZ).length<=1000/\∀ x∈(two A B).map fZ,x.length<=1000:=⟨by have:=dD.str; lia,fun x hx=>by have:=rD x hx; lia⟩;simp only [↓cu,bF,br,av,cz,aX,ar,↓ae,↓aa,dC,aO,aI,↓ao,↓ai];refine WG (cC (WE (cC ⟨A,B,rfl,⟨dA,dB,Ce,hn⟩,fun p1 ZZ G1 hr1=>?_⟩)));refine dW (fun τ G'=>ft G1 G'/\τ=[some (.dw (ns.map D.int)),some (.int c0),some (.ref p2),some (.int m),some (.ref p4),some (enc A),some (enc B),some (enc [A,B]),some (.int (((names A).length:Int)+((names B).length:Int))),some (enc (two A B)),some (enc ((two A B).map fZ)),some (.ref p1),none,none]) ?_ ?_
 ·intro N hN;simp only [gi,E5,pR,↓du,↓w6,av,ar,↓ae,↓aa,aO,cb,cz,dC,dH,↓if_true,aX,iq,↓ah,↓aw];refine xX hr1 szD ?_;simp only [↓bQ,↓bK,↓au,↓if_false];refine⟨by decide,fun p7 f7=>EV az ?_⟩;simp only [↓bQ,↓if_true,↓au,↓if_false];exact hN _ _ ⟨.new f7,rfl⟩
 rintro _ G3 ⟨le3,rfl⟩;have hA:=Yo.ME hr1 le3;refine dW (fun τ G'=>ft G3 G'/\∃ x,τ=[some (.dw (ns.map D.int)),some (.int c0),some (.ref p2),some (.int m),some (.ref p4),some (enc A),some (enc B),some (enc [A,B]),some (.int (((names A).length:Int)+((names B).length:Int))),some (enc (two A B)),some (enc ((two A B).map fZ)),some (.ref p1),x,none]) ?_ ?_
 ·intro N hN;simp only [gi,↓du,aX,ar,↓ae,↓aa,dC,↓zA,↓bQ,↓cu,bF,aI,E5,pR,br,av,↓ao,↓ai,aO,cb,cz,dH,↓if_true];by_cases c6:((names A).length:Int)+((names B).length:Int) < 7
  ·simp only [c6,decide_true,↓w6,av,ar,↓ae,↓aa,aO,↓if_true];have tD:((two A B).map fZ).flatten.length<=12:=by
    rw [(JF.P9 fun r _=>D7 r).2.1.length_eq];unfold two;rw [Eo,Eo,cQ,aC,uf,uf,aq,aq]; lia
   refine wu hA dD tD fun T ZY=>?_;refine⟨_,T,rfl,⟨rfl,ZY.nd⟩,ZY.nz,?_⟩;simp only [↓bQ,↓bK,↓au,↓if_false];refine cC ⟨A,rfl,⟨dA,by lia⟩,fun TA bA=>cC (cC ⟨B,rfl,⟨dB,by lia⟩,fun TB bB=>cC ?_⟩)⟩;have n1:=So bA;have n2:=So bB;have lA1:lo A<=A.length:=dn _ _;have lB1:lo B<=B.length:=dn _ _;have pr:fF TA * fF TB<=2097152:=by
    refine bc (sx n1 n2) ?_;have e:8 ^ (names A).length * 2 ^ lo A * (8 ^ (names B).length * 2 ^ lo B)=8 ^ ((names A).length+(names B).length) * 2 ^ (lo A+lo B):=by
     rw [Nat.pow_add,Nat.pow_add,Nat.mul_mul_mul_comm]
    rw [e];refine bc (sx (fD (n:=8) (by decide) (show _<=6 by lia)) (fD (n:=2) (by decide) (show _<=3 by lia))) (by decide)
   have lt:TA.length * TB.length<=SZ:=bc (sx (xR bA.nz) (xR bB.nz)) (bc pr (by decide));refine⟨_,_,TA,TB,rfl,⟨rfl,bA.nd⟩,⟨rfl,bB.nd⟩,lt,⟨bA.big,bB.big⟩,fun p8 f8=>?_⟩;refine Qi (l:=T) (m:=iI TA TB) zq.kH (zq.ref az) ?_;have ee:zj T (iI TA TB)=true:=EW ZY.nd (Y.t9 _ _) ZY.nz (Y.AK _) fun g=>by
    rw [ZY.val,bD,bT,Y.BQ,<-bA.val];congr 1;funext i;show brk B (sh i g)=_;rw [<-bB.val];congr 1;funext j;show g (j+i)=g (i+j);rw [Tp]
   simp only [↓bQ,ee,↓bK,↓if_true,↓au,↓if_false];exact hN _ _ ⟨.new f8,_,rfl⟩
  ·simp only [c6,decide_false,↓au,↓if_false];exact hN _ _ ⟨.refl _,_,rfl⟩
 rintro _ G5 ⟨le5,x9,rfl⟩;have hB:=Yo.ME hA le5;have Lf:∀ a∈ZZ,∃ r:List T3,r.length<=24/\G5 a=some (.lst (r.map enc)):=fun a ha=>by
  obtain⟨r,hr,e⟩:=Ry hB ha;exact⟨r,rD r hr,e⟩
 refine dW (fun τ G'=>∃ x,τ=[some (.dw (ns.map D.int)),some (.int c0),some (.ref p2),some (.int m),some (.ref p4),some (enc A),some (enc B),some (enc [A,B]),some (.int (((names A).length:Int)+((names B).length:Int))),some (enc (two A B)),some (enc ((two A B).map fZ)),some (.ref p1),x9,x]) ?_ ?_
 ·intro N hN;simp only [eF,↓eQ,ar,↓ae,↓aa,MB,hB.gp];refine dq (xs:=ZZ) (f:=D.ref) (fun pre τ G'=>(∃ x,τ=[some (.dw (ns.map D.int)),some (.int c0),some (.ref p2),some (.int m),some (.ref p4),some (enc A),some (enc B),some (enc [A,B]),some (.int (((names A).length:Int)+((names B).length:Int))),some (enc (two A B)),some (enc ((two A B).map fZ)),some (.ref p1),x9,x])/\G' p1=some (.lst (ZZ.map D.ref))/\∀ (i a:Nat),pre.length<=i->ZZ[i]?=some a->∃ r:List T3,r.length<=24/\G' a=some (.lst (r.map enc))) ⟨⟨_,rfl⟩,hB.gp,fun i a _ h=>Lf a (cV h)⟩ (fun _ _ _ h=>h.2.1) ?_ ?_
  ·rintro pre b post τ G' N2 e ⟨⟨x,rfl⟩,gp,zf⟩ mH;have hb:ZZ[pre.length]?=some b:=by rw [e]; simp
   obtain⟨r,rl,gb⟩:=zf pre.length b (aE _) hb;simp only [aI,la,xq,ar,↓ao,↓ai,↓ae,↓aa,↓qk,gb,av,iD,dC,aO,↓ah,↓aw,↓kJ,↓true_and];refine⟨by decide,JL (by rw [aq]; lia),mH _ _ ⟨⟨_,rfl⟩,?_,fun i a h0 h1=>?_⟩⟩
   ·rw [cE (by rintro rfl; exact hB.np (cV hb))]; exact gp
   ·rw [aC,cx] at h0;have tm:a≠b:=by
     rintro rfl;have h3:=List.getElem?_eq_some_iff.mp h1;have h4:=List.getElem?_eq_some_iff.mp hb;exact List.pairwise_iff_getElem.mp hB.nd pre.length i h4.1 h3.1 (by lia) (h4.2.trans h3.2.symm)
    rw [cE tm];exact zf i a (by lia) h1
  ·rintro τ G' ⟨⟨x,rfl⟩,_⟩;exact hN _ _ ⟨_,rfl⟩
 rintro _ G8 ⟨x,rfl⟩;simp only [cb,cz,↓pT,aX,ar,↓ae,↓aa,iq,av,aO,↓ah,↓aw,↓w6,br,dC];refine⟨by decide,fun p7 f7=>EV az ?_⟩;simp only [↓bQ,↓au,↓if_false,↓if_true];refine WG (cC (WE (cC ⟨A,B,rfl,⟨dA,dB,Ce,hn⟩,fun p9 as9 G9 hr9=>?_⟩)));refine xX hr9 szD ?_;exact cC (q _)
end JG
end K2
end
namespace Fin
open PySem PySem.Spec PyProof.Rows L2 K2
open K2.JB
open K2.JF (iW uX iG yU)
open K2.JG
open K2.FO (dU xg)
open K2.Yo (pD DJ gw tO)
open K2.IH (gy tP eM rK)
open K2.P (gz tQ fY yT ju BN nP BH)
open K2.Y
theorem PY:lV ["_law_script","_law_shape","_law_strings","_law_most","_law_counts","_law_one","_law_other","_law_handed","_law_many","_law_made","_law_due","_law_found","_law_told","_law_row"] ["_law_script"] (bO (top 55)):=scm
section
variable {V:Th} (Y:Vc V)
include Y
theorem Bl (F:gZ V.K "_law_cell_at" (top 40)) (dZ:pe V.K "len"):gJ V 1 "_law_cell_at" ["_law_script","_law_k"] b0 :=
 qa ["_law_script","_law_k"] Y F BL fun hr nd=>have hu:=hr.units; have Zm:=hr.Jy; (aH (gB (eA (J7 Zm) (bo 1) (da eE rfl (Y.no dZ) i8 (jS (bo 0))) (fm _)) (aK (bN (aP (cI hu (bo 0) (bo 1) (fun _ _=>rfl))))) d0)
 (aK (bN (aP aL))))
theorem HS (F:gZ V.K "_law_free" (top 47)):gJ V 1 "_law_free" ["_law_names_here","_law_name"] jr :=
 qa ["_law_names_here","_law_name"] Y F tR fun hr nd=>have hu:=hr.units; (aH (NJ bh (eA (WZ hu) (bo 1) (bo 0) (by with_unfolding_all rfl)) (aK (lr (i:=1) nd rfl (bP cy (bP jI (bo 1) aL) aL))))
 (aK (bN (aP (bo 1)))))
theorem HQ (F:gZ V.K "_law_pick" (top 42)):gJ V 1 "_law_pick" ["_law_cell","_law_prime","_law_many"] dF :=
 qa ["_law_cell","_law_prime","_law_many"] Y F IE fun hr nd=>(aK (bN (aP (bP jI (bP jI (bP wb (bo 0) aL) (bo 1)) (bo 2)))))
theorem HU (F:gZ V.K "_law_copy" (top 46)) (uh:pe V.K "list"):gJ V 1 "_law_copy" ["_law_rows_here"] fi :=
 qa ["_law_rows_here"] Y F tS fun hr nd=>(aK (bN (aP (lZ ["_law_row"] (sc:=bO (top 46)) (XN:=["_law_rows_here"]) (eX (bo 0)) (fun _ _ _ _=>(kL (i:=0) (show (["_law_row"]:List Str).Nodup by decide +kernel) rfl)) (fun _ _ _ _=>.none) (fun _ _ _ _=>(vb La rfl (Y.no uh) M0 (jS (bo 0))))))))
theorem KP (F:gZ V.K "_law_put" (top 48)) (dZ:pe V.K "len") (qT:gJ V 1 "_law_copy" ["_law_rows_here"] fi):gJ V 2 "_law_put" ["_law_rows_here","_law_at","_law_place","_law_more"] nQ :=
 qa ["_law_rows_here","_law_at","_law_place","_law_more","_law_made"] Y F Lm fun hr nd=>have hu:=hr.units; (aH (lr (i:=4) nd rfl (jR qT hr (jS (bo 0))))
 (aH (lr (i:=2) nd rfl (bP jI (bo 2) (bP cy (da eE rfl (Y.no dZ) i8 (jS (cI hu (bo 4) (bo 1) (fun _ _=>rfl)))) aL)))
 (aH (gH (bP cy (bP cy (gP (cI hu (bo 4) (bo 1) (fun _ _=>rfl)) kc (gT (bo 2))) (bo 3)) (gP (cI hu (bo 4) (bo 1) (fun _ _=>rfl)) (gT (bo 2)) kc)) (hV hu (bo 4) (bo 1)))
 (aK (bN (aP (bo 4)))))))
theorem Bk (F:gZ V.K "_law_drawing" (top 49)) (kd:pe V.K "range") (Le:gJ V 1 "_law_free" ["_law_names_here","_law_name"] jr) (qS:gJ V 1 "_law_pick" ["_law_cell","_law_prime","_law_many"] dF) (OG:gJ V 2 "_law_put" ["_law_rows_here","_law_at","_law_place","_law_more"] nQ):gJ V 3 "_law_drawing" ["_law_cells","_law_strings","_law_spread"] jt :=
 qa ["_law_cells","_law_strings","_law_spread","_law_rows_here","_law_names_here","_law_cell","_law_name","_law_hand","_law_way","_law_prime","_law_place"] Y F BK fun hr nd=>(aH (zB (v9 ["_law_k"] (sc:=bO (top 49)) (XN:=["_law_cells","_law_strings","_law_spread","_law_rows_here","_law_names_here","_law_cell","_law_name","_law_hand","_law_way","_law_prime","_law_place"]) (i:=3) nd rfl rfl (qv rfl (Y.no kd) (bo 1)) (fun _ _ _ _=>(kL (i:=0) (show (["_law_k"]:List Str).Nodup by decide +kernel) rfl)) (fun _ _ _ _=>.none) (fun _ _ _ _=>(fO hW))))
 (aH (lr (i:=4) nd rfl (fO hW))
 (aH (cS bh rfl (eX (bo 0)) (kL (i:=5) nd rfl) (aH (lr (i:=6) nd rfl (jR Le hr (lu (bo 4) (bP cy aL (jR qS hr (Ca (bo 5) aL (bo 2)))))))
 (aH (nV (lH gv lj lh pC qE (bo 4) (jS (bo 6))))
 (aH (lr (i:=7) nd rfl (bP Mk aL (bP wb aL (jR qS hr (Ca (bo 5) aL aL)))))
 (aK (cS bh rfl (qv rfl (Y.no kd) aL) (kL (i:=8) nd rfl) (aH (lr (i:=9) nd rfl (bP cy aL (bP wb aL (bo 8))))
 (aH (lr (i:=10) nd rfl (jR qS hr (Ca (bo 5) (bP cy aL (bP wb aL (bo 8))) aL)))
 (aK (lr (i:=3) nd rfl (aP (jR OG hr (jw (aP (bo 3)) (Ca (aP (jR qS hr (Ca (bo 5) (bo 9) (bo 1)))) (aP (bo 10)) (aP (fO (jS (eN (Ca (bo 6) (bo 8) (bo 7))))))))))))))))))))
 (aK (bN (aP (bo 3)))))))
theorem EN (F:gZ V.K "_law_names" (top 50)):gJ V 1 "_law_names" ["_law_rows_here"] dU :=
 qa ["_law_rows_here","_law_names_here","_law_row","_law_passing"] Y F xg fun hr nd=>have hu:=hr.units; (aH (lr (i:=1) nd rfl (fO hW))
 (aH (cS bh rfl (eX (bo 0)) (kL (i:=2) nd rfl) (aK (cS bh rfl (eX (bo 2)) (kL (i:=3) nd rfl) (aK (gB (eA (o4 hu) (cI hu (bo 3) aL (fun _ _=>rfl)) aL (fm _)) (aK (nV (lH gv lj lh pC qE (bo 1) (jS (cI hu (bo 3) aL (fun _ _=>rfl)))))) d0)))))
 (aK (bN (aP (bo 1))))))
theorem Bh (F:gZ V.K "passings_of" (top 8)):gJ V 1 "passings_of" ["rows"] gz :=
 qa ["rows","passings","row"] Y F tQ fun hr nd=>(aH (lr (i:=1) nd rfl (fO hW))
 (aH (cS bh rfl (eX (bo 0)) (kL (i:=2) nd rfl) (aK (nV (lH gv PySem.F.slot_list_extend PySem.F.type_list_extend pC Ke (bo 1) (jS (bo 2))))))
 (aK (bN (aP (bo 1))))))
theorem HM (F:gZ V.K "names_of" (top 11)) (jJ:pe V.K "sorted") (o9:gJ V 1 "passings_of" ["rows"] gz):gJ V 2 "names_of" ["drawing"] fY :=
 qa ["drawing"] Y F yT fun hr nd=>have hu:=hr.units; (aK (bN (aP (da (qR rfl hu) rfl (Y.no jJ) yk (jS (lZ ["passing"] (sc:=bO (top 11)) (XN:=["drawing"]) (eX (jR o9 hr (jS (bo 0)))) (fun _ _ _ _=>(kL (i:=0) (show (["passing"]:List Str).Nodup by decide +kernel) rfl)) (fun _ _ _ _=>(.some (eA (o4 hu) (cI hu (bo 0) aL (fun _ _=>rfl)) aL (fm _)))) (fun _ _ _ _=>(cI hu (bo 0) aL (fun _ _=>rfl)))))))))
theorem EK (F:gZ V.K "numbering" (top 16)) (qy:pe V.K "enumerate") (vp:gJ V 2 "names_of" ["drawing"] fY):gJ V 3 "numbering" ["drawing","start"] gS :=
 qa ["drawing","start","numbers","number","name"] Y F Fx fun hr nd=>have hu:=hr.units; (aH (lr (i:=2) nd rfl kX)
 (aH (cS bh rfl (NO rfl (Y.no qy) (jR vp hr (jS (bo 0))) (bP cy (bo 1) aL)) (iJ rfl (bY (kL (i:=3) nd rfl) (bY (kL (i:=4) nd rfl) gC)) (bZ (bZ gE))) (aK (gH (bo 3) (hV hu (bo 2) (bo 4)))))
 (aK (bN (aP (bo 2))))))
theorem zh (F:gZ V.K "refuse_many" (top 15)) {gj:Addr} (fM:V4 V.K "TooMany" gj) {jj:Tok} (gQ:cG V.K bz "MOST_STRINGS" = some (some (.int 3 jj))) {ib:Tok} (fQ:cG V.K bz "MOST_CROSSINGS" = some (some (.int 12 ib))):CEZ V 1 "refuse_many" ["strings","crossings"] ku :=
 foE ["strings","crossings"] Y F zk fun hr nd=>(aK (gB (Pe.pt (sW (eA xQ (bo 0) (oO rfl (Y.mg gQ)) (fm _)) (qt (eA xQ (bo 1) (oO rfl (Y.mg fQ)) (fm _))))) (aK (NK rfl (Y.mg fM.ns) fM.ex PySem.F.excBase_ValueError rfl (jS Ub))) d0))
theorem KS (F:gZ V.K "beside" (top 19)) (dZ:pe V.K "len") (mj:gJ V 3 "numbering" ["drawing","start"] gS) (BA:CEZ V 1 "refuse_many" ["strings","crossings"] ku):CEZ V 4 "beside" ["one","other"] qo :=
 foE ["one","other","names","other_names"] Y F Lo fun hr nd=>(aH (lr (i:=2) nd rfl (aP (jR mj hr (lu (bo 0) aL))))
 (aH (lr (i:=3) nd rfl (aP (jR mj hr (lu (bo 1) (da eE rfl (Y.no dZ) i8 (jS (bo 2)))))))
 (aH (nV (BA.el fun _ _ q=>NQ q.ok (hr.mono (by decide)) rfl q.mg q.kp q.bi (lu (bP cy (da eE rfl (Y.no dZ) i8 (jS (bo 0))) (da eE rfl (Y.no dZ) i8 (jS (bo 1)))) (bP cy (da eE rfl (Y.no dZ) i8 (jS (bo 2))) (da eE rfl (Y.no dZ) i8 (jS (bo 3)))))))
 (aK xM))))
theorem Bi (F:gZ V.K "_law_refused" (top 54)) (cT:pe V.K "isinstance") {gj:Addr} (fM:V4 V.K "TooMany" gj) {eS:Addr} (kA:V4 V.K "NoString" eS) {dQ:Addr} (ji:V4 V.K "KnotError" dQ) (kC:subIn V.K gj (.ref gj)=true) (tj:Kn0 V.K eS) (qL:Kn0 V.K dQ) (j3:Kt V.K gj eS false) (jy:Kt V.K eS eS true) (i6:Kt V.K dQ eS false) (jx:Kt V.K gj dQ true) (i5:Kt V.K eS dQ true) (iL:Kt V.K dQ dQ true) (OI:CEZ V 4 "beside" ["one","other"] qo):gJ V 5 "_law_refused" ["_law_one","_law_other"] jm :=
 qa ["_law_one","_law_other","_law_told","e"] Y F BI fun hr nd=>have hu:=hr.units; (aH (lr (i:=2) nd rfl (fO hW))
 (aH (OI.el fun _ _ q=>TZ ⟨rfl,rfl,rfl⟩ ⟨nd,rfl,rfl,rfl,(Y.mg fM.ns),⟨_,_,fM.ex,rfl⟩,(og ⟨_,_,_,fM.ns,fM.ex,kC⟩ Fc)⟩ q.ok (hr.mono (by decide)) rfl q.mg q.kp q.bi (fun EX=>(lu (bo 0) (bo 1))) (fun v=>(aK (lr (i:=2) nd rfl (fO (lu (GN DS rfl (Y.no cT) rfl (Y.mg ji.ns) qL (og ⟨_,fM.ns,jx,fM.xi⟩ (og ⟨_,kA.ns,i5,kA.xi⟩ (og ⟨_,ji.ns,iL,ji.xi⟩ Fc))) (bo 3)) (GN DS rfl (Y.no cT) rfl (Y.mg kA.ns) tj (og ⟨_,fM.ns,j3,fM.xi⟩ (og ⟨_,kA.ns,jy,kA.xi⟩ (og ⟨_,ji.ns,i6,ji.xi⟩ Fc))) (bo 3))))))))
 (aK (bN (aP (Eh (o4 hu) (bo 2) (fO (lu o3 o3)) (fm _)))))))
theorem zi (F:gZ V.K "_law_numbered" (top 53)) (dZ:pe V.K "len") (jJ:pe V.K "sorted") (ml:gJ V 1 "_law_names" ["_law_rows_here"] dU):gJ V 2 "_law_numbered" ["_law_rows_here","_law_begin"] iQ :=
 qa ["_law_rows_here","_law_begin","_law_numbers","_law_name","_law_made","_law_row"] Y F zo fun hr nd=>have hu:=hr.units; (aH (lr (i:=2) nd rfl kX)
 (aH (cS bh rfl (eX (da (qR rfl hu) rfl (Y.no jJ) yk (jS (jR ml hr (jS (bo 0)))))) (kL (i:=3) nd rfl) (aK (gH (bP cy (bo 1) (da eE rfl (Y.no dZ) i8 (jS (bo 2)))) (hV hu (bo 2) (bo 3)))))
 (aH (lr (i:=4) nd rfl (fO hW))
 (aH (cS bh rfl (eX (bo 0)) (kL (i:=5) nd rfl) (aK (nV (lH gv lj lh pC qE (bo 4) (jS (aP (lZ ["_law_name","_law_way","_law_hand","_law_numbers"] (sc:=bO (top 53)) (XN:=["_law_rows_here","_law_begin","_law_numbers","_law_name","_law_made","_law_row"]) (eX (bo 5)) (fun _ _ _ _=>(iJ rfl (bY (kL (i:=0) (show (["_law_name","_law_way","_law_hand","_law_numbers"]:List Str).Nodup by decide +kernel) rfl) (bY (kL (i:=1) (show (["_law_name","_law_way","_law_hand","_law_numbers"]:List Str).Nodup by decide +kernel) rfl) (bY (kL (i:=2) (show (["_law_name","_law_way","_law_hand","_law_numbers"]:List Str).Nodup by decide +kernel) rfl) gC))) (bZ (bZ (bZ gE))))) (fun _ _ _ _=>.none) (fun _ _ _ _=>(eN (Ca (cI hu (bo 3) (bo 0) (fun _ _=>rfl)) (bo 1) (bo 2)))))))))))
 (aK (bN (aP (bo 4))))))))
theorem Ci (F:gZ V.K "_law_seated" (top 51)) (dZ:pe V.K "len") (kd:pe V.K "range"):gJ V 1 "_law_seated" ["_law_row"] iW :=
 qa ["_law_row","_law_at","_law_k"] Y F uX fun hr nd=>have hu:=hr.units; (aH (gB (eA (o4 hu) (bo 0) (fO hW) (fm _)) (aK (bN (aP (fO hW)))) d0)
 (aH (lr (i:=1) nd rfl aL)
 (aH (cS bh rfl (qv rfl (Y.no kd) (da eE rfl (Y.no dZ) i8 (jS (bo 0)))) (kL (i:=2) nd rfl) (aK (gB (eA (Uk hu) (eN (lu (cI hu (cI hu (bo 0) (bo 2) (fun _ _=>rfl)) aL (fun _ _=>rfl)) (cI hu (cI hu (bo 0) (bo 2) (fun _ _=>rfl)) aL (fun _ _=>rfl)))) (eN (lu (cI hu (cI hu (bo 0) (bo 1) (fun _ _=>rfl)) aL (fun _ _=>rfl)) (cI hu (cI hu (bo 0) (bo 1) (fun _ _=>rfl)) aL (fun _ _=>rfl)))) (fm _)) (aK (lr (i:=1) nd rfl (bo 2))) d0)))
 (aK (bN (aP (bP cy (gP (bo 0) (gT (bo 1)) kc) (gP (bo 0) kc (gT (bo 1))))))))))
theorem Bg (F:gZ V.K "refuse_many" (top 15)) {jj:Tok} (gQ:cG V.K bz "MOST_STRINGS" = some (some (.int 3 jj))) {ib:Tok} (fQ:cG V.K bz "MOST_CROSSINGS" = some (some (.int 12 ib))):gJ V 1 "refuse_many" ["strings","crossings"] kR :=
 qa ["strings","crossings"] Y F BG fun hr nd=>(aK (gB (Pe.pt (sW (eA xQ (bo 0) (oO rfl (Y.mg gQ)) (fm _)) (qt (eA xQ (bo 1) (oO rfl (Y.mg fQ)) (fm _))))) (aK xM) d0))
theorem Ot (F:gZ V.K "seated" (top 9)) (Ka:pe V.K "min"):gJ V 1 "seated" ["row"] pD :=
 qa ["row","start"] Y F DJ fun hr nd=>have hu:=hr.units; (aH (gB (ng (iX (bo 0))) (aK (bN (aP (fO hW)))) d0)
 (aH (lr (i:=1) nd rfl (lH gv Jn PySem.F.type_list_index pC (NU hu) (bo 0) (jS (da (OD rfl hu) rfl (Y.no Ka) XT (jS (bo 0))))))
 (aK (bN (aP (bP cy (gP (bo 0) (gT (bo 1)) kc) (gP (bo 0) kc (gT (bo 1)))))))))
theorem Be (F:gZ V.K "seated_rows" (top 10)) (R8:gJ V 1 "seated" ["row"] pD):gJ V 2 "seated_rows" ["rows"] gw :=
 qa ["rows"] Y F tO fun hr nd=>(aK (bN (aP (lZ ["row"] (sc:=bO (top 10)) (XN:=["rows"]) (eX (bo 0)) (fun _ _ _ _=>(kL (i:=0) (show (["row"]:List Str).Nodup by decide +kernel) rfl)) (fun _ _ _ _=>.none) (fun _ _ _ _=>(jR R8 hr (jS (bo 0))))))))
theorem Bf (F:gZ V.K "renamed_row" (top 17)):gJ V 1 "renamed_row" ["row","names"] gy :=
 qa ["row","names"] Y F tP fun hr nd=>have hu:=hr.units; (aK (bN (aP (lZ ["name","way","hand","names"] (sc:=bO (top 17)) (XN:=["row","names"]) (eX (bo 0)) (fun _ _ _ _=>(iJ rfl (bY (kL (i:=0) (show (["name","way","hand","names"]:List Str).Nodup by decide +kernel) rfl) (bY (kL (i:=1) (show (["name","way","hand","names"]:List Str).Nodup by decide +kernel) rfl) (bY (kL (i:=2) (show (["name","way","hand","names"]:List Str).Nodup by decide +kernel) rfl) gC))) (bZ (bZ (bZ gE))))) (fun _ _ _ _=>.none) (fun _ _ _ _=>(eN (Ca (cI hu (bo 3) (bo 0) (fun _ _=>rfl)) (bo 1) (bo 2))))))))
theorem zg (F:gZ V.K "renamed_rows" (top 18)) (Cp:gJ V 1 "renamed_row" ["row","names"] gy):gJ V 2 "renamed_rows" ["drawing","names"] eM :=
 qa ["drawing","names"] Y F rK fun hr nd=>(aK (bN (aP (lZ ["row","names"] (sc:=bO (top 18)) (XN:=["drawing","names"]) (eX (bo 0)) (fun _ _ _ _=>(kL (i:=0) (show (["row","names"]:List Str).Nodup by decide +kernel) rfl)) (fun _ _ _ _=>.none) (fun _ _ _ _=>(jR Cp hr (lu (bo 0) (bo 1))))))))
theorem Ox (F:gZ V.K "beside" (top 19)) (dZ:pe V.K "len") (mj:gJ V 3 "numbering" ["drawing","start"] gS) (Cq:gJ V 1 "refuse_many" ["strings","crossings"] kR) (Co:gJ V 2 "seated_rows" ["rows"] gw) (tJ:gJ V 2 "renamed_rows" ["drawing","names"] eM):gJ V 4 "beside" ["one","other"] pE :=
 qa ["one","other","names","other_names"] Y F OS fun hr nd=>(aH (lr (i:=2) nd rfl (aP (jR mj hr (lu (bo 0) aL))))
 (aH (lr (i:=3) nd rfl (aP (jR mj hr (lu (bo 1) (da eE rfl (Y.no dZ) i8 (jS (bo 2)))))))
 (aH (nV (jR Cq hr (lu (bP cy (da eE rfl (Y.no dZ) i8 (jS (bo 0))) (da eE rfl (Y.no dZ) i8 (jS (bo 1)))) (bP cy (da eE rfl (Y.no dZ) i8 (jS (bo 2))) (da eE rfl (Y.no dZ) i8 (jS (bo 3)))))))
 (aK (bN (aP (jR Co hr (jS (aP (bP cy (jR tJ hr (lu (aP (bo 0)) (aP (bo 2)))) (jR tJ hr (lu (aP (bo 1)) (aP (bo 3))))))))))))))
theorem EL (F:gZ V.K "_law_whole" (top 41)) (Ep:pe V.K "bool") (Kb:pe V.K "int") (cT:pe V.K "isinstance"):gJ V 1 "_law_whole" ["_law_found"] cP :=
 qa ["_law_found"] Y F Fy fun hr nd=>(aK (bN (aP (Ei (zC "int" (by decide) rfl (Y.no cT) rfl (Y.no Kb) XU (bo 0)) (Eg (Uc (zC "bool" (by decide) rfl (Y.no cT) rfl (Y.no Ep) U0 (bo 0))))))))
theorem HN (F:gZ V.K "_law_rows" (top 52)) (cT:pe V.K "isinstance") (uh:pe V.K "list") (oR:gJ V 1 "_law_whole" ["_law_found"] cP):gJ V 2 "_law_rows" ["_law_found","_law_due"] iG :=
 qa ["_law_found","_law_due","_law_row","_law_passing","_law_number"] Y F yU fun hr nd=>have hu:=hr.units; (aH (gB (Pe.pt (sW (ng (iX (zC "list" (by decide) rfl (Y.no cT) rfl (Y.no uh) M0 (bo 0)))) (qt (eA (Em hu) (bo 0) (bo 1) (fm _))))) (aK (bN (aP o3))) d0)
 (aH (cS bh rfl (eX (bo 0)) (kL (i:=2) nd rfl) (aK (cS bh rfl (eX (bo 2)) (kL (i:=3) nd rfl) (aK (cS bh rfl (eX (bo 3)) (kL (i:=4) nd rfl) (aK (gB (ng (iX (jR oR hr (jS (bo 4))))) (aK (bN (aP o3))) d0)))))))
 (aK (bN (aP o3)))))
theorem KQ (F:gZ V.K "hand_of" (top 12)) (o9:gJ V 1 "passings_of" ["rows"] gz):gJ V 2 "hand_of" ["drawing","name"] ju :=
 qa ["drawing","name","passing"] Y F BN fun hr nd=>have hu:=hr.units; (aH (cS bh rfl (eX (jR o9 hr (jS (bo 0)))) (kL (i:=2) nd rfl) (aK (gB (eA (o4 hu) (cI hu (bo 2) aL (fun _ _=>rfl)) (bo 1) (fm _)) (aK (bN (aP (cI hu (bo 2) aL (fun _ _=>rfl))))) d0)))
 (aK xM))
theorem KO (F:gZ V.K "next_of" (top 13)) (xT:pe V.K "zip"):gJ V 1 "next_of" ["drawing"] nP :=
 qa ["drawing","behind","row","passing","follower"] Y F BH fun hr nd=>have hu:=hr.units; (aH (lr (i:=1) nd rfl kX)
 (aH (cS bh rfl (eX (bo 0)) (kL (i:=2) nd rfl) (aK (cS bh rfl (Mg rfl (Y.no xT) (bo 2) (bP cy (gP (bo 2) (gT aL) kc) (gP (bo 2) kc (gT aL)))) (iJ rfl (bY (kL (i:=3) nd rfl) (bY (kL (i:=4) nd rfl) gC)) (bZ (bZ gE))) (aK (gH (gP (bo 4) kc (gT aL)) (hV hu (bo 1) (gP (bo 3) kc (gT aL))))))))
 (aK (bN (aP (bo 1))))))
theorem KN (F:gZ V.K "plan_of" (top 32)) (jJ:pe V.K "sorted") (AV:pe V.K "tuple"):gJ V 1 "plan_of" ["far"] lG :=
 qa ["far"] Y F Ll fun hr nd=>have hu:=hr.units; have Zm:=hr.Jy; (aK (bN (aP (vb Im rfl (Y.no AV) Sj (jS (da (qR rfl hu) rfl (Y.no jJ) yk (jS (lZ ["end","far"] (sc:=bO (top 32)) (XN:=["far"]) (sY (bo 0)) (fun _ _ _ _=>(kL (i:=0) (show (["end","far"]:List Str).Nodup by decide +kernel) rfl)) (fun _ _ _ _=>(.some (eA (J7 Zm) (bo 0) (cI hu (bo 1) (bo 0) (fun _ _=>rfl)) (fm _)))) (fun _ _ _ _=>(eN (lu (bo 0) (cI hu (bo 1) (bo 0) (fun _ _=>rfl)))))))))))))
theorem HV (F:gZ V.K "far_ends" (top 34)):gJ V 1 "far_ends" ["threads"] kG :=
 qa ["threads","far","one","other"] Y F IF fun hr nd=>have hu:=hr.units; (aH (lr (i:=1) nd rfl kX)
 (aH (cS bh rfl (eX (bo 0)) (iJ rfl (bY (kL (i:=2) nd rfl) (bY (kL (i:=3) nd rfl) gC)) (bZ (bZ gE))) (aH (gH (bo 3) (hV hu (bo 1) (bo 2)))
 (aK (gH (bo 2) (hV hu (bo 1) (bo 3))))))
 (aK (bN (aP (bo 1))))))
theorem Cg (F:gZ V.K "whole_plan" (top 33)) (OF:gJ V 1 "next_of" ["drawing"] nP) (yi:gJ V 1 "plan_of" ["far"] lG) (vq:gJ V 1 "far_ends" ["threads"] kG):gJ V 2 "whole_plan" ["drawing"] lP :=
 qa ["drawing","threads"] Y F Cv fun hr nd=>(aH (v9 ["spot","after"] (sc:=bO (top 33)) (XN:=["drawing","threads"]) (i:=1) nd rfl rfl (J0 (jR OF hr (jS (bo 0)))) (fun _ _ _ _=>(iJ rfl (bY (kL (i:=0) (show (["spot","after"]:List Str).Nodup by decide +kernel) rfl) (bY (kL (i:=1) (show (["spot","after"]:List Str).Nodup by decide +kernel) rfl) gC)) (bZ (bZ gE)))) (fun _ _ _ _=>.none) (fun _ _ _ _=>(eN (lu (bP cy (bo 0) (eN (jS aL))) (bP cy (bo 1) (eN (jS aL)))))))
 (aK (bN (aP (jR yi hr (jS (aP (jR vq hr (jS (bo 1))))))))))
theorem vj (F:gZ V.K "without_noughts" (top 22)):gJ V 1 "without_noughts" ["sums"] dc :=
 qa ["sums","kept","power","number"] Y F vw fun hr nd=>have hu:=hr.units; (aH (lr (i:=1) nd rfl kX)
 (aH (cS bh rfl (pF (bo 0)) (iJ rfl (bY (kL (i:=2) nd rfl) (bY (kL (i:=3) nd rfl) gC)) (bZ (bZ gE))) (aK (gB (eA (Em hu) (bo 3) aL (fm _)) (aK (gH (bo 3) (hV hu (bo 1) (bo 2)))) d0)))
 (aK (bN (aP (bo 1))))))
theorem RO (F:gZ V.K "times" (top 24)) (gW:gJ V 1 "without_noughts" ["sums"] dc):gJ V 2 "times" ["one","other"] jl :=
 qa ["one","other","sums","power","number","other_power","other_number","both"] Y F Sy fun hr nd=>have hu:=hr.units; (aH (lr (i:=2) nd rfl kX)
 (aH (cS bh rfl (pF (bo 0)) (iJ rfl (bY (kL (i:=3) nd rfl) (bY (kL (i:=4) nd rfl) gC)) (bZ (bZ gE))) (aK (cS bh rfl (pF (bo 1)) (iJ rfl (bY (kL (i:=5) nd rfl) (bY (kL (i:=6) nd rfl) gC)) (bZ (bZ gE))) (aH (lr (i:=7) nd rfl (bP cy (bo 3) (bo 5)))
 (aK (gH (bP cy (lH cH fT jV nO Eu (bo 2) (lu (bo 7) aL)) (bP AN (bo 4) (bo 6))) (hV hu (bo 2) (bo 7))))))))
 (aK (bN (aP (jR gW hr (jS (aP (bo 2)))))))))
theorem Ou (F:gZ V.K "raised" (top 26)) (kd:pe V.K "range") (Fg:gJ V 2 "times" ["one","other"] jl):gJ V 3 "raised" ["one","count"] iV :=
 qa ["one","count","product","step"] Y F OP fun hr nd=>(aH (lr (i:=2) nd rfl (Qw aL aL))
 (aH (cS bh rfl (qv rfl (Y.no kd) (bo 1)) (kL (i:=3) nd rfl) (aK (lr (i:=2) nd rfl (jR Fg hr (lu (aP (bo 2)) (aP (bo 0)))))))
 (aK (bN (aP (bo 2))))))
theorem Bm (F:gZ V.K "joined_plan" (top 35)) (vq:gJ V 1 "far_ends" ["threads"] kG) (yi:gJ V 1 "plan_of" ["far"] lG):gJ V 2 "joined_plan" ["plan","pairs"] kT :=
 qa ["plan","pairs","far","closed","one","other","before","after"] Y F BM fun hr nd=>have hu:=hr.units; (aH (lr (i:=2) nd rfl (jR vq hr (jS (bo 0))))
 (aH (lr (i:=3) nd rfl aL)
 (aH (cS bh rfl (eX (bo 1)) (iJ rfl (bY (kL (i:=4) nd rfl) (bY (kL (i:=5) nd rfl) gC)) (bZ (bZ gE))) (aH (lr (i:=6) nd rfl (lH cH uZ Nf nO (GZ hu) (bo 2) (jS (bo 4))))
 (aH (lr (i:=7) nd rfl (lH cH uZ Nf nO (GZ hu) (bo 2) (jS (bo 5))))
 (aK (gB (eA (o4 hu) (bo 6) (bo 5) (fm _)) (aK (lr (i:=3) nd rfl (bP cy (bo 3) aL))) (aH (gH (bo 7) (hV hu (bo 2) (bo 6)))
 (aK (gH (bo 6) (hV hu (bo 2) (bo 7))))))))))
 (aK (bN (aP (eN (lu (jR yi hr (jS (aP (bo 2)))) (bo 3)))))))))
theorem Ow (F:gZ V.K "joints" (top 30)) {qm:Tok} (lb:cG V.K bz "ALONG" = some (some (.int 0 qm))):gJ V 1 "joints" ["name","split"] t4 :=
 qa ["name","split"] Y F OR fun hr nd=>have hu:=hr.units; (aH (gB (eA (o4 hu) (bo 1) (oO rfl (Y.mg lb)) (fm _)) (aK (bN (aP (fO (lu (eN (lu (eN (Ca (bo 0) aL aL)) (eN (Ca (bo 0) aL aL)))) (eN (lu (eN (Ca (bo 0) aL aL)) (eN (Ca (bo 0) aL aL))))))))) d0)
 (aK (bN (aP (fO (lu (eN (lu (eN (Ca (bo 0) aL aL)) (eN (Ca (bo 0) aL aL)))) (eN (lu (eN (Ca (bo 0) aL aL)) (eN (Ca (bo 0) aL aL))))))))))
theorem KL (F:gZ V.K "shifted" (top 25)) (gW:gJ V 1 "without_noughts" ["sums"] dc):gJ V 2 "shifted" ["one","by","factor"] iH :=
 qa ["one","by","factor","sums","power","number"] Y F Lj fun hr nd=>have hu:=hr.units; (aH (lr (i:=3) nd rfl kX)
 (aH (cS bh rfl (pF (bo 0)) (iJ rfl (bY (kL (i:=4) nd rfl) (bY (kL (i:=5) nd rfl) gC)) (bZ (bZ gE))) (aK (gH (bP AN (bo 5) (bo 2)) (hV hu (bo 3) (bP cy (bo 4) (bo 1))))))
 (aK (bN (aP (jR gW hr (jS (aP (bo 3)))))))))
theorem HK (F:gZ V.K "power_at" (top 31)) {qm:Tok} (lb:cG V.K bz "ALONG" = some (some (.int 0 qm))):gJ V 1 "power_at" ["hand","split"] oI :=
 qa ["hand","split"] Y F IC fun hr nd=>have hu:=hr.units; (aK (bN (aP (WR (eA (o4 hu) (bo 1) (oO rfl (Y.mg lb)) (fm _)) (bo 0) (WQ Tv (bo 0))))))
theorem RP (F:gZ V.K "added" (top 23)) (no_dict:pe V.K "dict") (gW:gJ V 1 "without_noughts" ["sums"] dc):gJ V 2 "added" ["one","other"] lY :=
 qa ["one","other","sums","power","number"] Y F Sz fun hr nd=>have hu:=hr.units; (aH (lr (i:=2) nd rfl (vb Lb rfl (Y.no no_dict) Fm (jS (bo 0))))
 (aH (cS bh rfl (pF (bo 1)) (iJ rfl (bY (kL (i:=3) nd rfl) (bY (kL (i:=4) nd rfl) gC)) (bZ (bZ gE))) (aK (gH (bP cy (lH cH fT jV nO Eu (bo 2) (lu (bo 3) aL)) (bo 4)) (hV hu (bo 2) (bo 3)))))
 (aK (bN (aP (jR gW hr (jS (aP (bo 2)))))))))
theorem EJ (F:gZ V.K "opened_at" (top 36)) (no_dict:pe V.K "dict") {xF:Tok} (vm:cG V.K bz "AGAINST" = some (some (.int 1 xF))) {qm:Tok} (lb:cG V.K bz "ALONG" = some (some (.int 0 qm))) {nZ:Addr} (uk:cG V.K bz "LOOP" = some (some (.ref nZ))) (uj:(nZ == dh)=false) (um:Dy V.K nZ [(2,-1),(-2,-1)]=true) (Ct:gJ V 2 "joined_plan" ["plan","pairs"] kT) (Sa:gJ V 1 "joints" ["name","split"] t4) (OE:gJ V 2 "shifted" ["one","by","factor"] iH) (Lc:gJ V 1 "power_at" ["hand","split"] oI) (Fg:gJ V 2 "times" ["one","other"] jl) (BB:gJ V 3 "raised" ["one","count"] iV) (UX:gJ V 2 "added" ["one","other"] lY):gJ V 4 "opened_at" ["sums","name","hand"] mZ :=
 qa ["sums","name","hand","after","plan","poly","split","made","part","kept"] Y F Fw fun hr nd=>have hu:=hr.units; (aH (lr (i:=3) nd rfl Mh)
 (aH (zB (cS bh rfl (AG (bo 0)) (iJ rfl (bY (kL (i:=4) nd rfl) (bY (kL (i:=5) nd rfl) gC)) (bZ (bZ gE))) (aK (cS bh rfl (eX (eN (lu (oO rfl (Y.mg lb)) (oO rfl (Y.mg vm))))) (kL (i:=6) nd rfl) (aH (lr (i:=7) nd rfl (jR Ct hr (lu (bo 4) (jR Sa hr (lu (bo 1) (bo 6))))))
 (aH (lr (i:=8) nd rfl (jR OE hr (Ca (aP (jR Fg hr (lu (aP (bo 5)) (aP (jR BB hr (lu (aP (CS rfl (Y.no no_dict) rfl (Y.mg uk) uj um (by decide) (by decide))) (aP (cI hu (bo 7) aL (fun _ _=>rfl))))))))) (aP (jR Lc hr (lu (bo 2) (bo 6)))) (aP aL))))
 (aK (gH (aP (jR UX hr (lu (aP (lH cH fT jV LL (Ha hu) (bo 3) (lu (aP (cI hu (bo 7) aL (fun _ _=>rfl))) (aP kX)))) (aP (bo 8))))) (GL hu (bo 3) (cI hu (bo 7) aL (fun _ _=>rfl)))))))))))
 (aH (lr (i:=9) nd rfl Mh)
 (aH (zB (cS bh rfl (AG (bo 3)) (iJ rfl (bY (kL (i:=4) nd rfl) (bY (kL (i:=5) nd rfl) gC)) (bZ (bZ gE))) (aK (gB (iX (bo 5)) (aK (gH (aP (bo 5)) (GL hu (bo 9) (bo 4)))) d0))))
 (aK (bN (aP (bo 9))))))))
theorem Ov (F:gZ V.K "opened" (top 37)) (no_dict:pe V.K "dict") (dZ:pe V.K "len") (xT:pe V.K "zip") {nZ:Addr} (uk:cG V.K bz "LOOP" = some (some (.ref nZ))) (uj:(nZ == dh)=false) (um:Dy V.K nZ [(2,-1),(-2,-1)]=true) (OH:gJ V 2 "hand_of" ["drawing","name"] ju) (Ff:gJ V 2 "whole_plan" ["drawing"] lP) (BB:gJ V 3 "raised" ["one","count"] iV) (Io:gJ V 4 "opened_at" ["sums","name","hand"] mZ):gJ V 5 "opened" ["drawing","names"] tZ :=
 qa ["drawing","names","hands","loose","sums","name","hand"] Y F OQ fun hr nd=>have hu:=hr.units; (aH (v9 ["name","drawing"] (sc:=bO (top 37)) (XN:=["drawing","names","hands","loose","sums","name","hand"]) (i:=2) nd rfl rfl (eX (bo 1)) (fun _ _ _ _=>(kL (i:=0) (show (["name","drawing"]:List Str).Nodup by decide +kernel) rfl)) (fun _ _ _ _=>.none) (fun _ _ _ _=>(jR OH hr (lu (bo 1) (bo 0)))))
 (aH (lr (i:=3) nd rfl (da eE rfl (Y.no dZ) i8 (jS (lZ ["row"] (sc:=bO (top 37)) (XN:=["drawing","names","hands","loose","sums","name","hand"]) (eX (bo 0)) (fun _ _ _ _=>(kL (i:=0) (show (["row"]:List Str).Nodup by decide +kernel) rfl)) (fun _ _ _ _=>(.some (ng (iX (bo 0))))) (fun _ _ _ _=>(bo 0))))))
 (aH (lr (i:=4) nd rfl (aP (Qv hu (jR Ff hr (jS (bo 0))) (aP (jR BB hr (lu (aP (CS rfl (Y.no no_dict) rfl (Y.mg uk) uj um (by decide) (by decide))) (aP (bo 3))))))))
 (aH (cS bh rfl (Mg rfl (Y.no xT) (bo 1) (bo 2)) (iJ rfl (bY (kL (i:=5) nd rfl) (bY (kL (i:=6) nd rfl) gC)) (bZ (bZ gE))) (aK (lr (i:=4) nd rfl (aP (jR Io hr (Ca (bo 4) (bo 5) (bo 6)))))))
 (aK (bN (aP (bo 4))))))))
theorem KR (F:gZ V.K "bracket" (top 38)) (R9:gJ V 5 "opened" ["drawing","names"] tZ) (vp:gJ V 2 "names_of" ["drawing"] fY):gJ V 6 "bracket" ["drawing"] kB :=
 qa ["drawing"] Y F Ln fun hr nd=>have hu:=hr.units; (aK (bN (aP (lH cH fT jV LL (Ha hu) (jR R9 hr (lu (bo 0) (jR vp hr (jS (bo 0))))) (lu (aP (eN hW)) (aP kX))))))
theorem HP (F:gZ V.K "_law_poly" (top 43)) (no_dict:pe V.K "dict") (cT:pe V.K "isinstance") (oR:gJ V 1 "_law_whole" ["_law_found"] cP):gJ V 2 "_law_poly" ["_law_found"] jq :=
 qa ["_law_found","_law_at"] Y F ID fun hr nd=>have hu:=hr.units; (aH (gB (ng (iX (zC "dict" (by decide) rfl (Y.no cT) rfl (Y.no no_dict) Fm (bo 0)))) (aK (bN (aP o3))) d0)
 (aH (cS bh rfl (sY (bo 0)) (kL (i:=1) nd rfl) (aK (gB (Pe.pt (sW (ng (iX (jR oR hr (jS (bo 1))))) (sW (ng (iX (jR oR hr (jS (cI hu (bo 0) (bo 1) (fun _ _=>rfl)))))) (qt (eA (o4 hu) (cI hu (bo 0) (bo 1) (fun _ _=>rfl)) aL (fm _)))))) (aK (bN (aP o3))) d0)))
 (aK (bN (aP o3)))))
theorem EM (F:gZ V.K "_law_pared" (top 44)):gJ V 1 "_law_pared" ["_law_one"] kS :=
 qa ["_law_one","_law_kept","_law_at"] Y F FA fun hr nd=>have hu:=hr.units; (aH (lr (i:=1) nd rfl kX)
 (aH (cS bh rfl (sY (bo 0)) (kL (i:=2) nd rfl) (aK (gB (eA (Em hu) (cI hu (bo 0) (bo 2) (fun _ _=>rfl)) aL (fm _)) (aK (gH (cI hu (bo 0) (bo 2) (fun _ _=>rfl)) (hV hu (bo 1) (bo 2)))) d0)))
 (aK (bN (aP (bo 1))))))
theorem Bj (F:gZ V.K "_law_product" (top 45)) (Ip:gJ V 1 "_law_pared" ["_law_one"] kS):gJ V 2 "_law_product" ["_law_one","_law_other"] jo :=
 qa ["_law_one","_law_other","_law_total","_law_at","_law_more"] Y F BJ fun hr nd=>have hu:=hr.units; (aH (lr (i:=2) nd rfl kX)
 (aH (cS bh rfl (sY (bo 0)) (kL (i:=3) nd rfl) (aK (cS bh rfl (sY (bo 1)) (kL (i:=4) nd rfl) (aK (gH (bP cy (lH cH fT jV nO Eu (bo 2) (lu (bP cy (bo 3) (bo 4)) aL)) (bP AN (cI hu (bo 0) (bo 3) (fun _ _=>rfl)) (cI hu (bo 1) (bo 4) (fun _ _=>rfl)))) (hV hu (bo 2) (bP cy (bo 3) (bo 4))))))))
 (aK (bN (aP (jR Ip hr (jS (aP (bo 2)))))))))
theorem XD {f:Addr} {fd:fH} (F:Tg V.K "law" "law" (top 55) f fd) (dZ:pe V.K "len") (lU:gJ V 1 "_law_cell_at" ["_law_script","_law_k"] b0) (uW:gJ V 3 "_law_drawing" ["_law_cells","_law_strings","_law_spread"] jt) (qT:gJ V 1 "_law_copy" ["_law_rows_here"] fi) (ml:gJ V 1 "_law_names" ["_law_rows_here"] dU) (Cr:gJ V 5 "_law_refused" ["_law_one","_law_other"] jm) (tK:gJ V 2 "_law_numbered" ["_law_rows_here","_law_begin"] iQ) (Fh:gJ V 1 "_law_seated" ["_law_row"] iW) (Iq:gJ V 4 "beside" ["one","other"] pE) (BC:gJ V 2 "_law_rows" ["_law_found","_law_due"] iG) (yj:gJ V 6 "bracket" ["drawing"] kB) (Ld:gJ V 2 "_law_poly" ["_law_found"] jq) (Cs:gJ V 2 "_law_product" ["_law_one","_law_other"] jo):tT V.P V.w V.K V.mg V.base Ls 7 f fd ["_law_script"] (B6 V.K K2.CI) :=
 fo2 F PY X1 fun _ _ _ _ _ _ hr=>have nd:=PY.nd; have hu:=hr.units; have Zm:=hr.Jy; (aH (lr (i:=1) nd rfl (jR lU hr (lu (bo 0) aL)))
 (aH (lr (i:=2) nd rfl (fO (lu (bP cy aL (bP jI (bo 1) aL)) (bP cy aL (bP jI (bP AO (bo 1) aL) aL)))))
 (aH (gB (eA (El hu) (bP jI (bP AO (bo 1) aL) aL) aL (fm _)) (aH (gH (bP cy aL (bP jI (bo 1) aL)) (hV hu (bo 2) aL))
 (aK (gH (bP cy aL (bP wb (bP Mk aL (bP jI (bo 1) aL)) (bP jI (bP AO (bo 1) aL) aL))) (hV hu (bo 2) aL)))) d0)
 (aH (lr (i:=3) nd rfl aL)
 (aH (gB (eA (En hu) (bP jI (jR lU hr (lu (bo 0) aL)) aL) aL (fm _)) (aK (lr (i:=3) nd rfl aL)) d0)
 (aH (lr (i:=4) nd rfl (fO (lu (bP jI (jR lU hr (lu (bo 0) aL)) (bo 3)) (bP jI (jR lU hr (lu (bo 0) aL)) (bo 3)))))
 (aH (lr (i:=5) nd rfl (aP (jR uW hr (Ca (aP (gP (bo 0) (gT aL) (gT (bP cy aL (cI hu (bo 4) aL (fun _ _=>rfl)))))) (aP (cI hu (bo 2) aL (fun _ _=>rfl))) (aP aL)))))
 (aH (lr (i:=6) nd rfl (aP (jR uW hr (Ca (aP (gP (bo 0) (gT aL) (gT (bP cy aL (cI hu (bo 4) aL (fun _ _=>rfl)))))) (aP (cI hu (bo 2) aL (fun _ _=>rfl))) (aP aL)))))
 (aH (lr (i:=7) nd rfl (aP (fO (lu (jR qT hr (jS (aP (bo 5)))) (jR qT hr (jS (aP (bo 6))))))))
 (aH (lr (i:=8) nd rfl (bP cy (da eE rfl (Y.no dZ) i8 (jS (jR ml hr (jS (bo 5))))) (da eE rfl (Y.no dZ) i8 (jS (jR ml hr (jS (bo 6)))))))
 (aH (gB (Pe.pt (sW (eA xQ (bP cy (cI hu (bo 2) aL (fun _ _=>rfl)) (cI hu (bo 2) aL (fun _ _=>rfl))) aL (fm _)) (qt (eA xQ (bo 8) aL (fm _))))) (aK (bN (aP (Ei (jR Cr hr (lu (cI hu (bo 7) aL (fun _ _=>rfl)) (cI hu (bo 7) aL (fun _ _=>rfl)))) (Eg (Eh (En hu) (bo 7) (fO (lu (bo 5) (bo 6))) (fm _))))))) d0)
 (aH (lr (i:=9) nd rfl (aP (bP cy (jR tK hr (lu (bo 5) aL)) (jR tK hr (lu (bo 6) (bP cy aL (da eE rfl (Y.no dZ) i8 (jS (jR ml hr (jS (bo 5)))))))))))
 (aH (zB (v9 ["_law_row"] (sc:=bO (top 55)) (XN:=["_law_script","_law_shape","_law_strings","_law_most","_law_counts","_law_one","_law_other","_law_handed","_law_many","_law_made","_law_due","_law_found","_law_told","_law_row"]) (i:=10) nd rfl rfl (eX (bo 9)) (fun _ _ _ _=>(kL (i:=0) (show (["_law_row"]:List Str).Nodup by decide +kernel) rfl)) (fun _ _ _ _=>.none) (fun _ _ _ _=>(aP (jR Fh hr (jS (bo 0)))))))
 (aH (lr (i:=11) nd rfl (jR Iq hr (lu (aP (cI hu (bo 7) aL (fun _ _=>rfl))) (aP (cI hu (bo 7) aL (fun _ _=>rfl))))))
 (aH (gB (Pe.pt (sW (ng (iX (BC.el fun _ _ q=>xO q.ok (hr.mono (by decide)) rfl q.mg q.kp q.bi (lu (bo 11) (bo 10))))) (qt (eA (El hu) (bo 7) (fO (lu (bo 5) (bo 6))) (fm _))))) (aK (bN (aP o3))) d0)
 (aH (gB (eA (J7 Zm) (bo 8) aL (fm _)) (aH (lr (i:=12) nd rfl (yj.el fun _ _ q=>xO q.ok (hr.mono (by decide)) rfl q.mg q.kp q.bi (jS (bo 11))))
 (aK (gB (Pe.pt (sW (ng (iX (jR Ld hr (jS (bo 12))))) (qt (eA (El hu) (bo 12) (jR Cs hr (lu (aP (jR yj hr (jS (aP (bo 5))))) (aP (jR yj hr (jS (aP (bo 6))))))) (fm _))))) (aK (bN (aP o3))) d0))) d0)
 (aH (cS bh rfl (eX (bo 11)) (kL (i:=13) nd rfl) (aK (nV (lH gv lj lh pC qE (bo 13) (jS (eN (Ca aL aL aL)))))))
 (aK (bN (aP (Ei (Eh (En hu) (bo 7) (fO (lu (bo 5) (bo 6))) (fm _)) (Eg (BC.el fun _ _ q=>xO q.ok (hr.mono (by decide)) rfl q.mg q.kp q.bi (lu (jR Iq hr (lu (aP (cI hu (bo 7) aL (fun _ _=>rfl))) (aP (cI hu (bo 7) aL (fun _ _=>rfl))))) (bo 10)))))))))))))))))))))))))
end
theorem all_mk {l:DR} {w:World} {K:aj} {h:Heap} {mg:Str->Option Value} {fa fl:Addr} {dl:fH} (X:K.In h) (G:h.Ns bz mg) (hfa:mg "law" = some (.ref fa)) (FL:At K "law" (top 55) fl dl) (F0:gZ K "_law_cell_at" (top 40)) (F1:gZ K "_law_free" (top 47)) (F2:gZ K "_law_pick" (top 42)) (F3:gZ K "_law_copy" (top 46)) (F4:gZ K "_law_put" (top 48)) (F5:gZ K "_law_drawing" (top 49)) (F6:gZ K "_law_names" (top 50)) (F7:gZ K "passings_of" (top 8)) (F8:gZ K "names_of" (top 11)) (F9:gZ K "numbering" (top 16)) (F10:gZ K "refuse_many" (top 15)) (F11:gZ K "beside" (top 19)) (F12:gZ K "_law_refused" (top 54)) (F13:gZ K "_law_numbered" (top 53)) (F14:gZ K "_law_seated" (top 51)) (F15:gZ K "seated" (top 9)) (F16:gZ K "seated_rows" (top 10)) (F17:gZ K "renamed_row" (top 17)) (F18:gZ K "renamed_rows" (top 18)) (F19:gZ K "_law_whole" (top 41)) (F20:gZ K "_law_rows" (top 52)) (F21:gZ K "hand_of" (top 12)) (F22:gZ K "next_of" (top 13)) (F23:gZ K "plan_of" (top 32)) (F24:gZ K "far_ends" (top 34)) (F25:gZ K "whole_plan" (top 33)) (F26:gZ K "without_noughts" (top 22)) (F27:gZ K "times" (top 24)) (F28:gZ K "raised" (top 26)) (F29:gZ K "joined_plan" (top 35)) (F30:gZ K "joints" (top 30)) (F31:gZ K "shifted" (top 25)) (F32:gZ K "power_at" (top 31)) (F33:gZ K "added" (top 23)) (F34:gZ K "opened_at" (top 36)) (F35:gZ K "opened" (top 37)) (F36:gZ K "bracket" (top 38)) (F37:gZ K "_law_poly" (top 43)) (F38:gZ K "_law_pared" (top 44)) (F39:gZ K "_law_product" (top 45)) {gj:Addr} (fM:V4 K "TooMany" gj) {eS:Addr} (kA:V4 K "NoString" eS) {dQ:Addr} (ji:V4 K "KnotError" dQ) (kC:subIn K gj (.ref gj)=true) (tj:autoParam (Kn0 K eS) Wa._auto_1) (qL:autoParam (Kn0 K dQ) Wa._auto_1) (j3:autoParam (Kt K gj eS false) Wa._auto_1) (jy:autoParam (Kt K eS eS true) Wa._auto_1) (i6:autoParam (Kt K dQ eS false) Wa._auto_1) (jx:autoParam (Kt K gj dQ true) Wa._auto_1) (i5:autoParam (Kt K eS dQ true) Wa._auto_1) (iL:autoParam (Kt K dQ dQ true) Wa._auto_1) {jj:Tok} (gQ:autoParam (cG K bz "MOST_STRINGS" = some (some (.int 3 jj))) Aq._auto_1) {ib:Tok} (fQ:autoParam (cG K bz "MOST_CROSSINGS" = some (some (.int 12 ib))) Aq._auto_1) {qm:Tok} (lb:autoParam (cG K bz "ALONG" = some (some (.int 0 qm))) Aq._auto_1) {xF:Tok} (vm:autoParam (cG K bz "AGAINST" = some (some (.int 1 xF))) Aq._auto_1) {nZ:Addr} (uk:autoParam (cG K bz "LOOP" = some (some (.ref nZ))) Aq._auto_1) (uj:autoParam ((nZ == dh)=false) Ae._auto_1) (um:autoParam (Dy K nZ [(2,-1),(-2,-1)]=true) Af._auto_1) (dZ:autoParam (pe K "len") Ph._auto_1) (uh:autoParam (pe K "list") Ph._auto_1) (kd:autoParam (pe K "range") Ph._auto_1) (jJ:autoParam (pe K "sorted") Ph._auto_1) (qy:autoParam (pe K "enumerate") Ph._auto_1) (cT:autoParam (pe K "isinstance") Ph._auto_1) (Ka:autoParam (pe K "min") Ph._auto_1) (Ep:autoParam (pe K "bool") Ph._auto_1) (Kb:autoParam (pe K "int") Ph._auto_1) (xT:autoParam (pe K "zip") Ph._auto_1) (AV:autoParam (pe K "tuple") Ph._auto_1) (no_dict:autoParam (pe K "dict") Ph._auto_1) :
  ∃ fd:fH,(∀ (s:ay) (v:Value),BindsTo s fd ⟨[v],[]⟩ [("_law_script",v)])/\∀ base:Heap,K.In base->base.Ns bz mg->tT l.prog w K mg base Ls 7 fa fd ["_law_script"] (B6 K K2.CI):=by
 have e:=hfa.symm.trans (PySem.W.mg_of X G FL.a);cases e;obtain⟨Fa,Fl⟩:=FL;obtain⟨oc,od,kV,doc,pm,an,lx,ct,Mj,rfl,lk,Ja⟩:=Fl.ex;refine⟨lg "law" "law" (k9 (top 55)) (gV (top 55)) (bO (top 55)) .none kV doc pm an lx ct,fun s v=>.of_eq rfl,fun base _ _=>?_⟩;have Y:Vc ⟨l.prog,w,K,mg,base⟩:=⟨X,G⟩;have c0:=Bl Y F0 dZ;have c1:=HS Y F1;have c2:=HQ Y F2;have c3:=HU Y F3 uh;have c4:=KP Y F4 dZ c3;have c5:=Bk Y F5 kd c1 c2 c4;have c6:=EN Y F6;have c7:=Bh Y F7;have c8:=HM Y F8 jJ c7;have c9:=EK Y F9 qy c8;have c10:=zh Y F10 fM gQ fQ;have c11:=KS Y F11 dZ c9 c10;have c12:=Bi Y F12 cT fM kA ji kC tj qL j3 jy i6 jx i5 iL c11;have c13:=zi Y F13 dZ jJ c6;have c14:=Ci Y F14 dZ kd;have c15:=Bg Y F10 gQ fQ;have c16:=Ot Y F15 Ka;have c17:=Be Y F16 c16;have c18:=Bf Y F17;have c19:=zg Y F18 c18;have c20:=Ox Y F11 dZ c9 c15 c17 c19;have c21:=EL Y F19 Ep Kb cT;have c22:=HN Y F20 cT uh c21;have c23:=KQ Y F21 c7;have c24:=KO Y F22 xT;have c25:=KN Y F23 jJ AV;have c26:=HV Y F24;have c27:=Cg Y F25 c24 c25 c26;have c28:=vj Y F26;have c29:=RO Y F27 c28;have c30:=Ou Y F28 kd c29;have c31:=Bm Y F29 c26 c25;have c32:=Ow Y F30 lb;have c33:=KL Y F31 c28;have c34:=HK Y F32 lb;have c35:=RP Y F33 no_dict c28;have c36:=EJ Y F34 no_dict vm lb uk uj um c31 c32 c33 c34 c29 c30 c35;have c37:=Ov Y F35 no_dict dZ xT uk uj um c23 c27 c30 c36;have c38:=KR Y F36 c37 c8;have c39:=HP Y F37 no_dict cT c21;have c40:=EM Y F38;have c41:=Bj Y F39 c40;exact XD Y Fl dZ c0 c5 c3 c6 c12 c13 c14 c20 c22 c38 c39 c41
section
open PySem.W PySem.Calls
theorem Xy (w:World) (os:OsState):(topFrom treeTable (PySem.Challenge.rw_knotwise_k63_beside_is_a_product).row.prog w 4544 ⟨Py w.params,Nj [],Jl,Px,os⟩).map (fun s=>(openSeen hQ hL (zU (PySem.Challenge.rw_knotwise_k63_beside_is_a_product).row.prog.main.body) (Wd PySem.Challenge.rw_knotwise_k63_beside_is_a_product hQ) true s,hA.map s.heap.get?))=some (openGood hQ hL,(hK w.params).map fun p=>some p.2):=(byRow2 "special-get-raises" (P:=fun w=>RI w) h_f h_t) w os
theorem Xx:(PySem.Challenge.rw_knotwise_k63_beside_is_a_product).wellSaid=true:=by kernel_rfl
theorem Xw:LN PySem.Challenge.rw_knotwise_k63_beside_is_a_product hQ=true:=by kernel_rfl
end
end Fin
end Internal
open Internal
open PySem PySem.W PyProof.Rows
set_option maxRecDepth 100000 in
set_option maxHeartbeats 0 in
theorem PySem.Challenge.cw_knotwise_k63_beside_is_a_product_holds : PySem.Challenge.rw_knotwise_k63_beside_is_a_product.Holds := by
 w_on
 refine K2.Oo (q:=Fin.hQ) (K:=Fin.hK) (as:=Fin.hA) (N:=4544) Fin.Xx (by kernel_rfl) (by kernel_rfl) (fun _=>by kernel_rfl) (fun _=>by kernel_rfl) Fin.Xy (by rfl) (by rfl) (by rfl) (by rfl) Fin.Xw ⟨rfl,rfl,rfl,rfl,rfl,by decide +kernel⟩ ?hw ?hc
 (case hw=>w_witness2)
 k_fill
 refine K2.QY (l:=PySem.Challenge.rw_knotwise_k63_beside_is_a_product) (k:=7) (x:="_law_script") rfl rfl ⟨rfl,by decide,by decide⟩ (fun w h Y=>Y) ?F
 case F =>
  intro w mg fa h KX G Zu;exact Fin.all_mk KX G Zu K2.V3 K2.fb K2.fb K2.fb K2.fb K2.fb K2.fb K2.fb K2.fb K2.fb K2.fb K2.fb K2.fb K2.fb K2.fb K2.fb K2.fb K2.fb K2.fb K2.fb K2.fb K2.fb K2.fb K2.fb K2.fb K2.fb K2.fb K2.fb K2.fb K2.fb K2.fb K2.fb K2.fb K2.fb K2.fb K2.fb K2.fb K2.fb K2.fb K2.fb K2.fb K2.Jx K2.Jx K2.Jx K2.YE
