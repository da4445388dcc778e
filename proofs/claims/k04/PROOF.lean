import PyProof.Rows.All
import Wide.All
import OpenK.AllK
import Wide.FinOn
import Lean
import PyProof.EqAt
import PyProof.EqKinds
import PyProof.TupleCall
import PySem.Challenge.RW_knotwise_k04_texts_written_and_read
open Array renaming getD_eq_getD_getElem? -> aP, length_toList -> bu, getElem?_eq_getElem -> bw, getElem?_toList -> bK, getElem?_eq_none -> gh, getD -> nS, mk -> Fd, toList_filterMap -> GP
open Array.Perm renaming refl -> kA
open Bool renaming false_eq_true -> av, and_eq_true -> az, noConfusion -> bo, not_true -> bq, not_false -> cj, false_ne_true -> fi, and_eq_true_iff -> h8, or_eq_true -> rV, false_or -> wb, not_eq_true' -> w9, false_and -> DV, and_false -> DW, beq_eq_decide_eq -> Kh
open Classical renaming byContradiction -> cw
open False renaming elim -> bB
open ForInStep renaming yield -> o7
open Int renaming toNat_natCast -> dc, emod_lt_of_pos -> gH, emod_nonneg -> jw, natCast_nonneg -> nJ, toNat -> wA
open List renaming getElem?_cons_zero -> aa, length_map -> ag, getElem?_eq_getElem -> ah, getElem?_cons_succ -> ai, length_cons -> ak, set_cons_zero -> ao, length_nil -> ar, mem_cons_of_mem -> au, map_cons -> ax, set_cons_succ -> aA, getD_eq_getElem?_getD -> aC, size_toArray -> aF, length_append -> aM, cons_append -> aN, nil_append -> aR, replicate -> aU, getElem?_map -> a5, mem_cons_self -> a7, map_nil -> a8, getElem?_append_right -> bC, getElem_mem -> bD, mem_of_getElem? -> bO, getElem?_append_left -> bS, range -> bW, length_singleton -> bX, mem_append_right -> cq, drop_eq_getElem_cons -> cA, getElem_of_mem -> cN, length_drop -> cP, map_append -> cV, append_nil -> cW, length_take -> du, getElem?_set_self -> dD, flatten_cons -> dE, map_map -> dN, length_set -> dO, length_replicate -> dP, getElem?_set_ne -> eG, append_assoc -> eM, getElem_map -> e8, nodup_nil -> fk, length_range -> fF, find?_cons -> fG, all_eq_true -> gf, length -> gM, pairwise_map -> g6, mem_singleton -> jr, getElem?_replicate -> jt, find?_cons_of_pos -> jI, find?_cons_of_neg -> jJ, drop_eq_nil_of_le -> jK, take_append_drop -> ky, getElem?_eq_none -> kz, lookup_cons -> kK, any_cons -> lA, nodup_cons -> lT, foldl_cons -> lU, nodup_iff_pairwise_ne -> mW, getElem_range -> nC, nodup_append -> oF, getElem?_take_of_lt -> oG, mem_cons -> pD, take_length -> pL, take_of_length_le -> p7, getElem?_of_mem -> sR, filterMap_cons -> ub, take_nil -> v8, drop_nil -> v9, set_nil -> yc, all_map -> yd, cons_ne_nil -> zF, of_mem_zip -> BP, mem_append -> BQ, take_succ -> DS, pairwise_iff_getElem -> DT, pairwise_singleton -> GK, all_cons -> GL, getElem?_toArray -> Kg, replicate_succ' -> KC, mem_append_left -> KD, idxOf_cons_self -> KG
open List.Nodup renaming length_le_of_subset -> tT
open List.Pairwise renaming imp_of_mem -> wa
open Nat renaming le_refl -> ay, le_trans -> bf, lt_of_lt_of_le -> bp, ne_of_lt -> bA, zero_le -> bR, not_lt_zero -> bY, lt_irrefl -> cX, succ_pos -> iU, lt_succ_of_lt -> j4, lt_succ_self -> k9, mod_lt -> lS, le_succ -> lY, sub_self -> nI, add_sub_cancel_left -> pK, succ_le_succ -> p6, lt_of_succ_lt_succ -> qi, le_of_succ_le_succ -> qj, zero_add -> r8, lt_of_le_of_lt -> wz, le_of_lt -> zE, succ_add -> KA
open Ne renaming symm -> ku
open Option renaming isSome_map -> jC, map_some -> zD
open Option.some renaming inj -> bg
open PyProof.Rows renaming callWith_type1 -> fQ, callWith_builtin1 -> iT, IntsAre -> jv, toString_length_le -> rR, slot_tuple_getitem -> rS, tail_any -> rX, seqObj -> sQ, ofString_length -> tS, Subscript_ -> v7, AllBare -> ye, envOfC -> zP, oneType' -> GJ
open PyProof.Rows.F renaming plain_set_update_loop -> qk, entry_set_update_loop -> KI
open PySem renaming wpAny_bind -> ae, Shared -> aj, wpAny_pure -> aq, FuncData -> aG, sizeLine -> aT, mainGlobals -> bc, sizeLine_eq -> br, Program -> bx, wpAny_loadPart' -> bH, starEach -> bQ, wpAny_newObj_type -> cH, compareOp -> cL, Around -> cM, bootBuiltins -> cS, wpAny_call_entry -> da, wpAny_holding -> eB, codeAny_builtin -> e7, ReadsAll -> fh, sysModules -> fy, SetTable -> fA, mem_of_lookup -> fO, wpAny_truthy_bool -> fR, wpAny_callSpecial?_slot -> gB, wpAny_typeNameOfWhole_keyiter -> gI, wpAny_Call_Name_kw -> gZ, binaryOp -> g4, wpAny_passesOwn -> ib, plainId_quiet -> iG, backTo -> i6, wpAny_typeNameOf_keyiter -> jA, wpAny_getItem_str_slice -> jZ, DictEntry -> j5, wpAny_setState_of -> k6, wpAny_mono -> k7, foldedSetIterable -> k8, valueAt -> lW, sliceBounds -> nM, richCompare -> nN, argBest -> nP, tupleKind_room_in1 -> pA, pyNext -> pB, NameKind -> pC, wpAny_setField -> pJ, wpAny_pyIter_slot -> qe, wpAny_pyIter_list -> qf, codeAny -> rY, wpAny_execs_cons -> sP, richCompare_meets_room -> tR, wpAny_updateSeq -> uA, wpAny_execs_nil -> uB, post_val_or_str -> uC, letOwnedTupleGo -> uD, importedModules -> uF, codeAny_mono -> uG, call_meets -> v3, assignEach -> v5, wpAny_tryCatch -> wZ, wpAny_fieldsOf -> w4, rawInt -> w5, pyIter -> w6, firstArgMember -> w7, wpAny_setEntries_of -> x6, spliced -> x8, wpAny_pyIter_tuple -> zL, wpAny_attempt -> zM, tupleKind -> zN, swapsWith -> zO, behindInMarks -> zQ, wpAny_truthy_dict -> BX, wpAny_dictEntries -> BY, typeIs_str -> BZ, relabel -> B0, intKind_is -> B1, callerA -> B2, wpAny_callSpecialIfBound?_slot -> DL, call -> DM, wpAny_isInstance -> E8, wpAny_askSetting -> E9, GenState -> GN, wpAny_of_eq -> Hb, wpAny_letGo -> Hd, wpAny_dictEpoch -> He, getItem -> Hg, assign -> Hj, Keyword -> Hk, BindsTo -> Hl, wpAny_seqItems -> Kx, isSubtype_type -> Ky
open PySem.Around renaming under_plainId -> dj
open PySem.AutoSeq1 renaming sub_tuple_tuple -> mX, sub_list_list -> Ca
open PySem.Builtin.Builtins renaming bindParams -> rT
open PySem.Builtin.Dict renaming showsAll -> zH
open PySem.Builtin.Dict_items renaming ownsTuple -> pM
open PySem.Builtin.List renaming listTooLong -> gY, listLengthHint -> ud
open PySem.Builtin.Slice renaming slicePlaces -> gG, sliceAdjust -> kF, sliceApplied -> uc
open PySem.Builtin.Str renaming tooLong -> B9
open PySem.Builtin.Tuple renaming tupleExact -> gO, tupleCompareSizes -> ql
open PySem.Calls renaming spliced_cons -> e9, spliced_nil -> wB, Name_function_global -> BS
open PySem.Challenge renaming rw_knotwise_k04_texts_written_and_read -> aJ
open PySem.F renaming plainAttrs_list -> cO, plainAttrs_str -> eL, plain_min_loop -> gF, slot_dict_keyiterator_next -> gN, type_list_append -> iD, slot_list_append -> iE, type_str_join -> jF, slot_tuple_lt -> jG, slot_str_join -> jH, args_tuple_lt_2 -> nR, entry_tuple_lt -> o6, slot_list_lt -> qg, type_list_insert -> BM, slot_list_insert -> BN, args_tuple_add_2 -> BO, args_dict_keyiterator_next_1 -> BR, slot_list_index -> B5, entry_tuple_add -> B6, entry_min_loop -> B7, entry_dict_keyiterator_next -> B8, type_str_split -> DO, slot_tuple_add -> DP, slot_str_split -> DQ, args_list_lt_2 -> DR, slot_dict_keyiterator_iter -> DU, slot_set_iter -> Fb, entry_list_lt -> Fc
open PySem.Heap renaming get?_push_of_some -> aw, lt_size -> aI, get?_push_size -> aK, get?_update_other -> cB, get?_update_self -> dQ, size_push -> iF, SameBut -> nE, size_update -> zG, get?_none_of_le -> KH
open PySem.Heap.SameBut renaming update -> eD
open PySem.NameKind renaming free -> iK
open PySem.Obj renaming data_mapFields -> eC, mapSeq -> gz, isFreed_of_fields -> rZ, mapFields -> wx, cls_mapFields -> yb
open PySem.Paired renaming length -> oE
open PySem.PassesOwn renaming never -> cI
open PySem.PyData renaming depthAll -> bJ, eqv -> qh
open PySem.SeqAt renaming items_eqAt -> kE, any_by_data -> nQ, readOf -> w8
open PySem.SetTable renaming below -> zC, fill -> BL
open PySem.Str renaming join -> fj, empty -> ju, ofString -> kD, length -> uI
open PySem.StrLaws renaming sliceText -> wu
open PySem.Txt renaming item -> gX, contains -> lz, slice -> o4, split -> wt, slice_le -> zB, charAt -> Kf
open PySem.Value renaming none -> c6, str -> fS, ref -> j3, int -> lC, bool -> wo, isInt -> zR
open PySem.W renaming Frag -> af, nsIn -> bP, mg_none_of -> bU, mg_of -> eX, kas_rev -> e6, kia_one -> gC, fnOf -> gE, kas_place -> ic, kas_desc -> jq, keepIn -> jB, findIn -> lX, kas_asc -> nO, kas_descPart -> uE, methodObj -> uH, OpenLaw -> ya, codeIn -> zS, boot_drawn -> B3, cellsFrom_some -> DN, kas_tail3 -> Hf, boot_toks -> Hh, boot_heap -> Hi, specialIn -> Kz
open PySem.W.KasT renaming ret -> sd
open Sum renaming inr -> x9, inl -> B4
open True renaming intro -> iL
set_option Elab.async false
set_option linter.all false
set_option maxRecDepth 100000
set_option maxHeartbeats 4000000
set_option genSizeOf false
set_option genInjectivity false
set_option compiler.extract_closed false
namespace Internal
theorem Ac(h:0=0:=by kernel_rfl):0=0:=h
theorem Ad(h:0=0:=by decide):0=0:=h
theorem Ae(h:0=0:=by first | rfl | decide):0=0:=h
theorem Ai(h:0=0:=by intro _; rfl):0=0:=h
theorem Ak(h:0=0:=by decide +kernel):0=0:=h
theorem Al(h:0=0:=by intro _ _ _ _ h; repeat (first | (cases h.1; rfl) | (cases h <;> rename_i h))):0=0:=h
theorem Ao(h:0=0:=by first | exact .inl rfl | exact .inr rfl | exact .inr (.inl rfl) | exact .inr (.inr rfl) | assumption):0=0:=h
theorem Aq(h:0=0:=by k_is):0=0:=h
theorem Ar(h:0=0:=by rfl):0=0:=h
theorem As(h:0=0:=by exact K2.K9):0=0:=h
theorem Yw(h:0=0:=by intro _ _ _ _; with_unfolding_all rfl):0=0:=h
theorem Yv(h:0=0:=by intro _ _ _; with_unfolding_all rfl):0=0:=h
theorem Aw(h:0=0:=by with_unfolding_all rfl):0=0:=h
namespace L2
open PySem PySem.Spec PyProof.Rows
noncomputable abbrev Key:=Sum Int Str
noncomputable def xD:Key->Value->Bool
 | .inl k,v=>zR k v
 | .inr x,v=>Value.isStrOf x v
noncomputable def SM(w:World):Key->Int
 | .inl k=>hashInt k
 | .inr x=>hashStr w x
theorem dB:∀ {k:Key} {v:Value},xD k v=true->(∃ i t,k=B4 i/\v=lC i t)\/(∃ x t,k=x9 x/\v=fS x t)
 | .inl i,v,h=>by
  obtain⟨t,e⟩:=Value.isInt_shape (k:=i) (v:=v) h;exact .inl ⟨i,t,rfl,e⟩
 | .inr x,v,h=>by
  obtain⟨t,e⟩:=Value.isStrOf_shape (x:=x) (v:=v) h;exact .inr ⟨x,t,rfl,e⟩
theorem FT(i:Int)(t:Tok):xD (.inl i) (.int i t)=true:=by simp [xD,zR]
theorem FR(x:Str)(t:Tok):xD (.inr x) (.str x t)=true:=by simp [xD,Value.isStrOf]
theorem IL(a b:Int):decide ((B4 a:Key)=B4 b)=(a == b):=by
 by_cases e:a=b
 ·subst e; simp
 ·have h:¬ (B4 a:Key)=B4 b:=fun q=>e (Sum.inl.inj q);rw [decide_eq_false h];exact(beq_eq_false_iff_ne.mpr e).symm
theorem IJ(a b:Str):decide ((x9 a:Key)=x9 b)=decide (a=b):=by
 by_cases e:a=b
 ·subst e; simp
 ·have h:¬ (x9 a:Key)=x9 b:=fun q=>e (Sum.inr.inj q);rw [decide_eq_false h,decide_eq_false e]
theorem Nx(a:Int)(b:Str):decide ((B4 a:Key)=x9 b)=false:=decide_eq_false (fun q=>nomatch q)
theorem Nw(a:Str)(b:Int):decide ((x9 a:Key)=B4 b)=false:=decide_eq_false (fun q=>nomatch q)
noncomputable def dI(prog:bx)(w:World):PySem.KeyKind prog w Key where
 is:=xD
 hash:=SM w
 inj:=fun v a b ha hb=>by
  rcases dB ha with ⟨i,t,rfl,rfl⟩ | ⟨x,t,rfl,rfl⟩
  ·rcases dB hb with ⟨j,u,rfl,e⟩ | ⟨y,u,rfl,e⟩
   ·injection e with e1 _; rw [e1]
   ·exact nomatch e
  ·rcases dB hb with ⟨j,u,rfl,e⟩ | ⟨y,u,rfl,e⟩
   ·exact nomatch e
   ·injection e with e1 _; rw [e1]
 byValue:=fun k v h=>by
  rcases dB h with ⟨i,t,rfl,rfl⟩ | ⟨x,t,rfl,rfl⟩ <;> rfl
 pyHash:=fun hv h=>by
  rcases dB hv with ⟨i,t,rfl,rfl⟩ | ⟨x,t,rfl,rfl⟩
  ·exact wpAny_pyHash_int h
  ·exact wpAny_pyHash_str h
 eqBool:=fun hu hv h=>by
  rcases dB hu with ⟨i,t,rfl,rfl⟩ | ⟨x,t,rfl,rfl⟩
  ·rcases dB hv with ⟨j,u,rfl,rfl⟩ | ⟨y,u,rfl,rfl⟩
   ·rw [IL] at h; exact wpAny_eqBool_int h
   ·rw [Nx] at h; exact SeqAt.EqAt.int_str i t y u _ _ _ _ h
  ·rcases dB hv with ⟨j,u,rfl,rfl⟩ | ⟨y,u,rfl,rfl⟩
   ·rw [Nw] at h; exact SeqAt.EqAt.str_int x t j u _ _ _ _ h
   ·rw [IJ] at h; exact wpAny_eqBool_str h
 «strs»:=fun k x t v h=>by
  rcases dB h with ⟨i,u,rfl,e⟩ | ⟨y,u,rfl,e⟩
  ·exact nomatch e
  ·injection e with e1 _
   subst e1;cases v <;> rfl
theorem AI(prog:bx)(w:World)(i:Int)(t:Tok):(dI prog w).is (.inl i) (.int i t)=true:=FT i t
theorem AH(prog:bx)(w:World)(x:Str)(t:Tok):(dI prog w).is (.inr x) (.str x t)=true:=FR x t
inductive V where
 | cf | bl (b:Bool) | int (i:Int) | str (x:Str) | N8 (b:Array UInt8) | Qf (b:UInt64) | ref (a:Addr) | ty (n:String)
noncomputable def RelV:V->Value->Prop
 | .cf,u=>u=c6
 | .bl b,u=>u=wo b
 | .int i,u=>∃ t,u=lC i t
 | .str x,u=>∃ t,u=fS x t
 | .N8 b,u=>∃ t,u=Value.bytes b t
 | .Qf b,u=>∃ t,u=Value.float b t
 | .ref a,u=>u=j3 a
 | .ty n,u=>u=Value.type n
noncomputable abbrev Vals:List V->List Value->Prop:=Paired RelV
theorem Vals.length{xs:List V}{us:List Value}(r:Vals xs us):xs.length=us.length:=oE r
theorem Vals.get:∀ {xs:List V} {us:List Value} {i:Nat} {x:V},Vals xs us->xs[i]?=some x->∃ u,us[i]?=some u/\RelV x u:=by
 intro xs us i x h;induction h generalizing i with
 | nil=>intro e; cases e
 | cons r t ih =>
  intro e;cases i with
  | zero=>cases e; exact⟨_,rfl,r⟩
  | succ i=>exact ih e
theorem Vals.set{x:V}{u:Value}(r:RelV x u):∀ {xs:List V} {us:List Value} (i:Nat),Vals xs us->Vals (xs.set i x) (us.set i u):=by
 intro xs us i h;induction h generalizing i with
 | nil=>rw [yc,yc]; exact .nil
 | cons q t ih =>
  cases i with
  | zero=>exact .cons r t
  | succ i=>exact .cons q (ih i)
theorem Vals.append:∀ {xs ys:List V} {us ws:List Value},Vals xs us->Vals ys ws->Vals (xs++ys) (us++ws):=by
 intro xs ys us ws h s;induction h with
 | nil=>exact s
 | cons r t ih=>exact .cons r ih
theorem Vals.take:∀ {xs:List V} {us:List Value} (n:Nat),Vals xs us->Vals (xs.take n) (us.take n):=by
 intro xs us n h;induction h generalizing n with
 | nil=>rw [v8,v8]; exact .nil
 | cons r t ih =>
  cases n with
  | zero=>exact .nil
  | succ n=>exact .cons r (ih n)
theorem Vals.drop:∀ {xs:List V} {us:List Value} (n:Nat),Vals xs us->Vals (xs.drop n) (us.drop n):=by
 intro xs us n h;induction h generalizing n with
 | nil=>rw [v9,v9]; exact .nil
 | cons r t ih =>
  cases n with
  | zero=>exact .cons r t
  | succ n=>exact ih n
noncomputable def wW:Option V->Option Value->Prop
 | some v,some u=>RelV v u
 | none,none=>True
 | _,_=>False
noncomputable def KV{κ:Type}:List (κ×V)->List (κ×Value)->Prop:=Paired fun (p:κ×V) (q:κ×Value)=>p.1=q.1/\RelV p.2 q.2
noncomputable def kV:Key->V
 | .inl i=>.int i
 | .inr x=>.str x
inductive HO where
 | lst (xs:List V)
 | tup (xs:List V)
 | dK (aY:List (Key×V)) | dT (aY:List (List Key×V))
 | set (S:Int->Bool) (n:Nat)
 | ins (C dx:Addr) (fs:List (Str×V))
 | own (x:Addr)
 | xd (fs:List (Str×V))
 | met (f x:Addr)
 | QH (lo hi:Int)
 | kh (o:Obj) (u:HO)
 | Md (q:Str)
 | ext (φ:Heap->Prop)
noncomputable abbrev Hp:=Addr->Option HO
noncomputable def upd(H:Hp)(a:Addr)(o:HO):Hp:=fun b=>if b=a then some o else H b
theorem cC{H:Hp}{a:Addr}{o:HO}:upd H a o a=some o:=by unfold upd; rw [if_pos rfl]
theorem bI{H:Hp}{a b:Addr}{o:HO}(h:b≠a):upd H a o b=H b:=by unfold upd; rw [if_neg h]
theorem Pt{H:Hp}{a b:Addr}{o u:HO}(h:H a=some o)(h':H b=some u)(d:o≠u):a≠b:=by
 intro e; subst e; rw [h] at h'; exact d (bg h')
theorem cU{H:Hp}{a b:Addr}{o:HO}(h:H a=some o)(h':H b=none):a≠b:=by
 intro e; subst e; rw [h] at h'; cases h'
section
variable (P:bx) (w:World)
noncomputable def fN(H:Hp)(h:Heap)(a:Addr):HO->Prop
 | .lst xs=>xs.length<=aT/\∃ (aZ:List Value) (n:Nat),Vals xs aZ/\h.get? a=some { cls:=.type "list",data:=.seq aZ.toArray n }
 | .tup xs=>xs.length<=aT/\∃ aZ:List Value,Vals xs aZ/\IsTup h a aZ.toArray
 | .dK aY=>aY.length<=aT/\(a == fy)=false/\∃ vs,KV aY vs/\h.DictOf (dI P w) a vs
 | .dT aY=>aY.length<=aT/\(a == fy)=false/\∃ xs:List (List Key×Addr×Value),
   Paired (fun (p:List Key×V) (q:List Key×Addr×Value)=>p.1=q.1/\H q.2.1=some (.tup (p.1.map kV))/\RelV p.2 q.2.2) aY xs /\
   ∃ o es ep,h.get? a=some o/\o.ExactDict/\o.data=.dict es ep/\es.toList=xs.map (entryOfKey (zN (dI P w)))/\(xs.map (·.1)).Nodup
 | .set S n=>h.SetOf (intKind P w) a S n
 | .ins C dx fs=>H dx=some (.own a)/\fs.length<=1000/\dx≠a/\h.get? a=some (PySem.W.instObj C dx) /\
   ∃ mA,h.Ns1 dx mA/\(∀ f,wW (fs.lookup f) (mA f))/\PySem.Within mA (fs.map (·.1))
 | .own _=>∃ o,h.get? a=some o
 | .xd fs=>∃ mA,h.Ns1 a mA/\∀ f,wW (fs.lookup f) (mA f)
 | .QH lo hi=>∃ t u v,h.get? a=some { cls:=.type "range",data:=.fields #[.int lo t,.int hi u,.int 1 v] }
 | .kh o u=>h.get? a=some o/\fN H h a u
 | .Md q=>∃ ps,h.get? a=some { cls:=.none,data:=.fields ps }/\TriplesOk ps.toList/\∀ pos cv,codeAmong pos ps.toList=some cv->∃ c',cv=.ref c'/\H c'=some (.own a)/\h.CodeRec (.ref c') q
 | .met f x=>h.get? a=some (uH (.ref f) (.ref x))
 | .ext φ=>φ h/\(∃ o,h.get? a=some o)/\∀ h1 h2:Heap,φ h1->(∀ o,h1.get? a=some o->h2.get? a=some o)->φ h2
noncomputable def qc(H:Hp)(h:Heap):Prop:=∀ a o,H a=some o->fN P w H h a o
end
section
variable {P:bx} {w:World} {H H':Hp} {h h':Heap} {a:Addr} {o:HO}
theorem fN.lt(x:fN P w H h a o):a < h.objs.size:=by
 cases o with
 | lst xs=>obtain⟨_,_,_,_,e⟩:=x; exact aI e
 | tup xs=>obtain⟨_,_,_,p⟩:=x; exact p.lt
 | dK aY=>obtain⟨_,_,_,_,o,_,_,e,_⟩:=x; exact aI e
 | dT aY=>obtain⟨_,_,_,_,o,_,_,e,_⟩:=x; exact aI e
 | set S n=>obtain⟨o,_,_,_,e,_⟩:=x; exact aI e
 | ins C dx fs=>obtain⟨_,_,_,e,_⟩:=x; exact aI e
 | own y=>obtain⟨_,e⟩:=x; exact aI e
 | xd fs=>obtain⟨_,⟨_,_,_,e,_⟩,_⟩:=x; exact aI e
 | QH lo hi=>obtain⟨_,_,_,e⟩:=x; exact aI e
 | kh ob u=>obtain⟨e,_⟩:=x; exact aI e
 | Md q=>obtain⟨_,e,_⟩:=x; exact aI e
 | met f y=>exact aI (show h.get? a=some _ from x)
 | ext φ=>obtain⟨_,⟨_,e⟩,_⟩:=x; exact aI e
theorem Paired.Px{α β:Type}{F G:α->β->Prop}:∀ {Nq:List α} {l₂:List β},Paired F Nq l₂->(∀ a b,F a b->G a b)->Paired G Nq l₂:=by
 intro Nq l₂ h f;induction h with
 | nil=>exact .nil
 | cons r t ih=>exact .cons (f _ _ r) ih
theorem fN.la(x:fN P w H h a o)(k:∀ b u,(b=a\/H b=some (.own a))->h.get? b=some u->h'.get? b=some u)
  (ho:∀ b,H b=some (.own a)->H' b=some (.own a)) (ht:∀ b xs,H b=some (.tup xs)->H' b=some (.tup xs)):fN P w H' h' a o:=by
 induction o with
 | lst xs=>obtain⟨z,aZ,n,r,e⟩:=x; exact⟨z,aZ,n,r,k _ _ (.inl rfl) e⟩
 | tup xs=>obtain⟨z,aZ,r,ob,e,c⟩:=x; exact⟨z,aZ,r,ob,k _ _ (.inl rfl) e,c⟩
 | dK aY=>obtain⟨z,y,vs,r,ob,es,ep,e,c⟩:=x; exact⟨z,y,vs,r,ob,es,ep,k _ _ (.inl rfl) e,c⟩
 | dT aY =>
  obtain⟨z,y,xs,r,ob,es,ep,e,c⟩:=x;exact⟨z,y,xs,Paired.Px r fun p q z=>⟨z.1,ht _ _ z.2.1,z.2.2⟩,ob,es,ep,k _ _ (.inl rfl) e,c⟩
 | set S n=>obtain⟨ob,es,ep,t,e,c⟩:=x; exact⟨ob,es,ep,t,k _ _ (.inl rfl) e,c⟩
 | ins C dx fs =>
  obtain⟨d,z,ne,e,mA,⟨od,es,ep,e2,c⟩,r⟩:=x;exact⟨ho _ d,z,ne,k _ _ (.inl rfl) e,mA,⟨od,es,ep,k _ _ (.inr d) e2,c⟩,r⟩
 | own y=>obtain⟨ob,e⟩:=x; exact⟨ob,k _ _ (.inl rfl) e⟩
 | xd fs=>obtain⟨mA,⟨od,es,ep,e,c⟩,r⟩:=x; exact⟨mA,⟨od,es,ep,k _ _ (.inl rfl) e,c⟩,r⟩
 | QH lo hi=>obtain⟨t,u,v,e⟩:=x; exact⟨t,u,v,k _ _ (.inl rfl) e⟩
 | kh ob u ih=>obtain⟨e,q⟩:=x; exact⟨k _ _ (.inl rfl) e,ih q⟩
 | Md q =>
  obtain⟨ps,e,t,z⟩:=x;refine⟨ps,k _ _ (.inl rfl) e,t,fun pos cv y=>?_⟩;obtain⟨c',e1,e2,c2,oc,vs,tq,e3,e4,r⟩:=z pos cv y;cases e3;exact⟨c',e1,ho _ e2,c',oc,vs,tq,rfl,k _ _ (.inr e2) e4,r⟩
 | met f y =>
  have e:h.get? a=some (uH (.ref f) (.ref y)):=x;show h'.get? a=some (uH (.ref f) (.ref y));exact k a _ (.inl rfl) e
 | ext φ=>obtain⟨p,⟨o,e⟩,st⟩:=x; exact⟨st _ _ p fun o q=>k _ _ (.inl rfl) q,⟨o,k _ _ (.inl rfl) e⟩,st⟩
theorem qc.lt(x:qc P w H h)(e:H a=some o):a < h.objs.size:=(x a o e).lt
theorem qc.fresh(x:qc P w H h)(e:h.objs.size<=a):H a=none:=by
 cases q:H a with
 | none=>rfl
 | some u=>exact absurd (bp (x.lt q) e) (cX _)
theorem qc.kept(x:qc P w H h)(k:∀ b u,h.get? b=some u->h'.get? b=some u):qc P w H h':=fun a o e =>
 (x a o e).la (fun b u _ q=>k b u q) (fun _ q=>q) fun _ _ q=>q
theorem qc.laid(x:qc P w H h)(k:∀ b u,h.get? b=some u->h'.get? b=some u)(hp:h.objs.size<=a)(new:fN P w (upd H a o) h' a o):qc P w (upd H a o) h':=fun b u e=>by
 have hn:=x.fresh hp;by_cases hb:b=a
 ·subst hb; rw [cC] at e; cases e; exact new
 ·rw [bI hb] at e;exact(x b u e).la (fun c v _ q=>k c v q) (fun c q=>by rw [bI (cU q hn)]; exact q) fun c xs q=>by rw [bI (cU q hn)]; exact q
end
noncomputable def Rd(H:Hp)(a:Addr)(u:HO):Prop:=H a=some u\/∃ o,H a=some (.kh o u)
theorem Rd.ok{P:bx}{w:World}{H:Hp}{h:Heap}{a:Addr}{u:HO}(r:Rd H a u)(x:qc P w H h):fN P w H h a u:=by
 rcases r with r | ⟨o,r⟩
 ·exact x a u r
 ·obtain⟨_,q⟩:=x a _ r;exact q
noncomputable def Qz:Option HO->Prop
 | some (.lst _)=>True
 | some (.dK _)=>True
 | some (.dT _)=>True
 | some (.set _ _)=>True
 | some (.ins _ _ _)=>True
 | some (.ext _)=>True
 | _=>False
section
variable {P:bx} {w:World} {H:Hp} {h h':Heap} {x e:Addr} {o':HO}
theorem qc.write(ok:qc P w H h)(mu:Qz (H x))(he:e=x\/H e=some (.own x))(k:∀ b u,b≠e->h.get? b=some u->h'.get? b=some u)(OB:∃ u,h'.get? e=some u)
  (new:fN P w (upd H x o') h' x o'):qc P w (upd H x o') h':=fun b u q=>by
 have Pn:∀ c y,H c=some (.own y)->c≠x:=fun c y r z=>by subst z; rw [r] at mu; exact mu
 have So:∀ c xs,H c=some (.tup xs)->c≠x:=fun c xs r z=>by subst z; rw [r] at mu; exact mu
 by_cases hb:b=x
 ·subst hb; rw [cC] at q; cases q; exact new
 ·rw [bI hb] at q;by_cases NO:b=e
  ·have q':H b=some (.own x):=by
    rcases he with z | z
    ·exact absurd (NO.trans z) hb
    ·rw [NO]; exact z
   rw [q] at q'; cases q';obtain⟨v,hv⟩:=OB;exact⟨v,by rw [NO]; exact hv⟩
  ·refine(ok b u q).la (fun c v hc r=>k c v ?_ r) (fun c r=>by rw [bI (Pn c b r)]; exact r) fun c xs r=>by rw [bI (So c xs r)]; exact r
   rcases hc with rfl | hc
   ·exact NO
   ·rintro rfl;rcases he with z | z
    ·exact Pn c b hc z
    ·rw [hc] at z; cases z; exact hb rfl
end
structure Un(fs ex:List Addr)(H H':Hp)(h h':Heap):Prop where
 keep:∀ b o,h.get? b=some o->H b=none->b∉fs->b∉ex->h'.get? b=some o
 slot:∀ b o,h.get? b=some o->H b=none->b∈fs->b∉ex->∃ sl,h'.get? b=some { o with slots:=sl }
 free:∀ b o,h.get? b=some o->H b=none->b∉ex->H' b=none
 there:∀ b o,h.get? b=some o->b∉ex->∃ o',h'.get? b=some o'
 wD:∀ b xs,H b=some (.tup xs)->H' b=some (.tup xs)
 vL:∀ b o u,H b=some (.kh o u)->H' b=some (.kh o u)
 wG:∀ b q,H b=some (.Md q)->H' b=some (.Md q)
 wI:∀ b x,H b=some (.own x)->H' b=some (.own x)
section
variable {fs YO ex YR:List Addr} {H H1 H2:Hp} {h h1 h2 h':Heap} {a x e:Addr} {o:HO}
theorem Un.any(u:Un fs ex H H1 h h1){b:Addr}{ob:Obj}(q:h.get? b=some ob)(n:H b=none)(hx:b∉ex):∃ sl,h1.get? b=some { ob with slots:=sl }:=by
 by_cases hb:b∈fs
 ·exact u.slot b ob q n hb hx
 ·exact⟨ob.slots,u.keep b ob q n hb hx⟩
theorem Un.kept(k:∀ b u,h.get? b=some u->h'.get? b=some u):Un fs ex H H h h' :=
 ⟨fun b ob q _ _ _=>k b ob q,fun b ob q _ _ _=>⟨ob.slots,k b ob q⟩,fun _ _ _ n _=>n,fun b ob q _=>⟨ob,k b ob q⟩,fun _ _ q=>q,fun _ _ _ q=>q,fun _ _ q=>q,fun _ _ q=>q⟩
theorem Un.refl:Un fs ex H H h h:=Un.kept fun _ _ q=>q
theorem Un.laid(k:∀ b u,h.get? b=some u->h'.get? b=some u)(hp:h.objs.size<=a)(hn:H a=none):Un fs ex H (upd H a o) h h' where
 keep:=fun b u q _ _ _=>k b u q
 slot:=fun b u q _ _ _=>⟨u.slots,k b u q⟩
 free:=fun b u q n _=>by rw [bI (bA (bp (aI q) hp))]; exact n
 there:=fun b u q _=>⟨u,k b u q⟩
 wD:=fun b xs q=>by rw [bI (cU q hn)]; exact q
 vL:=fun b u xs q=>by rw [bI (cU q hn)]; exact q
 wG:=fun b ps q=>by rw [bI (cU q hn)]; exact q
 wI:=fun b ps q=>by rw [bI (cU q hn)]; exact q
theorem Un.write(mu:Qz (H x))(he:e=x\/H e=some (.own x))(k:∀ b u,b≠e->h.get? b=some u->h'.get? b=some u)(OB:∃ u,h'.get? e=some u):Un fs ex H (upd H x o) h h':=by
 have hx:∀ b,H b=none->b≠x:=fun b n z=>by subst z; rw [n] at mu; exact mu
 have hb:∀ b,H b=none->b≠e:=fun b n z=>by
  subst z;rcases he with r | r
  ·exact hx b n r
  ·rw [n] at r; cases r
 have hm:∀ b u,H b=some u->¬ Qz (some u)->b≠x:=fun b u q nm z=>by subst z; rw [q] at mu; exact nm mu
 refine⟨fun b u q n _ _=>k b u (hb b n) q,fun b u q n _ _=>⟨u.slots,k b u (hb b n) q⟩,fun b u q n _=>by rw [bI (hx b n)]; exact n,fun b u q _=>?_,
  fun b xs q=>by rw [bI (hm b _ q fun z=>z)]; exact q,fun b u xs q=>by rw [bI (hm b _ q fun z=>z)]; exact q,fun b ps q=>by rw [bI (hm b _ q fun z=>z)]; exact q,fun b ps q=>by rw [bI (hm b _ q fun z=>z)]; exact q⟩
 by_cases NO:b=e
 ·subst NO; exact OB
 ·exact⟨u,k b u NO q⟩
end
noncomputable def QD(h:Heap)(H:Hp):List Addr:=(bW h.objs.size).filter fun a=>(H a).isSome
noncomputable def yR(h:Heap)(H:Hp):Heap:=PySem.W.hideAll h (QD h H)
theorem FW(h:Heap)(H:Hp):(yR h H).objs.size=h.objs.size:=PySem.W.hideAll_size _ _
theorem Jj{h:Heap}{H:Hp}{b:Addr}{o:Obj}(e:h.get? b=some o)(n:H b=none):(yR h H).get? b=some o :=
 PySem.W.hideAll_get _ e fun hm=>by
  have q:(H b).isSome=true:=(List.mem_filter.mp hm).2;rw [n] at q; simp at q
theorem LG{h:Heap}{H:Hp}{b:Addr}{o:Obj}(e:(yR h H).get? b=some o):h.get? b=some o/\H b=none:=by
 have e':h.get? b=some o:=PySem.W.of_hideAll (QD h H) e;refine⟨e',?_⟩;cases q:H b with
 | none=>rfl
 | some x =>
  have hm:b∈QD h H:=List.mem_filter.mpr ⟨List.mem_range.mpr (aI e'),by simp [q]⟩;have z:(yR h H).get? b=none:=PySem.W.hideAll_none (QD h H) hm;rw [z] at e; cases e
noncomputable def mU(g h:Heap)(L:Addr):List (Addr×Obj):=(bW h.objs.size).filterMap fun a=>if a=L\/(g.get? a).isSome=true then none else (h.get? a).map fun o=>(a,o)
theorem jd{g h:Heap}{L a:Addr}{o:Obj}(h1:a≠L)(h2:g.get? a=none)(h3:h.get? a=some o):(a,o)∈mU g h L :=
 List.mem_filterMap.mpr ⟨a,List.mem_range.mpr (aI h3),by simp [h1,h2,h3]⟩
theorem ve{g h:Heap}{L:Addr}{p:Addr×Obj}(hp:p∈mU g h L):p.1≠L/\g.get? p.1=none/\h.get? p.1=some p.2:=by
 obtain⟨b,_,e⟩:=List.mem_filterMap.mp hp;split at e
 ·cases e
 ·rename_i hn;cases q:h.get? b with
  | none=>rw [q] at e; simp at e
  | some u =>
   rw [q] at e;simp only [zD,Option.some.injEq] at e;subst e;refine⟨fun z=>hn (.inl z),?_,q⟩;show g.get? b=none;cases r:g.get? b with
   | none=>rfl
   | some v=>exact(hn (.inr (by simp [r]))).elim
noncomputable def rest(g h:Heap)(L d:Addr):List (Addr×Obj):=(mU g h L).filter fun p=>decide (p.1≠d)
theorem qP{g h:Heap}{L:Addr}:News g L h (mU g h L):=fun p hp=>let ⟨a,b,c⟩:=ve hp; ⟨c,a,b⟩
structure Mod(K:af)(mg:Str->Option Value)(base:Heap):Prop where
 SK:K.In base
 glob:base.Ns bc mg
 blt:∃ mb,base.Ns builtinsNs mb/\∀ x:Str,x≠"__name__"->mb x=cS x
 nolimit:base.NoLimit
structure Cx where
 prog:bx
 w:World
 K:af
 mg:Str->Option Value
 base:Heap
 A:cM
 N:List Str
 kG:aj
 Ka:Hp
 env:Env
 outer:List Env
 stack:List Env
 ex:List Addr
 fn:Str->Bool
 calm:Bool
 pn:List (Addr×Obj)
 xe:Value->aj->Prop
noncomputable def GX(l:List Env):List Addr:=l.filterMap (·.frame)
noncomputable abbrev Cx.fs(X:Cx):List Addr:=GX X.outer
noncomputable def OG(sc:Scope)(x:Str):Prop:=sc.names.lookup x=some .local\/sc.names.lookup x=some .cell\/sc.names.lookup x=some .free
noncomputable def Loc(sc:Scope)(x:Str):Prop:=sc.names.lookup x=some .local\/sc.names.lookup x=some .cell
noncomputable def Look(env:Env)(h:Heap)(m:Str->Option Value)(x:Str)(u:Value):Prop :=
 (env.kindOf x=some .local/\m x=some u)\/((env.kindOf x=some .cell\/env.kindOf x=some .free)/\∃ c,env.cells.lookup x=some c/\h.IsCell c (some u))
structure Cx.Ok(X:Cx):Prop where
 mod:Mod X.K X.mg X.base
 kind:X.env.scope.kind=.function
 glob:X.env.globals=bc
 blt:X.env.builtins=builtinsNs
 above:X.kG.heap.objs.size<=X.env.locals
 inj:∀ x y c,X.env.cells.lookup x=some c->X.env.cells.lookup y=some c->x=y
 has:∀ x,(X.env.kindOf x=some .cell\/X.env.kindOf x=some .free)->∃ c,X.env.cells.lookup x=some c
 Qp:∀ x c,X.fn x=true->X.env.cells.lookup x=some c->X.kG.heap.objs.size<=c
 hd:X.calm=true->X.A.handled=none
 frames:X.A.frames=some X.stack
 QF:X.stack=X.outer\/(X.stack=X.env :: X.outer/\X.env.frame=some X.env.locals)
 Q4:∀ b∈X.ex,b≠X.env.locals/\∀ x c,X.env.cells.lookup x=some c->c≠b
 bs:∀ b o,X.base.get? b=some o->X.kG.heap.get? b=some o/\X.Ka b=none
 L6:X.base.objs.size<=X.kG.heap.objs.size
 Iz:∀ b o,X.base.get? b=some o->b∉X.ex
 JA:∀ b∈X.ex,b∉X.fs
 vK:X.kG.heap.FunFrames X.base X.outer
 OF:∀ b∈X.fs,X.Ka b=none
structure Inv(X:Cx)(pins:List (Addr×Obj))(σ:List (Option V))(H:Hp)(s:aj):Prop where
 ok:X.Ok
 os:s.os=X.kG.os
 bare:ye s.gens
 base:Un X.fs X.ex X.Ka H X.kG.heap s.heap
 loc:∃ m,s.heap.Ns X.env.locals m/\∀ (i:Nat) (x:Str) (v:V),X.N[i]?=some x->σ[i]?=some (some v)->OG X.env.scope x->∃ u,RelV v u/\Look X.env s.heap m x u
 cell:∀ x c,X.env.cells.lookup x=some c->∃ v,s.heap.IsCell c v
 free:H X.env.locals=none
 nq:∀ x c,X.env.cells.lookup x=some c->H c=none
 pin:∀ p∈X.pn++pins,s.heap.get? p.1=some p.2/\H p.1=none/\p.1≠X.env.locals/\p.1∉X.fs/\∀ v,p.2.data≠.cell v
 cz:qc X.prog X.w H s.heap
 len:σ.length=X.N.length
section
variable {X:Cx} {pins:List (Addr×Obj)} {σ:List (Option V)} {H H':Hp} {s:aj} {h':Heap}
theorem Cx.Ok.Sr(ok:X.Ok){b:Addr}{o:Obj}(e:X.base.get? b=some o):b∉X.fs:=fun hb=>by
 have:=(ok.vK.mem hb).1;rw [e] at this; cases this
theorem Inv.bs(I:Inv X pins σ H s):∀ b o,X.base.get? b=some o->s.heap.get? b=some o/\H b=none:=fun b o e =>
 ⟨I.base.keep b o (I.ok.bs b o e).1 (I.ok.bs b o e).2 (I.ok.Sr e) (I.ok.Iz b o e),I.base.free b o (I.ok.bs b o e).1 (I.ok.bs b o e).2 (I.ok.Iz b o e)⟩
theorem Inv.bk(I:Inv X pins σ H s):∀ b o,X.base.get? b=some o->s.heap.get? b=some o:=fun b o e=>(I.bs b o e).1
theorem Inv.mod(I:Inv X pins σ H s):Mod X.K X.mg X.base:=I.ok.mod
theorem Inv.BV(I:Inv X pins σ H s):X.K.In s.heap:=I.ok.mod.SK.keeps I.bk
theorem Inv.fr(I:Inv X pins σ H s):∃ m,Fr X.base X.env.locals s.heap m :=
 let ⟨m,hn,_⟩:=I.loc
 ⟨m,hn,I.bk,bf I.ok.L6 I.ok.above⟩
theorem Inv.lt(I:Inv X pins σ H s):X.env.locals < s.heap.objs.size:=let ⟨_,hn,_⟩:=I.loc; hn.lt
theorem Inv.sz(I:Inv X pins σ H s):X.kG.heap.objs.size<=s.heap.objs.size:=bf I.ok.above (zE I.lt)
theorem Inv.Sq(I:Inv X pins σ H s){a:Addr}(h:s.heap.objs.size<=a):a∉X.fs:=fun hb=>by
 obtain⟨_,o,ho,_⟩:=I.ok.vK.mem hb;exact absurd (bp (aI ho) (bf I.sz h)) (cX _)
theorem Inv.N7(I:Inv X pins σ H s):∀ x c,X.env.cells.lookup x=some c->c≠X.env.locals:=fun x c e z=>by
 obtain⟨v,o,ho,hd⟩:=I.cell x c e;obtain⟨m,⟨o',es,ep,FV,FZ,_⟩,_⟩:=I.loc;rw [z,FV] at ho; cases ho; rw [FZ] at hd; cases hd
theorem Inv.vK(I:Inv X pins σ H s):s.heap.FunFrames X.base X.outer:=by
 have all:∀ (l:List Env),(∀ b∈GX l,b∈X.fs)->X.kG.heap.FunFrames X.base l->s.heap.FunFrames X.base l:=by
  intro l;induction l with
  | nil=>intro _ _; trivial
  | cons env r ih =>
   intro hs hl;obtain⟨hk,⟨L,o,hf,hn,ho,hd⟩,hr⟩:=hl;have hL:L∈X.fs:=hs L (by unfold GX; rw [ub,hf]; exact a7);obtain⟨sl,e⟩:=I.base.slot L o ho (I.ok.OF L hL) hL fun z=>I.ok.JA L z hL;exact⟨hk,⟨L,_,hf,hn,e,hd⟩,ih (fun b hb=>hs b (by unfold GX; rw [ub,hf]; exact au _ hb)) hr⟩
 exact all X.outer (fun _ hb=>hb) I.ok.vK
theorem Inv.stack(I:Inv X pins σ H s):s.heap.FunFrames X.base X.stack:=by
 rcases I.ok.QF with e | ⟨e,hf⟩
 ·rw [e]; exact I.vK
 ·rw [e];obtain⟨m,hn,_⟩:=I.loc;refine .cons (by rw [I.ok.kind]; decide) hf hn ?_ I.vK;exact KH (bf I.ok.L6 I.ok.above)
theorem Inv.Ci(I:Inv X pins σ H s):∀ b∈GX X.stack,b∈X.env.locals :: X.fs:=fun b hb=>by
 rcases I.ok.QF with e | ⟨e,hf⟩
 ·rw [e] at hb; exact au _ hb
 ·rw [e] at hb;unfold GX at hb;rw [ub,hf] at hb;exact hb
theorem Inv.D0(I:Inv X pins σ H s):∀ b∈GX X.stack,H b=none:=fun b hb=>by
 rcases List.mem_cons.mp (I.Ci b hb) with e | hb
 ·rw [e]; exact I.free
 ·obtain⟨_,o,ho,_⟩:=I.ok.vK.mem hb;exact I.base.free b o ho (I.ok.OF b hb) fun z=>I.ok.JA b z hb
theorem Inv.step{g':Array GN}{t':Nat}{d':Drawn}{ch:List Addr}(I:Inv X pins σ H s)
  (Mu:∀ b∈ch,(b∈X.ex\/X.kG.heap.objs.size<=b)/\b≠X.env.locals/\(∀ x c,X.env.cells.lookup x=some c->c≠b)/\∀ p∈X.pn++pins,p.1≠b)
  (keep:∀ b o,b≠X.env.locals->b∉X.fs->b∉ch->s.heap.get? b=some o->H b=none->h'.get? b=some o)
  (slot:∀ b o,b≠X.env.locals->b∈X.fs->b∉ch->s.heap.get? b=some o->H b=none->∃ sl,h'.get? b=some { o with slots:=sl }) (free:∀ b o,b∉ch->s.heap.get? b=some o->H b=none->H' b=none)
  (there:∀ b o,b∉ch->s.heap.get? b=some o->∃ o',h'.get? b=some o')
  (wD:∀ b xs,H b=some (.tup xs)->H' b=some (.tup xs)) (vL:∀ b o u,H b=some (.kh o u)->H' b=some (.kh o u)) (wG:∀ b q,H b=some (.Md q)->H' b=some (.Md q)) (wI:∀ b x,H b=some (.own x)->H' b=some (.own x))
  (ns:∀ m,s.heap.Ns X.env.locals m->h'.Ns X.env.locals m) (cz:qc X.prog X.w H' h') (hg:ye g') :
  Inv X pins σ H' { s with heap:=h',gens:=g',drawn:=d',toks:=t' }:=by
 have Uu:∀ b o,X.kG.heap.get? b=some o->b≠X.env.locals:=fun b o e=>bA (bp (aI e) I.ok.above);have QN:∀ b o,X.kG.heap.get? b=some o->b∉X.ex->b∉ch:=fun b o e hx hb=>by
  rcases (Mu b hb).1 with z | z
  ·exact hx z
  ·exact absurd (bp (aI e) z) (cX _)
 have cellK:∀ x c,X.env.cells.lookup x=some c->∀ v,s.heap.IsCell c v->h'.IsCell c v:=fun x c e v ⟨o,ho,hd⟩=>by
  have Pu:c∉ch:=fun z=>(Mu c z).2.2.1 x c e rfl;by_cases hc:c∈X.fs
  ·obtain⟨sl,q⟩:=slot c o (I.N7 x c e) hc Pu ho (I.nq x c e);exact⟨_,q,hd⟩
  ·exact⟨o,keep c o (I.N7 x c e) hc Pu ho (I.nq x c e),hd⟩
 refine⟨I.ok,I.os,hg,⟨fun b o e n hb hx=>?_,fun b o e n hb hx=>?_,fun b o e n hx=>?_,fun b o e hx=>?_,fun b xs e=>wD b xs (I.base.wD b xs e),fun b o xs e=>vL b o xs (I.base.vL b o xs e),fun b ps e=>?_,fun b x e=>wI b x (I.base.wI b x e)⟩,?_,fun x c e=>?_,?_,fun x c e=>?_,fun p hp=>?_,cz,I.len⟩
 ·exact keep b o (Uu b o e) hb (QN b o e hx) (I.base.keep b o e n hb hx) (I.base.free b o e n hx)
 ·obtain⟨sl,e1⟩:=I.base.slot b o e n hb hx;obtain⟨VB,e2⟩:=slot b _ (Uu b o e) hb (QN b o e hx) e1 (I.base.free b o e n hx);exact⟨VB,e2⟩
 ·obtain⟨o',e1⟩:=I.base.there b o e hx;exact free b o' (QN b o e hx) e1 (I.base.free b o e n hx)
 ·obtain⟨o',e1⟩:=I.base.there b o e hx;exact there b o' (QN b o e hx) e1
 ·exact wG b _ (I.base.wG b ps e)
 ·obtain⟨m,hn,hl⟩:=I.loc;refine⟨m,ns m hn,fun i x v e1 e2 e3=>?_⟩;obtain⟨u,r,l⟩:=hl i x v e1 e2 e3;refine⟨u,r,?_⟩;rcases l with l | ⟨k,c,e,z⟩
  ·exact .inl l
  ·exact .inr ⟨k,c,e,cellK x c e _ z⟩
 ·obtain⟨v,z⟩:=I.cell x c e;exact⟨v,cellK x c e v z⟩
 ·obtain⟨m,⟨o,_,_,ho,_⟩,_⟩:=I.loc;exact free _ o (fun z=>(Mu _ z).2.1 rfl) ho I.free
 ·obtain⟨v,o,ho,hd⟩:=I.cell x c e;exact free c o (fun z=>(Mu c z).2.2.1 x c e rfl) ho (I.nq x c e)
 ·obtain⟨e,n,ne,nf,d⟩:=I.pin p hp;have Pu:p.1∉ch:=fun z=>(Mu p.1 z).2.2.2 p hp rfl;exact⟨keep p.1 p.2 ne nf Pu e n,free p.1 p.2 Pu e n,ne,nf,d⟩
theorem Inv.un{t':Nat}(I:Inv X pins σ H s)(u:Un X.fs [] H H' s.heap h')(cz:qc X.prog X.w H' h'):Inv X pins σ H' { s with heap:=h',toks:=t' }:=by
 obtain⟨m,⟨o,es,ep,ho,r⟩,_⟩:=id I.loc;obtain⟨sl,hL⟩:=u.any ho I.free (by simp);exact I.step (g':=s.gens) (d':=s.drawn) (ch:=[]) (fun _ z=>nomatch z) (fun b o _ hb _ e n=>u.keep b o e n hb (by simp)) (fun b o _ hb _ e n=>u.slot b o e n hb (by simp)) (fun b o _ e n=>u.free b o e n (by simp)) (fun b o _ e=>u.there b o e (by simp)) u.wD u.vL u.wG u.wI (fun m' hm=>by
  obtain⟨o',es',TL,FV,r'⟩:=hm;rw [ho] at FV; cases FV;exact⟨_,es',TL,hL,r'⟩) cz I.bare
theorem Inv.call{g':Array GN}{t':Nat}{d':Drawn}{ch:List Addr}(I:Inv X pins σ H s)(u:Un (GX X.stack) ch H H' s.heap h')(cz:qc X.prog X.w H' h')(hg:ye g')
  (Mu:∀ b∈ch,(b∈X.ex\/X.kG.heap.objs.size<=b)/\b≠X.env.locals/\(∀ x c,X.env.cells.lookup x=some c->c≠b)/\∀ p∈X.pn++pins,p.1≠b) :
  Inv X pins σ H' { s with heap:=h',gens:=g',drawn:=d',toks:=t' }:=by
 obtain⟨m,⟨o,es,ep,ho,r⟩,_⟩:=id I.loc;obtain⟨sl,hL⟩:=u.any ho I.free fun z=>(Mu _ z).2.1 rfl;exact I.step (ch:=ch) Mu (fun b o hL hb hc e n=>u.keep b o e n (fun z=>(List.mem_cons.mp (I.Ci b z)).elim hL hb) hc) (fun b o _ _ hc e n=>u.any e n hc) (fun b o hc e n=>u.free b o e n hc) (fun b o hc e=>u.there b o e hc) u.wD u.vL u.wG u.wI (fun m' hm=>by
  obtain⟨o',es',TL,FV,r'⟩:=hm;rw [ho] at FV; cases FV;exact⟨_,es',TL,hL,r'⟩) cz hg
theorem Inv.turned{t':Nat}{it:Addr}(I:Inv X pins σ H s)(k:∀ b o,b≠it->s.heap.get? b=some o->h'.get? b=some o)(hn:H it=none)(hL:it≠X.env.locals)
  (h1:it∈X.ex\/X.kG.heap.objs.size<=it) (h2:∀ x c,X.env.cells.lookup x=some c->c≠it) (h3:∀ p∈X.pn++pins,p.1≠it):Inv X pins σ H { s with heap:=h',toks:=t' }:=by
 have Ut:∀ b u,H b=some u->b≠it:=fun b u e z=>by rw [z,hn] at e; cases e
 refine I.step (g':=s.gens) (d':=s.drawn) (ch:=[it]) (fun b hb=>?_) (fun b o _ _ hc e _=>k b o (fun z=>hc (by simp [z])) e) (fun b o _ _ hc e _=>⟨o.slots,k b o (fun z=>hc (by simp [z])) e⟩) (fun _ _ _ _ n=>n)
  (fun b o hc e=>⟨o,k b o (fun z=>hc (by simp [z])) e⟩) (fun _ _ e=>e) (fun _ _ _ e=>e) (fun _ _ e=>e) (fun _ _ e=>e) (fun m hm=>?_) (fun b u e=>?_) I.bare
 ·have e:b=it:=by simpa using hb
  subst e;exact⟨h1,hL,h2,h3⟩
 ·obtain⟨o,es,ep,ho,r⟩:=hm;exact⟨o,es,ep,k _ o (ku hL) ho,r⟩
 ·refine(I.cz b u e).la (fun c v hc q=>k c v ?_ q) (fun _ q=>q) fun _ _ q=>q;rcases hc with z | z
  ·rw [z]; exact Ut b u e
  ·exact Ut c _ z
theorem Inv.tok(I:Inv X pins σ H s)(t:Nat):Inv X pins σ H { s with toks:=t }:=I.un (h':=s.heap) (t':=t) Un.refl I.cz
theorem Inv.kept{t':Nat}(I:Inv X pins σ H s)(k:∀ b u,s.heap.get? b=some u->h'.get? b=some u):Inv X pins σ H { s with heap:=h',toks:=t' }:=I.un (Un.kept k) (I.cz.kept k)
theorem Inv.laid{a:Addr}{o:HO}{t':Nat}(I:Inv X pins σ H s)(k:∀ b u,s.heap.get? b=some u->h'.get? b=some u)(hp:s.heap.objs.size<=a)(new:fN X.prog X.w (upd H a o) h' a o) :
  Inv X pins σ (upd H a o) { s with heap:=h',toks:=t' }:=I.un (Un.laid k hp (I.cz.fresh hp)) (I.cz.laid k hp new)
theorem Inv.write{x e:Addr}{o:HO}{t':Nat}(I:Inv X pins σ H s)(mu:Qz (H x))(he:e=x\/H e=some (.own x))(k:∀ b u,b≠e->s.heap.get? b=some u->h'.get? b=some u)(OB:∃ u,h'.get? e=some u)
  (new:fN X.prog X.w (upd H x o) h' x o):Inv X pins σ (upd H x o) { s with heap:=h',toks:=t' }:=I.un (Un.write mu he k OB) (I.cz.write mu he k OB new)
theorem Inv.Ef{Mm:List (Addr×Obj)}(I:Inv X pins σ H s)(h:∀ p∈Mm,s.heap.get? p.1=some p.2/\H p.1=none/\p.1≠X.env.locals/\p.1∉X.fs/\∀ v,p.2.data≠.cell v):Inv X Mm σ H s :=
 ⟨I.ok,I.os,I.bare,I.base,I.loc,I.cell,I.free,I.nq,fun p hp=>(List.mem_append.mp hp).elim (fun z=>I.pin p (KD _ z)) (h p),I.cz,I.len⟩
theorem AG{N:List Str}(hN:N.Nodup){i j:Nat}{x:Str}(a:N[i]?=some x)(b:N[j]?=some x):i=j:=by
 obtain⟨h1,e1⟩:=List.getElem?_eq_some_iff.mp a;obtain⟨h2,e2⟩:=List.getElem?_eq_some_iff.mp b;exact(List.getElem_inj hN).mp (e1.trans e2.symm)
theorem xg{M:Model}{A:cM}{E:Value->aj->Prop}{i:Nat}{x:Str}{v:V}{u:Value}{Q:Unit->aj->Prop}(I:Inv X pins σ H s)(hN:X.N.Nodup)(hi:X.N[i]?=some x)(hx:Loc X.env.scope x)(r:RelV v u)
  (h:∀ s',Inv X pins (σ.set i (some v)) H s'->(∃ a,nE a s.heap s'.heap/\(a=X.env.locals\/X.env.cells.lookup x=some a))->Q () s') (hf:autoParam (X.fn x=true\/X.env.scope.names.lookup x=some .local) Ao._auto_1):wpAny M A (storeName X.env x u) Q E s:=by
 obtain⟨m,hn,hl⟩:=id I.loc;have TB:(X.env.scope.kind == .class||(X.env.scope.kind == .module&&X.env.locals != X.env.globals))=false:=by rw [I.ok.kind]; rfl
 have PT:i < σ.length:=by rw [I.len]; exact(List.getElem?_eq_some_iff.mp hi).1
 have N7:=I.N7;have tracked:∀ {a:Addr} {h':Heap},(∃ o,s.heap.get? a=some o/\H a=none)->nE a s.heap h'->qc X.prog X.w H h':=fun {a h'} ha hs b ob e=>by
  obtain⟨_,_,nj⟩:=ha;refine(I.cz b ob e).la (fun c w' hc q=>(hs.2 c ?_).trans q) (fun _ q=>q) fun _ _ q=>q;rintro rfl;rcases hc with rfl | hc
  ·rw [nj] at e; cases e
  ·rw [nj] at hc; cases hc
 rcases hx with hk | hk
 ·refine wpAny_storeName_local hk hn (fun h' Ji hs=>?_) TB;obtain⟨oL,_,_,Ww,_⟩:=id hn;refine h _ ⟨I.ok,I.os,I.bare,⟨fun b o e n hb hx=>?_,fun b o e n hb hx=>?_,I.base.free,fun b o e hx=>?_,I.base.wD,I.base.vL,I.base.wG,I.base.wI⟩,⟨_,Ji,fun j y v' e1 e2 e3=>?_⟩,fun y c e=>?_,I.free,I.nq,fun p hp=>?_,tracked ⟨oL,Ww,I.free⟩ hs,by simpa using I.len⟩ ⟨_,hs,.inl rfl⟩
  ·exact(hs.2 b (bA (bp (aI e) I.ok.above))).trans (I.base.keep b o e n hb hx)
  ·obtain⟨sl,e1⟩:=I.base.slot b o e n hb hx;exact⟨sl,(hs.2 b (bA (bp (aI e) I.ok.above))).trans e1⟩
  ·obtain⟨o',e1⟩:=I.base.there b o e hx;exact⟨o',(hs.2 b (bA (bp (aI e) I.ok.above))).trans e1⟩
  ·by_cases hj:j=i
   ·subst hj;rw [hi] at e1; cases e1;rw [dD PT] at e2;cases e2;exact⟨u,r,.inl ⟨hk,by simp⟩⟩
   ·rw [eG (ku hj)] at e2;obtain⟨u',r',q⟩:=hl j y v' e1 e2 e3;refine⟨u',r',?_⟩;rcases q with ⟨k,e⟩ | ⟨k,c,e,z⟩
    ·refine .inl ⟨k,?_⟩;have:y≠x:=fun e=>hj (AG hN e1 (e ▸ hi));simp [this,e]
    ·exact .inr ⟨k,c,e,z.sameBut hs (N7 y c e)⟩
  ·obtain⟨w',z⟩:=I.cell y c e;exact⟨w',z.sameBut hs (N7 y c e)⟩
  ·obtain⟨e,n,ne,nf,d⟩:=I.pin p hp;exact⟨(hs.2 p.1 ne).trans e,n,ne,nf,d⟩
 ·have Tr:X.fn x=true:=by
   rcases hf with z | z
   ·exact z
   ·rw [z] at hk; cases hk
  obtain⟨c,hc⟩:=I.ok.has x (.inl hk);obtain⟨w',z⟩:=I.cell x c hc;refine wpAny_storeName_cell I.ok.kind hk hc z (fun h' Mw hs=>?_);obtain⟨oc,OA,Tc⟩:=id z;refine h { s with heap:=h' } ⟨I.ok,I.os,I.bare,⟨fun b o e n hb hx=>?_,fun b o e n hb hx=>?_,I.base.free,fun b o e hx=>?_,I.base.wD,I.base.vL,I.base.wG,I.base.wI⟩,⟨m,hn.sameBut hs (ku (N7 x c hc)),fun j y v' e1 e2 e3=>?_⟩,fun y c' e=>?_,I.free,I.nq,fun p hp=>?_,tracked ⟨oc,OA,I.nq x c hc⟩ hs,by simpa using I.len⟩ ⟨c,hs,.inr hc⟩
  ·exact(hs.2 b (bA (bp (aI e) (I.ok.Qp x c Tr hc)))).trans (I.base.keep b o e n hb hx)
  ·obtain⟨sl,e1⟩:=I.base.slot b o e n hb hx;exact⟨sl,(hs.2 b (bA (bp (aI e) (I.ok.Qp x c Tr hc)))).trans e1⟩
  ·obtain⟨o',e1⟩:=I.base.there b o e hx;exact⟨o',(hs.2 b (bA (bp (aI e) (I.ok.Qp x c Tr hc)))).trans e1⟩
  ·by_cases hj:j=i
   ·subst hj;rw [hi] at e1; cases e1;rw [dD PT] at e2;cases e2;exact⟨u,r,.inr ⟨.inl hk,c,hc,Mw⟩⟩
   ·rw [eG (ku hj)] at e2;obtain⟨u',r',q⟩:=hl j y v' e1 e2 e3;refine⟨u',r',?_⟩;rcases q with q | ⟨k,c',e,z'⟩
    ·exact .inl q
    ·refine .inr ⟨k,c',e,z'.sameBut hs ?_⟩;rintro rfl;exact hj (AG hN e1 (I.ok.inj _ _ _ e hc ▸ hi))
  ·by_cases QW:c'=c
   ·subst QW; exact⟨_,Mw⟩
   ·obtain⟨w2,z2⟩:=I.cell y c' e;exact⟨w2,z2.sameBut hs QW⟩
  ·obtain⟨e,n,ne,nf,d⟩:=I.pin p hp;refine⟨(hs.2 p.1 ?_).trans e,n,ne,nf,d⟩;intro q;rw [q,OA] at e;have q':oc=p.2:=bg e;exact d w' (by rw [<-q']; exact Tc)
theorem uL{M:Model}{A:cM}{E:Value->aj->Prop}{i:Nat}{x:Str}{v:V}{u:Value}{Q:Unit->aj->Prop}(I:Inv X pins σ H s)(hN:X.N.Nodup)(hi:X.N[i]?=some x)(hx:Loc X.env.scope x)(r:RelV v u)
  (h:∀ s',Inv X pins (σ.set i (some v)) H s'->Q () s') (hf:autoParam (X.fn x=true\/X.env.scope.names.lookup x=some .local) Ao._auto_1):wpAny M A (storeName X.env x u) Q E s :=
 xg I hN hi hx r (fun s' I' _=>h s' I') hf
end
noncomputable abbrev XK:=Value->Option Addr->Hp->Prop
noncomputable abbrev St:=List (Option V)
noncomputable abbrev VK:=V->Hp->Prop
noncomputable abbrev TE:=St->Hp->VK->Prop
noncomputable abbrev TT:=St->Hp->(Bool->Hp->Prop)->Prop
noncomputable abbrev TA:=St->Hp->(List V->Hp->Prop)->Prop
structure Ends where
 nx:St->Hp->Prop
 rt:VK
 bk:St->Hp->Prop:=fun _ _=>False
 ct:St->Hp->Prop:=fun _ _=>False
noncomputable abbrev TS:=Ends->St->Hp->Prop
noncomputable def EP(X:Cx)(pins:List (Addr×Obj))(σ:St)(Q:VK)(u:Value)(s':aj):Prop:=∃ v H',Inv X pins σ H' s'/\RelV v u/\Q v H'
noncomputable def TP(X:Cx)(pins:List (Addr×Obj))(σ:St)(Q:Bool->Hp->Prop)(b:Bool)(s':aj):Prop:=∃ H',Inv X pins σ H' s'/\Q b H'
noncomputable def SP(X:Cx)(pins:List (Addr×Obj))(D:Ends)(f:Flow)(s':aj):Prop :=
 match f with
 | .next=>∃ g7 H',Inv X pins g7 H' s'/\D.nx g7 H'
 | .brk=>∃ g7 H',Inv X pins g7 H' s'/\D.bk g7 H'
 | .cont=>∃ g7 H',Inv X pins g7 H' s'/\D.ct g7 H'
 | .ret u=>∃ v g7 H',Inv X pins g7 H' s'/\RelV v u/\D.rt v H'
noncomputable def PE(X:Cx)(e:Expr)(t:TE):Prop :=
 ∀ (pins:List (Addr×Obj)) (s:aj) (σ:St) (H:Hp) (Q:VK),Inv X pins σ H s->t σ H Q->wpAny (model X.prog X.w) X.A (eval e X.env) (EP X pins σ Q) X.xe s
noncomputable def OM(X:Cx)(st:List Stmt)(t:TS):Prop :=
 ∀ (pins:List (Addr×Obj)) (s:aj) (σ:St) (H:Hp) (D:Ends),Inv X pins σ H s->t D σ H->wpAny (model X.prog X.w) X.A (execs st X.env) (SP X pins D) X.xe s
theorem eN{α:Type}{t:Sem α}{Q Q':α->aj->Prop}{M:Model}{A:cM}{E:Value->aj->Prop}{s:aj}(h:wpAny M A t Q E s)(hQ:∀ a s,Q a s->Q' a s):wpAny M A t Q' E s:=k7 h hQ fun _ _ x=>x
section
variable {X:Cx}
noncomputable def RH(i:Nat):TE:=fun σ H Q=>∃ v,σ[i]?=some (some v)/\Q v H
noncomputable def tC(v:V):TE:=fun _ H Q=>Q v H
theorem Ih {i:Nat} {x:Str} {pos:Pos} (hN:X.N[i]?=some x) (hv:OG X.env.scope x) (hd:autoParam ((x == ("__debug__" : Str))=false) Ad._auto_1) (yS:autoParam ((x == ("__classdict__" : Str))=false) Ad._auto_1):PE X (.Name x pos) (RH i):=by
 intro pins s σ H Q I h;obtain⟨v,e,h⟩:=h;obtain⟨m,hn,hl⟩:=I.loc;obtain⟨u,r,l⟩:=hl i x v hN e hv;have fin:EP X pins σ Q u s:=⟨v,H,I,r,h⟩;rcases l with ⟨hk,hm⟩ | ⟨hk,c,hc,nk⟩
 ·exact wpAny_Name (wpAny_loadName_local I.ok.kind hk hn hm fin) hd
 ·rcases hk with hk | hk
  ·exact wpAny_Name (wpAny_loadName_cell I.ok.kind hk hc nk fin) hd
  ·exact wpAny_Name (wpAny_loadName_free I.ok.kind hk hc nk fin yS) hd
theorem M8{i j pos}:PE X (.Constant (.int i) j pos) (tC (.int i)):=fun _ _ _ H _ I h=>wpAny_Constant_int ⟨.int i,H,I.tok _,⟨_,rfl⟩,h⟩
theorem Pc{b j pos}:PE X (.Constant (.bool b) j pos) (tC (.bl b)):=fun _ _ _ H _ I h=>Constant_bool ⟨.bl b,H,I,rfl,h⟩
theorem M7{j pos}:PE X (.Constant .none j pos) (tC .cf):=fun _ _ _ H _ I h=>Constant_none ⟨.cf,H,I,rfl,h⟩
theorem M6{x j pos}:PE X (.Constant (.str x) j pos) (tC (.str x)):=fun _ _ _ H _ I h=>Calls.Constant_str ⟨.str x,H,I.tok _,⟨_,rfl⟩,h⟩
noncomputable def Gl(X:Cx)(x:Str):Prop:=X.env.kindOf x=some .globalImplicit
theorem uo{E:Value->aj->Prop}{pins:List (Addr×Obj)}{s:aj}{σ:St}{H:Hp}{x:Str}{u:Value}{pos:Pos}{Q:Value->aj->Prop}(I:Inv X pins σ H s)(hg:Gl X x)(hm:X.mg x=some u)(h:Q u s)
  (hd:autoParam ((x == ("__debug__" : Str))=false) Ad._auto_1):wpAny (model X.prog X.w) X.A (eval (.Name x pos) X.env) Q E s :=
 BS I.ok.kind hg (Calls.loadGlobal_global (by rw [I.ok.glob]; exact I.mod.glob.keeps I.bk) hm h) hd
theorem oq{E:Value->aj->Prop}{pins:List (Addr×Obj)}{s:aj}{σ:St}{H:Hp}{x:Str}{u:Value}{pos:Pos}{Q:Value->aj->Prop}(I:Inv X pins σ H s)(hg:Gl X x)(hm:X.mg x=none)(hv:cS x=some u)(h:Q u s)
  (hn:autoParam (x≠"__name__") Ad._auto_1) (hd:autoParam ((x == ("__debug__" : Str))=false) Ad._auto_1):wpAny (model X.prog X.w) X.A (eval (.Name x pos) X.env) Q E s:=by
 obtain⟨mb,h1,h2⟩:=I.mod.blt;exact BS I.ok.kind hg (Calls.loadGlobal_builtin (by rw [I.ok.glob]; exact I.mod.glob.keeps I.bk) hm (by rw [I.ok.blt]; exact h1.keeps I.bk) ((h2 x hn).trans hv) h) hd
theorem Eg {x:Str} {v:V} {u:Value} {pos:Pos} (hg:Gl X x) (hm:X.mg x=some u) (r:RelV v u) (hd:autoParam ((x == ("__debug__" : Str))=false) Ad._auto_1):PE X (.Name x pos) (tC v) :=
 fun _ _ _ H _ I h=>uo I hg hm ⟨v,H,I,r,h⟩ hd
variable {a b:Expr} {ta tb:TE} {pos:Pos}
noncomputable def tB(t:TE):TT:=fun σ H Q=>t σ H fun x H1=>∃ c,x=.bl c/\Q c H1
variable {tA Yy:TT} {rest:List Expr}
end
noncomputable def rL(K:af)(H:Hp)(a:Addr)(xs:List V):Prop :=
 Rd H a (.lst xs) \/
  ∃ (o:Obj) (aZ:Array Value) (n:Nat),K.lookup a=some o/\o.cls=.type "list"/\o.dict=none/\o.data=.seq aZ n/\aZ.size<=aT/\Vals xs aZ.toList
noncomputable def t8(K:af)(H:Hp)(a:Addr)(xs:List V):Prop :=
 Rd H a (.tup xs) \/
  ∃ (o:Obj) (aZ:Array Value) (n:Nat),K.lookup a=some o/\o.cls=.type "tuple"/\o.data=.seq aZ n/\aZ.size<=aT/\Vals xs aZ.toList
noncomputable def TR:Value->Option V
 | .none=>some .cf
 | .bool b=>some (.bl b)
 | .int i _=>some (.int i)
 | .str x _=>some (.str x)
 | .bytes b _=>some (.N8 b)
 | .float b _=>some (.Qf b)
 | .ref a=>some (.ref a)
 | .type n=>some (.ty n)
 | _=>none
theorem RelV.abs{x:V}{u:Value}(r:RelV x u):TR u=some x:=by
 cases x with
 | cf=>cases r; rfl
 | bl _=>cases r; rfl
 | int _=>obtain⟨t,rfl⟩:=r; rfl
 | str _=>obtain⟨t,rfl⟩:=r; rfl
 | N8 _=>obtain⟨t,rfl⟩:=r; rfl
 | Qf _=>obtain⟨t,rfl⟩:=r; rfl
 | ref _=>cases r; rfl
 | ty _=>cases r; rfl
theorem RelV.inj{x y:V}{u:Value}(r:RelV x u)(q:RelV y u):x=y:=bg (r.abs.symm.trans q.abs)
theorem Vals.inj:∀ {xs ys:List V} {us:List Value},Vals xs us->Vals ys us->xs=ys:=by
 intro xs ys us h;induction h generalizing ys with
 | nil=>intro k; cases k; rfl
 | cons r t ih =>
  intro k;cases k with
  | cons r' t'=>rw [r.inj r',ih t']
section
variable {X:Cx} {pins:List (Addr×Obj)} {σ:St} {H:Hp} {s:aj} {a:Addr} {xs ys:List V}
theorem rL.of{K:af}(h:H a=some (.lst xs)):rL K H a xs:=.inl (.inl h)
theorem t8.of{K:af}(h:H a=some (.tup xs)):t8 K H a xs:=.inl (.inl h)
theorem Inv.list(I:Inv X pins σ H s)(h:rL X.K H a xs):∃ aZ:List Value,Vals xs aZ/\PlainL s.heap a aZ.toArray/\xs.length<=aT:=by
 rcases h with h | ⟨o,aZ,n,hk,hc,hd,hs,hz,r⟩
 ·obtain⟨z,aZ,n,r,e⟩:=h.ok I.cz;exact⟨aZ,r,⟨_,n,e,rfl,rfl,rfl⟩,z⟩
 ·refine⟨aZ.toList,r,⟨o,n,I.BV a o hk,hc,hd,by simpa using hs⟩,?_⟩;have e:=r.length;simp only [bu] at e;lia
theorem Inv.tuple(I:Inv X pins σ H s)(h:t8 X.K H a xs):∃ aZ:List Value,Vals xs aZ/\IsTup s.heap a aZ.toArray/\xs.length<=aT:=by
 rcases h with h | ⟨o,aZ,n,hk,hc,hs,hz,r⟩
 ·obtain⟨z,aZ,r,p⟩:=h.ok I.cz;exact⟨aZ,r,p,z⟩
 ·refine⟨aZ.toList,r,⟨o,I.BV a o hk,hc,n,by simpa using hs⟩,?_⟩;have e:=r.length;simp only [bu] at e;lia
theorem Inv.AR(I:Inv X pins σ H s)(h:rL X.K H a xs)(h':rL X.K H a ys):xs=ys:=by
 obtain⟨aZ,r,⟨o,n,e,_,_,d⟩,_⟩:=I.list h;obtain⟨its',r',⟨o',n',e',_,_,d'⟩,_⟩:=I.list h';rw [e] at e'; cases e';rw [d] at d';injection d' with d1 _
 have:aZ=its':=by simpa using congrArg Array.toList d1
 subst this;exact r.inj r'
theorem Inv.Fh(I:Inv X pins σ H s)(h:t8 X.K H a xs)(h':t8 X.K H a ys):xs=ys:=by
 obtain⟨aZ,r,⟨o,e,_,n,d⟩,_⟩:=I.tuple h;obtain⟨its',r',⟨o',e',_,n',d'⟩,_⟩:=I.tuple h';rw [e] at e'; cases e';rw [d] at d';injection d' with d1 _
 have:aZ=its':=by simpa using congrArg Array.toList d1
 subst this;exact r.inj r'
end
noncomputable abbrev Cx.wC(X:Cx)(E:Value->aj->Prop):Cx:={ X with xe:=E }
noncomputable abbrev Cx.Ou(X:Cx):Cx:=X.wC fun _ _=>False
theorem Cx.Ok.wC{X:Cx}(ok:X.Ok)(E:Value->aj->Prop):(X.wC E).Ok :=
 ⟨ok.mod,ok.kind,ok.glob,ok.blt,ok.above,ok.inj,ok.has,ok.Qp,ok.hd,ok.frames,ok.QF,ok.Q4,ok.bs,ok.L6,ok.Iz,ok.JA,ok.vK,ok.OF⟩
theorem Cx.Ok.nV{X:Cx}{E:Value->aj->Prop}(ok:(X.wC E).Ok):X.Ok :=
 ⟨ok.mod,ok.kind,ok.glob,ok.blt,ok.above,ok.inj,ok.has,ok.Qp,ok.hd,ok.frames,ok.QF,ok.Q4,ok.bs,ok.L6,ok.Iz,ok.JA,ok.vK,ok.OF⟩
section
variable {X:Cx} {pins:List (Addr×Obj)} {σ:St} {H:Hp} {s:aj} {E:Value->aj->Prop}
theorem Inv.wC(I:Inv X pins σ H s)(E:Value->aj->Prop):Inv (X.wC E) pins σ H s:=⟨I.ok.wC E,I.os,I.bare,I.base,I.loc,I.cell,I.free,I.nq,I.pin,I.cz,I.len⟩
theorem Inv.nV(I:Inv (X.wC E) pins σ H s):Inv X pins σ H s:=⟨I.ok.nV,I.os,I.bare,I.base,I.loc,I.cell,I.free,I.nq,I.pin,I.cz,I.len⟩
theorem SP.nV{D:Ends}{f:Flow}{s':aj}(h:SP (X.wC E) pins D f s'):SP X pins D f s':=by
 cases f with
 | next=>obtain⟨g7,H',I,q⟩:=h; exact⟨g7,H',I.nV,q⟩
 | brk=>obtain⟨g7,H',I,q⟩:=h; exact⟨g7,H',I.nV,q⟩
 | cont=>obtain⟨g7,H',I,q⟩:=h; exact⟨g7,H',I.nV,q⟩
 | ret u=>obtain⟨v,g7,H',I,r,q⟩:=h; exact⟨v,g7,H',I.nV,r,q⟩
theorem OM.Ou{st:List Stmt}{t:TS}(h:OM X.Ou st t):OM X st t:=fun pins s σ H D I hw =>
 k7 (h pins s σ H D (I.wC _) hw) (fun _ _ q=>q.nV) fun _ _ z=>bB z
end
section
variable {X:Cx} {st:Stmt} {rest:List Stmt} {t u:TS} {e:Expr} {te:TE} {pos:Pos}
theorem Inv.quiet{pins:List (Addr×Obj)}{σ:St}{H:Hp}{s:aj}(I:Inv X pins σ H s):interactive X.env=false:=by simp [interactive,I.ok.kind]
end
noncomputable abbrev TV:=V->V->V->Hp->(Hp->Prop)->Prop
noncomputable def TY(X:Cx)(t:TV):Prop :=
 ∀ (pins:List (Addr×Obj)) (s:aj) (σ:St) (H:Hp) (o i v:V) (ov iv u:Value) (Q:Hp->Prop),Inv X pins σ H s->RelV o ov->RelV i iv->RelV v u->t o i v H Q ->
  wpAny (model X.prog X.w) X.A (setItem ov iv u) (fun _ s'=>∃ H',Inv X pins σ H' s'/\Q H') X.xe s
structure It where
 go:Nat->Hp->Prop
 T7:Nat->Hp->V->Hp->Prop
 stop:Nat->Hp->Prop
noncomputable def nH(X:Cx)(pins:List (Addr×Obj))(H:Hp)(b:Addr):Prop :=
 H b=none/\b≠X.env.locals/\b∉X.fs/\(b∈X.ex\/X.kG.heap.objs.size<=b)/\(∀ x c,X.env.cells.lookup x=some c->c≠b)/\∀ p∈X.pn++pins,p.1≠b
theorem Inv.CZ{X:Cx}{pins:List (Addr×Obj)}{σ:St}{H H':Hp}{s:aj}{b:Addr}(I:Inv X pins σ H s)(hb:s.heap.objs.size<=b)(hn:H' b=none):nH X pins H' b:=by
 refine⟨hn,Nat.ne_of_gt (bp I.lt hb),I.Sq hb,.inr (bf I.sz hb),fun x c e z=>?_,fun p hp z=>?_⟩
 ·obtain⟨v,q⟩:=I.cell x c e;exact absurd (bp q.lt (by rw [z]; exact hb)) (cX _)
 ·exact absurd (bp (aI (I.pin p hp).1) (by rw [z]; exact hb)) (cX _)
structure Turn(P:bx)(w:World)(K:af)(tg:Expr)(J:It)(fp:List Addr)(it:Addr)(tn:Nat->Heap->Prop):Prop where
 mem:it∈fp
 obj:∀ i h,tn i h->∀ b∈fp,∃ o,h.get? b=some o/\∀ v,o.data≠.cell v
 keep:∀ i h h',tn i h->(∀ b∈fp,∀ o,h.get? b=some o->h'.get? b=some o)->tn i h'
 item:∀ (X:Cx),X.prog=P->X.w=w->X.K=K->X.calm=true->∀ (i:Nat) (pins:List (Addr×Obj)) (s:aj) (σ:St) (H:Hp) (E:Value->aj->Prop),Inv X pins σ H s->(∀ b∈fp,nH X pins H b)->tn i s.heap->J.go i H ->
  wpAny (model P w) X.A (pB (.ref it)) (fun r s1=>∃ u,r=some u /\
   wpAny (model P w) X.A (uD tg (.ref it) u) (fun _ s2=>∃ x H',Inv X pins σ H' s2/\RelV x u/\J.T7 i H x H'/\tn (i+1) s2.heap/\∀ b∈fp,H' b=none) E s1) E s
 done:∀ (X:Cx),X.prog=P->X.w=w->X.K=K->X.calm=true->∀ (i:Nat) (pins:List (Addr×Obj)) (s:aj) (σ:St) (H:Hp) (E:Value->aj->Prop),Inv X pins σ H s->(∀ b∈fp,nH X pins H b)->tn i s.heap->J.stop i H ->
  wpAny (model P w) X.A (pB (.ref it)) (fun r s1=>r=none/\Inv X pins σ H s1) E s
 self:∀ (A:cM) (i:Nat) (s:aj) (Q:Value->aj->Prop) (E:Value->aj->Prop),tn i s.heap->Q (.ref it) s->wpAny (model P w) A (w6 (.ref it)) Q E s
noncomputable abbrev TI:=St->Hp->(It->Hp->Prop)->Prop
noncomputable def Yg(X:Cx)(pins:List (Addr×Obj))(σ:St)(tg:Expr)(R:It->Hp->Prop)(Mp:Value)(s2:aj):Prop :=
 ∃ (it:Addr) (fp:List Addr) (tn:Nat->Heap->Prop) (J:It) (H':Hp),Mp=.ref it/\Inv X pins σ H' s2/\Turn X.prog X.w X.K tg J fp it tn/\tn 0 s2.heap/\(∀ b∈fp,nH X pins H' b)/\R J H'
theorem A0{M:Model}{A:cM}{E:Value->aj->Prop}{s:aj}{tg:Expr}{it:Addr}{u:Value}{o:Obj}{n:String}{vs:Array Value}{Q:Unit->aj->Prop}(ho:s.heap.get? it=some o)(hc:o.cls=.type n)(hd:o.data=.fields vs)
    (hn:["enumerate","zip","dict_itemiterator","dict_reverseitemiterator","odict_iterator","itertools.zip_longest","itertools.pairwise"].contains n=false) (hQ:Q () s):wpAny M A (uD tg (.ref it) u) Q E s:=by
  unfold uD;cases tg <;> first
    | exact aq hQ
    | (cases u <;> first
        | exact aq hQ
        | (refine ae (wpAny_load ho ?_)
           rw [hc,hd];show wpAny M A (if (["enumerate","zip","dict_itemiterator","dict_reverseitemiterator","odict_iterator","itertools.zip_longest","itertools.pairwise"].contains n&&vs[0]? == some (w5 _))=true then _ else _) Q E s;rw [if_neg (by intro h; rw [hn,DV] at h; cases h)];exact aq hQ))
noncomputable def Yn(K:af)(a:Addr):It :=
 ⟨fun i H=>∃ xs x,rL K H a xs/\xs[i]?=some x,fun i H x H'=>H'=H/\∀ xs,rL K H a xs->xs[i]?=some x,fun i H=>∃ xs,rL K H a xs/\xs.length<=i⟩
noncomputable def Yl(K:af)(a:Addr):It :=
 ⟨fun i H=>∃ xs x,t8 K H a xs/\xs[i]?=some x,fun i H x H'=>H'=H/\∀ xs,t8 K H a xs->xs[i]?=some x,fun i H=>∃ xs,t8 K H a xs/\xs.length<=i⟩
noncomputable def T4(lo:Int)(n:Nat):It:=⟨fun i _=>i < n,fun i H x H'=>H'=H/\x=.int (lo+i),fun i _=>n<=i⟩
theorem Fe{P:bx}{w:World}{K:af}{tg:Expr}(a it:Addr):Turn P w K tg (Yn K a) [it] it (fun i h=>h.IsListIter it a i) where
 mem:=by simp
 obj:=fun i h st b hb=>by
  have e:b=it:=by simpa using hb
  subst e;obtain⟨o,e,c,d⟩:=st;exact⟨o,e,fun v z=>by rw [d] at z; cases z⟩
 keep:=fun i h h' st k=>st.at fun o e=>k it (by simp) o e
 item:=by
  intro X hP hw hK hc i pins s σ H E I hf st hg;subst hP hw hK;obtain⟨xs,x,hq,hx⟩:=hg;obtain⟨aZ,rv,p,hz⟩:=I.list hq;obtain⟨u,hu,ru⟩:=rv.get hx;obtain⟨f0,f1,f2,f3,f4,f5⟩:=hf it (by simp);refine wpAny_pyNext_list_item st p.isList (x:=u) (by simpa using hu) fun h' ue sb=>?_;have I1:Inv X pins σ H { s with heap:=h' }:=I.turned (t':=s.toks) (fun b o hb e=>(sb.2 b hb).trans e) f0 f1 f3 f4 f5;obtain⟨o,e,c,d⟩:=id ue;exact⟨u,rfl,A0 (s:={ s with heap:=h' }) e c d (by decide) ⟨x,H,I1,ru,⟨rfl,fun ys hy=>by rw [I.AR hy hq]; exact hx⟩,ue,fun b hb=>(hf b hb).1⟩⟩
 done:=by
  intro X hP hw hK hc i pins s σ H E I hf st hg;subst hP hw hK;obtain⟨xs,hq,hx⟩:=hg;obtain⟨aZ,rv,p,hz⟩:=I.list hq;obtain⟨f0,f1,f2,f3,f4,f5⟩:=hf it (by simp);have hl:=rv.length;exact wpAny_pyNext_list_end (I.ok.hd hc) st p.isList (by simp; lia) fun h' eb=>⟨rfl,I.turned (t':=s.toks) (fun b o hb e=>eb b o hb e) f0 f1 f3 f4 f5⟩
 self:=fun _ _ _ _ _ st h=>wpAny_pyIter_listiter st h
theorem Cc{P:bx}{w:World}{K:af}{tg:Expr}(a it:Addr):Turn P w K tg (Yl K a) [it] it (fun i h=>h.IsTupleIter it a i) where
 mem:=by simp
 obj:=fun i h st b hb=>by
  have e:b=it:=by simpa using hb
  subst e;obtain⟨o,e,c,d⟩:=st;exact⟨o,e,fun v z=>by rw [d] at z; cases z⟩
 keep:=fun i h h' st k=>st.at fun o e=>k it (by simp) o e
 item:=by
  intro X hP hw hK hc i pins s σ H E I hf st hg;subst hP hw hK;obtain⟨xs,x,hq,hx⟩:=hg;obtain⟨aZ,rv,p,hz⟩:=I.tuple hq;obtain⟨u,hu,ru⟩:=rv.get hx;obtain⟨f0,f1,f2,f3,f4,f5⟩:=hf it (by simp);refine wpAny_pyNext_tuple_item st (show s.heap.IsTuple a aZ.toArray from p) (x:=u) (by simpa using hu) fun h' ue sb=>?_;have I1:Inv X pins σ H { s with heap:=h' }:=I.turned (t':=s.toks) (fun b o hb e=>(sb.2 b hb).trans e) f0 f1 f3 f4 f5;obtain⟨o,e,c,d⟩:=id ue;exact⟨u,rfl,A0 (s:={ s with heap:=h' }) e c d (by decide) ⟨x,H,I1,ru,⟨rfl,fun ys hy=>by rw [I.Fh hy hq]; exact hx⟩,ue,fun b hb=>(hf b hb).1⟩⟩
 done:=by
  intro X hP hw hK hc i pins s σ H E I hf st hg;subst hP hw hK;obtain⟨xs,hq,hx⟩:=hg;obtain⟨aZ,rv,p,hz⟩:=I.tuple hq;obtain⟨f0,f1,f2,f3,f4,f5⟩:=hf it (by simp);have hl:=rv.length;exact wpAny_pyNext_tuple_end (I.ok.hd hc) st (show s.heap.IsTuple a aZ.toArray from p) (by simp; lia) fun h' eb=>⟨rfl,I.turned (t':=s.toks) (fun b o hb e=>eb b o hb e) f0 f1 f3 f4 f5⟩
 self:=fun _ _ _ _ _ st h=>wpAny_pyIter_tupleiter st h
theorem Cd{P:bx}{w:World}{K:af}{tg:Expr}(it:Addr)(lo:Int)(n:Nat):Turn P w K tg (T4 lo n) [it] it (fun i h=>IsRangeIter h it (lo+(i:Nat) * 1) ((n:Int) - (i:Nat)) 1) where
 mem:=by simp
 obj:=fun i h st b hb=>by
  have e:b=it:=by simpa using hb
  subst e;exact⟨_,st,fun v z=>by
   have z':Data.fields _=Data.cell v:=z;cases z'⟩
 keep:=fun i h h' st k=>k it (by simp) _ st
 item:=by
  intro X hP hw hK hc i pins s σ H E I hf st hg;subst hP hw hK;obtain⟨f0,f1,f2,f3,f4,f5⟩:=hf it (by simp);have W:=Walks.range (prog:=X.prog) (w:=X.w) (I.ok.hd hc) it lo 1 n;refine W.item i s _ _ hg st fun v h' tk hv ue kk=>?_;obtain⟨t,rfl⟩:=hv;have I1:Inv X pins σ H { s with heap:=h',toks:=tk }:=I.turned (fun b o hb e=>kk b o (by simpa using hb) e) f0 f1 f3 f4 f5;refine⟨_,rfl,A0 (s:={ s with heap:=h',toks:=tk }) (n:="range_iterator") ue rfl rfl (by decide) ⟨.int (lo+i),H,I1,⟨t,?_⟩,⟨rfl,rfl⟩,ue,fun b hb=>(hf b hb).1⟩⟩;rw [Int.mul_one]
 done:=by
  intro X hP hw hK hc i pins s σ H E I hf st hg;subst hP hw hK;obtain⟨f0,f1,f2,f3,f4,f5⟩:=hf it (by simp);exact wpAny_pyNext_range_end (I.ok.hd hc) st (by have:n<=i:=hg; lia) fun h' eb=>⟨rfl,I.turned (t':=s.toks) (fun b o hb e=>eb b o hb e) f0 f1 f3 f4 f5⟩
 self:=fun _ _ _ _ _ st h=>wpAny_pyIter_rangeiter st h
section
variable {X:Cx} {tg:Expr}
theorem HY{pins:List (Addr×Obj)}{σ:St}{H:Hp}{s:aj}{R:It->Hp->Prop}{E:Value->aj->Prop}{lo hi:Int}{t u v:Tok}{tk:Nat}(I:Inv X pins σ H s)(h1:-(2 ^ 62)<=lo)(h2:lo < 2 ^ 62)(h3:-(2 ^ 62)<=hi)(h4:hi < 2 ^ 62)
  (q:R (T4 lo (hi - lo).toNat) H):wpAny (model X.prog X.w) X.A (w6 (.ref s.heap.objs.size)) (Yg X pins σ tg R) E { s with heap:=s.heap.push { cls:=.type "range",data:=.fields #[.int lo t,.int hi u,.int 1 v] },toks:=tk }:=by
 refine wpAny_pyIter_range (IsRange.new ..) (small_one h1 h2 h3 h4) ?_;have I1:Inv X pins σ H { s with heap:=s.heap.push { cls:=.type "range",data:=.fields #[.int lo t,.int hi u,.int 1 v] },toks:=tk }:=I.kept fun b o e=>aw _ e
 refine⟨(s.heap.push { cls:=.type "range",data:=.fields #[.int lo t,.int hi u,.int 1 v] }).objs.size,[(s.heap.push { cls:=.type "range",data:=.fields #[.int lo t,.int hi u,.int 1 v] }).objs.size],_,_,H,rfl,
  I1.kept (t':=tk) fun b o e=>aw _ e,Cd _ lo (hi - lo).toNat,?_,fun b hb=>?_,q⟩
 ·have e1:lo+((0:Nat):Int) * 1=lo:=by simp
  have e2:(((hi - lo).toNat:Nat):Int) - ((0:Nat):Int)=Builtin.Range.rangeSize lo hi 1:=by rw [rangeSize_one]; split <;> lia
  show IsRangeIter _ _ (lo+((0:Nat):Int) * 1) ((((hi - lo).toNat:Nat):Int) - ((0:Nat):Int)) 1;rw [e1,e2];exact aK _ rfl
 ·have e:b=(s.heap.push { cls:=.type "range",data:=.fields #[.int lo t,.int hi u,.int 1 v] }).objs.size:=by simpa using hb
  subst e;exact I1.CZ (ay _) (I1.cz.fresh (ay _))
noncomputable def n8(fp:List Addr)(h:Heap):List (Addr×Obj):=fp.filterMap fun b=>(h.get? b).map fun o=>(b,o)
theorem mx{fp:List Addr}{h:Heap}{b:Addr}{o:Obj}(hb:b∈fp)(e:h.get? b=some o):(b,o)∈n8 fp h:=List.mem_filterMap.mpr ⟨b,hb,by rw [e]; rfl⟩
theorem FK{fp:List Addr}{h:Heap}{p:Addr×Obj}(hp:p∈n8 fp h):p.1∈fp/\h.get? p.1=some p.2:=by
 obtain⟨b,hb,e⟩:=List.mem_filterMap.mp hp;cases q:h.get? b with
 | none=>rw [q] at e; cases e
 | some o =>
  rw [q] at e;have e':(b,o)=p:=bg e;subst e';exact⟨hb,q⟩
theorem Inv.pinned{pins:List (Addr×Obj)}{σ:St}{H:Hp}{s:aj}{fp:List Addr}(I:Inv X pins σ H s)(hf:∀ b∈fp,nH X pins H b)(ho:∀ b∈fp,∃ o,s.heap.get? b=some o/\∀ v,o.data≠.cell v):Inv X (pins++n8 fp s.heap) σ H s :=
 I.Ef fun p hp=>(List.mem_append.mp hp).elim (fun z=>I.pin p (cq _ z)) fun z=>by
  obtain⟨hb,e⟩:=FK z;obtain⟨f0,f1,f2,_⟩:=hf p.1 hb;obtain⟨o,e',d⟩:=ho p.1 hb;rw [e] at e'; cases e';exact⟨e,f0,f1,f2,d⟩
theorem Inv.qm{pins pl:List (Addr×Obj)}{σ:St}{H:Hp}{s:aj}(I:Inv X (pins++pl) σ H s):Inv X pins σ H s:=I.Ef fun p hp=>I.pin p (cq _ (KD _ hp))
end
noncomputable abbrev R2:=V->V->Hp->VK->Prop
noncomputable def E6(X:Cx)(f:Value->Value->Sem Value)(r:R2):Prop :=
 ∀ (pins:List (Addr×Obj)) (s:aj) (σ:St) (H:Hp) (x y:V) (v u:Value) (Q:VK),Inv X pins σ H s->RelV x v->RelV y u->r x y H Q ->
  wpAny (model X.prog X.w) X.A (f v u) (EP X pins σ Q) X.xe s
noncomputable def Ve(X:Cx)(f:Value->Sem Value)(r:V->Hp->VK->Prop):Prop :=
 ∀ (pins:List (Addr×Obj)) (s:aj) (σ:St) (H:Hp) (x:V) (v:Value) (Q:VK),Inv X pins σ H s->RelV x v->r x H Q ->
  wpAny (model X.prog X.w) X.A (f v) (EP X pins σ Q) X.xe s
noncomputable def Kc(X:Cx)(f:Value)(r:List V->Hp->VK->Prop):Prop :=
 ∀ (pins:List (Addr×Obj)) (s:aj) (σ:St) (H:Hp) (xs:List V) (us:List Value) (Q:VK),Inv X pins σ H s->Vals xs us->r xs H Q ->
  wpAny (model X.prog X.w) X.A (call f us) (EP X pins σ Q) X.xe s
noncomputable def TU(X:Cx)(r:V->Hp->(Bool->Hp->Prop)->Prop):Prop :=
 ∀ (pins:List (Addr×Obj)) (s:aj) (σ:St) (H:Hp) (x:V) (v:Value) (Q:Bool->Hp->Prop),Inv X pins σ H s->RelV x v->r x H Q ->
  wpAny (model X.prog X.w) X.A (truthy v) (TP X pins σ Q) X.xe s
noncomputable def rI(C:Int->Int->Prop)(g:Int->Int->V):R2:=fun x y H Q=>∃ i j,x=.int i/\y=.int j/\C i j/\Q (g i j) H
noncomputable def M4(g:Int->Int->V):R2:=fun x y H Q=>∃ i j,x=.int i/\y=.int j/\Q (g i j) H
noncomputable def rU(g:Int->V):V->Hp->VK->Prop:=fun x H Q=>∃ i,x=.int i/\Q (g i) H
section
variable {X:Cx} {a b c:Expr} {ta tb tc:TE} {pos:Pos}
theorem R1{f:Value->Value->Sem Value}{C:Int->Int->Prop}{g:Int->Int->Int}
  (rule:∀ (i j:Int) (t u:Tok) (s:aj) (Q:Value->aj->Prop) (E:Value->aj->Prop),C i j->Q (.int (g i j) s.toks) { s with toks:=s.toks+1 }->wpAny (model X.prog X.w) X.A (f (.int i t) (.int j u)) Q E s) :
  E6 X f (rI C fun i j=>.int (g i j)):=by
 intro pins s σ H x y v u Q I rx ry h;obtain⟨i,j,rfl,rfl,hc,q⟩:=h;obtain⟨t,rfl⟩:=rx;obtain⟨t',rfl⟩:=ry;exact rule i j t t' s _ _ hc ⟨.int (g i j),H,I.tok _,⟨_,rfl⟩,q⟩
theorem Pj{f:Value->Value->Sem Value}{g:Int->Int->Int}
  (rule:∀ (i j:Int) (t u:Tok) (s:aj) (Q:Value->aj->Prop) (E:Value->aj->Prop),Q (.int (g i j) s.toks) { s with toks:=s.toks+1 }->wpAny (model X.prog X.w) X.A (f (.int i t) (.int j u)) Q E s) :
  E6 X f (M4 fun i j=>.int (g i j)):=by
 intro pins s σ H x y v u Q I rx ry h;obtain⟨i,j,rfl,rfl,q⟩:=h;obtain⟨t,rfl⟩:=rx;obtain⟨t',rfl⟩:=ry;exact rule i j t t' s _ _ ⟨.int (g i j),H,I.tok _,⟨_,rfl⟩,q⟩
theorem Ni{f:Value->Value->Sem Value}{g:Int->Int->Bool}
  (rule:∀ (i j:Int) (t u:Tok) (s:aj) (Q:Value->aj->Prop) (E:Value->aj->Prop),Q (.bool (g i j)) s->wpAny (model X.prog X.w) X.A (f (.int i t) (.int j u)) Q E s) :
  E6 X f (M4 fun i j=>.bl (g i j)):=by
 intro pins s σ H x y v u Q I rx ry h;obtain⟨i,j,rfl,rfl,q⟩:=h;obtain⟨t,rfl⟩:=rx;obtain⟨t',rfl⟩:=ry;exact rule i j t t' s _ _ ⟨.bl (g i j),H,I,rfl,q⟩
noncomputable def T5(i j:Int):Prop:=0 < j/\j < 1073741824
noncomputable def Om(i j:Int):Prop:=(-(2 ^ 64) < i/\i < 2 ^ 64)\/(-(2 ^ 64) < j/\j < 2 ^ 64)
theorem Om.ok{i j:Int}(h:Om i j):IntMulOk i j:=by
 rcases h with ⟨h1,h2⟩ | ⟨h1,h2⟩
 ·exact .of_left (intBits_le_64 h1 h2)
 ·exact .of_right (intBits_le_64 h1 h2)
theorem Nh:E6 X (g4 .Add) (M4 fun i j=>.int (i+j)):=Pj fun _ _ _ _ _ _ _ q=>add_int q
theorem Nc:E6 X (g4 .Sub) (M4 fun i j=>.int (i - j)):=Pj fun _ _ _ _ _ _ _ q=>sub_int q
theorem Nd:E6 X (g4 .Mult) (rI Om fun i j=>.int (i * j)):=R1 fun _ _ _ _ _ _ _ hc q=>mul_int q hc.ok
theorem LA:E6 X (g4 .FloorDiv) (rI T5 fun i j=>.int (i / j)):=R1 fun i j _ _ _ _ _ hc q=>by
 have h1:(0:Int) < j:=hc.1;have h2:j < 1073741824:=hc.2;exact floordiv_int (by lia) (by rw [Int.fdiv_eq_ediv_of_nonneg i (by lia)]; exact q) (.inl (PyProof.noPylong_small (by lia)))
theorem Nf:E6 X (g4 .Mod) (rI (fun _ j=>0 < j) fun i j=>.int (i % j)):=R1 fun i j _ _ _ _ _ hc q=>by
 have h1:(0:Int) < j:=hc;exact mod_int' (by lia) (by rw [Int.fmod_eq_emod_of_nonneg i (by lia)]; exact q)
theorem Vt{f:Value->Sem Value}{g:Int->Int}
  (rule:∀ (i:Int) (t:Tok) (s:aj) (Q:Value->aj->Prop) (E:Value->aj->Prop),Q (.int (g i) s.toks) { s with toks:=s.toks+1 }->wpAny (model X.prog X.w) X.A (f (.int i t)) Q E s) :
  Ve X f (rU fun i=>.int (g i)):=by
 intro pins s σ H x v Q I rx h;obtain⟨i,rfl,q⟩:=h;obtain⟨t,rfl⟩:=rx;exact rule i t s _ _ ⟨.int (g i),H,I.tok _,⟨_,rfl⟩,q⟩
theorem MH:Ve X (unaryOp .USub) (rU fun i=>.int (-i)):=Vt fun _ _ _ _ _ q=>neg_int q
end
section
variable {X:Cx} {a b c:Expr} {ta tb tc:TE} {pos:Pos}
theorem Pf:E6 X (cL .Lt) (M4 fun i j=>.bl (decide (i < j))):=Ni fun _ _ _ _ _ _ _ q=>lt_int q
theorem Pg:E6 X (cL .LtE) (M4 fun i j=>.bl (decide (i<=j))):=Ni fun _ _ _ _ _ _ _ q=>le_int q
theorem Ph:E6 X (cL .Gt) (M4 fun i j=>.bl (decide (j < i))):=Ni fun _ _ _ _ _ _ _ q=>gt_int q
theorem iy(b:Expr){op:CmpOp}(h:autoParam (op≠.In) Ad._auto_1)(h2:autoParam (op≠.NotIn) Ad._auto_1):zQ op b=false:=by
 have e1:(op == CmpOp.In)=false:=by cases op <;> first | rfl | exact absurd rfl h
 have e2:(op == CmpOp.NotIn)=false:=by cases op <;> first | rfl | exact absurd rfl h2
 cases b with
 | Set es k _ =>
  show (k == 0&&(op == .In||op == .NotIn)&&es.all (constantsAlone 8))=false;rw [e1,e2,Bool.or_false,DW,DV]
 | _=>rfl
noncomputable def Od(K:af)(x:V)(H:Hp)(k:Bool):Prop :=
 match x with
 | .cf=>k=false
 | .bl b=>k=b
 | .int i=>k=(i != 0)
 | .str y=>y.length<=aT/\k=((y.length:Int) != 0)
 | .N8 y=>y.size<=aT/\k=((y.size:Int) != 0)
 | .ref p=>(∃ xs,rL K H p xs/\k=!xs.isEmpty)\/(∃ xs,t8 K H p xs/\k=!xs.isEmpty)\/∃ aY,H p=some (.dK aY)/\k=!aY.isEmpty
 | _=>False
theorem CN{κ:Type}{aY:List (κ×V)}{vs:List (κ×Value)}(r:KV aY vs):(!vs.isEmpty)=!aY.isEmpty:=by
 cases r <;> rfl
theorem vF{xs:List V}{aZ:List Value}(r:Vals xs aZ):(!aZ.toArray.isEmpty)=!xs.isEmpty:=by
 cases r <;> simp
theorem vq:(aT:Nat) < 2 ^ 63:=by rw [br]; decide
theorem MK:TU X (fun x H Q=>∃ k,Od X.K x H k/\Q k H):=by
 intro pins s σ H x v Q I rx h;obtain⟨k,e,q⟩:=h;have hl:=vq;have hs:aT=16777216:=br;cases x with
 | cf =>
  cases rx;have e':k=false:=e;subst e';exact truthy_none ⟨H,I,q⟩
 | bl b =>
  cases rx;have e':k=b:=e;subst e';exact fR ⟨H,I,q⟩
 | int i =>
  obtain⟨t,rfl⟩:=rx;have e':k=(i != 0):=e;subst e';exact PySem.P.truthy_int ⟨H,I,q⟩
 | str y =>
  obtain⟨t,rfl⟩:=rx;obtain⟨hy,e'⟩:y.length<=aT/\k=((y.length:Int) != 0):=e;subst e';exact PySem.P.truthy_str (by lia) ⟨H,I.tok _,q⟩
 | N8 y =>
  obtain⟨t,rfl⟩:=rx;obtain⟨hy,e'⟩:y.size<=aT/\k=((y.size:Int) != 0):=e;subst e';exact PySem.W.truthy_bytes (by lia) ⟨H,I.tok _,q⟩
 | ref p =>
  cases rx;have e':(∃ xs,rL X.K H p xs/\k=!xs.isEmpty)\/(∃ xs,t8 X.K H p xs/\k=!xs.isEmpty)\/∃ aY,H p=some (.dK aY)/\k=!aY.isEmpty:=e;rcases e' with ⟨xs,hx,e'⟩ | ⟨xs,hx,e'⟩ | ⟨aY,hx,e'⟩
  ·subst e';obtain⟨aZ,r,pl,hz⟩:=I.list hx;have hlen:=r.length;exact wpAny_truthy_list pl.isList (by simp only [aF]; lia) ⟨H,I.tok _,by rw [vF r]; exact q⟩
  ·subst e';obtain⟨aZ,r,pl,hz⟩:=I.tuple hx;have hlen:=r.length;exact truthy_tuple pl (by simp only [aF]; lia) ⟨H,I.tok _,by rw [vF r]; exact q⟩
  ·subst e';obtain⟨hz,hS,vs,r,m⟩:aY.length<=aT/\(p == fy)=false/\∃ vs,KV aY vs/\s.heap.DictOf (dI X.prog X.w) p vs:=I.cz p _ hx;have hlen:aY.length=vs.length:=oE r;exact BX hS m (by lia) ⟨H,I.tok _,by rw [CN r]; exact q⟩
 | _=>exact(show False from e).elim
theorem CA:E6 X (g4 .Add) (fun x y H Q=>∃ i j,x=.str i/\y=.str j/\i.length+j.length<=aT/\Q (.str (i++j)) H):=by
 intro pins s σ H x y v u Q I rx ry h;obtain⟨i,j,rfl,rfl,hz,q⟩:=h;obtain⟨t,rfl⟩:=rx;obtain⟨t',rfl⟩:=ry;exact add_str (fun t' tk=>⟨.str (i++j),H,I.tok _,⟨_,rfl⟩,q⟩) hz
theorem vals1{x:V}{us:List Value}(r:Vals [x] us):∃ u,us=[u]/\RelV x u:=by
 cases r with
 | cons r1 r2=>cases r2; exact⟨_,rfl,r1⟩
theorem vals2{x y:V}{us:List Value}(r:Vals [x,y] us):∃ u w',us=[u,w']/\RelV x u/\RelV y w':=by
 cases r with
 | cons r1 r2 =>
  cases r2 with
  | cons r3 r4=>cases r4; exact⟨_,_,rfl,r1,r3⟩
theorem zh:Kc X (.type "str") (fun xs H Q=>∃ i,xs=[.int i]/\i.natAbs.log2 < 1920/\Q (.str (toString i)) H):=by
 intro pins s σ H xs us Q I r h;obtain⟨i,rfl,hz,q⟩:=h;obtain⟨u,rfl,t,rfl⟩:=vals1 r;exact PySem.P.str_of_int hz ⟨.str _,H,I.tok _,⟨_,rfl⟩,q⟩
noncomputable def QA(K:af)(x:V)(H:Hp)(n:Nat):Prop :=
 match x with
 | .str y=>y.length<=aT/\n=y.length
 | .N8 y=>y.size<=aT/\n=y.size
 | .ref p=>(∃ xs,rL K H p xs/\n=xs.length)\/∃ xs,t8 K H p xs/\n=xs.length
 | _=>False
theorem JR:Kc X (.builtin "len") (fun xs H Q=>∃ x n,xs=[x]/\QA X.K x H n/\Q (.int n) H):=by
 intro pins s σ H xs us Q I r h;obtain⟨x,n,rfl,e,q⟩:=h;obtain⟨u,rfl,rx⟩:=vals1 r;have hl:=vq;have hs:aT=16777216:=br;cases x with
 | str y =>
  obtain⟨t,rfl⟩:=rx;obtain⟨hy,e'⟩:y.length<=aT/\n=y.length:=e;subst e';exact len_str (by lia) ⟨.int _,H,I.tok _,⟨_,rfl⟩,q⟩
 | N8 y =>
  obtain⟨t,rfl⟩:=rx;obtain⟨hy,e'⟩:y.size<=aT/\n=y.size:=e;subst e';exact PySem.W.len_bytes (by lia) ⟨.int _,H,I.tok _,⟨_,rfl⟩,q⟩
 | ref p =>
  cases rx;have e':(∃ xs,rL X.K H p xs/\n=xs.length)\/∃ xs,t8 X.K H p xs/\n=xs.length:=e;rcases e' with ⟨xs,hx,e'⟩ | ⟨xs,hx,e'⟩
  ·subst e';obtain⟨aZ,r',pl,hz⟩:=I.list hx;have hlen:=r'.length;exact Calls.call_len_list pl.isList (by simp only [aF]; lia) ⟨.int xs.length,H,I.tok _,⟨_,by simp only [aF]; rw [hlen]⟩,q⟩
  ·subst e';obtain⟨aZ,r',pl,hz⟩:=I.tuple hx;have hlen:=r'.length;exact len_tuple pl (by simp only [aF]; lia) ⟨.int xs.length,H,I.tok _,⟨_,by simp only [aF]; rw [hlen]⟩,q⟩
 | _=>exact(show False from e).elim
end
structure Yh(h:Heap)(x dx C:Addr)(mA:Str->Option Value):Prop where
 obj:h.get? x=some (PySem.W.instObj C dx)
 ns:h.Ns1 dx mA
 ne:dx≠x
theorem wW.some_of{v:V}{o:Option Value}(r:wW (some v) o):∃ u,o=some u/\RelV v u:=by
 cases o with
 | none=>exact(show False from r).elim
 | some u=>exact⟨u,rfl,r⟩
structure Yt(K:af)(C:Addr):Prop where
 pg:PySem.W.plainGet K C ju=true
 hd:PySem.W.hasDictIn K C=true
 po:PySem.W.plainOver K C=true
 sa:lX K (.ref C) "__setattr__" = some (some (.builtin "object.__setattr__"))
structure YW(K:af)(C:Addr)(f:Str)(v:V)(u:Value):Prop where
 at_:lX K (.ref C) f=some (some u)
 rel:RelV v u
 get:Kz K u "__get__" = some none
 cp:PySem.W.copiedNames.contains f=false
structure Meth(K:af)(C:Addr)(m:Str)(f:Addr):Prop where
 at_:lX K (.ref C) m=some (some (.ref f))
 fn:PySem.W.isFn K (.ref f)=true
 kp:jB K (.ref f)=true
section
variable {X:Cx} {pins:List (Addr×Obj)} {σ:St} {H:Hp} {s:aj} {A:cM} {E:Value->aj->Prop} {Q:Value->aj->Prop} {c:Value} {b:Bool}
inductive vV (K:af) (H:Hp):V->Value->Prop where
 | cf:vV K H .cf (.type "NoneType")
 | bl (x:Bool):vV K H (.bl x) (.type "bool")
 | int (i:Int):vV K H (.int i) (.type "int")
 | str (x:Str):vV K H (.str x) (.type "str")
 | Qf (x:UInt64):vV K H (.Qf x) (.type "float")
 | lst {a:Addr} {xs:List V} (e:H a=some (.lst xs)):vV K H (.ref a) (.type "list")
 | kh {a:Addr} {o:Obj} {xs:List V} (e:H a=some (.kh o (.lst xs))):vV K H (.ref a) (.type "list")
 | tup {a:Addr} {xs:List V} (e:H a=some (.tup xs)):vV K H (.ref a) (.type "tuple")
 | dK {a:Addr} {aY:List (Key×V)} (e:H a=some (.dK aY)):vV K H (.ref a) (.type "dict")
 | dT {a:Addr} {aY:List (List Key×V)} (e:H a=some (.dT aY)):vV K H (.ref a) (.type "dict")
 | ins {a C dx:Addr} {fs:List (Str×V)} (e:H a=some (.ins C dx fs)) (cl:Yt K C) (ha:lX K (.ref C) "__class__" = some (some (.builtin "object.__class__")))
   (hn:Kz K (.builtin "object.__class__") "__get__" = some (some (.builtin "getset_descriptor.__get__"))) (YG:PySem.W.takesIn K (.builtin "object.__class__")=some true)
   (hm:PySem.W.mroIn K C (.type "object")=some true):vV K H (.ref a) (.ref C)
end
structure kr(k:Nat)(A:cM):Prop where
 hd:A.handled=none
 dp:A.depth+3 * k+5 < recursionLimit
 un:A.units+16 * k+200 < cLine
theorem kr.mono{j k:Nat}{A:cM}(r:kr k A)(h:j<=k):kr j A:=⟨r.hd,by have:=r.dp; lia,by have:=r.un; lia⟩
theorem kr.deeper{k:Nat}{A:cM}(r:kr (k+1) A)(env:Env):kr k (A.deeper env) :=
 ⟨r.hd,by have:=r.dp; show A.depth+1+3 * k+5 < _; lia,by have:=r.un; show A.units+3+16 * k+200 < _; lia⟩
theorem kr.depth{k:Nat}{A:cM}(r:kr k A):A.depth < recursionLimit:=by have:=r.dp; lia
theorem kr.units{k:Nat}{A:cM}(r:kr k A):A.units+64 < cLine:=by have:=r.un; lia
theorem kr.Ht{k:Nat}{A:cM}(r:kr k A):A.units < cLine:=by have:=r.un; lia
noncomputable abbrev Sp:=List V->Hp->VK->XK->Prop
noncomputable abbrev GH:=List Env->Hp->aj->XK->Value->aj->Prop
structure Ma(P:bx)(w:World)(K:af)(mg:Str->Option Value)(base:Heap)(A:cM)(outer:List Env)(s:aj)(H:Hp):Prop where
 frames:A.frames=some outer
 mod:Mod K mg base
 bs:∀ b o,base.get? b=some o->s.heap.get? b=some o/\H b=none
 L6:base.objs.size<=s.heap.objs.size
 vK:s.heap.FunFrames base outer
 OF:∀ b∈GX outer,H b=none
 cz:qc P w H s.heap
 bare:ye s.gens
noncomputable def CE(outer:List Env)(P:bx)(w:World)(H:Hp)(s:aj)(Q:VK)(u:Value)(s':aj):Prop :=
 ∃ v H',s'.os=s.os/\ye s'.gens/\Un (GX outer) [] H H' s.heap s'.heap/\qc P w H' s'.heap/\RelV v u/\Q v H'
noncomputable def CR(CX:GH)(outer:List Env)(P:bx)(w:World)(H:Hp)(s:aj)(Q:VK)(E:XK)(r:Result)(s':aj):Prop :=
 match r with
 | .ok (.ret u)=>CE outer P w H s Q u s'
 | .ok _=>False
 | .error e=>CX outer H s E e s'
structure fE(P:bx)(w:World)(K:af)(mg:Str->Option Value)(base:Heap)(CX:GH)(k:Nat)(f:Addr)(fd:aG)(ps:List Str)(sp:Sp):Prop where
 len:∀ vs H Q E,sp vs H Q E->vs.length=ps.length
 run:∀ (A:cM) (outer:List Env) (s:aj) (H:Hp) (args:Args) (us:List Value) (vs:List V) (Q:VK) (E:XK),kr k A->Ma P w K mg base A outer s H->Hl s fd args (ps.zip us)->Vals vs us->sp vs H Q E ->
  rY (model P w) A (.call (.ref f) args) (CR CX outer P w H s Q E) s
section
variable {X:Cx} {pins:List (Addr×Obj)} {σ:St} {H:Hp} {s s':aj}
theorem Inv.TM(I:Inv X pins σ H s):Ma X.prog X.w X.K X.mg X.base X.A X.stack s H :=
 ⟨I.ok.frames,I.ok.mod,I.bs,bf I.ok.L6 I.sz,I.stack,I.D0,I.cz,I.bare⟩
theorem Inv.after{Q:VK}{u:Value}(I:Inv X pins σ H s)(h:CE X.stack X.prog X.w H s Q u s'):EP X pins σ Q u s':=by
 obtain⟨v,H',os,bare,un,cz,r,q⟩:=h;obtain⟨hh,g,d,t,R0⟩:=s';obtain rfl:R0=s.os:=os;exact⟨v,H',I.call (h':=hh) (g':=g) (d':=d) (t':=t) (ch:=[]) un cz bare (fun b z=>absurd z (by simp)),r,q⟩
end
noncomputable def Binds(K:af)(fd:aG)(ps:List Str)(ds:List Value):Prop :=
 ∀ (s:aj) (us:List Value),K.In s.heap->(us++ds).length=ps.length->Hl s fd ⟨us,[]⟩ (ps.zip (us++ds))
theorem Binds.all{K:af}{fd:aG}{ps:List Str}(h:∀ us:List Value,us.length=ps.length->bindArgs fd ⟨us,[]⟩=pure (ps.zip us)):Binds K fd ps []:=fun s us _ hl=>by
 rw [cW] at hl ⊢;exact .of_eq (h us hl)
noncomputable def Passes(CX:GH)(X:Cx)(E:XK):Prop:=∀ (pins:List (Addr×Obj)) (σ:St) (H:Hp) (s:aj) (e:Value) (s':aj),Inv X pins σ H s->CX X.stack H s E e s'->X.xe e s'
section
variable {X:Cx} {CX:GH} {k:Nat} {f C:Addr} {fd:aG} {ps:List Str} {sp:Sp} {Q5:List V} {ds:List Value} {E:XK} {x m:Str} {p pos apos:Pos} {e o:Expr} {es:List Expr} {ta:TE} {t:TA}
theorem MU{pins:List (Addr×Obj)}{σ:St}{H:Hp}{s:aj}{Q:VK}{us:List Value}{vs:List V}(F:fE X.prog X.w X.K X.mg X.base CX k f fd ps sp)(hr:kr k X.A)(hb:Binds X.K fd ps ds)(hd:Vals Q5 ds)(hx:Passes CX X E)
  (I:Inv X pins σ H s) (r:Vals vs us) (h:sp (vs++Q5) H Q E):wpAny (model X.prog X.w) X.A (call (.ref f) us) (EP X pins σ Q) X.xe s:=by
 have r2:Vals (vs++Q5) (us++ds):=r.append hd;have hl:(us++ds).length=ps.length:=by rw [<-r2.length]; exact F.len _ _ _ _ h
 refine wpAny_call (uG (F.run X.A X.stack s H ⟨us,[]⟩ (us++ds) (vs++Q5) Q E hr I.TM (hb s us I.BV hl) r2 h) fun r s' hq=>?_);cases r with
 | error e=>exact hx pins σ H s e s' I hq
 | ok fl =>
  cases fl with
  | ret u=>exact I.after hq
  | next=>exact bB hq
  | brk=>exact bB hq
  | cont=>exact bB hq
structure Mk(K:af)(C f:Addr):Prop where
 makes:PySem.W.makesIn K C=true
 init:lX K (.ref C) "__init__" = some (some (.ref f))
 fn:PySem.W.isFn K (.ref f)=true
 kp:jB K (.ref C)=true
end
section
variable {X:Cx} {CX:GH} {k:Nat} {f C:Addr} {fd:aG} {ps ks:List Str} {sp:Sp} {E:XK} {x m:Str} {p pos apos Wa:Pos} {e o:Expr} {es:List Expr} {YC:List Hk} {te ta:TE} {t tk:TA} {nm:Option Str}
structure TZ(K:af)(fd:aG)(ps ks:List Str)(g:List Value->List Value->List Value)(gV:List V->List V->List V):Prop where
 to:∀ (s:aj) (us ws:List Value),K.In s.heap->(g us ws).length=ps.length->Hl s fd ⟨us,ks.zip ws⟩ (ps.zip (g us ws))
 rel:∀ {vs:List V} {us:List Value} {zs:List V} {ws:List Value},Vals vs us->Vals zs ws->Vals (gV vs zs) (g us ws)
variable {g:List Value->List Value->List Value} {gV:List V->List V->List V}
end
structure cg(N P:List Str)(sc:Scope):Prop where
 kind:sc.kind=.function
 co:sc.isCoroutine=false
 gen:sc.isGenerator=false
 nd:N.Nodup
 pre:N.take P.length=P
 par:∀ x∈P,sc.names.lookup x=some .local\/sc.names.lookup x=some .cell
 Nl:∀ y∈sc.names,y.2≠.free
theorem xX{kindOf:Str->Option pC}{x:Str}:∀ {binds:List (Str×Value)} {m:Str->Option Value},(∀ v,(x,v)∉binds)->bindL kindOf binds m x=m x
 | [],_,_=>rfl
 | (n,v) :: r,m,h=>by
  unfold bindL;rw [xX fun w hw=>h w (au _ hw)];split
  ·have:x≠n:=by rintro rfl; exact h v a7
   simp [this]
  ·rfl
theorem xZ{kindOf:Str->Option pC}{x:Str}:∀ {binds:List (Str×Value)} {m:Str->Option Value},(∀ v,(x,v)∉binds)->bindC kindOf binds m x=m x
 | [],_,_=>rfl
 | (n,v) :: r,m,h=>by
  unfold bindC;rw [xZ fun w hw=>h w (au _ hw)];split
  ·rfl
  ·have:x≠n:=by rintro rfl; exact h v a7
   simp [this]
theorem xY{kindOf:Str->Option pC}{x:Str}{v:Value}:∀ {P:List Str} {vs:List Value} {i:Nat} {m:Str->Option Value},P.Nodup->P[i]?=some x->vs[i]?=some v->kindOf x=some .local ->
  bindL kindOf (P.zip vs) m x=some v
 | [],_,_,_,_,h,_,_=>by simp at h
 | _ :: _,[],_,_,_,_,h,_=>by simp at h
 | p :: P,w :: vs,0,m,nd,h1,h2,hk=>by
  simp at h1 h2; subst h1; subst h2;show bindL kindOf ((p,w) :: P.zip vs) m p=_;unfold bindL;rw [xX fun v hv=>(List.nodup_cons.mp nd).1 (BP hv).1,if_pos hk];simp
 | p :: P,w :: vs,i+1,m,nd,h1,h2,hk=>by
  show bindL kindOf ((p,w) :: P.zip vs) m x=_;unfold bindL;exact xY (i:=i) (List.nodup_cons.mp nd).2 (by simpa using h1) (by simpa using h2) hk
theorem x3{kindOf:Str->Option pC}{x:Str}{v:Value}:∀ {P:List Str} {vs:List Value} {i:Nat} {m:Str->Option Value},P.Nodup->P[i]?=some x->vs[i]?=some v->kindOf x≠some .local ->
  bindC kindOf (P.zip vs) m x=some v
 | [],_,_,_,_,h,_,_=>by simp at h
 | _ :: _,[],_,_,_,_,h,_=>by simp at h
 | p :: P,w :: vs,0,m,nd,h1,h2,hk=>by
  simp at h1 h2; subst h1; subst h2;show bindC kindOf ((p,w) :: P.zip vs) m p=_;unfold bindC;rw [xZ fun v hv=>(List.nodup_cons.mp nd).1 (BP hv).1,if_neg hk];simp
 | p :: P,w :: vs,i+1,m,nd,h1,h2,hk=>by
  show bindC kindOf ((p,w) :: P.zip vs) m x=_;unfold bindC;exact x3 (i:=i) (List.nodup_cons.mp nd).2 (by simpa using h1) (by simpa using h2) hk
noncomputable def start(N:List Str)(vs:List V):St:=vs.map some++aU (N.length - vs.length) none
noncomputable def Bw(CX:GH)(P:bx)(w:World)(K:af)(mg:Str->Option Value)(base:Heap)(N:List Str)(qual:Str)(scope:Scope)(f:Addr)(cd:Value)(A:cM)(outer:List Env)(s:aj)(H:Hp)(E:XK):Cx where
 prog:=P
 w:=w
 K:=K
 mg:=mg
 base:=base
 A:=A.deeper (zP qual scope s.heap.objs.size f cd)
 N:=N
 kG:=s
 Ka:=H
 env:=zP qual scope s.heap.objs.size f cd
 outer:=outer
 stack:=zP qual scope s.heap.objs.size f cd :: outer
 ex:=[]
 calm:=true
 fn:=fun _=>true
 pn:=[]
 xe:=fun e s'=>wpAny (model P w) (A.deeper (zP qual scope s.heap.objs.size f cd)) (leaving (zP qual scope s.heap.objs.size f cd) e) (fun _ MS=>CX outer H s E e MS) (fun e' MS=>CX outer H s E e' MS) s'
theorem Bz{sc:Scope}{n:Nat}{x:Str}(h:sc.names.lookup x=some .cell):∃ c,(cellsFrom n sc.names []).lookup x=some c:=by
 have q:=DN sc.names n [] (.inl h);exact Option.isSome_iff_exists.mp q
theorem FU{CX:GH}{P:bx}{w:World}{K:af}{mg:Str->Option Value}{base:Heap}{N ps:List Str}{qual:Str}{scope:Scope}{f:Addr}{cd:Value}{A:cM}{outer:List Env}{s s1:aj}{H:Hp}{E:XK}{us:List Value}{vs:List V}
  (S:cg N ps scope) (hd:A.handled=none) (e0:Ma P w K mg base A outer s H) (hl:vs.length=ps.length) (r:Vals vs us)
  (x:InCallC s s.heap.objs.size (bindL (zP qual scope s.heap.objs.size f cd).kindOf (ps.zip us) fun _=>none) (cellsFrom (s.heap.objs.size+1) scope.names []) (bindC (zP qual scope s.heap.objs.size f cd).kindOf (ps.zip us) fun _=>none) s1) :
  Inv (Bw CX P w K mg base N qual scope f cd A outer s H E) [] (start N vs) H s1:=by
 have GV:ps.length<=N.length:=by have:=congrArg gM S.pre; rw [du] at this; lia
 obtain⟨h1,tk,rfl,hk⟩:=x.done;have Pq:∀ b:Addr,b∉(Bw CX P w K mg base N qual scope f cd A outer s H E).ex:=fun b z=>absurd (show b∈([]:List Addr) from z) (by simp);refine⟨⟨e0.mod,S.kind,rfl,rfl,ay _,fun y z c h1 h2=>?_,fun y hy=>?_,fun y c _ h=>?_,fun _=>hd,Around.frames_deeper e0.frames,.inr ⟨rfl,rfl⟩,fun b z=>absurd z (Pq b),e0.bs,e0.L6,fun b _ _=>Pq b,fun b z=>absurd z (Pq b),e0.vK,e0.OF⟩,
  rfl,e0.bare,Un.kept hk,⟨_,x.toInCall.ns,fun i y v h1 h2 h3=>?_⟩,fun y c h=>⟨_,x.cell y c h⟩,e0.cz.fresh (ay _),fun y c h=>?_,fun p hp=>absurd (show p∈([]:List (Addr×Obj)) from hp) (by simp),e0.cz.kept hk,?_⟩
 ·exact name_of_addr x.apart (fO h1) (fO h2)
 ·have hy:scope.names.lookup y=some .cell\/scope.names.lookup y=some .free:=hy;rcases hy with hy | hy
  ·exact Bz hy
  ·exact absurd rfl (S.Nl _ (fO hy))
 ·exact zE (x.above y c (fO h))
 ·have hi:i < vs.length:=by
   unfold start at h2;by_cases hi:i < vs.length
   ·exact hi
   ·rw [bC (by simpa using hi)] at h2;rw [jt] at h2;split at h2 <;> cases h2
  have ha:vs[i]?=some v:=by
   unfold start at h2;rw [bS (by simpa using hi),a5] at h2;cases e:vs[i]? with
   | none=>rw [e] at h2; cases h2
   | some a=>rw [e] at h2; cases h2; rfl
  obtain⟨u,hu,rv⟩:=r.get ha;have hp:ps[i]?=some y:=by
   rw [<-S.pre,oG (by lia)]; exact h1
  have Uv:ps.Nodup:=by rw [<-S.pre]; exact S.nd.sublist (List.take_sublist _ _)
  refine⟨u,rv,?_⟩;rcases S.par y (bO hp) with k | k
  ·exact .inl ⟨k,xY Uv hp hu k⟩
  ·obtain⟨c,e⟩:=Bz (n:=s.heap.objs.size+1) k;refine .inr ⟨.inl k,c,e,?_⟩;have q:=x.cell y c e;rw [x3 Uv hp hu (by show scope.names.lookup y≠_; rw [k]; decide)] at q;exact q
 ·exact e0.cz.fresh (zE (x.above y c (fO h)))
 ·unfold start;show _=N.length;rw [aM,ag,dP];lia
theorem Qd{CX:GH}{P:bx}{w:World}{K:af}{mg:Str->Option Value}{base:Heap}{k:Nat}{f:Addr}{name qual:Str}{params:Arguments}{body:List Stmt}{scope:Scope}{dV kV doc pm lV ct oc:Value}{an od:Option Addr}
  {Io:Array (Option Value)} {N ps:List Str} {sp:Sp} (lk:K.lookup f=some ⟨oc,od,.func (gE name qual params body scope dV kV doc pm an lV ct),Io⟩) (yS:zS K lV qual=true) (S:cg N ps scope)
  (len:∀ vs H Q E,sp vs H Q E->vs.length=ps.length)
  (Jl:∀ (A:cM) (outer:List Env) (s:aj) (H:Hp) (vs:List V) (Q:VK) (E:XK),kr k (A.deeper (zP qual scope s.heap.objs.size f lV))->sp vs H Q E ->
   ∃ t,OM (Bw CX P w K mg base N qual scope f lV A outer s H E) body t/\t { nx:=fun _ H'=>Q .cf H',rt:=Q } (start N vs) H) :
  fE P w K mg base CX (k+1) f (gE name qual params body scope dV kV doc pm an lV ct) ps sp:=by
 refine⟨len,fun A outer s H args us vs Q E hr e0 hb r Mr=>?_⟩;have hl:=len _ _ _ _ Mr;have KX:K.In s.heap:=e0.mod.SK.keeps fun b o e=>(e0.bs b o e).1;have lim:s.heap.NoLimit:=e0.mod.nolimit.keeps fun b o e=>(e0.bs b o e).1;have xI:∀ y∈ps.zip us,scope.names.lookup y.1=some .local\/(scope.names.lookup y.1=some .cell/\((cellsFrom (s.heap.objs.size+1) scope.names []).lookup y.1).isSome=true):=fun ⟨n,v⟩ hy=>by
  rcases S.par n (BP hy).1 with q | q
  ·exact .inl q
  ·exact .inr ⟨q,DN _ _ _ (.inl q)⟩
 refine codeAny_call_function hr.depth (KX _ _ lk) rfl S.co S.gen rfl (PySem.W.codeRec_of KX yS) (hb _ _ _ _ ?_);refine wpAny_newFunctionEnv_cells S.kind xI fun env he s1 x=>?_;subst he;refine⟨lim.keeps x.toInCall.keep,codeAny_func ?_⟩;obtain⟨t,ht,hq⟩:=Jl A outer s H vs Q E (hr.deeper _) Mr;have I:Inv (Bw CX P w K mg base N qual scope f lV A outer s H E) [] (start N vs) H s1:=FU S hr.hd e0 hl r x;refine k7 (ht [] s1 (start N vs) H _ I hq) (fun fl s' hs=>?_) fun e s' hs=>hs;have fin:∀ {g7:St} {H':Hp} {v:V} {u:Value},Inv (Bw CX P w K mg base N qual scope f lV A outer s H E) [] g7 H' s'->RelV v u->Q v H'->CE outer P w H s Q u s' :=
  fun {g7 H' v u} J rv q=>⟨v,H',J.os,J.bare,J.base,J.cz,rv,q⟩
 cases fl with
 | ret u =>
  obtain⟨v,g7,H',J,rv,q⟩:=hs;exact fin J rv q
 | next =>
  obtain⟨g7,H',J,q⟩:=hs;exact fin (v:=V.cf) (u:=c6) J rfl q
 | brk =>
  obtain⟨_,_,_,q⟩:=hs;exact bB q
 | cont =>
  obtain⟨_,_,_,q⟩:=hs;exact bB q
end L2
namespace HT
open PySem PyProof.Rows
noncomputable def lexLt:List Int->List Int->Bool
 | [],[]=>false
 | [],_ :: _=>true
 | _ :: _,[]=>false
 | x :: xs,y :: ys=>if x=y then lexLt xs ys else decide (x < y)
theorem CJ(x y:Int)(xs ys:List Int):lexLt (x :: xs) (y :: ys)=if x=y then lexLt xs ys else decide (x < y):=rfl
theorem wK:lexLt [] []=false:=rfl
theorem vw(y:Int)(ys:List Int):lexLt [] (y :: ys)=true:=rfl
theorem vx(x:Int)(xs:List Int):lexLt (x :: xs) []=false:=rfl
theorem JC(A:cM)(s:aj)(a:Int)(t:Tok)(c:Int)(u:Tok):∃ e,SeqAt.EqAt A s (.int a t) (.int c u) e/\(e=true↔a=c) :=
 ⟨(a == c),SeqAt.EqAt.int_int a t c u,by simp⟩
theorem uY(A:cM)(s:aj)(a:Int)(t:Tok)(c:Int)(u:Tok)(prog:bx)(w:World)(E:Value->aj->Prop)(Q:Value->aj->Prop)(h:Q (.bool (decide (a < c))) s) :
  wpAny (model prog w) A (nN .Lt (.int a t) (.int c u)) Q E s :=
 (PyProof.Rows.lt_int h:wpAny (model prog w) A (cL .Lt (.int a t) (.int c u)) Q E s)
section
open PySem.SeqAt
open PySem.AutoSeq1 (wpAny_loadPart')
open PySem.MeetsSeq PySem.MeetsSeq2 PySem.MeetsSeq3
theorem wF(l b:Addr)(items lg:Array Value)(n n2:Nat)(dd ES:Option Addr)(sl D6:Array (Option Value))(ns ms:List Int)(hi:jv items.toList ns)(hj:jv lg.toList ms) :
  Meets (Builtin.«tuple.__lt__» ⟨[.ref l,.ref b],[]⟩)
   (fun _ R s=>s.heap.get? l=some { cls:=.type "tuple",dict:=dd,data:=.seq items n,slots:=sl }/\s.heap.get? b=some { cls:=.type "tuple",dict:=ES,data:=.seq lg n2,slots:=D6 } /\
    R (.ok (.ret (.bool (lexLt ns ms)))) s) :=
 .of_wp fun prog w A R s h=>by
  obtain⟨hp,g,d,tk,os⟩:=s; obtain⟨hl,hb,h⟩:=h;have f2:=mX;have z1:items.size=ns.length:=by rw [<-hi.length]; simp
  have z2:lg.size=ms.length:=by rw [<-hj.length]; simp
  wp_walk using bH hl,bH hb,wpAny_forIn_list _ (fun rest b s'=>b.1=none/\s'=⟨hp,g,d,tk,os⟩/\∃ (vs ws:List Value) (Ot Ow:List Int),rest=vs.zip ws /\
   jv vs Ot/\jv ws Ow/\Ot.length+lg.size=Ow.length+items.size/\R (.ok (.ret (.bool (lexLt Ot Ow)))) ⟨hp,g,d,tk,os⟩) _
  case turn =>
   rintro⟨y,x⟩ rest b s' ⟨xJ,rfl,vs,ws,Ot,Ow,hz,S2,QQ,hlen,hR⟩;cases S2 with
   | nil=>rw [List.zip_nil_left] at hz; cases hz
   | cons a t S1 =>
    cases QQ with
    | nil=>rw [List.zip_nil_right] at hz; cases hz
    | cons c u S0 =>
     rw [List.zip_cons_cons] at hz;injection hz with SU Jc
     injection SU with hy hx
     subst hy hx;rw [CJ] at hR;simp only [ak] at hlen;obtain⟨e,he,PU⟩:=JC A.in1 ⟨hp,g,d,tk,os⟩ a t c u;refine ae (he prog w _ _ ?_);cases e with
     | true =>
      rw [if_pos (PU.mp rfl)] at hR
      wp_walk
      exact⟨rfl,rfl,_,_,_,_,Jc,S1,S0,by lia,hR⟩
     | false =>
      rw [if_neg (fun q=>absurd (PU.mpr q) fi)] at hR;have PK:=uY A.in1 ⟨hp,g,d,tk,os⟩ a t c u prog w
      wp_walk using PK
      exact⟨_,rfl,by simpa using hR⟩
  case fin =>
   rintro⟨b1,b2⟩ s' ⟨xJ,rfl,vs,ws,Ot,Ow,hz,S2,QQ,hlen,hR⟩;simp only at xJ;subst xJ;have hv:lexLt Ot Ow=decide (items.size < lg.size):=by
    cases S2 with
    | nil =>
     cases QQ with
     | nil =>
      simp only [ar] at hlen;rw [wK];exact(decide_eq_false (by lia)).symm
     | cons c u hw =>
      simp only [ar,ak] at hlen;rw [vw];exact(decide_eq_true (by lia)).symm
    | cons a t hv =>
     cases QQ with
     | nil =>
      simp only [ar,ak] at hlen;rw [vx];exact(decide_eq_false (by lia)).symm
     | cons c u hw =>
      rw [List.zip_cons_cons] at hz;cases hz
   rw [hv] at hR
   wp_walk
   exact⟨_,rfl,by simpa [ql] using hR⟩
  case h =>
   exact⟨rfl,rfl,items.toList,lg.toList,ns,ms,rfl,hi,hj,by lia,h⟩
end
section
variable {prog:bx} {w:World} {A:cM} {E:Value->aj->Prop} {s:aj}
theorem vj{l b:Addr}{items lg:Array Value}{ns ms:List Int}{Q:Value->aj->Prop}(hl:IsTup s.heap l items)(hb:IsTup s.heap b lg)(hi:jv items.toList ns)(hj:jv lg.toList ms)
  (hu:A.units < cLine) (h:Q (.bool (lexLt ns ms)) s):wpAny (model prog w) A (cL .Lt (.ref l) (.ref b)) Q E s:=by
 obtain⟨⟨cls,dd,data,sl⟩,ho,hc,n,hd⟩:=id hl;obtain⟨⟨JP,ES,data2,D6⟩,xH,yT,n2,hd2⟩:=id hb;simp only at hc hd yT hd2;subst hc hd yT hd2;exact tR (op:=.Lt) ⟨_,ho,rfl⟩ ⟨_,xH,rfl⟩ jG o6 (nR _ _) (wF l b items lg n n2 dd ES sl D6 ns ms hi hj)
  ⟨ho,xH,show wo (lexLt ns ms)≠Value.notImplemented/\Q (.bool (lexLt ns ms)) s from⟨(fun x=>nomatch x),h⟩⟩ hu
theorem L1{t b:Addr}{vs ws:List Value}{Q:Value->aj->Prop}(ht:IsTup s.heap t vs.toArray)(hb:IsTup s.heap b ws.toArray)(hv:vs≠[])
  (h1:ws=[]->Q (.ref t) s) (h2:ws≠[]->Q (.ref s.heap.objs.size) { s with heap:=s.heap.push { cls:=.type "tuple",data:=.seq (vs++ws).toArray } })
  (hsz:vs.length+ws.length<=aT):wpAny (model prog w) A (g4 .Add (.ref t) (.ref b)) Q E s:=by
 obtain⟨⟨cls,dd,data,sl⟩,ho,hc,n,hd⟩:=id ht;obtain⟨⟨JP,ES,data2,D6⟩,xH,yT,n2,hd2⟩:=id hb;simp only at hc hd yT hd2;subst hc hd yT hd2;have e:vs.toArray++ws.toArray=(vs++ws).toArray:=by simp
 by_cases hw:ws=[]
 ·exact concat_meets ⟨_,ho,rfl⟩ ⟨_,xH,rfl⟩ noFill_tuple_add seq_tuple_add DP B6 (BO _ _)
   (tuple_addW1 t b vs.toArray ws.toArray n n2 dd ES sl D6 (by simpa using hv) (by simp [hw])) ⟨ho,xH,h1 hw⟩
 ·refine concat_meets ⟨_,ho,rfl⟩ ⟨_,xH,rfl⟩ noFill_tuple_add seq_tuple_add DP B6 (BO _ _)
   (tuple_addW2 t b vs.toArray ws.toArray n n2 dd ES sl D6 (by simpa using hv) (by simpa using hw) (by rw [aF,aF]; exact hsz)) ⟨ho,xH,?_⟩
  rw [e];exact h2 hw
noncomputable def gR(n d:Nat):Option Int->Nat
 | none=>d
 | some v=>if v < 0 then (v+(n:Int)).toNat else min v.toNat n
theorem MR(n d:Nat)(hd:d<=n)(o:Option Int):gR n d o<=n:=by
 cases o with
 | none=>exact hd
 | some v =>
  show (if v < 0 then (v+(n:Int)).toNat else min v.toNat n)<=n;by_cases hv:v < 0
  ·rw [if_pos hv]; lia
  ·rw [if_neg hv]; exact Nat.min_le_right _ _
theorem EX(v:Int)(n d:Nat):(if v < 0 then max (v+(n:Int)) 0 else min v (n:Int))=((gR n d (some v):Nat):Int):=by
 show (if v < 0 then max (v+(n:Int)) 0 else min v (n:Int))=(((if v < 0 then (v+(n:Int)).toNat else min v.toNat n):Nat):Int);by_cases hv:v < 0
 ·simp only [if_pos hv]; lia
 ·simp only [if_neg hv]; lia
theorem Dy(lo hi:Option Int)(n:Nat):kF lo hi 1 (n:Int)=(((gR n 0 lo:Nat):Int),((gR n n hi:Nat):Int)):=by
 have h1:¬ ((1:Int) < 0):=by lia
 unfold kF;simp only [h1,if_false];refine Prod.ext ?_ ?_
 ·cases lo with
  | none=>rfl
  | some v=>exact EX v n 0
 ·cases hi with
  | none=>rfl
  | some v=>exact EX v n n
theorem Cy(i j:Nat):gG (i:Int) (j:Int) 1=j - i:=by
 unfold gG;have h1:(1:Int) > 0:=by lia
 simp only [h1,if_true,Int.ediv_one];split <;> lia
theorem uO{v:Value}{o:Option Int}{Q:Option Int->aj->Prop}(p:IsPart v o)(h:Q o s):wpAny (model prog w) A (Builtin.Slice.slicePartIndex v) Q E s:=by
 cases p with
 | none=>exact slicePart_none h
 | int i t=>exact slicePart_int h
theorem sf{sl:Addr}{vl vu:Value}{lo hi:Option Int}{n:Nat}{Q:Int×Int×Nat->aj->Prop}(hs:s.heap.IsSliceOf sl vl vu .none)(pl:IsPart vl lo)(pu:IsPart vu hi)
  (h:Q (((gR n 0 lo:Nat):Int),1,gR n n hi - gR n 0 lo) s):wpAny (model prog w) A (uc (.ref sl) (pure (n:Int))) Q E s:=by
 obtain⟨os,PN,Tz,QV⟩:=id hs;unfold uc Builtin.Slice.sliceFields;refine ae (ae (wpAny_field PN QV (x:=vl) rfl (ae (wpAny_field PN QV (x:=vu) rfl (ae (wpAny_field PN QV (x:=.none) rfl (aq ?_)))))));refine ae (slicePart_none ?_);show wpAny _ _ (if ((1:Int) == 0)=true then _ else _) _ _ s;rw [if_neg (by decide)];refine ae (uO pl (ae (uO pu (ae (aq ?_)))));show wpAny _ _ (match kF lo hi 1 (n:Int) with | (lo,hi)=>pure (lo,(1:Int),gG lo hi 1)) _ _ s;rw [Dy lo hi n];show wpAny _ _ (pure (((gR n 0 lo:Nat):Int),(1:Int),gG ((gR n 0 lo:Nat):Int) ((gR n n hi:Nat):Int) 1)) _ _ s;rw [Cy];exact aq h
theorem Ib(xs:Array Value)(i k:Nat):((bW k).filterMap fun (m:Nat)=>xs[((i:Int)+(m:Int) * 1).toNat]?).toArray=((xs.toList.drop i).take k).toArray:=by
 have e:(fun (m:Nat)=>xs[((i:Int)+(m:Int) * 1).toNat]?)=fun m=>xs[i+m]?:=by
  funext m;have:((i:Int)+(m:Int) * 1).toNat=i+m:=by lia
  rw [this]
 rw [e];have:=pick_run xs i k;rw [List.filterMap_map] at this;have e2:((fun x=>xs[x]?)∘fun x=>i+x)=fun m=>xs[i+m]?:=rfl;rw [e2] at this;rw [this]
theorem rj{t sl:Addr}{items:Array Value}{vl vu:Value}{lo hi:Option Int}{Q:Value->aj->Prop}(ht:IsTup s.heap t items)(hs:s.heap.IsSliceOf sl vl vu .none)(pl:IsPart vl lo)(pu:IsPart vu hi)
  (hw:¬ (gR items.size 0 lo=0/\gR items.size items.size hi=items.size))
  (h:Q (.ref s.heap.objs.size) { s with heap:=s.heap.push { cls:=.type "tuple",data:=.seq ((items.toList.drop (gR items.size 0 lo)).take (gR items.size items.size hi - gR items.size 0 lo)).toArray } })
  (hsz:items.size<=aT):wpAny (model prog w) A (Hg (.ref t) (.ref sl)) Q E s:=by
 have EE:sizeOk (.seq ((items.toList.drop (gR items.size 0 lo)).take (gR items.size items.size hi - gR items.size 0 lo)).toArray):=by
  show ((items.toList.drop (gR items.size 0 lo)).take (gR items.size items.size hi - gR items.size 0 lo)).toArray.size<=aT;rw [aF];exact bf (bf (List.length_take_le' _ _) (by rw [cP,bu]; exact Nat.sub_le _ _)) hsz
 have hj:gR items.size items.size hi<=items.size:=MR _ _ (ay _) hi;obtain⟨os,PN,Tz,QV⟩:=id hs;have WV:s.TypeIs (.ref sl) "slice":=⟨os,PN,Tz⟩;unfold Hg
 try with_reducible refine eB ?_
 first | refine ae (aq ?_) | skip
 refine ae (wpAny_sequenceKey ht.typeIs (by decide) ?_);refine ae (gB (name:=kD "__getitem__") ht.typeIs rS
  (da rS ht.typeIs entry_tuple_getitem ?_ (args_tuple_getitem _ _)))
 show wpAny _ _ (Builtin.Tuple.tupleItemsOf (.ref t) >>= _) _ _ s;refine ae (tupleItemsOf_ ht ?_);refine ae (wpAny_typeOf WV ?_);rw [if_pos (by decide)];refine ae (sf hs pl pu ?_);have Ko:¬ ((((gR items.size 0 lo:Nat):Int) == 0&&(1:Int) == 1&&(gR items.size items.size hi - gR items.size 0 lo) == items.size)=true):=by
  intro q;rw [az,az] at q;have q1:((gR items.size 0 lo:Nat):Int)=0:=eq_of_beq q.1.1;have q2:gR items.size items.size hi - gR items.size 0 lo=items.size:=eq_of_beq q.2;exact hw ⟨by lia,by lia⟩
 show wpAny _ _ (if (((gR items.size 0 lo:Nat):Int) == 0&&(1:Int) == 1&&(gR items.size items.size hi - gR items.size 0 lo) == items.size)=true then _ else _) _ _ s;rw [if_neg Ko,Ib]
 first
  | exact ae (m:=gO _) (cH (aq ⟨_,rfl,aq h⟩) EE)
  | exact ae (m:=gO _) (cH (ae (aq (aq ⟨_,rfl,aq h⟩))) EE)
  | exact ae (ae (m:=gO _) (cH (aq (aq ⟨_,rfl,aq h⟩)) EE))
  | exact ae (ae (m:=gO _) (cH (aq ⟨_,rfl,aq h⟩) EE))
end
end HT
namespace L2
open PySem PySem.Spec PyProof.Rows
noncomputable abbrev TO:=St->Hp->(Option Int->Hp->Prop)->Prop
theorem intsAre_of{ns:List Int}:∀ {us:List Value},Vals (ns.map V.int) us->jv us ns:=by
 induction ns with
 | nil=>intro us r; rw [a8] at r; cases r; exact .nil
 | cons n ns ih =>
  intro us r;rw [ax] at r;cases r with
  | cons r1 r2 =>
   obtain⟨t,e⟩:=r1;subst e;exact .cons n t (ih r2)
section
variable {X:Cx} {e:Expr} {te:TE} {lo hi:Option Expr} {tl th:TO} {pos p2:Pos}
noncomputable def TX(X:Cx)(r:V->Option Int->Option Int->Hp->VK->Prop):Prop :=
 ∀ (pins:List (Addr×Obj)) (s:aj) (σ:St) (H:Hp) (x:V) (v vl vu:Value) (lo hi:Option Int) (sl:Addr) (Q:VK),Inv X pins σ H s->RelV x v->s.heap.IsSliceOf sl vl vu .none->IsPart vl lo->IsPart vu hi->r x lo hi H Q ->
  ∃ T id,typeLookup (.type T) "__getitem__" = pure (some (.builtin id))/\s.TypeIs v T/\wpAny (model X.prog X.w) X.A (Hg v (.ref sl)) (EP X pins σ Q) X.xe s
noncomputable def By(xs:List V)(lo hi:Option Int):List V:=(xs.drop (HT.gR xs.length 0 lo)).take (HT.gR xs.length xs.length hi - HT.gR xs.length 0 lo)
theorem tK(xs:List V)(lo hi:Option Int):(By xs lo hi).length<=xs.length:=by
 unfold By;rw [du,cP];lia
noncomputable def RU(K:af):V->Option Int->Option Int->Hp->VK->Prop:=fun x lo hi H Q=>∃ a xs,x=.ref a/\t8 K H a xs /\
 ¬ (HT.gR xs.length 0 lo=0/\HT.gR xs.length xs.length hi=xs.length)/\∀ p,H p=none->Q (.ref p) (upd H p (.tup (By xs lo hi)))
theorem MQ:TX X (RU X.K):=by
 intro pins s σ H x v vl vu lo hi sl Q I rx hs pl pu h;obtain⟨a,xs,rfl,hx,hw,q⟩:=h;cases rx;obtain⟨aZ,r,ht,hz⟩:=I.tuple hx;have hlen:aZ.toArray.size=xs.length:=by rw [aF]; exact r.length.symm
 refine⟨"tuple",_,PyProof.Rows.slot_tuple_getitem.lookup,ht.typeIs,?_⟩;refine HT.rj ht hs pl pu (by rw [hlen]; exact hw) ?_ (by rw [hlen]; exact hz);rw [hlen];refine⟨.ref s.heap.objs.size,_,I.laid (t':=s.toks) (o:=.tup (By xs lo hi)) (fun b ob q=>aw _ q) (ay _) ?_,rfl,q _ (I.cz.fresh (ay _))⟩;exact⟨bf (tK xs lo hi) hz,_,(r.drop (HT.gR xs.length 0 lo)).take (HT.gR xs.length xs.length hi - HT.gR xs.length 0 lo),IsTup.new _ _⟩
noncomputable def RW(K:af):R2:=fun x y H Q=>∃ a b ns ms,x=.ref a/\y=.ref b/\t8 K H a (ns.map V.int)/\t8 K H b (ms.map V.int)/\Q (.bl (HT.lexLt ns ms)) H
theorem Ng(hu:X.A.units < cLine):E6 X (cL .Lt) (RW X.K):=by
 intro pins s σ H x y v u Q I rx ry h;obtain⟨a,b,ns,ms,rfl,rfl,ha,hb,q⟩:=h;cases rx;cases ry;obtain⟨aZ,r1,p1,_⟩:=I.tuple ha;obtain⟨sx,r2,p2,_⟩:=I.tuple hb;have i1:jv aZ.toArray.toList ns:=intsAre_of r1;have i2:jv sx.toArray.toList ms:=intsAre_of r2;exact HT.vj p1 p2 i1 i2 hu ⟨.bl (HT.lexLt ns ms),H,I,rfl,q⟩
noncomputable def O8(K:af):R2:=fun x y H Q=>∃ a b xs ys,x=.ref a/\y=.ref b/\t8 K H a xs/\t8 K H b ys/\xs≠[]/\xs.length+ys.length<=aT /\
 (ys=[]->Q (.ref a) H)/\(ys≠[]->∀ p,H p=none->Q (.ref p) (upd H p (.tup (xs++ys))))
theorem Vals.yG{xs:List V}{us:List Value}(r:Vals xs us):us=[]↔xs=[]:=by
 cases r with
 | nil=>simp
 | cons _ _=>simp
theorem LB:E6 X (g4 .Add) (O8 X.K):=by
 intro pins s σ H x y v u Q I rx ry h;obtain⟨a,b,xs,ys,rfl,rfl,ha,hb,hx,hz,q1,q2⟩:=h;cases rx;cases ry;obtain⟨aZ,r1,p1,_⟩:=I.tuple ha;obtain⟨sx,r2,p2,_⟩:=I.tuple hb;refine HT.L1 p1 p2 (fun z=>hx (r1.yG.mp z)) (fun z=>⟨.ref a,H,I,rfl,q1 (r2.yG.mp z)⟩) (fun z=>?_) (by rw [<-r1.length,<-r2.length]; exact hz);refine⟨.ref s.heap.objs.size,_,I.laid (t':=s.toks) (o:=.tup (xs++ys)) (fun b ob q=>aw _ q) (ay _) ?_,rfl,q2 (fun w=>z (r2.yG.mpr w)) _ (I.cz.fresh (ay _))⟩;exact⟨by rw [aM]; exact hz,_,r1.append r2,IsTup.new _ _⟩
end
noncomputable def GU(n:Nat)(i:Int):Option Nat:=if 0<=i then (if i < n then some i.toNat else none) else if -(n:Int)<=i then some (i+n).toNat else none
noncomputable def nK{α:Type}(xs:List α)(i:Int):Option α:=(GU xs.length i).bind fun j=>xs[j]?
theorem Ez{n:Nat}{i:Int}{j:Nat}(h:GU n i=some j):seqIndex? i n=some j/\j < n/\-(n:Int)<=i/\i < n:=by
 unfold GU at h;by_cases h0:0<=i
 ·rw [if_pos h0] at h;by_cases h1:i < n
  ·rw [if_pos h1] at h;have e:i.toNat=j:=bg h;exact⟨by rw [seqIndex_of h0 h1,e],by lia,by lia,h1⟩
  ·rw [if_neg h1] at h; cases h
 ·rw [if_neg h0] at h;by_cases h1:-(n:Int)<=i
  ·rw [if_pos h1] at h;have e:(i+n).toNat=j:=bg h;exact⟨by rw [seqIndex_neg (by lia) h1,e],by lia,h1,by lia⟩
  ·rw [if_neg h1] at h; cases h
theorem E1{α:Type}{xs:List α}{i:Int}{v:α}(h:nK xs i=some v):∃ j,seqIndex? i xs.length=some j/\xs[j]?=some v/\j < xs.length/\-(xs.length:Int)<=i/\i < xs.length:=by
 unfold nK at h;cases e:GU xs.length i with
 | none=>rw [e] at h; cases h
 | some j =>
  rw [e] at h;obtain⟨h1,h2,h3,h4⟩:=Ez e;exact⟨j,h1,h,h2,h3,h4⟩
noncomputable def E4(b:Expr):Prop:=∀ o i,subscripted b false o i=operate [o,i] (Hg o i)
noncomputable def T1(X:Cx)(r:R2):Prop :=
 ∀ (value slice:Expr) (pins:List (Addr×Obj)) (s:aj) (σ:St) (H:Hp) (x y:V) (v u:Value) (Q:VK),Inv X pins σ H s->RelV x v->RelV y u->r x y H Q ->
  subscripted slice false v u=operate [v,u] (Hg v u)->wpAny (model X.prog X.w) X.A (subscriptTail value slice v u) (EP X pins σ Q) X.xe s
noncomputable def Yi(X:Cx)(id:String)(r:V->List V->Hp->VK->Prop):Prop :=
 ∀ (pins:List (Addr×Obj)) (s:aj) (σ:St) (H:Hp) (x:V) (xs:List V) (v:Value) (us:List Value) (Q:VK),Inv X pins σ H s->RelV x v->Vals xs us->r x xs H Q ->
  wpAny (model X.prog X.w) X.A (call (.builtin id) (v :: us)) (EP X pins σ Q) X.xe s
section
variable {X:Cx} {a b:Expr} {ta tb:TE} {pos:Pos}
noncomputable def RY(K:af):R2:=fun x y H Q=>∃ p xs i v,x=.ref p/\y=.int i/\rL K H p xs/\nK xs i=some v/\Q v H
noncomputable def RX(K:af):R2:=fun x y H Q=>∃ p xs i v,x=.ref p/\y=.int i/\t8 K H p xs/\nK xs i=some v/\Q v H
theorem Ey:T1 X (RY X.K):=by
 intro value slice pins s σ H x y v u Q I rx ry h hs;obtain⟨p,xs,i,z,rfl,rfl,hq,he,q⟩:=h;cases rx;obtain⟨t,rfl⟩:=ry;obtain⟨aZ,r,pl,hz⟩:=I.list hq;obtain⟨j,h1,h2,h3,h4,h5⟩:=E1 he;obtain⟨w,ew,qB⟩:=r.get h2;have hl:=r.length;have hn:=vq;have fin:EP X pins σ Q w s:=⟨z,H,I,qB,q⟩;by_cases h0:0<=i
 ·have hj:i.toNat=j:=by
   rw [seqIndex_of h0 h5] at h1;exact bg h1
  exact item_listR pl.isList h0 (by lia) (by rw [hj]; simpa using ew) fin hs
 ·have hj:(i+(aZ.toArray.size:Int)).toNat=j:=by
   rw [seqIndex_neg (by lia) h4] at h1;rw [aF,<-hl];exact bg h1
  exact subscriptTail_builtinR (x:=w) pl.isList.typeIs slot_list_getitem.lookup
   (wpAny_getItem_list_neg (Q:=fun r s'=>r=w/\EP X pins σ Q r s') pl.isList (by lia) (by rw [aF] <;> lia) (by lia) (by rw [hj]; simpa using ew) ⟨rfl,fin⟩) hs
theorem IQ:T1 X (RX X.K):=by
 intro value slice pins s σ H x y v u Q I rx ry h hs;obtain⟨p,xs,i,z,rfl,rfl,hq,he,q⟩:=h;cases rx;obtain⟨t,rfl⟩:=ry;obtain⟨aZ,r,pl,hz⟩:=I.tuple hq;obtain⟨j,h1,h2,h3,h4,h5⟩:=E1 he;obtain⟨w,ew,qB⟩:=r.get h2;have hl:=r.length;have hn:=vq;have fin:EP X pins σ Q w s:=⟨z,H,I,qB,q⟩;exact subscriptTail_builtinR (x:=w) pl.typeIs slot_tuple_getitem.lookup
  (getItem_tuple (j:=j) (Q:=fun r s'=>r=w/\EP X pins σ Q r s') pl (by lia) (by lia) (by rw [aF,<-hl]; exact h1) (by simpa using ew) ⟨rfl,fin⟩) hs
theorem CG (aZ:List Value) (n j:Nat) (u:Value):gz (·.setIfInBounds j u) { cls:=.type "list",data:=.seq aZ.toArray n } = { cls:=.type "list",data:=.seq (aZ.set j u).toArray n }:=by
 simp [gz]
theorem Inv.lst{pins:List (Addr×Obj)}{σ:St}{H:Hp}{s:aj}{p:Addr}{xs:List V}(I:Inv X pins σ H s)(h:H p=some (.lst xs)) :
  ∃ (aZ:List Value) (n:Nat),Vals xs aZ/\s.heap.get? p=some { cls:=.type "list",data:=.seq aZ.toArray n }/\xs.length<=aT:=by
 obtain⟨z,aZ,n,r,e⟩:=I.cz p _ h;exact⟨aZ,n,r,e,z⟩
theorem Inv.Nr{pins:List (Addr×Obj)}{σ:St}{H:Hp}{s:aj}{p:Addr}{xs ys:List V}{aZ its':List Value}{n n':Nat}{f:Obj->Obj}(I:Inv X pins σ H s)(h:H p=some (.lst xs))
  (ho:s.heap.get? p=some { cls:=.type "list",data:=.seq aZ.toArray n }) (hf:f { cls:=.type "list",data:=.seq aZ.toArray n } = { cls:=.type "list",data:=.seq its'.toArray n' }) (r:Vals ys its') (hz:ys.length<=aT) (t:Nat) :
  Inv X pins σ (upd H p (.lst ys)) { s with heap:=s.heap.update p f,toks:=t }:=by
 have e:(s.heap.update p f).get? p=some { cls:=.type "list",data:=.seq its'.toArray n' }:=by
  rw [dQ f ho (by rw [hf] <;> rfl),hf]
 refine I.write (x:=p) (e:=p) (by rw [h]; trivial) (.inl rfl) (fun b u hb q=>(cB _ _ (ku hb)).trans q) ⟨_,e⟩ ?_;exact⟨hz,its',n',r,e⟩
noncomputable def O7:V->V->V->Hp->(Hp->Prop)->Prop:=fun o i v H Q=>∃ p xs k j,o=.ref p/\i=.int k/\H p=some (.lst xs)/\GU xs.length k=some j/\Q (upd H p (.lst (xs.set j v)))
theorem set_list:TY X O7:=by
 intro pins s σ H o i v ov iv u Q I ro ri rv h;obtain⟨p,xs,k,j,rfl,rfl,hp,hj,q⟩:=h;cases ro;obtain⟨t,rfl⟩:=ri;obtain⟨aZ,n,r,ho,hz⟩:=I.lst hp;obtain⟨h1,h2,h3,h4⟩:=Ez hj;have hl:=r.length;have hn:=vq;have I':Inv X pins σ (upd H p (.lst (xs.set j v))) { s with heap:=s.heap.update p (gz (·.setIfInBounds j u)) } :=
  I.Nr hp ho (CG aZ n j u) (r.set rv j) (by rw [dO]; exact hz) s.toks
 by_cases h0:0<=k
 ·have hk:k.toNat=j:=by
   rw [seqIndex_of h0 h4] at h1;exact bg h1
  exact PySem.W.ki_setAt ho h0 (by lia) (by rw [aF,<-hl]; exact h4) (by rw [hk]; exact⟨_,I',q⟩)
 ·have hk:(k+(aZ.toArray.size:Int)).toNat=j:=by
   rw [seqIndex_neg (by lia) h3] at h1;rw [aF,<-hl];exact bg h1
  exact PySem.W.ki_setBack ho (by lia) (by rw [aF,<-hl]; exact h3) (by lia) (by rw [hk]; exact⟨_,I',q⟩)
theorem yk(lo hi:Option Int)(n:Nat):(nM lo hi none n).1=((HT.gR n 0 lo:Nat):Int)/\(nM lo hi none n).2.1=((HT.gR n n hi:Nat):Int)/\(nM lo hi none n).2.2=1:=by
 refine⟨?_,?_,rfl⟩
 ·cases lo with
  | none=>simp [nM,HT.gR]
  | some i =>
   simp only [nM,HT.gR,Option.getD_none,show (1:Int) > 0 by decide,if_true];by_cases h:i < 0
   ·simp only [h,if_true] <;> lia
   ·simp only [h,if_false] <;> lia
 ·cases hi with
  | none=>simp [nM,HT.gR]
  | some i =>
   simp only [nM,HT.gR,Option.getD_none,show (1:Int) > 0 by decide,if_true];by_cases h:i < 0
   ·simp only [h,if_true] <;> lia
   ·simp only [h,if_false] <;> lia
theorem wH(aZ:List Value)(lo hi:Option Int):slicePick aZ.toArray lo hi none=((aZ.drop (HT.gR aZ.length 0 lo)).take (HT.gR aZ.length aZ.length hi - HT.gR aZ.length 0 lo)).toArray:=by
 obtain⟨h1,h2,h3⟩:=yk lo hi aZ.toArray.size;unfold slicePick;rw [h1,h2,h3];simp only [sliceRange_one,pick_run,aF] <;> rfl
noncomputable def RV(K:af):V->Option Int->Option Int->Hp->VK->Prop:=fun x lo hi H Q=>∃ a xs,x=.ref a/\rL K H a xs/\∀ p,H p=none->Q (.ref p) (upd H p (.lst (By xs lo hi)))
theorem D5:TX X (RV X.K):=by
 intro pins s σ H x v vl vu lo hi sl Q I rx hs pl pu h;obtain⟨a,xs,rfl,hx,q⟩:=h;cases rx;obtain⟨aZ,r,ht,hz⟩:=I.list hx;have hlen:=r.length;refine⟨"list",_,slot_list_getitem.lookup,ht.isList.typeIs,?_⟩;refine wpAny_getItem_list_slice ht.isList hs pl pu .none (by simp) ?_ (by rw [aF] <;> lia);rw [wH,<-hlen];refine⟨.ref s.heap.objs.size,_,I.laid (t':=s.toks) (o:=.lst (By xs lo hi)) (fun b ob q=>aw _ q) (ay _) ?_,rfl,q _ (I.cz.fresh (ay _))⟩;exact⟨bf (tK xs lo hi) hz,_,0,(r.drop (HT.gR xs.length 0 lo)).take (HT.gR xs.length xs.length hi - HT.gR xs.length 0 lo),aK _ rfl⟩
theorem zi:Kc X (.type "list") (fun xs H Q=>∃ p ys,xs=[.ref p]/\(rL X.K H p ys\/t8 X.K H p ys)/\∀ l,H l=none->Q (.ref l) (upd H l (.lst ys))):=by
 intro pins s σ H xs us Q I r h;obtain⟨p,ys,rfl,hq,q⟩:=h;obtain⟨u,rfl,rx⟩:=vals1 r;cases rx;have fin:∀ (aZ:List Value),Vals ys aZ->ys.length<=aT->∀ (h':Heap) (c':Nat),(∀ b o',s.heap.get? b=some o'->h'.get? b=some o') ->
   h'.get? s.heap.objs.size=some { cls:=.type "list",dict:=none,data:=.seq aZ.toArray c',slots:=#[] }->EP X pins σ Q (.ref s.heap.objs.size) { s with heap:=h' }:=fun aZ r' hz h' c' kp e =>
  ⟨.ref s.heap.objs.size,_,I.laid (t':=s.toks) kp (ay _) (show fN X.prog X.w _ h' _ (.lst ys) from⟨hz,aZ,c',r',e⟩),rfl,q _ (I.cz.fresh (ay _))⟩
 rcases hq with hq | hq
 ·obtain⟨aZ,r',pl,hz⟩:=I.list hq;have hlen:=r'.length;obtain⟨o,ho,hc,n,hd⟩:=pl.isList;exact call_list_seq p (.inl rfl) ho hc hd (fun h' c' kp e=>fin aZ r' hz h' c' kp e) (by simp only [aF] <;> lia)
 ·obtain⟨aZ,r',pl,hz⟩:=I.tuple hq;have hlen:=r'.length;obtain⟨o,ho,hc,n,hd⟩:=pl;exact call_list_seq p (.inr rfl) ho hc hd (fun h' c' kp e=>fin aZ r' hz h' c' kp e) (by simp only [aF] <;> lia)
noncomputable def Vu(K:af)(T:String)(x:V)(H:Hp):Prop:=match x with
 | .str _=>T = "str"
 | .int _=>T = "int"
 | .ref p=>(T = "list"/\∃ xs,rL K H p xs)\/(T = "tuple"/\∃ o,K.lookup p=some o/\o.cls=.type "tuple"/\o.dict=none) \/
   (T = "dict"/\((∃ aY,H p=some (.dK aY))\/∃ aY,H p=some (.dT aY)))\/(T = "set"/\∃ S n,H p=some (.set S n))
 | _=>False
theorem Cb{pins:List (Addr×Obj)}{σ:St}{H:Hp}{s:aj}{T:String}{x:V}{v:Value}(I:Inv X pins σ H s)(r:RelV x v)(ty:Vu X.K T x H) :
  s.TypeIs v T/\∀ a,v=.ref a->∃ ob,s.heap.get? a=some ob/\ob.dict=none:=by
 cases x with
 | str z =>
  obtain⟨t,rfl⟩:=r;cases (show T = "str" from ty);exact⟨BZ s z t,fun _ e=>nomatch e⟩
 | int i =>
  obtain⟨t,rfl⟩:=r;cases (show T = "int" from ty);exact⟨typeIs_int s i t,fun _ e=>nomatch e⟩
 | ref p =>
  cases r;rcases ty with ⟨rfl,xs,hq⟩ | ⟨rfl,o,hk,hc,hd⟩ | ⟨rfl,hk⟩ | ⟨rfl,S,n,hk⟩
  ·obtain⟨aZ,_,pl,_⟩:=I.list hq;refine⟨pl.isList.typeIs,fun a e=>?_⟩;cases e;obtain⟨o,n,e,c,hd,_⟩:=pl;exact⟨o,e,hd⟩
  ·refine⟨⟨o,I.BV p o hk,hc⟩,fun a e=>?_⟩;cases e;exact⟨o,I.BV _ o hk,hd⟩
  ·have z:∃ o,s.heap.get? p=some o/\o.ExactDict:=by
    rcases hk with ⟨aY,hk⟩ | ⟨aY,hk⟩
    ·obtain⟨_,_,_,_,o,_,_,e,ex,_⟩:=I.cz p _ hk;exact⟨o,e,ex⟩
    ·obtain⟨_,_,_,_,o,_,_,e,ex,_⟩:=I.cz p _ hk;exact⟨o,e,ex⟩
   obtain⟨o,e,ex⟩:=z;refine⟨⟨o,e,ex.1⟩,fun a e2=>?_⟩;cases e2;exact⟨o,e,ex.2.1⟩
  ·obtain⟨o,_,_,_,e,ex,_⟩:=I.cz p _ hk;refine⟨⟨o,e,ex.1⟩,fun a e2=>?_⟩;cases e2;exact⟨o,e,ex.2.1⟩
 | _=>exact bB ty
variable {o e:Expr} {es:List Expr} {to:TE} {t:TA} {name:Str} {apos lq:Pos} {T id:String} {r:V->List V->Hp->VK->Prop}
/- xs.append(e),list.index on a Pw tuple .. are Yi facts of 06m -/
end
noncomputable def Yj(X:Cx)(id:String)(r:V->List V->Hp->VK->Prop):Prop :=
 ∀ (pins:List (Addr×Obj)) (s:aj) (σ:St) (H:Hp) (x:V) (xs:List V) (v:Value) (us:List Value) (Q:VK),Inv X pins σ H s->RelV x v->Vals xs us->r x xs H Q ->
  wpAny (model X.prog X.w) X.A (call (.builtin id) (v :: us)) (EP X pins σ Q) X.xe s
theorem Vals.one:∀ {x:V} {us:List Value},Vals [x] us->∃ u,us=[u]/\RelV x u:=by
 intro x us h;cases h with
 | cons r t=>cases t; exact⟨_,rfl,r⟩
section
variable {X:Cx} {pins:List (Addr×Obj)} {σ:St} {H:Hp} {s:aj} {l b:Addr} {xs ys zs:List V}
theorem Inv.Nu{aZ its':List Value}{n:Nat}{f:Array Value->Array Value}{t':Nat}(I:Inv X pins σ H s)(hH:H l=some (.lst xs))
  (e:s.heap.get? l=some { cls:=.type "list",data:=.seq aZ.toArray n }) (hf:f aZ.toArray=its'.toArray) (hv:Vals ys its') (hz:ys.length<=aT) :
  Inv X pins σ (upd H l (.lst ys)) { s with heap:=s.heap.update l (gz f),toks:=t' }:=by
 have q:=PySem.IsL.update e f;rw [hf] at q;refine I.write (x:=l) (e:=l) (by rw [hH]; exact trivial) (.inl rfl) (fun b' u hb hu=>(cB s.heap (gz f) (ku hb)).trans hu) ⟨_,q⟩ ?_;exact⟨hz,its',_,hv,q⟩
theorem Inv.SE{aZ:List Value}{t':Nat}(I:Inv X pins σ H s)(hv:Vals ys aZ)(hz:ys.length<=aT) :
  Inv X pins σ (upd H s.heap.objs.size (.lst ys)) { s with heap:=s.heap.push { cls:=.type "list",data:=.seq aZ.toArray },toks:=t' } :=
 I.laid (fun _ _ q=>aw _ q) (ay _) ⟨hz,aZ,0,hv,aK _ rfl⟩
theorem Inv.Nt (I:Inv X pins σ H s) (hH:H l=some (.lst xs)):xs.length<=aT/\∃ (aZ:List Value) (n:Nat),Vals xs aZ/\xs.length=aZ.length/\s.heap.get? l=some { cls:=.type "list",data:=.seq aZ.toArray n }:=by
 obtain⟨z,aZ,n,r,e⟩:=I.cz l _ hH;exact⟨z,aZ,n,r,r.length,e⟩
theorem Iy{n:Nat}(h:n<=aT):gY n=false:=by
 unfold gY;exact decide_eq_false (by lia)
end
section
variable {X:Cx}
noncomputable def Ll:V->List V->Hp->VK->Prop:=fun x vs H Q=>∃ l xs y,x=.ref l/\vs=[y]/\H l=some (.lst xs)/\xs.length < aT/\Q .cf (upd H l (.lst (xs++[y])))
theorem xw:Yj X "list.append" Ll:=by
 intro pins s σ H x vs v us Q I rx rv h;obtain⟨l,xs,y,rfl,rfl,hH,hz,q⟩:=h;cases rx;obtain⟨u,rfl,ru⟩:=rv.one;obtain⟨z,aZ,n,r,hl,e⟩:=I.Nt hH;refine v3 F.slot_list_append ⟨_,e,rfl⟩ F.entry_list_append (F.args_list_append_2 _ _) (PySem.list_append l aZ.toArray n u (by rw [aF]; lia)) ⟨e,?_⟩;refine⟨.cf,_,I.Nu (its':=aZ++[u]) hH e (by simp) (r.append (.cons ru .nil)) ?_,rfl,q⟩;rw [aM,bX];lia
end
section
variable {κ:Type} [DecidableEq κ]
noncomputable def jL(aY:List (κ×V))(k:κ):Option V:=(aY.find? fun kv=>decide (kv.1=k)).map (·.2)
noncomputable def putK(aY:List (κ×V))(k:κ)(v:V):List (κ×V) :=
 if (aY.any fun kv=>decide (kv.1=k))=true then aY.map (fun kv=>if kv.1=k then (kv.1,v) else kv) else aY++[(k,v)]
theorem nT{p:κ×V}{r:List (κ×V)}{k:κ}(e:p.1=k):jL (p :: r) k=some p.2:=by simp [jL,fG,e]
theorem nU{p:κ×V}{r:List (κ×V)}{k:κ}(e:¬ p.1=k):jL (p :: r) k=jL r k:=by simp [jL,fG,e]
theorem zV(k:κ):∀ aY:List (κ×V),(aY.any fun kv=>decide (kv.1=k))=(jL aY k).isSome
 | []=>rfl
 | p :: r=>by
  rw [lA];by_cases e:p.1=k
  ·simp only [nT e,decide_eq_true e,Bool.true_or,Option.isSome_some]
  ·rw [nU e,decide_eq_false e,wb]; exact zV k r
theorem tE(aY:List (κ×V))(k:κ)(v:V):(putK aY k v).length<=aY.length+1:=by
 unfold putK;split
 ·rw [ag]; lia
 ·rw [aM,ak,ar]; lia
theorem wW.lK{o:Option V}{u:Option Value}(r:wW o u):o.isSome=u.isSome:=by
 cases o with
 | none=>cases u with
  | none=>rfl
  | some _=>exact(show False from r).elim
 | some _=>cases u with
  | none=>exact(show False from r).elim
  | some _=>rfl
theorem KV.val{aY:List (κ×V)}{vs:List (κ×Value)}(r:KV aY vs)(k:κ):wW (jL aY k) (lW vs k):=by
 unfold KV at r;induction r with
 | nil=>exact iL
 | @cons p q ps qs h t ih =>
  obtain⟨h1,h2⟩:=h;by_cases e:p.1=k
  ·have e':q.1=k:=h1.symm.trans e;have b:lW (q :: qs) k=some q.2:=by simp [lW,fG,e']
   rw [nT e,b]; exact h2
  ·have e':¬ q.1=k:=fun z=>e (h1.trans z);have b:lW (q :: qs) k=lW qs k:=by simp [lW,fG,e']
   rw [nU e,b]; exact ih
theorem KV.any{aY:List (κ×V)}{vs:List (κ×Value)}(r:KV aY vs)(k:κ):(aY.any fun kv=>decide (kv.1=k))=vs.any fun kv=>decide (kv.1=k):=by
 unfold KV at r;induction r with
 | nil=>rfl
 | cons h t ih=>rw [lA,lA,ih,h.1]
theorem KV.MX{aY:List (κ×V)}{vs:List (κ×Value)}(r:KV aY vs)(k:κ){y:V}{u:Value}(ry:RelV y u) :
  KV (aY.map fun kv=>if kv.1=k then (kv.1,y) else kv) (vs.map fun kv=>if kv.1=k then (kv.1,u) else kv):=by
 unfold KV at r ⊢;induction r with
 | nil=>exact .nil
 | @cons p q ps qs h t ih =>
  rw [ax,ax];refine .cons ?_ ih;obtain⟨h1,h2⟩:=h;by_cases e:p.1=k
  ·rw [if_pos e,if_pos (h1.symm.trans e)]; exact⟨h1,ry⟩
  ·rw [if_neg e,if_neg (fun z=>e (h1.trans z))]; exact⟨h1,h2⟩
theorem KV.put{aY:List (κ×V)}{vs:List (κ×Value)}(r:KV aY vs)(k:κ){y:V}{u:Value}(ry:RelV y u):KV (putK aY k y) (stored vs k u):=by
 unfold putK stored;rw [r.any k];by_cases e:(vs.any fun kv=>decide (kv.1=k))=true
 ·rw [if_pos e,if_pos e]; exact r.MX k ry
 ·rw [if_neg e,if_neg e]; exact Paired.snoc r ⟨rfl,ry⟩
theorem KV.length{aY:List (κ×V)}{vs:List (κ×Value)}(r:KV aY vs):aY.length=vs.length:=oE r
end
theorem qY{P:bx}{w:World}{k:Key}{u:Value}(r:RelV (kV k) u):(dI P w).is k u=true:=by
 cases k with
 | inl i=>obtain⟨t,e⟩:=(show ∃ t,u=lC i t from r); subst e; exact AI P w i t
 | inr x=>obtain⟨t,e⟩:=(show ∃ t,u=fS x t from r); subst e; exact AH P w x t
theorem xF{P:bx}{w:World}:∀ {ks:List Key} {us:List Value},Vals (ks.map kV) us->ItemsAre (dI P w) ks us
 | [],_,r=>by rw [a8] at r; cases r; exact .nil
 | k :: ks,_,r=>by
  rw [ax] at r;cases r with
  | cons h t=>exact .cons (qY h) (xF t)
noncomputable abbrev KT(H:Hp):List (List Key×V)->List (List Key×Addr×Value)->Prop:=Paired fun p q=>p.1=q.1/\H q.2.1=some (.tup (p.1.map kV))/\RelV p.2 q.2.2
theorem KT.val{H:Hp}{aY:List (List Key×V)}{xs:List (List Key×Addr×Value)}(r:KT H aY xs)(k:List Key):wW (jL aY k) ((atKey xs k).map (·.2)):=by
 induction r with
 | nil=>exact iL
 | @cons p q ps qs h t ih =>
  obtain⟨h1,_,h2⟩:=h;by_cases e:p.1=k
  ·have e':q.1=k:=h1.symm.trans e;have b:atKey (q :: qs) k=some q.2:=by simp [atKey,fG,e']
   rw [nT e,b]; exact h2
  ·have e':¬ q.1=k:=fun z=>e (h1.trans z);have b:atKey (q :: qs) k=atKey qs k:=by simp [atKey,fG,e']
   rw [nU e,b]; exact ih
theorem KT.MX{H:Hp}{aY:List (List Key×V)}{xs:List (List Key×Addr×Value)}(r:KT H aY xs)(k:List Key){y:V}{u:Value}(ry:RelV y u) :
  KT H (aY.map fun kv=>if kv.1=k then (kv.1,y) else kv) (xs.map (putAt k u)):=by
 induction r with
 | nil=>exact .nil
 | @cons p q ps qs h t ih =>
  rw [ax,ax];refine .cons ?_ ih;obtain⟨h1,h2,h3⟩:=h;unfold putAt;by_cases e:p.1=k
  ·rw [if_pos e,if_pos (h1.symm.trans e)]; exact⟨h1,h2,ry⟩
  ·rw [if_neg e,if_neg (fun z=>e (h1.trans z))]; exact⟨h1,h2,h3⟩
theorem KT.put{H:Hp}{aY:List (List Key×V)}{xs:List (List Key×Addr×Value)}(r:KT H aY xs)(k:List Key){b:Addr}{y:V}{u:Value}(hb:H b=some (.tup (k.map kV)))(ry:RelV y u) :
  KT H (putK aY k y) (storedH xs k b u):=by
 have e:(aY.any fun kv=>decide (kv.1=k))=(atKey xs k).isSome:=by
  rw [zV,(r.val k).lK,jC]
 unfold putK storedH;rw [e];by_cases q:(atKey xs k).isSome=true
 ·rw [if_pos q,if_pos q]; exact r.MX k ry
 ·rw [if_neg q,if_neg q]; exact Paired.snoc r ⟨rfl,hb,ry⟩
theorem KT.keeps{H H':Hp}{aY:List (List Key×V)}{xs:List (List Key×Addr×Value)}(r:KT H aY xs)(ht:∀ b ys,H b=some (.tup ys)->H' b=some (.tup ys)):KT H' aY xs :=
 Paired.Px r fun _ _ z=>⟨z.1,ht _ _ z.2.1,z.2.2⟩
section
variable {P:bx} {w:World} {H:Hp} {h:Heap} {a:Addr}
theorem Mj{u:HO}(ok:qc P w H h)(e:Rd H a u):fN P w H h a u:=e.ok ok
theorem tJ{aY:List (Key×V)}(ok:qc P w H h)(e:Rd H a (.dK aY)):aY.length<=aT/\(a == fy)=false/\∃ vs,KV aY vs/\h.DictOf (dI P w) a vs :=
 show fN P w H h a (.dK aY) from Mj ok e
theorem EL{aY:List (Key×V)}(ok:qc P w H h)(e:H a=some (.dK aY)):aY.length<=aT/\(a == fy)=false/\∃ vs,KV aY vs/\h.DictOf (dI P w) a vs:=tJ ok (.inl e)
theorem vC{ks:List Key}(ok:qc P w H h)(e:H a=some (.tup (ks.map kV))):(zN (dI P w)).is h ks a:=by
 obtain⟨_,aZ,r,o,h1,h2,n,h3⟩:=(show fN P w H h a (.tup (ks.map kV)) from ok a _ e);exact⟨o,aZ.toArray,n,h1,h2,h3,by simpa using xF r⟩
theorem xR{aY:List (List Key×V)}(ok:qc P w H h)(e:Rd H a (.dT aY)):aY.length<=aT/\(a == fy)=false /\
  ∃ xs,KT H aY xs/\h.DictOfH (zN (dI P w)) a xs:=by
 obtain⟨z,y,xs,r,o,es,ep,h1,h2,h3,h4,h5⟩:=(show fN P w H h a (.dT aY) from Mj ok e);refine⟨z,y,xs,r,o,es,ep,h1,h2,h3,h4,fun x hx=>?_,h5⟩;have all:∀ {l:List (List Key×V)} {m:List (List Key×Addr×Value)},KT H l m->∀ x∈m,(zN (dI P w)).is h x.1 x.2.1:=by
  intro l m q;induction q with
  | nil=>intro x hx; exact nomatch hx
  | @cons p q ps qs hq t ih =>
   intro x hx;rcases List.mem_cons.mp hx with e | hx
   ·subst e;exact vC ok (by rw [<-hq.1]; exact hq.2.1)
   ·exact ih x hx
 exact all r x hx
theorem Mz{aY:List (List Key×V)}(ok:qc P w H h)(e:H a=some (.dT aY)):aY.length<=aT/\(a == fy)=false /\
  ∃ xs,KT H aY xs/\h.DictOfH (zN (dI P w)) a xs:=xR ok (.inl e)
end
noncomputable def vY(H:Hp)(a:Addr)(y:V)(r:Option V):Prop :=
 (∃ aY k,Rd H a (.dK aY)/\y=kV k/\r=jL aY k)\/∃ aY k b,Rd H a (.dT aY)/\y=.ref b/\H b=some (.tup (k.map kV))/\r=jL aY k
noncomputable def GG(H:Hp)(a:Addr)(y v:V)(H':Hp):Prop :=
 (∃ aY k,H a=some (.dK aY)/\y=kV k/\aY.length < aT/\H'=upd H a (.dK (putK aY k v))) \/
 ∃ aY k b,H a=some (.dT aY)/\y=.ref b/\H b=some (.tup (k.map kV))/\aY.length < aT/\H'=upd H a (.dT (putK aY k v))
theorem vY.k{H:Hp}{a:Addr}{aY:List (Key×V)}{k:Key}(e:H a=some (.dK aY)):vY H a (kV k) (jL aY k):=.inl ⟨aY,k,.inl e,rfl,rfl⟩
theorem vY.t{H:Hp}{a b:Addr}{aY:List (List Key×V)}{k:List Key}(e:H a=some (.dT aY))(eb:H b=some (.tup (k.map kV))):vY H a (.ref b) (jL aY k):=.inr ⟨aY,k,b,.inl e,rfl,eb,rfl⟩
theorem GG.k{H:Hp}{a:Addr}{aY:List (Key×V)}{k:Key}{v:V}(e:H a=some (.dK aY))(hl:aY.length < aT):GG H a (kV k) v (upd H a (.dK (putK aY k v))):=.inl ⟨aY,k,e,rfl,hl,rfl⟩
theorem GG.t{H:Hp}{a b:Addr}{aY:List (List Key×V)}{k:List Key}{v:V}(e:H a=some (.dT aY))(eb:H b=some (.tup (k.map kV)))(hl:aY.length < aT) :
  GG H a (.ref b) v (upd H a (.dT (putK aY k v))):=.inr ⟨aY,k,b,e,rfl,eb,hl,rfl⟩
section
variable {X:Cx} {pins:List (Addr×Obj)} {σ:St} {H:Hp} {s:aj} {a:Addr} {y v:V} {u r:Value} {o:Option V} {A:cM} {E:Value->aj->Prop}
theorem Inv.big(I:Inv X pins σ H s):fy < s.heap.objs.size:=by
 have h:bc < s.heap.objs.size:=(I.mod.glob.keeps I.bk).lt;exact Nat.lt_trans (by decide) h
theorem sG{Q:Value->aj->Prop}(hu:A.units+1 < cLine)(I:Inv X pins σ H s)(g:vY H a y (some v))(ry:RelV y u)(h:∀ w' s',Inv X pins σ H s'->RelV v w'->Q w' s') :
  wpAny (model X.prog X.w) A (Hg (.ref a) u) Q E s:=by
 rcases g with ⟨aY,k,e,ey,l⟩ | ⟨aY,k,b,e,ey,eb,l⟩
 ·subst ey;obtain⟨z,hd,vs,rel,dd⟩:=tJ I.cz e;obtain⟨w',hw,qB⟩:=wW.some_of (v:=v) (o:=lW vs k) (by rw [l]; exact rel.val k);exact wpAny_getItem_of (qY ry) dd.mapOf hw (h w' _ (I.tok _) qB)
 ·subst ey;cases (show u=j3 b from ry);obtain⟨z,hd,xs,rel,dd⟩:=xR I.cz e;obtain⟨w',hw,qB⟩:=wW.some_of (v:=v) (o:=(atKey xs k).map (·.2)) (by rw [l]; exact rel.val k);obtain⟨p,hp,GW⟩:=Option.map_eq_some_iff.mp hw;refine wpAny_getItem_heap (pA hu) (vC I.cz eb) dd hp ?_;rw [GW];exact h w' _ (I.tok _) qB
theorem Qk{Q:Value->aj->Prop}(hu:A.units+1 < cLine)(I:Inv X pins σ H s)(g:vY H a y o)(ry:RelV y u)(h:∀ s',Inv X pins σ H s'->Q (.bool o.isSome) s') :
  wpAny (model X.prog X.w) A (cL .In u (.ref a)) Q E s:=by
 rcases g with ⟨aY,k,e,ey,l⟩ | ⟨aY,k,b,e,ey,eb,l⟩
 ·subst ey;obtain⟨z,hd,vs,rel,dd⟩:=tJ I.cz e;refine wpAny_in_of (qY ry) hd dd.mapOf ?_;rw [<-(rel.val k).lK,<-l];exact h _ (I.tok _)
 ·subst ey;cases (show u=j3 b from ry);obtain⟨z,hd,xs,rel,dd⟩:=xR I.cz e;refine wpAny_in_heap (pA hu) (vC I.cz eb) hd dd ?_;have q:=(rel.val k).lK;rw [jC] at q;rw [<-q,<-l];exact h _ (I.tok _)
theorem EU{Q:Value->aj->Prop}(hu:A.units+1 < cLine)(I:Inv X pins σ H s)(g:vY H a y o)(ry:RelV y u)(h:∀ s',Inv X pins σ H s'->Q (.bool (!o.isSome)) s') :
  wpAny (model X.prog X.w) A (cL .NotIn u (.ref a)) Q E s:=by
 rcases g with ⟨aY,k,e,ey,l⟩ | ⟨aY,k,b,e,ey,eb,l⟩
 ·subst ey;obtain⟨z,hd,vs,rel,dd⟩:=tJ I.cz e;refine wpAny_notIn_of (qY ry) hd dd.mapOf ?_;rw [<-(rel.val k).lK,<-l];exact h _ (I.tok _)
 ·subst ey;cases (show u=j3 b from ry);obtain⟨z,hd,xs,rel,dd⟩:=xR I.cz e;refine wpAny_notIn_heap (pA hu) (vC I.cz eb) hd dd ?_;have q:=(rel.val k).lK;rw [jC] at q;rw [<-q,<-l];exact h _ (I.tok _)
theorem ET{h':Heap}{t':Nat}{ob:HO}(I:Inv X pins σ H s)(mu:Qz (H a))(hs:nE a s.heap h')(he:∃ q,h'.get? a=some q)(new:fN X.prog X.w (upd H a ob) h' a ob) :
  Inv X pins σ (upd H a ob) { s with heap:=h',toks:=t' } :=
 I.write (x:=a) (e:=a) mu (.inl rfl) (fun b q hb z=>(hs.2 b hb).trans z) he new
theorem N0{P:bx}{w:World}{H':Hp}{h':Heap}{aY:List (Key×V)}{vs:List (Key×Value)}(z:aY.length<=aT)(hd:(a == fy)=false)(rel:KV aY vs)(dd:h'.DictOf (dI P w) a vs) :
  fN P w H' h' a (.dK aY):=⟨z,hd,vs,rel,dd⟩
theorem Gr{H':Hp}{Q:Unit->aj->Prop}(hu:A.units+1 < cLine)(I:Inv X pins σ H s)(g:GG H a y v H')(ry:RelV y u)(rv:RelV v r)(h:∀ s',Inv X pins σ H' s'->Q () s') :
  wpAny (model X.prog X.w) A (setItem (.ref a) u r) Q E s:=by
 rcases g with ⟨aY,k,e,ey,l,eH⟩ | ⟨aY,k,b,e,ey,eb,l,eH⟩
 ·subst ey eH;obtain⟨z,hd,vs,rel,dd⟩:=EL I.cz e;have hz:vs.length<=aT:=by rw [<-rel.length]; exact z
  have hl:(putK aY k v).length<=aT:=by have:=tE aY k v; lia
  refine wpAny_setItem_pairs (hsz:=hz) (qY ry) dd fun h' Q6 hs=>h _ ?_;have he:∃ q,h'.get? a=some q:=let ⟨q,_,_,hq,_⟩:=Q6; ⟨q,hq⟩
  exact ET I (by rw [e]; exact iL) hs he (N0 hl hd (rel.put k rv) Q6)
 ·subst ey eH;cases (show u=j3 b from ry);obtain⟨z,hd,xs,rel,dd⟩:=Mz I.cz e;have hz:xs.length<=aT:=by rw [<-oE rel]; exact z
  have hl:(putK aY k v).length<=aT:=by have:=tE aY k v; lia
  refine wpAny_setItem_heap (hsz:=hz) (pA hu) (vC I.cz eb) dd fun h' Q6 hs=>h _ ?_;obtain⟨q,es,ep,hq,h2,h3,h4,_,h5⟩:=Q6;refine ET I (by rw [e]; exact iL) hs ⟨q,hq⟩ ⟨hl,hd,_,(rel.put k eb rv).keeps fun c ys ec=>?_,q,es,ep,hq,h2,h3,h4,h5⟩;rw [bI (Pt ec e (fun z=>nomatch z))];exact ec
end
section
variable {X:Cx} {pins:List (Addr×Obj)} {σ:St} {H:Hp} {s:aj} {a:Addr} {aY:List (Key×V)} {k:Key} {u:Value} {A:cM} {E:Value->aj->Prop}
theorem MA {Q:Value->aj->Prop} (I:Inv X pins σ H s) (e:Rd H a (.dK aY)) (h:∀ t s',Inv X pins σ H s'->Q (.int aY.length t) s'):wpAny (model X.prog X.w) A (call (.builtin "len") [.ref a]) Q E s:=by
 obtain⟨z,hd,vs,rel,dd⟩:=tJ I.cz e;refine call_len_dict hd dd (by rw [<-rel.length]; rw [br] at z; lia) ?_;rw [<-rel.length];exact h _ _ (I.tok _)
theorem LY{Q:Bool->aj->Prop}(I:Inv X pins σ H s)(e:Rd H a (.dK aY))(h:∀ s',Inv X pins σ H s'->Q (!aY.isEmpty) s'):wpAny (model X.prog X.w) A (truthy (.ref a)) Q E s:=by
 obtain⟨z,hd,vs,rel,dd⟩:=tJ I.cz e;refine BX hd dd (by rw [<-rel.length]; rw [br] at z; lia) ?_;have q:aY.isEmpty=vs.isEmpty:=by cases rel <;> rfl
 rw [<-q];exact h _ (I.tok _)
end
theorem oA {X:Cx} {pins:List (Addr×Obj)} {σ:St} {H:Hp} {s:aj} {a:Addr} {y:V} {o:Option V} (I:Inv X pins σ H s) (g:vY H a y o):s.TypeIs (.ref a) "dict":=by
 rcases g with ⟨aY,k,e,_,_⟩ | ⟨aY,k,b,e,_,_,_⟩
 ·obtain⟨_,_,vs,_,dd⟩:=tJ I.cz e;exact dd.typeIs
 ·obtain⟨_,_,xs,_,dd⟩:=xR I.cz e;exact dd.typeIs
theorem JE {P:bx} {w:World} {H:Hp} (h:Heap) (hb:fy < h.objs.size):fN P w H (h.push { cls:=.type "dict",data:=.dict #[] }) h.objs.size (.dK []) :=
 ⟨bR _,beq_eq_false_iff_ne.mpr (ku (bA hb)),[],.nil,Heap.DictOf.new h⟩
noncomputable def MM:TE:=fun _ H Q=>∀ p,H p=none->Q (.ref p) (upd H p (.dK []))
section
variable {X:Cx} {pos:Pos}
theorem Ii:PE X (.Dict [] [] pos) MM:=fun pins s σ H Q I h =>
 wpAny_Dict_empty ⟨.ref s.heap.objs.size,_,I.laid (a:=s.heap.objs.size) (o:=.dK []) (t':=s.toks) (fun _ _ q=>aw _ q) (ay _) (JE s.heap I.big),rfl,h _ (I.cz.fresh (ay _))⟩
end
structure M1(X:Cx)(o:Expr)(m:Str)(apos:Pos)(e:Expr)(lq:Pos):Prop where
 base:attributeBase o m X.env (eval o X.env)=eval o X.env
 pT:((i6 lq (bQ [e] X.env)).all (fun x=>!x.1)&&(backToKw lq (keywordEach [] X.env)).all (fun x=>x.1.isSome)
  && decide (([e]:List Expr).length+([]:List Hk).length+(if ([]:List Hk).isEmpty then 0 else 1) < 30))=true
 line:(apos.endLine == lq.line)=true
 trees:i6 lq (bQ [e] X.env)=[(false,eval e X.env)]
structure M2(X:Cx)(o:Expr)(m:Str)(apos:Pos)(e f:Expr)(lq:Pos):Prop where
 base:attributeBase o m X.env (eval o X.env)=eval o X.env
 pT:((i6 lq (bQ [e,f] X.env)).all (fun x=>!x.1)&&(backToKw lq (keywordEach [] X.env)).all (fun x=>x.1.isSome)
  && decide (([e,f]:List Expr).length+([]:List Hk).length+(if ([]:List Hk).isEmpty then 0 else 1) < 30))=true
 line:(apos.endLine == lq.line)=true
 trees:i6 lq (bQ [e,f] X.env)=[(false,eval e X.env),(false,eval f X.env)]
end L2
namespace Vl
open PySem PySem.W PySem.Calls PyProof.Rows
theorem tV{P:Params}{h:Heap}:∀ (ns:List Int) (vs:List Value),WellAll P h vs (ns.map WData.int)->jv vs ns:=by
 intro ns;induction ns with
 | nil =>
  intro vs w;rw [a8] at w;cases w;exact .nil
 | cons n ns ih =>
  intro vs w;rw [ax] at w;cases w with
  | cons a b =>
   cases a;exact .cons _ _ (ih _ b)
theorem Fu{l:OpenLaw}{n:Nat}(hn:l.most=some n){P:Params}{h:Heap}{args:List WData}{vals:List Value}
  (Jd:l.row.toRowW.claim.pre args=true) (SY:WellAll P h vals args) :
  ∃ a vs ns,vals=[j3 a]/\args=[WData.list (ns.map WData.int)]/\h.get? a=some { cls:=.type "list",data:=.seq vs.toArray }/\jv vs ns/\ns.length<=n:=by
 have Wr:WShape.hasAll [] args [.list .int]=true:=(pre_splitW Jd).1;have hc:l.pre.holds [] { args:=args } = true:=(pre_splitW Jd).2;obtain⟨d,r,rfl,h1,h2⟩:=hasAllW_cons Wr;obtain rfl:=hasAllW_nil h2;obtain⟨xs,rfl,h3⟩:=hasW_list h1;obtain⟨ns,rfl⟩:=items_int h3;have hlen:ns.length<=n:=by
  unfold OpenLaw.pre at hc;have h4:(WTm.not (.lt (.lit (.int (n:Int))) (.len (.arg 0)))).holds [] { args:=[.list (ns.map .int)] } = true:=by
   have h4:=(holds_andW hc).1;rw [hn] at h4;exact h4
  have h5:=condW_of h4 (w_not (w_lt w_lit (w_len_list (w_arg rfl))));rw [ag] at h5;refine Nat.le_of_not_lt fun q=>?_;have q':(n:Int) < ((ns.length:Nat):Int):=by lia
  first
   | (rw [decide_eq_true q'] at h5; exact absurd h5 (by decide))
   | (simp at h5; lia)
 cases SY with
 | cons w1 w2 =>
  cases w2;cases w1 with
  | list ho CW=>exact⟨_,_,ns,rfl,rfl,ho,tV ns _ CW,hlen⟩
theorem FF(l:OpenLaw)(args:List WData):l.row.toRowW.claim.post args (.bool true) args=true :=
 postW_of (r:=l.row.toRowW) (X:=(true == true))
  (show WShape.has [] (.bool true) .bool=true by first | rfl | decide | simp [WShape.has,WShape.arms,WShape.armsAll])
  (show (WTm.eq .res (.lit (.bool true))).value [] { args:=args,res:=some (.bool true),after:=args } = some (.bool (true == true)) from w_eq_bool (w_res rfl) w_lit) rfl
theorem BB{l:OpenLaw}{n:Nat}{q:bx}{loose:List Str}{XP:(Str->Option Value)->Heap->Prop}{YP:World->Heap->Prop}{d:DefRec}
  (hn:l.most=some n) (PZ:d.params.defaults=[])
  (call:∀ (w:World) (kG dR:aj) (mg mb:Str->Option Value) (fa:Addr) (o:Obj) (pm cd doc:Value) (a:Addr) (vs:List Value) (ns:List Int),
   Ground q loose [] XP w kG mg mb dR.heap->YP w dR.heap ->
   dR.heap.get? fa=some o->o.data=.func (docDef d.name d.params d.body d.scope pm cd doc)->dR.heap.CodeRec cd d.name->mg d.name=some (.ref fa) ->
   dR.heap.get? a=some { cls:=.type "list",data:=.seq vs.toArray }->jv vs ns->ns.length<=n->dR.gens=#[] ->
   rY (model l.prog w) B2 (.call (.ref fa) ⟨[.ref a],[]⟩) (fun r s'=>r=.ok (.ret (.bool true))/\OldK dR.heap s'.heap/\s'.os=dR.os/\ye s'.gens) dR) :
  WalkO q loose XP YP l.row.toRowW d [] (fun f vs=>DM f vs):=by
 intro w kG dR mg mb G Y fa o pm cd doc dV kV ho hd yS hD PO hg args vals as Jd WC YI SY UQ;obtain rfl:dV=.none:=Dflts.none hD PZ;obtain rfl:kV=.none:=Dflts.noKw hD;obtain⟨a,vs,ns,rfl,rfl,NI,hints,hlen⟩:=Fu hn Jd SY;refine enter_call (uG (call w kG dR mg mb fa o pm cd doc a vs ns G Y ho (fd_plain hd) yS PO NI hints hlen hg) fun r s' hq=>?_);obtain⟨rfl,h2,h3,h4⟩:=hq;exact⟨.inl ⟨.bool true,.bool true,[],rfl,fun _=>rfl,.bool true,FF l _,fun _=>⟨List.Pairwise.nil,fun _ hm=>(nomatch hm)⟩⟩,h2,h3,h4⟩
end Vl
namespace L2
open PySem PySem.Spec PyProof.Rows
theorem xf:∀ {vs:List Value} {ns:List Int},jv vs ns->Vals (ns.map V.int) vs
 | _,_,.nil=>.nil
 | _,_,.cons n t h=>.cons ⟨t,rfl⟩ (xf h)
noncomputable def L9(H:Hp):Prop:=∀ b,H b=none\/∃ o xs,H b=some (.kh o (.lst xs))
theorem IG{P:bx}{w:World}{K:af}{mg mb:Str->Option Value}{CX:GH}{k:Nat}{fa a:Addr}{fd:aG}{x:Str}{sp:Sp}{dR:aj}{vs:List Value}{ns:List Int}
  (KX:K.In dR.heap) (Jg:dR.heap.Ns bc mg) (hb:dR.heap.Ns builtinsNs mb) (WR:∀ x:Str,x≠"__name__"->mb x=cS x) (Th:dR.heap.NoLimit) (hg:dR.gens=#[])
  (ha:dR.heap.get? a=some { cls:=.type "list",data:=.seq vs.toArray }) (hi:jv vs ns) (hl:ns.length<=aT) (hr:kr k B2)
  (F:∀ base:Heap,K.In base->base.Ns bc mg->fE P w K mg base CX k fa fd [x] sp) (P2:∀ (s:aj) (u:Value),Hl s fd ⟨[u],[]⟩ [(x,u)])
  (Mr:∀ H:Hp,L9 H->rL K H a (ns.map V.int)->sp [.ref a] H (fun v _=>v=.bl true) fun _ _ _=>False)
  (TG:∀ H e s',CX [] H dR (fun _ _ _=>False) e s'->False) :
  rY (model P w) B2 (.call (.ref fa) ⟨[.ref a],[]⟩) (fun r s'=>r=.ok (.ret (.bool true))/\OldK dR.heap s'.heap/\s'.os=dR.os/\ye s'.gens) dR:=by
 have rv:=xf hi;have SF:=hi.length;have core:∀ H:Hp,L9 H->rL K H a (ns.map V.int)->qc P w H dR.heap->(∀ b,H b≠none->b=a)->(H a≠none->K.lookup a=none) ->
   rY (model P w) B2 (.call (.ref fa) ⟨[.ref a],[]⟩) (fun r s'=>r=.ok (.ret (.bool true))/\OldK dR.heap s'.heap/\s'.os=dR.os/\ye s'.gens) dR:=by
  intro H hO hS cz hA hK;have EZ:∀ {b:Addr} {o:Obj},dR.heap.get? b=some o->H b=none->(yR dR.heap H).get? b=some o:=fun e n=>Jj e n;have Pq:∀ {b:Addr} {o:Obj} {es:Array j5} {ep:Nat},dR.heap.get? b=some o->o.data=.dict es ep->H b=none:=fun {b o es ep} e d=>by
   cases q:H b with
   | none=>rfl
   | some u =>
    have e':b=a:=hA b (by rw [q]; simp);subst e';rw [ha] at e; cases e;have d':Data.seq vs.toArray _=Data.dict es ep:=d;cases d'
  have QM:∀ {b:Addr} {m:Str->Option Value},dR.heap.Ns b m->(yR dR.heap H).Ns b m:=fun {b m} ⟨o,es,ep,e,d,r⟩=>⟨o,es,ep,EZ e (Pq e d),d,r⟩;have U2:K.In (yR dR.heap H):=fun b o e=>EZ (KX b o e) (by
   cases q:H b with
   | none=>rfl
   | some u =>
    have e':b=a:=hA b (by rw [q]; simp);subst e';rw [hK (by rw [q]; simp)] at e; cases e)
  have hM:Mod K mg (yR dR.heap H):=⟨U2,QM Jg,⟨mb,QM hb,WR⟩,let ⟨mc,h1,h2⟩:=Th; ⟨mc,QM h1,h2⟩⟩;have e0:Ma P w K mg (yR dR.heap H) B2 [] dR H:=⟨rfl,hM,fun b o e=>LG e,Nat.le_of_eq (FW _ _),trivial,fun b hb=>absurd (show b∈([]:List Addr) from hb) (by simp),cz,.of_eq hg⟩;refine uG ((F _ U2 (QM Jg)).run B2 [] dR H ⟨[.ref a],[]⟩ [.ref a] [.ref a] _ _ hr e0 (P2 dR (.ref a)) (.cons rfl .nil) (Mr H hO hS)) fun r s' h=>?_;cases r with
  | error e=>exact(TG H e s' h).elim
  | ok fl =>
   cases fl with
   | next=>exact bB h
   | brk=>exact bB h
   | cont=>exact bB h
   | ret u =>
    obtain⟨v,H',os,bare,un,Tb,r',q⟩:=h;have q':v=.bl true:=q;subst q';obtain rfl:u=wo true:=r';refine⟨rfl,OldK.of_keep fun b o e=>?_,os,bare⟩;cases q:H b with
    | none=>exact un.keep b o e q (by intro z; exact absurd (show b∈([]:List Addr) from z) (by simp)) (by simp)
    | some u =>
     rcases hO b with z | ⟨ob,xs,z⟩
     ·rw [q] at z; cases z
     ·have z2:=un.vL b ob _ z;obtain⟨e1,_⟩:=cz b _ z;obtain⟨e2,_⟩:=Tb b _ z2;rw [e] at e1; cases e1;exact e2
 cases hk:K.lookup a with
 | some o =>
  have e:=KX a o hk;rw [ha] at e;cases e;refine core (fun _=>none) (fun _=>.inl rfl) (.inr ⟨_,vs.toArray,_,hk,rfl,rfl,rfl,by rw [aF,SF]; exact hl,by simpa using rv⟩) (fun b u z=>by have z':(none:Option HO)=some u:=z; cases z') (fun b z=>absurd rfl z) fun z=>absurd rfl z
 | none =>
  refine core (fun b=>if b=a then some (.kh { cls:=.type "list",data:=.seq vs.toArray } (.lst (ns.map V.int))) else none) (fun b=>?_) (.inl (.inr ⟨{ cls:=.type "list",data:=.seq vs.toArray },if_pos rfl⟩)) (fun b u z=>?_) (fun b z=>?_) fun _=>hk
  ·by_cases hb:b=a
   ·exact .inr ⟨_,_,if_pos hb⟩
   ·exact .inl (if_neg hb)
  ·by_cases hb:b=a
   ·have z':=(if_pos hb).symm.trans z;cases z';subst hb;exact⟨ha,by rw [ag]; exact hl,vs,_,rv,ha⟩
   ·have z':=(if_neg hb).symm.trans z;cases z'
  ·by_cases hb:b=a
   ·exact hb
   ·exact absurd (if_neg hb) z
theorem KP{l:ya}{n k:Nat}{q:bx}{loose:List Str}{XP:(Str->Option Value)->Heap->Prop}{YP:World->Heap->Prop}{d:DefRec}{K:Params->af}{CX:World->GH}{sp:World->Sp}{x:Str}
  (hn:l.most=some n) (Wx:n<=aT) (PZ:d.params.defaults=[]) (hr:kr k B2)
  (hY:∀ (w:World) (h:Heap),YP w h->(K w.params).In h)
  (F:∀ (w:World) (mg:Str->Option Value) (fa:Addr) (h:Heap),(K w.params).In h->h.Ns bc mg->mg d.name=some (.ref fa) ->
   ∃ fd:aG,(∀ (s:aj) (u:Value),Hl s fd ⟨[u],[]⟩ [(x,u)]) /\
    ∀ base:Heap,(K w.params).In base->base.Ns bc mg->fE l.prog w (K w.params) mg base (CX w) k fa fd [x] (sp w))
  (Mr:∀ (w:World) (H:Hp) (a:Addr) (ns:List Int),ns.length<=n->L9 H->rL (K w.params) H a (ns.map V.int)->sp w [.ref a] H (fun v _=>v=.bl true) fun _ _ _=>False)
  (TG:∀ (w:World) (H:Hp) (s:aj) (e:Value) (s':aj),CX w [] H s (fun _ _ _=>False) e s'->False) :
  PySem.W.WalkO q loose XP YP l.row.toRowW d [] (fun f vs=>DM f vs):=by
 refine Vl.BB hn PZ fun w kG dR mg mb fa o pm cd doc a vs ns G Y ho hd yS PO NI hints hlen hg=>?_;have KX:=hY w _ Y;obtain⟨fd,hb,hF⟩:=F w mg fa _ KX G.T.g PO;exact IG KX G.T.g G.T.b G.T.builtins G.T.nolimit hg NI hints (bf hlen Wx) hr hF hb (fun H hO hS=>Mr w H a ns hlen hO hS) fun H e s'=>TG w H dR e s'
end L2
/- YT Yk Q9 (shape; YU,My.* are T6):
   My.YX: a structure of RG addresses Vw Vq Uy names (classes,OE); My.Txt K t: a structure (Prop) of RG equations over K;
   My.RE:{K} {implicit addresses ..} (e1:nsIn K bc "law" = some (some (.ref f))) (e2:K.lookup f=some ⟨oc,od,.func (fnOf "law" "law" params body scope dV kV doc pm an lV ct),sl⟩) (e3:codeIn K lV "law" = true) ..:∃ t,My.Txt K t
(RG tactic k_is has no namespace: write k_is) -/
namespace L2
open PySem PySem.Spec PyProof.Rows
noncomputable def jQ(s:Stmt):Arguments:=match s with
 | .FunctionDef _ a _ _ _ _ _ _ _ _=>a
 | _=>{ posonlyargs:=[],args:=[],vararg:=none,kwonlyargs:=[],kw_defaults:=[],kwarg:=none,defaults:=[] }
noncomputable def gT(s:Stmt):List Stmt:=match s with
 | .FunctionDef _ _ b _ _ _ _ _ _ _=>b
 | _=>[]
noncomputable def aW(s:Stmt):Scope:=match s with
 | .FunctionDef _ _ _ _ _ _ sc _ _ _=>sc
 | _=>{ kind:=.function,names:=[],isGenerator:=false,isCoroutine:=false }
noncomputable abbrev gW:GH:=fun _ _ _ _ _ _=>False
noncomputable abbrev E0:XK:=fun _ _ _=>False
theorem Pd{X:Cx}:Passes gW X E0:=fun _ _ _ _ _ _ _ h=>h.elim
structure o3(K:af)(x qual:Str)(st:Stmt)(f:Addr)(fd:aG):Prop where
 ex:∃ (oc:Value) (od:Option Addr) (kV doc pm:Value) (an:Option Addr) (lV ct:Value) (Io:Array (Option Value)),
  fd=gE x qual (jQ st) (gT st) (aW st) .none kV doc pm an lV ct/\K.lookup f=some ⟨oc,od,.func fd,Io⟩/\zS K lV qual=true
 kp:jB K (.ref f)=true
section
variable {P:bx} {w:World} {K:af} {mg:Str->Option Value} {base:Heap}
theorem o3.ok{x qual:Str}{st:Stmt}{f:Addr}{fd:aG}{N ps:List Str}{k:Nat}{sp:Sp}(F:o3 K x qual st f fd)(S:cg N ps (aW st))(len:∀ vs H Q E,sp vs H Q E->vs.length=ps.length)
  (Jl:∀ (lV:Value) (A:cM) (outer:List Env) (s:aj) (H:Hp) (vs:List V) (Q:VK) (E:XK),kr k (A.deeper (zP qual (aW st) s.heap.objs.size f lV))->sp vs H Q E ->
   ∃ t,OM (Bw gW P w K mg base N qual (aW st) f lV A outer s H E).Ou (gT st) t/\t { nx:=fun _ H'=>Q .cf H',rt:=Q } (start N vs) H):fE P w K mg base gW (k+1) f fd ps sp:=by
 obtain⟨oc,od,kV,doc,pm,an,lV,ct,Io,rfl,lk,yS⟩:=F.ex;refine Qd lk yS S len fun A outer s H vs Q E hr Mr=>?_;obtain⟨t,h,q⟩:=Jl lV A outer s H vs Q E hr Mr;exact⟨t,h.Ou,q⟩
theorem o3.binds{x qual:Str}{st:Stmt}{f:Addr}{fd:aG}{ps:List Str}(F:o3 K x qual st f fd)
  (h:∀ (kV doc pm:Value) (an:Option Addr) (lV ct:Value) (us:List Value),us.length=ps.length->bindArgs (gE x qual (jQ st) (gT st) (aW st) .none kV doc pm an lV ct) ⟨us,[]⟩=pure (ps.zip us)):Binds K fd ps []:=by
 obtain⟨oc,od,kV,doc,pm,an,lV,ct,Io,rfl,lk,yS⟩:=F.ex;exact .all (h kV doc pm an lV ct)
theorem NV{x qual:Str}{st:Stmt}{f:Addr}{oc:Value}{od an:Option Addr}{Io:Array (Option Value)}{kV doc pm lV ct:Value}(l:K.lookup f=some ⟨oc,od,.func (gE x qual (jQ st) (gT st) (aW st) .none kV doc pm an lV ct),Io⟩)
  (c:zS K lV qual=true) (k:jB K (.ref f)=true):o3 K x qual st f (gE x qual (jQ st) (gT st) (aW st) .none kV doc pm an lV ct):=⟨⟨oc,od,kV,doc,pm,an,lV,ct,Io,rfl,l,c⟩,k⟩
end
end L2
set_option autoImplicit false
section
namespace K2
open PySem (Str)
inductive D where
 | cf | bl (b:Bool) | int (i:Int) | str (x:Str) | tup (ds:List D) | dq (ds:List D) | p8 (aY:List (D×D)) | ref (a:Nat) | exc (c:Str) | Bh (c:Str) (ns:List Str) (ds:List D)
 deriving Inhabited
inductive GO where
 | lst (ds:List D)
 | kB (aY:List (D×D))
 | ins (c:Str) (fs:List (Str×D))
noncomputable abbrev Gp:=Nat->Option GO
noncomputable def cY(G:Gp)(a:Nat)(o:GO):Gp:=fun b=>if b=a then some o else G b
theorem aS{G:Gp}{a:Nat}{o:GO}:cY G a o a=some o:=by unfold cY; rw [if_pos rfl]
theorem cQ{G:Gp}{a b:Nat}{o:GO}(h:b≠a):cY G a o b=G b:=by unfold cY; rw [if_neg h]
noncomputable abbrev SZ:Nat:=16777216
structure Ex where
 cls:Str
 Xf:List (Str×D)
noncomputable abbrev jY:=Ex->Gp->Prop
noncomputable abbrev fD:=List (Option D)
noncomputable abbrev DK:=D->Gp->Prop
noncomputable abbrev eU:=jY->fD->Gp->DK->Prop
noncomputable abbrev tM:=jY->fD->Gp->(Bool->Gp->Prop)->Prop
noncomputable abbrev BG:=jY->fD->Gp->(List D->Gp->Prop)->Prop
structure kZ where
 nx:fD->Gp->Prop
 rt:DK
 bk:fD->Gp->Prop
 ct:fD->Gp->Prop
noncomputable abbrev gU:=jY->kZ->fD->Gp->Prop
noncomputable abbrev oZ:=List D->Gp->DK->jY->Prop
noncomputable abbrev x4:=D->D->Gp->DK->Prop
noncomputable def GU(n:Nat)(i:Int):Option Nat:=if 0<=i then (if i < n then some i.toNat else none) else if -(n:Int)<=i then some (i+n).toNat else none
noncomputable def nK{α:Type}(xs:List α)(i:Int):Option α:=(GU xs.length i).bind fun j=>xs[j]?
noncomputable def gR(n d:Nat):Option Int->Nat
 | none=>d
 | some v=>if v < 0 then (v+(n:Int)).toNat else min v.toNat n
noncomputable def cut{α:Type}(xs:List α)(lo hi:Option Int):List α:=(xs.drop (gR xs.length 0 lo)).take (gR xs.length xs.length hi - gR xs.length 0 lo)
mutual
noncomputable def fM:D->D->Bool
 | .cf,.cf=>true
 | .bl a,.bl b=>a == b
 | .bl a,.int b=>(if a then 1 else 0) == b
 | .int a,.bl b=>a == (if b then 1 else 0)
 | .int a,.int b=>a == b
 | .str a,.str b=>a == b
 | .tup a,.tup b=>ji a b
 | .dq a,.dq b=>ji a b
 | _,_=>false
noncomputable def ji:List D->List D->Bool
 | [],[]=>true
 | a :: r,b :: t=>fM a b&&ji r t
 | _,_=>false
end
mutual
noncomputable def nr:D->Bool
 | .ref _=>false
 | .exc _=>false
 | .Bh _ _ _=>false
 | .p8 _=>false
 | .str x=>x.cps.all (· < 0x110000)
 | .tup ds=>nh ds
 | .dq ds=>nh ds
 | _=>true
noncomputable def nh:List D->Bool
 | []=>true
 | d :: r=>nr d&&nh r
end
class inductive Sn (G:Gp):Nat->D->D->Prop
 | cf {n:Nat}:Sn G n .cf .cf
 | bl {n:Nat} (b:Bool):Sn G n (.bl b) (.bl b)
 | int {n:Nat} (i:Int):Sn G n (.int i) (.int i)
 | str {n:Nat} (x:Str) (h:x.cps.all (· < 0x110000)=true):Sn G n (.str x) (.str x)
 | Cf {n:Nat}:Sn G (n+1) (.tup []) (.tup [])
 | nW {n:Nat} {d s:D} {ds ss:List D}:Sn G n d s->Sn G (n+1) (.tup ds) (.tup ss)->Sn G (n+1) (.tup (d :: ds)) (.tup (s :: ss))
 | Fx {n:Nat}:Sn G (n+1) (.dq []) (.dq [])
 | xt {n:Nat} {d s:D} {ds ss:List D}:Sn G n d s->Sn G (n+1) (.dq ds) (.dq ss)->Sn G (n+1) (.dq (d :: ds)) (.dq (s :: ss))
 | ref {n:Nat} {a:Nat} {ds ss:List D}:G a=some (.lst ds)->Sn G n (.dq ds) (.dq ss)->Sn G n (.ref a) (.dq ss)
noncomputable abbrev SN:Nat:=8
theorem Sn.nr{G:Gp}{n:Nat}{d t:D}(h:Sn G n d t):K2.nr t=true:=by
 induction h with
 | cf=>rfl
 | bl b=>rfl
 | int i=>rfl
 | str x h=>exact h
 | Cf=>rfl
 | nW _ _ IY IX =>
  show (K2.nr _&&K2.nh _)=true;rw [IY];exact IX
 | Fx=>rfl
 | xt _ _ IY IX =>
  show (K2.nr _&&K2.nh _)=true;rw [IY];exact IX
 | ref _ _ ih=>exact ih
noncomputable def dM:D->Bool
 | .int _=>true
 | .str _=>true
 | _=>false
noncomputable def Ce:D->Gp->Option Bool
 | .cf,_=>some false
 | .bl b,_=>some b
 | .int i,_=>some (i != 0)
 | .str x,_=>if x.length<=SZ then some ((x.length:Int) != 0) else none
 | .tup ds,_=>some (!ds.isEmpty)
 | .dq ds,_=>some (!ds.isEmpty)
 | .exc _,_=>none
 | .Bh _ _ _,_=>none
 | .p8 aY,_=>if (aY.all fun p=>dM p.1)=true then some (!aY.isEmpty) else none
 | .ref a,G=>match G a with
  | some (.lst ds)=>some (!ds.isEmpty)
  | some (.kB aY)=>if (aY.all fun p=>dM p.1)=true then some (!aY.isEmpty) else none
  | _=>none
noncomputable def aE(i:Nat):eU:=fun _ τ G Q=>match τ[i]? with
 | some (some d)=>Q d G
 | _=>False
noncomputable def dC(d:D):eU:=fun _ _ G Q=>Q d G
noncomputable def bh:BG:=fun _ _ G Q=>Q [] G
noncomputable def aH(a:eU)(r:BG):BG:=fun E τ G Q=>a E τ G fun x G1=>r E τ G1 fun xs G2=>Q (x :: xs) G2
noncomputable def lP(t:BG):eU:=fun E τ G Q=>t E τ G fun ds G1=>ds.length<=SZ/\Q (.tup ds) G1
noncomputable def kn(t:BG):eU:=fun E τ G Q=>t E τ G fun ds G1=>ds.length<=SZ/\∀ p,G1 p=none->Q (.ref p) (cY G1 p (.lst ds))
noncomputable def bG(r:x4)(a b:eU):eU:=fun E τ G Q=>a E τ G fun x G1=>b E τ G1 fun y G2=>r x y G2 Q
noncomputable def zJ(r:D->Gp->DK->Prop)(a:eU):eU:=fun E τ G Q=>a E τ G fun x G1=>r x G1 Q
noncomputable def jl(G:Gp)(o:GO)(Q:DK):Prop:=∀ p,G p=none->Q (.ref p) (cY G p o)
noncomputable def MulOk(i j:Int):Prop:=(-(2 ^ 64) < i/\i < 2 ^ 64)\/(-(2 ^ 64) < j/\j < 2 ^ 64)
noncomputable def oj:D->Gp->Option (List D)
 | .dq ds,_=>some ds
 | .ref a,G=>match G a with
  | some (.lst ds)=>some ds
  | _=>none
 | _,_=>none
noncomputable def zt(x y:D)(G:Gp)(Q:DK):Prop:=match oj x G,oj y G with
 | some xs,some ys=>xs.length+ys.length<=SZ/\jl G (.lst (xs++ys)) Q
 | _,_=>False
noncomputable def o8:x4
 | .int i,.int j,G,Q=>Q (.int (i+j)) G
 | .str a,.str b,G,Q=>a.length+b.length<=SZ/\Q (.str (a++b)) G
 | .tup a,.tup b,G,Q=>a≠[]/\a.length+b.length<=SZ/\Q (.tup (a++b)) G
 | x,y,G,Q=>zt x y G Q
noncomputable def MZ:x4
 | .int i,.int j,G,Q=>Q (.int (i - j)) G
 | _,_,_,_=>False
noncomputable def Fy:x4
 | .int i,.int j,G,Q=>MulOk i j/\Q (.int (i * j)) G
 | _,_,_,_=>False
noncomputable def qL:x4
 | .int i,.int j,G,Q=>0 < j/\Q (.int (i % j)) G
 | _,_,_,_=>False
noncomputable def Av:x4
 | .int i,.int j,G,Q=>0 < j/\j < 2 ^ 30/\Q (.int (i / j)) G
 | _,_,_,_=>False
noncomputable def Cw:D->Gp->DK->Prop
 | .int i,G,Q=>Q (.int (-i)) G
 | _,_,_=>False
noncomputable def GS(neg:Bool):x4:=fun x y G Q=>∃ a b,Sn G SN x a/\Sn G SN y b/\Q (.bl (if neg then !fM a b else fM a b)) G
noncomputable def lexLt:List Int->List Int->Bool
 | [],[]=>false
 | [],_ :: _=>true
 | _ :: _,[]=>false
 | x :: xs,y :: ys=>if x=y then lexLt xs ys else decide (x < y)
noncomputable def QJ:x4
 | .int i,.int j,G,Q=>Q (.bl (decide (i < j))) G
 | .tup a,.tup b,G,Q=>∃ xs ys,a=xs.map D.int/\b=ys.map D.int/\Q (.bl (lexLt xs ys)) G
 | _,_,_,_=>False
noncomputable def Ml:x4
 | .int i,.int j,G,Q=>Q (.bl (decide (i<=j))) G
 | _,_,_,_=>False
noncomputable def RZ:x4
 | .int i,.int j,G,Q=>Q (.bl (decide (i > j))) G
 | _,_,_,_=>False
noncomputable def VN:x4
 | .int i,.int j,G,Q=>Q (.bl (decide (i>=j))) G
 | _,_,_,_=>False
noncomputable def Ia(neg:Bool):D->Gp->DK->Prop:=fun x G Q=>match x with
 | .cf=>Q (.bl (!neg)) G
 | _=>Q (.bl neg) G
noncomputable def itemsOf:D->Gp->Option (List D)
 | .tup ds,_=>some ds
 | .dq ds,_=>some ds
 | .ref a,G=>match G a with
  | some (.lst ds)=>some ds
  | _=>none
 | _,_=>none
noncomputable def pR:D->Bool
 | .tup ds=>ds.all dM
 | _=>false
noncomputable def fY(aY:List (D×D))(k:D):Bool:=(dM k&&aY.all fun p=>dM p.1)||(pR k&&aY.all fun p=>pR p.1)
noncomputable def look(aY:List (D×D))(k:D):Option D:=(aY.find? fun p=>fM p.1 k).map (·.2)
noncomputable def put(aY:List (D×D))(k v:D):List (D×D) :=
 if (aY.any fun p=>fM p.1 k)=true then aY.map (fun p=>if fM p.1 k=true then (p.1,v) else p) else aY++[(k,v)]
noncomputable def yA(neg:Bool):x4:=fun x y G Q=>match y with
 | .ref a=>(match G a with
  | some (.kB aY)=>fY aY x=true/\Q (.bl (if neg then !(look aY x).isSome else (look aY x).isSome)) G
  | some (.lst ds)=>∃ s ss,Sn G SN x s/\Sn G SN (.dq ds) (.dq ss)/\Q (.bl (if neg then !ss.any (fM · s) else ss.any (fM · s))) G
  | _=>False)
 | .p8 aY=>aY≠[]/\fY aY x=true/\Q (.bl (if neg then !(look aY x).isSome else (look aY x).isSome)) G
 | .tup ds=>∃ s ss,Sn G SN x s/\Sn G SN (.dq ds) (.dq ss)/\Q (.bl (if neg then !ss.any (fM · s) else ss.any (fM · s))) G
 | .dq ds=>∃ s ss,Sn G SN x s/\Sn G SN (.dq ds) (.dq ss)/\Q (.bl (if neg then !ss.any (fM · s) else ss.any (fM · s))) G
 | _=>False
noncomputable def qM:x4
 | .tup ds,.int i,G,Q=>(match nK ds i with
  | some d=>Q d G
  | none=>False)
 | .dq ds,.int i,G,Q=>(match nK ds i with
  | some d=>Q d G
  | none=>False)
 | .p8 aY,k,G,Q=>fY aY k=true/\(match look aY k with
  | some d=>Q d G
  | none=>False)
 | .ref a,k,G,Q=>(match G a with
  | some (.lst ds)=>(match k with
   | .int i=>(match nK ds i with
    | some d=>Q d G
    | none=>False)
   | _=>False)
  | some (.kB aY)=>fY aY k=true/\(match look aY k with
   | some d=>Q d G
   | none=>False)
  | _=>False)
 | _,_,_,_=>False
noncomputable abbrev Oe:=jY->fD->Gp->(Option Int->Gp->Prop)->Prop
noncomputable def cR:Oe:=fun _ _ G Q=>Q none G
noncomputable def jE(t:eU):Oe:=fun E τ G Q=>t E τ G fun x G1=>match x with
 | .int i=>Q (some i) G1
 | _=>False
noncomputable def HZ:D->Option Int->Option Int->Gp->DK->Prop
 | .tup ds,lo,hi,G,Q=>¬ (gR ds.length 0 lo=0/\gR ds.length ds.length hi=ds.length)/\Q (.tup (cut ds lo hi)) G
 | .dq ds,lo,hi,G,Q=>jl G (.lst (cut ds lo hi)) Q
 | .ref a,lo,hi,G,Q=>(match G a with
  | some (.lst ds)=>jl G (.lst (cut ds lo hi)) Q
  | _=>False)
 | _,_,_,_,_=>False
noncomputable def wg(a:eU)(lo hi:Oe):eU:=fun E τ G Q=>a E τ G fun x G1=>lo E τ G1 fun l G2=>hi E τ G2 fun h G3=>HZ x l h G3 Q
noncomputable def fP(a:eU):tM:=fun E τ G Q=>a E τ G fun x G1=>match Ce x G1 with
 | some b=>Q b G1
 | none=>False
noncomputable def Gv(a b:tM):tM:=fun E τ G Q=>a E τ G fun c G1=>if c=true then b E τ G1 Q else Q false G1
noncomputable def zK(a b:tM):tM:=fun E τ G Q=>a E τ G fun c G1=>if c=true then Q true G1 else b E τ G1 Q
noncomputable def gK(a:tM):tM:=fun E τ G Q=>a E τ G fun c G1=>Q (!c) G1
noncomputable def Bv(a b:eU):eU:=fun E τ G Q=>a E τ G fun x G1=>match Ce x G1 with
 | some true=>b E τ G1 Q
 | some false=>Q x G1
 | none=>False
noncomputable def Ql(a b:eU):eU:=fun E τ G Q=>a E τ G fun x G1=>match Ce x G1 with
 | some true=>Q x G1
 | some false=>b E τ G1 Q
 | none=>False
noncomputable def JL(a:eU):eU:=fun E τ G Q=>a E τ G fun x G1=>match Ce x G1 with
 | some c=>Q (.bl (!c)) G1
 | none=>False
noncomputable def Q7(c:tM)(a b:eU):eU:=fun E τ G Q=>c E τ G fun k G1=>if k=true then a E τ G1 Q else b E τ G1 Q
noncomputable def bT(sp:oZ)(t:BG):eU:=fun E τ G Q=>t E τ G fun ds G1=>sp ds G1 Q fun _ _=>False
noncomputable def lQ(r:List D->Gp->DK->Prop)(t:BG):eU:=fun E τ G Q=>t E τ G fun ds G1=>r ds G1 Q
noncomputable def yi(x:D)(G:Gp):Prop:=match x with
 | .ref a=>(match G a with
  | some (.lst _)=>True
  | _=>False)
 | .dq _=>True
 | _=>False
noncomputable def Vv(x:D)(G:Gp):Prop:=match x with
 | .p8 _=>True
 | .ref a=>(match G a with
  | some (.kB _)=>True
  | _=>False)
 | _=>False
noncomputable def Mb(x:D)(_:Gp):Prop:=match x with
 | .str _=>True
 | _=>False
noncomputable def oT(ty:D->Gp->Prop)(r:D->List D->Gp->DK->Prop)(o:eU)(t:BG):eU:=fun E τ G Q=>o E τ G fun x G1=>ty x G1/\t E τ G1 fun ds G2=>r x ds G2 Q
noncomputable def lenOf:D->Gp->Option Nat
 | .tup ds,_=>some ds.length
 | .dq ds,_=>some ds.length
 | .str x,_=>if x.length<=SZ then some x.length else none
 | .p8 aY,_=>if (aY.all fun p=>dM p.1)=true then some aY.length else none
 | .ref a,G=>match G a with
  | some (.lst ds)=>some ds.length
  | some (.kB aY)=>if (aY.all fun p=>dM p.1)=true then some aY.length else none
  | _=>none
 | _,_=>none
noncomputable def pz(ds:List D)(G:Gp)(Q:DK):Prop:=match ds with
 | [x]=>(match lenOf x G with
  | some n=>Q (.int (n:Int)) G
  | none=>False)
 | _=>False
noncomputable def tL(ds:List D)(G:Gp)(Q:DK):Prop:=match ds with
 | [x]=>(match itemsOf x G with
  | some xs=>jl G (.lst xs) Q
  | none=>False)
 | _=>False
noncomputable def Ny(C:String):D->Gp->Option Bool
 | .cf,_=>some false
 | .bl _,_=>some (C == "bool" || C == "int")
 | .int _,_=>some (C == "int")
 | .str _,_=>some (C == "str")
 | .tup _,_=>some (C == "tuple")
 | .dq _,_=>some (C == "list")
 | .p8 _,_=>some (C == "dict")
 | .exc _,_=>none
 | .Bh _ _ _,_=>none
 | .ref a,G=>match G a with
  | some (.lst _)=>some (C == "list")
  | some (.kB _)=>some (C == "dict")
  | _=>none
noncomputable def Bu(C:String)(a:eU):eU:=fun E τ G Q=>a E τ G fun x G1=>match Ny C x G1 with
 | some b=>Q (.bl b) G1
 | none=>False
noncomputable def L3(ds:List D)(G:Gp)(Q:DK):Prop:=match ds with
 | [x]=>∃ bs:List Bool,itemsOf x G=some (bs.map D.bl)/\Q (.bl (bs.all id)) G
 | _=>False
noncomputable def my(x:D)(ds:List D)(G:Gp)(Q:DK):Prop:=match x,ds with
 | .ref a,[d]=>(match G a with
  | some (.lst xs)=>xs.length < SZ/\Q .cf (cY G a (.lst (xs++[d])))
  | _=>False)
 | _,_=>False
noncomputable def uk(x:D)(ds:List D)(G:Gp)(Q:DK):Prop:=match x,ds with
 | .ref a,[y]=>(match G a,oj y G with
  | some (.lst xs),some ys=>xs.length+ys.length<=SZ/\Q .cf (cY G a (.lst (xs++ys)))
  | _,_=>False)
 | _,_=>False
noncomputable def qR(x:D)(ds:List D)(G:Gp)(Q:DK):Prop:=match x,ds with
 | .ref a,[.int i,d]=>(match G a with
  | some (.lst xs)=>0<=i/\i<=xs.length/\xs.length < SZ/\Q .cf (cY G a (.lst (xs.take i.toNat++d :: xs.drop i.toNat)))
  | _=>False)
 | _,_=>False
noncomputable def yI(x:D)(ds:List D)(G:Gp)(Q:DK):Prop:=match ds with
 | [d]=>yi x G/\∃ xs s ss,itemsOf x G=some xs/\Sn G SN d s/\Sn G SN (.dq xs) (.dq ss)/\(match ss.findIdx? (fM · s) with
  | some k=>Q (.int (k:Int)) G
  | none=>False)
 | _=>False
noncomputable def AM(x:D)(ds:List D)(G:Gp)(Q:DK):Prop:=match x,ds with
 | .ref a,[k,d]=>(match G a with
  | some (.kB aY)=>fY aY k=true/\dM k=true/\(match look aY k with
   | some v=>Q v G
   | none=>aY.length < SZ/\Q d (cY G a (.kB (put aY k d))))
  | _=>False)
 | _,_=>False
noncomputable def cu:gU:=fun _ K τ G=>K.nx τ G
noncomputable def cK(a b:gU):gU:=fun E K τ G=>a E { K with nx:=b E K } τ G
noncomputable def ft(a:eU):gU:=fun E K τ G=>a E τ G fun _ G1=>K.nx τ G1
noncomputable def cm(a:eU):gU:=fun E K τ G=>a E τ G K.rt
noncomputable def xS:gU:=fun _ K _ G=>K.rt .cf G
noncomputable def eT(c:tM)(a b:gU):gU:=fun E K τ G=>c E τ G fun k G1=>if k=true then a E K τ G1 else b E K τ G1
noncomputable def pX:gU:=fun _ _ _ _=>False
noncomputable abbrev wj:=jY->D->fD->Gp->(fD->Gp->Prop)->Prop
noncomputable abbrev zu:=jY->List D->fD->Gp->(fD->Gp->Prop)->Prop
noncomputable def a6(i:Nat):wj:=fun _ d τ G Q=>Q (τ.set i (some d)) G
noncomputable def vJ:zu:=fun _ ds τ G Q=>match ds with
 | []=>Q τ G
 | _=>False
noncomputable def jh(t:wj)(r:zu):zu:=fun E ds τ G Q=>match ds with
 | d :: ds=>t E d τ G fun mY G1=>r E ds mY G1 Q
 | _=>False
noncomputable def wL(t:zu):wj:=fun E d τ G Q=>match d with
 | .tup ds=>t E ds τ G Q
 | _=>False
noncomputable def D7(o k d:D)(G:Gp)(Q:Gp->Prop):Prop:=match o with
 | .ref a=>(match G a with
  | some (.lst xs)=>(match k with
   | .int i=>(match GU xs.length i with
    | some j=>Q (cY G a (.lst (xs.set j d)))
    | none=>False)
   | _=>False)
  | some (.kB aY)=>fY aY k=true/\aY.length < SZ/\Q (cY G a (.kB (put aY k d)))
  | _=>False)
 | _=>False
noncomputable def NT(o k:eU):wj:=fun E d τ G Q=>o E τ G fun x G1=>k E τ G1 fun y G2=>D7 x y d G2 fun G3=>Q τ G3
noncomputable def c9(a:eU)(g:wj):gU:=fun E K τ G=>a E τ G fun x G1=>g E x τ G1 K.nx
noncomputable abbrev Ks:=jY->fD->Gp->(List D->(Gp->Prop)->Gp->Prop)->Prop
noncomputable def mD(a:eU):Ks:=fun E τ G R=>a E τ G fun x G1=>match x with
 | .tup ds=>R ds (fun _=>True) G1
 | .dq ds=>R ds (fun _=>True) G1
 | .ref p=>(match G1 p with
  | some (.lst ds)=>R ds (fun G2=>G2 p=some (.lst ds)) G1
  | _=>False)
 | _=>False
noncomputable def jy(lo:Int)(n:Nat):List D:=(bW n).map fun (i:Nat)=>D.int (lo+(i:Int))
noncomputable def EC(a:eU):Ks:=fun E τ G R=>a E τ G fun x G1=>match x with
 | .int n=>-(2 ^ 62)<=n/\n < 2 ^ 62/\R (jy 0 n.toNat) (fun _=>True) G1
 | _=>False
noncomputable def nu(g:wj)(body:gU)(ok:Gp->Prop):List D->gU
 | []=>fun _ K τ G=>ok G/\K.nx τ G
 | d :: r=>fun E K τ G=>ok G/\g E d τ G fun mY G1=>body E { K with nx:=nu g body ok r E K,ct:=nu g body ok r E K,bk:=K.nx } mY G1
noncomputable def jz(i:Ks)(g:wj)(body:gU):gU:=fun E K τ G=>i E τ G fun ds ok G1=>nu g body ok ds E K τ G1
noncomputable def zU(c:tM)(body:gU):Nat->gU
 | 0=>fun _ _ _ _=>False
 | n+1=>fun E K τ G=>c E τ G fun k G1=>if k=true then body E { K with nx:=zU c body n E K,ct:=zU c body n E K,bk:=K.nx } τ G1 else K.nx τ G1
noncomputable def JK(c:tM)(body:gU):gU:=fun E K τ G=>∃ n,zU c body n E K τ G
noncomputable def fZ(g:wj)(c:Option tM)(e:eU)(ok:Gp->Prop):List D->jY->fD->Gp->List D->(List D->Gp->Prop)->Prop
 | [],_,_,G,acc,Q=>ok G/\Q acc G
 | d :: r,E,τ,G,acc,Q=>ok G/\g E d τ G fun mY G1=>match c with
  | none=>e E mY G1 fun x G2=>fZ g c e ok r E mY G2 (acc++[x]) Q
  | some c=>c E mY G1 fun k G2=>if k=true then e E mY G2 fun x G3=>fZ g (some c) e ok r E mY G3 (acc++[x]) Q else fZ g (some c) e ok r E mY G2 acc Q
noncomputable def sJ(m:Nat)(fr:List Nat)(τ:fD):fD:=aU m none++fr.map fun i=>(τ[i]?).getD none
noncomputable def eA(m:Nat)(fr:List Nat)(i:Ks)(g:wj)(c:Option tM)(e:eU):eU:=fun E τ G Q =>
 i E τ G fun ds ok G1=>ds.length<=SZ/\fZ g c e ok ds (fun _ _=>False) (sJ m fr τ) G1 [] fun xs G2=>jl G2 (.lst xs) Q
noncomputable abbrev tI(ns:List Int):D:=.tup (ns.map D.int)
noncomputable def Sy:List Int->Option Int
 | []=>none
 | a :: r=>some (r.foldl (fun m x=>if x < m then x else m) a)
noncomputable def Sw:List (List Int)->Option (List Int)
 | []=>none
 | a :: r=>some (r.foldl (fun m x=>if lexLt x m=true then x else m) a)
noncomputable def JS(ds:List D)(G:Gp)(Q:DK):Prop:=match ds with
 | [x]=>(∃ ns m,itemsOf x G=some (ns.map D.int)/\Sy ns=some m/\Q (.int m) G)\/∃ QL m,itemsOf x G=some (QL.map tI)/\Sw QL=some m/\Q (tI m) G
 | _=>False
noncomputable def ze:eU:=fun _ _ G Q=>jl G (.kB []) Q
noncomputable def iJ(G G':Gp):Prop:=∀ a o,G a=some o->G' a=some o
theorem iJ.refl(G:Gp):iJ G G:=fun _ _ h=>h
theorem iJ.trans{G G1 G2:Gp}(a:iJ G G1)(b:iJ G1 G2):iJ G G2:=fun c o h=>b c o (a c o h)
theorem iJ.new{G:Gp}{p:Nat}{o:GO}(h:G p=none):iJ G (cY G p o):=fun a ob e=>by
 by_cases ha:a=p
 ·subst ha; rw [h] at e; cases e
 ·rw [cQ ha]; exact e
theorem iJ.free{G G':Gp}{p:Nat}(l:iJ G G')(h:G' p=none):G p=none:=by
 cases q:G p with
 | none=>rfl
 | some o=>rw [l p o q] at h; cases h
theorem iJ.put{G G':Gp}{p:Nat}{o:GO}(l:iJ G G')(h:G p=none):iJ G (cY G' p o):=fun a ob e=>by
 by_cases ha:a=p
 ·subst ha; rw [h] at e; cases e
 ·rw [cQ ha]; exact l a ob e
noncomputable def ends(Q:DK):kZ:=⟨fun _ G=>Q .cf G,Q,fun _ _=>False,fun _ _=>False⟩
noncomputable def bz(n:Nat)(ds:List D):fD:=ds.map some++aU (n - ds.length) none
noncomputable def LO(x:D)(G1:Gp)(R:List D->(Gp->Prop)->Gp->Prop):Prop:=match x with
 | .tup ds=>R ds (fun _=>True) G1
 | .dq ds=>R ds (fun _=>True) G1
 | .ref p=>(match G1 p with
  | some (.lst ds)=>R ds (fun G2=>G2 p=some (.lst ds)) G1
  | _=>False)
 | _=>False
noncomputable def Im(x:D)(G1:Gp)(Q:Option Int->Gp->Prop):Prop:=match x with
 | .int i=>Q (some i) G1
 | _=>False
noncomputable def qp(x:D)(G1:Gp)(Q:Bool->Gp->Prop):Prop:=match Ce x G1 with
 | some b=>Q b G1
 | none=>False
noncomputable def Mi(x:D)(G1:Gp)(R:List D->(Gp->Prop)->Gp->Prop):Prop:=match x with
 | .int n=>-(2 ^ 62)<=n/\n < 2 ^ 62/\R (jy 0 n.toNat) (fun _=>True) G1
 | _=>False
noncomputable def isAt(C:String)(x:D)(G1:Gp)(Q:DK):Prop:=match Ny C x G1 with
 | some b=>Q (.bl b) G1
 | none=>False
theorem fe{i j:Int}{G:Gp}{Q:DK}:o8 (.int i) (.int j) G Q=Q (.int (i+j)) G:=rfl
theorem lF{a b:List D}{G:Gp}{Q:DK}:o8 (.tup a) (.tup b) G Q=(a≠[]/\a.length+b.length<=SZ/\Q (.tup (a++b)) G):=rfl
theorem ka{i j:Int}{G:Gp}{Q:DK}:MZ (.int i) (.int j) G Q=Q (.int (i - j)) G:=rfl
theorem jb{i j:Int}{G:Gp}{Q:DK}:Fy (.int i) (.int j) G Q=(MulOk i j/\Q (.int (i * j)) G):=rfl
theorem eF{i j:Int}{G:Gp}{Q:DK}:qL (.int i) (.int j) G Q=(0 < j/\Q (.int (i % j)) G):=rfl
theorem hX{i j:Int}{G:Gp}{Q:DK}:Av (.int i) (.int j) G Q=(0 < j/\j < 2 ^ 30/\Q (.int (i / j)) G):=rfl
theorem ip{i:Int}{G:Gp}{Q:DK}:Cw (.int i) G Q=Q (.int (-i)) G:=rfl
theorem mf{i j:Int}{G:Gp}{Q:DK}:QJ (.int i) (.int j) G Q=Q (.bl (decide (i < j))) G:=rfl
theorem mh{i j:Int}{G:Gp}{Q:DK}:Ml (.int i) (.int j) G Q=Q (.bl (decide (i<=j))) G:=rfl
theorem mi{i j:Int}{G:Gp}{Q:DK}:RZ (.int i) (.int j) G Q=Q (.bl (decide (i > j))) G:=rfl
theorem oM{i j:Int}{G:Gp}{Q:DK}:VN (.int i) (.int j) G Q=Q (.bl (decide (i>=j))) G:=rfl
theorem Lg{ds:List D}{i:Int}{d:D}{G:Gp}{Q:DK}(h:nK ds i=some d):qM (.dq ds) (.int i) G Q=Q d G:=by unfold qM; simp only [h]
theorem Li{a:Nat}{ds:List D}{i:Int}{d:D}{G:Gp}{Q:DK}(h1:G a=some (.lst ds))(h:nK ds i=some d):qM (.ref a) (.int i) G Q=Q d G:=by unfold qM; simp only [h1,h]
theorem iW{ds:List D}{lo hi:Option Int}{G:Gp}{Q:DK}:HZ (.tup ds) lo hi G Q=(¬ (gR ds.length 0 lo=0/\gR ds.length ds.length hi=ds.length)/\Q (.tup (cut ds lo hi)) G):=rfl
theorem md{ds:List D}{lo hi:Option Int}{G:Gp}{Q:DK}:HZ (.dq ds) lo hi G Q=jl G (.lst (cut ds lo hi)) Q:=rfl
theorem Lf{a:Nat}{ds:List D}{lo hi:Option Int}{G:Gp}{Q:DK}(h:G a=some (.lst ds)):HZ (.ref a) lo hi G Q=jl G (.lst (cut ds lo hi)) Q:=by unfold HZ; simp only [h]
theorem kq{ds:List D}{G:Gp}{Q:DK}:pz [.dq ds] G Q=Q (.int (ds.length:Int)) G:=rfl
theorem ko{ds:List D}{G:Gp}{Q:DK}:pz [.tup ds] G Q=Q (.int (ds.length:Int)) G:=rfl
theorem JU{a:Nat}{ds:List D}{G:Gp}{Q:DK}(h:G a=some (.lst ds)):pz [.ref a] G Q=Q (.int (ds.length:Int)) G:=by unfold pz lenOf; simp only [h]
theorem dh{a:eU}{E:jY}{τ:fD}{G:Gp}{R:List D->(Gp->Prop)->Gp->Prop}:mD a E τ G R=a E τ G fun x G1=>LO x G1 R:=by
 unfold mD LO; rfl
theorem oR{ds:List D}{G:Gp}{R:List D->(Gp->Prop)->Gp->Prop}:LO (.dq ds) G R=R ds (fun _=>True) G:=rfl
theorem kR{ds:List D}{G:Gp}{R:List D->(Gp->Prop)->Gp->Prop}:LO (.tup ds) G R=R ds (fun _=>True) G:=rfl
theorem ED{a:Nat}{ds:List D}{G:Gp}{R:List D->(Gp->Prop)->Gp->Prop}(h:G a=some (.lst ds)):LO (.ref a) G R=R ds (fun G2=>G2 a=some (.lst ds)) G:=by unfold LO; simp only [h]
theorem eS{t:eU}{E:jY}{τ:fD}{G:Gp}{Q:Option Int->Gp->Prop}:jE t E τ G Q=t E τ G fun x G1=>Im x G1 Q:=rfl
theorem dn{i:Int}{G:Gp}{Q:Option Int->Gp->Prop}:Im (.int i) G Q=Q (some i) G:=rfl
theorem cJ{a:eU}{E:jY}{τ:fD}{G:Gp}{Q:Bool->Gp->Prop}:fP a E τ G Q=a E τ G fun x G1=>qp x G1 Q:=rfl
theorem bF{b:Bool}{G:Gp}{Q:Bool->Gp->Prop}:qp (.bl b) G Q=Q b G:=rfl
theorem jg{a:eU}{E:jY}{τ:fD}{G:Gp}{R:List D->(Gp->Prop)->Gp->Prop}:EC a E τ G R=a E τ G fun x G1=>Mi x G1 R:=rfl
theorem hV{n:Int}{G:Gp}{R:List D->(Gp->Prop)->Gp->Prop}:Mi (.int n) G R=(-(2 ^ 62)<=n/\n < 2 ^ 62/\R (jy 0 n.toNat) (fun _=>True) G):=rfl
theorem iA{C:String}{a:eU}{E:jY}{τ:fD}{G:Gp}{Q:DK}:Bu C a E τ G Q=a E τ G fun x G1=>isAt C x G1 Q:=rfl
theorem kg {C:String} {i:Int} {G:Gp} {Q:DK}:isAt C (.int i) G Q=Q (.bl (C == "int")) G:=rfl
theorem kf {C:String} {ds:List D} {G:Gp} {Q:DK}:isAt C (.tup ds) G Q=Q (.bl (C == "tuple")) G:=rfl
theorem IU {C:String} {a:Nat} {ds:List D} {G:Gp} {Q:DK} (h:G a=some (.lst ds)):isAt C (.ref a) G Q=Q (.bl (C == "list")) G:=by unfold isAt Ny; simp only [h]
theorem jm{a b:eU}{E:jY}{τ:fD}{G:Gp}{Q:DK}:Bv a b E τ G Q=a E τ G fun x G1=>qp x G1 fun k G2=>if k=true then b E τ G2 Q else Q x G2:=by
 unfold Bv qp;refine congrArg (a E τ G) ?_;funext x G1;cases Ce x G1 with
 | none=>rfl
 | some k=>cases k <;> simp
theorem oS{a b:eU}{E:jY}{τ:fD}{G:Gp}{Q:DK}:Ql a b E τ G Q=a E τ G fun x G1=>qp x G1 fun k G2=>if k=true then Q x G2 else b E τ G2 Q:=by
 unfold Ql qp;refine congrArg (a E τ G) ?_;funext x G1;cases Ce x G1 with
 | none=>rfl
 | some k=>cases k <;> simp
theorem km{a:eU}{E:jY}{τ:fD}{G:Gp}{Q:DK}:JL a E τ G Q=a E τ G fun x G1=>qp x G1 fun k G2=>Q (.bl (!k)) G2:=rfl
theorem kc{a:Nat}{y:D}{G:Gp}{Q:DK}:o8 (.ref a) y G Q=zt (.ref a) y G Q:=by cases y <;> rfl
theorem kb{a:List D}{y:D}{G:Gp}{Q:DK}:o8 (.dq a) y G Q=zt (.dq a) y G Q:=by cases y <;> rfl
theorem me{a:Nat}{lo hi:Option Int}{G:Gp}{Q:DK}:HZ (.ref a) lo hi G Q=(match G a with
  | some (.lst ds)=>jl G (.lst (cut ds lo hi)) Q
  | _=>False):=rfl
theorem Lh{a:Nat}{k:D}{G:Gp}{Q:DK}:qM (.ref a) k G Q=(match G a with
  | some (.lst ds)=>(match k with
   | .int i=>(match nK ds i with
    | some d=>Q d G
    | none=>False)
   | _=>False)
  | some (.kB aY)=>fY aY k=true/\(match look aY k with
   | some d=>Q d G
   | none=>False)
  | _=>False):=by unfold qM; cases k <;> rfl
theorem fB{ds:List D}{i:Int}{G:Gp}{Q:DK}:qM (.tup ds) (.int i) G Q=(match nK ds i with
  | some d=>Q d G
  | none=>False):=rfl
theorem jc{ds:List D}{i:Int}{G:Gp}{Q:DK}:qM (.dq ds) (.int i) G Q=(match nK ds i with
  | some d=>Q d G
  | none=>False):=rfl
theorem jX{a:Nat}{G:Gp}{Q:DK}:tL [.ref a] G Q=(match G a with
  | some (.lst ds)=>jl G (.lst ds) Q
  | _=>False):=by
 unfold tL itemsOf;cases h:G a with
 | none=>simp only [h]
 | some g=>cases g <;> simp only [h]
theorem ez{a:Nat}{d:D}{G:Gp}{Q:DK}:my (.ref a) [d] G Q=(match G a with
  | some (.lst xs)=>xs.length < SZ/\Q .cf (cY G a (.lst (xs++[d])))
  | _=>False):=rfl
theorem fW{a:Nat}{y:D}{G:Gp}{Q:DK}:uk (.ref a) [y] G Q=(match G a,oj y G with
  | some (.lst xs),some ys=>xs.length+ys.length<=SZ/\Q .cf (cY G a (.lst (xs++ys)))
  | _,_=>False):=rfl
theorem fm{a:Nat}{i:Int}{d:D}{G:Gp}{Q:DK}:qR (.ref a) [.int i,d] G Q=(match G a with
  | some (.lst xs)=>0<=i/\i<=xs.length/\xs.length < SZ/\Q .cf (cY G a (.lst (xs.take i.toNat++d :: xs.drop i.toNat)))
  | _=>False):=rfl
theorem eO{a:Nat}{k d:D}{G:Gp}{Q:DK}:AM (.ref a) [k,d] G Q=(match G a with
  | some (.kB aY)=>fY aY k=true/\dM k=true/\(match look aY k with
   | some v=>Q v G
   | none=>aY.length < SZ/\Q d (cY G a (.kB (put aY k d))))
  | _=>False):=rfl
theorem Fi{p:Nat}{G:Gp}{Q:Bool->Gp->Prop}:qp (.ref p) G Q=(match G p with
  | some (.lst ds)=>Q (!ds.isEmpty) G
  | some (.kB ds)=>(ds.all fun p=>dM p.1)=true/\Q (!ds.isEmpty) G
  | _=>False):=by
 unfold qp Ce;cases h:G p with
 | none=>simp only [h]
 | some g =>
  cases g with
  | lst ds=>simp only [h]
  | ins _ _=>simp only [h]
  | kB ds =>
   simp only [h];by_cases z:(ds.all fun p=>dM p.1)=true
   ·simp only [z,if_true,true_and]
   ·simp only [z,if_false,false_and,av]
theorem oQ {C:String} {b:Bool} {G:Gp} {Q:DK}:isAt C (.bl b) G Q=Q (.bl (C == "bool" || C == "int")) G:=rfl
theorem gi{a:Nat}{G:Gp}:yi (.ref a) G=(match G a with
  | some (.lst _)=>True
  | _=>False):=rfl
theorem oI{a:Nat}{G:Gp}:Vv (.ref a) G=(match G a with
  | some (.kB _)=>True
  | _=>False):=rfl
theorem oH{ds:List D}{G:Gp}:yi (.dq ds) G=True:=rfl
theorem yw{aY:List (D×D)}{k:D}{G:Gp}{Q:DK}:qM (.p8 aY) k G Q=(fY aY k=true/\(match look aY k with
  | some d=>Q d G
  | none=>False)):=by unfold qM; cases k <;> rfl
theorem gP{x:Str}{G:Gp}:Mb (.str x) G=True:=rfl
end K2
end
section
namespace K2
open PySem (Str)
noncomputable def wQ(R:Nat->Bool)(G:Gp):Gp:=fun a=>if R a=true then none else G a
mutual
inductive Fz (G:Gp) (R:Nat->Bool):D->D->Prop
 | same (d:D):Fz G R d d
 | tup {ds ss:List D}:GF G R ds ss->Fz G R (.tup ds) (.tup ss)
 | dq {ds ss:List D}:GF G R ds ss->Fz G R (.dq ds) (.dq ss)
 | ref {a:Nat} {ds ss:List D}:G a=some (.lst ds)->R a=true->GF G R ds ss->Fz G R (.ref a) (.dq ss)
 | kB {a:Nat} {aY Uz:List (D×D)}:G a=some (.kB aY)->R a=true->DJ G R aY Uz->Fz G R (.ref a) (.p8 Uz)
inductive GF (G:Gp) (R:Nat->Bool):List D->List D->Prop
 | nil:GF G R [] []
 | cons {d s:D} {ds ss:List D}:Fz G R d s->GF G R ds ss->GF G R (d :: ds) (s :: ss)
inductive DJ (G:Gp) (R:Nat->Bool):List (D×D)->List (D×D)->Prop
 | nil:DJ G R [] []
 | cons {k d s:D} {ds ss:List (D×D)}:Fz G R d s->DJ G R ds ss->DJ G R ((k,d) :: ds) ((k,s) :: ss)
end
theorem DJ.same{G:Gp}{R:Nat->Bool}:∀ (aY:List (D×D)),DJ G R aY aY
 | []=>.nil
 | (k,v) :: r=>.cons (.same v) (DJ.same r)
noncomputable def GZ(G:Gp)(x:D)(Q:DK):Prop:=∃ (R:Nat->Bool) (t:D),Fz G R x t/\Q t (wQ R G)
noncomputable def eY(e:eU):eU:=fun E τ G Q=>e E τ G fun x G1=>GZ G1 x Q
noncomputable def JM(i:Nat)(t:gU):gU:=fun E K τ G=>t E { K with nx:=fun mY G1=>match mY[i]? with
 | some (some d)=>GZ G1 d fun t G2=>K.nx (mY.set i (some t)) G2
 | _=>False } τ G
theorem GF.same{G:Gp}{R:Nat->Bool}:∀ (ds:List D),GF G R ds ds
 | []=>.nil
 | d :: ds=>.cons (.same d) (GF.same ds)
theorem vT{G G1:Gp}(l:iJ G G1):wQ (fun a=>(G a).isNone) G1=G:=by
 funext a;unfold wQ;cases h:G a with
 | none=>simp [h]
 | some o=>simp [l a o h,h]
theorem Gm{G G1:Gp}{p:Nat}{o:GO}(l:iJ G G1)(hp:G p=none)(h1:G1 p=some o):wQ (fun a=>(G a).isNone&&decide (a≠p)) G1=cY G p o:=by
 funext a;unfold wQ cY;by_cases ha:a=p
 ·subst ha; simp [h1]
 ·cases h:G a with
  | none=>simp [ha,h]
  | some o=>simp [l a o h,ha,h]
theorem lL{G:Gp}{d:D}{Q:DK}(q:Q d G):GZ G d Q:=⟨fun _=>false,d,.same d,by
 have e:wQ (fun _=>false) G=G:=by funext a; simp [wQ]
 rw [e]; exact q⟩
theorem mG{G G1:Gp}{d:D}{Q:DK}(l:iJ G G1)(q:Q d G):GZ G1 d Q:=⟨_,d,.same d,by rw [vT l]; exact q⟩
theorem Ju{G G1:Gp}{p:Nat}{o:GO}{Q:DK}(l:iJ G G1)(hp:G p=none)(h1:G1 p=some o)(q:Q (.ref p) (cY G p o)):GZ G1 (.ref p) Q :=
 ⟨_,.ref p,.same _,by rw [Gm l hp h1]; exact q⟩
theorem Js{G G1:Gp}{p:Nat}{ds ss:List D}{Q:DK}(l:iJ G G1)(hp:G p=none)(h1:G1 p=some (.lst ds))(hs:GF G1 (fun a=>(G a).isNone) ds ss)(q:Q (.dq ss) G):GZ G1 (.ref p) Q :=
 ⟨_,.dq ss,.ref h1 (by simp [hp]) hs,by rw [vT l]; exact q⟩
theorem NU{G G1:Gp}{p:Nat}{aY:List (D×D)}{Q:DK}(l:iJ G G1)(hp:G p=none)(h1:G1 p=some (.kB aY))(q:Q (.p8 aY) G):GZ G1 (.ref p) Q :=
 ⟨fun a=>(G a).isNone,.p8 aY,.kB h1 (by simp [hp]) (.same _),by rw [vT l]; exact q⟩
noncomputable def xh:oZ:=fun ds G Q _=>∃ ns:List Int,ds=[.dq (ns.map D.int)]/\ns.length<=63/\(∀ a,G a=none)/\∀ G',Q (.bl true) G'
theorem fb{a b:gU}{E:jY}{K:kZ}{τ:fD}{G:Gp}(P:fD->Gp->Prop)(h1:∀ N,(∀ τ G,P τ G->N τ G)->a E { K with nx:=N } τ G)(h2:∀ τ G,P τ G->b E K τ G):cK a b E K τ G:=h1 (b E K) h2
theorem eI{a:eU}{g:wj}{b:gU}{E:jY}{K:kZ}{τ:fD}{G:Gp}:cK (c9 a g) b E K τ G=c9 a g E { K with nx:=b E K } τ G:=rfl
theorem ja{a:eU}{b:gU}{E:jY}{K:kZ}{τ:fD}{G:Gp}:cK (ft a) b E K τ G=ft a E { K with nx:=b E K } τ G:=rfl
theorem yW{g:wj}{body:gU}{ok:Gp->Prop}{ds:List D}{E:jY}{K:kZ}{τ:fD}{G:Gp}(I:List D->fD->Gp->Prop)
  (h0:I [] τ G) (cz:∀ pre τ G,I pre τ G->ok G)
  (step:∀ (pre:List D) (d:D) (post:List D) τ G (N:fD->Gp->Prop),ds=pre++d :: post->I pre τ G->(∀ pE G2,I (pre++[d]) pE G2->N pE G2) ->
   g E d τ G fun mY G1=>body E { K with nx:=N,ct:=N,bk:=K.nx } mY G1)
  (fin:∀ τ G,I ds τ G->K.nx τ G):nu g body ok ds E K τ G:=by
 have main:∀ (post pre:List D) τ G,ds=pre++post->I pre τ G->nu g body ok post E K τ G:=by
  intro post;induction post with
  | nil =>
   intro pre τ G e h;rw [cW] at e;subst e;exact⟨cz _ _ _ h,fin _ _ h⟩
  | cons d post ih =>
   intro pre τ G e h;refine⟨cz _ _ _ h,?_⟩;exact step pre d post τ G _ e h fun pE G2 h2=>ih (pre++[d]) pE G2 (by rw [e,eM]; rfl) h2
 exact main ds [] τ G rfl h0
theorem EW{g:wj}{c:Option tM}{e:eU}{ok:Gp->Prop}{ds:List D}{E:jY}{τ:fD}{G:Gp}{Q:List D->Gp->Prop}(I:List D->List D->fD->Gp->Prop)
  (h0:I [] [] τ G) (cz:∀ pre acc τ G,I pre acc τ G->ok G)
  (step:∀ (pre:List D) (d:D) (post acc:List D) τ G (N:fD->List D->Gp->Prop),ds=pre++d :: post->I pre acc τ G->(∀ pE sO G2,I (pre++[d]) sO pE G2->N pE sO G2) ->
   g E d τ G fun mY G1=>match c with
    | none=>e E mY G1 fun x G2=>N mY (acc++[x]) G2
    | some c=>c E mY G1 fun k G2=>if k=true then e E mY G2 fun x G3=>N mY (acc++[x]) G3 else N mY acc G2)
  (fin:∀ acc τ G,I ds acc τ G->Q acc G):fZ g c e ok ds E τ G [] Q:=by
 have main:∀ (post pre acc:List D) τ G,ds=pre++post->I pre acc τ G->fZ g c e ok post E τ G acc Q:=by
  intro post;induction post with
  | nil =>
   intro pre acc τ G e h;rw [cW] at e;subst e;exact⟨cz _ _ _ _ h,fin _ _ _ h⟩
  | cons d post ih =>
   intro pre acc τ G e' h;refine⟨cz _ _ _ _ h,?_⟩;have:=step pre d post acc τ G (fun pE sO G2=>fZ g c e ok post E pE G2 sO Q) e' h fun pE sO G2 h2=>ih (pre++[d]) sO pE G2 (by rw [e',eM]; rfl) h2;cases c with
   | none=>exact this
   | some c=>exact this
 exact main ds [] [] τ G rfl h0
theorem mJ(a b:D)(r t:List D):ji (a :: r) (b :: t)=(fM a b&&ji r t):=rfl
theorem pV(a b:Int):fM (.int a) (.int b)=(a == b):=rfl
theorem Dh(a b:List D):fM (.tup a) (.tup b)=ji a b:=rfl
theorem Bm{α:Type} [DecidableEq α](a b:α)(as bs:List α):(decide (a=b)&&decide (as=bs))=decide (a :: as=b :: bs):=by
 by_cases h:a=b <;> by_cases h2:as=bs <;> simp [h,h2]
end K2
end
section
namespace K2
open PySem (Str)
set_option genInjectivity true in structure T2 where
 a:Int
 b:Int
 deriving DecidableEq
set_option genInjectivity true in structure T3 where
 a:Int
 b:Int
 c:Int
 deriving DecidableEq
class Enc (α:Type) [DecidableEq α] where
 enc:α->D
 dep:Nat
 eqv:∀ a b,fM (enc a) (enc b)=decide (a=b)
 sn:∀ (G:Gp) (n:Nat) (a:α),dep<=n->Sn G n (enc a) (enc a)
open Enc (enc)
noncomputable instance:Enc Int where
 enc:=D.int
 dep:=0
 eqv:=fun a b=>rfl
 sn:=fun G n a _=>.int a
noncomputable instance:Enc Bool where
 enc:=D.bl
 dep:=0
 eqv:=fun a b=>Kh a b
 sn:=fun G n a _=>.bl a
noncomputable instance:Enc T2 where
 enc:=fun t=>.tup [.int t.a,.int t.b]
 dep:=1
 eqv:=fun x y=>by
  cases x; cases y;rw [Dh,mJ,mJ,pV,pV]; simp only [T2.mk.injEq]; rename_i a b c d; by_cases h:a=c <;> by_cases h2:b=d <;> simp [h,h2,show ji [] []=true from rfl]
 sn:=fun G n t h=>by
  obtain⟨m,rfl⟩:∃ m,n=m+1:=⟨n - 1,by lia⟩;exact .nW (.int _) (.nW (.int _) .Cf)
noncomputable instance:Enc T3 where
 enc:=fun t=>.tup [.int t.a,.int t.b,.int t.c]
 dep:=1
 eqv:=fun x y=>by
  cases x; cases y;rw [Dh,mJ,mJ,mJ,pV,pV,pV]; simp only [T3.mk.injEq]; rename_i a b e c d f; by_cases h:a=c <;> by_cases h2:b=d <;> by_cases h3:e=f <;> simp [h,h2,h3,show ji [] []=true from rfl]
 sn:=fun G n t h=>by
  obtain⟨m,rfl⟩:∃ m,n=m+1:=⟨n - 1,by lia⟩;exact .nW (.int _) (.nW (.int _) (.nW (.int _) .Cf))
noncomputable instance {α β:Type} [DecidableEq α] [DecidableEq β] [Enc α] [Enc β]:Enc (α×β) where
 enc:=fun t=>.tup [enc t.1,enc t.2]
 dep:=max (Enc.dep α) (Enc.dep β)+1
 eqv:=fun x y=>by
  cases x; cases y;rw [Dh,mJ,mJ,Enc.eqv,Enc.eqv]; simp only [Prod.mk.injEq]; rename_i a b c d; by_cases h:a=c <;> by_cases h2:b=d <;> simp [h,h2,show ji [] []=true from rfl]
 sn:=fun G n t h=>by
  obtain⟨m,rfl⟩:∃ m,n=m+1:=⟨n - 1,by lia⟩;exact .nW (Enc.sn _ _ _ (by lia)) (.nW (Enc.sn _ _ _ (by lia)) .Cf)
theorem Bi{α:Type} [DecidableEq α] [Enc α]:∀ (a b:List α),ji (a.map enc) (b.map enc)=decide (a=b)
 | [],[]=>(decide_eq_true rfl).symm
 | [],b :: bs=>(decide_eq_false (fun z=>nomatch z)).symm
 | a :: as,[]=>(decide_eq_false (fun z=>nomatch z)).symm
 | a :: as,b :: bs=>by
  show (fM (enc a) (enc b)&&ji (as.map enc) (bs.map enc))=_;rw [Enc.eqv,Bi as bs,Bm]
theorem nX{α:Type} [DecidableEq α] [Enc α](G:Gp)(n:Nat)(h:Enc.dep α<=n):∀ (xs:List α),Sn G (n+1) (.dq (xs.map enc)) (.dq (xs.map enc))
 | []=>.Fx
 | a :: as=>.xt (Enc.sn _ _ _ h) (nX G n h as)
noncomputable instance {α:Type} [DecidableEq α] [Enc α]:Enc (List α) where
 enc:=fun xs=>.dq (xs.map enc)
 dep:=Enc.dep α+1
 eqv:=fun a b=>by
  show ji _ _=_;exact Bi a b
 sn:=fun G n t h=>by
  obtain⟨m,rfl⟩:∃ m,n=m+1:=⟨n - 1,by lia⟩;exact nX G m (by lia) t
section
variable {α:Type} [DecidableEq α] [Enc α]
theorem zr(L:List α)(t:α):(L.map enc).any (fM · (enc t))=decide (t∈L):=by
 induction L with
 | nil=>simp
 | cons a r ih =>
  simp only [ax,lA,Enc.eqv,ih,pD];by_cases h:a=t
  ·simp [h]
  ·have h':¬ t=a:=fun z=>h z.symm;by_cases h2:t∈r <;> simp [h,h',h2]
end
section
variable {κ α:Type} [DecidableEq κ] [Enc κ] [DecidableEq α] [Enc α]
noncomputable def eR(l:List (κ×α)):List (D×D):=l.map fun p=>(enc p.1,enc p.2)
noncomputable def nG(l:List (κ×α))(k:κ):Option α:=(l.find? fun p=>p.1=k).map (·.2)
noncomputable def GB(l:List (κ×α))(k:κ)(v:α):List (κ×α):=if (l.any fun p=>p.1=k)=true then l.map (fun p=>if p.1=k then (p.1,v) else p) else l++[(k,v)]
theorem qU(l:List (κ×α))(k:κ):look (eR l) (enc k)=(nG l k).map enc:=by
 unfold look nG eR;induction l with
 | nil=>rfl
 | cons p r ih =>
  rw [ax,fG,fG];simp only [Enc.eqv];by_cases h:p.1=k
  ·simp [h]
  ·simp only [h,decide_false]; exact ih
theorem Lm(l:List (κ×α))(k:κ)(v:α):put (eR l) (enc k) (enc v)=eR (GB l k v):=by
 unfold put GB;have e:((eR l).any fun p=>fM p.1 (enc k))=l.any fun p=>decide (p.1=k):=by
  unfold eR; rw [List.any_map]; congr 1; funext p; exact Enc.eqv _ _
 rw [e];split
 ·unfold eR; rw [dN,dN];refine List.map_congr_left fun p _=>?_;simp only [Function.comp,Enc.eqv,decide_eq_true_eq];split <;> rfl
 ·unfold eR; rw [cV]; rfl
end
class oD (κ:Type) [DecidableEq κ] [Enc κ] where
 ok:(∀ k:κ,dM (enc k)=true)\/∀ k:κ,pR (enc k)=true
noncomputable instance:oD Int:=⟨.inl fun _=>rfl⟩
noncomputable instance:oD T2:=⟨.inr fun _=>rfl⟩
noncomputable instance:oD T3:=⟨.inr fun _=>rfl⟩
theorem ke{κ α:Type} [DecidableEq κ] [Enc κ] [oD κ] [DecidableEq α] [Enc α](l:List (κ×α))(k:κ):fY (eR l) (enc k)=true:=by
 unfold fY eR;rcases oD.ok (κ:=κ) with h | h
 ·rw [rV]; left;rw [h k,Bool.true_and,yd,gf];intro p _; exact h p.1
 ·rw [rV]; right;rw [h k,Bool.true_and,yd,gf];intro p _; exact h p.1
end K2
end
section
namespace K2
open PySem (Str)
open Enc (enc)
mutual
noncomputable def kI:D->D->Bool
 | .int a,.int b=>decide (a < b)
 | .tup a,.tup b=>kH a b
 | .dq a,.dq b=>kH a b
 | _,_=>false
noncomputable def kH:List D->List D->Bool
 | [],[]=>false
 | [],_ :: _=>true
 | _ :: _,[]=>false
 | x :: xs,y :: ys=>if fM x y=true then kH xs ys else kI x y
end
theorem mz(x y:D)(xs ys:List D):kH (x :: xs) (y :: ys)=if fM x y=true then kH xs ys else kI x y:=rfl
theorem IC(a b:Int):kI (.int a) (.int b)=decide (a < b):=rfl
inductive kJ where
 | int | tup (l:List kJ) | lst (s:kJ)
mutual
noncomputable def bZ:kJ->D->Bool
 | .int,.int _=>true
 | .tup l,.tup ds=>dJ l ds
 | .lst s,.dq ds=>ff s ds
 | _,_=>false
noncomputable def dJ:List kJ->List D->Bool
 | [],[]=>true
 | s :: l,d :: ds=>bZ s d&&dJ l ds
 | _,_=>false
noncomputable def ff:kJ->List D->Bool
 | _,[]=>true
 | s,d :: ds=>bZ s d&&ff s ds
end
theorem cF{a:D}(h:bZ .int a=true):∃ i,a=.int i:=by cases a <;> first | exact⟨_,rfl⟩ | exact bo (show false=true from h)
theorem cD{l:List kJ}{a:D}(h:bZ (.tup l) a=true):∃ x,a=.tup x:=by cases a <;> first | exact⟨_,rfl⟩ | exact bo (show false=true from h)
theorem cE{l:kJ}{a:D}(h:bZ (.lst l) a=true):∃ x,a=.dq x:=by cases a <;> first | exact⟨_,rfl⟩ | exact bo (show false=true from h)
mutual
noncomputable def LX:kJ->Nat
 | .int=>0
 | .tup l=>JD l+1
 | .lst s=>LX s+1
noncomputable def JD:List kJ->Nat
 | []=>0
 | s :: l=>max (LX s) (JD l)
end
noncomputable def Ir(sh:kJ):Bool:=decide (LX sh<=7)&&(match sh with
 | .tup []=>false
 | _=>true)
noncomputable def Kj(a b:D):Bool:=!kI b a
noncomputable def kN(ds:List D):List D:=ds.mergeSort Kj
noncomputable def ux(ds:List D)(G:Gp)(Q:DK):Prop:=match ds with
 | [x]=>∃ (sh:kJ) (xs:List D),yi x G/\itemsOf x G=some xs/\xs.all (bZ sh)=true/\Ir sh=true/\xs.length < 64/\jl G (.lst (kN xs)) Q
 | _=>False
class bE (α:Type) [DecidableEq α] [Enc α] where
 lt:α->α->Bool
 sT:kJ
 CV:∀ a:α,bZ sT (enc a)=true
 Ox:∀ a b:α,kI (enc a) (enc b)=lt a b
 Km:∀ a,lt a a=false
 trans:∀ a b c,lt a b=true->lt b c=true->lt a c=true
 KU:∀ a b,lt a b=false->lt b a=false->a=b
noncomputable instance:bE Int where
 lt:=fun a b=>decide (a < b)
 sT:=.int
 CV:=fun _=>rfl
 Ox:=fun a b=>rfl
 Km:=fun a=>by simp
 trans:=fun a b c h1 h2=>by simp at *; lia
 KU:=fun a b h1 h2=>by simp at *; lia
noncomputable def o9{α:Type} [DecidableEq α](lt:α->α->Bool):List α->List α->Bool
 | [],[]=>false
 | [],_ :: _=>true
 | _ :: _,[]=>false
 | x :: xs,y :: ys=>if x=y then o9 lt xs ys else lt x y
theorem vt{α:Type} [DecidableEq α](lt:α->α->Bool)(x y:α)(xs ys:List α):o9 lt (x :: xs) (y :: ys)=if x=y then o9 lt xs ys else lt x y:=rfl
section
variable {α:Type} [DecidableEq α] {lt:α->α->Bool}
theorem qW:∀ x:List α,o9 lt x x=false
 | []=>rfl
 | a :: x=>by simp only [vt,if_true]; exact qW x
theorem qV(t:∀ a b,lt a b=false->lt b a=false->a=b):∀ (x y:List α),o9 lt x y=false->o9 lt y x=false->x=y
 | [],[],_,_=>rfl
 | [],_ :: _,h,_=>by cases h
 | _ :: _,[],_,h=>by cases h
 | a :: x,b :: y,h1,h2=>by
  simp only [vt] at h1 h2;by_cases e:a=b
  ·subst e;simp only [if_true] at h1 h2;rw [qV t x y h1 h2]
  ·rw [if_neg e] at h1;rw [if_neg (ku e)] at h2;exact absurd (t a b h1 h2) e
theorem mB(ir:∀ a,lt a a=false)(tr:∀ a b c,lt a b=true->lt b c=true->lt a c=true):∀ (x y z:List α),o9 lt x y=true->o9 lt y z=true->o9 lt x z=true
 | [],[],_,h,_=>by cases h
 | [],_ :: _,[],_,h=>by cases h
 | [],_ :: _,_ :: _,_,_=>rfl
 | _ :: _,[],_,h,_=>by cases h
 | _ :: _,_ :: _,[],_,h=>by cases h
 | a :: x,b :: y,c :: z,h1,h2=>by
  simp only [vt] at h1 h2 ⊢;by_cases e1:a=b
  ·subst e1;simp only [if_true] at h1;by_cases e2:a=c
   ·subst e2;simp only [if_true] at h2 ⊢;exact mB ir tr x y z h1 h2
   ·rw [if_neg e2] at h2 ⊢; exact h2
  ·rw [if_neg e1] at h1;by_cases e2:b=c
   ·subst e2;rw [if_neg e1]; exact h1
   ·rw [if_neg e2] at h2;have h3:=tr _ _ _ h1 h2;rw [if_neg (by rintro rfl; rw [ir] at h3; cases h3)]; exact h3
end
theorem qS{α:Type} [DecidableEq α] [Enc α] [bE α]:∀ (x y:List α),kH (x.map enc) (y.map enc)=o9 (bE.lt (α:=α)) x y
 | [],[]=>rfl
 | [],_ :: _=>rfl
 | _ :: _,[]=>rfl
 | a :: x,b :: y=>by simp only [ax,mz,vt,Enc.eqv,qS x y,bE.Ox,decide_eq_true_eq]
theorem xK{α:Type} [DecidableEq α] [Enc α] [bE α]:∀ (x:List α),ff (bE.sT α) (x.map enc)=true
 | []=>rfl
 | a :: x=>by simp only [ax,ff,bE.CV,xK x,Bool.and_self]
noncomputable instance {α:Type} [DecidableEq α] [Enc α] [bE α]:bE (List α) where
 lt:=o9 bE.lt
 sT:=.lst (bE.sT α)
 CV:=fun a=>xK a
 Ox:=fun a b=>qS a b
 Km:=qW
 trans:=mB bE.Km bE.trans
 KU:=qV bE.KU
noncomputable def T2.l(t:T2):List Int:=[t.a,t.b]
noncomputable def T3.l(t:T3):List Int:=[t.a,t.b,t.c]
noncomputable instance:bE T2 where
 lt:=fun x y=>o9 (fun a b=>decide (a < b)) x.l y.l
 sT:=.tup [.int,.int]
 CV:=fun _=>rfl
 Ox:=fun a b=>qS a.l b.l
 Km:=fun a=>qW _
 trans:=fun a b c=>mB (α:=Int) bE.Km bE.trans _ _ _
 KU:=fun ⟨a,b⟩ ⟨c,d⟩ h1 h2=>by
  have:=qV (α:=Int) bE.KU _ _ h1 h2;simpa [T2.l] using this
noncomputable instance:bE T3 where
 lt:=fun x y=>o9 (fun a b=>decide (a < b)) x.l y.l
 sT:=.tup [.int,.int,.int]
 CV:=fun _=>rfl
 Ox:=fun a b=>qS a.l b.l
 Km:=fun a=>qW _
 trans:=fun a b c=>mB (α:=Int) bE.Km bE.trans _ _ _
 KU:=fun ⟨a,b,e⟩ ⟨c,d,f⟩ h1 h2=>by
  have:=qV (α:=Int) bE.KU _ _ h1 h2;simpa [T3.l] using this
section
variable {α:Type} [DecidableEq α] [Enc α] [bE α]
noncomputable def AS(a b:α):Bool:=!bE.lt b a
noncomputable def HK(xs:List α):List α:=xs.mergeSort AS
theorem xi(xs:List α):kN (xs.map enc)=(HK xs).map enc:=by
 unfold kN HK;symm;exact List.map_mergeSort fun a _ b _=>by unfold AS Kj; rw [bE.Ox]
theorem xB(a b c:α)(h1:AS a b=true)(h2:AS b c=true):AS a c=true:=by
 unfold AS at *;simp only [w9] at *;cases h:bE.lt c a with
 | false=>rfl
 | true =>
  by_cases e:a=b
  ·subst e; rw [h] at h2; cases h2
  ·have P5:bE.lt a b=true:=by
    cases q:bE.lt a b with
    | true=>rfl
    | false=>exact absurd (bE.KU _ _ q h1) e
   rw [bE.trans _ _ _ h P5] at h2; cases h2
theorem vA(a b:α)(h1:AS a b=true)(h2:AS b a=true):a=b:=by
 unfold AS at *;exact bE.KU a b (by simpa using h2) (by simpa using h1)
theorem qv(xs:List α):(HK xs).Perm xs:=List.mergeSort_perm xs AS
theorem K7(xs:List α):(HK xs).length=xs.length:=(qv xs).length_eq
end
end K2
end
section
namespace K2
open PySem (Str)
mutual
theorem iR:∀ (sh:kJ) (a:D),bZ sh a=true->fM a a=true
 | .int,.int i,_=>by show (i == i)=true; exact beq_self_eq_true i
 | .tup l,.tup xs,h=>by show ji xs xs=true; exact tG l xs h
 | .lst l,.dq xs,h=>by show ji xs xs=true; exact tH l xs h
theorem tG:∀ (l:List kJ) (xs:List D),dJ l xs=true->ji xs xs=true
 | [],[],_=>rfl
 | s :: l,x :: xs,h=>by
  have h:(bZ s x&&dJ l xs)=true:=h;rw [az] at h;show (fM x x&&ji xs xs)=true;rw [iR s x h.1,tG l xs h.2]; rfl
theorem tH:∀ (s:kJ) (xs:List D),ff s xs=true->ji xs xs=true
 | _,[],_=>rfl
 | s,x :: xs,h=>by
  have h:(bZ s x&&ff s xs)=true:=h;rw [az] at h;show (fM x x&&ji xs xs)=true;rw [iR s x h.1,tH s xs h.2]; rfl
end
theorem NZ(s:kJ)(ih:∀ (a b:D),bZ s a=true->bZ s b=true->fM a b=true->a=b):∀ (xs ys:List D),ff s xs=true->ff s ys=true->ji xs ys=true->xs=ys:=by
 intro xs;induction xs with
 | nil=>intro ys _ _ h; cases ys with
  | nil=>rfl
  | cons _ _=>cases h
 | cons x xs PC =>
  intro ys h1 h2 h;cases ys with
  | nil=>cases h
  | cons y ys =>
   have h1:(bZ s x&&ff s xs)=true:=h1;have h2:(bZ s y&&ff s ys)=true:=h2;have h:(fM x y&&ji xs ys)=true:=h;rw [az] at h1 h2 h;rw [ih x y h1.1 h2.1 h.1,PC ys h1.2 h2.2 h.2]
mutual
theorem nv:∀ (sh:kJ) (a b:D),bZ sh a=true->bZ sh b=true->fM a b=true->a=b
 | .int,a,b,h1,h2,h=>by
  first | obtain⟨_,rfl⟩:=cF h1 | obtain⟨_,rfl⟩:=cD h1 | obtain⟨_,rfl⟩:=cE h1
  first | obtain⟨_,rfl⟩:=cF h2 | obtain⟨_,rfl⟩:=cD h2 | obtain⟨_,rfl⟩:=cE h2
  rw [pV] at h; rw [beq_iff_eq.mp h]
 | .tup l,a,b,h1,h2,h=>by
  first | obtain⟨_,rfl⟩:=cF h1 | obtain⟨_,rfl⟩:=cD h1 | obtain⟨_,rfl⟩:=cE h1
  first | obtain⟨_,rfl⟩:=cF h2 | obtain⟨_,rfl⟩:=cD h2 | obtain⟨_,rfl⟩:=cE h2
  rw [JB l _ _ h1 h2 h]
 | .lst l,a,b,h1,h2,h=>by
  first | obtain⟨_,rfl⟩:=cF h1 | obtain⟨_,rfl⟩:=cD h1 | obtain⟨_,rfl⟩:=cE h1
  first | obtain⟨_,rfl⟩:=cF h2 | obtain⟨_,rfl⟩:=cD h2 | obtain⟨_,rfl⟩:=cE h2
  rw [NZ l (nv l) _ _ h1 h2 h]
theorem JB:∀ (l:List kJ) (xs ys:List D),dJ l xs=true->dJ l ys=true->ji xs ys=true->xs=ys
 | [],xs,ys,h1,h2,_=>by
  cases xs with
  | nil=>cases ys with
   | nil=>rfl
   | cons _ _=>cases h2
  | cons _ _=>cases h1
 | s :: l,xs,ys,h1,h2,h=>by
  cases xs with
  | nil=>cases h1
  | cons x xs =>
   cases ys with
   | nil=>cases h2
   | cons y ys =>
    have h1:(bZ s x&&dJ l xs)=true:=h1;have h2:(bZ s y&&dJ l ys)=true:=h2;have h:(fM x y&&ji xs ys)=true:=h;rw [az] at h1 h2 h;rw [nv s x y h1.1 h2.1 h.1,JB l xs ys h1.2 h2.2 h.2]
end
theorem IB(s:kJ)(ih:∀ (a b:D),bZ s a=true->bZ s b=true->kI a b=false->kI b a=false->a=b):∀ (xs ys:List D),ff s xs=true->ff s ys=true->kH xs ys=false->kH ys xs=false->xs=ys:=by
 intro xs;induction xs with
 | nil=>intro ys _ _ h _; cases ys with
  | nil=>rfl
  | cons _ _=>cases h
 | cons x xs PC =>
  intro ys h1 h2 h3 h4;cases ys with
  | nil=>cases h4
  | cons y ys =>
   have h1:(bZ s x&&ff s xs)=true:=h1;have h2:(bZ s y&&ff s ys)=true:=h2;rw [az] at h1 h2;simp only [mz] at h3 h4;by_cases e:fM x y=true
   ·have TK:=nv s x y h1.1 h2.1 e;subst TK;rw [if_pos e] at h3 h4;rw [PC ys h1.2 h2.2 h3 h4]
   ·rw [if_neg e] at h3;by_cases e2:fM y x=true
    ·have:=nv s y x h2.1 h1.1 e2;subst this; exact absurd e2 e
    ·rw [if_neg e2] at h4;have:=ih x y h1.1 h2.1 h3 h4;subst this;exact absurd (iR s x h1.1) e
mutual
theorem um:∀ (sh:kJ) (a b:D),bZ sh a=true->bZ sh b=true->kI a b=false->kI b a=false->a=b
 | .int,a,b,h1,h2,h3,h4=>by
  first | obtain⟨_,rfl⟩:=cF h1 | obtain⟨_,rfl⟩:=cD h1 | obtain⟨_,rfl⟩:=cE h1
  first | obtain⟨_,rfl⟩:=cF h2 | obtain⟨_,rfl⟩:=cD h2 | obtain⟨_,rfl⟩:=cE h2
  simp [IC] at h3 h4; congr 1; lia
 | .tup l,a,b,h1,h2,h3,h4=>by
  first | obtain⟨_,rfl⟩:=cF h1 | obtain⟨_,rfl⟩:=cD h1 | obtain⟨_,rfl⟩:=cE h1
  first | obtain⟨_,rfl⟩:=cF h2 | obtain⟨_,rfl⟩:=cD h2 | obtain⟨_,rfl⟩:=cE h2
  rw [AN l _ _ h1 h2 h3 h4]
 | .lst l,a,b,h1,h2,h3,h4=>by
  first | obtain⟨_,rfl⟩:=cF h1 | obtain⟨_,rfl⟩:=cD h1 | obtain⟨_,rfl⟩:=cE h1
  first | obtain⟨_,rfl⟩:=cF h2 | obtain⟨_,rfl⟩:=cD h2 | obtain⟨_,rfl⟩:=cE h2
  rw [IB l (um l) _ _ h1 h2 h3 h4]
theorem AN:∀ (l:List kJ) (xs ys:List D),dJ l xs=true->dJ l ys=true->kH xs ys=false->kH ys xs=false->xs=ys
 | [],xs,ys,h1,h2,_,_=>by
  cases xs with
  | nil=>cases ys with
   | nil=>rfl
   | cons _ _=>cases h2
  | cons _ _=>cases h1
 | s :: l,xs,ys,h1,h2,h3,h4=>by
  cases xs with
  | nil=>cases h1
  | cons x xs =>
   cases ys with
   | nil=>cases h2
   | cons y ys =>
    have h1:(bZ s x&&dJ l xs)=true:=h1;have h2:(bZ s y&&dJ l ys)=true:=h2;rw [az] at h1 h2;simp only [mz] at h3 h4;by_cases e:fM x y=true
    ·have TK:=nv s x y h1.1 h2.1 e;subst TK;rw [if_pos e] at h3 h4;rw [AN l xs ys h1.2 h2.2 h3 h4]
    ·rw [if_neg e] at h3;by_cases e2:fM y x=true
     ·have:=nv s y x h2.1 h1.1 e2;subst this; exact absurd e2 e
     ·rw [if_neg e2] at h4;have:=um s x y h1.1 h2.1 h3 h4;subst this;exact absurd (iR s x h1.1) e
end
mutual
theorem yJ:∀ (sh:kJ) (a:D),bZ sh a=true->kI a a=false
 | .int,.int i,_=>by rw [IC]; exact decide_eq_false (Int.lt_irrefl _)
 | .tup l,.tup xs,h=>by show kH xs xs=false; exact AO l xs h
 | .lst l,.dq xs,h=>by show kH xs xs=false; exact AP l xs h
theorem AO:∀ (l:List kJ) (xs:List D),dJ l xs=true->kH xs xs=false
 | [],[],_=>rfl
 | s :: l,x :: xs,h=>by
  have h:(bZ s x&&dJ l xs)=true:=h;rw [az] at h;simp only [mz,iR s x h.1,if_true]; exact AO l xs h.2
theorem AP:∀ (s:kJ) (xs:List D),ff s xs=true->kH xs xs=false
 | _,[],_=>rfl
 | s,x :: xs,h=>by
  have h:(bZ s x&&ff s xs)=true:=h;rw [az] at h;simp only [mz,iR s x h.1,if_true]; exact AP s xs h.2
end
theorem CH(s:kJ)(ih:∀ (a b c:D),bZ s a=true->bZ s b=true->bZ s c=true->kI a b=true->kI b c=true->kI a c=true):∀ (xs ys zs:List D),ff s xs=true->ff s ys=true->ff s zs=true->kH xs ys=true->kH ys zs=true->kH xs zs=true:=by
 intro xs;induction xs with
 | nil =>
  intro ys zs _ _ _ h4 h5;cases ys with
  | nil=>cases h4
  | cons _ _=>cases zs with
   | nil=>cases h5
   | cons _ _=>rfl
 | cons x xs PC =>
  intro ys zs h1 h2 h3 h4 h5;cases ys with
  | nil=>cases h4
  | cons y ys =>
   cases zs with
   | nil=>cases h5
   | cons z zs =>
    have h1:(bZ s x&&ff s xs)=true:=h1;have h2:(bZ s y&&ff s ys)=true:=h2;have h3:(bZ s z&&ff s zs)=true:=h3;rw [az] at h1 h2 h3;simp only [mz] at h4 h5 ⊢;by_cases e1:fM x y=true
    ·have:=nv s x y h1.1 h2.1 e1;subst this;rw [if_pos e1] at h4;by_cases e2:fM x z=true
     ·rw [if_pos e2] at h5 ⊢;exact PC ys zs h1.2 h2.2 h3.2 h4 h5
     ·rw [if_neg e2] at h5 ⊢; exact h5
    ·rw [if_neg e1] at h4;by_cases e2:fM y z=true
     ·have:=nv s y z h2.1 h3.1 e2;subst this;rw [if_neg e1]; exact h4
     ·rw [if_neg e2] at h5;have h6:=ih x y z h1.1 h2.1 h3.1 h4 h5;rw [if_neg (fun e3=>by
       have:=nv s x z h1.1 h3.1 e3;subst this;rw [yJ s x h1.1] at h6; cases h6)]
      exact h6
mutual
theorem oO:∀ (sh:kJ) (a b c:D),bZ sh a=true->bZ sh b=true->bZ sh c=true->kI a b=true->kI b c=true->kI a c=true
 | .int,a,b,c,h1,h2,h3,h4,h5=>by
  first | obtain⟨_,rfl⟩:=cF h1 | obtain⟨_,rfl⟩:=cD h1 | obtain⟨_,rfl⟩:=cE h1
  first | obtain⟨_,rfl⟩:=cF h2 | obtain⟨_,rfl⟩:=cD h2 | obtain⟨_,rfl⟩:=cE h2
  first | obtain⟨_,rfl⟩:=cF h3 | obtain⟨_,rfl⟩:=cD h3 | obtain⟨_,rfl⟩:=cE h3
  simp [IC] at *; lia
 | .tup l,a,b,c,h1,h2,h3,h4,h5=>by
  first | obtain⟨_,rfl⟩:=cF h1 | obtain⟨_,rfl⟩:=cD h1 | obtain⟨_,rfl⟩:=cE h1
  first | obtain⟨_,rfl⟩:=cF h2 | obtain⟨_,rfl⟩:=cD h2 | obtain⟨_,rfl⟩:=cE h2
  first | obtain⟨_,rfl⟩:=cF h3 | obtain⟨_,rfl⟩:=cD h3 | obtain⟨_,rfl⟩:=cE h3
  exact vk l _ _ _ h1 h2 h3 h4 h5
 | .lst l,a,b,c,h1,h2,h3,h4,h5=>by
  first | obtain⟨_,rfl⟩:=cF h1 | obtain⟨_,rfl⟩:=cD h1 | obtain⟨_,rfl⟩:=cE h1
  first | obtain⟨_,rfl⟩:=cF h2 | obtain⟨_,rfl⟩:=cD h2 | obtain⟨_,rfl⟩:=cE h2
  first | obtain⟨_,rfl⟩:=cF h3 | obtain⟨_,rfl⟩:=cD h3 | obtain⟨_,rfl⟩:=cE h3
  exact CH l (oO l) _ _ _ h1 h2 h3 h4 h5
theorem vk:∀ (l:List kJ) (xs ys zs:List D),dJ l xs=true->dJ l ys=true->dJ l zs=true->kH xs ys=true->kH ys zs=true->kH xs zs=true
 | [],xs,ys,zs,h1,h2,_,h,_=>by
  cases xs with
  | nil=>cases ys with
   | nil=>cases h
   | cons _ _=>cases h2
  | cons _ _=>cases h1
 | s :: l,xs,ys,zs,h1,h2,h3,h4,h5=>by
  cases xs with
  | nil=>cases h1
  | cons x xs =>
   cases ys with
   | nil=>cases h2
   | cons y ys =>
    cases zs with
    | nil=>cases h3
    | cons z zs =>
     have h1:(bZ s x&&dJ l xs)=true:=h1;have h2:(bZ s y&&dJ l ys)=true:=h2;have h3:(bZ s z&&dJ l zs)=true:=h3;rw [az] at h1 h2 h3;simp only [mz] at h4 h5 ⊢;by_cases e1:fM x y=true
     ·have:=nv s x y h1.1 h2.1 e1;subst this;rw [if_pos e1] at h4;by_cases e2:fM x z=true
      ·rw [if_pos e2] at h5 ⊢;exact vk l xs ys zs h1.2 h2.2 h3.2 h4 h5
      ·rw [if_neg e2] at h5 ⊢; exact h5
     ·rw [if_neg e1] at h4;by_cases e2:fM y z=true
      ·have:=nv s y z h2.1 h3.1 e2;subst this;rw [if_neg e1]; exact h4
      ·rw [if_neg e2] at h5;have h6:=oO s x y z h1.1 h2.1 h3.1 h4 h5;rw [if_neg (fun e3=>by
        have:=nv s x z h1.1 h3.1 e3;subst this;rw [yJ s x h1.1] at h6; cases h6)]
       exact h6
end
theorem sv(sh:kJ){a b:D}(h1:bZ sh a=true)(h2:bZ sh b=true)(h:kI a b=true):kI b a=false:=by
 cases q:kI b a with
 | false=>rfl
 | true=>have:=oO sh a b a h1 h2 h1 h q; rw [yJ sh a h1] at this; cases this
theorem pQ(sh:kJ){a b c:D}(h1:bZ sh a=true)(h2:bZ sh b=true)(h3:bZ sh c=true)(q1:kI b a=false)(q2:kI c b=false):kI c a=false:=by
 cases h:kI c a with
 | false=>rfl
 | true =>
  exfalso;cases q:kI a b with
  | false =>
   have:=um sh a b h1 h2 q q1;subst this; rw [h] at q2; cases q2
  | true=>rw [oO sh c a b h3 h1 h2 h q] at q2; cases q2
theorem jN(sh:kJ){xs ys:List D}(hx:∀ x∈xs,bZ sh x=true)(hp:ys.Perm xs)(hs:ys.Pairwise fun a b=>kI b a=false):kN xs=ys:=by
 have hy:∀ y∈ys,bZ sh y=true:=fun y h=>hx y (hp.mem_iff.mp h);have p1:(kN xs).Perm xs:=List.mergeSort_perm xs Kj;have hz:∀ z∈kN xs,bZ sh z=true:=fun z h=>hx z (p1.mem_iff.mp h);have s1:(kN xs).Pairwise fun a b=>kI b a=false:=by
  let OU:List { d:D // bZ sh d=true }:=xs.attach.map fun x=>⟨x.1,hx x.1 x.2⟩
  have ex:xs=OU.map (·.1):=by
   simp only [OU,dN]
   conv=>lhs; rw [<-List.attach_map_subtype_val xs]
   rfl
  have e2:kN xs=(OU.mergeSort fun a b=>Kj a.1 b.1).map (·.1):=by
   unfold kN;rw [ex];exact(List.map_mergeSort (r:=fun (a b:{ d:D // bZ sh d=true })=>Kj a.1 b.1) (s:=Kj) (f:=fun x=>x.1) (l:=OU) fun a _ b _=>rfl).symm
  rw [e2,g6]
  have:=List.pairwise_mergeSort (le:=fun (a b:{ d:D // bZ sh d=true })=>Kj a.1 b.1) (fun a b c h1 h2=>by
   unfold Kj at *;simp only [w9] at *;exact pQ sh a.2 b.2 c.2 h1 h2) (fun a b=>by
   unfold Kj;cases q:kI b.1 a.1 with
   | false=>rfl
   | true=>rw [sv sh b.2 a.2 q]; rfl) OU
  exact this.imp fun h=>by unfold Kj at h; simpa using h
 refine List.Perm.eq_of_pairwise (le:=fun a b=>kI b a=false) (fun a b ha hb h h'=>?_) s1 hs (p1.trans hp.symm);exact um sh a b (hz a ha) (hy b hb) h' h
end K2
end
section
namespace K2
open PySem (Str)
open Enc (enc)
noncomputable def kl(k:Nat):List D->List D
 | []=>[]
 | d :: r=>.tup [.int (k:Int),d] :: kl (k+1) r
theorem sE:∀ (ds:List D) (k i:Nat),(kl k ds)[i]?=(ds[i]?).map fun d=>D.tup [.int ((k+i:Nat):Int),d]
 | [],k,i=>by simp [kl]
 | d :: r,k,0=>by simp [kl]
 | d :: r,k,i+1=>by
  rw [kl,ai,sE r (k+1) i,ai];congr 1; funext x; congr 3; lia
theorem jW:∀ (ds:List D) (k:Nat),(kl k ds).length=ds.length
 | [],_=>rfl
 | d :: r,k=>by rw [kl,ak,ak,jW r]
noncomputable def mE(x:D)(G1:Gp)(R:List D->(Gp->Prop)->Gp->Prop):Prop:=match x with
 | .dq ds=>R (kl 0 ds) (fun _=>True) G1
 | .ref p=>(match G1 p with
  | some (.lst ds)=>R (kl 0 ds) (fun G2=>G2 p=some (.lst ds)) G1
  | _=>False)
 | _=>False
noncomputable def vH(a:eU):Ks:=fun E τ G R=>a E τ G fun x G1=>mE x G1 R
noncomputable def R4(P:D->Gp->Prop):List D->Gp->Prop
 | [x],G=>P x G
 | _,_=>False
noncomputable def yQ(x:D)(G1:Gp)(R:List D->(Gp->Prop)->Gp->Prop):Prop:=match x with
 | .p8 aY=>R (aY.map (·.1)) (fun _=>True) G1
 | _=>False
noncomputable def I0(a:eU):Ks:=fun E τ G R=>a E τ G fun x G1=>yQ x G1 R
noncomputable def IsL(G:Gp)(d:D)(ds:List D):Prop:=d=.dq ds\/∃ a,d=.ref a/\G a=some (.lst ds)
theorem IsL.enc{α:Type} [DecidableEq α] [Enc α]{G:Gp}(xs:List α):IsL G (enc xs) (xs.map enc):=.inl rfl
theorem IsL.ref{G:Gp}{a:Nat}{ds:List D}(h:G a=some (.lst ds)):IsL G (.ref a) ds:=.inr ⟨a,rfl,h⟩
theorem IsL.mono{G G':Gp}{d:D}{ds:List D}(h:IsL G d ds)(l:iJ G G'):IsL G' d ds:=by
 rcases h with h | ⟨a,h,e⟩
 ·exact .inl h
 ·exact .inr ⟨a,h,l a _ e⟩
theorem CP{G:Gp}{d:D}{ds:List D}{R:List D->(Gp->Prop)->Gp->Prop}(h:IsL G d ds)(k:∀ ok:Gp->Prop,(∀ G',iJ G G'->ok G')->R ds ok G):LO d G R:=by
 rcases h with rfl | ⟨a,rfl,e⟩
 ·exact k _ fun _ _=>trivial
 ·rw [ED e]; exact k _ fun G' l=>l a _ e
theorem EB {G:Gp} {d:D} {ds:List D} {C:String} {Q:DK} (h:IsL G d ds) (k:Q (.bl (C == "list")) G):isAt C d G Q:=by
 rcases h with rfl | ⟨a,rfl,e⟩
 ·exact k
 ·rw [IU e]; exact k
theorem mC{G:Gp}{d:D}{ds:List D}(h:IsL G d ds):itemsOf d G=some ds:=by
 rcases h with rfl | ⟨a,rfl,e⟩
 ·rfl
 ·unfold itemsOf; simp only [e]
theorem Hu{G:Gp}{d:D}{ds:List D}(h:IsL G d ds):yi d G:=by
 rcases h with rfl | ⟨a,rfl,e⟩
 ·trivial
 ·unfold yi; simp only [e]
theorem yv{G:Gp}{d:D}{ds:List D}{lo hi:Option Int}{Q:DK}(h:IsL G d ds)(k:jl G (.lst (cut ds lo hi)) Q):HZ d lo hi G Q:=by
 rcases h with rfl | ⟨a,rfl,e⟩
 ·exact k
 ·rw [Lf e]; exact k
theorem mS{G:Gp}{d:D}{ds:List D}{Q:DK}(h:IsL G d ds)(k:Q (.int (ds.length:Int)) G):pz [d] G Q:=by
 rcases h with rfl | ⟨a,rfl,e⟩
 ·exact k
 ·rw [JU e]; exact k
theorem JT{G:Gp}{d:D}{ds:List D}{Q:DK}(h:IsL G d ds)(k:jl G (.lst ds) Q):tL [d] G Q:=by
 unfold tL; simp only [mC h]; exact k
theorem Dv{α:Type} [DecidableEq α] [Enc α] [bE α]{G:Gp}{d:D}{xs:List α}{Q:DK}(h:IsL G d (xs.map enc))(hl:xs.length < 64)(k:jl G (.lst ((HK xs).map enc)) Q)(ok:autoParam (Ir (bE.sT α)=true) Ad._auto_1):ux [d] G Q :=
 ⟨bE.sT α,xs.map enc,Hu h,mC h,by rw [yd,gf]; intro x _; exact bE.CV x,ok,by rw [ag]; exact hl,by rw [xi]; exact k⟩
theorem yx{G:Gp}{d x:D}{ds:List D}{i:Int}{Q:DK}(h:IsL G d ds)(e:nK ds i=some x)(k:Q x G):qM d (.int i) G Q:=by
 rcases h with rfl | ⟨a,rfl,e2⟩
 ·rw [Lg e]; exact k
 ·rw [Li e2 e]; exact k
theorem oh{G:Gp}{d:D}{ds:List D}(h:IsL G d ds):oj d G=some ds:=by
 rcases h with rfl | ⟨a,rfl,e⟩
 ·rfl
 ·unfold oj; simp only [e]
theorem Bx{α:Type}(xs:List α)(i:Nat)(h:i<=xs.length):cut xs (some (i:Int)) none=xs.drop i:=by
 unfold cut gR;simp only;rw [if_neg (by lia),dc,Nat.min_eq_left h];exact p7 (by rw [cP]; lia)
theorem JO{α:Type}(xs:List α)(i:Nat)(h:i<=xs.length):cut xs none (some (i:Int))=xs.take i:=by
 unfold cut gR;simp only;rw [if_neg (by lia),dc,Nat.min_eq_left h];simp
theorem rC{α β:Type}(f:α->β)(xs:List α)(lo hi:Option Int):cut (xs.map f) lo hi=(cut xs lo hi).map f:=by
 unfold cut; rw [ag,List.map_take,List.map_drop]
theorem oY{α:Type}(xs:List α){k:Int}(h0:0<=k)(h1:k < xs.length):nK xs k=some (xs[k.toNat]'(by lia)):=by
 unfold nK GU;rw [if_pos h0,if_pos h1];show xs[k.toNat]?=_;exact ah (by lia)
noncomputable def RL{α β:Type} [DecidableEq α] [Enc α] [DecidableEq β] [Enc β](pre:α->Prop)(f:α->β):oZ:=fun ds G Q _=>∃ a:α,ds=[enc a]/\pre a/\Q (enc (f a)) G
end K2
end
section
namespace K2
open PySem (Str)
open Enc (enc)
noncomputable def ph(i:Int):Str:=kD (toString i)
noncomputable def FJ(x:Str):Prop:=x.cps.all (· < 0x110000)=true
theorem fx(s:String):FJ (kD s):=by
 unfold FJ;rw [PySem.Str.ofString_eq_toList];simp only [List.all_toArray,yd,gf];intro c _;have:=c.valid;simp only [Function.comp,decide_eq_true_eq];have h2:c.toNat=c.val.toNat:=rfl;rcases this with h | h
 ·have:c.val.toNat < 55296:=h;lia
 ·have:c.val.toNat < 1114112:=h.2;lia
theorem LF(i:Int):FJ (ph i):=fx _
theorem zf(x y:Str):(x++y).cps=x.cps++y.cps:=rfl
theorem uj{x y:Str}(hx:FJ x)(hy:FJ y):FJ (x++y):=by
 unfold FJ at *;rw [zf,Array.all_append,hx,hy]; rfl
theorem je(x y:Str):(x++y).length=x.length+y.length:=by
 unfold uI;rw [zf,Array.size_append]
theorem LM{i:Int}(h:i.natAbs < 10 ^ 100):(ph i).length<=101:=by
 unfold ph;cases i with
 | ofNat m =>
  have hm:m < 10 ^ 100:=by simpa using h
  have h1:((m:Int)) < (10:Int) ^ 100:=by exact_mod_cast hm
  exact bf (rR (v:=Int.ofNat m) (nJ m) (k:=100) (by decide) h1) (by decide)
 | negSucc m =>
  have hm:m+1 < 10 ^ 100:=by simpa using h
  have h1:(((m+1:Nat):Int)) < (10:Int) ^ 100:=by exact_mod_cast hm
  have h2:=rR (v:=((m+1:Nat):Int)) (nJ _) (k:=100) (by decide) h1;have e:toString (Int.negSucc m) = "-"++toString (((m+1:Nat):Int)):=rfl;rw [e,tS,String.toList_append,aM];rw [tS] at h2;have h3 : "-".toList.length=1:=by decide
  lia
theorem vd{sep:Str}(hs:FJ sep):∀ (xs:List Str),(∀ x∈xs,FJ x)->FJ (fj sep xs)
 | [],_=>by show (ju).cps.all _=true; simp [PySem.Str.empty]
 | [x],h=>h x (by simp)
 | x :: y :: r,h=>uj (uj (h x (by simp)) hs) (vd hs (y :: r) fun z hz=>h z (au _ hz))
noncomputable def y9:D->Option Str
 | .int i=>if i.natAbs < 10 ^ 100 then some (ph i) else none
 | .str x=>if x.length<=1000 then some x else none
 | _=>none
noncomputable abbrev OI:=jY->fD->Gp->(List Str->Gp->Prop)->Prop
noncomputable def NY:OI:=fun _ _ G Q=>Q [] G
noncomputable def Jz(a:eU)(r:OI):OI:=fun E τ G Q=>a E τ G fun x G1=>∃ y,y9 x=some y/\r E τ G1 fun ys G2=>Q (y :: ys) G2
noncomputable def JN(t:OI):eU:=fun E τ G Q=>t E τ G fun ys G1=>Q (.str (ys.foldl (·++·) ju)) G1
theorem Jv{d:D}{y:Str}(h:y9 d=some y):y.length<=1000:=by
 unfold y9 at h;split at h
 ·rename_i i;split at h
  ·rename_i hb;cases h;exact bf (LM hb) (by decide)
  ·cases h
 ·split at h
  ·rename_i hb; cases h; exact hb
  ·cases h
 ·cases h
noncomputable def cStr(ds:List D)(G:Gp)(Q:DK):Prop:=match ds with
 | [.int i]=>i.natAbs < 10 ^ 100/\Q (.str (ph i)) G
 | _=>False
noncomputable def vh(x:D)(ds:List D)(G:Gp)(Q:DK):Prop:=match x,ds with
 | .str sep,[y]=>∃ xs:List Str,yi y G/\itemsOf y G=some (xs.map D.str)/\(sep.length<=1000/\(∀ x∈xs,x.length<=1000)/\xs.length<=1000)/\Q (.str (fj sep xs)) G
 | _,_=>False
end K2
end
section
namespace K2
open PySem (Str)
open Enc (enc)
noncomputable def mL(r r':x4)(ta tb tc:eU):tM:=fun E τ G Q=>ta E τ G fun x G1=>tb E τ G1 fun y G2=>r x y G2 fun z G3=>∃ k,z=.bl k/\(if k=true then tc E τ G3 fun w G4=>r' y w G4 (fun z' G5=>∃ k',z'=.bl k'/\Q k' G5) else Q false G3)
end K2
end
section
namespace K2
open PySem (Str)
open Enc (enc)
noncomputable def h2(t:T2):Int:=PySem.reduceHash (PySem.Builtin.Tuple.tupleHashOf [PySem.hashInt t.a,PySem.hashInt t.b])
end K2
end
section
namespace K2
open Enc (enc)
noncomputable def TN(lt:Nat->Nat->Bool):Nat->Nat
 | 0=>0
 | j+1=>if lt (j+1) (TN lt j)=true then j+1 else TN lt j
end K2
end
section
namespace K2
open PySem (Str)
noncomputable def only(a:Nat)(o:GO):Gp:=fun b=>if b=a then some o else none
end K2
end
section
namespace K2
open PySem (Str Txt.slice Txt.item Txt.split Txt.contains)
noncomputable def Ec(a b:D)(G:Gp)(Q:DK):Prop:=match a,b with
 | .str x,.str y=>x.length+y.length<=100000/\Q (.str (x++y)) G
 | _,_=>False
noncomputable def M3(neg:Bool)(a b:D)(G:Gp)(Q:DK):Prop:=match a,b with
 | .str y,.str x=>Q (.bl (if neg then !(Txt.contains x y) else Txt.contains x y)) G
 | _,_=>False
noncomputable def JV(ds:List D)(G:Gp)(Q:DK):Prop:=match ds with
 | [.str x]=>x.length<=100000/\Q (.int x.length) G
 | _=>False
noncomputable def H0(a b:D)(G:Gp)(Q:DK):Prop:=match a,b with
 | .str x,.int i=>(-(x.length:Int)<=i/\i < x.length/\x.length<=100000)/\Q (.str (Txt.item x i)) G
 | _,_=>False
noncomputable def Bt(a:eU)(lo hi:Oe):eU:=fun E τ G Q=>a E τ G fun x G1=>lo E τ G1 fun l G2=>hi E τ G2 fun h G3=>match x with
 | .str y=>y.length<=100000/\Q (.str (Txt.slice y l h)) G3
 | _=>False
noncomputable def JW(ds:List D)(G:Gp)(Q:DK):Prop:=match ds with
 | [.str x]=>∃ n,PySem.intText? x=some n/\x.length<=640/\Q (.int n) G
 | _=>False
noncomputable def yH(x:D)(ds:List D)(G:Gp)(Q:DK):Prop:=match x,ds with
 | .str y,[.str z]=>(z.length == 0)=false/\y.length<=100000/\jl G (.lst ((Txt.split y z).map D.str)) Q
 | _,_=>False
end K2
namespace K2
open PySem (Str)
noncomputable def PD(a:eU):Ks:=fun E τ G R=>a E τ G fun x G1=>match x with
 | .str y=>(y.cps.all (· < 128))=true/\R (y.cps.toList.map fun c=>D.str ⟨#[c]⟩) (fun _=>True) G1
 | _=>False
end K2
end
section
namespace K2
open PySem (Str)
noncomputable def N4(kv:List (Str×Int×Int))(ta:eU):eU:=fun E τ G Q=>ta E τ G fun x G1=>match x with
 | .str y=>Q (.bl (kv.lookup y).isSome) G1
 | _=>False
noncomputable def EV(kv:List (Str×Int×Int))(i:Nat)(tk te:eU):gU:=fun E K τ G=>tk E τ G fun x G1=>match x with
 | .str z=>(match kv.lookup z with
  | some p=>te E (τ.set i none) G1 fun d G2=>K.rt (.tup [d,.int p.1,.int p.2]) G2
  | none=>False)
 | _=>False
end K2
end
section
namespace K2
open Enc (enc)
noncomputable def sL(ds:List D)(G:Gp)(Q:DK):Prop:=match ds with
 | [x]=>∃ l:List Int,oj x G=some (l.map enc)/\l.length < 64/\∀ m:List Int,m.Nodup->(∀ y,y∈m↔y∈l)->jl G (.lst ((HK m).map enc)) Q
 | _=>False
end K2
end
section
namespace K2.S
open PySem PySem.SetTable
noncomputable def f5(m i:Nat):Nat:=(i * 5+1) % (m+1)
noncomputable def Kl(m:Nat):Nat->Nat->Nat
 | 0,i=>i
 | k+1,i=>Kl m k (f5 m i)
theorem ur(m:Nat):∀ (a b i:Nat),Kl m (a+b) i=Kl m b (Kl m a i)
 | 0,b,i=>by rw [r8]; rfl
 | a+1,b,i=>by rw [KA]; exact ur m a b (f5 m i)
noncomputable def Mk(m:Nat):Prop:=m=7\/m=31\/m=127
noncomputable def Pe(m:Nat):Nat->Nat->List Nat
 | 0,_=>[]
 | k+1,i=>i :: Pe m k (f5 m i)
theorem yD(m:Nat):∀ (n i e:Nat),e∈Pe m n i->∃ k,k < n/\Kl m k i=e
 | 0,_,_,h=>by cases h
 | n+1,i,e,h=>by
  rcases List.mem_cons.mp h with rfl | h
  ·exact⟨0,iU _,rfl⟩
  ·obtain⟨k,hk,q⟩:=yD m n (f5 m i) e h;exact⟨k+1,Nat.succ_lt_succ hk,q⟩
theorem Lz{m:Nat}(h:Mk m):(∀ e,e < m+1->e∈Pe m (m+1) 0)/\Kl m (m+1) 0=0:=by
 have key:∀ m,((bW (m+1)).all fun e=>(Pe m (m+1) 0).contains e)=true->Kl m (m+1) 0=0->(∀ e,e < m+1->e∈Pe m (m+1) 0)/\Kl m (m+1) 0=0:=fun m h1 h2 =>
  ⟨fun e he=>by simpa using (List.all_eq_true.mp h1) e (List.mem_range.mpr he),h2⟩
 rcases h with rfl | rfl | rfl
 ·exact key _ (by decide +kernel) (by decide +kernel)
 ·exact key _ (by decide +kernel) (by decide +kernel)
 ·exact key _ (by decide +kernel) (by decide +kernel)
theorem cover{m:Nat}(h:Mk m){i e:Nat}(hi:i < m+1)(he:e < m+1):∃ k,k < m+1/\Kl m k i=e:=by
 obtain⟨all,back⟩:=Lz h;obtain⟨a,ha,qa⟩:=yD m _ _ _ (all i hi);obtain⟨b,hb,qb⟩:=yD m _ _ _ (all e he);by_cases c:a<=b
 ·refine⟨b - a,by lia,?_⟩;rw [<-qa,<-ur,show a+(b - a)=b by lia,qb]
 ·refine⟨m+1 - a+b,by lia,?_⟩;rw [<-qa,<-ur,show a+(m+1 - a+b)=(m+1)+b by lia,ur,back,qb]
noncomputable def lp(m:Nat):Nat->Nat×Nat->Nat×Nat
 | 0,x=>x
 | k+1,x=>lp m k (leap m x.1 x.2)
theorem ID(m:Nat):∀ (a b:Nat) (x:Nat×Nat),lp m (a+b) x=lp m b (lp m a x)
 | 0,b,i=>by rw [r8]; rfl
 | a+1,b,i=>by rw [KA]; exact ID m a b _
theorem Er(m:Nat):∀ (k:Nat) (x:Nat×Nat),(lp m k x).2=x.2 / 32 ^ k
 | 0,x=>by rw [Nat.pow_zero,Nat.div_one]; rfl
 | k+1,x=>by
  show (lp m k _).2=_;rw [Er m k];show x.2 / 32 / 32 ^ k=_;rw [Nat.div_div_eq_div_mul,Nat.pow_succ,Nat.mul_comm]
theorem Ep(m:Nat):∀ (k i:Nat),lp m k (i,0)=(Kl m k i,0)
 | 0,_=>rfl
 | k+1,i=>by
  show lp m k ((i * 5+1+0 / 32) % (m+1),0 / 32)=_;rw [Nat.zero_div,Nat.add_zero];exact Ep m k _
theorem Mo(m:Nat):∀ (k:Nat) (x:Nat×Nat),x.1 < m+1->(lp m k x).1 < m+1
 | 0,_,h=>h
 | k+1,x,_=>Mo m k _ (lS _ (iU m))
theorem AQ{m:Nat}(h:Mk m){x:Nat×Nat}(h1:x.1 < m+1)(h2:x.2 < 2 ^ 64){e:Nat}(he:e < m+1):∃ k,k < m+14/\(lp m k x).1=e:=by
 have z:(lp m 13 x).2=0:=by
  rw [Er]; exact Nat.div_eq_of_lt (bp h2 (by decide))
 obtain⟨k,hk,q⟩:=cover h (Mo m 13 x h1) he;refine⟨13+k,by lia,?_⟩;rw [ID,show lp m 13 x=((lp m 13 x).1,0) from by rw [<-z],Ep];exact q
noncomputable def BU(m:Nat)(p:Probe):Probe :=
 if p.more > 0 then { p with j:=p.j+1,more:=p.more - 1 } else
 { p with j:=(leap m p.i p.perturb).1,more:=runEnd m (leap m p.i p.perturb).1 - (leap m p.i p.perturb).1,i:=(leap m p.i p.perturb).1,perturb:=(leap m p.i p.perturb).2 }
noncomputable def eE(m:Nat):Nat->Probe->Probe
 | 0,p=>p
 | k+1,p=>eE m k (BU m p)
theorem lD(m:Nat):∀ (a b:Nat) (p:Probe),eE m (a+b) p=eE m b (eE m a p)
 | 0,b,p=>by rw [r8]; rfl
 | a+1,b,p=>by rw [KA]; exact lD m a b _
theorem Fn(m k:Nat)(p:Probe):eE m (k+1) p=BU m (eE m k p):=lD m k 1 p
noncomputable def Gy(m:Nat)(x:Nat×Nat):Probe:={ j:=x.1,more:=runEnd m x.1 - x.1,i:=x.1,perturb:=x.2,dummy:=none }
theorem more_le(m i:Nat):runEnd m i - i<=9:=by unfold runEnd; split <;> lia
theorem qC(m:Nat):∀ (n:Nat) (p:Probe),p.more=n->p.dummy=none->eE m (n+1) p=Gy m (leap m p.i p.perturb)
 | 0,p,h,hd=>by
  show BU m p=_;unfold BU;rw [if_neg (by lia)];obtain⟨j,mo,i,pe,d⟩:=p;cases hd; rfl
 | n+1,p,h,hd=>by
  show eE m (n+1) (BU m p)=_;have e:BU m p={ p with j:=p.j+1,more:=p.more - 1 }:=by unfold BU; rw [if_pos (by lia)]
  rw [e];exact qC m n _ (by show p.more - 1=n; lia) hd
theorem Qs(m:Nat):∀ (k:Nat) (x:Nat×Nat),∃ n,n<=10 * k/\eE m n (Gy m x)=Gy m (lp m k x)
 | 0,x=>⟨0,ay _,rfl⟩
 | k+1,x=>by
  obtain⟨n,hn,q⟩:=Qs m k (leap m x.1 x.2);refine⟨(runEnd m x.1 - x.1+1)+n,?_,?_⟩
  ·have:=more_le m x.1; lia
  ·rw [lD,qC m (runEnd m x.1 - x.1) (Gy m x) rfl rfl]; exact q
structure Pb(m:Nat)(p:Probe):Prop where
 hi:p.i < m+1
 hp:p.perturb < 2 ^ 64
 hm:p.more<=9
 hd:p.dummy=none
theorem Pb.leap{m:Nat}{p:Probe}(h:Pb m p):(leap m p.i p.perturb).1 < m+1/\(leap m p.i p.perturb).2 < 2 ^ 64 :=
 ⟨lS _ (iU m),wz (Nat.div_le_self _ _) h.hp⟩
theorem Pb.BU{m:Nat}{p:Probe}(h:Pb m p):Pb m (BU m p):=by
 unfold S.BU;split
 ·exact⟨h.hi,h.hp,bf (Nat.sub_le _ _) h.hm,h.hd⟩
 ·exact⟨h.leap.1,h.leap.2,more_le _ _,h.hd⟩
theorem Pb.cover{m:Nat}(hm:Mk m){p:Probe}(h:Pb m p){e:Nat}(he:e < m+1):∃ n,n < 10 * turns m/\(S.eE m n p).j=e:=by
 obtain⟨k,hk,q⟩:=AQ hm h.leap.1 h.leap.2 he;obtain⟨n,hn,q2⟩:=Qs m k (SetTable.leap m p.i p.perturb);refine⟨p.more+1+n,?_,?_⟩
 ·have:=h.hm; unfold turns; lia
 ·rw [lD,qC m p.more p rfl h.hd,q2]; exact q
theorem Pb.start(t:fA)(h:Int):Pb t.mask (t.probeStart h):=by
 refine⟨lS _ (iU _),?_,more_le _ _,rfl⟩;show bits h < 2 ^ 64;unfold bits;have h1:0<=h % (2 ^ 64:Int):=jw _ (by decide);have h2:h % (2 ^ 64:Int) < 2 ^ 64:=gH _ (by decide);lia
end K2.S
end
section
namespace K2.S
open PySem PySem.SetTable
noncomputable def Up(xs:Array Nat):Prop:=∀ a b,a < b->b < xs.size->xs.getD a 0 < xs.getD b 0
theorem Jr(xs:Array Nat){k:Nat}(h:k < xs.size)(a b:Nat):xs.getD k a=xs.getD k b:=by
 rw [aP,aP,bw h]; rfl
theorem yU{xs:Array Nat}(up:Up xs)(j:Nat):∀ (fuel lo hi:Nat),hi - lo<=fuel->lo<=hi->hi<=xs.size->(∀ k,k < lo->xs.getD k 0 < j)->(∀ k,hi<=k->k < xs.size->j<=xs.getD k 0) ->
  below.go xs j fuel lo hi<=xs.size/\(∀ k,k < below.go xs j fuel lo hi->xs.getD k 0 < j)/\(∀ k,below.go xs j fuel lo hi<=k->k < xs.size->j<=xs.getD k 0)
 | 0,lo,hi,h1,h2,h3,h4,h5=>by
  have e:lo=hi:=by lia
  subst e;exact⟨h3,h4,h5⟩
 | fuel+1,lo,hi,h1,h2,h3,h4,h5=>by
  show (below.go xs j (fuel+1) lo hi)<=_/\_;unfold below.go;by_cases c:lo < hi
  ·rw [if_pos c];have hm:(lo+hi) / 2 < xs.size:=by lia
   dsimp only;rw [Jr xs hm j 0];by_cases q:xs.getD ((lo+hi) / 2) 0 < j
   ·rw [if_pos q];refine yU up j fuel _ _ (by lia) (by lia) h3 (fun k hk=>?_) h5;by_cases e:k=(lo+hi) / 2
    ·rw [e]; exact q
    ·exact Nat.lt_trans (up _ _ (by lia) hm) q
   ·rw [if_neg q];refine yU up j fuel _ _ (by lia) (by lia) (by lia) h4 fun k hk hs=>?_;by_cases e:k=(lo+hi) / 2
    ·rw [e]; lia
    ·have:=up ((lo+hi) / 2) k (by lia) hs; lia
  ·rw [if_neg c];exact⟨by lia,h4,fun k hk hs=>h5 k (by lia) hs⟩
theorem mT{xs:Array Nat}(up:Up xs)(j:Nat):below xs j<=xs.size/\(∀ k,k < below xs j->xs.getD k 0 < j)/\(∀ k,below xs j<=k->k < xs.size->j<=xs.getD k 0) :=
 yU up j _ _ _ (by lia) (by lia) (by lia) (fun k h=>by lia) (fun k h1 h2=>by lia)
theorem below_at{xs:Array Nat}(up:Up xs){k:Nat}(hk:k < xs.size):below xs (xs.getD k 0)=k:=by
 obtain⟨h1,h2,h3⟩:=mT up (xs.getD k 0);by_cases a:below xs (xs.getD k 0) < k
 ·have:=h3 _ (ay _) (by lia);have:=up _ _ a hk;lia
 ·by_cases b:k < below xs (xs.getD k 0)
  ·have:=h2 _ b; lia
  ·lia
noncomputable def Full(xs:Array Nat)(j:Nat):Prop:=∃ k,k < xs.size/\xs.getD k 0=j
theorem Jp(xs:Array Nat){k:Nat}(h:k < xs.size):xs[k]?=some (xs.getD k 0):=by
 rw [aP,bw h]; rfl
theorem Fp{t:fA}(up:Up t.place){k:Nat}(hk:k < t.place.size):t.slot (t.place.getD k 0)=.live k:=by
 unfold slot;dsimp only;rw [below_at up hk,Jp _ hk];rw [if_pos (by simp)]
theorem Cq{t:fA}(up:Up t.place)(dm:t.dummies=#[]){j:Nat}(h:¬ Full t.place j):t.slot j=.empty:=by
 unfold slot;dsimp only;have n1:(t.place[below t.place j]? == some j)=false:=by
  rw [Bool.eq_false_iff];intro q;have q:=beq_iff_eq.mp q;obtain⟨lt,e⟩:=Array.getElem?_eq_some_iff.mp q;exact h ⟨_,lt,by rw [aP,q]; rfl⟩
 rw [n1,dm];rfl
theorem Cr{t:fA}(up:Up t.place)(dm:t.dummies=#[])(j:Nat):(¬ Full t.place j/\t.slot j=.empty)\/(∃ k,k < t.place.size/\t.place.getD k 0=j/\t.slot j=.live k):=by
 by_cases h:Full t.place j
 ·obtain⟨k,hk,e⟩:=h;exact .inr ⟨k,hk,e,e ▸ Fp up hk⟩
 ·exact .inl ⟨h,Cq up dm h⟩
theorem Az{t:fA}(up:Up t.place)(dm:t.dummies=#[])(hashAt:Nat->Int)(h:Int):∀ (fuel:Nat) (p:Probe),Pb t.mask p->(∃ n,n < fuel/\¬ Full t.place (eE t.mask n p).j) ->
    ∃ n met,probe.go t hashAt h fuel p=some met/\(∀ n',n' < n->∃ k,k < t.place.size/\t.place.getD k 0=(eE t.mask n' p).j/\hashAt k≠h) /\
      ((¬ Full t.place (eE t.mask n p).j/\met=.empty (eE t.mask n p).j none) \/
       (∃ k,k < t.place.size/\t.place.getD k 0=(eE t.mask n p).j/\hashAt k=h/\met=.candidate (eE t.mask n p).j k (eE t.mask (n+1) p)))
  | 0,_,_,⟨n,hn,_⟩=>absurd hn (bY _)
  | fuel+1,p,hp,⟨n,hn,hf⟩=>by
    rcases Cr up dm p.j with ⟨nf,e⟩ | ⟨k,hk,ek,e⟩
    · refine⟨0,.empty p.j p.dummy,?_,fun n' z=>absurd z (bY _),.inl ⟨nf,by rw [hp.hd]; rfl⟩⟩
      unfold probe.go;rw [e]
    · by_cases q:hashAt k=h
      · refine⟨0,.candidate p.j k (t.advance p),?_,fun n' z=>absurd z (bY _),.inr ⟨k,hk,ek,q,rfl⟩⟩
        unfold probe.go;rw [e];dsimp only;rw [if_pos (beq_iff_eq.mpr q)]
      · have UO:∃ m,n=m+1:=by
          cases n with
          | zero=>exact absurd ⟨k,hk,ek⟩ hf
          | succ m=>exact⟨m,rfl⟩
        obtain⟨m,rfl⟩:=UO;obtain⟨n',met,g,all,fin⟩:=Az up dm hashAt h fuel (BU t.mask p) hp.BU ⟨m,by lia,hf⟩;refine⟨n'+1,met,?_,fun Su z=>?_,fin⟩
        · unfold probe.go
          rw [e];dsimp only;rw [if_neg (fun z=>q (beq_iff_eq.mp z))];exact g
        · cases Su with
          | zero=>exact⟨k,hk,ek,q⟩
          | succ Su=>exact all Su (by lia)
end K2.S
end
section
namespace K2.S
open PySem PySem.SetTable
noncomputable abbrev En:=Array (Int×Value)
noncomputable def hk(es:En)(k:Nat):Int:=(es[k]?.map (·.1)).getD 0
structure Kw(t:fA)(es:En):Prop where
 ms:Mk t.mask
 dm:t.dummies=#[]
 sz:t.place.size=es.size
 up:Up t.place
 le:∀ k,k < t.place.size->t.place.getD k 0<=t.mask
 pT:t.place.size<=t.mask
 way:∀ k,k < t.place.size->∃ n,(eE t.mask n (probeStart t (hk es k))).j=t.place.getD k 0/\∀ n',n' < n->Full t.place (eE t.mask n' (probeStart t (hk es k))).j
theorem IZ{xs:Array Nat}(up:Up xs){m:Nat}(all:∀ e,e<=m->Full xs e):∀ e,e<=m->∀ k,k < xs.size->xs.getD k 0=e->e<=k
 | 0,_,_,_,_=>bR _
 | e+1,he,k,hk,q=>by
  obtain⟨k',Kq,q'⟩:=all e (by lia);have ih:=IZ up all e (by lia) k' Kq q';have:k' < k:=by
   by_cases c:k' < k
   ·exact c
   ·by_cases d:k=k'
    ·subst d; lia
    ·have:=up k k' (by lia) Kq; lia
  lia
theorem Fo{xs:Array Nat}(up:Up xs){m:Nat}(pT:xs.size<=m):∃ e,e<=m/\¬ Full xs e:=by
 apply cw;intro no;have all:∀ e,e<=m->Full xs e:=fun e he=>cw fun z=>no ⟨e,he,z⟩;obtain⟨k,hk,q⟩:=all m (ay _);have:=IZ up all m (ay _) k hk q;lia
theorem C4{t:fA}{es:En}(O:Kw t es)(p:Probe)(hp:Pb t.mask p):∃ N,N < 10 * turns t.mask/\¬ Full t.place (eE t.mask N p).j/\∀ n,n < N->Full t.place (eE t.mask n p).j:=by
 obtain⟨e,he,hf⟩:=Fo O.up O.pT;obtain⟨n0,hn,q⟩:=hp.cover O.ms (show e < t.mask+1 by lia);have:∀ n,n<=n0->(∃ N,N < 10 * turns t.mask/\¬ Full t.place (eE t.mask N p).j/\∀ n,n < N->Full t.place (eE t.mask n p).j)\/(∀ n',n' < n->Full t.place (eE t.mask n' p).j):=by
  intro n;induction n with
  | zero=>intro _; exact .inr fun n' z=>absurd z (bY _)
  | succ n ih =>
   intro Ji;rcases ih (by lia) with a | a
   ·exact .inl a
   ·by_cases c:Full t.place (eE t.mask n p).j
    ·refine .inr fun n' z=>?_;by_cases d:n'=n
     ·rw [d]; exact c
     ·exact a n' (by lia)
    ·exact .inl ⟨n,by lia,c,a⟩
 rcases this n0 (ay _) with a | a
 ·exact a
 ·exact⟨n0,hn,by rw [q]; exact hf,a⟩
theorem jf{α:Type}(xs:Array α)(p:Nat)(x:α)(hp:p<=xs.size):(insertAt xs p x).size=xs.size+1:=by
 rw [<-bu,toList_insertAt,aM,ak,du,cP,bu]; lia
theorem rf{α:Type}(xs:Array α)(p:Nat)(x:α)(hp:p<=xs.size)(k:Nat):(insertAt xs p x)[k]?=if k < p then xs[k]? else if k=p then some x else xs[k - 1]?:=by
 rw [<-bK,toList_insertAt];have hl:(xs.toList.take p).length=p:=by rw [du,bu]; lia
 by_cases c:k < p
 ·rw [if_pos c,bS (by lia),oG c,bK]
 ·rw [if_neg c,bC (by lia),hl];by_cases d:k=p
  ·subst d; rw [if_pos rfl,nI]; rfl
  ·rw [if_neg d,show k - p=(k - p - 1)+1 by lia,ai,List.getElem?_drop,show p+(k - p - 1)=k - 1 by lia,bK]
theorem gJ(xs:Array Nat)(p x:Nat)(hp:p<=xs.size)(k:Nat):(insertAt xs p x).getD k 0=if k < p then xs.getD k 0 else if k=p then x else xs.getD (k - 1) 0:=by
 rw [aP,rf xs p x hp];split
 ·rw [aP]
 ·split
  ·rfl
  ·rw [aP]
theorem FA(t:fA)(dm:t.dummies=#[])(j:Nat):t.put j=({ t with place:=insertAt t.place (below t.place j) j },below t.place j):=by
 unfold SetTable.put;dsimp only;rw [dm];have:has #[] j=false:=rfl;rw [this];cases t;cases dm;rfl
theorem A1{xs:Array Nat}{p j:Nat}(hp:p<=xs.size){e:Nat}:Full (insertAt xs p j) e↔Full xs e\/e=j:=by
 constructor
 ·rintro⟨k,hk,q⟩;rw [jf xs p j hp] at hk;rw [gJ xs p j hp] at q;by_cases c:k < p
  ·rw [if_pos c] at q; exact .inl ⟨k,by lia,q⟩
  ·rw [if_neg c] at q;by_cases d:k=p
   ·rw [if_pos d] at q; exact .inr q.symm
   ·rw [if_neg d] at q; exact .inl ⟨k - 1,by lia,q⟩
 ·rintro(⟨k,hk,q⟩ | q)
  ·by_cases c:k < p
   ·exact⟨k,by rw [jf xs p j hp]; lia,by rw [gJ xs p j hp,if_pos c]; exact q⟩
   ·exact⟨k+1,by rw [jf xs p j hp]; lia,by rw [gJ xs p j hp,if_neg (by lia),if_neg (by lia)]; exact q⟩
  ·exact⟨p,by rw [jf xs p j hp]; lia,by rw [gJ xs p j hp,if_neg (by lia),if_pos rfl]; exact q.symm⟩
theorem Kw.add{t:fA}{es:En}(O:Kw t es){h:Int}{x:Value}{N:Nat}(h1:¬ Full t.place (eE t.mask N (probeStart t h)).j)(h2:∀ n,n < N->Full t.place (eE t.mask n (probeStart t h)).j)
  (hj:(eE t.mask N (probeStart t h)).j<=t.mask) (room:t.place.size+1<=t.mask) {t':fA} (e1:t'.mask=t.mask) (e2:t'.dummies=t.dummies)
  (e3:t'.place=insertAt t.place (below t.place (eE t.mask N (probeStart t h)).j) (eE t.mask N (probeStart t h)).j) :
  Kw t' (insertAt es (below t.place (eE t.mask N (probeStart t h)).j) (h,x)):=by
 generalize ej:(eE t.mask N (probeStart t h)).j=j at *;obtain⟨b1,b2,b3⟩:=mT O.up j;generalize below t.place j=p at *;have Oa:p<=es.size:=by rw [<-O.sz]; exact b1
 have OZ:t'.place.size=t.place.size+1:=by rw [e3,jf _ _ _ b1]
 have CS:∀ h,probeStart t' h=probeStart t h:=fun h=>by unfold probeStart; rw [e1]
 have fl:∀ e,Full t.place e->Full t'.place e:=fun e z=>by rw [e3]; exact(A1 b1).mpr (.inl z)
 refine⟨by rw [e1]; exact O.ms,e2.trans O.dm,by rw [OZ,jf _ _ _ Oa,O.sz],?_,?_,by rw [OZ,e1]; exact room,?_⟩
 ·intro a b ab hb;rw [OZ] at hb;rw [e3,gJ _ _ _ b1,gJ _ _ _ b1];by_cases c1:a < p
  ·rw [if_pos c1];by_cases c2:b < p
   ·rw [if_pos c2]; exact O.up a b ab (by lia)
   ·rw [if_neg c2];by_cases c3:b=p
    ·rw [if_pos c3]; exact b2 a c1
    ·rw [if_neg c3];by_cases c4:a=b - 1
     ·lia
     ·exact O.up a (b - 1) (by lia) (by lia)
  ·rw [if_neg c1,if_neg (by lia:¬ b < p),if_neg (by lia:¬ b=p)];by_cases c3:a=p
   ·rw [if_pos c3];have:=b3 (b - 1) (by lia) (by lia);by_cases c5:t.place.getD (b - 1) 0=j
    ·exact absurd ⟨b - 1,by lia,c5⟩ h1
    ·lia
   ·rw [if_neg c3]; exact O.up (a - 1) (b - 1) (by lia) (by lia)
 ·intro k hk;rw [OZ] at hk;rw [e3,gJ _ _ _ b1,e1];by_cases c1:k < p
  ·rw [if_pos c1]; exact O.le k (by lia)
  ·rw [if_neg c1];by_cases c2:k=p
   ·rw [if_pos c2]; exact hj
   ·rw [if_neg c2]; exact O.le (k - 1) (by lia)
 ·intro k hk;rw [OZ] at hk;have key:∀ k',k' < t.place.size->hk=hk->(insertAt es p (h,x))[k]?=es[k']?->t'.place.getD k 0=t.place.getD k' 0 ->
    ∃ n,(eE t'.mask n (probeStart t' (S.hk (insertAt es p (h,x)) k))).j=t'.place.getD k 0/\∀ n',n' < n->Full t'.place (eE t'.mask n' (probeStart t' (S.hk (insertAt es p (h,x)) k))).j:=by
   intro k' Kq _ ee ep;obtain⟨n,q1,q2⟩:=O.way k' Kq;have eh:S.hk (insertAt es p (h,x)) k=S.hk es k':=by unfold S.hk; rw [ee]
   rw [eh,CS,e1,ep];exact⟨n,q1,fun n' z=>fl _ (q2 n' z)⟩
  by_cases c1:k < p
  ·refine key k (by lia) rfl ?_ ?_
   ·rw [rf _ _ _ Oa,if_pos c1]
   ·rw [e3,gJ _ _ _ b1,if_pos c1]
  ·by_cases c2:k=p
   ·have eh:S.hk (insertAt es p (h,x)) k=h:=by unfold S.hk; rw [rf _ _ _ Oa,if_neg c1,if_pos c2]; rfl
    rw [eh,CS,e1,e3,gJ _ _ _ b1,if_neg c1,if_pos c2];refine⟨N,ej,fun n' z=>?_⟩;exact(A1 b1).mpr (.inl (h2 n' z))
   ·refine key (k - 1) (by lia) rfl ?_ ?_
    ·rw [rf _ _ _ Oa,if_neg c1,if_neg c2]
    ·rw [e3,gJ _ _ _ b1,if_neg c1,if_neg c2]
end K2.S
end
section
namespace K2.S
open PySem PySem.SetTable
theorem Mg(m:Nat)(x:Nat×Nat):∀ n,n<=runEnd m x.1 - x.1->eE m n (Gy m x)={ Gy m x with j:=x.1+n,more:=runEnd m x.1 - x.1 - n }
 | 0,_=>rfl
 | n+1,h=>by
  rw [Fn,Mg m x n (by lia)];unfold BU;dsimp only;rw [if_pos (by lia)];rfl
theorem yq{m i:Nat}(h:i < m+1){n:Nat}(hn:n<=runEnd m i - i):i+n < m+1:=by
 unfold runEnd at hn;split at hn <;> lia
noncomputable def ow(o:Array (Option Nat))(j:Nat):Option Nat:=o.getD j none
theorem Ly{o:Array (Option Nat)}{j:Nat}(h:j < o.size):o.getD j (some 0)=ow o j:=by
 unfold ow; rw [aP,aP,bw h]; rfl
theorem Mn{o:Array (Option Nat)}{j k:Nat}(h:ow o j=some k):j < o.size:=by
 apply cw;intro z;unfold ow at h;rw [aP,gh (by lia)] at h;cases h
theorem xP{m:Nat}{o:Array (Option Nat)}(sz:o.size=m+1):∀ (fuel:Nat) (x:Nat×Nat),x.1 < m+1->(∃ k,k < fuel/\ow o (lp m k x).1=none) ->
  ∃ n j,layClean.free m o fuel x.1 x.2=some j/\(eE m n (Gy m x)).j=j/\j < m+1/\ow o j=none/\∀ n',n' < n->(eE m n' (Gy m x)).j < m+1/\ow o (eE m n' (Gy m x)).j≠none
 | 0,_,_,⟨_,h,_⟩=>absurd h (bY _)
 | fuel+1,x,hx,⟨k,hk,q⟩=>by
  have pe:∀ n,n<=runEnd m x.1 - x.1->(o.getD (x.1+n) (some 0))=ow o (x.1+n):=fun n hn=>Ly (by rw [sz]; exact yq hx hn);have pj:∀ n,n<=runEnd m x.1 - x.1->(eE m n (Gy m x)).j=x.1+n:=fun n hn=>by rw [Mg m x n hn]
  have YH:x.1<=runEnd m x.1:=by unfold runEnd; split <;> lia
  cases hf:(bW (runEnd m x.1+1 - x.1)).find? fun k=>(o.getD (x.1+k) (some 0)).isNone with
  | some n =>
   obtain⟨h1,h2,h3⟩:=List.find?_range_eq_some.mp hf;have hn:n<=runEnd m x.1 - x.1:=by have:=List.mem_range.mp h2; lia
   rw [pe n hn] at h1;refine⟨n,x.1+n,?_,pj n hn,yq hx hn,Option.isNone_iff_eq_none.mp h1,fun n' z=>?_⟩
   ·unfold layClean.free; rw [hf]
   ·have Ji:n'<=runEnd m x.1 - x.1:=by lia
    have:=h3 n' z;rw [pe n' Ji] at this;rw [pj n' Ji];refine⟨yq hx Ji,fun e=>?_⟩;rw [e] at this; cases this
  | none =>
   have h3:=List.find?_range_eq_none.mp hf;have all:∀ n',n'<=runEnd m x.1 - x.1->ow o (x.1+n')≠none:=fun n' Ji e=>by
    have:=h3 n' (by lia);rw [pe n' Ji,e] at this; cases this
   obtain⟨k,rfl⟩:∃ k',k=k'+1:=by
    cases k with
    | zero=>exact absurd q (all 0 (bR _))
    | succ k=>exact⟨k,rfl⟩
   obtain⟨n,j,g,gj,hj,gn,ga⟩:=xP sz fuel (leap m x.1 x.2) (lS _ (iU m)) ⟨k,by lia,q⟩;refine⟨(runEnd m x.1 - x.1+1)+n,j,?_,?_,hj,gn,fun n' z=>?_⟩
   ·unfold layClean.free; rw [hf]; exact g
   ·rw [lD,qC m (runEnd m x.1 - x.1) (Gy m x) rfl rfl]; exact gj
   ·by_cases c:n'<=runEnd m x.1 - x.1
    ·rw [pj n' c]; exact⟨yq hx c,all n' c⟩
    ·have e:n'=(runEnd m x.1 - x.1+1)+(n' - (runEnd m x.1 - x.1+1)):=by lia
     rw [e,lD,qC m (runEnd m x.1 - x.1) (Gy m x) rfl rfl];exact ga _ (by lia)
theorem Uo:∀ (L:Nat) (l:List Nat),l.Nodup->(∀ x∈l,x < L)->l.length<=L
 | 0,l,_,h=>by
  cases l with
  | nil=>exact ay _
  | cons a r=>exact absurd (h a a7) (bY _)
 | L+1,l,hn,h=>by
  have:=Uo L (l.erase L) (hn.erase L) fun x hx=>by
   have:=(hn.mem_erase_iff).mp hx;have:=h x this.2;lia
  rw [List.length_erase] at this;split at this <;> lia
noncomputable def CS(m:Nat)(h:Int):Probe:=Gy m (bits h % (m+1),bits h)
structure Lay(m:Nat)(hs:List Int)(o:Array (Option Nat)):Prop where
 sz:o.size=m+1
 lt:∀ j k,ow o j=some k->k < hs.length
 one:∀ k,k < hs.length->∃ j,ow o j=some k
 RC:∀ j j' k,ow o j=some k->ow o j'=some k->j=j'
 way:∀ j k,ow o j=some k->∃ n,(eE m n (CS m (hs.getD k 0))).j=j/\∀ n',n' < n->ow o (eE m n' (CS m (hs.getD k 0))).j≠none
theorem Lay.nil(m:Nat):Lay m [] (Array.replicate (m+1) none):=by
 have no:∀ j,ow (Array.replicate (m+1) none) j=none:=fun j=>by
  unfold ow;rw [aP,Array.getElem?_replicate];split <;> rfl
 refine⟨Array.size_replicate,fun j k h=>?_,fun k h=>absurd h (bY _),fun j j' k h=>?_,fun j k h=>?_⟩ <;> (rw [no] at h; cases h)
theorem Lay.free{m:Nat}{hs:List Int}{o:Array (Option Nat)}(L:Lay m hs o)(pT:hs.length<=m):∃ j,j < m+1/\ow o j=none:=by
 apply cw;intro no;have all:∀ j,j < m+1->ow o j≠none:=fun j hj e=>no ⟨j,hj,e⟩;have nd:((bW (m+1)).map fun j=>(ow o j).getD 0).Nodup:=by
  rw [mW,g6];refine wa (fun {a b} ha hb iY e=>?_) (List.nodup_iff_pairwise_ne.mp (List.nodup_range (n:=m+1)));obtain⟨x,hx⟩:=Option.ne_none_iff_exists'.mp (all a (List.mem_range.mp ha));obtain⟨y,hy⟩:=Option.ne_none_iff_exists'.mp (all b (List.mem_range.mp hb));rw [hx,hy] at e;have e:x=y:=e;subst e;exact iY (L.RC a b x hx hy)
 have:=Uo hs.length _ nd fun x hx=>by
  obtain⟨j,hj,rfl⟩:=List.mem_map.mp hx;obtain⟨k,e⟩:=Option.ne_none_iff_exists'.mp (all j (List.mem_range.mp hj));rw [e]; exact L.lt j k e
 rw [ag,fF] at this;lia
theorem Cz{o:Array (Option Nat)}{j k:Nat}(hj:j < o.size)(i:Nat):ow (o.setIfInBounds j (some k)) i=if j=i then some k else ow o i:=by
 unfold ow;rw [aP,Array.getElem?_setIfInBounds];by_cases c:j=i
 ·rw [if_pos c,if_pos c,if_pos hj]; rfl
 ·rw [if_neg c,if_neg c,aP]
theorem Lay.step{m:Nat}(hm:Mk m){hs:List Int}{o:Array (Option Nat)}(L:Lay m hs o)(pT:hs.length<=m)(h:Int) :
  ∃ j,layClean.free m o (turns m) (bits h % (m+1)) (bits h)=some j/\Lay m (hs++[h]) (o.setIfInBounds j (some hs.length)):=by
 obtain⟨e,he,hf⟩:=L.free pT;have hb:bits h < 2 ^ 64:=by
  unfold bits;have h1:0<=h % (2 ^ 64:Int):=jw _ (by decide);have h2:h % (2 ^ 64:Int) < 2 ^ 64:=gH _ (by decide);lia
 have hx:bits h % (m+1) < m+1:=lS _ (iU m);obtain⟨k,hk,q⟩:=AQ hm (x:=(bits h % (m+1),bits h)) hx hb he;obtain⟨n,j,g,gj,hj,gn,ga⟩:=xP L.sz (turns m) (bits h % (m+1),bits h) hx ⟨k,by unfold turns; lia,by rw [q]; exact hf⟩;have Tj:j < o.size:=by rw [L.sz]; exact hj
 have old:∀ i k,ow o i=some k->ow (o.setIfInBounds j (some hs.length)) i=some k:=fun i k z=>by
  rw [Cz Tj,if_neg (fun z2:j=i=>by rw [<-z2,gn] at z; cases z)]; exact z
 have inv:∀ i k,ow (o.setIfInBounds j (some hs.length)) i=some k->(i=j/\k=hs.length)\/(i≠j/\ow o i=some k/\k < hs.length):=fun i k z=>by
  rw [Cz Tj] at z;by_cases c:j=i
  ·rw [if_pos c] at z; cases z; exact .inl ⟨c.symm,rfl⟩
  ·rw [if_neg c] at z; exact .inr ⟨fun z2=>c z2.symm,z,L.lt _ _ z⟩
 have nn:∀ i,ow o i≠none->ow (o.setIfInBounds j (some hs.length)) i≠none:=fun i z=>by
  obtain⟨k,e⟩:=Option.ne_none_iff_exists'.mp z;rw [old i k e]; exact fun z=>by cases z
 refine⟨j,g,⟨by rw [Array.size_setIfInBounds]; exact L.sz,fun i k z=>?_,fun k hk=>?_,fun i i' k z z'=>?_,fun i k z=>?_⟩⟩
 ·rw [aM,bX];rcases inv i k z with ⟨_,rfl⟩ | ⟨_,_,hk⟩ <;> lia
 ·rw [aM,bX] at hk;by_cases c:k=hs.length
  ·exact⟨j,by rw [Cz Tj,if_pos rfl,c]⟩
  ·obtain⟨i,z⟩:=L.one k (by lia);exact⟨i,old i k z⟩
 ·rcases inv i k z with ⟨a,b⟩ | ⟨a,b,c⟩ <;> rcases inv i' k z' with ⟨a',b'⟩ | ⟨a',b',c'⟩
  ·rw [a,a']
  ·lia
  ·lia
  ·exact L.RC i i' k b b'
 ·rcases inv i k z with ⟨a,b⟩ | ⟨a,b,c⟩
  ·have e:(hs++[h]).getD k 0=h:=by rw [b,aC,bC (ay _),nI]; rfl
   rw [e,a];exact⟨n,gj,fun n' z=>nn _ (ga n' z).2⟩
  ·have e:(hs++[h]).getD k 0=hs.getD k 0:=by rw [aC,bS c,<-aC]
   rw [e];obtain⟨n,q1,q2⟩:=L.way i k b;exact⟨n,q1,fun n' z=>nn _ (q2 n' z)⟩
theorem Et{m:Nat}(hm:Mk m):∀ (hs:List Int) (Kn:List Int) (o:Array (Option Nat)),Lay m Kn o->Kn.length+hs.length<=m+1 ->
  ∃ o',hs.foldl (fun acc h=>do
   let (owner,k) ← acc
   let j ← layClean.free m owner (turns m) (bits h % (m+1)) (bits h)
   pure (owner.setIfInBounds j (some k),k+1)) (some (o,Kn.length))=some (o',(Kn++hs).length)/\Lay m (Kn++hs) o'
 | [],Kn,o,L,_=>⟨o,by rw [cW]; rfl,by rw [cW]; exact L⟩
 | h :: hs,Kn,o,L,pT=>by
  obtain⟨j,g,L'⟩:=L.step hm (by rw [ak] at pT; lia) h;obtain⟨o',e,Vg⟩:=Et hm hs (Kn++[h]) _ L' (by rw [aM,bX]; rw [ak] at pT; lia);rw [eM,List.singleton_append] at e Vg;refine⟨o',?_,Vg⟩;rw [lU];rw [aM,bX] at e;rw [<-e];congr 1;show (do let j ← layClean.free m o (turns m) (bits h % (m+1)) (bits h); pure (o.setIfInBounds j (some Kn.length),Kn.length+1))=_;rw [g]; rfl
theorem AU{m:Nat}(hm:Mk m)(hs:Array Int)(pT:hs.size<=m+1):∃ o,layClean m hs=some o/\Lay m hs.toList o:=by
 obtain⟨o,e,L⟩:=Et hm hs.toList [] _ (Lay.nil m) (by rw [ar,bu]; lia);refine⟨o,?_,L⟩;unfold layClean;rw [<-Array.foldl_toList];rw [ar] at e;rw [e];rfl
end K2.S
end
section
namespace K2.S
open PySem PySem.SetTable
theorem Jw(es:En):∀ (l:List Nat),(∀ k∈l,k < es.size)->l.filterMap (es[·]?)=l.map fun k=>es.getD k (0,.none)
 | [],_=>rfl
 | k :: l,h=>by
  have hk:k < es.size:=h k a7;have e:es[k]?=some (es.getD k (0,.none)):=by rw [aP,bw hk]; rfl
  rw [List.filterMap_cons_some e,ax,Jw es l fun x hx=>h x (au _ hx)]
theorem IH{m:Nat}(hm:Mk m)(es:En)(pT:es.size<=m)(finger moves:Nat)(led plain:Bool) :
  ∃ t' order,laid m finger moves led plain (es.map (·.1))=some (t',order)/\t'.mask=m/\t'.led=led/\t'.plain=plain/\(order.filterMap (es[·]?)).size=es.size /\
   List.Perm (order.filterMap (es[·]?)).toList es.toList/\Kw t' (order.filterMap (es[·]?))/\order.toList.Perm (bW es.size):=by
 obtain⟨o,e,L⟩:=AU hm (es.map (·.1)) (by rw [Array.size_map]; lia);have hl:(es.map (·.1)).toList.length=es.size:=by rw [bu,Array.size_map]
 generalize Tg:((bW (m+1)).filterMap fun j=>(o.getD j none).map (j,·))=lv;have mem:∀ p:Nat×Nat,p∈lv↔ow o p.1=some p.2:=by
  rintro⟨j,k⟩;rw [<-Tg,List.mem_filterMap];constructor
  ·rintro⟨a,_,q⟩;obtain⟨b,hb,q⟩:=Option.map_eq_some_iff.mp q;cases q; exact hb
  ·intro q;exact⟨j,List.mem_range.mpr (by have:=Mn q; rw [L.sz] at this; exact this),Option.map_eq_some_iff.mpr ⟨k,q,rfl⟩⟩
 have asc:lv.Pairwise fun a b=>a.1 < b.1:=by
  rw [<-Tg];refine List.Pairwise.filterMap _ (fun a a' r b hb b' xJ=>?_) (List.pairwise_lt_range (n:=m+1));obtain⟨_,_,rfl⟩:=Option.map_eq_some_iff.mp hb;obtain⟨_,_,rfl⟩:=Option.map_eq_some_iff.mp xJ;exact r
 have nd:(lv.map (·.2)).Nodup:=by
  rw [mW,g6];refine wa (fun {a b} ha hb r e=>?_) asc;have h1:=(mem a).mp ha;have h2:=(mem b).mp hb;rw [e] at h1;have:=L.RC _ _ _ h1 h2;lia
 have pm:(lv.map (·.2)).Perm (bW es.size):=by
  refine(List.perm_ext_iff_of_nodup nd List.nodup_range).mpr fun k=>?_;rw [List.mem_range,List.mem_map];constructor
  ·rintro⟨p,hp,rfl⟩;have:=L.lt _ _ ((mem p).mp hp);rw [hl] at this; exact this
  ·intro hk;obtain⟨j,q⟩:=L.one k (by rw [hl]; exact hk);exact⟨(j,k),(mem _).mpr q,rfl⟩
 have ll:lv.length=es.size:=by have:=pm.length_eq; rw [ag,fF] at this; exact this
 have UC:∀ k∈lv.map (·.2),k < es.size:=fun k hk=>List.mem_range.mp (pm.mem_iff.mp hk);have es':((lv.map (·.2)).toArray.filterMap (es[·]?)).toList=lv.map fun p=>es.getD p.2 (0,.none):=by
  rw [GP,Jw es _ UC,dN]; rfl
 have Uq:List.Perm ((lv.map (·.2)).toArray.filterMap (es[·]?)).toList es.toList:=by
  rw [GP];refine(pm.filterMap _).trans ?_;rw [filterMap_getElem?_range]
 have Xa:∀ i,((lv.map (·.2)).toArray.filterMap (es[·]?))[i]?=lv[i]?.map fun p:Nat×Nat=>es.getD p.2 (0,.none):=fun i=>by
  rw [<-bK,es',a5]
 have T8:((lv.map (·.2)).toArray.filterMap (es[·]?)).size=es.size:=by
  rw [<-bu,Uq.length_eq,bu]
 have Qa:∀ i (hi:i < lv.length),(lv.map (·.1)).toArray.getD i 0=lv[i].1:=fun i hi=>by
  rw [aP,Kg,a5,ah hi]; rfl
 have Oq:(lv.map (·.1)).toArray.size=es.size:=by rw [aF,ag,ll]
 have Xb:∀ j,ow o j≠none->Full (lv.map (·.1)).toArray j:=fun j z=>by
  obtain⟨k,q⟩:=Option.ne_none_iff_exists'.mp z;obtain⟨i,hi,ei⟩:=cN ((mem (j,k)).mpr q);exact⟨i,by rw [Oq,<-ll]; exact hi,by rw [Qa i hi,ei]⟩
 refine⟨{ mask:=m,place:=(lv.map (·.1)).toArray,dummies:=#[],finger,led,moves,plain },(lv.map (·.2)).toArray,?_,rfl,rfl,rfl,T8,Uq,?_,pm⟩
 ·unfold laid;rw [e];show some _=some _;rw [Tg]
 ·refine⟨hm,rfl,by show (lv.map (·.1)).toArray.size=_; rw [Oq,T8],?_,?_,by show (lv.map (·.1)).toArray.size<=m; rw [Oq]; exact pT,?_⟩
  ·intro a b ab hb;have hb:b < lv.length:=by rw [ll,<-Oq]; exact hb
   show (lv.map (·.1)).toArray.getD a 0 < (lv.map (·.1)).toArray.getD b 0;rw [Qa a (by lia),Qa b hb];exact List.pairwise_iff_getElem.mp asc a b (by lia) hb ab
  ·intro k hk;have hk:k < lv.length:=by rw [ll,<-Oq]; exact hk
   show (lv.map (·.1)).toArray.getD k 0<=m;rw [Qa k hk];have:=Mn ((mem _).mp (bD hk));rw [L.sz] at this; lia
  ·intro k hk;have hk:k < lv.length:=by rw [ll,<-Oq]; exact hk
   have hi:=(mem _).mp (bD hk);have ni:=UC lv[k].2 (List.mem_map_of_mem (bD hk));have eh:S.hk ((lv.map (·.2)).toArray.filterMap (es[·]?)) k=(es.map (·.1)).toList.getD lv[k].2 0:=by
    unfold S.hk;rw [Xa,ah hk,aC,bK,Array.getElem?_map,bw ni];show (es.getD lv[k].2 (0,.none)).1=(es[lv[k].2]).1;rw [aP,bw ni]; rfl
   rw [eh];obtain⟨n,q1,q2⟩:=L.way _ _ hi;refine⟨n,?_,fun n' z=>Xb _ (q2 n' z)⟩;show _=(lv.map (·.1)).toArray.getD k 0;rw [Qa k hk]; exact q1
end K2.S
end
section
namespace K2
open PySem PySem.Spec PyProof.Rows L2
noncomputable def OL(K:af)(H:Hp)(a:Addr)(xs:List V):Prop :=
 (∃ o,H a=some (.kh o (.lst xs))) \/
  ∃ (o:Obj) (aZ:Array Value) (n:Nat),K.lookup a=some o/\o.cls=.type "list"/\o.dict=none/\o.data=.seq aZ n/\aZ.size<=aT/\Vals xs aZ.toList
theorem OL.sq{K:af}{H:Hp}{a:Addr}{xs:List V}(h:OL K H a xs):rL K H a xs:=by
 rcases h with ⟨o,h⟩ | h
 ·exact .inl (.inr ⟨o,h⟩)
 ·exact .inr h
noncomputable def dg:Key->D
 | .inl i=>.int i
 | .inr x=>.str x
noncomputable def ExcAt(K:af)(H:Hp)(a:Addr)(c:Str):Prop:=∃ (o:Obj) (C:Addr),H a=some (.kh o (.ext fun h=>h.get? a=some o))/\o.cls=.ref C/\bP K bc c=some (some (.ref C))
noncomputable def E7(K:af)(H:Hp)(a:Addr)(c:Str)(ns:List Str)(vs:List V):Prop:=∃ (o:Obj) (C dx:Addr) (od:Obj) (fs:List (Str×V)),H a=some (.kh o (.ext fun h=>h.get? a=some o))/\o.cls=.ref C/\bP K bc c=some (some (.ref C))/\o.dict=some dx/\H dx=some (.kh od (.xd fs))/\PySem.W.notCls o=true/\fs.map (·.1)=ns/\fs.map (·.2)=vs
mutual
inductive cb (K:af) (H:Hp):V->D->Prop
 | cf:cb K H .cf .cf
 | bl (b:Bool):cb K H (.bl b) (.bl b)
 | int (i:Int):cb K H (.int i) (.int i)
 | str (x:Str):cb K H (.str x) (.str x)
 | tup {a:Addr} {vs:List V} {ds:List D}:H a=some (.tup vs)->aX K H vs ds->cb K H (.ref a) (.tup ds)
 | dq {a:Addr} {vs:List V} {ds:List D}:OL K H a vs->aX K H vs ds->cb K H (.ref a) (.dq ds)
 | pO {a:Addr} {o:Obj} {kv:List (Key×V)} {aY:List (D×D)}:H a=some (.kh o (.dK kv))->mV K H kv aY->cb K H (.ref a) (.p8 aY)
 | pN {a:Addr} {o:Obj} {kv:List (List Key×V)} {aY:List (D×D)}:H a=some (.kh o (.dT kv))->nB K H kv aY->cb K H (.ref a) (.p8 aY)
 | ref (a:Addr):cb K H (.ref a) (.ref a)
 | exc {a:Addr} {c:Str}:ExcAt K H a c->cb K H (.ref a) (.exc c)
 | Bh {a:Addr} {c:Str} {ns:List Str} {vs:List V} {ds:List D}:E7 K H a c ns vs->aX K H vs ds->cb K H (.ref a) (.Bh c ns ds)
inductive aX (K:af) (H:Hp):List V->List D->Prop
 | nil:aX K H [] []
 | cons {v:V} {d:D} {vs:List V} {ds:List D}:cb K H v d->aX K H vs ds->aX K H (v :: vs) (d :: ds)
inductive mV (K:af) (H:Hp):List (Key×V)->List (D×D)->Prop
 | nil:mV K H [] []
 | cons {k:Key} {v:V} {d:D} {r:List (Key×V)} {t:List (D×D)}:cb K H v d->mV K H r t->mV K H ((k,v) :: r) ((dg k,d) :: t)
inductive nB (K:af) (H:Hp):List (List Key×V)->List (D×D)->Prop
 | nil:nB K H [] []
 | cons {k:List Key} {v:V} {d:D} {r:List (List Key×V)} {t:List (D×D)}:cb K H v d->nB K H r t->nB K H ((k,v) :: r) ((.tup (k.map dg),d) :: t)
end
structure Kp(H H':Hp):Prop where
 tup:∀ a xs,H a=some (.tup xs)->H' a=some (.tup xs)
 kh:∀ a o u,H a=some (.kh o u)->H' a=some (.kh o u)
theorem Kp.refl(H:Hp):Kp H H:=⟨fun _ _ h=>h,fun _ _ _ h=>h⟩
theorem Kp.trans{H H1 H2:Hp}(a:Kp H H1)(b:Kp H1 H2):Kp H H2:=⟨fun c xs h=>b.tup c xs (a.tup c xs h),fun c o u h=>b.kh c o u (a.kh c o u h)⟩
theorem Kp.Vz{K:af}{H H':Hp}{a:Addr}{xs:List V}(k:Kp H H')(h:t8 K H a xs):t8 K H' a xs:=by
 rcases h with (h | ⟨o,h⟩) | h
 ·exact .inl (.inl (k.tup _ _ h))
 ·exact .inl (.inr ⟨o,k.kh _ _ _ h⟩)
 ·exact .inr h
theorem Kp.Oo{K:af}{H H':Hp}{a:Addr}{xs:List V}(k:Kp H H')(h:OL K H a xs):OL K H' a xs:=by
 rcases h with ⟨o,h⟩ | h
 ·exact .inl ⟨o,k.kh _ _ _ h⟩
 ·exact .inr h
theorem ExcAt.mono{K:af}{H H':Hp}(k:Kp H H'){a:Addr}{c:Str}(h:ExcAt K H a c):ExcAt K H' a c :=
 let ⟨o,C,h1,h2,h3⟩:=h
 ⟨o,C,k.kh _ _ _ h1,h2,h3⟩
theorem E7.mono{K:af}{H H':Hp}(k:Kp H H'){a:Addr}{c:Str}{ns:List Str}{vs:List V}(h:E7 K H a c ns vs):E7 K H' a c ns vs :=
 let ⟨o,C,dx,od,fs,h1,h2,h3,h4,h5,h6⟩:=h
 ⟨o,C,dx,od,fs,k.kh _ _ _ h1,h2,h3,h4,k.kh _ _ _ h5,h6⟩
theorem aX.CO{K:af}{H:Hp}{P:List V->List D->Prop}(h0:P [] [])(h1:∀ {v:V} {d:D} {vs:List V} {ds:List D},cb K H v d->aX K H vs ds->P vs ds->P (v :: vs) (d :: ds)){vs:List V}{ds:List D}(h:aX K H vs ds):P vs ds :=
 aX.rec (motive_1:=fun _ _ _=>True) (motive_2:=fun vs ds _=>P vs ds) (motive_3:=fun _ _ _=>True) (motive_4:=fun _ _ _=>True) trivial (fun _=>trivial) (fun _=>trivial) (fun _=>trivial) (fun _ _ _=>trivial) (fun _ _ _=>trivial) (fun _ _ _=>trivial) (fun _ _ _=>trivial) (fun _=>trivial) (fun _=>trivial) (fun _ _ _=>trivial) h0 (fun a b _ ih=>h1 a b ih) trivial (fun _ _ _ _=>trivial) trivial (fun _ _ _ _=>trivial) h
theorem cb.mono{K:af}{H H':Hp}(k:Kp H H'):∀ {v:V} {d:D},cb K H v d->cb K H' v d:=fun h =>
 cb.rec (motive_1:=fun v d _=>cb K H' v d) (motive_2:=fun v d _=>aX K H' v d) (motive_3:=fun v d _=>mV K H' v d) (motive_4:=fun v d _=>nB K H' v d)
  .cf .bl .int .str (fun h _ r=>.tup (k.tup _ _ h) r) (fun h _ r=>.dq (k.Oo h) r) (fun h _ r=>.pO (k.kh _ _ _ h) r) (fun h _ r=>.pN (k.kh _ _ _ h) r) .ref (fun h=>.exc (h.mono k)) (fun h _ r=>.Bh (h.mono k) r) .nil (fun _ _ a b=>.cons a b) .nil (fun _ _ a b=>.cons a b) .nil (fun _ _ a b=>.cons a b) h
theorem aX.mono{K:af}{H H':Hp}(k:Kp H H'){v:List V}{d:List D}(h:aX K H v d):aX K H' v d :=
 aX.CO (P:=fun v d=>aX K H' v d) .nil (fun r _ ih=>.cons (r.mono k) ih) h
theorem mV.mono{K:af}{H H':Hp}(k:Kp H H'){v:List (Key×V)}{d:List (D×D)}(h:mV K H v d):mV K H' v d :=
 mV.rec (motive_1:=fun v d _=>cb K H' v d) (motive_2:=fun v d _=>aX K H' v d) (motive_3:=fun v d _=>mV K H' v d) (motive_4:=fun v d _=>nB K H' v d)
  .cf .bl .int .str (fun h _ r=>.tup (k.tup _ _ h) r) (fun h _ r=>.dq (k.Oo h) r) (fun h _ r=>.pO (k.kh _ _ _ h) r) (fun h _ r=>.pN (k.kh _ _ _ h) r) .ref (fun h=>.exc (h.mono k)) (fun h _ r=>.Bh (h.mono k) r) .nil (fun _ _ a b=>.cons a b) .nil (fun _ _ a b=>.cons a b) .nil (fun _ _ a b=>.cons a b) h
theorem nB.mono{K:af}{H H':Hp}(k:Kp H H'){v:List (List Key×V)}{d:List (D×D)}(h:nB K H v d):nB K H' v d :=
 nB.rec (motive_1:=fun v d _=>cb K H' v d) (motive_2:=fun v d _=>aX K H' v d) (motive_3:=fun v d _=>mV K H' v d) (motive_4:=fun v d _=>nB K H' v d)
  .cf .bl .int .str (fun h _ r=>.tup (k.tup _ _ h) r) (fun h _ r=>.dq (k.Oo h) r) (fun h _ r=>.pO (k.kh _ _ _ h) r) (fun h _ r=>.pN (k.kh _ _ _ h) r) .ref (fun h=>.exc (h.mono k)) (fun h _ r=>.Bh (h.mono k) r) .nil (fun _ _ a b=>.cons a b) .nil (fun _ _ a b=>.cons a b) .nil (fun _ _ a b=>.cons a b) h
theorem aX.length{K:af}{H:Hp}:∀ {vs:List V} {ds:List D},aX K H vs ds->vs.length=ds.length:=fun h =>
 aX.CO (P:=fun vs ds=>vs.length=ds.length) rfl (fun _ _ ih=>congrArg (· + 1) ih) h
theorem aX.get{K:af}{H:Hp}:∀ {vs:List V} {ds:List D} {i:Nat} {d:D},aX K H vs ds->ds[i]?=some d->∃ v,vs[i]?=some v/\cb K H v d:=by
 intro vs ds i d h;refine aX.CO (P:=fun vs ds=>∀ (i:Nat) (d:D),ds[i]?=some d->∃ v,vs[i]?=some v/\cb K H v d) (fun i d e=>by cases e) (fun r _ ih i d e=>?_) h i d;cases i with
 | zero=>cases e; exact⟨_,rfl,r⟩
 | succ i=>exact ih i d e
theorem aX.append{K:af}{H:Hp}:∀ {vs ws:List V} {ds es:List D},aX K H vs ds->aX K H ws es->aX K H (vs++ws) (ds++es):=fun {_ ws _ es} h s =>
 aX.CO (P:=fun vs ds=>aX K H (vs++ws) (ds++es)) s (fun r _ ih=>.cons r ih) h
theorem aX.take{K:af}{H:Hp}:∀ {vs:List V} {ds:List D} (n:Nat),aX K H vs ds->aX K H (vs.take n) (ds.take n):=fun {_ _} n h =>
 aX.CO (P:=fun vs ds=>∀ n,aX K H (vs.take n) (ds.take n)) (fun n=>by rw [v8,v8]; exact .nil) (fun r _ ih n=>by
  cases n with
  | zero=>exact .nil
  | succ n=>exact .cons r (ih n)) h n
theorem aX.drop{K:af}{H:Hp}:∀ {vs:List V} {ds:List D} (n:Nat),aX K H vs ds->aX K H (vs.drop n) (ds.drop n):=fun {_ _} n h =>
 aX.CO (P:=fun vs ds=>∀ n,aX K H (vs.drop n) (ds.drop n)) (fun n=>by rw [v9,v9]; exact .nil) (fun r t ih n=>by
  cases n with
  | zero=>exact .cons r t
  | succ n=>exact ih n) h n
theorem aX.set{K:af}{H:Hp}{v:V}{d:D}(r:cb K H v d):∀ {vs:List V} {ds:List D} (i:Nat),aX K H vs ds->aX K H (vs.set i v) (ds.set i d):=fun {_ _} i h =>
 aX.CO (P:=fun vs ds=>∀ i,aX K H (vs.set i v) (ds.set i d)) (fun i=>by rw [yc,yc]; exact .nil) (fun q t ih i=>by
  cases i with
  | zero=>exact .cons r t
  | succ i=>exact .cons q (ih i)) h i
theorem aX.one{K:af}{H:Hp}:∀ {vs:List V} {d:D},aX K H vs [d]->∃ v,vs=[v]/\cb K H v d:=by
 intro vs d h;cases h with
 | cons r t=>cases t; exact⟨_,rfl,r⟩
theorem aX.two{K:af}{H:Hp}:∀ {vs:List V} {d e:D},aX K H vs [d,e]->∃ v u,vs=[v,u]/\cb K H v d/\cb K H u e:=by
 intro vs d e h;cases h with
 | cons r t =>
  obtain⟨u,rfl,q⟩:=aX.one t;exact⟨_,_,rfl,r,q⟩
theorem aX.zero{K:af}{H:Hp}:∀ {vs:List V},aX K H vs []->vs=[]
 | _,.nil=>rfl
theorem aX.ints{K:af}{H:Hp}:∀ {vs:List V} {ns:List Int},aX K H vs (ns.map D.int)->vs=ns.map V.int:=by
 intro vs ns;induction ns generalizing vs with
 | nil=>intro h; exact h.zero
 | cons n ns ih =>
  intro h;cases h with
  | cons r t =>
   cases r;rw [ih t]; rfl
theorem aX.yE{K:af}{H:Hp}:∀ (ns:List Int),aX K H (ns.map V.int) (ns.map D.int)
 | []=>.nil
 | n :: ns=>.cons (.int n) (aX.yE ns)
theorem mV.ind{K:af}{H:Hp}{motive:∀ (kv:List (Key×V)) (aY:List (D×D)),mV K H kv aY->Prop}(nil:motive [] [] .nil)
  (cons:∀ {k:Key} {v:V} {d:D} {r:List (Key×V)} {t:List (D×D)} (re:cb K H v d) (rs:mV K H r t),motive r t rs->motive ((k,v) :: r) ((dg k,d) :: t) (.cons re rs)):∀ {kv:List (Key×V)} {aY:List (D×D)} (h:mV K H kv aY),motive kv aY h:=fun h =>
 mV.rec (motive_1:=fun _ _ _=>True) (motive_2:=fun _ _ _=>True) (motive_3:=motive) (motive_4:=fun _ _ _=>True) trivial (fun _=>trivial) (fun _=>trivial) (fun _=>trivial) (fun _ _ _=>trivial) (fun _ _ _=>trivial) (fun _ _ _=>trivial) (fun _ _ _=>trivial) (fun _=>trivial) (fun _=>trivial) (fun _ _ _=>trivial) trivial (fun _ _ _ _=>trivial) nil (fun a b _ ih=>cons a b ih) trivial (fun _ _ _ _=>trivial) h
theorem nB.ind{K:af}{H:Hp}{motive:∀ (kv:List (List Key×V)) (aY:List (D×D)),nB K H kv aY->Prop}(nil:motive [] [] .nil)
  (cons:∀ {k:List Key} {v:V} {d:D} {r:List (List Key×V)} {t:List (D×D)} (re:cb K H v d) (rs:nB K H r t),motive r t rs->motive ((k,v) :: r) ((.tup (k.map dg),d) :: t) (.cons re rs)):∀ {kv:List (List Key×V)} {aY:List (D×D)} (h:nB K H kv aY),motive kv aY h:=fun h =>
 nB.rec (motive_1:=fun _ _ _=>True) (motive_2:=fun _ _ _=>True) (motive_3:=fun _ _ _=>True) (motive_4:=motive) trivial (fun _=>trivial) (fun _=>trivial) (fun _=>trivial) (fun _ _ _=>trivial) (fun _ _ _=>trivial) (fun _ _ _=>trivial) (fun _ _ _=>trivial) (fun _=>trivial) (fun _=>trivial) (fun _ _ _=>trivial) trivial (fun _ _ _ _=>trivial) trivial (fun _ _ _ _=>trivial) nil (fun a b _ ih=>cons a b ih) h
theorem mV.length{K:af}{H:Hp}:∀ {v:List (Key×V)} {d:List (D×D)},mV K H v d->v.length=d.length:=fun h =>
 mV.ind (motive:=fun v d _=>v.length=d.length) rfl (fun _ _ ih=>congrArg (· + 1) ih) h
theorem nB.length{K:af}{H:Hp}:∀ {v:List (List Key×V)} {d:List (D×D)},nB K H v d->v.length=d.length:=fun h =>
 nB.ind (motive:=fun v d _=>v.length=d.length) rfl (fun _ _ ih=>congrArg (· + 1) ih) h
noncomputable def Ke(K:af)(H:Hp)(a:Addr):GO->Prop
 | .lst ds=>∃ vs,H a=some (.lst vs)/\aX K H vs ds
 | .kB aY=>(∃ kv,H a=some (.dK kv)/\mV K H kv aY)\/∃ kv,H a=some (.dT kv)/\nB K H kv aY
 | .ins c fs=>∃ C dx fv,H a=some (.ins C dx fv)/\bP K bc c=some (some (.ref C))/\fv.map (·.1)=fs.map (·.1)/\aX K H (fv.map (·.2)) (fs.map (·.2))
noncomputable def kC(K:af)(H:Hp)(G:Gp):Prop:=∀ a g,G a=some g->Ke K H a g
theorem Ke.dk{K:af}{H:Hp}{a:Addr}{kv:List (Key×V)}{aY:List (D×D)}(h:H a=some (.dK kv))(r:mV K H kv aY):Ke K H a (.kB aY):=.inl ⟨kv,h,r⟩
theorem Ke.mono{K:af}{H H':Hp}{a:Addr}{g:GO}(k:Kp H H')(e:H' a=H a)(h:Ke K H a g):Ke K H' a g:=by
 cases g with
 | lst ds=>obtain⟨vs,q,r⟩:=h; exact⟨vs,e.trans q,r.mono k⟩
 | ins c fs=>obtain⟨C,dx,fv,q,h1,h2,r⟩:=h; exact⟨C,dx,fv,e.trans q,h1,h2,r.mono k⟩
 | kB aY =>
  rcases h with ⟨kv,q,r⟩ | ⟨kv,q,r⟩
  ·exact .inl ⟨kv,e.trans q,r.mono k⟩
  ·exact .inr ⟨kv,e.trans q,r.mono k⟩
theorem Ke.tracked{K:af}{H:Hp}{a:Addr}{g:GO}(h:Ke K H a g):H a≠none:=by
 cases g with
 | lst ds=>obtain⟨vs,q,r⟩:=h; rw [q]; simp
 | ins c fs=>obtain⟨C,dx,fv,q,_⟩:=h; rw [q]; simp
 | kB aY =>
  rcases h with ⟨kv,q,r⟩ | ⟨kv,q,r⟩
  ·rw [q]; simp
  ·rw [q]; simp
theorem kC.free{K:af}{H:Hp}{G:Gp}{a:Addr}(h:kC K H G)(e:H a=none):G a=none:=by
 cases q:G a with
 | none=>rfl
 | some g=>exact absurd e (h a g q).tracked
theorem kC.Po{K:af}{H:Hp}{G:Gp}{a:Addr}{xs:List V}(h:kC K H G)(e:H a=some (.tup xs)):G a=none:=by
 cases q:G a with
 | none=>rfl
 | some g =>
  have z:=h a g q;cases g with
  | lst ds=>obtain⟨vs,q,r⟩:=z; rw [e] at q; cases q
  | ins c fs=>obtain⟨C,dx,fv,q,_⟩:=z; rw [e] at q; cases q
  | kB aY =>
   rcases z with ⟨kv,q,r⟩ | ⟨kv,q,r⟩
   ·rw [e] at q; cases q
   ·rw [e] at q; cases q
theorem kC.Pp{K:af}{H:Hp}{G:Gp}{a:Addr}{o:Obj}{u:HO}(h:kC K H G)(e:H a=some (.kh o u)):G a=none:=by
 cases q:G a with
 | none=>rfl
 | some g =>
  have z:=h a g q;cases g with
  | lst ds=>obtain⟨vs,q,r⟩:=z; rw [e] at q; cases q
  | ins c fs=>obtain⟨C,dx,fv,q,_⟩:=z; rw [e] at q; cases q
  | kB aY =>
   rcases z with ⟨kv,q,r⟩ | ⟨kv,q,r⟩
   ·rw [e] at q; cases q
   ·rw [e] at q; cases q
structure Mv(K:af)(H:Hp)(G:Gp)(H':Hp)(G':Gp):Prop where
 keep:∀ a o,H a=some o->G a=none->H' a=some o/\G' a=none
 la:∀ a,G a≠none->H' a≠none
 ab:kC K H' G'
theorem Mv.refl{K:af}{H:Hp}{G:Gp}(h:kC K H G):Mv K H G H G:=⟨fun _ _ e n=>⟨e,n⟩,fun a n=>by
 cases q:G a with
 | none=>exact absurd q n
 | some g=>exact(h a g q).tracked,h⟩
theorem Mv.trans{K:af}{H H1 H2:Hp}{G G1 G2:Gp}(a:Mv K H G H1 G1)(b:Mv K H1 G1 H2 G2):Mv K H G H2 G2 :=
 ⟨fun c o e n=>let ⟨e1,n1⟩:=a.keep c o e n; b.keep c o e1 n1,fun c n=>by
  have h1:=a.la c n;cases q:G1 c with
  | some g=>exact b.la c (by rw [q]; simp)
  | none =>
   cases q1:H1 c with
   | none=>exact absurd q1 h1
   | some o=>rw [(b.keep c o q1 q).1]; simp,b.ab⟩
theorem Mv.kp{K:af}{H H':Hp}{G G':Gp}(m:Mv K H G H' G')(h:kC K H G):Kp H H' :=
 ⟨fun a xs e=>(m.keep a _ e (h.Po e)).1,fun a o u e=>(m.keep a _ e (h.Pp e)).1⟩
theorem Kp.new{H:Hp}{p:Addr}{o:HO}(hp:H p=none):Kp H (upd H p o):=⟨fun a xs e=>by rw [bI (cU e hp)]; exact e,fun a ob u e=>by rw [bI (cU e hp)]; exact e⟩
theorem Kp.putL{H:Hp}{p:Addr}{xs:List V}{o:HO}(hp:H p=some (.lst xs)):Kp H (upd H p o) :=
 ⟨fun a ys e=>by rw [bI (by rintro rfl; rw [hp] at e; cases e)]; exact e,fun a ob u e=>by rw [bI (by rintro rfl; rw [hp] at e; cases e)]; exact e⟩
theorem Mv.new{K:af}{H:Hp}{G:Gp}{p:Addr}{o:HO}{g:GO}(h:kC K H G)(hp:H p=none)(ho:Ke K (upd H p o) p g):Mv K H G (upd H p o) (cY G p g) where
 keep:=fun a ob e n=>by
  have ne:=cU e hp;exact⟨by rw [bI ne]; exact e,by rw [cQ ne]; exact n⟩
 la:=fun a n=>by
  have ne:a≠p:=by rintro rfl; exact n (h.free hp)
  rw [bI ne];exact(Mv.refl h).la a n
 ab:=fun a g' e=>by
  by_cases ha:a=p
  ·subst ha; rw [aS] at e; cases e; exact ho
  ·rw [cQ ha] at e;exact(h a g' e).mono (.new hp) (bI ha)
theorem Mv.Kr{K:af}{H:Hp}{G:Gp}{p:Addr}{o:HO}(h:kC K H G)(hp:H p=none):Mv K H G (upd H p o) G where
 keep:=fun a ob e n=>⟨by rw [bI (cU e hp)]; exact e,n⟩
 la:=fun a n=>by
  have ne:a≠p:=by rintro rfl; exact n (h.free hp)
  rw [bI ne];exact(Mv.refl h).la a n
 ab:=fun a g' e=>by
  have ne:a≠p:=by rintro rfl; rw [h.free hp] at e; cases e
  exact(h a g' e).mono (.new hp) (bI ne)
theorem Mv.put{K:af}{H:Hp}{G:Gp}{p:Addr}{o:HO}{g g0:GO}(h:kC K H G)(hg:G p=some g0)(k:Kp H (upd H p o))(ho:Ke K (upd H p o) p g):Mv K H G (upd H p o) (cY G p g) where
 keep:=fun a ob e n=>by
  have ne:a≠p:=by rintro rfl; rw [hg] at n; cases n
  exact⟨by rw [bI ne]; exact e,by rw [cQ ne]; exact n⟩
 la:=fun a n=>by
  by_cases ha:a=p
  ·subst ha; rw [cC]; simp
  ·rw [bI ha]; exact(Mv.refl h).la a n
 ab:=fun a g' e=>by
  by_cases ha:a=p
  ·subst ha; rw [aS] at e; cases e; exact ho
  ·rw [cQ ha] at e;exact(h a g' e).mono k (bI ha)
theorem kC.lst{K:af}{H:Hp}{G:Gp}{a:Addr}{ds:List D}(h:kC K H G)(e:G a=some (.lst ds)):∃ vs,H a=some (.lst vs)/\aX K H vs ds:=h a _ e
theorem Mv.wJ{K:af}{H:Hp}{G:Gp}{p:Addr}{vs:List V}{ds:List D}(h:kC K H G)(hp:H p=none)(r:aX K H vs ds):Mv K H G (upd H p (.lst vs)) (cY G p (.lst ds)) :=
 .new h hp ⟨vs,cC,r.mono (.new hp)⟩
theorem Mv.putL{K:af}{H:Hp}{G:Gp}{p:Addr}{Vr vs:List V}{XA ds:List D}(h:kC K H G)(hg:G p=some (.lst XA))(hp:H p=some (.lst Vr))(r:aX K H vs ds):Mv K H G (upd H p (.lst vs)) (cY G p (.lst ds)) :=
 .put h hg (.putL hp) ⟨vs,cC,r.mono (.putL hp)⟩
structure Ha(K:af)(H:Hp)(σ:L2.St)(τ:fD):Prop where
 len:σ.length=τ.length
 at':∀ (i:Nat) (d:D),τ[i]?=some (some d)->∃ v,σ[i]?=some (some v)/\cb K H v d
theorem Ha.mono{K:af}{H H':Hp}{σ:L2.St}{τ:fD}(k:Kp H H')(a:Ha K H σ τ):Ha K H' σ τ :=
 ⟨a.len,fun i d e=>let ⟨v,h1,h2⟩:=a.at' i d e; ⟨v,h1,h2.mono k⟩⟩
theorem Ha.set{K:af}{H:Hp}{σ:L2.St}{τ:fD}{v:V}{d:D}(a:Ha K H σ τ)(i:Nat)(r:cb K H v d):Ha K H (σ.set i (some v)) (τ.set i (some d)):=by
 refine⟨by rw [dO,dO]; exact a.len,fun j e h=>?_⟩;by_cases hj:i=j
 ·subst hj;by_cases hi:i < τ.length
  ·rw [dD hi] at h;cases h;exact⟨v,by rw [dD (by rw [a.len]; exact hi)],r⟩
  ·rw [List.set_eq_of_length_le (by lia)] at h;rw [kz (by lia)] at h;cases h
 ·rw [eG hj] at h;obtain⟨w,h1,h2⟩:=a.at' j e h;exact⟨w,by rw [eG hj]; exact h1,h2⟩
structure I2(X:Cx)(pins:List (Addr×Obj))(σ:L2.St)(H:Hp)(τ:fD)(G:Gp)(s:aj):Prop where
 inv:Inv X pins σ H s
 st:Ha X.K H σ τ
 ab:kC X.K H G
theorem I2.mv{X:Cx}{pins:List (Addr×Obj)}{σ:L2.St}{H H':Hp}{τ:fD}{G G':Gp}{s s':aj}(I:I2 X pins σ H τ G s)(I':Inv X pins σ H' s')(m:Mv X.K H G H' G'):I2 X pins σ H' τ G' s' :=
 ⟨I',I.st.mono (m.kp I.ab),m.ab⟩
noncomputable def Yu(P:bx)(w:World):GH:=fun outer H s E e s'=>∃ (a C t:Addr) (B:Heap) (H':Hp),e=.ref a/\s'.os=s.os/\ye s'.gens/\Un (GX outer) [] H H' s.heap s'.heap/\qc P w H' s'.heap /\
 (∀ b o,s'.heap.get? b=some o->b∉GX outer->(s.heap.get? b≠none\/H' b≠none)->B.get? b=some o)/\PySem.Heap.FlyingW B outer a (.ref C) (.ref t) s'.heap/\H' a=none/\s.heap.get? a=none/\E (.ref C) none H'
noncomputable def Xx(K:af)(mg:Str->Option Value)(E:jY):XK:=fun cls _ H=>∃ (ex:Ex) (C:Addr) (G:Gp),cls=.ref C/\mg ex.cls=some (.ref C)/\kC K H G/\E ex G
structure Lk(X:Cx)(E:jY):Prop where
 made:∀ (pins:List (Addr×Obj)) (σ:L2.St) (H:Hp) (s:aj) (h1:Heap) (a C:Addr) (args:List Value) (ex:Ex) (G:Gp),Inv X pins σ H s->kC X.K H G->PySem.Heap.MadeExcOf s.heap h1 a (.ref C) args->X.mg ex.cls=some (.ref C)->E ex G->X.xe (.ref a) { s with heap:=h1 }
 pass:∀ (pins:List (Addr×Obj)) (σ:L2.St) (H:Hp) (s s':aj) (e:Value),Inv X pins σ H s->Yu X.prog X.w X.stack H s (Xx X.K X.mg E) e s'->X.xe e s'
theorem Lk.none{X:Cx}{E:jY}(h:∀ ex G,¬ E ex G):Lk X E where
 made:=fun _ _ _ _ _ _ _ _ ex _ _ _ _ _ z=>absurd z (h ex _)
 pass:=fun _ _ _ _ _ _ _ hc=>by
  obtain⟨_,_,_,_,_,_,_,_,_,_,_,_,_,_,hz⟩:=hc;obtain⟨ex,_,_,_,_,_,z⟩:=hz;exact absurd z (h ex _)
inductive nA (X:Cx) (pins:List (Addr×Obj)) (σ:L2.St) (H:Hp) (G:Gp) (Q:DK) (u:Value) (s':aj):Prop
 | mk (v:V) (H':Hp) (d:D) (G':Gp) (i:Inv X pins σ H' s') (m:Mv X.K H G H' G') (r:RelV v u) (rd:cb X.K H' v d) (q:Q d G'):nA X pins σ H G Q u s'
inductive OH (X:Cx) (pins:List (Addr×Obj)) (σ:L2.St) (H:Hp) (G:Gp) (Q:Bool->Gp->Prop) (b:Bool) (s':aj):Prop
 | mk (H':Hp) (G':Gp) (i:Inv X pins σ H' s') (m:Mv X.K H G H' G') (q:Q b G'):OH X pins σ H G Q b s'
inductive Vn (X:Cx) (pins:List (Addr×Obj)) (σ:L2.St) (H:Hp) (G:Gp) (Q:List D->Gp->Prop) (us:List Value) (s':aj):Prop
 | mk (vs:List V) (H':Hp) (ds:List D) (G':Gp) (i:Inv X pins σ H' s') (m:Mv X.K H G H' G') (r:Vals vs us) (rd:aX X.K H' vs ds) (q:Q ds G'):Vn X pins σ H G Q us s'
inductive Ra (X:Cx) (pins:List (Addr×Obj)) (H:Hp) (G:Gp) (P:fD->Gp->Prop) (s':aj):Prop
 | mk (g7:L2.St) (H':Hp) (nF:fD) (G':Gp) (i:I2 X pins g7 H' nF G' s') (m:Mv X.K H G H' G') (q:P nF G'):Ra X pins H G P s'
inductive Vf (X:Cx) (pins:List (Addr×Obj)) (H:Hp) (G:Gp) (P:D->Gp->Prop) (u:Value) (s':aj):Prop
 | mk (v:V) (g7:L2.St) (H':Hp) (d:D) (G':Gp) (i:Inv X pins g7 H' s') (m:Mv X.K H G H' G') (r:RelV v u) (rd:cb X.K H' v d) (q:P d G'):Vf X pins H G P u s'
noncomputable def Of(X:Cx)(pins:List (Addr×Obj))(H:Hp)(G:Gp)(D:kZ)(f:Flow)(s':aj):Prop :=
 match f with
 | .next=>Ra X pins H G D.nx s'
 | .brk=>Ra X pins H G D.bk s'
 | .cont=>Ra X pins H G D.ct s'
 | .ret u=>Vf X pins H G D.rt u s'
noncomputable def eV(X:Cx)(e:Expr)(t:eU):Prop :=
 ∀ (E:jY) (pins:List (Addr×Obj)) (s:aj) (σ:L2.St) (H:Hp) (τ:fD) (G:Gp) (Q:DK),Lk X E->I2 X pins σ H τ G s->t E τ G Q->wpAny (model X.prog X.w) X.A (eval e X.env) (nA X pins σ H G Q) X.xe s
noncomputable def DA(X:Cx)(e:Expr)(t:tM):Prop :=
 ∀ (E:jY) (pins:List (Addr×Obj)) (s:aj) (σ:L2.St) (H:Hp) (τ:fD) (G:Gp) (Q:Bool->Gp->Prop),Lk X E->I2 X pins σ H τ G s->t E τ G Q->wpAny (model X.prog X.w) X.A (isTrue e X.env (eval e X.env)) (OH X pins σ H G Q) X.xe s
noncomputable def Ku(X:Cx)(e:Expr)(t:tM):Prop :=
 ∀ (wh:Sem Value) (E:jY) (pins:List (Addr×Obj)) (s:aj) (σ:L2.St) (H:Hp) (τ:fD) (G:Gp) (Q:Bool->Gp->Prop),Lk X E->I2 X pins σ H τ G s->t E τ G Q->wpAny (model X.prog X.w) X.A (isTrue e X.env wh) (OH X pins σ H G Q) X.xe s
noncomputable def E5(X:Cx)(es:List Expr)(t:BG):Prop :=
 ∀ (pos:Pos) (E:jY) (pins:List (Addr×Obj)) (s:aj) (σ:L2.St) (H:Hp) (τ:fD) (G:Gp) (Q:List D->Gp->Prop),Lk X E->I2 X pins σ H τ G s->t E τ G Q->wpAny (model X.prog X.w) X.A (x8 (i6 pos (bQ es X.env))) (Vn X pins σ H G Q) X.xe s
noncomputable def DB(X:Cx)(st:Stmt)(t:gU):Prop :=
 ∀ (E:jY) (pins:List (Addr×Obj)) (s:aj) (σ:L2.St) (H:Hp) (τ:fD) (G:Gp) (D:kZ),Lk X E->I2 X pins σ H τ G s->t E D τ G->wpAny (model X.prog X.w) X.A (exec st X.env) (Of X pins H G D) X.xe s
noncomputable def t9(X:Cx)(st:List Stmt)(t:gU):Prop :=
 ∀ (E:jY) (pins:List (Addr×Obj)) (s:aj) (σ:L2.St) (H:Hp) (τ:fD) (G:Gp) (D:kZ),Lk X E->I2 X pins σ H τ G s->t E D τ G->wpAny (model X.prog X.w) X.A (execs st X.env) (Of X pins H G D) X.xe s
theorem Of.trans{X:Cx}{pins:List (Addr×Obj)}{H H1:Hp}{G G1:Gp}{D:kZ}{f:Flow}{s':aj}(m:Mv X.K H G H1 G1)(h:Of X pins H1 G1 D f s'):Of X pins H G D f s':=by
 cases f with
 | next=>obtain⟨g7,H',nF,G',I,m',q⟩:=h; exact⟨g7,H',nF,G',I,m.trans m',q⟩
 | brk=>obtain⟨g7,H',nF,G',I,m',q⟩:=h; exact⟨g7,H',nF,G',I,m.trans m',q⟩
 | cont=>obtain⟨g7,H',nF,G',I,m',q⟩:=h; exact⟨g7,H',nF,G',I,m.trans m',q⟩
 | ret u=>obtain⟨v,g7,H',d,G',I,m',r,rd,q⟩:=h; exact⟨v,g7,H',d,G',I,m.trans m',r,rd,q⟩
section
variable {X:Cx} {a b c:Expr} {ta tb tc:eU} {pos:Pos}
theorem hZ{pins:List (Addr×Obj)}{σ:L2.St}{H:Hp}{τ:fD}{G:Gp}{s:aj}{E:jY}{R:DK}{Q:Value->aj->Prop}(ha:eV X a ta)(hE:Lk X E)(I:I2 X pins σ H τ G s)(h:ta E τ G R)
  (k:∀ v H1 d G1 u s1,I2 X pins σ H1 τ G1 s1->Mv X.K H G H1 G1->RelV v u->cb X.K H1 v d->R d G1->Q u s1):wpAny (model X.prog X.w) X.A (eval a X.env) Q X.xe s :=
 eN (ha E pins s σ H τ G R hE I h) (by rintro u s1 ⟨v,H1,d,G1,I1,m,r,rd,q⟩; exact k v H1 d G1 u s1 (I.mv I1 m) m r rd q)
theorem nA.trans{pins:List (Addr×Obj)}{σ:L2.St}{H H1:Hp}{G G1:Gp}{Q:DK}{u:Value}{s':aj}(m:Mv X.K H G H1 G1)(h:nA X pins σ H1 G1 Q u s'):nA X pins σ H G Q u s':=by
 obtain⟨v,H',d,G',I,m',r,rd,q⟩:=h;exact⟨v,H',d,G',I,m.trans m',r,rd,q⟩
theorem OH.trans{pins:List (Addr×Obj)}{σ:L2.St}{H H1:Hp}{G G1:Gp}{Q:Bool->Gp->Prop}{u:Bool}{s':aj}(m:Mv X.K H G H1 G1)(h:OH X pins σ H1 G1 Q u s'):OH X pins σ H G Q u s':=by
 obtain⟨H',G',I,m',r⟩:=h;exact⟨H',G',I,m.trans m',r⟩
theorem Ls {i:Nat} {x:Str} (hN:X.N[i]?=some x) (hv:OG X.env.scope x) (hd:autoParam ((x == ("__debug__" : Str))=false) Ad._auto_1) (yS:autoParam ((x == ("__classdict__" : Str))=false) Ad._auto_1):eV X (.Name x pos) (aE i):=by
 intro E pins s σ H τ G Q hE I h;unfold aE at h;split at h
 ·rename_i d e;obtain⟨v,h1,h2⟩:=I.st.at' i d e;exact eN (Ih hN hv hd yS pins s σ H (fun v' H'=>v'=v/\H'=H) I.inv ⟨v,h1,rfl,rfl⟩) fun u s1 EH=>by
   obtain⟨v',H',I1,r,e1,e2⟩:=EH;subst e1; subst e2;exact⟨_,_,d,G,I1,.refl I.ab,r,h2,h⟩
 ·exact h.elim
theorem jU{e:Expr}{v:V}{d:D}(h:PE X e (tC v))(r:∀ K H,cb K H v d):eV X e (dC d):=by
 intro E pins s σ H τ G Q hE I hq;exact eN (h pins s σ H (fun v' H'=>v'=v/\H'=H) I.inv ⟨rfl,rfl⟩) fun u s1 Wv=>by
  obtain⟨v',H',I1,rr,e1,e2⟩:=Wv;subst e1; subst e2;exact⟨_,_,d,G,I1,.refl I.ab,rr,r _ _,hq⟩
theorem bb{i j}:eV X (.Constant (.int i) j pos) (dC (.int i)):=jU M8 fun _ _=>.int i
noncomputable def lx(X:Cx)(f:Value->Value->Sem Value)(r:x4):Prop :=
 ∀ (pins:List (Addr×Obj)) (s:aj) (σ:L2.St) (H:Hp) (G:Gp) (x y:V) (dx dy:D) (v u:Value) (Q:DK),Inv X pins σ H s->kC X.K H G->RelV x v->RelV y u->cb X.K H x dx->cb X.K H y dy->r dx dy G Q ->
  wpAny (model X.prog X.w) X.A (f v u) (nA X pins σ H G Q) X.xe s
noncomputable def Qw(X:Cx)(f:Value->Sem Value)(r:D->Gp->DK->Prop):Prop :=
 ∀ (pins:List (Addr×Obj)) (s:aj) (σ:L2.St) (H:Hp) (G:Gp) (x:V) (dx:D) (v:Value) (Q:DK),Inv X pins σ H s->kC X.K H G->RelV x v->cb X.K H x dx->r dx G Q ->
  wpAny (model X.prog X.w) X.A (f v) (nA X pins σ H G Q) X.xe s
noncomputable def ly(X:Cx)(f:Value)(r:List D->Gp->DK->Prop):Prop :=
 ∀ (pins:List (Addr×Obj)) (s:aj) (σ:L2.St) (H:Hp) (G:Gp) (xs:List V) (ds:List D) (us:List Value) (Q:DK),Inv X pins σ H s->kC X.K H G->Vals xs us->aX X.K H xs ds->r ds G Q ->
  wpAny (model X.prog X.w) X.A (call f us) (nA X pins σ H G Q) X.xe s
noncomputable abbrev wX(K:af)(H:Hp)(G:Gp)(Q:DK):VK:=fun v H'=>∃ d G',Mv K H G H' G'/\cb K H' v d/\Q d G'
theorem nA.of{pins:List (Addr×Obj)}{σ:L2.St}{H:Hp}{G:Gp}{Q:DK}{u:Value}{s':aj}(h:EP X pins σ (wX X.K H G Q) u s'):nA X pins σ H G Q u s':=by
 obtain⟨v,H',I,r,d,G',m,rd,q⟩:=h;exact⟨v,H',d,G',I,m,r,rd,q⟩
theorem EY(ha:eV X a ta)(hb:eV X b tb){E:jY}{pins:List (Addr×Obj)}{s:aj}{σ:L2.St}{H:Hp}{τ:fD}{G:Gp}{R:D->D->Gp->Prop}(hE:Lk X E)(I:I2 X pins σ H τ G s)
  (h:ta E τ G fun x G1=>tb E τ G1 fun y G2=>R x y G2) {Q:Value->aj->Prop} {f:Value->Value->Sem Value}
  (hf:∀ v u s2 x y dx dy H2 G2,I2 X pins σ H2 τ G2 s2->Mv X.K H G H2 G2->RelV x v->RelV y u->cb X.K H2 x dx->cb X.K H2 y dy->R dx dy G2->wpAny (model X.prog X.w) X.A (f v u) Q X.xe s2) :
  wpAny (model X.prog X.w) X.A (eval a X.env) (fun v dR=>wpAny (model X.prog X.w) X.A (eval b X.env) (fun u iH=>wpAny (model X.prog X.w) X.A (f v u) Q X.xe iH) X.xe dR) X.xe s:=by
 refine hZ ha hE I h fun x H1 dx G1 v s1 I1 m1 r1 iI q1=>?_;refine hZ hb hE I1 q1 fun y H2 dy G2 u s2 i5 m2 r2 yu q2=>?_;exact hf v u s2 x y dx dy H2 G2 i5 (m1.trans m2) r1 r2 (iI.mono (m2.kp I1.ab)) yu q2
theorem c8{op:Operator}{r:x4}(ho:lx X (g4 op) r)(ha:eV X a ta)(hb:eV X b tb):eV X (.BinOp a op b pos) (bG r ta tb):=by
 intro E pins s σ H τ G Q hE I h;exact wpAny_BinOp (EY ha hb hE I h fun v u s2 x y dx dy H2 G2 i5 m rx ry dX dY q=>eN (ho pins s2 σ H2 G2 x y dx dy v u Q i5.inv i5.ab rx ry dX dY q) fun _ _ z=>z.trans m)
theorem u3{op:UnaryOp}{r:D->Gp->DK->Prop}(ho:Qw X (unaryOp op) r)(ha:eV X a ta):eV X (.UnaryOp op a pos) (zJ r ta):=by
 intro E pins s σ H τ G Q hE I h;exact UnaryOp_ (hZ ha hE I h fun x H1 dx G1 v s1 I1 m1 r1 iI q1=>eN (ho pins s1 σ H1 G1 x dx v Q I1.inv I1.ab r1 iI q1) fun _ _ z=>z.trans m1)
theorem Ej{op:CmpOp}{r:x4}(ho:lx X (cL op) r)(ha:eV X a ta)(hb:eV X b tb)(hm:zQ op b=false):eV X (.Compare a [op] [b] pos) (bG r ta tb):=by
 intro E pins s σ H τ G Q hE I h;exact wpAny_Compare1 (EY ha hb hE I h fun v u s2 x y dx dy H2 G2 i5 m rx ry dX dY q=>eN (ho pins s2 σ H2 G2 x y dx dy v u Q i5.inv i5.ab rx ry dX dY q) fun _ _ z=>z.trans m) hm
end
end K2
end
section
namespace K2
open PySem PySem.Spec PyProof.Rows L2
theorem OW{K:af}{H:Hp}{G:Gp}{x:V}{d:D}{k:Bool}(ab:kC K H G)(r:cb K H x d)(e:Ce d G=some k):(∃ p,x=.ref p/\Rd H p (.dT [])/\k=false)\/(∃ p kv,x=.ref p/\Rd H p (.dK kv)/\k=!kv.isEmpty)\/Od K x H k:=by
 have JF:∀ aY:List (D×D),(if (aY.all fun p=>dM p.1)=true then some (!aY.isEmpty) else none)=some k->∀ p,((∃ kv,Rd H p (.dK kv)/\mV K H kv aY)\/∃ kv,Rd H p (.dT kv)/\nB K H kv aY) ->
   (∃ p',V.ref p=.ref p'/\Rd H p' (.dT [])/\k=false)\/(∃ p' kv,V.ref p=.ref p'/\Rd H p' (.dK kv)/\k=!kv.isEmpty)\/Od K (.ref p) H k:=by
  intro aY e p z;by_cases ha:(aY.all fun p=>dM p.1)=true
  ·rw [if_pos ha] at e;cases e;rcases z with ⟨kv,hv,rs⟩ | ⟨kv,hv,rs⟩
   ·right; left;refine⟨p,kv,rfl,hv,?_⟩;cases rs <;> rfl
   ·left;cases rs with
    | nil=>exact⟨p,rfl,hv,rfl⟩
    | cons _ _=>simp [dM] at ha
  ·rw [if_neg ha] at e; cases e
 cases r with
 | cf=>right; right; cases e; rfl
 | bl b=>right; right; cases e; rfl
 | int i=>right; right; cases e; rfl
 | str y =>
  right; right;unfold Ce at e;dsimp only at e;by_cases h:y.length<=SZ
  ·rw [if_pos h] at e; cases e; exact⟨by rw [br]; exact h,rfl⟩
  ·rw [if_neg h] at e; cases e
 | tup h rs =>
  right; right;cases e;refine .inr (.inl ⟨_,.of h,?_⟩);cases rs <;> rfl
 | dq h rs =>
  right; right;cases e;refine .inl ⟨_,h.sq,?_⟩;cases rs <;> rfl
 | pO h rs=>exact JF _ e _ (.inl ⟨_,.inr ⟨_,h⟩,rs⟩)
 | pN h rs=>exact JF _ e _ (.inr ⟨_,.inr ⟨_,h⟩,rs⟩)
 | exc h=>simp [Ce] at e
 | Bh h _=>simp [Ce] at e
 | ref a =>
  unfold Ce at e;dsimp only at e;cases q:G a with
  | none=>rw [q] at e; cases e
  | some g =>
   rw [q] at e;have z:=ab a g q;cases g with
   | lst ds =>
    right; right;obtain⟨vs,hv,rs⟩:=z;cases e;refine .inl ⟨vs,.of hv,?_⟩;cases rs <;> rfl
   | ins _ _=>cases e
   | kB aY =>
    refine JF aY e a ?_;rcases z with ⟨kv,hv,rs⟩ | ⟨kv,hv,rs⟩
    ·exact .inl ⟨kv,.inl hv,rs⟩
    ·exact .inr ⟨kv,.inl hv,rs⟩
section
variable {X:Cx} {a b c:Expr} {ta tb tc:eU} {pos:Pos}
noncomputable def Qx(X:Cx):Prop:=∀ (pins:List (Addr×Obj)) (s:aj) (σ:L2.St) (H:Hp) (G:Gp) (x:V) (d:D) (v:Value) (k:Bool) (Q:Bool->aj->Prop),Inv X pins σ H s->kC X.K H G->RelV x v->cb X.K H x d->Ce d G=some k ->
  (∀ s',Inv X pins σ H s'->Q k s')->wpAny (model X.prog X.w) X.A (truthy v) Q X.xe s
theorem Hx:Qx X:=by
 intro pins s σ H G x d v k Q I ab rx rd e q;rcases OW ab rd e with ⟨p,rfl,hv,hk⟩ | ⟨p,kv,rfl,hv,hk⟩ | h
 ·obtain⟨z,hS,xs,rel,o,es,ep,ho,hx,FZ,hl,nd⟩:=hv.ok I.cz;have SX:xs=[]:=by cases rel; rfl
  subst SX;have he:es=#[]:=by simpa using hl
  subst he;cases rx;have dd:s.heap.DictOf (dI X.prog X.w) p []:=⟨o,#[],ep,ho,hx,FZ,(fun _ h=>by simp at h),.nil,fk⟩;refine BX hS dd (by simp) ?_;subst hk;exact q _ (I.tok _)
 ·cases rx;subst hk;exact LY I hv q
 ·exact eN (MK pins s σ H x v (fun k' H'=>k'=k/\H'=H) I rx ⟨k,h,rfl,rfl⟩) fun k' s' EH=>by
   obtain⟨H',I',e1,e2⟩:=EH;subst e1; subst e2; exact q s' I'
theorem fI(ha:eV X a ta)(he:autoParam (∀ whole,isTrue a X.env whole=(do let v ← whole; standAt a.pos; holding [v] (truthy v))) Ai._auto_1):DA X a (fP ta):=by
 intro E pins s σ H τ G Q hE I h;refine isTrue_plain (hZ ha hE I h fun x H1 d G1 v s1 I1 m1 r1 iI q1=>?_) (he _)
 try dsimp only at q1
 split at q1
 ·rename_i k e;exact Hx pins s1 σ H1 G1 x d v k _ I1.inv I1.ab r1 iI e fun s' I'=>⟨H1,G1,I',m1,q1⟩
 ·exact q1.elim
theorem dG{op:CmpOp}{r:x4}(ho:lx X (cL op) r)(ha:eV X a ta)(hb:eV X b tb)(hm:zQ op b=false):DA X (.Compare a [op] [b] pos) (fP (bG r ta tb)):=by
 intro E pins s σ H τ G Q hE I h;refine wpAny_isTrue_Compare1 (hZ ha hE I h fun x H1 dx G1 v s1 I1 m1 r1 iI q1=>hZ hb hE I1 q1 fun y H2 dy G2 u s2 i5 m2 r2 yu q2 =>
  eN (ho pins s2 σ H2 G2 x y dx dy v u _ i5.inv i5.ab r1 r2 (iI.mono (m2.kp I1.ab)) yu q2) ?_) hm
 rintro c s3 ⟨z,H3,dz,G3,I3,m3,r3,MY,q3⟩
 try dsimp only at q3
 split at q3
 ·rename_i k e;exact Hx pins s3 σ H3 G3 z dz c k _ I3 m3.ab r3 MY e fun s' I'=>⟨H3,G3,I',(m1.trans m2).trans m3,q3⟩
 ·exact q3.elim
variable {tA tB:tM} {rest:List Expr}
theorem Ku.pt{e:Expr}{t:tM}(h:Ku X e t):DA X e t:=fun E pins s σ H τ G Q hE I q=>h _ E pins s σ H τ G Q hE I q
theorem HA{pins:List (Addr×Obj)}{σ:L2.St}{H:Hp}{τ:fD}{G:Gp}{s:aj}{E:jY}{R:Bool->Gp->Prop}{Q:Bool->aj->Prop}(ha:DA X a tA)(hE:Lk X E)(I:I2 X pins σ H τ G s)(h:tA E τ G R)
  (k:∀ c H1 G1 s1,I2 X pins σ H1 τ G1 s1->Mv X.K H G H1 G1->R c G1->Q c s1):wpAny (model X.prog X.w) X.A (isTrue a X.env (eval a X.env)) Q X.xe s :=
 eN (ha E pins s σ H τ G R hE I h) (by rintro c s1 ⟨H1,G1,I1,m,q⟩; exact k c H1 G1 s1 (I.mv I1 m) m q)
theorem qN(ha:DA X a tA):Ku X (.BoolOp .Or [a] pos) tA:=by
 intro wh E pins s σ H τ G Q hE I h;refine isTrue_or (eN (ha E pins s σ H τ G Q hE I h) fun c s1 e=>?_);cases c with
 | false=>exact isTrue_or_nil e
 | true=>exact e
theorem sg(ha:DA X a tA)(hb:Ku X (.BoolOp .Or (b :: rest) pos) tB):Ku X (.BoolOp .Or (a :: b :: rest) pos) (zK tA tB):=by
 intro wh E pins s σ H τ G Q hE I h;refine isTrue_or (HA ha hE I h fun c H1 G1 s1 I1 m1 q1=>?_);cases c with
 | false=>exact eN (hb wh E pins s1 σ H1 τ G1 Q hE I1 (by simpa using q1)) fun _ _ z=>z.trans m1
 | true=>exact⟨H1,G1,I1.inv,m1,by simpa using q1⟩
theorem gq(ha:DA X a tA):DA X (.UnaryOp .Not a pos) (gK tA):=by
 intro E pins s σ H τ G Q hE I h;exact isTrue_not (eN (ha E pins s σ H τ G (fun c H1=>Q (!c) H1) hE I h) (by rintro c s' ⟨H',G',i,m,q⟩; exact⟨H',G',i,m,q⟩))
theorem Eh{op}{t:eU}(h:eV X a t):eV X (.BoolOp op [a] pos) t:=fun E pins s σ H τ G Q hE I hw=>BoolOp_one (h E pins s σ H τ G Q hE I hw)
theorem Ek(ha:eV X a ta)(hb:eV X (.BoolOp .And (b :: rest) pos) tb):eV X (.BoolOp .And (a :: b :: rest) pos) (Bv ta tb):=by
 intro E pins s σ H τ G Q hE I h;refine BoolOp_and (hZ ha hE I h fun x H1 d G1 v s1 I1 m1 r1 iI q1=>?_)
 try dsimp only at q1
 split at q1
 ·rename_i e;exact Hx pins s1 σ H1 G1 x d v true _ I1.inv I1.ab r1 iI e fun s' I'=>eN (hb E pins s' σ H1 τ G1 Q hE ⟨I',I1.st,I1.ab⟩ q1) fun _ _ z=>z.trans m1
 ·rename_i e;exact Hx pins s1 σ H1 G1 x d v false _ I1.inv I1.ab r1 iI e fun s' I'=>⟨x,H1,d,G1,I',m1,r1,iI,q1⟩
 ·exact q1.elim
theorem Lu(ha:eV X a ta):eV X (.UnaryOp .Not a pos) (JL ta):=by
 intro E pins s σ H τ G Q hE I h;refine UnaryOp_ (hZ ha hE I h fun x H1 d G1 v s1 I1 m1 r1 iI q1=>?_)
 try dsimp only at q1
 split at q1
 ·rename_i k e;exact not_of (Hx pins s1 σ H1 G1 x d v k _ I1.inv I1.ab r1 iI e fun s' I'=>⟨.bl (!k),H1,.bl (!k),G1,I',m1,rfl,.bl _,q1⟩)
 ·exact q1.elim
theorem Ij(hc:DA X c tA)(ha:eV X a ta)(hb:eV X b tb):eV X (.IfExp c a b pos) (Q7 tA ta tb):=by
 intro E pins s σ H τ G Q hE I h;refine wpAny_IfExp (HA hc hE I h fun d H1 G1 s1 I1 m1 q1=>?_);cases d with
 | true=>exact eN (ha E pins s1 σ H1 τ G1 Q hE I1 (by simpa using q1)) fun _ _ z=>z.trans m1
 | false=>exact eN (hb E pins s1 σ H1 τ G1 Q hE I1 (by simpa using q1)) fun _ _ z=>z.trans m1
variable {e:Expr} {es:List Expr} {te:eU} {t:BG}
theorem aL:E5 X [] bh:=fun _ _ _ _ _ H _ G Q _ I h=>wB ⟨[],H,[],G,I.inv,.refl I.ab,.nil,.nil,h⟩
theorem aB(ha:eV X e te)(hr:E5 X es t)(hs:autoParam (bQ (e :: es) X.env=(false,eval e X.env) :: bQ es X.env) Ar._auto_1):E5 X (e :: es) (aH te t):=by
 intro pos E pins s σ H τ G Q hE I h;rw [hs];show wpAny _ _ (x8 ((false,eval e X.env) :: i6 pos (bQ es X.env))) _ _ s;refine e9 (hZ ha hE I h fun x H1 d G1 u s1 I1 m1 r1 iI q1=>?_);exact eN (hr pos E pins s1 σ H1 τ G1 _ hE I1 q1) (by rintro us s2 ⟨xs,H2,ds,G2,i5,m2,r2,yu,q2⟩; exact⟨x :: xs,H2,d :: ds,G2,i5,m1.trans m2,.cons r1 r2,.cons (iI.mono (m2.kp I1.ab)) yu,q2⟩)
theorem zY{pins:List (Addr×Obj)}{σ:L2.St}{H:Hp}{τ:fD}{G:Gp}{s:aj}{E:jY}{R:List D->Gp->Prop}{Q:List Value->aj->Prop}(ha:E5 X es t)(pos:Pos)(hE:Lk X E)(I:I2 X pins σ H τ G s)(h:t E τ G R)
  (k:∀ vs H1 ds G1 us s1,I2 X pins σ H1 τ G1 s1->Mv X.K H G H1 G1->Vals vs us->aX X.K H1 vs ds->R ds G1->Q us s1):wpAny (model X.prog X.w) X.A (x8 (i6 pos (bQ es X.env))) Q X.xe s :=
 eN (ha pos E pins s σ H τ G R hE I h) (by rintro us s1 ⟨vs,H1,ds,G1,I1,m,r,rd,q⟩; exact k vs H1 ds G1 us s1 (I.mv I1 m) m r rd q)
theorem jO{x1}(h:E5 X es t):eV X (.Tuple es x1 pos) (lP t):=by
 intro E pins s σ H τ G Q hE I hq;refine wpAny_Tuple_spliced (zY h pos hE I hq ?_);rintro xs H1 ds G1 us s1 I1 m1 r rd ⟨z,q⟩;refine⟨by rw [<-r.length,rd.length,br]; exact z,?_⟩;have hf:H1 s1.heap.objs.size=none:=I1.inv.cz.fresh (ay _);refine⟨.ref s1.heap.objs.size,upd H1 s1.heap.objs.size (.tup xs),.tup ds,G1,I1.inv.laid (t':=s1.toks) (fun b u e=>aw _ e) (ay _) ?_,m1.trans (.Kr I1.ab hf),rfl,?_,q⟩
 ·exact⟨by rw [rd.length,br]; exact z,us,r,⟨_,aK _ rfl,rfl,_,rfl⟩⟩
 ·exact .tup cC (rd.mono (.new hf))
theorem kP(h:E5 X es t):eV X (.List es pos) (kn t):=by
 intro E pins s σ H τ G Q hE I hq;refine wpAny_List_spliced (zY h pos hE I hq ?_);rintro xs H1 ds G1 us s1 I1 m1 r rd ⟨z,q⟩;refine⟨by rw [<-r.length,rd.length,br]; exact z,?_⟩;have hf:H1 s1.heap.objs.size=none:=I1.inv.cz.fresh (ay _);refine⟨.ref s1.heap.objs.size,upd H1 s1.heap.objs.size (.lst xs),.ref _,cY G1 s1.heap.objs.size (.lst ds),I1.inv.laid (t':=s1.toks) (fun b u e=>aw _ e) (ay _) ?_,m1.trans (.wJ I1.ab hf rd),rfl,.ref _,q _ (I1.ab.free hf)⟩;exact⟨by rw [rd.length,br]; exact z,us,0,r,aK _ rfl⟩
noncomputable def cZ(K:af)(sp:oZ):Sp:=fun vs H Q _=>∃ ds G Q2,aX K H vs ds/\kC K H G/\sp ds G Q2 (fun _ _=>False)/\∀ d G' v H',Q2 d G'->Mv K H G H' G'->cb K H' v d->Q v H'
variable {k:Nat} {f:Addr} {fd:aG} {ps:List Str} {sp:oZ} {x:Str} {p:Pos} {r:List D->Gp->DK->Prop} {id:String}
theorem Il(F:fE X.prog X.w X.K X.mg X.base gW k f fd ps (cZ X.K sp))(hr:kr k X.A)(hg:Gl X x)(hm:X.mg x=some (.ref f))(hk:jB X.K (.ref f)=true)(hb:Binds X.K fd ps [])
  (ha:E5 X (e :: es) t) (FY:autoParam ((x == ("__debug__" : Str))=false) Ad._auto_1) (he:autoParam (bQ (e :: es) X.env=(false,eval e X.env) :: bQ es X.env) Ar._auto_1) (GV:autoParam ((i6 pos (bQ es X.env)).any (·.1)=false) Ar._auto_1) :
  eV X (.Call (.Name x p) (e :: es) [] pos) (fun E τ G Q=>bT (fun ds G1 Q1 _=>sp ds G1 Q1 fun _ _=>False) t E τ G Q):=by
 intro E pins s σ H τ G Q hE I h;refine gZ (uo I.inv hg hm ?_ FY);refine PySem.W.callWith_K (h₀:=X.base) I.inv.ok.mod.SK hk (zY ha pos hE I h fun vs H1 ds G1 us s1 I1 m1 r rd q=>⟨I1.inv.BV,?_⟩) he GV;refine eN (MU F hr hb .nil Pd I1.inv r (Q:=wX X.K H1 G1 Q) ?_) fun _ _ z=>(nA.of z).trans m1;rw [cW];exact⟨ds,G1,Q,rd,I1.ab,q,fun d G' v H' q' m' QI=>⟨d,G',m',QI,q'⟩⟩
theorem dH (hc:ly X (.builtin id) r) (hg:Gl X x) (hm:X.mg x=none) (hv:cS x=some (.builtin id)) (ha:E5 X (e :: es) t) (hn:autoParam (x≠"__name__") Ad._auto_1) (FY:autoParam ((x == ("__debug__" : Str))=false) Ad._auto_1)
  (he:autoParam (bQ (e :: es) X.env=(false,eval e X.env) :: bQ es X.env) Ar._auto_1) (GV:autoParam ((i6 pos (bQ es X.env)).any (·.1)=false) Ar._auto_1):eV X (.Call (.Name x p) (e :: es) [] pos) (lQ r t):=by
 intro E pins s σ H τ G Q hE I h;refine gZ (oq I.inv hg hm hv ?_ hn FY);exact iT (zY ha pos hE I h fun vs H1 ds G1 us s1 I1 m1 r1 iI q1=>eN (hc pins s1 σ H1 G1 vs ds us Q I1.inv I1.ab r1 iI q1) fun _ _ z=>z.trans m1) he GV
variable {st:Stmt} {Ub:List Stmt} {u v:gU}
theorem cy:t9 X [] cu:=fun _ _ _ σ H τ G _ _ I h=>uB ⟨σ,H,τ,G,I,.refl I.ab,h⟩
theorem aO(h1:DB X st u)(h2:t9 X Ub v):t9 X (st :: Ub) (cK u v):=by
 intro E pins s σ H τ G D hE I h;refine sP (eN (h1 E pins s σ H τ G { D with nx:=v E D } hE I h) fun f s1 q=>?_);cases f with
 | next =>
  obtain⟨g7,H',nF,G',I',m,q⟩:=q;exact eN (h2 E pins s1 g7 H' nF G' D hE I' q) fun _ _ z=>z.trans m
 | ret v=>exact q
 | brk=>exact q
 | cont=>exact q
theorem aQ(h1:DB X st u):t9 X [st] u:=by
 intro E pins s σ H τ G D hE I h;refine sP (eN (h1 E pins s σ H τ G D hE I h) fun f s1 q=>?_);cases f with
 | next=>exact uB q
 | ret v=>exact q
 | brk=>exact q
 | cont=>exact q
theorem bM(he:eV X e te):DB X (.Return (some e) pos) (cm te):=by
 intro E pins s σ H τ G D hE I h;exact wpAny_Return_some (eN (he E pins s σ H τ G _ hE I h) (by rintro v s1 ⟨x,H1,d,G1,I1,m,r1,rd,q1⟩; exact⟨x,σ,H1,d,G1,I1,m,r1,rd,q1⟩))
theorem dU{sa sb:List Stmt}(hc:DA X c tA)(ha:t9 X sa u)(hb:t9 X sb v):DB X (.If c sa sb pos) (eT tA u v):=by
 intro E pins s σ H τ G D hE I h;refine wpAny_If (HA hc hE I h fun d H1 G1 s1 I1 m1 q1=>?_);cases d with
 | true=>exact eN (ha E pins s1 σ H1 τ G1 D hE I1 (by simpa using q1)) fun _ _ z=>z.trans m1
 | false=>exact eN (hb E pins s1 σ H1 τ G1 D hE I1 (by simpa using q1)) fun _ _ z=>z.trans m1
noncomputable def GY(X:Cx)(target:Expr)(t:wj):Prop :=
 ∀ (E:jY) (pins:List (Addr×Obj)) (s:aj) (σ:L2.St) (H:Hp) (τ:fD) (G:Gp) (w:V) (d:D) (u:Value) (Q:fD->Gp->Prop),Lk X E->I2 X pins σ H τ G s->RelV w u->cb X.K H w d->t E d τ G Q ->
  wpAny (model X.prog X.w) X.A (Hj target X.env u) (fun _ s'=>∃ g7 H' nF G',I2 X pins g7 H' nF G' s'/\Mv X.K H G H' G'/\Q nF G') X.xe s
noncomputable def L8(X:Cx)(ts:List Expr)(t:zu):Prop :=
 ∀ (E:jY) (pins:List (Addr×Obj)) (s:aj) (σ:L2.St) (H:Hp) (τ:fD) (G:Gp) (ws:List V) (ds:List D) (us:List Value) (Q:fD->Gp->Prop),Lk X E->I2 X pins σ H τ G s->Vals ws us->aX X.K H ws ds->t E ds τ G Q ->
  wpAny (model X.prog X.w) X.A (assignInOrder ((v5 ts X.env).map (·.2)) us) (fun _ s'=>∃ g7 H' nF G',I2 X pins g7 H' nF G' s'/\Mv X.K H G H' G'/\Q nF G') X.xe s
theorem Ig{i:Nat}{x:Str}(hN:X.N.Nodup)(hi:X.N[i]?=some x)(hx:Loc X.env.scope x)(hf:autoParam (X.fn x=true\/X.env.scope.names.lookup x=some .local) Ao._auto_1):GY X (.Name x pos) (a6 i):=by
 intro E pins s σ H τ G w d u Q hE I r rd h;exact wpAny_assign_Name (uL I.inv hN hi hx r (fun s' I'=>⟨_,H,_,G,⟨I',I.st.set i rd,I.ab⟩,.refl I.ab,h⟩) hf)
theorem qO:L8 X [] vJ:=by
 intro E pins s σ H τ G ws ds us Q hE I r rd h;unfold vJ at h;split at h
 ·have e:=rd.zero;subst e;cases r;exact assignInOrder_nil ⟨σ,H,τ,G,I,.refl I.ab,h⟩
 ·exact h.elim
theorem gu{t:wj}{u:zu}(h1:GY X e t)(h2:L8 X es u)
  (hs:autoParam ((v5 (e :: es) X.env).map (·.2)=Hj e X.env :: (v5 es X.env).map (·.2)) Ar._auto_1):L8 X (e :: es) (jh t u):=by
 intro E pins s σ H τ G ws ds us Q hE I r rd h;unfold jh at h;split at h
 ·cases rd with
  | cons iI yu =>
   cases r with
   | cons r1 r2 =>
    rw [hs];refine assignInOrder_cons (eN (h1 E pins s σ H τ G _ _ _ _ hE I r1 iI h) ?_);rintro _ s1 ⟨QC,H1,mY,G1,I1,m1,q1⟩;exact eN (h2 E pins s1 QC H1 mY G1 _ _ _ Q hE I1 r2 (yu.mono (m1.kp I.ab)) q1) (by rintro _ _ ⟨RA,H2,pE,G2,i5,m2,q2⟩; exact⟨RA,H2,pE,G2,i5,m1.trans m2,q2⟩)
 ·exact h.elim
theorem uf{k:Nat}{t:zu}{n:Nat}(hc:X.calm=true)(h:L8 X es t)(WK:∀ E ds τ G Q,t E ds τ G Q->ds.length=n)
  (hn:autoParam ((v5 es X.env).length=n) Ar._auto_1) (CS:autoParam ((v5 es X.env).findIdx? (·.1)=none) Ar._auto_1):GY X (.Tuple es k pos) (wL t):=by
 intro E pins s σ H τ G w d u Q hE I r rd hw;unfold wL at hw;split at hw
 ·cases rd with
  | tup hq rs =>
   cases r;obtain⟨aZ,rv,ht,hz⟩:=I.inv.tuple (.of hq);refine assign_Tuple_tuple (I.inv.ok.hd hc) ht (by rw [hn,aF,<-rv.length,rs.length]; exact(WK _ _ _ _ _ hw).symm) CS fun h' hx=>?_;have I1:Inv X pins σ H { s with heap:=h' }:=I.inv.kept (t':=s.toks) fun b o e=>hx b o (bA (aI e)) e;exact h E pins _ σ H τ G _ _ _ Q hE ⟨I1,I.st,I.ab⟩ (by simpa using rv) rs hw
 ·exact hw.elim
theorem rh:∀ E ds τ G Q,vJ E ds τ G Q->ds.length=0:=by
 intro E ds τ G Q h;cases ds with
 | nil=>rfl
 | cons _ _=>exact h.elim
theorem Ga{t:wj}{u:zu}{n:Nat}(h:∀ E ds τ G Q,u E ds τ G Q->ds.length=n)(hm:∀ E d τ G (Q Q':fD->Gp->Prop),t E d τ G Q->(∀ nF G',Q nF G'->Q' nF G')->t E d τ G Q')(hx:∀ E d τ G,¬ t E d τ G fun _ _=>False) :
  ∀ E ds τ G Q,jh t u E ds τ G Q->ds.length=n+1:=by
 intro E ds τ G Q q;cases ds with
 | nil=>exact q.elim
 | cons d ds =>
  by_cases hl:ds.length=n
  ·rw [ak,hl]
  ·exact absurd (hm E d τ G _ (fun _ _=>False) q fun nF G' z=>hl (h _ _ _ _ _ z)) (hx E d τ G)
theorem Lo{tg:Expr}{g:wj}(he:eV X e te)(hg:GY X tg g)(hs:autoParam (swapsWithSole [tg] e pos.line X.env=pure false) Ar._auto_1)(hw:autoParam (swappedStores [tg] e X.env=pure none) Ar._auto_1)
  (h1:autoParam ((v5 [tg] X.env).map (·.2)=[Hj tg X.env]) Ar._auto_1):DB X (.Assign [tg] e pos) (c9 te g):=by
 intro E pins s σ H τ G D hE I h;refine wpAny_Assign_stores (hZ he hE I h fun x H1 d G1 v s1 I1 m1 r1 iI q1=>?_) hs hw;rw [h1];exact eN (hg E pins s1 σ H1 τ G1 x d v _ hE I1 r1 iI q1) (by rintro _ s2 ⟨RA,H2,pE,G2,i5,m2,q2⟩; exact⟨RA,H2,pE,G2,i5,m1.trans m2,q2⟩)
theorem Ln{i:Nat}{x:Str}{pos':Pos}(hN:X.N.Nodup)(hi:X.N[i]?=some x)(hx:Loc X.env.scope x)(he:eV X e te)(hs:autoParam (zO e (some (.Name x pos')) pos.line X.env=pure false) Ar._auto_1)(hf:autoParam (X.fn x=true\/X.env.scope.names.lookup x=some .local) Ao._auto_1) :
  DB X (.Assign [.Name x pos'] e pos) (c9 te (a6 i)):=by
 intro E pins s σ H τ G D hE I h;refine wpAny_Assign_Name (hZ he hE I h fun y H1 d G1 v s1 I1 m1 r1 iI q1=>?_) hs;exact uL I1.inv hN hi hx r1 (fun s2 i5=>⟨_,H1,_,G1,⟨i5,I1.st.set i iI,I1.ab⟩,m1,q1⟩) hf
theorem iq(he:eV X e te)(hs:autoParam (zO e none pos.line X.env=pure false) Ar._auto_1):DB X (.Expr e pos) (ft te):=by
 intro E pins s σ H τ G D hE I h;exact wpAny_Expr_any (hZ he hE I h fun y H1 d G1 v s1 I1 m1 r1 iI q1=>⟨σ,H1,τ,G1,I1,m1,q1⟩) I.inv.quiet hs
end
end K2
end
section
namespace K2
open PySem PySem.Spec PyProof.Rows L2
noncomputable def MC(K:af)(J:It)(H':Hp)(ds:List D)(ok:Gp->Prop):Prop :=
 ∀ i H1 G1,Kp H' H1->kC K H1 G1->ok G1->(∀ d,ds[i]?=some d->J.go i H1/\∀ x H2,J.T7 i H1 x H2->cb K H2 x d/\Mv K H1 G1 H2 G1)/\(ds.length<=i->J.stop i H1)
inductive DC (X:Cx) (pins:List (Addr×Obj)) (σ:L2.St) (tg:Expr) (H:Hp) (G:Gp) (R:List D->(Gp->Prop)->Gp->Prop) (Mp:Value) (s2:aj):Prop
 | mk (it:Addr) (fp:List Addr) (tn:Nat->Heap->Prop) (J:It) (H':Hp) (G':Gp) (ds:List D) (ok:Gp->Prop) (e:Mp=.ref it) (i:Inv X pins σ H' s2) (m:Mv X.K H G H' G') (T:Turn X.prog X.w X.K tg J fp it tn) (t0:tn 0 s2.heap) (f:∀ b∈fp,nH X pins H' b)
  (wk:MC X.K J H' ds ok) (q:R ds ok G'):DC X pins σ tg H G R Mp s2
noncomputable def Kv(X:Cx)(tg iter:Expr)(wi:Ks):Prop :=
 ∀ (E:jY) (pins:List (Addr×Obj)) (s:aj) (σ:L2.St) (H:Hp) (τ:fD) (G:Gp) (R:List D->(Gp->Prop)->Gp->Prop),Lk X E->I2 X pins σ H τ G s->wi E τ G R ->
  wpAny (model X.prog X.w) X.A (eval iter X.env) (fun v s1=>wpAny (model X.prog X.w) X.A (w6 v) (DC X pins σ tg H G R) X.xe s1) X.xe s
section
variable {X:Cx} {tg:Expr} {a b:Expr} {ta tb:eU} {pos p:Pos}
theorem Es{pins:List (Addr×Obj)}{σ:L2.St}{H H1:Hp}{G G1:Gp}{s1:aj}{l:Addr}{vs:List V}{ds:List D}{ok:Gp->Prop}{R:List D->(Gp->Prop)->Gp->Prop}(I1:Inv X pins σ H1 s1)(m:Mv X.K H G H1 G1)(hq:rL X.K H1 l vs)
  (hk:∀ H2 G2,Kp H1 H2->kC X.K H2 G2->ok G2->∃ ws,rL X.K H2 l ws/\aX X.K H2 ws ds) (q:R ds ok G1):wpAny (model X.prog X.w) X.A (w6 (.ref l)) (DC X pins σ tg H G R) X.xe s1:=by
 obtain⟨aZ,rv,pl,hz⟩:=I1.list hq;refine qf pl.isList ?_;refine⟨s1.heap.objs.size,[s1.heap.objs.size],_,_,H1,G1,ds,ok,rfl,I1.kept (t':=s1.toks) fun b o e=>aw _ e,m,Fe l _,⟨_,aK _ rfl,rfl,rfl⟩,fun b hb=>?_,fun i H2 G2 k ab o=>?_,q⟩
 ·have e:b=s1.heap.objs.size:=by simpa using hb
  subst e;exact I1.CZ (ay _) (I1.cz.fresh (ay _))
 ·obtain⟨ws,hw,rd⟩:=hk H2 G2 k ab o;refine⟨fun d hd=>?_,fun hl=>⟨ws,hw,by rw [rd.length]; exact hl⟩⟩;obtain⟨v,hv,r⟩:=rd.get hd;refine⟨⟨ws,v,hw,hv⟩,?_⟩;rintro x H3 ⟨e,y⟩;subst e;have:=y ws hw;rw [hv] at this;cases this;exact⟨r,.refl ab⟩
theorem MJ{pins:List (Addr×Obj)}{σ:L2.St}{H H1:Hp}{G G1:Gp}{s1:aj}{l:Addr}{vs:List V}{ds:List D}{R:List D->(Gp->Prop)->Gp->Prop}(I1:Inv X pins σ H1 s1)(m:Mv X.K H G H1 G1)(hq:t8 X.K H1 l vs)(rd:aX X.K H1 vs ds)
  (q:R ds (fun _=>True) G1):wpAny (model X.prog X.w) X.A (w6 (.ref l)) (DC X pins σ tg H G R) X.xe s1:=by
 obtain⟨aZ,rv,pl,hz⟩:=I1.tuple hq;refine zL (show s1.heap.IsTuple l aZ.toArray from pl) ?_;refine⟨s1.heap.objs.size,[s1.heap.objs.size],_,_,H1,G1,ds,_,rfl,I1.kept (t':=s1.toks) fun b o e=>aw _ e,m,Cc l _,⟨_,aK _ rfl,rfl,rfl⟩,fun b hb=>?_,fun i H2 G2 k ab _=>?_,q⟩
 ·have e:b=s1.heap.objs.size:=by simpa using hb
  subst e;exact I1.CZ (ay _) (I1.cz.fresh (ay _))
 ·have hw:=k.Vz hq;have yu:=rd.mono k;refine⟨fun d hd=>?_,fun hl=>⟨vs,hw,by rw [rd.length]; exact hl⟩⟩;obtain⟨v,hv,r⟩:=yu.get hd;refine⟨⟨vs,v,hw,hv⟩,?_⟩;rintro x H3 ⟨e,y⟩;subst e;have:=y vs hw;rw [hv] at this;cases this;exact⟨r,.refl ab⟩
theorem eZ(ha:eV X a ta):Kv X tg a (mD ta):=by
 intro E pins s σ H τ G R hE I h;refine hZ ha hE I h fun x H1 d G1 v s1 I1 m1 r1 iI q1=>?_;cases iI with
 | tup hq rs=>cases r1; exact MJ I1.inv m1 (.of hq) rs q1
 | dq hq rs=>cases r1; exact Es I1.inv m1 hq.sq (fun H2 G2 k ab _=>⟨_,(k.Oo hq).sq,rs.mono k⟩) q1
 | ref p =>
  cases r1;dsimp only at q1;split at q1
  ·rename_i ds e;obtain⟨vs,hv,rs⟩:=I1.ab.lst e;refine Es I1.inv m1 (.of hv) (fun H2 G2 k ab o=>?_) q1;obtain⟨ws,hw,qB⟩:=ab.lst o;exact⟨ws,.of hw,qB⟩
  ·exact q1.elim
 | pO _ _=>exact q1.elim
 | pN _ _=>exact q1.elim
 | cf=>exact q1.elim
 | bl _=>exact q1.elim
 | int _=>exact q1.elim
 | str _=>exact q1.elim
 | exc _=>exact q1.elim
 | Bh _ _=>exact q1.elim
theorem MW{pins:List (Addr×Obj)}{σ:L2.St}{H H1:Hp}{G G1:Gp}{s:aj}{R:List D->(Gp->Prop)->Gp->Prop}{lo hi:Int}{t u v:Tok}{tk:Nat}(I:Inv X pins σ H1 s)(m:Mv X.K H G H1 G1)(h1:-(2 ^ 62)<=lo)(h2:lo < 2 ^ 62)(h3:-(2 ^ 62)<=hi)(h4:hi < 2 ^ 62)
  (q:R (jy lo (hi - lo).toNat) (fun _=>True) G1):wpAny (model X.prog X.w) X.A (w6 (.ref s.heap.objs.size)) (DC X pins σ tg H G R) X.xe { s with heap:=s.heap.push { cls:=.type "range",data:=.fields #[.int lo t,.int hi u,.int 1 v] },toks:=tk }:=by
 refine eN (HY (tg:=tg) I h1 h2 h3 h4 (R:=fun J H'=>J=T4 lo (hi - lo).toNat/\H'=H1) ⟨rfl,rfl⟩) ?_;rintro Mp s2 ⟨it,fp,tn,J,H',e,i5,T,st,fo,eJ,eH⟩;subst eJ; subst eH;refine⟨it,fp,tn,_,H',G1,_,_,e,i5,m,T,st,fo,fun i H2 G2 k ab _=>⟨fun d hd=>?_,fun hl=>?_⟩,q⟩
 ·unfold jy at hd;rw [a5] at hd;cases CT:(bW (hi - lo).toNat)[i]? with
  | none=>rw [CT] at hd; cases hd
  | some j =>
   rw [CT] at hd;obtain⟨ni,ej⟩:=List.getElem?_eq_some_iff.mp CT;rw [fF] at ni;rw [nC] at ej;subst ej;cases hd;refine⟨ni,?_⟩;rintro x H3 ⟨e1,e2⟩;subst e1; subst e2;exact⟨.int _,.refl ab⟩
 ·unfold jy at hl;rw [ag,fF] at hl;exact hl
theorem uZ (hg:Gl X "range") (hm:X.mg "range" = none) (ha:eV X a ta) (hs:autoParam (bQ [a] X.env=[(false,eval a X.env)]) Ar._auto_1):Kv X tg (.Call (.Name "range" p) [a] [] pos) (EC ta):=by
 intro E pins s σ H τ G R hE I h;have hA:E5 X [a] (aH ta bh):=aB ha aL hs;refine Call_ (oq I.inv hg hm boot_range (fQ (zY hA pos hE I (R:=fun ds G1=>match ds with | [.int n]=>-(2 ^ 62)<=n/\n < 2 ^ 62/\R (jy 0 n.toNat) (fun _=>True) G1 | _=>False) ?_ fun vs H1 ds G1 us s1 I1 m1 r1 iI q1=>?_) hs rfl))
 ·show ta E τ G _;have e:(fun (x:D) (G1:Gp)=>match [x] with | [.int n]=>-(2 ^ 62)<=n/\n < 2 ^ 62/\R (jy 0 n.toNat) (fun _=>True) G1 | _=>False)=fun x G1=>match x with | .int n=>-(2 ^ 62)<=n/\n < 2 ^ 62/\R (jy 0 n.toNat) (fun _=>True) G1 | _=>False:=by
   funext x G1; cases x <;> rfl
  exact e ▸ h
 ·split at q1
  ·rename_i n;obtain⟨w,rfl,Ag⟩:=iI.one;cases Ag;obtain⟨u,rfl,ru⟩:=r1.one;obtain⟨t,rfl⟩:=ru;obtain⟨q1,q2,q⟩:=q1;exact call_range_1 (MW I1.inv m1 (by lia) (by lia) q1 q2 (by simpa using q))
  ·exact q1.elim
theorem gS{iter:Expr}{body:List Stmt}{wi:Ks}{g:wj}{t:gU}(hp:PassesOwn (model X.prog X.w) X.A X.env X.xe)(hc:X.calm=true)(hi:Kv X tg iter wi)(hg:GY X tg g)(hb:t9 X body t)
  (hs:autoParam (∀ x,k8 iter X.env x=pure x) Ai._auto_1):DB X (.For tg iter body [] pos) (jz wi g t):=by
 intro E pins s σ H τ G D hE I h;refine wpAny_For (eN (hi E pins s σ H τ G _ hE I h) fun v s1 h1=>eN h1 fun Mp s2 h2=>?_) hs;obtain⟨it,fp,tn,J,H2,G2,ds,ok,e,i5,m2,T,Me,f2,wk,q⟩:=h2;subst e;have MN:∀ {H':Hp},(∀ b∈fp,H' b=none)->∀ b∈fp,nH X pins H' b:=fun hn b hb=>⟨hn b hb,(f2 b hb).2⟩;refine codeAny_forLoop_any (fun n s'=>∃ i g7 H' nF G',I2 X pins g7 H' nF G' s'/\Mv X.K H G H' G'/\Kp H2 H'/\tn i s'.heap/\(∀ b∈fp,H' b=none)/\n=ds.length - i/\i<=ds.length/\nu g t ok (ds.drop i) E D nF G') ?_ ds.length
  ⟨0,σ,H2,τ,G2,I.mv i5 m2,m2,.refl _,Me,fun b hb=>(f2 b hb).1,rfl,bR _,q⟩
 rintro n s3 ⟨i,KJ,H3,MD,G3,I3,m3,k3,QG,U7,rfl,hle,w3⟩;by_cases ni:i < ds.length
 ·rw [cA ni] at w3;obtain⟨Pk,w3⟩:=w3;obtain⟨go,yl⟩:=(wk i H3 G3 k3 I3.ab Pk).1 ds[i] (by simp [ni]);refine ib hp (eN (T.item X rfl rfl rfl hc i pins s3 KJ H3 X.xe I3.inv (MN U7) QG go) ?_);rintro r s4 ⟨u,hr,h4⟩;subst hr;refine ib hp (eN h4 ?_);rintro _ s5 ⟨x,H5,I5,r5,y5,RK,Xe⟩;obtain⟨RT,m5⟩:=yl x H5 y5;have Yr:=I5.pinned (MN Xe) (T.obj _ _ RK);have J5:I2 X (pins++n8 fp s5.heap) KJ H5 MD G3 s5:=⟨Yr,I3.st.mono (m5.kp I3.ab),m5.ab⟩;refine ib hp (eN (hg E _ s5 KJ H5 MD G3 x ds[i] u _ hE J5 r5 RT w3) ?_);rintro _ s6 ⟨Vp,H6,Vo,G6,I6,m6,q6⟩;refine ib hp (eN (hb E _ s6 Vp H6 Vo G6 _ hE I6 q6) fun f s7 q7=>?_);have again:∀ {GR:L2.St} {H7:Hp} {GQ:fD} {G7:Gp},I2 X (pins++n8 fp s5.heap) GR H7 GQ G7 s7->Mv X.K H6 G6 H7 G7->nu g t ok (ds.drop (i+1)) E D GQ G7 ->
    ∃ m,m < ds.length - i/\∃ i g7 H' nF G',I2 X pins g7 H' nF G' s7/\Mv X.K H G H' G'/\Kp H2 H'/\tn i s7.heap/\(∀ b∈fp,H' b=none)/\m=ds.length - i/\i<=ds.length/\nu g t ok (ds.drop i) E D nF G':=fun {GR H7 GQ G7} I7 m7 n7=>by
   have mm:=m5.trans (m6.trans m7);refine⟨ds.length - (i+1),by lia,i+1,GR,H7,GQ,G7,⟨I7.inv.qm,I7.st,I7.ab⟩,m3.trans mm,k3.trans (mm.kp I3.ab),T.keep _ _ _ RK fun b hb o e=>(I7.inv.pin (b,o) (cq _ (cq _ (mx hb e)))).1,fun b hb=>?_,rfl,ni,n7⟩;obtain⟨o,e,d⟩:=T.obj _ _ RK b hb;exact(I7.inv.pin (b,o) (cq _ (cq _ (mx hb e)))).2.1
  cases f with
  | next=>obtain⟨GR,H7,GQ,G7,I7,m7,n7⟩:=q7; exact again I7 m7 n7
  | cont=>obtain⟨GR,H7,GQ,G7,I7,m7,n7⟩:=q7; exact again I7 m7 n7
  | brk=>obtain⟨GR,H7,GQ,G7,I7,m7,q7⟩:=q7; exact⟨GR,H7,GQ,G7,⟨I7.inv.qm,I7.st,I7.ab⟩,m3.trans (m5.trans (m6.trans m7)),q7⟩
  | ret v=>obtain⟨x7,GR,H7,d7,G7,I7,m7,r7,VJ,q7⟩:=q7; exact⟨x7,GR,H7,d7,G7,I7.qm,m3.trans (m5.trans (m6.trans m7)),r7,VJ,q7⟩
 ·have hn:ds.length<=i:=by lia
  rw [jK hn] at w3;obtain⟨Pk,qn⟩:=w3;have stop:=(wk i H3 G3 k3 I3.ab Pk).2 hn;refine ib hp (eN (T.done X rfl rfl rfl hc i pins s3 KJ H3 X.xe I3.inv (MN U7) QG stop) ?_);rintro r s4 ⟨hr,I4⟩;subst hr;exact uB ⟨KJ,H3,MD,G3,⟨I4,I3.st,I3.ab⟩,m3,qn⟩
theorem FE{c:Expr}{body:List Stmt}{tc:tM}{t:gU}(hp:PassesOwn (model X.prog X.w) X.A X.env X.xe)(hc:DA X c tc)(hb:t9 X body t):DB X (.While c body [] pos) (JK tc t):=by
 intro E pins s σ H τ G D hE I h;obtain⟨n0,w0⟩:=h;refine wpAny_While (codeAny_whileLoop (fun n s'=>∃ g7 H' nF G',I2 X pins g7 H' nF G' s'/\Mv X.K H G H' G'/\zU tc t n E D nF G') ?_ n0 ⟨σ,H,τ,G,I,.refl I.ab,w0⟩);rintro n s1 ⟨QC,H1,mY,G1,I1,m1,w1⟩;cases n with
 | zero=>exact w1.elim
 | succ n =>
  refine ib hp (HA hc hE I1 w1 fun b H2 G2 s2 i5 m2 q2=>?_);cases b with
  | true =>
   rw [if_pos rfl] at q2 ⊢;refine ib hp (eN (hb E pins s2 QC H2 mY G2 _ hE i5 q2) fun f s3 q3=>?_);cases f with
   | next=>obtain⟨KJ,H3,MD,G3,I3,m3,n3⟩:=q3; exact⟨n,k9 _,KJ,H3,MD,G3,I3,m1.trans (m2.trans m3),n3⟩
   | cont=>obtain⟨KJ,H3,MD,G3,I3,m3,n3⟩:=q3; exact⟨n,k9 _,KJ,H3,MD,G3,I3,m1.trans (m2.trans m3),n3⟩
   | brk=>exact q3.trans (m1.trans m2)
   | ret v=>exact q3.trans (m1.trans m2)
  | false =>
   rw [if_neg fi] at q2 ⊢;exact uB ⟨QC,H2,mY,G2,i5,m1.trans m2,q2⟩
end
end K2
end
section
namespace K2
open PySem PySem.Spec PyProof.Rows L2
theorem yp(n d:Nat)(o:Option Int):HT.gR n d o=gR n d o:=by cases o <;> rfl
theorem aX.cut{K:af}{H:Hp}{vs:List V}{ds:List D}(r:aX K H vs ds)(lo hi:Option Int):aX K H (By vs lo hi) (K2.cut ds lo hi):=by
 unfold By K2.cut;rw [yp,yp,r.length];exact(r.drop _).take _
theorem aX.nK{K:af}{H:Hp}{vs:List V}{ds:List D}{i:Int}{d:D}(r:aX K H vs ds)(h:K2.nK ds i=some d):∃ v,L2.nK vs i=some v/\cb K H v d:=by
 unfold K2.nK at h;cases e:K2.GU ds.length i with
 | none=>rw [e] at h; cases h
 | some j =>
  rw [e] at h;obtain⟨v,h1,h2⟩:=r.get (show ds[j]?=some d from h);refine⟨v,?_,h2⟩;show (L2.GU vs.length i).bind _=_;have e':L2.GU vs.length i=some j:=by rw [r.length]; exact e
  rw [e'];exact h1
section
variable {X:Cx} {a b c e:Expr} {ta tb tc te:eU} {pos p2:Pos}
theorem iS{pins:List (Addr×Obj)}{s:aj}{σ:L2.St}{H:Hp}{G:Gp}{x:V}{d:D}{v:Value}{zs:List D}(I:Inv X pins σ H s)(ab:kC X.K H G)(rx:RelV x v)(rd:cb X.K H x d)(hi:oj d G=some zs) :
  ∃ l vs aZ,v=.ref l/\Vals vs aZ/\aX X.K H vs zs/\s.heap.IsList l aZ.toArray/\vs.length<=aT:=by
 cases rd with
 | dq hq rs =>
  cases hi;cases rx;obtain⟨aZ,rv,pl,hz⟩:=I.list hq.sq;exact⟨_,_,aZ,rfl,rv,rs,pl.isList,hz⟩
 | ref l =>
  unfold oj at hi;dsimp only at hi;cases hg:G l with
  | none=>rw [hg] at hi; cases hi
  | some gg =>
   rw [hg] at hi;cases gg with
   | lst ds =>
    cases hi;cases rx;obtain⟨vs,hv,rs⟩:=ab.lst hg;obtain⟨aZ,rv,pl,hz⟩:=I.list (.of hv);exact⟨_,_,aZ,rfl,rv,rs,pl.isList,hz⟩
   | ins _ _=>cases hi
   | kB _=>cases hi
 | _=>cases hi
theorem iO{pins:List (Addr×Obj)}{s:aj}{σ:L2.St}{H:Hp}(I:Inv X pins σ H s){m:Str->Option Value}(F0:Fr X.base X.env.locals s.heap m){h':Heap}(F:Fr X.base X.env.locals h' m)(N:News X.base X.env.locals h' (mU X.base s.heap X.env.locals)) :
  (∀ b o,b≠X.env.locals->s.heap.get? b=some o->h'.get? b=some o)/\∀ m',s.heap.Ns X.env.locals m'->h'.Ns X.env.locals m':=by
 refine⟨fun b o hb e=>?_,fun m' hm=>?_⟩
 ·cases q:X.base.get? b with
  | some u =>
   have:=I.bk b u q;rw [e] at this; cases this;exact F.keep b _ q
  | none=>exact(N (b,o) (jd hb q e)).1
 ·have e1:=hm.eq_nsMap;have e2:=F0.ns.eq_nsMap;rw [e1,<-e2]; exact F.ns
theorem lH{P:bx}{w:World}{H:Hp}{h:Heap}{a:Addr}:∀ {o:HO},fN P w H h a o->∃ ob,h.get? a=some ob:=by
 intro o x;cases o with
 | lst _=>obtain⟨_,_,_,_,e⟩:=x; exact⟨_,e⟩
 | tup _=>obtain⟨_,_,_,ob,e,_⟩:=x; exact⟨ob,e⟩
 | dK _=>obtain⟨_,_,_,_,ob,_,_,e,_⟩:=x; exact⟨ob,e⟩
 | dT _=>obtain⟨_,_,_,_,ob,_,_,e,_⟩:=x; exact⟨ob,e⟩
 | set _ _=>obtain⟨ob,_,_,_,e,_⟩:=x; exact⟨ob,e⟩
 | ins _ _ _=>obtain⟨_,_,_,e,_⟩:=x; exact⟨_,e⟩
 | own _=>exact x
 | xd _=>obtain⟨_,⟨ob,_,_,e,_⟩,_⟩:=x; exact⟨ob,e⟩
 | met _ _=>exact⟨_,x⟩
 | QH _ _=>obtain⟨_,_,_,e⟩:=x; exact⟨_,e⟩
 | kh _ _=>exact⟨_,x.1⟩
 | Md _=>obtain⟨_,e,_⟩:=x; exact⟨_,e⟩
 | ext _=>exact x.2.1
theorem rm{P:bx}{w:World}{H:Hp}{h:Heap}{a:Addr}(ok:qc P w H h)(e:h.get? a=none):H a=none:=by
 cases q:H a with
 | none=>rfl
 | some o =>
  obtain⟨ob,z⟩:=lH (ok a o q);rw [e] at z; cases z
theorem Inv.AV{pins:List (Addr×Obj)}{s:aj}{σ:L2.St}{H:Hp}(I:Inv X pins σ H s){h':Heap}{t':Nat}{a:Addr}{o:HO}(k:∀ b o,b≠X.env.locals->s.heap.get? b=some o->h'.get? b=some o)(ns:∀ m',s.heap.Ns X.env.locals m'->h'.Ns X.env.locals m')
  (hp:s.heap.get? a=none) (new:fN X.prog X.w (upd H a o) h' a o):Inv X pins σ (upd H a o) { s with heap:=h',toks:=t' }:=by
 have hn:H a=none:=rm I.cz hp;have ne:∀ b u,H b=some u->b≠a:=fun b u e=>cU e hn;have nL:∀ b u,H b=some u->b≠X.env.locals:=fun b u e=>cU e I.free;have ht:∀ b u,s.heap.get? b=some u->b≠a:=fun b u e z=>by subst z; rw [hp] at e; cases e
 have Vx:∃ o',h'.get? X.env.locals=some o':=by
  obtain⟨m,hm,_⟩:=I.loc;obtain⟨o',_,_,ho,_⟩:=ns m hm;exact⟨o',ho⟩
 refine I.step (g':=s.gens) (d':=s.drawn) (ch:=[]) (fun b hb=>absurd hb (by simp)) (fun b o hL _ _ e _=>k b o hL e) (fun b o hL _ _ e _=>⟨o.slots,k b o hL e⟩) (fun b o _ e n=>by rw [bI (ht b o e)]; exact n)
  (fun b o _ e=>?_) (fun b xs e=>by rw [bI (ne _ _ e)]; exact e) (fun b o u e=>by rw [bI (ne _ _ e)]; exact e) (fun b ps e=>by rw [bI (ne _ _ e)]; exact e) (fun b ps e=>by rw [bI (ne _ _ e)]; exact e) ns (fun b u e=>?_) I.bare
 ·by_cases hb:b=X.env.locals
  ·rw [hb]; exact Vx
  ·exact⟨o,k b o hb e⟩
 ·by_cases hb:b=a
  ·subst hb; rw [cC] at e; cases e; exact new
  ·rw [bI hb] at e;refine(I.cz b u e).la (fun c v hc r=>k c v ?_ r) (fun c z=>by rw [bI (ne _ _ z)]; exact z) (fun c xs z=>by rw [bI (ne _ _ z)]; exact z);rcases hc with rfl | hc
   ·exact nL _ _ e
   ·exact nL _ _ hc
theorem kQ:lx X (g4 .Add) o8:=by
 intro pins s σ H G x y dx dy v u Q I ab rx ry dX dY q;have lists:zt dx dy G Q->wpAny (model X.prog X.w) X.A (g4 .Add v u) (nA X pins σ H G Q) X.xe s:=by
  intro q;unfold zt at q;split at q
  ·rename_i xs ys e1 e2;obtain⟨hz,q⟩:=q;obtain⟨l,vs,aZ,rfl,rv,rs,hl,_⟩:=iS I ab rx dX e1;obtain⟨b,ws,sx,rfl,Mf,Ld,hb,_⟩:=iS I ab ry dY e2;obtain⟨m,F0⟩:=I.fr;have hsz:aZ.length+sx.length<=aT:=by rw [<-rv.length,<-Mf.length,rs.length,Ld.length,br]; exact hz
   refine PyProof.Rows.add_lists F0 qP hl hb (fun h' F N=>?_) hsz;obtain⟨kk,ns⟩:=iO I F0 F fun p hp=>N p (au _ hp);have hp:H s.heap.objs.size=none:=I.cz.fresh (ay _);refine⟨.ref s.heap.objs.size,upd H s.heap.objs.size (.lst (vs++ws)),.ref _,_,Inv.AV (t':=s.toks) I kk ns (KH (ay _)) ?_,.wJ ab hp (rs.append Ld),rfl,.ref _,q _ (ab.free hp)⟩;exact⟨by rw [aM,rv.length,Mf.length]; exact hsz,aZ++sx,0,rv.append Mf,(N _ a7).1⟩
  ·exact q.elim
 cases dX with
 | int i =>
  cases dY with
  | int j=>exact eN (Nh pins s σ H _ _ v u (wX X.K H G Q) I rx ry ⟨i,j,rfl,rfl,_,_,.refl ab,.int _,q⟩) fun _ _ z=>.of z
  | _=>exact lists q
 | str i =>
  cases dY with
  | str j =>
   obtain⟨hz,q⟩:=q;exact eN (CA pins s σ H _ _ v u (wX X.K H G Q) I rx ry ⟨i,j,rfl,rfl,by rw [br]; exact hz,_,_,.refl ab,.str _,q⟩) fun _ _ z=>.of z
  | _=>exact lists q
 | tup h1 r1 =>
  cases dY with
  | tup h2 r2 =>
   obtain⟨hn,hz,q⟩:=q;refine eN (LB pins s σ H _ _ v u (wX X.K H G Q) I rx ry ⟨_,_,_,_,rfl,rfl,.of h1,.of h2,?_,?_,fun e=>?_,fun e p hp=>?_⟩) fun _ _ z=>.of z
   ·rintro rfl; cases r1; exact hn rfl
   ·rw [r1.length,r2.length,br]; exact hz
   ·subst e;cases r2;rw [cW] at q;exact⟨_,_,.refl ab,.tup h1 r1,q⟩
   ·exact⟨_,_,.Kr ab hp,.tup cC ((r1.append r2).mono (.new hp)),q⟩
  | _=>exact lists q
 | ref l=>exact lists (by rw [kc] at q; exact q)
 | dq _ _=>exact lists (by rw [kb] at q; exact q)
 | _=>exact lists (by cases dY <;> exact q)
theorem LC:lx X (g4 .Sub) MZ:=by
 intro pins s σ H G x y dx dy v u Q I ab rx ry dX dY q;cases dX with
 | int i =>
  cases dY with
  | int j=>exact eN (Nc pins s σ H _ _ v u (wX X.K H G Q) I rx ry ⟨i,j,rfl,rfl,_,_,.refl ab,.int _,q⟩) fun _ _ z=>.of z
  | _=>exact bB q
 | _=>exact bB q
theorem uh:lx X (g4 .Mult) Fy:=by
 intro pins s σ H G x y dx dy v u Q I ab rx ry dX dY q;cases dX with
 | int i =>
  cases dY with
  | int j=>exact eN (Nd pins s σ H _ _ v u (wX X.K H G Q) I rx ry ⟨i,j,rfl,rfl,q.1,_,_,.refl ab,.int _,q.2⟩) fun _ _ z=>.of z
  | _=>exact bB q
 | _=>exact bB q
theorem ix:lx X (g4 .Mod) qL:=by
 intro pins s σ H G x y dx dy v u Q I ab rx ry dX dY q;cases dX with
 | int i =>
  cases dY with
  | int j=>exact eN (Nf pins s σ H _ _ v u (wX X.K H G Q) I rx ry ⟨i,j,rfl,rfl,q.1,_,_,.refl ab,.int _,q.2⟩) fun _ _ z=>.of z
  | _=>exact bB q
 | _=>exact bB q
theorem vb:lx X (g4 .FloorDiv) Av:=by
 intro pins s σ H G x y dx dy v u Q I ab rx ry dX dY q;cases dX with
 | int i =>
  cases dY with
  | int j=>exact eN (LA pins s σ H _ _ v u (wX X.K H G Q) I rx ry ⟨i,j,rfl,rfl,⟨q.1,q.2.1⟩,_,_,.refl ab,.int _,q.2.2⟩) fun _ _ z=>.of z
  | _=>exact bB q
 | _=>exact bB q
theorem Ip(hu:X.A.units < cLine):lx X (cL .Lt) QJ:=by
 intro pins s σ H G x y dx dy v u Q I ab rx ry dX dY q;cases dX with
 | int i =>
  cases dY with
  | int j=>exact eN (Pf pins s σ H _ _ v u (wX X.K H G Q) I rx ry ⟨i,j,rfl,rfl,_,_,.refl ab,.bl _,q⟩) fun _ _ z=>.of z
  | _=>exact bB q
 | tup h1 r1 =>
  cases dY with
  | tup h2 r2 =>
   obtain⟨xs,ys,e1,e2,q⟩:=q;subst e1 e2;have z1:=r1.ints;have z2:=r2.ints;subst z1 z2;have el:∀ xs ys:List Int,HT.lexLt xs ys=K2.lexLt xs ys:=by
    intro xs;induction xs with
    | nil=>intro ys; cases ys <;> rfl
    | cons x xs ih=>intro ys; cases ys with
     | nil=>rfl
     | cons y ys=>unfold HT.lexLt K2.lexLt; rw [ih]
   exact eN (Ng hu pins s σ H _ _ v u (wX X.K H G Q) I rx ry ⟨_,_,xs,ys,rfl,rfl,.of h1,.of h2,_,_,.refl ab,.bl _,by rw [el]; exact q⟩) fun _ _ z=>.of z
  | _=>exact bB q
 | _=>exact bB q
theorem sk:lx X (cL .LtE) Ml:=by
 intro pins s σ H G x y dx dy v u Q I ab rx ry dX dY q;cases dX with
 | int i =>
  cases dY with
  | int j=>exact eN (Pg pins s σ H _ _ v u (wX X.K H G Q) I rx ry ⟨i,j,rfl,rfl,_,_,.refl ab,.bl _,q⟩) fun _ _ z=>.of z
  | _=>exact bB q
 | _=>exact bB q
theorem Nj:lx X (cL .Gt) RZ:=by
 intro pins s σ H G x y dx dy v u Q I ab rx ry dX dY q;cases dX with
 | int i =>
  cases dY with
  | int j=>exact eN (Ph pins s σ H _ _ v u (wX X.K H G Q) I rx ry ⟨i,j,rfl,rfl,_,_,.refl ab,.bl _,q⟩) fun _ _ z=>.of z
  | _=>exact bB q
 | _=>exact bB q
mutual
noncomputable def pd:D->PyData
 | .cf=>.none
 | .bl b=>.bool b
 | .int i=>.int i
 | .str x=>.str x
 | .tup ds=>.tuple (jD ds)
 | .dq ds=>.list (jD ds)
 | .p8 _=>.none
 | .exc _=>.none
 | .Bh _ _ _=>.none
 | .ref _=>.none
noncomputable def jD:List D->List PyData
 | []=>[]
 | d :: r=>pd d :: jD r
end
mutual
theorem pU:∀ (s t:D),nr s=true->nr t=true->qh (pd s) (pd t)=fM s t
 | .cf,t,_,ht=>by cases t <;> first | rfl | (exact bo (show false=true from ht))
 | .bl a,t,_,ht=>by cases t <;> first | rfl | (exact bo (show false=true from ht))
 | .int a,t,_,ht=>by cases t <;> first | rfl | (exact bo (show false=true from ht))
 | .str a,t,_,ht=>by cases t <;> first | rfl | (exact bo (show false=true from ht))
 | .tup a,t,hs,ht=>by
  cases t with
  | tup b=>exact zb a b hs ht
  | ref _=>exact bo (show false=true from ht)
  | exc _=>exact bo (show false=true from ht)
  | Bh _ _ _=>exact bo (show false=true from ht)
  | p8 _=>exact bo (show false=true from ht)
  | _=>rfl
 | .dq a,t,hs,ht=>by
  cases t with
  | dq b=>exact zb a b hs ht
  | ref _=>exact bo (show false=true from ht)
  | exc _=>exact bo (show false=true from ht)
  | Bh _ _ _=>exact bo (show false=true from ht)
  | p8 _=>exact bo (show false=true from ht)
  | _=>rfl
 | .ref _,_,hs,_=>bo (show false=true from hs)
 | .exc _,_,hs,_=>bo (show false=true from hs)
 | .Bh _ _ _,_,hs,_=>bo (show false=true from hs)
 | .p8 _,_,hs,_=>bo (show false=true from hs)
theorem zb:∀ (s t:List D),nh s=true->nh t=true->PyData.eqvAll (jD s) (jD t)=ji s t
 | [],[],_,_=>rfl
 | [],_ :: _,_,_=>rfl
 | _ :: _,[],_,_=>rfl
 | a :: r,b :: t,hs,ht=>by
  have Oy:nr a=true/\nh r=true:=(h8).mp hs;have Mq:nr b=true/\nh t=true:=(h8).mp ht;show (qh (pd a) (pd b)&&PyData.eqvAll (jD r) (jD t))=(fM a b&&ji r t);rw [pU a b Oy.1 Mq.1,zb r t Oy.2 Mq.2]
end
mutual
theorem iz:∀ (s:D),nr s=true->(pd s).canLay0=true
 | .cf,_=>rfl
 | .bl a,_=>rfl
 | .int a,_=>rfl
 | .str a,h=>h
 | .tup a,h=>qX a h
 | .dq a,h=>qX a h
 | .exc _,_=>rfl
 | .Bh _ _ _,_=>rfl
 | .ref _,_=>rfl
 | .p8 _,_=>rfl
theorem qX:∀ (s:List D),nh s=true->PyData.canLayAll0 (jD s)=true
 | [],_=>rfl
 | a :: r,h=>by
  have h':nr a=true/\nh r=true:=(h8).mp h;show ((pd a).canLay0&&PyData.canLayAll0 (jD r))=true;rw [iz a h'.1,qX r h'.2]; rfl
end
theorem vS{G:Gp}{n:Nat}{d t:D}(h:Sn G n d t):(pd t).depth<=n:=by
 induction h with
 | cf=>exact bR _
 | bl b=>exact bR _
 | int i=>exact bR _
 | str x h=>exact bR _
 | Cf=>exact p6 (bR _)
 | nW _ _ IY IX =>
  exact p6 (Nat.max_le.mpr ⟨IY,qj IX⟩)
 | Fx=>exact p6 (bR _)
 | xt _ _ IY IX =>
  exact p6 (Nat.max_le.mpr ⟨IY,qj IX⟩)
 | ref _ _ ih=>exact ih
theorem fH{pins:List (Addr×Obj)}{σ:L2.St}{H:Hp}{s:aj}{G:Gp}(I:Inv X pins σ H s)(ab:kC X.K H G){n:Nat}{d t:D}(h:Sn G n d t) :
  (∀ v u,cb X.K H v d->RelV v u->∃ as,Reads s.heap u (pd t) as) /\
  (∀ ds ss,(d=.dq ds/\t=.dq ss)\/(d=.tup ds/\t=.tup ss)->∀ vs us,aX X.K H vs ds->Vals vs us->∃ as,fh s.heap us (jD ss) as):=by
 have Mc:∀ {ds ss:List D},(∀ vs us,aX X.K H vs ds->Vals vs us->∃ as,fh s.heap us (jD ss) as)->∀ v u,cb X.K H v (.tup ds)->RelV v u->∃ as,Reads s.heap u (pd (.tup ss)) as:=by
  intro ds ss k v u r ru;cases r with
  | tup hq rs =>
   cases ru;obtain⟨aZ,rv,⟨o,ho,hc,n,hd⟩,hz⟩:=I.tuple (.of hq);obtain⟨as,ra⟩:=k _ aZ rs rv;exact⟨as,.tuple ho hc hd (by simpa using ra)⟩
 have Mh:∀ {ds ss:List D},(∀ vs us,aX X.K H vs ds->Vals vs us->∃ as,fh s.heap us (jD ss) as)->∀ v u,cb X.K H v (.dq ds)->RelV v u->∃ as,Reads s.heap u (pd (.dq ss)) as:=by
  intro ds ss k v u r ru;cases r with
  | dq hq rs =>
   cases ru;obtain⟨aZ,rv,pl,hz⟩:=I.list hq.sq;obtain⟨o,ho,hc,n,hd⟩:=pl.isList;obtain⟨as,ra⟩:=k _ aZ rs rv;exact⟨_,.list ho hc hd (by simpa using ra)⟩
 induction h with
 | cf=>exact⟨fun v u r ru=>by cases r; cases ru; exact⟨_,.none⟩,fun ds ss e=>by rcases e with ⟨e,_⟩ | ⟨e,_⟩ <;> cases e⟩
 | bl b=>exact⟨fun v u r ru=>by cases r; cases ru; exact⟨_,.bool b⟩,fun ds ss e=>by rcases e with ⟨e,_⟩ | ⟨e,_⟩ <;> cases e⟩
 | int i=>exact⟨fun v u r ru=>by cases r; obtain⟨t,rfl⟩:=ru; exact⟨_,.int i t⟩,fun ds ss e=>by rcases e with ⟨e,_⟩ | ⟨e,_⟩ <;> cases e⟩
 | str x hx=>exact⟨fun v u r ru=>by cases r; obtain⟨t,rfl⟩:=ru; exact⟨_,.str x t⟩,fun ds ss e=>by rcases e with ⟨e,_⟩ | ⟨e,_⟩ <;> cases e⟩
 | Cf =>
  have k:∀ vs us,aX X.K H vs []->Vals vs us->∃ as,fh s.heap us (jD []) as:=fun vs us r ru=>by
   have e:=r.zero;subst e;cases ru;exact⟨_,.nil⟩
  refine⟨Mc k,fun ds ss e=>?_⟩;rcases e with ⟨e,_⟩ | ⟨e,e2⟩
  ·cases e
  ·cases e; cases e2; exact k
 | nW h1 h2 IY IX =>
  have k2:=IX.2 _ _ (.inr ⟨rfl,rfl⟩);have k:∀ vs us,aX X.K H vs (_ :: _)->Vals vs us->∃ as,fh s.heap us (jD (_ :: _)) as:=fun vs us r ru=>by
   cases r with
   | cons r1 r2 =>
    cases ru with
    | cons u1 u2 =>
     obtain⟨as,ra⟩:=IY.1 _ _ r1 u1;obtain⟨bs,rb⟩:=k2 _ _ r2 u2;exact⟨_,.cons ra rb⟩
  refine⟨Mc k,fun ds ss e=>?_⟩;rcases e with ⟨e,_⟩ | ⟨e,e2⟩
  ·cases e
  ·cases e; cases e2; exact k
 | Fx =>
  have k:∀ vs us,aX X.K H vs []->Vals vs us->∃ as,fh s.heap us (jD []) as:=fun vs us r ru=>by
   have e:=r.zero;subst e;cases ru;exact⟨_,.nil⟩
  refine⟨Mh k,fun ds ss e=>?_⟩;rcases e with ⟨e,e2⟩ | ⟨e,_⟩
  ·cases e; cases e2; exact k
  ·cases e
 | xt h1 h2 IY IX =>
  have k2:=IX.2 _ _ (.inl ⟨rfl,rfl⟩);have k:∀ vs us,aX X.K H vs (_ :: _)->Vals vs us->∃ as,fh s.heap us (jD (_ :: _)) as:=fun vs us r ru=>by
   cases r with
   | cons r1 r2 =>
    cases ru with
    | cons u1 u2 =>
     obtain⟨as,ra⟩:=IY.1 _ _ r1 u1;obtain⟨bs,rb⟩:=k2 _ _ r2 u2;exact⟨_,.cons ra rb⟩
  refine⟨Mh k,fun ds ss e=>?_⟩;rcases e with ⟨e,e2⟩ | ⟨e,_⟩
  ·cases e; cases e2; exact k
  ·cases e
 | ref hg h1 ih =>
  refine⟨fun v u r ru=>?_,fun ds ss e=>by rcases e with ⟨e,_⟩ | ⟨e,_⟩ <;> cases e⟩;cases r;cases ru;obtain⟨vs,hv,rs⟩:=ab.lst hg;obtain⟨aZ,rv,pl,hz⟩:=I.list (.of hv);obtain⟨o,ho,hc,n,hd⟩:=pl.isList;obtain⟨as,ra⟩:=ih.2 _ _ (.inl ⟨rfl,rfl⟩) vs aZ rs rv;exact⟨_,.list ho hc hd (by simpa using ra)⟩
theorem vc(hu:X.A.units+64 < cLine):lx X (cL .Eq) (GS false):=by
 intro pins s σ H G x y dx dy v u Q I ab rx ry dX dY q;obtain⟨a,b,sa,sb,q⟩:=q;obtain⟨as,ra⟩:=(fH I ab sa).1 x v dX rx;obtain⟨bs,rb⟩:=(fH I ab sb).1 y u dY ry;have d1:=vS sa;refine SeqAt.compareEq_reads ra rb (iz _ sa.nr) (iz _ sb.nr) (by unfold SN at d1; lia) ?_;rw [pU _ _ sa.nr sb.nr];exact⟨.bl _,H,.bl _,G,I,.refl ab,rfl,.bl _,q⟩
theorem va(hu:X.A.units+64 < cLine):lx X (cL .NotEq) (GS true):=by
 intro pins s σ H G x y dx dy v u Q I ab rx ry dX dY q;obtain⟨a,b,sa,sb,q⟩:=q;obtain⟨as,ra⟩:=(fH I ab sa).1 x v dX rx;obtain⟨bs,rb⟩:=(fH I ab sb).1 y u dY ry;have d1:=vS sa;refine SeqAt.compareNe_reads ra rb (iz _ sa.nr) (iz _ sb.nr) (by unfold SN at d1; lia) ?_;rw [pU _ _ sa.nr sb.nr];exact⟨.bl _,H,.bl _,G,I,.refl ab,rfl,.bl _,q⟩
end
end K2
end
section
namespace K2
open PySem PySem.Spec PyProof.Rows L2
theorem rz(j k:Key):fM (dg j) (dg k)=decide (j=k):=by
 cases j with
 | inl a=>cases k with
  | inl b=>rw [IL]; rfl
  | inr b=>exact(decide_eq_false (fun z=>nomatch z)).symm
 | inr a=>cases k with
  | inl b=>exact(decide_eq_false (fun z=>nomatch z)).symm
  | inr b=>rw [IJ]; exact(Kh a b)
theorem xQ:∀ (js ks:List Key),ji (js.map dg) (ks.map dg)=decide (js=ks)
 | [],[]=>(decide_eq_true rfl).symm
 | [],_ :: _=>(decide_eq_false (fun z=>nomatch z)).symm
 | _ :: _,[]=>(decide_eq_false (fun z=>nomatch z)).symm
 | j :: js,k :: ks=>by
  show (fM (dg j) (dg k)&&ji (js.map dg) (ks.map dg))=_;rw [rz,xQ js ks,Bm]
theorem rq(js ks:List Key):fM (.tup (js.map dg)) (.tup (ks.map dg))=decide (js=ks):=by
 exact xQ js ks
section
variable {K:af} {H:Hp}
theorem yL{d:D}(h:dM d=true):∃ k:Key,d=dg k:=by
 cases d with
 | int i=>exact⟨.inl i,rfl⟩
 | str x=>exact⟨.inr x,rfl⟩
 | _=>exact absurd h (by simp [dM])
theorem Eu:∀ {ds:List D},ds.all dM=true->∃ ks:List Key,ds=ks.map dg
 | [],_=>⟨[],rfl⟩
 | d :: r,h=>by
  rw [GL,az] at h;obtain⟨k,rfl⟩:=yL h.1;obtain⟨ks,rfl⟩:=Eu h.2;exact⟨k :: ks,rfl⟩
theorem Ew{d:D}(h:pR d=true):∃ ks:List Key,d=.tup (ks.map dg):=by
 cases d with
 | tup ds=>obtain⟨ks,rfl⟩:=Eu (ds:=ds) h; exact⟨ks,rfl⟩
 | _=>exact absurd h (by simp [pR])
theorem yt{v:V}{k:Key}(r:cb K H v (dg k)):v=kV k:=by
 cases k with
 | inl i=>cases r; rfl
 | inr x=>cases r; rfl
theorem An:∀ {vs:List V} {ks:List Key},aX K H vs (ks.map dg)->vs=ks.map kV
 | _,[],r=>r.zero
 | _,k :: ks,r=>by
  rw [ax] at r;cases r with
  | cons r1 r2=>rw [yt r1,An r2]; rfl
theorem Ap{v:V}{ks:List Key}(r:cb K H v (.tup (ks.map dg))):∃ b,v=.ref b/\H b=some (.tup (ks.map kV)):=by
 cases r with
 | tup h rs=>have e:=An rs; subst e; exact⟨_,rfl,h⟩
theorem mV.look{kv:List (Key×V)}{aY:List (D×D)}(r:mV K H kv aY)(k:Key):(∃ v d,jL kv k=some v/\K2.look aY (dg k)=some d/\cb K H v d)\/(jL kv k=none/\K2.look aY (dg k)=none):=by
 induction r using mV.ind with
 | nil=>exact .inr ⟨rfl,rfl⟩
 | @cons j v d r t rd rs ih =>
  by_cases e:j=k
  ·left;refine⟨v,d,nT (p:=(j,v)) e,?_,rd⟩;unfold K2.look;rw [jI (by show fM (dg j) (dg k)=true; rw [rz]; exact decide_eq_true e)]; rfl
  ·have e1:jL ((j,v) :: r) k=jL r k:=nU (p:=(j,v)) e;have e2:K2.look ((dg j,d) :: t) (dg k)=K2.look t (dg k):=by
    unfold K2.look;rw [jJ (by show ¬ fM (dg j) (dg k)=true; rw [rz]; simpa using e)]
   rw [e1,e2];exact ih
theorem nB.look{kv:List (List Key×V)}{aY:List (D×D)}(r:nB K H kv aY)(k:List Key):(∃ v d,jL kv k=some v/\K2.look aY (.tup (k.map dg))=some d/\cb K H v d)\/(jL kv k=none/\K2.look aY (.tup (k.map dg))=none):=by
 induction r using nB.ind with
 | nil=>exact .inr ⟨rfl,rfl⟩
 | @cons j v d r t rd rs ih =>
  by_cases e:j=k
  ·left;refine⟨v,d,nT (p:=(j,v)) e,?_,rd⟩;unfold K2.look;rw [jI (by show fM (.tup (j.map dg)) (.tup (k.map dg))=true; rw [rq]; exact decide_eq_true e)]; rfl
  ·have e1:jL ((j,v) :: r) k=jL r k:=nU (p:=(j,v)) e;have e2:K2.look ((.tup (j.map dg),d) :: t) (.tup (k.map dg))=K2.look t (.tup (k.map dg)):=by
    unfold K2.look;rw [jJ (by show ¬ fM (.tup (j.map dg)) (.tup (k.map dg))=true; rw [rq]; simpa using e)]
   rw [e1,e2];exact ih
theorem mV.any{kv:List (Key×V)}{aY:List (D×D)}(r:mV K H kv aY)(k:Key):(kv.any fun p=>decide (p.1=k))=aY.any fun p=>fM p.1 (dg k):=by
 induction r using mV.ind with
 | nil=>rfl
 | @cons j v d r t rd rs ih=>simp only [lA]; rw [ih,rz]
theorem nB.any{kv:List (List Key×V)}{aY:List (D×D)}(r:nB K H kv aY)(k:List Key):(kv.any fun p=>decide (p.1=k))=aY.any fun p=>fM p.1 (.tup (k.map dg)):=by
 induction r using nB.ind with
 | nil=>rfl
 | @cons j v d r t rd rs ih=>simp only [lA]; rw [ih,rq]
theorem mV.put{kv:List (Key×V)}{aY:List (D×D)}(r:mV K H kv aY)(k:Key){v:V}{d:D}(rd:cb K H v d):mV K H (putK kv k v) (K2.put aY (dg k) d):=by
 unfold putK K2.put;rw [r.any k];by_cases h:(aY.any fun p=>fM p.1 (dg k))=true
 ·rw [if_pos h,if_pos h];clear h;induction r using mV.ind with
  | nil=>exact .nil
  | @cons j w e r t re rs ih =>
   simp only [ax];rw [rz];by_cases e:j=k
   ·simp only [e,if_true,decide_true]; exact .cons rd ih
   ·simp only [e,if_false,decide_false,av]; exact .cons re ih
 ·rw [if_neg h,if_neg h];clear h;induction r using mV.ind with
  | nil=>exact .cons rd .nil
  | cons re rs ih=>exact .cons re ih
theorem nB.put{kv:List (List Key×V)}{aY:List (D×D)}(r:nB K H kv aY)(k:List Key){v:V}{d:D}(rd:cb K H v d):nB K H (putK kv k v) (K2.put aY (.tup (k.map dg)) d):=by
 unfold putK K2.put;rw [r.any k];by_cases h:(aY.any fun p=>fM p.1 (.tup (k.map dg)))=true
 ·rw [if_pos h,if_pos h];clear h;induction r using nB.ind with
  | nil=>exact .nil
  | @cons j w e r t re rs ih =>
   simp only [ax];rw [rq];by_cases e:j=k
   ·simp only [e,if_true,decide_true]; exact .cons rd ih
   ·simp only [e,if_false,decide_false,av]; exact .cons re ih
 ·rw [if_neg h,if_neg h];clear h;induction r using nB.ind with
  | nil=>exact .cons rd .nil
  | cons re rs ih=>exact .cons re ih
end
theorem Kp.putD{H:Hp}{p:Addr}{o o':HO}(hp:H p=some o)(h:(∃ k,o=.dK k)\/∃ k,o=.dT k):Kp H (upd H p o') :=
 ⟨fun a ys e=>by rw [bI (by rintro rfl; rw [hp] at e; rcases h with ⟨_,rfl⟩ | ⟨_,rfl⟩ <;> cases e)]; exact e,fun a ob u e=>by rw [bI (by rintro rfl; rw [hp] at e; rcases h with ⟨_,rfl⟩ | ⟨_,rfl⟩ <;> cases e)]; exact e⟩
section
variable {X:Cx} {pins:List (Addr×Obj)} {σ:L2.St} {H:Hp} {s:aj} {G:Gp} {a:Addr} {aY:List (D×D)} {k:D} {y:V}
theorem toT(I:Inv X pins σ H s)(e:H a=some (.dK [])):Inv X pins σ (upd H a (.dT [])) s:=by
 obtain⟨z,hd,vs,rel,dd⟩:=EL I.cz e;have hv:vs=[]:=by cases rel; rfl
 subst hv;obtain⟨o,es,ep,ho,hx,FZ,WD,hl,nd⟩:=dd;have he:es=#[]:=by
  cases hq:es.toList with
  | nil=>simpa using hq
  | cons _ _=>rw [hq] at hl; cases hl
 subst he;exact I.write (h':=s.heap) (t':=s.toks) (x:=a) (e:=a) (by rw [e]; exact iL) (.inl rfl) (fun b u _ q=>q) ⟨o,ho⟩ ⟨bR _,hd,[],.nil,o,#[],ep,ho,hx,FZ,rfl,fk⟩
theorem toK(I:Inv X pins σ H s)(e:H a=some (.dT [])):Inv X pins σ (upd H a (.dK [])) s:=by
 obtain⟨z,hd,xs,rel,o,es,ep,ho,hx,FZ,hl,nd⟩:=I.cz a _ e;have hv:xs=[]:=by cases rel; rfl
 subst hv;have he:es=#[]:=by simpa using hl
 subst he;exact I.write (h':=s.heap) (t':=s.toks) (x:=a) (e:=a) (by rw [e]; exact iL) (.inl rfl) (fun b u _ q=>q) ⟨o,ho⟩ ⟨bR _,hd,[],.nil,o,#[],ep,ho,hx,FZ,(fun _ h=>by simp at h),.nil,fk⟩
theorem Eo{o:HO}(ab:kC X.K H G)(hg:G a=some (.kB aY))(k:Kp H (upd H a o))(ho:Ke X.K (upd H a o) a (.kB aY)):Mv X.K H G (upd H a o) G:=by
 have m:=Mv.put ab hg k ho;have e:cY G a (.kB aY)=G:=by
  funext b; unfold cY; split
  ·rename_i z; rw [z,hg]
  ·rfl
 rw [e] at m;exact m
theorem EM(I:Inv X pins σ H s)(ab:kC X.K H G)(hg:G a=some (.kB aY))(hk:fY aY k=true)(ry:cb X.K H y k) :
  ∃ H',Inv X pins σ H' s/\Mv X.K H G H' G/\((∃ (kv:List (Key×V)) (kk:Key),H' a=some (.dK kv)/\mV X.K H' kv aY/\k=dg kk/\y=kV kk)\/∃ (kv:List (List Key×V)) (kk:List Key) (b:Addr),H' a=some (.dT kv)/\nB X.K H' kv aY/\k=.tup (kk.map dg)/\y=.ref b/\H' b=some (.tup (kk.map kV))):=by
 unfold fY at hk;rw [rV,az,az] at hk;rcases hk with ⟨h1,h2⟩ | ⟨h1,h2⟩
 ·obtain⟨kk,rfl⟩:=yL h1;have ey:=yt ry;subst ey;rcases ab a _ hg with ⟨kv,hv,rs⟩ | ⟨kv,hv,rs⟩
  ·exact⟨H,I,.refl ab,.inl ⟨kv,kk,hv,rs,rfl,rfl⟩⟩
  ·cases rs with
   | nil =>
    refine⟨_,toK I hv,Eo ab hg (.putD hv (.inr ⟨_,rfl⟩)) (.inl ⟨[],cC,.nil⟩),.inl ⟨[],kk,cC,.nil,rfl,rfl⟩⟩
   | cons _ _=>simp [dM] at h2
 ·obtain⟨kk,rfl⟩:=Ew h1;obtain⟨b,rfl,hb⟩:=Ap ry;rcases ab a _ hg with ⟨kv,hv,rs⟩ | ⟨kv,hv,rs⟩
  ·cases rs with
   | nil =>
    have kp:Kp H (upd H a (.dT [])):=.putD hv (.inl ⟨_,rfl⟩);exact⟨_,toT I hv,Eo ab hg kp (.inr ⟨[],cC,.nil⟩),.inr ⟨[],kk,b,cC,.nil,rfl,rfl,kp.tup _ _ hb⟩⟩
   | @cons j _ _ _ _ _ _=>cases j <;> simp [dg,pR] at h2
  ·exact⟨H,I,.refl ab,.inr ⟨kv,kk,b,hv,rs,rfl,rfl,hb⟩⟩
theorem Bl(I:Inv X pins σ H s)(ab:kC X.K H G)(hg:G a=some (.kB aY))(hk:fY aY k=true)(ry:cb X.K H y k) :
  ∃ H' o,Inv X pins σ H' s/\Mv X.K H G H' G/\vY H' a y o/\o.isSome=(look aY k).isSome/\∀ d,look aY k=some d->∃ v,o=some v/\cb X.K H' v d:=by
 obtain⟨H',I',m,h⟩:=EM I ab hg hk ry;rcases h with ⟨kv,kk,hv,rs,rfl,rfl⟩ | ⟨kv,kk,b,hv,rs,rfl,rfl,hb⟩
 ·refine⟨H',jL kv kk,I',m,.k hv,?_,fun d hd=>?_⟩
  ·rcases rs.look kk with ⟨v,d,e1,e2,_⟩ | ⟨e1,e2⟩ <;> rw [e1,e2] <;> rfl
  ·rcases rs.look kk with ⟨v,d',e1,e2,r⟩ | ⟨e1,e2⟩
   ·rw [e2] at hd; cases hd; exact⟨v,e1,r⟩
   ·rw [e2] at hd; cases hd
 ·refine⟨H',jL kv kk,I',m,.t hv hb,?_,fun d hd=>?_⟩
  ·rcases rs.look kk with ⟨v,d,e1,e2,_⟩ | ⟨e1,e2⟩ <;> rw [e1,e2] <;> rfl
  ·rcases rs.look kk with ⟨v,d',e1,e2,r⟩ | ⟨e1,e2⟩
   ·rw [e2] at hd; cases hd; exact⟨v,e1,r⟩
   ·rw [e2] at hd; cases hd
theorem yr{x:V}(I:Inv X pins σ H s)(rd:cb X.K H x (.p8 aY))(hk:fY aY k=true)(ry:cb X.K H y k) :
  ∃ a o,x=.ref a/\(aY=[]\/vY H a y o)/\o.isSome=(look aY k).isSome/\∀ d,look aY k=some d->∃ v,o=some v/\cb X.K H v d:=by
 unfold fY at hk;rw [rV,az,az] at hk;cases rd with
 | pO h rs =>
  rename_i a ob kv;rcases hk with ⟨h1,h2⟩ | ⟨h1,h2⟩
  ·obtain⟨kk,rfl⟩:=yL h1;have ey:=yt ry;subst ey;refine⟨a,jL kv kk,rfl,.inr (.inl ⟨kv,kk,.inr ⟨_,h⟩,rfl,rfl⟩),?_,fun d hd=>?_⟩
   ·rcases rs.look kk with ⟨v,d,e1,e2,_⟩ | ⟨e1,e2⟩ <;> rw [e1,e2] <;> rfl
   ·rcases rs.look kk with ⟨v,d',e1,e2,r⟩ | ⟨e1,e2⟩
    ·rw [e2] at hd; cases hd; exact⟨v,e1,r⟩
    ·rw [e2] at hd; cases hd
  ·cases rs with
   | nil=>exact⟨a,none,rfl,.inl rfl,rfl,fun d hd=>by cases hd⟩
   | cons _ _ =>
    rename_i kx _ _ _ _ _ _;rw [GL,az] at h2;cases kx <;> exact absurd h2.1 (by simp [dg,pR])
 | pN h rs =>
  rename_i a ob kv;rcases hk with ⟨h1,h2⟩ | ⟨h1,h2⟩
  ·cases rs with
   | nil=>exact⟨a,none,rfl,.inl rfl,rfl,fun d hd=>by cases hd⟩
   | cons _ _ =>
    rw [GL,az] at h2;exact absurd h2.1 (by simp [dM])
  ·obtain⟨kk,rfl⟩:=Ew h1;obtain⟨b,rfl,hb⟩:=Ap ry;refine⟨a,jL kv kk,rfl,.inr (.inr ⟨kv,kk,b,.inr ⟨_,h⟩,rfl,hb,rfl⟩),?_,fun d hd=>?_⟩
   ·rcases rs.look kk with ⟨v,d,e1,e2,_⟩ | ⟨e1,e2⟩ <;> rw [e1,e2] <;> rfl
   ·rcases rs.look kk with ⟨v,d',e1,e2,r⟩ | ⟨e1,e2⟩
    ·rw [e2] at hd; cases hd; exact⟨v,e1,r⟩
    ·rw [e2] at hd; cases hd
theorem JG{v:V}{d:D}(I:Inv X pins σ H s)(ab:kC X.K H G)(hg:G a=some (.kB aY))(hk:fY aY k=true)(hz:aY.length < SZ)(ry:cb X.K H y k)(rv:cb X.K H v d) :
  ∃ H' Vh,Inv X pins σ H' s/\GG H' a y v Vh/\Mv X.K H G Vh (cY G a (.kB (put aY k d))):=by
 obtain⟨H',I',m,h⟩:=EM I ab hg hk ry;have Ug:=rv.mono (m.kp ab);have sz:aT=16777216:=br;rcases h with ⟨kv,kk,hv,rs,rfl,rfl⟩ | ⟨kv,kk,b,hv,rs,rfl,rfl,hb⟩
 ·have kp:Kp H' (upd H' a (.dK (putK kv kk v))):=.putD hv (.inl ⟨_,rfl⟩);exact⟨H',_,I',.k hv (by rw [rs.length,sz]; exact hz),m.trans (.put m.ab hg kp (.inl ⟨_,cC,(rs.put kk Ug).mono kp⟩))⟩
 ·have kp:Kp H' (upd H' a (.dT (putK kv kk v))):=.putD hv (.inr ⟨_,rfl⟩);exact⟨H',_,I',.t hv hb (by rw [rs.length,sz]; exact hz),m.trans (.put m.ab hg kp (.inr ⟨_,cC,(rs.put kk Ug).mono kp⟩))⟩
end
end K2
end
section
namespace K2
open PySem PySem.Spec PyProof.Rows L2
section
variable {X:Cx} {a b c e:Expr} {es:List Expr} {ta tb tc te:eU} {t:BG} {pos p p2 apos lq:Pos} {x:Str}
theorem oa{k:Bool}{j}:eV X (.Constant (.bool k) j pos) (dC (.bl k)):=jU Pc fun _ _=>.bl k
theorem Ei{j}:eV X (.Constant .none j pos) (dC .cf):=jU M7 fun _ _=>.cf
theorem eK{y:Str}{j}:eV X (.Constant (.str y) j pos) (dC (.str y)):=jU M6 fun _ _=>.str y
theorem jT{st:Stmt}:DB X st pX:=fun _ _ _ _ _ _ _ _ _ _ h=>h.elim
theorem qo:Qw X (unaryOp .USub) Cw:=by
 intro pins s σ H G x dx v Q I ab rx dX q;cases dX with
 | int i=>exact eN (MH pins s σ H _ v (wX X.K H G Q) I rx ⟨i,rfl,_,_,.refl ab,.int _,q⟩) fun _ _ z=>.of z
 | _=>exact bB q
theorem fV(hu:X.A.units+64 < cLine)(ha:eV X a ta)(hb:eV X b tb)(hs:E4 b):eV X (.Subscript a b pos) (bG qM ta tb):=by
 intro E pins s σ H τ G Q hE I h;refine v7 (EY ha hb hE I h fun v u s2 x y dx dy H2 G2 J m rx ry dX dY q=>?_);have fin:∀ {rb:R2},T1 X rb->rb x y H2 (wX X.K H2 G2 Q)->wpAny (model X.prog X.w) X.A (subscriptTail a b v u) (nA X pins σ H G Q) X.xe s2:=fun hr hq =>
  eN (hr a b pins s2 σ H2 x y v u _ J.inv rx ry hq (hs _ _)) fun _ _ z=>(nA.of z).trans m
 cases dX with
 | tup hq rs =>
  cases dY with
  | int i =>
   rw [fB] at q;split at q
   ·rename_i d hd;obtain⟨w,hw,qB⟩:=rs.nK hd;exact fin IQ ⟨_,_,i,w,rfl,rfl,.of hq,hw,d,G2,.refl J.ab,qB,q⟩
   ·exact q.elim
  | _=>exact bB q
 | dq hq rs =>
  cases dY with
  | int i =>
   rw [jc] at q;split at q
   ·rename_i d hd;obtain⟨w,hw,qB⟩:=rs.nK hd;exact fin Ey ⟨_,_,i,w,rfl,rfl,hq.sq,hw,d,G2,.refl J.ab,qB,q⟩
   ·exact q.elim
  | _=>exact bB q
 | pO h rs =>
  rw [yw] at q;obtain⟨hk,q⟩:=q;split at q
  ·rename_i d hd;obtain⟨a',o,ea,g,_,hv⟩:=yr J.inv (.pO h rs) hk dY;obtain⟨w,rfl,qB⟩:=hv d hd;cases ea;rcases g with rfl | g
   ·cases hd
   ·cases rx;exact rX (oA J.inv g) PySem.F.slot_dict_getitem.lookup (sG (by lia) J.inv g ry fun w' s3 I4 rv=>⟨w,H2,d,G2,I4,m,rv,qB,q⟩) (hs _ _)
  ·exact q.elim
 | pN h rs =>
  rw [yw] at q;obtain⟨hk,q⟩:=q;split at q
  ·rename_i d hd;obtain⟨a',o,ea,g,_,hv⟩:=yr J.inv (.pN h rs) hk dY;obtain⟨w,rfl,qB⟩:=hv d hd;cases ea;rcases g with rfl | g
   ·cases hd
   ·cases rx;exact rX (oA J.inv g) PySem.F.slot_dict_getitem.lookup (sG (by lia) J.inv g ry fun w' s3 I4 rv=>⟨w,H2,d,G2,I4,m,rv,qB,q⟩) (hs _ _)
  ·exact q.elim
 | ref l =>
  rw [Lh] at q;split at q
  ·rename_i ds hl;obtain⟨vs,hv,rs⟩:=J.ab.lst hl;cases dY with
   | int i =>
    dsimp only at q;split at q
    ·rename_i d hd;obtain⟨w,hw,qB⟩:=rs.nK hd;exact fin Ey ⟨_,_,i,w,rfl,rfl,.of hv,hw,d,G2,.refl J.ab,qB,q⟩
    ·exact q.elim
   | _=>exact bB q
  ·rename_i aY hl;obtain⟨hk,q⟩:=q;split at q
   ·rename_i d hd;obtain⟨H3,o,I3,m3,g,_,hv⟩:=Bl J.inv J.ab hl hk dY;obtain⟨w,rfl,qB⟩:=hv d hd;cases rx;exact rX (oA I3 g) PySem.F.slot_dict_getitem.lookup (sG (by lia) I3 g ry fun w' s3 I4 rv=>⟨w,H3,d,G2,I4,m.trans m3,rv,qB,q⟩) (hs _ _)
   ·exact q.elim
  ·exact q.elim
 | _=>exact bB q
noncomputable def ON(X:Cx)(e:Option Expr)(t:Oe):Prop :=
 ∀ (E:jY) (pins:List (Addr×Obj)) (s:aj) (σ:L2.St) (H:Hp) (τ:fD) (G:Gp) (Q:Option Int->Gp->Prop),Lk X E->I2 X pins σ H τ G s->t E τ G Q ->
  wpAny (model X.prog X.w) X.A (evalPart e X.env) (fun u s'=>∃ o H' G',Inv X pins σ H' s'/\Mv X.K H G H' G'/\IsPart u o/\Q o G') X.xe s
theorem fC:ON X none cR:=by
 intro E pins s σ H τ G Q hE I h;rw [evalPart_none];exact aq ⟨none,H,G,I.inv,.refl I.ab,.none,h⟩
theorem eQ(h:eV X e te):ON X (some e) (jE te):=by
 intro E pins s σ H τ G Q hE I hw;rw [evalPart_some];refine hZ h hE I hw fun x H1 d G1 u s1 I1 m1 r1 iI q1=>?_;cases iI with
 | int i =>
  obtain⟨t,rfl⟩:=r1;exact⟨some i,H1,G1,I1.inv,m1,.int i t,q1⟩
 | _=>exact bB q1
theorem gv{lo hi:Option Expr}{tl th:Oe}(he:eV X a ta)(hl:ON X lo tl)(hu:ON X hi th):eV X (.Subscript a (.Slice lo hi none p2) pos) (wg ta tl th):=by
 intro E pins s σ H τ G Q hE I h;refine v7 (hZ he hE I h fun x H1 d G1 v s1 I1 m1 r1 iI q1=>?_);refine wpAny_Slice (eN (hl E pins s1 σ H1 τ G1 _ hE I1 q1) ?_);rintro vl s2 ⟨l,H2,G2,i5,m2,pl,q2⟩;refine eN (hu E pins s2 σ H2 τ G2 _ hE (I1.mv i5 m2) q2) ?_;rintro vu s3 ⟨r,H3,G3,I3,m3,pu,q3⟩;rw [evalPart_none];refine aq ?_;have Py:=m2.trans m3;have mm:=m1.trans Py;have I4:Inv X pins σ H3 { s3 with heap:=s3.heap.push { cls:=.type "slice",data:=.fields #[vl,vu,.none] } }:=I3.kept (t':=s3.toks) fun b ob q=>aw _ q;have MY:=iI.mono (Py.kp I1.ab);have MB:=m3.ab;have key:∀ {rb:V->Option Int->Option Int->Hp->VK->Prop},TX X rb->rb x l r H3 (wX X.K H3 G3 Q)->wpAny (model X.prog X.w) X.A (subscriptTail a (.Slice lo hi none p2) v (.ref s3.heap.objs.size)) (nA X pins σ H G Q) X.xe { s3 with heap:=s3.heap.push { cls:=.type "slice",data:=.fields #[vl,vu,.none] } }:=fun hr hq=>by
  obtain⟨T,id,hT,ht,hg⟩:=hr pins { s3 with heap:=s3.heap.push { cls:=.type "slice",data:=.fields #[vl,vu,.none] } } σ H3 x v vl vu l r s3.heap.objs.size _ I4 r1 (Heap.IsSliceOf.new ..) pl pu hq;exact eN (rX (ops:=[.ref s3.heap.objs.size,v]) ht hT hg (by with_unfolding_all rfl)) fun _ _ z=>(nA.of z).trans mm
 cases MY with
 | tup hq rs =>
  obtain⟨hw,q⟩:=q3;refine key MQ ⟨_,_,rfl,.of hq,?_,fun p hp=>⟨_,G3,.Kr MB hp,.tup cC ((rs.cut l r).mono (.new hp)),q⟩⟩;rw [yp,yp,rs.length];exact hw
 | dq hq rs=>exact key D5 ⟨_,_,rfl,hq.sq,fun p hp=>⟨_,_,.wJ MB hp (rs.cut l r),.ref _,q3 p (MB.free hp)⟩⟩
 | ref g =>
  rw [me] at q3;split at q3
  ·rename_i ds hg;obtain⟨vs,hv,rs⟩:=MB.lst hg;exact key D5 ⟨_,_,rfl,.of hv,fun p hp=>⟨_,_,.wJ MB hp (rs.cut l r),.ref _,q3 p (MB.free hp)⟩⟩
  ·exact q3.elim
 | _=>exact bB q3
theorem Lx(ss:List D)(s:D)(h1:nh ss=true)(h2:nr s=true):((jD ss).any fun y=>qh y (pd s))=ss.any (fM · s):=by
 induction ss with
 | nil=>rfl
 | cons d r ih =>
  have h':nr d=true/\nh r=true:=(h8).mp h1;show (qh (pd d) (pd s)||(jD r).any _)=_;rw [ih h'.2,pU d s h'.1 h2]; rfl
theorem EN{G:Gp}{n:Nat}{ds ss:List D}(h:Sn G (n+1) (.dq ds) (.dq ss)):bJ (jD ss)<=n:=by
 exact qj (vS h)
theorem yP(hu:X.A.units+64 < cLine)(neg:Bool){pins:List (Addr×Obj)}{s:aj}{σ:L2.St}{H:Hp}{G:Gp}{x y:V}{dx t:D}{ds ss:List D}{v u:Value}{Q:DK}(I:Inv X pins σ H s)(ab:kC X.K H G)(rx:RelV x v)(dX:cb X.K H x dx)
  (hy:(∃ l vs aZ,u=.ref l/\Vals vs aZ/\aX X.K H vs ds/\(s.heap.IsList l aZ.toArray\/s.heap.IsTuple l aZ.toArray))) (s1:Sn G SN dx t) (s2:Sn G SN (.dq ds) (.dq ss))
  (q:Q (.bl (if neg then !ss.any (fM · t) else ss.any (fM · t))) G):wpAny (model X.prog X.w) X.A (cL (if neg then .NotIn else .In) v u) (nA X pins σ H G Q) X.xe s:=by
 obtain⟨l,vs,aZ,rfl,rv,rs,hl⟩:=hy;obtain⟨as,ra⟩:=(fH I ab s1).1 x v dX rx;obtain⟨bs,rb⟩:=(fH I ab s2).2 ds ss (.inl ⟨rfl,rfl⟩) vs aZ rs rv;have d2:=EN (n:=7) s2;have n2:nh ss=true:=s2.nr;have vB:=qX _ n2;have e:=Lx ss t n2 s1.nr;have zI:X.A.units+1+min (bJ (jD ss)) (pd t).depth < cLine:=by lia
 have HX:fh s.heap aZ.toArray.toList (jD ss) bs:=by simpa using rb
 have fin:∀ k:Bool,k=(if neg then !ss.any (fM · t) else ss.any (fM · t))->nA X pins σ H G Q (.bool k) s:=fun k hk=>by subst hk; exact⟨.bl _,H,.bl _,G,I,.refl ab,rfl,.bl _,q⟩
 cases neg with
 | false =>
  rcases hl with hl | hl
  ·exact SeqAt.in_listAt _ hl (kE HX ra vB (iz _ s1.nr) zI) (by rw [nQ HX vB,e]; exact fin _ rfl)
  ·exact SeqAt.in_tupleAt _ hl (kE HX ra vB (iz _ s1.nr) zI) (by rw [nQ HX vB,e]; exact fin _ rfl)
 | true =>
  rcases hl with hl | hl
  ·exact SeqAt.notIn_listAt _ hl (kE HX ra vB (iz _ s1.nr) zI) (by rw [nQ HX vB,e]; exact fin _ rfl)
  ·exact SeqAt.notIn_tupleAt _ hl (kE HX ra vB (iz _ s1.nr) zI) (by rw [nQ HX vB,e]; exact fin _ rfl)
theorem IW(hu:X.A.units+64 < cLine)(neg:Bool){pins:List (Addr×Obj)}{s:aj}{σ:L2.St}{H:Hp}{G:Gp}{x y:V}{dx:D}{aY:List (D×D)}{v u:Value}{Q:DK}(I:Inv X pins σ H s)(ab:kC X.K H G)(rx:RelV x v)(ry:RelV y u)(dY:cb X.K H y (.p8 aY))(dX:cb X.K H x dx)
  (q:yA neg dx (.p8 aY) G Q):wpAny (model X.prog X.w) X.A (cL (if neg then .NotIn else .In) v u) (nA X pins σ H G Q) X.xe s:=by
 obtain⟨iY,hk,q⟩:=q;have go:∀ (a:Addr) (o:Option V),y=.ref a->vY H a x o->o.isSome=(look aY dx).isSome->wpAny (model X.prog X.w) X.A (cL (if neg then .NotIn else .In) v u) (nA X pins σ H G Q) X.xe s:=by
  intro a o ea g ho;subst ea;cases ry;cases neg with
  | false=>exact Qk (by lia) I g rx fun s3 I4=>⟨.bl _,H,.bl _,G,I4,.refl ab,rfl,.bl _,by rw [ho]; exact q⟩
  | true=>exact EU (by lia) I g rx fun s3 I4=>⟨.bl _,H,.bl _,G,I4,.refl ab,rfl,.bl _,by rw [ho]; exact q⟩
 obtain⟨a,o,ea,g,ho,_⟩:=yr I dY hk dX;rcases g with rfl | g
 ·exact absurd rfl iY
 ·exact go a o ea g ho
theorem Em(hu:X.A.units+64 < cLine)(neg:Bool):lx X (cL (if neg then .NotIn else .In)) (yA neg):=by
 intro pins s σ H G x y dx dy v u Q I ab rx ry dX dY q;cases dY with
 | tup hq rs =>
  obtain⟨t,ss,s1,s2,q⟩:=q;cases ry;obtain⟨aZ,rv,pl,hz⟩:=I.tuple (.of hq);exact yP hu neg (y:=x) I ab rx dX ⟨_,_,aZ,rfl,rv,rs,.inr pl⟩ s1 s2 q
 | dq hq rs =>
  obtain⟨t,ss,s1,s2,q⟩:=q;cases ry;obtain⟨aZ,rv,pl,hz⟩:=I.list hq.sq;exact yP hu neg (y:=x) I ab rx dX ⟨_,_,aZ,rfl,rv,rs,.inl pl.isList⟩ s1 s2 q
 | pO h rs=>exact IW hu neg I ab rx ry (.pO h rs) dX q
 | pN h rs=>exact IW hu neg I ab rx ry (.pN h rs) dX q
 | ref l =>
  unfold yA at q;dsimp only at q;split at q
  ·rename_i aY hl;obtain⟨hk,q⟩:=q;obtain⟨H3,o,I3,m3,g,ho,_⟩:=Bl I ab hl hk dX;cases ry;cases neg with
   | false=>exact Qk (by lia) I3 g rx fun s3 I4=>⟨.bl _,H3,.bl _,G,I4,m3,rfl,.bl _,by rw [ho]; exact q⟩
   | true=>exact EU (by lia) I3 g rx fun s3 I4=>⟨.bl _,H3,.bl _,G,I4,m3,rfl,.bl _,by rw [ho]; exact q⟩
  ·rename_i ds hl;obtain⟨t,ss,s1,s2,q⟩:=q;cases ry;obtain⟨vs,hv,rs⟩:=ab.lst hl;obtain⟨aZ,rv,pl,hz⟩:=I.list (.of hv);exact yP hu neg (y:=x) I ab rx dX ⟨_,_,aZ,rfl,rv,rs,.inl pl.isList⟩ s1 s2 q
  ·exact q.elim
 | _=>exact bB q
theorem Iq(hu:X.A.units+64 < cLine):lx X (cL .In) (yA false):=Em hu false
theorem lG(hu:X.A.units+64 < cLine):lx X (cL .NotIn) (yA true):=Em hu true
end
end K2
end
section
namespace K2
open PySem PySem.Spec PyProof.Rows L2
section
variable {X:Cx} {a b c e o:Expr} {es:List Expr} {ta tb tc te to:eU} {t:BG} {pos p p2 apos lq:Pos} {x name:Str} {id T:String}
theorem gx:ly X (.builtin "len") pz:=by
 intro pins s σ H G xs ds us Q I ab rx rd q;unfold pz at q;split at q
 ·rename_i x;obtain⟨v,rfl,r⟩:=rd.one;have KQ:∀ (n:Nat),QA X.K v H n->Q (.int (n:Int)) G->wpAny (model X.prog X.w) X.A (call (.builtin "len") us) (nA X pins σ H G Q) X.xe s:=fun n hn hq =>
   eN (JR pins s σ H [v] us (wX X.K H G Q) I rx ⟨v,n,rfl,hn,_,_,.refl ab,.int _,hq⟩) fun _ _ z=>.of z
  have sz:aT=16777216:=br;cases r with
  | tup hq rs=>exact KQ _ (.inr ⟨_,.of hq,by rw [rs.length]⟩) q
  | dq hq rs=>exact KQ _ (.inl ⟨_,hq.sq,by rw [rs.length]⟩) q
  | str y =>
   unfold lenOf at q;dsimp only at q;by_cases hz:y.length<=SZ
   ·rw [if_pos hz] at q; exact KQ _ ⟨by rw [sz]; exact hz,rfl⟩ q
   ·rw [if_neg hz] at q; exact q.elim
  | pO h rs =>
   rename_i l o kv aY;obtain⟨u,rfl,ru⟩:=rx.one;cases ru;unfold lenOf at q;dsimp only at q;by_cases ha:(aY.all fun p=>dM p.1)=true
   ·rw [if_pos ha] at q;exact MA I (.inr ⟨_,h⟩) fun t s' I'=>⟨.int kv.length,H,_,G,I',.refl ab,⟨t,rfl⟩,.int _,by rw [rs.length]; exact q⟩
   ·rw [if_neg ha] at q; exact q.elim
  | pN h rs =>
   rename_i l o kv aY;obtain⟨u,rfl,ru⟩:=rx.one;cases ru;unfold lenOf at q;dsimp only at q;by_cases ha:(aY.all fun p=>dM p.1)=true
   ·rw [if_pos ha] at q;cases rs with
    | nil =>
     obtain⟨z,hS,xs,rel,ob,es,ep,ho,hx,FZ,hl,nd⟩:=(I.cz l _ h).2;have SX:xs=[]:=by cases rel; rfl
     subst SX;have he:es=#[]:=by simpa using hl
     subst he;have dd:s.heap.DictOf (dI X.prog X.w) l []:=⟨ob,#[],ep,ho,hx,FZ,(fun _ h=>by simp at h),.nil,fk⟩;refine call_len_dict hS dd (by simp) ?_;exact⟨.int 0,H,_,G,I.tok _,.refl ab,⟨_,rfl⟩,.int _,q⟩
    | cons _ _=>simp [dM] at ha
   ·rw [if_neg ha] at q; exact q.elim
  | ref l =>
   unfold lenOf at q;dsimp only at q;cases hg:G l with
   | none=>rw [hg] at q; exact q.elim
   | some g =>
    rw [hg] at q;cases g with
    | lst ds =>
     obtain⟨vs,hv,rs⟩:=ab.lst hg;exact KQ _ (.inl ⟨_,.of hv,by rw [rs.length]⟩) q
    | ins _ _=>exact q.elim
    | kB aY =>
     obtain⟨u,rfl,ru⟩:=rx.one;cases ru;dsimp only at q;by_cases ha:(aY.all fun p=>dM p.1)=true
     ·rw [if_pos ha] at q;rcases ab l _ hg with ⟨kv,hv,rs⟩ | ⟨kv,hv,rs⟩
      ·exact MA I (.inl hv) fun t s' I'=>⟨.int kv.length,H,_,G,I',.refl ab,⟨t,rfl⟩,.int _,by rw [rs.length]; exact q⟩
      ·cases rs with
       | nil =>
        obtain⟨z,hd,vs,rel,dd⟩:=EL (toK I hv).cz cC;have Wi:vs=[]:=by cases rel; rfl
        subst Wi;refine call_len_dict hd dd (by simp) ?_;exact⟨.int 0,H,_,G,I.tok _,.refl ab,⟨_,rfl⟩,.int _,q⟩
       | cons _ _=>simp [dM] at ha
     ·rw [if_neg ha] at q; exact q.elim
  | _=>exact bB q
 ·exact q.elim
theorem Ds:ly X (.type "list") tL:=by
 intro pins s σ H G xs ds us Q I ab rx rd q;unfold tL at q;split at q
 ·rename_i x;obtain⟨v,rfl,r⟩:=rd.one;have RB:∀ (l:Addr) (ys:List V) (zs:List D),v=.ref l->(rL X.K H l ys\/t8 X.K H l ys)->aX X.K H ys zs->jl G (.lst zs) Q->wpAny (model X.prog X.w) X.A (call (.type "list") us) (nA X pins σ H G Q) X.xe s:=fun l ys zs e h rs hq=>by
   subst e;exact eN (zi pins s σ H _ us (wX X.K H G Q) I rx ⟨l,ys,rfl,h,fun p hp=>⟨_,_,.wJ ab hp rs,.ref _,hq p (ab.free hp)⟩⟩) fun _ _ z=>.of z
  cases r with
  | tup hq rs=>exact RB _ _ _ rfl (.inr (.of hq)) rs q
  | dq hq rs=>exact RB _ _ _ rfl (.inl hq.sq) rs q
  | ref l =>
   unfold itemsOf at q;dsimp only at q;cases hg:G l with
   | none=>rw [hg] at q; exact q.elim
   | some g =>
    rw [hg] at q;cases g with
    | lst ds =>
     obtain⟨vs,hv,rs⟩:=ab.lst hg;exact RB _ _ _ rfl (.inl (.of hv)) rs q
    | ins _ _=>exact q.elim
    | kB aY=>exact q.elim
  | _=>exact bB q
 ·exact q.elim
theorem pP {r:List D->Gp->DK->Prop} (hc:ly X (.type T) r) (hg:Gl X x) (hm:X.mg x=none) (hv:cS x=some (.type T)) (ha:E5 X (e :: es) t) (hn:autoParam (x≠"__name__") Ad._auto_1) (FY:autoParam ((x == ("__debug__" : Str))=false) Ad._auto_1)
  (he:autoParam (bQ (e :: es) X.env=(false,eval e X.env) :: bQ es X.env) Ar._auto_1) (GV:autoParam ((i6 pos (bQ es X.env)).any (·.1)=false) Ar._auto_1):eV X (.Call (.Name x p) (e :: es) [] pos) (lQ r t):=by
 intro E pins s σ H τ G Q hE I h;refine gZ (oq I.inv hg hm hv ?_ hn FY);exact fQ (zY ha pos hE I h fun vs H1 ds G1 us s1 I1 m1 r1 iI q1=>eN (hc pins s1 σ H1 G1 vs ds us Q I1.inv I1.ab r1 iI q1) fun _ _ z=>z.trans m1) he GV
theorem Nv (K:af):∀ C∈["int","bool","list","tuple","dict","str"],∀ T∈["NoneType","bool","int","str","tuple","list","dict"],PySem.W.kitOne K (.type T) (.type C)=some (T == C||(T == "bool" && C == "int")):=by
 intro C hC T hT;simp only [pD,List.not_mem_nil,or_false] at hC hT;rcases hC with rfl | rfl | rfl | rfl | rfl | rfl <;> rcases hT with rfl | rfl | rfl | rfl | rfl | rfl | rfl <;> kernel_rfl
theorem IT (C:String) (hC:C∈["int","bool","list","tuple","dict","str"]) {pins:List (Addr×Obj)} {s:aj} {σ:L2.St} {H:Hp} {G:Gp} {v:V} {d:D} {u:Value} {k:Bool} {Q:DK} (I:Inv X pins σ H s) (ab:kC X.K H G) (ru:RelV v u) (r:cb X.K H v d)
  (hk:Ny C d G=some k) (q:Q (.bl k) G):wpAny (model X.prog X.w) X.A (call (.builtin "isinstance") [u,.type C]) (nA X pins σ H G Q) X.xe s:=by
 have fin:∀ tk,nA X pins σ H G Q (.bool k) { s with toks:=tk }:=fun tk=>⟨.bl k,H,.bl k,G,I.tok _,.refl ab,rfl,.bl k,q⟩;have hl:∀ T∈["NoneType","bool","int","str","tuple","list","dict"],k=(T == C||(T == "bool" && C == "int"))->PySem.W.kitOne X.K (.type T) (.type C)=some k:=fun T hT e=>by rw [Nv X.K C hC T hT,e]
 have tl:∀ {l:Addr} {o:Obj},s.heap.get? l=some o->o.cls=.type "list"->k=("list" == C||("list" == "bool" && C == "int"))->v=.ref l->wpAny (model X.prog X.w) X.A (call (.builtin "isinstance") [u,.type C]) (nA X pins σ H G Q) X.xe s:=fun ho hc e ev=>by
  subst ev;cases ru;exact gC PySem.W.kitx_list I.BV ⟨_,ho,hc⟩ (hl "list" (by decide) e) (fun z=>nomatch z) fin
 have td:∀ {l:Addr} {o:Obj},s.heap.get? l=some o->o.cls=.type "dict"->k=("dict" == C||("dict" == "bool" && C == "int"))->v=.ref l->wpAny (model X.prog X.w) X.A (call (.builtin "isinstance") [u,.type C]) (nA X pins σ H G Q) X.xe s:=fun ho hc e ev=>by
  subst ev;cases ru;exact gC PySem.W.kitx_dict I.BV ⟨_,ho,hc⟩ (hl "dict" (by decide) e) (fun z=>nomatch z) fin
 have lr:∀ P:String->Prop,(∀ C'∈["int","bool","list","tuple","dict","str"],P C')->P C:=fun P h=>h C hC;cases r with
 | cf =>
  cases ru;have e:k=("NoneType" == C||("NoneType" == "bool" && C == "int")):=by
   have:k=false:=(bg hk).symm;rw [this];exact lr (fun C=>false=("NoneType" == C||("NoneType" == "bool" && C == "int"))) (by decide)
  exact gC PySem.W.kitx_none I.BV iL (hl _ (by decide) e) (fun z=>nomatch z) fin
 | bl y =>
  cases ru;have e:k=("bool" == C||("bool" == "bool" && C == "int")):=by
   have:k=(C == "bool" || C == "int"):=(bg hk).symm;rw [this];exact lr (fun C=>(C == "bool" || C == "int")=("bool" == C||("bool" == "bool" && C == "int"))) (by decide)
  exact gC PySem.W.kitx_bool I.BV iL (hl _ (by decide) e) (fun z=>nomatch z) fin
 | int y =>
  obtain⟨t,rfl⟩:=ru;have e:k=("int" == C||("int" == "bool" && C == "int")):=by
   have:k=(C == "int"):=(bg hk).symm;rw [this];exact lr (fun C=>(C == "int")=("int" == C||("int" == "bool" && C == "int"))) (by decide)
  exact gC PySem.W.kitx_int I.BV iL (hl _ (by decide) e) (fun z=>nomatch z) fin
 | str y =>
  obtain⟨t,rfl⟩:=ru;have e:k=("str" == C||("str" == "bool" && C == "int")):=by
   have:k=(C == "str"):=(bg hk).symm;rw [this];exact lr (fun C=>(C == "str")=("str" == C||("str" == "bool" && C == "int"))) (by decide)
  exact gC PySem.W.kitx_str I.BV iL (hl _ (by decide) e) (fun z=>nomatch z) fin
 | tup hq rs =>
  cases ru;have e:k=("tuple" == C||("tuple" == "bool" && C == "int")):=by
   have:k=(C == "tuple"):=(bg hk).symm;rw [this];exact lr (fun C=>(C == "tuple")=("tuple" == C||("tuple" == "bool" && C == "int"))) (by decide)
  obtain⟨aZ,rv,⟨o,h1,h2,_⟩,hz⟩:=I.tuple (.of hq);exact gC PySem.W.kitx_tuple I.BV ⟨o,h1,h2⟩ (hl _ (by decide) e) (fun z=>nomatch z) fin
 | dq hq rs =>
  obtain⟨aZ,rv,pl,hz⟩:=I.list hq.sq;obtain⟨o,h1,h2,_⟩:=pl.isList;refine tl h1 h2 ?_ rfl;have:k=(C == "list"):=(bg hk).symm;rw [this];exact lr (fun C=>(C == "list")=("list" == C||("list" == "bool" && C == "int"))) (by decide)
 | pO h rs =>
  have e:k=("dict" == C||("dict" == "bool" && C == "int")):=by
   have:k=(C == "dict"):=(bg hk).symm;rw [this];exact lr (fun C=>(C == "dict")=("dict" == C||("dict" == "bool" && C == "int"))) (by decide)
  obtain⟨_,_,vs,_,ob,_,_,h1,h2,_⟩:=tJ I.cz (.inr ⟨_,h⟩);exact td h1 h2.1 e rfl
 | pN h rs =>
  have e:k=("dict" == C||("dict" == "bool" && C == "int")):=by
   have:k=(C == "dict"):=(bg hk).symm;rw [this];exact lr (fun C=>(C == "dict")=("dict" == C||("dict" == "bool" && C == "int"))) (by decide)
  obtain⟨_,_,ys,_,ob,_,_,h1,h2,_⟩:=xR I.cz (.inr ⟨_,h⟩);exact td h1 h2.1 e rfl
 | exc h=>simp [Ny] at hk
 | Bh h _=>simp [Ny] at hk
 | ref l =>
  unfold Ny at hk;dsimp only at hk;cases hg:G l with
  | none=>rw [hg] at hk; cases hk
  | some g =>
   rw [hg] at hk;cases g with
   | lst ds =>
    obtain⟨vs,hv,rs⟩:=ab.lst hg;obtain⟨aZ,rv,pl,hz⟩:=I.list (.of hv);obtain⟨o,h1,h2,_⟩:=pl.isList;refine tl h1 h2 ?_ rfl;have:k=(C == "list"):=(bg hk).symm;rw [this];exact lr (fun C=>(C == "list")=("list" == C||("list" == "bool" && C == "int"))) (by decide)
   | ins _ _=>cases hk
   | kB aY =>
    have e:k=("dict" == C||("dict" == "bool" && C == "int")):=by
     have:k=(C == "dict"):=(bg hk).symm;rw [this];exact lr (fun C=>(C == "dict")=("dict" == C||("dict" == "bool" && C == "int"))) (by decide)
    rcases ab l _ hg with ⟨kv,hv,rs⟩ | ⟨kv,hv,rs⟩
    ·obtain⟨_,_,vs,_,ob,_,_,h1,h2,_⟩:=EL I.cz hv;exact td h1 h2.1 e rfl
    ·obtain⟨_,_,ys,_,ob,_,_,h1,h2,_⟩:=Mz I.cz hv;exact td h1 h2.1 e rfl
theorem oN (C:String) (hC:C∈["int","bool","list","tuple","dict","str"]) {y:Str} {py:Pos} (hg:Gl X "isinstance") (hm:X.mg "isinstance" = none) (WL:Gl X y) (Wz:X.mg y=none) (Wj:cS y=some (.type C)) (ha:eV X a ta) (hn:autoParam (y≠"__name__") Ad._auto_1) (FY:autoParam ((y == ("__debug__" : Str))=false) Ad._auto_1)
  (he:autoParam (bQ [a,.Name y py] X.env=(false,eval a X.env) :: bQ [.Name y py] X.env) Ar._auto_1) (GV:autoParam ((i6 pos (bQ [Expr.Name y py] X.env)).any (·.1)=false) Ar._auto_1) (Tu:autoParam (bQ [.Name y py] X.env=[(false,eval (.Name y py) X.env)]) Ar._auto_1) :
  eV X (.Call (.Name "isinstance" p) [a,.Name y py] [] pos) (Bu C ta):=by
 intro E pins s σ H τ G Q hE I h;refine gZ (oq I.inv hg hm PyProof.Rows.boot_isinstance ?_);refine iT ?_ he GV;rw [he];show wpAny _ _ (x8 ((false,eval a X.env) :: i6 pos (bQ [.Name y py] X.env))) _ _ s;refine e9 (hZ ha hE I h fun v H1 d G1 u s1 I1 m1 r1 iI q1=>?_);rw [Tu];show wpAny _ _ (x8 [(false,eval (.Name y py) X.env)]) _ _ s1;refine e9 (oq I1.inv WL Wz Wj (wB ?_) hn FY)
 try dsimp only at q1
 split at q1
 ·rename_i k hk;exact eN (IT C hC I1.inv I1.ab r1 iI hk q1) fun _ _ z=>z.trans m1
 ·exact q1.elim
end
end K2
end
section
namespace K2
open PySem PySem.Spec PyProof.Rows L2
section
variable {X:Cx} {a b c e o:Expr} {es:List Expr} {ta tb tc te to:eU} {t:BG} {pos p p2 apos lq:Pos} {x name:Str} {id T:String}
noncomputable def DI(X:Cx)(id:String)(r:D->List D->Gp->DK->Prop):Prop :=
 ∀ (pins:List (Addr×Obj)) (s:aj) (σ:L2.St) (H:Hp) (G:Gp) (x:V) (d:D) (xs:List V) (ds:List D) (v:Value) (us:List Value) (Q:DK),Inv X pins σ H s->kC X.K H G->RelV x v->cb X.K H x d->Vals xs us->aX X.K H xs ds->r d ds G Q ->
  wpAny (model X.prog X.w) X.A (call (.builtin id) (v :: us)) (nA X pins σ H G Q) X.xe s
noncomputable def Oc(X:Cx)(T:String)(ty:D->Gp->Prop):Prop:=∀ (pins:List (Addr×Obj)) (s:aj) (σ:L2.St) (H:Hp) (G:Gp) (x:V) (d:D) (v:Value),Inv X pins σ H s->kC X.K H G->RelV x v->cb X.K H x d->ty d G ->
  s.TypeIs v T/\∀ a,v=.ref a->∃ ob,s.heap.get? a=some ob/\ob.dict=none
theorem i7:Oc X "list" yi:=by
 intro pins s σ H G x d v I ab r rd h;cases rd with
 | dq hq rs=>exact Cb I r (.inl ⟨rfl,_,hq.sq⟩)
 | ref l =>
  unfold yi at h;dsimp only at h;split at h
  ·rename_i ds hg;obtain⟨vs,hv,rs⟩:=ab.lst hg;exact Cb I r (.inl ⟨rfl,vs,.of hv⟩)
  ·exact h.elim
 | _=>exact bB h
theorem oJ:Oc X "str" Mb:=by
 intro pins s σ H G x d v I ab r rd h;cases rd with
 | str y=>exact Cb (T:="str") I r rfl
 | _=>exact bB h
theorem iw {ty:D->Gp->Prop} {r:D->List D->Gp->DK->Prop} (pa:PlainAttrs T) (slot:Slot T name id) (Wl:typeOf (.builtin id)=pure (.type "method_descriptor")) (ht:Oc X T ty) (hm:DI X id r) (ho:eV X o to) (ha:E5 X (e :: es) t)
  (P4:autoParam (attributeBase o name X.env (eval o X.env)=eval o X.env) Ar._auto_1)
  (Tt:autoParam (((i6 lq (bQ (e :: es) X.env)).all (fun x=>!x.1)&&(backToKw lq (keywordEach [] X.env)).all (fun x=>x.1.isSome)
   && decide ((e :: es).length+([]:List Hk).length+(if ([]:List Hk).isEmpty then 0 else 1) < 30))=true) Ar._auto_1)
  (PR:autoParam ((apos.endLine == lq.line)=true) Ar._auto_1) (hs:autoParam (bQ (e :: es) X.env=(false,eval e X.env) :: bQ es X.env) Ar._auto_1) (NG:autoParam ((i6 lq (bQ es X.env)).any (·.1)=false) Ar._auto_1) :
  eV X (.Call (.Attribute o name apos) (e :: es) [] lq) (oT ty r to t):=by
 intro E pins s σ H τ G Q hE I h;refine wpAny_Call_method_late P4 Tt PR rfl (hZ ho hE I h ?_);rintro x H1 d G1 v s1 I1 m1 r1 iI ⟨hy,q1⟩;obtain⟨h1,h2⟩:=ht pins s1 σ H1 G1 x d v I1.inv I1.ab r1 iI hy;refine⟨T,id,pa,slot,Wl,h1,h2,?_⟩;have hA:=ha lq E pins s1 σ H1 τ G1 _ hE I1 q1;rw [hs] at hA ⊢;refine Calls.callWith_builtin (by show (false||(i6 lq (bQ es X.env)).any (·.1))=false; rw [NG] <;> rfl) (Calls.evalArgs_plain ?_);exact eN hA (by rintro us s2 ⟨vs,H2,ds,G2,i5,m2,r2,yu,q2⟩; exact eN (hm pins s2 σ H2 G2 x d vs ds v us Q i5 m2.ab r1 (iI.mono (m2.kp I1.ab)) r2 yu q2) fun _ _ z=>z.trans (m1.trans m2))
theorem mw:DI X "list.append" my:=by
 intro pins s σ H G x d xs ds v us Q I ab rx rd Lb tU q;unfold my at q;split at q
 ·rename_i l d';cases rd;obtain⟨w,rfl,qB⟩:=tU.one;split at q
  ·rename_i zs hg;obtain⟨hz,q⟩:=q;obtain⟨vs,hv,rs⟩:=ab.lst hg;exact eN (xw pins s σ H _ _ v us (wX X.K H G Q) I rx Lb ⟨l,vs,w,rfl,rfl,hv,by rw [rs.length,br]; exact hz,_,_,.putL ab hg hv (rs.append (.cons qB .nil)),.cf,q⟩) fun _ _ z=>.of z
  ·exact q.elim
 ·exact q.elim
theorem Dg(l:Addr)(xs:Array Value)(n:Nat)(b:Addr)(ys:Array Value)(n2:Nat)(dd:Option Addr)(sl:Array (Option Value))(Ms:¬(!xs.isEmpty&&gY (xs.size+ys.size))=true)(hx:xs.size<=aT)(Wg:xs.size+ys.size<=aT+1) :
  Meets (Builtin.«list.extend» ⟨[.ref l,.ref b],[]⟩) (fun _ R s=>s.heap.get? l=some { cls:=.type "list",dict:=none,data:=.seq xs n,slots:=#[] }/\s.heap.get? b=some { cls:=.type "list",dict:=dd,data:=.seq ys n2,slots:=sl }/\R (.ok (.ret c6)) { s with heap:=s.heap.update l (gz fun x=>x++ys),toks:=s.toks }) :=
 .of_wp fun prog w A R s h=>by
  obtain⟨hp,g,d,tk,os⟩:=s;obtain⟨h1,h2,h3⟩:=h;have e1:=AutoSeq1.idx_int;have e2:=mX;have e3:=Ca;have e4:=AutoSeq1.sub_tuple_list;have e5:=AutoSeq1.sub_list_tuple;have SS:(xs++ys).size<=aT+1:=by rw [Array.size_append]; exact Wg
  wp_walk using (uA h1 rfl (hz:=hx) (_hz':=SS)),bH h1,bH h2
  exact⟨_,rfl,h3⟩
theorem CF:DI X "list.extend" uk:=by
 intro pins s σ H G x d xs ds v us Q I ab rx rd Lb tU q;unfold uk at q;split at q
 ·rename_i l y;cases rd;obtain⟨w,rfl,qB⟩:=tU.one;obtain⟨u,rfl,ru⟩:=Lb.one;split at q
  ·rename_i zs ys hg PV;obtain⟨hz,q⟩:=q;obtain⟨vs,hv,rs⟩:=ab.lst hg;obtain⟨b,ws,sx,rfl,Mf,Ld,hb,_⟩:=iS I ab ru qB PV;cases rx;obtain⟨z,aZ,n,r,hl,e⟩:=I.Nt hv;obtain⟨⟨cl,dd,dt,sl⟩,ho,AZ,n2,QU⟩:=hb;simp only at AZ QU;subst AZ QU;have h1:=Mf.length;have h2:=Ld.length;have h3:=rs.length;have h4:=r.length;have h5:aT=16777216:=br;have h6:SZ=16777216:=rfl;have hsz:aZ.toArray.size+sx.toArray.size<=aT:=by rw [aF,aF]; lia
   have Ms:¬ (!aZ.toArray.isEmpty&&gY (aZ.toArray.size+sx.toArray.size))=true:=by
    rw [Iy hsz,DW];exact fi
   refine v3 F.slot_list_extend ⟨_,e,rfl⟩ F.entry_list_extend (F.args_list_extend_2 _ _) (Dg l aZ.toArray n b sx.toArray n2 dd sl Ms (by rw [aF]; lia) (by lia)) ⟨e,ho,?_⟩;refine⟨.cf,_,.cf,_,I.Nu (its':=aZ++sx) hv e (by simp) (r.append Mf) ?_,.putL ab hg hv (rs.append Ld),rfl,.cf,q⟩;rw [aM];lia
  ·exact q.elim
 ·exact q.elim
theorem Nz{aZ:List Value}{u:Value}{k:Nat}(hk:k<=aZ.length):(aZ.toArray.extract 0 k).push u++aZ.toArray.extract k=(aZ.take k++u :: aZ.drop k).toArray:=by
 simp [List.extract_eq_take_drop];rw [p7 (by rw [cP]; lia)]
theorem vg:DI X "list.insert" qR:=by
 intro pins s σ H G x d xs ds v us Q I ab rx rd Lb tU q;unfold qR at q;split at q
 ·rename_i l i d';cases rd;obtain⟨w,w2,rfl,Ag,VE⟩:=tU.two;cases Ag;split at q
  ·rename_i zs hg;obtain⟨h0,h1,hz,q⟩:=q;obtain⟨vs,hv,rs⟩:=ab.lst hg;obtain⟨u1,u2,rfl,⟨t,rfl⟩,VG⟩:=vals2 Lb;cases rx;obtain⟨z,aZ,n,r,hl,e⟩:=I.Nt hv;have sz:aT=16777216:=br;have hlen:aZ.length=zs.length:=by rw [<-hl,rs.length]
   have hs:SZ=16777216:=rfl;have Ts:¬ (!Builtin.List.listFitsIndex i)=true:=by
    rw [fitsIndex_both (by lia) (by lia)];exact fi
   refine v3 F.slot_list_insert ⟨_,e,rfl⟩ F.entry_list_insert (F.args_list_insert_3 _ _ _)
    (AutoSeq1.list_insert_list_int_val_1 l aZ.toArray n i t u2 Ts (by rw [aF]; lia)) ⟨e,?_⟩
   have hi:i.toNat<=aZ.length:=by lia
   refine⟨.cf,_,.cf,_,I.Nu (its':=aZ.take i.toNat++u2 :: aZ.drop i.toNat) (ys:=vs.take i.toNat++w2 :: vs.drop i.toNat) hv e ?_ ((r.take _).append (.cons VG (r.drop _))) ?_,.putL ab hg hv ((rs.take _).append (.cons VE (rs.drop _))),rfl,.cf,q⟩
   ·dsimp only;have e1:(if i < 0 then (i+(aZ.toArray.size:Int)).toNat else min i.toNat aZ.toArray.size)=i.toNat:=by
     rw [if_neg (by lia),aF]; lia
    rw [e1];exact Nz hi
   ·rw [aM,ak,du,cP];lia
  ·exact q.elim
 ·exact q.elim
theorem FL (hu : X.A.units + 64 < cLine) : DI X "list.index" yI := by
  intro pins s σ H G x d xs ds v us Q I ab rx rd Lb tU q;unfold yI at q;split at q
  · rename_i d'
    obtain⟨hy, zs, sn, ss, hi, s1, s2, q⟩ := q;obtain⟨w, rfl, qB⟩ := tU.one;obtain⟨u, rfl, ru⟩ := Lb.one;have lists : ∃ l vs aZ, v = .ref l ∧ Vals vs aZ ∧ aX X.K H vs zs ∧ s.heap.IsList l aZ.toArray ∧ vs.length ≤ aT := by
      cases rd with
      | dq hq rs =>
        cases hi;cases rx;obtain⟨aZ, rv, pl, hz⟩ := I.list hq.sq;exact⟨_, _, aZ, rfl, rv, rs, pl.isList, hz⟩
      | ref l =>
        unfold itemsOf at hi;dsimp only at hi;cases hg : G l with
        | none => rw [hg] at hi; cases hi
        | some g =>
          rw [hg] at hi;cases g with
          | lst ds =>
            cases hi;cases rx;obtain⟨vs, hv, rs⟩ := ab.lst hg;obtain⟨aZ, rv, pl, hz⟩ := I.list (.of hv);exact⟨_, _, aZ, rfl, rv, rs, pl.isList, hz⟩
          | ins _ _ => cases hi
          | kB _ => cases hi
      | _ => exact bB hy
    obtain⟨l, vs, aZ, rfl, rv, rs, hl, hz⟩ := lists;obtain⟨as, ra⟩ := (fH I ab s1).1 w u qB ru;obtain⟨bs, rb⟩ := (fH I ab s2).2 zs ss (.inl ⟨rfl, rfl⟩) vs aZ rs rv;have d2 := EN (n := 7) s2;have n2 : nh ss = true := s2.nr;have vB := qX _ n2;have zI : X.A.units + 1 + min (bJ (jD ss)) (pd sn).depth < cLine := by lia
    have HX : fh s.heap aZ.toArray.toList (jD ss) bs := by simpa using rb
    have mp := SeqAt.readsAll_map _ _ _ vB HX;split at q
    · rename_i k hk
      obtain⟨ni, Tp, Ko⟩ := List.findIdx?_eq_some_iff_getElem.mp hk;have VT : ∀ (zz : List D), (jD zz).length = zz.length := by
        intro zz;induction zz with
        | nil => rfl
        | cons a r ih => exact congrArg Nat.succ ih
      have hlen : aZ.length = ss.length := by
        have := congrArg gM mp;rw [ag, VT] at this;simpa using this
      have at_ : ∀ (m : Nat) (h1 : m < aZ.toArray.size) (h2 : m < ss.length), qh (w8 s.heap aZ.toArray[m]) (pd sn) = fM ss[m] sn := by
        intro m h1 h2;have e1 : (aZ.toArray.toList.map (w8 s.heap))[m]? = (jD ss)[m]? := by rw [mp]
        have VU : ∀ (zz : List D) (m : Nat) (h : m < zz.length), (jD zz)[m]? = some (pd zz[m]) := by
          intro zz;induction zz with
          | nil => intro m h; simp at h
          | cons a r ih => intro m h; cases m with
            | zero => rfl
            | succ m => exact ih m (qi h)
        rw [VU ss m h2] at e1;have W9 : m < aZ.length := by simpa using h1
        have e2 : w8 s.heap aZ.toArray[m] = pd ss[m] := by
          simpa [W9] using e1
        rw [e2];have V3 : nr ss[m] = true := by
          have : ∀ (zz : List D) (m : Nat) (h : m < zz.length), nh zz = true -> nr zz[m] = true := by
            intro zz;induction zz with
            | nil => intro m h; simp at h
            | cons a r ih => intro m h hn; have Ji : nr a = true ∧ nh r = true := (h8).mp hn
                             cases m with
                             | zero => exact Ji.1
                             | succ m => exact ih m (by simpa using h) Ji.2
          exact this ss m h2 n2
        exact pU _ _ V3 s1.nr
      have sz : aT = 16777216 := br;have YE : vs.length = aZ.length := rv.length;obtain⟨⟨cls, dd, data, sl⟩, ho, hc, n, hd⟩ := id hl;simp only at hc hd;subst hc hd;have UT : k < aZ.toArray.size := by rw [aF]; lia
      refine v3 B5 ⟨_, ho, rfl⟩ PySem.F.entry_list_index (PySem.F.args_list_index_2 _ _)
        (SeqAt.list_indexAt l aZ.toArray n dd sl u (fun y => qh (w8 s.heap y) (pd sn)) k UT (by lia) ?_ ?_) ⟨ho, kE HX ra vB (iz _ s1.nr) zI, ?_⟩
      · rw [at_ k UT ni]; exact Tp
      · intro m hm Tf
        have PQ : m < ss.length := by lia
        rw [at_ m hm PQ];simpa using Ko m Tf
      · exact⟨.int k, H, .int k, G, I.tok _, .refl ab, ⟨_, rfl⟩, .int _, q⟩
    · exact q.elim
  · exact q.elim
theorem Lw:eV X (.Dict [] [] pos) ze:=by
 intro E pins s σ H τ G Q hE I h;exact eN (Ii pins s σ H (wX X.K H G Q) I.inv fun p hp=>⟨_,_,.new I.ab hp (.dk cC .nil),.ref _,h p (I.ab.free hp)⟩) fun _ _ z=>.of z
end
end K2
end
section
namespace K2
open PySem PySem.Spec PyProof.Rows L2
noncomputable def eP(env:Env):List (Str×pC)->List (Str×Addr)->List (Str×Addr)
 | [],acc=>acc
 | (n,k) :: r,acc=>if k=.free then eP env r ((n,(env.cells.lookup n).getD 0) :: acc) else eP env r acc
theorem pY(env:Env)(f:Str×pC->List (Str×Addr)->Sem (ForInStep (List (Str×Addr))))(hf:∀ n k c,f (n,k) c=if (k == iK)=true then (cellOf env n >>= fun a=>pure (o7 ((n,a) :: c))) else pure (o7 c)) :
  ∀ (ns:List (Str×pC)) (acc:List (Str×Addr)),(∀ x∈ns,x.2=.free->∃ c,env.cells.lookup x.1=some c)->forIn ns acc f=(pure (eP env ns acc):Sem (List (Str×Addr)))
 | [],acc,_=>rfl
 | (n,k) :: r,acc,h=>by
  rw [List.forIn_cons,hf];have hr:∀ x∈r,x.2=.free->∃ c,env.cells.lookup x.1=some c:=fun x hx=>h x (au _ hx);by_cases hk:k=.free
  ·subst hk;obtain⟨c,hc⟩:=h (n,.free) a7 rfl;have ec:cellOf env n=pure c:=by unfold cellOf; rw [hc]
   rw [if_pos (by decide),ec,pure_bind,pure_bind];show forIn r ((n,c) :: acc) f=_;rw [pY env f hf r _ hr];show _=(pure (eP env ((n,.free) :: r) acc):Sem (List (Str×Addr)));rw [eP,if_pos rfl,hc]; rfl
  ·rw [if_neg (by simpa using hk),pure_bind];show forIn r acc f=_;rw [pY env f hf r _ hr];show _=(pure (eP env ((n,k) :: r) acc):Sem (List (Str×Addr)));rw [eP,if_neg hk]
theorem wV{env:Env}{scope:Scope}(h:∀ x∈scope.names,x.2=.free->∃ c,env.cells.lookup x.1=some c):closureFor scope env=pure (eP env scope.names []):=by
 unfold closureFor;dsimp only;rw [pY env _ (fun n k c=>?_) scope.names [] h]
 ·rfl
 ·by_cases hk:(k == iK)=true
  ·simp only [hk,if_true]
  ·simp only [hk,if_false,av]
theorem qr{env:Env}{x:Str}{c:Addr}:∀ {ns:List (Str×pC)} {acc:List (Str×Addr)},(∀ y∈ns,y.2=.free->∃ c,env.cells.lookup y.1=some c)->(∀ y c,acc.lookup y=some c->env.cells.lookup y=some c)->(eP env ns acc).lookup x=some c->env.cells.lookup x=some c
 | [],_,_,ha,e=>ha _ _ e
 | (n,k) :: r,acc,h,ha,e=>by
  have hr:∀ y∈r,y.2=.free->∃ c,env.cells.lookup y.1=some c:=fun y hy=>h y (au _ hy);unfold eP at e;by_cases hk:k=.free
  ·rw [if_pos hk] at e;refine qr hr (fun y c' q=>?_) e;rw [kK] at q;by_cases hy:(y == n)=true
   ·rw [hy] at q;have e1:y=n:=eq_of_beq hy;subst e1;obtain⟨c0,WQ⟩:=h (y,k) a7 hk;rw [WQ] at q ⊢;exact q
   ·have SW:(y == n)=false:=by simpa using hy
    rw [SW] at q;exact ha y c' q
  ·rw [if_neg hk] at e;exact qr hr ha e
theorem lZ{env:Env}{x:Str}:∀ {ns:List (Str×pC)} {acc:List (Str×Addr)},((x,iK)∈ns\/∃ c,acc.lookup x=some c)->∃ c,(eP env ns acc).lookup x=some c
 | [],_,h=>by rcases h with h | h; exact absurd h (by simp); exact h
 | (n,k) :: r,acc,h=>by
  unfold eP;have grow:∀ a,(∃ c,acc.lookup x=some c)->∃ c,((n,a) :: acc).lookup x=some c:=fun a EH=>by
   obtain⟨c,hc⟩:=EH;rw [kK];by_cases hy:(x == n)=true
   ·rw [hy]; exact⟨_,rfl⟩
   ·have SW:(x == n)=false:=by simpa using hy
    rw [SW]; exact⟨c,hc⟩
  by_cases hk:k=.free
  ·rw [if_pos hk];refine lZ ?_;rcases h with h | h
   ·rcases List.mem_cons.mp h with e | h
    ·injection e with e1 e2
     subst e1;exact .inr ⟨(env.cells.lookup x).getD 0,by rw [kK]; simp⟩
    ·exact .inl h
   ·exact .inr (grow _ h)
  ·rw [if_neg hk];refine lZ ?_;rcases h with h | h
   ·rcases List.mem_cons.mp h with e | h
    ·injection e with e1 e2
     exact absurd e2.symm hk
    ·exact .inl h
   ·exact .inr h
noncomputable abbrev cT(X:Cx)(N:List Str)(scope:Scope)(C:Addr)(s:aj)(H:Hp)(fp:List Addr):Cx :=
 { X with env:=compEnvC scope (eP X.env scope.names []) C X.env,N:=N,kG:=s,Ka:=H,outer:=X.stack,stack:=X.stack,ex:=fp,fn:=fun _=>false,pn:=[],xe:=fun _ _=>False }
theorem qE{scope:Scope}{env:Env}{x:Str}(h:(B0 scope env).names.lookup x=some .cell\/(B0 scope env).names.lookup x=some .free)(nk:∀ y∈scope.names,y.2≠.cell):(x,iK)∈scope.names:=by
 have go:∀ k,(B0 scope env).names.lookup x=some k->k=.cell\/k=.free->(x,iK)∈scope.names:=by
  intro k hk WG;have hm:=fO hk;unfold B0 at hm;dsimp only at hm;obtain⟨⟨n,j⟩,hj,e⟩:=List.mem_map.mp hm;dsimp only at e;by_cases hc:(j == iK&&env.scope.kind == .function&&env.kindOf n == some .cell)=true
  ·rw [if_pos hc] at e;rw [az,az] at hc;injection e with e1 e2
   have ej:j=.free:=eq_of_beq hc.1.1;rw [ej,e1] at hj;exact hj
  ·rw [if_neg hc] at e;injection e with e1 e2
   subst e1;rcases WG with r | r
   ·exact absurd (e2.trans r) (nk _ hj)
   ·rw [e2.trans r] at hj; exact hj
 rcases h with h | h
 ·exact go _ h (.inl rfl)
 ·exact go _ h (.inr rfl)
section
variable {X:Cx} {N:List Str} {scope:Scope} {fp:List Addr} {pins:List (Addr×Obj)} {σ:L2.St} {H:Hp} {s:aj} {C:Addr}
theorem N6(I:Inv X pins σ H s)(nk:∀ y∈scope.names,y.2≠.cell)(xI:scope.kind=.function)(nj:∀ y∈scope.names,y.2=.free->X.env.kindOf y.1=some .cell)(hC:s.heap.objs.size<=C)(PX:∀ b∈fp,nH X pins H b/\b < s.heap.objs.size):(cT X N scope C s H fp).Ok:=by
 have AZ:∀ y∈scope.names,y.2=.free->∃ c,X.env.cells.lookup y.1=some c:=fun y hy hf=>I.ok.has _ (.inl (nj y hy hf));have ML:∀ x c,(eP X.env scope.names []).lookup x=some c->X.env.cells.lookup x=some c:=fun x c e=>qr AZ (fun y c q=>by simp at q) e;refine⟨I.ok.mod,xI,I.ok.glob,I.ok.blt,hC,fun x y c h1 h2=>I.ok.inj x y c (ML x c h1) (ML y c h2),fun x hx=>?_,fun x c h=>absurd h (by simp),I.ok.hd,I.ok.frames,.inl rfl,fun b hb=>?_,I.bs,bf I.ok.L6 I.sz,fun b o e hb=>?_,fun b hb=>?_,I.stack,I.D0⟩
 ·exact lZ (.inl (qE hx nk))
 ·obtain⟨⟨f0,f1,f2,f3,f4,f5⟩,ni⟩:=PX b hb;exact⟨bA (bp ni hC),fun x c e=>f4 x c (ML x c e)⟩
 ·obtain⟨⟨f0,f1,f2,f3,f4,f5⟩,ni⟩:=PX b hb;rcases f3 with f3 | f3
  ·exact I.ok.Iz b o e f3
  ·exact absurd (bp (aI e) (bf I.ok.L6 f3)) (cX _)
 ·obtain⟨⟨f0,f1,f2,f3,f4,f5⟩,ni⟩:=PX b hb;intro z;rcases List.mem_cons.mp (I.Ci b z) with e | e
  ·exact f1 e
  ·exact f2 e
theorem L0{pq:Heap}{m:Nat}{fr:List Nat}{tk:Nat}(I:Inv X pins σ H s)(ok:(cT X N scope s.heap.objs.size s H fp).Ok)(NM:∀ y∈scope.names,y.2≠.cell)(nj:∀ y∈scope.names,y.2=.free->X.env.kindOf y.1=some .cell)(hN:N.length=m+fr.length)
  (Tq:∀ j i x,fr[j]?=some i->N[m+j]?=some x->X.N[i]?=some x/\X.env.scope.names.lookup x=some .cell/\(B0 scope X.env).names.lookup x=some .cell) (Jg:∃ mm,pq.Ns s.heap.objs.size mm) (hk:∀ b o,s.heap.get? b=some o->pq.get? b=some o) :
  Inv (cT X N scope s.heap.objs.size s H fp) [] (aU m none++fr.map fun i=>(σ[i]?).getD none) H { s with heap:=pq,toks:=tk }:=by
 have AZ:∀ y∈scope.names,y.2=.free->∃ c,X.env.cells.lookup y.1=some c:=fun y hy hf=>I.ok.has _ (.inl (nj y hy hf));have ML:∀ x c,(eP X.env scope.names []).lookup x=some c->X.env.cells.lookup x=some c:=fun x c e=>qr AZ (fun y c q=>by simp at q) e;obtain⟨mm,Jg⟩:=Jg;refine⟨ok,rfl,I.bare,Un.kept hk,⟨mm,Jg,fun i x v h1 h2 h3=>?_⟩,fun x c e=>?_,I.cz.fresh (ay _),fun x c e=>?_,fun p hp=>absurd hp (by simp),I.cz.kept hk,?_⟩
 ·by_cases hi:i < m
  ·rw [bS (by simpa using hi),jt] at h2;split at h2 <;> cases h2
  ·obtain⟨j,rfl⟩:∃ j,i=m+j:=⟨i - m,by lia⟩;rw [bC (by simp),dP,pK,a5] at h2;cases hj:fr[j]? with
   | none=>rw [hj] at h2; cases h2
   | some k =>
    rw [hj] at h2;have Jn:(σ[k]?).getD none=some v:=by simpa using h2
    have Kq:σ[k]?=some (some v):=by
     cases q:σ[k]? with
     | none=>rw [q] at Jn; cases Jn
     | some o=>rw [q] at Jn; simp at Jn; rw [Jn]
    obtain⟨e1,e2,e3⟩:=Tq j k x hj h1;obtain⟨m0,UO,US⟩:=I.loc;obtain⟨u,r,l⟩:=US k x v e1 Kq (.inr (.inl e2));refine⟨u,r,.inr ⟨.inl e3,?_⟩⟩;rcases l with ⟨l1,_⟩ | ⟨_,c,hc,nk⟩
    ·have:X.env.scope.names.lookup x=some .local:=l1;rw [e2] at this; cases this
    ·have hx:(x,iK)∈scope.names:=qE (.inl e3) NM;obtain⟨c',Mw⟩:=lZ (env:=X.env) (x:=x) (ns:=scope.names) (acc:=[]) (.inl hx);have:=ML x c' Mw;rw [hc] at this;have ec:c=c':=bg this;subst ec;obtain⟨oc,OA,hd⟩:=nk;exact⟨c,Mw,oc,hk _ _ OA,hd⟩
 ·obtain⟨v,oc,OA,hd⟩:=I.cell x c (ML x c e);exact⟨v,oc,hk _ _ OA,hd⟩
 ·exact I.nq x c (ML x c e)
 ·rw [aM,dP,ag];exact hN.symm
theorem zg{prog:bx}{w:World}{A:cM}{R:Result->aj->Prop}{s:aj}{elt target iter:Expr}{ifs:List Expr}{sc:Scope}{pos:Pos}{it acc:Value}{env:Env}(J:Nat->aj->Prop)
  (turn:∀ n s,J n s->wpAny (model prog w) A (pB it) (fun r dR=>match r with
   | none=>R (.ok .next) dR
   | some v=>wpAny (model prog w) A (uD target it v) (fun _ OY=>wpAny (model prog w) A (Hj target env v) (fun _ iH =>
     wpAny (model prog w) A (forIn ifs true fun c r=>if r=true then do let ok ← isTrue c env (eval c env); pure (o7 ok) else pure (o7 r)) (fun k HD =>
      if k=true then wpAny (model prog w) A (eval elt env) (fun x Fj=>wpAny (model prog w) A (call (.builtin "list.append") [acc,x]) (fun _ HC=>∃ m,m < n/\J m HC) (fun _ _=>False) Fj) (fun _ _=>False) HD
      else ∃ m,m < n/\J m HD) (fun _ _=>False) iH) (fun _ _=>False) OY) (fun _ _=>False) dR) (fun _ _=>False) s) (n:Nat) (h:J n s) :
  rY (model prog w) A (.compLoop (.ListComp elt [⟨target,iter,ifs,0⟩] sc pos) 0 it acc env) R s:=by
 have no:∀ {α:Type} {t:Sem α} {Q:α->aj->Prop} {E:Value->aj->Prop} {s:aj},wpAny (model prog w) A t Q (fun _ _=>False) s->wpAny (model prog w) A t Q E s:=fun h=>k7 h (fun _ _ q=>q) fun _ _ z=>z.elim;refine codeAny_loop rfl J (fun n s hJ=>?_) n h;show wpAny _ A ((compTurn (.ListComp elt [⟨target,iter,ifs,0⟩] sc pos) 0 it acc env).onRaise (fun x=>do noteFrame x env; theTreesLotGoes x)) _ _ s;refine wpAny_noted ?_;rw [compTurn_list];refine ae (wpAny_standAt (ae (eN (no (turn n s hJ)) fun r dR pq=>?_)));cases r with
 | none=>exact aq pq
 | some v =>
  refine ae (eN (no pq) fun _ iH CQ=>ae (eN (no CQ) fun _ HD SR=>ae (eN (no SR) fun k Fj PF=>?_)));cases k with
  | false=>exact aq ⟨rfl,PF⟩
  | true=>exact ae (ae (eN (no PF) fun x HC SQ=>ae (eN (no SQ) fun _ Vy SO=>aq (aq ⟨rfl,SO⟩))))
noncomputable def CompEnd(X:Cx)(pins:List (Addr×Obj))(σ:L2.St)(H:Hp)(G:Gp)(Q:DK)(C Dd:Addr)(s':aj):Prop :=
 ∃ m H' G',Inv X pins σ H' s'/\s'.heap.Ns C m/\nH X pins H' C/\Mv X.K H G H' G'/\Q (.ref Dd) G'
inductive Og (Xc:Cx):List Expr->Option tM->Prop
 | none:Og Xc [] none
 | some {c:Expr} {t:tM}:DA Xc c t->Og Xc [c] (some t)
theorem xT{τ:fD}{G G2:Gp}{H2:Hp}{s2:aj}{tg elt iter:Expr}{ifs:List Expr}{pos:Pos}{m:Nat}{fr:List Nat}{E:jY}{g:wj}{c:Option tM}{te:eU}{J:It}{tn:Nat->Heap->Prop}{it:Addr}{ds:List D}{ok:Gp->Prop}{Q:DK}{Rr:Value->Addr->Result->aj->Prop}{E0:Value->aj->Prop}
  (hc:X.calm=true) (nk:∀ y∈scope.names,y.2≠.cell) (xI:scope.kind=.function) (nj:∀ y∈scope.names,y.2=.free->X.env.kindOf y.1=some .cell) (hN:N.length=m+fr.length)
  (Tq:∀ j i x,fr[j]?=some i->N[m+j]?=some x->X.N[i]?=some x/\X.env.scope.names.lookup x=some .cell/\(B0 scope X.env).names.lookup x=some .cell)
  (hg:∀ C s H fp,GY (cT X N scope C s H fp) tg g) (hi:∀ C s H fp,Og (cT X N scope C s H fp) ifs c) (he:∀ C s H fp,eV (cT X N scope C s H fp) elt te)
  (I:I2 X pins σ H2 τ G2 s2) (m2:Mv X.K H G H2 G2) (T:Turn X.prog X.w X.K tg J fp it tn) (Me:tn 0 s2.heap) (f2:∀ b∈fp,nH X pins H2 b) (wk:MC X.K J H2 ds ok) (hz:ds.length<=SZ)
  (TF:∀ ex G,¬ E ex G) (q:fZ g c te ok ds E (sJ m fr τ) G2 [] fun xs G3=>jl G3 (.lst xs) Q)
  (fin:∀ C s',CompEnd X pins σ H G Q C s2.heap.objs.size s'->Rr (.ref s2.heap.objs.size) C (.ok .next) s') :
  wpAny (model X.prog X.w) X.A (newList []) (fun acc HD=>wpAny (model X.prog X.w) X.A (newFunctionEnv scope X.env.globals (eP X.env scope.names []) [] X.env.qual none .none (some X.env)) (fun Qo Fj =>
   rY (model X.prog X.w) X.A (.compStart (.ListComp elt [⟨tg,iter,ifs,0⟩] scope pos) 0 (.ref it) acc { Qo with scope:=B0 scope X.env }) (Rr acc Qo.locals) Fj) E0 HD) E0 s2:=by
 have sz:aT=16777216:=br;have sA:H2 s2.heap.objs.size=none:=I.inv.cz.fresh (ay _);have NS:G2 s2.heap.objs.size=none:=I.ab.free sA;refine cH (wpAny_newFunctionEnv nk (by intro y hy; simp at hy) (fun pq Jf Ja=>?_) xI);dsimp only at Jf Ja ⊢;have I3:Inv X pins σ (upd H2 s2.heap.objs.size (.lst [])) { s2 with heap:=s2.heap.push { cls:=.type "list",data:=.seq ([]:List Value).toArray },toks:=s2.toks }:=I.inv.SE (ys:=[]) .nil (bR _);generalize UG:({ s2 with heap:=s2.heap.push { cls:=.type "list",data:=.seq ([]:List Value).toArray },toks:=s2.toks }:aj)=s3 at I3;generalize P7:upd H2 s2.heap.objs.size (.lst [])=H3 at I3;have U9:∀ b,b≠s2.heap.objs.size->H3 b=H2 b:=fun b hb=>by rw [<-P7,bI hb]
 have AY:s3.heap=s2.heap.push { cls:=.type "list",data:=.seq ([]:List Value).toArray }:=by rw [<-UG]
 have O5:s3.heap.objs.size=s2.heap.objs.size+1:=by rw [AY,iF]
 have Jk:∀ b∈fp,b < s2.heap.objs.size:=fun b hb=>by
  obtain⟨o,e,_⟩:=T.obj _ _ Me b hb;exact aI e
 have PW:∀ b∈fp,nH X pins H3 b/\b < s3.heap.objs.size:=fun b hb=>by
  have Mx:=Jk b hb;obtain⟨f0,f1⟩:=f2 b hb;exact⟨⟨by rw [U9 b (bA Mx)]; exact f0,f1⟩,bp Mx (by rw [O5]; exact lY _)⟩
 have QK:(cT X N scope s3.heap.objs.size s3 H3 fp).Ok:=N6 I3 nk xI nj (ay _) PW;have Mt:∀ b o,s3.heap.get? b=some o->pq.get? b=some o:=fun b o e=>by
  have hb:b < s3.heap.objs.size:=aI e;refine Ja.extBut b o ?_ (aw _ ?_)
  ·rw [<-AY]; exact bA hb
  ·rw [<-AY]; exact e
 have Td:∃ mm,pq.Ns s3.heap.objs.size mm:=⟨_,by rw [AY]; exact Jf⟩;have I4:=L0 (tk:=s3.toks+([]:List (Str×Value)).length) I3 QK nk nj hN Tq Td Mt;have SJ:Kp H2 H3:=by rw [<-P7]; exact .new sA
 have MB:kC X.K H3 G2:=by rw [<-P7]; exact(Mv.Kr I.ab sA).ab
 have V8:Mv X.K H2 G2 H3 G2:=by rw [<-P7]; exact .Kr I.ab sA
 have QG:Ha X.K H3 (aU m none++fr.map fun i=>(σ[i]?).getD none) (sJ m fr τ):=by
  refine⟨by unfold sJ; rw [aM,aM,ag,ag,dP,dP],fun i d h2=>?_⟩;unfold sJ at h2;by_cases hi:i < m
  ·rw [bS (by simpa using hi),jt] at h2;split at h2 <;> cases h2
  ·obtain⟨j,rfl⟩:∃ j,i=m+j:=⟨i - m,by lia⟩;rw [bC (by simp),dP,pK,a5] at h2;rw [bC (by simp),dP,pK,a5];cases hj:fr[j]? with
   | none=>rw [hj] at h2; cases h2
   | some k =>
    rw [hj] at h2;have Jn:(τ[k]?).getD none=some d:=by simpa using h2
    have Kq:τ[k]?=some (some d):=by
     cases qq:τ[k]? with
     | none=>rw [qq] at Jn; cases Jn
     | some o=>rw [qq] at Jn; simp at Jn; rw [Jn]
    obtain⟨v,e1,e2⟩:=I.st.at' k d Kq;exact⟨v,by simp [e1],e2.mono SJ⟩
 have W5:H3 s2.heap.objs.size=some (.lst []):=by rw [<-P7,cC]
 have O3:tn 0 pq:=T.keep _ _ _ Me fun b hb o e=>Mt b o (by rw [AY]; exact aw _ e);have HG:∀ {Hc:Hp},(∀ b∈fp,Hc b=none)->∀ b∈fp,nH (cT X N scope s3.heap.objs.size s3 H3 fp) [] Hc b:=fun hn b hb =>
  ⟨hn b hb,(QK.Q4 b hb).1,QK.JA b hb,.inl hb,fun x c e=>(QK.Q4 b hb).2 x c e,fun p hp=>absurd hp (by simp)⟩
 have V5:∀ b∈fp,b≠s2.heap.objs.size:=fun b hb=>bA (Jk b hb);have loop:rY (model X.prog X.w) X.A (.compLoop (.ListComp elt [⟨tg,iter,ifs,0⟩] scope pos) 0 (.ref it) (.ref s2.heap.objs.size) (cT X N scope s3.heap.objs.size s3 H3 fp).env) (Rr (.ref s2.heap.objs.size) s3.heap.objs.size)
   { s3 with heap:=pq,toks:=s3.toks+([]:List (Str×Value)).length }:=by
  refine zg (fun n s'=>∃ i Ki Hc Hm Gc pZ rK,I2 (cT X N scope s3.heap.objs.size s3 H3 fp) [] Ki Hc Hm Gc s'/\Gc s2.heap.objs.size=none/\Hc s2.heap.objs.size=some (.lst pZ)/\aX X.K Hc pZ rK/\rK.length<=i/\Mv X.K H2 G2 Hc Gc/\tn i s'.heap/\(∀ b∈fp,Hc b=none) /\
   n=ds.length - i/\i<=ds.length/\fZ g c te ok (ds.drop i) E Hm Gc rK fun xs G3=>jl G3 (.lst xs) Q) ?_ ds.length
   ⟨0,_,H3,_,G2,[],[],⟨I4,QG,MB⟩,NS,W5,.nil,ay _,V8,O3,fun b hb=>by rw [U9 b (V5 b hb)]; exact(f2 b hb).1,rfl,bR _,q⟩
  rintro n s4 ⟨i,Ki,Hc,Hm,Gc,pZ,rK,Ic,gD,hD,rA,hA,mc,Uc,U6,rfl,hle,wq⟩;have UA:Kp H2 Hc:=mc.kp I.ab;by_cases ni:i < ds.length
  ·rw [cA ni] at wq;obtain⟨R5,wq⟩:=wq;obtain⟨go,yl⟩:=(wk i Hc Gc UA Ic.ab R5).1 ds[i] (by simp [ni]);refine eN (T.item (cT X N scope s3.heap.objs.size s3 H3 fp) rfl rfl rfl hc i [] s4 Ki Hc (fun _ _=>False) Ic.inv (HG U6) Uc go) ?_;rintro r s5 ⟨u,hr,h5⟩;subst hr;refine eN h5 ?_;rintro _ s6 ⟨x,H6,I6,r6,y6,RJ,Xd⟩;obtain⟨VL,m6⟩:=yl x H6 y6;have Yq:=I6.pinned (HG Xd) (T.obj _ _ RJ);have J6:I2 (cT X N scope s3.heap.objs.size s3 H3 fp) ([]++n8 fp s6.heap) Ki H6 Hm Gc s6:=⟨Yq,Ic.st.mono (m6.kp Ic.ab),m6.ab⟩;have back:∀ {Rz:L2.St} {H9:Hp} {QB:fD} {G9:Gp} {s9:aj} {aV:List V} {aD:List D},I2 (cT X N scope s3.heap.objs.size s3 H3 fp) ([]++n8 fp s6.heap) Rz H9 QB G9 s9->Mv X.K H2 G2 H9 G9->G9 s2.heap.objs.size=none->H9 s2.heap.objs.size=some (.lst aV)->aX X.K H9 aV aD->aD.length<=i+1 ->
     (fZ g c te ok (ds.drop (i+1)) E QB G9 aD fun xs G3=>jl G3 (.lst xs) Q)->∃ mm,mm < ds.length - i/\∃ i Ki Hc Hm Gc pZ rK,I2 (cT X N scope s3.heap.objs.size s3 H3 fp) [] Ki Hc Hm Gc s9/\Gc s2.heap.objs.size=none/\Hc s2.heap.objs.size=some (.lst pZ)/\aX X.K Hc pZ rK/\rK.length<=i /\
      Mv X.K H2 G2 Hc Gc/\tn i s9.heap/\(∀ b∈fp,Hc b=none)/\mm=ds.length - i/\i<=ds.length/\fZ g c te ok (ds.drop i) E Hm Gc rK fun xs G3=>jl G3 (.lst xs) Q:=fun {Rz H9 QB G9 s9 aV aD} I9 m9 g9 h9 r9 l9 n9=>by
    refine⟨ds.length - (i+1),by lia,i+1,Rz,H9,QB,G9,aV,aD,⟨I9.inv.qm,I9.st,I9.ab⟩,g9,h9,r9,l9,m9,T.keep _ _ _ RJ fun b hb o e=>(I9.inv.pin (b,o) (cq _ (cq _ (mx hb e)))).1,fun b hb=>?_,rfl,ni,n9⟩;obtain⟨o,e,d⟩:=T.obj _ _ RJ b hb;exact(I9.inv.pin (b,o) (cq _ (cq _ (mx hb e)))).2.1
   have V9:=mc.trans m6;have W4:=m6.keep _ _ hD gD;refine eN (hg _ _ _ _ E _ s6 Ki H6 Hm Gc x ds[i] u _ (Lk.none TF) J6 r6 VL wq) ?_;rintro _ s7 ⟨GR,H7,GQ,G7,I7,m7,q7⟩;have Q0:=m7.keep _ _ W4.1 gD;have Ux:=V9.trans m7;have Uj:=rA.mono ((m6.trans m7).kp Ic.ab);have Qh:∀ (H8:Hp) (G8:Gp) (s8:aj),I2 (cT X N scope s3.heap.objs.size s3 H3 fp) ([]++n8 fp s6.heap) GR H8 GQ G8 s8->Mv X.K H7 G7 H8 G8->(te E GQ G8 fun y G9=>fZ g c te ok (ds.drop (i+1)) E GQ G9 (rK++[y]) fun xs G3=>jl G3 (.lst xs) Q) ->
     wpAny (model X.prog X.w) X.A (eval elt (cT X N scope s3.heap.objs.size s3 H3 fp).env) (fun y Fj=>wpAny (model X.prog X.w) X.A (call (.builtin "list.append") [.ref s2.heap.objs.size,y]) (fun _ HC=>∃ mm,mm < ds.length - i/\∃ i Ki Hc Hm Gc pZ rK,I2 (cT X N scope s3.heap.objs.size s3 H3 fp) [] Ki Hc Hm Gc HC/\Gc s2.heap.objs.size=none/\Hc s2.heap.objs.size=some (.lst pZ)/\aX X.K Hc pZ rK/\rK.length<=i /\
      Mv X.K H2 G2 Hc Gc/\tn i HC.heap/\(∀ b∈fp,Hc b=none)/\mm=ds.length - i/\i<=ds.length/\fZ g c te ok (ds.drop i) E Hm Gc rK fun xs G3=>jl G3 (.lst xs) Q) (fun _ _=>False) Fj) (fun _ _=>False) s8:=fun H8 G8 s8 I8 m8 q8=>by
    refine hZ (he _ _ _ _) (Lk.none TF) I8 q8 fun v H9 d9 G9 u9 s9 I9 m9 r9 VI q9=>?_;have SD:=m8.trans m9;have QZ:=SD.keep _ _ Q0.1 Q0.2;have VO:=Uj.mono (SD.kp I7.ab);have Uw:=Ux.trans SD;refine eN (xw (X:=cT X N scope s3.heap.objs.size s3 H3 fp) _ s9 GR H9 (.ref s2.heap.objs.size) [v] _ [u9] (fun _ H'=>H'=upd H9 s2.heap.objs.size (.lst (pZ++[v]))) I9.inv rfl (.cons r9 .nil)
     ⟨_,pZ,v,rfl,rfl,QZ.1,by rw [rA.length,sz]; have:SZ=16777216:=rfl; lia,rfl⟩) ?_
    rintro _ Yz ⟨v10,YV,Ys,_,Xz⟩;subst Xz;have SI:Kp H9 (upd H9 s2.heap.objs.size (.lst (pZ++[v]))):=.putL QZ.1;have Vc:kC X.K (upd H9 s2.heap.objs.size (.lst (pZ++[v]))) G9:=fun a g' e=>by
     have ne:a≠s2.heap.objs.size:=by rintro rfl; rw [QZ.2] at e; cases e
     exact(I9.ab a g' e).mono SI (bI ne)
    have mA:Mv X.K H2 G2 (upd H9 s2.heap.objs.size (.lst (pZ++[v]))) G9:=⟨fun a o e n=>by
      have ne:a≠s2.heap.objs.size:=cU e sA;obtain⟨e1,e2⟩:=Uw.keep a o e n;exact⟨by rw [bI ne]; exact e1,e2⟩,fun a n=>by
      by_cases ha:a=s2.heap.objs.size
      ·rw [ha,cC]; simp
      ·rw [bI ha]; exact Uw.la a n,Vc⟩
    exact back ⟨Ys,I9.st.mono SI,Vc⟩ mA QZ.2 cC ((VO.append (.cons VI .nil)).mono SI) (by rw [aM,bX]; lia) q9
   cases hi s3.heap.objs.size s3 H3 fp with
   | none =>
    refine wpAny_tests_nil ?_;rw [if_pos rfl];exact Qh H7 G7 s7 I7 (.refl I7.ab) q7
   | some P1 =>
    refine wpAny_tests_one (HA P1 (Lk.none TF) I7 q7 fun k H8 G8 s8 I8 m8 q8=>?_);cases k with
    | true =>
     rw [if_pos rfl] at q8 ⊢;exact Qh H8 G8 s8 I8 m8 q8
    | false =>
     rw [if_neg fi] at q8 ⊢;have U3:=m8.keep _ _ Q0.1 Q0.2;exact back I8 (Ux.trans m8) U3.2 U3.1 (Uj.mono (m8.kp I7.ab)) (by lia) q8
  ·have hn:ds.length<=i:=by lia
   rw [jK hn] at wq;obtain⟨R5,qn⟩:=wq;have stop:=(wk i Hc Gc UA Ic.ab R5).2 hn;refine eN (T.done (cT X N scope s3.heap.objs.size s3 H3 fp) rfl rfl rfl hc i [] s4 Ki Hc (fun _ _=>False) Ic.inv (HG U6) Uc stop) ?_;rintro r s5 ⟨hr,I5⟩;subst hr;refine fin s3.heap.objs.size s5 ?_;obtain⟨mm,Te,_⟩:=I5.loc;have W7:Hc s3.heap.objs.size=none:=I5.free;have I6:Inv X pins σ Hc s5:=by
    obtain⟨h5,g5,d5,t5,o5⟩:=s5;have eo:o5=s3.os:=I5.os;subst eo;exact I3.call (h':=h5) (g':=g5) (d':=d5) (t':=t5) (ch:=fp) I5.base I5.cz I5.bare fun b hb=>by
     obtain⟨⟨f0,f1,YQ,f3,f4,f5⟩,hl⟩:=PW b hb;exact⟨f3,f1,f4,f5⟩
   have V7:Mv X.K H2 G2 Hc (cY Gc s2.heap.objs.size (.lst rK)):=⟨fun a o e n=>by
     have ne:a≠s2.heap.objs.size:=cU e sA;obtain⟨e1,e2⟩:=mc.keep a o e n;exact⟨e1,by rw [cQ ne]; exact e2⟩,mc.la,fun a g' e=>by
     by_cases ha:a=s2.heap.objs.size
     ·subst ha;rw [aS] at e;cases e;exact⟨pZ,hD,rA⟩
     ·rw [cQ ha] at e;exact Ic.ab a g' e⟩
   exact⟨mm,Hc,_,I6,Te,I3.CZ (ay _) W7,m2.trans V7,qn _ gD⟩
 have all:rY (model X.prog X.w) X.A (.compStart (.ListComp elt [⟨tg,iter,ifs,0⟩] scope pos) 0 (.ref it) (.ref s2.heap.objs.size) (cT X N scope s3.heap.objs.size s3 H3 fp).env) (Rr (.ref s2.heap.objs.size) s3.heap.objs.size)
   { s3 with heap:=pq,toks:=s3.toks+([]:List (Str×Value)).length }:=codeAny_compStart_list loop (T.self _ 0 _ _ _ O3 loop)
 subst UG;exact all
end
end K2
end
section
namespace K2
open PySem PySem.Spec PyProof.Rows L2
section
variable {X:Cx} {N:List Str} {scope:Scope} {tg elt iter:Expr} {ifs:List Expr} {pos:Pos} {m:Nat} {fr:List Nat} {wi:Ks} {g:wj} {c:Option tM} {te:eU}
structure vZ(X:Cx)(N:List Str)(scope:Scope)(m:Nat)(fr:List Nat):Prop where
 cell:∀ y∈scope.names,y.2≠.cell
 kind:scope.kind=.function
 names:∀ y∈scope.names,y.2=.local->scope.names.lookup y.1=some .local
 free:∀ y∈scope.names,y.2=.free->X.env.kindOf y.1=some .cell
 len:N.length=m+fr.length
 at':∀ j i x,fr[j]?=some i->N[m+j]?=some x->X.N[i]?=some x/\X.env.scope.names.lookup x=some .cell/\(B0 scope X.env).names.lookup x=some .cell
theorem vZ.closed{X:Cx}{N:List Str}{scope:Scope}{m:Nat}{fr:List Nat}(k:vZ X N scope m fr){pins:List (Addr×Obj)}{σ:L2.St}{H:Hp}{s:aj}(I:Inv X pins σ H s):closureFor scope X.env=pure (eP X.env scope.names []) :=
 wV fun y hy hf=>I.ok.has _ (.inl (k.free y hy hf))
theorem FG(hc:X.calm=true)(k:vZ X N scope m fr)(hi:Kv X tg iter wi)(hg:∀ C s H fp,GY (cT X N scope C s H fp) tg g)(NL:∀ C s H fp,Og (cT X N scope C s H fp) ifs c)(he:∀ C s H fp,eV (cT X N scope C s H fp) elt te)
  (hs:autoParam (∀ x,k8 iter X.env x=pure x) Ai._auto_1):eV X (.ListComp elt [⟨tg,iter,ifs,0⟩] scope pos) (eA m fr wi g c te):=by
 intro E pins s σ H τ G Q hE I h;rw [eval_ListComp];refine wpAny_comprehension_free (use:=none) rfl hs (k.closed I.inv) k.kind k.names (eN (hi E pins s σ H τ G _ hE I h) fun xv dR pq=>eN pq fun Mp iH CQ=>?_);obtain⟨it,fp,tn,J,H2,G2,ds,ok,e,i5,m2,T,Me,f2,wk,hz,q⟩:=CQ;subst e;refine xT (Rr:=fun acc C=>compPost (model X.prog X.w) X.A X.xe none (nA X pins σ H G Q) acc C) hc k.cell k.kind k.free k.len k.at' hg NL he (I.mv i5 m2) m2 T Me f2 wk hz (fun _ _ z=>z) q ?_;rintro C s' ⟨mm,H',G',I',Jg,TJ,mv,q'⟩;refine⟨mm,Jg,fun h' Oy=>?_⟩;obtain⟨f0,f1,_,f3,f4,f5⟩:=TJ;exact⟨.ref _,H',.ref _,G',I'.turned (t':=s'.toks) (fun b o hb e=>Oy.extBut b o hb e) f0 f1 f3 f4 f5,mv,rfl,.ref _,q'⟩
theorem Ax{i:Nat}{y:Str}{py HL:Pos}(hN:X.N.Nodup)(SV:X.N[i]?=some y)(hy:X.env.scope.names.lookup y=some .local)(hc:X.calm=true)(k:vZ X N scope m fr)(hi:Kv X tg iter wi)(hg:∀ C s H fp,GY (cT X N scope C s H fp) tg g)
  (NL:∀ C s H fp,Og (cT X N scope C s H fp) ifs c) (he:∀ C s H fp,eV (cT X N scope C s H fp) elt te) (S5:autoParam (zO (.ListComp elt [⟨tg,iter,ifs,0⟩] scope pos) (some (.Name y py)) HL.line X.env=pure true) Ar._auto_1)
  (hs:autoParam (∀ x,k8 iter X.env x=pure x) Ai._auto_1):DB X (.Assign [.Name y py] (.ListComp elt [⟨tg,iter,ifs,0⟩] scope pos) HL) (c9 (eA m fr wi g c te) (a6 i)):=by
 intro E pins s σ H τ G D hE I h;rw [exec_Assign_Name_used _ _ _ _ S5];refine ae (wpAny_standAt (ae ?_));show wpAny _ X.A (do let _ ← comprehension (.ListComp elt [⟨tg,iter,ifs,0⟩] scope pos) scope X.env _ (newList []) false (eval iter X.env) (some (Hj (.Name y py) X.env))) _ _ s;refine ae (eN (wpAny_comprehension_free (use:=some (Hj (.Name y py) X.env)) (Q:=fun _ s'=>Of X pins H G D .next s') rfl hs (k.closed I.inv) k.kind k.names (eN (hi E pins s σ H τ G _ hE I h) fun xv dR pq=>eN pq fun Mp iH CQ=>?_)) fun _ s' hq=>aq (aq hq));obtain⟨it,fp,tn,J,H2,G2,ds,ok,e,i5,m2,T,Me,f2,wk,hz,q⟩:=CQ;subst e;refine xT (Rr:=fun acc C=>compPost (model X.prog X.w) X.A X.xe (some (Hj (.Name y py) X.env)) (fun _ s'=>Of X pins H G D .next s') acc C) hc k.cell k.kind k.free k.len k.at' hg NL he (I.mv i5 m2) m2 T Me f2 wk hz (fun _ _ z=>z) q ?_;rintro C s' ⟨mm,H',G',I',Jg,TJ,mv,q'⟩;show wpAny (model X.prog X.w) X.A (Hj (.Name y py) X.env (.ref iH.heap.objs.size)) _ X.xe s';obtain⟨f0,f1,_,f3,f4,f5⟩:=TJ;refine wpAny_assign_Name (xg (v:=.ref iH.heap.objs.size) I' hN SV (.inl hy) rfl (?_) (.inr hy));rintro s3 I3 ⟨a,QR,ha⟩;have W6:C≠a:=by
  rcases ha with rfl | ha
  ·exact f1
  ·exact fun e=>f4 y a ha e.symm
 refine⟨mm,Jg.sameBut QR W6,fun h' Oy=>?_⟩;exact⟨_,H',_,G',⟨I3.turned (t':=s3.toks) (fun b o hb e=>Oy.extBut b o hb e) f0 f1 f3 f4 f5,(I.st.mono (mv.kp I.ab)).set i (.ref _),mv.ab⟩,mv,q'⟩
theorem gw{i:Nat}{u:zu}{n:Nat}(h:∀ E ds τ G Q,u E ds τ G Q->ds.length=n):∀ E ds τ G Q,jh (a6 i) u E ds τ G Q->ds.length=n+1 :=
 Ga h (fun _ _ _ _ _ _ q k=>k _ _ q) fun _ _ _ _ q=>q
theorem ck (i:Nat) {x:Str} {pos:Pos} (hN:autoParam (X.N[i]?=some x) Ar._auto_1) (hv:autoParam (OG X.env.scope x) Ao._auto_1) (hd:autoParam ((x == ("__debug__" : Str))=false) Ad._auto_1)
  (yS:autoParam ((x == ("__classdict__" : Str))=false) Ad._auto_1):eV X (.Name x pos) (aE i):=Ls hN hv hd yS
theorem range_all(bs:List Bool):(bW bs.length).all (fun i=>bs.getD i true)=bs.all id:=by
 rw [Bool.eq_iff_iff,gf,gf];constructor
 ·intro h b hb;obtain⟨i,hi,e⟩:=cN hb;have:=h i (List.mem_range.mpr hi);rw [aC,ah hi,e] at this;exact this
 ·intro h i hi;have CT:=List.mem_range.mp hi;rw [aC,ah CT];exact h _ (bD CT)
theorem uT{K:af}{H:Hp}:∀ {vs:List V} {bs:List Bool} {aZ:List Value},aX K H vs (bs.map D.bl)->Vals vs aZ->aZ=bs.map wo
 | _,[],_,r,h=>by rw [a8] at r; rw [r.zero] at h; cases h; rfl
 | _,b :: bs,_,r,h=>by
  rw [ax] at r;cases r with
  | cons r1 r2 =>
   cases r1;cases h with
   | cons h1 h2 =>
    cases h1;rw [uT r2 h2]; rfl
theorem vp{pins:List (Addr×Obj)}{s:aj}{σ:L2.St}{H:Hp}{G:Gp}{x:V}{d:D}{v:Value}{zs:List D}(I:Inv X pins σ H s)(ab:kC X.K H G)(rx:RelV x v)(rd:cb X.K H x d)(hi:itemsOf d G=some zs) :
  ∃ l vs aZ,v=.ref l/\Vals vs aZ/\aX X.K H vs zs/\(s.heap.IsList l aZ.toArray\/s.heap.IsTuple l aZ.toArray)/\vs.length<=aT:=by
 cases rd with
 | dq hq rs =>
  cases hi;cases rx;obtain⟨aZ,rv,pl,hz⟩:=I.list hq.sq;exact⟨_,_,aZ,rfl,rv,rs,.inl pl.isList,hz⟩
 | tup hq rs =>
  cases hi;cases rx;obtain⟨aZ,rv,pl,hz⟩:=I.tuple (.of hq);exact⟨_,_,aZ,rfl,rv,rs,.inr pl,hz⟩
 | ref l =>
  unfold itemsOf at hi;dsimp only at hi;cases hg:G l with
  | none=>rw [hg] at hi; cases hi
  | some gg =>
   rw [hg] at hi;cases gg with
   | lst ds =>
    cases hi;cases rx;obtain⟨vs,hv,rs⟩:=ab.lst hg;obtain⟨aZ,rv,pl,hz⟩:=I.list (.of hv);exact⟨_,_,aZ,rfl,rv,rs,.inl pl.isList,hz⟩
   | ins _ _=>cases hi
   | kB _=>cases hi
 | _=>cases hi
theorem xV (hc:X.calm=true):ly X (.builtin "all") L3:=by
 intro pins s σ H G xs ds us Q I ab rx rd q;unfold L3 at q;split at q
 ·rename_i x;obtain⟨bs,hb,q⟩:=q;obtain⟨v,rfl,r⟩:=rd.one;obtain⟨u,rfl,ru⟩:=rx.one;obtain⟨l,vs,aZ,rfl,rv,rs,hl,hz⟩:=vp I ab ru r hb;have ei:=uT rs rv;have hlen:aZ.length=bs.length:=by rw [ei,ag]
  have iY:∀ {o:Obj},s.heap.get? l=some o->l≠s.heap.objs.size:=fun e=>bA (aI e);have tr:TruthOf X.prog X.w X.A.in1 (fun i v=>aZ.toArray[i]?=some v) (fun i=>bs.getD i true):=fun i v s' Q' E' hv hq=>by
   subst ei;have PG:(bs.map wo)[i]?=some v:=by simpa using hv
   rw [a5] at PG;cases QX:bs[i]? with
   | none=>rw [QX] at PG; cases PG
   | some b =>
    rw [QX] at PG;cases PG;dsimp only at hq;rw [aC,QX] at hq;exact fR hq
  have fin:∀ h' tk,(∀ b o,b∉[s.heap.objs.size]->s.heap.get? b=some o->h'.get? b=some o)->nA X pins σ H G Q (.bool ((bW aZ.toArray.size).all fun i=>bs.getD i true)) { s with heap:=h',toks:=tk }:=fun h' tk hk=>by
   rw [aF,hlen,range_all];exact⟨.bl _,H,.bl _,G,I.kept fun b o e=>hk b o (by simpa using bA (aI e)) e,.refl ab,rfl,.bl _,q⟩
  rcases hl with hl | hl
  ·refine call_all_walk (qf hl ?_);obtain⟨o,ho,AZ,n,hd⟩:=id hl;exact⟨s.heap.objs.size,_,_,_,_,_,_,rfl,Walks.list (A:=X.A.in1) (show X.A.in1.handled=none from I.ok.hd hc) _ l (iY ho) aZ.toArray,⟨⟨_,aK _ rfl,rfl,rfl⟩,⟨o,aw _ ho,AZ,n,hd⟩⟩,tr,fun h' tk hk=>fin h' tk fun b o hb e=>hk b o hb (aw _ e)⟩
  ·refine call_all_walk (zL hl ?_);obtain⟨o,ho,AZ,n,hd⟩:=id hl;exact⟨s.heap.objs.size,_,_,_,_,_,_,rfl,Walks.tuple (A:=X.A.in1) (show X.A.in1.handled=none from I.ok.hd hc) _ l (iY ho) aZ.toArray,⟨⟨_,aK _ rfl,rfl,rfl⟩,⟨o,aw _ ho,AZ,n,hd⟩⟩,tr,fun h' tk hk=>fin h' tk fun b o hb e=>hk b o hb (aw _ e)⟩
 ·exact q.elim
theorem M5{body:List Stmt}{t2:gU}(h:t9 X body t2){E:jY}(hE:Lk X E):OM X body (fun D σ H=>∃ (τ:fD) (G:Gp) (D2:kZ),Ha X.K H σ τ/\kC X.K H G/\t2 E D2 τ G /\
  (∀ g7 H' nF G',Mv X.K H G H' G'->D2.nx nF G'->D.nx g7 H')/\(∀ v H' d G',Mv X.K H G H' G'->cb X.K H' v d->D2.rt d G'->D.rt v H')/\(∀ τ G,¬ D2.bk τ G)/\(∀ τ G,¬ D2.ct τ G)):=by
 rintro pins s σ H D I ⟨τ,G,D2,st,ab,q,k1,k2,k3,k4⟩;refine eN (h E pins s σ H τ G D2 hE ⟨I,st,ab⟩ q) fun f s1 z=>?_;cases f with
 | next=>obtain⟨g7,H',nF,G',J,mv,z⟩:=z; exact⟨g7,H',J.inv,k1 g7 H' nF G' mv z⟩
 | brk=>obtain⟨g7,H',nF,G',J,mv,z⟩:=z; exact(k3 _ _ z).elim
 | cont=>obtain⟨g7,H',nF,G',J,mv,z⟩:=z; exact(k4 _ _ z).elim
 | ret u=>obtain⟨v,g7,H',d,G',J,mv,r,rd,z⟩:=z; exact⟨v,g7,H',J,r,k2 v H' d G' mv rd z⟩
theorem HH{K:af}{H:Hp}{Nn:List Str}{vs:List V}{ds:List D}(r:aX K H vs ds):Ha K H (L2.start Nn vs) (bz Nn.length ds):=by
 unfold L2.start bz;refine⟨by simp [r.length],fun i d h=>?_⟩;by_cases hi:i < ds.length
 ·rw [bS (by simpa using hi),a5] at h;cases hd:ds[i]? with
  | none=>rw [hd] at h; cases h
  | some d' =>
   rw [hd] at h;have e:d'=d:=by simpa using h
   subst e;obtain⟨v,h1,h2⟩:=r.get hd;refine⟨v,?_,h2⟩;rw [bS (by simpa [r.length] using hi),a5,h1]; rfl
 ·rw [bC (by simpa using hi),jt] at h;split at h <;> cases h
theorem LS{P:bx}{w:World}{K:af}{mg:Str->Option Value}{base:Heap}{x qual:Str}{st:Stmt}{f:Addr}{fd:aG}{Nn ps:List Str}{k:Nat}{sp:oZ}{rd:gU}(F:o3 K x qual st f fd)(S:cg Nn ps (aW st))(len:∀ ds G Q E,sp ds G Q E->ds.length=ps.length)
  (hr:∀ ds G Q,sp ds G Q (fun _ _=>False)->rd (fun _ _=>False) (ends Q) (bz Nn.length ds) G)
  (hb:∀ (lV:Value) (A:cM) (outer:List Env) (s:aj) (H:Hp) (E:XK),kr k (A.deeper (zP qual (aW st) s.heap.objs.size f lV))->t9 (Bw gW P w K mg base Nn qual (aW st) f lV A outer s H E).Ou (gT st) rd):fE P w K mg base gW (k+1) f fd ps (cZ K sp):=by
 refine F.ok S ((by rintro vs H Q E ⟨ds,G,Q2,r,ab,q,_⟩; exact by rw [r.length]; exact len _ _ _ _ q)) ?_;rintro lV A outer s H vs Q E PJ ⟨ds,G,Q2,r,ab,q,kk⟩;refine⟨_,M5 (hb lV A outer s H E PJ) (E:=fun _ _=>False) (Lk.none fun _ _ z=>z),?_⟩;exact⟨bz Nn.length ds,G,ends Q2,HH r,ab,hr ds G Q2 q,fun g7 H' nF G' mv z=>kk _ _ _ _ z mv .cf,fun v H' d G' mv O6 z=>kk _ _ _ _ z mv O6,fun _ _ z=>z,fun _ _ z=>z⟩
section
variable {prog:bx} {w:World} {A:cM} {R:Result->aj->Prop} {Rf:Addr} {fq wr:List Addr} {n:Nat} {P:Nat->Value->Prop} {Sx:Nat->Heap->Prop}
theorem Np(W:Walks prog w A.in1 Rf fq wr n P Sx)(bt:Nat->Nat->Bool)(T:Heap->Prop)(B:Addr)(hB:B∉fq)(hT:∀ h h',T h->(∀ b o,b∉wr->b≠B->h.get? b=some o->h'.get? b=some o)->T h')
  (cmp:∀ i j x y s (Q:Value->aj->Prop) (E:Value->aj->Prop),T s.heap->P i x->P j y->Q (.bool (bt i j)) s->wpAny (model prog w) A.in1 (nN .Lt x y) Q E s) :
  ∀ (k j:Nat) (s:aj) (best:Value) (cc:Nat),n - (j+1)=k->j+1<=n->Sx (j+1) s.heap->T s.heap->P (nP bt j) best ->
  s.heap.get? B=some { cls:=.type "list",dict:=none,data:=.seq #[best,best] cc,slots:=#[] } ->
  (∀ v h' tk,P (nP bt (n - 1)) v->(∀ b o,b∉wr->b≠B->s.heap.get? b=some o->h'.get? b=some o)->R (.ok (.ret v)) { s with heap:=h',toks:=tk }) ->
  rY (model prog w) A (.builtin "min.loop" ⟨[.ref Rf,.none,.ref B],[]⟩) R s:=by
 have U4:B∉wr:=fun z=>hB (W.sub _ z);have nm:(toString "min"++toString ".loop" : String) = "min.loop":=by decide
 intro k;induction k with
 | zero =>
  intro j s best cc hk hj hs ht hp hb hR;have ej:j+1=n:=by lia
  refine e7 B7 ?_; rw [dj gF _];show wpAny _ A.in1 (seqItems? (.ref B) >>= _) _ _ s; refine ae (Kx hb rfl ?_);show wpAny _ A.in1 (tryCatch (pB (.ref Rf)) _ >>= _) _ _ s; refine ae (wZ (W.done s _ _ (ej ▸ hs) fun h' tk kept=>?_));have xJ:=kept B _ U4 hb;show wpAny _ A.in1 (updateSeq B (fun _=>#[]) >>= _) _ _ _; refine ae ?_;refine uA xJ rfl (ae (Hd (aq ?_)));exact hR best _ tk (by rw [<-ej]; exact hp) fun b o z1 z2 e=>(cB _ _ (ku z2)).trans (kept b o z1 e)
 | succ k ih =>
  intro j s best cc hk hj hs ht hp hb hR;have lt:j+1 < n:=by lia
  refine e7 B7 ?_; rw [dj gF _];show wpAny _ A.in1 (seqItems? (.ref B) >>= _) _ _ s; refine ae (Kx hb rfl ?_);show wpAny _ A.in1 (tryCatch (pB (.ref Rf)) _ >>= _) _ _ s; refine ae (wZ (W.item (j+1) s _ _ lt hs fun v h' tk pv ue kept=>?_));have xJ:=kept B _ U4 hb;have Mq:T h':=hT _ _ ht fun b o z1 _ e=>kept b o z1 e;show wpAny _ A.in1 (tryCatch (holding [v,v] (nN .Lt v best >>= _)) _ >>= _) _ _ _;refine ae (wZ (eB (ae (cmp (j+1) (nP bt j) v best _ _ _ Mq pv hp ?_)))); refine ae (eB (fR ?_)); refine ae (Hd (aq ?_));cases UZ:bt (j+1) (nP bt j) with
  | true =>
   simp only [if_true]; refine ae ?_;refine uA xJ rfl (ae (Hd ?_)); rw [nm];refine aq ⟨iG gF _,ih (j+1) _ v _ (by lia) lt (W.frame _ _ _ ue fun b z o e=>?_) (hT _ _ Mq fun b o _ z2 e=>?_) (by simp only [nP,UZ,if_true]; exact pv) (dQ _ xJ rfl) fun v' P9 Hz O9 kk=>?_⟩
   ·exact(cB _ _ (fun z':B=b=>hB (by rw [z']; exact z))).trans e
   ·exact(cB _ _ (ku z2)).trans e
   ·exact hR v' P9 Hz O9 fun b o z1 z2 e=>kk b o z1 z2 ((cB _ _ (ku z2)).trans (kept b o z1 e))
  | false =>
   simp only [av,if_false]; refine ae (Hd ?_); rw [nm];refine aq ⟨iG gF _,ih (j+1) _ best cc (by lia) lt ue Mq (by simp only [nP,UZ,av,if_false]; exact hp) xJ fun v' P9 Hz O9 kk=>?_⟩;exact hR v' P9 Hz O9 fun b o z1 z2 e=>kk b o z1 z2 (kept b o z1 e)
end
theorem AJ{prog:bx}{w:World}{A:cM}{E:Value->aj->Prop}{s:aj}{x:Value}{Q:Value->aj->Prop}
  (h:wpAny (model prog w) A.in1 (w6 x) (fun it iH=>∃ (I:Addr) (fq wr:List Addr) (n:Nat) (P:Nat->Value->Prop) (Sx:Nat->Heap->Prop) (bt:Nat->Nat->Bool) (T:Heap->Prop),it=.ref I/\Walks prog w A.in1 I fq wr n P Sx/\Sx 0 iH.heap/\(∀ b∈fq,b < iH.heap.objs.size)/\0 < n/\T iH.heap/\(∀ (h h':Heap) (B:Addr),iH.heap.objs.size<=B->T h->(∀ b o,b∉wr->b≠B->h.get? b=some o->h'.get? b=some o)->T h') /\
   (∀ i j x y s (Q:Value->aj->Prop) (E:Value->aj->Prop),T s.heap->P i x->P j y->Q (.bool (bt i j)) s->wpAny (model prog w) A.in1 (nN .Lt x y) Q E s) /\
   ∀ v h' tk,P (nP bt (n - 1)) v->(∀ b o,b∉wr->iH.heap.get? b=some o->h'.get? b=some o)->Q v { iH with heap:=h',toks:=tk }) E s) :
  wpAny (model prog w) A (call (.builtin "min") [x]) Q E s:=by
 have nm:(toString "min"++toString ".loop" : String) = "min.loop":=by decide
 refine call_function_tree F.kind_min F.plain_min F.entry_min (F.args_min1 _) ?_;show wpAny _ A.in1 (rT "min" ["key","default"] 0 ⟨[],[]⟩ >>= _) _ _ s; refine ae (Hb (show rT "min" ["key","default"] 0 ⟨[],[]⟩=pure [none,none] from rfl) ?_);refine ae (aq ?_); refine ae (k7 h (fun it iH CQ=>?_) fun _ _ e=>e);obtain⟨I,fq,wr,n,P,Sx,bt,T,rfl,W,CS,PX,hn,ht,hT,cmp,hQ⟩:=CQ;refine ae (cH ?_);have OC:iH.heap.objs.size∉fq:=fun z=>cX _ (PX _ z);have QY:iH.heap.objs.size∉wr:=fun z=>OC (W.sub _ z);rw [nm];generalize hh:iH.heap.push { cls:=.type "list",data:=.seq ([]:List Value).toArray } = hp;have hb:hp.get? iH.heap.objs.size=some { cls:=.type "list",dict:=none,data:=.seq #[] 0,slots:=#[] }:=by rw [<-hh]; exact aK _ rfl
 have old:∀ b o,iH.heap.get? b=some o->hp.get? b=some o:=fun b o e=>by rw [<-hh]; exact aw _ e
 have Ud:Sx 0 hp:=W.frame _ _ _ CS fun b _ o e=>old b o e;have Wm:T hp:=hT _ _ _ (ay _) ht fun b o _ _ e=>old b o e;refine aq ⟨iG gF _,?_⟩;refine e7 B7 ?_; rw [dj gF _];show wpAny _ A.in1 (seqItems? (.ref iH.heap.objs.size) >>= _) _ _ _; refine ae (Kx hb rfl ?_);show wpAny _ A.in1 (tryCatch (pB (.ref I)) _ >>= _) _ _ _; refine ae (wZ (W.item 0 _ _ _ hn Ud fun v h' tk pv ue kept=>?_));have xJ:=kept _ _ QY hb;show wpAny _ A.in1 (updateSeq iH.heap.objs.size (fun _=>#[v,v]) >>= _) _ _ _; refine ae ?_;refine uA xJ rfl ?_; rw [nm];refine aq ⟨iG gF _,Np W bt T _ OC (fun h h'=>hT h h' _ (ay _)) cmp _ 0 _ v _ rfl hn (W.frame _ _ _ ue fun b z o e=>?_) (hT _ _ _ (ay _) (hT _ _ _ (ay _) Wm fun b o z1 _ e=>kept b o z1 e) fun b o _ z2 e=>?_) pv (dQ _ xJ rfl) fun v' P9 Hz O9 kk=>?_⟩
 ·exact(cB _ _ (fun z':iH.heap.objs.size=b=>OC (by rw [z']; exact z))).trans e
 ·exact(cB _ _ (ku z2)).trans e
 ·refine hQ v' P9 Hz O9 fun b o z1 e=>?_;have nb:b≠iH.heap.objs.size:=bA (aI e);exact kk b o z1 nb ((cB _ _ (ku nb)).trans (kept b o z1 (old b o e)))
theorem BE{α:Type}(lt:α->α->Bool)(l:List α)(a:α)(f:Nat->α)(hf:∀ i,i < l.length+1->f i=(a :: l).getD i a) :
  f (nP (fun i j=>lt (f i) (f j)) l.length)=l.foldl (fun m x=>if lt x m=true then x else m) a:=by
 have key:∀ k,k<=l.length->f (nP (fun i j=>lt (f i) (f j)) k)=(l.take k).foldl (fun m x=>if lt x m=true then x else m) a:=by
  intro k;induction k with
  | zero=>intro _; rw [nP,hf 0 (by lia)]; rfl
  | succ k ih =>
   intro hk;have We:=ih (by lia);rw [List.take_succ_eq_append_getElem (by lia),List.foldl_append,<-We];have e:f (k+1)=l[k]:=by
    rw [hf (k+1) (by lia),aC];simp [show k < l.length by lia]
   show f (if lt (f (k+1)) (f (nP _ k))=true then k+1 else nP _ k)=(if lt l[k] _=true then l[k] else _);rw [<-e];split <;> rfl
 rw [key l.length (ay _),pL]
theorem Gx (hc : X.calm = true) (hu : X.A.units + 64 < cLine) : ly X (.builtin "min") JS := by
  intro pins s σ H G xs ds us Q I ab rx rd q;unfold JS at q;split at q
  · rename_i x
    obtain⟨v, rfl, r⟩ := rd.one;obtain⟨u, rfl, ru⟩ := rx.one;have main : ∀ {α : Type} (zs : List α) (a : α) (enc : α -> D) (lt : α -> α -> Bool) (T : Heap -> Prop), itemsOf x G = some ((a :: zs).map enc) -> T s.heap -> (∀ (h h' : Heap) (B : Addr), s.heap.objs.size ≤ B -> T h -> (∀ b o, b < s.heap.objs.size -> b ≠ B -> h.get? b = some o -> h'.get? b = some o) -> T h') ->
        (∀ y z vy vz uy uz (s' : aj) (Q' : Value -> aj -> Prop) (E' : Value -> aj -> Prop), T s'.heap -> cb X.K H vy (enc y) -> RelV vy uy -> cb X.K H vz (enc z) -> RelV vz uz -> Q' (.bool (lt y z)) s' -> wpAny (model X.prog X.w) X.A.in1 (nN .Lt uy uz) Q' E' s') ->
        Q (enc (zs.foldl (fun m x => if lt x m = true then x else m) a)) G -> wpAny (model X.prog X.w) X.A (call (.builtin "min") [u]) (nA X pins σ H G Q) X.xe s := by
      intro α zs a enc lt T hi ht hT cmp hq;obtain⟨l, vs, aZ, rfl, rv, rs, hl, hz⟩ := vp I ab ru r hi;have hlen : aZ.length = zs.length + 1 := by rw [<-rv.length, rs.length, ag, ak]
      have iY : ∀ {o : Obj}, s.heap.get? l = some o -> l ≠ s.heap.objs.size := fun e => bA (aI e);have at_ : ∀ i uu, aZ.toArray[i]? = some uu -> ∃ vv, RelV vv uu ∧ cb X.K H vv (enc ((a :: zs).getD i a)) := fun i uu e => by
        have e' : aZ[i]? = some uu := by simpa using e
        have CT : i < aZ.length := (List.getElem?_eq_some_iff.mp e').1;have hd : ((a :: zs).map enc)[i]? = some (enc ((a :: zs).getD i a)) := by
          rw [a5, aC];cases h9 : (a :: zs)[i]? with
          | none => rw [List.getElem?_eq_none_iff] at h9; simp at h9; lia
          | some z => rfl
        obtain⟨vv, h1, h2⟩ := rs.get hd;obtain⟨Yx, h3, h4⟩ := rv.get h1;rw [e'] at h3;cases h3;exact⟨vv, h4, h2⟩
      have Qn : ∀ i j p9 q9 s' (Q' : Value -> aj -> Prop) (E' : Value -> aj -> Prop), T s'.heap -> aZ.toArray[i]? = some p9 -> aZ.toArray[j]? = some q9 -> Q' (.bool (lt ((a :: zs).getD i a) ((a :: zs).getD j a))) s' -> wpAny (model X.prog X.w) X.A.in1 (nN .Lt p9 q9) Q' E' s' := fun i j p9 q9 s' Q' E' t' h1 h2 h3 => by
        obtain⟨v1, r1, d1⟩ := at_ i p9 h1;obtain⟨v2, r2, d2⟩ := at_ j q9 h2;exact cmp _ _ v1 v2 p9 q9 s' Q' E' t' d1 r1 d2 r2 h3
      have fin : ∀ vv h' tk, aZ.toArray[nP (fun i j => lt ((a :: zs).getD i a) ((a :: zs).getD j a)) (aZ.toArray.size - 1)]? = some vv -> (∀ b o, b ∉ [s.heap.objs.size] -> s.heap.get? b = some o -> h'.get? b = some o) -> nA X pins σ H G Q vv { s with heap := h', toks := tk } := fun vv h' tk e hk => by
        obtain⟨v1, r1, d1⟩ := at_ _ vv e;have es : aZ.toArray.size - 1 = zs.length := by rw [aF]; lia
        rw [es, BE lt zs a (fun i => (a :: zs).getD i a) (fun i _ => rfl)] at d1;exact⟨v1, H, _, G, I.kept fun b o e => hk b o (by simpa using bA (aI e)) e, .refl ab, r1, d1, hq⟩
      have NF : 0 < aZ.toArray.size := by rw [aF]; lia
      have U0 : ∀ (oo : Obj), T (s.heap.push oo) := fun oo => hT _ _ (s.heap.objs.size + 1) (lY _) ht fun b o hb _ e => aw _ e;have U1 : ∀ (oo : Obj) (h h' : Heap) (B : Addr), (s.heap.push oo).objs.size ≤ B -> T h -> (∀ b o, b ∉ [s.heap.objs.size] -> b ≠ B -> h.get? b = some o -> h'.get? b = some o) -> T h' := fun oo h h' B hB t kk => hT h h' B (by rw [iF] at hB; exact Nat.le_of_succ_le hB) t fun b o hb hn e => kk b o (by simpa using bA hb) hn e;rcases hl with hl | hl
      · refine AJ (qf hl ?_)
        obtain⟨o, ho, AZ, n, hd⟩ := id hl;exact⟨s.heap.objs.size, _, _, _, _, _, _, T, rfl, Walks.list (A := X.A.in1) (show X.A.in1.handled = none from I.ok.hd hc) _ l (iY ho) aZ.toArray, ⟨⟨_, aK _ rfl, rfl, rfl⟩, ⟨o, aw _ ho, AZ, n, hd⟩⟩,
          fun b hb => by rcases (by simpa using hb : b = s.heap.objs.size ∨ b = l) with rfl | rfl
                         · rw [iF]; exact k9 _
                         · rw [iF]; exact j4 (aI ho), NF, U0 _, U1 _, Qn, fun vv h' tk e hk => fin vv h' tk e fun b o hb e => hk b o hb (aw _ e)⟩
      · refine AJ (zL hl ?_)
        obtain⟨o, ho, AZ, n, hd⟩ := id hl;exact⟨s.heap.objs.size, _, _, _, _, _, _, T, rfl, Walks.tuple (A := X.A.in1) (show X.A.in1.handled = none from I.ok.hd hc) _ l (iY ho) aZ.toArray, ⟨⟨_, aK _ rfl, rfl, rfl⟩, ⟨o, aw _ ho, AZ, n, hd⟩⟩,
          fun b hb => by rcases (by simpa using hb : b = s.heap.objs.size ∨ b = l) with rfl | rfl
                         · rw [iF]; exact k9 _
                         · rw [iF]; exact j4 (aI ho), NF, U0 _, U1 _, Qn, fun vv h' tk e hk => fin vv h' tk e fun b o hb e => hk b o hb (aw _ e)⟩
    rcases q with ⟨ns, mm, hi, hm, q⟩ | ⟨QL, mm, hi, hm, q⟩
    · cases ns with
      | nil => cases hm
      | cons a zs =>
        cases hm;have e : (fun m x : Int => if x < m then x else m) = fun m x => if decide (x < m) = true then x else m := by funext m x; simp
        rw [e] at q;refine main zs a D.int (fun x y => decide (x < y)) (fun _ => True) hi trivial (fun _ _ _ _ _ _ => trivial) (fun y z vy vz uy uz s' Q' E' _ d1 r1 d2 r2 hq => ?_) q;cases d1;cases d2;obtain⟨t1, rfl⟩ := r1;obtain⟨t2, rfl⟩ := r2;exact HT.uY X.A.in1 s' y t1 z t2 X.prog X.w E' Q' hq
    · cases QL with
      | nil => cases hm
      | cons a zs =>
        cases hm;have el : ∀ xs ys : List Int, HT.lexLt xs ys = K2.lexLt xs ys := by
          intro xs;induction xs with
          | nil => intro ys; cases ys <;> rfl
          | cons x xs ih => intro ys; cases ys with
            | nil => rfl
            | cons y ys => unfold HT.lexLt K2.lexLt; rw [ih]
        refine main zs a tI K2.lexLt (fun h => ∀ b o, b < s.heap.objs.size -> s.heap.get? b = some o -> h.get? b = some o) hi (fun b o _ e => e) (fun h h' B hB t kk b o hb e => kk b o hb (bA (bp hb hB)) (t b o hb e)) (fun y z vy vz uy uz s' Q' E' t' d1 r1 d2 r2 hq => ?_) q;cases d1 with
        | tup h1 VH =>
          cases d2 with
          | tup h2 Ld =>
            cases r1;cases r2;have z1 := VH.ints;have z2 := Ld.ints;subst z1 z2;obtain⟨PB, VF, ⟨o1, UL, WO, n1, P0⟩, _⟩ := I.tuple (.of h1);obtain⟨sx, Mf, ⟨o2, xH, yT, n2, hd2⟩, _⟩ := I.tuple (.of h2);have p1 : IsTup s'.heap _ PB.toArray := ⟨o1, t' _ _ (aI UL) UL, WO, n1, P0⟩;have p2 : IsTup s'.heap _ sx.toArray := ⟨o2, t' _ _ (aI xH) xH, yT, n2, hd2⟩;rw [<-el] at hq;have i1 : jv PB.toArray.toList y := intsAre_of VF;have i2 : jv sx.toArray.toList z := intsAre_of Mf;exact(HT.vj p1 p2 i1 i2 (show X.A.units + 1 < cLine by lia) hq : wpAny (model X.prog X.w) X.A.in1 (cL .Lt _ _) Q' E' s')
  · exact q.elim
noncomputable def RS(scope sc:Scope):List (Str×pC):=scope.names.map fun (n,k)=>if (k == .free&&sc.kind == .function&&sc.names.lookup n == some .cell) then (n,.cell) else (n,k)
noncomputable def uw(N:List Str)(scope:Scope)(m:Nat)(fr:List Nat)(sc:Scope)(XN:List Str):Bool :=
 scope.names.all (fun y=>decide (y.2≠.cell))&&decide (scope.kind=.function)&&scope.names.all (fun y=>!decide (y.2=.local)||decide (scope.names.lookup y.1=some .local)) &&
 scope.names.all (fun y=>!decide (y.2=.free)||decide (sc.names.lookup y.1=some .cell))&&decide (N.length=m+fr.length) &&
 (bW fr.length).all (fun j=>match fr[j]?,N[m+j]? with
  | some i,some x=>decide (XN[i]?=some x)&&decide (sc.names.lookup x=some .cell)&&decide ((RS scope sc).lookup x=some .cell)
  | _,_=>false)
theorem xU{sc:Scope}{XN:List Str}(PH:X.env.scope=sc)(P6:X.N=XN)(hb:uw N scope m fr sc XN=true):vZ X N scope m fr:=by
 subst PH P6;unfold uw at hb;simp only [az] at hb;obtain⟨⟨⟨⟨⟨h1,h2⟩,h3⟩,h4⟩,h5⟩,h6⟩:=hb;refine⟨fun y hy=>of_decide_eq_true (List.all_eq_true.mp h1 y hy),of_decide_eq_true h2,fun y hy hl=>?_,fun y hy hl=>?_,of_decide_eq_true h5,fun j i x e1 e2=>?_⟩
 ·have:=List.all_eq_true.mp h3 y hy;simp only [hl,decide_true,bq,wb] at this;exact of_decide_eq_true this
 ·have:=List.all_eq_true.mp h4 y hy;simp only [hl,decide_true,bq,wb] at this;exact of_decide_eq_true this
 ·have hj:j < fr.length:=(List.getElem?_eq_some_iff.mp e1).1;have:=List.all_eq_true.mp h6 j (List.mem_range.mpr hj);rw [e1,e2] at this;simp only [az] at this;exact⟨of_decide_eq_true this.1.1,of_decide_eq_true this.1.2,of_decide_eq_true this.2⟩
theorem iu(N:List Str){sc:Scope}{XN:List Str}(hi:Kv X tg iter wi)(hg:∀ C s H fp,GY (cT X N scope C s H fp) tg g)(NL:∀ C s H fp,Og (cT X N scope C s H fp) ifs c)(he:∀ C s H fp,eV (cT X N scope C s H fp) elt te)
  (PH:autoParam (X.env.scope=sc) Ar._auto_1) (P6:autoParam (X.N=XN) Ar._auto_1) (hb:autoParam (uw N scope m fr sc XN=true) Ak._auto_1) (hc:autoParam (X.calm=true) Ar._auto_1) (hs:autoParam (∀ x,k8 iter X.env x=pure x) Ai._auto_1):eV X (.ListComp elt [⟨tg,iter,ifs,0⟩] scope pos) (eA m fr wi g c te) :=
 FG hc (xU PH P6 hb) hi hg NL he hs
theorem Ay(N:List Str){sc:Scope}{XN:List Str}{i:Nat}{y:Str}{py HL:Pos}(hN:X.N.Nodup)(SV:X.N[i]?=some y)(hy:X.env.scope.names.lookup y=some .local)(hi:Kv X tg iter wi)(hg:∀ C s H fp,GY (cT X N scope C s H fp) tg g)
  (NL:∀ C s H fp,Og (cT X N scope C s H fp) ifs c) (he:∀ C s H fp,eV (cT X N scope C s H fp) elt te) (PH:autoParam (X.env.scope=sc) Ar._auto_1) (P6:autoParam (X.N=XN) Ar._auto_1) (hb:autoParam (uw N scope m fr sc XN=true) Ak._auto_1) (hc:autoParam (X.calm=true) Ar._auto_1)
  (S5:autoParam (zO (.ListComp elt [⟨tg,iter,ifs,0⟩] scope pos) (some (.Name y py)) HL.line X.env=pure true) Ar._auto_1) (hs:autoParam (∀ x,k8 iter X.env x=pure x) Ai._auto_1) :
  DB X (.Assign [.Name y py] (.ListComp elt [⟨tg,iter,ifs,0⟩] scope pos) HL) (c9 (eA m fr wi g c te) (a6 i)) :=
 Ax hN SV hy hc (xU PH P6 hb) hi hg NL he S5 hs
theorem FP{K:af}{H:Hp}{a:Addr}{ns:List Int}(hO:L9 H)(hS:rL K H a (ns.map V.int))(hl:ns.length<=63):cZ K xh [.ref a] H (fun v _=>v=.bl true) fun _ _ _=>False:=by
 have hF:OL K H a (ns.map V.int):=by
  rcases hS with (h | ⟨o,h⟩) | h
  ·rcases hO a with z | ⟨o,xs,z⟩
   ·rw [z] at h; cases h
   ·rw [z] at h; cases h
  ·exact .inl ⟨o,h⟩
  ·exact .inr h
 refine⟨[.dq (ns.map D.int)],fun _=>none,fun d _=>d=.bl true,.cons (.dq hF (aX.yE ns)) .nil,fun a g e=>(by cases e),⟨ns,rfl,hl,fun _=>rfl,fun _=>rfl⟩,fun d G' v H' e mv r=>?_⟩;subst e;cases r;rfl
theorem IF{l:ya}{q:bx}{loose:List Str}{XP:(Str->Option Value)->Heap->Prop}{YP:World->Heap->Prop}{d:DefRec}{K:Params->af}{k:Nat}{x:Str}(hn:l.most=some 63)(PZ:d.params.defaults=[])(hr:kr k B2)
  (hY:∀ (w:World) (h:Heap),YP w h->(K w.params).In h)
  (F:∀ (w:World) (mg:Str->Option Value) (fa:Addr) (h:Heap),(K w.params).In h->h.Ns bc mg->mg d.name=some (.ref fa) ->
   ∃ fd:aG,(∀ (s:aj) (u:Value),Hl s fd ⟨[u],[]⟩ [(x,u)])/\∀ base:Heap,(K w.params).In base->base.Ns bc mg->fE l.prog w (K w.params) mg base gW k fa fd [x] (cZ (K w.params) xh)) :
  PySem.W.WalkO q loose XP YP l.row.toRowW d [] (fun f vs=>DM f vs) :=
 L2.KP (n:=63) (k:=k) (x:=x) (CX:=fun _=>gW) (sp:=fun w=>cZ (K w.params) xh) hn (by decide) PZ hr hY F (fun _ _ _ _ hl hO hS=>FP hO hS hl) fun _ _ _ _ _ z=>z
end
end K2
end
section
namespace K2
open PySem PySem.Spec PyProof.Rows L2
noncomputable def JQ:HO->Bool
 | .lst _=>true
 | .dK _=>true
 | .dT _=>true
 | _=>false
noncomputable def lN(h:Heap)(S:Addr->Bool)(H:Hp):Hp:=fun a=>match H a with
 | some u=>if (JQ u&&S a)=true then (match h.get? a with
  | some o=>some (.kh o u)
  | none=>some u) else some u
 | none=>none
section
variable {h:Heap} {S:Addr->Bool} {H:Hp} {a:Addr}
theorem CY(n:∀ u,H a=some u->JQ u=false):lN h S H a=H a:=by
 unfold lN;cases e:H a with
 | none=>rfl
 | some u=>simp only [n u e,DV,av,if_false]
theorem vM(hs:S a=false):lN h S H a=H a:=by
 unfold lN;cases e:H a with
 | none=>rfl
 | some u=>simp only [hs,DW,av,if_false]
theorem uv{u:HO}{o:Obj}(hs:S a=true)(e:H a=some u)(hu:JQ u=true)(ho:h.get? a=some o):lN h S H a=some (.kh o u):=by
 unfold lN;simp only [e,hs,hu,Bool.and_self,if_true,ho]
theorem lM(e:H a=none):lN h S H a=none:=by unfold lN; rw [e]
theorem jP{u:HO}(e:H a=some u)(hu:JQ u=false):lN h S H a=some u:=by rw [CY (fun v z=>by rw [e] at z; cases z; exact hu)]; exact e
theorem rk:Kp H (lN h S H):=⟨fun a xs e=>jP e rfl,fun a o u e=>jP e rfl⟩
end
section
variable {X:Cx} {pins:List (Addr×Obj)} {σ:L2.St} {H:Hp} {s:aj} {G:Gp}
theorem Inv.freeze(I : Inv X pins σ H s)(S : Addr -> Bool) : Inv X pins σ (lN s.heap S H) s where
  ok := I.ok
  os := I.os
  bare := I.bare
  base := { keep := I.base.keep, slot := I.base.slot, there := I.base.there
            free := fun b o q n hx => lM (I.base.free b o q n hx)
            wD := fun b xs q => jP (I.base.wD b xs q) rfl
            vL := fun b o u q => jP (I.base.vL b o u q) rfl
            wG := fun b ps q => jP (I.base.wG b ps q) rfl
            wI := fun b x q => jP (I.base.wI b x q) rfl }
  loc := I.loc
  cell := I.cell
  free := lM I.free
  nq := fun x c e => lM (I.nq x c e)
  pin := fun p hp => let ⟨h1, h2, h3⟩ := I.pin p hp; ⟨h1, lM h2, h3⟩
  cz := fun a o q => by
    have st : ∀ u, H a = some u -> fN X.prog X.w (lN s.heap S H) s.heap a u := fun u e =>
      (I.cz a u e).la (fun b v _ r => r) (fun b r => jP r rfl) (fun b xs r => jP r rfl)
    cases e : H a with
    | none => rw [lM e] at q; cases q
    | some u =>
      by_cases hc : JQ u = true
      · by_cases hs : S a = true
        · obtain⟨ob, ho⟩ := lH (I.cz a _ e)
          rw [uv hs e hc ho] at q;cases q;exact⟨ho, st _ e⟩
        · rw [vM (by simpa using hs), e] at q
          cases q;exact st _ e
      · rw [jP e (by simpa using hc)] at q
        cases q;exact st _ e
  len := I.len
noncomputable def mZ(R:Nat->Bool)(G:Gp):Addr->Bool:=fun a=>R a&&(G a).isSome
theorem xO(I:Inv X pins σ H s)(ab:kC X.K H G)(R:Nat->Bool):Mv X.K H G (lN s.heap (mZ R G) H) (wQ R G) where
 keep:=fun a o e n=>by
  refine⟨by rw [vM (by simp [mZ,n])]; exact e,?_⟩;unfold wQ; split
  ·rfl
  ·exact n
 la:=fun a n=>by
  cases q:G a with
  | none=>exact absurd q n
  | some g =>
   have t:=(ab a g q).tracked;cases e:H a with
   | none=>exact absurd e t
   | some u =>
    unfold lN;rw [e];dsimp only;split
    ·split <;> simp
    ·simp
 ab:=fun a g e=>by
  unfold wQ at e;split at e
  ·cases e
  ·rename_i hr;exact(ab a g e).mono rk (vM (by simp [mZ,hr]))
theorem Jt(I:Inv X pins σ H s)(ab:kC X.K H G){R:Nat->Bool}:∀ {d t:D} {v:V},Fz G R d t->cb X.K H v d->cb X.K (lN s.heap (mZ R G) H) v t:=by
 intro d t v h;revert v;refine Fz.rec (motive_1:=fun d t _=>∀ {v:V},cb X.K H v d->cb X.K (lN s.heap (mZ R G) H) v t)
  (motive_2:=fun ds ts _=>∀ {vs:List V},aX X.K H vs ds->aX X.K (lN s.heap (mZ R G) H) vs ts)
  (motive_3:=fun ds ts _=>(∀ {vs:List (Key×V)},mV X.K H vs ds->mV X.K (lN s.heap (mZ R G) H) vs ts)/\∀ {vs:List (List Key×V)},nB X.K H vs ds->nB X.K (lN s.heap (mZ R G) H) vs ts)
  ?_ ?_ ?_ ?_ ?_ ?_ ?_ ?_ ?_ h
 ·intro d v r; exact r.mono rk
 ·intro ds ss _ ih v r;cases r with
  | tup h rs=>exact .tup (rk.tup _ _ h) (ih rs)
 ·intro ds ss _ ih v r;cases r with
  | dq h rs=>exact .dq (rk.Oo h) (ih rs)
 ·intro a ds ss g hr _ ih v r;cases r;obtain⟨vs,hv,rs⟩:=ab a _ g;obtain⟨ob,ho⟩:=lH (I.cz a _ hv);exact .dq (.inl ⟨_,uv (by simp [mZ,hr,g]) hv rfl ho⟩) (ih rs)
 ·intro a ds ss g hr _ ih v r;cases r;rcases ab a _ g with ⟨kv,hv,rs⟩ | ⟨kv,hv,rs⟩
  ·obtain⟨ob,ho⟩:=lH (I.cz a _ hv);exact .pO (uv (by simp [mZ,hr,g]) hv rfl ho) (ih.1 rs)
  ·obtain⟨ob,ho⟩:=lH (I.cz a _ hv);exact .pN (uv (by simp [mZ,hr,g]) hv rfl ho) (ih.2 rs)
 ·intro vs r; cases r; exact .nil
 ·intro d s ds ss _ _ i1 i2 vs r;cases r with
  | cons r rs=>exact .cons (i1 r) (i2 rs)
 ·exact⟨fun r=>by cases r; exact .nil,fun r=>by cases r; exact .nil⟩
 ·intro k d s ds ss _ _ i1 i2;exact⟨fun r=>by cases r with | cons r rs=>exact .cons (i1 r) (i2.1 rs),fun r=>by cases r with | cons r rs=>exact .cons (i1 r) (i2.2 rs)⟩
variable {e:Expr} {te:eU} {st:Stmt} {t:gU}
theorem bV(he:eV X e te):eV X e (eY te):=by
 intro E pins s σ H τ G Q hE I h;refine eN (he E pins s σ H τ G _ hE I h) ?_;rintro u s1 ⟨v,H1,d,G1,I1,m,r,rd,R,t,hf,q⟩;exact⟨v,_,t,_,Inv.freeze I1 _,m.trans (xO I1 m.ab R),r,Jt I1 m.ab hf rd,q⟩
theorem Ee{i:Nat}(h1:DB X st t):DB X st (JM i t):=by
 intro E pins s σ H τ G D hE I h;refine eN (h1 E pins s σ H τ G _ hE I h) fun f s1 z=>?_;cases f with
 | next =>
  obtain⟨g7,H',nF,G',I',m,q⟩:=z;simp only at q;split at q
  ·rename_i d hd;obtain⟨R,t,hf,q⟩:=q;obtain⟨v,hv,rv⟩:=I'.st.at' i d hd;have a1:=(I'.st.mono (H':=lN s1.heap (mZ R G') H') rk).set i (Jt I'.inv I'.ab hf rv);have es:g7.set i (some v)=g7:=by
    have hi:i < g7.length:=(List.getElem?_eq_some_iff.mp hv).1;have e2:=(List.getElem?_eq_some_iff.mp hv).2;rw [<-e2]; exact List.set_getElem_self hi
   rw [es] at a1;have m2:=xO I'.inv I'.ab R;exact⟨g7,_,_,_,⟨Inv.freeze I'.inv _,a1,m2.ab⟩,m.trans m2,q⟩
  ·exact q.elim
 | ret v=>exact z
 | brk=>exact z
 | cont=>exact z
end
end K2
end
section
namespace K2
open PySem PySem.Spec PyProof.Rows L2
theorem lu:cS "len" = some (.builtin "len"):=by decide +kernel
theorem N9:cS "min" = some (.builtin "min"):=by decide +kernel
theorem J0:cS "all" = some (.builtin "all"):=by decide +kernel
theorem xW:cS "sorted" = some (.builtin "sorted"):=by decide +kernel
theorem zm:cS "list" = some (.type "list"):=by decide +kernel
theorem JX:cS "tuple" = some (.type "tuple"):=by decide +kernel
theorem JZ:cS "int" = some (.type "int"):=by decide +kernel
theorem L5:cS "bool" = some (.type "bool"):=by decide +kernel
theorem JY:cS "str" = some (.type "str"):=by decide +kernel
section
variable {X:Cx} {a b c e o:Expr} {es:List Expr} {ta tb tc te to:eU} {t:BG} {pos p p2 apos lq:Pos} {x name:Str} {id T:String} {k:Nat} {f:Addr} {fd:aG} {ps:List Str} {sp:oZ}
theorem bL(F:fE X.prog X.w X.K X.mg X.base gW k f fd ps (cZ X.K sp))(hr:kr k X.A)(hg:Gl X x)(hm:X.mg x=some (.ref f))(hk:jB X.K (.ref f)=true)(hb:Binds X.K fd ps [])
  (ha:E5 X (e :: es) t) (FY:autoParam ((x == ("__debug__" : Str))=false) Ad._auto_1) (he:autoParam (bQ (e :: es) X.env=(false,eval e X.env) :: bQ es X.env) Ar._auto_1) (GV:autoParam ((i6 pos (bQ es X.env)).any (·.1)=false) Ar._auto_1) :
  eV X (.Call (.Name x p) (e :: es) [] pos) (bT sp t):=Il F hr hg hm hk hb ha FY he GV
end
end K2
end
section
namespace L2
open PySem PySem.Spec PyProof.Rows
section
variable {X:Cx} {pins:List (Addr×Obj)} {σ:St} {H:Hp} {s:aj} {h':Heap}
theorem Inv.DY{t':Nat}{fp:List Addr}(I:Inv X pins σ H s)(hf:∀ b∈fp,nH X pins H b)(k:∀ b o,b∉fp->s.heap.get? b=some o->h'.get? b=some o):Inv X pins σ H { s with heap:=h',toks:=t' }:=by
 have nt:∀ b u,H b=some u->b∉fp:=fun b u e z=>by rw [(hf b z).1] at e; cases e
 refine I.step (g':=s.gens) (d':=s.drawn) (ch:=fp) (fun b hb=>?_) (fun b o _ _ hc e _=>k b o hc e) (fun b o _ _ hc e _=>⟨o.slots,k b o hc e⟩) (fun _ _ _ _ n=>n)
  (fun b o hc e=>⟨o,k b o hc e⟩) (fun _ _ e=>e) (fun _ _ _ e=>e) (fun _ _ e=>e) (fun _ _ e=>e) (fun m hm=>?_) (fun b u e=>?_) I.bare
 ·obtain⟨f0,f1,f2,f3,f4,f5⟩:=hf b hb;exact⟨f3,f1,f4,f5⟩
 ·obtain⟨o,es,ep,ho,r⟩:=hm;exact⟨o,es,ep,k _ _ (fun z=>(hf _ z).2.1 rfl) ho,r⟩
 ·refine(I.cz b u e).la (fun c v hc r=>k c v ?_ r) (fun _ z=>z) (fun _ _ z=>z);rcases hc with rfl | hc
  ·exact nt _ _ e
  ·exact nt _ _ hc
theorem Inv.KS{t':Nat}{fp:List Addr}{T:Addr}{vs:List V}(I:Inv X pins σ H s)(hf:∀ b∈fp,nH X pins H b)(k:∀ b o,b∉fp->s.heap.get? b=some o->h'.get? b=some o)(hT:s.heap.objs.size<=T)
  (new:fN X.prog X.w (upd H T (.tup vs)) h' T (.tup vs)):Inv X pins σ (upd H T (.tup vs)) { s with heap:=h',toks:=t' }:=by
 have hn:H T=none:=I.cz.fresh hT;have ht:∀ b o,s.heap.get? b=some o->b≠T:=fun b o e z=>by subst z; exact absurd (aI e) (Nat.not_lt.mpr hT)
 have nt:∀ b u,H b=some u->b∉fp:=fun b u e z=>by rw [(hf b z).1] at e; cases e
 have ne:∀ b u,H b=some u->b≠T:=fun b u e=>cU e hn;refine I.step (g':=s.gens) (d':=s.drawn) (ch:=fp) (fun b hb=>?_) (fun b o _ _ hc e _=>k b o hc e) (fun b o _ _ hc e _=>⟨o.slots,k b o hc e⟩) (fun b o _ e n=>by rw [bI (ht b o e)]; exact n)
  (fun b o hc e=>⟨o,k b o hc e⟩) (fun b xs e=>by rw [bI (ne _ _ e)]; exact e) (fun b o u e=>by rw [bI (ne _ _ e)]; exact e) (fun b ps e=>by rw [bI (ne _ _ e)]; exact e) (fun b ps e=>by rw [bI (ne _ _ e)]; exact e) (fun m hm=>?_) (fun b u e=>?_) I.bare
 ·obtain⟨f0,f1,f2,f3,f4,f5⟩:=hf b hb;exact⟨f3,f1,f4,f5⟩
 ·obtain⟨o,es,ep,ho,r⟩:=hm;exact⟨o,es,ep,k _ _ (fun z=>(hf _ z).2.1 rfl) ho,r⟩
 ·by_cases hb:b=T
  ·subst hb; rw [cC] at e; cases e; exact new
  ·rw [bI hb] at e;refine(I.cz b u e).la (fun c v hc r=>k c v ?_ r) (fun c z=>by rw [bI (ne _ _ z)]; exact z) (fun c xs z=>by rw [bI (ne _ _ z)]; exact z);rcases hc with rfl | hc
   ·exact nt _ _ e
   ·exact nt _ _ hc
theorem nH.upd{b T:Addr}{o:HO}(h:nH X pins H b)(hb:b≠T):nH X pins (L2.upd H T o) b:=by
 obtain⟨f0,r⟩:=h;exact⟨by rw [bI hb]; exact f0,r⟩
end
noncomputable def Yp(K:af)(a:Addr):It :=
  ⟨fun i H=>∃ xs x,rL K H a xs/\xs[i]?=some x,
   fun i H v H'=>∃ T y,v=.ref T/\H T=none/\H'=upd H T (.tup [.int i,y])/\∀ xs,rL K H a xs->xs[i]?=some y,
   fun i H=>∃ xs,rL K H a xs/\xs.length<=i⟩
theorem Fg{P:bx}{w:World}{K:af}{elts:List Expr}{kk:Nat}{pos:Pos}(a e it:Addr)(iY:e≠it) :
  Turn P w K (.Tuple elts kk pos) (Yp K a) [e,it] e (fun i h=>(∃ old,IsEnum h e it i old)/\h.IsListIter it a i) where
 mem:=by simp
 obj:=fun i h EH b hb=>by
  obtain⟨⟨old,he⟩,hit⟩:=EH;rcases List.mem_cons.mp hb with rfl | hb
  ·exact⟨_,he,fun v z=>by cases z⟩
  ·have e:b=it:=by simpa using hb
   subst e;obtain⟨o,e,c,d⟩:=hit;exact⟨o,e,fun v z=>by rw [d] at z; cases z⟩
 keep:=(by rintro i h h' ⟨⟨old,he⟩,hit⟩ k; exact⟨⟨old,k e (by simp) _ he⟩,hit.at fun o q=>k it (by simp) o q⟩)
 item:=by
  intro X hP hw hK hc i pins s σ H E I hf st hg;obtain⟨⟨old,he⟩,hit⟩:=st;subst hP hw hK;obtain⟨xs,x,hq,hx⟩:=hg;obtain⟨aZ,rv,p,hz⟩:=I.list hq;obtain⟨u,hu,ru⟩:=rv.get hx;have WW:H s.heap.objs.size=none:=I.cz.fresh (ay _);have WN:e≠s.heap.objs.size:=bA (aI he);have WI:it≠s.heap.objs.size:=by obtain⟨o,q,_⟩:=hit; exact bA (aI q)
  refine wpAny_pyNext_enum_item he hit p.isList (x:=u) (by simpa using hu) iY fun h' ho Tn hT hsz kk=>?_;refine⟨_,rfl,?_⟩;have I1:Inv X pins σ (upd H s.heap.objs.size (.tup [.int i,x])) { s with heap:=h',toks:=s.toks+1 } :=
   I.KS (fp:=[e,it]) hf (fun b o hb q=>kk b o (fun z=>hb (by simp [z])) (fun z=>hb (by simp [z])) q) (ay _)
    ⟨by show 2<=aT; decide,[.int i s.toks,u],.cons ⟨_,rfl⟩ (.cons ru .nil),⟨_,hT,rfl,_,rfl⟩⟩
  refine wpAny_letOwnedTupleGo_enum (s:={ s with heap:=h',toks:=s.toks+1 }) ho fun h2 Tu ND=>?_;have f1:∀ b∈[e,it],nH X pins (upd H s.heap.objs.size (.tup [.int i,x])) b:=fun b hb=>(hf b hb).upd (by
   rcases List.mem_cons.mp hb with rfl | hb
   ·exact WN
   ·rw [List.mem_singleton.mp hb]; exact WI)
  have I2:Inv X pins σ (upd H s.heap.objs.size (.tup [.int i,x])) { s with heap:=h2,toks:=s.toks+1 } :=
   Inv.DY (s:={ s with heap:=h',toks:=s.toks+1 }) (t':=s.toks+1) (fp:=[e,it]) I1 f1 fun b o hb q=>(ND.2 b (fun z=>hb (by simp [z]))).trans q
  refine⟨.ref s.heap.objs.size,_,I2,rfl,⟨_,x,rfl,WW,rfl,fun ys hy=>by rw [I.AR hy hq]; exact hx⟩,⟨⟨u,?_⟩,?_⟩,fun b hb=>(f1 b hb).1⟩
  ·simpa using Tu
  ·exact Tn.at fun o q=>(ND.2 it (ku iY)).trans q
 done:=by
  intro X hP hw hK hc i pins s σ H E I hf st hg;obtain⟨⟨old,he⟩,hit⟩:=st;subst hP hw hK;obtain⟨xs,hq,hx⟩:=hg;obtain⟨aZ,rv,p,hz⟩:=I.list hq;have hl:=rv.length;refine wpAny_pyNext_enum_end (I.ok.hd hc) he hit p.isList (by simp; lia) fun h' eb=>⟨rfl,?_⟩;exact I.DY (t':=s.toks) (fp:=[e,it]) hf fun b o hb q=>eb b o (fun z=>hb (by simp [z])) q
 self:=(by rintro A i s Q E ⟨⟨old,he⟩,_⟩ h; exact wpAny_pyIter_enum he h)
end L2
namespace K2
open PySem PySem.Spec PyProof.Rows L2
section
variable {X:Cx} {elts:List Expr} {kk:Nat} {OX:Pos} {a b:Expr} {ta tb:eU} {pos p:Pos}
theorem EJ{pins:List (Addr×Obj)}{σ:L2.St}{H H1:Hp}{G G1:Gp}{s1:aj}{l:Addr}{vs:List V}{ds:List D}{ok:Gp->Prop}{R:List D->(Gp->Prop)->Gp->Prop}(I1:Inv X pins σ H1 s1)(m:Mv X.K H G H1 G1)(hq:rL X.K H1 l vs)
  (hk:∀ H2 G2,Kp H1 H2->kC X.K H2 G2->ok G2->∃ ws,rL X.K H2 l ws/\aX X.K H2 ws ds) (q:R (kl 0 ds) ok G1) :
  wpAny (model X.prog X.w) X.A (call (.type "enumerate") [.ref l]) (fun v s2=>wpAny (model X.prog X.w) X.A (w6 v) (DC X pins σ (.Tuple elts kk OX) H G R) X.xe s2) X.xe s1:=by
 obtain⟨aZ,rv,pl,hz⟩:=I1.list hq;refine call_enumerate_list pl.isList fun h' he hit hsz kp=>?_;refine wpAny_pyIter_enum he ?_;refine⟨_,[s1.heap.objs.size+1,s1.heap.objs.size],_,_,H1,G1,kl 0 ds,ok,rfl,I1.kept (t':=s1.toks) kp,m,Fg l _ _ (Nat.succ_ne_self _),⟨⟨_,he⟩,hit⟩,fun b hb=>?_,fun i H2 G2 k ab o=>?_,q⟩
 ·have xJ:s1.heap.objs.size<=b:=by
   rcases List.mem_cons.mp hb with rfl | hb
   ·lia
   ·rw [List.mem_singleton.mp hb]; exact ay _
  exact I1.CZ xJ (I1.cz.fresh xJ)
 ·obtain⟨ws,hw,rd⟩:=hk H2 G2 k ab o;refine⟨fun d hd=>?_,fun hl=>⟨ws,hw,by rw [rd.length,<-jW ds 0]; exact hl⟩⟩;rw [sE] at hd;cases Tw:ds[i]? with
  | none=>rw [Tw] at hd; cases hd
  | some d' =>
   rw [Tw] at hd;obtain⟨v,hv,r⟩:=rd.get Tw;refine⟨⟨ws,v,hw,hv⟩,?_⟩;rintro x H3 ⟨T,y,ex,hT,e3,hy⟩;subst ex e3;have:=hy ws hw;rw [hv] at this;cases this;have ed:D.tup [.int ((0+i:Nat):Int),d']=d:=by simpa using hd
   subst ed;refine⟨.tup cC (.cons (by rw [r8]; exact .int _) (.cons (r.mono (.new hT)) .nil)),.Kr ab hT⟩
theorem zo:cS "enumerate" = some (.type "enumerate"):=by decide +kernel
theorem u0 (hg:Gl X "enumerate") (hm:X.mg "enumerate" = none) (ha:eV X a ta) (hs:autoParam (bQ [a] X.env=[(false,eval a X.env)]) Ar._auto_1):Kv X (.Tuple elts kk OX) (.Call (.Name "enumerate" p) [a] [] pos) (vH ta):=by
 intro E pins s σ H τ G R hE I h;have hA:E5 X [a] (aH ta bh):=aB ha aL hs;refine Call_ (oq I.inv hg hm zo (fQ (zY hA pos hE I (R:=R4 fun x G1=>mE x G1 R) h fun vs H1 ds G1 us s1 I1 m1 r1 iI q1=>?_) hs rfl))
 match ds,q1 with
 | [x],q1 =>
  change mE x G1 R at q1;obtain⟨w,rfl,Ag⟩:=iI.one;obtain⟨u,rfl,ru⟩:=r1.one;cases Ag with
  | dq hq rs=>cases ru; exact EJ I1.inv m1 hq.sq (fun H2 G2 k ab _=>⟨_,(k.Oo hq).sq,rs.mono k⟩) q1
  | ref p =>
   cases ru;unfold mE at q1;dsimp only at q1;split at q1
   ·rename_i ds e;obtain⟨vs,hv,rs⟩:=I1.ab.lst e;refine EJ I1.inv m1 (.of hv) (fun H2 G2 k ab o=>?_) q1;obtain⟨ws,hw,qB⟩:=ab.lst o;exact⟨ws,.of hw,qB⟩
   ·exact q1.elim
  | tup _ _=>exact q1.elim
  | pO _ _=>exact q1.elim
  | pN _ _=>exact q1.elim
  | cf=>exact q1.elim
  | bl _=>exact q1.elim
  | int _=>exact q1.elim
  | str _=>exact q1.elim
  | exc _=>exact q1.elim
  | Bh _ _=>exact q1.elim
 | [],q1=>exact q1.elim
 | _ :: _ :: _,q1=>exact q1.elim
end
end K2
end
section
namespace K2
open PySem PySem.Spec PyProof.Rows L2
section
variable {X:Cx} {o i a b:Expr} {to ti ta tb:eU} {pos p:Pos}
theorem Lr(hu:X.A.units+64 < cLine)(ho:eV X o to)(hi:eV X i ti)
  (ha:autoParam (∀ v,Hj (.Subscript o i pos) X.env v=(do
   let ov ← holding [v] (eval o X.env)
   let iv ← holding [v,ov] (eval i X.env)
   standAt pos
   holding [v,ov,iv] (setItem ov iv v)
   release [v,ov,iv] [])) Ai._auto_1):GY X (.Subscript o i pos) (NT to ti):=by
 intro E pins s σ H τ G w d u Q hE I r rd h;rw [ha];refine ae (eB (hZ ho hE I h fun x H1 dx G1 ov s1 I1 m1 r1 iI q1=>?_));refine ae (eB (hZ hi hE I1 q1 fun y H2 dy G2 iv s2 i5 m2 r2 yu q2=>?_));refine ae (wpAny_standAt (ae (eB ?_)));have QO:=m1.trans m2;have QI:=rd.mono (QO.kp I.ab);have ue:=I.st.mono (QO.kp I.ab);have VD:=iI.mono (m2.kp I1.ab);unfold D7 at q2;split at q2
 ·rename_i l;cases VD;cases r1;split at q2
  ·rename_i xs hg;obtain⟨vs,hv,rs⟩:=i5.ab.lst hg;split at q2
   ·rename_i k;cases yu;split at q2
    ·rename_i j hj;have m3:Mv X.K H2 G2 (upd H2 l (.lst (vs.set j w))) (cY G2 l (.lst (xs.set j d))):=.putL i5.ab hg hv (rs.set QI j);refine eN (set_list pins s2 σ H2 (.ref l) (.int k) w _ _ _ (fun H3=>H3=upd H2 l (.lst (vs.set j w))) i5.inv rfl r2 r ⟨l,vs,k,j,rfl,rfl,hv,?_,rfl⟩) ?_
     ·rw [rs.length]; exact hj
     ·rintro _ s3 ⟨H3,I3,e3⟩;subst e3;exact wpAny_release ⟨σ,_,τ,_,⟨I3,ue.mono (m3.kp i5.ab),m3.ab⟩,QO.trans m3,q2⟩
    ·exact q2.elim
   ·exact q2.elim
  ·rename_i aY hg;obtain⟨hk,hz,q⟩:=q2;obtain⟨H3,H4,I3,dp,m3⟩:=JG i5.inv i5.ab hg hk hz yu QI;exact Gr (by lia) I3 dp r2 r fun s4 I4=>wpAny_release ⟨σ,H4,τ,_,⟨I4,ue.mono (m3.kp i5.ab),m3.ab⟩,QO.trans m3,q⟩
  ·exact q2.elim
 ·exact q2.elim
end
end K2
end
section
namespace L2
open PySem PySem.Spec PyProof.Rows
structure Vd(z TI TO i1 i2 a b:Addr)(i:Nat)(h:Heap):Prop where
 hz:IsZip h z TI TO .none
 hI:IsPair h TI (.ref i1) (.ref i2)
 hO:∃ x y,IsPair h TO x y
 h1:h.IsListIter i1 a i
 h2:h.IsListIter i2 b i
end L2
end
section
namespace K2
open PySem PySem.W PyProof.Rows
noncomputable def fK{α:Type}(lt:Nat->Nat->Bool):KasT α->α
 | .ret a=>a
 | .ask i j k=>fK lt (k (lt i j))
theorem jS{α β:Type}(lt:Nat->Nat->Bool)(f:α->KasT β):∀ t:KasT α,fK lt (t.bind f)=fK lt (f (fK lt t))
 | .ret _=>rfl
 | .ask i j k=>jS lt f (k (lt i j))
noncomputable abbrev gA(p:Array Nat)(k:Nat):Nat:=p.getD k 0
theorem xM(p:Array Nat)(k:Nat):gA p k=(p[k]?).getD 0:=by
 unfold gA; rw [aP]
structure E3(lt:Nat->Nat->Bool):Prop where
 asymm:∀ i j,lt i j=true->lt j i=false
 trans:∀ i j k,lt j i=false->lt k j=false->lt k i=false
theorem E3.refl{lt:Nat->Nat->Bool}(w:E3 lt)(i:Nat):lt i i=false:=by
 cases h:lt i i with
 | false=>rfl
 | true=>rw [w.asymm _ _ h] at h; cases h
noncomputable def Up(lt:Nat->Nat->Bool)(p:Array Nat)(m:Nat):Prop:=∀ i j,i<=j->j < m->lt (gA p j) (gA p i)=false
noncomputable def Dn(lt:Nat->Nat->Bool)(p:Array Nat)(m:Nat):Prop:=∀ i j,i<=j->j < m->lt (gA p i) (gA p j)=false
section
variable {lt:Nat->Nat->Bool}
theorem Up.more(w:E3 lt){p:Array Nat}{n m:Nat}(h1:1<=n)(h:Up lt p n)(hs:∀ k,n<=k->k < m->lt (gA p k) (gA p (k - 1))=false):Up lt p m:=by
 intro i j EI WH;induction j with
 | zero =>
  have:i=0:=by lia
  subst this; exact w.refl _
 | succ j ih =>
  by_cases hj:j+1 < n
  ·exact h i (j+1) EI hj
  ·by_cases e:i=j+1
   ·subst e; exact w.refl _
   ·have h1:=ih (by lia) (by lia);have h2:=hs (j+1) (by lia) WH;exact w.trans _ _ _ h1 h2
theorem D8(p:Array Nat):∀ (f n:Nat),n<=fK lt (nO p f n)/\fK lt (nO p f n)<=n+f/\(∀ k,n<=k->k < fK lt (nO p f n)->lt (gA p k) (gA p (k - 1))=false) /\
  (fK lt (nO p f n) < n+f->lt (gA p (fK lt (nO p f n))) (gA p (fK lt (nO p f n) - 1))=true):=by
 intro f;induction f with
 | zero=>intro n; exact⟨ay _,ay _,fun k h1 h2=>absurd (show k < n from h2) (by lia),fun h=>absurd (show n < n+0 from h) (by lia)⟩
 | succ f ih =>
  intro n;have e:fK lt (nO p (f+1) n)=if lt (gA p n) (gA p (n - 1))=true then n else fK lt (nO p f (n+1)):=by
   show fK lt (if lt (gA p n) (gA p (n - 1))=true then sd n else nO p f (n+1))=_;split <;> rfl
  rw [e];by_cases c:lt (gA p n) (gA p (n - 1))=true
  ·rw [if_pos c];exact⟨ay _,by lia,fun k h1 h2=>absurd h2 (by lia),fun _=>c⟩
  ·rw [if_neg c];obtain⟨h1,h2,h3,h4⟩:=ih (n+1);refine⟨by lia,by lia,fun k k1 k2=>?_,fun h=>h4 (by lia)⟩;by_cases e:k=n
   ·subst e; simpa using c
   ·exact h3 k (by lia) k2
theorem fJ{p:Array Nat}{i j:Nat}(hj:j<=p.size)(k:Nat):gA (e6 p i j) k=if i<=k/\k < j then gA p (i+j - 1 - k) else gA p k:=by
 rw [xM,e6,getElem?_mirror_all hj];split <;> rw [xM]
theorem j8(p:Array Nat)(i j:Nat):(e6 p i j).size=p.size:=mirror_size _ _ _ _
theorem ij(p:Array Nat)(i j:Nat):(e6 p i j).Perm p:=mirror_perm _ _ _ _
theorem Dn.rev{p:Array Nat}{a n:Nat}(w:E3 lt)(hn:n<=p.size)(h:Dn lt p n)(he:∀ k,a<=k->k < n->lt (gA p (n - 1)) (gA p k)=false):Dn lt (e6 p a n) n:=by
 intro i j EI PS;rw [fJ hn,fJ hn];by_cases hi:a<=i
 ·rw [if_pos ⟨hi,by lia⟩,if_pos ⟨by lia,PS⟩];exact w.trans _ _ _ (he (a+n - 1 - j) (by lia) (by lia)) (h (a+n - 1 - i) (n - 1) (by lia) (by lia))
 ·rw [if_neg (by lia)];by_cases hj:a<=j
  ·rw [if_pos ⟨hj,PS⟩];exact h i (a+n - 1 - j) (by lia) (by lia)
  ·rw [if_neg (by lia)];exact h i j EI PS
noncomputable def Vk(lt:Nat->Nat->Bool)(p:Array Nat)(n q:Nat):Prop:=q+1<=n/\∀ k,n - (q+1)<=k->k < n->lt (gA p (n - 1)) (gA p k)=false
theorem Dn.one(w:E3 lt){p:Array Nat}{n:Nat}(h1:1<=n)(h:Dn lt p n)(hc:lt (gA p (n - 1)) (gA p n)=false):Dn lt p (n+1):=by
 intro i j EI hj;by_cases e:j=n
 ·subst e;by_cases e2:i=j
  ·subst e2; exact w.refl _
  ·exact w.trans _ _ _ hc (h i (j - 1) (by lia) (by lia))
 ·exact h i j EI (by lia)
theorem HU(w:E3 lt):∀ (f:Nat) (p:Array Nat) (n q:Nat),n+f<=p.size->Dn lt p n->Vk lt p n q->∃ p' n' q',fK lt (jq f p n q)=(p',n',q')/\p'.Perm p/\p'.size=p.size/\n<=n'/\n'<=n+f/\Dn lt p' n'/\Vk lt p' n' q':=by
 intro f;induction f with
 | zero=>intro p n q _ hd he; exact⟨p,n,q,rfl,kA _,rfl,ay _,ay _,hd,he⟩
 | succ f ih =>
  intro p n q hs hd he;have h1:1<=n:=by have:=he.1; lia
  have e:fK lt (jq (f+1) p n q)=if lt (gA p n) (gA p (n - 1))=true then (if q > 0 then fK lt (jq f (e6 p (n - (q+1)) n) (n+1) 0) else fK lt (jq f p (n+1) 0))
    else if lt (gA p (n - 1)) (gA p n)=true then (p,n,q) else fK lt (jq f p (n+1) (q+1)):=by
   show fK lt (if lt (gA p n) (gA p (n - 1))=true then (if q > 0 then jq f (e6 p (n - (q+1)) n) (n+1) 0 else jq f p (n+1) 0) else .ask (gA p (n - 1)) (gA p n) fun d=>if d=true then .ret (p,n,q) else jq f p (n+1) (q+1))=_;split
   ·split <;> rfl
   ·show fK lt (if lt (gA p (n - 1)) (gA p n)=true then sd (p,n,q) else jq f p (n+1) (q+1))=_;split <;> rfl
  rw [e];by_cases c:lt (gA p n) (gA p (n - 1))=true
  ·rw [if_pos c];have ca:=w.asymm _ _ c;by_cases hq:q > 0
   ·rw [if_pos hq];have d1:Dn lt (e6 p (n - (q+1)) n) n:=hd.rev w (by lia) he.2;have en:gA (e6 p (n - (q+1)) n) n=gA p n:=by rw [fJ (by lia),if_neg (by lia)]
    have XX:lt (gA (e6 p (n - (q+1)) n) (n - 1)) (gA (e6 p (n - (q+1)) n) n)=false:=by
     rw [en,fJ (by lia)];split
     ·-- an item of RG QE is above p n
      exact w.trans _ _ _ ca (hd _ (n - 1) (by lia) (by lia))
     ·exact ca
    obtain⟨p',n',q',z,h2,h3,h4,h5,h6,h7⟩:=ih (e6 p (n - (q+1)) n) (n+1) 0 (by rw [j8]; lia) (d1.one w h1 XX) ⟨by lia,fun k k1 k2=>by
     have:k=n:=by lia
     subst this; exact w.refl _⟩
    exact⟨p',n',q',z,h2.trans (ij _ _ _),h3.trans (j8 _ _ _),by lia,by lia,h6,h7⟩
   ·rw [if_neg hq];obtain⟨p',n',q',z,h2,h3,h4,h5,h6,h7⟩:=ih p (n+1) 0 (by lia) (hd.one w h1 ca) ⟨by lia,fun k k1 k2=>by
     have:k=n:=by lia
     subst this; exact w.refl _⟩
    exact⟨p',n',q',z,h2,h3,by lia,by lia,h6,h7⟩
  ·rw [if_neg c];have c':lt (gA p n) (gA p (n - 1))=false:=by simpa using c
   by_cases d:lt (gA p (n - 1)) (gA p n)=true
   ·rw [if_pos d];exact⟨p,n,q,rfl,kA _,rfl,ay _,by lia,hd,he⟩
   ·rw [if_neg d];have d':lt (gA p (n - 1)) (gA p n)=false:=by simpa using d
    obtain⟨p',n',q',z,h2,h3,h4,h5,h6,h7⟩:=ih p (n+1) (q+1) (by lia) (hd.one w h1 d') ⟨by have:=he.1; lia,fun k k1 k2=>by
     rw [Nat.add_sub_cancel];by_cases e:k=n
     ·subst e; exact w.refl _
     ·exact w.trans _ _ _ (he.2 k (by lia) (by lia)) c'⟩
    exact⟨p',n',q',z,h2,h3,by lia,by lia,h6,h7⟩
theorem Dn.up{p:Array Nat}{n:Nat}(hn:n<=p.size)(h:Dn lt p n):Up lt (e6 p 0 n) n:=by
 intro i j EI PS;rw [fJ hn,fJ hn,if_pos ⟨by lia,PS⟩,if_pos ⟨by lia,by lia⟩];exact h _ _ (by lia) (by lia)
theorem Ah(w:E3 lt){p:Array Nat}{n nrem:Nat}(h1:1<=n)(hn:n<=nrem)(hs:nrem<=p.size)(h:Dn lt p n):∃ p' m,fK lt (Hf n nrem p)=(m,p')/\p'.Perm p/\p'.size=p.size/\n<=m/\m<=nrem/\Up lt p' m:=by
 obtain⟨a1,a2,a3,_⟩:=D8 (lt:=lt) (e6 p 0 n) (nrem - n) n;refine⟨e6 p 0 n,fK lt (nO (e6 p 0 n) (nrem - n) n),by rw [Hf,jS]; rfl,ij _ _ _,j8 _ _ _,a1,by lia,?_⟩;exact(h.up (by lia)).more w h1 a3
theorem qD(w:E3 lt){p:Array Nat}{n nrem:Nat}(h1:1<=n)(hn:n < nrem)(hs:nrem<=p.size)(h:Dn lt p n)(hc:lt (gA p (n - 1)) (gA p n)=false) :
  ∃ p' m,fK lt (uE n nrem p)=(m,p')/\p'.Perm p/\p'.size=p.size/\n<=m/\m<=nrem/\Up lt p' m:=by
 obtain⟨p1,n1,q1,z,z2,z3,z4,z5,z6,z7⟩:=HU w (nrem - (n+1)) p (n+1) 0 (by lia) (h.one w h1 hc) ⟨by lia,fun k k1 k2=>by
  have:k=n:=by lia
  subst this; exact w.refl _⟩
 rw [uE,jS,z];show ∃ p' m,fK lt (if q1 > 0 then Hf n1 nrem (e6 p1 (n1 - (q1+1)) n1) else Hf n1 nrem p1)=(m,p')/\_;by_cases hq:q1 > 0
 ·rw [if_pos hq];obtain⟨p',m,y1,y2,y3,y4,y5,y6⟩:=Ah (nrem:=nrem) w (p:=e6 p1 (n1 - (q1+1)) n1) (by lia) (by lia) (by rw [j8]; lia) (z6.rev w (by lia) z7.2);exact⟨p',m,y1,(y2.trans (ij _ _ _)).trans z2,(y3.trans (j8 _ _ _)).trans z3,by lia,y5,y6⟩
 ·rw [if_neg hq];obtain⟨p',m,y1,y2,y3,y4,y5,y6⟩:=Ah (nrem:=nrem) w (p:=p1) (by lia) (by lia) (by lia) z6;exact⟨p',m,y1,y2.trans z2,y3.trans z3,by lia,y5,y6⟩
theorem Fw(w:E3 lt){p:Array Nat}{nrem:Nat}(h1:1<=nrem)(hs:nrem<=p.size):∃ p' m,fK lt (kas_count nrem p)=(m,p')/\p'.Perm p/\p'.size=p.size/\1<=m/\m<=nrem/\Up lt p' m:=by
 obtain⟨a1,a2,a3,a4⟩:=D8 (lt:=lt) p (nrem - 1) 1;rw [kas_count,jS];generalize fK lt (nO p (nrem - 1) 1)=n at a1 a2 a3 a4;have u1:Up lt p 1:=fun i j EI hj=>by
  have:i=j:=by lia
  subst this; exact w.refl _
 have up:Up lt p n:=u1.more w (ay _) a3;by_cases e:n=nrem
 ·subst e;rw [if_pos (by simp)];exact⟨p,n,rfl,kA _,rfl,a1,ay _,up⟩
 ·rw [if_neg (by simpa using e)];have hb:=a4 (by lia);by_cases h2:n > 1
  ·rw [if_pos h2];show ∃ p' m,fK lt (if lt (gA p 0) (gA p (n - 1))=true then sd (n,p) else uE n nrem (e6 p 0 n))=(m,p')/\_;by_cases c:lt (gA p 0) (gA p (n - 1))=true
   ·rw [if_pos c];exact⟨p,n,rfl,kA _,rfl,a1,by lia,up⟩
   ·rw [if_neg c];have c':lt (gA p 0) (gA p (n - 1))=false:=by simpa using c
    have all:∀ i j,i < n->j < n->lt (gA p i) (gA p j)=false:=fun i j hi hj =>
     w.trans _ _ _ (w.trans _ _ _ (up j (n - 1) (by lia) (by lia)) c') (up 0 i (by lia) hi)
    have d1:Dn lt (e6 p 0 n) n:=fun i j EI hj=>by
     rw [fJ (by lia),fJ (by lia),if_pos ⟨by lia,by lia⟩,if_pos ⟨by lia,hj⟩];exact all _ _ (by lia) (by lia)
    have hl:lt (gA (e6 p 0 n) (n - 1)) (gA (e6 p 0 n) n)=false:=by
     rw [fJ (by lia),fJ (by lia),if_pos ⟨by lia,by lia⟩,if_neg (by lia)];exact w.trans _ _ _ (w.asymm _ _ hb) (all _ _ (by lia) (by lia))
    obtain⟨p',m,y1,y2,y3,y4,y5,y6⟩:=qD (nrem:=nrem) w (p:=e6 p 0 n) a1 (by lia) (by rw [j8]; lia) d1 hl;exact⟨p',m,y1,y2.trans (ij _ _ _),y3.trans (j8 _ _ _),by lia,y5,y6⟩
  ·rw [if_neg h2];have e1:n=1:=by lia
   subst e1;have d1:Dn lt p 1:=fun i j EI hj=>by
    have:i=j:=by lia
    subst this; exact w.refl _
   obtain⟨p',m,y1,y2,y3,y4,y5,y6⟩:=qD (nrem:=nrem) w (p:=p) (ay _) (by lia) hs d1 (w.asymm _ _ hb);exact⟨p',m,y1,y2,y3,by lia,y5,y6⟩
theorem Fv(w:E3 lt){p:Array Nat}{k:Nat}:∀ (f l r:Nat),l<=r->r<=k->r - l<=f->Up lt p k->(∀ i,i < l->lt (gA p k) (gA p i)=false)->(∀ i,r<=i->i < k->lt (gA p k) (gA p i)=true) ->
  ∃ m,fK lt (ic p k f l r)=m/\m<=k/\(∀ i,i < m->lt (gA p k) (gA p i)=false)/\(∀ i,m<=i->i < k->lt (gA p k) (gA p i)=true):=by
 intro f;induction f with
 | zero =>
  intro l r WA QS hf up h1 h2;have:l=r:=by lia
  subst this;exact⟨l,rfl,QS,h1,h2⟩
 | succ f ih =>
  intro l r WA QS hf up h1 h2;have e:fK lt (ic p k (f+1) l r)=if l>=r then l else if lt (gA p k) (gA p ((l+r) / 2))=true then fK lt (ic p k f l ((l+r) / 2)) else fK lt (ic p k f ((l+r) / 2+1) r):=by
   show fK lt (if l>=r then sd l else .ask (gA p k) (gA p ((l+r) / 2)) fun c=>if c=true then ic p k f l ((l+r) / 2) else ic p k f ((l+r) / 2+1) r)=_;split
   ·rfl
   ·show fK lt (if lt (gA p k) (gA p ((l+r) / 2))=true then ic p k f l ((l+r) / 2) else ic p k f ((l+r) / 2+1) r)=_;split <;> rfl
  rw [e];by_cases c:l>=r
  ·rw [if_pos c];have:l=r:=by lia
   subst this;exact⟨l,rfl,QS,h1,h2⟩
  ·rw [if_neg c];by_cases d:lt (gA p k) (gA p ((l+r) / 2))=true
   ·rw [if_pos d];refine ih l ((l+r) / 2) (by lia) (by lia) (by lia) up h1 fun i i1 i2=>?_;cases q:lt (gA p k) (gA p i) with
    | true=>rfl
    | false=>rw [w.trans _ _ _ (up ((l+r) / 2) i i1 i2) q] at d; cases d
   ·rw [if_neg d];refine ih ((l+r) / 2+1) r (by lia) QS (by lia) up (fun i hi=>?_) h2;exact w.trans _ _ _ (up i ((l+r) / 2) (by lia) (by lia)) (by simpa using d)
theorem xN{p:Array Nat}{src d:Nat}(hs:src < p.size)(hd:d<=src)(k:Nat):gA (bubble p src d) k=if k=src - d then gA p src else if src - d < k/\k<=src then gA p (k - 1) else gA p k:=by
 rw [xM,getElem?_bubble hs d hd,xM p src,xM p (k - 1),xM p k];by_cases h1:k=src - d
 ·rw [if_pos h1,if_pos h1]
 ·rw [if_neg h1,if_neg h1];by_cases h2:src - d < k/\k<=src
  ·rw [if_pos h2,if_pos h2]
  ·rw [if_neg h2,if_neg h2]
theorem Lc(w:E3 lt):∀ (f:Nat) (p:Array Nat) (k:Nat),k+f<=p.size->Up lt p k->∃ p',fK lt (kas_bin f p k)=p'/\p'.Perm p/\p'.size=p.size/\Up lt p' (k+f):=by
 intro f;induction f with
 | zero=>intro p k _ up; exact⟨p,rfl,kA _,rfl,up⟩
 | succ f ih =>
  intro p k hs up;obtain⟨m,e,hm,h1,h2⟩:=Fv w k 0 k (bR _) (ay _) (ay _) up (fun i hi=>absurd hi (by lia)) (fun i i1 i2=>absurd i1 (by lia));have Vs:Up lt (bubble p k (k - m)) (k+1):=by
   intro i j EI hj;rw [xN (by lia) (by lia),xN (by lia) (by lia)];have ek:k - (k - m)=m:=by lia
   rw [ek];by_cases j1:j=m
   ·rw [if_pos j1];by_cases i1:i=m
    ·rw [if_pos i1]; exact w.refl _
    ·rw [if_neg i1,if_neg (by lia)]; exact h1 i (by lia)
   ·rw [if_neg j1];by_cases j2:m < j/\j<=k
    ·rw [if_pos j2];by_cases i1:i=m
     ·rw [if_pos i1]; exact w.asymm _ _ (h2 (j - 1) (by lia) (by lia))
     ·rw [if_neg i1];by_cases i2:m < i/\i<=k
      ·rw [if_pos i2]; exact up _ _ (by lia) (by lia)
      ·rw [if_neg i2]; exact up _ _ (by lia) (by lia)
    ·rw [if_neg j2,if_neg (by lia),if_neg (by lia)]; exact up _ _ EI (by lia)
  obtain⟨p',z,z1,z2,z3⟩:=ih (bubble p k (k - m)) (k+1) (by rw [bubble_size]; lia) Vs;refine⟨p',?_,z1.trans (bubble_perm _ _ _),z2.trans (bubble_size _ _ _),by rw [show k+(f+1)=k+1+f by lia]; exact z3⟩;rw [kas_bin,jS,e]; exact z
theorem Aj(w:E3 lt){n:Nat}(h1:1<=n):∃ p,fK lt (kas_sort n)=p/\p.toList.Perm (bW n)/\p.size=n/\Up lt p n:=by
 obtain⟨p,m,z,z1,z2,z3,z4,z5⟩:=Fw w (p:=(bW n).toArray) h1 (by simp);have zs:p.size=n:=by rw [z2]; simp
 have zp:p.toList.Perm (bW n):=by simpa using z1.toList
 rw [kas_sort,jS,z];show ∃ q,fK lt (if m < n then kas_bin (n - max m 1) p (max m 1) else .ret p)=q/\_;by_cases c:m < n
 ·rw [if_pos c];have em:max m 1=m:=by lia
  rw [em];obtain⟨p',y,y1,y2,y3⟩:=Lc w (n - m) p m (by lia) z5;exact⟨p',y,(by simpa using y1.toList:p'.toList.Perm p.toList).trans zp,y2.trans zs,by rw [show n=m+(n - m) by lia]; exact y3⟩
 ·rw [if_neg c];have:m=n:=by lia
  subst this;exact⟨p,rfl,zp,zs,z5⟩
end
end K2
end
section
namespace K2
open PySem PySem.Spec PyProof.Rows L2
open PySem.AutoSeq1 (wpAny_loadPart')
open PySem.MeetsSeq PySem.MeetsSeq2 PySem.MeetsSeq3 PySem.SeqAt
noncomputable def vX(A:cM)(s:aj)(y x:Value)(b:Bool):Prop :=
 ∀ (prog:bx) (w:World) (E:Value->aj->Prop) (Q:Value->aj->Prop),Q (.bool b) s->wpAny (model prog w) A (nN .Lt y x) Q E s
noncomputable def pb(e l:Nat->Bool)(n m:Nat):Nat->Nat->Bool
 | 0,_=>decide (n < m)
 | f+1,i=>if e i=true then pb e l n m f (i+1) else l i
theorem LI(l b:Addr)(xs ys:Array Value)(n m:Nat)(dd de:Option Addr)(sl sm:Array (Option Value))(e lt:Nat->Bool)(k:Nat) :
  ∀ i:Nat,i<=min xs.size ys.size->min xs.size ys.size - i=k->Meets (Builtin.«list.__eq__.loop» ⟨[.ref l,.ref b,w5 i,w5 0],[]⟩)
   (fun A R s=>s.heap.get? l=some { cls:=.type "list",dict:=dd,data:=.seq xs n,slots:=sl }/\s.heap.get? b=some { cls:=.type "list",dict:=de,data:=.seq ys m,slots:=sm } /\
    (∀ j (h1:j < xs.size) (h2:j < ys.size),EqAt A.in1 s xs[j] ys[j] (e j)/\vX A.in1 s xs[j] ys[j] (lt j)) /\
    R (.ok (.ret (.bool (pb e lt xs.size ys.size k i)))) s):=by
 induction k with
 | zero =>
  intro i hi hk prog w A R s h;obtain⟨hp,g,d,tk,os⟩:=s;obtain⟨hl,hb,he,h⟩:=h
  wp_walk using bH hl,bH hb
  by_cases c:xs.size<=ys.size
  ·have h1:xs[((i:Nat):Int).toNat]?=none:=by simp; lia
   rw [h1]
   wp_walk using bH hl,bH hb
   exact h
  ·have h2:ys[((i:Nat):Int).toNat]?=none:=by simp; lia
   rw [h2];cases q:xs[((i:Nat):Int).toNat]? with
   | none =>
    wp_walk using bH hl,bH hb
    exact h
   | some v =>
    wp_walk using bH hl,bH hb
    exact h
 | succ k ih =>
  intro i hi hk prog w A R s h;obtain⟨hp,g,d,tk,os⟩:=s;obtain⟨hl,hb,he,h⟩:=h
  wp_walk using bH hl,bH hb
  have l1:i < xs.size:=by lia
  have l2:i < ys.size:=by lia
  have h1:xs[((i:Nat):Int).toNat]?=some xs[i]:=by simp [l1]
  have h2:ys[((i:Nat):Int).toNat]?=some ys[i]:=by simp [l2]
  have hc:((i:Int)+1)=((i+1:Nat):Int):=by push_cast; rfl
  rw [h1,h2];refine ae ((he i l1 l2).1 prog w _ _ ?_);cases q:e i with
  | true =>
   rw [pb,q,if_pos rfl] at h
   wp_walk
   rw [hc];exact⟨iG plain_eq_loop _,e7 entry_eq_loop (by
    rw [dj plain_eq_loop _];exact ih (i+1) (by lia) (by lia) prog w A R _ ⟨hl,hb,he,h⟩)⟩
  | false =>
   rw [pb,q,if_neg (by simp)] at h
   wp_walk using bH hl,bH hb
   rw [h1,h2];have PK:=(he i l1 l2).2 prog w
   wp_walk using PK
   exact h
theorem xA(l b:Addr)(xs ys:Array Value)(n m:Nat)(dd de:Option Addr)(sl sm:Array (Option Value))(e lt:Nat->Bool) :
  Meets (Builtin.«list.__lt__» ⟨[.ref l,.ref b],[]⟩)
   (fun A R s=>s.heap.get? l=some { cls:=.type "list",dict:=dd,data:=.seq xs n,slots:=sl }/\s.heap.get? b=some { cls:=.type "list",dict:=de,data:=.seq ys m,slots:=sm } /\
    (∀ j (h1:j < xs.size) (h2:j < ys.size),EqAt A.in1 s xs[j] ys[j] (e j)/\vX A.in1 s xs[j] ys[j] (lt j)) /\
    R (.ok (.ret (.bool (pb e lt xs.size ys.size (min xs.size ys.size) 0)))) s):=by
 intro prog w A R s h;obtain⟨hp,g,d,tk,os⟩:=s;obtain⟨hl,hb,he,h⟩:=h;have f3:=Ca
 wp_walk using bH hl,bH hb
 exact⟨iG plain_eq_loop _,e7 entry_eq_loop (by
  rw [dj plain_eq_loop _];exact LI l b xs ys n m dd de sl sm e lt _ 0 (bR _) rfl prog w A R _ ⟨hl,hb,he,h⟩)⟩
theorem uK(l b:Addr)(xs ys:Array Value)(n m:Nat)(dd de:Option Addr)(sl sm:Array (Option Value))(e lt:Nat->Bool) :
  Meets (Builtin.«tuple.__lt__» ⟨[.ref l,.ref b],[]⟩)
   (fun A R s=>s.heap.get? l=some { cls:=.type "tuple",dict:=dd,data:=.seq xs n,slots:=sl }/\s.heap.get? b=some { cls:=.type "tuple",dict:=de,data:=.seq ys m,slots:=sm } /\
    (∀ j (h1:j < xs.size) (h2:j < ys.size),EqAt A.in1 s xs[j] ys[j] (e j)/\vX A.in1 s xs[j] ys[j] (lt j)) /\
    R (.ok (.ret (.bool (pb e lt xs.size ys.size (min xs.size ys.size) 0)))) s) :=
 .of_wp fun prog w A R s h=>by
  obtain⟨hp,g,d,tk,os⟩:=s;obtain⟨hl,hb,he,h⟩:=h;have f2:=mX;have zl:(xs.toList.zip ys.toList).length=min xs.size ys.size:=by simp
  wp_walk using bH hl,bH hb,wpAny_forIn_list _ (fun rest c s'=>c.1=none/\s'=⟨hp,g,d,tk,os⟩/\∃ i,i<=min xs.size ys.size/\rest=(xs.toList.zip ys.toList).drop i /\
   R (.ok (.ret (.bool (pb e lt xs.size ys.size (min xs.size ys.size - i) i)))) ⟨hp,g,d,tk,os⟩) _
  case turn =>
   rintro⟨y,x⟩ rest c s' ⟨hc,rfl,i,hi,hz,hR⟩;have il:i < min xs.size ys.size:=by
    have:=congrArg gM hz;rw [cP,zl,ak] at this;lia
   have l1:i < xs.size:=by lia
   have l2:i < ys.size:=by lia
   rw [cA (by rw [zl]; exact il)] at hz;injection hz with SU Jc
   have ey:y=xs[i]/\x=ys[i]:=by simpa using SU
   obtain⟨rfl,rfl⟩:=ey;obtain⟨k,ek⟩:∃ k,min xs.size ys.size - i=k+1:=⟨min xs.size ys.size - i - 1,by lia⟩;rw [ek,pb] at hR;refine ae ((he i l1 l2).1 prog w _ _ ?_);cases q:e i with
   | true =>
    rw [q,if_pos rfl] at hR
    wp_walk
    exact⟨rfl,rfl,i+1,by lia,Jc,by rw [show min xs.size ys.size - (i+1)=k by lia]; exact hR⟩
   | false =>
    rw [q,if_neg (by simp)] at hR;have PK:=(he i l1 l2).2 prog w
    wp_walk using PK
    exact⟨_,rfl,by simpa using hR⟩
  case fin =>
   rintro⟨c1,c2⟩ s' ⟨hc,rfl,i,hi,hz,hR⟩;simp only at hc;subst hc;have il:min xs.size ys.size - i=0:=by
    have:=congrArg gM hz;rw [cP,zl,ar] at this;lia
   rw [il,pb] at hR
   wp_walk
   exact⟨_,rfl,by simpa [ql] using hR⟩
  case h =>
   exact⟨rfl,rfl,0,bR _,rfl,by simpa using h⟩
theorem FN{A:cM}{s:aj}{l b:Addr}{xs ys:Array Value}{e lt:Nat->Bool}(hl:s.heap.IsList l xs)(hb:s.heap.IsList b ys)(hu:A.units < cLine)
  (he:∀ j (h1:j < xs.size) (h2:j < ys.size),EqAt A.in1 s xs[j] ys[j] (e j)/\vX A.in1 s xs[j] ys[j] (lt j)):vX A s (.ref l) (.ref b) (pb e lt xs.size ys.size (min xs.size ys.size) 0):=by
 intro prog w E Q hq;obtain⟨⟨cls,dd,data,sl⟩,ho,hc,n,hd⟩:=id hl;obtain⟨⟨JP,ES,data2,D6⟩,xH,yT,n2,hd2⟩:=id hb;simp only at hc hd yT hd2;subst hc hd yT hd2;exact tR (op:=.Lt) ⟨_,ho,rfl⟩ ⟨_,xH,rfl⟩ qg Fc (DR _ _) (xA l b xs ys n n2 dd ES sl D6 e lt)
  ⟨ho,xH,he,(fun x=>nomatch x),hq⟩ hu
theorem CI{A:cM}{s:aj}{l b:Addr}{xs ys:Array Value}{e lt:Nat->Bool}(hl:s.heap.IsTuple l xs)(hb:s.heap.IsTuple b ys)(hu:A.units < cLine)
  (he:∀ j (h1:j < xs.size) (h2:j < ys.size),EqAt A.in1 s xs[j] ys[j] (e j)/\vX A.in1 s xs[j] ys[j] (lt j)):vX A s (.ref l) (.ref b) (pb e lt xs.size ys.size (min xs.size ys.size) 0):=by
 intro prog w E Q hq;obtain⟨⟨cls,dd,data,sl⟩,ho,hc,n,hd⟩:=id hl;obtain⟨⟨JP,ES,data2,D6⟩,xH,yT,n2,hd2⟩:=id hb;simp only at hc hd yT hd2;subst hc hd yT hd2;exact tR (op:=.Lt) ⟨_,ho,rfl⟩ ⟨_,xH,rfl⟩ jG o6 (nR _ _) (uK l b xs ys n n2 dd ES sl D6 e lt)
  ⟨ho,xH,he,(fun x=>nomatch x),hq⟩ hu
theorem lJ(xs ys:List D):∀ (k i:Nat),i<=min xs.length ys.length->min xs.length ys.length - i=k ->
  pb (fun j=>fM (xs.getD j .cf) (ys.getD j .cf)) (fun j=>kI (xs.getD j .cf) (ys.getD j .cf)) xs.length ys.length k i=kH (xs.drop i) (ys.drop i)
 | 0,i,hi,hk=>by
  rw [pb];by_cases c:xs.length<=ys.length
  ·have e1:xs.drop i=[]:=jK (by lia);rw [e1];cases q:ys.drop i with
   | nil =>
    have:=congrArg gM q;rw [cP,ar] at this;exact decide_eq_false (by lia)
   | cons y r =>
    have:=congrArg gM q;rw [cP,ak] at this;exact decide_eq_true (by lia)
  ·have e1:ys.drop i=[]:=jK (by lia);rw [e1];cases q:xs.drop i with
   | nil =>
    have:=congrArg gM q;rw [cP,ar] at this;exact decide_eq_false (by lia)
   | cons y r=>exact decide_eq_false (by lia)
 | k+1,i,hi,hk=>by
  have l1:i < xs.length:=by lia
  have l2:i < ys.length:=by lia
  rw [pb,cA l1,cA l2,mz,lJ xs ys k (i+1) (by lia) (by lia)];have g1:xs.getD i .cf=xs[i]:=by rw [aC,ah l1]; rfl
  have g2:ys.getD i .cf=ys[i]:=by rw [aC,ah l2]; rfl
  rw [g1,g2]
theorem ik{h:Heap}:∀ {ds:List D} {vs:List Value} {as:List Addr},fh h vs (jD ds) as->∀ j (hj:j < vs.length),∃ bs,Reads h vs[j] (pd (ds.getD j .cf)) bs
 | [],vs,as,r,j,hj=>by cases r; exact absurd hj (bY _)
 | d :: ds,_,_,.cons (v:=v) (vs:=vs) r1 r2,j,hj=>by
  cases j with
  | zero=>exact⟨_,r1⟩
  | succ j=>exact ik r2 j (by simpa using hj)
theorem readsAll_len{h:Heap}:∀ {ds:List D} {vs:List Value} {as:List Addr},fh h vs (jD ds) as->vs.length=ds.length
 | [],_,_,r=>by cases r; rfl
 | d :: ds,_,_,.cons r1 r2=>by rw [ak,ak,readsAll_len r2]
theorem mq:∀ {ds:List D},nh ds=true->∀ j,nr (ds.getD j .cf)=true
 | [],_,j=>by rw [List.getD_nil]; rfl
 | d :: ds,h,0=>by
  have h:(nr d&&nh ds)=true:=h;rw [az] at h; simpa using h.1
 | d :: ds,h,j+1=>by
  have h:(nr d&&nh ds)=true:=h;rw [az] at h; simpa using mq h.2 j
theorem jj:∀ (ds:List D) (j:Nat),(pd (ds.getD j .cf)).depth<=bJ (jD ds)
 | [],j=>by rw [List.getD_nil]; exact ay _
 | d :: ds,0=>by
  show (pd d).depth<=bJ (pd d :: jD ds);simp only [bJ]; lia
 | d :: ds,j+1=>by
  have:=jj ds j;show (pd (ds.getD j .cf)).depth<=bJ (pd d :: jD ds);simp only [bJ]; lia
theorem oy:∀ {l:List kJ} {ds:List D},dJ l ds=true->∀ j,j < ds.length->∃ s∈l,bZ s (ds.getD j .cf)=true/\l[j]?=some s
 | [],[],_,j,hj=>absurd hj (bY _)
 | [],_ :: _,h,_,_=>by cases h
 | _ :: _,[],h,_,_=>by cases h
 | s :: l,d :: ds,h,0,_=>by
  have h:(bZ s d&&dJ l ds)=true:=h;rw [az] at h;exact⟨s,by simp,by simpa using h.1,by simp⟩
 | s :: l,d :: ds,h,j+1,hj=>by
  have h:(bZ s d&&dJ l ds)=true:=h;rw [az] at h;obtain⟨s',h1,h2,h3⟩:=oy h.2 j (by simpa using hj);exact⟨s',au _ h1,by simpa using h2,by simpa using h3⟩
theorem oz:∀ {s:kJ} {ds:List D},ff s ds=true->∀ j,j < ds.length->bZ s (ds.getD j .cf)=true
 | s,[],_,j,hj=>absurd hj (bY _)
 | s,d :: ds,h,0,_=>by
  have h:(bZ s d&&ff s ds)=true:=h;rw [az] at h; simpa using h.1
 | s,d :: ds,h,j+1,hj=>by
  have h:(bZ s d&&ff s ds)=true:=h;rw [az] at h; simpa using oz h.2 j (by simpa using hj)
theorem zc{A:cM}{s:aj}{xs ys:List D}{vs ws:Array Value}{as bs:List Addr}(r1:fh s.heap vs.toList (jD xs) as)(r2:fh s.heap ws.toList (jD ys) bs)(n1:nh xs=true)(n2:nh ys=true)
  (hu:A.units+bJ (jD xs) < cLine) (j:Nat) (h1:j < vs.size) (h2:j < ws.size):EqAt A s vs[j] ws[j] (fM (xs.getD j .cf) (ys.getD j .cf)):=by
 obtain⟨Qv,q1⟩:=ik r1 j (by simpa using h1);obtain⟨Qq,q2⟩:=ik r2 j (by simpa using h2);have m1:=mq n1 j;have m2:=mq n2 j;have dp:=jj xs j;have:=eqAt_reads (pd (xs.getD j .cf)) (pd (ys.getD j .cf)) A s _ _ _ _ q1 q2 (iz _ m1) (iz _ m2) (by lia);rw [pU _ _ m1 m2] at this;simpa using this
theorem vm:∀ (n:Nat) (sh:kJ) (a b:D) (A:cM) (s:aj) (u v:Value) (as bs:List Addr),(pd a).depth<=n->bZ sh a=true->bZ sh b=true->nr a=true->nr b=true->Reads s.heap u (pd a) as->Reads s.heap v (pd b) bs->A.units+n < cLine->vX A s u v (kI a b):=by
 intro n;induction n using Nat.strongRecOn with
 | _ n ih =>
 intro sh a b A s u v as bs hn h1 h2 n1 n2 r1 r2 hu;cases sh with
 | int =>
  first | obtain⟨_,rfl⟩:=cF h1 | obtain⟨_,rfl⟩:=cD h1 | obtain⟨_,rfl⟩:=cE h1
  first | obtain⟨_,rfl⟩:=cF h2 | obtain⟨_,rfl⟩:=cD h2 | obtain⟨_,rfl⟩:=cE h2
  cases r1; cases r2;intro prog w E Q hq;exact HT.uY A s _ _ _ _ prog w E Q hq
 | tup l =>
  first | obtain⟨_,rfl⟩:=cF h1 | obtain⟨_,rfl⟩:=cD h1 | obtain⟨_,rfl⟩:=cE h1
  first | obtain⟨_,rfl⟩:=cF h2 | obtain⟨_,rfl⟩:=cD h2 | obtain⟨_,rfl⟩:=cE h2
  rename_i xs ys;have n1:nh xs=true:=n1;have n2:nh ys=true:=n2;cases r1 with
  | tuple k1 k2 k3 k4 =>
   cases r2 with
   | tuple m1 m2 m3 m4 =>
    rename_i p o vs c p' o' ws c';have hd:(pd (.tup xs)).depth=bJ (jD xs)+1:=rfl;obtain⟨n',rfl⟩:∃ n',n=n'+1:=⟨n - 1,by lia⟩;have z1:=readsAll_len k4;have z2:=readsAll_len m4;have e1:vs.size=xs.length:=by simpa using z1
    have e2:ws.size=ys.length:=by simpa using z2
    have base:=CI (A:=A) (s:=s) (e:=fun j=>fM (xs.getD j .cf) (ys.getD j .cf)) (lt:=fun j=>kI (xs.getD j .cf) (ys.getD j .cf)) ⟨_,k1,k2,_,k3⟩ ⟨_,m1,m2,_,m3⟩ (by lia) (fun j j1 j2=>by
     refine⟨zc k4 m4 n1 n2 (by show A.units+1+_ < _; lia) j j1 j2,?_⟩;obtain⟨Qv,q1⟩:=ik k4 j (by simpa using j1);obtain⟨Qq,q2⟩:=ik m4 j (by simpa using j2);obtain⟨sj,Wq,g1,g2⟩:=oy (l:=l) (ds:=xs) h1 j (by lia);obtain⟨VC,S7,TH,Qc⟩:=oy (l:=l) (ds:=ys) h2 j (by lia);rw [g2] at Qc; cases Qc;have dp:=jj xs j;have:=ih n' (by lia) sj (xs.getD j .cf) (ys.getD j .cf) A.in1 s _ _ _ _ (by lia) g1 TH (mq n1 j) (mq n2 j) q1 q2 (by show A.units+1+n' < cLine; lia);simpa using this)
    have fin:=lJ xs ys (min xs.length ys.length) 0 (bR _) rfl;rw [e1,e2,fin] at base;exact base
 | lst l =>
  first | obtain⟨_,rfl⟩:=cF h1 | obtain⟨_,rfl⟩:=cD h1 | obtain⟨_,rfl⟩:=cE h1
  first | obtain⟨_,rfl⟩:=cF h2 | obtain⟨_,rfl⟩:=cD h2 | obtain⟨_,rfl⟩:=cE h2
  rename_i xs ys;have n1:nh xs=true:=n1;have n2:nh ys=true:=n2;cases r1 with
  | list k1 k2 k3 k4 =>
   cases r2 with
   | list m1 m2 m3 m4 =>
    rename_i p o vs c p' Qv o' ws c' Qq;have hd:(pd (.dq xs)).depth=bJ (jD xs)+1:=rfl;obtain⟨n',rfl⟩:∃ n',n=n'+1:=⟨n - 1,by lia⟩;have z1:=readsAll_len k4;have z2:=readsAll_len m4;have e1:vs.size=xs.length:=by simpa using z1
    have e2:ws.size=ys.length:=by simpa using z2
    have base:=FN (A:=A) (s:=s) (e:=fun j=>fM (xs.getD j .cf) (ys.getD j .cf)) (lt:=fun j=>kI (xs.getD j .cf) (ys.getD j .cf)) ⟨_,k1,k2,_,k3⟩ ⟨_,m1,m2,_,m3⟩ (by lia) (fun j j1 j2=>by
     refine⟨zc k4 m4 n1 n2 (by show A.units+1+_ < _; lia) j j1 j2,?_⟩;obtain⟨Qv,q1⟩:=ik k4 j (by simpa using j1);obtain⟨Qq,q2⟩:=ik m4 j (by simpa using j2);have dp:=jj xs j;have:=ih n' (by lia) l (xs.getD j .cf) (ys.getD j .cf) A.in1 s _ _ _ _ (by lia) (oz (s:=l) (ds:=xs) h1 j (by lia)) (oz (s:=l) (ds:=ys) h2 j (by lia)) (mq n1 j) (mq n2 j) q1 q2 (by show A.units+1+n' < cLine; lia);simpa using this)
    have fin:=lJ xs ys (min xs.length ys.length) 0 (bR _) rfl;rw [e1,e2,fin] at base;exact base
end K2
end
section
namespace K2
open PySem PySem.Spec PyProof.Rows L2 PySem.W
section
variable {prog:bx} {w:World} {A:cM} {E:Value->aj->Prop} {s:aj}
theorem z0 {at':Addr} {aZ:List Value} {n:Nat} {P:PySem.Fin->aj->Prop} (BW:s.heap.get? at'=some (sQ "list" aZ.toArray n)) (pT:aZ.length < 2)
  (done:P (.done (.ret .none)) { s with heap:=sortedHeap s.heap at' aZ aZ.toArray }):wpAny (model prog w) A (Builtin.«list.sort» ⟨[.ref at'],[]⟩) P E s:=by
 rw [list_sort_plain];have lt':at' < s.heap.objs.size:=aI BW;refine ae (listItems_at BW rfl (ae (listUpdate_at BW rfl ?_)));obtain⟨c,hc⟩:∃ c,(s.heap.update at' (gz fun _=>#[])).get? at'=some (sQ "list" #[] c):=⟨_,get?_update_seq BW (fun _=>#[])⟩;refine ae (seqEpoch_at hc rfl (ae (wpAny_newTuple (ae (wpAny_newList (eB ?_))))));have h6:(((s.heap.update at' (gz fun _=>#[])).push (sQ "tuple" aZ.toArray 0)).push (sQ "list" #[] 0)).get? at'=some (sQ "list" #[] c):=by
  rw [Heap.get?_push_ne _ _ _ (by rw [size_push',zG]; exact bA (j4 lt')),Heap.get?_push_ne _ _ _ (by rw [zG]; exact bA lt')];exact hc
 show wpAny (model prog w) A _ P E { s with heap:=((s.heap.update at' (gz fun _=>#[])).push (sQ "tuple" aZ.toArray 0)).push (sQ "list" #[] 0) };dsimp only;have T9:aZ.toArray.size < 2:=by simpa using pT
 rw [if_pos T9,if_pos T9];refine ae (aq ?_);rw [StateT.run_pure];refine ae (aq ?_);dsimp only;have es:(aZ.toArray.zip aZ.toArray).map (·.2)=aZ.toArray:=by
  apply Array.toList_inj.mp;simp [List.map_snd_zip]
 refine ae (seqEpoch_at h6 rfl (ae (listUpdate_at h6 rfl ?_ (hsz2:=by rw [show (arrOf (SortSt.mk' general' (aZ.toArray.zip aZ.toArray) #[] 7 none)).map (·.2)=aZ.toArray from es,br]; simp; lia))));simp only [bne_self_eq_false,av,if_false];refine aq ?_;rw [show (arrOf (SortSt.mk' general' (aZ.toArray.zip aZ.toArray) #[] 7 none)).map (·.2)=aZ.toArray from es];exact done
theorem Cp{l:Addr}{aZ:List Value}{Q:Value->aj->Prop}(hl:s.heap.IsList l aZ.toArray)(pT:aZ.length < 2)
  (done:Q (.ref (s.heap.objs.size+1)) { s with heap:=sortedAll s.heap aZ aZ.toArray }):wpAny (model prog w) A (call (.builtin "sorted") [.ref l]) Q E s:=by
 refine Calls.call_function_entry kind_sorted plain_sorted entry_sorted (args_sorted1 _) ?_;unfold Builtin.«sorted»;refine ae (m:=checkCount "sorted" 1 1 _) (aq (ae (collect_list hl (ae (wpAny_newList ?_)))));have e1:((s.heap.push (sQ "list" #[] 0)).update s.heap.objs.size (gz (·++aZ.toArray))).objs.size=s.heap.objs.size+1:=by rw [zG,size_push']
 have e2:(((s.heap.push (sQ "list" #[] 0)).update s.heap.objs.size (gz (·++aZ.toArray))).push (sQ "list" aZ.toArray 0)).get? (s.heap.objs.size+1)=some (sQ "list" aZ.toArray 0):=by
  rw [<-e1]; exact aK _ rfl
 show wpAny _ _ _ _ _ { s with heap:=((s.heap.push (sQ "list" #[] 0)).update s.heap.objs.size (gz (·++aZ.toArray))).push (sQ "list" aZ.toArray 0) };rw [e1];refine ae (eB (da slot_list_sort ⟨_,e2,rfl⟩ entry_list_sort (z0 e2 pT ⟨_,rfl,?_⟩) (args_list_sort _)));exact aq ⟨_,rfl,done⟩
end
section
open PySem.SeqAt
noncomputable def J9(A:cM)(s:aj)(y x:Value)(b:Bool):Prop :=
 ∀ (prog:bx) (w:World) (E:Value->aj->Prop) (Q:Bool->aj->Prop),Q b s->wpAny (model prog w) A (oneLt' true y x) Q E s
theorem CB{A:cM}{s:aj}{l b:Addr}{xs ys:Array Value}{e lt:Nat->Bool}(hl:s.heap.IsList l xs)(hb:s.heap.IsList b ys)(hu:A.units < cLine)
  (he:∀ j (h1:j < xs.size) (h2:j < ys.size),EqAt A.in1 s xs[j] ys[j] (e j)/\vX A.in1 s xs[j] ys[j] (lt j)):J9 A s (.ref l) (.ref b) (pb e lt xs.size ys.size (min xs.size ys.size) 0):=by
 intro prog w E Q hq;obtain⟨⟨cls,dd,data,sl⟩,ho,hc,n,hd⟩:=id hl;obtain⟨⟨JP,ES,data2,D6⟩,xH,yT,n2,hd2⟩:=id hb;simp only at hc hd yT hd2;subst hc hd yT hd2;rw [oneLt'_eq];simp only [if_true];refine ae (wpAny_cRoomFor hu (ae (DL (T:="list") ⟨_,ho,rfl⟩ qg ?_)));exact v3 qg ⟨_,ho,rfl⟩ Fc (DR _ _) (xA l b xs ys n n2 dd ES sl D6 e lt) ⟨ho,xH,he,fR hq⟩
theorem AE{A:cM}{s:aj}{l b:Addr}{xs ys:Array Value}{e lt:Nat->Bool}(hl:s.heap.IsTuple l xs)(hb:s.heap.IsTuple b ys)(hu:A.units < cLine)
  (he:∀ j (h1:j < xs.size) (h2:j < ys.size),EqAt A.in1 s xs[j] ys[j] (e j)/\vX A.in1 s xs[j] ys[j] (lt j)):J9 A s (.ref l) (.ref b) (pb e lt xs.size ys.size (min xs.size ys.size) 0):=by
 intro prog w E Q hq;obtain⟨⟨cls,dd,data,sl⟩,ho,hc,n,hd⟩:=id hl;obtain⟨⟨JP,ES,data2,D6⟩,xH,yT,n2,hd2⟩:=id hb;simp only at hc hd yT hd2;subst hc hd yT hd2;rw [oneLt'_eq];simp only [if_true];refine ae (wpAny_cRoomFor hu (ae (DL (T:="tuple") ⟨_,ho,rfl⟩ jG ?_)));exact v3 jG ⟨_,ho,rfl⟩ o6 (nR _ _) (uK l b xs ys n n2 dd ES sl D6 e lt) ⟨ho,xH,he,fR hq⟩
theorem AW{n:Nat}{A:cM}{s:aj}{xs ys:List D}{vs ws:Array Value}{as bs:List Addr}(r1:fh s.heap vs.toList (jD xs) as)(r2:fh s.heap ws.toList (jD ys) bs)(n1:nh xs=true)(n2:nh ys=true)(hd:bJ (jD xs)<=n)
  (hu:A.units+n < cLine) (hs:∀ j,j < xs.length->j < ys.length->∃ sh,bZ sh (xs.getD j .cf)=true/\bZ sh (ys.getD j .cf)=true) (j:Nat) (h1:j < vs.size) (h2:j < ws.size) :
  EqAt A s vs[j] ws[j] (fM (xs.getD j .cf) (ys.getD j .cf))/\vX A s vs[j] ws[j] (kI (xs.getD j .cf) (ys.getD j .cf)):=by
 have z1:=readsAll_len r1;have z2:=readsAll_len r2;have e1:vs.size=xs.length:=by simpa using z1
 have e2:ws.size=ys.length:=by simpa using z2
 refine⟨zc r1 r2 n1 n2 (by lia) j h1 h2,?_⟩;obtain⟨Qv,q1⟩:=ik r1 j (by simpa using h1);obtain⟨Qq,q2⟩:=ik r2 j (by simpa using h2);obtain⟨sh,g1,g2⟩:=hs j (by lia) (by lia);have dp:=jj xs j;have:=vm n sh (xs.getD j .cf) (ys.getD j .cf) A s _ _ _ _ (by lia) g1 g2 (mq n1 j) (mq n2 j) q1 q2 hu;simpa using this
theorem oe{n:Nat}{sh:kJ}{a b:D}{A:cM}{s:aj}{u v:Value}{as bs:List Addr}(hn:(pd a).depth<=n)(h1:bZ sh a=true)(h2:bZ sh b=true)(n1:nr a=true)(n2:nr b=true)(r1:Reads s.heap u (pd a) as)(r2:Reads s.heap v (pd b) bs)
  (hu:A.units+n < cLine):J9 A s u v (kI a b):=by
 cases sh with
 | int =>
  first | obtain⟨_,rfl⟩:=cF h1 | obtain⟨_,rfl⟩:=cD h1 | obtain⟨_,rfl⟩:=cE h1
  first | obtain⟨_,rfl⟩:=cF h2 | obtain⟨_,rfl⟩:=cD h2 | obtain⟨_,rfl⟩:=cE h2
  cases r1; cases r2;intro prog w E Q hq;exact oneLt_int hq
 | tup l =>
  first | obtain⟨_,rfl⟩:=cF h1 | obtain⟨_,rfl⟩:=cD h1 | obtain⟨_,rfl⟩:=cE h1
  first | obtain⟨_,rfl⟩:=cF h2 | obtain⟨_,rfl⟩:=cD h2 | obtain⟨_,rfl⟩:=cE h2
  rename_i xs ys;have n1:nh xs=true:=n1;have n2:nh ys=true:=n2;cases r1 with
  | tuple k1 k2 k3 k4 =>
   cases r2 with
   | tuple m1 m2 m3 m4 =>
    rename_i p o vs c p' o' ws c';have hd:(pd (.tup xs)).depth=bJ (jD xs)+1:=rfl;obtain⟨n',rfl⟩:∃ n',n=n'+1:=⟨n - 1,by lia⟩;have z1:=readsAll_len k4;have z2:=readsAll_len m4;have e1:vs.size=xs.length:=by simpa using z1
    have e2:ws.size=ys.length:=by simpa using z2
    have base:=AE (A:=A) (s:=s) ⟨_,k1,k2,_,k3⟩ ⟨_,m1,m2,_,m3⟩ (by lia) (AW (A:=A.in1) (n:=n') k4 m4 n1 n2 (by lia) (by show A.units+1+n' < cLine; lia) fun j j1 j2=>by
     obtain⟨sj,Wq,g1,g2⟩:=oy (l:=l) (ds:=xs) h1 j j1;obtain⟨VC,S7,TH,Qc⟩:=oy (l:=l) (ds:=ys) h2 j j2;rw [g2] at Qc; cases Qc;exact⟨sj,g1,TH⟩)
    have fin:=lJ xs ys (min xs.length ys.length) 0 (bR _) rfl;rw [e1,e2,fin] at base;exact base
 | lst l =>
  first | obtain⟨_,rfl⟩:=cF h1 | obtain⟨_,rfl⟩:=cD h1 | obtain⟨_,rfl⟩:=cE h1
  first | obtain⟨_,rfl⟩:=cF h2 | obtain⟨_,rfl⟩:=cD h2 | obtain⟨_,rfl⟩:=cE h2
  rename_i xs ys;have n1:nh xs=true:=n1;have n2:nh ys=true:=n2;cases r1 with
  | list k1 k2 k3 k4 =>
   cases r2 with
   | list m1 m2 m3 m4 =>
    rename_i p o vs c p' Qv o' ws c' Qq;have hd:(pd (.dq xs)).depth=bJ (jD xs)+1:=rfl;obtain⟨n',rfl⟩:∃ n',n=n'+1:=⟨n - 1,by lia⟩;have z1:=readsAll_len k4;have z2:=readsAll_len m4;have e1:vs.size=xs.length:=by simpa using z1
    have e2:ws.size=ys.length:=by simpa using z2
    have base:=CB (A:=A) (s:=s) ⟨_,k1,k2,_,k3⟩ ⟨_,m1,m2,_,m3⟩ (by lia) (AW (A:=A.in1) (n:=n') k4 m4 n1 n2 (by lia) (by show A.units+1+n' < cLine; lia) fun j j1 j2=>⟨l,oz (s:=l) (ds:=xs) h1 j j1,oz (s:=l) (ds:=ys) h2 j j2⟩);have fin:=lJ xs ys (min xs.length ys.length) 0 (bR _) rfl;rw [e1,e2,fin] at base;exact base
theorem yM{prog:bx}{w:World}{A:cM}{s:aj}{b fin:Bool}{Q:Bool->aj->Prop}{n:Nat}(hu:A.units+n < cLine):∀ (l:List kJ) (xs ys:List D) (vs ws:List Value) (as bs:List Addr) (i:Nat),dJ l xs=true->dJ l ys=true->nh xs=true->nh ys=true ->
  fh s.heap vs (jD xs) as->fh s.heap ws (jD ys) bs->bJ (jD xs)<=n->fin=false->Q (kH xs ys) s->KatLex prog w A b fin Q (vs.zip ws) i s:=by
 intro l xs;induction xs generalizing l with
 | nil =>
  intro ys vs ws as bs i h1 h2 n1 n2 r1 r2 hd hf hq;cases r1;cases l with
  | nil =>
   cases ys with
   | nil=>cases r2; subst hf; exact hq
   | cons _ _=>cases h2
  | cons _ _=>cases h1
 | cons x xs ih =>
  intro ys vs ws as bs i h1 h2 n1 n2 r1 r2 hd hf hq;cases l with
  | nil=>cases h1
  | cons sh l =>
  cases ys with
  | nil=>cases h2
  | cons y ys =>
  cases r1 with
  | @cons v vs _ _ _ _ a1 a2 =>
  cases r2 with
  | @cons u ws _ _ _ _ b1 b2 =>
  have h1:(bZ sh x&&dJ l xs)=true:=h1;have h2:(bZ sh y&&dJ l ys)=true:=h2;have n1:(nr x&&nh xs)=true:=n1;have n2:(nr y&&nh ys)=true:=n2;rw [az] at h1 h2 n1 n2;have P0:(pd x).depth<=n/\bJ (jD xs)<=n:=by
   have hd:bJ (pd x :: jD xs)<=n:=hd;simp only [bJ] at hd;lia
  show KatLex prog w A b fin Q ((v,u) :: vs.zip ws) i s;have eq:=eqAt_reads (pd x) (pd y) A s _ _ _ _ a1 b1 (iz _ n1.1) (iz _ n2.1) (by lia);rw [pU _ _ n1.1 n2.1] at eq;refine kat_cons (eq prog w _ _ ?_);rw [mz] at hq;cases q:fM x y with
  | true =>
   rw [q,if_pos rfl] at hq;exact kat_yes (ih l ys vs ws _ _ (i+1) h1.2 h2.2 n1.2 n2.2 a2 b2 P0.2 hf hq)
  | false =>
   rw [q,if_neg (by simp)] at hq;refine kat_no ?_;cases c:(b&&i == 0) with
   | true=>exact oe P0.1 h1.1 h2.1 n1.1 n2.1 a1 b1 hu prog w _ Q hq
   | false=>exact kat_one v u (vm n sh x y A s _ _ _ _ P0.1 h1.1 h2.1 n1.1 n2.1 a1 b1 hu prog w _ _ hq)
end
noncomputable def jo{α:Type}(n:Nat)(P:α->Prop):KasT α->Prop
 | .ret a=>P a
 | .ask i j k=>i < n/\j < n/\∀ b,jo n P (k b)
theorem jo.bind{α β:Type}{n:Nat}{P:α->Prop}{P':β->Prop}{f:α->KasT β}:∀ {t:KasT α},jo n P t->(∀ a,P a->jo n P' (f a))->jo n P' (t.bind f)
 | .ret a,q,h=>h a q
 | .ask i j k,⟨q1,q2,q3⟩,h=>⟨q1,q2,fun b=>jo.bind (q3 b) h⟩
theorem vD{α:Type}{n:Nat}{lt:Nat->Nat->Bool}{cmp:Nat->Nat->(Bool->aj->Prop)->aj->Prop}{s:aj}{Q:α->aj->Prop}(hc:∀ i j,i < n->j < n->∀ C:Bool->aj->Prop,C (lt i j) s->cmp i j C s) :
  ∀ (t:KasT α),jo n (fun _=>True) t->Q (fK lt t) s->t.kasWp cmp Q s
 | .ret a,_,q=>q
 | .ask i j k,⟨h1,h2,h3⟩,q=>hc i j h1 h2 _ (vD hc (k (lt i j)) (h3 _) q)
noncomputable def Bd(n:Nat)(p:Array Nat):Prop:=0 < n/\∀ x∈p,x < n
theorem Bd.at{n:Nat}{p:Array Nat}(h:Bd n p)(k:Nat):p.getD k 0 < n:=by
 by_cases hk:k < p.size
 ·have:p.getD k 0=p[k]:=by simp [nS,hk]
  rw [this]; exact h.2 _ (Array.getElem_mem hk)
 ·have:p.getD k 0=0:=by simp [nS,hk]
  rw [this]; exact h.1
theorem Bd.perm{n:Nat}{p q:Array Nat}(h:Bd n p)(hp:q.Perm p):Bd n q:=⟨h.1,fun x hx=>h.2 x (hp.mem_iff.mp hx)⟩
theorem zq{n:Nat}{p:Array Nat}(h:Bd n p):∀ (f k:Nat),jo n (fun _=>True) (nO p f k)
 | 0,k=>trivial
 | f+1,k=>⟨h.at _,h.at _,fun b=>by
  show jo n _ (if b=true then sd k else nO p f (k+1));split
  ·trivial
  ·exact zq h f (k+1)⟩
theorem rJ{n:Nat}:∀ (f:Nat) (p:Array Nat) (k q:Nat),Bd n p->jo n (fun r=>Bd n r.1) (jq f p k q)
 | 0,p,k,q,h=>h
 | f+1,p,k,q,h=>⟨h.at _,h.at _,fun b=>by
  show jo n _ (if b=true then (if q > 0 then jq f (e6 p (k - (q+1)) k) (k+1) 0 else jq f p (k+1) 0) else .ask (p.getD (k - 1) 0) (p.getD k 0) fun d=>if d=true then .ret (p,k,q) else jq f p (k+1) (q+1));split
  ·split
   ·exact rJ f _ _ _ (h.perm (ij _ _ _))
   ·exact rJ f _ _ _ h
  ·refine⟨h.at _,h.at _,fun d=>?_⟩;show jo n _ (if d=true then sd (p,k,q) else jq f p (k+1) (q+1));split
   ·exact h
   ·exact rJ f _ _ _ h⟩
theorem BC{n:Nat}{p:Array Nat}(h:Bd n p)(k m:Nat):jo n (fun r=>Bd n r.2) (Hf k m p) :=
 jo.bind (zq (h.perm (ij _ _ _)) _ _) fun _ _=>h.perm (ij _ _ _)
theorem rH{n:Nat}{p:Array Nat}(h:Bd n p)(k m:Nat):jo n (fun r=>Bd n r.2) (uE k m p) :=
 jo.bind (rJ _ _ _ _ h) fun r hr=>by
  split
  ·exact BC (hr.perm (ij _ _ _)) _ _
  ·exact BC hr _ _
theorem Gz{n:Nat}{p:Array Nat}(h:Bd n p)(m:Nat):jo n (fun r=>Bd n r.2) (kas_count m p) :=
 jo.bind (zq h _ _) fun k _=>by
  split
  ·exact h
  ·split
   ·refine⟨h.at _,h.at _,fun b=>?_⟩;show jo n _ (if b=true then sd (k,p) else uE k m (e6 p 0 k));split
    ·exact h
    ·exact rH (h.perm (ij _ _ _)) _ _
   ·exact rH h _ _
theorem sM{n:Nat}{p:Array Nat}(h:Bd n p)(k:Nat):∀ (f l r:Nat),jo n (fun _=>True) (ic p k f l r)
 | 0,l,r=>trivial
 | f+1,l,r=>by
  show jo n _ (if l>=r then sd l else .ask (p.getD k 0) (p.getD ((l+r) / 2) 0) fun c=>if c=true then ic p k f l ((l+r) / 2) else ic p k f ((l+r) / 2+1) r);split
  ·trivial
  ·refine⟨h.at _,h.at _,fun b=>?_⟩;show jo n _ (if b=true then ic p k f l ((l+r) / 2) else ic p k f ((l+r) / 2+1) r);split
   ·exact sM h k f _ _
   ·exact sM h k f _ _
theorem E2{n:Nat}:∀ (f:Nat) (p:Array Nat) (k:Nat),Bd n p->jo n (fun _=>True) (kas_bin f p k)
 | 0,p,k,h=>trivial
 | f+1,p,k,h=>jo.bind (sM h k _ _ _) fun l _=>E2 f _ _ (h.perm (bubble_perm _ _ _))
theorem BD{n:Nat}(h:0 < n):jo n (fun _=>True) (kas_sort n) :=
 jo.bind (Gz ⟨h,fun x hx=>by simpa using hx⟩ n) fun r hr=>by
  split
  ·exact E2 _ _ _ hr
  ·trivial
end K2
end
section
namespace K2
open PySem PySem.Spec PyProof.Rows L2 PySem.W
mutual
theorem nZ{h h':Heap}(hk:∀ b o vs n,o.data=.seq vs n->h.get? b=some o->h'.get? b=some o):∀ (d:D) {v:Value} {as:List Addr},nr d=true->Reads h v (pd d) as->Reads h' v (pd d) as
 | .cf,_,_,_,r=>by cases r; exact .none
 | .bl b,_,_,_,r=>by cases r; exact .bool b
 | .int i,_,_,_,r=>by cases r; exact .int i _
 | .str x,_,_,_,r=>by cases r; exact .str x _
 | .tup ds,_,_,n,r=>by
  cases r with
  | tuple h1 h2 h3 h4=>exact .tuple (hk _ _ _ _ h3 h1) h2 h3 (j9 hk ds n h4)
 | .dq ds,_,_,n,r=>by
  cases r with
  | list h1 h2 h3 h4=>exact .list (hk _ _ _ _ h3 h1) h2 h3 (j9 hk ds n h4)
 | .p8 _,_,_,n,_=>by cases n
 | .ref _,_,_,n,_=>by cases n
 | .exc _,_,_,n,_=>by cases n
theorem j9{h h':Heap}(hk:∀ b o vs n,o.data=.seq vs n->h.get? b=some o->h'.get? b=some o):∀ (ds:List D) {vs:List Value} {as:List Addr},nh ds=true->fh h vs (jD ds) as->fh h' vs (jD ds) as
 | [],_,_,_,r=>by cases r; exact .nil
 | d :: ds,_,_,n,r=>by
  have n:(nr d&&nh ds)=true:=n;rw [az] at n;cases r with
  | cons r1 r2=>exact .cons (nZ hk d n.1 r1) (j9 hk ds n.2 r2)
end
mutual
theorem yj(G:Gp):∀ (sh:kJ) (d:D) (n:Nat),bZ sh d=true->LX sh<=n->Sn G n d d
 | .int,.int i,n,_,_=>.int i
 | .tup l,.tup ds,n,h,hn=>by
  have hn:JD l+1<=n:=hn;obtain⟨m,rfl⟩:∃ m,n=m+1:=⟨n - 1,by lia⟩;exact D3 G l ds m h (by lia)
 | .lst s,.dq ds,n,h,hn=>by
  have hn:LX s+1<=n:=hn;obtain⟨m,rfl⟩:∃ m,n=m+1:=⟨n - 1,by lia⟩;exact D4 G s ds m h (by lia)
theorem D3(G:Gp):∀ (l:List kJ) (ds:List D) (m:Nat),dJ l ds=true->JD l<=m->Sn G (m+1) (.tup ds) (.tup ds)
 | [],[],m,_,_=>.Cf
 | s :: l,d :: ds,m,h,hm=>by
  have h:(bZ s d&&dJ l ds)=true:=h;have hm:max (LX s) (JD l)<=m:=hm;rw [az] at h;exact .nW (yj G s d m h.1 (by lia)) (D3 G l ds m h.2 (by lia))
theorem D4(G:Gp):∀ (s:kJ) (ds:List D) (m:Nat),ff s ds=true->LX s<=m->Sn G (m+1) (.dq ds) (.dq ds)
 | s,[],m,_,_=>.Fx
 | s,d :: ds,m,h,hm=>by
  have h:(bZ s d&&ff s ds)=true:=h;rw [az] at h;exact .xt (yj G s d m h.1 hm) (D4 G s ds m h.2 hm)
end
theorem getD_at{α:Type}(xs:List α)(d:α){i:Nat}(h:i < xs.length):xs.getD i d=xs[i]:=by
 rw [aC,ah h]; rfl
theorem og{α:Type}(xs:List α)(d:α):(bW xs.length).map (fun i=>xs.getD i d)=xs:=by
 refine List.ext_getElem (by simp) fun i h1 h2=>?_;rw [e8,nC];exact getD_at _ _ h2
theorem sS{h:Heap}{s1:kJ}{l:List kJ}:∀ (zs:List D) (vs:List Value),(∀ z∈zs,bZ (.tup (s1 :: l)) z=true)->(∀ i,i < vs.length->∃ as,Reads h (vs.getD i .none) (pd (zs.getD i .cf)) as)->vs.length=zs.length ->
  ∃ fs,KatTups h vs fs/\fs.length=vs.length/\∀ f∈fs,∃ d as,bZ s1 d=true/\Reads h f (pd d) as:=by
 intro zs;induction zs with
 | nil =>
  intro vs _ _ h;have:vs=[]:=List.length_eq_zero_iff.mp h;subst this;exact⟨[],trivial,rfl,fun _ h=>by cases h⟩
 | cons z zs ih =>
 intro vs hs hr hl;cases vs with
 | nil=>cases hl
 | cons v vs =>
  obtain⟨fs,h1,h2,h3⟩:=ih vs (fun z hz=>hs z (au _ hz)) (fun i hi=>by
   obtain⟨as,r⟩:=hr (i+1) (by simpa using hi);exact⟨as,by simpa using r⟩) (by simpa using hl)
  obtain⟨as,r⟩:=hr 0 (by simp);have hz:=hs z (by simp);simp only [List.getD_cons_zero] at r;cases z <;> first | (cases hz; done) | skip
  rename_i ds;cases ds with
  | nil=>cases hz
  | cons d ds =>
   have hz:(bZ s1 d&&dJ l ds)=true:=hz;rw [az] at hz;cases r with
   | tuple k1 k2 k3 k4 =>
    rename_i p o ws c;have k5:fh h ws.toList (pd d :: jD ds) as:=k4;cases q:ws.toList with
    | nil=>rw [q] at k5; cases k5
    | cons f rest =>
     rw [q] at k5;cases k5 with
     | cons r1 r2 =>
      have hf:ws[0]?=some f:=by
       have:ws.toList[0]?=some f:=by rw [q]; rfl
       simpa using this
      refine⟨f :: fs,.cons k1 k2 k3 hf h1,by simp [h2],fun g hg=>?_⟩;rcases List.mem_cons.mp hg with rfl | hg
      ·exact⟨d,_,hz.1,r1⟩
      ·exact h3 g hg
noncomputable def zW:kJ->Value
 | .int=>.type "int"
 | .tup _=>.type "tuple"
 | .lst _=>.type "list"
theorem oP{M:Model}{h:Heap}{sh:kJ}{d:D}{v:Value}{as:List Addr}(hs:bZ sh d=true)(r:Reads h v (pd d) as):Looks M h (typeOf v) (zW sh):=by
 cases sh with
 | int =>
  cases d <;> first | (cases hs; done) | skip
  cases r;exact .now
 | tup l =>
  cases d <;> first | (cases hs; done) | skip
  cases r with
  | tuple k1 k2 k3 k4 =>
   rename_i p o ws c;have:Looks M h (typeOf (.ref p)) o.cls:=(Looks.ld k1).andThen .now;rw [k2] at this; exact this
 | lst l =>
  cases d <;> first | (cases hs; done) | skip
  cases r with
  | list k1 k2 k3 k4 =>
   rename_i p o ws c as;have:Looks M h (typeOf (.ref p)) o.cls:=(Looks.ld k1).andThen .now;rw [k2] at this; exact this
theorem xC{prog:bx}{w:World}{A:cM}{s:aj}{E:Value->aj->Prop}{Q:Bool->aj->Prop}{n:Nat}{b:Bool}{l:List kJ}{a c:D}{u v:Value}{as bs:List Addr}(hn:(pd a).depth<=n+1)(h1:bZ (.tup l) a=true)(h2:bZ (.tup l) c=true)(n1:nr a=true)(n2:nr c=true)
  (r1:Reads s.heap u (pd a) as) (r2:Reads s.heap v (pd c) bs) (hu:A.units+n < cLine) (hq:Q (kI a c) s):wpAny (model prog w) A (keyLt' (tuples' b) u v) Q E s:=by
 first | obtain⟨_,rfl⟩:=cF h1 | obtain⟨_,rfl⟩:=cD h1 | obtain⟨_,rfl⟩:=cE h1
 first | obtain⟨_,rfl⟩:=cF h2 | obtain⟨_,rfl⟩:=cD h2 | obtain⟨_,rfl⟩:=cE h2
 rename_i xs ys;cases r1 with
 | tuple k1 k2 k3 k4 =>
  cases r2 with
  | tuple m1 m2 m3 m4 =>
   rename_i p o vs c p' o' ws c';have z1:=readsAll_len k4;have z2:=readsAll_len m4;have e1:vs.size=xs.length:=by simpa using z1
   have e2:ws.size=ys.length:=by simpa using z2
   have el:∀ (l:List kJ) (xs ys:List D),dJ l xs=true->dJ l ys=true->xs.length=ys.length:=by
    intro l;induction l with
    | nil =>
     intro xs ys h1 h2;cases xs with
     | nil=>cases ys with
      | nil=>rfl
      | cons _ _=>cases h2
     | cons _ _=>cases h1
    | cons s l ih =>
     intro xs ys h1 h2;cases xs with
     | nil=>cases h1
     | cons x xs =>
      cases ys with
      | nil=>cases h2
      | cons y ys =>
       have h1:(bZ s x&&dJ l xs)=true:=h1;have h2:(bZ s y&&dJ l ys)=true:=h2;rw [az] at h1 h2;rw [ak,ak,ih xs ys h1.2 h2.2]
   have hd:(pd (.tup xs)).depth=bJ (jD xs)+1:=rfl;refine kat_lt k1 k3 m1 m3 (yM (n:=n) hu l xs ys _ _ _ _ 0 h1 h2 n1 n2 k4 m4 (by lia) (decide_eq_false (by rw [e1,e2,el l xs ys h1 h2]; lia)) hq)
section
variable {X:Cx}
theorem xy{x:D}{G:Gp}{zs:List D}(ty:yi x G)(hi:itemsOf x G=some zs):oj x G=some zs:=by
 cases x <;> first | exact ty.elim | exact hi
theorem zj (hc:X.calm=true) (hu:X.A.units+64 < cLine):ly X (.builtin "sorted") ux:=by
 intro pins s σ H G xs ds us Q I ab rx rd q;unfold ux at q;split at q
 ·rename_i x;obtain⟨sh,zs,ty,hi,CW,cz,W8,q⟩:=q;obtain⟨w1,rfl,Ag⟩:=rd.one;obtain⟨u,rfl,ru⟩:=rx.one;obtain⟨l,vs,aZ,rfl,rv,rs,hl,_⟩:=iS I ab ru Ag (xy ty hi);have NK:=rv.length;have NJ:=rs.length;have hsz:aT=16777216:=br;have hz:∀ z∈zs,bZ sh z=true:=fun z h=>List.all_eq_true.mp CW z h;by_cases pT:aZ.length < 2
  ·refine Cp hl pT ?_;obtain⟨e,he⟩:=sortedAll_at s.heap aZ aZ.toArray;have hp:H (s.heap.objs.size+1)=none:=I.cz.fresh (lY _);have es:kN zs=zs:=jN sh hz (.refl _) (by
    match zs,NJ,pT with
    | [],_,_=>exact .nil
    | [z],_,_=>exact GK _ _
    | _ :: _ :: _,h,f=>exact absurd f (by rw [<-NK,h]; simp))
   rw [es] at q;refine⟨.ref (s.heap.objs.size+1),upd H (s.heap.objs.size+1) (.lst vs),.ref _,_,I.laid (t':=s.toks) (fun b o e=>sortedAll_old e) (lY _) ?_,.wJ ab hp rs,rfl,.ref _,q _ (ab.free hp)⟩;exact⟨by lia,aZ,e,rv,he⟩
  ·obtain⟨m,F0⟩:=I.fr;have nz:0 < zs.length:=by lia
   have nL:∀ b o vs n,o.data=.seq vs n->s.heap.get? b=some o->b≠X.env.locals:=fun b o vs n e1 e2 z=>by
    obtain⟨o',es,ep,FV,FZ,_⟩:=F0.ns;rw [z,FV] at e2; cases e2; rw [FZ] at e1; cases e1
   unfold Ir at cz;rw [az] at cz;have Tv:LX sh<=7:=of_decide_eq_true cz.1;have sn:∀ z∈zs,Sn G 7 z z:=fun z h=>yj G sh z 7 (hz z h) Tv;refine kat_sorted F0 qP hl (by lia) (by lia) fun Dd e1 h' F N ni=>?_;obtain⟨kk,ns⟩:=iO I F0 F fun p hp=>N p (au _ hp);have tU:∀ i,i < aZ.length->∃ as,Reads h' (aZ.getD i .none) (pd (zs.getD i .cf)) as:=fun i hi=>by
    have i1:i < zs.length:=by lia
    have i2:i < vs.length:=by lia
    have g1:zs.getD i .cf=zs[i]:=getD_at _ _ i1;have g2:aZ.getD i .none=aZ[i]:=getD_at _ _ hi;obtain⟨v,hv,O6⟩:=rs.get (ah i1);obtain⟨u,zI,MT⟩:=rv.get hv;rw [ah hi] at zI;cases zI;obtain⟨as,r⟩:=(fH I ab (sn _ (bD i1))).1 v _ O6 MT;rw [g1,g2];exact⟨as,nZ (fun b o vs n e1 e2=>kk b o (nL b o vs n e1 e2) e2) _ (sn _ (bD i1)).nr r⟩
   have sT:∀ i,i < zs.length->bZ sh (zs.getD i .cf)=true:=fun i hi=>by rw [getD_at _ _ hi]; exact hz _ (bD hi)
   have LH:∀ i,i < zs.length->nr (zs.getD i .cf)=true:=fun i hi=>by rw [getD_at _ _ hi]; exact(sn _ (bD hi)).nr
   have Qj:∀ i,i < zs.length->(pd (zs.getD i .cf)).depth<=7:=fun i hi=>by rw [getD_at _ _ hi]; exact vS (sn _ (bD hi))
   let zz:Nat->D:=fun i=>if i < zs.length then zs.getD i .cf else zs.getD 0 .cf
   have Hn:∀ i,bZ sh (zz i)=true:=fun i=>by
    show bZ sh (if i < zs.length then zs.getD i .cf else zs.getD 0 .cf)=true;split
    ·exact sT i (by assumption)
    ·exact sT 0 nz
   let lt:Nat->Nat->Bool:=fun i j=>kI (zz i) (zz j)
   have RI:E3 lt:=⟨fun i j h=>sv sh (Hn i) (Hn j) h,fun i j k h1 h2=>pQ sh (Hn i) (Hn j) (Hn k) h1 h2⟩;have Pz:∀ i j,i < zs.length->j < zs.length->lt i j=kI (zs.getD i .cf) (zs.getD j .cf):=fun i j hi hj=>by
    show kI (if i < zs.length then _ else _) (if j < zs.length then _ else _)=_;rw [if_pos hi,if_pos hj]
   obtain⟨p,ep,ot,Pa,S3⟩:=Aj RI (n:=aZ.length) (by lia);have P8:X.A.in1.in1.units=X.A.units+2:=rfl;have ask:∀ κ:SortKind,(∀ i j,i < aZ.length->j < aZ.length->∀ C:Bool->aj->Prop,C (kI (zs.getD i .cf) (zs.getD j .cf)) { s with heap:=h' }->kas_ask X.prog X.w X.A.in1.in1 κ aZ i j C { s with heap:=h' }) ->
     (kas_sort aZ.length).kasWp (kas_ask X.prog X.w X.A.in1.in1 κ aZ) (fun p MS=>KasFin X.base X.env.locals m Dd e1 (p.toList.map fun i=>aZ.getD i c6) (fun s3=>nA X pins σ H G Q (.ref Dd) s3) MS) { s with heap:=h' }:=by
    intro κ hk;refine vD (lt:=lt) (n:=aZ.length) (fun i j i1 i2 C hC=>hk i j i1 i2 C (by rw [<-Pz i j (by lia) (by lia)]; exact hC)) _ (BD (by lia)) ?_;rw [ep];refine KasFin.intro (g:=fun o=>(Dd,o) :: mU X.base s.heap X.env.locals) F N (.head (fun q hq z=>absurd (ni q hq) (by rw [z]; exact cX _))) fun h2 c F2 N2=>?_;obtain⟨k2,Pm⟩:=iO I F0 F2 fun p hp=>N2 p (au _ hp);have hD:s.heap.get? Dd=none:=by
     have nD:=N _ a7;cases qd:s.heap.get? Dd with
     | none=>rfl
     | some o=>exact absurd (ni _ (jd nD.2.1 nD.2.2 qd)) (cX _)
    have hp:H Dd=none:=rm I.cz hD;have RO:Vals (p.toList.map fun i=>vs.getD i .cf) (p.toList.map fun i=>aZ.getD i c6):=by
     have:∀ (ps:List Nat),(∀ i∈ps,i < aZ.length)->Vals (ps.map fun i=>vs.getD i .cf) (ps.map fun i=>aZ.getD i c6):=by
      intro ps;induction ps with
      | nil=>intro _; exact .nil
      | cons i ps ih =>
       intro hh;have hi:=hh i (by simp);refine .cons ?_ (ih fun j hj=>hh j (au _ hj));have i2:i < vs.length:=by lia
       obtain⟨u,zI,MT⟩:=rv.get (ah i2);rw [ah hi] at zI;cases zI;show RelV (vs.getD i .cf) (aZ.getD i .none);rw [getD_at _ _ i2,getD_at _ _ hi]; exact MT
     exact this _ fun i hi=>by simpa using ot.mem_iff.mp hi
    have RP:aX X.K H (p.toList.map fun i=>vs.getD i .cf) (p.toList.map fun i=>zs.getD i .cf):=by
     have:∀ (ps:List Nat),(∀ i∈ps,i < aZ.length)->aX X.K H (ps.map fun i=>vs.getD i .cf) (ps.map fun i=>zs.getD i .cf):=by
      intro ps;induction ps with
      | nil=>intro _; exact .nil
      | cons i ps ih =>
       intro hh;have hi:=hh i (by simp);refine .cons ?_ (ih fun j hj=>hh j (au _ hj));have i2:i < vs.length:=by lia
       have i1:i < zs.length:=by lia
       obtain⟨v,hv,r⟩:=rs.get (ah i1);rw [ah i2] at hv;cases hv;show cb X.K H (vs.getD i .cf) (zs.getD i .cf);rw [getD_at _ _ i2,getD_at _ _ i1]; exact r
     exact this _ fun i hi=>by simpa using ot.mem_iff.mp hi
    have es:kN zs=p.toList.map fun i=>zs.getD i .cf:=by
     refine jN sh hz ?_ ?_
     ·have h1:(p.toList.map fun i=>zs.getD i .cf).Perm ((bW zs.length).map fun i=>zs.getD i .cf):=by
       have:aZ.length=zs.length:=by lia
       rw [<-this];exact ot.map _
      rw [og] at h1;exact h1
     ·rw [g6,DT];intro i j hi hj EI;have g1:gA p i=p.toList[i]:=by
       have:i < p.size:=by simpa using hi
       simp [gA,nS,this]
      have g2:gA p j=p.toList[j]:=by
       have:j < p.size:=by simpa using hj
       simp [gA,nS,this]
      have bi:p.toList[i] < aZ.length:=by simpa using ot.mem_iff.mp (bD hi)
      have bj:p.toList[j] < aZ.length:=by simpa using ot.mem_iff.mp (bD hj)
      have:=S3 i j (by lia) (by have:j < p.toList.length:=hj; rw [bu,Pa] at this; exact this);rw [g1,g2,Pz _ _ (by lia) (by lia)] at this;exact this
    rw [es] at q;have ln:(p.toList.map fun i=>vs.getD i .cf).length<=aT:=by rw [ag,bu,Pa]; lia
    refine⟨.ref Dd,upd H Dd (.lst (p.toList.map fun i=>vs.getD i .cf)),.ref _,_,Inv.AV (t':=s.toks) I k2 Pm hD ?_,.wJ ab hp RP,rfl,.ref _,q _ (ab.free hp)⟩;exact⟨ln,_,c,RO,(N2 _ a7).1⟩
   have gen:∀ i j,i < aZ.length->j < aZ.length->∀ C:Bool->aj->Prop,C (kI (zs.getD i .cf) (zs.getD j .cf)) { s with heap:=h' }->wpAny (model X.prog X.w) X.A.in1.in1 (keyLt' GJ (aZ.getD i c6) (aZ.getD j c6)) C (fun _ _=>False) { s with heap:=h' }:=by
    intro i j hi hj C hC;obtain⟨as,r1⟩:=tU i hi;obtain⟨bs,r2⟩:=tU j hj;rw [keyLt'_oneType];exact oe (s:={ s with heap:=h' }) (n:=7) (Qj i (by lia)) (sT i (by lia)) (sT j (by lia)) (LH i (by lia)) (LH j (by lia)) r1 r2 (by rw [P8]; lia) X.prog X.w _ C hC
   have lk:∀ v∈aZ,Looks (model X.prog X.w) h' (typeOf v) (zW sh):=fun v hv=>by
    obtain⟨i,hi,rfl⟩:=cN hv;obtain⟨as,r⟩:=tU i hi;rw [getD_at _ _ hi] at r;exact oP (sT i (by lia)) r
   cases sh with
   | int=>exact kas_kind (s:={ s with heap:=h' }) (T:=.type "int") (by lia) lk rfl rfl (ask GJ gen)
   | lst ss=>exact kas_kind (s:={ s with heap:=h' }) (T:=.type "list") (by lia) lk rfl rfl (ask GJ gen)
   | tup ss =>
    cases ss with
    | nil=>exact absurd cz.2 (by simp)
    | cons s1 ss =>
     obtain⟨fs,t1,t2,t3⟩:=sS (h:=h') zs aZ hz tU (by lia);refine kat_kind (s:={ s with heap:=h' }) (T:=zW s1) t1 (by lia) (fun f hf=>?_) (by cases s1 <;> rfl) (ask _ fun i j hi hj C hC=>?_)
     ·obtain⟨d,as,h1,h2⟩:=t3 f hf;exact oP h1 h2
     ·obtain⟨as,r1⟩:=tU i hi;obtain⟨bs,r2⟩:=tU j hj;exact xC (s:={ s with heap:=h' }) (n:=7) (by have:=Qj i (by lia); lia) (sT i (by lia)) (sT j (by lia)) (LH i (by lia)) (LH j (by lia)) r1 r2 (by rw [P8]; lia) hC
 ·exact q.elim
end
end K2
end
section
namespace L2
open PySem PySem.Spec PyProof.Rows
section
variable {prog:bx} {w:World} {A:cM} {E:Value->aj->Prop} {s:aj}
theorem CL{d:Addr}{od:Obj}{es:Array j5}{c:Nat}{Q:Value->aj->Prop}(ns:(d == fy)=false)(LQ:s.heap.get? d=some od)(ex:od.ExactDict)(dd:od.data=.dict es c)
  (hQ:Q (.ref s.heap.objs.size) { s with heap:=s.heap.push { cls:=.type "dict_keyiterator",data:=.fields #[.ref d,.int 0 0,.int es.size 0,.int c 0] } }):wpAny (model prog w) A (w6 (.ref d)) Q E s:=by
 have ty:s.TypeIs (.ref d) "dict":=⟨od,LQ,ex.1⟩;refine qe ty F.slot_dict_iter (da F.slot_dict_iter ty F.entry_dict_iter ?_ (F.args_dict_iter_1 _));unfold Builtin.«dict.__iter__» Builtin.Dict.dictSlotNone;refine ae (ae (wpAny_notOrdered_dict ty (show wpAny _ _ (pure (j3 d)) _ _ s from aq ?_)));show wpAny _ _ (zH d >>= _) _ _ s;unfold zH;rw [if_neg (fun z=>by rw [ns] at z; cases z)];refine ae (aq (ae (BY LQ dd (ae (He LQ dd ?_)))));refine ae (cH (aq ⟨_,rfl,"dict_keyiterator",_,⟨_,aK _ rfl,rfl⟩,F.slot_dict_keyiterator_next.lookup,?_⟩));simpa [w5] using hQ
theorem FQ{it d:Addr}{od:Obj}{es:Array j5}{i c:Nat}{Q:Option Value->aj->Prop}(ki:s.heap.IsKeyIter it d i es.size c)(LQ:s.heap.get? d=some od)(dd:od.data=.dict es c)(hi:i < es.size)
  (hQ:∀ h',h'.IsKeyIter it d (i+1) es.size c->nE it s.heap h'->Q (some es[i].key) { s with heap:=h' }):wpAny (model prog w) A (pB (.ref it)) Q E s:=by
 obtain⟨o,ho,hc,hf⟩:=id ki;unfold pB;refine ae (zM (gB (name:=kD "__next__") ki.typeIs gN (da gN ki.typeIs B8 ?_ (BR _))));refine ae (aq (ae (ae ?_)))
 first | refine ae (gI ki.typeIs (aq ?_)) | refine ae (jA ki.typeIs (aq ?_))
 refine ae (w4 ho hf ?_);have M9:pM "dict_keyiterator" = false:=by decide
 rw [M9];show wpAny _ _ (if (j3 d == c6)=true then _ else _) _ _ s;rw [if_neg (fun z=>by cases z)];refine ae (aq (ae (BY LQ dd ?_)));rw [if_neg (by simp)];refine ae (aq (ae (He LQ dd ?_)));rw [if_neg (by simp)];refine aq ?_;dsimp only;rw [if_neg (show ¬ ((i:Int) < 0) from Int.not_lt.mpr (nJ i)),dc,bw hi];dsimp only;refine ae ?_
 first | refine ae (gI ki.typeIs (aq ?_)) | refine ae (jA ki.typeIs (aq ?_))
 refine ae (wpAny_isOneOf_keyiter ki.typeIs ?_);show wpAny _ _ (setField (.ref it) 1 (w5 ((i:Int)+1)) >>= _) _ _ s;refine ae (pJ ho hf (by simp) ?_);have UB:(s.heap.update it (wx (·.setIfInBounds 1 (w5 ((i:Int)+1))))).IsKeyIter it d (i+1) es.size c :=
  ⟨_,dQ _ ho (rZ (eC hf _)),(yb ..).trans hc,by rw [eC hf]; simp [w5]⟩
 refine ae (eB (ae (wpAny_isOneOf_keyiter (s:={ s with heap:=s.heap.update it (wx (·.setIfInBounds 1 (w5 ((i:Int)+1)))) }) UB.typeIs ?_)));show wpAny _ _ (pure es[i].key) _ _ _;exact aq (aq ⟨_,rfl,aq (hQ _ UB (eD ..))⟩)
theorem II{it d:Addr}{od:Obj}{es:Array j5}{i c:Nat}{Q:Option Value->aj->Prop}(calm:A.handled=none)(ki:s.heap.IsKeyIter it d i es.size c)(LQ:s.heap.get? d=some od)(dd:od.data=.dict es c)(hi:es.size<=i)
  (hQ:∀ h',Heap.ExtBut it s.heap h'->Q none { s with heap:=h' }):wpAny (model prog w) A (pB (.ref it)) Q E s:=by
 obtain⟨o,ho,hc,hf⟩:=id ki;unfold pB;refine ae (zM (gB (name:=kD "__next__") ki.typeIs gN (da gN ki.typeIs B8 ?_ (BR _))));refine ae (aq (ae (ae ?_)))
 first | refine ae (gI ki.typeIs (aq ?_)) | refine ae (jA ki.typeIs (aq ?_))
 refine ae (w4 ho hf ?_);have M9:pM "dict_keyiterator" = false:=by decide
 rw [M9];show wpAny _ _ (if (j3 d == c6)=true then _ else _) _ _ s;rw [if_neg (fun z=>by cases z)];refine ae (aq (ae (BY LQ dd ?_)));rw [if_neg (by simp)];refine ae (aq (ae (He LQ dd ?_)));rw [if_neg (by simp)];refine aq ?_;dsimp only;rw [if_neg (show ¬ ((i:Int) < 0) from Int.not_lt.mpr (nJ i)),dc,gh hi];dsimp only;refine ae ?_
 first | refine ae (gI ki.typeIs (aq ?_)) | refine ae (jA ki.typeIs (aq ?_))
 show wpAny _ _ (setField (.ref it) 0 .none >>= _) _ _ s;refine ae (pJ ho hf (by simp) ?_);show wpAny _ _ (newExc (.type "StopIteration") [] >>= _) _ _ _;refine ae ?_;simp only [newExc,newTuple];refine ae (cH (ae (m:=w7 _ _) (Hb (a:=c6) (by first | rfl | (simp only [w7]; rfl)) (cH ?_ (by size_fits)))) (by size_fits));simp only [raiseNew];refine ae (wpAny_handled ?_);rw [show A.in1.handled=none from calm];refine ae (aq (wpAny_throw ?_));refine ae (E8 (T:="StopIteration") (b:=true) ⟨_,aK _ rfl,rfl⟩ isSubtype_stop (?_));exact aq (hQ _ (((eD ..).extBut.push _).push _))
end
noncomputable def Yo(a:Addr)(o:Obj)(es:Array j5)(ks:List V):It :=
 ⟨fun i H=>(∃ u,H a=some (.kh o u))/\i < es.size,fun i H v H'=>H'=H/\ks[i]?=some v,fun i H=>(∃ u,H a=some (.kh o u))/\es.size<=i⟩
theorem Ff{P:bx}{w:World}{K:af}{tg:Expr}(a it:Addr)(o:Obj)(es:Array j5)(c:Nat)(ks:List V)(dd:o.data=.dict es c)(hk:∀ i (h:i < es.size),∃ v,ks[i]?=some v/\RelV v es[i].key) :
  Turn P w K tg (Yo a o es ks) [it] it (fun i h=>h.IsKeyIter it a i es.size c) where
 mem:=by simp
 obj:=fun i h st b hb=>by
  have e:b=it:=by simpa using hb
  subst e;obtain⟨o',q,_,d⟩:=st;exact⟨o',q,fun v z=>by rw [d] at z; cases z⟩
 keep:=(by rintro i h h' ⟨o',q,r⟩ k; exact⟨o',k it (by simp) o' q,r⟩)
 item:=by
  intro X hP hw hK hc i pins s σ H E I hf st hg;subst hP hw hK;obtain⟨⟨u,hu⟩,hi⟩:=hg;obtain⟨f0,f1,f2,f3,f4,f5⟩:=hf it (by simp);obtain⟨v,hv,rv⟩:=hk i hi;refine FQ st (I.cz a _ hu).1 dd hi fun h' ue sb=>?_;have I1:Inv X pins σ H { s with heap:=h' }:=I.turned (t':=s.toks) (fun b o hb e=>(sb.2 b hb).trans e) f0 f1 f3 f4 f5;obtain⟨o',e,cl,d'⟩:=id ue;exact⟨_,rfl,A0 (s:={ s with heap:=h' }) e cl d' (by decide) ⟨v,H,I1,rv,⟨rfl,hv⟩,ue,fun b hb=>(hf b hb).1⟩⟩
 done:=by
  intro X hP hw hK hc i pins s σ H E I hf st hg;subst hP hw hK;obtain⟨⟨u,hu⟩,hi⟩:=hg;obtain⟨f0,f1,f2,f3,f4,f5⟩:=hf it (by simp);exact II (I.ok.hd hc) st (I.cz a _ hu).1 dd hi fun h' eb=>⟨rfl,I.turned (t':=s.toks) (fun b o hb e=>eb b o hb e) f0 f1 f3 f4 f5⟩
 self:=fun A i s Q E st h=>by
  refine qe st.typeIs DU (da DU st.typeIs F.entry_dict_keyiterator_iter ?_ (F.args_dict_keyiterator_iter_1 _));show wpAny _ _ (ret (.ref it)) _ _ s;exact aq ⟨_,rfl,"dict_keyiterator",_,st.typeIs,F.slot_dict_keyiterator_next.lookup,h⟩
end L2
namespace K2
open PySem PySem.Spec PyProof.Rows L2
section
variable {X:Cx} {tg a:Expr} {ta:eU} {pos p:Pos}
theorem FH{α β:Type}{F:α->β->Prop}:∀ {l:List α} {m:List β},Paired F l m->∀ i (h1:i < l.length) (h2:i < m.length),F l[i] m[i]:=by
 intro l m h;induction h with
 | nil=>intro i h1; exact absurd h1 (bY i)
 | cons h t ih =>
  intro i h1 h2;cases i with
  | zero=>exact h
  | succ i=>exact ih i (qi h1) (qi h2)
theorem IM{P:bx}{w:World}{k:Key}{u:Value}(h:(dI P w).is k u=true):RelV (kV k) u:=by
 rcases dB h with ⟨i,t,rfl,rfl⟩ | ⟨x,t,rfl,rfl⟩
 ·exact⟨t,rfl⟩
 ·exact⟨t,rfl⟩
theorem mV.keys{K:af}{H:Hp}:∀ {kv:List (Key×V)} {aY:List (D×D)},mV K H kv aY->aY.map (·.1)=kv.map fun p=>dg p.1:=fun h =>
 mV.ind (motive:=fun kv aY _=>aY.map (·.1)=kv.map fun p=>dg p.1) rfl (fun _ _ ih=>congrArg (_ :: ·) ih) h
theorem nB.keys{K:af}{H:Hp}:∀ {kv:List (List Key×V)} {aY:List (D×D)},nB K H kv aY->aY.map (·.1)=kv.map fun p=>D.tup (p.1.map dg):=fun h =>
 nB.ind (motive:=fun kv aY _=>aY.map (·.1)=kv.map fun p=>D.tup (p.1.map dg)) rfl (fun _ _ ih=>congrArg (_ :: ·) ih) h
theorem Au{K:af}{H:Hp}(k:Key):cb K H (kV k) (dg k):=by
 cases k with
 | inl i=>exact .int i
 | inr x=>exact .str x
theorem xp{K:af}{H:Hp}:∀ (ks:List Key),aX K H (ks.map kV) (ks.map dg)
 | []=>.nil
 | k :: ks=>.cons (Au k) (xp ks)
theorem Ie(ha:eV X a ta):Kv X tg a (I0 ta):=by
 intro E pins s σ H τ G R hE I h;refine hZ ha hE I h fun x H1 d G1 v s1 I1 m1 r1 iI q1=>?_;unfold yQ at q1;have go:∀ (l:Addr) (o:Obj) (u:HO) (aY:List (D×D)) (es:Array j5) (c:Nat) (ks:List V),(l == fy)=false->H1 l=some (.kh o u)->o.ExactDict->o.data=.dict es c->(∀ i (h:i < es.size),∃ v,ks[i]?=some v/\RelV v es[i].key)->ks.length=es.size ->
   aX X.K H1 ks (aY.map (·.1))->R (aY.map (·.1)) (fun _=>True) G1->wpAny (model X.prog X.w) X.A (w6 (.ref l)) (DC X pins σ tg H G R) X.xe s1:=by
  intro l o u aY es c ks ns hl ex dd hk hlen rs q;refine CL ns (I1.inv.cz l _ hl).1 ex dd ?_;refine⟨s1.heap.objs.size,[s1.heap.objs.size],_,_,H1,G1,aY.map (·.1),_,rfl,I1.inv.kept (t':=s1.toks) fun b o e=>aw _ e,m1,Ff l _ o es c ks dd hk,⟨_,aK _ rfl,rfl,rfl⟩,fun b hb=>?_,fun i H2 G2 k ab _=>?_,q⟩
  ·have e:b=s1.heap.objs.size:=by simpa using hb
   subst e;exact I1.inv.CZ (ay _) (I1.inv.cz.fresh (ay _))
  ·have NJ:=k.kh _ _ _ hl;have Ld:=rs.mono k;refine⟨fun d hd=>?_,fun hle=>⟨⟨u,NJ⟩,by rw [<-hlen,rs.length]; exact hle⟩⟩;obtain⟨v,hv,r⟩:=Ld.get hd;have hi:i < es.size:=by rw [<-hlen]; exact(List.getElem?_eq_some_iff.mp hv).1
   refine⟨⟨⟨u,NJ⟩,hi⟩,?_⟩;rintro x H3 ⟨e,y⟩;subst e;rw [hv] at y;cases y;exact⟨r,.refl ab⟩
 cases iI with
 | pO hq rs =>
  rename_i l o kv aY;cases r1;obtain⟨z,ns,vs,rel,ob,es,ep,ho,ex,dd,WD,hp,nd⟩:=(I1.inv.cz l _ hq).2;have eo:ob=o:=by have:=(I1.inv.cz l _ hq).1; rw [ho] at this; exact bg this
  subst eo;have l1:es.size=vs.length:=by simpa using hp.length
  have l2:kv.length=vs.length:=oE rel;refine go l ob _ aY es ep (kv.map fun p=>kV p.1) ns hq ex dd (fun i hi=>?_) (by rw [ag]; lia) ?_ q1
  ·have i2:i < vs.length:=by lia
   have i3:i < kv.length:=by lia
   have g1:=(hp.get? (e:=es[i]) (k:=vs[i].1) (v:=vs[i].2) (by rw [ah (by simpa using hi)]; simp) (by rw [ah i2])).1;refine⟨kV kv[i].1,by simp [i3],?_⟩;have ek:kv[i].1=vs[i].1:=(FH rel i i3 i2).1;rw [ek];exact IM g1
  ·rw [rs.keys];have:∀ (l:List (Key×V)),aX X.K H1 (l.map fun p=>kV p.1) (l.map fun p=>dg p.1):=by
    intro l;induction l with
    | nil=>exact .nil
    | cons p l ih=>exact .cons (Au p.1) ih
   exact this kv
 | pN hq rs =>
  rename_i l o kv aY;cases r1;obtain⟨z,ns,xs,rel,ob,es,ep,ho,ex,dd,hl,nd⟩:=(I1.inv.cz l _ hq).2;have eo:ob=o:=by have:=(I1.inv.cz l _ hq).1; rw [ho] at this; exact bg this
  subst eo;have l1:=congrArg gM hl;rw [ag,bu] at l1;refine go l ob _ aY es ep (xs.map fun q=>V.ref q.2.1) ns hq ex dd (fun i hi=>?_) (by rw [ag]; lia) ?_ q1
  ·have i2:i < xs.length:=by lia
   refine⟨.ref xs[i].2.1,by simp [i2],?_⟩;have:es[i]=entryOfKey (zN (dI X.prog X.w)) xs[i]:=by
    have:=congrArg (fun l=>l[i]?) hl;simp only [a5,ah i2] at this;simpa [hi] using this
   rw [this];rfl
  ·rw [rs.keys];have:∀ (kv:List (List Key×V)) (xs:List (List Key×Addr×Value)),Paired (fun (p:List Key×V) (q:List Key×Addr×Value)=>p.1=q.1/\H1 q.2.1=some (.tup (p.1.map kV))/\RelV p.2 q.2.2) kv xs->aX X.K H1 (xs.map fun q=>V.ref q.2.1) (kv.map fun p=>D.tup (p.1.map dg)):=by
    intro kv xs r;induction r with
    | nil=>exact .nil
    | cons h _ ih=>exact .cons (.tup h.2.1 (xp _)) ih
   exact this kv xs rel
 | _=>exact q1.elim
end
end K2
end
section
namespace K2
open PySem PySem.Spec PyProof.Rows L2 PySem.W
section
variable {X:Cx}
theorem DX:∀ (ks:List V) (us:List Value),ks.length=us.length->(∀ i (h1:i < ks.length) (h2:i < us.length),RelV ks[i] us[i])->Vals ks us
 | [],[],_,_=>.nil
 | [],_ :: _,h,_=>by cases h
 | _ :: _,[],h,_=>by cases h
 | k :: ks,u :: us,h,hr=>.cons (hr 0 (by simp) (by simp)) (DX ks us (by simpa using h) fun i h1 h2=>hr (i+1) (by simpa using h1) (by simpa using h2))
end
end K2
end
section
namespace K2
open PySem PySem.Spec PyProof.Rows L2 PySem.W
section
variable {X:Cx}
theorem xj{i:Int}(h:i.natAbs < 10 ^ 100):i.natAbs.log2 < 1920:=by
 by_cases z:i.natAbs=0
 ·rw [z]; decide
 ·rw [Nat.log2_lt z];exact bp h (by decide)
theorem Gw:ly X (.type "str") cStr:=by
 intro pins s σ H G xs ds us Q I ab rx rd q;unfold cStr at q;split at q
 ·rename_i i;obtain⟨v,rfl,r⟩:=rd.one;cases r;exact eN (zh pins s σ H _ us (wX X.K H G Q) I rx ⟨i,rfl,xj q.1,_,_,.refl ab,.str _,q.2⟩) fun _ _ z=>.of z
 ·exact q.elim
theorem xo{K:af}{H:Hp}:∀ {vs:List V} {xs:List Str},aX K H vs (xs.map D.str)->vs=xs.map V.str
 | _,[],h=>by rw [a8] at h; rw [h.zero]; rfl
 | _,x :: xs,h=>by
  rw [ax] at h;cases h with
  | cons r t =>
   cases r;rw [xo t]; rfl
theorem xc:∀ {xs:List Str} {us:List Value},Vals (xs.map V.str) us->∃ l:List (Str×Tok),strValues l=us/\l.map (·.1)=xs
 | [],_,.nil=>⟨[],rfl,rfl⟩
 | x :: xs,_,.cons h r=>by
  obtain⟨t,rfl⟩:=h;obtain⟨l,h1,h2⟩:=xc r;exact⟨(x,t) :: l,by rw [<-h1]; rfl,by rw [<-h2]; rfl⟩
theorem A2(k:Nat):∀ (xs:List Str) (a:Nat),(∀ x∈xs,x.length<=1000)->k<=1000->xs.foldl (· + ·.length+k) a<=a+xs.length * 2000
 | [],a,_,_=>by simp
 | x :: xs,a,h,hk=>by
  have h1:=h x (by simp);have:=A2 k xs (a+x.length+k) (fun y hy=>h y (au _ hy)) hk;rw [lU,ak]; lia
theorem join_eq(sep:Str)(xs:List Str):Txt.join sep xs=fj sep xs:=by
 exact PySem.StrLaws.glued_eq_join sep xs
theorem qQ:DI X "str.join" vh:=by
 intro pins s σ H G x d xs ds v us Q I ab rx rd Lb tU q;unfold vh at q;split at q
 ·rename_i sep y;obtain⟨ts,ty,hi,⟨h1,h2,h3⟩,q⟩:=q;obtain⟨w,rfl,Ag⟩:=tU.one;obtain⟨u,rfl,ru⟩:=Lb.one;cases rd;obtain⟨t,rfl⟩:=rx;obtain⟨l,vs,aZ,rfl,rv,rs,hl,_⟩:=iS I ab ru Ag (xy ty hi);have e:=xo rs;subst e;obtain⟨ll,e1,e2⟩:=xc rv;subst e1;refine PySem.SC.join hl e2 ?_ fun t' k=>⟨.str _,H,.str _,G,I.tok _,.refl ab,⟨_,rfl⟩,.str _,?_⟩
  ·unfold JoinOk;have hf:=A2 sep.length ts 0 h2 h1;have hz:aT=16777216:=br;have:B9 (ts.toArray.foldl (· + ·.length+sep.length) 0)=false:=by
    rw [List.foldl_toArray];unfold B9;simp only [decide_eq_false_iff_not];lia
   rw [this]; rfl
  ·rw [join_eq]; exact q
 ·exact q.elim
noncomputable def Rc(X:Cx)(es:List Expr)(t:OI):Prop :=
 ∀ (E:jY) (pins:List (Addr×Obj)) (s:aj) (σ:L2.St) (H:Hp) (τ:fD) (G:Gp) (Q:DK) (acc:Str),Lk X E->I2 X pins σ H τ G s->acc.length+1000 * es.length<=100000->t E τ G (fun ys G1=>Q (.str (ys.foldl (·++·) acc)) G1) ->
  wpAny (model X.prog X.w) X.A (joinParts acc (evalEach es X.env)) (nA X pins σ H G Q) X.xe s
theorem Lp:Rc X [] NY:=by
 intro E pins s σ H τ G Q acc hE I hz h;have sz:aT=16777216:=br;exact wpAny_mkStr ⟨.str _,H,.str _,G,I.inv.tok _,.refl I.ab,⟨_,rfl⟩,.str _,h⟩ (by simp only [ar] at hz; lia)
variable {es:List Expr} {t:OI} {e v1 v2:Expr} {te:eU} {pos:Pos} {c:Str} {k:Nat}
theorem KY{x:Str}{acc:Str}{n:Nat}(hz:acc.length+1000 * (n+1)<=100000)(hx:x.length<=1000):(acc++x).length<=aT/\(acc++x).length+1000 * n<=100000:=by
 have sz:aT=16777216:=br;rw [je]; lia
theorem yB(he:eV X e te)(hr:Rc X es t):Rc X (.FormattedValue e (-1) none pos :: es) (Jz te t):=by
 intro E pins s σ H τ G Q acc hE I hz h;rw [ak] at hz;refine joinParts_cons (FormattedValue_plain (hZ he hE I h fun v H1 d G1 u s1 I1 m r rd q=>?_));obtain⟨y,hy,q⟩:=q;obtain⟨z1,z2⟩:=KY hz (Jv hy);cases rd with
 | int i =>
  unfold y9 at hy;dsimp only at hy;split at hy
  ·rename_i hb;cases hy;obtain⟨t',rfl⟩:=r;refine wpAny_formatField_int (xj hb) ?_;have i5:I2 X pins σ H1 τ G1 { s1 with toks:=s1.toks+1+1 }:=⟨I1.inv.tok _,I1.st,I1.ab⟩;exact⟨z1,eN (hr E pins _ σ H1 τ G1 Q (acc++ph i) hE i5 z2 q) fun _ _ z=>nA.trans m z⟩
  ·cases hy
 | str x =>
  unfold y9 at hy;dsimp only at hy;split at hy
  ·rename_i hb;cases hy;obtain⟨t',rfl⟩:=r;have sz:aT=16777216:=br;refine formatField_str (fun t2 tk=>?_) (by lia);have i5:I2 X pins σ H1 τ G1 { s1 with toks:=tk }:=⟨I1.inv.tok _,I1.st,I1.ab⟩;exact⟨z1,eN (hr E pins _ σ H1 τ G1 Q (acc++_) hE i5 z2 q) fun _ _ z=>nA.trans m z⟩
  ·cases hy
 | _=>cases hy
theorem Ik(h:Rc X (v1 :: v2 :: es) t)(hn:autoParam (1000 * (v1 :: v2 :: es).length<=100000) Ad._auto_1):eV X (.JoinedStr (v1 :: v2 :: es) pos) (JN t):=by
 intro E pins s σ H τ G Q hE I q;refine JoinedStr_many ?_;exact h E pins s σ H τ G Q ju hE I (by show (ju).length+_<=_; have:(ju).length=0:=rfl; lia) q
variable {a:Expr} {ta:eU} {p p2 AA:Pos}
theorem Co{pins:List (Addr×Obj)}{σ:L2.St}{H:Hp}{G:Gp}{s:aj}{Q:DK}{T:String}{r d:Addr}{n:Nat}{P:Nat->Value->Prop}{OK:Heap->Prop}(hc:X.calm=true)(hu:X.A.units+64 < cLine)(I:Inv X pins σ H s)(ab:kC X.K H G)
  (K:PySem.W.KdlSrc X.prog X.w T r d n P OK) (Ta:OK s.heap) {vs:List V} {zs:List D} (hlen:vs.length=n) (hP:∀ i u (h:i < vs.length),P i u->RelV vs[i] u) (rs:aX X.K H vs zs) (sh:kJ) (hz:∀ z∈zs,bZ sh z=true) (cz:Ir sh=true) (W8:zs.length < 64)
  (q:jl G (.lst (kN zs)) Q):wpAny (model X.prog X.w) X.A (call (.builtin "sorted") [.ref r]) (nA X pins σ H G Q) X.xe s:=by
 have NJ:=rs.length;have hsz:aT=16777216:=br;obtain⟨m,F0⟩:=I.fr;have nL:∀ b o vs n,o.data=.seq vs n->s.heap.get? b=some o->b≠X.env.locals:=fun b o vs n e1 e2 z=>by
  obtain⟨o',es,ep,FV,FZ,_⟩:=F0.ns;rw [z,FV] at e2; cases e2; rw [FZ] at e1; cases e1
 unfold Ir at cz;rw [az] at cz;have Tv:LX sh<=7:=of_decide_eq_true cz.1;have sn:∀ z∈zs,Sn G 7 z z:=fun z h=>yj G sh z 7 (hz z h) Tv;refine kdu_sorted K (I.ok.hd hc) F0 qP Ta (by lia) fun Dd h0 tk aZ F1 N1 ni US W2=>?_;have NK:vs.length=aZ.length:=by lia
 have rv:Vals vs aZ:=DX vs aZ NK fun i h1 h2=>hP i aZ[i] h1 (W2 i aZ[i] (ah h2));by_cases pT:aZ.length < 2
 ·have e2:h0.get? Dd=some (sQ "list" aZ.toArray 0):=(N1 _ a7).1;refine da slot_list_sort ⟨_,e2,rfl⟩ entry_list_sort (z0 (s:={ s with heap:=h0,toks:=tk }) e2 pT ⟨_,rfl,?_⟩) (args_list_sort _);obtain⟨kk,ns⟩:=iO I F0 F1 fun p hp=>N1 p (au _ hp);have hD:s.heap.get? Dd=none:=by
   have nD:=N1 _ a7;cases qd:s.heap.get? Dd with
   | none=>rfl
   | some o=>exact absurd (ni _ (jd nD.2.1 nD.2.2 qd)) (cX _)
  have hp:H Dd=none:=rm I.cz hD;have W3:Dd≠X.env.locals:=(N1 _ a7).2.1;obtain⟨e3,h3⟩:=sortedHeap_at (out:=aZ.toArray) e2;have es:kN zs=zs:=jN sh hz (.refl _) (by
   match zs,NJ,pT with
   | [],_,_=>exact .nil
   | [z],_,_=>exact GK _ _
   | _ :: _ :: _,h,f=>exact absurd f (by rw [<-NK,h]; simp))
  rw [es] at q;refine⟨.ref Dd,upd H Dd (.lst vs),.ref _,_,Inv.AV (t':=tk) I (fun b o hb e=>?_) (fun m' hm=>?_) hD ⟨by lia,aZ,e3,rv,h3⟩,.wJ ab hp rs,rfl,.ref _,q _ (ab.free hp)⟩
  ·have Mx:b≠Dd:=fun z=>by rw [z,hD] at e; cases e
   have e4:=kk b o hb e;rw [sortedHeap_old Mx (aI e4)]; exact e4
  ·obtain⟨o,es,ep,ho,r⟩:=ns m' hm;exact⟨o,es,ep,by rw [sortedHeap_old (ku W3) (aI ho)]; exact ho,r⟩
 have nz:0 < zs.length:=by lia
 refine kat_lsort (vs:=aZ) F1 N1 (.head fun q hq z=>absurd (ni q hq) (by rw [z]; exact cX _)) (by simp) (by lia) (by lia) fun e1 h' F N=>?_;obtain⟨kk,ns⟩:=iO I F0 F fun p hp=>N p (au _ hp);have tU:∀ i,i < aZ.length->∃ as,Reads h' (aZ.getD i .none) (pd (zs.getD i .cf)) as:=fun i hi=>by
  have i1:i < zs.length:=by lia
  have i2:i < vs.length:=by lia
  have g1:zs.getD i .cf=zs[i]:=getD_at _ _ i1;have g2:aZ.getD i .none=aZ[i]:=getD_at _ _ hi;obtain⟨v,hv,O6⟩:=rs.get (ah i1);obtain⟨u,zI,MT⟩:=rv.get hv;rw [ah hi] at zI;cases zI;obtain⟨as,r⟩:=(fH I ab (sn _ (bD i1))).1 v _ O6 MT;rw [g1,g2];exact⟨as,nZ (fun b o vs n e1 e2=>kk b o (nL b o vs n e1 e2) e2) _ (sn _ (bD i1)).nr r⟩
 have sT:∀ i,i < zs.length->bZ sh (zs.getD i .cf)=true:=fun i hi=>by rw [getD_at _ _ hi]; exact hz _ (bD hi)
 have LH:∀ i,i < zs.length->nr (zs.getD i .cf)=true:=fun i hi=>by rw [getD_at _ _ hi]; exact(sn _ (bD hi)).nr
 have Qj:∀ i,i < zs.length->(pd (zs.getD i .cf)).depth<=7:=fun i hi=>by rw [getD_at _ _ hi]; exact vS (sn _ (bD hi))
 let zz:Nat->D:=fun i=>if i < zs.length then zs.getD i .cf else zs.getD 0 .cf
 have Hn:∀ i,bZ sh (zz i)=true:=fun i=>by
  show bZ sh (if i < zs.length then zs.getD i .cf else zs.getD 0 .cf)=true;split
  ·exact sT i (by assumption)
  ·exact sT 0 nz
 let lt:Nat->Nat->Bool:=fun i j=>kI (zz i) (zz j)
 have RI:E3 lt:=⟨fun i j h=>sv sh (Hn i) (Hn j) h,fun i j k h1 h2=>pQ sh (Hn i) (Hn j) (Hn k) h1 h2⟩;have Pz:∀ i j,i < zs.length->j < zs.length->lt i j=kI (zs.getD i .cf) (zs.getD j .cf):=fun i j hi hj=>by
  show kI (if i < zs.length then _ else _) (if j < zs.length then _ else _)=_;rw [if_pos hi,if_pos hj]
 obtain⟨p,ep,ot,Pa,S3⟩:=Aj RI (n:=aZ.length) (by lia);have P8:X.A.in1.in1.units=X.A.units+2:=rfl;have ask:∀ κ:SortKind,(∀ i j,i < aZ.length->j < aZ.length->∀ C:Bool->aj->Prop,C (kI (zs.getD i .cf) (zs.getD j .cf)) { s with heap:=h',toks:=tk }->kas_ask X.prog X.w X.A.in1.in1 κ aZ i j C { s with heap:=h',toks:=tk }) ->
   (kas_sort aZ.length).kasWp (kas_ask X.prog X.w X.A.in1.in1 κ aZ) (fun p MS=>KasFin X.base X.env.locals m Dd e1 (p.toList.map fun i=>aZ.getD i c6) (fun s3=>nA X pins σ H G Q (.ref Dd) s3) MS) { s with heap:=h',toks:=tk }:=by
  intro κ hk;refine vD (lt:=lt) (n:=aZ.length) (fun i j i1 i2 C hC=>hk i j i1 i2 C (by rw [<-Pz i j (by lia) (by lia)]; exact hC)) _ (BD (by lia)) ?_;rw [ep];refine KasFin.intro (g:=fun o=>(Dd,o) :: mU X.base s.heap X.env.locals) F N (.head (fun q hq z=>absurd (ni q hq) (by rw [z]; exact cX _))) fun h2 c F2 N2=>?_;obtain⟨k2,Pm⟩:=iO I F0 F2 fun p hp=>N2 p (au _ hp);have hD:s.heap.get? Dd=none:=by
   have nD:=N _ a7;cases qd:s.heap.get? Dd with
   | none=>rfl
   | some o=>exact absurd (ni _ (jd nD.2.1 nD.2.2 qd)) (cX _)
  have hp:H Dd=none:=rm I.cz hD;have RO:Vals (p.toList.map fun i=>vs.getD i .cf) (p.toList.map fun i=>aZ.getD i c6):=by
   have:∀ (ps:List Nat),(∀ i∈ps,i < aZ.length)->Vals (ps.map fun i=>vs.getD i .cf) (ps.map fun i=>aZ.getD i c6):=by
    intro ps;induction ps with
    | nil=>intro _; exact .nil
    | cons i ps ih =>
     intro hh;have hi:=hh i (by simp);refine .cons ?_ (ih fun j hj=>hh j (au _ hj));have i2:i < vs.length:=by lia
     obtain⟨u,zI,MT⟩:=rv.get (ah i2);rw [ah hi] at zI;cases zI;show RelV (vs.getD i .cf) (aZ.getD i .none);rw [getD_at _ _ i2,getD_at _ _ hi]; exact MT
   exact this _ fun i hi=>by simpa using ot.mem_iff.mp hi
  have RP:aX X.K H (p.toList.map fun i=>vs.getD i .cf) (p.toList.map fun i=>zs.getD i .cf):=by
   have:∀ (ps:List Nat),(∀ i∈ps,i < aZ.length)->aX X.K H (ps.map fun i=>vs.getD i .cf) (ps.map fun i=>zs.getD i .cf):=by
    intro ps;induction ps with
    | nil=>intro _; exact .nil
    | cons i ps ih =>
     intro hh;have hi:=hh i (by simp);refine .cons ?_ (ih fun j hj=>hh j (au _ hj));have i2:i < vs.length:=by lia
     have i1:i < zs.length:=by lia
     obtain⟨v,hv,r⟩:=rs.get (ah i1);rw [ah i2] at hv;cases hv;show cb X.K H (vs.getD i .cf) (zs.getD i .cf);rw [getD_at _ _ i2,getD_at _ _ i1]; exact r
   exact this _ fun i hi=>by simpa using ot.mem_iff.mp hi
  have es:kN zs=p.toList.map fun i=>zs.getD i .cf:=by
   refine jN sh hz ?_ ?_
   ·have h1:(p.toList.map fun i=>zs.getD i .cf).Perm ((bW zs.length).map fun i=>zs.getD i .cf):=by
     have:aZ.length=zs.length:=by lia
     rw [<-this];exact ot.map _
    rw [og] at h1;exact h1
   ·rw [g6,DT];intro i j hi hj EI;have g1:gA p i=p.toList[i]:=by
     have:i < p.size:=by simpa using hi
     simp [gA,nS,this]
    have g2:gA p j=p.toList[j]:=by
     have:j < p.size:=by simpa using hj
     simp [gA,nS,this]
    have bi:p.toList[i] < aZ.length:=by simpa using ot.mem_iff.mp (bD hi)
    have bj:p.toList[j] < aZ.length:=by simpa using ot.mem_iff.mp (bD hj)
    have:=S3 i j (by lia) (by have:j < p.toList.length:=hj; rw [bu,Pa] at this; exact this);rw [g1,g2,Pz _ _ (by lia) (by lia)] at this;exact this
  rw [es] at q;have ln:(p.toList.map fun i=>vs.getD i .cf).length<=aT:=by rw [ag,bu,Pa]; lia
  refine⟨.ref Dd,upd H Dd (.lst (p.toList.map fun i=>vs.getD i .cf)),.ref _,_,Inv.AV (t':=tk) I k2 Pm hD ?_,.wJ ab hp RP,rfl,.ref _,q _ (ab.free hp)⟩;exact⟨ln,_,c,RO,(N2 _ a7).1⟩
 have gen:∀ i j,i < aZ.length->j < aZ.length->∀ C:Bool->aj->Prop,C (kI (zs.getD i .cf) (zs.getD j .cf)) { s with heap:=h',toks:=tk }->wpAny (model X.prog X.w) X.A.in1.in1 (keyLt' GJ (aZ.getD i c6) (aZ.getD j c6)) C (fun _ _=>False) { s with heap:=h',toks:=tk }:=by
  intro i j hi hj C hC;obtain⟨as,r1⟩:=tU i hi;obtain⟨bs,r2⟩:=tU j hj;rw [keyLt'_oneType];exact oe (s:={ s with heap:=h',toks:=tk }) (n:=7) (Qj i (by lia)) (sT i (by lia)) (sT j (by lia)) (LH i (by lia)) (LH j (by lia)) r1 r2 (by rw [P8]; lia) X.prog X.w _ C hC
 have lk:∀ v∈aZ,Looks (model X.prog X.w) h' (typeOf v) (zW sh):=fun v hv=>by
  obtain⟨i,hi,rfl⟩:=cN hv;obtain⟨as,r⟩:=tU i hi;rw [getD_at _ _ hi] at r;exact oP (sT i (by lia)) r
 cases sh with
 | int=>exact kas_kind (s:={ s with heap:=h',toks:=tk }) (T:=.type "int") (by lia) lk rfl rfl (ask GJ gen)
 | lst ss=>exact kas_kind (s:={ s with heap:=h',toks:=tk }) (T:=.type "list") (by lia) lk rfl rfl (ask GJ gen)
 | tup ss =>
  cases ss with
  | nil=>exact absurd cz.2 (by simp)
  | cons s1 ss =>
   obtain⟨fs,t1,t2,t3⟩:=sS (h:=h') zs aZ hz tU (by lia);refine kat_kind (s:={ s with heap:=h',toks:=tk }) (T:=zW s1) t1 (by lia) (fun f hf=>?_) (by cases s1 <;> rfl) (ask _ fun i j hi hj C hC=>?_)
   ·obtain⟨d,as,h1,h2⟩:=t3 f hf;exact oP h1 h2
   ·obtain⟨as,r1⟩:=tU i hi;obtain⟨bs,r2⟩:=tU j hj;exact xC (s:={ s with heap:=h',toks:=tk }) (n:=7) (by have:=Qj i (by lia); lia) (sT i (by lia)) (sT j (by lia)) (LH i (by lia)) (LH j (by lia)) r1 r2 (by rw [P8]; lia) hC
end
end K2
end
section
namespace K2
open PySem PySem.Spec PyProof.Rows L2
section
variable {X:Cx}
noncomputable def M0(neg:Bool):x4:=fun x y G Q=>match y with
 | .cf=>Ia neg x G Q
 | _=>False
theorem Pr{H:Hp}{x:V}{dx:D}{v:Value}(r:RelV x v)(rd:cb X.K H x dx)(h:dx≠.cf):v≠.none:=by
 intro z;subst z;cases rd with
 | cf=>exact h rfl
 | bl b=>cases r
 | int i=>obtain⟨t,e⟩:=r; cases e
 | str x=>obtain⟨t,e⟩:=r; cases e
 | _=>cases r
theorem Lj{neg:Bool}{x:D}{G:Gp}{Q:DK}(h:x≠.cf)(q:Ia neg x G Q):Q (.bl neg) G:=by
 cases x with
 | cf=>exact absurd rfl h
 | _=>exact q
theorem FI:lx X (cL .IsNot) (M0 true):=by
 intro pins s σ H G x y dx dy v u Q I ab rx ry dX dY q;unfold M0 at q;split at q
 ·cases dY;cases ry;by_cases h:dx=.cf
  ·subst h;cases dX;cases rx;exact isnot_none_none ⟨.bl false,H,.bl false,G,I,.refl ab,rfl,.bl _,q⟩
  ·exact isnot_none_ne (Pr rx dX h) ⟨.bl true,H,.bl true,G,I,.refl ab,rfl,.bl _,Lj h q⟩
 ·exact q.elim
variable {a:Expr} {ta:eU} {pos p:Pos}
end
end K2
end
section
namespace K2
open PySem PySem.Spec PyProof.Rows L2
section
variable {K:af} {h:Heap} {C:Addr} {Qr:List Value} {newId:String}
inductive Ol (h:Heap) (C:Addr) (Qr:List Value) (newId:String):Prop
 | mk (bm N nm qn bs Tx sn sub ab col dd k0 k1 k2 k3 k5 mN) (o:h.get? C=some (excClassObj nm qn C N bs bm Tx sn sub ab col dd k0 k1 k2 k3 k5 newId)) (n:h.Ns N mN) (i:mN "__init__" = none) (t:OwnTail h Qr bm):Ol h C Qr newId
end
end K2
end
section
namespace K2
open PySem PySem.Spec PyProof.Rows L2
noncomputable def Wb:HO->Bool
 | .tup _=>true
 | .kh _ (.lst _)=>true
 | .kh _ (.dK _)=>true
 | .kh _ (.dT _)=>true
 | .kh _ (.ext _)=>true
 | .kh _ (.xd _)=>true
 | _=>false
noncomputable def hr(H:Hp):Hp:=fun b=>(H b).bind fun o=>if Wb o=true then some o else none
end K2
end
section
namespace K2
open PySem PySem.Spec PyProof.Rows L2
noncomputable def subIn(K:af)(C:Addr)(v:Value):Bool:=match K.lookup C with
 | some ⟨_,_,.cls cd,_⟩=>cd.mro.contains v
 | _=>false
section
variable {X:Cx} {x cn n:Str} {D f:Addr} {fd:aG} {ps:List Str} {k i:Nat} {sp:oZ} {TQ:List Value} {newD:String} {cat:List Str} {e:Expr} {es:List Expr} {p np pos ep NF tp:Pos} {Ud:Stmt} {Ua:List Stmt} {t:BG} {th:gU}
structure Vm(X:Cx):Prop where
 st:X.stack=X.env :: X.outer
 fr:X.env.frame=some X.env.locals
 ex:X.ex=[]
structure Clause(X:Cx)(i:Nat)(n cn:Str)(D:Addr)(cat:List Str):Prop where
 nd:X.N.Nodup
 Va:X.N[i]?=some n
 loc:X.env.scope.names.lookup n=some .local
 gl:Gl X cn
 mg:X.mg cn=some (.ref D)
 cls:∃ TQ newD,PySem.W.excIn X.K D TQ newD=true/\TQ.contains (.type "BaseException")=true
 cat:∀ c,cat.contains c=true->∃ C Qr newId,bP X.K bc c=some (some (.ref C))/\PySem.W.excIn X.K C Qr newId=true/\subIn X.K C (.ref D)=true
end
end K2
end
section
namespace K2
open PySem PySem.Spec PyProof.Rows L2 PySem.W PySem.Calls PySem.Builtin PySem.Builtin.Getset_descriptor
section
variable {prog:bx} {w:World} {A:cM} {E:Value->aj->Prop} {s:aj} {K:af} {a C:Addr} {ox:Obj}
structure Vj(K:af)(C:Addr):Prop where
 ga:findIn K (.ref C) "__getattribute__" = some (some (.builtin "BaseException.__getattribute__"))
 gn:findIn K (.ref C) "__getattr__" = some none
 Va:findIn K (.ref C) "__class__" = some (some (.builtin "object.__class__"))
 sp:specialIn K (.builtin "object.__class__") "__get__" = some (some (.builtin "getset_descriptor.__get__"))
 tk:takesIn K (.builtin "object.__class__")=some true
 mo:mroIn K C (.type "object")=some true
 mb:mroIn K C (.type "BaseException")=some true
 is:(clsIn K C).isSome=true
end
end K2
end
section
namespace K2
open PySem PySem.Spec PyProof.Rows L2
section
variable {X:Cx} {e:Expr} {te:eU} {pos:Pos}
theorem wc{i:Nat}{x:Str}{pos':Pos}(hN:X.N.Nodup)(hi:X.N[i]?=some x)(he:eV X e te)(hx:autoParam (Loc X.env.scope x) Ao._auto_1)(hs:autoParam (zO e (some (.Name x pos')) pos.line X.env=pure false) Ar._auto_1)(hf:autoParam (X.fn x=true\/X.env.scope.names.lookup x=some .local) Ao._auto_1) :
  DB X (.Assign [.Name x pos'] e pos) (c9 te (a6 i)):=Ln hN hi hx he hs hf
theorem rW{i:Nat}{x:Str}(hN:X.N.Nodup)(hi:X.N[i]?=some x)(hx:autoParam (Loc X.env.scope x) Ao._auto_1)(hf:autoParam (X.fn x=true\/X.env.scope.names.lookup x=some .local) Ao._auto_1):GY X (.Name x pos) (a6 i):=Ig hN hi hx hf
theorem tF{P:bx}{w:World}{K:af}{mg:Str->Option Value}{base:Heap}{x qual:Str}{st:Stmt}{f:Addr}{fd:aG}{Nn ps:List Str}{k:Nat}{sp:oZ}{rd:gU}(F:o3 K x qual st f fd)(S:cg Nn ps (aW st))
  (hr:∀ ds G Q,sp ds G Q (fun _ _=>False)->rd (fun _ _=>False) (ends Q) (bz Nn.length ds) G)
  (hb:∀ (lV:Value) (A:cM) (outer:List Env) (s:aj) (H:Hp) (E:XK),kr k (A.deeper (zP qual (aW st) s.heap.objs.size f lV))->t9 (Bw gW P w K mg base Nn qual (aW st) f lV A outer s H E).Ou (gT st) rd)
  (len:autoParam (∀ ds G Q E,sp ds G Q E->ds.length=ps.length) Al._auto_1):fE P w K mg base gW (k+1) f fd ps (cZ K sp):=LS F S len hr hb
theorem sU{N ps:List Str}{sc:Scope}(h1:autoParam (sc.kind=.function) Ar._auto_1)(h2:autoParam (sc.isCoroutine=false) Ar._auto_1)(h3:autoParam (sc.isGenerator=false) Ar._auto_1)(h4:autoParam N.Nodup Ak._auto_1)(h5:autoParam (N.take ps.length=ps) Ar._auto_1)
  (h6:autoParam (∀ x∈ps,sc.names.lookup x=some .local\/sc.names.lookup x=some .cell) Ak._auto_1) (h7:autoParam (∀ y∈sc.names,y.2≠.free) Ak._auto_1):cg N ps sc:=⟨h1,h2,h3,h4,h5,h6,h7⟩
end
end K2
end
section
namespace K2
open PySem PySem.Spec PyProof.Rows L2
section
variable {X:Cx} {a b c:Expr} {ta tb tc:eU} {pos:Pos}
theorem ug {x:Str} {i:Int} {t:Tok} {p:Pos} (hg:Gl X x) (hm:X.mg x=some (.int i t)) (hd:autoParam ((x == ("__debug__" : Str))=false) Ad._auto_1):eV X (.Name x p) (dC (.int i)):=jU (Eg (v:=.int i) hg hm ⟨t,rfl⟩ hd) fun _ _=>.int i
theorem u6 {x y:Str} {t:Tok} {p:Pos} (hg:Gl X x) (hm:X.mg x=some (.str y t)) (hd:autoParam ((x == ("__debug__" : Str))=false) Ad._auto_1):eV X (.Name x p) (dC (.str y)):=jU (Eg (v:=.str y) hg hm ⟨t,rfl⟩ hd) fun _ _=>.str y
theorem si{op R3:CmpOp}{r r':x4}(ho:lx X (cL op) r)(FV:lx X (cL R3) r')(ha:eV X a ta)(hb:eV X b tb)(hc:eV X c tc)
  (hm:autoParam (lastMarks [op,R3] [b,c]=false) Aw._auto_1):DA X (.Compare a [op,R3] [b,c] pos) (mL r r' ta tb tc):=by
 intro E pins s σ H τ G Q hE I h;refine isTrue_chain (hZ ha hE I h fun x H1 dx G1 v s1 I1 m1 r1 iI q1=>test_link (hZ hb hE I1 q1 fun y H2 dy G2 u s2 i5 m2 r2 yu q2=>?_)) hm;refine eN (ho pins s2 σ H2 G2 x y dx dy v u _ i5.inv i5.ab r1 r2 (iI.mono (m2.kp I1.ab)) yu q2) fun d s3 z=>?_;obtain⟨z,H3,dz,G3,I3,m3,r3,MY,k,e,q3⟩:=z;subst e;cases MY;cases r3;have Py:=(m1.trans m2).trans m3;refine fR ?_;cases k with
 | false=>exact ite_ff ⟨H3,G3,I3,Py,q3⟩
 | true =>
  have J3:I2 X pins σ H3 τ G3 s3:=i5.mv I3 m3;refine ite_tt (test_last (hZ hc hE J3 q3 fun w' H4 dw G4 u4 s4 I4 m4 r4 VM q4=>?_));refine eN (FV pins s4 σ H4 G4 y w' dy dw u u4 _ I4.inv I4.ab r2 r4 ((yu.mono (m3.kp i5.ab)).mono (m4.kp J3.ab)) VM q4) fun d' s5 z=>?_;obtain⟨z2,H5,YS,G5,I5,m5,r5,RT,k2,e2,q5⟩:=z;subst e2;cases RT;cases r5;exact fR ⟨H5,G5,I5,(Py.trans m4).trans m5,q5⟩
end
end K2
end
section
namespace K2
open PySem PySem.Spec PyProof.Rows L2
theorem lb{α:Type}{us:List α}(h:us.length=1):∃ a,us=[a]:=List.length_eq_one_iff.mp h
theorem SG{α:Type}{us:List α}{n:Nat}(h:us.length=n+1):∃ a t,us=a :: t/\t.length=n:=by
 cases us with
 | nil=>cases h
 | cons a t=>exact⟨a,t,rfl,Nat.succ.inj h⟩
theorem IE{α:Type}{us:List α}(h:us.length=2):∃ a b,us=[a,b]:=by
 obtain⟨a,t,rfl,h2⟩:=SG h; obtain⟨b,rfl⟩:=lb h2; exact⟨a,b,rfl⟩
end K2
end
section
namespace K2.S
open PySem PySem.Spec PyProof.Rows L2 PySem.SetTable
section
variable {prog:bx} {w:World} {A:cM} {E:Value->aj->Prop} {s:aj}
theorem Hq{a:Addr}{o:Obj}{es:En}{ep:Nat}{t:fA}{Q:(En×Nat×fA)->aj->Prop}(ho:s.heap.get? a=some o)(hd:o.data=.set es ep t)(O:Kw t es)(h:Q (es,ep,t) s) :
  wpAny (model prog w) A (setState a) Q E s :=
 k6 ho hd (by unfold SetTable.fits BL; rw [O.sz,O.dm]; have:=O.pT; have:=O.sz; simp; lia) h
end
end K2.S
end
section
namespace K2.S
open PySem PySem.Spec PyProof.Rows L2 PySem.SetTable
section
variable {B:Addr->Prop} {prog:bx} {w:World} {A:cM} {E:Value->aj->Prop} {s:aj}
theorem HE{m n:Nat}(hm:Mk m)(h1:¬ n * 5>=m * 3)(h2:(n+1) * 5>=m * 3)(h3:n < 76):Mk (sizeAbove (grown (n+1)) - 1)/\n+1<=sizeAbove (grown (n+1)) - 1/\¬ (n+1) * 5>=(sizeAbove (grown (n+1)) - 1) * 3/\sizeAbove (grown (n+1))<=128:=by
 rcases hm with rfl | rfl | rfl
 ·have:n=4:=by lia
  subst this;exact⟨.inr (.inl (by decide)),by decide,by decide,by decide⟩
 ·have:n=18:=by lia
  subst this;exact⟨.inr (.inr (by decide)),by decide,by decide,by decide⟩
 ·lia
end
end K2.S
end
section
namespace K2.S
open PySem PySem.Spec PyProof.Rows L2 PySem.SetTable
section
variable {B:Addr->Prop} {prog:bx} {w:World} {A:cM} {E:Value->aj->Prop} {s:aj}
theorem HS{m i:Nat}(h:i < m+1):i+(runEnd m i - i)<=m:=by
 unfold runEnd; split <;> lia
theorem O0{m:Nat}{p:Probe}(h:p.j+p.more<=m):(BU m p).j+(BU m p).more<=m:=by
 unfold BU;by_cases c:p.more > 0
 ·rw [if_pos c]; dsimp only; lia
 ·rw [if_neg c]; exact HS (lS _ (iU m))
theorem HF{m:Nat}:∀ (n:Nat) {p:Probe},p.j+p.more<=m->(eE m n p).j+(eE m n p).more<=m
 | 0,_,h=>h
 | n+1,_,h=>HF n (O0 h)
theorem Ed{h:Heap}{a:Addr}{o:Obj}{es:En}{ep:Nat}{t:fA}(ho:h.get? a=some o)(hd:o.data=.set es ep t)(es':En)(t':fA) :
  (h.update a (Obj.putSet es' t')).get? a=some { o with data:=.set es' (ep+1) t' }:=by
 have:=dQ (Obj.putSet es' t') ho (by rw [putSet_of es' t' hd]; rfl);rw [putSet_of es' t' hd] at this; exact this
theorem yV(t:fA)(dm:t.dummies=#[]):t.tooFull=decide (t.place.size * 5>=t.mask * 3):=by
 unfold SetTable.tooFull BL; rw [dm]; rfl
end
end K2.S
end
section
namespace K2.S
open PySem PySem.Spec PyProof.Rows L2 PySem.SetTable
section
variable {B:Addr->Prop} {prog:bx} {w:World} {A:cM} {E:Value->aj->Prop} {s:aj}
noncomputable def Dx (w:World):Bool:=w.params.followText "set-order"
noncomputable def uP (w:World):Obj:={ cls:=.type "set",dict:=none,data:=.set #[] 0 (.fresh 0 0 (!Dx w)) }
theorem O1 (x:Value) {Q:Value->aj->Prop} (h:Q (.ref s.heap.objs.size) { s with heap:=s.heap.push (uP w) }):rY (model prog w) A (.call (.builtin "set.__new__") ⟨[.type "set",x],[]⟩) (wants Q E) s:=by
 refine codeAny_of_tree (show wpAny _ A.in1 (do checkBuiltinCall "set.__new__" ⟨[.type "set",x],[]⟩; again (.builtin "set.__new__" ⟨[.type "set",x],[]⟩)) _ _ s from ?_);refine ae (Hb (F.newCall_set_1 x) (aq ⟨iG F.plain_set_new _,e7 F.entry_set_new ?_⟩));rw [dj F.plain_set_new _];unfold Builtin.«set.__new__» Builtin.Frozenset.newClass;have LP:=sub_set_self;obtain⟨hp,g,d,tk,os⟩:=s;dsimp only at h ⊢
 wp_walk
 refine E9 (aq ?_);dsimp only;simp only [newObj];refine ae (wpAny_alloc (aq (aq h)))
variable {R:Result->aj->Prop} {I:Addr} {fp wr:List Addr} {G:Array GN->Array GN->Prop} {n:Nat} {P:Nat->Value->Prop} {St:Nat->aj->Prop}
end
end K2.S
end
section
namespace K2.S
open PySem PySem.Spec PyProof.Rows L2 PySem.SetTable
section
variable {prog:bx} {w:World} {A:cM} {E:Value->aj->Prop} {s:aj}
noncomputable abbrev IK(prog:bx)(w:World):=intKind prog w
noncomputable def Kb(prog:bx)(w:World)(es:En)(ks:List Int):Prop :=
 ks.length=es.size/\∀ (i:Nat) (e:Int×Value),es[i]?=some e->∃ (k:Int) (t:Tok),ks[i]?=some k/\e.2=.int k t/\e.1=(IK prog w).hash k
theorem Kb.elems{es:En}{ks:List Int}(M:Kb prog w es ks):ElemsOf (IK prog w) es.toList:=fun e he=>by
 obtain⟨i,hi,ei⟩:=cN he;obtain⟨k,t,_,q2,q3⟩:=M.2 i e (by rw [<-bK,ah hi,ei]);exact⟨⟨k,by rw [q2]; exact B1 _ _ _ _,q3⟩,by rw [q2]; rfl⟩
theorem Kb.ins{es:En}{ks:List Int}(M:Kb prog w es ks){k:Int}{t:Tok}{p:Nat}(hp:p<=es.size) :
  Kb prog w (insertAt es p ((IK prog w).hash k,.int k t)) (ks.take p++k :: ks.drop p):=by
 have lk:(ks.take p).length=p:=by rw [du,M.1]; lia
 refine⟨by rw [aM,ak,lk,cP,jf _ _ _ hp,M.1]; lia,fun i e he=>?_⟩;rw [rf _ _ _ hp] at he;by_cases c:i < p
 ·rw [if_pos c] at he;obtain⟨k',b',q⟩:=M.2 i e he;exact⟨k',b',by rw [bS (by lia),oG c]; exact q.1,q.2⟩
 ·rw [if_neg c] at he;by_cases d:i=p
  ·rw [if_pos d] at he;cases he;exact⟨k,t,by rw [bC (by lia),lk,d,nI]; rfl,rfl,rfl⟩
  ·rw [if_neg d] at he;obtain⟨k',b',q⟩:=M.2 (i - 1) e he;exact⟨k',b',by rw [bC (by lia),lk,show i - p=(i - p - 1)+1 by lia,ai,List.getElem?_drop,show p+(i - p - 1)=i - 1 by lia]; exact q.1,q.2⟩
noncomputable def intOf:Value->Int
 | .int k _=>k
 | _=>0
theorem Kb.eq{es:En}{ks:List Int}(M:Kb prog w es ks):ks=es.toList.map fun e=>intOf e.2:=by
 refine List.ext_getElem? fun i=>?_;rw [a5];by_cases hi:i < es.size
 ·obtain⟨k,b,q1,q2,q3⟩:=M.2 i _ (bw hi);rw [q1,bK,bw hi,zD,q2]; rfl
 ·rw [kz (by rw [M.1]; lia),bK,gh (by lia)]; rfl
theorem Kb.perm{es es':En}{ks:List Int}(M:Kb prog w es ks)(p:List.Perm es'.toList es.toList):∃ CK,Kb prog w es' CK/\CK.Perm ks:=by
 refine⟨es'.toList.map fun e=>intOf e.2,⟨by rw [ag,bu],fun i e he=>?_⟩,by rw [M.eq]; exact p.map _⟩;have hm:e∈es'.toList:=bO (by rw [bK]; exact he);obtain⟨j,hj,ej⟩:=cN (p.mem_iff.mp hm);obtain⟨k,t,_,q2,q3⟩:=M.2 j e (by rw [<-bK,ah hj,ej]);exact⟨k,t,by rw [a5,bK,he,zD,q2]; rfl,q2,q3⟩
noncomputable def Kt(prog:bx)(w:World)(h:Heap)(a:Addr)(led:Bool)(ks:List Int):Prop :=
 ∃ o es ep t,h.get? a=some o/\o.ExactSet/\o.data=.set es ep t/\Kw t es/\t.tooFull=false/\t.led=led/\t.plain=true/\Kb prog w es ks
theorem Kt.keeps{h h':Heap}{a:Addr}{led:Bool}{ks:List Int}(x:Kt prog w h a led ks)(k:∀ o,h.get? a=some o->h'.get? a=some o):Kt prog w h' a led ks :=
 let ⟨o,es,ep,t,e,r⟩:=x; ⟨o,es,ep,t,k o e,r⟩
theorem ui{t:fA}{es:En}(O:Kw t es):t.fits es.size=true:=by
 unfold SetTable.fits BL; rw [O.sz,O.dm]; have:=O.pT; have:=O.sz; simp; lia
theorem Gb{t:fA}{es:En}(O:Kw t es)(h:Int){N:Nat}(hN:N < 10 * turns t.mask)(h1:¬ Full t.place (eE t.mask N (probeStart t h)).j)(h2:∀ n,n < N->Full t.place (eE t.mask n (probeStart t h)).j) :
  t.freeSlot h=some ((eE t.mask N (probeStart t h)).j,false):=by
 obtain⟨n,met,g,ba,fin⟩:=Az O.up O.dm (fun _=>h+1) h (10 * turns t.mask) _ (Pb.start t h) ⟨N,hN,h1⟩;rcases fin with ⟨nf,rfl⟩ | ⟨k,_,_,e,_⟩
 ·have:n=N:=by
   rcases Nat.lt_trichotomy n N with c | c | c
   ·exact absurd (h2 n c) nf
   ·exact c
   ·obtain⟨k,hk,e,_⟩:=ba N c;exact absurd ⟨k,hk,e⟩ h1
  subst this;unfold SetTable.freeSlot SetTable.probe;rw [g]; rfl
 ·lia
theorem KO{a:Addr}{led:Bool}{ks:List Int}{k:Int}{tk:Tok}(hS:Kt prog w s.heap a led ks)(pT:ks.length < 76){Q:Bool->aj->Prop}
  (h:∀ h' CK r,(k∈ks->CK=ks)->(k∉ks->CK.Perm (k :: ks))->nE a s.heap h'->Kt prog w h' a led CK->Q r { s with heap:=h' }) :
  wpAny (model prog w) A (setAddHashed a (.int k tk) ((IK prog w).hash k)) Q E s:=by
 obtain⟨o,es,ep,t,ho,hex,hd,O,nf,hl,PM,M⟩:=hS;have hsz:es.size < 76:=by rw [<-M.1]; exact pT
 have UW:=M.elems;have hb:es.size < scanBound:=by unfold scanBound; lia
 have Ti:(IK prog w).is k (.int k tk)=true:=B1 _ _ _ _;obtain⟨N,hN,h1,h2⟩:=C4 O _ (Pb.start t ((IK prog w).hash k));unfold setAddHashed setAddHashedIn;refine eB (ae (Hq ho hd O ?_));dsimp only;rw [byScan_of (x:=.int k tk) rfl hb UW,if_pos rfl];unfold setAddByScan;refine ae (ae (wpAny_rule (ae (wpAny_setScan_of Ti ho hd (ui O) UW ?_))));cases hr:List.findIdx? (fun e=>(IK prog w).is k e.2) es.toList with
 | some j =>
  obtain⟨hj,UJ,_⟩:=List.findIdx?_eq_some_iff_getElem.mp hr;obtain⟨k',t',q1,q2,_⟩:=M.2 j _ (by rw [<-bK,ah hj]);rw [q2] at UJ;have ek:k'=k:=(IK prog w).inj _ _ _ (B1 _ _ _ _) UJ;subst ek;refine aq (aq ?_);have e:s={ s with heap:=s.heap }:=by cases s; rfl
  rw [e];exact h s.heap ks _ (fun _=>rfl) (fun z=>absurd (bO q1) z) (Heap.SameBut.refl a s.heap) ⟨o,es,ep,t,ho,hex,hd,O,nf,hl,PM,M⟩
 | none =>
  have hk:k∉ks:=fun hk=>by
   obtain⟨i,hi,ei⟩:=cN hk;have CT:i < es.size:=by rw [<-M.1]; exact hi
   obtain⟨k',t',q1,q2,_⟩:=M.2 i _ (bw CT);rw [ah hi,ei] at q1;cases q1;have:=List.findIdx?_eq_none_iff.mp hr _ (Array.getElem_mem_toList CT);rw [q2,B1] at this; cases this
  dsimp only;obtain⟨j,ej⟩:∃ j,(eE t.mask N (probeStart t ((IK prog w).hash k))).j=j:=⟨_,rfl⟩;have hj:j<=t.mask:=by
   rw [<-ej];exact bf (Nat.le_add_right _ _) (HF N (HS (lS _ (iU t.mask))))
  have V4:¬ t.place.size * 5>=t.mask * 3:=by rw [yV t O.dm] at nf; exact of_decide_eq_false nf
  have room:t.place.size+1<=t.mask:=by rcases O.ms with e | e | e <;> lia
  have Oa:below t.place j<=es.size:=by rw [<-O.sz]; exact(mT O.up j).1
  have O':Kw { t with place:=insertAt t.place (below t.place j) j } (insertAt es (below t.place j) ((IK prog w).hash k,.int k tk)):=by
   have:=O.add (x:=.int k tk) (t':={ t with place:=insertAt t.place (below t.place j) j }) h1 h2 (by rw [ej]; exact hj) room rfl rfl (by rw [ej]);rw [ej] at this; exact this
  have ln:layNew t es ((IK prog w).hash k) (.int k tk)=(insertAt es (below t.place j) ((IK prog w).hash k,.int k tk),{ t with place:=insertAt t.place (below t.place j) j },false,false):=by
   unfold layNew;rw [Gb O _ hN h1 h2,ej];dsimp only;rw [FA t O.dm];dsimp only;have:=ui O';unfold SetTable.orStandIn;rw [this,if_pos rfl]; rfl
  rw [ln];dsimp only;refine ae (aq ?_);rw [if_pos PM];refine ae ?_;rw [hashByValue_scannable 8 (x:=.int k tk) rfl];refine aq ?_;rw [show plainKind (.int k tk)=true from rfl,if_pos rfl];obtain⟨t',et⟩:∃ t':fA,{ t with place:=insertAt t.place (below t.place j) j } = t':=⟨_,rfl⟩;have e1:t'.mask=t.mask:=by rw [<-et]
  have e4:t'.led=led:=by rw [<-et]; exact hl
  have e5:t'.plain=true:=by rw [<-et]; exact PM
  rw [et] at O' ⊢;have M':=M.ins (k:=k) (t:=tk) Oa;have zs:(insertAt es (below t.place j) ((IK prog w).hash k,lC k tk)).size=es.size+1:=jf _ _ _ Oa;generalize insertAt es (below t.place j) ((IK prog w).hash k,lC k tk)=es' at O' M' zs ⊢;have pk:(ks.take (below t.place j)++k :: ks.drop (below t.place j)).Perm (k :: ks):=by
   refine List.perm_middle.trans ?_;rw [ky]
  have g1:=Ed ho hd es' t';have Ue:=eD s.heap a (Obj.putSet es' t');refine ae (wpAny_storeSet_of ho hd ?_ (by rw [zs,br]; lia));cases tf:t'.tooFull with
  | false =>
   rw [if_neg (by intro z; cases z)];exact aq (aq (h _ _ true (fun z=>absurd z hk) (fun _=>pk) Ue ⟨_,_,_,_,g1,hex,rfl,O',tf,e4,e5,M'⟩))
  | true =>
   rw [if_pos (show (!false&&true)=true from rfl)];rw [yV t' O'.dm,O'.sz,zs,e1] at tf;obtain⟨m1,m2,m3,m4⟩:=HE O.ms (n:=es.size) (by rw [<-O.sz]; exact V4) (of_decide_eq_true tf) hsz;obtain⟨t2,order,el,l1,l2,l3,l4,l5,O2,l6⟩:=IH m1 es' (by rw [zs]; exact m2) t'.finger (t'.movedTo (sizeAbove (grown (es.size+1)) - 1)) t'.led t'.plain;have er:t'.relaid (es'.map (·.1)) (grown es'.size)=some (t2,order):=by rw [zs]; exact el
   have ra:relayAll t' es' (grown es'.size)=(order.filterMap (es'[·]?),t2,false):=by
    unfold relayAll;rw [er];dsimp only;have c:coversAll order es'.size=true:=by unfold coversAll; exact List.isPerm_iff.mpr l6
    rw [c,ui O2,if_pos (show (true&&true)=true from rfl)]
   rw [ra];dsimp only;refine ae (aq ?_);obtain⟨SH,M2,pm⟩:=M'.perm l5;refine ae (wpAny_storeSet_of g1 rfl ?_ (by rw [l4,zs,br]; lia));have g2:=Ed g1 rfl (order.filterMap (es'[·]?)) t2;refine aq (aq (h _ SH true (fun z=>absurd z hk) (fun _=>pm.trans pk) (Ue.trans (eD _ a _)) ⟨_,_,_,_,g2,hex,rfl,O2,?_,by rw [l2]; exact e4,by rw [l3]; exact e5,M2⟩));rw [yV t2 O2.dm,O2.sz,l4,zs,l1];exact decide_eq_false m3
end
end K2.S
end
section
namespace K2.S
open PySem PySem.Spec PyProof.Rows L2 PySem.SetTable
section
variable {prog:bx} {w:World} {A:cM} {E:Value->aj->Prop} {s:aj}
theorem HN{h:Heap}{a:Addr}(e:h.get? a=some (uP w)):Kt prog w h a (!Dx w) []:=by
 refine⟨_,#[],0,.fresh 0 0 (!Dx w),e,⟨rfl,rfl,rfl⟩,rfl,⟨.inl rfl,rfl,rfl,fun a b _ z=>absurd z (bY _),fun k z=>absurd z (bY _),bR _,fun k z=>absurd z (bY _)⟩,rfl,rfl,rfl,rfl,fun i e he=>?_⟩;cases he
variable {R:Result->aj->Prop} {I:Addr} {fp wr:List Addr} {G:Array GN->Array GN->Prop} {n:Nat} {P:Nat->Value->Prop} {St:Nat->aj->Prop}
theorem KZ{b:Bool}(W:WalksS prog w A.in1 I fp wr G n P St)(S:Addr)(OC:S∉fp)(val:Nat->Int)(pT:n<=76)(NB:∀ i v,P i v->∃ t,v=.int (val i) t) :
  ∀ (k i:Nat) (s:aj) (ks:List Int),n - i=k->i<=n->ks.length<=i->ks.Nodup->St i s->Kt prog w s.heap S b ks ->
   (∀ s' CK,Moved (S :: wr) G s s'->CK.Nodup->(∀ x,x∈CK↔x∈ks\/∃ m,i<=m/\m < n/\val m=x)->Kt prog w s'.heap S b CK->R (.ok (.ret .none)) s') ->
   rY (model prog w) A (.builtin "set.update.loop" ⟨[.ref S,.ref I],[]⟩) R s:=by
 have QY:S∉wr:=fun h=>OC (W.sub _ h);have LP:∀ c∈wr,c∈S :: wr:=fun c hc=>au _ hc;intro k;induction k with
 | zero =>
  intro i s ks hk hi hl nd CS hS hR;have To:i=n:=by lia
  subst To;refine e7 KI ?_;rw [dj qk _];show wpAny _ A.in1 (pB (.ref I) >>= _) _ _ s;refine ae (W.done s _ _ CS fun s' hm=>(show wpAny _ A.in1 (ret c6) _ _ s' from aq (hR s' ks (hm.mono LP) nd (fun j=>?_) (hS.keeps fun o e=>hm.heap S o QY e))));exact⟨.inl,fun h=>h.elim id fun ⟨m,h1,h2,_⟩=>absurd h1 (by lia)⟩
 | succ k ih =>
  intro i s ks hk hi hl nd CS hS hR;have ni:i < n:=by lia
  refine e7 KI ?_;rw [dj qk _];show wpAny _ A.in1 (pB (.ref I) >>= _) _ _ s;refine ae (W.item i s _ _ ni CS fun v s' hP S6 hm=>?_);obtain⟨t,rfl⟩:=NB i v hP;show wpAny _ A.in1 (holding [lC (val i) t] (setAdd S (.int (val i) t)) >>= _) _ _ s';refine ae (eB ?_);unfold setAdd;refine eB (ae ((intKind prog w).pyHash (k:=val i) (B1 _ _ _ _) ?_));refine KO (s:={ s' with toks:=s'.toks+1 }) (hS.keeps fun o e=>hm.heap S o QY e) (by lia) fun h' CK r To Ko QR WY=>?_;have q1:CK.Nodup/\CK.length<=ks.length+1/\∀ x,x∈CK↔x∈ks\/x=val i:=by
   by_cases c:val i∈ks
   ·rw [To c]; exact⟨nd,lY _,fun x=>⟨.inl,fun z=>z.elim id fun e=>e ▸ c⟩⟩
   ·have p:=Ko c;exact⟨p.nodup_iff.mpr (List.nodup_cons.mpr ⟨c,nd⟩),Nat.le_of_eq p.length_eq,fun x=>by rw [p.mem_iff,pD]; exact Or.comm⟩
  refine aq ⟨iG qk _,ih (i+1) _ CK (by lia) ni (by lia) q1.1 (W.frame _ s' _ _ S6 (lY _) fun c hc o e=>?_) WY fun s2 SH PQ V6 Wt WX=>?_⟩
  ·rw [QR.2 c (fun z:c=S=>OC (by rw [<-z]; exact hc))]; exact e
  ·refine hR s2 SH (Moved.trans W.gtrans ((hm.mono LP).then_heap (lY _) fun c o hc e=>?_) PQ) V6 (fun x=>?_) WX
   ·rw [QR.2 c (fun z:c=S=>hc (by rw [z]; exact a7))]; exact e
   ·rw [Wt x,q1.2.2 x];constructor
    ·rintro((z | z) | ⟨m,a,b,c⟩)
     ·exact .inl z
     ·exact .inr ⟨i,ay _,ni,z.symm⟩
     ·exact .inr ⟨m,by lia,b,c⟩
    ·rintro(z | ⟨m,a,b,c⟩)
     ·exact .inl (.inl z)
     ·by_cases e:m=i
      ·subst e; exact .inl (.inr c.symm)
      ·exact .inr ⟨m,by lia,b,c⟩
set_option maxRecDepth 100000 in
theorem K0{l:Addr}{items:Array Value}{Q:Value->aj->Prop}(hh:A.handled=none)(hu:A.units+64 < cLine)(hl:s.heap.IsList l items)(val:Nat->Int)(pT:items.size<=76)(NB:∀ (i:Nat) (v:Value),items[i]?=some v->∃ t,v=.int (val i) t)
  (h:∀ (h':Heap) (tk:Nat) (ks:List Int),Kt prog w h' s.heap.objs.size (!Dx w) ks->ks.Nodup->(∀ x,x∈ks↔∃ m,m < items.size/\val m=x)->(∀ c o,c < s.heap.objs.size->s.heap.get? c=some o->h'.get? c=some o)->Q (.ref s.heap.objs.size) { s with heap:=h',toks:=tk }) :
  wpAny (model prog w) A (call (.type "set") [.ref l]) Q E s:=by
 obtain⟨c,tl,Wy⟩:=F.called_set.mro;have UP:=F.called_set.made;have LP:=F.called_set.sub;refine wpAny_call (codeAny_of_tree (show wpAny _ _ (callAny (.type "set") _) _ _ _ from ?_));refine aq ⟨Code.quiet_builtin _ (by decide +kernel),e7 F.entry_type_call ?_⟩;rw [Around.under_plain (weight_type_call_type "set" [.ref l] []) rfl];have h1:=F.called_set.notType;have h2:=F.called_set.canCreate;have YN:=F.typeCall_set_1 (.ref l)
 repeat (any_goals (first | assumption | wp_step))
 refine uG (O1 (.ref l) (E:=E) (Q:=fun obj dR=>obj=.ref s.heap.objs.size/\dR={ s with heap:=s.heap.push (uP w) }) ⟨rfl,rfl⟩) fun r s1 hr=>?_;cases r with
 | error e=>exact hr
 | ok fl =>
  cases fl with
  | ret obj =>
   obtain⟨rfl,rfl⟩:=hr;have hS:(s.heap.push (uP w)).get? s.heap.objs.size=some (uP w):=aK _ rfl;have hT:Shared.TypeIs { s with heap:=s.heap.push (uP w) } (.ref s.heap.objs.size) "set":=⟨_,hS,rfl⟩;have YL:=F.called_set.init.lookup;have QX:=F.called_set.init.bind (.ref s.heap.objs.size)
   repeat (any_goals (first | assumption | wp_step))
   refine uG (codeAny_call_builtin (R:=wants (fun r iH=>r=.none/\∃ h' tk ks,iH={ s with heap:=h',toks:=tk }/\Kt prog w h' s.heap.objs.size (!Dx w) ks/\ks.Nodup/\(∀ x,x∈ks↔∃ m,m < items.size/\val m=x) /\
     (∀ c o,c < s.heap.objs.size->s.heap.get? c=some o->h'.get? c=some o)) E) F.called_set.init.plain F.entry_set_init (check_set_init_1 hT ?_)) fun RN iH Jb=>?_
   ·obtain⟨⟨V2,Pl,Us,Na⟩,UK,AZ,nl,UX⟩:=hl;simp only at AZ UX;subst AZ UX;have S9:(s.heap.push (uP w)).get? l=some { cls:=.type "list",dict:=Pl,data:=.seq items nl,slots:=Na }:=aw _ UK;have Wn:=F.sub_list_set;have Wo:=F.sub_list_frozenset;have iY:(Value.type "list" == Value.type "dict")=false:=by decide
    have NK:(s.heap.push (uP w)).IsList l items:=⟨_,S9,rfl,nl,rfl⟩;unfold uP at *;unfold Builtin.«set.__init__» noKeywords Builtin.Frozenset.updateFrom;generalize W0:w6=PI
    wp_walk
    subst W0;refine qf NK (ae (wpAny_runValue ?_));have UR:l < s.heap.objs.size:=aI UK;have WJ:A.in1.in1.in1.handled=none:=by simp [hh]
    have hsz:(s.heap.push (uP w)).objs.size=s.heap.objs.size+1:=iF _ _;unfold uP at hsz;refine KZ (b:=!Dx w) ((Walks.list WJ _ l (by rw [hsz]; exact bA (j4 UR)) items).toS) s.heap.objs.size (by rw [hsz]; simp only [pD,List.not_mem_nil,or_false,not_or]; exact⟨bA (k9 _),Nat.ne_of_gt UR⟩)
     val pT (fun i v hP=>NB i v hP) (items.size - 0) 0 _ [] (by lia) (bR _) (ay _) fk ⟨⟨_,aK _ rfl,rfl,rfl⟩,NK.push _⟩
     ?WZ ?hR
    case WZ=>exact HN (aw _ hS)
    case hR =>
     intro s' ks hm nd hq TC;obtain⟨h',g',d',RF,R0⟩:=s';cases (show g'=s.gens from hm.gens);cases (show d'=s.drawn from hm.drawn);cases (show R0=s.os from hm.os);refine aq (show wpAny _ _ (ret c6) _ _ _ from aq ⟨rfl,h',RF,ks,rfl,TC,nd,fun x=>(hq x).trans ⟨fun z=>z.elim (fun q=>by cases q) fun ⟨m,_,b,c⟩=>⟨m,b,c⟩,fun ⟨m,b,c⟩=>.inr ⟨m,bR _,b,c⟩⟩,fun c o hc e=>hm.heap c o (fun z=>?_) (aw _ (aw _ e))⟩);rcases List.mem_cons.mp z with z | z
     ·exact absurd z (bA hc)
     ·rw [hsz] at z; exact absurd (List.mem_singleton.mp z) (bA (j4 hc))
   ·cases RN with
    | error e=>exact Jb
    | ok Qe =>
     cases Qe with
     | ret r =>
      obtain⟨rfl,h',tk,ks,rfl,TC,nd,hq,Kq⟩:=Jb
      repeat (any_goals (first | assumption | wp_step))
      exact h _ _ ks TC nd hq Kq
     | _=>exact Jb.elim
  | _=>exact hr.elim
end
end K2.S
end
section
namespace K2
open PySem PySem.Spec PyProof.Rows L2 PySem.W
section
variable {X:Cx} {a:Expr} {ta:BG} {pos p AA p2:Pos}
theorem L4:cS "set" = some (.type "set"):=by first | rfl | decide +kernel
noncomputable def tk(k:List Key):D:=.tup (k.map dg)
end
end K2
end
section
namespace K2.S
open PySem PySem.Spec PyProof.Rows L2 PySem.SetTable
namespace F5
theorem slot_next:Slot "set_iterator" "__next__" "set_iterator.__next__" :=
 .of (owner:="set_iterator") (n:="__next__") (by rw [typeLookup_type,builtinLookup_eq_fast]; kernel_rfl) (by decide +kernel) (by decide +kernel) (by decide +kernel) (by first | exact .inl (by decide +kernel) | exact .inr (by decide +kernel)) (by rw [Ky]; kernel_rfl)
theorem entry_next:entryFor table "set_iterator.__next__" = some Builtin.«set_iterator.__next__»:=entryFor_of_tree (by kernel_rfl)
theorem xk:Slot "set_iterator" "__iter__" "set_iterator.__iter__" :=
 .of (owner:="set_iterator") (n:="__iter__") (by rw [typeLookup_type,builtinLookup_eq_fast]; kernel_rfl) (by decide +kernel) (by decide +kernel) (by decide +kernel) (by first | exact .inl (by decide +kernel) | exact .inr (by decide +kernel)) (by rw [Ky]; kernel_rfl)
theorem Di:entryFor table "set_iterator.__iter__" = some Builtin.«dict_keyiterator.__iter__»:=entryFor_alias (id':="dict_keyiterator.__iter__") (by kernel_rfl) rfl (by decide +kernel) (by kernel_rfl)
theorem Bk:entryFor table "set.__iter__" = some Builtin.«frozenset.__iter__»:=entryFor_alias (id':="frozenset.__iter__") (by kernel_rfl) rfl (by decide +kernel) (by kernel_rfl)
theorem own:Manifest.owners.lookup (String.ofList ['r','o','t','a','r','e','t','i','_','t','e','s'].reverse)=some Manifest.sig_set_iterator:=by kernel_rfl
theorem args_next (a:Value):argsOk "set_iterator.__next__" ⟨[a],[]⟩:=by
 unfold argsOk; rw [signature?_of (id:="set_iterator.__next__") (n:=['_','_','t','x','e','n','_','_']) (o:=['r','o','t','a','r','e','t','i','_','t','e','s']) (by kernel_rfl) own]; kernel_rfl
theorem GA (a:Value):argsOk "set_iterator.__iter__" ⟨[a],[]⟩:=by
 unfold argsOk; rw [signature?_of (id:="set_iterator.__iter__") (n:=['_','_','r','e','t','i','_','_']) (o:=['r','o','t','a','r','e','t','i','_','t','e','s']) (by kernel_rfl) own]; kernel_rfl
end F5
noncomputable def Cj(pl:Array Nat)(i:Nat):Nat:=if i=0 then 0 else pl.getD (i - 1) 0+1
theorem J1{xs:Array Nat}(up:Up xs){i:Nat}(h:i<=xs.size):below xs (Cj xs i)=i:=by
 obtain⟨h1,h2,h3⟩:=mT up (Cj xs i);unfold Cj at h1 h2 h3 ⊢;by_cases c:i=0
 ·rw [if_pos c] at h1 h2 h3 ⊢;apply cw;intro z;have:=h2 0 (by lia);lia
 ·rw [if_neg c] at h1 h2 h3 ⊢;apply cw;intro z;by_cases q:below xs (xs.getD (i - 1) 0+1) < i
  ·have:=h3 (i - 1) (by lia) (by lia); lia
  ·have a1:=h2 i (by lia);have a2:=up (i - 1) i (by lia) (by lia);lia
section
variable {prog:bx} {w:World} {A:cM} {E:Value->aj->Prop} {s:aj}
noncomputable abbrev tb(w:World)(mk:Nat)(pl dm:Array Nat)(fg mv:Nat):fA:={ mask:=mk,place:=pl,dummies:=dm,finger:=fg,led:=!Dx w,moves:=mv,plain:=true }
structure Wk(w:World)(o:Obj)(es:En)(ep:Nat)(mk:Nat)(pl dm:Array Nat)(fg mv:Nat):Prop where
 ex:o.ExactSet
 dd:o.data=.set es ep (tb w mk pl dm fg mv)
 fit:(tb w mk pl dm fg mv).fits es.size=true
 sz:pl.size=es.size
 up:Up pl
noncomputable def ord(w:World)(a:Addr)(ep:Nat)(es:En):En:=if Dx w=true then pickOrder (w.params.setOrder a ep) es else es
noncomputable def slt(w:World)(pl:Array Nat)(i:Nat):Nat:=if Dx w=true then 0 else Cj pl i
noncomputable abbrev RM (a:Addr) (sl i n ep:Nat):Obj:={ cls:=.type "set_iterator",data:=.fields #[.int sl 0,.int i 0,.ref a,.int n 0,.int ep 0] }
noncomputable def OJ (h:Heap) (it a:Addr) (sl i n ep:Nat):Prop:=∃ o,h.get? it=some o/\o.cls=.type "set_iterator"/\o.data=.fields #[.int sl 0,.int i 0,.ref a,.int n 0,.int ep 0]
theorem OJ.ty {it a:Addr} {sl i n ep:Nat} (x:OJ s.heap it a sl i n ep):s.TypeIs (.ref it) "set_iterator":=by
 obtain⟨o,h,c,_⟩:=x;exact⟨o,h,c⟩
theorem zk{Q:Bool->aj->Prop}(h:Q (Dx w) s):wpAny (model prog w) A setsByText Q E s:=by
 unfold setsByText;exact ae (E9 (aq h))
variable {es:En} {mk fg mv:Nat} {pl dm:Array Nat} {a it:Addr} {o:Obj} {ep:Nat}
theorem HJ{Q:Value->aj->Prop}(ho:s.heap.get? a=some o)(W:Wk w o es ep mk pl dm fg mv)
  (hQ:Q (.ref s.heap.objs.size) { s with heap:=s.heap.push (RM a 0 0 es.size ep) }):wpAny (model prog w) A (w6 (.ref a)) Q E s:=by
 have ty:s.TypeIs (.ref a) "set":=⟨o,ho,W.ex.1⟩;refine qe ty Fb (da Fb ty F5.Bk ?_ (PySem.F.args_set_iter_1 _));unfold Builtin.«frozenset.__iter__» Builtin.Frozenset.slot0 slotArgs;simp only [List.isEmpty_nil,bq,av,↓reduceIte,bind_assoc,ar,bne_self_eq_false];unfold Builtin.Frozenset.addrOf Builtin.Frozenset.sizeOf;refine ae (aq ?_)
 try dsimp only
 refine ae (aq (ae (ae (x6 ho W.dd W.fit (aq ?_)))));refine ae ?_;unfold setDrawn;refine ae (k6 ho W.dd W.fit ?_);dsimp only;refine ae (zk (aq ?_));split
 ·rename_i z;exact absurd z (by cases Dx w <;> exact fi)
 ·refine ae (aq ?_);unfold setEpoch;refine ae (ae (k6 ho W.dd W.fit (aq ?_)));unfold newFields;refine ae (cH (aq ⟨_,rfl,"set_iterator",_,⟨_,aK _ rfl,rfl⟩,F5.slot_next.lookup,?_⟩) (by size_fits));exact hQ
theorem K1(hb:Dx w=true)(ho:s.heap.get? a=some o)(W:Wk w o es ep mk pl dm fg mv):wpAny (model prog w) A (setWalk a) (fun r s'=>r=pickOrder (w.params.setOrder a ep) es/\s'=s) (fun _ _=>False) s:=by
 unfold setWalk;refine ae (k6 ho W.dd W.fit ?_);dsimp only;refine ae (zk ?_);rw [hb,if_pos rfl];exact ae (E9 (aq ⟨rfl,rfl⟩))
theorem D1{i:Nat}(hi:i<=es.size)(ho:s.heap.get? a=some o)(W:Wk w o es ep mk pl dm fg mv):wpAny (model prog w) A (setNext a (slt w pl i) i ep) (fun r s'=>r=((ord w a ep es)[i]?).map (fun e=>(e.2,slt w pl (i+1)))/\s'=s) (fun _ _=>False) s:=by
 unfold setNext;refine ae (k6 ho W.dd W.fit ?_);dsimp only;refine ae (zk ?_);cases hb:Dx w with
 | true =>
  rw [if_pos rfl,if_neg (by simp)];refine ae (k7 (K1 hb ho W) (fun r s' z=>?_) fun _ _ z=>z);obtain⟨rfl,rfl⟩:=z;refine aq ⟨?_,rfl⟩;unfold ord slt;rw [hb]; rfl
 | false =>
  rw [if_neg (by simp)];have sl:slt w pl i=Cj pl i:=by unfold slt; rw [hb]; rfl
  have VA:slt w pl (i+1)=pl.getD i 0+1:=by unfold slt; rw [hb]; rfl
  have bl:zC pl (Cj pl i)=i:=J1 W.up (by rw [W.sz]; exact hi);split
  ·rename_i z;exact absurd z fi
  ·refine ae (show wpAny (model prog w) A (if (!(!Dx w)&&!es.isEmpty)=true then unsupported "set:maker-not-led" else pure ()) _ _ s from ?_);rw [if_neg (by rw [hb]; simp)];refine aq (aq ⟨?_,rfl⟩);show (match es[zC pl (slt w pl i)]?,pl[zC pl (slt w pl i)]? with
    | some (_,x),some j=>some (x,j+1)
    | _,_=>none)=_
   rw [sl,bl,VA];unfold ord;rw [hb,if_neg (by simp)];by_cases c:i < es.size
   ·have hp:i < pl.size:=by rw [W.sz]; exact c
    rw [bw c,bw hp];simp [nS,hp]
   ·rw [gh (by lia)]; rfl
theorem K5{i:Nat}{Q:Option Value->aj->Prop}(ki:OJ s.heap it a (slt w pl i) i es.size ep)(ho:s.heap.get? a=some o)(W:Wk w o es ep mk pl dm fg mv)(hi:i<=es.size){e:Int×Value}(he:(ord w a ep es)[i]?=some e)
  (hQ:∀ h',OJ h' it a (slt w pl (i+1)) (i+1) es.size ep->nE it s.heap h'->Q (some e.2) { s with heap:=h' }):wpAny (model prog w) A (pB (.ref it)) Q E s:=by
 obtain⟨oi,Oz,UY,LR⟩:=id ki;unfold pB;refine ae (zM (gB (name:=kD "__next__") ki.ty F5.slot_next (da F5.slot_next ki.ty F5.entry_next ?_ (F5.args_next _))));unfold Builtin.«set_iterator.__next__» slotArgs;refine ae (aq ?_);refine ae (w4 Oz LR ?_);show wpAny _ _ (setEntries a >>= _) _ _ s;refine ae (x6 ho W.dd W.fit ?_);rw [if_neg (by simp)];show wpAny _ _ (setNext a (wA (slt w pl i:Int)) (wA (i:Int)) (wA (ep:Int)) >>= _) _ _ s;rw [dc,dc,dc];refine ae (k7 (D1 hi ho W) (fun r s' z=>?_) fun _ _ z=>z.elim);obtain⟨rfl,rfl⟩:=z;rw [he];show wpAny _ _ (setField (.ref it) 0 (w5 (slt w pl (i+1):Int)) >>= _) _ _ _;refine ae (pJ Oz LR (by simp) ?_);have g1:=dQ (wx (·.setIfInBounds 0 (w5 (slt w pl (i+1):Int)))) Oz (rZ (eC LR _));refine ae (pJ g1 (eC LR _) (by simp) ?_);have g2:=dQ (wx (·.setIfInBounds 1 (w5 ((i:Int)+1)))) g1 (rZ (eC (eC LR _) _));refine aq ⟨_,rfl,aq (hQ _ ⟨_,g2,?_,?_⟩ ((eD ..).trans (eD ..)))⟩
 ·rw [yb,yb]; exact UY
 ·rw [eC (eC LR _)]; simp [w5]
theorem MP{Q:Option Value->aj->Prop}(calm:A.handled=none)(ki:OJ s.heap it a (slt w pl es.size) es.size es.size ep)(ho:s.heap.get? a=some o)(W:Wk w o es ep mk pl dm fg mv)(hl:(ord w a ep es).size=es.size)
  (hQ:∀ h',Heap.ExtBut it s.heap h'->Q none { s with heap:=h' }):wpAny (model prog w) A (pB (.ref it)) Q E s:=by
 obtain⟨oi,Oz,UY,LR⟩:=id ki;unfold pB;refine ae (zM (gB (name:=kD "__next__") ki.ty F5.slot_next (da F5.slot_next ki.ty F5.entry_next ?_ (F5.args_next _))));unfold Builtin.«set_iterator.__next__» slotArgs;refine ae (aq (ae (w4 Oz LR ?_)));show wpAny _ _ (setEntries a >>= _) _ _ s;refine ae (x6 ho W.dd W.fit ?_);rw [if_neg (by simp)];show wpAny _ _ (setNext a (wA (slt w pl es.size:Int)) (wA (es.size:Int)) (wA (ep:Int)) >>= _) _ _ s;rw [dc,dc,dc];refine ae (k7 (D1 (ay _) ho W) (fun r s' z=>?_) fun _ _ z=>z.elim);obtain⟨rfl,rfl⟩:=z;rw [gh (by lia)];show wpAny _ _ (setField (.ref it) 2 .none >>= _) _ _ _;refine ae (pJ Oz LR (by simp) ?_);show wpAny _ _ (newExc (.type "StopIteration") [] >>= _) _ _ _;refine ae ?_;simp only [newExc,newTuple];refine ae (cH (ae (m:=w7 _ _) (Hb (a:=c6) (by first | rfl | (simp only [w7]; rfl)) (cH ?_ (by size_fits)))) (by size_fits));unfold raiseNew;refine ae (wpAny_handled ?_);rw [show A.in1.handled=none from calm];refine ae (aq (wpAny_throw ?_));refine ae (E8 (T:="StopIteration") (b:=true) ⟨_,aK _ rfl,rfl⟩ isSubtype_stop (?_));exact aq (hQ _ (((eD ..).extBut.push _).push _))
theorem Jq{α:Type}:∀ (l:List α) (i:Nat) (h:i < l.length),(l[i] :: l.eraseIdx i).Perm l
 | x :: r,0,_=>.refl _
 | x :: r,i+1,h=>by
  rw [List.getElem_cons_succ,List.eraseIdx_cons_succ];exact(List.Perm.swap _ _ _).trans (.cons _ (Jq r i (by simpa using h)))
theorem xu{α:Type}(next:Nat->Nat):∀ (f k:Nat) (l:List α) (out:Array α),l.length<=f->(pickOrder.go next f k l out).toList.Perm (out.toList++l)
 | 0,k,l,out,h=>by
  have:l=[]:=List.length_eq_zero_iff.mp (by lia);subst this;rw [cW]; exact .refl _
 | f+1,k,l,out,h=>by
  unfold pickOrder.go;cases l with
  | nil=>simp
  | cons x r =>
   have hi:next k % (x :: r).length < (x :: r).length:=lS _ (by simp);rw [ah hi];dsimp only;refine(xu next f (k+1) _ _ (by rw [List.length_eraseIdx_of_lt hi]; simp at h ⊢; lia)).trans ?_;rw [Array.toList_push,eM];exact .append_left _ (Jq _ _ hi)
theorem AB(w:World)(a:Addr)(ep:Nat)(es:En):(ord w a ep es).toList.Perm es.toList:=by
 unfold ord;split
 ·unfold pickOrder;have:=xu (w.params.setOrder a ep) es.size 0 es.toList #[] (by simp);simpa using this
 ·exact .refl _
theorem u7(w:World)(a:Addr)(ep:Nat)(es:En):(ord w a ep es).size=es.size:=by have:=(AB w a ep es).length_eq; simpa using this
theorem HI(hh:A.handled=none)(iY:a≠it)(W:Wk w o es ep mk pl dm fg mv) :
  PySem.Walks prog w A it [it,a] [it] es.size (fun i v=>∃ e,(ord w a ep es)[i]?=some e/\v=e.2) (fun i h=>OJ h it a (slt w pl i) i es.size ep/\h.get? a=some o) where
 sub:=fun c hc=>by simp at hc; simp [hc]
 frame:=fun i h h' st hk=>⟨let ⟨o,e,r⟩:=st.1; ⟨o,hk it (by simp) o e,r⟩,hk a (by simp) o st.2⟩
 item:=fun i s Q E hi st hQ=>by
  have CT:i < (ord w a ep es).size:=by rw [u7]; exact hi
  have he:(ord w a ep es)[i]?=some (ord w a ep es)[i]:=bw CT;exact K5 st.1 st.2 W (zE hi) he fun h' ue sb=>hQ _ h' s.toks ⟨_,he,rfl⟩ ⟨ue,(sb.2 a iY).trans st.2⟩ fun c o hc e=>(sb.2 c (by simpa using hc)).trans e
 done:=fun s Q E st hQ=>MP hh st.1 st.2 W (u7 ..) fun h' eb=>hQ h' s.toks fun c o hc e=>eb c o (by simpa using hc) e
 self:=fun i s Q E st hQ=>by
  refine qe st.1.ty F5.xk (da F5.xk st.1.ty F5.Di ?_ (F5.GA _));show wpAny _ _ (ret (.ref it)) _ _ s;exact aq ⟨_,rfl,"set_iterator",_,st.1.ty,F5.slot_next.lookup,hQ⟩
theorem K6 {r:Addr} {Q:Bool->aj->Prop} (hT:s.TypeIs (.ref r) "set") (h:Q false s):wpAny (model prog w) A (ud (.ref r)) Q E s:=by
 unfold ud;refine ae (wpAny_specialOf hT PySem.F.slot_set_len.lookup ?_);generalize Kr:("set.__len__" : String)=Wf
 wp_delta
 rw [show splitId Wf=some ("set","__len__") from by subst Kr; decide +kernel];subst Kr;refine ae (E8 (T:="set") (b:=true) hT (by rw [Ky]; kernel_rfl) (wpAny_ite_split (fun P5=>absurd P5 (by decide)) fun _=>?_));exact wpAny_ite_split (fun _=>ae (wpAny_typeOf hT (aq h))) fun P5=>absurd (by decide +kernel) P5
theorem MO(W:Wk w o es ep mk pl dm fg mv) :
  PySem.W.KdlSrc prog w "set" a a es.size (fun i v=>∃ e,(ord w a ep es)[i]?=some e/\v=e.2) (fun h=>h.get? a=some o) where
 type:=fun s cz=>⟨o,cz,W.ex.1⟩
 there:=fun h cz=>⟨aI cz,aI cz⟩
 keep:=fun h h' cz hk=>hk a (.inl rfl) o cz
 notList:=by decide
 notTuple:=by decide
 hint:=fun A E s Q cz hq=>K6 ⟨o,cz,W.ex.1⟩ hq
 iter:=fun A s hh cz=>⟨_,_,(fun E Q hq=>HJ cz W hq),HI hh (bA (aI cz)) W,⟨⟨_,aK _ rfl,rfl,by unfold slt Cj; simp⟩,aw _ cz⟩⟩
end
end K2.S
end
section
namespace K2
open PySem PySem.Spec PyProof.Rows L2
noncomputable def LN:List Value->List Int->Bool
 | [],[]=>true
 | v :: vs,n :: ns=>zR n v&&LN vs ns
 | _,_=>false
noncomputable def zX(K:af)(a:Addr)(ns:List Int):Bool:=match K.lookup a with
 | some o=>o.cls == .type "tuple" && (match o.data with | .seq aZ _=>LN aZ.toList ns | _=>false)
 | none=>false
theorem xG:∀ (vs:List Value) (ns:List Int),LN vs ns=true->Vals (ns.map V.int) vs
 | [],[],_=>.nil
 | [],_ :: _,h=>bo (show false=true from h)
 | _ :: _,[],h=>bo (show false=true from h)
 | v :: vs,n :: ns,h=>by
  have h:(zR n v&&LN vs ns)=true:=h;rw [az] at h;rcases dB (k:=.inl n) h.1 with ⟨j,t,e,rfl⟩ | ⟨_,_,e,_⟩
  ·cases e;exact .cons ⟨t,rfl⟩ (xG vs ns h.2)
  ·cases e
end K2
end
section
namespace K2
open PySem PySem.Spec PyProof.Rows L2
section
variable {X:Cx}
theorem FC{a:Expr}{ta:eU}{p pos:Pos}{j}(ha:eV X a ta):DA X (.Compare a [.IsNot] [.Constant .none j p] pos) (fP (zJ (Ia true) ta)) :=
 show DA X _ (fP (bG (M0 true) ta (dC .cf))) from dG FI ha Ei (iy _)
end
end K2
end
section
namespace K2
open PySem PySem.Spec PyProof.Rows L2 PySem.W
open Enc (enc)
section
variable {X:Cx}
theorem IV{K:af}{H:Hp}:∀ {ns:List Int} {vs:List V} {aZ:List Value},aX K H vs (ns.map enc)->Vals vs aZ->jv aZ ns:=by
 intro ns;induction ns with
 | nil=>intro vs aZ r v; cases r; cases v; exact .nil
 | cons n ns ih =>
  intro vs aZ r v;cases r with
  | cons r1 r2 =>
   cases r1;cases v with
   | cons v1 v2=>obtain⟨t,rfl⟩:=(show ∃ t,_=lC n t from v1); exact .cons _ _ (ih r2 v2)
end
end K2
end
section
namespace K2
open PySem PySem.Spec PyProof.Rows L2 PySem.W
section
variable {X:Cx} {a b:Expr} {ta tb:eU} {pos p2:Pos}
theorem AD:lx X (g4 .Add) Ec:=by
 intro pins s σ H G x y dx dy v u Q I ab rx ry dX dY q;unfold Ec at q;split at q
 ·rename_i z w;cases dX; cases dY;obtain⟨t,rfl⟩:=(show ∃ t,v=fS z t from rx);obtain⟨t',rfl⟩:=(show ∃ t,u=fS w t from ry);exact SB.add (fun t' k=>⟨.str _,H,.str _,G,I.tok _,.refl ab,⟨_,rfl⟩,.str _,q.2⟩) (by rw [br]; lia)
 ·exact q.elim
theorem LD:lx X (cL .In) (M3 false):=by
 intro pins s σ H G x y dx dy v u Q I ab rx ry dX dY q;unfold M3 at q;split at q
 ·rename_i z w;cases dX; cases dY;obtain⟨t,rfl⟩:=(show ∃ t,v=fS z t from rx);obtain⟨t',rfl⟩:=(show ∃ t,u=fS w t from ry);exact SB.contains ⟨.bl _,H,.bl _,G,I.tok s.toks,.refl ab,rfl,.bl _,q⟩
 ·exact q.elim
theorem Dt:ly X (.builtin "len") JV:=by
 intro pins s σ H G xs ds us Q I ab rx rd q;unfold JV at q;split at q
 ·rename_i x;obtain⟨w1,rfl,Ag⟩:=rd.one;obtain⟨u,rfl,ru⟩:=rx.one;cases Ag;obtain⟨t,rfl⟩:=(show ∃ t,u=fS x t from ru);refine P.len_str (by lia) ⟨.int _,H,.int _,G,I.tok _,.refl ab,⟨_,rfl⟩,.int _,q.2⟩
 ·exact q.elim
theorem Du:ly X (.type "int") JW:=by
 intro pins s σ H G xs ds us Q I ab rx rd q;unfold JW at q;split at q
 ·rename_i x;obtain⟨w1,rfl,Ag⟩:=rd.one;obtain⟨u,rfl,ru⟩:=rx.one;cases Ag;obtain⟨t,rfl⟩:=(show ∃ t,u=fS x t from ru);obtain⟨n,hn,hl,q⟩:=q;exact KIN.call_text hn hl ⟨.int _,H,.int _,G,I.tok _,.refl ab,⟨_,rfl⟩,.int _,q⟩
 ·exact q.elim
theorem yC(ha:eV X a ta)(hb:eV X b tb)(hs:autoParam (∀ (x:Str) (t:Tok) (i:Int) (u:Tok),subscripted b false (.str x t) (.int i u)=operate [.str x t,.int i u] (Hg (.str x t) (.int i u))) Yw._auto_1)
  (ht:autoParam (∀ (x:Str) (t:Tok) (r:Value),letTemporaryGo a (.str x t) r=pure ()) Yv._auto_1):eV X (.Subscript a b pos) (bG H0 ta tb):=by
 intro E pins s σ H τ G Q hE I h;refine v7 (EY ha hb hE I h fun v u s2 x y dx dy H2 G2 J m rx ry dX dY q=>?_);unfold H0 at q;split at q
 ·rename_i z i;cases dX; cases dY;obtain⟨t,rfl⟩:=(show ∃ t,v=fS z t from rx);obtain⟨t',rfl⟩:=(show ∃ t,u=lC i t from ry);exact KXi.item rfl q.1.1 q.1.2.1 (by lia) (fun _=>⟨.str _,H2,.str _,G2,J.inv.tok _,m,⟨_,rfl⟩,.str _,q.2⟩) (hs _ _ _ _) (fun r=>ht _ _ r)
 ·exact q.elim
theorem mj{lo hi:Option Expr}{tl th:Oe}(he:eV X a ta)(hl:ON X lo tl)(hu:ON X hi th):eV X (.Subscript a (.Slice lo hi none p2) pos) (Bt ta tl th):=by
 intro E pins s σ H τ G Q hE I h;refine v7 (hZ he hE I h fun x H1 d G1 v s1 I1 m1 r1 iI q1=>?_);refine wpAny_Slice (eN (hl E pins s1 σ H1 τ G1 _ hE I1 q1) ?_);rintro vl s2 ⟨l,H2,G2,i5,m2,pl,q2⟩;refine eN (hu E pins s2 σ H2 τ G2 _ hE (I1.mv i5 m2) q2) ?_;rintro vu s3 ⟨r,H3,G3,I3,m3,pu,q3⟩;rw [evalPart_none];refine aq ?_;have mm:=m1.trans (m2.trans m3);have I4:Inv X pins σ H3 { s3 with heap:=s3.heap.push { cls:=.type "slice",data:=.fields #[vl,vu,.none] } }:=I3.kept (t':=s3.toks) fun b ob q=>aw _ q;split at q3
 ·rename_i y;cases iI;obtain⟨t,rfl⟩:=(show ∃ t,v=fS y t from r1);have hz:y.length<=aT:=by rw [br]; lia
  have fin:∀ t' k,nA X pins σ H G Q (.str (Txt.slice y l r) t') { s3 with heap:=s3.heap.push { cls:=.type "slice",data:=.fields #[vl,vu,.none] },toks:=k }:=fun t' k=>⟨.str _,H3,.str _,G3,I4.tok k,mm,⟨_,rfl⟩,.str _,q3.2⟩;cases pl with
  | none =>
   cases pu with
   | none=>exact rX (ops:=[.ref s3.heap.objs.size,.str y t]) (BZ _ _ _) F.slot_str_getitem.lookup (jZ (l:=none) (u:=none) (st:=none) ⟨_,aK _ rfl,rfl,rfl⟩ rfl (uC ⟨bf (zB y _ _) hz,fin⟩)) (by with_unfolding_all rfl)
   | int j tj=>exact rX (ops:=[.ref s3.heap.objs.size,.str y t]) (BZ _ _ _) F.slot_str_getitem.lookup (jZ (l:=none) (u:=some (j,tj)) (st:=none) ⟨_,aK _ rfl,rfl,rfl⟩ rfl (uC ⟨bf (zB y _ _) hz,fin⟩)) (by with_unfolding_all rfl)
  | int i ti =>
   cases pu with
   | none=>exact rX (ops:=[.ref s3.heap.objs.size,.str y t]) (BZ _ _ _) F.slot_str_getitem.lookup (jZ (l:=some (i,ti)) (u:=none) (st:=none) ⟨_,aK _ rfl,rfl,rfl⟩ rfl (uC ⟨bf (zB y _ _) hz,fin⟩)) (by with_unfolding_all rfl)
   | int j tj=>exact rX (ops:=[.ref s3.heap.objs.size,.str y t]) (BZ _ _ _) F.slot_str_getitem.lookup (jZ (l:=some (i,ti)) (u:=some (j,tj)) (st:=none) ⟨_,aK _ rfl,rfl,rfl⟩ rfl (uC ⟨bf (zB y _ _) hz,fin⟩)) (by with_unfolding_all rfl)
 ·exact q3.elim
theorem xx:DI X "str.split" yH:=by
 intro pins s σ H G x d xs ds v us Q I ab rv rd rx tU q;unfold yH at q;split at q
 ·rename_i y z;cases rd;obtain⟨w1,rfl,Ag⟩:=tU.one;obtain⟨u,rfl,ru⟩:=rx.one;cases Ag;obtain⟨t,rfl⟩:=(show ∃ t,v=fS y t from rv);obtain⟨t',rfl⟩:=(show ∃ t,u=fS z t from ru);obtain⟨hz,hy,q⟩:=q;obtain⟨m,F0⟩:=I.fr;refine KSpl.split1 F0 qP hz (fun Dd l h' k e sa F N ni=>?_) (by rw [br]; lia);obtain⟨k2,Pm⟩:=iO I F0 F fun p hp=>N p (au _ hp);have hD:s.heap.get? Dd=none:=by
   have nD:=N _ a7;cases qd:s.heap.get? Dd with
   | none=>rfl
   | some o=>exact absurd (ni _ (jd nD.2.1 nD.2.2 qd)) (cX _)
  have hp:H Dd=none:=rm I.cz hD;rw [<-e] at q;have rs:∀ l:List (Str×Tok),Vals ((l.map (·.1)).map V.str) (strValues l)/\aX X.K H ((l.map (·.1)).map V.str) ((l.map (·.1)).map D.str):=by
   intro l;induction l with
   | nil=>exact⟨.nil,.nil⟩
   | cons p l ih=>exact⟨.cons ⟨_,rfl⟩ ih.1,.cons (.str _) ih.2⟩
  have YK:(l.map (·.1)).length<=y.length+2:=by rw [e]; exact split_le y z
  refine⟨.ref Dd,upd H Dd (.lst ((l.map (·.1)).map V.str)),.ref _,_,Inv.AV (t':=k) I k2 Pm hD ?_,.wJ ab hp (rs l).2,rfl,.ref _,q _ (ab.free hp)⟩;exact⟨by rw [ag,br]; lia,_,0,(rs l).1,(N _ a7).1⟩
 ·exact q.elim
end
end K2
end
section
namespace K2
open PySem PySem.Spec PyProof.Rows L2
noncomputable def Ym(x:Str):It:=⟨fun i _=>i < x.cps.size,fun i H v H'=>H'=H/\∃ c,x.cps[i]?=some c/\v=.str ⟨#[c]⟩,fun i _=>x.cps.size<=i⟩
theorem Hw {P:bx} {w:World} {K:af} {tg:Expr} (x:Str) (t:Tok) (it:Addr):Turn P w K tg (Ym x) [it] it (fun i h=>h.IsStrIter it "str_ascii_iterator" x t i) where
 mem:=by simp
 obj:=fun i h st b hb=>by
  have e:b=it:=by simpa using hb
  subst e;obtain⟨o,e,c,d⟩:=st;exact⟨o,e,fun v z=>by rw [d] at z; cases z⟩
 keep:=fun i h h' st k=>by
  obtain⟨o,e,r⟩:=st;exact⟨o,k it (by simp) o e,r⟩
 item:=by
  intro X hP hw hK hc i pins s σ H E I hf st hg;subst hP hw hK;have hg:i < x.cps.size:=hg;obtain⟨f0,f1,f2,f3,f4,f5⟩:=hf it (by simp);have hx:x.cps[i]?=some x.cps[i]:=by simp [hg]
  refine wpAny_pyNext_ascii_item st hx fun h' ue sb=>?_;have I1:Inv X pins σ H { s with heap:=h',toks:=s.toks+1 }:=I.turned (t':=s.toks+1) (fun b o hb e=>(sb.2 b hb).trans e) f0 f1 f3 f4 f5;obtain⟨o,e,c,d⟩:=id ue;exact⟨_,rfl,A0 (s:={ s with heap:=h',toks:=s.toks+1 }) e c d (by decide) ⟨.str ⟨#[x.cps[i]]⟩,H,I1,⟨_,rfl⟩,⟨rfl,_,hx,rfl⟩,ue,fun b hb=>(hf b hb).1⟩⟩
 done:=by
  intro X hP hw hK hc i pins s σ H E I hf st hg;subst hP hw hK;have hg:x.cps.size<=i:=hg;obtain⟨f0,f1,f2,f3,f4,f5⟩:=hf it (by simp);exact wpAny_pyNext_ascii_end (I.ok.hd hc) st (by simp; lia) fun h' eb=>⟨rfl,I.turned (t':=s.toks) (fun b o hb e=>eb b o hb e) f0 f1 f3 f4 f5⟩
 self:=fun _ _ _ _ _ st h=>wpAny_pyIter_striter_ascii st h
section
variable {X:Cx} {tg:Expr} {a:Expr} {ta:eU}
theorem Lq(ha:eV X a ta):Kv X tg a (PD ta):=by
 intro E pins s σ H τ G R hE I h;refine hZ ha hE I h fun x H1 d G1 v s1 I1 m1 r1 iI q1=>?_;split at q1
 ·rename_i y;cases iI;obtain⟨t,rfl⟩:=(show ∃ t,v=fS y t from r1);refine wpAny_pyIter_ascii q1.1 ?_;refine⟨s1.heap.objs.size,[s1.heap.objs.size],_,_,H1,G1,_,_,rfl,I1.inv.kept (t':=s1.toks) fun b o e=>aw _ e,m1,Hw y t _,⟨_,aK _ rfl,rfl,rfl⟩,fun b hb=>?_,fun i H2 G2 k ab _=>?_,q1.2⟩
  ·have e:b=s1.heap.objs.size:=by simpa using hb
   subst e;exact I1.inv.CZ (ay _) (I1.inv.cz.fresh (ay _))
  ·refine⟨fun d hd=>?_,fun hl=>show y.cps.size<=i by simpa using hl⟩;rw [a5] at hd;obtain⟨c,hc,rfl⟩:=Option.map_eq_some_iff.mp hd;have hi:i < y.cps.size:=by
    have:=(List.getElem?_eq_some_iff.mp hc).1;simpa using this
   refine⟨hi,?_⟩;rintro x H3 ⟨e,c',Mw,rfl⟩;subst e;have:c'=c:=by
    rw [bK] at hc;rw [hc] at Mw; cases Mw; rfl
   subst this;exact⟨.str _,.refl ab⟩
 ·exact q1.elim
end
end K2
end
section
namespace K2
open PySem PySem.Spec PyProof.Rows L2
noncomputable def LV(w:World)(p:Str×Tok×Addr):j5:=⟨hashStr w p.1,.str p.1 p.2.1,.ref p.2.2⟩
noncomputable def Rb(K:af):List (Str×Tok×Addr)->List (Str×Int×Int)->Prop
 | [],[]=>True
 | e :: es,p :: ps=>(e.1=p.1/\zX K e.2.2 [p.2.1,p.2.2]=true)/\Rb K es ps
 | _,_=>False
structure Dz(w:World)(K:af)(g:Addr)(es:List (Str×Tok×Addr))(kv:List (Str×Int×Int)):Prop where
 at_:∃ n,K.lookup g=some { cls:=.type "dict",dict:=none,data:=.dict (es.map (LV w)).toArray n,slots:=#[] }
 ns:(g == fy)=false
 nd:(es.map (·.1)).Nodup
 vals:Rb K es kv
section
variable {P:bx} {w:World} {K:af} {g:Addr} {es:List (Str×Tok×Addr)} {kv:List (Str×Int×Int)}
noncomputable def Kk(es:List (Str×Tok×Addr)):List (Key×Value):=es.map fun p=>(.inr p.1,.ref p.2.2)
theorem El:∀ es:List (Str×Tok×Addr),Pairs (dI P w) (es.map (LV w)) (Kk es)
 | []=>.nil
 | e :: es=>.cons (qY (k:=.inr e.1) ⟨_,rfl⟩) rfl (El es)
theorem Dz.of(S:Dz w K g es kv){h:Heap}(Y:K.In h):h.DictOf (dI P w) g (Kk es):=by
 obtain⟨n,hl⟩:=S.at_;refine⟨_,_,n,Y _ _ hl,⟨rfl,rfl,rfl⟩,rfl,?_,?_,?_⟩
 ·intro e he;have:e∈es.map (LV w):=by simpa using he
  obtain⟨p,_,rfl⟩:=List.mem_map.mp this;exact⟨.inr p.1,qY (k:=.inr p.1) ⟨_,rfl⟩,rfl⟩
 ·simpa using El (P:=P) (w:=w) es
 ·unfold Kk;rw [dN];have:(es.map ((fun x:Key×Value=>x.1)∘fun p=>((.inr p.1:Key),j3 p.2.2)))=(es.map (·.1)).map x9:=by rw [dN]; rfl
  rw [this,mW,g6];exact(List.nodup_iff_pairwise_ne.mp S.nd).imp fun iY e=>iY (Sum.inr.inj e)
theorem Ob(y:Str):∀ {es:List (Str×Tok×Addr)} {kv:List (Str×Int×Int)},Rb K es kv->(∃ b p,lW (Kk es) (.inr y)=some (.ref b)/\kv.lookup y=some p/\zX K b [p.1,p.2]=true)\/(lW (Kk es) (.inr y)=none/\kv.lookup y=none)
 | [],[],_=>.inr ⟨rfl,rfl⟩
 | [],_ :: _,h=>h.elim
 | _ :: _,[],h=>h.elim
 | e :: es,p :: ps,h=>by
  obtain⟨⟨h1,h2⟩,h3⟩:=h;obtain⟨k,p1,p2⟩:=p;have h1:e.1=k:=h1;subst h1;by_cases z:y=e.1
  ·subst z;left;refine⟨e.2.2,(p1,p2),?_,by rw [kK]; simp,h2⟩;unfold lW Kk;rw [ax,jI (by simp)]; rfl
  ·have e1:lW (Kk (e :: es)) (.inr y)=lW (Kk es) (.inr y):=by
    unfold lW Kk;rw [ax,jJ (by simpa using fun q=>z q.symm)]
   have e2:((e.1,p1,p2) :: ps).lookup y=ps.lookup y:=by
    rw [kK];have:(y == e.1)=false:=by simpa using z
    rw [this]
   rw [e1,e2];exact Ob y h3
end
section
variable {X:Cx} {x y:Str} {g:Addr} {es:List (Str×Tok×Addr)} {kv:List (Str×Int×Int)} {a k e1:Expr} {ta tk te:eU} {px pos py pg ps ap p2 p3 p4 p5 tp rp q0 q1:Pos} {i:Nat}
theorem Lv (S:Dz X.w X.K g es kv) (hg:Gl X x) (hm:X.mg x=some (.ref g)) (ha:eV X a ta) (Tf:autoParam (zQ .In (.Name x px)=false) Aw._auto_1) (FY:autoParam ((x == ("__debug__" : Str))=false) Ad._auto_1) :
  eV X (.Compare a [.In] [.Name x px] pos) (N4 kv ta):=by
 intro E pins s σ H τ G Q hE I h;refine wpAny_Compare1 (hZ ha hE I h fun v H1 d G1 u s1 I1 m1 r1 iI q1=>uo I1.inv hg hm ?_ FY) Tf;split at q1
 ·rename_i z;cases iI;refine wpAny_in_of (qY (k:=.inr z) r1) S.ns (S.of I1.inv.BV).mapOf ?_;have e:(lW (Kk es) (.inr z)).isSome=(kv.lookup z).isSome:=by
   rcases Ob z S.vals with ⟨b,p,q1,q2,_⟩ | ⟨q1,q2⟩ <;> rw [q1,q2] <;> rfl
  rw [e];exact⟨.bl _,H1,.bl _,G1,I1.inv.tok _,m1,rfl,.bl _,q1⟩
 ·exact q1.elim
theorem Kd{K:af}{H:Hp}{σ:L2.St}{τ:fD}(a:Ha K H σ τ)(i:Nat)(v:V):Ha K H (σ.set i (some v)) (τ.set i none):=by
 refine⟨by rw [dO,dO]; exact a.len,fun j e h=>?_⟩;by_cases hj:i=j
 ·subst hj;by_cases hi:i < τ.length
  ·rw [dD hi] at h; cases h
  ·rw [kz (by rw [dO]; lia)] at h; cases h
 ·rw [eG hj] at h;obtain⟨w,h1,h2⟩:=a.at' j e h;exact⟨w,by rw [eG hj]; exact h1,h2⟩
theorem BH{K:af}{H:Hp}{b:Addr}{ns:List Int}(e:zX K b ns=true)(hz:ns.length<=1000):t8 K H b (ns.map V.int):=by
 unfold zX at e;cases hl:K.lookup b with
 | none=>rw [hl] at e; exact bo (show false=true from e)
 | some o =>
  rw [hl] at e;dsimp only at e;rw [az] at e;obtain⟨e1,e2⟩:=e;obtain⟨c,dd,dt,sl⟩:=o;have f1:c=.type "tuple":=beq_iff_eq.mp e1;subst f1;cases dt with
  | seq aZ m =>
   have v:=xG _ _ e2;exact .inr ⟨_,aZ,m,hl,rfl,rfl,by have:=v.length; rw [br,<-bu,<-this,ag]; lia,v⟩
  | _=>exact bo (show false=true from e2)
theorem IS{pins:List (Addr×Obj)}{s:aj}{σ:L2.St}{H:Hp}{b:Addr}{ns:List Int}{n j:Int}{jk:Nat}{E:Value->aj->Prop}{Q:Value->aj->Prop}(I:Inv X pins σ H s)(hi:X.N[i]?=some y)(hv:OG X.env.scope y)(QP:σ[i]?=some (some (.ref b)))(hT:t8 X.K H b (ns.map V.int))(hn:L2.nK (ns.map V.int) j=some (.int n))
  (k:∀ t s',Inv X pins σ H s'->Q (.int n t) s') (Wh:X.xe=E) (hd:autoParam ((y == ("__debug__" : Str))=false) Ad._auto_1) (yS:autoParam ((y == ("__classdict__" : Str))=false) Ad._auto_1) :
  wpAny (model X.prog X.w) X.A (eval (.Subscript (.Name y p2) (.Constant (.int j) jk q0) p3) X.env) Q E s:=by
 subst Wh;refine v7 (eN (Ih hi hv hd yS pins s σ H (fun v H'=>v=.ref b/\H'=H) I ⟨.ref b,QP,rfl,rfl⟩) ?_);rintro u s1 ⟨v,H1,I1,r1,e1,e2⟩;subst e1 e2;cases r1;refine wpAny_Constant_int ?_;refine eN (IQ (.Name y p2) (.Constant (.int j) jk q0) pins _ σ _ (.ref b) (.int j) (.ref b) (.int j _) (fun v H'=>v=.int n/\H'=_) (I1.tok _) rfl ⟨_,rfl⟩ ⟨b,_,j,.int n,rfl,rfl,hT,hn,rfl,rfl⟩ rfl) ?_;rintro u s2 ⟨v,H2,I2,r2,e1,e2⟩;subst e1 e2;obtain⟨t,rfl⟩:=(show ∃ t,u=lC n t from r2);exact k t s2 I2
theorem FD{j0 j1:Nat}{cx}(S:Dz X.w X.K g es kv)(hN:X.N.Nodup)(hi:X.N[i]?=some y)(ni:i < X.N.length)(hy:Loc X.env.scope y)(hv:OG X.env.scope y)(hg:Gl X x)(hm:X.mg x=some (.ref g))(hk:eV X k tk)(he:eV X e1 te)(Wu:E4 k)
  (hs:autoParam (zO (.Subscript (.Name x pg) k ps) (some (.Name y py)) ap.line X.env=pure false) Ar._auto_1) (hf:autoParam (X.fn y=true\/X.env.scope.names.lookup y=some .local) Ao._auto_1)
  (hd:autoParam ((y == ("__debug__" : Str))=false) Ad._auto_1) (yS:autoParam ((y == ("__classdict__" : Str))=false) Ad._auto_1) (FY:autoParam ((x == ("__debug__" : Str))=false) Ad._auto_1)
  (CS:autoParam (bQ [e1,.Subscript (.Name y p2) (.Constant (.int 0) j0 q0) p3,.Subscript (.Name y p4) (.Constant (.int 1) j1 q1) p5] X.env=[(false,eval e1 X.env),(false,eval (.Subscript (.Name y p2) (.Constant (.int 0) j0 q0) p3) X.env),(false,eval (.Subscript (.Name y p4) (.Constant (.int 1) j1 q1) p5) X.env)]) Ar._auto_1) :
  t9 X [.Assign [.Name y py] (.Subscript (.Name x pg) k ps) ap,.Return (some (.Tuple [e1,.Subscript (.Name y p2) (.Constant (.int 0) j0 q0) p3,.Subscript (.Name y p4) (.Constant (.int 1) j1 q1) p5] cx tp)) rp] (EV kv i tk te):=by
 intro E pins s σ H τ G Dn hE I h;refine sP (wpAny_Assign_Name ?_ hs);refine v7 (uo I.inv hg hm (hZ hk hE I h fun v H1 d G1 u s1 I1 m1 r1 iI qq=>?_) FY);split at qq
 ·rename_i z;cases iI;rcases Ob z S.vals with ⟨b,p,v1,v2,hT⟩ | ⟨v1,v2⟩
  ·rw [v2] at qq;obtain⟨n,hl⟩:=S.at_;have QU:s1.TypeIs (.ref g) "dict":=⟨_,I1.inv.BV _ _ hl,rfl⟩;refine rX (ops:=[.ref g,u]) QU PySem.F.slot_dict_getitem.lookup (wpAny_getItem_of (qY (k:=.inr z) r1) (S.of I1.inv.BV).mapOf v1 ?_) (Wu _ _);refine uL (I1.inv.tok _) hN hi hy (v:=.ref b) rfl (fun s2 J2=>?_) hf;have i5:I2 X pins (σ.set i (some (.ref b))) H1 (τ.set i none) G1 s2:=⟨J2,Kd I1.st i _,I1.ab⟩;have QP:(σ.set i (some (V.ref b)))[i]?=some (some (.ref b)):=dD (by have:=J2.len; rw [dO] at this; lia);refine sP (wpAny_Return_some (wpAny_Tuple_spliced ?_));rw [CS];show wpAny _ _ (x8 ((false,eval e1 X.env) :: i6 tp [(false,eval (.Subscript (.Name y p2) (.Constant (.int 0) j0 q0) p3) X.env),(false,eval (.Subscript (.Name y p4) (.Constant (.int 1) j1 q1) p5) X.env)])) _ _ s2;refine e9 (hZ he hE i5 qq fun v' H2 d2 G2 u2 s3 I3 m3 r3 MY q3=>?_);show wpAny _ _ (x8 ((false,eval (.Subscript (.Name y p2) (.Constant (.int 0) j0 q0) p3) X.env) :: i6 tp [(false,eval (.Subscript (.Name y p4) (.Constant (.int 1) j1 q1) p5) X.env)])) _ _ s3;refine e9 (IS (ns:=[p.1,p.2]) I3.inv hi hv QP (BH hT (by simp)) rfl (fun t4 s4 J4=>?_) rfl hd yS);show wpAny _ _ (x8 ((false,eval (.Subscript (.Name y p4) (.Constant (.int 1) j1 q1) p5) X.env) :: i6 tp [])) _ _ s4;refine e9 (IS (ns:=[p.1,p.2]) J4 hi hv QP (BH hT (by simp)) rfl (fun t5 s5 J5=>wB ?_) rfl hd yS);have hf:H2 s5.heap.objs.size=none:=J5.cz.fresh (ay _);refine⟨by rw [br]; simp,?_⟩;refine⟨.ref s5.heap.objs.size,_,upd H2 s5.heap.objs.size (.tup [v',.int p.1,.int p.2]),.tup [d2,.int p.1,.int p.2],G2,J5.laid (t':=s5.toks) (fun b u e=>aw _ e) (ay _) ?_,(m1.trans m3).trans (.Kr I3.ab hf),rfl,?_,q3⟩
   ·exact⟨by rw [br]; simp,_,.cons r3 (.cons ⟨_,rfl⟩ (.cons ⟨_,rfl⟩ .nil)),⟨_,aK _ rfl,rfl,_,rfl⟩⟩
   ·exact .tup cC (.cons (MY.mono (.new hf)) (.cons (.int _) (.cons (.int _) .nil)))
  ·rw [v2] at qq; exact qq.elim
 ·exact qq.elim
end
end K2
end
section
namespace K2
open PySem PySem.Spec PyProof.Rows L2 PySem.W
open Enc (enc)
section
variable {X:Cx} {a:Expr} {ta:BG} {pos p AA p2:Pos}
theorem u5 (hc:X.calm=true) (hu:X.A.units+64 < cLine) (hg:Gl X "sorted") (hm:X.mg "sorted" = none) (PV:Gl X "set") (PQ:X.mg "set" = none) (ha:E5 X [a] ta) (hs:autoParam (bQ [a] X.env=(false,eval a X.env) :: bQ [] X.env) Ar._auto_1)
  (ND:autoParam (bQ [.Call (.Name "set" p2) [a] [] AA] X.env=(false,eval (.Call (.Name "set" p2) [a] [] AA) X.env) :: bQ [] X.env) Ar._auto_1) (GV:autoParam ((i6 pos (bQ [] X.env)).any (·.1)=false) Ar._auto_1) (S8:autoParam ((i6 AA (bQ [] X.env)).any (·.1)=false) Ar._auto_1) :
  eV X (.Call (.Name "sorted" p) [.Call (.Name "set" p2) [a] [] AA] [] pos) (lQ sL ta):=by
 intro E pins s σ H τ G Q hE I h;refine gZ (oq I.inv hg hm xW (iT ?_ ND GV));rw [ND];show wpAny _ _ (x8 ((false,eval (.Call (.Name "set" p2) [a] [] AA) X.env) :: i6 pos (bQ [] X.env))) _ _ s;refine e9 (gZ (oq I.inv PV PQ L4 (fQ (zY ha AA hE I h fun vs H1 ds G1 us s1 I1 m1 r1 iI q1=>?_) hs S8)));unfold sL at q1;split at q1
 ·rename_i x;obtain⟨nl,UQ,hlen,q⟩:=q1;obtain⟨w1,rfl,Ag⟩:=iI.one;obtain⟨u,rfl,ru⟩:=r1.one;obtain⟨l,vs,aZ,rfl,rv,rs,hL,hz⟩:=iS I1.inv I1.ab ru Ag UQ;have ia:=IV rs rv;have li:aZ.length=nl.length:=by rw [<-rv.length,rs.length,ag]
  have at_:∀ (i:Nat) (v:Value),aZ.toArray[i]?=some v->∃ t,v=.int (nl.getD i 0) t:=fun i v hv=>by
   have hv:aZ[i]?=some v:=by rw [Kg] at hv; exact hv
   have hi:i < nl.length:=by have:=(List.getElem?_eq_some_iff.mp hv).1; lia
   have hd:(nl.map (enc:Int->D))[i]?=some (.int (nl.getD i 0)):=by rw [a5,aC,ah hi]; rfl
   obtain⟨vv,h1,h2⟩:=rs.get hd;obtain⟨uu,h3,h4⟩:=rv.get h1;rw [hv] at h3;cases h3;cases h2;exact h4
  refine S.K0 (I1.inv.ok.hd hc) hu hL (fun i=>nl.getD i 0) (by rw [aF,li]; lia) at_ fun h' RF ks S' nd hq kp=>?_;rw [(show i6 pos (bQ [] X.env)=[] from rfl)];refine aq ?_;obtain⟨o,es,ep,t,ho,hex,hd,O,tf,WB,PM,M⟩:=S';have PY:=S.ui O;obtain⟨mk,pl,XB,fg,ld,mv,VR⟩:=t;have e1:ld=!S.Dx X.w:=WB;have e2:VR=true:=PM;subst e1 e2;have W:S.Wk X.w o es ep mk pl XB fg mv:=⟨hex,hd,PY,O.sz,O.up⟩;obtain⟨m,M2,Um⟩:=M.perm (es':=S.ord X.w s1.heap.objs.size ep es) (S.AB ..);have Ov:m.Nodup:=Um.nodup_iff.mpr nd;have mm:∀ y,y∈m↔y∈nl:=fun y=>by
   rw [Um.mem_iff,hq y];constructor
   ·rintro⟨i,hi,e⟩;rw [aF,li] at hi;have e:nl.getD i 0=y:=e;rw [aC,ah hi] at e;exact e ▸ bD hi
   ·intro hy;obtain⟨i,hi,e⟩:=cN hy;refine⟨i,by rw [aF,li]; exact hi,?_⟩;show nl.getD i 0=y;rw [aC,ah hi]; exact e
  have Wc:∀ b u,s1.heap.get? b=some u->h'.get? b=some u:=fun b u e=>kp b u (aI e) e;have I3:=I1.inv.kept (t':=RF) Wc;have I4:=I1.mv I3 (.refl I1.ab);have ml:m.length=es.size:=by have:=M2.1; rw [S.u7] at this; exact this
  refine k7 (Co hc hu I4.inv I4.ab (S.MO W) ho (vs:=m.map V.int) (zs:=m.map enc) (by rw [ag]; exact ml) (fun i u hi hP=>?_) (aX.yE m) (bE.sT Int) (fun z SS=>?_) (by decide) ?_ ?_) (fun r s' ⟨v,H2,d,G2,I2,m2,r2,yu,q2⟩=>⟨v,H2,d,G2,I2,m1.trans m2,r2,yu,q2⟩) fun _ _ z=>z
  ·obtain⟨e,he,rfl⟩:=hP;obtain⟨k,t,q1,q2,_⟩:=M2.2 i e he;rw [e8,q2];rw [ag] at hi;rw [ah hi] at q1;cases q1;exact⟨t,rfl⟩
  ·obtain⟨y,_,rfl⟩:=List.mem_map.mp SS;exact bE.CV y
  ·rw [ag];exact wz (tT Ov fun y hy=>(mm y).mp hy) hlen
  ·rw [xi];exact q m Ov mm
 ·exact q1.elim
end
end K2
end
section
namespace K2
open PySem PySem.W PySem.Spec PyProof.Rows L2
noncomputable def RD(e:j5):Str×Tok×Addr:=match e.key,e.val with
 | .str x t,.ref a=>(x,t,a)
 | _,_=>(ju,0,0)
noncomputable def La(K:Frag):List (Str×Tok×Addr)->List (Str×Int×Int)->Bool
 | [],[]=>true
 | e :: es,p :: ps=>e.1 == p.1&&zX K e.2.2 [p.2.1,p.2.2]&&La K es ps
 | _,_=>false
theorem HQ{K:Frag}:∀ {es:List (Str×Tok×Addr)} {kv:List (Str×Int×Int)},La K es kv=true->Rb K es kv/\es.map (·.1)=kv.map (·.1)
 | [],[],_=>⟨trivial,rfl⟩
 | [],_ :: _,h=>nomatch h
 | _ :: _,[],h=>nomatch h
 | e :: es,p :: ps,h=>by
  unfold La at h;rw [az,az,beq_iff_eq] at h;obtain⟨i1,i2⟩:=HQ h.2;exact⟨⟨h.1,i1⟩,by rw [ax,ax,h.1.1,i2]⟩
structure Qy(w:World)(K:Frag)(cn:Str)(g:Addr)(es:List (Str×Tok×Addr))(kv:List (Str×Int×Int)):Prop where
 ns:nsIn K bc cn=some (some (.ref g))
 di:Dz w K g es kv
theorem K9 {w:World} {K:Frag} {cn:Str} {g:Addr} {kv:List (Str×Int×Int)} {es:Array j5} {n:Nat} (a:autoParam (nsIn K bc cn=some (some (.ref g))) Aq._auto_1) (l:autoParam (K.lookup g=some ⟨.type "dict",none,.dict es n,#[]⟩) Aq._auto_1) (r:autoParam (es=((es.toList.map RD).map (LV w)).toArray) Ac._auto_1)
  (s:autoParam ((g == fy)=false) Ae._auto_1) (o:autoParam (La K (es.toList.map RD) kv=true) Ac._auto_1) (nd:autoParam ((kv.map (·.1)).Nodup) Ak._auto_1):Qy w K cn g (es.toList.map RD) kv:=by
 obtain⟨o1,o2⟩:=HQ o;exact⟨a,⟨n,by rw [l]; exact congrArg (fun z=>some (⟨.type "dict",none,.dict z n,#[]⟩:Obj)) r⟩,s,by rw [o2]; exact nd,o1⟩
end K2
end
section
namespace K2
open PySem PySem.W PySem.Spec PyProof.Rows PySem.Calls
theorem FO{p q:bx}{loose:List Str}{Xt:aj->Bool}{α:Type}{Yf:aj->α}{Ya:World->α}{N:Nat}(e:opening p=plainProg p.main.scope.names)(hN:Nat.ble 600 N=true)(f:∀ s,fenceModules? p s=some s)
  (h:∀ (w:World) (os:OsState),(topFrom treeTable p w N ⟨Hi w.params,Fd [],B3,Hh,os⟩).map (fun s=>(openSeen q loose (uF p.main.body) Xt true s,Yf s))=some (openGood q loose,Ya w)):LeftO p q loose Xt Yf Ya N:=fun w=>by
 obtain⟨⟨h',gs,d,k,os⟩,e1,e2⟩:=Option.map_eq_some_iff.mp (boot_open e hN f w);obtain⟨rfl,rfl,rfl,rfl⟩:h'=Hi w.params/\gs=Fd []/\d=B3/\k=Hh:=by simpa using e2
 unfold openEnds;rw [e1];exact h w os
noncomputable abbrev DZ(l:OpenLaw)(q:bx):Bool:=chainsOk q&&opensWell l.row.prog&&(frees l.row.toRowW&&l.row.within.isEmpty)
noncomputable abbrev MG(l:OpenLaw)(q:bx)(s:aj):Bool:=xlAt q [] s&&recOk l.row.records s
theorem FX{l:OpenLaw}{q:bx}{loose:List Str}{K:Params->Frag}{as:List Addr}{d:DefRec}{N:Nat}(ok:l.wellSaid=true)(e:opening l.row.prog=plainProg l.row.prog.main.scope.names)(hN:Nat.ble 600 N=true)(f:∀ s,fenceModules? l.row.prog s=some s)(hK:∀ P,as=(K P).map (·.1))
  (h:∀ (w:World) (os:OsState),(topFrom treeTable l.row.prog w N ⟨Hi w.params,Fd [],B3,Hh,os⟩).map (fun s=>(openSeen q loose (uF l.row.prog.main.body) (MG l q) true s,as.map s.heap.get?))=some (openGood q loose,(K w.params).map fun p=>some p.2))
  (hd:defOf q l.row.name=some (d,[])) (hp:l.row.prog.theDef l.row.name=some (d.params,d.body,d.scope)) (hk:kwWritten? d.params.kwonlyargs d.params.kw_defaults=some []) (hr:(!l.row.writes||l.row.records.isEmpty)=true) (ht:DZ l q=true) (hb:l.row.prog.bare) (hw:l.row.toRowW.promised)
  (c:WalkO q loose (XL q []) (InK K) l.row.toRowW d [] fun f vs=>DM f vs):l.Holds :=
 holds_law ok fun k1=>holds_open (FO (Yf:=Hook.obs (kHook K as hK)) (Ya:=Hook.val (kHook K as hK)) e hN f h) (Hook.of (kHook K as hK)) (Hook.keeps (kHook K as hK)) (fun s x=>xl_of s (Bool.and_eq_true_iff.mp x).1) XL.keeps hd hp hk (fun s x=>recFacts_of (Bool.and_eq_true_iff.mp x).2) hr k1 ht hb hw c
structure At(K:Frag)(x:Str)(st:Stmt)(f:Addr)(fd:aG):Prop where
 a:nsIn K bc x=some (some (.ref f))
 F:L2.o3 K x x st f fd
theorem At.mg{K:Frag}{h:Heap}{mg:Str->Option Value}{x:Str}{st:Stmt}{f:Addr}{fd:aG}(z:At K x st f fd)(X:K.In h)(G:h.Ns bc mg):mg x=some (.ref f):=mg_of X G z.a
theorem fw{K:Frag}{x:Str}{st:Stmt}{f:Addr}{oc:Value}{od an:Option Addr}{Io:Array (Option Value)}{kV doc pm lV ct:Value}(a:autoParam (nsIn K bc x=some (some (.ref f))) Aq._auto_1)(l:autoParam (K.lookup f=some ⟨oc,od,.func (fnOf x x (L2.jQ st) (L2.gT st) (L2.aW st) .none kV doc pm an lV ct),Io⟩) Aq._auto_1)
  (c:autoParam (codeIn K lV x=true) Aq._auto_1) (k:autoParam (keepIn K (.ref f)=true) Aq._auto_1):At K x st f (fnOf x x (L2.jQ st) (L2.gT st) (L2.aW st) .none kV doc pm an lV ct):=⟨a,L2.NV l c k⟩
structure tQ(P:bx)(w:World)(K:Frag)(mg:Str->Option Value)(base:Heap)(CX:L2.GH)(k:Nat)(f:Addr)(fd:aG)(x:Str)(ps:List Str)(sp:L2.Sp):Prop where
 ok:L2.fE P w K mg base CX k f fd ps sp
 mg:mg x=some (.ref f)
 kp:keepIn K (.ref f)=true
 bi:L2.Binds K fd ps []
end K2
end
section
namespace K2
namespace pI
noncomputable def ab(c:Int):Int:=if c < 0 then -c else c
variable {α:Type}
noncomputable def Uh(f:Int->Int)(r:Int->List α):Nat->Int->List Int->List α->List α×List Int
 | 0,_,Hy,ps=>(ps,Hy)
 | k+1,p,Hy,ps=>if p∈Hy then (ps,Hy) else Uh f r k (f p) (Hy++[p]) (ps++r p)
noncomputable def cls(f:Int->Int)(r:Int->List α):List Int->List (List α)->List Int->List (List α)
 | [],rows,_=>rows
 | t :: ts,rows,met=>if t∈met then cls f r ts rows met else
  let s:=Uh f r 4 t [] []
  cls f r ts (rows++[s.1]) (met++s.2)
end pI
end K2
end
section
namespace K2
open PySem (Str)
open Enc (enc)
theorem mF{α:Type} [DecidableEq α] [Enc α]{G G1:Gp}{p:Nat}{xs:List α}{Q:DK}(l:iJ G G1)(hp:G p=none)(h1:G1 p=some (.lst (xs.map enc)))(q:Q (enc xs) G):GZ G1 (.ref p) Q :=
 Js l hp h1 (GF.same _) q
theorem mH{α:Type}{f:α->D}{g:wj}{body:gU}{ok:Gp->Prop}{xs:List α}{E:jY}{K:kZ}{τ:fD}{G:Gp}(I:List α->fD->Gp->Prop)
  (h0:I [] τ G) (cz:∀ pre τ G,I pre τ G->ok G)
  (step:∀ (pre:List α) (x:α) (post:List α) τ G (N:fD->Gp->Prop),xs=pre++x :: post->I pre τ G->(∀ pE G2,I (pre++[x]) pE G2->N pE G2) ->
   g E (f x) τ G fun mY G1=>body E { K with nx:=N,ct:=N,bk:=K.nx } mY G1)
  (fin:∀ τ G,I xs τ G->K.nx τ G):nu g body ok (xs.map f) E K τ G:=by
 have main:∀ (post pre:List α) τ G,xs=pre++post->I pre τ G->nu g body ok (post.map f) E K τ G:=by
  intro post;induction post with
  | nil =>
   intro pre τ G e h;rw [cW] at e;subst e;exact⟨cz _ _ _ h,fin _ _ h⟩
  | cons d post ih =>
   intro pre τ G e h;refine⟨cz _ _ _ h,?_⟩;exact step pre d post τ G _ e h fun pE G2 h2=>ih (pre++[d]) pE G2 (by rw [e,eM]; rfl) h2
 exact main xs [] τ G rfl h0
theorem iB{α:Type}{f:α->D}{g:wj}{c:Option tM}{e:eU}{ok:Gp->Prop}{xs:List α}{E:jY}{τ:fD}{G:Gp}{Q:List D->Gp->Prop}(I:List α->List D->fD->Gp->Prop)
  (h0:I [] [] τ G) (cz:∀ pre acc τ G,I pre acc τ G->ok G)
  (step:∀ (pre:List α) (x:α) (post:List α) (acc:List D) τ G (N:fD->List D->Gp->Prop),xs=pre++x :: post->I pre acc τ G->(∀ pE sO G2,I (pre++[x]) sO pE G2->N pE sO G2) ->
   g E (f x) τ G fun mY G1=>match c with
    | none=>e E mY G1 fun x G2=>N mY (acc++[x]) G2
    | some c=>c E mY G1 fun k G2=>if k=true then e E mY G2 fun x G3=>N mY (acc++[x]) G3 else N mY acc G2)
  (fin:∀ acc τ G,I xs acc τ G->Q acc G):fZ g c e ok (xs.map f) E τ G [] Q:=by
 have main:∀ (post pre:List α) (acc:List D) τ G,xs=pre++post->I pre acc τ G->fZ g c e ok (post.map f) E τ G acc Q:=by
  intro post;induction post with
  | nil =>
   intro pre acc τ G e h;rw [cW] at e;subst e;exact⟨cz _ _ _ _ h,fin _ _ _ h⟩
  | cons d post ih =>
   intro pre acc τ G e' h;refine⟨cz _ _ _ _ h,?_⟩;have:=step pre d post acc τ G (fun pE sO G2=>fZ g c e ok (post.map f) E pE G2 sO Q) e' h fun pE sO G2 h2=>ih (pre++[d]) sO pE G2 (by rw [e',eM]; rfl) h2;cases c with
   | none=>exact this
   | some c=>exact this
 exact main xs [] [] τ G rfl h0
theorem kS{α:Type} [DecidableEq α] [Enc α]{xs:List α}{G:Gp}{R:List D->(Gp->Prop)->Gp->Prop}(h:R (xs.map enc) (fun _=>True) G):LO (enc xs) G R:=h
theorem AX{α:Type} [DecidableEq α] [Enc α]{xs:List α}{G:Gp}{R:List D->(Gp->Prop)->Gp->Prop}(h:R (kl 0 (xs.map enc)) (fun _=>True) G):mE (enc xs) G R:=h
theorem Fm{n:Nat}(h:n<=1000):n<=SZ:=by unfold SZ; lia
theorem KW{n:Nat}(h:n<=1000):n < SZ:=by unfold SZ; lia
noncomputable abbrev Rows:=List (List T3)
noncomputable def T3.s(p:T3):T2:=⟨p.a,p.b⟩
structure Dr(rows:Rows):Prop where
 nd:(rows.flatten.map T3.s).Nodup
 way:∀ p∈rows.flatten,p.b=0\/p.b=1
 hand:∀ p∈rows.flatten,p.c=1\/p.c=-1
 IA:∀ p∈rows.flatten,(⟨p.a,1 - p.b,p.c⟩:T3)∈rows.flatten
 pT:rows.flatten.length<=24
 str:rows.length<=3
namespace P
noncomputable def fT:oZ:=RL (fun rows:Rows=>rows.flatten.length<=1000) fun rows=>rows.flatten
noncomputable def n6:gU :=
 (cK (c9 (kn bh) (a6 1))
 (cK (jz (mD (aE 0)) (a6 2) (ft (oT yi uk (aE 1) (aH (aE 2) bh))))
 (cm (eY (aE 1)))))
theorem oC(ds:List D)(G:Gp)(Q:DK)(h:fT ds G Q fun _ _=>False):n6 (fun _ _=>False) (ends Q) (bz 3 ds) G:=by
 obtain⟨rows,rfl,hl,q⟩:=h;unfold n6;simp only [ends,bz,ax,a8,ak,ar,aU,aN,aR,eI,c9,kn,bh,a6,aA,ao];refine⟨by decide,fun p hp=>?_⟩;refine fb (fun τ G'=>(∃ b,τ=[some (enc rows),some (.ref p),b])/\iJ G G'/\G' p=some (.lst (rows.flatten.map enc))) ?_ ?_
 ·intro N hN;simp only [jz,dh,aE,aa];refine kS ?_;refine mH (xs:=rows) (fun pre τ G'=>(∃ b,τ=[some (enc rows),some (.ref p),b])/\iJ G G'/\G' p=some (.lst (pre.flatten.map enc))) ⟨⟨_,rfl⟩,.new hp,aS⟩ (fun _ _ _ _=>trivial) ?_ ?_
  ·rintro pre r post τ G' N2 e ⟨⟨b,rfl⟩,l,gp⟩ we;have hlen:pre.flatten.length+r.length<=rows.flatten.length:=by
    rw [e]; simp only [List.flatten_append,dE,aM]; lia
   simp only [a6,ft,oT,aE,aA,ao,ai,aa,gi,gp,aH,bh,fW,oh (IsL.enc r),true_and];refine⟨Fm (by simp only [ag]; lia),?_⟩;refine we _ _ ⟨⟨_,rfl⟩,l.put hp,?_⟩;rw [aS]; simp
  ·rintro τ G' ⟨⟨b,rfl⟩,l,gp⟩;exact hN _ _ ⟨⟨_,rfl⟩,l,gp⟩
 ·rintro _ G' ⟨⟨b,rfl⟩,l,gp⟩;simp only [cm,eY,aE,ai,aa];exact mF l hp gp q
theorem vR(p:T3):(enc p:D)=.tup [.int p.a,.int p.b,.int p.c]:=rfl
theorem Vb{a:D}{r:List D}:nK (a :: r) 0=some a:=by
 rw [oY _ (by lia) (by simp)]; rfl
theorem Va{a b:D}{r:List D}:nK (a :: b :: r) 1=some b:=by
 rw [oY _ (by lia) (by simp; lia)]; rfl
theorem at2{a b c:D}{r:List D}:nK (a :: b :: c :: r) 2=some c:=by
 rw [oY _ (by lia) (by simp; lia)]; rfl
noncomputable def names(rows:Rows):List Int:=HK ((rows.flatten.filter fun p=>p.b == 0).map (·.a))
theorem N5{a b c:D}:cut [a,b,c] none (some 2)=[a,b]:=rfl
theorem Fs{κ α:Type} [DecidableEq κ] [Enc κ] [oD κ] [DecidableEq α] [Enc α]{a:Nat}{l:List (κ×α)}{k:κ}{v:α}{G:Gp}{Q:Gp->Prop}(h:G a=some (.kB (eR l)))(hl:l.length<=1000)(q:Q (cY G a (.kB (eR (GB l k v))))):D7 (.ref a) (enc k) (enc v) G Q:=by
 unfold D7;simp only [h];refine⟨ke l k,?_,by rw [Lm]; exact q⟩;unfold eR; rw [ag]; exact KW hl
noncomputable def YB(s:T2):T3:=⟨s.a,s.b,0⟩
end P
end K2
end
section
namespace K2
open PySem (Str)
open Enc (enc)
class inductive Cn {α:Type} (ps:List (α×α)):α->α->Prop
 | refl (x:α):Cn ps x x
 | pair {x y:α}:(x,y)∈ps->Cn ps x y
 | symm {x y:α}:Cn ps x y->Cn ps y x
 | trans {x y z:α}:Cn ps x y->Cn ps y z->Cn ps x z
theorem Eb{α:Type} [DecidableEq α] [Enc α]{neg:Bool}{x:α}{xs:List α}{G:Gp}{Q:DK}(hd:Enc.dep α<=7)(q:Q (.bl (if neg then !decide (x∈xs) else decide (x∈xs))) G):yA neg (enc x) (enc xs) G Q:=by
 refine⟨enc x,xs.map enc,Enc.sn _ _ _ (by unfold SN; lia),nX G 7 hd xs,?_⟩;rw [zr]; exact q
class zA (α:Type) [DecidableEq α] [Enc α] [bE α] where
 mn:∀ {x:D} {G:Gp} {xs:List α} {Q:DK},itemsOf x G=some (xs.map enc)->xs≠[]->(∀ m∈xs,(∀ y∈xs,AS m y=true)->Q (enc m) G)->JS [x] G Q
theorem iQ{α:Type} [DecidableEq α] [Enc α] [bE α]:∀ (r:List α) (a:α),r.foldl (fun m x=>if bE.lt x m=true then x else m) a∈a :: r/\∀ y∈a :: r,AS (r.foldl (fun m x=>if bE.lt x m=true then x else m) a) y=true
 | [],a=>⟨by simp,fun y hy=>by rw [List.mem_singleton.mp hy]; unfold AS; rw [List.foldl_nil,bE.Km]; rfl⟩
 | b :: r,a=>by
  rw [lU];by_cases c:bE.lt b a=true
  ·rw [if_pos c];obtain⟨h1,h2⟩:=iQ r b;refine⟨au _ h1,fun y hy=>?_⟩;rcases List.mem_cons.mp hy with rfl | hy
   ·refine xB _ _ _ (h2 b (by simp)) ?_;unfold AS;cases q:bE.lt y b with
    | false=>rfl
    | true=>have:=bE.trans _ _ _ q c; rw [bE.Km] at this; cases this
   ·exact h2 y hy
  ·rw [if_neg c];obtain⟨h1,h2⟩:=iQ r a;refine⟨?_,fun y hy=>?_⟩
   ·rcases List.mem_cons.mp h1 with h | h
    ·rw [h]; simp
    ·exact au _ (au _ h)
   ·rcases List.mem_cons.mp hy with rfl | hy
    ·exact h2 y (by simp)
    ·rcases List.mem_cons.mp hy with rfl | hy
     ·refine xB _ _ _ (h2 a (by simp)) ?_;unfold AS; simpa using c
     ·exact h2 y (au _ hy)
noncomputable instance:zA Int where
 mn:=by
  intro x G xs Q hi iY k;cases xs with
  | nil=>exact absurd rfl iY
  | cons a r =>
   obtain⟨h1,h2⟩:=iQ r a;refine .inl ⟨a :: r,_,hi,rfl,?_⟩;have:(fun (m x:Int)=>if x < m then x else m)=fun m x=>if bE.lt x m=true then x else m:=by
    funext m x;show (if x < m then x else m)=if decide (x < m)=true then x else m
    simp
   show Q (enc (r.foldl (fun m x=>if x < m then x else m) a)) G;rw [this];exact k _ h1 h2
theorem vr:∀ (x y:List Int),o9 (fun a b=>decide (a < b)) x y=lexLt x y
 | [],[]=>rfl
 | [],_ :: _=>rfl
 | _ :: _,[]=>rfl
 | a :: x,b :: y=>by simp only [vt,lexLt,vr x y]
noncomputable instance:zA T3 where
 mn:=by
  intro x G xs Q hi iY k;cases xs with
  | nil=>exact absurd rfl iY
  | cons a r =>
   obtain⟨h1,h2⟩:=iQ r a;have ei:itemsOf x G=some (((a :: r).map T3.l).map tI):=by rw [hi,dN]; rfl
   refine .inr ⟨(a :: r).map T3.l,_,ei,rfl,?_⟩;have:∀ (r:List T3) (a:T3),(r.map T3.l).foldl (fun m x=>if lexLt x m=true then x else m) a.l=(r.foldl (fun m x=>if bE.lt x m=true then x else m) a).l:=by
    intro r;induction r with
    | nil=>intro a; rfl
    | cons b r ih =>
     intro a;rw [ax,lU,lU];have e:(if lexLt b.l a.l=true then b.l else a.l)=(if bE.lt b a=true then b else a).l:=by
      have:bE.lt b a=lexLt b.l a.l:=vr _ _;rw [this];split <;> rfl
     rw [e]; exact ih _
   rw [this r a];exact k _ h1 h2
namespace P
section
variable {α:Type} [DecidableEq α] [Enc α] [bE α] [oD α] [zA α]
structure GI(ms:List α)(ps:List (α×α))(l:List (α×List α)):Prop where
 len:l.length<=64
 at':∀ m∈ms,∃ g,nG l m=some g/\g.Nodup/\∀ x,x∈g↔Cn ps m x
end
end P
end K2
end
section
namespace K2
open PySem (Str)
open Enc (enc)
namespace P
theorem AK{κ β:Type} [DecidableEq κ]{l:List (κ×β)}{k:κ}{v:β}(h:nG l k=some v):(k,v)∈l:=by
 unfold nG at h;cases q:l.find? (fun p=>decide (p.1=k)) with
 | none=>rw [q] at h; cases h
 | some p =>
  rw [q] at h;have h1:=List.find?_some q;have h2:=List.mem_of_find?_eq_some q;simp at h h1;rw [<-h,<-h1]; exact h2
variable {rows:Rows}
end P
end K2
end
section
namespace K2
open PySem (Str)
open Enc (enc)
namespace P
variable {rows:Rows}
end P
end K2
end
section
namespace K2
open PySem (Str)
open Enc (enc)
namespace zx
open K2.P
noncomputable def tv:gU :=
 (cK (eT (fP (bG QJ (aE 1) (lQ pz (aH (aE 0) bh)))) (cm (eY (bG qM (aE 0) (aE 1)))) cu)
 (cm (eY (dC (.int 0)))))
noncomputable def ny(ns:List Int)(k:Int):Int:=ns.getD k.toNat 0
noncomputable def eg:oZ:=fun ds G Q _=>∃ (ns:List Int) (k:Int),ds=[.dq (ns.map D.int),.int k]/\0<=k/\Q (.int (ny ns k)) G
theorem tP(ds:List D)(G:Gp)(Q:DK)(h:eg ds G Q fun _ _=>False):tv (fun _ _=>False) (ends Q) (bz 2 ds) G:=by
 obtain⟨ns,k,rfl,h0,q⟩:=h;unfold tv;simp only [cK,eT,bz,ax,a8,ak,ar,aN,aR,cm,eY,bG,aE,aa,ai,ends,jc,cu,dC,cJ,lQ,aH,bh,kq,mf,bF];split
 ·rename_i h;have h1:k < (ns.map D.int).length:=by simpa using h
  rw [oY _ h0 h1];simp only [e8];rw [ag] at h1;have e:ny ns k=ns[k.toNat]:=by unfold ny; rw [aC,ah (by lia)]; rfl
  rw [<-e]; exact lL q
 ·rename_i h;have h1:¬ k < (ns.map D.int).length:=by simpa using h
  rw [ag] at h1;have e:ny ns k=0:=by unfold ny; rw [aC,kz (by lia)]; rfl
  rw [<-e]; exact lL q
noncomputable def qG:gU :=
 (cm (eY (Bv (Bu "int" (aE 0)) (JL (Bu "bool" (aE 0))))))
noncomputable def dv:oZ:=fun ds G Q _=>∃ i:Int,ds=[.int i]/\Q (.bl true) G
theorem rN(ds:List D)(G:Gp)(Q:DK)(h:dv ds G Q fun _ _=>False):qG (fun _ _=>False) (ends Q) (bz 1 ds) G:=by
 obtain⟨i,rfl,q⟩:=h;unfold qG;simp only [cm,eY,bz,ax,a8,ak,ar,aN,aR,ends,jm,km,iA,aE,aa,kg,bF];simpa using lL q
structure HR(G G':Gp)(p0:Nat)(as:List Nat)(rs:Rows):Prop where
 le:iJ G G'
 fp:G p0=none
 gp:G' p0=some (.lst (as.map D.ref))
 np:p0∉as
 nd:as.Nodup
 fr:∀ a∈as,G a=none
 len:as.length=rs.length
 at':∀ (i a:Nat) (r:List T3),as[i]?=some a->rs[i]?=some r->G' a=some (.lst (r.map enc))
theorem HR.put{G G':Gp}{p0:Nat}{as:List Nat}{rs:Rows}(h:HR G G' p0 as rs){j a:Nat}{r':List T3}(ha:as[j]?=some a):HR G (cY G' a (.lst (r'.map enc))) p0 as (rs.set j r'):=by
 have hm:a∈as:=bO ha;have hj:j < as.length:=(List.getElem?_eq_some_iff.mp ha).1;refine⟨h.le.put (h.fr a hm),h.fp,?_,h.np,h.nd,h.fr,by rw [dO]; exact h.len,fun i b r hb hr=>?_⟩
 ·rw [cQ (by rintro rfl; exact h.np hm)]; exact h.gp
 ·by_cases e:i=j
  ·subst e;rw [ha] at hb; cases hb;rw [dD (by have:=h.len; lia)] at hr;cases hr;exact aS
  ·have:b≠a:=by
    rintro rfl;have h1:=List.getElem?_eq_some_iff.mp hb;have h2:=List.getElem?_eq_some_iff.mp ha;have pw:=List.pairwise_iff_getElem.mp h.nd;rcases Nat.lt_trichotomy i j with lt | eq | gt
    ·exact pw i j h1.1 h2.1 lt (h1.2.trans h2.2.symm)
    ·exact e eq
    ·exact pw j i h2.1 h1.1 gt (h2.2.trans h1.2.symm)
   rw [cQ this];rw [eG (fun z=>e z.symm)] at hr;exact h.at' i b r hb hr
theorem HR.fz{G G':Gp}{p0:Nat}{as:List Nat}{rs:Rows}(h:HR G G' p0 as rs){Q:DK}(q:Q (enc rs) G):GZ G' (.ref p0) Q:=by
 refine Js h.le h.fp h.gp (ss:=rs.map enc) ?_ q;have:∀ (as:List Nat) (rs:Rows),as.length=rs.length->(∀ a∈as,G a=none)->(∀ (i a:Nat) (r:List T3),as[i]?=some a->rs[i]?=some r->G' a=some (.lst (r.map enc)))->GF G' (fun a=>(G a).isNone) (as.map D.ref) (rs.map enc):=by
  intro as;induction as with
  | nil=>intro rs hl _ _; cases rs with
   | nil=>exact .nil
   | cons _ _=>cases hl
  | cons a as ih =>
   intro rs hl hf BW;cases rs with
   | nil=>cases hl
   | cons r rs =>
    refine .cons (.ref (BW 0 a r rfl rfl) (by simp [hf a (by simp)]) (GF.same _)) ?_;exact ih rs (by simpa using hl) (fun b hb=>hf b (au _ hb)) fun i b s h1 h2=>BW (i+1) b s h1 h2
 exact this as rs h.len h.fr h.at'
theorem qw{x:T3}{r r':List T3}(hr:r'.Perm (x :: r)):∀ (rs:Rows) (j:Nat),rs[j]?=some r->(rs.set j r').flatten.Perm (x :: rs.flatten)
 | [],j,h=>by cases h
 | s :: rs,0,h=>by
  cases h;rw [ao,dE,dE];exact hr.append_right _
 | s :: rs,j+1,h=>by
  rw [aA,dE,dE];exact((qw hr rs j h).append_left s).trans List.perm_middle
structure MI(st:Int)(n:Nat)(name:Int)(L:List T3):Prop where
 off:∃ off:Int,0<=off/\off<=83 * n/\name=(st+off) % 999/\∀ p∈L,∃ o:Int,0 < o/\o<=off/\p.a=(st+o) % 999+1
 nd:(L.map T3.s).Nodup
 way:∀ p∈L,p.b=0\/p.b=1
 hand:∀ p∈L,p.c=1\/p.c=-1
 IA:∀ p∈L,(⟨p.a,1 - p.b,p.c⟩:T3)∈L
 len:L.length=2 * n
theorem rg{G G2:Gp}{d:D}{ds:List D}{R:List D->(Gp->Prop)->Gp->Prop}(h:IsL G d ds)(l:iJ G G2)(k:∀ ok:Gp->Prop,(∀ G',iJ G G'->ok G')->R ds ok G2):LO d G2 R:=by
 rcases h with rfl | ⟨a,rfl,e⟩
 ·exact k _ fun _ _=>trivial
 ·rw [ED (l a _ e)]; exact k _ fun G' l=>l a _ e
theorem om{r:List T3}:∀ {rs:Rows},r∈rs->r.length<=rs.flatten.length
 | a :: rs,h=>by
  rw [dE,aM];rcases List.mem_cons.mp h with rfl | h
  ·lia
  ·have:=om h; lia
theorem HB(x:T3)(r:List T3)(i:Nat):(r.take i++x :: r.drop i).Perm (x :: r):=by
 refine List.perm_middle.trans (.cons _ ?_);rw [ky]
end zx
end K2
end
section
namespace K2
open PySem (Str)
open Enc (enc)
namespace pI
open K2.P
theorem yy{α:Type} [DecidableEq α] [Enc α]{neg:Bool}{x:α}{xs:List α}{G:Gp}{Q:DK}(hd:Enc.dep α<=7)(q:Q (.bl (if neg then !decide (x∈xs) else decide (x∈xs))) G):yA neg (enc x) (.tup (xs.map enc)) G Q:=by
 refine⟨enc x,xs.map enc,Enc.sn _ _ _ (by unfold SN; lia),nX G 7 hd xs,?_⟩;rw [zr]; exact q
end pI
end K2
end
section
namespace K2
open PySem (Str)
open Enc (enc)
namespace pI
open K2.P
noncomputable def Ok(n:Int)(cs:List Int):Prop:=n<=3/\cs.length<=40/\∀ c∈cs,1<=ab c/\ab c < n
end pI
end K2
end
section
namespace K2
open PySem (Str)
open Enc (enc)
namespace pI
open K2.P
noncomputable def Good(n:Int)(cs:List Int):Prop:=(1<=n/\n<=3)/\cs.length<=12/\∀ c∈cs,1<=ab c/\ab c < n
noncomputable instance (n:Int) (cs:List Int):Decidable (Good n cs):=by unfold Good; exact inferInstance
end pI
end K2
end
section
namespace K2
open PySem (Str)
open Enc (enc)
namespace pI
open K2.P
noncomputable def eW:List T3->T3
 | []=>⟨0,0,0⟩
 | a :: r=>r.foldl (fun m x=>if bE.lt x m=true then x else m) a
theorem fX{r:List T3}(h:r≠[]):eW r∈r:=by
 cases r with
 | nil=>exact absurd rfl h
 | cons a r=>exact(iQ r a).1
theorem iX{r:List T3}{y:T3}(hy:y∈r):AS (eW r) y=true:=by
 cases r with
 | nil=>cases hy
 | cons a r=>exact(iQ r a).2 y hy
noncomputable def bN(r:List T3):List T3:=r.drop (r.idxOf (eW r))++r.take (r.idxOf (eW r))
theorem BA{x:D}{G:Gp}{r:List T3}{Q:DK}(hi:itemsOf x G=some (r.map enc))(iY:r≠[])(q:Q (enc (eW r)) G):JS [x] G Q :=
 zA.mn hi iY fun m hm hl=>by
  have:m=eW r:=vA _ _ (hl _ (fX iY)) (iX hm);rw [this]; exact q
theorem vi{x:D}{G:Gp}{r:List T3}{Q:DK}(ht:yi x G)(hi:itemsOf x G=some (r.map enc))(iY:r≠[])(q:Q (.int ((r.idxOf (eW r):Nat):Int)) G):yI x [enc (eW r)] G Q:=by
 refine⟨ht,r.map enc,enc (eW r),r.map enc,hi,Enc.sn G 8 _ (by decide),nX G 7 (by decide) r,?_⟩;have e:(r.map enc).findIdx? (fM · (enc (eW r)))=some (r.idxOf (eW r)):=by
  have hf:(fun y:T3=>fM (enc y) (enc (eW r)))=fun y=>y == eW r:=by
   funext y;rw [Enc.eqv];by_cases h:y=eW r <;> simp [h]
  rw [List.findIdx?_map];show List.findIdx? (fun y=>fM (enc y) (enc (eW r))) r=_;rw [hf];have hm:=fX iY;rw [List.idxOf];rw [List.findIdx?_eq_some_iff_findIdx_eq];exact⟨List.findIdx_lt_length.mpr ⟨_,hm,by simp⟩,rfl⟩
 rw [e]; exact q
end pI
end K2
end
section
namespace K2
open PySem (Str)
open Enc (enc)
namespace P
variable {rows:Rows}
end P
end K2
end
section
namespace K2
open PySem (Str)
open Enc (enc)
namespace K3
open K2.P K2.zx
inductive Rl (G:Gp):List D->Rows->Prop
 | nil:Rl G [] []
 | cons {x:D} {r:List T3} {xs:List D} {rs:Rows}:IsL G x (r.map enc)->Rl G xs rs->Rl G (x :: xs) (r :: rs)
noncomputable def Oj(G:Gp)(d:D)(rows:Rows):Prop:=∃ ds,IsL G d ds/\Rl G ds rows
theorem D9{G':Gp}:∀ (as:List Nat) (rs:Rows),as.length=rs.length->(∀ (i a:Nat) (r:List T3),as[i]?=some a->rs[i]?=some r->G' a=some (.lst (r.map enc)))->Rl G' (as.map D.ref) rs
 | [],[],_,_=>.nil
 | [],_ :: _,h,_=>by cases h
 | _ :: _,[],h,_=>by cases h
 | a :: as,r :: rs,h,BW=>.cons (IsL.ref (BW 0 a r rfl rfl)) (D9 as rs (by simpa using h) fun i b s h1 h2=>BW (i+1) b s h1 h2)
theorem HR.rw{G G':Gp}{p0:Nat}{as:List Nat}{rs:Rows}(h:HR G G' p0 as rs):Oj G' (.ref p0) rs:=⟨_,IsL.ref h.gp,D9 as rs h.len h.at'⟩
theorem NW{g:wj}{body:gU}{ok:Gp->Prop}{ds:List D}{rows:Rows}{E:jY}{K:kZ}{τ:fD}{G G0:Gp}(rl:Rl G0 ds rows)(I:Rows->fD->Gp->Prop)
  (h0:I [] τ G) (cz:∀ pre τ G,I pre τ G->ok G)
  (step:∀ (pre:Rows) (r:List T3) (post:Rows) (x:D) τ G (N:fD->Gp->Prop),rows=pre++r :: post->IsL G0 x (r.map enc)->I pre τ G->(∀ pE G2,I (pre++[r]) pE G2->N pE G2) ->
   g E x τ G fun mY G1=>body E { K with nx:=N,ct:=N,bk:=K.nx } mY G1)
  (fin:∀ τ G,I rows τ G->K.nx τ G):nu g body ok ds E K τ G:=by
 have main:∀ (post pre:Rows) (ds:List D) τ G,Rl G0 ds post->rows=pre++post->I pre τ G->nu g body ok ds E K τ G:=by
  intro post;induction post with
  | nil =>
   intro pre ds τ G rl e h;cases rl;rw [cW] at e;subst e;exact⟨cz _ _ _ h,fin _ _ h⟩
  | cons r post ih =>
   intro pre ds τ G rl e h;cases rl with
   | cons hx rl =>
    refine⟨cz _ _ _ h,?_⟩;exact step pre r post _ τ G _ e hx h fun pE G2 h2=>ih (pre++[r]) _ pE G2 rl (by rw [e,eM]; rfl) h2
 exact main rows [] ds τ G rl rfl h0
noncomputable def used(u:List Int)(n:Int):List Int:=if n∈u then u else u++[n]
noncomputable def tX(u:List Int)(ns:List Int):List Int:=ns.foldl used u
theorem Hs(u:List Int)(n:Int):(used u n).length<=u.length+1:=by unfold used; split <;> simp
theorem rB:∀ (ns u:List Int),(tX u ns).length<=u.length+ns.length
 | [],u=>by simp [tX]
 | n :: ns,u=>by
  have:=rB ns (used u n);have h2:=Hs u n;show (tX (used u n) ns).length<=_;rw [ak]; lia
theorem ER(u a b:List Int):tX u (a++b)=tX (tX u a) b:=by unfold tX; rw [List.foldl_append]
theorem EO:∀ (ns u:List Int) (x:Int),x∈tX u ns↔x∈u\/x∈ns
 | [],u,x=>by simp [tX]
 | n :: ns,u,x=>by
  show x∈tX (used u n) ns↔_;rw [EO ns];unfold used;split
  ·rename_i hn;constructor
   ·rintro(h | h)
    ·exact .inl h
    ·exact .inr (au _ h)
   ·rintro(h | h)
    ·exact .inl h
    ·rcases List.mem_cons.mp h with rfl | h
     ·exact .inl hn
     ·exact .inr h
  ·rw [BQ,jr,pD,or_assoc]
noncomputable def kd(rows:Rows):List Int:=HK (tX [] (rows.flatten.map (·.a)))
theorem Ea{α:Type} [DecidableEq α] [Enc α]{neg:Bool}{x:α}{xs:List α}{a:Nat}{G:Gp}{Q:DK}(hd:Enc.dep α<=7)(h:G a=some (.lst (xs.map enc)))(q:Q (.bl (if neg then !decide (x∈xs) else decide (x∈xs))) G):yA neg (enc x) (.ref a) G Q:=by
 unfold yA;simp only [h];refine⟨_,_,Enc.sn G 8 x (by lia),nX G 7 hd xs,?_⟩;rw [zr]; exact q
theorem NA{c:tM}{a b:gU}{E:jY}{K:kZ}{τ:fD}{G:Gp}:eT c a b E K τ G=c E τ G fun k G1=>if k=true then a E K τ G1 else b E K τ G1:=rfl
noncomputable def dS:oZ:=fun ds G Q _=>∃ (d:D) (rows:Rows),ds=[d]/\Oj G d rows/\rows.flatten.length < 64/\Q (enc (kd rows)) G
noncomputable def qI:gU :=
 (cK (c9 (kn bh) (a6 1))
 (cK (jz (mD (aE 0)) (a6 2) (jz (mD (aE 2)) (a6 3) (eT (fP (bG (yA true) (bG qM (aE 3) (dC (.int 0))) (aE 1))) (ft (oT yi my (aE 1) (aH (bG qM (aE 3) (dC (.int 0))) bh))) cu)))
 (cm (eY (lQ ux (aH (aE 1) bh))))))
theorem rP(ds:List D)(G:Gp)(Q:DK)(h:dS ds G Q fun _ _=>False):qI (fun _ _=>False) (ends Q) (bz 4 ds) G:=by
 obtain⟨d,rows,rfl,⟨ds,hd,rl⟩,hl,q⟩:=h;unfold qI;simp only [ends,bz,ax,a8,ak,ar,aU,aN,aR,eI,c9,kn,bh,a6,aA,ao];refine⟨by decide,fun p hp=>?_⟩;refine fb (fun τ G'=>(∃ a b,τ=[some d,some (.ref p),a,b])/\iJ G G'/\G' p=some (.lst ((tX [] (rows.flatten.map (·.a))).map enc))) ?_ ?_
 ·intro N hN;simp only [jz,dh,aE,aa];refine rg hd (iJ.new hp) fun ok cz=>?_;refine NW rl (fun pre τ G'=>(∃ a b,τ=[some d,some (.ref p),a,b])/\iJ G G'/\G' p=some (.lst ((tX [] (pre.flatten.map (·.a))).map enc))) ⟨⟨_,_,rfl⟩,.new hp,aS⟩ (fun _ _ _ h=>cz _ h.2.1) ?_ ?_
  ·rintro pre r post x τ G' N2 e hx ⟨⟨a,b,rfl⟩,l,gp⟩ we;have hlen:pre.flatten.length+r.length<=rows.flatten.length:=by
    rw [e]; simp only [List.flatten_append,dE,aM]; lia
   simp only [a6,jz,aA,ao,dh,aE,ai,aa];refine rg hx l fun Sb NH=>?_;refine mH (xs:=r) (fun pp τ G'=>(∃ a b,τ=[some d,some (.ref p),a,b])/\iJ G G'/\G' p=some (.lst ((tX (tX [] (pre.flatten.map (·.a))) (pp.map (·.a))).map enc))) ⟨⟨_,_,rfl⟩,l,gp⟩ (fun _ _ _ h=>NH _ h.2.1) ?_ ?_
   ·rintro pp t pt τ G4 N3 e4 ⟨⟨a,b,rfl⟩,l4,Qb⟩ OD;have YJ:pp.length < r.length:=by have:=congrArg gM e4; simp at this; lia
    have hz:=rB (pp.map (·.a)) (tX [] (pre.flatten.map (·.a)));have UE:=rB (pre.flatten.map (·.a)) [];rw [ag] at hz UE;rw [ar] at UE;simp only [a6,vR,aA,ao,NA,ft,oT,aE,ai,aa,gi,aH,bG,dC,bh,ez,fB,Vb,cu,cJ];refine Ea (x:=t.a) (xs:=tX (tX [] (pre.flatten.map (·.a))) (pp.map (·.a))) (by decide) Qb ?_;simp only [if_true,bF];have eu:tX (tX [] (pre.flatten.map (·.a))) ((pp++[t]).map (·.a))=used (tX (tX [] (pre.flatten.map (·.a))) (pp.map (·.a))) t.a:=by
     rw [cV,ER]; rfl
    by_cases hm:t.a∈tX (tX [] (pre.flatten.map (·.a))) (pp.map (·.a))
    ·simp only [hm,decide_true,bq,av,if_false];refine OD _ _ ⟨⟨_,_,rfl⟩,l4,?_⟩;rw [eu]; unfold used; rw [if_pos hm]; exact Qb
    ·simp only [hm,decide_false,cj,if_true,Qb];refine⟨trivial,KW (by rw [ag]; lia),OD _ _ ⟨⟨_,_,rfl⟩,l4.put hp,?_⟩⟩;rw [aS,eu]; unfold used; rw [if_neg hm,cV]; rfl
   ·rintro τ G4 ⟨⟨a,b,rfl⟩,l4,Qb⟩;refine we _ _ ⟨⟨_,_,rfl⟩,l4,?_⟩;have:(pre++[r]).flatten.map (·.a)=pre.flatten.map (·.a)++r.map (·.a):=by simp
    rw [this,ER]; exact Qb
  ·rintro τ G' ⟨⟨a,b,rfl⟩,l,gp⟩;exact hN _ _ ⟨⟨_,_,rfl⟩,l,gp⟩
 ·rintro _ G' ⟨⟨a,b,rfl⟩,l,gp⟩;simp only [cm,eY,lQ,aH,aE,ai,aa,bh];have hz:=rB (rows.flatten.map (·.a)) [];rw [ag,ar] at hz;refine Dv (IsL.ref gp) (by lia) fun p2 GW=>?_;exact mF (l.trans (.new GW)) (l.free GW) aS q
end K3
end K2
end
section
namespace K2
open PySem (Str)
open Enc (enc)
namespace K3
open K2.P K2.zx
noncomputable def Q3(n:Int):Int:=n % 999+1
noncomputable def fit(n:Int):Nat->Int
 | 0=>n
 | k+1=>Q3 (fit n k)
theorem sC{n:Int}(h1:1<=n)(h2:n<=999):∀ k:Nat,fit n k=(n - 1+k) % 999+1
 | 0=>by show n=_; lia
 | k+1=>by
  show Q3 (fit n k)=_;rw [sC h1 h2 k];unfold Q3;lia
theorem pH:∀ (xs ys:List Int),xs.Nodup->(∀ x∈xs,x∈ys)->xs.length<=ys.length
 | [],_,_,_=>bR _
 | x :: xs,ys,hn,h=>by
  rw [lT] at hn;have:=pH xs (ys.erase x) hn.2 fun y hy=>(List.mem_erase_of_ne (show y≠x from fun z=>hn.1 (by rw [<-z]; exact hy))).mpr (h y (au _ hy));have hx:=h x (by simp);rw [List.length_erase_of_mem hx] at this;have:=List.length_pos_of_mem hx;rw [ak]; lia
theorem A9{n:Int}{ns:List Int}(h1:1<=n)(h2:n<=999)(hl:ns.length<=500):∃ k,k<=ns.length/\fit n k∉ns:=by
 apply cw;intro Ko;have CW:∀ k,k<=ns.length->fit n k∈ns:=fun k hk=>cw fun z=>Ko ⟨k,hk,z⟩;have nd:((bW (ns.length+1)).map fun k=>fit n k).Nodup:=by
  refine List.pairwise_iff_getElem.mpr fun i j hi hj EI=>?_;simp only [ag,fF] at hi hj;rw [e8,e8,nC,nC,sC h1 h2,sC h1 h2];lia
 have:=pH _ ns nd fun x hx=>by
  obtain⟨k,hk,rfl⟩:=List.mem_map.mp hx;exact CW k (by have:=List.mem_range.mp hk; lia)
 simp at this;lia
theorem vo(rows:Rows):(kd rows).length<=rows.flatten.length:=by
 unfold kd;rw [K7];have:=rB (rows.flatten.map (·.a)) [];rw [ag,ar] at this;lia
theorem vn{rows:Rows}{n:Int}:n∈kd rows↔n∈rows.flatten.map (·.a):=by
 unfold kd;rw [(qv _).mem_iff,EO];simp
noncomputable def g8:oZ:=fun ds G Q _=>∃ (d:D) (rows:Rows) (c:Int),ds=[d,.int c]/\Oj G d rows/\rows.flatten.length < 64/\∀ m:Int,m∉rows.flatten.map (·.a)->1<=m->m<=999->Q (.int m) G
noncomputable def tm:gU :=
 (cK (c9 (bG o8 (dC (.int 1)) (bG qL (bG qL (bG Fy (aE 1) (dC (.int 48271))) (dC (.int 1000003))) (dC (.int 999)))) (a6 2))
 (cK (JK (fP (bG (yA false) (aE 2) (bT dS (aH (aE 0) bh)))) (c9 (bG o8 (bG qL (aE 2) (dC (.int 999))) (dC (.int 1))) (a6 2)))
 (cm (eY (aE 2)))))
theorem tO(ds:List D)(G:Gp)(Q:DK)(h:g8 ds G Q fun _ _=>False):tm (fun _ _=>False) (ends Q) (bz 3 ds) G:=by
 obtain⟨d,rows,c,rfl,hd,hl,q⟩:=h;unfold tm;simp only [ends,bz,ax,a8,ak,ar,aU,aN,aR,eI,c9,bG,dC,aE,ai,aa,a6,aA,ao,jb,eF,fe];refine⟨.inr ⟨by decide,by decide⟩,by decide,by decide,?_⟩;have b1:1<=1+c * 48271 % 1000003 % 999:=by lia
 have b2:1+c * 48271 % 1000003 % 999<=999:=by lia
 generalize 1+c * 48271 % 1000003 % 999=n at *;have NJ:=vo rows;refine fb (fun τ G'=>G=G'/\∃ m:Int,(m∉kd rows/\1<=m/\m<=999)/\τ=[some d,some (.int c),some (.int m)]) ?_ ?_
 ·intro N hN;obtain⟨k,hk,nj⟩:=A9 (ns:=kd rows) b1 b2 (by lia);have main:∀ (j:Nat),j<=k->zU (fP (bG (yA false) (aE 2) (bT dS (aH (aE 0) bh)))) (c9 (bG o8 (bG qL (aE 2) (dC (.int 999))) (dC (.int 1))) (a6 2)) (j+1) (fun _ _=>False) { ends Q with nx:=N } [some d,some (.int c),some (.int (fit n (k - j)))] G:=by
   intro j;induction j with
   | zero =>
    intro _;show zU _ _ (0+1) _ _ _ _;rw [zU];simp only [c9,bG,aE,ai,aa,dC,a6,ends,aA,ao,eF,fe,cJ,bT,aH,bh];refine⟨d,rows,rfl,hd,hl,?_⟩;refine Eb (x:=fit n (k - 0)) (by decide) ?_;simp only [av,Nat.sub_zero,nj,decide_false,cj,if_false,bF];have:=sC b1 b2 k;exact hN _ _ ⟨rfl,_,⟨nj,by lia,by lia⟩,rfl⟩
   | succ j ih =>
    intro hj;rw [zU];simp only [c9,bG,aE,ai,aa,dC,a6,ends,aA,ao,eF,fe,cJ,bT,aH,bh];refine⟨d,rows,rfl,hd,hl,?_⟩;refine Eb (x:=fit n (k - (j+1))) (by decide) ?_;have hb:=sC b1 b2 (k - (j+1));by_cases hm:fit n (k - (j+1))∈kd rows
    ·simp only [av,hm,decide_true,bq,if_false,bF,if_true];refine⟨by decide,?_⟩;have e:fit n (k - (j+1)) % 999+1=fit n (k - j):=by
      rw [show k - j=(k - (j+1))+1 by lia]; rfl
     rw [e];exact ih (by lia)
    ·simp only [av,hm,decide_false,cj,if_false,bF];exact hN _ _ ⟨rfl,_,⟨hm,by lia,by lia⟩,rfl⟩
  have:=main k (ay _);rw [nI] at this;exact⟨k+1,this⟩
 ·rintro _ _ ⟨rfl,m,⟨m1,m2,m3⟩,rfl⟩;simp only [cm,eY,aE,ai,aa];exact lL (q m (fun z=>m1 (vn.mpr z)) m2 m3)
noncomputable def ins(r:List T3)(k:Nat)(p:T3):List T3:=r.take k++p :: r.drop k
theorem vG(r:List T3)(k:Nat)(p:T3):(ins r k p).Perm (p :: r):=HB p r k
theorem yO(r:List T3)(k:Nat)(p:T3):(r.map enc).take k++enc p :: (r.map enc).drop k=(ins r k p).map (enc:T3->D):=by
 unfold ins; rw [cV,ax,List.map_take,List.map_drop]
structure DF(L:List T3):Prop where
 nd:(L.map T3.s).Nodup
 way:∀ p∈L,p.b=0\/p.b=1
 hand:∀ p∈L,p.c=1\/p.c=-1
 IA:∀ p∈L,(⟨p.a,1 - p.b,p.c⟩:T3)∈L
theorem DF.perm{L L':List T3}(h:DF L)(p:L'.Perm L):DF L' :=
 ⟨(p.map _).nodup_iff.mpr h.nd,fun x hx=>h.way x (p.mem_iff.mp hx),fun x hx=>h.hand x (p.mem_iff.mp hx),fun x hx=>p.mem_iff.mpr (h.IA x (p.mem_iff.mp hx))⟩
theorem DF.add{L:List T3}(h:DF L){m hd:Int}(hm:m∉L.map (·.a))(hh:hd=1\/hd=-1):DF (⟨m,1,hd⟩ :: ⟨m,0,hd⟩ :: L):=by
 have no:∀ w,(⟨m,w⟩:T2)∉L.map T3.s:=fun w z=>by
  obtain⟨p,hp,e⟩:=List.mem_map.mp z;exact hm (List.mem_map.mpr ⟨p,hp,by have:=congrArg T2.a e; exact this⟩)
 refine⟨?_,?_,?_,?_⟩
 ·rw [ax,ax,lT,lT];refine⟨fun z=>?_,no 0,h.nd⟩;rcases List.mem_cons.mp z with e | z
  ·have:=congrArg T2.b e;exact absurd (show (1:Int)=0 from this) (by decide)
  ·exact no 1 z
 ·intro p hp;rcases List.mem_cons.mp hp with rfl | hp
  ·exact .inr rfl
  ·rcases List.mem_cons.mp hp with rfl | hp
   ·exact .inl rfl
   ·exact h.way p hp
 ·intro p hp;rcases List.mem_cons.mp hp with rfl | hp
  ·exact hh
  ·rcases List.mem_cons.mp hp with rfl | hp
   ·exact hh
   ·exact h.hand p hp
 ·intro p hp;rcases List.mem_cons.mp hp with rfl | hp
  ·exact au _ a7
  ·rcases List.mem_cons.mp hp with rfl | hp
   ·exact a7
   ·exact au _ (au _ (h.IA p hp))
theorem HR.at_{G G':Gp}{p0:Nat}{as:List Nat}{rs:Rows}(h:HR G G' p0 as rs){j:Int}(j1:0<=j)(j2:j < rs.length):∃ a r,as[j.toNat]?=some a/\rs[j.toNat]?=some r/\G' a=some (.lst (r.map enc))/\nK (as.map D.ref) j=some (.ref a):=by
 have hj:j.toNat < as.length:=by have:=h.len; lia
 refine⟨as[j.toNat],rs[j.toNat]'(by lia),ah hj,ah _,h.at' _ _ _ (ah hj) (ah _),?_⟩;rw [oY _ j1 (by rw [ag]; have:=h.len; lia),e8]
end K3
end K2
end
section
namespace K2
open PySem (Str)
open Enc (enc)
namespace wm
open K2.P
open K2.pI (bN eW)
noncomputable abbrev Cs:=List Rows
noncomputable def Ye(a:Rows)(x:List T3):Rows:=a++[x]
noncomputable def VS(m:List (List T3))(a:Rows):Cs:=m.map (Ye a)
noncomputable def pick(ls:List (List (List T3))):Cs:=ls.foldl (fun acc m=>acc.flatMap (VS m)) [[]]
end wm
end K2
end
section
namespace K2
open PySem (Str)
open Enc (enc)
namespace wm
open K2.P
open K2.pI (bN eW)
noncomputable abbrev M:=List (Int×Int)
noncomputable def Ui(m:M)(t:T3):T3:=⟨(nG m t.a).getD 0,t.b,t.c⟩
noncomputable def RR(m:M)(r:List T3):List T3:=r.map (Ui m)
noncomputable def HV(r:List T3)(k:Nat):List T3:=r.drop k++r.take k
noncomputable def Qt(r:List T3):List (List T3):=(bW (max 1 r.length)).map (HV r)
theorem MV{r:List T3}{k:Nat}{G:Gp}{Q:DK}{d:D}(hd:IsL G d (r.map enc))(hk:k<=r.length)(hl:r.length<=1000)(q:Q (enc (HV r k)) G) :
  HZ d (some (k:Int)) none G fun x G1=>HZ d none (some (k:Int)) G1 fun y G2=>o8 x y G2 fun z G3=>GZ G3 z Q:=by
 refine yv hd ?_;rw [rC,Bx r k hk];intro p hp;refine yv (hd.mono (.new hp)) ?_;rw [rC,JO r k hk];intro p2 GW;have Jh:p≠p2:=fun z=>by rw [<-z,aS] at GW; cases GW
 have g1:cY (cY G p (.lst ((r.drop k).map enc))) p2 (.lst ((r.take k).map enc)) p=some (.lst ((r.drop k).map enc)):=by rw [cQ Jh,aS]
 have gl:iJ G (cY (cY G p (.lst ((r.drop k).map enc))) p2 (.lst ((r.take k).map enc))):=(iJ.new hp).trans (.new GW);show zt _ _ _ _;unfold zt;rw [oh (IsL.ref (ds:=(r.drop k).map enc) g1),oh (IsL.ref (ds:=(r.take k).map enc) aS)];refine⟨Fm (by simp; lia),fun p3 Je=>?_⟩;refine mF (xs:=HV r k) (gl.trans (.new Je)) (gl.free Je) ?_ q;rw [aS];unfold HV;rw [cV]
noncomputable def SA(m:M)(n:Int):M:=if (nG m n).isSome=true then m else GB m n ((m.length:Int)+1)
noncomputable def met(L:List T3):M:=L.foldl (fun m t=>SA m t.a) []
end wm
end K2
end
section
namespace K2
open PySem (Str)
open Enc (enc)
namespace wm
open K2.P
open K2.pI (bN eW fX iX)
structure Gd(m:M):Prop where
 nd:(m.map (·.1)).Nodup
 vs:m.map (·.2)=(bW m.length).map fun i:Nat=>(i:Int)+1
theorem K8{r a b:List T3}{x:T3}(hx:x=eW r)(e:r=a++x :: b)(hn:x∉a):bN r=x :: b++a:=by
 have hi:r.idxOf (eW r)=a.length:=by
  rw [<-hx,e,List.idxOf_append,if_neg hn,KG]; simp
 unfold bN;rw [hi,e,List.drop_left,List.take_left]
inductive Ro:Rows->Rows->Prop
 | nil:Ro [] []
 | cons {r x:List T3} {rs xs:Rows}:(∃ k,k<=r.length/\x=HV r k)->Ro rs xs->Ro (r :: rs) (x :: xs)
noncomputable def Q8(rows:Rows):Cs:=pick (rows.map Qt)
noncomputable def sm(rows:Rows):Rows:=(rows.map (RR (met rows.flatten))).map bN
noncomputable def bi(rows:Rows):Nat:=TN (fun i j=>bE.lt (sm ((Q8 rows).getD i [])) (sm ((Q8 rows).getD j []))) ((Q8 rows).length - 1)
end wm
end K2
end
section
namespace K2
open PySem (Str)
open Enc (enc)
namespace wm
open K2.P
open K2.pI (bN eW fX iX)
noncomputable def tp(c:Rows):D:=.tup [enc (sm c),.p8 (eR (met c.flatten))]
structure Sz(rows:Rows):Prop where
 n:rows.length<=3
 f:rows.flatten.length<=24
theorem Sz.row{rows:Rows}(h:Sz rows){r:List T3}(hr:r∈rows):r.length<=24:=bf (zx.om hr) h.f
end wm
end K2
end
section
namespace K2
open PySem (Str)
open Enc (enc)
namespace zx
open K2.P
variable {rows:Rows}
end zx
end K2
end
section
namespace K2
open PySem (Str)
open Enc (enc)
namespace zx
open K2.P
variable {rows:Rows}
noncomputable def z3:T3:=⟨0,0,0⟩
theorem J7{r:List T3}{k:Nat}(h:k < r.length):nK (r.map (enc:T3->D)) (0+(k:Int))=some (enc (r.getD k z3)):=by
 rw [oY _ (by lia) (by rw [ag]; lia),e8];congr 2;rw [aC,ah h];show r[(0+(k:Int)).toNat]=r[k];congr 1; lia
end zx
end K2
end
section
namespace K2
open PySem (Str)
open Enc (enc)
namespace wm
open K2.P
open K2.pI (bN eW fX iX)
open K2.zx (dv eg z3 J7)
noncomputable def LK(x y:T3):Bool:=lexLt [x.a,x.b] [y.a,y.b]
theorem qT{x y:T3}:LK x y=true↔x.a < y.a\/(x.a=y.a/\x.b < y.b):=by
 unfold LK;simp only [lexLt];by_cases h:x.a=y.a
 ·rw [if_pos h];by_cases h2:x.b=y.b
  ·rw [if_pos h2]; simp; lia
  ·rw [if_neg h2]; simp; lia
 ·rw [if_neg h]; simp; lia
theorem LJ{x y:T3}:bE.lt x y=true↔x.a < y.a\/(x.a=y.a/\(x.b < y.b\/(x.b=y.b/\x.c < y.c))):=by
 show o9 (fun a b:Int=>decide (a < b)) [x.a,x.b,x.c] [y.a,y.b,y.c]=true↔_;simp only [o9];by_cases h:x.a=y.a
 ·by_cases h2:x.b=y.b
  ·by_cases h3:x.c=y.c
   ·simp [h,h2,h3]
   ·simp [h,h2,h3]
  ·simp [h,h2]
 ·simp [h]
theorem Qu{r:List T3}{k:Nat}(h:k < r.length):nK (r.map (enc:T3->D)) (k:Int)=some (enc (r.getD k z3)):=by
 have:=J7 h;rw [Int.zero_add] at this; exact this
theorem getD_mem{r:List T3}{k:Nat}(h:k < r.length):r.getD k z3∈r:=by
 rw [aC,ah h]; exact bD h
theorem Ft{r:List T3}(nd:(r.map T3.s).Nodup){b:Nat}(hb:b < r.length)(h:∀ k,k < r.length->LK (r.getD k z3) (r.getD b z3)=false):HV r b=bN r:=by
 have iY:r≠[]:=fun z=>by rw [z] at hb; exact absurd hb (bY _)
 have hx:r.getD b z3=eW r:=by
  refine vA _ _ ?_ (iX (getD_mem hb));unfold AS;cases hz:bE.lt (eW r) (r.getD b z3) with
  | false=>rfl
  | true =>
   exfalso;obtain⟨j,hj,ej⟩:=cN (fX iY);have h1:=h j hj;have e1:r.getD j z3=eW r:=by rw [aC,ah hj]; exact ej
   rw [e1] at h1;have h2:=LJ.mp hz;have h3:¬ ((eW r).a < (r.getD b z3).a\/((eW r).a=(r.getD b z3).a/\(eW r).b < (r.getD b z3).b)):=fun z=>by rw [qT.mpr z] at h1; cases h1
   have es:(eW r).s=(r.getD b z3).s:=by
    unfold T3.s;have h4:(eW r).a=(r.getD b z3).a:=by lia
    have h5:(eW r).b=(r.getD b z3).b:=by lia
    rw [h4,h5]
   have Xy:j=b:=by
    by_cases UU:j=b
    ·exact UU
    ·exfalso;have pw:=List.pairwise_iff_getElem.mp nd;have g:∀ k (hk:k < r.length),(r.map T3.s)[k]'(by rw [ag]; exact hk)=(r.getD k z3).s:=fun k hk=>by
      rw [e8,aC,ah hk]; rfl
     rcases Nat.lt_or_gt_of_ne UU with q | q
     ·refine pw j b (by rw [ag]; exact hj) (by rw [ag]; exact hb) q ?_;rw [g j hj,g b hb,e1]; exact es
     ·refine pw b j (by rw [ag]; exact hb) (by rw [ag]; exact hj) q ?_;rw [g j hj,g b hb,e1]; exact es.symm
   subst Xy;rw [e1,bE.Km] at hz;cases hz
 have Ss:r.Nodup:=by
  refine List.Pairwise.imp ?_ (List.pairwise_map.mp nd);intro a b h e;exact h (congrArg _ e)
 have e:r=r.take b++r.getD b z3 :: r.drop (b+1):=by
  conv=>lhs; rw [<-ky b r]
  rw [cA hb,aC,ah hb]; rfl
 have hn:r.getD b z3∉r.take b:=fun z=>by
  have UM:=Ss;rw [e,oF] at UM;exact UM.2.2 _ z _ a7 rfl
 rw [K8 hx e hn];unfold HV;rw [cA hb];congr 1;rw [aC,ah hb]; rfl
noncomputable def sZ:gU :=
 (cK (c9 (dC (.int 0)) (a6 1))
 (cK (jz (EC (lQ pz (aH (aE 0) bh))) (a6 2) (eT (fP (bG QJ (wg (bG qM (aE 0) (aE 2)) cR (jE (dC (.int 2)))) (wg (bG qM (aE 0) (aE 1)) cR (jE (dC (.int 2)))))) (c9 (aE 2) (a6 1)) cu))
 (cm (eY (bG o8 (wg (aE 0) (jE (aE 1)) cR) (wg (aE 0) cR (jE (aE 1))))))))
noncomputable def i9:oZ:=fun ds G Q _=>∃ r:List T3,ds=[enc r]/\(r.length<=1000/\(r.map T3.s).Nodup)/\Q (enc (bN r)) G
theorem tN(ds:List D)(G:Gp)(Q:DK)(h:i9 ds G Q fun _ _=>False):sZ (fun _ _=>False) (ends Q) (bz 3 ds) G:=by
 obtain⟨r,rfl,⟨hl,nd⟩,q⟩:=h;unfold sZ;simp only [ends,bz,ax,a8,ak,ar,aU,aN,aR,eI,c9,dC,a6,aA,ao];refine fb (fun τ G'=>G=G'/\∃ (b:Nat) (x:Option D),τ=[some (enc r),some (.int b),x]/\b<=r.length/\HV r b=bN r) ?_ ?_
 ·intro N hN;simp only [jz,jg,lQ,aH,aE,aa,bh];refine mS (IsL.enc r) ?_;simp only [ag,hV];refine⟨by lia,by lia,?_⟩;unfold jy;refine mH (xs:=bW (r.length:Int).toNat) (f:=fun i:Nat=>D.int (0+(i:Int))) (fun ks τ G'=>G=G'/\∃ (b:Nat) (x:Option D),τ=[some (enc r),some (.int b),x]/\(b < r.length\/(r=[]/\b=0))/\∀ k∈ks,LK (r.getD k z3) (r.getD b z3)=false) ⟨rfl,0,_,rfl,by cases r <;> simp,by simp⟩ (fun _ _ _ _=>trivial) ?_ ?_
  ·rintro ks k post τ G' N2 e ⟨rfl,b,x,rfl,hb,QT⟩ we;have hk:k < r.length:=by
    have:k∈bW (r.length:Int).toNat:=by rw [e]; simp
    have:=List.mem_range.mp this; lia
   have hb:b < r.length:=hb.resolve_right fun z=>by rw [z.1] at hk; exact absurd hk (bY _)
   simp only [a6,eT,Int.zero_add,aA,ao,c9,aE,ai,aa,cu,cJ,bG,wg,cR,eS,dC,dn];refine yx (IsL.enc r) (Qu hk) ?_;simp only [vR,iW,ak,ar,N5];refine⟨by decide,?_⟩;refine yx (IsL.enc r) (Qu hb) ?_;simp only [vR,iW,ak,ar,N5];refine⟨by decide,?_⟩;refine⟨[(r.getD k z3).a,(r.getD k z3).b],[(r.getD b z3).a,(r.getD b z3).b],rfl,rfl,?_⟩;simp only [bF];show if LK (r.getD k z3) (r.getD b z3)=true then _ else _
   cases hc:LK (r.getD k z3) (r.getD b z3) with
   | true =>
    simp only [if_true];refine we _ _ ⟨rfl,k,_,rfl,.inl hk,fun j hj=>?_⟩;rcases List.mem_append.mp hj with hj | hj
    ·cases hz:LK (r.getD j z3) (r.getD k z3) with
     | false=>rfl
     | true =>
      have h1:=qT.mp hz;have h2:=qT.mp hc;have h3:LK (r.getD j z3) (r.getD b z3)=true:=qT.mpr (by lia);rw [QT j hj] at h3; cases h3
    ·obtain rfl:=List.mem_singleton.mp hj;cases hz:LK (r.getD j z3) (r.getD j z3) with
     | false=>rfl
     | true=>have:=qT.mp hz; lia
   | false =>
    simp only [av,if_false];refine we _ _ ⟨rfl,b,_,rfl,.inl hb,fun j hj=>?_⟩;rcases List.mem_append.mp hj with hj | hj
    ·exact QT j hj
    ·obtain rfl:=List.mem_singleton.mp hj;exact hc
  ·rintro τ G' ⟨rfl,b,x,rfl,hb,QT⟩;refine hN _ _ ⟨rfl,b,x,rfl,?_⟩;rcases hb with hb | ⟨rfl,rfl⟩
   ·exact⟨by lia,Ft nd hb fun k hk=>QT k (List.mem_range.mpr (by lia))⟩
   ·exact⟨ay _,rfl⟩
 ·rintro _ _ ⟨rfl,b,x,rfl,hb,e⟩;simp only [cm,eY,bG,wg,aE,aa,cR,eS,ai,dn];refine MV (IsL.enc r) hb hl ?_;rw [e]; exact q
noncomputable def qH:gU :=
 (cm (eY (eA 1 [] (mD (aE 0)) (a6 0) none (bT i9 (aH (aE 0) bh)))))
noncomputable def gk:oZ:=fun ds G Q _=>∃ rows:Rows,ds=[enc rows]/\(rows.length<=1000/\∀ r∈rows,r.length<=1000/\(r.map T3.s).Nodup)/\Q (enc (rows.map bN)) G
theorem rO(ds:List D)(G:Gp)(Q:DK)(h:gk ds G Q fun _ _=>False):qH (fun _ _=>False) (ends Q) (bz 1 ds) G:=by
 obtain⟨rows,rfl,⟨hl,hr⟩,q⟩:=h;unfold qH;simp only [cm,eY,eA,bz,ax,a8,ak,ar,aN,aR,ends,dh,aE,aa];refine kS ⟨Fm (by rw [ag]; exact hl),?_⟩;refine iB (xs:=rows) (fun pre acc τ G'=>G=G'/\acc=(pre.map bN).map enc/\∃ x,τ=[x]) ⟨rfl,rfl,_,rfl⟩ (fun _ _ _ _ _=>trivial) ?_ ?_
 ·rintro pre r post acc τ G' N e ⟨rfl,rfl,x,rfl⟩ hN;simp only [a6,bT,aH,aE,ao,aa,bh];refine⟨r,rfl,hr r (by rw [e]; simp),hN _ _ _ ⟨rfl,by simp,_,rfl⟩⟩
 ·rintro acc τ G' ⟨rfl,rfl,x,rfl⟩ p hp;exact mF (xs:=rows.map bN) (.new hp) hp aS q
end wm
end K2
end
section
namespace K2
open PySem (Str)
open Enc (enc)
namespace wm
open K2.P
open K2.pI (bN eW fX iX)
open K2.zx (dv eg z3 ny HR HR.fz)
open K2.K3 (DF)
theorem Le{r:List T3}{k:Nat}{G:Gp}{Q:DK}{d:D}(hd:IsL G d (r.map enc))(hk:k<=r.length)(hl:r.length<=1000)(q:∀ p G1,iJ G G1->G p=none->G1 p=some (.lst ((HV r k).map enc))->Q (.ref p) G1) :
  HZ d (some (k:Int)) none G fun x G1=>HZ d none (some (k:Int)) G1 fun y G2=>o8 x y G2 Q:=by
 refine yv hd ?_;rw [rC,Bx r k hk];intro p hp;refine yv (hd.mono (.new hp)) ?_;rw [rC,JO r k hk];intro p2 GW;have Jh:p≠p2:=fun z=>by rw [<-z,aS] at GW; cases GW
 have g1:cY (cY G p (.lst ((r.drop k).map enc))) p2 (.lst ((r.take k).map enc)) p=some (.lst ((r.drop k).map enc)):=by rw [cQ Jh,aS]
 have gl:iJ G (cY (cY G p (.lst ((r.drop k).map enc))) p2 (.lst ((r.take k).map enc))):=(iJ.new hp).trans (.new GW);show zt _ _ _ _;unfold zt;rw [oh (IsL.ref (ds:=(r.drop k).map enc) g1),oh (IsL.ref (ds:=(r.take k).map enc) aS)];refine⟨Fm (by simp; lia),fun p3 Je=>?_⟩;refine q _ _ (gl.trans (.new Je)) (gl.free Je) ?_;rw [aS];unfold HV;rw [cV]
end wm
end K2
end
section
namespace K2
open PySem (Str)
open Enc (enc)
namespace wm
open K2.P
open K2.pI (bN eW fX iX)
open K2.zx (dv eg z3 ny HR HR.fz)
open K2.K3 (DF kd dS)
theorem Jo{G G1:Gp}{p:Nat}{o:GO}(l:iJ G G1):iJ (cY G p o) (cY G1 p o):=fun a ob e=>by
 by_cases ha:a=p
 ·subst ha; rw [aS] at e ⊢; exact e
 ·rw [cQ ha] at e ⊢; exact l a ob e
theorem EF{G G1:Gp}{p0 p1:Nat}{as:List Nat}{rs:Rows}{o:GO}(h:HR G G1 p0 as rs)(f:G1 p1=none):HR (cY G p1 o) (cY G1 p1 o) p0 as rs:=by
 have n0:p0≠p1:=by rintro rfl; rw [h.gp] at f; cases f
 have na:∀ a∈as,a≠p1:=fun a ha=>by
  rintro rfl;obtain⟨i,hi⟩:=sR ha;have h1:i < rs.length:=by rw [<-h.len]; exact(List.getElem?_eq_some_iff.mp hi).1
  rw [h.at' i a rs[i] hi (ah h1)] at f; cases f
 exact⟨Jo h.le,by rw [cQ n0]; exact h.fp,by rw [cQ n0]; exact h.gp,h.np,h.nd,fun a ha=>by rw [cQ (na a ha)]; exact h.fr a ha,h.len,fun i a r h1 h2=>by
  rw [cQ (na a (bO h1))]; exact h.at' i a r h1 h2⟩
theorem EG{G B G1:Gp}{p0:Nat}{as:List Nat}{rs:Rows}(l:iJ G B)(h:HR B G1 p0 as rs):HR G G1 p0 as rs :=
 ⟨l.trans h.le,l.free h.fp,h.gp,h.np,h.nd,fun a ha=>l.free (h.fr a ha),h.len,h.at'⟩
theorem JH(n:Nat):DF (aU n ([]:List T3)).flatten:=by
 have:(aU n ([]:List T3)).flatten=[]:=by simp
 rw [this];exact⟨fk,(fun p h=>by cases h),(fun p h=>by cases h),(fun p h=>by cases h)⟩
end wm
end K2
end
section
namespace K2
open PySem (Str)
open Enc (enc)
namespace wm
open K2.P
open K2.pI (bN eW fX iX)
open K2.zx (dv)
open K2.K3 (DF kd dS)
variable {rows c:Rows}
end wm
end K2
end
section
namespace K2
open PySem (Str)
open Enc (enc)
namespace Oi
open K2.P
open K2.wm (M met RR Ui HV Qt Q8 sm bi Sz Ro)
open K2.pI (bN eW BA vi)
open K2.zx (HR HR.fz)
open K2.K3 (Rl D9)
theorem O4{G:Gp}:∀ {ds:List D} {rs:Rows},Rl G ds rs->Sn G 8 (.dq ds) (.dq (rs.map enc)):=by
 intro ds rs h;induction h with
 | nil=>exact .Fx
 | cons hx _ ih =>
  refine .xt ?_ ih;rcases hx with rfl | ⟨a,rfl,e⟩
  ·exact nX G 6 (by decide) _
  ·exact .ref e (nX G 6 (by decide) _)
theorem z8{G G1:Gp}{p:Nat}{as:List Nat}{rs:Rows}(h:HR G G1 p as rs):Sn G1 8 (.ref p) (enc rs):=.ref h.gp (O4 (D9 as rs h.len h.at'))
noncomputable def xq:gU :=
 (cK (eT (gK (fP (aE 0))) (cm (eY (kn bh))) cu)
 (cK (c9 (oT yi yI (aE 0) (aH (lQ JS (aH (aE 0) bh)) bh)) (a6 1))
 (cm (eY (bG o8 (wg (aE 0) (jE (aE 1)) cR) (wg (aE 0) cR (jE (aE 1))))))))
noncomputable def lE:oZ:=fun ds G Q _=>∃ r:List T3,ds=[enc r]/\r.length<=1000/\∀ p,G p=none->Q (.ref p) (cY G p (.lst ((bN r).map enc)))
theorem x5(ds:List D)(G:Gp)(Q:DK)(h:lE ds G Q fun _ _=>False):xq (fun _ _=>False) (ends Q) (bz 2 ds) G:=by
 obtain⟨r,rfl,hl,q⟩:=h;unfold xq;refine fb (fun τ G'=>G=G'/\r≠[]/\τ=[some (enc r),none]) ?_ ?_
 ·intro N hN;simp only [eT,gK,bz,ax,a8,ak,ar,aU,aN,aR,cm,eY,kn,bh,ends,cu,cJ,aE,aa];cases r with
  | nil=>exact⟨by decide,fun p hp=>Ju (.new hp) hp aS (q p hp)⟩
  | cons a t=>exact hN _ _ ⟨rfl,by simp,rfl⟩
 ·rintro _ _ ⟨rfl,iY,rfl⟩;simp only [ends,eI,c9,oT,aE,aa,aH,lQ,bh,a6,cm,eY,bG,wg,aA,ao,cR,eS,ai];refine⟨trivial,BA rfl iY (vi trivial rfl iY ?_)⟩;have WE:r.idxOf (eW r)<=r.length:=List.idxOf_le_length;refine wm.Le (IsL.enc r) WE hl fun p G1 l f g=>?_;exact Ju l f g (q p f)
noncomputable def n5:gU :=
 (cm (eY (eA 1 [] (mD (aE 0)) (a6 0) none (bT lE (aH (aE 0) bh)))))
noncomputable def c7:oZ:=fun ds G Q _=>∃ rows:Rows,ds=[enc rows]/\(rows.length<=1000/\∀ r∈rows,r.length<=1000)/\∀ p as G',HR G G' p as (rows.map bN)->Q (.ref p) G'
theorem oB(ds:List D)(G:Gp)(Q:DK)(h:c7 ds G Q fun _ _=>False):n5 (fun _ _=>False) (ends Q) (bz 1 ds) G:=by
 obtain⟨rows,rfl,⟨hl,hr⟩,q⟩:=h;unfold n5;simp only [cm,eY,eA,bz,ax,a8,ak,ar,aN,aR,ends,dh,aE,aa];refine kS ⟨Fm (by rw [ag]; exact hl),?_⟩;refine iB (xs:=rows) (fun pre acc τ G'=>(∃ a,τ=[a])/\∃ bs:List Nat,acc=bs.map D.ref/\bs.length=pre.length/\bs.Nodup/\(∀ a∈bs,G a=none)/\iJ G G'/\∀ (i a:Nat) (r:List T3),bs[i]?=some a->pre[i]?=some r->G' a=some (.lst ((bN r).map enc))) ⟨⟨_,rfl⟩,[],rfl,rfl,fk,(fun a h=>by cases h),.refl _,fun i a r h=>by simp at h⟩ (fun _ _ _ _ _=>trivial) ?_ ?_
 ·rintro pre r post acc τ G' N e ⟨⟨a,rfl⟩,bs,rfl,hl,nd,fr,le,BW⟩ hN;simp only [a6,bT,aH,aE,ao,aa,bh];refine⟨r,rfl,hr r (by rw [e]; simp),fun p hp=>?_⟩;have UN:p∉bs:=fun z=>by
   obtain⟨i,hi⟩:=sR z;have h1:i < pre.length:=by rw [<-hl]; exact(List.getElem?_eq_some_iff.mp hi).1
   rw [BW i p pre[i] hi (ah h1)] at hp; cases hp
  refine hN _ _ _ ⟨⟨_,rfl⟩,bs++[p],by simp,by simp [hl],?_,?_,le.trans (.new hp),?_⟩
  ·rw [oF];refine⟨nd,by simp,fun a h b hb e=>?_⟩;rw [jr] at hb;subst hb e;exact UN h
  ·intro a h0;rcases List.mem_append.mp h0 with h | h
   ·exact fr a h
   ·rw [jr] at h; subst h; exact le.free hp
  ·intro i b s h1 h2;by_cases hi:i < bs.length
   ·rw [bS hi] at h1;rw [bS (by lia)] at h2;have:b≠p:=by rintro rfl; exact UN (bO h1)
    rw [cQ this];exact BW i b s h1 h2
   ·rw [bC (by lia)] at h1 h2;have i0:i - bs.length=0:=by have:=(List.getElem?_eq_some_iff.mp h1).1; simp at this; lia
    rw [i0] at h1;rw [<-hl,i0] at h2;simp at h1 h2;subst h1 h2;exact aS
 ·rintro acc τ G5 ⟨⟨a',rfl⟩,bs,rfl,hl,nd,fr,le,BW⟩ p3 Je;refine lL (q p3 bs _ ⟨le.trans (.new Je),le.free Je,aS,fun z=>?_,nd,fr,by rw [ag]; exact hl,fun i b r h1 h2=>?_⟩)
  ·obtain⟨i,hi⟩:=sR z;have h1:i < rows.length:=by rw [<-hl]; exact(List.getElem?_eq_some_iff.mp hi).1
   rw [BW i p3 rows[i] hi (ah h1)] at Je; cases Je
  ·rw [a5] at h2;obtain⟨r',Ws,rfl⟩:=Option.map_eq_some_iff.mp h2;exact(iJ.new Je) _ _ (BW i b r' h1 Ws)
end Oi
end K2
end
section
namespace K2
open PySem (Str)
open Enc (enc)
namespace Oi
open K2.P
open K2.wm (M Sz Ro RR)
open K2.zx (HR HR.put om qw eg ny rg)
open K2.K3 (DF HR.rw HR.at_ ins vG yO kd vo vn tX dS g8 fit Q3 sC A9 Ea)
noncomputable def gm:oZ:=fun ds G Q _=>∃ (G0:Gp) (p0:Nat) (as:List Nat) (rows:Rows) (c:Int),ds=[.ref p0,.int c]/\HR G0 G p0 as rows/\(1<=rows.length/\rows.length<=3/\rows.flatten.length<=22) /\
 ∀ (Am:Rows) (m hd:Int) (G':Gp),Am.length=rows.length->Am.flatten.Perm (⟨m,1,hd⟩ :: ⟨m,0,hd⟩ :: rows.flatten)->m∉rows.flatten.map (·.a)->(hd=1\/hd=-1)->1<=m/\m<=999->HR G0 G' p0 as Am->Q .cf G'
noncomputable def qJ:gU :=
 (cK (c9 (bT g8 (aH (aE 0) (aH (aE 1) bh))) (a6 2))
 (cK (c9 (bG MZ (bG Fy (dC (.int 2)) (bG qL (aE 1) (dC (.int 2)))) (dC (.int 1))) (a6 3))
 (cK (c9 (bG qM (aE 0) (bG qL (bG Av (aE 1) (dC (.int 2))) (lQ pz (aH (aE 0) bh)))) (a6 4))
 (cK (ft (oT yi qR (aE 4) (aH (bG qL (bG qL (bG Fy (aE 1) (dC (.int 69621))) (dC (.int 999983))) (bG o8 (lQ pz (aH (aE 4) bh)) (dC (.int 1)))) (aH (lP (aH (aE 2) (aH (dC (.int 0)) (aH (aE 3) bh)))) bh))))
 (cK (c9 (bG qM (aE 0) (bG qL (bG Av (aE 1) (dC (.int 6))) (lQ pz (aH (aE 0) bh)))) (a6 5))
 (ft (oT yi qR (aE 5) (aH (bG qL (bG qL (bG Fy (aE 1) (dC (.int 40692))) (dC (.int 999979))) (bG o8 (lQ pz (aH (aE 5) bh)) (dC (.int 1)))) (aH (lP (aH (aE 2) (aH (dC (.int 1)) (aH (aE 3) bh)))) bh)))))))))
theorem rQ(ds:List D)(G:Gp)(Q:DK)(h:gm ds G Q fun _ _=>False):qJ (fun _ _=>False) (ends Q) (bz 6 ds) G:=by
 obtain⟨G0,p0,as,rows,c,rfl,hr,⟨n1,n3,hf⟩,q⟩:=h;unfold qJ;simp only [ends,bz,ax,a8,ak,ar,aU,aN,aR,eI,c9,bT,aH,aE,aa,ai,bh,a6,aA,ao,bG,dC,lQ,ja,ft,oT,lP,jb,eF,hX,ka];refine⟨_,rows,c,rfl,HR.rw hr,by lia,fun m hm m1 m2=>?_⟩;simp only [eY,bz,ends,cJ,bG,zJ,aE,lQ,oT,aH,bh,cm,xS,ft,c9,a6,dC,cu,lP,kn,ze,iA,Gv,zK,gK,jm,oS,km,wg,eS,cR,dh,jg,bT,eA,fe,lF,kc,kb,ka,jb,eF,hX,ip,mf,mh,mi,oM,fB,jc,iW,md,me,kq,ko,jX,ez,fW,fm,eO,gi,oI,oH,gP,true_and,and_true,oR,kR,dn,bF,hV,kg,oQ,kf,ax,a8,aN,aR,aa,ai,ao,aA,ak,ar,aU,if_true,if_false,bq,cj,av,eI,ja];refine⟨by decide,.inl ⟨by decide,by decide⟩,by decide,by decide,?_⟩;have hh:2 * (c % 2) - 1=1\/2 * (c % 2) - 1=-1:=by lia
 generalize 2 * (c % 2) - 1=hd at *;refine mS (IsL.ref hr.gp) ?_;rw [ag,hr.len];simp only [eF];refine⟨by lia,?_⟩;have i1:0<=c / 2 % (rows.length:Int):=jw _ (by lia);have i2:c / 2 % (rows.length:Int) < rows.length:=gH _ (by lia);generalize c / 2 % (rows.length:Int)=i at *;obtain⟨a,r,ea,er,ga,xa⟩:=HR.at_ hr i1 i2;refine yx (IsL.ref hr.gp) xa ?_;have rl:r.length<=22:=bf (om (bO er)) hf;simp only [gi,ga,true_and];refine⟨.inr ⟨by decide,by decide⟩,by decide,?_⟩;refine mS (IsL.ref ga) ?_;rw [ag];simp only [fe,eF,fm];refine⟨by lia,by decide,?_⟩;have k1:0<=c * 69621 % 999983 % ((r.length:Int)+1):=jw _ (by lia);have k2:c * 69621 % 999983 % ((r.length:Int)+1) < (r.length:Int)+1:=gH _ (by lia);generalize c * 69621 % 999983 % ((r.length:Int)+1)=k at *;simp only [ga];refine⟨k1,by rw [ag]; lia,KW (by rw [ag]; lia),?_⟩;rw [show (D.tup [.int m,.int 0,.int hd])=enc (⟨m,0,hd⟩:T3) from rfl,yO];have h2:=hr.put (r':=ins r k.toNat ⟨m,0,hd⟩) ea;have p2:=qw (vG r k.toNat ⟨m,0,hd⟩) rows _ er;generalize cY G a (.lst ((ins r k.toNat ⟨m,0,hd⟩).map enc))=G2 at *;generalize ND:rows.set i.toNat (ins r k.toNat ⟨m,0,hd⟩)=xn at *;have e2:xn.length=rows.length:=by rw [<-ND,dO]
 refine⟨by decide,by decide,?_⟩;refine mS (IsL.ref h2.gp) ?_;rw [ag,h2.len];simp only [eF];refine⟨by lia,?_⟩;have j1:0<=c / 6 % (xn.length:Int):=jw _ (by lia);have j2:c / 6 % (xn.length:Int) < xn.length:=gH _ (by lia);generalize c / 6 % (xn.length:Int)=j at *;obtain⟨b,r',eb,U8,gb,xb⟩:=HR.at_ h2 j1 j2;refine yx (IsL.ref h2.gp) xb ?_;have YA:r'.length<=23:=by
  have:=om (bO U8);have h3:=p2.length_eq;rw [ak] at h3; lia
 simp only [gi,gb,true_and];refine⟨.inr ⟨by decide,by decide⟩,by decide,?_⟩;refine mS (IsL.ref gb) ?_;rw [ag];simp only [fe,eF,fm];refine⟨by lia,by decide,?_⟩;have Wd:0<=c * 40692 % 999979 % ((r'.length:Int)+1):=jw _ (by lia);have YD:c * 40692 % 999979 % ((r'.length:Int)+1) < (r'.length:Int)+1:=gH _ (by lia);generalize c * 40692 % 999979 % ((r'.length:Int)+1)=k' at *;simp only [gb];refine⟨Wd,by rw [ag]; lia,KW (by rw [ag]; lia),?_⟩;rw [show (D.tup [.int m,.int 1,.int hd])=enc (⟨m,1,hd⟩:T3) from rfl,yO];refine q _ m hd _ ?_ ?_ hm hh ⟨m1,m2⟩ (h2.put (r':=ins r' k'.toNat ⟨m,1,hd⟩) eb)
 ·rw [dO]; exact e2
 ·exact(qw (vG r' k'.toNat ⟨m,1,hd⟩) xn _ U8).trans (.cons _ p2)
noncomputable def Nb(rows:Rows):Prop:=∀ n∈rows.flatten.map (·.a),1<=n/\n<=999
end Oi
end K2
end
section
namespace K2
open PySem (Str)
namespace K4
noncomputable def jn(c:Nat):List (List Nat)->List Nat
 | []=>[]
 | [x]=>x
 | x :: y :: r=>x++c :: jn c (y :: r)
theorem Qm{c:Nat}:∀ {x y a b:List Nat},c∉x->c∉y->x++c :: a=y++c :: b->x=y/\a=b
 | [],[],a,b,_,_,h=>⟨rfl,by simpa using h⟩
 | [],y :: ys,a,b,_,hy,h=>by
  injection h with h1 h2
  exact absurd (by rw [h1]; exact a7) hy
 | x :: xs,[],a,b,hx,_,h=>by
  injection h with h1 h2
  exact absurd (by rw [<-h1]; exact a7) hx
 | x :: xs,y :: ys,a,b,hx,hy,h=>by
  injection h with h1 h2
  obtain⟨e1,e2⟩:=Qm (fun z=>hx (au _ z)) (fun z=>hy (au _ z)) h2;exact⟨by rw [h1,e1],e2⟩
theorem IP{c:Nat}:∀ {xs ys:List (List Nat)},xs≠[]->ys≠[]->(∀ x∈xs,c∉x)->(∀ y∈ys,c∉y)->jn c xs=jn c ys->xs=ys
 | [],_,h,_,_,_,_=>absurd rfl h
 | _ :: _,[],_,h,_,_,_=>absurd rfl h
 | [x],[y],_,_,_,_,h=>by rw [show x=y from h]
 | [x],y :: y2 :: r,_,_,hx,_,h=>by
  have h:x=y++c :: jn c (y2 :: r):=h;exact absurd (by rw [h]; simp) (hx x (by simp))
 | x :: x2 :: r,[y],_,_,_,hy,h=>by
  have h:x++c :: jn c (x2 :: r)=y:=h;exact absurd (by rw [<-h]; simp) (hy y (by simp))
 | x :: x2 :: r,y :: y2 :: t,_,_,hx,hy,h=>by
  obtain⟨e1,e2⟩:=Qm (hx x (by simp)) (hy y (by simp)) (show x++c :: jn c (x2 :: r)=y++c :: jn c (y2 :: t) from h);rw [e1,IP (zF _ _) (zF _ _) (fun z hz=>hx z (au _ hz)) (fun z hz=>hy z (au _ hz)) e2]
theorem gL(x y:Str):(x++y).cps.toList=x.cps.toList++y.cps.toList:=by rw [zf,Array.toList_append]
theorem uq(c:Nat):∀ xs:List Str,(fj ⟨#[c]⟩ xs).cps.toList=jn c (xs.map (·.cps.toList))
 | []=>rfl
 | [x]=>rfl
 | x :: y :: r=>by
  have e:fj ⟨#[c]⟩ (x :: y :: r)=(x++⟨#[c]⟩)++fj ⟨#[c]⟩ (y :: r):=rfl;rw [e,gL,gL,uq c (y :: r)];simp [jn]
theorem qu{x y:Str}(h:x.cps.toList=y.cps.toList):x=y:=by
 cases x; cases y;congr 1;exact Array.toList_inj.mp h
theorem map_inj{xs ys:List Str}(h:xs.map (·.cps.toList)=ys.map (·.cps.toList)):xs=ys:=by
 induction xs generalizing ys with
 | nil=>cases ys with
  | nil=>rfl
  | cons _ _=>cases h
 | cons x xs ih =>
  cases ys with
  | nil=>cases h
  | cons y ys =>
   rw [ax,ax] at h;injection h with h1 h2
   rw [qu h1,ih h2]
theorem uN{c:Nat}{xs:List Str}(iY:xs≠[])(hf:∀ x∈xs,c∉x.cps.toList):wt (fj ⟨#[c]⟩ xs) ⟨#[c]⟩=xs:=by
 have h1:=congrArg (fun z:Str=>z.cps.toList) (PySem.StrLaws.join_split (fj ⟨#[c]⟩ xs) ⟨#[c]⟩);simp only [uq] at h1;have hp:=PyProof.Rows.split_pos (fj ⟨#[c]⟩ xs) ⟨#[c]⟩;refine map_inj (IP (fun z=>?_) (fun z=>iY (List.map_eq_nil_iff.mp z)) (fun x hx=>?_) (fun y hy=>?_) h1)
 ·rw [List.map_eq_nil_iff] at z;rw [z] at hp;exact absurd hp (by simp)
 ·obtain⟨p,hp,rfl⟩:=List.mem_map.mp hx;exact PySem.StrLaws.split_free _ _ p hp
 ·obtain⟨p,hp,rfl⟩:=List.mem_map.mp hy;exact hf p hp
noncomputable def wy (b:Int):Str:=if b=0 then "o" else "u"
noncomputable def hd (c:Int):Str:=if c=1 then "+" else "-"
noncomputable def wd(p:T3):Str:=(ph p.a++wy p.b)++hd p.c
noncomputable def Gk:List (Str×Int×Int):=[("o+",0,1),("o-",0,-1),("u+",1,1),("u-",1,-1)]
structure zy(p:T3):Prop where
 n1:1<=p.a
 n2:p.a<=999
 b:p.b=0\/p.b=1
 c:p.c=1\/p.c=-1
theorem yg(b:Int):(wy b).length=1:=by unfold wy; split <;> decide
theorem CU(c:Int):(hd c).length=1:=by unfold hd; split <;> decide
theorem Fq(x y:Str)(k:Nat)(hk:y.length=k)(h1:1<=k):o4 (x++y) (some (-(k:Int))) none=y/\o4 (x++y) none (some (-(k:Int)))=x:=by
 have hl:(x++y).length=x.length+k:=by rw [je,hk]
 have hc:(x++y).cps.toList=x.cps.toList++y.cps.toList:=gL x y;have hx:x.cps.toList.length=x.length:=by simp [uI]
 have hy:y.cps.toList.length=k:=by rw [<-hk]; simp [uI]
 constructor
 ·show wu _ _ _=_;rw [PySem.StrLaws.sliceText_from_neg (by lia) (by rw [hl]; lia),hl,hc];apply qu;rw [List.toList_toArray,show (-(k:Int)+((x.length+k:Nat):Int)).toNat=x.length by lia,<-hx,List.drop_left];exact p7 (by rw [aM]; lia)
 ·show wu _ _ _=_;rw [PySem.StrLaws.sliceText_to_neg (by lia) (by rw [hl]; lia),hl,hc];apply qu;rw [List.toList_toArray,List.drop_zero,show (-(k:Int)+((x.length+k:Nat):Int) - 0).toNat=x.length by lia,<-hx,List.take_left]
theorem GC(x y z:Str):(x++y)++z=x++(y++z):=by
 apply qu;rw [gL,gL,gL,gL,eM]
theorem OV(p:T3):wd p=ph p.a++(wy p.b++hd p.c):=GC _ _ _
theorem Hr(p:T3):o4 (wd p) (some (-2)) none=wy p.b++hd p.c/\o4 (wd p) none (some (-2))=ph p.a:=by
 rw [OV];exact Fq (ph p.a) (wy p.b++hd p.c) 2 (by rw [je,yg,CU]) (by decide)
theorem EK{p:T3}(h:zy p):Gk.lookup (wy p.b++hd p.c)=some (p.b,p.c):=by
 obtain⟨a,b,c⟩:=p;have hb:b=0\/b=1:=h.b;have hc:c=1\/c=-1:=h.c;show Gk.lookup (wy b++hd c)=some (b,c);rcases hb with rfl | rfl <;> rcases hc with rfl | rfl <;> decide
noncomputable def Qg:Str:="0123456789"
noncomputable def AF (x:Str):Bool:=decide (1<=x.length)&&decide (x.length<=3)&&!(gX x 0 == ("0" : Str))&&x.cps.toList.all (fun c=>lz Qg ⟨#[c]⟩)&&x.cps.all (· < 128)&&x.cps.toList.all (fun c=>!(c == 32)&&!(c == 10)&&!(c == 46))
theorem LU:((bW 1000).all fun n=>n == 0||AF (ph (n:Int)))=true:=by decide +kernel
theorem C6{n:Int}(h1:1<=n)(h2:n<=999):AF (ph n)=true:=by
 obtain⟨m,rfl⟩:=Int.eq_ofNat_of_zero_le (show 0<=n by lia);have:=List.all_eq_true.mp LU m (List.mem_range.mpr (by lia));have hm:(m == 0)=false:=by simp; lia
 rw [hm,wb] at this;exact this
theorem int_at{n:Int}(h1:1<=n)(h2:n<=999):PySem.intText? (ph n)=some n:=PySem.W.KIN.num_reads (by lia) (by lia)
end K4
end K2
end
section
namespace K2
open PySem (Str)
open Enc (enc)
namespace K4
open K2.P
open K2.pI (bN)
open K2.zx (HR HR.fz)
open K2.wm (Sz)
open K2.Oi (c7 z8)
theorem uJ{p:T3}(h:zy p):(wd p).length<=5:=by
 unfold wd;rw [je,je,yg,CU];have:=C6 h.n1 h.n2;unfold AF at this;simp only [az,decide_eq_true_eq] at this;have:=this.1.1.1.1.2;lia
noncomputable def ln (r:List T3):Str:=if r=[] then "." else fj " " (r.map wd)
noncomputable def tx (rows:Rows):Str:=fj "\n" (rows.map ln)
theorem vE(s:Str)(k:Nat)(hs:s.length<=1):∀ xs:List Str,(∀ x∈xs,x.length<=k)->(fj s xs).length<=xs.length * (k+1)
 | [],_=>bR _
 | [x],h=>by
  have:=h x (by simp);show x.length<=_;rw [bX]; lia
 | x :: y :: r,h=>by
  have e:fj s (x :: y :: r)=(x++s)++fj s (y :: r):=rfl;have:=h x (by simp);have:=vE s k hs (y :: r) fun z hz=>h z (au _ hz);rw [e,je,je,ak];rw [Nat.succ_mul];lia
theorem yK{r:List T3}(h:∀ p∈r,zy p)(hl:r.length<=24):(ln r).length<=150:=by
 unfold ln;split
 ·decide
 ·have:=vE " " 5 (by decide) (r.map wd) (fun x hx=>by obtain⟨p,hp,rfl⟩:=List.mem_map.mp hx; exact uJ (h p hp));rw [ag] at this;lia
theorem xE{n:Int}(h1:1<=n)(h2:n<=999):n.natAbs < 10 ^ 100:=wz (m:=999) (by lia) (by decide)
noncomputable def uU:gU :=
 (cK (c9 (bG qM (aE 0) (dC (.int 0))) (a6 1))
 (cK (c9 (Q7 (fP (bG (GS false) (bG qM (aE 0) (dC (.int 1))) (dC (.int 0)))) (dC (.str "o")) (dC (.str "u"))) (a6 2))
 (cK (c9 (Q7 (fP (bG (GS false) (bG qM (aE 0) (dC (.int 2))) (dC (.int 1)))) (dC (.str "+")) (dC (.str "-"))) (a6 3))
 (cm (eY (JN (Jz (aE 1) (Jz (aE 2) (Jz (aE 3) NY)))))))))
noncomputable def l0:oZ:=fun ds G Q _=>∃ p:T3,ds=[enc p]/\zy p/\Q (.str (wd p)) G
theorem DD(ds:List D)(G:Gp)(Q:DK)(h:l0 ds G Q fun _ _=>False):uU (fun _ _=>False) (ends Q) (bz 4 ds) G:=by
 obtain⟨p,rfl,hp,q⟩:=h;obtain⟨a,b,c⟩:=p;unfold uU;have e:(enc (⟨a,b,c⟩:T3):D)=.tup [.int a,.int b,.int c]:=rfl;rw [e];have hb:b=0\/b=1:=hp.b;have hc:c=1\/c=-1:=hp.c;have h1:y9 (.int a)=some (ph a):=if_pos (xE hp.n1 hp.n2);have a0:nK [D.int a,D.int b,D.int c] 0=some (.int a):=rfl;have a1:nK [D.int a,D.int b,D.int c] 1=some (.int b):=rfl;have a2:nK [D.int a,D.int b,D.int c] 2=some (.int c):=rfl;simp only [↓eI,c9,bG,aE,bz,↓ax,↓a8,↓ak,↓ar,aU,↓aN,↓aR,↓aa,dC,↓fB,↓a0,a6,Q7,↓cJ,↓aA,↓ao,↓a1,↓a2,cm,eY,JN,Jz,↓ai,NY,ends];refine⟨_,_,.int _,.int _,?_⟩;have eb:fM (.int b) (.int 0)=decide (b=0):=by show (b == 0)=_; by_cases z:b=0 <;> simp [z]
 have ec:fM (.int c) (.int 1)=decide (c=1):=by show (c == 1)=_; by_cases z:c=1 <;> simp [z]
 rw [eb];have fin:∀ (y z:Str),y.length<=1000->z.length<=1000->wd ⟨a,b,c⟩=(ph a++y)++z->∃ x,y9 (.int a)=some x/\∃ x1,y9 (.str y)=some x1/\∃ x2,y9 (.str z)=some x2/\GZ G (D.str (List.foldl (fun x1 x2=>x1++x2) ju [x,x1,x2])) Q:=fun y z hy hz e=>by
  refine⟨ph a,h1,y,if_pos hy,z,if_pos hz,lL ?_⟩;have:List.foldl (fun x1 x2=>x1++x2) ju [ph a,y,z]=(ph a++y)++z:=by
   show ((ju++ph a)++y)++z=_;rw [show ju++ph a=ph a from qu (by rw [gL]; rfl)]
  rw [this,<-e]; exact q
 rcases hb with rfl | rfl <;> rcases hc with rfl | rfl <;> simp only [↓bF,↓av,decide_true,↓bq,↓if_false,↓if_true,show decide ((1:Int)=0)=false from rfl,↓cj] <;> refine⟨_,_,.int _,.int _,?_⟩ <;> rw [ec] <;> simp only [↓eY,↓bz,↓ends,↓cJ,↓bG,↓zJ,↓aE,↓lQ,↓oT,↓aH,↓bh,↓cm,↓xS,↓ft,↓c9,↓a6,↓dC,↓cu,↓lP,↓kn,↓ze,↓iA,↓Gv,↓zK,↓gK,↓jm,↓oS,↓km,↓wg,↓eS,↓cR,↓dh,↓jg,↓bT,↓eA,↓fe,↓lF,↓kc,↓kb,↓ka,↓jb,↓eF,↓hX,↓ip,↓mf,↓mh,↓mi,↓oM,↓fB,↓jc,↓iW,↓md,↓me,↓kq,↓ko,↓jX,↓ez,↓fW,↓fm,↓eO,↓gi,↓oI,↓oH,↓gP,↓true_and,↓and_true,↓oR,↓kR,↓dn,↓bF,↓hV,↓kg,↓oQ,↓kf,↓ax,↓a8,↓aN,↓aR,↓aa,↓ai,↓ao,↓aA,↓ak,↓ar,↓aU,↓if_true,↓if_false,↓bq,↓cj,↓av,↓eI,↓ja,decide_true,show decide ((-1:Int)=1)=false from rfl] <;> exact fin _ _ (by decide) (by decide) rfl
theorem qZ{G:Gp}{d:D}{xs:List Str}{sep:Str}{Q:DK}(h:IsL G d (xs.map D.str))(h1:sep.length<=1000)(h2:∀ x∈xs,x.length<=1000)(h3:xs.length<=1000)(q:Q (.str (fj sep xs)) G):vh (.str sep) [d] G Q:=⟨xs,Hu h,mC h,⟨h1,h2,h3⟩,q⟩
noncomputable def uW:gU :=
 (cK (eT (gK (fP (aE 0))) (cm (eY (dC (.str ".")))) cu)
 (cm (eY (oT Mb vh (dC (.str " ")) (aH (eA 1 [] (mD (aE 0)) (a6 0) none (bT l0 (aH (aE 0) bh))) bh)))))
noncomputable def l8:oZ:=fun ds G Q _=>∃ r:List T3,ds=[enc r]/\((∀ p∈r,zy p)/\r.length<=24)/\Q (.str (ln r)) G
theorem DG(ds:List D)(G:Gp)(Q:DK)(h:l8 ds G Q fun _ _=>False):uW (fun _ _=>False) (ends Q) (bz 1 ds) G:=by
 obtain⟨r,rfl,⟨hg,hl⟩,q⟩:=h;unfold uW;refine fb (fun τ G'=>G=G'/\r≠[]/\τ=[some (enc r)]) ?_ ?_
 ·intro N hN;simp only [eT,gK,↓cJ,aE,bz,↓ax,↓a8,↓ak,↓ar,↓aN,↓aR,↓aa,cm,eY,dC,ends,cu];cases r with
  | nil=>exact lL q
  | cons a t=>exact hN _ _ ⟨rfl,by simp,rfl⟩
 rintro _ _ ⟨rfl,iY,rfl⟩;simp only [cm,eY,oT,dC,↓gP,aH,eA,↓dh,aE,↓aa,bh,ends,↓true_and];refine kS ⟨Fm (by rw [ag]; lia),?_⟩;refine iB (xs:=r) (fun pre acc τ G'=>G'=G/\(∃ a,τ=[a])/\acc=(pre.map wd).map D.str) ⟨rfl,⟨_,rfl⟩,rfl⟩ (fun _ _ _ _ _=>trivial) ?_ ?_
 ·rintro pre p post acc τ G' N e ⟨rfl,⟨a,rfl⟩,rfl⟩ hN;simp only [a6,bT,aH,aE,↓ao,↓aa,bh];exact⟨p,rfl,hg p (by rw [e]; simp),hN _ _ _ ⟨rfl,⟨_,rfl⟩,by simp⟩⟩
 ·rintro acc τ G' ⟨rfl,⟨a,rfl⟩,rfl⟩ b hb;refine qZ (IsL.ref aS) (by decide) (fun x hx=>?_) (by rw [ag]; lia) ?_
  ·obtain⟨p,hp,rfl⟩:=List.mem_map.mp hx;exact bf (uJ (hg p hp)) (by decide)
  ·have:ln r=fj " " (r.map wd):=if_neg iY;rw [<-this];exact mG (.new hb) q
structure Dw(rows:Rows):Prop where
 sz:Sz rows
 one:1<=rows.length
 df:K3.DF rows.flatten
 nb:∀ p∈rows.flatten,1<=p.a/\p.a<=999
theorem Dw.gp{rows:Rows}(h:Dw rows){r:List T3}(hr:r∈rows){p:T3}(hp:p∈r):zy p:=by
 have:p∈rows.flatten:=List.mem_flatten.mpr ⟨r,hr,hp⟩;exact⟨(h.nb p this).1,(h.nb p this).2,h.df.way p this,h.df.hand p this⟩
noncomputable def uV:gU :=
 (cm (eY (oT Mb vh (dC (.str "\n")) (aH (eA 1 [] (mD (eY (bT c7 (aH (aE 0) bh)))) (a6 0) none (bT l8 (aH (aE 0) bh))) bh))))
noncomputable def l7:oZ:=fun ds G Q _=>∃ rows:Rows,ds=[enc rows]/\Dw rows/\Q (.str (tx (rows.map bN))) G
theorem iN(r:List T3):(bN r).Perm r:=by
 unfold bN;exact List.perm_append_comm.trans (by rw [ky])
theorem DE(ds:List D)(G:Gp)(Q:DK)(h:l7 ds G Q fun _ _=>False):uV (fun _ _=>False) (ends Q) (bz 1 ds) G:=by
 obtain⟨rows,rfl,dw,q⟩:=h;unfold uV;simp only [cm,eY,oT,dC,↓gP,aH,eA,↓dh,bT,aE,bz,↓ax,↓a8,↓ak,↓ar,↓aN,↓aR,↓aa,bh,ends,↓true_and];refine⟨rows,rfl,⟨bf dw.sz.n (by decide),fun r hr=>bf (dw.sz.row hr) (by decide)⟩,fun p as G1 hr=>?_⟩;refine hr.fz ?_;refine kS ⟨Fm (by rw [ag,ag]; have:=dw.sz.n; lia),?_⟩;refine iB (xs:=rows.map bN) (fun pre acc τ G'=>G'=G/\(∃ a,τ=[a])/\acc=(pre.map ln).map D.str) ⟨rfl,⟨_,rfl⟩,rfl⟩ (fun _ _ _ _ _=>trivial) ?_ ?_
 ·rintro pre r post acc τ G' N e ⟨rfl,⟨a,rfl⟩,rfl⟩ hN;simp only [a6,bT,aH,aE,↓ao,↓aa,bh];obtain⟨r0,h0,rfl⟩:=List.mem_map.mp (show r∈rows.map bN by rw [e]; simp);exact⟨bN r0,rfl,⟨fun p hp=>dw.gp h0 ((iN r0).mem_iff.mp hp),by rw [(iN r0).length_eq]; exact dw.sz.row h0⟩,hN _ _ _ ⟨rfl,⟨_,rfl⟩,by simp⟩⟩
 ·rintro acc τ G' ⟨rfl,⟨a,rfl⟩,rfl⟩ b hb;refine qZ (IsL.ref aS) (by decide) (fun x hx=>?_) (by rw [ag,ag]; have:=dw.sz.n; lia) (mG (.new hb) q);obtain⟨r,hr,rfl⟩:=List.mem_map.mp hx;obtain⟨r0,h0,rfl⟩:=List.mem_map.mp hr;exact bf (yK (fun p hp=>dw.gp h0 ((iN r0).mem_iff.mp hp)) (by rw [(iN r0).length_eq]; exact dw.sz.row h0)) (by decide)
noncomputable def tu:gU :=
 (cK (c9 (kn bh) (a6 1))
 (cK (jz (mD (aE 0)) (wL (jh (a6 2) (jh (a6 3) (jh (a6 4) vJ)))) (ft (oT yi my (aE 1) (aH (bG Ec (bG Ec (lQ cStr (aH (aE 2) bh)) (bG H0 (dC (.str "ou")) (aE 3))) (bG H0 (dC (.str "-+")) (bG Av (bG o8 (aE 4) (dC (.int 1))) (dC (.int 2))))) bh))))
 (cK (eT (gK (fP (aE 1))) (cm (eY (dC (.str ".")))) cu)
 (cm (eY (oT Mb vh (dC (.str " ")) (aH (aE 1) bh)))))))
noncomputable def kL:oZ:=fun ds G Q _=>∃ r:List T3,ds=[enc r]/\((∀ p∈r,zy p)/\r.length<=24)/\Q (.str (ln r)) G
theorem yN {b:Int} (h:b=0\/b=1):gX "ou" b=wy b:=by rcases h with rfl | rfl <;> decide
theorem EA {c:Int} (h:c=1\/c=-1):gX "-+" ((c+1) / 2)=hd c:=by rcases h with rfl | rfl <;> decide
theorem BJ(ds:List D)(G:Gp)(Q:DK)(h:kL ds G Q fun _ _=>False):tu (fun _ _=>False) (ends Q) (bz 5 ds) G:=by
 obtain⟨r,rfl,⟨hg,hl⟩,q⟩:=h;unfold tu;refine fb (fun τ G'=>∃ p,G p=none/\G'=cY G p (.lst [])/\τ=[some (enc r),some (.ref p),none,none,none]) ?_ ?_
 ·intro N hN;simp only [c9,kn,bh,↓ar,a6,bz,↓ax,↓a8,↓ak,aU,↓aN,↓aR,↓aA,↓ao];exact⟨by decide,fun p hp=>hN _ _ ⟨p,hp,rfl,rfl⟩⟩
 rintro _ _ ⟨p,hp,rfl,rfl⟩;refine fb (fun τ G'=>G'=cY G p (.lst ((r.map wd).map D.str))/\∃ a b c,τ=[some (enc r),some (.ref p),a,b,c]) ?_ ?_
 ·intro N hN;simp only [jz,↓dh,aE,↓aa,ends];refine kS ?_;refine mH (xs:=r) (fun pre τ G'=>G'=cY G p (.lst ((pre.map wd).map D.str))/\∃ a b c,τ=[some (enc r),some (.ref p),a,b,c]) ⟨rfl,_,_,_,rfl⟩ (fun _ _ _ _=>trivial) ?_ ?_
  ·rintro pre t post τ G' N2 e ⟨rfl,a,b,c,rfl⟩ we;have ht:=hg t (by rw [e]; simp);obtain⟨ta,tb,tc⟩:=t;have e3:(enc (⟨ta,tb,tc⟩:T3):D)=.tup [.int ta,.int tb,.int tc]:=rfl;rw [e3];simp only [wL,jh,a6,vJ,ft,oT,aE,↓aA,↓ao,↓ai,↓aa,↓gi,aH,bG,lQ,bh,dC,↓fe,↓hX,↓ez];have hb:tb=0\/tb=1:=ht.b;have hc:tc=1\/tc=-1:=ht.c;have hf:=C6 ht.n1 ht.n2;unfold AF at hf;simp only [az,decide_eq_true_eq] at hf;have YM:(ph ta).length<=3:=hf.1.1.1.1.2;rw [aS];refine⟨trivial,xE ht.n1 ht.n2,⟨?_,?_,by decide⟩,⟨?_,by decide,by decide,⟨?_,?_,by decide⟩,?_,?_⟩⟩
   ·show -((2:Nat):Int)<=tb; lia
   ·show tb < ((2:Nat):Int); lia
   ·rw [yN hb,yg]; lia
   ·show -((2:Nat):Int)<=(tc+1) / 2; lia
   ·show (tc+1) / 2 < ((2:Nat):Int); lia
   ·rw [yN hb,EA hc,je,yg,CU]; lia
   ·dsimp only;rw [aS];have:pre.length<=24:=by rw [e,aM] at hl; lia
    refine⟨by rw [ag,ag]; show _ < 16777216; lia,we _ _ ⟨?_,_,_,_,rfl⟩⟩;rw [yN hb,EA hc];funext z;unfold cY;split
    ·simp [wd]
    ·rfl
  ·rintro τ G' ⟨rfl,a,b,c,rfl⟩;exact hN _ _ ⟨rfl,a,b,c,rfl⟩
 rintro _ _ ⟨rfl,a,b,c,rfl⟩;refine fb (fun τ G'=>G'=cY G p (.lst ((r.map wd).map D.str))/\r≠[]/\τ=[some (enc r),some (.ref p),a,b,c]) ?_ ?_
 ·intro N hN;simp only [eT,gK,↓cJ,aE,↓ai,↓aa,↓Fi,↓aS,cm,eY,dC,ends,cu];cases r with
  | nil=>exact mG (.new hp) q
  | cons x t=>exact hN _ _ ⟨rfl,by simp,rfl⟩
 rintro _ _ ⟨rfl,iY,rfl⟩;simp only [cm,eY,oT,dC,↓gP,aH,aE,↓ai,↓aa,bh,ends,↓true_and];refine qZ (IsL.ref aS) (by decide) (fun x hx=>?_) (by rw [ag]; lia) ?_
 ·obtain⟨p,hp,rfl⟩:=List.mem_map.mp hx;exact bf (uJ (hg p hp)) (by decide)
 ·have:ln r=fj " " (r.map wd):=if_neg iY;rw [<-this];exact mG (.new hp) q
noncomputable def sY:gU :=
 (cm (eY (oT Mb vh (dC (.str "\n")) (aH (eA 1 [] (mD (aE 0)) (a6 0) none (bT kL (aH (aE 0) bh))) bh))))
noncomputable def i8:oZ:=fun ds G Q _=>∃ rows:Rows,ds=[enc rows]/\(rows.length<=3/\∀ r∈rows,(∀ p∈r,zy p)/\r.length<=24)/\Q (.str (tx rows)) G
theorem BI(ds:List D)(G:Gp)(Q:DK)(h:i8 ds G Q fun _ _=>False):sY (fun _ _=>False) (ends Q) (bz 1 ds) G:=by
 obtain⟨rows,rfl,⟨h3,hg⟩,q⟩:=h;unfold sY;simp only [cm,eY,oT,dC,↓gP,aH,eA,↓dh,aE,bz,↓ax,↓a8,↓ak,↓ar,↓aN,↓aR,↓aa,bh,ends,↓true_and];refine kS ⟨Fm (by rw [ag]; lia),?_⟩;refine iB (xs:=rows) (fun pre acc τ G'=>G'=G/\(∃ a,τ=[a])/\acc=(pre.map ln).map D.str) ⟨rfl,⟨_,rfl⟩,rfl⟩ (fun _ _ _ _ _=>trivial) ?_ ?_
 ·rintro pre r post acc τ G' N e ⟨rfl,⟨a,rfl⟩,rfl⟩ hN;simp only [a6,bT,aH,aE,↓ao,↓aa,bh];exact⟨r,rfl,hg r (by rw [e]; simp),hN _ _ _ ⟨rfl,⟨_,rfl⟩,by simp⟩⟩
 ·rintro acc τ G' ⟨rfl,⟨a,rfl⟩,rfl⟩ b hb;refine qZ (IsL.ref aS) (by decide) (fun x hx=>?_) (by rw [ag]; lia) (mG (.new hb) q);obtain⟨r,hr,rfl⟩:=List.mem_map.mp hx;exact bf (yK (hg r hr).1 (hg r hr).2) (by decide)
theorem C5 {n:Int} (h1:1<=n) (h2:n<=999):(1<=(ph n).length/\(ph n).length<=3)/\gX (ph n) 0≠"0"/\(∀ c∈(ph n).cps.toList,lz Qg ⟨#[c]⟩=true)/\(ph n).cps.all (· < 128)=true/\∀ c∈(ph n).cps.toList,c≠32/\c≠10/\c≠46:=by
 have:=C6 h1 h2;unfold AF at this;simp only [az,decide_eq_true_eq,gf,w9,beq_eq_false_iff_ne] at this;exact⟨this.1.1.1.1,this.1.1.1.2,this.1.1.2,by rw [this.1.2],fun c hc=>⟨(this.2 c hc).1.1,(this.2 c hc).1.2,(this.2 c hc).2⟩⟩
theorem Iw(x:Str)(i:Int)(h:x.cps.all (· < 128)=true):(gX x i).cps.all (· < 0x110000)=true:=by
 unfold gX;have:(Kf x i).getD 0 < 128:=by
  unfold Kf;cases h1:PySem.seqIndex? i x.length with
  | none=>exact Nat.zero_lt_succ _
  | some j =>
   rw [Option.bind_some];cases h2:x.cps[j]? with
   | none=>exact Nat.zero_lt_succ _
   | some c =>
    have hm:c∈x.cps:=Array.mem_of_getElem? h2;have:=Array.all_eq_true'.mp h c hm;exact of_decide_eq_true this
 simp; lia
noncomputable def n4:gU :=
 (cK (eT (zK (gK (mL Ml Ml (dC (.int 1)) (lQ JV (aH (aE 0) bh)) (dC (.int 3)))) (fP (bG (GS false) (bG H0 (aE 0) (dC (.int 0))) (dC (.str "0"))))) (cm (eY (dC (.bl false)))) cu)
 (cm (eY (lQ L3 (aH (eA 1 [] (PD (aE 0)) (a6 0) none (bG (M3 false) (aE 0) (dC (.str "0123456789")))) bh)))))
noncomputable def ie:oZ:=fun ds G Q _=>∃ n:Int,ds=[.str (ph n)]/\(1<=n/\n<=999)/\Q (.bl true) G
theorem vW(ds:List D)(G:Gp)(Q:DK)(h:ie ds G Q fun _ _=>False):n4 (fun _ _=>False) (ends Q) (bz 1 ds) G:=by
 obtain⟨n,rfl,⟨h1,h2⟩,q⟩:=h;obtain⟨⟨l1,l3⟩,f0,fc,fa,_⟩:=C5 h1 h2;unfold n4;simp only [cK,eT,zK,gK,mL,dC,lQ,aH,aE,bz,↓ax,↓a8,↓ak,↓ar,↓aN,↓aR,↓aa,bh,cm,eY,ends,cu,eA,↓if_true,↓cJ,bG,↓cj];refine⟨by lia,?_⟩;refine⟨_,rfl,?_⟩;rw [if_pos (decide_eq_true (by lia))];refine⟨_,rfl,?_⟩;rw [if_neg (by simp; lia)];refine⟨⟨by lia,by lia,by lia⟩,_,_,.str _ (Iw _ _ fa),.str _ (by decide +kernel),?_⟩;have e0:fM (.str (gX (ph n) 0)) (.str "0")=false:=by show (_ == _)=false; exact beq_eq_false_iff_ne.mpr f0
 rw [e0];simp only [↓bF,↓av,↓cj,↓if_false];refine⟨fa,Fm (by rw [ag,bu]; show (ph n).length<=_; lia),?_⟩;refine EW (fun pre acc τ G'=>G'=G/\acc=(aU pre.length true).map D.bl/\∃ a,τ=[a]) ⟨rfl,rfl,_,rfl⟩ (fun _ _ _ _ _=>trivial) ?_ ?_
 ·rintro pre d post acc τ G3 N3 e3 ⟨rfl,rfl,a,rfl⟩ OD;obtain⟨c,hc,rfl⟩:∃ c∈(ph n).cps.toList,D.str ⟨#[c]⟩=d:=by
   have:d∈(ph n).cps.toList.map fun c=>D.str ⟨#[c]⟩:=by rw [e3]; simp
   exact List.mem_map.mp this
  simp only [a6,bG,aE,↓ao,↓aa,dC];show N3 _ _ _;refine OD _ _ _ ⟨rfl,?_,_,rfl⟩;have QW:(if false=true then !(lz "0123456789" ⟨#[c]⟩) else lz "0123456789" ⟨#[c]⟩)=true:=fc c hc;rw [QW];simp [KC]
 ·rintro acc τ G3 ⟨rfl,rfl,a,rfl⟩ p hp;refine⟨_,mC (IsL.ref aS),?_⟩;have:∀ k,(aU k true).all id=true:=fun k=>by simp
  rw [this];exact mG (.new hp) q
noncomputable def kO:gU :=
 (cm (eY (Bv (N4 [("o+",0,1),("o-",0,-1),("u+",1,1),("u-",1,-1)] (Bt (aE 0) (jE (zJ Cw (dC (.int 2)))) cR)) (bT ie (aH (Bt (aE 0) cR (jE (zJ Cw (dC (.int 2))))) bh)))))
noncomputable def fL:oZ:=fun ds G Q _=>∃ p:T3,ds=[.str (wd p)]/\zy p/\Q (.bl true) G
theorem rM(ds:List D)(G:Gp)(Q:DK)(h:fL ds G Q fun _ _=>False):kO (fun _ _=>False) (ends Q) (bz 1 ds) G:=by
 obtain⟨p,rfl,hp,q⟩:=h;have hl:=uJ hp;obtain⟨e1,e2⟩:=Hr p;unfold kO;have el:Gk.lookup (wy p.b++hd p.c)=some (p.b,p.c):=EK hp;unfold Gk at el;simp only [cm,eY,↓jm,N4,Bt,aE,bz,↓ax,↓a8,↓ak,↓ar,↓aN,↓aR,↓aa,↓eS,zJ,dC,↓ip,↓dn,cR,↓bF,bT,aH,bh,ends];rw [e1,e2,el];exact⟨by lia,by lia,p.a,rfl,⟨hp.n1,hp.n2⟩,lL q⟩
noncomputable def pG:gU :=
 (EV [("o+",0,1),("o-",0,-1),("u+",1,1),("u-",1,-1)] 1 (Bt (aE 0) (jE (zJ Cw (dC (.int 2)))) cR) (lQ JW (aH (Bt (aE 0) cR (jE (zJ Cw (dC (.int 2))))) bh)))
noncomputable def iV:oZ:=fun ds G Q _=>∃ p:T3,ds=[.str (wd p)]/\zy p/\Q (enc p) G
theorem wY(ds:List D)(G:Gp)(Q:DK)(h:iV ds G Q fun _ _=>False):pG (fun _ _=>False) (ends Q) (bz 2 ds) G:=by
 obtain⟨p,rfl,hp,q⟩:=h;have hl:=uJ hp;obtain⟨e1,e2⟩:=Hr p;have el:Gk.lookup (wy p.b++hd p.c)=some (p.b,p.c):=EK hp;unfold Gk at el;obtain⟨⟨l1,l3⟩,_⟩:=C5 hp.n1 hp.n2;unfold pG;simp only [EV,Bt,aE,bz,↓ax,↓a8,↓ak,↓ar,aU,↓aN,↓aR,↓aa,↓eS,zJ,dC,↓ip,↓dn,cR,lQ,aH,↓aA,↓ao,bh,ends];rw [e1,el];simp only [↓eY,↓bz,↓ends,↓cJ,↓bG,↓zJ,↓aE,↓lQ,↓oT,↓aH,↓bh,↓cm,↓xS,↓ft,↓c9,↓a6,↓dC,↓cu,↓lP,↓kn,↓ze,↓iA,↓Gv,↓zK,↓gK,↓jm,↓oS,↓km,↓wg,↓eS,↓cR,↓dh,↓jg,↓bT,↓eA,↓fe,↓lF,↓kc,↓kb,↓ka,↓jb,↓eF,↓hX,↓ip,↓mf,↓mh,↓mi,↓oM,↓fB,↓jc,↓iW,↓md,↓me,↓kq,↓ko,↓jX,↓ez,↓fW,↓fm,↓eO,↓gi,↓oI,↓oH,↓gP,↓true_and,↓and_true,↓oR,↓kR,↓dn,↓bF,↓hV,↓kg,↓oQ,↓kf,↓ax,↓a8,↓aN,↓aR,↓aa,↓ai,↓ao,↓aA,↓ak,↓ar,↓aU,↓if_true,↓if_false,↓bq,↓cj,↓av,↓eI,↓ja,↓EV,↓Bt];rw [e2];exact⟨by lia,by lia,p.a,int_at hp.n1 hp.n2,by lia,q⟩
theorem pW{xs pre post:List D}{d:D}(h:kl 0 xs=pre++d :: post):∃ x,xs[pre.length]?=some x/\d=.tup [.int pre.length,x]:=by
 have this:(kl 0 xs)[pre.length]?=(pre++d :: post)[pre.length]?:=by rw [h]
 rw [sE,bC (ay _),nI,aa] at this;obtain⟨x,hx,e⟩:=Option.map_eq_some_iff.mp this;exact⟨x,hx,by rw [<-e,r8]⟩
theorem Bj{p:Nat}{ds:List D}{G:Gp}{R:List D->(Gp->Prop)->Gp->Prop}(h:G p=some (.lst ds)):mE (.ref p) G R=R (kl 0 ds) (fun G2=>G2 p=some (.lst ds)) G:=by
 unfold mE; simp only [h]
theorem yh{p:T3}(h:zy p){c:Nat}(hc:c∈(wd p).cps.toList):c≠32/\c≠10/\c≠46:=by
 unfold wd at hc;rw [gL,gL,BQ,BQ] at hc;rcases hc with (hc | hc) | hc
 ·exact(C5 h.n1 h.n2).2.2.2.2 c hc
 ·unfold wy at hc;split at hc
  ·have:∀ c∈("o" : Str).cps.toList,c≠32/\c≠10/\c≠46:=by decide
   exact this c hc
  ·have:∀ c∈("u" : Str).cps.toList,c≠32/\c≠10/\c≠46:=by decide
   exact this c hc
 ·unfold hd at hc;split at hc
  ·have:∀ c∈("+" : Str).cps.toList,c≠32/\c≠10/\c≠46:=by decide
   exact this c hc
  ·have:∀ c∈("-" : Str).cps.toList,c≠32/\c≠10/\c≠46:=by decide
   exact this c hc
theorem Nk(p:T3):FJ (wd p):=by
 unfold wd;refine uj (uj (LF _) ?_) ?_
 ·unfold wy; split <;> exact fx _
 ·unfold hd; split <;> exact fx _
theorem Iv(r:List T3):FJ (ln r):=by
 unfold ln;split
 ·exact fx _
 ·exact vd (fx _) _ fun x hx=>by obtain⟨p,_,rfl⟩:=List.mem_map.mp hx; exact Nk p
theorem Cm:(" " : Str)=⟨#[32]⟩:=by decide
theorem Nm:("\n" : Str)=⟨#[10]⟩:=by decide
theorem CM(c:Nat):∀ (xs:List (List Nat)),∀ z,z∈jn c xs->z=c\/∃ x∈xs,z∈x
 | [],z,h=>by cases h
 | [x],z,h=>.inr ⟨x,by simp,h⟩
 | x :: y :: r,z,h=>by
  rcases List.mem_append.mp (show z∈x++c :: jn c (y :: r) from h) with h | h
  ·exact .inr ⟨x,by simp,h⟩
  ·rcases List.mem_cons.mp h with h | h
   ·exact .inl h
   ·rcases CM c (y :: r) z h with h | ⟨x',hx,hz⟩
    ·exact .inl h
    ·exact .inr ⟨x',au _ hx,hz⟩
theorem PA {r:List T3} (h:∀ p∈r,zy p) (iY:r≠[]):ln r≠".":=by
 intro e;have e1:ln r=fj " " (r.map wd):=if_neg iY;have U5:(46:Nat)∈(ln r).cps.toList:=by rw [e]; decide
 rw [e1,Cm,uq] at U5;rcases CM 32 _ _ U5 with z | ⟨x,hx,hz⟩
 ·cases z
 ·obtain⟨y,hy,rfl⟩:=List.mem_map.mp hx;obtain⟨p,hp,rfl⟩:=List.mem_map.mp hy;exact(yh (h p hp) hz).2.2 rfl
theorem LL{r:List T3}(h:∀ p∈r,zy p):(10:Nat)∉(ln r).cps.toList:=by
 unfold ln;split
 ·decide
 ·rw [Cm,uq];intro z;rcases CM 32 _ _ z with z | ⟨x,hx,hz⟩
  ·cases z
  ·obtain⟨y,hy,rfl⟩:=List.mem_map.mp hx;obtain⟨p,hp,rfl⟩:=List.mem_map.mp hy;exact(yh (h p hp) hz).2.1 rfl
noncomputable def xr:gU :=
 (cK (eT (fP (bG (GS false) (aE 0) (dC (.str ".")))) (cm (eY (kn bh))) cu)
 (cK (c9 (kn bh) (a6 2))
 (cK (jz (vH (oT Mb yH (aE 0) (aH (dC (.str " ")) bh))) (wL (jh (a6 3) (jh (a6 4) vJ))) (cK (eT (gK (fP (bT fL (aH (aE 4) bh)))) pX cu)
 (ft (oT yi my (aE 2) (aH (bT iV (aH (aE 4) bh)) bh)))))
 (cm (eY (aE 2))))))
noncomputable def oK:oZ:=fun ds G Q _=>∃ (r:List T3) (k:Int),ds=[.str (ln r),.int k]/\((∀ p∈r,zy p)/\r.length<=24)/\Q (enc r) G
theorem GD(ds:List D)(G:Gp)(Q:DK)(h:oK ds G Q fun _ _=>False):xr (fun _ _=>False) (ends Q) (bz 5 ds) G:=by
 obtain⟨r,k,rfl,⟨hg,hl⟩,q⟩:=h;unfold xr;refine fb (fun τ G'=>G'=G/\r≠[]/\τ=[some (.str (ln r)),some (.int k),none,none,none]) ?_ ?_
 ·intro N hN;simp only [eT,↓cJ,bG,aE,bz,↓ax,↓a8,↓ak,↓ar,aU,↓aN,↓aR,↓aa,dC,cm,eY,kn,bh,ends,cu];refine⟨_,_,.str _ (Iv r),.str _ (fx _),?_⟩;by_cases iY:r=[]
  ·subst iY;have:fM (.str (ln [])) (.str ".")=true:=by decide
   rw [this];simp only [↓bF,↓av,↓bq,↓if_false,↓if_true];exact⟨by decide,fun p hp=>mF (xs:=([]:List T3)) (.new hp) hp aS q⟩
  ·have:fM (.str (ln r)) (.str ".")=false:=by show (_ == _)=false; exact beq_eq_false_iff_ne.mpr (PA hg iY)
   rw [this];simp only [↓bF,↓av,↓cj,↓if_false];exact hN _ _ ⟨rfl,iY,rfl⟩
 rintro _ G ⟨rfl,iY,rfl⟩;refine fb (fun τ G'=>∃ p,G p=none/\G'=cY G p (.lst [])/\τ=[some (.str (ln r)),some (.int k),some (.ref p),none,none]) ?_ ?_
 ·intro N hN;simp only [c9,kn,bh,↓ar,a6,↓aA,↓ao];exact⟨by decide,fun p hp=>hN _ _ ⟨p,hp,rfl,rfl⟩⟩
 rintro _ _ ⟨p,hp,rfl,rfl⟩;have e1:ln r=fj " " (r.map wd):=if_neg iY;have es:wt (ln r) " " = r.map wd:=by
  rw [e1,Cm];exact uN (fun z=>iY (List.map_eq_nil_iff.mp z)) fun x hx=>by
   obtain⟨y,hy,rfl⟩:=List.mem_map.mp hx;exact fun z=>(yh (hg y hy) z).1 rfl
 refine fb (fun τ G'=>iJ G G'/\G' p=some (.lst (r.map enc))/\∃ a b,τ=[some (.str (ln r)),some (.int k),some (.ref p),a,b]) ?_ ?_
 ·intro N hN;simp only [jz,vH,oT,aE,↓aa,↓gP,aH,dC,bh,ends,↓true_and];refine⟨by decide,bf (yK hg hl) (by decide),fun b hb=>?_⟩;rw [es];have NN:b≠p:=fun z=>by rw [z,aS] at hb; cases hb
  have WS:G b=none:=by rw [cQ NN] at hb; exact hb
  dsimp only;rw [Bj aS];refine yW (fun pre τ G'=>iJ G G'/\G' b=some (.lst ((r.map wd).map D.str))/\G' p=some (.lst ((r.take pre.length).map enc))/\∃ a b,τ=[some (.str (ln r)),some (.int k),some (.ref p),a,b]) ?_ ?_ ?_ ?_
  ·exact⟨(iJ.new hp).put WS,aS,by rw [cQ NN.symm,aS]; rfl,_,_,rfl⟩
  ·rintro pre τ G' ⟨l,gb,gp,_⟩;exact gb
  ·rintro pre d post τ G' N2 e ⟨l,gb,gp,a,c,rfl⟩ we;obtain⟨x,hx,rfl⟩:=pW e;rw [a5,a5] at hx;obtain⟨y,hy,rfl⟩:=Option.map_eq_some_iff.mp hx;obtain⟨t,ht,rfl⟩:=Option.map_eq_some_iff.mp hy;have NC:=bO ht;simp only [wL,jh,a6,vJ,cK,eT,gK,↓cJ,bT,aH,aE,↓aA,↓ao,↓ai,↓aa,bh,cu,ft,oT,↓gi,↓ez];refine⟨t,rfl,hg t NC,?_⟩;simp only [↓bF,↓bq,↓av,↓gp,↓true_and,↓if_false];refine⟨t,rfl,hg t NC,?_⟩;simp only [↓gp];have ni:pre.length < r.length:=(List.getElem?_eq_some_iff.mp ht).1;refine⟨by rw [ag,du]; show _ < 16777216; lia,we _ _ ⟨l.put hp,by rw [cQ NN]; exact gb,?_,_,_,rfl⟩⟩;rw [aS,aM,bX,DS,ht,cV]; rfl
  ·rintro τ G' ⟨l,gb,gp,a,c,rfl⟩;refine hN _ _ ⟨l,?_,a,c,rfl⟩;rw [gp,jW,ag,ag,pL]
 rintro _ G1 ⟨l1,g1,a,b,rfl⟩;simp only [cm,eY,aE,↓ai,↓aa,ends];exact mF l1 hp g1 q
end K4
end K2
end
section
namespace K2
open PySem (Str)
open Enc (enc)
namespace K3
open K2.P K2.zx
theorem sN{κ β:Type} [DecidableEq κ]{l:List (κ×β)}{k:κ}(h:k∉l.map (·.1)):nG l k=none:=by
 cases e:nG l k with
 | none=>rfl
 | some v=>exact absurd (List.mem_map.mpr ⟨_,AK e,rfl⟩) h
theorem BF{κ β:Type} [DecidableEq κ]{l:List (κ×β)}{k:κ}:(nG l k).isSome=decide (k∈l.map (·.1)):=by
 by_cases h:k∈l.map (·.1)
 ·simp only [h,decide_true];obtain⟨p,hp,rfl⟩:=List.mem_map.mp h;unfold nG;rw [jC,List.find?_isSome];exact⟨p,hp,by simp⟩
 ·rw [sN h]; simp [h]
theorem yz{κ α:Type} [DecidableEq κ] [Enc κ] [oD κ] [DecidableEq α] [Enc α]{neg:Bool}{l:List (κ×α)}{k:κ}{G:Gp}{Q:DK}(hl:l≠[])(q:Q (.bl (if neg then !decide (k∈l.map (·.1)) else decide (k∈l.map (·.1)))) G):yA neg (enc k) (.p8 (eR l)) G Q:=by
 refine⟨fun z=>hl ?_,ke l k,?_⟩
 ·unfold eR at z; exact List.map_eq_nil_iff.mp z
 ·rw [qU,jC,BF]; exact q
end K3
end K2
end
section
namespace K2
open PySem (Str)
open Enc (enc)
namespace K4
open K2.P
open K2.pI (bN yy)
open K2.zx (HR HR.fz)
open K2.wm (Sz)
open K2.Oi (c7 z8)
open K2.K3 (yz DF)
noncomputable abbrev HM:=List (T2×Int)
noncomputable def tD:gU :=
 (cK (eT (gK (mL Ml Ml (dC (.int 1)) (bG qM (aE 0) (dC (.int 0))) (dC (.int 999)))) (cm (eY (dC (.str "name")))) cu)
 (cK (eT (fP (bG (yA true) (bG qM (aE 0) (dC (.int 1))) (lP (aH (dC (.int 0)) (aH (dC (.int 1)) bh))))) (cm (eY (dC (.str "way")))) cu)
 (cK (eT (fP (bG (yA true) (bG qM (aE 0) (dC (.int 2))) (lP (aH (dC (.int 1)) (aH (zJ Cw (dC (.int 1))) bh))))) (cm (eY (dC (.str "hand")))) cu)
 (cK (eT (fP (bG (yA false) (wg (aE 0) cR (jE (dC (.int 2)))) (aE 1))) (cm (eY (dC (.str "twice")))) cu)
 (cm (eY (dC .cf)))))))
noncomputable def kM:oZ:=fun ds G Q _=>∃ (p:T3) (m:HM) (q:Nat),ds=[enc p,.ref q]/\G q=some (.kB (eR m))/\zy p/\nG m p.s=none/\Q .cf G
theorem BK(ds:List D)(G:Gp)(Q:DK)(h:kM ds G Q fun _ _=>False):tD (fun _ _=>False) (ends Q) (bz 2 ds) G:=by
 obtain⟨p,m,r,rfl,gr,hp,hm,q⟩:=h;obtain⟨a,b,c⟩:=p;have e:(enc (⟨a,b,c⟩:T3):D)=.tup [.int a,.int b,.int c]:=rfl;rw [e];unfold tD;have a0:nK [D.int a,D.int b,D.int c] 0=some (.int a):=rfl;have a1:nK [D.int a,D.int b,D.int c] 1=some (.int b):=rfl;have a2:nK [D.int a,D.int b,D.int c] 2=some (.int c):=rfl;have h1:1<=a:=hp.n1;have h2:a<=999:=hp.n2;have hb:b=0\/b=1:=hp.b;have hc:c=1\/c=-1:=hp.c;simp only [cK,eT,gK,mL,dC,bG,aE,bz,↓ax,↓a8,↓ak,↓ar,↓aN,↓aR,↓aa,↓fB,↓a0,↓mh,cm,eY,ends,cu,↓cJ,↓a1,lP,aH,bh,↓a2,zJ,↓ip,wg,cR,↓eS,↓dn,↓iW,↓ai,↓cj,↓if_true];refine⟨_,rfl,?_⟩;rw [if_pos (decide_eq_true h1)];refine⟨_,rfl,?_⟩;rw [if_neg (by simp; lia)];refine⟨by decide,yy (x:=b) (xs:=[0,1]) (by decide) ?_⟩;have e1:decide (b∈[(0:Int),1])=true:=decide_eq_true (by rcases hb with rfl | rfl <;> decide);rw [e1];simp only [↓bF,↓bq,↓if_true,↓av,↓if_false];refine⟨by decide,yy (x:=c) (xs:=[1,-1]) (by decide) ?_⟩;have e2:decide (c∈[(1:Int),-1])=true:=decide_eq_true (by rcases hc with rfl | rfl <;> decide);rw [e2];simp only [↓bF,↓bq,↓if_true,↓av,↓if_false];refine⟨by decide,?_⟩;have e3:(.tup (cut [D.int a,D.int b,D.int c] none (some 2)):D)=enc (⟨a,b⟩:T2):=rfl;rw [e3];unfold yA;simp only [gr];refine⟨ke m _,?_⟩;rw [qU,show nG m (⟨a,b⟩:T2)=none from hm];simp only [↓bF,↓av,Option.map_none,Option.isSome_none,↓cj,↓if_false];exact lL q
noncomputable def sy(L:List T3):HM:=L.map fun t=>(t.s,t.c)
theorem J8{κ α:Type} [DecidableEq κ](l:List (κ×α))(k:κ)(v:α)(h:k∉l.map (·.1)):GB l k v=l++[(k,v)]:=by
 unfold GB;rw [if_neg];intro z;obtain⟨p,hp,e⟩:=List.any_eq_true.mp z;exact h (List.mem_map.mpr ⟨p,hp,of_decide_eq_true e⟩)
theorem sN{κ α:Type} [DecidableEq κ](l:List (κ×α))(k:κ)(h:k∉l.map (·.1)):nG l k=none:=by
 unfold nG;rw [List.find?_eq_none.mpr fun p hp z=>h (List.mem_map.mpr ⟨p,hp,of_decide_eq_true z⟩)];rfl
theorem L7{κ α:Type} [DecidableEq κ]{l:List (κ×α)}{k:κ}{v:α}(nd:(l.map (·.1)).Nodup)(h:(k,v)∈l):nG l k=some v:=by
 unfold nG;induction l with
 | nil=>cases h
 | cons p l ih =>
  rw [ax,lT] at nd;rcases List.mem_cons.mp h with e | h
  ·rw [<-e,jI (by simp)]; rfl
  ·have:p.1≠k:=fun z=>nd.1 (by rw [z]; exact List.mem_map.mpr ⟨_,h,rfl⟩);rw [jJ (by simpa using this)];exact ih nd.2 h
theorem vI(L:List T3):(sy L).map (·.1)=L.map T3.s:=by unfold sy; rw [dN]; rfl
noncomputable def qK:gU :=
 (cK (c9 ze (a6 1))
 (cK (jz (vH (bT fT (aH (aE 0) bh))) (wL (jh (a6 2) (jh (a6 3) vJ))) (cK (c9 (bT kM (aH (aE 3) (aH (aE 1) bh))) (a6 4))
 (cK (eT (fP (zJ (Ia true) (aE 4))) pX cu)
 (c9 (bG qM (aE 3) (dC (.int 2))) (NT (aE 1) (wg (aE 3) cR (jE (dC (.int 2)))))))))
 (cm (eY (aE 1)))))
noncomputable def jM:oZ:=fun ds G Q _=>∃ rows:Rows,ds=[enc rows]/\Dw rows/\Q (.p8 (eR (sy rows.flatten))) G
theorem zw(ds:List D)(G:Gp)(Q:DK)(h:jM ds G Q fun _ _=>False):qK (fun _ _=>False) (ends Q) (bz 5 ds) G:=by
 obtain⟨rows,rfl,dw,q⟩:=h;unfold qK;simp only [↓eI,c9,ze,jl,a6,ends,bz,↓ax,↓a8,↓ak,↓ar,aU,↓aN,↓aR,↓aA,↓ao];intro d hd;have hF:rows.flatten.length<=24:=dw.sz.f;refine fb (fun τ G'=>(∃ a b c,τ=[some (enc rows),some (.ref d),a,b,c])/\iJ G G'/\G' d=some (.kB (eR (sy rows.flatten)))) ?_ ?_
 ·intro N hN;simp only [jz,vH,bT,aH,aE,↓aa,bh];refine⟨rows,rfl,bf hF (by decide),?_⟩;refine AX ?_;refine yW (fun pre τ G'=>(∃ a b c,τ=[some (enc rows),some (.ref d),a,b,c])/\iJ G G'/\G' d=some (.kB (eR (sy (rows.flatten.take pre.length))))) ⟨⟨_,_,_,rfl⟩,.new hd,aS⟩ (fun _ _ _ _=>trivial) ?_ ?_
  ·rintro pre x post τ G' N2 e ⟨⟨a,b,c,rfl⟩,l,gd⟩ we;obtain⟨y,hy,rfl⟩:=pW e;rw [a5] at hy;obtain⟨t,ht,rfl⟩:=Option.map_eq_some_iff.mp hy;have NC:=bO ht;have ni:pre.length < rows.flatten.length:=(List.getElem?_eq_some_iff.mp ht).1;have Ko:t.s∉(sy (rows.flatten.take pre.length)).map (·.1):=by
    rw [vI];intro z;obtain⟨u,hu,eu⟩:=List.mem_map.mp z;obtain⟨i,hi,ei⟩:=cN hu;rw [du] at hi;rw [List.getElem_take] at ei;have nd:=dw.df.nd;have e1:(rows.flatten.map T3.s)[i]?=some t.s:=by rw [a5,ah (by lia),ei]; exact congrArg some eu
    have e2:(rows.flatten.map T3.s)[pre.length]?=some t.s:=by rw [a5,ht]; rfl
    have hj:pre.length < (rows.flatten.map T3.s).length:=by rw [ag]; lia
    have CT:i < (rows.flatten.map T3.s).length:=by rw [ag]; lia
    have:=(List.pairwise_iff_getElem.mp (List.nodup_iff_pairwise_ne.mp nd)) i pre.length CT hj (by lia);rw [ah CT] at e1;rw [ah hj] at e2;exact this ((bg e1).trans (bg e2).symm)
   have gp:zy t:=⟨(dw.nb t NC).1,(dw.nb t NC).2,dw.df.way t NC,dw.df.hand t NC⟩;simp only [wL,jh,a6,vJ,↓eI,c9,bT,aH,aE,↓aA,↓ao,↓ai,↓aa,bh,cK,eT,↓cJ,zJ,cu,bG,dC];refine⟨t,_,d,rfl,gd,gp,sN _ _ Ko,?_⟩;simp only [Ia,↓bF,↓bq,↓av,vR,NT,aE,↓ai,↓aa,wg,cR,↓eS,dC,↓dn,↓iW,↓ak,↓ar,N5,↓fB,at2,↓if_false];refine⟨by decide,P.Fs (k:=t.s) (v:=t.c) gd (by unfold sy; rw [ag,du]; lia) ?_⟩;refine we _ _ ⟨⟨_,_,_,rfl⟩,l.put hd,?_⟩;rw [aS,J8 _ _ _ Ko,aM,bX,DS];have Mq:rows.flatten[pre.length]?=some t:=ht;rw [Mq];unfold sy;rw [cV]; rfl
  ·rintro τ G' ⟨⟨a,b,c,rfl⟩,l,gd⟩;refine hN _ _ ⟨⟨_,_,_,rfl⟩,l,?_⟩;rw [gd,jW,ag,pL]
 rintro _ G' ⟨⟨a,b,c,rfl⟩,l,gd⟩;simp only [cm,eY,aE,↓ai,↓aa];exact NU l hd gd q
theorem Hv:∀ {m:List Int},m.Nodup->(m.flatMap fun n=>[(⟨n,0⟩:T2),⟨n,1⟩]).Nodup
 | [],_=>fk
 | n :: m,h=>by
  rw [lT] at h;rw [List.flatMap_cons,oF];refine⟨by simp,Hv h.2,fun x hx y hy e=>?_⟩;obtain⟨k,hk,hy⟩:=List.mem_flatMap.mp hy;have ey:y.a=k:=(List.mem_cons.mp hy).elim (fun z=>by rw [z]) fun z=>by rw [List.mem_singleton.mp z]
  have ex:x.a=n:=(List.mem_cons.mp hx).elim (fun z=>by rw [z]) fun z=>by rw [List.mem_singleton.mp z]
  subst e;exact h.1 (by rw [<-ex,ey]; exact hk)
theorem KR{m:List Int}(nd:m.Nodup){L:List T2}(h:∀ n∈m,∀ w:Int,w=0\/w=1->(⟨n,w⟩:T2)∈L):2 * m.length<=L.length:=by
 have h1:=tT (Hv nd) (l₂:=L) fun x hx=>by
  obtain⟨k,hk,hy⟩:=List.mem_flatMap.mp hx;rcases List.mem_cons.mp hy with z | z
  ·rw [z]; exact h k hk 0 (.inl rfl)
  ·rw [List.mem_singleton.mp z]; exact h k hk 1 (.inr rfl)
 have h2:∀ m:List Int,(m.flatMap fun n=>[(⟨n,0⟩:T2),⟨n,1⟩]).length=2 * m.length:=fun m=>by
  induction m with
  | nil=>rfl
  | cons a m ih=>rw [List.flatMap_cons,aM,ih]; simp; lia
 rw [h2] at h1;exact h1
noncomputable def ng:gU :=
 (cK (c9 (lQ sL (aH (eA 1 [] (I0 (aE 0)) (a6 0) none (bG qM (aE 0) (dC (.int 0)))) bh)) (a6 1))
 (cK (jz (mD (aE 1)) (a6 2) (cK (eT (zK (fP (bG (yA true) (lP (aH (aE 2) (aH (dC (.int 0)) bh))) (aE 0))) (fP (bG (yA true) (lP (aH (aE 2) (aH (dC (.int 1)) bh))) (aE 0)))) pX cu)
 (eT (fP (bG (GS true) (bG qM (aE 0) (lP (aH (aE 2) (aH (dC (.int 0)) bh)))) (bG qM (aE 0) (lP (aH (aE 2) (aH (dC (.int 1)) bh)))))) pX cu)))
 (eT (fP (bG RZ (lQ pz (aH (aE 1) bh)) (dC (.int 12)))) pX cu)))
noncomputable def gQ:oZ:=fun ds G Q _=>∃ rows:Rows,ds=[.p8 (eR (sy rows.flatten))]/\Dw rows/\∀ G',iJ G G'->Q .cf G'
theorem AL{rows:Rows}(dw:Dw rows){n w:Int}(hn:n∈rows.flatten.map (·.a))(hw:w=0\/w=1):∃ c,(⟨n,w,c⟩:T3)∈rows.flatten/\∀ w',w'=0\/w'=1->(⟨n,w',c⟩:T3)∈rows.flatten:=by
 obtain⟨p,hp,rfl⟩:=List.mem_map.mp hn;have all:∀ w',w'=0\/w'=1->(⟨p.a,w',p.c⟩:T3)∈rows.flatten:=fun w' h'=>by
  have m:=dw.df.IA p hp;by_cases e:w'=p.b
  ·rw [e]; exact hp
  ·have:w'=1 - p.b:=by have:=dw.df.way p hp; lia
   rw [this]; exact m
 exact⟨p.c,all w hw,all⟩
theorem ua(ds:List D)(G:Gp)(Q:DK)(h:gQ ds G Q fun _ _=>False):ng (fun _ _=>False) (ends Q) (bz 3 ds) G:=by
 obtain⟨rows,rfl,dw,q⟩:=h;have hF:rows.flatten.length<=24:=dw.sz.f;have nd:((sy rows.flatten).map (·.1)).Nodup:=by rw [vI]; exact dw.df.nd
 have key:∀ {n w c:Int},(⟨n,w,c⟩:T3)∈rows.flatten->nG (sy rows.flatten) (⟨n,w⟩:T2)=some c:=fun {n w c} h=>L7 nd (by unfold sy; exact List.mem_map.mpr ⟨⟨n,w,c⟩,h,rfl⟩);unfold ng;refine fb (fun τ G'=>iJ G G'/\∃ (m:List Int) (b:Nat),G b=none/\m.Nodup/\(∀ y,y∈m↔y∈rows.flatten.map (·.a))/\G' b=some (.lst ((HK m).map enc))/\τ=[some (.p8 (eR (sy rows.flatten))),some (.ref b),none]) ?_ ?_
 ·intro N hN;simp only [c9,lQ,aH,eA,I0,aE,bz,↓ax,↓a8,↓ak,↓ar,aU,↓aN,↓aR,↓aa,yQ,bh,a6,↓aA,↓ao];refine⟨Fm (by rw [ag]; unfold eR sy; rw [ag,ag]; lia),?_⟩;have ek:(eR (sy rows.flatten)).map (·.1)=(rows.flatten.map T3.s).map enc:=by unfold eR sy; rw [dN,dN,dN]; rfl
  rw [ek];refine iB (xs:=rows.flatten.map T3.s) (fun pre acc τ G'=>G'=G/\(∃ a,τ=[a])/\acc=(pre.map (·.a)).map D.int) ⟨rfl,⟨_,rfl⟩,rfl⟩ (fun _ _ _ _ _=>trivial) ?_ ?_
  ·rintro pre t post acc τ G' N2 e ⟨rfl,⟨a,rfl⟩,rfl⟩ we;have e2:(enc t:D)=.tup [.int t.a,.int t.b]:=rfl;rw [e2];simp only [a6,bG,aE,↓ao,↓aa,dC,↓fB,↓Vb];exact we _ _ _ ⟨rfl,⟨_,rfl⟩,by rw [cV,cV]; rfl⟩
  ·rintro acc τ G' ⟨rfl,⟨a,rfl⟩,rfl⟩ p hp;refine⟨(rows.flatten.map T3.s).map (·.a),by unfold oj; simp only [aS]; rfl,by rw [ag,ag]; lia,fun m Ov hm b hb=>?_⟩;have NN:b≠p:=fun z=>by rw [z,aS] at hb; cases hb
   refine hN _ _ ⟨(iJ.new hp).trans (.new hb),m,b,by rw [cQ NN] at hb; exact hb,Ov,fun y=>?_,aS,rfl⟩;rw [hm y,dN]; rfl
 rintro _ G1 ⟨l1,m,b,hb,Ov,hm,g1,rfl⟩;have hlen:(HK m).length<=12:=by
  rw [(qv m).length_eq];have h2:=KR Ov (L:=rows.flatten.map T3.s) fun n hn w hw=>by
   obtain⟨c,h1,_⟩:=AL dw ((hm n).mp hn) hw;exact List.mem_map.mpr ⟨_,h1,rfl⟩
  rw [ag] at h2;lia
 refine fb (fun τ G'=>G'=G1/\∃ a,τ=[some (.p8 (eR (sy rows.flatten))),some (.ref b),a]) ?_ ?_
 ·intro N hN;simp only [jz,↓dh,aE,↓ai,↓aa,ends];refine CP (IsL.ref g1) fun ok cz=>?_;refine mH (xs:=HK m) (fun pre τ G'=>G'=G1/\∃ a,τ=[some (.p8 (eR (sy rows.flatten))),some (.ref b),a]) ⟨rfl,_,rfl⟩ (fun _ _ _ h=>by rw [h.1]; exact cz _ (.refl _)) ?_ ?_
  ·rintro pre n post τ G' N2 e ⟨rfl,a,rfl⟩ we;have hn:n∈rows.flatten.map (·.a):=(hm n).mp ((qv m).mem_iff.mp (by rw [e]; simp));obtain⟨c,h0,CW⟩:=AL dw hn (w:=0) (.inl rfl);have h1:=CW 1 (.inr rfl);have iY:sy rows.flatten≠[]:=fun z=>by unfold sy at z; rw [List.map_eq_nil_iff] at z; rw [z] at h0; cases h0
   have UD:∀ {w:Int},(⟨n,w,c⟩:T3)∈rows.flatten->(⟨n,w⟩:T2)∈(sy rows.flatten).map (·.1):=fun {w} h=>by rw [vI]; exact List.mem_map.mpr ⟨_,h,rfl⟩
   have en:(enc n:D)=.int n:=rfl;rw [en];simp only [a6,cK,eT,zK,↓cJ,bG,lP,aH,aE,↓aA,↓ao,↓ai,↓aa,dC,bh,↓ak,↓ar,cu,↓if_true];refine⟨by decide,yz (k:=(⟨n,0⟩:T2)) iY ?_⟩;rw [decide_eq_true (UD h0)];simp only [↓bF,↓bq,↓if_true,↓av,↓if_false];refine⟨by decide,yz (k:=(⟨n,1⟩:T2)) iY ?_⟩;rw [decide_eq_true (UD h1)];simp only [↓bF,↓bq,↓if_true,↓av,↓yw,↓if_false];have k0:look (eR (sy rows.flatten)) (.tup [.int n,.int 0])=some (.int c):=(qU (sy rows.flatten) (⟨n,0⟩:T2)).trans (by rw [key h0]; rfl);have k1:look (eR (sy rows.flatten)) (.tup [.int n,.int 1])=some (.int c):=(qU (sy rows.flatten) (⟨n,1⟩:T2)).trans (by rw [key h1]; rfl);rw [k0,k1];refine⟨by decide,ke (sy rows.flatten) (⟨n,0⟩:T2),by decide,ke (sy rows.flatten) (⟨n,1⟩:T2),_,_,.int _,.int _,?_⟩;have:fM (.int c) (.int c)=true:=beq_self_eq_true c;rw [this];simp only [↓bF,↓bq,↓if_true,↓av,↓if_false];exact we _ _ ⟨rfl,_,rfl⟩
  ·rintro τ G' ⟨rfl,a,rfl⟩;exact hN _ _ ⟨rfl,a,rfl⟩
 rintro _ G1 ⟨rfl,a,rfl⟩;simp only [eT,↓cJ,bG,lQ,aH,aE,↓ai,↓aa,bh,dC,ends,cu];refine mS (IsL.ref g1) ?_;rw [ag];simp only [↓mi,↓bF];rw [if_neg (by simp; lia)];exact q _ l1
noncomputable def uX:gU :=
 (cK (eT (gK (mL Ml Ml (dC (.int 1)) (lQ pz (aH (aE 0) bh)) (dC (.int 3)))) pX cu)
 (cK (ft (bT gQ (aH (bT jM (aH (aE 0) bh)) bh)))
 (cm (eY (bT c7 (aH (aE 0) bh))))))
noncomputable def ma:oZ:=fun ds G Q _=>∃ rows:Rows,ds=[enc rows]/\Dw rows/\∀ p as G',HR G G' p as (rows.map bN)->Q (.ref p) G'
theorem PL{G G1 G2:Gp}{p:Nat}{as:List Nat}{rs:Rows}(l:iJ G G1)(h:HR G1 G2 p as rs):HR G G2 p as rs :=
 ⟨l.trans h.le,l.free h.fp,h.gp,h.np,h.nd,fun a ha=>l.free (h.fr a ha),h.len,h.at'⟩
theorem DH(ds:List D)(G:Gp)(Q:DK)(h:ma ds G Q fun _ _=>False):uX (fun _ _=>False) (ends Q) (bz 1 ds) G:=by
 obtain⟨rows,rfl,dw,q⟩:=h;have h3:=dw.sz.n;have h1:=dw.one;unfold uX;simp only [cK,eT,gK,mL,dC,lQ,aH,aE,bz,↓ax,↓a8,↓ak,↓ar,↓aN,↓aR,↓aa,bh,ends,cu,↓ja,ft,bT,cm,eY,↓cj,↓if_true];refine mS (IsL.enc rows) ?_;rw [ag];refine⟨_,rfl,?_⟩;rw [if_pos (decide_eq_true (by lia))];refine⟨_,rfl,?_⟩;rw [if_neg (by simp; lia)];refine⟨rows,rfl,dw,rows,rfl,dw,fun G1 l1=>?_⟩;simp only [↓eY,↓bz,↓ends,↓cJ,↓bG,↓zJ,↓aE,↓lQ,↓oT,↓aH,↓bh,↓cm,↓xS,↓ft,↓c9,↓a6,↓dC,↓cu,↓lP,↓kn,↓ze,↓iA,↓Gv,↓zK,↓gK,↓jm,↓oS,↓km,↓wg,↓eS,↓cR,↓dh,↓jg,↓bT,↓eA,↓fe,↓lF,↓kc,↓kb,↓ka,↓jb,↓eF,↓hX,↓ip,↓mf,↓mh,↓mi,↓oM,↓fB,↓jc,↓iW,↓md,↓me,↓kq,↓ko,↓jX,↓ez,↓fW,↓fm,↓eO,↓gi,↓oI,↓oH,↓gP,↓true_and,↓and_true,↓oR,↓kR,↓dn,↓bF,↓hV,↓kg,↓oQ,↓kf,↓ax,↓a8,↓aN,↓aR,↓aa,↓ai,↓ao,↓aA,↓ak,↓ar,↓aU,↓if_true,↓if_false,↓bq,↓cj,↓av,↓eI,↓ja];exact⟨rows,rfl,⟨by lia,fun r hr=>bf (dw.sz.row hr) (by decide)⟩,fun p as G2 hr=>lL (q p as G2 (PL l1 hr))⟩
noncomputable def qF:gU :=
 (cm (eY (bT ma (aH (eY (eA 2 [] (vH (oT Mb yH (aE 0) (aH (dC (.str "\n")) bh))) (wL (jh (a6 0) (jh (a6 1) vJ))) none (bT oK (aH (aE 1) (aH (aE 0) bh))))) bh))))
noncomputable def ig:oZ:=fun ds G Q _=>∃ rows:Rows,ds=[.str (tx rows)]/\Dw rows/\∀ p as G',HR G G' p as (rows.map bN)->Q (.ref p) G'
theorem zv(ds:List D)(G:Gp)(Q:DK)(h:ig ds G Q fun _ _=>False):qF (fun _ _=>False) (ends Q) (bz 1 ds) G:=by
 obtain⟨rows,rfl,dw,q⟩:=h;have h3:=dw.sz.n;have h1:=dw.one;have hg:∀ r∈rows,(∀ p∈r,zy p)/\r.length<=24:=fun r hr=>⟨fun p hp=>dw.gp hr hp,dw.sz.row hr⟩;have iY:rows≠[]:=fun z=>by rw [z] at h1; simp at h1
 have es:wt (tx rows) "\n" = rows.map ln:=by
  unfold tx;rw [Nm];exact uN (fun z=>iY (List.map_eq_nil_iff.mp z)) fun x hx=>by
   obtain⟨r,hr,rfl⟩:=List.mem_map.mp hx;exact LL (hg r hr).1
 have YF:(tx rows).length<=1000:=by
  unfold tx;have:=vE "\n" 150 (by decide) (rows.map ln) (fun x hx=>by obtain⟨r,hr,rfl⟩:=List.mem_map.mp hx; exact yK (hg r hr).1 (hg r hr).2);rw [ag] at this;lia
 unfold qF;simp only [cm,eY,bT,aH,eA,vH,oT,aE,bz,↓ax,↓a8,↓ak,↓ar,↓aN,↓aR,↓aa,↓gP,dC,bh,ends,↓true_and];refine⟨by decide,by lia,fun b hb=>?_⟩;rw [es];dsimp only;rw [Bj aS];refine⟨Fm (by rw [jW,ag,ag]; lia),?_⟩;refine EW (fun pre acc τ G'=>G'=cY G b (.lst ((rows.map ln).map D.str))/\acc=(rows.take pre.length).map enc/\∃ a c,τ=[a,c]) ⟨rfl,rfl,_,_,rfl⟩ (fun _ _ _ _ h=>by rw [h.1]; exact aS) ?_ ?_
 ·rintro pre d post acc τ G' N e ⟨rfl,rfl,a,c,rfl⟩ hN;obtain⟨x,hx,rfl⟩:=pW e;rw [a5,a5] at hx;obtain⟨y,hy,rfl⟩:=Option.map_eq_some_iff.mp hx;obtain⟨r,hr,rfl⟩:=Option.map_eq_some_iff.mp hy;simp only [wL,jh,a6,vJ,bT,aH,aE,↓ao,↓aA,↓ai,↓aa,bh];refine⟨r,_,rfl,hg r (bO hr),hN _ _ _ ⟨rfl,?_,_,_,rfl⟩⟩;rw [aM,bX,DS,hr,cV]; rfl
 ·rintro acc τ G' ⟨rfl,rfl,a,c,rfl⟩ p hp;rw [jW,ag,ag,pL];refine mF (xs:=rows) ((iJ.new hb).trans (.new hp)) ?_ aS ?_
  ·rw [cQ (fun z=>by rw [z,aS] at hp; cases hp)] at hp; exact hp
  ·exact⟨rows,rfl,dw,fun p as G2 hr=>lL (q p as G2 hr)⟩
end K4
end K2
end
section
namespace K2
open PySem (Str)
open Enc (enc)
namespace K4
open K2.P
open K2.pI (bN)
open K2.wm (Sz EF EG JH gk)
open K2.Oi (gm z8 Nb)
open K2.zx (HR HR.fz eg dv ny rg)
open K2.K3 (DF)
noncomputable def hW:gU :=
 (cK (eT (gK (fP (Bu "list" (aE 0)))) (cm (eY (dC (.bl false)))) cu)
 (cK (jz (mD (aE 0)) (a6 1) (cK (eT (gK (fP (Bu "list" (aE 1)))) (cm (eY (dC (.bl false)))) cu)
 (jz (mD (aE 1)) (a6 2) (cK (eT (zK (gK (fP (Bu "tuple" (aE 2)))) (fP (bG (GS true) (lQ pz (aH (aE 2) bh)) (dC (.int 3))))) (cm (eY (dC (.bl false)))) cu)
 (eT (gK (fP (lQ L3 (aH (eA 1 [] (mD (aE 2)) (a6 0) none (bT dv (aH (aE 0) bh))) bh)))) (cm (eY (dC (.bl false)))) cu)))))
 (cm (eY (dC (.bl true))))))
noncomputable def dF:oZ:=fun ds G Q _=>∃ (G0:Gp) (p:Nat) (as:List Nat) (rows:Rows),ds=[.ref p]/\HR G0 G p as rows/\Q (.bl true) G
theorem lR(ds:List D)(G:Gp)(Q:DK)(h:dF ds G Q fun _ _=>False):hW (fun _ _=>False) (ends Q) (bz 3 ds) G:=by
 obtain⟨G0,p,as,rows,rfl,hr,q⟩:=h;unfold hW;simp only [cK,eT,gK,↓cJ,↓iA,aE,bz,↓ax,↓a8,↓ak,↓ar,aU,↓aN,↓aR,↓aa,cm,eY,dC,ends,cu,jz,↓dh];refine EB (IsL.ref hr.gp) ?_;simp only [↓bF,beq_self_eq_true,↓bq,↓av,↓if_false];refine CP (IsL.ref hr.gp) fun ok cz=>?_;refine yW (fun pre τ G'=>iJ G G'/\∃ b c,τ=[some (.ref p),b,c]) ⟨.refl G,_,_,rfl⟩ (fun _ _ _ h=>cz _ h.1) ?_ ?_
 ·rintro pre d post τ G1 N e ⟨l1,b,c,rfl⟩ hN;obtain⟨a,ha,rfl⟩:∃ a,as[pre.length]?=some a/\D.ref a=d:=by
   have:(as.map D.ref)[pre.length]?=some d:=by rw [e,bC (ay _),nI]; rfl
   rw [a5] at this;exact Option.map_eq_some_iff.mp this
  have ni:pre.length < rows.length:=by rw [<-hr.len]; exact(List.getElem?_eq_some_iff.mp ha).1
  have ga:=l1 _ _ (hr.at' pre.length a rows[pre.length] ha (ah ni));generalize rows[pre.length]=r at ga;simp only [a6,cK,eT,gK,↓cJ,↓iA,aE,↓aA,↓ao,↓ai,↓aa,cm,eY,dC,cu,jz,↓dh];refine EB (IsL.ref ga) ?_;simp only [↓bF,beq_self_eq_true,↓bq,↓av,↓if_false];refine CP (IsL.ref ga) fun Sb NH=>?_;refine mH (xs:=r) (fun pre τ G'=>iJ G1 G'/\∃ b c,τ=[some (.ref p),b,c]) ⟨.refl _,_,_,rfl⟩ (fun _ _ _ h=>NH _ h.1) ?_ ?_
  ·rintro VQ t Ul τ G2 N2 e2 ⟨l2,b,c,rfl⟩ we;simp only [a6,cK,eT,zK,gK,↓cJ,↓iA,aE,↓aA,↓ao,vR,↓ai,↓aa,↓kf,↓bF,beq_self_eq_true,↓bq,↓av,cm,eY,dC,cu,lQ,aH,eA,↓dh,↓kR,↓ak,↓ar,bh,↓if_true,bG,↓ko,↓if_false];refine⟨_,_,.int _,.int _,?_⟩;simp only [↓bF,pV,↓if_true];refine⟨by decide,?_⟩;refine iB (xs:=[t.a,t.b,t.c]) (fun pre acc τ G'=>G2=G'/\acc=aU pre.length (D.bl true)/\∃ a,τ=[a]) ⟨rfl,rfl,_,rfl⟩ (fun _ _ _ _ _=>trivial) ?_ ?_
   ·rintro VP i Uk acc τ G3 N3 e3 ⟨rfl,rfl,a,rfl⟩ OD;simp only [a6,bT,aH,aE,↓ao,↓aa,bh];refine⟨i,rfl,OD _ _ _ ⟨rfl,?_,_,rfl⟩⟩;simp [KC]
   ·rintro acc τ G3 ⟨rfl,rfl,a,rfl⟩ p2 hp;refine⟨aU 3 true,?_,?_⟩
    ·unfold itemsOf; simp only [aS]; rfl
    ·simp only [↓bF,aU,↓ak,↓ar];exact we _ _ ⟨l2.trans (.new hp),_,_,rfl⟩
  ·rintro τ G2 ⟨l2,b,c,rfl⟩;exact hN _ _ ⟨l1.trans l2,_,_,rfl⟩
 ·rintro τ G1 ⟨l1,b,c,rfl⟩;simp only [cm,eY,dC];exact mG l1 q
theorem LW{rows:Rows}(dw:Dw rows):Dw (rows.map bN):=by
 have pf:∀ rs:Rows,(rs.map bN).flatten.Perm rs.flatten:=fun rs=>by
  induction rs with
  | nil=>exact .refl _
  | cons r rs ih=>rw [ax,dE,dE]; exact(iN r).append ih
 have p:=pf rows;exact⟨⟨by rw [ag]; exact dw.sz.n,by rw [p.length_eq]; exact dw.sz.f⟩,by rw [ag]; exact dw.one,dw.df.perm p,fun t ht=>dw.nb t (p.mem_iff.mp ht)⟩
theorem z9(r:List T3):bN (bN r)=bN r:=by
 by_cases iY:r=[]
 ·subst iY; rfl
 have hm:=pI.fX iY;have hi:r.idxOf (pI.eW r) < r.length:=List.idxOf_lt_length_of_mem hm;have hr:r[r.idxOf (pI.eW r)]=pI.eW r:=List.getElem_idxOf hi;obtain⟨t,et⟩:∃ t,bN r=pI.eW r :: t:=by
  unfold bN;rw [cA hi,hr];exact⟨_,rfl⟩
 have p:=iN r;have Jh:bN r≠[]:=by rw [et]; exact zF _ _
 have el:pI.eW (bN r)=pI.eW r:=vA _ _ (pI.iX (p.mem_iff.mpr hm)) (pI.iX (p.mem_iff.mp (pI.fX Jh)));have e0:(bN r).idxOf (pI.eW (bN r))=0:=by rw [el,et,KG]
 show (bN r).drop _++(bN r).take _=_;rw [e0,List.drop_zero,List.take_zero,cW]
theorem LZ{rows:Rows}{τ:fD}{G:Gp}{Q:DK}(sz:Sz rows)(q:Q (enc rows) G) :
  fZ (a6 0) none (eY (lQ tL (aH (aE 0) bh))) (fun _=>True) (rows.map enc) (fun _ _=>False) (sJ 1 [] τ) G [] fun xs G1=>jl G1 (.lst xs) fun x G2=>GZ G2 x Q:=by
 refine iB (xs:=rows) (fun pre acc τ G'=>G=G'/\(∃ a,τ=[a])/\acc=pre.map enc) ⟨rfl,⟨_,rfl⟩,rfl⟩ (fun _ _ _ _ _=>trivial) ?_ ?_
 ·rintro pre r post acc τ G' N e ⟨rfl,⟨a,rfl⟩,rfl⟩ hN;simp only [a6,eY,lQ,aH,aE,↓ao,↓aa,bh];refine JT (IsL.enc r) fun p hp=>mF (xs:=r) (.new hp) hp aS (hN _ _ _ ⟨rfl,⟨_,rfl⟩,?_⟩);rw [cV]; rfl
 ·rintro acc τ G' ⟨rfl,⟨a,rfl⟩,rfl⟩ p hp;exact mF (xs:=rows) (.new hp) hp aS q
theorem Iu(rows:Rows):FJ (tx rows):=vd (fx _) _ fun x hx=>by obtain⟨r,_,rfl⟩:=List.mem_map.mp hx; exact Iv r
noncomputable def HW:gU :=
 (cK (c9 (eA 1 [] (EC (bG o8 (dC (.int 1)) (bG qL (bT eg (aH (aE 0) (aH (dC (.int 0)) bh))) (dC (.int 3))))) (a6 0) none (eY (kn bh))) (a6 1))
 (cK (JM 1 (jz (mD (wg (aE 0) (jE (dC (.int 1))) (jE (dC (.int 13))))) (a6 2) (ft (bT gm (aH (aE 1) (aH (aE 2) bh))))))
 (cK (c9 (bT gk (aH (aE 1) bh)) (a6 3))
 (cK (JM 4 (c9 (eA 1 [] (mD (aE 1)) (a6 0) none (eY (lQ tL (aH (aE 0) bh)))) (a6 4)))
 (cK (c9 (bT l7 (aH (aE 4) bh)) (a6 5))
 (cK (eT (zK (gK (fP (Bu "str" (aE 5)))) (zK (fP (bG (GS true) (aE 5) (bT i8 (aH (aE 3) bh)))) (fP (bG (GS true) (aE 4) (aE 1))))) (cm (eY (dC (.bl false)))) cu)
 (cK (jz (mD (lP (aH (bT i8 (aH (aE 1) bh)) (aH (aE 5) bh)))) (a6 6) (cK (c9 (bT ig (aH (aE 6) bh)) (a6 7))
 (cK (eT (zK (gK (fP (bT dF (aH (aE 7) bh)))) (fP (bG (GS true) (aE 7) (aE 3)))) (cm (eY (dC (.bl false)))) cu)
 (ft (oT yi my (aE 7) (aH (kn bh) bh))))))
 (cm (eY (bG (GS false) (bT ig (aH (aE 5) bh)) (aE 3)))))))))))
theorem Oh(ds:List D)(G:Gp)(Q:DK)(h:xh ds G Q fun _ _=>False):HW (fun _ _=>False) (ends Q) (bz 8 ds) G:=by
 obtain⟨ns,rfl,Jg,hG,q⟩:=h;unfold HW;simp only [↓eI,c9,eA,↓jg,bG,dC,bT,aH,aE,bz,↓ax,↓a8,↓ak,↓ar,aU,↓aN,↓aR,↓aa,bh,a6,ends,↓aA,↓ao];refine⟨ns,0,rfl,by decide,?_⟩;simp only [↓eF,↓fe,↓hV];have k1:1<=1+ny ns 0 % 3:=by lia
 have k3:1+ny ns 0 % 3<=3:=by lia
 refine⟨by decide,?_⟩;generalize 1+ny ns 0 % 3=k at *;refine⟨by lia,by lia,Fm (by unfold jy; rw [ag,fF]; lia),?_⟩;unfold jy;refine iB (xs:=bW k.toNat) (fun pre acc τ G'=>(∃ a,τ=[a])/\∃ as:List Nat,acc=as.map D.ref/\as.length=pre.length/\as.Nodup/\(∀ a∈as,G a=none/\G' a=some (.lst []))/\iJ G G') ⟨⟨_,rfl⟩,[],rfl,rfl,fk,(fun a h=>by cases h),.refl G⟩ (fun _ _ _ _ _=>trivial) ?_ ?_
 ·rintro pre x post acc τ G' N e ⟨⟨a,rfl⟩,as,rfl,hl,hn,ha,le⟩ hN;simp only [a6,eY,kn,bh,↓ar,↓ao];refine⟨by decide,fun p hp=>lL ?_⟩;refine hN _ _ _ ⟨⟨_,rfl⟩,as++[p],by simp,by simp [hl],?_,?_,le.trans (.new hp)⟩
  ·rw [oF];refine⟨hn,by simp,fun a h b hb e=>?_⟩;rw [jr] at hb;subst hb e;rw [(ha a h).2] at hp; cases hp
  ·intro a h0;rcases List.mem_append.mp h0 with h | h
   ·refine⟨(ha a h).1,?_⟩;rw [cQ (fun z=>by rw [<-z,(ha a h).2] at hp; cases hp)];exact(ha a h).2
   ·rw [jr] at h;subst h;exact⟨le.free hp,aS⟩
 rintro acc τ G1 ⟨⟨a,rfl⟩,as,rfl,hl,hn,ha,le⟩ p0 EH;rw [fF] at hl;have UI:HR G (cY G1 p0 (.lst (as.map D.ref))) p0 as (aU as.length []):=by
  refine⟨le.trans (.new EH),le.free EH,aS,fun z=>?_,hn,fun a h=>(ha a h).1,by simp,fun i b r hb hr=>?_⟩
  ·rw [(ha p0 z).2] at EH; cases EH
  ·have xJ:=bO hb;have:r=[]:=List.eq_of_mem_replicate (bO hr);subst this;rw [cQ (by rintro rfl; rw [(ha b xJ).2] at EH; cases EH)];exact(ha b xJ).2
 generalize cY G1 p0 (.lst (as.map D.ref))=G2 at *;refine fb (fun τ G'=>G=G'/\∃ (a:Option D) (rows:Rows),τ=[some (.dq (ns.map D.int)),some (enc rows),a,none,none,none,none,none]/\Dw rows) ?_ ?_
 ·intro N hN;simp only [JM,jz,↓dh,wg,aE,↓aa,↓eS,dC,↓dn,↓md];intro p1 f1;have ec:cut (ns.map D.int) (some 1) (some 13)=(cut ns (some 1) (some 13)).map D.int:=rC _ _ _ _;have Tz:(cut ns (some 1) (some 13)).length<=12:=by
   unfold cut gR;simp only;rw [du];have h1:min (13:Int).toNat ns.length<=13:=Nat.min_le_left _ _;simp;lia
  rw [ec];generalize cut ns (some 1) (some 13)=cs at *;have UH:=EF (o:=.lst (cs.map D.int)) UI f1;have b1:(cY G p1 (.lst (cs.map D.int))) p1=some (.lst (cs.map D.int)):=aS;have lB:iJ G (cY G p1 (.lst (cs.map D.int))):=.new (UI.le.free f1);generalize cY G2 p1 (.lst (cs.map D.int))=G3 at *;generalize cY G p1 (.lst (cs.map D.int))=B at *;refine rg (IsL.ref b1) UH.le fun ok cz=>?_;refine mH (xs:=cs) (fun pre τ G'=>(∃ a,τ=[some (.dq (ns.map D.int)),some (.ref p0),a,none,none,none,none,none])/\∃ rows:Rows,HR B G' p0 as rows/\DF rows.flatten/\Nb rows/\rows.flatten.length=2 * pre.length/\rows.length=as.length) ⟨⟨_,rfl⟩,_,UH,JH _,by intro n hn; simp at hn,by simp,by simp⟩ (fun _ _ _ h=>by obtain⟨_,_,h,_⟩:=h; exact cz _ h.le) ?_ ?_
  ·rintro pre c post τ G' N2 e ⟨⟨a,rfl⟩,rows,hr,df,nb,fl,RQ⟩ we;have Jd:pre.length < 12:=by have:=congrArg gM e; simp at this; lia
   simp only [a6,ft,bT,aH,aE,↓aA,↓ao,↓ai,↓aa,bh];refine⟨B,p0,as,rows,c,rfl,hr,⟨by lia,by lia,by lia⟩,fun Am m hd G4 h1 h2 h3 h4 h6 h5=>?_⟩;refine we _ _ ⟨⟨_,rfl⟩,Am,h5,(df.add h3 h4).perm h2,fun n hn=>?_,?_,by lia⟩
   ·obtain⟨t,ht,rfl⟩:=List.mem_map.mp hn;rcases List.mem_cons.mp (h2.mem_iff.mp ht) with rfl | ht
    ·exact h6
    ·rcases List.mem_cons.mp ht with rfl | ht
     ·exact h6
     ·exact nb _ (List.mem_map.mpr ⟨t,ht,rfl⟩)
   ·have:=h2.length_eq;rw [ak,ak] at this;rw [aM,bX]; lia
  ·rintro τ G' ⟨⟨a,rfl⟩,rows,hr,df,nb,fl,RQ⟩;exact(EG lB hr).fz (hN _ _ ⟨rfl,a,rows,rfl,⟨by lia,by lia⟩,by lia,df,fun t ht=>nb _ (List.mem_map.mpr ⟨t,ht,rfl⟩)⟩)
 rintro _ _ ⟨rfl,a9,rows,rfl,dw⟩;have Qi:=LW dw;have tw:(rows.map bN).map bN=rows.map bN:=by rw [dN]; exact List.map_congr_left fun r _=>z9 r
 have hg:∀ r∈rows,(∀ p∈r,zy p)/\r.length<=24:=fun r hr=>⟨fun p hp=>dw.gp hr hp,dw.sz.row hr⟩;have PV:∀ r∈rows.map bN,(∀ p∈r,zy p)/\r.length<=24:=fun r hr=>⟨fun p hp=>Qi.gp hr hp,Qi.sz.row hr⟩;have Ss:∀ r∈rows,(r.map T3.s).Nodup:=fun r hr=>(dw.df.nd.sublist ((List.sublist_flatten_of_mem hr).map _));simp only [↓eI,c9,bT,aH,aE,↓ai,↓aa,bh,a6,↓aA,↓ao];refine⟨rows,rfl,⟨bf dw.sz.n (by decide),fun r hr=>⟨bf (dw.sz.row hr) (by decide),Ss r hr⟩⟩,?_⟩;refine fb (fun τ G'=>G'=G/\τ=[some (.dq (ns.map D.int)),some (enc rows),a9,some (enc (rows.map bN)),some (enc rows),none,none,none]) ?_ ?_
 ·intro N hN;simp only [JM,c9,eA,↓dh,aE,↓ai,↓aa,a6,↓aA,↓ao];exact kS ⟨Fm (by rw [ag]; have:=dw.sz.n; lia),LZ dw.sz (hN _ _ ⟨rfl,rfl⟩)⟩
 rintro _ G ⟨rfl,rfl⟩;refine fb (fun τ G'=>G'=G/\τ=[some (.dq (ns.map D.int)),some (enc rows),a9,some (enc (rows.map bN)),some (enc rows),some (.str (tx (rows.map bN))),none,none]) ?_ ?_
 ·intro N hN;simp only [c9,bT,aH,aE,↓ai,↓aa,bh,a6,↓aA,↓ao];exact⟨rows,rfl,dw,hN _ _ ⟨rfl,rfl⟩⟩
 rintro _ G ⟨rfl,rfl⟩;refine fb (fun τ G'=>G'=G/\τ=[some (.dq (ns.map D.int)),some (enc rows),a9,some (enc (rows.map bN)),some (enc rows),some (.str (tx (rows.map bN))),none,none]) ?_ ?_
 ·intro N hN;simp only [eT,zK,gK,↓cJ,↓iA,aE,↓ai,↓aa,cm,eY,dC,cu,↓if_true,bG,bT,aH,bh];refine⟨_,rfl,?_⟩;have tt:∀ G:Gp,Ce (D.bl true) G=some true:=fun _=>rfl;simp only [tt,bq,av,if_false,↓eY,↓bz,↓ends,↓cJ,↓bG,↓zJ,↓aE,↓lQ,↓oT,↓aH,↓bh,↓cm,↓xS,↓ft,↓c9,↓a6,↓dC,↓cu,↓lP,↓kn,↓ze,↓iA,↓Gv,↓zK,↓gK,↓jm,↓oS,↓km,↓wg,↓eS,↓cR,↓dh,↓jg,↓bT,↓eA,↓fe,↓lF,↓kc,↓kb,↓ka,↓jb,↓eF,↓hX,↓ip,↓mf,↓mh,↓mi,↓oM,↓fB,↓jc,↓iW,↓md,↓me,↓kq,↓ko,↓jX,↓ez,↓fW,↓fm,↓eO,↓gi,↓oI,↓oH,↓gP,↓true_and,↓and_true,↓oR,↓kR,↓dn,↓bF,↓hV,↓kg,↓oQ,↓kf,↓ax,↓a8,↓aN,↓aR,↓aa,↓ai,↓ao,↓aA,↓ak,↓ar,↓aU,↓if_true,↓if_false,↓bq,↓cj,↓av,↓eI,↓ja];refine⟨⟨Qi.sz.n,PV⟩,_,_,.str _ (Iu _),.str _ (Iu _),?_⟩;have e1:fM (.str (tx (rows.map bN))) (.str (tx (rows.map bN)))=true:=beq_self_eq_true _;rw [e1];simp only [↓bF,↓bq,↓if_true,↓av,↓if_false];refine⟨_,_,Enc.sn G 8 rows (by decide),Enc.sn G 8 rows (by decide),?_⟩;rw [Enc.eqv,decide_eq_true rfl];simp only [↓bF,↓bq,↓if_true,↓av,↓if_false];exact hN _ _ ⟨rfl,rfl⟩
 rintro _ G ⟨rfl,rfl⟩;refine fb (fun τ G'=>iJ G G'/\∃ a b,τ=[some (.dq (ns.map D.int)),some (enc rows),a9,some (enc (rows.map bN)),some (enc rows),some (.str (tx (rows.map bN))),a,b]) ?_ ?_
 ·intro N hN;simp only [jz,↓dh,lP,aH,bT,aE,↓ai,↓aa,bh,↓ak,↓ar,↓kR];refine⟨rows,rfl,⟨dw.sz.n,hg⟩,?_⟩;simp only [↓eY,↓bz,↓ends,↓cJ,↓bG,↓zJ,↓aE,↓lQ,↓oT,↓aH,↓bh,↓cm,↓xS,↓ft,↓c9,↓a6,↓dC,↓cu,↓lP,↓kn,↓ze,↓iA,↓Gv,↓zK,↓gK,↓jm,↓oS,↓km,↓wg,↓eS,↓cR,↓dh,↓jg,↓bT,↓eA,↓fe,↓lF,↓kc,↓kb,↓ka,↓jb,↓eF,↓hX,↓ip,↓mf,↓mh,↓mi,↓oM,↓fB,↓jc,↓iW,↓md,↓me,↓kq,↓ko,↓jX,↓ez,↓fW,↓fm,↓eO,↓gi,↓oI,↓oH,↓gP,↓true_and,↓and_true,↓oR,↓kR,↓dn,↓bF,↓hV,↓kg,↓oQ,↓kf,↓ax,↓a8,↓aN,↓aR,↓aa,↓ai,↓ao,↓aA,↓ak,↓ar,↓aU,↓if_true,↓if_false,↓bq,↓cj,↓av,↓eI,↓ja];refine⟨by decide,?_⟩;refine yW (fun pre τ G'=>iJ G G'/\∃ a b,τ=[some (.dq (ns.map D.int)),some (enc rows),a9,some (enc (rows.map bN)),some (enc rows),some (.str (tx (rows.map bN))),a,b]) ⟨.refl _,_,_,rfl⟩ (fun _ _ _ _=>trivial) ?_ ?_
  ·rintro pre d post τ G1 N2 e ⟨l1,a,b,rfl⟩ we;obtain⟨rs,rfl,dr,er⟩:∃ rs:Rows,d=.str (tx rs)/\Dw rs/\rs.map bN=rows.map bN:=by
    have:d∈[D.str (tx rows),D.str (tx (rows.map bN))]:=by rw [e]; simp
    rcases List.mem_cons.mp this with z | z
    ·exact⟨rows,z,dw,rfl⟩
    ·exact⟨rows.map bN,List.mem_singleton.mp z,Qi,tw⟩
   simp only [a6,↓eI,c9,bT,aH,aE,↓aA,↓ao,↓ai,↓aa,bh,cK,eT,zK,gK,↓cJ,cm,eY,dC,cu,ft,oT,kn,↓ar,↓if_true,bG];refine⟨rs,rfl,dr,fun p as G2 hr=>?_⟩;rw [er] at hr;simp only [↓gi,↓ez];refine⟨_,p,as,_,rfl,hr,?_⟩;simp only [↓bF,↓bq,↓av,↓if_false];refine⟨_,_,z8 hr,Enc.sn G2 8 _ (by decide),?_⟩;rw [Enc.eqv,decide_eq_true rfl];simp only [↓bF,↓bq,↓if_true,↓av,↓hr.gp,↓true_and,↓if_false];refine⟨by decide,fun b2 Mx=>?_⟩;have NN:p≠b2:=fun z=>by rw [<-z,hr.gp] at Mx; cases Mx
   rw [cQ NN,hr.gp];refine⟨?_,we _ _ ⟨?_,_,_,rfl⟩⟩
   ·rw [ag,hr.len,ag]; have:=dw.sz.n; show _ < 16777216; lia
   ·exact((l1.trans hr.le).trans (.new Mx)).put (l1.free hr.fp)
  ·rintro τ G1 ⟨l1,a,b,rfl⟩;exact hN _ _ ⟨l1,a,b,rfl⟩
 rintro _ G1 ⟨l1,a,b,rfl⟩;simp only [cm,eY,bG,bT,aH,aE,↓ai,↓aa,bh];refine⟨rows.map bN,rfl,Qi,fun p as G2 hr=>?_⟩;rw [tw] at hr;refine⟨_,_,z8 hr,Enc.sn G2 8 _ (by decide),?_⟩;rw [Enc.eqv,decide_eq_true rfl];simp only [↓av,↓bq,↓if_false];exact lL (q _)
end K4
end K2
end
namespace Fin
open PySem PySem.Spec PyProof.Rows L2 K2
open K2.zx (eg tP dv rN)
open K2.K3 (dS rP g8 tO)
open K2.K4
open K2.Oi (lE x5 c7 oB gm rQ)
open K2.wm (i9 tN gk rO)
open K2.P (fT oC)
noncomputable def top(i:Nat):Stmt:=PySem.Challenge.pw_knotwise_k04_texts_written_and_read.main.body.getD i (.Pass ⟨0,0,0,0⟩)
noncomputable def Sv(i j:Nat):Stmt:=match top i with | .ClassDef _ _ _ b _ _ _ _ _ _ _=>b.getD j (.Pass ⟨0,0,0,0⟩) | s=>s
section
variable {P:bx} {w:World} {K:af} {mg:Str->Option Value} {base:Heap}
theorem Ab:cg ["_law_script","_law_k"] ["_law_script","_law_k"] (aW (top 29)):=sU
theorem A7 {f:Addr} {fd:aG} (F:o3 K "_law_cell" "_law_cell" (top 29) f fd) (dW:mg "len" = none):fE P w K mg base gW 1 f fd ["_law_script","_law_k"] (cZ K eg) :=
 tF F Ab tP fun _ _ _ _ _ _ hr=>have hu:=hr.units; have S4:=hr.Ht; (aO (dU (dG (Ip S4) (ck 1) (dH gx rfl dW lu (aB (ck 0) aL)) (iy _)) (aQ (bM (bV (fV hu (ck 0) (ck 1) (fun _ _=>rfl))))) cy)
 (aQ (bM (bV bb))))
theorem qy:cg ["_law_rows","_law_used","_law_row","_law_passing"] ["_law_rows"] (aW (top 34)):=sU
theorem y0 {f:Addr} {fd:aG} (F:o3 K "_law_names" "_law_names" (top 34) f fd) (jV:mg "sorted" = none):fE P w K mg base gW 1 f fd ["_law_rows"] (cZ K dS) :=
 tF F qy rP fun _ _ _ _ _ _ hr=>have nd:=qy.nd; have hu:=hr.units; (aO (wc (i:=1) nd rfl (kP aL))
 (aO (gS cI rfl (eZ (ck 0)) (rW (i:=2) nd rfl) (aQ (gS cI rfl (eZ (ck 2)) (rW (i:=3) nd rfl) (aQ (dU (dG (lG hu) (fV hu (ck 3) bb (fun _ _=>rfl)) (ck 1) (by with_unfolding_all rfl)) (aQ (iq (iw cO iE iD i7 mw (ck 1) (aB (fV hu (ck 3) bb (fun _ _=>rfl)) aL)))) cy)))))
 (aQ (bM (bV (dH (zj rfl hu) rfl jV xW (aB (ck 1) aL)))))))
theorem sW:cg ["_law_rows","_law_cell_here","_law_name_here"] ["_law_rows","_law_cell_here"] (aW (top 35)):=sU
theorem A5 {f:Addr} {fd:aG} (F:o3 K "_law_name" "_law_name" (top 35) f fd) {Be:Addr} {Bq:aG} (kW:tQ P w K mg base gW 1 Be Bq "_law_names" ["_law_rows"] (cZ K dS)):fE P w K mg base gW 2 f fd ["_law_rows","_law_cell_here"] (cZ K g8) :=
 tF F sW tO fun _ _ _ _ _ _ hr=>have nd:=sW.nd; have hu:=hr.units; (aO (wc (i:=2) nd rfl (c8 kQ bb (c8 ix (c8 ix (c8 uh (ck 1) bb) bb) bb)))
 (aO (FE cI (dG (Iq hu) (ck 2) (bL kW.ok (hr.mono (by decide)) rfl kW.mg kW.kp kW.bi (aB (ck 0) aL)) (by with_unfolding_all rfl)) (aQ (wc (i:=2) nd rfl (c8 kQ (c8 ix (ck 2) bb) bb))))
 (aQ (bM (bV (ck 2))))))
theorem qz:cg ["_law_rows","_law_cell_here","_law_name_here","_law_hand","_law_over","_law_under"] ["_law_rows","_law_cell_here"] (aW (top 36)):=sU
theorem y7 {f:Addr} {fd:aG} (F:o3 K "_law_cross" "_law_cross" (top 36) f fd) (dW:mg "len" = none) {C9:Addr} {Dl:aG} (mO:tQ P w K mg base gW 2 C9 Dl "_law_name" ["_law_rows","_law_cell_here"] (cZ K g8)):fE P w K mg base gW 3 f fd ["_law_rows","_law_cell_here"] (cZ K gm) :=
 tF F qz rQ fun _ _ _ _ _ _ hr=>have nd:=qz.nd; have hu:=hr.units; (aO (wc (i:=2) nd rfl (bL mO.ok (hr.mono (by decide)) rfl mO.mg mO.kp mO.bi (aB (ck 0) (aB (ck 1) aL))))
 (aO (wc (i:=3) nd rfl (c8 LC (c8 uh bb (c8 ix (ck 1) bb)) bb))
 (aO (wc (i:=4) nd rfl (fV hu (ck 0) (c8 ix (c8 vb (ck 1) bb) (dH gx rfl dW lu (aB (ck 0) aL))) (fun _ _=>rfl)))
 (aO (iq (iw cO BN BM i7 vg (ck 4) (aB (c8 ix (c8 ix (c8 uh (ck 1) bb) bb) (c8 kQ (dH gx rfl dW lu (aB (ck 4) aL)) bb)) (aB (jO (aB (ck 2) (aB bb (aB (ck 3) aL)))) aL))))
 (aO (wc (i:=5) nd rfl (fV hu (ck 0) (c8 ix (c8 vb (ck 1) bb) (dH gx rfl dW lu (aB (ck 0) aL))) (fun _ _=>rfl)))
 (aQ (iq (iw cO BN BM i7 vg (ck 5) (aB (c8 ix (c8 ix (c8 uh (ck 1) bb) bb) (c8 kQ (dH gx rfl dW lu (aB (ck 5) aL)) bb)) (aB (jO (aB (ck 2) (aB bb (aB (ck 3) aL)))) aL))))))))))
theorem sV:cg ["_law_row","_law_best","_law_k"] ["_law_row"] (aW (top 32)):=sU
theorem A4 {f:Addr} {fd:aG} (F:o3 K "_law_seat" "_law_seat" (top 32) f fd) (dW:mg "len" = none) (lI:mg "range" = none):fE P w K mg base gW 1 f fd ["_law_row"] (cZ K i9) :=
 tF F sV tN fun _ _ _ _ _ _ hr=>have nd:=sV.nd; have hu:=hr.units; have S4:=hr.Ht; (aO (wc (i:=1) nd rfl bb)
 (aO (gS cI rfl (uZ rfl lI (dH gx rfl dW lu (aB (ck 0) aL))) (rW (i:=2) nd rfl) (aQ (dU (dG (Ip S4) (gv (fV hu (ck 0) (ck 2) (fun _ _=>rfl)) fC (eQ bb)) (gv (fV hu (ck 0) (ck 1) (fun _ _=>rfl)) fC (eQ bb)) (iy _)) (aQ (wc (i:=1) nd rfl (ck 2))) cy)))
 (aQ (bM (bV (c8 kQ (gv (ck 0) (eQ (ck 1)) fC) (gv (ck 0) fC (eQ (ck 1)))))))))
theorem yo:cg ["_law_rows"] ["_law_rows"] (aW (top 33)):=sU
theorem yZ {f:Addr} {fd:aG} (F:o3 K "_law_seats" "_law_seats" (top 33) f fd) {C8:Addr} {Dk:aG} (mM:tQ P w K mg base gW 1 C8 Dk "_law_seat" ["_law_row"] (cZ K i9)):fE P w K mg base gW 2 f fd ["_law_rows"] (cZ K gk) :=
 tF F yo rO fun _ _ _ _ _ _ hr=>(aQ (bM (bV (iu ["_law_row"] (sc:=aW (top 33)) (XN:=["_law_rows"]) (eZ (ck 0)) (fun _ _ _ _=>(rW (i:=0) (show (["_law_row"]:List Str).Nodup by decide +kernel) rfl)) (fun _ _ _ _=>.none) (fun _ _ _ _=>(bL mM.ok (hr.mono (by decide)) rfl mM.mg mM.kp mM.bi (aB (ck 0) aL)))))))
theorem xl:cg ["row","start"] ["row"] (aW (top 9)):=sU
theorem Ge {f:Addr} {fd:aG} (F:o3 K "seated" "seated" (top 9) f fd) (CD:mg "min" = none):fE P w K mg base gW 1 f fd ["row"] (cZ K lE) :=
 tF F xl x5 fun _ _ _ _ _ _ hr=>have nd:=xl.nd; have hu:=hr.units; (aO (dU (gq (fI (ck 0))) (aQ (bM (bV (kP aL)))) cy)
 (aO (wc (i:=1) nd rfl (iw cO B5 PySem.F.type_list_index i7 (FL hu) (ck 0) (aB (dH (Gx rfl hu) rfl CD N9 (aB (ck 0) aL)) aL)))
 (aQ (bM (bV (c8 kQ (gv (ck 0) (eQ (ck 1)) fC) (gv (ck 0) fC (eQ (ck 1)))))))))
theorem uS:cg ["rows"] ["rows"] (aW (top 10)):=sU
theorem vO {f:Addr} {fd:aG} (F:o3 K "seated_rows" "seated_rows" (top 10) f fd) {Jx:Addr} {JI:aG} (rF:tQ P w K mg base gW 1 Jx JI "seated" ["row"] (cZ K lE)):fE P w K mg base gW 2 f fd ["rows"] (cZ K c7) :=
 tF F uS oB fun _ _ _ _ _ _ hr=>(aQ (bM (bV (iu ["row"] (sc:=aW (top 10)) (XN:=["rows"]) (eZ (ck 0)) (fun _ _ _ _=>(rW (i:=0) (show (["row"]:List Str).Nodup by decide +kernel) rfl)) (fun _ _ _ _=>.none) (fun _ _ _ _=>(bL rF.ok (hr.mono (by decide)) rfl rF.mg rF.kp rF.bi (aB (ck 0) aL)))))))
theorem uR:cg ["passing","name","way","hand"] ["passing"] (aW (top 22)):=sU
theorem C0 {f:Addr} {fd:aG} (F:o3 K "word_of" "word_of" (top 22) f fd):fE P w K mg base gW 1 f fd ["passing"] (cZ K l0) :=
 tF F uR DD fun _ _ _ _ _ _ hr=>have nd:=uR.nd; have hu:=hr.units; (aO (wc (i:=1) nd rfl (fV hu (ck 0) bb (fun _ _=>rfl)))
 (aO (wc (i:=2) nd rfl (Ij (dG (vc hu) (fV hu (ck 0) bb (fun _ _=>rfl)) bb (iy _)) eK eK))
 (aO (wc (i:=3) nd rfl (Ij (dG (vc hu) (fV hu (ck 0) bb (fun _ _=>rfl)) bb (iy _)) eK eK))
 (aQ (bM (bV (Ik (yB (ck 1) (yB (ck 2) (yB (ck 3) Lp))))))))))
theorem Cu:cg ["row"] ["row"] (aW (top 21)):=sU
theorem C2 {f:Addr} {fd:aG} (F:o3 K "line_of" "line_of" (top 21) f fd) {qt:Tok} (uM:mg "POINT" = some (.str "." qt)) {Gg:Addr} {Gn:aG} (oU:tQ P w K mg base gW 1 Gg Gn "word_of" ["passing"] (cZ K l0)):fE P w K mg base gW 2 f fd ["row"] (cZ K l8) :=
 tF F Cu DG fun _ _ _ _ _ _ hr=>(aO (dU (gq (fI (ck 0))) (aQ (bM (bV (u6 rfl uM)))) cy)
 (aQ (bM (bV (iw eL jH jF oJ qQ eK (aB (iu ["passing"] (sc:=aW (top 21)) (XN:=["row"]) (eZ (ck 0)) (fun _ _ _ _=>(rW (i:=0) (show (["passing"]:List Str).Nodup by decide +kernel) rfl)) (fun _ _ _ _=>.none) (fun _ _ _ _=>(bL oU.ok (hr.mono (by decide)) rfl oU.mg oU.kp oU.bi (aB (ck 0) aL)))) aL))))))
theorem Ct:cg ["drawing"] ["drawing"] (aW (top 20)):=sU
theorem C1 {f:Addr} {fd:aG} (F:o3 K "text_of" "text_of" (top 20) f fd) {lh:Addr} {lj:aG} (dA:tQ P w K mg base gW 2 lh lj "seated_rows" ["rows"] (cZ K c7)) {Gi:Addr} {Gs:aG} (oW:tQ P w K mg base gW 2 Gi Gs "line_of" ["row"] (cZ K l8)):fE P w K mg base gW 3 f fd ["drawing"] (cZ K l7) :=
 tF F Ct DE fun _ _ _ _ _ _ hr=>(aQ (bM (bV (iw eL jH jF oJ qQ eK (aB (iu ["row"] (sc:=aW (top 20)) (XN:=["drawing"]) (eZ (bV (bL dA.ok (hr.mono (by decide)) rfl dA.mg dA.kp dA.bi (aB (ck 0) aL)))) (fun _ _ _ _=>(rW (i:=0) (show (["row"]:List Str).Nodup by decide +kernel) rfl)) (fun _ _ _ _=>.none) (fun _ _ _ _=>(bL oW.ok (hr.mono (by decide)) rfl oW.mg oW.kp oW.bi (aB (ck 0) aL)))) aL)))))
theorem sX:cg ["_law_row","_law_words","_law_name_here","_law_way","_law_hand"] ["_law_row"] (aW (top 37)):=sU
theorem A6 {f:Addr} {fd:aG} (F:o3 K "_law_line" "_law_line" (top 37) f fd) (so:mg "str" = none):fE P w K mg base gW 1 f fd ["_law_row"] (cZ K kL) :=
 tF F sX BJ fun _ _ _ _ _ _ hr=>have nd:=sX.nd; (aO (wc (i:=1) nd rfl (kP aL))
 (aO (gS cI rfl (eZ (ck 0)) (uf rfl (gu (rW (i:=2) nd rfl) (gu (rW (i:=3) nd rfl) (gu (rW (i:=4) nd rfl) qO))) (gw (gw (gw rh)))) (aQ (iq (iw cO iE iD i7 mw (ck 1) (aB (c8 AD (c8 AD (pP Gw rfl so JY (aB (ck 2) aL)) (yC eK (ck 3))) (yC eK (c8 vb (c8 kQ (ck 4) bb) bb))) aL)))))
 (aO (dU (gq (fI (ck 1))) (aQ (bM (bV eK))) cy)
 (aQ (bM (bV (iw eL jH jF oJ qQ eK (aB (ck 1) aL))))))))
theorem Aa:cg ["_law_rows"] ["_law_rows"] (aW (top 38)):=sU
theorem A3 {f:Addr} {fd:aG} (F:o3 K "_law_text" "_law_text" (top 38) f fd) {Dc:Addr} {Dm:aG} (mP:tQ P w K mg base gW 1 Dc Dm "_law_line" ["_law_row"] (cZ K kL)):fE P w K mg base gW 2 f fd ["_law_rows"] (cZ K i8) :=
 tF F Aa BI fun _ _ _ _ _ _ hr=>(aQ (bM (bV (iw eL jH jF oJ qQ eK (aB (iu ["_law_row"] (sc:=aW (top 38)) (XN:=["_law_rows"]) (eZ (ck 0)) (fun _ _ _ _=>(rW (i:=0) (show (["_law_row"]:List Str).Nodup by decide +kernel) rfl)) (fun _ _ _ _=>.none) (fun _ _ _ _=>(bL mP.ok (hr.mono (by decide)) rfl mP.mg mP.kp mP.bi (aB (ck 0) aL)))) aL)))))
theorem nc:cg ["hands","names","name"] ["hands"] (aW (top 14)):=sU
theorem tW {f:Addr} {fd:aG} (F:o3 K "refuse_names" "refuse_names" (top 14) f fd) (dW:mg "len" = none) (CC:mg "set" = none) (jV:mg "sorted" = none) {iM:Tok} (rE:mg "MOST_CROSSINGS" = some (.int 12 iM)):fE P w K mg base gW 1 f fd ["hands"] (cZ K gQ) :=
 tF F nc ua fun _ _ _ _ _ _ hr=>have nd:=nc.nd; have hu:=hr.units; (aO (wc (i:=1) nd rfl (u5 rfl hu rfl jV rfl CC (aB (iu ["spot"] (sc:=aW (top 14)) (XN:=["hands","names","name"]) (Ie (ck 0)) (fun _ _ _ _=>(rW (i:=0) (show (["spot"]:List Str).Nodup by decide +kernel) rfl)) (fun _ _ _ _=>.none) (fun _ _ _ _=>(fV hu (ck 0) bb (fun _ _=>rfl)))) aL)))
 (aO (gS cI rfl (eZ (ck 1)) (rW (i:=2) nd rfl) (aO (dU (Ku.pt (sg (dG (lG hu) (jO (aB (ck 2) (aB bb aL))) (ck 0) (by with_unfolding_all rfl)) (qN (dG (lG hu) (jO (aB (ck 2) (aB bb aL))) (ck 0) (by with_unfolding_all rfl))))) (aQ jT) cy)
 (aQ (dU (dG (va hu) (fV hu (ck 0) (jO (aB (ck 2) (aB bb aL))) (fun _ _=>rfl)) (fV hu (ck 0) (jO (aB (ck 2) (aB bb aL))) (fun _ _=>rfl)) (iy _)) (aQ jT) cy))))
 (aQ (dU (dG Nj (dH gx rfl dW lu (aB (ck 1) aL)) (ug rfl rE) (iy _)) (aQ jT) cy))))
theorem nY:cg ["rows","passings","row"] ["rows"] (aW (top 8)):=sU
theorem vP {f:Addr} {fd:aG} (F:o3 K "passings_of" "passings_of" (top 8) f fd):fE P w K mg base gW 1 f fd ["rows"] (cZ K fT) :=
 tF F nY oC fun _ _ _ _ _ _ hr=>have nd:=nY.nd; (aO (wc (i:=1) nd rfl (kP aL))
 (aO (gS cI rfl (eZ (ck 0)) (rW (i:=2) nd rfl) (aQ (iq (iw cO PySem.F.slot_list_extend PySem.F.type_list_extend i7 CF (ck 1) (aB (ck 2) aL)))))
 (aQ (bM (bV (ck 1))))))
theorem Af:cg ["passing","hands"] ["passing","hands"] (aW (top 13)):=sU
theorem A8 {f:Addr} {fd:aG} (F:o3 K "fault_of" "fault_of" (top 13) f fd) {jx:Tok} (sI:mg "GREATEST_NAME" = some (.int 999 jx)):fE P w K mg base gW 1 f fd ["passing","hands"] (cZ K kM) :=
 tF F Af BK fun _ _ _ _ _ _ hr=>have hu:=hr.units; (aO (dU (gq (si sk sk bb (fV hu (ck 0) bb (fun _ _=>rfl)) (ug rfl sI))) (aQ (bM (bV eK))) cy)
 (aO (dU (dG (lG hu) (fV hu (ck 0) bb (fun _ _=>rfl)) (jO (aB bb (aB bb aL))) (by with_unfolding_all rfl)) (aQ (bM (bV eK))) cy)
 (aO (dU (dG (lG hu) (fV hu (ck 0) bb (fun _ _=>rfl)) (jO (aB bb (aB (u3 qo bb) aL))) (by with_unfolding_all rfl)) (aQ (bM (bV eK))) cy)
 (aO (dU (dG (Iq hu) (gv (ck 0) fC (eQ bb)) (ck 1) (by with_unfolding_all rfl)) (aQ (bM (bV eK))) cy)
 (aQ (bM (bV Ei)))))))
theorem qA:cg ["rows","hands","place","passing","word"] ["rows"] (aW (top 12)):=sU
theorem y8 {f:Addr} {fd:aG} (F:o3 K "hands_met" "hands_met" (top 12) f fd) (dZ:mg "enumerate" = none) {wO:Addr} {wU:aG} (i4:tQ P w K mg base gW 1 wO wU "passings_of" ["rows"] (cZ K fT)) {Df:Addr} {Dq:aG} (mR:tQ P w K mg base gW 1 Df Dq "fault_of" ["passing","hands"] (cZ K kM)):fE P w K mg base gW 2 f fd ["rows"] (cZ K jM) :=
 tF F qA zw fun _ _ _ _ _ _ hr=>have nd:=qA.nd; have hu:=hr.units; (aO (wc (i:=1) nd rfl Lw)
 (aO (gS cI rfl (u0 rfl dZ (bL i4.ok (hr.mono (by decide)) rfl i4.mg i4.kp i4.bi (aB (ck 0) aL))) (uf rfl (gu (rW (i:=2) nd rfl) (gu (rW (i:=3) nd rfl) qO)) (gw (gw rh))) (aO (wc (i:=4) nd rfl (bL mR.ok (hr.mono (by decide)) rfl mR.mg mR.kp mR.bi (aB (ck 3) (aB (ck 1) aL))))
 (aO (dU (FC (ck 4)) (aQ jT) cy)
 (aQ (Lo (fV hu (ck 3) bb (fun _ _=>rfl)) (Lr hu (ck 1) (gv (ck 3) fC (eQ bb))))))))
 (aQ (bM (bV (ck 1))))))
theorem Cv:cg ["rows"] ["rows"] (aW (top 11)):=sU
theorem C3 {f:Addr} {fd:aG} (F:o3 K "checked" "checked" (top 11) f fd) (dW:mg "len" = none) {j6:Tok} (t6:mg "MOST_STRINGS" = some (.int 3 j6)) {vQ:Addr} {vU:aG} (iC:tQ P w K mg base gW 1 vQ vU "refuse_names" ["hands"] (cZ K gQ)) {Bg:Addr} {Bs:aG} (kY:tQ P w K mg base gW 2 Bg Bs "hands_met" ["rows"] (cZ K jM)) {lh:Addr} {lj:aG} (dA:tQ P w K mg base gW 2 lh lj "seated_rows" ["rows"] (cZ K c7)):fE P w K mg base gW 3 f fd ["rows"] (cZ K ma) :=
 tF F Cv DH fun _ _ _ _ _ _ hr=>(aO (dU (gq (si sk sk bb (dH gx rfl dW lu (aB (ck 0) aL)) (ug rfl t6))) (aQ jT) cy)
 (aO (iq (bL iC.ok (hr.mono (by decide)) rfl iC.mg iC.kp iC.bi (aB (bL kY.ok (hr.mono (by decide)) rfl kY.mg kY.kp kY.bi (aB (ck 0) aL)) aL)))
 (aQ (bM (bV (bL dA.ok (hr.mono (by decide)) rfl dA.mg dA.kp dA.bi (aB (ck 0) aL)))))))
theorem uQ:cg ["figures"] ["figures"] (aW (top 26)):=sU
theorem vN {f:Addr} {fd:aG} (F:o3 K "writes_name" "writes_name" (top 26) f fd) (su:mg "all" = none) (dW:mg "len" = none) {se:Tok} (Ck:mg "FIGURES" = some (.str "0123456789" se)) {j7:Tok} (t7:mg "MOST_FIGURES" = some (.int 3 j7)):fE P w K mg base gW 1 f fd ["figures"] (cZ K ie) :=
 tF F uQ vW fun _ _ _ _ _ _ hr=>have hu:=hr.units; (aO (dU (Ku.pt (sg (gq (si sk sk bb (dH Dt rfl dW lu (aB (ck 0) aL)) (ug rfl t7))) (qN (dG (vc hu) (yC (ck 0) bb) eK (iy _))))) (aQ (bM (bV oa))) cy)
 (aQ (bM (bV (dH (xV rfl) rfl su J0 (aB (iu ["figure"] (sc:=aW (top 26)) (XN:=["figures"]) (Lq (ck 0)) (fun _ _ _ _=>(rW (i:=0) (show (["figure"]:List Str).Nodup by decide +kernel) rfl)) (fun _ _ _ _=>.none) (fun _ _ _ _=>(Ej LD (ck 0) (u6 rfl Ck) (by with_unfolding_all rfl)))) aL))))))
theorem qx:cg ["word"] ["word"] (aW (top 25)):=sU
theorem rn {f:Addr} {fd:aG} (F:o3 K "writes_passing" "writes_passing" (top 25) f fd) {iP:Addr} {kj:List (Str×Tok×Addr)} (pS:mg "ENDINGS" = some (.ref iP)) (fU:Dz w K iP kj [("o+",0,1),("o-",0,-1),("u+",1,1),("u-",1,-1)]) {wN:Addr} {wR:aG} (iZ:tQ P w K mg base gW 1 wN wR "writes_name" ["figures"] (cZ K ie)):fE P w K mg base gW 2 f fd ["word"] (cZ K fL) :=
 tF F qx rM fun _ _ _ _ _ _ hr=>(aQ (bM (bV (Ek (Lv fU rfl pS (mj (ck 0) (eQ (u3 qo bb)) fC)) (Eh (bL iZ.ok (hr.mono (by decide)) rfl iZ.mg iZ.kp iZ.bi (aB (mj (ck 0) fC (eQ (u3 qo bb))) aL)))))))
theorem pF:cg ["word","ending"] ["word"] (aW (top 27)):=sU
theorem wM {f:Addr} {fd:aG} (F:o3 K "passing_of" "passing_of" (top 27) f fd) (sr:mg "int" = none) {iP:Addr} {kj:List (Str×Tok×Addr)} (pS:mg "ENDINGS" = some (.ref iP)) (fU:Dz w K iP kj [("o+",0,1),("o-",0,-1),("u+",1,1),("u-",1,-1)]):fE P w K mg base gW 1 f fd ["word"] (cZ K iV) :=
 tF F pF wY fun _ _ _ _ _ _ hr=>have nd:=pF.nd; (FD fU nd (i:=1) rfl (Nat.le_of_ble_eq_true rfl) (by first | exact Or.inl rfl | exact Or.inr rfl) (by first | exact Or.inl rfl | exact Or.inr (Or.inl rfl) | exact Or.inr (Or.inr rfl)) rfl pS (mj (ck 0) (eQ (u3 qo bb)) fC) (pP Du rfl sr JZ (aB (mj (ck 0) fC (eQ (u3 qo bb))) aL)) (fun _ _=>rfl))
theorem xm:cg ["line","number","row","at","word"] ["line","number"] (aW (top 24)):=sU
theorem Gf {f:Addr} {fd:aG} (F:o3 K "row_of" "row_of" (top 24) f fd) (dZ:mg "enumerate" = none) {qt:Tok} (uM:mg "POINT" = some (.str "." qt)) {sD:Addr} {sF:aG} (gy:tQ P w K mg base gW 2 sD sF "writes_passing" ["word"] (cZ K fL)) {za:Addr} {zd:aG} (jR:tQ P w K mg base gW 1 za zd "passing_of" ["word"] (cZ K iV)):fE P w K mg base gW 3 f fd ["line","number"] (cZ K oK) :=
 tF F xm GD fun _ _ _ _ _ _ hr=>have nd:=xm.nd; have hu:=hr.units; (aO (dU (dG (vc hu) (ck 0) (u6 rfl uM) (iy _)) (aQ (bM (bV (kP aL)))) cy)
 (aO (wc (i:=2) nd rfl (kP aL))
 (aO (gS cI rfl (u0 rfl dZ (iw eL DQ DO oJ xx (ck 0) (aB eK aL))) (uf rfl (gu (rW (i:=3) nd rfl) (gu (rW (i:=4) nd rfl) qO)) (gw (gw rh))) (aO (dU (gq (fI (bL gy.ok (hr.mono (by decide)) rfl gy.mg gy.kp gy.bi (aB (ck 4) aL)))) (aQ jT) cy)
 (aQ (iq (iw cO iE iD i7 mw (ck 2) (aB (bL jR.ok (hr.mono (by decide)) rfl jR.mg jR.kp jR.bi (aB (ck 4) aL)) aL))))))
 (aQ (bM (bV (ck 2)))))))
theorem ym:cg ["text"] ["text"] (aW (top 23)):=sU
theorem yX {f:Addr} {fd:aG} (F:o3 K "read_text" "read_text" (top 23) f fd) (dZ:mg "enumerate" = none) {Gj:Addr} {Gu:aG} (oX:tQ P w K mg base gW 3 Gj Gu "checked" ["rows"] (cZ K ma)) {Jy:Addr} {JJ:aG} (rG:tQ P w K mg base gW 3 Jy JJ "row_of" ["line","number"] (cZ K oK)):fE P w K mg base gW 4 f fd ["text"] (cZ K ig) :=
 tF F ym zv fun _ _ _ _ _ _ hr=>(aQ (bM (bV (bL oX.ok (hr.mono (by decide)) rfl oX.mg oX.kp oX.bi (aB (bV (iu ["number","line"] (sc:=aW (top 23)) (XN:=["text"]) (u0 rfl dZ (iw eL DQ DO oJ xx (ck 0) (aB eK aL))) (fun _ _ _ _=>(uf rfl (gu (rW (i:=0) (show (["number","line"]:List Str).Nodup by decide +kernel) rfl) (gu (rW (i:=1) (show (["number","line"]:List Str).Nodup by decide +kernel) rfl) qO)) (gw (gw rh)))) (fun _ _ _ _=>.none) (fun _ _ _ _=>(bL rG.ok (hr.mono (by decide)) rfl rG.mg rG.kp rG.bi (aB (ck 1) (aB (ck 0) aL)))))) aL)))))
theorem yn:cg ["_law_found"] ["_law_found"] (aW (top 30)):=sU
theorem yY {f:Addr} {fd:aG} (F:o3 K "_law_whole" "_law_whole" (top 30) f fd) (yF:mg "bool" = none) (sr:mg "int" = none) (cG:mg "isinstance" = none):fE P w K mg base gW 1 f fd ["_law_found"] (cZ K dv) :=
 tF F yn rN fun _ _ _ _ _ _ hr=>(aQ (bM (bV (Ek (oN "int" (by decide) rfl cG rfl sr JZ (ck 0)) (Eh (Lu (oN "bool" (by decide) rfl cG rfl yF L5 (ck 0))))))))
theorem hU:cg ["_law_found","_law_row","_law_passing"] ["_law_found"] (aW (top 31)):=sU
theorem lO {f:Addr} {fd:aG} (F:o3 K "_law_rows_of_passings" "_law_rows_of_passings" (top 31) f fd) (su:mg "all" = none) (cG:mg "isinstance" = none) (dW:mg "len" = none) (mr:mg "list" = none) (vf:mg "tuple" = none) {Bb:Addr} {Bo:aG} (kT:tQ P w K mg base gW 1 Bb Bo "_law_whole" ["_law_found"] (cZ K dv)):fE P w K mg base gW 2 f fd ["_law_found"] (cZ K dF) :=
 tF F hU lR fun _ _ _ _ _ _ hr=>have nd:=hU.nd; have hu:=hr.units; (aO (dU (gq (fI (oN "list" (by decide) rfl cG rfl mr zm (ck 0)))) (aQ (bM (bV oa))) cy)
 (aO (gS cI rfl (eZ (ck 0)) (rW (i:=1) nd rfl) (aO (dU (gq (fI (oN "list" (by decide) rfl cG rfl mr zm (ck 1)))) (aQ (bM (bV oa))) cy)
 (aQ (gS cI rfl (eZ (ck 1)) (rW (i:=2) nd rfl) (aO (dU (Ku.pt (sg (gq (fI (oN "tuple" (by decide) rfl cG rfl vf JX (ck 2)))) (qN (dG (va hu) (dH gx rfl dW lu (aB (ck 2) aL)) bb (iy _))))) (aQ (bM (bV oa))) cy)
 (aQ (dU (gq (fI (dH (xV rfl) rfl su J0 (aB (iu ["_law_number"] (sc:=aW (top 31)) (XN:=["_law_found","_law_row","_law_passing"]) (eZ (ck 2)) (fun _ _ _ _=>(rW (i:=0) (show (["_law_number"]:List Str).Nodup by decide +kernel) rfl)) (fun _ _ _ _=>.none) (fun _ _ _ _=>(bL kT.ok (hr.mono (by decide)) rfl kT.mg kT.kp kT.bi (aB (ck 0) aL)))) aL)))) (aQ (bM (bV oa))) cy)))))))
 (aQ (bM (bV oa)))))
theorem HP:cg ["_law_script","_law_rows","_law_cell_here","_law_due","_law_handed","_law_found","_law_text_here","_law_drawing"] ["_law_script"] (aW (top 39)):=sU
theorem NX {f:Addr} {fd:aG} (F:o3 K "law" "law" (top 39) f fd) (cG:mg "isinstance" = none) (mr:mg "list" = none) (lI:mg "range" = none) (so:mg "str" = none) {De:Addr} {Dp:aG} (mQ:tQ P w K mg base gW 1 De Dp "_law_cell" ["_law_script","_law_k"] (cZ K eg)) {Bf:Addr} {Br:aG} (kX:tQ P w K mg base gW 3 Bf Br "_law_cross" ["_law_rows","_law_cell_here"] (cZ K gm)) {Bc:Addr} {Bp:aG} (kU:tQ P w K mg base gW 2 Bc Bp "_law_seats" ["_law_rows"] (cZ K gk)) {Gh:Addr} {Gq:aG} (oV:tQ P w K mg base gW 3 Gh Gq "text_of" ["drawing"] (cZ K l7)) {C7:Addr} {Dj:aG} (gc:tQ P w K mg base gW 2 C7 Dj "_law_text" ["_law_rows"] (cZ K i8)) {Ba:Addr} {Bn:aG} (fu:tQ P w K mg base gW 4 Ba Bn "read_text" ["text"] (cZ K ig)) {mI:Addr} {mK:aG} (ef:tQ P w K mg base gW 2 mI mK "_law_rows_of_passings" ["_law_found"] (cZ K dF)):fE P w K mg base gW 5 f fd ["_law_script"] (cZ K K2.xh) :=
 tF F HP Oh fun _ _ _ _ _ _ hr=>have nd:=HP.nd; have hu:=hr.units; (aO (Ay ["_law_k"] (sc:=aW (top 39)) (XN:=["_law_script","_law_rows","_law_cell_here","_law_due","_law_handed","_law_found","_law_text_here","_law_drawing"]) (i:=1) nd rfl rfl (uZ rfl lI (c8 kQ bb (c8 ix (bL mQ.ok (hr.mono (by decide)) rfl mQ.mg mQ.kp mQ.bi (aB (ck 0) (aB bb aL))) bb))) (fun _ _ _ _=>(rW (i:=0) (show (["_law_k"]:List Str).Nodup by decide +kernel) rfl)) (fun _ _ _ _=>.none) (fun _ _ _ _=>(bV (kP aL))))
 (aO (Ee (gS cI rfl (eZ (gv (ck 0) (eQ bb) (eQ bb))) (rW (i:=2) nd rfl) (aQ (iq (bL kX.ok (hr.mono (by decide)) rfl kX.mg kX.kp kX.bi (aB (ck 1) (aB (ck 2) aL)))))))
 (aO (wc (i:=3) nd rfl (bL kU.ok (hr.mono (by decide)) rfl kU.mg kU.kp kU.bi (aB (ck 1) aL)))
 (aO (Ee (Ay ["_law_row"] (sc:=aW (top 39)) (XN:=["_law_script","_law_rows","_law_cell_here","_law_due","_law_handed","_law_found","_law_text_here","_law_drawing"]) (i:=4) nd rfl rfl (eZ (ck 1)) (fun _ _ _ _=>(rW (i:=0) (show (["_law_row"]:List Str).Nodup by decide +kernel) rfl)) (fun _ _ _ _=>.none) (fun _ _ _ _=>(bV (pP Ds rfl mr zm (aB (ck 0) aL))))))
 (aO (wc (i:=5) nd rfl (bL oV.ok (hr.mono (by decide)) rfl oV.mg oV.kp oV.bi (aB (ck 4) aL)))
 (aO (dU (Ku.pt (sg (gq (fI (oN "str" (by decide) rfl cG rfl so JY (ck 5)))) (sg (dG (va hu) (ck 5) (bL gc.ok (hr.mono (by decide)) rfl gc.mg gc.kp gc.bi (aB (ck 3) aL)) (iy _)) (qN (dG (va hu) (ck 4) (ck 1) (iy _)))))) (aQ (bM (bV oa))) cy)
 (aO (gS cI rfl (eZ (jO (aB (bL gc.ok (hr.mono (by decide)) rfl gc.mg gc.kp gc.bi (aB (ck 1) aL)) (aB (ck 5) aL)))) (rW (i:=6) nd rfl) (aO (wc (i:=7) nd rfl (bL fu.ok (hr.mono (by decide)) rfl fu.mg fu.kp fu.bi (aB (ck 6) aL)))
 (aO (dU (Ku.pt (sg (gq (fI (bL ef.ok (hr.mono (by decide)) rfl ef.mg ef.kp ef.bi (aB (ck 7) aL)))) (qN (dG (va hu) (ck 7) (ck 3) (iy _))))) (aQ (bM (bV oa))) cy)
 (aQ (iq (iw cO iE iD i7 mw (ck 7) (aB (kP aL) aL)))))))
 (aQ (bM (bV (Ej (vc hu) (bL fu.ok (hr.mono (by decide)) rfl fu.mg fu.kp fu.bi (aB (ck 5) aL)) (ck 3) (iy _))))))))))))
end
theorem all_mk {l:ya} {w:World} {K:af} {h:Heap} {mg:Str->Option Value} {fa:Addr} (X:K.In h) (G:h.Ns bc mg) (WM:mg "law" = some (.ref fa))
  {f0:Addr} {d0:aG} (F0:At K "_law_cell" (top 29) f0 d0)
  {f1:Addr} {d1:aG} (F1:At K "_law_names" (top 34) f1 d1)
  {f2:Addr} {d2:aG} (F2:At K "_law_name" (top 35) f2 d2)
  {f3:Addr} {d3:aG} (F3:At K "_law_cross" (top 36) f3 d3)
  {f4:Addr} {d4:aG} (F4:At K "_law_seat" (top 32) f4 d4)
  {f5:Addr} {d5:aG} (F5:At K "_law_seats" (top 33) f5 d5)
  {f6:Addr} {d6:aG} (F6:At K "seated" (top 9) f6 d6)
  {f7:Addr} {d7:aG} (F7:At K "seated_rows" (top 10) f7 d7)
  {f8:Addr} {d8:aG} (F8:At K "word_of" (top 22) f8 d8)
  {f9:Addr} {d9:aG} (F9:At K "line_of" (top 21) f9 d9)
  {Xw:Addr} {XW:aG} (Ry:At K "text_of" (top 20) Xw XW)
  {Xv:Addr} {XU:aG} (Rx:At K "_law_line" (top 37) Xv XU)
  {Xu:Addr} {XT:aG} (Rw:At K "_law_text" (top 38) Xu XT)
  {Xs:Addr} {XS:aG} (Rv:At K "refuse_names" (top 14) Xs XS)
  {Xr:Addr} {XR:aG} (Ru:At K "passings_of" (top 8) Xr XR)
  {Xq:Addr} {XQ:aG} (Rt:At K "fault_of" (top 13) Xq XQ)
  {Xp:Addr} {XO:aG} (Rq:At K "hands_met" (top 12) Xp XO)
  {Xo:Addr} {XM:aG} (Rp:At K "checked" (top 11) Xo XM)
  {Xn:Addr} {XJ:aG} (Rn:At K "writes_name" (top 26) Xn XJ)
  {Xm:Addr} {XI:aG} (Rm:At K "writes_passing" (top 25) Xm XI)
  {Xl:Addr} {XH:aG} (Rk:At K "passing_of" (top 27) Xl XH)
  {Xk:Addr} {XG:aG} (Rj:At K "row_of" (top 24) Xk XG)
  {Xj:Addr} {XF:aG} (Ri:At K "read_text" (top 23) Xj XF)
  {Xi:Addr} {XE:aG} (Rh:At K "_law_whole" (top 30) Xi XE)
  {Xh:Addr} {XD:aG} (Rg:At K "_law_rows_of_passings" (top 31) Xh XD)
  {Xg:Addr} {XC:aG} (Vi:At K "law" (top 39) Xg XC)
  (OR:autoParam (bP K bc "len" = some none) Aq._auto_1) (Ho:autoParam (bP K bc "sorted" = some none) Aq._auto_1) (KN:autoParam (bP K bc "range" = some none) Aq._auto_1) (OQ:autoParam (bP K bc "min" = some none) Aq._auto_1) (OO:autoParam (bP K bc "str" = some none) Aq._auto_1) (OP:autoParam (bP K bc "set" = some none) Aq._auto_1) (zT:autoParam (bP K bc "enumerate" = some none) Aq._auto_1) (OT:autoParam (bP K bc "all" = some none) Aq._auto_1) (OS:autoParam (bP K bc "int" = some none) Aq._auto_1) (MF:autoParam (bP K bc "bool" = some none) Aq._auto_1) (yf:autoParam (bP K bc "isinstance" = some none) Aq._auto_1) (ME:autoParam (bP K bc "list" = some none) Aq._auto_1) (KL:autoParam (bP K bc "tuple" = some none) Aq._auto_1) {qt:Tok} (zZ:autoParam (bP K bc "POINT" = some (some (.str "." qt))) Aq._auto_1) {se:Tok} (Cg:autoParam (bP K bc "FIGURES" = some (some (.str "0123456789" se))) Aq._auto_1) {iP:Addr} {kj:List (Str×Tok×Addr)} (fU:autoParam (Qy w K "ENDINGS" iP kj [("o+",0,1),("o-",0,-1),("u+",1,1),("u-",1,-1)]) As._auto_1) {iM:Tok} (rD:autoParam (bP K bc "MOST_CROSSINGS" = some (some (.int 12 iM))) Aq._auto_1) {jx:Tok} (sH:autoParam (bP K bc "GREATEST_NAME" = some (some (.int 999 jx))) Aq._auto_1) {j6:Tok} (tY:autoParam (bP K bc "MOST_STRINGS" = some (some (.int 3 j6))) Aq._auto_1) {j7:Tok} (tZ:autoParam (bP K bc "MOST_FIGURES" = some (some (.int 3 j7))) Aq._auto_1) :
  ∃ fd:aG,(∀ (s:aj) (v:Value),Hl s fd ⟨[v],[]⟩ [("_law_script",v)])/\∀ base:Heap,K.In base->base.Ns bc mg->fE l.prog w K mg base gW 5 fa fd ["_law_script"] (cZ K K2.xh):=by
 have e:=WM.symm.trans (eX X G Vi.a);cases e;have b0:=F0.F.binds (ps:=["_law_script","_law_k"]) fun _ _ _ _ _ _ us hl=>by obtain⟨_,_,rfl⟩:=IE hl; rfl
 have b1:=F1.F.binds (ps:=["_law_rows"]) fun _ _ _ _ _ _ us hl=>by obtain⟨_,rfl⟩:=lb hl; rfl
 have b2:=F2.F.binds (ps:=["_law_rows","_law_cell_here"]) fun _ _ _ _ _ _ us hl=>by obtain⟨_,_,rfl⟩:=IE hl; rfl
 have b3:=F3.F.binds (ps:=["_law_rows","_law_cell_here"]) fun _ _ _ _ _ _ us hl=>by obtain⟨_,_,rfl⟩:=IE hl; rfl
 have b4:=F4.F.binds (ps:=["_law_row"]) fun _ _ _ _ _ _ us hl=>by obtain⟨_,rfl⟩:=lb hl; rfl
 have b5:=F5.F.binds (ps:=["_law_rows"]) fun _ _ _ _ _ _ us hl=>by obtain⟨_,rfl⟩:=lb hl; rfl
 have b6:=F6.F.binds (ps:=["row"]) fun _ _ _ _ _ _ us hl=>by obtain⟨_,rfl⟩:=lb hl; rfl
 have b7:=F7.F.binds (ps:=["rows"]) fun _ _ _ _ _ _ us hl=>by obtain⟨_,rfl⟩:=lb hl; rfl
 have b8:=F8.F.binds (ps:=["passing"]) fun _ _ _ _ _ _ us hl=>by obtain⟨_,rfl⟩:=lb hl; rfl
 have b9:=F9.F.binds (ps:=["row"]) fun _ _ _ _ _ _ us hl=>by obtain⟨_,rfl⟩:=lb hl; rfl
 have Yd:=Ry.F.binds (ps:=["drawing"]) fun _ _ _ _ _ _ us hl=>by obtain⟨_,rfl⟩:=lb hl; rfl
 have Yc:=Rx.F.binds (ps:=["_law_row"]) fun _ _ _ _ _ _ us hl=>by obtain⟨_,rfl⟩:=lb hl; rfl
 have Yb:=Rw.F.binds (ps:=["_law_rows"]) fun _ _ _ _ _ _ us hl=>by obtain⟨_,rfl⟩:=lb hl; rfl
 have X9:=Rv.F.binds (ps:=["hands"]) fun _ _ _ _ _ _ us hl=>by obtain⟨_,rfl⟩:=lb hl; rfl
 have X8:=Ru.F.binds (ps:=["rows"]) fun _ _ _ _ _ _ us hl=>by obtain⟨_,rfl⟩:=lb hl; rfl
 have X7:=Rt.F.binds (ps:=["passing","hands"]) fun _ _ _ _ _ _ us hl=>by obtain⟨_,_,rfl⟩:=IE hl; rfl
 have X6:=Rq.F.binds (ps:=["rows"]) fun _ _ _ _ _ _ us hl=>by obtain⟨_,rfl⟩:=lb hl; rfl
 have X5:=Rp.F.binds (ps:=["rows"]) fun _ _ _ _ _ _ us hl=>by obtain⟨_,rfl⟩:=lb hl; rfl
 have X4:=Rn.F.binds (ps:=["figures"]) fun _ _ _ _ _ _ us hl=>by obtain⟨_,rfl⟩:=lb hl; rfl
 have X3:=Rm.F.binds (ps:=["word"]) fun _ _ _ _ _ _ us hl=>by obtain⟨_,rfl⟩:=lb hl; rfl
 have X2:=Rk.F.binds (ps:=["word"]) fun _ _ _ _ _ _ us hl=>by obtain⟨_,rfl⟩:=lb hl; rfl
 have X1:=Rj.F.binds (ps:=["line","number"]) fun _ _ _ _ _ _ us hl=>by obtain⟨_,_,rfl⟩:=IE hl; rfl
 have X0:=Ri.F.binds (ps:=["text"]) fun _ _ _ _ _ _ us hl=>by obtain⟨_,rfl⟩:=lb hl; rfl
 have XZ:=Rh.F.binds (ps:=["_law_found"]) fun _ _ _ _ _ _ us hl=>by obtain⟨_,rfl⟩:=lb hl; rfl
 have XY:=Rg.F.binds (ps:=["_law_found"]) fun _ _ _ _ _ _ us hl=>by obtain⟨_,rfl⟩:=lb hl; rfl
 have dW:=bU X G OR;have jV:=bU X G Ho;have lI:=bU X G KN;have CD:=bU X G OQ;have so:=bU X G OO;have CC:=bU X G OP;have dZ:=bU X G zT;have su:=bU X G OT;have sr:=bU X G OS;have yF:=bU X G MF;have cG:=bU X G yf;have mr:=bU X G ME;have vf:=bU X G KL;obtain⟨Fa,Fl⟩:=Vi;obtain⟨oc,od,kV,doc,pm,an,lV,ct,Io,rfl,lk,yS⟩:=Fl.ex;refine⟨gE "law" "law" (jQ (top 39)) (gT (top 39)) (aW (top 39)) .none kV doc pm an lV ct,fun s v=>.of_eq rfl,fun base _ _=>?_⟩;have V1:=A7 (P:=l.prog) (w:=w) (mg:=mg) (base:=base) F0.F dW;have V0:=y0 (P:=l.prog) (w:=w) (mg:=mg) (base:=base) F1.F jV;have Sb:=A5 (P:=l.prog) (w:=w) (mg:=mg) (base:=base) F2.F ⟨V0,F1.mg X G,F1.F.kp,b1⟩;have Pk:=y7 (P:=l.prog) (w:=w) (mg:=mg) (base:=base) F3.F dW ⟨Sb,F2.mg X G,F2.F.kp,b2⟩;have VZ:=A4 (P:=l.prog) (w:=w) (mg:=mg) (base:=base) F4.F dW lI;have VY:=yZ (P:=l.prog) (w:=w) (mg:=mg) (base:=base) F5.F ⟨VZ,F4.mg X G,F4.F.kp,b4⟩;have VX:=Ge (P:=l.prog) (w:=w) (mg:=mg) (base:=base) F6.F CD;have Ur:=vO (P:=l.prog) (w:=w) (mg:=mg) (base:=base) F7.F ⟨VX,F6.mg X G,F6.F.kp,b6⟩;have VW:=C0 (P:=l.prog) (w:=w) (mg:=mg) (base:=base) F8.F;have VV:=C2 (P:=l.prog) (w:=w) (mg:=mg) (base:=base) F9.F (eX X G zZ) ⟨VW,F8.mg X G,F8.F.kp,b8⟩;have Sm:=C1 (P:=l.prog) (w:=w) (mg:=mg) (base:=base) Ry.F ⟨Ur,F7.mg X G,F7.F.kp,b7⟩ ⟨VV,F9.mg X G,F9.F.kp,b9⟩;have Sl:=A6 (P:=l.prog) (w:=w) (mg:=mg) (base:=base) Rx.F so;have Sk:=A3 (P:=l.prog) (w:=w) (mg:=mg) (base:=base) Rw.F ⟨Sl,Rx.mg X G,Rx.F.kp,Yc⟩;have Sj:=tW (P:=l.prog) (w:=w) (mg:=mg) (base:=base) Rv.F dW CC jV (eX X G rD);have Si:=vP (P:=l.prog) (w:=w) (mg:=mg) (base:=base) Ru.F;have Sh:=A8 (P:=l.prog) (w:=w) (mg:=mg) (base:=base) Rt.F (eX X G sH);have Sg:=y8 (P:=l.prog) (w:=w) (mg:=mg) (base:=base) Rq.F dZ ⟨Si,Ru.mg X G,Ru.F.kp,X8⟩ ⟨Sh,Rt.mg X G,Rt.F.kp,X7⟩;have Sf:=C3 (P:=l.prog) (w:=w) (mg:=mg) (base:=base) Rp.F dW (eX X G tY) ⟨Sj,Rv.mg X G,Rv.F.kp,X9⟩ ⟨Sg,Rq.mg X G,Rq.F.kp,X6⟩ ⟨Ur,F7.mg X G,F7.F.kp,b7⟩;have Se:=vN (P:=l.prog) (w:=w) (mg:=mg) (base:=base) Rn.F su dW (eX X G Cg) (eX X G tZ);have Sd:=rn (P:=l.prog) (w:=w) (mg:=mg) (base:=base) Rm.F (eX X G fU.ns) fU.di ⟨Se,Rn.mg X G,Rn.F.kp,X4⟩;have Sa:=wM (P:=l.prog) (w:=w) (mg:=mg) (base:=base) Rk.F sr (eX X G fU.ns) fU.di;have R9:=Gf (P:=l.prog) (w:=w) (mg:=mg) (base:=base) Rj.F dZ (eX X G zZ) ⟨Sd,Rm.mg X G,Rm.F.kp,X3⟩ ⟨Sa,Rk.mg X G,Rk.F.kp,X2⟩;have R8:=yX (P:=l.prog) (w:=w) (mg:=mg) (base:=base) Ri.F dZ ⟨Sf,Rp.mg X G,Rp.F.kp,X5⟩ ⟨R9,Rj.mg X G,Rj.F.kp,X1⟩;have R7:=yY (P:=l.prog) (w:=w) (mg:=mg) (base:=base) Rh.F yF sr cG;have R6:=lO (P:=l.prog) (w:=w) (mg:=mg) (base:=base) Rg.F su cG dW mr vf ⟨R7,Rh.mg X G,Rh.F.kp,XZ⟩;exact NX Fl cG mr lI so ⟨V1,F0.mg X G,F0.F.kp,b0⟩ ⟨Pk,F3.mg X G,F3.F.kp,b3⟩ ⟨VY,F5.mg X G,F5.F.kp,b5⟩ ⟨Sm,Ry.mg X G,Ry.F.kp,Yd⟩ ⟨Sk,Rw.mg X G,Rw.F.kp,Yb⟩ ⟨R8,Ri.mg X G,Ri.F.kp,X0⟩ ⟨R6,Rg.mg X G,Rg.F.kp,XY⟩
section
open PySem.W PySem.Calls
noncomputable def hC (n:Str) (t:Nat) (l:List Value):Obj:=⟨.type "code",none,.fields (.str n t :: .str n (t+1) :: .str "/claim/cut.py" (t+2) :: l).toArray,#[]⟩
noncomputable def hI(n:Int):Value:=.int n 0
noncomputable def hR(n:Nat):Value:=.ref n
noncomputable def hN:Value:=.none
noncomputable def hT:Value:=.bool true
noncomputable def hS (n:Nat):Value:=.str "/claim/cut.py" n
noncomputable def hD(n:Str)(t:Nat)(l a:Int)(r:Nat)(x y z:Value)(u:Nat):Obj:=hC n t [hI l,hI a,hI 0,hI 0,hI 3,hR r,hT,hI 181,hR (r+1),hN,x,y,z,hI (u - 1),hI l,hS u]
noncomputable abbrev hF (i:Nat) (n:Str) (m c:Value):Obj:=⟨.type "function",none,.func (gE n n (jQ (top i)) (gT (top i)) (aW (top i)) .none .none .none m none c .none),#[]⟩
noncomputable abbrev hM (i j:Nat) (n q:Str) (m c:Value):Obj:=⟨.type "function",none,.func (gE n q (jQ (Sv i j)) (gT (Sv i j)) (aW (Sv i j)) .none .none .none m none c .none),#[]⟩
noncomputable abbrev hE(P:Params)(s:Str)(t:Nat)(v:Value):j5:=⟨PyData.keyHash P s,.str s t,v⟩
noncomputable def hQ:bx:=PySem.W.view PySem.Challenge.pw_knotwise_k04_texts_written_and_read [1,2,3,5,6,7,8,9,10,11,12,13,14,16,17,18,19,20,21,22,23,24,25,26,27,29,30,31,32,33,34,35,36,37,38,39]
noncomputable def hK(P:Params):af:=(nat_lit 2,⟨.none,none,(.dict #[] 0),#[]⟩) ::
(nat_lit 3,⟨(.type "dict"),none,(.dict #[hE P "__name__" 165 (.str "law_knotwise_k04_texts_written_and_read" 411),hE P "__doc__" 166 .none,hE P "__package__" 167 .none,hE P "__loader__" 168 (.builtin "__main__.__loader__#opaque"),hE P "__spec__" 169 .none,hE P "__annotations__" 170 (.ref 6),hE P "__builtins__" 171 (.ref 4),hE P "__file__" 173 (.str "/claim/cut.py" 172),hE P "__cached__" 174 .none,hE P "KnotError" 206 (.ref 24),hE P "NoDrawing" 233 (.ref 44),hE P "NoText" 260 (.ref 63),hE P "MOST_STRINGS" 264 (.int 3 263),hE P "MOST_CROSSINGS" 266 (.int 12 265),hE P "GREATEST_NAME" 268 (.int 999 267),hE P "passings_of" 277 (.ref 72),hE P "seated" 285 (.ref 79),hE P "seated_rows" 291 (.ref 84),hE P "checked" 298 (.ref 91),hE P "hands_met" 309 (.ref 98),hE P "fault_of" 317 (.ref 105),hE P "refuse_names" 323 (.ref 110),hE P "FIGURES" 327 (.str "0123456789" 326),hE P "MOST_FIGURES" 329 (.int 3 328),hE P "POINT" 331 (.str "." 330),hE P "ENDINGS" 350 (.ref 111),hE P "text_of" 356 (.ref 120),hE P "line_of" 362 (.ref 125),hE P "word_of" 372 (.ref 132),hE P "read_text" 378 (.ref 137),hE P "row_of" 389 (.ref 144),hE P "writes_passing" 396 (.ref 151),hE P "writes_name" 402 (.ref 156),hE P "passing_of" 410 (.ref 163),hE P "_law_cell" 420 (.ref 170),hE P "_law_whole" 427 (.ref 177),hE P "_law_rows_of_passings" 433 (.ref 182),hE P "_law_seat" 442 (.ref 189),hE P "_law_seats" 448 (.ref 194),hE P "_law_names" 458 (.ref 201),hE P "_law_name" 467 (.ref 208),hE P "_law_cross" 479 (.ref 215),hE P "_law_line" 490 (.ref 222),hE P "_law_text" 496 (.ref 227),hE P "law" 502 (.ref 232)] 45),#[]⟩) ::
(nat_lit 15,⟨(.type "tuple"),none,(.seq #[(.type "ValueError")] 0),#[]⟩) ::
(nat_lit 22,⟨(.type "tuple"),none,(.seq #[] 0),#[]⟩) ::
(nat_lit 23,⟨(.type "dict"),none,(.dict #[hE P "__module__" 196 (.str "knotwise.errors" 187),hE P "__firstlineno__" 200 (.int 2 199),hE P "__static_attributes__" 201 (.ref 22),hE P "__weakref__" 203 (.ref 25),hE P "__doc__" 204 .none] 3),#[]⟩) ::
(nat_lit 24,⟨(.type "type"),none,(.cls ⟨"KnotError",[(.type "ValueError")],[(.ref 24),(.type "ValueError"),(.type "Exception"),(.type "BaseException"),(.type "object")],23,"KnotError",.true,[],[(.ref 44),(.ref 63)],.false,none,.false⟩),#[(some (.ref 15)),none,(some (.str "KnotError" 189)),(some (.str "KnotError" 197)),(some (.builtin "ValueError.__new__")),(some (.bool .true))]⟩) ::
(nat_lit 25,⟨(.type "getset_descriptor"),none,(.fields #[(.str "__weakref__" 202),(.ref 24),(.builtin "ExceptionGroup.__weakref__"),.none]),#[]⟩) ::
(nat_lit 28,⟨(.type "tuple"),none,(.seq #[(.ref 24)] 0),#[]⟩) ::
(nat_lit 40,⟨(.type "code"),none,(.fields #[(.str "__init__" 219),(.str "NoDrawing.__init__" 220),(.str "/claim/cut.py" 221),(.int 6 0),(.int 3 0),(.int 0 0),(.int 0 0),(.int 3 0),(.ref 35),(.bool .true),(.int 181 0),(.ref 36),.none,(.ref 37),(.ref 38),(.ref 39),(.int 225 0),(.int 6 0),(.str "/claim/cut.py" 226)]),#[]⟩) ::
(nat_lit 41,hM 2 0 "__init__" "NoDrawing.__init__" (.str "knotwise.errors" 187) (.ref 40)) ::
(nat_lit 42,⟨(.type "tuple"),none,(.seq #[(.str "place" 228),(.str "word" 229)] 0),#[]⟩) ::
(nat_lit 43,⟨(.type "dict"),none,(.dict #[hE P "__module__" 214 (.str "knotwise.errors" 187),hE P "__firstlineno__" 218 (.int 4 217),hE P "__init__" 227 (.ref 41),hE P "__static_attributes__" 230 (.ref 42),hE P "__doc__" 231 .none] 2),#[]⟩) ::
(nat_lit 44,⟨(.type "type"),none,(.cls ⟨"NoDrawing",[(.ref 24)],[(.ref 44),(.ref 24),(.type "ValueError"),(.type "Exception"),(.type "BaseException"),(.type "object")],43,"NoDrawing",.true,[],[],.false,none,.false⟩),#[(some (.ref 28)),none,(some (.str "NoDrawing" 207)),(some (.str "NoDrawing" 215)),(some (.builtin "ValueError.__new__")),(some (.bool .true))]⟩) ::
(nat_lit 47,⟨(.type "tuple"),none,(.seq #[(.ref 24)] 0),#[]⟩) ::
(nat_lit 59,⟨(.type "code"),none,(.fields #[(.str "__init__" 246),(.str "NoText.__init__" 247),(.str "/claim/cut.py" 248),(.int 12 0),(.int 3 0),(.int 0 0),(.int 0 0),(.int 3 0),(.ref 54),(.bool .true),(.int 181 0),(.ref 55),.none,(.ref 56),(.ref 57),(.ref 58),(.int 252 0),(.int 12 0),(.str "/claim/cut.py" 253)]),#[]⟩) ::
(nat_lit 60,hM 3 0 "__init__" "NoText.__init__" (.str "knotwise.errors" 187) (.ref 59)) ::
(nat_lit 61,⟨(.type "tuple"),none,(.seq #[(.str "at" 255),(.str "line" 256)] 0),#[]⟩) ::
(nat_lit 62,⟨(.type "dict"),none,(.dict #[hE P "__module__" 241 (.str "knotwise.errors" 187),hE P "__firstlineno__" 245 (.int 10 244),hE P "__init__" 254 (.ref 60),hE P "__static_attributes__" 257 (.ref 61),hE P "__doc__" 258 .none] 2),#[]⟩) ::
(nat_lit 63,⟨(.type "type"),none,(.cls ⟨"NoText",[(.ref 24)],[(.ref 63),(.ref 24),(.type "ValueError"),(.type "Exception"),(.type "BaseException"),(.type "object")],62,"NoText",.true,[],[],.false,none,.false⟩),#[(some (.ref 47)),none,(some (.str "NoText" 234)),(some (.str "NoText" 242)),(some (.builtin "ValueError.__new__")),(some (.bool .true))]⟩) ::
(nat_lit 71,hD "passings_of" 269 20 1 66 (hR 68) (hR 69) (hR 70) 276) ::
(nat_lit 72,hF 8 "passings_of" (.str "knotwise.drawings" 261) (.ref 71)) ::
(nat_lit 78,hD "seated" 278 25 1 73 (hR 75) (hR 76) (hR 77) 284) ::
(nat_lit 79,hF 9 "seated" (.str "knotwise.drawings" 261) (.ref 78)) ::
(nat_lit 83,hD "seated_rows" 286 30 1 80 hN hN (hR 82) 290) ::
(nat_lit 84,hF 10 "seated_rows" (.str "knotwise.drawings" 261) (.ref 83)) ::
(nat_lit 90,hD "checked" 292 32 1 85 (hR 87) (hR 88) (hR 89) 297) ::
(nat_lit 91,hF 11 "checked" (.str "knotwise.drawings" 261) (.ref 90)) ::
(nat_lit 97,hD "hands_met" 299 37 1 92 (hR 94) (hR 95) (hR 96) 308) ::
(nat_lit 98,hF 12 "hands_met" (.str "knotwise.drawings" 261) (.ref 97)) ::
(nat_lit 104,hD "fault_of" 310 45 2 99 (hR 101) (hR 102) (hR 103) 316) ::
(nat_lit 105,hF 13 "fault_of" (.str "knotwise.drawings" 261) (.ref 104)) ::
(nat_lit 109,hD "refuse_names" 318 55 1 106 hN hN (hR 108) 322) ::
(nat_lit 110,hF 14 "refuse_names" (.str "knotwise.drawings" 261) (.ref 109)) ::
(nat_lit 111,⟨(.type "dict"),none,(.dict #[hE P "o+" 332 (.ref 112),hE P "o-" 335 (.ref 113),hE P "u+" 339 (.ref 114),hE P "u-" 342 (.ref 115)] 4),#[]⟩) ::
(nat_lit 112,⟨(.type "tuple"),none,(.seq #[(.int 0 333),(.int 1 334)] 0),#[]⟩) ::
(nat_lit 113,⟨(.type "tuple"),none,(.seq #[(.int 0 336),(.int (-1) 338)] 0),#[]⟩) ::
(nat_lit 114,⟨(.type "tuple"),none,(.seq #[(.int 1 340),(.int 1 341)] 0),#[]⟩) ::
(nat_lit 115,⟨(.type "tuple"),none,(.seq #[(.int 1 343),(.int (-1) 345)] 0),#[]⟩) ::
(nat_lit 119,hD "text_of" 351 69 1 116 hN hN (hR 118) 355) ::
(nat_lit 120,hF 20 "text_of" (.str "knotwise.texts" 324) (.ref 119)) ::
(nat_lit 124,hD "line_of" 357 71 1 121 hN hN (hR 123) 361) ::
(nat_lit 125,hF 21 "line_of" (.str "knotwise.texts" 324) (.ref 124)) ::
(nat_lit 131,hD "word_of" 363 75 1 126 (hR 128) (hR 129) (hR 130) 371) ::
(nat_lit 132,hF 22 "word_of" (.str "knotwise.texts" 324) (.ref 131)) ::
(nat_lit 136,hD "read_text" 373 80 1 133 hN hN (hR 135) 377) ::
(nat_lit 137,hF 23 "read_text" (.str "knotwise.texts" 324) (.ref 136)) ::
(nat_lit 143,hD "row_of" 379 82 2 138 (hR 140) (hR 141) (hR 142) 388) ::
(nat_lit 144,hF 24 "row_of" (.str "knotwise.texts" 324) (.ref 143)) ::
(nat_lit 150,hD "writes_passing" 390 91 1 145 (hR 147) (hR 148) (hR 149) 395) ::
(nat_lit 151,hF 25 "writes_passing" (.str "knotwise.texts" 324) (.ref 150)) ::
(nat_lit 155,hD "writes_name" 397 93 1 152 hN hN (hR 154) 401) ::
(nat_lit 156,hF 26 "writes_name" (.str "knotwise.texts" 324) (.ref 155)) ::
(nat_lit 162,hD "passing_of" 403 97 1 157 (hR 159) (hR 160) (hR 161) 409) ::
(nat_lit 163,hF 27 "passing_of" (.str "knotwise.texts" 324) (.ref 162)) ::
(nat_lit 169,hD "_law_cell" 413 101 2 164 (hR 166) (hR 167) (hR 168) 419) ::
(nat_lit 170,hF 29 "_law_cell" (.str "law_knotwise_k04_texts_written_and_read" 411) (.ref 169)) ::
(nat_lit 176,hD "_law_whole" 421 105 1 171 (hR 173) (hR 174) (hR 175) 426) ::
(nat_lit 177,hF 30 "_law_whole" (.str "law_knotwise_k04_texts_written_and_read" 411) (.ref 176)) ::
(nat_lit 181,hD "_law_rows_of_passings" 428 107 1 178 hN hN (hR 180) 432) ::
(nat_lit 182,hF 31 "_law_rows_of_passings" (.str "law_knotwise_k04_texts_written_and_read" 411) (.ref 181)) ::
(nat_lit 188,hD "_law_seat" 434 119 1 183 (hR 185) (hR 186) (hR 187) 441) ::
(nat_lit 189,hF 32 "_law_seat" (.str "law_knotwise_k04_texts_written_and_read" 411) (.ref 188)) ::
(nat_lit 193,hD "_law_seats" 443 125 1 190 hN hN (hR 192) 447) ::
(nat_lit 194,hF 33 "_law_seats" (.str "law_knotwise_k04_texts_written_and_read" 411) (.ref 193)) ::
(nat_lit 200,hD "_law_names" 449 127 1 195 (hR 197) (hR 198) (hR 199) 457) ::
(nat_lit 201,hF 34 "_law_names" (.str "law_knotwise_k04_texts_written_and_read" 411) (.ref 200)) ::
(nat_lit 207,hD "_law_name" 459 134 2 202 (hR 204) (hR 205) (hR 206) 466) ::
(nat_lit 208,hF 35 "_law_name" (.str "law_knotwise_k04_texts_written_and_read" 411) (.ref 207)) ::
(nat_lit 214,hD "_law_cross" 468 139 2 209 (hR 211) (hR 212) (hR 213) 478) ::
(nat_lit 215,hF 36 "_law_cross" (.str "law_knotwise_k04_texts_written_and_read" 411) (.ref 214)) ::
(nat_lit 221,hD "_law_line" 480 146 1 216 (hR 218) (hR 219) (hR 220) 489) ::
(nat_lit 222,hF 37 "_law_line" (.str "law_knotwise_k04_texts_written_and_read" 411) (.ref 221)) ::
(nat_lit 226,hD "_law_text" 491 153 1 223 hN hN (hR 225) 495) ::
(nat_lit 227,hF 38 "_law_text" (.str "law_knotwise_k04_texts_written_and_read" 411) (.ref 226)) ::
(nat_lit 231,hD "law" 497 155 1 228 hN hN (hR 230) 501) ::
(nat_lit 232,hF 39 "law" (.str "law_knotwise_k04_texts_written_and_read" 411) (.ref 231)) :: []
noncomputable def hA:List Addr:=[2,3,15,22,23,24,25,28,40,41,42,43,44,47,59,60,61,62,63,71,72,78,79,83,84,90,91,97,98,104,105,109,110,111,112,113,114,115,119,120,124,125,131,132,136,137,143,144,150,151,155,156,162,163,169,170,176,177,181,182,188,189,193,194,200,201,207,208,214,215,221,222,226,227,231,232]
noncomputable def hL:List Str:=["ENDINGS"]
noncomputable abbrev Jm(w:World):Prop:=∀ os:OsState,(topFrom treeTable (aJ).row.prog w 3364 ⟨Hi w.params,Fd [],B3,Hh,os⟩).map (fun s=>(openSeen hQ hL (uF (aJ).row.prog.main.body) (MG aJ hQ) true s,hA.map s.heap.get?))=some (openGood hQ hL,(hK w.params).map fun p=>some p.2)
theorem WU (w:World):Jm (w.withFollow "special-get-raises" false):=fun os=>by kernel_rfl
theorem WT (w:World):Jm (w.withFollow "special-get-raises" true):=fun os=>by kernel_rfl
theorem NR (w:World) (os:OsState):(topFrom treeTable (aJ).row.prog w 3364 ⟨Hi w.params,Fd [],B3,Hh,os⟩).map (fun s=>(openSeen hQ hL (uF (aJ).row.prog.main.body) (MG aJ hQ) true s,hA.map s.heap.get?))=some (openGood hQ hL,(hK w.params).map fun p=>some p.2):=(byRow2 "special-get-raises" (P:=fun w=>Jm w) WU WT) w os
theorem NQ:(aJ).wellSaid=true:=by kernel_rfl
theorem NP:DZ aJ hQ=true:=by kernel_rfl
end
end Fin
end Internal
open Internal
open PySem PySem.W PyProof.Rows
set_option maxRecDepth 100000 in
set_option maxHeartbeats 0 in
theorem PySem.Challenge.cw_knotwise_k04_texts_written_and_read_holds : PySem.Challenge.rw_knotwise_k04_texts_written_and_read.Holds := by
 w_on
 refine K2.FX (q:=Fin.hQ) (K:=Fin.hK) (as:=Fin.hA) (N:=3364) Fin.NQ (by kernel_rfl) (by kernel_rfl) (fun _=>by kernel_rfl) (fun _=>by kernel_rfl) Fin.NR (by rfl) (by rfl) (by rfl) (by rfl) Fin.NP ⟨rfl,rfl,rfl,rfl,rfl,by decide +kernel⟩ ?hw ?hc
 (case hw=>w_witness2)
 k_fill
 refine K2.IF (l:=aJ) (k:=5) (x:="_law_script") rfl rfl ⟨rfl,by decide,by decide⟩ (fun w h Y=>Y) ?F
 case F =>
  intro w mg fa h KX G PO;exact Fin.all_mk KX G PO K2.fw K2.fw K2.fw K2.fw K2.fw K2.fw K2.fw K2.fw K2.fw K2.fw K2.fw K2.fw K2.fw K2.fw K2.fw K2.fw K2.fw K2.fw K2.fw K2.fw K2.fw K2.fw K2.fw K2.fw K2.fw K2.fw
