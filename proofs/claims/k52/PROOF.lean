import PyProof.Rows.All
import Wide.All
import OpenK.AllK
import Wide.FinOn
import Lean
import PyProof.EqAt
import PyProof.EqKinds
import PyProof.TupleCall
import PySem.Challenge.RW_knotwise_k52_a_colouring_told
open Array renaming getElem?_eq_getElem → aX, getD_eq_getD_getElem? → aZ, length_toList → br, getElem?_toList → ck, getElem?_eq_none → fV, getD → qg, forIn_toList → yn, toList_filterMap → LA, toList_filter → Pg
open Array.Perm renaming refl → mx
open Bool renaming false_eq_true → aB, and_eq_true → aH, noConfusion → bq, not_true → bO, not_false → cF, false_ne_true → eF, and_eq_true_iff → jy, or_eq_true → og, false_and → pX, and_false → xw, not_eq_true' → AS, false_or → Lz, beq_eq_decide_eq → OO
open Classical renaming byContradiction → cA, choose → OM
open False renaming elim → bQ
open ForInStep renaming yield → sr
open Int renaming toNat_natCast → bH, emod_lt_of_pos → gB, emod_nonneg → jg, natCast_nonneg → kW, toNat → An, le_refl → GH
open List renaming getElem?_cons_zero → ae, getElem?_cons_succ → af, getElem?_eq_getElem → ah, length_map → aj, length_cons → ak, length_append → au, mem_cons_of_mem → av, map_cons → ax, length_nil → ay, set_cons_zero → az, set_cons_succ → aC, mem_cons_self → aE, getD_eq_getElem?_getD → aL, size_toArray → aP, map_append → aS, cons_append → aT, nil_append → bg, map_nil → bh, getElem?_map → bu, replicate → bF, flatten_cons → bG, mem_append_right → bR, append_nil → bS, getElem_mem → bT, getElem?_append_right → bZ, map_map → cc, nodup_append → cw, length_singleton → cE, range → cG, append_assoc → cH, length_drop → cJ, not_mem_nil → cQ, mem_map_of_mem → cV, getElem?_append_left → cW, length → dg, length_take → dj, nodup_nil → du, getElem_of_mem → dI, foldl_cons → dJ, mem_of_getElem? → dS, nodup_cons → dZ, filter_cons_of_pos → eE, getElem?_set_ne → eG, getElem?_set_self → eV, take_append_drop → fh, length_set → fj, length_replicate → fk, length_filter_le → fm, mem_append_left → fF, filter_cons_of_neg → fI, zipIdx_map_fst → fT, find?_cons → fU, take_of_length_le → fX, getElem_map → gq, filter_append → gy, drop_eq_getElem_cons → gF, pairwise_map → gT, length_range → gU, length_reverse → hV, flatten_append → hX, all_eq_true → iA, getElem?_eq_none → i9, nodup_iff_pairwise_ne → jw, getElem?_take_of_lt → jY, mem_singleton → kL, mem_cons → kM, getElem?_replicate → kN, any_cons → kO, drop_eq_nil_of_le → lr, flatMap_cons → lH, contains_cons → pO, take_append_getElem → rM, foldl_append → rN, filterMap_cons_some → rO, all_cons → sH, find?_cons_of_pos → t8, getElem?_reverse → vF, filter_nil → vG, reverse_append → xS, filterMap_cons → xT, take_nil → z9, getElem?_drop → Aa, drop_nil → Ab, append_of_mem → Ac, find?_append → AQ, set_nil → BP, all_map → BQ, lookup_cons → Dy, isEmpty_nil → DA, of_mem_zip → Gb, mem_append → Gd, idxOf_lt_length_of_mem → Ge, perm_ext_iff_of_nodup → GG, take_zero → IK, pairwise_iff_getElem → IL, eq_of_mem_replicate → J8, pairwise_singleton → Lv, pairwise_mergeSort → Lw, map_take → Lx, getElem_cons_succ → L6, find?_cons_of_neg → L7, getElem?_toArray → OL
open List.Pairwise renaming imp_of_mem → Ae
open List.Perm renaming eq_of_pairwise → DB
open Nat renaming le_refl → aF, lt_of_lt_of_le → bJ, ne_of_lt → bL, not_lt_zero → cu, le_trans → cv, zero_le → cD, lt_irrefl → ff, le_add_right → gx, zero_add → gz, add_sub_cancel_left → ib, mod_lt → jv, succ_pos → kg, lt_of_le_of_lt → pV, add_sub_cancel → pW, succ_le_succ → t6, mod_eq_of_lt → t7, lt_of_succ_lt_succ → ug, le_of_succ_le_succ → uh, add_sub_cancel' → ym, sub_le → BN, lt_succ_of_le → BO, succ_add → Dw, le_of_lt → Dx, min_eq_left → GF, sub_self → Pa, lt_trans → Pc
open Ne renaming symm → fu
open Option renaming isSome_map → z8, bind_some → AP, map_some → Dv
open Option.some renaming inj → df
open PyProof.Rows renaming callWith_type1 → d6, callWith_builtin1 → kd, IntsAre → om, seqObj → uc, slot_tuple_getitem → vE, envOfC → yj, AllBare → yp, oneType' → Lu
open PyProof.Rows.F renaming plain_set_update_loop → uj, entry_set_update_loop → Pf
open PySem renaming wpAny_bind → aa, wpAny_pure → ai, Shared → aq, mainGlobals → aN, FuncData → aW, sizeLine → bc, starEach → bK, Program → bP, sizeLine_eq → cb, wpAny_loadPart' → cf, wpAny_newObj_type → cO, wpAny_call_entry → cT, Around → dh, wpAny_holding → dq, tupleKind → dH, wpAny_dictEntries → dU, wpAny_callSpecial?_slot → eK, wpAny_Call_Name_kw → eM, sysModules → eU, bootBuiltins → fy, wpAny_mono → fH, compareOp → gm, ReadsAll → gv, SetTable → gO, mem_of_lookup → hU, wpAny_dictEpoch → ia, wpAny_typeNameOfWhole_valiter → iS, wpAny_typeNameOfWhole_keyiter → iT, wpAny_forIn_list → iU, backTo → iV, wpAny_fieldsOf → i8, codeAny_builtin → jA, DictEntry → jB, wpAny_pyIter_slot → jP, wpAny_attempt → jQ, binaryOp → jR, wpAny_setField → ko, wpAny_typeNameOf_valiter → la, wpAny_typeNameOf_keyiter → lb, wpAny_execs_nil → lL, wpAny_setState_of → mZ, foldedSetIterable → ng, firstArgMember → nv, wpAny_isOneOf_valiter → nE, codeAny_mono → nF, wpAny_isInstance → oj, rawInt → pz, wpAny_passesOwn → p7, sliceBounds → p8, pyNext → p9, tupleKind_room_in1 → sF, NameKind → sG, wpAny_truthy_bool → ua, ofAClassStatement → ud, codeAny → vJ, behindInMarks → vK, wpAny_execs_cons → wV, richCompare_meets_room → xr, wpAny_specialOf → yf, wpAny_notOrdered_dict → yg, letOwnedTupleGo → yh, call_meets → zZ, assignEach → z0, codeAny_call_builtin → Aj, pyIter → AM, carriedByValue → AN, wpAny_setEntries_of → BI, wpAny_of_eq → BJ, swapsWith → DI, plainId_quiet → DJ, dictSetHashed → DL, attributeBase → DM, ExceptHandler → DP, wpAny_truthy_dict → Gr, wpAny_pyIter_list → Gs, wpAny_call → Gu, searchCouldBeSeen → Gv, relabel → Gw, holding → Gx, entryOfKey → Gy, callerA → Gz, wpAny_typeOf → IF, wpAny_callSpecialIfBound?_slot → IG, wpAny_askSetting → J3, setField → Ls, wpAny_field → LP, valueAt → LQ, unsupported → LR, spliced → LS, size_of_entries → LU, hashByValue → LW, excClassObj → LX, assign → LY, Keyword → L8, BindsTo → L9, isSubtype_type → O7, isSubtype_stop → O8, entryFor_alias → O9
open PySem.Around renaming under_plainId → jo
open PySem.AutoSeq1 renaming sub_tuple_tuple → pA, sub_list_list → GK
open PySem.Builtin.Dict renaming showsAll → hZ, entriesForEmpty → xu, updateFrom → AR, mergeDict → BR, quietEq → DQ, noArgs → Gi
open PySem.Builtin.Dict_items renaming ownsTuple → eW
open PySem.Builtin.List renaming listTooLong → jh, listLengthHint → xV
open PySem.Builtin.Slice renaming slicePlaces → iL, sliceAdjust → mE, sliceApplied → xU
open PySem.Builtin.Tuple renaming tupleExact → jb, tupleCompareSizes → uk
open PySem.Calls renaming spliced_cons → kq, Name_function_global → Gh, callWith_builtin → Ly, evalArgs_plain → ON
open PySem.F renaming plainAttrs_list → cP, slot_list_index → eB, type_list_index → fA, slot_dict_valueiterator_next → iB, slot_dict_keyiterator_next → ja, slot_tuple_lt → lq, args_tuple_lt_2 → qf, entry_tuple_lt → sg, slot_list_lt → ue, attrBase_ValueError → BM, args_dict_valueiterator_next_1 → DD, entry_dict_valueiterator_next → DO, type_list_append → FW, slot_list_append → FX, slot_dict_values → FY, slot_dict_update → FZ, args_tuple_add_2 → Ga, slot_dict_valueiterator_iter → Gf, args_dict_keyiterator_next_1 → Gg, plainAttrs_dict → GC, entry_tuple_add → GD, entry_dict_keyiterator_next → GJ, slot_tuple_add → II, args_list_lt_2 → IJ, slot_dict_keyiterator_iter → IM, slot_set_iter → J4, entry_list_lt → J7, slot_dict_values_iter → Pe
open PySem.Heap renaming get?_push_of_some → aI, lt_size → aK, get?_push_size → bw, get?_update_self → eu, SameBut → fK, get?_update_other → t9, FlyingW → vD, size_update → DC, get?_none_of_le → Pd
open PySem.Heap.SameBut renaming update → cq, refl → vH
open PySem.IsTupleKey renaming typeIs → wW
open PySem.NameKind renaming free → jU
open PySem.Obj renaming data_mapFields → dW, mapSeq → iI, mapFields → kU, isFreed_of_fields → mD, data_mapDictKeys → ny, putSet → si, cls_mapFields → sk
open PySem.Paired renaming length → g7
open PySem.PassesOwn renaming never → cx
open PySem.PyData renaming depthAll → cj, eqv → uf
open PySem.SeqAt renaming items_eqAt → mC, any_by_data → qe, readOf → AO
open PySem.SetTable renaming below → Du, fill → FV
open PySem.Str renaming ofString → mB
open PySem.Value renaming ref → dv, none → dE, bool → Am, isInt → DN
open PySem.W renaming Frag → ag, keepIn → ar, nsIn → aR, mg_of → aU, codeIn → bx, fnOf → bE, kitOne → dF, findIn → dG, mg_none_of → eA, excIn → eX, kas_rev → gk, kas_place → jz, mroIn → jX, kas_desc → kK, specialIn → kT, kas_asc → qc, takesIn → sP, KdlSrc → vC, callWith_K → xt, kas_descPart → yi, methodObj → yk, OpenLaw → BL, clsIn → GB, cellsFrom_some → IH, kas_tail3 → LV, hideAll_get → LZ, of_hideAll → OJ
open PySem.W.KasT renaming ret → vL
open Sum renaming inl → BK, inr → GA
open True renaming intro → nG
set_option Elab.async false
set_option linter.all false
set_option maxRecDepth 100000
set_option maxHeartbeats 4000000
set_option genSizeOf false
set_option genInjectivity false
set_option compiler.extract_closed false
namespace Internal
theorem Ad(h:0=0:=by decide):0=0:=h
theorem Ai(h:0=0:=by intro _; rfl):0=0:=h
theorem Ak(h:0=0:=by decide +kernel):0=0:=h
theorem Al(h:0=0:=by intro _ _ _ _ h; repeat (first | (cases h.1; rfl) | (cases h <;> rename_i h))):0=0:=h
theorem Ao(h:0=0:=by first | exact .inl rfl | exact .inr rfl | exact .inr (.inl rfl) | exact .inr (.inr rfl) | assumption):0=0:=h
theorem Ar(h:0=0:=by rfl):0=0:=h
theorem Aw(h:0=0:=by with_unfolding_all rfl):0=0:=h
namespace L2
open PySem PySem.Spec PyProof.Rows
noncomputable abbrev Key:=Sum Int Str
noncomputable def Bj:Key->Value->Bool
 | .inl k,v=>DN k v
 | .inr x,v=>Value.isStrOf x v
noncomputable def Zx(w:World):Key->Int
 | .inl k=>hashInt k
 | .inr x=>hashStr w x
theorem ez:∀ {k:Key} {v:Value},Bj k v=true->(∃ i t,k=BK i/\v=Value.int i t)\/(∃ x t,k=GA x/\v=Value.str x t)
 | .inl i,v,h=>by
  obtain⟨t,e⟩:=Value.isInt_shape (k:=i) (v:=v) h
  exact .inl ⟨i,t,rfl,e⟩
 | .inr x,v,h=>by
  obtain⟨t,e⟩:=Value.isStrOf_shape (x:=x) (v:=v) h
  exact .inr ⟨x,t,rfl,e⟩
theorem KY(i:Int)(t:Tok):Bj (.inl i) (.int i t)=true:=by simp [Bj,DN]
theorem KW(x:Str)(t:Tok):Bj (.inr x) (.str x t)=true:=by simp [Bj,Value.isStrOf]
theorem Nr(a b:Int):decide ((BK a:Key)=BK b)=(a == b):=by
 by_cases e:a=b
 ·subst e; simp
 ·have h:¬ (BK a:Key)=BK b:=fun q=>e (Sum.inl.inj q)
  rw [decide_eq_false h]
  exact(beq_eq_false_iff_ne.mpr e).symm
theorem Nq(a b:Str):decide ((GA a:Key)=GA b)=decide (a=b):=by
 by_cases e:a=b
 ·subst e; simp
 ·have h:¬ (GA a:Key)=GA b:=fun q=>e (Sum.inr.inj q)
  rw [decide_eq_false h,decide_eq_false e]
theorem Sv(a:Int)(b:Str):decide ((BK a:Key)=GA b)=false:=decide_eq_false (fun q=>nomatch q)
theorem Su(a:Str)(b:Int):decide ((GA a:Key)=BK b)=false:=decide_eq_false (fun q=>nomatch q)
noncomputable def cy(prog:bP)(w:World):PySem.KeyKind prog w Key where
 is:=Bj
 hash:=Zx w
 inj:=fun v a b ha hb=>by
  rcases ez ha with ⟨i,t,rfl,rfl⟩ | ⟨x,t,rfl,rfl⟩
  ·rcases ez hb with ⟨j,u,rfl,e⟩ | ⟨y,u,rfl,e⟩
   ·injection e with e1 _; rw [e1]
   ·exact nomatch e
  ·rcases ez hb with ⟨j,u,rfl,e⟩ | ⟨y,u,rfl,e⟩
   ·exact nomatch e
   ·injection e with e1 _; rw [e1]
 byValue:=fun k v h=>by
  rcases ez h with ⟨i,t,rfl,rfl⟩ | ⟨x,t,rfl,rfl⟩ <;> rfl
 pyHash:=fun hv h=>by
  rcases ez hv with ⟨i,t,rfl,rfl⟩ | ⟨x,t,rfl,rfl⟩
  ·exact wpAny_pyHash_int h
  ·exact wpAny_pyHash_str h
 eqBool:=fun hu hv h=>by
  rcases ez hu with ⟨i,t,rfl,rfl⟩ | ⟨x,t,rfl,rfl⟩
  ·rcases ez hv with ⟨j,u,rfl,rfl⟩ | ⟨y,u,rfl,rfl⟩
   ·rw [Nr] at h; exact wpAny_eqBool_int h
   ·rw [Sv] at h; exact SeqAt.EqAt.int_str i t y u _ _ _ _ h
  ·rcases ez hv with ⟨j,u,rfl,rfl⟩ | ⟨y,u,rfl,rfl⟩
   ·rw [Su] at h; exact SeqAt.EqAt.str_int x t j u _ _ _ _ h
   ·rw [Nq] at h; exact wpAny_eqBool_str h
 «strs»:=fun k x t v h=>by
  rcases ez h with ⟨i,u,rfl,e⟩ | ⟨y,u,rfl,e⟩
  ·exact nomatch e
  ·injection e with e1 _
   subst e1
   cases v <;> rfl
theorem EC(prog:bP)(w:World)(i:Int)(t:Tok):(cy prog w).is (.inl i) (.int i t)=true:=KY i t
theorem EB(prog:bP)(w:World)(x:Str)(t:Tok):(cy prog w).is (.inr x) (.str x t)=true:=KW x t
inductive V where
 | cY | bl (b:Bool) | int (i:Int) | str (x:Str) | S7 (b:Array UInt8) | Vi (b:UInt64) | ref (a:Addr) | ty (n:String)
noncomputable def RelV:V->Value->Prop
 | .cY,u=>u=dE
 | .bl b,u=>u=Am b
 | .int i,u=>∃ t,u=Value.int i t
 | .str x,u=>∃ t,u=Value.str x t
 | .S7 b,u=>∃ t,u=Value.bytes b t
 | .Vi b,u=>∃ t,u=Value.float b t
 | .ref a,u=>u=dv a
 | .ty n,u=>u=Value.type n
noncomputable abbrev Vals:List V->List Value->Prop:=Paired RelV
theorem Vals.length{xs:List V}{us:List Value}(r:Vals xs us):xs.length=us.length:=g7 r
theorem Vals.get:∀ {xs:List V} {us:List Value} {i:Nat} {x:V},Vals xs us->xs[i]?=some x->∃ u,us[i]?=some u/\RelV x u:=by
 intro xs us i x h
 induction h generalizing i with
 | nil=>intro e; cases e
 | cons r t ih =>
  intro e
  cases i with
  | zero=>cases e; exact⟨_,rfl,r⟩
  | succ i=>exact ih e
theorem Vals.set{x:V}{u:Value}(r:RelV x u):∀ {xs:List V} {us:List Value} (i:Nat),Vals xs us->Vals (xs.set i x) (us.set i u):=by
 intro xs us i h
 induction h generalizing i with
 | nil=>rw [BP,BP]; exact .nil
 | cons q t ih =>
  cases i with
  | zero=>exact .cons r t
  | succ i=>exact .cons q (ih i)
theorem Vals.append:∀ {xs ys:List V} {us ws:List Value},Vals xs us->Vals ys ws->Vals (xs++ys) (us++ws):=by
 intro xs ys us ws h s
 induction h with
 | nil=>exact s
 | cons r t ih=>exact .cons r ih
theorem Vals.take:∀ {xs:List V} {us:List Value} (n:Nat),Vals xs us->Vals (xs.take n) (us.take n):=by
 intro xs us n h
 induction h generalizing n with
 | nil=>rw [z9,z9]; exact .nil
 | cons r t ih =>
  cases n with
  | zero=>exact .nil
  | succ n=>exact .cons r (ih n)
theorem Vals.drop:∀ {xs:List V} {us:List Value} (n:Nat),Vals xs us->Vals (xs.drop n) (us.drop n):=by
 intro xs us n h
 induction h generalizing n with
 | nil=>rw [Ab,Ab]; exact .nil
 | cons r t ih =>
  cases n with
  | zero=>exact .cons r t
  | succ n=>exact ih n
noncomputable def AJ:Option V->Option Value->Prop
 | some v,some u=>RelV v u
 | none,none=>True
 | _,_=>False
noncomputable def KV{κ:Type}:List (κ×V)->List (κ×Value)->Prop:=Paired fun (p:κ×V) (q:κ×Value)=>p.1=q.1/\RelV p.2 q.2
noncomputable def kV:Key->V
 | .inl i=>.int i
 | .inr x=>.str x
inductive HO where
 | lst (xs:List V)
 | tup (xs:List V)
 | dK (bp:List (Key×V)) | dT (bp:List (List Key×V))
 | set (S:Int->Bool) (n:Nat)
 | ins (C dx:Addr) (fs:List (Str×V))
 | own (x:Addr)
 | xd (fs:List (Str×V))
 | met (f x:Addr)
 | T8 (lo hi:Int)
 | kQ (o:Obj) (u:HO)
 | Pp (ps:Array Value)
 | ext (φ:Heap->Prop)
noncomputable abbrev Hp:=Addr->Option HO
noncomputable def upd(H:Hp)(a:Addr)(o:HO):Hp:=fun b=>if b=a then some o else H b
theorem cR{H:Hp}{a:Addr}{o:HO}:upd H a o a=some o:=by unfold upd; rw [if_pos rfl]
theorem bU{H:Hp}{a b:Addr}{o:HO}(h:b≠a):upd H a o b=H b:=by unfold upd; rw [if_neg h]
theorem Uw{H:Hp}{a b:Addr}{o u:HO}(h:H a=some o)(h':H b=some u)(d:o≠u):a≠b:=by
 intro e; subst e; rw [h] at h'; exact d (df h')
theorem ef{H:Hp}{a b:Addr}{o:HO}(h:H a=some o)(h':H b=none):a≠b:=by
 intro e; subst e; rw [h] at h'; cases h'
section
variable (P:bP) (w:World)
noncomputable def gu(H:Hp)(h:Heap)(a:Addr):HO->Prop
 | .lst xs=>xs.length<=bc/\∃ (bB:List Value) (n:Nat),Vals xs bB/\h.get? a=some { cls:=.type "list",data:=.seq bB.toArray n }
 | .tup xs=>xs.length<=bc/\∃ bB:List Value,Vals xs bB/\IsTup h a bB.toArray
 | .dK bp=>bp.length<=bc/\(a == eU)=false/\∃ vs,KV bp vs/\h.DictOf (cy P w) a vs
 | .dT bp=>bp.length<=bc/\(a == eU)=false/\∃ xs:List (List Key×Addr×Value),
   Paired (fun (p:List Key×V) (q:List Key×Addr×Value)=>p.1=q.1/\H q.2.1=some (.tup (p.1.map kV))/\RelV p.2 q.2.2) bp xs /\
   ∃ o es ep,h.get? a=some o/\o.ExactDict/\o.data=.dict es ep/\es.toList=xs.map (Gy (dH (cy P w)))/\(xs.map (·.1)).Nodup
 | .set S n=>h.SetOf (intKind P w) a S n
 | .ins C dx fs=>H dx=some (.own a)/\fs.length<=1000/\dx≠a/\h.get? a=some (PySem.W.instObj C dx) /\
   ∃ mA,h.Ns1 dx mA/\(∀ f,AJ (fs.lookup f) (mA f))/\PySem.Within mA (fs.map (·.1))
 | .own _=>∃ o,h.get? a=some o
 | .xd fs=>∃ mA,h.Ns1 a mA/\∀ f,AJ (fs.lookup f) (mA f)
 | .T8 lo hi=>∃ t u v,h.get? a=some { cls:=.type "range",data:=.fields #[.int lo t,.int hi u,.int 1 v] }
 | .kQ o u=>h.get? a=some o/\gu H h a u
 | .Pp ps=>h.get? a=some { cls:=.none,data:=.fields ps }
 | .met f x=>h.get? a=some (yk (.ref f) (.ref x))
 | .ext φ=>φ h/\(∃ o,h.get? a=some o)/\∀ h1 h2:Heap,φ h1->(∀ o,h1.get? a=some o->h2.get? a=some o)->φ h2
noncomputable def pT(H:Hp)(h:Heap):Prop:=∀ a o,H a=some o->gu P w H h a o
end
section
variable {P:bP} {w:World} {H H':Hp} {h h':Heap} {a:Addr} {o:HO}
theorem gu.lt(x:gu P w H h a o):a < h.objs.size:=by
 cases o with
 | lst xs=>obtain⟨_,_,_,_,e⟩:=x; exact aK e
 | tup xs=>obtain⟨_,_,_,p⟩:=x; exact p.lt
 | dK bp=>obtain⟨_,_,_,_,o,_,_,e,_⟩:=x; exact aK e
 | dT bp=>obtain⟨_,_,_,_,o,_,_,e,_⟩:=x; exact aK e
 | set S n=>obtain⟨o,_,_,_,e,_⟩:=x; exact aK e
 | ins C dx fs=>obtain⟨_,_,_,e,_⟩:=x; exact aK e
 | own y=>obtain⟨_,e⟩:=x; exact aK e
 | xd fs=>obtain⟨_,⟨_,_,_,e,_⟩,_⟩:=x; exact aK e
 | T8 lo hi=>obtain⟨_,_,_,e⟩:=x; exact aK e
 | kQ ob u=>obtain⟨e,_⟩:=x; exact aK e
 | Pp ps=>exact aK (show h.get? a=some _ from x)
 | met f y=>exact aK (show h.get? a=some _ from x)
 | ext φ=>obtain⟨_,⟨_,e⟩,_⟩:=x; exact aK e
theorem Paired.Si{α β:Type}{F G:α->β->Prop}:∀ {l₁:List α} {Sj:List β},Paired F l₁ Sj->(∀ a b,F a b->G a b)->Paired G l₁ Sj:=by
 intro l₁ Sj h f
 induction h with
 | nil=>exact .nil
 | cons r t ih=>exact .cons (f _ _ r) ih
theorem gu.iM(x:gu P w H h a o)(k:∀ b u,(b=a\/H b=some (.own a))->h.get? b=some u->h'.get? b=some u)
  (ho:∀ b,H b=some (.own a)->H' b=some (.own a)) (ht:∀ b xs,H b=some (.tup xs)->H' b=some (.tup xs)):gu P w H' h' a o:=by
 induction o with
 | lst xs=>obtain⟨z,bB,n,r,e⟩:=x; exact⟨z,bB,n,r,k _ _ (.inl rfl) e⟩
 | tup xs=>obtain⟨z,bB,r,ob,e,c⟩:=x; exact⟨z,bB,r,ob,k _ _ (.inl rfl) e,c⟩
 | dK bp=>obtain⟨z,y,vs,r,ob,es,ep,e,c⟩:=x; exact⟨z,y,vs,r,ob,es,ep,k _ _ (.inl rfl) e,c⟩
 | dT bp =>
  obtain⟨z,y,xs,r,ob,es,ep,e,c⟩:=x
  exact⟨z,y,xs,Paired.Si r fun p q z=>⟨z.1,ht _ _ z.2.1,z.2.2⟩,ob,es,ep,k _ _ (.inl rfl) e,c⟩
 | set S n=>obtain⟨ob,es,ep,t,e,c⟩:=x; exact⟨ob,es,ep,t,k _ _ (.inl rfl) e,c⟩
 | ins C dx fs =>
  obtain⟨d,z,ne,e,mA,⟨od,es,ep,e2,c⟩,r⟩:=x
  exact⟨ho _ d,z,ne,k _ _ (.inl rfl) e,mA,⟨od,es,ep,k _ _ (.inr d) e2,c⟩,r⟩
 | own y=>obtain⟨ob,e⟩:=x; exact⟨ob,k _ _ (.inl rfl) e⟩
 | xd fs=>obtain⟨mA,⟨od,es,ep,e,c⟩,r⟩:=x; exact⟨mA,⟨od,es,ep,k _ _ (.inl rfl) e,c⟩,r⟩
 | T8 lo hi=>obtain⟨t,u,v,e⟩:=x; exact⟨t,u,v,k _ _ (.inl rfl) e⟩
 | kQ ob u ih=>obtain⟨e,q⟩:=x; exact⟨k _ _ (.inl rfl) e,ih q⟩
 | Pp ps =>
  have e:h.get? a=some { cls:=.none,data:=.fields ps }:=x
  show h'.get? a=some { cls:=.none,data:=.fields ps }
  exact k a _ (.inl rfl) e
 | met f y =>
  have e:h.get? a=some (yk (.ref f) (.ref y)):=x
  show h'.get? a=some (yk (.ref f) (.ref y))
  exact k a _ (.inl rfl) e
 | ext φ=>obtain⟨p,⟨o,e⟩,st⟩:=x; exact⟨st _ _ p fun o q=>k _ _ (.inl rfl) q,⟨o,k _ _ (.inl rfl) e⟩,st⟩
theorem pT.lt(x:pT P w H h)(e:H a=some o):a < h.objs.size:=(x a o e).lt
theorem pT.fresh(x:pT P w H h)(e:h.objs.size<=a):H a=none:=by
 cases q:H a with
 | none=>rfl
 | some u=>exact absurd (bJ (x.lt q) e) (ff _)
theorem pT.kept(x:pT P w H h)(k:∀ b u,h.get? b=some u->h'.get? b=some u):pT P w H h':=fun a o e =>
 (x a o e).iM (fun b u _ q=>k b u q) (fun _ q=>q) fun _ _ q=>q
theorem pT.laid(x:pT P w H h)(k:∀ b u,h.get? b=some u->h'.get? b=some u)(hp:h.objs.size<=a)(new:gu P w (upd H a o) h' a o):pT P w (upd H a o) h':=fun b u e=>by
 have hn:=x.fresh hp
 by_cases hb:b=a
 ·subst hb; rw [cR] at e; cases e; exact new
 ·rw [bU hb] at e
  exact(x b u e).iM (fun c v _ q=>k c v q) (fun c q=>by rw [bU (ef q hn)]; exact q) fun c xs q=>by rw [bU (ef q hn)]; exact q
end
noncomputable def Rd(H:Hp)(a:Addr)(u:HO):Prop:=H a=some u\/∃ o,H a=some (.kQ o u)
theorem Rd.ok{P:bP}{w:World}{H:Hp}{h:Heap}{a:Addr}{u:HO}(r:Rd H a u)(x:pT P w H h):gu P w H h a u:=by
 rcases r with r | ⟨o,r⟩
 ·exact x a u r
 ·obtain⟨_,q⟩:=x a _ r
  exact q
noncomputable def VW:Option HO->Prop
 | some (.lst _)=>True
 | some (.dK _)=>True
 | some (.dT _)=>True
 | some (.set _ _)=>True
 | some (.ins _ _ _)=>True
 | some (.ext _)=>True
 | _=>False
section
variable {P:bP} {w:World} {H:Hp} {h h':Heap} {x e:Addr} {o':HO}
theorem pT.write(ok:pT P w H h)(mu:VW (H x))(he:e=x\/H e=some (.own x))(k:∀ b u,b≠e->h.get? b=some u->h'.get? b=some u)(LH:∃ u,h'.get? e=some u)
  (new:gu P w (upd H x o') h' x o'):pT P w (upd H x o') h':=fun b u q=>by
 have Ur:∀ c y,H c=some (.own y)->c≠x:=fun c y r z=>by subst z; rw [r] at mu; exact mu
 have Y0:∀ c xs,H c=some (.tup xs)->c≠x:=fun c xs r z=>by subst z; rw [r] at mu; exact mu
 by_cases hb:b=x
 ·subst hb; rw [cR] at q; cases q; exact new
 ·rw [bU hb] at q
  by_cases SQ:b=e
  ·have q':H b=some (.own x):=by
    rcases he with z | z
    ·exact absurd (SQ.trans z) hb
    ·rw [SQ]; exact z
   rw [q] at q'; cases q'
   obtain⟨v,hv⟩:=LH
   exact⟨v,by rw [SQ]; exact hv⟩
  ·refine(ok b u q).iM (fun c v hc r=>k c v ?_ r) (fun c r=>by rw [bU (Ur c b r)]; exact r) fun c xs r=>by rw [bU (Y0 c xs r)]; exact r
   rcases hc with rfl | hc
   ·exact SQ
   ·rintro rfl
    rcases he with z | z
    ·exact Ur c b hc z
    ·rw [hc] at z; cases z; exact hb rfl
end
structure Un(fs ex:List Addr)(H H':Hp)(h h':Heap):Prop where
 keep:∀ b o,h.get? b=some o->H b=none->b∉fs->b∉ex->h'.get? b=some o
 slot:∀ b o,h.get? b=some o->H b=none->b∈fs->b∉ex->∃ sl,h'.get? b=some { o with slots:=sl }
 free:∀ b o,h.get? b=some o->H b=none->b∉ex->H' b=none
 there:∀ b o,h.get? b=some o->b∉ex->∃ o',h'.get? b=some o'
 tx:∀ b xs,H b=some (.tup xs)->H' b=some (.tup xs)
 sC:∀ b o u,H b=some (.kQ o u)->H' b=some (.kQ o u)
 vN:∀ b ps,H b=some (.Pp ps)->∃ more,H' b=some (.Pp (ps++more))
section
variable {fs fs' ex ex':List Addr} {H H1 H2:Hp} {h h1 h2 h':Heap} {a x e:Addr} {o:HO}
theorem Un.any(u:Un fs ex H H1 h h1){b:Addr}{ob:Obj}(q:h.get? b=some ob)(n:H b=none)(hx:b∉ex):∃ sl,h1.get? b=some { ob with slots:=sl }:=by
 by_cases hb:b∈fs
 ·exact u.slot b ob q n hb hx
 ·exact⟨ob.slots,u.keep b ob q n hb hx⟩
theorem Un.kept(k:∀ b u,h.get? b=some u->h'.get? b=some u):Un fs ex H H h h' :=
 ⟨fun b ob q _ _ _=>k b ob q,fun b ob q _ _ _=>⟨ob.slots,k b ob q⟩,fun _ _ _ n _=>n,fun b ob q _=>⟨ob,k b ob q⟩,fun _ _ q=>q,fun _ _ _ q=>q,fun _ ps q=>⟨#[],by rw [q]; simp⟩⟩
theorem Un.refl:Un fs ex H H h h:=Un.kept fun _ _ q=>q
theorem Un.laid(k:∀ b u,h.get? b=some u->h'.get? b=some u)(hp:h.objs.size<=a)(hn:H a=none):Un fs ex H (upd H a o) h h' where
 keep:=fun b u q _ _ _=>k b u q
 slot:=fun b u q _ _ _=>⟨u.slots,k b u q⟩
 free:=fun b u q n _=>by rw [bU (bL (bJ (aK q) hp))]; exact n
 there:=fun b u q _=>⟨u,k b u q⟩
 tx:=fun b xs q=>by rw [bU (ef q hn)]; exact q
 sC:=fun b u xs q=>by rw [bU (ef q hn)]; exact q
 vN:=fun b ps q=>⟨#[],by rw [bU (ef q hn),q]; simp⟩
theorem Un.write(mu:VW (H x))(he:e=x\/H e=some (.own x))(k:∀ b u,b≠e->h.get? b=some u->h'.get? b=some u)(LH:∃ u,h'.get? e=some u):Un fs ex H (upd H x o) h h':=by
 have hx:∀ b,H b=none->b≠x:=fun b n z=>by subst z; rw [n] at mu; exact mu
 have hb:∀ b,H b=none->b≠e:=fun b n z=>by
  subst z
  rcases he with r | r
  ·exact hx b n r
  ·rw [n] at r; cases r
 have hm:∀ b u,H b=some u->¬ VW (some u)->b≠x:=fun b u q nm z=>by subst z; rw [q] at mu; exact nm mu
 refine⟨fun b u q n _ _=>k b u (hb b n) q,fun b u q n _ _=>⟨u.slots,k b u (hb b n) q⟩,fun b u q n _=>by rw [bU (hx b n)]; exact n,fun b u q _=>?_,
  fun b xs q=>by rw [bU (hm b _ q fun z=>z)]; exact q,fun b u xs q=>by rw [bU (hm b _ q fun z=>z)]; exact q,fun b ps q=>⟨#[],by rw [bU (hm b _ q fun z=>z),q]; simp⟩⟩
 by_cases SQ:b=e
 ·subst SQ; exact LH
 ·exact⟨u,k b u SQ q⟩
end
noncomputable def V0(h:Heap)(H:Hp):List Addr:=(cG h.objs.size).filter fun a=>(H a).isSome
noncomputable def CL(h:Heap)(H:Hp):Heap:=PySem.W.hideAll h (V0 h H)
theorem K1(h:Heap)(H:Hp):(CL h H).objs.size=h.objs.size:=PySem.W.hideAll_size _ _
theorem NQ{h:Heap}{H:Hp}{b:Addr}{o:Obj}(e:h.get? b=some o)(n:H b=none):(CL h H).get? b=some o :=
 LZ _ e fun hm=>by
  have q:(H b).isSome=true:=(List.mem_filter.mp hm).2
  rw [n] at q; simp at q
theorem Qa{h:Heap}{H:Hp}{b:Addr}{o:Obj}(e:(CL h H).get? b=some o):h.get? b=some o/\H b=none:=by
 have e':h.get? b=some o:=OJ (V0 h H) e
 refine⟨e',?_⟩
 cases q:H b with
 | none=>rfl
 | some x =>
  have hm:b∈V0 h H:=List.mem_filter.mpr ⟨List.mem_range.mpr (aK e'),by simp [q]⟩
  have z:(CL h H).get? b=none:=PySem.W.hideAll_none (V0 h H) hm
  rw [z] at e; cases e
noncomputable def pv(g h:Heap)(L:Addr):List (Addr×Obj):=(cG h.objs.size).filterMap fun a=>if a=L\/(g.get? a).isSome=true then none else (h.get? a).map fun o=>(a,o)
theorem mR{g h:Heap}{L a:Addr}{o:Obj}(h1:a≠L)(h2:g.get? a=none)(h3:h.get? a=some o):(a,o)∈pv g h L :=
 List.mem_filterMap.mpr ⟨a,List.mem_range.mpr (aK h3),by simp [h1,h2,h3]⟩
theorem yQ{g h:Heap}{L:Addr}{p:Addr×Obj}(hp:p∈pv g h L):p.1≠L/\g.get? p.1=none/\h.get? p.1=some p.2:=by
 obtain⟨b,_,e⟩:=List.mem_filterMap.mp hp
 split at e
 ·cases e
 ·rename_i hn
  cases q:h.get? b with
  | none=>rw [q] at e; simp at e
  | some u =>
   rw [q] at e
   simp only [Dv,Option.some.injEq] at e
   subst e
   refine⟨fun z=>hn (.inl z),?_,q⟩
   show g.get? b=none
   cases r:g.get? b with
   | none=>rfl
   | some v=>exact(hn (.inr (by simp [r]))).elim
noncomputable def rest(g h:Heap)(L d:Addr):List (Addr×Obj):=(pv g h L).filter fun p=>decide (p.1≠d)
theorem yS{g h:Heap}{L:Addr}:News g L h (pv g h L):=fun p hp=>let ⟨a,b,c⟩:=yQ hp; ⟨c,a,b⟩
structure Mod(K:ag)(mg:Str->Option Value)(base:Heap):Prop where
 Nm:K.In base
 glob:base.Ns aN mg
 blt:∃ mb,base.Ns builtinsNs mb/\∀ x:Str,x≠"__name__"->mb x=fy x
 nolimit:base.NoLimit
structure Cx where
 prog:bP
 w:World
 K:ag
 mg:Str->Option Value
 base:Heap
 A:dh
 N:List Str
 ic:aq
 Ln:Hp
 env:Env
 outer:List Env
 stack:List Env
 ex:List Addr
 fn:Str->Bool
 calm:Bool
 pn:List (Addr×Obj)
 xe:Value->aq->Prop
noncomputable def sD(l:List Env):List Addr:=l.filterMap (·.frame)
noncomputable abbrev Cx.fs(X:Cx):List Addr:=sD X.outer
noncomputable def WO(sc:Scope)(x:Str):Prop:=sc.names.lookup x=some .local\/sc.names.lookup x=some .cell\/sc.names.lookup x=some .free
noncomputable def Loc(sc:Scope)(x:Str):Prop:=sc.names.lookup x=some .local\/sc.names.lookup x=some .cell
noncomputable def Look(env:Env)(h:Heap)(m:Str->Option Value)(x:Str)(u:Value):Prop :=
 (env.kindOf x=some .local/\m x=some u)\/((env.kindOf x=some .cell\/env.kindOf x=some .free)/\∃ c,env.cells.lookup x=some c/\h.IsCell c (some u))
structure Cx.Ok(X:Cx):Prop where
 mod:Mod X.K X.mg X.base
 kind:X.env.scope.kind=.function
 glob:X.env.globals=aN
 blt:X.env.builtins=builtinsNs
 above:X.ic.heap.objs.size<=X.env.locals
 inj:∀ x y c,X.env.cells.lookup x=some c->X.env.cells.lookup y=some c->x=y
 has:∀ x,(X.env.kindOf x=some .cell\/X.env.kindOf x=some .free)->∃ c,X.env.cells.lookup x=some c
 Tz:∀ x c,X.fn x=true->X.env.cells.lookup x=some c->X.ic.heap.objs.size<=c
 hd:X.calm=true->X.A.handled=none
 frames:X.A.frames=some X.stack
 TY:X.stack=X.outer\/(X.stack=X.env :: X.outer/\X.env.frame=some X.env.locals)
 Vj:∀ b∈X.ex,b≠X.env.locals/\∀ x c,X.env.cells.lookup x=some c->c≠b
 bs:∀ b o,X.base.get? b=some o->X.ic.heap.get? b=some o/\X.Ln b=none
 Ow:X.base.objs.size<=X.ic.heap.objs.size
 Hq:∀ b o,X.base.get? b=some o->b∉X.ex
 La:∀ b∈X.ex,b∉X.fs
 wu:X.ic.heap.FunFrames X.base X.outer
 O1:∀ b∈X.fs,X.Ln b=none
structure Inv(X:Cx)(pins:List (Addr×Obj))(σ:List (Option V))(H:Hp)(s:aq):Prop where
 ok:X.Ok
 os:s.os=X.ic.os
 bare:yp s.gens
 base:Un X.fs X.ex X.Ln H X.ic.heap s.heap
 loc:∃ m,s.heap.Ns X.env.locals m/\∀ (i:Nat) (x:Str) (v:V),X.N[i]?=some x->σ[i]?=some (some v)->WO X.env.scope x->∃ u,RelV v u/\Look X.env s.heap m x u
 cell:∀ x c,X.env.cells.lookup x=some c->∃ v,s.heap.IsCell c v
 free:H X.env.locals=none
 jt:∀ x c,X.env.cells.lookup x=some c->H c=none
 pin:∀ p∈X.pn++pins,s.heap.get? p.1=some p.2/\H p.1=none/\p.1≠X.env.locals/\p.1∉X.fs/\∀ v,p.2.data≠.cell v
 cM:pT X.prog X.w H s.heap
 len:σ.length=X.N.length
section
variable {X:Cx} {pins:List (Addr×Obj)} {σ:List (Option V)} {H H':Hp} {s:aq} {h':Heap}
theorem Cx.Ok.Y3(ok:X.Ok){b:Addr}{o:Obj}(e:X.base.get? b=some o):b∉X.fs:=fun hb=>by
 have:=(ok.wu.mem hb).1
 rw [e] at this; cases this
theorem Inv.bs(I:Inv X pins σ H s):∀ b o,X.base.get? b=some o->s.heap.get? b=some o/\H b=none:=fun b o e =>
 ⟨I.base.keep b o (I.ok.bs b o e).1 (I.ok.bs b o e).2 (I.ok.Y3 e) (I.ok.Hq b o e),I.base.free b o (I.ok.bs b o e).1 (I.ok.bs b o e).2 (I.ok.Hq b o e)⟩
theorem Inv.bk(I:Inv X pins σ H s):∀ b o,X.base.get? b=some o->s.heap.get? b=some o:=fun b o e=>(I.bs b o e).1
theorem Inv.mod(I:Inv X pins σ H s):Mod X.K X.mg X.base:=I.ok.mod
theorem Inv.HK(I:Inv X pins σ H s):X.K.In s.heap:=I.ok.mod.Nm.keeps I.bk
theorem Inv.fr(I:Inv X pins σ H s):∃ m,Fr X.base X.env.locals s.heap m :=
 let ⟨m,hn,_⟩:=I.loc
 ⟨m,hn,I.bk,cv I.ok.Ow I.ok.above⟩
theorem Inv.lt(I:Inv X pins σ H s):X.env.locals < s.heap.objs.size:=let ⟨_,hn,_⟩:=I.loc; hn.lt
theorem Inv.sz(I:Inv X pins σ H s):X.ic.heap.objs.size<=s.heap.objs.size:=cv I.ok.above (Dx I.lt)
theorem Inv.Y2(I:Inv X pins σ H s){a:Addr}(h:s.heap.objs.size<=a):a∉X.fs:=fun hb=>by
 obtain⟨_,o,ho,_⟩:=I.ok.wu.mem hb
 exact absurd (bJ (aK ho) (cv I.sz h)) (ff _)
theorem Inv.Qz(I:Inv X pins σ H s):∀ x c,X.env.cells.lookup x=some c->c≠X.env.locals:=fun x c e z=>by
 obtain⟨v,o,ho,hd⟩:=I.cell x c e
 obtain⟨m,⟨o',es,ep,NL,Ag,_⟩,_⟩:=I.loc
 rw [z,NL] at ho; cases ho; rw [Ag] at hd; cases hd
theorem Inv.wu(I:Inv X pins σ H s):s.heap.FunFrames X.base X.outer:=by
 have all:∀ (l:List Env),(∀ b∈sD l,b∈X.fs)->X.ic.heap.FunFrames X.base l->s.heap.FunFrames X.base l:=by
  intro l
  induction l with
  | nil=>intro _ _; trivial
  | cons env r ih =>
   intro hs hl
   obtain⟨hk,⟨L,o,hf,hn,ho,hd⟩,hr⟩:=hl
   have hL:L∈X.fs:=hs L (by unfold sD; rw [xT,hf]; exact aE)
   obtain⟨sl,e⟩:=I.base.slot L o ho (I.ok.O1 L hL) hL fun z=>I.ok.La L z hL
   exact⟨hk,⟨L,_,hf,hn,e,hd⟩,ih (fun b hb=>hs b (by unfold sD; rw [xT,hf]; exact av _ hb)) hr⟩
 exact all X.outer (fun _ hb=>hb) I.ok.wu
theorem Inv.stack(I:Inv X pins σ H s):s.heap.FunFrames X.base X.stack:=by
 rcases I.ok.TY with e | ⟨e,hf⟩
 ·rw [e]; exact I.wu
 ·rw [e]
  obtain⟨m,hn,_⟩:=I.loc
  refine .cons (by rw [I.ok.kind]; decide) hf hn ?_ I.wu
  exact Pd (cv I.ok.Ow I.ok.above)
theorem Inv.GW(I:Inv X pins σ H s):∀ b∈sD X.stack,b∈X.env.locals :: X.fs:=fun b hb=>by
 rcases I.ok.TY with e | ⟨e,hf⟩
 ·rw [e] at hb; exact av _ hb
 ·rw [e] at hb
  unfold sD at hb
  rw [xT,hf] at hb
  exact hb
theorem Inv.B2(I:Inv X pins σ H s):∀ b∈sD X.stack,H b=none:=fun b hb=>by
 rcases List.mem_cons.mp (I.GW b hb) with e | hb
 ·rw [e]; exact I.free
 ·obtain⟨_,o,ho,_⟩:=I.ok.wu.mem hb
  exact I.base.free b o ho (I.ok.O1 b hb) fun z=>I.ok.La b z hb
theorem Inv.step{g':Array GenState}{t':Nat}{d':Drawn}{ch:List Addr}(I:Inv X pins σ H s)
  (O0:∀ b∈ch,(b∈X.ex\/X.ic.heap.objs.size<=b)/\b≠X.env.locals/\(∀ x c,X.env.cells.lookup x=some c->c≠b)/\∀ p∈X.pn++pins,p.1≠b)
  (keep:∀ b o,b≠X.env.locals->b∉X.fs->b∉ch->s.heap.get? b=some o->H b=none->h'.get? b=some o)
  (slot:∀ b o,b≠X.env.locals->b∈X.fs->b∉ch->s.heap.get? b=some o->H b=none->∃ sl,h'.get? b=some { o with slots:=sl }) (free:∀ b o,b∉ch->s.heap.get? b=some o->H b=none->H' b=none)
  (there:∀ b o,b∉ch->s.heap.get? b=some o->∃ o',h'.get? b=some o')
  (tx:∀ b xs,H b=some (.tup xs)->H' b=some (.tup xs)) (sC:∀ b o u,H b=some (.kQ o u)->H' b=some (.kQ o u)) (vN:∀ b ps,H b=some (.Pp ps)->∃ more,H' b=some (.Pp (ps++more)))
  (ns:∀ m,s.heap.Ns X.env.locals m->h'.Ns X.env.locals m) (cM:pT X.prog X.w H' h') (hg:yp g') :
  Inv X pins σ H' { s with heap:=h',gens:=g',drawn:=d',toks:=t' }:=by
 have neL:∀ b o,X.ic.heap.get? b=some o->b≠X.env.locals:=fun b o e=>bL (bJ (aK e) I.ok.above)
 have V9:∀ b o,X.ic.heap.get? b=some o->b∉X.ex->b∉ch:=fun b o e hx hb=>by
  rcases (O0 b hb).1 with z | z
  ·exact hx z
  ·exact absurd (bJ (aK e) z) (ff _)
 have cellK:∀ x c,X.env.cells.lookup x=some c->∀ v,s.heap.IsCell c v->h'.IsCell c v:=fun x c e v ⟨o,ho,hd⟩=>by
  have Ux:c∉ch:=fun z=>(O0 c z).2.2.1 x c e rfl
  by_cases hc:c∈X.fs
  ·obtain⟨sl,q⟩:=slot c o (I.Qz x c e) hc Ux ho (I.jt x c e)
   exact⟨_,q,hd⟩
  ·exact⟨o,keep c o (I.Qz x c e) hc Ux ho (I.jt x c e),hd⟩
 refine⟨I.ok,I.os,hg,⟨fun b o e n hb hx=>?_,fun b o e n hb hx=>?_,fun b o e n hx=>?_,fun b o e hx=>?_,fun b xs e=>tx b xs (I.base.tx b xs e),fun b o xs e=>sC b o xs (I.base.sC b o xs e),fun b ps e=>?_⟩,?_,fun x c e=>?_,?_,fun x c e=>?_,fun p hp=>?_,cM,I.len⟩
 ·exact keep b o (neL b o e) hb (V9 b o e hx) (I.base.keep b o e n hb hx) (I.base.free b o e n hx)
 ·obtain⟨sl,e1⟩:=I.base.slot b o e n hb hx
  obtain⟨sl',e2⟩:=slot b _ (neL b o e) hb (V9 b o e hx) e1 (I.base.free b o e n hx)
  exact⟨sl',e2⟩
 ·obtain⟨o',e1⟩:=I.base.there b o e hx
  exact free b o' (V9 b o e hx) e1 (I.base.free b o e n hx)
 ·obtain⟨o',e1⟩:=I.base.there b o e hx
  exact there b o' (V9 b o e hx) e1
 ·obtain⟨m1,e1⟩:=I.base.vN b ps e
  obtain⟨m2,e2⟩:=vN b _ e1
  exact⟨m1++m2,by rw [e2,Array.append_assoc]⟩
 ·obtain⟨m,hn,hl⟩:=I.loc
  refine⟨m,ns m hn,fun i x v e1 e2 e3=>?_⟩
  obtain⟨u,r,l⟩:=hl i x v e1 e2 e3
  refine⟨u,r,?_⟩
  rcases l with l | ⟨k,c,e,z⟩
  ·exact .inl l
  ·exact .inr ⟨k,c,e,cellK x c e _ z⟩
 ·obtain⟨v,z⟩:=I.cell x c e
  exact⟨v,cellK x c e v z⟩
 ·obtain⟨m,⟨o,_,_,ho,_⟩,_⟩:=I.loc
  exact free _ o (fun z=>(O0 _ z).2.1 rfl) ho I.free
 ·obtain⟨v,o,ho,hd⟩:=I.cell x c e
  exact free c o (fun z=>(O0 c z).2.2.1 x c e rfl) ho (I.jt x c e)
 ·obtain⟨e,n,ne,nf,d⟩:=I.pin p hp
  have Ux:p.1∉ch:=fun z=>(O0 p.1 z).2.2.2 p hp rfl
  exact⟨keep p.1 p.2 ne nf Ux e n,free p.1 p.2 Ux e n,ne,nf,d⟩
theorem Inv.un{t':Nat}(I:Inv X pins σ H s)(u:Un X.fs [] H H' s.heap h')(cM:pT X.prog X.w H' h'):Inv X pins σ H' { s with heap:=h',toks:=t' }:=by
 obtain⟨m,⟨o,es,ep,ho,r⟩,_⟩:=id I.loc
 obtain⟨sl,hL⟩:=u.any ho I.free (by simp)
 exact I.step (g':=s.gens) (d':=s.drawn) (ch:=[]) (fun _ z=>nomatch z) (fun b o _ hb _ e n=>u.keep b o e n hb (by simp)) (fun b o _ hb _ e n=>u.slot b o e n hb (by simp)) (fun b o _ e n=>u.free b o e n (by simp)) (fun b o _ e=>u.there b o e (by simp)) u.tx u.sC u.vN (fun m' hm=>by
  obtain⟨o',es',Vl,NL,r'⟩:=hm
  rw [ho] at NL; cases NL
  exact⟨_,es',Vl,hL,r'⟩) cM I.bare
theorem Inv.call{g':Array GenState}{t':Nat}{d':Drawn}{ch:List Addr}(I:Inv X pins σ H s)(u:Un (sD X.stack) ch H H' s.heap h')(cM:pT X.prog X.w H' h')(hg:yp g')
  (O0:∀ b∈ch,(b∈X.ex\/X.ic.heap.objs.size<=b)/\b≠X.env.locals/\(∀ x c,X.env.cells.lookup x=some c->c≠b)/\∀ p∈X.pn++pins,p.1≠b) :
  Inv X pins σ H' { s with heap:=h',gens:=g',drawn:=d',toks:=t' }:=by
 obtain⟨m,⟨o,es,ep,ho,r⟩,_⟩:=id I.loc
 obtain⟨sl,hL⟩:=u.any ho I.free fun z=>(O0 _ z).2.1 rfl
 exact I.step (ch:=ch) O0 (fun b o hL hb hc e n=>u.keep b o e n (fun z=>(List.mem_cons.mp (I.GW b z)).elim hL hb) hc) (fun b o _ _ hc e n=>u.any e n hc) (fun b o hc e n=>u.free b o e n hc) (fun b o hc e=>u.there b o e hc) u.tx u.sC u.vN (fun m' hm=>by
  obtain⟨o',es',Vl,NL,r'⟩:=hm
  rw [ho] at NL; cases NL
  exact⟨_,es',Vl,hL,r'⟩) cM hg
theorem Inv.turned{t':Nat}{it:Addr}(I:Inv X pins σ H s)(k:∀ b o,b≠it->s.heap.get? b=some o->h'.get? b=some o)(hn:H it=none)(hL:it≠X.env.locals)
  (h1:it∈X.ex\/X.ic.heap.objs.size<=it) (h2:∀ x c,X.env.cells.lookup x=some c->c≠it) (h3:∀ p∈X.pn++pins,p.1≠it):Inv X pins σ H { s with heap:=h',toks:=t' }:=by
 have nit:∀ b u,H b=some u->b≠it:=fun b u e z=>by rw [z,hn] at e; cases e
 refine I.step (g':=s.gens) (d':=s.drawn) (ch:=[it]) (fun b hb=>?_) (fun b o _ _ hc e _=>k b o (fun z=>hc (by simp [z])) e) (fun b o _ _ hc e _=>⟨o.slots,k b o (fun z=>hc (by simp [z])) e⟩) (fun _ _ _ _ n=>n)
  (fun b o hc e=>⟨o,k b o (fun z=>hc (by simp [z])) e⟩) (fun _ _ e=>e) (fun _ _ _ e=>e) (fun b ps e=>⟨#[],by rw [e]; simp⟩) (fun m hm=>?_) (fun b u e=>?_) I.bare
 ·have e:b=it:=by simpa using hb
  subst e
  exact⟨h1,hL,h2,h3⟩
 ·obtain⟨o,es,ep,ho,r⟩:=hm
  exact⟨o,es,ep,k _ o (fu hL) ho,r⟩
 ·refine(I.cM b u e).iM (fun c v hc q=>k c v ?_ q) (fun _ q=>q) fun _ _ q=>q
  rcases hc with z | z
  ·rw [z]; exact nit b u e
  ·exact nit c _ z
theorem Inv.tok(I:Inv X pins σ H s)(t:Nat):Inv X pins σ H { s with toks:=t }:=I.un (h':=s.heap) (t':=t) Un.refl I.cM
theorem Inv.kept{t':Nat}(I:Inv X pins σ H s)(k:∀ b u,s.heap.get? b=some u->h'.get? b=some u):Inv X pins σ H { s with heap:=h',toks:=t' }:=I.un (Un.kept k) (I.cM.kept k)
theorem Inv.laid{a:Addr}{o:HO}{t':Nat}(I:Inv X pins σ H s)(k:∀ b u,s.heap.get? b=some u->h'.get? b=some u)(hp:s.heap.objs.size<=a)(new:gu X.prog X.w (upd H a o) h' a o) :
  Inv X pins σ (upd H a o) { s with heap:=h',toks:=t' }:=I.un (Un.laid k hp (I.cM.fresh hp)) (I.cM.laid k hp new)
theorem Inv.write{x e:Addr}{o:HO}{t':Nat}(I:Inv X pins σ H s)(mu:VW (H x))(he:e=x\/H e=some (.own x))(k:∀ b u,b≠e->s.heap.get? b=some u->h'.get? b=some u)(LH:∃ u,h'.get? e=some u)
  (new:gu X.prog X.w (upd H x o) h' x o):Inv X pins σ (upd H x o) { s with heap:=h',toks:=t' }:=I.un (Un.write mu he k LH) (I.cM.write mu he k LH new)
theorem Inv.Jm{QT:List (Addr×Obj)}(I:Inv X pins σ H s)(h:∀ p∈QT,s.heap.get? p.1=some p.2/\H p.1=none/\p.1≠X.env.locals/\p.1∉X.fs/\∀ v,p.2.data≠.cell v):Inv X QT σ H s :=
 ⟨I.ok,I.os,I.bare,I.base,I.loc,I.cell,I.free,I.jt,fun p hp=>(List.mem_append.mp hp).elim (fun z=>I.pin p (fF _ z)) (h p),I.cM,I.len⟩
theorem yR{N:List Str}(hN:N.Nodup){i j:Nat}{x:Str}(a:N[i]?=some x)(b:N[j]?=some x):i=j:=by
 obtain⟨h1,e1⟩:=List.getElem?_eq_some_iff.mp a
 obtain⟨h2,e2⟩:=List.getElem?_eq_some_iff.mp b
 exact(List.getElem_inj hN).mp (e1.trans e2.symm)
theorem vO{M:Model}{A:dh}{E:Value->aq->Prop}{i:Nat}{x:Str}{v:V}{u:Value}{Q:Unit->aq->Prop}(I:Inv X pins σ H s)(hN:X.N.Nodup)(hi:X.N[i]?=some x)(hx:Loc X.env.scope x)(r:RelV v u)
  (h:∀ s',Inv X pins (σ.set i (some v)) H s'->(∃ a,fK a s.heap s'.heap/\(a=X.env.locals\/X.env.cells.lookup x=some a))->Q () s') (hf:autoParam (X.fn x=true\/X.env.scope.names.lookup x=some .local) Ao._auto_1):wpAny M A (storeName X.env x u) Q E s:=by
 obtain⟨m,hn,hl⟩:=id I.loc
 have NS:(X.env.scope.kind == .class||(X.env.scope.kind == .module&&X.env.locals != X.env.globals))=false:=by rw [I.ok.kind]; rfl
 have U1:i < σ.length:=by rw [I.len]; exact(List.getElem?_eq_some_iff.mp hi).1
 have Qz:=I.Qz
 have tracked:∀ {a:Addr} {h':Heap},(∃ o,s.heap.get? a=some o/\H a=none)->fK a s.heap h'->pT X.prog X.w H h':=fun {a h'} ha hs b ob e=>by
  obtain⟨_,_,vb⟩:=ha
  refine(I.cM b ob e).iM (fun c w' hc q=>(hs.2 c ?_).trans q) (fun _ q=>q) fun _ _ q=>q
  rintro rfl
  rcases hc with rfl | hc
  ·rw [vb] at e; cases e
  ·rw [vb] at hc; cases hc
 rcases hx with hk | hk
 ·refine wpAny_storeName_local hk hn (fun h' HS hs=>?_) NS
  obtain⟨oL,_,_,Wy,_⟩:=id hn
  refine h _ ⟨I.ok,I.os,I.bare,⟨fun b o e n hb hx=>?_,fun b o e n hb hx=>?_,I.base.free,fun b o e hx=>?_,I.base.tx,I.base.sC,I.base.vN⟩,⟨_,HS,fun j y v' e1 e2 e3=>?_⟩,fun y c e=>?_,I.free,I.jt,fun p hp=>?_,tracked ⟨oL,Wy,I.free⟩ hs,by simpa using I.len⟩ ⟨_,hs,.inl rfl⟩
  ·exact(hs.2 b (bL (bJ (aK e) I.ok.above))).trans (I.base.keep b o e n hb hx)
  ·obtain⟨sl,e1⟩:=I.base.slot b o e n hb hx
   exact⟨sl,(hs.2 b (bL (bJ (aK e) I.ok.above))).trans e1⟩
  ·obtain⟨o',e1⟩:=I.base.there b o e hx
   exact⟨o',(hs.2 b (bL (bJ (aK e) I.ok.above))).trans e1⟩
  ·by_cases hj:j=i
   ·subst hj
    rw [hi] at e1; cases e1
    rw [eV U1] at e2
    cases e2
    exact⟨u,r,.inl ⟨hk,by simp⟩⟩
   ·rw [eG (fu hj)] at e2
    obtain⟨u',r',q⟩:=hl j y v' e1 e2 e3
    refine⟨u',r',?_⟩
    rcases q with ⟨k,e⟩ | ⟨k,c,e,z⟩
    ·refine .inl ⟨k,?_⟩
     have:y≠x:=fun e=>hj (yR hN e1 (e ▸ hi))
     simp [this,e]
    ·exact .inr ⟨k,c,e,z.sameBut hs (Qz y c e)⟩
  ·obtain⟨w',z⟩:=I.cell y c e
   exact⟨w',z.sameBut hs (Qz y c e)⟩
  ·obtain⟨e,n,ne,nf,d⟩:=I.pin p hp
   exact⟨(hs.2 p.1 ne).trans e,n,ne,nf,d⟩
 ·have hfn:X.fn x=true:=by
   rcases hf with z | z
   ·exact z
   ·rw [z] at hk; cases hk
  obtain⟨c,hc⟩:=I.ok.has x (.inl hk)
  obtain⟨w',z⟩:=I.cell x c hc
  refine wpAny_storeName_cell I.ok.kind hk hc z (fun h' LJ hs=>?_)
  obtain⟨oc,Tu,aag⟩:=id z
  refine h { s with heap:=h' } ⟨I.ok,I.os,I.bare,⟨fun b o e n hb hx=>?_,fun b o e n hb hx=>?_,I.base.free,fun b o e hx=>?_,I.base.tx,I.base.sC,I.base.vN⟩,⟨m,hn.sameBut hs (fu (Qz x c hc)),fun j y v' e1 e2 e3=>?_⟩,fun y c' e=>?_,I.free,I.jt,fun p hp=>?_,tracked ⟨oc,Tu,I.jt x c hc⟩ hs,by simpa using I.len⟩ ⟨c,hs,.inr hc⟩
  ·exact(hs.2 b (bL (bJ (aK e) (I.ok.Tz x c hfn hc)))).trans (I.base.keep b o e n hb hx)
  ·obtain⟨sl,e1⟩:=I.base.slot b o e n hb hx
   exact⟨sl,(hs.2 b (bL (bJ (aK e) (I.ok.Tz x c hfn hc)))).trans e1⟩
  ·obtain⟨o',e1⟩:=I.base.there b o e hx
   exact⟨o',(hs.2 b (bL (bJ (aK e) (I.ok.Tz x c hfn hc)))).trans e1⟩
  ·by_cases hj:j=i
   ·subst hj
    rw [hi] at e1; cases e1
    rw [eV U1] at e2
    cases e2
    exact⟨u,r,.inr ⟨.inl hk,c,hc,LJ⟩⟩
   ·rw [eG (fu hj)] at e2
    obtain⟨u',r',q⟩:=hl j y v' e1 e2 e3
    refine⟨u',r',?_⟩
    rcases q with q | ⟨k,c',e,z'⟩
    ·exact .inl q
    ·refine .inr ⟨k,c',e,z'.sameBut hs ?_⟩
     rintro rfl
     exact hj (yR hN e1 (I.ok.inj _ _ _ e hc ▸ hi))
  ·by_cases hcc:c'=c
   ·subst hcc; exact⟨_,LJ⟩
   ·obtain⟨w2,z2⟩:=I.cell y c' e
    exact⟨w2,z2.sameBut hs hcc⟩
  ·obtain⟨e,n,ne,nf,d⟩:=I.pin p hp
   refine⟨(hs.2 p.1 ?_).trans e,n,ne,nf,d⟩
   intro q
   rw [q,Tu] at e
   have q':oc=p.2:=df e
   exact d w' (by rw [← q']; exact aag)
theorem D0{M:Model}{A:dh}{E:Value->aq->Prop}{i:Nat}{x:Str}{v:V}{u:Value}{Q:Unit->aq->Prop}(I:Inv X pins σ H s)(hN:X.N.Nodup)(hi:X.N[i]?=some x)(hx:Loc X.env.scope x)(r:RelV v u)
  (h:∀ s',Inv X pins (σ.set i (some v)) H s'->Q () s') (hf:autoParam (X.fn x=true\/X.env.scope.names.lookup x=some .local) Ao._auto_1):wpAny M A (storeName X.env x u) Q E s :=
 vO I hN hi hx r (fun s' I' _=>h s' I') hf
theorem Inv.Rj{s':aq}{ch:List Addr}(I:Inv X pins σ H s)(ho:s'.os=s.os)(u:Un (sD X.stack) ch H H' s.heap s'.heap)(cM:pT X.prog X.w H' s'.heap)(hg:yp s'.gens)
  (O0:∀ b∈ch,(b∈X.ex\/X.ic.heap.objs.size<=b)/\b≠X.env.locals/\(∀ x c,X.env.cells.lookup x=some c->c≠b)/\∀ p∈X.pn++pins,p.1≠b):Inv X pins σ H' s':=by
 obtain⟨h',g',d',t',o'⟩:=s'
 have e:o'=s.os:=ho
 subst e
 exact I.call (g':=g') (t':=t') (d':=d') u cM hg O0
end
noncomputable abbrev XK:=Value->Option Addr->Hp->Prop
noncomputable abbrev St:=List (Option V)
noncomputable abbrev VK:=V->Hp->Prop
noncomputable abbrev TE:=St->Hp->VK->Prop
noncomputable abbrev TT:=St->Hp->(Bool->Hp->Prop)->Prop
noncomputable abbrev TA:=St->Hp->(List V->Hp->Prop)->Prop
structure Ends where
 nx:St->Hp->Prop
 rt:VK
 bk:St->Hp->Prop:=fun _ _=>False
 ct:St->Hp->Prop:=fun _ _=>False
noncomputable abbrev TS:=Ends->St->Hp->Prop
noncomputable def EP(X:Cx)(pins:List (Addr×Obj))(σ:St)(Q:VK)(u:Value)(s':aq):Prop:=∃ v H',Inv X pins σ H' s'/\RelV v u/\Q v H'
noncomputable def TP(X:Cx)(pins:List (Addr×Obj))(σ:St)(Q:Bool->Hp->Prop)(b:Bool)(s':aq):Prop:=∃ H',Inv X pins σ H' s'/\Q b H'
noncomputable def SP(X:Cx)(pins:List (Addr×Obj))(D:Ends)(f:Flow)(s':aq):Prop :=
 match f with
 | .next=>∃ jx H',Inv X pins jx H' s'/\D.nx jx H'
 | .brk=>∃ jx H',Inv X pins jx H' s'/\D.bk jx H'
 | .cont=>∃ jx H',Inv X pins jx H' s'/\D.ct jx H'
 | .ret u=>∃ v jx H',Inv X pins jx H' s'/\RelV v u/\D.rt v H'
noncomputable def PE(X:Cx)(e:Expr)(t:TE):Prop :=
 ∀ (pins:List (Addr×Obj)) (s:aq) (σ:St) (H:Hp) (Q:VK),Inv X pins σ H s->t σ H Q->wpAny (model X.prog X.w) X.A (eval e X.env) (EP X pins σ Q) X.xe s
noncomputable def TG(X:Cx)(st:List Stmt)(t:TS):Prop :=
 ∀ (pins:List (Addr×Obj)) (s:aq) (σ:St) (H:Hp) (D:Ends),Inv X pins σ H s->t D σ H->wpAny (model X.prog X.w) X.A (execs st X.env) (SP X pins D) X.xe s
theorem gC{α:Type}{t:Sem α}{Q Q':α->aq->Prop}{M:Model}{A:dh}{E:Value->aq->Prop}{s:aq}(h:wpAny M A t Q E s)(hQ:∀ a s,Q a s->Q' a s):wpAny M A t Q' E s:=fH h hQ fun _ _ x=>x
section
variable {X:Cx}
noncomputable def W3(i:Nat):TE:=fun σ H Q=>∃ v,σ[i]?=some (some v)/\Q v H
noncomputable def tC(v:V):TE:=fun _ H Q=>Q v H
theorem RY {i:Nat} {x:Str} {pos:Pos} (hN:X.N[i]?=some x) (hv:WO X.env.scope x) (hd:autoParam ((x == ("__debug__" : Str))=false) Ad._auto_1) (E9:autoParam ((x == ("__classdict__" : Str))=false) Ad._auto_1):PE X (.Name x pos) (W3 i):=by
 intro pins s σ H Q I h
 obtain⟨v,e,h⟩:=h
 obtain⟨m,hn,hl⟩:=I.loc
 obtain⟨u,r,l⟩:=hl i x v hN e hv
 have fin:EP X pins σ Q u s:=⟨v,H,I,r,h⟩
 rcases l with ⟨hk,hm⟩ | ⟨hk,c,hc,pI⟩
 ·exact wpAny_Name (wpAny_loadName_local I.ok.kind hk hn hm fin) hd
 ·rcases hk with hk | hk
  ·exact wpAny_Name (wpAny_loadName_cell I.ok.kind hk hc pI fin) hd
  ·exact wpAny_Name (wpAny_loadName_free I.ok.kind hk hc pI fin E9) hd
theorem R1{i j pos}:PE X (.Constant (.int i) j pos) (tC (.int i)):=fun _ _ _ H _ I h=>wpAny_Constant_int ⟨.int i,H,I.tok _,⟨_,rfl⟩,h⟩
theorem Uh{b j pos}:PE X (.Constant (.bool b) j pos) (tC (.bl b)):=fun _ _ _ H _ I h=>Constant_bool ⟨.bl b,H,I,rfl,h⟩
theorem R0{j pos}:PE X (.Constant .none j pos) (tC .cY):=fun _ _ _ H _ I h=>Constant_none ⟨.cY,H,I,rfl,h⟩
theorem RZ{x j pos}:PE X (.Constant (.str x) j pos) (tC (.str x)):=fun _ _ _ H _ I h=>Calls.Constant_str ⟨.str x,H,I.tok _,⟨_,rfl⟩,h⟩
noncomputable def Gl(X:Cx)(x:Str):Prop:=X.env.kindOf x=some .globalImplicit
theorem oY{E:Value->aq->Prop}{pins:List (Addr×Obj)}{s:aq}{σ:St}{H:Hp}{x:Str}{u:Value}{pos:Pos}{Q:Value->aq->Prop}(I:Inv X pins σ H s)(hg:Gl X x)(hm:X.mg x=some u)(h:Q u s)
  (hd:autoParam ((x == ("__debug__" : Str))=false) Ad._auto_1):wpAny (model X.prog X.w) X.A (eval (.Name x pos) X.env) Q E s :=
 Gh I.ok.kind hg (Calls.loadGlobal_global (by rw [I.ok.glob]; exact I.mod.glob.keeps I.bk) hm h) hd
theorem oZ{E:Value->aq->Prop}{pins:List (Addr×Obj)}{s:aq}{σ:St}{H:Hp}{x:Str}{u:Value}{pos:Pos}{Q:Value->aq->Prop}(I:Inv X pins σ H s)(hg:Gl X x)(hm:X.mg x=none)(hv:fy x=some u)(h:Q u s)
  (hn:autoParam (x≠"__name__") Ad._auto_1) (hd:autoParam ((x == ("__debug__" : Str))=false) Ad._auto_1):wpAny (model X.prog X.w) X.A (eval (.Name x pos) X.env) Q E s:=by
 obtain⟨mb,h1,h2⟩:=I.mod.blt
 exact Gh I.ok.kind hg (Calls.loadGlobal_builtin (by rw [I.ok.glob]; exact I.mod.glob.keeps I.bk) hm (by rw [I.ok.blt]; exact h1.keeps I.bk) ((h2 x hn).trans hv) h) hd
variable {a b:Expr} {ta tb:TE} {pos:Pos}
noncomputable def tB(t:TE):TT:=fun σ H Q=>t σ H fun x H1=>∃ c,x=.bl c/\Q c H1
variable {tA tB':TT} {rest:List Expr}
end
noncomputable def pM(K:ag)(H:Hp)(a:Addr)(xs:List V):Prop :=
 Rd H a (.lst xs) \/
  ∃ (o:Obj) (bB:Array Value) (n:Nat),K.lookup a=some o/\o.cls=.type "list"/\o.dict=none/\o.data=.seq bB n/\bB.size<=bc/\Vals xs bB.toList
noncomputable def zT(K:ag)(H:Hp)(a:Addr)(xs:List V):Prop :=
 Rd H a (.tup xs) \/
  ∃ (o:Obj) (bB:Array Value) (n:Nat),K.lookup a=some o/\o.cls=.type "tuple"/\o.data=.seq bB n/\bB.size<=bc/\Vals xs bB.toList
noncomputable def acs:Value->Option V
 | .none=>some .cY
 | .bool b=>some (.bl b)
 | .int i _=>some (.int i)
 | .str x _=>some (.str x)
 | .bytes b _=>some (.S7 b)
 | .float b _=>some (.Vi b)
 | .ref a=>some (.ref a)
 | .type n=>some (.ty n)
 | _=>none
theorem RelV.abs{x:V}{u:Value}(r:RelV x u):acs u=some x:=by
 cases x with
 | cY=>cases r; rfl
 | bl _=>cases r; rfl
 | int _=>obtain⟨t,rfl⟩:=r; rfl
 | str _=>obtain⟨t,rfl⟩:=r; rfl
 | S7 _=>obtain⟨t,rfl⟩:=r; rfl
 | Vi _=>obtain⟨t,rfl⟩:=r; rfl
 | ref _=>cases r; rfl
 | ty _=>cases r; rfl
theorem RelV.inj{x y:V}{u:Value}(r:RelV x u)(q:RelV y u):x=y:=df (r.abs.symm.trans q.abs)
theorem Vals.inj:∀ {xs ys:List V} {us:List Value},Vals xs us->Vals ys us->xs=ys:=by
 intro xs ys us h
 induction h generalizing ys with
 | nil=>intro k; cases k; rfl
 | cons r t ih =>
  intro k
  cases k with
  | cons r' t'=>rw [r.inj r',ih t']
section
variable {X:Cx} {pins:List (Addr×Obj)} {σ:St} {H:Hp} {s:aq} {a:Addr} {xs ys:List V}
theorem pM.of{K:ag}(h:H a=some (.lst xs)):pM K H a xs:=.inl (.inl h)
theorem zT.of{K:ag}(h:H a=some (.tup xs)):zT K H a xs:=.inl (.inl h)
theorem Inv.list(I:Inv X pins σ H s)(h:pM X.K H a xs):∃ bB:List Value,Vals xs bB/\PlainL s.heap a bB.toArray/\xs.length<=bc:=by
 rcases h with h | ⟨o,bB,n,hk,hc,hd,hs,hz,r⟩
 ·obtain⟨z,bB,n,r,e⟩:=h.ok I.cM
  exact⟨bB,r,⟨_,n,e,rfl,rfl,rfl⟩,z⟩
 ·refine⟨bB.toList,r,⟨o,n,I.HK a o hk,hc,hd,by simpa using hs⟩,?_⟩
  have e:=r.length
  simp only [br] at e
  lia
theorem Inv.tuple(I:Inv X pins σ H s)(h:zT X.K H a xs):∃ bB:List Value,Vals xs bB/\IsTup s.heap a bB.toArray/\xs.length<=bc:=by
 rcases h with h | ⟨o,bB,n,hk,hc,hs,hz,r⟩
 ·obtain⟨z,bB,r,p⟩:=h.ok I.cM
  exact⟨bB,r,p,z⟩
 ·refine⟨bB.toList,r,⟨o,I.HK a o hk,hc,n,by simpa using hs⟩,?_⟩
  have e:=r.length
  simp only [br] at e
  lia
theorem Inv.uW(I:Inv X pins σ H s)(h:pM X.K H a xs)(h':pM X.K H a ys):xs=ys:=by
 obtain⟨bB,r,⟨o,n,e,_,_,d⟩,_⟩:=I.list h
 obtain⟨its',r',⟨o',n',e',_,_,d'⟩,_⟩:=I.list h'
 rw [e] at e'; cases e'
 rw [d] at d'
 injection d' with d1 _
 have:bB=its':=by simpa using congrArg Array.toList d1
 subst this
 exact r.inj r'
theorem Inv.Kg(I:Inv X pins σ H s)(h:zT X.K H a xs)(h':zT X.K H a ys):xs=ys:=by
 obtain⟨bB,r,⟨o,e,_,n,d⟩,_⟩:=I.tuple h
 obtain⟨its',r',⟨o',e',_,n',d'⟩,_⟩:=I.tuple h'
 rw [e] at e'; cases e'
 rw [d] at d'
 injection d' with d1 _
 have:bB=its':=by simpa using congrArg Array.toList d1
 subst this
 exact r.inj r'
end
noncomputable abbrev Cx.pP(X:Cx)(E:Value->aq->Prop):Cx:={ X with xe:=E }
noncomputable abbrev Cx.To(X:Cx):Cx:=X.pP fun _ _=>False
theorem Cx.Ok.pP{X:Cx}(ok:X.Ok)(E:Value->aq->Prop):(X.pP E).Ok :=
 ⟨ok.mod,ok.kind,ok.glob,ok.blt,ok.above,ok.inj,ok.has,ok.Tz,ok.hd,ok.frames,ok.TY,ok.Vj,ok.bs,ok.Ow,ok.Hq,ok.La,ok.wu,ok.O1⟩
theorem Cx.Ok.nh{X:Cx}{E:Value->aq->Prop}(ok:(X.pP E).Ok):X.Ok :=
 ⟨ok.mod,ok.kind,ok.glob,ok.blt,ok.above,ok.inj,ok.has,ok.Tz,ok.hd,ok.frames,ok.TY,ok.Vj,ok.bs,ok.Ow,ok.Hq,ok.La,ok.wu,ok.O1⟩
section
variable {X:Cx} {pins:List (Addr×Obj)} {σ:St} {H:Hp} {s:aq} {E:Value->aq->Prop}
theorem Inv.pP(I:Inv X pins σ H s)(E:Value->aq->Prop):Inv (X.pP E) pins σ H s:=⟨I.ok.pP E,I.os,I.bare,I.base,I.loc,I.cell,I.free,I.jt,I.pin,I.cM,I.len⟩
theorem Inv.nh(I:Inv (X.pP E) pins σ H s):Inv X pins σ H s:=⟨I.ok.nh,I.os,I.bare,I.base,I.loc,I.cell,I.free,I.jt,I.pin,I.cM,I.len⟩
theorem SP.nh{D:Ends}{f:Flow}{s':aq}(h:SP (X.pP E) pins D f s'):SP X pins D f s':=by
 cases f with
 | next=>obtain⟨jx,H',I,q⟩:=h; exact⟨jx,H',I.nh,q⟩
 | brk=>obtain⟨jx,H',I,q⟩:=h; exact⟨jx,H',I.nh,q⟩
 | cont=>obtain⟨jx,H',I,q⟩:=h; exact⟨jx,H',I.nh,q⟩
 | ret u=>obtain⟨v,jx,H',I,r,q⟩:=h; exact⟨v,jx,H',I.nh,r,q⟩
theorem TG.To{st:List Stmt}{t:TS}(h:TG X.To st t):TG X st t:=fun pins s σ H D I hw =>
 fH (h pins s σ H D (I.pP _) hw) (fun _ _ q=>q.nh) fun _ _ z=>bQ z
end
section
variable {X:Cx} {st:Stmt} {rest:List Stmt} {t u:TS} {e:Expr} {te:TE} {pos:Pos}
theorem Inv.quiet{pins:List (Addr×Obj)}{σ:St}{H:Hp}{s:aq}(I:Inv X pins σ H s):interactive X.env=false:=by simp [interactive,I.ok.kind]
end
noncomputable abbrev acM:=V->V->V->Hp->(Hp->Prop)->Prop
noncomputable def acO(X:Cx)(t:acM):Prop :=
 ∀ (pins:List (Addr×Obj)) (s:aq) (σ:St) (H:Hp) (o i v:V) (ov iv u:Value) (Q:Hp->Prop),Inv X pins σ H s->RelV o ov->RelV i iv->RelV v u->t o i v H Q ->
  wpAny (model X.prog X.w) X.A (setItem ov iv u) (fun _ s'=>∃ H',Inv X pins σ H' s'/\Q H') X.xe s
structure It where
 go:Nat->Hp->Prop
 yld:Nat->Hp->V->Hp->Prop
 stop:Nat->Hp->Prop
noncomputable def oa(X:Cx)(pins:List (Addr×Obj))(H:Hp)(b:Addr):Prop :=
 H b=none/\b≠X.env.locals/\b∉X.fs/\(b∈X.ex\/X.ic.heap.objs.size<=b)/\(∀ x c,X.env.cells.lookup x=some c->c≠b)/\∀ p∈X.pn++pins,p.1≠b
theorem Inv.HY{X:Cx}{pins:List (Addr×Obj)}{σ:St}{H H':Hp}{s:aq}{b:Addr}(I:Inv X pins σ H s)(hb:s.heap.objs.size<=b)(hn:H' b=none):oa X pins H' b:=by
 refine⟨hn,Nat.ne_of_gt (bJ I.lt hb),I.Y2 hb,.inr (cv I.sz hb),fun x c e z=>?_,fun p hp z=>?_⟩
 ·obtain⟨v,q⟩:=I.cell x c e
  exact absurd (bJ q.lt (by rw [z]; exact hb)) (ff _)
 ·exact absurd (bJ (aK (I.pin p hp).1) (by rw [z]; exact hb)) (ff _)
structure Turn(P:bP)(w:World)(K:ag)(tg:Expr)(J:It)(fp:List Addr)(it:Addr)(tn:Nat->Heap->Prop):Prop where
 mem:it∈fp
 obj:∀ i h,tn i h->∀ b∈fp,∃ o,h.get? b=some o/\∀ v,o.data≠.cell v
 keep:∀ i h h',tn i h->(∀ b∈fp,∀ o,h.get? b=some o->h'.get? b=some o)->tn i h'
 item:∀ (X:Cx),X.prog=P->X.w=w->X.K=K->X.calm=true->∀ (i:Nat) (pins:List (Addr×Obj)) (s:aq) (σ:St) (H:Hp) (E:Value->aq->Prop),Inv X pins σ H s->(∀ b∈fp,oa X pins H b)->tn i s.heap->J.go i H ->
  wpAny (model P w) X.A (p9 (.ref it)) (fun r s1=>∃ u,r=some u /\
   wpAny (model P w) X.A (yh tg (.ref it) u) (fun _ s2=>∃ x H',Inv X pins σ H' s2/\RelV x u/\J.yld i H x H'/\tn (i+1) s2.heap/\∀ b∈fp,H' b=none) E s1) E s
 done:∀ (X:Cx),X.prog=P->X.w=w->X.K=K->X.calm=true->∀ (i:Nat) (pins:List (Addr×Obj)) (s:aq) (σ:St) (H:Hp) (E:Value->aq->Prop),Inv X pins σ H s->(∀ b∈fp,oa X pins H b)->tn i s.heap->J.stop i H ->
  wpAny (model P w) X.A (p9 (.ref it)) (fun r s1=>r=none/\Inv X pins σ H s1) E s
 self:∀ (A:dh) (i:Nat) (s:aq) (Q:Value->aq->Prop) (E:Value->aq->Prop),tn i s.heap->Q (.ref it) s->wpAny (model P w) A (AM (.ref it)) Q E s
noncomputable abbrev TI:=St->Hp->(It->Hp->Prop)->Prop
noncomputable def PIE(X:Cx)(pins:List (Addr×Obj))(σ:St)(tg:Expr)(R:It->Hp->Prop)(QZ:Value)(s2:aq):Prop :=
 ∃ (it:Addr) (fp:List Addr) (tn:Nat->Heap->Prop) (J:It) (H':Hp),QZ=.ref it/\Inv X pins σ H' s2/\Turn X.prog X.w X.K tg J fp it tn/\tn 0 s2.heap/\(∀ b∈fp,oa X pins H' b)/\R J H'
theorem JD{M:Model}{A:dh}{E:Value->aq->Prop}{s:aq}{tg:Expr}{it:Addr}{u:Value}{o:Obj}{n:String}{vs:Array Value}{Q:Unit->aq->Prop}(ho:s.heap.get? it=some o)(hc:o.cls=.type n)(hd:o.data=.fields vs)
    (hn:["enumerate","zip","dict_itemiterator","dict_reverseitemiterator","odict_iterator","itertools.zip_longest","itertools.pairwise"].contains n=false) (hQ:Q () s):wpAny M A (yh tg (.ref it) u) Q E s:=by
  unfold yh
  cases tg <;> first
    | exact ai hQ
    | (cases u <;> first
        | exact ai hQ
        | (refine aa (wpAny_load ho ?_)
           rw [hc,hd]
           show wpAny M A (if (["enumerate","zip","dict_itemiterator","dict_reverseitemiterator","odict_iterator","itertools.zip_longest","itertools.pairwise"].contains n&&vs[0]? == some (pz _))=true then _ else _) Q E s
           rw [if_neg (by intro h; rw [hn,pX] at h; cases h)]
           exact ai hQ))
noncomputable def Itl(K:ag)(a:Addr):It :=
 ⟨fun i H=>∃ xs x,pM K H a xs/\xs[i]?=some x,fun i H x H'=>H'=H/\∀ xs,pM K H a xs->xs[i]?=some x,fun i H=>∃ xs,pM K H a xs/\xs.length<=i⟩
noncomputable def Itt(K:ag)(a:Addr):It :=
 ⟨fun i H=>∃ xs x,zT K H a xs/\xs[i]?=some x,fun i H x H'=>H'=H/\∀ xs,zT K H a xs->xs[i]?=some x,fun i H=>∃ xs,zT K H a xs/\xs.length<=i⟩
noncomputable def Itr(lo:Int)(n:Nat):It:=⟨fun i _=>i < n,fun i H x H'=>H'=H/\x=.int (lo+i),fun i _=>n<=i⟩
theorem Kc{P:bP}{w:World}{K:ag}{tg:Expr}(a it:Addr):Turn P w K tg (Itl K a) [it] it (fun i h=>h.IsListIter it a i) where
 mem:=by simp
 obj:=fun i h st b hb=>by
  have e:b=it:=by simpa using hb
  subst e
  obtain⟨o,e,c,d⟩:=st
  exact⟨o,e,fun v z=>by rw [d] at z; cases z⟩
 keep:=fun i h h' st k=>st.at fun o e=>k it (by simp) o e
 item:=by
  intro X hP hw hK hc i pins s σ H E I hf st hg
  subst hP hw hK
  obtain⟨xs,x,hq,hx⟩:=hg
  obtain⟨bB,rv,p,hz⟩:=I.list hq
  obtain⟨u,hu,ru⟩:=rv.get hx
  obtain⟨f0,f1,f2,f3,f4,f5⟩:=hf it (by simp)
  refine wpAny_pyNext_list_item st p.isList (x:=u) (by simpa using hu) fun h' DE sb=>?_
  have I1:Inv X pins σ H { s with heap:=h' }:=I.turned (t':=s.toks) (fun b o hb e=>(sb.2 b hb).trans e) f0 f1 f3 f4 f5
  obtain⟨o,e,c,d⟩:=id DE
  exact⟨u,rfl,JD (s:={ s with heap:=h' }) e c d (by decide) ⟨x,H,I1,ru,⟨rfl,fun ys hy=>by rw [I.uW hy hq]; exact hx⟩,DE,fun b hb=>(hf b hb).1⟩⟩
 done:=by
  intro X hP hw hK hc i pins s σ H E I hf st hg
  subst hP hw hK
  obtain⟨xs,hq,hx⟩:=hg
  obtain⟨bB,rv,p,hz⟩:=I.list hq
  obtain⟨f0,f1,f2,f3,f4,f5⟩:=hf it (by simp)
  have hl:=rv.length
  exact wpAny_pyNext_list_end (I.ok.hd hc) st p.isList (by simp; lia) fun h' eb=>⟨rfl,I.turned (t':=s.toks) (fun b o hb e=>eb b o hb e) f0 f1 f3 f4 f5⟩
 self:=fun _ _ _ _ _ st h=>wpAny_pyIter_listiter st h
theorem GR{P:bP}{w:World}{K:ag}{tg:Expr}(a it:Addr):Turn P w K tg (Itt K a) [it] it (fun i h=>h.IsTupleIter it a i) where
 mem:=by simp
 obj:=fun i h st b hb=>by
  have e:b=it:=by simpa using hb
  subst e
  obtain⟨o,e,c,d⟩:=st
  exact⟨o,e,fun v z=>by rw [d] at z; cases z⟩
 keep:=fun i h h' st k=>st.at fun o e=>k it (by simp) o e
 item:=by
  intro X hP hw hK hc i pins s σ H E I hf st hg
  subst hP hw hK
  obtain⟨xs,x,hq,hx⟩:=hg
  obtain⟨bB,rv,p,hz⟩:=I.tuple hq
  obtain⟨u,hu,ru⟩:=rv.get hx
  obtain⟨f0,f1,f2,f3,f4,f5⟩:=hf it (by simp)
  refine wpAny_pyNext_tuple_item st (show s.heap.IsTuple a bB.toArray from p) (x:=u) (by simpa using hu) fun h' DE sb=>?_
  have I1:Inv X pins σ H { s with heap:=h' }:=I.turned (t':=s.toks) (fun b o hb e=>(sb.2 b hb).trans e) f0 f1 f3 f4 f5
  obtain⟨o,e,c,d⟩:=id DE
  exact⟨u,rfl,JD (s:={ s with heap:=h' }) e c d (by decide) ⟨x,H,I1,ru,⟨rfl,fun ys hy=>by rw [I.Kg hy hq]; exact hx⟩,DE,fun b hb=>(hf b hb).1⟩⟩
 done:=by
  intro X hP hw hK hc i pins s σ H E I hf st hg
  subst hP hw hK
  obtain⟨xs,hq,hx⟩:=hg
  obtain⟨bB,rv,p,hz⟩:=I.tuple hq
  obtain⟨f0,f1,f2,f3,f4,f5⟩:=hf it (by simp)
  have hl:=rv.length
  exact wpAny_pyNext_tuple_end (I.ok.hd hc) st (show s.heap.IsTuple a bB.toArray from p) (by simp; lia) fun h' eb=>⟨rfl,I.turned (t':=s.toks) (fun b o hb e=>eb b o hb e) f0 f1 f3 f4 f5⟩
 self:=fun _ _ _ _ _ st h=>wpAny_pyIter_tupleiter st h
theorem GS{P:bP}{w:World}{K:ag}{tg:Expr}(it:Addr)(lo:Int)(n:Nat):Turn P w K tg (Itr lo n) [it] it (fun i h=>IsRangeIter h it (lo+(i:Nat) * 1) ((n:Int) - (i:Nat)) 1) where
 mem:=by simp
 obj:=fun i h st b hb=>by
  have e:b=it:=by simpa using hb
  subst e
  exact⟨_,st,fun v z=>by
   have z':Data.fields _=Data.cell v:=z
   cases z'⟩
 keep:=fun i h h' st k=>k it (by simp) _ st
 item:=by
  intro X hP hw hK hc i pins s σ H E I hf st hg
  subst hP hw hK
  obtain⟨f0,f1,f2,f3,f4,f5⟩:=hf it (by simp)
  have W:=Walks.range (prog:=X.prog) (w:=X.w) (I.ok.hd hc) it lo 1 n
  refine W.item i s _ _ hg st fun v h' tk hv DE kk=>?_
  obtain⟨t,rfl⟩:=hv
  have I1:Inv X pins σ H { s with heap:=h',toks:=tk }:=I.turned (fun b o hb e=>kk b o (by simpa using hb) e) f0 f1 f3 f4 f5
  refine⟨_,rfl,JD (s:={ s with heap:=h',toks:=tk }) (n:="range_iterator") DE rfl rfl (by decide) ⟨.int (lo+i),H,I1,⟨t,?_⟩,⟨rfl,rfl⟩,DE,fun b hb=>(hf b hb).1⟩⟩
  rw [Int.mul_one]
 done:=by
  intro X hP hw hK hc i pins s σ H E I hf st hg
  subst hP hw hK
  obtain⟨f0,f1,f2,f3,f4,f5⟩:=hf it (by simp)
  exact wpAny_pyNext_range_end (I.ok.hd hc) st (by have:n<=i:=hg; lia) fun h' eb=>⟨rfl,I.turned (t':=s.toks) (fun b o hb e=>eb b o hb e) f0 f1 f3 f4 f5⟩
 self:=fun _ _ _ _ _ st h=>wpAny_pyIter_rangeiter st h
section
variable {X:Cx} {tg:Expr}
theorem ML{pins:List (Addr×Obj)}{σ:St}{H:Hp}{s:aq}{R:It->Hp->Prop}{E:Value->aq->Prop}{lo hi:Int}{t u v:Tok}{tk:Nat}(I:Inv X pins σ H s)(h1:-(2 ^ 62)<=lo)(h2:lo < 2 ^ 62)(h3:-(2 ^ 62)<=hi)(h4:hi < 2 ^ 62)
  (q:R (Itr lo (hi - lo).toNat) H):wpAny (model X.prog X.w) X.A (AM (.ref s.heap.objs.size)) (PIE X pins σ tg R) E { s with heap:=s.heap.push { cls:=.type "range",data:=.fields #[.int lo t,.int hi u,.int 1 v] },toks:=tk }:=by
 refine wpAny_pyIter_range (IsRange.new ..) (small_one h1 h2 h3 h4) ?_
 have I1:Inv X pins σ H { s with heap:=s.heap.push { cls:=.type "range",data:=.fields #[.int lo t,.int hi u,.int 1 v] },toks:=tk }:=I.kept fun b o e=>aI _ e
 refine⟨(s.heap.push { cls:=.type "range",data:=.fields #[.int lo t,.int hi u,.int 1 v] }).objs.size,[(s.heap.push { cls:=.type "range",data:=.fields #[.int lo t,.int hi u,.int 1 v] }).objs.size],_,_,H,rfl,
  I1.kept (t':=tk) fun b o e=>aI _ e,GS _ lo (hi - lo).toNat,?_,fun b hb=>?_,q⟩
 ·have e1:lo+((0:Nat):Int) * 1=lo:=by simp
  have e2:(((hi - lo).toNat:Nat):Int) - ((0:Nat):Int)=Builtin.Range.rangeSize lo hi 1:=by rw [rangeSize_one]; split <;> lia
  show IsRangeIter _ _ (lo+((0:Nat):Int) * 1) ((((hi - lo).toNat:Nat):Int) - ((0:Nat):Int)) 1
  rw [e1,e2]
  exact bw _ rfl
 ·have e:b=(s.heap.push { cls:=.type "range",data:=.fields #[.int lo t,.int hi u,.int 1 v] }).objs.size:=by simpa using hb
  subst e
  exact I1.HY (aF _) (I1.cM.fresh (aF _))
noncomputable def qA(fp:List Addr)(h:Heap):List (Addr×Obj):=fp.filterMap fun b=>(h.get? b).map fun o=>(b,o)
theorem oU{fp:List Addr}{h:Heap}{b:Addr}{o:Obj}(hb:b∈fp)(e:h.get? b=some o):(b,o)∈qA fp h:=List.mem_filterMap.mpr ⟨b,hb,by rw [e]; rfl⟩
theorem KI{fp:List Addr}{h:Heap}{p:Addr×Obj}(hp:p∈qA fp h):p.1∈fp/\h.get? p.1=some p.2:=by
 obtain⟨b,hb,e⟩:=List.mem_filterMap.mp hp
 cases q:h.get? b with
 | none=>rw [q] at e; cases e
 | some o =>
  rw [q] at e
  have e':(b,o)=p:=df e
  subst e'
  exact⟨hb,q⟩
theorem Inv.pinned{pins:List (Addr×Obj)}{σ:St}{H:Hp}{s:aq}{fp:List Addr}(I:Inv X pins σ H s)(hf:∀ b∈fp,oa X pins H b)(ho:∀ b∈fp,∃ o,s.heap.get? b=some o/\∀ v,o.data≠.cell v):Inv X (pins++qA fp s.heap) σ H s :=
 I.Jm fun p hp=>(List.mem_append.mp hp).elim (fun z=>I.pin p (bR _ z)) fun z=>by
  obtain⟨hb,e⟩:=KI z
  obtain⟨f0,f1,f2,_⟩:=hf p.1 hb
  obtain⟨o,e',d⟩:=ho p.1 hb
  rw [e] at e'; cases e'
  exact⟨e,f0,f1,f2,d⟩
theorem Inv.uo{pins pl:List (Addr×Obj)}{σ:St}{H:Hp}{s:aq}(I:Inv X (pins++pl) σ H s):Inv X pins σ H s:=I.Jm fun p hp=>I.pin p (bR _ (fF _ hp))
end
noncomputable abbrev R2:=V->V->Hp->VK->Prop
noncomputable def LN(X:Cx)(f:Value->Value->Sem Value)(r:R2):Prop :=
 ∀ (pins:List (Addr×Obj)) (s:aq) (σ:St) (H:Hp) (x y:V) (v u:Value) (Q:VK),Inv X pins σ H s->RelV x v->RelV y u->r x y H Q ->
  wpAny (model X.prog X.w) X.A (f v u) (EP X pins σ Q) X.xe s
noncomputable def UnR(X:Cx)(f:Value->Sem Value)(r:V->Hp->VK->Prop):Prop :=
 ∀ (pins:List (Addr×Obj)) (s:aq) (σ:St) (H:Hp) (x:V) (v:Value) (Q:VK),Inv X pins σ H s->RelV x v->r x H Q ->
  wpAny (model X.prog X.w) X.A (f v) (EP X pins σ Q) X.xe s
noncomputable def Rn(X:Cx)(f:Value)(r:List V->Hp->VK->Prop):Prop :=
 ∀ (pins:List (Addr×Obj)) (s:aq) (σ:St) (H:Hp) (xs:List V) (us:List Value) (Q:VK),Inv X pins σ H s->Vals xs us->r xs H Q ->
  wpAny (model X.prog X.w) X.A (call f us) (EP X pins σ Q) X.xe s
noncomputable def acL(X:Cx)(r:V->Hp->(Bool->Hp->Prop)->Prop):Prop :=
 ∀ (pins:List (Addr×Obj)) (s:aq) (σ:St) (H:Hp) (x:V) (v:Value) (Q:Bool->Hp->Prop),Inv X pins σ H s->RelV x v->r x H Q ->
  wpAny (model X.prog X.w) X.A (truthy v) (TP X pins σ Q) X.xe s
noncomputable def rI(C:Int->Int->Prop)(g:Int->Int->V):R2:=fun x y H Q=>∃ i j,x=.int i/\y=.int j/\C i j/\Q (g i j) H
noncomputable def Uc(g:Int->Int->V):R2:=fun x y H Q=>∃ i j,x=.int i/\y=.int j/\Q (g i j) H
noncomputable def rU(g:Int->V):V->Hp->VK->Prop:=fun x H Q=>∃ i,x=.int i/\Q (g i) H
section
variable {X:Cx} {a b c:Expr} {ta tb tc:TE} {pos:Pos}
theorem X4{f:Value->Value->Sem Value}{C:Int->Int->Prop}{g:Int->Int->Int}
  (rule:∀ (i j:Int) (t u:Tok) (s:aq) (Q:Value->aq->Prop) (E:Value->aq->Prop),C i j->Q (.int (g i j) s.toks) { s with toks:=s.toks+1 }->wpAny (model X.prog X.w) X.A (f (.int i t) (.int j u)) Q E s) :
  LN X f (rI C fun i j=>.int (g i j)):=by
 intro pins s σ H x y v u Q I rx ry h
 obtain⟨i,j,rfl,rfl,hc,q⟩:=h
 obtain⟨t,rfl⟩:=rx
 obtain⟨t',rfl⟩:=ry
 exact rule i j t t' s _ _ hc ⟨.int (g i j),H,I.tok _,⟨_,rfl⟩,q⟩
theorem Um{f:Value->Value->Sem Value}{g:Int->Int->Int}
  (rule:∀ (i j:Int) (t u:Tok) (s:aq) (Q:Value->aq->Prop) (E:Value->aq->Prop),Q (.int (g i j) s.toks) { s with toks:=s.toks+1 }->wpAny (model X.prog X.w) X.A (f (.int i t) (.int j u)) Q E s) :
  LN X f (Uc fun i j=>.int (g i j)):=by
 intro pins s σ H x y v u Q I rx ry h
 obtain⟨i,j,rfl,rfl,q⟩:=h
 obtain⟨t,rfl⟩:=rx
 obtain⟨t',rfl⟩:=ry
 exact rule i j t t' s _ _ ⟨.int (g i j),H,I.tok _,⟨_,rfl⟩,q⟩
theorem X5{f:Value->Value->Sem Value}{g:Int->Int->Bool}
  (rule:∀ (i j:Int) (t u:Tok) (s:aq) (Q:Value->aq->Prop) (E:Value->aq->Prop),Q (.bool (g i j)) s->wpAny (model X.prog X.w) X.A (f (.int i t) (.int j u)) Q E s) :
  LN X f (Uc fun i j=>.bl (g i j)):=by
 intro pins s σ H x y v u Q I rx ry h
 obtain⟨i,j,rfl,rfl,q⟩:=h
 obtain⟨t,rfl⟩:=rx
 obtain⟨t',rfl⟩:=ry
 exact rule i j t t' s _ _ ⟨.bl (g i j),H,I,rfl,q⟩
noncomputable def acT(i j:Int):Prop:=0 < j/\j < 1073741824
noncomputable def Te(i j:Int):Prop:=(-(2 ^ 64) < i/\i < 2 ^ 64)\/(-(2 ^ 64) < j/\j < 2 ^ 64)
theorem Te.ok{i j:Int}(h:Te i j):IntMulOk i j:=by
 rcases h with ⟨h1,h2⟩ | ⟨h1,h2⟩
 ·exact .of_left (intBits_le_64 h1 h2)
 ·exact .of_right (intBits_le_64 h1 h2)
theorem Sb:LN X (jR .Add) (Uc fun i j=>.int (i+j)):=Um fun _ _ _ _ _ _ _ q=>add_int q
theorem R7:LN X (jR .Sub) (Uc fun i j=>.int (i - j)):=Um fun _ _ _ _ _ _ _ q=>sub_int q
theorem R8:LN X (jR .Mult) (rI Te fun i j=>.int (i * j)):=X4 fun _ _ _ _ _ _ _ hc q=>mul_int q hc.ok
theorem P6:LN X (jR .FloorDiv) (rI acT fun i j=>.int (i / j)):=X4 fun i j _ _ _ _ _ hc q=>by
 have h1:(0:Int) < j:=hc.1
 have h2:j < 1073741824:=hc.2
 exact floordiv_int (by lia) (by rw [Int.fdiv_eq_ediv_of_nonneg i (by lia)]; exact q) (.inl (PyProof.noPylong_small (by lia)))
theorem R9:LN X (jR .Mod) (rI (fun _ j=>0 < j) fun i j=>.int (i % j)):=X4 fun i j _ _ _ _ _ hc q=>by
 have h1:(0:Int) < j:=hc
 exact mod_int' (by lia) (by rw [Int.fmod_eq_emod_of_nonneg i (by lia)]; exact q)
theorem unI{f:Value->Sem Value}{g:Int->Int}
  (rule:∀ (i:Int) (t:Tok) (s:aq) (Q:Value->aq->Prop) (E:Value->aq->Prop),Q (.int (g i) s.toks) { s with toks:=s.toks+1 }->wpAny (model X.prog X.w) X.A (f (.int i t)) Q E s) :
  UnR X f (rU fun i=>.int (g i)):=by
 intro pins s σ H x v Q I rx h
 obtain⟨i,rfl,q⟩:=h
 obtain⟨t,rfl⟩:=rx
 exact rule i t s _ _ ⟨.int (g i),H,I.tok _,⟨_,rfl⟩,q⟩
theorem Rx:UnR X (unaryOp .USub) (rU fun i=>.int (-i)):=unI fun _ _ _ _ _ q=>neg_int q
end
section
variable {X:Cx} {a b c:Expr} {ta tb tc:TE} {pos:Pos}
theorem Ul:LN X (gm .Lt) (Uc fun i j=>.bl (decide (i < j))):=X5 fun _ _ _ _ _ _ _ q=>lt_int q
theorem gr(b:Expr){op:CmpOp}(h:autoParam (op≠.In) Ad._auto_1)(h2:autoParam (op≠.NotIn) Ad._auto_1):vK op b=false:=by
 have e1:(op == CmpOp.In)=false:=by cases op <;> first | rfl | exact absurd rfl h
 have e2:(op == CmpOp.NotIn)=false:=by cases op <;> first | rfl | exact absurd rfl h2
 cases b with
 | Set es k _ =>
  show (k == 0&&(op == .In||op == .NotIn)&&es.all (constantsAlone 8))=false
  rw [e1,e2,Bool.or_false,xw,pX]
 | _=>rfl
noncomputable def Tb(K:ag)(x:V)(H:Hp)(k:Bool):Prop :=
 match x with
 | .cY=>k=false
 | .bl b=>k=b
 | .int i=>k=(i != 0)
 | .str y=>y.length<=bc/\k=((y.length:Int) != 0)
 | .S7 y=>y.size<=bc/\k=((y.size:Int) != 0)
 | .ref p=>(∃ xs,pM K H p xs/\k=!xs.isEmpty)\/(∃ xs,zT K H p xs/\k=!xs.isEmpty)\/∃ bp,H p=some (.dK bp)/\k=!bp.isEmpty
 | _=>False
theorem HM{κ:Type}{bp:List (κ×V)}{vs:List (κ×Value)}(r:KV bp vs):(!vs.isEmpty)=!bp.isEmpty:=by
 cases r <;> rfl
theorem zi{xs:List V}{bB:List Value}(r:Vals xs bB):(!bB.toArray.isEmpty)=!xs.isEmpty:=by
 cases r <;> simp
theorem y8:(bc:Nat) < 2 ^ 63:=by rw [cb]; decide
theorem RB:acL X (fun x H Q=>∃ k,Tb X.K x H k/\Q k H):=by
 intro pins s σ H x v Q I rx h
 obtain⟨k,e,q⟩:=h
 have hl:=y8
 have hs:bc=16777216:=cb
 cases x with
 | cY =>
  cases rx
  have e':k=false:=e
  subst e'
  exact truthy_none ⟨H,I,q⟩
 | bl b =>
  cases rx
  have e':k=b:=e
  subst e'
  exact ua ⟨H,I,q⟩
 | int i =>
  obtain⟨t,rfl⟩:=rx
  have e':k=(i != 0):=e
  subst e'
  exact PySem.P.truthy_int ⟨H,I,q⟩
 | str y =>
  obtain⟨t,rfl⟩:=rx
  obtain⟨hy,e'⟩:y.length<=bc/\k=((y.length:Int) != 0):=e
  subst e'
  exact PySem.P.truthy_str (by lia) ⟨H,I.tok _,q⟩
 | S7 y =>
  obtain⟨t,rfl⟩:=rx
  obtain⟨hy,e'⟩:y.size<=bc/\k=((y.size:Int) != 0):=e
  subst e'
  exact PySem.W.truthy_bytes (by lia) ⟨H,I.tok _,q⟩
 | ref p =>
  cases rx
  have e':(∃ xs,pM X.K H p xs/\k=!xs.isEmpty)\/(∃ xs,zT X.K H p xs/\k=!xs.isEmpty)\/∃ bp,H p=some (.dK bp)/\k=!bp.isEmpty:=e
  rcases e' with ⟨xs,hx,e'⟩ | ⟨xs,hx,e'⟩ | ⟨bp,hx,e'⟩
  ·subst e'
   obtain⟨bB,r,pl,hz⟩:=I.list hx
   have hlen:=r.length
   exact wpAny_truthy_list pl.isList (by simp only [aP]; lia) ⟨H,I.tok _,by rw [zi r]; exact q⟩
  ·subst e'
   obtain⟨bB,r,pl,hz⟩:=I.tuple hx
   have hlen:=r.length
   exact truthy_tuple pl (by simp only [aP]; lia) ⟨H,I.tok _,by rw [zi r]; exact q⟩
  ·subst e'
   obtain⟨hz,hS,vs,r,m⟩:bp.length<=bc/\(p == eU)=false/\∃ vs,KV bp vs/\s.heap.DictOf (cy X.prog X.w) p vs:=I.cM p _ hx
   have hlen:bp.length=vs.length:=g7 r
   exact Gr hS m (by lia) ⟨H,I.tok _,by rw [HM r]; exact q⟩
 | _=>exact(show False from e).elim
theorem Hk:LN X (jR .Add) (fun x y H Q=>∃ i j,x=.str i/\y=.str j/\i.length+j.length<=bc/\Q (.str (i++j)) H):=by
 intro pins s σ H x y v u Q I rx ry h
 obtain⟨i,j,rfl,rfl,hz,q⟩:=h
 obtain⟨t,rfl⟩:=rx
 obtain⟨t',rfl⟩:=ry
 exact add_str (fun t' tk=>⟨.str (i++j),H,I.tok _,⟨_,rfl⟩,q⟩) hz
theorem vals1{x:V}{us:List Value}(r:Vals [x] us):∃ u,us=[u]/\RelV x u:=by
 cases r with
 | cons r1 r2=>cases r2; exact⟨_,rfl,r1⟩
theorem vals2{x y:V}{us:List Value}(r:Vals [x,y] us):∃ u w',us=[u,w']/\RelV x u/\RelV y w':=by
 cases r with
 | cons r1 r2 =>
  cases r2 with
  | cons r3 r4=>cases r4; exact⟨_,_,rfl,r1,r3⟩
noncomputable def VX(K:ag)(x:V)(H:Hp)(n:Nat):Prop :=
 match x with
 | .str y=>y.length<=bc/\n=y.length
 | .S7 y=>y.size<=bc/\n=y.size
 | .ref p=>(∃ xs,pM K H p xs/\n=xs.length)\/∃ xs,zT K H p xs/\n=xs.length
 | _=>False
theorem Oq:Rn X (.builtin "len") (fun xs H Q=>∃ x n,xs=[x]/\VX X.K x H n/\Q (.int n) H):=by
 intro pins s σ H xs us Q I r h
 obtain⟨x,n,rfl,e,q⟩:=h
 obtain⟨u,rfl,rx⟩:=vals1 r
 have hl:=y8
 have hs:bc=16777216:=cb
 cases x with
 | str y =>
  obtain⟨t,rfl⟩:=rx
  obtain⟨hy,e'⟩:y.length<=bc/\n=y.length:=e
  subst e'
  exact len_str (by lia) ⟨.int _,H,I.tok _,⟨_,rfl⟩,q⟩
 | S7 y =>
  obtain⟨t,rfl⟩:=rx
  obtain⟨hy,e'⟩:y.size<=bc/\n=y.size:=e
  subst e'
  exact PySem.W.len_bytes (by lia) ⟨.int _,H,I.tok _,⟨_,rfl⟩,q⟩
 | ref p =>
  cases rx
  have e':(∃ xs,pM X.K H p xs/\n=xs.length)\/∃ xs,zT X.K H p xs/\n=xs.length:=e
  rcases e' with ⟨xs,hx,e'⟩ | ⟨xs,hx,e'⟩
  ·subst e'
   obtain⟨bB,r',pl,hz⟩:=I.list hx
   have hlen:=r'.length
   exact Calls.call_len_list pl.isList (by simp only [aP]; lia) ⟨.int xs.length,H,I.tok _,⟨_,by simp only [aP]; rw [hlen]⟩,q⟩
  ·subst e'
   obtain⟨bB,r',pl,hz⟩:=I.tuple hx
   have hlen:=r'.length
   exact len_tuple pl (by simp only [aP]; lia) ⟨.int xs.length,H,I.tok _,⟨_,by simp only [aP]; rw [hlen]⟩,q⟩
 | _=>exact(show False from e).elim
end
structure aiI(h:Heap)(x dx C:Addr)(mA:Str->Option Value):Prop where
 obj:h.get? x=some (PySem.W.instObj C dx)
 ns:h.Ns1 dx mA
 ne:dx≠x
theorem AJ.some_of{v:V}{o:Option Value}(r:AJ (some v) o):∃ u,o=some u/\RelV v u:=by
 cases o with
 | none=>exact(show False from r).elim
 | some u=>exact⟨u,rfl,r⟩
structure Cls(K:ag)(C:Addr):Prop where
 pg:PySem.W.plainGet K C Str.empty=true
 hd:PySem.W.hasDictIn K C=true
 po:PySem.W.plainOver K C=true
 sa:dG K (.ref C) "__setattr__" = some (some (.builtin "object.__setattr__"))
structure Con(K:ag)(C:Addr)(f:Str)(v:V)(u:Value):Prop where
 at_:dG K (.ref C) f=some (some u)
 rel:RelV v u
 get:kT K u "__get__" = some none
 cp:PySem.W.copiedNames.contains f=false
structure Meth(K:ag)(C:Addr)(m:Str)(f:Addr):Prop where
 at_:dG K (.ref C) m=some (some (.ref f))
 fn:PySem.W.isFn K (.ref f)=true
 kp:ar K (.ref f)=true
section
variable {X:Cx} {pins:List (Addr×Obj)} {σ:St} {H:Hp} {s:aq} {A:dh} {E:Value->aq->Prop} {Q:Value->aq->Prop} {c:Value} {b:Bool}
inductive zR (K:ag) (H:Hp):V->Value->Prop where
 | cY:zR K H .cY (.type "NoneType")
 | bl (x:Bool):zR K H (.bl x) (.type "bool")
 | int (i:Int):zR K H (.int i) (.type "int")
 | str (x:Str):zR K H (.str x) (.type "str")
 | Vi (x:UInt64):zR K H (.Vi x) (.type "float")
 | lst {a:Addr} {xs:List V} (e:H a=some (.lst xs)):zR K H (.ref a) (.type "list")
 | kQ {a:Addr} {o:Obj} {xs:List V} (e:H a=some (.kQ o (.lst xs))):zR K H (.ref a) (.type "list")
 | tup {a:Addr} {xs:List V} (e:H a=some (.tup xs)):zR K H (.ref a) (.type "tuple")
 | dK {a:Addr} {bp:List (Key×V)} (e:H a=some (.dK bp)):zR K H (.ref a) (.type "dict")
 | dT {a:Addr} {bp:List (List Key×V)} (e:H a=some (.dT bp)):zR K H (.ref a) (.type "dict")
 | ins {a C dx:Addr} {fs:List (Str×V)} (e:H a=some (.ins C dx fs)) (cl:Cls K C) (ha:dG K (.ref C) "__class__" = some (some (.builtin "object.__class__")))
   (hn:kT K (.builtin "object.__class__") "__get__" = some (some (.builtin "getset_descriptor.__get__"))) (htk:sP K (.builtin "object.__class__")=some true)
   (hm:jX K C (.type "object")=some true):zR K H (.ref a) (.ref C)
end
structure jT(k:Nat)(A:dh):Prop where
 hd:A.handled=none
 dp:A.depth+3 * k+5 < recursionLimit
 un:A.units+16 * k+200 < cLine
theorem jT.mono{j k:Nat}{A:dh}(r:jT k A)(h:j<=k):jT j A:=⟨r.hd,by have:=r.dp; lia,by have:=r.un; lia⟩
theorem jT.deeper{k:Nat}{A:dh}(r:jT (k+1) A)(env:Env):jT k (A.deeper env) :=
 ⟨r.hd,by have:=r.dp; show A.depth+1+3 * k+5 < _; lia,by have:=r.un; show A.units+3+16 * k+200 < _; lia⟩
theorem jT.depth{k:Nat}{A:dh}(r:jT k A):A.depth < recursionLimit:=by have:=r.dp; lia
theorem jT.units{k:Nat}{A:dh}(r:jT k A):A.units+64 < cLine:=by have:=r.un; lia
theorem jT.Ru{k:Nat}{A:dh}(r:jT k A):A.units < cLine:=by have:=r.un; lia
noncomputable abbrev Sp:=List V->Hp->VK->XK->Prop
noncomputable abbrev LO:=List Env->Hp->aq->XK->Value->aq->Prop
structure OH(P:bP)(w:World)(K:ag)(mg:Str->Option Value)(base:Heap)(A:dh)(outer:List Env)(s:aq)(H:Hp):Prop where
 frames:A.frames=some outer
 mod:Mod K mg base
 bs:∀ b o,base.get? b=some o->s.heap.get? b=some o/\H b=none
 Ow:base.objs.size<=s.heap.objs.size
 wu:s.heap.FunFrames base outer
 O1:∀ b∈sD outer,H b=none
 cM:pT P w H s.heap
 bare:yp s.gens
noncomputable def CE(outer:List Env)(P:bP)(w:World)(H:Hp)(s:aq)(Q:VK)(u:Value)(s':aq):Prop :=
 ∃ v H',s'.os=s.os/\yp s'.gens/\Un (sD outer) [] H H' s.heap s'.heap/\pT P w H' s'.heap/\RelV v u/\Q v H'
noncomputable def CR(CX:LO)(outer:List Env)(P:bP)(w:World)(H:Hp)(s:aq)(Q:VK)(E:XK)(r:Result)(s':aq):Prop :=
 match r with
 | .ok (.ret u)=>CE outer P w H s Q u s'
 | .ok _=>False
 | .error e=>CX outer H s E e s'
structure dc(P:bP)(w:World)(K:ag)(mg:Str->Option Value)(base:Heap)(CX:LO)(k:Nat)(f:Addr)(fd:aW)(ps:List Str)(sp:Sp):Prop where
 len:∀ vs H Q E,sp vs H Q E->vs.length=ps.length
 run:∀ (A:dh) (outer:List Env) (s:aq) (H:Hp) (args:Args) (us:List Value) (vs:List V) (Q:VK) (E:XK),jT k A->OH P w K mg base A outer s H->L9 s fd args (ps.zip us)->Vals vs us->sp vs H Q E ->
  vJ (model P w) A (.call (.ref f) args) (CR CX outer P w H s Q E) s
section
variable {X:Cx} {pins:List (Addr×Obj)} {σ:St} {H:Hp} {s s':aq}
theorem Inv.Vm(I:Inv X pins σ H s):OH X.prog X.w X.K X.mg X.base X.A X.stack s H :=
 ⟨I.ok.frames,I.ok.mod,I.bs,cv I.ok.Ow I.sz,I.stack,I.B2,I.cM,I.bare⟩
theorem Inv.after{Q:VK}{u:Value}(I:Inv X pins σ H s)(h:CE X.stack X.prog X.w H s Q u s'):EP X pins σ Q u s':=by
 obtain⟨v,H',os,bare,un,cM,r,q⟩:=h
 obtain⟨hh,g,d,t,Uj⟩:=s'
 obtain rfl:Uj=s.os:=os
 exact⟨v,H',I.call (h':=hh) (g':=g) (d':=d) (t':=t) (ch:=[]) un cM bare (fun b z=>absurd z (by simp)),r,q⟩
end
noncomputable def Binds(K:ag)(fd:aW)(ps:List Str)(ds:List Value):Prop :=
 ∀ (s:aq) (us:List Value),K.In s.heap->(us++ds).length=ps.length->L9 s fd ⟨us,[]⟩ (ps.zip (us++ds))
theorem Binds.all{K:ag}{fd:aW}{ps:List Str}(h:∀ us:List Value,us.length=ps.length->bindArgs fd ⟨us,[]⟩=pure (ps.zip us)):Binds K fd ps []:=fun s us _ hl=>by
 rw [bS] at hl ⊢
 exact .of_eq (h us hl)
noncomputable def Passes(CX:LO)(X:Cx)(E:XK):Prop:=∀ (pins:List (Addr×Obj)) (σ:St) (H:Hp) (s:aq) (e:Value) (s':aq),Inv X pins σ H s->CX X.stack H s E e s'->X.xe e s'
section
variable {X:Cx} {CX:LO} {k:Nat} {f C:Addr} {fd:aW} {ps:List Str} {sp:Sp} {WJ:List V} {ds:List Value} {E:XK} {x m:Str} {p pos apos:Pos} {e o:Expr} {es:List Expr} {ta:TE} {t:TA}
theorem ME{pins:List (Addr×Obj)}{σ:St}{H:Hp}{s:aq}{Q:VK}{us:List Value}{vs:List V}(F:dc X.prog X.w X.K X.mg X.base CX k f fd ps sp)(hr:jT k X.A)(hb:Binds X.K fd ps ds)(hd:Vals WJ ds)(hx:Passes CX X E)
  (I:Inv X pins σ H s) (r:Vals vs us) (h:sp (vs++WJ) H Q E):wpAny (model X.prog X.w) X.A (call (.ref f) us) (EP X pins σ Q) X.xe s:=by
 have r2:Vals (vs++WJ) (us++ds):=r.append hd
 have hl:(us++ds).length=ps.length:=by rw [← r2.length]; exact F.len _ _ _ _ h
 refine Gu (nF (F.run X.A X.stack s H ⟨us,[]⟩ (us++ds) (vs++WJ) Q E hr I.Vm (hb s us I.HK hl) r2 h) fun r s' hq=>?_)
 cases r with
 | error e=>exact hx pins σ H s e s' I hq
 | ok fl =>
  cases fl with
  | ret u=>exact I.after hq
  | next=>exact bQ hq
  | brk=>exact bQ hq
  | cont=>exact bQ hq
structure Mk(K:ag)(C f:Addr):Prop where
 makes:PySem.W.makesIn K C=true
 init:dG K (.ref C) "__init__" = some (some (.ref f))
 fn:PySem.W.isFn K (.ref f)=true
 kp:ar K (.ref C)=true
end
section
variable {X:Cx} {CX:LO} {k:Nat} {f C:Addr} {fd:aW} {ps ks:List Str} {sp:Sp} {E:XK} {x m:Str} {p pos apos af9:Pos} {e o:Expr} {es:List Expr} {kws:List L8} {te ta:TE} {t tk:TA} {nm:Option Str}
structure acP(K:ag)(fd:aW)(ps ks:List Str)(g:List Value->List Value->List Value)(gV:List V->List V->List V):Prop where
 to:∀ (s:aq) (us ws:List Value),K.In s.heap->(g us ws).length=ps.length->L9 s fd ⟨us,ks.zip ws⟩ (ps.zip (g us ws))
 rel:∀ {vs:List V} {us:List Value} {zs:List V} {ws:List Value},Vals vs us->Vals zs ws->Vals (gV vs zs) (g us ws)
variable {g:List Value->List Value->List Value} {gV:List V->List V->List V}
end
structure cN(N P:List Str)(sc:Scope):Prop where
 kind:sc.kind=.function
 co:sc.isCoroutine=false
 gen:sc.isGenerator=false
 nd:N.Nodup
 pre:N.take P.length=P
 par:∀ x∈P,sc.names.lookup x=some .local\/sc.names.lookup x=some .cell
 Sf:∀ y∈sc.names,y.2≠.free
theorem BD{kindOf:Str->Option sG}{x:Str}:∀ {binds:List (Str×Value)} {m:Str->Option Value},(∀ v,(x,v)∉binds)->bindL kindOf binds m x=m x
 | [],_,_=>rfl
 | (n,v) :: r,m,h=>by
  unfold bindL
  rw [BD fun w hw=>h w (av _ hw)]
  split
  ·have:x≠n:=by rintro rfl; exact h v aE
   simp [this]
  ·rfl
theorem BF{kindOf:Str->Option sG}{x:Str}:∀ {binds:List (Str×Value)} {m:Str->Option Value},(∀ v,(x,v)∉binds)->bindC kindOf binds m x=m x
 | [],_,_=>rfl
 | (n,v) :: r,m,h=>by
  unfold bindC
  rw [BF fun w hw=>h w (av _ hw)]
  split
  ·rfl
  ·have:x≠n:=by rintro rfl; exact h v aE
   simp [this]
theorem BE{kindOf:Str->Option sG}{x:Str}{v:Value}:∀ {P:List Str} {vs:List Value} {i:Nat} {m:Str->Option Value},P.Nodup->P[i]?=some x->vs[i]?=some v->kindOf x=some .local ->
  bindL kindOf (P.zip vs) m x=some v
 | [],_,_,_,_,h,_,_=>by simp at h
 | _ :: _,[],_,_,_,_,h,_=>by simp at h
 | p :: P,w :: vs,0,m,nd,h1,h2,hk=>by
  simp at h1 h2; subst h1; subst h2
  show bindL kindOf ((p,w) :: P.zip vs) m p=_
  unfold bindL
  rw [BD fun v hv=>(List.nodup_cons.mp nd).1 (Gb hv).1,if_pos hk]
  simp
 | p :: P,w :: vs,i+1,m,nd,h1,h2,hk=>by
  show bindL kindOf ((p,w) :: P.zip vs) m x=_
  unfold bindL
  exact BE (i:=i) (List.nodup_cons.mp nd).2 (by simpa using h1) (by simpa using h2) hk
theorem BG{kindOf:Str->Option sG}{x:Str}{v:Value}:∀ {P:List Str} {vs:List Value} {i:Nat} {m:Str->Option Value},P.Nodup->P[i]?=some x->vs[i]?=some v->kindOf x≠some .local ->
  bindC kindOf (P.zip vs) m x=some v
 | [],_,_,_,_,h,_,_=>by simp at h
 | _ :: _,[],_,_,_,_,h,_=>by simp at h
 | p :: P,w :: vs,0,m,nd,h1,h2,hk=>by
  simp at h1 h2; subst h1; subst h2
  show bindC kindOf ((p,w) :: P.zip vs) m p=_
  unfold bindC
  rw [BF fun v hv=>(List.nodup_cons.mp nd).1 (Gb hv).1,if_neg hk]
  simp
 | p :: P,w :: vs,i+1,m,nd,h1,h2,hk=>by
  show bindC kindOf ((p,w) :: P.zip vs) m x=_
  unfold bindC
  exact BG (i:=i) (List.nodup_cons.mp nd).2 (by simpa using h1) (by simpa using h2) hk
noncomputable def start(N:List Str)(vs:List V):St:=vs.map some++bF (N.length - vs.length) none
noncomputable def wI(CX:LO)(P:bP)(w:World)(K:ag)(mg:Str->Option Value)(base:Heap)(N:List Str)(qual:Str)(scope:Scope)(f:Addr)(cd:Value)(A:dh)(outer:List Env)(s:aq)(H:Hp)(E:XK):Cx where
 prog:=P
 w:=w
 K:=K
 mg:=mg
 base:=base
 A:=A.deeper (yj qual scope s.heap.objs.size f cd)
 N:=N
 ic:=s
 Ln:=H
 env:=yj qual scope s.heap.objs.size f cd
 outer:=outer
 stack:=yj qual scope s.heap.objs.size f cd :: outer
 ex:=[]
 calm:=true
 fn:=fun _=>true
 pn:=[]
 xe:=fun e s'=>wpAny (model P w) (A.deeper (yj qual scope s.heap.objs.size f cd)) (leaving (yj qual scope s.heap.objs.size f cd) e) (fun _ RQ=>CX outer H s E e RQ) (fun e' RQ=>CX outer H s E e' RQ) s'
theorem Fx{sc:Scope}{n:Nat}{x:Str}(h:sc.names.lookup x=some .cell):∃ c,(cellsFrom n sc.names []).lookup x=some c:=by
 have q:=IH sc.names n [] (.inl h)
 exact Option.isSome_iff_exists.mp q
theorem KZ{CX:LO}{P:bP}{w:World}{K:ag}{mg:Str->Option Value}{base:Heap}{N ps:List Str}{qual:Str}{scope:Scope}{f:Addr}{cd:Value}{A:dh}{outer:List Env}{s s1:aq}{H:Hp}{E:XK}{us:List Value}{vs:List V}
  (S:cN N ps scope) (hd:A.handled=none) (e0:OH P w K mg base A outer s H) (hl:vs.length=ps.length) (r:Vals vs us)
  (x:InCallC s s.heap.objs.size (bindL (yj qual scope s.heap.objs.size f cd).kindOf (ps.zip us) fun _=>none) (cellsFrom (s.heap.objs.size+1) scope.names []) (bindC (yj qual scope s.heap.objs.size f cd).kindOf (ps.zip us) fun _=>none) s1) :
  Inv (wI CX P w K mg base N qual scope f cd A outer s H E) [] (start N vs) H s1:=by
 have Bm:ps.length<=N.length:=by have:=congrArg dg S.pre; rw [dj] at this; lia
 obtain⟨h1,tk,rfl,hk⟩:=x.done
 have Uv:∀ b:Addr,b∉(wI CX P w K mg base N qual scope f cd A outer s H E).ex:=fun b z=>absurd (show b∈([]:List Addr) from z) (by simp)
 refine⟨⟨e0.mod,S.kind,rfl,rfl,aF _,fun y z c h1 h2=>?_,fun y hy=>?_,fun y c _ h=>?_,fun _=>hd,Around.frames_deeper e0.frames,.inr ⟨rfl,rfl⟩,fun b z=>absurd z (Uv b),e0.bs,e0.Ow,fun b _ _=>Uv b,fun b z=>absurd z (Uv b),e0.wu,e0.O1⟩,
  rfl,e0.bare,Un.kept hk,⟨_,x.toInCall.ns,fun i y v h1 h2 h3=>?_⟩,fun y c h=>⟨_,x.cell y c h⟩,e0.cM.fresh (aF _),fun y c h=>?_,fun p hp=>absurd (show p∈([]:List (Addr×Obj)) from hp) (by simp),e0.cM.kept hk,?_⟩
 ·exact name_of_addr x.apart (hU h1) (hU h2)
 ·have hy:scope.names.lookup y=some .cell\/scope.names.lookup y=some .free:=hy
  rcases hy with hy | hy
  ·exact Fx hy
  ·exact absurd rfl (S.Sf _ (hU hy))
 ·exact Dx (x.above y c (hU h))
 ·have hi:i < vs.length:=by
   unfold start at h2
   by_cases hi:i < vs.length
   ·exact hi
   ·rw [bZ (by simpa using hi)] at h2
    rw [kN] at h2
    split at h2 <;> cases h2
  have ha:vs[i]?=some v:=by
   unfold start at h2
   rw [cW (by simpa using hi),bu] at h2
   cases e:vs[i]? with
   | none=>rw [e] at h2; cases h2
   | some a=>rw [e] at h2; cases h2; rfl
  obtain⟨u,hu,rv⟩:=r.get ha
  have hp:ps[i]?=some y:=by
   rw [← S.pre,jY (by lia)]; exact h1
  have ndP:ps.Nodup:=by rw [← S.pre]; exact S.nd.sublist (List.take_sublist _ _)
  refine⟨u,rv,?_⟩
  rcases S.par y (dS hp) with k | k
  ·exact .inl ⟨k,BE ndP hp hu k⟩
  ·obtain⟨c,e⟩:=Fx (n:=s.heap.objs.size+1) k
   refine .inr ⟨.inl k,c,e,?_⟩
   have q:=x.cell y c e
   rw [BG ndP hp hu (by show scope.names.lookup y≠_; rw [k]; decide)] at q
   exact q
 ·exact e0.cM.fresh (Dx (x.above y c (hU h)))
 ·unfold start
  show _=N.length
  rw [au,aj,fk]
  lia
theorem Rb{CX:LO}{P:bP}{w:World}{K:ag}{mg:Str->Option Value}{base:Heap}{k:Nat}{f:Addr}{name qual:Str}{params:Arguments}{body:List Stmt}{scope:Scope}{dV kV doc pm nC ct oc:Value}{an od:Option Addr}
  {P4:Array (Option Value)} {N ps:List Str} {sp:Sp} (lk:K.lookup f=some ⟨oc,od,.func (bE name qual params body scope dV kV doc pm an nC ct),P4⟩) (E9:bx K nC qual=true) (S:cN N ps scope)
  (len:∀ vs H Q E,sp vs H Q E->vs.length=ps.length)
  (NT:∀ (A:dh) (outer:List Env) (s:aq) (H:Hp) (vs:List V) (Q:VK) (E:XK),jT k (A.deeper (yj qual scope s.heap.objs.size f nC))->sp vs H Q E ->
   ∃ t,TG (wI CX P w K mg base N qual scope f nC A outer s H E) body t/\t { nx:=fun _ H'=>Q .cY H',rt:=Q } (start N vs) H) :
  dc P w K mg base CX (k+1) f (bE name qual params body scope dV kV doc pm an nC ct) ps sp:=by
 refine⟨len,fun A outer s H args us vs Q E hr e0 hb r ND=>?_⟩
 have hl:=len _ _ _ _ ND
 have KX:K.In s.heap:=e0.mod.Nm.keeps fun b o e=>(e0.bs b o e).1
 have lim:s.heap.NoLimit:=e0.mod.nolimit.keeps fun b o e=>(e0.bs b o e).1
 have Bn:∀ y∈ps.zip us,scope.names.lookup y.1=some .local\/(scope.names.lookup y.1=some .cell/\((cellsFrom (s.heap.objs.size+1) scope.names []).lookup y.1).isSome=true):=fun ⟨n,v⟩ hy=>by
  rcases S.par n (Gb hy).1 with q | q
  ·exact .inl q
  ·exact .inr ⟨q,IH _ _ _ (.inl q)⟩
 refine codeAny_call_function hr.depth (KX _ _ lk) rfl S.co S.gen rfl (PySem.W.codeRec_of KX E9) (hb _ _ _ _ ?_)
 refine wpAny_newFunctionEnv_cells S.kind Bn fun env he s1 x=>?_
 subst he
 refine⟨lim.keeps x.toInCall.keep,codeAny_func ?_⟩
 obtain⟨t,ht,hq⟩:=NT A outer s H vs Q E (hr.deeper _) ND
 have I:Inv (wI CX P w K mg base N qual scope f nC A outer s H E) [] (start N vs) H s1:=KZ S hr.hd e0 hl r x
 refine fH (ht [] s1 (start N vs) H _ I hq) (fun fl s' hs=>?_) fun e s' hs=>hs
 have fin:∀ {jx:St} {H':Hp} {v:V} {u:Value},Inv (wI CX P w K mg base N qual scope f nC A outer s H E) [] jx H' s'->RelV v u->Q v H'->CE outer P w H s Q u s' :=
  fun {jx H' v u} J rv q=>⟨v,H',J.os,J.bare,J.base,J.cM,rv,q⟩
 cases fl with
 | ret u =>
  obtain⟨v,jx,H',J,rv,q⟩:=hs
  exact fin J rv q
 | next =>
  obtain⟨jx,H',J,q⟩:=hs
  exact fin (v:=V.cY) (u:=dE) J rfl q
 | brk =>
  obtain⟨_,_,_,q⟩:=hs
  exact bQ q
 | cont =>
  obtain⟨_,_,_,q⟩:=hs
  exact bQ q
end L2
namespace HT
open PySem PyProof.Rows
noncomputable def lexLt:List Int->List Int->Bool
 | [],[]=>false
 | [],_ :: _=>true
 | _ :: _,[]=>false
 | x :: xs,y :: ys=>if x=y then lexLt xs ys else decide (x < y)
theorem HF(x y:Int)(xs ys:List Int):lexLt (x :: xs) (y :: ys)=if x=y then lexLt xs ys else decide (x < y):=rfl
theorem AA:lexLt [] []=false:=rfl
theorem zb(y:Int)(ys:List Int):lexLt [] (y :: ys)=true:=rfl
theorem zc(x:Int)(xs:List Int):lexLt (x :: xs) []=false:=rfl
theorem N9(A:dh)(s:aq)(a:Int)(t:Tok)(c:Int)(u:Tok):∃ e,SeqAt.EqAt A s (.int a t) (.int c u) e/\(e=true↔a=c) :=
 ⟨(a == c),SeqAt.EqAt.int_int a t c u,by simp⟩
theorem Eg(A:dh)(s:aq)(a:Int)(t:Tok)(c:Int)(u:Tok)(prog:bP)(w:World)(E:Value->aq->Prop)(Q:Value->aq->Prop)(h:Q (.bool (decide (a < c))) s) :
  wpAny (model prog w) A (richCompare .Lt (.int a t) (.int c u)) Q E s :=
 (PyProof.Rows.lt_int h:wpAny (model prog w) A (gm .Lt (.int a t) (.int c u)) Q E s)
section
open PySem.SeqAt
open PySem.AutoSeq1 (wpAny_loadPart')
open PySem.MeetsSeq PySem.MeetsSeq2 PySem.MeetsSeq3
theorem Ap(l b:Addr)(items ni:Array Value)(n n2:Nat)(dd JJ:Option Addr)(sl B5:Array (Option Value))(ns ms:List Int)(hi:om items.toList ns)(hj:om ni.toList ms) :
  Meets (Builtin.«tuple.__lt__» ⟨[.ref l,.ref b],[]⟩)
   (fun _ R s=>s.heap.get? l=some { cls:=.type "tuple",dict:=dd,data:=.seq items n,slots:=sl }/\s.heap.get? b=some { cls:=.type "tuple",dict:=JJ,data:=.seq ni n2,slots:=B5 } /\
    R (.ok (.ret (.bool (lexLt ns ms)))) s) :=
 .of_wp fun prog w A R s h=>by
  obtain⟨hp,g,d,tk,os⟩:=s; obtain⟨hl,hb,h⟩:=h
  have f2:=pA
  have z1:items.size=ns.length:=by rw [← hi.length]; simp
  have z2:ni.size=ms.length:=by rw [← hj.length]; simp
  wp_walk using cf hl,cf hb,iU _ (fun rest b s'=>b.1=none/\s'=⟨hp,g,d,tk,os⟩/\∃ (vs ws:List Value) (Tn Tq:List Int),rest=vs.zip ws /\
   om vs Tn/\om ws Tq/\Tn.length+ni.size=Tq.length+items.size/\R (.ok (.ret (.bool (lexLt Tn Tq)))) ⟨hp,g,d,tk,os⟩) _
  case turn =>
   rintro⟨y,x⟩ rest b s' ⟨K5,rfl,vs,ws,Tn,Tq,hz,Z6,Wt,hlen,hR⟩
   cases Z6 with
   | nil=>rw [List.zip_nil_left] at hz; cases hz
   | cons a t Z5 =>
    cases Wt with
    | nil=>rw [List.zip_nil_right] at hz; cases hz
    | cons c u Z2 =>
     rw [List.zip_cons_cons] at hz
     injection hz with ZX NJ
     injection ZX with hy hx
     subst hy hx
     rw [HF] at hR
     simp only [ak] at hlen
     obtain⟨e,he,U2⟩:=N9 A.in1 ⟨hp,g,d,tk,os⟩ a t c u
     refine aa (he prog w _ _ ?_)
     cases e with
     | true =>
      rw [if_pos (U2.mp rfl)] at hR
      wp_walk
      exact⟨rfl,rfl,_,_,_,_,NJ,Z5,Z2,by lia,hR⟩
     | false =>
      rw [if_neg (fun q=>absurd (U2.mpr q) eF)] at hR
      have UP:=Eg A.in1 ⟨hp,g,d,tk,os⟩ a t c u prog w
      wp_walk using UP
      exact⟨_,rfl,by simpa using hR⟩
  case fin =>
   rintro⟨b1,b2⟩ s' ⟨K5,rfl,vs,ws,Tn,Tq,hz,Z6,Wt,hlen,hR⟩
   simp only at K5
   subst K5
   have hv:lexLt Tn Tq=decide (items.size < ni.size):=by
    cases Z6 with
    | nil =>
     cases Wt with
     | nil =>
      simp only [ay] at hlen
      rw [AA]
      exact(decide_eq_false (by lia)).symm
     | cons c u hw =>
      simp only [ay,ak] at hlen
      rw [zb]
      exact(decide_eq_true (by lia)).symm
    | cons a t hv =>
     cases Wt with
     | nil =>
      simp only [ay,ak] at hlen
      rw [zc]
      exact(decide_eq_false (by lia)).symm
     | cons c u hw =>
      rw [List.zip_cons_cons] at hz
      cases hz
   rw [hv] at hR
   wp_walk
   exact⟨_,rfl,by simpa [uk] using hR⟩
  case h =>
   exact⟨rfl,rfl,items.toList,ni.toList,ns,ms,rfl,hi,hj,by lia,h⟩
end
section
variable {prog:bP} {w:World} {A:dh} {E:Value->aq->Prop} {s:aq}
theorem HB{l b:Addr}{items ni:Array Value}{ns ms:List Int}{Q:Value->aq->Prop}(hl:IsTup s.heap l items)(hb:IsTup s.heap b ni)(hi:om items.toList ns)(hj:om ni.toList ms)
  (hu:A.units < cLine) (h:Q (.bool (lexLt ns ms)) s):wpAny (model prog w) A (gm .Lt (.ref l) (.ref b)) Q E s:=by
 obtain⟨⟨cls,dd,data,sl⟩,ho,hc,n,hd⟩:=id hl
 obtain⟨⟨Om,JJ,data2,B5⟩,E7,Fb,n2,hd2⟩:=id hb
 simp only at hc hd Fb hd2
 subst hc hd Fb hd2
 exact xr (op:=.Lt) ⟨_,ho,rfl⟩ ⟨_,E7,rfl⟩ lq sg (qf _ _) (Ap l b items ni n n2 dd JJ sl B5 ns ms hi hj)
  ⟨ho,E7,show Am (lexLt ns ms)≠Value.notImplemented/\Q (.bool (lexLt ns ms)) s from⟨(fun x=>nomatch x),h⟩⟩ hu
theorem QB{t b:Addr}{vs ws:List Value}{Q:Value->aq->Prop}(ht:IsTup s.heap t vs.toArray)(hb:IsTup s.heap b ws.toArray)(hv:vs≠[])
  (h1:ws=[]->Q (.ref t) s) (h2:ws≠[]->Q (.ref s.heap.objs.size) { s with heap:=s.heap.push { cls:=.type "tuple",data:=.seq (vs++ws).toArray } })
  (hsz:vs.length+ws.length<=bc):wpAny (model prog w) A (jR .Add (.ref t) (.ref b)) Q E s:=by
 obtain⟨⟨cls,dd,data,sl⟩,ho,hc,n,hd⟩:=id ht
 obtain⟨⟨Om,JJ,data2,B5⟩,E7,Fb,n2,hd2⟩:=id hb
 simp only at hc hd Fb hd2
 subst hc hd Fb hd2
 have e:vs.toArray++ws.toArray=(vs++ws).toArray:=by simp
 by_cases hw:ws=[]
 ·exact concat_meets ⟨_,ho,rfl⟩ ⟨_,E7,rfl⟩ noFill_tuple_add seq_tuple_add II GD (Ga _ _)
   (tuple_addW1 t b vs.toArray ws.toArray n n2 dd JJ sl B5 (by simpa using hv) (by simp [hw])) ⟨ho,E7,h1 hw⟩
 ·refine concat_meets ⟨_,ho,rfl⟩ ⟨_,E7,rfl⟩ noFill_tuple_add seq_tuple_add II GD (Ga _ _)
   (tuple_addW2 t b vs.toArray ws.toArray n n2 dd JJ sl B5 (by simpa using hv) (by simpa using hw) (by rw [aP,aP]; exact hsz)) ⟨ho,E7,?_⟩
  rw [e]
  exact h2 hw
noncomputable def jj(n d:Nat):Option Int->Nat
 | none=>d
 | some v=>if v < 0 then (v+(n:Int)).toNat else min v.toNat n
theorem RP(n d:Nat)(hd:d<=n)(o:Option Int):jj n d o<=n:=by
 cases o with
 | none=>exact hd
 | some v =>
  show (if v < 0 then (v+(n:Int)).toNat else min v.toNat n)<=n
  by_cases hv:v < 0
  ·rw [if_pos hv]; lia
  ·rw [if_neg hv]; exact Nat.min_le_right _ _
theorem JS(v:Int)(n d:Nat):(if v < 0 then max (v+(n:Int)) 0 else min v (n:Int))=((jj n d (some v):Nat):Int):=by
 show (if v < 0 then max (v+(n:Int)) 0 else min v (n:Int))=(((if v < 0 then (v+(n:Int)).toNat else min v.toNat n):Nat):Int)
 by_cases hv:v < 0
 ·simp only [if_pos hv]; lia
 ·simp only [if_neg hv]; lia
theorem Ir(lo hi:Option Int)(n:Nat):mE lo hi 1 (n:Int)=(((jj n 0 lo:Nat):Int),((jj n n hi:Nat):Int)):=by
 have h1:¬ ((1:Int) < 0):=by lia
 unfold mE
 simp only [h1,if_false]
 refine Prod.ext ?_ ?_
 ·cases lo with
  | none=>rfl
  | some v=>exact JS v n 0
 ·cases hi with
  | none=>rfl
  | some v=>exact JS v n n
theorem Hg(i j:Nat):iL (i:Int) (j:Int) 1=j - i:=by
 unfold iL
 have h1:(1:Int) > 0:=by lia
 simp only [h1,if_true,Int.ediv_one]
 split <;> lia
theorem yA{v:Value}{o:Option Int}{Q:Option Int->aq->Prop}(p:IsPart v o)(h:Q o s):wpAny (model prog w) A (Builtin.Slice.slicePartIndex v) Q E s:=by
 cases p with
 | none=>exact slicePart_none h
 | int i t=>exact slicePart_int h
theorem vQ{sl:Addr}{vl vu:Value}{lo hi:Option Int}{n:Nat}{Q:Int×Int×Nat->aq->Prop}(hs:s.heap.IsSliceOf sl vl vu .none)(pl:IsPart vl lo)(pu:IsPart vu hi)
  (h:Q (((jj n 0 lo:Nat):Int),1,jj n n hi - jj n 0 lo) s):wpAny (model prog w) A (xU (.ref sl) (pure (n:Int))) Q E s:=by
 obtain⟨os,UQ,hcs,WA⟩:=id hs
 unfold xU Builtin.Slice.sliceFields
 refine aa (aa (LP UQ WA (x:=vl) rfl (aa (LP UQ WA (x:=vu) rfl (aa (LP UQ WA (x:=.none) rfl (ai ?_)))))))
 refine aa (slicePart_none ?_)
 show wpAny _ _ (if ((1:Int) == 0)=true then _ else _) _ _ s
 rw [if_neg (by decide)]
 refine aa (yA pl (aa (yA pu (aa (ai ?_)))))
 show wpAny _ _ (match mE lo hi 1 (n:Int) with | (lo,hi)=>pure (lo,(1:Int),iL lo hi 1)) _ _ s
 rw [Ir lo hi n]
 show wpAny _ _ (pure (((jj n 0 lo:Nat):Int),(1:Int),iL ((jj n 0 lo:Nat):Int) ((jj n n hi:Nat):Int) 1)) _ _ s
 rw [Hg]
 exact ai h
theorem MV(xs:Array Value)(i k:Nat):((cG k).filterMap fun (m:Nat)=>xs[((i:Int)+(m:Int) * 1).toNat]?).toArray=((xs.toList.drop i).take k).toArray:=by
 have e:(fun (m:Nat)=>xs[((i:Int)+(m:Int) * 1).toNat]?)=fun m=>xs[i+m]?:=by
  funext m
  have:((i:Int)+(m:Int) * 1).toNat=i+m:=by lia
  rw [this]
 rw [e]
 have:=pick_run xs i k
 rw [List.filterMap_map] at this
 have e2:((fun x=>xs[x]?)∘fun x=>i+x)=fun m=>xs[i+m]?:=rfl
 rw [e2] at this
 rw [this]
theorem ve{t sl:Addr}{items:Array Value}{vl vu:Value}{lo hi:Option Int}{Q:Value->aq->Prop}(ht:IsTup s.heap t items)(hs:s.heap.IsSliceOf sl vl vu .none)(pl:IsPart vl lo)(pu:IsPart vu hi)
  (hw:¬ (jj items.size 0 lo=0/\jj items.size items.size hi=items.size))
  (h:Q (.ref s.heap.objs.size) { s with heap:=s.heap.push { cls:=.type "tuple",data:=.seq ((items.toList.drop (jj items.size 0 lo)).take (jj items.size items.size hi - jj items.size 0 lo)).toArray } })
  (hsz:items.size<=bc):wpAny (model prog w) A (getItem (.ref t) (.ref sl)) Q E s:=by
 have JC:sizeOk (.seq ((items.toList.drop (jj items.size 0 lo)).take (jj items.size items.size hi - jj items.size 0 lo)).toArray):=by
  show ((items.toList.drop (jj items.size 0 lo)).take (jj items.size items.size hi - jj items.size 0 lo)).toArray.size<=bc
  rw [aP]
  exact cv (cv (List.length_take_le' _ _) (by rw [cJ,br]; exact BN _ _)) hsz
 have hj:jj items.size items.size hi<=items.size:=RP _ _ (aF _) hi
 obtain⟨os,UQ,hcs,WA⟩:=id hs
 have hTs:s.TypeIs (.ref sl) "slice":=⟨os,UQ,hcs⟩
 unfold getItem
 try with_reducible refine dq ?_
 first | refine aa (ai ?_) | skip
 refine aa (wpAny_sequenceKey ht.typeIs (by decide) ?_)
 refine aa (eK (name:=mB "__getitem__") ht.typeIs vE
  (cT vE ht.typeIs entry_tuple_getitem ?_ (args_tuple_getitem _ _)))
 show wpAny _ _ (Builtin.Tuple.tupleItemsOf (.ref t) >>= _) _ _ s
 refine aa (tupleItemsOf_ ht ?_)
 refine aa (IF hTs ?_)
 rw [if_pos (by decide)]
 refine aa (vQ hs pl pu ?_)
 have Ql:¬ ((((jj items.size 0 lo:Nat):Int) == 0&&(1:Int) == 1&&(jj items.size items.size hi - jj items.size 0 lo) == items.size)=true):=by
  intro q
  rw [aH,aH] at q
  have q1:((jj items.size 0 lo:Nat):Int)=0:=eq_of_beq q.1.1
  have q2:jj items.size items.size hi - jj items.size 0 lo=items.size:=eq_of_beq q.2
  exact hw ⟨by lia,by lia⟩
 show wpAny _ _ (if (((jj items.size 0 lo:Nat):Int) == 0&&(1:Int) == 1&&(jj items.size items.size hi - jj items.size 0 lo) == items.size)=true then _ else _) _ _ s
 rw [if_neg Ql,MV]
 first
  | exact aa (m:=jb _) (cO (ai ⟨_,rfl,ai h⟩) JC)
  | exact aa (m:=jb _) (cO (aa (ai (ai ⟨_,rfl,ai h⟩))) JC)
  | exact aa (aa (m:=jb _) (cO (ai (ai ⟨_,rfl,ai h⟩)) JC))
  | exact aa (aa (m:=jb _) (cO (ai ⟨_,rfl,ai h⟩) JC))
end
end HT
namespace L2
open PySem PySem.Spec PyProof.Rows
noncomputable abbrev TO:=St->Hp->(Option Int->Hp->Prop)->Prop
theorem intsAre_of{ns:List Int}:∀ {us:List Value},Vals (ns.map V.int) us->om us ns:=by
 induction ns with
 | nil=>intro us r; rw [bh] at r; cases r; exact .nil
 | cons n ns ih =>
  intro us r
  rw [ax] at r
  cases r with
  | cons r1 r2 =>
   obtain⟨t,e⟩:=r1
   subst e
   exact .cons n t (ih r2)
section
variable {X:Cx} {e:Expr} {te:TE} {lo hi:Option Expr} {tl th:TO} {pos p2:Pos}
noncomputable def SlR(X:Cx)(r:V->Option Int->Option Int->Hp->VK->Prop):Prop :=
 ∀ (pins:List (Addr×Obj)) (s:aq) (σ:St) (H:Hp) (x:V) (v vl vu:Value) (lo hi:Option Int) (sl:Addr) (Q:VK),Inv X pins σ H s->RelV x v->s.heap.IsSliceOf sl vl vu .none->IsPart vl lo->IsPart vu hi->r x lo hi H Q ->
  ∃ T id,typeLookup (.type T) "__getitem__" = pure (some (.builtin id))/\s.TypeIs v T/\wpAny (model X.prog X.w) X.A (getItem v (.ref sl)) (EP X pins σ Q) X.xe s
noncomputable def Fu(xs:List V)(lo hi:Option Int):List V:=(xs.drop (HT.jj xs.length 0 lo)).take (HT.jj xs.length xs.length hi - HT.jj xs.length 0 lo)
theorem xp(xs:List V)(lo hi:Option Int):(Fu xs lo hi).length<=xs.length:=by
 unfold Fu
 rw [dj,cJ]
 lia
noncomputable def XA(K:ag):V->Option Int->Option Int->Hp->VK->Prop:=fun x lo hi H Q=>∃ a xs,x=.ref a/\zT K H a xs /\
 ¬ (HT.jj xs.length 0 lo=0/\HT.jj xs.length xs.length hi=xs.length)/\∀ p,H p=none->Q (.ref p) (upd H p (.tup (Fu xs lo hi)))
theorem RO:SlR X (XA X.K):=by
 intro pins s σ H x v vl vu lo hi sl Q I rx hs pl pu h
 obtain⟨a,xs,rfl,hx,hw,q⟩:=h
 cases rx
 obtain⟨bB,r,ht,hz⟩:=I.tuple hx
 have hlen:bB.toArray.size=xs.length:=by rw [aP]; exact r.length.symm
 refine⟨"tuple",_,PyProof.Rows.slot_tuple_getitem.lookup,ht.typeIs,?_⟩
 refine HT.ve ht hs pl pu (by rw [hlen]; exact hw) ?_ (by rw [hlen]; exact hz)
 rw [hlen]
 refine⟨.ref s.heap.objs.size,_,I.laid (t':=s.toks) (o:=.tup (Fu xs lo hi)) (fun b ob q=>aI _ q) (aF _) ?_,rfl,q _ (I.cM.fresh (aF _))⟩
 exact⟨cv (xp xs lo hi) hz,_,(r.drop (HT.jj xs.length 0 lo)).take (HT.jj xs.length xs.length hi - HT.jj xs.length 0 lo),IsTup.new _ _⟩
noncomputable def XC(K:ag):R2:=fun x y H Q=>∃ a b ns ms,x=.ref a/\y=.ref b/\zT K H a (ns.map V.int)/\zT K H b (ms.map V.int)/\Q (.bl (HT.lexLt ns ms)) H
theorem Sa(hu:X.A.units < cLine):LN X (gm .Lt) (XC X.K):=by
 intro pins s σ H x y v u Q I rx ry h
 obtain⟨a,b,ns,ms,rfl,rfl,ha,hb,q⟩:=h
 cases rx
 cases ry
 obtain⟨bB,r1,p1,_⟩:=I.tuple ha
 obtain⟨wo,r2,p2,_⟩:=I.tuple hb
 have i1:om bB.toArray.toList ns:=intsAre_of r1
 have i2:om wo.toArray.toList ms:=intsAre_of r2
 exact HT.HB p1 p2 i1 i2 hu ⟨.bl (HT.lexLt ns ms),H,I,rfl,q⟩
noncomputable def Ud(K:ag):R2:=fun x y H Q=>∃ a b xs ys,x=.ref a/\y=.ref b/\zT K H a xs/\zT K H b ys/\xs≠[]/\xs.length+ys.length<=bc /\
 (ys=[]->Q (.ref a) H)/\(ys≠[]->∀ p,H p=none->Q (.ref p) (upd H p (.tup (xs++ys))))
theorem Vals.Cs{xs:List V}{us:List Value}(r:Vals xs us):us=[]↔xs=[]:=by
 cases r with
 | nil=>simp
 | cons _ _=>simp
theorem P7:LN X (jR .Add) (Ud X.K):=by
 intro pins s σ H x y v u Q I rx ry h
 obtain⟨a,b,xs,ys,rfl,rfl,ha,hb,hx,hz,q1,q2⟩:=h
 cases rx
 cases ry
 obtain⟨bB,r1,p1,_⟩:=I.tuple ha
 obtain⟨wo,r2,p2,_⟩:=I.tuple hb
 refine HT.QB p1 p2 (fun z=>hx (r1.Cs.mp z)) (fun z=>⟨.ref a,H,I,rfl,q1 (r2.Cs.mp z)⟩) (fun z=>?_) (by rw [← r1.length,← r2.length]; exact hz)
 refine⟨.ref s.heap.objs.size,_,I.laid (t':=s.toks) (o:=.tup (xs++ys)) (fun b ob q=>aI _ q) (aF _) ?_,rfl,q2 (fun w=>z (r2.Cs.mpr w)) _ (I.cM.fresh (aF _))⟩
 exact⟨by rw [au]; exact hz,_,r1.append r2,IsTup.new _ _⟩
end
noncomputable def EY(n:Nat)(i:Int):Option Nat:=if 0<=i then (if i < n then some i.toNat else none) else if -(n:Int)<=i then some (i+n).toNat else none
noncomputable def rK{α:Type}(xs:List α)(i:Int):Option α:=(EY xs.length i).bind fun j=>xs[j]?
theorem Jx{n:Nat}{i:Int}{j:Nat}(h:EY n i=some j):seqIndex? i n=some j/\j < n/\-(n:Int)<=i/\i < n:=by
 unfold EY at h
 by_cases h0:0<=i
 ·rw [if_pos h0] at h
  by_cases h1:i < n
  ·rw [if_pos h1] at h
   have e:i.toNat=j:=df h
   exact⟨by rw [seqIndex_of h0 h1,e],by lia,by lia,h1⟩
  ·rw [if_neg h1] at h; cases h
 ·rw [if_neg h0] at h
  by_cases h1:-(n:Int)<=i
  ·rw [if_pos h1] at h
   have e:(i+n).toNat=j:=df h
   exact⟨by rw [seqIndex_neg (by lia) h1,e],by lia,h1,by lia⟩
  ·rw [if_neg h1] at h; cases h
theorem JX{α:Type}{xs:List α}{i:Int}{v:α}(h:rK xs i=some v):∃ j,seqIndex? i xs.length=some j/\xs[j]?=some v/\j < xs.length/\-(xs.length:Int)<=i/\i < xs.length:=by
 unfold rK at h
 cases e:EY xs.length i with
 | none=>rw [e] at h; cases h
 | some j =>
  rw [e] at h
  obtain⟨h1,h2,h3,h4⟩:=Jx e
  exact⟨j,h1,h,h2,h3,h4⟩
noncomputable def QF(b:Expr):Prop:=∀ o i,subscripted b false o i=operate [o,i] (getItem o i)
noncomputable def IxR(X:Cx)(r:R2):Prop :=
 ∀ (value slice:Expr) (pins:List (Addr×Obj)) (s:aq) (σ:St) (H:Hp) (x y:V) (v u:Value) (Q:VK),Inv X pins σ H s->RelV x v->RelV y u->r x y H Q ->
  subscripted slice false v u=operate [v,u] (getItem v u)->wpAny (model X.prog X.w) X.A (subscriptTail value slice v u) (EP X pins σ Q) X.xe s
noncomputable def MtR(X:Cx)(id:String)(r:V->List V->Hp->VK->Prop):Prop :=
 ∀ (pins:List (Addr×Obj)) (s:aq) (σ:St) (H:Hp) (x:V) (xs:List V) (v:Value) (us:List Value) (Q:VK),Inv X pins σ H s->RelV x v->Vals xs us->r x xs H Q ->
  wpAny (model X.prog X.w) X.A (call (.builtin id) (v :: us)) (EP X pins σ Q) X.xe s
section
variable {X:Cx} {a b:Expr} {ta tb:TE} {pos:Pos}
noncomputable def XF(K:ag):R2:=fun x y H Q=>∃ p xs i v,x=.ref p/\y=.int i/\pM K H p xs/\rK xs i=some v/\Q v H
noncomputable def XE(K:ag):R2:=fun x y H Q=>∃ p xs i v,x=.ref p/\y=.int i/\zT K H p xs/\rK xs i=some v/\Q v H
theorem Jw:IxR X (XF X.K):=by
 intro value slice pins s σ H x y v u Q I rx ry h hs
 obtain⟨p,xs,i,z,rfl,rfl,hq,he,q⟩:=h
 cases rx
 obtain⟨t,rfl⟩:=ry
 obtain⟨bB,r,pl,hz⟩:=I.list hq
 obtain⟨j,h1,h2,h3,h4,h5⟩:=JX he
 obtain⟨w,ew,tD⟩:=r.get h2
 have hl:=r.length
 have hn:=y8
 have fin:EP X pins σ Q w s:=⟨z,H,I,tD,q⟩
 by_cases h0:0<=i
 ·have hj:i.toNat=j:=by
   rw [seqIndex_of h0 h5] at h1
   exact df h1
  exact item_listR pl.isList h0 (by lia) (by rw [hj]; simpa using ew) fin hs
 ·have hj:(i+(bB.toArray.size:Int)).toNat=j:=by
   rw [seqIndex_neg (by lia) h4] at h1
   rw [aP,← hl]
   exact df h1
  exact subscriptTail_builtinR (x:=w) pl.isList.typeIs slot_list_getitem.lookup
   (wpAny_getItem_list_neg (Q:=fun r s'=>r=w/\EP X pins σ Q r s') pl.isList (by lia) (by rw [aP] <;> lia) (by lia) (by rw [hj]; simpa using ew) ⟨rfl,fin⟩) hs
theorem Sw:IxR X (XE X.K):=by
 intro value slice pins s σ H x y v u Q I rx ry h hs
 obtain⟨p,xs,i,z,rfl,rfl,hq,he,q⟩:=h
 cases rx
 obtain⟨t,rfl⟩:=ry
 obtain⟨bB,r,pl,hz⟩:=I.tuple hq
 obtain⟨j,h1,h2,h3,h4,h5⟩:=JX he
 obtain⟨w,ew,tD⟩:=r.get h2
 have hl:=r.length
 have hn:=y8
 have fin:EP X pins σ Q w s:=⟨z,H,I,tD,q⟩
 exact subscriptTail_builtinR (x:=w) pl.typeIs slot_tuple_getitem.lookup
  (getItem_tuple (j:=j) (Q:=fun r s'=>r=w/\EP X pins σ Q r s') pl (by lia) (by lia) (by rw [aP,← hl]; exact h1) (by simpa using ew) ⟨rfl,fin⟩) hs
theorem HA (bB:List Value) (n j:Nat) (u:Value):iI (·.setIfInBounds j u) { cls:=.type "list",data:=.seq bB.toArray n } = { cls:=.type "list",data:=.seq (bB.set j u).toArray n }:=by
 simp [iI]
theorem Inv.lst{pins:List (Addr×Obj)}{σ:St}{H:Hp}{s:aq}{p:Addr}{xs:List V}(I:Inv X pins σ H s)(h:H p=some (.lst xs)) :
  ∃ (bB:List Value) (n:Nat),Vals xs bB/\s.heap.get? p=some { cls:=.type "list",data:=.seq bB.toArray n }/\xs.length<=bc:=by
 obtain⟨z,bB,n,r,e⟩:=I.cM p _ h
 exact⟨bB,n,r,e,z⟩
theorem Inv.Sk{pins:List (Addr×Obj)}{σ:St}{H:Hp}{s:aq}{p:Addr}{xs ys:List V}{bB its':List Value}{n n':Nat}{f:Obj->Obj}(I:Inv X pins σ H s)(h:H p=some (.lst xs))
  (ho:s.heap.get? p=some { cls:=.type "list",data:=.seq bB.toArray n }) (hf:f { cls:=.type "list",data:=.seq bB.toArray n } = { cls:=.type "list",data:=.seq its'.toArray n' }) (r:Vals ys its') (hz:ys.length<=bc) (t:Nat) :
  Inv X pins σ (upd H p (.lst ys)) { s with heap:=s.heap.update p f,toks:=t }:=by
 have e:(s.heap.update p f).get? p=some { cls:=.type "list",data:=.seq its'.toArray n' }:=by
  rw [eu f ho (by rw [hf] <;> rfl),hf]
 refine I.write (x:=p) (e:=p) (by rw [h]; trivial) (.inl rfl) (fun b u hb q=>(t9 _ _ (fu hb)).trans q) ⟨_,e⟩ ?_
 exact⟨hz,its',n',r,e⟩
noncomputable def Ub:V->V->V->Hp->(Hp->Prop)->Prop:=fun o i v H Q=>∃ p xs k j,o=.ref p/\i=.int k/\H p=some (.lst xs)/\EY xs.length k=some j/\Q (upd H p (.lst (xs.set j v)))
theorem set_list:acO X Ub:=by
 intro pins s σ H o i v ov iv u Q I ro ri rv h
 obtain⟨p,xs,k,j,rfl,rfl,hp,hj,q⟩:=h
 cases ro
 obtain⟨t,rfl⟩:=ri
 obtain⟨bB,n,r,ho,hz⟩:=I.lst hp
 obtain⟨h1,h2,h3,h4⟩:=Jx hj
 have hl:=r.length
 have hn:=y8
 have I':Inv X pins σ (upd H p (.lst (xs.set j v))) { s with heap:=s.heap.update p (iI (·.setIfInBounds j u)) } :=
  I.Sk hp ho (HA bB n j u) (r.set rv j) (by rw [fj]; exact hz) s.toks
 by_cases h0:0<=k
 ·have hk:k.toNat=j:=by
   rw [seqIndex_of h0 h4] at h1
   exact df h1
  exact PySem.W.ki_setAt ho h0 (by lia) (by rw [aP,← hl]; exact h4) (by rw [hk]; exact⟨_,I',q⟩)
 ·have hk:(k+(bB.toArray.size:Int)).toNat=j:=by
   rw [seqIndex_neg (by lia) h3] at h1
   rw [aP,← hl]
   exact df h1
  exact PySem.W.ki_setBack ho (by lia) (by rw [aP,← hl]; exact h3) (by lia) (by rw [hk]; exact⟨_,I',q⟩)
theorem B4(lo hi:Option Int)(n:Nat):(p8 lo hi none n).1=((HT.jj n 0 lo:Nat):Int)/\(p8 lo hi none n).2.1=((HT.jj n n hi:Nat):Int)/\(p8 lo hi none n).2.2=1:=by
 refine⟨?_,?_,rfl⟩
 ·cases lo with
  | none=>simp [p8,HT.jj]
  | some i =>
   simp only [p8,HT.jj,Option.getD_none,show (1:Int) > 0 by decide,if_true]
   by_cases h:i < 0
   ·simp only [h,if_true] <;> lia
   ·simp only [h,if_false] <;> lia
 ·cases hi with
  | none=>simp [p8,HT.jj]
  | some i =>
   simp only [p8,HT.jj,Option.getD_none,show (1:Int) > 0 by decide,if_true]
   by_cases h:i < 0
   ·simp only [h,if_true] <;> lia
   ·simp only [h,if_false] <;> lia
theorem As(bB:List Value)(lo hi:Option Int):slicePick bB.toArray lo hi none=((bB.drop (HT.jj bB.length 0 lo)).take (HT.jj bB.length bB.length hi - HT.jj bB.length 0 lo)).toArray:=by
 obtain⟨h1,h2,h3⟩:=B4 lo hi bB.toArray.size
 unfold slicePick
 rw [h1,h2,h3]
 simp only [sliceRange_one,pick_run,aP] <;> rfl
noncomputable def XB(K:ag):V->Option Int->Option Int->Hp->VK->Prop:=fun x lo hi H Q=>∃ a xs,x=.ref a/\pM K H a xs/\∀ p,H p=none->Q (.ref p) (upd H p (.lst (Fu xs lo hi)))
theorem IZ:SlR X (XB X.K):=by
 intro pins s σ H x v vl vu lo hi sl Q I rx hs pl pu h
 obtain⟨a,xs,rfl,hx,q⟩:=h
 cases rx
 obtain⟨bB,r,ht,hz⟩:=I.list hx
 have hlen:=r.length
 refine⟨"list",_,slot_list_getitem.lookup,ht.isList.typeIs,?_⟩
 refine wpAny_getItem_list_slice ht.isList hs pl pu .none (by simp) ?_ (by rw [aP] <;> lia)
 rw [As,← hlen]
 refine⟨.ref s.heap.objs.size,_,I.laid (t':=s.toks) (o:=.lst (Fu xs lo hi)) (fun b ob q=>aI _ q) (aF _) ?_,rfl,q _ (I.cM.fresh (aF _))⟩
 exact⟨cv (xp xs lo hi) hz,_,0,(r.drop (HT.jj xs.length 0 lo)).take (HT.jj xs.length xs.length hi - HT.jj xs.length 0 lo),bw _ rfl⟩
theorem C5:Rn X (.type "list") (fun xs H Q=>∃ p ys,xs=[.ref p]/\(pM X.K H p ys\/zT X.K H p ys)/\∀ l,H l=none->Q (.ref l) (upd H l (.lst ys))):=by
 intro pins s σ H xs us Q I r h
 obtain⟨p,ys,rfl,hq,q⟩:=h
 obtain⟨u,rfl,rx⟩:=vals1 r
 cases rx
 have fin:∀ (bB:List Value),Vals ys bB->ys.length<=bc->∀ (h':Heap) (c':Nat),(∀ b o',s.heap.get? b=some o'->h'.get? b=some o') ->
   h'.get? s.heap.objs.size=some { cls:=.type "list",dict:=none,data:=.seq bB.toArray c',slots:=#[] }->EP X pins σ Q (.ref s.heap.objs.size) { s with heap:=h' }:=fun bB r' hz h' c' kp e =>
  ⟨.ref s.heap.objs.size,_,I.laid (t':=s.toks) kp (aF _) (show gu X.prog X.w _ h' _ (.lst ys) from⟨hz,bB,c',r',e⟩),rfl,q _ (I.cM.fresh (aF _))⟩
 rcases hq with hq | hq
 ·obtain⟨bB,r',pl,hz⟩:=I.list hq
  have hlen:=r'.length
  obtain⟨o,ho,hc,n,hd⟩:=pl.isList
  exact call_list_seq p (.inl rfl) ho hc hd (fun h' c' kp e=>fin bB r' hz h' c' kp e) (by simp only [aP] <;> lia)
 ·obtain⟨bB,r',pl,hz⟩:=I.tuple hq
  have hlen:=r'.length
  obtain⟨o,ho,hc,n,hd⟩:=pl
  exact call_list_seq p (.inr rfl) ho hc hd (fun h' c' kp e=>fin bB r' hz h' c' kp e) (by simp only [aP] <;> lia)
noncomputable def tyV(K:ag)(T:String)(x:V)(H:Hp):Prop:=match x with
 | .str _=>T = "str"
 | .int _=>T = "int"
 | .ref p=>(T = "list"/\∃ xs,pM K H p xs)\/(T = "tuple"/\∃ o,K.lookup p=some o/\o.cls=.type "tuple"/\o.dict=none) \/
   (T = "dict"/\((∃ bp,H p=some (.dK bp))\/∃ bp,H p=some (.dT bp)))\/(T = "set"/\∃ S n,H p=some (.set S n))
 | _=>False
theorem BX{pins:List (Addr×Obj)}{σ:St}{H:Hp}{s:aq}{T:String}{x:V}{v:Value}(I:Inv X pins σ H s)(r:RelV x v)(ty:tyV X.K T x H) :
  s.TypeIs v T/\∀ a,v=.ref a->∃ ob,s.heap.get? a=some ob/\ob.dict=none:=by
 cases x with
 | str z =>
  obtain⟨t,rfl⟩:=r
  cases (show T = "str" from ty)
  exact⟨typeIs_str s z t,fun _ e=>nomatch e⟩
 | int i =>
  obtain⟨t,rfl⟩:=r
  cases (show T = "int" from ty)
  exact⟨typeIs_int s i t,fun _ e=>nomatch e⟩
 | ref p =>
  cases r
  rcases ty with ⟨rfl,xs,hq⟩ | ⟨rfl,o,hk,hc,hd⟩ | ⟨rfl,hk⟩ | ⟨rfl,S,n,hk⟩
  ·obtain⟨bB,_,pl,_⟩:=I.list hq
   refine⟨pl.isList.typeIs,fun a e=>?_⟩
   cases e
   obtain⟨o,n,e,c,hd,_⟩:=pl
   exact⟨o,e,hd⟩
  ·refine⟨⟨o,I.HK p o hk,hc⟩,fun a e=>?_⟩
   cases e
   exact⟨o,I.HK _ o hk,hd⟩
  ·have z:∃ o,s.heap.get? p=some o/\o.ExactDict:=by
    rcases hk with ⟨bp,hk⟩ | ⟨bp,hk⟩
    ·obtain⟨_,_,_,_,o,_,_,e,ex,_⟩:=I.cM p _ hk
     exact⟨o,e,ex⟩
    ·obtain⟨_,_,_,_,o,_,_,e,ex,_⟩:=I.cM p _ hk
     exact⟨o,e,ex⟩
   obtain⟨o,e,ex⟩:=z
   refine⟨⟨o,e,ex.1⟩,fun a e2=>?_⟩
   cases e2
   exact⟨o,e,ex.2.1⟩
  ·obtain⟨o,_,_,_,e,ex,_⟩:=I.cM p _ hk
   refine⟨⟨o,e,ex.1⟩,fun a e2=>?_⟩
   cases e2
   exact⟨o,e,ex.2.1⟩
 | _=>exact bQ ty
variable {o e:Expr} {es:List Expr} {to:TE} {t:TA} {name:Str} {apos iQ:Pos} {T id:String} {r:V->List V->Hp->VK->Prop}
/- xs.append(e),list.index on a Uy tuple .. are MtR facts of 06m -/
end
noncomputable def MtM(X:Cx)(id:String)(r:V->List V->Hp->VK->Prop):Prop :=
 ∀ (pins:List (Addr×Obj)) (s:aq) (σ:St) (H:Hp) (x:V) (xs:List V) (v:Value) (us:List Value) (Q:VK),Inv X pins σ H s->RelV x v->Vals xs us->r x xs H Q ->
  wpAny (model X.prog X.w) X.A (call (.builtin id) (v :: us)) (EP X pins σ Q) X.xe s
theorem Vals.one:∀ {x:V} {us:List Value},Vals [x] us->∃ u,us=[u]/\RelV x u:=by
 intro x us h
 cases h with
 | cons r t=>cases t; exact⟨_,rfl,r⟩
section
variable {X:Cx} {pins:List (Addr×Obj)} {σ:St} {H:Hp} {s:aq} {l b:Addr} {xs ys zs:List V}
theorem Inv.So{bB its':List Value}{n:Nat}{f:Array Value->Array Value}{t':Nat}(I:Inv X pins σ H s)(hH:H l=some (.lst xs))
  (e:s.heap.get? l=some { cls:=.type "list",data:=.seq bB.toArray n }) (hf:f bB.toArray=its'.toArray) (hv:Vals ys its') (hz:ys.length<=bc) :
  Inv X pins σ (upd H l (.lst ys)) { s with heap:=s.heap.update l (iI f),toks:=t' }:=by
 have q:=PySem.IsL.update e f
 rw [hf] at q
 refine I.write (x:=l) (e:=l) (by rw [hH]; exact trivial) (.inl rfl) (fun b' u hb hu=>(t9 s.heap (iI f) (fu hb)).trans hu) ⟨_,q⟩ ?_
 exact⟨hz,its',_,hv,q⟩
theorem Inv.Za{bB:List Value}{t':Nat}(I:Inv X pins σ H s)(hv:Vals ys bB)(hz:ys.length<=bc) :
  Inv X pins σ (upd H s.heap.objs.size (.lst ys)) { s with heap:=s.heap.push { cls:=.type "list",data:=.seq bB.toArray },toks:=t' } :=
 I.laid (fun _ _ q=>aI _ q) (aF _) ⟨hz,bB,0,hv,bw _ rfl⟩
theorem Inv.Sl (I:Inv X pins σ H s) (hH:H l=some (.lst xs)):xs.length<=bc/\∃ (bB:List Value) (n:Nat),Vals xs bB/\xs.length=bB.length/\s.heap.get? l=some { cls:=.type "list",data:=.seq bB.toArray n }:=by
 obtain⟨z,bB,n,r,e⟩:=I.cM l _ hH
 exact⟨z,bB,n,r,r.length,e⟩
theorem M7{n:Nat}(h:n<=bc):jh n=false:=by
 unfold jh
 exact decide_eq_false (by lia)
end
section
variable {X:Cx}
noncomputable def PK:V->List V->Hp->VK->Prop:=fun x vs H Q=>∃ l xs y,x=.ref l/\vs=[y]/\H l=some (.lst xs)/\xs.length < bc/\Q .cY (upd H l (.lst (xs++[y])))
theorem Bg:MtM X "list.append" PK:=by
 intro pins s σ H x vs v us Q I rx rv h
 obtain⟨l,xs,y,rfl,rfl,hH,hz,q⟩:=h
 cases rx
 obtain⟨u,rfl,ru⟩:=rv.one
 obtain⟨z,bB,n,r,hl,e⟩:=I.Sl hH
 refine zZ F.slot_list_append ⟨_,e,rfl⟩ F.entry_list_append (F.args_list_append_2 _ _) (PySem.list_append l bB.toArray n u (by rw [aP]; lia)) ⟨e,?_⟩
 refine⟨.cY,_,I.So (its':=bB++[u]) hH e (by simp) (r.append (.cons ru .nil)) ?_,rfl,q⟩
 rw [au,cE]
 lia
end
section
variable {κ:Type} [DecidableEq κ]
noncomputable def lu(bp:List (κ×V))(k:κ):Option V:=(bp.find? fun kv=>decide (kv.1=k)).map (·.2)
noncomputable def putK(bp:List (κ×V))(k:κ)(v:V):List (κ×V) :=
 if (bp.any fun kv=>decide (kv.1=k))=true then bp.map (fun kv=>if kv.1=k then (kv.1,v) else kv) else bp++[(k,v)]
theorem qj{p:κ×V}{r:List (κ×V)}{k:κ}(e:p.1=k):lu (p :: r) k=some p.2:=by simp [lu,fU,e]
theorem qk{p:κ×V}{r:List (κ×V)}{k:κ}(e:¬ p.1=k):lu (p :: r) k=lu r k:=by simp [lu,fU,e]
theorem DU(k:κ):∀ bp:List (κ×V),(bp.any fun kv=>decide (kv.1=k))=(lu bp k).isSome
 | []=>rfl
 | p :: r=>by
  rw [kO]
  by_cases e:p.1=k
  ·simp only [qj e,decide_eq_true e,Bool.true_or,Option.isSome_some]
  ·rw [qk e,decide_eq_false e,Lz]; exact DU k r
theorem xc(bp:List (κ×V))(k:κ)(v:V):(putK bp k v).length<=bp.length+1:=by
 unfold putK
 split
 ·rw [aj]; lia
 ·rw [au,ak,ay]; lia
theorem AJ.nT{o:Option V}{u:Option Value}(r:AJ o u):o.isSome=u.isSome:=by
 cases o with
 | none=>cases u with
  | none=>rfl
  | some _=>exact(show False from r).elim
 | some _=>cases u with
  | none=>exact(show False from r).elim
  | some _=>rfl
theorem KV.val{bp:List (κ×V)}{vs:List (κ×Value)}(r:KV bp vs)(k:κ):AJ (lu bp k) (LQ vs k):=by
 unfold KV at r
 induction r with
 | nil=>exact nG
 | @cons p q ps qs h t ih =>
  obtain⟨h1,h2⟩:=h
  by_cases e:p.1=k
  ·have e':q.1=k:=h1.symm.trans e
   have b:LQ (q :: qs) k=some q.2:=by simp [LQ,fU,e']
   rw [qj e,b]; exact h2
  ·have e':¬ q.1=k:=fun z=>e (h1.trans z)
   have b:LQ (q :: qs) k=LQ qs k:=by simp [LQ,fU,e']
   rw [qk e,b]; exact ih
theorem KV.any{bp:List (κ×V)}{vs:List (κ×Value)}(r:KV bp vs)(k:κ):(bp.any fun kv=>decide (kv.1=k))=vs.any fun kv=>decide (kv.1=k):=by
 unfold KV at r
 induction r with
 | nil=>rfl
 | cons h t ih=>rw [kO,kO,ih,h.1]
theorem KV.RT{bp:List (κ×V)}{vs:List (κ×Value)}(r:KV bp vs)(k:κ){y:V}{u:Value}(ry:RelV y u) :
  KV (bp.map fun kv=>if kv.1=k then (kv.1,y) else kv) (vs.map fun kv=>if kv.1=k then (kv.1,u) else kv):=by
 unfold KV at r ⊢
 induction r with
 | nil=>exact .nil
 | @cons p q ps qs h t ih =>
  rw [ax,ax]
  refine .cons ?_ ih
  obtain⟨h1,h2⟩:=h
  by_cases e:p.1=k
  ·rw [if_pos e,if_pos (h1.symm.trans e)]; exact⟨h1,ry⟩
  ·rw [if_neg e,if_neg (fun z=>e (h1.trans z))]; exact⟨h1,h2⟩
theorem KV.put{bp:List (κ×V)}{vs:List (κ×Value)}(r:KV bp vs)(k:κ){y:V}{u:Value}(ry:RelV y u):KV (putK bp k y) (stored vs k u):=by
 unfold putK stored
 rw [r.any k]
 by_cases e:(vs.any fun kv=>decide (kv.1=k))=true
 ·rw [if_pos e,if_pos e]; exact r.RT k ry
 ·rw [if_neg e,if_neg e]; exact Paired.snoc r ⟨rfl,ry⟩
theorem KV.length{bp:List (κ×V)}{vs:List (κ×Value)}(r:KV bp vs):bp.length=vs.length:=g7 r
end
theorem EW{P:bP}{w:World}{k:Key}{u:Value}(r:RelV (kV k) u):(cy P w).is k u=true:=by
 cases k with
 | inl i=>obtain⟨t,e⟩:=(show ∃ t,u=Value.int i t from r); subst e; exact EC P w i t
 | inr x=>obtain⟨t,e⟩:=(show ∃ t,u=Value.str x t from r); subst e; exact EB P w x t
theorem Bk{P:bP}{w:World}:∀ {ks:List Key} {us:List Value},Vals (ks.map kV) us->ItemsAre (cy P w) ks us
 | [],_,r=>by rw [bh] at r; cases r; exact .nil
 | k :: ks,_,r=>by
  rw [ax] at r
  cases r with
  | cons h t=>exact .cons (EW h) (Bk t)
noncomputable abbrev KT(H:Hp):List (List Key×V)->List (List Key×Addr×Value)->Prop:=Paired fun p q=>p.1=q.1/\H q.2.1=some (.tup (p.1.map kV))/\RelV p.2 q.2.2
theorem KT.val{H:Hp}{bp:List (List Key×V)}{xs:List (List Key×Addr×Value)}(r:KT H bp xs)(k:List Key):AJ (lu bp k) ((atKey xs k).map (·.2)):=by
 induction r with
 | nil=>exact nG
 | @cons p q ps qs h t ih =>
  obtain⟨h1,_,h2⟩:=h
  by_cases e:p.1=k
  ·have e':q.1=k:=h1.symm.trans e
   have b:atKey (q :: qs) k=some q.2:=by simp [atKey,fU,e']
   rw [qj e,b]; exact h2
  ·have e':¬ q.1=k:=fun z=>e (h1.trans z)
   have b:atKey (q :: qs) k=atKey qs k:=by simp [atKey,fU,e']
   rw [qk e,b]; exact ih
theorem KT.RT{H:Hp}{bp:List (List Key×V)}{xs:List (List Key×Addr×Value)}(r:KT H bp xs)(k:List Key){y:V}{u:Value}(ry:RelV y u) :
  KT H (bp.map fun kv=>if kv.1=k then (kv.1,y) else kv) (xs.map (putAt k u)):=by
 induction r with
 | nil=>exact .nil
 | @cons p q ps qs h t ih =>
  rw [ax,ax]
  refine .cons ?_ ih
  obtain⟨h1,h2,h3⟩:=h
  unfold putAt
  by_cases e:p.1=k
  ·rw [if_pos e,if_pos (h1.symm.trans e)]; exact⟨h1,h2,ry⟩
  ·rw [if_neg e,if_neg (fun z=>e (h1.trans z))]; exact⟨h1,h2,h3⟩
theorem KT.put{H:Hp}{bp:List (List Key×V)}{xs:List (List Key×Addr×Value)}(r:KT H bp xs)(k:List Key){b:Addr}{y:V}{u:Value}(hb:H b=some (.tup (k.map kV)))(ry:RelV y u) :
  KT H (putK bp k y) (storedH xs k b u):=by
 have e:(bp.any fun kv=>decide (kv.1=k))=(atKey xs k).isSome:=by
  rw [DU,(r.val k).nT,z8]
 unfold putK storedH
 rw [e]
 by_cases q:(atKey xs k).isSome=true
 ·rw [if_pos q,if_pos q]; exact r.RT k ry
 ·rw [if_neg q,if_neg q]; exact Paired.snoc r ⟨rfl,hb,ry⟩
theorem KT.keeps{H H':Hp}{bp:List (List Key×V)}{xs:List (List Key×Addr×Value)}(r:KT H bp xs)(ht:∀ b ys,H b=some (.tup ys)->H' b=some (.tup ys)):KT H' bp xs :=
 Paired.Si r fun _ _ z=>⟨z.1,ht _ _ z.2.1,z.2.2⟩
section
variable {P:bP} {w:World} {H:Hp} {h:Heap} {a:Addr}
theorem QS{u:HO}(ok:pT P w H h)(e:Rd H a u):gu P w H h a u:=e.ok ok
theorem xi{bp:List (Key×V)}(ok:pT P w H h)(e:Rd H a (.dK bp)):bp.length<=bc/\(a == eU)=false/\∃ vs,KV bp vs/\h.DictOf (cy P w) a vs :=
 show gu P w H h a (.dK bp) from QS ok e
theorem Ob{bp:List (Key×V)}(ok:pT P w H h)(e:H a=some (.dK bp)):bp.length<=bc/\(a == eU)=false/\∃ vs,KV bp vs/\h.DictOf (cy P w) a vs:=xi ok (.inl e)
theorem tK{ks:List Key}(ok:pT P w H h)(e:H a=some (.tup (ks.map kV))):(dH (cy P w)).is h ks a:=by
 obtain⟨_,bB,r,o,h1,h2,n,h3⟩:=(show gu P w H h a (.tup (ks.map kV)) from ok a _ e)
 exact⟨o,bB.toArray,n,h1,h2,h3,by simpa using Bk r⟩
theorem zB{bp:List (List Key×V)}(ok:pT P w H h)(e:Rd H a (.dT bp)):bp.length<=bc/\(a == eU)=false /\
  ∃ xs,KT H bp xs/\h.DictOfH (dH (cy P w)) a xs:=by
 obtain⟨z,y,xs,r,o,es,ep,h1,h2,h3,h4,h5⟩:=(show gu P w H h a (.dT bp) from QS ok e)
 refine⟨z,y,xs,r,o,es,ep,h1,h2,h3,h4,fun x hx=>?_,h5⟩
 have all:∀ {l:List (List Key×V)} {m:List (List Key×Addr×Value)},KT H l m->∀ x∈m,(dH (cy P w)).is h x.1 x.2.1:=by
  intro l m q
  induction q with
  | nil=>intro x hx; exact nomatch hx
  | @cons p q ps qs hq t ih =>
   intro x hx
   rcases List.mem_cons.mp hx with e | hx
   ·subst e
    exact tK ok (by rw [← hq.1]; exact hq.2.1)
   ·exact ih x hx
 exact all r x hx
theorem Rc{bp:List (List Key×V)}(ok:pT P w H h)(e:H a=some (.dT bp)):bp.length<=bc/\(a == eU)=false /\
  ∃ xs,KT H bp xs/\h.DictOfH (dH (cy P w)) a xs:=zB ok (.inl e)
end
noncomputable def zX(H:Hp)(a:Addr)(y:V)(r:Option V):Prop :=
 (∃ bp k,Rd H a (.dK bp)/\y=kV k/\r=lu bp k)\/∃ bp k b,Rd H a (.dT bp)/\y=.ref b/\H b=some (.tup (k.map kV))/\r=lu bp k
noncomputable def Lo(H:Hp)(a:Addr)(y v:V)(H':Hp):Prop :=
 (∃ bp k,H a=some (.dK bp)/\y=kV k/\bp.length < bc/\H'=upd H a (.dK (putK bp k v))) \/
 ∃ bp k b,H a=some (.dT bp)/\y=.ref b/\H b=some (.tup (k.map kV))/\bp.length < bc/\H'=upd H a (.dT (putK bp k v))
theorem zX.k{H:Hp}{a:Addr}{bp:List (Key×V)}{k:Key}(e:H a=some (.dK bp)):zX H a (kV k) (lu bp k):=.inl ⟨bp,k,.inl e,rfl,rfl⟩
theorem zX.t{H:Hp}{a b:Addr}{bp:List (List Key×V)}{k:List Key}(e:H a=some (.dT bp))(eb:H b=some (.tup (k.map kV))):zX H a (.ref b) (lu bp k):=.inr ⟨bp,k,b,.inl e,rfl,eb,rfl⟩
theorem Lo.k{H:Hp}{a:Addr}{bp:List (Key×V)}{k:Key}{v:V}(e:H a=some (.dK bp))(hl:bp.length < bc):Lo H a (kV k) v (upd H a (.dK (putK bp k v))):=.inl ⟨bp,k,e,rfl,hl,rfl⟩
theorem Lo.t{H:Hp}{a b:Addr}{bp:List (List Key×V)}{k:List Key}{v:V}(e:H a=some (.dT bp))(eb:H b=some (.tup (k.map kV)))(hl:bp.length < bc) :
  Lo H a (.ref b) v (upd H a (.dT (putK bp k v))):=.inr ⟨bp,k,b,e,rfl,eb,hl,rfl⟩
section
variable {X:Cx} {pins:List (Addr×Obj)} {σ:St} {H:Hp} {s:aq} {a:Addr} {y v:V} {u r:Value} {o:Option V} {A:dh} {E:Value->aq->Prop}
theorem Inv.big(I:Inv X pins σ H s):eU < s.heap.objs.size:=by
 have h:aN < s.heap.objs.size:=(I.mod.glob.keeps I.bk).lt
 exact Pc (by decide) h
theorem wF{Q:Value->aq->Prop}(hu:A.units+1 < cLine)(I:Inv X pins σ H s)(g:zX H a y (some v))(ry:RelV y u)(h:∀ w' s',Inv X pins σ H s'->RelV v w'->Q w' s') :
  wpAny (model X.prog X.w) A (getItem (.ref a) u) Q E s:=by
 rcases g with ⟨bp,k,e,ey,l⟩ | ⟨bp,k,b,e,ey,eb,l⟩
 ·subst ey
  obtain⟨z,hd,vs,rel,dd⟩:=xi I.cM e
  obtain⟨w',hw,tD⟩:=AJ.some_of (v:=v) (o:=LQ vs k) (by rw [l]; exact rel.val k)
  exact wpAny_getItem_of (EW ry) dd.mapOf hw (h w' _ (I.tok _) tD)
 ·subst ey
  cases (show u=dv b from ry)
  obtain⟨z,hd,xs,rel,dd⟩:=zB I.cM e
  obtain⟨w',hw,tD⟩:=AJ.some_of (v:=v) (o:=(atKey xs k).map (·.2)) (by rw [l]; exact rel.val k)
  obtain⟨p,hp,Wx⟩:=Option.map_eq_some_iff.mp hw
  refine wpAny_getItem_heap (sF hu) (tK I.cM eb) dd hp ?_
  rw [Wx]
  exact h w' _ (I.tok _) tD
theorem Vq{Q:Value->aq->Prop}(hu:A.units+1 < cLine)(I:Inv X pins σ H s)(g:zX H a y o)(ry:RelV y u)(h:∀ s',Inv X pins σ H s'->Q (.bool o.isSome) s') :
  wpAny (model X.prog X.w) A (gm .In u (.ref a)) Q E s:=by
 rcases g with ⟨bp,k,e,ey,l⟩ | ⟨bp,k,b,e,ey,eb,l⟩
 ·subst ey
  obtain⟨z,hd,vs,rel,dd⟩:=xi I.cM e
  refine wpAny_in_of (EW ry) hd dd.mapOf ?_
  rw [← (rel.val k).nT,← l]
  exact h _ (I.tok _)
 ·subst ey
  cases (show u=dv b from ry)
  obtain⟨z,hd,xs,rel,dd⟩:=zB I.cM e
  refine wpAny_in_heap (sF hu) (tK I.cM eb) hd dd ?_
  have q:=(rel.val k).nT
  rw [z8] at q
  rw [← q,← l]
  exact h _ (I.tok _)
theorem JK{Q:Value->aq->Prop}(hu:A.units+1 < cLine)(I:Inv X pins σ H s)(g:zX H a y o)(ry:RelV y u)(h:∀ s',Inv X pins σ H s'->Q (.bool (!o.isSome)) s') :
  wpAny (model X.prog X.w) A (gm .NotIn u (.ref a)) Q E s:=by
 rcases g with ⟨bp,k,e,ey,l⟩ | ⟨bp,k,b,e,ey,eb,l⟩
 ·subst ey
  obtain⟨z,hd,vs,rel,dd⟩:=xi I.cM e
  refine wpAny_notIn_of (EW ry) hd dd.mapOf ?_
  rw [← (rel.val k).nT,← l]
  exact h _ (I.tok _)
 ·subst ey
  cases (show u=dv b from ry)
  obtain⟨z,hd,xs,rel,dd⟩:=zB I.cM e
  refine wpAny_notIn_heap (sF hu) (tK I.cM eb) hd dd ?_
  have q:=(rel.val k).nT
  rw [z8] at q
  rw [← q,← l]
  exact h _ (I.tok _)
theorem C0{h':Heap}{t':Nat}{ob:HO}(I:Inv X pins σ H s)(mu:VW (H a))(hs:fK a s.heap h')(he:∃ q,h'.get? a=some q)(new:gu X.prog X.w (upd H a ob) h' a ob) :
  Inv X pins σ (upd H a ob) { s with heap:=h',toks:=t' } :=
 I.write (x:=a) (e:=a) mu (.inl rfl) (fun b q hb z=>(hs.2 b hb).trans z) he new
theorem SY{P:bP}{w:World}{H':Hp}{h':Heap}{bp:List (Key×V)}{vs:List (Key×Value)}(z:bp.length<=bc)(hd:(a == eU)=false)(rel:KV bp vs)(dd:h'.DictOf (cy P w) a vs) :
  gu P w H' h' a (.dK bp):=⟨z,hd,vs,rel,dd⟩
theorem Lc{H':Hp}{Q:Unit->aq->Prop}(hu:A.units+1 < cLine)(I:Inv X pins σ H s)(g:Lo H a y v H')(ry:RelV y u)(rv:RelV v r)(h:∀ s',Inv X pins σ H' s'->Q () s') :
  wpAny (model X.prog X.w) A (setItem (.ref a) u r) Q E s:=by
 rcases g with ⟨bp,k,e,ey,l,eH⟩ | ⟨bp,k,b,e,ey,eb,l,eH⟩
 ·subst ey eH
  obtain⟨z,hd,vs,rel,dd⟩:=Ob I.cM e
  have hz:vs.length<=bc:=by rw [← rel.length]; exact z
  have hl:(putK bp k v).length<=bc:=by have:=xc bp k v; lia
  refine wpAny_setItem_pairs (hsz:=hz) (EW ry) dd fun h' S1 hs=>h _ ?_
  have he:∃ q,h'.get? a=some q:=let ⟨q,_,_,hq,_⟩:=S1; ⟨q,hq⟩
  exact C0 I (by rw [e]; exact nG) hs he (SY hl hd (rel.put k rv) S1)
 ·subst ey eH
  cases (show u=dv b from ry)
  obtain⟨z,hd,xs,rel,dd⟩:=Rc I.cM e
  have hz:xs.length<=bc:=by rw [← g7 rel]; exact z
  have hl:(putK bp k v).length<=bc:=by have:=xc bp k v; lia
  refine wpAny_setItem_heap (hsz:=hz) (sF hu) (tK I.cM eb) dd fun h' S1 hs=>h _ ?_
  obtain⟨q,es,ep,hq,h2,h3,h4,_,h5⟩:=S1
  refine C0 I (by rw [e]; exact nG) hs ⟨q,hq⟩ ⟨hl,hd,_,(rel.put k eb rv).keeps fun c ys ec=>?_,q,es,ep,hq,h2,h3,h4,h5⟩
  rw [bU (Uw ec e (fun z=>nomatch z))]
  exact ec
end
section
variable {X:Cx} {pins:List (Addr×Obj)} {σ:St} {H:Hp} {s:aq} {a:Addr} {bp:List (Key×V)} {k:Key} {u:Value} {A:dh} {E:Value->aq->Prop}
theorem Rf {Q:Value->aq->Prop} (I:Inv X pins σ H s) (e:Rd H a (.dK bp)) (h:∀ t s',Inv X pins σ H s'->Q (.int bp.length t) s'):wpAny (model X.prog X.w) A (call (.builtin "len") [.ref a]) Q E s:=by
 obtain⟨z,hd,vs,rel,dd⟩:=xi I.cM e
 refine call_len_dict hd dd (by rw [← rel.length]; rw [cb] at z; lia) ?_
 rw [← rel.length]
 exact h _ _ (I.tok _)
theorem Qx{Q:Bool->aq->Prop}(I:Inv X pins σ H s)(e:Rd H a (.dK bp))(h:∀ s',Inv X pins σ H s'->Q (!bp.isEmpty) s'):wpAny (model X.prog X.w) A (truthy (.ref a)) Q E s:=by
 obtain⟨z,hd,vs,rel,dd⟩:=xi I.cM e
 refine Gr hd dd (by rw [← rel.length]; rw [cb] at z; lia) ?_
 have q:bp.isEmpty=vs.isEmpty:=by cases rel <;> rfl
 rw [← q]
 exact h _ (I.tok _)
end
theorem rq {X:Cx} {pins:List (Addr×Obj)} {σ:St} {H:Hp} {s:aq} {a:Addr} {y:V} {o:Option V} (I:Inv X pins σ H s) (g:zX H a y o):s.TypeIs (.ref a) "dict":=by
 rcases g with ⟨bp,k,e,_,_⟩ | ⟨bp,k,b,e,_,_,_⟩
 ·obtain⟨_,_,vs,_,dd⟩:=xi I.cM e
  exact dd.typeIs
 ·obtain⟨_,_,xs,_,dd⟩:=zB I.cM e
  exact dd.typeIs
theorem Oc {P:bP} {w:World} {H:Hp} (h:Heap) (hb:eU < h.objs.size):gu P w H (h.push { cls:=.type "dict",data:=.dict #[] }) h.objs.size (.dK []) :=
 ⟨cD _,beq_eq_false_iff_ne.mpr (fu (bL hb)),[],.nil,Heap.DictOf.new h⟩
noncomputable def RE:TE:=fun _ H Q=>∀ p,H p=none->Q (.ref p) (upd H p (.dK []))
section
variable {X:Cx} {pos:Pos}
theorem MX:PE X (.Dict [] [] pos) RE:=fun pins s σ H Q I h =>
 wpAny_Dict_empty ⟨.ref s.heap.objs.size,_,I.laid (a:=s.heap.objs.size) (o:=.dK []) (t':=s.toks) (fun _ _ q=>aI _ q) (aF _) (Oc s.heap I.big),rfl,h _ (I.cM.fresh (aF _))⟩
end
structure M1(X:Cx)(o:Expr)(m:Str)(apos:Pos)(e:Expr)(iQ:Pos):Prop where
 base:DM o m X.env (eval o X.env)=eval o X.env
 lY:((iV iQ (bK [e] X.env)).all (fun x=>!x.1)&&(backToKw iQ (keywordEach [] X.env)).all (fun x=>x.1.isSome)
  && decide (([e]:List Expr).length+([]:List L8).length+(if ([]:List L8).isEmpty then 0 else 1) < 30))=true
 line:(apos.endLine == iQ.line)=true
 trees:iV iQ (bK [e] X.env)=[(false,eval e X.env)]
structure M2(X:Cx)(o:Expr)(m:Str)(apos:Pos)(e f:Expr)(iQ:Pos):Prop where
 base:DM o m X.env (eval o X.env)=eval o X.env
 lY:((iV iQ (bK [e,f] X.env)).all (fun x=>!x.1)&&(backToKw iQ (keywordEach [] X.env)).all (fun x=>x.1.isSome)
  && decide (([e,f]:List Expr).length+([]:List L8).length+(if ([]:List L8).isEmpty then 0 else 1) < 30))=true
 line:(apos.endLine == iQ.line)=true
 trees:iV iQ (bK [e,f] X.env)=[(false,eval e X.env),(false,eval f X.env)]
noncomputable def IsD(H:Hp)(a:Addr):Prop:=(∃ bp,Rd H a (.dK bp))\/∃ bp,Rd H a (.dT bp)
theorem Nv{X:Cx}{pins:List (Addr×Obj)}{σ:St}{H:Hp}{s:aq}{a:Addr}(I:Inv X pins σ H s)(d:IsD H a) :
  s.TypeIs (.ref a) "dict"/\(∀ b,dv a=.ref b->∃ ob,s.heap.get? b=some ob/\ob.dict=none)/\(a == eU)=false:=by
 rcases d with ⟨bp,e⟩ | ⟨bp,e⟩
 ·obtain⟨_,hd,vs,_,dd⟩:=xi I.cM e
  refine⟨dd.typeIs,fun b q=>?_,hd⟩
  cases q
  obtain⟨ob,_,_,h1,h2,_⟩:=dd
  exact⟨ob,h1,h2.2.1⟩
 ·obtain⟨_,hd,xs,_,dd⟩:=zB I.cM e
  refine⟨dd.typeIs,fun b q=>?_,hd⟩
  cases q
  obtain⟨ob,_,_,h1,h2,_⟩:=dd
  exact⟨ob,h1,h2.2.1⟩
end L2
namespace Att
open PySem PySem.W PySem.Calls PyProof.Rows
theorem xJ{P:Params}{h:Heap}:∀ (ns:List Int) (vs:List Value),WellAll P h vs (ns.map WData.int)->om vs ns:=by
 intro ns
 induction ns with
 | nil =>
  intro vs w
  rw [bh] at w
  cases w
  exact .nil
 | cons n ns ih =>
  intro vs w
  rw [ax] at w
  cases w with
  | cons a b =>
   cases a
   exact .cons _ _ (ih _ b)
theorem Ks{l:OpenLaw}{n:Nat}(hn:l.most=some n){P:Params}{h:Heap}{args:List WData}{vals:List Value}
  (HN:l.row.toRowW.claim.pre args=true) (Z1:WellAll P h vals args) :
  ∃ a vs ns,vals=[dv a]/\args=[WData.list (ns.map WData.int)]/\h.get? a=some { cls:=.type "list",data:=.seq vs.toArray }/\om vs ns/\ns.length<=n:=by
 have hsh:WShape.hasAll [] args [.list .int]=true:=(pre_splitW HN).1
 have hc:l.pre.holds [] { args:=args } = true:=(pre_splitW HN).2
 obtain⟨d,r,rfl,h1,h2⟩:=hasAllW_cons hsh
 obtain rfl:=hasAllW_nil h2
 obtain⟨xs,rfl,h3⟩:=hasW_list h1
 obtain⟨ns,rfl⟩:=items_int h3
 have hlen:ns.length<=n:=by
  unfold OpenLaw.pre at hc
  have h4:(WTm.not (.lt (.lit (.int (n:Int))) (.len (.arg 0)))).holds [] { args:=[.list (ns.map .int)] } = true:=by
   have h4:=(holds_andW hc).1
   rw [hn] at h4
   exact h4
  have h5:=condW_of h4 (w_not (w_lt w_lit (w_len_list (w_arg rfl))))
  rw [aj] at h5
  refine Nat.le_of_not_lt fun q=>?_
  have q':(n:Int) < ((ns.length:Nat):Int):=by lia
  first
   | (rw [decide_eq_true q'] at h5; exact absurd h5 (by decide))
   | (simp at h5; lia)
 cases Z1 with
 | cons w1 w2 =>
  cases w2
  cases w1 with
  | list ho qY=>exact⟨_,_,ns,rfl,rfl,ho,xJ ns _ qY,hlen⟩
theorem KC(l:OpenLaw)(args:List WData):l.row.toRowW.claim.post args (.bool true) args=true :=
 postW_of (r:=l.row.toRowW) (X:=(true == true))
  (show WShape.has [] (.bool true) .bool=true by first | rfl | decide | simp [WShape.has,WShape.arms,WShape.armsAll])
  (show (WTm.eq .res (.lit (.bool true))).value [] { args:=args,res:=some (.bool true),after:=args } = some (.bool (true == true)) from w_eq_bool (w_res rfl) w_lit) rfl
theorem FH{l:OpenLaw}{n:Nat}{q:bP}{loose:List Str}{XP:(Str->Option Value)->Heap->Prop}{YP:World->Heap->Prop}{d:DefRec}
  (hn:l.most=some n) (U6:d.params.defaults=[])
  (call:∀ (w:World) (ic eO:aq) (mg mb:Str->Option Value) (fa:Addr) (o:Obj) (pm cd doc:Value) (a:Addr) (vs:List Value) (ns:List Int),
   Ground q loose [] XP w ic mg mb eO.heap->YP w eO.heap ->
   eO.heap.get? fa=some o->o.data=.func (docDef d.name d.params d.body d.scope pm cd doc)->eO.heap.CodeRec cd d.name->mg d.name=some (.ref fa) ->
   eO.heap.get? a=some { cls:=.type "list",data:=.seq vs.toArray }->om vs ns->ns.length<=n->eO.gens=#[] ->
   vJ (model l.prog w) Gz (.call (.ref fa) ⟨[.ref a],[]⟩) (fun r s'=>r=.ok (.ret (.bool true))/\OldK eO.heap s'.heap/\s'.os=eO.os/\yp s'.gens) eO) :
  WalkO q loose XP YP l.row.toRowW d [] (fun f vs=>PySem.call f vs):=by
 intro w ic eO mg mb G Y fa o pm cd doc dV kV ho hd E9 hD UU hg args vals as HN agV hrd Z1 hlo
 obtain rfl:dV=.none:=Dflts.none hD U6
 obtain rfl:kV=.none:=Dflts.noKw hD
 obtain⟨a,vs,ns,rfl,rfl,SH,hints,hlen⟩:=Ks hn HN Z1
 refine enter_call (nF (call w ic eO mg mb fa o pm cd doc a vs ns G Y ho (fd_plain hd) E9 UU SH hints hlen hg) fun r s' hq=>?_)
 obtain⟨rfl,h2,h3,h4⟩:=hq
 exact⟨.inl ⟨.bool true,.bool true,[],rfl,fun _=>rfl,.bool true,KC l _,fun _=>⟨List.Pairwise.nil,fun _ hm=>(nomatch hm)⟩⟩,h2,h3,h4⟩
end Att
namespace L2
open PySem PySem.Spec PyProof.Rows
theorem AV:∀ {vs:List Value} {ns:List Int},om vs ns->Vals (ns.map V.int) vs
 | _,_,.nil=>.nil
 | _,_,.cons n t h=>.cons ⟨t,rfl⟩ (AV h)
noncomputable def QH(H:Hp):Prop:=∀ b,H b=none\/∃ o xs,H b=some (.kQ o (.lst xs))
theorem Nk{P:bP}{w:World}{K:ag}{mg mb:Str->Option Value}{CX:LO}{k:Nat}{fa a:Addr}{fd:aW}{x:Str}{sp:Sp}{eO:aq}{vs:List Value}{ns:List Int}
  (KX:K.In eO.heap) (HQ:eO.heap.Ns aN mg) (hb:eO.heap.Ns builtinsNs mb) (hbb:∀ x:Str,x≠"__name__"->mb x=fy x) (aal:eO.heap.NoLimit) (hg:eO.gens=#[])
  (ha:eO.heap.get? a=some { cls:=.type "list",data:=.seq vs.toArray }) (hi:om vs ns) (hl:ns.length<=bc) (hr:jT k Gz)
  (F:∀ base:Heap,K.In base->base.Ns aN mg->dc P w K mg base CX k fa fd [x] sp) (U8:∀ (s:aq) (u:Value),L9 s fd ⟨[u],[]⟩ [(x,u)])
  (ND:∀ H:Hp,QH H->pM K H a (ns.map V.int)->sp [.ref a] H (fun v _=>v=.bl true) fun _ _ _=>False)
  (hCX:∀ H e s',CX [] H eO (fun _ _ _=>False) e s'->False) :
  vJ (model P w) Gz (.call (.ref fa) ⟨[.ref a],[]⟩) (fun r s'=>r=.ok (.ret (.bool true))/\OldK eO.heap s'.heap/\s'.os=eO.os/\yp s'.gens) eO:=by
 have rv:=AV hi
 have Zb:=hi.length
 have core:∀ H:Hp,QH H->pM K H a (ns.map V.int)->pT P w H eO.heap->(∀ b,H b≠none->b=a)->(H a≠none->K.lookup a=none) ->
   vJ (model P w) Gz (.call (.ref fa) ⟨[.ref a],[]⟩) (fun r s'=>r=.ok (.ret (.bool true))/\OldK eO.heap s'.heap/\s'.os=eO.os/\yp s'.gens) eO:=by
  intro H hO hS cM hA hK
  have JW:∀ {b:Addr} {o:Obj},eO.heap.get? b=some o->H b=none->(CL eO.heap H).get? b=some o:=fun e n=>NQ e n
  have Uv:∀ {b:Addr} {o:Obj} {es:Array jB} {ep:Nat},eO.heap.get? b=some o->o.data=.dict es ep->H b=none:=fun {b o es ep} e d=>by
   cases q:H b with
   | none=>rfl
   | some u =>
    have e':b=a:=hA b (by rw [q]; simp)
    subst e'
    rw [ha] at e; cases e
    have d':Data.seq vs.toArray _=Data.dict es ep:=d
    cases d'
  have V8:∀ {b:Addr} {m:Str->Option Value},eO.heap.Ns b m->(CL eO.heap H).Ns b m:=fun {b m} ⟨o,es,ep,e,d,r⟩=>⟨o,es,ep,JW e (Uv e d),d,r⟩
  have hKb:K.In (CL eO.heap H):=fun b o e=>JW (KX b o e) (by
   cases q:H b with
   | none=>rfl
   | some u =>
    have e':b=a:=hA b (by rw [q]; simp)
    subst e'
    rw [hK (by rw [q]; simp)] at e; cases e)
  have hM:Mod K mg (CL eO.heap H):=⟨hKb,V8 HQ,⟨mb,V8 hb,hbb⟩,let ⟨mc,h1,h2⟩:=aal; ⟨mc,V8 h1,h2⟩⟩
  have e0:OH P w K mg (CL eO.heap H) Gz [] eO H:=⟨rfl,hM,fun b o e=>Qa e,Nat.le_of_eq (K1 _ _),trivial,fun b hb=>absurd (show b∈([]:List Addr) from hb) (by simp),cM,.of_eq hg⟩
  refine nF ((F _ hKb (V8 HQ)).run Gz [] eO H ⟨[.ref a],[]⟩ [.ref a] [.ref a] _ _ hr e0 (U8 eO (.ref a)) (.cons rfl .nil) (ND H hO hS)) fun r s' h=>?_
  cases r with
  | error e=>exact(hCX H e s' h).elim
  | ok fl =>
   cases fl with
   | next=>exact bQ h
   | brk=>exact bQ h
   | cont=>exact bQ h
   | ret u =>
    obtain⟨v,H',os,bare,un,HP,r',q⟩:=h
    have q':v=.bl true:=q
    subst q'
    obtain rfl:u=Am true:=r'
    refine⟨rfl,OldK.of_keep fun b o e=>?_,os,bare⟩
    cases q:H b with
    | none=>exact un.keep b o e q (by intro z; exact absurd (show b∈([]:List Addr) from z) (by simp)) (by simp)
    | some u =>
     rcases hO b with z | ⟨ob,xs,z⟩
     ·rw [q] at z; cases z
     ·have z2:=un.sC b ob _ z
      obtain⟨e1,_⟩:=cM b _ z
      obtain⟨e2,_⟩:=HP b _ z2
      rw [e] at e1; cases e1
      exact e2
 cases hk:K.lookup a with
 | some o =>
  have e:=KX a o hk
  rw [ha] at e
  cases e
  refine core (fun _=>none) (fun _=>.inl rfl) (.inr ⟨_,vs.toArray,_,hk,rfl,rfl,rfl,by rw [aP,Zb]; exact hl,by simpa using rv⟩) (fun b u z=>by have z':(none:Option HO)=some u:=z; cases z') (fun b z=>absurd rfl z) fun z=>absurd rfl z
 | none =>
  refine core (fun b=>if b=a then some (.kQ { cls:=.type "list",data:=.seq vs.toArray } (.lst (ns.map V.int))) else none) (fun b=>?_) (.inl (.inr ⟨{ cls:=.type "list",data:=.seq vs.toArray },if_pos rfl⟩)) (fun b u z=>?_) (fun b z=>?_) fun _=>hk
  ·by_cases hb:b=a
   ·exact .inr ⟨_,_,if_pos hb⟩
   ·exact .inl (if_neg hb)
  ·by_cases hb:b=a
   ·have z':=(if_pos hb).symm.trans z
    cases z'
    subst hb
    exact⟨ha,by rw [aj]; exact hl,vs,_,rv,ha⟩
   ·have z':=(if_neg hb).symm.trans z
    cases z'
  ·by_cases hb:b=a
   ·exact hb
   ·exact absurd (if_neg hb) z
theorem Ph{l:BL}{n k:Nat}{q:bP}{loose:List Str}{XP:(Str->Option Value)->Heap->Prop}{YP:World->Heap->Prop}{d:DefRec}{K:Params->ag}{CX:World->LO}{sp:World->Sp}{x:Str}
  (hn:l.most=some n) (hn2:n<=bc) (U6:d.params.defaults=[]) (hr:jT k Gz)
  (hY:∀ (w:World) (h:Heap),YP w h->(K w.params).In h)
  (F:∀ (w:World) (mg:Str->Option Value) (fa:Addr) (h:Heap),(K w.params).In h->h.Ns aN mg->mg d.name=some (.ref fa) ->
   ∃ fd:aW,(∀ (s:aq) (u:Value),L9 s fd ⟨[u],[]⟩ [(x,u)]) /\
    ∀ base:Heap,(K w.params).In base->base.Ns aN mg->dc l.prog w (K w.params) mg base (CX w) k fa fd [x] (sp w))
  (ND:∀ (w:World) (H:Hp) (a:Addr) (ns:List Int),ns.length<=n->QH H->pM (K w.params) H a (ns.map V.int)->sp w [.ref a] H (fun v _=>v=.bl true) fun _ _ _=>False)
  (hCX:∀ (w:World) (H:Hp) (s:aq) (e:Value) (s':aq),CX w [] H s (fun _ _ _=>False) e s'->False) :
  PySem.W.WalkO q loose XP YP l.row.toRowW d [] (fun f vs=>PySem.call f vs):=by
 refine Att.FH hn U6 fun w ic eO mg mb fa o pm cd doc a vs ns G Y ho hd E9 UU SH hints hlen hg=>?_
 have KX:=hY w _ Y
 obtain⟨fd,hb,hF⟩:=F w mg fa _ KX G.T.g UU
 exact Nk KX G.T.g G.T.b G.T.builtins G.T.nolimit hg SH hints (cv hlen hn2) hr hF hb (fun H hO hS=>ND w H a ns hlen hO hS) fun H e s'=>hCX w H eO e s'
end L2
/- THE aiL WQ (shape; LID,My.* are acU):
   My.Adr: a structure of W2 addresses aeX aeP adt names (classes,Tx); My.Txt K t: a structure (Prop) of W2 equations over K;
   My.W0:{K} {implicit addresses ..} (e1:nsIn K aN "law" = some (some (.ref f))) (e2:K.lookup f=some ⟨oc,od,.func (fnOf "law" "law" params body scope dV kV doc pm an nC ct),sl⟩) (e3:codeIn K nC "law" = true) ..:∃ t,My.Txt K t
(W2 tactic k_is has no namespace: write k_is) -/
namespace L2
open PySem PySem.Spec PyProof.Rows
noncomputable def cU(s:Stmt):Arguments:=match s with
 | .FunctionDef _ a _ _ _ _ _ _ _ _=>a
 | _=>{ posonlyargs:=[],args:=[],vararg:=none,kwonlyargs:=[],kw_defaults:=[],kwarg:=none,defaults:=[] }
noncomputable def cC(s:Stmt):List Stmt:=match s with
 | .FunctionDef _ _ b _ _ _ _ _ _ _=>b
 | _=>[]
noncomputable def aG(s:Stmt):Scope:=match s with
 | .FunctionDef _ _ _ _ _ _ sc _ _ _=>sc
 | _=>{ kind:=.function,names:=[],isGenerator:=false,isCoroutine:=false }
noncomputable abbrev jf:LO:=fun _ _ _ _ _ _=>False
noncomputable abbrev E0:XK:=fun _ _ _=>False
theorem Ui{X:Cx}:Passes jf X E0:=fun _ _ _ _ _ _ _ h=>h.elim
structure pU(K:ag)(x qual:Str)(st:Stmt)(f:Addr)(fd:aW):Prop where
 ex:∃ (oc:Value) (od:Option Addr) (kV doc pm:Value) (an:Option Addr) (nC ct:Value) (P4:Array (Option Value)),
  fd=bE x qual (cU st) (cC st) (aG st) .none kV doc pm an nC ct/\K.lookup f=some ⟨oc,od,.func fd,P4⟩/\bx K nC qual=true
 kp:ar K (.ref f)=true
section
variable {P:bP} {w:World} {K:ag} {mg:Str->Option Value} {base:Heap}
theorem pU.ok{x qual:Str}{st:Stmt}{f:Addr}{fd:aW}{N ps:List Str}{k:Nat}{sp:Sp}(F:pU K x qual st f fd)(S:cN N ps (aG st))(len:∀ vs H Q E,sp vs H Q E->vs.length=ps.length)
  (NT:∀ (nC:Value) (A:dh) (outer:List Env) (s:aq) (H:Hp) (vs:List V) (Q:VK) (E:XK),jT k (A.deeper (yj qual (aG st) s.heap.objs.size f nC))->sp vs H Q E ->
   ∃ t,TG (wI jf P w K mg base N qual (aG st) f nC A outer s H E).To (cC st) t/\t { nx:=fun _ H'=>Q .cY H',rt:=Q } (start N vs) H):dc P w K mg base jf (k+1) f fd ps sp:=by
 obtain⟨oc,od,kV,doc,pm,an,nC,ct,P4,rfl,lk,E9⟩:=F.ex
 refine Rb lk E9 S len fun A outer s H vs Q E hr ND=>?_
 obtain⟨t,h,q⟩:=NT nC A outer s H vs Q E hr ND
 exact⟨t,h.To,q⟩
theorem pU.binds{x qual:Str}{st:Stmt}{f:Addr}{fd:aW}{ps:List Str}(F:pU K x qual st f fd)
  (h:∀ (kV doc pm:Value) (an:Option Addr) (nC ct:Value) (us:List Value),us.length=ps.length->bindArgs (bE x qual (cU st) (cC st) (aG st) .none kV doc pm an nC ct) ⟨us,[]⟩=pure (ps.zip us)):Binds K fd ps []:=by
 obtain⟨oc,od,kV,doc,pm,an,nC,ct,P4,rfl,lk,E9⟩:=F.ex
 exact .all (h kV doc pm an nC ct)
theorem eD{x qual:Str}{st:Stmt}{f:Addr}{oc:Value}{od an:Option Addr}{P4:Array (Option Value)}{kV doc pm nC ct:Value}(l:K.lookup f=some ⟨oc,od,.func (bE x qual (cU st) (cC st) (aG st) .none kV doc pm an nC ct),P4⟩)
  (c:bx K nC qual=true) (k:ar K (.ref f)=true):pU K x qual st f (bE x qual (cU st) (cC st) (aG st) .none kV doc pm an nC ct):=⟨⟨oc,od,kV,doc,pm,an,nC,ct,P4,rfl,l,c⟩,k⟩
end
end L2
set_option autoImplicit false
section
namespace K2
open PySem (Str)
inductive D where
 | cY | bl (b:Bool) | int (i:Int) | str (x:Str) | tup (ds:List D) | d0 (ds:List D) | pC (bp:List (D×D)) | ref (a:Nat) | exc (c:Str)
 deriving Inhabited
inductive GO where
 | lst (ds:List D)
 | jn (bp:List (D×D))
noncomputable abbrev Gp:=Nat->Option GO
noncomputable def fN(G:Gp)(a:Nat)(o:GO):Gp:=fun b=>if b=a then some o else G b
theorem bz{G:Gp}{a:Nat}{o:GO}:fN G a o a=some o:=by unfold fN; rw [if_pos rfl]
theorem eY{G:Gp}{a b:Nat}{o:GO}(h:b≠a):fN G a o b=G b:=by unfold fN; rw [if_neg h]
noncomputable abbrev SZ:Nat:=16777216
structure Ex where
 cls:Str
 ahH:List (Str×D)
noncomputable abbrev kc:=Ex->Gp->Prop
noncomputable abbrev gY:=List (Option D)
noncomputable abbrev DK:=D->Gp->Prop
noncomputable abbrev fW:=kc->gY->Gp->DK->Prop
noncomputable abbrev zS:=kc->gY->Gp->(Bool->Gp->Prop)->Prop
noncomputable abbrev Ah:=kc->gY->Gp->(List D->Gp->Prop)->Prop
structure jW where
 nx:gY->Gp->Prop
 rt:DK
 bk:gY->Gp->Prop
 ct:gY->Gp->Prop
noncomputable abbrev iz:=kc->jW->gY->Gp->Prop
noncomputable abbrev mz:=List D->Gp->DK->kc->Prop
noncomputable abbrev DG:=D->D->Gp->DK->Prop
noncomputable def EY(n:Nat)(i:Int):Option Nat:=if 0<=i then (if i < n then some i.toNat else none) else if -(n:Int)<=i then some (i+n).toNat else none
noncomputable def rK{α:Type}(xs:List α)(i:Int):Option α:=(EY xs.length i).bind fun j=>xs[j]?
noncomputable def jj(n d:Nat):Option Int->Nat
 | none=>d
 | some v=>if v < 0 then (v+(n:Int)).toNat else min v.toNat n
noncomputable def cut{α:Type}(xs:List α)(lo hi:Option Int):List α:=(xs.drop (jj xs.length 0 lo)).take (jj xs.length xs.length hi - jj xs.length 0 lo)
mutual
noncomputable def iy:D->D->Bool
 | .cY,.cY=>true
 | .bl a,.bl b=>a == b
 | .bl a,.int b=>(if a then 1 else 0) == b
 | .int a,.bl b=>a == (if b then 1 else 0)
 | .int a,.int b=>a == b
 | .str a,.str b=>a == b
 | .tup a,.tup b=>kD a b
 | .d0 a,.d0 b=>kD a b
 | _,_=>false
noncomputable def kD:List D->List D->Bool
 | [],[]=>true
 | a :: r,b :: t=>iy a b&&kD r t
 | _,_=>false
end
mutual
noncomputable def nr:D->Bool
 | .ref _=>false
 | .exc _=>false
 | .pC _=>false
 | .str x=>x.cps.all (· < 0x110000)
 | .tup ds=>pF ds
 | .d0 ds=>pF ds
 | _=>true
noncomputable def pF:List D->Bool
 | []=>true
 | d :: r=>nr d&&pF r
end
class inductive Sn (G:Gp):Nat->D->D->Prop
 | cY {n:Nat}:Sn G n .cY .cY
 | bl {n:Nat} (b:Bool):Sn G n (.bl b) (.bl b)
 | int {n:Nat} (i:Int):Sn G n (.int i) (.int i)
 | str {n:Nat} (x:Str) (h:x.cps.all (· < 0x110000)=true):Sn G n (.str x) (.str x)
 | GU {n:Nat}:Sn G (n+1) (.tup []) (.tup [])
 | qm {n:Nat} {d s:D} {ds ss:List D}:Sn G n d s->Sn G (n+1) (.tup ds) (.tup ss)->Sn G (n+1) (.tup (d :: ds)) (.tup (s :: ss))
 | Ca {n:Nat}:Sn G (n+1) (.d0 []) (.d0 [])
 | xb {n:Nat} {d s:D} {ds ss:List D}:Sn G n d s->Sn G (n+1) (.d0 ds) (.d0 ss)->Sn G (n+1) (.d0 (d :: ds)) (.d0 (s :: ss))
 | ref {n:Nat} {a:Nat} {ds ss:List D}:G a=some (.lst ds)->Sn G n (.d0 ds) (.d0 ss)->Sn G n (.ref a) (.d0 ss)
noncomputable abbrev SN:Nat:=8
theorem Sn.nr{G:Gp}{n:Nat}{d t:D}(h:Sn G n d t):K2.nr t=true:=by
 induction h with
 | cY=>rfl
 | bl b=>rfl
 | int i=>rfl
 | str x h=>exact h
 | GU=>rfl
 | qm _ _ Nz Ny =>
  show (K2.nr _&&K2.pF _)=true
  rw [Nz]
  exact Ny
 | Ca=>rfl
 | xb _ _ Nz Ny =>
  show (K2.nr _&&K2.pF _)=true
  rw [Nz]
  exact Ny
 | ref _ _ ih=>exact ih
noncomputable def fc:D->Bool
 | .int _=>true
 | .str _=>true
 | _=>false
noncomputable def Kj:D->Gp->Option Bool
 | .cY,_=>some false
 | .bl b,_=>some b
 | .int i,_=>some (i != 0)
 | .str x,_=>if x.length<=SZ then some ((x.length:Int) != 0) else none
 | .tup ds,_=>some (!ds.isEmpty)
 | .d0 ds,_=>some (!ds.isEmpty)
 | .exc _,_=>none
 | .pC bp,_=>if (bp.all fun p=>fc p.1)=true then some (!bp.isEmpty) else none
 | .ref a,G=>match G a with
  | some (.lst ds)=>some (!ds.isEmpty)
  | some (.jn bp)=>if (bp.all fun p=>fc p.1)=true then some (!bp.isEmpty) else none
  | none=>none
noncomputable def aw(i:Nat):fW:=fun _ τ G Q=>match τ[i]? with
 | some (some d)=>Q d G
 | _=>False
noncomputable def dC(d:D):fW:=fun _ _ G Q=>Q d G
noncomputable def bC:Ah:=fun _ _ G Q=>Q [] G
noncomputable def aA(a:fW)(r:Ah):Ah:=fun E τ G Q=>a E τ G fun x G1=>r E τ G1 fun xs G2=>Q (x :: xs) G2
noncomputable def i5(t:Ah):fW:=fun E τ G Q=>t E τ G fun ds G1=>ds.length<=SZ/\Q (.tup ds) G1
noncomputable def rE(t:Ah):fW:=fun E τ G Q=>t E τ G fun ds G1=>ds.length<=SZ/\∀ p,G1 p=none->Q (.ref p) (fN G1 p (.lst ds))
noncomputable def bA(r:DG)(a b:fW):fW:=fun E τ G Q=>a E τ G fun x G1=>b E τ G1 fun y G2=>r x y G2 Q
noncomputable def JL(r:D->Gp->DK->Prop)(a:fW):fW:=fun E τ G Q=>a E τ G fun x G1=>r x G1 Q
noncomputable def i6(G:Gp)(o:GO)(Q:DK):Prop:=∀ p,G p=none->Q (.ref p) (fN G p o)
noncomputable def MulOk(i j:Int):Prop:=(-(2 ^ 64) < i/\i < 2 ^ 64)\/(-(2 ^ 64) < j/\j < 2 ^ 64)
noncomputable def pH:D->Gp->Option (List D)
 | .d0 ds,_=>some ds
 | .ref a,G=>match G a with
  | some (.lst ds)=>some ds
  | _=>none
 | _,_=>none
noncomputable def Iu(x y:D)(G:Gp)(Q:DK):Prop:=match pH x G,pH y G with
 | some xs,some ys=>xs.length+ys.length<=SZ/\i6 G (.lst (xs++ys)) Q
 | _,_=>False
noncomputable def mF:DG
 | .int i,.int j,G,Q=>Q (.int (i+j)) G
 | .str a,.str b,G,Q=>a.length+b.length<=SZ/\Q (.str (a++b)) G
 | .tup a,.tup b,G,Q=>a≠[]/\a.length+b.length<=SZ/\Q (.tup (a++b)) G
 | x,y,G,Q=>Iu x y G Q
noncomputable def xB:DG
 | .int i,.int j,G,Q=>Q (.int (i - j)) G
 | _,_,_,_=>False
noncomputable def xC:DG
 | .int i,.int j,G,Q=>MulOk i j/\Q (.int (i * j)) G
 | _,_,_,_=>False
noncomputable def lD:DG
 | .int i,.int j,G,Q=>0 < j/\Q (.int (i % j)) G
 | _,_,_,_=>False
noncomputable def yL:DG
 | .int i,.int j,G,Q=>0 < j/\j < 2 ^ 30/\Q (.int (i / j)) G
 | _,_,_,_=>False
noncomputable def PF:D->Gp->DK->Prop
 | .int i,G,Q=>Q (.int (-i)) G
 | _,_,_=>False
noncomputable def xX(neg:Bool):DG:=fun x y G Q=>∃ a b,Sn G SN x a/\Sn G SN y b/\Q (.bl (if neg then !iy a b else iy a b)) G
noncomputable def lexLt:List Int->List Int->Bool
 | [],[]=>false
 | [],_ :: _=>true
 | _ :: _,[]=>false
 | x :: xs,y :: ys=>if x=y then lexLt xs ys else decide (x < y)
noncomputable def XD:DG
 | .int i,.int j,G,Q=>Q (.bl (decide (i < j))) G
 | .tup a,.tup b,G,Q=>∃ xs ys,a=xs.map D.int/\b=ys.map D.int/\Q (.bl (lexLt xs ys)) G
 | _,_,_,_=>False
noncomputable def rLe:DG
 | .int i,.int j,G,Q=>Q (.bl (decide (i<=j))) G
 | _,_,_,_=>False
noncomputable def rGt:DG
 | .int i,.int j,G,Q=>Q (.bl (decide (i > j))) G
 | _,_,_,_=>False
noncomputable def rGe:DG
 | .int i,.int j,G,Q=>Q (.bl (decide (i>=j))) G
 | _,_,_,_=>False
noncomputable def itemsOf:D->Gp->Option (List D)
 | .tup ds,_=>some ds
 | .d0 ds,_=>some ds
 | .ref a,G=>match G a with
  | some (.lst ds)=>some ds
  | _=>none
 | _,_=>none
noncomputable def kX:D->Bool
 | .tup ds=>ds.all fc
 | _=>false
noncomputable def iu(bp:List (D×D))(k:D):Bool:=(fc k&&bp.all fun p=>fc p.1)||(kX k&&bp.all fun p=>kX p.1)
noncomputable def look(bp:List (D×D))(k:D):Option D:=(bp.find? fun p=>iy p.1 k).map (·.2)
noncomputable def put(bp:List (D×D))(k v:D):List (D×D) :=
 if (bp.any fun p=>iy p.1 k)=true then bp.map (fun p=>if iy p.1 k=true then (p.1,v) else p) else bp++[(k,v)]
noncomputable def Ti(neg:Bool):DG:=fun x y G Q=>match y with
 | .ref a=>(match G a with
  | some (.jn bp)=>iu bp x=true/\Q (.bl (if neg then !(look bp x).isSome else (look bp x).isSome)) G
  | some (.lst ds)=>∃ s ss,Sn G SN x s/\Sn G SN (.d0 ds) (.d0 ss)/\Q (.bl (if neg then !ss.any (iy · s) else ss.any (iy · s))) G
  | none=>False)
 | .pC bp=>bp≠[]/\iu bp x=true/\Q (.bl (if neg then !(look bp x).isSome else (look bp x).isSome)) G
 | .tup ds=>∃ s ss,Sn G SN x s/\Sn G SN (.d0 ds) (.d0 ss)/\Q (.bl (if neg then !ss.any (iy · s) else ss.any (iy · s))) G
 | .d0 ds=>∃ s ss,Sn G SN x s/\Sn G SN (.d0 ds) (.d0 ss)/\Q (.bl (if neg then !ss.any (iy · s) else ss.any (iy · s))) G
 | _=>False
noncomputable def lR:DG
 | .tup ds,.int i,G,Q=>(match rK ds i with
  | some d=>Q d G
  | none=>False)
 | .d0 ds,.int i,G,Q=>(match rK ds i with
  | some d=>Q d G
  | none=>False)
 | .pC bp,k,G,Q=>iu bp k=true/\(match look bp k with
  | some d=>Q d G
  | none=>False)
 | .ref a,k,G,Q=>(match G a with
  | some (.lst ds)=>(match k with
   | .int i=>(match rK ds i with
    | some d=>Q d G
    | none=>False)
   | _=>False)
  | some (.jn bp)=>iu bp k=true/\(match look bp k with
   | some d=>Q d G
   | none=>False)
  | none=>False)
 | _,_,_,_=>False
noncomputable abbrev VU:=kc->gY->Gp->(Option Int->Gp->Prop)->Prop
noncomputable def fS:VU:=fun _ _ G Q=>Q none G
noncomputable def pL(t:fW):VU:=fun E τ G Q=>t E τ G fun x G1=>match x with
 | .int i=>Q (some i) G1
 | _=>False
noncomputable def RV:D->Option Int->Option Int->Gp->DK->Prop
 | .tup ds,lo,hi,G,Q=>¬ (jj ds.length 0 lo=0/\jj ds.length ds.length hi=ds.length)/\Q (.tup (cut ds lo hi)) G
 | .d0 ds,lo,hi,G,Q=>i6 G (.lst (cut ds lo hi)) Q
 | .ref a,lo,hi,G,Q=>(match G a with
  | some (.lst ds)=>i6 G (.lst (cut ds lo hi)) Q
  | _=>False)
 | _,_,_,_,_=>False
noncomputable def C1(a:fW)(lo hi:VU):fW:=fun E τ G Q=>a E τ G fun x G1=>lo E τ G1 fun l G2=>hi E τ G2 fun h G3=>RV x l h G3 Q
noncomputable def iH(a:fW):zS:=fun E τ G Q=>a E τ G fun x G1=>match Kj x G1 with
 | some b=>Q b G1
 | none=>False
noncomputable def C3(a b:zS):zS:=fun E τ G Q=>a E τ G fun c G1=>if c=true then b E τ G1 Q else Q false G1
noncomputable def Rh(a b:zS):zS:=fun E τ G Q=>a E τ G fun c G1=>if c=true then Q true G1 else b E τ G1 Q
noncomputable def Ik(a:zS):zS:=fun E τ G Q=>a E τ G fun c G1=>Q (!c) G1
noncomputable def JQ(a b:fW):fW:=fun E τ G Q=>a E τ G fun x G1=>match Kj x G1 with
 | some true=>b E τ G1 Q
 | some false=>Q x G1
 | none=>False
noncomputable def Vr(a b:fW):fW:=fun E τ G Q=>a E τ G fun x G1=>match Kj x G1 with
 | some true=>Q x G1
 | some false=>b E τ G1 Q
 | none=>False
noncomputable def Oi(a:fW):fW:=fun E τ G Q=>a E τ G fun x G1=>match Kj x G1 with
 | some c=>Q (.bl (!c)) G1
 | none=>False
noncomputable def WK(c:zS)(a b:fW):fW:=fun E τ G Q=>c E τ G fun k G1=>if k=true then a E τ G1 Q else b E τ G1 Q
noncomputable def cg(sp:mz)(t:Ah):fW:=fun E τ G Q=>t E τ G fun ds G1=>sp ds G1 Q fun _ _=>False
noncomputable def sE(r:List D->Gp->DK->Prop)(t:Ah):fW:=fun E τ G Q=>t E τ G fun ds G1=>r ds G1 Q
noncomputable def AW(x:D)(G:Gp):Prop:=match x with
 | .ref a=>(match G a with
  | some (.lst _)=>True
  | _=>False)
 | .d0 _=>True
 | _=>False
noncomputable def VZ(x:D)(G:Gp):Prop:=match x with
 | .pC _=>True
 | .ref a=>(match G a with
  | some (.jn _)=>True
  | _=>False)
 | _=>False
noncomputable def tyS(x:D)(_:Gp):Prop:=match x with
 | .str _=>True
 | _=>False
noncomputable def By(ty:D->Gp->Prop)(r:D->List D->Gp->DK->Prop)(o:fW)(t:Ah):fW:=fun E τ G Q=>o E τ G fun x G1=>ty x G1/\t E τ G1 fun ds G2=>r x ds G2 Q
noncomputable def lenOf:D->Gp->Option Nat
 | .tup ds,_=>some ds.length
 | .d0 ds,_=>some ds.length
 | .str x,_=>if x.length<=SZ then some x.length else none
 | .pC bp,_=>if (bp.all fun p=>fc p.1)=true then some bp.length else none
 | .ref a,G=>match G a with
  | some (.lst ds)=>some ds.length
  | some (.jn bp)=>if (bp.all fun p=>fc p.1)=true then some bp.length else none
  | none=>none
 | _,_=>none
noncomputable def rF(ds:List D)(G:Gp)(Q:DK):Prop:=match ds with
 | [x]=>(match lenOf x G with
  | some n=>Q (.int (n:Int)) G
  | none=>False)
 | _=>False
noncomputable def xq(ds:List D)(G:Gp)(Q:DK):Prop:=match ds with
 | [x]=>(match itemsOf x G with
  | some xs=>i6 G (.lst xs) Q
  | none=>False)
 | _=>False
noncomputable def isI(C:String):D->Gp->Option Bool
 | .cY,_=>some false
 | .bl _,_=>some (C == "bool" || C == "int")
 | .int _,_=>some (C == "int")
 | .str _,_=>some (C == "str")
 | .tup _,_=>some (C == "tuple")
 | .d0 _,_=>some (C == "list")
 | .pC _,_=>some (C == "dict")
 | .exc _,_=>none
 | .ref a,G=>match G a with
  | some (.lst _)=>some (C == "list")
  | some (.jn _)=>some (C == "dict")
  | none=>none
noncomputable def abr(C:String)(a:fW):fW:=fun E τ G Q=>a E τ G fun x G1=>match isI C x G1 with
 | some b=>Q (.bl b) G1
 | none=>False
noncomputable def S6(ds:List D)(G:Gp)(Q:DK):Prop:=match ds with
 | [x]=>∃ bs:List Bool,itemsOf x G=some (bs.map D.bl)/\Q (.bl (bs.all id)) G
 | _=>False
noncomputable def uU(x:D)(ds:List D)(G:Gp)(Q:DK):Prop:=match x,ds with
 | .ref a,[d]=>(match G a with
  | some (.lst xs)=>xs.length < SZ/\Q .cY (fN G a (.lst (xs++[d])))
  | _=>False)
 | _,_=>False
noncomputable def x3(x:D)(ds:List D)(G:Gp)(Q:DK):Prop:=match x,ds with
 | .ref a,[y]=>(match G a,pH y G with
  | some (.lst xs),some ys=>xs.length+ys.length<=SZ/\Q .cY (fN G a (.lst (xs++ys)))
  | _,_=>False)
 | _,_=>False
noncomputable def uT(x:D)(ds:List D)(G:Gp)(Q:DK):Prop:=match x,ds with
 | .ref a,[.int i,d]=>(match G a with
  | some (.lst xs)=>0<=i/\i<=xs.length/\xs.length < SZ/\Q .cY (fN G a (.lst (xs.take i.toNat++d :: xs.drop i.toNat)))
  | _=>False)
 | _,_=>False
noncomputable def oV(x:D)(ds:List D)(G:Gp)(Q:DK):Prop:=match ds with
 | [d]=>AW x G/\∃ xs s ss,itemsOf x G=some xs/\Sn G SN d s/\Sn G SN (.d0 xs) (.d0 ss)/\(match ss.findIdx? (iy · s) with
  | some k=>Q (.int (k:Int)) G
  | none=>False)
 | _=>False
noncomputable def EH(x:D)(ds:List D)(G:Gp)(Q:DK):Prop:=match x,ds with
 | .ref a,[k,d]=>(match G a with
  | some (.jn bp)=>iu bp k=true/\fc k=true/\(match look bp k with
   | some v=>Q v G
   | none=>bp.length < SZ/\Q d (fN G a (.jn (put bp k d))))
  | _=>False)
 | _,_=>False
noncomputable def fv:iz:=fun _ K τ G=>K.nx τ G
noncomputable def da(a b:iz):iz:=fun E K τ G=>a E { K with nx:=b E K } τ G
noncomputable def iK(a:fW):iz:=fun E K τ G=>a E τ G fun _ G1=>K.nx τ G1
noncomputable def dO(a:fW):iz:=fun E K τ G=>a E τ G K.rt
noncomputable def Rg:iz:=fun _ K _ G=>K.rt .cY G
noncomputable def nu(c:zS)(a b:iz):iz:=fun E K τ G=>c E τ G fun k G1=>if k=true then a E K τ G1 else b E K τ G1
noncomputable def wG:iz:=fun _ _ _ _=>False
noncomputable abbrev AI:=kc->D->gY->Gp->(gY->Gp->Prop)->Prop
noncomputable abbrev Di:=kc->List D->gY->Gp->(gY->Gp->Prop)->Prop
noncomputable def aQ(i:Nat):AI:=fun _ d τ G Q=>Q (τ.set i (some d)) G
noncomputable def tM:Di:=fun _ ds τ G Q=>match ds with
 | []=>Q τ G
 | _=>False
noncomputable def g8(t:AI)(r:Di):Di:=fun E ds τ G Q=>match ds with
 | d :: ds=>t E d τ G fun pY G1=>r E ds pY G1 Q
 | _=>False
noncomputable def vg(t:Di):AI:=fun E d τ G Q=>match d with
 | .tup ds=>t E ds τ G Q
 | _=>False
noncomputable def A4(o k d:D)(G:Gp)(Q:Gp->Prop):Prop:=match o with
 | .ref a=>(match G a with
  | some (.lst xs)=>(match k with
   | .int i=>(match EY xs.length i with
    | some j=>Q (fN G a (.lst (xs.set j d)))
    | none=>False)
   | _=>False)
  | some (.jn bp)=>iu bp k=true/\bp.length < SZ/\Q (fN G a (.jn (put bp k d)))
  | none=>False)
 | _=>False
noncomputable def vh(o k:fW):AI:=fun E d τ G Q=>o E τ G fun x G1=>k E τ G1 fun y G2=>A4 x y d G2 fun G3=>Q τ G3
noncomputable def cz(a:fW)(g:AI):iz:=fun E K τ G=>a E τ G fun x G1=>g E x τ G1 K.nx
noncomputable abbrev O4:=kc->gY->Gp->(List D->(Gp->Prop)->Gp->Prop)->Prop
noncomputable def tL(a:fW):O4:=fun E τ G R=>a E τ G fun x G1=>match x with
 | .tup ds=>R ds (fun _=>True) G1
 | .d0 ds=>R ds (fun _=>True) G1
 | .ref p=>(match G1 p with
  | some (.lst ds)=>R ds (fun G2=>G2 p=some (.lst ds)) G1
  | _=>False)
 | _=>False
noncomputable def fq(lo:Int)(n:Nat):List D:=(cG n).map fun (i:Nat)=>D.int (lo+(i:Int))
noncomputable def mU(a:fW):O4:=fun E τ G R=>a E τ G fun x G1=>match x with
 | .int n=>-(2 ^ 62)<=n/\n < 2 ^ 62/\R (fq 0 n.toNat) (fun _=>True) G1
 | _=>False
noncomputable def sM(g:AI)(body:iz)(ok:Gp->Prop):List D->iz
 | []=>fun _ K τ G=>ok G/\K.nx τ G
 | d :: r=>fun E K τ G=>ok G/\g E d τ G fun pY G1=>body E { K with nx:=sM g body ok r E K,ct:=sM g body ok r E K,bk:=K.nx } pY G1
noncomputable def gN(i:O4)(g:AI)(body:iz):iz:=fun E K τ G=>i E τ G fun ds ok G1=>sM g body ok ds E K τ G1
noncomputable def iR(g:AI)(c:Option zS)(e:fW)(ok:Gp->Prop):List D->kc->gY->Gp->List D->(List D->Gp->Prop)->Prop
 | [],_,_,G,acc,Q=>ok G/\Q acc G
 | d :: r,E,τ,G,acc,Q=>ok G/\g E d τ G fun pY G1=>match c with
  | none=>e E pY G1 fun x G2=>iR g c e ok r E pY G2 (acc++[x]) Q
  | some c=>c E pY G1 fun k G2=>if k=true then e E pY G2 fun x G3=>iR g (some c) e ok r E pY G3 (acc++[x]) Q else iR g (some c) e ok r E pY G2 acc Q
noncomputable def zM(m:Nat)(fr:List Nat)(τ:gY):gY:=bF m none++fr.map fun i=>(τ[i]?).getD none
noncomputable def gS(m:Nat)(fr:List Nat)(i:O4)(g:AI)(c:Option zS)(e:fW):fW:=fun E τ G Q =>
 i E τ G fun ds ok G1=>ds.length<=SZ/\iR g c e ok ds (fun _ _=>False) (zM m fr τ) G1 [] fun xs G2=>i6 G2 (.lst xs) Q
noncomputable abbrev tI(ns:List Int):D:=.tup (ns.map D.int)
noncomputable def Y8:List Int->Option Int
 | []=>none
 | a :: r=>some (r.foldl (fun m x=>if x < m then x else m) a)
noncomputable def Y7:List (List Int)->Option (List Int)
 | []=>none
 | a :: r=>some (r.foldl (fun m x=>if lexLt x m=true then x else m) a)
noncomputable def abM(ds:List D)(G:Gp)(Q:DK):Prop:=match ds with
 | [x]=>(∃ ns m,itemsOf x G=some (ns.map D.int)/\Y8 ns=some m/\Q (.int m) G)\/∃ nss m,itemsOf x G=some (nss.map tI)/\Y7 nss=some m/\Q (tI m) G
 | _=>False
noncomputable def wH:fW:=fun _ _ G Q=>i6 G (.jn []) Q
noncomputable def jV(G G':Gp):Prop:=∀ a o,G a=some o->G' a=some o
theorem jV.refl(G:Gp):jV G G:=fun _ _ h=>h
theorem jV.trans{G G1 G2:Gp}(a:jV G G1)(b:jV G1 G2):jV G G2:=fun c o h=>b c o (a c o h)
theorem jV.new{G:Gp}{p:Nat}{o:GO}(h:G p=none):jV G (fN G p o):=fun a ob e=>by
 by_cases ha:a=p
 ·subst ha; rw [h] at e; cases e
 ·rw [eY ha]; exact e
theorem jV.free{G G':Gp}{p:Nat}(l:jV G G')(h:G' p=none):G p=none:=by
 cases q:G p with
 | none=>rfl
 | some o=>rw [l p o q] at h; cases h
theorem jV.put{G G':Gp}{p:Nat}{o:GO}(l:jV G G')(h:G p=none):jV G (fN G' p o):=fun a ob e=>by
 by_cases ha:a=p
 ·subst ha; rw [h] at e; cases e
 ·rw [eY ha]; exact l a ob e
noncomputable def ends(Q:DK):jW:=⟨fun _ G=>Q .cY G,Q,fun _ _=>False,fun _ _=>False⟩
noncomputable def bM(n:Nat)(ds:List D):gY:=ds.map some++bF (n - ds.length) none
noncomputable def Q0(x:D)(G1:Gp)(R:List D->(Gp->Prop)->Gp->Prop):Prop:=match x with
 | .tup ds=>R ds (fun _=>True) G1
 | .d0 ds=>R ds (fun _=>True) G1
 | .ref p=>(match G1 p with
  | some (.lst ds)=>R ds (fun G2=>G2 p=some (.lst ds)) G1
  | _=>False)
 | _=>False
noncomputable def MZ(x:D)(G1:Gp)(Q:Option Int->Gp->Prop):Prop:=match x with
 | .int i=>Q (some i) G1
 | _=>False
noncomputable def sI(x:D)(G1:Gp)(Q:Bool->Gp->Prop):Prop:=match Kj x G1 with
 | some b=>Q b G1
 | none=>False
noncomputable def QR(x:D)(G1:Gp)(R:List D->(Gp->Prop)->Gp->Prop):Prop:=match x with
 | .int n=>-(2 ^ 62)<=n/\n < 2 ^ 62/\R (fq 0 n.toNat) (fun _=>True) G1
 | _=>False
noncomputable def isAt(C:String)(x:D)(G1:Gp)(Q:DK):Prop:=match isI C x G1 with
 | some b=>Q (.bl b) G1
 | none=>False
theorem kz{i j:Int}{G:Gp}{Q:DK}:mF (.int i) (.int j) G Q=Q (.int (i+j)) G:=rfl
theorem Eh{a b:List D}{G:Gp}{Q:DK}:mF (.tup a) (.tup b) G Q=(a≠[]/\a.length+b.length<=SZ/\Q (.tup (a++b)) G):=rfl
theorem ky{i j:Int}{G:Gp}{Q:DK}:xB (.int i) (.int j) G Q=Q (.int (i - j)) G:=rfl
theorem lQ{i j:Int}{G:Gp}{Q:DK}:xC (.int i) (.int j) G Q=(MulOk i j/\Q (.int (i * j)) G):=rfl
theorem iY{i j:Int}{G:Gp}{Q:DK}:lD (.int i) (.int j) G Q=(0 < j/\Q (.int (i % j)) G):=rfl
theorem rS{i j:Int}{G:Gp}{Q:DK}:yL (.int i) (.int j) G Q=(0 < j/\j < 2 ^ 30/\Q (.int (i / j)) G):=rfl
theorem yK{i:Int}{G:Gp}{Q:DK}:PF (.int i) G Q=Q (.int (-i)) G:=rfl
theorem Cf{i j:Int}{G:Gp}{Q:DK}:XD (.int i) (.int j) G Q=Q (.bl (decide (i < j))) G:=rfl
theorem Jc{i j:Int}{G:Gp}{Q:DK}:rLe (.int i) (.int j) G Q=Q (.bl (decide (i<=j))) G:=rfl
theorem Jf{i j:Int}{G:Gp}{Q:DK}:rGt (.int i) (.int j) G Q=Q (.bl (decide (i > j))) G:=rfl
theorem Jg{i j:Int}{G:Gp}{Q:DK}:rGe (.int i) (.int j) G Q=Q (.bl (decide (i>=j))) G:=rfl
theorem PG{ds:List D}{i:Int}{d:D}{G:Gp}{Q:DK}(h:rK ds i=some d):lR (.d0 ds) (.int i) G Q=Q d G:=by unfold lR; simp only [h]
theorem PJ{a:Nat}{ds:List D}{i:Int}{d:D}{G:Gp}{Q:DK}(h1:G a=some (.lst ds))(h:rK ds i=some d):lR (.ref a) (.int i) G Q=Q d G:=by unfold lR; simp only [h1,h]
theorem oM{ds:List D}{lo hi:Option Int}{G:Gp}{Q:DK}:RV (.tup ds) lo hi G Q=(¬ (jj ds.length 0 lo=0/\jj ds.length ds.length hi=ds.length)/\Q (.tup (cut ds lo hi)) G):=rfl
theorem Cd{ds:List D}{lo hi:Option Int}{G:Gp}{Q:DK}:RV (.d0 ds) lo hi G Q=i6 G (.lst (cut ds lo hi)) Q:=rfl
theorem PD{a:Nat}{ds:List D}{lo hi:Option Int}{G:Gp}{Q:DK}(h:G a=some (.lst ds)):RV (.ref a) lo hi G Q=i6 G (.lst (cut ds lo hi)) Q:=by unfold RV; simp only [h]
theorem zO{ds:List D}{G:Gp}{Q:DK}:rF [.d0 ds] G Q=Q (.int (ds.length:Int)) G:=rfl
theorem FC{ds:List D}{G:Gp}{Q:DK}:rF [.tup ds] G Q=Q (.int (ds.length:Int)) G:=rfl
theorem Ou{a:Nat}{ds:List D}{G:Gp}{Q:DK}(h:G a=some (.lst ds)):rF [.ref a] G Q=Q (.int (ds.length:Int)) G:=by unfold rF lenOf; simp only [h]
theorem iG{a:fW}{E:kc}{τ:gY}{G:Gp}{R:List D->(Gp->Prop)->Gp->Prop}:tL a E τ G R=a E τ G fun x G1=>Q0 x G1 R:=by
 unfold tL Q0; rfl
theorem JB{ds:List D}{G:Gp}{R:List D->(Gp->Prop)->Gp->Prop}:Q0 (.d0 ds) G R=R ds (fun _=>True) G:=rfl
theorem JA{ds:List D}{G:Gp}{R:List D->(Gp->Prop)->Gp->Prop}:Q0 (.tup ds) G R=R ds (fun _=>True) G:=rfl
theorem Qj{a:Nat}{ds:List D}{G:Gp}{R:List D->(Gp->Prop)->Gp->Prop}(h:G a=some (.lst ds)):Q0 (.ref a) G R=R ds (fun G2=>G2 a=some (.lst ds)) G:=by unfold Q0; simp only [h]
theorem jN{t:fW}{E:kc}{τ:gY}{G:Gp}{Q:Option Int->Gp->Prop}:pL t E τ G Q=t E τ G fun x G1=>MZ x G1 Q:=rfl
theorem fZ{i:Int}{G:Gp}{Q:Option Int->Gp->Prop}:MZ (.int i) G Q=Q (some i) G:=rfl
theorem fb{a:fW}{E:kc}{τ:gY}{G:Gp}{Q:Bool->Gp->Prop}:iH a E τ G Q=a E τ G fun x G1=>sI x G1 Q:=rfl
theorem cm{b:Bool}{G:Gp}{Q:Bool->Gp->Prop}:sI (.bl b) G Q=Q b G:=rfl
theorem Kh{a:Nat}{ds:List D}{G:Gp}{Q:Bool->Gp->Prop}(h:G a=some (.lst ds)):sI (.ref a) G Q=Q (!ds.isEmpty) G:=by unfold sI Kj; simp only [h]
theorem gQ{a:fW}{E:kc}{τ:gY}{G:Gp}{R:List D->(Gp->Prop)->Gp->Prop}:mU a E τ G R=a E τ G fun x G1=>QR x G1 R:=rfl
theorem fM{n:Int}{G:Gp}{R:List D->(Gp->Prop)->Gp->Prop}:QR (.int n) G R=(-(2 ^ 62)<=n/\n < 2 ^ 62/\R (fq 0 n.toNat) (fun _=>True) G):=rfl
theorem JN{C:String}{a:fW}{E:kc}{τ:gY}{G:Gp}{Q:DK}:abr C a E τ G Q=a E τ G fun x G1=>isAt C x G1 Q:=rfl
theorem E3 {C:String} {i:Int} {G:Gp} {Q:DK}:isAt C (.int i) G Q=Q (.bl (C == "int")) G:=rfl
theorem E1 {C:String} {ds:List D} {G:Gp} {Q:DK}:isAt C (.tup ds) G Q=Q (.bl (C == "tuple")) G:=rfl
theorem zL{a b:fW}{E:kc}{τ:gY}{G:Gp}{Q:DK}:JQ a b E τ G Q=a E τ G fun x G1=>sI x G1 fun k G2=>if k=true then b E τ G2 Q else Q x G2:=by
 unfold JQ sI
 refine congrArg (a E τ G) ?_
 funext x G1
 cases Kj x G1 with
 | none=>rfl
 | some k=>cases k <;> simp
theorem JM{a b:fW}{E:kc}{τ:gY}{G:Gp}{Q:DK}:Vr a b E τ G Q=a E τ G fun x G1=>sI x G1 fun k G2=>if k=true then Q x G2 else b E τ G2 Q:=by
 unfold Vr sI
 refine congrArg (a E τ G) ?_
 funext x G1
 cases Kj x G1 with
 | none=>rfl
 | some k=>cases k <;> simp
theorem zK{a:fW}{E:kc}{τ:gY}{G:Gp}{Q:DK}:Oi a E τ G Q=a E τ G fun x G1=>sI x G1 fun k G2=>Q (.bl (!k)) G2:=rfl
theorem uO{a:Nat}{y:D}{G:Gp}{Q:DK}:mF (.ref a) y G Q=Iu (.ref a) y G Q:=by cases y <;> rfl
theorem uN{a:List D}{y:D}{G:Gp}{Q:DK}:mF (.d0 a) y G Q=Iu (.d0 a) y G Q:=by cases y <;> rfl
theorem Ce{a:Nat}{lo hi:Option Int}{G:Gp}{Q:DK}:RV (.ref a) lo hi G Q=(match G a with
  | some (.lst ds)=>i6 G (.lst (cut ds lo hi)) Q
  | _=>False):=rfl
theorem PH{a:Nat}{k:D}{G:Gp}{Q:DK}:lR (.ref a) k G Q=(match G a with
  | some (.lst ds)=>(match k with
   | .int i=>(match rK ds i with
    | some d=>Q d G
    | none=>False)
   | _=>False)
  | some (.jn bp)=>iu bp k=true/\(match look bp k with
   | some d=>Q d G
   | none=>False)
  | none=>False):=by unfold lR; cases k <;> rfl
theorem ie{ds:List D}{i:Int}{G:Gp}{Q:DK}:lR (.tup ds) (.int i) G Q=(match rK ds i with
  | some d=>Q d G
  | none=>False):=rfl
theorem uM{ds:List D}{i:Int}{G:Gp}{Q:DK}:lR (.d0 ds) (.int i) G Q=(match rK ds i with
  | some d=>Q d G
  | none=>False):=rfl
theorem Ot{a:Nat}{G:Gp}{Q:DK}:rF [.ref a] G Q=(match G a with
  | some (.lst ds)=>Q (.int (ds.length:Int)) G
  | some (.jn ds)=>(ds.all fun p=>fc p.1)=true/\Q (.int (ds.length:Int)) G
  | none=>False):=by
 unfold rF lenOf
 cases h:G a with
 | none=>simp only [h]
 | some g =>
  cases g with
  | lst ds=>simp only [h]
  | jn ds =>
   simp only [h]
   by_cases z:(ds.all fun p=>fc p.1)=true
   ·simp only [z,if_true,true_and]
   ·simp only [z,if_false,false_and,aB]
theorem BB{a:Nat}{G:Gp}{Q:DK}:xq [.ref a] G Q=(match G a with
  | some (.lst ds)=>i6 G (.lst ds) Q
  | _=>False):=by
 unfold xq itemsOf
 cases h:G a with
 | none=>simp only [h]
 | some g=>cases g <;> simp only [h]
theorem mS{a:Nat}{d:D}{G:Gp}{Q:DK}:uU (.ref a) [d] G Q=(match G a with
  | some (.lst xs)=>xs.length < SZ/\Q .cY (fN G a (.lst (xs++[d])))
  | _=>False):=rfl
theorem qQ{a:Nat}{y:D}{G:Gp}{Q:DK}:x3 (.ref a) [y] G Q=(match G a,pH y G with
  | some (.lst xs),some ys=>xs.length+ys.length<=SZ/\Q .cY (fN G a (.lst (xs++ys)))
  | _,_=>False):=rfl
theorem qP{a:Nat}{i:Int}{d:D}{G:Gp}{Q:DK}:uT (.ref a) [.int i,d] G Q=(match G a with
  | some (.lst xs)=>0<=i/\i<=xs.length/\xs.length < SZ/\Q .cY (fN G a (.lst (xs.take i.toNat++d :: xs.drop i.toNat)))
  | _=>False):=rfl
theorem pG{a:Nat}{k d:D}{G:Gp}{Q:DK}:EH (.ref a) [k,d] G Q=(match G a with
  | some (.jn bp)=>iu bp k=true/\fc k=true/\(match look bp k with
   | some v=>Q v G
   | none=>bp.length < SZ/\Q d (fN G a (.jn (put bp k d))))
  | _=>False):=rfl
theorem Jz {C:String} {b:Bool} {G:Gp} {Q:DK}:isAt C (.bl b) G Q=Q (.bl (C == "bool" || C == "int")) G:=rfl
theorem rP{a:Nat}{G:Gp}:AW (.ref a) G=(match G a with
  | some (.lst _)=>True
  | _=>False):=rfl
theorem BY{a:Nat}{G:Gp}:VZ (.ref a) G=(match G a with
  | some (.jn _)=>True
  | _=>False):=rfl
theorem IS{ds:List D}{G:Gp}:AW (.d0 ds) G=True:=rfl
theorem rR{bp:List (D×D)}{k:D}{G:Gp}{Q:DK}:lR (.pC bp) k G Q=(iu bp k=true/\(match look bp k with
  | some d=>Q d G
  | none=>False)):=by unfold lR; cases k <;> rfl
theorem IQ{x:Str}{G:Gp}:tyS (.str x) G=True:=rfl
end K2
end
section
namespace K2
open PySem (Str)
noncomputable def Fs(R:Nat->Bool)(G:Gp):Gp:=fun a=>if R a=true then none else G a
mutual
inductive Fz (G:Gp) (R:Nat->Bool):D->D->Prop
 | same (d:D):Fz G R d d
 | tup {ds ss:List D}:J2 G R ds ss->Fz G R (.tup ds) (.tup ss)
 | d0 {ds ss:List D}:J2 G R ds ss->Fz G R (.d0 ds) (.d0 ss)
 | ref {a:Nat} {ds ss:List D}:G a=some (.lst ds)->R a=true->J2 G R ds ss->Fz G R (.ref a) (.d0 ss)
 | jn {a:Nat} {bp kvt:List (D×D)}:G a=some (.jn bp)->R a=true->ID G R bp kvt->Fz G R (.ref a) (.pC kvt)
inductive J2 (G:Gp) (R:Nat->Bool):List D->List D->Prop
 | nil:J2 G R [] []
 | cons {d s:D} {ds ss:List D}:Fz G R d s->J2 G R ds ss->J2 G R (d :: ds) (s :: ss)
inductive ID (G:Gp) (R:Nat->Bool):List (D×D)->List (D×D)->Prop
 | nil:ID G R [] []
 | cons {k d s:D} {ds ss:List (D×D)}:Fz G R d s->ID G R ds ss->ID G R ((k,d) :: ds) ((k,s) :: ss)
end
theorem ID.same{G:Gp}{R:Nat->Bool}:∀ (bp:List (D×D)),ID G R bp bp
 | []=>.nil
 | (k,v) :: r=>.cons (.same v) (ID.same r)
noncomputable def QL(G:Gp)(x:D)(Q:DK):Prop:=∃ (R:Nat->Bool) (t:D),Fz G R x t/\Q t (Fs R G)
noncomputable def h8(e:fW):fW:=fun E τ G Q=>e E τ G fun x G1=>QL G1 x Q
noncomputable def S2(i:Nat)(t:iz):iz:=fun E K τ G=>t E { K with nx:=fun pY G1=>match pY[i]? with
 | some (some d)=>QL G1 d fun t G2=>K.nx (pY.set i (some t)) G2
 | _=>False } τ G
theorem J2.same{G:Gp}{R:Nat->Bool}:∀ (ds:List D),J2 G R ds ds
 | []=>.nil
 | d :: ds=>.cons (.same d) (J2.same ds)
theorem zD{G G1:Gp}(l:jV G G1):Fs (fun a=>(G a).isNone) G1=G:=by
 funext a
 unfold Fs
 cases h:G a with
 | none=>simp [h]
 | some o=>simp [l a o h,h]
theorem mV{G:Gp}{d:D}{Q:DK}(q:Q d G):QL G d Q:=⟨fun _=>false,d,.same d,by
 have e:Fs (fun _=>false) G=G:=by funext a; simp [Fs]
 rw [e]; exact q⟩
theorem Qq{G G1:Gp}{d:D}{Q:DK}(l:jV G G1)(q:Q d G):QL G1 d Q:=⟨_,d,.same d,by rw [zD l]; exact q⟩
theorem HW{G G1:Gp}{p:Nat}{ds ss:List D}{Q:DK}(l:jV G G1)(hp:G p=none)(h1:G1 p=some (.lst ds))(hs:J2 G1 (fun a=>(G a).isNone) ds ss)(q:Q (.d0 ss) G):QL G1 (.ref p) Q :=
 ⟨_,.d0 ss,.ref h1 (by simp [hp]) hs,by rw [zD l]; exact q⟩
theorem zr{G G1:Gp}{p:Nat}{bp:List (D×D)}{Q:DK}(l:jV G G1)(hp:G p=none)(h1:G1 p=some (.jn bp))(q:Q (.pC bp) G):QL G1 (.ref p) Q :=
 ⟨fun a=>(G a).isNone,.pC bp,.jn h1 (by simp [hp]) (.same _),by rw [zD l]; exact q⟩
noncomputable def AZ:mz:=fun ds G Q _=>∃ ns:List Int,ds=[.d0 (ns.map D.int)]/\ns.length<=63/\(∀ a,G a=none)/\∀ G',Q (.bl true) G'
theorem gZ{a b:iz}{E:kc}{K:jW}{τ:gY}{G:Gp}(P:gY->Gp->Prop)(h1:∀ N,(∀ τ G,P τ G->N τ G)->a E { K with nx:=N } τ G)(h2:∀ τ G,P τ G->b E K τ G):da a b E K τ G:=h1 (b E K) h2
theorem D6{a b:iz}{E:kc}{K:jW}{τ:gY}{G:Gp}:da a b E K τ G=a E { K with nx:=b E K } τ G:=rfl
theorem eZ{a:fW}{g:AI}{b:iz}{E:kc}{K:jW}{τ:gY}{G:Gp}:da (cz a g) b E K τ G=cz a g E { K with nx:=b E K } τ G:=rfl
theorem qt{a:fW}{b:iz}{E:kc}{K:jW}{τ:gY}{G:Gp}:da (iK a) b E K τ G=iK a E { K with nx:=b E K } τ G:=rfl
theorem wy{g:AI}{body:iz}{ok:Gp->Prop}{ds:List D}{E:kc}{K:jW}{τ:gY}{G:Gp}(I:List D->gY->Gp->Prop)
  (h0:I [] τ G) (cM:∀ pre τ G,I pre τ G->ok G)
  (step:∀ (pre:List D) (d:D) (post:List D) τ G (N:gY->Gp->Prop),ds=pre++d :: post->I pre τ G->(∀ vM G2,I (pre++[d]) vM G2->N vM G2) ->
   g E d τ G fun pY G1=>body E { K with nx:=N,ct:=N,bk:=K.nx } pY G1)
  (fin:∀ τ G,I ds τ G->K.nx τ G):sM g body ok ds E K τ G:=by
 have main:∀ (post pre:List D) τ G,ds=pre++post->I pre τ G->sM g body ok post E K τ G:=by
  intro post
  induction post with
  | nil =>
   intro pre τ G e h
   rw [bS] at e
   subst e
   exact⟨cM _ _ _ h,fin _ _ h⟩
  | cons d post ih =>
   intro pre τ G e h
   refine⟨cM _ _ _ h,?_⟩
   exact step pre d post τ G _ e h fun vM G2 h2=>ih (pre++[d]) vM G2 (by rw [e,cH]; rfl) h2
 exact main ds [] τ G rfl h0
theorem JR{g:AI}{c:Option zS}{e:fW}{ok:Gp->Prop}{ds:List D}{E:kc}{τ:gY}{G:Gp}{Q:List D->Gp->Prop}(I:List D->List D->gY->Gp->Prop)
  (h0:I [] [] τ G) (cM:∀ pre acc τ G,I pre acc τ G->ok G)
  (step:∀ (pre:List D) (d:D) (post acc:List D) τ G (N:gY->List D->Gp->Prop),ds=pre++d :: post->I pre acc τ G->(∀ vM wO G2,I (pre++[d]) wO vM G2->N vM wO G2) ->
   g E d τ G fun pY G1=>match c with
    | none=>e E pY G1 fun x G2=>N pY (acc++[x]) G2
    | some c=>c E pY G1 fun k G2=>if k=true then e E pY G2 fun x G3=>N pY (acc++[x]) G3 else N pY acc G2)
  (fin:∀ acc τ G,I ds acc τ G->Q acc G):iR g c e ok ds E τ G [] Q:=by
 have main:∀ (post pre acc:List D) τ G,ds=pre++post->I pre acc τ G->iR g c e ok post E τ G acc Q:=by
  intro post
  induction post with
  | nil =>
   intro pre acc τ G e h
   rw [bS] at e
   subst e
   exact⟨cM _ _ _ _ h,fin _ _ _ h⟩
  | cons d post ih =>
   intro pre acc τ G e' h
   refine⟨cM _ _ _ _ h,?_⟩
   have:=step pre d post acc τ G (fun vM wO G2=>iR g c e ok post E vM G2 wO Q) e' h fun vM wO G2 h2=>ih (pre++[d]) wO vM G2 (by rw [e',cH]; rfl) h2
   cases c with
   | none=>exact this
   | some c=>exact this
 exact main ds [] [] τ G rfl h0
theorem o9(a b:D)(r t:List D):kD (a :: r) (b :: t)=(iy a b&&kD r t):=rfl
theorem tT(a b:Int):iy (.int a) (.int b)=(a == b):=rfl
theorem Ih(a b:List D):iy (.tup a) (.tup b)=kD a b:=rfl
theorem Ft{α:Type} [DecidableEq α](a b:α)(as bs:List α):(decide (a=b)&&decide (as=bs))=decide (a :: as=b :: bs):=by
 by_cases h:a=b <;> by_cases h2:as=bs <;> simp [h,h2]
end K2
end
section
namespace K2
open PySem (Str)
set_option genInjectivity true in structure T2 where
 a:Int
 b:Int
 deriving DecidableEq
set_option genInjectivity true in structure T3 where
 a:Int
 b:Int
 c:Int
 deriving DecidableEq
class Enc (α:Type) [DecidableEq α] where
 enc:α->D
 dep:Nat
 eqv:∀ a b,iy (enc a) (enc b)=decide (a=b)
 sn:∀ (G:Gp) (n:Nat) (a:α),dep<=n->Sn G n (enc a) (enc a)
open Enc (enc)
noncomputable instance:Enc Int where
 enc:=D.int
 dep:=0
 eqv:=fun a b=>rfl
 sn:=fun G n a _=>.int a
noncomputable instance:Enc Bool where
 enc:=D.bl
 dep:=0
 eqv:=fun a b=>OO a b
 sn:=fun G n a _=>.bl a
noncomputable instance:Enc T2 where
 enc:=fun t=>.tup [.int t.a,.int t.b]
 dep:=1
 eqv:=fun x y=>by
  cases x; cases y
  rw [Ih,o9,o9,tT,tT]; simp only [T2.mk.injEq]; rename_i a b c d; by_cases h:a=c <;> by_cases h2:b=d <;> simp [h,h2,show kD [] []=true from rfl]
 sn:=fun G n t h=>by
  obtain⟨m,rfl⟩:∃ m,n=m+1:=⟨n - 1,by lia⟩
  exact .qm (.int _) (.qm (.int _) .GU)
noncomputable instance:Enc T3 where
 enc:=fun t=>.tup [.int t.a,.int t.b,.int t.c]
 dep:=1
 eqv:=fun x y=>by
  cases x; cases y
  rw [Ih,o9,o9,o9,tT,tT,tT]; simp only [T3.mk.injEq]; rename_i a b e c d f; by_cases h:a=c <;> by_cases h2:b=d <;> by_cases h3:e=f <;> simp [h,h2,h3,show kD [] []=true from rfl]
 sn:=fun G n t h=>by
  obtain⟨m,rfl⟩:∃ m,n=m+1:=⟨n - 1,by lia⟩
  exact .qm (.int _) (.qm (.int _) (.qm (.int _) .GU))
noncomputable instance {α β:Type} [DecidableEq α] [DecidableEq β] [Enc α] [Enc β]:Enc (α×β) where
 enc:=fun t=>.tup [enc t.1,enc t.2]
 dep:=max (Enc.dep α) (Enc.dep β)+1
 eqv:=fun x y=>by
  cases x; cases y
  rw [Ih,o9,o9,Enc.eqv,Enc.eqv]; simp only [Prod.mk.injEq]; rename_i a b c d; by_cases h:a=c <;> by_cases h2:b=d <;> simp [h,h2,show kD [] []=true from rfl]
 sn:=fun G n t h=>by
  obtain⟨m,rfl⟩:∃ m,n=m+1:=⟨n - 1,by lia⟩
  exact .qm (Enc.sn _ _ _ (by lia)) (.qm (Enc.sn _ _ _ (by lia)) .GU)
theorem Fo{α:Type} [DecidableEq α] [Enc α]:∀ (a b:List α),kD (a.map enc) (b.map enc)=decide (a=b)
 | [],[]=>(decide_eq_true rfl).symm
 | [],b :: bs=>(decide_eq_false (fun z=>nomatch z)).symm
 | a :: as,[]=>(decide_eq_false (fun z=>nomatch z)).symm
 | a :: as,b :: bs=>by
  show (iy (enc a) (enc b)&&kD (as.map enc) (bs.map enc))=_
  rw [Enc.eqv,Fo as bs,Ft]
theorem yz{α:Type} [DecidableEq α] [Enc α](G:Gp)(n:Nat)(h:Enc.dep α<=n):∀ (xs:List α),Sn G (n+1) (.d0 (xs.map enc)) (.d0 (xs.map enc))
 | []=>.Ca
 | a :: as=>.xb (Enc.sn _ _ _ h) (yz G n h as)
noncomputable instance {α:Type} [DecidableEq α] [Enc α]:Enc (List α) where
 enc:=fun xs=>.d0 (xs.map enc)
 dep:=Enc.dep α+1
 eqv:=fun a b=>by
  show kD _ _=_
  exact Fo a b
 sn:=fun G n t h=>by
  obtain⟨m,rfl⟩:∃ m,n=m+1:=⟨n - 1,by lia⟩
  exact yz G m (by lia) t
section
variable {κ α:Type} [DecidableEq κ] [Enc κ] [DecidableEq α] [Enc α]
noncomputable def bV(l:List (κ×α)):List (D×D):=l.map fun p=>(enc p.1,enc p.2)
noncomputable def pS(l:List (κ×α))(k:κ):Option α:=(l.find? fun p=>p.1=k).map (·.2)
noncomputable def pq(l:List (κ×α))(k:κ)(v:α):List (κ×α):=if (l.any fun p=>p.1=k)=true then l.map (fun p=>if p.1=k then (p.1,v) else p) else l++[(k,v)]
theorem lV(l:List (κ×α))(k:κ):look (bV l) (enc k)=(pS l k).map enc:=by
 unfold look pS bV
 induction l with
 | nil=>rfl
 | cons p r ih =>
  rw [ax,fU,fU]
  simp only [Enc.eqv]
  by_cases h:p.1=k
  ·simp [h]
  ·simp only [h,decide_false]; exact ih
theorem PM(l:List (κ×α))(k:κ)(v:α):put (bV l) (enc k) (enc v)=bV (pq l k v):=by
 unfold put pq
 have e:((bV l).any fun p=>iy p.1 (enc k))=l.any fun p=>decide (p.1=k):=by
  unfold bV; rw [List.any_map]; congr 1; funext p; exact Enc.eqv _ _
 rw [e]
 split
 ·unfold bV; rw [cc,cc]
  refine List.map_congr_left fun p _=>?_
  simp only [Function.comp,Enc.eqv,decide_eq_true_eq]
  split <;> rfl
 ·unfold bV; rw [aS]; rfl
theorem FK(l:List (κ×α))(k:κ)(v:α):(pq l k v).length<=l.length+1:=by
 unfold pq; split <;> simp
end
class tZ (κ:Type) [DecidableEq κ] [Enc κ] where
 ok:(∀ k:κ,fc (enc k)=true)\/∀ k:κ,kX (enc k)=true
noncomputable instance:tZ Int:=⟨.inl fun _=>rfl⟩
noncomputable instance:tZ T2:=⟨.inr fun _=>rfl⟩
noncomputable instance:tZ T3:=⟨.inr fun _=>rfl⟩
theorem iq{κ α:Type} [DecidableEq κ] [Enc κ] [tZ κ] [DecidableEq α] [Enc α](l:List (κ×α))(k:κ):iu (bV l) (enc k)=true:=by
 unfold iu bV
 rcases tZ.ok (κ:=κ) with h | h
 ·rw [og]; left
  rw [h k,Bool.true_and,BQ,iA]
  intro p _; exact h p.1
 ·rw [og]; right
  rw [h k,Bool.true_and,BQ,iA]
  intro p _; exact h p.1
end K2
end
section
namespace K2
open PySem (Str)
open Enc (enc)
mutual
noncomputable def mH:D->D->Bool
 | .int a,.int b=>decide (a < b)
 | .tup a,.tup b=>mG a b
 | .d0 a,.d0 b=>mG a b
 | _,_=>false
noncomputable def mG:List D->List D->Bool
 | [],[]=>false
 | [],_ :: _=>true
 | _ :: _,[]=>false
 | x :: xs,y :: ys=>if iy x y=true then mG xs ys else mH x y
end
theorem oW(x y:D)(xs ys:List D):mG (x :: xs) (y :: ys)=if iy x y=true then mG xs ys else mH x y:=rfl
theorem Nf(a b:Int):mH (.int a) (.int b)=decide (a < b):=rfl
inductive mI where
 | int | tup (l:List mI) | lst (s:mI)
mutual
noncomputable def cS:mI->D->Bool
 | .int,.int _=>true
 | .tup l,.tup ds=>e8 l ds
 | .lst s,.d0 ds=>gs s ds
 | _,_=>false
noncomputable def e8:List mI->List D->Bool
 | [],[]=>true
 | s :: l,d :: ds=>cS s d&&e8 l ds
 | _,_=>false
noncomputable def gs:mI->List D->Bool
 | _,[]=>true
 | s,d :: ds=>cS s d&&gs s ds
end
theorem dD{a:D}(h:cS .int a=true):∃ i,a=.int i:=by cases a <;> first | exact⟨_,rfl⟩ | exact bq (show false=true from h)
theorem dA{l:List mI}{a:D}(h:cS (.tup l) a=true):∃ x,a=.tup x:=by cases a <;> first | exact⟨_,rfl⟩ | exact bq (show false=true from h)
theorem dB{l:mI}{a:D}(h:cS (.lst l) a=true):∃ x,a=.d0 x:=by cases a <;> first | exact⟨_,rfl⟩ | exact bq (show false=true from h)
mutual
noncomputable def Qw:mI->Nat
 | .int=>0
 | .tup l=>Oa l+1
 | .lst s=>Qw s+1
noncomputable def Oa:List mI->Nat
 | []=>0
 | s :: l=>max (Qw s) (Oa l)
end
noncomputable def M4(sh:mI):Bool:=decide (Qw sh<=7)&&(match sh with
 | .tup []=>false
 | _=>true)
noncomputable def OS(a b:D):Bool:=!mH b a
noncomputable def mO(ds:List D):List D:=ds.mergeSort OS
noncomputable def ye(ds:List D)(G:Gp)(Q:DK):Prop:=match ds with
 | [x]=>∃ (sh:mI) (xs:List D),AW x G/\itemsOf x G=some xs/\xs.all (cS sh)=true/\M4 sh=true/\xs.length < 64/\i6 G (.lst (mO xs)) Q
 | _=>False
class bY (α:Type) [DecidableEq α] [Enc α] where
 lt:α->α->Bool
 wZ:mI
 HU:∀ a:α,cS wZ (enc a)=true
 Tr:∀ a b:α,mH (enc a) (enc b)=lt a b
 OV:∀ a,lt a a=false
 trans:∀ a b c,lt a b=true->lt b c=true->lt a c=true
 Po:∀ a b,lt a b=false->lt b a=false->a=b
noncomputable instance:bY Int where
 lt:=fun a b=>decide (a < b)
 wZ:=.int
 HU:=fun _=>rfl
 Tr:=fun a b=>rfl
 OV:=fun a=>by simp
 trans:=fun a b c h1 h2=>by simp at *; lia
 Po:=fun a b h1 h2=>by simp at *; lia
noncomputable def uZ{α:Type} [DecidableEq α](lt:α->α->Bool):List α->List α->Bool
 | [],[]=>false
 | [],_ :: _=>true
 | _ :: _,[]=>false
 | x :: xs,y :: ys=>if x=y then uZ lt xs ys else lt x y
theorem za{α:Type} [DecidableEq α](lt:α->α->Bool)(x y:α)(xs ys:List α):uZ lt (x :: xs) (y :: ys)=if x=y then uZ lt xs ys else lt x y:=rfl
section
variable {α:Type} [DecidableEq α] {lt:α->α->Bool}
theorem uY:∀ x:List α,uZ lt x x=false
 | []=>rfl
 | a :: x=>by simp only [za,if_true]; exact uY x
theorem uX(t:∀ a b,lt a b=false->lt b a=false->a=b):∀ (x y:List α),uZ lt x y=false->uZ lt y x=false->x=y
 | [],[],_,_=>rfl
 | [],_ :: _,h,_=>by cases h
 | _ :: _,[],_,h=>by cases h
 | a :: x,b :: y,h1,h2=>by
  simp only [za] at h1 h2
  by_cases e:a=b
  ·subst e
   simp only [if_true] at h1 h2
   rw [uX t x y h1 h2]
  ·rw [if_neg e] at h1
   rw [if_neg (fu e)] at h2
   exact absurd (t a b h1 h2) e
theorem oX(ir:∀ a,lt a a=false)(tr:∀ a b c,lt a b=true->lt b c=true->lt a c=true):∀ (x y z:List α),uZ lt x y=true->uZ lt y z=true->uZ lt x z=true
 | [],[],_,h,_=>by cases h
 | [],_ :: _,[],_,h=>by cases h
 | [],_ :: _,_ :: _,_,_=>rfl
 | _ :: _,[],_,h,_=>by cases h
 | _ :: _,_ :: _,[],_,h=>by cases h
 | a :: x,b :: y,c :: z,h1,h2=>by
  simp only [za] at h1 h2 ⊢
  by_cases e1:a=b
  ·subst e1
   simp only [if_true] at h1
   by_cases e2:a=c
   ·subst e2
    simp only [if_true] at h2 ⊢
    exact oX ir tr x y z h1 h2
   ·rw [if_neg e2] at h2 ⊢; exact h2
  ·rw [if_neg e1] at h1
   by_cases e2:b=c
   ·subst e2
    rw [if_neg e1]; exact h1
   ·rw [if_neg e2] at h2
    have h3:=tr _ _ _ h1 h2
    rw [if_neg (by rintro rfl; rw [ir] at h3; cases h3)]; exact h3
end
theorem uV{α:Type} [DecidableEq α] [Enc α] [bY α]:∀ (x y:List α),mG (x.map enc) (y.map enc)=uZ (bY.lt (α:=α)) x y
 | [],[]=>rfl
 | [],_ :: _=>rfl
 | _ :: _,[]=>rfl
 | a :: x,b :: y=>by simp only [ax,oW,za,Enc.eqv,uV x y,bY.Tr,decide_eq_true_eq]
theorem Bo{α:Type} [DecidableEq α] [Enc α] [bY α]:∀ (x:List α),gs (bY.wZ α) (x.map enc)=true
 | []=>rfl
 | a :: x=>by simp only [ax,gs,bY.HU,Bo x,Bool.and_self]
noncomputable instance {α:Type} [DecidableEq α] [Enc α] [bY α]:bY (List α) where
 lt:=uZ bY.lt
 wZ:=.lst (bY.wZ α)
 HU:=fun a=>Bo a
 Tr:=fun a b=>uV a b
 OV:=uY
 trans:=oX bY.OV bY.trans
 Po:=uX bY.Po
noncomputable def T2.l(t:T2):List Int:=[t.a,t.b]
noncomputable def T3.l(t:T3):List Int:=[t.a,t.b,t.c]
noncomputable instance:bY T2 where
 lt:=fun x y=>uZ (fun a b=>decide (a < b)) x.l y.l
 wZ:=.tup [.int,.int]
 HU:=fun _=>rfl
 Tr:=fun a b=>uV a.l b.l
 OV:=fun a=>uY _
 trans:=fun a b c=>oX (α:=Int) bY.OV bY.trans _ _ _
 Po:=fun ⟨a,b⟩ ⟨c,d⟩ h1 h2=>by
  have:=uX (α:=Int) bY.Po _ _ h1 h2
  simpa [T2.l] using this
noncomputable instance:bY T3 where
 lt:=fun x y=>uZ (fun a b=>decide (a < b)) x.l y.l
 wZ:=.tup [.int,.int,.int]
 HU:=fun _=>rfl
 Tr:=fun a b=>uV a.l b.l
 OV:=fun a=>uY _
 trans:=fun a b c=>oX (α:=Int) bY.OV bY.trans _ _ _
 Po:=fun ⟨a,b,e⟩ ⟨c,d,f⟩ h1 h2=>by
  have:=uX (α:=Int) bY.Po _ _ h1 h2
  simpa [T3.l] using this
section
variable {α:Type} [DecidableEq α] [Enc α] [bY α]
noncomputable def AB(a b:α):Bool:=!bY.lt b a
noncomputable def Ko(xs:List α):List α:=xs.mergeSort AB
theorem A1(xs:List α):mO (xs.map enc)=(Ko xs).map enc:=by
 unfold mO Ko
 symm
 exact List.map_mergeSort fun a _ b _=>by unfold AB OS; rw [bY.Tr]
theorem wd(a b c:α)(h1:AB a b=true)(h2:AB b c=true):AB a c=true:=by
 unfold AB at *
 simp only [AS] at *
 cases h:bY.lt c a with
 | false=>rfl
 | true =>
  by_cases e:a=b
  ·subst e; rw [h] at h2; cases h2
  ·have Va:bY.lt a b=true:=by
    cases q:bY.lt a b with
    | true=>rfl
    | false=>exact absurd (bY.Po _ _ q h1) e
   rw [bY.trans _ _ _ h Va] at h2; cases h2
theorem KR(a b:α):(AB a b||AB b a)=true:=by
 unfold AB
 cases h:bY.lt b a with
 | false=>rfl
 | true =>
  cases h2:bY.lt a b with
  | false=>rfl
  | true=>have:=bY.trans _ _ _ h h2; rw [bY.OV] at this; cases this
theorem Ni(a b:α)(h1:AB a b=true)(h2:AB b a=true):a=b:=by
 unfold AB at *
 exact bY.Po a b (by simpa using h2) (by simpa using h1)
theorem ur(xs:List α):(Ko xs).Perm xs:=List.mergeSort_perm xs AB
theorem yy(xs:List α):(Ko xs).Pairwise fun a b=>AB a b=true:=Lw wd KR xs
theorem Aq:∀ {xs ys:List α},xs.Perm ys->xs.Pairwise (fun a b=>AB a b=true)->ys.Pairwise (fun a b=>AB a b=true)->xs=ys:=by
 intro xs ys hp h1 h2
 exact DB (fun a b _ _ h h'=>Ni a b h h') h1 h2 hp
theorem RL{xs ys:List α}(h:xs.Perm ys):Ko xs=Ko ys:=Aq (((ur xs).trans h).trans (ur ys).symm) (yy xs) (yy ys)
theorem IV{xs:List α}{x:α}:x∈Ko xs↔x∈xs:=(ur xs).mem_iff
theorem IW(xs:List α):(Ko xs).length=xs.length:=(ur xs).length_eq
end
end K2
end
section
namespace K2
open PySem (Str)
mutual
theorem j9:∀ (sh:mI) (a:D),cS sh a=true->iy a a=true
 | .int,.int i,_=>by show (i == i)=true; exact beq_self_eq_true i
 | .tup l,.tup xs,h=>by show kD xs xs=true; exact xg l xs h
 | .lst l,.d0 xs,h=>by show kD xs xs=true; exact xh l xs h
theorem xg:∀ (l:List mI) (xs:List D),e8 l xs=true->kD xs xs=true
 | [],[],_=>rfl
 | s :: l,x :: xs,h=>by
  have h:(cS s x&&e8 l xs)=true:=h
  rw [aH] at h
  show (iy x x&&kD xs xs)=true
  rw [j9 s x h.1,xg l xs h.2]; rfl
theorem xh:∀ (s:mI) (xs:List D),gs s xs=true->kD xs xs=true
 | _,[],_=>rfl
 | s,x :: xs,h=>by
  have h:(cS s x&&gs s xs)=true:=h
  rw [aH] at h
  show (iy x x&&kD xs xs)=true
  rw [j9 s x h.1,xh s xs h.2]; rfl
end
theorem SW(s:mI)(ih:∀ (a b:D),cS s a=true->cS s b=true->iy a b=true->a=b):∀ (xs ys:List D),gs s xs=true->gs s ys=true->kD xs ys=true->xs=ys:=by
 intro xs
 induction xs with
 | nil=>intro ys _ _ h; cases ys with
  | nil=>rfl
  | cons _ _=>cases h
 | cons x xs UH =>
  intro ys h1 h2 h
  cases ys with
  | nil=>cases h
  | cons y ys =>
   have h1:(cS s x&&gs s xs)=true:=h1
   have h2:(cS s y&&gs s ys)=true:=h2
   have h:(iy x y&&kD xs ys)=true:=h
   rw [aH] at h1 h2 h
   rw [ih x y h1.1 h2.1 h.1,UH ys h1.2 h2.2 h.2]
mutual
theorem pJ:∀ (sh:mI) (a b:D),cS sh a=true->cS sh b=true->iy a b=true->a=b
 | .int,a,b,h1,h2,h=>by
  first | obtain⟨_,rfl⟩:=dD h1 | obtain⟨_,rfl⟩:=dA h1 | obtain⟨_,rfl⟩:=dB h1
  first | obtain⟨_,rfl⟩:=dD h2 | obtain⟨_,rfl⟩:=dA h2 | obtain⟨_,rfl⟩:=dB h2
  rw [tT] at h; rw [beq_iff_eq.mp h]
 | .tup l,a,b,h1,h2,h=>by
  first | obtain⟨_,rfl⟩:=dD h1 | obtain⟨_,rfl⟩:=dA h1 | obtain⟨_,rfl⟩:=dB h1
  first | obtain⟨_,rfl⟩:=dD h2 | obtain⟨_,rfl⟩:=dA h2 | obtain⟨_,rfl⟩:=dB h2
  rw [N8 l _ _ h1 h2 h]
 | .lst l,a,b,h1,h2,h=>by
  first | obtain⟨_,rfl⟩:=dD h1 | obtain⟨_,rfl⟩:=dA h1 | obtain⟨_,rfl⟩:=dB h1
  first | obtain⟨_,rfl⟩:=dD h2 | obtain⟨_,rfl⟩:=dA h2 | obtain⟨_,rfl⟩:=dB h2
  rw [SW l (pJ l) _ _ h1 h2 h]
theorem N8:∀ (l:List mI) (xs ys:List D),e8 l xs=true->e8 l ys=true->kD xs ys=true->xs=ys
 | [],xs,ys,h1,h2,_=>by
  cases xs with
  | nil=>cases ys with
   | nil=>rfl
   | cons _ _=>cases h2
  | cons _ _=>cases h1
 | s :: l,xs,ys,h1,h2,h=>by
  cases xs with
  | nil=>cases h1
  | cons x xs =>
   cases ys with
   | nil=>cases h2
   | cons y ys =>
    have h1:(cS s x&&e8 l xs)=true:=h1
    have h2:(cS s y&&e8 l ys)=true:=h2
    have h:(iy x y&&kD xs ys)=true:=h
    rw [aH] at h1 h2 h
    rw [pJ s x y h1.1 h2.1 h.1,N8 l xs ys h1.2 h2.2 h.2]
end
theorem Nd(s:mI)(ih:∀ (a b:D),cS s a=true->cS s b=true->mH a b=false->mH b a=false->a=b):∀ (xs ys:List D),gs s xs=true->gs s ys=true->mG xs ys=false->mG ys xs=false->xs=ys:=by
 intro xs
 induction xs with
 | nil=>intro ys _ _ h _; cases ys with
  | nil=>rfl
  | cons _ _=>cases h
 | cons x xs UH =>
  intro ys h1 h2 h3 h4
  cases ys with
  | nil=>cases h4
  | cons y ys =>
   have h1:(cS s x&&gs s xs)=true:=h1
   have h2:(cS s y&&gs s ys)=true:=h2
   rw [aH] at h1 h2
   simp only [oW] at h3 h4
   by_cases e:iy x y=true
   ·have exy:=pJ s x y h1.1 h2.1 e
    subst exy
    rw [if_pos e] at h3 h4
    rw [UH ys h1.2 h2.2 h3 h4]
   ·rw [if_neg e] at h3
    by_cases e2:iy y x=true
    ·have:=pJ s y x h2.1 h1.1 e2
     subst this; exact absurd e2 e
    ·rw [if_neg e2] at h4
     have:=ih x y h1.1 h2.1 h3 h4
     subst this
     exact absurd (j9 s x h1.1) e
mutual
theorem x4:∀ (sh:mI) (a b:D),cS sh a=true->cS sh b=true->mH a b=false->mH b a=false->a=b
 | .int,a,b,h1,h2,h3,h4=>by
  first | obtain⟨_,rfl⟩:=dD h1 | obtain⟨_,rfl⟩:=dA h1 | obtain⟨_,rfl⟩:=dB h1
  first | obtain⟨_,rfl⟩:=dD h2 | obtain⟨_,rfl⟩:=dA h2 | obtain⟨_,rfl⟩:=dB h2
  simp [Nf] at h3 h4; congr 1; lia
 | .tup l,a,b,h1,h2,h3,h4=>by
  first | obtain⟨_,rfl⟩:=dD h1 | obtain⟨_,rfl⟩:=dA h1 | obtain⟨_,rfl⟩:=dB h1
  first | obtain⟨_,rfl⟩:=dD h2 | obtain⟨_,rfl⟩:=dA h2 | obtain⟨_,rfl⟩:=dB h2
  rw [EI l _ _ h1 h2 h3 h4]
 | .lst l,a,b,h1,h2,h3,h4=>by
  first | obtain⟨_,rfl⟩:=dD h1 | obtain⟨_,rfl⟩:=dA h1 | obtain⟨_,rfl⟩:=dB h1
  first | obtain⟨_,rfl⟩:=dD h2 | obtain⟨_,rfl⟩:=dA h2 | obtain⟨_,rfl⟩:=dB h2
  rw [Nd l (x4 l) _ _ h1 h2 h3 h4]
theorem EI:∀ (l:List mI) (xs ys:List D),e8 l xs=true->e8 l ys=true->mG xs ys=false->mG ys xs=false->xs=ys
 | [],xs,ys,h1,h2,_,_=>by
  cases xs with
  | nil=>cases ys with
   | nil=>rfl
   | cons _ _=>cases h2
  | cons _ _=>cases h1
 | s :: l,xs,ys,h1,h2,h3,h4=>by
  cases xs with
  | nil=>cases h1
  | cons x xs =>
   cases ys with
   | nil=>cases h2
   | cons y ys =>
    have h1:(cS s x&&e8 l xs)=true:=h1
    have h2:(cS s y&&e8 l ys)=true:=h2
    rw [aH] at h1 h2
    simp only [oW] at h3 h4
    by_cases e:iy x y=true
    ·have exy:=pJ s x y h1.1 h2.1 e
     subst exy
     rw [if_pos e] at h3 h4
     rw [EI l xs ys h1.2 h2.2 h3 h4]
    ·rw [if_neg e] at h3
     by_cases e2:iy y x=true
     ·have:=pJ s y x h2.1 h1.1 e2
      subst this; exact absurd e2 e
     ·rw [if_neg e2] at h4
      have:=x4 s x y h1.1 h2.1 h3 h4
      subst this
      exact absurd (j9 s x h1.1) e
end
mutual
theorem CA:∀ (sh:mI) (a:D),cS sh a=true->mH a a=false
 | .int,.int i,_=>by rw [Nf]; exact decide_eq_false (Int.lt_irrefl _)
 | .tup l,.tup xs,h=>by show mG xs xs=false; exact EJ l xs h
 | .lst l,.d0 xs,h=>by show mG xs xs=false; exact EK l xs h
theorem EJ:∀ (l:List mI) (xs:List D),e8 l xs=true->mG xs xs=false
 | [],[],_=>rfl
 | s :: l,x :: xs,h=>by
  have h:(cS s x&&e8 l xs)=true:=h
  rw [aH] at h
  simp only [oW,j9 s x h.1,if_true]; exact EJ l xs h.2
theorem EK:∀ (s:mI) (xs:List D),gs s xs=true->mG xs xs=false
 | _,[],_=>rfl
 | s,x :: xs,h=>by
  have h:(cS s x&&gs s xs)=true:=h
  rw [aH] at h
  simp only [oW,j9 s x h.1,if_true]; exact EK s xs h.2
end
theorem HC(s:mI)(ih:∀ (a b c:D),cS s a=true->cS s b=true->cS s c=true->mH a b=true->mH b c=true->mH a c=true):∀ (xs ys zs:List D),gs s xs=true->gs s ys=true->gs s zs=true->mG xs ys=true->mG ys zs=true->mG xs zs=true:=by
 intro xs
 induction xs with
 | nil =>
  intro ys zs _ _ _ h4 h5
  cases ys with
  | nil=>cases h4
  | cons _ _=>cases zs with
   | nil=>cases h5
   | cons _ _=>rfl
 | cons x xs UH =>
  intro ys zs h1 h2 h3 h4 h5
  cases ys with
  | nil=>cases h4
  | cons y ys =>
   cases zs with
   | nil=>cases h5
   | cons z zs =>
    have h1:(cS s x&&gs s xs)=true:=h1
    have h2:(cS s y&&gs s ys)=true:=h2
    have h3:(cS s z&&gs s zs)=true:=h3
    rw [aH] at h1 h2 h3
    simp only [oW] at h4 h5 ⊢
    by_cases e1:iy x y=true
    ·have:=pJ s x y h1.1 h2.1 e1
     subst this
     rw [if_pos e1] at h4
     by_cases e2:iy x z=true
     ·rw [if_pos e2] at h5 ⊢
      exact UH ys zs h1.2 h2.2 h3.2 h4 h5
     ·rw [if_neg e2] at h5 ⊢; exact h5
    ·rw [if_neg e1] at h4
     by_cases e2:iy y z=true
     ·have:=pJ s y z h2.1 h3.1 e2
      subst this
      rw [if_neg e1]; exact h4
     ·rw [if_neg e2] at h5
      have h6:=ih x y z h1.1 h2.1 h3.1 h4 h5
      rw [if_neg (fun e3=>by
       have:=pJ s x z h1.1 h3.1 e3
       subst this
       rw [CA s x h1.1] at h6; cases h6)]
      exact h6
mutual
theorem r8:∀ (sh:mI) (a b c:D),cS sh a=true->cS sh b=true->cS sh c=true->mH a b=true->mH b c=true->mH a c=true
 | .int,a,b,c,h1,h2,h3,h4,h5=>by
  first | obtain⟨_,rfl⟩:=dD h1 | obtain⟨_,rfl⟩:=dA h1 | obtain⟨_,rfl⟩:=dB h1
  first | obtain⟨_,rfl⟩:=dD h2 | obtain⟨_,rfl⟩:=dA h2 | obtain⟨_,rfl⟩:=dB h2
  first | obtain⟨_,rfl⟩:=dD h3 | obtain⟨_,rfl⟩:=dA h3 | obtain⟨_,rfl⟩:=dB h3
  simp [Nf] at *; lia
 | .tup l,a,b,c,h1,h2,h3,h4,h5=>by
  first | obtain⟨_,rfl⟩:=dD h1 | obtain⟨_,rfl⟩:=dA h1 | obtain⟨_,rfl⟩:=dB h1
  first | obtain⟨_,rfl⟩:=dD h2 | obtain⟨_,rfl⟩:=dA h2 | obtain⟨_,rfl⟩:=dB h2
  first | obtain⟨_,rfl⟩:=dD h3 | obtain⟨_,rfl⟩:=dA h3 | obtain⟨_,rfl⟩:=dB h3
  exact yX l _ _ _ h1 h2 h3 h4 h5
 | .lst l,a,b,c,h1,h2,h3,h4,h5=>by
  first | obtain⟨_,rfl⟩:=dD h1 | obtain⟨_,rfl⟩:=dA h1 | obtain⟨_,rfl⟩:=dB h1
  first | obtain⟨_,rfl⟩:=dD h2 | obtain⟨_,rfl⟩:=dA h2 | obtain⟨_,rfl⟩:=dB h2
  first | obtain⟨_,rfl⟩:=dD h3 | obtain⟨_,rfl⟩:=dA h3 | obtain⟨_,rfl⟩:=dB h3
  exact HC l (r8 l) _ _ _ h1 h2 h3 h4 h5
theorem yX:∀ (l:List mI) (xs ys zs:List D),e8 l xs=true->e8 l ys=true->e8 l zs=true->mG xs ys=true->mG ys zs=true->mG xs zs=true
 | [],xs,ys,zs,h1,h2,_,h,_=>by
  cases xs with
  | nil=>cases ys with
   | nil=>cases h
   | cons _ _=>cases h2
  | cons _ _=>cases h1
 | s :: l,xs,ys,zs,h1,h2,h3,h4,h5=>by
  cases xs with
  | nil=>cases h1
  | cons x xs =>
   cases ys with
   | nil=>cases h2
   | cons y ys =>
    cases zs with
    | nil=>cases h3
    | cons z zs =>
     have h1:(cS s x&&e8 l xs)=true:=h1
     have h2:(cS s y&&e8 l ys)=true:=h2
     have h3:(cS s z&&e8 l zs)=true:=h3
     rw [aH] at h1 h2 h3
     simp only [oW] at h4 h5 ⊢
     by_cases e1:iy x y=true
     ·have:=pJ s x y h1.1 h2.1 e1
      subst this
      rw [if_pos e1] at h4
      by_cases e2:iy x z=true
      ·rw [if_pos e2] at h5 ⊢
       exact yX l xs ys zs h1.2 h2.2 h3.2 h4 h5
      ·rw [if_neg e2] at h5 ⊢; exact h5
     ·rw [if_neg e1] at h4
      by_cases e2:iy y z=true
      ·have:=pJ s y z h2.1 h3.1 e2
       subst this
       rw [if_neg e1]; exact h4
      ·rw [if_neg e2] at h5
       have h6:=r8 s x y z h1.1 h2.1 h3.1 h4 h5
       rw [if_neg (fun e3=>by
        have:=pJ s x z h1.1 h3.1 e3
        subst this
        rw [CA s x h1.1] at h6; cases h6)]
       exact h6
end
theorem wb(sh:mI){a b:D}(h1:cS sh a=true)(h2:cS sh b=true)(h:mH a b=true):mH b a=false:=by
 cases q:mH b a with
 | false=>rfl
 | true=>have:=r8 sh a b a h1 h2 h1 h q; rw [CA sh a h1] at this; cases this
theorem tH(sh:mI){a b c:D}(h1:cS sh a=true)(h2:cS sh b=true)(h3:cS sh c=true)(q1:mH b a=false)(q2:mH c b=false):mH c a=false:=by
 cases h:mH c a with
 | false=>rfl
 | true =>
  exfalso
  cases q:mH a b with
  | false =>
   have:=x4 sh a b h1 h2 q q1
   subst this; rw [h] at q2; cases q2
  | true=>rw [r8 sh c a b h3 h1 h2 h q] at q2; cases q2
theorem lC(sh:mI){xs ys:List D}(hx:∀ x∈xs,cS sh x=true)(hp:ys.Perm xs)(hs:ys.Pairwise fun a b=>mH b a=false):mO xs=ys:=by
 have hy:∀ y∈ys,cS sh y=true:=fun y h=>hx y (hp.mem_iff.mp h)
 have p1:(mO xs).Perm xs:=List.mergeSort_perm xs OS
 have hz:∀ z∈mO xs,cS sh z=true:=fun z h=>hx z (p1.mem_iff.mp h)
 have s1:(mO xs).Pairwise fun a b=>mH b a=false:=by
  let TL:List { d:D // cS sh d=true }:=xs.attach.map fun x=>⟨x.1,hx x.1 x.2⟩
  have ex:xs=TL.map (·.1):=by
   simp only [TL,cc]
   conv=>lhs; rw [← List.attach_map_subtype_val xs]
   rfl
  have e2:mO xs=(TL.mergeSort fun a b=>OS a.1 b.1).map (·.1):=by
   unfold mO
   rw [ex]
   exact(List.map_mergeSort (r:=fun (a b:{ d:D // cS sh d=true })=>OS a.1 b.1) (s:=OS) (f:=fun x=>x.1) (l:=TL) fun a _ b _=>rfl).symm
  rw [e2,gT]
  have:=Lw (le:=fun (a b:{ d:D // cS sh d=true })=>OS a.1 b.1) (fun a b c h1 h2=>by
   unfold OS at *
   simp only [AS] at *
   exact tH sh a.2 b.2 c.2 h1 h2) (fun a b=>by
   unfold OS
   cases q:mH b.1 a.1 with
   | false=>rfl
   | true=>rw [wb sh b.2 a.2 q]; rfl) TL
  exact this.imp fun h=>by unfold OS at h; simpa using h
 refine DB (le:=fun a b=>mH b a=false) (fun a b ha hb h h'=>?_) s1 hs (p1.trans hp.symm)
 exact x4 sh a b (hz a ha) (hy b hb) h' h
end K2
end
section
namespace K2
open PySem (Str)
open Enc (enc)
noncomputable def mf(k:Nat):List D->List D
 | []=>[]
 | d :: r=>.tup [.int (k:Int),d] :: mf (k+1) r
theorem Bv:∀ (ds:List D) (k i:Nat),(mf k ds)[i]?=(ds[i]?).map fun d=>D.tup [.int ((k+i:Nat):Int),d]
 | [],k,i=>by simp [mf]
 | d :: r,k,0=>by simp [mf]
 | d :: r,k,i+1=>by
  rw [mf,af,Bv r (k+1) i,af]
  congr 1; funext x; congr 3; lia
theorem Bu:∀ (ds:List D) (k:Nat),(mf k ds).length=ds.length
 | [],_=>rfl
 | d :: r,k=>by rw [mf,ak,ak,Bu r]
noncomputable def u5(x:D)(G1:Gp)(R:List D->(Gp->Prop)->Gp->Prop):Prop:=match x with
 | .d0 ds=>R (mf 0 ds) (fun _=>True) G1
 | .ref p=>(match G1 p with
  | some (.lst ds)=>R (mf 0 ds) (fun G2=>G2 p=some (.lst ds)) G1
  | _=>False)
 | _=>False
noncomputable def zk(a:fW):O4:=fun E τ G R=>a E τ G fun x G1=>u5 x G1 R
noncomputable def X7(P:D->Gp->Prop):List D->Gp->Prop
 | [x],G=>P x G
 | _,_=>False
noncomputable def X6(P:D->D->Gp->Prop):List D->Gp->Prop
 | [x,y],G=>P x y G
 | _,_=>False
noncomputable def su:List D->List D->List D
 | x :: xs,y :: ys=>.tup [x,y] :: su xs ys
 | _,_=>[]
theorem DS:∀ (xs ys:List D) (i:Nat),(su xs ys)[i]?=(xs[i]?).bind fun x=>(ys[i]?).map fun y=>D.tup [x,y]
 | [],ys,i=>by simp [su]
 | x :: xs,[],i=>by cases h:(x :: xs)[i]? <;> simp [su]
 | x :: xs,y :: ys,0=>by simp [su]
 | x :: xs,y :: ys,i+1=>by rw [su,af,DS xs ys i,af,af]
theorem DR:∀ (xs ys:List D),(su xs ys).length=min xs.length ys.length
 | [],ys=>by simp [su]
 | x :: xs,[]=>by simp [su]
 | x :: xs,y :: ys=>by rw [su,ak,DR xs ys,ak,ak]; lia
noncomputable def y7(x:D)(G:Gp):Option (List D×(Gp->Prop)):=match x with
 | .d0 ds=>some (ds,fun _=>True)
 | .ref p=>(match G p with
  | some (.lst ds)=>some (ds,fun G2=>G2 p=some (.lst ds))
  | _=>none)
 | _=>none
noncomputable def zj(x y:D)(G1:Gp)(R:List D->(Gp->Prop)->Gp->Prop):Prop:=match y7 x G1,y7 y G1 with
 | some (xs,k1),some (ys,k2)=>R (su xs ys) (fun G2=>k1 G2/\k2 G2) G1
 | _,_=>False
noncomputable def Sz(a b:fW):O4:=fun E τ G R=>a E τ G fun x G1=>b E τ G1 fun y G2=>zj x y G2 R
noncomputable def x8(x:D)(G1:Gp)(R:List D->(Gp->Prop)->Gp->Prop):Prop:=match x with
 | .pC bp=>R (bp.map (·.1)) (fun _=>True) G1
 | _=>False
noncomputable def E5(a:fW):O4:=fun E τ G R=>a E τ G fun x G1=>x8 x G1 R
noncomputable def IsL(G:Gp)(d:D)(ds:List D):Prop:=d=.d0 ds\/∃ a,d=.ref a/\G a=some (.lst ds)
theorem IsL.d0{G:Gp}{ds:List D}:IsL G (.d0 ds) ds:=.inl rfl
theorem IsL.enc{α:Type} [DecidableEq α] [Enc α]{G:Gp}(xs:List α):IsL G (enc xs) (xs.map enc):=.inl rfl
theorem IsL.ref{G:Gp}{a:Nat}{ds:List D}(h:G a=some (.lst ds)):IsL G (.ref a) ds:=.inr ⟨a,rfl,h⟩
theorem DY{G:Gp}{d:D}{ds:List D}{Q:Bool->Gp->Prop}(h:IsL G d ds)(k:Q (!ds.isEmpty) G):sI d G Q:=by
 rcases h with rfl | ⟨a,rfl,e⟩
 ·exact k
 ·rw [Kh e]; exact k
theorem o6{G:Gp}{d:D}{ds:List D}(h:IsL G d ds):itemsOf d G=some ds:=by
 rcases h with rfl | ⟨a,rfl,e⟩
 ·rfl
 ·unfold itemsOf; simp only [e]
theorem ql{G:Gp}{d:D}{ds:List D}(h:IsL G d ds):AW d G:=by
 rcases h with rfl | ⟨a,rfl,e⟩
 ·trivial
 ·unfold AW; simp only [e]
theorem MM{G:Gp}{d:D}{ds:List D}{lo hi:Option Int}{Q:DK}(h:IsL G d ds)(k:i6 G (.lst (cut ds lo hi)) Q):RV d lo hi G Q:=by
 rcases h with rfl | ⟨a,rfl,e⟩
 ·exact k
 ·rw [PD e]; exact k
theorem vp{G:Gp}{d:D}{ds:List D}{Q:DK}(h:IsL G d ds)(k:Q (.int (ds.length:Int)) G):rF [d] G Q:=by
 rcases h with rfl | ⟨a,rfl,e⟩
 ·exact k
 ·rw [Ou e]; exact k
theorem FA{G:Gp}{d:D}{ds:List D}{Q:DK}(h:IsL G d ds)(k:i6 G (.lst ds) Q):xq [d] G Q:=by
 unfold xq; simp only [o6 h]; exact k
theorem Io{α:Type} [DecidableEq α] [Enc α] [bY α]{G:Gp}{d:D}{xs:List α}{Q:DK}(h:IsL G d (xs.map enc))(hl:xs.length < 64)(k:i6 G (.lst ((Ko xs).map enc)) Q)(ok:autoParam (M4 (bY.wZ α)=true) Ad._auto_1):ye [d] G Q :=
 ⟨bY.wZ α,xs.map enc,ql h,o6 h,by rw [BQ,iA]; intro x _; exact bY.HU x,ok,by rw [aj]; exact hl,by rw [A1]; exact k⟩
theorem jH{G:Gp}{d x:D}{ds:List D}{i:Int}{Q:DK}(h:IsL G d ds)(e:rK ds i=some x)(k:Q x G):lR d (.int i) G Q:=by
 rcases h with rfl | ⟨a,rfl,e2⟩
 ·rw [PG e]; exact k
 ·rw [PJ e2 e]; exact k
theorem yZ{G:Gp}{d:D}{ds:List D}(h:IsL G d ds):pH d G=some ds:=by
 rcases h with rfl | ⟨a,rfl,e⟩
 ·rfl
 ·unfold pH; simp only [e]
theorem QE{G:Gp}{d e:D}{ds es:List D}{Q:DK}(h:IsL G d ds)(h':IsL G e es)(hz:ds.length+es.length<=SZ)(k:i6 G (.lst (ds++es)) Q):Iu d e G Q:=by
 unfold Iu; simp only [yZ h,yZ h']; exact⟨hz,k⟩
theorem PL{G:Gp}{d e:D}{ds es:List D}{Q:DK}(h:IsL G d ds)(h':IsL G e es)(hz:ds.length+es.length<=SZ)(k:i6 G (.lst (ds++es)) Q):mF d e G Q:=by
 have:=QE h h' hz k
 rcases h with rfl | ⟨a,rfl,_⟩
 ·rw [uN]; exact this
 ·rw [uO]; exact this
theorem Oj{α:Type}(xs:List α)(i:Nat)(h:i<=xs.length):cut xs (some (i:Int)) none=xs.drop i:=by
 unfold cut jj
 simp only
 rw [if_neg (by lia),bH,GF h]
 exact fX (by rw [cJ]; lia)
theorem S3{α:Type}(xs:List α)(i:Nat)(h:i<=xs.length):cut xs none (some (i:Int))=xs.take i:=by
 unfold cut jj
 simp only
 rw [if_neg (by lia),bH,GF h]
 simp
theorem vm{α β:Type}(f:α->β)(xs:List α)(lo hi:Option Int):cut (xs.map f) lo hi=(cut xs lo hi).map f:=by
 unfold cut; rw [aj,Lx,List.map_drop]
theorem mY{α:Type}(xs:List α){k:Int}(h0:0<=k)(h1:k < xs.length):rK xs k=some (xs[k.toNat]'(by lia)):=by
 unfold rK EY
 rw [if_pos h0,if_pos h1]
 show xs[k.toNat]?=_
 exact ah (by lia)
theorem lP{n:Nat}{pre post:List D}{d:D}(h:fq 0 n=pre++d :: post):d=.int (pre.length:Int)/\pre.length < n:=by
 have hl:pre.length < n:=by
  have:=congrArg dg h
  simp [fq] at this; lia
 have:=congrArg (fun l=>l[pre.length]?) h
 simp only [fq,bu,List.getElem?_range hl] at this
 rw [bZ (aF _)] at this
 simp at this
 exact⟨this.symm,hl⟩
noncomputable def T4{α β:Type} [DecidableEq α] [Enc α] [DecidableEq β] [Enc β](pre:α->Prop)(f:α->β):mz:=fun ds G Q _=>∃ a:α,ds=[enc a]/\pre a/\Q (enc (f a)) G
noncomputable def W8{α β γ:Type} [DecidableEq α] [Enc α] [DecidableEq β] [Enc β] [DecidableEq γ] [Enc γ](pre:α->β->Prop)(f:α->β->γ):mz:=fun ds G Q _=>∃ (a:α) (b:β),ds=[enc a,enc b]/\pre a b/\Q (enc (f a b)) G
end K2
end
section
namespace K2
open PySem (Str)
open Enc (enc)
noncomputable abbrev TF2:=kc->gY->Gp->(List Str->Gp->Prop)->Prop
end K2
end
section
namespace K2
noncomputable def Ij(x:PySem.Str)(t:Ah):iz:=fun E _ τ G=>t E τ G fun ds _=>ds.length<=SZ/\E ⟨x,[]⟩ (fun _=>none)
end K2
namespace K2
open PySem (Str)
noncomputable def zJ(sp:mz)(t:Ah)(i:Nat)(cat:List Str)(th:iz):iz:=fun _ K τ G =>
 t (fun _ _=>False) τ G fun ds G1=>sp ds (fun _=>none) (fun _ _=>K.nx τ G1) fun ex _=>cat.contains ex.cls=true /\
  th (fun _ _=>False) ⟨fun oq G'=>K.nx (oq.set i none) G',fun _ _=>False,fun _ _=>False,fun _ _=>False⟩ (τ.set i (some (.exc ex.cls))) G1
end K2
namespace K2
open PySem (Str)
noncomputable def JO(all sub:List Str)(a:fW):fW:=fun E τ G Q=>a E τ G fun x G1=>match x with
 | .cY=>Q (.bl false) G1
 | .exc c=>all.contains c=true/\Q (.bl (sub.contains c)) G1
 | _=>False
end K2
namespace K2
open PySem (Str)
noncomputable def tU(sp:mz)(t:Ah):fW:=fun E τ G Q=>t E τ G fun ds G1=>sp ds G1 Q E
end K2
end
section
namespace K2
noncomputable def vU(b neg:Bool):D->Gp->DK->Prop:=fun x G Q=>match x with
 | .bl c=>Q (.bl (if neg then c != b else c == b)) G
 | _=>False
theorem Jd{b neg c:Bool}{G:Gp}{Q:DK}:vU b neg (.bl c) G Q=Q (.bl (if neg then c != b else c == b)) G:=rfl
end K2
end
section
namespace K2
open PySem (Str)
open Enc (enc)
noncomputable def h2(t:T2):Int:=PySem.reduceHash (PySem.Builtin.Tuple.tupleHashOf [PySem.hashInt t.a,PySem.hashInt t.b])
noncomputable def Nc(x:D)(ds:List D)(G:Gp)(Q:DK):Prop:=match x,ds with
 | .ref a,[y]=>∃ l m:List (T2×T2),G a=some (.jn (bV l))/\y=.pC (bV m)/\(l.length+m.length<=500/\((l++m).map (·.1)).Nodup/\(l=[]->(m.map fun p=>h2 p.1).Nodup))/\Q .cY (fN G a (.jn (bV (l++m))))
 | _,_=>False
noncomputable def Il(t:fW):fW:=fun E τ G Q=>t E τ G fun x G1=>∃ l:List (T2×T2),x=.pC (bV l)/\l.length<=500/\i6 G1 (.lst (l.map fun p=>enc p.2)) Q
noncomputable def sf(ds:List D)(G:Gp)(Q:DK):Prop:=match ds with
 | [x]=>∃ l:List T2,pH x G=some (l.map enc)/\(1<=l.length/\l.length < 64)/\∀ m:List T2,m.Nodup->(∀ y,y∈m↔y∈l)->i6 G (.lst ((Ko m).map enc)) Q
 | _=>False
noncomputable def Ld(neg:Bool)(ns:List Int)(a:fW):fW:=fun E τ G Q=>a E τ G fun x G1=>∃ i,x=.int i/\Q (.bl (if neg then !ns.contains i else ns.contains i)) G1
noncomputable def Oh(t:iz):iz:=fun _ K τ G=>t (fun _ _=>False) K τ G
end K2
end
section
namespace K2.S
open PySem PySem.SetTable
noncomputable def f5(m i:Nat):Nat:=(i * 5+1) % (m+1)
noncomputable def OU(m:Nat):Nat->Nat->Nat
 | 0,i=>i
 | k+1,i=>OU m k (f5 m i)
theorem x5(m:Nat):∀ (a b i:Nat),OU m (a+b) i=OU m b (OU m a i)
 | 0,b,i=>by rw [gz]; rfl
 | a+1,b,i=>by rw [Dw]; exact x5 m a b (f5 m i)
noncomputable def Mk(m:Nat):Prop:=m=7\/m=31\/m=127
noncomputable def Uk(m:Nat):Nat->Nat->List Nat
 | 0,_=>[]
 | k+1,i=>i :: Uk m k (f5 m i)
theorem Cj(m:Nat):∀ (n i e:Nat),e∈Uk m n i->∃ k,k < n/\OU m k i=e
 | 0,_,_,h=>by cases h
 | n+1,i,e,h=>by
  rcases List.mem_cons.mp h with rfl | h
  ·exact⟨0,kg _,rfl⟩
  ·obtain⟨k,hk,q⟩:=Cj m n (f5 m i) e h
   exact⟨k+1,Nat.succ_lt_succ hk,q⟩
theorem P5{m:Nat}(h:Mk m):(∀ e,e < m+1->e∈Uk m (m+1) 0)/\OU m (m+1) 0=0:=by
 have key:∀ m,((cG (m+1)).all fun e=>(Uk m (m+1) 0).contains e)=true->OU m (m+1) 0=0->(∀ e,e < m+1->e∈Uk m (m+1) 0)/\OU m (m+1) 0=0:=fun m h1 h2 =>
  ⟨fun e he=>by simpa using (List.all_eq_true.mp h1) e (List.mem_range.mpr he),h2⟩
 rcases h with rfl | rfl | rfl
 ·exact key _ (by decide +kernel) (by decide +kernel)
 ·exact key _ (by decide +kernel) (by decide +kernel)
 ·exact key _ (by decide +kernel) (by decide +kernel)
theorem cover{m:Nat}(h:Mk m){i e:Nat}(hi:i < m+1)(he:e < m+1):∃ k,k < m+1/\OU m k i=e:=by
 obtain⟨all,back⟩:=P5 h
 obtain⟨a,ha,qa⟩:=Cj m _ _ _ (all i hi)
 obtain⟨b,hb,qb⟩:=Cj m _ _ _ (all e he)
 by_cases c:a<=b
 ·refine⟨b - a,by lia,?_⟩
  rw [← qa,← x5,show a+(b - a)=b by lia,qb]
 ·refine⟨m+1 - a+b,by lia,?_⟩
  rw [← qa,← x5,show a+(m+1 - a+b)=(m+1)+b by lia,x5,back,qb]
noncomputable def lp(m:Nat):Nat->Nat×Nat->Nat×Nat
 | 0,x=>x
 | k+1,x=>lp m k (leap m x.1 x.2)
theorem Ng(m:Nat):∀ (a b:Nat) (x:Nat×Nat),lp m (a+b) x=lp m b (lp m a x)
 | 0,b,i=>by rw [gz]; rfl
 | a+1,b,i=>by rw [Dw]; exact Ng m a b _
theorem Jq(m:Nat):∀ (k:Nat) (x:Nat×Nat),(lp m k x).2=x.2 / 32 ^ k
 | 0,x=>by rw [Nat.pow_zero,Nat.div_one]; rfl
 | k+1,x=>by
  show (lp m k _).2=_
  rw [Jq m k]
  show x.2 / 32 / 32 ^ k=_
  rw [Nat.div_div_eq_div_mul,Nat.pow_succ,Nat.mul_comm]
theorem Jp(m:Nat):∀ (k i:Nat),lp m k (i,0)=(OU m k i,0)
 | 0,_=>rfl
 | k+1,i=>by
  show lp m k ((i * 5+1+0 / 32) % (m+1),0 / 32)=_
  rw [Nat.zero_div,Nat.add_zero]
  exact Jp m k _
theorem QX(m:Nat):∀ (k:Nat) (x:Nat×Nat),x.1 < m+1->(lp m k x).1 < m+1
 | 0,_,h=>h
 | k+1,x,_=>QX m k _ (jv _ (kg m))
theorem EM{m:Nat}(h:Mk m){x:Nat×Nat}(h1:x.1 < m+1)(h2:x.2 < 2 ^ 64){e:Nat}(he:e < m+1):∃ k,k < m+14/\(lp m k x).1=e:=by
 have z:(lp m 13 x).2=0:=by
  rw [Jq]; exact Nat.div_eq_of_lt (bJ h2 (by decide))
 obtain⟨k,hk,q⟩:=cover h (QX m 13 x h1) he
 refine⟨13+k,by lia,?_⟩
 rw [Ng,show lp m 13 x=((lp m 13 x).1,0) from by rw [← z],Jp]
 exact q
noncomputable def kP(m:Nat)(p:Probe):Probe :=
 if p.more > 0 then { p with j:=p.j+1,more:=p.more - 1 } else
 { p with j:=(leap m p.i p.perturb).1,more:=runEnd m (leap m p.i p.perturb).1 - (leap m p.i p.perturb).1,i:=(leap m p.i p.perturb).1,perturb:=(leap m p.i p.perturb).2 }
noncomputable def dR(m:Nat):Nat->Probe->Probe
 | 0,p=>p
 | k+1,p=>dR m k (kP m p)
theorem iX(m:Nat):∀ (a b:Nat) (p:Probe),dR m (a+b) p=dR m b (dR m a p)
 | 0,b,p=>by rw [gz]; rfl
 | a+1,b,p=>by rw [Dw]; exact iX m a b _
theorem Km(m k:Nat)(p:Probe):dR m (k+1) p=kP m (dR m k p):=iX m k 1 p
noncomputable def Lf(m:Nat)(x:Nat×Nat):Probe:={ j:=x.1,more:=runEnd m x.1 - x.1,i:=x.1,perturb:=x.2,dummy:=none }
theorem more_le(m i:Nat):runEnd m i - i<=9:=by unfold runEnd; split <;> lia
theorem uC(m:Nat):∀ (n:Nat) (p:Probe),p.more=n->p.dummy=none->dR m (n+1) p=Lf m (leap m p.i p.perturb)
 | 0,p,h,hd=>by
  show kP m p=_
  unfold kP
  rw [if_neg (by lia)]
  obtain⟨j,mo,i,pe,d⟩:=p
  cases hd; rfl
 | n+1,p,h,hd=>by
  show dR m (n+1) (kP m p)=_
  have e:kP m p={ p with j:=p.j+1,more:=p.more - 1 }:=by unfold kP; rw [if_pos (by lia)]
  rw [e]
  exact uC m n _ (by show p.more - 1=n; lia) hd
theorem VN(m:Nat):∀ (k:Nat) (x:Nat×Nat),∃ n,n<=10 * k/\dR m n (Lf m x)=Lf m (lp m k x)
 | 0,x=>⟨0,aF _,rfl⟩
 | k+1,x=>by
  obtain⟨n,hn,q⟩:=VN m k (leap m x.1 x.2)
  refine⟨(runEnd m x.1 - x.1+1)+n,?_,?_⟩
  ·have:=more_le m x.1; lia
  ·rw [iX,uC m (runEnd m x.1 - x.1) (Lf m x) rfl rfl]; exact q
structure Pb(m:Nat)(p:Probe):Prop where
 hi:p.i < m+1
 hp:p.perturb < 2 ^ 64
 hm:p.more<=9
 hd:p.dummy=none
theorem Pb.leap{m:Nat}{p:Probe}(h:Pb m p):(leap m p.i p.perturb).1 < m+1/\(leap m p.i p.perturb).2 < 2 ^ 64 :=
 ⟨jv _ (kg m),pV (Nat.div_le_self _ _) h.hp⟩
theorem Pb.kP{m:Nat}{p:Probe}(h:Pb m p):Pb m (kP m p):=by
 unfold S.kP
 split
 ·exact⟨h.hi,h.hp,cv (BN _ _) h.hm,h.hd⟩
 ·exact⟨h.leap.1,h.leap.2,more_le _ _,h.hd⟩
theorem Pb.dR{m:Nat}:∀ (k:Nat) {p:Probe},Pb m p->Pb m (dR m k p)
 | 0,_,h=>h
 | k+1,_,h=>Pb.dR k h.kP
theorem Pb.cover{m:Nat}(hm:Mk m){p:Probe}(h:Pb m p){e:Nat}(he:e < m+1):∃ n,n < 10 * turns m/\(S.dR m n p).j=e:=by
 obtain⟨k,hk,q⟩:=EM hm h.leap.1 h.leap.2 he
 obtain⟨n,hn,q2⟩:=VN m k (SetTable.leap m p.i p.perturb)
 refine⟨p.more+1+n,?_,?_⟩
 ·have:=h.hm; unfold turns; lia
 ·rw [iX,uC m p.more p rfl h.hd,q2]; exact q
theorem Pb.start(t:gO)(h:Int):Pb t.mask (t.probeStart h):=by
 refine⟨jv _ (kg _),?_,more_le _ _,rfl⟩
 show bits h < 2 ^ 64
 unfold bits
 have h1:0<=h % (2 ^ 64:Int):=jg _ (by decide)
 have h2:h % (2 ^ 64:Int) < 2 ^ 64:=gB _ (by decide)
 lia
end K2.S
end
section
namespace K2.S
open PySem PySem.SetTable
noncomputable def Up(xs:Array Nat):Prop:=∀ a b,a < b->b < xs.size->xs.getD a 0 < xs.getD b 0
theorem NZ(xs:Array Nat){k:Nat}(h:k < xs.size)(a b:Nat):xs.getD k a=xs.getD k b:=by
 rw [aZ,aZ,aX h]; rfl
theorem CN{xs:Array Nat}(up:Up xs)(j:Nat):∀ (fuel lo hi:Nat),hi - lo<=fuel->lo<=hi->hi<=xs.size->(∀ k,k < lo->xs.getD k 0 < j)->(∀ k,hi<=k->k < xs.size->j<=xs.getD k 0) ->
  below.go xs j fuel lo hi<=xs.size/\(∀ k,k < below.go xs j fuel lo hi->xs.getD k 0 < j)/\(∀ k,below.go xs j fuel lo hi<=k->k < xs.size->j<=xs.getD k 0)
 | 0,lo,hi,h1,h2,h3,h4,h5=>by
  have e:lo=hi:=by lia
  subst e
  exact⟨h3,h4,h5⟩
 | fuel+1,lo,hi,h1,h2,h3,h4,h5=>by
  show (below.go xs j (fuel+1) lo hi)<=_/\_
  unfold below.go
  by_cases c:lo < hi
  ·rw [if_pos c]
   have hm:(lo+hi) / 2 < xs.size:=by lia
   dsimp only
   rw [NZ xs hm j 0]
   by_cases q:xs.getD ((lo+hi) / 2) 0 < j
   ·rw [if_pos q]
    refine CN up j fuel _ _ (by lia) (by lia) h3 (fun k hk=>?_) h5
    by_cases e:k=(lo+hi) / 2
    ·rw [e]; exact q
    ·exact Pc (up _ _ (by lia) hm) q
   ·rw [if_neg q]
    refine CN up j fuel _ _ (by lia) (by lia) (by lia) h4 fun k hk hs=>?_
    by_cases e:k=(lo+hi) / 2
    ·rw [e]; lia
    ·have:=up ((lo+hi) / 2) k (by lia) hs; lia
  ·rw [if_neg c]
   exact⟨by lia,h4,fun k hk hs=>h5 k (by lia) hs⟩
theorem ph{xs:Array Nat}(up:Up xs)(j:Nat):below xs j<=xs.size/\(∀ k,k < below xs j->xs.getD k 0 < j)/\(∀ k,below xs j<=k->k < xs.size->j<=xs.getD k 0) :=
 CN up j _ _ _ (by lia) (by lia) (by lia) (fun k h=>by lia) (fun k h1 h2=>by lia)
theorem below_at{xs:Array Nat}(up:Up xs){k:Nat}(hk:k < xs.size):below xs (xs.getD k 0)=k:=by
 obtain⟨h1,h2,h3⟩:=ph up (xs.getD k 0)
 by_cases a:below xs (xs.getD k 0) < k
 ·have:=h3 _ (aF _) (by lia)
  have:=up _ _ a hk
  lia
 ·by_cases b:k < below xs (xs.getD k 0)
  ·have:=h2 _ b; lia
  ·lia
noncomputable def Full(xs:Array Nat)(j:Nat):Prop:=∃ k,k < xs.size/\xs.getD k 0=j
theorem Up.inj{xs:Array Nat}(up:Up xs){a b:Nat}(ha:a < xs.size)(hb:b < xs.size)(e:xs.getD a 0=xs.getD b 0):a=b:=by
 by_cases c:a < b
 ·have:=up _ _ c hb; lia
 ·by_cases d:b < a
  ·have:=up _ _ d ha; lia
  ·lia
theorem NX(xs:Array Nat){k:Nat}(h:k < xs.size):xs[k]?=some (xs.getD k 0):=by
 rw [aZ,aX h]; rfl
theorem A2{t:gO}(up:Up t.place){k:Nat}(hk:k < t.place.size):t.slot (t.place.getD k 0)=.live k:=by
 unfold slot
 dsimp only
 rw [below_at up hk,NX _ hk]
 rw [if_pos (by simp)]
theorem Hb{t:gO}(up:Up t.place)(dm:t.dummies=#[]){j:Nat}(h:¬ Full t.place j):t.slot j=.empty:=by
 unfold slot
 dsimp only
 have n1:(t.place[below t.place j]? == some j)=false:=by
  rw [Bool.eq_false_iff]
  intro q
  have q:=beq_iff_eq.mp q
  obtain⟨lt,e⟩:=Array.getElem?_eq_some_iff.mp q
  exact h ⟨_,lt,by rw [aZ,q]; rfl⟩
 rw [n1,dm]
 rfl
theorem Hd{t:gO}(up:Up t.place)(dm:t.dummies=#[])(j:Nat):(¬ Full t.place j/\t.slot j=.empty)\/(∃ k,k < t.place.size/\t.place.getD k 0=j/\t.slot j=.live k):=by
 by_cases h:Full t.place j
 ·obtain⟨k,hk,e⟩:=h
  exact .inr ⟨k,hk,e,e ▸ A2 up hk⟩
 ·exact .inl ⟨h,Hb up dm h⟩
theorem Ep{t:gO}(up:Up t.place)(dm:t.dummies=#[])(hashAt:Nat->Int)(h:Int):∀ (fuel:Nat) (p:Probe),Pb t.mask p->(∃ n,n < fuel/\¬ Full t.place (dR t.mask n p).j) ->
    ∃ n met,probe.go t hashAt h fuel p=some met/\(∀ n',n' < n->∃ k,k < t.place.size/\t.place.getD k 0=(dR t.mask n' p).j/\hashAt k≠h) /\
      ((¬ Full t.place (dR t.mask n p).j/\met=.empty (dR t.mask n p).j none) \/
       (∃ k,k < t.place.size/\t.place.getD k 0=(dR t.mask n p).j/\hashAt k=h/\met=.candidate (dR t.mask n p).j k (dR t.mask (n+1) p)))
  | 0,_,_,⟨n,hn,_⟩=>absurd hn (cu _)
  | fuel+1,p,hp,⟨n,hn,hf⟩=>by
    rcases Hd up dm p.j with ⟨nf,e⟩ | ⟨k,hk,ek,e⟩
    · refine⟨0,.empty p.j p.dummy,?_,fun n' z=>absurd z (cu _),.inl ⟨nf,by rw [hp.hd]; rfl⟩⟩
      unfold probe.go
      rw [e]
    · by_cases q:hashAt k=h
      · refine⟨0,.candidate p.j k (t.advance p),?_,fun n' z=>absurd z (cu _),.inr ⟨k,hk,ek,q,rfl⟩⟩
        unfold probe.go
        rw [e]
        dsimp only
        rw [if_pos (beq_iff_eq.mpr q)]
      · have hn0:∃ m,n=m+1:=by
          cases n with
          | zero=>exact absurd ⟨k,hk,ek⟩ hf
          | succ m=>exact⟨m,rfl⟩
        obtain⟨m,rfl⟩:=hn0
        obtain⟨n',met,g,all,fin⟩:=Ep up dm hashAt h fuel (kP t.mask p) hp.kP ⟨m,by lia,hf⟩
        refine⟨n'+1,met,?_,fun Y5 z=>?_,fin⟩
        · unfold probe.go
          rw [e]
          dsimp only
          rw [if_neg (fun z=>q (beq_iff_eq.mp z))]
          exact g
        · cases Y5 with
          | zero=>exact⟨k,hk,ek,q⟩
          | succ Y5=>exact all Y5 (by lia)
end K2.S
end
section
namespace K2.S
open PySem PySem.SetTable
noncomputable abbrev En:=Array (Int×Value)
noncomputable def hk(es:En)(k:Nat):Int:=(es[k]?.map (·.1)).getD 0
structure QJ(t:gO)(es:En):Prop where
 ms:Mk t.mask
 dm:t.dummies=#[]
 sz:t.place.size=es.size
 up:Up t.place
 le:∀ k,k < t.place.size->t.place.getD k 0<=t.mask
 lY:t.place.size<=t.mask
 way:∀ k,k < t.place.size->∃ n,(dR t.mask n (probeStart t (hk es k))).j=t.place.getD k 0/\∀ n',n' < n->Full t.place (dR t.mask n' (probeStart t (hk es k))).j
theorem NA{xs:Array Nat}(up:Up xs){m:Nat}(all:∀ e,e<=m->Full xs e):∀ e,e<=m->∀ k,k < xs.size->xs.getD k 0=e->e<=k
 | 0,_,_,_,_=>cD _
 | e+1,he,k,hk,q=>by
  obtain⟨k',OZ,q'⟩:=all e (by lia)
  have ih:=NA up all e (by lia) k' OZ q'
  have:k' < k:=by
   by_cases c:k' < k
   ·exact c
   ·by_cases d:k=k'
    ·subst d; lia
    ·have:=up k k' (by lia) OZ; lia
  lia
theorem Kq{xs:Array Nat}(up:Up xs){m:Nat}(lY:xs.size<=m):∃ e,e<=m/\¬ Full xs e:=by
 apply cA
 intro no
 have all:∀ e,e<=m->Full xs e:=fun e he=>cA fun z=>no ⟨e,he,z⟩
 obtain⟨k,hk,q⟩:=all m (aF _)
 have:=NA up all m (aF _) k hk q
 lia
theorem zx{t:gO}{es:En}(O:QJ t es)(p:Probe)(hp:Pb t.mask p):∃ N,N < 10 * turns t.mask/\¬ Full t.place (dR t.mask N p).j/\∀ n,n < N->Full t.place (dR t.mask n p).j:=by
 obtain⟨e,he,hf⟩:=Kq O.up O.lY
 obtain⟨n0,hn,q⟩:=hp.cover O.ms (show e < t.mask+1 by lia)
 have:∀ n,n<=n0->(∃ N,N < 10 * turns t.mask/\¬ Full t.place (dR t.mask N p).j/\∀ n,n < N->Full t.place (dR t.mask n p).j)\/(∀ n',n' < n->Full t.place (dR t.mask n' p).j):=by
  intro n
  induction n with
  | zero=>intro _; exact .inr fun n' z=>absurd z (cu _)
  | succ n ih =>
   intro HS
   rcases ih (by lia) with a | a
   ·exact .inl a
   ·by_cases c:Full t.place (dR t.mask n p).j
    ·refine .inr fun n' z=>?_
     by_cases d:n'=n
     ·rw [d]; exact c
     ·exact a n' (by lia)
    ·exact .inl ⟨n,by lia,c,a⟩
 rcases this n0 (aF _) with a | a
 ·exact a
 ·exact⟨n0,hn,by rw [q]; exact hf,a⟩
theorem gP{α:Type}(xs:Array α)(p:Nat)(x:α)(hp:p<=xs.size):(insertAt xs p x).size=xs.size+1:=by
 rw [← br,toList_insertAt,au,ak,dj,cJ,br]; lia
theorem u4{α:Type}(xs:Array α)(p:Nat)(x:α)(hp:p<=xs.size)(k:Nat):(insertAt xs p x)[k]?=if k < p then xs[k]? else if k=p then some x else xs[k - 1]?:=by
 rw [← ck,toList_insertAt]
 have hl:(xs.toList.take p).length=p:=by rw [dj,br]; lia
 by_cases c:k < p
 ·rw [if_pos c,cW (by lia),jY c,ck]
 ·rw [if_neg c,bZ (by lia),hl]
  by_cases d:k=p
  ·subst d; rw [if_pos rfl,Pa]; rfl
  ·rw [if_neg d,show k - p=(k - p - 1)+1 by lia,af,Aa,show p+(k - p - 1)=k - 1 by lia,ck]
theorem i4(xs:Array Nat)(p x:Nat)(hp:p<=xs.size)(k:Nat):(insertAt xs p x).getD k 0=if k < p then xs.getD k 0 else if k=p then x else xs.getD (k - 1) 0:=by
 rw [aZ,u4 xs p x hp]
 split
 ·rw [aZ]
 ·split
  ·rfl
  ·rw [aZ]
theorem Ky(t:gO)(dm:t.dummies=#[])(j:Nat):t.put j=({ t with place:=insertAt t.place (below t.place j) j },below t.place j):=by
 unfold SetTable.put
 dsimp only
 rw [dm]
 have:has #[] j=false:=rfl
 rw [this]
 cases t
 cases dm
 rfl
theorem Ff{xs:Array Nat}{p j:Nat}(hp:p<=xs.size){e:Nat}:Full (insertAt xs p j) e↔Full xs e\/e=j:=by
 constructor
 ·rintro⟨k,hk,q⟩
  rw [gP xs p j hp] at hk
  rw [i4 xs p j hp] at q
  by_cases c:k < p
  ·rw [if_pos c] at q; exact .inl ⟨k,by lia,q⟩
  ·rw [if_neg c] at q
   by_cases d:k=p
   ·rw [if_pos d] at q; exact .inr q.symm
   ·rw [if_neg d] at q; exact .inl ⟨k - 1,by lia,q⟩
 ·rintro(⟨k,hk,q⟩ | q)
  ·by_cases c:k < p
   ·exact⟨k,by rw [gP xs p j hp]; lia,by rw [i4 xs p j hp,if_pos c]; exact q⟩
   ·exact⟨k+1,by rw [gP xs p j hp]; lia,by rw [i4 xs p j hp,if_neg (by lia),if_neg (by lia)]; exact q⟩
  ·exact⟨p,by rw [gP xs p j hp]; lia,by rw [i4 xs p j hp,if_neg (by lia),if_pos rfl]; exact q.symm⟩
theorem QJ.add{t:gO}{es:En}(O:QJ t es){h:Int}{x:Value}{N:Nat}(h1:¬ Full t.place (dR t.mask N (probeStart t h)).j)(h2:∀ n,n < N->Full t.place (dR t.mask n (probeStart t h)).j)
  (hj:(dR t.mask N (probeStart t h)).j<=t.mask) (room:t.place.size+1<=t.mask) {t':gO} (e1:t'.mask=t.mask) (e2:t'.dummies=t.dummies)
  (e3:t'.place=insertAt t.place (below t.place (dR t.mask N (probeStart t h)).j) (dR t.mask N (probeStart t h)).j) :
  QJ t' (insertAt es (below t.place (dR t.mask N (probeStart t h)).j) (h,x)):=by
 generalize ej:(dR t.mask N (probeStart t h)).j=j at *
 obtain⟨b1,b2,b3⟩:=ph O.up j
 generalize below t.place j=p at *
 have Oz:p<=es.size:=by rw [← O.sz]; exact b1
 have RF:t'.place.size=t.place.size+1:=by rw [e3,gP _ _ _ b1]
 have xK:∀ h,probeStart t' h=probeStart t h:=fun h=>by unfold probeStart; rw [e1]
 have fl:∀ e,Full t.place e->Full t'.place e:=fun e z=>by rw [e3]; exact(Ff b1).mpr (.inl z)
 refine⟨by rw [e1]; exact O.ms,e2.trans O.dm,by rw [RF,gP _ _ _ Oz,O.sz],?_,?_,by rw [RF,e1]; exact room,?_⟩
 ·intro a b ab hb
  rw [RF] at hb
  rw [e3,i4 _ _ _ b1,i4 _ _ _ b1]
  by_cases c1:a < p
  ·rw [if_pos c1]
   by_cases c2:b < p
   ·rw [if_pos c2]; exact O.up a b ab (by lia)
   ·rw [if_neg c2]
    by_cases c3:b=p
    ·rw [if_pos c3]; exact b2 a c1
    ·rw [if_neg c3]
     by_cases c4:a=b - 1
     ·lia
     ·exact O.up a (b - 1) (by lia) (by lia)
  ·rw [if_neg c1,if_neg (by lia:¬ b < p),if_neg (by lia:¬ b=p)]
   by_cases c3:a=p
   ·rw [if_pos c3]
    have:=b3 (b - 1) (by lia) (by lia)
    by_cases c5:t.place.getD (b - 1) 0=j
    ·exact absurd ⟨b - 1,by lia,c5⟩ h1
    ·lia
   ·rw [if_neg c3]; exact O.up (a - 1) (b - 1) (by lia) (by lia)
 ·intro k hk
  rw [RF] at hk
  rw [e3,i4 _ _ _ b1,e1]
  by_cases c1:k < p
  ·rw [if_pos c1]; exact O.le k (by lia)
  ·rw [if_neg c1]
   by_cases c2:k=p
   ·rw [if_pos c2]; exact hj
   ·rw [if_neg c2]; exact O.le (k - 1) (by lia)
 ·intro k hk
  rw [RF] at hk
  have key:∀ k',k' < t.place.size->hk=hk->(insertAt es p (h,x))[k]?=es[k']?->t'.place.getD k 0=t.place.getD k' 0 ->
    ∃ n,(dR t'.mask n (probeStart t' (S.hk (insertAt es p (h,x)) k))).j=t'.place.getD k 0/\∀ n',n' < n->Full t'.place (dR t'.mask n' (probeStart t' (S.hk (insertAt es p (h,x)) k))).j:=by
   intro k' OZ _ ee ep
   obtain⟨n,q1,q2⟩:=O.way k' OZ
   have eh:S.hk (insertAt es p (h,x)) k=S.hk es k':=by unfold S.hk; rw [ee]
   rw [eh,xK,e1,ep]
   exact⟨n,q1,fun n' z=>fl _ (q2 n' z)⟩
  by_cases c1:k < p
  ·refine key k (by lia) rfl ?_ ?_
   ·rw [u4 _ _ _ Oz,if_pos c1]
   ·rw [e3,i4 _ _ _ b1,if_pos c1]
  ·by_cases c2:k=p
   ·have eh:S.hk (insertAt es p (h,x)) k=h:=by unfold S.hk; rw [u4 _ _ _ Oz,if_neg c1,if_pos c2]; rfl
    rw [eh,xK,e1,e3,i4 _ _ _ b1,if_neg c1,if_pos c2]
    refine⟨N,ej,fun n' z=>?_⟩
    exact(Ff b1).mpr (.inl (h2 n' z))
   ·refine key (k - 1) (by lia) rfl ?_ ?_
    ·rw [u4 _ _ _ Oz,if_neg c1,if_neg c2]
    ·rw [e3,i4 _ _ _ b1,if_neg c1,if_neg c2]
end K2.S
end
section
namespace K2.S
open PySem PySem.SetTable
theorem QO(m:Nat)(x:Nat×Nat):∀ n,n<=runEnd m x.1 - x.1->dR m n (Lf m x)={ Lf m x with j:=x.1+n,more:=runEnd m x.1 - x.1 - n }
 | 0,_=>rfl
 | n+1,h=>by
  rw [Km,QO m x n (by lia)]
  unfold kP
  dsimp only
  rw [if_pos (by lia)]
  rfl
theorem B8{m i:Nat}(h:i < m+1){n:Nat}(hn:n<=runEnd m i - i):i+n < m+1:=by
 unfold runEnd at hn
 split at hn <;> lia
noncomputable def ow(o:Array (Option Nat))(j:Nat):Option Nat:=o.getD j none
theorem P2{o:Array (Option Nat)}{j:Nat}(h:j < o.size):o.getD j (some 0)=ow o j:=by
 unfold ow; rw [aZ,aZ,aX h]; rfl
theorem QV{o:Array (Option Nat)}{j k:Nat}(h:ow o j=some k):j < o.size:=by
 apply cA
 intro z
 unfold ow at h
 rw [aZ,fV (by lia)] at h
 cases h
theorem Bs{m:Nat}{o:Array (Option Nat)}(sz:o.size=m+1):∀ (fuel:Nat) (x:Nat×Nat),x.1 < m+1->(∃ k,k < fuel/\ow o (lp m k x).1=none) ->
  ∃ n j,layClean.free m o fuel x.1 x.2=some j/\(dR m n (Lf m x)).j=j/\j < m+1/\ow o j=none/\∀ n',n' < n->(dR m n' (Lf m x)).j < m+1/\ow o (dR m n' (Lf m x)).j≠none
 | 0,_,_,⟨_,h,_⟩=>absurd h (cu _)
 | fuel+1,x,hx,⟨k,hk,q⟩=>by
  have pe:∀ n,n<=runEnd m x.1 - x.1->(o.getD (x.1+n) (some 0))=ow o (x.1+n):=fun n hn=>P2 (by rw [sz]; exact B8 hx hn)
  have pj:∀ n,n<=runEnd m x.1 - x.1->(dR m n (Lf m x)).j=x.1+n:=fun n hn=>by rw [QO m x n hn]
  have hre:x.1<=runEnd m x.1:=by unfold runEnd; split <;> lia
  cases hf:(cG (runEnd m x.1+1 - x.1)).find? fun k=>(o.getD (x.1+k) (some 0)).isNone with
  | some n =>
   obtain⟨h1,h2,h3⟩:=List.find?_range_eq_some.mp hf
   have hn:n<=runEnd m x.1 - x.1:=by have:=List.mem_range.mp h2; lia
   rw [pe n hn] at h1
   refine⟨n,x.1+n,?_,pj n hn,B8 hx hn,Option.isNone_iff_eq_none.mp h1,fun n' z=>?_⟩
   ·unfold layClean.free; rw [hf]
   ·have HS:n'<=runEnd m x.1 - x.1:=by lia
    have:=h3 n' z
    rw [pe n' HS] at this
    rw [pj n' HS]
    refine⟨B8 hx HS,fun e=>?_⟩
    rw [e] at this; cases this
  | none =>
   have h3:=List.find?_range_eq_none.mp hf
   have all:∀ n',n'<=runEnd m x.1 - x.1->ow o (x.1+n')≠none:=fun n' HS e=>by
    have:=h3 n' (by lia)
    rw [pe n' HS,e] at this; cases this
   obtain⟨k,rfl⟩:∃ k',k=k'+1:=by
    cases k with
    | zero=>exact absurd q (all 0 (cD _))
    | succ k=>exact⟨k,rfl⟩
   obtain⟨n,j,g,gj,hj,gn,ga⟩:=Bs sz fuel (leap m x.1 x.2) (jv _ (kg m)) ⟨k,by lia,q⟩
   refine⟨(runEnd m x.1 - x.1+1)+n,j,?_,?_,hj,gn,fun n' z=>?_⟩
   ·unfold layClean.free; rw [hf]; exact g
   ·rw [iX,uC m (runEnd m x.1 - x.1) (Lf m x) rfl rfl]; exact gj
   ·by_cases c:n'<=runEnd m x.1 - x.1
    ·rw [pj n' c]; exact⟨B8 hx c,all n' c⟩
    ·have e:n'=(runEnd m x.1 - x.1+1)+(n' - (runEnd m x.1 - x.1+1)):=by lia
     rw [e,iX,uC m (runEnd m x.1 - x.1) (Lf m x) rfl rfl]
     exact ga _ (by lia)
theorem pig:∀ (L:Nat) (l:List Nat),l.Nodup->(∀ x∈l,x < L)->l.length<=L
 | 0,l,_,h=>by
  cases l with
  | nil=>exact aF _
  | cons a r=>exact absurd (h a aE) (cu _)
 | L+1,l,hn,h=>by
  have:=pig L (l.erase L) (hn.erase L) fun x hx=>by
   have:=(hn.mem_erase_iff).mp hx
   have:=h x this.2
   lia
  rw [List.length_erase] at this
  split at this <;> lia
noncomputable def xK(m:Nat)(h:Int):Probe:=Lf m (bits h % (m+1),bits h)
structure Lay(m:Nat)(hs:List Int)(o:Array (Option Nat)):Prop where
 sz:o.size=m+1
 lt:∀ j k,ow o j=some k->k < hs.length
 one:∀ k,k < hs.length->∃ j,ow o j=some k
 WZ:∀ j j' k,ow o j=some k->ow o j'=some k->j=j'
 way:∀ j k,ow o j=some k->∃ n,(dR m n (xK m (hs.getD k 0))).j=j/\∀ n',n' < n->ow o (dR m n' (xK m (hs.getD k 0))).j≠none
theorem Lay.nil(m:Nat):Lay m [] (Array.replicate (m+1) none):=by
 have no:∀ j,ow (Array.replicate (m+1) none) j=none:=fun j=>by
  unfold ow
  rw [aZ,Array.getElem?_replicate]
  split <;> rfl
 refine⟨Array.size_replicate,fun j k h=>?_,fun k h=>absurd h (cu _),fun j j' k h=>?_,fun j k h=>?_⟩ <;> (rw [no] at h; cases h)
theorem Lay.free{m:Nat}{hs:List Int}{o:Array (Option Nat)}(L:Lay m hs o)(lY:hs.length<=m):∃ j,j < m+1/\ow o j=none:=by
 apply cA
 intro no
 have all:∀ j,j < m+1->ow o j≠none:=fun j hj e=>no ⟨j,hj,e⟩
 have nd:((cG (m+1)).map fun j=>(ow o j).getD 0).Nodup:=by
  rw [jw,gT]
  refine Ae (fun {a b} ha hb my e=>?_) (List.nodup_iff_pairwise_ne.mp (List.nodup_range (n:=m+1)))
  obtain⟨x,hx⟩:=Option.ne_none_iff_exists'.mp (all a (List.mem_range.mp ha))
  obtain⟨y,hy⟩:=Option.ne_none_iff_exists'.mp (all b (List.mem_range.mp hb))
  rw [hx,hy] at e
  have e:x=y:=e
  subst e
  exact my (L.WZ a b x hx hy)
 have:=pig hs.length _ nd fun x hx=>by
  obtain⟨j,hj,rfl⟩:=List.mem_map.mp hx
  obtain⟨k,e⟩:=Option.ne_none_iff_exists'.mp (all j (List.mem_range.mp hj))
  rw [e]; exact L.lt j k e
 rw [aj,gU] at this
 lia
theorem Hh{o:Array (Option Nat)}{j k:Nat}(hj:j < o.size)(i:Nat):ow (o.setIfInBounds j (some k)) i=if j=i then some k else ow o i:=by
 unfold ow
 rw [aZ,Array.getElem?_setIfInBounds]
 by_cases c:j=i
 ·rw [if_pos c,if_pos c,if_pos hj]; rfl
 ·rw [if_neg c,if_neg c,aZ]
theorem Lay.step{m:Nat}(hm:Mk m){hs:List Int}{o:Array (Option Nat)}(L:Lay m hs o)(lY:hs.length<=m)(h:Int) :
  ∃ j,layClean.free m o (turns m) (bits h % (m+1)) (bits h)=some j/\Lay m (hs++[h]) (o.setIfInBounds j (some hs.length)):=by
 obtain⟨e,he,hf⟩:=L.free lY
 have hb:bits h < 2 ^ 64:=by
  unfold bits
  have h1:0<=h % (2 ^ 64:Int):=jg _ (by decide)
  have h2:h % (2 ^ 64:Int) < 2 ^ 64:=gB _ (by decide)
  lia
 have hx:bits h % (m+1) < m+1:=jv _ (kg m)
 obtain⟨k,hk,q⟩:=EM hm (x:=(bits h % (m+1),bits h)) hx hb he
 obtain⟨n,j,g,gj,hj,gn,ga⟩:=Bs L.sz (turns m) (bits h % (m+1),bits h) hx ⟨k,by unfold turns; lia,by rw [q]; exact hf⟩
 have hjs:j < o.size:=by rw [L.sz]; exact hj
 have old:∀ i k,ow o i=some k->ow (o.setIfInBounds j (some hs.length)) i=some k:=fun i k z=>by
  rw [Hh hjs,if_neg (fun z2:j=i=>by rw [← z2,gn] at z; cases z)]; exact z
 have inv:∀ i k,ow (o.setIfInBounds j (some hs.length)) i=some k->(i=j/\k=hs.length)\/(i≠j/\ow o i=some k/\k < hs.length):=fun i k z=>by
  rw [Hh hjs] at z
  by_cases c:j=i
  ·rw [if_pos c] at z; cases z; exact .inl ⟨c.symm,rfl⟩
  ·rw [if_neg c] at z; exact .inr ⟨fun z2=>c z2.symm,z,L.lt _ _ z⟩
 have nn:∀ i,ow o i≠none->ow (o.setIfInBounds j (some hs.length)) i≠none:=fun i z=>by
  obtain⟨k,e⟩:=Option.ne_none_iff_exists'.mp z
  rw [old i k e]; exact fun z=>by cases z
 refine⟨j,g,⟨by rw [Array.size_setIfInBounds]; exact L.sz,fun i k z=>?_,fun k hk=>?_,fun i i' k z z'=>?_,fun i k z=>?_⟩⟩
 ·rw [au,cE]
  rcases inv i k z with ⟨_,rfl⟩ | ⟨_,_,hk⟩ <;> lia
 ·rw [au,cE] at hk
  by_cases c:k=hs.length
  ·exact⟨j,by rw [Hh hjs,if_pos rfl,c]⟩
  ·obtain⟨i,z⟩:=L.one k (by lia)
   exact⟨i,old i k z⟩
 ·rcases inv i k z with ⟨a,b⟩ | ⟨a,b,c⟩ <;> rcases inv i' k z' with ⟨a',b'⟩ | ⟨a',b',c'⟩
  ·rw [a,a']
  ·lia
  ·lia
  ·exact L.WZ i i' k b b'
 ·rcases inv i k z with ⟨a,b⟩ | ⟨a,b,c⟩
  ·have e:(hs++[h]).getD k 0=h:=by rw [b,aL,bZ (aF _),Pa]; rfl
   rw [e,a]
   exact⟨n,gj,fun n' z=>nn _ (ga n' z).2⟩
  ·have e:(hs++[h]).getD k 0=hs.getD k 0:=by rw [aL,cW c,← aL]
   rw [e]
   obtain⟨n,q1,q2⟩:=L.way i k b
   exact⟨n,q1,fun n' z=>nn _ (q2 n' z)⟩
theorem Js{m:Nat}(hm:Mk m):∀ (hs:List Int) (NG:List Int) (o:Array (Option Nat)),Lay m NG o->NG.length+hs.length<=m+1 ->
  ∃ o',hs.foldl (fun acc h=>do
   let (owner,k) ← acc
   let j ← layClean.free m owner (turns m) (bits h % (m+1)) (bits h)
   pure (owner.setIfInBounds j (some k),k+1)) (some (o,NG.length))=some (o',(NG++hs).length)/\Lay m (NG++hs) o'
 | [],NG,o,L,_=>⟨o,by rw [bS]; rfl,by rw [bS]; exact L⟩
 | h :: hs,NG,o,L,lY=>by
  obtain⟨j,g,L'⟩:=L.step hm (by rw [ak] at lY; lia) h
  obtain⟨o',e,L''⟩:=Js hm hs (NG++[h]) _ L' (by rw [au,cE]; rw [ak] at lY; lia)
  rw [cH,List.singleton_append] at e L''
  refine⟨o',?_,L''⟩
  rw [dJ]
  rw [au,cE] at e
  rw [← e]
  congr 1
  show (do let j ← layClean.free m o (turns m) (bits h % (m+1)) (bits h); pure (o.setIfInBounds j (some NG.length),NG.length+1))=_
  rw [g]; rfl
theorem EO{m:Nat}(hm:Mk m)(hs:Array Int)(lY:hs.size<=m+1):∃ o,layClean m hs=some o/\Lay m hs.toList o:=by
 obtain⟨o,e,L⟩:=Js hm hs.toList [] _ (Lay.nil m) (by rw [ay,br]; lia)
 refine⟨o,?_,L⟩
 unfold layClean
 rw [← Array.foldl_toList]
 rw [ay] at e
 rw [e]
 rfl
end K2.S
end
section
namespace K2.S
open PySem PySem.SetTable
theorem N5(es:En):∀ (l:List Nat),(∀ k∈l,k < es.size)->l.filterMap (es[·]?)=l.map fun k=>es.getD k (0,.none)
 | [],_=>rfl
 | k :: l,h=>by
  have hk:k < es.size:=h k aE
  have e:es[k]?=some (es.getD k (0,.none)):=by rw [aZ,aX hk]; rfl
  rw [rO e,ax,N5 es l fun x hx=>h x (av _ hx)]
theorem Qf{m:Nat}(hm:Mk m)(es:En)(lY:es.size<=m)(finger moves:Nat)(led plain:Bool) :
  ∃ t' order,laid m finger moves led plain (es.map (·.1))=some (t',order)/\t'.mask=m/\t'.led=led/\t'.plain=plain/\(order.filterMap (es[·]?)).size=es.size /\
   List.Perm (order.filterMap (es[·]?)).toList es.toList/\QJ t' (order.filterMap (es[·]?)):=by
 obtain⟨o,e,L⟩:=EO hm (es.map (·.1)) (by rw [Array.size_map]; lia)
 have hl:(es.map (·.1)).toList.length=es.size:=by rw [br,Array.size_map]
 generalize hlv:((cG (m+1)).filterMap fun j=>(o.getD j none).map (j,·))=lv
 have mem:∀ p:Nat×Nat,p∈lv↔ow o p.1=some p.2:=by
  rintro⟨j,k⟩
  rw [← hlv,List.mem_filterMap]
  constructor
  ·rintro⟨a,_,q⟩
   obtain⟨b,hb,q⟩:=Option.map_eq_some_iff.mp q
   cases q; exact hb
  ·intro q
   exact⟨j,List.mem_range.mpr (by have:=QV q; rw [L.sz] at this; exact this),Option.map_eq_some_iff.mpr ⟨k,q,rfl⟩⟩
 have asc:lv.Pairwise fun a b=>a.1 < b.1:=by
  rw [← hlv]
  refine List.Pairwise.filterMap _ (fun a a' r b hb b' K5=>?_) (List.pairwise_lt_range (n:=m+1))
  obtain⟨_,_,rfl⟩:=Option.map_eq_some_iff.mp hb
  obtain⟨_,_,rfl⟩:=Option.map_eq_some_iff.mp K5
  exact r
 have nd:(lv.map (·.2)).Nodup:=by
  rw [jw,gT]
  refine Ae (fun {a b} ha hb r e=>?_) asc
  have h1:=(mem a).mp ha
  have h2:=(mem b).mp hb
  rw [e] at h1
  have:=L.WZ _ _ _ h1 h2
  lia
 have pm:(lv.map (·.2)).Perm (cG es.size):=by
  refine(GG nd List.nodup_range).mpr fun k=>?_
  rw [List.mem_range,List.mem_map]
  constructor
  ·rintro⟨p,hp,rfl⟩
   have:=L.lt _ _ ((mem p).mp hp)
   rw [hl] at this; exact this
  ·intro hk
   obtain⟨j,q⟩:=L.one k (by rw [hl]; exact hk)
   exact⟨(j,k),(mem _).mpr q,rfl⟩
 have ll:lv.length=es.size:=by have:=pm.length_eq; rw [aj,gU] at this; exact this
 have inb:∀ k∈lv.map (·.2),k < es.size:=fun k hk=>List.mem_range.mp (pm.mem_iff.mp hk)
 have es':((lv.map (·.2)).toArray.filterMap (es[·]?)).toList=lv.map fun p=>es.getD p.2 (0,.none):=by
  rw [LA,N5 es _ inb,cc]; rfl
 have pes:List.Perm ((lv.map (·.2)).toArray.filterMap (es[·]?)).toList es.toList:=by
  rw [LA]
  refine(pm.filterMap _).trans ?_
  rw [filterMap_getElem?_range]
 have ges:∀ i,((lv.map (·.2)).toArray.filterMap (es[·]?))[i]?=lv[i]?.map fun p:Nat×Nat=>es.getD p.2 (0,.none):=fun i=>by
  rw [← ck,es',bu]
 have szs:((lv.map (·.2)).toArray.filterMap (es[·]?)).size=es.size:=by
  rw [← br,pes.length_eq,br]
 have Vf:∀ i (hi:i < lv.length),(lv.map (·.1)).toArray.getD i 0=lv[i].1:=fun i hi=>by
  rw [aZ,OL,bu,ah hi]; rfl
 have Th:(lv.map (·.1)).toArray.size=es.size:=by rw [aP,aj,ll]
 have ful:∀ j,ow o j≠none->Full (lv.map (·.1)).toArray j:=fun j z=>by
  obtain⟨k,q⟩:=Option.ne_none_iff_exists'.mp z
  obtain⟨i,hi,ei⟩:=dI ((mem (j,k)).mpr q)
  exact⟨i,by rw [Th,← ll]; exact hi,by rw [Vf i hi,ei]⟩
 refine⟨{ mask:=m,place:=(lv.map (·.1)).toArray,dummies:=#[],finger,led,moves,plain },(lv.map (·.2)).toArray,?_,rfl,rfl,rfl,szs,pes,?_⟩
 ·unfold laid
  rw [e]
  show some _=some _
  rw [hlv]
 ·refine⟨hm,rfl,by show (lv.map (·.1)).toArray.size=_; rw [Th,szs],?_,?_,by show (lv.map (·.1)).toArray.size<=m; rw [Th]; exact lY,?_⟩
  ·intro a b ab hb
   have hb:b < lv.length:=by rw [ll,← Th]; exact hb
   show (lv.map (·.1)).toArray.getD a 0 < (lv.map (·.1)).toArray.getD b 0
   rw [Vf a (by lia),Vf b hb]
   exact List.pairwise_iff_getElem.mp asc a b (by lia) hb ab
  ·intro k hk
   have hk:k < lv.length:=by rw [ll,← Th]; exact hk
   show (lv.map (·.1)).toArray.getD k 0<=m
   rw [Vf k hk]
   have:=QV ((mem _).mp (bT hk))
   rw [L.sz] at this; lia
  ·intro k hk
   have hk:k < lv.length:=by rw [ll,← Th]; exact hk
   have hi:=(mem _).mp (bT hk)
   have nB:=inb lv[k].2 (cV (bT hk))
   have eh:S.hk ((lv.map (·.2)).toArray.filterMap (es[·]?)) k=(es.map (·.1)).toList.getD lv[k].2 0:=by
    unfold S.hk
    rw [ges,ah hk,aL,ck,Array.getElem?_map,aX nB]
    show (es.getD lv[k].2 (0,.none)).1=(es[lv[k].2]).1
    rw [aZ,aX nB]; rfl
   rw [eh]
   obtain⟨n,q1,q2⟩:=L.way _ _ hi
   refine⟨n,?_,fun n' z=>ful _ (q2 n' z)⟩
   show _=(lv.map (·.1)).toArray.getD k 0
   rw [Vf k hk]; exact q1
end K2.S
end
section
namespace K2
open PySem PySem.Spec PyProof.Rows L2
noncomputable def TF(K:ag)(H:Hp)(a:Addr)(xs:List V):Prop :=
 (∃ o,H a=some (.kQ o (.lst xs))) \/
  ∃ (o:Obj) (bB:Array Value) (n:Nat),K.lookup a=some o/\o.cls=.type "list"/\o.dict=none/\o.data=.seq bB n/\bB.size<=bc/\Vals xs bB.toList
theorem TF.sq{K:ag}{H:Hp}{a:Addr}{xs:List V}(h:TF K H a xs):pM K H a xs:=by
 rcases h with ⟨o,h⟩ | h
 ·exact .inl (.inr ⟨o,h⟩)
 ·exact .inr h
noncomputable def dP:Key->D
 | .inl i=>.int i
 | .inr x=>.str x
noncomputable def ExcAt(K:ag)(H:Hp)(a:Addr)(c:Str):Prop:=∃ (o:Obj) (C:Addr),H a=some (.kQ o (.ext fun h=>h.get? a=some o))/\o.cls=.ref C/\aR K aN c=some (some (.ref C))
mutual
inductive cL (K:ag) (H:Hp):V->D->Prop
 | cY:cL K H .cY .cY
 | bl (b:Bool):cL K H (.bl b) (.bl b)
 | int (i:Int):cL K H (.int i) (.int i)
 | str (x:Str):cL K H (.str x) (.str x)
 | tup {a:Addr} {vs:List V} {ds:List D}:H a=some (.tup vs)->bb K H vs ds->cL K H (.ref a) (.tup ds)
 | d0 {a:Addr} {vs:List V} {ds:List D}:TF K H a vs->bb K H vs ds->cL K H (.ref a) (.d0 ds)
 | pR {a:Addr} {o:Obj} {kv:List (Key×V)} {bp:List (D×D)}:H a=some (.kQ o (.dK kv))->oh K H kv bp->cL K H (.ref a) (.pC bp)
 | pQ {a:Addr} {o:Obj} {kv:List (List Key×V)} {bp:List (D×D)}:H a=some (.kQ o (.dT kv))->kR K H kv bp->cL K H (.ref a) (.pC bp)
 | ref (a:Addr):cL K H (.ref a) (.ref a)
 | exc {a:Addr} {c:Str}:ExcAt K H a c->cL K H (.ref a) (.exc c)
inductive bb (K:ag) (H:Hp):List V->List D->Prop
 | nil:bb K H [] []
 | cons {v:V} {d:D} {vs:List V} {ds:List D}:cL K H v d->bb K H vs ds->bb K H (v :: vs) (d :: ds)
inductive oh (K:ag) (H:Hp):List (Key×V)->List (D×D)->Prop
 | nil:oh K H [] []
 | cons {k:Key} {v:V} {d:D} {r:List (Key×V)} {t:List (D×D)}:cL K H v d->oh K H r t->oh K H ((k,v) :: r) ((dP k,d) :: t)
inductive kR (K:ag) (H:Hp):List (List Key×V)->List (D×D)->Prop
 | nil:kR K H [] []
 | cons {k:List Key} {v:V} {d:D} {r:List (List Key×V)} {t:List (D×D)}:cL K H v d->kR K H r t->kR K H ((k,v) :: r) ((.tup (k.map dP),d) :: t)
end
structure Kp(H H':Hp):Prop where
 tup:∀ a xs,H a=some (.tup xs)->H' a=some (.tup xs)
 kQ:∀ a o u,H a=some (.kQ o u)->H' a=some (.kQ o u)
theorem Kp.refl(H:Hp):Kp H H:=⟨fun _ _ h=>h,fun _ _ _ h=>h⟩
theorem Kp.trans{H H1 H2:Hp}(a:Kp H H1)(b:Kp H1 H2):Kp H H2:=⟨fun c xs h=>b.tup c xs (a.tup c xs h),fun c o u h=>b.kQ c o u (a.kQ c o u h)⟩
theorem Kp.sqT{K:ag}{H H':Hp}{a:Addr}{xs:List V}(k:Kp H H')(h:zT K H a xs):zT K H' a xs:=by
 rcases h with (h | ⟨o,h⟩) | h
 ·exact .inl (.inl (k.tup _ _ h))
 ·exact .inl (.inr ⟨o,k.kQ _ _ _ h⟩)
 ·exact .inr h
theorem Kp.RM{K:ag}{H H':Hp}{a:Addr}{xs:List V}(k:Kp H H')(h:TF K H a xs):TF K H' a xs:=by
 rcases h with ⟨o,h⟩ | h
 ·exact .inl ⟨o,k.kQ _ _ _ h⟩
 ·exact .inr h
theorem ExcAt.mono{K:ag}{H H':Hp}(k:Kp H H'){a:Addr}{c:Str}(h:ExcAt K H a c):ExcAt K H' a c :=
 let ⟨o,C,h1,h2,h3⟩:=h
 ⟨o,C,k.kQ _ _ _ h1,h2,h3⟩
theorem bb.E4{K:ag}{H:Hp}{P:List V->List D->Prop}(h0:P [] [])(h1:∀ {v:V} {d:D} {vs:List V} {ds:List D},cL K H v d->bb K H vs ds->P vs ds->P (v :: vs) (d :: ds)){vs:List V}{ds:List D}(h:bb K H vs ds):P vs ds :=
 bb.rec (motive_1:=fun _ _ _=>True) (motive_2:=fun vs ds _=>P vs ds) (motive_3:=fun _ _ _=>True) (motive_4:=fun _ _ _=>True) trivial (fun _=>trivial) (fun _=>trivial) (fun _=>trivial) (fun _ _ _=>trivial) (fun _ _ _=>trivial) (fun _ _ _=>trivial) (fun _ _ _=>trivial) (fun _=>trivial) (fun _=>trivial) h0 (fun a b _ ih=>h1 a b ih) trivial (fun _ _ _ _=>trivial) trivial (fun _ _ _ _=>trivial) h
theorem cL.mono{K:ag}{H H':Hp}(k:Kp H H'):∀ {v:V} {d:D},cL K H v d->cL K H' v d:=fun h =>
 cL.rec (motive_1:=fun v d _=>cL K H' v d) (motive_2:=fun v d _=>bb K H' v d) (motive_3:=fun v d _=>oh K H' v d) (motive_4:=fun v d _=>kR K H' v d)
  .cY .bl .int .str (fun h _ r=>.tup (k.tup _ _ h) r) (fun h _ r=>.d0 (k.RM h) r) (fun h _ r=>.pR (k.kQ _ _ _ h) r) (fun h _ r=>.pQ (k.kQ _ _ _ h) r) .ref (fun h=>.exc (h.mono k)) .nil (fun _ _ a b=>.cons a b) .nil (fun _ _ a b=>.cons a b) .nil (fun _ _ a b=>.cons a b) h
theorem bb.mono{K:ag}{H H':Hp}(k:Kp H H'){v:List V}{d:List D}(h:bb K H v d):bb K H' v d :=
 bb.E4 (P:=fun v d=>bb K H' v d) .nil (fun r _ ih=>.cons (r.mono k) ih) h
theorem oh.mono{K:ag}{H H':Hp}(k:Kp H H'){v:List (Key×V)}{d:List (D×D)}(h:oh K H v d):oh K H' v d :=
 oh.rec (motive_1:=fun v d _=>cL K H' v d) (motive_2:=fun v d _=>bb K H' v d) (motive_3:=fun v d _=>oh K H' v d) (motive_4:=fun v d _=>kR K H' v d)
  .cY .bl .int .str (fun h _ r=>.tup (k.tup _ _ h) r) (fun h _ r=>.d0 (k.RM h) r) (fun h _ r=>.pR (k.kQ _ _ _ h) r) (fun h _ r=>.pQ (k.kQ _ _ _ h) r) .ref (fun h=>.exc (h.mono k)) .nil (fun _ _ a b=>.cons a b) .nil (fun _ _ a b=>.cons a b) .nil (fun _ _ a b=>.cons a b) h
theorem kR.mono{K:ag}{H H':Hp}(k:Kp H H'){v:List (List Key×V)}{d:List (D×D)}(h:kR K H v d):kR K H' v d :=
 kR.rec (motive_1:=fun v d _=>cL K H' v d) (motive_2:=fun v d _=>bb K H' v d) (motive_3:=fun v d _=>oh K H' v d) (motive_4:=fun v d _=>kR K H' v d)
  .cY .bl .int .str (fun h _ r=>.tup (k.tup _ _ h) r) (fun h _ r=>.d0 (k.RM h) r) (fun h _ r=>.pR (k.kQ _ _ _ h) r) (fun h _ r=>.pQ (k.kQ _ _ _ h) r) .ref (fun h=>.exc (h.mono k)) .nil (fun _ _ a b=>.cons a b) .nil (fun _ _ a b=>.cons a b) .nil (fun _ _ a b=>.cons a b) h
theorem bb.length{K:ag}{H:Hp}:∀ {vs:List V} {ds:List D},bb K H vs ds->vs.length=ds.length:=fun h =>
 bb.E4 (P:=fun vs ds=>vs.length=ds.length) rfl (fun _ _ ih=>congrArg (· + 1) ih) h
theorem bb.get{K:ag}{H:Hp}:∀ {vs:List V} {ds:List D} {i:Nat} {d:D},bb K H vs ds->ds[i]?=some d->∃ v,vs[i]?=some v/\cL K H v d:=by
 intro vs ds i d h
 refine bb.E4 (P:=fun vs ds=>∀ (i:Nat) (d:D),ds[i]?=some d->∃ v,vs[i]?=some v/\cL K H v d) (fun i d e=>by cases e) (fun r _ ih i d e=>?_) h i d
 cases i with
 | zero=>cases e; exact⟨_,rfl,r⟩
 | succ i=>exact ih i d e
theorem bb.append{K:ag}{H:Hp}:∀ {vs ws:List V} {ds es:List D},bb K H vs ds->bb K H ws es->bb K H (vs++ws) (ds++es):=fun {_ ws _ es} h s =>
 bb.E4 (P:=fun vs ds=>bb K H (vs++ws) (ds++es)) s (fun r _ ih=>.cons r ih) h
theorem bb.take{K:ag}{H:Hp}:∀ {vs:List V} {ds:List D} (n:Nat),bb K H vs ds->bb K H (vs.take n) (ds.take n):=fun {_ _} n h =>
 bb.E4 (P:=fun vs ds=>∀ n,bb K H (vs.take n) (ds.take n)) (fun n=>by rw [z9,z9]; exact .nil) (fun r _ ih n=>by
  cases n with
  | zero=>exact .nil
  | succ n=>exact .cons r (ih n)) h n
theorem bb.drop{K:ag}{H:Hp}:∀ {vs:List V} {ds:List D} (n:Nat),bb K H vs ds->bb K H (vs.drop n) (ds.drop n):=fun {_ _} n h =>
 bb.E4 (P:=fun vs ds=>∀ n,bb K H (vs.drop n) (ds.drop n)) (fun n=>by rw [Ab,Ab]; exact .nil) (fun r t ih n=>by
  cases n with
  | zero=>exact .cons r t
  | succ n=>exact ih n) h n
theorem bb.set{K:ag}{H:Hp}{v:V}{d:D}(r:cL K H v d):∀ {vs:List V} {ds:List D} (i:Nat),bb K H vs ds->bb K H (vs.set i v) (ds.set i d):=fun {_ _} i h =>
 bb.E4 (P:=fun vs ds=>∀ i,bb K H (vs.set i v) (ds.set i d)) (fun i=>by rw [BP,BP]; exact .nil) (fun q t ih i=>by
  cases i with
  | zero=>exact .cons r t
  | succ i=>exact .cons q (ih i)) h i
theorem bb.one{K:ag}{H:Hp}:∀ {vs:List V} {d:D},bb K H vs [d]->∃ v,vs=[v]/\cL K H v d:=by
 intro vs d h
 cases h with
 | cons r t=>cases t; exact⟨_,rfl,r⟩
theorem bb.two{K:ag}{H:Hp}:∀ {vs:List V} {d e:D},bb K H vs [d,e]->∃ v u,vs=[v,u]/\cL K H v d/\cL K H u e:=by
 intro vs d e h
 cases h with
 | cons r t =>
  obtain⟨u,rfl,q⟩:=bb.one t
  exact⟨_,_,rfl,r,q⟩
theorem bb.zero{K:ag}{H:Hp}:∀ {vs:List V},bb K H vs []->vs=[]
 | _,.nil=>rfl
theorem bb.ints{K:ag}{H:Hp}:∀ {vs:List V} {ns:List Int},bb K H vs (ns.map D.int)->vs=ns.map V.int:=by
 intro vs ns
 induction ns generalizing vs with
 | nil=>intro h; exact h.zero
 | cons n ns ih =>
  intro h
  cases h with
  | cons r t =>
   cases r
   rw [ih t]; rfl
theorem bb.Cr{K:ag}{H:Hp}:∀ (ns:List Int),bb K H (ns.map V.int) (ns.map D.int)
 | []=>.nil
 | n :: ns=>.cons (.int n) (bb.Cr ns)
theorem oh.ind{K:ag}{H:Hp}{motive:∀ (kv:List (Key×V)) (bp:List (D×D)),oh K H kv bp->Prop}(nil:motive [] [] .nil)
  (cons:∀ {k:Key} {v:V} {d:D} {r:List (Key×V)} {t:List (D×D)} (re:cL K H v d) (rs:oh K H r t),motive r t rs->motive ((k,v) :: r) ((dP k,d) :: t) (.cons re rs)):∀ {kv:List (Key×V)} {bp:List (D×D)} (h:oh K H kv bp),motive kv bp h:=fun h =>
 oh.rec (motive_1:=fun _ _ _=>True) (motive_2:=fun _ _ _=>True) (motive_3:=motive) (motive_4:=fun _ _ _=>True) trivial (fun _=>trivial) (fun _=>trivial) (fun _=>trivial) (fun _ _ _=>trivial) (fun _ _ _=>trivial) (fun _ _ _=>trivial) (fun _ _ _=>trivial) (fun _=>trivial) (fun _=>trivial) trivial (fun _ _ _ _=>trivial) nil (fun a b _ ih=>cons a b ih) trivial (fun _ _ _ _=>trivial) h
theorem kR.ind{K:ag}{H:Hp}{motive:∀ (kv:List (List Key×V)) (bp:List (D×D)),kR K H kv bp->Prop}(nil:motive [] [] .nil)
  (cons:∀ {k:List Key} {v:V} {d:D} {r:List (List Key×V)} {t:List (D×D)} (re:cL K H v d) (rs:kR K H r t),motive r t rs->motive ((k,v) :: r) ((.tup (k.map dP),d) :: t) (.cons re rs)):∀ {kv:List (List Key×V)} {bp:List (D×D)} (h:kR K H kv bp),motive kv bp h:=fun h =>
 kR.rec (motive_1:=fun _ _ _=>True) (motive_2:=fun _ _ _=>True) (motive_3:=fun _ _ _=>True) (motive_4:=motive) trivial (fun _=>trivial) (fun _=>trivial) (fun _=>trivial) (fun _ _ _=>trivial) (fun _ _ _=>trivial) (fun _ _ _=>trivial) (fun _ _ _=>trivial) (fun _=>trivial) (fun _=>trivial) trivial (fun _ _ _ _=>trivial) trivial (fun _ _ _ _=>trivial) nil (fun a b _ ih=>cons a b ih) h
theorem oh.length{K:ag}{H:Hp}:∀ {v:List (Key×V)} {d:List (D×D)},oh K H v d->v.length=d.length:=fun h =>
 oh.ind (motive:=fun v d _=>v.length=d.length) rfl (fun _ _ ih=>congrArg (· + 1) ih) h
theorem kR.length{K:ag}{H:Hp}:∀ {v:List (List Key×V)} {d:List (D×D)},kR K H v d->v.length=d.length:=fun h =>
 kR.ind (motive:=fun v d _=>v.length=d.length) rfl (fun _ _ ih=>congrArg (· + 1) ih) h
noncomputable def Lr(K:ag)(H:Hp)(a:Addr):GO->Prop
 | .lst ds=>∃ vs,H a=some (.lst vs)/\bb K H vs ds
 | .jn bp=>(∃ kv,H a=some (.dK kv)/\oh K H kv bp)\/∃ kv,H a=some (.dT kv)/\kR K H kv bp
noncomputable def kS(K:ag)(H:Hp)(G:Gp):Prop:=∀ a g,G a=some g->Lr K H a g
theorem Lr.dk{K:ag}{H:Hp}{a:Addr}{kv:List (Key×V)}{bp:List (D×D)}(h:H a=some (.dK kv))(r:oh K H kv bp):Lr K H a (.jn bp):=.inl ⟨kv,h,r⟩
theorem Lr.dt{K:ag}{H:Hp}{a:Addr}{kv:List (List Key×V)}{bp:List (D×D)}(h:H a=some (.dT kv))(r:kR K H kv bp):Lr K H a (.jn bp):=.inr ⟨kv,h,r⟩
theorem Lr.mono{K:ag}{H H':Hp}{a:Addr}{g:GO}(k:Kp H H')(e:H' a=H a)(h:Lr K H a g):Lr K H' a g:=by
 cases g with
 | lst ds=>obtain⟨vs,q,r⟩:=h; exact⟨vs,e.trans q,r.mono k⟩
 | jn bp =>
  rcases h with ⟨kv,q,r⟩ | ⟨kv,q,r⟩
  ·exact .inl ⟨kv,e.trans q,r.mono k⟩
  ·exact .inr ⟨kv,e.trans q,r.mono k⟩
theorem Lr.tracked{K:ag}{H:Hp}{a:Addr}{g:GO}(h:Lr K H a g):H a≠none:=by
 cases g with
 | lst ds=>obtain⟨vs,q,r⟩:=h; rw [q]; simp
 | jn bp =>
  rcases h with ⟨kv,q,r⟩ | ⟨kv,q,r⟩
  ·rw [q]; simp
  ·rw [q]; simp
theorem kS.free{K:ag}{H:Hp}{G:Gp}{a:Addr}(h:kS K H G)(e:H a=none):G a=none:=by
 cases q:G a with
 | none=>rfl
 | some g=>exact absurd e (h a g q).tracked
theorem kS.Us{K:ag}{H:Hp}{G:Gp}{a:Addr}{xs:List V}(h:kS K H G)(e:H a=some (.tup xs)):G a=none:=by
 cases q:G a with
 | none=>rfl
 | some g =>
  have z:=h a g q
  cases g with
  | lst ds=>obtain⟨vs,q,r⟩:=z; rw [e] at q; cases q
  | jn bp =>
   rcases z with ⟨kv,q,r⟩ | ⟨kv,q,r⟩
   ·rw [e] at q; cases q
   ·rw [e] at q; cases q
theorem kS.Uu{K:ag}{H:Hp}{G:Gp}{a:Addr}{o:Obj}{u:HO}(h:kS K H G)(e:H a=some (.kQ o u)):G a=none:=by
 cases q:G a with
 | none=>rfl
 | some g =>
  have z:=h a g q
  cases g with
  | lst ds=>obtain⟨vs,q,r⟩:=z; rw [e] at q; cases q
  | jn bp =>
   rcases z with ⟨kv,q,r⟩ | ⟨kv,q,r⟩
   ·rw [e] at q; cases q
   ·rw [e] at q; cases q
structure Mv(K:ag)(H:Hp)(G:Gp)(H':Hp)(G':Gp):Prop where
 keep:∀ a o,H a=some o->G a=none->H' a=some o/\G' a=none
 iM:∀ a,G a≠none->H' a≠none
 ab:kS K H' G'
theorem Mv.refl{K:ag}{H:Hp}{G:Gp}(h:kS K H G):Mv K H G H G:=⟨fun _ _ e n=>⟨e,n⟩,fun a n=>by
 cases q:G a with
 | none=>exact absurd q n
 | some g=>exact(h a g q).tracked,h⟩
theorem Mv.trans{K:ag}{H H1 H2:Hp}{G G1 G2:Gp}(a:Mv K H G H1 G1)(b:Mv K H1 G1 H2 G2):Mv K H G H2 G2 :=
 ⟨fun c o e n=>let ⟨e1,n1⟩:=a.keep c o e n; b.keep c o e1 n1,fun c n=>by
  have h1:=a.iM c n
  cases q:G1 c with
  | some g=>exact b.iM c (by rw [q]; simp)
  | none =>
   cases q1:H1 c with
   | none=>exact absurd q1 h1
   | some o=>rw [(b.keep c o q1 q).1]; simp,b.ab⟩
theorem Mv.kp{K:ag}{H H':Hp}{G G':Gp}(m:Mv K H G H' G')(h:kS K H G):Kp H H' :=
 ⟨fun a xs e=>(m.keep a _ e (h.Us e)).1,fun a o u e=>(m.keep a _ e (h.Uu e)).1⟩
theorem Kp.new{H:Hp}{p:Addr}{o:HO}(hp:H p=none):Kp H (upd H p o):=⟨fun a xs e=>by rw [bU (ef e hp)]; exact e,fun a ob u e=>by rw [bU (ef e hp)]; exact e⟩
theorem Kp.putL{H:Hp}{p:Addr}{xs:List V}{o:HO}(hp:H p=some (.lst xs)):Kp H (upd H p o) :=
 ⟨fun a ys e=>by rw [bU (by rintro rfl; rw [hp] at e; cases e)]; exact e,fun a ob u e=>by rw [bU (by rintro rfl; rw [hp] at e; cases e)]; exact e⟩
theorem Mv.new{K:ag}{H:Hp}{G:Gp}{p:Addr}{o:HO}{g:GO}(h:kS K H G)(hp:H p=none)(ho:Lr K (upd H p o) p g):Mv K H G (upd H p o) (fN G p g) where
 keep:=fun a ob e n=>by
  have ne:=ef e hp
  exact⟨by rw [bU ne]; exact e,by rw [eY ne]; exact n⟩
 iM:=fun a n=>by
  have ne:a≠p:=by rintro rfl; exact n (h.free hp)
  rw [bU ne]
  exact(Mv.refl h).iM a n
 ab:=fun a g' e=>by
  by_cases ha:a=p
  ·subst ha; rw [bz] at e; cases e; exact ho
  ·rw [eY ha] at e
   exact(h a g' e).mono (.new hp) (bU ha)
theorem Mv.LG{K:ag}{H:Hp}{G:Gp}{p:Addr}{o:HO}(h:kS K H G)(hp:H p=none):Mv K H G (upd H p o) G where
 keep:=fun a ob e n=>⟨by rw [bU (ef e hp)]; exact e,n⟩
 iM:=fun a n=>by
  have ne:a≠p:=by rintro rfl; exact n (h.free hp)
  rw [bU ne]
  exact(Mv.refl h).iM a n
 ab:=fun a g' e=>by
  have ne:a≠p:=by rintro rfl; rw [h.free hp] at e; cases e
  exact(h a g' e).mono (.new hp) (bU ne)
theorem Mv.put{K:ag}{H:Hp}{G:Gp}{p:Addr}{o:HO}{g g0:GO}(h:kS K H G)(hg:G p=some g0)(k:Kp H (upd H p o))(ho:Lr K (upd H p o) p g):Mv K H G (upd H p o) (fN G p g) where
 keep:=fun a ob e n=>by
  have ne:a≠p:=by rintro rfl; rw [hg] at n; cases n
  exact⟨by rw [bU ne]; exact e,by rw [eY ne]; exact n⟩
 iM:=fun a n=>by
  by_cases ha:a=p
  ·subst ha; rw [cR]; simp
  ·rw [bU ha]; exact(Mv.refl h).iM a n
 ab:=fun a g' e=>by
  by_cases ha:a=p
  ·subst ha; rw [bz] at e; cases e; exact ho
  ·rw [eY ha] at e
   exact(h a g' e).mono k (bU ha)
theorem kS.lst{K:ag}{H:Hp}{G:Gp}{a:Addr}{ds:List D}(h:kS K H G)(e:G a=some (.lst ds)):∃ vs,H a=some (.lst vs)/\bb K H vs ds:=h a _ e
theorem Mv.Ax{K:ag}{H:Hp}{G:Gp}{p:Addr}{vs:List V}{ds:List D}(h:kS K H G)(hp:H p=none)(r:bb K H vs ds):Mv K H G (upd H p (.lst vs)) (fN G p (.lst ds)) :=
 .new h hp ⟨vs,cR,r.mono (.new hp)⟩
theorem Mv.putL{K:ag}{H:Hp}{G:Gp}{p:Addr}{vs0 vs:List V}{ds0 ds:List D}(h:kS K H G)(hg:G p=some (.lst ds0))(hp:H p=some (.lst vs0))(r:bb K H vs ds):Mv K H G (upd H p (.lst vs)) (fN G p (.lst ds)) :=
 .put h hg (.putL hp) ⟨vs,cR,r.mono (.putL hp)⟩
structure Lq(K:ag)(H:Hp)(σ:L2.St)(τ:gY):Prop where
 len:σ.length=τ.length
 at':∀ (i:Nat) (d:D),τ[i]?=some (some d)->∃ v,σ[i]?=some (some v)/\cL K H v d
theorem Lq.mono{K:ag}{H H':Hp}{σ:L2.St}{τ:gY}(k:Kp H H')(a:Lq K H σ τ):Lq K H' σ τ :=
 ⟨a.len,fun i d e=>let ⟨v,h1,h2⟩:=a.at' i d e; ⟨v,h1,h2.mono k⟩⟩
theorem Lq.set{K:ag}{H:Hp}{σ:L2.St}{τ:gY}{v:V}{d:D}(a:Lq K H σ τ)(i:Nat)(r:cL K H v d):Lq K H (σ.set i (some v)) (τ.set i (some d)):=by
 refine⟨by rw [fj,fj]; exact a.len,fun j e h=>?_⟩
 by_cases hj:i=j
 ·subst hj
  by_cases hi:i < τ.length
  ·rw [eV hi] at h
   cases h
   exact⟨v,by rw [eV (by rw [a.len]; exact hi)],r⟩
  ·rw [List.set_eq_of_length_le (by lia)] at h
   rw [i9 (by lia)] at h
   cases h
 ·rw [eG hj] at h
  obtain⟨w,h1,h2⟩:=a.at' j e h
  exact⟨w,by rw [eG hj]; exact h1,h2⟩
structure I2(X:Cx)(pins:List (Addr×Obj))(σ:L2.St)(H:Hp)(τ:gY)(G:Gp)(s:aq):Prop where
 inv:Inv X pins σ H s
 st:Lq X.K H σ τ
 ab:kS X.K H G
theorem I2.mv{X:Cx}{pins:List (Addr×Obj)}{σ:L2.St}{H H':Hp}{τ:gY}{G G':Gp}{s s':aq}(I:I2 X pins σ H τ G s)(I':Inv X pins σ H' s')(m:Mv X.K H G H' G'):I2 X pins σ H' τ G' s' :=
 ⟨I',I.st.mono (m.kp I.ab),m.ab⟩
noncomputable def AL(P:bP)(w:World):LO:=fun outer H s E e s'=>∃ (a C t:Addr) (B:Heap) (H':Hp),e=.ref a/\s'.os=s.os/\yp s'.gens/\Un (sD outer) [] H H' s.heap s'.heap/\pT P w H' s'.heap /\
 (∀ b o,s'.heap.get? b=some o->b∉sD outer->(s.heap.get? b≠none\/H' b≠none)->B.get? b=some o)/\vD B outer a (.ref C) (.ref t) s'.heap/\H' a=none/\s.heap.get? a=none/\E (.ref C) none H'
noncomputable def exK(mg:Str->Option Value)(E:kc):XK:=fun cls _ _=>∃ (ex:Ex) (C:Addr),cls=.ref C/\mg ex.cls=some (.ref C)/\E ex (fun _=>none)
structure Lk(X:Cx)(E:kc):Prop where
 made:∀ (pins:List (Addr×Obj)) (σ:L2.St) (H:Hp) (s:aq) (h1:Heap) (a C:Addr) (args:List Value) (ex:Ex),Inv X pins σ H s->PySem.Heap.MadeExcOf s.heap h1 a (.ref C) args->X.mg ex.cls=some (.ref C)->E ex (fun _=>none)->X.xe (.ref a) { s with heap:=h1 }
 pass:∀ (pins:List (Addr×Obj)) (σ:L2.St) (H:Hp) (s s':aq) (e:Value),Inv X pins σ H s->AL X.prog X.w X.stack H s (exK X.mg E) e s'->X.xe e s'
theorem Lk.none{X:Cx}{E:kc}(h:∀ ex G,¬ E ex G):Lk X E where
 made:=fun _ _ _ _ _ _ _ _ ex _ _ _ z=>absurd z (h ex _)
 pass:=fun _ _ _ _ _ _ _ hc=>by
  obtain⟨_,_,_,_,_,_,_,_,_,_,_,_,_,_,hz⟩:=hc
  obtain⟨ex,_,_,_,z⟩:=hz
  exact absurd z (h ex _)
inductive t4 (X:Cx) (pins:List (Addr×Obj)) (σ:L2.St) (H:Hp) (G:Gp) (Q:DK) (u:Value) (s':aq):Prop
 | mk (v:V) (H':Hp) (d:D) (G':Gp) (i:Inv X pins σ H' s') (m:Mv X.K H G H' G') (r:RelV v u) (rd:cL X.K H' v d) (q:Q d G'):t4 X pins σ H G Q u s'
inductive TB (X:Cx) (pins:List (Addr×Obj)) (σ:L2.St) (H:Hp) (G:Gp) (Q:Bool->Gp->Prop) (b:Bool) (s':aq):Prop
 | mk (H':Hp) (G':Gp) (i:Inv X pins σ H' s') (m:Mv X.K H G H' G') (q:Q b G'):TB X pins σ H G Q b s'
inductive AP2 (X:Cx) (pins:List (Addr×Obj)) (σ:L2.St) (H:Hp) (G:Gp) (Q:List D->Gp->Prop) (us:List Value) (s':aq):Prop
 | mk (vs:List V) (H':Hp) (ds:List D) (G':Gp) (i:Inv X pins σ H' s') (m:Mv X.K H G H' G') (r:Vals vs us) (rd:bb X.K H' vs ds) (q:Q ds G'):AP2 X pins σ H G Q us s'
inductive WR (X:Cx) (pins:List (Addr×Obj)) (H:Hp) (G:Gp) (P:gY->Gp->Prop) (s':aq):Prop
 | mk (jx:L2.St) (H':Hp) (oq:gY) (G':Gp) (i:I2 X pins jx H' oq G' s') (m:Mv X.K H G H' G') (q:P oq G'):WR X pins H G P s'
inductive SPr (X:Cx) (pins:List (Addr×Obj)) (H:Hp) (G:Gp) (P:D->Gp->Prop) (u:Value) (s':aq):Prop
 | mk (v:V) (jx:L2.St) (H':Hp) (d:D) (G':Gp) (i:Inv X pins jx H' s') (m:Mv X.K H G H' G') (r:RelV v u) (rd:cL X.K H' v d) (q:P d G'):SPr X pins H G P u s'
noncomputable def Gk(X:Cx)(pins:List (Addr×Obj))(H:Hp)(G:Gp)(D:jW)(f:Flow)(s':aq):Prop :=
 match f with
 | .next=>WR X pins H G D.nx s'
 | .brk=>WR X pins H G D.bk s'
 | .cont=>WR X pins H G D.ct s'
 | .ret u=>SPr X pins H G D.rt u s'
noncomputable def gE(X:Cx)(e:Expr)(t:fW):Prop :=
 ∀ (E:kc) (pins:List (Addr×Obj)) (s:aq) (σ:L2.St) (H:Hp) (τ:gY) (G:Gp) (Q:DK),Lk X E->I2 X pins σ H τ G s->t E τ G Q->wpAny (model X.prog X.w) X.A (eval e X.env) (t4 X pins σ H G Q) X.xe s
noncomputable def Gm(X:Cx)(e:Expr)(t:zS):Prop :=
 ∀ (E:kc) (pins:List (Addr×Obj)) (s:aq) (σ:L2.St) (H:Hp) (τ:gY) (G:Gp) (Q:Bool->Gp->Prop),Lk X E->I2 X pins σ H τ G s->t E τ G Q->wpAny (model X.prog X.w) X.A (isTrue e X.env (eval e X.env)) (TB X pins σ H G Q) X.xe s
noncomputable def LL(X:Cx)(e:Expr)(t:zS):Prop :=
 ∀ (wh:Sem Value) (E:kc) (pins:List (Addr×Obj)) (s:aq) (σ:L2.St) (H:Hp) (τ:gY) (G:Gp) (Q:Bool->Gp->Prop),Lk X E->I2 X pins σ H τ G s->t E τ G Q->wpAny (model X.prog X.w) X.A (isTrue e X.env wh) (TB X pins σ H G Q) X.xe s
noncomputable def DH(X:Cx)(es:List Expr)(t:Ah):Prop :=
 ∀ (pos:Pos) (E:kc) (pins:List (Addr×Obj)) (s:aq) (σ:L2.St) (H:Hp) (τ:gY) (G:Gp) (Q:List D->Gp->Prop),Lk X E->I2 X pins σ H τ G s->t E τ G Q->wpAny (model X.prog X.w) X.A (LS (iV pos (bK es X.env))) (AP2 X pins σ H G Q) X.xe s
noncomputable def Gn(X:Cx)(st:Stmt)(t:iz):Prop :=
 ∀ (E:kc) (pins:List (Addr×Obj)) (s:aq) (σ:L2.St) (H:Hp) (τ:gY) (G:Gp) (D:jW),Lk X E->I2 X pins σ H τ G s->t E D τ G->wpAny (model X.prog X.w) X.A (exec st X.env) (Gk X pins H G D) X.xe s
noncomputable def vz(X:Cx)(st:List Stmt)(t:iz):Prop :=
 ∀ (E:kc) (pins:List (Addr×Obj)) (s:aq) (σ:L2.St) (H:Hp) (τ:gY) (G:Gp) (D:jW),Lk X E->I2 X pins σ H τ G s->t E D τ G->wpAny (model X.prog X.w) X.A (execs st X.env) (Gk X pins H G D) X.xe s
theorem Gk.trans{X:Cx}{pins:List (Addr×Obj)}{H H1:Hp}{G G1:Gp}{D:jW}{f:Flow}{s':aq}(m:Mv X.K H G H1 G1)(h:Gk X pins H1 G1 D f s'):Gk X pins H G D f s':=by
 cases f with
 | next=>obtain⟨jx,H',oq,G',I,m',q⟩:=h; exact⟨jx,H',oq,G',I,m.trans m',q⟩
 | brk=>obtain⟨jx,H',oq,G',I,m',q⟩:=h; exact⟨jx,H',oq,G',I,m.trans m',q⟩
 | cont=>obtain⟨jx,H',oq,G',I,m',q⟩:=h; exact⟨jx,H',oq,G',I,m.trans m',q⟩
 | ret u=>obtain⟨v,jx,H',d,G',I,m',r,rd,q⟩:=h; exact⟨v,jx,H',d,G',I,m.trans m',r,rd,q⟩
section
variable {X:Cx} {a b c:Expr} {ta tb tc:fW} {pos:Pos}
theorem lM{pins:List (Addr×Obj)}{σ:L2.St}{H:Hp}{τ:gY}{G:Gp}{s:aq}{E:kc}{R:DK}{Q:Value->aq->Prop}(ha:gE X a ta)(hE:Lk X E)(I:I2 X pins σ H τ G s)(h:ta E τ G R)
  (k:∀ v H1 d G1 u s1,I2 X pins σ H1 τ G1 s1->Mv X.K H G H1 G1->RelV v u->cL X.K H1 v d->R d G1->Q u s1):wpAny (model X.prog X.w) X.A (eval a X.env) Q X.xe s :=
 gC (ha E pins s σ H τ G R hE I h) (by rintro u s1 ⟨v,H1,d,G1,I1,m,r,rd,q⟩; exact k v H1 d G1 u s1 (I.mv I1 m) m r rd q)
theorem t4.trans{pins:List (Addr×Obj)}{σ:L2.St}{H H1:Hp}{G G1:Gp}{Q:DK}{u:Value}{s':aq}(m:Mv X.K H G H1 G1)(h:t4 X pins σ H1 G1 Q u s'):t4 X pins σ H G Q u s':=by
 obtain⟨v,H',d,G',I,m',r,rd,q⟩:=h
 exact⟨v,H',d,G',I,m.trans m',r,rd,q⟩
theorem TB.trans{pins:List (Addr×Obj)}{σ:L2.St}{H H1:Hp}{G G1:Gp}{Q:Bool->Gp->Prop}{u:Bool}{s':aq}(m:Mv X.K H G H1 G1)(h:TB X pins σ H1 G1 Q u s'):TB X pins σ H G Q u s':=by
 obtain⟨H',G',I,m',r⟩:=h
 exact⟨H',G',I,m.trans m',r⟩
theorem PT {i:Nat} {x:Str} (hN:X.N[i]?=some x) (hv:WO X.env.scope x) (hd:autoParam ((x == ("__debug__" : Str))=false) Ad._auto_1) (E9:autoParam ((x == ("__classdict__" : Str))=false) Ad._auto_1):gE X (.Name x pos) (aw i):=by
 intro E pins s σ H τ G Q hE I h
 unfold aw at h
 split at h
 ·rename_i d e
  obtain⟨v,h1,h2⟩:=I.st.at' i d e
  exact gC (RY hN hv hd E9 pins s σ H (fun v' H'=>v'=v/\H'=H) I.inv ⟨v,h1,rfl,rfl⟩) fun u s1 zq=>by
   obtain⟨v',H',I1,r,e1,e2⟩:=zq
   subst e1; subst e2
   exact⟨_,_,d,G,I1,.refl I.ab,r,h2,h⟩
 ·exact h.elim
theorem rZ{e:Expr}{v:V}{d:D}(h:PE X e (tC v))(r:∀ K H,cL K H v d):gE X e (dC d):=by
 intro E pins s σ H τ G Q hE I hq
 exact gC (h pins s σ H (fun v' H'=>v'=v/\H'=H) I.inv ⟨rfl,rfl⟩) fun u s1 hp1=>by
  obtain⟨v',H',I1,rr,e1,e2⟩:=hp1
  subst e1; subst e2
  exact⟨_,_,d,G,I1,.refl I.ab,rr,r _ _,hq⟩
theorem aM{i j}:gE X (.Constant (.int i) j pos) (dC (.int i)):=rZ R1 fun _ _=>.int i
noncomputable def vA(X:Cx)(f:Value->Value->Sem Value)(r:DG):Prop :=
 ∀ (pins:List (Addr×Obj)) (s:aq) (σ:L2.St) (H:Hp) (G:Gp) (x y:V) (dx dy:D) (v u:Value) (Q:DK),Inv X pins σ H s->kS X.K H G->RelV x v->RelV y u->cL X.K H x dx->cL X.K H y dy->r dx dy G Q ->
  wpAny (model X.prog X.w) X.A (f v u) (t4 X pins σ H G Q) X.xe s
noncomputable def VS(X:Cx)(f:Value->Sem Value)(r:D->Gp->DK->Prop):Prop :=
 ∀ (pins:List (Addr×Obj)) (s:aq) (σ:L2.St) (H:Hp) (G:Gp) (x:V) (dx:D) (v:Value) (Q:DK),Inv X pins σ H s->kS X.K H G->RelV x v->cL X.K H x dx->r dx G Q ->
  wpAny (model X.prog X.w) X.A (f v) (t4 X pins σ H G Q) X.xe s
noncomputable def wU(X:Cx)(f:Value)(r:List D->Gp->DK->Prop):Prop :=
 ∀ (pins:List (Addr×Obj)) (s:aq) (σ:L2.St) (H:Hp) (G:Gp) (xs:List V) (ds:List D) (us:List Value) (Q:DK),Inv X pins σ H s->kS X.K H G->Vals xs us->bb X.K H xs ds->r ds G Q ->
  wpAny (model X.prog X.w) X.A (call f us) (t4 X pins σ H G Q) X.xe s
noncomputable abbrev Dj(K:ag)(H:Hp)(G:Gp)(Q:DK):VK:=fun v H'=>∃ d G',Mv K H G H' G'/\cL K H' v d/\Q d G'
theorem t4.of{pins:List (Addr×Obj)}{σ:L2.St}{H:Hp}{G:Gp}{Q:DK}{u:Value}{s':aq}(h:EP X pins σ (Dj X.K H G Q) u s'):t4 X pins σ H G Q u s':=by
 obtain⟨v,H',I,r,d,G',m,rd,q⟩:=h
 exact⟨v,H',d,G',I,m,r,rd,q⟩
theorem Oy(ha:gE X a ta)(hb:gE X b tb){E:kc}{pins:List (Addr×Obj)}{s:aq}{σ:L2.St}{H:Hp}{τ:gY}{G:Gp}{R:D->D->Gp->Prop}(hE:Lk X E)(I:I2 X pins σ H τ G s)
  (h:ta E τ G fun x G1=>tb E τ G1 fun y G2=>R x y G2) {Q:Value->aq->Prop} {f:Value->Value->Sem Value}
  (hf:∀ v u s2 x y dx dy H2 G2,I2 X pins σ H2 τ G2 s2->Mv X.K H G H2 G2->RelV x v->RelV y u->cL X.K H2 x dx->cL X.K H2 y dy->R dx dy G2->wpAny (model X.prog X.w) X.A (f v u) Q X.xe s2) :
  wpAny (model X.prog X.w) X.A (eval a X.env) (fun v eO=>wpAny (model X.prog X.w) X.A (eval b X.env) (fun u qo=>wpAny (model X.prog X.w) X.A (f v u) Q X.xe qo) X.xe eO) X.xe s:=by
 refine lM ha hE I h fun x H1 dx G1 v s1 I1 m1 r1 jS q1=>?_
 refine lM hb hE I1 q1 fun y H2 dy G2 u s2 pN m2 r2 Au q2=>?_
 exact hf v u s2 x y dx dy H2 G2 pN (m1.trans m2) r1 r2 (jS.mono (m2.kp I1.ab)) Au q2
theorem cK{op:Operator}{r:DG}(ho:vA X (jR op) r)(ha:gE X a ta)(hb:gE X b tb):gE X (.BinOp a op b pos) (bA r ta tb):=by
 intro E pins s σ H τ G Q hE I h
 exact wpAny_BinOp (Oy ha hb hE I h fun v u s2 x y dx dy H2 G2 pN m rx ry dX dY q=>gC (ho pins s2 σ H2 G2 x y dx dy v u Q pN.inv pN.ab rx ry dX dY q) fun _ _ z=>z.trans m)
theorem R3{op:UnaryOp}{r:D->Gp->DK->Prop}(ho:VS X (unaryOp op) r)(ha:gE X a ta):gE X (.UnaryOp op a pos) (JL r ta):=by
 intro E pins s σ H τ G Q hE I h
 exact UnaryOp_ (lM ha hE I h fun x H1 dx G1 v s1 I1 m1 r1 jS q1=>gC (ho pins s1 σ H1 G1 x dx v Q I1.inv I1.ab r1 jS q1) fun _ _ z=>z.trans m1)
theorem xY{op:CmpOp}{r:DG}(ho:vA X (gm op) r)(ha:gE X a ta)(hb:gE X b tb)(hm:vK op b=false):gE X (.Compare a [op] [b] pos) (bA r ta tb):=by
 intro E pins s σ H τ G Q hE I h
 exact wpAny_Compare1 (Oy ha hb hE I h fun v u s2 x y dx dy H2 G2 pN m rx ry dX dY q=>gC (ho pins s2 σ H2 G2 x y dx dy v u Q pN.inv pN.ab rx ry dX dY q) fun _ _ z=>z.trans m) hm
end
end K2
end
section
namespace K2
open PySem PySem.Spec PyProof.Rows L2
theorem TN{K:ag}{H:Hp}{G:Gp}{x:V}{d:D}{k:Bool}(ab:kS K H G)(r:cL K H x d)(e:Kj d G=some k):(∃ p,x=.ref p/\Rd H p (.dT [])/\k=false)\/(∃ p kv,x=.ref p/\Rd H p (.dK kv)/\k=!kv.isEmpty)\/Tb K x H k:=by
 have Od:∀ bp:List (D×D),(if (bp.all fun p=>fc p.1)=true then some (!bp.isEmpty) else none)=some k->∀ p,((∃ kv,Rd H p (.dK kv)/\oh K H kv bp)\/∃ kv,Rd H p (.dT kv)/\kR K H kv bp) ->
   (∃ p',V.ref p=.ref p'/\Rd H p' (.dT [])/\k=false)\/(∃ p' kv,V.ref p=.ref p'/\Rd H p' (.dK kv)/\k=!kv.isEmpty)\/Tb K (.ref p) H k:=by
  intro bp e p z
  by_cases ha:(bp.all fun p=>fc p.1)=true
  ·rw [if_pos ha] at e
   cases e
   rcases z with ⟨kv,hv,rs⟩ | ⟨kv,hv,rs⟩
   ·right; left
    refine⟨p,kv,rfl,hv,?_⟩
    cases rs <;> rfl
   ·left
    cases rs with
    | nil=>exact⟨p,rfl,hv,rfl⟩
    | cons _ _=>simp [fc] at ha
  ·rw [if_neg ha] at e; cases e
 cases r with
 | cY=>right; right; cases e; rfl
 | bl b=>right; right; cases e; rfl
 | int i=>right; right; cases e; rfl
 | str y =>
  right; right
  unfold Kj at e
  dsimp only at e
  by_cases h:y.length<=SZ
  ·rw [if_pos h] at e; cases e; exact⟨by rw [cb]; exact h,rfl⟩
  ·rw [if_neg h] at e; cases e
 | tup h rs =>
  right; right
  cases e
  refine .inr (.inl ⟨_,.of h,?_⟩)
  cases rs <;> rfl
 | d0 h rs =>
  right; right
  cases e
  refine .inl ⟨_,h.sq,?_⟩
  cases rs <;> rfl
 | pR h rs=>exact Od _ e _ (.inl ⟨_,.inr ⟨_,h⟩,rs⟩)
 | pQ h rs=>exact Od _ e _ (.inr ⟨_,.inr ⟨_,h⟩,rs⟩)
 | exc h=>simp [Kj] at e
 | ref a =>
  unfold Kj at e
  dsimp only at e
  cases q:G a with
  | none=>rw [q] at e; cases e
  | some g =>
   rw [q] at e
   have z:=ab a g q
   cases g with
   | lst ds =>
    right; right
    obtain⟨vs,hv,rs⟩:=z
    cases e
    refine .inl ⟨vs,.of hv,?_⟩
    cases rs <;> rfl
   | jn bp =>
    refine Od bp e a ?_
    rcases z with ⟨kv,hv,rs⟩ | ⟨kv,hv,rs⟩
    ·exact .inl ⟨kv,.inl hv,rs⟩
    ·exact .inr ⟨kv,.inl hv,rs⟩
section
variable {X:Cx} {a b c:Expr} {ta tb tc:fW} {pos:Pos}
noncomputable def VT(X:Cx):Prop:=∀ (pins:List (Addr×Obj)) (s:aq) (σ:L2.St) (H:Hp) (G:Gp) (x:V) (d:D) (v:Value) (k:Bool) (Q:Bool->aq->Prop),Inv X pins σ H s->kS X.K H G->RelV x v->cL X.K H x d->Kj d G=some k ->
  (∀ s',Inv X pins σ H s'->Q k s')->wpAny (model X.prog X.w) X.A (truthy v) Q X.xe s
theorem Ki:VT X:=by
 intro pins s σ H G x d v k Q I ab rx rd e q
 rcases TN ab rd e with ⟨p,rfl,hv,hk⟩ | ⟨p,kv,rfl,hv,hk⟩ | h
 ·obtain⟨z,hS,xs,rel,o,es,ep,ho,hx,Ag,hl,nd⟩:=hv.ok I.cM
  have Z0:xs=[]:=by cases rel; rfl
  subst Z0
  have he:es=#[]:=by simpa using hl
  subst he
  cases rx
  have dd:s.heap.DictOf (cy X.prog X.w) p []:=⟨o,#[],ep,ho,hx,Ag,(fun _ h=>by simp at h),.nil,du⟩
  refine Gr hS dd (by simp) ?_
  subst hk
  exact q _ (I.tok _)
 ·cases rx
  subst hk
  exact Qx I hv q
 ·exact gC (RB pins s σ H x v (fun k' H'=>k'=k/\H'=H) I rx ⟨k,h,rfl,rfl⟩) fun k' s' zq=>by
   obtain⟨H',I',e1,e2⟩:=zq
   subst e1; subst e2; exact q s' I'
theorem rT(ha:gE X a ta)(he:autoParam (∀ whole,isTrue a X.env whole=(do let v ← whole; standAt a.pos; Gx [v] (truthy v))) Ai._auto_1):Gm X a (iH ta):=by
 intro E pins s σ H τ G Q hE I h
 refine isTrue_plain (lM ha hE I h fun x H1 d G1 v s1 I1 m1 r1 jS q1=>?_) (he _)
 try dsimp only at q1
 split at q1
 ·rename_i k e
  exact Ki pins s1 σ H1 G1 x d v k _ I1.inv I1.ab r1 jS e fun s' I'=>⟨H1,G1,I',m1,q1⟩
 ·exact q1.elim
theorem fQ{op:CmpOp}{r:DG}(ho:vA X (gm op) r)(ha:gE X a ta)(hb:gE X b tb)(hm:vK op b=false):Gm X (.Compare a [op] [b] pos) (iH (bA r ta tb)):=by
 intro E pins s σ H τ G Q hE I h
 refine wpAny_isTrue_Compare1 (lM ha hE I h fun x H1 dx G1 v s1 I1 m1 r1 jS q1=>lM hb hE I1 q1 fun y H2 dy G2 u s2 pN m2 r2 Au q2 =>
  gC (ho pins s2 σ H2 G2 x y dx dy v u _ pN.inv pN.ab r1 r2 (jS.mono (m2.kp I1.ab)) Au q2) ?_) hm
 rintro c s3 ⟨z,H3,dz,G3,I3,m3,r3,Ua,q3⟩
 try dsimp only at q3
 split at q3
 ·rename_i k e
  exact Ki pins s3 σ H3 G3 z dz c k _ I3 m3.ab r3 Ua e fun s' I'=>⟨H3,G3,I',(m1.trans m2).trans m3,q3⟩
 ·exact q3.elim
variable {tA tB:zS} {rest:List Expr}
theorem LL.pt{e:Expr}{t:zS}(h:LL X e t):Gm X e t:=fun E pins s σ H τ G Q hE I q=>h _ E pins s σ H τ G Q hE I q
theorem Kk{pins:List (Addr×Obj)}{σ:L2.St}{H:Hp}{τ:gY}{G:Gp}{s:aq}{E:kc}{R:Bool->Gp->Prop}{Q:Bool->aq->Prop}(ha:Gm X a tA)(hE:Lk X E)(I:I2 X pins σ H τ G s)(h:tA E τ G R)
  (k:∀ c H1 G1 s1,I2 X pins σ H1 τ G1 s1->Mv X.K H G H1 G1->R c G1->Q c s1):wpAny (model X.prog X.w) X.A (isTrue a X.env (eval a X.env)) Q X.xe s :=
 gC (ha E pins s σ H τ G R hE I h) (by rintro c s1 ⟨H1,G1,I1,m,q⟩; exact k c H1 G1 s1 (I.mv I1 m) m q)
theorem Ei(ha:Gm X a tA):LL X (.BoolOp .And [a] pos) tA:=by
 intro wh E pins s σ H τ G Q hE I h
 refine isTrue_and (gC (ha E pins s σ H τ G Q hE I h) fun c s1 e=>?_)
 cases c with
 | true=>exact isTrue_and_nil e
 | false=>exact e
theorem Ji(ha:Gm X a tA):LL X (.BoolOp .Or [a] pos) tA:=by
 intro wh E pins s σ H τ G Q hE I h
 refine isTrue_or (gC (ha E pins s σ H τ G Q hE I h) fun c s1 e=>?_)
 cases c with
 | false=>exact isTrue_or_nil e
 | true=>exact e
theorem Jj(ha:Gm X a tA)(hb:LL X (.BoolOp .And (b :: rest) pos) tB):LL X (.BoolOp .And (a :: b :: rest) pos) (C3 tA tB):=by
 intro wh E pins s σ H τ G Q hE I h
 refine isTrue_and (Kk ha hE I h fun c H1 G1 s1 I1 m1 q1=>?_)
 cases c with
 | true=>exact gC (hb wh E pins s1 σ H1 τ G1 Q hE I1 (by simpa using q1)) fun _ _ z=>z.trans m1
 | false=>exact⟨H1,G1,I1.inv,m1,by simpa using q1⟩
theorem MN(ha:Gm X a tA)(hb:LL X (.BoolOp .Or (b :: rest) pos) tB):LL X (.BoolOp .Or (a :: b :: rest) pos) (Rh tA tB):=by
 intro wh E pins s σ H τ G Q hE I h
 refine isTrue_or (Kk ha hE I h fun c H1 G1 s1 I1 m1 q1=>?_)
 cases c with
 | false=>exact gC (hb wh E pins s1 σ H1 τ G1 Q hE I1 (by simpa using q1)) fun _ _ z=>z.trans m1
 | true=>exact⟨H1,G1,I1.inv,m1,by simpa using q1⟩
theorem Jl(ha:Gm X a tA):Gm X (.UnaryOp .Not a pos) (Ik tA):=by
 intro E pins s σ H τ G Q hE I h
 exact isTrue_not (gC (ha E pins s σ H τ G (fun c H1=>Q (!c) H1) hE I h) (by rintro c s' ⟨H',G',i,m,q⟩; exact⟨H',G',i,m,q⟩))
theorem PV{op}{t:fW}(h:gE X a t):gE X (.BoolOp op [a] pos) t:=fun E pins s σ H τ G Q hE I hw=>BoolOp_one (h E pins s σ H τ G Q hE I hw)
theorem P0(ha:gE X a ta)(hb:gE X (.BoolOp .And (b :: rest) pos) tb):gE X (.BoolOp .And (a :: b :: rest) pos) (JQ ta tb):=by
 intro E pins s σ H τ G Q hE I h
 refine BoolOp_and (lM ha hE I h fun x H1 d G1 v s1 I1 m1 r1 jS q1=>?_)
 try dsimp only at q1
 split at q1
 ·rename_i e
  exact Ki pins s1 σ H1 G1 x d v true _ I1.inv I1.ab r1 jS e fun s' I'=>gC (hb E pins s' σ H1 τ G1 Q hE ⟨I',I1.st,I1.ab⟩ q1) fun _ _ z=>z.trans m1
 ·rename_i e
  exact Ki pins s1 σ H1 G1 x d v false _ I1.inv I1.ab r1 jS e fun s' I'=>⟨x,H1,d,G1,I',m1,r1,jS,q1⟩
 ·exact q1.elim
theorem PW(ha:gE X a ta):gE X (.UnaryOp .Not a pos) (Oi ta):=by
 intro E pins s σ H τ G Q hE I h
 refine UnaryOp_ (lM ha hE I h fun x H1 d G1 v s1 I1 m1 r1 jS q1=>?_)
 try dsimp only at q1
 split at q1
 ·rename_i k e
  exact not_of (Ki pins s1 σ H1 G1 x d v k _ I1.inv I1.ab r1 jS e fun s' I'=>⟨.bl (!k),H1,.bl (!k),G1,I',m1,rfl,.bl _,q1⟩)
 ·exact q1.elim
theorem R4(hc:Gm X c tA)(ha:gE X a ta)(hb:gE X b tb):gE X (.IfExp c a b pos) (WK tA ta tb):=by
 intro E pins s σ H τ G Q hE I h
 refine wpAny_IfExp (Kk hc hE I h fun d H1 G1 s1 I1 m1 q1=>?_)
 cases d with
 | true=>exact gC (ha E pins s1 σ H1 τ G1 Q hE I1 (by simpa using q1)) fun _ _ z=>z.trans m1
 | false=>exact gC (hb E pins s1 σ H1 τ G1 Q hE I1 (by simpa using q1)) fun _ _ z=>z.trans m1
variable {e:Expr} {es:List Expr} {te:fW} {t:Ah}
theorem aO:DH X [] bC:=fun _ _ _ _ _ H _ G Q _ I h=>Calls.spliced_nil ⟨[],H,[],G,I.inv,.refl I.ab,.nil,.nil,h⟩
theorem ao(ha:gE X e te)(hr:DH X es t)(hs:autoParam (bK (e :: es) X.env=(false,eval e X.env) :: bK es X.env) Ar._auto_1):DH X (e :: es) (aA te t):=by
 intro pos E pins s σ H τ G Q hE I h
 rw [hs]
 show wpAny _ _ (LS ((false,eval e X.env) :: iV pos (bK es X.env))) _ _ s
 refine kq (lM ha hE I h fun x H1 d G1 u s1 I1 m1 r1 jS q1=>?_)
 exact gC (hr pos E pins s1 σ H1 τ G1 _ hE I1 q1) (by rintro us s2 ⟨xs,H2,ds,G2,pN,m2,r2,Au,q2⟩; exact⟨x :: xs,H2,d :: ds,G2,pN,m1.trans m2,.cons r1 r2,.cons (jS.mono (m2.kp I1.ab)) Au,q2⟩)
theorem xx{pins:List (Addr×Obj)}{σ:L2.St}{H:Hp}{τ:gY}{G:Gp}{s:aq}{E:kc}{R:List D->Gp->Prop}{Q:List Value->aq->Prop}(ha:DH X es t)(pos:Pos)(hE:Lk X E)(I:I2 X pins σ H τ G s)(h:t E τ G R)
  (k:∀ vs H1 ds G1 us s1,I2 X pins σ H1 τ G1 s1->Mv X.K H G H1 G1->Vals vs us->bb X.K H1 vs ds->R ds G1->Q us s1):wpAny (model X.prog X.w) X.A (LS (iV pos (bK es X.env))) Q X.xe s :=
 gC (ha pos E pins s σ H τ G R hE I h) (by rintro us s1 ⟨vs,H1,ds,G1,I1,m,r,rd,q⟩; exact k vs H1 ds G1 us s1 (I.mv I1 m) m r rd q)
theorem gL{x1}(h:DH X es t):gE X (.Tuple es x1 pos) (i5 t):=by
 intro E pins s σ H τ G Q hE I hq
 refine wpAny_Tuple_spliced (xx h pos hE I hq ?_)
 rintro xs H1 ds G1 us s1 I1 m1 r rd ⟨z,q⟩
 refine⟨by rw [← r.length,rd.length,cb]; exact z,?_⟩
 have hf:H1 s1.heap.objs.size=none:=I1.inv.cM.fresh (aF _)
 refine⟨.ref s1.heap.objs.size,upd H1 s1.heap.objs.size (.tup xs),.tup ds,G1,I1.inv.laid (t':=s1.toks) (fun b u e=>aI _ e) (aF _) ?_,m1.trans (.LG I1.ab hf),rfl,?_,q⟩
 ·exact⟨by rw [rd.length,cb]; exact z,us,r,⟨_,bw _ rfl,rfl,_,rfl⟩⟩
 ·exact .tup cR (rd.mono (.new hf))
theorem rY(h:DH X es t):gE X (.List es pos) (rE t):=by
 intro E pins s σ H τ G Q hE I hq
 refine wpAny_List_spliced (xx h pos hE I hq ?_)
 rintro xs H1 ds G1 us s1 I1 m1 r rd ⟨z,q⟩
 refine⟨by rw [← r.length,rd.length,cb]; exact z,?_⟩
 have hf:H1 s1.heap.objs.size=none:=I1.inv.cM.fresh (aF _)
 refine⟨.ref s1.heap.objs.size,upd H1 s1.heap.objs.size (.lst xs),.ref _,fN G1 s1.heap.objs.size (.lst ds),I1.inv.laid (t':=s1.toks) (fun b u e=>aI _ e) (aF _) ?_,m1.trans (.Ax I1.ab hf rd),rfl,.ref _,q _ (I1.ab.free hf)⟩
 exact⟨by rw [rd.length,cb]; exact z,us,0,r,bw _ rfl⟩
noncomputable def d4(K:ag)(sp:mz):Sp:=fun vs H Q _=>∃ ds G Q2,bb K H vs ds/\kS K H G/\sp ds G Q2 (fun _ _=>False)/\∀ d G' v H',Q2 d G'->Mv K H G H' G'->cL K H' v d->Q v H'
variable {k:Nat} {f:Addr} {fd:aW} {ps:List Str} {sp:mz} {x:Str} {p:Pos} {r:List D->Gp->DK->Prop} {id:String}
theorem MY(F:dc X.prog X.w X.K X.mg X.base jf k f fd ps (d4 X.K sp))(hr:jT k X.A)(hg:Gl X x)(hm:X.mg x=some (.ref f))(hk:ar X.K (.ref f)=true)(hb:Binds X.K fd ps [])
  (ha:DH X (e :: es) t) (CM:autoParam ((x == ("__debug__" : Str))=false) Ad._auto_1) (he:autoParam (bK (e :: es) X.env=(false,eval e X.env) :: bK es X.env) Ar._auto_1) (Bm:autoParam ((iV pos (bK es X.env)).any (·.1)=false) Ar._auto_1) :
  gE X (.Call (.Name x p) (e :: es) [] pos) (fun E τ G Q=>cg (fun ds G1 Q1 _=>sp ds G1 Q1 fun _ _=>False) t E τ G Q):=by
 intro E pins s σ H τ G Q hE I h
 refine eM (oY I.inv hg hm ?_ CM)
 refine xt (h₀:=X.base) I.inv.ok.mod.Nm hk (xx ha pos hE I h fun vs H1 ds G1 us s1 I1 m1 r rd q=>⟨I1.inv.HK,?_⟩) he Bm
 refine gC (ME F hr hb .nil Ui I1.inv r (Q:=Dj X.K H1 G1 Q) ?_) fun _ _ z=>(t4.of z).trans m1
 rw [bS]
 exact⟨ds,G1,Q,rd,I1.ab,q,fun d G' v H' q' m' MJ=>⟨d,G',m',MJ,q'⟩⟩
theorem iE (hc:wU X (.builtin id) r) (hg:Gl X x) (hm:X.mg x=none) (hv:fy x=some (.builtin id)) (ha:DH X (e :: es) t) (hn:autoParam (x≠"__name__") Ad._auto_1) (CM:autoParam ((x == ("__debug__" : Str))=false) Ad._auto_1)
  (he:autoParam (bK (e :: es) X.env=(false,eval e X.env) :: bK es X.env) Ar._auto_1) (Bm:autoParam ((iV pos (bK es X.env)).any (·.1)=false) Ar._auto_1):gE X (.Call (.Name x p) (e :: es) [] pos) (sE r t):=by
 intro E pins s σ H τ G Q hE I h
 refine eM (oZ I.inv hg hm hv ?_ hn CM)
 exact kd (xx ha pos hE I h fun vs H1 ds G1 us s1 I1 m1 r1 jS q1=>gC (hc pins s1 σ H1 G1 vs ds us Q I1.inv I1.ab r1 jS q1) fun _ _ z=>z.trans m1) he Bm
variable {st:Stmt} {sts:List Stmt} {u v:iz}
theorem fR:vz X [] fv:=fun _ _ _ σ H τ G _ _ I h=>lL ⟨σ,H,τ,G,I,.refl I.ab,h⟩
theorem aJ(h1:Gn X st u)(h2:vz X sts v):vz X (st :: sts) (da u v):=by
 intro E pins s σ H τ G D hE I h
 refine wV (gC (h1 E pins s σ H τ G { D with nx:=v E D } hE I h) fun f s1 q=>?_)
 cases f with
 | next =>
  obtain⟨jx,H',oq,G',I',m,q⟩:=q
  exact gC (h2 E pins s1 jx H' oq G' D hE I' q) fun _ _ z=>z.trans m
 | ret v=>exact q
 | brk=>exact q
 | cont=>exact q
theorem aY(h1:Gn X st u):vz X [st] u:=by
 intro E pins s σ H τ G D hE I h
 refine wV (gC (h1 E pins s σ H τ G D hE I h) fun f s1 q=>?_)
 cases f with
 | next=>exact lL q
 | ret v=>exact q
 | brk=>exact q
 | cont=>exact q
theorem cX(he:gE X e te):Gn X (.Return (some e) pos) (dO te):=by
 intro E pins s σ H τ G D hE I h
 exact wpAny_Return_some (gC (he E pins s σ H τ G _ hE I h) (by rintro v s1 ⟨x,H1,d,G1,I1,m,r1,rd,q1⟩; exact⟨x,σ,H1,d,G1,I1,m,r1,rd,q1⟩))
theorem jI{sa sb:List Stmt}(hc:Gm X c tA)(ha:vz X sa u)(hb:vz X sb v):Gn X (.If c sa sb pos) (nu tA u v):=by
 intro E pins s σ H τ G D hE I h
 refine wpAny_If (Kk hc hE I h fun d H1 G1 s1 I1 m1 q1=>?_)
 cases d with
 | true=>exact gC (ha E pins s1 σ H1 τ G1 D hE I1 (by simpa using q1)) fun _ _ z=>z.trans m1
 | false=>exact gC (hb E pins s1 σ H1 τ G1 D hE I1 (by simpa using q1)) fun _ _ z=>z.trans m1
noncomputable def LM(X:Cx)(target:Expr)(t:AI):Prop :=
 ∀ (E:kc) (pins:List (Addr×Obj)) (s:aq) (σ:L2.St) (H:Hp) (τ:gY) (G:Gp) (w:V) (d:D) (u:Value) (Q:gY->Gp->Prop),Lk X E->I2 X pins σ H τ G s->RelV w u->cL X.K H w d->t E d τ G Q ->
  wpAny (model X.prog X.w) X.A (LY target X.env u) (fun _ s'=>∃ jx H' oq G',I2 X pins jx H' oq G' s'/\Mv X.K H G H' G'/\Q oq G') X.xe s
noncomputable def QG(X:Cx)(ts:List Expr)(t:Di):Prop :=
 ∀ (E:kc) (pins:List (Addr×Obj)) (s:aq) (σ:L2.St) (H:Hp) (τ:gY) (G:Gp) (ws:List V) (ds:List D) (us:List Value) (Q:gY->Gp->Prop),Lk X E->I2 X pins σ H τ G s->Vals ws us->bb X.K H ws ds->t E ds τ G Q ->
  wpAny (model X.prog X.w) X.A (assignInOrder ((z0 ts X.env).map (·.2)) us) (fun _ s'=>∃ jx H' oq G',I2 X pins jx H' oq G' s'/\Mv X.K H G H' G'/\Q oq G') X.xe s
theorem MW{i:Nat}{x:Str}(hN:X.N.Nodup)(hi:X.N[i]?=some x)(hx:Loc X.env.scope x)(hf:autoParam (X.fn x=true\/X.env.scope.names.lookup x=some .local) Ao._auto_1):LM X (.Name x pos) (aQ i):=by
 intro E pins s σ H τ G w d u Q hE I r rd h
 exact wpAny_assign_Name (D0 I.inv hN hi hx r (fun s' I'=>⟨_,H,_,G,⟨I',I.st.set i rd,I.ab⟩,.refl I.ab,h⟩) hf)
theorem nO:QG X [] tM:=by
 intro E pins s σ H τ G ws ds us Q hE I r rd h
 unfold tM at h
 split at h
 ·have e:=rd.zero
  subst e
  cases r
  exact assignInOrder_nil ⟨σ,H,τ,G,I,.refl I.ab,h⟩
 ·exact h.elim
theorem e7{t:AI}{u:Di}(h1:LM X e t)(h2:QG X es u)
  (hs:autoParam ((z0 (e :: es) X.env).map (·.2)=LY e X.env :: (z0 es X.env).map (·.2)) Ar._auto_1):QG X (e :: es) (g8 t u):=by
 intro E pins s σ H τ G ws ds us Q hE I r rd h
 unfold g8 at h
 split at h
 ·cases rd with
  | cons jS Au =>
   cases r with
   | cons r1 r2 =>
    rw [hs]
    refine assignInOrder_cons (gC (h1 E pins s σ H τ G _ _ _ _ hE I r1 jS h) ?_)
    rintro _ s1 ⟨σ1,H1,pY,G1,I1,m1,q1⟩
    exact gC (h2 E pins s1 σ1 H1 pY G1 _ _ _ Q hE I1 r2 (Au.mono (m1.kp I.ab)) q1) (by rintro _ _ ⟨WV,H2,vM,G2,pN,m2,q2⟩; exact⟨WV,H2,vM,G2,pN,m1.trans m2,q2⟩)
 ·exact h.elim
theorem rW{k:Nat}{t:Di}{n:Nat}(hc:X.calm=true)(h:QG X es t)(hgl:∀ E ds τ G Q,t E ds τ G Q->ds.length=n)
  (hn:autoParam ((z0 es X.env).length=n) Ar._auto_1) (xK:autoParam ((z0 es X.env).findIdx? (·.1)=none) Ar._auto_1):LM X (.Tuple es k pos) (vg t):=by
 intro E pins s σ H τ G w d u Q hE I r rd hw
 unfold vg at hw
 split at hw
 ·cases rd with
  | tup hq rs =>
   cases r
   obtain⟨bB,rv,ht,hz⟩:=I.inv.tuple (.of hq)
   refine assign_Tuple_tuple (I.inv.ok.hd hc) ht (by rw [hn,aP,← rv.length,rs.length]; exact(hgl _ _ _ _ _ hw).symm) xK fun h' hx=>?_
   have I1:Inv X pins σ H { s with heap:=h' }:=I.inv.kept (t':=s.toks) fun b o e=>hx b o (bL (aK e)) e
   exact h E pins _ σ H τ G _ _ _ Q hE ⟨I1,I.st,I.ab⟩ (by simpa using rv) rs hw
 ·exact hw.elim
theorem nV:∀ E ds τ G Q,tM E ds τ G Q->ds.length=0:=by
 intro E ds τ G Q h
 cases ds with
 | nil=>rfl
 | cons _ _=>exact h.elim
theorem K7{t:AI}{u:Di}{n:Nat}(h:∀ E ds τ G Q,u E ds τ G Q->ds.length=n)(hm:∀ E d τ G (Q Q':gY->Gp->Prop),t E d τ G Q->(∀ oq G',Q oq G'->Q' oq G')->t E d τ G Q')(hx:∀ E d τ G,¬ t E d τ G fun _ _=>False) :
  ∀ E ds τ G Q,g8 t u E ds τ G Q->ds.length=n+1:=by
 intro E ds τ G Q q
 cases ds with
 | nil=>exact q.elim
 | cons d ds =>
  by_cases hl:ds.length=n
  ·rw [ak,hl]
  ·exact absurd (hm E d τ G _ (fun _ _=>False) q fun oq G' z=>hl (h _ _ _ _ _ z)) (hx E d τ G)
theorem rV{tg:Expr}{g:AI}(he:gE X e te)(hg:LM X tg g)(hs:autoParam (swapsWithSole [tg] e pos.line X.env=pure false) Ar._auto_1)(hw:autoParam (swappedStores [tg] e X.env=pure none) Ar._auto_1)
  (h1:autoParam ((z0 [tg] X.env).map (·.2)=[LY tg X.env]) Ar._auto_1):Gn X (.Assign [tg] e pos) (cz te g):=by
 intro E pins s σ H τ G D hE I h
 refine wpAny_Assign_stores (lM he hE I h fun x H1 d G1 v s1 I1 m1 r1 jS q1=>?_) hs hw
 rw [h1]
 exact gC (hg E pins s1 σ H1 τ G1 x d v _ hE I1 r1 jS q1) (by rintro _ s2 ⟨WV,H2,vM,G2,pN,m2,q2⟩; exact⟨WV,H2,vM,G2,pN,m1.trans m2,q2⟩)
theorem PN{i:Nat}{x:Str}{pos':Pos}(hN:X.N.Nodup)(hi:X.N[i]?=some x)(hx:Loc X.env.scope x)(he:gE X e te)(hs:autoParam (DI e (some (.Name x pos')) pos.line X.env=pure false) Ar._auto_1)(hf:autoParam (X.fn x=true\/X.env.scope.names.lookup x=some .local) Ao._auto_1) :
  Gn X (.Assign [.Name x pos'] e pos) (cz te (aQ i)):=by
 intro E pins s σ H τ G D hE I h
 refine wpAny_Assign_Name (lM he hE I h fun y H1 d G1 v s1 I1 m1 r1 jS q1=>?_) hs
 exact D0 I1.inv hN hi hx r1 (fun s2 pN=>⟨_,H1,_,G1,⟨pN,I1.st.set i jS,I1.ab⟩,m1,q1⟩) hf
theorem kA(he:gE X e te)(hs:autoParam (DI e none pos.line X.env=pure false) Ar._auto_1):Gn X (.Expr e pos) (iK te):=by
 intro E pins s σ H τ G D hE I h
 exact wpAny_Expr_any (lM he hE I h fun y H1 d G1 v s1 I1 m1 r1 jS q1=>⟨σ,H1,τ,G1,I1,m1,q1⟩) I.inv.quiet hs
end
end K2
end
section
namespace K2
open PySem PySem.Spec PyProof.Rows L2
noncomputable def Rm(K:ag)(J:It)(H':Hp)(ds:List D)(ok:Gp->Prop):Prop :=
 ∀ i H1 G1,Kp H' H1->kS K H1 G1->ok G1->(∀ d,ds[i]?=some d->J.go i H1/\∀ x H2,J.yld i H1 x H2->cL K H2 x d/\Mv K H1 G1 H2 G1)/\(ds.length<=i->J.stop i H1)
inductive Iv (X:Cx) (pins:List (Addr×Obj)) (σ:L2.St) (tg:Expr) (H:Hp) (G:Gp) (R:List D->(Gp->Prop)->Gp->Prop) (QZ:Value) (s2:aq):Prop
 | mk (it:Addr) (fp:List Addr) (tn:Nat->Heap->Prop) (J:It) (H':Hp) (G':Gp) (ds:List D) (ok:Gp->Prop) (e:QZ=.ref it) (i:Inv X pins σ H' s2) (m:Mv X.K H G H' G') (T:Turn X.prog X.w X.K tg J fp it tn) (t0:tn 0 s2.heap) (f:∀ b∈fp,oa X pins H' b)
  (wk:Rm X.K J H' ds ok) (q:R ds ok G'):Iv X pins σ tg H G R QZ s2
noncomputable def O5(X:Cx)(tg iter:Expr)(wi:O4):Prop :=
 ∀ (E:kc) (pins:List (Addr×Obj)) (s:aq) (σ:L2.St) (H:Hp) (τ:gY) (G:Gp) (R:List D->(Gp->Prop)->Gp->Prop),Lk X E->I2 X pins σ H τ G s->wi E τ G R ->
  wpAny (model X.prog X.w) X.A (eval iter X.env) (fun v s1=>wpAny (model X.prog X.w) X.A (AM v) (Iv X pins σ tg H G R) X.xe s1) X.xe s
section
variable {X:Cx} {tg:Expr} {a b:Expr} {ta tb:fW} {pos p:Pos}
theorem Jr{pins:List (Addr×Obj)}{σ:L2.St}{H H1:Hp}{G G1:Gp}{s1:aq}{l:Addr}{vs:List V}{ds:List D}{ok:Gp->Prop}{R:List D->(Gp->Prop)->Gp->Prop}(I1:Inv X pins σ H1 s1)(m:Mv X.K H G H1 G1)(hq:pM X.K H1 l vs)
  (hk:∀ H2 G2,Kp H1 H2->kS X.K H2 G2->ok G2->∃ ws,pM X.K H2 l ws/\bb X.K H2 ws ds) (q:R ds ok G1):wpAny (model X.prog X.w) X.A (AM (.ref l)) (Iv X pins σ tg H G R) X.xe s1:=by
 obtain⟨bB,rv,pl,hz⟩:=I1.list hq
 refine Gs pl.isList ?_
 refine⟨s1.heap.objs.size,[s1.heap.objs.size],_,_,H1,G1,ds,ok,rfl,I1.kept (t':=s1.toks) fun b o e=>aI _ e,m,Kc l _,⟨_,bw _ rfl,rfl,rfl⟩,fun b hb=>?_,fun i H2 G2 k ab o=>?_,q⟩
 ·have e:b=s1.heap.objs.size:=by simpa using hb
  subst e
  exact I1.HY (aF _) (I1.cM.fresh (aF _))
 ·obtain⟨ws,hw,rd⟩:=hk H2 G2 k ab o
  refine⟨fun d hd=>?_,fun hl=>⟨ws,hw,by rw [rd.length]; exact hl⟩⟩
  obtain⟨v,hv,r⟩:=rd.get hd
  refine⟨⟨ws,v,hw,hv⟩,?_⟩
  rintro x H3 ⟨e,y⟩
  subst e
  have:=y ws hw
  rw [hv] at this
  cases this
  exact⟨r,.refl ab⟩
theorem Rz{pins:List (Addr×Obj)}{σ:L2.St}{H H1:Hp}{G G1:Gp}{s1:aq}{l:Addr}{vs:List V}{ds:List D}{R:List D->(Gp->Prop)->Gp->Prop}(I1:Inv X pins σ H1 s1)(m:Mv X.K H G H1 G1)(hq:zT X.K H1 l vs)(rd:bb X.K H1 vs ds)
  (q:R ds (fun _=>True) G1):wpAny (model X.prog X.w) X.A (AM (.ref l)) (Iv X pins σ tg H G R) X.xe s1:=by
 obtain⟨bB,rv,pl,hz⟩:=I1.tuple hq
 refine wpAny_pyIter_tuple (show s1.heap.IsTuple l bB.toArray from pl) ?_
 refine⟨s1.heap.objs.size,[s1.heap.objs.size],_,_,H1,G1,ds,_,rfl,I1.kept (t':=s1.toks) fun b o e=>aI _ e,m,GR l _,⟨_,bw _ rfl,rfl,rfl⟩,fun b hb=>?_,fun i H2 G2 k ab _=>?_,q⟩
 ·have e:b=s1.heap.objs.size:=by simpa using hb
  subst e
  exact I1.HY (aF _) (I1.cM.fresh (aF _))
 ·have hw:=k.sqT hq
  have Au:=rd.mono k
  refine⟨fun d hd=>?_,fun hl=>⟨vs,hw,by rw [rd.length]; exact hl⟩⟩
  obtain⟨v,hv,r⟩:=Au.get hd
  refine⟨⟨vs,v,hw,hv⟩,?_⟩
  rintro x H3 ⟨e,y⟩
  subst e
  have:=y vs hw
  rw [hv] at this
  cases this
  exact⟨r,.refl ab⟩
theorem jJ(ha:gE X a ta):O5 X tg a (tL ta):=by
 intro E pins s σ H τ G R hE I h
 refine lM ha hE I h fun x H1 d G1 v s1 I1 m1 r1 jS q1=>?_
 cases jS with
 | tup hq rs=>cases r1; exact Rz I1.inv m1 (.of hq) rs q1
 | d0 hq rs=>cases r1; exact Jr I1.inv m1 hq.sq (fun H2 G2 k ab _=>⟨_,(k.RM hq).sq,rs.mono k⟩) q1
 | ref p =>
  cases r1
  dsimp only at q1
  split at q1
  ·rename_i ds e
   obtain⟨vs,hv,rs⟩:=I1.ab.lst e
   refine Jr I1.inv m1 (.of hv) (fun H2 G2 k ab o=>?_) q1
   obtain⟨ws,hw,tD⟩:=ab.lst o
   exact⟨ws,.of hw,tD⟩
  ·exact q1.elim
 | pR _ _=>exact q1.elim
 | pQ _ _=>exact q1.elim
 | cY=>exact q1.elim
 | bl _=>exact q1.elim
 | int _=>exact q1.elim
 | str _=>exact q1.elim
 | exc _=>exact q1.elim
theorem RS{pins:List (Addr×Obj)}{σ:L2.St}{H H1:Hp}{G G1:Gp}{s:aq}{R:List D->(Gp->Prop)->Gp->Prop}{lo hi:Int}{t u v:Tok}{tk:Nat}(I:Inv X pins σ H1 s)(m:Mv X.K H G H1 G1)(h1:-(2 ^ 62)<=lo)(h2:lo < 2 ^ 62)(h3:-(2 ^ 62)<=hi)(h4:hi < 2 ^ 62)
  (q:R (fq lo (hi - lo).toNat) (fun _=>True) G1):wpAny (model X.prog X.w) X.A (AM (.ref s.heap.objs.size)) (Iv X pins σ tg H G R) X.xe { s with heap:=s.heap.push { cls:=.type "range",data:=.fields #[.int lo t,.int hi u,.int 1 v] },toks:=tk }:=by
 refine gC (ML (tg:=tg) I h1 h2 h3 h4 (R:=fun J H'=>J=Itr lo (hi - lo).toNat/\H'=H1) ⟨rfl,rfl⟩) ?_
 rintro QZ s2 ⟨it,fp,tn,J,H',e,pN,T,st,fo,eJ,eH⟩
 subst eJ; subst eH
 refine⟨it,fp,tn,_,H',G1,_,_,e,pN,m,T,st,fo,fun i H2 G2 k ab _=>⟨fun d hd=>?_,fun hl=>?_⟩,q⟩
 ·unfold fq at hd
  rw [bu] at hd
  cases Af:(cG (hi - lo).toNat)[i]? with
  | none=>rw [Af] at hd; cases hd
  | some j =>
   rw [Af] at hd
   obtain⟨nB,ej⟩:=List.getElem?_eq_some_iff.mp Af
   rw [gU] at nB
   rw [List.getElem_range] at ej
   subst ej
   cases hd
   refine⟨nB,?_⟩
   rintro x H3 ⟨e1,e2⟩
   subst e1; subst e2
   exact⟨.int _,.refl ab⟩
 ·unfold fq at hl
  rw [aj,gU] at hl
  exact hl
theorem fY (hg:Gl X "range") (hm:X.mg "range" = none) (ha:gE X a ta) (hs:autoParam (bK [a] X.env=[(false,eval a X.env)]) Ar._auto_1):O5 X tg (.Call (.Name "range" p) [a] [] pos) (mU ta):=by
 intro E pins s σ H τ G R hE I h
 have hA:DH X [a] (aA ta bC):=ao ha aO hs
 refine Call_ (oZ I.inv hg hm boot_range (d6 (xx hA pos hE I (R:=fun ds G1=>match ds with | [.int n]=>-(2 ^ 62)<=n/\n < 2 ^ 62/\R (fq 0 n.toNat) (fun _=>True) G1 | _=>False) ?_ fun vs H1 ds G1 us s1 I1 m1 r1 jS q1=>?_) hs rfl))
 ·show ta E τ G _
  have e:(fun (x:D) (G1:Gp)=>match [x] with | [.int n]=>-(2 ^ 62)<=n/\n < 2 ^ 62/\R (fq 0 n.toNat) (fun _=>True) G1 | _=>False)=fun x G1=>match x with | .int n=>-(2 ^ 62)<=n/\n < 2 ^ 62/\R (fq 0 n.toNat) (fun _=>True) G1 | _=>False:=by
   funext x G1; cases x <;> rfl
  exact e ▸ h
 ·split at q1
  ·rename_i n
   obtain⟨w,rfl,Ku⟩:=jS.one
   cases Ku
   obtain⟨u,rfl,ru⟩:=r1.one
   obtain⟨t,rfl⟩:=ru
   obtain⟨q1,q2,q⟩:=q1
   exact call_range_1 (RS I1.inv m1 (by lia) (by lia) q1 q2 (by simpa using q))
  ·exact q1.elim
theorem fG{iter:Expr}{body:List Stmt}{wi:O4}{g:AI}{t:iz}(hp:PassesOwn (model X.prog X.w) X.A X.env X.xe)(hc:X.calm=true)(hi:O5 X tg iter wi)(hg:LM X tg g)(hb:vz X body t)
  (hs:autoParam (∀ x,ng iter X.env x=pure x) Ai._auto_1):Gn X (.For tg iter body [] pos) (gN wi g t):=by
 intro E pins s σ H τ G D hE I h
 refine wpAny_For (gC (hi E pins s σ H τ G _ hE I h) fun v s1 h1=>gC h1 fun QZ s2 h2=>?_) hs
 obtain⟨it,fp,tn,J,H2,G2,ds,ok,e,pN,m2,T,OR,f2,wk,q⟩:=h2
 subst e
 have RI:∀ {H':Hp},(∀ b∈fp,H' b=none)->∀ b∈fp,oa X pins H' b:=fun hn b hb=>⟨hn b hb,(f2 b hb).2⟩
 refine codeAny_forLoop_any (fun n s'=>∃ i jx H' oq G',I2 X pins jx H' oq G' s'/\Mv X.K H G H' G'/\Kp H2 H'/\tn i s'.heap/\(∀ b∈fp,H' b=none)/\n=ds.length - i/\i<=ds.length/\sM g t ok (ds.drop i) E D oq G') ?_ ds.length
  ⟨0,σ,H2,τ,G2,I.mv pN m2,m2,.refl _,OR,fun b hb=>(f2 b hb).1,rfl,cD _,q⟩
 rintro n s3 ⟨i,TJ,H3,WU,G3,I3,m3,k3,V2,fr3,rfl,hle,w3⟩
 by_cases nB:i < ds.length
 ·rw [gF nB] at w3
  obtain⟨Tj,w3⟩:=w3
  obtain⟨go,yl⟩:=(wk i H3 G3 k3 I3.ab Tj).1 ds[i] (by simp [nB])
  refine p7 hp (gC (T.item X rfl rfl rfl hc i pins s3 TJ H3 X.xe I3.inv (RI fr3) V2 go) ?_)
  rintro r s4 ⟨u,hr,h4⟩
  subst hr
  refine p7 hp (gC h4 ?_)
  rintro _ s5 ⟨x,H5,I5,r5,y5,W6,fr5⟩
  obtain⟨rd5,m5⟩:=yl x H5 y5
  have I5':=I5.pinned (RI fr5) (T.obj _ _ W6)
  have J5:I2 X (pins++qA fp s5.heap) TJ H5 WU G3 s5:=⟨I5',I3.st.mono (m5.kp I3.ab),m5.ab⟩
  refine p7 hp (gC (hg E _ s5 TJ H5 WU G3 x ds[i] u _ hE J5 r5 rd5 w3) ?_)
  rintro _ s6 ⟨σ6,H6,τ6,G6,I6,m6,q6⟩
  refine p7 hp (gC (hb E _ s6 σ6 H6 τ6 G6 _ hE I6 q6) fun f s7 q7=>?_)
  have again:∀ {LC:L2.St} {H7:Hp} {LB:gY} {G7:Gp},I2 X (pins++qA fp s5.heap) LC H7 LB G7 s7->Mv X.K H6 G6 H7 G7->sM g t ok (ds.drop (i+1)) E D LB G7 ->
    ∃ m,m < ds.length - i/\∃ i jx H' oq G',I2 X pins jx H' oq G' s7/\Mv X.K H G H' G'/\Kp H2 H'/\tn i s7.heap/\(∀ b∈fp,H' b=none)/\m=ds.length - i/\i<=ds.length/\sM g t ok (ds.drop i) E D oq G':=fun {LC H7 LB G7} I7 m7 n7=>by
   have mm:=m5.trans (m6.trans m7)
   refine⟨ds.length - (i+1),by lia,i+1,LC,H7,LB,G7,⟨I7.inv.uo,I7.st,I7.ab⟩,m3.trans mm,k3.trans (mm.kp I3.ab),T.keep _ _ _ W6 fun b hb o e=>(I7.inv.pin (b,o) (bR _ (bR _ (oU hb e)))).1,fun b hb=>?_,rfl,nB,n7⟩
   obtain⟨o,e,d⟩:=T.obj _ _ W6 b hb
   exact(I7.inv.pin (b,o) (bR _ (bR _ (oU hb e)))).2.1
  cases f with
  | next=>obtain⟨LC,H7,LB,G7,I7,m7,n7⟩:=q7; exact again I7 m7 n7
  | cont=>obtain⟨LC,H7,LB,G7,I7,m7,n7⟩:=q7; exact again I7 m7 n7
  | brk=>obtain⟨LC,H7,LB,G7,I7,m7,q7⟩:=q7; exact⟨LC,H7,LB,G7,⟨I7.inv.uo,I7.st,I7.ab⟩,m3.trans (m5.trans (m6.trans m7)),q7⟩
  | ret v=>obtain⟨x7,LC,H7,d7,G7,I7,m7,r7,rd7,q7⟩:=q7; exact⟨x7,LC,H7,d7,G7,I7.uo,m3.trans (m5.trans (m6.trans m7)),r7,rd7,q7⟩
 ·have hn:ds.length<=i:=by lia
  rw [lr hn] at w3
  obtain⟨Tj,qn⟩:=w3
  have stop:=(wk i H3 G3 k3 I3.ab Tj).2 hn
  refine p7 hp (gC (T.done X rfl rfl rfl hc i pins s3 TJ H3 X.xe I3.inv (RI fr3) V2 stop) ?_)
  rintro r s4 ⟨hr,I4⟩
  subst hr
  exact lL ⟨TJ,H3,WU,G3,⟨I4,I3.st,I3.ab⟩,m3,qn⟩
end
end K2
end
section
namespace K2
open PySem PySem.Spec PyProof.Rows L2
theorem B7(n d:Nat)(o:Option Int):HT.jj n d o=jj n d o:=by cases o <;> rfl
theorem bb.cut{K:ag}{H:Hp}{vs:List V}{ds:List D}(r:bb K H vs ds)(lo hi:Option Int):bb K H (Fu vs lo hi) (K2.cut ds lo hi):=by
 unfold Fu K2.cut
 rw [B7,B7,r.length]
 exact(r.drop _).take _
theorem bb.rK{K:ag}{H:Hp}{vs:List V}{ds:List D}{i:Int}{d:D}(r:bb K H vs ds)(h:K2.rK ds i=some d):∃ v,L2.rK vs i=some v/\cL K H v d:=by
 unfold K2.rK at h
 cases e:K2.EY ds.length i with
 | none=>rw [e] at h; cases h
 | some j =>
  rw [e] at h
  obtain⟨v,h1,h2⟩:=r.get (show ds[j]?=some d from h)
  refine⟨v,?_,h2⟩
  show (L2.EY vs.length i).bind _=_
  have e':L2.EY vs.length i=some j:=by rw [r.length]; exact e
  rw [e']
  exact h1
section
variable {X:Cx} {a b c e:Expr} {ta tb tc te:fW} {pos p2:Pos}
theorem mw{pins:List (Addr×Obj)}{s:aq}{σ:L2.St}{H:Hp}{G:Gp}{x:V}{d:D}{v:Value}{zs:List D}(I:Inv X pins σ H s)(ab:kS X.K H G)(rx:RelV x v)(rd:cL X.K H x d)(hi:pH d G=some zs) :
  ∃ l vs bB,v=.ref l/\Vals vs bB/\bb X.K H vs zs/\s.heap.IsList l bB.toArray/\vs.length<=bc:=by
 cases rd with
 | d0 hq rs =>
  cases hi
  cases rx
  obtain⟨bB,rv,pl,hz⟩:=I.list hq.sq
  exact⟨_,_,bB,rfl,rv,rs,pl.isList,hz⟩
 | ref l =>
  unfold pH at hi
  dsimp only at hi
  cases hg:G l with
  | none=>rw [hg] at hi; cases hi
  | some gg =>
   rw [hg] at hi
   cases gg with
   | lst ds =>
    cases hi
    cases rx
    obtain⟨vs,hv,rs⟩:=ab.lst hg
    obtain⟨bB,rv,pl,hz⟩:=I.list (.of hv)
    exact⟨_,_,bB,rfl,rv,rs,pl.isList,hz⟩
   | jn _=>cases hi
 | _=>cases hi
theorem lJ{pins:List (Addr×Obj)}{s:aq}{σ:L2.St}{H:Hp}(I:Inv X pins σ H s){m:Str->Option Value}(F0:Fr X.base X.env.locals s.heap m){h':Heap}(F:Fr X.base X.env.locals h' m)(N:News X.base X.env.locals h' (pv X.base s.heap X.env.locals)) :
  (∀ b o,b≠X.env.locals->s.heap.get? b=some o->h'.get? b=some o)/\∀ m',s.heap.Ns X.env.locals m'->h'.Ns X.env.locals m':=by
 refine⟨fun b o hb e=>?_,fun m' hm=>?_⟩
 ·cases q:X.base.get? b with
  | some u =>
   have:=I.bk b u q
   rw [e] at this; cases this
   exact F.keep b _ q
  | none=>exact(N (b,o) (mR hb q e)).1
 ·have e1:=hm.eq_nsMap
  have e2:=F0.ns.eq_nsMap
  rw [e1,← e2]; exact F.ns
theorem nQ{P:bP}{w:World}{H:Hp}{h:Heap}{a:Addr}:∀ {o:HO},gu P w H h a o->∃ ob,h.get? a=some ob:=by
 intro o x
 cases o with
 | lst _=>obtain⟨_,_,_,_,e⟩:=x; exact⟨_,e⟩
 | tup _=>obtain⟨_,_,_,ob,e,_⟩:=x; exact⟨ob,e⟩
 | dK _=>obtain⟨_,_,_,_,ob,_,_,e,_⟩:=x; exact⟨ob,e⟩
 | dT _=>obtain⟨_,_,_,_,ob,_,_,e,_⟩:=x; exact⟨ob,e⟩
 | set _ _=>obtain⟨ob,_,_,_,e,_⟩:=x; exact⟨ob,e⟩
 | ins _ _ _=>obtain⟨_,_,_,e,_⟩:=x; exact⟨_,e⟩
 | own _=>exact x
 | xd _=>obtain⟨_,⟨ob,_,_,e,_⟩,_⟩:=x; exact⟨ob,e⟩
 | met _ _=>exact⟨_,x⟩
 | T8 _ _=>obtain⟨_,_,_,e⟩:=x; exact⟨_,e⟩
 | kQ _ _=>exact⟨_,x.1⟩
 | Pp _=>exact⟨_,x⟩
 | ext _=>exact x.2.1
theorem yb{P:bP}{w:World}{H:Hp}{h:Heap}{a:Addr}(ok:pT P w H h)(e:h.get? a=none):H a=none:=by
 cases q:H a with
 | none=>rfl
 | some o =>
  obtain⟨ob,z⟩:=nQ (ok a o q)
  rw [e] at z; cases z
theorem Inv.Jt{pins:List (Addr×Obj)}{s:aq}{σ:L2.St}{H:Hp}(I:Inv X pins σ H s){h':Heap}{t':Nat}{a:Addr}{o:HO}(k:∀ b o,b≠X.env.locals->s.heap.get? b=some o->h'.get? b=some o)(ns:∀ m',s.heap.Ns X.env.locals m'->h'.Ns X.env.locals m')
  (hp:s.heap.get? a=none) (new:gu X.prog X.w (upd H a o) h' a o):Inv X pins σ (upd H a o) { s with heap:=h',toks:=t' }:=by
 have hn:H a=none:=yb I.cM hp
 have ne:∀ b u,H b=some u->b≠a:=fun b u e=>ef e hn
 have nL:∀ b u,H b=some u->b≠X.env.locals:=fun b u e=>ef e I.free
 have ht:∀ b u,s.heap.get? b=some u->b≠a:=fun b u e z=>by subst z; rw [hp] at e; cases e
 have thL:∃ o',h'.get? X.env.locals=some o':=by
  obtain⟨m,hm,_⟩:=I.loc
  obtain⟨o',_,_,ho,_⟩:=ns m hm
  exact⟨o',ho⟩
 refine I.step (g':=s.gens) (d':=s.drawn) (ch:=[]) (fun b hb=>absurd hb (by simp)) (fun b o hL _ _ e _=>k b o hL e) (fun b o hL _ _ e _=>⟨o.slots,k b o hL e⟩) (fun b o _ e n=>by rw [bU (ht b o e)]; exact n)
  (fun b o _ e=>?_) (fun b xs e=>by rw [bU (ne _ _ e)]; exact e) (fun b o u e=>by rw [bU (ne _ _ e)]; exact e) (fun b ps e=>⟨#[],by rw [bU (ne _ _ e),e]; simp⟩) ns (fun b u e=>?_) I.bare
 ·by_cases hb:b=X.env.locals
  ·rw [hb]; exact thL
  ·exact⟨o,k b o hb e⟩
 ·by_cases hb:b=a
  ·subst hb; rw [cR] at e; cases e; exact new
  ·rw [bU hb] at e
   refine(I.cM b u e).iM (fun c v hc r=>k c v ?_ r) (fun c z=>by rw [bU (ne _ _ z)]; exact z) (fun c xs z=>by rw [bU (ne _ _ z)]; exact z)
   rcases hc with rfl | hc
   ·exact nL _ _ e
   ·exact nL _ _ hc
theorem km:vA X (jR .Add) mF:=by
 intro pins s σ H G x y dx dy v u Q I ab rx ry dX dY q
 have lists:Iu dx dy G Q->wpAny (model X.prog X.w) X.A (jR .Add v u) (t4 X pins σ H G Q) X.xe s:=by
  intro q
  unfold Iu at q
  split at q
  ·rename_i xs ys e1 e2
   obtain⟨hz,q⟩:=q
   obtain⟨l,vs,bB,rfl,rv,rs,hl,_⟩:=mw I ab rx dX e1
   obtain⟨b,ws,wo,rfl,MB,QP,hb,_⟩:=mw I ab ry dY e2
   obtain⟨m,F0⟩:=I.fr
   have hsz:bB.length+wo.length<=bc:=by rw [← rv.length,← MB.length,rs.length,QP.length,cb]; exact hz
   refine PyProof.Rows.add_lists F0 yS hl hb (fun h' F N=>?_) hsz
   obtain⟨kk,ns⟩:=lJ I F0 F fun p hp=>N p (av _ hp)
   have hp:H s.heap.objs.size=none:=I.cM.fresh (aF _)
   refine⟨.ref s.heap.objs.size,upd H s.heap.objs.size (.lst (vs++ws)),.ref _,_,Inv.Jt (t':=s.toks) I kk ns (Pd (aF _)) ?_,.Ax ab hp (rs.append QP),rfl,.ref _,q _ (ab.free hp)⟩
   exact⟨by rw [au,rv.length,MB.length]; exact hsz,bB++wo,0,rv.append MB,(N _ aE).1⟩
  ·exact q.elim
 cases dX with
 | int i =>
  cases dY with
  | int j=>exact gC (Sb pins s σ H _ _ v u (Dj X.K H G Q) I rx ry ⟨i,j,rfl,rfl,_,_,.refl ab,.int _,q⟩) fun _ _ z=>.of z
  | _=>exact lists q
 | str i =>
  cases dY with
  | str j =>
   obtain⟨hz,q⟩:=q
   exact gC (Hk pins s σ H _ _ v u (Dj X.K H G Q) I rx ry ⟨i,j,rfl,rfl,by rw [cb]; exact hz,_,_,.refl ab,.str _,q⟩) fun _ _ z=>.of z
  | _=>exact lists q
 | tup h1 r1 =>
  cases dY with
  | tup h2 r2 =>
   obtain⟨hn,hz,q⟩:=q
   refine gC (P7 pins s σ H _ _ v u (Dj X.K H G Q) I rx ry ⟨_,_,_,_,rfl,rfl,.of h1,.of h2,?_,?_,fun e=>?_,fun e p hp=>?_⟩) fun _ _ z=>.of z
   ·rintro rfl; cases r1; exact hn rfl
   ·rw [r1.length,r2.length,cb]; exact hz
   ·subst e
    cases r2
    rw [bS] at q
    exact⟨_,_,.refl ab,.tup h1 r1,q⟩
   ·exact⟨_,_,.LG ab hp,.tup cR ((r1.append r2).mono (.new hp)),q⟩
  | _=>exact lists q
 | ref l=>exact lists (by rw [uO] at q; exact q)
 | d0 _ _=>exact lists (by rw [uN] at q; exact q)
 | _=>exact lists (by cases dY <;> exact q)
theorem lE:vA X (jR .Sub) xB:=by
 intro pins s σ H G x y dx dy v u Q I ab rx ry dX dY q
 cases dX with
 | int i =>
  cases dY with
  | int j=>exact gC (R7 pins s σ H _ _ v u (Dj X.K H G Q) I rx ry ⟨i,j,rfl,rfl,_,_,.refl ab,.int _,q⟩) fun _ _ z=>.of z
  | _=>exact bQ q
 | _=>exact bQ q
theorem oO:vA X (jR .Mult) xC:=by
 intro pins s σ H G x y dx dy v u Q I ab rx ry dX dY q
 cases dX with
 | int i =>
  cases dY with
  | int j=>exact gC (R8 pins s σ H _ _ v u (Dj X.K H G Q) I rx ry ⟨i,j,rfl,rfl,q.1,_,_,.refl ab,.int _,q.2⟩) fun _ _ z=>.of z
  | _=>exact bQ q
 | _=>exact bQ q
theorem gi:vA X (jR .Mod) lD:=by
 intro pins s σ H G x y dx dy v u Q I ab rx ry dX dY q
 cases dX with
 | int i =>
  cases dY with
  | int j=>exact gC (R9 pins s σ H _ _ v u (Dj X.K H G Q) I rx ry ⟨i,j,rfl,rfl,q.1,_,_,.refl ab,.int _,q.2⟩) fun _ _ z=>.of z
  | _=>exact bQ q
 | _=>exact bQ q
theorem uS:vA X (jR .FloorDiv) yL:=by
 intro pins s σ H G x y dx dy v u Q I ab rx ry dX dY q
 cases dX with
 | int i =>
  cases dY with
  | int j=>exact gC (P6 pins s σ H _ _ v u (Dj X.K H G Q) I rx ry ⟨i,j,rfl,rfl,⟨q.1,q.2.1⟩,_,_,.refl ab,.int _,q.2.2⟩) fun _ _ z=>.of z
  | _=>exact bQ q
 | _=>exact bQ q
theorem Sd(hu:X.A.units < cLine):vA X (gm .Lt) XD:=by
 intro pins s σ H G x y dx dy v u Q I ab rx ry dX dY q
 cases dX with
 | int i =>
  cases dY with
  | int j=>exact gC (Ul pins s σ H _ _ v u (Dj X.K H G Q) I rx ry ⟨i,j,rfl,rfl,_,_,.refl ab,.bl _,q⟩) fun _ _ z=>.of z
  | _=>exact bQ q
 | tup h1 r1 =>
  cases dY with
  | tup h2 r2 =>
   obtain⟨xs,ys,e1,e2,q⟩:=q
   subst e1 e2
   have z1:=r1.ints
   have z2:=r2.ints
   subst z1 z2
   have el:∀ xs ys:List Int,HT.lexLt xs ys=K2.lexLt xs ys:=by
    intro xs
    induction xs with
    | nil=>intro ys; cases ys <;> rfl
    | cons x xs ih=>intro ys; cases ys with
     | nil=>rfl
     | cons y ys=>unfold HT.lexLt K2.lexLt; rw [ih]
   exact gC (Sa hu pins s σ H _ _ v u (Dj X.K H G Q) I rx ry ⟨_,_,xs,ys,rfl,rfl,.of h1,.of h2,_,_,.refl ab,.bl _,by rw [el]; exact q⟩) fun _ _ z=>.of z
  | _=>exact bQ q
 | _=>exact bQ q
mutual
noncomputable def pd:D->PyData
 | .cY=>.none
 | .bl b=>.bool b
 | .int i=>.int i
 | .str x=>.str x
 | .tup ds=>.tuple (lh ds)
 | .d0 ds=>.list (lh ds)
 | .pC _=>.none
 | .exc _=>.none
 | .ref _=>.none
noncomputable def lh:List D->List PyData
 | []=>[]
 | d :: r=>pd d :: lh r
end
mutual
theorem tS:∀ (s t:D),nr s=true->nr t=true->uf (pd s) (pd t)=iy s t
 | .cY,t,_,ht=>by cases t <;> first | rfl | (exact bq (show false=true from ht))
 | .bl a,t,_,ht=>by cases t <;> first | rfl | (exact bq (show false=true from ht))
 | .int a,t,_,ht=>by cases t <;> first | rfl | (exact bq (show false=true from ht))
 | .str a,t,_,ht=>by cases t <;> first | rfl | (exact bq (show false=true from ht))
 | .tup a,t,hs,ht=>by
  cases t with
  | tup b=>exact CY a b hs ht
  | ref _=>exact bq (show false=true from ht)
  | exc _=>exact bq (show false=true from ht)
  | pC _=>exact bq (show false=true from ht)
  | _=>rfl
 | .d0 a,t,hs,ht=>by
  cases t with
  | d0 b=>exact CY a b hs ht
  | ref _=>exact bq (show false=true from ht)
  | exc _=>exact bq (show false=true from ht)
  | pC _=>exact bq (show false=true from ht)
  | _=>rfl
 | .ref _,_,hs,_=>bq (show false=true from hs)
 | .exc _,_,hs,_=>bq (show false=true from hs)
 | .pC _,_,hs,_=>bq (show false=true from hs)
theorem CY:∀ (s t:List D),pF s=true->pF t=true->PyData.eqvAll (lh s) (lh t)=kD s t
 | [],[],_,_=>rfl
 | [],_ :: _,_,_=>rfl
 | _ :: _,[],_,_=>rfl
 | a :: r,b :: t,hs,ht=>by
  have zm:nr a=true/\pF r=true:=(jy).mp hs
  have UL:nr b=true/\pF t=true:=(jy).mp ht
  show (uf (pd a) (pd b)&&PyData.eqvAll (lh r) (lh t))=(iy a b&&kD r t)
  rw [tS a b zm.1 UL.1,CY r t zm.2 UL.2]
end
mutual
theorem jM:∀ (s:D),nr s=true->(pd s).canLay0=true
 | .cY,_=>rfl
 | .bl a,_=>rfl
 | .int a,_=>rfl
 | .str a,h=>h
 | .tup a,h=>u0 a h
 | .d0 a,h=>u0 a h
 | .exc _,_=>rfl
 | .ref _,_=>rfl
 | .pC _,_=>rfl
theorem u0:∀ (s:List D),pF s=true->PyData.canLayAll0 (lh s)=true
 | [],_=>rfl
 | a :: r,h=>by
  have h':nr a=true/\pF r=true:=(jy).mp h
  show ((pd a).canLay0&&PyData.canLayAll0 (lh r))=true
  rw [jM a h'.1,u0 r h'.2]; rfl
end
theorem zC{G:Gp}{n:Nat}{d t:D}(h:Sn G n d t):(pd t).depth<=n:=by
 induction h with
 | cY=>exact cD _
 | bl b=>exact cD _
 | int i=>exact cD _
 | str x h=>exact cD _
 | GU=>exact t6 (cD _)
 | qm _ _ Nz Ny =>
  exact t6 (Nat.max_le.mpr ⟨Nz,uh Ny⟩)
 | Ca=>exact t6 (cD _)
 | xb _ _ Nz Ny =>
  exact t6 (Nat.max_le.mpr ⟨Nz,uh Ny⟩)
 | ref _ _ ih=>exact ih
theorem gW{pins:List (Addr×Obj)}{σ:L2.St}{H:Hp}{s:aq}{G:Gp}(I:Inv X pins σ H s)(ab:kS X.K H G){n:Nat}{d t:D}(h:Sn G n d t) :
  (∀ v u,cL X.K H v d->RelV v u->∃ as,Reads s.heap u (pd t) as) /\
  (∀ ds ss,(d=.d0 ds/\t=.d0 ss)\/(d=.tup ds/\t=.tup ss)->∀ vs us,bb X.K H vs ds->Vals vs us->∃ as,gv s.heap us (lh ss) as):=by
 have QM:∀ {ds ss:List D},(∀ vs us,bb X.K H vs ds->Vals vs us->∃ as,gv s.heap us (lh ss) as)->∀ v u,cL X.K H v (.tup ds)->RelV v u->∃ as,Reads s.heap u (pd (.tup ss)) as:=by
  intro ds ss k v u r ru
  cases r with
  | tup hq rs =>
   cases ru
   obtain⟨bB,rv,⟨o,ho,hc,n,hd⟩,hz⟩:=I.tuple (.of hq)
   obtain⟨as,ra⟩:=k _ bB rs rv
   exact⟨as,.tuple ho hc hd (by simpa using ra)⟩
 have QQ:∀ {ds ss:List D},(∀ vs us,bb X.K H vs ds->Vals vs us->∃ as,gv s.heap us (lh ss) as)->∀ v u,cL X.K H v (.d0 ds)->RelV v u->∃ as,Reads s.heap u (pd (.d0 ss)) as:=by
  intro ds ss k v u r ru
  cases r with
  | d0 hq rs =>
   cases ru
   obtain⟨bB,rv,pl,hz⟩:=I.list hq.sq
   obtain⟨o,ho,hc,n,hd⟩:=pl.isList
   obtain⟨as,ra⟩:=k _ bB rs rv
   exact⟨_,.list ho hc hd (by simpa using ra)⟩
 induction h with
 | cY=>exact⟨fun v u r ru=>by cases r; cases ru; exact⟨_,.none⟩,fun ds ss e=>by rcases e with ⟨e,_⟩ | ⟨e,_⟩ <;> cases e⟩
 | bl b=>exact⟨fun v u r ru=>by cases r; cases ru; exact⟨_,.bool b⟩,fun ds ss e=>by rcases e with ⟨e,_⟩ | ⟨e,_⟩ <;> cases e⟩
 | int i=>exact⟨fun v u r ru=>by cases r; obtain⟨t,rfl⟩:=ru; exact⟨_,.int i t⟩,fun ds ss e=>by rcases e with ⟨e,_⟩ | ⟨e,_⟩ <;> cases e⟩
 | str x hx=>exact⟨fun v u r ru=>by cases r; obtain⟨t,rfl⟩:=ru; exact⟨_,.str x t⟩,fun ds ss e=>by rcases e with ⟨e,_⟩ | ⟨e,_⟩ <;> cases e⟩
 | GU =>
  have k:∀ vs us,bb X.K H vs []->Vals vs us->∃ as,gv s.heap us (lh []) as:=fun vs us r ru=>by
   have e:=r.zero
   subst e
   cases ru
   exact⟨_,.nil⟩
  refine⟨QM k,fun ds ss e=>?_⟩
  rcases e with ⟨e,_⟩ | ⟨e,e2⟩
  ·cases e
  ·cases e; cases e2; exact k
 | qm h1 h2 Nz Ny =>
  have k2:=Ny.2 _ _ (.inr ⟨rfl,rfl⟩)
  have k:∀ vs us,bb X.K H vs (_ :: _)->Vals vs us->∃ as,gv s.heap us (lh (_ :: _)) as:=fun vs us r ru=>by
   cases r with
   | cons r1 r2 =>
    cases ru with
    | cons u1 u2 =>
     obtain⟨as,ra⟩:=Nz.1 _ _ r1 u1
     obtain⟨bs,rb⟩:=k2 _ _ r2 u2
     exact⟨_,.cons ra rb⟩
  refine⟨QM k,fun ds ss e=>?_⟩
  rcases e with ⟨e,_⟩ | ⟨e,e2⟩
  ·cases e
  ·cases e; cases e2; exact k
 | Ca =>
  have k:∀ vs us,bb X.K H vs []->Vals vs us->∃ as,gv s.heap us (lh []) as:=fun vs us r ru=>by
   have e:=r.zero
   subst e
   cases ru
   exact⟨_,.nil⟩
  refine⟨QQ k,fun ds ss e=>?_⟩
  rcases e with ⟨e,e2⟩ | ⟨e,_⟩
  ·cases e; cases e2; exact k
  ·cases e
 | xb h1 h2 Nz Ny =>
  have k2:=Ny.2 _ _ (.inl ⟨rfl,rfl⟩)
  have k:∀ vs us,bb X.K H vs (_ :: _)->Vals vs us->∃ as,gv s.heap us (lh (_ :: _)) as:=fun vs us r ru=>by
   cases r with
   | cons r1 r2 =>
    cases ru with
    | cons u1 u2 =>
     obtain⟨as,ra⟩:=Nz.1 _ _ r1 u1
     obtain⟨bs,rb⟩:=k2 _ _ r2 u2
     exact⟨_,.cons ra rb⟩
  refine⟨QQ k,fun ds ss e=>?_⟩
  rcases e with ⟨e,e2⟩ | ⟨e,_⟩
  ·cases e; cases e2; exact k
  ·cases e
 | ref hg h1 ih =>
  refine⟨fun v u r ru=>?_,fun ds ss e=>by rcases e with ⟨e,_⟩ | ⟨e,_⟩ <;> cases e⟩
  cases r
  cases ru
  obtain⟨vs,hv,rs⟩:=ab.lst hg
  obtain⟨bB,rv,pl,hz⟩:=I.list (.of hv)
  obtain⟨o,ho,hc,n,hd⟩:=pl.isList
  obtain⟨as,ra⟩:=ih.2 _ _ (.inl ⟨rfl,rfl⟩) vs bB rs rv
  exact⟨_,.list ho hc hd (by simpa using ra)⟩
theorem jK(hu:X.A.units+64 < cLine):vA X (gm .Eq) (xX false):=by
 intro pins s σ H G x y dx dy v u Q I ab rx ry dX dY q
 obtain⟨a,b,sa,sb,q⟩:=q
 obtain⟨as,ra⟩:=(gW I ab sa).1 x v dX rx
 obtain⟨bs,rb⟩:=(gW I ab sb).1 y u dY ry
 have d1:=zC sa
 refine SeqAt.compareEq_reads ra rb (jM _ sa.nr) (jM _ sb.nr) (by unfold SN at d1; lia) ?_
 rw [tS _ _ sa.nr sb.nr]
 exact⟨.bl _,H,.bl _,G,I,.refl ab,rfl,.bl _,q⟩
theorem Hl(hu:X.A.units+64 < cLine):vA X (gm .NotEq) (xX true):=by
 intro pins s σ H G x y dx dy v u Q I ab rx ry dX dY q
 obtain⟨a,b,sa,sb,q⟩:=q
 obtain⟨as,ra⟩:=(gW I ab sa).1 x v dX rx
 obtain⟨bs,rb⟩:=(gW I ab sb).1 y u dY ry
 have d1:=zC sa
 refine SeqAt.compareNe_reads ra rb (jM _ sa.nr) (jM _ sb.nr) (by unfold SN at d1; lia) ?_
 rw [tS _ _ sa.nr sb.nr]
 exact⟨.bl _,H,.bl _,G,I,.refl ab,rfl,.bl _,q⟩
end
end K2
end
section
namespace K2
open PySem PySem.Spec PyProof.Rows L2
theorem vj(j k:Key):iy (dP j) (dP k)=decide (j=k):=by
 cases j with
 | inl a=>cases k with
  | inl b=>rw [Nr]; rfl
  | inr b=>exact(decide_eq_false (fun z=>nomatch z)).symm
 | inr a=>cases k with
  | inl b=>exact(decide_eq_false (fun z=>nomatch z)).symm
  | inr b=>rw [Nq]; exact(OO a b)
theorem Bt:∀ (js ks:List Key),kD (js.map dP) (ks.map dP)=decide (js=ks)
 | [],[]=>(decide_eq_true rfl).symm
 | [],_ :: _=>(decide_eq_false (fun z=>nomatch z)).symm
 | _ :: _,[]=>(decide_eq_false (fun z=>nomatch z)).symm
 | j :: js,k :: ks=>by
  show (iy (dP j) (dP k)&&kD (js.map dP) (ks.map dP))=_
  rw [vj,Bt js ks,Ft]
theorem nY(js ks:List Key):iy (.tup (js.map dP)) (.tup (ks.map dP))=decide (js=ks):=by
 exact Bt js ks
section
variable {K:ag} {H:Hp}
theorem CI{d:D}(h:fc d=true):∃ k:Key,d=dP k:=by
 cases d with
 | int i=>exact⟨.inl i,rfl⟩
 | str x=>exact⟨.inr x,rfl⟩
 | _=>exact absurd h (by simp [fc])
theorem Ju:∀ {ds:List D},ds.all fc=true->∃ ks:List Key,ds=ks.map dP
 | [],_=>⟨[],rfl⟩
 | d :: r,h=>by
  rw [sH,aH] at h
  obtain⟨k,rfl⟩:=CI h.1
  obtain⟨ks,rfl⟩:=Ju h.2
  exact⟨k :: ks,rfl⟩
theorem Jv{d:D}(h:kX d=true):∃ ks:List Key,d=.tup (ks.map dP):=by
 cases d with
 | tup ds=>obtain⟨ks,rfl⟩:=Ju (ds:=ds) h; exact⟨ks,rfl⟩
 | _=>exact absurd h (by simp [kX])
theorem Cc{v:V}{k:Key}(r:cL K H v (dP k)):v=kV k:=by
 cases k with
 | inl i=>cases r; rfl
 | inr x=>cases r; rfl
theorem Ed:∀ {vs:List V} {ks:List Key},bb K H vs (ks.map dP)->vs=ks.map kV
 | _,[],r=>r.zero
 | _,k :: ks,r=>by
  rw [ax] at r
  cases r with
  | cons r1 r2=>rw [Cc r1,Ed r2]; rfl
theorem uE{v:V}{ks:List Key}(r:cL K H v (.tup (ks.map dP))):∃ b,v=.ref b/\H b=some (.tup (ks.map kV)):=by
 cases r with
 | tup h rs=>have e:=Ed rs; subst e; exact⟨_,rfl,h⟩
theorem oh.look{kv:List (Key×V)}{bp:List (D×D)}(r:oh K H kv bp)(k:Key):(∃ v d,lu kv k=some v/\K2.look bp (dP k)=some d/\cL K H v d)\/(lu kv k=none/\K2.look bp (dP k)=none):=by
 induction r using oh.ind with
 | nil=>exact .inr ⟨rfl,rfl⟩
 | @cons j v d r t rd rs ih =>
  by_cases e:j=k
  ·left
   refine⟨v,d,qj (p:=(j,v)) e,?_,rd⟩
   unfold K2.look
   rw [t8 (by show iy (dP j) (dP k)=true; rw [vj]; exact decide_eq_true e)]; rfl
  ·have e1:lu ((j,v) :: r) k=lu r k:=qk (p:=(j,v)) e
   have e2:K2.look ((dP j,d) :: t) (dP k)=K2.look t (dP k):=by
    unfold K2.look
    rw [L7 (by show ¬ iy (dP j) (dP k)=true; rw [vj]; simpa using e)]
   rw [e1,e2]
   exact ih
theorem kR.look{kv:List (List Key×V)}{bp:List (D×D)}(r:kR K H kv bp)(k:List Key):(∃ v d,lu kv k=some v/\K2.look bp (.tup (k.map dP))=some d/\cL K H v d)\/(lu kv k=none/\K2.look bp (.tup (k.map dP))=none):=by
 induction r using kR.ind with
 | nil=>exact .inr ⟨rfl,rfl⟩
 | @cons j v d r t rd rs ih =>
  by_cases e:j=k
  ·left
   refine⟨v,d,qj (p:=(j,v)) e,?_,rd⟩
   unfold K2.look
   rw [t8 (by show iy (.tup (j.map dP)) (.tup (k.map dP))=true; rw [nY]; exact decide_eq_true e)]; rfl
  ·have e1:lu ((j,v) :: r) k=lu r k:=qk (p:=(j,v)) e
   have e2:K2.look ((.tup (j.map dP),d) :: t) (.tup (k.map dP))=K2.look t (.tup (k.map dP)):=by
    unfold K2.look
    rw [L7 (by show ¬ iy (.tup (j.map dP)) (.tup (k.map dP))=true; rw [nY]; simpa using e)]
   rw [e1,e2]
   exact ih
theorem oh.any{kv:List (Key×V)}{bp:List (D×D)}(r:oh K H kv bp)(k:Key):(kv.any fun p=>decide (p.1=k))=bp.any fun p=>iy p.1 (dP k):=by
 induction r using oh.ind with
 | nil=>rfl
 | @cons j v d r t rd rs ih=>simp only [kO]; rw [ih,vj]
theorem kR.any{kv:List (List Key×V)}{bp:List (D×D)}(r:kR K H kv bp)(k:List Key):(kv.any fun p=>decide (p.1=k))=bp.any fun p=>iy p.1 (.tup (k.map dP)):=by
 induction r using kR.ind with
 | nil=>rfl
 | @cons j v d r t rd rs ih=>simp only [kO]; rw [ih,nY]
theorem oh.put{kv:List (Key×V)}{bp:List (D×D)}(r:oh K H kv bp)(k:Key){v:V}{d:D}(rd:cL K H v d):oh K H (putK kv k v) (K2.put bp (dP k) d):=by
 unfold putK K2.put
 rw [r.any k]
 by_cases h:(bp.any fun p=>iy p.1 (dP k))=true
 ·rw [if_pos h,if_pos h]
  clear h
  induction r using oh.ind with
  | nil=>exact .nil
  | @cons j w e r t re rs ih =>
   simp only [ax]
   rw [vj]
   by_cases e:j=k
   ·simp only [e,if_true,decide_true]; exact .cons rd ih
   ·simp only [e,if_false,decide_false,aB]; exact .cons re ih
 ·rw [if_neg h,if_neg h]
  clear h
  induction r using oh.ind with
  | nil=>exact .cons rd .nil
  | cons re rs ih=>exact .cons re ih
theorem kR.put{kv:List (List Key×V)}{bp:List (D×D)}(r:kR K H kv bp)(k:List Key){v:V}{d:D}(rd:cL K H v d):kR K H (putK kv k v) (K2.put bp (.tup (k.map dP)) d):=by
 unfold putK K2.put
 rw [r.any k]
 by_cases h:(bp.any fun p=>iy p.1 (.tup (k.map dP)))=true
 ·rw [if_pos h,if_pos h]
  clear h
  induction r using kR.ind with
  | nil=>exact .nil
  | @cons j w e r t re rs ih =>
   simp only [ax]
   rw [nY]
   by_cases e:j=k
   ·simp only [e,if_true,decide_true]; exact .cons rd ih
   ·simp only [e,if_false,decide_false,aB]; exact .cons re ih
 ·rw [if_neg h,if_neg h]
  clear h
  induction r using kR.ind with
  | nil=>exact .cons rd .nil
  | cons re rs ih=>exact .cons re ih
end
theorem Kp.putD{H:Hp}{p:Addr}{o o':HO}(hp:H p=some o)(h:(∃ k,o=.dK k)\/∃ k,o=.dT k):Kp H (upd H p o') :=
 ⟨fun a ys e=>by rw [bU (by rintro rfl; rw [hp] at e; rcases h with ⟨_,rfl⟩ | ⟨_,rfl⟩ <;> cases e)]; exact e,fun a ob u e=>by rw [bU (by rintro rfl; rw [hp] at e; rcases h with ⟨_,rfl⟩ | ⟨_,rfl⟩ <;> cases e)]; exact e⟩
section
variable {X:Cx} {pins:List (Addr×Obj)} {σ:L2.St} {H:Hp} {s:aq} {G:Gp} {a:Addr} {bp:List (D×D)} {k:D} {y:V}
theorem toT(I:Inv X pins σ H s)(e:H a=some (.dK [])):Inv X pins σ (upd H a (.dT [])) s:=by
 obtain⟨z,hd,vs,rel,dd⟩:=Ob I.cM e
 have hv:vs=[]:=by cases rel; rfl
 subst hv
 obtain⟨o,es,ep,ho,hx,Ag,hko,hl,nd⟩:=dd
 have he:es=#[]:=by
  cases hq:es.toList with
  | nil=>simpa using hq
  | cons _ _=>rw [hq] at hl; cases hl
 subst he
 exact I.write (h':=s.heap) (t':=s.toks) (x:=a) (e:=a) (by rw [e]; exact nG) (.inl rfl) (fun b u _ q=>q) ⟨o,ho⟩ ⟨cD _,hd,[],.nil,o,#[],ep,ho,hx,Ag,rfl,du⟩
theorem toK(I:Inv X pins σ H s)(e:H a=some (.dT [])):Inv X pins σ (upd H a (.dK [])) s:=by
 obtain⟨z,hd,xs,rel,o,es,ep,ho,hx,Ag,hl,nd⟩:=I.cM a _ e
 have hv:xs=[]:=by cases rel; rfl
 subst hv
 have he:es=#[]:=by simpa using hl
 subst he
 exact I.write (h':=s.heap) (t':=s.toks) (x:=a) (e:=a) (by rw [e]; exact nG) (.inl rfl) (fun b u _ q=>q) ⟨o,ho⟩ ⟨cD _,hd,[],.nil,o,#[],ep,ho,hx,Ag,(fun _ h=>by simp at h),.nil,du⟩
theorem Ct{o:HO}(ab:kS X.K H G)(hg:G a=some (.jn bp))(k:Kp H (upd H a o))(ho:Lr X.K (upd H a o) a (.jn bp)):Mv X.K H G (upd H a o) G:=by
 have m:=Mv.put ab hg k ho
 have e:fN G a (.jn bp)=G:=by
  funext b; unfold fN; split
  ·rename_i z; rw [z,hg]
  ·rfl
 rw [e] at m
 exact m
theorem JH(I:Inv X pins σ H s)(ab:kS X.K H G)(hg:G a=some (.jn bp))(hk:iu bp k=true)(ry:cL X.K H y k) :
  ∃ H',Inv X pins σ H' s/\Mv X.K H G H' G/\((∃ (kv:List (Key×V)) (kk:Key),H' a=some (.dK kv)/\oh X.K H' kv bp/\k=dP kk/\y=kV kk)\/∃ (kv:List (List Key×V)) (kk:List Key) (b:Addr),H' a=some (.dT kv)/\kR X.K H' kv bp/\k=.tup (kk.map dP)/\y=.ref b/\H' b=some (.tup (kk.map kV))):=by
 unfold iu at hk
 rw [og,aH,aH] at hk
 rcases hk with ⟨h1,h2⟩ | ⟨h1,h2⟩
 ·obtain⟨kk,rfl⟩:=CI h1
  have ey:=Cc ry
  subst ey
  rcases ab a _ hg with ⟨kv,hv,rs⟩ | ⟨kv,hv,rs⟩
  ·exact⟨H,I,.refl ab,.inl ⟨kv,kk,hv,rs,rfl,rfl⟩⟩
  ·cases rs with
   | nil =>
    refine⟨_,toK I hv,Ct ab hg (.putD hv (.inr ⟨_,rfl⟩)) (.inl ⟨[],cR,.nil⟩),.inl ⟨[],kk,cR,.nil,rfl,rfl⟩⟩
   | cons _ _=>simp [fc] at h2
 ·obtain⟨kk,rfl⟩:=Jv h1
  obtain⟨b,rfl,hb⟩:=uE ry
  rcases ab a _ hg with ⟨kv,hv,rs⟩ | ⟨kv,hv,rs⟩
  ·cases rs with
   | nil =>
    have kp:Kp H (upd H a (.dT [])):=.putD hv (.inl ⟨_,rfl⟩)
    exact⟨_,toT I hv,Ct ab hg kp (.inr ⟨[],cR,.nil⟩),.inr ⟨[],kk,b,cR,.nil,rfl,rfl,kp.tup _ _ hb⟩⟩
   | @cons j _ _ _ _ _ _=>cases j <;> simp [dP,kX] at h2
  ·exact⟨H,I,.refl ab,.inr ⟨kv,kk,b,hv,rs,rfl,rfl,hb⟩⟩
theorem Fq(I:Inv X pins σ H s)(ab:kS X.K H G)(hg:G a=some (.jn bp))(hk:iu bp k=true)(ry:cL X.K H y k) :
  ∃ H' o,Inv X pins σ H' s/\Mv X.K H G H' G/\zX H' a y o/\o.isSome=(look bp k).isSome/\∀ d,look bp k=some d->∃ v,o=some v/\cL X.K H' v d:=by
 obtain⟨H',I',m,h⟩:=JH I ab hg hk ry
 rcases h with ⟨kv,kk,hv,rs,rfl,rfl⟩ | ⟨kv,kk,b,hv,rs,rfl,rfl,hb⟩
 ·refine⟨H',lu kv kk,I',m,.k hv,?_,fun d hd=>?_⟩
  ·rcases rs.look kk with ⟨v,d,e1,e2,_⟩ | ⟨e1,e2⟩ <;> rw [e1,e2] <;> rfl
  ·rcases rs.look kk with ⟨v,d',e1,e2,r⟩ | ⟨e1,e2⟩
   ·rw [e2] at hd; cases hd; exact⟨v,e1,r⟩
   ·rw [e2] at hd; cases hd
 ·refine⟨H',lu kv kk,I',m,.t hv hb,?_,fun d hd=>?_⟩
  ·rcases rs.look kk with ⟨v,d,e1,e2,_⟩ | ⟨e1,e2⟩ <;> rw [e1,e2] <;> rfl
  ·rcases rs.look kk with ⟨v,d',e1,e2,r⟩ | ⟨e1,e2⟩
   ·rw [e2] at hd; cases hd; exact⟨v,e1,r⟩
   ·rw [e2] at hd; cases hd
theorem B9{x:V}(I:Inv X pins σ H s)(rd:cL X.K H x (.pC bp))(hk:iu bp k=true)(ry:cL X.K H y k) :
  ∃ a o,x=.ref a/\(bp=[]\/zX H a y o)/\o.isSome=(look bp k).isSome/\∀ d,look bp k=some d->∃ v,o=some v/\cL X.K H v d:=by
 unfold iu at hk
 rw [og,aH,aH] at hk
 cases rd with
 | pR h rs =>
  rename_i a ob kv
  rcases hk with ⟨h1,h2⟩ | ⟨h1,h2⟩
  ·obtain⟨kk,rfl⟩:=CI h1
   have ey:=Cc ry
   subst ey
   refine⟨a,lu kv kk,rfl,.inr (.inl ⟨kv,kk,.inr ⟨_,h⟩,rfl,rfl⟩),?_,fun d hd=>?_⟩
   ·rcases rs.look kk with ⟨v,d,e1,e2,_⟩ | ⟨e1,e2⟩ <;> rw [e1,e2] <;> rfl
   ·rcases rs.look kk with ⟨v,d',e1,e2,r⟩ | ⟨e1,e2⟩
    ·rw [e2] at hd; cases hd; exact⟨v,e1,r⟩
    ·rw [e2] at hd; cases hd
  ·cases rs with
   | nil=>exact⟨a,none,rfl,.inl rfl,rfl,fun d hd=>by cases hd⟩
   | cons _ _ =>
    rename_i kx _ _ _ _ _ _
    rw [sH,aH] at h2
    cases kx <;> exact absurd h2.1 (by simp [dP,kX])
 | pQ h rs =>
  rename_i a ob kv
  rcases hk with ⟨h1,h2⟩ | ⟨h1,h2⟩
  ·cases rs with
   | nil=>exact⟨a,none,rfl,.inl rfl,rfl,fun d hd=>by cases hd⟩
   | cons _ _ =>
    rw [sH,aH] at h2
    exact absurd h2.1 (by simp [fc])
  ·obtain⟨kk,rfl⟩:=Jv h1
   obtain⟨b,rfl,hb⟩:=uE ry
   refine⟨a,lu kv kk,rfl,.inr (.inr ⟨kv,kk,b,.inr ⟨_,h⟩,rfl,hb,rfl⟩),?_,fun d hd=>?_⟩
   ·rcases rs.look kk with ⟨v,d,e1,e2,_⟩ | ⟨e1,e2⟩ <;> rw [e1,e2] <;> rfl
   ·rcases rs.look kk with ⟨v,d',e1,e2,r⟩ | ⟨e1,e2⟩
    ·rw [e2] at hd; cases hd; exact⟨v,e1,r⟩
    ·rw [e2] at hd; cases hd
theorem Oe{v:V}{d:D}(I:Inv X pins σ H s)(ab:kS X.K H G)(hg:G a=some (.jn bp))(hk:iu bp k=true)(hz:bp.length < SZ)(ry:cL X.K H y k)(rv:cL X.K H v d) :
  ∃ H' H'',Inv X pins σ H' s/\Lo H' a y v H''/\Mv X.K H G H'' (fN G a (.jn (put bp k d))):=by
 obtain⟨H',I',m,h⟩:=JH I ab hg hk ry
 have rv':=rv.mono (m.kp ab)
 have sz:bc=16777216:=cb
 rcases h with ⟨kv,kk,hv,rs,rfl,rfl⟩ | ⟨kv,kk,b,hv,rs,rfl,rfl,hb⟩
 ·have kp:Kp H' (upd H' a (.dK (putK kv kk v))):=.putD hv (.inl ⟨_,rfl⟩)
  exact⟨H',_,I',.k hv (by rw [rs.length,sz]; exact hz),m.trans (.put m.ab hg kp (.inl ⟨_,cR,(rs.put kk rv').mono kp⟩))⟩
 ·have kp:Kp H' (upd H' a (.dT (putK kv kk v))):=.putD hv (.inr ⟨_,rfl⟩)
  exact⟨H',_,I',.t hv hb (by rw [rs.length,sz]; exact hz),m.trans (.put m.ab hg kp (.inr ⟨_,cR,(rs.put kk rv').mono kp⟩))⟩
end
end K2
end
section
namespace K2
open PySem PySem.Spec PyProof.Rows L2
section
variable {X:Cx} {a b c e:Expr} {es:List Expr} {ta tb tc te:fW} {t:Ah} {pos p p2 apos iQ:Pos} {x:Str}
theorem vX{k:Bool}{j}:gE X (.Constant (.bool k) j pos) (dC (.bl k)):=rZ Uh fun _ _=>.bl k
theorem PX{j}:gE X (.Constant .none j pos) (dC .cY):=rZ R0 fun _ _=>.cY
theorem PU{y:Str}{j}:gE X (.Constant (.str y) j pos) (dC (.str y)):=rZ RZ fun _ _=>.str y
theorem nM{st:Stmt}:Gn X st wG:=fun _ _ _ _ _ _ _ _ _ _ h=>h.elim
theorem Pm:VS X (unaryOp .USub) PF:=by
 intro pins s σ H G x dx v Q I ab rx dX q
 cases dX with
 | int i=>exact gC (Rx pins s σ H _ v (Dj X.K H G Q) I rx ⟨i,rfl,_,_,.refl ab,.int _,q⟩) fun _ _ z=>.of z
 | _=>exact bQ q
theorem dN(hu:X.A.units+64 < cLine)(ha:gE X a ta)(hb:gE X b tb)(hs:QF b):gE X (.Subscript a b pos) (bA lR ta tb):=by
 intro E pins s σ H τ G Q hE I h
 refine Subscript_ (Oy ha hb hE I h fun v u s2 x y dx dy H2 G2 J m rx ry dX dY q=>?_)
 have fin:∀ {rb:R2},IxR X rb->rb x y H2 (Dj X.K H2 G2 Q)->wpAny (model X.prog X.w) X.A (subscriptTail a b v u) (t4 X pins σ H G Q) X.xe s2:=fun hr hq =>
  gC (hr a b pins s2 σ H2 x y v u _ J.inv rx ry hq (hs _ _)) fun _ _ z=>(t4.of z).trans m
 cases dX with
 | tup hq rs =>
  cases dY with
  | int i =>
   rw [ie] at q
   split at q
   ·rename_i d hd
    obtain⟨w,hw,tD⟩:=rs.rK hd
    exact fin Sw ⟨_,_,i,w,rfl,rfl,.of hq,hw,d,G2,.refl J.ab,tD,q⟩
   ·exact q.elim
  | _=>exact bQ q
 | d0 hq rs =>
  cases dY with
  | int i =>
   rw [uM] at q
   split at q
   ·rename_i d hd
    obtain⟨w,hw,tD⟩:=rs.rK hd
    exact fin Jw ⟨_,_,i,w,rfl,rfl,hq.sq,hw,d,G2,.refl J.ab,tD,q⟩
   ·exact q.elim
  | _=>exact bQ q
 | pR h rs =>
  rw [rR] at q
  obtain⟨hk,q⟩:=q
  split at q
  ·rename_i d hd
   obtain⟨a',o,ea,g,_,hv⟩:=B9 J.inv (.pR h rs) hk dY
   obtain⟨w,rfl,tD⟩:=hv d hd
   cases ea
   rcases g with rfl | g
   ·cases hd
   ·cases rx
    exact tail_any (rq J.inv g) PySem.F.slot_dict_getitem.lookup (wF (by lia) J.inv g ry fun w' s3 I4 rv=>⟨w,H2,d,G2,I4,m,rv,tD,q⟩) (hs _ _)
  ·exact q.elim
 | pQ h rs =>
  rw [rR] at q
  obtain⟨hk,q⟩:=q
  split at q
  ·rename_i d hd
   obtain⟨a',o,ea,g,_,hv⟩:=B9 J.inv (.pQ h rs) hk dY
   obtain⟨w,rfl,tD⟩:=hv d hd
   cases ea
   rcases g with rfl | g
   ·cases hd
   ·cases rx
    exact tail_any (rq J.inv g) PySem.F.slot_dict_getitem.lookup (wF (by lia) J.inv g ry fun w' s3 I4 rv=>⟨w,H2,d,G2,I4,m,rv,tD,q⟩) (hs _ _)
  ·exact q.elim
 | ref l =>
  rw [PH] at q
  split at q
  ·rename_i ds hl
   obtain⟨vs,hv,rs⟩:=J.ab.lst hl
   cases dY with
   | int i =>
    dsimp only at q
    split at q
    ·rename_i d hd
     obtain⟨w,hw,tD⟩:=rs.rK hd
     exact fin Jw ⟨_,_,i,w,rfl,rfl,.of hv,hw,d,G2,.refl J.ab,tD,q⟩
    ·exact q.elim
   | _=>exact bQ q
  ·rename_i bp hl
   obtain⟨hk,q⟩:=q
   split at q
   ·rename_i d hd
    obtain⟨H3,o,I3,m3,g,_,hv⟩:=Fq J.inv J.ab hl hk dY
    obtain⟨w,rfl,tD⟩:=hv d hd
    cases rx
    exact tail_any (rq I3 g) PySem.F.slot_dict_getitem.lookup (wF (by lia) I3 g ry fun w' s3 I4 rv=>⟨w,H3,d,G2,I4,m.trans m3,rv,tD,q⟩) (hs _ _)
   ·exact q.elim
  ·exact q.elim
 | _=>exact bQ q
noncomputable def WS(X:Cx)(e:Option Expr)(t:VU):Prop :=
 ∀ (E:kc) (pins:List (Addr×Obj)) (s:aq) (σ:L2.St) (H:Hp) (τ:gY) (G:Gp) (Q:Option Int->Gp->Prop),Lk X E->I2 X pins σ H τ G s->t E τ G Q ->
  wpAny (model X.prog X.w) X.A (evalPart e X.env) (fun u s'=>∃ o H' G',Inv X pins σ H' s'/\Mv X.K H G H' G'/\IsPart u o/\Q o G') X.xe s
theorem kB:WS X none fS:=by
 intro E pins s σ H τ G Q hE I h
 rw [evalPart_none]
 exact ai ⟨none,H,G,I.inv,.refl I.ab,.none,h⟩
theorem iZ(h:gE X e te):WS X (some e) (pL te):=by
 intro E pins s σ H τ G Q hE I hw
 rw [evalPart_some]
 refine lM h hE I hw fun x H1 d G1 u s1 I1 m1 r1 jS q1=>?_
 cases jS with
 | int i =>
  obtain⟨t,rfl⟩:=r1
  exact⟨some i,H1,G1,I1.inv,m1,.int i t,q1⟩
 | _=>exact bQ q1
theorem iD{lo hi:Option Expr}{tl th:VU}(he:gE X a ta)(hl:WS X lo tl)(hu:WS X hi th):gE X (.Subscript a (.Slice lo hi none p2) pos) (C1 ta tl th):=by
 intro E pins s σ H τ G Q hE I h
 refine Subscript_ (lM he hE I h fun x H1 d G1 v s1 I1 m1 r1 jS q1=>?_)
 refine wpAny_Slice (gC (hl E pins s1 σ H1 τ G1 _ hE I1 q1) ?_)
 rintro vl s2 ⟨l,H2,G2,pN,m2,pl,q2⟩
 refine gC (hu E pins s2 σ H2 τ G2 _ hE (I1.mv pN m2) q2) ?_
 rintro vu s3 ⟨r,H3,G3,I3,m3,pu,q3⟩
 rw [evalPart_none]
 refine ai ?_
 have m13:=m2.trans m3
 have mm:=m1.trans m13
 have I4:Inv X pins σ H3 { s3 with heap:=s3.heap.push { cls:=.type "slice",data:=.fields #[vl,vu,.none] } }:=I3.kept (t':=s3.toks) fun b ob q=>aI _ q
 have Ua:=jS.mono (m13.kp I1.ab)
 have Rl:=m3.ab
 have key:∀ {rb:V->Option Int->Option Int->Hp->VK->Prop},SlR X rb->rb x l r H3 (Dj X.K H3 G3 Q)->wpAny (model X.prog X.w) X.A (subscriptTail a (.Slice lo hi none p2) v (.ref s3.heap.objs.size)) (t4 X pins σ H G Q) X.xe { s3 with heap:=s3.heap.push { cls:=.type "slice",data:=.fields #[vl,vu,.none] } }:=fun hr hq=>by
  obtain⟨T,id,hT,ht,hg⟩:=hr pins { s3 with heap:=s3.heap.push { cls:=.type "slice",data:=.fields #[vl,vu,.none] } } σ H3 x v vl vu l r s3.heap.objs.size _ I4 r1 (Heap.IsSliceOf.new ..) pl pu hq
  exact gC (tail_any (ops:=[.ref s3.heap.objs.size,v]) ht hT hg (by with_unfolding_all rfl)) fun _ _ z=>(t4.of z).trans mm
 cases Ua with
 | tup hq rs =>
  obtain⟨hw,q⟩:=q3
  refine key RO ⟨_,_,rfl,.of hq,?_,fun p hp=>⟨_,G3,.LG Rl hp,.tup cR ((rs.cut l r).mono (.new hp)),q⟩⟩
  rw [B7,B7,rs.length]
  exact hw
 | d0 hq rs=>exact key IZ ⟨_,_,rfl,hq.sq,fun p hp=>⟨_,_,.Ax Rl hp (rs.cut l r),.ref _,q3 p (Rl.free hp)⟩⟩
 | ref g =>
  rw [Ce] at q3
  split at q3
  ·rename_i ds hg
   obtain⟨vs,hv,rs⟩:=Rl.lst hg
   exact key IZ ⟨_,_,rfl,.of hv,fun p hp=>⟨_,_,.Ax Rl hp (rs.cut l r),.ref _,q3 p (Rl.free hp)⟩⟩
  ·exact q3.elim
 | _=>exact bQ q3
theorem P1(ss:List D)(s:D)(h1:pF ss=true)(h2:nr s=true):((lh ss).any fun y=>uf y (pd s))=ss.any (iy · s):=by
 induction ss with
 | nil=>rfl
 | cons d r ih =>
  have h':nr d=true/\pF r=true:=(jy).mp h1
  show (uf (pd d) (pd s)||(lh r).any _)=_
  rw [ih h'.2,tS d s h'.1 h2]; rfl
theorem JI{G:Gp}{n:Nat}{ds ss:List D}(h:Sn G (n+1) (.d0 ds) (.d0 ss)):cj (lh ss)<=n:=by
 exact uh (zC h)
theorem x6(hu:X.A.units+64 < cLine)(neg:Bool){pins:List (Addr×Obj)}{s:aq}{σ:L2.St}{H:Hp}{G:Gp}{x y:V}{dx t:D}{ds ss:List D}{v u:Value}{Q:DK}(I:Inv X pins σ H s)(ab:kS X.K H G)(rx:RelV x v)(dX:cL X.K H x dx)
  (hy:(∃ l vs bB,u=.ref l/\Vals vs bB/\bb X.K H vs ds/\(s.heap.IsList l bB.toArray\/s.heap.IsTuple l bB.toArray))) (s1:Sn G SN dx t) (s2:Sn G SN (.d0 ds) (.d0 ss))
  (q:Q (.bl (if neg then !ss.any (iy · t) else ss.any (iy · t))) G):wpAny (model X.prog X.w) X.A (gm (if neg then .NotIn else .In) v u) (t4 X pins σ H G Q) X.xe s:=by
 obtain⟨l,vs,bB,rfl,rv,rs,hl⟩:=hy
 obtain⟨as,ra⟩:=(gW I ab s1).1 x v dX rx
 obtain⟨bs,rb⟩:=(gW I ab s2).2 ds ss (.inl ⟨rfl,rfl⟩) vs bB rs rv
 have d2:=JI (n:=7) s2
 have n2:pF ss=true:=s2.nr
 have ze:=u0 _ n2
 have e:=P1 ss t n2 s1.nr
 have x9:X.A.units+1+min (cj (lh ss)) (pd t).depth < cLine:=by lia
 have MK:gv s.heap bB.toArray.toList (lh ss) bs:=by simpa using rb
 have fin:∀ k:Bool,k=(if neg then !ss.any (iy · t) else ss.any (iy · t))->t4 X pins σ H G Q (.bool k) s:=fun k hk=>by subst hk; exact⟨.bl _,H,.bl _,G,I,.refl ab,rfl,.bl _,q⟩
 cases neg with
 | false =>
  rcases hl with hl | hl
  ·exact SeqAt.in_listAt _ hl (mC MK ra ze (jM _ s1.nr) x9) (by rw [qe MK ze,e]; exact fin _ rfl)
  ·exact SeqAt.in_tupleAt _ hl (mC MK ra ze (jM _ s1.nr) x9) (by rw [qe MK ze,e]; exact fin _ rfl)
 | true =>
  rcases hl with hl | hl
  ·exact SeqAt.notIn_listAt _ hl (mC MK ra ze (jM _ s1.nr) x9) (by rw [qe MK ze,e]; exact fin _ rfl)
  ·exact SeqAt.notIn_tupleAt _ hl (mC MK ra ze (jM _ s1.nr) x9) (by rw [qe MK ze,e]; exact fin _ rfl)
theorem Nx(hu:X.A.units+64 < cLine)(neg:Bool){pins:List (Addr×Obj)}{s:aq}{σ:L2.St}{H:Hp}{G:Gp}{x y:V}{dx:D}{bp:List (D×D)}{v u:Value}{Q:DK}(I:Inv X pins σ H s)(ab:kS X.K H G)(rx:RelV x v)(ry:RelV y u)(dY:cL X.K H y (.pC bp))(dX:cL X.K H x dx)
  (q:Ti neg dx (.pC bp) G Q):wpAny (model X.prog X.w) X.A (gm (if neg then .NotIn else .In) v u) (t4 X pins σ H G Q) X.xe s:=by
 obtain⟨my,hk,q⟩:=q
 have go:∀ (a:Addr) (o:Option V),y=.ref a->zX H a x o->o.isSome=(look bp dx).isSome->wpAny (model X.prog X.w) X.A (gm (if neg then .NotIn else .In) v u) (t4 X pins σ H G Q) X.xe s:=by
  intro a o ea g ho
  subst ea
  cases ry
  cases neg with
  | false=>exact Vq (by lia) I g rx fun s3 I4=>⟨.bl _,H,.bl _,G,I4,.refl ab,rfl,.bl _,by rw [ho]; exact q⟩
  | true=>exact JK (by lia) I g rx fun s3 I4=>⟨.bl _,H,.bl _,G,I4,.refl ab,rfl,.bl _,by rw [ho]; exact q⟩
 obtain⟨a,o,ea,g,ho,_⟩:=B9 I dY hk dX
 rcases g with rfl | g
 ·exact absurd rfl my
 ·exact go a o ea g ho
theorem P8(hu:X.A.units+64 < cLine)(neg:Bool):vA X (gm (if neg then .NotIn else .In)) (Ti neg):=by
 intro pins s σ H G x y dx dy v u Q I ab rx ry dX dY q
 cases dY with
 | tup hq rs =>
  obtain⟨t,ss,s1,s2,q⟩:=q
  cases ry
  obtain⟨bB,rv,pl,hz⟩:=I.tuple (.of hq)
  exact x6 hu neg (y:=x) I ab rx dX ⟨_,_,bB,rfl,rv,rs,.inr pl⟩ s1 s2 q
 | d0 hq rs =>
  obtain⟨t,ss,s1,s2,q⟩:=q
  cases ry
  obtain⟨bB,rv,pl,hz⟩:=I.list hq.sq
  exact x6 hu neg (y:=x) I ab rx dX ⟨_,_,bB,rfl,rv,rs,.inl pl.isList⟩ s1 s2 q
 | pR h rs=>exact Nx hu neg I ab rx ry (.pR h rs) dX q
 | pQ h rs=>exact Nx hu neg I ab rx ry (.pQ h rs) dX q
 | ref l =>
  unfold Ti at q
  dsimp only at q
  split at q
  ·rename_i bp hl
   obtain⟨hk,q⟩:=q
   obtain⟨H3,o,I3,m3,g,ho,_⟩:=Fq I ab hl hk dX
   cases ry
   cases neg with
   | false=>exact Vq (by lia) I3 g rx fun s3 I4=>⟨.bl _,H3,.bl _,G,I4,m3,rfl,.bl _,by rw [ho]; exact q⟩
   | true=>exact JK (by lia) I3 g rx fun s3 I4=>⟨.bl _,H3,.bl _,G,I4,m3,rfl,.bl _,by rw [ho]; exact q⟩
  ·rename_i ds hl
   obtain⟨t,ss,s1,s2,q⟩:=q
   cases ry
   obtain⟨vs,hv,rs⟩:=ab.lst hl
   obtain⟨bB,rv,pl,hz⟩:=I.list (.of hv)
   exact x6 hu neg (y:=x) I ab rx dX ⟨_,_,bB,rfl,rv,rs,.inl pl.isList⟩ s1 s2 q
  ·exact q.elim
 | _=>exact bQ q
theorem KH(hu:X.A.units+64 < cLine):vA X (gm .NotIn) (Ti true):=P8 hu true
end
end K2
end
section
namespace K2
open PySem PySem.Spec PyProof.Rows L2
section
variable {X:Cx} {a b c e o:Expr} {es:List Expr} {ta tb tc te to:fW} {t:Ah} {pos p p2 apos iQ:Pos} {x name:Str} {id T:String}
theorem ka:wU X (.builtin "len") rF:=by
 intro pins s σ H G xs ds us Q I ab rx rd q
 unfold rF at q
 split at q
 ·rename_i x
  obtain⟨v,rfl,r⟩:=rd.one
  have Pk:∀ (n:Nat),VX X.K v H n->Q (.int (n:Int)) G->wpAny (model X.prog X.w) X.A (call (.builtin "len") us) (t4 X pins σ H G Q) X.xe s:=fun n hn hq =>
   gC (Oq pins s σ H [v] us (Dj X.K H G Q) I rx ⟨v,n,rfl,hn,_,_,.refl ab,.int _,hq⟩) fun _ _ z=>.of z
  have sz:bc=16777216:=cb
  cases r with
  | tup hq rs=>exact Pk _ (.inr ⟨_,.of hq,by rw [rs.length]⟩) q
  | d0 hq rs=>exact Pk _ (.inl ⟨_,hq.sq,by rw [rs.length]⟩) q
  | str y =>
   unfold lenOf at q
   dsimp only at q
   by_cases hz:y.length<=SZ
   ·rw [if_pos hz] at q; exact Pk _ ⟨by rw [sz]; exact hz,rfl⟩ q
   ·rw [if_neg hz] at q; exact q.elim
  | pR h rs =>
   rename_i l o kv bp
   obtain⟨u,rfl,ru⟩:=rx.one
   cases ru
   unfold lenOf at q
   dsimp only at q
   by_cases ha:(bp.all fun p=>fc p.1)=true
   ·rw [if_pos ha] at q
    exact Rf I (.inr ⟨_,h⟩) fun t s' I'=>⟨.int kv.length,H,_,G,I',.refl ab,⟨t,rfl⟩,.int _,by rw [rs.length]; exact q⟩
   ·rw [if_neg ha] at q; exact q.elim
  | pQ h rs =>
   rename_i l o kv bp
   obtain⟨u,rfl,ru⟩:=rx.one
   cases ru
   unfold lenOf at q
   dsimp only at q
   by_cases ha:(bp.all fun p=>fc p.1)=true
   ·rw [if_pos ha] at q
    cases rs with
    | nil =>
     obtain⟨z,hS,xs,rel,ob,es,ep,ho,hx,Ag,hl,nd⟩:=(I.cM l _ h).2
     have Z0:xs=[]:=by cases rel; rfl
     subst Z0
     have he:es=#[]:=by simpa using hl
     subst he
     have dd:s.heap.DictOf (cy X.prog X.w) l []:=⟨ob,#[],ep,ho,hx,Ag,(fun _ h=>by simp at h),.nil,du⟩
     refine call_len_dict hS dd (by simp) ?_
     exact⟨.int 0,H,_,G,I.tok _,.refl ab,⟨_,rfl⟩,.int _,q⟩
    | cons _ _=>simp [fc] at ha
   ·rw [if_neg ha] at q; exact q.elim
  | ref l =>
   unfold lenOf at q
   dsimp only at q
   cases hg:G l with
   | none=>rw [hg] at q; exact q.elim
   | some g =>
    rw [hg] at q
    cases g with
    | lst ds =>
     obtain⟨vs,hv,rs⟩:=ab.lst hg
     exact Pk _ (.inl ⟨_,.of hv,by rw [rs.length]⟩) q
    | jn bp =>
     obtain⟨u,rfl,ru⟩:=rx.one
     cases ru
     dsimp only at q
     by_cases ha:(bp.all fun p=>fc p.1)=true
     ·rw [if_pos ha] at q
      rcases ab l _ hg with ⟨kv,hv,rs⟩ | ⟨kv,hv,rs⟩
      ·exact Rf I (.inl hv) fun t s' I'=>⟨.int kv.length,H,_,G,I',.refl ab,⟨t,rfl⟩,.int _,by rw [rs.length]; exact q⟩
      ·cases rs with
       | nil =>
        obtain⟨z,hd,vs,rel,dd⟩:=Ob (toK I hv).cM cR
        have hvs:vs=[]:=by cases rel; rfl
        subst hvs
        refine call_len_dict hd dd (by simp) ?_
        exact⟨.int 0,H,_,G,I.tok _,.refl ab,⟨_,rfl⟩,.int _,q⟩
       | cons _ _=>simp [fc] at ha
     ·rw [if_neg ha] at q; exact q.elim
  | _=>exact bQ q
 ·exact q.elim
theorem zN:wU X (.type "list") xq:=by
 intro pins s σ H G xs ds us Q I ab rx rd q
 unfold xq at q
 split at q
 ·rename_i x
  obtain⟨v,rfl,r⟩:=rd.one
  have WY:∀ (l:Addr) (ys:List V) (zs:List D),v=.ref l->(pM X.K H l ys\/zT X.K H l ys)->bb X.K H ys zs->i6 G (.lst zs) Q->wpAny (model X.prog X.w) X.A (call (.type "list") us) (t4 X pins σ H G Q) X.xe s:=fun l ys zs e h rs hq=>by
   subst e
   exact gC (C5 pins s σ H _ us (Dj X.K H G Q) I rx ⟨l,ys,rfl,h,fun p hp=>⟨_,_,.Ax ab hp rs,.ref _,hq p (ab.free hp)⟩⟩) fun _ _ z=>.of z
  cases r with
  | tup hq rs=>exact WY _ _ _ rfl (.inr (.of hq)) rs q
  | d0 hq rs=>exact WY _ _ _ rfl (.inl hq.sq) rs q
  | ref l =>
   unfold itemsOf at q
   dsimp only at q
   cases hg:G l with
   | none=>rw [hg] at q; exact q.elim
   | some g =>
    rw [hg] at q
    cases g with
    | lst ds =>
     obtain⟨vs,hv,rs⟩:=ab.lst hg
     exact WY _ _ _ rfl (.inl (.of hv)) rs q
    | jn bp=>exact q.elim
  | _=>exact bQ q
 ·exact q.elim
theorem yN {r:List D->Gp->DK->Prop} (hc:wU X (.type T) r) (hg:Gl X x) (hm:X.mg x=none) (hv:fy x=some (.type T)) (ha:DH X (e :: es) t) (hn:autoParam (x≠"__name__") Ad._auto_1) (CM:autoParam ((x == ("__debug__" : Str))=false) Ad._auto_1)
  (he:autoParam (bK (e :: es) X.env=(false,eval e X.env) :: bK es X.env) Ar._auto_1) (Bm:autoParam ((iV pos (bK es X.env)).any (·.1)=false) Ar._auto_1):gE X (.Call (.Name x p) (e :: es) [] pos) (sE r t):=by
 intro E pins s σ H τ G Q hE I h
 refine eM (oZ I.inv hg hm hv ?_ hn CM)
 exact d6 (xx ha pos hE I h fun vs H1 ds G1 us s1 I1 m1 r1 jS q1=>gC (hc pins s1 σ H1 G1 vs ds us Q I1.inv I1.ab r1 jS q1) fun _ _ z=>z.trans m1) he Bm
end
end K2
end
section
namespace K2
open PySem PySem.Spec PyProof.Rows L2
section
variable {X:Cx} {a b c e o:Expr} {es:List Expr} {ta tb tc te to:fW} {t:Ah} {pos p p2 apos iQ:Pos} {x name:Str} {id T:String}
noncomputable def Ll(X:Cx)(id:String)(r:D->List D->Gp->DK->Prop):Prop :=
 ∀ (pins:List (Addr×Obj)) (s:aq) (σ:L2.St) (H:Hp) (G:Gp) (x:V) (d:D) (xs:List V) (ds:List D) (v:Value) (us:List Value) (Q:DK),Inv X pins σ H s->kS X.K H G->RelV x v->cL X.K H x d->Vals xs us->bb X.K H xs ds->r d ds G Q ->
  wpAny (model X.prog X.w) X.A (call (.builtin id) (v :: us)) (t4 X pins σ H G Q) X.xe s
noncomputable def Ta(X:Cx)(T:String)(ty:D->Gp->Prop):Prop:=∀ (pins:List (Addr×Obj)) (s:aq) (σ:L2.St) (H:Hp) (G:Gp) (x:V) (d:D) (v:Value),Inv X pins σ H s->kS X.K H G->RelV x v->cL X.K H x d->ty d G ->
  s.TypeIs v T/\∀ a,v=.ref a->∃ ob,s.heap.get? a=some ob/\ob.dict=none
theorem iW:Ta X "list" AW:=by
 intro pins s σ H G x d v I ab r rd h
 cases rd with
 | d0 hq rs=>exact BX I r (.inl ⟨rfl,_,hq.sq⟩)
 | ref l =>
  unfold AW at h
  dsimp only at h
  split at h
  ·rename_i ds hg
   obtain⟨vs,hv,rs⟩:=ab.lst hg
   exact BX I r (.inl ⟨rfl,vs,.of hv⟩)
  ·exact h.elim
 | _=>exact bQ h
theorem DX:Ta X "dict" VZ:=by
 intro pins s σ H G x d v I ab r rd h
 cases rd with
 | pR q rs =>
  cases r
  obtain⟨t1,t2,_⟩:=Nv I (.inl ⟨_,.inr ⟨_,q⟩⟩)
  exact⟨t1,t2⟩
 | pQ q rs =>
  cases r
  obtain⟨t1,t2,_⟩:=Nv I (.inr ⟨_,.inr ⟨_,q⟩⟩)
  exact⟨t1,t2⟩
 | ref l =>
  unfold VZ at h
  dsimp only at h
  split at h
  ·rename_i bp hg
   rcases ab l _ hg with ⟨kv,hv,rs⟩ | ⟨kv,hv,rs⟩
   ·exact BX I r (.inr (.inr (.inl ⟨rfl,.inl ⟨kv,hv⟩⟩)))
   ·exact BX I r (.inr (.inr (.inl ⟨rfl,.inr ⟨kv,hv⟩⟩)))
  ·exact h.elim
 | _=>exact bQ h
theorem lT {ty:D->Gp->Prop} {r:D->List D->Gp->DK->Prop} (pa:PlainAttrs T) (slot:Slot T name id) (hty:typeOf (.builtin id)=pure (.type "method_descriptor")) (ht:Ta X T ty) (hm:Ll X id r) (ho:gE X o to) (ha:DH X (e :: es) t)
  (Fc:autoParam (DM o name X.env (eval o X.env)=eval o X.env) Ar._auto_1)
  (aaw:autoParam (((iV iQ (bK (e :: es) X.env)).all (fun x=>!x.1)&&(backToKw iQ (keywordEach [] X.env)).all (fun x=>x.1.isSome)
   && decide ((e :: es).length+([]:List L8).length+(if ([]:List L8).isEmpty then 0 else 1) < 30))=true) Ar._auto_1)
  (NP:autoParam ((apos.endLine == iQ.line)=true) Ar._auto_1) (hs:autoParam (bK (e :: es) X.env=(false,eval e X.env) :: bK es X.env) Ar._auto_1) (SE:autoParam ((iV iQ (bK es X.env)).any (·.1)=false) Ar._auto_1) :
  gE X (.Call (.Attribute o name apos) (e :: es) [] iQ) (By ty r to t):=by
 intro E pins s σ H τ G Q hE I h
 refine wpAny_Call_method_late Fc aaw NP rfl (lM ho hE I h ?_)
 rintro x H1 d G1 v s1 I1 m1 r1 jS ⟨hy,q1⟩
 obtain⟨h1,h2⟩:=ht pins s1 σ H1 G1 x d v I1.inv I1.ab r1 jS hy
 refine⟨T,id,pa,slot,hty,h1,h2,?_⟩
 have hA:=ha iQ E pins s1 σ H1 τ G1 _ hE I1 q1
 rw [hs] at hA ⊢
 refine Ly (by show (false||(iV iQ (bK es X.env)).any (·.1))=false; rw [SE] <;> rfl) (ON ?_)
 exact gC hA (by rintro us s2 ⟨vs,H2,ds,G2,pN,m2,r2,Au,q2⟩; exact gC (hm pins s2 σ H2 G2 x d vs ds v us Q pN m2.ab r1 (jS.mono (m2.kp I1.ab)) r2 Au q2) fun _ _ z=>z.trans (m1.trans m2))
theorem yT:Ll X "list.append" uU:=by
 intro pins s σ H G x d xs ds v us Q I ab rx rd Pz yG q
 unfold uU at q
 split at q
 ·rename_i l d'
  cases rd
  obtain⟨w,rfl,tD⟩:=yG.one
  split at q
  ·rename_i zs hg
   obtain⟨hz,q⟩:=q
   obtain⟨vs,hv,rs⟩:=ab.lst hg
   exact gC (Bg pins s σ H _ _ v us (Dj X.K H G Q) I rx Pz ⟨l,vs,w,rfl,rfl,hv,by rw [rs.length,cb]; exact hz,_,_,.putL ab hg hv (rs.append (.cons tD .nil)),.cY,q⟩) fun _ _ z=>.of z
  ·exact q.elim
 ·exact q.elim
theorem Ig(l:Addr)(xs:Array Value)(n:Nat)(b:Addr)(ys:Array Value)(n2:Nat)(dd:Option Addr)(sl:Array (Option Value))(Q6:¬(!xs.isEmpty&&jh (xs.size+ys.size))=true)(hx:xs.size<=bc)(hxy:xs.size+ys.size<=bc+1) :
  Meets (Builtin.«list.extend» ⟨[.ref l,.ref b],[]⟩) (fun _ R s=>s.heap.get? l=some { cls:=.type "list",dict:=none,data:=.seq xs n,slots:=#[] }/\s.heap.get? b=some { cls:=.type "list",dict:=dd,data:=.seq ys n2,slots:=sl }/\R (.ok (.ret dE)) { s with heap:=s.heap.update l (iI fun x=>x++ys),toks:=s.toks }) :=
 .of_wp fun prog w A R s h=>by
  obtain⟨hp,g,d,tk,os⟩:=s
  obtain⟨h1,h2,h3⟩:=h
  have e1:=AutoSeq1.idx_int
  have e2:=pA
  have e3:=GK
  have e4:=AutoSeq1.sub_tuple_list
  have e5:=AutoSeq1.sub_list_tuple
  have Ts:(xs++ys).size<=bc+1:=by rw [Array.size_append]; exact hxy
  wp_walk using (wpAny_updateSeq h1 rfl (hz:=hx) (_hz':=Ts)),cf h1,cf h2
  exact⟨_,rfl,h3⟩
theorem Hv:Ll X "list.extend" x3:=by
 intro pins s σ H G x d xs ds v us Q I ab rx rd Pz yG q
 unfold x3 at q
 split at q
 ·rename_i l y
  cases rd
  obtain⟨w,rfl,tD⟩:=yG.one
  obtain⟨u,rfl,ru⟩:=Pz.one
  split at q
  ·rename_i zs ys hg hg2
   obtain⟨hz,q⟩:=q
   obtain⟨vs,hv,rs⟩:=ab.lst hg
   obtain⟨b,ws,wo,rfl,MB,QP,hb,_⟩:=mw I ab ru tD hg2
   cases rx
   obtain⟨z,bB,n,r,hl,e⟩:=I.Sl hv
   obtain⟨⟨cl,dd,dt,sl⟩,ho,K4,n2,hdt⟩:=hb
   simp only at K4 hdt
   subst K4 hdt
   have h1:=MB.length
   have h2:=QP.length
   have h3:=rs.length
   have h4:=r.length
   have h5:bc=16777216:=cb
   have h6:SZ=16777216:=rfl
   have hsz:bB.toArray.size+wo.toArray.size<=bc:=by rw [aP,aP]; lia
   have Q6:¬ (!bB.toArray.isEmpty&&jh (bB.toArray.size+wo.toArray.size))=true:=by
    rw [M7 hsz,xw]
    exact eF
   refine zZ F.slot_list_extend ⟨_,e,rfl⟩ F.entry_list_extend (F.args_list_extend_2 _ _) (Ig l bB.toArray n b wo.toArray n2 dd sl Q6 (by rw [aP]; lia) (by lia)) ⟨e,ho,?_⟩
   refine⟨.cY,_,.cY,_,I.So (its':=bB++wo) hv e (by simp) (r.append MB) ?_,.putL ab hg hv (rs.append QP),rfl,.cY,q⟩
   rw [au]
   lia
  ·exact q.elim
 ·exact q.elim
theorem Sx{bB:List Value}{u:Value}{k:Nat}(hk:k<=bB.length):(bB.toArray.extract 0 k).push u++bB.toArray.extract k=(bB.take k++u :: bB.drop k).toArray:=by
 simp [List.extract_eq_take_drop]
 rw [fX (by rw [cJ]; lia)]
theorem Hu:Ll X "list.insert" uT:=by
 intro pins s σ H G x d xs ds v us Q I ab rx rd Pz yG q
 unfold uT at q
 split at q
 ·rename_i l i d'
  cases rd
  obtain⟨w,w2,rfl,Ku,Xv⟩:=yG.two
  cases Ku
  split at q
  ·rename_i zs hg
   obtain⟨h0,h1,hz,q⟩:=q
   obtain⟨vs,hv,rs⟩:=ab.lst hg
   obtain⟨u1,u2,rfl,⟨t,rfl⟩,T6⟩:=vals2 Pz
   cases rx
   obtain⟨z,bB,n,r,hl,e⟩:=I.Sl hv
   have sz:bc=16777216:=cb
   have hlen:bB.length=zs.length:=by rw [← hl,rs.length]
   have hs:SZ=16777216:=rfl
   have aav:¬ (!Builtin.List.listFitsIndex i)=true:=by
    rw [fitsIndex_both (by lia) (by lia)]
    exact eF
   refine zZ F.slot_list_insert ⟨_,e,rfl⟩ F.entry_list_insert (F.args_list_insert_3 _ _ _)
    (AutoSeq1.list_insert_list_int_val_1 l bB.toArray n i t u2 aav (by rw [aP]; lia)) ⟨e,?_⟩
   have hi:i.toNat<=bB.length:=by lia
   refine⟨.cY,_,.cY,_,I.So (its':=bB.take i.toNat++u2 :: bB.drop i.toNat) (ys:=vs.take i.toNat++w2 :: vs.drop i.toNat) hv e ?_ ((r.take _).append (.cons T6 (r.drop _))) ?_,.putL ab hg hv ((rs.take _).append (.cons Xv (rs.drop _))),rfl,.cY,q⟩
   ·dsimp only
    have e1:(if i < 0 then (i+(bB.toArray.size:Int)).toNat else min i.toNat bB.toArray.size)=i.toNat:=by
     rw [if_neg (by lia),aP]; lia
    rw [e1]
    exact Sx hi
   ·rw [au,ak,dj,cJ]
    lia
  ·exact q.elim
 ·exact q.elim
theorem lK (hu : X.A.units + 64 < cLine) : Ll X "list.index" oV := by
  intro pins s σ H G x d xs ds v us Q I ab rx rd Pz yG q
  unfold oV at q
  split at q
  · rename_i d'
    obtain⟨hy, zs, sn, ss, hi, s1, s2, q⟩ := q
    obtain⟨w, rfl, tD⟩ := yG.one
    obtain⟨u, rfl, ru⟩ := Pz.one
    have lists : ∃ l vs bB, v = .ref l ∧ Vals vs bB ∧ bb X.K H vs zs ∧ s.heap.IsList l bB.toArray ∧ vs.length ≤ bc := by
      cases rd with
      | d0 hq rs =>
        cases hi
        cases rx
        obtain⟨bB, rv, pl, hz⟩ := I.list hq.sq
        exact⟨_, _, bB, rfl, rv, rs, pl.isList, hz⟩
      | ref l =>
        unfold itemsOf at hi
        dsimp only at hi
        cases hg : G l with
        | none => rw [hg] at hi; cases hi
        | some g =>
          rw [hg] at hi
          cases g with
          | lst ds =>
            cases hi
            cases rx
            obtain⟨vs, hv, rs⟩ := ab.lst hg
            obtain⟨bB, rv, pl, hz⟩ := I.list (.of hv)
            exact⟨_, _, bB, rfl, rv, rs, pl.isList, hz⟩
          | jn _ => cases hi
      | _ => exact bQ hy
    obtain⟨l, vs, bB, rfl, rv, rs, hl, hz⟩ := lists
    obtain⟨as, ra⟩ := (gW I ab s1).1 w u tD ru
    obtain⟨bs, rb⟩ := (gW I ab s2).2 zs ss (.inl ⟨rfl, rfl⟩) vs bB rs rv
    have d2 := JI (n := 7) s2
    have n2 : pF ss = true := s2.nr
    have ze := u0 _ n2
    have x9 : X.A.units + 1 + min (cj (lh ss)) (pd sn).depth < cLine := by lia
    have MK : gv s.heap bB.toArray.toList (lh ss) bs := by simpa using rb
    have mp := SeqAt.readsAll_map _ _ _ ze MK
    split at q
    · rename_i k hk
      obtain⟨nB, aaq, Ql⟩ := List.findIdx?_eq_some_iff_getElem.mp hk
      have pdl : ∀ (zz : List D), (lh zz).length = zz.length := by
        intro zz
        induction zz with
        | nil => rfl
        | cons a r ih => exact congrArg Nat.succ ih
      have hlen : bB.length = ss.length := by
        have := congrArg dg mp
        rw [aj, pdl] at this
        simpa using this
      have at_ : ∀ (m : Nat) (h1 : m < bB.toArray.size) (h2 : m < ss.length), uf (AO s.heap bB.toArray[m]) (pd sn) = iy ss[m] sn := by
        intro m h1 h2
        have e1 : (bB.toArray.toList.map (AO s.heap))[m]? = (lh ss)[m]? := by rw [mp]
        have pdg : ∀ (zz : List D) (m : Nat) (h : m < zz.length), (lh zz)[m]? = some (pd zz[m]) := by
          intro zz
          induction zz with
          | nil => intro m h; simp at h
          | cons a r ih => intro m h; cases m with
            | zero => rfl
            | succ m => exact ih m (ug h)
        rw [pdg ss m h2] at e1
        have h1' : m < bB.length := by simpa using h1
        have e2 : AO s.heap bB.toArray[m] = pd ss[m] := by
          simpa [h1'] using e1
        rw [e2]
        have nrm : nr ss[m] = true := by
          have : ∀ (zz : List D) (m : Nat) (h : m < zz.length), pF zz = true → nr zz[m] = true := by
            intro zz
            induction zz with
            | nil => intro m h; simp at h
            | cons a r ih => intro m h hn; have HS : nr a = true ∧ pF r = true := (jy).mp hn
                             cases m with
                             | zero => exact HS.1
                             | succ m => exact ih m (by simpa using h) HS.2
          exact this ss m h2 n2
        exact tS _ _ nrm s1.nr
      have sz : bc = 16777216 := cb
      have hvl : vs.length = bB.length := rv.length
      obtain⟨⟨cls, dd, data, sl⟩, ho, hc, n, hd⟩ := id hl
      simp only at hc hd
      subst hc hd
      have UY : k < bB.toArray.size := by rw [aP]; lia
      refine zZ eB ⟨_, ho, rfl⟩ PySem.F.entry_list_index (PySem.F.args_list_index_2 _ _)
        (SeqAt.list_indexAt l bB.toArray n dd sl u (fun y => uf (AO s.heap y) (pd sn)) k UY (by lia) ?_ ?_) ⟨ho, mC MK ra ze (jM _ s1.nr) x9, ?_⟩
      · rw [at_ k UY nB]; exact aaq
      · intro m hm UT
        have UW : m < ss.length := by lia
        rw [at_ m hm UW]
        simpa using Ql m UT
      · exact⟨.int k, H, .int k, G, I.tok _, .refl ab, ⟨_, rfl⟩, .int _, q⟩
    · exact q.elim
  · exact q.elim
theorem uR:gE X (.Dict [] [] pos) wH:=by
 intro E pins s σ H τ G Q hE I h
 exact gC (MX pins s σ H (Dj X.K H G Q) I.inv fun p hp=>⟨_,_,.new I.ab hp (.dk cR .nil),.ref _,h p (I.ab.free hp)⟩) fun _ _ z=>.of z
end
end K2
end
section
namespace K2
open PySem PySem.Spec PyProof.Rows L2
noncomputable def fO(env:Env):List (Str×sG)->List (Str×Addr)->List (Str×Addr)
 | [],acc=>acc
 | (n,k) :: r,acc=>if k=.free then fO env r ((n,(env.cells.lookup n).getD 0) :: acc) else fO env r acc
theorem tV(env:Env)(f:Str×sG->List (Str×Addr)->Sem (ForInStep (List (Str×Addr))))(hf:∀ n k c,f (n,k) c=if (k == jU)=true then (cellOf env n >>= fun a=>pure (sr ((n,a) :: c))) else pure (sr c)) :
  ∀ (ns:List (Str×sG)) (acc:List (Str×Addr)),(∀ x∈ns,x.2=.free->∃ c,env.cells.lookup x.1=some c)->forIn ns acc f=(pure (fO env ns acc):Sem (List (Str×Addr)))
 | [],acc,_=>rfl
 | (n,k) :: r,acc,h=>by
  rw [List.forIn_cons,hf]
  have hr:∀ x∈r,x.2=.free->∃ c,env.cells.lookup x.1=some c:=fun x hx=>h x (av _ hx)
  by_cases hk:k=.free
  ·subst hk
   obtain⟨c,hc⟩:=h (n,.free) aE rfl
   have ec:cellOf env n=pure c:=by unfold cellOf; rw [hc]
   rw [if_pos (by decide),ec,pure_bind,pure_bind]
   show forIn r ((n,c) :: acc) f=_
   rw [tV env f hf r _ hr]
   show _=(pure (fO env ((n,.free) :: r) acc):Sem (List (Str×Addr)))
   rw [fO,if_pos rfl,hc]; rfl
  ·rw [if_neg (by simpa using hk),pure_bind]
   show forIn r acc f=_
   rw [tV env f hf r _ hr]
   show _=(pure (fO env ((n,k) :: r) acc):Sem (List (Str×Addr)))
   rw [fO,if_neg hk]
theorem AG{env:Env}{scope:Scope}(h:∀ x∈scope.names,x.2=.free->∃ c,env.cells.lookup x.1=some c):closureFor scope env=pure (fO env scope.names []):=by
 unfold closureFor
 dsimp only
 rw [tV env _ (fun n k c=>?_) scope.names [] h]
 ·rfl
 ·by_cases hk:(k == jU)=true
  ·simp only [hk,if_true]
  ·simp only [hk,if_false,aB]
theorem uq{env:Env}{x:Str}{c:Addr}:∀ {ns:List (Str×sG)} {acc:List (Str×Addr)},(∀ y∈ns,y.2=.free->∃ c,env.cells.lookup y.1=some c)->(∀ y c,acc.lookup y=some c->env.cells.lookup y=some c)->(fO env ns acc).lookup x=some c->env.cells.lookup x=some c
 | [],_,_,ha,e=>ha _ _ e
 | (n,k) :: r,acc,h,ha,e=>by
  have hr:∀ y∈r,y.2=.free->∃ c,env.cells.lookup y.1=some c:=fun y hy=>h y (av _ hy)
  unfold fO at e
  by_cases hk:k=.free
  ·rw [if_pos hk] at e
   refine uq hr (fun y c' q=>?_) e
   rw [Dy] at q
   by_cases hy:(y == n)=true
   ·rw [hy] at q
    have e1:y=n:=eq_of_beq hy
    subst e1
    obtain⟨c0,hc0⟩:=h (y,k) aE hk
    rw [hc0] at q ⊢
    exact q
   ·have ZZ:(y == n)=false:=by simpa using hy
    rw [ZZ] at q
    exact ha y c' q
  ·rw [if_neg hk] at e
   exact uq hr ha e
theorem oH{env:Env}{x:Str}:∀ {ns:List (Str×sG)} {acc:List (Str×Addr)},((x,jU)∈ns\/∃ c,acc.lookup x=some c)->∃ c,(fO env ns acc).lookup x=some c
 | [],_,h=>by rcases h with h | h; exact absurd h (by simp); exact h
 | (n,k) :: r,acc,h=>by
  unfold fO
  have grow:∀ a,(∃ c,acc.lookup x=some c)->∃ c,((n,a) :: acc).lookup x=some c:=fun a zq=>by
   obtain⟨c,hc⟩:=zq
   rw [Dy]
   by_cases hy:(x == n)=true
   ·rw [hy]; exact⟨_,rfl⟩
   ·have ZZ:(x == n)=false:=by simpa using hy
    rw [ZZ]; exact⟨c,hc⟩
  by_cases hk:k=.free
  ·rw [if_pos hk]
   refine oH ?_
   rcases h with h | h
   ·rcases List.mem_cons.mp h with e | h
    ·injection e with e1 e2
     subst e1
     exact .inr ⟨(env.cells.lookup x).getD 0,by rw [Dy]; simp⟩
    ·exact .inl h
   ·exact .inr (grow _ h)
  ·rw [if_neg hk]
   refine oH ?_
   rcases h with h | h
   ·rcases List.mem_cons.mp h with e | h
    ·injection e with e1 e2
     exact absurd e2.symm hk
    ·exact .inl h
   ·exact .inr h
noncomputable abbrev dQ(X:Cx)(N:List Str)(scope:Scope)(C:Addr)(s:aq)(H:Hp)(fp:List Addr):Cx :=
 { X with env:=compEnvC scope (fO X.env scope.names []) C X.env,N:=N,ic:=s,Ln:=H,outer:=X.stack,stack:=X.stack,ex:=fp,fn:=fun _=>false,pn:=[],xe:=fun _ _=>False }
theorem uF{scope:Scope}{env:Env}{x:Str}(h:(Gw scope env).names.lookup x=some .cell\/(Gw scope env).names.lookup x=some .free)(pI:∀ y∈scope.names,y.2≠.cell):(x,jU)∈scope.names:=by
 have go:∀ k,(Gw scope env).names.lookup x=some k->k=.cell\/k=.free->(x,jU)∈scope.names:=by
  intro k hk hkk
  have hm:=hU hk
  unfold Gw at hm
  dsimp only at hm
  obtain⟨⟨n,j⟩,hj,e⟩:=List.mem_map.mp hm
  dsimp only at e
  by_cases hc:(j == jU&&env.scope.kind == .function&&env.kindOf n == some .cell)=true
  ·rw [if_pos hc] at e
   rw [aH,aH] at hc
   injection e with e1 e2
   have ej:j=.free:=eq_of_beq hc.1.1
   rw [ej,e1] at hj
   exact hj
  ·rw [if_neg hc] at e
   injection e with e1 e2
   subst e1
   rcases hkk with r | r
   ·exact absurd (e2.trans r) (pI _ hj)
   ·rw [e2.trans r] at hj; exact hj
 rcases h with h | h
 ·exact go _ h (.inl rfl)
 ·exact go _ h (.inr rfl)
section
variable {X:Cx} {N:List Str} {scope:Scope} {fp:List Addr} {pins:List (Addr×Obj)} {σ:L2.St} {H:Hp} {s:aq} {C:Addr}
theorem S4(I:Inv X pins σ H s)(pI:∀ y∈scope.names,y.2≠.cell)(Bn:scope.kind=.function)(vb:∀ y∈scope.names,y.2=.free->X.env.kindOf y.1=some .cell)(hC:s.heap.objs.size<=C)(hfp:∀ b∈fp,oa X pins H b/\b < s.heap.objs.size):(dQ X N scope C s H fp).Ok:=by
 have K4:∀ y∈scope.names,y.2=.free->∃ c,X.env.cells.lookup y.1=some c:=fun y hy hf=>I.ok.has _ (.inl (vb y hy hf))
 have RD:∀ x c,(fO X.env scope.names []).lookup x=some c->X.env.cells.lookup x=some c:=fun x c e=>uq K4 (fun y c q=>by simp at q) e
 refine⟨I.ok.mod,Bn,I.ok.glob,I.ok.blt,hC,fun x y c h1 h2=>I.ok.inj x y c (RD x c h1) (RD y c h2),fun x hx=>?_,fun x c h=>absurd h (by simp),I.ok.hd,I.ok.frames,.inl rfl,fun b hb=>?_,I.bs,cv I.ok.Ow I.sz,fun b o e hb=>?_,fun b hb=>?_,I.stack,I.B2⟩
 ·exact oH (.inl (uF hx pI))
 ·obtain⟨⟨f0,f1,f2,f3,f4,f5⟩,nB⟩:=hfp b hb
  exact⟨bL (bJ nB hC),fun x c e=>f4 x c (RD x c e)⟩
 ·obtain⟨⟨f0,f1,f2,f3,f4,f5⟩,nB⟩:=hfp b hb
  rcases f3 with f3 | f3
  ·exact I.ok.Hq b o e f3
  ·exact absurd (bJ (aK e) (cv I.ok.Ow f3)) (ff _)
 ·obtain⟨⟨f0,f1,f2,f3,f4,f5⟩,nB⟩:=hfp b hb
  intro z
  rcases List.mem_cons.mp (I.GW b z) with e | e
  ·exact f1 e
  ·exact f2 e
theorem Qy{sy:Heap}{m:Nat}{fr:List Nat}{tk:Nat}(I:Inv X pins σ H s)(ok:(dQ X N scope s.heap.objs.size s H fp).Ok)(SM:∀ y∈scope.names,y.2≠.cell)(vb:∀ y∈scope.names,y.2=.free->X.env.kindOf y.1=some .cell)(hN:N.length=m+fr.length)
  (hfr:∀ j i x,fr[j]?=some i->N[m+j]?=some x->X.N[i]?=some x/\X.env.scope.names.lookup x=some .cell/\(Gw scope X.env).names.lookup x=some .cell) (HQ:∃ mm,sy.Ns s.heap.objs.size mm) (hk:∀ b o,s.heap.get? b=some o->sy.get? b=some o) :
  Inv (dQ X N scope s.heap.objs.size s H fp) [] (bF m none++fr.map fun i=>(σ[i]?).getD none) H { s with heap:=sy,toks:=tk }:=by
 have K4:∀ y∈scope.names,y.2=.free->∃ c,X.env.cells.lookup y.1=some c:=fun y hy hf=>I.ok.has _ (.inl (vb y hy hf))
 have RD:∀ x c,(fO X.env scope.names []).lookup x=some c->X.env.cells.lookup x=some c:=fun x c e=>uq K4 (fun y c q=>by simp at q) e
 obtain⟨mm,HQ⟩:=HQ
 refine⟨ok,rfl,I.bare,Un.kept hk,⟨mm,HQ,fun i x v h1 h2 h3=>?_⟩,fun x c e=>?_,I.cM.fresh (aF _),fun x c e=>?_,fun p hp=>absurd hp (by simp),I.cM.kept hk,?_⟩
 ·by_cases hi:i < m
  ·rw [cW (by simpa using hi),kN] at h2
   split at h2 <;> cases h2
  ·obtain⟨j,rfl⟩:∃ j,i=m+j:=⟨i - m,by lia⟩
   rw [bZ (by simp),fk,ib,bu] at h2
   cases hj:fr[j]? with
   | none=>rw [hj] at h2; cases h2
   | some k =>
    rw [hj] at h2
    have NW:(σ[k]?).getD none=some v:=by simpa using h2
    have OZ:σ[k]?=some (some v):=by
     cases q:σ[k]? with
     | none=>rw [q] at NW; cases NW
     | some o=>rw [q] at NW; simp at NW; rw [NW]
    obtain⟨e1,e2,e3⟩:=hfr j k x hj h1
    obtain⟨m0,hn0,hl0⟩:=I.loc
    obtain⟨u,r,l⟩:=hl0 k x v e1 OZ (.inr (.inl e2))
    refine⟨u,r,.inr ⟨.inl e3,?_⟩⟩
    rcases l with ⟨l1,_⟩ | ⟨_,c,hc,pI⟩
    ·have:X.env.scope.names.lookup x=some .local:=l1
     rw [e2] at this; cases this
    ·have hx:(x,jU)∈scope.names:=uF (.inl e3) SM
     obtain⟨c',LJ⟩:=oH (env:=X.env) (x:=x) (ns:=scope.names) (acc:=[]) (.inl hx)
     have:=RD x c' LJ
     rw [hc] at this
     have ec:c=c':=df this
     subst ec
     obtain⟨oc,Tu,hd⟩:=pI
     exact⟨c,LJ,oc,hk _ _ Tu,hd⟩
 ·obtain⟨v,oc,Tu,hd⟩:=I.cell x c (RD x c e)
  exact⟨v,oc,hk _ _ Tu,hd⟩
 ·exact I.jt x c (RD x c e)
 ·rw [au,fk,aj]
  exact hN.symm
theorem C4{prog:bP}{w:World}{A:dh}{R:Result->aq->Prop}{s:aq}{elt target iter:Expr}{ifs:List Expr}{sc:Scope}{pos:Pos}{it acc:Value}{env:Env}(J:Nat->aq->Prop)
  (turn:∀ n s,J n s->wpAny (model prog w) A (p9 it) (fun r eO=>match r with
   | none=>R (.ok .next) eO
   | some v=>wpAny (model prog w) A (yh target it v) (fun _ TR=>wpAny (model prog w) A (LY target env v) (fun _ qo =>
     wpAny (model prog w) A (forIn ifs true fun c r=>if r=true then do let ok ← isTrue c env (eval c env); pure (sr ok) else pure (sr r)) (fun k yx =>
      if k=true then wpAny (model prog w) A (eval elt env) (fun x Kl=>wpAny (model prog w) A (call (.builtin "list.append") [acc,x]) (fun _ Mo=>∃ m,m < n/\J m Mo) (fun _ _=>False) Kl) (fun _ _=>False) yx
      else ∃ m,m < n/\J m yx) (fun _ _=>False) qo) (fun _ _=>False) TR) (fun _ _=>False) eO) (fun _ _=>False) s) (n:Nat) (h:J n s) :
  vJ (model prog w) A (.compLoop (.ListComp elt [⟨target,iter,ifs,0⟩] sc pos) 0 it acc env) R s:=by
 have no:∀ {α:Type} {t:Sem α} {Q:α->aq->Prop} {E:Value->aq->Prop} {s:aq},wpAny (model prog w) A t Q (fun _ _=>False) s->wpAny (model prog w) A t Q E s:=fun h=>fH h (fun _ _ q=>q) fun _ _ z=>z.elim
 refine codeAny_loop rfl J (fun n s hJ=>?_) n h
 show wpAny _ A ((compTurn (.ListComp elt [⟨target,iter,ifs,0⟩] sc pos) 0 it acc env).onRaise (fun x=>do noteFrame x env; theTreesLotGoes x)) _ _ s
 refine wpAny_noted ?_
 rw [compTurn_list]
 refine aa (wpAny_standAt (aa (gC (no (turn n s hJ)) fun r eO sy=>?_)))
 cases r with
 | none=>exact ai sy
 | some v =>
  refine aa (gC (no sy) fun _ qo NC=>aa (gC (no NC) fun _ yx ZV=>aa (gC (no ZV) fun k Kl UI=>?_)))
  cases k with
  | false=>exact ai ⟨rfl,UI⟩
  | true=>exact aa (aa (gC (no UI) fun x Mo ZU=>aa (gC (no ZU) fun _ aeZ ZT=>ai (ai ⟨rfl,ZT⟩))))
noncomputable def CompEnd(X:Cx)(pins:List (Addr×Obj))(σ:L2.St)(H:Hp)(G:Gp)(Q:DK)(C Dd:Addr)(s':aq):Prop :=
 ∃ m H' G',Inv X pins σ H' s'/\s'.heap.Ns C m/\oa X pins H' C/\Mv X.K H G H' G'/\Q (.ref Dd) G'
inductive Tc (Xc:Cx):List Expr->Option zS->Prop
 | none:Tc Xc [] none
 | some {c:Expr} {t:zS}:Gm Xc c t->Tc Xc [c] (some t)
theorem Bz{τ:gY}{G G2:Gp}{H2:Hp}{s2:aq}{tg elt iter:Expr}{ifs:List Expr}{pos:Pos}{m:Nat}{fr:List Nat}{E:kc}{g:AI}{c:Option zS}{te:fW}{J:It}{tn:Nat->Heap->Prop}{it:Addr}{ds:List D}{ok:Gp->Prop}{Q:DK}{Rr:Value->Addr->Result->aq->Prop}{E0:Value->aq->Prop}
  (hc:X.calm=true) (pI:∀ y∈scope.names,y.2≠.cell) (Bn:scope.kind=.function) (vb:∀ y∈scope.names,y.2=.free->X.env.kindOf y.1=some .cell) (hN:N.length=m+fr.length)
  (hfr:∀ j i x,fr[j]?=some i->N[m+j]?=some x->X.N[i]?=some x/\X.env.scope.names.lookup x=some .cell/\(Gw scope X.env).names.lookup x=some .cell)
  (hg:∀ C s H fp,LM (dQ X N scope C s H fp) tg g) (hi:∀ C s H fp,Tc (dQ X N scope C s H fp) ifs c) (he:∀ C s H fp,gE (dQ X N scope C s H fp) elt te)
  (I:I2 X pins σ H2 τ G2 s2) (m2:Mv X.K H G H2 G2) (T:Turn X.prog X.w X.K tg J fp it tn) (OR:tn 0 s2.heap) (f2:∀ b∈fp,oa X pins H2 b) (wk:Rm X.K J H2 ds ok) (hz:ds.length<=SZ)
  (hE0:∀ ex G,¬ E ex G) (q:iR g c te ok ds E (zM m fr τ) G2 [] fun xs G3=>i6 G3 (.lst xs) Q)
  (fin:∀ C s',CompEnd X pins σ H G Q C s2.heap.objs.size s'->Rr (.ref s2.heap.objs.size) C (.ok .next) s') :
  wpAny (model X.prog X.w) X.A (newList []) (fun acc yx=>wpAny (model X.prog X.w) X.A (newFunctionEnv scope X.env.globals (fO X.env scope.names []) [] X.env.qual none .none (some X.env)) (fun Vu Kl =>
   vJ (model X.prog X.w) X.A (.compStart (.ListComp elt [⟨tg,iter,ifs,0⟩] scope pos) 0 (.ref it) acc { Vu with scope:=Gw scope X.env }) (Rr acc Vu.locals) Kl) E0 yx) E0 s2:=by
 have sz:bc=16777216:=cb
 have wx:H2 s2.heap.objs.size=none:=I.inv.cM.fresh (aF _)
 have SS:G2 s2.heap.objs.size=none:=I.ab.free wx
 refine cO (wpAny_newFunctionEnv pI (by intro y hy; simp at hy) (fun sy NM NF=>?_) Bn)
 dsimp only at NM NF ⊢
 have I3:Inv X pins σ (upd H2 s2.heap.objs.size (.lst [])) { s2 with heap:=s2.heap.push { cls:=.type "list",data:=.seq ([]:List Value).toArray },toks:=s2.toks }:=I.inv.Za (ys:=[]) .nil (cD _)
 generalize hs3:({ s2 with heap:=s2.heap.push { cls:=.type "list",data:=.seq ([]:List Value).toArray },toks:=s2.toks }:aq)=s3 at I3
 generalize Vd:upd H2 s2.heap.objs.size (.lst [])=H3 at I3
 have eH3:∀ b,b≠s2.heap.objs.size->H3 b=H2 b:=fun b hb=>by rw [← Vd,bU hb]
 have E8:s3.heap=s2.heap.push { cls:=.type "list",data:=.seq ([]:List Value).toArray }:=by rw [← hs3]
 have T5:s3.heap.objs.size=s2.heap.objs.size+1:=by rw [E8,Heap.size_push]
 have NR:∀ b∈fp,b < s2.heap.objs.size:=fun b hb=>by
  obtain⟨o,e,_⟩:=T.obj _ _ OR b hb
  exact aK e
 have U3:∀ b∈fp,oa X pins H3 b/\b < s3.heap.objs.size:=fun b hb=>by
  have WC:=NR b hb
  obtain⟨f0,f1⟩:=f2 b hb
  exact⟨⟨by rw [eH3 b (bL WC)]; exact f0,f1⟩,bJ WC (by rw [T5]; exact Nat.le_succ _)⟩
 have V7:(dQ X N scope s3.heap.objs.size s3 H3 fp).Ok:=S4 I3 pI Bn vb (aF _) U3
 have Q8:∀ b o,s3.heap.get? b=some o->sy.get? b=some o:=fun b o e=>by
  have hb:b < s3.heap.objs.size:=aK e
  refine NF.extBut b o ?_ (aI _ ?_)
  ·rw [← E8]; exact bL hb
  ·rw [← E8]; exact e
 have aah:∃ mm,sy.Ns s3.heap.objs.size mm:=⟨_,by rw [E8]; exact NM⟩
 have I4:=Qy (tk:=s3.toks+([]:List (Str×Value)).length) I3 V7 pI vb hN hfr aah Q8
 have Zw:Kp H2 H3:=by rw [← Vd]; exact .new wx
 have Rl:kS X.K H3 G2:=by rw [← Vd]; exact(Mv.LG I.ab wx).ab
 have mv3:Mv X.K H2 G2 H3 G2:=by rw [← Vd]; exact .LG I.ab wx
 have V2:Lq X.K H3 (bF m none++fr.map fun i=>(σ[i]?).getD none) (zM m fr τ):=by
  refine⟨by unfold zM; rw [au,au,aj,aj,fk,fk],fun i d h2=>?_⟩
  unfold zM at h2
  by_cases hi:i < m
  ·rw [cW (by simpa using hi),kN] at h2
   split at h2 <;> cases h2
  ·obtain⟨j,rfl⟩:∃ j,i=m+j:=⟨i - m,by lia⟩
   rw [bZ (by simp),fk,ib,bu] at h2
   rw [bZ (by simp),fk,ib,bu]
   cases hj:fr[j]? with
   | none=>rw [hj] at h2; cases h2
   | some k =>
    rw [hj] at h2
    have NW:(τ[k]?).getD none=some d:=by simpa using h2
    have OZ:τ[k]?=some (some d):=by
     cases qq:τ[k]? with
     | none=>rw [qq] at NW; cases NW
     | some o=>rw [qq] at NW; simp at NW; rw [NW]
    obtain⟨v,e1,e2⟩:=I.st.at' k d OZ
    exact⟨v,by simp [e1],e2.mono Zw⟩
 have hD3:H3 s2.heap.objs.size=some (.lst []):=by rw [← Vd,cR]
 have TZ:tn 0 sy:=T.keep _ _ _ OR fun b hb o e=>Q8 b o (by rw [E8]; exact aI _ e)
 have Mr:∀ {Hc:Hp},(∀ b∈fp,Hc b=none)->∀ b∈fp,oa (dQ X N scope s3.heap.objs.size s3 H3 fp) [] Hc b:=fun hn b hb =>
  ⟨hn b hb,(V7.Vj b hb).1,V7.La b hb,.inl hb,fun x c e=>(V7.Vj b hb).2 x c e,fun p hp=>absurd hp (by simp)⟩
 have neD:∀ b∈fp,b≠s2.heap.objs.size:=fun b hb=>bL (NR b hb)
 have loop:vJ (model X.prog X.w) X.A (.compLoop (.ListComp elt [⟨tg,iter,ifs,0⟩] scope pos) 0 (.ref it) (.ref s2.heap.objs.size) (dQ X N scope s3.heap.objs.size s3 H3 fp).env) (Rr (.ref s2.heap.objs.size) s3.heap.objs.size)
   { s3 with heap:=sy,toks:=s3.toks+([]:List (Str×Value)).length }:=by
  refine C4 (fun n s'=>∃ i OP Hc Ma Gc tY vw,I2 (dQ X N scope s3.heap.objs.size s3 H3 fp) [] OP Hc Ma Gc s'/\Gc s2.heap.objs.size=none/\Hc s2.heap.objs.size=some (.lst tY)/\bb X.K Hc tY vw/\vw.length<=i/\Mv X.K H2 G2 Hc Gc/\tn i s'.heap/\(∀ b∈fp,Hc b=none) /\
   n=ds.length - i/\i<=ds.length/\iR g c te ok (ds.drop i) E Ma Gc vw fun xs G3=>i6 G3 (.lst xs) Q) ?_ ds.length
   ⟨0,_,H3,_,G2,[],[],⟨I4,V2,Rl⟩,SS,hD3,.nil,aF _,mv3,TZ,fun b hb=>by rw [eH3 b (neD b hb)]; exact(f2 b hb).1,rfl,cD _,q⟩
  rintro n s4 ⟨i,OP,Hc,Ma,Gc,tY,vw,Ic,gD,hD,rA,hA,mc,stc,frc,rfl,hle,wq⟩
  have kpc:Kp H2 Hc:=mc.kp I.ab
  by_cases nB:i < ds.length
  ·rw [gF nB] at wq
   obtain⟨X8,wq⟩:=wq
   obtain⟨go,yl⟩:=(wk i Hc Gc kpc Ic.ab X8).1 ds[i] (by simp [nB])
   refine gC (T.item (dQ X N scope s3.heap.objs.size s3 H3 fp) rfl rfl rfl hc i [] s4 OP Hc (fun _ _=>False) Ic.inv (Mr frc) stc go) ?_
   rintro r s5 ⟨u,hr,h5⟩
   subst hr
   refine gC h5 ?_
   rintro _ s6 ⟨x,H6,I6,r6,y6,W5,fr6⟩
   obtain⟨rd6,m6⟩:=yl x H6 y6
   have I6':=I6.pinned (Mr fr6) (T.obj _ _ W5)
   have J6:I2 (dQ X N scope s3.heap.objs.size s3 H3 fp) ([]++qA fp s6.heap) OP H6 Ma Gc s6:=⟨I6',Ic.st.mono (m6.kp Ic.ab),m6.ab⟩
   have back:∀ {TH:L2.St} {H9:Hp} {Tf:gY} {G9:Gp} {s9:aq} {aV:List V} {aD:List D},I2 (dQ X N scope s3.heap.objs.size s3 H3 fp) ([]++qA fp s6.heap) TH H9 Tf G9 s9->Mv X.K H2 G2 H9 G9->G9 s2.heap.objs.size=none->H9 s2.heap.objs.size=some (.lst aV)->bb X.K H9 aV aD->aD.length<=i+1 ->
     (iR g c te ok (ds.drop (i+1)) E Tf G9 aD fun xs G3=>i6 G3 (.lst xs) Q)->∃ mm,mm < ds.length - i/\∃ i OP Hc Ma Gc tY vw,I2 (dQ X N scope s3.heap.objs.size s3 H3 fp) [] OP Hc Ma Gc s9/\Gc s2.heap.objs.size=none/\Hc s2.heap.objs.size=some (.lst tY)/\bb X.K Hc tY vw/\vw.length<=i /\
      Mv X.K H2 G2 Hc Gc/\tn i s9.heap/\(∀ b∈fp,Hc b=none)/\mm=ds.length - i/\i<=ds.length/\iR g c te ok (ds.drop i) E Ma Gc vw fun xs G3=>i6 G3 (.lst xs) Q:=fun {TH H9 Tf G9 s9 aV aD} I9 m9 g9 h9 r9 l9 n9=>by
    refine⟨ds.length - (i+1),by lia,i+1,TH,H9,Tf,G9,aV,aD,⟨I9.inv.uo,I9.st,I9.ab⟩,g9,h9,r9,l9,m9,T.keep _ _ _ W5 fun b hb o e=>(I9.inv.pin (b,o) (bR _ (bR _ (oU hb e)))).1,fun b hb=>?_,rfl,nB,n9⟩
    obtain⟨o,e,d⟩:=T.obj _ _ W5 b hb
    exact(I9.inv.pin (b,o) (bR _ (bR _ (oU hb e)))).2.1
   have mc6:=mc.trans m6
   have hD6:=m6.keep _ _ hD gD
   refine gC (hg _ _ _ _ E _ s6 OP H6 Ma Gc x ds[i] u _ (Lk.none hE0) J6 r6 rd6 wq) ?_
   rintro _ s7 ⟨LC,H7,LB,G7,I7,m7,q7⟩
   have WG:=m7.keep _ _ hD6.1 gD
   have mc7:=mc6.trans m7
   have rA7:=rA.mono ((m6.trans m7).kp Ic.ab)
   have Vn:∀ (H8:Hp) (G8:Gp) (s8:aq),I2 (dQ X N scope s3.heap.objs.size s3 H3 fp) ([]++qA fp s6.heap) LC H8 LB G8 s8->Mv X.K H7 G7 H8 G8->(te E LB G8 fun y G9=>iR g c te ok (ds.drop (i+1)) E LB G9 (vw++[y]) fun xs G3=>i6 G3 (.lst xs) Q) ->
     wpAny (model X.prog X.w) X.A (eval elt (dQ X N scope s3.heap.objs.size s3 H3 fp).env) (fun y Kl=>wpAny (model X.prog X.w) X.A (call (.builtin "list.append") [.ref s2.heap.objs.size,y]) (fun _ Mo=>∃ mm,mm < ds.length - i/\∃ i OP Hc Ma Gc tY vw,I2 (dQ X N scope s3.heap.objs.size s3 H3 fp) [] OP Hc Ma Gc Mo/\Gc s2.heap.objs.size=none/\Hc s2.heap.objs.size=some (.lst tY)/\bb X.K Hc tY vw/\vw.length<=i /\
      Mv X.K H2 G2 Hc Gc/\tn i Mo.heap/\(∀ b∈fp,Hc b=none)/\mm=ds.length - i/\i<=ds.length/\iR g c te ok (ds.drop i) E Ma Gc vw fun xs G3=>i6 G3 (.lst xs) Q) (fun _ _=>False) Kl) (fun _ _=>False) s8:=fun H8 G8 s8 I8 m8 q8=>by
    refine lM (he _ _ _ _) (Lk.none hE0) I8 q8 fun v H9 d9 G9 u9 s9 I9 m9 r9 rd9 q9=>?_
    have Y9:=m8.trans m9
    have WE:=Y9.keep _ _ WG.1 WG.2
    have rA9:=rA7.mono (Y9.kp I7.ab)
    have mc9:=mc7.trans Y9
    refine gC (Bg (X:=dQ X N scope s3.heap.objs.size s3 H3 fp) _ s9 LC H9 (.ref s2.heap.objs.size) [v] _ [u9] (fun _ H'=>H'=upd H9 s2.heap.objs.size (.lst (tY++[v]))) I9.inv rfl (.cons r9 .nil)
     ⟨_,tY,v,rfl,rfl,WE.1,by rw [rA.length,sz]; have:SZ=16777216:=rfl; lia,rfl⟩) ?_
    rintro _ s10 ⟨v10,H10,I10,_,e10⟩
    subst e10
    have Zv:Kp H9 (upd H9 s2.heap.objs.size (.lst (tY++[v]))):=.putL WE.1
    have abA:kS X.K (upd H9 s2.heap.objs.size (.lst (tY++[v]))) G9:=fun a g' e=>by
     have ne:a≠s2.heap.objs.size:=by rintro rfl; rw [WE.2] at e; cases e
     exact(I9.ab a g' e).mono Zv (bU ne)
    have mA:Mv X.K H2 G2 (upd H9 s2.heap.objs.size (.lst (tY++[v]))) G9:=⟨fun a o e n=>by
      have ne:a≠s2.heap.objs.size:=ef e wx
      obtain⟨e1,e2⟩:=mc9.keep a o e n
      exact⟨by rw [bU ne]; exact e1,e2⟩,fun a n=>by
      by_cases ha:a=s2.heap.objs.size
      ·rw [ha,cR]; simp
      ·rw [bU ha]; exact mc9.iM a n,abA⟩
    exact back ⟨I10,I9.st.mono Zv,abA⟩ mA WE.2 cR ((rA9.append (.cons rd9 .nil)).mono Zv) (by rw [au,cE]; lia) q9
   cases hi s3.heap.objs.size s3 H3 fp with
   | none =>
    refine wpAny_tests_nil ?_
    rw [if_pos rfl]
    exact Vn H7 G7 s7 I7 (.refl I7.ab) q7
   | some U7 =>
    refine wpAny_tests_one (Kk U7 (Lk.none hE0) I7 q7 fun k H8 G8 s8 I8 m8 q8=>?_)
    cases k with
    | true =>
     rw [if_pos rfl] at q8 ⊢
     exact Vn H8 G8 s8 I8 m8 q8
    | false =>
     rw [if_neg eF] at q8 ⊢
     have hD8:=m8.keep _ _ WG.1 WG.2
     exact back I8 (mc7.trans m8) hD8.2 hD8.1 (rA7.mono (m8.kp I7.ab)) (by lia) q8
  ·have hn:ds.length<=i:=by lia
   rw [lr hn] at wq
   obtain⟨X8,qn⟩:=wq
   have stop:=(wk i Hc Gc kpc Ic.ab X8).2 hn
   refine gC (T.done (dQ X N scope s3.heap.objs.size s3 H3 fp) rfl rfl rfl hc i [] s4 OP Hc (fun _ _=>False) Ic.inv (Mr frc) stc stop) ?_
   rintro r s5 ⟨hr,I5⟩
   subst hr
   refine fin s3.heap.objs.size s5 ?_
   obtain⟨mm,aai,_⟩:=I5.loc
   have hC5:Hc s3.heap.objs.size=none:=I5.free
   have I6:Inv X pins σ Hc s5:=by
    obtain⟨h5,g5,d5,t5,o5⟩:=s5
    have eo:o5=s3.os:=I5.os
    subst eo
    exact I3.call (h':=h5) (g':=g5) (d':=d5) (t':=t5) (ch:=fp) I5.base I5.cM I5.bare fun b hb=>by
     obtain⟨⟨f0,f1,f2',f3,f4,f5⟩,hl⟩:=U3 b hb
     exact⟨f3,f1,f4,f5⟩
   have mvF:Mv X.K H2 G2 Hc (fN Gc s2.heap.objs.size (.lst vw)):=⟨fun a o e n=>by
     have ne:a≠s2.heap.objs.size:=ef e wx
     obtain⟨e1,e2⟩:=mc.keep a o e n
     exact⟨e1,by rw [eY ne]; exact e2⟩,mc.iM,fun a g' e=>by
     by_cases ha:a=s2.heap.objs.size
     ·subst ha
      rw [bz] at e
      cases e
      exact⟨tY,hD,rA⟩
     ·rw [eY ha] at e
      exact Ic.ab a g' e⟩
   exact⟨mm,Hc,_,I6,aai,I3.HY (aF _) hC5,m2.trans mvF,qn _ gD⟩
 have all:vJ (model X.prog X.w) X.A (.compStart (.ListComp elt [⟨tg,iter,ifs,0⟩] scope pos) 0 (.ref it) (.ref s2.heap.objs.size) (dQ X N scope s3.heap.objs.size s3 H3 fp).env) (Rr (.ref s2.heap.objs.size) s3.heap.objs.size)
   { s3 with heap:=sy,toks:=s3.toks+([]:List (Str×Value)).length }:=codeAny_compStart_list loop (T.self _ 0 _ _ _ TZ loop)
 subst hs3
 exact all
end
end K2
end
section
namespace K2
open PySem PySem.Spec PyProof.Rows L2
section
variable {X:Cx} {N:List Str} {scope:Scope} {tg elt iter:Expr} {ifs:List Expr} {pos:Pos} {m:Nat} {fr:List Nat} {wi:O4} {g:AI} {c:Option zS} {te:fW}
structure zY(X:Cx)(N:List Str)(scope:Scope)(m:Nat)(fr:List Nat):Prop where
 cell:∀ y∈scope.names,y.2≠.cell
 kind:scope.kind=.function
 names:∀ y∈scope.names,y.2=.local->scope.names.lookup y.1=some .local
 free:∀ y∈scope.names,y.2=.free->X.env.kindOf y.1=some .cell
 len:N.length=m+fr.length
 at':∀ j i x,fr[j]?=some i->N[m+j]?=some x->X.N[i]?=some x/\X.env.scope.names.lookup x=some .cell/\(Gw scope X.env).names.lookup x=some .cell
theorem zY.closed{X:Cx}{N:List Str}{scope:Scope}{m:Nat}{fr:List Nat}(k:zY X N scope m fr){pins:List (Addr×Obj)}{σ:L2.St}{H:Hp}{s:aq}(I:Inv X pins σ H s):closureFor scope X.env=pure (fO X.env scope.names []) :=
 AG fun y hy hf=>I.ok.has _ (.inl (k.free y hy hf))
theorem KG(hc:X.calm=true)(k:zY X N scope m fr)(hi:O5 X tg iter wi)(hg:∀ C s H fp,LM (dQ X N scope C s H fp) tg g)(SK:∀ C s H fp,Tc (dQ X N scope C s H fp) ifs c)(he:∀ C s H fp,gE (dQ X N scope C s H fp) elt te)
  (hs:autoParam (∀ x,ng iter X.env x=pure x) Ai._auto_1):gE X (.ListComp elt [⟨tg,iter,ifs,0⟩] scope pos) (gS m fr wi g c te):=by
 intro E pins s σ H τ G Q hE I h
 rw [eval_ListComp]
 refine wpAny_comprehension_free (use:=none) rfl hs (k.closed I.inv) k.kind k.names (gC (hi E pins s σ H τ G _ hE I h) fun xv eO sy=>gC sy fun QZ qo NC=>?_)
 obtain⟨it,fp,tn,J,H2,G2,ds,ok,e,pN,m2,T,OR,f2,wk,hz,q⟩:=NC
 subst e
 refine Bz (Rr:=fun acc C=>compPost (model X.prog X.w) X.A X.xe none (t4 X pins σ H G Q) acc C) hc k.cell k.kind k.free k.len k.at' hg SK he (I.mv pN m2) m2 T OR f2 wk hz (fun _ _ z=>z) q ?_
 rintro C s' ⟨mm,H',G',I',HQ,fpC,mv,q'⟩
 refine⟨mm,HQ,fun h' zm=>?_⟩
 obtain⟨f0,f1,_,f3,f4,f5⟩:=fpC
 exact⟨.ref _,H',.ref _,G',I'.turned (t':=s'.toks) (fun b o hb e=>zm.extBut b o hb e) f0 f1 f3 f4 f5,mv,rfl,.ref _,q'⟩
theorem Em{i:Nat}{y:Str}{py Mw:Pos}(hN:X.N.Nodup)(ZY:X.N[i]?=some y)(hy:X.env.scope.names.lookup y=some .local)(hc:X.calm=true)(k:zY X N scope m fr)(hi:O5 X tg iter wi)(hg:∀ C s H fp,LM (dQ X N scope C s H fp) tg g)
  (SK:∀ C s H fp,Tc (dQ X N scope C s H fp) ifs c) (he:∀ C s H fp,gE (dQ X N scope C s H fp) elt te) (Z9:autoParam (DI (.ListComp elt [⟨tg,iter,ifs,0⟩] scope pos) (some (.Name y py)) Mw.line X.env=pure true) Ar._auto_1)
  (hs:autoParam (∀ x,ng iter X.env x=pure x) Ai._auto_1):Gn X (.Assign [.Name y py] (.ListComp elt [⟨tg,iter,ifs,0⟩] scope pos) Mw) (cz (gS m fr wi g c te) (aQ i)):=by
 intro E pins s σ H τ G D hE I h
 rw [exec_Assign_Name_used _ _ _ _ Z9]
 refine aa (wpAny_standAt (aa ?_))
 show wpAny _ X.A (do let _ ← comprehension (.ListComp elt [⟨tg,iter,ifs,0⟩] scope pos) scope X.env _ (newList []) false (eval iter X.env) (some (LY (.Name y py) X.env))) _ _ s
 refine aa (gC (wpAny_comprehension_free (use:=some (LY (.Name y py) X.env)) (Q:=fun _ s'=>Gk X pins H G D .next s') rfl hs (k.closed I.inv) k.kind k.names (gC (hi E pins s σ H τ G _ hE I h) fun xv eO sy=>gC sy fun QZ qo NC=>?_)) fun _ s' hq=>ai (ai hq))
 obtain⟨it,fp,tn,J,H2,G2,ds,ok,e,pN,m2,T,OR,f2,wk,hz,q⟩:=NC
 subst e
 refine Bz (Rr:=fun acc C=>compPost (model X.prog X.w) X.A X.xe (some (LY (.Name y py) X.env)) (fun _ s'=>Gk X pins H G D .next s') acc C) hc k.cell k.kind k.free k.len k.at' hg SK he (I.mv pN m2) m2 T OR f2 wk hz (fun _ _ z=>z) q ?_
 rintro C s' ⟨mm,H',G',I',HQ,fpC,mv,q'⟩
 show wpAny (model X.prog X.w) X.A (LY (.Name y py) X.env (.ref qo.heap.objs.size)) _ X.xe s'
 obtain⟨f0,f1,_,f3,f4,f5⟩:=fpC
 refine wpAny_assign_Name (vO (v:=.ref qo.heap.objs.size) I' hN ZY (.inl hy) rfl (?_) (.inr hy))
 rintro s3 I3 ⟨a,UN,ha⟩
 have hCa:C≠a:=by
  rcases ha with rfl | ha
  ·exact f1
  ·exact fun e=>f4 y a ha e.symm
 refine⟨mm,HQ.sameBut UN hCa,fun h' zm=>?_⟩
 exact⟨_,H',_,G',⟨I3.turned (t':=s3.toks) (fun b o hb e=>zm.extBut b o hb e) f0 f1 f3 f4 f5,(I.st.mono (mv.kp I.ab)).set i (.ref _),mv.ab⟩,mv,q'⟩
theorem e9{i:Nat}{u:Di}{n:Nat}(h:∀ E ds τ G Q,u E ds τ G Q->ds.length=n):∀ E ds τ G Q,g8 (aQ i) u E ds τ G Q->ds.length=n+1 :=
 K7 h (fun _ _ _ _ _ _ q k=>k _ _ q) fun _ _ _ _ q=>q
theorem bW (i:Nat) {x:Str} {pos:Pos} (hN:autoParam (X.N[i]?=some x) Ar._auto_1) (hv:autoParam (WO X.env.scope x) Ao._auto_1) (hd:autoParam ((x == ("__debug__" : Str))=false) Ad._auto_1)
  (E9:autoParam ((x == ("__classdict__" : Str))=false) Ad._auto_1):gE X (.Name x pos) (aw i):=PT hN hv hd E9
theorem range_all(bs:List Bool):(cG bs.length).all (fun i=>bs.getD i true)=bs.all id:=by
 rw [Bool.eq_iff_iff,iA,iA]
 constructor
 ·intro h b hb
  obtain⟨i,hi,e⟩:=dI hb
  have:=h i (List.mem_range.mpr hi)
  rw [aL,ah hi,e] at this
  exact this
 ·intro h i hi
  have Af:=List.mem_range.mp hi
  rw [aL,ah Af]
  exact h _ (bT Af)
theorem yF{K:ag}{H:Hp}:∀ {vs:List V} {bs:List Bool} {bB:List Value},bb K H vs (bs.map D.bl)->Vals vs bB->bB=bs.map Am
 | _,[],_,r,h=>by rw [bh] at r; rw [r.zero] at h; cases h; rfl
 | _,b :: bs,_,r,h=>by
  rw [ax] at r
  cases r with
  | cons r1 r2 =>
   cases r1
   cases h with
   | cons h1 h2 =>
    cases h1
    rw [yF r2 h2]; rfl
theorem HE{pins:List (Addr×Obj)}{s:aq}{σ:L2.St}{H:Hp}{G:Gp}{x:V}{d:D}{v:Value}{zs:List D}(I:Inv X pins σ H s)(ab:kS X.K H G)(rx:RelV x v)(rd:cL X.K H x d)(hi:itemsOf d G=some zs) :
  ∃ l vs bB,v=.ref l/\Vals vs bB/\bb X.K H vs zs/\(s.heap.IsList l bB.toArray\/s.heap.IsTuple l bB.toArray)/\vs.length<=bc:=by
 cases rd with
 | d0 hq rs =>
  cases hi
  cases rx
  obtain⟨bB,rv,pl,hz⟩:=I.list hq.sq
  exact⟨_,_,bB,rfl,rv,rs,.inl pl.isList,hz⟩
 | tup hq rs =>
  cases hi
  cases rx
  obtain⟨bB,rv,pl,hz⟩:=I.tuple (.of hq)
  exact⟨_,_,bB,rfl,rv,rs,.inr pl,hz⟩
 | ref l =>
  unfold itemsOf at hi
  dsimp only at hi
  cases hg:G l with
  | none=>rw [hg] at hi; cases hi
  | some gg =>
   rw [hg] at hi
   cases gg with
   | lst ds =>
    cases hi
    cases rx
    obtain⟨vs,hv,rs⟩:=ab.lst hg
    obtain⟨bB,rv,pl,hz⟩:=I.list (.of hv)
    exact⟨_,_,bB,rfl,rv,rs,.inl pl.isList,hz⟩
   | jn _=>cases hi
 | _=>cases hi
theorem Le (hc:X.calm=true):wU X (.builtin "all") S6:=by
 intro pins s σ H G xs ds us Q I ab rx rd q
 unfold S6 at q
 split at q
 ·rename_i x
  obtain⟨bs,hb,q⟩:=q
  obtain⟨v,rfl,r⟩:=rd.one
  obtain⟨u,rfl,ru⟩:=rx.one
  obtain⟨l,vs,bB,rfl,rv,rs,hl,hz⟩:=HE I ab ru r hb
  have ei:=yF rs rv
  have hlen:bB.length=bs.length:=by rw [ei,aj]
  have my:∀ {o:Obj},s.heap.get? l=some o->l≠s.heap.objs.size:=fun e=>bL (aK e)
  have tr:TruthOf X.prog X.w X.A.in1 (fun i v=>bB.toArray[i]?=some v) (fun i=>bs.getD i true):=fun i v s' Q' E' hv hq=>by
   subst ei
   have UJ:(bs.map Am)[i]?=some v:=by simpa using hv
   rw [bu] at UJ
   cases WB:bs[i]? with
   | none=>rw [WB] at UJ; cases UJ
   | some b =>
    rw [WB] at UJ
    cases UJ
    dsimp only at hq
    rw [aL,WB] at hq
    exact ua hq
  have fin:∀ h' tk,(∀ b o,b∉[s.heap.objs.size]->s.heap.get? b=some o->h'.get? b=some o)->t4 X pins σ H G Q (.bool ((cG bB.toArray.size).all fun i=>bs.getD i true)) { s with heap:=h',toks:=tk }:=fun h' tk hk=>by
   rw [aP,hlen,range_all]
   exact⟨.bl _,H,.bl _,G,I.kept fun b o e=>hk b o (by simpa using bL (aK e)) e,.refl ab,rfl,.bl _,q⟩
  rcases hl with hl | hl
  ·refine call_all_walk (Gs hl ?_)
   obtain⟨o,ho,K4,n,hd⟩:=id hl
   exact⟨s.heap.objs.size,_,_,_,_,_,_,rfl,Walks.list (A:=X.A.in1) (show X.A.in1.handled=none from I.ok.hd hc) _ l (my ho) bB.toArray,⟨⟨_,bw _ rfl,rfl,rfl⟩,⟨o,aI _ ho,K4,n,hd⟩⟩,tr,fun h' tk hk=>fin h' tk fun b o hb e=>hk b o hb (aI _ e)⟩
  ·refine call_all_walk (wpAny_pyIter_tuple hl ?_)
   obtain⟨o,ho,K4,n,hd⟩:=id hl
   exact⟨s.heap.objs.size,_,_,_,_,_,_,rfl,Walks.tuple (A:=X.A.in1) (show X.A.in1.handled=none from I.ok.hd hc) _ l (my ho) bB.toArray,⟨⟨_,bw _ rfl,rfl,rfl⟩,⟨o,aI _ ho,K4,n,hd⟩⟩,tr,fun h' tk hk=>fin h' tk fun b o hb e=>hk b o hb (aI _ e)⟩
 ·exact q.elim
theorem MP{body:List Stmt}{t2:iz}(h:vz X body t2){E:kc}(hE:Lk X E):TG X body (fun D σ H=>∃ (τ:gY) (G:Gp) (D2:jW),Lq X.K H σ τ/\kS X.K H G/\t2 E D2 τ G /\
  (∀ jx H' oq G',Mv X.K H G H' G'->D2.nx oq G'->D.nx jx H')/\(∀ v H' d G',Mv X.K H G H' G'->cL X.K H' v d->D2.rt d G'->D.rt v H')/\(∀ τ G,¬ D2.bk τ G)/\(∀ τ G,¬ D2.ct τ G)):=by
 rintro pins s σ H D I ⟨τ,G,D2,st,ab,q,k1,k2,k3,k4⟩
 refine gC (h E pins s σ H τ G D2 hE ⟨I,st,ab⟩ q) fun f s1 z=>?_
 cases f with
 | next=>obtain⟨jx,H',oq,G',J,mv,z⟩:=z; exact⟨jx,H',J.inv,k1 jx H' oq G' mv z⟩
 | brk=>obtain⟨jx,H',oq,G',J,mv,z⟩:=z; exact(k3 _ _ z).elim
 | cont=>obtain⟨jx,H',oq,G',J,mv,z⟩:=z; exact(k4 _ _ z).elim
 | ret u=>obtain⟨v,jx,H',d,G',J,mv,r,rd,z⟩:=z; exact⟨v,jx,H',J,r,k2 v H' d G' mv rd z⟩
theorem D1{K:ag}{H:Hp}{Nn:List Str}{vs:List V}{ds:List D}(r:bb K H vs ds):Lq K H (L2.start Nn vs) (bM Nn.length ds):=by
 unfold L2.start bM
 refine⟨by simp [r.length],fun i d h=>?_⟩
 by_cases hi:i < ds.length
 ·rw [cW (by simpa using hi),bu] at h
  cases hd:ds[i]? with
  | none=>rw [hd] at h; cases h
  | some d' =>
   rw [hd] at h
   have e:d'=d:=by simpa using h
   subst e
   obtain⟨v,h1,h2⟩:=r.get hd
   refine⟨v,?_,h2⟩
   rw [cW (by simpa [r.length] using hi),bu,h1]; rfl
 ·rw [bZ (by simpa using hi),kN] at h
  split at h <;> cases h
theorem Qs{P:bP}{w:World}{K:ag}{mg:Str->Option Value}{base:Heap}{x qual:Str}{st:Stmt}{f:Addr}{fd:aW}{Nn ps:List Str}{k:Nat}{sp:mz}{rd:iz}(F:pU K x qual st f fd)(S:cN Nn ps (aG st))(len:∀ ds G Q E,sp ds G Q E->ds.length=ps.length)
  (hr:∀ ds G Q,sp ds G Q (fun _ _=>False)->rd (fun _ _=>False) (ends Q) (bM Nn.length ds) G)
  (hb:∀ (nC:Value) (A:dh) (outer:List Env) (s:aq) (H:Hp) (E:XK),jT k (A.deeper (yj qual (aG st) s.heap.objs.size f nC))->vz (wI jf P w K mg base Nn qual (aG st) f nC A outer s H E).To (cC st) rd):dc P w K mg base jf (k+1) f fd ps (d4 K sp):=by
 refine F.ok S ((by rintro vs H Q E ⟨ds,G,Q2,r,ab,q,_⟩; exact by rw [r.length]; exact len _ _ _ _ q)) ?_
 rintro nC A outer s H vs Q E NI ⟨ds,G,Q2,r,ab,q,kk⟩
 refine⟨_,MP (hb nC A outer s H E NI) (E:=fun _ _=>False) (Lk.none fun _ _ z=>z),?_⟩
 exact⟨bM Nn.length ds,G,ends Q2,D1 r,ab,hr ds G Q2 q,fun jx H' oq G' mv z=>kk _ _ _ _ z mv .cY,fun v H' d G' mv RU z=>kk _ _ _ _ z mv RU,fun _ _ z=>z,fun _ _ z=>z⟩
noncomputable def Xz(scope sc:Scope):List (Str×sG):=scope.names.map fun (n,k)=>if (k == .free&&sc.kind == .function&&sc.names.lookup n == some .cell) then (n,.cell) else (n,k)
noncomputable def yd(N:List Str)(scope:Scope)(m:Nat)(fr:List Nat)(sc:Scope)(XN:List Str):Bool :=
 scope.names.all (fun y=>decide (y.2≠.cell))&&decide (scope.kind=.function)&&scope.names.all (fun y=>!decide (y.2=.local)||decide (scope.names.lookup y.1=some .local)) &&
 scope.names.all (fun y=>!decide (y.2=.free)||decide (sc.names.lookup y.1=some .cell))&&decide (N.length=m+fr.length) &&
 (cG fr.length).all (fun j=>match fr[j]?,N[m+j]? with
  | some i,some x=>decide (XN[i]?=some x)&&decide (sc.names.lookup x=some .cell)&&decide ((Xz scope sc).lookup x=some .cell)
  | _,_=>false)
theorem BA{sc:Scope}{XN:List Str}(UM:X.env.scope=sc)(Vb:X.N=XN)(hb:yd N scope m fr sc XN=true):zY X N scope m fr:=by
 subst UM Vb
 unfold yd at hb
 simp only [aH] at hb
 obtain⟨⟨⟨⟨⟨h1,h2⟩,h3⟩,h4⟩,h5⟩,h6⟩:=hb
 refine⟨fun y hy=>of_decide_eq_true (List.all_eq_true.mp h1 y hy),of_decide_eq_true h2,fun y hy hl=>?_,fun y hy hl=>?_,of_decide_eq_true h5,fun j i x e1 e2=>?_⟩
 ·have:=List.all_eq_true.mp h3 y hy
  simp only [hl,decide_true,bO,Lz] at this
  exact of_decide_eq_true this
 ·have:=List.all_eq_true.mp h4 y hy
  simp only [hl,decide_true,bO,Lz] at this
  exact of_decide_eq_true this
 ·have hj:j < fr.length:=(List.getElem?_eq_some_iff.mp e1).1
  have:=List.all_eq_true.mp h6 j (List.mem_range.mpr hj)
  rw [e1,e2] at this
  simp only [aH] at this
  exact⟨of_decide_eq_true this.1.1,of_decide_eq_true this.1.2,of_decide_eq_true this.2⟩
theorem qF(N:List Str){sc:Scope}{XN:List Str}(hi:O5 X tg iter wi)(hg:∀ C s H fp,LM (dQ X N scope C s H fp) tg g)(SK:∀ C s H fp,Tc (dQ X N scope C s H fp) ifs c)(he:∀ C s H fp,gE (dQ X N scope C s H fp) elt te)
  (UM:autoParam (X.env.scope=sc) Ar._auto_1) (Vb:autoParam (X.N=XN) Ar._auto_1) (hb:autoParam (yd N scope m fr sc XN=true) Ak._auto_1) (hc:autoParam (X.calm=true) Ar._auto_1) (hs:autoParam (∀ x,ng iter X.env x=pure x) Ai._auto_1):gE X (.ListComp elt [⟨tg,iter,ifs,0⟩] scope pos) (gS m fr wi g c te) :=
 KG hc (BA UM Vb hb) hi hg SK he hs
theorem uP(N:List Str){sc:Scope}{XN:List Str}{i:Nat}{y:Str}{py Mw:Pos}(hN:X.N.Nodup)(ZY:X.N[i]?=some y)(hy:X.env.scope.names.lookup y=some .local)(hi:O5 X tg iter wi)(hg:∀ C s H fp,LM (dQ X N scope C s H fp) tg g)
  (SK:∀ C s H fp,Tc (dQ X N scope C s H fp) ifs c) (he:∀ C s H fp,gE (dQ X N scope C s H fp) elt te) (UM:autoParam (X.env.scope=sc) Ar._auto_1) (Vb:autoParam (X.N=XN) Ar._auto_1) (hb:autoParam (yd N scope m fr sc XN=true) Ak._auto_1) (hc:autoParam (X.calm=true) Ar._auto_1)
  (Z9:autoParam (DI (.ListComp elt [⟨tg,iter,ifs,0⟩] scope pos) (some (.Name y py)) Mw.line X.env=pure true) Ar._auto_1) (hs:autoParam (∀ x,ng iter X.env x=pure x) Ai._auto_1) :
  Gn X (.Assign [.Name y py] (.ListComp elt [⟨tg,iter,ifs,0⟩] scope pos) Mw) (cz (gS m fr wi g c te) (aQ i)) :=
 Em hN ZY hy hc (BA UM Vb hb) hi hg SK he Z9 hs
theorem KS{K:ag}{H:Hp}{a:Addr}{ns:List Int}(hO:QH H)(hS:pM K H a (ns.map V.int))(hl:ns.length<=63):d4 K AZ [.ref a] H (fun v _=>v=.bl true) fun _ _ _=>False:=by
 have hF:TF K H a (ns.map V.int):=by
  rcases hS with (h | ⟨o,h⟩) | h
  ·rcases hO a with z | ⟨o,xs,z⟩
   ·rw [z] at h; cases h
   ·rw [z] at h; cases h
  ·exact .inl ⟨o,h⟩
  ·exact .inr h
 refine⟨[.d0 (ns.map D.int)],fun _=>none,fun d _=>d=.bl true,.cons (.d0 hF (bb.Cr ns)) .nil,fun a g e=>(by cases e),⟨ns,rfl,hl,fun _=>rfl,fun _=>rfl⟩,fun d G' v H' e mv r=>?_⟩
 subst e
 cases r
 rfl
theorem Nj{l:BL}{q:bP}{loose:List Str}{XP:(Str->Option Value)->Heap->Prop}{YP:World->Heap->Prop}{d:DefRec}{K:Params->ag}{k:Nat}{x:Str}(hn:l.most=some 63)(U6:d.params.defaults=[])(hr:jT k Gz)
  (hY:∀ (w:World) (h:Heap),YP w h->(K w.params).In h)
  (F:∀ (w:World) (mg:Str->Option Value) (fa:Addr) (h:Heap),(K w.params).In h->h.Ns aN mg->mg d.name=some (.ref fa) ->
   ∃ fd:aW,(∀ (s:aq) (u:Value),L9 s fd ⟨[u],[]⟩ [(x,u)])/\∀ base:Heap,(K w.params).In base->base.Ns aN mg->dc l.prog w (K w.params) mg base jf k fa fd [x] (d4 (K w.params) AZ)) :
  PySem.W.WalkO q loose XP YP l.row.toRowW d [] (fun f vs=>PySem.call f vs) :=
 L2.Ph (n:=63) (k:=k) (x:=x) (CX:=fun _=>jf) (sp:=fun w=>d4 (K w.params) AZ) hn (by decide) U6 hr hY F (fun _ _ _ _ hl hO hS=>KS hO hS hl) fun _ _ _ _ _ z=>z
end
end K2
end
section
namespace K2
open PySem PySem.Spec PyProof.Rows L2
noncomputable def Oo:HO->Bool
 | .lst _=>true
 | .dK _=>true
 | .dT _=>true
 | _=>false
noncomputable def nX(h:Heap)(S:Addr->Bool)(H:Hp):Hp:=fun a=>match H a with
 | some u=>if (Oo u&&S a)=true then (match h.get? a with
  | some o=>some (.kQ o u)
  | none=>some u) else some u
 | none=>none
section
variable {h:Heap} {S:Addr->Bool} {H:Hp} {a:Addr}
theorem HX(n:∀ u,H a=some u->Oo u=false):nX h S H a=H a:=by
 unfold nX
 cases e:H a with
 | none=>rfl
 | some u=>simp only [n u e,pX,aB,if_false]
theorem zt(hs:S a=false):nX h S H a=H a:=by
 unfold nX
 cases e:H a with
 | none=>rfl
 | some u=>simp only [hs,xw,aB,if_false]
theorem ya{u:HO}{o:Obj}(hs:S a=true)(e:H a=some u)(hu:Oo u=true)(ho:h.get? a=some o):nX h S H a=some (.kQ o u):=by
 unfold nX
 simp only [e,hs,hu,Bool.and_self,if_true,ho]
theorem nW(e:H a=none):nX h S H a=none:=by unfold nX; rw [e]
theorem mW{u:HO}(e:H a=some u)(hu:Oo u=false):nX h S H a=some u:=by rw [HX (fun v z=>by rw [e] at z; cases z; exact hu)]; exact e
theorem vi:Kp H (nX h S H):=⟨fun a xs e=>mW e rfl,fun a o u e=>mW e rfl⟩
end
section
variable {X:Cx} {pins:List (Addr×Obj)} {σ:L2.St} {H:Hp} {s:aq} {G:Gp}
theorem Inv.freeze(I : Inv X pins σ H s)(S : Addr → Bool) : Inv X pins σ (nX s.heap S H) s where
  ok := I.ok
  os := I.os
  bare := I.bare
  base := { keep := I.base.keep, slot := I.base.slot, there := I.base.there
            free := fun b o q n hx => nW (I.base.free b o q n hx)
            tx := fun b xs q => mW (I.base.tx b xs q) rfl
            sC := fun b o u q => mW (I.base.sC b o u q) rfl
            vN := fun b ps q => by
              obtain⟨more, e⟩ := I.base.vN b ps q
              exact⟨more, mW e rfl⟩ }
  loc := I.loc
  cell := I.cell
  free := nW I.free
  jt := fun x c e => nW (I.jt x c e)
  pin := fun p hp => let ⟨h1, h2, h3⟩ := I.pin p hp; ⟨h1, nW h2, h3⟩
  cM := fun a o q => by
    have st : ∀ u, H a = some u → gu X.prog X.w (nX s.heap S H) s.heap a u := fun u e =>
      (I.cM a u e).iM (fun b v _ r => r) (fun b r => mW r rfl) (fun b xs r => mW r rfl)
    cases e : H a with
    | none => rw [nW e] at q; cases q
    | some u =>
      by_cases hc : Oo u = true
      · by_cases hs : S a = true
        · obtain⟨ob, ho⟩ := nQ (I.cM a _ e)
          rw [ya hs e hc ho] at q
          cases q
          exact⟨ho, st _ e⟩
        · rw [zt (by simpa using hs), e] at q
          cases q
          exact st _ e
      · rw [mW e (by simpa using hc)] at q
        cases q
        exact st _ e
  len := I.len
noncomputable def pB(R:Nat->Bool)(G:Gp):Addr->Bool:=fun a=>R a&&(G a).isSome
theorem Br(I:Inv X pins σ H s)(ab:kS X.K H G)(R:Nat->Bool):Mv X.K H G (nX s.heap (pB R G) H) (Fs R G) where
 keep:=fun a o e n=>by
  refine⟨by rw [zt (by simp [pB,n])]; exact e,?_⟩
  unfold Fs; split
  ·rfl
  ·exact n
 iM:=fun a n=>by
  cases q:G a with
  | none=>exact absurd q n
  | some g =>
   have t:=(ab a g q).tracked
   cases e:H a with
   | none=>exact absurd e t
   | some u =>
    unfold nX
    rw [e]
    dsimp only
    split
    ·split <;> simp
    ·simp
 ab:=fun a g e=>by
  unfold Fs at e
  split at e
  ·cases e
  ·rename_i hr
   exact(ab a g e).mono vi (zt (by simp [pB,hr]))
theorem N0(I:Inv X pins σ H s)(ab:kS X.K H G){R:Nat->Bool}:∀ {d t:D} {v:V},Fz G R d t->cL X.K H v d->cL X.K (nX s.heap (pB R G) H) v t:=by
 intro d t v h
 revert v
 refine Fz.rec (motive_1:=fun d t _=>∀ {v:V},cL X.K H v d->cL X.K (nX s.heap (pB R G) H) v t)
  (motive_2:=fun ds ts _=>∀ {vs:List V},bb X.K H vs ds->bb X.K (nX s.heap (pB R G) H) vs ts)
  (motive_3:=fun ds ts _=>(∀ {vs:List (Key×V)},oh X.K H vs ds->oh X.K (nX s.heap (pB R G) H) vs ts)/\∀ {vs:List (List Key×V)},kR X.K H vs ds->kR X.K (nX s.heap (pB R G) H) vs ts)
  ?_ ?_ ?_ ?_ ?_ ?_ ?_ ?_ ?_ h
 ·intro d v r; exact r.mono vi
 ·intro ds ss _ ih v r
  cases r with
  | tup h rs=>exact .tup (vi.tup _ _ h) (ih rs)
 ·intro ds ss _ ih v r
  cases r with
  | d0 h rs=>exact .d0 (vi.RM h) (ih rs)
 ·intro a ds ss g hr _ ih v r
  cases r
  obtain⟨vs,hv,rs⟩:=ab a _ g
  obtain⟨ob,ho⟩:=nQ (I.cM a _ hv)
  exact .d0 (.inl ⟨_,ya (by simp [pB,hr,g]) hv rfl ho⟩) (ih rs)
 ·intro a ds ss g hr _ ih v r
  cases r
  rcases ab a _ g with ⟨kv,hv,rs⟩ | ⟨kv,hv,rs⟩
  ·obtain⟨ob,ho⟩:=nQ (I.cM a _ hv)
   exact .pR (ya (by simp [pB,hr,g]) hv rfl ho) (ih.1 rs)
  ·obtain⟨ob,ho⟩:=nQ (I.cM a _ hv)
   exact .pQ (ya (by simp [pB,hr,g]) hv rfl ho) (ih.2 rs)
 ·intro vs r; cases r; exact .nil
 ·intro d s ds ss _ _ i1 i2 vs r
  cases r with
  | cons r rs=>exact .cons (i1 r) (i2 rs)
 ·exact⟨fun r=>by cases r; exact .nil,fun r=>by cases r; exact .nil⟩
 ·intro k d s ds ss _ _ i1 i2
  exact⟨fun r=>by cases r with | cons r rs=>exact .cons (i1 r) (i2.1 rs),fun r=>by cases r with | cons r rs=>exact .cons (i1 r) (i2.2 rs)⟩
variable {e:Expr} {te:fW} {st:Stmt} {t:iz}
theorem dw(he:gE X e te):gE X e (h8 te):=by
 intro E pins s σ H τ G Q hE I h
 refine gC (he E pins s σ H τ G _ hE I h) ?_
 rintro u s1 ⟨v,H1,d,G1,I1,m,r,rd,R,t,hf,q⟩
 exact⟨v,_,t,_,Inv.freeze I1 _,m.trans (Br I1 m.ab R),r,N0 I1 m.ab hf rd,q⟩
theorem PO{i:Nat}(h1:Gn X st t):Gn X st (S2 i t):=by
 intro E pins s σ H τ G D hE I h
 refine gC (h1 E pins s σ H τ G _ hE I h) fun f s1 z=>?_
 cases f with
 | next =>
  obtain⟨jx,H',oq,G',I',m,q⟩:=z
  simp only at q
  split at q
  ·rename_i d hd
   obtain⟨R,t,hf,q⟩:=q
   obtain⟨v,hv,rv⟩:=I'.st.at' i d hd
   have a1:=(I'.st.mono (H':=nX s1.heap (pB R G') H') vi).set i (N0 I'.inv I'.ab hf rv)
   have es:jx.set i (some v)=jx:=by
    have hi:i < jx.length:=(List.getElem?_eq_some_iff.mp hv).1
    have e2:=(List.getElem?_eq_some_iff.mp hv).2
    rw [← e2]; exact List.set_getElem_self hi
   rw [es] at a1
   have m2:=Br I'.inv I'.ab R
   exact⟨jx,_,_,_,⟨Inv.freeze I'.inv _,a1,m2.ab⟩,m.trans m2,q⟩
  ·exact q.elim
 | ret v=>exact z
 | brk=>exact z
 | cont=>exact z
end
end K2
end
section
namespace K2
open PySem PySem.Spec PyProof.Rows L2
theorem tW:fy "len" = some (.builtin "len"):=by decide +kernel
theorem S9:fy "all" = some (.builtin "all"):=by decide +kernel
theorem BC:fy "sorted" = some (.builtin "sorted"):=by decide +kernel
theorem JU:fy "list" = some (.type "list"):=by decide +kernel
section
variable {X:Cx} {a b c e o:Expr} {es:List Expr} {ta tb tc te to:fW} {t:Ah} {pos p p2 apos iQ:Pos} {x name:Str} {id T:String} {k:Nat} {f:Addr} {fd:aW} {ps:List Str} {sp:mz}
theorem bN(F:dc X.prog X.w X.K X.mg X.base jf k f fd ps (d4 X.K sp))(hr:jT k X.A)(hg:Gl X x)(hm:X.mg x=some (.ref f))(hk:ar X.K (.ref f)=true)(hb:Binds X.K fd ps [])
  (ha:DH X (e :: es) t) (CM:autoParam ((x == ("__debug__" : Str))=false) Ad._auto_1) (he:autoParam (bK (e :: es) X.env=(false,eval e X.env) :: bK es X.env) Ar._auto_1) (Bm:autoParam ((iV pos (bK es X.env)).any (·.1)=false) Ar._auto_1) :
  gE X (.Call (.Name x p) (e :: es) [] pos) (cg sp t):=MY F hr hg hm hk hb ha CM he Bm
end
end K2
end
section
namespace L2
open PySem PySem.Spec PyProof.Rows
section
variable {X:Cx} {pins:List (Addr×Obj)} {σ:St} {H:Hp} {s:aq} {h':Heap}
theorem Inv.xW{t':Nat}{fp:List Addr}(I:Inv X pins σ H s)(hf:∀ b∈fp,oa X pins H b)(k:∀ b o,b∉fp->s.heap.get? b=some o->h'.get? b=some o):Inv X pins σ H { s with heap:=h',toks:=t' }:=by
 have nt:∀ b u,H b=some u->b∉fp:=fun b u e z=>by rw [(hf b z).1] at e; cases e
 refine I.step (g':=s.gens) (d':=s.drawn) (ch:=fp) (fun b hb=>?_) (fun b o _ _ hc e _=>k b o hc e) (fun b o _ _ hc e _=>⟨o.slots,k b o hc e⟩) (fun _ _ _ _ n=>n)
  (fun b o hc e=>⟨o,k b o hc e⟩) (fun _ _ e=>e) (fun _ _ _ e=>e) (fun b ps e=>⟨#[],by rw [e]; simp⟩) (fun m hm=>?_) (fun b u e=>?_) I.bare
 ·obtain⟨f0,f1,f2,f3,f4,f5⟩:=hf b hb
  exact⟨f3,f1,f4,f5⟩
 ·obtain⟨o,es,ep,ho,r⟩:=hm
  exact⟨o,es,ep,k _ _ (fun z=>(hf _ z).2.1 rfl) ho,r⟩
 ·refine(I.cM b u e).iM (fun c v hc r=>k c v ?_ r) (fun _ z=>z) (fun _ _ z=>z)
  rcases hc with rfl | hc
  ·exact nt _ _ e
  ·exact nt _ _ hc
theorem Inv.IT{t':Nat}{fp:List Addr}{T:Addr}{vs:List V}(I:Inv X pins σ H s)(hf:∀ b∈fp,oa X pins H b)(k:∀ b o,b∉fp->s.heap.get? b=some o->h'.get? b=some o)(hT:s.heap.objs.size<=T)
  (new:gu X.prog X.w (upd H T (.tup vs)) h' T (.tup vs)):Inv X pins σ (upd H T (.tup vs)) { s with heap:=h',toks:=t' }:=by
 have hn:H T=none:=I.cM.fresh hT
 have ht:∀ b o,s.heap.get? b=some o->b≠T:=fun b o e z=>by subst z; exact absurd (aK e) (Nat.not_lt.mpr hT)
 have nt:∀ b u,H b=some u->b∉fp:=fun b u e z=>by rw [(hf b z).1] at e; cases e
 have ne:∀ b u,H b=some u->b≠T:=fun b u e=>ef e hn
 refine I.step (g':=s.gens) (d':=s.drawn) (ch:=fp) (fun b hb=>?_) (fun b o _ _ hc e _=>k b o hc e) (fun b o _ _ hc e _=>⟨o.slots,k b o hc e⟩) (fun b o _ e n=>by rw [bU (ht b o e)]; exact n)
  (fun b o hc e=>⟨o,k b o hc e⟩) (fun b xs e=>by rw [bU (ne _ _ e)]; exact e) (fun b o u e=>by rw [bU (ne _ _ e)]; exact e) (fun b ps e=>⟨#[],by rw [bU (ne _ _ e),e]; simp⟩) (fun m hm=>?_) (fun b u e=>?_) I.bare
 ·obtain⟨f0,f1,f2,f3,f4,f5⟩:=hf b hb
  exact⟨f3,f1,f4,f5⟩
 ·obtain⟨o,es,ep,ho,r⟩:=hm
  exact⟨o,es,ep,k _ _ (fun z=>(hf _ z).2.1 rfl) ho,r⟩
 ·by_cases hb:b=T
  ·subst hb; rw [cR] at e; cases e; exact new
  ·rw [bU hb] at e
   refine(I.cM b u e).iM (fun c v hc r=>k c v ?_ r) (fun c z=>by rw [bU (ne _ _ z)]; exact z) (fun c xs z=>by rw [bU (ne _ _ z)]; exact z)
   rcases hc with rfl | hc
   ·exact nt _ _ e
   ·exact nt _ _ hc
theorem oa.upd{b T:Addr}{o:HO}(h:oa X pins H b)(hb:b≠T):oa X pins (L2.upd H T o) b:=by
 obtain⟨f0,r⟩:=h
 exact⟨by rw [bU hb]; exact f0,r⟩
end
noncomputable def Ite(K:ag)(a:Addr):It :=
  ⟨fun i H=>∃ xs x,pM K H a xs/\xs[i]?=some x,
   fun i H v H'=>∃ T y,v=.ref T/\H T=none/\H'=upd H T (.tup [.int i,y])/\∀ xs,pM K H a xs->xs[i]?=some y,
   fun i H=>∃ xs,pM K H a xs/\xs.length<=i⟩
theorem Ke{P:bP}{w:World}{K:ag}{elts:List Expr}{kk:Nat}{pos:Pos}(a e it:Addr)(my:e≠it) :
  Turn P w K (.Tuple elts kk pos) (Ite K a) [e,it] e (fun i h=>(∃ old,IsEnum h e it i old)/\h.IsListIter it a i) where
 mem:=by simp
 obj:=fun i h zq b hb=>by
  obtain⟨⟨old,he⟩,hit⟩:=zq
  rcases List.mem_cons.mp hb with rfl | hb
  ·exact⟨_,he,fun v z=>by cases z⟩
  ·have e:b=it:=by simpa using hb
   subst e
   obtain⟨o,e,c,d⟩:=hit
   exact⟨o,e,fun v z=>by rw [d] at z; cases z⟩
 keep:=(by rintro i h h' ⟨⟨old,he⟩,hit⟩ k; exact⟨⟨old,k e (by simp) _ he⟩,hit.at fun o q=>k it (by simp) o q⟩)
 item:=by
  intro X hP hw hK hc i pins s σ H E I hf st hg
  obtain⟨⟨old,he⟩,hit⟩:=st
  subst hP hw hK
  obtain⟨xs,x,hq,hx⟩:=hg
  obtain⟨bB,rv,p,hz⟩:=I.list hq
  obtain⟨u,hu,ru⟩:=rv.get hx
  have hTn:H s.heap.objs.size=none:=I.cM.fresh (aF _)
  have heT:e≠s.heap.objs.size:=bL (aK he)
  have hiT:it≠s.heap.objs.size:=by obtain⟨o,q,_⟩:=hit; exact bL (aK q)
  refine wpAny_pyNext_enum_item he hit p.isList (x:=u) (by simpa using hu) my fun h' ho aao hT hsz kk=>?_
  refine⟨_,rfl,?_⟩
  have I1:Inv X pins σ (upd H s.heap.objs.size (.tup [.int i,x])) { s with heap:=h',toks:=s.toks+1 } :=
   I.IT (fp:=[e,it]) hf (fun b o hb q=>kk b o (fun z=>hb (by simp [z])) (fun z=>hb (by simp [z])) q) (aF _)
    ⟨by show 2<=bc; decide,[.int i s.toks,u],.cons ⟨_,rfl⟩ (.cons ru .nil),⟨_,hT,rfl,_,rfl⟩⟩
  refine wpAny_letOwnedTupleGo_enum (s:={ s with heap:=h',toks:=s.toks+1 }) ho fun h2 he2 CK=>?_
  have f1:∀ b∈[e,it],oa X pins (upd H s.heap.objs.size (.tup [.int i,x])) b:=fun b hb=>(hf b hb).upd (by
   rcases List.mem_cons.mp hb with rfl | hb
   ·exact heT
   ·rw [List.mem_singleton.mp hb]; exact hiT)
  have I2:Inv X pins σ (upd H s.heap.objs.size (.tup [.int i,x])) { s with heap:=h2,toks:=s.toks+1 } :=
   Inv.xW (s:={ s with heap:=h',toks:=s.toks+1 }) (t':=s.toks+1) (fp:=[e,it]) I1 f1 fun b o hb q=>(CK.2 b (fun z=>hb (by simp [z]))).trans q
  refine⟨.ref s.heap.objs.size,_,I2,rfl,⟨_,x,rfl,hTn,rfl,fun ys hy=>by rw [I.uW hy hq]; exact hx⟩,⟨⟨u,?_⟩,?_⟩,fun b hb=>(f1 b hb).1⟩
  ·simpa using he2
  ·exact aao.at fun o q=>(CK.2 it (fu my)).trans q
 done:=by
  intro X hP hw hK hc i pins s σ H E I hf st hg
  obtain⟨⟨old,he⟩,hit⟩:=st
  subst hP hw hK
  obtain⟨xs,hq,hx⟩:=hg
  obtain⟨bB,rv,p,hz⟩:=I.list hq
  have hl:=rv.length
  refine wpAny_pyNext_enum_end (I.ok.hd hc) he hit p.isList (by simp; lia) fun h' eb=>⟨rfl,?_⟩
  exact I.xW (t':=s.toks) (fp:=[e,it]) hf fun b o hb q=>eb b o (fun z=>hb (by simp [z])) q
 self:=(by rintro A i s Q E ⟨⟨old,he⟩,_⟩ h; exact wpAny_pyIter_enum he h)
end L2
namespace K2
open PySem PySem.Spec PyProof.Rows L2
section
variable {X:Cx} {elts:List Expr} {kk:Nat} {Mm:Pos} {a b:Expr} {ta tb:fW} {pos p:Pos}
theorem JG{pins:List (Addr×Obj)}{σ:L2.St}{H H1:Hp}{G G1:Gp}{s1:aq}{l:Addr}{vs:List V}{ds:List D}{ok:Gp->Prop}{R:List D->(Gp->Prop)->Gp->Prop}(I1:Inv X pins σ H1 s1)(m:Mv X.K H G H1 G1)(hq:pM X.K H1 l vs)
  (hk:∀ H2 G2,Kp H1 H2->kS X.K H2 G2->ok G2->∃ ws,pM X.K H2 l ws/\bb X.K H2 ws ds) (q:R (mf 0 ds) ok G1) :
  wpAny (model X.prog X.w) X.A (call (.type "enumerate") [.ref l]) (fun v s2=>wpAny (model X.prog X.w) X.A (AM v) (Iv X pins σ (.Tuple elts kk Mm) H G R) X.xe s2) X.xe s1:=by
 obtain⟨bB,rv,pl,hz⟩:=I1.list hq
 refine call_enumerate_list pl.isList fun h' he hit hsz kp=>?_
 refine wpAny_pyIter_enum he ?_
 refine⟨_,[s1.heap.objs.size+1,s1.heap.objs.size],_,_,H1,G1,mf 0 ds,ok,rfl,I1.kept (t':=s1.toks) kp,m,Ke l _ _ (Nat.succ_ne_self _),⟨⟨_,he⟩,hit⟩,fun b hb=>?_,fun i H2 G2 k ab o=>?_,q⟩
 ·have K5:s1.heap.objs.size<=b:=by
   rcases List.mem_cons.mp hb with rfl | hb
   ·lia
   ·rw [List.mem_singleton.mp hb]; exact aF _
  exact I1.HY K5 (I1.cM.fresh K5)
 ·obtain⟨ws,hw,rd⟩:=hk H2 G2 k ab o
  refine⟨fun d hd=>?_,fun hl=>⟨ws,hw,by rw [rd.length,← Bu ds 0]; exact hl⟩⟩
  rw [Bv] at hd
  cases hdi:ds[i]? with
  | none=>rw [hdi] at hd; cases hd
  | some d' =>
   rw [hdi] at hd
   obtain⟨v,hv,r⟩:=rd.get hdi
   refine⟨⟨ws,v,hw,hv⟩,?_⟩
   rintro x H3 ⟨T,y,ex,hT,e3,hy⟩
   subst ex e3
   have:=hy ws hw
   rw [hv] at this
   cases this
   have ed:D.tup [.int ((0+i:Nat):Int),d']=d:=by simpa using hd
   subst ed
   refine⟨.tup cR (.cons (by rw [gz]; exact .int _) (.cons (r.mono (.new hT)) .nil)),.LG ab hT⟩
theorem C8:fy "enumerate" = some (.type "enumerate"):=by decide +kernel
theorem S8:fy "zip" = some (.type "zip"):=by decide +kernel
theorem yM (hg:Gl X "enumerate") (hm:X.mg "enumerate" = none) (ha:gE X a ta) (hs:autoParam (bK [a] X.env=[(false,eval a X.env)]) Ar._auto_1):O5 X (.Tuple elts kk Mm) (.Call (.Name "enumerate" p) [a] [] pos) (zk ta):=by
 intro E pins s σ H τ G R hE I h
 have hA:DH X [a] (aA ta bC):=ao ha aO hs
 refine Call_ (oZ I.inv hg hm C8 (d6 (xx hA pos hE I (R:=X7 fun x G1=>u5 x G1 R) h fun vs H1 ds G1 us s1 I1 m1 r1 jS q1=>?_) hs rfl))
 match ds,q1 with
 | [x],q1 =>
  change u5 x G1 R at q1
  obtain⟨w,rfl,Ku⟩:=jS.one
  obtain⟨u,rfl,ru⟩:=r1.one
  cases Ku with
  | d0 hq rs=>cases ru; exact JG I1.inv m1 hq.sq (fun H2 G2 k ab _=>⟨_,(k.RM hq).sq,rs.mono k⟩) q1
  | ref p =>
   cases ru
   unfold u5 at q1
   dsimp only at q1
   split at q1
   ·rename_i ds e
    obtain⟨vs,hv,rs⟩:=I1.ab.lst e
    refine JG I1.inv m1 (.of hv) (fun H2 G2 k ab o=>?_) q1
    obtain⟨ws,hw,tD⟩:=ab.lst o
    exact⟨ws,.of hw,tD⟩
   ·exact q1.elim
  | tup _ _=>exact q1.elim
  | pR _ _=>exact q1.elim
  | pQ _ _=>exact q1.elim
  | cY=>exact q1.elim
  | bl _=>exact q1.elim
  | int _=>exact q1.elim
  | str _=>exact q1.elim
  | exc _=>exact q1.elim
 | [],q1=>exact q1.elim
 | _ :: _ :: _,q1=>exact q1.elim
end
end K2
end
section
namespace K2
open PySem PySem.Spec PyProof.Rows L2
section
variable {X:Cx} {o i a b:Expr} {to ti ta tb:fW} {pos p:Pos}
theorem rX(hu:X.A.units+64 < cLine)(ho:gE X o to)(hi:gE X i ti)
  (ha:autoParam (∀ v,LY (.Subscript o i pos) X.env v=(do
   let ov ← Gx [v] (eval o X.env)
   let iv ← Gx [v,ov] (eval i X.env)
   standAt pos
   Gx [v,ov,iv] (setItem ov iv v)
   release [v,ov,iv] [])) Ai._auto_1):LM X (.Subscript o i pos) (vh to ti):=by
 intro E pins s σ H τ G w d u Q hE I r rd h
 rw [ha]
 refine aa (dq (lM ho hE I h fun x H1 dx G1 ov s1 I1 m1 r1 jS q1=>?_))
 refine aa (dq (lM hi hE I1 q1 fun y H2 dy G2 iv s2 pN m2 r2 Au q2=>?_))
 refine aa (wpAny_standAt (aa (dq ?_)))
 have Wa:=m1.trans m2
 have MJ:=rd.mono (Wa.kp I.ab)
 have DE:=I.st.mono (Wa.kp I.ab)
 have rx':=jS.mono (m2.kp I1.ab)
 unfold A4 at q2
 split at q2
 ·rename_i l
  cases rx'
  cases r1
  split at q2
  ·rename_i xs hg
   obtain⟨vs,hv,rs⟩:=pN.ab.lst hg
   split at q2
   ·rename_i k
    cases Au
    split at q2
    ·rename_i j hj
     have m3:Mv X.K H2 G2 (upd H2 l (.lst (vs.set j w))) (fN G2 l (.lst (xs.set j d))):=.putL pN.ab hg hv (rs.set MJ j)
     refine gC (set_list pins s2 σ H2 (.ref l) (.int k) w _ _ _ (fun H3=>H3=upd H2 l (.lst (vs.set j w))) pN.inv rfl r2 r ⟨l,vs,k,j,rfl,rfl,hv,?_,rfl⟩) ?_
     ·rw [rs.length]; exact hj
     ·rintro _ s3 ⟨H3,I3,e3⟩
      subst e3
      exact wpAny_release ⟨σ,_,τ,_,⟨I3,DE.mono (m3.kp pN.ab),m3.ab⟩,Wa.trans m3,q2⟩
    ·exact q2.elim
   ·exact q2.elim
  ·rename_i bp hg
   obtain⟨hk,hz,q⟩:=q2
   obtain⟨H3,H4,I3,dp,m3⟩:=Oe pN.inv pN.ab hg hk hz Au MJ
   exact Lc (by lia) I3 dp r2 r fun s4 I4=>wpAny_release ⟨σ,H4,τ,_,⟨I4,DE.mono (m3.kp pN.ab),m3.ab⟩,Wa.trans m3,q⟩
  ·exact q2.elim
 ·exact q2.elim
end
end K2
end
section
namespace L2
open PySem PySem.Spec PyProof.Rows
theorem uv{X:Cx}{pins:List (Addr×Obj)}{σ:St}{H:Hp}{s:aq}{l b:Addr}{xs:List V}(I:Inv X pins σ H s)(hq:pM X.K H l xs)(hf:oa X pins H b):l≠b:=by
 rintro rfl
 obtain⟨f0,f1,f2,f3,f4,f5⟩:=hf
 rcases hq with (h | ⟨o,h⟩) | ⟨o,bB,n,h,_⟩
 ·rw [f0] at h; cases h
 ·rw [f0] at h; cases h
 ·have hb:=I.ok.mod.Nm _ _ h
  rcases f3 with f3 | f3
  ·exact I.ok.Hq _ _ hb f3
  ·exact absurd (aK (I.ok.bs _ _ hb).1) (Nat.not_lt.mpr f3)
noncomputable def Itz(K:ag)(a b:Addr):It :=
  ⟨fun i H=>∃ xs x ys y,pM K H a xs/\xs[i]?=some x/\pM K H b ys/\ys[i]?=some y,
   fun i H v H'=>∃ T x y,v=.ref T/\H T=none/\H'=upd H T (.tup [x,y])/\(∀ xs,pM K H a xs->xs[i]?=some x)/\∀ ys,pM K H b ys->ys[i]?=some y,
   fun i H=>∃ xs ys,pM K H a xs/\pM K H b ys/\(xs.length<=i\/ys.length<=i)⟩
structure VR(z TI TO i1 i2 a b:Addr)(i:Nat)(h:Heap):Prop where
 hz:IsZip h z TI TO .none
 hI:IsPair h TI (.ref i1) (.ref i2)
 hO:∃ x y,IsPair h TO x y
 h1:h.IsListIter i1 a i
 h2:h.IsListIter i2 b i
theorem Mj{P:bP}{w:World}{K:ag}{elts:List Expr}{kk:Nat}{pos:Pos}(a b z TI TO i1 i2:Addr)(nd:[z,TI,TO,i1,i2].Nodup) :
  Turn P w K (.Tuple elts kk pos) (Itz K a b) [z,TI,TO,i1,i2] z (VR z TI TO i1 i2 a b) where
 mem:=by simp
 obj:=fun i h st c hc=>by
  simp only [kM,cQ,or_false] at hc
  rcases hc with rfl | rfl | rfl | rfl | rfl
  ·exact⟨_,st.hz,fun v q=>by cases q⟩
  ·exact⟨_,st.hI,fun v q=>by cases q⟩
  ·obtain⟨x,y,h⟩:=st.hO; exact⟨_,h,fun v q=>by cases q⟩
  ·obtain⟨o,e,_,d⟩:=st.h1; exact⟨o,e,fun v q=>by rw [d] at q; cases q⟩
  ·obtain⟨o,e,_,d⟩:=st.h2; exact⟨o,e,fun v q=>by rw [d] at q; cases q⟩
 keep:=fun i h h' st k=>⟨k _ (by simp) _ st.hz,k _ (by simp) _ st.hI,let ⟨x,y,q⟩:=st.hO; ⟨x,y,k _ (by simp) _ q⟩,st.h1.at fun o q=>k _ (by simp) o q,st.h2.at fun o q=>k _ (by simp) o q⟩
 item:=by
  intro X hP hw hK hc i pins s σ H E I hf st hg
  subst hP hw hK
  obtain⟨xs,x,ys,y,OX,hx,OW,hy⟩:=hg
  obtain⟨UG,V3,p1,hz1⟩:=I.list OX
  obtain⟨wo,MB,p2,ZW⟩:=I.list OW
  obtain⟨u1,hu1,Xx⟩:=V3.get hx
  obtain⟨u2,hu2,T6⟩:=MB.get hy
  obtain⟨xo,yo,hO⟩:=st.hO
  have ap:∀ c∈[z,TI,TO,i1,i2],a≠c/\b≠c:=fun c hc=>⟨uv I OX (hf c hc),uv I OW (hf c hc)⟩
  simp only [dZ,kM,cQ,or_false,not_or] at nd
  obtain⟨⟨n1,n2,n3,n4⟩,⟨n5,n6,n7⟩,⟨n8,n9⟩,Y4,_⟩:=nd
  have Dz:ZipApart z TI TO i1 i2 a b:=⟨fu n1,fu n2,fu n3,fu n4,n5,n6,n7,n8,n9,Y4,(ap z (by simp)).1,(ap TO (by simp)).1,(ap i1 (by simp)).1,(ap i2 (by simp)).1,(ap z (by simp)).2,(ap TO (by simp)).2,(ap i1 (by simp)).2,(ap i2 (by simp)).2⟩
  have hTn:H s.heap.objs.size=none:=I.cM.fresh (aF _)
  have inH:∀ c∈[z,TI,TO,i1,i2],c≠s.heap.objs.size:=fun c hc=>by
   simp only [kM,cQ,or_false] at hc
   rcases hc with rfl | rfl | rfl | rfl | rfl
   ·exact bL (aK st.hz)
   ·exact bL (aK st.hI)
   ·exact bL (aK hO)
   ·obtain⟨o,e,_⟩:=st.h1; exact bL (aK e)
   ·obtain⟨o,e,_⟩:=st.h2; exact bL (aK e)
  refine wpAny_pyNext_zip_item Dz st.hz st.hI hO st.h1 st.h2 p1.isList p2.isList (x:=u1) (y:=u2) (by simpa using hu1) (by simpa using hu2) fun h' a1 a2 a3 a4 a5 a6 a7=>?_
  refine⟨_,rfl,?_⟩
  have k1:∀ c o,c∉[z,TI,TO,i1,i2]->s.heap.get? c=some o->h'.get? c=some o:=fun c o hc q =>
   a7 c o (fun e=>hc (by simp [e])) (fun e=>hc (by simp [e])) (fun e=>hc (by simp [e])) (fun e=>hc (by simp [e])) q
  have I1:Inv X pins σ (upd H s.heap.objs.size (.tup [x,y])) { s with heap:=h' } :=
   I.IT (t':=s.toks) (fp:=[z,TI,TO,i1,i2]) hf k1 (aF _) ⟨by show 2<=bc; decide,[u1,u2],.cons Xx (.cons T6 .nil),⟨_,a5,rfl,_,rfl⟩⟩
  refine wpAny_letOwnedTupleGo_zip (s:={ s with heap:=h' }) a1 fun h2 ZW CK=>?_
  have f1:∀ c∈[z,TI,TO,i1,i2],oa X pins (upd H s.heap.objs.size (.tup [x,y])) c:=fun c hc=>(hf c hc).upd (inH c hc)
  have I2:Inv X pins σ (upd H s.heap.objs.size (.tup [x,y])) { s with heap:=h2 } :=
   Inv.xW (s:={ s with heap:=h' }) (t':=s.toks) (fp:=[z,TI,TO,i1,i2]) I1 f1 fun c o hc q=>(CK.2 c (fun e=>hc (by simp [e]))).trans q
  have hI':IsPair h' TI (.ref i1) (.ref i2):=a7 TI _ (fu n1) n5 n6 n7 st.hI
  refine⟨.ref s.heap.objs.size,_,I2,rfl,⟨_,x,y,rfl,hTn,rfl,fun zs hs=>by rw [I.uW hs OX]; exact hx,fun zs hs=>by rw [I.uW hs OW]; exact hy⟩,⟨ZW,?_,⟨u1,u2,?_⟩,?_,?_⟩,fun c hc=>(f1 c hc).1⟩
  ·exact(CK.2 TI (fu n1)).trans hI'
  ·exact(CK.2 TO (fu n2)).trans a2
  ·exact a3.at fun o q=>(CK.2 i1 (fu n3)).trans q
  ·exact a4.at fun o q=>(CK.2 i2 (fu n4)).trans q
 done:=by
  intro X hP hw hK hc i pins s σ H E I hf st hg
  subst hP hw hK
  obtain⟨xs,ys,OX,OW,hx⟩:=hg
  obtain⟨UG,V3,p1,hz1⟩:=I.list OX
  obtain⟨wo,MB,p2,ZW⟩:=I.list OW
  have Q7:=V3.length
  have SJ:=MB.length
  obtain⟨xo,yo,hO⟩:=st.hO
  have ap:∀ c∈[z,TI,TO,i1,i2],a≠c/\b≠c:=fun c hc=>⟨uv I OX (hf c hc),uv I OW (hf c hc)⟩
  simp only [dZ,kM,cQ,or_false,not_or] at nd
  obtain⟨⟨n1,n2,n3,n4⟩,⟨n5,n6,n7⟩,⟨n8,n9⟩,Y4,_⟩:=nd
  have Dz:ZipApart z TI TO i1 i2 a b:=⟨fu n1,fu n2,fu n3,fu n4,n5,n6,n7,n8,n9,Y4,(ap z (by simp)).1,(ap TO (by simp)).1,(ap i1 (by simp)).1,(ap i2 (by simp)).1,(ap z (by simp)).2,(ap TO (by simp)).2,(ap i1 (by simp)).2,(ap i2 (by simp)).2⟩
  refine wpAny_pyNext_zip_end (I.ok.hd hc) Dz st.hz st.hI hO st.h1 st.h2 p1.isList p2.isList (by
   rcases hx with hx | hx
   ·left; simp; lia
   ·right; simp; lia) fun h' k1=>⟨rfl,?_⟩
  exact I.xW (t':=s.toks) (fp:=[z,TI,TO,i1,i2]) hf fun c o hc q=>k1 c o (fun e=>hc (by simp [e])) (fun e=>hc (by simp [e])) (fun e=>hc (by simp [e])) (fun e=>hc (by simp [e])) q
 self:=fun A i s Q E st h=>wpAny_pyIter_zip st.hz h
end L2
namespace K2
open PySem PySem.Spec PyProof.Rows L2
section
variable {X:Cx} {elts:List Expr} {kk:Nat} {Mm:Pos} {a b:Expr} {ta tb:fW} {pos p:Pos}
theorem EL{pins:List (Addr×Obj)}{s:aq}{σ:L2.St}{H:Hp}{G:Gp}{x:V}{d:D}{v:Value}{ds:List D}{ok:Gp->Prop}(I:Inv X pins σ H s)(ab:kS X.K H G)(rx:RelV x v)(rd:cL X.K H x d)(hi:y7 d G=some (ds,ok)) :
  ∃ l vs,v=.ref l/\pM X.K H l vs/\bb X.K H vs ds/\∀ H2 G2,Kp H H2->kS X.K H2 G2->ok G2->∃ ws,pM X.K H2 l ws/\bb X.K H2 ws ds:=by
 cases rd with
 | d0 hq rs=>cases hi; cases rx; exact⟨_,_,rfl,hq.sq,rs,fun H2 G2 k ab _=>⟨_,(k.RM hq).sq,rs.mono k⟩⟩
 | ref l =>
  unfold y7 at hi
  dsimp only at hi
  cases hg:G l with
  | none=>rw [hg] at hi; cases hi
  | some gg =>
   rw [hg] at hi
   cases gg with
   | lst zs =>
    cases hi
    cases rx
    obtain⟨vs,hv,rs⟩:=ab.lst hg
    refine⟨_,_,rfl,.of hv,rs,fun H2 G2 k ab o=>?_⟩
    obtain⟨ws,hw,tD⟩:=ab.lst o
    exact⟨ws,.of hw,tD⟩
   | jn _=>cases hi
 | _=>cases hi
theorem PS (hg:Gl X "zip") (hm:X.mg "zip" = none) (ha:gE X a ta) (hb:gE X b tb) (hs:autoParam (bK [a,b] X.env=[(false,eval a X.env),(false,eval b X.env)]) Ar._auto_1) (CK:autoParam (bK [b] X.env=[(false,eval b X.env)]) Ar._auto_1) :
  O5 X (.Tuple elts kk Mm) (.Call (.Name "zip" p) [a,b] [] pos) (Sz ta tb):=by
 intro E pins s σ H τ G R hE I h
 have hA:DH X [a,b] (aA ta (aA tb bC)):=ao ha (ao hb aO CK) (by rw [hs,CK])
 refine Call_ (oZ I.inv hg hm S8 (d6 (xx hA pos hE I (R:=X6 fun x y G1=>zj x y G1 R) h fun vs H1 ds G1 us s1 I1 m1 r1 jS q1=>?_) (by rw [hs,CK]) (by rw [CK]; rfl)))
 match ds,q1 with
 | [x,y],q1 =>
  change zj x y G1 R at q1
  obtain⟨w1,w2,rfl,Ku,Xv⟩:=jS.two
  obtain⟨u1,u2,rfl,Xx,T6⟩:=vals2 r1
  unfold zj at q1
  split at q1
  ·rename_i xs k1 ys k2 e1 e2
   obtain⟨l1,v1,rfl,OX,rs1,W7⟩:=EL I1.inv I1.ab Xx Ku e1
   obtain⟨l2,v2,rfl,OW,QP,OR⟩:=EL I1.inv I1.ab T6 Xv e2
   obtain⟨UG,V3,pl1,_⟩:=I1.inv.list OX
   obtain⟨wo,MB,pl2,_⟩:=I1.inv.list OW
   refine call_zip_2 pl1.isList pl2.isList fun h' z1 z2 z3 z4 z5 z6 z7=>?_
   refine wpAny_pyIter_zip z1 ?_
   refine⟨_,[s1.heap.objs.size+4,s1.heap.objs.size+2,s1.heap.objs.size+3,s1.heap.objs.size,s1.heap.objs.size+1],_,_,H1,G1,su xs ys,_,rfl,I1.inv.kept (t':=s1.toks) z7,m1,
    Mj l1 l2 _ _ _ _ _ (by simp),⟨z1,z2,⟨_,_,z3⟩,z4,z5⟩,fun c hc=>?_,fun i H2 G2 k ab o=>?_,q1⟩
   ·have LJ:s1.heap.objs.size<=c:=by
     simp only [kM,cQ,or_false] at hc
     rcases hc with rfl | rfl | rfl | rfl | rfl
     ·exact gx _ _
     ·exact gx _ _
     ·exact gx _ _
     ·exact aF _
     ·exact gx _ _
    exact I1.inv.HY LJ (I1.inv.cM.fresh LJ)
   ·obtain⟨WX,Z4,jS⟩:=W7 H2 G2 k ab o.1
    obtain⟨WW,Z3,Au⟩:=OR H2 G2 k ab o.2
    refine⟨fun d hd=>?_,fun hl=>⟨WX,WW,Z4,Z3,?_⟩⟩
    ·rw [DS] at hd
     cases hx:xs[i]? with
     | none=>rw [hx] at hd; cases hd
     | some x' =>
      cases hy:ys[i]? with
      | none=>rw [hx,hy] at hd; cases hd
      | some y' =>
       rw [hx,hy] at hd
       have ed:D.tup [x',y']=d:=by simpa using hd
       subst ed
       obtain⟨vx,hvx,rx⟩:=jS.get hx
       obtain⟨vy,hvy,ry⟩:=Au.get hy
       refine⟨⟨WX,vx,WW,vy,Z4,hvx,Z3,hvy⟩,?_⟩
       rintro v H3 ⟨T,px,py,ex,hT,e3,hx3,hy3⟩
       subst ex e3
       have q1:=hx3 WX Z4
       have q2:=hy3 WW Z3
       rw [hvx] at q1
       rw [hvy] at q2
       cases q1; cases q2
       exact⟨.tup cR (.cons (rx.mono (.new hT)) (.cons (ry.mono (.new hT)) .nil)),.LG ab hT⟩
    ·rw [DR] at hl
     rw [jS.length,Au.length]
     lia
  ·exact q1.elim
 | [],q1=>exact q1.elim
 | [_],q1=>exact q1.elim
 | _ :: _ :: _ :: _,q1=>exact q1.elim
end
end K2
end
section
namespace K2
open PySem PySem.W PyProof.Rows
noncomputable def g4{α:Type}(lt:Nat->Nat->Bool):KasT α->α
 | .ret a=>a
 | .ask i j k=>g4 lt (k (lt i j))
theorem lI{α β:Type}(lt:Nat->Nat->Bool)(f:α->KasT β):∀ t:KasT α,g4 lt (t.bind f)=g4 lt (f (g4 lt t))
 | .ret _=>rfl
 | .ask i j k=>lI lt f (k (lt i j))
noncomputable abbrev gA(p:Array Nat)(k:Nat):Nat:=p.getD k 0
theorem Bp(p:Array Nat)(k:Nat):gA p k=(p[k]?).getD 0:=by
 unfold gA; rw [aZ]
structure J0(lt:Nat->Nat->Bool):Prop where
 asymm:∀ i j,lt i j=true->lt j i=false
 trans:∀ i j k,lt j i=false->lt k j=false->lt k i=false
theorem J0.refl{lt:Nat->Nat->Bool}(w:J0 lt)(i:Nat):lt i i=false:=by
 cases h:lt i i with
 | false=>rfl
 | true=>rw [w.asymm _ _ h] at h; cases h
noncomputable def Up(lt:Nat->Nat->Bool)(p:Array Nat)(m:Nat):Prop:=∀ i j,i<=j->j < m->lt (gA p j) (gA p i)=false
noncomputable def Dn(lt:Nat->Nat->Bool)(p:Array Nat)(m:Nat):Prop:=∀ i j,i<=j->j < m->lt (gA p i) (gA p j)=false
section
variable {lt:Nat->Nat->Bool}
theorem Up.more(w:J0 lt){p:Array Nat}{n m:Nat}(h1:1<=n)(h:Up lt p n)(hs:∀ k,n<=k->k < m->lt (gA p k) (gA p (k - 1))=false):Up lt p m:=by
 intro i j K0 hjm
 induction j with
 | zero =>
  have:i=0:=by lia
  subst this; exact w.refl _
 | succ j ih =>
  by_cases hj:j+1 < n
  ·exact h i (j+1) K0 hj
  ·by_cases e:i=j+1
   ·subst e; exact w.refl _
   ·have h1:=ih (by lia) (by lia)
    have h2:=hs (j+1) (by lia) hjm
    exact w.trans _ _ _ h1 h2
theorem Ja(p:Array Nat):∀ (f n:Nat),n<=g4 lt (qc p f n)/\g4 lt (qc p f n)<=n+f/\(∀ k,n<=k->k < g4 lt (qc p f n)->lt (gA p k) (gA p (k - 1))=false) /\
  (g4 lt (qc p f n) < n+f->lt (gA p (g4 lt (qc p f n))) (gA p (g4 lt (qc p f n) - 1))=true):=by
 intro f
 induction f with
 | zero=>intro n; exact⟨aF _,aF _,fun k h1 h2=>absurd (show k < n from h2) (by lia),fun h=>absurd (show n < n+0 from h) (by lia)⟩
 | succ f ih =>
  intro n
  have e:g4 lt (qc p (f+1) n)=if lt (gA p n) (gA p (n - 1))=true then n else g4 lt (qc p f (n+1)):=by
   show g4 lt (if lt (gA p n) (gA p (n - 1))=true then vL n else qc p f (n+1))=_
   split <;> rfl
  rw [e]
  by_cases c:lt (gA p n) (gA p (n - 1))=true
  ·rw [if_pos c]
   exact⟨aF _,by lia,fun k h1 h2=>absurd h2 (by lia),fun _=>c⟩
  ·rw [if_neg c]
   obtain⟨h1,h2,h3,h4⟩:=ih (n+1)
   refine⟨by lia,by lia,fun k k1 k2=>?_,fun h=>h4 (by lia)⟩
   by_cases e:k=n
   ·subst e; simpa using c
   ·exact h3 k (by lia) k2
theorem gX{p:Array Nat}{i j:Nat}(hj:j<=p.size)(k:Nat):gA (gk p i j) k=if i<=k/\k < j then gA p (i+j - 1 - k) else gA p k:=by
 rw [Bp,gk,getElem?_mirror_all hj]
 split <;> rw [Bp]
theorem lN(p:Array Nat)(i j:Nat):(gk p i j).size=p.size:=mirror_size _ _ _ _
theorem jF(p:Array Nat)(i j:Nat):(gk p i j).Perm p:=mirror_perm _ _ _ _
theorem Dn.rev{p:Array Nat}{a n:Nat}(w:J0 lt)(hn:n<=p.size)(h:Dn lt p n)(he:∀ k,a<=k->k < n->lt (gA p (n - 1)) (gA p k)=false):Dn lt (gk p a n) n:=by
 intro i j K0 U0
 rw [gX hn,gX hn]
 by_cases hi:a<=i
 ·rw [if_pos ⟨hi,by lia⟩,if_pos ⟨by lia,U0⟩]
  exact w.trans _ _ _ (he (a+n - 1 - j) (by lia) (by lia)) (h (a+n - 1 - i) (n - 1) (by lia) (by lia))
 ·rw [if_neg (by lia)]
  by_cases hj:a<=j
  ·rw [if_pos ⟨hj,U0⟩]
   exact h i (a+n - 1 - j) (by lia) (by lia)
  ·rw [if_neg (by lia)]
   exact h i j K0 U0
noncomputable def Eqs(lt:Nat->Nat->Bool)(p:Array Nat)(n q:Nat):Prop:=q+1<=n/\∀ k,n - (q+1)<=k->k < n->lt (gA p (n - 1)) (gA p k)=false
theorem Dn.one(w:J0 lt){p:Array Nat}{n:Nat}(h1:1<=n)(h:Dn lt p n)(hc:lt (gA p (n - 1)) (gA p n)=false):Dn lt p (n+1):=by
 intro i j K0 hj
 by_cases e:j=n
 ·subst e
  by_cases e2:i=j
  ·subst e2; exact w.refl _
  ·exact w.trans _ _ _ hc (h i (j - 1) (by lia) (by lia))
 ·exact h i j K0 (by lia)
theorem MF(w:J0 lt):∀ (f:Nat) (p:Array Nat) (n q:Nat),n+f<=p.size->Dn lt p n->Eqs lt p n q->∃ p' n' q',g4 lt (kK f p n q)=(p',n',q')/\p'.Perm p/\p'.size=p.size/\n<=n'/\n'<=n+f/\Dn lt p' n'/\Eqs lt p' n' q':=by
 intro f
 induction f with
 | zero=>intro p n q _ hd he; exact⟨p,n,q,rfl,mx _,rfl,aF _,aF _,hd,he⟩
 | succ f ih =>
  intro p n q hs hd he
  have h1:1<=n:=by have:=he.1; lia
  have e:g4 lt (kK (f+1) p n q)=if lt (gA p n) (gA p (n - 1))=true then (if q > 0 then g4 lt (kK f (gk p (n - (q+1)) n) (n+1) 0) else g4 lt (kK f p (n+1) 0))
    else if lt (gA p (n - 1)) (gA p n)=true then (p,n,q) else g4 lt (kK f p (n+1) (q+1)):=by
   show g4 lt (if lt (gA p n) (gA p (n - 1))=true then (if q > 0 then kK f (gk p (n - (q+1)) n) (n+1) 0 else kK f p (n+1) 0) else .ask (gA p (n - 1)) (gA p n) fun d=>if d=true then .ret (p,n,q) else kK f p (n+1) (q+1))=_
   split
   ·split <;> rfl
   ·show g4 lt (if lt (gA p (n - 1)) (gA p n)=true then vL (p,n,q) else kK f p (n+1) (q+1))=_
    split <;> rfl
  rw [e]
  by_cases c:lt (gA p n) (gA p (n - 1))=true
  ·rw [if_pos c]
   have ca:=w.asymm _ _ c
   by_cases hq:q > 0
   ·rw [if_pos hq]
    have d1:Dn lt (gk p (n - (q+1)) n) n:=hd.rev w (by lia) he.2
    have en:gA (gk p (n - (q+1)) n) n=gA p n:=by rw [gX (by lia),if_neg (by lia)]
    have ca':lt (gA (gk p (n - (q+1)) n) (n - 1)) (gA (gk p (n - (q+1)) n) n)=false:=by
     rw [en,gX (by lia)]
     split
     ·-- an item of W2 V1 is above p n
      exact w.trans _ _ _ ca (hd _ (n - 1) (by lia) (by lia))
     ·exact ca
    obtain⟨p',n',q',z,h2,h3,h4,h5,h6,h7⟩:=ih (gk p (n - (q+1)) n) (n+1) 0 (by rw [lN]; lia) (d1.one w h1 ca') ⟨by lia,fun k k1 k2=>by
     have:k=n:=by lia
     subst this; exact w.refl _⟩
    exact⟨p',n',q',z,h2.trans (jF _ _ _),h3.trans (lN _ _ _),by lia,by lia,h6,h7⟩
   ·rw [if_neg hq]
    obtain⟨p',n',q',z,h2,h3,h4,h5,h6,h7⟩:=ih p (n+1) 0 (by lia) (hd.one w h1 ca) ⟨by lia,fun k k1 k2=>by
     have:k=n:=by lia
     subst this; exact w.refl _⟩
    exact⟨p',n',q',z,h2,h3,by lia,by lia,h6,h7⟩
  ·rw [if_neg c]
   have c':lt (gA p n) (gA p (n - 1))=false:=by simpa using c
   by_cases d:lt (gA p (n - 1)) (gA p n)=true
   ·rw [if_pos d]
    exact⟨p,n,q,rfl,mx _,rfl,aF _,by lia,hd,he⟩
   ·rw [if_neg d]
    have d':lt (gA p (n - 1)) (gA p n)=false:=by simpa using d
    obtain⟨p',n',q',z,h2,h3,h4,h5,h6,h7⟩:=ih p (n+1) (q+1) (by lia) (hd.one w h1 d') ⟨by have:=he.1; lia,fun k k1 k2=>by
     rw [pW]
     by_cases e:k=n
     ·subst e; exact w.refl _
     ·exact w.trans _ _ _ (he.2 k (by lia) (by lia)) c'⟩
    exact⟨p',n',q',z,h2,h3,by lia,by lia,h6,h7⟩
theorem Dn.up{p:Array Nat}{n:Nat}(hn:n<=p.size)(h:Dn lt p n):Up lt (gk p 0 n) n:=by
 intro i j K0 U0
 rw [gX hn,gX hn,if_pos ⟨by lia,U0⟩,if_pos ⟨by lia,by lia⟩]
 exact h _ _ (by lia) (by lia)
theorem Eb(w:J0 lt){p:Array Nat}{n nrem:Nat}(h1:1<=n)(hn:n<=nrem)(hs:nrem<=p.size)(h:Dn lt p n):∃ p' m,g4 lt (LV n nrem p)=(m,p')/\p'.Perm p/\p'.size=p.size/\n<=m/\m<=nrem/\Up lt p' m:=by
 obtain⟨a1,a2,a3,_⟩:=Ja (lt:=lt) (gk p 0 n) (nrem - n) n
 refine⟨gk p 0 n,g4 lt (qc (gk p 0 n) (nrem - n) n),by rw [LV,lI]; rfl,jF _ _ _,lN _ _ _,a1,by lia,?_⟩
 exact(h.up (by lia)).more w h1 a3
theorem uD(w:J0 lt){p:Array Nat}{n nrem:Nat}(h1:1<=n)(hn:n < nrem)(hs:nrem<=p.size)(h:Dn lt p n)(hc:lt (gA p (n - 1)) (gA p n)=false) :
  ∃ p' m,g4 lt (yi n nrem p)=(m,p')/\p'.Perm p/\p'.size=p.size/\n<=m/\m<=nrem/\Up lt p' m:=by
 obtain⟨p1,n1,q1,z,z2,z3,z4,z5,z6,z7⟩:=MF w (nrem - (n+1)) p (n+1) 0 (by lia) (h.one w h1 hc) ⟨by lia,fun k k1 k2=>by
  have:k=n:=by lia
  subst this; exact w.refl _⟩
 rw [yi,lI,z]
 show ∃ p' m,g4 lt (if q1 > 0 then LV n1 nrem (gk p1 (n1 - (q1+1)) n1) else LV n1 nrem p1)=(m,p')/\_
 by_cases hq:q1 > 0
 ·rw [if_pos hq]
  obtain⟨p',m,y1,y2,y3,y4,y5,y6⟩:=Eb (nrem:=nrem) w (p:=gk p1 (n1 - (q1+1)) n1) (by lia) (by lia) (by rw [lN]; lia) (z6.rev w (by lia) z7.2)
  exact⟨p',m,y1,(y2.trans (jF _ _ _)).trans z2,(y3.trans (lN _ _ _)).trans z3,by lia,y5,y6⟩
 ·rw [if_neg hq]
  obtain⟨p',m,y1,y2,y3,y4,y5,y6⟩:=Eb (nrem:=nrem) w (p:=p1) (by lia) (by lia) (by lia) z6
  exact⟨p',m,y1,y2.trans z2,y3.trans z3,by lia,y5,y6⟩
theorem Kw(w:J0 lt){p:Array Nat}{nrem:Nat}(h1:1<=nrem)(hs:nrem<=p.size):∃ p' m,g4 lt (kas_count nrem p)=(m,p')/\p'.Perm p/\p'.size=p.size/\1<=m/\m<=nrem/\Up lt p' m:=by
 obtain⟨a1,a2,a3,a4⟩:=Ja (lt:=lt) p (nrem - 1) 1
 rw [kas_count,lI]
 generalize g4 lt (qc p (nrem - 1) 1)=n at a1 a2 a3 a4
 have u1:Up lt p 1:=fun i j K0 hj=>by
  have:i=j:=by lia
  subst this; exact w.refl _
 have up:Up lt p n:=u1.more w (aF _) a3
 by_cases e:n=nrem
 ·subst e
  rw [if_pos (by simp)]
  exact⟨p,n,rfl,mx _,rfl,a1,aF _,up⟩
 ·rw [if_neg (by simpa using e)]
  have hb:=a4 (by lia)
  by_cases h2:n > 1
  ·rw [if_pos h2]
   show ∃ p' m,g4 lt (if lt (gA p 0) (gA p (n - 1))=true then vL (n,p) else yi n nrem (gk p 0 n))=(m,p')/\_
   by_cases c:lt (gA p 0) (gA p (n - 1))=true
   ·rw [if_pos c]
    exact⟨p,n,rfl,mx _,rfl,a1,by lia,up⟩
   ·rw [if_neg c]
    have c':lt (gA p 0) (gA p (n - 1))=false:=by simpa using c
    have all:∀ i j,i < n->j < n->lt (gA p i) (gA p j)=false:=fun i j hi hj =>
     w.trans _ _ _ (w.trans _ _ _ (up j (n - 1) (by lia) (by lia)) c') (up 0 i (by lia) hi)
    have d1:Dn lt (gk p 0 n) n:=fun i j K0 hj=>by
     rw [gX (by lia),gX (by lia),if_pos ⟨by lia,by lia⟩,if_pos ⟨by lia,hj⟩]
     exact all _ _ (by lia) (by lia)
    have hl:lt (gA (gk p 0 n) (n - 1)) (gA (gk p 0 n) n)=false:=by
     rw [gX (by lia),gX (by lia),if_pos ⟨by lia,by lia⟩,if_neg (by lia)]
     exact w.trans _ _ _ (w.asymm _ _ hb) (all _ _ (by lia) (by lia))
    obtain⟨p',m,y1,y2,y3,y4,y5,y6⟩:=uD (nrem:=nrem) w (p:=gk p 0 n) a1 (by lia) (by rw [lN]; lia) d1 hl
    exact⟨p',m,y1,y2.trans (jF _ _ _),y3.trans (lN _ _ _),by lia,y5,y6⟩
  ·rw [if_neg h2]
   have e1:n=1:=by lia
   subst e1
   have d1:Dn lt p 1:=fun i j K0 hj=>by
    have:i=j:=by lia
    subst this; exact w.refl _
   obtain⟨p',m,y1,y2,y3,y4,y5,y6⟩:=uD (nrem:=nrem) w (p:=p) (aF _) (by lia) hs d1 (w.asymm _ _ hb)
   exact⟨p',m,y1,y2,y3,by lia,y5,y6⟩
theorem Kv(w:J0 lt){p:Array Nat}{k:Nat}:∀ (f l r:Nat),l<=r->r<=k->r - l<=f->Up lt p k->(∀ i,i < l->lt (gA p k) (gA p i)=false)->(∀ i,r<=i->i < k->lt (gA p k) (gA p i)=true) ->
  ∃ m,g4 lt (jz p k f l r)=m/\m<=k/\(∀ i,i < m->lt (gA p k) (gA p i)=false)/\(∀ i,m<=i->i < k->lt (gA p k) (gA p i)=true):=by
 intro f
 induction f with
 | zero =>
  intro l r hlr Wu hf up h1 h2
  have:l=r:=by lia
  subst this
  exact⟨l,rfl,Wu,h1,h2⟩
 | succ f ih =>
  intro l r hlr Wu hf up h1 h2
  have e:g4 lt (jz p k (f+1) l r)=if l>=r then l else if lt (gA p k) (gA p ((l+r) / 2))=true then g4 lt (jz p k f l ((l+r) / 2)) else g4 lt (jz p k f ((l+r) / 2+1) r):=by
   show g4 lt (if l>=r then vL l else .ask (gA p k) (gA p ((l+r) / 2)) fun c=>if c=true then jz p k f l ((l+r) / 2) else jz p k f ((l+r) / 2+1) r)=_
   split
   ·rfl
   ·show g4 lt (if lt (gA p k) (gA p ((l+r) / 2))=true then jz p k f l ((l+r) / 2) else jz p k f ((l+r) / 2+1) r)=_
    split <;> rfl
  rw [e]
  by_cases c:l>=r
  ·rw [if_pos c]
   have:l=r:=by lia
   subst this
   exact⟨l,rfl,Wu,h1,h2⟩
  ·rw [if_neg c]
   by_cases d:lt (gA p k) (gA p ((l+r) / 2))=true
   ·rw [if_pos d]
    refine ih l ((l+r) / 2) (by lia) (by lia) (by lia) up h1 fun i i1 i2=>?_
    cases q:lt (gA p k) (gA p i) with
    | true=>rfl
    | false=>rw [w.trans _ _ _ (up ((l+r) / 2) i i1 i2) q] at d; cases d
   ·rw [if_neg d]
    refine ih ((l+r) / 2+1) r (by lia) Wu (by lia) up (fun i hi=>?_) h2
    exact w.trans _ _ _ (up i ((l+r) / 2) (by lia) (by lia)) (by simpa using d)
theorem Bq{p:Array Nat}{src d:Nat}(hs:src < p.size)(hd:d<=src)(k:Nat):gA (bubble p src d) k=if k=src - d then gA p src else if src - d < k/\k<=src then gA p (k - 1) else gA p k:=by
 rw [Bp,getElem?_bubble hs d hd,Bp p src,Bp p (k - 1),Bp p k]
 by_cases h1:k=src - d
 ·rw [if_pos h1,if_pos h1]
 ·rw [if_neg h1,if_neg h1]
  by_cases h2:src - d < k/\k<=src
  ·rw [if_pos h2,if_pos h2]
  ·rw [if_neg h2,if_neg h2]
theorem PA(w:J0 lt):∀ (f:Nat) (p:Array Nat) (k:Nat),k+f<=p.size->Up lt p k->∃ p',g4 lt (kas_bin f p k)=p'/\p'.Perm p/\p'.size=p.size/\Up lt p' (k+f):=by
 intro f
 induction f with
 | zero=>intro p k _ up; exact⟨p,rfl,mx _,rfl,up⟩
 | succ f ih =>
  intro p k hs up
  obtain⟨m,e,hm,h1,h2⟩:=Kv w k 0 k (cD _) (aF _) (aF _) up (fun i hi=>absurd hi (by lia)) (fun i i1 i2=>absurd i1 (by lia))
  have up':Up lt (bubble p k (k - m)) (k+1):=by
   intro i j K0 hj
   rw [Bq (by lia) (by lia),Bq (by lia) (by lia)]
   have ek:k - (k - m)=m:=by lia
   rw [ek]
   by_cases j1:j=m
   ·rw [if_pos j1]
    by_cases i1:i=m
    ·rw [if_pos i1]; exact w.refl _
    ·rw [if_neg i1,if_neg (by lia)]; exact h1 i (by lia)
   ·rw [if_neg j1]
    by_cases j2:m < j/\j<=k
    ·rw [if_pos j2]
     by_cases i1:i=m
     ·rw [if_pos i1]; exact w.asymm _ _ (h2 (j - 1) (by lia) (by lia))
     ·rw [if_neg i1]
      by_cases i2:m < i/\i<=k
      ·rw [if_pos i2]; exact up _ _ (by lia) (by lia)
      ·rw [if_neg i2]; exact up _ _ (by lia) (by lia)
    ·rw [if_neg j2,if_neg (by lia),if_neg (by lia)]; exact up _ _ K0 (by lia)
  obtain⟨p',z,z1,z2,z3⟩:=ih (bubble p k (k - m)) (k+1) (by rw [bubble_size]; lia) up'
  refine⟨p',?_,z1.trans (bubble_perm _ _ _),z2.trans (bubble_size _ _ _),by rw [show k+(f+1)=k+1+f by lia]; exact z3⟩
  rw [kas_bin,lI,e]; exact z
theorem Ec(w:J0 lt){n:Nat}(h1:1<=n):∃ p,g4 lt (kas_sort n)=p/\p.toList.Perm (cG n)/\p.size=n/\Up lt p n:=by
 obtain⟨p,m,z,z1,z2,z3,z4,z5⟩:=Kw w (p:=(cG n).toArray) h1 (by simp)
 have zs:p.size=n:=by rw [z2]; simp
 have zp:p.toList.Perm (cG n):=by simpa using z1.toList
 rw [kas_sort,lI,z]
 show ∃ q,g4 lt (if m < n then kas_bin (n - max m 1) p (max m 1) else .ret p)=q/\_
 by_cases c:m < n
 ·rw [if_pos c]
  have em:max m 1=m:=by lia
  rw [em]
  obtain⟨p',y,y1,y2,y3⟩:=PA w (n - m) p m (by lia) z5
  exact⟨p',y,(by simpa using y1.toList:p'.toList.Perm p.toList).trans zp,y2.trans zs,by rw [show n=m+(n - m) by lia]; exact y3⟩
 ·rw [if_neg c]
  have:m=n:=by lia
  subst this
  exact⟨p,rfl,zp,zs,z5⟩
end
end K2
end
section
namespace K2
open PySem PySem.Spec PyProof.Rows L2
open PySem.AutoSeq1 (wpAny_loadPart')
open PySem.MeetsSeq PySem.MeetsSeq2 PySem.MeetsSeq3 PySem.SeqAt
noncomputable def zW(A:dh)(s:aq)(y x:Value)(b:Bool):Prop :=
 ∀ (prog:bP) (w:World) (E:Value->aq->Prop) (Q:Value->aq->Prop),Q (.bool b) s->wpAny (model prog w) A (richCompare .Lt y x) Q E s
noncomputable def sx(e l:Nat->Bool)(n m:Nat):Nat->Nat->Bool
 | 0,_=>decide (n < m)
 | f+1,i=>if e i=true then sx e l n m f (i+1) else l i
theorem Qe(l b:Addr)(xs ys:Array Value)(n m:Nat)(dd de:Option Addr)(sl sm:Array (Option Value))(e lt:Nat->Bool)(k:Nat) :
  ∀ i:Nat,i<=min xs.size ys.size->min xs.size ys.size - i=k->Meets (Builtin.«list.__eq__.loop» ⟨[.ref l,.ref b,pz i,pz 0],[]⟩)
   (fun A R s=>s.heap.get? l=some { cls:=.type "list",dict:=dd,data:=.seq xs n,slots:=sl }/\s.heap.get? b=some { cls:=.type "list",dict:=de,data:=.seq ys m,slots:=sm } /\
    (∀ j (h1:j < xs.size) (h2:j < ys.size),EqAt A.in1 s xs[j] ys[j] (e j)/\zW A.in1 s xs[j] ys[j] (lt j)) /\
    R (.ok (.ret (.bool (sx e lt xs.size ys.size k i)))) s):=by
 induction k with
 | zero =>
  intro i hi hk prog w A R s h
  obtain⟨hp,g,d,tk,os⟩:=s
  obtain⟨hl,hb,he,h⟩:=h
  wp_walk using cf hl,cf hb
  by_cases c:xs.size<=ys.size
  ·have h1:xs[((i:Nat):Int).toNat]?=none:=by simp; lia
   rw [h1]
   wp_walk using cf hl,cf hb
   exact h
  ·have h2:ys[((i:Nat):Int).toNat]?=none:=by simp; lia
   rw [h2]
   cases q:xs[((i:Nat):Int).toNat]? with
   | none =>
    wp_walk using cf hl,cf hb
    exact h
   | some v =>
    wp_walk using cf hl,cf hb
    exact h
 | succ k ih =>
  intro i hi hk prog w A R s h
  obtain⟨hp,g,d,tk,os⟩:=s
  obtain⟨hl,hb,he,h⟩:=h
  wp_walk using cf hl,cf hb
  have l1:i < xs.size:=by lia
  have l2:i < ys.size:=by lia
  have h1:xs[((i:Nat):Int).toNat]?=some xs[i]:=by simp [l1]
  have h2:ys[((i:Nat):Int).toNat]?=some ys[i]:=by simp [l2]
  have hc:((i:Int)+1)=((i+1:Nat):Int):=by push_cast; rfl
  rw [h1,h2]
  refine aa ((he i l1 l2).1 prog w _ _ ?_)
  cases q:e i with
  | true =>
   rw [sx,q,if_pos rfl] at h
   wp_walk
   rw [hc]
   exact⟨DJ plain_eq_loop _,jA entry_eq_loop (by
    rw [jo plain_eq_loop _]
    exact ih (i+1) (by lia) (by lia) prog w A R _ ⟨hl,hb,he,h⟩)⟩
  | false =>
   rw [sx,q,if_neg (by simp)] at h
   wp_walk using cf hl,cf hb
   rw [h1,h2]
   have UP:=(he i l1 l2).2 prog w
   wp_walk using UP
   exact h
theorem Bh(l b:Addr)(xs ys:Array Value)(n m:Nat)(dd de:Option Addr)(sl sm:Array (Option Value))(e lt:Nat->Bool) :
  Meets (Builtin.«list.__lt__» ⟨[.ref l,.ref b],[]⟩)
   (fun A R s=>s.heap.get? l=some { cls:=.type "list",dict:=dd,data:=.seq xs n,slots:=sl }/\s.heap.get? b=some { cls:=.type "list",dict:=de,data:=.seq ys m,slots:=sm } /\
    (∀ j (h1:j < xs.size) (h2:j < ys.size),EqAt A.in1 s xs[j] ys[j] (e j)/\zW A.in1 s xs[j] ys[j] (lt j)) /\
    R (.ok (.ret (.bool (sx e lt xs.size ys.size (min xs.size ys.size) 0)))) s):=by
 intro prog w A R s h
 obtain⟨hp,g,d,tk,os⟩:=s
 obtain⟨hl,hb,he,h⟩:=h
 have f3:=GK
 wp_walk using cf hl,cf hb
 exact⟨DJ plain_eq_loop _,jA entry_eq_loop (by
  rw [jo plain_eq_loop _]
  exact Qe l b xs ys n m dd de sl sm e lt _ 0 (cD _) rfl prog w A R _ ⟨hl,hb,he,h⟩)⟩
theorem yu(l b:Addr)(xs ys:Array Value)(n m:Nat)(dd de:Option Addr)(sl sm:Array (Option Value))(e lt:Nat->Bool) :
  Meets (Builtin.«tuple.__lt__» ⟨[.ref l,.ref b],[]⟩)
   (fun A R s=>s.heap.get? l=some { cls:=.type "tuple",dict:=dd,data:=.seq xs n,slots:=sl }/\s.heap.get? b=some { cls:=.type "tuple",dict:=de,data:=.seq ys m,slots:=sm } /\
    (∀ j (h1:j < xs.size) (h2:j < ys.size),EqAt A.in1 s xs[j] ys[j] (e j)/\zW A.in1 s xs[j] ys[j] (lt j)) /\
    R (.ok (.ret (.bool (sx e lt xs.size ys.size (min xs.size ys.size) 0)))) s) :=
 .of_wp fun prog w A R s h=>by
  obtain⟨hp,g,d,tk,os⟩:=s
  obtain⟨hl,hb,he,h⟩:=h
  have f2:=pA
  have zl:(xs.toList.zip ys.toList).length=min xs.size ys.size:=by simp
  wp_walk using cf hl,cf hb,iU _ (fun rest c s'=>c.1=none/\s'=⟨hp,g,d,tk,os⟩/\∃ i,i<=min xs.size ys.size/\rest=(xs.toList.zip ys.toList).drop i /\
   R (.ok (.ret (.bool (sx e lt xs.size ys.size (min xs.size ys.size - i) i)))) ⟨hp,g,d,tk,os⟩) _
  case turn =>
   rintro⟨y,x⟩ rest c s' ⟨hc,rfl,i,hi,hz,hR⟩
   have il:i < min xs.size ys.size:=by
    have:=congrArg dg hz
    rw [cJ,zl,ak] at this
    lia
   have l1:i < xs.size:=by lia
   have l2:i < ys.size:=by lia
   rw [gF (by rw [zl]; exact il)] at hz
   injection hz with ZX NJ
   have ey:y=xs[i]/\x=ys[i]:=by simpa using ZX
   obtain⟨rfl,rfl⟩:=ey
   obtain⟨k,ek⟩:∃ k,min xs.size ys.size - i=k+1:=⟨min xs.size ys.size - i - 1,by lia⟩
   rw [ek,sx] at hR
   refine aa ((he i l1 l2).1 prog w _ _ ?_)
   cases q:e i with
   | true =>
    rw [q,if_pos rfl] at hR
    wp_walk
    exact⟨rfl,rfl,i+1,by lia,NJ,by rw [show min xs.size ys.size - (i+1)=k by lia]; exact hR⟩
   | false =>
    rw [q,if_neg (by simp)] at hR
    have UP:=(he i l1 l2).2 prog w
    wp_walk using UP
    exact⟨_,rfl,by simpa using hR⟩
  case fin =>
   rintro⟨c1,c2⟩ s' ⟨hc,rfl,i,hi,hz,hR⟩
   simp only at hc
   subst hc
   have il:min xs.size ys.size - i=0:=by
    have:=congrArg dg hz
    rw [cJ,zl,ay] at this
    lia
   rw [il,sx] at hR
   wp_walk
   exact⟨_,rfl,by simpa [uk] using hR⟩
  case h =>
   exact⟨rfl,rfl,0,cD _,rfl,by simpa using h⟩
theorem KN{A:dh}{s:aq}{l b:Addr}{xs ys:Array Value}{e lt:Nat->Bool}(hl:s.heap.IsList l xs)(hb:s.heap.IsList b ys)(hu:A.units < cLine)
  (he:∀ j (h1:j < xs.size) (h2:j < ys.size),EqAt A.in1 s xs[j] ys[j] (e j)/\zW A.in1 s xs[j] ys[j] (lt j)):zW A s (.ref l) (.ref b) (sx e lt xs.size ys.size (min xs.size ys.size) 0):=by
 intro prog w E Q hq
 obtain⟨⟨cls,dd,data,sl⟩,ho,hc,n,hd⟩:=id hl
 obtain⟨⟨Om,JJ,data2,B5⟩,E7,Fb,n2,hd2⟩:=id hb
 simp only at hc hd Fb hd2
 subst hc hd Fb hd2
 exact xr (op:=.Lt) ⟨_,ho,rfl⟩ ⟨_,E7,rfl⟩ ue J7 (IJ _ _) (Bh l b xs ys n n2 dd JJ sl B5 e lt)
  ⟨ho,E7,he,(fun x=>nomatch x),hq⟩ hu
theorem HD{A:dh}{s:aq}{l b:Addr}{xs ys:Array Value}{e lt:Nat->Bool}(hl:s.heap.IsTuple l xs)(hb:s.heap.IsTuple b ys)(hu:A.units < cLine)
  (he:∀ j (h1:j < xs.size) (h2:j < ys.size),EqAt A.in1 s xs[j] ys[j] (e j)/\zW A.in1 s xs[j] ys[j] (lt j)):zW A s (.ref l) (.ref b) (sx e lt xs.size ys.size (min xs.size ys.size) 0):=by
 intro prog w E Q hq
 obtain⟨⟨cls,dd,data,sl⟩,ho,hc,n,hd⟩:=id hl
 obtain⟨⟨Om,JJ,data2,B5⟩,E7,Fb,n2,hd2⟩:=id hb
 simp only at hc hd Fb hd2
 subst hc hd Fb hd2
 exact xr (op:=.Lt) ⟨_,ho,rfl⟩ ⟨_,E7,rfl⟩ lq sg (qf _ _) (yu l b xs ys n n2 dd JJ sl B5 e lt)
  ⟨ho,E7,he,(fun x=>nomatch x),hq⟩ hu
theorem nS(xs ys:List D):∀ (k i:Nat),i<=min xs.length ys.length->min xs.length ys.length - i=k ->
  sx (fun j=>iy (xs.getD j .cY) (ys.getD j .cY)) (fun j=>mH (xs.getD j .cY) (ys.getD j .cY)) xs.length ys.length k i=mG (xs.drop i) (ys.drop i)
 | 0,i,hi,hk=>by
  rw [sx]
  by_cases c:xs.length<=ys.length
  ·have e1:xs.drop i=[]:=lr (by lia)
   rw [e1]
   cases q:ys.drop i with
   | nil =>
    have:=congrArg dg q
    rw [cJ,ay] at this
    exact decide_eq_false (by lia)
   | cons y r =>
    have:=congrArg dg q
    rw [cJ,ak] at this
    exact decide_eq_true (by lia)
  ·have e1:ys.drop i=[]:=lr (by lia)
   rw [e1]
   cases q:xs.drop i with
   | nil =>
    have:=congrArg dg q
    rw [cJ,ay] at this
    exact decide_eq_false (by lia)
   | cons y r=>exact decide_eq_false (by lia)
 | k+1,i,hi,hk=>by
  have l1:i < xs.length:=by lia
  have l2:i < ys.length:=by lia
  rw [sx,gF l1,gF l2,oW,nS xs ys k (i+1) (by lia) (by lia)]
  have g1:xs.getD i .cY=xs[i]:=by rw [aL,ah l1]; rfl
  have g2:ys.getD i .cY=ys[i]:=by rw [aL,ah l2]; rfl
  rw [g1,g2]
theorem jG{h:Heap}:∀ {ds:List D} {vs:List Value} {as:List Addr},gv h vs (lh ds) as->∀ j (hj:j < vs.length),∃ bs,Reads h vs[j] (pd (ds.getD j .cY)) bs
 | [],vs,as,r,j,hj=>by cases r; exact absurd hj (cu _)
 | d :: ds,_,_,.cons (v:=v) (vs:=vs) r1 r2,j,hj=>by
  cases j with
  | zero=>exact⟨_,r1⟩
  | succ j=>exact jG r2 j (by simpa using hj)
theorem readsAll_len{h:Heap}:∀ {ds:List D} {vs:List Value} {as:List Addr},gv h vs (lh ds) as->vs.length=ds.length
 | [],_,_,r=>by cases r; rfl
 | d :: ds,_,_,.cons r1 r2=>by rw [ak,ak,readsAll_len r2]
theorem oQ:∀ {ds:List D},pF ds=true->∀ j,nr (ds.getD j .cY)=true
 | [],_,j=>by rw [List.getD_nil]; rfl
 | d :: ds,h,0=>by
  have h:(nr d&&pF ds)=true:=h
  rw [aH] at h; simpa using h.1
 | d :: ds,h,j+1=>by
  have h:(nr d&&pF ds)=true:=h
  rw [aH] at h; simpa using oQ h.2 j
theorem kE:∀ (ds:List D) (j:Nat),(pd (ds.getD j .cY)).depth<=cj (lh ds)
 | [],j=>by rw [List.getD_nil]; exact aF _
 | d :: ds,0=>by
  show (pd d).depth<=cj (pd d :: lh ds)
  simp only [cj]; lia
 | d :: ds,j+1=>by
  have:=kE ds j
  show (pd (ds.getD j .cY)).depth<=cj (pd d :: lh ds)
  simp only [cj]; lia
theorem qW:∀ {l:List mI} {ds:List D},e8 l ds=true->∀ j,j < ds.length->∃ s∈l,cS s (ds.getD j .cY)=true/\l[j]?=some s
 | [],[],_,j,hj=>absurd hj (cu _)
 | [],_ :: _,h,_,_=>by cases h
 | _ :: _,[],h,_,_=>by cases h
 | s :: l,d :: ds,h,0,_=>by
  have h:(cS s d&&e8 l ds)=true:=h
  rw [aH] at h
  exact⟨s,by simp,by simpa using h.1,by simp⟩
 | s :: l,d :: ds,h,j+1,hj=>by
  have h:(cS s d&&e8 l ds)=true:=h
  rw [aH] at h
  obtain⟨s',h1,h2,h3⟩:=qW h.2 j (by simpa using hj)
  exact⟨s',av _ h1,by simpa using h2,by simpa using h3⟩
theorem qX:∀ {s:mI} {ds:List D},gs s ds=true->∀ j,j < ds.length->cS s (ds.getD j .cY)=true
 | s,[],_,j,hj=>absurd hj (cu _)
 | s,d :: ds,h,0,_=>by
  have h:(cS s d&&gs s ds)=true:=h
  rw [aH] at h; simpa using h.1
 | s,d :: ds,h,j+1,hj=>by
  have h:(cS s d&&gs s ds)=true:=h
  rw [aH] at h; simpa using qX h.2 j (by simpa using hj)
theorem CZ{A:dh}{s:aq}{xs ys:List D}{vs ws:Array Value}{as bs:List Addr}(r1:gv s.heap vs.toList (lh xs) as)(r2:gv s.heap ws.toList (lh ys) bs)(n1:pF xs=true)(n2:pF ys=true)
  (hu:A.units+cj (lh xs) < cLine) (j:Nat) (h1:j < vs.size) (h2:j < ws.size):EqAt A s vs[j] ws[j] (iy (xs.getD j .cY) (ys.getD j .cY)):=by
 obtain⟨VO,q1⟩:=jG r1 j (by simpa using h1)
 obtain⟨Rk,q2⟩:=jG r2 j (by simpa using h2)
 have m1:=oQ n1 j
 have m2:=oQ n2 j
 have dp:=kE xs j
 have:=eqAt_reads (pd (xs.getD j .cY)) (pd (ys.getD j .cY)) A s _ _ _ _ q1 q2 (jM _ m1) (jM _ m2) (by lia)
 rw [tS _ _ m1 m2] at this
 simpa using this
theorem yY:∀ (n:Nat) (sh:mI) (a b:D) (A:dh) (s:aq) (u v:Value) (as bs:List Addr),(pd a).depth<=n->cS sh a=true->cS sh b=true->nr a=true->nr b=true->Reads s.heap u (pd a) as->Reads s.heap v (pd b) bs->A.units+n < cLine->zW A s u v (mH a b):=by
 intro n
 induction n using Nat.strongRecOn with
 | _ n ih =>
 intro sh a b A s u v as bs hn h1 h2 n1 n2 r1 r2 hu
 cases sh with
 | int =>
  first | obtain⟨_,rfl⟩:=dD h1 | obtain⟨_,rfl⟩:=dA h1 | obtain⟨_,rfl⟩:=dB h1
  first | obtain⟨_,rfl⟩:=dD h2 | obtain⟨_,rfl⟩:=dA h2 | obtain⟨_,rfl⟩:=dB h2
  cases r1; cases r2
  intro prog w E Q hq
  exact HT.Eg A s _ _ _ _ prog w E Q hq
 | tup l =>
  first | obtain⟨_,rfl⟩:=dD h1 | obtain⟨_,rfl⟩:=dA h1 | obtain⟨_,rfl⟩:=dB h1
  first | obtain⟨_,rfl⟩:=dD h2 | obtain⟨_,rfl⟩:=dA h2 | obtain⟨_,rfl⟩:=dB h2
  rename_i xs ys
  have n1:pF xs=true:=n1
  have n2:pF ys=true:=n2
  cases r1 with
  | tuple k1 k2 k3 k4 =>
   cases r2 with
   | tuple m1 m2 m3 m4 =>
    rename_i p o vs c p' o' ws c'
    have hd:(pd (.tup xs)).depth=cj (lh xs)+1:=rfl
    obtain⟨n',rfl⟩:∃ n',n=n'+1:=⟨n - 1,by lia⟩
    have z1:=readsAll_len k4
    have z2:=readsAll_len m4
    have e1:vs.size=xs.length:=by simpa using z1
    have e2:ws.size=ys.length:=by simpa using z2
    have base:=HD (A:=A) (s:=s) (e:=fun j=>iy (xs.getD j .cY) (ys.getD j .cY)) (lt:=fun j=>mH (xs.getD j .cY) (ys.getD j .cY)) ⟨_,k1,k2,_,k3⟩ ⟨_,m1,m2,_,m3⟩ (by lia) (fun j j1 j2=>by
     refine⟨CZ k4 m4 n1 n2 (by show A.units+1+_ < _; lia) j j1 j2,?_⟩
     obtain⟨VO,q1⟩:=jG k4 j (by simpa using j1)
     obtain⟨Rk,q2⟩:=jG m4 j (by simpa using j2)
     obtain⟨sj,hsj,g1,g2⟩:=qW (l:=l) (ds:=xs) h1 j (by lia)
     obtain⟨sj',aab,g1',Vg⟩:=qW (l:=l) (ds:=ys) h2 j (by lia)
     rw [g2] at Vg; cases Vg
     have dp:=kE xs j
     have:=ih n' (by lia) sj (xs.getD j .cY) (ys.getD j .cY) A.in1 s _ _ _ _ (by lia) g1 g1' (oQ n1 j) (oQ n2 j) q1 q2 (by show A.units+1+n' < cLine; lia)
     simpa using this)
    have fin:=nS xs ys (min xs.length ys.length) 0 (cD _) rfl
    rw [e1,e2,fin] at base
    exact base
 | lst l =>
  first | obtain⟨_,rfl⟩:=dD h1 | obtain⟨_,rfl⟩:=dA h1 | obtain⟨_,rfl⟩:=dB h1
  first | obtain⟨_,rfl⟩:=dD h2 | obtain⟨_,rfl⟩:=dA h2 | obtain⟨_,rfl⟩:=dB h2
  rename_i xs ys
  have n1:pF xs=true:=n1
  have n2:pF ys=true:=n2
  cases r1 with
  | list k1 k2 k3 k4 =>
   cases r2 with
   | list m1 m2 m3 m4 =>
    rename_i p o vs c p' VO o' ws c' Rk
    have hd:(pd (.d0 xs)).depth=cj (lh xs)+1:=rfl
    obtain⟨n',rfl⟩:∃ n',n=n'+1:=⟨n - 1,by lia⟩
    have z1:=readsAll_len k4
    have z2:=readsAll_len m4
    have e1:vs.size=xs.length:=by simpa using z1
    have e2:ws.size=ys.length:=by simpa using z2
    have base:=KN (A:=A) (s:=s) (e:=fun j=>iy (xs.getD j .cY) (ys.getD j .cY)) (lt:=fun j=>mH (xs.getD j .cY) (ys.getD j .cY)) ⟨_,k1,k2,_,k3⟩ ⟨_,m1,m2,_,m3⟩ (by lia) (fun j j1 j2=>by
     refine⟨CZ k4 m4 n1 n2 (by show A.units+1+_ < _; lia) j j1 j2,?_⟩
     obtain⟨VO,q1⟩:=jG k4 j (by simpa using j1)
     obtain⟨Rk,q2⟩:=jG m4 j (by simpa using j2)
     have dp:=kE xs j
     have:=ih n' (by lia) l (xs.getD j .cY) (ys.getD j .cY) A.in1 s _ _ _ _ (by lia) (qX (s:=l) (ds:=xs) h1 j (by lia)) (qX (s:=l) (ds:=ys) h2 j (by lia)) (oQ n1 j) (oQ n2 j) q1 q2 (by show A.units+1+n' < cLine; lia)
     simpa using this)
    have fin:=nS xs ys (min xs.length ys.length) 0 (cD _) rfl
    rw [e1,e2,fin] at base
    exact base
end K2
end
section
namespace K2
open PySem PySem.Spec PyProof.Rows L2 PySem.W
section
variable {prog:bP} {w:World} {A:dh} {E:Value->aq->Prop} {s:aq}
theorem D4 {at':Addr} {bB:List Value} {n:Nat} {P:PySem.Fin->aq->Prop} (Qp:s.heap.get? at'=some (uc "list" bB.toArray n)) (lY:bB.length < 2)
  (done:P (.done (.ret .none)) { s with heap:=sortedHeap s.heap at' bB bB.toArray }):wpAny (model prog w) A (Builtin.«list.sort» ⟨[.ref at'],[]⟩) P E s:=by
 rw [list_sort_plain]
 have lt':at' < s.heap.objs.size:=aK Qp
 refine aa (listItems_at Qp rfl (aa (listUpdate_at Qp rfl ?_)))
 obtain⟨c,hc⟩:∃ c,(s.heap.update at' (iI fun _=>#[])).get? at'=some (uc "list" #[] c):=⟨_,get?_update_seq Qp (fun _=>#[])⟩
 refine aa (seqEpoch_at hc rfl (aa (wpAny_newTuple (aa (wpAny_newList (dq ?_))))))
 have h6:(((s.heap.update at' (iI fun _=>#[])).push (uc "tuple" bB.toArray 0)).push (uc "list" #[] 0)).get? at'=some (uc "list" #[] c):=by
  rw [Heap.get?_push_ne _ _ _ (by rw [size_push',DC]; exact bL (Nat.lt_succ_of_lt lt')),Heap.get?_push_ne _ _ _ (by rw [DC]; exact bL lt')]
  exact hc
 show wpAny (model prog w) A _ P E { s with heap:=((s.heap.update at' (iI fun _=>#[])).push (uc "tuple" bB.toArray 0)).push (uc "list" #[] 0) }
 dsimp only
 have sz2:bB.toArray.size < 2:=by simpa using lY
 rw [if_pos sz2,if_pos sz2]
 refine aa (ai ?_)
 rw [StateT.run_pure]
 refine aa (ai ?_)
 dsimp only
 have es:(bB.toArray.zip bB.toArray).map (·.2)=bB.toArray:=by
  apply Array.toList_inj.mp
  simp [List.map_snd_zip]
 refine aa (seqEpoch_at h6 rfl (aa (listUpdate_at h6 rfl ?_ (hsz2:=by rw [show (arrOf (SortSt.mk' general' (bB.toArray.zip bB.toArray) #[] 7 none)).map (·.2)=bB.toArray from es,cb]; simp; lia))))
 simp only [bne_self_eq_false,aB,if_false]
 refine ai ?_
 rw [show (arrOf (SortSt.mk' general' (bB.toArray.zip bB.toArray) #[] 7 none)).map (·.2)=bB.toArray from es]
 exact done
theorem Ha{l:Addr}{bB:List Value}{Q:Value->aq->Prop}(hl:s.heap.IsList l bB.toArray)(lY:bB.length < 2)
  (done:Q (.ref (s.heap.objs.size+1)) { s with heap:=sortedAll s.heap bB bB.toArray }):wpAny (model prog w) A (call (.builtin "sorted") [.ref l]) Q E s:=by
 refine Calls.call_function_entry kind_sorted plain_sorted entry_sorted (args_sorted1 _) ?_
 unfold Builtin.«sorted»
 refine aa (m:=checkCount "sorted" 1 1 _) (ai (aa (collect_list hl (aa (wpAny_newList ?_)))))
 have e1:((s.heap.push (uc "list" #[] 0)).update s.heap.objs.size (iI (·++bB.toArray))).objs.size=s.heap.objs.size+1:=by rw [DC,size_push']
 have e2:(((s.heap.push (uc "list" #[] 0)).update s.heap.objs.size (iI (·++bB.toArray))).push (uc "list" bB.toArray 0)).get? (s.heap.objs.size+1)=some (uc "list" bB.toArray 0):=by
  rw [← e1]; exact bw _ rfl
 show wpAny _ _ _ _ _ { s with heap:=((s.heap.push (uc "list" #[] 0)).update s.heap.objs.size (iI (·++bB.toArray))).push (uc "list" bB.toArray 0) }
 rw [e1]
 refine aa (dq (cT slot_list_sort ⟨_,e2,rfl⟩ entry_list_sort (D4 e2 lY ⟨_,rfl,?_⟩) (args_list_sort _)))
 exact ai ⟨_,rfl,done⟩
end
section
open PySem.SeqAt
noncomputable def OF(A:dh)(s:aq)(y x:Value)(b:Bool):Prop :=
 ∀ (prog:bP) (w:World) (E:Value->aq->Prop) (Q:Bool->aq->Prop),Q b s->wpAny (model prog w) A (oneLt' true y x) Q E s
theorem Hm{A:dh}{s:aq}{l b:Addr}{xs ys:Array Value}{e lt:Nat->Bool}(hl:s.heap.IsList l xs)(hb:s.heap.IsList b ys)(hu:A.units < cLine)
  (he:∀ j (h1:j < xs.size) (h2:j < ys.size),EqAt A.in1 s xs[j] ys[j] (e j)/\zW A.in1 s xs[j] ys[j] (lt j)):OF A s (.ref l) (.ref b) (sx e lt xs.size ys.size (min xs.size ys.size) 0):=by
 intro prog w E Q hq
 obtain⟨⟨cls,dd,data,sl⟩,ho,hc,n,hd⟩:=id hl
 obtain⟨⟨Om,JJ,data2,B5⟩,E7,Fb,n2,hd2⟩:=id hb
 simp only at hc hd Fb hd2
 subst hc hd Fb hd2
 rw [oneLt'_eq]
 simp only [if_true]
 refine aa (wpAny_cRoomFor hu (aa (IG (T:="list") ⟨_,ho,rfl⟩ ue ?_)))
 exact zZ ue ⟨_,ho,rfl⟩ J7 (IJ _ _) (Bh l b xs ys n n2 dd JJ sl B5 e lt) ⟨ho,E7,he,ua hq⟩
theorem Eu{A:dh}{s:aq}{l b:Addr}{xs ys:Array Value}{e lt:Nat->Bool}(hl:s.heap.IsTuple l xs)(hb:s.heap.IsTuple b ys)(hu:A.units < cLine)
  (he:∀ j (h1:j < xs.size) (h2:j < ys.size),EqAt A.in1 s xs[j] ys[j] (e j)/\zW A.in1 s xs[j] ys[j] (lt j)):OF A s (.ref l) (.ref b) (sx e lt xs.size ys.size (min xs.size ys.size) 0):=by
 intro prog w E Q hq
 obtain⟨⟨cls,dd,data,sl⟩,ho,hc,n,hd⟩:=id hl
 obtain⟨⟨Om,JJ,data2,B5⟩,E7,Fb,n2,hd2⟩:=id hb
 simp only at hc hd Fb hd2
 subst hc hd Fb hd2
 rw [oneLt'_eq]
 simp only [if_true]
 refine aa (wpAny_cRoomFor hu (aa (IG (T:="tuple") ⟨_,ho,rfl⟩ lq ?_)))
 exact zZ lq ⟨_,ho,rfl⟩ sg (qf _ _) (yu l b xs ys n n2 dd JJ sl B5 e lt) ⟨ho,E7,he,ua hq⟩
theorem EZ{n:Nat}{A:dh}{s:aq}{xs ys:List D}{vs ws:Array Value}{as bs:List Addr}(r1:gv s.heap vs.toList (lh xs) as)(r2:gv s.heap ws.toList (lh ys) bs)(n1:pF xs=true)(n2:pF ys=true)(hd:cj (lh xs)<=n)
  (hu:A.units+n < cLine) (hs:∀ j,j < xs.length->j < ys.length->∃ sh,cS sh (xs.getD j .cY)=true/\cS sh (ys.getD j .cY)=true) (j:Nat) (h1:j < vs.size) (h2:j < ws.size) :
  EqAt A s vs[j] ws[j] (iy (xs.getD j .cY) (ys.getD j .cY))/\zW A s vs[j] ws[j] (mH (xs.getD j .cY) (ys.getD j .cY)):=by
 have z1:=readsAll_len r1
 have z2:=readsAll_len r2
 have e1:vs.size=xs.length:=by simpa using z1
 have e2:ws.size=ys.length:=by simpa using z2
 refine⟨CZ r1 r2 n1 n2 (by lia) j h1 h2,?_⟩
 obtain⟨VO,q1⟩:=jG r1 j (by simpa using h1)
 obtain⟨Rk,q2⟩:=jG r2 j (by simpa using h2)
 obtain⟨sh,g1,g2⟩:=hs j (by lia) (by lia)
 have dp:=kE xs j
 have:=yY n sh (xs.getD j .cY) (ys.getD j .cY) A s _ _ _ _ (by lia) g1 g2 (oQ n1 j) (oQ n2 j) q1 q2 hu
 simpa using this
theorem qG{n:Nat}{sh:mI}{a b:D}{A:dh}{s:aq}{u v:Value}{as bs:List Addr}(hn:(pd a).depth<=n)(h1:cS sh a=true)(h2:cS sh b=true)(n1:nr a=true)(n2:nr b=true)(r1:Reads s.heap u (pd a) as)(r2:Reads s.heap v (pd b) bs)
  (hu:A.units+n < cLine):OF A s u v (mH a b):=by
 cases sh with
 | int =>
  first | obtain⟨_,rfl⟩:=dD h1 | obtain⟨_,rfl⟩:=dA h1 | obtain⟨_,rfl⟩:=dB h1
  first | obtain⟨_,rfl⟩:=dD h2 | obtain⟨_,rfl⟩:=dA h2 | obtain⟨_,rfl⟩:=dB h2
  cases r1; cases r2
  intro prog w E Q hq
  exact oneLt_int hq
 | tup l =>
  first | obtain⟨_,rfl⟩:=dD h1 | obtain⟨_,rfl⟩:=dA h1 | obtain⟨_,rfl⟩:=dB h1
  first | obtain⟨_,rfl⟩:=dD h2 | obtain⟨_,rfl⟩:=dA h2 | obtain⟨_,rfl⟩:=dB h2
  rename_i xs ys
  have n1:pF xs=true:=n1
  have n2:pF ys=true:=n2
  cases r1 with
  | tuple k1 k2 k3 k4 =>
   cases r2 with
   | tuple m1 m2 m3 m4 =>
    rename_i p o vs c p' o' ws c'
    have hd:(pd (.tup xs)).depth=cj (lh xs)+1:=rfl
    obtain⟨n',rfl⟩:∃ n',n=n'+1:=⟨n - 1,by lia⟩
    have z1:=readsAll_len k4
    have z2:=readsAll_len m4
    have e1:vs.size=xs.length:=by simpa using z1
    have e2:ws.size=ys.length:=by simpa using z2
    have base:=Eu (A:=A) (s:=s) ⟨_,k1,k2,_,k3⟩ ⟨_,m1,m2,_,m3⟩ (by lia) (EZ (A:=A.in1) (n:=n') k4 m4 n1 n2 (by lia) (by show A.units+1+n' < cLine; lia) fun j j1 j2=>by
     obtain⟨sj,hsj,g1,g2⟩:=qW (l:=l) (ds:=xs) h1 j j1
     obtain⟨sj',aab,g1',Vg⟩:=qW (l:=l) (ds:=ys) h2 j j2
     rw [g2] at Vg; cases Vg
     exact⟨sj,g1,g1'⟩)
    have fin:=nS xs ys (min xs.length ys.length) 0 (cD _) rfl
    rw [e1,e2,fin] at base
    exact base
 | lst l =>
  first | obtain⟨_,rfl⟩:=dD h1 | obtain⟨_,rfl⟩:=dA h1 | obtain⟨_,rfl⟩:=dB h1
  first | obtain⟨_,rfl⟩:=dD h2 | obtain⟨_,rfl⟩:=dA h2 | obtain⟨_,rfl⟩:=dB h2
  rename_i xs ys
  have n1:pF xs=true:=n1
  have n2:pF ys=true:=n2
  cases r1 with
  | list k1 k2 k3 k4 =>
   cases r2 with
   | list m1 m2 m3 m4 =>
    rename_i p o vs c p' VO o' ws c' Rk
    have hd:(pd (.d0 xs)).depth=cj (lh xs)+1:=rfl
    obtain⟨n',rfl⟩:∃ n',n=n'+1:=⟨n - 1,by lia⟩
    have z1:=readsAll_len k4
    have z2:=readsAll_len m4
    have e1:vs.size=xs.length:=by simpa using z1
    have e2:ws.size=ys.length:=by simpa using z2
    have base:=Hm (A:=A) (s:=s) ⟨_,k1,k2,_,k3⟩ ⟨_,m1,m2,_,m3⟩ (by lia) (EZ (A:=A.in1) (n:=n') k4 m4 n1 n2 (by lia) (by show A.units+1+n' < cLine; lia) fun j j1 j2=>⟨l,qX (s:=l) (ds:=xs) h1 j j1,qX (s:=l) (ds:=ys) h2 j j2⟩)
    have fin:=nS xs ys (min xs.length ys.length) 0 (cD _) rfl
    rw [e1,e2,fin] at base
    exact base
theorem CJ{prog:bP}{w:World}{A:dh}{s:aq}{b fin:Bool}{Q:Bool->aq->Prop}{n:Nat}(hu:A.units+n < cLine):∀ (l:List mI) (xs ys:List D) (vs ws:List Value) (as bs:List Addr) (i:Nat),e8 l xs=true->e8 l ys=true->pF xs=true->pF ys=true ->
  gv s.heap vs (lh xs) as->gv s.heap ws (lh ys) bs->cj (lh xs)<=n->fin=false->Q (mG xs ys) s->KatLex prog w A b fin Q (vs.zip ws) i s:=by
 intro l xs
 induction xs generalizing l with
 | nil =>
  intro ys vs ws as bs i h1 h2 n1 n2 r1 r2 hd hf hq
  cases r1
  cases l with
  | nil =>
   cases ys with
   | nil=>cases r2; subst hf; exact hq
   | cons _ _=>cases h2
  | cons _ _=>cases h1
 | cons x xs ih =>
  intro ys vs ws as bs i h1 h2 n1 n2 r1 r2 hd hf hq
  cases l with
  | nil=>cases h1
  | cons sh l =>
  cases ys with
  | nil=>cases h2
  | cons y ys =>
  cases r1 with
  | @cons v vs _ _ _ _ a1 a2 =>
  cases r2 with
  | @cons u ws _ _ _ _ b1 b2 =>
  have h1:(cS sh x&&e8 l xs)=true:=h1
  have h2:(cS sh y&&e8 l ys)=true:=h2
  have n1:(nr x&&pF xs)=true:=n1
  have n2:(nr y&&pF ys)=true:=n2
  rw [aH] at h1 h2 n1 n2
  have hd1:(pd x).depth<=n/\cj (lh xs)<=n:=by
   have hd:cj (pd x :: lh xs)<=n:=hd
   simp only [cj] at hd
   lia
  show KatLex prog w A b fin Q ((v,u) :: vs.zip ws) i s
  have eq:=eqAt_reads (pd x) (pd y) A s _ _ _ _ a1 b1 (jM _ n1.1) (jM _ n2.1) (by lia)
  rw [tS _ _ n1.1 n2.1] at eq
  refine kat_cons (eq prog w _ _ ?_)
  rw [oW] at hq
  cases q:iy x y with
  | true =>
   rw [q,if_pos rfl] at hq
   exact kat_yes (ih l ys vs ws _ _ (i+1) h1.2 h2.2 n1.2 n2.2 a2 b2 hd1.2 hf hq)
  | false =>
   rw [q,if_neg (by simp)] at hq
   refine kat_no ?_
   cases c:(b&&i == 0) with
   | true=>exact qG hd1.1 h1.1 h2.1 n1.1 n2.1 a1 b1 hu prog w _ Q hq
   | false=>exact kat_one v u (yY n sh x y A s _ _ _ _ hd1.1 h1.1 h2.1 n1.1 n2.1 a1 b1 hu prog w _ _ hq)
end
noncomputable def kJ{α:Type}(n:Nat)(P:α->Prop):KasT α->Prop
 | .ret a=>P a
 | .ask i j k=>i < n/\j < n/\∀ b,kJ n P (k b)
theorem kJ.bind{α β:Type}{n:Nat}{P:α->Prop}{P':β->Prop}{f:α->KasT β}:∀ {t:KasT α},kJ n P t->(∀ a,P a->kJ n P' (f a))->kJ n P' (t.bind f)
 | .ret a,q,h=>h a q
 | .ask i j k,⟨q1,q2,q3⟩,h=>⟨q1,q2,fun b=>kJ.bind (q3 b) h⟩
theorem zh{α:Type}{n:Nat}{lt:Nat->Nat->Bool}{cmp:Nat->Nat->(Bool->aq->Prop)->aq->Prop}{s:aq}{Q:α->aq->Prop}(hc:∀ i j,i < n->j < n->∀ C:Bool->aq->Prop,C (lt i j) s->cmp i j C s) :
  ∀ (t:KasT α),kJ n (fun _=>True) t->Q (g4 lt t) s->t.kasWp cmp Q s
 | .ret a,_,q=>q
 | .ask i j k,⟨h1,h2,h3⟩,q=>hc i j h1 h2 _ (zh hc (k (lt i j)) (h3 _) q)
noncomputable def Bd(n:Nat)(p:Array Nat):Prop:=0 < n/\∀ x∈p,x < n
theorem Bd.at{n:Nat}{p:Array Nat}(h:Bd n p)(k:Nat):p.getD k 0 < n:=by
 by_cases hk:k < p.size
 ·have:p.getD k 0=p[k]:=by simp [qg,hk]
  rw [this]; exact h.2 _ (Array.getElem_mem hk)
 ·have:p.getD k 0=0:=by simp [qg,hk]
  rw [this]; exact h.1
theorem Bd.perm{n:Nat}{p q:Array Nat}(h:Bd n p)(hp:q.Perm p):Bd n q:=⟨h.1,fun x hx=>h.2 x (hp.mem_iff.mp hx)⟩
theorem Dh{n:Nat}{p:Array Nat}(h:Bd n p):∀ (f k:Nat),kJ n (fun _=>True) (qc p f k)
 | 0,k=>trivial
 | f+1,k=>⟨h.at _,h.at _,fun b=>by
  show kJ n _ (if b=true then vL k else qc p f (k+1))
  split
  ·trivial
  ·exact Dh h f (k+1)⟩
theorem vr{n:Nat}:∀ (f:Nat) (p:Array Nat) (k q:Nat),Bd n p->kJ n (fun r=>Bd n r.1) (kK f p k q)
 | 0,p,k,q,h=>h
 | f+1,p,k,q,h=>⟨h.at _,h.at _,fun b=>by
  show kJ n _ (if b=true then (if q > 0 then kK f (gk p (k - (q+1)) k) (k+1) 0 else kK f p (k+1) 0) else .ask (p.getD (k - 1) 0) (p.getD k 0) fun d=>if d=true then .ret (p,k,q) else kK f p (k+1) (q+1))
  split
  ·split
   ·exact vr f _ _ _ (h.perm (jF _ _ _))
   ·exact vr f _ _ _ h
  ·refine⟨h.at _,h.at _,fun d=>?_⟩
   show kJ n _ (if d=true then vL (p,k,q) else kK f p (k+1) (q+1))
   split
   ·exact h
   ·exact vr f _ _ _ h⟩
theorem FI{n:Nat}{p:Array Nat}(h:Bd n p)(k m:Nat):kJ n (fun r=>Bd n r.2) (LV k m p) :=
 kJ.bind (Dh (h.perm (jF _ _ _)) _ _) fun _ _=>h.perm (jF _ _ _)
theorem vq{n:Nat}{p:Array Nat}(h:Bd n p)(k m:Nat):kJ n (fun r=>Bd n r.2) (yi k m p) :=
 kJ.bind (vr _ _ _ _ h) fun r hr=>by
  split
  ·exact FI (hr.perm (jF _ _ _)) _ _
  ·exact FI hr _ _
theorem Lg{n:Nat}{p:Array Nat}(h:Bd n p)(m:Nat):kJ n (fun r=>Bd n r.2) (kas_count m p) :=
 kJ.bind (Dh h _ _) fun k _=>by
  split
  ·exact h
  ·split
   ·refine⟨h.at _,h.at _,fun b=>?_⟩
    show kJ n _ (if b=true then vL (k,p) else yi k m (gk p 0 k))
    split
    ·exact h
    ·exact vq (h.perm (jF _ _ _)) _ _
   ·exact vq h _ _
theorem wN{n:Nat}{p:Array Nat}(h:Bd n p)(k:Nat):∀ (f l r:Nat),kJ n (fun _=>True) (jz p k f l r)
 | 0,l,r=>trivial
 | f+1,l,r=>by
  show kJ n _ (if l>=r then vL l else .ask (p.getD k 0) (p.getD ((l+r) / 2) 0) fun c=>if c=true then jz p k f l ((l+r) / 2) else jz p k f ((l+r) / 2+1) r)
  split
  ·trivial
  ·refine⟨h.at _,h.at _,fun b=>?_⟩
   show kJ n _ (if b=true then jz p k f l ((l+r) / 2) else jz p k f ((l+r) / 2+1) r)
   split
   ·exact wN h k f _ _
   ·exact wN h k f _ _
theorem JZ{n:Nat}:∀ (f:Nat) (p:Array Nat) (k:Nat),Bd n p->kJ n (fun _=>True) (kas_bin f p k)
 | 0,p,k,h=>trivial
 | f+1,p,k,h=>kJ.bind (wN h k _ _ _) fun l _=>JZ f _ _ (h.perm (bubble_perm _ _ _))
theorem FJ{n:Nat}(h:0 < n):kJ n (fun _=>True) (kas_sort n) :=
 kJ.bind (Lg ⟨h,fun x hx=>by simpa using hx⟩ n) fun r hr=>by
  split
  ·exact JZ _ _ _ hr
  ·trivial
end K2
end
section
namespace K2
open PySem PySem.Spec PyProof.Rows L2 PySem.W
mutual
theorem qx{h h':Heap}(hk:∀ b o vs n,o.data=.seq vs n->h.get? b=some o->h'.get? b=some o):∀ (d:D) {v:Value} {as:List Addr},nr d=true->Reads h v (pd d) as->Reads h' v (pd d) as
 | .cY,_,_,_,r=>by cases r; exact .none
 | .bl b,_,_,_,r=>by cases r; exact .bool b
 | .int i,_,_,_,r=>by cases r; exact .int i _
 | .str x,_,_,_,r=>by cases r; exact .str x _
 | .tup ds,_,_,n,r=>by
  cases r with
  | tuple h1 h2 h3 h4=>exact .tuple (hk _ _ _ _ h3 h1) h2 h3 (lO hk ds n h4)
 | .d0 ds,_,_,n,r=>by
  cases r with
  | list h1 h2 h3 h4=>exact .list (hk _ _ _ _ h3 h1) h2 h3 (lO hk ds n h4)
 | .pC _,_,_,n,_=>by cases n
 | .ref _,_,_,n,_=>by cases n
 | .exc _,_,_,n,_=>by cases n
theorem lO{h h':Heap}(hk:∀ b o vs n,o.data=.seq vs n->h.get? b=some o->h'.get? b=some o):∀ (ds:List D) {vs:List Value} {as:List Addr},pF ds=true->gv h vs (lh ds) as->gv h' vs (lh ds) as
 | [],_,_,_,r=>by cases r; exact .nil
 | d :: ds,_,_,n,r=>by
  have n:(nr d&&pF ds)=true:=n
  rw [aH] at n
  cases r with
  | cons r1 r2=>exact .cons (qx hk d n.1 r1) (lO hk ds n.2 r2)
end
mutual
theorem B3(G:Gp):∀ (sh:mI) (d:D) (n:Nat),cS sh d=true->Qw sh<=n->Sn G n d d
 | .int,.int i,n,_,_=>.int i
 | .tup l,.tup ds,n,h,hn=>by
  have hn:Oa l+1<=n:=hn
  obtain⟨m,rfl⟩:∃ m,n=m+1:=⟨n - 1,by lia⟩
  exact IX G l ds m h (by lia)
 | .lst s,.d0 ds,n,h,hn=>by
  have hn:Qw s+1<=n:=hn
  obtain⟨m,rfl⟩:∃ m,n=m+1:=⟨n - 1,by lia⟩
  exact IY G s ds m h (by lia)
theorem IX(G:Gp):∀ (l:List mI) (ds:List D) (m:Nat),e8 l ds=true->Oa l<=m->Sn G (m+1) (.tup ds) (.tup ds)
 | [],[],m,_,_=>.GU
 | s :: l,d :: ds,m,h,hm=>by
  have h:(cS s d&&e8 l ds)=true:=h
  have hm:max (Qw s) (Oa l)<=m:=hm
  rw [aH] at h
  exact .qm (B3 G s d m h.1 (by lia)) (IX G l ds m h.2 (by lia))
theorem IY(G:Gp):∀ (s:mI) (ds:List D) (m:Nat),gs s ds=true->Qw s<=m->Sn G (m+1) (.d0 ds) (.d0 ds)
 | s,[],m,_,_=>.Ca
 | s,d :: ds,m,h,hm=>by
  have h:(cS s d&&gs s ds)=true:=h
  rw [aH] at h
  exact .xb (B3 G s d m h.1 hm) (IY G s ds m h.2 hm)
end
theorem getD_at{α:Type}(xs:List α)(d:α){i:Nat}(h:i < xs.length):xs.getD i d=xs[i]:=by
 rw [aL,ah h]; rfl
theorem lU{α:Type}(xs:List α)(d:α):(cG xs.length).map (fun i=>xs.getD i d)=xs:=by
 refine List.ext_getElem (by simp) fun i h1 h2=>?_
 rw [gq,List.getElem_range]
 exact getD_at _ _ h2
theorem wY{h:Heap}{s1:mI}{l:List mI}:∀ (zs:List D) (vs:List Value),(∀ z∈zs,cS (.tup (s1 :: l)) z=true)->(∀ i,i < vs.length->∃ as,Reads h (vs.getD i .none) (pd (zs.getD i .cY)) as)->vs.length=zs.length ->
  ∃ fs,KatTups h vs fs/\fs.length=vs.length/\∀ f∈fs,∃ d as,cS s1 d=true/\Reads h f (pd d) as:=by
 intro zs
 induction zs with
 | nil =>
  intro vs _ _ h
  have:vs=[]:=List.length_eq_zero_iff.mp h
  subst this
  exact⟨[],trivial,rfl,fun _ h=>by cases h⟩
 | cons z zs ih =>
 intro vs hs hr hl
 cases vs with
 | nil=>cases hl
 | cons v vs =>
  obtain⟨fs,h1,h2,h3⟩:=ih vs (fun z hz=>hs z (av _ hz)) (fun i hi=>by
   obtain⟨as,r⟩:=hr (i+1) (by simpa using hi)
   exact⟨as,by simpa using r⟩) (by simpa using hl)
  obtain⟨as,r⟩:=hr 0 (by simp)
  have hz:=hs z (by simp)
  simp only [List.getD_cons_zero] at r
  cases z <;> first | (cases hz; done) | skip
  rename_i ds
  cases ds with
  | nil=>cases hz
  | cons d ds =>
   have hz:(cS s1 d&&e8 l ds)=true:=hz
   rw [aH] at hz
   cases r with
   | tuple k1 k2 k3 k4 =>
    rename_i p o ws c
    have k5:gv h ws.toList (pd d :: lh ds) as:=k4
    cases q:ws.toList with
    | nil=>rw [q] at k5; cases k5
    | cons f rest =>
     rw [q] at k5
     cases k5 with
     | cons r1 r2 =>
      have hf:ws[0]?=some f:=by
       have:ws.toList[0]?=some f:=by rw [q]; rfl
       simpa using this
      refine⟨f :: fs,.cons k1 k2 k3 hf h1,by simp [h2],fun g hg=>?_⟩
      rcases List.mem_cons.mp hg with rfl | hg
      ·exact⟨d,_,hz.1,r1⟩
      ·exact h3 g hg
noncomputable def DW:mI->Value
 | .int=>.type "int"
 | .tup _=>.type "tuple"
 | .lst _=>.type "list"
theorem sd{M:Model}{h:Heap}{sh:mI}{d:D}{v:Value}{as:List Addr}(hs:cS sh d=true)(r:Reads h v (pd d) as):Looks M h (typeOf v) (DW sh):=by
 cases sh with
 | int =>
  cases d <;> first | (cases hs; done) | skip
  cases r
  exact .now
 | tup l =>
  cases d <;> first | (cases hs; done) | skip
  cases r with
  | tuple k1 k2 k3 k4 =>
   rename_i p o ws c
   have:Looks M h (typeOf (.ref p)) o.cls:=(Looks.ld k1).andThen .now
   rw [k2] at this; exact this
 | lst l =>
  cases d <;> first | (cases hs; done) | skip
  cases r with
  | list k1 k2 k3 k4 =>
   rename_i p o ws c as
   have:Looks M h (typeOf (.ref p)) o.cls:=(Looks.ld k1).andThen .now
   rw [k2] at this; exact this
theorem Bi{prog:bP}{w:World}{A:dh}{s:aq}{E:Value->aq->Prop}{Q:Bool->aq->Prop}{n:Nat}{b:Bool}{l:List mI}{a c:D}{u v:Value}{as bs:List Addr}(hn:(pd a).depth<=n+1)(h1:cS (.tup l) a=true)(h2:cS (.tup l) c=true)(n1:nr a=true)(n2:nr c=true)
  (r1:Reads s.heap u (pd a) as) (r2:Reads s.heap v (pd c) bs) (hu:A.units+n < cLine) (hq:Q (mH a c) s):wpAny (model prog w) A (keyLt' (tuples' b) u v) Q E s:=by
 first | obtain⟨_,rfl⟩:=dD h1 | obtain⟨_,rfl⟩:=dA h1 | obtain⟨_,rfl⟩:=dB h1
 first | obtain⟨_,rfl⟩:=dD h2 | obtain⟨_,rfl⟩:=dA h2 | obtain⟨_,rfl⟩:=dB h2
 rename_i xs ys
 cases r1 with
 | tuple k1 k2 k3 k4 =>
  cases r2 with
  | tuple m1 m2 m3 m4 =>
   rename_i p o vs c p' o' ws c'
   have z1:=readsAll_len k4
   have z2:=readsAll_len m4
   have e1:vs.size=xs.length:=by simpa using z1
   have e2:ws.size=ys.length:=by simpa using z2
   have el:∀ (l:List mI) (xs ys:List D),e8 l xs=true->e8 l ys=true->xs.length=ys.length:=by
    intro l
    induction l with
    | nil =>
     intro xs ys h1 h2
     cases xs with
     | nil=>cases ys with
      | nil=>rfl
      | cons _ _=>cases h2
     | cons _ _=>cases h1
    | cons s l ih =>
     intro xs ys h1 h2
     cases xs with
     | nil=>cases h1
     | cons x xs =>
      cases ys with
      | nil=>cases h2
      | cons y ys =>
       have h1:(cS s x&&e8 l xs)=true:=h1
       have h2:(cS s y&&e8 l ys)=true:=h2
       rw [aH] at h1 h2
       rw [ak,ak,ih xs ys h1.2 h2.2]
   have hd:(pd (.tup xs)).depth=cj (lh xs)+1:=rfl
   refine kat_lt k1 k3 m1 m3 (CJ (n:=n) hu l xs ys _ _ _ _ 0 h1 h2 n1 n2 k4 m4 (by lia) (decide_eq_false (by rw [e1,e2,el l xs ys h1 h2]; lia)) hq)
section
variable {X:Cx}
theorem KO{x:D}{G:Gp}{zs:List D}(ty:AW x G)(hi:itemsOf x G=some zs):pH x G=some zs:=by
 cases x <;> first | exact ty.elim | exact hi
theorem C6 (hc:X.calm=true) (hu:X.A.units+64 < cLine):wU X (.builtin "sorted") ye:=by
 intro pins s σ H G xs ds us Q I ab rx rd q
 unfold ye at q
 split at q
 ·rename_i x
  obtain⟨sh,zs,ty,hi,qY,cM,h64,q⟩:=q
  obtain⟨w1,rfl,Ku⟩:=rd.one
  obtain⟨u,rfl,ru⟩:=rx.one
  obtain⟨l,vs,bB,rfl,rv,rs,hl,_⟩:=mw I ab ru Ku (KO ty hi)
  have Q7:=rv.length
  have SJ:=rs.length
  have hsz:bc=16777216:=cb
  have hz:∀ z∈zs,cS sh z=true:=fun z h=>List.all_eq_true.mp qY z h
  by_cases lY:bB.length < 2
  ·refine Ha hl lY ?_
   obtain⟨e,he⟩:=sortedAll_at s.heap bB bB.toArray
   have hp:H (s.heap.objs.size+1)=none:=I.cM.fresh (Nat.le_succ _)
   have es:mO zs=zs:=lC sh hz (.refl _) (by
    match zs,SJ,lY with
    | [],_,_=>exact .nil
    | [z],_,_=>exact Lv _ _
    | _ :: _ :: _,h,f=>exact absurd f (by rw [← Q7,h]; simp))
   rw [es] at q
   refine⟨.ref (s.heap.objs.size+1),upd H (s.heap.objs.size+1) (.lst vs),.ref _,_,I.laid (t':=s.toks) (fun b o e=>sortedAll_old e) (Nat.le_succ _) ?_,.Ax ab hp rs,rfl,.ref _,q _ (ab.free hp)⟩
   exact⟨by lia,bB,e,rv,he⟩
  ·obtain⟨m,F0⟩:=I.fr
   have nz:0 < zs.length:=by lia
   have nL:∀ b o vs n,o.data=.seq vs n->s.heap.get? b=some o->b≠X.env.locals:=fun b o vs n e1 e2 z=>by
    obtain⟨o',es,ep,NL,Ag,_⟩:=F0.ns
    rw [z,NL] at e2; cases e2; rw [Ag] at e1; cases e1
   unfold M4 at cM
   rw [aH] at cM
   have hdp:Qw sh<=7:=of_decide_eq_true cM.1
   have sn:∀ z∈zs,Sn G 7 z z:=fun z h=>B3 G sh z 7 (hz z h) hdp
   refine kat_sorted F0 yS hl (by lia) (by lia) fun Dd e1 h' F N nB=>?_
   obtain⟨kk,ns⟩:=lJ I F0 F fun p hp=>N p (av _ hp)
   have yG:∀ i,i < bB.length->∃ as,Reads h' (bB.getD i .none) (pd (zs.getD i .cY)) as:=fun i hi=>by
    have i1:i < zs.length:=by lia
    have i2:i < vs.length:=by lia
    have g1:zs.getD i .cY=zs[i]:=getD_at _ _ i1
    have g2:bB.getD i .none=bB[i]:=getD_at _ _ hi
    obtain⟨v,hv,RU⟩:=rs.get (ah i1)
    obtain⟨u,x9,RR⟩:=rv.get hv
    rw [ah hi] at x9
    cases x9
    obtain⟨as,r⟩:=(gW I ab (sn _ (bT i1))).1 v _ RU RR
    rw [g1,g2]
    exact⟨as,qx (fun b o vs n e1 e2=>kk b o (nL b o vs n e1 e2) e2) _ (sn _ (bT i1)).nr r⟩
   have wZ:∀ i,i < zs.length->cS sh (zs.getD i .cY)=true:=fun i hi=>by rw [getD_at _ _ hi]; exact hz _ (bT hi)
   have Qb:∀ i,i < zs.length->nr (zs.getD i .cY)=true:=fun i hi=>by rw [getD_at _ _ hi]; exact(sn _ (bT hi)).nr
   have Vo:∀ i,i < zs.length->(pd (zs.getD i .cY)).depth<=7:=fun i hi=>by rw [getD_at _ _ hi]; exact zC (sn _ (bT hi))
   let zz:Nat->D:=fun i=>if i < zs.length then zs.getD i .cY else zs.getD 0 .cY
   have Mb:∀ i,cS sh (zz i)=true:=fun i=>by
    show cS sh (if i < zs.length then zs.getD i .cY else zs.getD 0 .cY)=true
    split
    ·exact wZ i (by assumption)
    ·exact wZ 0 nz
   let lt:Nat->Nat->Bool:=fun i j=>mH (zz i) (zz j)
   have W4:J0 lt:=⟨fun i j h=>wb sh (Mb i) (Mb j) h,fun i j k h1 h2=>tH sh (Mb i) (Mb j) (Mb k) h1 h2⟩
   have Uz:∀ i j,i < zs.length->j < zs.length->lt i j=mH (zs.getD i .cY) (zs.getD j .cY):=fun i j hi hj=>by
    show mH (if i < zs.length then _ else _) (if j < zs.length then _ else _)=_
    rw [if_pos hi,if_pos hj]
   obtain⟨p,ep,qU,Ue,Z8⟩:=Ec W4 (n:=bB.length) (by lia)
   have Ve:X.A.in1.in1.units=X.A.units+2:=rfl
   have ask:∀ κ:SortKind,(∀ i j,i < bB.length->j < bB.length->∀ C:Bool->aq->Prop,C (mH (zs.getD i .cY) (zs.getD j .cY)) { s with heap:=h' }->kas_ask X.prog X.w X.A.in1.in1 κ bB i j C { s with heap:=h' }) ->
     (kas_sort bB.length).kasWp (kas_ask X.prog X.w X.A.in1.in1 κ bB) (fun p RQ=>KasFin X.base X.env.locals m Dd e1 (p.toList.map fun i=>bB.getD i dE) (fun s3=>t4 X pins σ H G Q (.ref Dd) s3) RQ) { s with heap:=h' }:=by
    intro κ hk
    refine zh (lt:=lt) (n:=bB.length) (fun i j i1 i2 C hC=>hk i j i1 i2 C (by rw [← Uz i j (by lia) (by lia)]; exact hC)) _ (FJ (by lia)) ?_
    rw [ep]
    refine KasFin.intro (g:=fun o=>(Dd,o) :: pv X.base s.heap X.env.locals) F N (.head (fun q hq z=>absurd (nB q hq) (by rw [z]; exact ff _))) fun h2 c F2 N2=>?_
    obtain⟨k2,Y1⟩:=lJ I F0 F2 fun p hp=>N2 p (av _ hp)
    have hD:s.heap.get? Dd=none:=by
     have nD:=N _ aE
     cases qd:s.heap.get? Dd with
     | none=>rfl
     | some o=>exact absurd (nB _ (mR nD.2.1 nD.2.2 qd)) (ff _)
    have hp:H Dd=none:=yb I.cM hD
    have Xw:Vals (p.toList.map fun i=>vs.getD i .cY) (p.toList.map fun i=>bB.getD i dE):=by
     have:∀ (ps:List Nat),(∀ i∈ps,i < bB.length)->Vals (ps.map fun i=>vs.getD i .cY) (ps.map fun i=>bB.getD i dE):=by
      intro ps
      induction ps with
      | nil=>intro _; exact .nil
      | cons i ps ih =>
       intro hh
       have hi:=hh i (by simp)
       refine .cons ?_ (ih fun j hj=>hh j (av _ hj))
       have i2:i < vs.length:=by lia
       obtain⟨u,x9,RR⟩:=rv.get (ah i2)
       rw [ah hi] at x9
       cases x9
       show RelV (vs.getD i .cY) (bB.getD i .none)
       rw [getD_at _ _ i2,getD_at _ _ hi]; exact RR
     exact this _ fun i hi=>by simpa using qU.mem_iff.mp hi
    have Xy:bb X.K H (p.toList.map fun i=>vs.getD i .cY) (p.toList.map fun i=>zs.getD i .cY):=by
     have:∀ (ps:List Nat),(∀ i∈ps,i < bB.length)->bb X.K H (ps.map fun i=>vs.getD i .cY) (ps.map fun i=>zs.getD i .cY):=by
      intro ps
      induction ps with
      | nil=>intro _; exact .nil
      | cons i ps ih =>
       intro hh
       have hi:=hh i (by simp)
       refine .cons ?_ (ih fun j hj=>hh j (av _ hj))
       have i2:i < vs.length:=by lia
       have i1:i < zs.length:=by lia
       obtain⟨v,hv,r⟩:=rs.get (ah i1)
       rw [ah i2] at hv
       cases hv
       show cL X.K H (vs.getD i .cY) (zs.getD i .cY)
       rw [getD_at _ _ i2,getD_at _ _ i1]; exact r
     exact this _ fun i hi=>by simpa using qU.mem_iff.mp hi
    have es:mO zs=p.toList.map fun i=>zs.getD i .cY:=by
     refine lC sh hz ?_ ?_
     ·have h1:(p.toList.map fun i=>zs.getD i .cY).Perm ((cG zs.length).map fun i=>zs.getD i .cY):=by
       have:bB.length=zs.length:=by lia
       rw [← this]
       exact qU.map _
      rw [lU] at h1
      exact h1
     ·rw [gT,IL]
      intro i j hi hj K0
      have g1:gA p i=p.toList[i]:=by
       have:i < p.size:=by simpa using hi
       simp [gA,qg,this]
      have g2:gA p j=p.toList[j]:=by
       have:j < p.size:=by simpa using hj
       simp [gA,qg,this]
      have bi:p.toList[i] < bB.length:=by simpa using qU.mem_iff.mp (bT hi)
      have bj:p.toList[j] < bB.length:=by simpa using qU.mem_iff.mp (bT hj)
      have:=Z8 i j (by lia) (by have:j < p.toList.length:=hj; rw [br,Ue] at this; exact this)
      rw [g1,g2,Uz _ _ (by lia) (by lia)] at this
      exact this
    rw [es] at q
    have ln:(p.toList.map fun i=>vs.getD i .cY).length<=bc:=by rw [aj,br,Ue]; lia
    refine⟨.ref Dd,upd H Dd (.lst (p.toList.map fun i=>vs.getD i .cY)),.ref _,_,Inv.Jt (t':=s.toks) I k2 Y1 hD ?_,.Ax ab hp Xy,rfl,.ref _,q _ (ab.free hp)⟩
    exact⟨ln,_,c,Xw,(N2 _ aE).1⟩
   have gen:∀ i j,i < bB.length->j < bB.length->∀ C:Bool->aq->Prop,C (mH (zs.getD i .cY) (zs.getD j .cY)) { s with heap:=h' }->wpAny (model X.prog X.w) X.A.in1.in1 (keyLt' Lu (bB.getD i dE) (bB.getD j dE)) C (fun _ _=>False) { s with heap:=h' }:=by
    intro i j hi hj C hC
    obtain⟨as,r1⟩:=yG i hi
    obtain⟨bs,r2⟩:=yG j hj
    rw [keyLt'_oneType]
    exact qG (s:={ s with heap:=h' }) (n:=7) (Vo i (by lia)) (wZ i (by lia)) (wZ j (by lia)) (Qb i (by lia)) (Qb j (by lia)) r1 r2 (by rw [Ve]; lia) X.prog X.w _ C hC
   have lk:∀ v∈bB,Looks (model X.prog X.w) h' (typeOf v) (DW sh):=fun v hv=>by
    obtain⟨i,hi,rfl⟩:=dI hv
    obtain⟨as,r⟩:=yG i hi
    rw [getD_at _ _ hi] at r
    exact sd (wZ i (by lia)) r
   cases sh with
   | int=>exact kas_kind (s:={ s with heap:=h' }) (T:=.type "int") (by lia) lk rfl rfl (ask Lu gen)
   | lst ss=>exact kas_kind (s:={ s with heap:=h' }) (T:=.type "list") (by lia) lk rfl rfl (ask Lu gen)
   | tup ss =>
    cases ss with
    | nil=>exact absurd cM.2 (by simp)
    | cons s1 ss =>
     obtain⟨fs,t1,t2,t3⟩:=wY (h:=h') zs bB hz yG (by lia)
     refine kat_kind (s:={ s with heap:=h' }) (T:=DW s1) t1 (by lia) (fun f hf=>?_) (by cases s1 <;> rfl) (ask _ fun i j hi hj C hC=>?_)
     ·obtain⟨d,as,h1,h2⟩:=t3 f hf
      exact sd h1 h2
     ·obtain⟨as,r1⟩:=yG i hi
      obtain⟨bs,r2⟩:=yG j hj
      exact Bi (s:={ s with heap:=h' }) (n:=7) (by have:=Vo i (by lia); lia) (wZ i (by lia)) (wZ j (by lia)) (Qb i (by lia)) (Qb j (by lia)) r1 r2 (by rw [Ve]; lia) hC
 ·exact q.elim
end
end K2
end
section
namespace L2
open PySem PySem.Spec PyProof.Rows
section
variable {prog:bP} {w:World} {A:dh} {E:Value->aq->Prop} {s:aq}
theorem HJ{d:Addr}{od:Obj}{es:Array jB}{c:Nat}{Q:Value->aq->Prop}(ns:(d == eU)=false)(xf:s.heap.get? d=some od)(ex:od.ExactDict)(dd:od.data=.dict es c)
  (hQ:Q (.ref s.heap.objs.size) { s with heap:=s.heap.push { cls:=.type "dict_keyiterator",data:=.fields #[.ref d,.int 0 0,.int es.size 0,.int c 0] } }):wpAny (model prog w) A (AM (.ref d)) Q E s:=by
 have ty:s.TypeIs (.ref d) "dict":=⟨od,xf,ex.1⟩
 refine jP ty F.slot_dict_iter (cT F.slot_dict_iter ty F.entry_dict_iter ?_ (F.args_dict_iter_1 _))
 unfold Builtin.«dict.__iter__» Builtin.Dict.dictSlotNone
 refine aa (aa (yg ty (show wpAny _ _ (pure (dv d)) _ _ s from ai ?_)))
 show wpAny _ _ (hZ d >>= _) _ _ s
 unfold hZ
 rw [if_neg (fun z=>by rw [ns] at z; cases z)]
 refine aa (ai (aa (dU xf dd (aa (ia xf dd ?_)))))
 refine aa (cO (ai ⟨_,rfl,"dict_keyiterator",_,⟨_,bw _ rfl,rfl⟩,F.slot_dict_keyiterator_next.lookup,?_⟩))
 simpa [pz] using hQ
theorem KU{it d:Addr}{od:Obj}{es:Array jB}{i c:Nat}{Q:Option Value->aq->Prop}(ki:s.heap.IsKeyIter it d i es.size c)(xf:s.heap.get? d=some od)(dd:od.data=.dict es c)(hi:i < es.size)
  (hQ:∀ h',h'.IsKeyIter it d (i+1) es.size c->fK it s.heap h'->Q (some es[i].key) { s with heap:=h' }):wpAny (model prog w) A (p9 (.ref it)) Q E s:=by
 obtain⟨o,ho,hc,hf⟩:=id ki
 unfold p9
 refine aa (jQ (eK (name:=mB "__next__") ki.typeIs ja (cT ja ki.typeIs GJ ?_ (Gg _))))
 refine aa (ai (aa (aa ?_)))
 first | refine aa (iT ki.typeIs (ai ?_)) | refine aa (lb ki.typeIs (ai ?_))
 refine aa (i8 ho hf ?_)
 have R5:eW "dict_keyiterator" = false:=by decide
 rw [R5]
 show wpAny _ _ (if (dv d == dE)=true then _ else _) _ _ s
 rw [if_neg (fun z=>by cases z)]
 refine aa (ai (aa (dU xf dd ?_)))
 rw [if_neg (by simp)]
 refine aa (ai (aa (ia xf dd ?_)))
 rw [if_neg (by simp)]
 refine ai ?_
 dsimp only
 rw [if_neg (show ¬ ((i:Int) < 0) from Int.not_lt.mpr (kW i)),bH,aX hi]
 dsimp only
 refine aa ?_
 first | refine aa (iT ki.typeIs (ai ?_)) | refine aa (lb ki.typeIs (ai ?_))
 refine aa (wpAny_isOneOf_keyiter ki.typeIs ?_)
 show wpAny _ _ (Ls (.ref it) 1 (pz ((i:Int)+1)) >>= _) _ _ s
 refine aa (ko ho hf (by simp) ?_)
 have ki2:(s.heap.update it (kU (·.setIfInBounds 1 (pz ((i:Int)+1))))).IsKeyIter it d (i+1) es.size c :=
  ⟨_,eu _ ho (mD (dW hf _)),(sk ..).trans hc,by rw [dW hf]; simp [pz]⟩
 refine aa (dq (aa (wpAny_isOneOf_keyiter (s:={ s with heap:=s.heap.update it (kU (·.setIfInBounds 1 (pz ((i:Int)+1)))) }) ki2.typeIs ?_)))
 show wpAny _ _ (pure es[i].key) _ _ _
 exact ai (ai ⟨_,rfl,ai (hQ _ ki2 (cq ..))⟩)
theorem Np{it d:Addr}{od:Obj}{es:Array jB}{i c:Nat}{Q:Option Value->aq->Prop}(calm:A.handled=none)(ki:s.heap.IsKeyIter it d i es.size c)(xf:s.heap.get? d=some od)(dd:od.data=.dict es c)(hi:es.size<=i)
  (hQ:∀ h',Heap.ExtBut it s.heap h'->Q none { s with heap:=h' }):wpAny (model prog w) A (p9 (.ref it)) Q E s:=by
 obtain⟨o,ho,hc,hf⟩:=id ki
 unfold p9
 refine aa (jQ (eK (name:=mB "__next__") ki.typeIs ja (cT ja ki.typeIs GJ ?_ (Gg _))))
 refine aa (ai (aa (aa ?_)))
 first | refine aa (iT ki.typeIs (ai ?_)) | refine aa (lb ki.typeIs (ai ?_))
 refine aa (i8 ho hf ?_)
 have R5:eW "dict_keyiterator" = false:=by decide
 rw [R5]
 show wpAny _ _ (if (dv d == dE)=true then _ else _) _ _ s
 rw [if_neg (fun z=>by cases z)]
 refine aa (ai (aa (dU xf dd ?_)))
 rw [if_neg (by simp)]
 refine aa (ai (aa (ia xf dd ?_)))
 rw [if_neg (by simp)]
 refine ai ?_
 dsimp only
 rw [if_neg (show ¬ ((i:Int) < 0) from Int.not_lt.mpr (kW i)),bH,fV hi]
 dsimp only
 refine aa ?_
 first | refine aa (iT ki.typeIs (ai ?_)) | refine aa (lb ki.typeIs (ai ?_))
 show wpAny _ _ (Ls (.ref it) 0 .none >>= _) _ _ s
 refine aa (ko ho hf (by simp) ?_)
 show wpAny _ _ (newExc (.type "StopIteration") [] >>= _) _ _ _
 refine aa ?_
 simp only [newExc,newTuple]
 refine aa (cO (aa (m:=nv _ _) (BJ (a:=dE) (by first | rfl | (simp only [nv]; rfl)) (cO ?_ (by size_fits)))) (by size_fits))
 simp only [raiseNew]
 refine aa (wpAny_handled ?_)
 rw [show A.in1.handled=none from calm]
 refine aa (ai (wpAny_throw ?_))
 refine aa (oj (T:="StopIteration") (b:=true) ⟨_,bw _ rfl,rfl⟩ O8 (?_))
 exact ai (hQ _ (((cq ..).extBut.push _).push _))
end
noncomputable def Itk(a:Addr)(o:Obj)(es:Array jB)(ks:List V):It :=
 ⟨fun i H=>(∃ u,H a=some (.kQ o u))/\i < es.size,fun i H v H'=>H'=H/\ks[i]?=some v,fun i H=>(∃ u,H a=some (.kQ o u))/\es.size<=i⟩
theorem Kd{P:bP}{w:World}{K:ag}{tg:Expr}(a it:Addr)(o:Obj)(es:Array jB)(c:Nat)(ks:List V)(dd:o.data=.dict es c)(hk:∀ i (h:i < es.size),∃ v,ks[i]?=some v/\RelV v es[i].key) :
  Turn P w K tg (Itk a o es ks) [it] it (fun i h=>h.IsKeyIter it a i es.size c) where
 mem:=by simp
 obj:=fun i h st b hb=>by
  have e:b=it:=by simpa using hb
  subst e
  obtain⟨o',q,_,d⟩:=st
  exact⟨o',q,fun v z=>by rw [d] at z; cases z⟩
 keep:=(by rintro i h h' ⟨o',q,r⟩ k; exact⟨o',k it (by simp) o' q,r⟩)
 item:=by
  intro X hP hw hK hc i pins s σ H E I hf st hg
  subst hP hw hK
  obtain⟨⟨u,hu⟩,hi⟩:=hg
  obtain⟨f0,f1,f2,f3,f4,f5⟩:=hf it (by simp)
  obtain⟨v,hv,rv⟩:=hk i hi
  refine KU st (I.cM a _ hu).1 dd hi fun h' DE sb=>?_
  have I1:Inv X pins σ H { s with heap:=h' }:=I.turned (t':=s.toks) (fun b o hb e=>(sb.2 b hb).trans e) f0 f1 f3 f4 f5
  obtain⟨o',e,cl,d'⟩:=id DE
  exact⟨_,rfl,JD (s:={ s with heap:=h' }) e cl d' (by decide) ⟨v,H,I1,rv,⟨rfl,hv⟩,DE,fun b hb=>(hf b hb).1⟩⟩
 done:=by
  intro X hP hw hK hc i pins s σ H E I hf st hg
  subst hP hw hK
  obtain⟨⟨u,hu⟩,hi⟩:=hg
  obtain⟨f0,f1,f2,f3,f4,f5⟩:=hf it (by simp)
  exact Np (I.ok.hd hc) st (I.cM a _ hu).1 dd hi fun h' eb=>⟨rfl,I.turned (t':=s.toks) (fun b o hb e=>eb b o hb e) f0 f1 f3 f4 f5⟩
 self:=fun A i s Q E st h=>by
  refine jP st.typeIs IM (cT IM st.typeIs F.entry_dict_keyiterator_iter ?_ (F.args_dict_keyiterator_iter_1 _))
  show wpAny _ _ (ret (.ref it)) _ _ s
  exact ai ⟨_,rfl,"dict_keyiterator",_,st.typeIs,F.slot_dict_keyiterator_next.lookup,h⟩
end L2
namespace K2
open PySem PySem.Spec PyProof.Rows L2
section
variable {X:Cx} {tg a:Expr} {ta:fW} {pos p:Pos}
theorem Bb{α β:Type}{F:α->β->Prop}:∀ {l:List α} {m:List β},Paired F l m->∀ i (h1:i < l.length) (h2:i < m.length),F l[i] m[i]:=by
 intro l m h
 induction h with
 | nil=>intro i h1; exact absurd h1 (cu i)
 | cons h t ih =>
  intro i h1 h2
  cases i with
  | zero=>exact h
  | succ i=>exact ih i (ug h1) (ug h2)
theorem Nt{P:bP}{w:World}{k:Key}{u:Value}(h:(cy P w).is k u=true):RelV (kV k) u:=by
 rcases ez h with ⟨i,t,rfl,rfl⟩ | ⟨x,t,rfl,rfl⟩
 ·exact⟨t,rfl⟩
 ·exact⟨t,rfl⟩
theorem oh.keys{K:ag}{H:Hp}:∀ {kv:List (Key×V)} {bp:List (D×D)},oh K H kv bp->bp.map (·.1)=kv.map fun p=>dP p.1:=fun h =>
 oh.ind (motive:=fun kv bp _=>bp.map (·.1)=kv.map fun p=>dP p.1) rfl (fun _ _ ih=>congrArg (_ :: ·) ih) h
theorem kR.keys{K:ag}{H:Hp}:∀ {kv:List (List Key×V)} {bp:List (D×D)},kR K H kv bp->bp.map (·.1)=kv.map fun p=>D.tup (p.1.map dP):=fun h =>
 kR.ind (motive:=fun kv bp _=>bp.map (·.1)=kv.map fun p=>D.tup (p.1.map dP)) rfl (fun _ _ ih=>congrArg (_ :: ·) ih) h
theorem Ee{K:ag}{H:Hp}(k:Key):cL K H (kV k) (dP k):=by
 cases k with
 | inl i=>exact .int i
 | inr x=>exact .str x
theorem vT{K:ag}{H:Hp}:∀ (ks:List Key),bb K H (ks.map kV) (ks.map dP)
 | []=>.nil
 | k :: ks=>.cons (Ee k) (vT ks)
theorem Er(ha:gE X a ta):O5 X tg a (E5 ta):=by
 intro E pins s σ H τ G R hE I h
 refine lM ha hE I h fun x H1 d G1 v s1 I1 m1 r1 jS q1=>?_
 unfold x8 at q1
 have go:∀ (l:Addr) (o:Obj) (u:HO) (bp:List (D×D)) (es:Array jB) (c:Nat) (ks:List V),(l == eU)=false->H1 l=some (.kQ o u)->o.ExactDict->o.data=.dict es c->(∀ i (h:i < es.size),∃ v,ks[i]?=some v/\RelV v es[i].key)->ks.length=es.size ->
   bb X.K H1 ks (bp.map (·.1))->R (bp.map (·.1)) (fun _=>True) G1->wpAny (model X.prog X.w) X.A (AM (.ref l)) (Iv X pins σ tg H G R) X.xe s1:=by
  intro l o u bp es c ks ns hl ex dd hk hlen rs q
  refine HJ ns (I1.inv.cM l _ hl).1 ex dd ?_
  refine⟨s1.heap.objs.size,[s1.heap.objs.size],_,_,H1,G1,bp.map (·.1),_,rfl,I1.inv.kept (t':=s1.toks) fun b o e=>aI _ e,m1,Kd l _ o es c ks dd hk,⟨_,bw _ rfl,rfl,rfl⟩,fun b hb=>?_,fun i H2 G2 k ab _=>?_,q⟩
  ·have e:b=s1.heap.objs.size:=by simpa using hb
   subst e
   exact I1.inv.HY (aF _) (I1.inv.cM.fresh (aF _))
  ·have SJ:=k.kQ _ _ _ hl
   have QP:=rs.mono k
   refine⟨fun d hd=>?_,fun hle=>⟨⟨u,SJ⟩,by rw [← hlen,rs.length]; exact hle⟩⟩
   obtain⟨v,hv,r⟩:=QP.get hd
   have hi:i < es.size:=by rw [← hlen]; exact(List.getElem?_eq_some_iff.mp hv).1
   refine⟨⟨⟨u,SJ⟩,hi⟩,?_⟩
   rintro x H3 ⟨e,y⟩
   subst e
   rw [hv] at y
   cases y
   exact⟨r,.refl ab⟩
 cases jS with
 | pR hq rs =>
  rename_i l o kv bp
  cases r1
  obtain⟨z,ns,vs,rel,ob,es,ep,ho,ex,dd,hko,hp,nd⟩:=(I1.inv.cM l _ hq).2
  have eo:ob=o:=by have:=(I1.inv.cM l _ hq).1; rw [ho] at this; exact df this
  subst eo
  have l1:es.size=vs.length:=by simpa using hp.length
  have l2:kv.length=vs.length:=g7 rel
  refine go l ob _ bp es ep (kv.map fun p=>kV p.1) ns hq ex dd (fun i hi=>?_) (by rw [aj]; lia) ?_ q1
  ·have i2:i < vs.length:=by lia
   have i3:i < kv.length:=by lia
   have g1:=(hp.get? (e:=es[i]) (k:=vs[i].1) (v:=vs[i].2) (by rw [ah (by simpa using hi)]; simp) (by rw [ah i2])).1
   refine⟨kV kv[i].1,by simp [i3],?_⟩
   have ek:kv[i].1=vs[i].1:=(Bb rel i i3 i2).1
   rw [ek]
   exact Nt g1
  ·rw [rs.keys]
   have:∀ (l:List (Key×V)),bb X.K H1 (l.map fun p=>kV p.1) (l.map fun p=>dP p.1):=by
    intro l
    induction l with
    | nil=>exact .nil
    | cons p l ih=>exact .cons (Ee p.1) ih
   exact this kv
 | pQ hq rs =>
  rename_i l o kv bp
  cases r1
  obtain⟨z,ns,xs,rel,ob,es,ep,ho,ex,dd,hl,nd⟩:=(I1.inv.cM l _ hq).2
  have eo:ob=o:=by have:=(I1.inv.cM l _ hq).1; rw [ho] at this; exact df this
  subst eo
  have l1:=congrArg dg hl
  rw [aj,br] at l1
  refine go l ob _ bp es ep (xs.map fun q=>V.ref q.2.1) ns hq ex dd (fun i hi=>?_) (by rw [aj]; lia) ?_ q1
  ·have i2:i < xs.length:=by lia
   refine⟨.ref xs[i].2.1,by simp [i2],?_⟩
   have:es[i]=Gy (dH (cy X.prog X.w)) xs[i]:=by
    have:=congrArg (fun l=>l[i]?) hl
    simp only [bu,ah i2] at this
    simpa [hi] using this
   rw [this]
   rfl
  ·rw [rs.keys]
   have:∀ (kv:List (List Key×V)) (xs:List (List Key×Addr×Value)),Paired (fun (p:List Key×V) (q:List Key×Addr×Value)=>p.1=q.1/\H1 q.2.1=some (.tup (p.1.map kV))/\RelV p.2 q.2.2) kv xs->bb X.K H1 (xs.map fun q=>V.ref q.2.1) (kv.map fun p=>D.tup (p.1.map dP)):=by
    intro kv xs r
    induction r with
    | nil=>exact .nil
    | cons h _ ih=>exact .cons (.tup h.2.1 (vT _)) ih
   exact this kv xs rel
 | _=>exact q1.elim
end
end K2
end
section
namespace K2
open PySem PySem.Spec PyProof.Rows L2 PySem.W
section
variable {X:Cx}
theorem BV:∀ (ks:List V) (us:List Value),ks.length=us.length->(∀ i (h1:i < ks.length) (h2:i < us.length),RelV ks[i] us[i])->Vals ks us
 | [],[],_,_=>.nil
 | [],_ :: _,h,_=>by cases h
 | _ :: _,[],h,_=>by cases h
 | k :: ks,u :: us,h,hr=>.cons (hr 0 (by simp) (by simp)) (BV ks us (by simpa using h) fun i h1 h2=>hr (i+1) (by simpa using h1) (by simpa using h2))
end
end K2
end
section
namespace K2
open PySem PySem.Spec PyProof.Rows L2 PySem.W
section
variable {X:Cx}
variable {es:List Expr} {t:TF2} {e v1 v2:Expr} {te:fW} {pos:Pos} {c:Str} {k:Nat}
variable {a:Expr} {ta:fW} {p p2 Ci:Pos}
theorem G5{pins:List (Addr×Obj)}{σ:L2.St}{H:Hp}{G:Gp}{s:aq}{Q:DK}{T:String}{r d:Addr}{n:Nat}{P:Nat->Value->Prop}{OK:Heap->Prop}(hc:X.calm=true)(hu:X.A.units+64 < cLine)(I:Inv X pins σ H s)(ab:kS X.K H G)
  (K:vC X.prog X.w T r d n P OK) (SG:OK s.heap) {vs:List V} {zs:List D} (hlen:vs.length=n) (hP:∀ i u (h:i < vs.length),P i u->RelV vs[i] u) (rs:bb X.K H vs zs) (sh:mI) (hz:∀ z∈zs,cS sh z=true) (cM:M4 sh=true) (h64:zs.length < 64)
  (q:i6 G (.lst (mO zs)) Q):wpAny (model X.prog X.w) X.A (call (.builtin "sorted") [.ref r]) (t4 X pins σ H G Q) X.xe s:=by
 have SJ:=rs.length
 have hsz:bc=16777216:=cb
 obtain⟨m,F0⟩:=I.fr
 have nL:∀ b o vs n,o.data=.seq vs n->s.heap.get? b=some o->b≠X.env.locals:=fun b o vs n e1 e2 z=>by
  obtain⟨o',es,ep,NL,Ag,_⟩:=F0.ns
  rw [z,NL] at e2; cases e2; rw [Ag] at e1; cases e1
 unfold M4 at cM
 rw [aH] at cM
 have hdp:Qw sh<=7:=of_decide_eq_true cM.1
 have sn:∀ z∈zs,Sn G 7 z z:=fun z h=>B3 G sh z 7 (hz z h) hdp
 refine kdu_sorted K (I.ok.hd hc) F0 yS SG (by lia) fun Dd h0 tk bB F1 N1 nB hl0 hP'=>?_
 have Q7:vs.length=bB.length:=by lia
 have rv:Vals vs bB:=BV vs bB Q7 fun i h1 h2=>hP i bB[i] h1 (hP' i bB[i] (ah h2))
 by_cases lY:bB.length < 2
 ·have e2:h0.get? Dd=some (uc "list" bB.toArray 0):=(N1 _ aE).1
  refine cT slot_list_sort ⟨_,e2,rfl⟩ entry_list_sort (D4 (s:={ s with heap:=h0,toks:=tk }) e2 lY ⟨_,rfl,?_⟩) (args_list_sort _)
  obtain⟨kk,ns⟩:=lJ I F0 F1 fun p hp=>N1 p (av _ hp)
  have hD:s.heap.get? Dd=none:=by
   have nD:=N1 _ aE
   cases qd:s.heap.get? Dd with
   | none=>rfl
   | some o=>exact absurd (nB _ (mR nD.2.1 nD.2.2 qd)) (ff _)
  have hp:H Dd=none:=yb I.cM hD
  have hDL:Dd≠X.env.locals:=(N1 _ aE).2.1
  obtain⟨e3,h3⟩:=sortedHeap_at (out:=bB.toArray) e2
  have es:mO zs=zs:=lC sh hz (.refl _) (by
   match zs,SJ,lY with
   | [],_,_=>exact .nil
   | [z],_,_=>exact Lv _ _
   | _ :: _ :: _,h,f=>exact absurd f (by rw [← Q7,h]; simp))
  rw [es] at q
  refine⟨.ref Dd,upd H Dd (.lst vs),.ref _,_,Inv.Jt (t':=tk) I (fun b o hb e=>?_) (fun m' hm=>?_) hD ⟨by lia,bB,e3,rv,h3⟩,.Ax ab hp rs,rfl,.ref _,q _ (ab.free hp)⟩
  ·have WC:b≠Dd:=fun z=>by rw [z,hD] at e; cases e
   have e4:=kk b o hb e
   rw [sortedHeap_old WC (aK e4)]; exact e4
  ·obtain⟨o,es,ep,ho,r⟩:=ns m' hm
   exact⟨o,es,ep,by rw [sortedHeap_old (fu hDL) (aK ho)]; exact ho,r⟩
 have nz:0 < zs.length:=by lia
 refine kat_lsort (vs:=bB) F1 N1 (.head fun q hq z=>absurd (nB q hq) (by rw [z]; exact ff _)) (by simp) (by lia) (by lia) fun e1 h' F N=>?_
 obtain⟨kk,ns⟩:=lJ I F0 F fun p hp=>N p (av _ hp)
 have yG:∀ i,i < bB.length->∃ as,Reads h' (bB.getD i .none) (pd (zs.getD i .cY)) as:=fun i hi=>by
  have i1:i < zs.length:=by lia
  have i2:i < vs.length:=by lia
  have g1:zs.getD i .cY=zs[i]:=getD_at _ _ i1
  have g2:bB.getD i .none=bB[i]:=getD_at _ _ hi
  obtain⟨v,hv,RU⟩:=rs.get (ah i1)
  obtain⟨u,x9,RR⟩:=rv.get hv
  rw [ah hi] at x9
  cases x9
  obtain⟨as,r⟩:=(gW I ab (sn _ (bT i1))).1 v _ RU RR
  rw [g1,g2]
  exact⟨as,qx (fun b o vs n e1 e2=>kk b o (nL b o vs n e1 e2) e2) _ (sn _ (bT i1)).nr r⟩
 have wZ:∀ i,i < zs.length->cS sh (zs.getD i .cY)=true:=fun i hi=>by rw [getD_at _ _ hi]; exact hz _ (bT hi)
 have Qb:∀ i,i < zs.length->nr (zs.getD i .cY)=true:=fun i hi=>by rw [getD_at _ _ hi]; exact(sn _ (bT hi)).nr
 have Vo:∀ i,i < zs.length->(pd (zs.getD i .cY)).depth<=7:=fun i hi=>by rw [getD_at _ _ hi]; exact zC (sn _ (bT hi))
 let zz:Nat->D:=fun i=>if i < zs.length then zs.getD i .cY else zs.getD 0 .cY
 have Mb:∀ i,cS sh (zz i)=true:=fun i=>by
  show cS sh (if i < zs.length then zs.getD i .cY else zs.getD 0 .cY)=true
  split
  ·exact wZ i (by assumption)
  ·exact wZ 0 nz
 let lt:Nat->Nat->Bool:=fun i j=>mH (zz i) (zz j)
 have W4:J0 lt:=⟨fun i j h=>wb sh (Mb i) (Mb j) h,fun i j k h1 h2=>tH sh (Mb i) (Mb j) (Mb k) h1 h2⟩
 have Uz:∀ i j,i < zs.length->j < zs.length->lt i j=mH (zs.getD i .cY) (zs.getD j .cY):=fun i j hi hj=>by
  show mH (if i < zs.length then _ else _) (if j < zs.length then _ else _)=_
  rw [if_pos hi,if_pos hj]
 obtain⟨p,ep,qU,Ue,Z8⟩:=Ec W4 (n:=bB.length) (by lia)
 have Ve:X.A.in1.in1.units=X.A.units+2:=rfl
 have ask:∀ κ:SortKind,(∀ i j,i < bB.length->j < bB.length->∀ C:Bool->aq->Prop,C (mH (zs.getD i .cY) (zs.getD j .cY)) { s with heap:=h',toks:=tk }->kas_ask X.prog X.w X.A.in1.in1 κ bB i j C { s with heap:=h',toks:=tk }) ->
   (kas_sort bB.length).kasWp (kas_ask X.prog X.w X.A.in1.in1 κ bB) (fun p RQ=>KasFin X.base X.env.locals m Dd e1 (p.toList.map fun i=>bB.getD i dE) (fun s3=>t4 X pins σ H G Q (.ref Dd) s3) RQ) { s with heap:=h',toks:=tk }:=by
  intro κ hk
  refine zh (lt:=lt) (n:=bB.length) (fun i j i1 i2 C hC=>hk i j i1 i2 C (by rw [← Uz i j (by lia) (by lia)]; exact hC)) _ (FJ (by lia)) ?_
  rw [ep]
  refine KasFin.intro (g:=fun o=>(Dd,o) :: pv X.base s.heap X.env.locals) F N (.head (fun q hq z=>absurd (nB q hq) (by rw [z]; exact ff _))) fun h2 c F2 N2=>?_
  obtain⟨k2,Y1⟩:=lJ I F0 F2 fun p hp=>N2 p (av _ hp)
  have hD:s.heap.get? Dd=none:=by
   have nD:=N _ aE
   cases qd:s.heap.get? Dd with
   | none=>rfl
   | some o=>exact absurd (nB _ (mR nD.2.1 nD.2.2 qd)) (ff _)
  have hp:H Dd=none:=yb I.cM hD
  have Xw:Vals (p.toList.map fun i=>vs.getD i .cY) (p.toList.map fun i=>bB.getD i dE):=by
   have:∀ (ps:List Nat),(∀ i∈ps,i < bB.length)->Vals (ps.map fun i=>vs.getD i .cY) (ps.map fun i=>bB.getD i dE):=by
    intro ps
    induction ps with
    | nil=>intro _; exact .nil
    | cons i ps ih =>
     intro hh
     have hi:=hh i (by simp)
     refine .cons ?_ (ih fun j hj=>hh j (av _ hj))
     have i2:i < vs.length:=by lia
     obtain⟨u,x9,RR⟩:=rv.get (ah i2)
     rw [ah hi] at x9
     cases x9
     show RelV (vs.getD i .cY) (bB.getD i .none)
     rw [getD_at _ _ i2,getD_at _ _ hi]; exact RR
   exact this _ fun i hi=>by simpa using qU.mem_iff.mp hi
  have Xy:bb X.K H (p.toList.map fun i=>vs.getD i .cY) (p.toList.map fun i=>zs.getD i .cY):=by
   have:∀ (ps:List Nat),(∀ i∈ps,i < bB.length)->bb X.K H (ps.map fun i=>vs.getD i .cY) (ps.map fun i=>zs.getD i .cY):=by
    intro ps
    induction ps with
    | nil=>intro _; exact .nil
    | cons i ps ih =>
     intro hh
     have hi:=hh i (by simp)
     refine .cons ?_ (ih fun j hj=>hh j (av _ hj))
     have i2:i < vs.length:=by lia
     have i1:i < zs.length:=by lia
     obtain⟨v,hv,r⟩:=rs.get (ah i1)
     rw [ah i2] at hv
     cases hv
     show cL X.K H (vs.getD i .cY) (zs.getD i .cY)
     rw [getD_at _ _ i2,getD_at _ _ i1]; exact r
   exact this _ fun i hi=>by simpa using qU.mem_iff.mp hi
  have es:mO zs=p.toList.map fun i=>zs.getD i .cY:=by
   refine lC sh hz ?_ ?_
   ·have h1:(p.toList.map fun i=>zs.getD i .cY).Perm ((cG zs.length).map fun i=>zs.getD i .cY):=by
     have:bB.length=zs.length:=by lia
     rw [← this]
     exact qU.map _
    rw [lU] at h1
    exact h1
   ·rw [gT,IL]
    intro i j hi hj K0
    have g1:gA p i=p.toList[i]:=by
     have:i < p.size:=by simpa using hi
     simp [gA,qg,this]
    have g2:gA p j=p.toList[j]:=by
     have:j < p.size:=by simpa using hj
     simp [gA,qg,this]
    have bi:p.toList[i] < bB.length:=by simpa using qU.mem_iff.mp (bT hi)
    have bj:p.toList[j] < bB.length:=by simpa using qU.mem_iff.mp (bT hj)
    have:=Z8 i j (by lia) (by have:j < p.toList.length:=hj; rw [br,Ue] at this; exact this)
    rw [g1,g2,Uz _ _ (by lia) (by lia)] at this
    exact this
  rw [es] at q
  have ln:(p.toList.map fun i=>vs.getD i .cY).length<=bc:=by rw [aj,br,Ue]; lia
  refine⟨.ref Dd,upd H Dd (.lst (p.toList.map fun i=>vs.getD i .cY)),.ref _,_,Inv.Jt (t':=tk) I k2 Y1 hD ?_,.Ax ab hp Xy,rfl,.ref _,q _ (ab.free hp)⟩
  exact⟨ln,_,c,Xw,(N2 _ aE).1⟩
 have gen:∀ i j,i < bB.length->j < bB.length->∀ C:Bool->aq->Prop,C (mH (zs.getD i .cY) (zs.getD j .cY)) { s with heap:=h',toks:=tk }->wpAny (model X.prog X.w) X.A.in1.in1 (keyLt' Lu (bB.getD i dE) (bB.getD j dE)) C (fun _ _=>False) { s with heap:=h',toks:=tk }:=by
  intro i j hi hj C hC
  obtain⟨as,r1⟩:=yG i hi
  obtain⟨bs,r2⟩:=yG j hj
  rw [keyLt'_oneType]
  exact qG (s:={ s with heap:=h',toks:=tk }) (n:=7) (Vo i (by lia)) (wZ i (by lia)) (wZ j (by lia)) (Qb i (by lia)) (Qb j (by lia)) r1 r2 (by rw [Ve]; lia) X.prog X.w _ C hC
 have lk:∀ v∈bB,Looks (model X.prog X.w) h' (typeOf v) (DW sh):=fun v hv=>by
  obtain⟨i,hi,rfl⟩:=dI hv
  obtain⟨as,r⟩:=yG i hi
  rw [getD_at _ _ hi] at r
  exact sd (wZ i (by lia)) r
 cases sh with
 | int=>exact kas_kind (s:={ s with heap:=h',toks:=tk }) (T:=.type "int") (by lia) lk rfl rfl (ask Lu gen)
 | lst ss=>exact kas_kind (s:={ s with heap:=h',toks:=tk }) (T:=.type "list") (by lia) lk rfl rfl (ask Lu gen)
 | tup ss =>
  cases ss with
  | nil=>exact absurd cM.2 (by simp)
  | cons s1 ss =>
   obtain⟨fs,t1,t2,t3⟩:=wY (h:=h') zs bB hz yG (by lia)
   refine kat_kind (s:={ s with heap:=h',toks:=tk }) (T:=DW s1) t1 (by lia) (fun f hf=>?_) (by cases s1 <;> rfl) (ask _ fun i j hi hj C hC=>?_)
   ·obtain⟨d,as,h1,h2⟩:=t3 f hf
    exact sd h1 h2
   ·obtain⟨as,r1⟩:=yG i hi
    obtain⟨bs,r2⟩:=yG j hj
    exact Bi (s:={ s with heap:=h',toks:=tk }) (n:=7) (by have:=Vo i (by lia); lia) (wZ i (by lia)) (wZ j (by lia)) (Qb i (by lia)) (Qb j (by lia)) r1 r2 (by rw [Ve]; lia) hC
end
end K2
end
section
namespace K2
open PySem PySem.Spec PyProof.Rows L2 PySem.W
section
variable {X:Cx}
theorem Nh{pins:List (Addr×Obj)}{σ:L2.St}{H:Hp}{G:Gp}{s:aq}{Q:DK}{T:String}{r d:Addr}{n:Nat}{P:Nat->Value->Prop}{OK:Heap->Prop}(hc:X.calm=true)(I:Inv X pins σ H s)(ab:kS X.K H G)
  (K:vC X.prog X.w T r d n P OK) (SG:OK s.heap) {vs:List V} {zs:List D} (hlen:vs.length=n) (hP:∀ i u (h:i < vs.length),P i u->RelV vs[i] u) (rs:bb X.K H vs zs) (hn:n<=1000)
  (q:i6 G (.lst zs) Q):wpAny (model X.prog X.w) X.A (call (.type "list") [.ref r]) (t4 X pins σ H G Q) X.xe s:=by
 have hsz:bc=16777216:=cb
 refine kdl_call K (I.ok.hd hc) SG (by lia) fun h' tk acc c' hk hD U9=>?_
 have hp:H s.heap.objs.size=none:=I.cM.fresh (aF _)
 have rv:Vals vs acc.toList:=BV vs acc.toList (by have:=U9.1; have e:=br (xs:=acc); lia) fun i h1 h2=>hP i acc.toList[i] h1 (U9.2 i _ (by rw [aX (by simpa using h2)]; simp))
 exact⟨.ref _,upd H s.heap.objs.size (.lst vs),.ref _,_,I.laid (a:=s.heap.objs.size) (t':=tk) (fun b o e=>hk b o e) (aF _) ⟨by lia,acc.toList,c',rv,by simpa [uc,W.listOf] using hD⟩,.Ax ab hp rs,rfl,.ref _,q _ (ab.free hp)⟩
variable {a:Expr} {ta:fW} {pos p Ci p2:Pos}
end
end K2
end
section
namespace K2
open PySem PySem.Spec PyProof.Rows L2
section
variable {K:ag} {h:Heap} {C:Addr} {DF:List Value} {newId:String}
theorem SV{P:Prop}{m:List Value}{sl:List (Option Value)}{f:Addr->List Value->Option Value->Option Value->Option Value->Option Value->String->Option Value->Bool}
  (q:PySem.W.excIn.match_1 (fun _ _=>Bool) m sl f (fun _ _=>false)=true)
  (k:∀ C' bm k0 k1 k2 k3 n k5,m=.ref C' :: bm->sl=[k0,k1,k2,k3,some (.builtin n),k5]->f C' bm k0 k1 k2 k3 n k5=true->P):P:=by
 have no:false=true->P:=fun z=>bq z
 cases m with
 | nil=>exact no q
 | cons v bm =>
  cases v with
  | ref C' =>
   obtain _ | ⟨k0,_ | ⟨k1,_ | ⟨k2,_ | ⟨k3,_ | ⟨_ | w,sl⟩⟩⟩⟩⟩:=sl
   iterate 6 exact no q
   cases w with
   | builtin n =>
    obtain _ | ⟨k5,_ | _⟩:=sl
    ·exact no q
    ·exact k C' bm k0 k1 k2 k3 n k5 rfl rfl q
    ·exact no q
   | _=>exact no q
  | _=>exact no q
inductive OG (h:Heap) (C:Addr) (DF:List Value) (newId:String):Prop
 | mk (bm N nm qn bs hdct sn sub ab col dd k0 k1 k2 k3 k5 mN) (o:h.get? C=some (LX nm qn C N bs bm hdct sn sub ab col dd k0 k1 k2 k3 k5 newId)) (n:h.Ns N mN) (i:mN "__init__" = none) (t:OwnTail h DF bm):OG h C DF newId
theorem CW(Y:K.In h)(q:eX K C DF newId=true):OG h C DF newId:=by
 unfold eX at q
 split at q
 case h_2=>cases q
 rename_i dd cd sl ho
 refine SV q fun C' bm k0 k1 k2 k3 n k5 hm hs q=>?_
 obtain⟨nm,bs,mro,ns,qn,hd,sn,sub,ab,col,del⟩:=cd
 obtain⟨sl⟩:=sl
 subst hm hs
 have q:(C' == C&&n == newId&&!del&&PySem.W.tailIn K DF bm&&PySem.W.nsOkIn K ns&&aR K ns "__init__" == some none)=true:=q
 simp only [aH,beq_iff_eq,AS] at q
 obtain⟨⟨⟨⟨⟨e1,e2⟩,e3⟩,e4⟩,e5⟩,e6⟩:=q
 subst e1 e2 e3
 exact⟨bm,_,_,_,_,_,_,_,_,_,dd,k0,k1,k2,k3,k5,_,Y _ _ ho,.of_isNs (PySem.W.isNs_of_in Y e5),PySem.W.nsMap_none_of_in Y e5 e6,PySem.W.tail_of_in Y e4⟩
end
section
variable {X:Cx} {x:Str} {C:Addr} {DF:List Value} {B newId Sy:String} {e0:Expr} {es:List Expr} {np iQ pos:Pos} {t:Ah}
theorem Kz(hg:Gl X x)(hm:X.mg x=some (.ref C))(q:eX X.K C DF newId=true)(FB:ExcBaseFacts B newId Sy DF)(hc:X.calm=true)(ha:DH X (e0 :: es) t)
  (CM:autoParam ((x == ("__debug__" : Str))=false) Ad._auto_1) (he:autoParam (bK (e0 :: es) X.env=(false,eval e0 X.env) :: bK es X.env) Ar._auto_1) (Bm:autoParam ((iV iQ (bK es X.env)).any (·.1)=false) Ar._auto_1) :
  Gn X (.Raise (some (.Call (.Name x np) (e0 :: es) [] iQ)) none pos) (Ij x t):=by
 intro E pins s σ H τ G D hE I h
 obtain⟨tl,N,nm,qn,bs,hdct,sn,sub,ab,col,dd,k0,k1,k2,k3,k5,mN,hC,hN,hni,T⟩:=CW I.inv.ok.mod.Nm q
 refine wpAny_Raise_call_subT (C:=C) (nm:=nm) (q:=qn) (N:=N) (bs:=bs) (bm:=tl) (hdct:=hdct) (sn:=sn) (sub:=sub) (ab:=ab) (col:=col) (dd:=dd) (k0:=k0) (k1:=k1) (k2:=k2) (k3:=k3) (k5:=k5)
  FB (mN:=mN) (T.hasType FB.hasBase) (I.inv.ok.hd hc) (by rw [he]; show (false||(iV iQ (bK es X.env)).any (·.1))=false; rw [Bm]; rfl) hni (oY I.inv hg hm ⟨rfl,?_⟩ CM)
 have w:=xx (Q:=fun us s2=>us.length<=bc/\(∀ b o,X.base.get? b=some o->s2.heap.get? b=some o)/\∀ h' e,Heap.MadeExcOf s2.heap h' e (.ref C) us->X.xe (.ref e) { s2 with heap:=h' }) ha iQ hE I h
  fun vs H1 ds G1 us s1 I1 m1 r rd z=>⟨by rw [← r.length,rd.length,cb]; exact z.1,I1.inv.bk,fun h' e hx=>hE.made pins σ H1 s1 h' e C us ⟨x,[]⟩ I1.inv hx hm z.2⟩
 rw [he] at w ⊢
 exact ON (fH w (fun us s2 h2=>⟨rfl,h2.1,h2.2.1 _ _ hC,hN.keeps h2.2.1,T.keeps h2.2.1,h2.2.2⟩) fun _ _ y=>y)
end
end K2
end
section
namespace K2
open PySem PySem.Spec PyProof.Rows L2
theorem _root_.Internal.L2.gu.there{P:bP}{w:World}{H:Hp}{h:Heap}{a:Addr}{o:HO}(x:gu P w H h a o):∃ ob,h.get? a=some ob:=by
 cases o with
 | lst xs=>obtain⟨_,_,_,_,e⟩:=x; exact⟨_,e⟩
 | tup xs=>obtain⟨_,_,_,ob,e,_⟩:=x; exact⟨_,e⟩
 | dK bp=>obtain⟨_,_,_,_,o,_,_,e,_⟩:=x; exact⟨_,e⟩
 | dT bp=>obtain⟨_,_,_,_,o,_,_,e,_⟩:=x; exact⟨_,e⟩
 | set S n=>obtain⟨o,_,_,_,e,_⟩:=x; exact⟨_,e⟩
 | ins C dx fs=>obtain⟨_,_,_,e,_⟩:=x; exact⟨_,e⟩
 | own y=>exact x
 | xd fs=>obtain⟨_,⟨_,_,_,e,_⟩,_⟩:=x; exact⟨_,e⟩
 | T8 lo hi=>obtain⟨_,_,_,e⟩:=x; exact⟨_,e⟩
 | kQ ob u=>obtain⟨e,_⟩:=x; exact⟨_,e⟩
 | Pp ps=>exact⟨_,x⟩
 | met f y=>exact⟨_,x⟩
 | ext φ=>obtain⟨_,e,_⟩:=x; exact e
theorem Hi{X:Cx}{pins:List (Addr×Obj)}{σ:L2.St}{H1:Hp}{s1:aq}{h1 h' B:Heap}(I:Inv X pins σ H1 s1)(xK:X.stack=X.env :: X.outer)(OY:X.env.frame=some X.env.locals)(hex:X.ex=[])
  (UC:∀ b o,s1.heap.get? b=some o->h1.get? b=some o) (hB:∀ b o,s1.heap.get? b=some o->b∉sD X.stack->(X.ic.heap.get? b≠none\/H1 b≠none)->B.get? b=some o) (iM:B.StaysIn h') (up:h1.UpToSlots h') :
  Un (sD X.outer) [] X.Ln H1 X.ic.heap h'/\pT X.prog X.w H1 h'/\∀ b o,h'.get? b=some o->b∉sD X.outer->(X.ic.heap.get? b≠none\/H1 b≠none)->B.get? b=some o:=by
 have efr:sD X.stack=X.env.locals :: sD X.outer:=by rw [xK]; unfold sD; rw [rO OY]
 have M6:∀ b,b∉sD X.outer->b≠X.env.locals->b∉sD X.stack:=fun b h1 h2 h3=>by
  rw [efr] at h3
  rcases List.mem_cons.mp h3 with e | e
  ·exact h2 e
  ·exact h1 e
 have old:∀ b o,X.ic.heap.get? b=some o->b≠X.env.locals:=fun b o q=>bL (bJ (aK q) I.ok.above)
 have tr:∀ b u,H1 b=some u->b∉sD X.stack:=fun b u q hb=>by rw [I.B2 b hb] at q; cases q
 have nx:∀ b:Addr,b∉X.ex:=fun b=>by rw [hex]; exact cQ
 have frame:∀ b o,b∈sD X.outer->s1.heap.get? b=some o->∃ sl,h'.get? b=some { o with slots:=sl }:=fun b o hb e=>by
  obtain⟨_,o2,e2,nf⟩:=I.stack.mem (show b∈sD X.stack by rw [efr]; exact .tail _ hb)
  rw [e] at e2; cases e2
  exact up b o (UC b o e) nf
 have go:∀ b o,s1.heap.get? b=some o->b∉sD X.stack->(X.ic.heap.get? b≠none\/H1 b≠none)->h'.get? b=some o:=fun b o e n c=>iM b o (hB b o e n c)
 refine⟨⟨fun b o q n hb _=>?_,fun b o q n hb _=>?_,fun b o q n _=>I.base.free b o q n (nx b),fun b o q _=>?_,I.base.tx,I.base.sC,I.base.vN⟩,fun a o q=>?_,fun b o e hb hc=>?_⟩
 ·exact go b o (I.base.keep b o q n hb (nx b)) (M6 b hb (old b o q)) (.inl (by rw [q]; simp))
 ·obtain⟨sl,e⟩:=I.base.slot b o q n hb (nx b)
  obtain⟨B5,e2⟩:=frame b _ hb e
  exact⟨B5,e2⟩
 ·obtain⟨o',e⟩:=I.base.there b o q (nx b)
  by_cases hb:b∈sD X.outer
  ·obtain⟨B5,e2⟩:=frame b _ hb e; exact⟨_,e2⟩
  ·exact⟨o',go b o' e (M6 b hb (old b o q)) (.inl (by rw [q]; simp))⟩
 ·refine(I.cM a o q).iM (fun b u hb e=>?_) (fun b r=>r) (fun b xs r=>r)
  rcases hb with rfl | hb
  ·exact go b u e (tr b _ q) (.inr (by rw [q]; simp))
  ·exact go b u e (tr b _ hb) (.inr (by rw [hb]; simp))
 ·have n:b∉sD X.stack:=by
   rcases hc with hc | hc
   ·cases q:X.ic.heap.get? b with
    | none=>exact absurd q hc
    | some o0=>exact M6 b hb (old b o0 q)
   ·cases q:H1 b with
    | none=>exact absurd q hc
    | some u=>exact tr b u q
  have:∃ o1,s1.heap.get? b=some o1:=by
   rcases hc with hc | hc
   ·cases q:X.ic.heap.get? b with
    | none=>exact absurd q hc
    | some o0=>exact I.base.there b o0 q (nx b)
   ·cases q:H1 b with
    | none=>exact absurd q hc
    | some u=>exact(I.cM b u q).there
  obtain⟨o1,e1⟩:=this
  have e2:=go b o1 e1 n hc
  rw [e] at e2; cases e2
  exact hB b o e1 n hc
section
variable {P:bP} {w:World} {K:ag} {mg:Str->Option Value} {base:Heap} {N:List Str} {qual:Str} {scope:Scope} {f:Addr} {cd:Value} {A:dh} {outer:List Env} {s:aq} {H:Hp} {Ek:XK} {E2:kc}
theorem UA(ke:∀ ex C H',E2 ex (fun _=>none)->mg ex.cls=some (.ref C)->Ek (.ref C) none H'):Lk (wI (AL P w) P w K mg base N qual scope f cd A outer s H Ek) E2 where
 made:=fun pins σ H1 s1 h1 a C args ex I hx hm hE=>by
  show wpAny (model P w) _ (leaving _ (.ref a)) _ _ _
  refine wpAny_leaves_madeW (h:=s1.heap) (base:=PySem.W.hideAll s1.heap (sD (wI (AL P w) P w K mg base N qual scope f cd A outer s H Ek).stack)) I.ok.frames rfl (fun b o q=>OJ _ q)
   (PySem.W.funFrames_hide I.stack fun env he b hb=>List.mem_filterMap.mpr ⟨env,he,hb⟩) hx fun h' t fl tup tn up=>?_
  obtain⟨un,cM,hB⟩:=Hi I rfl rfl rfl hx.keeps (fun b o e n _=>LZ _ e n) fl.1 up
  refine⟨a,C,t,_,H1,rfl,I.os,I.bare,un,cM,hB,fl,?_,?_,ke ex C H1 hE hm⟩
  ·cases q:H1 a with
   | none=>rfl
   | some u =>
    obtain⟨o,e⟩:=(I.cM a u q).there
    have:=hx.new
    rw [e] at this; cases this
  ·cases q:s.heap.get? a with
   | none=>rfl
   | some o =>
    obtain⟨o',e⟩:=I.base.there a o q cQ
    have:=hx.new
    rw [e] at this; cases this
 pass:=fun pins σ H1 s1 s' e I zq=>by
  obtain⟨a,C,t,B,H',e1,os,bare,un,cM,hB,fl,ha,hs,ex,C',e2,hm,hE⟩:=zq
  subst e1; cases e2
  show wpAny (model P w) _ (leaving _ (.ref a)) _ _ _
  have I':Inv (wI (AL P w) P w K mg base N qual scope f cd A outer s H Ek) pins σ H' s':=by
   obtain⟨hh,g,d,t,Uj⟩:=s'
   obtain rfl:Uj=s1.os:=os
   exact I.call (h':=hh) (g':=g) (d':=d) (t':=t) (ch:=[]) un cM bare (fun b z=>absurd z (by simp))
  refine wpAny_leaves_onW I.ok.frames rfl fl fun h' fl' up=>?_
  obtain⟨TM,HP,hB'⟩:=Hi I' rfl rfl rfl (fun _ _ e=>e) (fun b o e n c=>hB b o e n (c.imp (fun z=>by
   cases q:s.heap.get? b with
   | none=>exact absurd q z
   | some o0=>obtain⟨o1,e1⟩:=I.base.there b o0 q cQ; rw [e1]; simp) id)) fl'.1 up
  refine⟨a,C,t,B,H',rfl,I'.os,I'.bare,TM,HP,hB',fl',ha,?_,ke ex C H' hE hm⟩
  cases q:s.heap.get? a with
  | none=>rfl
  | some o=>obtain⟨o1,e1⟩:=I.base.there a o q cQ; rw [e1] at hs; cases hs
end
noncomputable def lg(K:ag)(mg:Str->Option Value)(sp:mz):Sp:=fun vs H Q E=>∃ ds G Q2 E2,bb K H vs ds/\kS K H G/\sp ds G Q2 E2/\(∀ d G' v H',Q2 d G'->Mv K H G H' G'->cL K H' v d->Q v H') /\
 ∀ (ex:Ex) (C:Addr) (H':Hp),E2 ex (fun _=>none)->mg ex.cls=some (.ref C)->E (.ref C) none H'
theorem Qr{P:bP}{w:World}{K:ag}{mg:Str->Option Value}{base:Heap}{x qual:Str}{st:Stmt}{f:Addr}{fd:aW}{Nn ps:List Str}{k:Nat}{sp:mz}{rd:iz}(F:pU K x qual st f fd)(S:cN Nn ps (aG st))(len:∀ ds G Q E,sp ds G Q E->ds.length=ps.length)
  (hr:∀ ds G Q E,sp ds G Q E->rd E (ends Q) (bM Nn.length ds) G)
  (hb:∀ (nC:Value) (A:dh) (outer:List Env) (s:aq) (H:Hp) (E:XK),jT k (A.deeper (yj qual (aG st) s.heap.objs.size f nC))->vz (wI (AL P w) P w K mg base Nn qual (aG st) f nC A outer s H E) (cC st) rd):dc P w K mg base (AL P w) (k+1) f fd ps (lg K mg sp):=by
 obtain⟨oc,od,kV,doc,pm,an,nC,ct,P4,rfl,lk,E9⟩:=F.ex
 refine Rb lk E9 S ((by rintro vs H Q E ⟨ds,G,Q2,E2,r,ab,q,_⟩; exact by rw [r.length]; exact len _ _ _ _ q)) ?_
 rintro A outer s H vs Q E NI ⟨ds,G,Q2,E2,r,ab,q,kk,ke⟩
 refine⟨_,MP (hb nC A outer s H E NI) (UA ke),?_⟩
 exact⟨bM Nn.length ds,G,ends Q2,D1 r,ab,hr ds G Q2 E2 q,fun jx H' oq G' mv z=>kk _ _ _ _ z mv .cY,fun v H' d G' mv RU z=>kk _ _ _ _ z mv RU,fun _ _ z=>z,fun _ _ z=>z⟩
end K2
end
section
namespace K2
open PySem PySem.Spec PyProof.Rows L2
noncomputable def OT:HO->Bool
 | .tup _=>true
 | .kQ _ (.lst _)=>true
 | .kQ _ (.dK _)=>true
 | .kQ _ (.dT _)=>true
 | .kQ _ (.ext _)=>true
 | _=>false
noncomputable def hr(H:Hp):Hp:=fun b=>(H b).bind fun o=>if OT o=true then some o else none
noncomputable def hj(H1 H':Hp):Hp:=fun b=>match H1 b with
 | some o=>some o
 | none=>H' b
section
variable {P:bP} {w:World} {K:ag} {H H1 H':Hp} {h h':Heap} {b:Addr} {o:HO} {fs:List Addr}
theorem Qk(q:hr H b=some o):H b=some o/\OT o=true:=by
 unfold hr at q
 cases e:H b with
 | none=>rw [e] at q; cases q
 | some u =>
  rw [e] at q
  simp only [AP] at q
  by_cases k:OT u=true
  ·rw [if_pos k] at q; cases q; exact⟨rfl,k⟩
  ·rw [if_neg k] at q; cases q
theorem u6(q:H b=some o)(k:OT o=true):hr H b=some o:=by unfold hr; rw [q,AP,if_pos k]
theorem u7(q:H b=none):hr H b=none:=by unfold hr; rw [q]; rfl
theorem Q3(q:H b=some o)(k:OT o=false):hr H b=none:=by unfold hr; rw [q,AP,if_neg (by rw [k]; exact eF)]
theorem SF(x:pT P w H h):pT P w (hr H) h:=fun a o q=>by
 obtain⟨e,k⟩:=Qk q
 have y:=x a o e
 cases o with
 | tup xs=>exact y
 | kQ ob u =>
  cases u with
  | lst _=>exact y
  | dK _=>exact y
  | ext _=>exact y
  | dT bp =>
   obtain⟨e1,z,n,xs,r,rest⟩:=y
   exact⟨e1,z,n,xs,L2.Paired.Si r (fun p q z=>⟨z.1,u6 z.2.1 rfl,z.2.2⟩),rest⟩
  | _=>exact bq (show false=true from k)
 | _=>exact bq (show false=true from k)
theorem nU(q:H1 b=some o):hj H1 H' b=some o:=by unfold hj; rw [q]
theorem qV(q:H1 b=none):hj H1 H' b=H' b:=by unfold hj; rw [q]
theorem join(un:Un fs [] (hr H1) H' h h')(k1:pT P w H1 h)(k2:pT P w H' h')(fr:∀ b∈fs,H1 b=none) :
  Un fs [] H1 (hj H1 H') h h'/\pT P w (hj H1 H') h'/\Kp H' (hj H1 H')/\∀ b u,(∀ o,H1 b=some o->OT o=false\/∃ ob v,o=.kQ ob v)->H1 b≠none->h.get? b=some u->h'.get? b=some u:=by
 have nx:∀ c:Addr,c∉([]:List Addr):=fun c=>cQ
 have Ut:∀ c u,H1 c=some u->c∉fs:=fun c u q z=>by rw [fr c z] at q; cases q
 have JY:∀ c u v,H1 c=some u->H' c=some v->u=v/\OT u=true:=fun c u v q q'=>by
  cases k:OT u with
  | false =>
   obtain⟨ob,e⟩:=(k1 c u q).there
   have:=un.free c ob e (Q3 q k) (nx c)
   rw [this] at q'; cases q'
  | true =>
   have r:=u6 q k
   cases u with
   | tup xs=>have:=un.tx c xs r; rw [q'] at this; cases this; exact⟨rfl,rfl⟩
   | kQ ob x=>have:=un.sC c ob x r; rw [q'] at this; cases this; exact⟨rfl,rfl⟩
   | _=>exact bq (show false=true from k)
 have same:∀ b u,(∀ o,H1 b=some o->OT o=false\/∃ ob v,o=.kQ ob v)->H1 b≠none->h.get? b=some u->h'.get? b=some u:=fun b u hh hn e=>by
  cases q:H1 b with
  | none=>exact absurd q hn
  | some o =>
   cases k:OT o with
   | false=>exact un.keep b u e (Q3 q k) (Ut b o q) (nx b)
   | true =>
    rcases hh o q with z | ⟨ob,v,rfl⟩
    ·rw [z] at k; cases k
    ·have h1:=(k2 b _ (un.sC b ob v (u6 q k))).1
     have h2:=(k1 b _ q).1
     rw [h2] at e; cases e
     exact h1
 refine⟨⟨fun c u e n hc hx=>un.keep c u e (u7 n) hc hx,fun c u e n hc hx=>un.slot c u e (u7 n) hc hx,fun c u e n hx=>?_,fun c u e hx=>un.there c u e hx,fun c xs q=>nU q,fun c ob u q=>nU q,fun c ps q=>⟨#[],by rw [nU q]; simp⟩⟩,fun c o q=>?_,⟨fun c xs q=>?_,fun c ob u q=>?_⟩,same⟩
 ·rw [qV n]; exact un.free c u e (u7 n) hx
 ·cases q1:H1 c with
  | some o1 =>
   rw [nU q1] at q; cases q
   by_cases ht:∃ xs,o=.tup xs
   ·obtain⟨xs,rfl⟩:=ht
    exact k2 c _ (un.tx c xs (u6 q1 rfl))
   ·refine(k1 c o q1).iM (fun d u hd e=>?_) (fun d r=>nU r) (fun d xs r=>nU r)
    rcases hd with rfl | hd
    ·refine same d u (fun o' e'=>?_) (by rw [q1]; simp) e
     rw [q1] at e'; cases e'
     cases o with
     | tup xs=>exact absurd ⟨xs,rfl⟩ ht
     | kQ ob v=>exact .inr ⟨ob,v,rfl⟩
     | _=>exact .inl rfl
    ·refine same d u (fun o' e'=>?_) (by rw [hd]; simp) e
     rw [hd] at e'; cases e'
     exact .inl rfl
  | none =>
   rw [qV q1] at q
   refine(k2 c o q).iM (fun d u _ e=>e) (fun d r=>?_) (fun d xs r=>?_)
   ·cases q2:H1 d with
    | none=>rw [qV q2]; exact r
    | some u=>obtain⟨rfl,k⟩:=JY d u _ q2 r; exact bq (show false=true from k)
   ·cases q2:H1 d with
    | none=>rw [qV q2]; exact r
    | some u=>obtain⟨rfl,k⟩:=JY d u _ q2 r; exact nU q2
 ·cases q2:H1 c with
  | none=>rw [qV q2]; exact q
  | some u=>obtain⟨rfl,k⟩:=JY c u _ q2 q; exact nU q2
 ·cases q2:H1 c with
  | none=>rw [qV q2]; exact q
  | some v=>obtain⟨rfl,k⟩:=JY c v _ q2 q; exact nU q2
end
theorem cL.hr{K:ag}{H:Hp}{v:V}{d:D}(h:cL K H v d):cL K (K2.hr H) v d :=
 cL.rec (motive_1:=fun v d _=>cL K (K2.hr H) v d) (motive_2:=fun v d _=>bb K (K2.hr H) v d) (motive_3:=fun v d _=>oh K (K2.hr H) v d) (motive_4:=fun v d _=>kR K (K2.hr H) v d)
  .cY .bl .int .str (fun h _ r=>.tup (u6 h rfl) r) (fun h _ r=>.d0 (h.imp (fun q=>q.elim fun o q=>⟨o,u6 q rfl⟩) id) r) (fun h _ r=>.pR (u6 h rfl) r) (fun h _ r=>.pQ (u6 h rfl) r) .ref (fun h=>.exc (by obtain⟨o,C,h1,h2,h3⟩:=h; exact⟨o,C,u6 h1 rfl,h2,h3⟩)) .nil (fun _ _ a b=>.cons a b) .nil (fun _ _ a b=>.cons a b) .nil (fun _ _ a b=>.cons a b) h
theorem bb.hr{K:ag}{H:Hp}{v:List V}{d:List D}(h:bb K H v d):bb K (K2.hr H) v d :=
 bb.E4 (P:=fun v d=>bb K (K2.hr H) v d) .nil (fun r _ ih=>.cons r.hr ih) h
end K2
end
section
namespace K2
open PySem PySem.Spec PyProof.Rows L2
section
variable {M:Model} {A:dh} {E:Value->aq->Prop}
variable {nm q nm' q':Str} {C N D N':Addr} {bs bm Rk WM:List Value} {hdct Q9:Bool} {sn sn':List Str} {sub TU:List Value} {ab VQ:Bool} {col Vt:Option Bool} {dd S1:Option Addr} {k0 k1 k2 k3 k5 k0' k1' k2' k3' k5':Option Value} {newId Sg:String}
theorem KL{h:Heap}{g:Array GenState}{d:Drawn}{t:Nat}{os:OsState}{e:Addr}{oe:Obj}{Q:Bool->aq->Prop}
  (hC:h.get? C=some (LX nm q C N bs bm hdct sn sub ab col dd k0 k1 k2 k3 k5 newId)) (hD:h.get? D=some (LX nm' q' D N' Rk WM Q9 sn' TU VQ Vt S1 k0' k1' k2' k3' k5' Sg))
  (he:h.get? e=some oe) (NS:oe.cls=.ref C) (Fc:WM.contains (.type "BaseException")=true)
  (hq:Q ((dv C :: bm).contains (.ref D)) ⟨h,g,d,t,os⟩):wpAny M A (excMatches (.ref e) (.ref D)) Q E ⟨h,g,d,t,os⟩:=by
 have hcB:(dv D :: WM).contains (.type "BaseException")=true:=by rw [pO,Fc,Bool.or_true]
 have f:=tc_notTuple
 generalize hb:(dv C :: bm).contains (.ref D)=r at hq
 unfold excMatches
 repeat (first | (with_reducible refine wpAny_loadPart_at he ?_; rw [NS]) | with_reducible refine wpAny_loadPart_at hD ?_ | (with_reducible refine wpAny_isSubtype_exc hD ?_; rw [hcB]) | (with_reducible refine wpAny_isSubtype_exc hC ?_; rw [hb]) | wp_step)
 cases r
 ·wp_walk; exact hq
 ·wp_walk; exact hq
end
section
variable {X:Cx} {pins:List (Addr×Obj)} {σ:L2.St} {H1:Hp} {G1:Gp} {s1:aq} {k:Nat} {f:Addr} {fd:aW} {ps:List Str} {sp:mz}
theorem QW{H':Hp}(ab:kS X.K H1 G1):Mv X.K H1 G1 (hj H1 H') G1:=by
 have kp:Kp H1 (hj H1 H'):=⟨fun a xs e=>nU e,fun a o u e=>nU e⟩
 have VQ:kS X.K (hj H1 H') G1:=fun a g e=>(ab a g e).mono kp (by
  cases q:H1 a with
  | none=>exact absurd q (ab a g e).tracked
  | some o=>exact nU q)
 exact⟨fun a o e n=>⟨nU e,n⟩,fun a n=>by
  cases q:G1 a with
  | none=>exact absurd q n
  | some g=>exact(VQ a g q).tracked,VQ⟩
theorem MC{us:List Value}{vs:List V}{ds:List D}{Q2:DK}{E2:kc}(F:dc X.prog X.w X.K X.mg X.base (AL X.prog X.w) k f fd ps (lg X.K X.mg sp))(hr:jT k X.A)(hb:Binds X.K fd ps [])(I:Inv X pins σ H1 s1)(ab:kS X.K H1 G1)(r:Vals vs us)(rd:bb X.K H1 vs ds)
  (h:sp ds (fun _=>none) Q2 E2):wpAny (model X.prog X.w) X.A (call (.ref f) us)
   (fun u s'=>∃ v d G' Hj,Inv X pins σ Hj s'/\Mv X.K H1 G1 Hj G1/\RelV v u/\cL X.K Hj v d/\Q2 d G')
   (fun e s'=>∃ (a C t:Addr) (B:Heap) (ex:Ex) (Hj:Hp),e=.ref a/\Inv X pins σ Hj s'/\Mv X.K H1 G1 Hj G1/\vD B X.stack a (.ref C) (.ref t) s'.heap /\
    (∀ b o,s'.heap.get? b=some o->b∉sD X.stack->(s1.heap.get? b≠none\/Hj b≠none)->B.get? b=some o)/\Hj a=none/\s1.heap.get? a=none/\X.mg ex.cls=some (.ref C)/\E2 ex (fun _=>none)) s1:=by
 have ND:lg X.K X.mg sp vs (K2.hr H1) (fun v H'=>∃ d G',cL X.K H' v d/\Q2 d G') (exK X.mg E2) :=
  ⟨ds,fun _=>none,Q2,E2,rd.hr,(fun _ _ z=>by cases z),h,fun d G' v H' q _ MJ=>⟨d,G',MJ,q⟩,fun ex C H' q hm=>⟨ex,C,rfl,hm,q⟩⟩
 have hl:us.length=ps.length:=by rw [← r.length]; exact F.len _ _ _ _ ND
 have e0:=I.Vm
 have e1:OH X.prog X.w X.K X.mg X.base X.A X.stack s1 (K2.hr H1):=⟨e0.frames,e0.mod,fun b o q=>⟨(e0.bs b o q).1,u7 (e0.bs b o q).2⟩,e0.Ow,e0.wu,fun b z=>u7 (e0.O1 b z),SF e0.cM,e0.bare⟩
 have hbu:=hb s1 us I.HK (by rw [bS]; exact hl)
 rw [bS] at hbu
 refine Gu (nF (F.run X.A X.stack s1 (K2.hr H1) ⟨us,[]⟩ us vs _ _ hr e1 hbu r ND) fun res s' hq=>?_)
 cases res with
 | error e =>
  obtain⟨a,C,t,B,H',rfl,os,bare,un,cM,hB,fl,ha,hs,ex,C',ec,hm,hE⟩:=hq
  cases ec
  obtain⟨TM,HP,_,_⟩:=join un I.cM cM e0.O1
  have h1a:H1 a=none:=by
   cases q:H1 a with
   | none=>rfl
   | some u=>obtain⟨o,e⟩:=(I.cM a u q).there; rw [e] at hs; cases hs
  refine⟨a,C,t,B,ex,hj H1 H',rfl,I.Rj (ch:=[]) os TM HP bare (fun b z=>absurd z (by simp)),QW ab,fl,fun b o e n c=>hB b o e n ?_,by rw [qV h1a]; exact ha,hs,hm,hE⟩
  rcases c with c | c
  ·exact .inl c
  ·cases q:H1 b with
   | none=>rw [qV q] at c; exact .inr c
   | some u=>obtain⟨o1,e1⟩:=(I.cM b u q).there; exact .inl (by rw [e1]; simp)
 | ok fl =>
  cases fl with
  | ret u =>
   obtain⟨v,H',os,bare,un,cM,rv,d,G',MJ,q⟩:=hq
   obtain⟨TM,HP,kp,_⟩:=join un I.cM cM e0.O1
   exact⟨v,d,G',hj H1 H',I.Rj (ch:=[]) os TM HP bare (fun b z=>absurd z (by simp)),QW ab,rv,MJ.mono kp,q⟩
  | next=>exact bQ hq
  | brk=>exact bQ hq
  | cont=>exact bQ hq
end
end K2
end
section
namespace K2
open PySem PySem.Spec PyProof.Rows L2
section
variable {X:Cx} {pins:List (Addr×Obj)} {σ:L2.St} {H H1:Hp} {s s1:aq} {h6 B:Heap} {a:Addr} {o:Obj} {u:HO}
theorem JT{h h':Heap}{c:Addr}{v:Option Value}(up:h.UpToSlots h')(z:h.IsCell c v):h'.IsCell c v:=by
 obtain⟨o,ho,hd⟩:=z
 obtain⟨sl,e⟩:=up c o ho (fun vs q=>by rw [hd] at q; cases q)
 exact⟨_,e,hd⟩
theorem MU(I:Inv X pins σ H s)(xK:X.stack=X.env :: X.outer)(OY:X.env.frame=some X.env.locals){p:Addr×Obj}(hp:p∈X.pn++pins):p.1∉sD X.stack:=fun z=>by
 obtain⟨_,_,h3,h4,_⟩:=I.pin p hp
 rw [xK] at z; unfold sD at z; rw [rO OY] at z
 rcases List.mem_cons.mp z with e | e
 ·exact h3 e
 ·exact h4 e
theorem BH(I : Inv X pins σ H s)(I1 : Inv X pins σ H1 s1)(xK : X.stack = X.env :: X.outer)(OY : X.env.frame = some X.env.locals)(hex : X.ex = [])
    (hB : ∀ b o, s.heap.get? b = some o → b ∉ sD X.stack → (s1.heap.get? b ≠ none ∨ H b ≠ none) → B.get? b = some o) (iM : B.StaysIn h6) (up : s.heap.UpToSlots h6) (tk : Nat) : Inv X pins σ H { s with heap := h6, toks := tk } := by
  have z := Hi I xK OY hex (fun _ _ e => e) (fun b o e n c => hB b o e n (c.imp (fun c => by
    cases q : X.ic.heap.get? b with
    | none => exact absurd q c
    | some o0 => obtain⟨o1, e1⟩ := I1.base.there b o0 q (by rw [hex]; exact cQ); rw [e1]; simp) id)) iM up
  exact { ok := I.ok, os := I.os, bare := I.bare
          base := by rw [hex]; exact z.1
          loc := by
            obtain⟨m, hn, hl⟩ := I.loc
            exact⟨m, up.ns hn, fun i x v e1 e2 e3 => let ⟨u, r, q⟩ := hl i x v e1 e2 e3; ⟨u, r, q.imp id fun ⟨k, c, e, y⟩ => ⟨k, c, e, JT up y⟩⟩⟩
          cell := fun x c e => let ⟨v, y⟩ := I.cell x c e; ⟨v, JT up y⟩
          free := I.free, jt := I.jt
          pin := fun p hp => by
            obtain⟨h1, h2⟩ := I.pin p hp
            exact⟨iM _ _ (hB p.1 p.2 h1 (MU I xK OY hp) (.inl (by rw [(I1.pin p hp).1]; simp))), h2⟩
          cM := z.2.1
          len := I.len }
theorem Lm(I : Inv X pins σ H s)(ha : H a = none)(hn : X.ic.heap.get? a = none)(nl : a ≠ X.env.locals)(nc : ∀ x c, X.env.cells.lookup x = some c → c ≠ a)(np : ∀ p ∈ X.pn ++ pins, p.1 ≠ a)(new : gu X.prog X.w (upd H a u) s.heap a u) :
    Inv X pins σ (upd H a u) s := by
  have ne : ∀ b v, H b = some v → b ≠ a := fun b v q e => by rw [e, ha] at q; cases q
  exact { ok := I.ok, os := I.os, bare := I.bare
          base := ⟨I.base.keep, I.base.slot, fun b o q n hx => by
            have : b ≠ a := fun e => by rw [e, hn] at q; cases q
            rw [bU this]; exact I.base.free b o q n hx, I.base.there, fun b xs q => by have r := I.base.tx b xs q; rw [bU (ne _ _ r)]; exact r, fun b o v q => by have r := I.base.sC b o v q; rw [bU (ne _ _ r)]; exact r,
            fun b ps q => by obtain⟨more, r⟩ := I.base.vN b ps q; exact⟨more, by rw [bU (ne _ _ r)]; exact r⟩⟩
          loc := I.loc, cell := I.cell
          free := by rw [bU (fu nl)]; exact I.free
          jt := fun x c e => by rw [bU (nc x c e)]; exact I.jt x c e
          pin := fun p hp => by obtain⟨h1, h2, h3⟩ := I.pin p hp; exact⟨h1, by rw [bU (np p hp)]; exact h2, h3⟩
          cM := fun b v q => by
            by_cases e : b = a
            · subst e; rw [cR] at q; cases q; exact new
            · rw [bU e] at q
              exact(I.cM b v q).iM (fun _ _ _ y => y) (fun c r => by rw [bU (ne _ _ r)]; exact r) (fun c xs r => by rw [bU (ne _ _ r)]; exact r)
          len := I.len }
noncomputable abbrev marked(X:Cx)(v:Value):Cx:={ X with A:=X.A.mark (some v),calm:=false,xe:=fun _ _=>False }
theorem QI{v:Value}(ok:X.Ok):(marked X v).Ok :=
 ⟨ok.mod,ok.kind,ok.glob,ok.blt,ok.above,ok.inj,ok.has,ok.Tz,fun z=>(by cases z),ok.frames,ok.TY,ok.Vj,ok.bs,ok.Ow,ok.Hq,ok.La,ok.wu,ok.O1⟩
theorem FU{v:Value}(I:Inv X pins σ H s):Inv (marked X v) pins σ H s:=⟨QI I.ok,I.os,I.bare,I.base,I.loc,I.cell,I.free,I.jt,I.pin,I.cM,I.len⟩
theorem IB{v:Value}(ok:X.Ok)(I:Inv (marked X v) pins σ H s):Inv X pins σ H s:=⟨ok,I.os,I.bare,I.base,I.loc,I.cell,I.free,I.jt,I.pin,I.cM,I.len⟩
theorem Rt{M : Model}{A : dh}{E : Value → aq → Prop}{i : Nat}{n : Str}{pos : Pos}{Q : Unit → aq → Prop}(I : Inv X pins σ H s)(hN : X.N.Nodup)(hi : X.N[i]? = some n)(hk : X.env.scope.names.lookup n = some .local)
    (h : ∀ s', Inv X pins (σ.set i none) H s' → Q () s') : wpAny M A (do bindName X.env n .none; unbindBehindTheSuite X.env n pos) Q E s := by
  obtain⟨m, hn, hl⟩ := id I.loc
  have NS : (X.env.scope.kind == .class || (X.env.scope.kind == .module && X.env.locals != X.env.globals)) = false := by rw [I.ok.kind]; rfl
  obtain⟨oL, _, _, Wy, _⟩ := id hn
  refine wpAny_nameGoes_keeps hk hn NS fun h' v HS hs => h _ ?_
  have low : ∀ b o, X.ic.heap.get? b = some o → b ≠ X.env.locals := fun b o e => bL (bJ (aK e) I.ok.above)
  exact { ok := I.ok, os := I.os, bare := I.bare
          base := ⟨fun b o e n hb hx => (hs.2 b (low b o e)).trans (I.base.keep b o e n hb hx), fun b o e n hb hx => by
              obtain⟨sl, e1⟩ := I.base.slot b o e n hb hx
              exact⟨sl, (hs.2 b (low b o e)).trans e1⟩, I.base.free, fun b o e hx => by
              obtain⟨o', e1⟩ := I.base.there b o e hx
              exact⟨o', (hs.2 b (low b o e)).trans e1⟩, I.base.tx, I.base.sC, I.base.vN⟩
          loc := ⟨_, HS, fun j y v' e1 e2 e3 => by
            by_cases hj : j = i
            · subst hj
              by_cases nB : j < σ.length
              · rw [eV nB] at e2; cases e2
              · rw [i9 (by rw [fj]; lia)] at e2; cases e2
            · rw [eG (fu hj)] at e2
              obtain⟨u', r', q⟩ := hl j y v' e1 e2 e3
              refine⟨u', r', ?_⟩
              rcases q with ⟨k, e⟩ | ⟨k, c, e, z⟩
              · refine .inl ⟨k, ?_⟩
                have : y ≠ n := fun e => hj (yR hN e1 (e ▸ hi))
                simp [this, e]
              · exact .inr ⟨k, c, e, z.sameBut hs (I.Qz y c e)⟩⟩
          cell := fun y c e => by
            obtain⟨w', z⟩ := I.cell y c e
            exact⟨w', z.sameBut hs (I.Qz y c e)⟩
          free := I.free, jt := I.jt
          pin := fun p hp => by
            obtain⟨h1, h2, h3, h4⟩ := I.pin p hp
            exact⟨(hs.2 p.1 h3).trans h1, h2, h3, h4⟩
          cM := fun b ob e => by
            refine(I.cM b ob e).iM (fun c w' hc q => (hs.2 c ?_).trans q) (fun _ q => q) fun _ _ q => q
            rintro rfl
            rcases hc with rfl | hc
            · rw [I.free] at e; cases e
            · rw [I.free] at hc; cases hc
          len := by rw [fj]; exact I.len }
end
theorem Lp{K:ag}{H:Hp}{σ:L2.St}{τ:gY}(a:Lq K H σ τ)(i:Nat):Lq K H (σ.set i none) (τ.set i none):=by
 refine⟨by rw [fj,fj]; exact a.len,fun j e h=>?_⟩
 by_cases hj:i=j
 ·subst hj
  by_cases hi:i < τ.length
  ·rw [eV hi] at h; cases h
  ·rw [i9 (by rw [fj]; lia)] at h; cases h
 ·rw [eG hj] at h
  obtain⟨w,h1,h2⟩:=a.at' j e h
  exact⟨w,by rw [eG hj]; exact h1,h2⟩
end K2
end
section
namespace K2
open PySem PySem.Spec PyProof.Rows L2
noncomputable def subIn(K:ag)(C:Addr)(v:Value):Bool:=match K.lookup C with
 | some ⟨_,_,.cls cd,_⟩=>cd.mro.contains v
 | _=>false
theorem Pr{K:ag}{h:Heap}{C N:Addr}{nm q:Str}{bs bm:List Value}{hdct:Bool}{sn:List Str}{sub:List Value}{ab:Bool}{col:Option Bool}{dd:Option Addr}{k0 k1 k2 k3 k5:Option Value}{newId:String}{v:Value}
  (Y:K.In h) (hC:h.get? C=some (LX nm q C N bs bm hdct sn sub ab col dd k0 k1 k2 k3 k5 newId)) (e:subIn K C v=true):(dv C :: bm).contains v=true:=by
 unfold subIn at e
 split at e
 ·rename_i ho
  have:=Y _ _ ho
  rw [hC] at this
  cases this
  exact e
 ·cases e
section
variable {X:Cx} {x cn n:Str} {D f:Addr} {fd:aW} {ps:List Str} {k i:Nat} {sp:mz} {WL:List Value} {newD:String} {cat:List Str} {e:Expr} {es:List Expr} {p np pos ep NK tp:Pos} {Tg:Stmt} {AX:List Stmt} {t:Ah} {th:iz}
structure Ro(X:Cx):Prop where
 st:X.stack=X.env :: X.outer
 fr:X.env.frame=some X.env.locals
 ex:X.ex=[]
structure Clause(X:Cx)(i:Nat)(n cn:Str)(D:Addr)(cat:List Str):Prop where
 nd:X.N.Nodup
 JY:X.N[i]?=some n
 loc:X.env.scope.names.lookup n=some .local
 gl:Gl X cn
 mg:X.mg cn=some (.ref D)
 cls:∃ WL newD,eX X.K D WL newD=true/\WL.contains (.type "BaseException")=true
 cat:∀ c,cat.contains c=true->∃ C DF newId,aR X.K aN c=some (some (.ref C))/\eX X.K C DF newId=true/\subIn X.K C (.ref D)=true
theorem Fy{pins:List (Addr×Obj)}{σ:L2.St}{H H1 Hj:Hp}{τ:gY}{G G1:Gp}{s1 s':aq}{Dn:jW}{a C t0:Addr}{B:Heap}{ex:Ex}(A0:Ro X)(L:Clause X i n cn D cat)(UK:∀ v,vz (marked X v) (Tg :: AX) th)(J1:Inv X pins σ H1 s1)(W7:Lq X.K H1 σ τ)(ab1:kS X.K H1 G1)(m1:Mv X.K H G H1 G1)
  (I':Inv X pins σ Hj s') (mv:Mv X.K H1 G1 Hj G1) (fl:vD B X.stack a (.ref C) (.ref t0) s'.heap) (hB:∀ b o,s'.heap.get? b=some o->b∉sD X.stack->(s1.heap.get? b≠none\/Hj b≠none)->B.get? b=some o)
  (WD:Hj a=none) (zm:s1.heap.get? a=none) (UX:X.mg ex.cls=some (.ref C)) (LJ:cat.contains ex.cls=true)
  (q':th (fun _ _=>False) ⟨fun oq G'=>Dn.nx (oq.set i none) G',fun _ _=>False,fun _ _=>False,fun _ _=>False⟩ (τ.set i (some (.exc ex.cls))) G1) (hdD:(cn == ("__debug__" : Str))=false) :
  wpAny (model X.prog X.w) X.A (noteFrame (.ref a) X.env) (fun _ qo=>wpAny (model X.prog X.w) X.A (setFlight (.ref a) none) (fun _ yx=>wpAny (model X.prog X.w) X.A (handleBy (.ref a) X.env [.ExceptHandler (some (.Name cn np)) (some n) (Tg :: AX) NK]) (Gk X pins H G Dn) X.xe yx) X.xe qo) X.xe s':=by
 obtain⟨xK,OY,hex⟩:=A0
 obtain⟨hN,hi,hl,hgD,hmD,⟨WL,newD,qD,bD⟩,aaF⟩:=L
 obtain⟨C',DF,newId,HQ,qC,E6⟩:=aaF ex.cls LJ
 have eC:C'=C:=by
  have:=aU J1.ok.mod.Nm J1.ok.mod.glob HQ
  rw [UX] at this; cases this; rfl
 subst eC
 rw [xK] at fl
 refine wpAny_looks_onW (L:=X.env.locals) (by rw [← xK]; exact J1.ok.frames) OY fl fun h4 held up4=>?_
 refine wpAny_landsW held fun h5 fl5 up5=>?_
 have I5:Inv X pins σ Hj { s' with heap:=h5 }:=BH I' J1 xK OY hex hB fl5.1 (up4.trans up5) _
 refine wpAny_handleBy_cons (codeAny_handlers_test ?_) (by intro z; cases z)
 refine oY (X:=marked X (.ref a)) (FU I5) hgD hmD ?_ hdD
 obtain⟨bm,N,nm,qn,bs,hdct,sn,sub,ab,col,dd,k0,k1,k2,k3,k5,mN,hC,_,_,T⟩:=CW I5.HK qC
 obtain⟨WM,N',nm',qn',Rk,Q9,sn',TU,VQ,Vt,S1,k0',k1',k2',k3',k5',mN',hD,_,_,T'⟩:=CW I5.HK qD
 obtain⟨oe,he5,hce⟩:=fl5.there
 refine KL hC hD he5 hce (T'.hasType bD) ?_
 rw [Pr I5.HK hC E6]
 refine codeAny_handlers_suite_as ?_
 refine lands_againW fl5 fun h6 fl6 up6=>?_
 have I6:Inv X pins σ Hj { s' with heap:=h6 }:=BH I' J1 xK OY hex hB fl6.1 ((up4.trans up5).trans up6) _
 obtain⟨Se,he6,hc6⟩:=fl6.there
 have nl:a≠X.env.locals:=fun z=>by
  obtain⟨m,⟨oL,_,_,Wy,_⟩,_⟩:=J1.loc
  rw [z,Wy] at zm; cases zm
 have nc:∀ y c,X.env.cells.lookup y=some c->c≠a:=fun y c ec z=>by
  obtain⟨v,o,ho,_⟩:=J1.cell y c ec
  rw [z,zm] at ho; cases ho
 have npn:∀ q∈X.pn++pins,q.1≠a:=fun q hq z=>by
  have:=(J1.pin q hq).1
  rw [z,zm] at this; cases this
 have hn:X.ic.heap.get? a=none:=by
  cases q0:X.ic.heap.get? a with
  | none=>rfl
  | some o=>obtain⟨o1,e1⟩:=J1.base.there a o q0 (by rw [hex]; exact cQ); rw [e1] at zm; cases zm
 have I7:=Lm (u:=.kQ Se (.ext fun h=>h.get? a=some Se)) I6 WD hn nl nc npn ⟨he6,he6,⟨_,he6⟩,fun h1 h2 q k=>k _ q⟩
 have Y6:Mv X.K Hj G1 (upd Hj a (.kQ Se (.ext fun h=>h.get? a=some Se))) G1:=.LG mv.ab WD
 have kp7:Kp H1 (upd Hj a (.kQ Se (.ext fun h=>h.get? a=some Se))):=(mv.trans Y6).kp ab1
 refine vO (v:=.ref a) I7 hN hi (.inl hl) rfl (fun s8 I8 _=>?_) (.inr hl)
 refine fH (UK (.ref a) (fun _ _=>False) pins s8 _ _ (τ.set i (some (.exc ex.cls))) G1 _ (Lk.none fun _ _ z=>z)
  ⟨FU I8,(W7.mono kp7).set i (.exc ⟨Se,C',cR,hc6,HQ⟩),Y6.ab⟩ q') (fun fw s9 q9=>?_) (fun _ _ z=>z.elim)
 cases fw with
 | next =>
  obtain⟨TH,H9,Tf,G9,I9,m9,q9⟩:=q9
  exact Rt (IB J1.ok I9.inv) hN hi hl fun s10 I10=>⟨TH.set i none,H9,Tf.set i none,G9,⟨I10,Lp I9.st i,I9.ab⟩,m1.trans (mv.trans (Y6.trans m9)),q9⟩
 | brk=>obtain⟨_,_,_,_,_,_,z⟩:=q9; exact z.elim
 | cont=>obtain⟨_,_,_,_,_,_,z⟩:=q9; exact z.elim
 | ret u=>obtain⟨_,_,_,_,_,_,_,_,_,z⟩:=q9; exact z.elim
theorem vW(F:dc X.prog X.w X.K X.mg X.base (AL X.prog X.w) k f fd ps (lg X.K X.mg sp))(hr:jT k X.A)(hg:Gl X x)(hm:X.mg x=some (.ref f))(hk:ar X.K (.ref f)=true)(hb:Binds X.K fd ps [])
  (ha:DH X (e :: es) t) (CM:autoParam ((x == ("__debug__" : Str))=false) Ad._auto_1) (he:autoParam (bK (e :: es) X.env=(false,eval e X.env) :: bK es X.env) Ar._auto_1) (Bm:autoParam ((iV pos (bK es X.env)).any (·.1)=false) Ar._auto_1) :
  gE X (.Call (.Name x p) (e :: es) [] pos) (tU sp t):=by
 intro E pins s σ H τ G Q hE I h
 refine eM (oY I.inv hg hm ?_ CM)
 refine xt (h₀:=X.base) I.inv.ok.mod.Nm hk (xx ha pos hE I h fun vs H1 ds G1 us s1 I1 m1 r rd q=>⟨I1.inv.HK,?_⟩) he Bm
 refine gC (ME (E:=exK X.mg E) F hr hb .nil (fun pins σ H s e s' I hq=>hE.pass pins σ H s s' e I hq) I1.inv r (Q:=Dj X.K H1 G1 Q) ?_) fun _ _ z=>(t4.of z).trans m1
 rw [bS]
 exact⟨ds,G1,Q,E,rd,I1.ab,q,fun d G' v H' q' m' MJ=>⟨d,G',m',MJ,q'⟩,fun ex C H' q' UX=>⟨ex,C,rfl,UX,q'⟩⟩
end
end K2
end
section
namespace K2
open PySem PySem.Spec PyProof.Rows L2 PySem.W PySem.Calls PySem.Builtin PySem.Builtin.Getset_descriptor
section
variable {prog:bP} {w:World} {A:dh} {E:Value->aq->Prop} {s:aq} {K:ag} {a C:Addr} {ox:Obj}
theorem Qu {Q:Option Value->aq->Prop} {B:String} {DF:List Value} (FB:ExcAttrBase B DF) (X:K.In s.heap) (hx:s.heap.get? a=some ox) (hc:ox.cls=.ref C) (hga:findIn K (.ref C) "__getattribute__" = some (some (.builtin "BaseException.__getattribute__"))) (hgn:findIn K (.ref C) "__getattr__" = some none)
  (hA:findIn K (.ref C) "__class__" = some (some (.builtin "object.__class__"))) (hG:specialIn K (.builtin "object.__class__") "__get__" = some (some (.builtin "getset_descriptor.__get__"))) (hT:takesIn K (.builtin "object.__class__")=some true) (hm:mroIn K C (.type "object")=some true) (hmB:mroIn K C (.type "BaseException")=some true)
  (h:Q (some (.ref C)) { s with toks:=s.toks+1 }):wpAny (model prog w) A (getAttr? (.ref a) "__class__") Q E s:=by
 obtain⟨hh,g,d,t,os⟩:=s
 have L0:Looks (model prog w) hh (typeOf (.ref a)) (.ref C):=hc ▸ (Looks.ld hx).andThen .now
 have L1:=looks_findIn (M:=model prog w) X hga
 have L2:=looks_findIn (M:=model prog w) X hgn
 have L5:=looks_mroIn (M:=model prog w) X hm
 have L3:Looks (model prog w) hh (Builtin.ObjectAttr.find (.ref a) (.ref C) "__class__") (.bind (.builtin "getset_descriptor.__get__") (.builtin "object.__class__")):=by
  refine(looks_findIn X hA).andThen ((looks_specialIn X hG:Looks (model prog w) hh (Builtin.ObjectAttr.getOf (some (.builtin "object.__class__"))) _).andThen ?_)
  refine((looks_takesIn X hT).andThen .now:Looks (model prog w) hh (Builtin.ObjectAttr.dataDescriptor? (some (.builtin "object.__class__")) (some (.builtin "getset_descriptor.__get__"))) (some (.builtin "getset_descriptor.__get__",.builtin "object.__class__"))).andThen ?_
  exact Looks.tag .now
 have L4:=looks_mroIn (M:=model prog w) X hmB
 have hx2:(Value.builtin "BaseException.__getattribute__" == Value.builtin "object.__getattribute__")=false:=by decide +kernel
 unfold getAttr? getAttrBy? getAttrBy
 refine aa (wpAny_mkText (aa (jQ (dq (aa (L0.at (aa (L1.at ?_))))))))
 dsimp only
 rw [if_neg (by rw [hx2]; simp)]
 unfold getAttrByItsOwn hookBefore callGetattribute
 have f3:=FB.ga.bind (.ref a)
 have fin:vJ (model prog w) A (.call (.builtin "BaseException.__getattribute__") ⟨[.ref a,.str "__class__" t],[]⟩) (fun r s'=>r=.ok (.ret (.ref C))/\s'=⟨hh,g,d,t+1,os⟩) ⟨hh,g,d,t+1,os⟩:=by
  refine Aj FB.ga.plain F.entry_bexc_ga ?_
  have hk:builtinKind "BaseException.__getattribute__" = some .slot:=by decide +kernel
  have SA:splitId "BaseException.__getattribute__" = some ("BaseException","__getattribute__"):=by decide +kernel
  have ha:=F.args_bexc_ga (.ref a) (.str "__class__" t)
  have LI:Looks (model prog w) hh (isInstance (.ref a) (.type "BaseException")) true:=L0.andThen L4
  simp only [checkBuiltinCall,hk,SA]
  refine aa (LI.at ?_)
  simp only [bO,aB,if_false]
  have body:wpAny (model prog w) A.in1 (Builtin.«object.__getattribute__» ⟨[.ref a,.str "__class__" t],[]⟩)
    (fun fin s'=>fin=.done (.ret (.ref C))/\s'=⟨hh,g,d,t+1,os⟩) (fun _ _=>False) ⟨hh,g,d,t+1,os⟩:=by
   unfold Builtin.«object.__getattribute__»
   refine aa (ai ?_)
   refine aa (ai ?_)
   refine aa (L0.at (aa (L3.at ?_)))
   show wpAny _ _ (Builtin.ObjectAttr.bindTo (.builtin "getset_descriptor.__get__") (.builtin "object.__class__") (.ref a) (.ref C)) _ _ _
   show wpAny _ _ (do let v ← Gx [.builtin "object.__class__"] (call (.builtin "getset_descriptor.__get__") [.builtin "object.__class__",.ref a,.ref C]); ret v) _ _ _
   refine aa (dq (Gu ?_))
   refine Aj KF.slot_gs.plain KF.entry_gs (KF.slot_gs.check _ _ _ _ _ _ _ _ KF.type_class (KF.args_gs _ _ _) ?_)
   unfold Builtin.«getset_descriptor.__get__» descrGet
   rw [dga_obj]
   refine aa (ai ?_)
   unfold descrGetter descrCheckInstance descrNameAndClass isInstance
   simp only [KF.owner_class]
   repeat lk
   refine⟨Code.quiet_builtin _ (by decide +kernel),jA KF.entry_class ?_⟩
   unfold Builtin.«object.__class__» shownTypeOf
   repeat lk
   exact⟨rfl,rfl⟩
  have go:∀ z:Sem Unit,z=pure ()->∀ (P:Unit->aq->Prop) (E':Value->aq->Prop) s',P () s'->wpAny (model prog w) A.in1 z P E' s':=fun z e P E' s' hp=>by rw [e]; exact ai hp
  refine go _ ha _ _ _ (fH body ?_ (fun _ _ z=>z.elim))
  rintro fin s' ⟨e1,e2⟩
  subst e1; exact⟨rfl,e2⟩
 refine aa (L2.at (aa (jQ (dq ?_))))
 simp only [pX,aB,if_false]
 unfold boundAndCalled
 rw [f3]
 refine aa (ai (Gu (nF fin ?_)))
 rintro r s' ⟨e1,e2⟩
 subst e1; subst e2
 exact ai (ai h)
structure vB(K:ag)(C:Addr):Prop where
 ga:findIn K (.ref C) "__getattribute__" = some (some (.builtin "BaseException.__getattribute__"))
 gn:findIn K (.ref C) "__getattr__" = some none
 JY:findIn K (.ref C) "__class__" = some (some (.builtin "object.__class__"))
 sp:specialIn K (.builtin "object.__class__") "__get__" = some (some (.builtin "getset_descriptor.__get__"))
 tk:takesIn K (.builtin "object.__class__")=some true
 mo:mroIn K C (.type "object")=some true
 mb:mroIn K C (.type "BaseException")=some true
 is:(clsIn K C).isSome=true
theorem Nl{B:String}{DF:List Value}(FB:ExcAttrBase B DF)(Z:vB K C):KitX K (.ref a) (.ref C) (fun h=>∃ o,h.get? a=some o/\o.cls=.ref C) where
 ty:=by rintro M h _ ⟨o,hx,hc⟩; exact hc ▸ (Looks.ld hx).andThen .now
 it:=fun M h X _=>by
  have SO:=Z.is
  unfold clsIn at SO
  split at SO
  ·rename_i ho
   intro A' Q' E' s' k q
   unfold isType loadHead
   exact aa (wpAny_loadPart (k _ _ (X _ _ ho)) (ai q))
  ·cases SO
 ne:=fun h tp dd bB n sl X htp=>by
  have SO:=Z.is
  refine Bool.eq_false_iff.mpr fun q=>?_
  have e:C=tp:=Value.ref.inj (beq_iff_eq.mp q)
  subst e
  unfold clsIn at SO
  split at SO
  ·rename_i ho
   have z:=(X _ _ ho).symm.trans htp
   cases z
  ·cases SO
 ca:=fun X ⟨o,hx,hc⟩ k=>Qu FB X hx hc Z.ga Z.gn Z.JY Z.sp Z.tk Z.mo Z.mb k
end
end K2
end
section
namespace K2
open PySem PySem.Spec PyProof.Rows L2
theorem vo{P:Str->Prop}:∀ c,([]:List Str).contains c=true->P c:=fun c h=>by simp at h
theorem i7{l:List Str}{P:Str->Prop}{x:Str}(h:P x)(t:∀ c,l.contains c=true->P c):∀ c,(x :: l).contains c=true->P c:=fun c hc=>by
 rw [pO,og] at hc
 rcases hc with hc | hc
 ·rw [beq_iff_eq.mp hc]; exact h
 ·exact t c hc
section
variable {X:Cx} {a:Expr} {ta:fW} {p pos:Pos} {B:String} {DF:List Value} {all sub:List Str}
theorem Es {y:Str} {py:Pos} {C:Addr} (FB:ExcAttrBase B DF) (hg:Gl X "isinstance") (hm:X.mg "isinstance" = none) (hgC:Gl X y) (hmC:X.mg y=some (.ref C)) (aaj:dF X.K (.type "NoneType") (.ref C)=some false)
  (aax:∀ c,all.contains c=true->∃ C',aR X.K aN c=some (some (.ref C'))/\dF X.K (.ref C') (.ref C)=some (sub.contains c)/\vB X.K C') (ha:gE X a ta) (CM:autoParam ((y == ("__debug__" : Str))=false) Ad._auto_1)
  (he:autoParam (bK [a,.Name y py] X.env=(false,eval a X.env) :: bK [.Name y py] X.env) Ar._auto_1) (Bm:autoParam ((iV pos (bK [Expr.Name y py] X.env)).any (·.1)=false) Ar._auto_1) (he2:autoParam (bK [.Name y py] X.env=[(false,eval (.Name y py) X.env)]) Ar._auto_1) :
  gE X (.Call (.Name "isinstance" p) [a,.Name y py] [] pos) (JO all sub ta):=by
 intro E pins s σ H τ G Q hE I h
 refine eM (oZ I.inv hg hm PyProof.Rows.boot_isinstance ?_)
 refine kd ?_ he Bm
 rw [he]
 show wpAny _ _ (LS ((false,eval a X.env) :: iV pos (bK [.Name y py] X.env))) _ _ s
 refine kq (lM ha hE I h fun v H1 d G1 u s1 I1 m1 r1 jS q1=>?_)
 rw [he2]
 show wpAny _ _ (LS [(false,eval (.Name y py) X.env)]) _ _ s1
 refine kq (oY I1.inv hgC hmC (Calls.spliced_nil ?_) CM)
 have fin:∀ b tk,Q (.bl b) G1->t4 X pins σ H G Q (.bool b) { s1 with toks:=tk }:=fun b tk q =>
  ⟨.bl b,H1,.bl b,G1,I1.inv.tok _,m1,rfl,.bl b,q⟩
 cases jS with
 | cY =>
  cases r1
  exact PySem.W.kia_one PySem.W.kitx_none I1.inv.HK nG aaj (fun z=>nomatch z) fun tk=>fin false tk q1
 | exc h0 =>
  cases r1
  obtain⟨o,C',e1,e2,e3⟩:=h0
  obtain⟨qY,q2⟩:=q1
  obtain⟨C2,e4,k1,k2⟩:=aax _ qY
  rw [e3] at e4
  cases e4
  exact PySem.W.kia_one (Nl FB k2) I1.inv.HK ⟨o,(I1.inv.cM _ _ e1).1,e2⟩ k1 (fun z=>nomatch z) fun tk=>fin _ tk q2
 | _=>exact q1.elim
end
end K2
end
section
namespace K2
open PySem PySem.Spec PyProof.Rows L2
section
variable {X:Cx} {e:Expr} {te:fW} {pos:Pos}
theorem nA{i:Nat}{x:Str}{pos':Pos}(hN:X.N.Nodup)(hi:X.N[i]?=some x)(he:gE X e te)(hx:autoParam (Loc X.env.scope x) Ao._auto_1)(hs:autoParam (DI e (some (.Name x pos')) pos.line X.env=pure false) Ar._auto_1)(hf:autoParam (X.fn x=true\/X.env.scope.names.lookup x=some .local) Ao._auto_1) :
  Gn X (.Assign [.Name x pos'] e pos) (cz te (aQ i)):=PN hN hi hx he hs hf
theorem qB{i:Nat}{x:Str}(hN:X.N.Nodup)(hi:X.N[i]?=some x)(hx:autoParam (Loc X.env.scope x) Ao._auto_1)(hf:autoParam (X.fn x=true\/X.env.scope.names.lookup x=some .local) Ao._auto_1):LM X (.Name x pos) (aQ i):=MW hN hi hx hf
theorem yc{P:bP}{w:World}{K:ag}{mg:Str->Option Value}{base:Heap}{x qual:Str}{st:Stmt}{f:Addr}{fd:aW}{Nn ps:List Str}{k:Nat}{sp:mz}{rd:iz}(F:pU K x qual st f fd)(S:cN Nn ps (aG st))
  (hr:∀ ds G Q,sp ds G Q (fun _ _=>False)->rd (fun _ _=>False) (ends Q) (bM Nn.length ds) G)
  (hb:∀ (nC:Value) (A:dh) (outer:List Env) (s:aq) (H:Hp) (E:XK),jT k (A.deeper (yj qual (aG st) s.heap.objs.size f nC))->vz (wI jf P w K mg base Nn qual (aG st) f nC A outer s H E).To (cC st) rd)
  (len:autoParam (∀ ds G Q E,sp ds G Q E->ds.length=ps.length) Al._auto_1):dc P w K mg base jf (k+1) f fd ps (d4 K sp):=Qs F S len hr hb
theorem WH{P:bP}{w:World}{K:ag}{mg:Str->Option Value}{base:Heap}{x qual:Str}{st:Stmt}{f:Addr}{fd:aW}{Nn ps:List Str}{k:Nat}{sp:mz}{rd:iz}(F:pU K x qual st f fd)(S:cN Nn ps (aG st))
  (hr:∀ ds G Q E,sp ds G Q E->rd E (ends Q) (bM Nn.length ds) G)
  (hb:∀ (nC:Value) (A:dh) (outer:List Env) (s:aq) (H:Hp) (E:XK),jT k (A.deeper (yj qual (aG st) s.heap.objs.size f nC))->vz (wI (AL P w) P w K mg base Nn qual (aG st) f nC A outer s H E) (cC st) rd)
  (len:autoParam (∀ ds G Q E,sp ds G Q E->ds.length=ps.length) Al._auto_1):dc P w K mg base (AL P w) (k+1) f fd ps (lg K mg sp):=Qr F S len hr hb
theorem vI{N ps:List Str}{sc:Scope}(h1:autoParam (sc.kind=.function) Ar._auto_1)(h2:autoParam (sc.isCoroutine=false) Ar._auto_1)(h3:autoParam (sc.isGenerator=false) Ar._auto_1)(h4:autoParam N.Nodup Ak._auto_1)(h5:autoParam (N.take ps.length=ps) Ar._auto_1)
  (h6:autoParam (∀ x∈ps,sc.names.lookup x=some .local\/sc.names.lookup x=some .cell) Ak._auto_1) (h7:autoParam (∀ y∈sc.names,y.2≠.free) Ak._auto_1):cN N ps sc:=⟨h1,h2,h3,h4,h5,h6,h7⟩
end
end K2
end
section
namespace K2
open PySem PySem.Spec PyProof.Rows L2
section
variable {X:Cx}
noncomputable def Je(b neg:Bool):DG:=fun x y G Q=>match y with
 | .bl c=>c=b/\vU b neg x G Q
 | _=>False
theorem Jn(b:Bool):vA X (gm .Is) (Je b false):=by
 intro pins s σ H G x y dx dy v u Q I ab rx ry dX dY q
 unfold Je at q
 split at q
 ·obtain⟨rfl,q⟩:=q
  cases dY
  cases ry
  unfold vU at q
  split at q
  ·cases dX
   cases rx
   exact is_bool ⟨.bl _,H,.bl _,G,I,.refl ab,rfl,.bl _,q⟩
  ·exact q.elim
 ·exact q.elim
variable {a:Expr} {ta:fW} {pos p:Pos}
theorem PY{j}(ha:gE X a ta):gE X (.Compare a [.Is] [.Constant (.bool true) j p] pos) (JL (vU true false) ta):=by
 have h:=xY (pos:=pos) (Jn true) ha (vX (k:=true) (j:=j) (pos:=p)) (gr _)
 refine(show bA (Je true false) ta (dC (.bl true))=JL (vU true false) ta from ?_) ▸ h
 funext E τ G Q
 show (ta E τ G fun x G1=>true=true/\vU true false x G1 Q)=ta E τ G fun x G1=>vU true false x G1 Q
 simp only [true_and]
theorem PZ{j}(ha:gE X a ta):gE X (.Compare a [.Is] [.Constant (.bool false) j p] pos) (JL (vU false false) ta):=by
 have h:=xY (pos:=pos) (Jn false) ha (vX (k:=false) (j:=j) (pos:=p)) (gr _)
 refine(show bA (Je false false) ta (dC (.bl false))=JL (vU false false) ta from ?_) ▸ h
 funext E τ G Q
 show (ta E τ G fun x G1=>false=false/\vU false false x G1 Q)=ta E τ G fun x G1=>vU false false x G1 Q
 simp only [true_and]
end
end K2
end
section
namespace K2
open PySem PySem.Spec PyProof.Rows L2
theorem wc{α:Type}{us:List α}(h:us.length=1):∃ a,us=[a]:=List.length_eq_one_iff.mp h
theorem Sq{α:Type}{us:List α}{n:Nat}(h:us.length=n+1):∃ a t,us=a :: t/\t.length=n:=by
 cases us with
 | nil=>cases h
 | cons a t=>exact⟨a,t,rfl,Nat.succ.inj h⟩
theorem HG{α:Type}{us:List α}(h:us.length=2):∃ a b,us=[a,b]:=by
 obtain⟨a,t,rfl,h2⟩:=Sq h; obtain⟨b,rfl⟩:=wc h2; exact⟨a,b,rfl⟩
theorem CB{α:Type}{us:List α}(h:us.length=3):∃ a b c,us=[a,b,c]:=by
 obtain⟨a,t,rfl,h2⟩:=Sq h; obtain⟨b,c,rfl⟩:=HG h2; exact⟨a,b,c,rfl⟩
theorem Zc{α:Type}{us:List α}(h:us.length=4):∃ a b c d,us=[a,b,c,d]:=by
 obtain⟨a,t,rfl,h2⟩:=Sq h; obtain⟨b,c,d,rfl⟩:=CB h2; exact⟨a,b,c,d,rfl⟩
end K2
end
section
namespace K2.S
open PySem PySem.Spec PyProof.Rows L2 PySem.SetTable
section
variable {prog:bP} {w:World} {A:dh} {E:Value->aq->Prop} {s:aq}
noncomputable abbrev TK(prog:bP)(w:World):HeapKind prog w (List Key):=dH (cy prog w)
theorem Jy{h h':Heap}{k:List Key}{b:Addr}(x:(TK prog w).is h k b)(e:∀ o,h.get? b=some o->h'.get? b=some o):(TK prog w).is h' k b:=by
 obtain⟨o,items,n,ho,r⟩:=x
 exact⟨o,items,n,e o ho,r⟩
theorem HL{h:Heap}{k k':List Key}{b:Addr}(x:(TK prog w).is h k b)(y:(TK prog w).is h k' b):k=k':=(TK prog w).inj x y
noncomputable def OI(B:Addr->Prop)(prog:bP)(w:World)(h:Heap)(es:En)(ks:List (List Key)):Prop :=
 ks.length=es.size/\∀ (i:Nat) (e:Int×Value),es[i]?=some e->∃ (k:List Key) (b:Addr),ks[i]?=some k/\e.2=.ref b/\(TK prog w).is h k b/\e.1=(TK prog w).hash k/\B b
theorem qi{a:Addr}{o:Obj}{es:En}{ep:Nat}{t:gO}{Q:(En×Nat×gO)->aq->Prop}(ho:s.heap.get? a=some o)(hd:o.data=.set es ep t)(O:QJ t es)(h:Q (es,ep,t) s) :
  wpAny (model prog w) A (setState a) Q E s :=
 mZ ho hd (by unfold SetTable.fits FV; rw [O.sz,O.dm]; have:=O.lY; have:=O.sz; simp; lia) h
theorem Fw(n:Nat){v:Value}(h:AN v=true):ud n v=pure false:=by
 cases v <;> first | (unfold ud; rfl) | (exact bq (show false=true from h))
theorem Mg{k:List Key}{b:Addr}(hx:(TK prog w).is s.heap k b){Q:Bool->aq->Prop}(h:Q false s):wpAny (model prog w) A (ud 8 (.ref b)) Q E s:=by
 have hT:s.TypeIs (.ref b) "tuple":=wW hx
 obtain⟨o,items,n,ho,_,hd,hi⟩:=hx
 unfold ud
 refine aa (IF hT ?_)
 dsimp only
 rw [if_pos (beq_self_eq_true _)]
 refine aa (ai ?_)
 rw [if_neg (by intro z; cases z)]
 refine aa (wpAny_seqItems ho hd ?_)
 dsimp only
 refine aa ?_
 show wpAny _ _ (forIn items _ _) _ _ s
 rw [← yn]
 refine iU _ (fun rest r s'=>r.1=none/\s'=s/\∀ v∈rest,AN v=true) _ ?_ ?_ _ _ ⟨rfl,rfl,hi.byValue⟩
 ·rintro v rest r s' ⟨hr,rfl,qY⟩
  rw [Fw _ (qY v aE)]
  refine aa (ai ?_)
  rw [if_neg (by intro z; cases z)]
  exact ai ⟨rfl,rfl,fun u x9=>qY u (av _ x9)⟩
 ·rintro⟨r1,r2⟩ s' ⟨hr,rfl,_⟩
  simp only at hr
  subst hr
  exact ai h
theorem J9{x:Value}{k:List Key}{b:Addr}(ex:x=.ref b)(hx:(TK prog w).is s.heap k b){l:List Value}(hl:∀ y∈l,∃ k' b',y=.ref b'/\(TK prog w).is s.heap k' b'){Q:Bool->aq->Prop}(h:Q false s) :
  wpAny (model prog w) A (Gv x l) Q E s:=by
 subst ex
 unfold Gv
 refine aa ?_
 refine iU _ (fun rest r s'=>r.1=none/\s'=s/\∀ y∈rest,∃ k' b',y=.ref b'/\(TK prog w).is s.heap k' b') _ ?_ ?_ _ _ ⟨rfl,rfl,hl⟩
 ·rintro v rest r s' ⟨hr,rfl,qY⟩
  obtain⟨k',b',rfl,hv⟩:=qY v aE
  have go:∀ y∈rest,∃ k' b',y=.ref b'/\(TK prog w).is s'.heap k' b':=fun u x9=>qY u (av _ x9)
  dsimp only
  by_cases c:(b == b'||AN (.ref b)&&AN (.ref b'))=true
  ·rw [if_pos c]; exact ai ⟨rfl,rfl,go⟩
  ·rw [if_neg c]
   refine aa (wpAny_eqIsQuiet_tuple hx ?_)
   rw [if_neg (by intro z; cases z)]
   refine aa (wpAny_eqIsQuiet_tuple hv ?_)
   rw [if_neg (by intro z; cases z)]
   refine aa (Mg hx ?_)
   rw [if_neg (by intro z; cases z)]
   refine aa (Mg hv ?_)
   rw [if_neg (by intro z; cases z)]
   exact ai ⟨rfl,rfl,go⟩
 ·rintro⟨r1,r2⟩ s' ⟨hr,rfl,_⟩
  simp only at hr
  subst hr
  exact ai h
theorem AU{a:Addr}{o:Obj}{es:En}{ep:Nat}{t:gO}{ks:List (List Key)}{k:List Key}{b:Addr}(hu:(TK prog w).room A)(ho:s.heap.get? a=some o)(hd:o.data=.set es ep t)(O:QJ t es){B:Addr->Prop}(M:OI B prog w s.heap es ks)(hx:(TK prog w).is s.heap k b)
  {N:Nat} (h1:¬ Full t.place (dR t.mask N (probeStart t ((TK prog w).hash k))).j) (h2:∀ n,n < N->Full t.place (dR t.mask n (probeStart t ((TK prog w).hash k))).j) {Q:SetFound->aq->Prop}
  (yes:k∈ks->Q (.there none) s) (no:k∉ks->Q (.free (dR t.mask N (probeStart t ((TK prog w).hash k))).j false) s) :
  ∀ (fuel n:Nat) (st:Option Probe),N - n < fuel->n<=N->st.getD (probeStart t ((TK prog w).hash k))=dR t.mask n (probeStart t ((TK prog w).hash k)) ->
   (∀ n',n' < n->∀ i,i < t.place.size->t.place.getD i 0=(dR t.mask n' (probeStart t ((TK prog w).hash k))).j->ks[i]?≠some k) ->
   wpAny (model prog w) A (setSearchFrom a (.ref b) ((TK prog w).hash k) true fuel st) Q E s
 | 0,n,st,hf,_,_,_=>absurd hf (cu _)
 | fuel+1,n,st,hf,hn,xK,past=>by
  generalize hh:(TK prog w).hash k=h at *
  show wpAny _ _ (setState a >>= _) _ _ s
  refine aa (qi ho hd O ?_)
  dsimp only
  have gw:t.gaveWay=false:=by
   unfold SetTable.gaveWay
   rcases O.ms with e | e | e <;> rw [e] <;> rfl
  rw [gw,if_neg (by intro z; cases z),xK]
  have pb:Pb t.mask (dR t.mask n (probeStart t h)):=Pb.dR n (Pb.start t h)
  obtain⟨N',hN',hf',_⟩:=zx O _ pb
  obtain⟨n1,met,g,ba,fin⟩:=Ep O.up O.dm (S.hk es) h (10 * turns t.mask) _ pb ⟨N',hN',hf'⟩
  rw [show dR t.mask n1 (dR t.mask n (probeStart t h))=dR t.mask (n+n1) (probeStart t h) from(iX _ _ _ _).symm,show dR t.mask (n1+1) (dR t.mask n (probeStart t h))=dR t.mask (n+n1+1) (probeStart t h) from(iX _ n (n1+1) _).symm] at fin
  generalize hP:t.probe _ h (dR t.mask n (probeStart t h))=P
  have eP:P=some met:=hP.symm.trans g
  subst eP
  dsimp only
  have le:n+n1<=N:=by
   apply cA
   intro z
   obtain⟨i,hi,e,_⟩:=ba (N - n) (by lia)
   rw [← iX,show n+(N - n)=N by lia] at e
   exact h1 ⟨i,hi,e⟩
  have UY:∀ i,i < t.place.size->ks[i]?=some k->S.hk es i=h:=by
   intro i hi e
   have Af:i < es.size:=by rw [← O.sz]; exact hi
   obtain⟨k',b',q1,_,_,q4⟩:=M.2 i _ (aX Af)
   rw [e] at q1; cases q1
   unfold S.hk
   rw [aX Af,← hh]; exact q4.1
  have QU:∀ n',n' < n+n1->∀ i,i < t.place.size->t.place.getD i 0=(dR t.mask n' (probeStart t h)).j->ks[i]?≠some k:=by
   intro n' HS i hi e ek
   by_cases c:n' < n
   ·exact past n' c i hi e ek
   ·obtain⟨i',Af,e',ne⟩:=ba (n' - n) (by lia)
    rw [← iX,show n+(n' - n)=n' by lia] at e'
    have:=O.up.inj hi Af (e.trans e'.symm)
    subst this
    exact ne (UY i hi ek)
  rcases fin with ⟨nf,rfl⟩ | ⟨i,hi,pi,adR,rfl⟩
  ·have eN:n+n1=N:=by
    by_cases c:n+n1 < N
    ·exact absurd (h2 _ c) nf
    ·lia
   rw [eN]
   dsimp only
   refine ai (no fun hk=>?_)
   obtain⟨i,hi,e⟩:=dI hk
   have ek:ks[i]?=some k:=by rw [ah hi,e]
   have Af:i < t.place.size:=by rw [O.sz,← M.1]; exact hi
   obtain⟨n0,w1,w2⟩:=O.way i Af
   rw [UY i Af ek] at w1 w2
   have lt:n0 < N:=by
    apply cA
    intro z
    by_cases c:n0=N
    ·subst c; exact h1 ⟨i,Af,w1.symm⟩
    ·exact h1 (w2 N (by lia))
   exact QU n0 (by lia) i Af w1.symm ek
  ·have Af:i < es.size:=by rw [← O.sz]; exact hi
   obtain⟨k',b',q1,q2,q3,q4⟩:=M.2 i _ (aX Af)
   have nN:n+n1≠N:=fun z=>h1 ⟨i,hi,by rw [← z]; exact pi⟩
   have red:∀ (l:List Value) (m:Sem SetFound),(∀ y∈l,∃ k' b',y=.ref b'/\(TK prog w).is s.heap k' b')->wpAny (model prog w) A m Q E s ->
     wpAny (model prog w) A (if (!t.led)=true then (Gv (.ref b) l >>= fun r=>if r=true then ((LR "set:the-search-would-show-the-table" : Sem PUnit) >>= fun _=>m) else m) else m) Q E s:=by
    intro l m hl hm
    cases t.led with
    | true=>rw [if_neg (by intro z; cases z)]; exact hm
    | false =>
     rw [if_pos (show (!false)=true from rfl)]
     refine aa (J9 rfl hx hl ?_)
     rw [if_neg (by intro z; cases z)]; exact hm
   refine red _ _ (fun y hy=>?_) ?_
   ·obtain⟨e,he,rfl⟩:=List.mem_map.mp hy
    rw [Pg] at he
    have he:=(List.mem_filter.mp he).1
    obtain⟨m,hm,em⟩:=dI he
    obtain⟨k2,b2,_,z2,z3,_⟩:=M.2 m e (by rw [← ck,ah hm,em])
    exact⟨k2,b2,z2,z3⟩
   ·rw [aX Af]
    generalize he0:es[i]=e0 at q2 q4 ⊢
    obtain⟨h0,y⟩:=e0
    have q2:y=.ref b':=q2
    subst q2
    dsimp only
    refine aa (dq ((TK prog w).eqBool hu q3 hx ?_))
    refine aa (qi ho hd O ?_)
    dsimp only
    by_cases c:k'=k
    ·rw [decide_eq_true c,if_pos (show (true&&true)=true from rfl)]
     subst c
     exact ai (yes (dS q1))
    ·rw [decide_eq_false c,if_neg (by intro z; cases z)]
     have sm:t.sameMemory t.moves t.mask=some true:=by unfold SetTable.sameMemory; rw [if_pos (beq_self_eq_true _)]
     rw [sm]
     dsimp only
     rw [if_pos (show true=true from rfl),show t.slot (dR t.mask (n+n1) (probeStart t h)).j=.live i from pi ▸ A2 O.up hi]
     dsimp only
     rw [aX Af,he0]
     dsimp only
     refine aa ?_
     unfold isSame
     dsimp only
     rw [if_pos (beq_self_eq_true b')]
     refine ai (aa (ai ?_))
     rw [if_pos (show true=true from rfl)]
     dsimp only
     rw [if_neg (by intro z; cases z)]
     have T9:=AU hu ho hd O M hx (N:=N) (Q:=Q) (by rw [hh]; exact h1) (by rw [hh]; exact h2) yes (by rw [hh]; exact no) fuel (n+n1+1) (some (dR t.mask (n+n1+1) (probeStart t h)))
     rw [hh] at T9
     refine T9 (by lia) (by lia) rfl fun n' HS i2 Tv e2 ek=>?_
     by_cases c2:n' < n+n1
     ·exact QU n' c2 i2 Tv e2 ek
     ·have:n'=n+n1:=by lia
      subst this
      have:=O.up.inj Tv hi (e2.trans pi.symm)
      subst this
      rw [q1] at ek; cases ek; exact c rfl
end
end K2.S
end
section
namespace K2.S
open PySem PySem.Spec PyProof.Rows L2 PySem.SetTable
section
variable {B:Addr->Prop} {prog:bP} {w:World} {A:dh} {E:Value->aq->Prop} {s:aq}
theorem OI.keep{h h':Heap}{es:En}{ks:List (List Key)}(M:OI B prog w h es ks)(e:∀ b o,B b->h.get? b=some o->(∃ items n,o.data=.seq items n)->h'.get? b=some o):OI B prog w h' es ks:=by
 refine⟨M.1,fun i x hx=>?_⟩
 obtain⟨k,b,q1,q2,q3,q4⟩:=M.2 i x hx
 refine⟨k,b,q1,q2,?_,q4⟩
 obtain⟨o,items,n,ho,hc,hd,r⟩:=q3
 exact⟨o,items,n,e b o q4.2 ho ⟨items,n,hd⟩,hc,hd,r⟩
theorem OI.perm{h:Heap}{es es':En}{ks:List (List Key)}(M:OI B prog w h es ks)(p:List.Perm es'.toList es.toList):∃ LF,OI B prog w h es' LF/\LF.Perm ks:=by
 classical
 let Kf:Int×Value->List Key:=fun e=>if z:∃ k,∃ b,e.2=.ref b/\(TK prog w).is h k b then OM z else []
 have at_:∀ e∈es.toList,∃ b,e.2=.ref b/\(TK prog w).is h (Kf e) b/\e.1=(TK prog w).hash (Kf e)/\B b:=by
  intro e he
  obtain⟨i,hi,ei⟩:=dI he
  obtain⟨k,b,q1,q2,q3,q4⟩:=M.2 i e (by rw [← ck,ah hi,ei])
  have z:∃ k,∃ b,e.2=.ref b/\(TK prog w).is h k b:=⟨k,b,q2,q3⟩
  have ek:Kf e=OM z:=dif_pos z
  obtain⟨b2,e2,i2⟩:=Classical.choose_spec z
  rw [q2] at e2
  cases e2
  have:=HL q3 i2
  rw [ek,← this]
  exact⟨b,q2,q3,q4⟩
 have eks:ks=es.toList.map Kf:=by
  refine List.ext_getElem? fun i=>?_
  rw [bu]
  by_cases hi:i < es.size
  ·obtain⟨k,b,q1,q2,q3,q4⟩:=M.2 i _ (aX hi)
   rw [q1,ck,aX hi]
   obtain⟨b2,z1,z2,_⟩:=at_ es[i] (Array.getElem_mem_toList hi)
   rw [q2] at z1; cases z1
   rw [HL q3 z2]; rfl
  ·rw [i9 (by rw [M.1]; lia),ck,fV (by lia)]; rfl
 refine⟨es'.toList.map Kf,⟨by rw [aj,br],fun i e he=>?_⟩,by rw [eks]; exact p.map _⟩
 have hm:e∈es'.toList:=dS (by rw [ck]; exact he)
 obtain⟨b,z1,z2,z3⟩:=at_ e (p.mem_iff.mp hm)
 exact⟨Kf e,b,by rw [bu,ck,he]; rfl,z1,z2,z3⟩
theorem OI.ins{h:Heap}{es:En}{ks:List (List Key)}(M:OI B prog w h es ks){k:List Key}{b:Addr}(hx:(TK prog w).is h k b)(hB:B b){p:Nat}(hp:p<=es.size) :
  OI B prog w h (insertAt es p ((TK prog w).hash k,.ref b)) (ks.take p++k :: ks.drop p):=by
 have lk:(ks.take p).length=p:=by rw [dj,M.1]; lia
 refine⟨by rw [au,ak,lk,cJ,gP _ _ _ hp,M.1]; lia,fun i e he=>?_⟩
 rw [u4 _ _ _ hp] at he
 by_cases c:i < p
 ·rw [if_pos c] at he
  obtain⟨k',b',q⟩:=M.2 i e he
  exact⟨k',b',by rw [cW (by lia),jY c]; exact q.1,q.2⟩
 ·rw [if_neg c] at he
  by_cases d:i=p
  ·rw [if_pos d] at he
   cases he
   exact⟨k,b,by rw [bZ (by lia),lk,d,Pa]; rfl,rfl,hx,rfl,hB⟩
  ·rw [if_neg d] at he
   obtain⟨k',b',q⟩:=M.2 (i - 1) e he
   exact⟨k',b',by rw [bZ (by lia),lk,show i - p=(i - p - 1)+1 by lia,af,Aa,show p+(i - p - 1)=i - 1 by lia]; exact q.1,q.2⟩
noncomputable def IC(k:List Key):Prop:=∀ x∈k,∃ i,x=BK i
noncomputable def OD(B:Addr->Prop)(prog:bP)(w:World)(h:Heap)(a:Addr)(led:Bool)(ks:List (List Key)):Prop :=
 ∃ o es ep t,h.get? a=some o/\o.ExactSet/\o.data=.set es ep t/\QJ t es/\t.tooFull=false/\t.led=led/\((∀ k∈ks,IC k)->t.plain=true)/\OI B prog w h es ks
theorem int_at{k:List Key}{vs:List Value}(hi:ItemsAre (cy prog w) k vs)(c:IC k){v:Value}(hv:v∈vs):∃ t:Int×Tok,v=.int t.1 t.2:=by
 induction hi with
 | nil=>cases hv
 | cons h _ ih =>
  rcases List.mem_cons.mp hv with e | hv
  ·subst e
   obtain⟨i,rfl⟩:=c _ aE
   rcases ez (k:=.inl i) h with ⟨j,t,e,rfl⟩ | ⟨_,_,e,_⟩
   ·exact⟨(j,t),rfl⟩
   ·cases e
  ·exact ih (fun x hx=>c x (av _ hx)) hv
theorem Rp{k:List Key}{b:Addr}(hx:(TK prog w).is s.heap k b){Q:Bool->aq->Prop}(h:∀ r,(IC k->r=true)->Q r s):wpAny (model prog w) A (LW 8 (.ref b)) Q E s:=by
 have hT:s.TypeIs (.ref b) "tuple":=wW hx
 obtain⟨o,items,n,ho,_,hd,hi⟩:=hx
 unfold LW
 refine aa (yf hT F.slot_tuple_hash.lookup ?_)
 show wpAny _ _ (seqItems? (.ref b) >>= _) _ _ s
 refine aa (wpAny_seqItems ho hd ?_)
 refine aa ?_
 show wpAny _ _ (forIn items _ _) _ _ s
 rw [← yn]
 have hb:∀ v∈items.toList,∃ r,LW 7 v=pure r/\(IC k->r=true):=by
  intro v hv0
  by_cases c:IC k
  ·obtain⟨t,e⟩:=int_at hi c hv0
   subst e
   exact⟨true,rfl,fun _=>rfl⟩
  ·have hv:=hi.byValue v hv0
   cases v <;> first | exact⟨_,rfl,fun z=>absurd z c⟩ | (exact bq (show false=true from hv))
 refine iU _ (fun rest r s'=>r.1=none/\s'=s/\∀ v∈rest,∃ r,LW 7 v=pure r/\(IC k->r=true)) _ ?_ ?_ _ _ ⟨rfl,rfl,hb⟩
 ·rintro v rest r s' ⟨hr,rfl,qY⟩
  obtain⟨x,hv,hx1⟩:=qY v aE
  rw [hv]
  refine aa (ai ?_)
  cases x with
  | true =>
   rw [if_neg (by intro z; cases z)]
   exact ai ⟨rfl,rfl,fun u x9=>qY u (av _ x9)⟩
  | false =>
   rw [if_pos (show (!false)=true from rfl)]
   exact ai (ai (h _ hx1))
 ·rintro⟨r1,r2⟩ s' ⟨hr,rfl,_⟩
  simp only at hr
  subst hr
  exact ai (h _ fun _=>rfl)
theorem Mp{m n:Nat}(hm:Mk m)(h1:¬ n * 5>=m * 3)(h2:(n+1) * 5>=m * 3)(h3:n < 76):Mk (sizeAbove (grown (n+1)) - 1)/\n+1<=sizeAbove (grown (n+1)) - 1/\¬ (n+1) * 5>=(sizeAbove (grown (n+1)) - 1) * 3/\sizeAbove (grown (n+1))<=128:=by
 rcases hm with rfl | rfl | rfl
 ·have:n=4:=by lia
  subst this
  exact⟨.inr (.inl (by decide)),by decide,by decide,by decide⟩
 ·have:n=18:=by lia
  subst this
  exact⟨.inr (.inr (by decide)),by decide,by decide,by decide⟩
 ·lia
end
end K2.S
end
section
namespace K2.S
open PySem PySem.Spec PyProof.Rows L2 PySem.SetTable
section
variable {B:Addr->Prop} {prog:bP} {w:World} {A:dh} {E:Value->aq->Prop} {s:aq}
theorem MD{m i:Nat}(h:i < m+1):i+(runEnd m i - i)<=m:=by
 unfold runEnd; split <;> lia
theorem TV{m:Nat}{p:Probe}(h:p.j+p.more<=m):(kP m p).j+(kP m p).more<=m:=by
 unfold kP
 by_cases c:p.more > 0
 ·rw [if_pos c]; dsimp only; lia
 ·rw [if_neg c]; exact MD (jv _ (kg m))
theorem Mq{m:Nat}:∀ (n:Nat) {p:Probe},p.j+p.more<=m->(dR m n p).j+(dR m n p).more<=m
 | 0,_,h=>h
 | n+1,_,h=>Mq n (TV h)
theorem Jk{h:Heap}{a:Addr}{o:Obj}{es:En}{ep:Nat}{t:gO}(ho:h.get? a=some o)(hd:o.data=.set es ep t)(es':En)(t':gO) :
  (h.update a (si es' t')).get? a=some { o with data:=.set es' (ep+1) t' }:=by
 have:=eu (si es' t') ho (by rw [putSet_of es' t' hd]; rfl)
 rw [putSet_of es' t' hd] at this; exact this
theorem Ej{h:Heap}{a:Addr}{o:Obj}{es:En}{ep:Nat}{t:gO}(ho:h.get? a=some o)(hd:o.data=.set es ep t)(f:Obj->Obj):∀ b o',h.get? b=some o'->(∃ items n,o'.data=.seq items n)->(h.update a f).get? b=some o':=by
 rintro b o' e ⟨items,n,q⟩
 have nb:a≠b:=fun z=>by subst z; rw [ho] at e; cases e; rw [hd] at q; cases q
 exact(t9 _ _ nb).trans e
theorem CO(t:gO)(dm:t.dummies=#[]):t.tooFull=decide (t.place.size * 5>=t.mask * 3):=by
 unfold SetTable.tooFull FV; rw [dm]; rfl
theorem Rq{a:Addr}{led:Bool}{ks:List (List Key)}{k:List Key}{b:Addr}(hu:(TK prog w).room A)(hS:OD B prog w s.heap a led ks)(hx:(TK prog w).is s.heap k b)(hB:B b)(lY:ks.length < 76){Q:Bool->aq->Prop}
  (h:∀ h' LF r,(k∈ks->LF=ks)->(k∉ks->LF.Perm (k :: ks))->fK a s.heap h'->OD B prog w h' a led LF->Q r { s with heap:=h' }) :
  wpAny (model prog w) A (setAddHashed a (.ref b) ((TK prog w).hash k)) Q E s:=by
 obtain⟨o,es,ep,t,ho,hex,hd,O,nf,hl,Wv,M⟩:=hS
 have hsz:es.size < 76:=by rw [← M.1]; exact lY
 obtain⟨N,hN,h1,h2⟩:=zx O _ (Pb.start t ((TK prog w).hash k))
 have hN':N < 100000:=by
  have:t.mask<=127:=by rcases O.ms with e | e | e <;> lia
  unfold turns at hN; lia
 unfold setAddHashed setAddHashedIn
 refine dq (aa (qi ho hd O ?_))
 dsimp only
 rw [show byScan (.ref b) es=false from rfl,if_neg (by intro z; cases z)]
 unfold setSearch
 refine aa (AU hu ho hd O M hx h1 h2 (fun hk=>?_) (fun hk=>?_) 100000 0 none (by lia) (cD _) rfl (fun n' z=>absurd z (cu _)))
 ·dsimp only
  refine ai ?_
  have e:s={ s with heap:=s.heap }:=by cases s; rfl
  rw [e]
  exact h s.heap ks false (fun _=>rfl) (fun z=>absurd hk z) (vH a s.heap) ⟨o,es,ep,t,ho,hex,hd,O,nf,hl,Wv,M⟩
 ·dsimp only
  refine aa (qi ho hd O ?_)
  dsimp only
  rw [Ky t O.dm]
  dsimp only
  obtain⟨j,ej⟩:∃ j,(dR t.mask N (probeStart t ((TK prog w).hash k))).j=j:=⟨_,rfl⟩
  rw [ej]
  have hj:j<=t.mask:=by
   rw [← ej]
   exact cv (gx _ _) (Mq N (MD (jv _ (kg t.mask))))
  have nf':¬ t.place.size * 5>=t.mask * 3:=by rw [CO t O.dm] at nf; exact of_decide_eq_false nf
  have room:t.place.size+1<=t.mask:=by rcases O.ms with e | e | e <;> lia
  have Oz:below t.place j<=es.size:=by rw [← O.sz]; exact(ph O.up j).1
  have rest:∀ t':gO,t'.mask=t.mask->t'.dummies=t.dummies->t'.place=insertAt t.place (below t.place j) j->t'.led=t.led->((∀ x∈k :: ks,IC x)->t'.plain=true) ->
    wpAny (model prog w) A (do
     storeSet a (insertAt es (below t.place j) ((TK prog w).hash k,.ref b)) t'
     if (!false&&t'.tooFull)=true then do
      setRelay a (grown (es.size+1))
      pure true
     else pure true) Q E s:=by
   intro t' e1 e2 e3 e4 e5
   have O':QJ t' (insertAt es (below t.place j) ((TK prog w).hash k,.ref b)):=by
    have:=O.add (x:=.ref b) h1 h2 (by rw [ej]; exact hj) room e1 e2 (by rw [ej]; exact e3)
    rw [ej] at this; exact this
   have M':=M.ins hx hB Oz
   have RF:t'.place.size=es.size+1:=by rw [O'.sz,gP _ _ _ Oz]
   have pk:(ks.take (below t.place j)++k :: ks.drop (below t.place j)).Perm (k :: ks):=by
    refine List.perm_middle.trans ?_
    rw [fh]
   refine aa (wpAny_storeSet_of ho hd ?_ (by rw [gP _ _ _ Oz,cb]; lia))
   have g1:=Jk ho hd (insertAt es (below t.place j) ((TK prog w).hash k,.ref b)) t'
   have M1:=M'.keep (h':=s.heap.update a (si (insertAt es (below t.place j) ((TK prog w).hash k,.ref b)) t')) (fun c o _=>Ej ho hd _ c o)
   have sb1:=cq s.heap a (si (insertAt es (below t.place j) ((TK prog w).hash k,.ref b)) t')
   cases tf:t'.tooFull with
   | false =>
    rw [if_neg (by intro z; cases z)]
    exact ai (h _ _ true (fun z=>absurd z hk) (fun _=>pk) sb1 ⟨_,_,_,_,g1,hex,rfl,O',tf,e4.trans hl,fun z=>e5 fun x hx=>z x (pk.mem_iff.mpr hx),M1⟩)
   | true =>
    rw [if_pos (show (!false&&true)=true from rfl)]
    rw [CO t' O'.dm,RF,e1] at tf
    obtain⟨m1,m2,m3,m4⟩:=Mp O.ms (n:=es.size) (by rw [← O.sz]; exact nf') (of_decide_eq_true tf) hsz
    refine aa ?_
    unfold setRelay
    refine aa (qi (s:={ s with heap:=s.heap.update a (si (insertAt es (below t.place j) ((TK prog w).hash k,.ref b)) t') }) g1 rfl O' ?_)
    dsimp only
    rw [if_neg (by rw [cb]; lia)]
    obtain⟨t2,order,el,l1,l2,l3,l4,l5,O2⟩:=Qf m1 (insertAt es (below t.place j) ((TK prog w).hash k,.ref b)) (by rw [gP _ _ _ Oz]; exact m2) t'.finger (t'.movedTo (sizeAbove (grown (es.size+1)) - 1)) t'.led t'.plain
    have er:t'.relaid ((insertAt es (below t.place j) ((TK prog w).hash k,dv b)).map (·.1)) (grown (es.size+1))=some (t2,order):=el
    rw [er]
    refine aa (BJ (a:=(order.filterMap ((insertAt es (below t.place j) ((TK prog w).hash k,dv b))[·]?),t2)) ?_ ?_)
    ·show (if (_ != _)=true then _ else _)=_
     rw [if_neg (by rw [l4,bne_self_eq_false]; intro z; cases z)]
    obtain⟨UB,M2,pm⟩:=M1.perm l5
    refine wpAny_storeSet_of g1 rfl ?_ (by rw [l4,gP _ _ _ Oz,cb]; lia)
    have g2:=Jk g1 rfl (order.filterMap ((insertAt es (below t.place j) ((TK prog w).hash k,dv b))[·]?)) t2
    have M3:=M2.keep (h':=(s.heap.update a (si (insertAt es (below t.place j) ((TK prog w).hash k,.ref b)) t')).update a (si (order.filterMap ((insertAt es (below t.place j) ((TK prog w).hash k,dv b))[·]?)) t2)) (fun c o _=>Ej g1 rfl _ c o)
    refine ai (h _ UB true (fun z=>absurd z hk) (fun _=>pm.trans pk) (sb1.trans (cq _ a _)) ⟨_,_,_,_,g2,hex,rfl,O2,?_,by rw [l2,e4]; exact hl,fun z=>l3.trans (e5 fun x hx=>z x ((pm.trans pk).mem_iff.mpr hx)),M3⟩)
    rw [CO t2 O2.dm,O2.sz,l4,gP _ _ _ Oz,l1]
    exact decide_eq_false m3
  cases hp:t.plain with
  | true =>
   rw [if_pos (show true=true from rfl)]
   refine aa (Rp hx fun r hr=>?_)
   cases r with
   | true=>exact rest _ rfl rfl rfl rfl fun _=>rfl
   | false=>exact rest _ rfl rfl rfl rfl fun z=>hr (z k aE)
  | false =>
   rw [if_neg (by intro z; cases z)]
   exact aa (ai (rest _ rfl rfl rfl rfl fun z=>by have:=Wv fun x hx=>z x (av _ hx); rw [hp] at this; exact this))
end
end K2.S
end
section
namespace K2.S
open PySem PySem.Spec PyProof.Rows L2 PySem.SetTable
section
variable {B:Addr->Prop} {prog:bP} {w:World} {A:dh} {E:Value->aq->Prop} {s:aq}
noncomputable def Gj (w:World):Bool:=w.params.followText "set-order"
noncomputable def yB (w:World):Obj:={ cls:=.type "set",dict:=none,data:=.set #[] 0 (.fresh 0 0 (!Gj w)) }
theorem Px{h:Heap}{a:Addr}(e:h.get? a=some (yB w)):OD B prog w h a (!Gj w) []:=by
 refine⟨_,#[],0,.fresh 0 0 (!Gj w),e,⟨rfl,rfl,rfl⟩,rfl,⟨.inl rfl,rfl,rfl,fun a b _ z=>absurd z (cu _),fun k z=>absurd z (cu _),cD _,fun k z=>absurd z (cu _)⟩,rfl,rfl,(fun _=>rfl),rfl,fun i e he=>?_⟩
 cases he
theorem TX (x:Value) {Q:Value->aq->Prop} (h:Q (.ref s.heap.objs.size) { s with heap:=s.heap.push (yB w) }):vJ (model prog w) A (.call (.builtin "set.__new__") ⟨[.type "set",x],[]⟩) (wants Q E) s:=by
 refine codeAny_of_tree (show wpAny _ A.in1 (do checkBuiltinCall "set.__new__" ⟨[.type "set",x],[]⟩; again (.builtin "set.__new__" ⟨[.type "set",x],[]⟩)) _ _ s from ?_)
 refine aa (BJ (F.newCall_set_1 x) (ai ⟨DJ F.plain_set_new _,jA F.entry_set_new ?_⟩))
 rw [jo F.plain_set_new _]
 unfold Builtin.«set.__new__» Builtin.Frozenset.newClass
 have E6:=sub_set_self
 obtain⟨hp,g,d,tk,os⟩:=s
 dsimp only at h ⊢
 wp_walk
 refine J3 (ai ?_)
 dsimp only
 simp only [newObj]
 refine aa (wpAny_alloc (ai (ai h)))
variable {R:Result->aq->Prop} {I:Addr} {fp wr:List Addr} {G:Array GenState->Array GenState->Prop} {n:Nat} {P:Nat->Value->Prop} {St:Nat->aq->Prop}
noncomputable def NV(acc:List (List Key))(k:List Key):Bool:=acc.any fun x=>decide (x=k)
theorem vc{acc:List (List Key)}{k:List Key}:NV acc k=true↔k∈acc:=by
 unfold NV
 rw [List.any_eq_true]
 exact⟨fun ⟨x,hx,e⟩=>of_decide_eq_true e ▸ hx,fun h=>⟨k,h,decide_eq_true rfl⟩⟩
noncomputable def nH(acc:List (List Key))(k:List Key):List (List Key):=if NV acc k=true then acc else acc++[k]
noncomputable def ded(l:List (List Key)):List (List Key):=l.foldl nH []
theorem Kn(acc:List (List Key))(k:List Key):(nH acc k).length<=acc.length+1:=by
 unfold nH; split
 ·lia
 ·rw [au,cE]; exact aF _
theorem OD.keeps{h h':Heap}{a:Addr}{b:Bool}{ks:List (List Key)}(x:OD B prog w h a b ks)(k:∀ c o,(c=a\/B c)->h.get? c=some o->h'.get? c=some o):OD B prog w h' a b ks:=by
 obtain⟨o,es,ep,t,e,r1,r2,r3,r4,r5,r6,M⟩:=x
 exact⟨o,es,ep,t,k a o (.inl rfl) e,r1,r2,r3,r4,r5,r6,M.keep fun c o z e _=>k c o (.inr z) e⟩
theorem RG{b:Bool}(W:WalksS prog w A.in1 I fp wr G n P St)(S:Addr)(hSf:S∉fp)(T:Heap->Prop)(key:Nat->List Key)(lY:n<=76)(hu:(TK prog w).room A.in1)
  (hT:∀ h,T h->∀ i v,P i v->∃ c,v=.ref c/\(TK prog w).is h (key i) c/\B c) (hTk:∀ h h',T h->(∀ c o,c∉S :: wr->h.get? c=some o->h'.get? c=some o)->T h')
  (hW:∀ c,B c->c∉wr) :
  ∀ (k i:Nat) (s:aq) (acc ks:List (List Key)),n - i=k->i<=n->acc.length<=i->ks.Perm acc->St i s->T s.heap->OD B prog w s.heap S b ks ->
   (∀ s' LF,Moved (S :: wr) G s s'->LF.Perm (((List.range' i k).map key).foldl nH acc)->T s'.heap->OD B prog w s'.heap S b LF->R (.ok (.ret .none)) s') ->
   vJ (model prog w) A (.builtin "set.update.loop" ⟨[.ref S,.ref I],[]⟩) R s:=by
 have hSw:S∉wr:=fun h=>hSf (W.sub _ h)
 have E6:∀ c∈wr,c∈S :: wr:=fun c hc=>av _ hc
 intro k
 induction k with
 | zero =>
  intro i s acc ks hk hi ha hp xK ht hS hR
  have Qn:i=n:=by lia
  subst Qn
  refine jA Pf ?_
  rw [jo uj _]
  show wpAny _ A.in1 (p9 (.ref I) >>= _) _ _ s
  refine aa (W.done s _ _ xK fun s' hm=>(show wpAny _ A.in1 (ret dE) _ _ s' from ai (hR s' ks (hm.mono E6) hp (hTk _ _ ht fun c o hc e=>hm.heap c o (fun z=>hc (E6 c z)) e) (hS.keeps fun c o z e=>hm.heap c o (fun q=>?_) e))))
  rcases z with rfl | z
  ·exact hSw q
  ·exact hW c z q
 | succ k ih =>
  intro i s acc ks hk hi ha hp xK ht hS hR
  have nB:i < n:=by lia
  refine jA Pf ?_
  rw [jo uj _]
  show wpAny _ A.in1 (p9 (.ref I) >>= _) _ _ s
  refine aa (W.item i s _ _ nB xK fun v s' hP aaa hm=>?_)
  have UL:T s'.heap:=hTk _ _ ht fun c o hc e=>hm.heap c o (fun z=>hc (E6 c z)) e
  obtain⟨c,rfl,hx,hB⟩:=hT _ UL i v hP
  have Vc:OD B prog w s'.heap S b ks:=hS.keeps fun c o z e=>hm.heap c o (fun q=>by
   rcases z with rfl | z
   ·exact hSw q
   ·exact hW c z q) e
  show wpAny _ A.in1 (Gx [dv c] (setAdd S (.ref c)) >>= _) _ _ s'
  refine aa (dq ?_)
  unfold setAdd
  refine dq (aa ((TK prog w).pyHash hu hx ?_))
  refine Rq (s:={ s' with toks:=s'.toks+(TK prog w).draws (key i) }) hu Vc hx hB (by rw [hp.length_eq]; lia) fun h' LF r Qn Ql UN hS2=>?_
  have TQ:T h':=hTk _ _ UL fun c o hc e=>by rw [UN.2 c (fun z:c=S=>hc (by rw [z]; exact aE))]; exact e
  have Q5:LF.Perm (nH acc (key i)):=by
   unfold nH
   by_cases z:NV acc (key i)=true
   ·rw [if_pos z,Qn (hp.mem_iff.mpr (vc.mp z))]; exact hp
   ·rw [if_neg z]
    exact(Ql fun q=>z (vc.mpr (hp.mem_iff.mp q))).trans ((hp.cons _).trans (List.perm_append_singleton _ _).symm)
  refine ai ⟨DJ uj _,ih (i+1) _ (nH acc (key i)) LF (by lia) nB (cv (Kn _ _) (by lia)) Q5 (W.frame _ s' _ _ aaa (gx _ _) fun c hc o e=>?_) TQ hS2 fun s2 UB UW OW ht2 hS3=>?_⟩
  ·rw [UN.2 c (fun z:c=S=>hSf (by rw [← z]; exact hc))]; exact e
  ·refine hR s2 UB (Moved.trans W.gtrans ((hm.mono E6).then_heap (gx _ _) fun c o hc e=>?_) UW) OW ht2 hS3
   rw [UN.2 c (fun z:c=S=>hc (by rw [z]; exact aE))]; exact e
end
end K2.S
end
section
namespace K2.S
open PySem PySem.Spec PyProof.Rows L2 PySem.SetTable
section
variable {prog:bP} {w:World} {A:dh} {E:Value->aq->Prop} {s:aq}
set_option maxRecDepth 100000 in
theorem RH{l:Addr}{items:Array Value}{Q:Value->aq->Prop}(hh:A.handled=none)(hu:A.units+64 < cLine)(hl:s.heap.IsList l items)(key:Nat->List Key)(lY:items.size<=76)(Z7:∀ (i:Nat) (v:Value),items[i]?=some v->∃ c,v=.ref c/\(TK prog w).is s.heap (key i) c)
  (h:∀ (h':Heap) (tk:Nat) (ks:List (List Key)),OD (fun c=>c < s.heap.objs.size/\dv c∈items.toList) prog w h' s.heap.objs.size (!Gj w) ks->ks.Perm (ded ((cG items.size).map key))->(∀ c o,c < s.heap.objs.size->s.heap.get? c=some o->h'.get? c=some o)->Q (.ref s.heap.objs.size) { s with heap:=h',toks:=tk }) :
  wpAny (model prog w) A (call (.type "set") [.ref l]) Q E s:=by
 obtain⟨c,tl,agO⟩:=F.called_set.mro
 have adM:=F.called_set.made
 have E6:=F.called_set.sub
 refine Gu (codeAny_of_tree (show wpAny _ _ (callAny (.type "set") _) _ _ _ from ?_))
 refine ai ⟨Code.quiet_builtin _ (by decide +kernel),jA F.entry_type_call ?_⟩
 rw [Around.under_plain (weight_type_call_type "set" [.ref l] []) rfl]
 have h1:=F.called_set.notType
 have h2:=F.called_set.canCreate
 have hct:=F.typeCall_set_1 (.ref l)
 repeat (any_goals (first | assumption | wp_step))
 refine nF (TX (.ref l) (E:=E) (Q:=fun obj eO=>obj=.ref s.heap.objs.size/\eO={ s with heap:=s.heap.push (yB w) }) ⟨rfl,rfl⟩) fun r s1 hr=>?_
 cases r with
 | error e=>exact hr
 | ok fl =>
  cases fl with
  | ret obj =>
   obtain⟨rfl,rfl⟩:=hr
   have hS:(s.heap.push (yB w)).get? s.heap.objs.size=some (yB w):=bw _ rfl
   have hT:Shared.TypeIs { s with heap:=s.heap.push (yB w) } (.ref s.heap.objs.size) "set":=⟨_,hS,rfl⟩
   have hli:=F.called_set.init.lookup
   have WB:=F.called_set.init.bind (.ref s.heap.objs.size)
   repeat (any_goals (first | assumption | wp_step))
   refine nF (Aj (R:=wants (fun r qo=>r=.none/\∃ h' tk ks,qo={ s with heap:=h',toks:=tk }/\OD (fun c=>c < s.heap.objs.size/\dv c∈items.toList) prog w h' s.heap.objs.size (!Gj w) ks/\ks.Perm (ded ((cG items.size).map key)) /\
     (∀ c o,c < s.heap.objs.size->s.heap.get? c=some o->h'.get? c=some o)) E) F.called_set.init.plain F.entry_set_init (check_set_init_1 hT ?_)) fun Xu qo NH=>?_
   ·obtain⟨⟨afO,Uq,adh,R6⟩,hol,K4,nl,hdl⟩:=hl
    simp only at K4 hdl
    subst K4 hdl
    have aaf:(s.heap.push (yB w)).get? l=some { cls:=.type "list",dict:=Uq,data:=.seq items nl,slots:=R6 }:=aI _ hol
    have agD:=F.sub_list_set
    have agE:=F.sub_list_frozenset
    have my:(Value.type "list" == Value.type "dict")=false:=by decide
    have Q7:(s.heap.push (yB w)).IsList l items:=⟨_,aaf,rfl,nl,rfl⟩
    unfold yB at *
    unfold Builtin.«set.__init__» noKeywords Builtin.Frozenset.updateFrom
    generalize hPI:AM=PI
    wp_walk
    subst hPI
    refine Gs Q7 (aa (wpAny_runValue ?_))
    have hlS:l < s.heap.objs.size:=aK hol
    have hh3:A.in1.in1.in1.handled=none:=by simp [hh]
    have hsz:(s.heap.push (yB w)).objs.size=s.heap.objs.size+1:=Heap.size_push _ _
    unfold yB at hsz
    have hIn:∀ c,c < s.heap.objs.size->c∉[(s.heap.push { cls:=.type "set",dict:=none,data:=.set #[] 0 (.fresh 0 0 (!Gj w)) }).objs.size]:=fun c hc=>by
     rw [hsz]; simp only [kL]; lia
    refine RG (B:=(fun c=>c < s.heap.objs.size/\dv c∈items.toList)) (b:=!Gj w) ((Walks.list hh3 _ l (by rw [hsz]; exact bL (Nat.lt_succ_of_lt hlS)) items).toS) s.heap.objs.size (by rw [hsz]; simp only [kM,cQ,or_false,not_or]; exact⟨bL (Nat.lt_succ_self _),Nat.ne_of_gt hlS⟩)
     (fun h=>∀ c o,c < s.heap.objs.size->s.heap.get? c=some o->h.get? c=some o) key lY (by show A.in1.in1.in1.units < cLine; show A.units+1+1+1 < cLine; lia) (fun h ht i v hP=>?h1) (fun h h' ht k c o hc e=>k c o ?h2 (ht c o hc e)) (fun c hc=>hIn c hc.1) (items.size - 0) 0 _ [] [] (by lia) (cD _) (aF _) (List.Perm.refl _) ⟨⟨_,bw _ rfl,rfl,rfl⟩,Q7.push _⟩
     (fun c o hc e=>aI _ (aI _ e)) ?hS0 ?hR
    case h1 =>
     obtain⟨c,e1,e2⟩:=Z7 i v hP
     obtain⟨o,_,_,eo,_⟩:=id e2
     exact⟨c,e1,Jy e2 fun o e=>ht c o (aK e) e,aK eo,by rw [← e1]; exact Array.mem_toList_iff.mpr (Array.mem_of_getElem? hP)⟩
    case h2 =>
     intro z
     rcases List.mem_cons.mp z with z | z
     ·exact absurd z (bL hc)
     ·exact hIn c hc z
    case hS0=>exact Px (aI _ hS)
    case hR =>
     intro s' ks hm hq ht Vc
     obtain⟨h',g',d',TQ,Uj⟩:=s'
     cases (show g'=s.gens from hm.gens)
     cases (show d'=s.drawn from hm.drawn)
     cases (show Uj=s.os from hm.os)
     refine ai (show wpAny _ _ (ret dE) _ _ _ from ai ⟨rfl,h',TQ,ks,rfl,Vc,?_,ht⟩)
     rw [Nat.sub_zero,← List.range_eq_range'] at hq; exact hq
   ·cases Xu with
    | error e=>exact NH
    | ok Vh =>
     cases Vh with
     | ret r =>
      obtain⟨rfl,h',tk,ks,rfl,Vc,hq,OZ⟩:=NH
      repeat (any_goals (first | assumption | wp_step))
      exact h _ _ ks Vc hq OZ
     | _=>exact NH.elim
  | _=>exact hr.elim
end
end K2.S
end
section
namespace K2
open PySem PySem.Spec PyProof.Rows L2 PySem.W
section
variable {X:Cx} {a:Expr} {ta:Ah} {pos p Ci p2:Pos}
theorem QC:fy "set" = some (.type "set"):=by first | rfl | decide +kernel
noncomputable def tk(k:List Key):D:=.tup (k.map dP)
end
end K2
end
section
namespace K2
open PySem PySem.Spec PyProof.Rows L2
section
variable {X:Cx} {elts:List Expr} {kk:Nat} {Mm apos iQ:Pos} {o:Expr} {to:fW}
theorem kR.item{K:ag}{H:Hp}{kv:List (List Key×V)}{bp:List (D×D)}(h:kR K H kv bp):∀ {i:Nat} {q:D×D},bp[i]?=some q->∃ p,kv[i]?=some p/\q.1=.tup (p.1.map dP)/\cL K H p.2 q.2:=by
 induction h using kR.ind with
 | nil=>intro i q e; simp at e
 | @cons k v d r t rd rs ih =>
  intro i q e
  cases i with
  | zero=>simp at e; subst e; exact⟨_,rfl,rfl,rd⟩
  | succ i =>
   obtain⟨p,h1,h2⟩:=ih (i:=i) (q:=q) (by simpa using e)
   exact⟨p,by simpa using h1,h2⟩
theorem kR.len{K:ag}{H:Hp}{kv:List (List Key×V)}{bp:List (D×D)}(h:kR K H kv bp):kv.length=bp.length:=by
 have:=congrArg dg h.keys
 simpa using this.symm
end
end K2
end
section
namespace K2.S
open PySem PySem.Spec PyProof.Rows L2 PySem.SetTable
namespace F5
theorem slot_next:Slot "set_iterator" "__next__" "set_iterator.__next__" :=
 .of (owner:="set_iterator") (n:="__next__") (by rw [typeLookup_type,builtinLookup_eq_fast]; kernel_rfl) (by decide +kernel) (by decide +kernel) (by decide +kernel) (by first | exact .inl (by decide +kernel) | exact .inr (by decide +kernel)) (by rw [O7]; kernel_rfl)
theorem entry_next:entryFor table "set_iterator.__next__" = some Builtin.«set_iterator.__next__»:=entryFor_of_tree (by kernel_rfl)
theorem A3:Slot "set_iterator" "__iter__" "set_iterator.__iter__" :=
 .of (owner:="set_iterator") (n:="__iter__") (by rw [typeLookup_type,builtinLookup_eq_fast]; kernel_rfl) (by decide +kernel) (by decide +kernel) (by decide +kernel) (by first | exact .inl (by decide +kernel) | exact .inr (by decide +kernel)) (by rw [O7]; kernel_rfl)
theorem Ii:entryFor table "set_iterator.__iter__" = some Builtin.«dict_keyiterator.__iter__»:=O9 (id':="dict_keyiterator.__iter__") (by kernel_rfl) rfl (by decide +kernel) (by kernel_rfl)
theorem Fp:entryFor table "set.__iter__" = some Builtin.«frozenset.__iter__»:=O9 (id':="frozenset.__iter__") (by kernel_rfl) rfl (by decide +kernel) (by kernel_rfl)
theorem own:Manifest.owners.lookup (String.ofList ['r','o','t','a','r','e','t','i','_','t','e','s'].reverse)=some Manifest.sig_set_iterator:=by kernel_rfl
theorem args_next (a:Value):argsOk "set_iterator.__next__" ⟨[a],[]⟩:=by
 unfold argsOk; rw [signature?_of (id:="set_iterator.__next__") (n:=['_','_','t','x','e','n','_','_']) (o:=['r','o','t','a','r','e','t','i','_','t','e','s']) (by kernel_rfl) own]; kernel_rfl
theorem Lh (a:Value):argsOk "set_iterator.__iter__" ⟨[a],[]⟩:=by
 unfold argsOk; rw [signature?_of (id:="set_iterator.__iter__") (n:=['_','_','r','e','t','i','_','_']) (o:=['r','o','t','a','r','e','t','i','_','t','e','s']) (by kernel_rfl) own]; kernel_rfl
end F5
noncomputable def GX(pl:Array Nat)(i:Nat):Nat:=if i=0 then 0 else pl.getD (i - 1) 0+1
theorem OA{xs:Array Nat}(up:Up xs){i:Nat}(h:i<=xs.size):below xs (GX xs i)=i:=by
 obtain⟨h1,h2,h3⟩:=ph up (GX xs i)
 unfold GX at h1 h2 h3 ⊢
 by_cases c:i=0
 ·rw [if_pos c] at h1 h2 h3 ⊢
  apply cA
  intro z
  have:=h2 0 (by lia)
  lia
 ·rw [if_neg c] at h1 h2 h3 ⊢
  apply cA
  intro z
  by_cases q:below xs (xs.getD (i - 1) 0+1) < i
  ·have:=h3 (i - 1) (by lia) (by lia); lia
  ·have a1:=h2 i (by lia)
   have a2:=up (i - 1) i (by lia) (by lia)
   lia
section
variable {prog:bP} {w:World} {A:dh} {E:Value->aq->Prop} {s:aq}
noncomputable abbrev tb(w:World)(mk:Nat)(pl dm:Array Nat)(fg mv:Nat):gO:={ mask:=mk,place:=pl,dummies:=dm,finger:=fg,led:=!Gj w,moves:=mv,plain:=true }
structure Wk(w:World)(o:Obj)(es:En)(ep:Nat)(mk:Nat)(pl dm:Array Nat)(fg mv:Nat):Prop where
 ex:o.ExactSet
 dd:o.data=.set es ep (tb w mk pl dm fg mv)
 fit:(tb w mk pl dm fg mv).fits es.size=true
 sz:pl.size=es.size
 up:Up pl
noncomputable def ord(w:World)(a:Addr)(ep:Nat)(es:En):En:=if Gj w=true then pickOrder (w.params.setOrder a ep) es else es
noncomputable def slt(w:World)(pl:Array Nat)(i:Nat):Nat:=if Gj w=true then 0 else GX pl i
noncomputable abbrev Xt (a:Addr) (sl i n ep:Nat):Obj:={ cls:=.type "set_iterator",data:=.fields #[.int sl 0,.int i 0,.ref a,.int n 0,.int ep 0] }
noncomputable def TC (h:Heap) (it a:Addr) (sl i n ep:Nat):Prop:=∃ o,h.get? it=some o/\o.cls=.type "set_iterator"/\o.data=.fields #[.int sl 0,.int i 0,.ref a,.int n 0,.int ep 0]
theorem TC.ty {it a:Addr} {sl i n ep:Nat} (x:TC s.heap it a sl i n ep):s.TypeIs (.ref it) "set_iterator":=by
 obtain⟨o,h,c,_⟩:=x
 exact⟨o,h,c⟩
theorem C7{Q:Bool->aq->Prop}(h:Q (Gj w) s):wpAny (model prog w) A setsByText Q E s:=by
 unfold setsByText
 exact aa (J3 (ai h))
variable {es:En} {mk fg mv:Nat} {pl dm:Array Nat} {a it:Addr} {o:Obj} {ep:Nat}
theorem Mt{Q:Value->aq->Prop}(ho:s.heap.get? a=some o)(W:Wk w o es ep mk pl dm fg mv)
  (hQ:Q (.ref s.heap.objs.size) { s with heap:=s.heap.push (Xt a 0 0 es.size ep) }):wpAny (model prog w) A (AM (.ref a)) Q E s:=by
 have ty:s.TypeIs (.ref a) "set":=⟨o,ho,W.ex.1⟩
 refine jP ty J4 (cT J4 ty F5.Fp ?_ (PySem.F.args_set_iter_1 _))
 unfold Builtin.«frozenset.__iter__» Builtin.Frozenset.slot0 slotArgs
 simp only [DA,bO,aB,↓reduceIte,bind_assoc,ay,bne_self_eq_false]
 unfold Builtin.Frozenset.addrOf Builtin.Frozenset.sizeOf
 refine aa (ai ?_)
 try dsimp only
 refine aa (ai (aa (aa (BI ho W.dd W.fit (ai ?_)))))
 refine aa ?_
 unfold setDrawn
 refine aa (mZ ho W.dd W.fit ?_)
 dsimp only
 refine aa (C7 (ai ?_))
 split
 ·rename_i z
  exact absurd z (by cases Gj w <;> exact eF)
 ·refine aa (ai ?_)
  unfold setEpoch
  refine aa (aa (mZ ho W.dd W.fit (ai ?_)))
  unfold newFields
  refine aa (cO (ai ⟨_,rfl,"set_iterator",_,⟨_,bw _ rfl,rfl⟩,F5.slot_next.lookup,?_⟩) (by size_fits))
  exact hQ
theorem Pt(hb:Gj w=true)(ho:s.heap.get? a=some o)(W:Wk w o es ep mk pl dm fg mv):wpAny (model prog w) A (setWalk a) (fun r s'=>r=pickOrder (w.params.setOrder a ep) es/\s'=s) (fun _ _=>False) s:=by
 unfold setWalk
 refine aa (mZ ho W.dd W.fit ?_)
 dsimp only
 refine aa (C7 ?_)
 rw [hb,if_pos rfl]
 exact aa (J3 (ai ⟨rfl,rfl⟩))
theorem IU{i:Nat}(hi:i<=es.size)(ho:s.heap.get? a=some o)(W:Wk w o es ep mk pl dm fg mv):wpAny (model prog w) A (setNext a (slt w pl i) i ep) (fun r s'=>r=((ord w a ep es)[i]?).map (fun e=>(e.2,slt w pl (i+1)))/\s'=s) (fun _ _=>False) s:=by
 unfold setNext
 refine aa (mZ ho W.dd W.fit ?_)
 dsimp only
 refine aa (C7 ?_)
 cases hb:Gj w with
 | true =>
  rw [if_pos rfl,if_neg (by simp)]
  refine aa (fH (Pt hb ho W) (fun r s' z=>?_) fun _ _ z=>z)
  obtain⟨rfl,rfl⟩:=z
  refine ai ⟨?_,rfl⟩
  unfold ord slt
  rw [hb]; rfl
 | false =>
  rw [if_neg (by simp)]
  have sl:slt w pl i=GX pl i:=by unfold slt; rw [hb]; rfl
  have Xs:slt w pl (i+1)=pl.getD i 0+1:=by unfold slt; rw [hb]; rfl
  have bl:Du pl (GX pl i)=i:=OA W.up (by rw [W.sz]; exact hi)
  split
  ·rename_i z
   exact absurd z eF
  ·refine aa (show wpAny (model prog w) A (if (!(!Gj w)&&!es.isEmpty)=true then LR "set:maker-not-led" else pure ()) _ _ s from ?_)
   rw [if_neg (by rw [hb]; simp)]
   refine ai (ai ⟨?_,rfl⟩)
   show (match es[Du pl (slt w pl i)]?,pl[Du pl (slt w pl i)]? with
    | some (_,x),some j=>some (x,j+1)
    | _,_=>none)=_
   rw [sl,bl,Xs]
   unfold ord
   rw [hb,if_neg (by simp)]
   by_cases c:i < es.size
   ·have hp:i < pl.size:=by rw [W.sz]; exact c
    rw [aX c,aX hp]
    simp [qg,hp]
   ·rw [fV (by lia)]; rfl
theorem Pu{i:Nat}{Q:Option Value->aq->Prop}(ki:TC s.heap it a (slt w pl i) i es.size ep)(ho:s.heap.get? a=some o)(W:Wk w o es ep mk pl dm fg mv)(hi:i<=es.size){e:Int×Value}(he:(ord w a ep es)[i]?=some e)
  (hQ:∀ h',TC h' it a (slt w pl (i+1)) (i+1) es.size ep->fK it s.heap h'->Q (some e.2) { s with heap:=h' }):wpAny (model prog w) A (p9 (.ref it)) Q E s:=by
 obtain⟨oi,Tt,hci,Qo⟩:=id ki
 unfold p9
 refine aa (jQ (eK (name:=mB "__next__") ki.ty F5.slot_next (cT F5.slot_next ki.ty F5.entry_next ?_ (F5.args_next _))))
 unfold Builtin.«set_iterator.__next__» slotArgs
 refine aa (ai ?_)
 refine aa (i8 Tt Qo ?_)
 show wpAny _ _ (setEntries a >>= _) _ _ s
 refine aa (BI ho W.dd W.fit ?_)
 rw [if_neg (by simp)]
 show wpAny _ _ (setNext a (An (slt w pl i:Int)) (An (i:Int)) (An (ep:Int)) >>= _) _ _ s
 rw [bH,bH,bH]
 refine aa (fH (IU hi ho W) (fun r s' z=>?_) fun _ _ z=>z.elim)
 obtain⟨rfl,rfl⟩:=z
 rw [he]
 show wpAny _ _ (Ls (.ref it) 0 (pz (slt w pl (i+1):Int)) >>= _) _ _ _
 refine aa (ko Tt Qo (by simp) ?_)
 have g1:=eu (kU (·.setIfInBounds 0 (pz (slt w pl (i+1):Int)))) Tt (mD (dW Qo _))
 refine aa (ko g1 (dW Qo _) (by simp) ?_)
 have g2:=eu (kU (·.setIfInBounds 1 (pz ((i:Int)+1)))) g1 (mD (dW (dW Qo _) _))
 refine ai ⟨_,rfl,ai (hQ _ ⟨_,g2,?_,?_⟩ ((cq ..).trans (cq ..)))⟩
 ·rw [sk,sk]; exact hci
 ·rw [dW (dW Qo _)]; simp [pz]
theorem RK{Q:Option Value->aq->Prop}(calm:A.handled=none)(ki:TC s.heap it a (slt w pl es.size) es.size es.size ep)(ho:s.heap.get? a=some o)(W:Wk w o es ep mk pl dm fg mv)(hl:(ord w a ep es).size=es.size)
  (hQ:∀ h',Heap.ExtBut it s.heap h'->Q none { s with heap:=h' }):wpAny (model prog w) A (p9 (.ref it)) Q E s:=by
 obtain⟨oi,Tt,hci,Qo⟩:=id ki
 unfold p9
 refine aa (jQ (eK (name:=mB "__next__") ki.ty F5.slot_next (cT F5.slot_next ki.ty F5.entry_next ?_ (F5.args_next _))))
 unfold Builtin.«set_iterator.__next__» slotArgs
 refine aa (ai (aa (i8 Tt Qo ?_)))
 show wpAny _ _ (setEntries a >>= _) _ _ s
 refine aa (BI ho W.dd W.fit ?_)
 rw [if_neg (by simp)]
 show wpAny _ _ (setNext a (An (slt w pl es.size:Int)) (An (es.size:Int)) (An (ep:Int)) >>= _) _ _ s
 rw [bH,bH,bH]
 refine aa (fH (IU (aF _) ho W) (fun r s' z=>?_) fun _ _ z=>z.elim)
 obtain⟨rfl,rfl⟩:=z
 rw [fV (by lia)]
 show wpAny _ _ (Ls (.ref it) 2 .none >>= _) _ _ _
 refine aa (ko Tt Qo (by simp) ?_)
 show wpAny _ _ (newExc (.type "StopIteration") [] >>= _) _ _ _
 refine aa ?_
 simp only [newExc,newTuple]
 refine aa (cO (aa (m:=nv _ _) (BJ (a:=dE) (by first | rfl | (simp only [nv]; rfl)) (cO ?_ (by size_fits)))) (by size_fits))
 unfold raiseNew
 refine aa (wpAny_handled ?_)
 rw [show A.in1.handled=none from calm]
 refine aa (ai (wpAny_throw ?_))
 refine aa (oj (T:="StopIteration") (b:=true) ⟨_,bw _ rfl,rfl⟩ O8 (?_))
 exact ai (hQ _ (((cq ..).extBut.push _).push _))
theorem NY{α:Type}:∀ (l:List α) (i:Nat) (h:i < l.length),(l[i] :: l.eraseIdx i).Perm l
 | x :: r,0,_=>.refl _
 | x :: r,i+1,h=>by
  rw [L6,List.eraseIdx_cons_succ]
  exact(List.Perm.swap _ _ _).trans (.cons _ (NY r i (by simpa using h)))
theorem A8{α:Type}(next:Nat->Nat):∀ (f k:Nat) (l:List α) (out:Array α),l.length<=f->(pickOrder.go next f k l out).toList.Perm (out.toList++l)
 | 0,k,l,out,h=>by
  have:l=[]:=List.length_eq_zero_iff.mp (by lia)
  subst this
  rw [bS]; exact .refl _
 | f+1,k,l,out,h=>by
  unfold pickOrder.go
  cases l with
  | nil=>simp
  | cons x r =>
   have hi:next k % (x :: r).length < (x :: r).length:=jv _ (by simp)
   rw [ah hi]
   dsimp only
   refine(A8 next f (k+1) _ _ (by rw [List.length_eraseIdx_of_lt hi]; simp at h ⊢; lia)).trans ?_
   rw [Array.toList_push,cH]
   exact .append_left _ (NY _ _ hi)
theorem Et(w:World)(a:Addr)(ep:Nat)(es:En):(ord w a ep es).toList.Perm es.toList:=by
 unfold ord
 split
 ·unfold pickOrder
  have:=A8 (w.params.setOrder a ep) es.size 0 es.toList #[] (by simp)
  simpa using this
 ·exact .refl _
theorem nP(w:World)(a:Addr)(ep:Nat)(es:En):(ord w a ep es).size=es.size:=by have:=(Et w a ep es).length_eq; simpa using this
theorem Ms(hh:A.handled=none)(my:a≠it)(W:Wk w o es ep mk pl dm fg mv) :
  PySem.Walks prog w A it [it,a] [it] es.size (fun i v=>∃ e,(ord w a ep es)[i]?=some e/\v=e.2) (fun i h=>TC h it a (slt w pl i) i es.size ep/\h.get? a=some o) where
 sub:=fun c hc=>by simp at hc; simp [hc]
 frame:=fun i h h' st hk=>⟨let ⟨o,e,r⟩:=st.1; ⟨o,hk it (by simp) o e,r⟩,hk a (by simp) o st.2⟩
 item:=fun i s Q E hi st hQ=>by
  have Af:i < (ord w a ep es).size:=by rw [nP]; exact hi
  have he:(ord w a ep es)[i]?=some (ord w a ep es)[i]:=aX Af
  exact Pu st.1 st.2 W (Dx hi) he fun h' DE sb=>hQ _ h' s.toks ⟨_,he,rfl⟩ ⟨DE,(sb.2 a my).trans st.2⟩ fun c o hc e=>(sb.2 c (by simpa using hc)).trans e
 done:=fun s Q E st hQ=>RK hh st.1 st.2 W (nP ..) fun h' eb=>hQ h' s.toks fun c o hc e=>eb c o (by simpa using hc) e
 self:=fun i s Q E st hQ=>by
  refine jP st.1.ty F5.A3 (cT F5.A3 st.1.ty F5.Ii ?_ (F5.Lh _))
  show wpAny _ _ (ret (.ref it)) _ _ s
  exact ai ⟨_,rfl,"set_iterator",_,st.1.ty,F5.slot_next.lookup,hQ⟩
theorem Pw {r:Addr} {Q:Bool->aq->Prop} (hT:s.TypeIs (.ref r) "set") (h:Q false s):wpAny (model prog w) A (xV (.ref r)) Q E s:=by
 unfold xV
 refine aa (yf hT PySem.F.slot_set_len.lookup ?_)
 generalize LG:("set.__len__" : String)=id0
 wp_delta
 rw [show splitId id0=some ("set","__len__") from by subst LG; decide +kernel]
 subst LG
 refine aa (oj (T:="set") (b:=true) hT (by rw [O7]; kernel_rfl) (wpAny_ite_split (fun Va=>absurd Va (by decide)) fun _=>?_))
 exact wpAny_ite_split (fun _=>aa (IF hT (ai h))) fun Va=>absurd (by decide +kernel) Va
theorem RJ(W:Wk w o es ep mk pl dm fg mv) :
  vC prog w "set" a a es.size (fun i v=>∃ e,(ord w a ep es)[i]?=some e/\v=e.2) (fun h=>h.get? a=some o) where
 type:=fun s cM=>⟨o,cM,W.ex.1⟩
 there:=fun h cM=>⟨aK cM,aK cM⟩
 keep:=fun h h' cM hk=>hk a (.inl rfl) o cM
 notList:=by decide
 notTuple:=by decide
 hint:=fun A E s Q cM hq=>Pw ⟨o,cM,W.ex.1⟩ hq
 iter:=fun A s hh cM=>⟨_,_,(fun E Q hq=>Mt cM W hq),Ms hh (bL (aK cM)) W,⟨⟨_,bw _ rfl,rfl,by unfold slt GX; simp⟩,aI _ cM⟩⟩
end
end K2.S
end
section
namespace K2
open PySem PySem.Spec PyProof.Rows L2 PySem.W
section
variable {X:Cx} {a:Expr} {ta:Ah} {pos p Ci p2:Pos}
noncomputable def B1(t:T2):List Key:=[.inl t.a,.inl t.b]
theorem B0{x y:T2}(h:B1 x=B1 y):x=y:=by
 cases x; cases y
 unfold B1 at h
 injection h with h1 h2
 injection h2 with h2 _
 cases h1; cases h2; rfl
theorem Sh(l:List T2):l.map (Enc.enc:T2->D)=(l.map B1).map tk:=by rw [cc]; rfl
theorem Of:∀ (l acc:List (List Key)),acc.Nodup->(l.foldl S.nH acc).Nodup/\∀ k,k∈l.foldl S.nH acc↔k∈acc\/k∈l
 | [],acc,h=>⟨h,fun k=>⟨.inl,fun z=>z.elim id fun q=>by cases q⟩⟩
 | x :: l,acc,h=>by
  rw [dJ]
  have hs:(S.nH acc x).Nodup/\∀ k,k∈S.nH acc x↔k∈acc\/k=x:=by
   unfold S.nH
   by_cases c:S.NV acc x=true
   ·rw [if_pos c]
    exact⟨h,fun k=>⟨.inl,fun z=>z.elim id fun e=>e ▸ S.vc.mp c⟩⟩
   ·rw [if_neg c]
    refine⟨?_,fun k=>by rw [Gd,kL]⟩
    rw [cw]
    refine⟨h,by simp,fun u hu v hv e=>?_⟩
    rw [List.mem_singleton.mp hv] at e
    subst e
    exact c (S.vc.mpr hu)
  obtain⟨h1,h2⟩:=Of l _ hs.1
  refine⟨h1,fun k=>(h2 k).trans ?_⟩
  rw [hs.2,kM,or_assoc]
theorem QY:∀ (ks:List (List Key)),(∀ k∈ks,∃ t,k=B1 t)->∃ m:List T2,ks=m.map B1
 | [],_=>⟨[],rfl⟩
 | k :: ks,h=>by
  obtain⟨t,rfl⟩:=h k aE
  obtain⟨m,rfl⟩:=QY ks fun x hx=>h x (av _ hx)
  exact⟨t :: m,rfl⟩
theorem Cb{K:ag}{H:Hp}:∀ (vs:List V) (zs:List D),vs.length=zs.length->(∀ (i:Nat) (v:V) (z:D),vs[i]?=some v->zs[i]?=some z->cL K H v z)->bb K H vs zs
 | [],[],_,_=>.nil
 | [],_ :: _,h,_=>by cases h
 | _ :: _,[],h,_=>by cases h
 | v :: vs,z :: zs,h,hr=>.cons (hr 0 v z rfl rfl) (Cb vs zs (by simpa using h) fun i u y h1 h2=>hr (i+1) u y h1 h2)
noncomputable def vOf(v:Value):V:=match v with
 | .ref b=>.ref b
 | _=>.cY
theorem qE (hc:X.calm=true) (hu:X.A.units+64 < cLine) (hg:Gl X "sorted") (hm:X.mg "sorted" = none) (hg2:Gl X "set") (UW:X.mg "set" = none) (ha:DH X [a] ta) (hs:autoParam (bK [a] X.env=(false,eval a X.env) :: bK [] X.env) Ar._auto_1)
  (CK:autoParam (bK [.Call (.Name "set" p2) [a] [] Ci] X.env=(false,eval (.Call (.Name "set" p2) [a] [] Ci) X.env) :: bK [] X.env) Ar._auto_1) (Bm:autoParam ((iV pos (bK [] X.env)).any (·.1)=false) Ar._auto_1) (aac:autoParam ((iV Ci (bK [] X.env)).any (·.1)=false) Ar._auto_1) :
  gE X (.Call (.Name "sorted" p) [.Call (.Name "set" p2) [a] [] Ci] [] pos) (sE sf ta):=by
 intro E pins s σ H τ G Q hE I h
 refine eM (oZ I.inv hg hm BC (kd ?_ CK Bm))
 rw [CK]
 show wpAny _ _ (LS ((false,eval (.Call (.Name "set" p2) [a] [] Ci) X.env) :: iV pos (bK [] X.env))) _ _ s
 refine kq (eM (oZ I.inv hg2 UW QC (d6 (xx ha Ci hE I h fun vs H1 ds G1 us s1 I1 m1 r1 jS q1=>?_) hs aac)))
 unfold sf at q1
 split at q1
 ·rename_i x
  obtain⟨tl,hlo,⟨NK,hlen⟩,q⟩:=q1
  obtain⟨w1,rfl,Ku⟩:=jS.one
  obtain⟨u,rfl,ru⟩:=r1.one
  obtain⟨l,vs,bB,rfl,rv,rs,hL,hz⟩:=mw I1.inv I1.ab ru Ku hlo
  rw [Sh] at rs
  have kll:(tl.map B1).length=tl.length:=aj _
  have klt:∀ k∈tl.map B1,∃ t∈tl,k=B1 t:=fun k hk=>by obtain⟨t,ht,e⟩:=List.mem_map.mp hk; exact⟨t,ht,e.symm⟩
  have Nm:∀ t,B1 t∈tl.map B1↔t∈tl:=fun t=>⟨fun h=>by obtain⟨t',h1,e⟩:=List.mem_map.mp h; rw [← B0 e]; exact h1,cV⟩
  generalize tl.map B1=kl at rs kll klt Nm
  have li:bB.length=kl.length:=by rw [← rv.length,rs.length,aj]
  have at_:∀ (i:Nat) (v:Value),bB.toArray[i]?=some v->∃ c,v=.ref c/\(S.TK X.prog X.w).is s1.heap (kl.getD i []) c:=fun i v hv=>by
   have hv:bB[i]?=some v:=by rw [OL] at hv; exact hv
   have hi:i < kl.length:=by have:=(List.getElem?_eq_some_iff.mp hv).1; lia
   have hd:(kl.map tk)[i]?=some (tk (kl.getD i [])):=by rw [bu,aL,ah hi]; rfl
   obtain⟨vv,h1,h2⟩:=rs.get hd
   obtain⟨uu,h3,h4⟩:=rv.get h1
   rw [hv] at h3
   cases h3
   obtain⟨c,rfl,hb⟩:=uE h2
   cases h4
   exact⟨c,rfl,tK I1.inv.cM hb⟩
  refine S.RH (I1.inv.ok.hd hc) hu hL (fun i=>kl.getD i []) (by rw [aP,li]; lia) at_ fun h' TQ ks S' hp kp=>?_
  rw [(show iV pos (bK [] X.env)=[] from rfl)]
  refine ai ?_
  obtain⟨o,es,ep,t,ho,hex,hd,O,tf,hld,Wv,M⟩:=S'
  have hp:ks.Perm (kl.foldl S.nH []):=by
   rw [aP,li,lU] at hp; exact hp
  obtain⟨dn,dm⟩:=Of kl [] du
  have Ss:∀ k,k∈ks↔k∈kl:=fun k=>(hp.mem_iff.trans (dm k)).trans ⟨fun z=>z.elim (fun q=>by cases q) id,.inr⟩
  have pn:t.plain=true:=Wv fun k hk=>by
   obtain⟨y,_,rfl⟩:=klt k ((Ss k).mp hk)
   intro x hx
   rcases List.mem_cons.mp hx with e | hx
   ·exact⟨_,e⟩
   ·exact⟨_,List.mem_singleton.mp hx⟩
  have U4:t.fits es.size=true:=by unfold SetTable.fits FV; rw [O.sz,O.dm]; have:=O.lY; have:=O.sz; simp; lia
  obtain⟨mk,pl,dmm,fg,ld,mv,pln⟩:=t
  have e1:ld=!S.Gj X.w:=hld
  have e2:pln=true:=pn
  subst e1 e2
  have W:S.Wk X.w o es ep mk pl dmm fg mv:=⟨hex,hd,U4,O.sz,O.up⟩
  obtain⟨UB,M2,X3⟩:=M.perm (es':=S.ord X.w s1.heap.objs.size ep es) (S.Et ..)
  obtain⟨m,rfl⟩:=QY UB fun k hk=>by
   obtain⟨y,_,e⟩:=klt k ((Ss k).mp (X3.mem_iff.mp hk))
   exact⟨y,e⟩
  have nd2:(m.map B1).Nodup:=X3.nodup_iff.mpr (hp.nodup_iff.mpr dn)
  have nd:m.Nodup:=by
   rw [jw,gT] at nd2
   exact List.nodup_iff_pairwise_ne.mpr (nd2.imp fun {x y} h e=>h (by rw [e]))
  have mm:∀ y,y∈m↔y∈tl:=fun y=>by
   rw [← Nm y,← Ss,← X3.mem_iff]
   exact⟨cV,fun h=>by obtain⟨z,hz,e⟩:=List.mem_map.mp h; rw [← B0 e]; exact hz⟩
  have kp':∀ b u,s1.heap.get? b=some u->h'.get? b=some u:=fun b u e=>kp b u (aK e) e
  have I3:=I1.inv.kept (t':=TQ) kp'
  have I4:=I1.mv I3 (.refl I1.ab)
  have ml:m.length=es.size:=by have:=M2.1; rw [aj,S.nP] at this; exact this
  have at2:∀ (i:Nat) (e:Int×Value) (y:T2),(S.ord X.w s1.heap.objs.size ep es)[i]?=some e->m[i]?=some y->∃ b,e.2=.ref b/\cL X.K H1 (.ref b) (Enc.enc y):=fun i e y he hy=>by
   obtain⟨k,b,q1,q2,q3,_,_,q5⟩:=M2.2 i e he
   have ek:k=B1 y:=by
    rw [bu,hy] at q1
    exact(df q1).symm
   subst ek
   refine⟨b,q2,?_⟩
   obtain⟨j,hj,ej⟩:=dI q5
   have hj:j < bB.length:=hj
   have hj1:bB[j]?=some (.ref b):=by rw [ah hj]; exact congrArg some ej
   have Wz:j < kl.length:=by lia
   have hdj:(kl.map tk)[j]?=some (tk (kl.getD j [])):=by rw [bu,aL,ah Wz]; rfl
   obtain⟨vv,h1,h2⟩:=rs.get hdj
   obtain⟨uu,h3,h4⟩:=rv.get h1
   rw [hj1] at h3
   cases h3
   obtain⟨c,rfl,hb⟩:=uE h2
   cases h4
   have i1:=S.Jy (tK I1.inv.cM hb) fun o e=>kp' _ o e
   rw [S.HL i1 q3] at h2
   exact h2
  refine fH (G5 hc hu I4.inv I4.ab (S.RJ W) ho (vs:=(S.ord X.w s1.heap.objs.size ep es).toList.map fun e=>vOf e.2) (zs:=m.map Enc.enc) (by rw [aj,br,S.nP]) (fun i u hi hP=>?_) (Cb _ _ ?_ fun i v z hv Ts=>?_) (bY.wZ T2) (fun z Ts=>?_) (by decide) ?_ ?_) (fun r s' ⟨v,H2,d,G2,I2,m2,r2,Au,q2⟩=>⟨v,H2,d,G2,I2,m1.trans m2,r2,Au,q2⟩) fun _ _ z=>z
  ·obtain⟨e,he,rfl⟩:=hP
   have Tv:i < m.length:=by rw [aj,br,S.nP] at hi; lia
   obtain⟨b,e1,_⟩:=at2 i e m[i] he (ah Tv)
   have:(S.ord X.w s1.heap.objs.size ep es).toList[i]'(by rw [aj] at hi; exact hi)=e:=by
    rw [← ck] at he
    exact(List.getElem?_eq_some_iff.mp he).2
   rw [gq,this,e1]
   rfl
  ·rw [aj,aj,br,S.nP,ml]
  ·rw [bu] at hv Ts
   obtain⟨e,he,rfl⟩:=Option.map_eq_some_iff.mp hv
   obtain⟨y,hy,rfl⟩:=Option.map_eq_some_iff.mp Ts
   rw [ck] at he
   obtain⟨b,e1,e2⟩:=at2 i e y he hy
   rw [e1]
   exact e2
  ·obtain⟨y,_,rfl⟩:=List.mem_map.mp Ts
   exact bY.HU y
  ·rw [aj]
   exact pV (List.Nodup.length_le_of_subset nd fun y hy=>(mm y).mp hy) hlen
  ·rw [A1]
   exact q m nd mm
 ·exact q1.elim
end
end K2
end
section
namespace L2
open PySem PySem.Spec PyProof.Rows
section
variable {prog:bP} {w:World} {A:dh} {E:Value->aq->Prop} {s:aq}
theorem Az (d:Addr) (ns:(d == eU)=false):MeetsIn prog w (Builtin.«dict.values» ⟨[.ref d],[]⟩) (fun _ R s=>s.TypeIs (.ref d) "dict"/\R (.ok (.ret (.ref s.heap.objs.size))) { s with heap:=s.heap.push { cls:=.type "dict_values",data:=.fields #[.ref d] } }):=by
 refine .of_wp ?_
 rintro A R s ⟨ty,h⟩
 refine aa (m:=Gi _ _) ?_
 unfold Gi
 refine aa (yg ty (show wpAny _ _ (pure d) _ _ s from ai ?_))
 show wpAny _ _ (hZ d >>= _) _ _ s
 unfold hZ
 rw [if_neg (fun z=>by rw [ns] at z; cases z)]
 exact aa (ai (aa (cO (ai ⟨_,rfl,h⟩))))
variable {v d it:Addr} {od:Obj} {es:Array jB} {ep i:Nat}
theorem GQ{Q:Value->aq->Prop}(hv:s.heap.IsValuesView v d)(xf:s.heap.get? d=some od)(dd:od.data=.dict es ep)
  (hQ:Q (.ref s.heap.objs.size) { s with heap:=s.heap.push { cls:=.type "dict_valueiterator",data:=.fields #[.ref d,.int 0 0,.int es.size 0,.int ep 0] } }):wpAny (model prog w) A (AM (.ref v)) Q E s:=by
 obtain⟨ov,hov,hcv,hdv⟩:=id hv
 refine jP hv.typeIs Pe (cT Pe hv.typeIs F.entry_dict_values_iter ?_ (F.args_dict_values_iter_1 _))
 unfold Builtin.«dict_values.__iter__» Builtin.Dict_items.dictOf
 refine aa (ai (aa (aa (LP hov hdv (x:=.ref d) rfl (ai (aa ?_))))))
 unfold Builtin.Dict_items.newIterator
 refine aa (dU xf dd (aa (ia xf dd ?_)))
 have M0:eW "dict_valueiterator" = false:=by decide
 simp only [M0,aB,if_false]
 exact cO (ai ⟨_,rfl,"dict_valueiterator",_,⟨_,bw _ rfl,rfl⟩,F.slot_dict_valueiterator_next.lookup,by simpa [pz] using hQ⟩)
theorem Ka{Q:Option Value->aq->Prop}(hit:s.heap.IsValIter it d i es.size ep)(xf:s.heap.get? d=some od)(dd:od.data=.dict es ep)(hi:i < es.size)
  (hQ:∀ h',h'.IsValIter it d (i+1) es.size ep->fK it s.heap h'->Q (some es[i].val) { s with heap:=h' }):wpAny (model prog w) A (p9 (.ref it)) Q E s:=by
 obtain⟨o,ho,hc,hd⟩:=id hit
 have ty:=hit.typeIs
 unfold p9
 refine aa (jQ (eK (name:=mB "__next__") ty iB (cT iB ty DO ?_ (DD _))))
 refine aa (ai (aa (aa ?_)))
 first | refine aa (iS ty (ai (aa (i8 ho hd ?_)))) | refine aa (la ty (ai (aa (i8 ho hd ?_))))
 have M0:eW "dict_valueiterator" = false:=by decide
 rw [M0]
 show wpAny _ _ (if (dv d == dE)=true then _ else _) _ _ s
 rw [if_neg (fun z=>by cases z)]
 refine aa (ai (aa (dU xf dd ?_)))
 rw [if_neg (by simp)]
 refine aa (ai (aa (ia xf dd ?_)))
 rw [if_neg (by simp)]
 refine ai ?_
 dsimp only
 rw [if_neg (show ¬ ((i:Int) < 0) from Int.not_lt.mpr (kW i)),bH,aX hi]
 dsimp only
 refine aa ?_
 first | refine aa (iS ty (ai (aa (nE ty ?_)))) | refine aa (la ty (ai (aa (nE ty ?_))))
 show wpAny _ _ (Ls (.ref it) 1 (pz ((i:Int)+1)) >>= _) _ _ s
 refine aa (ko ho hd (by simp) ?_)
 have st:(s.heap.update it (kU (·.setIfInBounds 1 (pz ((i:Int)+1))))).IsValIter it d (i+1) es.size ep:=⟨_,eu _ ho (mD (dW hd _)),(sk ..).trans hc,by rw [dW hd]; simp [pz]⟩
 have sb:fK it s.heap (s.heap.update it (kU (·.setIfInBounds 1 (pz ((i:Int)+1))))):=cq ..
 generalize s.heap.update it (kU (·.setIfInBounds 1 (pz ((i:Int)+1))))=h1 at st sb
 have ty1:Shared.TypeIs { s with heap:=h1 } (.ref it) "dict_valueiterator":=st.typeIs (s:={ s with heap:=h1 })
 refine aa (dq (aa (nE ty1 (aa (nE ty1 ?_)))))
 show wpAny _ _ (pure es[i].val) _ _ _
 exact ai (ai ⟨_,rfl,ai (hQ _ st sb)⟩)
theorem Mh{Q:Option Value->aq->Prop}(calm:A.handled=none)(hit:s.heap.IsValIter it d i es.size ep)(xf:s.heap.get? d=some od)(dd:od.data=.dict es ep)(hi:es.size<=i)
  (hQ:∀ h',Heap.ExtBut it s.heap h'->Q none { s with heap:=h' }):wpAny (model prog w) A (p9 (.ref it)) Q E s:=by
 obtain⟨o,ho,hc,hd⟩:=id hit
 have ty:=hit.typeIs
 unfold p9
 refine aa (jQ (eK (name:=mB "__next__") ty iB (cT iB ty DO ?_ (DD _))))
 refine aa (ai (aa (aa ?_)))
 first | refine aa (iS ty (ai (aa (i8 ho hd ?_)))) | refine aa (la ty (ai (aa (i8 ho hd ?_))))
 have M0:eW "dict_valueiterator" = false:=by decide
 rw [M0]
 show wpAny _ _ (if (dv d == dE)=true then _ else _) _ _ s
 rw [if_neg (fun z=>by cases z)]
 refine aa (ai (aa (dU xf dd ?_)))
 rw [if_neg (by simp)]
 refine aa (ai (aa (ia xf dd ?_)))
 rw [if_neg (by simp)]
 refine ai ?_
 dsimp only
 rw [if_neg (show ¬ ((i:Int) < 0) from Int.not_lt.mpr (kW i)),bH,fV hi]
 dsimp only
 refine aa ?_
 first | refine aa (iS ty (ai (?_))) | refine aa (la ty (ai (?_)))
 show wpAny _ _ (Ls (.ref it) 0 .none >>= _) _ _ s
 refine aa (ko ho hd (by simp) (show wpAny _ _ (newExc (.type "StopIteration") [] >>= _) _ _ _ from aa ?_))
 simp only [newExc,newTuple]
 refine aa (cO (aa (m:=nv _ _) (BJ (a:=dE) (by first | rfl | (simp only [nv]; rfl)) (cO ?_ (by size_fits)))) (by size_fits))
 simp only [raiseNew]
 refine aa (wpAny_handled ?_)
 rw [show A.in1.handled=none from calm]
 refine aa (ai (wpAny_throw ?_))
 refine aa (oj (T:="StopIteration") (b:=true) ⟨_,bw _ rfl,rfl⟩ O8 (?_))
 exact ai (hQ _ (((cq ..).extBut.push _).push _))
theorem Lb:entryFor table "dict_valueiterator.__iter__" = some Builtin.«dict_keyiterator.__iter__»:=O9 (id':="dict_keyiterator.__iter__") (by kernel_rfl) rfl (by decide +kernel) (by kernel_rfl)
theorem GN(hh:A.handled=none)(my:d≠it)(dd:od.data=.dict es ep) :
  PySem.Walks prog w A it [it,d] [it] es.size (fun i v=>∃ h:i < es.size,v=es[i].val) (fun i h=>h.IsValIter it d i es.size ep/\h.get? d=some od) where
 sub:=fun b hb=>by simp at hb; simp [hb]
 frame:=fun i h h' st hk=>⟨let ⟨o,e,r⟩:=st.1; ⟨o,hk it (by simp) o e,r⟩,hk d (by simp) od st.2⟩
 item:=fun i s Q E hi st hQ=>Ka st.1 st.2 dd hi fun h' DE sb=>hQ _ h' s.toks ⟨hi,rfl⟩ ⟨DE,(sb.2 d my).trans st.2⟩ fun b o hb e=>(sb.2 b (by simpa using hb)).trans e
 done:=fun s Q E st hQ=>Mh hh st.1 st.2 dd (aF _) fun h' eb=>hQ h' s.toks fun b o hb e=>eb b o (by simpa using hb) e
 self:=fun i s Q E st hQ=>by
  refine jP st.1.typeIs Gf (cT Gf st.1.typeIs Lb ?_ (F.args_dict_valueiterator_iter_1 _))
  show wpAny _ _ (ret (.ref it)) _ _ s
  exact ai ⟨_,rfl,"dict_valueiterator",_,st.1.typeIs,F.slot_dict_valueiterator_next.lookup,hQ⟩
theorem Mu (dd:od.data=.dict es ep):vC prog w "dict_values" v d es.size (fun i v=>∃ h:i < es.size,v=es[i].val) (fun h=>h.IsValuesView v d/\h.get? d=some od) where
 type:=fun s cM=>cM.1.typeIs
 there:=fun h cM=>⟨let ⟨_,ho,_⟩:=cM.1; aK ho,aK cM.2⟩
 keep:=fun h h' cM hk=>⟨let ⟨o,ho,x⟩:=cM.1; ⟨o,hk v (.inl rfl) o ho,x⟩,hk d (.inr rfl) od cM.2⟩
 notList:=by decide
 notTuple:=by decide
 hint:=fun A E s Q cM hq=>PySem.W.kdl_hint_values cM.1.typeIs hq
 iter:=fun A s hh cM=>⟨_,_,(fun E Q hq=>GQ cM.1 cM.2 dd hq),GN hh (bL (aK cM.2)) dd,⟨⟨_,bw _ rfl,rfl,rfl⟩,aI _ cM.2⟩⟩
end
end L2
namespace K2
open PySem PySem.Spec PyProof.Rows L2 PySem.W
section
variable {X:Cx} {o:Expr} {to:fW} {apos iQ pos p:Pos}
theorem T7{pins:List (Addr×Obj)}{σ:L2.St}{H:Hp}{s:aq}{x:V}{l:List (T2×T2)}(I:Inv X pins σ H s)(r:cL X.K H x (.pC (bV l))) :
  ∃ (a:Addr) (od:Obj) (es:Array jB) (ep:Nat) (ks vs:List V),x=.ref a/\(a == eU)=false/\s.heap.get? a=some od/\od.ExactDict/\od.data=.dict es ep/\l.length=es.size /\
   bb X.K H ks (l.map fun q=>Enc.enc q.1)/\bb X.K H vs (l.map fun q=>Enc.enc q.2)/\∀ i (h:i < es.size),∃ k v,ks[i]?=some k/\vs[i]?=some v/\RelV k es[i].key/\RelV v es[i].val:=by
 have k1:(bV l).map (·.1)=l.map fun q=>Enc.enc q.1:=by unfold bV; rw [cc]; rfl
 have k2:(bV l).map (·.2)=l.map fun q=>Enc.enc q.2:=by unfold bV; rw [cc]; rfl
 have k3:(bV l).length=l.length:=by unfold bV; rw [aj]
 have k4:∀ q∈bV l,kX q.1=true:=fun q hq=>by unfold bV at hq; obtain⟨y,_,rfl⟩:=List.mem_map.mp hq; rfl
 rw [← k1,← k2,← k3]
 generalize bV l=bp at r k4
 cases r with
 | pR hq rs =>
  rename_i a o kv
  cases rs with
  | nil =>
   obtain⟨z,ns,vs,rel,ob,es,ep,ho,ex,dd,hko,hp,nd⟩:=(I.cM a _ hq).2
   have l1:es.size=vs.length:=by simpa using hp.length
   have l2:([]:List (Key×V)).length=vs.length:=g7 rel
   have l3:es.size=0:=by rw [l1,← l2]; rfl
   exact⟨a,ob,es,ep,[],[],rfl,ns,ho,ex,dd,by rw [l3]; rfl,.nil,.nil,fun i h=>by lia⟩
  | @cons j _ _ _ _ _ _ =>
   have:=k4 _ aE
   cases j <;> simp [dP,kX] at this
 | pQ hq rs =>
  rename_i a o kv
  obtain⟨z,ns,xs,rel,ob,es,ep,ho,ex,dd,hl,nd⟩:=(I.cM a _ hq).2
  have l1:=congrArg dg hl
  rw [aj,br] at l1
  have l2:kv.length=xs.length:=g7 rel
  have l3:=rs.len
  refine⟨a,ob,es,ep,xs.map fun q=>V.ref q.2.1,kv.map (·.2),rfl,ns,ho,ex,dd,by lia,?_,?_,fun i hi=>?_⟩
  ·rw [rs.keys]
   have:∀ (kv:List (List Key×V)) (xs:List (List Key×Addr×Value)),KT H kv xs->bb X.K H (xs.map fun q=>V.ref q.2.1) (kv.map fun p=>D.tup (p.1.map dP)):=by
    intro kv xs r
    induction r with
    | nil=>exact .nil
    | cons h _ ih=>exact .cons (.tup h.2.1 (vT _)) ih
   exact this kv xs rel
  ·refine Cb _ _ (by rw [aj,aj,l3]) fun i v z hv hz=>?_
   rw [bu] at hv hz
   obtain⟨q,OX,rfl⟩:=Option.map_eq_some_iff.mp hz
   obtain⟨p,hp1,_,rp⟩:=rs.item OX
   rw [hp1] at hv
   cases hv
   exact rp
  ·have i2:i < xs.length:=by lia
   have i3:i < kv.length:=by lia
   have ee:es[i]=Gy (dH (cy X.prog X.w)) xs[i]:=by
    have:=congrArg (fun l=>l[i]?) hl
    simp only [bu,ah i2] at this
    simpa [hi] using this
   refine⟨_,_,by rw [bu,ah i2]; rfl,by rw [bu,ah i3]; rfl,?_⟩
   rw [ee]
   exact⟨rfl,(Bb rel i i3 i2).2.2⟩
theorem Ov:fy "list" = some (.type "list"):=by first | rfl | decide +kernel
theorem KD (hc:X.calm=true) (hg:Gl X "list") (hm:X.mg "list" = none) (ho:gE X o to) (Fc:autoParam (DM o "values" X.env (eval o X.env)=eval o X.env) Ar._auto_1) (NP:autoParam ((apos.endLine == iQ.line)=true) Ar._auto_1)
  (hs:autoParam (bK [.Call (.Attribute o "values" apos) [] [] iQ] X.env=(false,eval (.Call (.Attribute o "values" apos) [] [] iQ) X.env) :: bK [] X.env) Ar._auto_1) (Bm:autoParam ((iV pos (bK [] X.env)).any (·.1)=false) Ar._auto_1) :
  gE X (.Call (.Name "list" p) [.Call (.Attribute o "values" apos) [] [] iQ] [] pos) (Il to):=by
 intro E pins s σ H τ G Q hE I h
 refine eM (oZ I.inv hg hm Ov (d6 ?_ hs Bm))
 rw [hs]
 show wpAny _ _ (LS ((false,eval (.Call (.Attribute o "values" apos) [] [] iQ) X.env) :: iV pos (bK [] X.env))) _ _ s
 refine kq ?_
 refine wpAny_Call_method0_late Fc NP (lM ho hE I h fun x H1 d G1 v s1 I1 m1 r1 jS q1=>?_)
 obtain⟨l,rfl,hn,q⟩:=q1
 obtain⟨t1,t2⟩:=DX pins s1 σ H1 G1 x _ v I1.inv I1.ab r1 jS trivial
 obtain⟨a,od,es,ep,ks,vs,rfl,ns,xf,ex,dd,hl,rk,rv,Qp⟩:=T7 I1.inv jS
 cases r1
 refine⟨"dict","dict.values",GC,FY,PySem.F.type_dict_values,t1,t2,Ly rfl (PySem.evalArgs_none ?_)⟩
 refine call_meetsIn FY t1 PySem.F.entry_dict_values (PySem.F.args_dict_values_1 _) (Az a ns) ⟨t1,?_⟩
 have I2:Inv X pins σ H1 { s1 with heap:=s1.heap.push { cls:=.type "dict_values",data:=.fields #[.ref a] } }:=I1.inv.kept (t':=s1.toks) fun b o e=>aI _ e
 rw [(show iV pos (bK [] X.env)=[] from rfl)]
 refine ai ?_
 have vl:=rv.length
 rw [aj] at vl
 refine fH (Nh (T:="dict_values") hc I2 I1.ab (Mu dd) ⟨⟨_,bw _ rfl,rfl,rfl⟩,aI _ xf⟩ (vs:=vs) (zs:=l.map fun q=>Enc.enc q.2) (by lia) (fun i u hi hP=>?_) rv (by lia) q) (fun r s' ⟨v,H2,d,G2,I2,m2,r2,Au,q2⟩=>⟨v,H2,d,G2,I2,m1.trans m2,r2,Au,q2⟩) fun _ _ z=>z
 obtain⟨Tv,rfl⟩:=hP
 obtain⟨k,v,_,h2,_,h4⟩:=Qp i Tv
 rw [ah hi] at h2
 cases h2
 exact h4
end
end K2
end
section
namespace L2
open PySem PySem.Spec PyProof.Rows
section
variable {prog:bP} {w:World} {A:dh} {E:Value->aq->Prop} {s:aq}
noncomputable abbrev Qm(prog:bP)(w:World)(k:List Key):Int:=(dH (cy prog w)).hash k
theorem Mz{d a:Addr}{xs:List (List Key×Addr×Value)}{k:List Key}{v:Value}{Q:Unit->aq->Prop}(hu:A.units < cLine)(UZ:(dH (cy prog w)).is s.heap k a)(hm:s.heap.DictOfH (dH (cy prog w)) d xs)(new:k∉xs.map (·.1))(hz:xs.length<=bc)
  (hQ:∀ h',h'.DictOfH (dH (cy prog w)) d (xs++[(k,a,v)])->fK d s.heap h'->Q () { s with heap:=h' }):wpAny (model prog w) A (DL d (.ref a) (Qm prog w k) v) Q E s:=by
 obtain⟨o,es,ep,ho,hc,hd,he,his,hn⟩:=hm
 have e0:=LU he
 unfold DL
 try with_reducible refine dq ?_
 refine aa (wpAny_dictFind_heap hu UZ ho hd he his hn (fun Ql=>?_) fun j p hj=>absurd (cV (dS hj)) new)
 refine aa (wpAny_rule (wpAny_updateDictKeys (hz:=by lia) ho hd (hQ _ ⟨_,_,ep+1,eu _ ho (Obj.isFreed_of_dict (ny hd _)),hc.mapDictKeys _,ny hd _,by simp [he,Gy,Qm],fun x hx=>?_,?_⟩ (cq ..))))
 ·rcases List.mem_append.mp hx with hx | hx
  ·exact(dH (cy prog w)).keeps (his x hx) ho hd (cq ..)
  ·rw [List.mem_singleton.mp hx]
   exact(dH (cy prog w)).keeps UZ ho hd (cq ..)
 ·rw [aS,cw]
  refine⟨hn,by simp,fun x hx y hy e=>?_⟩
  rw [ax,bh,kL] at hy
  have hy:y=k:=hy
  exact new (by rw [← hy,← e]; exact hx)
theorem Kx {a:Addr} {Q:Bool->aq->Prop} (ty:s.TypeIs (.ref a) "tuple") (h:Q false s):wpAny (model prog w) A (DQ (.ref a)) Q E s:=by
 unfold DQ
 refine aa (yf ty F.slot_tuple_eq.lookup (ai ?_))
 exact h
theorem N7{es:List jB}(nd:(es.map (·.hash)).Nodup)(e:jB):(es.filter fun x=>x.hash == e.hash).length<=1:=by
 induction es with
 | nil=>exact cD _
 | cons x es ih =>
  rw [ax,dZ] at nd
  by_cases c:x.hash=e.hash
  ·rw [eE (by simp [c])]
   have:es.filter (fun y=>y.hash == e.hash)=[]:=by
    rw [List.filter_eq_nil_iff]
    intro y hy z
    have z:y.hash=e.hash:=by simpa using z
    exact nd.1 (by rw [c,← z]; exact cV hy)
   rw [this]; exact aF _
  ·rw [fI (by simp [c])]; exact ih nd.2
theorem AF {id:String} {o:Addr} {oo:Obj} {es:Array jB} {ep:Nat} {Q:Array jB->aq->Prop} (ho:s.heap.get? o=some oo) (hd:oo.data=.dict es ep) (ht:∀ e∈es.toList,∃ a,e.key=.ref a/\s.TypeIs (.ref a) "tuple") (nd:(es.toList.map (·.hash)).Nodup) (h:Q es s) :
  wpAny (model prog w) A (xu id o) Q E s:=by
 unfold xu
 refine aa (dU ho hd ?_)
 refine aa ?_
 rw [← yn]
 refine iU _ (fun rest _ s'=>s'=s/\∀ e∈rest,∃ a,e.key=.ref a/\s.TypeIs (.ref a) "tuple") _ ?_ ?_ _ _ ⟨rfl,ht⟩
 ·rintro e rest r s' ⟨rfl,qY⟩
  obtain⟨a,ek,ty⟩:=qY e aE
  have one:¬ (es.filter fun x=>x.hash == e.hash).size > 1:=by
   have:=N7 nd e
   rw [← br,Pg]; lia
  rw [ek]
  refine aa (Kx ty ?_)
  rw [if_pos (show (!false)=true from rfl),if_neg one]
  exact ai ⟨rfl,fun x hx=>qY x (av _ hx)⟩
 ·rintro r s' ⟨rfl,_⟩
  exact ai h
theorem Qd{nm:String}{d o:Addr}{xs ys:List (List Key×Addr×Value)}{Q:Unit->aq->Prop}(hu:A.units < cLine)(U5:d≠o)(ns:(o == eU)=false)(hd:s.heap.DictOfH (dH (cy prog w)) d xs)(ho:s.heap.DictOfH (dH (cy prog w)) o ys)
  (nd:((xs++ys).map (·.1)).Nodup) (hh:xs=[]->(ys.map fun y=>Qm prog w y.1).Nodup) (hz:xs.length+ys.length<=1000)
  (hQ:∀ h',h'.DictOfH (dH (cy prog w)) d (xs++ys)->fK d s.heap h'->Q () { s with heap:=h' }):wpAny (model prog w) A (BR nm d o) Q E s:=by
 obtain⟨od,esd,epd,xf,E9,Tw,hed,LG,hnd⟩:=id hd
 obtain⟨oo,LK,epo,US,hco,K3,LH,hio,Ql⟩:=id ho
 have zd:=LU hed
 have zo:=LU LH
 have LD:=cb
 unfold BR hZ
 rw [if_neg (by simpa using U5),if_neg (by rw [ns]; exact eF)]
 refine aa (ai (aa (dU US K3 ?_)))
 have loop:wpAny (model prog w) A (do
   let Vk ← dictEpoch o
   for i in [0:(← dictEntries o).size] do
    let some e:=(← dictEntries o)[i]? | LR "internal:dict-merge"
    Gx [e.key,e.val] (DL d e.key e.hash e.val)
    if (← dictEpoch o) != Vk then LR s!"{nm}:source-changed-during-callback") Q E s:=by
  refine aa (ia US K3 (aa (dU US K3 ?_)))
  rw [Std.Legacy.Range.forIn_eq_forIn_range']
  simp only [Std.Legacy.Range.size,Nat.sub_zero,pW,Nat.div_one]
  refine aa (iU _ (fun rest _ s'=>∃ h' i,s'={ s with heap:=h' }/\rest=List.range' i (LK.size - i)/\i<=LK.size/\h'.DictOfH (dH (cy prog w)) d (xs++ys.take i)/\fK d s.heap h') _ ?_ ?_ _ _ ⟨s.heap,0,rfl,by simp,cD _,by rw [IK,bS]; exact hd,vH _ _⟩)
  ·rintro x rest b s' ⟨h',i,rfl,hr,hi,Ag,zm⟩
   have lt:i < LK.size:=by
    apply cA
    intro z
    rw [Nat.sub_eq_zero_of_le (by lia)] at hr
    cases hr
   rw [show LK.size - i=(LK.size - (i+1))+1 by lia,List.range'_succ] at hr
   injection hr with h1 hr2
   subst h1
   have lx:x < ys.length:=by lia
   have UR:h'.get? o=some oo:=(zm.2 o (fu U5)).trans US
   have ex:LK[x]?=some (Gy (dH (cy prog w)) ys[x]):=by rw [entry_at LH x,ah lx]; rfl
   refine aa (dU (s:={ s with heap:=h' }) UR K3 ?_)
   rw [ex]
   show wpAny _ _ (Gx [dv ys[x].2.1,ys[x].2.2] (DL d (.ref ys[x].2.1) (Qm prog w ys[x].1) ys[x].2.2) >>= _) _ _ _
   have Zy:(dH (cy prog w)).is h' ys[x].1 ys[x].2.1:=(dH (cy prog w)).keeps (hio _ (bT lx)) xf Tw zm
   have new:ys[x].1∉(xs++ys.take x).map (·.1):=fun z=>by
    have e:xs++ys=(xs++ys.take x)++ys[x] :: ys.drop (x+1):=by rw [cH,List.getElem_cons_drop,fh]
    rw [e,aS,cw] at nd
    exact nd.2.2 _ z _ aE rfl
   refine aa (dq (Mz (s:={ s with heap:=h' }) hu Zy Ag new (by rw [au,dj]; lia) fun h2 hd2 CK=>?_))
   have aae:h2.get? o=some oo:=(CK.2 o (fu U5)).trans UR
   refine aa (ia (s:={ s with heap:=h2 }) aae K3 ?_)
   rw [if_neg (by simp)]
   refine ai ⟨h2,x+1,rfl,?_,lt,?_,zm.trans CK⟩
   ·exact hr2
   ·rw [List.take_add_one,ah lx,← cH]; exact hd2
  ·rintro b s' ⟨h',i,rfl,hr,hi,Ag,zm⟩
   have Qn:i=LK.size:=by
    apply cA
    intro z
    rw [show LK.size - i=(LK.size - (i+1))+1 by lia,List.range'_succ] at hr
    cases hr
   refine ai (hQ h' ?_ zm)
   rw [Qn,zo,List.take_length] at Ag; exact Ag
 dsimp only
 split
 ·refine aa (dU xf Tw ?_)
  split
  ·rename_i aay
   have xe:xs=[]:=by
    have h0:esd=#[]:=Array.isEmpty_iff.mp aay
    rw [h0] at zd
    exact List.length_eq_zero_iff.mp zd.symm
   have UK:∀ e∈LK.toList,∃ a,e.key=.ref a/\s.TypeIs (.ref a) "tuple":=fun e he=>by
    rw [LH] at he
    obtain⟨y,hy,rfl⟩:=List.mem_map.mp he
    exact⟨_,rfl,wW (hio y hy)⟩
   have hhs:(LK.toList.map (·.hash)).Nodup:=by
    rw [LH,cc]; exact hh xe
   refine aa (AF US K3 UK hhs ?_)
   split
   ·refine aa (wpAny_updateDictKeysTo xf Tw (ai (hQ _ ⟨_,_,epd+1,eu _ xf (Obj.isFreed_of_dict (ny Tw _)),E9.mapDictKeys _,ny Tw _,?_,fun y hy=>?_,nd⟩ (cq ..))) (by lia))
    ·rw [xe,bg]; exact LH
    ·rw [xe,bg] at hy
     exact(dH (cy prog w)).keeps (hio y hy) xf Tw (cq ..)
   ·rename_i my
    have h0:LK=#[]:=Array.isEmpty_iff.mp (by simpa using my)
    have y0:ys=[]:=by
     rw [h0] at zo
     exact List.length_eq_zero_iff.mp zo.symm
    refine ai (hQ s.heap ?_ (vH _ _))
    rw [y0,bS]; exact hd
  ·exact loop
 ·exact loop
theorem Hz(d o:Addr)(U5:d≠o)(ns:(o == eU)=false):MeetsIn prog w (Builtin.«dict.update» ⟨[.ref d,.ref o],[]⟩) (fun A R s=>∃ xs ys,A.in1.units < cLine/\s.heap.DictOfH (dH (cy prog w)) d xs/\s.heap.DictOfH (dH (cy prog w)) o ys /\
  (((xs++ys).map (·.1)).Nodup/\(xs=[]->(ys.map fun y=>Qm prog w y.1).Nodup)/\xs.length+ys.length<=1000)/\∀ h',h'.DictOfH (dH (cy prog w)) d (xs++ys)->fK d s.heap h'->R (.ok (.ret .none)) { s with heap:=h' }):=by
 refine .of_wp ?_
 rintro A R s ⟨xs,ys,hu,hd,ho,⟨h1,h2,h3⟩,h⟩
 unfold Builtin.«dict.update» Builtin.Dict.selfAndRest
 refine aa (aa (yg hd.typeIs (show wpAny _ _ (pure (d,[dv o])) _ _ s from ai ?_)))
 show wpAny _ _ (AR "dict.update" d (.ref o) [] .none) _ _ s
 unfold AR
 refine aa (IF ho.typeIs ?_)
 rw [if_neg (by decide)]
 refine aa ?_
 unfold Builtin.Dict.merge Builtin.Dict.readDirectly
 refine aa (aa (oj ho.typeIs PySem.F.sub_dict_dict ?_))
 simp only [bO,aB,if_false]
 refine aa (yf ho.typeIs F.slot_dict_iter.lookup (ai ?_))
 simp only [beq_self_eq_true,if_true]
 refine aa (ai (Qd hu U5 ns hd ho h1 h2 h3 fun h' Ag zm=>?_))
 show wpAny _ _ (Builtin.Dict.addKeywords d [] >>= _) _ _ _
 exact aa (ai (ai ⟨.none,rfl,h h' Ag zm⟩))
end
end L2
namespace K2
open PySem PySem.Spec PyProof.Rows L2 PySem.W
section
variable {X:Cx} {pins:List (Addr×Obj)} {σ:L2.St} {H:Hp} {s:aq} {G:Gp}
theorem RC{x y:List Key}(h:tk x=tk y):x=y:=by
 have e:=nY x y
 have e2:=nY y y
 rw [show D.tup (x.map dP)=D.tup (y.map dP) from h,e2] at e
 exact of_decide_eq_true (e.symm.trans (decide_eq_true rfl))
theorem yW:∀ {a b:List (List Key)},a.map tk=b.map tk->a=b
 | [],[],_=>rfl
 | [],_ :: _,h=>by cases h
 | _ :: _,[],h=>by cases h
 | x :: a,y :: b,h=>by
  rw [ax,ax] at h
  injection h with h1 h2
  rw [RC h1,yW h2]
theorem EV{K:ag}{l:List (T2×T2)}{kv:List (List Key×V)}(rs:kR K H kv (bV l)):kv.map (·.1)=l.map fun p=>B1 p.1:=by
 have h:=rs.keys
 have e1:(bV l).map (·.1)=(l.map fun p=>B1 p.1).map tk:=by unfold bV; rw [cc,cc]; rfl
 have e2:(kv.map fun p=>D.tup (p.1.map dP))=(kv.map (·.1)).map tk:=by rw [cc]; rfl
 rw [e1,e2] at h
 exact(yW h).symm
theorem u3{kv:List (List Key×V)}{xs:List (List Key×Addr×Value)}(r:KT H kv xs):xs.map (·.1)=kv.map (·.1):=by
 induction r with
 | nil=>rfl
 | cons h _ ih=>rw [ax,ax,ih,h.1]
theorem Sr{kv kw:List (List Key×V)}{xs ys:List (List Key×Addr×Value)}(r:KT H kv xs)(q:KT H kw ys):KT H (kv++kw) (xs++ys):=by
 induction r with
 | nil=>exact q
 | cons h _ ih=>exact .cons h ih
theorem SX{K:ag}{kv kw:List (List Key×V)}{k1 k2:List (D×D)}(r:kR K H kv k1)(q:kR K H kw k2):kR K H (kv++kw) (k1++k2):=by
 induction r using kR.ind with
 | nil=>exact q
 | cons h _ ih=>exact .cons h ih
theorem Jo(l:List (T2×T2)):∀ q∈bV l,kX q.1=true:=fun q hq=>by unfold bV at hq; obtain⟨y,_,rfl⟩:=List.mem_map.mp hq; rfl
theorem S0{a:Addr}{l:List (T2×T2)}(I:Inv X pins σ H s)(ab:kS X.K H G)(hg:G a=some (.jn (bV l))) :
  ∃ H' kv,Inv X pins σ H' s/\Mv X.K H G H' G/\H' a=some (.dT kv)/\kR X.K H' kv (bV l):=by
 have ok:=Jo l
 generalize bV l=bp at hg ok
 rcases ab a _ hg with ⟨kv,hv,rs⟩ | ⟨kv,hv,rs⟩
 ·cases rs with
  | nil=>exact⟨_,[],toT I hv,Ct ab hg (.putD hv (.inl ⟨_,rfl⟩)) (.inr ⟨[],cR,.nil⟩),cR,.nil⟩
  | @cons j _ _ _ _ _ _ =>
   have:=ok _ aE
   cases j <;> simp [dP,kX] at this
 ·exact⟨H,kv,I,.refl ab,hv,rs⟩
theorem T1{x:V}{m:List (T2×T2)}(I:Inv X pins σ H s)(r:cL X.K H x (.pC (bV m))) :
  ∃ b kw ys,x=.ref b/\(b == eU)=false/\(∃ o u,H b=some (.kQ o u))/\kR X.K H kw (bV m)/\KT H kw ys/\s.heap.DictOfH (dH (cy X.prog X.w)) b ys:=by
 have ok:=Jo m
 generalize bV m=bp at r ok
 cases r with
 | pR hq rs =>
  rename_i b o kv
  cases rs with
  | nil =>
   obtain⟨z,ns,vs,rel,ob,es,ep,ho,ex,dd,hko,hp,nd⟩:=(I.cM b _ hq).2
   cases rel
   have he:es.toList=[]:=List.length_eq_zero_iff.mp hp.length
   exact⟨b,[],[],rfl,ns,⟨_,_,hq⟩,.nil,.nil,ob,es,ep,ho,ex,dd,he,(fun _ z=>by cases z),du⟩
  | @cons j _ _ _ _ _ _ =>
   have:=ok _ aE
   cases j <;> simp [dP,kX] at this
 | pQ hq rs =>
  rename_i b o kv
  obtain⟨z,ns,ys,rel,dd⟩:=zB I.cM (.inr ⟨_,hq⟩)
  exact⟨b,kv,ys,rfl,ns,⟨_,_,hq⟩,rs,rel,dd⟩
theorem Nb (hu:X.A.units+64 < cLine):Ll X "dict.update" Nc:=by
 intro pins s σ H G x d xs ds v us Q I ab rx rd Pz yG q
 unfold Nc at q
 split at q
 ·rename_i a y
  obtain⟨l,m,hg,rfl,⟨hz,nd,hh⟩,q⟩:=q
  cases rd
  obtain⟨w1,rfl,Ku⟩:=yG.one
  obtain⟨u,rfl,ru⟩:=Pz.one
  cases rx
  obtain⟨H',kv,I',mv,hv,rs⟩:=S0 I ab hg
  obtain⟨b,kw,ys,rfl,nb,⟨ob,ub,hb⟩,V4,MG,ddb⟩:=T1 I' (Ku.mono (mv.kp ab))
  cases ru
  obtain⟨z,na,zs,rel,dda⟩:=Rc I'.cM hv
  have ne:a≠b:=fun e=>by rw [← e,hv] at hb; cases hb
  have k1:(zs++ys).map (·.1)=(l++m).map fun p=>B1 p.1:=by rw [aS,aS,u3 rel,u3 MG,EV rs,EV V4]
  have nd':((zs++ys).map (·.1)).Nodup:=by
   rw [k1]
   have:((l++m).map fun p=>B1 p.1)=((l++m).map (·.1)).map B1:=by rw [cc]; rfl
   rw [this,jw,gT]
   exact(List.nodup_iff_pairwise_ne.mp nd).imp fun h e=>h (B0 e)
  have l1:zs.length=l.length:=by have:=congrArg dg ((u3 rel).trans (EV rs)); simpa using this
  have l2:ys.length=m.length:=by have:=congrArg dg ((u3 MG).trans (EV V4)); simpa using this
  have hh':zs=[]->(ys.map fun y=>Qm X.prog X.w y.1).Nodup:=fun e=>by
   have le:l=[]:=List.length_eq_zero_iff.mp (by rw [← l1,e]; rfl)
   have:(ys.map fun y=>Qm X.prog X.w y.1)=m.map fun p=>h2 p.1:=by
    have e1:(ys.map fun y=>Qm X.prog X.w y.1)=(ys.map (·.1)).map (Qm X.prog X.w):=by rw [cc]; rfl
    rw [e1,u3 MG,EV V4,cc]; rfl
   rw [this]; exact hh le
  have sz:bc=16777216:=cb
  refine call_meetsIn FZ dda.typeIs PySem.F.entry_dict_update (PySem.F.args_dict_update_2 _ _) (Hz a b ne nb) ⟨zs,ys,(by show X.A.units+1 < cLine; lia),dda,ddb,⟨nd',hh',by lia⟩,fun h' Ag hs=>?_⟩
  have kp:Kp H' (upd H' a (.dT (kv++kw))):=.putD hv (.inr ⟨_,rfl⟩)
  obtain⟨o',es',Vl,p1,p2,p3,p4,_,p6⟩:=Ag
  have kl:(kv++kw).length<=bc:=by
   have e1:=g7 rel
   have e2:=g7 MG
   rw [au,sz]; lia
  have e5:bV (l++m)=bV l++bV m:=by unfold bV; rw [aS]
  refine⟨.cY,_,.cY,_,C0 (t':=s.toks) I' (by rw [hv]; exact nG) hs ⟨_,p1⟩ (ob:=.dT (kv++kw)) ⟨kl,na,zs++ys,(Sr rel MG).keeps kp.tup,o',es',Vl,p1,p2,p3,p4,p6⟩,mv.trans (.put mv.ab hg kp (.dt cR ?_)),rfl,.cY,q⟩
  rw [e5]
  exact(SX rs V4).mono kp
 ·exact q.elim
end
end K2
end
section
namespace K2
open PySem PySem.Spec PyProof.Rows L2
section
variable {X:Cx} {x cn n:Str} {D f:Addr} {fd:aW} {ps:List Str} {k i:Nat} {sp:mz} {cat:List Str} {e c:Expr} {es:List Expr} {p np pos ep NK tp ZS:Pos} {Tg:Stmt} {AX:List Stmt} {t:Ah} {th u v:iz} {tA:zS} {hs:List DP} {body sa sb:List Stmt}
noncomputable def WT(X:Cx)(hs:List DP)(Q:Flow->aq->Prop):Value->aq->Prop:=fun e eO=>wpAny (model X.prog X.w) X.A (noteFrame e X.env) (fun _ qo=>wpAny (model X.prog X.w) X.A (setFlight e none) (fun _ yx=>wpAny (model X.prog X.w) X.A (handleBy e X.env hs) Q X.xe yx) X.xe qo) X.xe eO
noncomputable def VV(X:Cx)(hs:List DP)(body:List Stmt)(t:iz):Prop :=
 ∀ (pins:List (Addr×Obj)) (s:aq) (σ:L2.St) (H0:Hp) (G0:Gp) (H:Hp) (τ:gY) (G:Gp) (Dn:jW),Mv X.K H0 G0 H G->I2 X pins σ H τ G s->t (fun _ _=>False) Dn τ G ->
  wpAny (model X.prog X.w) X.A (execs body X.env) (Gk X pins H0 G0 Dn) (WT X hs (Gk X pins H0 G0 Dn)) s
theorem MQ{h0:DP}(hb:VV X (h0 :: hs) body v):Gn X (.Try body (h0 :: hs) [] [] tp) (Oh v):=by
 intro E pins s σ H τ G Dn hE I h
 refine wpAny_Try_except ?_
 refine fH (hb pins s σ H G H τ G Dn (.refl I.ab) I h) (fun fl s1 q=>?_) fun _ _ z=>z
 cases fl with
 | next=>exact lL q
 | brk=>exact q
 | cont=>exact q
 | ret u=>exact q
theorem yw(A0:Ro X)(L:Clause X i n cn D cat)(UK:∀ v,vz (marked X v) (Tg :: AX) th)
  (F:dc X.prog X.w X.K X.mg X.base (AL X.prog X.w) k f fd ps (lg X.K X.mg sp)) (hr:jT k X.A) (hg:Gl X x) (hm:X.mg x=some (.ref f)) (hk:ar X.K (.ref f)=true) (hb:Binds X.K fd ps [])
  (ha:∀ EX,DH (X.pP EX) (e :: es) t)
  (CM:autoParam ((x == ("__debug__" : Str))=false) Ad._auto_1) (hdD:autoParam ((cn == ("__debug__" : Str))=false) Ad._auto_1) (he:autoParam (bK (e :: es) X.env=(false,eval e X.env) :: bK es X.env) Ar._auto_1) (Bm:autoParam ((iV pos (bK es X.env)).any (·.1)=false) Ar._auto_1)
  (hs:autoParam (DI (.Call (.Name x p) (e :: es) [] pos) none ep.line X.env=pure false) Ar._auto_1) :
  VV X [.ExceptHandler (some (.Name cn np)) (some n) (Tg :: AX) NK] [.Expr (.Call (.Name x p) (e :: es) [] pos) ep] (zJ sp t i cat th):=by
 intro pins s σ H0 G0 H τ G Dn m0 I h
 refine wV (wpAny_Expr_any ?_ I.inv.quiet hs)
 unfold WT
 generalize hEX:(fun (e:Value) (eO:aq)=>wpAny (model X.prog X.w) X.A (noteFrame e X.env) (fun _ qo=>wpAny (model X.prog X.w) X.A (setFlight e none) (fun _ yx=>wpAny (model X.prog X.w) X.A (handleBy e X.env [.ExceptHandler (some (.Name cn np)) (some n) (Tg :: AX) NK]) (Gk X pins H0 G0 Dn) X.xe yx) X.xe qo) X.xe eO)=EX
 refine eM (oY I.inv hg hm ?_ CM)
 have I0:I2 (X.pP EX) pins σ H τ G s:=⟨I.inv.pP EX,I.st,I.ab⟩
 refine xt (h₀:=X.base) I.inv.ok.mod.Nm hk (xx (X:=X.pP EX) (ha EX) pos (Lk.none fun _ _ z=>z) I0 h fun vs H1 ds G1 us s1 I1 m1 r rd q=>⟨I1.inv.HK,?_⟩) he Bm
 have J1:Inv X pins σ H1 s1:=I1.inv.nh
 refine fH (MC F hr hb J1 I1.ab r rd q) ?_ ?_
 ·rintro u s' ⟨v,d,G',Hj,I',mv,rv,MJ,q'⟩
  exact lL ⟨σ,Hj,τ,G1,⟨I',I1.st.mono (mv.kp I1.ab),mv.ab⟩,(m0.trans m1).trans mv,q'⟩
 ·rintro ev s' ⟨a,C,t0,B,ex,Hj,ea,I',mv,fl,hB,WD,zm,UX,LJ,q'⟩
  subst ea; subst hEX
  exact Fy A0 L UK J1 I1.st I1.ab (m0.trans m1) I' mv fl hB WD zm UX LJ q' hdD
theorem QN(hc:∀ EX,Gm (X.pP EX) c tA)(ha:VV X hs sa u)(hb:VV X hs sb v):VV X hs [.If c sa sb ZS] (nu tA u v):=by
 intro pins s σ H0 G0 H τ G Dn m0 I h
 refine wV ?_
 have fin:∀ (fl:Flow) (s':aq),Gk X pins H0 G0 Dn fl s'->(match fl with | .next=>wpAny (model X.prog X.w) X.A (execs [] X.env) (Gk X pins H0 G0 Dn) (WT X hs (Gk X pins H0 G0 Dn)) s' | f=>Gk X pins H0 G0 Dn f s'):=fun fl s' q=>by
  cases fl with
  | next=>exact lL q
  | brk=>exact q
  | cont=>exact q
  | ret u=>exact q
 generalize hEX:WT X hs (Gk X pins H0 G0 Dn)=EX at fin
 have I0:I2 (X.pP EX) pins σ H τ G s:=⟨I.inv.pP EX,I.st,I.ab⟩
 refine wpAny_If (Kk (X:=X.pP EX) (hc EX) (Lk.none fun _ _ z=>z) I0 h fun d H1 G1 s1 I1 m1 q1=>?_)
 have J1:I2 X pins σ H1 τ G1 s1:=⟨I1.inv.nh,I1.st,I1.ab⟩
 subst hEX
 cases d with
 | true=>exact fH (ha pins s1 σ H0 G0 H1 τ G1 Dn (m0.trans m1) J1 (by simpa using q1)) fin fun _ _ z=>z
 | false=>exact fH (hb pins s1 σ H0 G0 H1 τ G1 Dn (m0.trans m1) J1 (by simpa using q1)) fin fun _ _ z=>z
end
end K2
end
section
namespace K2
open PySem PySem.Spec PyProof.Rows L2
noncomputable def Qh:List Value->List Int->Bool
 | [],[]=>true
 | v :: vs,n :: ns=>DN n v&&Qh vs ns
 | _,_=>false
noncomputable def yv(K:ag)(a:Addr)(ns:List Int):Bool:=match K.lookup a with
 | some o=>o.cls == .type "tuple" && (match o.data with | .seq bB _=>Qh bB.toList ns | _=>false)
 | none=>false
theorem Bl:∀ (vs:List Value) (ns:List Int),Qh vs ns=true->Vals (ns.map V.int) vs
 | [],[],_=>.nil
 | [],_ :: _,h=>bq (show false=true from h)
 | _ :: _,[],h=>bq (show false=true from h)
 | v :: vs,n :: ns,h=>by
  have h:(DN n v&&Qh vs ns)=true:=h
  rw [aH] at h
  rcases ez (k:=.inl n) h.1 with ⟨j,t,e,rfl⟩ | ⟨_,_,e,_⟩
  ·cases e
   exact .cons ⟨t,rfl⟩ (Bl vs ns h.2)
  ·cases e
theorem RA{K:ag}{a:Addr}{ns:List Int}{h:Heap}(Y:K.In h)(e:yv K a ns=true):∃ bB,Vals (ns.map V.int) bB/\h.IsTuple a bB.toArray:=by
 unfold yv at e
 cases hl:K.lookup a with
 | none=>rw [hl] at e; exact bq (show false=true from e)
 | some o =>
  rw [hl] at e
  dsimp only at e
  rw [aH] at e
  obtain⟨e1,e2⟩:=e
  obtain⟨c,dd,dt,sl⟩:=o
  have f1:c=.type "tuple":=beq_iff_eq.mp e1
  subst f1
  cases dt with
  | seq bB m=>exact⟨bB.toList,Bl _ _ e2,_,Y _ _ hl,rfl,m,by simp⟩
  | _=>exact bq (show false=true from e2)
theorem any_ints(i:Int):∀ ns:List Int,(ns.map D.int).any (iy · (.int i))=ns.contains i
 | []=>rfl
 | n :: ns=>by
  rw [ax,kO,any_ints i ns,pO]
  congr 1
  show decide (n=i)=(i == n)
  rw [show (i == n)=decide (i=n) from rfl]
  by_cases z:n=i
  ·rw [z]
  ·rw [decide_eq_false z,decide_eq_false fun y=>z y.symm]
section
variable {X:Cx} {x:Str} {a:Addr} {ns:List Int} {e:Expr} {te:fW} {px pos:Pos}
theorem MO (neg:Bool) (hu:X.A.units+64 < cLine) (hg:Gl X x) (hm:X.mg x=some (.ref a)) (hT:yv X.K a ns=true) (ha:gE X e te) (UT:vK (if neg then .NotIn else .In) (.Name x px)=false) (CM:(x == ("__debug__" : Str))=false):Gm X (.Compare e [if neg then .NotIn else .In] [.Name x px] pos) (iH (Ld neg ns te)):=by
 intro E pins s σ H τ G Q hE I h
 refine wpAny_isTrue_Compare1 (lM ha hE I h fun z H1 dx G1 v s1 I1 m1 r1 jS q1=>oY I1.inv hg hm ?_ CM) UT
 obtain⟨i,rfl,q1⟩:=q1
 obtain⟨bB,rv,hl⟩:=RA I1.inv.HK hT
 refine gC (x6 (y:=z) hu neg (ds:=ns.map D.int) (ss:=ns.map D.int) (t:=.int i) (Q:=fun w G2=>w=.bl (if neg then !ns.contains i else ns.contains i)/\G2=G1) I1.inv I1.ab r1 jS ⟨a,_,bB,rfl,rv,bb.Cr ns,.inr hl⟩ (.int _) (yz (α:=Int) _ 7 (by decide) ns) ⟨by rw [any_ints],rfl⟩) ?_
 rintro c s3 ⟨w,H3,dz,G3,I3,m3,r3,Ua,q3⟩
 obtain⟨rfl,rfl⟩:=q3
 exact Ki pins s3 σ H3 G3 w _ c _ _ I3 m3.ab r3 Ua rfl fun s' I'=>⟨H3,G3,I',m1.trans m3,q1⟩
theorem El (hu:X.A.units+64 < cLine) (hg:Gl X x) (hm:X.mg x=some (.ref a)) (hT:yv X.K a ns=true) (ha:gE X e te) (UT:autoParam (vK .NotIn (.Name x px)=false) Aw._auto_1) (CM:autoParam ((x == ("__debug__" : Str))=false) Ad._auto_1):Gm X (.Compare e [.NotIn] [.Name x px] pos) (iH (Ld true ns te)):=MO true hu hg hm hT ha UT CM
end
end K2
end
section
namespace K2
open PySem (Str)
open Enc (enc)
theorem nj{α:Type} [DecidableEq α] [Enc α]{G G1:Gp}{p:Nat}{xs:List α}{Q:DK}(l:jV G G1)(hp:G p=none)(h1:G1 p=some (.lst (xs.map enc)))(q:Q (enc xs) G):QL G1 (.ref p) Q :=
 HW l hp h1 (J2.same _) q
theorem je{α:Type}{f:α->D}{g:AI}{body:iz}{ok:Gp->Prop}{xs:List α}{E:kc}{K:jW}{τ:gY}{G:Gp}(I:List α->gY->Gp->Prop)
  (h0:I [] τ G) (cM:∀ pre τ G,I pre τ G->ok G)
  (step:∀ (pre:List α) (x:α) (post:List α) τ G (N:gY->Gp->Prop),xs=pre++x :: post->I pre τ G->(∀ vM G2,I (pre++[x]) vM G2->N vM G2) ->
   g E (f x) τ G fun pY G1=>body E { K with nx:=N,ct:=N,bk:=K.nx } pY G1)
  (fin:∀ τ G,I xs τ G->K.nx τ G):sM g body ok (xs.map f) E K τ G:=by
 have main:∀ (post pre:List α) τ G,xs=pre++post->I pre τ G->sM g body ok (post.map f) E K τ G:=by
  intro post
  induction post with
  | nil =>
   intro pre τ G e h
   rw [bS] at e
   subst e
   exact⟨cM _ _ _ h,fin _ _ h⟩
  | cons d post ih =>
   intro pre τ G e h
   refine⟨cM _ _ _ h,?_⟩
   exact step pre d post τ G _ e h fun vM G2 h2=>ih (pre++[d]) vM G2 (by rw [e,cH]; rfl) h2
 exact main xs [] τ G rfl h0
theorem mr{α:Type}{f:α->D}{g:AI}{c:Option zS}{e:fW}{ok:Gp->Prop}{xs:List α}{E:kc}{τ:gY}{G:Gp}{Q:List D->Gp->Prop}(I:List α->List D->gY->Gp->Prop)
  (h0:I [] [] τ G) (cM:∀ pre acc τ G,I pre acc τ G->ok G)
  (step:∀ (pre:List α) (x:α) (post:List α) (acc:List D) τ G (N:gY->List D->Gp->Prop),xs=pre++x :: post->I pre acc τ G->(∀ vM wO G2,I (pre++[x]) wO vM G2->N vM wO G2) ->
   g E (f x) τ G fun pY G1=>match c with
    | none=>e E pY G1 fun x G2=>N pY (acc++[x]) G2
    | some c=>c E pY G1 fun k G2=>if k=true then e E pY G2 fun x G3=>N pY (acc++[x]) G3 else N pY acc G2)
  (fin:∀ acc τ G,I xs acc τ G->Q acc G):iR g c e ok (xs.map f) E τ G [] Q:=by
 have main:∀ (post pre:List α) (acc:List D) τ G,xs=pre++post->I pre acc τ G->iR g c e ok (post.map f) E τ G acc Q:=by
  intro post
  induction post with
  | nil =>
   intro pre acc τ G e h
   rw [bS] at e
   subst e
   exact⟨cM _ _ _ _ h,fin _ _ _ h⟩
  | cons d post ih =>
   intro pre acc τ G e' h
   refine⟨cM _ _ _ _ h,?_⟩
   have:=step pre d post acc τ G (fun vM wO G2=>iR g c e ok (post.map f) E vM G2 wO Q) e' h fun vM wO G2 h2=>ih (pre++[d]) wO vM G2 (by rw [e',cH]; rfl) h2
   cases c with
   | none=>exact this
   | some c=>exact this
 exact main xs [] [] τ G rfl h0
theorem lF{α:Type} [DecidableEq α] [Enc α]{xs:List α}{G:Gp}{R:List D->(Gp->Prop)->Gp->Prop}(h:R (xs.map enc) (fun _=>True) G):Q0 (enc xs) G R:=h
theorem qT{α:Type} [DecidableEq α] [Enc α]{xs:List α}{G:Gp}{R:List D->(Gp->Prop)->Gp->Prop}(h:R (mf 0 (xs.map enc)) (fun _=>True) G):u5 (enc xs) G R:=h
theorem LD{n:Nat}(h:n<=1000):n<=SZ:=by unfold SZ; lia
theorem Pq{n:Nat}(h:n<=1000):n < SZ:=by unfold SZ; lia
noncomputable abbrev Rows:=List (List T3)
noncomputable def T3.s(p:T3):T2:=⟨p.a,p.b⟩
structure Dr(rows:Rows):Prop where
 nd:(rows.flatten.map T3.s).Nodup
 way:∀ p∈rows.flatten,p.b=0\/p.b=1
 hand:∀ p∈rows.flatten,p.c=1\/p.c=-1
 KJ:∀ p∈rows.flatten,(⟨p.a,1 - p.b,p.c⟩:T3)∈rows.flatten
 lY:rows.flatten.length<=24
 str:rows.length<=3
namespace P
noncomputable def jC:mz:=T4 (fun rows:Rows=>rows.flatten.length<=1000) fun rows=>rows.flatten
noncomputable def qy:iz :=
 (da (cz (rE bC) (aQ 1))
 (da (gN (tL (aw 0)) (aQ 2) (iK (By AW x3 (aw 1) (aA (aw 2) bC))))
 (dO (h8 (aw 1)))))
theorem zU(ds:List D)(G:Gp)(Q:DK)(h:jC ds G Q fun _ _=>False):qy (fun _ _=>False) (ends Q) (bM 3 ds) G:=by
 obtain⟨rows,rfl,hl,q⟩:=h
 unfold qy
 simp only [ends,bM,ax,bh,ak,ay,bF,aT,bg,eZ,cz,rE,bC,aQ,aC,az]
 refine⟨by decide,fun p hp=>?_⟩
 refine gZ (fun τ G'=>(∃ b,τ=[some (enc rows),some (.ref p),b])/\jV G G'/\G' p=some (.lst (rows.flatten.map enc))) ?_ ?_
 ·intro N hN
  simp only [gN,iG,aw,ae]
  refine lF ?_
  refine je (xs:=rows) (fun pre τ G'=>(∃ b,τ=[some (enc rows),some (.ref p),b])/\jV G G'/\G' p=some (.lst (pre.flatten.map enc))) ⟨⟨_,rfl⟩,.new hp,bz⟩ (fun _ _ _ _=>trivial) ?_ ?_
  ·rintro pre r post τ G' N2 e ⟨⟨b,rfl⟩,l,gp⟩ sA
   have hlen:pre.flatten.length+r.length<=rows.flatten.length:=by
    rw [e]; simp only [hX,bG,au]; lia
   simp only [aQ,iK,By,aw,aC,az,af,ae,rP,gp,aA,bC,qQ,yZ (IsL.enc r),true_and]
   refine⟨LD (by simp only [aj]; lia),?_⟩
   refine sA _ _ ⟨⟨_,rfl⟩,l.put hp,?_⟩
   rw [bz]; simp
  ·rintro τ G' ⟨⟨b,rfl⟩,l,gp⟩
   exact hN _ _ ⟨⟨_,rfl⟩,l,gp⟩
 ·rintro _ G' ⟨⟨b,rfl⟩,l,gp⟩
  simp only [dO,h8,aw,af,ae]
  exact nj l hp gp q
theorem mh(p:T3):(enc p:D)=.tup [.int p.a,.int p.b,.int p.c]:=rfl
theorem zA(p:T2):(enc p:D)=.tup [.int p.a,.int p.b]:=rfl
theorem Qv(i:Int):(enc i:D)=.int i:=rfl
theorem at0{a:D}{r:List D}:rK (a :: r) 0=some a:=by
 rw [mY _ (by lia) (by simp)]; rfl
theorem JY{a b:D}{r:List D}:rK (a :: b :: r) 1=some b:=by
 rw [mY _ (by lia) (by simp; lia)]; rfl
noncomputable def names(rows:Rows):List Int:=Ko ((rows.flatten.filter fun p=>p.b == 0).map (·.a))
noncomputable def mM:mz:=T4 (fun rows:Rows=>rows.flatten.length < 64) names
noncomputable def w7:iz :=
 (dO (h8 (sE ye (aA (gS 1 [] (tL (cg jC (aA (aw 0) bC))) (aQ 0) (some (iH (bA (xX false) (bA lR (aw 0) (dC (.int 1))) (dC (.int 0))))) (bA lR (aw 0) (dC (.int 0)))) bC))))
theorem FO(ds:List D)(G:Gp)(Q:DK)(h:mM ds G Q fun _ _=>False):w7 (fun _ _=>False) (ends Q) (bM 1 ds) G:=by
 obtain⟨rows,rfl,hl,q⟩:=h
 unfold w7
 simp only [dO,h8,sE,aA,gS,bM,ax,bh,ak,ay,aT,bg,bC,ends,iG,cg,aw,ae]
 refine⟨rows,rfl,(show rows.flatten.length<=1000 by lia),lF ⟨LD (by rw [aj]; show rows.flatten.length<=1000; lia),?_⟩⟩
 refine mr (xs:=rows.flatten) (fun pre acc τ G'=>G=G'/\(∃ a,τ=[a])/\acc=((pre.filter fun p=>p.b == 0).map (·.a)).map enc) ⟨rfl,⟨_,rfl⟩,rfl⟩ (fun _ _ _ _ _=>trivial) ?_ ?_
 ·rintro pre x post acc τ G' N e ⟨rfl,⟨a,rfl⟩,rfl⟩ hN
  simp only [aQ,mh,az,bA,aw,ae,dC,ie,at0,fb,JY]
  refine⟨_,_,.int _,.int _,?_⟩
  simp only [aB,tT,if_false,cm]
  split
  ·rename_i h
   refine hN _ _ _ ⟨rfl,⟨_,rfl⟩,?_⟩
   simp [gy,List.filter_cons,h,Qv]
  ·rename_i h
   refine hN _ _ _ ⟨rfl,⟨_,rfl⟩,?_⟩
   simp [gy,List.filter_cons,h]
 ·rintro acc τ G' ⟨rfl,⟨a,rfl⟩,rfl⟩ p hp
  refine Io (IsL.ref bz) (by rw [aj]; exact pV (fm _ _) hl) fun p2 Wx=>?_
  exact nj ((jV.new hp).trans (.new Wx)) ((jV.new hp).free Wx) bz q
noncomputable def bI(row:List T3)(i:Int):List T2:=if row=[] then [⟨i,2⟩] else row.map T3.s
noncomputable def mK:mz:=W8 (fun (row:List T3) (_:Int)=>row.length<=1000) bI
noncomputable def w6:iz :=
 (da (nu (Ik (iH (aw 0))) (dO (h8 (rE (aA (i5 (aA (aw 1) (aA (dC (.int 2)) bC))) bC)))) fv)
 (dO (h8 (gS 1 [] (tL (aw 0)) (aQ 0) none (C1 (aw 0) fS (pL (dC (.int 2))))))))
theorem Ri(p:T3):cut [D.int p.a,D.int p.b,D.int p.c] none (some 2)=[D.int p.a,D.int p.b]:=rfl
theorem FL(ds:List D)(G:Gp)(Q:DK)(h:mK ds G Q fun _ _=>False):w6 (fun _ _=>False) (ends Q) (bM 2 ds) G:=by
 obtain⟨row,i,rfl,hl,q⟩:=h
 unfold w6
 refine gZ (fun τ G'=>G=G'/\τ=[some (enc row),some (enc i)]/\row≠[]) ?_ ?_
 ·intro N hN
  simp only [nu,Ik,bM,ax,bh,ak,ay,aT,bg,dO,h8,rE,aA,i5,aw,af,ae,dC,bC,ends,fv,fb]
  refine DY (IsL.enc row) ?_
  cases row with
  | nil =>
   simp only [bh,DA,bO,cF,if_true]
   refine⟨by decide,by decide,fun p hp=>nj (xs:=[(⟨i,2⟩:T2)]) (.new hp) hp bz ?_⟩
   exact q
  | cons a r =>
   simp only [ax,List.isEmpty_cons,cF,bO,aB,if_false]
   exact hN _ _ ⟨rfl,rfl,by simp⟩
 rintro _ _ ⟨rfl,rfl,my⟩
 simp only [dO,h8,gS,ends,iG,aw,ae]
 refine lF ⟨LD (by rw [aj]; exact hl),?_⟩
 refine mr (xs:=row) (fun pre acc τ G'=>G=G'/\(∃ a,τ=[a])/\acc=(pre.map T3.s).map enc) ⟨rfl,⟨_,rfl⟩,rfl⟩ (fun _ _ _ _ _=>trivial) ?_ ?_
 ·rintro pre x post acc τ G' N e ⟨rfl,⟨a,rfl⟩,rfl⟩ hN
  simp only [aQ,C1,aw,mh,az,ae,fS,oM,ak,ay,jN,dC,fZ]
  refine⟨by decide,hN _ _ _ ⟨rfl,⟨_,rfl⟩,?_⟩⟩
  rw [aS,aS]; rfl
 ·rintro acc τ G' ⟨rfl,⟨a,rfl⟩,rfl⟩ p hp
  refine nj (.new hp) hp bz ?_
  have:bI row i=row.map T3.s:=by unfold bI; rw [if_neg my]
  rw [← this]; exact q
noncomputable def iN:Rows->Nat->List T2
 | [],_=>[]
 | r :: rs,k=>bI r (k:Int)++iN rs (k+1)
theorem zy(xs:List (List T3)):mf 0 (xs.map enc)=(xs.zipIdx 0).map fun p=>D.tup [.int (p.2:Int),enc p.1]:=by
 have:∀ (xs:List (List T3)) (k:Nat),mf k (xs.map enc)=(xs.zipIdx k).map fun p=>D.tup [.int (p.2:Int),enc p.1]:=by
  intro xs
  induction xs with
  | nil=>intro k; rfl
  | cons x xs ih=>intro k; rw [ax,mf,ih,List.zipIdx_cons,ax]
 exact this xs 0
theorem ot{α:Type}{xs:List α}{pre post:List (α×Nat)}{x:α×Nat}(h:xs.zipIdx 0=pre++x :: post):∃ l r,xs=l++x.1 :: r/\x.2=l.length/\pre=l.zipIdx 0:=by
 have e1:xs=(pre.map (·.1))++x.1 :: post.map (·.1):=by
  have:=congrArg (List.map (·.1)) h
  rw [fT] at this
  rw [this]; simp
 have hl:pre.length < (xs.zipIdx 0).length:=by rw [h]; simp
 have hx:(xs.zipIdx 0)[pre.length]?=some x:=by rw [h]; simp
 refine⟨pre.map (·.1),post.map (·.1),e1,?_,?_⟩
 ·rw [List.getElem?_zipIdx] at hx
  rw [aj]
  cases q:xs[pre.length]? with
  | none=>rw [q] at hx; cases hx
  | some y=>rw [q] at hx; simp at hx; rw [← hx]
 ·have:(pre.map (·.1)).zipIdx 0=(xs.zipIdx 0).take pre.length:=by
   conv=>rhs; rw [e1,List.zipIdx_append]
   rw [List.take_append_of_le_length (by simp)]
   rw [fX (by simp)]
  rw [this,h]; simp
theorem abt{a b c:D}:cut [a,b,c] none (some 2)=[a,b]:=rfl
theorem KQ{α:Type} [DecidableEq α] [Enc α](xs:List α)(G:Gp):y7 (enc xs) G=some (xs.map enc,fun _=>True):=rfl
theorem KP{a:Nat}{ds:List D}{G:Gp}(h:G a=some (.lst ds)):y7 (.ref a) G=some (ds,fun G2=>G2 a=some (.lst ds)):=by unfold y7; simp only [h]
theorem DT{α β:Type} [DecidableEq α] [Enc α] [DecidableEq β] [Enc β]:∀ (xs:List α) (ys:List β),su (xs.map enc) (ys.map enc)=(xs.zip ys).map fun p=>D.tup [enc p.1,enc p.2]
 | [],ys=>by simp [su]
 | x :: xs,[]=>by simp [su]
 | x :: xs,y :: ys=>by simp [su,DT xs ys]
theorem nI{κ α:Type} [DecidableEq κ] [Enc κ] [tZ κ] [DecidableEq α] [Enc α]{a:Nat}{l:List (κ×α)}{k:κ}{v:α}{G:Gp}{Q:Gp->Prop}(h:G a=some (.jn (bV l)))(hl:l.length<=1000)(q:Q (fN G a (.jn (bV (pq l k v))))):A4 (.ref a) (enc k) (enc v) G Q:=by
 unfold A4
 simp only [h]
 refine⟨iq l k,?_,by rw [PM]; exact q⟩
 unfold bV; rw [aj]; exact Pq hl
noncomputable def gK(r:List T3):List T3:=r.drop 1++r.take 1
noncomputable def pairsOf(rows:Rows):List (T3×T3):=rows.flatMap fun r=>r.zip (gK r)
noncomputable def i0(ps:List (T3×T3)):List (T2×T2):=ps.foldl (fun l p=>pq l p.1.s p.2.s) []
theorem Bc(ps:List (T3×T3)):(i0 ps).length<=ps.length:=by
 have:∀ (ps:List (T3×T3)) (l:List (T2×T2)),(ps.foldl (fun l p=>pq l p.1.s p.2.s) l).length<=l.length+ps.length:=by
  intro ps
  induction ps with
  | nil=>intro l; simp
  | cons p ps ih =>
   intro l
   rw [dJ,ak]
   have h1:=ih (pq l p.1.s p.2.s)
   have h2:=FK l p.1.s p.2.s
   lia
 simpa [i0] using this ps []
theorem Ht(ps:List (T3×T3))(p:T3×T3):i0 (ps++[p])=pq (i0 ps) p.1.s p.2.s:=by unfold i0; rw [rN]; rfl
noncomputable def oJ:mz:=fun ds G Q _=>∃ rows:Rows,ds=[enc rows]/\rows.flatten.length<=500/\Q (.pC (bV (i0 (pairsOf rows)))) G
theorem pairs_len(rows:Rows):(pairsOf rows).length<=rows.flatten.length:=by
 unfold pairsOf
 induction rows with
 | nil=>simp
 | cons r rs ih=>simp only [lH,bG,au,List.length_zip]; lia
noncomputable def yH:iz :=
 (da (cz wH (aQ 1))
 (da (gN (tL (aw 0)) (aQ 2) (gN (Sz (aw 2) (bA mF (C1 (aw 2) (pL (dC (.int 1))) fS) (C1 (aw 2) fS (pL (dC (.int 1)))))) (vg (g8 (aQ 3) (g8 (aQ 4) tM))) (cz (C1 (aw 4) fS (pL (dC (.int 2)))) (vh (aw 1) (C1 (aw 3) fS (pL (dC (.int 2))))))))
 (dO (h8 (aw 1)))))
theorem Iw(ds:List D)(G:Gp)(Q:DK)(h:oJ ds G Q fun _ _=>False):yH (fun _ _=>False) (ends Q) (bM 5 ds) G:=by
 obtain⟨rows,rfl,hl,q⟩:=h
 unfold yH
 simp only [ends,bM,ax,bh,ak,ay,bF,aT,bg,eZ,cz,wH,i6,aQ,aC,az]
 intro d hd
 refine gZ (fun τ G'=>(∃ a b c,τ=[some (enc rows),some (.ref d),a,b,c])/\jV G G'/\G' d=some (.jn (bV (i0 (pairsOf rows))))) ?_ ?_
 ·intro N hN
  simp only [gN,iG,aw,ae]
  refine lF ?_
  refine je (xs:=rows) (fun pre τ G'=>(∃ a b c,τ=[some (enc rows),some (.ref d),a,b,c])/\jV G G'/\G' d=some (.jn (bV (i0 (pairsOf pre))))) ⟨⟨_,_,_,rfl⟩,.new hd,bz⟩ (fun _ _ _ _=>trivial) ?_ ?_
  ·rintro pre r post τ G' N2 e ⟨⟨a,b,c,rfl⟩,l,gd⟩ sA
   have hr:pre.flatten.length+r.length<=rows.flatten.length:=by
    rw [e]; simp only [hX,bG,au]; lia
   simp only [aQ,gN,Sz,aw,aC,az,af,ae,bA,C1,fS,jN,dC,fZ]
   refine MM (IsL.enc r) fun p1 h1=>?_
   refine MM (IsL.enc r) fun p2 h2=>?_
   have d1:d≠p1:=by rintro rfl; rw [gd] at h1; cases h1
   have l1:=l.trans (jV.new (o:=.lst (cut (r.map enc) (some 1) none)) h1)
   have d2:d≠p2:=by rintro rfl; rw [eY d1,gd] at h2; cases h2
   have h12:p1≠p2:=by rintro rfl; rw [bz] at h2; cases h2
   refine PL (IsL.ref (by rw [eY h12,bz])) (IsL.ref bz) ?_ fun p3 h3=>?_
   ·rw [vm,vm,aj,aj]
    have e1:(cut r (some 1) none).length<=r.length:=by unfold cut; rw [dj,cJ]; lia
    have e2:(cut r none (some 1)).length<=r.length:=by unfold cut; rw [dj,cJ]; lia
    exact LD (by lia)
   have d3:d≠p3:=by rintro rfl; rw [eY d2,eY d1,gd] at h3; cases h3
   have et:cut (r.map enc) (some 1) none++cut (r.map enc) none (some 1)=(gK r).map enc:=by
    rw [vm,vm,← aS]
    congr 1
    cases r with
    | nil=>rfl
    | cons x r=>rw [show (1:Int)=((1:Nat):Int) from rfl,Oj _ _ (by simp),S3 _ _ (by simp)]; rfl
   rw [et]
   generalize hG3:fN (fN (fN G' p1 (.lst (cut (r.map enc) (some 1) none))) p2 (.lst (cut (r.map enc) none (some 1)))) p3 (.lst ((gK r).map enc))=G3
   have g3:G3 p3=some (.lst ((gK r).map enc)):=by rw [← hG3,bz]
   have gd3:G3 d=some (.jn (bV (i0 (pairsOf pre)))):=by rw [← hG3,eY d3,eY d2,eY d1]; exact gd
   have l3:jV G G3:=by rw [← hG3]; exact(l1.trans (.new h2)).trans (.new h3)
   unfold zj
   rw [KQ,KP g3]
   dsimp only
   rw [DT]
   refine je (xs:=r.zip (gK r)) (fun pp τ G'=>(∃ a b c,τ=[some (enc rows),some (.ref d),a,b,c])/\jV G G'/\G' d=some (.jn (bV (i0 (pairsOf pre++pp))))/\G' p3=some (.lst ((gK r).map enc)))
    ⟨⟨_,_,_,rfl⟩,l3,by rw [bS]; exact gd3,g3⟩ (fun _ _ _ h=>⟨trivial,h.2.2.2⟩) ?_ ?_
   ·rintro pp x post τ G4 N3 e4 ⟨⟨a,b,c,rfl⟩,l4,gd4,gp4⟩ HV
    have hz:(pairsOf pre++pp).length<=1000:=by
     have:=pairs_len pre
     have h5:pp.length < (r.zip (gK r)).length:=by rw [e4]; simp
     rw [List.length_zip] at h5
     rw [au]; lia
    simp only [vg,g8,aQ,tM,cz,C1,aw,mh,aC,az,af,ae,fS,vh,oM,ak,ay,jN,dC,fZ,abt]
    refine⟨by decide,by decide,?_⟩
    refine nI (k:=x.1.s) (v:=x.2.s) gd4 (cv (Bc _) hz) ?_
    refine HV _ _ ⟨⟨_,_,_,rfl⟩,l4.put hd,?_,by rw [eY (fu d3)]; exact gp4⟩
    rw [bz,← cH,Ht]
   ·rintro τ G4 ⟨⟨a,b,c,rfl⟩,l4,gd4,gp4⟩
    refine sA _ _ ⟨⟨_,_,_,rfl⟩,l4,?_⟩
    have:pairsOf (pre++[r])=pairsOf pre++r.zip (gK r):=by unfold pairsOf; simp
    rw [this]; exact gd4
  ·rintro τ G' ⟨⟨a,b,c,rfl⟩,l,gd⟩
   exact hN _ _ ⟨⟨_,_,_,rfl⟩,l,gd⟩
 ·rintro _ G' ⟨⟨a,b,c,rfl⟩,l,gd⟩
  simp only [dO,h8,aw,af,ae]
  exact zr l hd gd q
noncomputable def lG(l:List (T2×T2)):List (T2×T2):=l.foldl (fun c p=>pq c ((pS l p.1).getD p.2) p.1) []
noncomputable def vn(l ps:List (T2×T2)):List (T2×T2):=ps.foldl (fun c p=>pq c ((pS l p.1).getD p.2) p.1) []
theorem OC{κ α:Type} [DecidableEq κ] [Enc κ] [DecidableEq α] [Enc α]{l:List (κ×α)}{p:κ×α}(h:p∈l):∃ v,pS l p.1=some v:=by
 unfold pS
 cases q:l.find? (fun x=>decide (x.1=p.1)) with
 | none=>rw [List.find?_eq_none] at q; exact absurd (by simp) (q p h)
 | some x=>exact⟨_,rfl⟩
noncomputable def lB:mz:=fun ds G Q _=>∃ rows:Rows,ds=[enc rows]/\rows.flatten.length<=500/\Q (.pC (bV (lG (i0 (pairsOf rows))))) G
noncomputable def uL:iz :=
 (da (cz (cg oJ (aA (aw 0) bC)) (aQ 1))
 (da (cz wH (aQ 2))
 (da (gN (E5 (aw 1)) (aQ 3) (cz (aw 3) (vh (aw 2) (bA lR (aw 1) (aw 3)))))
 (dO (h8 (aw 2))))))
theorem Fv(l ps:List (T2×T2)):(vn l ps).length<=ps.length:=by
 have:∀ (ps c:List (T2×T2)),(ps.foldl (fun c p=>pq c ((pS l p.1).getD p.2) p.1) c).length<=c.length+ps.length:=by
  intro ps
  induction ps with
  | nil=>intro c; simp
  | cons p ps ih =>
   intro c
   rw [dJ,ak]
   have h1:=ih (pq c ((pS l p.1).getD p.2) p.1)
   have h2:=FK c ((pS l p.1).getD p.2) p.1
   lia
 simpa [vn] using this ps []
theorem Dt(ds:List D)(G:Gp)(Q:DK)(h:lB ds G Q fun _ _=>False):uL (fun _ _=>False) (ends Q) (bM 4 ds) G:=by
 obtain⟨rows,rfl,hl,q⟩:=h
 unfold uL
 simp only [ends,bM,ax,bh,ak,ay,bF,aT,bg,eZ,cz,cg,aA,aw,ae,bC,aQ,aC,az,wH]
 refine⟨rows,rfl,hl,?_⟩
 simp only [i6]
 intro c hc
 have hn:(i0 (pairsOf rows)).length<=500:=cv (Bc _) (cv (pairs_len rows) hl)
 generalize hL:i0 (pairsOf rows)=L at *
 refine gZ (fun τ G'=>(∃ b,τ=[some (enc rows),some (.pC (bV L)),some (.ref c),b])/\jV G G'/\G' c=some (.jn (bV (vn L L)))) ?_ ?_
 ·intro N hN
  simp only [gN,E5,aw,af,ae,x8]
  have ek:(bV L).map (·.1)=L.map fun p=>enc p.1:=by unfold bV; rw [cc]; rfl
  rw [ek]
  refine je (xs:=L) (fun pre τ G'=>(∃ b,τ=[some (enc rows),some (.pC (bV L)),some (.ref c),b])/\jV G G'/\G' c=some (.jn (bV (vn L pre)))) ⟨⟨_,rfl⟩,.new hc,bz⟩ (fun _ _ _ _=>trivial) ?_ ?_
  ·rintro pre x post τ G' N2 e ⟨⟨b,rfl⟩,l,gc⟩ sA
   have hx:x∈L:=by rw [e]; simp
   obtain⟨v,hv⟩:=OC hx
   have HN:pre.length<=500:=by have:=congrArg dg e; simp at this; lia
   simp only [aQ,cz,aw,aC,az,af,ae,vh,bA,rR,lV,hv,Dv]
   refine⟨iq _ _,?_⟩
   refine nI (k:=v) (v:=x.1) gc (cv (Fv _ _) (by lia)) ?_
   refine sA _ _ ⟨⟨_,rfl⟩,l.put hc,?_⟩
   rw [bz]
   unfold vn
   rw [rN,dJ,List.foldl_nil,hv]
   rfl
  ·rintro τ G' ⟨⟨b,rfl⟩,l,gc⟩
   exact hN _ _ ⟨⟨_,rfl⟩,l,gc⟩
 ·rintro _ G' ⟨⟨b,rfl⟩,l,gc⟩
  simp only [dO,h8,aw,af,ae]
  exact zr l hc gc q
end P
end K2
end
section
namespace K2
open PySem (Str)
open Enc (enc)
class inductive Cn {α:Type} (ps:List (α×α)):α->α->Prop
 | refl (x:α):Cn ps x x
 | pair {x y:α}:(x,y)∈ps->Cn ps x y
 | symm {x y:α}:Cn ps x y->Cn ps y x
 | trans {x y z:α}:Cn ps x y->Cn ps y z->Cn ps x z
theorem Jh{α:Type} [DecidableEq α] [Enc α]{neg:Bool}{x y:α}{G:Gp}{Q:DK}(hd:Enc.dep α<=8)(q:Q (.bl (if neg then !decide (x=y) else decide (x=y))) G):xX neg (enc x) (enc y) G Q:=by
 refine⟨enc x,enc y,Enc.sn _ _ _ hd,Enc.sn _ _ _ hd,?_⟩
 rw [Enc.eqv]; exact q
class IE (α:Type) [DecidableEq α] [Enc α] [bY α] where
 mn:∀ {x:D} {G:Gp} {xs:List α} {Q:DK},itemsOf x G=some (xs.map enc)->xs≠[]->(∀ m∈xs,(∀ y∈xs,AB m y=true)->Q (enc m) G)->abM [x] G Q
theorem o7{α:Type} [DecidableEq α] [Enc α] [bY α]:∀ (r:List α) (a:α),r.foldl (fun m x=>if bY.lt x m=true then x else m) a∈a :: r/\∀ y∈a :: r,AB (r.foldl (fun m x=>if bY.lt x m=true then x else m) a) y=true
 | [],a=>⟨by simp,fun y hy=>by rw [List.mem_singleton.mp hy]; unfold AB; rw [List.foldl_nil,bY.OV]; rfl⟩
 | b :: r,a=>by
  rw [dJ]
  by_cases c:bY.lt b a=true
  ·rw [if_pos c]
   obtain⟨h1,h2⟩:=o7 r b
   refine⟨av _ h1,fun y hy=>?_⟩
   rcases List.mem_cons.mp hy with rfl | hy
   ·refine wd _ _ _ (h2 b (by simp)) ?_
    unfold AB
    cases q:bY.lt y b with
    | false=>rfl
    | true=>have:=bY.trans _ _ _ q c; rw [bY.OV] at this; cases this
   ·exact h2 y hy
  ·rw [if_neg c]
   obtain⟨h1,h2⟩:=o7 r a
   refine⟨?_,fun y hy=>?_⟩
   ·rcases List.mem_cons.mp h1 with h | h
    ·rw [h]; simp
    ·exact av _ (av _ h)
   ·rcases List.mem_cons.mp hy with rfl | hy
    ·exact h2 y (by simp)
    ·rcases List.mem_cons.mp hy with rfl | hy
     ·refine wd _ _ _ (h2 a (by simp)) ?_
      unfold AB; simpa using c
     ·exact h2 y (av _ hy)
noncomputable instance:IE Int where
 mn:=by
  intro x G xs Q hi my k
  cases xs with
  | nil=>exact absurd rfl my
  | cons a r =>
   obtain⟨h1,h2⟩:=o7 r a
   refine .inl ⟨a :: r,_,hi,rfl,?_⟩
   have:(fun (m x:Int)=>if x < m then x else m)=fun m x=>if bY.lt x m=true then x else m:=by
    funext m x
    show (if x < m then x else m)=if decide (x < m)=true then x else m
    simp
   show Q (enc (r.foldl (fun m x=>if x < m then x else m) a)) G
   rw [this]
   exact k _ h1 h2
theorem y9:∀ (x y:List Int),uZ (fun a b=>decide (a < b)) x y=lexLt x y
 | [],[]=>rfl
 | [],_ :: _=>rfl
 | _ :: _,[]=>rfl
 | a :: x,b :: y=>by simp only [za,lexLt,y9 x y]
noncomputable instance:IE T3 where
 mn:=by
  intro x G xs Q hi my k
  cases xs with
  | nil=>exact absurd rfl my
  | cons a r =>
   obtain⟨h1,h2⟩:=o7 r a
   have ei:itemsOf x G=some (((a :: r).map T3.l).map tI):=by rw [hi,cc]; rfl
   refine .inr ⟨(a :: r).map T3.l,_,ei,rfl,?_⟩
   have:∀ (r:List T3) (a:T3),(r.map T3.l).foldl (fun m x=>if lexLt x m=true then x else m) a.l=(r.foldl (fun m x=>if bY.lt x m=true then x else m) a).l:=by
    intro r
    induction r with
    | nil=>intro a; rfl
    | cons b r ih =>
     intro a
     rw [ax,dJ,dJ]
     have e:(if lexLt b.l a.l=true then b.l else a.l)=(if bY.lt b a=true then b else a).l:=by
      have:bY.lt b a=lexLt b.l a.l:=y9 _ _
      rw [this]
      split <;> rfl
     rw [e]; exact ih _
   rw [this r a]
   exact k _ h1 h2
namespace P
section
variable {α:Type} [DecidableEq α] [Enc α] [bY α] [tZ α] [IE α]
structure GI(ms:List α)(ps:List (α×α))(l:List (α×List α)):Prop where
 len:l.length<=64
 at':∀ m∈ms,∃ g,pS l m=some g/\g.Nodup/\∀ x,x∈g↔Cn ps m x
end
end P
end K2
end
section
namespace K2
open PySem (Str)
open Enc (enc)
namespace P
theorem vt{κ β:Type} [DecidableEq κ]{l:List (κ×β)}{k:κ}{v:β}(h:k∉l.map (·.1)):pq l k v=l++[(k,v)]:=by
 unfold pq
 rw [if_neg]
 intro q
 obtain⟨p,h1,h2⟩:=List.any_eq_true.mp q
 exact h (List.mem_map.mpr ⟨p,h1,by simpa using h2⟩)
theorem zu{κ β γ:Type} [DecidableEq κ](kf:γ->κ)(vf:γ->β):∀ (ps:List γ) (l:List (κ×β)),(l.map (·.1)++ps.map kf).Nodup->ps.foldl (fun l p=>pq l (kf p) (vf p)) l=l++ps.map fun p=>(kf p,vf p)
 | [],l,_=>by simp
 | p :: ps,l,h=>by
  rw [dJ,vt (fun z=>by
   rw [ax,cw] at h
   exact h.2.2 _ z _ (by simp) rfl),zu kf vf ps _ (by simpa using h)]
  simp
theorem ju{κ β:Type} [DecidableEq κ]:∀ {l:List (κ×β)} {p:κ×β},(l.map (·.1)).Nodup->p∈l->pS l p.1=some p.2
 | q :: l,p,hn,h=>by
  unfold pS
  rw [fU]
  rcases List.mem_cons.mp h with rfl | h
  ·simp
  ·rw [ax,dZ] at hn
   have:q.1≠p.1:=fun z=>hn.1 (by rw [z]; exact cV h)
   simp only [this,decide_false]
   exact ju hn.2 h
theorem wX(r:List T3):(gK r).length=r.length:=by unfold gK; rw [au,cJ,dj]; lia
theorem BZ(r:List T3):(gK r).Perm r:=by
 unfold gK
 exact List.perm_append_comm.trans (by rw [fh])
theorem Ba(rows:Rows):(pairsOf rows).map (·.1)=rows.flatten:=by
 unfold pairsOf
 induction rows with
 | nil=>rfl
 | cons r rs ih =>
  rw [lH,aS,ih,bG]
  congr 1
  rw [List.map_fst_zip]; rw [wX]; exact aF _
theorem A9(rows:Rows):((pairsOf rows).map (·.2)).Perm rows.flatten:=by
 unfold pairsOf
 induction rows with
 | nil=>exact .refl _
 | cons r rs ih =>
  rw [lH,aS,bG]
  refine List.Perm.append ?_ ih
  rw [List.map_snd_zip]
  ·exact BZ r
  ·rw [wX]; exact aF _
variable {rows:Rows}
theorem N4(d:Dr rows):((pairsOf rows).map fun p=>p.1.s).Nodup:=by
 have:((pairsOf rows).map fun p=>p.1.s)=rows.flatten.map T3.s:=by rw [← Ba,cc]; rfl
 rw [this]; exact d.nd
theorem Mx(d:Dr rows):((pairsOf rows).map fun p=>p.2.s).Nodup:=by
 have:((pairsOf rows).map fun p=>p.2.s)=((pairsOf rows).map (·.2)).map T3.s:=by rw [cc]; rfl
 rw [this,((A9 rows).map T3.s).nodup_iff]; exact d.nd
theorem M8(d:Dr rows):i0 (pairsOf rows)=(pairsOf rows).map fun p=>(p.1.s,p.2.s):=by
 unfold i0
 rw [zu (fun p:T3×T3=>p.1.s) (fun p=>p.2.s) _ _ (by simpa using N4 d)]; rfl
theorem Im(d:Dr rows):lG (i0 (pairsOf rows))=(pairsOf rows).map fun p=>(p.2.s,p.1.s):=by
 rw [M8 d]
 generalize hL:((pairsOf rows).map fun p=>(p.1.s,p.2.s))=L
 have hk:(L.map (·.1)).Nodup:=by rw [← hL,cc]; exact N4 d
 have hv:(L.map (·.2)).Nodup:=by rw [← hL,cc]; exact Mx d
 have e:lG L=L.foldl (fun c p=>pq c p.2 p.1) []:=by
  unfold lG
  have:∀ (ps:List (T2×T2)) (c:List (T2×T2)),(∀ p∈ps,p∈L)->ps.foldl (fun c p=>pq c ((pS L p.1).getD p.2) p.1) c=ps.foldl (fun c p=>pq c p.2 p.1) c:=by
   intro ps
   induction ps with
   | nil=>intro c _; rfl
   | cons p ps ih =>
    intro c h
    rw [dJ,dJ,ju hk (h p (by simp))]
    exact ih _ fun q hq=>h q (av _ hq)
  exact this L [] fun p h=>h
 rw [e,zu (fun p:T2×T2=>p.2) (fun p=>p.1) _ _ (by simpa using hv),← hL]
 simp [cc,Function.comp_def]
noncomputable def O3(rows:Rows)(s:T2):T2:=(pS ((pairsOf rows).map fun p=>(p.2.s,p.1.s)) s).getD s
theorem Ol(d:Dr rows){p q:T3}(h:(p,q)∈pairsOf rows):pS ((pairsOf rows).map fun p=>(p.2.s,p.1.s)) q.s=some p.s/\O3 rows q.s=p.s:=by
 have:=ju (l:=(pairsOf rows).map fun p=>(p.2.s,p.1.s)) (p:=(q.s,p.s)) (by rw [cc]; exact Mx d) (List.mem_map.mpr ⟨_,h,rfl⟩)
 refine⟨this,?_⟩
 unfold O3; rw [this]; rfl
theorem NU{q:T3}(h:q∈rows.flatten):∃ p,(p,q)∈pairsOf rows/\p∈rows.flatten:=by
 rw [← (A9 rows).mem_iff] at h
 obtain⟨x,hx,rfl⟩:=List.mem_map.mp h
 exact⟨x.1,hx,by rw [← Ba]; exact cV hx⟩
theorem no2(d:Dr rows){p:T3}(h:p∈rows.flatten):p.s.b≠2:=by
 have:=d.way p h
 show p.b≠2
 lia
theorem Be{n:Int}:n∈names rows↔∃ p∈rows.flatten,p.b=0/\p.a=n:=by
 unfold names
 rw [IV,List.mem_map]
 constructor
 ·rintro⟨p,h,rfl⟩
  obtain⟨h1,h2⟩:=List.mem_filter.mp h
  exact⟨p,h1,by simpa using h2,rfl⟩
 ·rintro⟨p,h1,h2,rfl⟩
  exact⟨p,List.mem_filter.mpr ⟨h1,by simpa using h2⟩,rfl⟩
end P
end K2
end
section
namespace K2
open PySem (Str)
open Enc (enc)
namespace P
variable {rows:Rows}
theorem GZ(rows:Rows):(iN rows 0).length<=rows.flatten.length+rows.length:=by
 have:∀ (rs:Rows) (k:Nat),(iN rs k).length<=rs.flatten.length+rs.length:=by
  intro rs
  induction rs with
  | nil=>intro k; simp [iN]
  | cons r rs ih =>
   intro k
   have:=ih (k+1)
   rw [iN,au,bG,au,ak]
   have:(bI r (k:Int)).length<=r.length+1:=by
    unfold bI; split <;> simp
   lia
 exact this rows 0
theorem vP(d:Dr rows):(iN rows 0).Nodup:=by
 have:∀ (rs:Rows) (k:Nat),(rs.flatten.map T3.s).Nodup->(∀ p∈rs.flatten,p.s.b≠2)->(iN rs k).Nodup/\∀ s∈iN rs k,(s.b=2/\(k:Int)<=s.a)\/(s.b≠2/\s∈rs.flatten.map T3.s):=by
  intro rs
  induction rs with
  | nil=>intro k _ _; exact⟨du,fun s h=>by cases h⟩
  | cons r rs ih =>
   intro k hn hb
   rw [bG,aS,cw] at hn
   obtain⟨n1,n2,n3⟩:=hn
   obtain⟨i1,i2⟩:=ih (k+1) n2 fun p hp=>hb p (by rw [bG]; exact bR _ hp)
   have on:(bI r (k:Int)).Nodup/\∀ s∈bI r (k:Int),(s=⟨(k:Int),2⟩)\/(s.b≠2/\s∈r.map T3.s):=by
    unfold bI
    split
    ·exact⟨by simp,fun s h=>.inl (List.mem_singleton.mp h)⟩
    ·refine⟨n1,fun s h=>.inr ⟨?_,h⟩⟩
     obtain⟨p,hp,rfl⟩:=List.mem_map.mp h
     exact hb p (by rw [bG]; exact fF _ hp)
   rw [iN]
   refine⟨?_,?_⟩
   ·rw [cw]
    refine⟨on.1,i1,fun a ha b K5 e=>?_⟩
    subst e
    rcases on.2 a ha with rfl | ⟨h1,h2⟩ <;> rcases i2 _ K5 with ⟨h3,h4⟩ | ⟨h3,h4⟩
    ·dsimp only at h4; lia
    ·exact h3 rfl
    ·exact h1 h3
    ·exact n3 _ h2 _ h4 rfl
   ·intro s hs
    rcases List.mem_append.mp hs with h | h
    ·rcases on.2 s h with rfl | ⟨h1,h2⟩
     ·exact .inl ⟨rfl,GH _⟩
     ·exact .inr ⟨h1,by rw [bG,aS]; exact fF _ h2⟩
    ·rcases i2 s h with ⟨h1,h2⟩ | ⟨h1,h2⟩
     ·exact .inl ⟨h1,by lia⟩
     ·exact .inr ⟨h1,by rw [bG,aS]; exact bR _ h2⟩
 exact(this rows 0 d.nd fun p hp=>no2 d hp).1
end P
end K2
end
section
namespace K2
open PySem (Str)
open Enc (enc)
namespace Gq
open K2.P
noncomputable def w9:iz :=
 (da (nu (iH (bA XD (aw 1) (sE rF (aA (aw 0) bC)))) (dO (h8 (bA lR (aw 0) (aw 1)))) fv)
 (dO (h8 (dC (.int 0)))))
noncomputable def kG(ns:List Int)(k:Int):Int:=ns.getD k.toNat 0
noncomputable def cZ:mz:=fun ds G Q _=>∃ (ns:List Int) (k:Int),ds=[.d0 (ns.map D.int),.int k]/\0<=k/\Q (.int (kG ns k)) G
theorem FR(ds:List D)(G:Gp)(Q:DK)(h:cZ ds G Q fun _ _=>False):w9 (fun _ _=>False) (ends Q) (bM 2 ds) G:=by
 obtain⟨ns,k,rfl,h0,q⟩:=h
 unfold w9
 simp only [da,nu,bM,ax,bh,ak,ay,aT,bg,dO,h8,bA,aw,ae,af,ends,uM,fv,dC,fb,sE,aA,bC,zO,Cf,cm]
 split
 ·rename_i h
  have h1:k < (ns.map D.int).length:=by simpa using h
  rw [mY _ h0 h1]
  simp only [gq]
  rw [aj] at h1
  have e:kG ns k=ns[k.toNat]:=by unfold kG; rw [aL,ah (by lia)]; rfl
  rw [← e]; exact mV q
 ·rename_i h
  have h1:¬ k < (ns.map D.int).length:=by simpa using h
  rw [aj] at h1
  have e:kG ns k=0:=by unfold kG; rw [aL,i9 (by lia)]; rfl
  rw [← e]; exact mV q
noncomputable def w8:iz :=
 (dO (h8 (bA lD (bA lD (bA xC (aw 0) (dC (.int 48271))) (aw 1)) (aw 2))))
noncomputable def part(c p m:Int):Int:=c * 48271 % p % m
noncomputable def eQ:mz:=fun ds G Q _=>∃ c p m:Int,ds=[.int c,.int p,.int m]/\(0 < p/\0 < m)/\Q (.int (part c p m)) G
theorem FP(ds:List D)(G:Gp)(Q:DK)(h:eQ ds G Q fun _ _=>False):w8 (fun _ _=>False) (ends Q) (bM 3 ds) G:=by
 obtain⟨c,p,m,rfl,⟨hp,hm⟩,q⟩:=h
 unfold w8
 simp only [dO,h8,bA,aw,bM,ax,bh,ak,ay,aT,bg,ae,dC,af,ends,lQ,iY]
 exact⟨.inr ⟨by decide,by decide⟩,hp,hm,mV q⟩
theorem xZ(c p:Int){m:Int}(h:0 < m):0<=part c p m:=jg _ (by lia)
theorem x2(c p:Int){m:Int}(h:0 < m):part c p m < m:=gB _ h
structure HR(G G':Gp)(p0:Nat)(as:List Nat)(rs:Rows):Prop where
 le:jV G G'
 fp:G p0=none
 gp:G' p0=some (.lst (as.map D.ref))
 np:p0∉as
 nd:as.Nodup
 fr:∀ a∈as,G a=none
 len:as.length=rs.length
 at':∀ (i a:Nat) (r:List T3),as[i]?=some a->rs[i]?=some r->G' a=some (.lst (r.map enc))
theorem HR.put{G G':Gp}{p0:Nat}{as:List Nat}{rs:Rows}(h:HR G G' p0 as rs){j a:Nat}{r':List T3}(ha:as[j]?=some a):HR G (fN G' a (.lst (r'.map enc))) p0 as (rs.set j r'):=by
 have hm:a∈as:=dS ha
 have hj:j < as.length:=(List.getElem?_eq_some_iff.mp ha).1
 refine⟨h.le.put (h.fr a hm),h.fp,?_,h.np,h.nd,h.fr,by rw [fj]; exact h.len,fun i b r hb hr=>?_⟩
 ·rw [eY (by rintro rfl; exact h.np hm)]; exact h.gp
 ·by_cases e:i=j
  ·subst e
   rw [ha] at hb; cases hb
   rw [eV (by have:=h.len; lia)] at hr
   cases hr
   exact bz
  ·have:b≠a:=by
    rintro rfl
    have h1:=List.getElem?_eq_some_iff.mp hb
    have h2:=List.getElem?_eq_some_iff.mp ha
    have pw:=List.pairwise_iff_getElem.mp h.nd
    rcases Nat.lt_trichotomy i j with lt | eq | gt
    ·exact pw i j h1.1 h2.1 lt (h1.2.trans h2.2.symm)
    ·exact e eq
    ·exact pw j i h2.1 h1.1 gt (h2.2.trans h1.2.symm)
   rw [eY this]
   rw [eG (fun z=>e z.symm)] at hr
   exact h.at' i b r hb hr
theorem HR.fz{G G':Gp}{p0:Nat}{as:List Nat}{rs:Rows}(h:HR G G' p0 as rs){Q:DK}(q:Q (enc rs) G):QL G' (.ref p0) Q:=by
 refine HW h.le h.fp h.gp (ss:=rs.map enc) ?_ q
 have:∀ (as:List Nat) (rs:Rows),as.length=rs.length->(∀ a∈as,G a=none)->(∀ (i a:Nat) (r:List T3),as[i]?=some a->rs[i]?=some r->G' a=some (.lst (r.map enc)))->J2 G' (fun a=>(G a).isNone) (as.map D.ref) (rs.map enc):=by
  intro as
  induction as with
  | nil=>intro rs hl _ _; cases rs with
   | nil=>exact .nil
   | cons _ _=>cases hl
  | cons a as ih =>
   intro rs hl hf Qp
   cases rs with
   | nil=>cases hl
   | cons r rs =>
    refine .cons (.ref (Qp 0 a r rfl rfl) (by simp [hf a (by simp)]) (J2.same _)) ?_
    exact ih rs (by simpa using hl) (fun b hb=>hf b (av _ hb)) fun i b s h1 h2=>Qp (i+1) b s h1 h2
 exact this as rs h.len h.fr h.at'
theorem D5{x:T3}{r r':List T3}(hr:r'.Perm (x :: r)):∀ (rs:Rows) (j:Nat),rs[j]?=some r->(rs.set j r').flatten.Perm (x :: rs.flatten)
 | [],j,h=>by cases h
 | s :: rs,0,h=>by
  cases h
  rw [az,bG,bG]
  exact hr.append_right _
 | s :: rs,j+1,h=>by
  rw [aC,bG,bG]
  exact((D5 hr rs j h).append_left s).trans List.perm_middle
structure MI(st:Int)(n:Nat)(name:Int)(L:List T3):Prop where
 off:∃ off:Int,0<=off/\off<=83 * n/\name=(st+off) % 999/\∀ p∈L,∃ o:Int,0 < o/\o<=off/\p.a=(st+o) % 999+1
 nd:(L.map T3.s).Nodup
 way:∀ p∈L,p.b=0\/p.b=1
 hand:∀ p∈L,p.c=1\/p.c=-1
 KJ:∀ p∈L,(⟨p.a,1 - p.b,p.c⟩:T3)∈L
 len:L.length=2 * n
theorem MI.perm{st:Int}{n:Nat}{name:Int}{L L':List T3}(h:MI st n name L)(p:L'.Perm L):MI st n name L':=by
 obtain⟨off,h1,h2,h3,h4⟩:=h.off
 exact⟨⟨off,h1,h2,h3,fun x hx=>h4 x (p.mem_iff.mp hx)⟩,(p.map _).nodup_iff.mpr h.nd,fun x hx=>h.way x (p.mem_iff.mp hx),fun x hx=>h.hand x (p.mem_iff.mp hx),
  fun x hx=>p.mem_iff.mpr (h.KJ x (p.mem_iff.mp hx)),by rw [p.length_eq]; exact h.len⟩
theorem MI.more{st:Int}{n:Nat}{name:Int}{L:List T3}(h:MI st n name L)(hn:n < 12)(c:Int) :
  MI st (n+1) ((name+1+part c 1009 83) % 999) (⟨(name+1+part c 1009 83) % 999+1,1,1 - 2 * part c 1013 2⟩ :: ⟨(name+1+part c 1009 83) % 999+1,0,1 - 2 * part c 1013 2⟩ :: L):=by
 obtain⟨off,h1,h2,h3,h4⟩:=h.off
 have p1:=xZ c 1009 (m:=83) (by lia)
 have p2:=x2 c 1009 (m:=83) (by lia)
 have p3:=xZ c 1013 (m:=2) (by lia)
 have p4:=x2 c 1013 (m:=2) (by lia)
 generalize part c 1009 83=a at *
 generalize part c 1013 2=b at *
 have en:(name+1+a) % 999=(st+(off+1+a)) % 999:=by rw [h3]; lia
 have new:∀ p∈L,p.a≠(name+1+a) % 999+1:=by
  intro p hp e
  obtain⟨o,o1,o2,o3⟩:=h4 p hp
  rw [o3,en] at e
  lia
 have nin:∀ w:Int,(⟨(name+1+a) % 999+1,w⟩:T2)∉L.map T3.s:=by
  intro w hw
  obtain⟨p,hp,e⟩:=List.mem_map.mp hw
  exact new p hp (by have:=congrArg T2.a e; exact this)
 refine⟨⟨off+1+a,by lia,by lia,en,?_⟩,?_,?_,?_,?_,by rw [ak,ak,h.len]; lia⟩
 ·intro p hp
  rcases List.mem_cons.mp hp with rfl | hp
  ·exact⟨off+1+a,by lia,by lia,by dsimp only; rw [en]⟩
  ·rcases List.mem_cons.mp hp with rfl | hp
   ·exact⟨off+1+a,by lia,by lia,by dsimp only; rw [en]⟩
   ·obtain⟨o,o1,o2,o3⟩:=h4 p hp
    exact⟨o,o1,by lia,o3⟩
 ·rw [ax,ax,dZ,dZ]
  refine⟨fun z=>?_,nin 0,h.nd⟩
  rcases List.mem_cons.mp z with z | z
  ·have:=congrArg T2.b z; exact absurd this (by show ¬ (1:Int)=0; decide)
  ·exact nin 1 z
 ·intro p hp
  rcases List.mem_cons.mp hp with rfl | hp
  ·exact .inr rfl
  ·rcases List.mem_cons.mp hp with rfl | hp
   ·exact .inl rfl
   ·exact h.way p hp
 ·intro p hp
  rcases List.mem_cons.mp hp with rfl | hp
  ·dsimp only; lia
  ·rcases List.mem_cons.mp hp with rfl | hp
   ·dsimp only; lia
   ·exact h.hand p hp
 ·intro p hp
  rcases List.mem_cons.mp hp with rfl | hp
  ·exact av _ (aE ..)
  ·rcases List.mem_cons.mp hp with rfl | hp
   ·exact aE ..
   ·exact av _ (av _ (h.KJ p hp))
noncomputable def jq:iz :=
 (da (cz (gS 1 [] (mU (aw 1)) (aQ 0) none (rE bC)) (aQ 3))
 (da (cz (aw 2) (aQ 4))
 (da (gN (tL (aw 0)) (aQ 5) (da (cz (bA lD (bA mF (bA mF (aw 4) (dC (.int 1))) (cg eQ (aA (aw 5) (aA (dC (.int 1009)) (aA (dC (.int 83)) bC))))) (dC (.int 999))) (aQ 4))
 (da (cz (bA xB (dC (.int 1)) (bA xC (dC (.int 2)) (cg eQ (aA (aw 5) (aA (dC (.int 1013)) (aA (dC (.int 2)) bC)))))) (aQ 6))
 (gN (mU (dC (.int 2))) (aQ 7) (da (cz (bA lR (aw 3) (cg eQ (aA (aw 5) (aA (bA mF (dC (.int 1019)) (bA xC (dC (.int 2)) (aw 7))) (aA (aw 1) bC))))) (aQ 8))
 (iK (By AW uT (aw 8) (aA (cg eQ (aA (aw 5) (aA (bA mF (dC (.int 1031)) (bA xC (dC (.int 2)) (aw 7))) (aA (bA mF (sE rF (aA (aw 8) bC)) (dC (.int 1))) bC)))) (aA (i5 (aA (bA mF (aw 4) (dC (.int 1))) (aA (aw 7) (aA (aw 6) bC)))) bC)))))))))
 (dO (h8 (aw 3))))))
noncomputable def uw:mz:=fun ds G Q _=>∃ (d:D) (cs:List Int) (k st:Int),ds=[d,.int k,.int st]/\IsL G d (cs.map D.int)/\(cs.length<=12/\1<=k/\k<=3/\0<=st/\st < 999)/\∀ rows:Rows,Dr rows->rows≠[]->(∀ p∈rows.flatten,1<=p.a/\p.a<=999)->Q (enc rows) G
theorem Qi{G G2:Gp}{d:D}{ds:List D}{R:List D->(Gp->Prop)->Gp->Prop}(h:IsL G d ds)(l:jV G G2)(k:∀ ok:Gp->Prop,(∀ G',jV G G'->ok G')->R ds ok G2):Q0 d G2 R:=by
 rcases h with rfl | ⟨a,rfl,e⟩
 ·exact k _ fun _ _=>trivial
 ·rw [Qj (l a _ e)]; exact k _ fun G' l=>l a _ e
theorem EN{r:List T3}:∀ {rs:Rows},r∈rs->r.length<=rs.flatten.length
 | a :: rs,h=>by
  rw [bG,au]
  rcases List.mem_cons.mp h with rfl | h
  ·lia
  ·have:=EN h; lia
theorem Mn(x:T3)(r:List T3)(i:Nat):(r.take i++x :: r.drop i).Perm (x :: r):=by
 refine List.perm_middle.trans (.cons _ ?_)
 rw [fh]
theorem Dl(ds:List D)(G:Gp)(Q:DK)(h:uw ds G Q fun _ _=>False):jq (fun _ _=>False) (ends Q) (bM 9 ds) G:=by
 obtain⟨d,cs,k,st,rfl,hd,⟨hc,hk1,hk3,NG,hs9⟩,q⟩:=h
 unfold jq
 simp only [ends,bM,ax,bh,ak,ay,bF,aT,bg,eZ,cz,gS,aQ,aC,az,aw,af,ae,gQ,fM]
 refine⟨by lia,by lia,LD (by unfold fq; rw [aj,gU]; lia),?_⟩
 unfold fq
 refine mr (xs:=cG k.toNat) (fun pre acc τ G'=>(∃ a,τ=[a])/\∃ as:List Nat,acc=as.map D.ref/\as.length=pre.length/\as.Nodup/\(∀ a∈as,G a=none/\G' a=some (.lst []))/\jV G G') ⟨⟨_,rfl⟩,[],rfl,rfl,du,(fun a h=>by cases h),.refl G⟩ (fun _ _ _ _ _=>trivial) ?_ ?_
 ·rintro pre x post acc τ G' N e ⟨⟨a,rfl⟩,as,rfl,hl,hn,ha,le⟩ hN
  simp only [aQ,rE,bC,ay,az]
  refine⟨by decide,fun p hp=>?_⟩
  refine hN _ _ _ ⟨⟨_,rfl⟩,as++[p],by simp,by simp [hl],?_,?_,le.trans (.new hp)⟩
  ·rw [cw]
   refine⟨hn,by simp,fun a h b hb e=>?_⟩
   rw [kL] at hb
   subst hb e
   rw [(ha a h).2] at hp; cases hp
  ·intro a h0
   rcases List.mem_append.mp h0 with h | h
   ·refine⟨(ha a h).1,?_⟩
    rw [eY (fun z=>by rw [← z,(ha a h).2] at hp; cases hp)]
    exact(ha a h).2
   ·rw [kL] at h
    subst h
    exact⟨le.free hp,bz⟩
 rintro acc τ G1 ⟨⟨a,rfl⟩,as,rfl,hl,hn,ha,le⟩ p0 zq
 rw [gU] at hl
 have hr0:HR G (fN G1 p0 (.lst (as.map D.ref))) p0 as (bF as.length []):=by
  refine⟨le.trans (.new zq),le.free zq,bz,fun z=>?_,hn,fun a h=>(ha a h).1,by simp,fun i b r hb hr=>?_⟩
  ·rw [(ha p0 z).2] at zq; cases zq
  ·have K5:=dS hb
   have:r=[]:=by
    have:=dS hr
    exact J8 this
   subst this
   rw [eY (by rintro rfl; rw [(ha b K5).2] at zq; cases zq)]
   exact(ha b K5).2
 have mi0:MI st 0 st (bF as.length ([]:List T3)).flatten:=by
  have:(bF as.length ([]:List T3)).flatten=[]:=by simp
  rw [this]
  exact⟨⟨0,by lia,by lia,by lia,fun p h=>by cases h⟩,du,(fun p h=>by cases h),(fun p h=>by cases h),(fun p h=>by cases h),rfl⟩
 generalize fN G1 p0 (.lst (as.map D.ref))=G2 at *
 refine gZ (fun τ G'=>(∃ a b c e f,τ=[some d,some (.int k),some (.int st),some (.ref p0),a,b,c,e,f])/\∃ rs,HR G G' p0 as rs/\∃ name,MI st cs.length name rs.flatten) ?_ ?_
 ·intro N hN
  simp only [gN,iG,aw,ae]
  refine Qi hd hr0.le fun ok cM=>?_
  refine je (xs:=cs) (fun pre τ G'=>∃ name rs,(∃ b c e f,τ=[some d,some (.int k),some (.int st),some (.ref p0),some (.int name),b,c,e,f])/\HR G G' p0 as rs/\MI st pre.length name rs.flatten) ⟨st,_,⟨_,_,_,_,rfl⟩,hr0,mi0⟩ (fun _ _ _ h=>by obtain⟨_,_,_,h,_⟩:=h; exact cM _ h.le) ?_ ?_
  ·rintro pre c post τ G' N2 e ⟨name,rs,⟨b1,b2,b3,b4,rfl⟩,hr,mi⟩ sA
   have HN:pre.length < 12:=by have:=congrArg dg e; simp at this; lia
   simp only [aQ,aC,az,eZ,cz,bA,aw,af,ae,dC,cg,aA,bC,kz]
   refine⟨c,1009,83,rfl,⟨by lia,by lia⟩,?_⟩
   simp only [kz,iY]
   refine⟨by lia,c,1013,2,rfl,⟨by lia,by lia⟩,?_⟩
   simp only [lQ,ky]
   refine⟨.inl ⟨by decide,by decide⟩,?_⟩
   have more:=mi.more HN c
   generalize (name+1+part c 1009 83) % 999=nm at *
   generalize 1 - 2 * part c 1013 2=hh at *
   simp only [gN]
   simp only [gQ,dC,fM]
   refine⟨by decide,by decide,?_⟩
   unfold fq
   refine je (xs:=cG (2:Int).toNat) (fun pw τ G'=>∃ PB,(∃ e f,τ=[some d,some (.int k),some (.int st),some (.ref p0),some (.int nm),some (.int c),some (.int hh),e,f])/\HR G G' p0 as PB/\PB.flatten.Perm ((pw.map fun (i:Nat)=>(⟨nm+1,0+(i:Int),hh⟩:T3)).reverse++rs.flatten)) ⟨rs,⟨_,_,rfl⟩,hr,.refl _⟩ (fun _ _ _ _=>trivial) ?_ ?_
   ·rintro pw w ac7 τ G3 N3 e3 ⟨PB,⟨f1,f2,rfl⟩,SD,Q4⟩ HV
    have hw:w < 2:=List.mem_range.mp (show w∈cG 2 by show w∈cG (2:Int).toNat; rw [e3]; simp)
    simp only [aQ,aC,az,eZ,cz,bA,aw,af,ae,cg,aA,dC,bC,iK,By,sE,i5,ak,ay,kz,lQ]
    refine⟨.inl ⟨by decide,by decide⟩,c,1019+2 * (0+(w:Int)),k,rfl,⟨by lia,by lia⟩,?_⟩
    have j1:=xZ c (1019+2 * (0+(w:Int))) (m:=k) (by lia)
    have j2:=x2 c (1019+2 * (0+(w:Int))) (m:=k) (by lia)
    generalize part c (1019+2 * (0+(w:Int))) k=j at *
    have hj:j.toNat < as.length:=by lia
    have ea:as[j.toNat]?=some as[j.toNat]:=ah hj
    have er:PB[j.toNat]?=some (PB[j.toNat]'(by have:=SD.len; lia)):=ah _
    generalize as[j.toNat]=a at *
    generalize (PB[j.toNat]'(by have:=SD.len; lia))=r at *
    have ga:=SD.at' _ _ _ ea er
    refine jH (x:=.ref a) (IsL.ref SD.gp) (by
     rw [mY _ j1 (by rw [aj]; lia)]
     rw [gq]
     have:=List.getElem?_eq_some_iff.mp ea
     rw [this.2]) ?_
    simp only [rP,ga,Ot,kz,true_and]
    refine⟨.inl ⟨by decide,by decide⟩,c,1031+2 * (0+(w:Int)),_,rfl,⟨by lia,by lia⟩,?_⟩
    rw [aj]
    have i1:=xZ c (1031+2 * (0+(w:Int))) (m:=(r.length:Int)+1) (by lia)
    have i2:=x2 c (1031+2 * (0+(w:Int))) (m:=(r.length:Int)+1) (by lia)
    generalize part c (1031+2 * (0+(w:Int))) ((r.length:Int)+1)=i at *
    have hrl:r.length<=1000:=by
     have h1:=EN (dS er)
     have h2:=Q4.length_eq
     rw [au,hV,aj,mi.len] at h2
     have h3:=congrArg dg e3
     rw [gU,au,ak] at h3
     have h4:(2:Int).toNat=2:=rfl
     lia
    simp only [qP,ga]
    refine⟨by decide,i1,by rw [aj]; lia,Pq (by rw [aj]; exact hrl),?_⟩
    have ein:(r.map enc).take i.toNat++D.tup [.int (nm+1),.int (0+(w:Int)),.int hh] :: (r.map enc).drop i.toNat=(r.take i.toNat++(⟨nm+1,0+(w:Int),hh⟩:T3) :: r.drop i.toNat).map enc:=by
     rw [aS,ax,Lx,List.map_drop]; rfl
    rw [ein]
    refine HV _ _ ⟨_,⟨_,_,rfl⟩,SD.put ea,?_⟩
    refine(D5 (Mn _ _ _) PB _ er).trans ?_
    rw [aS,xS]
    exact .cons _ Q4
   ·rintro τ G3 ⟨PB,⟨f1,f2,rfl⟩,SD,Q4⟩
    refine sA _ _ ⟨nm,PB,⟨_,_,_,_,rfl⟩,SD,?_⟩
    rw [au]
    exact more.perm Q4
  ·rintro τ G' ⟨name,rs,⟨b1,b2,b3,b4,rfl⟩,hr,mi⟩
   exact hN _ _ ⟨⟨_,_,_,_,_,rfl⟩,rs,hr,name,mi⟩
 ·rintro _ G' ⟨⟨b0,b1,b2,b3,b4,rfl⟩,rs,hr,name,mi⟩
  simp only [dO,h8,aw,af,ae]
  refine hr.fz (q rs ⟨mi.nd,mi.way,mi.hand,mi.KJ,by rw [mi.len]; lia,?_⟩ (fun z=>?_) fun p hp=>?_)
  ·rw [← hr.len,hl]; lia
  ·have:=hr.len
   rw [z,ay] at this; lia
  ·obtain⟨off,_,_,_,h4⟩:=mi.off
   obtain⟨o,_,_,e⟩:=h4 p hp
   rw [e]
   lia
end Gq
end K2
end
section
namespace K2
open PySem (Str)
open Enc (enc)
namespace Gq
open K2.P
variable {rows:Rows}
end Gq
end K2
end
section
namespace K2
open PySem (Str)
open Enc (enc)
namespace Gq
open K2.P
variable {rows:Rows}
noncomputable def z3:T3:=⟨0,0,0⟩
noncomputable def PQ(r:List T3)(k:Nat):T3:=if k=0 then r.getD (r.length - 1) z3 else r.getD (k - 1) z3
noncomputable def PR(r:List T3)(ks:List Nat):List (T3×T3):=ks.map fun k=>(PQ r k,r.getD k z3)
noncomputable def V5(rows:Rows):List (T3×T3):=rows.flatMap fun r=>PR r (cG r.length)
theorem MT(r:List T3):(PR r (cG r.length)).Perm (r.zip (gK r)):=by
 cases r with
 | nil=>exact .refl _
 | cons x t =>
  have my:(x :: t)≠[]:=by simp
  have e1:PR (x :: t) (cG (x :: t).length)=((x :: t).getLast my,x) :: (x :: t).dropLast.zip t:=by
   refine List.ext_getElem ?_ ?_
   ·simp [PR]
   ·intro i h1 h2
    have eg:(PR (x :: t) (cG (x :: t).length))[i]=(PQ (x :: t) i,(x :: t).getD i z3):=by simp [PR]
    rw [eg]
    have hi:i < (x :: t).length:=by simpa [PR] using h1
    cases i with
    | zero =>
     simp only [List.getElem_cons_zero,Prod.mk.injEq]
     refine⟨?_,rfl⟩
     unfold PQ
     rw [if_pos rfl,aL,ah (by simp),List.getLast_eq_getElem]
     rfl
    | succ i =>
     rw [L6,List.getElem_zip]
     refine Prod.ext ?_ ?_
     ·show PQ (x :: t) (i+1)=_
      unfold PQ
      rw [if_neg (by lia),aL,ah (by lia),List.getElem_dropLast]
      rfl
     ·show (x :: t).getD (i+1) z3=t[i]'(by simpa using hi)
      rw [aL,af,ah (by simpa using hi)]
      rfl
  have e2:(x :: t).zip (gK (x :: t))=(x :: t).dropLast.zip t++[((x :: t).getLast my,x)]:=by
   have:gK (x :: t)=t++[x]:=rfl
   rw [this]
   conv=>lhs; arg 1; rw [← List.dropLast_concat_getLast my]
   rw [List.zip_append (by simp)]
   rfl
  rw [e1,e2]
  exact List.perm_append_comm (l₁:=[((x :: t).getLast my,x)])
theorem Eo(rows:Rows):(V5 rows).Perm (pairsOf rows):=by
 unfold V5 pairsOf
 induction rows with
 | nil=>exact .refl _
 | cons r rs ih =>
  rw [lH,lH]
  exact(MT r).append ih
end Gq
end K2
end
section
namespace K2
namespace IA
noncomputable def bt(d x:Nat):Bool:=Nat.beq (Nat.land (Nat.shiftRight x d) 1) 1
noncomputable def Tp:Nat->List Nat->Bool
 | _,[]=>true
 | _,[_]=>true
 | 0,_=>false
 | d+1,l=>Tp d (l.filter (bt d))&&Tp d (l.filter fun x=>!bt d x)
theorem M9{l:List Nat}(p:Nat->Bool)(h1:(l.filter p).Nodup)(h2:(l.filter fun x=>!p x).Nodup):l.Nodup:=by
 induction l with
 | nil=>exact du
 | cons x l ih =>
  rw [dZ]
  cases hp:p x with
  | true =>
   rw [eE hp,dZ] at h1
   rw [fI (by rw [hp]; decide)] at h2
   exact⟨fun z=>h1.1 (List.mem_filter.mpr ⟨z,hp⟩),ih h1.2 h2⟩
  | false =>
   rw [fI (by rw [hp]; decide)] at h1
   rw [eE (by rw [hp]; decide),dZ] at h2
   exact⟨fun z=>h2.1 (List.mem_filter.mpr ⟨z,by rw [hp]; decide⟩),ih h1 h2.2⟩
theorem Na:∀ (d:Nat) (l:List Nat),Tp d l=true->l.Nodup
 | _,[],_=>du
 | _,[x],_=>List.nodup_cons.mpr ⟨cQ,du⟩
 | 0,_ :: _ :: _,h=>bq (show false=true from h)
 | d+1,x :: y :: l,h=>by
  have h:(Tp d ((x :: y :: l).filter (bt d))&&Tp d ((x :: y :: l).filter fun x=>!bt d x))=true:=h
  rw [aH] at h
  exact M9 (bt d) (Na d _ h.1) (Na d _ h.2)
noncomputable def hN(t:T2):Nat:=(h2 t+9223372036854775808).toNat
noncomputable def XG:Nat->List T2
 | 0=>[]
 | n+1=>⟨((n+1:Nat):Int),0⟩ :: ⟨((n+1:Nat):Int),1⟩ :: XG n
set_option maxRecDepth 100000 in
theorem RW:Tp 64 ((XG 999).map hN)=true:=by decide +kernel
theorem Hf:∀ (n:Nat) (t:T2),1<=t.a->t.a<=n->t.b=0\/t.b=1->t∈XG n
 | 0,t,h1,h2,_=>by lia
 | n+1,⟨a,b⟩,h1,h2,h3=>by
  by_cases c:a=((n+1:Nat):Int)
  ·subst c
   rcases h3 with h3 | h3
   ·have h3:b=0:=h3
    subst h3
    exact aE
   ·have h3:b=1:=h3
    subst h3
    exact av _ aE
  ·exact av _ (av _ (Hf n _ h1 (by have:a<=((n+1:Nat):Int):=h2; show a<=(n:Int); lia) h3))
theorem Nw{α β:Type}{f:α->β}:∀ {l:List α},(l.map f).Nodup->∀ x∈l,∀ y∈l,f x=f y->x=y
 | [],_,x,hx,_,_,_=>by cases hx
 | a :: l,nd,x,hx,y,hy,e=>by
  rw [ax,dZ] at nd
  rcases List.mem_cons.mp hx with q | q
  ·rcases List.mem_cons.mp hy with r | r
   ·rw [q,r]
   ·exact absurd (by rw [← q,e]; exact cV r) nd.1
  ·rcases List.mem_cons.mp hy with r | r
   ·exact absurd (by rw [← r,← e]; exact cV q) nd.1
   ·exact Nw nd.2 x q y r e
theorem SR{s t:T2}(hs:(1<=s.a/\s.a<=999)/\(s.b=0\/s.b=1))(ht:(1<=t.a/\t.a<=999)/\(t.b=0\/t.b=1))(e:h2 s=h2 t):s=t :=
 Nw (Na 64 _ RW) s (Hf 999 s hs.1.1 hs.1.2 hs.2) t (Hf 999 t ht.1.1 ht.1.2 ht.2) (by unfold hN; rw [e])
theorem Ra:∀ (l:List T2),l.Nodup->(∀ s∈l,(1<=s.a/\s.a<=999)/\(s.b=0\/s.b=1))->(l.map h2).Nodup
 | [],_,_=>du
 | s :: l,nd,h=>by
  rw [dZ] at nd
  rw [ax,dZ]
  refine⟨fun z=>?_,Ra l nd.2 fun t ht=>h t (av _ ht)⟩
  obtain⟨t,ht,e⟩:=List.mem_map.mp z
  have:=SR (h s aE) (h t (av _ ht)) e.symm
  exact nd.1 (this ▸ ht)
end IA
end K2
end
section
namespace K2
open PySem (Str)
open Enc (enc)
namespace IA
open K2.P K2.Gq
noncomputable def kP(b s:T2):T2:=if s.b=1 then s else b
noncomputable def kY:T2->List T2->List (T2×T2)
 | _,[]=>[]
 | b,s :: ss=>(s,kP b s) :: kY (kP b s) ss
noncomputable def jO(ss:List T2)(k:Int):T2:=ss.foldl kP ⟨k,2⟩
noncomputable def iJ(r:List T3)(k:Int):List (T2×T2):=kY (jO (bI r k) k) (bI r k)
theorem qZ:∀ (a c:List T2) (b:T2),kY b (a++c)=kY b a++kY (a.foldl kP b) c
 | [],c,b=>rfl
 | s :: a,c,b=>by rw [aT,kY,kY,qZ a c,aT]; rfl
theorem j7:∀ (a:List T2) (b:T2),(kY b a).map (·.1)=a
 | [],_=>rfl
 | s :: a,b=>by rw [kY,ax,j7 a]
theorem vd(a:List T2)(b:T2):(kY b a).length=a.length:=by have:=congrArg dg (j7 a b); rwa [aj] at this
theorem wz:∀ (l:List T2) (b:T2),l.foldl kP b=(l.reverse.find? fun s=>s.b == 1).getD b
 | [],b=>rfl
 | s :: l,b=>by
  rw [dJ,wz l,List.reverse_cons,AQ]
  cases h:l.reverse.find? fun s=>s.b == 1 with
  | some t=>rfl
  | none =>
   by_cases c:s.b=1
   ·simp [kP,c]
   ·simp [kP,c]
theorem fold_filter:∀ (l:List T2) (b:T2),l.foldl kP b=((l.filter fun s=>s.b == 1).getLast?).getD b
 | [],b=>rfl
 | s :: l,b=>by
  rw [dJ,fold_filter l]
  by_cases c:s.b=1
  ·have:(s :: l).filter (fun s=>s.b == 1)=s :: l.filter (fun s=>s.b == 1):=eE (by simp [c])
   rw [this,List.getLast?_cons,kP,if_pos c]; simp
  ·have:(s :: l).filter (fun s=>s.b == 1)=l.filter (fun s=>s.b == 1):=fI (by simp [c])
   rw [this,kP,if_neg c]
noncomputable def dM:Rows->Nat->List (T2×T2)
 | [],_=>[]
 | r :: rs,k=>iJ r (k:Int)++dM rs (k+1)
theorem lS:∀ (a b:Rows) (k:Nat),dM (a++b) k=dM a k++dM b (k+a.length)
 | [],b,k=>by simp [dM]
 | r :: a,b,k=>by rw [aT,dM,dM,lS a b (k+1),cH,ak]; congr 3; lia
theorem j3:∀ (rs:Rows) (k:Nat),(dM rs k).map (·.1)=iN rs k
 | [],_=>rfl
 | r :: rs,k=>by rw [dM,iN,aS,j3 rs,iJ,j7]
theorem MS(rs:Rows)(k:Nat):(dM rs k).length=(iN rs k).length:=by have:=congrArg dg (j3 rs k); rwa [aj] at this
noncomputable def Pl(r:List T3)(k:Int):List T2:=(bI r k).filter fun s=>s.b == 1
noncomputable def OQ(r:List T3)(k:Int):List T2:=if Pl r k=[] then [⟨k,2⟩] else Pl r k
noncomputable def yt:Rows->Nat->List T2
 | [],_=>[]
 | r :: rs,k=>OQ r (k:Int)++yt rs (k+1)
theorem oI(r:List T3)(k:Int):bI r k≠[]:=by
 unfold bI
 split
 ·simp
 ·rename_i h; simpa using h
theorem AY(b s:T2):(s.b=1/\kP b s=s)\/(s.b≠1/\kP b s=b):=by
 unfold kP
 by_cases c:s.b=1
 ·exact .inl ⟨c,if_pos c⟩
 ·exact .inr ⟨c,if_neg c⟩
theorem Fd:∀ (a:List T2) (b y:T2),y∈(kY b a).map (·.2)->(y∈a/\y.b=1)\/y=b
 | [],b,y,h=>by cases h
 | s :: a,b,y,h=>by
  rw [kY,ax] at h
  rcases List.mem_cons.mp h with e | h
  ·rcases AY b s with ⟨c,e2⟩ | ⟨_,e2⟩
   ·exact .inl ⟨by rw [e,e2]; exact aE,by rw [e,e2]; exact c⟩
   ·exact .inr (e.trans e2)
  ·rcases Fd a _ y h with ⟨h1,h2⟩ | h1
   ·exact .inl ⟨av _ h1,h2⟩
   ·rcases AY b s with ⟨c,e2⟩ | ⟨_,e2⟩
    ·exact .inl ⟨by rw [h1,e2]; exact aE,by rw [h1,e2]; exact c⟩
    ·exact .inr (h1.trans e2)
theorem Fe:∀ (a:List T2) (b y:T2),y∈a->y.b=1->y∈(kY b a).map (·.2)
 | [],b,y,h,_=>by cases h
 | s :: a,b,y,h,hy=>by
  rw [kY,ax]
  rcases List.mem_cons.mp h with e | h
  ·subst e
   rw [show kP b y=y from if_pos hy]; exact aE
  ·exact av _ (Fe a _ y h hy)
theorem K6:∀ (a:List T2) (b:T2),a≠[]->(a.filter fun s=>s.b == 1)=[]->b∈(kY b a).map (·.2)
 | [],b,h,_=>absurd rfl h
 | s :: a,b,_,h=>by
  have c:s.b≠1:=fun z=>by
   rw [eE (by simp [z])] at h; cases h
  rw [kY,ax,show kP b s=b from if_neg c]; exact aE
theorem JF(l:List T2)(b:T2):(l.foldl kP b∈l.filter fun s=>s.b == 1)\/((l.filter fun s=>s.b == 1)=[]/\l.foldl kP b=b):=by
 rw [fold_filter]
 cases h:(l.filter fun s=>s.b == 1).getLast? with
 | none=>exact .inr ⟨List.getLast?_eq_none_iff.mp h,rfl⟩
 | some t=>exact .inl (List.mem_of_getLast? h)
theorem KA(r:List T3)(k:Int)(y:T2):y∈(iJ r k).map (·.2)↔y∈OQ r k:=by
 unfold iJ OQ Pl
 have my:=oI r k
 generalize bI r k=ss at my
 constructor
 ·intro h
  rcases Fd ss _ y h with ⟨h1,h2⟩ | h1
  ·have:y∈ss.filter fun s=>s.b == 1:=List.mem_filter.mpr ⟨h1,by simp [h2]⟩
   rw [if_neg (fun z=>by rw [z] at this; cases this)]; exact this
  ·unfold jO at h1
   rcases JF ss ⟨k,2⟩ with h2 | ⟨h2,h3⟩
   ·rw [if_neg (fun z=>by rw [z] at h2; cases h2),h1]; exact h2
   ·rw [if_pos h2,h1,h3]; exact List.mem_singleton_self _
 ·intro h
  by_cases c:(ss.filter fun s=>s.b == 1)=[]
  ·rw [if_pos c] at h
   rw [List.mem_singleton.mp h]
   have:=K6 ss (jO ss k) my c
   rcases JF ss ⟨k,2⟩ with h2 | ⟨h2,h3⟩
   ·rw [c] at h2; cases h2
   ·unfold jO at this ⊢; rw [h3] at this ⊢; exact this
  ·rw [if_neg c] at h
   obtain⟨h1,h2⟩:=List.mem_filter.mp h
   exact Fe ss _ y h1 (by simpa using h2)
theorem uQ:∀ (rs:Rows) (k:Nat) (y:T2),y∈(dM rs k).map (·.2)↔y∈yt rs k
 | [],_,_=>Iff.rfl
 | r :: rs,k,y=>by rw [dM,yt,aS,Gd,Gd,KA,uQ rs]
theorem Rw{r:List T3}{k:Int}{y:T2}(h:y∈Pl r k):y∈r.map T3.s/\y.b=1:=by
 obtain⟨h1,h2⟩:=List.mem_filter.mp h
 have h2:y.b=1:=by simpa using h2
 unfold bI at h1
 split at h1
 ·rw [List.mem_singleton.mp h1] at h2; exact absurd (show (2:Int)=1 from h2) (by decide)
 ·exact⟨h1,h2⟩
theorem Mi{r:List T3}{k:Int}{y:T2}(h:y∈OQ r k):(y∈r.map T3.s/\y.b=1)\/y=⟨k,2⟩:=by
 unfold OQ at h
 split at h
 ·exact .inr (List.mem_singleton.mp h)
 ·exact .inl (Rw h)
theorem BW:∀ (rs:Rows) (k:Nat) (y:T2),y∈yt rs k->(y∈rs.flatten.map T3.s/\y.b=1)\/(y.b=2/\(k:Int)<=y.a)
 | [],_,_,h=>by cases h
 | r :: rs,k,y,h=>by
  rw [yt] at h
  rw [bG,aS]
  rcases List.mem_append.mp h with h | h
  ·rcases Mi h with ⟨h1,h2⟩ | rfl
   ·exact .inl ⟨fF _ h1,h2⟩
   ·exact .inr ⟨rfl,GH _⟩
  ·rcases BW rs (k+1) y h with ⟨h1,h2⟩ | ⟨h1,h2⟩
   ·exact .inl ⟨bR _ h1,h2⟩
   ·exact .inr ⟨h1,by lia⟩
theorem Rv{r:List T3}(k:Int)(h:(r.map T3.s).Nodup):(Pl r k).Nodup:=by
 unfold Pl bI
 split
 ·exact(List.Pairwise.filter _ (by simp))
 ·exact h.filter _
theorem Ry{r:List T3}(k:Int)(h:(r.map T3.s).Nodup):(OQ r k).Nodup:=by
 unfold OQ
 split
 ·simp
 ·exact Rv k h
theorem IP:∀ (rs:Rows) (k:Nat),(rs.flatten.map T3.s).Nodup->(yt rs k).Nodup
 | [],_,_=>du
 | r :: rs,k,h=>by
  rw [bG,aS,cw] at h
  rw [yt,cw]
  refine⟨Ry _ h.1,IP rs (k+1) h.2.1,fun a ha b hb e=>?_⟩
  subst e
  rcases Mi ha with ⟨h1,h2⟩ | h1
  ·rcases BW rs _ _ hb with ⟨h3,h4⟩ | ⟨h3,h4⟩
   ·exact h.2.2 a h1 a h3 rfl
   ·rw [h2] at h3; exact absurd h3 (by decide)
  ·rcases BW rs _ _ hb with ⟨h3,h4⟩ | ⟨h3,h4⟩
   ·rw [h1] at h4; exact absurd h4 (by show ¬ (2:Int)=1; decide)
   ·rw [h1] at h4
    have h4:((k+1:Nat):Int)<=(k:Int):=h4
    lia
noncomputable def fJ(rows:Rows):List T2:=Ko (yt rows 0)
theorem JV{rows:Rows}(d:Dr rows){m:List T2}(nd:m.Nodup)(h:∀ y,y∈m↔y∈(dM rows 0).map (·.2)):Ko m=fJ rows :=
 RL ((GG nd (IP rows 0 d.nd)).mpr fun y=>(h y).trans (uQ rows 0 y))
noncomputable def cnt(r:List T3):Nat:=max 1 (r.filter fun p=>p.b == 1).length
theorem Pn(r:List T3)(k:Int):(OQ r k).length=cnt r:=by
 have e:(Pl r k).length=(r.filter fun p=>p.b == 1).length:=by
  unfold Pl bI
  split
  ·rename_i h; subst h; rfl
  ·rw [List.filter_map,aj]; rfl
 unfold OQ cnt
 split
 ·rename_i h
  rw [h] at e
  have e:0=(r.filter fun p=>p.b == 1).length:=e
  rw [← e]; rfl
 ·rename_i h
  rw [e]
  have:(r.filter fun p=>p.b == 1).length≠0:=fun z=>h (List.length_eq_zero_iff.mp (e.trans z))
  lia
theorem DV:∀ (rs:Rows) (k:Nat),(yt rs k).length=(rs.map cnt).sum
 | [],_=>rfl
 | r :: rs,k=>by rw [yt,au,Pn,DV rs,ax,List.sum_cons]
theorem Ox(rows:Rows):(fJ rows).length=(rows.map cnt).sum:=by unfold fJ; rw [IW,DV]
noncomputable def sv(r:List T3)(j:Nat):List T3:=(r.take (j+1)).reverse++(r.drop (j+1)).reverse
noncomputable def iO(r:List T3)(k:Int)(j:Nat):T2:=(((sv r j).find? fun p=>p.b == 1).map T3.s).getD ⟨k,2⟩
theorem N6(l:List T3):(l.map T3.s).find? (fun s=>s.b == 1)=(l.find? fun p=>p.b == 1).map T3.s:=by
 rw [List.find?_map]; rfl
theorem we(r:List T3)(k:Int)(j:Nat)(hr:r≠[]):iO r k j=((bI r k).take (j+1)).foldl kP (jO (bI r k) k):=by
 have e:bI r k=r.map T3.s:=by unfold bI; rw [if_neg hr]
 rw [e]
 unfold iO sv jO
 rw [wz,wz,AQ,← Lx,← List.map_reverse,N6,← List.map_reverse,N6]
 have e2:r.reverse=(r.drop (j+1)).reverse++(r.take (j+1)).reverse:=by rw [← xS,fh]
 rw [e2,AQ]
 cases h1:(r.take (j+1)).reverse.find? fun p=>p.b == 1 with
 | some t=>rfl
 | none =>
  cases h2:(r.drop (j+1)).reverse.find? fun p=>p.b == 1 with
  | some t=>rfl
  | none=>rfl
theorem BU(r:List T3)(j:Nat):(sv r j).length=r.length:=by
 unfold sv
 rw [au,hV,hV,← au,fh]
theorem GP{r:List T3}{j b:Nat}(hj:j < r.length)(hb:b < r.length):∃ p,(sv r j)[b]?=some p/\rK (r.map enc) ((j:Int) - (b:Int))=some (enc p):=by
 unfold sv
 have e1:(r.take (j+1)).length=j+1:=by rw [dj]; exact GF hj
 have e2:(r.drop (j+1)).length=r.length - (j+1):=cJ
 by_cases c:b<=j
 ·have h1:b < (r.take (j+1)).length:=by rw [e1]; exact BO c
  have h2:j - b < r.length:=pV (BN _ _) hj
  refine⟨r[j - b],?_,?_⟩
  ·rw [cW (by rw [hV]; exact h1),vF h1,e1,pW,jY (BO (BN _ _)),ah]
  ·rw [← Int.ofNat_sub c,mY _ (kW _) (by rw [aj]; exact Int.ofNat_lt.mpr h2)]
   simp only [gq,bH]
 ·obtain⟨d,hd⟩:∃ d,b=j+1+d:=⟨b - (j+1),(ym (Nat.lt_of_not_le c)).symm⟩
  obtain⟨f,hf⟩:∃ f,r.length=b+1+f:=⟨r.length - (b+1),(ym hb).symm⟩
  have h3:j+1+f < r.length:=by clear e1 e2 hj hb c; lia
  have h4:d < (r.drop (j+1)).length:=by rw [e2]; clear e1 e2 hj hb c h3; lia
  refine⟨r[j+1+f],?_,?_⟩
  ·rw [bZ (by rw [hV,e1,hd]; exact gx _ _),hV,e1,hd,ib,vF h4,e2,Aa,show j+1+(r.length - (j+1) - 1 - d)=j+1+f by clear e1 e2 hj hb c h3 h4; lia,ah]
  ·unfold rK EY
   rw [if_neg (by clear e1 e2 hj hb h3 h4 hf; lia),aj,if_pos (by clear e1 e2 hj hb h3 h4 c; lia)]
   show (r.map enc)[((j:Int) - (b:Int)+(r.length:Int)).toNat]?=_
   rw [show ((j:Int) - (b:Int)+(r.length:Int)).toNat=j+1+f by clear e1 e2 hj hb h3 h4 c hd; lia,bu,ah h3]; rfl
end IA
end K2
end
section
namespace K2
open PySem (Str)
open Enc (enc)
namespace IA
open K2.P K2.Gq
theorem eq_int(i j:Int):iy (.int i) (.int j)=decide (i=j):=Enc.eqv i j
theorem g6{c:zS}{a b:iz}{E:kc}{K:jW}{τ:gY}{G:Gp}:nu c a b E K τ G=c E τ G fun k G1=>if k=true then a E K τ G1 else b E K τ G1:=rfl
noncomputable def yJ:iz :=
 (da (cz (cg mK (aA (aw 0) (aA (aw 1) bC))) (aQ 2))
 (da (cz (gS 1 [] (tL (aw 2)) (aQ 0) (some (iH (bA (xX false) (bA lR (aw 0) (dC (.int 1))) (dC (.int 1))))) (aw 0)) (aQ 3))
 (da (cz (WK (iH (aw 3)) (bA lR (aw 3) (JL PF (dC (.int 1)))) (i5 (aA (aw 1) (aA (dC (.int 2)) bC)))) (aQ 4))
 (da (cz wH (aQ 5))
 (da (gN (tL (aw 2)) (aQ 6) (da (nu (iH (bA (xX false) (bA lR (aw 6) (dC (.int 1))) (dC (.int 1)))) (cz (aw 6) (aQ 4)) fv)
 (cz (aw 4) (vh (aw 5) (aw 6)))))
 (dO (h8 (aw 5))))))))
noncomputable def oK:mz:=fun ds G Q _=>∃ (r:List T3) (k:Int),ds=[enc r,.int k]/\((bI r k).Nodup/\r.length<=24)/\Q (.pC (bV (iJ r k))) G
theorem D3(r:List T3)(k:Int):(bI r k).length<=r.length+1:=by
 unfold bI; split
 ·simp
 ·rw [aj]; lia
theorem Iz(ds:List D)(G:Gp)(Q:DK)(h:oK ds G Q fun _ _=>False):yJ (fun _ _=>False) (ends Q) (bM 7 ds) G:=by
 obtain⟨r,k,rfl,⟨nd,hl⟩,q⟩:=h
 have sl:=D3 r k
 have my:=oI r k
 unfold yJ
 simp only [ends,bM,ax,bh,ak,ay,bF,aT,bg,eZ,cz,cg,aA,aw,ae,af,bC,aQ,aC,az,gS,wH,iG]
 refine⟨r,k,rfl,by lia,?_⟩
 unfold iJ at q
 generalize bI r k=ss at nd sl my q
 refine lF ⟨LD (by rw [aj]; lia),?_⟩
 refine mr (xs:=ss) (fun pre acc τ G'=>G=G'/\(∃ a,τ=[a])/\acc=(pre.filter fun s=>s.b == 1).map enc) ⟨rfl,⟨_,rfl⟩,rfl⟩ (fun _ _ _ _ _=>trivial) ?_ ?_
 ·rintro pre x post acc τ G' N e ⟨rfl,⟨a,rfl⟩,rfl⟩ hN
  simp only [aQ,zA,az,aw,ae,fb,bA,dC,ie,JY]
  refine⟨_,_,.int _,.int _,?_⟩
  rw [eq_int]
  by_cases c:x.b=1
  ·simp only [aB,c,decide_true,bO,if_false,cm,if_true]
   refine hN _ _ _ ⟨rfl,⟨_,rfl⟩,?_⟩
   rw [gy,aS,eE (by simp [c])];
   simp only [vG,ax,bh,zA,c]
  ·simp only [aB,c,decide_false,cF,if_false,cm]
   refine hN _ _ _ ⟨rfl,⟨_,rfl⟩,?_⟩
   rw [gy,fI (by simp [c])]; simp
 ·rintro acc τ G' ⟨rfl,⟨a,rfl⟩,rfl⟩ p3 f3
  have fl:=fold_filter ss ⟨k,2⟩
  have ul:(ss.filter fun s=>s.b == 1).length<=ss.length:=fm _ _
  generalize (ss.filter fun s=>s.b == 1)=us at fl ul
  have g3:(fN G p3 (.lst (us.map enc))) p3=some (.lst (us.map enc)):=bz
  have l3:jV G (fN G p3 (.lst (us.map enc))):=.new f3
  generalize fN G p3 (.lst (us.map enc))=G3 at g3 l3
  have pick:∀ (Q2:DK) (E:kc),Q2 (enc (jO ss k)) G3->WK (iH (aw 3)) (bA lR (aw 3) (JL PF (dC (D.int 1)))) (i5 (aA (aw 1) (aA (dC (D.int 2)) bC))) E [some (enc r),some (D.int k),some (enc ss),some (D.ref p3),none,none,none] G3 Q2:=by
   intro Q2 E q2
   simp only [WK,bA,aw,af,ae,JL,dC,yK,i5,aA,bC,ak,ay,fb]
   refine DY (IsL.ref g3) ?_
   cases hu:us with
   | nil =>
    simp only [bh,DA,bO,aB,if_false]
    refine⟨by decide,?_⟩
    have:jO ss k=⟨k,2⟩:=by unfold jO; rw [fl,hu]; rfl
    rw [this] at q2; exact q2
   | cons u VY =>
    simp only [ax,List.isEmpty_cons,cF,if_true]
    refine jH (IsL.ref g3) (x:=enc (jO ss k)) ?_ q2
    unfold jO
    rw [fl,List.getLast?_eq_getElem?,hu]
    unfold rK EY
    rw [if_neg (by decide),if_pos (by simp only [aj,ak]; lia)]
    show (((u :: VY).map enc))[((-1:Int)+(((u :: VY).map (enc:T2->D)).length:Int)).toNat]?=_
    rw [aj,show ((-1:Int)+(((u :: VY).length:Nat):Int)).toNat=(u :: VY).length - 1 by simp only [ak]; lia,bu,ah (by simp)]; rfl
  refine pick _ _ ?_
  simp only [i6]
  intro p5 f5
  have n5:G p5=none:=l3.free f5
  refine gZ (fun τ G'=>jV G G'/\G' p5=some (.jn (bV (kY (jO ss k) ss)))/\∃ a b c d e f,τ=[a,b,c,d,e,some (.ref p5),f]) ?_ ?_
  ·intro N hN
   simp only [gN,iG,aw,af,ae]
   refine lF ?_
   refine je (xs:=ss) (fun pre τ G'=>jV G G'/\G' p5=some (.jn (bV (kY (jO ss k) pre)))/\∃ f,τ=[some (enc r),some (.int k),some (enc ss),some (.ref p3),some (enc (pre.foldl kP (jO ss k))),some (.ref p5),f]) ⟨l3.trans (.new f5),bz,_,rfl⟩ (fun _ _ _ _=>trivial) ?_ ?_
   ·rintro pre s post τ G' N2 e ⟨le,gp,f,rfl⟩ sA
    have hlp:pre.length < ss.length:=by have:=congrArg dg e; simp at this; lia
    have NN:s∉(kY (jO ss k) pre).map (·.1):=fun z=>by
     rw [j7] at z
     rw [e,cw] at nd
     exact nd.2.2 s z s aE rfl
    have gl:=vd pre (jO ss k)
    refine gZ (fun τ G2=>G'=G2/\τ=[some (enc r),some (.int k),some (enc ss),some (.ref p3),some (enc (kP (pre.foldl kP (jO ss k)) s)),some (.ref p5),some (enc s)]) ?_ ?_
    ·intro N3 HV
     simp only [zA,aC,az,g6,cz,aw,af,ae,aQ,fv,fb,bA,dC,ie,JY]
     refine⟨_,_,.int _,.int _,?_⟩
     rw [eq_int]
     by_cases c:s.b=1
     ·simp only [aB,c,decide_true,bO,if_false,cm,if_true]
      refine HV _ _ ⟨rfl,?_⟩
      rw [show kP (pre.foldl kP (jO ss k)) s=s from if_pos c]
      simp only [zA,c]
     ·simp only [aB,c,decide_false,cF,if_false,cm]
      refine HV _ _ ⟨rfl,?_⟩
      rw [show kP (pre.foldl kP (jO ss k)) s=pre.foldl kP (jO ss k) from if_neg c]
      simp only [zA]
    ·rintro _ _ ⟨rfl,rfl⟩
     simp only [cz,aw,af,ae,vh]
     refine P.nI (k:=s) (v:=kP (pre.foldl kP (jO ss k)) s) gp (by lia) ?_
     refine sA _ _ ⟨le.put n5,?_,some (enc s),?_⟩
     ·rw [bz,qZ,vt NN]; rfl
     ·rw [rN]; rfl
   ·rintro τ G' ⟨le,gp,f,rfl⟩
    exact hN _ _ ⟨le,gp,_,_,_,_,_,_,rfl⟩
  ·rintro _ G' ⟨le,gp,a,b,c,d,e,f,rfl⟩
   simp only [dO,h8,aw,af,ae]
   exact zr le n5 gp q
noncomputable def A6:iz :=
 (da (cz wH (aQ 1))
 (da (gN (zk (aw 0)) (vg (g8 (aQ 2) (g8 (aQ 3) tM))) (iK (By VZ Nc (aw 1) (aA (h8 (cg oK (aA (aw 3) (aA (aw 2) bC)))) bC))))
 (dO (h8 (aw 1)))))
noncomputable def NB(rows:Rows):Prop:=∀ p∈rows.flatten,1<=p.a/\p.a<=999
noncomputable def fL:mz:=fun ds G Q _=>∃ rows:Rows,ds=[enc rows]/\(Dr rows/\NB rows)/\Q (.pC (bV (dM rows 0))) G
theorem He{rows:Rows}(d:Dr rows){r:List T3}(h:r∈rows):(r.map T3.s).Nodup:=by
 obtain⟨a,b,e⟩:=Ac h
 have:=d.nd
 rw [e,hX,bG,aS,aS,cw,cw] at this
 exact this.2.1.1
theorem rQ{rows:Rows}(d:Dr rows){r:List T3}(h:r∈rows):r.length<=24:=by
 obtain⟨a,b,e⟩:=Ac h
 have:=d.lY
 rw [e,hX,bG,au,au] at this
 lia
theorem GY{r:List T3}(k:Int)(h:(r.map T3.s).Nodup):(bI r k).Nodup:=by
 unfold bI; split
 ·simp
 ·exact h
theorem oN{rows:Rows}(d:Dr rows):(dM rows 0).length<=27:=by
 rw [MS]
 have:=GZ rows
 have:=d.lY
 have:=d.str
 lia
theorem RX{rows:Rows}(d:Dr rows)(nb:NB rows){r:List T3}(h:r∈rows)(k:Int):((iJ r k).map fun p=>h2 p.1).Nodup:=by
 have e:((iJ r k).map fun p=>h2 p.1)=(bI r k).map h2:=by
  rw [← j7 (bI r k) (jO (bI r k) k),cc]; rfl
 rw [e]
 by_cases c:r=[]
 ·subst c
  exact List.nodup_cons.mpr ⟨cQ,du⟩
 ·have es:bI r k=r.map T3.s:=by unfold bI; rw [if_neg c]
  rw [es]
  refine Ra _ (He d h) fun s hs=>?_
  obtain⟨p,hp,rfl⟩:=List.mem_map.mp hs
  have Q5:p∈rows.flatten:=List.mem_flatten.mpr ⟨r,h,hp⟩
  exact⟨nb p Q5,d.way p Q5⟩
theorem Li(ds:List D)(G:Gp)(Q:DK)(h:fL ds G Q fun _ _=>False):A6 (fun _ _=>False) (ends Q) (bM 4 ds) G:=by
 obtain⟨rows,rfl,⟨d,nb⟩,q⟩:=h
 have lY:=oN d
 unfold A6
 simp only [ends,bM,ax,bh,ak,ay,bF,aT,bg,eZ,cz,wH,i6,aQ,aC,az]
 intro p hp
 refine gZ (fun τ G'=>(∃ a b,τ=[some (enc rows),some (.ref p),a,b])/\jV G G'/\G' p=some (.jn (bV (dM rows 0)))) ?_ ?_
 ·intro N hN
  simp only [gN,zk,aw,ae]
  refine qT ?_
  rw [zy]
  refine je (xs:=rows.zipIdx 0) (fun pre τ G'=>(∃ a b,τ=[some (enc rows),some (.ref p),a,b])/\jV G G'/\G' p=some (.jn (bV (dM (pre.map (·.1)) 0)))) ⟨⟨_,_,rfl⟩,.new hp,bz⟩ (fun _ _ _ _=>trivial) ?_ ?_
  ·rintro pre x post τ G' N2 e ⟨⟨a,b,rfl⟩,l,gp⟩ sA
   obtain⟨pZ,PC,e1,e2,e3⟩:=ot e
   have hx:x.1∈rows:=by rw [e1]; simp
   have ep:pre.map (·.1)=pZ:=by rw [e3,fT]
   rw [ep] at gp
   have eL:dM rows 0=(dM pZ 0++iJ x.1 (x.2:Int))++dM PC (pZ.length+1):=by
    rw [e1,lS,dM,e2,gz,cH]
   have hlen:(dM pZ 0).length+(iJ x.1 (x.2:Int)).length<=27:=by
    rw [eL,au,au] at lY; lia
   have knd:((dM pZ 0++iJ x.1 (x.2:Int)).map (·.1)).Nodup:=by
    have:=vP d
    rw [← j3,eL,aS,cw] at this
    exact this.1
   simp only [vg,g8,aQ,tM,iK,By,aw,aC,az,af,ae,BY,gp,aA,h8,cg,bC,true_and]
   refine⟨x.1,_,rfl,⟨GY _ (He d hx),rQ d hx⟩,mV ?_⟩
   refine⟨dM pZ 0,iJ x.1 (x.2:Int),gp,rfl,⟨by lia,knd,fun _=>RX d nb hx _⟩,?_⟩
   refine sA _ _ ⟨⟨_,_,rfl⟩,l.put hp,?_⟩
   rw [bz,aS,ep]
   simp only [ax,bh]
   rw [lS,dM,dM,bS,e2,gz]
  ·rintro τ G' ⟨⟨a,b,rfl⟩,l,gp⟩
   rw [fT] at gp
   exact hN _ _ ⟨⟨_,_,rfl⟩,l,gp⟩
 ·rintro _ G' ⟨⟨a,b,rfl⟩,l,gp⟩
  simp only [dO,h8,aw,af,ae]
  exact zr l hp gp q
noncomputable def Jb:iz :=
 (dO (h8 (sE sf (aA (Il (cg fL (aA (aw 0) bC))) bC))))
noncomputable def kj:mz:=fun ds G Q _=>∃ rows:Rows,ds=[enc rows]/\(Dr rows/\NB rows/\rows≠[])/\Q (enc (fJ rows)) G
theorem Cg{rows:Rows}(h:rows≠[]):1<=(dM rows 0).length:=by
 cases rows with
 | nil=>exact absurd rfl h
 | cons r rs =>
  rw [dM,au,iJ,vd]
  have:=List.length_pos_iff.mpr (oI r ((0:Nat):Int))
  lia
theorem QK(ds:List D)(G:Gp)(Q:DK)(h:kj ds G Q fun _ _=>False):Jb (fun _ _=>False) (ends Q) (bM 1 ds) G:=by
 obtain⟨rows,rfl,⟨d,nb,my⟩,q⟩:=h
 have lY:=oN d
 have pos:=Cg my
 unfold Jb
 simp only [dO,h8,sE,aA,Il,cg,aw,bM,ax,bh,ak,ay,aT,bg,ae,bC,ends]
 refine⟨rows,rfl,⟨d,nb⟩,⟨dM rows 0,rfl,by lia,fun p1 f1=>?_⟩⟩
 refine⟨(dM rows 0).map (·.2),?_,by rw [aj]; lia,fun m nd hm p2 f2=>?_⟩
 ·unfold pH; simp only [bz]; rw [cc]; rfl
 ·rw [JV d nd hm]
  refine nj ((jV.new f1).trans (.new f2)) ((jV.new f1).free f2) bz q
end IA
end K2
end
section
namespace K2
open PySem (Str)
open Enc (enc)
namespace IA
open K2.P K2.Gq
theorem Pj{r:List T3}{j b:Nat}{z:Int}(hj:j < r.length)(hb:b < r.length)(hz:z=(j:Int)\/(z=-1/\j+1=r.length)):∃ p,(sv r j)[b]?=some p/\rK (r.map enc) (z - (b:Int))=some (enc p):=by
 rcases hz with rfl | ⟨rfl,e⟩
 ·exact GP hj hb
 ·obtain⟨f,hf⟩:∃ f,r.length=b+1+f:=⟨r.length - (b+1),(ym hb).symm⟩
  have h3:f < r.length:=by rw [hf,Nat.add_right_comm]; exact BO (Nat.le_add_left _ _)
  refine⟨r[f],?_,?_⟩
  ·unfold sv
   rw [fX (by rw [e]; exact aF _),List.drop_of_length_le (by rw [e]; exact aF _),List.reverse_nil,bS,vF hb,show r.length - 1 - b=f by rw [hf,Nat.add_right_comm,pW,ib],ah]
  ·unfold rK EY
   rw [if_neg (by clear e hj hb hf h3; lia),aj,if_pos (by clear e hj hb h3; lia)]
   show (r.map enc)[((-1:Int) - (b:Int)+(r.length:Int)).toNat]?=_
   rw [show ((-1:Int) - (b:Int)+(r.length:Int)).toNat=f by clear e hj hb h3; lia,bu,ah h3]; rfl
noncomputable def yI:iz :=
 (da (gN (mU (sE rF (aA (aw 0) bC))) (aQ 3) (nu (iH (bA (xX false) (bA lR (bA lR (aw 0) (bA xB (aw 2) (aw 3))) (dC (.int 1))) (dC (.int 1)))) (dO (h8 (C1 (bA lR (aw 0) (bA xB (aw 2) (aw 3))) fS (pL (dC (.int 2)))))) fv))
 (dO (h8 (i5 (aA (aw 1) (aA (dC (.int 2)) bC))))))
noncomputable def ji:mz:=fun ds G Q _=>∃ (r:List T3) (k z:Int) (j:Nat),ds=[enc r,.int k,.int z]/\(j < r.length/\r.length<=24)/\(z=(j:Int)\/(z=-1/\j+1=r.length))/\Q (enc (iO r k j)) G
theorem Iy(ds:List D)(G:Gp)(Q:DK)(h:ji ds G Q fun _ _=>False):yI (fun _ _=>False) (ends Q) (bM 4 ds) G:=by
 obtain⟨r,k,z,j,rfl,⟨hj,hl⟩,hz,q⟩:=h
 unfold yI
 refine gZ (fun τ G'=>G=G'/\(∀ p∈sv r j,p.b≠1)/\∃ a,τ=[some (enc r),some (.int k),some (.int z),a]) ?_ ?_
 ·intro N hN
  simp only [gN,bM,ax,bh,ak,ay,bF,aT,bg,ends,gQ,sE,aA,aw,ae,bC]
  refine vp (IsL.enc r) ?_
  simp only [aj,fM]
  refine⟨by lia,by lia,?_⟩
  rw [bH]
  refine wy (fun pre τ G'=>G=G'/\(∀ i,i < pre.length->∀ p,(sv r j)[i]?=some p->p.b≠1)/\∃ a,τ=[some (enc r),some (.int k),some (.int z),a]) ⟨rfl,fun i hi=>absurd hi (cu _),_,rfl⟩ (fun _ _ _ _=>trivial) ?_ ?_
  ·rintro pre x post τ G' N2 e ⟨rfl,hv,a,rfl⟩ sA
   obtain⟨rfl,nB⟩:=lP e
   obtain⟨p,hp,ha⟩:=Pj hj nB hz
   simp only [aQ,aC,az,g6,dO,h8,C1,bA,aw,ae,af,fS,jN,dC,fZ,ky,fv,fb]
   refine jH (IsL.enc r) ha ?_
   simp only [mh,ie,JY]
   refine⟨_,_,.int _,.int _,?_⟩
   rw [eq_int]
   by_cases c:p.b=1
   ·simp only [aB,c,decide_true,bO,if_false,cm,if_true]
    refine jH (IsL.enc r) ha ?_
    simp only [mh,oM,ak,ay]
    refine⟨by decide,mV ?_⟩
    have:iO r k j=p.s:=by
     unfold iO
     have:(sv r j).find? (fun p=>p.b == 1)=some p:=by
      rw [List.find?_eq_some_iff_getElem]
      have hi:=(List.getElem?_eq_some_iff.mp hp)
      refine⟨by simp [c],pre.length,hi.1,hi.2,fun m hm=>?_⟩
      have:=hv m hm _ (ah (Pc hm hi.1))
      simp [this]
     rw [this]; rfl
    rw [this] at q
    exact q
   ·simp only [aB,c,decide_false,cF,if_false,cm]
    refine sA _ _ ⟨rfl,fun i hi p' Q5=>?_,_,rfl⟩
    rw [au,cE] at hi
    by_cases z:i=pre.length
    ·subst z; rw [hp] at Q5; cases Q5; exact c
    ·exact hv i (by lia) p' Q5
  ·rintro τ G' ⟨rfl,hv,a,rfl⟩
   refine hN _ _ ⟨rfl,fun p hp=>?_,_,rfl⟩
   obtain⟨i,hi,e⟩:=dI hp
   refine hv i ?_ p (by rw [ah hi,e])
   rw [BU] at hi
   simpa [fq] using hi
 ·rintro _ _ ⟨rfl,hv,a,rfl⟩
  simp only [dO,h8,i5,aA,aw,af,ae,dC,bC,ak,ay,ends]
  refine⟨by decide,mV ?_⟩
  have:iO r k j=⟨k,2⟩:=by
   unfold iO
   have:(sv r j).find? (fun p=>p.b == 1)=none:=by
    rw [List.find?_eq_none]
    intro p hp z
    exact hv p hp (by simpa using z)
   rw [this]; rfl
  rw [this] at q; exact q
noncomputable def uI:iz :=
 (da (cz wH (aQ 1))
 (da (gN (zk (aw 0)) (vg (g8 (aQ 2) (g8 (aQ 3) tM))) (da (nu (iH (bA (xX false) (aw 3) (rE bC))) (cz (i5 (aA (aw 2) (aA (dC (.int 2)) bC))) (vh (aw 1) (i5 (aA (aw 2) (aA (dC (.int 2)) bC))))) fv)
 (gN (mU (sE rF (aA (aw 3) bC))) (aQ 4) (cz (cg ji (aA (aw 3) (aA (aw 2) (aA (aw 4) bC)))) (vh (aw 1) (C1 (bA lR (aw 3) (aw 4)) fS (pL (dC (.int 2)))))))))
 (dO (h8 (aw 1)))))
noncomputable def d8:mz:=fL
theorem GV{α:Type}{l:List α}{j:Nat}(h:j < l.length):l.take (j+1)=l.take j++[l[j]]:=by rw [rM h]
theorem Dp(ds:List D)(G:Gp)(Q:DK)(h:d8 ds G Q fun _ _=>False):uI (fun _ _=>False) (ends Q) (bM 5 ds) G:=by
 obtain⟨rows,rfl,⟨d,_⟩,q⟩:=h
 have lY:=oN d
 unfold uI
 simp only [ends,bM,ax,bh,ak,ay,bF,aT,bg,eZ,cz,wH,i6,aQ,aC,az]
 intro p hp
 refine gZ (fun τ G'=>(∃ a b c,τ=[some (enc rows),some (.ref p),a,b,c])/\jV G G'/\G' p=some (.jn (bV (dM rows 0)))) ?_ ?_
 ·intro N hN
  simp only [gN,zk,aw,ae]
  refine qT ?_
  rw [zy]
  refine je (xs:=rows.zipIdx 0) (fun pre τ G'=>(∃ a b c,τ=[some (enc rows),some (.ref p),a,b,c])/\jV G G'/\G' p=some (.jn (bV (dM (pre.map (·.1)) 0)))) ⟨⟨_,_,_,rfl⟩,.new hp,bz⟩ (fun _ _ _ _=>trivial) ?_ ?_
  ·rintro pre x post τ G' N2 e ⟨⟨a,b,c,rfl⟩,l,gp⟩ sA
   obtain⟨pZ,PC,e1,e2,e3⟩:=ot e
   have hx:x.1∈rows:=by rw [e1]; simp
   have ep:pre.map (·.1)=pZ:=by rw [e3,fT]
   rw [ep] at gp
   have eL:dM rows 0=(dM pZ 0++iJ x.1 (x.2:Int))++dM PC (pZ.length+1):=by
    rw [e1,lS,dM,e2,gz,cH]
   have hlen:(dM pZ 0).length+(iJ x.1 (x.2:Int)).length<=27:=by
    rw [eL,au,au] at lY; lia
   have knd:((dM pZ 0++iJ x.1 (x.2:Int)).map (·.1)).Nodup:=by
    have:=vP d
    rw [← j3,eL,aS,cw] at this
    exact this.1
   have eN:dM ((pre++[x]).map (·.1)) 0=dM pZ 0++iJ x.1 (x.2:Int):=by
    rw [aS,ep]
    simp only [ax,bh]
    rw [lS,dM,dM,bS,e2,gz]
   rw [eN] at sA
   have rl:=rQ d hx
   obtain⟨r,k⟩:=x
   simp only at hlen knd sA rl
   generalize hL0:dM pZ 0=L0 at hlen knd sA gp
   simp only [vg,g8,aQ,tM,aC,az]
   by_cases hr:r=[]
   ·subst hr
    have ePr:iJ [] (k:Int)=[((⟨k,2⟩:T2),(⟨k,2⟩:T2))]:=rfl
    rw [ePr] at sA hlen knd
    have NN:(⟨k,2⟩:T2)∉L0.map (·.1):=fun z=>by
     rw [aS,cw] at knd
     exact knd.2.2 _ z _ (by simp) rfl
    refine gZ (fun τ G2=>jV G G2/\G2 p=some (.jn (bV (L0++[((⟨k,2⟩:T2),(⟨k,2⟩:T2))])))/\τ=[some (enc rows),some (.ref p),some (.int k),some (enc ([]:List T3)),c]) ?_ ?_
    ·intro N3 HV
     simp only [g6,cz,i5,aA,aw,af,ae,dC,bC,ak,ay,fv,fb,bA,rE]
     refine⟨by decide,fun p2 f2=>?_⟩
     refine⟨_,_,.Ca,.ref bz .Ca,?_⟩
     have:iy (.d0 []) (.d0 [])=true:=rfl
     simp only [aB,this,bO,if_false,vh,aw,af,ae,i5,aA,dC,bC,ak,ay,cm,if_true]
     refine⟨by decide,?_⟩
     have np:p≠p2:=fun z=>by rw [← z,gp] at f2; cases f2
     refine⟨by decide,P.nI (k:=(⟨k,2⟩:T2)) (v:=(⟨k,2⟩:T2)) (l:=L0) ((jV.new f2) _ _ gp) (by simp only [ak,ay] at hlen; lia) ?_⟩
     refine HV _ _ ⟨(l.trans (.new f2)).put hp,?_,rfl⟩
     rw [bz,vt NN]
    ·rintro _ G2 ⟨l2,g2,rfl⟩
     simp only [gN,gQ,sE,aA,aw,af,ae,bC]
     refine vp (IsL.enc ([]:List T3)) ?_
     simp only [bh,ay,fM]
     refine⟨by decide,by decide,?_⟩
     refine wy (fun pre τ G'=>pre=[]/\G2=G'/\τ=[some (enc rows),some (.ref p),some (.int k),some (enc ([]:List T3)),c]) ⟨rfl,rfl,rfl⟩ (fun _ _ _ _=>trivial) ?_ ?_
     ·rintro pre y post τ G3 N3 e4 _ _
      have:=congrArg dg e4
      simp [fq] at this
     ·rintro τ G3 ⟨_,rfl,rfl⟩
      exact sA _ _ ⟨⟨_,_,_,rfl⟩,l2,g2⟩
   ·refine gZ (fun τ G2=>jV G G2/\G2 p=some (.jn (bV L0))/\τ=[some (enc rows),some (.ref p),some (.int k),some (enc r),c]) ?_ ?_
    ·intro N3 HV
     simp only [g6,cz,i5,aA,aw,af,ae,dC,bC,ak,ay,fv,fb,bA,rE]
     refine⟨by decide,fun p2 f2=>?_⟩
     refine⟨_,_,Enc.sn _ _ _ (by decide),.ref bz .Ca,?_⟩
     have:iy (enc r) (.d0 [])=false:=by
      have:=Enc.eqv r []
      rw [show (enc ([]:List T3):D)=.d0 [] from rfl] at this
      rw [this]; simp [hr]
     simp only [aB,this,cF,if_false,cm]
     exact HV _ _ ⟨l.trans (.new f2),(jV.new f2) _ _ gp,rfl⟩
    ·rintro _ G2 ⟨l2,g2,rfl⟩
     have es:bI r (k:Int)=r.map T3.s:=by unfold bI; rw [if_neg hr]
     have ss:(bI r (k:Int)).length=r.length:=by rw [es,aj]
     simp only [gN,gQ,sE,aA,aw,af,ae,bC]
     refine vp (IsL.enc r) ?_
     simp only [aj,fM]
     refine⟨by lia,by lia,?_⟩
     rw [bH]
     refine wy (fun pre τ G'=>jV G G'/\G' p=some (.jn (bV (L0++kY (jO (bI r k) k) ((bI r k).take pre.length))))/\∃ a,τ=[some (enc rows),some (.ref p),some (.int k),some (enc r),a]) ⟨l2,by rw [ay,IK]; show _=some (GO.jn (bV (L0++[]))); rw [bS]; exact g2,_,rfl⟩ (fun _ _ _ _=>trivial) ?_ ?_
     ·rintro pr y po τ G3 N3 e4 ⟨l3,g3,a,rfl⟩ HV
      obtain⟨rfl,nB⟩:=lP e4
      have ha:rK (r.map enc) ((pr.length:Nat):Int)=some (enc r[pr.length]):=by
       rw [mY _ (by lia) (by rw [aj]; lia)]
       simp only [gq,bH]
      simp only [aQ,cz,cg,aA,aw,aC,az,af,ae,bC,vh,C1,bA,fS,jN,dC,fZ]
      refine⟨r,k,_,pr.length,rfl,⟨nB,rl⟩,.inl rfl,?_⟩
      refine jH (IsL.enc r) ha ?_
      simp only [mh,oM,ak,ay,Ri]
      have et:(bI r (k:Int)).take (pr.length+1)=(bI r (k:Int)).take pr.length++[(r[pr.length]).s]:=by
       rw [GV (by lia)]; congr 2; simp [es]
      have ev:iO r k pr.length=kP (((bI r (k:Int)).take pr.length).foldl kP (jO (bI r k) k)) (r[pr.length]).s:=by
       rw [we r k pr.length hr,et,rN]; rfl
      have NN:(r[pr.length]).s∉(L0++kY (jO (bI r k) k) ((bI r k).take pr.length)).map (·.1):=fun z=>by
       have e5:iJ r (k:Int)=kY (jO (bI r k) k) ((bI r k).take pr.length)++kY (((bI r k).take pr.length).foldl kP (jO (bI r k) k)) ((bI r k).drop pr.length):=by
        unfold iJ
        rw [← qZ,fh]
       rw [e5,← cH,aS,cw] at knd
       refine knd.2.2 _ z _ ?_ rfl
       rw [j7,List.mem_drop_iff_getElem]
       exact⟨0,by lia,by simp [es]⟩
      refine⟨by decide,P.nI (k:=(r[pr.length]).s) (v:=iO r k pr.length) g3 ?_ ?_⟩
      ·rw [au,vd,dj]; lia
      ·refine HV _ _ ⟨l3.put hp,?_,_,rfl⟩
       rw [bz,vt NN,au,cE,et,qZ,ev,cH]; rfl
     ·rintro τ G3 ⟨l3,g3,a,rfl⟩
      refine sA _ _ ⟨⟨_,_,_,rfl⟩,l3,?_⟩
      rw [g3,show (fq 0 r.length).length=r.length by simp [fq],fX (by lia)]; rfl
  ·rintro τ G' ⟨⟨a,b,c,rfl⟩,l,gp⟩
   rw [fT] at gp
   exact hN _ _ ⟨⟨_,_,_,rfl⟩,l,gp⟩
 ·rintro _ G' ⟨⟨a,b,c,rfl⟩,l,gp⟩
  simp only [dO,h8,aw,af,ae]
  exact zr l hp gp q
end IA
end K2
end
section
namespace K2
open PySem (Str)
open Enc (enc)
namespace IA
open K2.P
open K2.Gq hiding jq
noncomputable def xa:iz :=
 (da (cz (cg d8 (aA (aw 0) bC)) (aQ 1))
 (dO (h8 (sE sf (aA (gS 1 [1] (E5 (aw 1)) (aQ 0) none (bA lR (aw 1) (aw 0))) bC)))))
noncomputable def eR:mz:=kj
theorem vV{rows:Rows}(d:Dr rows):((dM rows 0).map (·.1)).Nodup:=by rw [j3]; exact vP d
theorem FT(ds:List D)(G:Gp)(Q:DK)(h:eR ds G Q fun _ _=>False):xa (fun _ _=>False) (ends Q) (bM 2 ds) G:=by
 obtain⟨rows,rfl,⟨d,nb,my⟩,q⟩:=h
 have lY:=oN d
 have pos:=Cg my
 have bo:=fun m nd hm=>JV (m:=m) d nd hm
 have knd:=vV d
 unfold xa
 simp only [ends,bM,ax,bh,ak,ay,bF,aT,bg,eZ,cz,cg,aA,aw,ae,bC,aQ,dO,h8,sE,gS,aC,az]
 refine⟨rows,rfl,⟨d,nb⟩,?_⟩
 generalize dM rows 0=l at lY pos bo knd
 simp only [E5,aw,af,ae,x8]
 have ek:(bV l).map (·.1)=l.map fun p=>enc p.1:=by unfold bV; rw [cc]; rfl
 rw [ek]
 refine⟨LD (by rw [aj]; lia),?_⟩
 refine mr (xs:=l) (f:=fun p=>enc p.1) (fun pre acc τ G'=>G=G'/\(∃ a,τ=[a,some (.pC (bV l))])/\acc=pre.map fun p=>enc p.2) ⟨rfl,⟨_,rfl⟩,rfl⟩ (fun _ _ _ _ _=>trivial) ?_ ?_
 ·rintro pre x post acc τ G' N e ⟨rfl,⟨a,rfl⟩,rfl⟩ hN
  have hx:x∈l:=by rw [e]; simp
  simp only [aQ,bA,aw,az,af,ae,rR,lV,ju knd hx,Dv]
  exact⟨iq _ _,hN _ _ _ ⟨rfl,⟨_,rfl⟩,by rw [aS]; rfl⟩⟩
 ·rintro acc τ G' ⟨rfl,⟨a,rfl⟩,rfl⟩ p1 f1
  refine⟨l.map (·.2),?_,by rw [aj]; lia,fun m nd hm p2 f2=>?_⟩
  ·unfold pH; simp only [bz]; rw [cc]; rfl
  ·rw [bo m nd hm]
   exact nj ((jV.new f1).trans (.new f2)) ((jV.new f1).free f2) bz q
theorem rG{rows:Rows}(d:Dr rows):(fJ rows).length<=27:=by
 rw [Ox]
 have h1:=d.lY
 have h2:=d.str
 have go:∀ rs:Rows,(rs.map cnt).sum<=rs.flatten.length+rs.length:=fun rs=>by
  induction rs with
  | nil=>exact aF _
  | cons r rs ih =>
   rw [ax,List.sum_cons,bG,au,ak]
   have:cnt r<=r.length+1:=by
    unfold cnt
    have:=fm (fun p:T3=>p.b == 1) r
    lia
   lia
 have:=go rows
 lia
noncomputable def jq:iz :=
 (da (cz (gS 1 [] (mU (aw 1)) (aQ 0) none (rE bC)) (aQ 3))
 (da (cz (aw 2) (aQ 4))
 (da (gN (tL (aw 0)) (aQ 5) (da (cz (bA lD (bA mF (bA mF (aw 4) (dC (.int 1))) (cg eQ (aA (aw 5) (aA (dC (.int 1009)) (aA (dC (.int 83)) bC))))) (dC (.int 999))) (aQ 4))
 (da (cz (bA xB (dC (.int 1)) (bA xC (dC (.int 2)) (cg eQ (aA (aw 5) (aA (dC (.int 1013)) (aA (dC (.int 2)) bC)))))) (aQ 6))
 (gN (mU (dC (.int 2))) (aQ 7) (da (cz (bA lR (aw 3) (cg eQ (aA (aw 5) (aA (bA mF (dC (.int 1019)) (bA xC (dC (.int 2)) (aw 7))) (aA (aw 1) bC))))) (aQ 8))
 (iK (By AW uT (aw 8) (aA (cg eQ (aA (aw 5) (aA (bA mF (dC (.int 1031)) (bA xC (dC (.int 2)) (aw 7))) (aA (bA mF (sE rF (aA (aw 8) bC)) (dC (.int 1))) bC)))) (aA (i5 (aA (bA mF (aw 4) (dC (.int 1))) (aA (aw 7) (aA (aw 6) bC)))) bC)))))))))
 (dO (h8 (aw 3))))))
noncomputable def kr:mz:=Gq.uw
theorem FQ(ds:List D)(G:Gp)(Q:DK)(h:kr ds G Q fun _ _=>False):jq (fun _ _=>False) (ends Q) (bM 9 ds) G:=Gq.Dl ds G Q h
theorem JP{i:Nat}{t:iz}{E:kc}{K:jW}{τ:gY}{G:Gp}:S2 i t E K τ G=t E { K with nx:=fun pY G1=>match pY[i]? with
 | some (some d)=>QL G1 d fun t G2=>K.nx (pY.set i (some t)) G2
 | _=>False } τ G:=rfl
end IA
end K2
end
section
namespace K2
open PySem (Str)
open Enc (enc)
namespace O6
open K2.P
open K2.IA (NB kj fL d8 eR dM iJ kY qZ j7 vd jO kP fJ yt OQ Pl iO we sv GP BU vV oN j3 lS uQ rG rQ He eq_int g6 oI Cg)
open K2.Gq (PQ PR V5 Eo z3)
variable {rows:Rows}
noncomputable def hm(rows:Rows)(s:T2):T2:=(pS (dM rows 0) s).getD s
theorem va(d:Dr rows){s:T2}(h:s∈iN rows 0):pS (dM rows 0) s=some (hm rows s)/\hm rows s∈fJ rows:=by
 rw [← j3] at h
 obtain⟨p,hp,rfl⟩:=List.mem_map.mp h
 have e:=ju (vV d) hp
 have e2:hm rows p.1=p.2:=by unfold hm; rw [e]; rfl
 refine⟨by rw [e2]; exact e,?_⟩
 rw [e2]
 unfold fJ
 exact IV.mpr ((uQ rows 0 _).mp (cV hp))
theorem mJ:∀ (rs:Rows) (k:Nat) {p:T3},p∈rs.flatten->p.s∈iN rs k
 | [],_,_,h=>by cases h
 | r :: rs,k,p,h=>by
  rw [bG] at h
  rw [iN]
  rcases List.mem_append.mp h with h | h
  ·refine fF _ ?_
   unfold bI
   rw [if_neg (fun z=>by rw [z] at h; cases h)]
   exact cV h
  ·exact bR _ (mJ rs (k+1) h)
theorem r0(d:Dr rows){n:Int}(h:n∈names rows)(w:Int)(hw:w=0\/w=1):∃ p∈rows.flatten,p.s=⟨n,w⟩:=by
 obtain⟨p,hp,e1,e2⟩:=Be.mp h
 rcases hw with rfl | rfl
 ·exact⟨p,hp,by rw [← e2,← e1]; rfl⟩
 ·refine⟨_,d.KJ p hp,?_⟩
  rw [e1,e2]; rfl
theorem JE:∀ (a:List T2) (b:T2) (j:Nat) (h:j < a.length),(a[j],(a.take (j+1)).foldl kP b)∈kY b a
 | [],_,_,h=>absurd h (cu _)
 | s :: a,b,0,h=>aE
 | s :: a,b,j+1,h=>av _ (JE a (kP b s) j (by simpa using h))
theorem MR{pZ PC:Rows}{r:List T3}{x:T2×T2}(h:x∈iJ r (pZ.length:Int)):x∈dM (pZ++r :: PC) 0:=by
 rw [lS,dM]
 refine bR _ (fF _ ?_)
 rw [gz]; exact h
theorem NO(d:Dr rows){pZ PC:Rows}{r:List T3}(e:rows=pZ++r :: PC){j:Nat}(hj:j < r.length):hm rows (r[j]).s=iO r (pZ.length:Int) j:=by
 have hr:r≠[]:=fun z=>by rw [z] at hj; exact absurd hj (cu _)
 have es:bI r (pZ.length:Int)=r.map T3.s:=by unfold bI; rw [if_neg hr]
 have m:((r[j]).s,iO r (pZ.length:Int) j)∈dM rows 0:=by
  rw [e]
  refine MR ?_
  rw [we r _ j hr]
  have:=JE (bI r (pZ.length:Int)) (jO (bI r (pZ.length:Int)) (pZ.length:Int)) j (by rw [es,aj]; exact hj)
  have e2:(bI r (pZ.length:Int))[j]'(by rw [es,aj]; exact hj)=(r[j]).s:=by simp [es]
  rw [e2] at this
  exact this
 unfold hm
 rw [ju (vV d) m]; rfl
theorem SI(d:Dr rows){p:T3}(hp:p∈rows.flatten)(hb:p.b=1):hm rows p.s=p.s:=by
 obtain⟨r,hr,hpr⟩:=List.mem_flatten.mp hp
 obtain⟨pZ,PC,e⟩:=Ac hr
 obtain⟨j,hj,rfl⟩:=dI hpr
 rw [NO d e hj]
 unfold iO
 have:(sv r j).find? (fun p=>p.b == 1)=some r[j]:=by
  unfold sv
  have e3:(r.take (j+1)).reverse=r[j] :: (r.take j).reverse:=by rw [← rM hj,xS]; rfl
  rw [e3,aT,t8 (by simp [hb])]
 rw [this]; rfl
theorem QA(d:Dr rows){r:List T3}(hr:r∈rows){j:Nat}(hj:j < r.length):O3 rows (r[j]).s=(r[(j+r.length - 1) % r.length]'(jv _ (by lia))).s:=by
 have m:(PQ r j,r.getD j z3)∈pairsOf rows:=by
  rw [← (Eo rows).mem_iff]
  unfold V5
  refine List.mem_flatMap.mpr ⟨r,hr,?_⟩
  unfold PR
  exact List.mem_map.mpr ⟨j,List.mem_range.mpr hj,rfl⟩
 have e1:r.getD j z3=r[j]:=by rw [aL,ah hj]; rfl
 have e2:PQ r j=r[(j+r.length - 1) % r.length]'(jv _ (by lia)):=by
  unfold PQ
  by_cases c:j=0
  ·subst c
   rw [if_pos rfl,aL,ah (by lia)]
   show r[r.length - 1]=_
   congr 1
   rw [gz,t7 (by lia)]
  ·obtain⟨i,rfl⟩:=Nat.exists_eq_succ_of_ne_zero c
   have hi:i < r.length:=Nat.lt_of_succ_lt hj
   rw [if_neg c,aL,Nat.succ_sub_one,ah hi]
   show r[i]=_
   congr 1
   rw [show i.succ+r.length - 1=i+r.length by rw [Dw]; rfl,Nat.add_mod_right,t7 hi]
 rw [e1,e2] at m
 exact(Ol d m).2
noncomputable def ix(rows:Rows)(s:T2):Int:=((fJ rows).idxOf s:Nat)
noncomputable def DZ(rows:Rows)(n:Int):T3:=⟨ix rows (hm rows ⟨n,0⟩),ix rows (hm rows (O3 rows ⟨n,1⟩)),ix rows (hm rows ⟨n,1⟩)⟩
theorem Nu{s:T2}(h:s∈fJ rows):0<=ix rows s/\ix rows s < (fJ rows).length:=by
 unfold ix
 have:=Ge h
 lia
theorem nR{x:D}{G:Gp}{l:List T2}{n:T2}{Q:DK}(h:IsL G x (l.map enc))(hn:n∈l)(q:Q (.int ((l.idxOf n:Nat):Int)) G):oV x [enc n] G Q:=by
 refine⟨ql h,l.map enc,enc n,l.map enc,o6 h,Enc.sn _ _ _ (by decide),yz (α:=T2) _ 7 (by decide) l,?_⟩
 have e:(l.map enc).findIdx? (iy · (enc n))=some (l.idxOf n):=by
  rw [List.findIdx?_map]
  have:((fun x=>iy x (enc n))∘(enc:T2->D))=fun y=>y == n:=by
   funext y
   show iy (enc y) (enc n)=(y == n)
   rw [Enc.eqv]; rfl
  rw [this,List.findIdx?_eq_some_iff_getElem]
  have hi:=Ge hn
  exact⟨hi,by simp,fun j hj=>by
   have:=List.not_of_lt_findIdx (p:=(· == n)) (xs:=l) hj
   simpa using this⟩
 rw [e]
 exact q
theorem ab7(a b c:D):rK [a,b,c] 2=some c:=rfl
theorem wJ(d:Dr rows){p:T3}(h:p∈rows.flatten):pS (lG (i0 (pairsOf rows))) p.s=some (O3 rows p.s)/\O3 rows p.s∈iN rows 0:=by
 obtain⟨q,hq,hqf⟩:=NU h
 rw [Im d]
 have:=Ol d hq
 exact⟨by rw [this.2]; exact this.1,by rw [this.2]; exact mJ rows 0 hqf⟩
noncomputable def uG:iz :=
 (da (cz (cg kj (aA (aw 0) bC)) (aQ 1))
 (da (cz (cg fL (aA (aw 0) bC)) (aQ 2))
 (da (cz (cg lB (aA (aw 0) bC)) (aQ 3))
 (da (cz (rE bC) (aQ 4))
 (da (gN (tL (cg mM (aA (aw 0) bC))) (aQ 5) (da (cz (i5 (aA (bA lR (aw 2) (i5 (aA (aw 5) (aA (dC (.int 0)) bC)))) (aA (bA lR (aw 2) (bA lR (aw 3) (i5 (aA (aw 5) (aA (dC (.int 1)) bC))))) (aA (bA lR (aw 2) (i5 (aA (aw 5) (aA (dC (.int 1)) bC)))) bC)))) (aQ 6))
 (iK (By AW uU (aw 4) (aA (i5 (aA (By AW oV (aw 1) (aA (bA lR (aw 6) (dC (.int 0))) bC)) (aA (By AW oV (aw 1) (aA (bA lR (aw 6) (dC (.int 1))) bC)) (aA (By AW oV (aw 1) (aA (bA lR (aw 6) (dC (.int 2))) bC)) bC)))) bC)))))
 (dO (h8 (aw 4))))))))
noncomputable def ly:mz:=fun ds G Q _=>∃ rows:Rows,ds=[enc rows]/\(Dr rows/\NB rows/\rows≠[])/\Q (enc ((names rows).map (DZ rows))) G
theorem Bf(d:Dr rows):(names rows).length<=24:=by
 unfold names
 rw [IW,aj]
 exact cv (fm _ _) d.lY
theorem Dk(ds:List D)(G:Gp)(Q:DK)(h:ly ds G Q fun _ _=>False):uG (fun _ _=>False) (ends Q) (bM 7 ds) G:=by
 obtain⟨rows,rfl,⟨d,nb,my⟩,q⟩:=h
 have lY:=d.lY
 have nf:=Bf d
 unfold uG
 simp only [ends,bM,ax,bh,ak,ay,bF,aT,bg,eZ,cz,cg,aA,aw,ae,bC,aQ,aC,az,rE]
 refine⟨rows,rfl,⟨d,nb,my⟩,?_⟩
 refine⟨rows,rfl,⟨d,nb⟩,?_⟩
 refine⟨rows,rfl,by lia,?_⟩
 simp only [h8,bM,ends,fb,bA,JL,aw,sE,By,aA,bC,dO,Rg,iK,cz,aQ,dC,fv,i5,rE,wH,JN,C3,Rh,Ik,zL,JM,zK,C1,jN,fS,iG,gQ,cg,gS,kz,Eh,uO,uN,ky,lQ,iY,rS,yK,Cf,Jc,Jf,Jg,ie,uM,oM,Cd,Ce,zO,FC,BB,mS,qQ,qP,pG,rP,BY,IS,IQ,true_and,and_true,JB,JA,fZ,cm,fM,E3,Jz,E1,ax,bh,aT,bg,ae,af,az,aC,ak,ay,bF,if_true,if_false,bO,cF,aB,eZ,qt]
 refine⟨by decide,fun p hp=>?_⟩
 refine gZ (fun τ G'=>jV G G'/\G' p=some (.lst (((names rows).map (DZ rows)).map enc))/\∃ a b c e f g,τ=[a,b,c,e,some (.ref p),f,g]) ?_ ?_
 ·intro N hN
  simp only [gN,iG,cg,aA,aw,ae,bC]
  refine⟨rows,rfl,(show rows.flatten.length < 64 by lia),?_⟩
  refine lF ?_
  refine je (xs:=names rows) (f:=D.int) (fun pre τ G'=>jV G G'/\G' p=some (.lst ((pre.map (DZ rows)).map enc))/\∃ f g,τ=[some (enc rows),some (enc (fJ rows)),some (.pC (bV (dM rows 0))),some (.pC (bV (lG (i0 (pairsOf rows))))),some (.ref p),f,g]) ⟨.new hp,bz,_,_,rfl⟩ (fun _ _ _ _=>trivial) ?_ ?_
  ·rintro pre n post τ G' N2 e ⟨le,gp,f,g,rfl⟩ sA
   have hn:n∈names rows:=by rw [e]; simp
   have hlp:pre.length < (names rows).length:=by have:=congrArg dg e; simp at this; lia
   obtain⟨p0,m0,e0⟩:=r0 d hn 0 (.inl rfl)
   obtain⟨p1,m1,e1⟩:=r0 d hn 1 (.inr rfl)
   have a0:=va d (s:=⟨n,0⟩) (by rw [← e0]; exact mJ rows 0 m0)
   have a1:=va d (s:=⟨n,1⟩) (by rw [← e1]; exact mJ rows 0 m1)
   obtain⟨c1,c2⟩:=wJ d m1
   rw [e1] at c1 c2
   have a2:=va d c2
   have l0:look (bV (dM rows 0)) (.tup [.int n,.int 0])=some (enc (hm rows ⟨n,0⟩)):=by
    have:=lV (dM rows 0) (⟨n,0⟩:T2)
    rw [a0.1] at this; exact this
   have l1:look (bV (dM rows 0)) (.tup [.int n,.int 1])=some (enc (hm rows ⟨n,1⟩)):=by
    have:=lV (dM rows 0) (⟨n,1⟩:T2)
    rw [a1.1] at this; exact this
   have l2:look (bV (lG (i0 (pairsOf rows)))) (.tup [.int n,.int 1])=some (enc (O3 rows ⟨n,1⟩)):=by
    have:=lV (lG (i0 (pairsOf rows))) (⟨n,1⟩:T2)
    rw [c1] at this; exact this
   have l3:look (bV (dM rows 0)) (enc (O3 rows ⟨n,1⟩))=some (enc (hm rows (O3 rows ⟨n,1⟩))):=by
    have:=lV (dM rows 0) (O3 rows ⟨n,1⟩)
    rw [a2.1] at this; exact this
   simp only [aQ,aC,az,eZ,cz,i5,aA,bA,aw,af,ae,dC,bC,ak,ay,iK,By,rP,mS,ie,rR,l1,l2,l3,l0]
   refine⟨by decide,iq (dM rows 0) (⟨n,0⟩:T2),by decide,iq (lG (i0 (pairsOf rows))) (⟨n,1⟩:T2),iq _ _,by decide,iq (dM rows 0) (⟨n,1⟩:T2),by decide,?_⟩
   simp only [gp,true_and]
   have il:IsL G' (enc (fJ rows)) ((fJ rows).map enc):=IsL.enc _
   refine⟨ql il,?_⟩
   simp only [at0,JY,ab7]
   refine nR il a0.2 ⟨ql il,nR il a2.2 ⟨ql il,nR il a1.2 ⟨by decide,?_⟩⟩⟩
   simp only [gp]
   refine⟨Pq (by rw [aj,aj]; lia),sA _ _ ⟨le.put hp,?_,_,_,rfl⟩⟩
   rw [bz,aS,aS]; rfl
  ·rintro τ G' ⟨le,gp,f,g,rfl⟩
   exact hN _ _ ⟨le,gp,_,_,_,_,_,_,rfl⟩
 ·rintro _ G' ⟨le,gp,a,b,c,e,f,g,rfl⟩
  simp only [dO,h8,aw,af,ae]
  exact nj le hp gp q
end O6
end K2
end
section
namespace K2
open PySem (Str)
open Enc (enc)
namespace O6
open K2.P
open K2.IA (NB kj fL d8 eR fJ eq_int g6)
variable {rows:Rows}
noncomputable def P3(p:Int):Prop:=p=3\/p=5\/p=7
theorem OE{p:Int}:([3,5,7]:List Int).contains p=true↔P3 p:=by
 unfold P3
 simp
noncomputable def pD:iz :=
 (nu (iH (Ld true [3,5,7] (aw 0))) wG fv)
noncomputable def jc:mz:=fun ds G Q _=>∃ p:Int,ds=[.int p]/\P3 p/\Q .cY G
theorem xQ(ds:List D)(G:Gp)(Q:DK)(h:jc ds G Q fun _ _=>False):pD (fun _ _=>False) (ends Q) (bM 1 ds) G:=by
 obtain⟨p,rfl,hp,q⟩:=h
 unfold pD
 simp only [ends,bM,ax,bh,ak,ay,aT,bg,g6,fv,fb,Ld,aw,ae,if_true,cm]
 refine⟨p,rfl,?_⟩
 rw [OE.mpr hp]
 simp only [bO,aB,if_false]
 exact q
noncomputable def nJ:iz :=
 (nu (iH (Ld true [3,5,7] (aw 0))) (Ij "NoPrime" (aA (dC (.str "colourings are by 3, 5 or 7")) bC)) fv)
noncomputable def fx:mz:=fun ds G Q E=>∃ p:Int,ds=[.int p]/\¬ P3 p/\E ⟨"NoPrime",[]⟩ (fun _=>none)
theorem wQ(ds:List D)(G:Gp)(Q:DK)(E:kc)(h:fx ds G Q E):nJ E (ends Q) (bM 1 ds) G:=by
 obtain⟨p,rfl,hp,q⟩:=h
 unfold nJ
 simp only [ends,bM,ax,bh,ak,ay,aT,bg,g6,fv,fb,Ld,aw,ae,if_true,cm]
 refine⟨p,rfl,?_⟩
 have e:([3,5,7]:List Int).contains p=false:=by
  cases c:([3,5,7]:List Int).contains p with
  | false=>rfl
  | true=>exact absurd (OE.mp c) hp
 rw [e]
 simp only [cF,if_true]
 unfold Ij
 simp only [aA,dC,bC,ak,ay]
 exact⟨by decide,q⟩
noncomputable def num(ns:List Int)(i:Int):Int:=ns.getD i.toNat 0
noncomputable def kp(ns:List Int)(p:Int)(t:T3):Bool:=decide ((2 * num ns t.a - num ns t.b - num ns t.c) % p=0)
structure In(ns:List Int)(t:T3):Prop where
 a:0<=t.a/\t.a < ns.length
 b:0<=t.b/\t.b < ns.length
 c:0<=t.c/\t.c < ns.length
noncomputable def Sm(ns:List Int):Prop:=∀ i,0<=num ns i/\num ns i < 100
theorem v5{ns:List Int}{i:Int}(h:0<=i/\i < ns.length):rK (ns.map D.int) i=some (.int (num ns i)):=by
 rw [mY _ h.1 (by rw [aj]; exact h.2)]
 simp only [gq]
 unfold num
 rw [aL,ah (by lia)]; rfl
noncomputable def uK:iz :=
 (dO (h8 (sE S6 (aA (gS 3 [2,1] (tL (aw 0)) (vg (g8 (aQ 0) (g8 (aQ 1) (g8 (aQ 2) tM)))) none (bA (xX false) (bA lD (bA xB (bA xB (bA xC (dC (.int 2)) (bA lR (aw 3) (aw 0))) (bA lR (aw 3) (aw 1))) (bA lR (aw 3) (aw 2))) (aw 4)) (dC (.int 0)))) bC))))
noncomputable def jE:mz:=fun ds G Q _=>∃ (ts:List T3) (p:Int) (d:D) (ns:List Int),ds=[enc ts,.int p,d]/\IsL G d (ns.map D.int)/\(ts.length<=100/\0 < p/\Sm ns/\∀ t∈ts,In ns t)/\Q (.bl (ts.all (kp ns p))) G
theorem Ds(ds:List D)(G:Gp)(Q:DK)(h:jE ds G Q fun _ _=>False):uK (fun _ _=>False) (ends Q) (bM 3 ds) G:=by
 obtain⟨ts,p,d,ns,rfl,hd,⟨hl,hp,sm,Qn⟩,q⟩:=h
 unfold uK
 simp only [dO,h8,sE,aA,gS,bM,ax,bh,ak,ay,aT,bg,bC,ends,iG,aw,ae]
 refine lF ⟨LD (by rw [aj]; lia),?_⟩
 refine mr (xs:=ts) (fun pre acc τ G'=>G=G'/\(∃ a b c,τ=[a,b,c,some d,some (.int p)])/\acc=(pre.map (kp ns p)).map D.bl) ⟨rfl,⟨_,_,_,rfl⟩,rfl⟩ (fun _ _ _ _ _=>trivial) ?_ ?_
 ·rintro pre t post acc τ G' N e ⟨rfl,⟨a,b,c,rfl⟩,rfl⟩ hN
  have it:=Qn t (by rw [e]; simp)
  have s1:=sm t.a
  have s2:=sm t.b
  have s3:=sm t.c
  simp only [vg,mh,g8,aQ,tM,bA,dC,aw,az,aC,af,ae]
  refine jH hd (v5 it.a) ?_
  simp only [lQ]
  refine⟨.inl ⟨by decide,by decide⟩,jH hd (v5 it.b) (jH hd (v5 it.c) ?_)⟩
  simp only [ky,iY]
  refine⟨hp,_,_,.int _,.int _,?_⟩
  rw [eq_int]
  refine hN _ _ _ ⟨rfl,⟨_,_,_,rfl⟩,?_⟩
  rw [aS,aS]; rfl
 ·rintro acc τ G' ⟨rfl,⟨a,b,c,rfl⟩,rfl⟩ pa fa
  refine⟨ts.map (kp ns p),o6 (IsL.ref bz),Qq (.new fa) ?_⟩
  have e:(ts.map (kp ns p)).all id=ts.all (kp ns p):=by rw [BQ]; rfl
  rw [e]; exact q
theorem Ml(d:Dr rows){ns:List Int}(hl:ns.length=(fJ rows).length){n:Int}(hn:n∈names rows):In ns (DZ rows n):=by
 obtain⟨p0,m0,e0⟩:=r0 d hn 0 (.inl rfl)
 obtain⟨p1,m1,e1⟩:=r0 d hn 1 (.inr rfl)
 have a0:=va d (s:=⟨n,0⟩) (by rw [← e0]; exact mJ rows 0 m0)
 have a1:=va d (s:=⟨n,1⟩) (by rw [← e1]; exact mJ rows 0 m1)
 have c2:=(wJ d m1).2
 rw [e1] at c2
 have a2:=va d c2
 exact⟨by rw [hl]; exact Nu a0.2,by rw [hl]; exact Nu a2.2,by rw [hl]; exact Nu a1.2⟩
noncomputable def pE:iz :=
 (da (iK (cg jc (aA (aw 1) bC)))
 (dO (h8 (cg jE (aA (cg ly (aA (aw 0) bC)) (aA (aw 1) (aA (aw 2) bC)))))))
noncomputable def jd:mz:=fun ds G Q _=>∃ (rows:Rows) (p:Int) (d:D) (ns:List Int),ds=[enc rows,.int p,d]/\IsL G d (ns.map D.int)/\(Dr rows/\NB rows/\rows≠[])/\(P3 p/\Sm ns/\ns.length=(fJ rows).length)/\Q (.bl (((names rows).map (DZ rows)).all (kp ns p))) G
theorem xR(ds:List D)(G:Gp)(Q:DK)(h:jd ds G Q fun _ _=>False):pE (fun _ _=>False) (ends Q) (bM 3 ds) G:=by
 obtain⟨rows,p,d,ns,rfl,hd,⟨dr,nb,my⟩,⟨hp,sm,hl⟩,q⟩:=h
 unfold pE
 simp only [ends,bM,ax,bh,ak,ay,aT,bg,qt,iK,cg,aA,aw,af,ae,bC,dO,h8]
 refine⟨p,rfl,hp,?_⟩
 refine⟨rows,rfl,⟨dr,nb,my⟩,?_⟩
 refine⟨_,p,d,ns,rfl,hd,⟨?_,?_,sm,fun t ht=>?_⟩,mV q⟩
 ·rw [aj]; have:=Bf dr; lia
 ·rcases hp with h | h | h <;> lia
 ·obtain⟨n,hn,rfl⟩:=List.mem_map.mp ht
  exact Ml dr hl hn
noncomputable def nK:iz :=
 (da (iK (tU fx (aA (aw 1) bC)))
 wG)
noncomputable def iC:mz:=fun ds G Q E=>∃ (d:D) (p:Int) (e:D),ds=[d,.int p,e]/\¬ P3 p/\E ⟨"NoPrime",[]⟩ (fun _=>none)
theorem wR(ds:List D)(G:Gp)(Q:DK)(E:kc)(h:iC ds G Q E):nK E (ends Q) (bM 3 ds) G:=by
 obtain⟨d,p,e,rfl,hp,q⟩:=h
 unfold nK
 simp only [ends,bM,ax,bh,ak,ay,aT,bg,qt,iK,tU,aA,aw,af,ae,bC]
 exact⟨p,rfl,hp,q⟩
noncomputable def A7:iz :=
 (da (iK (tU fx (aA (aw 1) bC)))
 (da wG
 (da wG
 wG)))
noncomputable def j0:mz:=fun ds G Q E=>∃ (d:D) (p:Int),ds=[d,.int p]/\¬ P3 p/\E ⟨"NoPrime",[]⟩ (fun _=>none)
theorem Lj(ds:List D)(G:Gp)(Q:DK)(E:kc)(h:j0 ds G Q E):A7 E (ends Q) (bM 4 ds) G:=by
 obtain⟨d,p,rfl,hp,q⟩:=h
 unfold A7
 simp only [ends,bM,ax,bh,ak,ay,bF,aT,bg,qt,iK,tU,aA,aw,af,ae,bC]
 exact⟨p,rfl,hp,q⟩
noncomputable def Ef:iz :=
 (da (cz (dC (.int 1)) (aQ 2))
 (da (gN (mU (aw 1)) (aQ 3) (cz (bA xC (aw 2) (aw 0)) (aQ 2)))
 (dO (h8 (aw 2)))))
noncomputable def mL:mz:=fun _ _ _ _=>False
theorem FN(ds:List D)(G:Gp)(Q:DK)(h:mL ds G Q fun _ _=>False):Ef (fun _ _=>False) (ends Q) (bM 4 ds) G:=h.elim
noncomputable def ku:iz :=
 (dO (h8 (cg mL (aA (aw 1) (aA (sE rF (aA (tU j0 (aA (aw 0) (aA (aw 1) bC))) bC)) bC)))))
noncomputable def fP:mz:=j0
theorem rL(ds:List D)(G:Gp)(Q:DK)(E:kc)(h:fP ds G Q E):ku E (ends Q) (bM 2 ds) G:=by
 obtain⟨d,p,rfl,hp,q⟩:=h
 unfold ku
 simp only [dO,h8,cg,aA,aw,bM,ax,bh,ak,ay,aT,bg,af,ae,sE,tU,bC,ends]
 exact⟨d,p,rfl,hp,q⟩
end O6
end K2
end
section
namespace K2
open PySem (Str)
open Enc (enc)
namespace O6
open K2.P
open K2.Gq (cZ kG)
open K2.IA (NB kj fL d8 eR dM fJ eq_int g6 iO sv GP BU rQ vV oN rG)
variable {rows:Rows}
noncomputable def uH:iz :=
 (da (gN (tL (aw 0)) (vg (g8 (aQ 3) (g8 (aQ 4) (g8 (aQ 5) tM)))) (nu (iH (bA (xX true) (bA lD (bA xB (bA xB (bA xC (dC (.int 2)) (bA lR (aw 2) (aw 3))) (bA lR (aw 2) (aw 4))) (bA lR (aw 2) (aw 5))) (aw 1)) (dC (.int 0)))) (dO (h8 (dC (.bl false)))) fv))
 (dO (h8 (dC (.bl true)))))
noncomputable def lz:mz:=jE
theorem Dm(ds:List D)(G:Gp)(Q:DK)(h:lz ds G Q fun _ _=>False):uH (fun _ _=>False) (ends Q) (bM 6 ds) G:=by
 obtain⟨ts,p,d,ns,rfl,hd,⟨hl,hp,sm,Qn⟩,q⟩:=h
 unfold uH
 refine gZ (fun τ G'=>G=G'/\(ts.all (kp ns p)=true)/\∃ a b c,τ=[some (enc ts),some (.int p),some d,a,b,c]) ?_ ?_
 ·intro N hN
  simp only [gN,bM,ax,bh,ak,ay,bF,aT,bg,ends,iG,aw,ae]
  refine lF ?_
  refine je (xs:=ts) (fun pre τ G'=>G=G'/\(pre.all (kp ns p)=true)/\∃ a b c,τ=[some (enc ts),some (.int p),some d,a,b,c]) ⟨rfl,rfl,_,_,_,rfl⟩ (fun _ _ _ _=>trivial) ?_ ?_
  ·rintro pre t post τ G' N2 e ⟨rfl,ha,a,b,c,rfl⟩ sA
   have it:=Qn t (by rw [e]; simp)
   have s1:=sm t.a
   have s2:=sm t.b
   have s3:=sm t.c
   simp only [vg,mh,g8,aQ,tM,aC,az,g6,dO,h8,dC,fv,fb,bA,aw,af,ae]
   refine jH hd (v5 it.a) ?_
   simp only [lQ]
   refine⟨.inl ⟨by decide,by decide⟩,jH hd (v5 it.b) (jH hd (v5 it.c) ?_)⟩
   simp only [ky,iY]
   refine⟨hp,_,_,.int _,.int _,?_⟩
   rw [eq_int]
   have ek:kp ns p t=decide ((2 * num ns t.a - num ns t.b - num ns t.c) % p=0):=rfl
   rw [← ek]
   cases hk:kp ns p t with
   | true =>
    simp only [bO,if_true,cm,aB,if_false]
    refine sA _ _ ⟨rfl,?_,_,_,_,rfl⟩
    rw [List.all_append,ha,sH,hk]; rfl
   | false =>
    simp only [cF,if_true,cm]
    have:ts.all (kp ns p)=false:=by rw [e,List.all_append,sH,hk,pX,xw]
    rw [this] at q
    exact mV q
  ·rintro τ G' ⟨rfl,ha,a,b,c,rfl⟩
   exact hN _ _ ⟨rfl,ha,_,_,_,rfl⟩
 ·rintro _ _ ⟨rfl,ha,a,b,c,rfl⟩
  simp only [dO,h8,dC,ends]
  rw [ha] at q
  exact mV q
end O6
end K2
end
section
namespace K2
open PySem (Str)
open Enc (enc)
namespace O6
open K2.P
open K2.Gq (cZ kG)
open K2.IA (NB kj fL d8 eR ji dM fJ eq_int g6 iO rQ vV oN rG)
variable {rows:Rows}
noncomputable def tw(rs:Rows):List T3:=rs.flatten.filter fun p=>p.b == 1
theorem Kb(pre:Rows)(r:List T3):tw (pre++[r])=tw pre++r.filter fun p=>p.b == 1:=by
 unfold tw; rw [hX,List.flatten_singleton,gy]
theorem yr(d:Dr rows){p:T3}(hp:p∈rows.flatten)(hb:p.b=1):p.a∈names rows:=by
 refine Be.mpr ⟨_,d.KJ p hp,?_,rfl⟩
 show 1 - p.b=0
 lia
theorem OB(d:Dr rows)(f:T3->Bool):((names rows).map (DZ rows)).all f=((tw rows).map fun p=>DZ rows p.a).all f:=by
 rw [Bool.eq_iff_iff,iA,iA]
 constructor
 ·intro h t ht
  obtain⟨p,hp,rfl⟩:=List.mem_map.mp ht
  obtain⟨h1,h2⟩:=List.mem_filter.mp hp
  exact h _ (cV (yr d h1 (by simpa using h2)))
 ·intro h t ht
  obtain⟨n,hn,rfl⟩:=List.mem_map.mp ht
  obtain⟨p,hp,e⟩:=r0 d hn 1 (.inr rfl)
  have ea:p.a=n:=congrArg T2.a e
  have eb:p.b=1:=congrArg T2.b e
  have:=h (DZ rows p.a) (List.mem_map.mpr ⟨p,List.mem_filter.mpr ⟨hp,by simp [eb]⟩,rfl⟩)
  rw [ea] at this; exact this
noncomputable def sL:iz :=
 (da (cz (cg d8 (aA (aw 0) bC)) (aQ 1))
 (da (cz (cg eR (aA (aw 0) bC)) (aQ 2))
 (da (cz (rE bC) (aQ 3))
 (da (gN (zk (aw 0)) (vg (g8 (aQ 4) (g8 (aQ 5) tM))) (gN (mU (sE rF (aA (aw 5) bC))) (aQ 6) (nu (iH (bA (xX false) (bA lR (bA lR (aw 5) (aw 6)) (dC (.int 1))) (dC (.int 1)))) (da (cz (By AW oV (aw 2) (aA (bA lR (aw 1) (i5 (aA (bA lR (bA lR (aw 5) (aw 6)) (dC (.int 0))) (aA (dC (.int 0)) bC)))) bC)) (aQ 7))
 (da (cz (By AW oV (aw 2) (aA (cg ji (aA (aw 5) (aA (aw 4) (aA (bA xB (aw 6) (dC (.int 1))) bC)))) bC)) (aQ 8))
 (iK (By AW uU (aw 3) (aA (i5 (aA (aw 7) (aA (aw 8) (aA (By AW oV (aw 2) (aA (C1 (bA lR (aw 5) (aw 6)) fS (pL (dC (.int 2)))) bC)) bC)))) bC))))) fv)))
 (dO (h8 (aw 3)))))))
noncomputable def kh:mz:=fun ds G Q _=>∃ rows:Rows,ds=[enc rows]/\(Dr rows/\NB rows/\rows≠[])/\Q (enc ((tw rows).map fun p=>DZ rows p.a)) G
theorem AK(ds:List D)(G:Gp)(Q:DK)(h:kh ds G Q fun _ _=>False):sL (fun _ _=>False) (ends Q) (bM 9 ds) G:=by
 obtain⟨rows,rfl,⟨d,nb,my⟩,q⟩:=h
 have lY:=d.lY
 unfold sL
 simp only [ends,bM,ax,bh,ak,ay,bF,aT,bg,eZ,cz,cg,aA,aw,ae,bC,aQ,aC,az,rE]
 refine⟨rows,rfl,⟨d,nb⟩,?_⟩
 refine⟨rows,rfl,⟨d,nb,my⟩,?_⟩
 simp only [h8,bM,ends,fb,bA,JL,aw,sE,By,aA,bC,dO,Rg,iK,cz,aQ,dC,fv,i5,rE,wH,JN,C3,Rh,Ik,zL,JM,zK,C1,jN,fS,iG,gQ,cg,gS,kz,Eh,uO,uN,ky,lQ,iY,rS,yK,Cf,Jc,Jf,Jg,ie,uM,oM,Cd,Ce,zO,FC,BB,mS,qQ,qP,pG,rP,BY,IS,IQ,true_and,and_true,JB,JA,fZ,cm,fM,E3,Jz,E1,ax,bh,aT,bg,ae,af,az,aC,ak,ay,bF,if_true,if_false,bO,cF,aB,eZ,qt]
 refine⟨by decide,fun p hp=>?_⟩
 refine gZ (fun τ G'=>jV G G'/\G' p=some (.lst (((tw rows).map fun p=>DZ rows p.a).map enc))/\∃ a b c e f g i h,τ=[a,b,c,some (.ref p),e,f,g,i,h]) ?_ ?_
 ·intro N hN
  simp only [gN,zk,aw,ae]
  refine qT ?_
  rw [zy]
  refine je (xs:=rows.zipIdx 0) (fun pre τ G'=>jV G G'/\G' p=some (.lst (((tw (pre.map (·.1))).map fun p=>DZ rows p.a).map enc))/\∃ e f g i h,τ=[some (enc rows),some (.pC (bV (dM rows 0))),some (enc (fJ rows)),some (.ref p),e,f,g,i,h]) ⟨.new hp,bz,_,_,_,_,_,rfl⟩ (fun _ _ _ _=>trivial) ?_ ?_
  ·rintro pre x post τ G' N2 e ⟨le,gp,b1,b2,b3,b4,b5,rfl⟩ sA
   obtain⟨pZ,PC,e1,e2,e3⟩:=ot e
   have hx:x.1∈rows:=by rw [e1]; simp
   have ep:pre.map (·.1)=pZ:=by rw [e3,fT]
   rw [ep] at gp
   have eN:tw ((pre++[x]).map (·.1))=tw pZ++x.1.filter fun p=>p.b == 1:=by
    rw [aS,ep]
    exact Kb pZ x.1
   rw [eN] at sA
   have rl:=rQ d hx
   have ul:(tw pZ).length<=24:=by
    have h1:pZ.flatten.length<=rows.flatten.length:=by rw [e1,hX,au]; lia
    exact cv (fm _ _) (by lia)
   obtain⟨r,k⟩:=x
   simp only at e1 e2 hx rl sA
   subst e2
   simp only [vg,g8,aQ,tM,gN,aC,az,gQ,sE,aA,aw,af,ae,bC]
   refine vp (IsL.enc r) ?_
   simp only [aj,fM]
   refine⟨by lia,by lia,?_⟩
   rw [bH]
   refine wy (fun pr τ G2=>jV G G2/\G2 p=some (.lst (((tw pZ++(r.take pr.length).filter fun p=>p.b == 1).map fun p=>DZ rows p.a).map enc))/\∃ g i h,τ=[some (enc rows),some (.pC (bV (dM rows 0))),some (enc (fJ rows)),some (.ref p),some (.int (pZ.length:Int)),some (enc r),g,i,h]) ⟨le,by rw [ay,IK,vG,bS]; exact gp,_,_,_,rfl⟩ (fun _ _ _ _=>trivial) ?_ ?_
   ·rintro pr y po τ G2 N3 e4 ⟨l2,g2,c1,c2,c3,rfl⟩ HV
    obtain⟨rfl,nB⟩:=lP e4
    have ha:rK (r.map enc) ((pr.length:Nat):Int)=some (enc r[pr.length]):=by
     rw [mY _ (by lia) (by rw [aj]; lia)]
     simp only [gq,bH]
    have Ww:r[pr.length]∈rows.flatten:=List.mem_flatten.mpr ⟨r,hx,bT nB⟩
    have et:r.take (pr.length+1)=r.take pr.length++[r[pr.length]]:=by rw [rM nB]
    simp only [aQ,aC,az,g6,eZ,cz,By,aw,af,ae,aA,bA,i5,dC,bC,ak,ay,cg,iK,rP,C1,fS,mS,jN,fZ,ky,fv,fb]
    refine jH (IsL.enc r) ha ?_
    simp only [mh,ie,JY]
    refine⟨_,_,.int _,.int _,?_⟩
    rw [eq_int]
    by_cases c:(r[pr.length]).b=1
    ·simp only [aB,c,decide_true,bO,if_false,cm,if_true]
     have il:∀ G',IsL G' (enc (fJ rows)) ((fJ rows).map enc):=fun _=>IsL.enc _
     refine⟨ql (il _),jH (IsL.enc r) ha ?_⟩
     simp only [mh,ie,at0]
     have hn:=yr d Ww c
     obtain⟨p0,m0,e0⟩:=r0 d hn 0 (.inl rfl)
     have a0:=va d (s:=⟨(r[pr.length]).a,0⟩) (by rw [← e0]; exact mJ rows 0 m0)
     have es:(r[pr.length]).s=⟨(r[pr.length]).a,1⟩:=by rw [← c]; rfl
     have hu:=SI d Ww c
     have a1:=va d (s:=(r[pr.length]).s) (mJ rows 0 Ww)
     have hc:=QA d hx nB
     have Wz:(pr.length+r.length - 1) % r.length < r.length:=jv _ (by lia)
     have UO:=NO d e1 Wz
     have a2:=va d (wJ d Ww).2
     rw [hc,UO] at a2
     have et3:DZ rows (r[pr.length]).a=⟨ix rows (hm rows ⟨(r[pr.length]).a,0⟩),ix rows (iO r (pZ.length:Int) ((pr.length+r.length - 1) % r.length)),ix rows (r[pr.length]).s⟩:=by
      unfold DZ
      rw [← es,hu,hc,UO]
     have l0:look (bV (dM rows 0)) (.tup [.int (r[pr.length]).a,.int 0])=some (enc (hm rows ⟨(r[pr.length]).a,0⟩)):=by
      have:=lV (dM rows 0) (⟨(r[pr.length]).a,0⟩:T2)
      rw [a0.1] at this; exact this
     simp only [rR,l0]
     refine⟨by decide,iq (dM rows 0) (⟨(r[pr.length]).a,0⟩:T2),nR (il _) a0.2 ?_⟩
     refine⟨ql (il _),r,_,_,(pr.length+r.length - 1) % r.length,rfl,⟨Wz,rl⟩,?_,nR (il _) a2.2 ?_⟩
     ·by_cases z:pr.length=0
      ·refine .inr ⟨by rw [z]; rfl,?_⟩
       rw [z,gz,t7 (by lia)]; lia
      ·refine .inl ?_
       rw [show pr.length+r.length - 1=(pr.length - 1)+r.length by lia,Nat.add_mod_right,t7 (by lia)]
       lia
     simp only [g2,true_and]
     refine⟨ql (il _),jH (IsL.enc r) ha ?_⟩
     simp only [mh,oM,ak,ay,Ri]
     have a1':(r[pr.length]).s∈fJ rows:=by have:=a1.2; rw [hu] at this; exact this
     refine⟨by decide,nR (n:=(r[pr.length]).s) (il _) a1' ⟨by decide,?_⟩⟩
     simp only [g2]
     refine⟨Pq ?_,HV _ _ ⟨l2.put hp,?_,_,_,_,rfl⟩⟩
     ·rw [aj,aj,au]
      have:=fm (fun p:T3=>p.b == 1) (r.take pr.length)
      rw [dj] at this
      lia
     ·rw [bz,au,cE,et,gy,eE (by simp [c]),vG,← cH]
      simp only [aS,ax,bh,et3]
      rfl
    ·simp only [aB,c,decide_false,cF,if_false,cm]
     refine HV _ _ ⟨l2,?_,_,_,_,rfl⟩
     rw [g2,au,cE,et,gy,fI (by simp [c]),vG,bS]
   ·rintro τ G2 ⟨l2,g2,c1,c2,c3,rfl⟩
    refine sA _ _ ⟨l2,?_,_,_,_,_,_,rfl⟩
    rw [g2,show (fq 0 r.length).length=r.length by simp [fq],fX (aF _)]
  ·rintro τ G' ⟨le,gp,b1,b2,b3,b4,b5,rfl⟩
   rw [fT] at gp
   exact hN _ _ ⟨le,gp,_,_,_,_,_,_,_,_,rfl⟩
 ·rintro _ G' ⟨le,gp,a,b,c,e,f,g,i,h,rfl⟩
  simp only [dO,h8,aw,af,ae]
  exact nj le hp gp q
noncomputable def qz:iz :=
 (da (cz (dC .cY) (aQ 4))
 (da (Oh (nu (iH (bA (xX false) (aw 0) (dC (.int 0)))) (zJ iC (aA (aw 1) (aA (aw 2) (aA (aw 3) bC))) 5 ["NoPrime","TooMany"] (cz (aw 5) (aQ 4))) (nu (iH (bA (xX false) (aw 0) (dC (.int 1)))) (zJ j0 (aA (aw 1) (aA (aw 2) bC)) 5 ["NoPrime","TooMany"] (cz (aw 5) (aQ 4))) (zJ fP (aA (aw 1) (aA (aw 2) bC)) 5 ["NoPrime","TooMany"] (cz (aw 5) (aQ 4))))))
 (dO (h8 (JQ (JO ["NoPrime","TooMany"] ["NoPrime"] (aw 4)) (Oi (JO ["NoPrime","TooMany"] ["TooMany"] (aw 4))))))))
noncomputable def jD:mz:=fun ds G Q _=>∃ (k p:Int) (d e:D),ds=[.int k,d,.int p,e]/\¬ P3 p/\Q (.bl true) G
theorem zV(ds:List D)(G:Gp)(Q:DK)(h:jD ds G Q fun _ _=>False):qz (fun _ _=>False) (ends Q) (bM 6 ds) G:=by
 obtain⟨k,p,d,e,rfl,hp,q⟩:=h
 unfold qz
 simp only [ends,bM,ax,bh,ak,ay,bF,aT,bg,eZ,cz,dC,aQ,aC,az]
 have e1:(["NoPrime","TooMany"]:List Str).contains "NoPrime" = true:=by decide
 have e2:(["NoPrime"]:List Str).contains "NoPrime" = true:=by decide
 have e3:(["TooMany"]:List Str).contains "NoPrime" = false:=by decide
 refine gZ (fun τ G'=>G=G'/\τ=[some (.int k),some d,some (.int p),some e,some (.exc "NoPrime"),none]) ?_ ?_
 ·intro N hN
  simp only [Oh,g6,fb,bA,aw,ae,dC]
  refine⟨_,_,.int _,.int _,?_⟩
  rw [eq_int]
  by_cases c:k=0
  ·simp only [aB,c,decide_true,bO,if_false,zJ,aA,aw,af,ae,bC,cz,aC,az,aQ,cm,if_true]
   subst c
   refine⟨_,p,_,rfl,hp,e1,hN _ _ ⟨rfl,rfl⟩⟩
  ·simp only [aB,c,decide_false,cF,if_false,cm]
   refine⟨_,_,.int _,.int _,?_⟩
   rw [eq_int]
   by_cases c2:k=1
   ·simp only [aB,c2,decide_true,bO,if_false,zJ,aA,aw,af,ae,bC,cz,aC,az,aQ,cm,if_true]
    subst c2
    refine⟨_,p,rfl,hp,e1,hN _ _ ⟨rfl,rfl⟩⟩
   ·simp only [aB,c2,decide_false,cF,if_false,zJ,aA,aw,af,ae,bC,cz,aC,az,aQ,cm]
    refine⟨_,p,rfl,hp,e1,hN _ _ ⟨rfl,rfl⟩⟩
 ·rintro _ _ ⟨rfl,rfl⟩
  simp only [dO,h8,zL,JO,aw,af,ae,e1,e2,zK,e3,cm,cF,true_and,if_true]
  exact mV q
end O6
end K2
end
section
namespace K2
open PySem (Str)
open Enc (enc)
namespace O6
open K2.P
open K2.Gq (cZ kG)
open K2.IA (NB kj fL d8 eR kr fJ eq_int g6 rG JP)
variable {rows:Rows}
theorem Kr{a:Nat}{xs:List D}{j:Nat}{v:D}{G:Gp}{Q:Gp->Prop}(h:G a=some (.lst xs))(hj:j < xs.length)(q:Q (fN G a (.lst (xs.set j v)))):A4 (.ref a) (.int (j:Int)) v G Q:=by
 unfold A4
 simp only [h]
 have:EY xs.length (j:Int)=some j:=by
  unfold EY
  rw [if_pos (by lia),if_pos (by lia),bH]
 rw [this]; exact q
noncomputable def uJ:iz :=
 (da (cz (bA lD (cg cZ (aA (aw 0) (aA (dC (.int 1)) bC))) (aw 2)) (aQ 3))
 (da (cz (gS 1 [3] (mU (aw 1)) (aQ 0) none (aw 1)) (aQ 4))
 (da (gN (mU (aw 1)) (aQ 5) (da (cz (cg cZ (aA (aw 0) (aA (bA mF (dC (.int 8)) (aw 5)) bC))) (aQ 6))
 (nu (Rh (iH (bA (xX false) (bA lD (cg cZ (aA (aw 0) (aA (dC (.int 2)) bC))) (dC (.int 3))) (dC (.int 1)))) (C3 (iH (bA (xX false) (bA lD (cg cZ (aA (aw 0) (aA (dC (.int 2)) bC))) (dC (.int 3))) (dC (.int 2)))) (iH (bA (xX false) (bA lD (aw 6) (dC (.int 5))) (dC (.int 4)))))) (cz (bA lD (bA yL (aw 6) (dC (.int 5))) (aw 2)) (vh (aw 4) (aw 5))) fv)))
 (dO (h8 (aw 4))))))
noncomputable def lA:mz:=fun ds G Q _=>∃ (cs:List Int) (w:Nat) (p:Int),ds=[.d0 (cs.map D.int),.int w,.int p]/\(w<=100/\P3 p)/\∀ ns:List Int,ns.length=w->(∀ n∈ns,0<=n/\n < 100)->Q (.d0 (ns.map D.int)) G
theorem Dq(ds:List D)(G:Gp)(Q:DK)(h:lA ds G Q fun _ _=>False):uJ (fun _ _=>False) (ends Q) (bM 7 ds) G:=by
 obtain⟨cs,w,p,rfl,⟨hw,hp⟩,q⟩:=h
 have zq:0 < p/\p < 100:=by rcases hp with h | h | h <;> lia
 unfold uJ
 simp only [ends,bM,ax,bh,ak,ay,bF,aT,bg,eZ,cz,bA,cg,aA,aw,ae,dC,bC,af,aQ,aC,az,gS,gQ,fM]
 refine⟨cs,1,rfl,by decide,zq.1,?_⟩
 have s1:=jg (kG cs 1) (show p≠0 by lia)
 have s2:=gB (kG cs 1) zq.1
 generalize kG cs 1 % p=so at s1 s2
 simp only [bH]
 refine⟨by lia,by lia,LD (by simp [fq]; lia),?_⟩
 refine JR (fun pre acc τ G'=>G=G'/\(∃ a,τ=[a,some (.int so)])/\acc=(bF pre.length so).map D.int) ⟨rfl,⟨_,rfl⟩,rfl⟩ (fun _ _ _ _ _=>trivial) ?_ ?_
 ·rintro pre x post acc τ G' N e ⟨rfl,⟨a,rfl⟩,rfl⟩ hN
  simp only [aQ,aw,az,af,ae]
  refine hN _ _ _ ⟨rfl,⟨_,rfl⟩,?_⟩
  rw [au,cE,List.replicate_succ',aS]; rfl
 rintro acc τ G' ⟨rfl,⟨a,rfl⟩,rfl⟩ pa fa
 refine gZ (fun τ G'=>jV G G'/\(∃ ns:List Int,ns.length=w/\(∀ n∈ns,0<=n/\n < 100)/\G' pa=some (.lst (ns.map D.int)))/\∃ a b c d e f,τ=[a,b,c,d,some (.ref pa),e,f]) ?_ ?_
 ·intro N hN
  simp only [gN,gQ,aw,af,ae,fM,bH]
  refine⟨by lia,by lia,?_⟩
  refine wy (fun pre τ G'=>jV G G'/\(∃ ns:List Int,ns.length=w/\(∀ n∈ns,0<=n/\n < 100)/\G' pa=some (.lst (ns.map D.int)))/\∃ e f,τ=[some (.d0 (cs.map D.int)),some (.int w),some (.int p),some (.int so),some (.ref pa),e,f]) ⟨.new fa,⟨bF w so,by simp,fun n hn=>by rw [J8 hn]; lia,by rw [bz]; simp [fq]⟩,_,_,rfl⟩ (fun _ _ _ _=>trivial) ?_ ?_
  ·rintro pre x post τ G2 N2 e ⟨le,⟨ns,hn,hb,gp⟩,e1,e2,rfl⟩ sA
   obtain⟨rfl,nB⟩:=lP e
   simp only [aQ,aC,az,eZ,cz,cg,aA,aw,ae,bA,dC,af,bC,kz]
   refine⟨cs,_,rfl,by lia,?_⟩
   generalize kG cs (8+(pre.length:Int))=ce
   have put:N2 [some (.d0 (cs.map D.int)),some (.int w),some (.int p),some (.int so),some (.ref pa),some (.int (pre.length:Int)),some (.int ce)] (fN G2 pa (.lst ((ns.set pre.length (ce / 5 % p)).map D.int))):=by
    have m1:=jg (ce / 5) (show p≠0 by lia)
    have m2:=gB (ce / 5) zq.1
    refine sA _ _ ⟨le.put fa,⟨_,by rw [fj]; exact hn,fun n h=>?_,bz⟩,_,_,rfl⟩
    rcases List.mem_or_eq_of_mem_set h with h | h
    ·exact hb n h
    ·lia
   have iM:N2 [some (.d0 (cs.map D.int)),some (.int w),some (.int p),some (.int so),some (.ref pa),some (.int (pre.length:Int)),some (.int ce)] G2:=sA _ _ ⟨le,⟨ns,hn,hb,gp⟩,_,_,rfl⟩
   have go:∀ K:jW,K.nx=N2->cz (bA lD (bA yL (aw 6) (dC (.int 5))) (aw 2)) (vh (aw 4) (aw 5)) (fun _ _=>False) K [some (.d0 (cs.map D.int)),some (.int w),some (.int p),some (.int so),some (.ref pa),some (.int (pre.length:Int)),some (.int ce)] G2:=fun K hK=>by
    simp only [cz,bA,aw,af,ae,dC,vh,hK,rS,iY]
    refine⟨by decide,by decide,zq.1,Kr gp (by rw [aj]; lia) ?_⟩
    rw [← List.map_set]
    exact put
   rw [g6]
   have test:∀ R:Bool->Gp->Prop,(∀ b,R b G2)->Rh (iH (bA (xX false) (bA lD (cg cZ (aA (aw 0) (aA (dC (.int 2)) bC))) (dC (.int 3))) (dC (.int 1)))) (C3 (iH (bA (xX false) (bA lD (cg cZ (aA (aw 0) (aA (dC (.int 2)) bC))) (dC (.int 3))) (dC (.int 2)))) (iH (bA (xX false) (bA lD (aw 6) (dC (.int 5))) (dC (.int 4))))) (fun _ _=>False) [some (.d0 (cs.map D.int)),some (.int w),some (.int p),some (.int so),some (.ref pa),some (.int (pre.length:Int)),some (.int ce)] G2 R:=by
    intro R hR
    simp only [Rh,C3,fb,bA,aw,af,ae,dC,iY,cg,aA,bC]
    refine⟨cs,2,rfl,by decide,by decide,_,_,.int _,.int _,?_⟩
    rw [eq_int]
    by_cases c1:kG cs 2 % 3=1
    ·simp only [aB,c1,decide_true,bO,if_false,cm,if_true]
     exact hR _
    ·simp only [aB,c1,decide_false,cF,if_false,cm]
     refine⟨cs,2,rfl,by decide,by decide,_,_,.int _,.int _,?_⟩
     rw [eq_int]
     by_cases c2:kG cs 2 % 3=2
     ·simp only [aB,c2,decide_true,bO,if_false,cm,if_true]
      refine⟨by decide,_,_,.int _,.int _,?_⟩
      exact hR _
     ·simp only [aB,c2,decide_false,cF,if_false,cm]
      exact hR _
   refine test _ fun b=>?_
   cases b with
   | true=>exact go _ rfl
   | false=>exact iM
  ·rintro τ G2 ⟨le,HQ,e1,e2,rfl⟩
   exact hN _ _ ⟨le,HQ,_,_,_,_,_,_,rfl⟩
 ·rintro _ G2 ⟨le,⟨ns,hn,hb,gp⟩,a,b,c,d,e,f,rfl⟩
  simp only [dO,h8,aw,af,ae]
  exact HW le fa gp (J2.same _) (q ns hn hb)
noncomputable def RN:mz:=AZ
noncomputable def MH:iz :=
 (da (cz (cg cZ (aA (aw 0) (aA (dC (.int 0)) bC))) (aQ 1))
 (da (cz (bA lD (bA yL (aw 1) (dC (.int 3))) (dC (.int 7))) (aQ 2))
 (da (cz (cg kr (aA (C1 (aw 0) (pL (dC (.int 1))) (pL (bA mF (dC (.int 1)) (aw 2)))) (aA (bA mF (dC (.int 1)) (bA lD (bA yL (aw 1) (dC (.int 21))) (dC (.int 3)))) (aA (bA lD (bA yL (aw 1) (dC (.int 63))) (dC (.int 999))) bC)))) (aQ 3))
 (da (cz (sE rF (aA (cg eR (aA (aw 3) bC)) bC)) (aQ 4))
 (da (S2 5 (cz (gS 1 [] (tL (aw 3)) (aQ 0) none (h8 (sE xq (aA (aw 0) bC)))) (aQ 5)))
 (da (cz (bA xB (bA lD (cg cZ (aA (aw 0) (aA (dC (.int 7)) bC))) (dC (.int 2001))) (dC (.int 1000))) (aQ 6))
 (da (nu (C3 (iH (bA (xX false) (bA lD (cg cZ (aA (aw 0) (aA (dC (.int 6)) bC))) (dC (.int 4))) (dC (.int 3)))) (iH (bA (Ti true) (aw 6) (i5 (aA (dC (.int 3)) (aA (dC (.int 5)) (aA (dC (.int 7)) bC))))))) (da (gN (mU (dC (.int 3))) (aQ 7) (nu (Ik (iH (cg jD (aA (aw 7) (aA (aw 5) (aA (aw 6) (aA (gS 1 [] (mU (aw 4)) (aQ 0) none (h8 (dC (.int 0)))) bC))))))) (dO (h8 (dC (.bl false)))) fv))
 (dO (h8 (bA (xX false) (aw 5) (aw 3))))) fv)
 (da (cz (bA lR (i5 (aA (dC (.int 3)) (aA (dC (.int 5)) (aA (dC (.int 7)) bC)))) (bA lD (aw 1) (dC (.int 3)))) (aQ 8))
 (da (cz (cg lA (aA (aw 0) (aA (aw 4) (aA (aw 8) bC)))) (aQ 9))
 (da (cz (sE xq (aA (aw 9) bC)) (aQ 10))
 (da (cz (cg jd (aA (aw 5) (aA (aw 8) (aA (aw 10) bC)))) (aQ 11))
 (da (nu (Rh (iH (bA (xX true) (aw 5) (aw 3))) (iH (bA (xX true) (aw 10) (aw 9)))) (dO (h8 (dC (.bl false)))) fv)
 (da (nu (iH (cg lz (aA (cg kh (aA (aw 3) bC)) (aA (aw 8) (aA (aw 9) bC))))) (dO (h8 (JL (vU true false) (aw 11)))) fv)
 (dO (h8 (JL (vU false false) (aw 11)))))))))))))))))
theorem M5{ns:List Int}(h:∀ n∈ns,0<=n/\n < 100):Sm ns:=fun i=>by
 unfold num
 rw [aL]
 cases e:ns[i.toNat]? with
 | none=>exact⟨GH _,by decide⟩
 | some n=>exact h n (dS e)
theorem Td(ds:List D)(G:Gp)(Q:DK)(h:RN ds G Q fun _ _=>False):MH (fun _ _=>False) (ends Q) (bM 12 ds) G:=by
 obtain⟨ns,rfl,hl,hG,q⟩:=h
 unfold MH
 simp only [ends,bM,ax,bh,ak,ay,bF,aT,bg,eZ,cz,cg,aA,aw,ae,dC,bC,aQ,aC,az,bA,af,C1,sE,Cd,jN,fZ]
 refine⟨ns,0,rfl,GH _,?_⟩
 generalize kG ns 0=fi
 simp only [rS,iY,kz,fZ]
 refine⟨by decide,by decide,by decide,?_⟩
 have m1:=jg (fi / 3) (show (7:Int)≠0 by decide)
 have m2:=gB (fi / 3) (show (0:Int) < 7 by decide)
 generalize fi / 3 % 7=mn at m1 m2
 rw [vm]
 intro p1 h1
 refine⟨by decide,by decide,by decide,by decide,by decide,by decide,.ref p1,cut ns (some 1) (some (1+mn)),_,_,rfl,IsL.ref bz,⟨?_,by lia,by lia,by lia,by lia⟩,fun rows dr my nb=>?_⟩
 ·unfold cut
  refine cv (List.length_take_le _ _) (cv (BN _ _) ?_)
  show (if 1+mn < 0 then (1+mn+(ns.length:Int)).toNat else min (1+mn).toNat ns.length)<=12
  rw [if_neg (by lia)]
  exact cv (Nat.min_le_left _ _) (by lia)
 generalize fN G p1 (.lst ((cut ns (some 1) (some (1+mn))).map D.int))=G2
 have agC:=dr.str
 have bf:=rG dr
 refine⟨rows,rfl,⟨dr,nb,my⟩,?_⟩
 refine vp (IsL.enc (fJ rows)) ?_
 simp only [aj,D6,JP,cz,gS,aQ,aC,az,af,ae,bA,cg,aA,aw,dC,bC,iG]
 refine⟨LD (by rw [aj]; lia),?_⟩
 refine mr (xs:=rows) (fun pre acc τ G'=>G2=G'/\(∃ a,τ=[a])/\acc=pre.map enc) ⟨rfl,⟨_,rfl⟩,rfl⟩ (fun _ _ _ _ _=>trivial) ?_ ?_
 ·rintro pre r post acc τ G' N e ⟨rfl,⟨a,rfl⟩,rfl⟩ hN
  simp only [aQ,h8,sE,aA,aw,az,ae,bC]
  refine FA (IsL.enc r) fun p3 h3=>?_
  refine nj (.new h3) h3 bz ?_
  exact hN _ _ _ ⟨rfl,⟨_,rfl⟩,by simp⟩
 rintro acc τ G' ⟨rfl,⟨a,rfl⟩,rfl⟩ p3 h3
 refine nj (xs:=rows) (.new h3) h3 bz ?_
 clear h3 p3 a
 refine⟨ns,7,rfl,by decide,by decide,?_⟩
 simp only [ky]
 generalize kG ns 7 % 2001 - 1000=odd
 rw [g6]
 have test:∀ R:Bool->Gp->Prop,(¬ P3 odd->R true G2)->R false G2->C3 (iH (bA (xX false) (bA lD (cg cZ (aA (aw 0) (aA (dC (.int 6)) bC))) (dC (.int 4))) (dC (.int 3)))) (iH (bA (Ti true) (aw 6) (i5 (aA (dC (.int 3)) (aA (dC (.int 5)) (aA (dC (.int 7)) bC)))))) (fun _ _=>False) [some (.d0 (ns.map D.int)),some (.int fi),some (.int mn),some (enc rows),some (.int ((fJ rows).length:Int)),some (enc rows),some (.int odd),none,none,none,none,none] G2 R:=by
  intro R hT hF
  simp only [C3,fb,bA,aw,af,ae,i5,aA,dC,bC,ak,ay,cg]
  refine⟨ns,6,rfl,by decide,by decide,_,_,.int _,.int _,?_⟩
  rw [eq_int]
  by_cases c1:kG ns 6 % 4=3
  ·simp only [aB,c1,decide_true,bO,if_false,cm,if_true]
   refine⟨by decide,.int odd,[.int 3,.int 5,.int 7],.int _,.xb (.int _) (.xb (.int _) (.xb (.int _) .Ca)),?_⟩
   have e:([D.int 3,D.int 5,D.int 7].any fun x=>iy x (.int odd))=([3,5,7]:List Int).contains odd:=by
    simp only [kO,List.any_nil,eq_int,pO,List.contains_nil,Bool.or_false]
    have:∀ i:Int,(odd == i)=decide (i=odd):=fun i=>by
     rw [show (odd == i)=decide (odd=i) from rfl]
     by_cases z:odd=i
     ·rw [z]
     ·rw [decide_eq_false z,decide_eq_false fun y=>z y.symm]
    rw [this,this,this]
   rw [e]
   cases hc:([3,5,7]:List Int).contains odd with
   | true =>
    simp only [bO,if_true,cm]
    exact hF
   | false =>
    simp only [cF,if_true,cm]
    exact hT fun z=>by rw [OE.mpr z] at hc; cases hc
  ·simp only [aB,c1,decide_false,cF,if_false,cm]
   exact hF
 refine test _ (fun Ql=>?_) ?_
 ·rw [if_pos rfl]
  refine gZ (fun τ G'=>∃ a,τ=[some (.d0 (ns.map D.int)),some (.int fi),some (.int mn),some (enc rows),some (.int ((fJ rows).length:Int)),some (enc rows),some (.int odd),a,none,none,none,none]) ?_ ?_
  ·intro N hN
   simp only [gN,gQ,dC,fM]
   refine⟨by decide,by decide,?_⟩
   refine wy (fun pre τ G'=>∃ a,τ=[some (.d0 (ns.map D.int)),some (.int fi),some (.int mn),some (enc rows),some (.int ((fJ rows).length:Int)),some (enc rows),some (.int odd),a,none,none,none,none]) ⟨_,rfl⟩ (fun _ _ _ _=>trivial) ?_ ?_
   ·rintro pre x post τ G' N2 e ⟨a,rfl⟩ sA
    obtain⟨rfl,nB⟩:=lP e
    simp only [aQ,aC,az,g6,Ik,dO,h8,dC,fv,fb,cg,aA,aw,af,ae,gS,bC,gQ,fM,bH]
    refine⟨by lia,by lia,LD (by simp [fq]; lia),?_⟩
    refine JR (fun pre acc τ G3=>G'=G3/\∃ a,τ=[a]) ⟨rfl,_,rfl⟩ (fun _ _ _ _ _=>trivial) ?_ ?_
    ·rintro pre x post acc τ G3 N e ⟨rfl,a,rfl⟩ hN
     simp only [aQ,h8,dC,az]
     exact mV (hN _ _ _ ⟨rfl,_,rfl⟩)
    ·rintro acc τ G3 ⟨rfl,a,rfl⟩ p4 f4
     refine⟨_,_,_,_,rfl,Ql,?_⟩
     simp only [cm,bO,aB,if_false]
     exact sA _ _ ⟨_,rfl⟩
   ·rintro τ G' ⟨a,rfl⟩
    exact hN _ _ ⟨_,rfl⟩
  ·rintro _ _ ⟨a,rfl⟩
   simp only [dO,h8,bA,aw,af,ae]
   refine Jh (by decide) ?_
   simp only [aB,decide_true,bO,if_false]
   exact mV (q _)
 ·rw [if_neg eF]
  simp only [fv,D6,cz,bA,i5,aA,dC,bC,ak,ay,aw,af,ae,aQ,aC,az,cg,sE,iY,ie]
  have i1:=jg fi (show (3:Int)≠0 by decide)
  have i2:=gB fi (show (0:Int) < 3 by decide)
  generalize fi % 3=ii at i1 i2
  obtain⟨p,Q4,ha⟩:∃ p,P3 p/\rK [D.int 3,D.int 5,D.int 7] ii=some (.int p):=by
   have:ii=0\/ii=1\/ii=2:=by lia
   rcases this with rfl | rfl | rfl
   ·exact⟨3,.inl rfl,rfl⟩
   ·exact⟨5,.inr (.inl rfl),rfl⟩
   ·exact⟨7,.inr (.inr rfl),rfl⟩
  have zq:0 < p:=by rcases Q4 with h | h | h <;> lia
  rw [ha]
  refine⟨by decide,by decide,ns,(fJ rows).length,p,rfl,⟨by lia,Q4⟩,fun nm hlen hb=>?_⟩
  refine FA IsL.d0 fun V6 WI=>?_
  have g10:(fN G2 V6 (.lst (nm.map D.int))) V6=some (.lst (nm.map D.int)):=bz
  generalize fN G2 V6 (.lst (nm.map D.int))=G3 at g10
  refine⟨rows,p,.ref V6,nm,rfl,IsL.ref g10,⟨dr,nb,my⟩,⟨Q4,M5 hb,hlen⟩,?_⟩
  rw [OB dr]
  have ui:∀ t∈(tw rows).map (fun p=>DZ rows p.a),In nm t:=fun t ht=>by
   obtain⟨x,hx,rfl⟩:=List.mem_map.mp ht
   obtain⟨h1,h2⟩:=List.mem_filter.mp hx
   exact Ml dr hlen (yr dr h1 (by simpa using h2))
  have ul:((tw rows).map fun p=>DZ rows p.a).length<=100:=by
   rw [aj]
   have:=fm (fun p:T3=>p.b == 1) rows.flatten
   have:=dr.lY
   unfold tw; lia
  generalize hts:((tw rows).map fun p=>DZ rows p.a)=ts at ui ul
  simp only [g6,Rh,dO,h8,dC,fv,if_true,fb,bA,aw,af,ae]
  refine Jh (by decide) ?_
  simp only [decide_true,bO,if_true,cm,aB,if_false]
  have en:(D.d0 (nm.map D.int))=(enc nm:D):=rfl
  refine⟨enc nm,enc nm,?_,Enc.sn (α:=List Int) _ SN nm (by decide),?_⟩
  ·exact .ref g10 (yz (α:=Int) _ 7 (by decide) nm)
  rw [Enc.eqv]
  simp only [decide_true,bO,if_true,cm,aB,if_false]
  refine⟨rows,rfl,⟨dr,nb,my⟩,?_⟩
  rw [hts]
  refine⟨ts,p,_,nm,rfl,IsL.d0,⟨ul,zq,M5 hb,ui⟩,?_⟩
  cases hk:ts.all (kp nm p) with
  | true =>
   simp only [dO,h8,JL,aw,af,ae,Jd,aB,if_false,fv]
   exact mV (q _)
  | false =>
   simp only [dO,h8,JL,aw,af,ae,Jd,aB,if_false,fv]
   exact mV (q _)
end O6
end K2
end
namespace Fin
open PySem PySem.Spec PyProof.Rows L2 K2
open K2.Gq hiding jq
open K2.IA
open K2.O6
open K2.P
noncomputable def top(i:Nat):Stmt:=PySem.Challenge.pw_knotwise_k52_a_colouring_told.main.body.getD i (.Pass ⟨0,0,0,0⟩)
section
variable {P:bP} {w:World} {K:ag} {mg:Str->Option Value} {base:Heap}
theorem Ea:cN ["_law_script","_law_k"] ["_law_script","_law_k"] (aG (top 30)):=vI
theorem Fm {f:Addr} {fd:aW} (F:pU K "_law_cell" "_law_cell" (top 30) f fd) (gf:mg "len" = none):dc P w K mg base jf 1 f fd ["_law_script","_law_k"] (d4 K cZ) :=
 yc F Ea FR fun _ _ _ _ _ _ hr=>have hu:=hr.units; have hu0:=hr.Ru; (aJ (jI (fQ (Sd hu0) (bW 1) (iE ka rfl gf tW (ao (bW 0) aO)) (gr _)) (aY (cX (dw (dN hu (bW 0) (bW 1) (fun _ _=>rfl))))) fR)
 (aY (cX (dw aM))))
theorem D9:cN ["_law_cell_here","_law_prime","_law_many"] ["_law_cell_here","_law_prime","_law_many"] (aG (top 31)):=vI
theorem Fj {f:Addr} {fd:aW} (F:pU K "_law_part" "_law_part" (top 31) f fd):dc P w K mg base jf 1 f fd ["_law_cell_here","_law_prime","_law_many"] (d4 K eQ) :=
 yc F D9 FP fun _ _ _ _ _ _ hr=>(aY (cX (dw (cK gi (cK gi (cK oO (bW 0) aM) (bW 1)) (bW 2)))))
theorem w4:cN ["_law_cells","_law_strings","_law_start","_law_rows","_law_name","_law_cell_here","_law_hand","_law_way","_law_row"] ["_law_cells","_law_strings","_law_start"] (aG (top 32)):=vI
theorem Fl {f:Addr} {fd:aW} (F:pU K "_law_made" "_law_made" (top 32) f fd) (gf:mg "len" = none) (di:mg "range" = none) {tQ:Addr} {zH:aW} (mP:dc P w K mg base jf 1 tQ zH ["_law_cell_here","_law_prime","_law_many"] (d4 K eQ)) (mQ:mg "_law_part" = some (.ref tQ)) (mT:ar K (.ref tQ)=true) (mX:Binds K zH ["_law_cell_here","_law_prime","_law_many"] []):dc P w K mg base jf 2 f fd ["_law_cells","_law_strings","_law_start"] (d4 K kr) :=
 yc F w4 FQ fun _ _ _ _ _ _ hr=>have nd:=w4.nd; have hu:=hr.units; (aJ (uP ["_law_k"] (sc:=aG (top 32)) (XN:=["_law_cells","_law_strings","_law_start","_law_rows","_law_name","_law_cell_here","_law_hand","_law_way","_law_row"]) (i:=3) nd rfl rfl (fY rfl di (bW 1)) (fun _ _ _ _=>(qB (i:=0) (show (["_law_k"]:List Str).Nodup by decide +kernel) rfl)) (fun _ _ _ _=>.none) (fun _ _ _ _=>(rY aO)))
 (aJ (nA (i:=4) nd rfl (bW 2))
 (aJ (fG cx rfl (jJ (bW 0)) (qB (i:=5) nd rfl) (aJ (nA (i:=4) nd rfl (cK gi (cK km (cK km (bW 4) aM) (bN mP (hr.mono (by decide)) rfl mQ mT mX (ao (bW 5) (ao aM (ao aM aO))))) aM))
 (aJ (nA (i:=6) nd rfl (cK lE aM (cK oO aM (bN mP (hr.mono (by decide)) rfl mQ mT mX (ao (bW 5) (ao aM (ao aM aO)))))))
 (aY (fG cx rfl (fY rfl di aM) (qB (i:=7) nd rfl) (aJ (nA (i:=8) nd rfl (dN hu (bW 3) (bN mP (hr.mono (by decide)) rfl mQ mT mX (ao (bW 5) (ao (cK km aM (cK oO aM (bW 7))) (ao (bW 1) aO)))) (fun _ _=>rfl)))
 (aY (kA (lT cP PySem.F.slot_list_insert PySem.F.type_list_insert iW Hu (bW 8) (ao (bN mP (hr.mono (by decide)) rfl mQ mT mX (ao (bW 5) (ao (cK km aM (cK oO aM (bW 7))) (ao (cK km (iE ka rfl gf tW (ao (bW 8) aO)) aM) aO)))) (ao (gL (ao (cK km (bW 4) aM) (ao (bW 7) (ao (bW 6) aO)))) aO)))))))))))
 (aY (cX (dw (bW 3)))))))
theorem yD:cN ["_law_row","_law_at","_law_k","_law_back"] ["_law_row","_law_at","_law_k"] (aG (top 33)):=vI
theorem Ia {f:Addr} {fd:aW} (F:pU K "_law_bow" "_law_bow" (top 33) f fd) (gf:mg "len" = none) (di:mg "range" = none):dc P w K mg base jf 1 f fd ["_law_row","_law_at","_law_k"] (d4 K ji) :=
 yc F yD Iy fun _ _ _ _ _ _ hr=>have nd:=yD.nd; have hu:=hr.units; (aJ (fG cx rfl (fY rfl di (iE ka rfl gf tW (ao (bW 0) aO))) (qB (i:=3) nd rfl) (aY (jI (fQ (jK hu) (dN hu (dN hu (bW 0) (cK lE (bW 2) (bW 3)) (fun _ _=>rfl)) aM (fun _ _=>rfl)) aM (gr _)) (aY (cX (dw (iD (dN hu (bW 0) (cK lE (bW 2) (bW 3)) (fun _ _=>rfl)) kB (iZ aM))))) fR)))
 (aY (cX (dw (gL (ao (bW 1) (ao aM aO)))))))
theorem uz:cN ["_law_rows","_law_homes_here","_law_at","_law_row","_law_k"] ["_law_rows"] (aG (top 34)):=vI
theorem CS {f:Addr} {fd:aW} (F:pU K "_law_homes" "_law_homes" (top 34) f fd) (ft:mg "enumerate" = none) (gf:mg "len" = none) (di:mg "range" = none) {j8:Addr} {nZ:aW} (tE:dc P w K mg base jf 1 j8 nZ ["_law_row","_law_at","_law_k"] (d4 K ji)) (tF:mg "_law_bow" = some (.ref j8)) (tJ:ar K (.ref j8)=true) (tX:Binds K nZ ["_law_row","_law_at","_law_k"] []):dc P w K mg base jf 2 f fd ["_law_rows"] (d4 K d8) :=
 yc F uz Dp fun _ _ _ _ _ _ hr=>have nd:=uz.nd; have hu:=hr.units; (aJ (nA (i:=1) nd rfl uR)
 (aJ (fG cx rfl (yM rfl ft (bW 0)) (rW rfl (e7 (qB (i:=2) nd rfl) (e7 (qB (i:=3) nd rfl) nO)) (e9 (e9 nV))) (aJ (jI (fQ (jK hu) (bW 3) (rY aO) (gr _)) (aY (rV (gL (ao (bW 2) (ao aM aO))) (rX hu (bW 1) (gL (ao (bW 2) (ao aM aO)))))) fR)
 (aY (fG cx rfl (fY rfl di (iE ka rfl gf tW (ao (bW 3) aO))) (qB (i:=4) nd rfl) (aY (rV (bN tE (hr.mono (by decide)) rfl tF tJ tX (ao (bW 3) (ao (bW 2) (ao (bW 4) aO)))) (rX hu (bW 1) (iD (dN hu (bW 3) (bW 4) (fun _ _=>rfl)) kB (iZ aM)))))))))
 (aY (cX (dw (bW 1))))))
theorem w5:cN ["_law_rows","_law_homes_here"] ["_law_rows"] (aG (top 35)):=vI
theorem Fn {f:Addr} {fd:aW} (F:pU K "_law_bows" "_law_bows" (top 35) f fd) (v7:mg "set" = none) (iF:mg "sorted" = none) {iw:Addr} {kF:aW} (oP:dc P w K mg base jf 2 iw kF ["_law_rows"] (d4 K d8)) (oS:mg "_law_homes" = some (.ref iw)) (o4:ar K (.ref iw)=true) (pf:Binds K kF ["_law_rows"] []):dc P w K mg base jf 3 f fd ["_law_rows"] (d4 K eR) :=
 yc F w5 FT fun _ _ _ _ _ _ hr=>have nd:=w5.nd; have hu:=hr.units; (aJ (nA (i:=1) nd rfl (bN oP (hr.mono (by decide)) rfl oS o4 pf (ao (bW 0) aO)))
 (aY (cX (dw (qE rfl hu rfl iF rfl v7 (ao (qF ["_law_spot","_law_homes_here"] (sc:=aG (top 35)) (XN:=["_law_rows","_law_homes_here"]) (Er (bW 1)) (fun _ _ _ _=>(qB (i:=0) (show (["_law_spot","_law_homes_here"]:List Str).Nodup by decide +kernel) rfl)) (fun _ _ _ _=>.none) (fun _ _ _ _=>(dN hu (bW 1) (bW 0) (fun _ _=>rfl)))) aO))))))
theorem vR:cN ["p"] ["p"] (aG (top 16)):=vI
theorem wA {f:Addr} {fd:aW} (F:pU K "refuse_other" "refuse_other" (top 16) f fd) {bX:Addr} (eI:aR K aN "NoPrime" = some (some (.ref bX))) (tG:mg "NoPrime" = some (.ref bX)) (gh:eX K bX [.type "ValueError",.type "Exception",.type "BaseException",.type "object"] "ValueError.__new__" = true) (jZ:vB K bX) {kC:Addr} (wt:mg "PRIMES" = some (.ref kC)) (jr:yv K kC [3,5,7]=true):dc P w K mg base (AL P w) 1 f fd ["p"] (lg K mg fx) :=
 WH F vR wQ fun _ _ _ _ _ _ hr=>have hu:=hr.units; (aY (jI (El hu rfl wt jr (bW 0)) (aY (Kz rfl tG gh PySem.F.excBase_ValueError rfl (ao PU aO))) fR))
theorem vS:cN ["drawing","p","numbers"] ["drawing","p","numbers"] (aG (top 19)):=vI
theorem wB {f:Addr} {fd:aW} (F:pU K "fits_colours" "fits_colours" (top 19) f fd) {fe:Addr} {gR:aW} (j4:dc P w K mg base (AL P w) 1 fe gR ["p"] (lg K mg fx)) (j5:mg "refuse_other" = some (.ref fe)) (j6:ar K (.ref fe)=true) (kb:Binds K gR ["p"] []):dc P w K mg base (AL P w) 2 f fd ["drawing","p","numbers"] (lg K mg iC) :=
 WH F vS wR fun _ _ _ _ _ _ hr=>(aJ (kA (vW j4 (hr.mono (by decide)) rfl j5 j6 kb (ao (bW 1) aO)))
 (aY nM))
theorem Kt:cN ["drawing","p","count","by_place"] ["drawing","p"] (aG (top 26)):=vI
theorem K9 {f:Addr} {fd:aW} (F:pU K "basis" "basis" (top 26) f fd) {fe:Addr} {gR:aW} (j4:dc P w K mg base (AL P w) 1 fe gR ["p"] (lg K mg fx)) (j5:mg "refuse_other" = some (.ref fe)) (j6:ar K (.ref fe)=true) (kb:Binds K gR ["p"] []):dc P w K mg base (AL P w) 2 f fd ["drawing","p"] (lg K mg j0) :=
 WH F Kt Lj fun _ _ _ _ _ _ hr=>(aJ (kA (vW j4 (hr.mono (by decide)) rfl j5 j6 kb (ao (bW 1) aO)))
 (aJ nM
 (aJ nM
 (aY nM))))
theorem w0:cN ["p","count","product","step"] ["p","count"] (aG (top 20)):=vI
theorem Fh {f:Addr} {fd:aW} (F:pU K "power_of" "power_of" (top 20) f fd) (di:mg "range" = none):dc P w K mg base jf 1 f fd ["p","count"] (d4 K mL) :=
 yc F w0 FN fun _ _ _ _ _ _ hr=>have nd:=w0.nd; (aJ (nA (i:=2) nd rfl aM)
 (aJ (fG cx rfl (fY rfl di (bW 1)) (qB (i:=3) nd rfl) (aY (nA (i:=2) nd rfl (cK oO (bW 2) (bW 0)))))
 (aY (cX (dw (bW 2))))))
theorem qw:cN ["drawing","p"] ["drawing","p"] (aG (top 28)):=vI
theorem rf {f:Addr} {fd:aW} (F:pU K "count_colourings" "count_colourings" (top 28) f fd) (gf:mg "len" = none) {tO:Addr} {zF:aW} (Ey:dc P w K mg base jf 1 tO zF ["p","count"] (d4 K mL)) (EE:mg "power_of" = some (.ref tO)) (ES:ar K (.ref tO)=true) (FE:Binds K zF ["p","count"] []) {me:Addr} {rD:aW} (v3:dc P w K mg base (AL P w) 2 me rD ["drawing","p"] (lg K mg j0)) (wa:mg "basis" = some (.ref me)) (wm:ar K (.ref me)=true) (wM:Binds K rD ["drawing","p"] []):dc P w K mg base (AL P w) 3 f fd ["drawing","p"] (lg K mg fP) :=
 WH F qw rL fun _ _ _ _ _ _ hr=>(aY (cX (dw (bN Ey (hr.mono (by decide)) rfl EE ES FE (ao (bW 1) (ao (iE ka rfl gf tW (ao (vW v3 (hr.mono (by decide)) rfl wa wm wM (ao (bW 0) (ao (bW 1) aO))) aO)) aO))))))
theorem qv:cN ["_law_kind","_law_rows","_law_p","_law_numbers","_law_error","e"] ["_law_kind","_law_rows","_law_p","_law_numbers"] (aG (top 38)):=vI
theorem zw {f:Addr} {fd:aW} (F:pU K "_law_refused" "_law_refused" (top 38) f fd) (kn:mg "isinstance" = none) {bX:Addr} (eI:aR K aN "NoPrime" = some (some (.ref bX))) (tG:mg "NoPrime" = some (.ref bX)) (gh:eX K bX [.type "ValueError",.type "Exception",.type "BaseException",.type "object"] "ValueError.__new__" = true) (jZ:vB K bX) {cB:Addr} (gb:aR K aN "TooMany" = some (some (.ref cB))) (Hy:mg "TooMany" = some (.ref cB)) (jm:eX K cB [.type "ValueError",.type "Exception",.type "BaseException",.type "object"] "ValueError.__new__" = true) (oy:vB K cB) {cI:Addr} (jL:aR K aN "KnotError" = some (some (.ref cI))) (oT:mg "KnotError" = some (.ref cI)) (gM:eX K cI [.type "ValueError",.type "Exception",.type "BaseException",.type "object"] "ValueError.__new__" = true) (um:vB K cI) (lX:dF K (.type "NoneType") (.ref bX)=some false) (lW:dF K (.type "NoneType") (.ref cB)=some false) (fE:dF K (.ref bX) (.ref bX)=some true) (fC:dF K (.ref cB) (.ref bX)=some false) (fD:dF K (.ref bX) (.ref cB)=some false) (fB:dF K (.ref cB) (.ref cB)=some true) (eS:subIn K cB (.ref cI)=true) (eT:subIn K bX (.ref cI)=true) {kZ:Addr} {pK:aW} (vY:dc P w K mg base (AL P w) 2 kZ pK ["drawing","p","numbers"] (lg K mg iC)) (v8:mg "fits_colours" = some (.ref kZ)) (wg:ar K (.ref kZ)=true) (wK:Binds K pK ["drawing","p","numbers"] []) {me:Addr} {rD:aW} (v3:dc P w K mg base (AL P w) 2 me rD ["drawing","p"] (lg K mg j0)) (wa:mg "basis" = some (.ref me)) (wm:ar K (.ref me)=true) (wM:Binds K rD ["drawing","p"] []) {iP:Addr} {lj:aW} (qI:dc P w K mg base (AL P w) 3 iP lj ["drawing","p"] (lg K mg fP)) (qO:mg "count_colourings" = some (.ref iP)) (qS:ar K (.ref iP)=true) (rJ:Binds K lj ["drawing","p"] []):dc P w K mg base jf 4 f fd ["_law_kind","_law_rows","_law_p","_law_numbers"] (d4 K jD) :=
 yc F qv zV fun _ _ _ _ _ _ hr=>have nd:=qv.nd; have hu:=hr.units; (aJ (nA (i:=4) nd rfl PX)
 (aJ (MQ (QN (fun EX=>(fQ (jK hu) (bW 0) aM (gr _))) (yw ⟨rfl,rfl,rfl⟩ ⟨nd,rfl,rfl,rfl,oT,⟨_,_,gM,rfl⟩,(i7 ⟨_,_,_,eI,gh,eT⟩ (i7 ⟨_,_,_,gb,jm,eS⟩ vo))⟩ (fun v=>(aY (nA (i:=4) nd rfl (bW 5)))) vY (hr.mono (by decide)) rfl v8 wg wK (fun EX=>(ao (bW 1) (ao (bW 2) (ao (bW 3) aO))))) (QN (fun EX=>(fQ (jK hu) (bW 0) aM (gr _))) (yw ⟨rfl,rfl,rfl⟩ ⟨nd,rfl,rfl,rfl,oT,⟨_,_,gM,rfl⟩,(i7 ⟨_,_,_,eI,gh,eT⟩ (i7 ⟨_,_,_,gb,jm,eS⟩ vo))⟩ (fun v=>(aY (nA (i:=4) nd rfl (bW 5)))) v3 (hr.mono (by decide)) rfl wa wm wM (fun EX=>(ao (bW 1) (ao (bW 2) aO)))) (yw ⟨rfl,rfl,rfl⟩ ⟨nd,rfl,rfl,rfl,oT,⟨_,_,gM,rfl⟩,(i7 ⟨_,_,_,eI,gh,eT⟩ (i7 ⟨_,_,_,gb,jm,eS⟩ vo))⟩ (fun v=>(aY (nA (i:=4) nd rfl (bW 5)))) qI (hr.mono (by decide)) rfl qO qS rJ (fun EX=>(ao (bW 1) (ao (bW 2) aO)))))))
 (aY (cX (dw (P0 (Es BM rfl kn rfl tG lX (i7 ⟨_,eI,fE,jZ⟩ (i7 ⟨_,gb,fC,oy⟩ vo)) (bW 4)) (PV (PW (Es BM rfl kn rfl Hy lW (i7 ⟨_,eI,fD,jZ⟩ (i7 ⟨_,gb,fB,oy⟩ vo)) (bW 4))))))))))
theorem uA:cN ["_law_script","_law_wide","_law_p","_law_some","_law_numbers","_law_k","_law_cell_here"] ["_law_script","_law_wide","_law_p"] (aG (top 39)):=vI
theorem CT {f:Addr} {fd:aW} (F:pU K "_law_drawn" "_law_drawn" (top 39) f fd) (di:mg "range" = none) {jk:Addr} {mj:aW} (gG:dc P w K mg base jf 1 jk mj ["_law_script","_law_k"] (d4 K cZ)) (gH:mg "_law_cell" = some (.ref jk)) (gI:ar K (.ref jk)=true) (gJ:Binds K mj ["_law_script","_law_k"] []):dc P w K mg base jf 2 f fd ["_law_script","_law_wide","_law_p"] (d4 K lA) :=
 yc F uA Dq fun _ _ _ _ _ _ hr=>have nd:=uA.nd; have hu:=hr.units; (aJ (nA (i:=3) nd rfl (cK gi (bN gG (hr.mono (by decide)) rfl gH gI gJ (ao (bW 0) (ao aM aO))) (bW 2)))
 (aJ (uP ["_law_k","_law_some"] (sc:=aG (top 39)) (XN:=["_law_script","_law_wide","_law_p","_law_some","_law_numbers","_law_k","_law_cell_here"]) (i:=4) nd rfl rfl (fY rfl di (bW 1)) (fun _ _ _ _=>(qB (i:=0) (show (["_law_k","_law_some"]:List Str).Nodup by decide +kernel) rfl)) (fun _ _ _ _=>.none) (fun _ _ _ _=>(bW 1)))
 (aJ (fG cx rfl (fY rfl di (bW 1)) (qB (i:=5) nd rfl) (aJ (nA (i:=6) nd rfl (bN gG (hr.mono (by decide)) rfl gH gI gJ (ao (bW 0) (ao (cK km aM (bW 5)) aO))))
 (aY (jI (LL.pt (MN (fQ (jK hu) (cK gi (bN gG (hr.mono (by decide)) rfl gH gI gJ (ao (bW 0) (ao aM aO))) aM) aM (gr _)) (Ji (LL.pt (Jj (fQ (jK hu) (cK gi (bN gG (hr.mono (by decide)) rfl gH gI gJ (ao (bW 0) (ao aM aO))) aM) aM (gr _)) (Ei (fQ (jK hu) (cK gi (bW 6) aM) aM (gr _)))))))) (aY (rV (cK gi (cK uS (bW 6) aM) (bW 2)) (rX hu (bW 4) (bW 5)))) fR))))
 (aY (cX (dw (bW 4)))))))
theorem xy:cN ["p"] ["p"] (aG (top 16)):=vI
theorem xM {f:Addr} {fd:aW} (F:pU K "refuse_other" "refuse_other" (top 16) f fd) {kC:Addr} (wt:mg "PRIMES" = some (.ref kC)) (jr:yv K kC [3,5,7]=true):dc P w K mg base jf 1 f fd ["p"] (d4 K jc) :=
 yc F xy xQ fun _ _ _ _ _ _ hr=>have hu:=hr.units; (aY (jI (El hu rfl wt jr (bW 0)) (aY nM) fR))
theorem B6:cN ["places","p","numbers"] ["places","p","numbers"] (aG (top 18)):=vI
theorem CU {f:Addr} {fd:aW} (F:pU K "keeps_all" "keeps_all" (top 18) f fd) (Hs:mg "all" = none):dc P w K mg base jf 1 f fd ["places","p","numbers"] (d4 K jE) :=
 yc F B6 Ds fun _ _ _ _ _ _ hr=>have hu:=hr.units; (aY (cX (dw (iE (Le rfl) rfl Hs S9 (ao (qF ["over","comes","leaves","numbers","p"] (sc:=aG (top 18)) (XN:=["places","p","numbers"]) (jJ (bW 0)) (fun _ _ _ _=>(rW rfl (e7 (qB (i:=0) (show (["over","comes","leaves","numbers","p"]:List Str).Nodup by decide +kernel) rfl) (e7 (qB (i:=1) (show (["over","comes","leaves","numbers","p"]:List Str).Nodup by decide +kernel) rfl) (e7 (qB (i:=2) (show (["over","comes","leaves","numbers","p"]:List Str).Nodup by decide +kernel) rfl) nO))) (e9 (e9 (e9 nV))))) (fun _ _ _ _=>.none) (fun _ _ _ _=>(xY (jK hu) (cK gi (cK lE (cK lE (cK oO aM (dN hu (bW 3) (bW 0) (fun _ _=>rfl))) (dN hu (bW 3) (bW 1) (fun _ _=>rfl))) (dN hu (bW 3) (bW 2) (fun _ _=>rfl))) (bW 4)) aM (gr _)))) aO)))))
theorem D7:cN ["row","string"] ["row","string"] (aG (top 7)):=vI
theorem Fg {f:Addr} {fd:aW} (F:pU K "spots_on" "spots_on" (top 7) f fd):dc P w K mg base jf 1 f fd ["row","string"] (d4 K mK) :=
 yc F D7 FL fun _ _ _ _ _ _ hr=>(aJ (jI (Jl (rT (bW 0))) (aY (cX (dw (rY (ao (gL (ao (bW 1) (ao aM aO))) aO))))) fR)
 (aY (cX (dw (qF ["passing"] (sc:=aG (top 7)) (XN:=["row","string"]) (jJ (bW 0)) (fun _ _ _ _=>(qB (i:=0) (show (["passing"]:List Str).Nodup by decide +kernel) rfl)) (fun _ _ _ _=>.none) (fun _ _ _ _=>(iD (bW 0) kB (iZ aM))))))))
theorem yE:cN ["row","string","spots","unders","bow","found","spot"] ["row","string"] (aG (top 13)):=vI
theorem Ib {f:Addr} {fd:aW} (F:pU K "bows_on" "bows_on" (top 13) f fd) {tN:Addr} {zE:aW} (Ew:dc P w K mg base jf 1 tN zE ["row","string"] (d4 K mK)) (ED:mg "spots_on" = some (.ref tN)) (ER:ar K (.ref tN)=true) (FD:Binds K zE ["row","string"] []):dc P w K mg base jf 2 f fd ["row","string"] (d4 K oK) :=
 yc F yE Iz fun _ _ _ _ _ _ hr=>have nd:=yE.nd; have hu:=hr.units; (aJ (nA (i:=2) nd rfl (bN Ew (hr.mono (by decide)) rfl ED ER FD (ao (bW 0) (ao (bW 1) aO))))
 (aJ (uP ["spot"] (sc:=aG (top 13)) (XN:=["row","string","spots","unders","bow","found","spot"]) (i:=3) nd rfl rfl (jJ (bW 2)) (fun _ _ _ _=>(qB (i:=0) (show (["spot"]:List Str).Nodup by decide +kernel) rfl)) (fun _ _ _ _=>(.some (fQ (jK hu) (dN hu (bW 0) aM (fun _ _=>rfl)) aM (gr _)))) (fun _ _ _ _=>(bW 0)))
 (aJ (nA (i:=4) nd rfl (R4 (rT (bW 3)) (dN hu (bW 3) (R3 Pm aM) (fun _ _=>rfl)) (gL (ao (bW 1) (ao aM aO)))))
 (aJ (nA (i:=5) nd rfl uR)
 (aJ (fG cx rfl (jJ (bW 2)) (qB (i:=6) nd rfl) (aJ (jI (fQ (jK hu) (dN hu (bW 6) aM (fun _ _=>rfl)) aM (gr _)) (aY (nA (i:=4) nd rfl (bW 6))) fR)
 (aY (rV (bW 4) (rX hu (bW 5) (bW 6))))))
 (aY (cX (dw (bW 5)))))))))
theorem A5:cN ["drawing","found","string","row"] ["drawing"] (aG (top 14)):=vI
theorem K8 {f:Addr} {fd:aW} (F:pU K "bow_at" "bow_at" (top 14) f fd) (ft:mg "enumerate" = none) {wD:Addr} {Bx:aW} (Ho:dc P w K mg base jf 2 wD Bx ["row","string"] (d4 K oK)) (Hx:mg "bows_on" = some (.ref wD)) (HI:ar K (.ref wD)=true) (Iq:Binds K Bx ["row","string"] []):dc P w K mg base jf 3 f fd ["drawing"] (d4 K fL) :=
 yc F A5 Li fun _ _ _ _ _ _ hr=>have nd:=A5.nd; have hu:=hr.units; (aJ (nA (i:=1) nd rfl uR)
 (aJ (fG cx rfl (yM rfl ft (bW 0)) (rW rfl (e7 (qB (i:=2) nd rfl) (e7 (qB (i:=3) nd rfl) nO)) (e9 (e9 nV))) (aY (kA (lT GC FZ PySem.F.type_dict_update DX (Nb hu) (bW 1) (ao (dw (bN Ho (hr.mono (by decide)) rfl Hx HI Iq (ao (bW 3) (ao (bW 2) aO)))) aO)))))
 (aY (cX (dw (bW 1))))))
theorem Py:cN ["drawing"] ["drawing"] (aG (top 15)):=vI
theorem Qt {f:Addr} {fd:aW} (F:pU K "bows" "bows" (top 15) f fd) (oR:mg "list" = none) (v7:mg "set" = none) (iF:mg "sorted" = none) {md:Addr} {rC:aW} (vZ:dc P w K mg base jf 3 md rC ["drawing"] (d4 K fL)) (v9:mg "bow_at" = some (.ref md)) (wj:ar K (.ref md)=true) (wL:Binds K rC ["drawing"] []):dc P w K mg base jf 4 f fd ["drawing"] (d4 K kj) :=
 yc F Py QK fun _ _ _ _ _ _ hr=>have hu:=hr.units; (aY (cX (dw (qE rfl hu rfl iF rfl v7 (ao (KD rfl rfl oR (bN vZ (hr.mono (by decide)) rfl v9 wj wL (ao (bW 0) aO))) aO)))))
theorem yC:cN ["drawing","behind","row","passing","follower"] ["drawing"] (aG (top 8)):=vI
theorem HZ {f:Addr} {fd:aW} (F:pU K "next_of" "next_of" (top 8) f fd) (Hr:mg "zip" = none):dc P w K mg base jf 1 f fd ["drawing"] (d4 K oJ) :=
 yc F yC Iw fun _ _ _ _ _ _ hr=>have nd:=yC.nd; have hu:=hr.units; (aJ (nA (i:=1) nd rfl uR)
 (aJ (fG cx rfl (jJ (bW 0)) (qB (i:=2) nd rfl) (aY (fG cx rfl (PS rfl Hr (bW 2) (cK km (iD (bW 2) (iZ aM) kB) (iD (bW 2) kB (iZ aM)))) (rW rfl (e7 (qB (i:=3) nd rfl) (e7 (qB (i:=4) nd rfl) nO)) (e9 (e9 nV))) (aY (rV (iD (bW 4) kB (iZ aM)) (rX hu (bW 1) (iD (bW 3) kB (iZ aM))))))))
 (aY (cX (dw (bW 1))))))
theorem uB:cN ["drawing","behind","coming","spot"] ["drawing"] (aG (top 10)):=vI
theorem CV {f:Addr} {fd:aW} (F:pU K "coming_of" "coming_of" (top 10) f fd) {wC:Addr} {Bw:aW} (Hn:dc P w K mg base jf 1 wC Bw ["drawing"] (d4 K oJ)) (Hw:mg "next_of" = some (.ref wC)) (HH:ar K (.ref wC)=true) (Ip:Binds K Bw ["drawing"] []):dc P w K mg base jf 2 f fd ["drawing"] (d4 K lB) :=
 yc F uB Dt fun _ _ _ _ _ _ hr=>have nd:=uB.nd; have hu:=hr.units; (aJ (nA (i:=1) nd rfl (bN Hn (hr.mono (by decide)) rfl Hw HH Ip (ao (bW 0) aO)))
 (aJ (nA (i:=2) nd rfl uR)
 (aJ (fG cx rfl (Er (bW 1)) (qB (i:=3) nd rfl) (aY (rV (bW 3) (rX hu (bW 2) (dN hu (bW 1) (bW 3) (fun _ _=>rfl))))))
 (aY (cX (dw (bW 2)))))))
theorem qu:cN ["rows","passings","row"] ["rows"] (aG (top 5)):=vI
theorem zv {f:Addr} {fd:aW} (F:pU K "passings_of" "passings_of" (top 5) f fd):dc P w K mg base jf 1 f fd ["rows"] (d4 K jC) :=
 yc F qu zU fun _ _ _ _ _ _ hr=>have nd:=qu.nd; (aJ (nA (i:=1) nd rfl (rY aO))
 (aJ (fG cx rfl (jJ (bW 0)) (qB (i:=2) nd rfl) (aY (kA (lT cP PySem.F.slot_list_extend PySem.F.type_list_extend iW Hv (bW 1) (ao (bW 2) aO)))))
 (aY (cX (dw (bW 1))))))
theorem D8:cN ["drawing"] ["drawing"] (aG (top 6)):=vI
theorem Fi {f:Addr} {fd:aW} (F:pU K "names_of" "names_of" (top 6) f fd) (iF:mg "sorted" = none) {nk:Addr} {sN:aW} (yO:dc P w K mg base jf 1 nk sN ["rows"] (d4 K jC)) (yU:mg "passings_of" = some (.ref nk)) (zf:ar K (.ref nk)=true) (zP:Binds K sN ["rows"] []):dc P w K mg base jf 2 f fd ["drawing"] (d4 K mM) :=
 yc F D8 FO fun _ _ _ _ _ _ hr=>have hu:=hr.units; (aY (cX (dw (iE (C6 rfl hu) rfl iF BC (ao (qF ["passing"] (sc:=aG (top 6)) (XN:=["drawing"]) (jJ (bN yO (hr.mono (by decide)) rfl yU zf zP (ao (bW 0) aO))) (fun _ _ _ _=>(qB (i:=0) (show (["passing"]:List Str).Nodup by decide +kernel) rfl)) (fun _ _ _ _=>(.some (fQ (jK hu) (dN hu (bW 0) aM (fun _ _=>rfl)) aM (gr _)))) (fun _ _ _ _=>(dN hu (bW 0) aM (fun _ _=>rfl)))) aO)))))
theorem ux:cN ["drawing","order","bow","coming","places","name","three"] ["drawing"] (aG (top 17)):=vI
theorem CP {f:Addr} {fd:aW} (F:pU K "places_at" "places_at" (top 17) f fd) {Ie:Addr} {Og:aW} (P9:dc P w K mg base jf 4 Ie Og ["drawing"] (d4 K kj)) (Qc:mg "bows" = some (.ref Ie)) (Qg:ar K (.ref Ie)=true) (QD:Binds K Og ["drawing"] []) {md:Addr} {rC:aW} (vZ:dc P w K mg base jf 3 md rC ["drawing"] (d4 K fL)) (v9:mg "bow_at" = some (.ref md)) (wj:ar K (.ref md)=true) (wL:Binds K rC ["drawing"] []) {rn:Addr} {xn:aW} (Cq:dc P w K mg base jf 2 rn xn ["drawing"] (d4 K lB)) (Cz:mg "coming_of" = some (.ref rn)) (CH:ar K (.ref rn)=true) (Dg:Binds K xn ["drawing"] []) {tP:Addr} {zG:aW} (Ez:dc P w K mg base jf 2 tP zG ["drawing"] (d4 K mM)) (EF:mg "names_of" = some (.ref tP)) (ET:ar K (.ref tP)=true) (FF:Binds K zG ["drawing"] []):dc P w K mg base jf 5 f fd ["drawing"] (d4 K ly) :=
 yc F ux Dk fun _ _ _ _ _ _ hr=>have nd:=ux.nd; have hu:=hr.units; (aJ (nA (i:=1) nd rfl (bN P9 (hr.mono (by decide)) rfl Qc Qg QD (ao (bW 0) aO)))
 (aJ (nA (i:=2) nd rfl (bN vZ (hr.mono (by decide)) rfl v9 wj wL (ao (bW 0) aO)))
 (aJ (nA (i:=3) nd rfl (bN Cq (hr.mono (by decide)) rfl Cz CH Dg (ao (bW 0) aO)))
 (aJ (nA (i:=4) nd rfl (rY aO))
 (aJ (fG cx rfl (jJ (bN Ez (hr.mono (by decide)) rfl EF ET FF (ao (bW 0) aO))) (qB (i:=5) nd rfl) (aJ (nA (i:=6) nd rfl (gL (ao (dN hu (bW 2) (gL (ao (bW 5) (ao aM aO))) (fun _ _=>rfl)) (ao (dN hu (bW 2) (dN hu (bW 3) (gL (ao (bW 5) (ao aM aO))) (fun _ _=>rfl)) (fun _ _=>rfl)) (ao (dN hu (bW 2) (gL (ao (bW 5) (ao aM aO))) (fun _ _=>rfl)) aO)))))
 (aY (kA (lT cP FX FW iW yT (bW 4) (ao (gL (ao (lT cP eB fA iW (lK hu) (bW 1) (ao (dN hu (bW 6) aM (fun _ _=>rfl)) aO)) (ao (lT cP eB fA iW (lK hu) (bW 1) (ao (dN hu (bW 6) aM (fun _ _=>rfl)) aO)) (ao (lT cP eB fA iW (lK hu) (bW 1) (ao (dN hu (bW 6) aM (fun _ _=>rfl)) aO)) aO)))) aO))))))
 (aY (cX (dw (bW 4)))))))))
theorem xA:cN ["drawing","p","numbers"] ["drawing","p","numbers"] (aG (top 19)):=vI
theorem xN {f:Addr} {fd:aW} (F:pU K "fits_colours" "fits_colours" (top 19) f fd) {lZ:Addr} {rz:aW} (xD:dc P w K mg base jf 1 lZ rz ["p"] (d4 K jc)) (xF:mg "refuse_other" = some (.ref lZ)) (xH:ar K (.ref lZ)=true) (xO:Binds K rz ["p"] []) {rm:Addr} {xm:aW} (Cp:dc P w K mg base jf 1 rm xm ["places","p","numbers"] (d4 K jE)) (Cy:mg "keeps_all" = some (.ref rm)) (CG:ar K (.ref rm)=true) (Df:Binds K xm ["places","p","numbers"] []) {rg:Addr} {xj:aW} (Ck:dc P w K mg base jf 5 rg xj ["drawing"] (d4 K ly)) (Cu:mg "places_at" = some (.ref rg)) (CC:ar K (.ref rg)=true) (C9:Binds K xj ["drawing"] []):dc P w K mg base jf 6 f fd ["drawing","p","numbers"] (d4 K jd) :=
 yc F xA xR fun _ _ _ _ _ _ hr=>(aJ (kA (bN xD (hr.mono (by decide)) rfl xF xH xO (ao (bW 1) aO)))
 (aY (cX (dw (bN Cp (hr.mono (by decide)) rfl Cy CG Df (ao (bN Ck (hr.mono (by decide)) rfl Cu CC C9 (ao (bW 0) aO)) (ao (bW 1) (ao (bW 2) aO))))))))
theorem uy:cN ["_law_rules","_law_p","_law_numbers","_law_over","_law_comes","_law_leaves"] ["_law_rules","_law_p","_law_numbers"] (aG (top 37)):=vI
theorem CQ {f:Addr} {fd:aW} (F:pU K "_law_keeps" "_law_keeps" (top 37) f fd):dc P w K mg base jf 1 f fd ["_law_rules","_law_p","_law_numbers"] (d4 K lz) :=
 yc F uy Dm fun _ _ _ _ _ _ hr=>have nd:=uy.nd; have hu:=hr.units; (aJ (fG cx rfl (jJ (bW 0)) (rW rfl (e7 (qB (i:=3) nd rfl) (e7 (qB (i:=4) nd rfl) (e7 (qB (i:=5) nd rfl) nO))) (e9 (e9 (e9 nV)))) (aY (jI (fQ (Hl hu) (cK gi (cK lE (cK lE (cK oO aM (dN hu (bW 2) (bW 3) (fun _ _=>rfl))) (dN hu (bW 2) (bW 4) (fun _ _=>rfl))) (dN hu (bW 2) (bW 5) (fun _ _=>rfl))) (bW 1)) aM (gr _)) (aY (cX (dw vX))) fR)))
 (aY (cX (dw vX))))
theorem sJ:cN ["_law_rows","_law_homes_here","_law_order","_law_found","_law_at","_law_row","_law_k","_law_over","_law_comes"] ["_law_rows"] (aG (top 36)):=vI
theorem AE {f:Addr} {fd:aW} (F:pU K "_law_threes" "_law_threes" (top 36) f fd) (ft:mg "enumerate" = none) (gf:mg "len" = none) (di:mg "range" = none) {iw:Addr} {kF:aW} (oP:dc P w K mg base jf 2 iw kF ["_law_rows"] (d4 K d8)) (oS:mg "_law_homes" = some (.ref iw)) (o4:ar K (.ref iw)=true) (pf:Binds K kF ["_law_rows"] []) {jl:Addr} {mq:aW} (qH:dc P w K mg base jf 3 jl mq ["_law_rows"] (d4 K eR)) (qN:mg "_law_bows" = some (.ref jl)) (qR:ar K (.ref jl)=true) (rH:Binds K mq ["_law_rows"] []) {j8:Addr} {nZ:aW} (tE:dc P w K mg base jf 1 j8 nZ ["_law_row","_law_at","_law_k"] (d4 K ji)) (tF:mg "_law_bow" = some (.ref j8)) (tJ:ar K (.ref j8)=true) (tX:Binds K nZ ["_law_row","_law_at","_law_k"] []):dc P w K mg base jf 4 f fd ["_law_rows"] (d4 K kh) :=
 yc F sJ AK fun _ _ _ _ _ _ hr=>have nd:=sJ.nd; have hu:=hr.units; (aJ (nA (i:=1) nd rfl (bN oP (hr.mono (by decide)) rfl oS o4 pf (ao (bW 0) aO)))
 (aJ (nA (i:=2) nd rfl (bN qH (hr.mono (by decide)) rfl qN qR rH (ao (bW 0) aO)))
 (aJ (nA (i:=3) nd rfl (rY aO))
 (aJ (fG cx rfl (yM rfl ft (bW 0)) (rW rfl (e7 (qB (i:=4) nd rfl) (e7 (qB (i:=5) nd rfl) nO)) (e9 (e9 nV))) (aY (fG cx rfl (fY rfl di (iE ka rfl gf tW (ao (bW 5) aO))) (qB (i:=6) nd rfl) (aY (jI (fQ (jK hu) (dN hu (dN hu (bW 5) (bW 6) (fun _ _=>rfl)) aM (fun _ _=>rfl)) aM (gr _)) (aJ (nA (i:=7) nd rfl (lT cP eB fA iW (lK hu) (bW 2) (ao (dN hu (bW 1) (gL (ao (dN hu (dN hu (bW 5) (bW 6) (fun _ _=>rfl)) aM (fun _ _=>rfl)) (ao aM aO))) (fun _ _=>rfl)) aO)))
 (aJ (nA (i:=8) nd rfl (lT cP eB fA iW (lK hu) (bW 2) (ao (bN tE (hr.mono (by decide)) rfl tF tJ tX (ao (bW 5) (ao (bW 4) (ao (cK lE (bW 6) aM) aO)))) aO)))
 (aY (kA (lT cP FX FW iW yT (bW 3) (ao (gL (ao (bW 7) (ao (bW 8) (ao (lT cP eB fA iW (lK hu) (bW 2) (ao (iD (dN hu (bW 5) (bW 6) (fun _ _=>rfl)) kB (iZ aM)) aO)) aO)))) aO)))))) fR)))))
 (aY (cX (dw (bW 3))))))))
theorem MA:cN ["_law_script","_law_first","_law_many","_law_rows","_law_wide","_law_handed","_law_odd","_law_kind","_law_p","_law_numbers","_law_given","_law_told"] ["_law_script"] (aG (top 40)):=vI
theorem SU {f:Addr} {fd:aW} (F:pU K "law" "law" (top 40) f fd) (gf:mg "len" = none) (oR:mg "list" = none) (di:mg "range" = none) {jk:Addr} {mj:aW} (gG:dc P w K mg base jf 1 jk mj ["_law_script","_law_k"] (d4 K cZ)) (gH:mg "_law_cell" = some (.ref jk)) (gI:ar K (.ref jk)=true) (gJ:Binds K mj ["_law_script","_law_k"] []) {tR:Addr} {zI:aW} (EA:dc P w K mg base jf 2 tR zI ["_law_cells","_law_strings","_law_start"] (d4 K kr)) (EG:mg "_law_made" = some (.ref tR)) (EU:ar K (.ref tR)=true) (FG:Binds K zI ["_law_cells","_law_strings","_law_start"] []) {jl:Addr} {mq:aW} (qH:dc P w K mg base jf 3 jl mq ["_law_rows"] (d4 K eR)) (qN:mg "_law_bows" = some (.ref jl)) (qR:ar K (.ref jl)=true) (rH:Binds K mq ["_law_rows"] []) {nq:Addr} {sO:aW} (yP:dc P w K mg base jf 4 nq sO ["_law_kind","_law_rows","_law_p","_law_numbers"] (d4 K jD)) (yV:mg "_law_refused" = some (.ref nq)) (zg:ar K (.ref nq)=true) (zQ:Binds K sO ["_law_kind","_law_rows","_law_p","_law_numbers"] []) {rj:Addr} {xl:aW} (Co:dc P w K mg base jf 2 rj xl ["_law_script","_law_wide","_law_p"] (d4 K lA)) (Cw:mg "_law_drawn" = some (.ref rj)) (CF:ar K (.ref rj)=true) (De:Binds K xl ["_law_script","_law_wide","_law_p"] []) {ma:Addr} {rB:aW} (xE:dc P w K mg base jf 6 ma rB ["drawing","p","numbers"] (d4 K jd)) (xG:mg "fits_colours" = some (.ref ma)) (xI:ar K (.ref ma)=true) (xP:Binds K rB ["drawing","p","numbers"] []) {rh:Addr} {xk:aW} (Cm:dc P w K mg base jf 1 rh xk ["_law_rules","_law_p","_law_numbers"] (d4 K lz)) (Cv:mg "_law_keeps" = some (.ref rh)) (CD:ar K (.ref rh)=true) (Dc:Binds K xk ["_law_rules","_law_p","_law_numbers"] []) {o8:Addr} {vk:aW} (Av:dc P w K mg base jf 4 o8 vk ["_law_rows"] (d4 K kh)) (Ay:mg "_law_threes" = some (.ref o8)) (AD:ar K (.ref o8)=true) (AH:Binds K vk ["_law_rows"] []):dc P w K mg base jf 7 f fd ["_law_script"] (d4 K K2.AZ) :=
 yc F MA Td fun _ _ _ _ _ _ hr=>have nd:=MA.nd; have hu:=hr.units; (aJ (nA (i:=1) nd rfl (bN gG (hr.mono (by decide)) rfl gH gI gJ (ao (bW 0) (ao aM aO))))
 (aJ (nA (i:=2) nd rfl (cK gi (cK uS (bW 1) aM) aM))
 (aJ (nA (i:=3) nd rfl (bN EA (hr.mono (by decide)) rfl EG EU FG (ao (iD (bW 0) (iZ aM) (iZ (cK km aM (bW 2)))) (ao (cK km aM (cK gi (cK uS (bW 1) aM) aM)) (ao (cK gi (cK uS (bW 1) aM) aM) aO)))))
 (aJ (nA (i:=4) nd rfl (iE ka rfl gf tW (ao (bN qH (hr.mono (by decide)) rfl qN qR rH (ao (bW 3) aO)) aO)))
 (aJ (PO (uP ["_law_row"] (sc:=aG (top 40)) (XN:=["_law_script","_law_first","_law_many","_law_rows","_law_wide","_law_handed","_law_odd","_law_kind","_law_p","_law_numbers","_law_given","_law_told"]) (i:=5) nd rfl rfl (jJ (bW 3)) (fun _ _ _ _=>(qB (i:=0) (show (["_law_row"]:List Str).Nodup by decide +kernel) rfl)) (fun _ _ _ _=>.none) (fun _ _ _ _=>(dw (yN zN rfl oR JU (ao (bW 0) aO))))))
 (aJ (nA (i:=6) nd rfl (cK lE (cK gi (bN gG (hr.mono (by decide)) rfl gH gI gJ (ao (bW 0) (ao aM aO))) aM) aM))
 (aJ (jI (LL.pt (Jj (fQ (jK hu) (cK gi (bN gG (hr.mono (by decide)) rfl gH gI gJ (ao (bW 0) (ao aM aO))) aM) aM (gr _)) (Ei (fQ (KH hu) (bW 6) (gL (ao aM (ao aM (ao aM aO)))) (by with_unfolding_all rfl))))) (aJ (fG cx rfl (fY rfl di aM) (qB (i:=7) nd rfl) (aY (jI (Jl (rT (bN yP (hr.mono (by decide)) rfl yV zg zQ (ao (bW 7) (ao (bW 5) (ao (bW 6) (ao (qF ["_law_k"] (sc:=aG (top 40)) (XN:=["_law_script","_law_first","_law_many","_law_rows","_law_wide","_law_handed","_law_odd","_law_kind","_law_p","_law_numbers","_law_given","_law_told"]) (fY rfl di (bW 4)) (fun _ _ _ _=>(qB (i:=0) (show (["_law_k"]:List Str).Nodup by decide +kernel) rfl)) (fun _ _ _ _=>.none) (fun _ _ _ _=>(dw aM))) aO))))))) (aY (cX (dw vX))) fR)))
 (aY (cX (dw (xY (jK hu) (bW 5) (bW 3) (gr _)))))) fR)
 (aJ (nA (i:=8) nd rfl (dN hu (gL (ao aM (ao aM (ao aM aO)))) (cK gi (bW 1) aM) (fun _ _=>rfl)))
 (aJ (nA (i:=9) nd rfl (bN Co (hr.mono (by decide)) rfl Cw CF De (ao (bW 0) (ao (bW 4) (ao (bW 8) aO)))))
 (aJ (nA (i:=10) nd rfl (yN zN rfl oR JU (ao (bW 9) aO)))
 (aJ (nA (i:=11) nd rfl (bN xE (hr.mono (by decide)) rfl xG xI xP (ao (bW 5) (ao (bW 8) (ao (bW 10) aO)))))
 (aJ (jI (LL.pt (MN (fQ (Hl hu) (bW 5) (bW 3) (gr _)) (Ji (fQ (Hl hu) (bW 10) (bW 9) (gr _))))) (aY (cX (dw vX))) fR)
 (aJ (jI (rT (bN Cm (hr.mono (by decide)) rfl Cv CD Dc (ao (bN Av (hr.mono (by decide)) rfl Ay AD AH (ao (bW 3) aO)) (ao (bW 8) (ao (bW 9) aO))))) (aY (cX (dw (PY (bW 11))))) fR)
 (aY (cX (dw (PZ (bW 11))))))))))))))))))
end
theorem all_mk {l:BL} {w:World} {K:ag} {h:Heap} {mg:Str->Option Value} {fa:Addr} (X:K.In h) (G:h.Ns aN mg) (hfa:mg "law" = some (.ref fa))
  {f0:Addr} {od0 an0:Option Addr} {sl0:Array (Option Value)} {oc0 kV0 dc0 pm0 cd0 ct0:Value} (a0:aR K aN "_law_cell" = some (some (.ref f0))) (l0:K.lookup f0=some ⟨oc0,od0,.func (bE "_law_cell" "_law_cell" (cU (top 30)) (cC (top 30)) (aG (top 30)) .none kV0 dc0 pm0 an0 cd0 ct0),sl0⟩) (c0:bx K cd0 "_law_cell" = true) (k0:ar K (.ref f0)=true)
  {f1:Addr} {od1 an1:Option Addr} {Xs:Array (Option Value)} {oc1 kV1 dc1 pm1 cd1 ct1:Value} (a1:aR K aN "_law_part" = some (some (.ref f1))) (l1:K.lookup f1=some ⟨oc1,od1,.func (bE "_law_part" "_law_part" (cU (top 31)) (cC (top 31)) (aG (top 31)) .none kV1 dc1 pm1 an1 cd1 ct1),Xs⟩) (c1:bx K cd1 "_law_part" = true) (k1:ar K (.ref f1)=true)
  {f2:Addr} {od2 an2:Option Addr} {B5:Array (Option Value)} {oc2 kV2 dc2 pm2 cd2 ct2:Value} (a2:aR K aN "_law_made" = some (some (.ref f2))) (l2:K.lookup f2=some ⟨oc2,od2,.func (bE "_law_made" "_law_made" (cU (top 32)) (cC (top 32)) (aG (top 32)) .none kV2 dc2 pm2 an2 cd2 ct2),B5⟩) (c2:bx K cd2 "_law_made" = true) (k2:ar K (.ref f2)=true)
  {f3:Addr} {od3 an3:Option Addr} {sl3:Array (Option Value)} {oc3 kV3 dc3 pm3 cd3 ct3:Value} (a3:aR K aN "_law_bow" = some (some (.ref f3))) (l3:K.lookup f3=some ⟨oc3,od3,.func (bE "_law_bow" "_law_bow" (cU (top 33)) (cC (top 33)) (aG (top 33)) .none kV3 dc3 pm3 an3 cd3 ct3),sl3⟩) (c3:bx K cd3 "_law_bow" = true) (k3:ar K (.ref f3)=true)
  {f4:Addr} {od4 an4:Option Addr} {sl4:Array (Option Value)} {oc4 kV4 dc4 pm4 cd4 ct4:Value} (a4:aR K aN "_law_homes" = some (some (.ref f4))) (l4:K.lookup f4=some ⟨oc4,od4,.func (bE "_law_homes" "_law_homes" (cU (top 34)) (cC (top 34)) (aG (top 34)) .none kV4 dc4 pm4 an4 cd4 ct4),sl4⟩) (c4:bx K cd4 "_law_homes" = true) (k4:ar K (.ref f4)=true)
  {f5:Addr} {od5 an5:Option Addr} {sl5:Array (Option Value)} {oc5 kV5 dc5 pm5 cd5 ct5:Value} (a5:aR K aN "_law_bows" = some (some (.ref f5))) (l5:K.lookup f5=some ⟨oc5,od5,.func (bE "_law_bows" "_law_bows" (cU (top 35)) (cC (top 35)) (aG (top 35)) .none kV5 dc5 pm5 an5 cd5 ct5),sl5⟩) (c5:bx K cd5 "_law_bows" = true) (k5:ar K (.ref f5)=true)
  {f6:Addr} {od6 an6:Option Addr} {sl6:Array (Option Value)} {oc6 kV6 dc6 pm6 cd6 ct6:Value} (a6:aR K aN "refuse_other" = some (some (.ref f6))) (l6:K.lookup f6=some ⟨oc6,od6,.func (bE "refuse_other" "refuse_other" (cU (top 16)) (cC (top 16)) (aG (top 16)) .none kV6 dc6 pm6 an6 cd6 ct6),sl6⟩) (c6:bx K cd6 "refuse_other" = true) (k6:ar K (.ref f6)=true)
  {f7:Addr} {od7 an7:Option Addr} {sl7:Array (Option Value)} {oc7 kV7 dc7 pm7 cd7 ct7:Value} (a7:aR K aN "fits_colours" = some (some (.ref f7))) (l7:K.lookup f7=some ⟨oc7,od7,.func (bE "fits_colours" "fits_colours" (cU (top 19)) (cC (top 19)) (aG (top 19)) .none kV7 dc7 pm7 an7 cd7 ct7),sl7⟩) (c7:bx K cd7 "fits_colours" = true) (k7:ar K (.ref f7)=true)
  {f8:Addr} {od8 an8:Option Addr} {sl8:Array (Option Value)} {oc8 kV8 dc8 pm8 cd8 ct8:Value} (a8:aR K aN "basis" = some (some (.ref f8))) (l8:K.lookup f8=some ⟨oc8,od8,.func (bE "basis" "basis" (cU (top 26)) (cC (top 26)) (aG (top 26)) .none kV8 dc8 pm8 an8 cd8 ct8),sl8⟩) (c8:bx K cd8 "basis" = true) (k8:ar K (.ref f8)=true)
  {f9:Addr} {od9 an9:Option Addr} {sl9:Array (Option Value)} {oc9 kV9 dc9 pm9 cd9 ct9:Value} (a9:aR K aN "power_of" = some (some (.ref f9))) (l9:K.lookup f9=some ⟨oc9,od9,.func (bE "power_of" "power_of" (cU (top 20)) (cC (top 20)) (aG (top 20)) .none kV9 dc9 pm9 an9 cd9 ct9),sl9⟩) (c9:bx K cd9 "power_of" = true) (k9:ar K (.ref f9)=true)
  {WI:Addr} {YG acr:Option Addr} {Xr:Array (Option Value)} {YZ ZQ abq X2 VM abL:Value} (a10:aR K aN "count_colourings" = some (some (.ref WI))) (Zu:K.lookup WI=some ⟨YZ,YG,.func (bE "count_colourings" "count_colourings" (cU (top 28)) (cC (top 28)) (aG (top 28)) .none ZQ abq X2 acr VM abL),Xr⟩) (c10:bx K VM "count_colourings" = true) (Ws:ar K (.ref WI)=true)
  {f11:Addr} {YF acq:Option Addr} {Xq:Array (Option Value)} {YY ZP abp X1 VL abK:Value} (a11:aR K aN "_law_refused" = some (some (.ref f11))) (Zt:K.lookup f11=some ⟨YY,YF,.func (bE "_law_refused" "_law_refused" (cU (top 38)) (cC (top 38)) (aG (top 38)) .none ZP abp X1 acq VL abK),Xq⟩) (c11:bx K VL "_law_refused" = true) (Wr:ar K (.ref f11)=true)
  {f12:Addr} {YE acp:Option Addr} {Xp:Array (Option Value)} {YX ZO abo X0 VJ abJ:Value} (a12:aR K aN "_law_drawn" = some (some (.ref f12))) (Zs:K.lookup f12=some ⟨YX,YE,.func (bE "_law_drawn" "_law_drawn" (cU (top 39)) (cC (top 39)) (aG (top 39)) .none ZO abo X0 acp VJ abJ),Xp⟩) (c12:bx K VJ "_law_drawn" = true) (Wq:ar K (.ref f12)=true)
  {f13:Addr} {YD aco:Option Addr} {Xo:Array (Option Value)} {YW ZN abn XZ VI abI:Value} (a13:aR K aN "refuse_other" = some (some (.ref f13))) (Zr:K.lookup f13=some ⟨YW,YD,.func (bE "refuse_other" "refuse_other" (cU (top 16)) (cC (top 16)) (aG (top 16)) .none ZN abn XZ aco VI abI),Xo⟩) (c13:bx K VI "refuse_other" = true) (Wo:ar K (.ref f13)=true)
  {f14:Addr} {YC acn:Option Addr} {Xn:Array (Option Value)} {YV ZM abm XY VH abH:Value} (a14:aR K aN "keeps_all" = some (some (.ref f14))) (Zq:K.lookup f14=some ⟨YV,YC,.func (bE "keeps_all" "keeps_all" (cU (top 18)) (cC (top 18)) (aG (top 18)) .none ZM abm XY acn VH abH),Xn⟩) (c14:bx K VH "keeps_all" = true) (Wn:ar K (.ref f14)=true)
  {f15:Addr} {YB acm:Option Addr} {Xm:Array (Option Value)} {YU ZL abl XX VG abG:Value} (a15:aR K aN "spots_on" = some (some (.ref f15))) (Zp:K.lookup f15=some ⟨YU,YB,.func (bE "spots_on" "spots_on" (cU (top 7)) (cC (top 7)) (aG (top 7)) .none ZL abl XX acm VG abG),Xm⟩) (c15:bx K VG "spots_on" = true) (Wm:ar K (.ref f15)=true)
  {f16:Addr} {YA ack:Option Addr} {Xl:Array (Option Value)} {YT ZK abk XW VF abF:Value} (a16:aR K aN "bows_on" = some (some (.ref f16))) (Zo:K.lookup f16=some ⟨YT,YA,.func (bE "bows_on" "bows_on" (cU (top 13)) (cC (top 13)) (aG (top 13)) .none ZK abk XW ack VF abF),Xl⟩) (c16:bx K VF "bows_on" = true) (Wl:ar K (.ref f16)=true)
  {f17:Addr} {Yz acj:Option Addr} {Xk:Array (Option Value)} {YS ZJ abj XU VE abE:Value} (WN:aR K aN "bow_at" = some (some (.ref f17))) (Zn:K.lookup f17=some ⟨YS,Yz,.func (bE "bow_at" "bow_at" (cU (top 14)) (cC (top 14)) (aG (top 14)) .none ZJ abj XU acj VE abE),Xk⟩) (c17:bx K VE "bow_at" = true) (UE:ar K (.ref f17)=true)
  {f18:Addr} {Yy aci:Option Addr} {Xj:Array (Option Value)} {YR ZI abi XT VD abD:Value} (a18:aR K aN "bows" = some (some (.ref f18))) (Zm:K.lookup f18=some ⟨YR,Yy,.func (bE "bows" "bows" (cU (top 15)) (cC (top 15)) (aG (top 15)) .none ZI abi XT aci VD abD),Xj⟩) (c18:bx K VD "bows" = true) (Wj:ar K (.ref f18)=true)
  {f19:Addr} {Yx ach:Option Addr} {Xi:Array (Option Value)} {YQ ZH abh XS VC abC:Value} (a19:aR K aN "next_of" = some (some (.ref f19))) (Zl:K.lookup f19=some ⟨YQ,Yx,.func (bE "next_of" "next_of" (cU (top 8)) (cC (top 8)) (aG (top 8)) .none ZH abh XS ach VC abC),Xi⟩) (c19:bx K VC "next_of" = true) (Wi:ar K (.ref f19)=true)
  {f20:Addr} {Yw acg:Option Addr} {Xh:Array (Option Value)} {YO ZG abg XR VB abB:Value} (a20:aR K aN "coming_of" = some (some (.ref f20))) (Zk:K.lookup f20=some ⟨YO,Yw,.func (bE "coming_of" "coming_of" (cU (top 10)) (cC (top 10)) (aG (top 10)) .none ZG abg XR acg VB abB),Xh⟩) (c20:bx K VB "coming_of" = true) (Wh:ar K (.ref f20)=true)
  {f21:Addr} {Yv acf:Option Addr} {Xg:Array (Option Value)} {YN ZF abf XQ VA abz:Value} (a21:aR K aN "passings_of" = some (some (.ref f21))) (Zj:K.lookup f21=some ⟨YN,Yv,.func (bE "passings_of" "passings_of" (cU (top 5)) (cC (top 5)) (aG (top 5)) .none ZF abf XQ acf VA abz),Xg⟩) (c21:bx K VA "passings_of" = true) (Wg:ar K (.ref f21)=true)
  {f22:Addr} {Yu ace:Option Addr} {Xf:Array (Option Value)} {YM ZE abe XO Vz aby:Value} (a22:aR K aN "names_of" = some (some (.ref f22))) (Zi:K.lookup f22=some ⟨YM,Yu,.func (bE "names_of" "names_of" (cU (top 6)) (cC (top 6)) (aG (top 6)) .none ZE abe XO ace Vz aby),Xf⟩) (c22:bx K Vz "names_of" = true) (Wf:ar K (.ref f22)=true)
  {f23:Addr} {Yt acd:Option Addr} {Xe:Array (Option Value)} {YL ZD abd XM Vy abx:Value} (a23:aR K aN "places_at" = some (some (.ref f23))) (Zh:K.lookup f23=some ⟨YL,Yt,.func (bE "places_at" "places_at" (cU (top 17)) (cC (top 17)) (aG (top 17)) .none ZD abd XM acd Vy abx),Xe⟩) (c23:bx K Vy "places_at" = true) (We:ar K (.ref f23)=true)
  {f24:Addr} {Ys acb:Option Addr} {Xd:Array (Option Value)} {YK ZC abc XJ Vx abw:Value} (a24:aR K aN "fits_colours" = some (some (.ref f24))) (Zg:K.lookup f24=some ⟨YK,Ys,.func (bE "fits_colours" "fits_colours" (cU (top 19)) (cC (top 19)) (aG (top 19)) .none ZC abc XJ acb Vx abw),Xd⟩) (c24:bx K Vx "fits_colours" = true) (Wd:ar K (.ref f24)=true)
  {f25:Addr} {Yr aca:Option Addr} {Xb:Array (Option Value)} {YJ ZA abb XI Vw abv:Value} (a25:aR K aN "_law_keeps" = some (some (.ref f25))) (Zf:K.lookup f25=some ⟨YJ,Yr,.func (bE "_law_keeps" "_law_keeps" (cU (top 37)) (cC (top 37)) (aG (top 37)) .none ZA abb XI aca Vw abv),Xb⟩) (c25:bx K Vw "_law_keeps" = true) (Wc:ar K (.ref f25)=true)
  {f26:Addr} {Yq ab9:Option Addr} {Xa:Array (Option Value)} {YI Zz aba XH Vv abu:Value} (a26:aR K aN "_law_threes" = some (some (.ref f26))) (Ze:K.lookup f26=some ⟨YI,Yq,.func (bE "_law_threes" "_law_threes" (cU (top 36)) (cC (top 36)) (aG (top 36)) .none Zz aba XH ab9 Vv abu),Xa⟩) (c26:bx K Vv "_law_threes" = true) (Wb:ar K (.ref f26)=true)
  {f27:Addr} {Yp VP:Option Addr} {W9:Array (Option Value)} {YH UD Vp Ug S5 Vs:Value} (a27:aR K aN "law" = some (some (.ref f27))) (Zd:K.lookup f27=some ⟨YH,Yp,.func (bE "law" "law" (cU (top 40)) (cC (top 40)) (aG (top 40)) .none UD Vp Ug VP S5 Vs),W9⟩) (c27:bx K S5 "law" = true) (ZR:ar K (.ref f27)=true)
  (Me:aR K aN "len" = some none) (BS:aR K aN "range" = some none) (qh:aR K aN "enumerate" = some none) (Md:aR K aN "set" = some none) (yq:aR K aN "sorted" = some none) (ou:aR K aN "isinstance" = some none) (Mf:aR K aN "all" = some none) (GL:aR K aN "list" = some none) (Mc:aR K aN "zip" = some none) {bX:Addr} (eI:aR K aN "NoPrime" = some (some (.ref bX))) (gh:eX K bX [.type "ValueError",.type "Exception",.type "BaseException",.type "object"] "ValueError.__new__" = true) (tv:dG K (.ref bX) "__getattribute__" = some (some (.builtin "BaseException.__getattribute__"))) (tq:dG K (.ref bX) "__getattr__" = some none) (tj:dG K (.ref bX) "__class__" = some (some (.builtin "object.__class__"))) (sZ:kT K (.builtin "object.__class__") "__get__" = some (some (.builtin "getset_descriptor.__get__"))) (sX:sP K (.builtin "object.__class__")=some true) (sV:jX K bX (.type "object")=some true) (sT:jX K bX (.type "BaseException")=some true) (sR:(GB K bX).isSome=true) {cB:Addr} (gb:aR K aN "TooMany" = some (some (.ref cB))) (jm:eX K cB [.type "ValueError",.type "Exception",.type "BaseException",.type "object"] "ValueError.__new__" = true) (tu:dG K (.ref cB) "__getattribute__" = some (some (.builtin "BaseException.__getattribute__"))) (tm:dG K (.ref cB) "__getattr__" = some none) (td:dG K (.ref cB) "__class__" = some (some (.builtin "object.__class__"))) (sY:kT K (.builtin "object.__class__") "__get__" = some (some (.builtin "getset_descriptor.__get__"))) (sW:sP K (.builtin "object.__class__")=some true) (sU:jX K cB (.type "object")=some true) (sS:jX K cB (.type "BaseException")=some true) (sQ:(GB K cB).isSome=true) {cI:Addr} (jL:aR K aN "KnotError" = some (some (.ref cI))) (gM:eX K cI [.type "ValueError",.type "Exception",.type "BaseException",.type "object"] "ValueError.__new__" = true) (oG:dG K (.ref cI) "__getattribute__" = some (some (.builtin "BaseException.__getattribute__"))) (oF:dG K (.ref cI) "__getattr__" = some none) (oE:dG K (.ref cI) "__class__" = some (some (.builtin "object.__class__"))) (oD:kT K (.builtin "object.__class__") "__get__" = some (some (.builtin "getset_descriptor.__get__"))) (oC:sP K (.builtin "object.__class__")=some true) (oB:jX K cI (.type "object")=some true) (oA:jX K cI (.type "BaseException")=some true) (oz:(GB K cI).isSome=true) (lX:dF K (.type "NoneType") (.ref bX)=some false) (lW:dF K (.type "NoneType") (.ref cB)=some false) (fE:dF K (.ref bX) (.ref bX)=some true) (fC:dF K (.ref cB) (.ref bX)=some false) (fD:dF K (.ref bX) (.ref cB)=some false) (fB:dF K (.ref cB) (.ref cB)=some true) {qL:Value} {qJ:Option Addr} {kH:ClassData} {qp:Array (Option Value)} (ik:K.lookup cB=some ⟨qL,qJ,.cls kH,qp⟩) (ig:kH.mro.contains (.ref cI)=true) {qM:Value} {qK:Option Addr} {kI:ClassData} {qr:Array (Option Value)} (ip:K.lookup bX=some ⟨qM,qK,.cls kI,qr⟩) (ij:kI.mro.contains (.ref cI)=true) {kC:Addr} (se:aR K aN "PRIMES" = some (some (.ref kC))) (jr:yv K kC [3,5,7]=true) :
  ∃ fd:aW,(∀ (s:aq) (v:Value),L9 s fd ⟨[v],[]⟩ [("_law_script",v)])/\∀ base:Heap,K.In base->base.Ns aN mg->dc l.prog w K mg base jf 7 fa fd ["_law_script"] (d4 K K2.AZ):=by
 have e:=hfa.symm.trans (aU X G a27)
 cases e
 have F0:=eD (st:=top 30) l0 c0 k0
 have b0:=F0.binds (ps:=["_law_script","_law_k"]) fun _ _ _ _ _ _ us hl=>by obtain⟨_,_,rfl⟩:=HG hl; rfl
 have F1:=eD (st:=top 31) l1 c1 k1
 have b1:=F1.binds (ps:=["_law_cell_here","_law_prime","_law_many"]) fun _ _ _ _ _ _ us hl=>by obtain⟨_,_,_,rfl⟩:=CB hl; rfl
 have F2:=eD (st:=top 32) l2 c2 k2
 have b2:=F2.binds (ps:=["_law_cells","_law_strings","_law_start"]) fun _ _ _ _ _ _ us hl=>by obtain⟨_,_,_,rfl⟩:=CB hl; rfl
 have F3:=eD (st:=top 33) l3 c3 k3
 have b3:=F3.binds (ps:=["_law_row","_law_at","_law_k"]) fun _ _ _ _ _ _ us hl=>by obtain⟨_,_,_,rfl⟩:=CB hl; rfl
 have F4:=eD (st:=top 34) l4 c4 k4
 have b4:=F4.binds (ps:=["_law_rows"]) fun _ _ _ _ _ _ us hl=>by obtain⟨_,rfl⟩:=wc hl; rfl
 have F5:=eD (st:=top 35) l5 c5 k5
 have b5:=F5.binds (ps:=["_law_rows"]) fun _ _ _ _ _ _ us hl=>by obtain⟨_,rfl⟩:=wc hl; rfl
 have F6:=eD (st:=top 16) l6 c6 k6
 have b6:=F6.binds (ps:=["p"]) fun _ _ _ _ _ _ us hl=>by obtain⟨_,rfl⟩:=wc hl; rfl
 have F7:=eD (st:=top 19) l7 c7 k7
 have b7:=F7.binds (ps:=["drawing","p","numbers"]) fun _ _ _ _ _ _ us hl=>by obtain⟨_,_,_,rfl⟩:=CB hl; rfl
 have F8:=eD (st:=top 26) l8 c8 k8
 have b8:=F8.binds (ps:=["drawing","p"]) fun _ _ _ _ _ _ us hl=>by obtain⟨_,_,rfl⟩:=HG hl; rfl
 have F9:=eD (st:=top 20) l9 c9 k9
 have b9:=F9.binds (ps:=["p","count"]) fun _ _ _ _ _ _ us hl=>by obtain⟨_,_,rfl⟩:=HG hl; rfl
 have F10:=eD (st:=top 28) Zu c10 Ws
 have b10:=F10.binds (ps:=["drawing","p"]) fun _ _ _ _ _ _ us hl=>by obtain⟨_,_,rfl⟩:=HG hl; rfl
 have F11:=eD (st:=top 38) Zt c11 Wr
 have b11:=F11.binds (ps:=["_law_kind","_law_rows","_law_p","_law_numbers"]) fun _ _ _ _ _ _ us hl=>by obtain⟨_,_,_,_,rfl⟩:=Zc hl; rfl
 have F12:=eD (st:=top 39) Zs c12 Wq
 have b12:=F12.binds (ps:=["_law_script","_law_wide","_law_p"]) fun _ _ _ _ _ _ us hl=>by obtain⟨_,_,_,rfl⟩:=CB hl; rfl
 have F13:=eD (st:=top 16) Zr c13 Wo
 have b13:=F13.binds (ps:=["p"]) fun _ _ _ _ _ _ us hl=>by obtain⟨_,rfl⟩:=wc hl; rfl
 have F14:=eD (st:=top 18) Zq c14 Wn
 have b14:=F14.binds (ps:=["places","p","numbers"]) fun _ _ _ _ _ _ us hl=>by obtain⟨_,_,_,rfl⟩:=CB hl; rfl
 have F15:=eD (st:=top 7) Zp c15 Wm
 have b15:=F15.binds (ps:=["row","string"]) fun _ _ _ _ _ _ us hl=>by obtain⟨_,_,rfl⟩:=HG hl; rfl
 have F16:=eD (st:=top 13) Zo c16 Wl
 have b16:=F16.binds (ps:=["row","string"]) fun _ _ _ _ _ _ us hl=>by obtain⟨_,_,rfl⟩:=HG hl; rfl
 have F17:=eD (st:=top 14) Zn c17 UE
 have b17:=F17.binds (ps:=["drawing"]) fun _ _ _ _ _ _ us hl=>by obtain⟨_,rfl⟩:=wc hl; rfl
 have F18:=eD (st:=top 15) Zm c18 Wj
 have b18:=F18.binds (ps:=["drawing"]) fun _ _ _ _ _ _ us hl=>by obtain⟨_,rfl⟩:=wc hl; rfl
 have F19:=eD (st:=top 8) Zl c19 Wi
 have b19:=F19.binds (ps:=["drawing"]) fun _ _ _ _ _ _ us hl=>by obtain⟨_,rfl⟩:=wc hl; rfl
 have F20:=eD (st:=top 10) Zk c20 Wh
 have b20:=F20.binds (ps:=["drawing"]) fun _ _ _ _ _ _ us hl=>by obtain⟨_,rfl⟩:=wc hl; rfl
 have F21:=eD (st:=top 5) Zj c21 Wg
 have b21:=F21.binds (ps:=["rows"]) fun _ _ _ _ _ _ us hl=>by obtain⟨_,rfl⟩:=wc hl; rfl
 have F22:=eD (st:=top 6) Zi c22 Wf
 have b22:=F22.binds (ps:=["drawing"]) fun _ _ _ _ _ _ us hl=>by obtain⟨_,rfl⟩:=wc hl; rfl
 have F23:=eD (st:=top 17) Zh c23 We
 have b23:=F23.binds (ps:=["drawing"]) fun _ _ _ _ _ _ us hl=>by obtain⟨_,rfl⟩:=wc hl; rfl
 have F24:=eD (st:=top 19) Zg c24 Wd
 have b24:=F24.binds (ps:=["drawing","p","numbers"]) fun _ _ _ _ _ _ us hl=>by obtain⟨_,_,_,rfl⟩:=CB hl; rfl
 have F25:=eD (st:=top 37) Zf c25 Wc
 have b25:=F25.binds (ps:=["_law_rules","_law_p","_law_numbers"]) fun _ _ _ _ _ _ us hl=>by obtain⟨_,_,_,rfl⟩:=CB hl; rfl
 have F26:=eD (st:=top 36) Ze c26 Wb
 have b26:=F26.binds (ps:=["_law_rows"]) fun _ _ _ _ _ _ us hl=>by obtain⟨_,rfl⟩:=wc hl; rfl
 have F27:=eD (st:=top 40) Zd c27 ZR
 have gf:=eA X G Me
 have di:=eA X G BS
 have ft:=eA X G qh
 have v7:=eA X G Md
 have iF:=eA X G yq
 have kn:=eA X G ou
 have Hs:=eA X G Mf
 have oR:=eA X G GL
 have Hr:=eA X G Mc
 have jZ:vB K bX:=⟨tv,tq,tj,sZ,sX,sV,sT,sR⟩
 have oy:vB K cB:=⟨tu,tm,td,sY,sW,sU,sS,sQ⟩
 have um:vB K cI:=⟨oG,oF,oE,oD,oC,oB,oA,oz⟩
 have eS:subIn K cB (.ref cI)=true:=by unfold subIn; rw [ik]; exact ig
 have eT:subIn K bX (.ref cI)=true:=by unfold subIn; rw [ip]; exact ij
 refine⟨bE "law" "law" (cU (top 40)) (cC (top 40)) (aG (top 40)) .none UD Vp Ug VP S5 Vs,fun s v=>.of_eq rfl,fun base _ _=>?_⟩
 have ok0:=Fm (P:=l.prog) (w:=w) (mg:=mg) (base:=base) F0 gf
 have ok1:=Fj (P:=l.prog) (w:=w) (mg:=mg) (base:=base) F1
 have ok2:=Fl (P:=l.prog) (w:=w) (mg:=mg) (base:=base) F2 gf di ok1 (aU X G a1) k1 b1
 have Tj:=Ia (P:=l.prog) (w:=w) (mg:=mg) (base:=base) F3 gf di
 have ok4:=CS (P:=l.prog) (w:=w) (mg:=mg) (base:=base) F4 ft gf di Tj (aU X G a3) k3 b3
 have ok5:=Fn (P:=l.prog) (w:=w) (mg:=mg) (base:=base) F5 v7 iF ok4 (aU X G a4) k4 b4
 have ok6:=wA (P:=l.prog) (w:=w) (mg:=mg) (base:=base) F6 eI (aU X G eI) gh jZ (aU X G se) jr
 have ok7:=wB (P:=l.prog) (w:=w) (mg:=mg) (base:=base) F7 ok6 (aU X G a6) k6 b6
 have ok8:=K9 (P:=l.prog) (w:=w) (mg:=mg) (base:=base) F8 ok6 (aU X G a6) k6 b6
 have ok9:=Fh (P:=l.prog) (w:=w) (mg:=mg) (base:=base) F9 di
 have Yo:=rf (P:=l.prog) (w:=w) (mg:=mg) (base:=base) F10 gf ok9 (aU X G a9) k9 b9 ok8 (aU X G a8) k8 b8
 have Yn:=zw (P:=l.prog) (w:=w) (mg:=mg) (base:=base) F11 kn eI (aU X G eI) gh jZ gb (aU X G gb) jm oy jL (aU X G jL) gM um lX lW fE fC fD fB eS eT ok7 (aU X G a7) k7 b7 ok8 (aU X G a8) k8 b8 Yo (aU X G a10) Ws b10
 have Ym:=CT (P:=l.prog) (w:=w) (mg:=mg) (base:=base) F12 di ok0 (aU X G a0) k0 b0
 have Yl:=xM (P:=l.prog) (w:=w) (mg:=mg) (base:=base) F13 (aU X G se) jr
 have Yk:=CU (P:=l.prog) (w:=w) (mg:=mg) (base:=base) F14 Hs
 have Yj:=Fg (P:=l.prog) (w:=w) (mg:=mg) (base:=base) F15
 have Yi:=Ib (P:=l.prog) (w:=w) (mg:=mg) (base:=base) F16 Yj (aU X G a15) Wm b15
 have Uo:=K8 (P:=l.prog) (w:=w) (mg:=mg) (base:=base) F17 ft Yi (aU X G a16) Wl b16
 have Yh:=Qt (P:=l.prog) (w:=w) (mg:=mg) (base:=base) F18 oR v7 iF Uo (aU X G WN) UE b17
 have Yg:=HZ (P:=l.prog) (w:=w) (mg:=mg) (base:=base) F19 Hr
 have Yf:=CV (P:=l.prog) (w:=w) (mg:=mg) (base:=base) F20 Yg (aU X G a19) Wi b19
 have Ye:=zv (P:=l.prog) (w:=w) (mg:=mg) (base:=base) F21
 have Yd:=Fi (P:=l.prog) (w:=w) (mg:=mg) (base:=base) F22 iF Ye (aU X G a21) Wg b21
 have Yc:=CP (P:=l.prog) (w:=w) (mg:=mg) (base:=base) F23 Yh (aU X G a18) Wj b18 Uo (aU X G WN) UE b17 Yf (aU X G a20) Wh b20 Yd (aU X G a22) Wf b22
 have Yb:=xN (P:=l.prog) (w:=w) (mg:=mg) (base:=base) F24 Yl (aU X G a13) Wo b13 Yk (aU X G a14) Wn b14 Yc (aU X G a23) We b23
 have Ya:=CQ (P:=l.prog) (w:=w) (mg:=mg) (base:=base) F25
 have X9:=AE (P:=l.prog) (w:=w) (mg:=mg) (base:=base) F26 ft gf di ok4 (aU X G a4) k4 b4 ok5 (aU X G a5) k5 b5 Tj (aU X G a3) k3 b3
 exact SU F27 gf oR di ok0 (aU X G a0) k0 b0 ok2 (aU X G a2) k2 b2 ok5 (aU X G a5) k5 b5 Yn (aU X G a11) Wr b11 Ym (aU X G a12) Wq b12 Yb (aU X G a24) Wd b24 Ya (aU X G a25) Wc b25 X9 (aU X G a26) Wb b26
end Fin
end Internal
open Internal
open PySem PySem.W PyProof.Rows
set_option maxRecDepth 100000 in
set_option maxHeartbeats 0 in
theorem PySem.Challenge.cw_knotwise_k52_a_colouring_told_holds : PySem.Challenge.rw_knotwise_k52_a_colouring_told.Holds := by
 w_on; o_law; k_head; (case hw=>w_witness2)
 k_fill
 refine K2.Nj (l:=PySem.Challenge.rw_knotwise_k52_a_colouring_told) (k:=7) (x:="_law_script") rfl rfl ⟨rfl,by decide,by decide⟩ (fun w h Y=>PySem.W.kIn_of Y) ?F
 case F =>
  intro w mg fa h KX G UU
  refine' Fin.all_mk KX G UU ?a0 ?l0 ?c0 ?k0 ?a1 ?l1 ?c1 ?k1 ?a2 ?l2 ?c2 ?k2 ?a3 ?l3 ?c3 ?k3 ?a4 ?l4 ?c4 ?k4 ?a5 ?l5 ?c5 ?k5 ?a6 ?l6 ?c6 ?k6 ?a7 ?l7 ?c7 ?k7 ?a8 ?l8 ?c8 ?k8 ?a9 ?l9 ?c9 ?k9 ?a10 ?Zu ?c10 ?Ws ?a11 ?Zt ?c11 ?Wr ?a12 ?Zs ?c12 ?Wq ?a13 ?Zr ?c13 ?Wo ?a14 ?Zq ?c14 ?Wn ?a15 ?Zp ?c15 ?Wm ?a16 ?Zo ?c16 ?Wl ?WN ?Zn ?c17 ?UE ?a18 ?Zm ?c18 ?Wj ?a19 ?Zl ?c19 ?Wi ?a20 ?Zk ?c20 ?Wh ?a21 ?Zj ?c21 ?Wg ?a22 ?Zi ?c22 ?Wf ?a23 ?Zh ?c23 ?We ?a24 ?Zg ?c24 ?Wd ?a25 ?Zf ?c25 ?Wc ?a26 ?Ze ?c26 ?Wb ?a27 ?Zd ?c27 ?ZR ?Me ?BS ?qh ?Md ?yq ?ou ?Mf ?GL ?Mc ?eI ?gh ?tv ?tq ?tj ?sZ ?sX ?sV ?sT ?sR ?gb ?jm ?tu ?tm ?td ?sY ?sW ?sU ?sS ?sQ ?jL ?gM ?oG ?oF ?oE ?oD ?oC ?oB ?oA ?oz ?lX ?lW ?fE ?fC ?fD ?fB ?ik ?ig ?ip ?ij ?se ?jr
  (case a0=>k_is); (case l0=>k_is); (case c0=>k_is); (case k0=>k_is)
  (case a1=>k_is); (case l1=>k_is); (case c1=>k_is); (case k1=>k_is)
  (case a2=>k_is); (case l2=>k_is); (case c2=>k_is); (case k2=>k_is)
  (case a3=>k_is); (case l3=>k_is); (case c3=>k_is); (case k3=>k_is)
  (case a4=>k_is); (case l4=>k_is); (case c4=>k_is); (case k4=>k_is)
  (case a5=>k_is); (case l5=>k_is); (case c5=>k_is); (case k5=>k_is)
  (case a6=>k_is); (case l6=>k_is); (case c6=>k_is); (case k6=>k_is)
  (case a7=>k_is); (case l7=>k_is); (case c7=>k_is); (case k7=>k_is)
  (case a8=>k_is); (case l8=>k_is); (case c8=>k_is); (case k8=>k_is)
  (case a9=>k_is); (case l9=>k_is); (case c9=>k_is); (case k9=>k_is)
  (case a10=>k_is); (case Zu=>k_is); (case c10=>k_is); (case Ws=>k_is)
  (case a11=>k_is); (case Zt=>k_is); (case c11=>k_is); (case Wr=>k_is)
  (case a12=>k_is); (case Zs=>k_is); (case c12=>k_is); (case Wq=>k_is)
  (case a13=>k_is); (case Zr=>k_is); (case c13=>k_is); (case Wo=>k_is)
  (case a14=>k_is); (case Zq=>k_is); (case c14=>k_is); (case Wn=>k_is)
  (case a15=>k_is); (case Zp=>k_is); (case c15=>k_is); (case Wm=>k_is)
  (case a16=>k_is); (case Zo=>k_is); (case c16=>k_is); (case Wl=>k_is)
  (case WN=>k_is); (case Zn=>k_is); (case c17=>k_is); (case UE=>k_is)
  (case a18=>k_is); (case Zm=>k_is); (case c18=>k_is); (case Wj=>k_is)
  (case a19=>k_is); (case Zl=>k_is); (case c19=>k_is); (case Wi=>k_is)
  (case a20=>k_is); (case Zk=>k_is); (case c20=>k_is); (case Wh=>k_is)
  (case a21=>k_is); (case Zj=>k_is); (case c21=>k_is); (case Wg=>k_is)
  (case a22=>k_is); (case Zi=>k_is); (case c22=>k_is); (case Wf=>k_is)
  (case a23=>k_is); (case Zh=>k_is); (case c23=>k_is); (case We=>k_is)
  (case a24=>k_is); (case Zg=>k_is); (case c24=>k_is); (case Wd=>k_is)
  (case a25=>k_is); (case Zf=>k_is); (case c25=>k_is); (case Wc=>k_is)
  (case a26=>k_is); (case Ze=>k_is); (case c26=>k_is); (case Wb=>k_is)
  (case a27=>k_is); (case Zd=>k_is); (case c27=>k_is); (case ZR=>k_is)
  (case Me=>k_is)
  (case BS=>k_is)
  (case qh=>k_is)
  (case Md=>k_is)
  (case yq=>k_is)
  (case ou=>k_is)
  (case Mf=>k_is)
  (case GL=>k_is)
  (case Mc=>k_is)
  (case eI=>k_is)
  (case gh=>k_exc)
  (case tv=>first | k_is | rfl)
  (case tq=>first | k_is | rfl)
  (case tj=>first | k_is | rfl)
  (case sZ=>first | k_is | rfl)
  (case sX=>first | k_is | rfl)
  (case sV=>first | k_is | rfl)
  (case sT=>first | k_is | rfl)
  (case sR=>first | k_is | rfl)
  (case gb=>k_is)
  (case jm=>k_exc)
  (case tu=>first | k_is | rfl)
  (case tm=>first | k_is | rfl)
  (case td=>first | k_is | rfl)
  (case sY=>first | k_is | rfl)
  (case sW=>first | k_is | rfl)
  (case sU=>first | k_is | rfl)
  (case sS=>first | k_is | rfl)
  (case sQ=>first | k_is | rfl)
  (case jL=>k_is)
  (case gM=>k_exc)
  (case oG=>first | k_is | rfl)
  (case oF=>first | k_is | rfl)
  (case oE=>first | k_is | rfl)
  (case oD=>first | k_is | rfl)
  (case oC=>first | k_is | rfl)
  (case oB=>first | k_is | rfl)
  (case oA=>first | k_is | rfl)
  (case oz=>first | k_is | rfl)
  (case lX=>first | k_is | kit_is)
  (case lW=>first | k_is | kit_is)
  (case fE=>first | k_is | kit_is)
  (case fC=>first | k_is | kit_is)
  (case fD=>first | k_is | kit_is)
  (case fB=>first | k_is | kit_is)
  (case ik=>k_is)
  (case ig=>first | rfl | decide)
  (case ip=>k_is)
  (case ij=>first | rfl | decide)
  (case se=>k_is)
  (case jr=>first | k_is | rfl)
