import PyProof.Rows.All
import Wide.All
import OpenK.AllK
import Wide.FinOn
import Lean
import PyProof.EqAt
import PyProof.EqKinds
import PyProof.TupleCall
import PySem.Challenge.RW_knotwise_k66_braids_closed
set_option Elab.async false
set_option linter.all false
set_option maxRecDepth 100000
set_option maxHeartbeats 4000000
set_option Elab.async false
set_option linter.all false
set_option maxRecDepth 100000
namespace L2
open PySem PySem.Spec PyProof.Rows
abbrev Key := Sum Int Str
def keyIs : Key → Value → Bool
  | .inl k, v => Value.isInt k v
  | .inr x, v => Value.isStrOf x v
def keyH (w : World) : Key → Int
  | .inl k => hashInt k
  | .inr x => hashStr w x
theorem keyIs_shape : ∀ {k : Key} {v : Value}, keyIs k v = true → (∃ i t, k = Sum.inl i ∧ v = Value.int i t) ∨ (∃ x t, k = Sum.inr x ∧ v = Value.str x t)
  | .inl i, v, h => by
    obtain ⟨t, e⟩ := Value.isInt_shape (k := i) (v := v) h
    exact .inl ⟨i, t, rfl, e⟩
  | .inr x, v, h => by
    obtain ⟨t, e⟩ := Value.isStrOf_shape (x := x) (v := v) h
    exact .inr ⟨x, t, rfl, e⟩
theorem keyIs_int (i : Int) (t : Tok) : keyIs (.inl i) (.int i t) = true := by simp [keyIs, Value.isInt]
theorem keyIs_str (x : Str) (t : Tok) : keyIs (.inr x) (.str x t) = true := by simp [keyIs, Value.isStrOf]
theorem key_ll (a b : Int) : decide ((Sum.inl a : Key) = Sum.inl b) = (a == b) := by
  by_cases e : a = b
  · subst e; simp
  · have h : ¬ (Sum.inl a : Key) = Sum.inl b := fun q => e (Sum.inl.inj q)
    rw [decide_eq_false h]
    exact (beq_eq_false_iff_ne.mpr e).symm
theorem key_rr (a b : Str) : decide ((Sum.inr a : Key) = Sum.inr b) = decide (a = b) := by
  by_cases e : a = b
  · subst e; simp
  · have h : ¬ (Sum.inr a : Key) = Sum.inr b := fun q => e (Sum.inr.inj q)
    rw [decide_eq_false h, decide_eq_false e]
theorem key_lr (a : Int) (b : Str) : decide ((Sum.inl a : Key) = Sum.inr b) = false := decide_eq_false (fun q => nomatch q)
theorem key_rl (a : Str) (b : Int) : decide ((Sum.inr a : Key) = Sum.inl b) = false := decide_eq_false (fun q => nomatch q)
def mixKind (prog : Program) (w : World) : PySem.KeyKind prog w Key where
  is := keyIs
  hash := keyH w
  inj := fun v a b ha hb => by
    rcases keyIs_shape ha with ⟨i, t, rfl, rfl⟩ | ⟨x, t, rfl, rfl⟩
    · rcases keyIs_shape hb with ⟨j, u, rfl, e⟩ | ⟨y, u, rfl, e⟩
      · injection e with e1 _; rw [e1]
      · exact nomatch e
    · rcases keyIs_shape hb with ⟨j, u, rfl, e⟩ | ⟨y, u, rfl, e⟩
      · exact nomatch e
      · injection e with e1 _; rw [e1]
  byValue := fun k v h => by
    rcases keyIs_shape h with ⟨i, t, rfl, rfl⟩ | ⟨x, t, rfl, rfl⟩ <;> rfl
  pyHash := fun hv h => by
    rcases keyIs_shape hv with ⟨i, t, rfl, rfl⟩ | ⟨x, t, rfl, rfl⟩
    · exact wpAny_pyHash_int h
    · exact wpAny_pyHash_str h
  eqBool := fun hu hv h => by
    rcases keyIs_shape hu with ⟨i, t, rfl, rfl⟩ | ⟨x, t, rfl, rfl⟩
    · rcases keyIs_shape hv with ⟨j, u, rfl, rfl⟩ | ⟨y, u, rfl, rfl⟩
      · rw [key_ll] at h; exact wpAny_eqBool_int h
      · rw [key_lr] at h; exact SeqAt.EqAt.int_str i t y u _ _ _ _ h
    · rcases keyIs_shape hv with ⟨j, u, rfl, rfl⟩ | ⟨y, u, rfl, rfl⟩
      · rw [key_rl] at h; exact SeqAt.EqAt.str_int x t j u _ _ _ _ h
      · rw [key_rr] at h; exact wpAny_eqBool_str h
  «strs» := fun k x t v h => by
    rcases keyIs_shape h with ⟨i, u, rfl, e⟩ | ⟨y, u, rfl, e⟩
    · exact nomatch e
    · injection e with e1 _
      subst e1
      cases v <;> rfl
theorem mixKind_int (prog : Program) (w : World) (i : Int) (t : Tok) : (mixKind prog w).is (.inl i) (.int i t) = true := keyIs_int i t
theorem mixKind_str (prog : Program) (w : World) (x : Str) (t : Tok) : (mixKind prog w).is (.inr x) (.str x t) = true := keyIs_str x t
end L2
namespace L2
open PySem PySem.Spec PyProof.Rows
inductive V where
  | non | bl (b : Bool) | int (i : Int) | str (x : Str) | byt (b : Array UInt8) | flt (b : UInt64) | ref (a : Addr) | ty (n : String)
  deriving DecidableEq
def RelV : V → Value → Prop
  | .non, u => u = Value.none
  | .bl b, u => u = Value.bool b
  | .int i, u => ∃ t, u = Value.int i t
  | .str x, u => ∃ t, u = Value.str x t
  | .byt b, u => ∃ t, u = Value.bytes b t
  | .flt b, u => ∃ t, u = Value.float b t
  | .ref a, u => u = Value.ref a
  | .ty n, u => u = Value.type n
abbrev Vals : List V → List Value → Prop := Paired RelV
theorem Vals.length {xs : List V} {us : List Value} (r : Vals xs us) : xs.length = us.length := Paired.length r
theorem Vals.get : ∀ {xs : List V} {us : List Value} {i : Nat} {x : V}, Vals xs us → xs[i]? = some x → ∃ u, us[i]? = some u ∧ RelV x u
  | _, _, _, _, .nil, e => by simp at e
  | _, _, 0, _, .cons r _, e => by simp at e; subst e; exact ⟨_, rfl, r⟩
  | _, _, i + 1, x, .cons _ t, e => by
    obtain ⟨u, h1, h2⟩ := Vals.get (i := i) (x := x) t (by simpa using e)
    exact ⟨u, by simpa using h1, h2⟩
theorem Vals.append : ∀ {xs ys : List V} {us ws : List Value}, Vals xs us → Vals ys ws → Vals (xs ++ ys) (us ++ ws)
  | _, _, _, _, .nil, s => s
  | _, _, _, _, .cons r t, s => .cons r (Vals.append t s)
theorem Vals.take : ∀ {xs : List V} {us : List Value} (n : Nat), Vals xs us → Vals (xs.take n) (us.take n)
  | _, _, 0, _ => .nil
  | _, _, _ + 1, .nil => .nil
  | _, _, n + 1, .cons r t => .cons r (Vals.take n t)
theorem Vals.drop : ∀ {xs : List V} {us : List Value} (n : Nat), Vals xs us → Vals (xs.drop n) (us.drop n)
  | _, _, 0, r => r
  | _, _, _ + 1, .nil => .nil
  | _, _, n + 1, .cons _ t => Vals.drop n t
def RelO : Option V → Option Value → Prop
  | some v, some u => RelV v u
  | none, none => True
  | _, _ => False
def KV {κ : Type} : List (κ × V) → List (κ × Value) → Prop := Paired fun (p : κ × V) (q : κ × Value) => p.1 = q.1 ∧ RelV p.2 q.2
def kV : Key → V
  | .inl i => .int i
  | .inr x => .str x
inductive HO where
  | lst (xs : List V)
  | tup (xs : List V)
  | dK (kvs : List (Key × V)) | dT (kvs : List (List Key × V))
  | set (S : Int → Bool) (n : Nat)
  | ins (C dx : Addr) (fs : List (Str × V))
  | own (x : Addr)
  | xd (fs : List (Str × V))
  | met (f x : Addr)
  | rng (lo hi : Int)
  | frz (o : Obj) (u : HO)
  | tbl (ps : Array Value)
  | ext (φ : Heap → Prop)
abbrev Hp := Addr → Option HO
def upd (H : Hp) (a : Addr) (o : HO) : Hp := fun b => if b = a then some o else H b
theorem upd_same {H : Hp} {a : Addr} {o : HO} : upd H a o a = some o := by unfold upd; rw [if_pos rfl]
theorem upd_ne {H : Hp} {a b : Addr} {o : HO} (h : b ≠ a) : upd H a o b = H b := by unfold upd; rw [if_neg h]
theorem ne_of_none {H : Hp} {a b : Addr} {o : HO} (h : H a = some o) (h' : H b = none) : a ≠ b := by
  intro e; subst e; rw [h] at h'; cases h'
section
variable (P : Program) (w : World)
def ObjOk (H : Hp) (h : Heap) (a : Addr) : HO → Prop
  | .lst xs => xs.length ≤ sizeLine ∧ ∃ (its : List Value) (n : Nat), Vals xs its ∧ h.get? a = some { cls := .type "list", data := .seq its.toArray n }
  | .tup xs => xs.length ≤ sizeLine ∧ ∃ its : List Value, Vals xs its ∧ IsTup h a its.toArray
  | .dK kvs => kvs.length ≤ sizeLine ∧ (a == sysModules) = false ∧ ∃ vs, KV kvs vs ∧ h.DictOf (mixKind P w) a vs
  | .dT kvs => kvs.length ≤ sizeLine ∧ (a == sysModules) = false ∧ ∃ xs : List (List Key × Addr × Value),
      Paired (fun (p : List Key × V) (q : List Key × Addr × Value) => p.1 = q.1 ∧ H q.2.1 = some (.tup (p.1.map kV)) ∧ RelV p.2 q.2.2) kvs xs ∧
      ∃ o es ep, h.get? a = some o ∧ o.ExactDict ∧ o.data = .dict es ep ∧ es.toList = xs.map (entryOfKey (tupleKind (mixKind P w))) ∧ (xs.map (·.1)).Nodup
  | .set S n => h.SetOf (intKind P w) a S n
  | .ins C dx fs => H dx = some (.own a) ∧ fs.length ≤ 1000 ∧ dx ≠ a ∧ h.get? a = some (PySem.W.instObj C dx) ∧
      ∃ mA, h.Ns1 dx mA ∧ (∀ f, RelO (fs.lookup f) (mA f)) ∧ PySem.Within mA (fs.map (·.1))
  | .own _ => ∃ o, h.get? a = some o
  | .xd fs => ∃ mA, h.Ns1 a mA ∧ ∀ f, RelO (fs.lookup f) (mA f)
  | .rng lo hi => ∃ t u v, h.get? a = some { cls := .type "range", data := .fields #[.int lo t, .int hi u, .int 1 v] }
  | .frz o u => h.get? a = some o ∧ ObjOk H h a u
  | .tbl ps => h.get? a = some { cls := .none, data := .fields ps }
  | .met f x => h.get? a = some (PySem.W.methodObj (.ref f) (.ref x))
  | .ext φ => φ h ∧ (∃ o, h.get? a = some o) ∧ ∀ h1 h2 : Heap, φ h1 → (∀ o, h1.get? a = some o → h2.get? a = some o) → φ h2
def HOk (H : Hp) (h : Heap) : Prop := ∀ a o, H a = some o → ObjOk P w H h a o
end
section
variable {P : Program} {w : World} {H H' : Hp} {h h' : Heap} {a : Addr} {o : HO}
theorem ObjOk.lt (x : ObjOk P w H h a o) : a < h.objs.size := by
  cases o with
  | lst xs => obtain ⟨_, _, _, _, e⟩ := x; exact Heap.lt_size e
  | tup xs => obtain ⟨_, _, _, p⟩ := x; exact p.lt
  | dK kvs => obtain ⟨_, _, _, _, o, _, _, e, _⟩ := x; exact Heap.lt_size e
  | dT kvs => obtain ⟨_, _, _, _, o, _, _, e, _⟩ := x; exact Heap.lt_size e
  | set S n => obtain ⟨o, _, _, _, e, _⟩ := x; exact Heap.lt_size e
  | ins C dx fs => obtain ⟨_, _, _, e, _⟩ := x; exact Heap.lt_size e
  | own y => obtain ⟨_, e⟩ := x; exact Heap.lt_size e
  | xd fs => obtain ⟨_, ⟨_, _, _, e, _⟩, _⟩ := x; exact Heap.lt_size e
  | rng lo hi => obtain ⟨_, _, _, e⟩ := x; exact Heap.lt_size e
  | frz ob u => obtain ⟨e, _⟩ := x; exact Heap.lt_size e
  | tbl ps => exact Heap.lt_size (show h.get? a = some _ from x)
  | met f y => exact Heap.lt_size (show h.get? a = some _ from x)
  | ext φ => obtain ⟨_, ⟨_, e⟩, _⟩ := x; exact Heap.lt_size e
theorem Paired.mapP {α β : Type} {F G : α → β → Prop} : ∀ {l₁ : List α} {l₂ : List β}, Paired F l₁ l₂ → (∀ a b, F a b → G a b) → Paired G l₁ l₂
  | _, _, .nil, _ => .nil
  | _, _, .cons r t, f => .cons (f _ _ r) (Paired.mapP t f)
theorem ObjOk.stay (x : ObjOk P w H h a o) (k : ∀ b u, (b = a ∨ H b = some (.own a)) → h.get? b = some u → h'.get? b = some u)
    (ho : ∀ b, H b = some (.own a) → H' b = some (.own a)) (ht : ∀ b xs, H b = some (.tup xs) → H' b = some (.tup xs)) : ObjOk P w H' h' a o := by
  induction o with
  | lst xs => obtain ⟨z, its, n, r, e⟩ := x; exact ⟨z, its, n, r, k _ _ (.inl rfl) e⟩
  | tup xs => obtain ⟨z, its, r, ob, e, c⟩ := x; exact ⟨z, its, r, ob, k _ _ (.inl rfl) e, c⟩
  | dK kvs => obtain ⟨z, y, vs, r, ob, es, ep, e, c⟩ := x; exact ⟨z, y, vs, r, ob, es, ep, k _ _ (.inl rfl) e, c⟩
  | dT kvs =>
    obtain ⟨z, y, xs, r, ob, es, ep, e, c⟩ := x
    exact ⟨z, y, xs, Paired.mapP r fun p q z => ⟨z.1, ht _ _ z.2.1, z.2.2⟩, ob, es, ep, k _ _ (.inl rfl) e, c⟩
  | set S n => obtain ⟨ob, es, ep, t, e, c⟩ := x; exact ⟨ob, es, ep, t, k _ _ (.inl rfl) e, c⟩
  | ins C dx fs =>
    obtain ⟨d, z, ne, e, mA, ⟨od, es, ep, e2, c⟩, r⟩ := x
    exact ⟨ho _ d, z, ne, k _ _ (.inl rfl) e, mA, ⟨od, es, ep, k _ _ (.inr d) e2, c⟩, r⟩
  | own y => obtain ⟨ob, e⟩ := x; exact ⟨ob, k _ _ (.inl rfl) e⟩
  | xd fs => obtain ⟨mA, ⟨od, es, ep, e, c⟩, r⟩ := x; exact ⟨mA, ⟨od, es, ep, k _ _ (.inl rfl) e, c⟩, r⟩
  | rng lo hi => obtain ⟨t, u, v, e⟩ := x; exact ⟨t, u, v, k _ _ (.inl rfl) e⟩
  | frz ob u ih => obtain ⟨e, q⟩ := x; exact ⟨k _ _ (.inl rfl) e, ih q⟩
  | tbl ps =>
    have e : h.get? a = some { cls := .none, data := .fields ps } := x
    show h'.get? a = some { cls := .none, data := .fields ps }
    exact k a _ (.inl rfl) e
  | met f y =>
    have e : h.get? a = some (PySem.W.methodObj (.ref f) (.ref y)) := x
    show h'.get? a = some (PySem.W.methodObj (.ref f) (.ref y))
    exact k a _ (.inl rfl) e
  | ext φ => obtain ⟨p, ⟨o, e⟩, st⟩ := x; exact ⟨st _ _ p fun o q => k _ _ (.inl rfl) q, ⟨o, k _ _ (.inl rfl) e⟩, st⟩
theorem HOk.lt (x : HOk P w H h) (e : H a = some o) : a < h.objs.size := (x a o e).lt
theorem HOk.fresh (x : HOk P w H h) (e : h.objs.size ≤ a) : H a = none := by
  cases q : H a with
  | none => rfl
  | some u => exact absurd (Nat.lt_of_lt_of_le (x.lt q) e) (Nat.lt_irrefl _)
theorem HOk.kept (x : HOk P w H h) (k : ∀ b u, h.get? b = some u → h'.get? b = some u) : HOk P w H h' := fun a o e =>
  (x a o e).stay (fun b u _ q => k b u q) (fun _ q => q) fun _ _ q => q
theorem HOk.laid (x : HOk P w H h) (k : ∀ b u, h.get? b = some u → h'.get? b = some u) (hp : h.objs.size ≤ a) (new : ObjOk P w (upd H a o) h' a o) : HOk P w (upd H a o) h' := fun b u e => by
  have hn := x.fresh hp
  by_cases hb : b = a
  · subst hb; rw [upd_same] at e; cases e; exact new
  · rw [upd_ne hb] at e
    exact (x b u e).stay (fun c v _ q => k c v q) (fun c q => by rw [upd_ne (ne_of_none q hn)]; exact q) fun c xs q => by rw [upd_ne (ne_of_none q hn)]; exact q
end
def Rd (H : Hp) (a : Addr) (u : HO) : Prop := H a = some u ∨ ∃ o, H a = some (.frz o u)
theorem Rd.ok {P : Program} {w : World} {H : Hp} {h : Heap} {a : Addr} {u : HO} (r : Rd H a u) (x : HOk P w H h) : ObjOk P w H h a u := by
  rcases r with r | ⟨o, r⟩
  · exact x a u r
  · obtain ⟨_, q⟩ := x a _ r
    exact q
def Mut : Option HO → Prop
  | some (.lst _) => True
  | some (.dK _) => True
  | some (.dT _) => True
  | some (.set _ _) => True
  | some (.ins _ _ _) => True
  | some (.ext _) => True
  | _ => False
section
variable {P : Program} {w : World} {H : Hp} {h h' : Heap} {x e : Addr} {o' : HO}
theorem HOk.write (ok : HOk P w H h) (mu : Mut (H x)) (he : e = x ∨ H e = some (.own x)) (k : ∀ b u, b ≠ e → h.get? b = some u → h'.get? b = some u) (heo : ∃ u, h'.get? e = some u)
    (new : ObjOk P w (upd H x o') h' x o') : HOk P w (upd H x o') h' := fun b u q => by
  have nown : ∀ c y, H c = some (.own y) → c ≠ x := fun c y r z => by subst z; rw [r] at mu; exact mu
  have ntup : ∀ c xs, H c = some (.tup xs) → c ≠ x := fun c xs r z => by subst z; rw [r] at mu; exact mu
  by_cases hb : b = x
  · subst hb; rw [upd_same] at q; cases q; exact new
  · rw [upd_ne hb] at q
    by_cases hbe : b = e
    · have q' : H b = some (.own x) := by
        rcases he with z | z
        · exact absurd (hbe.trans z) hb
        · rw [hbe]; exact z
      rw [q] at q'; cases q'
      obtain ⟨v, hv⟩ := heo
      exact ⟨v, by rw [hbe]; exact hv⟩
    · refine (ok b u q).stay (fun c v hc r => k c v ?_ r) (fun c r => by rw [upd_ne (nown c b r)]; exact r) fun c xs r => by rw [upd_ne (ntup c xs r)]; exact r
      rcases hc with rfl | hc
      · exact hbe
      · rintro rfl
        rcases he with z | z
        · exact nown c b hc z
        · rw [hc] at z; cases z; exact hb rfl
end
structure Un (fs ex : List Addr) (H H' : Hp) (h h' : Heap) : Prop where
  keep : ∀ b o, h.get? b = some o → H b = none → b ∉ fs → b ∉ ex → h'.get? b = some o
  slot : ∀ b o, h.get? b = some o → H b = none → b ∈ fs → b ∉ ex → ∃ sl, h'.get? b = some { o with slots := sl }
  free : ∀ b o, h.get? b = some o → H b = none → b ∉ ex → H' b = none
  there : ∀ b o, h.get? b = some o → b ∉ ex → ∃ o', h'.get? b = some o'
  tups : ∀ b xs, H b = some (.tup xs) → H' b = some (.tup xs)
  frzs : ∀ b o u, H b = some (.frz o u) → H' b = some (.frz o u)
  tbls : ∀ b ps, H b = some (.tbl ps) → ∃ more, H' b = some (.tbl (ps ++ more))
section
variable {fs fs' ex ex' : List Addr} {H H1 H2 : Hp} {h h1 h2 h' : Heap} {a x e : Addr} {o : HO}
theorem Un.any (u : Un fs ex H H1 h h1) {b : Addr} {ob : Obj} (q : h.get? b = some ob) (n : H b = none) (hx : b ∉ ex) : ∃ sl, h1.get? b = some { ob with slots := sl } := by
  by_cases hb : b ∈ fs
  · exact u.slot b ob q n hb hx
  · exact ⟨ob.slots, u.keep b ob q n hb hx⟩
theorem Un.kept (k : ∀ b u, h.get? b = some u → h'.get? b = some u) : Un fs ex H H h h' :=
  ⟨fun b ob q _ _ _ => k b ob q, fun b ob q _ _ _ => ⟨ob.slots, k b ob q⟩, fun _ _ _ n _ => n, fun b ob q _ => ⟨ob, k b ob q⟩, fun _ _ q => q, fun _ _ _ q => q, fun _ ps q => ⟨#[], by rw [q]; simp⟩⟩
theorem Un.refl : Un fs ex H H h h := Un.kept fun _ _ q => q
theorem Un.laid (k : ∀ b u, h.get? b = some u → h'.get? b = some u) (hp : h.objs.size ≤ a) (hn : H a = none) : Un fs ex H (upd H a o) h h' where
  keep := fun b u q _ _ _ => k b u q
  slot := fun b u q _ _ _ => ⟨u.slots, k b u q⟩
  free := fun b u q n _ => by rw [upd_ne (Nat.ne_of_lt (Nat.lt_of_lt_of_le (Heap.lt_size q) hp))]; exact n
  there := fun b u q _ => ⟨u, k b u q⟩
  tups := fun b xs q => by rw [upd_ne (ne_of_none q hn)]; exact q
  frzs := fun b u xs q => by rw [upd_ne (ne_of_none q hn)]; exact q
  tbls := fun b ps q => ⟨#[], by rw [upd_ne (ne_of_none q hn), q]; simp⟩
theorem Un.write (mu : Mut (H x)) (he : e = x ∨ H e = some (.own x)) (k : ∀ b u, b ≠ e → h.get? b = some u → h'.get? b = some u) (heo : ∃ u, h'.get? e = some u) : Un fs ex H (upd H x o) h h' := by
  have hx : ∀ b, H b = none → b ≠ x := fun b n z => by subst z; rw [n] at mu; exact mu
  have hb : ∀ b, H b = none → b ≠ e := fun b n z => by
    subst z
    rcases he with r | r
    · exact hx b n r
    · rw [n] at r; cases r
  have hm : ∀ b u, H b = some u → ¬ Mut (some u) → b ≠ x := fun b u q nm z => by subst z; rw [q] at mu; exact nm mu
  refine ⟨fun b u q n _ _ => k b u (hb b n) q, fun b u q n _ _ => ⟨u.slots, k b u (hb b n) q⟩, fun b u q n _ => by rw [upd_ne (hx b n)]; exact n, fun b u q _ => ?_,
    fun b xs q => by rw [upd_ne (hm b _ q fun z => z)]; exact q, fun b u xs q => by rw [upd_ne (hm b _ q fun z => z)]; exact q, fun b ps q => ⟨#[], by rw [upd_ne (hm b _ q fun z => z), q]; simp⟩⟩
  by_cases hbe : b = e
  · subst hbe; exact heo
  · exact ⟨u, k b u hbe q⟩
end
def trk (h : Heap) (H : Hp) : List Addr := (List.range h.objs.size).filter fun a => (H a).isSome
def hidT (h : Heap) (H : Hp) : Heap := PySem.W.hideAll h (trk h H)
theorem hidT_size (h : Heap) (H : Hp) : (hidT h H).objs.size = h.objs.size := PySem.W.hideAll_size _ _
theorem hidT_get {h : Heap} {H : Hp} {b : Addr} {o : Obj} (e : h.get? b = some o) (n : H b = none) : (hidT h H).get? b = some o :=
  PySem.W.hideAll_get _ e fun hm => by
    have q : (H b).isSome = true := (List.mem_filter.mp hm).2
    rw [n] at q; simp at q
theorem of_hidT {h : Heap} {H : Hp} {b : Addr} {o : Obj} (e : (hidT h H).get? b = some o) : h.get? b = some o ∧ H b = none := by
  have e' : h.get? b = some o := PySem.W.of_hideAll (trk h H) e
  refine ⟨e', ?_⟩
  cases q : H b with
  | none => rfl
  | some x =>
    have hm : b ∈ trk h H := List.mem_filter.mpr ⟨List.mem_range.mpr (Heap.lt_size e'), by simp [q]⟩
    have z : (hidT h H).get? b = none := PySem.W.hideAll_none (trk h H) hm
    rw [z] at e; cases e
def allNews (g h : Heap) (L : Addr) : List (Addr × Obj) := (List.range h.objs.size).filterMap fun a => if a = L ∨ (g.get? a).isSome = true then none else (h.get? a).map fun o => (a, o)
theorem mem_allNews {g h : Heap} {L a : Addr} {o : Obj} (h1 : a ≠ L) (h2 : g.get? a = none) (h3 : h.get? a = some o) : (a, o) ∈ allNews g h L :=
  List.mem_filterMap.mpr ⟨a, List.mem_range.mpr (Heap.lt_size h3), by simp [h1, h2, h3]⟩
theorem of_mem_allNews {g h : Heap} {L : Addr} {p : Addr × Obj} (hp : p ∈ allNews g h L) : p.1 ≠ L ∧ g.get? p.1 = none ∧ h.get? p.1 = some p.2 := by
  obtain ⟨b, _, e⟩ := List.mem_filterMap.mp hp
  split at e
  · cases e
  · rename_i hn
    cases q : h.get? b with
    | none => rw [q] at e; simp at e
    | some u =>
      rw [q] at e
      simp only [Option.map_some, Option.some.injEq] at e
      subst e
      refine ⟨fun z => hn (.inl z), ?_, q⟩
      show g.get? b = none
      cases r : g.get? b with
      | none => rfl
      | some v => exact (hn (.inr (by simp [r]))).elim
def rest (g h : Heap) (L d : Addr) : List (Addr × Obj) := (allNews g h L).filter fun p => decide (p.1 ≠ d)
theorem news_all {g h : Heap} {L : Addr} : News g L h (allNews g h L) := fun p hp => let ⟨a, b, c⟩ := of_mem_allNews hp; ⟨c, a, b⟩
end L2
namespace L2
open PySem PySem.Spec PyProof.Rows
structure Mod (K : PySem.W.Frag) (mg : Str → Option Value) (base : Heap) : Prop where
  kin : K.In base
  glob : base.Ns mainGlobals mg
  blt : ∃ mb, base.Ns builtinsNs mb ∧ ∀ x : Str, x ≠ "__name__" → mb x = bootBuiltins x
  nolimit : base.NoLimit
structure Cx where
  prog : Program
  w : World
  K : PySem.W.Frag
  mg : Str → Option Value
  base : Heap
  A : Around
  N : List Str
  s₀ : Shared
  H₀ : Hp
  env : Env
  outer : List Env
  stack : List Env
  ex : List Addr
  fn : Str → Bool
  calm : Bool
  pn : List (Addr × Obj)
  xe : Value → Shared → Prop
def frs (l : List Env) : List Addr := l.filterMap (·.frame)
abbrev Cx.fs (X : Cx) : List Addr := frs X.outer
def Vis (sc : Scope) (x : Str) : Prop := sc.names.lookup x = some .local ∨ sc.names.lookup x = some .cell ∨ sc.names.lookup x = some .free
def Loc (sc : Scope) (x : Str) : Prop := sc.names.lookup x = some .local ∨ sc.names.lookup x = some .cell
def Look (env : Env) (h : Heap) (m : Str → Option Value) (x : Str) (u : Value) : Prop :=
  (env.kindOf x = some .local ∧ m x = some u) ∨ ((env.kindOf x = some .cell ∨ env.kindOf x = some .free) ∧ ∃ c, env.cells.lookup x = some c ∧ h.IsCell c (some u))
structure Cx.Ok (X : Cx) : Prop where
  mod : Mod X.K X.mg X.base
  kind : X.env.scope.kind = .function
  glob : X.env.globals = mainGlobals
  blt : X.env.builtins = builtinsNs
  above : X.s₀.heap.objs.size ≤ X.env.locals
  inj : ∀ x y c, X.env.cells.lookup x = some c → X.env.cells.lookup y = some c → x = y
  has : ∀ x, (X.env.kindOf x = some .cell ∨ X.env.kindOf x = some .free) → ∃ c, X.env.cells.lookup x = some c
  cab : ∀ x c, X.fn x = true → X.env.cells.lookup x = some c → X.s₀.heap.objs.size ≤ c
  hd : X.calm = true → X.A.handled = none
  frames : X.A.frames = some X.stack
  stk : X.stack = X.outer ∨ (X.stack = X.env :: X.outer ∧ X.env.frame = some X.env.locals)
  exf : ∀ b ∈ X.ex, b ≠ X.env.locals ∧ ∀ x c, X.env.cells.lookup x = some c → c ≠ b
  bs : ∀ b o, X.base.get? b = some o → X.s₀.heap.get? b = some o ∧ X.H₀ b = none
  bsz : X.base.objs.size ≤ X.s₀.heap.objs.size
  noex : ∀ b o, X.base.get? b = some o → b ∉ X.ex
  exfs : ∀ b ∈ X.ex, b ∉ X.fs
  funs : X.s₀.heap.FunFrames X.base X.outer
  frf : ∀ b ∈ X.fs, X.H₀ b = none
structure Inv (X : Cx) (pins : List (Addr × Obj)) (σ : List (Option V)) (H : Hp) (s : Shared) : Prop where
  ok : X.Ok
  os : s.os = X.s₀.os
  bare : AllBare s.gens
  base : Un X.fs X.ex X.H₀ H X.s₀.heap s.heap
  loc : ∃ m, s.heap.Ns X.env.locals m ∧ ∀ (i : Nat) (x : Str) (v : V), X.N[i]? = some x → σ[i]? = some (some v) → Vis X.env.scope x → ∃ u, RelV v u ∧ Look X.env s.heap m x u
  cell : ∀ x c, X.env.cells.lookup x = some c → ∃ v, s.heap.IsCell c v
  free : H X.env.locals = none
  freeC : ∀ x c, X.env.cells.lookup x = some c → H c = none
  pin : ∀ p ∈ X.pn ++ pins, s.heap.get? p.1 = some p.2 ∧ H p.1 = none ∧ p.1 ≠ X.env.locals ∧ p.1 ∉ X.fs ∧ ∀ v, p.2.data ≠ .cell v
  hok : HOk X.prog X.w H s.heap
  len : σ.length = X.N.length
section
variable {X : Cx} {pins : List (Addr × Obj)} {σ : List (Option V)} {H H' : Hp} {s : Shared} {h' : Heap}
theorem Cx.Ok.nofr (ok : X.Ok) {b : Addr} {o : Obj} (e : X.base.get? b = some o) : b ∉ X.fs := fun hb => by
  have := (ok.funs.mem hb).1
  rw [e] at this; cases this
theorem Inv.bs (I : Inv X pins σ H s) : ∀ b o, X.base.get? b = some o → s.heap.get? b = some o ∧ H b = none := fun b o e =>
  ⟨I.base.keep b o (I.ok.bs b o e).1 (I.ok.bs b o e).2 (I.ok.nofr e) (I.ok.noex b o e), I.base.free b o (I.ok.bs b o e).1 (I.ok.bs b o e).2 (I.ok.noex b o e)⟩
theorem Inv.bk (I : Inv X pins σ H s) : ∀ b o, X.base.get? b = some o → s.heap.get? b = some o := fun b o e => (I.bs b o e).1
theorem Inv.mod (I : Inv X pins σ H s) : Mod X.K X.mg X.base := I.ok.mod
theorem Inv.kIn (I : Inv X pins σ H s) : X.K.In s.heap := I.ok.mod.kin.keeps I.bk
theorem Inv.fr (I : Inv X pins σ H s) : ∃ m, Fr X.base X.env.locals s.heap m :=
  let ⟨m, hn, _⟩ := I.loc
  ⟨m, hn, I.bk, Nat.le_trans I.ok.bsz I.ok.above⟩
theorem Inv.lt (I : Inv X pins σ H s) : X.env.locals < s.heap.objs.size := let ⟨_, hn, _⟩ := I.loc; hn.lt
theorem Inv.sz (I : Inv X pins σ H s) : X.s₀.heap.objs.size ≤ s.heap.objs.size := Nat.le_trans I.ok.above (Nat.le_of_lt I.lt)
theorem Inv.nofs (I : Inv X pins σ H s) {a : Addr} (h : s.heap.objs.size ≤ a) : a ∉ X.fs := fun hb => by
  obtain ⟨_, o, ho, _⟩ := I.ok.funs.mem hb
  exact absurd (Nat.lt_of_lt_of_le (Heap.lt_size ho) (Nat.le_trans I.sz h)) (Nat.lt_irrefl _)
theorem Inv.cne (I : Inv X pins σ H s) : ∀ x c, X.env.cells.lookup x = some c → c ≠ X.env.locals := fun x c e z => by
  obtain ⟨v, o, ho, hd⟩ := I.cell x c e
  obtain ⟨m, ⟨o', es, ep, ho', hd', _⟩, _⟩ := I.loc
  rw [z, ho'] at ho; cases ho; rw [hd'] at hd; cases hd
theorem Inv.funs (I : Inv X pins σ H s) : s.heap.FunFrames X.base X.outer := by
  have all : ∀ (l : List Env), (∀ b ∈ frs l, b ∈ X.fs) → X.s₀.heap.FunFrames X.base l → s.heap.FunFrames X.base l := by
    intro l
    induction l with
    | nil => intro _ _; trivial
    | cons env r ih =>
      intro hs hl
      obtain ⟨hk, ⟨L, o, hf, hn, ho, hd⟩, hr⟩ := hl
      have hL : L ∈ X.fs := hs L (by unfold frs; rw [List.filterMap_cons, hf]; exact List.mem_cons_self)
      obtain ⟨sl, e⟩ := I.base.slot L o ho (I.ok.frf L hL) hL fun z => I.ok.exfs L z hL
      exact ⟨hk, ⟨L, _, hf, hn, e, hd⟩, ih (fun b hb => hs b (by unfold frs; rw [List.filterMap_cons, hf]; exact List.mem_cons_of_mem _ hb)) hr⟩
  exact all X.outer (fun _ hb => hb) I.ok.funs
theorem Inv.stack (I : Inv X pins σ H s) : s.heap.FunFrames X.base X.stack := by
  rcases I.ok.stk with e | ⟨e, hf⟩
  · rw [e]; exact I.funs
  · rw [e]
    obtain ⟨m, hn, _⟩ := I.loc
    refine .cons (by rw [I.ok.kind]; decide) hf hn ?_ I.funs
    exact Heap.get?_none_of_le (Nat.le_trans I.ok.bsz I.ok.above)
theorem Inv.stkSub (I : Inv X pins σ H s) : ∀ b ∈ frs X.stack, b ∈ X.env.locals :: X.fs := fun b hb => by
  rcases I.ok.stk with e | ⟨e, hf⟩
  · rw [e] at hb; exact List.mem_cons_of_mem _ hb
  · rw [e] at hb
    unfold frs at hb
    rw [List.filterMap_cons, hf] at hb
    exact hb
theorem Inv.stkFree (I : Inv X pins σ H s) : ∀ b ∈ frs X.stack, H b = none := fun b hb => by
  rcases List.mem_cons.mp (I.stkSub b hb) with e | hb
  · rw [e]; exact I.free
  · obtain ⟨_, o, ho, _⟩ := I.ok.funs.mem hb
    exact I.base.free b o ho (I.ok.frf b hb) fun z => I.ok.exfs b z hb
theorem Inv.step {g' : Array GenState} {t' : Nat} {d' : Drawn} {ch : List Addr} (I : Inv X pins σ H s)
    (hch : ∀ b ∈ ch, (b ∈ X.ex ∨ X.s₀.heap.objs.size ≤ b) ∧ b ≠ X.env.locals ∧ (∀ x c, X.env.cells.lookup x = some c → c ≠ b) ∧ ∀ p ∈ X.pn ++ pins, p.1 ≠ b)
    (keep : ∀ b o, b ≠ X.env.locals → b ∉ X.fs → b ∉ ch → s.heap.get? b = some o → H b = none → h'.get? b = some o)
    (slot : ∀ b o, b ≠ X.env.locals → b ∈ X.fs → b ∉ ch → s.heap.get? b = some o → H b = none → ∃ sl, h'.get? b = some { o with slots := sl }) (free : ∀ b o, b ∉ ch → s.heap.get? b = some o → H b = none → H' b = none)
    (there : ∀ b o, b ∉ ch → s.heap.get? b = some o → ∃ o', h'.get? b = some o')
    (tups : ∀ b xs, H b = some (.tup xs) → H' b = some (.tup xs)) (frzs : ∀ b o u, H b = some (.frz o u) → H' b = some (.frz o u)) (tbls : ∀ b ps, H b = some (.tbl ps) → ∃ more, H' b = some (.tbl (ps ++ more)))
    (ns : ∀ m, s.heap.Ns X.env.locals m → h'.Ns X.env.locals m) (hok : HOk X.prog X.w H' h') (hg : AllBare g') :
    Inv X pins σ H' { s with heap := h', gens := g', drawn := d', toks := t' } := by
  have neL : ∀ b o, X.s₀.heap.get? b = some o → b ≠ X.env.locals := fun b o e => Nat.ne_of_lt (Nat.lt_of_lt_of_le (Heap.lt_size e) I.ok.above)
  have neC : ∀ b o, X.s₀.heap.get? b = some o → b ∉ X.ex → b ∉ ch := fun b o e hx hb => by
    rcases (hch b hb).1 with z | z
    · exact hx z
    · exact absurd (Nat.lt_of_lt_of_le (Heap.lt_size e) z) (Nat.lt_irrefl _)
  have cellK : ∀ x c, X.env.cells.lookup x = some c → ∀ v, s.heap.IsCell c v → h'.IsCell c v := fun x c e v ⟨o, ho, hd⟩ => by
    have nch : c ∉ ch := fun z => (hch c z).2.2.1 x c e rfl
    by_cases hc : c ∈ X.fs
    · obtain ⟨sl, q⟩ := slot c o (I.cne x c e) hc nch ho (I.freeC x c e)
      exact ⟨_, q, hd⟩
    · exact ⟨o, keep c o (I.cne x c e) hc nch ho (I.freeC x c e), hd⟩
  refine ⟨I.ok, I.os, hg, ⟨fun b o e n hb hx => ?_, fun b o e n hb hx => ?_, fun b o e n hx => ?_, fun b o e hx => ?_, fun b xs e => tups b xs (I.base.tups b xs e), fun b o xs e => frzs b o xs (I.base.frzs b o xs e), fun b ps e => ?_⟩, ?_, fun x c e => ?_, ?_, fun x c e => ?_, fun p hp => ?_, hok, I.len⟩
  · exact keep b o (neL b o e) hb (neC b o e hx) (I.base.keep b o e n hb hx) (I.base.free b o e n hx)
  · obtain ⟨sl, e1⟩ := I.base.slot b o e n hb hx
    obtain ⟨sl', e2⟩ := slot b _ (neL b o e) hb (neC b o e hx) e1 (I.base.free b o e n hx)
    exact ⟨sl', e2⟩
  · obtain ⟨o', e1⟩ := I.base.there b o e hx
    exact free b o' (neC b o e hx) e1 (I.base.free b o e n hx)
  · obtain ⟨o', e1⟩ := I.base.there b o e hx
    exact there b o' (neC b o e hx) e1
  · obtain ⟨m1, e1⟩ := I.base.tbls b ps e
    obtain ⟨m2, e2⟩ := tbls b _ e1
    exact ⟨m1 ++ m2, by rw [e2, Array.append_assoc]⟩
  · obtain ⟨m, hn, hl⟩ := I.loc
    refine ⟨m, ns m hn, fun i x v e1 e2 e3 => ?_⟩
    obtain ⟨u, r, l⟩ := hl i x v e1 e2 e3
    refine ⟨u, r, ?_⟩
    rcases l with l | ⟨k, c, e, z⟩
    · exact .inl l
    · exact .inr ⟨k, c, e, cellK x c e _ z⟩
  · obtain ⟨v, z⟩ := I.cell x c e
    exact ⟨v, cellK x c e v z⟩
  · obtain ⟨m, ⟨o, _, _, ho, _⟩, _⟩ := I.loc
    exact free _ o (fun z => (hch _ z).2.1 rfl) ho I.free
  · obtain ⟨v, o, ho, hd⟩ := I.cell x c e
    exact free c o (fun z => (hch c z).2.2.1 x c e rfl) ho (I.freeC x c e)
  · obtain ⟨e, n, ne, nf, d⟩ := I.pin p hp
    have nch : p.1 ∉ ch := fun z => (hch p.1 z).2.2.2 p hp rfl
    exact ⟨keep p.1 p.2 ne nf nch e n, free p.1 p.2 nch e n, ne, nf, d⟩
theorem Inv.un {t' : Nat} (I : Inv X pins σ H s) (u : Un X.fs [] H H' s.heap h') (hok : HOk X.prog X.w H' h') : Inv X pins σ H' { s with heap := h', toks := t' } := by
  obtain ⟨m, ⟨o, es, ep, ho, r⟩, _⟩ := id I.loc
  obtain ⟨sl, hL⟩ := u.any ho I.free (by simp)
  exact I.step (g' := s.gens) (d' := s.drawn) (ch := []) (fun _ z => nomatch z) (fun b o _ hb _ e n => u.keep b o e n hb (by simp)) (fun b o _ hb _ e n => u.slot b o e n hb (by simp)) (fun b o _ e n => u.free b o e n (by simp)) (fun b o _ e => u.there b o e (by simp)) u.tups u.frzs u.tbls (fun m' hm => by
    obtain ⟨o', es', ep', ho', r'⟩ := hm
    rw [ho] at ho'; cases ho'
    exact ⟨_, es', ep', hL, r'⟩) hok I.bare
theorem Inv.call {g' : Array GenState} {t' : Nat} {d' : Drawn} {ch : List Addr} (I : Inv X pins σ H s) (u : Un (frs X.stack) ch H H' s.heap h') (hok : HOk X.prog X.w H' h') (hg : AllBare g')
    (hch : ∀ b ∈ ch, (b ∈ X.ex ∨ X.s₀.heap.objs.size ≤ b) ∧ b ≠ X.env.locals ∧ (∀ x c, X.env.cells.lookup x = some c → c ≠ b) ∧ ∀ p ∈ X.pn ++ pins, p.1 ≠ b) :
    Inv X pins σ H' { s with heap := h', gens := g', drawn := d', toks := t' } := by
  obtain ⟨m, ⟨o, es, ep, ho, r⟩, _⟩ := id I.loc
  obtain ⟨sl, hL⟩ := u.any ho I.free fun z => (hch _ z).2.1 rfl
  exact I.step (ch := ch) hch (fun b o hL hb hc e n => u.keep b o e n (fun z => (List.mem_cons.mp (I.stkSub b z)).elim hL hb) hc) (fun b o _ _ hc e n => u.any e n hc) (fun b o hc e n => u.free b o e n hc) (fun b o hc e => u.there b o e hc) u.tups u.frzs u.tbls (fun m' hm => by
    obtain ⟨o', es', ep', ho', r'⟩ := hm
    rw [ho] at ho'; cases ho'
    exact ⟨_, es', ep', hL, r'⟩) hok hg
theorem Inv.turned {t' : Nat} {it : Addr} (I : Inv X pins σ H s) (k : ∀ b o, b ≠ it → s.heap.get? b = some o → h'.get? b = some o) (hn : H it = none) (hL : it ≠ X.env.locals)
    (h1 : it ∈ X.ex ∨ X.s₀.heap.objs.size ≤ it) (h2 : ∀ x c, X.env.cells.lookup x = some c → c ≠ it) (h3 : ∀ p ∈ X.pn ++ pins, p.1 ≠ it) : Inv X pins σ H { s with heap := h', toks := t' } := by
  have nit : ∀ b u, H b = some u → b ≠ it := fun b u e z => by rw [z, hn] at e; cases e
  refine I.step (g' := s.gens) (d' := s.drawn) (ch := [it]) (fun b hb => ?_) (fun b o _ _ hc e _ => k b o (fun z => hc (by simp [z])) e) (fun b o _ _ hc e _ => ⟨o.slots, k b o (fun z => hc (by simp [z])) e⟩) (fun _ _ _ _ n => n)
    (fun b o hc e => ⟨o, k b o (fun z => hc (by simp [z])) e⟩) (fun _ _ e => e) (fun _ _ _ e => e) (fun b ps e => ⟨#[], by rw [e]; simp⟩) (fun m hm => ?_) (fun b u e => ?_) I.bare
  · have e : b = it := by simpa using hb
    subst e
    exact ⟨h1, hL, h2, h3⟩
  · obtain ⟨o, es, ep, ho, r⟩ := hm
    exact ⟨o, es, ep, k _ o (Ne.symm hL) ho, r⟩
  · refine (I.hok b u e).stay (fun c v hc q => k c v ?_ q) (fun _ q => q) fun _ _ q => q
    rcases hc with z | z
    · rw [z]; exact nit b u e
    · exact nit c _ z
theorem Inv.tok (I : Inv X pins σ H s) (t : Nat) : Inv X pins σ H { s with toks := t } := I.un (h' := s.heap) (t' := t) Un.refl I.hok
theorem Inv.kept {t' : Nat} (I : Inv X pins σ H s) (k : ∀ b u, s.heap.get? b = some u → h'.get? b = some u) : Inv X pins σ H { s with heap := h', toks := t' } := I.un (Un.kept k) (I.hok.kept k)
theorem Inv.laid {a : Addr} {o : HO} {t' : Nat} (I : Inv X pins σ H s) (k : ∀ b u, s.heap.get? b = some u → h'.get? b = some u) (hp : s.heap.objs.size ≤ a) (new : ObjOk X.prog X.w (upd H a o) h' a o) :
    Inv X pins σ (upd H a o) { s with heap := h', toks := t' } := I.un (Un.laid k hp (I.hok.fresh hp)) (I.hok.laid k hp new)
theorem Inv.write {x e : Addr} {o : HO} {t' : Nat} (I : Inv X pins σ H s) (mu : Mut (H x)) (he : e = x ∨ H e = some (.own x)) (k : ∀ b u, b ≠ e → s.heap.get? b = some u → h'.get? b = some u) (heo : ∃ u, h'.get? e = some u)
    (new : ObjOk X.prog X.w (upd H x o) h' x o) : Inv X pins σ (upd H x o) { s with heap := h', toks := t' } := I.un (Un.write mu he k heo) (I.hok.write mu he k heo new)
theorem Inv.pins_of {pins' : List (Addr × Obj)} (I : Inv X pins σ H s) (h : ∀ p ∈ pins', s.heap.get? p.1 = some p.2 ∧ H p.1 = none ∧ p.1 ≠ X.env.locals ∧ p.1 ∉ X.fs ∧ ∀ v, p.2.data ≠ .cell v) : Inv X pins' σ H s :=
  ⟨I.ok, I.os, I.bare, I.base, I.loc, I.cell, I.free, I.freeC, fun p hp => (List.mem_append.mp hp).elim (fun z => I.pin p (List.mem_append_left _ z)) (h p), I.hok, I.len⟩
theorem nodup_ix {N : List Str} (hN : N.Nodup) {i j : Nat} {x : Str} (a : N[i]? = some x) (b : N[j]? = some x) : i = j := by
  obtain ⟨h1, e1⟩ := List.getElem?_eq_some_iff.mp a
  obtain ⟨h2, e2⟩ := List.getElem?_eq_some_iff.mp b
  exact (List.getElem_inj hN).mp (e1.trans e2.symm)
theorem store_ok2 {M : Model} {A : Around} {E : Value → Shared → Prop} {i : Nat} {x : Str} {v : V} {u : Value} {Q : Unit → Shared → Prop} (I : Inv X pins σ H s) (hN : X.N.Nodup) (hi : X.N[i]? = some x) (hx : Loc X.env.scope x) (r : RelV v u)
    (h : ∀ s', Inv X pins (σ.set i (some v)) H s' → (∃ a, Heap.SameBut a s.heap s'.heap ∧ (a = X.env.locals ∨ X.env.cells.lookup x = some a)) → Q () s') (hf : X.fn x = true ∨ X.env.scope.names.lookup x = some .local := by first | exact .inl rfl | exact .inr rfl | assumption) : wpAny M A (storeName X.env x u) Q E s := by
  obtain ⟨m, hn, hl⟩ := id I.loc
  have hcls : (X.env.scope.kind == .class || (X.env.scope.kind == .module && X.env.locals != X.env.globals)) = false := by rw [I.ok.kind]; rfl
  have hiσ : i < σ.length := by rw [I.len]; exact (List.getElem?_eq_some_iff.mp hi).1
  have cne := I.cne
  have tracked : ∀ {a : Addr} {h' : Heap}, (∃ o, s.heap.get? a = some o ∧ H a = none) → Heap.SameBut a s.heap h' → HOk X.prog X.w H h' := fun {a h'} ha hs b ob e => by
    obtain ⟨_, _, hfree⟩ := ha
    refine (I.hok b ob e).stay (fun c w' hc q => (hs.2 c ?_).trans q) (fun _ q => q) fun _ _ q => q
    rintro rfl
    rcases hc with rfl | hc
    · rw [hfree] at e; cases e
    · rw [hfree] at hc; cases hc
  rcases hx with hk | hk
  · refine wpAny_storeName_local hk hn (fun h' hn' hs => ?_) hcls
    obtain ⟨oL, _, _, hoL, _⟩ := id hn
    refine h _ ⟨I.ok, I.os, I.bare, ⟨fun b o e n hb hx => ?_, fun b o e n hb hx => ?_, I.base.free, fun b o e hx => ?_, I.base.tups, I.base.frzs, I.base.tbls⟩, ⟨_, hn', fun j y v' e1 e2 e3 => ?_⟩, fun y c e => ?_, I.free, I.freeC, fun p hp => ?_, tracked ⟨oL, hoL, I.free⟩ hs, by simpa using I.len⟩ ⟨_, hs, .inl rfl⟩
    · exact (hs.2 b (Nat.ne_of_lt (Nat.lt_of_lt_of_le (Heap.lt_size e) I.ok.above))).trans (I.base.keep b o e n hb hx)
    · obtain ⟨sl, e1⟩ := I.base.slot b o e n hb hx
      exact ⟨sl, (hs.2 b (Nat.ne_of_lt (Nat.lt_of_lt_of_le (Heap.lt_size e) I.ok.above))).trans e1⟩
    · obtain ⟨o', e1⟩ := I.base.there b o e hx
      exact ⟨o', (hs.2 b (Nat.ne_of_lt (Nat.lt_of_lt_of_le (Heap.lt_size e) I.ok.above))).trans e1⟩
    · by_cases hj : j = i
      · subst hj
        rw [hi] at e1; cases e1
        rw [List.getElem?_set_self hiσ] at e2
        cases e2
        exact ⟨u, r, .inl ⟨hk, by simp⟩⟩
      · rw [List.getElem?_set_ne (Ne.symm hj)] at e2
        obtain ⟨u', r', q⟩ := hl j y v' e1 e2 e3
        refine ⟨u', r', ?_⟩
        rcases q with ⟨k, e⟩ | ⟨k, c, e, z⟩
        · refine .inl ⟨k, ?_⟩
          have : y ≠ x := fun e => hj (nodup_ix hN e1 (e ▸ hi))
          simp [this, e]
        · exact .inr ⟨k, c, e, z.sameBut hs (cne y c e)⟩
    · obtain ⟨w', z⟩ := I.cell y c e
      exact ⟨w', z.sameBut hs (cne y c e)⟩
    · obtain ⟨e, n, ne, nf, d⟩ := I.pin p hp
      exact ⟨(hs.2 p.1 ne).trans e, n, ne, nf, d⟩
  · have hfn : X.fn x = true := by
      rcases hf with z | z
      · exact z
      · rw [z] at hk; cases hk
    obtain ⟨c, hc⟩ := I.ok.has x (.inl hk)
    obtain ⟨w', z⟩ := I.cell x c hc
    refine wpAny_storeName_cell I.ok.kind hk hc z (fun h' hc' hs => ?_)
    obtain ⟨oc, hoc, hocd⟩ := id z
    refine h { s with heap := h' } ⟨I.ok, I.os, I.bare, ⟨fun b o e n hb hx => ?_, fun b o e n hb hx => ?_, I.base.free, fun b o e hx => ?_, I.base.tups, I.base.frzs, I.base.tbls⟩, ⟨m, hn.sameBut hs (Ne.symm (cne x c hc)), fun j y v' e1 e2 e3 => ?_⟩, fun y c' e => ?_, I.free, I.freeC, fun p hp => ?_, tracked ⟨oc, hoc, I.freeC x c hc⟩ hs, by simpa using I.len⟩ ⟨c, hs, .inr hc⟩
    · exact (hs.2 b (Nat.ne_of_lt (Nat.lt_of_lt_of_le (Heap.lt_size e) (I.ok.cab x c hfn hc)))).trans (I.base.keep b o e n hb hx)
    · obtain ⟨sl, e1⟩ := I.base.slot b o e n hb hx
      exact ⟨sl, (hs.2 b (Nat.ne_of_lt (Nat.lt_of_lt_of_le (Heap.lt_size e) (I.ok.cab x c hfn hc)))).trans e1⟩
    · obtain ⟨o', e1⟩ := I.base.there b o e hx
      exact ⟨o', (hs.2 b (Nat.ne_of_lt (Nat.lt_of_lt_of_le (Heap.lt_size e) (I.ok.cab x c hfn hc)))).trans e1⟩
    · by_cases hj : j = i
      · subst hj
        rw [hi] at e1; cases e1
        rw [List.getElem?_set_self hiσ] at e2
        cases e2
        exact ⟨u, r, .inr ⟨.inl hk, c, hc, hc'⟩⟩
      · rw [List.getElem?_set_ne (Ne.symm hj)] at e2
        obtain ⟨u', r', q⟩ := hl j y v' e1 e2 e3
        refine ⟨u', r', ?_⟩
        rcases q with q | ⟨k, c', e, z'⟩
        · exact .inl q
        · refine .inr ⟨k, c', e, z'.sameBut hs ?_⟩
          rintro rfl
          exact hj (nodup_ix hN e1 (I.ok.inj _ _ _ e hc ▸ hi))
    · by_cases hcc : c' = c
      · subst hcc; exact ⟨_, hc'⟩
      · obtain ⟨w2, z2⟩ := I.cell y c' e
        exact ⟨w2, z2.sameBut hs hcc⟩
    · obtain ⟨e, n, ne, nf, d⟩ := I.pin p hp
      refine ⟨(hs.2 p.1 ?_).trans e, n, ne, nf, d⟩
      intro q
      rw [q, hoc] at e
      have q' : oc = p.2 := Option.some.inj e
      exact d w' (by rw [← q']; exact hocd)
theorem store_ok {M : Model} {A : Around} {E : Value → Shared → Prop} {i : Nat} {x : Str} {v : V} {u : Value} {Q : Unit → Shared → Prop} (I : Inv X pins σ H s) (hN : X.N.Nodup) (hi : X.N[i]? = some x) (hx : Loc X.env.scope x) (r : RelV v u)
    (h : ∀ s', Inv X pins (σ.set i (some v)) H s' → Q () s') (hf : X.fn x = true ∨ X.env.scope.names.lookup x = some .local := by first | exact .inl rfl | exact .inr rfl | assumption) : wpAny M A (storeName X.env x u) Q E s :=
  store_ok2 I hN hi hx r (fun s' I' _ => h s' I') hf
theorem Inv.call' {s' : Shared} {ch : List Addr} (I : Inv X pins σ H s) (ho : s'.os = s.os) (u : Un (frs X.stack) ch H H' s.heap s'.heap) (hok : HOk X.prog X.w H' s'.heap) (hg : AllBare s'.gens)
    (hch : ∀ b ∈ ch, (b ∈ X.ex ∨ X.s₀.heap.objs.size ≤ b) ∧ b ≠ X.env.locals ∧ (∀ x c, X.env.cells.lookup x = some c → c ≠ b) ∧ ∀ p ∈ X.pn ++ pins, p.1 ≠ b) : Inv X pins σ H' s' := by
  obtain ⟨h', g', d', t', o'⟩ := s'
  have e : o' = s.os := ho
  subst e
  exact I.call (g' := g') (t' := t') (d' := d') u hok hg hch
end
abbrev XK := Value → Option Addr → Hp → Prop
abbrev St := List (Option V)
abbrev VK := V → Hp → Prop
abbrev TE := St → Hp → VK → Prop
abbrev TT := St → Hp → (Bool → Hp → Prop) → Prop
abbrev TA := St → Hp → (List V → Hp → Prop) → Prop
structure Ends where
  nx : St → Hp → Prop
  rt : VK
  bk : St → Hp → Prop := fun _ _ => False
  ct : St → Hp → Prop := fun _ _ => False
abbrev TS := Ends → St → Hp → Prop
def EP (X : Cx) (pins : List (Addr × Obj)) (σ : St) (Q : VK) (u : Value) (s' : Shared) : Prop := ∃ v H', Inv X pins σ H' s' ∧ RelV v u ∧ Q v H'
def TP (X : Cx) (pins : List (Addr × Obj)) (σ : St) (Q : Bool → Hp → Prop) (b : Bool) (s' : Shared) : Prop := ∃ H', Inv X pins σ H' s' ∧ Q b H'
def SP (X : Cx) (pins : List (Addr × Obj)) (D : Ends) (f : Flow) (s' : Shared) : Prop :=
  match f with
  | .next => ∃ σ' H', Inv X pins σ' H' s' ∧ D.nx σ' H'
  | .brk => ∃ σ' H', Inv X pins σ' H' s' ∧ D.bk σ' H'
  | .cont => ∃ σ' H', Inv X pins σ' H' s' ∧ D.ct σ' H'
  | .ret u => ∃ v σ' H', Inv X pins σ' H' s' ∧ RelV v u ∧ D.rt v H'
def PE (X : Cx) (e : Expr) (t : TE) : Prop :=
  ∀ (pins : List (Addr × Obj)) (s : Shared) (σ : St) (H : Hp) (Q : VK), Inv X pins σ H s → t σ H Q → wpAny (model X.prog X.w) X.A (eval e X.env) (EP X pins σ Q) X.xe s
def PSs (X : Cx) (st : List Stmt) (t : TS) : Prop :=
  ∀ (pins : List (Addr × Obj)) (s : Shared) (σ : St) (H : Hp) (D : Ends), Inv X pins σ H s → t D σ H → wpAny (model X.prog X.w) X.A (execs st X.env) (SP X pins D) X.xe s
theorem thn {α : Type} {t : Sem α} {Q Q' : α → Shared → Prop} {M : Model} {A : Around} {E : Value → Shared → Prop} {s : Shared} (h : wpAny M A t Q E s) (hQ : ∀ a s, Q a s → Q' a s) : wpAny M A t Q' E s := wpAny_mono h hQ fun _ _ x => x
end L2
namespace L2
open PySem PySem.Spec PyProof.Rows
section
variable {X : Cx}
def tVar (i : Nat) : TE := fun σ H Q => ∃ v, σ[i]? = some (some v) ∧ Q v H
def tC (v : V) : TE := fun _ H Q => Q v H
theorem pe_var {i : Nat} {x : Str} {pos : Pos} (hN : X.N[i]? = some x) (hv : Vis X.env.scope x) (hd : (x == ("__debug__" : Str)) = false := by decide) (hcd : (x == ("__classdict__" : Str)) = false := by decide) : PE X (.Name x pos) (tVar i) := by
  intro pins s σ H Q I h
  obtain ⟨v, e, h⟩ := h
  obtain ⟨m, hn, hl⟩ := I.loc
  obtain ⟨u, r, l⟩ := hl i x v hN e hv
  have fin : EP X pins σ Q u s := ⟨v, H, I, r, h⟩
  rcases l with ⟨hk, hm⟩ | ⟨hk, c, hc, hcell⟩
  · exact wpAny_Name (wpAny_loadName_local I.ok.kind hk hn hm fin) hd
  · rcases hk with hk | hk
    · exact wpAny_Name (wpAny_loadName_cell I.ok.kind hk hc hcell fin) hd
    · exact wpAny_Name (wpAny_loadName_free I.ok.kind hk hc hcell fin hcd) hd
theorem pe_int {i j pos} : PE X (.Constant (.int i) j pos) (tC (.int i)) := fun _ _ _ H _ I h => wpAny_Constant_int ⟨.int i, H, I.tok _, ⟨_, rfl⟩, h⟩
theorem pe_bl {b j pos} : PE X (.Constant (.bool b) j pos) (tC (.bl b)) := fun _ _ _ H _ I h => Constant_bool ⟨.bl b, H, I, rfl, h⟩
theorem pe_non {j pos} : PE X (.Constant .none j pos) (tC .non) := fun _ _ _ H _ I h => Constant_none ⟨.non, H, I, rfl, h⟩
theorem pe_str {x j pos} : PE X (.Constant (.str x) j pos) (tC (.str x)) := fun _ _ _ H _ I h => Calls.Constant_str ⟨.str x, H, I.tok _, ⟨_, rfl⟩, h⟩
def Gl (X : Cx) (x : Str) : Prop := X.env.kindOf x = some .globalImplicit
theorem ld_glob {E : Value → Shared → Prop} {pins : List (Addr × Obj)} {s : Shared} {σ : St} {H : Hp} {x : Str} {u : Value} {pos : Pos} {Q : Value → Shared → Prop} (I : Inv X pins σ H s) (hg : Gl X x) (hm : X.mg x = some u) (h : Q u s)
    (hd : (x == ("__debug__" : Str)) = false := by decide) : wpAny (model X.prog X.w) X.A (eval (.Name x pos) X.env) Q E s :=
  Calls.Name_function_global I.ok.kind hg (Calls.loadGlobal_global (by rw [I.ok.glob]; exact I.mod.glob.keeps I.bk) hm h) hd
theorem ld_blt {E : Value → Shared → Prop} {pins : List (Addr × Obj)} {s : Shared} {σ : St} {H : Hp} {x : Str} {u : Value} {pos : Pos} {Q : Value → Shared → Prop} (I : Inv X pins σ H s) (hg : Gl X x) (hm : X.mg x = none) (hv : bootBuiltins x = some u) (h : Q u s)
    (hn : x ≠ "__name__" := by decide) (hd : (x == ("__debug__" : Str)) = false := by decide) : wpAny (model X.prog X.w) X.A (eval (.Name x pos) X.env) Q E s := by
  obtain ⟨mb, h1, h2⟩ := I.mod.blt
  exact Calls.Name_function_global I.ok.kind hg (Calls.loadGlobal_builtin (by rw [I.ok.glob]; exact I.mod.glob.keeps I.bk) hm (by rw [I.ok.blt]; exact h1.keeps I.bk) ((h2 x hn).trans hv) h) hd
theorem pe_glob {x : Str} {v : V} {u : Value} {pos : Pos} (hg : Gl X x) (hm : X.mg x = some u) (r : RelV v u) (hd : (x == ("__debug__" : Str)) = false := by decide) : PE X (.Name x pos) (tC v) :=
  fun _ _ _ H _ I h => ld_glob I hg hm ⟨v, H, I, r, h⟩ hd
variable {a b : Expr} {ta tb : TE} {pos : Pos}
def tB (t : TE) : TT := fun σ H Q => t σ H fun x H1 => ∃ c, x = .bl c ∧ Q c H1
variable {tA tB' : TT} {rest : List Expr}
end
end L2
namespace L2
open PySem PySem.Spec PyProof.Rows
def SqL (K : PySem.W.Frag) (H : Hp) (a : Addr) (xs : List V) : Prop :=
  Rd H a (.lst xs) ∨
    ∃ (o : Obj) (its : Array Value) (n : Nat), K.lookup a = some o ∧ o.cls = .type "list" ∧ o.dict = none ∧ o.data = .seq its n ∧ its.size ≤ sizeLine ∧ Vals xs its.toList
def SqT (K : PySem.W.Frag) (H : Hp) (a : Addr) (xs : List V) : Prop :=
  Rd H a (.tup xs) ∨
    ∃ (o : Obj) (its : Array Value) (n : Nat), K.lookup a = some o ∧ o.cls = .type "tuple" ∧ o.data = .seq its n ∧ its.size ≤ sizeLine ∧ Vals xs its.toList
def absV : Value → Option V
  | .none => some .non
  | .bool b => some (.bl b)
  | .int i _ => some (.int i)
  | .str x _ => some (.str x)
  | .bytes b _ => some (.byt b)
  | .float b _ => some (.flt b)
  | .ref a => some (.ref a)
  | .type n => some (.ty n)
  | _ => none
theorem RelV.abs {x : V} {u : Value} (r : RelV x u) : absV u = some x := by
  cases x with
  | non => cases r; rfl
  | bl _ => cases r; rfl
  | int _ => obtain ⟨t, rfl⟩ := r; rfl
  | str _ => obtain ⟨t, rfl⟩ := r; rfl
  | byt _ => obtain ⟨t, rfl⟩ := r; rfl
  | flt _ => obtain ⟨t, rfl⟩ := r; rfl
  | ref _ => cases r; rfl
  | ty _ => cases r; rfl
theorem RelV.inj {x y : V} {u : Value} (r : RelV x u) (q : RelV y u) : x = y := Option.some.inj (r.abs.symm.trans q.abs)
theorem Vals.inj : ∀ {xs ys : List V} {us : List Value}, Vals xs us → Vals ys us → xs = ys
  | _, _, _, .nil, .nil => rfl
  | _, _, _, .cons r t, .cons r' t' => by rw [r.inj r', Vals.inj t t']
section
variable {X : Cx} {pins : List (Addr × Obj)} {σ : St} {H : Hp} {s : Shared} {a : Addr} {xs ys : List V}
theorem SqL.of {K : PySem.W.Frag} (h : H a = some (.lst xs)) : SqL K H a xs := .inl (.inl h)
theorem SqT.of {K : PySem.W.Frag} (h : H a = some (.tup xs)) : SqT K H a xs := .inl (.inl h)
theorem Inv.list (I : Inv X pins σ H s) (h : SqL X.K H a xs) : ∃ its : List Value, Vals xs its ∧ PlainL s.heap a its.toArray ∧ xs.length ≤ sizeLine := by
  rcases h with h | ⟨o, its, n, hk, hc, hd, hs, hz, r⟩
  · obtain ⟨z, its, n, r, e⟩ := h.ok I.hok
    exact ⟨its, r, ⟨_, n, e, rfl, rfl, rfl⟩, z⟩
  · refine ⟨its.toList, r, ⟨o, n, I.kIn a o hk, hc, hd, by simpa using hs⟩, ?_⟩
    have e := r.length
    simp only [Array.length_toList] at e
    omega
theorem Inv.tuple (I : Inv X pins σ H s) (h : SqT X.K H a xs) : ∃ its : List Value, Vals xs its ∧ IsTup s.heap a its.toArray ∧ xs.length ≤ sizeLine := by
  rcases h with h | ⟨o, its, n, hk, hc, hs, hz, r⟩
  · obtain ⟨z, its, r, p⟩ := h.ok I.hok
    exact ⟨its, r, p, z⟩
  · refine ⟨its.toList, r, ⟨o, I.kIn a o hk, hc, n, by simpa using hs⟩, ?_⟩
    have e := r.length
    simp only [Array.length_toList] at e
    omega
theorem Inv.list_inj (I : Inv X pins σ H s) (h : SqL X.K H a xs) (h' : SqL X.K H a ys) : xs = ys := by
  obtain ⟨its, r, ⟨o, n, e, _, _, d⟩, _⟩ := I.list h
  obtain ⟨its', r', ⟨o', n', e', _, _, d'⟩, _⟩ := I.list h'
  rw [e] at e'; cases e'
  rw [d] at d'
  injection d' with d1 _
  have : its = its' := by simpa using congrArg Array.toList d1
  subst this
  exact r.inj r'
theorem Inv.tuple_inj (I : Inv X pins σ H s) (h : SqT X.K H a xs) (h' : SqT X.K H a ys) : xs = ys := by
  obtain ⟨its, r, ⟨o, e, _, n, d⟩, _⟩ := I.tuple h
  obtain ⟨its', r', ⟨o', e', _, n', d'⟩, _⟩ := I.tuple h'
  rw [e] at e'; cases e'
  rw [d] at d'
  injection d' with d1 _
  have : its = its' := by simpa using congrArg Array.toList d1
  subst this
  exact r.inj r'
end
abbrev Cx.wish (X : Cx) (E : Value → Shared → Prop) : Cx := { X with xe := E }
abbrev Cx.nox (X : Cx) : Cx := X.wish fun _ _ => False
theorem Cx.Ok.wish {X : Cx} (ok : X.Ok) (E : Value → Shared → Prop) : (X.wish E).Ok :=
  ⟨ok.mod, ok.kind, ok.glob, ok.blt, ok.above, ok.inj, ok.has, ok.cab, ok.hd, ok.frames, ok.stk, ok.exf, ok.bs, ok.bsz, ok.noex, ok.exfs, ok.funs, ok.frf⟩
theorem Cx.Ok.unwish {X : Cx} {E : Value → Shared → Prop} (ok : (X.wish E).Ok) : X.Ok :=
  ⟨ok.mod, ok.kind, ok.glob, ok.blt, ok.above, ok.inj, ok.has, ok.cab, ok.hd, ok.frames, ok.stk, ok.exf, ok.bs, ok.bsz, ok.noex, ok.exfs, ok.funs, ok.frf⟩
section
variable {X : Cx} {pins : List (Addr × Obj)} {σ : St} {H : Hp} {s : Shared} {E : Value → Shared → Prop}
theorem Inv.wish (I : Inv X pins σ H s) (E : Value → Shared → Prop) : Inv (X.wish E) pins σ H s := ⟨I.ok.wish E, I.os, I.bare, I.base, I.loc, I.cell, I.free, I.freeC, I.pin, I.hok, I.len⟩
theorem Inv.unwish (I : Inv (X.wish E) pins σ H s) : Inv X pins σ H s := ⟨I.ok.unwish, I.os, I.bare, I.base, I.loc, I.cell, I.free, I.freeC, I.pin, I.hok, I.len⟩
theorem SP.unwish {D : Ends} {f : Flow} {s' : Shared} (h : SP (X.wish E) pins D f s') : SP X pins D f s' := by
  cases f with
  | next => obtain ⟨σ', H', I, q⟩ := h; exact ⟨σ', H', I.unwish, q⟩
  | brk => obtain ⟨σ', H', I, q⟩ := h; exact ⟨σ', H', I.unwish, q⟩
  | cont => obtain ⟨σ', H', I, q⟩ := h; exact ⟨σ', H', I.unwish, q⟩
  | ret u => obtain ⟨v, σ', H', I, r, q⟩ := h; exact ⟨v, σ', H', I.unwish, r, q⟩
theorem PSs.nox {st : List Stmt} {t : TS} (h : PSs X.nox st t) : PSs X st t := fun pins s σ H D I hw =>
  wpAny_mono (h pins s σ H D (I.wish _) hw) (fun _ _ q => q.unwish) fun _ _ z => False.elim z
end
section
variable {X : Cx} {st : Stmt} {rest : List Stmt} {t u : TS} {e : Expr} {te : TE} {pos : Pos}
theorem Inv.quiet {pins : List (Addr × Obj)} {σ : St} {H : Hp} {s : Shared} (I : Inv X pins σ H s) : interactive X.env = false := by simp [interactive, I.ok.kind]
end
section
variable {X : Cx} {pos : Pos}
end
section
variable {X : Cx} {pos : Pos}
end
structure It where
  go : Nat → Hp → Prop
  yld : Nat → Hp → V → Hp → Prop
  stop : Nat → Hp → Prop
def FpOk (X : Cx) (pins : List (Addr × Obj)) (H : Hp) (b : Addr) : Prop :=
  H b = none ∧ b ≠ X.env.locals ∧ b ∉ X.fs ∧ (b ∈ X.ex ∨ X.s₀.heap.objs.size ≤ b) ∧ (∀ x c, X.env.cells.lookup x = some c → c ≠ b) ∧ ∀ p ∈ X.pn ++ pins, p.1 ≠ b
theorem Inv.fpOk {X : Cx} {pins : List (Addr × Obj)} {σ : St} {H H' : Hp} {s : Shared} {b : Addr} (I : Inv X pins σ H s) (hb : s.heap.objs.size ≤ b) (hn : H' b = none) : FpOk X pins H' b := by
  refine ⟨hn, Nat.ne_of_gt (Nat.lt_of_lt_of_le I.lt hb), I.nofs hb, .inr (Nat.le_trans I.sz hb), fun x c e z => ?_, fun p hp z => ?_⟩
  · obtain ⟨v, q⟩ := I.cell x c e
    exact absurd (Nat.lt_of_lt_of_le q.lt (by rw [z]; exact hb)) (Nat.lt_irrefl _)
  · exact absurd (Nat.lt_of_lt_of_le (Heap.lt_size (I.pin p hp).1) (by rw [z]; exact hb)) (Nat.lt_irrefl _)
structure Turn (P : Program) (w : World) (K : PySem.W.Frag) (tg : Expr) (J : It) (fp : List Addr) (it : Addr) (tn : Nat → Heap → Prop) : Prop where
  mem : it ∈ fp
  obj : ∀ i h, tn i h → ∀ b ∈ fp, ∃ o, h.get? b = some o ∧ ∀ v, o.data ≠ .cell v
  keep : ∀ i h h', tn i h → (∀ b ∈ fp, ∀ o, h.get? b = some o → h'.get? b = some o) → tn i h'
  item : ∀ (X : Cx), X.prog = P → X.w = w → X.K = K → X.calm = true → ∀ (i : Nat) (pins : List (Addr × Obj)) (s : Shared) (σ : St) (H : Hp) (E : Value → Shared → Prop), Inv X pins σ H s → (∀ b ∈ fp, FpOk X pins H b) → tn i s.heap → J.go i H →
    wpAny (model P w) X.A (pyNext (.ref it)) (fun r s1 => ∃ u, r = some u ∧
      wpAny (model P w) X.A (letOwnedTupleGo tg (.ref it) u) (fun _ s2 => ∃ x H', Inv X pins σ H' s2 ∧ RelV x u ∧ J.yld i H x H' ∧ tn (i + 1) s2.heap ∧ ∀ b ∈ fp, H' b = none) E s1) E s
  done : ∀ (X : Cx), X.prog = P → X.w = w → X.K = K → X.calm = true → ∀ (i : Nat) (pins : List (Addr × Obj)) (s : Shared) (σ : St) (H : Hp) (E : Value → Shared → Prop), Inv X pins σ H s → (∀ b ∈ fp, FpOk X pins H b) → tn i s.heap → J.stop i H →
    wpAny (model P w) X.A (pyNext (.ref it)) (fun r s1 => r = none ∧ Inv X pins σ H s1) E s
  self : ∀ (A : Around) (i : Nat) (s : Shared) (Q : Value → Shared → Prop) (E : Value → Shared → Prop), tn i s.heap → Q (.ref it) s → wpAny (model P w) A (pyIter (.ref it)) Q E s
abbrev TI := St → Hp → (It → Hp → Prop) → Prop
def PIE (X : Cx) (pins : List (Addr × Obj)) (σ : St) (tg : Expr) (R : It → Hp → Prop) (itv : Value) (s2 : Shared) : Prop :=
  ∃ (it : Addr) (fp : List Addr) (tn : Nat → Heap → Prop) (J : It) (H' : Hp), itv = .ref it ∧ Inv X pins σ H' s2 ∧ Turn X.prog X.w X.K tg J fp it tn ∧ tn 0 s2.heap ∧ (∀ b ∈ fp, FpOk X pins H' b) ∧ R J H'
theorem go_of {M : Model} {A : Around} {E : Value → Shared → Prop} {s : Shared} {tg : Expr} {it : Addr} {u : Value} {o : Obj} {n : String} {vs : Array Value} {Q : Unit → Shared → Prop} (ho : s.heap.get? it = some o) (hc : o.cls = .type n) (hd : o.data = .fields vs)
    (hn : ["enumerate", "zip", "dict_itemiterator", "dict_reverseitemiterator", "odict_iterator", "itertools.zip_longest", "itertools.pairwise"].contains n = false) (hQ : Q () s) : wpAny M A (letOwnedTupleGo tg (.ref it) u) Q E s := by
  unfold letOwnedTupleGo
  cases tg <;> first
    | exact wpAny_pure hQ
    | (cases u <;> first
        | exact wpAny_pure hQ
        | (refine wpAny_bind (wpAny_load ho ?_)
           rw [hc, hd]
           show wpAny M A (if (["enumerate", "zip", "dict_itemiterator", "dict_reverseitemiterator", "odict_iterator", "itertools.zip_longest", "itertools.pairwise"].contains n && vs[0]? == some (rawInt _)) = true then _ else _) Q E s
           rw [if_neg (by intro h; rw [hn, Bool.false_and] at h; cases h)]
           exact wpAny_pure hQ))
def Itl (K : PySem.W.Frag) (a : Addr) : It :=
  ⟨fun i H => ∃ xs x, SqL K H a xs ∧ xs[i]? = some x, fun i H x H' => H' = H ∧ ∀ xs, SqL K H a xs → xs[i]? = some x, fun i H => ∃ xs, SqL K H a xs ∧ xs.length ≤ i⟩
def Itt (K : PySem.W.Frag) (a : Addr) : It :=
  ⟨fun i H => ∃ xs x, SqT K H a xs ∧ xs[i]? = some x, fun i H x H' => H' = H ∧ ∀ xs, SqT K H a xs → xs[i]? = some x, fun i H => ∃ xs, SqT K H a xs ∧ xs.length ≤ i⟩
def Itr (lo : Int) (n : Nat) : It := ⟨fun i _ => i < n, fun i H x H' => H' = H ∧ x = .int (lo + i), fun i _ => n ≤ i⟩
theorem turn_list {P : Program} {w : World} {K : PySem.W.Frag} {tg : Expr} (a it : Addr) : Turn P w K tg (Itl K a) [it] it (fun i h => h.IsListIter it a i) where
  mem := by simp
  obj := fun i h st b hb => by
    have e : b = it := by simpa using hb
    subst e
    obtain ⟨o, e, c, d⟩ := st
    exact ⟨o, e, fun v z => by rw [d] at z; cases z⟩
  keep := fun i h h' st k => st.at fun o e => k it (by simp) o e
  item := by
    intro X hP hw hK hc i pins s σ H E I hf st hg
    subst hP hw hK
    obtain ⟨xs, x, hq, hx⟩ := hg
    obtain ⟨its, rv, p, hz⟩ := I.list hq
    obtain ⟨u, hu, ru⟩ := rv.get hx
    obtain ⟨f0, f1, f2, f3, f4, f5⟩ := hf it (by simp)
    refine wpAny_pyNext_list_item st p.isList (x := u) (by simpa using hu) fun h' st' sb => ?_
    have I1 : Inv X pins σ H { s with heap := h' } := I.turned (t' := s.toks) (fun b o hb e => (sb.2 b hb).trans e) f0 f1 f3 f4 f5
    obtain ⟨o, e, c, d⟩ := id st'
    exact ⟨u, rfl, go_of (s := { s with heap := h' }) e c d (by decide) ⟨x, H, I1, ru, ⟨rfl, fun ys hy => by rw [I.list_inj hy hq]; exact hx⟩, st', fun b hb => (hf b hb).1⟩⟩
  done := by
    intro X hP hw hK hc i pins s σ H E I hf st hg
    subst hP hw hK
    obtain ⟨xs, hq, hx⟩ := hg
    obtain ⟨its, rv, p, hz⟩ := I.list hq
    obtain ⟨f0, f1, f2, f3, f4, f5⟩ := hf it (by simp)
    have hl := rv.length
    exact wpAny_pyNext_list_end (I.ok.hd hc) st p.isList (by simp; omega) fun h' eb => ⟨rfl, I.turned (t' := s.toks) (fun b o hb e => eb b o hb e) f0 f1 f3 f4 f5⟩
  self := fun _ _ _ _ _ st h => wpAny_pyIter_listiter st h
theorem turn_tuple {P : Program} {w : World} {K : PySem.W.Frag} {tg : Expr} (a it : Addr) : Turn P w K tg (Itt K a) [it] it (fun i h => h.IsTupleIter it a i) where
  mem := by simp
  obj := fun i h st b hb => by
    have e : b = it := by simpa using hb
    subst e
    obtain ⟨o, e, c, d⟩ := st
    exact ⟨o, e, fun v z => by rw [d] at z; cases z⟩
  keep := fun i h h' st k => st.at fun o e => k it (by simp) o e
  item := by
    intro X hP hw hK hc i pins s σ H E I hf st hg
    subst hP hw hK
    obtain ⟨xs, x, hq, hx⟩ := hg
    obtain ⟨its, rv, p, hz⟩ := I.tuple hq
    obtain ⟨u, hu, ru⟩ := rv.get hx
    obtain ⟨f0, f1, f2, f3, f4, f5⟩ := hf it (by simp)
    refine wpAny_pyNext_tuple_item st (show s.heap.IsTuple a its.toArray from p) (x := u) (by simpa using hu) fun h' st' sb => ?_
    have I1 : Inv X pins σ H { s with heap := h' } := I.turned (t' := s.toks) (fun b o hb e => (sb.2 b hb).trans e) f0 f1 f3 f4 f5
    obtain ⟨o, e, c, d⟩ := id st'
    exact ⟨u, rfl, go_of (s := { s with heap := h' }) e c d (by decide) ⟨x, H, I1, ru, ⟨rfl, fun ys hy => by rw [I.tuple_inj hy hq]; exact hx⟩, st', fun b hb => (hf b hb).1⟩⟩
  done := by
    intro X hP hw hK hc i pins s σ H E I hf st hg
    subst hP hw hK
    obtain ⟨xs, hq, hx⟩ := hg
    obtain ⟨its, rv, p, hz⟩ := I.tuple hq
    obtain ⟨f0, f1, f2, f3, f4, f5⟩ := hf it (by simp)
    have hl := rv.length
    exact wpAny_pyNext_tuple_end (I.ok.hd hc) st (show s.heap.IsTuple a its.toArray from p) (by simp; omega) fun h' eb => ⟨rfl, I.turned (t' := s.toks) (fun b o hb e => eb b o hb e) f0 f1 f3 f4 f5⟩
  self := fun _ _ _ _ _ st h => wpAny_pyIter_tupleiter st h
theorem turn_range {P : Program} {w : World} {K : PySem.W.Frag} {tg : Expr} (it : Addr) (lo : Int) (n : Nat) : Turn P w K tg (Itr lo n) [it] it (fun i h => IsRangeIter h it (lo + (i : Nat) * 1) ((n : Int) - (i : Nat)) 1) where
  mem := by simp
  obj := fun i h st b hb => by
    have e : b = it := by simpa using hb
    subst e
    exact ⟨_, st, fun v z => by
      have z' : Data.fields _ = Data.cell v := z
      cases z'⟩
  keep := fun i h h' st k => k it (by simp) _ st
  item := by
    intro X hP hw hK hc i pins s σ H E I hf st hg
    subst hP hw hK
    obtain ⟨f0, f1, f2, f3, f4, f5⟩ := hf it (by simp)
    have W := Walks.range (prog := X.prog) (w := X.w) (I.ok.hd hc) it lo 1 n
    refine W.item i s _ _ hg st fun v h' tk hv st' kk => ?_
    obtain ⟨t, rfl⟩ := hv
    have I1 : Inv X pins σ H { s with heap := h', toks := tk } := I.turned (fun b o hb e => kk b o (by simpa using hb) e) f0 f1 f3 f4 f5
    refine ⟨_, rfl, go_of (s := { s with heap := h', toks := tk }) (n := "range_iterator") st' rfl rfl (by decide) ⟨.int (lo + i), H, I1, ⟨t, ?_⟩, ⟨rfl, rfl⟩, st', fun b hb => (hf b hb).1⟩⟩
    rw [Int.mul_one]
  done := by
    intro X hP hw hK hc i pins s σ H E I hf st hg
    subst hP hw hK
    obtain ⟨f0, f1, f2, f3, f4, f5⟩ := hf it (by simp)
    exact wpAny_pyNext_range_end (I.ok.hd hc) st (by have : n ≤ i := hg; omega) fun h' eb => ⟨rfl, I.turned (t' := s.toks) (fun b o hb e => eb b o hb e) f0 f1 f3 f4 f5⟩
  self := fun _ _ _ _ _ st h => wpAny_pyIter_rangeiter st h
end L2
namespace L2
open PySem PySem.Spec PyProof.Rows
section
variable {X : Cx} {tg : Expr}
theorem range_it {pins : List (Addr × Obj)} {σ : St} {H : Hp} {s : Shared} {R : It → Hp → Prop} {E : Value → Shared → Prop} {lo hi : Int} {t u v : Tok} {tk : Nat} (I : Inv X pins σ H s) (h1 : -(2 ^ 62) ≤ lo) (h2 : lo < 2 ^ 62) (h3 : -(2 ^ 62) ≤ hi) (h4 : hi < 2 ^ 62)
    (q : R (Itr lo (hi - lo).toNat) H) : wpAny (model X.prog X.w) X.A (pyIter (.ref s.heap.objs.size)) (PIE X pins σ tg R) E { s with heap := s.heap.push { cls := .type "range", data := .fields #[.int lo t, .int hi u, .int 1 v] }, toks := tk } := by
  refine wpAny_pyIter_range (IsRange.new ..) (small_one h1 h2 h3 h4) ?_
  have I1 : Inv X pins σ H { s with heap := s.heap.push { cls := .type "range", data := .fields #[.int lo t, .int hi u, .int 1 v] }, toks := tk } := I.kept fun b o e => Heap.get?_push_of_some _ e
  refine ⟨(s.heap.push { cls := .type "range", data := .fields #[.int lo t, .int hi u, .int 1 v] }).objs.size, [(s.heap.push { cls := .type "range", data := .fields #[.int lo t, .int hi u, .int 1 v] }).objs.size], _, _, H, rfl,
    I1.kept (t' := tk) fun b o e => Heap.get?_push_of_some _ e, turn_range _ lo (hi - lo).toNat, ?_, fun b hb => ?_, q⟩
  · have e1 : lo + ((0 : Nat) : Int) * 1 = lo := by simp
    have e2 : (((hi - lo).toNat : Nat) : Int) - ((0 : Nat) : Int) = Builtin.Range.rangeSize lo hi 1 := by rw [rangeSize_one]; split <;> omega
    show IsRangeIter _ _ (lo + ((0 : Nat) : Int) * 1) ((((hi - lo).toNat : Nat) : Int) - ((0 : Nat) : Int)) 1
    rw [e1, e2]
    exact Heap.get?_push_size _ rfl
  · have e : b = (s.heap.push { cls := .type "range", data := .fields #[.int lo t, .int hi u, .int 1 v] }).objs.size := by simpa using hb
    subst e
    exact I1.fpOk (Nat.le_refl _) (I1.hok.fresh (Nat.le_refl _))
def pinsAt (fp : List Addr) (h : Heap) : List (Addr × Obj) := fp.filterMap fun b => (h.get? b).map fun o => (b, o)
theorem mem_pinsAt {fp : List Addr} {h : Heap} {b : Addr} {o : Obj} (hb : b ∈ fp) (e : h.get? b = some o) : (b, o) ∈ pinsAt fp h := List.mem_filterMap.mpr ⟨b, hb, by rw [e]; rfl⟩
theorem of_pinsAt {fp : List Addr} {h : Heap} {p : Addr × Obj} (hp : p ∈ pinsAt fp h) : p.1 ∈ fp ∧ h.get? p.1 = some p.2 := by
  obtain ⟨b, hb, e⟩ := List.mem_filterMap.mp hp
  cases q : h.get? b with
  | none => rw [q] at e; cases e
  | some o =>
    rw [q] at e
    have e' : (b, o) = p := Option.some.inj e
    subst e'
    exact ⟨hb, q⟩
theorem Inv.pinned {pins : List (Addr × Obj)} {σ : St} {H : Hp} {s : Shared} {fp : List Addr} (I : Inv X pins σ H s) (hf : ∀ b ∈ fp, FpOk X pins H b) (ho : ∀ b ∈ fp, ∃ o, s.heap.get? b = some o ∧ ∀ v, o.data ≠ .cell v) : Inv X (pins ++ pinsAt fp s.heap) σ H s :=
  I.pins_of fun p hp => (List.mem_append.mp hp).elim (fun z => I.pin p (List.mem_append_right _ z)) fun z => by
    obtain ⟨hb, e⟩ := of_pinsAt z
    obtain ⟨f0, f1, f2, _⟩ := hf p.1 hb
    obtain ⟨o, e', d⟩ := ho p.1 hb
    rw [e] at e'; cases e'
    exact ⟨e, f0, f1, f2, d⟩
theorem Inv.unpinned {pins pl : List (Addr × Obj)} {σ : St} {H : Hp} {s : Shared} (I : Inv X (pins ++ pl) σ H s) : Inv X pins σ H s := I.pins_of fun p hp => I.pin p (List.mem_append_right _ (List.mem_append_left _ hp))
end
end L2
namespace L2
open PySem PySem.Spec PyProof.Rows
abbrev R2 := V → V → Hp → VK → Prop
def OpR (X : Cx) (f : Value → Value → Sem Value) (r : R2) : Prop :=
  ∀ (pins : List (Addr × Obj)) (s : Shared) (σ : St) (H : Hp) (x y : V) (v u : Value) (Q : VK), Inv X pins σ H s → RelV x v → RelV y u → r x y H Q →
    wpAny (model X.prog X.w) X.A (f v u) (EP X pins σ Q) X.xe s
def UnR (X : Cx) (f : Value → Sem Value) (r : V → Hp → VK → Prop) : Prop :=
  ∀ (pins : List (Addr × Obj)) (s : Shared) (σ : St) (H : Hp) (x : V) (v : Value) (Q : VK), Inv X pins σ H s → RelV x v → r x H Q →
    wpAny (model X.prog X.w) X.A (f v) (EP X pins σ Q) X.xe s
def CallR (X : Cx) (f : Value) (r : List V → Hp → VK → Prop) : Prop :=
  ∀ (pins : List (Addr × Obj)) (s : Shared) (σ : St) (H : Hp) (xs : List V) (us : List Value) (Q : VK), Inv X pins σ H s → Vals xs us → r xs H Q →
    wpAny (model X.prog X.w) X.A (call f us) (EP X pins σ Q) X.xe s
def TruR (X : Cx) (r : V → Hp → (Bool → Hp → Prop) → Prop) : Prop :=
  ∀ (pins : List (Addr × Obj)) (s : Shared) (σ : St) (H : Hp) (x : V) (v : Value) (Q : Bool → Hp → Prop), Inv X pins σ H s → RelV x v → r x H Q →
    wpAny (model X.prog X.w) X.A (truthy v) (TP X pins σ Q) X.xe s
def rI (C : Int → Int → Prop) (g : Int → Int → V) : R2 := fun x y H Q => ∃ i j, x = .int i ∧ y = .int j ∧ C i j ∧ Q (g i j) H
def rI0 (g : Int → Int → V) : R2 := fun x y H Q => ∃ i j, x = .int i ∧ y = .int j ∧ Q (g i j) H
def rU (g : Int → V) : V → Hp → VK → Prop := fun x H Q => ∃ i, x = .int i ∧ Q (g i) H
section
variable {X : Cx} {a b c : Expr} {ta tb tc : TE} {pos : Pos}
theorem opI {f : Value → Value → Sem Value} {C : Int → Int → Prop} {g : Int → Int → Int}
    (rule : ∀ (i j : Int) (t u : Tok) (s : Shared) (Q : Value → Shared → Prop) (E : Value → Shared → Prop), C i j → Q (.int (g i j) s.toks) { s with toks := s.toks + 1 } → wpAny (model X.prog X.w) X.A (f (.int i t) (.int j u)) Q E s) :
    OpR X f (rI C fun i j => .int (g i j)) := by
  intro pins s σ H x y v u Q I rx ry h
  obtain ⟨i, j, rfl, rfl, hc, q⟩ := h
  obtain ⟨t, rfl⟩ := rx
  obtain ⟨t', rfl⟩ := ry
  exact rule i j t t' s _ _ hc ⟨.int (g i j), H, I.tok _, ⟨_, rfl⟩, q⟩
theorem opI0 {f : Value → Value → Sem Value} {g : Int → Int → Int}
    (rule : ∀ (i j : Int) (t u : Tok) (s : Shared) (Q : Value → Shared → Prop) (E : Value → Shared → Prop), Q (.int (g i j) s.toks) { s with toks := s.toks + 1 } → wpAny (model X.prog X.w) X.A (f (.int i t) (.int j u)) Q E s) :
    OpR X f (rI0 fun i j => .int (g i j)) := by
  intro pins s σ H x y v u Q I rx ry h
  obtain ⟨i, j, rfl, rfl, q⟩ := h
  obtain ⟨t, rfl⟩ := rx
  obtain ⟨t', rfl⟩ := ry
  exact rule i j t t' s _ _ ⟨.int (g i j), H, I.tok _, ⟨_, rfl⟩, q⟩
theorem opB0 {f : Value → Value → Sem Value} {g : Int → Int → Bool}
    (rule : ∀ (i j : Int) (t u : Tok) (s : Shared) (Q : Value → Shared → Prop) (E : Value → Shared → Prop), Q (.bool (g i j)) s → wpAny (model X.prog X.w) X.A (f (.int i t) (.int j u)) Q E s) :
    OpR X f (rI0 fun i j => .bl (g i j)) := by
  intro pins s σ H x y v u Q I rx ry h
  obtain ⟨i, j, rfl, rfl, q⟩ := h
  obtain ⟨t, rfl⟩ := rx
  obtain ⟨t', rfl⟩ := ry
  exact rule i j t t' s _ _ ⟨.bl (g i j), H, I, rfl, q⟩
def CDiv (i j : Int) : Prop := 0 < j ∧ j < 1073741824
def CPow (i j : Int) : Prop := 0 ≤ j ∧ j ≤ 1000000 ∧ i.natAbs < 2 ^ 64
def CMul (i j : Int) : Prop := (-(2 ^ 64) < i ∧ i < 2 ^ 64) ∨ (-(2 ^ 64) < j ∧ j < 2 ^ 64)
theorem CMul.ok {i j : Int} (h : CMul i j) : IntMulOk i j := by
  rcases h with ⟨h1, h2⟩ | ⟨h1, h2⟩
  · exact .of_left (intBits_le_64 h1 h2)
  · exact .of_right (intBits_le_64 h1 h2)
theorem op_add : OpR X (binaryOp .Add) (rI0 fun i j => .int (i + j)) := opI0 fun _ _ _ _ _ _ _ q => add_int q
theorem op_sub : OpR X (binaryOp .Sub) (rI0 fun i j => .int (i - j)) := opI0 fun _ _ _ _ _ _ _ q => sub_int q
theorem op_mul : OpR X (binaryOp .Mult) (rI CMul fun i j => .int (i * j)) := opI fun _ _ _ _ _ _ _ hc q => mul_int q hc.ok
theorem op_fdiv : OpR X (binaryOp .FloorDiv) (rI CDiv fun i j => .int (i / j)) := opI fun i j _ _ _ _ _ hc q => by
  have h1 : (0 : Int) < j := hc.1
  have h2 : j < 1073741824 := hc.2
  exact floordiv_int (by omega) (by rw [Int.fdiv_eq_ediv_of_nonneg i (by omega)]; exact q) (.inl (PyProof.noPylong_small (by omega)))
theorem op_mod : OpR X (binaryOp .Mod) (rI (fun _ j => 0 < j) fun i j => .int (i % j)) := opI fun i j _ _ _ _ _ hc q => by
  have h1 : (0 : Int) < j := hc
  exact mod_int' (by omega) (by rw [Int.fmod_eq_emod_of_nonneg i (by omega)]; exact q)
theorem op_pow : OpR X (binaryOp .Pow) (rI CPow fun i j => .int (i ^ j.toNat)) := opI fun _ _ _ _ _ _ _ hc q => pow_int_small hc.1 hc.2.1 hc.2.2 q
theorem unI {f : Value → Sem Value} {g : Int → Int}
    (rule : ∀ (i : Int) (t : Tok) (s : Shared) (Q : Value → Shared → Prop) (E : Value → Shared → Prop), Q (.int (g i) s.toks) { s with toks := s.toks + 1 } → wpAny (model X.prog X.w) X.A (f (.int i t)) Q E s) :
    UnR X f (rU fun i => .int (g i)) := by
  intro pins s σ H x v Q I rx h
  obtain ⟨i, rfl, q⟩ := h
  obtain ⟨t, rfl⟩ := rx
  exact rule i t s _ _ ⟨.int (g i), H, I.tok _, ⟨_, rfl⟩, q⟩
theorem un_neg : UnR X (unaryOp .USub) (rU fun i => .int (-i)) := unI fun _ _ _ _ _ q => neg_int q
end
section
variable {X : Cx} {a b c : Expr} {ta tb tc : TE} {pos : Pos}
theorem op_lt : OpR X (compareOp .Lt) (rI0 fun i j => .bl (decide (i < j))) := opB0 fun _ _ _ _ _ _ _ q => lt_int q
theorem op_le : OpR X (compareOp .LtE) (rI0 fun i j => .bl (decide (i ≤ j))) := opB0 fun _ _ _ _ _ _ _ q => le_int q
theorem op_gt : OpR X (compareOp .Gt) (rI0 fun i j => .bl (decide (j < i))) := opB0 fun _ _ _ _ _ _ _ q => gt_int q
theorem nomark (b : Expr) {op : CmpOp} (h : op ≠ .In := by decide) (h2 : op ≠ .NotIn := by decide) : behindInMarks op b = false := by
  have e1 : (op == CmpOp.In) = false := by cases op <;> first | rfl | exact absurd rfl h
  have e2 : (op == CmpOp.NotIn) = false := by cases op <;> first | rfl | exact absurd rfl h2
  cases b <;> simp [behindInMarks, e1, e2]
def TruV (K : PySem.W.Frag) (x : V) (H : Hp) (k : Bool) : Prop :=
  match x with
  | .non => k = false
  | .bl b => k = b
  | .int i => k = (i != 0)
  | .str y => y.length ≤ sizeLine ∧ k = ((y.length : Int) != 0)
  | .byt y => y.size ≤ sizeLine ∧ k = ((y.size : Int) != 0)
  | .ref p => (∃ xs, SqL K H p xs ∧ k = !xs.isEmpty) ∨ (∃ xs, SqT K H p xs ∧ k = !xs.isEmpty) ∨ ∃ kvs, H p = some (.dK kvs) ∧ k = !kvs.isEmpty
  | _ => False
theorem isEmpty_kv {κ : Type} {kvs : List (κ × V)} {vs : List (κ × Value)} (r : KV kvs vs) : (!vs.isEmpty) = !kvs.isEmpty := by
  cases r <;> rfl
theorem isEmpty_of {xs : List V} {its : List Value} (r : Vals xs its) : (!its.toArray.isEmpty) = !xs.isEmpty := by
  cases r <;> simp
theorem line63 : (sizeLine : Nat) < 2 ^ 63 := by rw [sizeLine_eq]; decide
theorem tru_ok : TruR X (fun x H Q => ∃ k, TruV X.K x H k ∧ Q k H) := by
  intro pins s σ H x v Q I rx h
  obtain ⟨k, e, q⟩ := h
  have hl := line63
  have hs : sizeLine = 16777216 := sizeLine_eq
  cases x with
  | non =>
    cases rx
    have e' : k = false := e
    subst e'
    exact truthy_none ⟨H, I, q⟩
  | bl b =>
    cases rx
    have e' : k = b := e
    subst e'
    exact wpAny_truthy_bool ⟨H, I, q⟩
  | int i =>
    obtain ⟨t, rfl⟩ := rx
    have e' : k = (i != 0) := e
    subst e'
    exact PySem.P.truthy_int ⟨H, I, q⟩
  | str y =>
    obtain ⟨t, rfl⟩ := rx
    obtain ⟨hy, e'⟩ : y.length ≤ sizeLine ∧ k = ((y.length : Int) != 0) := e
    subst e'
    exact PySem.P.truthy_str (by omega) ⟨H, I.tok _, q⟩
  | byt y =>
    obtain ⟨t, rfl⟩ := rx
    obtain ⟨hy, e'⟩ : y.size ≤ sizeLine ∧ k = ((y.size : Int) != 0) := e
    subst e'
    exact PySem.W.truthy_bytes (by omega) ⟨H, I.tok _, q⟩
  | ref p =>
    cases rx
    have e' : (∃ xs, SqL X.K H p xs ∧ k = !xs.isEmpty) ∨ (∃ xs, SqT X.K H p xs ∧ k = !xs.isEmpty) ∨ ∃ kvs, H p = some (.dK kvs) ∧ k = !kvs.isEmpty := e
    rcases e' with ⟨xs, hx, e'⟩ | ⟨xs, hx, e'⟩ | ⟨kvs, hx, e'⟩
    · subst e'
      obtain ⟨its, r, pl, hz⟩ := I.list hx
      have hlen := r.length
      exact wpAny_truthy_list pl.isList (by simp only [List.size_toArray]; omega) ⟨H, I.tok _, by rw [isEmpty_of r]; exact q⟩
    · subst e'
      obtain ⟨its, r, pl, hz⟩ := I.tuple hx
      have hlen := r.length
      exact truthy_tuple pl (by simp only [List.size_toArray]; omega) ⟨H, I.tok _, by rw [isEmpty_of r]; exact q⟩
    · subst e'
      obtain ⟨hz, hS, vs, r, m⟩ : kvs.length ≤ sizeLine ∧ (p == sysModules) = false ∧ ∃ vs, KV kvs vs ∧ s.heap.DictOf (mixKind X.prog X.w) p vs := I.hok p _ hx
      have hlen : kvs.length = vs.length := Paired.length r
      exact wpAny_truthy_dict hS m (by omega) ⟨H, I.tok _, by rw [isEmpty_kv r]; exact q⟩
  | _ => exact (show False from e).elim
theorem op_add_str : OpR X (binaryOp .Add) (fun x y H Q => ∃ i j, x = .str i ∧ y = .str j ∧ i.length + j.length ≤ sizeLine ∧ Q (.str (i ++ j)) H) := by
  intro pins s σ H x y v u Q I rx ry h
  obtain ⟨i, j, rfl, rfl, hz, q⟩ := h
  obtain ⟨t, rfl⟩ := rx
  obtain ⟨t', rfl⟩ := ry
  exact add_str (fun t' tk => ⟨.str (i ++ j), H, I.tok _, ⟨_, rfl⟩, q⟩) hz
theorem vals1 {x : V} {us : List Value} (r : Vals [x] us) : ∃ u, us = [u] ∧ RelV x u := by
  cases r with
  | cons r1 r2 => cases r2; exact ⟨_, rfl, r1⟩
theorem vals2 {x y : V} {us : List Value} (r : Vals [x, y] us) : ∃ u w', us = [u, w'] ∧ RelV x u ∧ RelV y w' := by
  cases r with
  | cons r1 r2 =>
    cases r2 with
    | cons r3 r4 => cases r4; exact ⟨_, _, rfl, r1, r3⟩
def LenV (K : PySem.W.Frag) (x : V) (H : Hp) (n : Nat) : Prop :=
  match x with
  | .str y => y.length ≤ sizeLine ∧ n = y.length
  | .byt y => y.size ≤ sizeLine ∧ n = y.size
  | .ref p => (∃ xs, SqL K H p xs ∧ n = xs.length) ∨ ∃ xs, SqT K H p xs ∧ n = xs.length
  | _ => False
theorem call_len : CallR X (.builtin "len") (fun xs H Q => ∃ x n, xs = [x] ∧ LenV X.K x H n ∧ Q (.int n) H) := by
  intro pins s σ H xs us Q I r h
  obtain ⟨x, n, rfl, e, q⟩ := h
  obtain ⟨u, rfl, rx⟩ := vals1 r
  have hl := line63
  have hs : sizeLine = 16777216 := sizeLine_eq
  cases x with
  | str y =>
    obtain ⟨t, rfl⟩ := rx
    obtain ⟨hy, e'⟩ : y.length ≤ sizeLine ∧ n = y.length := e
    subst e'
    exact len_str (by omega) ⟨.int _, H, I.tok _, ⟨_, rfl⟩, q⟩
  | byt y =>
    obtain ⟨t, rfl⟩ := rx
    obtain ⟨hy, e'⟩ : y.size ≤ sizeLine ∧ n = y.size := e
    subst e'
    exact PySem.W.len_bytes (by omega) ⟨.int _, H, I.tok _, ⟨_, rfl⟩, q⟩
  | ref p =>
    cases rx
    have e' : (∃ xs, SqL X.K H p xs ∧ n = xs.length) ∨ ∃ xs, SqT X.K H p xs ∧ n = xs.length := e
    rcases e' with ⟨xs, hx, e'⟩ | ⟨xs, hx, e'⟩
    · subst e'
      obtain ⟨its, r', pl, hz⟩ := I.list hx
      have hlen := r'.length
      exact Calls.call_len_list pl.isList (by simp only [List.size_toArray]; omega) ⟨.int xs.length, H, I.tok _, ⟨_, by simp only [List.size_toArray]; rw [hlen]⟩, q⟩
    · subst e'
      obtain ⟨its, r', pl, hz⟩ := I.tuple hx
      have hlen := r'.length
      exact len_tuple pl (by simp only [List.size_toArray]; omega) ⟨.int xs.length, H, I.tok _, ⟨_, by simp only [List.size_toArray]; rw [hlen]⟩, q⟩
  | _ => exact (show False from e).elim
end
end L2
namespace L2
open PySem PySem.Spec PyProof.Rows
structure ObjM (h : Heap) (x dx C : Addr) (mA : Str → Option Value) : Prop where
  obj : h.get? x = some (PySem.W.instObj C dx)
  ns : h.Ns1 dx mA
  ne : dx ≠ x
section
variable {prog : Program} {w : World} {A : Around} {E : Value → Shared → Prop} {s : Shared} {K : PySem.W.Frag} {x dx C f : Addr} {mA : Str → Option Value} {name : Str} {v : Value}
end
theorem RelO.some_of {v : V} {o : Option Value} (r : RelO (some v) o) : ∃ u, o = some u ∧ RelV v u := by
  cases o with
  | none => exact (show False from r).elim
  | some u => exact ⟨u, rfl, r⟩
section
variable {P : Program} {w : World} {H H' : Hp} {h h' : Heap} {a C dx : Addr} {fs fs' : List (Str × V)}
end
structure Cls (K : PySem.W.Frag) (C : Addr) : Prop where
  pg : PySem.W.plainGet K C Str.empty = true
  hd : PySem.W.hasDictIn K C = true
  po : PySem.W.plainOver K C = true
  sa : PySem.W.findIn K (.ref C) "__setattr__" = some (some (.builtin "object.__setattr__"))
structure Con (K : PySem.W.Frag) (C : Addr) (f : Str) (v : V) (u : Value) : Prop where
  at_ : PySem.W.findIn K (.ref C) f = some (some u)
  rel : RelV v u
  get : PySem.W.specialIn K u "__get__" = some none
  cp : PySem.W.copiedNames.contains f = false
structure Meth (K : PySem.W.Frag) (C : Addr) (m : Str) (f : Addr) : Prop where
  at_ : PySem.W.findIn K (.ref C) m = some (some (.ref f))
  fn : PySem.W.isFn K (.ref f) = true
  kp : PySem.W.keepIn K (.ref f) = true
section
variable {X : Cx} {pins : List (Addr × Obj)} {σ : St} {H : Hp} {s : Shared} {a C dx : Addr} {fs : List (Str × V)} {f : Str} {v : V} {A : Around} {E : Value → Shared → Prop}
end
section
variable {X : Cx} {o e value : Expr} {f : Str} {pos pos' tpos : Pos} {ta tv : TE}
end
section
variable {X : Cx} {pins : List (Addr × Obj)} {σ : St} {H : Hp} {s : Shared} {A : Around} {E : Value → Shared → Prop} {Q : Value → Shared → Prop} {c : Value} {b : Bool}
inductive TyOf (K : PySem.W.Frag) (H : Hp) : V → Value → Prop where
  | non : TyOf K H .non (.type "NoneType")
  | bl (x : Bool) : TyOf K H (.bl x) (.type "bool")
  | int (i : Int) : TyOf K H (.int i) (.type "int")
  | str (x : Str) : TyOf K H (.str x) (.type "str")
  | flt (x : UInt64) : TyOf K H (.flt x) (.type "float")
  | lst {a : Addr} {xs : List V} (e : H a = some (.lst xs)) : TyOf K H (.ref a) (.type "list")
  | frz {a : Addr} {o : Obj} {xs : List V} (e : H a = some (.frz o (.lst xs))) : TyOf K H (.ref a) (.type "list")
  | tup {a : Addr} {xs : List V} (e : H a = some (.tup xs)) : TyOf K H (.ref a) (.type "tuple")
  | dK {a : Addr} {kvs : List (Key × V)} (e : H a = some (.dK kvs)) : TyOf K H (.ref a) (.type "dict")
  | dT {a : Addr} {kvs : List (List Key × V)} (e : H a = some (.dT kvs)) : TyOf K H (.ref a) (.type "dict")
  | ins {a C dx : Addr} {fs : List (Str × V)} (e : H a = some (.ins C dx fs)) (cl : Cls K C) (ha : PySem.W.findIn K (.ref C) "__class__" = some (some (.builtin "object.__class__")))
      (hn : PySem.W.specialIn K (.builtin "object.__class__") "__get__" = some (some (.builtin "getset_descriptor.__get__"))) (htk : PySem.W.takesIn K (.builtin "object.__class__") = some true)
      (hm : PySem.W.mroIn K C (.type "object") = some true) : TyOf K H (.ref a) (.ref C)
end
end L2
namespace L2
open PySem PySem.Spec PyProof.Rows
structure Room (k : Nat) (A : Around) : Prop where
  hd : A.handled = none
  dp : A.depth + 3 * k + 5 < recursionLimit
  un : A.units + 16 * k + 200 < cLine
theorem Room.mono {j k : Nat} {A : Around} (r : Room k A) (h : j ≤ k) : Room j A := ⟨r.hd, by have := r.dp; omega, by have := r.un; omega⟩
theorem Room.deeper {k : Nat} {A : Around} (r : Room (k + 1) A) (env : Env) : Room k (A.deeper env) :=
  ⟨r.hd, by have := r.dp; show A.depth + 1 + 3 * k + 5 < _; omega, by have := r.un; show A.units + 3 + 16 * k + 200 < _; omega⟩
theorem Room.depth {k : Nat} {A : Around} (r : Room k A) : A.depth < recursionLimit := by have := r.dp; omega
theorem Room.units {k : Nat} {A : Around} (r : Room k A) : A.units + 64 < cLine := by have := r.un; omega
theorem Room.units0 {k : Nat} {A : Around} (r : Room k A) : A.units < cLine := by have := r.un; omega
section
variable {X : Cx} {e : Expr} {es : List Expr} {te : TE} {t : TA} {pos : Pos}
end
abbrev Sp := List V → Hp → VK → XK → Prop
abbrev CXT := List Env → Hp → Shared → XK → Value → Shared → Prop
structure Env0 (P : Program) (w : World) (K : PySem.W.Frag) (mg : Str → Option Value) (base : Heap) (A : Around) (outer : List Env) (s : Shared) (H : Hp) : Prop where
  frames : A.frames = some outer
  mod : Mod K mg base
  bs : ∀ b o, base.get? b = some o → s.heap.get? b = some o ∧ H b = none
  bsz : base.objs.size ≤ s.heap.objs.size
  funs : s.heap.FunFrames base outer
  frf : ∀ b ∈ frs outer, H b = none
  hok : HOk P w H s.heap
  bare : AllBare s.gens
def CE (outer : List Env) (P : Program) (w : World) (H : Hp) (s : Shared) (Q : VK) (u : Value) (s' : Shared) : Prop :=
  ∃ v H', s'.os = s.os ∧ AllBare s'.gens ∧ Un (frs outer) [] H H' s.heap s'.heap ∧ HOk P w H' s'.heap ∧ RelV v u ∧ Q v H'
def CR (CX : CXT) (outer : List Env) (P : Program) (w : World) (H : Hp) (s : Shared) (Q : VK) (E : XK) (r : Result) (s' : Shared) : Prop :=
  match r with
  | .ok (.ret u) => CE outer P w H s Q u s'
  | .ok _ => False
  | .error e => CX outer H s E e s'
structure FnOk (P : Program) (w : World) (K : PySem.W.Frag) (mg : Str → Option Value) (base : Heap) (CX : CXT) (k : Nat) (f : Addr) (fd : FuncData) (ps : List Str) (sp : Sp) : Prop where
  len : ∀ vs H Q E, sp vs H Q E → vs.length = ps.length
  run : ∀ (A : Around) (outer : List Env) (s : Shared) (H : Hp) (args : Args) (us : List Value) (vs : List V) (Q : VK) (E : XK), Room k A → Env0 P w K mg base A outer s H → BindsTo s fd args (ps.zip us) → Vals vs us → sp vs H Q E →
    codeAny (model P w) A (.call (.ref f) args) (CR CX outer P w H s Q E) s
section
variable {X : Cx} {pins : List (Addr × Obj)} {σ : St} {H : Hp} {s s' : Shared}
theorem Inv.env0 (I : Inv X pins σ H s) : Env0 X.prog X.w X.K X.mg X.base X.A X.stack s H :=
  ⟨I.ok.frames, I.ok.mod, I.bs, Nat.le_trans I.ok.bsz I.sz, I.stack, I.stkFree, I.hok, I.bare⟩
theorem Inv.after {Q : VK} {u : Value} (I : Inv X pins σ H s) (h : CE X.stack X.prog X.w H s Q u s') : EP X pins σ Q u s' := by
  obtain ⟨v, H', os, bare, un, hok, r, q⟩ := h
  obtain ⟨hh, g, d, t, os'⟩ := s'
  obtain rfl : os' = s.os := os
  exact ⟨v, H', I.call (h' := hh) (g' := g) (d' := d) (t' := t) (ch := []) un hok bare (fun b z => absurd z (by simp)), r, q⟩
end
def Binds (K : PySem.W.Frag) (fd : FuncData) (ps : List Str) (ds : List Value) : Prop :=
  ∀ (s : Shared) (us : List Value), K.In s.heap → (us ++ ds).length = ps.length → BindsTo s fd ⟨us, []⟩ (ps.zip (us ++ ds))
theorem Binds.all {K : PySem.W.Frag} {fd : FuncData} {ps : List Str} (h : ∀ us : List Value, us.length = ps.length → bindArgs fd ⟨us, []⟩ = pure (ps.zip us)) : Binds K fd ps [] := fun s us _ hl => by
  rw [List.append_nil] at hl ⊢
  exact .of_eq (h us hl)
def Passes (CX : CXT) (X : Cx) (E : XK) : Prop := ∀ (pins : List (Addr × Obj)) (σ : St) (H : Hp) (s : Shared) (e : Value) (s' : Shared), Inv X pins σ H s → CX X.stack H s E e s' → X.xe e s'
section
variable {X : Cx} {CX : CXT} {k : Nat} {f C : Addr} {fd : FuncData} {ps : List Str} {sp : Sp} {dvs : List V} {ds : List Value} {E : XK} {x m : Str} {p pos apos : Pos} {e o : Expr} {es : List Expr} {ta : TE} {t : TA}
theorem run_fn {pins : List (Addr × Obj)} {σ : St} {H : Hp} {s : Shared} {Q : VK} {us : List Value} {vs : List V} (F : FnOk X.prog X.w X.K X.mg X.base CX k f fd ps sp) (hr : Room k X.A) (hb : Binds X.K fd ps ds) (hd : Vals dvs ds) (hx : Passes CX X E)
    (I : Inv X pins σ H s) (r : Vals vs us) (h : sp (vs ++ dvs) H Q E) : wpAny (model X.prog X.w) X.A (call (.ref f) us) (EP X pins σ Q) X.xe s := by
  have r2 : Vals (vs ++ dvs) (us ++ ds) := r.append hd
  have hl : (us ++ ds).length = ps.length := by rw [← r2.length]; exact F.len _ _ _ _ h
  refine wpAny_call (codeAny_mono (F.run X.A X.stack s H ⟨us, []⟩ (us ++ ds) (vs ++ dvs) Q E hr I.env0 (hb s us I.kIn hl) r2 h) fun r s' hq => ?_)
  cases r with
  | error e => exact hx pins σ H s e s' I hq
  | ok fl =>
    cases fl with
    | ret u => exact I.after hq
    | next => exact False.elim hq
    | brk => exact False.elim hq
    | cont => exact False.elim hq
structure Mk (K : PySem.W.Frag) (C f : Addr) : Prop where
  makes : PySem.W.makesIn K C = true
  init : PySem.W.findIn K (.ref C) "__init__" = some (some (.ref f))
  fn : PySem.W.isFn K (.ref f) = true
  kp : PySem.W.keepIn K (.ref C) = true
end
section
variable {X : Cx} {CX : CXT} {k : Nat} {f C : Addr} {fd : FuncData} {ps ks : List Str} {sp : Sp} {E : XK} {x m : Str} {p pos apos kpos : Pos} {e o : Expr} {es : List Expr} {kws : List Keyword} {te ta : TE} {t tk : TA} {nm : Option Str}
structure KBinds (K : PySem.W.Frag) (fd : FuncData) (ps ks : List Str) (g : List Value → List Value → List Value) (gV : List V → List V → List V) : Prop where
  to : ∀ (s : Shared) (us ws : List Value), K.In s.heap → (g us ws).length = ps.length → BindsTo s fd ⟨us, ks.zip ws⟩ (ps.zip (g us ws))
  rel : ∀ {vs : List V} {us : List Value} {zs : List V} {ws : List Value}, Vals vs us → Vals zs ws → Vals (gV vs zs) (g us ws)
variable {g : List Value → List Value → List Value} {gV : List V → List V → List V}
end
structure FnScope (N P : List Str) (sc : Scope) : Prop where
  kind : sc.kind = .function
  co : sc.isCoroutine = false
  gen : sc.isGenerator = false
  nd : N.Nodup
  pre : N.take P.length = P
  par : ∀ x ∈ P, sc.names.lookup x = some .local ∨ sc.names.lookup x = some .cell
  nofree : ∀ y ∈ sc.names, y.2 ≠ .free
theorem bindL_out {kindOf : Str → Option NameKind} {x : Str} : ∀ {binds : List (Str × Value)} {m : Str → Option Value}, (∀ v, (x, v) ∉ binds) → bindL kindOf binds m x = m x
  | [], _, _ => rfl
  | (n, v) :: r, m, h => by
    unfold bindL
    rw [bindL_out fun w hw => h w (List.mem_cons_of_mem _ hw)]
    split
    · have : x ≠ n := by rintro rfl; exact h v List.mem_cons_self
      simp [this]
    · rfl
theorem bindC_out {kindOf : Str → Option NameKind} {x : Str} : ∀ {binds : List (Str × Value)} {m : Str → Option Value}, (∀ v, (x, v) ∉ binds) → bindC kindOf binds m x = m x
  | [], _, _ => rfl
  | (n, v) :: r, m, h => by
    unfold bindC
    rw [bindC_out fun w hw => h w (List.mem_cons_of_mem _ hw)]
    split
    · rfl
    · have : x ≠ n := by rintro rfl; exact h v List.mem_cons_self
      simp [this]
theorem bindL_get {kindOf : Str → Option NameKind} {x : Str} {v : Value} : ∀ {P : List Str} {vs : List Value} {i : Nat} {m : Str → Option Value}, P.Nodup → P[i]? = some x → vs[i]? = some v → kindOf x = some .local →
    bindL kindOf (P.zip vs) m x = some v
  | [], _, _, _, _, h, _, _ => by simp at h
  | _ :: _, [], _, _, _, _, h, _ => by simp at h
  | p :: P, w :: vs, 0, m, nd, h1, h2, hk => by
    simp at h1 h2; subst h1; subst h2
    show bindL kindOf ((p, w) :: P.zip vs) m p = _
    unfold bindL
    rw [bindL_out fun v hv => (List.nodup_cons.mp nd).1 (List.of_mem_zip hv).1, if_pos hk]
    simp
  | p :: P, w :: vs, i + 1, m, nd, h1, h2, hk => by
    show bindL kindOf ((p, w) :: P.zip vs) m x = _
    unfold bindL
    exact bindL_get (i := i) (List.nodup_cons.mp nd).2 (by simpa using h1) (by simpa using h2) hk
theorem bindC_get {kindOf : Str → Option NameKind} {x : Str} {v : Value} : ∀ {P : List Str} {vs : List Value} {i : Nat} {m : Str → Option Value}, P.Nodup → P[i]? = some x → vs[i]? = some v → kindOf x ≠ some .local →
    bindC kindOf (P.zip vs) m x = some v
  | [], _, _, _, _, h, _, _ => by simp at h
  | _ :: _, [], _, _, _, _, h, _ => by simp at h
  | p :: P, w :: vs, 0, m, nd, h1, h2, hk => by
    simp at h1 h2; subst h1; subst h2
    show bindC kindOf ((p, w) :: P.zip vs) m p = _
    unfold bindC
    rw [bindC_out fun v hv => (List.nodup_cons.mp nd).1 (List.of_mem_zip hv).1, if_neg hk]
    simp
  | p :: P, w :: vs, i + 1, m, nd, h1, h2, hk => by
    show bindC kindOf ((p, w) :: P.zip vs) m x = _
    unfold bindC
    exact bindC_get (i := i) (List.nodup_cons.mp nd).2 (by simpa using h1) (by simpa using h2) hk
def start (N : List Str) (vs : List V) : St := vs.map some ++ List.replicate (N.length - vs.length) none
def cxOf (CX : CXT) (P : Program) (w : World) (K : PySem.W.Frag) (mg : Str → Option Value) (base : Heap) (N : List Str) (qual : Str) (scope : Scope) (f : Addr) (cd : Value) (A : Around) (outer : List Env) (s : Shared) (H : Hp) (E : XK) : Cx where
  prog := P
  w := w
  K := K
  mg := mg
  base := base
  A := A.deeper (envOfC qual scope s.heap.objs.size f cd)
  N := N
  s₀ := s
  H₀ := H
  env := envOfC qual scope s.heap.objs.size f cd
  outer := outer
  stack := envOfC qual scope s.heap.objs.size f cd :: outer
  ex := []
  calm := true
  fn := fun _ => true
  pn := []
  xe := fun e s' => wpAny (model P w) (A.deeper (envOfC qual scope s.heap.objs.size f cd)) (leaving (envOfC qual scope s.heap.objs.size f cd) e) (fun _ s'' => CX outer H s E e s'') (fun e' s'' => CX outer H s E e' s'') s'
theorem cell_has {sc : Scope} {n : Nat} {x : Str} (h : sc.names.lookup x = some .cell) : ∃ c, (cellsFrom n sc.names []).lookup x = some c := by
  have q := PySem.W.cellsFrom_some sc.names n [] (.inl h)
  exact Option.isSome_iff_exists.mp q
theorem inv_start {CX : CXT} {P : Program} {w : World} {K : PySem.W.Frag} {mg : Str → Option Value} {base : Heap} {N ps : List Str} {qual : Str} {scope : Scope} {f : Addr} {cd : Value} {A : Around} {outer : List Env} {s s1 : Shared} {H : Hp} {E : XK} {us : List Value} {vs : List V}
    (S : FnScope N ps scope) (hd : A.handled = none) (e0 : Env0 P w K mg base A outer s H) (hl : vs.length = ps.length) (r : Vals vs us)
    (x : InCallC s s.heap.objs.size (bindL (envOfC qual scope s.heap.objs.size f cd).kindOf (ps.zip us) fun _ => none) (cellsFrom (s.heap.objs.size + 1) scope.names []) (bindC (envOfC qual scope s.heap.objs.size f cd).kindOf (ps.zip us) fun _ => none) s1) :
    Inv (cxOf CX P w K mg base N qual scope f cd A outer s H E) [] (start N vs) H s1 := by
  have hpl : ps.length ≤ N.length := by have := congrArg List.length S.pre; rw [List.length_take] at this; omega
  obtain ⟨h1, tk, rfl, hk⟩ := x.done
  have noA : ∀ b : Addr, b ∉ (cxOf CX P w K mg base N qual scope f cd A outer s H E).ex := fun b z => absurd (show b ∈ ([] : List Addr) from z) (by simp)
  refine ⟨⟨e0.mod, S.kind, rfl, rfl, Nat.le_refl _, fun y z c h1 h2 => ?_, fun y hy => ?_, fun y c _ h => ?_, fun _ => hd, Around.frames_deeper e0.frames, .inr ⟨rfl, rfl⟩, fun b z => absurd z (noA b), e0.bs, e0.bsz, fun b _ _ => noA b, fun b z => absurd z (noA b), e0.funs, e0.frf⟩,
    rfl, e0.bare, Un.kept hk, ⟨_, x.toInCall.ns, fun i y v h1 h2 h3 => ?_⟩, fun y c h => ⟨_, x.cell y c h⟩, e0.hok.fresh (Nat.le_refl _), fun y c h => ?_, fun p hp => absurd (show p ∈ ([] : List (Addr × Obj)) from hp) (by simp), e0.hok.kept hk, ?_⟩
  · exact name_of_addr x.apart (PySem.mem_of_lookup h1) (PySem.mem_of_lookup h2)
  · have hy : scope.names.lookup y = some .cell ∨ scope.names.lookup y = some .free := hy
    rcases hy with hy | hy
    · exact cell_has hy
    · exact absurd rfl (S.nofree _ (PySem.mem_of_lookup hy))
  · exact Nat.le_of_lt (x.above y c (PySem.mem_of_lookup h))
  · have hi : i < vs.length := by
      unfold start at h2
      by_cases hi : i < vs.length
      · exact hi
      · rw [List.getElem?_append_right (by simpa using hi)] at h2
        rw [List.getElem?_replicate] at h2
        split at h2 <;> cases h2
    have ha : vs[i]? = some v := by
      unfold start at h2
      rw [List.getElem?_append_left (by simpa using hi), List.getElem?_map] at h2
      cases e : vs[i]? with
      | none => rw [e] at h2; cases h2
      | some a => rw [e] at h2; cases h2; rfl
    obtain ⟨u, hu, rv⟩ := r.get ha
    have hp : ps[i]? = some y := by
      rw [← S.pre, List.getElem?_take_of_lt (by omega)]; exact h1
    have ndP : ps.Nodup := by rw [← S.pre]; exact S.nd.sublist (List.take_sublist _ _)
    refine ⟨u, rv, ?_⟩
    rcases S.par y (List.mem_of_getElem? hp) with k | k
    · exact .inl ⟨k, bindL_get ndP hp hu k⟩
    · obtain ⟨c, e⟩ := cell_has (n := s.heap.objs.size + 1) k
      refine .inr ⟨.inl k, c, e, ?_⟩
      have q := x.cell y c e
      rw [bindC_get ndP hp hu (by show scope.names.lookup y ≠ _; rw [k]; decide)] at q
      exact q
  · exact e0.hok.fresh (Nat.le_of_lt (x.above y c (PySem.mem_of_lookup h)))
  · unfold start
    show _ = N.length
    rw [List.length_append, List.length_map, List.length_replicate]
    omega
theorem fn_of {CX : CXT} {P : Program} {w : World} {K : PySem.W.Frag} {mg : Str → Option Value} {base : Heap} {k : Nat} {f : Addr} {name qual : Str} {params : Arguments} {body : List Stmt} {scope : Scope} {dV kV doc pm cdv ct oc : Value} {an od : Option Addr}
    {osl : Array (Option Value)} {N ps : List Str} {sp : Sp} (lk : K.lookup f = some ⟨oc, od, .func (PySem.W.fnOf name qual params body scope dV kV doc pm an cdv ct), osl⟩) (hcd : PySem.W.codeIn K cdv qual = true) (S : FnScope N ps scope)
    (len : ∀ vs H Q E, sp vs H Q E → vs.length = ps.length)
    (hbody : ∀ (A : Around) (outer : List Env) (s : Shared) (H : Hp) (vs : List V) (Q : VK) (E : XK), Room k (A.deeper (envOfC qual scope s.heap.objs.size f cdv)) → sp vs H Q E →
      ∃ t, PSs (cxOf CX P w K mg base N qual scope f cdv A outer s H E) body t ∧ t { nx := fun _ H' => Q .non H', rt := Q } (start N vs) H) :
    FnOk P w K mg base CX (k + 1) f (PySem.W.fnOf name qual params body scope dV kV doc pm an cdv ct) ps sp := by
  refine ⟨len, fun A outer s H args us vs Q E hr e0 hb r hsp => ?_⟩
  have hl := len _ _ _ _ hsp
  have KX : K.In s.heap := e0.mod.kin.keeps fun b o e => (e0.bs b o e).1
  have lim : s.heap.NoLimit := e0.mod.nolimit.keeps fun b o e => (e0.bs b o e).1
  have hkind : ∀ y ∈ ps.zip us, scope.names.lookup y.1 = some .local ∨ (scope.names.lookup y.1 = some .cell ∧ ((cellsFrom (s.heap.objs.size + 1) scope.names []).lookup y.1).isSome = true) := fun ⟨n, v⟩ hy => by
    rcases S.par n (List.of_mem_zip hy).1 with q | q
    · exact .inl q
    · exact .inr ⟨q, PySem.W.cellsFrom_some _ _ _ (.inl q)⟩
  refine codeAny_call_function hr.depth (KX _ _ lk) rfl S.co S.gen rfl (PySem.W.codeRec_of KX hcd) (hb _ _ _ _ ?_)
  refine wpAny_newFunctionEnv_cells S.kind hkind fun env he s1 x => ?_
  subst he
  refine ⟨lim.keeps x.toInCall.keep, codeAny_func ?_⟩
  obtain ⟨t, ht, hq⟩ := hbody A outer s H vs Q E (hr.deeper _) hsp
  have I : Inv (cxOf CX P w K mg base N qual scope f cdv A outer s H E) [] (start N vs) H s1 := inv_start S hr.hd e0 hl r x
  refine wpAny_mono (ht [] s1 (start N vs) H _ I hq) (fun fl s' hs => ?_) fun e s' hs => hs
  have fin : ∀ {σ' : St} {H' : Hp} {v : V} {u : Value}, Inv (cxOf CX P w K mg base N qual scope f cdv A outer s H E) [] σ' H' s' → RelV v u → Q v H' → CE outer P w H s Q u s' :=
    fun {σ' H' v u} J rv q => ⟨v, H', J.os, J.bare, J.base, J.hok, rv, q⟩
  cases fl with
  | ret u =>
    obtain ⟨v, σ', H', J, rv, q⟩ := hs
    exact fin J rv q
  | next =>
    obtain ⟨σ', H', J, q⟩ := hs
    exact fin (v := V.non) (u := Value.none) J rfl q
  | brk =>
    obtain ⟨_, _, _, q⟩ := hs
    exact False.elim q
  | cont =>
    obtain ⟨_, _, _, q⟩ := hs
    exact False.elim q
end L2
namespace L2
open PySem PySem.Spec PyProof.Rows
section
variable {X : Cx} {x : Str} {p pos : Pos} {e : Expr} {es : List Expr} {t : TA} {id T : String} {r : List V → Hp → VK → Prop}
end
end L2
namespace HT
open PySem PyProof.Rows
def lexLt : List Int → List Int → Bool
  | [], [] => false
  | [], _ :: _ => true
  | _ :: _, [] => false
  | x :: xs, y :: ys => if x = y then lexLt xs ys else decide (x < y)
theorem lexLt_cons (x y : Int) (xs ys : List Int) : lexLt (x :: xs) (y :: ys) = if x = y then lexLt xs ys else decide (x < y) := rfl
theorem lexLt_nil_nil : lexLt [] [] = false := rfl
theorem lexLt_nil_cons (y : Int) (ys : List Int) : lexLt [] (y :: ys) = true := rfl
theorem lexLt_cons_nil (x : Int) (xs : List Int) : lexLt (x :: xs) [] = false := rfl
theorem eqAt_int (A : Around) (s : Shared) (a : Int) (t : Tok) (c : Int) (u : Tok) : ∃ e, SeqAt.EqAt A s (.int a t) (.int c u) e ∧ (e = true ↔ a = c) :=
  ⟨(a == c), SeqAt.EqAt.int_int a t c u, by simp⟩
theorem rcLt_int (A : Around) (s : Shared) (a : Int) (t : Tok) (c : Int) (u : Tok) (prog : Program) (w : World) (E : Value → Shared → Prop) (Q : Value → Shared → Prop) (h : Q (.bool (decide (a < c))) s) :
    wpAny (model prog w) A (richCompare .Lt (.int a t) (.int c u)) Q E s :=
  (PyProof.Rows.lt_int h : wpAny (model prog w) A (compareOp .Lt (.int a t) (.int c u)) Q E s)
section
open PySem.SeqAt
open PySem.AutoSeq1 (wpAny_loadPart')
open PySem.MeetsSeq PySem.MeetsSeq2 PySem.MeetsSeq3
theorem tuple_lt_ints (l b : Addr) (items items2 : Array Value) (n n2 : Nat) (dd dd2 : Option Addr) (sl sl2 : Array (Option Value)) (ns ms : List Int) (hi : IntsAre items.toList ns) (hj : IntsAre items2.toList ms) :
    Meets (Builtin.«tuple.__lt__» ⟨[.ref l, .ref b], []⟩)
      (fun _ R s => s.heap.get? l = some { cls := .type "tuple", dict := dd, data := .seq items n, slots := sl } ∧ s.heap.get? b = some { cls := .type "tuple", dict := dd2, data := .seq items2 n2, slots := sl2 } ∧
        R (.ok (.ret (.bool (lexLt ns ms)))) s) :=
  .of_wp fun prog w A R s h => by
    obtain ⟨hp, g, d, tk, os⟩ := s; obtain ⟨hl, hb, h⟩ := h
    have f2 := AutoSeq1.sub_tuple_tuple
    have z1 : items.size = ns.length := by rw [← hi.length]; simp
    have z2 : items2.size = ms.length := by rw [← hj.length]; simp
    wp_walk using wpAny_loadPart' hl, wpAny_loadPart' hb, wpAny_forIn_list _ (fun rest b s' => b.1 = none ∧ s' = ⟨hp, g, d, tk, os⟩ ∧ ∃ (vs ws : List Value) (ns' ms' : List Int), rest = vs.zip ws ∧
      IntsAre vs ns' ∧ IntsAre ws ms' ∧ ns'.length + items2.size = ms'.length + items.size ∧ R (.ok (.ret (.bool (lexLt ns' ms')))) ⟨hp, g, d, tk, os⟩) _
    case turn =>
      rintro ⟨y, x⟩ rest b s' ⟨hb', rfl, vs, ws, ns', ms', hz, hvi, hwi, hlen, hR⟩
      cases hvi with
      | nil => rw [List.zip_nil_left] at hz; cases hz
      | cons a t hvi' =>
        cases hwi with
        | nil => rw [List.zip_nil_right] at hz; cases hz
        | cons c u hwi' =>
          rw [List.zip_cons_cons] at hz
          injection hz with hyx hrest
          injection hyx with hy hx
          subst hy hx
          rw [lexLt_cons] at hR
          simp only [List.length_cons] at hlen
          obtain ⟨e, he, hiff⟩ := eqAt_int A.in1 ⟨hp, g, d, tk, os⟩ a t c u
          refine wpAny_bind (he prog w _ _ ?_)
          cases e with
          | true =>
            rw [if_pos (hiff.mp rfl)] at hR
            wp_walk
            exact ⟨rfl, rfl, _, _, _, _, hrest, hvi', hwi', by omega, hR⟩
          | false =>
            rw [if_neg (fun q => absurd (hiff.mpr q) Bool.false_ne_true)] at hR
            have hri := rcLt_int A.in1 ⟨hp, g, d, tk, os⟩ a t c u prog w
            wp_walk using hri
            exact ⟨_, rfl, by simpa using hR⟩
    case fin =>
      rintro ⟨b1, b2⟩ s' ⟨hb', rfl, vs, ws, ns', ms', hz, hvi, hwi, hlen, hR⟩
      simp only at hb'
      subst hb'
      have hv : lexLt ns' ms' = decide (items.size < items2.size) := by
        cases hvi with
        | nil =>
          cases hwi with
          | nil =>
            simp only [List.length_nil] at hlen
            rw [lexLt_nil_nil]
            exact (decide_eq_false (by omega)).symm
          | cons c u hw =>
            simp only [List.length_nil, List.length_cons] at hlen
            rw [lexLt_nil_cons]
            exact (decide_eq_true (by omega)).symm
        | cons a t hv =>
          cases hwi with
          | nil =>
            simp only [List.length_nil, List.length_cons] at hlen
            rw [lexLt_cons_nil]
            exact (decide_eq_false (by omega)).symm
          | cons c u hw =>
            rw [List.zip_cons_cons] at hz
            cases hz
      rw [hv] at hR
      wp_walk
      exact ⟨_, rfl, by simpa [Builtin.Tuple.tupleCompareSizes] using hR⟩
    case h =>
      exact ⟨rfl, rfl, items.toList, items2.toList, ns, ms, rfl, hi, hj, by omega, h⟩
end
section
variable {prog : Program} {w : World} {A : Around} {E : Value → Shared → Prop} {s : Shared}
theorem lt_tupInts {l b : Addr} {items items2 : Array Value} {ns ms : List Int} {Q : Value → Shared → Prop} (hl : IsTup s.heap l items) (hb : IsTup s.heap b items2) (hi : IntsAre items.toList ns) (hj : IntsAre items2.toList ms)
    (hu : A.units < cLine) (h : Q (.bool (lexLt ns ms)) s) : wpAny (model prog w) A (compareOp .Lt (.ref l) (.ref b)) Q E s := by
  obtain ⟨⟨cls, dd, data, sl⟩, ho, hc, n, hd⟩ := id hl
  obtain ⟨⟨cls2, dd2, data2, sl2⟩, ho2, hc2, n2, hd2⟩ := id hb
  simp only at hc hd hc2 hd2
  subst hc hd hc2 hd2
  exact richCompare_meets_room (op := .Lt) ⟨_, ho, rfl⟩ ⟨_, ho2, rfl⟩ PySem.F.slot_tuple_lt PySem.F.entry_tuple_lt (PySem.F.args_tuple_lt_2 _ _) (tuple_lt_ints l b items items2 n n2 dd dd2 sl sl2 ns ms hi hj)
    ⟨ho, ho2, show Value.bool (lexLt ns ms) ≠ Value.notImplemented ∧ Q (.bool (lexLt ns ms)) s from ⟨(fun x => nomatch x), h⟩⟩ hu
theorem cat_tup {t b : Addr} {vs ws : List Value} {Q : Value → Shared → Prop} (ht : IsTup s.heap t vs.toArray) (hb : IsTup s.heap b ws.toArray) (hv : vs ≠ [])
    (h1 : ws = [] → Q (.ref t) s) (h2 : ws ≠ [] → Q (.ref s.heap.objs.size) { s with heap := s.heap.push { cls := .type "tuple", data := .seq (vs ++ ws).toArray } })
    (hsz : vs.length + ws.length ≤ sizeLine) : wpAny (model prog w) A (binaryOp .Add (.ref t) (.ref b)) Q E s := by
  obtain ⟨⟨cls, dd, data, sl⟩, ho, hc, n, hd⟩ := id ht
  obtain ⟨⟨cls2, dd2, data2, sl2⟩, ho2, hc2, n2, hd2⟩ := id hb
  simp only at hc hd hc2 hd2
  subst hc hd hc2 hd2
  have e : vs.toArray ++ ws.toArray = (vs ++ ws).toArray := by simp
  by_cases hw : ws = []
  · exact concat_meets ⟨_, ho, rfl⟩ ⟨_, ho2, rfl⟩ noFill_tuple_add seq_tuple_add PySem.F.slot_tuple_add PySem.F.entry_tuple_add (PySem.F.args_tuple_add_2 _ _)
      (tuple_addW1 t b vs.toArray ws.toArray n n2 dd dd2 sl sl2 (by simpa using hv) (by simp [hw])) ⟨ho, ho2, h1 hw⟩
  · refine concat_meets ⟨_, ho, rfl⟩ ⟨_, ho2, rfl⟩ noFill_tuple_add seq_tuple_add PySem.F.slot_tuple_add PySem.F.entry_tuple_add (PySem.F.args_tuple_add_2 _ _)
      (tuple_addW2 t b vs.toArray ws.toArray n n2 dd dd2 sl sl2 (by simpa using hv) (by simpa using hw) (by rw [List.size_toArray, List.size_toArray]; exact hsz)) ⟨ho, ho2, ?_⟩
    rw [e]
    exact h2 hw
def sIx (n d : Nat) : Option Int → Nat
  | none => d
  | some v => if v < 0 then (v + (n : Int)).toNat else min v.toNat n
theorem sIx_le (n d : Nat) (hd : d ≤ n) (o : Option Int) : sIx n d o ≤ n := by
  cases o with
  | none => exact hd
  | some v =>
    show (if v < 0 then (v + (n : Int)).toNat else min v.toNat n) ≤ n
    by_cases hv : v < 0
    · rw [if_pos hv]; omega
    · rw [if_neg hv]; exact Nat.min_le_right _ _
theorem clip_eq (v : Int) (n d : Nat) : (if v < 0 then max (v + (n : Int)) 0 else min v (n : Int)) = ((sIx n d (some v) : Nat) : Int) := by
  show (if v < 0 then max (v + (n : Int)) 0 else min v (n : Int)) = (((if v < 0 then (v + (n : Int)).toNat else min v.toNat n) : Nat) : Int)
  by_cases hv : v < 0
  · simp only [if_pos hv]; omega
  · simp only [if_neg hv]; omega
theorem adjust_gen (lo hi : Option Int) (n : Nat) : Builtin.Slice.sliceAdjust lo hi 1 (n : Int) = (((sIx n 0 lo : Nat) : Int), ((sIx n n hi : Nat) : Int)) := by
  have h1 : ¬ ((1 : Int) < 0) := by omega
  unfold Builtin.Slice.sliceAdjust
  simp only [h1, if_false]
  refine Prod.ext ?_ ?_
  · cases lo with
    | none => rfl
    | some v => exact clip_eq v n 0
  · cases hi with
    | none => rfl
    | some v => exact clip_eq v n n
theorem places_gen (i j : Nat) : Builtin.Slice.slicePlaces (i : Int) (j : Int) 1 = j - i := by
  unfold Builtin.Slice.slicePlaces
  have h1 : (1 : Int) > 0 := by omega
  simp only [h1, if_true, Int.ediv_one]
  split <;> omega
theorem slicePart_ {v : Value} {o : Option Int} {Q : Option Int → Shared → Prop} (p : IsPart v o) (h : Q o s) : wpAny (model prog w) A (Builtin.Slice.slicePartIndex v) Q E s := by
  cases p with
  | none => exact slicePart_none h
  | int i t => exact slicePart_int h
theorem sliceApplied_gen {sl : Addr} {vl vu : Value} {lo hi : Option Int} {n : Nat} {Q : Int × Int × Nat → Shared → Prop} (hs : s.heap.IsSliceOf sl vl vu .none) (pl : IsPart vl lo) (pu : IsPart vu hi)
    (h : Q (((sIx n 0 lo : Nat) : Int), 1, sIx n n hi - sIx n 0 lo) s) : wpAny (model prog w) A (Builtin.Slice.sliceApplied (.ref sl) (pure (n : Int))) Q E s := by
  obtain ⟨os, hos, hcs, hds⟩ := id hs
  unfold Builtin.Slice.sliceApplied Builtin.Slice.sliceFields
  refine wpAny_bind (wpAny_bind (wpAny_field hos hds (x := vl) rfl (wpAny_bind (wpAny_field hos hds (x := vu) rfl (wpAny_bind (wpAny_field hos hds (x := .none) rfl (wpAny_pure ?_)))))))
  refine wpAny_bind (slicePart_none ?_)
  show wpAny _ _ (if ((1 : Int) == 0) = true then _ else _) _ _ s
  rw [if_neg (by decide)]
  refine wpAny_bind (slicePart_ pl (wpAny_bind (slicePart_ pu (wpAny_bind (wpAny_pure ?_)))))
  show wpAny _ _ (match Builtin.Slice.sliceAdjust lo hi 1 (n : Int) with | (lo, hi) => pure (lo, (1 : Int), Builtin.Slice.slicePlaces lo hi 1)) _ _ s
  rw [adjust_gen lo hi n]
  show wpAny _ _ (pure (((sIx n 0 lo : Nat) : Int), (1 : Int), Builtin.Slice.slicePlaces ((sIx n 0 lo : Nat) : Int) ((sIx n n hi : Nat) : Int) 1)) _ _ s
  rw [places_gen]
  exact wpAny_pure h
theorem pick_gen (xs : Array Value) (i k : Nat) : ((List.range k).filterMap fun (m : Nat) => xs[((i : Int) + (m : Int) * 1).toNat]?).toArray = ((xs.toList.drop i).take k).toArray := by
  have e : (fun (m : Nat) => xs[((i : Int) + (m : Int) * 1).toNat]?) = fun m => xs[i + m]? := by
    funext m
    have : ((i : Int) + (m : Int) * 1).toNat = i + m := by omega
    rw [this]
  rw [e]
  have := pick_run xs i k
  rw [List.filterMap_map] at this
  have e2 : ((fun x => xs[x]?) ∘ fun x => i + x) = fun m => xs[i + m]? := rfl
  rw [e2] at this
  rw [this]
theorem getItem_tuple_cut {t sl : Addr} {items : Array Value} {vl vu : Value} {lo hi : Option Int} {Q : Value → Shared → Prop} (ht : IsTup s.heap t items) (hs : s.heap.IsSliceOf sl vl vu .none) (pl : IsPart vl lo) (pu : IsPart vu hi)
    (hw : ¬ (sIx items.size 0 lo = 0 ∧ sIx items.size items.size hi = items.size))
    (h : Q (.ref s.heap.objs.size) { s with heap := s.heap.push { cls := .type "tuple", data := .seq ((items.toList.drop (sIx items.size 0 lo)).take (sIx items.size items.size hi - sIx items.size 0 lo)).toArray } })
    (hsz : items.size ≤ sizeLine) : wpAny (model prog w) A (getItem (.ref t) (.ref sl)) Q E s := by
  have htake : sizeOk (.seq ((items.toList.drop (sIx items.size 0 lo)).take (sIx items.size items.size hi - sIx items.size 0 lo)).toArray) := by
    show ((items.toList.drop (sIx items.size 0 lo)).take (sIx items.size items.size hi - sIx items.size 0 lo)).toArray.size ≤ sizeLine
    rw [List.size_toArray, List.length_take, List.length_drop, Array.length_toList]
    omega
  have hj : sIx items.size items.size hi ≤ items.size := sIx_le _ _ (Nat.le_refl _) hi
  obtain ⟨os, hos, hcs, hds⟩ := id hs
  have hTs : s.TypeIs (.ref sl) "slice" := ⟨os, hos, hcs⟩
  unfold getItem
  try with_reducible refine wpAny_holding ?_
  first | refine wpAny_bind (wpAny_pure ?_) | skip
  refine wpAny_bind (wpAny_sequenceKey ht.typeIs (by decide) ?_)
  refine wpAny_bind (wpAny_callSpecial?_slot (name := Str.ofString "__getitem__") ht.typeIs PyProof.Rows.slot_tuple_getitem
    (wpAny_call_entry PyProof.Rows.slot_tuple_getitem ht.typeIs entry_tuple_getitem ?_ (args_tuple_getitem _ _)))
  show wpAny _ _ (Builtin.Tuple.tupleItemsOf (.ref t) >>= _) _ _ s
  refine wpAny_bind (tupleItemsOf_ ht ?_)
  refine wpAny_bind (wpAny_typeOf hTs ?_)
  rw [if_pos (by decide)]
  refine wpAny_bind (sliceApplied_gen hs pl pu ?_)
  have hno : ¬ ((((sIx items.size 0 lo : Nat) : Int) == 0 && (1 : Int) == 1 && (sIx items.size items.size hi - sIx items.size 0 lo) == items.size) = true) := by
    intro q
    rw [Bool.and_eq_true, Bool.and_eq_true] at q
    have q1 : ((sIx items.size 0 lo : Nat) : Int) = 0 := eq_of_beq q.1.1
    have q2 : sIx items.size items.size hi - sIx items.size 0 lo = items.size := eq_of_beq q.2
    exact hw ⟨by omega, by omega⟩
  show wpAny _ _ (if (((sIx items.size 0 lo : Nat) : Int) == 0 && (1 : Int) == 1 && (sIx items.size items.size hi - sIx items.size 0 lo) == items.size) = true then _ else _) _ _ s
  rw [if_neg hno, pick_gen]
  first
    | exact wpAny_bind (m := Builtin.Tuple.tupleExact _) (wpAny_newObj_type (wpAny_pure ⟨_, rfl, wpAny_pure h⟩) htake)
    | exact wpAny_bind (m := Builtin.Tuple.tupleExact _) (wpAny_newObj_type (wpAny_bind (wpAny_pure (wpAny_pure ⟨_, rfl, wpAny_pure h⟩))) htake)
    | exact wpAny_bind (wpAny_bind (m := Builtin.Tuple.tupleExact _) (wpAny_newObj_type (wpAny_pure (wpAny_pure ⟨_, rfl, wpAny_pure h⟩)) htake))
    | exact wpAny_bind (wpAny_bind (m := Builtin.Tuple.tupleExact _) (wpAny_newObj_type (wpAny_pure ⟨_, rfl, wpAny_pure h⟩) htake))
end
end HT
namespace L2
open PySem PySem.Spec PyProof.Rows
abbrev TO := St → Hp → (Option Int → Hp → Prop) → Prop
theorem intsAre_of {ns : List Int} : ∀ {us : List Value}, Vals (ns.map V.int) us → IntsAre us ns := by
  induction ns with
  | nil => intro us r; rw [List.map_nil] at r; cases r; exact .nil
  | cons n ns ih =>
    intro us r
    rw [List.map_cons] at r
    cases r with
    | cons r1 r2 =>
      obtain ⟨t, e⟩ := r1
      subst e
      exact .cons n t (ih r2)
section
variable {X : Cx} {e : Expr} {te : TE} {lo hi : Option Expr} {tl th : TO} {pos p2 : Pos}
def SlR (X : Cx) (r : V → Option Int → Option Int → Hp → VK → Prop) : Prop :=
  ∀ (pins : List (Addr × Obj)) (s : Shared) (σ : St) (H : Hp) (x : V) (v vl vu : Value) (lo hi : Option Int) (sl : Addr) (Q : VK), Inv X pins σ H s → RelV x v → s.heap.IsSliceOf sl vl vu .none → IsPart vl lo → IsPart vu hi → r x lo hi H Q →
    ∃ T id, typeLookup (.type T) "__getitem__" = pure (some (.builtin id)) ∧ s.TypeIs v T ∧ wpAny (model X.prog X.w) X.A (getItem v (.ref sl)) (EP X pins σ Q) X.xe s
def cutV (xs : List V) (lo hi : Option Int) : List V := (xs.drop (HT.sIx xs.length 0 lo)).take (HT.sIx xs.length xs.length hi - HT.sIx xs.length 0 lo)
theorem cutV_length (xs : List V) (lo hi : Option Int) : (cutV xs lo hi).length ≤ xs.length := by
  unfold cutV
  rw [List.length_take, List.length_drop]
  omega
def rSlT (K : PySem.W.Frag) : V → Option Int → Option Int → Hp → VK → Prop := fun x lo hi H Q => ∃ a xs, x = .ref a ∧ SqT K H a xs ∧
  ¬ (HT.sIx xs.length 0 lo = 0 ∧ HT.sIx xs.length xs.length hi = xs.length) ∧ ∀ p, H p = none → Q (.ref p) (upd H p (.tup (cutV xs lo hi)))
theorem sl_tup : SlR X (rSlT X.K) := by
  intro pins s σ H x v vl vu lo hi sl Q I rx hs pl pu h
  obtain ⟨a, xs, rfl, hx, hw, q⟩ := h
  cases rx
  obtain ⟨its, r, ht, hz⟩ := I.tuple hx
  have hlen : its.toArray.size = xs.length := by rw [List.size_toArray]; exact r.length.symm
  refine ⟨"tuple", _, PyProof.Rows.slot_tuple_getitem.lookup, ht.typeIs, ?_⟩
  refine HT.getItem_tuple_cut ht hs pl pu (by rw [hlen]; exact hw) ?_ (by rw [hlen]; exact hz)
  rw [hlen]
  refine ⟨.ref s.heap.objs.size, _, I.laid (t' := s.toks) (o := .tup (cutV xs lo hi)) (fun b ob q => Heap.get?_push_of_some _ q) (Nat.le_refl _) ?_, rfl, q _ (I.hok.fresh (Nat.le_refl _))⟩
  exact ⟨Nat.le_trans (cutV_length xs lo hi) hz, _, (r.drop (HT.sIx xs.length 0 lo)).take (HT.sIx xs.length xs.length hi - HT.sIx xs.length 0 lo), IsTup.new _ _⟩
def rLtT (K : PySem.W.Frag) : R2 := fun x y H Q => ∃ a b ns ms, x = .ref a ∧ y = .ref b ∧ SqT K H a (ns.map V.int) ∧ SqT K H b (ms.map V.int) ∧ Q (.bl (HT.lexLt ns ms)) H
theorem op_ltT (hu : X.A.units < cLine) : OpR X (compareOp .Lt) (rLtT X.K) := by
  intro pins s σ H x y v u Q I rx ry h
  obtain ⟨a, b, ns, ms, rfl, rfl, ha, hb, q⟩ := h
  cases rx
  cases ry
  obtain ⟨its, r1, p1, _⟩ := I.tuple ha
  obtain ⟨its2, r2, p2, _⟩ := I.tuple hb
  have i1 : IntsAre its.toArray.toList ns := intsAre_of r1
  have i2 : IntsAre its2.toArray.toList ms := intsAre_of r2
  exact HT.lt_tupInts p1 p2 i1 i2 hu ⟨.bl (HT.lexLt ns ms), H, I, rfl, q⟩
def rCatT (K : PySem.W.Frag) : R2 := fun x y H Q => ∃ a b xs ys, x = .ref a ∧ y = .ref b ∧ SqT K H a xs ∧ SqT K H b ys ∧ xs ≠ [] ∧ xs.length + ys.length ≤ sizeLine ∧
  (ys = [] → Q (.ref a) H) ∧ (ys ≠ [] → ∀ p, H p = none → Q (.ref p) (upd H p (.tup (xs ++ ys))))
theorem Vals.nil_iff {xs : List V} {us : List Value} (r : Vals xs us) : us = [] ↔ xs = [] := by
  cases r with
  | nil => simp
  | cons _ _ => simp
theorem op_catT : OpR X (binaryOp .Add) (rCatT X.K) := by
  intro pins s σ H x y v u Q I rx ry h
  obtain ⟨a, b, xs, ys, rfl, rfl, ha, hb, hx, hz, q1, q2⟩ := h
  cases rx
  cases ry
  obtain ⟨its, r1, p1, _⟩ := I.tuple ha
  obtain ⟨its2, r2, p2, _⟩ := I.tuple hb
  refine HT.cat_tup p1 p2 (fun z => hx (r1.nil_iff.mp z)) (fun z => ⟨.ref a, H, I, rfl, q1 (r2.nil_iff.mp z)⟩) (fun z => ?_) (by rw [← r1.length, ← r2.length]; exact hz)
  refine ⟨.ref s.heap.objs.size, _, I.laid (t' := s.toks) (o := .tup (xs ++ ys)) (fun b ob q => Heap.get?_push_of_some _ q) (Nat.le_refl _) ?_, rfl, q2 (fun w => z (r2.nil_iff.mpr w)) _ (I.hok.fresh (Nat.le_refl _))⟩
  exact ⟨by rw [List.length_append]; exact hz, _, r1.append r2, IsTup.new _ _⟩
end
end L2
namespace L2
open PySem PySem.Spec PyProof.Rows
def ixN (n : Nat) (i : Int) : Option Nat := if 0 ≤ i then (if i < n then some i.toNat else none) else if -(n : Int) ≤ i then some (i + n).toNat else none
def atI {α : Type} (xs : List α) (i : Int) : Option α := (ixN xs.length i).bind fun j => xs[j]?
theorem ixN_seq {n : Nat} {i : Int} {j : Nat} (h : ixN n i = some j) : seqIndex? i n = some j ∧ j < n ∧ -(n : Int) ≤ i ∧ i < n := by
  unfold ixN at h
  by_cases h0 : 0 ≤ i
  · rw [if_pos h0] at h
    by_cases h1 : i < n
    · rw [if_pos h1] at h
      have e : i.toNat = j := Option.some.inj h
      exact ⟨by rw [seqIndex_of h0 h1, e], by omega, by omega, h1⟩
    · rw [if_neg h1] at h; cases h
  · rw [if_neg h0] at h
    by_cases h1 : -(n : Int) ≤ i
    · rw [if_pos h1] at h
      have e : (i + n).toNat = j := Option.some.inj h
      exact ⟨by rw [seqIndex_neg (by omega) h1, e], by omega, h1, by omega⟩
    · rw [if_neg h1] at h; cases h
theorem atI_get {α : Type} {xs : List α} {i : Int} {v : α} (h : atI xs i = some v) : ∃ j, seqIndex? i xs.length = some j ∧ xs[j]? = some v ∧ j < xs.length ∧ -(xs.length : Int) ≤ i ∧ i < xs.length := by
  unfold atI at h
  cases e : ixN xs.length i with
  | none => rw [e] at h; cases h
  | some j =>
    rw [e] at h
    obtain ⟨h1, h2, h3, h4⟩ := ixN_seq e
    exact ⟨j, h1, h, h2, h3, h4⟩
def PlainIx (b : Expr) : Prop := ∀ o i, subscripted b false o i = operate [o, i] (getItem o i)
def IxR (X : Cx) (r : R2) : Prop :=
  ∀ (value slice : Expr) (pins : List (Addr × Obj)) (s : Shared) (σ : St) (H : Hp) (x y : V) (v u : Value) (Q : VK), Inv X pins σ H s → RelV x v → RelV y u → r x y H Q →
    subscripted slice false v u = operate [v, u] (getItem v u) → wpAny (model X.prog X.w) X.A (subscriptTail value slice v u) (EP X pins σ Q) X.xe s
def MtR (X : Cx) (id : String) (r : V → List V → Hp → VK → Prop) : Prop :=
  ∀ (pins : List (Addr × Obj)) (s : Shared) (σ : St) (H : Hp) (x : V) (xs : List V) (v : Value) (us : List Value) (Q : VK), Inv X pins σ H s → RelV x v → Vals xs us → r x xs H Q →
    wpAny (model X.prog X.w) X.A (call (.builtin id) (v :: us)) (EP X pins σ Q) X.xe s
section
variable {X : Cx} {a b : Expr} {ta tb : TE} {pos : Pos}
def rIxL (K : PySem.W.Frag) : R2 := fun x y H Q => ∃ p xs i v, x = .ref p ∧ y = .int i ∧ SqL K H p xs ∧ atI xs i = some v ∧ Q v H
def rIxT (K : PySem.W.Frag) : R2 := fun x y H Q => ∃ p xs i v, x = .ref p ∧ y = .int i ∧ SqT K H p xs ∧ atI xs i = some v ∧ Q v H
theorem ix_list : IxR X (rIxL X.K) := by
  intro value slice pins s σ H x y v u Q I rx ry h hs
  obtain ⟨p, xs, i, z, rfl, rfl, hq, he, q⟩ := h
  cases rx
  obtain ⟨t, rfl⟩ := ry
  obtain ⟨its, r, pl, hz⟩ := I.list hq
  obtain ⟨j, h1, h2, h3, h4, h5⟩ := atI_get he
  obtain ⟨w, ew, rw'⟩ := r.get h2
  have hl := r.length
  have hn := line63
  have fin : EP X pins σ Q w s := ⟨z, H, I, rw', q⟩
  by_cases h0 : 0 ≤ i
  · have hj : i.toNat = j := by
      rw [seqIndex_of h0 h5] at h1
      exact Option.some.inj h1
    exact item_listR pl.isList h0 (by omega) (by rw [hj]; simpa using ew) fin hs
  · have hj : (i + (its.toArray.size : Int)).toNat = j := by
      rw [seqIndex_neg (by omega) h4] at h1
      rw [List.size_toArray, ← hl]
      exact Option.some.inj h1
    exact subscriptTail_builtinR (x := w) pl.isList.typeIs slot_list_getitem.lookup
      (wpAny_getItem_list_neg (Q := fun r s' => r = w ∧ EP X pins σ Q r s') pl.isList (by omega) (by rw [List.size_toArray] <;> omega) (by omega) (by rw [hj]; simpa using ew) ⟨rfl, fin⟩) hs
theorem ix_tup : IxR X (rIxT X.K) := by
  intro value slice pins s σ H x y v u Q I rx ry h hs
  obtain ⟨p, xs, i, z, rfl, rfl, hq, he, q⟩ := h
  cases rx
  obtain ⟨t, rfl⟩ := ry
  obtain ⟨its, r, pl, hz⟩ := I.tuple hq
  obtain ⟨j, h1, h2, h3, h4, h5⟩ := atI_get he
  obtain ⟨w, ew, rw'⟩ := r.get h2
  have hl := r.length
  have hn := line63
  have fin : EP X pins σ Q w s := ⟨z, H, I, rw', q⟩
  exact subscriptTail_builtinR (x := w) pl.typeIs slot_tuple_getitem.lookup
    (getItem_tuple (j := j) (Q := fun r s' => r = w ∧ EP X pins σ Q r s') pl (by omega) (by omega) (by rw [List.size_toArray, ← hl]; exact h1) (by simpa using ew) ⟨rfl, fin⟩) hs
theorem slice_bounds (lo hi : Option Int) (n : Nat) : (sliceBounds lo hi none n).1 = ((HT.sIx n 0 lo : Nat) : Int) ∧ (sliceBounds lo hi none n).2.1 = ((HT.sIx n n hi : Nat) : Int) ∧ (sliceBounds lo hi none n).2.2 = 1 := by
  refine ⟨?_, ?_, rfl⟩
  · cases lo with
    | none => simp [sliceBounds, HT.sIx]
    | some i =>
      simp only [sliceBounds, HT.sIx, Option.getD_none, show (1 : Int) > 0 by decide, if_true]
      by_cases h : i < 0
      · simp only [h, if_true] <;> omega
      · simp only [h, if_false] <;> omega
  · cases hi with
    | none => simp [sliceBounds, HT.sIx]
    | some i =>
      simp only [sliceBounds, HT.sIx, Option.getD_none, show (1 : Int) > 0 by decide, if_true]
      by_cases h : i < 0
      · simp only [h, if_true] <;> omega
      · simp only [h, if_false] <;> omega
theorem slicePick_cut (its : List Value) (lo hi : Option Int) : slicePick its.toArray lo hi none = ((its.drop (HT.sIx its.length 0 lo)).take (HT.sIx its.length its.length hi - HT.sIx its.length 0 lo)).toArray := by
  obtain ⟨h1, h2, h3⟩ := slice_bounds lo hi its.toArray.size
  unfold slicePick
  rw [h1, h2, h3]
  simp only [sliceRange_one, pick_run, List.size_toArray] <;> rfl
def rSlL (K : PySem.W.Frag) : V → Option Int → Option Int → Hp → VK → Prop := fun x lo hi H Q => ∃ a xs, x = .ref a ∧ SqL K H a xs ∧ ∀ p, H p = none → Q (.ref p) (upd H p (.lst (cutV xs lo hi)))
theorem sl_list : SlR X (rSlL X.K) := by
  intro pins s σ H x v vl vu lo hi sl Q I rx hs pl pu h
  obtain ⟨a, xs, rfl, hx, q⟩ := h
  cases rx
  obtain ⟨its, r, ht, hz⟩ := I.list hx
  have hlen := r.length
  refine ⟨"list", _, slot_list_getitem.lookup, ht.isList.typeIs, ?_⟩
  refine wpAny_getItem_list_slice ht.isList hs pl pu .none (by simp) ?_ (by rw [List.size_toArray] <;> omega)
  rw [slicePick_cut, ← hlen]
  refine ⟨.ref s.heap.objs.size, _, I.laid (t' := s.toks) (o := .lst (cutV xs lo hi)) (fun b ob q => Heap.get?_push_of_some _ q) (Nat.le_refl _) ?_, rfl, q _ (I.hok.fresh (Nat.le_refl _))⟩
  exact ⟨Nat.le_trans (cutV_length xs lo hi) hz, _, 0, (r.drop (HT.sIx xs.length 0 lo)).take (HT.sIx xs.length xs.length hi - HT.sIx xs.length 0 lo), Heap.get?_push_size _ rfl⟩
theorem call_list_of : CallR X (.type "list") (fun xs H Q => ∃ p ys, xs = [.ref p] ∧ (SqL X.K H p ys ∨ SqT X.K H p ys) ∧ ∀ l, H l = none → Q (.ref l) (upd H l (.lst ys))) := by
  intro pins s σ H xs us Q I r h
  obtain ⟨p, ys, rfl, hq, q⟩ := h
  obtain ⟨u, rfl, rx⟩ := vals1 r
  cases rx
  have fin : ∀ (its : List Value), Vals ys its → ys.length ≤ sizeLine → ∀ (h' : Heap) (c' : Nat), (∀ b o', s.heap.get? b = some o' → h'.get? b = some o') →
      h'.get? s.heap.objs.size = some { cls := .type "list", dict := none, data := .seq its.toArray c', slots := #[] } → EP X pins σ Q (.ref s.heap.objs.size) { s with heap := h' } := fun its r' hz h' c' kp e =>
    ⟨.ref s.heap.objs.size, _, I.laid (t' := s.toks) kp (Nat.le_refl _) (show ObjOk X.prog X.w _ h' _ (.lst ys) from ⟨hz, its, c', r', e⟩), rfl, q _ (I.hok.fresh (Nat.le_refl _))⟩
  rcases hq with hq | hq
  · obtain ⟨its, r', pl, hz⟩ := I.list hq
    have hlen := r'.length
    obtain ⟨o, ho, hc, n, hd⟩ := pl.isList
    exact call_list_seq p (.inl rfl) ho hc hd (fun h' c' kp e => fin its r' hz h' c' kp e) (by simp only [List.size_toArray] <;> omega)
  · obtain ⟨its, r', pl, hz⟩ := I.tuple hq
    have hlen := r'.length
    obtain ⟨o, ho, hc, n, hd⟩ := pl
    exact call_list_seq p (.inr rfl) ho hc hd (fun h' c' kp e => fin its r' hz h' c' kp e) (by simp only [List.size_toArray] <;> omega)
def tyV (K : PySem.W.Frag) (T : String) (x : V) (H : Hp) : Prop := match x with
  | .str _ => T = "str"
  | .int _ => T = "int"
  | .ref p => (T = "list" ∧ ∃ xs, SqL K H p xs) ∨ (T = "tuple" ∧ ∃ o, K.lookup p = some o ∧ o.cls = .type "tuple" ∧ o.dict = none) ∨
      (T = "dict" ∧ ((∃ kvs, H p = some (.dK kvs)) ∨ ∃ kvs, H p = some (.dT kvs))) ∨ (T = "set" ∧ ∃ S n, H p = some (.set S n))
  | _ => False
theorem tyV_is {pins : List (Addr × Obj)} {σ : St} {H : Hp} {s : Shared} {T : String} {x : V} {v : Value} (I : Inv X pins σ H s) (r : RelV x v) (ty : tyV X.K T x H) :
    s.TypeIs v T ∧ ∀ a, v = .ref a → ∃ ob, s.heap.get? a = some ob ∧ ob.dict = none := by
  cases x with
  | str z =>
    obtain ⟨t, rfl⟩ := r
    cases (show T = "str" from ty)
    exact ⟨typeIs_str s z t, fun _ e => nomatch e⟩
  | int i =>
    obtain ⟨t, rfl⟩ := r
    cases (show T = "int" from ty)
    exact ⟨typeIs_int s i t, fun _ e => nomatch e⟩
  | ref p =>
    cases r
    rcases ty with ⟨rfl, xs, hq⟩ | ⟨rfl, o, hk, hc, hd⟩ | ⟨rfl, hk⟩ | ⟨rfl, S, n, hk⟩
    · obtain ⟨its, _, pl, _⟩ := I.list hq
      refine ⟨pl.isList.typeIs, fun a e => ?_⟩
      cases e
      obtain ⟨o, n, e, c, hd, _⟩ := pl
      exact ⟨o, e, hd⟩
    · refine ⟨⟨o, I.kIn p o hk, hc⟩, fun a e => ?_⟩
      cases e
      exact ⟨o, I.kIn _ o hk, hd⟩
    · have z : ∃ o, s.heap.get? p = some o ∧ o.ExactDict := by
        rcases hk with ⟨kvs, hk⟩ | ⟨kvs, hk⟩
        · obtain ⟨_, _, _, _, o, _, _, e, ex, _⟩ := I.hok p _ hk
          exact ⟨o, e, ex⟩
        · obtain ⟨_, _, _, _, o, _, _, e, ex, _⟩ := I.hok p _ hk
          exact ⟨o, e, ex⟩
      obtain ⟨o, e, ex⟩ := z
      refine ⟨⟨o, e, ex.1⟩, fun a e2 => ?_⟩
      cases e2
      exact ⟨o, e, ex.2.1⟩
    · obtain ⟨o, _, _, _, e, ex, _⟩ := I.hok p _ hk
      refine ⟨⟨o, e, ex.1⟩, fun a e2 => ?_⟩
      cases e2
      exact ⟨o, e, ex.2.1⟩
  | _ => exact False.elim ty
variable {o e : Expr} {es : List Expr} {to : TE} {t : TA} {name : Str} {apos cpos : Pos} {T id : String} {r : V → List V → Hp → VK → Prop}
/- xs.append(e), list.index on a module's tuple .. are MtR facts of 06m -/
end
end L2
namespace L2
open PySem PySem.Spec PyProof.Rows
def MtM (X : Cx) (id : String) (r : V → List V → Hp → VK → Prop) : Prop :=
  ∀ (pins : List (Addr × Obj)) (s : Shared) (σ : St) (H : Hp) (x : V) (xs : List V) (v : Value) (us : List Value) (Q : VK), Inv X pins σ H s → RelV x v → Vals xs us → r x xs H Q →
    wpAny (model X.prog X.w) X.A (call (.builtin id) (v :: us)) (EP X pins σ Q) X.xe s
theorem Vals.one : ∀ {x : V} {us : List Value}, Vals [x] us → ∃ u, us = [u] ∧ RelV x u
  | _, _, .cons r .nil => ⟨_, rfl, r⟩
theorem Vals.two : ∀ {x y : V} {us : List Value}, Vals [x, y] us → ∃ u v, us = [u, v] ∧ RelV x u ∧ RelV y v
  | _, _, _, .cons r (.cons q .nil) => ⟨_, _, rfl, r, q⟩
section
variable {X : Cx} {pins : List (Addr × Obj)} {σ : St} {H : Hp} {s : Shared} {l b : Addr} {xs ys zs : List V}
theorem Inv.lset {its its' : List Value} {n : Nat} {f : Array Value → Array Value} {t' : Nat} (I : Inv X pins σ H s) (hH : H l = some (.lst xs))
    (e : s.heap.get? l = some { cls := .type "list", data := .seq its.toArray n }) (hf : f its.toArray = its'.toArray) (hv : Vals ys its') (hz : ys.length ≤ sizeLine) :
    Inv X pins σ (upd H l (.lst ys)) { s with heap := s.heap.update l (Obj.mapSeq f), toks := t' } := by
  have q := PySem.IsL.update e f
  rw [hf] at q
  refine I.write (x := l) (e := l) (by rw [hH]; exact trivial) (.inl rfl) (fun b' u hb hu => (Heap.get?_update_other s.heap (Obj.mapSeq f) (Ne.symm hb)).trans hu) ⟨_, q⟩ ?_
  exact ⟨hz, its', _, hv, q⟩
theorem Inv.lnew {its : List Value} {t' : Nat} (I : Inv X pins σ H s) (hv : Vals ys its) (hz : ys.length ≤ sizeLine) :
    Inv X pins σ (upd H s.heap.objs.size (.lst ys)) { s with heap := s.heap.push { cls := .type "list", data := .seq its.toArray }, toks := t' } :=
  I.laid (fun _ _ q => Heap.get?_push_of_some _ q) (Nat.le_refl _) ⟨hz, its, 0, hv, Heap.get?_push_size _ rfl⟩
theorem Inv.lstM (I : Inv X pins σ H s) (hH : H l = some (.lst xs)) : xs.length ≤ sizeLine ∧ ∃ (its : List Value) (n : Nat), Vals xs its ∧ xs.length = its.length ∧ s.heap.get? l = some { cls := .type "list", data := .seq its.toArray n } := by
  obtain ⟨z, its, n, r, e⟩ := I.hok l _ hH
  exact ⟨z, its, n, r, r.length, e⟩
theorem notLongL {n : Nat} (h : n ≤ sizeLine) : Builtin.List.listTooLong n = false := by
  unfold Builtin.List.listTooLong
  exact decide_eq_false (by omega)
end
section
variable {X : Cx}
def rAppend : V → List V → Hp → VK → Prop := fun x vs H Q => ∃ l xs y, x = .ref l ∧ vs = [y] ∧ H l = some (.lst xs) ∧ xs.length < sizeLine ∧ Q .non (upd H l (.lst (xs ++ [y])))
theorem mt_append : MtM X "list.append" rAppend := by
  intro pins s σ H x vs v us Q I rx rv h
  obtain ⟨l, xs, y, rfl, rfl, hH, hz, q⟩ := h
  cases rx
  obtain ⟨u, rfl, ru⟩ := rv.one
  obtain ⟨z, its, n, r, hl, e⟩ := I.lstM hH
  refine call_meets F.slot_list_append ⟨_, e, rfl⟩ F.entry_list_append (F.args_list_append_2 _ _) (PySem.list_append l its.toArray n u (by rw [List.size_toArray]; omega)) ⟨e, ?_⟩
  refine ⟨.non, _, I.lset (its' := its ++ [u]) hH e (by simp) (r.append (.cons ru .nil)) ?_, rfl, q⟩
  rw [List.length_append, List.length_singleton]
  omega
end
section
variable {prog : Program} {w : World} {A : Around} {E : Value → Shared → Prop} {s : Shared}
end
section
variable {X : Cx}
end
end L2
namespace L2
open PySem PySem.Spec PyProof.Rows
section
variable {κ : Type} [DecidableEq κ]
def valV (kvs : List (κ × V)) (k : κ) : Option V := (kvs.find? fun kv => decide (kv.1 = k)).map (·.2)
theorem valV_pos {p : κ × V} {r : List (κ × V)} {k : κ} (e : p.1 = k) : valV (p :: r) k = some p.2 := by simp [valV, List.find?_cons, e]
theorem valV_neg {p : κ × V} {r : List (κ × V)} {k : κ} (e : ¬ p.1 = k) : valV (p :: r) k = valV r k := by simp [valV, List.find?_cons, e]
theorem RelO.isSome_eq {o : Option V} {u : Option Value} (r : RelO o u) : o.isSome = u.isSome := by
  cases o with
  | none => cases u with
    | none => rfl
    | some _ => exact (show False from r).elim
  | some _ => cases u with
    | none => exact (show False from r).elim
    | some _ => rfl
theorem KV.val {kvs : List (κ × V)} {vs : List (κ × Value)} (r : KV kvs vs) (k : κ) : RelO (valV kvs k) (valueAt vs k) := by
  unfold KV at r
  induction r with
  | nil => exact True.intro
  | @cons p q ps qs h t ih =>
    obtain ⟨h1, h2⟩ := h
    by_cases e : p.1 = k
    · have e' : q.1 = k := h1.symm.trans e
      have b : valueAt (q :: qs) k = some q.2 := by simp [valueAt, List.find?_cons, e']
      rw [valV_pos e, b]; exact h2
    · have e' : ¬ q.1 = k := fun z => e (h1.trans z)
      have b : valueAt (q :: qs) k = valueAt qs k := by simp [valueAt, List.find?_cons, e']
      rw [valV_neg e, b]; exact ih
theorem KV.length {kvs : List (κ × V)} {vs : List (κ × Value)} (r : KV kvs vs) : kvs.length = vs.length := Paired.length r
end
theorem kV_is {P : Program} {w : World} {k : Key} {u : Value} (r : RelV (kV k) u) : (mixKind P w).is k u = true := by
  cases k with
  | inl i => obtain ⟨t, e⟩ := (show ∃ t, u = Value.int i t from r); subst e; exact mixKind_int P w i t
  | inr x => obtain ⟨t, e⟩ := (show ∃ t, u = Value.str x t from r); subst e; exact mixKind_str P w x t
theorem items_are {P : Program} {w : World} : ∀ {ks : List Key} {us : List Value}, Vals (ks.map kV) us → ItemsAre (mixKind P w) ks us
  | [], _, r => by rw [List.map_nil] at r; cases r; exact .nil
  | k :: ks, _, r => by
    rw [List.map_cons] at r
    cases r with
    | cons h t => exact .cons (kV_is h) (items_are t)
abbrev KT (H : Hp) : List (List Key × V) → List (List Key × Addr × Value) → Prop := Paired fun p q => p.1 = q.1 ∧ H q.2.1 = some (.tup (p.1.map kV)) ∧ RelV p.2 q.2.2
theorem KT.val {H : Hp} {kvs : List (List Key × V)} {xs : List (List Key × Addr × Value)} (r : KT H kvs xs) (k : List Key) : RelO (valV kvs k) ((atKey xs k).map (·.2)) := by
  induction r with
  | nil => exact True.intro
  | @cons p q ps qs h t ih =>
    obtain ⟨h1, _, h2⟩ := h
    by_cases e : p.1 = k
    · have e' : q.1 = k := h1.symm.trans e
      have b : atKey (q :: qs) k = some q.2 := by simp [atKey, List.find?_cons, e']
      rw [valV_pos e, b]; exact h2
    · have e' : ¬ q.1 = k := fun z => e (h1.trans z)
      have b : atKey (q :: qs) k = atKey qs k := by simp [atKey, List.find?_cons, e']
      rw [valV_neg e, b]; exact ih
section
variable {P : Program} {w : World} {H : Hp} {h : Heap} {a : Addr}
theorem rd_of {u : HO} (ok : HOk P w H h) (e : Rd H a u) : ObjOk P w H h a u := e.ok ok
theorem dk_rd {kvs : List (Key × V)} (ok : HOk P w H h) (e : Rd H a (.dK kvs)) : kvs.length ≤ sizeLine ∧ (a == sysModules) = false ∧ ∃ vs, KV kvs vs ∧ h.DictOf (mixKind P w) a vs :=
  show ObjOk P w H h a (.dK kvs) from rd_of ok e
theorem dk_of {kvs : List (Key × V)} (ok : HOk P w H h) (e : H a = some (.dK kvs)) : kvs.length ≤ sizeLine ∧ (a == sysModules) = false ∧ ∃ vs, KV kvs vs ∧ h.DictOf (mixKind P w) a vs := dk_rd ok (.inl e)
theorem key_of {ks : List Key} (ok : HOk P w H h) (e : H a = some (.tup (ks.map kV))) : (tupleKind (mixKind P w)).is h ks a := by
  obtain ⟨_, its, r, o, h1, h2, n, h3⟩ := (show ObjOk P w H h a (.tup (ks.map kV)) from ok a _ e)
  exact ⟨o, its.toArray, n, h1, h2, h3, by simpa using items_are r⟩
theorem dt_rd {kvs : List (List Key × V)} (ok : HOk P w H h) (e : Rd H a (.dT kvs)) : kvs.length ≤ sizeLine ∧ (a == sysModules) = false ∧
    ∃ xs, KT H kvs xs ∧ h.DictOfH (tupleKind (mixKind P w)) a xs := by
  obtain ⟨z, y, xs, r, o, es, ep, h1, h2, h3, h4, h5⟩ := (show ObjOk P w H h a (.dT kvs) from rd_of ok e)
  refine ⟨z, y, xs, r, o, es, ep, h1, h2, h3, h4, fun x hx => ?_, h5⟩
  have all : ∀ {l : List (List Key × V)} {m : List (List Key × Addr × Value)}, KT H l m → ∀ x ∈ m, (tupleKind (mixKind P w)).is h x.1 x.2.1 := by
    intro l m q
    induction q with
    | nil => intro x hx; exact nomatch hx
    | @cons p q ps qs hq t ih =>
      intro x hx
      rcases List.mem_cons.mp hx with e | hx
      · subst e
        exact key_of ok (by rw [← hq.1]; exact hq.2.1)
      · exact ih x hx
  exact all r x hx
theorem dt_of {kvs : List (List Key × V)} (ok : HOk P w H h) (e : H a = some (.dT kvs)) : kvs.length ≤ sizeLine ∧ (a == sysModules) = false ∧
    ∃ xs, KT H kvs xs ∧ h.DictOfH (tupleKind (mixKind P w)) a xs := dt_rd ok (.inl e)
end
def DGet (H : Hp) (a : Addr) (y : V) (r : Option V) : Prop :=
  (∃ kvs k, Rd H a (.dK kvs) ∧ y = kV k ∧ r = valV kvs k) ∨ ∃ kvs k b, Rd H a (.dT kvs) ∧ y = .ref b ∧ H b = some (.tup (k.map kV)) ∧ r = valV kvs k
theorem DGet.k {H : Hp} {a : Addr} {kvs : List (Key × V)} {k : Key} (e : H a = some (.dK kvs)) : DGet H a (kV k) (valV kvs k) := .inl ⟨kvs, k, .inl e, rfl, rfl⟩
theorem DGet.t {H : Hp} {a b : Addr} {kvs : List (List Key × V)} {k : List Key} (e : H a = some (.dT kvs)) (eb : H b = some (.tup (k.map kV))) : DGet H a (.ref b) (valV kvs k) := .inr ⟨kvs, k, b, .inl e, rfl, eb, rfl⟩
section
variable {X : Cx} {pins : List (Addr × Obj)} {σ : St} {H : Hp} {s : Shared} {a : Addr} {y v : V} {u r : Value} {o : Option V} {A : Around} {E : Value → Shared → Prop}
theorem d_getItem {Q : Value → Shared → Prop} (hu : A.units + 1 < cLine) (I : Inv X pins σ H s) (g : DGet H a y (some v)) (ry : RelV y u) (h : ∀ w' s', Inv X pins σ H s' → RelV v w' → Q w' s') :
    wpAny (model X.prog X.w) A (getItem (.ref a) u) Q E s := by
  rcases g with ⟨kvs, k, e, ey, l⟩ | ⟨kvs, k, b, e, ey, eb, l⟩
  · subst ey
    obtain ⟨z, hd, vs, rel, dd⟩ := dk_rd I.hok e
    obtain ⟨w', hw, rw'⟩ := RelO.some_of (v := v) (o := valueAt vs k) (by rw [l]; exact rel.val k)
    exact wpAny_getItem_of (kV_is ry) dd.mapOf hw (h w' _ (I.tok _) rw')
  · subst ey
    cases (show u = Value.ref b from ry)
    obtain ⟨z, hd, xs, rel, dd⟩ := dt_rd I.hok e
    obtain ⟨w', hw, rw'⟩ := RelO.some_of (v := v) (o := (atKey xs k).map (·.2)) (by rw [l]; exact rel.val k)
    obtain ⟨p, hp, hp2⟩ := Option.map_eq_some_iff.mp hw
    refine wpAny_getItem_heap (tupleKind_room_in1 hu) (key_of I.hok eb) dd hp ?_
    rw [hp2]
    exact h w' _ (I.tok _) rw'
theorem d_in {Q : Value → Shared → Prop} (hu : A.units + 1 < cLine) (I : Inv X pins σ H s) (g : DGet H a y o) (ry : RelV y u) (h : ∀ s', Inv X pins σ H s' → Q (.bool o.isSome) s') :
    wpAny (model X.prog X.w) A (compareOp .In u (.ref a)) Q E s := by
  rcases g with ⟨kvs, k, e, ey, l⟩ | ⟨kvs, k, b, e, ey, eb, l⟩
  · subst ey
    obtain ⟨z, hd, vs, rel, dd⟩ := dk_rd I.hok e
    refine wpAny_in_of (kV_is ry) hd dd.mapOf ?_
    rw [← (rel.val k).isSome_eq, ← l]
    exact h _ (I.tok _)
  · subst ey
    cases (show u = Value.ref b from ry)
    obtain ⟨z, hd, xs, rel, dd⟩ := dt_rd I.hok e
    refine wpAny_in_heap (tupleKind_room_in1 hu) (key_of I.hok eb) hd dd ?_
    have q := (rel.val k).isSome_eq
    rw [Option.isSome_map] at q
    rw [← q, ← l]
    exact h _ (I.tok _)
theorem d_notIn {Q : Value → Shared → Prop} (hu : A.units + 1 < cLine) (I : Inv X pins σ H s) (g : DGet H a y o) (ry : RelV y u) (h : ∀ s', Inv X pins σ H s' → Q (.bool (!o.isSome)) s') :
    wpAny (model X.prog X.w) A (compareOp .NotIn u (.ref a)) Q E s := by
  rcases g with ⟨kvs, k, e, ey, l⟩ | ⟨kvs, k, b, e, ey, eb, l⟩
  · subst ey
    obtain ⟨z, hd, vs, rel, dd⟩ := dk_rd I.hok e
    refine wpAny_notIn_of (kV_is ry) hd dd.mapOf ?_
    rw [← (rel.val k).isSome_eq, ← l]
    exact h _ (I.tok _)
  · subst ey
    cases (show u = Value.ref b from ry)
    obtain ⟨z, hd, xs, rel, dd⟩ := dt_rd I.hok e
    refine wpAny_notIn_heap (tupleKind_room_in1 hu) (key_of I.hok eb) hd dd ?_
    have q := (rel.val k).isSome_eq
    rw [Option.isSome_map] at q
    rw [← q, ← l]
    exact h _ (I.tok _)
end
section
variable {X : Cx} {pins : List (Addr × Obj)} {σ : St} {H : Hp} {s : Shared} {a : Addr} {kvs : List (Key × V)} {k : Key} {u : Value} {A : Around} {E : Value → Shared → Prop}
theorem d_len {Q : Value → Shared → Prop} (I : Inv X pins σ H s) (e : Rd H a (.dK kvs)) (h : ∀ t s', Inv X pins σ H s' → Q (.int kvs.length t) s') : wpAny (model X.prog X.w) A (call (.builtin "len") [.ref a]) Q E s := by
  obtain ⟨z, hd, vs, rel, dd⟩ := dk_rd I.hok e
  refine call_len_dict hd dd (by rw [← rel.length]; rw [sizeLine_eq] at z; omega) ?_
  rw [← rel.length]
  exact h _ _ (I.tok _)
theorem d_truth {Q : Bool → Shared → Prop} (I : Inv X pins σ H s) (e : Rd H a (.dK kvs)) (h : ∀ s', Inv X pins σ H s' → Q (!kvs.isEmpty) s') : wpAny (model X.prog X.w) A (truthy (.ref a)) Q E s := by
  obtain ⟨z, hd, vs, rel, dd⟩ := dk_rd I.hok e
  refine wpAny_truthy_dict hd dd (by rw [← rel.length]; rw [sizeLine_eq] at z; omega) ?_
  have q : kvs.isEmpty = vs.isEmpty := by cases rel <;> rfl
  rw [← q]
  exact h _ (I.tok _)
end
theorem dict_typeIs {X : Cx} {pins : List (Addr × Obj)} {σ : St} {H : Hp} {s : Shared} {a : Addr} {y : V} {o : Option V} (I : Inv X pins σ H s) (g : DGet H a y o) : s.TypeIs (.ref a) "dict" := by
  rcases g with ⟨kvs, k, e, _, _⟩ | ⟨kvs, k, b, e, _, _, _⟩
  · obtain ⟨_, _, vs, _, dd⟩ := dk_rd I.hok e
    exact dd.typeIs
  · obtain ⟨_, _, xs, _, dd⟩ := dt_rd I.hok e
    exact dd.typeIs
section
variable {X : Cx} {o i e value : Expr} {pos pos' tpos : Pos} {td ty tv : TE}
end
section
variable {X : Cx} {pos : Pos}
end
structure M1 (X : Cx) (o : Expr) (m : Str) (apos : Pos) (e : Expr) (cpos : Pos) : Prop where
  base : attributeBase o m X.env (eval o X.env) = eval o X.env
  few : ((backTo cpos (starEach [e] X.env)).all (fun x => !x.1) && (backToKw cpos (keywordEach [] X.env)).all (fun x => x.1.isSome)
    && decide (([e] : List Expr).length + ([] : List Keyword).length + (if ([] : List Keyword).isEmpty then 0 else 1) < 30)) = true
  line : (apos.endLine == cpos.line) = true
  trees : backTo cpos (starEach [e] X.env) = [(false, eval e X.env)]
structure M2 (X : Cx) (o : Expr) (m : Str) (apos : Pos) (e f : Expr) (cpos : Pos) : Prop where
  base : attributeBase o m X.env (eval o X.env) = eval o X.env
  few : ((backTo cpos (starEach [e, f] X.env)).all (fun x => !x.1) && (backToKw cpos (keywordEach [] X.env)).all (fun x => x.1.isSome)
    && decide (([e, f] : List Expr).length + ([] : List Keyword).length + (if ([] : List Keyword).isEmpty then 0 else 1) < 30)) = true
  line : (apos.endLine == cpos.line) = true
  trees : backTo cpos (starEach [e, f] X.env) = [(false, eval e X.env), (false, eval f X.env)]
section
variable {X : Cx} {pins : List (Addr × Obj)} {σ : St} {H : Hp} {s : Shared} {a : Addr} {y d : V} {u r : Value} {o : Option V} {A : Around} {E : Value → Shared → Prop}
end
section
variable {X : Cx} {o e f : Expr} {apos cpos : Pos} {td ty tx : TE}
end
section
variable {X : Cx} {pins : List (Addr × Obj)} {σ : St} {H : Hp} {s : Shared} {a : Addr} {kvs : List (Key × V)} {A : Around} {E : Value → Shared → Prop}
end
section
variable {X : Cx} {pins : List (Addr × Obj)} {σ : St} {H : Hp} {s : Shared} {a : Addr} {y : V} {u : Value} {A : Around} {E : Value → Shared → Prop}
end
end L2
namespace Att
open PySem PySem.W PySem.Calls PyProof.Rows
theorem ints_of_wellAll {P : Params} {h : Heap} : ∀ (ns : List Int) (vs : List Value), WellAll P h vs (ns.map WData.int) → IntsAre vs ns := by
  intro ns
  induction ns with
  | nil =>
    intro vs w
    rw [List.map_nil] at w
    cases w
    exact .nil
  | cons n ns ih =>
    intro vs w
    rw [List.map_cons] at w
    cases w with
    | cons a b =>
      cases a
      exact .cons _ _ (ih _ b)
theorem script_of {l : OpenLaw} {n : Nat} (hn : l.most = some n) {P : Params} {h : Heap} {args : List WData} {vals : List Value}
    (hpre : l.row.toRowW.claim.pre args = true) (hwl : WellAll P h vals args) :
    ∃ a vs ns, vals = [Value.ref a] ∧ args = [WData.list (ns.map WData.int)] ∧ h.get? a = some { cls := .type "list", data := .seq vs.toArray } ∧ IntsAre vs ns ∧ ns.length ≤ n := by
  have hsh : WShape.hasAll [] args [.list .int] = true := (pre_splitW hpre).1
  have hc : l.pre.holds [] { args := args } = true := (pre_splitW hpre).2
  obtain ⟨d, r, rfl, h1, h2⟩ := hasAllW_cons hsh
  obtain rfl := hasAllW_nil h2
  obtain ⟨xs, rfl, h3⟩ := hasW_list h1
  obtain ⟨ns, rfl⟩ := items_int h3
  have hlen : ns.length ≤ n := by
    unfold OpenLaw.pre at hc
    have h4 : (WTm.not (.lt (.lit (.int (n : Int))) (.len (.arg 0)))).holds [] { args := [.list (ns.map .int)] } = true := by
      have h4 := (holds_andW hc).1
      rw [hn] at h4
      exact h4
    have h5 := condW_of h4 (w_not (w_lt w_lit (w_len_list (w_arg rfl))))
    rw [List.length_map] at h5
    refine Nat.le_of_not_lt fun q => ?_
    have q' : (n : Int) < ((ns.length : Nat) : Int) := by omega
    first
      | (rw [decide_eq_true q'] at h5; exact absurd h5 (by decide))
      | (simp at h5; omega)
  cases hwl with
  | cons w1 w2 =>
    cases w2
    cases w1 with
    | list ho hall => exact ⟨_, _, ns, rfl, rfl, ho, ints_of_wellAll ns _ hall, hlen⟩
theorem post_true (l : OpenLaw) (args : List WData) : l.row.toRowW.claim.post args (.bool true) args = true :=
  postW_of (r := l.row.toRowW) (X := (true == true))
    (show WShape.has [] (.bool true) .bool = true by first | rfl | decide | simp [WShape.has, WShape.arms, WShape.armsAll])
    (show (WTm.eq .res (.lit (.bool true))).value [] { args := args, res := some (.bool true), after := args } = some (.bool (true == true)) from w_eq_bool (w_res rfl) w_lit) rfl
theorem attach_call {l : OpenLaw} {n : Nat} {q : Program} {loose : List Str} {XP : (Str → Option Value) → Heap → Prop} {YP : World → Heap → Prop} {d : DefRec}
    (hn : l.most = some n) (hdf : d.params.defaults = [])
    (call : ∀ (w : World) (s₀ s₁ : Shared) (mg mb : Str → Option Value) (fa : Addr) (o : Obj) (pm cd doc : Value) (a : Addr) (vs : List Value) (ns : List Int),
      Ground q loose [] XP w s₀ mg mb s₁.heap → YP w s₁.heap →
      s₁.heap.get? fa = some o → o.data = .func (docDef d.name d.params d.body d.scope pm cd doc) → s₁.heap.CodeRec cd d.name → mg d.name = some (.ref fa) →
      s₁.heap.get? a = some { cls := .type "list", data := .seq vs.toArray } → IntsAre vs ns → ns.length ≤ n → s₁.gens = #[] →
      codeAny (model l.prog w) callerA (.call (.ref fa) ⟨[.ref a], []⟩) (fun r s' => r = .ok (.ret (.bool true)) ∧ OldK s₁.heap s'.heap ∧ s'.os = s₁.os ∧ AllBare s'.gens) s₁) :
    WalkO q loose XP YP l.row.toRowW d [] (fun f vs => PySem.call f vs) := by
  intro w s₀ s₁ mg mb G Y fa o pm cd doc dV kV ho hd hcd hD hmg hg args vals as hpre hlay hrd hwl hlo
  obtain rfl : dV = .none := Dflts.none hD hdf
  obtain rfl : kV = .none := Dflts.noKw hD
  obtain ⟨a, vs, ns, rfl, rfl, hobj, hints, hlen⟩ := script_of hn hpre hwl
  refine enter_call (codeAny_mono (call w s₀ s₁ mg mb fa o pm cd doc a vs ns G Y ho (fd_plain hd) hcd hmg hobj hints hlen hg) fun r s' hq => ?_)
  obtain ⟨rfl, h2, h3, h4⟩ := hq
  exact ⟨.inl ⟨.bool true, .bool true, [], rfl, fun _ => rfl, .bool true, post_true l _, fun _ => ⟨List.Pairwise.nil, fun _ hm => (nomatch hm)⟩⟩, h2, h3, h4⟩
section
variable {prog : Program} {w : World} {A : Around} {E : Value → Shared → Prop} {s : Shared} {K : Frag}
end
end Att
namespace L2
open PySem PySem.Spec PyProof.Rows
theorem vals_ints : ∀ {vs : List Value} {ns : List Int}, IntsAre vs ns → Vals (ns.map V.int) vs
  | _, _, .nil => .nil
  | _, _, .cons n t h => .cons ⟨t, rfl⟩ (vals_ints h)
def Only (H : Hp) : Prop := ∀ b, H b = none ∨ ∃ o xs, H b = some (.frz o (.lst xs))
theorem law_call {P : Program} {w : World} {K : PySem.W.Frag} {mg mb : Str → Option Value} {CX : CXT} {k : Nat} {fa a : Addr} {fd : FuncData} {x : Str} {sp : Sp} {s₁ : Shared} {vs : List Value} {ns : List Int}
    (KX : K.In s₁.heap) (hns : s₁.heap.Ns mainGlobals mg) (hb : s₁.heap.Ns builtinsNs mb) (hbb : ∀ x : Str, x ≠ "__name__" → mb x = bootBuiltins x) (hlim : s₁.heap.NoLimit) (hg : s₁.gens = #[])
    (ha : s₁.heap.get? a = some { cls := .type "list", data := .seq vs.toArray }) (hi : IntsAre vs ns) (hl : ns.length ≤ sizeLine) (hr : Room k callerA)
    (F : ∀ base : Heap, K.In base → base.Ns mainGlobals mg → FnOk P w K mg base CX k fa fd [x] sp) (hbind : ∀ (s : Shared) (u : Value), BindsTo s fd ⟨[u], []⟩ [(x, u)])
    (hsp : ∀ H : Hp, Only H → SqL K H a (ns.map V.int) → sp [.ref a] H (fun v _ => v = .bl true) fun _ _ _ => False)
    (hCX : ∀ H e s', CX [] H s₁ (fun _ _ _ => False) e s' → False) :
    codeAny (model P w) callerA (.call (.ref fa) ⟨[.ref a], []⟩) (fun r s' => r = .ok (.ret (.bool true)) ∧ OldK s₁.heap s'.heap ∧ s'.os = s₁.os ∧ AllBare s'.gens) s₁ := by
  have rv := vals_ints hi
  have lenV := hi.length
  have core : ∀ H : Hp, Only H → SqL K H a (ns.map V.int) → HOk P w H s₁.heap → (∀ b, H b ≠ none → b = a) → (H a ≠ none → K.lookup a = none) →
      codeAny (model P w) callerA (.call (.ref fa) ⟨[.ref a], []⟩) (fun r s' => r = .ok (.ret (.bool true)) ∧ OldK s₁.heap s'.heap ∧ s'.os = s₁.os ∧ AllBare s'.gens) s₁ := by
    intro H hO hS hok hA hK
    have base_of : ∀ {b : Addr} {o : Obj}, s₁.heap.get? b = some o → H b = none → (hidT s₁.heap H).get? b = some o := fun e n => hidT_get e n
    have noA : ∀ {b : Addr} {o : Obj} {es : Array DictEntry} {ep : Nat}, s₁.heap.get? b = some o → o.data = .dict es ep → H b = none := fun {b o es ep} e d => by
      cases q : H b with
      | none => rfl
      | some u =>
        have e' : b = a := hA b (by rw [q]; simp)
        subst e'
        rw [ha] at e; cases e
        have d' : Data.seq vs.toArray _ = Data.dict es ep := d
        cases d'
    have nsK : ∀ {b : Addr} {m : Str → Option Value}, s₁.heap.Ns b m → (hidT s₁.heap H).Ns b m := fun {b m} ⟨o, es, ep, e, d, r⟩ => ⟨o, es, ep, base_of e (noA e d), d, r⟩
    have hKb : K.In (hidT s₁.heap H) := fun b o e => base_of (KX b o e) (by
      cases q : H b with
      | none => rfl
      | some u =>
        have e' : b = a := hA b (by rw [q]; simp)
        subst e'
        rw [hK (by rw [q]; simp)] at e; cases e)
    have hM : Mod K mg (hidT s₁.heap H) := ⟨hKb, nsK hns, ⟨mb, nsK hb, hbb⟩, let ⟨mc, h1, h2⟩ := hlim; ⟨mc, nsK h1, h2⟩⟩
    have e0 : Env0 P w K mg (hidT s₁.heap H) callerA [] s₁ H := ⟨rfl, hM, fun b o e => of_hidT e, Nat.le_of_eq (hidT_size _ _), trivial, fun b hb => absurd (show b ∈ ([] : List Addr) from hb) (by simp), hok, .of_eq hg⟩
    refine codeAny_mono ((F _ hKb (nsK hns)).run callerA [] s₁ H ⟨[.ref a], []⟩ [.ref a] [.ref a] _ _ hr e0 (hbind s₁ (.ref a)) (.cons rfl .nil) (hsp H hO hS)) fun r s' h => ?_
    cases r with
    | error e => exact (hCX H e s' h).elim
    | ok fl =>
      cases fl with
      | next => exact False.elim h
      | brk => exact False.elim h
      | cont => exact False.elim h
      | ret u =>
        obtain ⟨v, H', os, bare, un, hok', r', q⟩ := h
        have q' : v = .bl true := q
        subst q'
        obtain rfl : u = Value.bool true := r'
        refine ⟨rfl, OldK.of_keep fun b o e => ?_, os, bare⟩
        cases q : H b with
        | none => exact un.keep b o e q (by intro z; exact absurd (show b ∈ ([] : List Addr) from z) (by simp)) (by simp)
        | some u =>
          rcases hO b with z | ⟨ob, xs, z⟩
          · rw [q] at z; cases z
          · have z2 := un.frzs b ob _ z
            obtain ⟨e1, _⟩ := hok b _ z
            obtain ⟨e2, _⟩ := hok' b _ z2
            rw [e] at e1; cases e1
            exact e2
  cases hk : K.lookup a with
  | some o =>
    have e := KX a o hk
    rw [ha] at e
    cases e
    refine core (fun _ => none) (fun _ => .inl rfl) (.inr ⟨_, vs.toArray, _, hk, rfl, rfl, rfl, by rw [List.size_toArray, lenV]; exact hl, by simpa using rv⟩) (fun b u z => by have z' : (none : Option HO) = some u := z; cases z') (fun b z => absurd rfl z) fun z => absurd rfl z
  | none =>
    refine core (fun b => if b = a then some (.frz { cls := .type "list", data := .seq vs.toArray } (.lst (ns.map V.int))) else none) (fun b => ?_) (.inl (.inr ⟨{ cls := .type "list", data := .seq vs.toArray }, if_pos rfl⟩)) (fun b u z => ?_) (fun b z => ?_) fun _ => hk
    · by_cases hb : b = a
      · exact .inr ⟨_, _, if_pos hb⟩
      · exact .inl (if_neg hb)
    · by_cases hb : b = a
      · have z' := (if_pos hb).symm.trans z
        cases z'
        subst hb
        exact ⟨ha, by rw [List.length_map]; exact hl, vs, _, rv, ha⟩
      · have z' := (if_neg hb).symm.trans z
        cases z'
    · by_cases hb : b = a
      · exact hb
      · exact absurd (if_neg hb) z
end L2
namespace L2
open PySem PySem.Spec PyProof.Rows
theorem walk_of {l : PySem.W.OpenLaw} {n k : Nat} {q : Program} {loose : List Str} {XP : (Str → Option Value) → Heap → Prop} {YP : World → Heap → Prop} {d : DefRec} {K : Params → PySem.W.Frag} {CX : World → CXT} {sp : World → Sp} {x : Str}
    (hn : l.most = some n) (hn2 : n ≤ sizeLine) (hdf : d.params.defaults = []) (hr : Room k callerA)
    (hY : ∀ (w : World) (h : Heap), YP w h → (K w.params).In h)
    (F : ∀ (w : World) (mg : Str → Option Value) (fa : Addr) (h : Heap), (K w.params).In h → h.Ns mainGlobals mg → mg d.name = some (.ref fa) →
      ∃ fd : FuncData, (∀ (s : Shared) (u : Value), BindsTo s fd ⟨[u], []⟩ [(x, u)]) ∧
        ∀ base : Heap, (K w.params).In base → base.Ns mainGlobals mg → FnOk l.prog w (K w.params) mg base (CX w) k fa fd [x] (sp w))
    (hsp : ∀ (w : World) (H : Hp) (a : Addr) (ns : List Int), ns.length ≤ n → Only H → SqL (K w.params) H a (ns.map V.int) → sp w [.ref a] H (fun v _ => v = .bl true) fun _ _ _ => False)
    (hCX : ∀ (w : World) (H : Hp) (s : Shared) (e : Value) (s' : Shared), CX w [] H s (fun _ _ _ => False) e s' → False) :
    PySem.W.WalkO q loose XP YP l.row.toRowW d [] (fun f vs => PySem.call f vs) := by
  refine Att.attach_call hn hdf fun w s₀ s₁ mg mb fa o pm cd doc a vs ns G Y ho hd hcd hmg hobj hints hlen hg => ?_
  have KX := hY w _ Y
  obtain ⟨fd, hb, hF⟩ := F w mg fa _ KX G.T.g hmg
  exact law_call KX G.T.g G.T.b G.T.builtins G.T.nolimit hg hobj hints (Nat.le_trans hlen hn2) hr hF hb (fun H hO hS => hsp w H a ns hlen hO hS) fun H e s' => hCX w H s₁ e s'
end L2
/- THE LAST THEOREM (shape; LID, My.* are yours):
   My.Adr: a structure of the addresses that your layer names (classes, functions); My.Txt K t: a structure (Prop) of the equations over K;
   My.txt_mk : {K} {implicit addresses ..} (e1 : nsIn K mainGlobals "law" = some (some (.ref f))) (e2 : K.lookup f = some ⟨oc, od, .func (fnOf "law" "law" params body scope dV kV doc pm an cdv ct), sl⟩) (e3 : codeIn K cdv "law" = true) .. : ∃ t, My.Txt K t
(the tactic k_is has no namespace: write k_is) -/
namespace L2
open PySem PySem.Spec PyProof.Rows
def defArgs (s : Stmt) : Arguments := match s with
  | .FunctionDef _ a _ _ _ _ _ _ _ _ => a
  | _ => { posonlyargs := [], args := [], vararg := none, kwonlyargs := [], kw_defaults := [], kwarg := none, defaults := [] }
def defBody (s : Stmt) : List Stmt := match s with
  | .FunctionDef _ _ b _ _ _ _ _ _ _ => b
  | _ => []
def defScope (s : Stmt) : Scope := match s with
  | .FunctionDef _ _ _ _ _ _ sc _ _ _ => sc
  | _ => { kind := .function, names := [], isGenerator := false, isCoroutine := false }
abbrev CX0 : CXT := fun _ _ _ _ _ _ => False
abbrev E0 : XK := fun _ _ _ => False
theorem pass0 {X : Cx} : Passes CX0 X E0 := fun _ _ _ _ _ _ _ h => h.elim
structure Fun (K : PySem.W.Frag) (x qual : Str) (st : Stmt) (f : Addr) (fd : FuncData) : Prop where
  ex : ∃ (oc : Value) (od : Option Addr) (kV doc pm : Value) (an : Option Addr) (cdv ct : Value) (osl : Array (Option Value)),
    fd = PySem.W.fnOf x qual (defArgs st) (defBody st) (defScope st) .none kV doc pm an cdv ct ∧ K.lookup f = some ⟨oc, od, .func fd, osl⟩ ∧ PySem.W.codeIn K cdv qual = true
  kp : PySem.W.keepIn K (.ref f) = true
section
variable {P : Program} {w : World} {K : PySem.W.Frag} {mg : Str → Option Value} {base : Heap}
theorem Fun.ok {x qual : Str} {st : Stmt} {f : Addr} {fd : FuncData} {N ps : List Str} {k : Nat} {sp : Sp} (F : Fun K x qual st f fd) (S : FnScope N ps (defScope st)) (len : ∀ vs H Q E, sp vs H Q E → vs.length = ps.length)
    (hbody : ∀ (cdv : Value) (A : Around) (outer : List Env) (s : Shared) (H : Hp) (vs : List V) (Q : VK) (E : XK), Room k (A.deeper (envOfC qual (defScope st) s.heap.objs.size f cdv)) → sp vs H Q E →
      ∃ t, PSs (cxOf CX0 P w K mg base N qual (defScope st) f cdv A outer s H E).nox (defBody st) t ∧ t { nx := fun _ H' => Q .non H', rt := Q } (start N vs) H) : FnOk P w K mg base CX0 (k + 1) f fd ps sp := by
  obtain ⟨oc, od, kV, doc, pm, an, cdv, ct, osl, rfl, lk, hcd⟩ := F.ex
  refine fn_of lk hcd S len fun A outer s H vs Q E hr hsp => ?_
  obtain ⟨t, h, q⟩ := hbody cdv A outer s H vs Q E hr hsp
  exact ⟨t, h.nox, q⟩
theorem Fun.binds {x qual : Str} {st : Stmt} {f : Addr} {fd : FuncData} {ps : List Str} (F : Fun K x qual st f fd)
    (h : ∀ (kV doc pm : Value) (an : Option Addr) (cdv ct : Value) (us : List Value), us.length = ps.length → bindArgs (PySem.W.fnOf x qual (defArgs st) (defBody st) (defScope st) .none kV doc pm an cdv ct) ⟨us, []⟩ = pure (ps.zip us)) : Binds K fd ps [] := by
  obtain ⟨oc, od, kV, doc, pm, an, cdv, ct, osl, rfl, lk, hcd⟩ := F.ex
  exact .all (h kV doc pm an cdv ct)
theorem fun_mk {x qual : Str} {st : Stmt} {f : Addr} {oc : Value} {od an : Option Addr} {osl : Array (Option Value)} {kV doc pm cdv ct : Value} (l : K.lookup f = some ⟨oc, od, .func (PySem.W.fnOf x qual (defArgs st) (defBody st) (defScope st) .none kV doc pm an cdv ct), osl⟩)
    (c : PySem.W.codeIn K cdv qual = true) (k : PySem.W.keepIn K (.ref f) = true) : Fun K x qual st f (PySem.W.fnOf x qual (defArgs st) (defBody st) (defScope st) .none kV doc pm an cdv ct) := ⟨⟨oc, od, kV, doc, pm, an, cdv, ct, osl, rfl, l, c⟩, k⟩
end
section
variable {X : Cx}
end
end L2
namespace L2
open PySem PySem.Spec PyProof.Rows
section
variable {κ : Type} [DecidableEq κ]
end
end L2
section
set_option autoImplicit false
set_option linter.all false
namespace K2
open PySem (Str)
inductive D where
  | non | bl (b : Bool) | int (i : Int) | str (x : Str) | tup (ds : List D) | rol (ds : List D) | rod (kvs : List (D × D)) | ref (a : Nat) | exc (c : Str)
  deriving Inhabited
inductive GO where
  | lst (ds : List D)
  | dic (kvs : List (D × D))
abbrev Gp := Nat → Option GO
def updG (G : Gp) (a : Nat) (o : GO) : Gp := fun b => if b = a then some o else G b
theorem updG_same {G : Gp} {a : Nat} {o : GO} : updG G a o a = some o := by unfold updG; rw [if_pos rfl]
theorem updG_ne {G : Gp} {a b : Nat} {o : GO} (h : b ≠ a) : updG G a o b = G b := by unfold updG; rw [if_neg h]
abbrev SZ : Nat := 16777216
structure Ex where
  cls : Str
  flds : List (Str × D)
abbrev XK2 := Ex → Gp → Prop
abbrev St2 := List (Option D)
abbrev DK := D → Gp → Prop
abbrev TE2 := XK2 → St2 → Gp → DK → Prop
abbrev TT2 := XK2 → St2 → Gp → (Bool → Gp → Prop) → Prop
abbrev TA2 := XK2 → St2 → Gp → (List D → Gp → Prop) → Prop
structure Ends2 where
  nx : St2 → Gp → Prop
  rt : DK
  bk : St2 → Gp → Prop
  ct : St2 → Gp → Prop
abbrev TS2 := XK2 → Ends2 → St2 → Gp → Prop
abbrev Sp2 := List D → Gp → DK → XK2 → Prop
abbrev R22 := D → D → Gp → DK → Prop
def ixN (n : Nat) (i : Int) : Option Nat := if 0 ≤ i then (if i < n then some i.toNat else none) else if -(n : Int) ≤ i then some (i + n).toNat else none
def atI {α : Type} (xs : List α) (i : Int) : Option α := (ixN xs.length i).bind fun j => xs[j]?
def sIx (n d : Nat) : Option Int → Nat
  | none => d
  | some v => if v < 0 then (v + (n : Int)).toNat else min v.toNat n
def cut {α : Type} (xs : List α) (lo hi : Option Int) : List α := (xs.drop (sIx xs.length 0 lo)).take (sIx xs.length xs.length hi - sIx xs.length 0 lo)
mutual
def eqD : D → D → Bool
  | .non, .non => true
  | .bl a, .bl b => a == b
  | .bl a, .int b => (if a then 1 else 0) == b
  | .int a, .bl b => a == (if b then 1 else 0)
  | .int a, .int b => a == b
  | .str a, .str b => a == b
  | .tup a, .tup b => eqDs a b
  | .rol a, .rol b => eqDs a b
  | _, _ => false
def eqDs : List D → List D → Bool
  | [], [] => true
  | a :: r, b :: t => eqD a b && eqDs r t
  | _, _ => false
end
mutual
def nr : D → Bool
  | .ref _ => false
  | .exc _ => false
  | .rod _ => false
  | .str x => x.cps.all (· < 0x110000)
  | .tup ds => nrs ds
  | .rol ds => nrs ds
  | _ => true
def nrs : List D → Bool
  | [] => true
  | d :: r => nr d && nrs r
end
inductive Sn (G : Gp) : Nat → D → D → Prop
  | non {n : Nat} : Sn G n .non .non
  | bl {n : Nat} (b : Bool) : Sn G n (.bl b) (.bl b)
  | int {n : Nat} (i : Int) : Sn G n (.int i) (.int i)
  | str {n : Nat} (x : Str) (h : x.cps.all (· < 0x110000) = true) : Sn G n (.str x) (.str x)
  | tnil {n : Nat} : Sn G (n + 1) (.tup []) (.tup [])
  | tcons {n : Nat} {d s : D} {ds ss : List D} : Sn G n d s → Sn G (n + 1) (.tup ds) (.tup ss) → Sn G (n + 1) (.tup (d :: ds)) (.tup (s :: ss))
  | rnil {n : Nat} : Sn G (n + 1) (.rol []) (.rol [])
  | rcons {n : Nat} {d s : D} {ds ss : List D} : Sn G n d s → Sn G (n + 1) (.rol ds) (.rol ss) → Sn G (n + 1) (.rol (d :: ds)) (.rol (s :: ss))
  | ref {n : Nat} {a : Nat} {ds ss : List D} : G a = some (.lst ds) → Sn G n (.rol ds) (.rol ss) → Sn G n (.ref a) (.rol ss)
abbrev SN : Nat := 8
theorem Sn.nr {G : Gp} {n : Nat} {d t : D} (h : Sn G n d t) : K2.nr t = true := by
  induction h with
  | non => rfl
  | bl b => rfl
  | int i => rfl
  | str x h => exact h
  | tnil => rfl
  | tcons _ _ ih1 ih2 =>
    show (K2.nr _ && K2.nrs _) = true
    rw [ih1]
    exact ih2
  | rnil => rfl
  | rcons _ _ ih1 ih2 =>
    show (K2.nr _ && K2.nrs _) = true
    rw [ih1]
    exact ih2
  | ref _ _ ih => exact ih
def keyOk1 : D → Bool
  | .int _ => true
  | .str _ => true
  | _ => false
def tru : D → Gp → Option Bool
  | .non, _ => some false
  | .bl b, _ => some b
  | .int i, _ => some (i != 0)
  | .str x, _ => if x.length ≤ SZ then some ((x.length : Int) != 0) else none
  | .tup ds, _ => some (!ds.isEmpty)
  | .rol ds, _ => some (!ds.isEmpty)
  | .exc _, _ => none
  | .rod kvs, _ => if (kvs.all fun p => keyOk1 p.1) = true then some (!kvs.isEmpty) else none
  | .ref a, G => match G a with
    | some (.lst ds) => some (!ds.isEmpty)
    | some (.dic kvs) => if (kvs.all fun p => keyOk1 p.1) = true then some (!kvs.isEmpty) else none
    | none => none
def dVar (i : Nat) : TE2 := fun _ τ G Q => match τ[i]? with
  | some (some d) => Q d G
  | _ => False
def dC (d : D) : TE2 := fun _ _ G Q => Q d G
def dNil : TA2 := fun _ _ G Q => Q [] G
def dCons (a : TE2) (r : TA2) : TA2 := fun E τ G Q => a E τ G fun x G1 => r E τ G1 fun xs G2 => Q (x :: xs) G2
def dTup (t : TA2) : TE2 := fun E τ G Q => t E τ G fun ds G1 => ds.length ≤ SZ ∧ Q (.tup ds) G1
def dLst (t : TA2) : TE2 := fun E τ G Q => t E τ G fun ds G1 => ds.length ≤ SZ ∧ ∀ p, G1 p = none → Q (.ref p) (updG G1 p (.lst ds))
def dBin (r : R22) (a b : TE2) : TE2 := fun E τ G Q => a E τ G fun x G1 => b E τ G1 fun y G2 => r x y G2 Q
def dUn (r : D → Gp → DK → Prop) (a : TE2) : TE2 := fun E τ G Q => a E τ G fun x G1 => r x G1 Q
def dNew (G : Gp) (o : GO) (Q : DK) : Prop := ∀ p, G p = none → Q (.ref p) (updG G p o)
def MulOk (i j : Int) : Prop := (-(2 ^ 64) < i ∧ i < 2 ^ 64) ∨ (-(2 ^ 64) < j ∧ j < 2 ^ 64)
def lstOf : D → Gp → Option (List D)
  | .rol ds, _ => some ds
  | .ref a, G => match G a with
    | some (.lst ds) => some ds
    | _ => none
  | _, _ => none
def addL (x y : D) (G : Gp) (Q : DK) : Prop := match lstOf x G, lstOf y G with
  | some xs, some ys => xs.length + ys.length ≤ SZ ∧ dNew G (.lst (xs ++ ys)) Q
  | _, _ => False
def rAdd : R22
  | .int i, .int j, G, Q => Q (.int (i + j)) G
  | .str a, .str b, G, Q => a.length + b.length ≤ SZ ∧ Q (.str (a ++ b)) G
  | .tup a, .tup b, G, Q => a ≠ [] ∧ a.length + b.length ≤ SZ ∧ Q (.tup (a ++ b)) G
  | x, y, G, Q => addL x y G Q
def rSub : R22
  | .int i, .int j, G, Q => Q (.int (i - j)) G
  | _, _, _, _ => False
def rMul : R22
  | .int i, .int j, G, Q => MulOk i j ∧ Q (.int (i * j)) G
  | _, _, _, _ => False
def rMod : R22
  | .int i, .int j, G, Q => 0 < j ∧ Q (.int (i % j)) G
  | _, _, _, _ => False
def rFdiv : R22
  | .int i, .int j, G, Q => 0 < j ∧ j < 2 ^ 30 ∧ Q (.int (i / j)) G
  | _, _, _, _ => False
def rNeg : D → Gp → DK → Prop
  | .int i, G, Q => Q (.int (-i)) G
  | _, _, _ => False
def rEq (neg : Bool) : R22 := fun x y G Q => ∃ a b, Sn G SN x a ∧ Sn G SN y b ∧ Q (.bl (if neg then !eqD a b else eqD a b)) G
def lexLt : List Int → List Int → Bool
  | [], [] => false
  | [], _ :: _ => true
  | _ :: _, [] => false
  | x :: xs, y :: ys => if x = y then lexLt xs ys else decide (x < y)
def rLt : R22
  | .int i, .int j, G, Q => Q (.bl (decide (i < j))) G
  | .tup a, .tup b, G, Q => ∃ xs ys, a = xs.map D.int ∧ b = ys.map D.int ∧ Q (.bl (lexLt xs ys)) G
  | _, _, _, _ => False
def rLe : R22
  | .int i, .int j, G, Q => Q (.bl (decide (i ≤ j))) G
  | _, _, _, _ => False
def rGt : R22
  | .int i, .int j, G, Q => Q (.bl (decide (i > j))) G
  | _, _, _, _ => False
def rGe : R22
  | .int i, .int j, G, Q => Q (.bl (decide (i ≥ j))) G
  | _, _, _, _ => False
def itemsOf : D → Gp → Option (List D)
  | .tup ds, _ => some ds
  | .rol ds, _ => some ds
  | .ref a, G => match G a with
    | some (.lst ds) => some ds
    | _ => none
  | _, _ => none
def keyOkT : D → Bool
  | .tup ds => ds.all keyOk1
  | _ => false
def kindOk (kvs : List (D × D)) (k : D) : Bool := (keyOk1 k && kvs.all fun p => keyOk1 p.1) || (keyOkT k && kvs.all fun p => keyOkT p.1)
def look (kvs : List (D × D)) (k : D) : Option D := (kvs.find? fun p => eqD p.1 k).map (·.2)
def put (kvs : List (D × D)) (k v : D) : List (D × D) :=
  if (kvs.any fun p => eqD p.1 k) = true then kvs.map (fun p => if eqD p.1 k = true then (p.1, v) else p) else kvs ++ [(k, v)]
def rIn (neg : Bool) : R22 := fun x y G Q => match y with
  | .ref a => (match G a with
    | some (.dic kvs) => kindOk kvs x = true ∧ Q (.bl (if neg then !(look kvs x).isSome else (look kvs x).isSome)) G
    | some (.lst ds) => ∃ s ss, Sn G SN x s ∧ Sn G SN (.rol ds) (.rol ss) ∧ Q (.bl (if neg then !ss.any (eqD · s) else ss.any (eqD · s))) G
    | none => False)
  | .rod kvs => kvs ≠ [] ∧ kindOk kvs x = true ∧ Q (.bl (if neg then !(look kvs x).isSome else (look kvs x).isSome)) G
  | .tup ds => ∃ s ss, Sn G SN x s ∧ Sn G SN (.rol ds) (.rol ss) ∧ Q (.bl (if neg then !ss.any (eqD · s) else ss.any (eqD · s))) G
  | .rol ds => ∃ s ss, Sn G SN x s ∧ Sn G SN (.rol ds) (.rol ss) ∧ Q (.bl (if neg then !ss.any (eqD · s) else ss.any (eqD · s))) G
  | _ => False
def rIx : R22
  | .tup ds, .int i, G, Q => (match atI ds i with
    | some d => Q d G
    | none => False)
  | .rol ds, .int i, G, Q => (match atI ds i with
    | some d => Q d G
    | none => False)
  | .rod kvs, k, G, Q => kindOk kvs k = true ∧ (match look kvs k with
    | some d => Q d G
    | none => False)
  | .ref a, k, G, Q => (match G a with
    | some (.lst ds) => (match k with
      | .int i => (match atI ds i with
        | some d => Q d G
        | none => False)
      | _ => False)
    | some (.dic kvs) => kindOk kvs k = true ∧ (match look kvs k with
      | some d => Q d G
      | none => False)
    | none => False)
  | _, _, _, _ => False
abbrev TO2 := XK2 → St2 → Gp → (Option Int → Gp → Prop) → Prop
def dNoPart : TO2 := fun _ _ G Q => Q none G
def dPart (t : TE2) : TO2 := fun E τ G Q => t E τ G fun x G1 => match x with
  | .int i => Q (some i) G1
  | _ => False
def rSl : D → Option Int → Option Int → Gp → DK → Prop
  | .tup ds, lo, hi, G, Q => ¬ (sIx ds.length 0 lo = 0 ∧ sIx ds.length ds.length hi = ds.length) ∧ Q (.tup (cut ds lo hi)) G
  | .rol ds, lo, hi, G, Q => dNew G (.lst (cut ds lo hi)) Q
  | .ref a, lo, hi, G, Q => (match G a with
    | some (.lst ds) => dNew G (.lst (cut ds lo hi)) Q
    | _ => False)
  | _, _, _, _, _ => False
def dSl (a : TE2) (lo hi : TO2) : TE2 := fun E τ G Q => a E τ G fun x G1 => lo E τ G1 fun l G2 => hi E τ G2 fun h G3 => rSl x l h G3 Q
def dTru (a : TE2) : TT2 := fun E τ G Q => a E τ G fun x G1 => match tru x G1 with
  | some b => Q b G1
  | none => False
def dAnd (a b : TT2) : TT2 := fun E τ G Q => a E τ G fun c G1 => if c = true then b E τ G1 Q else Q false G1
def dOr (a b : TT2) : TT2 := fun E τ G Q => a E τ G fun c G1 => if c = true then Q true G1 else b E τ G1 Q
def dNot (a : TT2) : TT2 := fun E τ G Q => a E τ G fun c G1 => Q (!c) G1
def dAndV (a b : TE2) : TE2 := fun E τ G Q => a E τ G fun x G1 => match tru x G1 with
  | some true => b E τ G1 Q
  | some false => Q x G1
  | none => False
def dOrV (a b : TE2) : TE2 := fun E τ G Q => a E τ G fun x G1 => match tru x G1 with
  | some true => Q x G1
  | some false => b E τ G1 Q
  | none => False
def dNotV (a : TE2) : TE2 := fun E τ G Q => a E τ G fun x G1 => match tru x G1 with
  | some c => Q (.bl (!c)) G1
  | none => False
def dIf (c : TT2) (a b : TE2) : TE2 := fun E τ G Q => c E τ G fun k G1 => if k = true then a E τ G1 Q else b E τ G1 Q
def dCall (sp : Sp2) (t : TA2) : TE2 := fun E τ G Q => t E τ G fun ds G1 => sp ds G1 Q fun _ _ => False
def dCB (r : List D → Gp → DK → Prop) (t : TA2) : TE2 := fun E τ G Q => t E τ G fun ds G1 => r ds G1 Q
def tyL (x : D) (G : Gp) : Prop := match x with
  | .ref a => (match G a with
    | some (.lst _) => True
    | _ => False)
  | .rol _ => True
  | _ => False
def tyC (x : D) (G : Gp) : Prop := match x with
  | .rod _ => True
  | .ref a => (match G a with
    | some (.dic _) => True
    | _ => False)
  | _ => False
def tyS (x : D) (_ : Gp) : Prop := match x with
  | .str _ => True
  | _ => False
def dMt (ty : D → Gp → Prop) (r : D → List D → Gp → DK → Prop) (o : TE2) (t : TA2) : TE2 := fun E τ G Q => o E τ G fun x G1 => ty x G1 ∧ t E τ G1 fun ds G2 => r x ds G2 Q
def lenOf : D → Gp → Option Nat
  | .tup ds, _ => some ds.length
  | .rol ds, _ => some ds.length
  | .str x, _ => if x.length ≤ SZ then some x.length else none
  | .rod kvs, _ => if (kvs.all fun p => keyOk1 p.1) = true then some kvs.length else none
  | .ref a, G => match G a with
    | some (.lst ds) => some ds.length
    | some (.dic kvs) => if (kvs.all fun p => keyOk1 p.1) = true then some kvs.length else none
    | none => none
  | _, _ => none
def cLen (ds : List D) (G : Gp) (Q : DK) : Prop := match ds with
  | [x] => (match lenOf x G with
    | some n => Q (.int (n : Int)) G
    | none => False)
  | _ => False
def cList (ds : List D) (G : Gp) (Q : DK) : Prop := match ds with
  | [x] => (match itemsOf x G with
    | some xs => dNew G (.lst xs) Q
    | none => False)
  | _ => False
def isI (C : String) : D → Gp → Option Bool
  | .non, _ => some false
  | .bl _, _ => some (C == "bool" || C == "int")
  | .int _, _ => some (C == "int")
  | .str _, _ => some (C == "str")
  | .tup _, _ => some (C == "tuple")
  | .rol _, _ => some (C == "list")
  | .rod _, _ => some (C == "dict")
  | .exc _, _ => none
  | .ref a, G => match G a with
    | some (.lst _) => some (C == "list")
    | some (.dic _) => some (C == "dict")
    | none => none
def dIsi (C : String) (a : TE2) : TE2 := fun E τ G Q => a E τ G fun x G1 => match isI C x G1 with
  | some b => Q (.bl b) G1
  | none => False
def cAll (ds : List D) (G : Gp) (Q : DK) : Prop := match ds with
  | [x] => ∃ bs : List Bool, itemsOf x G = some (bs.map D.bl) ∧ Q (.bl (bs.all id)) G
  | _ => False
def mAppend (x : D) (ds : List D) (G : Gp) (Q : DK) : Prop := match x, ds with
  | .ref a, [d] => (match G a with
    | some (.lst xs) => xs.length < SZ ∧ Q .non (updG G a (.lst (xs ++ [d])))
    | _ => False)
  | _, _ => False
def mExtend (x : D) (ds : List D) (G : Gp) (Q : DK) : Prop := match x, ds with
  | .ref a, [y] => (match G a, lstOf y G with
    | some (.lst xs), some ys => xs.length + ys.length ≤ SZ ∧ Q .non (updG G a (.lst (xs ++ ys)))
    | _, _ => False)
  | _, _ => False
def mInsert (x : D) (ds : List D) (G : Gp) (Q : DK) : Prop := match x, ds with
  | .ref a, [.int i, d] => (match G a with
    | some (.lst xs) => 0 ≤ i ∧ i ≤ xs.length ∧ xs.length < SZ ∧ Q .non (updG G a (.lst (xs.take i.toNat ++ d :: xs.drop i.toNat)))
    | _ => False)
  | _, _ => False
def mIndex (x : D) (ds : List D) (G : Gp) (Q : DK) : Prop := match ds with
  | [d] => tyL x G ∧ ∃ xs s ss, itemsOf x G = some xs ∧ Sn G SN d s ∧ Sn G SN (.rol xs) (.rol ss) ∧ (match ss.findIdx? (eqD · s) with
    | some k => Q (.int (k : Int)) G
    | none => False)
  | _ => False
def mSetdefault (x : D) (ds : List D) (G : Gp) (Q : DK) : Prop := match x, ds with
  | .ref a, [k, d] => (match G a with
    | some (.dic kvs) => kindOk kvs k = true ∧ keyOk1 k = true ∧ (match look kvs k with
      | some v => Q v G
      | none => kvs.length < SZ ∧ Q d (updG G a (.dic (put kvs k d))))
    | _ => False)
  | _, _ => False
def dNext : TS2 := fun _ K τ G => K.nx τ G
def dSeq (a b : TS2) : TS2 := fun E K τ G => a E { K with nx := b E K } τ G
def dExpr (a : TE2) : TS2 := fun E K τ G => a E τ G fun _ G1 => K.nx τ G1
def dRet (a : TE2) : TS2 := fun E K τ G => a E τ G K.rt
def dRetN : TS2 := fun _ K _ G => K.rt .non G
def dIfS (c : TT2) (a b : TS2) : TS2 := fun E K τ G => c E τ G fun k G1 => if k = true then a E K τ G1 else b E K τ G1
def dNever : TS2 := fun _ _ _ _ => False
abbrev TG2 := XK2 → D → St2 → Gp → (St2 → Gp → Prop) → Prop
abbrev TGs2 := XK2 → List D → St2 → Gp → (St2 → Gp → Prop) → Prop
def gName (i : Nat) : TG2 := fun _ d τ G Q => Q (τ.set i (some d)) G
def gNil : TGs2 := fun _ ds τ G Q => match ds with
  | [] => Q τ G
  | _ => False
def gCons (t : TG2) (r : TGs2) : TGs2 := fun E ds τ G Q => match ds with
  | d :: ds => t E d τ G fun τ1 G1 => r E ds τ1 G1 Q
  | _ => False
def gTup (t : TGs2) : TG2 := fun E d τ G Q => match d with
  | .tup ds => t E ds τ G Q
  | _ => False
def dAsg (a : TE2) (g : TG2) : TS2 := fun E K τ G => a E τ G fun x G1 => g E x τ G1 K.nx
abbrev TI2 := XK2 → St2 → Gp → (List D → (Gp → Prop) → Gp → Prop) → Prop
def iSeq (a : TE2) : TI2 := fun E τ G R => a E τ G fun x G1 => match x with
  | .tup ds => R ds (fun _ => True) G1
  | .rol ds => R ds (fun _ => True) G1
  | .ref p => (match G1 p with
    | some (.lst ds) => R ds (fun G2 => G2 p = some (.lst ds)) G1
    | _ => False)
  | _ => False
def rangeD (lo : Int) (n : Nat) : List D := (List.range n).map fun (i : Nat) => D.int (lo + (i : Int))
def iRng1 (a : TE2) : TI2 := fun E τ G R => a E τ G fun x G1 => match x with
  | .int n => -(2 ^ 62) ≤ n ∧ n < 2 ^ 62 ∧ R (rangeD 0 n.toNat) (fun _ => True) G1
  | _ => False
def iRng2 (a b : TE2) : TI2 := fun E τ G R => a E τ G fun x G1 => b E τ G1 fun y G2 => match x, y with
  | .int i, .int j => (-(2 ^ 62) ≤ i ∧ i < 2 ^ 62 ∧ -(2 ^ 62) ≤ j ∧ j < 2 ^ 62) ∧ R (rangeD i (j - i).toNat) (fun _ => True) G2
  | _, _ => False
def forGo (g : TG2) (body : TS2) (ok : Gp → Prop) : List D → TS2
  | [] => fun _ K τ G => ok G ∧ K.nx τ G
  | d :: r => fun E K τ G => ok G ∧ g E d τ G fun τ1 G1 => body E { K with nx := forGo g body ok r E K, ct := forGo g body ok r E K, bk := K.nx } τ1 G1
def dFor (i : TI2) (g : TG2) (body : TS2) : TS2 := fun E K τ G => i E τ G fun ds ok G1 => forGo g body ok ds E K τ G1
def whGo (c : TT2) (body : TS2) : Nat → TS2
  | 0 => fun _ _ _ _ => False
  | n + 1 => fun E K τ G => c E τ G fun k G1 => if k = true then body E { K with nx := whGo c body n E K, ct := whGo c body n E K, bk := K.nx } τ G1 else K.nx τ G1
def dWhile (c : TT2) (body : TS2) : TS2 := fun E K τ G => ∃ n, whGo c body n E K τ G
def compGo (g : TG2) (c : Option TT2) (e : TE2) (ok : Gp → Prop) : List D → XK2 → St2 → Gp → List D → (List D → Gp → Prop) → Prop
  | [], _, _, G, acc, Q => ok G ∧ Q acc G
  | d :: r, E, τ, G, acc, Q => ok G ∧ g E d τ G fun τ1 G1 => match c with
    | none => e E τ1 G1 fun x G2 => compGo g c e ok r E τ1 G2 (acc ++ [x]) Q
    | some c => c E τ1 G1 fun k G2 => if k = true then e E τ1 G2 fun x G3 => compGo g (some c) e ok r E τ1 G3 (acc ++ [x]) Q else compGo g (some c) e ok r E τ1 G2 acc Q
def compSt (m : Nat) (fr : List Nat) (τ : St2) : St2 := List.replicate m none ++ fr.map fun i => (τ[i]?).getD none
def dComp (m : Nat) (fr : List Nat) (i : TI2) (g : TG2) (c : Option TT2) (e : TE2) : TE2 := fun E τ G Q =>
  i E τ G fun ds ok G1 => ds.length ≤ SZ ∧ compGo g c e ok ds (fun _ _ => False) (compSt m fr τ) G1 [] fun xs G2 => dNew G2 (.lst xs) Q
abbrev tI (ns : List Int) : D := .tup (ns.map D.int)
def minI : List Int → Option Int
  | [] => none
  | a :: r => some (r.foldl (fun m x => if x < m then x else m) a)
def minL : List (List Int) → Option (List Int)
  | [] => none
  | a :: r => some (r.foldl (fun m x => if lexLt x m = true then x else m) a)
def cMin (ds : List D) (G : Gp) (Q : DK) : Prop := match ds with
  | [x] => (∃ ns m, itemsOf x G = some (ns.map D.int) ∧ minI ns = some m ∧ Q (.int m) G) ∨ ∃ nss m, itemsOf x G = some (nss.map tI) ∧ minL nss = some m ∧ Q (tI m) G
  | _ => False
def dDic : TE2 := fun _ _ G Q => dNew G (.dic []) Q
def GLe (G G' : Gp) : Prop := ∀ a o, G a = some o → G' a = some o
theorem GLe.refl (G : Gp) : GLe G G := fun _ _ h => h
theorem GLe.trans {G G1 G2 : Gp} (a : GLe G G1) (b : GLe G1 G2) : GLe G G2 := fun c o h => b c o (a c o h)
theorem GLe.new {G : Gp} {p : Nat} {o : GO} (h : G p = none) : GLe G (updG G p o) := fun a ob e => by
  by_cases ha : a = p
  · subst ha; rw [h] at e; cases e
  · rw [updG_ne ha]; exact e
theorem GLe.free {G G' : Gp} {p : Nat} (l : GLe G G') (h : G' p = none) : G p = none := by
  cases q : G p with
  | none => rfl
  | some o => rw [l p o q] at h; cases h
theorem GLe.put {G G' : Gp} {p : Nat} {o : GO} (l : GLe G G') (h : G p = none) : GLe G (updG G' p o) := fun a ob e => by
  by_cases ha : a = p
  · subst ha; rw [h] at e; cases e
  · rw [updG_ne ha]; exact l a ob e
def ends (Q : DK) : Ends2 := ⟨fun _ G => Q .non G, Q, fun _ _ => False, fun _ _ => False⟩
def start2 (n : Nat) (ds : List D) : St2 := ds.map some ++ List.replicate (n - ds.length) none
def iAt (x : D) (G1 : Gp) (R : List D → (Gp → Prop) → Gp → Prop) : Prop := match x with
  | .tup ds => R ds (fun _ => True) G1
  | .rol ds => R ds (fun _ => True) G1
  | .ref p => (match G1 p with
    | some (.lst ds) => R ds (fun G2 => G2 p = some (.lst ds)) G1
    | _ => False)
  | _ => False
def partAt (x : D) (G1 : Gp) (Q : Option Int → Gp → Prop) : Prop := match x with
  | .int i => Q (some i) G1
  | _ => False
def truAt (x : D) (G1 : Gp) (Q : Bool → Gp → Prop) : Prop := match tru x G1 with
  | some b => Q b G1
  | none => False
def rngAt (x : D) (G1 : Gp) (R : List D → (Gp → Prop) → Gp → Prop) : Prop := match x with
  | .int n => -(2 ^ 62) ≤ n ∧ n < 2 ^ 62 ∧ R (rangeD 0 n.toNat) (fun _ => True) G1
  | _ => False
def isAt (C : String) (x : D) (G1 : Gp) (Q : DK) : Prop := match isI C x G1 with
  | some b => Q (.bl b) G1
  | none => False
theorem rAdd_int {i j : Int} {G : Gp} {Q : DK} : rAdd (.int i) (.int j) G Q = Q (.int (i + j)) G := rfl
theorem rAdd_tup {a b : List D} {G : Gp} {Q : DK} : rAdd (.tup a) (.tup b) G Q = (a ≠ [] ∧ a.length + b.length ≤ SZ ∧ Q (.tup (a ++ b)) G) := rfl
theorem rSub_int {i j : Int} {G : Gp} {Q : DK} : rSub (.int i) (.int j) G Q = Q (.int (i - j)) G := rfl
theorem rMul_int {i j : Int} {G : Gp} {Q : DK} : rMul (.int i) (.int j) G Q = (MulOk i j ∧ Q (.int (i * j)) G) := rfl
theorem rMod_int {i j : Int} {G : Gp} {Q : DK} : rMod (.int i) (.int j) G Q = (0 < j ∧ Q (.int (i % j)) G) := rfl
theorem rFdiv_int {i j : Int} {G : Gp} {Q : DK} : rFdiv (.int i) (.int j) G Q = (0 < j ∧ j < 2 ^ 30 ∧ Q (.int (i / j)) G) := rfl
theorem rNeg_int {i : Int} {G : Gp} {Q : DK} : rNeg (.int i) G Q = Q (.int (-i)) G := rfl
theorem rLt_int {i j : Int} {G : Gp} {Q : DK} : rLt (.int i) (.int j) G Q = Q (.bl (decide (i < j))) G := rfl
theorem rLe_int {i j : Int} {G : Gp} {Q : DK} : rLe (.int i) (.int j) G Q = Q (.bl (decide (i ≤ j))) G := rfl
theorem rGt_int {i j : Int} {G : Gp} {Q : DK} : rGt (.int i) (.int j) G Q = Q (.bl (decide (i > j))) G := rfl
theorem rGe_int {i j : Int} {G : Gp} {Q : DK} : rGe (.int i) (.int j) G Q = Q (.bl (decide (i ≥ j))) G := rfl
theorem rSl_tup {ds : List D} {lo hi : Option Int} {G : Gp} {Q : DK} : rSl (.tup ds) lo hi G Q = (¬ (sIx ds.length 0 lo = 0 ∧ sIx ds.length ds.length hi = ds.length) ∧ Q (.tup (cut ds lo hi)) G) := rfl
theorem rSl_rol {ds : List D} {lo hi : Option Int} {G : Gp} {Q : DK} : rSl (.rol ds) lo hi G Q = dNew G (.lst (cut ds lo hi)) Q := rfl
theorem cLen_rol {ds : List D} {G : Gp} {Q : DK} : cLen [.rol ds] G Q = Q (.int (ds.length : Int)) G := rfl
theorem cLen_tup {ds : List D} {G : Gp} {Q : DK} : cLen [.tup ds] G Q = Q (.int (ds.length : Int)) G := rfl
theorem iSeq_at {a : TE2} {E : XK2} {τ : St2} {G : Gp} {R : List D → (Gp → Prop) → Gp → Prop} : iSeq a E τ G R = a E τ G fun x G1 => iAt x G1 R := by
  unfold iSeq iAt; rfl
theorem iAt_rol {ds : List D} {G : Gp} {R : List D → (Gp → Prop) → Gp → Prop} : iAt (.rol ds) G R = R ds (fun _ => True) G := rfl
theorem iAt_tup {ds : List D} {G : Gp} {R : List D → (Gp → Prop) → Gp → Prop} : iAt (.tup ds) G R = R ds (fun _ => True) G := rfl
theorem iAt_lst {a : Nat} {ds : List D} {G : Gp} {R : List D → (Gp → Prop) → Gp → Prop} (h : G a = some (.lst ds)) : iAt (.ref a) G R = R ds (fun G2 => G2 a = some (.lst ds)) G := by unfold iAt; simp only [h]
theorem dPart_at {t : TE2} {E : XK2} {τ : St2} {G : Gp} {Q : Option Int → Gp → Prop} : dPart t E τ G Q = t E τ G fun x G1 => partAt x G1 Q := rfl
theorem partAt_int {i : Int} {G : Gp} {Q : Option Int → Gp → Prop} : partAt (.int i) G Q = Q (some i) G := rfl
theorem dTru_at {a : TE2} {E : XK2} {τ : St2} {G : Gp} {Q : Bool → Gp → Prop} : dTru a E τ G Q = a E τ G fun x G1 => truAt x G1 Q := rfl
theorem truAt_bl {b : Bool} {G : Gp} {Q : Bool → Gp → Prop} : truAt (.bl b) G Q = Q b G := rfl
theorem iRng1_at {a : TE2} {E : XK2} {τ : St2} {G : Gp} {R : List D → (Gp → Prop) → Gp → Prop} : iRng1 a E τ G R = a E τ G fun x G1 => rngAt x G1 R := rfl
theorem rngAt_int {n : Int} {G : Gp} {R : List D → (Gp → Prop) → Gp → Prop} : rngAt (.int n) G R = (-(2 ^ 62) ≤ n ∧ n < 2 ^ 62 ∧ R (rangeD 0 n.toNat) (fun _ => True) G) := rfl
theorem dIsi_at {C : String} {a : TE2} {E : XK2} {τ : St2} {G : Gp} {Q : DK} : dIsi C a E τ G Q = a E τ G fun x G1 => isAt C x G1 Q := rfl
theorem isAt_int {C : String} {i : Int} {G : Gp} {Q : DK} : isAt C (.int i) G Q = Q (.bl (C == "int")) G := rfl
theorem isAt_tup {C : String} {ds : List D} {G : Gp} {Q : DK} : isAt C (.tup ds) G Q = Q (.bl (C == "tuple")) G := rfl
theorem isAt_lst {C : String} {a : Nat} {ds : List D} {G : Gp} {Q : DK} (h : G a = some (.lst ds)) : isAt C (.ref a) G Q = Q (.bl (C == "list")) G := by unfold isAt isI; simp only [h]
theorem dAndV_at {a b : TE2} {E : XK2} {τ : St2} {G : Gp} {Q : DK} : dAndV a b E τ G Q = a E τ G fun x G1 => truAt x G1 fun k G2 => if k = true then b E τ G2 Q else Q x G2 := by
  unfold dAndV truAt
  refine congrArg (a E τ G) ?_
  funext x G1
  cases tru x G1 with
  | none => rfl
  | some k => cases k <;> simp
theorem dOrV_at {a b : TE2} {E : XK2} {τ : St2} {G : Gp} {Q : DK} : dOrV a b E τ G Q = a E τ G fun x G1 => truAt x G1 fun k G2 => if k = true then Q x G2 else b E τ G2 Q := by
  unfold dOrV truAt
  refine congrArg (a E τ G) ?_
  funext x G1
  cases tru x G1 with
  | none => rfl
  | some k => cases k <;> simp
theorem dNotV_at {a : TE2} {E : XK2} {τ : St2} {G : Gp} {Q : DK} : dNotV a E τ G Q = a E τ G fun x G1 => truAt x G1 fun k G2 => Q (.bl (!k)) G2 := rfl
theorem rAdd_ref {a : Nat} {y : D} {G : Gp} {Q : DK} : rAdd (.ref a) y G Q = addL (.ref a) y G Q := by cases y <;> rfl
theorem rAdd_rol {a : List D} {y : D} {G : Gp} {Q : DK} : rAdd (.rol a) y G Q = addL (.rol a) y G Q := by cases y <;> rfl
theorem rSl_ref {a : Nat} {lo hi : Option Int} {G : Gp} {Q : DK} : rSl (.ref a) lo hi G Q = (match G a with
    | some (.lst ds) => dNew G (.lst (cut ds lo hi)) Q
    | _ => False) := rfl
theorem rIx_ref {a : Nat} {k : D} {G : Gp} {Q : DK} : rIx (.ref a) k G Q = (match G a with
    | some (.lst ds) => (match k with
      | .int i => (match atI ds i with
        | some d => Q d G
        | none => False)
      | _ => False)
    | some (.dic kvs) => kindOk kvs k = true ∧ (match look kvs k with
      | some d => Q d G
      | none => False)
    | none => False) := by unfold rIx; cases k <;> rfl
theorem rIx_tupM {ds : List D} {i : Int} {G : Gp} {Q : DK} : rIx (.tup ds) (.int i) G Q = (match atI ds i with
    | some d => Q d G
    | none => False) := rfl
theorem rIx_rolM {ds : List D} {i : Int} {G : Gp} {Q : DK} : rIx (.rol ds) (.int i) G Q = (match atI ds i with
    | some d => Q d G
    | none => False) := rfl
theorem cLen_ref {a : Nat} {G : Gp} {Q : DK} : cLen [.ref a] G Q = (match G a with
    | some (.lst ds) => Q (.int (ds.length : Int)) G
    | some (.dic ds) => (ds.all fun p => keyOk1 p.1) = true ∧ Q (.int (ds.length : Int)) G
    | none => False) := by
  unfold cLen lenOf
  cases h : G a with
  | none => simp only [h]
  | some g =>
    cases g with
    | lst ds => simp only [h]
    | dic ds =>
      simp only [h]
      by_cases z : (ds.all fun p => keyOk1 p.1) = true
      · simp only [z, if_true, true_and]
      · simp only [z, if_false, false_and, Bool.false_eq_true]
theorem cList_ref {a : Nat} {G : Gp} {Q : DK} : cList [.ref a] G Q = (match G a with
    | some (.lst ds) => dNew G (.lst ds) Q
    | _ => False) := by
  unfold cList itemsOf
  cases h : G a with
  | none => simp only [h]
  | some g => cases g <;> simp only [h]
theorem mAppend_ref {a : Nat} {d : D} {G : Gp} {Q : DK} : mAppend (.ref a) [d] G Q = (match G a with
    | some (.lst xs) => xs.length < SZ ∧ Q .non (updG G a (.lst (xs ++ [d])))
    | _ => False) := rfl
theorem mExtend_ref {a : Nat} {y : D} {G : Gp} {Q : DK} : mExtend (.ref a) [y] G Q = (match G a, lstOf y G with
    | some (.lst xs), some ys => xs.length + ys.length ≤ SZ ∧ Q .non (updG G a (.lst (xs ++ ys)))
    | _, _ => False) := rfl
theorem mInsert_ref {a : Nat} {i : Int} {d : D} {G : Gp} {Q : DK} : mInsert (.ref a) [.int i, d] G Q = (match G a with
    | some (.lst xs) => 0 ≤ i ∧ i ≤ xs.length ∧ xs.length < SZ ∧ Q .non (updG G a (.lst (xs.take i.toNat ++ d :: xs.drop i.toNat)))
    | _ => False) := rfl
theorem mSetdefault_ref {a : Nat} {k d : D} {G : Gp} {Q : DK} : mSetdefault (.ref a) [k, d] G Q = (match G a with
    | some (.dic kvs) => kindOk kvs k = true ∧ keyOk1 k = true ∧ (match look kvs k with
      | some v => Q v G
      | none => kvs.length < SZ ∧ Q d (updG G a (.dic (put kvs k d))))
    | _ => False) := rfl
theorem isAt_bl {C : String} {b : Bool} {G : Gp} {Q : DK} : isAt C (.bl b) G Q = Q (.bl (C == "bool" || C == "int")) G := rfl
theorem tyL_ref {a : Nat} {G : Gp} : tyL (.ref a) G = (match G a with
    | some (.lst _) => True
    | _ => False) := rfl
theorem tyC_ref {a : Nat} {G : Gp} : tyC (.ref a) G = (match G a with
    | some (.dic _) => True
    | _ => False) := rfl
theorem tyL_rol {ds : List D} {G : Gp} : tyL (.rol ds) G = True := rfl
theorem rIx_rod {kvs : List (D × D)} {k : D} {G : Gp} {Q : DK} : rIx (.rod kvs) k G Q = (kindOk kvs k = true ∧ (match look kvs k with
    | some d => Q d G
    | none => False)) := by unfold rIx; cases k <;> rfl
theorem tyS_str {x : Str} {G : Gp} : tyS (.str x) G = True := rfl
end K2
end
section
set_option autoImplicit false
set_option linter.all false
namespace K2
open PySem (Str)
def delG (R : Nat → Bool) (G : Gp) : Gp := fun a => if R a = true then none else G a
mutual
inductive Fz (G : Gp) (R : Nat → Bool) : D → D → Prop
  | same (d : D) : Fz G R d d
  | tup {ds ss : List D} : Fzs G R ds ss → Fz G R (.tup ds) (.tup ss)
  | rol {ds ss : List D} : Fzs G R ds ss → Fz G R (.rol ds) (.rol ss)
  | ref {a : Nat} {ds ss : List D} : G a = some (.lst ds) → R a = true → Fzs G R ds ss → Fz G R (.ref a) (.rol ss)
  | dic {a : Nat} {kvs kvt : List (D × D)} : G a = some (.dic kvs) → R a = true → FzKs G R kvs kvt → Fz G R (.ref a) (.rod kvt)
inductive Fzs (G : Gp) (R : Nat → Bool) : List D → List D → Prop
  | nil : Fzs G R [] []
  | cons {d s : D} {ds ss : List D} : Fz G R d s → Fzs G R ds ss → Fzs G R (d :: ds) (s :: ss)
inductive FzKs (G : Gp) (R : Nat → Bool) : List (D × D) → List (D × D) → Prop
  | nil : FzKs G R [] []
  | cons {k d s : D} {ds ss : List (D × D)} : Fz G R d s → FzKs G R ds ss → FzKs G R ((k, d) :: ds) ((k, s) :: ss)
end
def FzK (G : Gp) (x : D) (Q : DK) : Prop := ∃ (R : Nat → Bool) (t : D), Fz G R x t ∧ Q t (delG R G)
def dFz (e : TE2) : TE2 := fun E τ G Q => e E τ G fun x G1 => FzK G1 x Q
def dFzV (i : Nat) (t : TS2) : TS2 := fun E K τ G => t E { K with nx := fun τ1 G1 => match τ1[i]? with
  | some (some d) => FzK G1 d fun t G2 => K.nx (τ1.set i (some t)) G2
  | _ => False } τ G
theorem Fzs.same {G : Gp} {R : Nat → Bool} : ∀ (ds : List D), Fzs G R ds ds
  | [] => .nil
  | d :: ds => .cons (.same d) (Fzs.same ds)
theorem delG_new {G G1 : Gp} (l : GLe G G1) : delG (fun a => (G a).isNone) G1 = G := by
  funext a
  unfold delG
  cases h : G a with
  | none => simp [h]
  | some o => simp [l a o h, h]
theorem delG_new1 {G G1 : Gp} {p : Nat} {o : GO} (l : GLe G G1) (hp : G p = none) (h1 : G1 p = some o) : delG (fun a => (G a).isNone && decide (a ≠ p)) G1 = updG G p o := by
  funext a
  unfold delG updG
  by_cases ha : a = p
  · subst ha; simp [h1]
  · cases h : G a with
    | none => simp [ha, h]
    | some o => simp [l a o h, ha, h]
theorem fz_id {G : Gp} {d : D} {Q : DK} (q : Q d G) : FzK G d Q := ⟨fun _ => false, d, .same d, by
  have e : delG (fun _ => false) G = G := by funext a; simp [delG]
  rw [e]; exact q⟩
theorem fz_drop {G G1 : Gp} {d : D} {Q : DK} (l : GLe G G1) (q : Q d G) : FzK G1 d Q := ⟨_, d, .same d, by rw [delG_new l]; exact q⟩
theorem fz_one {G G1 : Gp} {p : Nat} {o : GO} {Q : DK} (l : GLe G G1) (hp : G p = none) (h1 : G1 p = some o) (q : Q (.ref p) (updG G p o)) : FzK G1 (.ref p) Q :=
  ⟨_, .ref p, .same _, by rw [delG_new1 l hp h1]; exact q⟩
theorem fz_rol {G G1 : Gp} {p : Nat} {ds ss : List D} {Q : DK} (l : GLe G G1) (hp : G p = none) (h1 : G1 p = some (.lst ds)) (hs : Fzs G1 (fun a => (G a).isNone) ds ss) (q : Q (.rol ss) G) : FzK G1 (.ref p) Q :=
  ⟨_, .rol ss, .ref h1 (by simp [hp]) hs, by rw [delG_new l]; exact q⟩
theorem fz_all {G G1 : Gp} {d t : D} {Q : DK} (l : GLe G G1) (hs : Fz G1 (fun a => (G a).isNone) d t) (q : Q t G) : FzK G1 d Q :=
  ⟨_, t, hs, by rw [delG_new l]; exact q⟩
def spLaw : Sp2 := fun ds G Q _ => ∃ ns : List Int, ds = [.rol (ns.map D.int)] ∧ ns.length ≤ 63 ∧ (∀ a, G a = none) ∧ ∀ G', Q (.bl true) G'
theorem seq_by {a b : TS2} {E : XK2} {K : Ends2} {τ : St2} {G : Gp} (P : St2 → Gp → Prop) (h1 : ∀ N, (∀ τ G, P τ G → N τ G) → a E { K with nx := N } τ G) (h2 : ∀ τ G, P τ G → b E K τ G) : dSeq a b E K τ G := h1 (b E K) h2
theorem seq_step {a b : TS2} {E : XK2} {K : Ends2} {τ : St2} {G : Gp} : dSeq a b E K τ G = a E { K with nx := b E K } τ G := rfl
theorem seq_asg {a : TE2} {g : TG2} {b : TS2} {E : XK2} {K : Ends2} {τ : St2} {G : Gp} : dSeq (dAsg a g) b E K τ G = dAsg a g E { K with nx := b E K } τ G := rfl
theorem seq_expr {a : TE2} {b : TS2} {E : XK2} {K : Ends2} {τ : St2} {G : Gp} : dSeq (dExpr a) b E K τ G = dExpr a E { K with nx := b E K } τ G := rfl
end K2
end
section
set_option autoImplicit false
set_option linter.all false
set_option maxRecDepth 100000
namespace K2
open PySem (Str)
structure T2 where
  a : Int
  b : Int
  deriving DecidableEq
structure T3 where
  a : Int
  b : Int
  c : Int
  deriving DecidableEq
class Enc (α : Type) [DecidableEq α] where
  enc : α → D
  dep : Nat
  eqv : ∀ a b, eqD (enc a) (enc b) = decide (a = b)
  sn : ∀ (G : Gp) (n : Nat) (a : α), dep ≤ n → Sn G n (enc a) (enc a)
open Enc (enc)
instance : Enc Int where
  enc := D.int
  dep := 0
  eqv := fun a b => by simp only [eqD]; by_cases h : a = b <;> simp [h]
  sn := fun G n a _ => .int a
instance : Enc Bool where
  enc := D.bl
  dep := 0
  eqv := fun a b => by simp only [eqD]; by_cases h : a = b <;> simp [h]
  sn := fun G n a _ => .bl a
instance : Enc T2 where
  enc := fun t => .tup [.int t.a, .int t.b]
  dep := 1
  eqv := fun ⟨a, b⟩ ⟨c, d⟩ => by
    simp only [eqD, eqDs, T2.mk.injEq]; by_cases h : a = c <;> by_cases h2 : b = d <;> simp [h, h2]
  sn := fun G n t h => by
    obtain ⟨m, rfl⟩ : ∃ m, n = m + 1 := ⟨n - 1, by omega⟩
    exact .tcons (.int _) (.tcons (.int _) .tnil)
instance : Enc T3 where
  enc := fun t => .tup [.int t.a, .int t.b, .int t.c]
  dep := 1
  eqv := fun ⟨a, b, e⟩ ⟨c, d, f⟩ => by
    simp only [eqD, eqDs, T3.mk.injEq]; by_cases h : a = c <;> by_cases h2 : b = d <;> by_cases h3 : e = f <;> simp [h, h2, h3]
  sn := fun G n t h => by
    obtain ⟨m, rfl⟩ : ∃ m, n = m + 1 := ⟨n - 1, by omega⟩
    exact .tcons (.int _) (.tcons (.int _) (.tcons (.int _) .tnil))
instance {α β : Type} [DecidableEq α] [DecidableEq β] [Enc α] [Enc β] : Enc (α × β) where
  enc := fun t => .tup [enc t.1, enc t.2]
  dep := max (Enc.dep α) (Enc.dep β) + 1
  eqv := fun ⟨a, b⟩ ⟨c, d⟩ => by
    simp only [eqD, eqDs, Enc.eqv, Prod.mk.injEq]; by_cases h : a = c <;> by_cases h2 : b = d <;> simp [h, h2]
  sn := fun G n t h => by
    obtain ⟨m, rfl⟩ : ∃ m, n = m + 1 := ⟨n - 1, by omega⟩
    exact .tcons (Enc.sn _ _ _ (by omega)) (.tcons (Enc.sn _ _ _ (by omega)) .tnil)
theorem eqDs_enc {α : Type} [DecidableEq α] [Enc α] : ∀ (a b : List α), eqDs (a.map enc) (b.map enc) = decide (a = b)
  | [], [] => by simp [eqDs]
  | [], b :: bs => by simp [eqDs]
  | a :: as, [] => by simp [eqDs]
  | a :: as, b :: bs => by
    simp only [List.map_cons, eqDs, Enc.eqv, eqDs_enc as bs]
    by_cases h : a = b <;> by_cases h2 : as = bs <;> simp [h, h2]
theorem sn_rol {α : Type} [DecidableEq α] [Enc α] (G : Gp) (n : Nat) (h : Enc.dep α ≤ n) : ∀ (xs : List α), Sn G (n + 1) (.rol (xs.map enc)) (.rol (xs.map enc))
  | [] => .rnil
  | a :: as => .rcons (Enc.sn _ _ _ h) (sn_rol G n h as)
instance {α : Type} [DecidableEq α] [Enc α] : Enc (List α) where
  enc := fun xs => .rol (xs.map enc)
  dep := Enc.dep α + 1
  eqv := fun a b => by
    show eqDs _ _ = _
    exact eqDs_enc a b
  sn := fun G n t h => by
    obtain ⟨m, rfl⟩ : ∃ m, n = m + 1 := ⟨n - 1, by omega⟩
    exact sn_rol G m (by omega) t
section
variable {α : Type} [DecidableEq α] [Enc α]
theorem any_enc (L : List α) (t : α) : (L.map enc).any (eqD · (enc t)) = decide (t ∈ L) := by
  induction L with
  | nil => simp
  | cons a r ih =>
    simp only [List.map_cons, List.any_cons, Enc.eqv, ih, List.mem_cons]
    by_cases h : a = t
    · simp [h]
    · have h' : ¬ t = a := fun z => h z.symm
      by_cases h2 : t ∈ r <;> simp [h, h', h2]
end
section
variable {κ α : Type} [DecidableEq κ] [Enc κ] [DecidableEq α] [Enc α]
def aget (l : List (κ × α)) (k : κ) : Option α := (l.find? fun p => p.1 = k).map (·.2)
end
class EncKey (κ : Type) [DecidableEq κ] [Enc κ] where
  ok : (∀ k : κ, keyOk1 (enc k) = true) ∨ ∀ k : κ, keyOkT (enc k) = true
instance : EncKey Int := ⟨.inl fun _ => rfl⟩
instance : EncKey T2 := ⟨.inr fun _ => rfl⟩
instance : EncKey T3 := ⟨.inr fun _ => rfl⟩
end K2
end
section
set_option autoImplicit false
set_option linter.all false
set_option maxRecDepth 100000
namespace K2
open PySem (Str)
open Enc (enc)
mutual
def ltD : D → D → Bool
  | .int a, .int b => decide (a < b)
  | .tup a, .tup b => ltDs a b
  | .rol a, .rol b => ltDs a b
  | _, _ => false
def ltDs : List D → List D → Bool
  | [], [] => false
  | [], _ :: _ => true
  | _ :: _, [] => false
  | x :: xs, y :: ys => if eqD x y = true then ltDs xs ys else ltD x y
end
inductive Shp where
  | int | tup (l : List Shp) | lst (s : Shp)
mutual
def hasS : Shp → D → Bool
  | .int, .int _ => true
  | .tup l, .tup ds => hasSs l ds
  | .lst s, .rol ds => hasSl s ds
  | _, _ => false
def hasSs : List Shp → List D → Bool
  | [], [] => true
  | s :: l, d :: ds => hasS s d && hasSs l ds
  | _, _ => false
def hasSl : Shp → List D → Bool
  | _, [] => true
  | s, d :: ds => hasS s d && hasSl s ds
end
mutual
def dpS : Shp → Nat
  | .int => 0
  | .tup l => dpSs l + 1
  | .lst s => dpS s + 1
def dpSs : List Shp → Nat
  | [] => 0
  | s :: l => max (dpS s) (dpSs l)
end
class EncOrd (α : Type) [DecidableEq α] [Enc α] where
  lt : α → α → Bool
  shp : Shp
  hass : ∀ a : α, hasS shp (enc a) = true
  ltd : ∀ a b : α, ltD (enc a) (enc b) = lt a b
  irr : ∀ a, lt a a = false
  trans : ∀ a b c, lt a b = true → lt b c = true → lt a c = true
  tot : ∀ a b, lt a b = false → lt b a = false → a = b
instance : EncOrd Int where
  lt := fun a b => decide (a < b)
  shp := .int
  hass := fun _ => rfl
  ltd := fun a b => rfl
  irr := fun a => by simp
  trans := fun a b c h1 h2 => by simp at *; omega
  tot := fun a b h1 h2 => by simp at *; omega
def lexO {α : Type} [DecidableEq α] (lt : α → α → Bool) : List α → List α → Bool
  | [], [] => false
  | [], _ :: _ => true
  | _ :: _, [] => false
  | x :: xs, y :: ys => if x = y then lexO lt xs ys else lt x y
section
variable {α : Type} [DecidableEq α] {lt : α → α → Bool}
theorem lexO_irr : ∀ x : List α, lexO lt x x = false
  | [] => rfl
  | a :: x => by simp only [lexO, if_true]; exact lexO_irr x
theorem lexO_tot (t : ∀ a b, lt a b = false → lt b a = false → a = b) : ∀ (x y : List α), lexO lt x y = false → lexO lt y x = false → x = y
  | [], [], _, _ => rfl
  | [], _ :: _, h, _ => by cases h
  | _ :: _, [], _, h => by cases h
  | a :: x, b :: y, h1, h2 => by
    simp only [lexO] at h1 h2
    by_cases e : a = b
    · subst e
      simp only [if_true] at h1 h2
      rw [lexO_tot t x y h1 h2]
    · rw [if_neg e] at h1
      rw [if_neg (Ne.symm e)] at h2
      exact absurd (t a b h1 h2) e
theorem lexO_trans (ir : ∀ a, lt a a = false) (tr : ∀ a b c, lt a b = true → lt b c = true → lt a c = true) : ∀ (x y z : List α), lexO lt x y = true → lexO lt y z = true → lexO lt x z = true
  | [], [], _, h, _ => by cases h
  | [], _ :: _, [], _, h => by cases h
  | [], _ :: _, _ :: _, _, _ => rfl
  | _ :: _, [], _, h, _ => by cases h
  | _ :: _, _ :: _, [], _, h => by cases h
  | a :: x, b :: y, c :: z, h1, h2 => by
    simp only [lexO] at h1 h2 ⊢
    by_cases e1 : a = b
    · subst e1
      simp only [if_true] at h1
      by_cases e2 : a = c
      · subst e2
        simp only [if_true] at h2 ⊢
        exact lexO_trans ir tr x y z h1 h2
      · rw [if_neg e2] at h2 ⊢; exact h2
    · rw [if_neg e1] at h1
      by_cases e2 : b = c
      · subst e2
        rw [if_neg e1]; exact h1
      · rw [if_neg e2] at h2
        have h3 := tr _ _ _ h1 h2
        rw [if_neg (by rintro rfl; rw [ir] at h3; cases h3)]; exact h3
end
theorem ltDs_enc {α : Type} [DecidableEq α] [Enc α] [EncOrd α] : ∀ (x y : List α), ltDs (x.map enc) (y.map enc) = lexO (EncOrd.lt (α := α)) x y
  | [], [] => rfl
  | [], _ :: _ => rfl
  | _ :: _, [] => rfl
  | a :: x, b :: y => by simp only [List.map_cons, ltDs, lexO, Enc.eqv, ltDs_enc x y, EncOrd.ltd, decide_eq_true_eq]
theorem hasSl_enc {α : Type} [DecidableEq α] [Enc α] [EncOrd α] : ∀ (x : List α), hasSl (EncOrd.shp α) (x.map enc) = true
  | [] => rfl
  | a :: x => by simp only [List.map_cons, hasSl, EncOrd.hass, hasSl_enc x, Bool.and_self]
instance {α : Type} [DecidableEq α] [Enc α] [EncOrd α] : EncOrd (List α) where
  lt := lexO EncOrd.lt
  shp := .lst (EncOrd.shp α)
  hass := fun a => hasSl_enc a
  ltd := fun a b => ltDs_enc a b
  irr := lexO_irr
  trans := lexO_trans EncOrd.irr EncOrd.trans
  tot := lexO_tot EncOrd.tot
def T2.l (t : T2) : List Int := [t.a, t.b]
def T3.l (t : T3) : List Int := [t.a, t.b, t.c]
instance : EncOrd T2 where
  lt := fun x y => lexO (fun a b => decide (a < b)) x.l y.l
  shp := .tup [.int, .int]
  hass := fun _ => rfl
  ltd := fun a b => ltDs_enc a.l b.l
  irr := fun a => lexO_irr _
  trans := fun a b c => lexO_trans (α := Int) EncOrd.irr EncOrd.trans _ _ _
  tot := fun ⟨a, b⟩ ⟨c, d⟩ h1 h2 => by
    have := lexO_tot (α := Int) EncOrd.tot _ _ h1 h2
    simpa [T2.l] using this
instance : EncOrd T3 where
  lt := fun x y => lexO (fun a b => decide (a < b)) x.l y.l
  shp := .tup [.int, .int, .int]
  hass := fun _ => rfl
  ltd := fun a b => ltDs_enc a.l b.l
  irr := fun a => lexO_irr _
  trans := fun a b c => lexO_trans (α := Int) EncOrd.irr EncOrd.trans _ _ _
  tot := fun ⟨a, b, e⟩ ⟨c, d, f⟩ h1 h2 => by
    have := lexO_tot (α := Int) EncOrd.tot _ _ h1 h2
    simpa [T3.l] using this
section
variable {α : Type} [DecidableEq α] [Enc α] [EncOrd α]
def leO (a b : α) : Bool := !EncOrd.lt b a
theorem leO_trans (a b c : α) (h1 : leO a b = true) (h2 : leO b c = true) : leO a c = true := by
  unfold leO at *
  simp only [Bool.not_eq_true'] at *
  cases h : EncOrd.lt c a with
  | false => rfl
  | true =>
    by_cases e : a = b
    · subst e; rw [h] at h2; cases h2
    · have hab : EncOrd.lt a b = true := by
        cases q : EncOrd.lt a b with
        | true => rfl
        | false => exact absurd (EncOrd.tot _ _ q h1) e
      rw [EncOrd.trans _ _ _ h hab] at h2; cases h2
theorem leO_anti (a b : α) (h1 : leO a b = true) (h2 : leO b a = true) : a = b := by
  unfold leO at *
  exact EncOrd.tot a b (by simpa using h2) (by simpa using h1)
end
end K2
end
section
set_option autoImplicit false
set_option linter.all false
set_option maxRecDepth 100000
namespace K2
open PySem (Str)
mutual
theorem eqD_refl_S : ∀ (sh : Shp) (a : D), hasS sh a = true → eqD a a = true
  | .int, .int _, _ => by simp [eqD]
  | .tup l, .tup xs, h => by show eqDs xs xs = true; exact eqDs_refl_S l xs h
  | .lst l, .rol xs, h => by show eqDs xs xs = true; exact eqDs_refl_L l xs h
theorem eqDs_refl_S : ∀ (l : List Shp) (xs : List D), hasSs l xs = true → eqDs xs xs = true
  | [], [], _ => rfl
  | s :: l, x :: xs, h => by
    have h : (hasS s x && hasSs l xs) = true := h
    rw [Bool.and_eq_true] at h
    show (eqD x x && eqDs xs xs) = true
    rw [eqD_refl_S s x h.1, eqDs_refl_S l xs h.2]; rfl
theorem eqDs_refl_L : ∀ (s : Shp) (xs : List D), hasSl s xs = true → eqDs xs xs = true
  | _, [], _ => rfl
  | s, x :: xs, h => by
    have h : (hasS s x && hasSl s xs) = true := h
    rw [Bool.and_eq_true] at h
    show (eqD x x && eqDs xs xs) = true
    rw [eqD_refl_S s x h.1, eqDs_refl_L s xs h.2]; rfl
end
mutual
theorem eqD_S : ∀ (sh : Shp) (a b : D), hasS sh a = true → hasS sh b = true → eqD a b = true → a = b
  | .int, .int i, .int j, _, _, h => by simp [eqD] at h; rw [h]
  | .tup l, .tup xs, .tup ys, h1, h2, h => by rw [eqDs_S l xs ys h1 h2 h]
  | .lst l, .rol xs, .rol ys, h1, h2, h => by rw [eqDs_L l xs ys h1 h2 h]
theorem eqDs_S : ∀ (l : List Shp) (xs ys : List D), hasSs l xs = true → hasSs l ys = true → eqDs xs ys = true → xs = ys
  | [], [], [], _, _, _ => rfl
  | s :: l, x :: xs, y :: ys, h1, h2, h => by
    have h1 : (hasS s x && hasSs l xs) = true := h1
    have h2 : (hasS s y && hasSs l ys) = true := h2
    have h : (eqD x y && eqDs xs ys) = true := h
    rw [Bool.and_eq_true] at h1 h2 h
    rw [eqD_S s x y h1.1 h2.1 h.1, eqDs_S l xs ys h1.2 h2.2 h.2]
theorem eqDs_L : ∀ (s : Shp) (xs ys : List D), hasSl s xs = true → hasSl s ys = true → eqDs xs ys = true → xs = ys
  | _, [], [], _, _, _ => rfl
  | _, [], _ :: _, _, _, h => by cases h
  | _, _ :: _, [], _, _, h => by cases h
  | s, x :: xs, y :: ys, h1, h2, h => by
    have h1 : (hasS s x && hasSl s xs) = true := h1
    have h2 : (hasS s y && hasSl s ys) = true := h2
    have h : (eqD x y && eqDs xs ys) = true := h
    rw [Bool.and_eq_true] at h1 h2 h
    rw [eqD_S s x y h1.1 h2.1 h.1, eqDs_L s xs ys h1.2 h2.2 h.2]
end
mutual
theorem ltD_tot : ∀ (sh : Shp) (a b : D), hasS sh a = true → hasS sh b = true → ltD a b = false → ltD b a = false → a = b
  | .int, .int i, .int j, _, _, h1, h2 => by simp [ltD] at h1 h2; congr 1; omega
  | .tup l, .tup xs, .tup ys, h1, h2, h3, h4 => by rw [ltDs_tot l xs ys h1 h2 h3 h4]
  | .lst l, .rol xs, .rol ys, h1, h2, h3, h4 => by rw [ltDl_tot l xs ys h1 h2 h3 h4]
theorem ltDs_tot : ∀ (l : List Shp) (xs ys : List D), hasSs l xs = true → hasSs l ys = true → ltDs xs ys = false → ltDs ys xs = false → xs = ys
  | [], [], [], _, _, _, _ => rfl
  | s :: l, x :: xs, y :: ys, h1, h2, h3, h4 => by
    have h1 : (hasS s x && hasSs l xs) = true := h1
    have h2 : (hasS s y && hasSs l ys) = true := h2
    rw [Bool.and_eq_true] at h1 h2
    simp only [ltDs] at h3 h4
    by_cases e : eqD x y = true
    · have exy := eqD_S s x y h1.1 h2.1 e
      subst exy
      rw [if_pos e] at h3 h4
      rw [ltDs_tot l xs ys h1.2 h2.2 h3 h4]
    · rw [if_neg e] at h3
      by_cases e2 : eqD y x = true
      · have := eqD_S s y x h2.1 h1.1 e2
        subst this; exact absurd e2 e
      · rw [if_neg e2] at h4
        have := ltD_tot s x y h1.1 h2.1 h3 h4
        subst this
        exact absurd (eqD_refl_S s x h1.1) e
theorem ltDl_tot : ∀ (s : Shp) (xs ys : List D), hasSl s xs = true → hasSl s ys = true → ltDs xs ys = false → ltDs ys xs = false → xs = ys
  | _, [], [], _, _, _, _ => rfl
  | _, [], _ :: _, _, _, h, _ => by cases h
  | _, _ :: _, [], _, _, _, h => by cases h
  | s, x :: xs, y :: ys, h1, h2, h3, h4 => by
    have h1 : (hasS s x && hasSl s xs) = true := h1
    have h2 : (hasS s y && hasSl s ys) = true := h2
    rw [Bool.and_eq_true] at h1 h2
    simp only [ltDs] at h3 h4
    by_cases e : eqD x y = true
    · have exy := eqD_S s x y h1.1 h2.1 e
      subst exy
      rw [if_pos e] at h3 h4
      rw [ltDl_tot s xs ys h1.2 h2.2 h3 h4]
    · rw [if_neg e] at h3
      by_cases e2 : eqD y x = true
      · have := eqD_S s y x h2.1 h1.1 e2
        subst this; exact absurd e2 e
      · rw [if_neg e2] at h4
        have := ltD_tot s x y h1.1 h2.1 h3 h4
        subst this
        exact absurd (eqD_refl_S s x h1.1) e
end
mutual
theorem ltD_irr : ∀ (sh : Shp) (a : D), hasS sh a = true → ltD a a = false
  | .int, .int i, _ => by simp [ltD]
  | .tup l, .tup xs, h => by show ltDs xs xs = false; exact ltDs_irr l xs h
  | .lst l, .rol xs, h => by show ltDs xs xs = false; exact ltDl_irr l xs h
theorem ltDs_irr : ∀ (l : List Shp) (xs : List D), hasSs l xs = true → ltDs xs xs = false
  | [], [], _ => rfl
  | s :: l, x :: xs, h => by
    have h : (hasS s x && hasSs l xs) = true := h
    rw [Bool.and_eq_true] at h
    simp only [ltDs, eqD_refl_S s x h.1, if_true]; exact ltDs_irr l xs h.2
theorem ltDl_irr : ∀ (s : Shp) (xs : List D), hasSl s xs = true → ltDs xs xs = false
  | _, [], _ => rfl
  | s, x :: xs, h => by
    have h : (hasS s x && hasSl s xs) = true := h
    rw [Bool.and_eq_true] at h
    simp only [ltDs, eqD_refl_S s x h.1, if_true]; exact ltDl_irr s xs h.2
end
mutual
theorem ltD_trans : ∀ (sh : Shp) (a b c : D), hasS sh a = true → hasS sh b = true → hasS sh c = true → ltD a b = true → ltD b c = true → ltD a c = true
  | .int, .int i, .int j, .int k, _, _, _, h1, h2 => by simp [ltD] at *; omega
  | .tup l, .tup xs, .tup ys, .tup zs, h1, h2, h3, h4, h5 => ltDs_trans l xs ys zs h1 h2 h3 h4 h5
  | .lst l, .rol xs, .rol ys, .rol zs, h1, h2, h3, h4, h5 => ltDl_trans l xs ys zs h1 h2 h3 h4 h5
theorem ltDs_trans : ∀ (l : List Shp) (xs ys zs : List D), hasSs l xs = true → hasSs l ys = true → hasSs l zs = true → ltDs xs ys = true → ltDs ys zs = true → ltDs xs zs = true
  | [], [], [], [], _, _, _, h, _ => by cases h
  | s :: l, x :: xs, y :: ys, z :: zs, h1, h2, h3, h4, h5 => by
    have h1 : (hasS s x && hasSs l xs) = true := h1
    have h2 : (hasS s y && hasSs l ys) = true := h2
    have h3 : (hasS s z && hasSs l zs) = true := h3
    rw [Bool.and_eq_true] at h1 h2 h3
    simp only [ltDs] at h4 h5 ⊢
    by_cases e1 : eqD x y = true
    · have := eqD_S s x y h1.1 h2.1 e1
      subst this
      rw [if_pos e1] at h4
      by_cases e2 : eqD x z = true
      · rw [if_pos e2] at h5 ⊢
        exact ltDs_trans l xs ys zs h1.2 h2.2 h3.2 h4 h5
      · rw [if_neg e2] at h5 ⊢; exact h5
    · rw [if_neg e1] at h4
      by_cases e2 : eqD y z = true
      · have := eqD_S s y z h2.1 h3.1 e2
        subst this
        rw [if_neg e1]; exact h4
      · rw [if_neg e2] at h5
        have h6 := ltD_trans s x y z h1.1 h2.1 h3.1 h4 h5
        rw [if_neg (fun e3 => by
          have := eqD_S s x z h1.1 h3.1 e3
          subst this
          rw [ltD_irr s x h1.1] at h6; cases h6)]
        exact h6
theorem ltDl_trans : ∀ (s : Shp) (xs ys zs : List D), hasSl s xs = true → hasSl s ys = true → hasSl s zs = true → ltDs xs ys = true → ltDs ys zs = true → ltDs xs zs = true
  | _, [], [], _, _, _, _, h, _ => by cases h
  | _, [], _ :: _, [], _, _, _, _, h => by cases h
  | _, [], _ :: _, _ :: _, _, _, _, _, _ => rfl
  | _, _ :: _, [], _, _, _, _, h, _ => by cases h
  | _, _ :: _, _ :: _, [], _, _, _, _, h => by cases h
  | s, x :: xs, y :: ys, z :: zs, h1, h2, h3, h4, h5 => by
    have h1 : (hasS s x && hasSl s xs) = true := h1
    have h2 : (hasS s y && hasSl s ys) = true := h2
    have h3 : (hasS s z && hasSl s zs) = true := h3
    rw [Bool.and_eq_true] at h1 h2 h3
    simp only [ltDs] at h4 h5 ⊢
    by_cases e1 : eqD x y = true
    · have := eqD_S s x y h1.1 h2.1 e1
      subst this
      rw [if_pos e1] at h4
      by_cases e2 : eqD x z = true
      · rw [if_pos e2] at h5 ⊢
        exact ltDl_trans s xs ys zs h1.2 h2.2 h3.2 h4 h5
      · rw [if_neg e2] at h5 ⊢; exact h5
    · rw [if_neg e1] at h4
      by_cases e2 : eqD y z = true
      · have := eqD_S s y z h2.1 h3.1 e2
        subst this
        rw [if_neg e1]; exact h4
      · rw [if_neg e2] at h5
        have h6 := ltD_trans s x y z h1.1 h2.1 h3.1 h4 h5
        rw [if_neg (fun e3 => by
          have := eqD_S s x z h1.1 h3.1 e3
          subst this
          rw [ltD_irr s x h1.1] at h6; cases h6)]
        exact h6
end
end K2
end
section
set_option autoImplicit false
set_option linter.all false
set_option maxRecDepth 100000
namespace K2
open PySem (Str)
open Enc (enc)
def enumD (k : Nat) : List D → List D
  | [] => []
  | d :: r => .tup [.int (k : Int), d] :: enumD (k + 1) r
theorem enumD_get : ∀ (ds : List D) (k i : Nat), (enumD k ds)[i]? = (ds[i]?).map fun d => D.tup [.int ((k + i : Nat) : Int), d]
  | [], k, i => by simp [enumD]
  | d :: r, k, 0 => by simp [enumD]
  | d :: r, k, i + 1 => by
    rw [enumD, List.getElem?_cons_succ, enumD_get r (k + 1) i, List.getElem?_cons_succ]
    congr 1; funext x; congr 3; omega
theorem enumD_len : ∀ (ds : List D) (k : Nat), (enumD k ds).length = ds.length
  | [], _ => rfl
  | d :: r, k => by rw [enumD, List.length_cons, List.length_cons, enumD_len r]
def iEnumAt (x : D) (G1 : Gp) (R : List D → (Gp → Prop) → Gp → Prop) : Prop := match x with
  | .rol ds => R (enumD 0 ds) (fun _ => True) G1
  | .ref p => (match G1 p with
    | some (.lst ds) => R (enumD 0 ds) (fun G2 => G2 p = some (.lst ds)) G1
    | _ => False)
  | _ => False
def iEnum (a : TE2) : TI2 := fun E τ G R => a E τ G fun x G1 => iEnumAt x G1 R
def one1 (P : D → Gp → Prop) : List D → Gp → Prop
  | [x], G => P x G
  | _, _ => False
def IsL (G : Gp) (d : D) (ds : List D) : Prop := d = .rol ds ∨ ∃ a, d = .ref a ∧ G a = some (.lst ds)
theorem IsL.enc {α : Type} [DecidableEq α] [Enc α] {G : Gp} (xs : List α) : IsL G (enc xs) (xs.map enc) := .inl rfl
theorem IsL.ref {G : Gp} {a : Nat} {ds : List D} (h : G a = some (.lst ds)) : IsL G (.ref a) ds := .inr ⟨a, rfl, h⟩
theorem IsL.mono {G G' : Gp} {d : D} {ds : List D} (h : IsL G d ds) (l : GLe G G') : IsL G' d ds := by
  rcases h with h | ⟨a, h, e⟩
  · exact .inl h
  · exact .inr ⟨a, h, l a _ e⟩
theorem iAt_of {G : Gp} {d : D} {ds : List D} {R : List D → (Gp → Prop) → Gp → Prop} (h : IsL G d ds) (k : ∀ ok : Gp → Prop, (∀ G', GLe G G' → ok G') → R ds ok G) : iAt d G R := by
  rcases h with rfl | ⟨a, rfl, e⟩
  · exact k _ fun _ _ => trivial
  · rw [iAt_lst e]; exact k _ fun G' l => l a _ e
theorem isAt_of {G : Gp} {d : D} {ds : List D} {C : String} {Q : DK} (h : IsL G d ds) (k : Q (.bl (C == "list")) G) : isAt C d G Q := by
  rcases h with rfl | ⟨a, rfl, e⟩
  · exact k
  · rw [isAt_lst e]; exact k
theorem itemsOf_of {G : Gp} {d : D} {ds : List D} (h : IsL G d ds) : itemsOf d G = some ds := by
  rcases h with rfl | ⟨a, rfl, e⟩
  · rfl
  · unfold itemsOf; simp only [e]
theorem lstOf_of {G : Gp} {d : D} {ds : List D} (h : IsL G d ds) : lstOf d G = some ds := by
  rcases h with rfl | ⟨a, rfl, e⟩
  · rfl
  · unfold lstOf; simp only [e]
theorem cut_from {α : Type} (xs : List α) (i : Nat) (h : i ≤ xs.length) : cut xs (some (i : Int)) none = xs.drop i := by
  unfold cut sIx
  simp only
  rw [if_neg (by omega), Int.toNat_natCast, Nat.min_eq_left h]
  exact List.take_of_length_le (by rw [List.length_drop]; omega)
theorem cut_to {α : Type} (xs : List α) (i : Nat) (h : i ≤ xs.length) : cut xs none (some (i : Int)) = xs.take i := by
  unfold cut sIx
  simp only
  rw [if_neg (by omega), Int.toNat_natCast, Nat.min_eq_left h]
  simp
theorem cut_map {α β : Type} (f : α → β) (xs : List α) (lo hi : Option Int) : cut (xs.map f) lo hi = (cut xs lo hi).map f := by
  unfold cut; rw [List.length_map, List.map_take, List.map_drop]
theorem atI_nat {α : Type} (xs : List α) {k : Int} (h0 : 0 ≤ k) (h1 : k < xs.length) : atI xs k = some (xs[k.toNat]'(by omega)) := by
  unfold atI ixN
  rw [if_pos h0, if_pos h1]
  show xs[k.toNat]? = _
  exact List.getElem?_eq_getElem (by omega)
end K2
end
section
set_option autoImplicit false
set_option linter.all false
namespace K2
open PySem (Str)
open Enc (enc)
end K2
end
section
set_option autoImplicit false
set_option linter.all false
namespace K2
open PySem (Str)
open Enc (enc)
def rPow : R22
  | .int i, .int j, G, Q => (0 ≤ j ∧ j ≤ 1000000 ∧ i.natAbs < 2 ^ 64) ∧ Q (.int (i ^ j.toNat)) G
  | _, _, _, _ => False
theorem rPow_int {i j : Int} {G : Gp} {Q : DK} : rPow (.int i) (.int j) G Q = ((0 ≤ j ∧ j ≤ 1000000 ∧ i.natAbs < 2 ^ 64) ∧ Q (.int (i ^ j.toNat)) G) := rfl
section
variable {κ α : Type} [DecidableEq κ] [Enc κ] [DecidableEq α] [Enc α] {l : List (κ × α)} {G G' : Gp} {d : D}
end
section
variable {α : Type} [DecidableEq α] [Enc α] {l : List (Int × α)} {G : Gp} {d : D}
end
end K2
end
section
set_option autoImplicit false
set_option linter.all false
namespace K2
open PySem (Str)
open Enc (enc)
abbrev TF2 := XK2 → St2 → Gp → (List Str → Gp → Prop) → Prop
end K2
end
section
set_option autoImplicit false
set_option linter.all false
namespace K2
open PySem (Str)
open Enc (enc)
end K2
end
section
set_option autoImplicit false
set_option linter.all false
namespace K2
def dRaise (x : PySem.Str) (t : TA2) : TS2 := fun E _ τ G => t E τ G fun ds _ => ds.length ≤ SZ ∧ E ⟨x, []⟩ (fun _ => none)
end K2
namespace K2
open PySem (Str)
def dTryC (sp : Sp2) (t : TA2) (i : Nat) (cat : List Str) (th : TS2) : TS2 := fun _ K τ G =>
  t (fun _ _ => False) τ G fun ds G1 => sp ds (fun _ => none) (fun _ _ => K.nx τ G1) fun ex _ => cat.contains ex.cls = true ∧
    th (fun _ _ => False) ⟨fun τ' G' => K.nx (τ'.set i none) G', fun _ _ => False, fun _ _ => False, fun _ _ => False⟩ (τ.set i (some (.exc ex.cls))) G1
end K2
namespace K2
open PySem (Str)
def dIsiO (all sub : List Str) (a : TE2) : TE2 := fun E τ G Q => a E τ G fun x G1 => match x with
  | .non => Q (.bl false) G1
  | .exc c => all.contains c = true ∧ Q (.bl (sub.contains c)) G1
  | _ => False
end K2
namespace K2
open PySem (Str)
def dCallX (sp : Sp2) (t : TA2) : TE2 := fun E τ G Q => t E τ G fun ds G1 => sp ds G1 Q E
end K2
end
section
set_option autoImplicit false
set_option linter.all false
namespace K2
open PySem (Str)
open Enc (enc)
end K2
end
section
set_option autoImplicit false
set_option linter.all false
namespace K2
open PySem (Str)
open Enc (enc)
def dIsiV (all : List Str) (a : TE2) : TE2 := fun E τ G Q => a E τ G fun x G1 => match x with
  | .exc c => all.contains c = true ∧ Q (.bl true) G1
  | _ => False
end K2
end
section
set_option autoImplicit false
set_option linter.all false
namespace K2
open PySem (Str)
open Enc (enc)
def dChain (r r' : R22) (ta tb tc : TE2) : TE2 := fun E τ G Q => ta E τ G fun x G1 => tb E τ G1 fun y G2 => r x y G2 fun z G3 => ∃ k, z = .bl k ∧ (if k = true then tc E τ G3 fun w G4 => r' y w G4 Q else Q (.bl false) G3)
def dChainT (r r' : R22) (ta tb tc : TE2) : TT2 := fun E τ G Q => ta E τ G fun x G1 => tb E τ G1 fun y G2 => r x y G2 fun z G3 => ∃ k, z = .bl k ∧ (if k = true then tc E τ G3 fun w G4 => r' y w G4 (fun z' G5 => ∃ k', z' = .bl k' ∧ Q k' G5) else Q false G3)
def cAbs (ds : List D) (G : Gp) (Q : DK) : Prop := match ds with
  | [.int i] => Q (.int (if i < 0 then -i else i)) G
  | _ => False
def iEnumNAt (x : D) (n : Nat) (G1 : Gp) (R : List D → (Gp → Prop) → Gp → Prop) : Prop := match x with
  | .rol ds => R (enumD n ds) (fun _ => True) G1
  | .ref p => (match G1 p with
    | some (.lst ds) => R (enumD n ds) (fun G2 => G2 p = some (.lst ds)) G1
    | _ => False)
  | _ => False
def iEnumN (a : TE2) (n : Nat) : TI2 := fun E τ G R => a E τ G fun x G1 => iEnumNAt x n G1 R
end K2
end
section
set_option autoImplicit false
set_option linter.all false
namespace K2
end K2
end
section
namespace K2
open PySem PySem.Spec PyProof.Rows L2
set_option autoImplicit false
def SqF (K : PySem.W.Frag) (H : Hp) (a : Addr) (xs : List V) : Prop :=
  (∃ o, H a = some (.frz o (.lst xs))) ∨
    ∃ (o : Obj) (its : Array Value) (n : Nat), K.lookup a = some o ∧ o.cls = .type "list" ∧ o.dict = none ∧ o.data = .seq its n ∧ its.size ≤ sizeLine ∧ Vals xs its.toList
theorem SqF.sq {K : PySem.W.Frag} {H : Hp} {a : Addr} {xs : List V} (h : SqF K H a xs) : SqL K H a xs := by
  rcases h with ⟨o, h⟩ | h
  · exact .inl (.inr ⟨o, h⟩)
  · exact .inr h
def keyD : Key → D
  | .inl i => .int i
  | .inr x => .str x
def ExcAt (K : PySem.W.Frag) (H : Hp) (a : Addr) (c : Str) : Prop := ∃ (o : Obj) (C : Addr), H a = some (.frz o (.ext fun h => h.get? a = some o)) ∧ o.cls = .ref C ∧ PySem.W.nsIn K mainGlobals c = some (some (.ref C))
mutual
inductive RepD (K : PySem.W.Frag) (H : Hp) : V → D → Prop
  | non : RepD K H .non .non
  | bl (b : Bool) : RepD K H (.bl b) (.bl b)
  | int (i : Int) : RepD K H (.int i) (.int i)
  | str (x : Str) : RepD K H (.str x) (.str x)
  | tup {a : Addr} {vs : List V} {ds : List D} : H a = some (.tup vs) → RepDs K H vs ds → RepD K H (.ref a) (.tup ds)
  | rol {a : Addr} {vs : List V} {ds : List D} : SqF K H a vs → RepDs K H vs ds → RepD K H (.ref a) (.rol ds)
  | rodK {a : Addr} {o : Obj} {kv : List (Key × V)} {kvs : List (D × D)} : H a = some (.frz o (.dK kv)) → DKs K H kv kvs → RepD K H (.ref a) (.rod kvs)
  | rodT {a : Addr} {o : Obj} {kv : List (List Key × V)} {kvs : List (D × D)} : H a = some (.frz o (.dT kv)) → DTs K H kv kvs → RepD K H (.ref a) (.rod kvs)
  | ref (a : Addr) : RepD K H (.ref a) (.ref a)
  | exc {a : Addr} {c : Str} : ExcAt K H a c → RepD K H (.ref a) (.exc c)
inductive RepDs (K : PySem.W.Frag) (H : Hp) : List V → List D → Prop
  | nil : RepDs K H [] []
  | cons {v : V} {d : D} {vs : List V} {ds : List D} : RepD K H v d → RepDs K H vs ds → RepDs K H (v :: vs) (d :: ds)
inductive DKs (K : PySem.W.Frag) (H : Hp) : List (Key × V) → List (D × D) → Prop
  | nil : DKs K H [] []
  | cons {k : Key} {v : V} {d : D} {r : List (Key × V)} {t : List (D × D)} : RepD K H v d → DKs K H r t → DKs K H ((k, v) :: r) ((keyD k, d) :: t)
inductive DTs (K : PySem.W.Frag) (H : Hp) : List (List Key × V) → List (D × D) → Prop
  | nil : DTs K H [] []
  | cons {k : List Key} {v : V} {d : D} {r : List (List Key × V)} {t : List (D × D)} : RepD K H v d → DTs K H r t → DTs K H ((k, v) :: r) ((.tup (k.map keyD), d) :: t)
end
structure Kp (H H' : Hp) : Prop where
  tup : ∀ a xs, H a = some (.tup xs) → H' a = some (.tup xs)
  frz : ∀ a o u, H a = some (.frz o u) → H' a = some (.frz o u)
theorem Kp.refl (H : Hp) : Kp H H := ⟨fun _ _ h => h, fun _ _ _ h => h⟩
theorem Kp.trans {H H1 H2 : Hp} (a : Kp H H1) (b : Kp H1 H2) : Kp H H2 := ⟨fun c xs h => b.tup c xs (a.tup c xs h), fun c o u h => b.frz c o u (a.frz c o u h)⟩
theorem Kp.sqT {K : PySem.W.Frag} {H H' : Hp} {a : Addr} {xs : List V} (k : Kp H H') (h : SqT K H a xs) : SqT K H' a xs := by
  rcases h with (h | ⟨o, h⟩) | h
  · exact .inl (.inl (k.tup _ _ h))
  · exact .inl (.inr ⟨o, k.frz _ _ _ h⟩)
  · exact .inr h
theorem Kp.sqF {K : PySem.W.Frag} {H H' : Hp} {a : Addr} {xs : List V} (k : Kp H H') (h : SqF K H a xs) : SqF K H' a xs := by
  rcases h with ⟨o, h⟩ | h
  · exact .inl ⟨o, k.frz _ _ _ h⟩
  · exact .inr h
theorem ExcAt.mono {K : PySem.W.Frag} {H H' : Hp} (k : Kp H H') {a : Addr} {c : Str} (h : ExcAt K H a c) : ExcAt K H' a c :=
  let ⟨o, C, h1, h2, h3⟩ := h
  ⟨o, C, k.frz _ _ _ h1, h2, h3⟩
mutual
theorem RepD.mono {K : PySem.W.Frag} {H H' : Hp} (k : Kp H H') : ∀ {v : V} {d : D}, RepD K H v d → RepD K H' v d
  | _, _, .non => .non
  | _, _, .bl b => .bl b
  | _, _, .int i => .int i
  | _, _, .str x => .str x
  | _, _, .tup h r => .tup (k.tup _ _ h) (RepDs.mono k r)
  | _, _, .rol h r => .rol (k.sqF h) (RepDs.mono k r)
  | _, _, .rodK h r => .rodK (k.frz _ _ _ h) (DKs.mono k r)
  | _, _, .rodT h r => .rodT (k.frz _ _ _ h) (DTs.mono k r)
  | _, _, .ref a => .ref a
  | _, _, .exc h => .exc (h.mono k)
theorem RepDs.mono {K : PySem.W.Frag} {H H' : Hp} (k : Kp H H') : ∀ {v : List V} {d : List D}, RepDs K H v d → RepDs K H' v d
  | _, _, .nil => .nil
  | _, _, .cons r t => .cons (RepD.mono k r) (RepDs.mono k t)
theorem DKs.mono {K : PySem.W.Frag} {H H' : Hp} (k : Kp H H') : ∀ {v : List (Key × V)} {d : List (D × D)}, DKs K H v d → DKs K H' v d
  | _, _, .nil => .nil
  | _, _, .cons r t => .cons (RepD.mono k r) (DKs.mono k t)
theorem DTs.mono {K : PySem.W.Frag} {H H' : Hp} (k : Kp H H') : ∀ {v : List (List Key × V)} {d : List (D × D)}, DTs K H v d → DTs K H' v d
  | _, _, .nil => .nil
  | _, _, .cons r t => .cons (RepD.mono k r) (DTs.mono k t)
end
theorem RepDs.length {K : PySem.W.Frag} {H : Hp} : ∀ {vs : List V} {ds : List D}, RepDs K H vs ds → vs.length = ds.length
  | _, _, .nil => rfl
  | _, _, .cons _ t => by rw [List.length_cons, List.length_cons, RepDs.length t]
theorem RepDs.get {K : PySem.W.Frag} {H : Hp} : ∀ {vs : List V} {ds : List D} {i : Nat} {d : D}, RepDs K H vs ds → ds[i]? = some d → ∃ v, vs[i]? = some v ∧ RepD K H v d
  | _, _, _, _, .nil, e => by simp at e
  | _, _, 0, _, .cons r _, e => by simp at e; subst e; exact ⟨_, rfl, r⟩
  | _, _, i + 1, d, .cons _ t, e => by
    obtain ⟨u, h1, h2⟩ := RepDs.get (i := i) (d := d) t (by simpa using e)
    exact ⟨u, by simpa using h1, h2⟩
theorem RepDs.append {K : PySem.W.Frag} {H : Hp} : ∀ {vs ws : List V} {ds es : List D}, RepDs K H vs ds → RepDs K H ws es → RepDs K H (vs ++ ws) (ds ++ es)
  | _, _, _, _, .nil, s => s
  | _, _, _, _, .cons r t, s => .cons r (RepDs.append t s)
theorem RepDs.take {K : PySem.W.Frag} {H : Hp} : ∀ {vs : List V} {ds : List D} (n : Nat), RepDs K H vs ds → RepDs K H (vs.take n) (ds.take n)
  | _, _, 0, _ => .nil
  | _, _, _ + 1, .nil => .nil
  | _, _, n + 1, .cons r t => .cons r (RepDs.take n t)
theorem RepDs.drop {K : PySem.W.Frag} {H : Hp} : ∀ {vs : List V} {ds : List D} (n : Nat), RepDs K H vs ds → RepDs K H (vs.drop n) (ds.drop n)
  | _, _, 0, r => r
  | _, _, _ + 1, .nil => .nil
  | _, _, n + 1, .cons _ t => RepDs.drop n t
theorem RepDs.one {K : PySem.W.Frag} {H : Hp} : ∀ {vs : List V} {d : D}, RepDs K H vs [d] → ∃ v, vs = [v] ∧ RepD K H v d
  | _, _, .cons r .nil => ⟨_, rfl, r⟩
theorem RepDs.two {K : PySem.W.Frag} {H : Hp} : ∀ {vs : List V} {d e : D}, RepDs K H vs [d, e] → ∃ v u, vs = [v, u] ∧ RepD K H v d ∧ RepD K H u e
  | _, _, _, .cons r (.cons q .nil) => ⟨_, _, rfl, r, q⟩
theorem RepDs.zero {K : PySem.W.Frag} {H : Hp} : ∀ {vs : List V}, RepDs K H vs [] → vs = []
  | _, .nil => rfl
theorem RepDs.ints {K : PySem.W.Frag} {H : Hp} : ∀ {vs : List V} {ns : List Int}, RepDs K H vs (ns.map D.int) → vs = ns.map V.int
  | _, [], h => by rw [List.map_nil] at h; rw [h.zero]; rfl
  | _, n :: ns, h => by
    rw [List.map_cons] at h
    cases h with
    | cons r t =>
      cases r
      rw [RepDs.ints t]; rfl
theorem RepDs.of_ints {K : PySem.W.Frag} {H : Hp} : ∀ (ns : List Int), RepDs K H (ns.map V.int) (ns.map D.int)
  | [] => .nil
  | n :: ns => .cons (.int n) (RepDs.of_ints ns)
theorem DKs.ind {K : PySem.W.Frag} {H : Hp} {motive : ∀ (kv : List (Key × V)) (kvs : List (D × D)), DKs K H kv kvs → Prop} (nil : motive [] [] .nil)
    (cons : ∀ {k : Key} {v : V} {d : D} {r : List (Key × V)} {t : List (D × D)} (re : RepD K H v d) (rs : DKs K H r t), motive r t rs → motive ((k, v) :: r) ((keyD k, d) :: t) (.cons re rs)) : ∀ {kv : List (Key × V)} {kvs : List (D × D)} (h : DKs K H kv kvs), motive kv kvs h
  | _, _, .nil => nil
  | _, _, .cons h r => cons h r (DKs.ind nil cons r)
theorem DTs.ind {K : PySem.W.Frag} {H : Hp} {motive : ∀ (kv : List (List Key × V)) (kvs : List (D × D)), DTs K H kv kvs → Prop} (nil : motive [] [] .nil)
    (cons : ∀ {k : List Key} {v : V} {d : D} {r : List (List Key × V)} {t : List (D × D)} (re : RepD K H v d) (rs : DTs K H r t), motive r t rs → motive ((k, v) :: r) ((.tup (k.map keyD), d) :: t) (.cons re rs)) : ∀ {kv : List (List Key × V)} {kvs : List (D × D)} (h : DTs K H kv kvs), motive kv kvs h
  | _, _, .nil => nil
  | _, _, .cons h r => cons h r (DTs.ind nil cons r)
theorem DKs.length {K : PySem.W.Frag} {H : Hp} : ∀ {v : List (Key × V)} {d : List (D × D)}, DKs K H v d → v.length = d.length
  | _, _, .nil => rfl
  | _, _, .cons _ t => by rw [List.length_cons, List.length_cons, DKs.length t]
def AbO (K : PySem.W.Frag) (H : Hp) (a : Addr) : GO → Prop
  | .lst ds => ∃ vs, H a = some (.lst vs) ∧ RepDs K H vs ds
  | .dic kvs => (∃ kv, H a = some (.dK kv) ∧ DKs K H kv kvs) ∨ ∃ kv, H a = some (.dT kv) ∧ DTs K H kv kvs
def AbH (K : PySem.W.Frag) (H : Hp) (G : Gp) : Prop := ∀ a g, G a = some g → AbO K H a g
theorem AbO.mono {K : PySem.W.Frag} {H H' : Hp} {a : Addr} {g : GO} (k : Kp H H') (e : H' a = H a) (h : AbO K H a g) : AbO K H' a g := by
  cases g with
  | lst ds => obtain ⟨vs, q, r⟩ := h; exact ⟨vs, e.trans q, r.mono k⟩
  | dic kvs =>
    rcases h with ⟨kv, q, r⟩ | ⟨kv, q, r⟩
    · exact .inl ⟨kv, e.trans q, r.mono k⟩
    · exact .inr ⟨kv, e.trans q, r.mono k⟩
theorem AbO.tracked {K : PySem.W.Frag} {H : Hp} {a : Addr} {g : GO} (h : AbO K H a g) : H a ≠ none := by
  cases g with
  | lst ds => obtain ⟨vs, q, r⟩ := h; rw [q]; simp
  | dic kvs =>
    rcases h with ⟨kv, q, r⟩ | ⟨kv, q, r⟩
    · rw [q]; simp
    · rw [q]; simp
theorem AbH.free {K : PySem.W.Frag} {H : Hp} {G : Gp} {a : Addr} (h : AbH K H G) (e : H a = none) : G a = none := by
  cases q : G a with
  | none => rfl
  | some g => exact absurd e (h a g q).tracked
theorem AbH.notup {K : PySem.W.Frag} {H : Hp} {G : Gp} {a : Addr} {xs : List V} (h : AbH K H G) (e : H a = some (.tup xs)) : G a = none := by
  cases q : G a with
  | none => rfl
  | some g =>
    have z := h a g q
    cases g with
    | lst ds => obtain ⟨vs, q, r⟩ := z; rw [e] at q; cases q
    | dic kvs =>
      rcases z with ⟨kv, q, r⟩ | ⟨kv, q, r⟩
      · rw [e] at q; cases q
      · rw [e] at q; cases q
theorem AbH.nofrz {K : PySem.W.Frag} {H : Hp} {G : Gp} {a : Addr} {o : Obj} {u : HO} (h : AbH K H G) (e : H a = some (.frz o u)) : G a = none := by
  cases q : G a with
  | none => rfl
  | some g =>
    have z := h a g q
    cases g with
    | lst ds => obtain ⟨vs, q, r⟩ := z; rw [e] at q; cases q
    | dic kvs =>
      rcases z with ⟨kv, q, r⟩ | ⟨kv, q, r⟩
      · rw [e] at q; cases q
      · rw [e] at q; cases q
structure Mv (K : PySem.W.Frag) (H : Hp) (G : Gp) (H' : Hp) (G' : Gp) : Prop where
  keep : ∀ a o, H a = some o → G a = none → H' a = some o ∧ G' a = none
  stay : ∀ a, G a ≠ none → H' a ≠ none
  ab : AbH K H' G'
theorem Mv.refl {K : PySem.W.Frag} {H : Hp} {G : Gp} (h : AbH K H G) : Mv K H G H G := ⟨fun _ _ e n => ⟨e, n⟩, fun a n => by
  cases q : G a with
  | none => exact absurd q n
  | some g => exact (h a g q).tracked, h⟩
theorem Mv.trans {K : PySem.W.Frag} {H H1 H2 : Hp} {G G1 G2 : Gp} (a : Mv K H G H1 G1) (b : Mv K H1 G1 H2 G2) : Mv K H G H2 G2 :=
  ⟨fun c o e n => let ⟨e1, n1⟩ := a.keep c o e n; b.keep c o e1 n1, fun c n => by
    have h1 := a.stay c n
    cases q : G1 c with
    | some g => exact b.stay c (by rw [q]; simp)
    | none =>
      cases q1 : H1 c with
      | none => exact absurd q1 h1
      | some o => rw [(b.keep c o q1 q).1]; simp, b.ab⟩
theorem Mv.kp {K : PySem.W.Frag} {H H' : Hp} {G G' : Gp} (m : Mv K H G H' G') (h : AbH K H G) : Kp H H' :=
  ⟨fun a xs e => (m.keep a _ e (h.notup e)).1, fun a o u e => (m.keep a _ e (h.nofrz e)).1⟩
theorem Kp.new {H : Hp} {p : Addr} {o : HO} (hp : H p = none) : Kp H (upd H p o) := ⟨fun a xs e => by rw [upd_ne (ne_of_none e hp)]; exact e, fun a ob u e => by rw [upd_ne (ne_of_none e hp)]; exact e⟩
theorem Kp.putL {H : Hp} {p : Addr} {xs : List V} {o : HO} (hp : H p = some (.lst xs)) : Kp H (upd H p o) :=
  ⟨fun a ys e => by rw [upd_ne (by rintro rfl; rw [hp] at e; cases e)]; exact e, fun a ob u e => by rw [upd_ne (by rintro rfl; rw [hp] at e; cases e)]; exact e⟩
theorem Mv.new {K : PySem.W.Frag} {H : Hp} {G : Gp} {p : Addr} {o : HO} {g : GO} (h : AbH K H G) (hp : H p = none) (ho : AbO K (upd H p o) p g) : Mv K H G (upd H p o) (updG G p g) where
  keep := fun a ob e n => by
    have ne := ne_of_none e hp
    exact ⟨by rw [upd_ne ne]; exact e, by rw [updG_ne ne]; exact n⟩
  stay := fun a n => by
    have ne : a ≠ p := by rintro rfl; exact n (h.free hp)
    rw [upd_ne ne]
    exact (Mv.refl h).stay a n
  ab := fun a g' e => by
    by_cases ha : a = p
    · subst ha; rw [updG_same] at e; cases e; exact ho
    · rw [updG_ne ha] at e
      exact (h a g' e).mono (.new hp) (upd_ne ha)
theorem Mv.hid {K : PySem.W.Frag} {H : Hp} {G : Gp} {p : Addr} {o : HO} (h : AbH K H G) (hp : H p = none) : Mv K H G (upd H p o) G where
  keep := fun a ob e n => ⟨by rw [upd_ne (ne_of_none e hp)]; exact e, n⟩
  stay := fun a n => by
    have ne : a ≠ p := by rintro rfl; exact n (h.free hp)
    rw [upd_ne ne]
    exact (Mv.refl h).stay a n
  ab := fun a g' e => by
    have ne : a ≠ p := by rintro rfl; rw [h.free hp] at e; cases e
    exact (h a g' e).mono (.new hp) (upd_ne ne)
theorem Mv.put {K : PySem.W.Frag} {H : Hp} {G : Gp} {p : Addr} {o : HO} {g g0 : GO} (h : AbH K H G) (hg : G p = some g0) (k : Kp H (upd H p o)) (ho : AbO K (upd H p o) p g) : Mv K H G (upd H p o) (updG G p g) where
  keep := fun a ob e n => by
    have ne : a ≠ p := by rintro rfl; rw [hg] at n; cases n
    exact ⟨by rw [upd_ne ne]; exact e, by rw [updG_ne ne]; exact n⟩
  stay := fun a n => by
    by_cases ha : a = p
    · subst ha; rw [upd_same]; simp
    · rw [upd_ne ha]; exact (Mv.refl h).stay a n
  ab := fun a g' e => by
    by_cases ha : a = p
    · subst ha; rw [updG_same] at e; cases e; exact ho
    · rw [updG_ne ha] at e
      exact (h a g' e).mono k (upd_ne ha)
theorem AbH.lst {K : PySem.W.Frag} {H : Hp} {G : Gp} {a : Addr} {ds : List D} (h : AbH K H G) (e : G a = some (.lst ds)) : ∃ vs, H a = some (.lst vs) ∧ RepDs K H vs ds := h a _ e
theorem Mv.newL {K : PySem.W.Frag} {H : Hp} {G : Gp} {p : Addr} {vs : List V} {ds : List D} (h : AbH K H G) (hp : H p = none) (r : RepDs K H vs ds) : Mv K H G (upd H p (.lst vs)) (updG G p (.lst ds)) :=
  .new h hp ⟨vs, upd_same, r.mono (.new hp)⟩
theorem Mv.putL {K : PySem.W.Frag} {H : Hp} {G : Gp} {p : Addr} {vs0 vs : List V} {ds0 ds : List D} (h : AbH K H G) (hg : G p = some (.lst ds0)) (hp : H p = some (.lst vs0)) (r : RepDs K H vs ds) : Mv K H G (upd H p (.lst vs)) (updG G p (.lst ds)) :=
  .put h hg (.putL hp) ⟨vs, upd_same, r.mono (.putL hp)⟩
structure AbS (K : PySem.W.Frag) (H : Hp) (σ : L2.St) (τ : St2) : Prop where
  len : σ.length = τ.length
  at' : ∀ (i : Nat) (d : D), τ[i]? = some (some d) → ∃ v, σ[i]? = some (some v) ∧ RepD K H v d
theorem AbS.mono {K : PySem.W.Frag} {H H' : Hp} {σ : L2.St} {τ : St2} (k : Kp H H') (a : AbS K H σ τ) : AbS K H' σ τ :=
  ⟨a.len, fun i d e => let ⟨v, h1, h2⟩ := a.at' i d e; ⟨v, h1, h2.mono k⟩⟩
theorem AbS.set {K : PySem.W.Frag} {H : Hp} {σ : L2.St} {τ : St2} {v : V} {d : D} (a : AbS K H σ τ) (i : Nat) (r : RepD K H v d) : AbS K H (σ.set i (some v)) (τ.set i (some d)) := by
  refine ⟨by rw [List.length_set, List.length_set]; exact a.len, fun j e h => ?_⟩
  by_cases hj : i = j
  · subst hj
    by_cases hi : i < τ.length
    · rw [List.getElem?_set_self hi] at h
      cases h
      exact ⟨v, by rw [List.getElem?_set_self (by rw [a.len]; exact hi)], r⟩
    · rw [List.set_eq_of_length_le (by omega)] at h
      rw [List.getElem?_eq_none (by omega)] at h
      cases h
  · rw [List.getElem?_set_ne hj] at h
    obtain ⟨w, h1, h2⟩ := a.at' j e h
    exact ⟨w, by rw [List.getElem?_set_ne hj]; exact h1, h2⟩
structure I2 (X : Cx) (pins : List (Addr × Obj)) (σ : L2.St) (H : Hp) (τ : St2) (G : Gp) (s : Shared) : Prop where
  inv : Inv X pins σ H s
  st : AbS X.K H σ τ
  ab : AbH X.K H G
theorem I2.mv {X : Cx} {pins : List (Addr × Obj)} {σ : L2.St} {H H' : Hp} {τ : St2} {G G' : Gp} {s s' : Shared} (I : I2 X pins σ H τ G s) (I' : Inv X pins σ H' s') (m : Mv X.K H G H' G') : I2 X pins σ H' τ G' s' :=
  ⟨I', I.st.mono (m.kp I.ab), m.ab⟩
def CXe (P : Program) (w : World) : CXT := fun outer H s E e s' => ∃ (a C t : Addr) (B : Heap) (H' : Hp), e = .ref a ∧ s'.os = s.os ∧ AllBare s'.gens ∧ Un (frs outer) [] H H' s.heap s'.heap ∧ HOk P w H' s'.heap ∧
  (∀ b o, s'.heap.get? b = some o → b ∉ frs outer → (s.heap.get? b ≠ none ∨ H' b ≠ none) → B.get? b = some o) ∧ PySem.Heap.FlyingW B outer a (.ref C) (.ref t) s'.heap ∧ H' a = none ∧ s.heap.get? a = none ∧ E (.ref C) none H'
def exK (mg : Str → Option Value) (E : XK2) : XK := fun cls _ _ => ∃ (ex : Ex) (C : Addr), cls = .ref C ∧ mg ex.cls = some (.ref C) ∧ E ex (fun _ => none)
structure Lk (X : Cx) (E : XK2) : Prop where
  made : ∀ (pins : List (Addr × Obj)) (σ : L2.St) (H : Hp) (s : Shared) (h1 : Heap) (a C : Addr) (args : List Value) (ex : Ex), Inv X pins σ H s → PySem.Heap.MadeExcOf s.heap h1 a (.ref C) args → X.mg ex.cls = some (.ref C) → E ex (fun _ => none) → X.xe (.ref a) { s with heap := h1 }
  pass : ∀ (pins : List (Addr × Obj)) (σ : L2.St) (H : Hp) (s s' : Shared) (e : Value), Inv X pins σ H s → CXe X.prog X.w X.stack H s (exK X.mg E) e s' → X.xe e s'
theorem Lk.none {X : Cx} {E : XK2} (h : ∀ ex G, ¬ E ex G) : Lk X E where
  made := fun _ _ _ _ _ _ _ _ ex _ _ _ z => absurd z (h ex _)
  pass := fun _ _ _ _ _ _ _ ⟨_, _, _, _, _, _, _, _, _, _, _, _, _, _, ex, _, _, _, z⟩ => absurd z (h ex _)
def EP2 (X : Cx) (pins : List (Addr × Obj)) (σ : L2.St) (H : Hp) (G : Gp) (Q : DK) (u : Value) (s' : Shared) : Prop :=
  ∃ v H' d G', Inv X pins σ H' s' ∧ Mv X.K H G H' G' ∧ RelV v u ∧ RepD X.K H' v d ∧ Q d G'
def TP2 (X : Cx) (pins : List (Addr × Obj)) (σ : L2.St) (H : Hp) (G : Gp) (Q : Bool → Gp → Prop) (b : Bool) (s' : Shared) : Prop :=
  ∃ H' G', Inv X pins σ H' s' ∧ Mv X.K H G H' G' ∧ Q b G'
def AP2 (X : Cx) (pins : List (Addr × Obj)) (σ : L2.St) (H : Hp) (G : Gp) (Q : List D → Gp → Prop) (us : List Value) (s' : Shared) : Prop :=
  ∃ vs H' ds G', Inv X pins σ H' s' ∧ Mv X.K H G H' G' ∧ Vals vs us ∧ RepDs X.K H' vs ds ∧ Q ds G'
def SP2 (X : Cx) (pins : List (Addr × Obj)) (H : Hp) (G : Gp) (D : Ends2) (f : Flow) (s' : Shared) : Prop :=
  match f with
  | .next => ∃ σ' H' τ' G', I2 X pins σ' H' τ' G' s' ∧ Mv X.K H G H' G' ∧ D.nx τ' G'
  | .brk => ∃ σ' H' τ' G', I2 X pins σ' H' τ' G' s' ∧ Mv X.K H G H' G' ∧ D.bk τ' G'
  | .cont => ∃ σ' H' τ' G', I2 X pins σ' H' τ' G' s' ∧ Mv X.K H G H' G' ∧ D.ct τ' G'
  | .ret u => ∃ v σ' H' d G', Inv X pins σ' H' s' ∧ Mv X.K H G H' G' ∧ RelV v u ∧ RepD X.K H' v d ∧ D.rt d G'
def PE2 (X : Cx) (e : Expr) (t : TE2) : Prop :=
  ∀ (E : XK2) (pins : List (Addr × Obj)) (s : Shared) (σ : L2.St) (H : Hp) (τ : St2) (G : Gp) (Q : DK), Lk X E → I2 X pins σ H τ G s → t E τ G Q → wpAny (model X.prog X.w) X.A (eval e X.env) (EP2 X pins σ H G Q) X.xe s
def PT2 (X : Cx) (e : Expr) (t : TT2) : Prop :=
  ∀ (E : XK2) (pins : List (Addr × Obj)) (s : Shared) (σ : L2.St) (H : Hp) (τ : St2) (G : Gp) (Q : Bool → Gp → Prop), Lk X E → I2 X pins σ H τ G s → t E τ G Q → wpAny (model X.prog X.w) X.A (isTrue e X.env (eval e X.env)) (TP2 X pins σ H G Q) X.xe s
def PW2 (X : Cx) (e : Expr) (t : TT2) : Prop :=
  ∀ (wh : Sem Value) (E : XK2) (pins : List (Addr × Obj)) (s : Shared) (σ : L2.St) (H : Hp) (τ : St2) (G : Gp) (Q : Bool → Gp → Prop), Lk X E → I2 X pins σ H τ G s → t E τ G Q → wpAny (model X.prog X.w) X.A (isTrue e X.env wh) (TP2 X pins σ H G Q) X.xe s
def PA2 (X : Cx) (es : List Expr) (t : TA2) : Prop :=
  ∀ (pos : Pos) (E : XK2) (pins : List (Addr × Obj)) (s : Shared) (σ : L2.St) (H : Hp) (τ : St2) (G : Gp) (Q : List D → Gp → Prop), Lk X E → I2 X pins σ H τ G s → t E τ G Q → wpAny (model X.prog X.w) X.A (spliced (backTo pos (starEach es X.env))) (AP2 X pins σ H G Q) X.xe s
def PS2 (X : Cx) (st : Stmt) (t : TS2) : Prop :=
  ∀ (E : XK2) (pins : List (Addr × Obj)) (s : Shared) (σ : L2.St) (H : Hp) (τ : St2) (G : Gp) (D : Ends2), Lk X E → I2 X pins σ H τ G s → t E D τ G → wpAny (model X.prog X.w) X.A (exec st X.env) (SP2 X pins H G D) X.xe s
def PSs2 (X : Cx) (st : List Stmt) (t : TS2) : Prop :=
  ∀ (E : XK2) (pins : List (Addr × Obj)) (s : Shared) (σ : L2.St) (H : Hp) (τ : St2) (G : Gp) (D : Ends2), Lk X E → I2 X pins σ H τ G s → t E D τ G → wpAny (model X.prog X.w) X.A (execs st X.env) (SP2 X pins H G D) X.xe s
theorem SP2.trans {X : Cx} {pins : List (Addr × Obj)} {H H1 : Hp} {G G1 : Gp} {D : Ends2} {f : Flow} {s' : Shared} (m : Mv X.K H G H1 G1) (h : SP2 X pins H1 G1 D f s') : SP2 X pins H G D f s' := by
  cases f with
  | next => obtain ⟨σ', H', τ', G', I, m', q⟩ := h; exact ⟨σ', H', τ', G', I, m.trans m', q⟩
  | brk => obtain ⟨σ', H', τ', G', I, m', q⟩ := h; exact ⟨σ', H', τ', G', I, m.trans m', q⟩
  | cont => obtain ⟨σ', H', τ', G', I, m', q⟩ := h; exact ⟨σ', H', τ', G', I, m.trans m', q⟩
  | ret u => obtain ⟨v, σ', H', d, G', I, m', r, rd, q⟩ := h; exact ⟨v, σ', H', d, G', I, m.trans m', r, rd, q⟩
section
variable {X : Cx} {a b c : Expr} {ta tb tc : TE2} {pos : Pos}
theorem thnE {pins : List (Addr × Obj)} {σ : L2.St} {H : Hp} {τ : St2} {G : Gp} {s : Shared} {E : XK2} {R : DK} {Q : Value → Shared → Prop} (ha : PE2 X a ta) (hE : Lk X E) (I : I2 X pins σ H τ G s) (h : ta E τ G R)
    (k : ∀ v H1 d G1 u s1, I2 X pins σ H1 τ G1 s1 → Mv X.K H G H1 G1 → RelV v u → RepD X.K H1 v d → R d G1 → Q u s1) : wpAny (model X.prog X.w) X.A (eval a X.env) Q X.xe s :=
  thn (ha E pins s σ H τ G R hE I h) fun u s1 ⟨v, H1, d, G1, I1, m, r, rd, q⟩ => k v H1 d G1 u s1 (I.mv I1 m) m r rd q
theorem EP2.trans {pins : List (Addr × Obj)} {σ : L2.St} {H H1 : Hp} {G G1 : Gp} {Q : DK} {u : Value} {s' : Shared} (m : Mv X.K H G H1 G1) (h : EP2 X pins σ H1 G1 Q u s') : EP2 X pins σ H G Q u s' := by
  obtain ⟨v, H', d, G', I, m', r⟩ := h
  exact ⟨v, H', d, G', I, m.trans m', r⟩
theorem TP2.trans {pins : List (Addr × Obj)} {σ : L2.St} {H H1 : Hp} {G G1 : Gp} {Q : Bool → Gp → Prop} {u : Bool} {s' : Shared} (m : Mv X.K H G H1 G1) (h : TP2 X pins σ H1 G1 Q u s') : TP2 X pins σ H G Q u s' := by
  obtain ⟨H', G', I, m', r⟩ := h
  exact ⟨H', G', I, m.trans m', r⟩
theorem pe2_var {i : Nat} {x : Str} (hN : X.N[i]? = some x) (hv : Vis X.env.scope x) (hd : (x == ("__debug__" : Str)) = false := by decide) (hcd : (x == ("__classdict__" : Str)) = false := by decide) : PE2 X (.Name x pos) (dVar i) := by
  intro E pins s σ H τ G Q hE I h
  unfold dVar at h
  split at h
  · rename_i d e
    obtain ⟨v, h1, h2⟩ := I.st.at' i d e
    exact thn (pe_var hN hv hd hcd pins s σ H (fun v' H' => v' = v ∧ H' = H) I.inv ⟨v, h1, rfl, rfl⟩) fun u s1 ⟨v', H', I1, r, e1, e2⟩ => by
      subst e1; subst e2
      exact ⟨_, _, d, G, I1, .refl I.ab, r, h2, h⟩
  · exact h.elim
theorem pe2_const {e : Expr} {v : V} {d : D} (h : PE X e (tC v)) (r : ∀ K H, RepD K H v d) : PE2 X e (dC d) := by
  intro E pins s σ H τ G Q hE I hq
  exact thn (h pins s σ H (fun v' H' => v' = v ∧ H' = H) I.inv ⟨rfl, rfl⟩) fun u s1 ⟨v', H', I1, rr, e1, e2⟩ => by
    subst e1; subst e2
    exact ⟨_, _, d, G, I1, .refl I.ab, rr, r _ _, hq⟩
theorem pe2_int {i j} : PE2 X (.Constant (.int i) j pos) (dC (.int i)) := pe2_const pe_int fun _ _ => .int i
def OpR2 (X : Cx) (f : Value → Value → Sem Value) (r : R22) : Prop :=
  ∀ (pins : List (Addr × Obj)) (s : Shared) (σ : L2.St) (H : Hp) (G : Gp) (x y : V) (dx dy : D) (v u : Value) (Q : DK), Inv X pins σ H s → AbH X.K H G → RelV x v → RelV y u → RepD X.K H x dx → RepD X.K H y dy → r dx dy G Q →
    wpAny (model X.prog X.w) X.A (f v u) (EP2 X pins σ H G Q) X.xe s
def UnR2 (X : Cx) (f : Value → Sem Value) (r : D → Gp → DK → Prop) : Prop :=
  ∀ (pins : List (Addr × Obj)) (s : Shared) (σ : L2.St) (H : Hp) (G : Gp) (x : V) (dx : D) (v : Value) (Q : DK), Inv X pins σ H s → AbH X.K H G → RelV x v → RepD X.K H x dx → r dx G Q →
    wpAny (model X.prog X.w) X.A (f v) (EP2 X pins σ H G Q) X.xe s
def CallR2 (X : Cx) (f : Value) (r : List D → Gp → DK → Prop) : Prop :=
  ∀ (pins : List (Addr × Obj)) (s : Shared) (σ : L2.St) (H : Hp) (G : Gp) (xs : List V) (ds : List D) (us : List Value) (Q : DK), Inv X pins σ H s → AbH X.K H G → Vals xs us → RepDs X.K H xs ds → r ds G Q →
    wpAny (model X.prog X.w) X.A (call f us) (EP2 X pins σ H G Q) X.xe s
abbrev Rch (K : PySem.W.Frag) (H : Hp) (G : Gp) (Q : DK) : VK := fun v H' => ∃ d G', Mv K H G H' G' ∧ RepD K H' v d ∧ Q d G'
theorem EP2.of {pins : List (Addr × Obj)} {σ : L2.St} {H : Hp} {G : Gp} {Q : DK} {u : Value} {s' : Shared} (h : EP X pins σ (Rch X.K H G Q) u s') : EP2 X pins σ H G Q u s' := by
  obtain ⟨v, H', I, r, d, G', m, rd, q⟩ := h
  exact ⟨v, H', d, G', I, m, r, rd, q⟩
theorem binT2 (ha : PE2 X a ta) (hb : PE2 X b tb) {E : XK2} {pins : List (Addr × Obj)} {s : Shared} {σ : L2.St} {H : Hp} {τ : St2} {G : Gp} {R : D → D → Gp → Prop} (hE : Lk X E) (I : I2 X pins σ H τ G s)
    (h : ta E τ G fun x G1 => tb E τ G1 fun y G2 => R x y G2) {Q : Value → Shared → Prop} {f : Value → Value → Sem Value}
    (hf : ∀ v u s2 x y dx dy H2 G2, I2 X pins σ H2 τ G2 s2 → Mv X.K H G H2 G2 → RelV x v → RelV y u → RepD X.K H2 x dx → RepD X.K H2 y dy → R dx dy G2 → wpAny (model X.prog X.w) X.A (f v u) Q X.xe s2) :
    wpAny (model X.prog X.w) X.A (eval a X.env) (fun v s₁ => wpAny (model X.prog X.w) X.A (eval b X.env) (fun u s₂ => wpAny (model X.prog X.w) X.A (f v u) Q X.xe s₂) X.xe s₁) X.xe s := by
  refine thnE ha hE I h fun x H1 dx G1 v s1 I1 m1 r1 rd1 q1 => ?_
  refine thnE hb hE I1 q1 fun y H2 dy G2 u s2 I2' m2 r2 rd2 q2 => ?_
  exact hf v u s2 x y dx dy H2 G2 I2' (m1.trans m2) r1 r2 (rd1.mono (m2.kp I1.ab)) rd2 q2
theorem pe2_op {op : Operator} {r : R22} (ho : OpR2 X (binaryOp op) r) (ha : PE2 X a ta) (hb : PE2 X b tb) : PE2 X (.BinOp a op b pos) (dBin r ta tb) := by
  intro E pins s σ H τ G Q hE I h
  exact wpAny_BinOp (binT2 ha hb hE I h fun v u s2 x y dx dy H2 G2 I2' m rx ry dX dY q => thn (ho pins s2 σ H2 G2 x y dx dy v u Q I2'.inv I2'.ab rx ry dX dY q) fun _ _ z => z.trans m)
theorem pe2_un {op : UnaryOp} {r : D → Gp → DK → Prop} (ho : UnR2 X (unaryOp op) r) (ha : PE2 X a ta) : PE2 X (.UnaryOp op a pos) (dUn r ta) := by
  intro E pins s σ H τ G Q hE I h
  exact UnaryOp_ (thnE ha hE I h fun x H1 dx G1 v s1 I1 m1 r1 rd1 q1 => thn (ho pins s1 σ H1 G1 x dx v Q I1.inv I1.ab r1 rd1 q1) fun _ _ z => z.trans m1)
theorem pe2_cmp {op : CmpOp} {r : R22} (ho : OpR2 X (compareOp op) r) (ha : PE2 X a ta) (hb : PE2 X b tb) (hm : behindInMarks op b = false) : PE2 X (.Compare a [op] [b] pos) (dBin r ta tb) := by
  intro E pins s σ H τ G Q hE I h
  exact wpAny_Compare1 (binT2 ha hb hE I h fun v u s2 x y dx dy H2 G2 I2' m rx ry dX dY q => thn (ho pins s2 σ H2 G2 x y dx dy v u Q I2'.inv I2'.ab rx ry dX dY q) fun _ _ z => z.trans m) hm
end
end K2
end
section
namespace K2
open PySem PySem.Spec PyProof.Rows L2
set_option autoImplicit false
theorem tru_V {K : PySem.W.Frag} {H : Hp} {G : Gp} {x : V} {d : D} {k : Bool} (ab : AbH K H G) (r : RepD K H x d) (e : tru d G = some k) : (∃ p, x = .ref p ∧ Rd H p (.dT []) ∧ k = false) ∨ (∃ p kv, x = .ref p ∧ Rd H p (.dK kv) ∧ k = !kv.isEmpty) ∨ TruV K x H k := by
  have dicts : ∀ kvs : List (D × D), (if (kvs.all fun p => keyOk1 p.1) = true then some (!kvs.isEmpty) else none) = some k → ∀ p, ((∃ kv, Rd H p (.dK kv) ∧ DKs K H kv kvs) ∨ ∃ kv, Rd H p (.dT kv) ∧ DTs K H kv kvs) →
      (∃ p', V.ref p = .ref p' ∧ Rd H p' (.dT []) ∧ k = false) ∨ (∃ p' kv, V.ref p = .ref p' ∧ Rd H p' (.dK kv) ∧ k = !kv.isEmpty) ∨ TruV K (.ref p) H k := by
    intro kvs e p z
    by_cases ha : (kvs.all fun p => keyOk1 p.1) = true
    · rw [if_pos ha] at e
      cases e
      rcases z with ⟨kv, hv, rs⟩ | ⟨kv, hv, rs⟩
      · right; left
        refine ⟨p, kv, rfl, hv, ?_⟩
        cases rs <;> rfl
      · left
        cases rs with
        | nil => exact ⟨p, rfl, hv, rfl⟩
        | cons _ _ => simp [keyOk1] at ha
    · rw [if_neg ha] at e; cases e
  cases r with
  | non => right; right; cases e; rfl
  | bl b => right; right; cases e; rfl
  | int i => right; right; cases e; rfl
  | str y =>
    right; right
    unfold tru at e
    dsimp only at e
    by_cases h : y.length ≤ SZ
    · rw [if_pos h] at e; cases e; exact ⟨by rw [sizeLine_eq]; exact h, rfl⟩
    · rw [if_neg h] at e; cases e
  | tup h rs =>
    right; right
    cases e
    refine .inr (.inl ⟨_, .of h, ?_⟩)
    cases rs <;> rfl
  | rol h rs =>
    right; right
    cases e
    refine .inl ⟨_, h.sq, ?_⟩
    cases rs <;> rfl
  | rodK h rs => exact dicts _ e _ (.inl ⟨_, .inr ⟨_, h⟩, rs⟩)
  | rodT h rs => exact dicts _ e _ (.inr ⟨_, .inr ⟨_, h⟩, rs⟩)
  | exc h => simp [tru] at e
  | ref a =>
    unfold tru at e
    dsimp only at e
    cases q : G a with
    | none => rw [q] at e; cases e
    | some g =>
      rw [q] at e
      have z := ab a g q
      cases g with
      | lst ds =>
        right; right
        obtain ⟨vs, hv, rs⟩ := z
        cases e
        refine .inl ⟨vs, .of hv, ?_⟩
        cases rs <;> rfl
      | dic kvs =>
        refine dicts kvs e a ?_
        rcases z with ⟨kv, hv, rs⟩ | ⟨kv, hv, rs⟩
        · exact .inl ⟨kv, .inl hv, rs⟩
        · exact .inr ⟨kv, .inl hv, rs⟩
section
variable {X : Cx} {a b c : Expr} {ta tb tc : TE2} {pos : Pos}
def TruR2 (X : Cx) : Prop := ∀ (pins : List (Addr × Obj)) (s : Shared) (σ : L2.St) (H : Hp) (G : Gp) (x : V) (d : D) (v : Value) (k : Bool) (Q : Bool → Shared → Prop), Inv X pins σ H s → AbH X.K H G → RelV x v → RepD X.K H x d → tru d G = some k →
    (∀ s', Inv X pins σ H s' → Q k s') → wpAny (model X.prog X.w) X.A (truthy v) Q X.xe s
theorem tru2 : TruR2 X := by
  intro pins s σ H G x d v k Q I ab rx rd e q
  rcases tru_V ab rd e with ⟨p, rfl, hv, hk⟩ | ⟨p, kv, rfl, hv, hk⟩ | h
  · obtain ⟨z, hS, xs, rel, o, es, ep, ho, hx, hd', hl, nd⟩ := hv.ok I.hok
    have hxs : xs = [] := by cases rel; rfl
    subst hxs
    have he : es = #[] := by simpa using hl
    subst he
    cases rx
    have dd : s.heap.DictOf (mixKind X.prog X.w) p [] := ⟨o, #[], ep, ho, hx, hd', (fun _ h => by simp at h), .nil, List.nodup_nil⟩
    refine wpAny_truthy_dict hS dd (by simp) ?_
    subst hk
    exact q _ (I.tok _)
  · cases rx
    subst hk
    exact d_truth I hv q
  · exact thn (tru_ok pins s σ H x v (fun k' H' => k' = k ∧ H' = H) I rx ⟨k, h, rfl, rfl⟩) fun k' s' ⟨H', I', e1, e2⟩ => by
      subst e1; subst e2; exact q s' I'
theorem pt2_truth (ha : PE2 X a ta) (he : ∀ whole, isTrue a X.env whole = (do let v ← whole; standAt a.pos; holding [v] (truthy v)) := by intro _; rfl) : PT2 X a (dTru ta) := by
  intro E pins s σ H τ G Q hE I h
  refine isTrue_plain (thnE ha hE I h fun x H1 d G1 v s1 I1 m1 r1 rd1 q1 => ?_) (he _)
  try dsimp only at q1
  split at q1
  · rename_i k e
    exact tru2 pins s1 σ H1 G1 x d v k _ I1.inv I1.ab r1 rd1 e fun s' I' => ⟨H1, G1, I', m1, q1⟩
  · exact q1.elim
theorem pt2_cmp {op : CmpOp} {r : R22} (ho : OpR2 X (compareOp op) r) (ha : PE2 X a ta) (hb : PE2 X b tb) (hm : behindInMarks op b = false) : PT2 X (.Compare a [op] [b] pos) (dTru (dBin r ta tb)) := by
  intro E pins s σ H τ G Q hE I h
  refine wpAny_isTrue_Compare1 (thnE ha hE I h fun x H1 dx G1 v s1 I1 m1 r1 rd1 q1 => thnE hb hE I1 q1 fun y H2 dy G2 u s2 I2' m2 r2 rd2 q2 =>
    thn (ho pins s2 σ H2 G2 x y dx dy v u _ I2'.inv I2'.ab r1 r2 (rd1.mono (m2.kp I1.ab)) rd2 q2) fun c s3 ⟨z, H3, dz, G3, I3, m3, r3, rd3, q3⟩ => ?_) hm
  try dsimp only at q3
  split at q3
  · rename_i k e
    exact tru2 pins s3 σ H3 G3 z dz c k _ I3 m3.ab r3 rd3 e fun s' I' => ⟨H3, G3, I', (m1.trans m2).trans m3, q3⟩
  · exact q3.elim
variable {tA tB : TT2} {rest : List Expr}
theorem PW2.pt {e : Expr} {t : TT2} (h : PW2 X e t) : PT2 X e t := fun E pins s σ H τ G Q hE I q => h _ E pins s σ H τ G Q hE I q
theorem thnT {pins : List (Addr × Obj)} {σ : L2.St} {H : Hp} {τ : St2} {G : Gp} {s : Shared} {E : XK2} {R : Bool → Gp → Prop} {Q : Bool → Shared → Prop} (ha : PT2 X a tA) (hE : Lk X E) (I : I2 X pins σ H τ G s) (h : tA E τ G R)
    (k : ∀ c H1 G1 s1, I2 X pins σ H1 τ G1 s1 → Mv X.K H G H1 G1 → R c G1 → Q c s1) : wpAny (model X.prog X.w) X.A (isTrue a X.env (eval a X.env)) Q X.xe s :=
  thn (ha E pins s σ H τ G R hE I h) fun c s1 ⟨H1, G1, I1, m, q⟩ => k c H1 G1 s1 (I.mv I1 m) m q
theorem pw2_and1 (ha : PT2 X a tA) : PW2 X (.BoolOp .And [a] pos) tA := by
  intro wh E pins s σ H τ G Q hE I h
  refine isTrue_and (thn (ha E pins s σ H τ G Q hE I h) fun c s1 e => ?_)
  cases c with
  | true => exact isTrue_and_nil e
  | false => exact e
theorem pw2_or1 (ha : PT2 X a tA) : PW2 X (.BoolOp .Or [a] pos) tA := by
  intro wh E pins s σ H τ G Q hE I h
  refine isTrue_or (thn (ha E pins s σ H τ G Q hE I h) fun c s1 e => ?_)
  cases c with
  | false => exact isTrue_or_nil e
  | true => exact e
theorem pw2_and (ha : PT2 X a tA) (hb : PW2 X (.BoolOp .And (b :: rest) pos) tB) : PW2 X (.BoolOp .And (a :: b :: rest) pos) (dAnd tA tB) := by
  intro wh E pins s σ H τ G Q hE I h
  refine isTrue_and (thnT ha hE I h fun c H1 G1 s1 I1 m1 q1 => ?_)
  cases c with
  | true => exact thn (hb wh E pins s1 σ H1 τ G1 Q hE I1 (by simpa using q1)) fun _ _ z => z.trans m1
  | false => exact ⟨H1, G1, I1.inv, m1, by simpa using q1⟩
theorem pw2_or (ha : PT2 X a tA) (hb : PW2 X (.BoolOp .Or (b :: rest) pos) tB) : PW2 X (.BoolOp .Or (a :: b :: rest) pos) (dOr tA tB) := by
  intro wh E pins s σ H τ G Q hE I h
  refine isTrue_or (thnT ha hE I h fun c H1 G1 s1 I1 m1 q1 => ?_)
  cases c with
  | false => exact thn (hb wh E pins s1 σ H1 τ G1 Q hE I1 (by simpa using q1)) fun _ _ z => z.trans m1
  | true => exact ⟨H1, G1, I1.inv, m1, by simpa using q1⟩
theorem pt2_not (ha : PT2 X a tA) : PT2 X (.UnaryOp .Not a pos) (dNot tA) := by
  intro E pins s σ H τ G Q hE I h
  exact isTrue_not (ha E pins s σ H τ G (fun c H1 => Q (!c) H1) hE I h)
theorem pe2_one {op} {t : TE2} (h : PE2 X a t) : PE2 X (.BoolOp op [a] pos) t := fun E pins s σ H τ G Q hE I hw => BoolOp_one (h E pins s σ H τ G Q hE I hw)
theorem pe2_and (ha : PE2 X a ta) (hb : PE2 X (.BoolOp .And (b :: rest) pos) tb) : PE2 X (.BoolOp .And (a :: b :: rest) pos) (dAndV ta tb) := by
  intro E pins s σ H τ G Q hE I h
  refine BoolOp_and (thnE ha hE I h fun x H1 d G1 v s1 I1 m1 r1 rd1 q1 => ?_)
  try dsimp only at q1
  split at q1
  · rename_i e
    exact tru2 pins s1 σ H1 G1 x d v true _ I1.inv I1.ab r1 rd1 e fun s' I' => thn (hb E pins s' σ H1 τ G1 Q hE ⟨I', I1.st, I1.ab⟩ q1) fun _ _ z => z.trans m1
  · rename_i e
    exact tru2 pins s1 σ H1 G1 x d v false _ I1.inv I1.ab r1 rd1 e fun s' I' => ⟨x, H1, d, G1, I', m1, r1, rd1, q1⟩
  · exact q1.elim
theorem pe2_not (ha : PE2 X a ta) : PE2 X (.UnaryOp .Not a pos) (dNotV ta) := by
  intro E pins s σ H τ G Q hE I h
  refine UnaryOp_ (thnE ha hE I h fun x H1 d G1 v s1 I1 m1 r1 rd1 q1 => ?_)
  try dsimp only at q1
  split at q1
  · rename_i k e
    exact not_of (tru2 pins s1 σ H1 G1 x d v k _ I1.inv I1.ab r1 rd1 e fun s' I' => ⟨.bl (!k), H1, .bl (!k), G1, I', m1, rfl, .bl _, q1⟩)
  · exact q1.elim
theorem pe2_if (hc : PT2 X c tA) (ha : PE2 X a ta) (hb : PE2 X b tb) : PE2 X (.IfExp c a b pos) (dIf tA ta tb) := by
  intro E pins s σ H τ G Q hE I h
  refine wpAny_IfExp (thnT hc hE I h fun d H1 G1 s1 I1 m1 q1 => ?_)
  cases d with
  | true => exact thn (ha E pins s1 σ H1 τ G1 Q hE I1 (by simpa using q1)) fun _ _ z => z.trans m1
  | false => exact thn (hb E pins s1 σ H1 τ G1 Q hE I1 (by simpa using q1)) fun _ _ z => z.trans m1
variable {e : Expr} {es : List Expr} {te : TE2} {t : TA2}
theorem pa2_nil : PA2 X [] dNil := fun _ _ _ _ _ H _ G Q _ I h => Calls.spliced_nil ⟨[], H, [], G, I.inv, .refl I.ab, .nil, .nil, h⟩
theorem pa2_cons (ha : PE2 X e te) (hr : PA2 X es t) (hs : starEach (e :: es) X.env = (false, eval e X.env) :: starEach es X.env := by rfl) : PA2 X (e :: es) (dCons te t) := by
  intro pos E pins s σ H τ G Q hE I h
  rw [hs]
  show wpAny _ _ (spliced ((false, eval e X.env) :: backTo pos (starEach es X.env))) _ _ s
  refine Calls.spliced_cons (thnE ha hE I h fun x H1 d G1 u s1 I1 m1 r1 rd1 q1 => ?_)
  exact thn (hr pos E pins s1 σ H1 τ G1 _ hE I1 q1) fun us s2 ⟨xs, H2, ds, G2, I2', m2, r2, rd2, q2⟩ => ⟨x :: xs, H2, d :: ds, G2, I2', m1.trans m2, .cons r1 r2, .cons (rd1.mono (m2.kp I1.ab)) rd2, q2⟩
theorem thnA {pins : List (Addr × Obj)} {σ : L2.St} {H : Hp} {τ : St2} {G : Gp} {s : Shared} {E : XK2} {R : List D → Gp → Prop} {Q : List Value → Shared → Prop} (ha : PA2 X es t) (pos : Pos) (hE : Lk X E) (I : I2 X pins σ H τ G s) (h : t E τ G R)
    (k : ∀ vs H1 ds G1 us s1, I2 X pins σ H1 τ G1 s1 → Mv X.K H G H1 G1 → Vals vs us → RepDs X.K H1 vs ds → R ds G1 → Q us s1) : wpAny (model X.prog X.w) X.A (spliced (backTo pos (starEach es X.env))) Q X.xe s :=
  thn (ha pos E pins s σ H τ G R hE I h) fun us s1 ⟨vs, H1, ds, G1, I1, m, r, rd, q⟩ => k vs H1 ds G1 us s1 (I.mv I1 m) m r rd q
theorem pe2_tup {x1} (h : PA2 X es t) : PE2 X (.Tuple es x1 pos) (dTup t) := by
  intro E pins s σ H τ G Q hE I hq
  refine wpAny_Tuple_spliced (thnA h pos hE I hq fun xs H1 ds G1 us s1 I1 m1 r rd ⟨z, q⟩ => ⟨by rw [← r.length, rd.length, sizeLine_eq]; exact z, ?_⟩)
  have hf : H1 s1.heap.objs.size = none := I1.inv.hok.fresh (Nat.le_refl _)
  refine ⟨.ref s1.heap.objs.size, upd H1 s1.heap.objs.size (.tup xs), .tup ds, G1, I1.inv.laid (t' := s1.toks) (fun b u e => Heap.get?_push_of_some _ e) (Nat.le_refl _) ?_, m1.trans (.hid I1.ab hf), rfl, ?_, q⟩
  · exact ⟨by rw [rd.length, sizeLine_eq]; exact z, us, r, ⟨_, Heap.get?_push_size _ rfl, rfl, _, rfl⟩⟩
  · exact .tup upd_same (rd.mono (.new hf))
theorem pe2_lst (h : PA2 X es t) : PE2 X (.List es pos) (dLst t) := by
  intro E pins s σ H τ G Q hE I hq
  refine wpAny_List_spliced (thnA h pos hE I hq fun xs H1 ds G1 us s1 I1 m1 r rd ⟨z, q⟩ => ⟨by rw [← r.length, rd.length, sizeLine_eq]; exact z, ?_⟩)
  have hf : H1 s1.heap.objs.size = none := I1.inv.hok.fresh (Nat.le_refl _)
  refine ⟨.ref s1.heap.objs.size, upd H1 s1.heap.objs.size (.lst xs), .ref _, updG G1 s1.heap.objs.size (.lst ds), I1.inv.laid (t' := s1.toks) (fun b u e => Heap.get?_push_of_some _ e) (Nat.le_refl _) ?_, m1.trans (.newL I1.ab hf rd), rfl, .ref _, q _ (I1.ab.free hf)⟩
  exact ⟨by rw [rd.length, sizeLine_eq]; exact z, us, 0, r, Heap.get?_push_size _ rfl⟩
def spOf (K : PySem.W.Frag) (sp : Sp2) : Sp := fun vs H Q _ => ∃ ds G Q2, RepDs K H vs ds ∧ AbH K H G ∧ sp ds G Q2 (fun _ _ => False) ∧ ∀ d G' v H', Q2 d G' → Mv K H G H' G' → RepD K H' v d → Q v H'
variable {k : Nat} {f : Addr} {fd : FuncData} {ps : List Str} {sp : Sp2} {x : Str} {p : Pos} {r : List D → Gp → DK → Prop} {id : String}
theorem pe2_call (F : FnOk X.prog X.w X.K X.mg X.base CX0 k f fd ps (spOf X.K sp)) (hr : Room k X.A) (hg : Gl X x) (hm : X.mg x = some (.ref f)) (hk : PySem.W.keepIn X.K (.ref f) = true) (hb : Binds X.K fd ps [])
    (ha : PA2 X (e :: es) t) (hdb : (x == ("__debug__" : Str)) = false := by decide) (he : starEach (e :: es) X.env = (false, eval e X.env) :: starEach es X.env := by rfl) (hpl : (backTo pos (starEach es X.env)).any (·.1) = false := by rfl) :
    PE2 X (.Call (.Name x p) (e :: es) [] pos) (fun E τ G Q => dCall (fun ds G1 Q1 _ => sp ds G1 Q1 fun _ _ => False) t E τ G Q) := by
  intro E pins s σ H τ G Q hE I h
  refine wpAny_Call_Name_kw (ld_glob I.inv hg hm ?_ hdb)
  refine PySem.W.callWith_K (h₀ := X.base) I.inv.ok.mod.kin hk (thnA ha pos hE I h fun vs H1 ds G1 us s1 I1 m1 r rd q => ⟨I1.inv.kIn, ?_⟩) he hpl
  refine thn (run_fn F hr hb .nil pass0 I1.inv r (Q := Rch X.K H1 G1 Q) ?_) fun _ _ z => (EP2.of z).trans m1
  rw [List.append_nil]
  exact ⟨ds, G1, Q, rd, I1.ab, q, fun d G' v H' q' m' rd' => ⟨d, G', m', rd', q'⟩⟩
theorem pe2_callB (hc : CallR2 X (.builtin id) r) (hg : Gl X x) (hm : X.mg x = none) (hv : bootBuiltins x = some (.builtin id)) (ha : PA2 X (e :: es) t) (hn : x ≠ "__name__" := by decide) (hdb : (x == ("__debug__" : Str)) = false := by decide)
    (he : starEach (e :: es) X.env = (false, eval e X.env) :: starEach es X.env := by rfl) (hpl : (backTo pos (starEach es X.env)).any (·.1) = false := by rfl) : PE2 X (.Call (.Name x p) (e :: es) [] pos) (dCB r t) := by
  intro E pins s σ H τ G Q hE I h
  refine wpAny_Call_Name_kw (ld_blt I.inv hg hm hv ?_ hn hdb)
  exact PyProof.Rows.callWith_builtin1 (thnA ha pos hE I h fun vs H1 ds G1 us s1 I1 m1 r1 rd1 q1 => thn (hc pins s1 σ H1 G1 vs ds us Q I1.inv I1.ab r1 rd1 q1) fun _ _ z => z.trans m1) he hpl
variable {st : Stmt} {sts : List Stmt} {u v : TS2}
theorem pss2_nil : PSs2 X [] dNext := fun _ _ _ σ H τ G _ _ I h => wpAny_execs_nil ⟨σ, H, τ, G, I, .refl I.ab, h⟩
theorem pss2_cons (h1 : PS2 X st u) (h2 : PSs2 X sts v) : PSs2 X (st :: sts) (dSeq u v) := by
  intro E pins s σ H τ G D hE I h
  refine wpAny_execs_cons (thn (h1 E pins s σ H τ G { D with nx := v E D } hE I h) fun f s1 q => ?_)
  cases f with
  | next =>
    obtain ⟨σ', H', τ', G', I', m, q⟩ := q
    exact thn (h2 E pins s1 σ' H' τ' G' D hE I' q) fun _ _ z => z.trans m
  | ret v => exact q
  | brk => exact q
  | cont => exact q
theorem pss2_one (h1 : PS2 X st u) : PSs2 X [st] u := by
  intro E pins s σ H τ G D hE I h
  refine wpAny_execs_cons (thn (h1 E pins s σ H τ G D hE I h) fun f s1 q => ?_)
  cases f with
  | next => exact wpAny_execs_nil q
  | ret v => exact q
  | brk => exact q
  | cont => exact q
theorem ps2_ret (he : PE2 X e te) : PS2 X (.Return (some e) pos) (dRet te) := by
  intro E pins s σ H τ G D hE I h
  exact wpAny_Return_some (thn (he E pins s σ H τ G _ hE I h) fun v s1 ⟨x, H1, d, G1, I1, m, r1, rd, q1⟩ => ⟨x, σ, H1, d, G1, I1, m, r1, rd, q1⟩)
theorem ps2_if {sa sb : List Stmt} (hc : PT2 X c tA) (ha : PSs2 X sa u) (hb : PSs2 X sb v) : PS2 X (.If c sa sb pos) (dIfS tA u v) := by
  intro E pins s σ H τ G D hE I h
  refine wpAny_If (thnT hc hE I h fun d H1 G1 s1 I1 m1 q1 => ?_)
  cases d with
  | true => exact thn (ha E pins s1 σ H1 τ G1 D hE I1 (by simpa using q1)) fun _ _ z => z.trans m1
  | false => exact thn (hb E pins s1 σ H1 τ G1 D hE I1 (by simpa using q1)) fun _ _ z => z.trans m1
def PG2 (X : Cx) (target : Expr) (t : TG2) : Prop :=
  ∀ (E : XK2) (pins : List (Addr × Obj)) (s : Shared) (σ : L2.St) (H : Hp) (τ : St2) (G : Gp) (w : V) (d : D) (u : Value) (Q : St2 → Gp → Prop), Lk X E → I2 X pins σ H τ G s → RelV w u → RepD X.K H w d → t E d τ G Q →
    wpAny (model X.prog X.w) X.A (assign target X.env u) (fun _ s' => ∃ σ' H' τ' G', I2 X pins σ' H' τ' G' s' ∧ Mv X.K H G H' G' ∧ Q τ' G') X.xe s
def PGs2 (X : Cx) (ts : List Expr) (t : TGs2) : Prop :=
  ∀ (E : XK2) (pins : List (Addr × Obj)) (s : Shared) (σ : L2.St) (H : Hp) (τ : St2) (G : Gp) (ws : List V) (ds : List D) (us : List Value) (Q : St2 → Gp → Prop), Lk X E → I2 X pins σ H τ G s → Vals ws us → RepDs X.K H ws ds → t E ds τ G Q →
    wpAny (model X.prog X.w) X.A (assignInOrder ((assignEach ts X.env).map (·.2)) us) (fun _ s' => ∃ σ' H' τ' G', I2 X pins σ' H' τ' G' s' ∧ Mv X.K H G H' G' ∧ Q τ' G') X.xe s
theorem pg2_name {i : Nat} {x : Str} (hN : X.N.Nodup) (hi : X.N[i]? = some x) (hx : Loc X.env.scope x) (hf : X.fn x = true ∨ X.env.scope.names.lookup x = some .local := by first | exact .inl rfl | exact .inr rfl | assumption) : PG2 X (.Name x pos) (gName i) := by
  intro E pins s σ H τ G w d u Q hE I r rd h
  exact wpAny_assign_Name (store_ok I.inv hN hi hx r (fun s' I' => ⟨_, H, _, G, ⟨I', I.st.set i rd, I.ab⟩, .refl I.ab, h⟩) hf)
theorem pgs2_nil : PGs2 X [] gNil := by
  intro E pins s σ H τ G ws ds us Q hE I r rd h
  unfold gNil at h
  split at h
  · have e := rd.zero
    subst e
    cases r
    exact assignInOrder_nil ⟨σ, H, τ, G, I, .refl I.ab, h⟩
  · exact h.elim
theorem pgs2_cons {t : TG2} {u : TGs2} (h1 : PG2 X e t) (h2 : PGs2 X es u)
    (hs : (assignEach (e :: es) X.env).map (·.2) = assign e X.env :: (assignEach es X.env).map (·.2) := by rfl) : PGs2 X (e :: es) (gCons t u) := by
  intro E pins s σ H τ G ws ds us Q hE I r rd h
  unfold gCons at h
  split at h
  · cases rd with
    | cons rd1 rd2 =>
      cases r with
      | cons r1 r2 =>
        rw [hs]
        refine assignInOrder_cons (thn (h1 E pins s σ H τ G _ _ _ _ hE I r1 rd1 h) fun _ s1 ⟨σ1, H1, τ1, G1, I1, m1, q1⟩ => ?_)
        exact thn (h2 E pins s1 σ1 H1 τ1 G1 _ _ _ Q hE I1 r2 (rd2.mono (m1.kp I.ab)) q1) fun _ _ ⟨σ2, H2, τ2, G2, I2', m2, q2⟩ => ⟨σ2, H2, τ2, G2, I2', m1.trans m2, q2⟩
  · exact h.elim
theorem pg2_tup {k : Nat} {t : TGs2} {n : Nat} (hc : X.calm = true) (h : PGs2 X es t) (hgl : ∀ E ds τ G Q, t E ds τ G Q → ds.length = n)
    (hn : (assignEach es X.env).length = n := by rfl) (hst : (assignEach es X.env).findIdx? (·.1) = none := by rfl) : PG2 X (.Tuple es k pos) (gTup t) := by
  intro E pins s σ H τ G w d u Q hE I r rd hw
  unfold gTup at hw
  split at hw
  · cases rd with
    | tup hq rs =>
      cases r
      obtain ⟨its, rv, ht, hz⟩ := I.inv.tuple (.of hq)
      refine assign_Tuple_tuple (I.inv.ok.hd hc) ht (by rw [hn, List.size_toArray, ← rv.length, rs.length]; exact (hgl _ _ _ _ _ hw).symm) hst fun h' hx => ?_
      have I1 : Inv X pins σ H { s with heap := h' } := I.inv.kept (t' := s.toks) fun b o e => hx b o (Nat.ne_of_lt (Heap.lt_size e)) e
      exact h E pins _ σ H τ G _ _ _ Q hE ⟨I1, I.st, I.ab⟩ (by simpa using rv) rs hw
  · exact hw.elim
theorem glen_nil : ∀ E ds τ G Q, gNil E ds τ G Q → ds.length = 0 := by
  intro E ds τ G Q h
  cases ds with
  | nil => rfl
  | cons _ _ => exact h.elim
theorem glen_cons {t : TG2} {u : TGs2} {n : Nat} (h : ∀ E ds τ G Q, u E ds τ G Q → ds.length = n) (hm : ∀ E d τ G (Q Q' : St2 → Gp → Prop), t E d τ G Q → (∀ τ' G', Q τ' G' → Q' τ' G') → t E d τ G Q') (hx : ∀ E d τ G, ¬ t E d τ G fun _ _ => False) :
    ∀ E ds τ G Q, gCons t u E ds τ G Q → ds.length = n + 1 := by
  intro E ds τ G Q q
  cases ds with
  | nil => exact q.elim
  | cons d ds =>
    by_cases hl : ds.length = n
    · rw [List.length_cons, hl]
    · exact absurd (hm E d τ G _ (fun _ _ => False) q fun τ' G' z => hl (h _ _ _ _ _ z)) (hx E d τ G)
theorem ps2_asg {tg : Expr} {g : TG2} (he : PE2 X e te) (hg : PG2 X tg g) (hs : swapsWithSole [tg] e pos.line X.env = pure false := by rfl) (hw : swappedStores [tg] e X.env = pure none := by rfl)
    (h1 : (assignEach [tg] X.env).map (·.2) = [assign tg X.env] := by rfl) : PS2 X (.Assign [tg] e pos) (dAsg te g) := by
  intro E pins s σ H τ G D hE I h
  refine wpAny_Assign_stores (thnE he hE I h fun x H1 d G1 v s1 I1 m1 r1 rd1 q1 => ?_) hs hw
  rw [h1]
  exact thn (hg E pins s1 σ H1 τ G1 x d v _ hE I1 r1 rd1 q1) fun _ s2 ⟨σ2, H2, τ2, G2, I2', m2, q2⟩ => ⟨σ2, H2, τ2, G2, I2', m1.trans m2, q2⟩
theorem ps2_set {i : Nat} {x : Str} {pos' : Pos} (hN : X.N.Nodup) (hi : X.N[i]? = some x) (hx : Loc X.env.scope x) (he : PE2 X e te) (hs : swapsWith e (some (.Name x pos')) pos.line X.env = pure false := by rfl) (hf : X.fn x = true ∨ X.env.scope.names.lookup x = some .local := by first | exact .inl rfl | exact .inr rfl | assumption) :
    PS2 X (.Assign [.Name x pos'] e pos) (dAsg te (gName i)) := by
  intro E pins s σ H τ G D hE I h
  refine wpAny_Assign_Name (thnE he hE I h fun y H1 d G1 v s1 I1 m1 r1 rd1 q1 => ?_) hs
  exact store_ok I1.inv hN hi hx r1 (fun s2 I2' => ⟨_, H1, _, G1, ⟨I2', I1.st.set i rd1, I1.ab⟩, m1, q1⟩) hf
theorem ps2_expr (he : PE2 X e te) (hs : swapsWith e none pos.line X.env = pure false := by rfl) : PS2 X (.Expr e pos) (dExpr te) := by
  intro E pins s σ H τ G D hE I h
  exact wpAny_Expr_any (thnE he hE I h fun y H1 d G1 v s1 I1 m1 r1 rd1 q1 => ⟨σ, H1, τ, G1, I1, m1, q1⟩) I.inv.quiet hs
end
end K2
end
section
namespace K2
open PySem PySem.Spec PyProof.Rows L2
set_option autoImplicit false
def Walk2 (K : PySem.W.Frag) (J : It) (H' : Hp) (ds : List D) (ok : Gp → Prop) : Prop :=
  ∀ i H1 G1, Kp H' H1 → AbH K H1 G1 → ok G1 → (∀ d, ds[i]? = some d → J.go i H1 ∧ ∀ x H2, J.yld i H1 x H2 → RepD K H2 x d ∧ Mv K H1 G1 H2 G1) ∧ (ds.length ≤ i → J.stop i H1)
def PIE2 (X : Cx) (pins : List (Addr × Obj)) (σ : L2.St) (tg : Expr) (H : Hp) (G : Gp) (R : List D → (Gp → Prop) → Gp → Prop) (itv : Value) (s2 : Shared) : Prop :=
  ∃ (it : Addr) (fp : List Addr) (tn : Nat → Heap → Prop) (J : It) (H' : Hp) (G' : Gp) (ds : List D) (ok : Gp → Prop), itv = .ref it ∧ Inv X pins σ H' s2 ∧ Mv X.K H G H' G' ∧ Turn X.prog X.w X.K tg J fp it tn ∧ tn 0 s2.heap ∧ (∀ b ∈ fp, FpOk X pins H' b) ∧
    Walk2 X.K J H' ds ok ∧ R ds ok G'
def PI2 (X : Cx) (tg iter : Expr) (wi : TI2) : Prop :=
  ∀ (E : XK2) (pins : List (Addr × Obj)) (s : Shared) (σ : L2.St) (H : Hp) (τ : St2) (G : Gp) (R : List D → (Gp → Prop) → Gp → Prop), Lk X E → I2 X pins σ H τ G s → wi E τ G R →
    wpAny (model X.prog X.w) X.A (eval iter X.env) (fun v s1 => wpAny (model X.prog X.w) X.A (pyIter v) (PIE2 X pins σ tg H G R) X.xe s1) X.xe s
section
variable {X : Cx} {tg : Expr} {a b : Expr} {ta tb : TE2} {pos p : Pos}
theorem list_it {pins : List (Addr × Obj)} {σ : L2.St} {H H1 : Hp} {G G1 : Gp} {s1 : Shared} {l : Addr} {vs : List V} {ds : List D} {ok : Gp → Prop} {R : List D → (Gp → Prop) → Gp → Prop} (I1 : Inv X pins σ H1 s1) (m : Mv X.K H G H1 G1) (hq : SqL X.K H1 l vs)
    (hk : ∀ H2 G2, Kp H1 H2 → AbH X.K H2 G2 → ok G2 → ∃ ws, SqL X.K H2 l ws ∧ RepDs X.K H2 ws ds) (q : R ds ok G1) : wpAny (model X.prog X.w) X.A (pyIter (.ref l)) (PIE2 X pins σ tg H G R) X.xe s1 := by
  obtain ⟨its, rv, pl, hz⟩ := I1.list hq
  refine wpAny_pyIter_list pl.isList ?_
  refine ⟨s1.heap.objs.size, [s1.heap.objs.size], _, _, H1, G1, ds, ok, rfl, I1.kept (t' := s1.toks) fun b o e => Heap.get?_push_of_some _ e, m, turn_list l _, ⟨_, Heap.get?_push_size _ rfl, rfl, rfl⟩, fun b hb => ?_, fun i H2 G2 k ab o => ?_, q⟩
  · have e : b = s1.heap.objs.size := by simpa using hb
    subst e
    exact I1.fpOk (Nat.le_refl _) (I1.hok.fresh (Nat.le_refl _))
  · obtain ⟨ws, hw, rd⟩ := hk H2 G2 k ab o
    refine ⟨fun d hd => ?_, fun hl => ⟨ws, hw, by rw [rd.length]; exact hl⟩⟩
    obtain ⟨v, hv, r⟩ := rd.get hd
    refine ⟨⟨ws, v, hw, hv⟩, fun x H3 ⟨e, y⟩ => ?_⟩
    subst e
    have := y ws hw
    rw [hv] at this
    cases this
    exact ⟨r, .refl ab⟩
theorem tup_it {pins : List (Addr × Obj)} {σ : L2.St} {H H1 : Hp} {G G1 : Gp} {s1 : Shared} {l : Addr} {vs : List V} {ds : List D} {R : List D → (Gp → Prop) → Gp → Prop} (I1 : Inv X pins σ H1 s1) (m : Mv X.K H G H1 G1) (hq : SqT X.K H1 l vs) (rd : RepDs X.K H1 vs ds)
    (q : R ds (fun _ => True) G1) : wpAny (model X.prog X.w) X.A (pyIter (.ref l)) (PIE2 X pins σ tg H G R) X.xe s1 := by
  obtain ⟨its, rv, pl, hz⟩ := I1.tuple hq
  refine wpAny_pyIter_tuple (show s1.heap.IsTuple l its.toArray from pl) ?_
  refine ⟨s1.heap.objs.size, [s1.heap.objs.size], _, _, H1, G1, ds, _, rfl, I1.kept (t' := s1.toks) fun b o e => Heap.get?_push_of_some _ e, m, turn_tuple l _, ⟨_, Heap.get?_push_size _ rfl, rfl, rfl⟩, fun b hb => ?_, fun i H2 G2 k ab _ => ?_, q⟩
  · have e : b = s1.heap.objs.size := by simpa using hb
    subst e
    exact I1.fpOk (Nat.le_refl _) (I1.hok.fresh (Nat.le_refl _))
  · have hw := k.sqT hq
    have rd2 := rd.mono k
    refine ⟨fun d hd => ?_, fun hl => ⟨vs, hw, by rw [rd.length]; exact hl⟩⟩
    obtain ⟨v, hv, r⟩ := rd2.get hd
    refine ⟨⟨vs, v, hw, hv⟩, fun x H3 ⟨e, y⟩ => ?_⟩
    subst e
    have := y vs hw
    rw [hv] at this
    cases this
    exact ⟨r, .refl ab⟩
theorem pi2_seq (ha : PE2 X a ta) : PI2 X tg a (iSeq ta) := by
  intro E pins s σ H τ G R hE I h
  refine thnE ha hE I h fun x H1 d G1 v s1 I1 m1 r1 rd1 q1 => ?_
  cases rd1 with
  | tup hq rs => cases r1; exact tup_it I1.inv m1 (.of hq) rs q1
  | rol hq rs => cases r1; exact list_it I1.inv m1 hq.sq (fun H2 G2 k ab _ => ⟨_, (k.sqF hq).sq, rs.mono k⟩) q1
  | ref p =>
    cases r1
    dsimp only at q1
    split at q1
    · rename_i ds e
      obtain ⟨vs, hv, rs⟩ := I1.ab.lst e
      refine list_it I1.inv m1 (.of hv) (fun H2 G2 k ab o => ?_) q1
      obtain ⟨ws, hw, rw'⟩ := ab.lst o
      exact ⟨ws, .of hw, rw'⟩
    · exact q1.elim
  | rodK _ _ => exact q1.elim
  | rodT _ _ => exact q1.elim
  | non => exact q1.elim
  | bl _ => exact q1.elim
  | int _ => exact q1.elim
  | str _ => exact q1.elim
  | exc _ => exact q1.elim
theorem rng_it {pins : List (Addr × Obj)} {σ : L2.St} {H H1 : Hp} {G G1 : Gp} {s : Shared} {R : List D → (Gp → Prop) → Gp → Prop} {lo hi : Int} {t u v : Tok} {tk : Nat} (I : Inv X pins σ H1 s) (m : Mv X.K H G H1 G1) (h1 : -(2 ^ 62) ≤ lo) (h2 : lo < 2 ^ 62) (h3 : -(2 ^ 62) ≤ hi) (h4 : hi < 2 ^ 62)
    (q : R (rangeD lo (hi - lo).toNat) (fun _ => True) G1) : wpAny (model X.prog X.w) X.A (pyIter (.ref s.heap.objs.size)) (PIE2 X pins σ tg H G R) X.xe { s with heap := s.heap.push { cls := .type "range", data := .fields #[.int lo t, .int hi u, .int 1 v] }, toks := tk } := by
  refine thn (range_it (tg := tg) I h1 h2 h3 h4 (R := fun J H' => J = Itr lo (hi - lo).toNat ∧ H' = H1) ⟨rfl, rfl⟩) fun itv s2 ⟨it, fp, tn, J, H', e, I2', T, st, fo, eJ, eH⟩ => ?_
  subst eJ; subst eH
  refine ⟨it, fp, tn, _, H', G1, _, _, e, I2', m, T, st, fo, fun i H2 G2 k ab _ => ⟨fun d hd => ?_, fun hl => ?_⟩, q⟩
  · unfold rangeD at hd
    rw [List.getElem?_map] at hd
    cases hi' : (List.range (hi - lo).toNat)[i]? with
    | none => rw [hi'] at hd; cases hd
    | some j =>
      rw [hi'] at hd
      obtain ⟨hlt, ej⟩ := List.getElem?_eq_some_iff.mp hi'
      rw [List.length_range] at hlt
      rw [List.getElem_range] at ej
      subst ej
      cases hd
      refine ⟨hlt, fun x H3 ⟨e1, e2⟩ => ?_⟩
      subst e1; subst e2
      exact ⟨.int _, .refl ab⟩
  · unfold rangeD at hl
    rw [List.length_map, List.length_range] at hl
    exact hl
theorem pi2_range1 (hg : Gl X "range") (hm : X.mg "range" = none) (ha : PE2 X a ta) (hs : starEach [a] X.env = [(false, eval a X.env)] := by rfl) : PI2 X tg (.Call (.Name "range" p) [a] [] pos) (iRng1 ta) := by
  intro E pins s σ H τ G R hE I h
  have hA : PA2 X [a] (dCons ta dNil) := pa2_cons ha pa2_nil hs
  refine Call_ (ld_blt I.inv hg hm boot_range (PyProof.Rows.callWith_type1 (thnA hA pos hE I (R := fun ds G1 => match ds with | [.int n] => -(2 ^ 62) ≤ n ∧ n < 2 ^ 62 ∧ R (rangeD 0 n.toNat) (fun _ => True) G1 | _ => False) ?_ fun vs H1 ds G1 us s1 I1 m1 r1 rd1 q1 => ?_) hs rfl))
  · show ta E τ G _
    have e : (fun (x : D) (G1 : Gp) => match [x] with | [.int n] => -(2 ^ 62) ≤ n ∧ n < 2 ^ 62 ∧ R (rangeD 0 n.toNat) (fun _ => True) G1 | _ => False) = fun x G1 => match x with | .int n => -(2 ^ 62) ≤ n ∧ n < 2 ^ 62 ∧ R (rangeD 0 n.toNat) (fun _ => True) G1 | _ => False := by
      funext x G1; cases x <;> rfl
    exact e ▸ h
  · split at q1
    · rename_i n
      obtain ⟨w, rfl, rw1⟩ := rd1.one
      cases rw1
      obtain ⟨u, rfl, ru⟩ := r1.one
      obtain ⟨t, rfl⟩ := ru
      obtain ⟨q1, q2, q⟩ := q1
      exact call_range_1 (rng_it I1.inv m1 (by omega) (by omega) q1 q2 (by simpa using q))
    · exact q1.elim
theorem ps2_for {iter : Expr} {body : List Stmt} {wi : TI2} {g : TG2} {t : TS2} (hp : PassesOwn (model X.prog X.w) X.A X.env X.xe) (hc : X.calm = true) (hi : PI2 X tg iter wi) (hg : PG2 X tg g) (hb : PSs2 X body t)
    (hs : ∀ x, foldedSetIterable iter X.env x = pure x := by intro _; rfl) : PS2 X (.For tg iter body [] pos) (dFor wi g t) := by
  intro E pins s σ H τ G D hE I h
  refine wpAny_For (thn (hi E pins s σ H τ G _ hE I h) fun v s1 h1 => thn h1 fun itv s2 h2 => ?_) hs
  obtain ⟨it, fp, tn, J, H2, G2, ds, ok, e, I2', m2, T, st2, f2, wk, q⟩ := h2
  subst e
  have stat : ∀ {H' : Hp}, (∀ b ∈ fp, H' b = none) → ∀ b ∈ fp, FpOk X pins H' b := fun hn b hb => ⟨hn b hb, (f2 b hb).2⟩
  refine codeAny_forLoop_any (fun n s' => ∃ i σ' H' τ' G', I2 X pins σ' H' τ' G' s' ∧ Mv X.K H G H' G' ∧ Kp H2 H' ∧ tn i s'.heap ∧ (∀ b ∈ fp, H' b = none) ∧ n = ds.length - i ∧ i ≤ ds.length ∧ forGo g t ok (ds.drop i) E D τ' G') ?_ ds.length
    ⟨0, σ, H2, τ, G2, I.mv I2' m2, m2, .refl _, st2, fun b hb => (f2 b hb).1, rfl, Nat.zero_le _, q⟩
  rintro n s3 ⟨i, σ3, H3, τ3, G3, I3, m3, k3, st3, fr3, rfl, hle, w3⟩
  by_cases hlt : i < ds.length
  · rw [List.drop_eq_getElem_cons hlt] at w3
    obtain ⟨ok3, w3⟩ := w3
    obtain ⟨go, yl⟩ := (wk i H3 G3 k3 I3.ab ok3).1 ds[i] (by simp [hlt])
    refine wpAny_passesOwn hp (thn (T.item X rfl rfl rfl hc i pins s3 σ3 H3 X.xe I3.inv (stat fr3) st3 go) fun r s4 ⟨u, hr, h4⟩ => ?_)
    subst hr
    refine wpAny_passesOwn hp (thn h4 fun _ s5 ⟨x, H5, I5, r5, y5, st5, fr5⟩ => ?_)
    obtain ⟨rd5, m5⟩ := yl x H5 y5
    have I5' := I5.pinned (stat fr5) (T.obj _ _ st5)
    have J5 : I2 X (pins ++ pinsAt fp s5.heap) σ3 H5 τ3 G3 s5 := ⟨I5', I3.st.mono (m5.kp I3.ab), m5.ab⟩
    refine wpAny_passesOwn hp (thn (hg E _ s5 σ3 H5 τ3 G3 x ds[i] u _ hE J5 r5 rd5 w3) fun _ s6 ⟨σ6, H6, τ6, G6, I6, m6, q6⟩ => ?_)
    refine wpAny_passesOwn hp (thn (hb E _ s6 σ6 H6 τ6 G6 _ hE I6 q6) fun f s7 q7 => ?_)
    have again : ∀ {σ7 : L2.St} {H7 : Hp} {τ7 : St2} {G7 : Gp}, I2 X (pins ++ pinsAt fp s5.heap) σ7 H7 τ7 G7 s7 → Mv X.K H6 G6 H7 G7 → forGo g t ok (ds.drop (i + 1)) E D τ7 G7 →
        ∃ m, m < ds.length - i ∧ ∃ i σ' H' τ' G', I2 X pins σ' H' τ' G' s7 ∧ Mv X.K H G H' G' ∧ Kp H2 H' ∧ tn i s7.heap ∧ (∀ b ∈ fp, H' b = none) ∧ m = ds.length - i ∧ i ≤ ds.length ∧ forGo g t ok (ds.drop i) E D τ' G' := fun {σ7 H7 τ7 G7} I7 m7 n7 => by
      have mm := m5.trans (m6.trans m7)
      refine ⟨ds.length - (i + 1), by omega, i + 1, σ7, H7, τ7, G7, ⟨I7.inv.unpinned, I7.st, I7.ab⟩, m3.trans mm, k3.trans (mm.kp I3.ab), T.keep _ _ _ st5 fun b hb o e => (I7.inv.pin (b, o) (List.mem_append_right _ (List.mem_append_right _ (mem_pinsAt hb e)))).1, fun b hb => ?_, rfl, hlt, n7⟩
      obtain ⟨o, e, d⟩ := T.obj _ _ st5 b hb
      exact (I7.inv.pin (b, o) (List.mem_append_right _ (List.mem_append_right _ (mem_pinsAt hb e)))).2.1
    cases f with
    | next => obtain ⟨σ7, H7, τ7, G7, I7, m7, n7⟩ := q7; exact again I7 m7 n7
    | cont => obtain ⟨σ7, H7, τ7, G7, I7, m7, n7⟩ := q7; exact again I7 m7 n7
    | brk => obtain ⟨σ7, H7, τ7, G7, I7, m7, q7⟩ := q7; exact ⟨σ7, H7, τ7, G7, ⟨I7.inv.unpinned, I7.st, I7.ab⟩, m3.trans (m5.trans (m6.trans m7)), q7⟩
    | ret v => obtain ⟨x7, σ7, H7, d7, G7, I7, m7, r7, rd7, q7⟩ := q7; exact ⟨x7, σ7, H7, d7, G7, I7.unpinned, m3.trans (m5.trans (m6.trans m7)), r7, rd7, q7⟩
  · have hn : ds.length ≤ i := by omega
    rw [List.drop_eq_nil_of_le hn] at w3
    obtain ⟨ok3, qn⟩ := w3
    have stop := (wk i H3 G3 k3 I3.ab ok3).2 hn
    refine wpAny_passesOwn hp (thn (T.done X rfl rfl rfl hc i pins s3 σ3 H3 X.xe I3.inv (stat fr3) st3 stop) fun r s4 ⟨hr, I4⟩ => ?_)
    subst hr
    exact wpAny_execs_nil ⟨σ3, H3, τ3, G3, ⟨I4, I3.st, I3.ab⟩, m3, qn⟩
theorem ps2_while {c : Expr} {body : List Stmt} {tc : TT2} {t : TS2} (hp : PassesOwn (model X.prog X.w) X.A X.env X.xe) (hc : PT2 X c tc) (hb : PSs2 X body t) : PS2 X (.While c body [] pos) (dWhile tc t) := by
  intro E pins s σ H τ G D hE I h
  obtain ⟨n0, w0⟩ := h
  refine wpAny_While (codeAny_whileLoop (fun n s' => ∃ σ' H' τ' G', I2 X pins σ' H' τ' G' s' ∧ Mv X.K H G H' G' ∧ whGo tc t n E D τ' G') ?_ n0 ⟨σ, H, τ, G, I, .refl I.ab, w0⟩)
  rintro n s1 ⟨σ1, H1, τ1, G1, I1, m1, w1⟩
  cases n with
  | zero => exact w1.elim
  | succ n =>
    refine wpAny_passesOwn hp (thnT hc hE I1 w1 fun b H2 G2 s2 I2' m2 q2 => ?_)
    cases b with
    | true =>
      rw [if_pos rfl] at q2 ⊢
      refine wpAny_passesOwn hp (thn (hb E pins s2 σ1 H2 τ1 G2 _ hE I2' q2) fun f s3 q3 => ?_)
      cases f with
      | next => obtain ⟨σ3, H3, τ3, G3, I3, m3, n3⟩ := q3; exact ⟨n, Nat.lt_succ_self _, σ3, H3, τ3, G3, I3, m1.trans (m2.trans m3), n3⟩
      | cont => obtain ⟨σ3, H3, τ3, G3, I3, m3, n3⟩ := q3; exact ⟨n, Nat.lt_succ_self _, σ3, H3, τ3, G3, I3, m1.trans (m2.trans m3), n3⟩
      | brk => exact q3.trans (m1.trans m2)
      | ret v => exact q3.trans (m1.trans m2)
    | false =>
      rw [if_neg Bool.false_ne_true] at q2 ⊢
      exact wpAny_execs_nil ⟨σ1, H2, τ1, G2, I2', m1.trans m2, q2⟩
end
end K2
end
section
namespace K2
open PySem PySem.Spec PyProof.Rows L2
set_option autoImplicit false
theorem sIx_eq (n d : Nat) (o : Option Int) : HT.sIx n d o = sIx n d o := by cases o <;> rfl
theorem RepDs.cut {K : PySem.W.Frag} {H : Hp} {vs : List V} {ds : List D} (r : RepDs K H vs ds) (lo hi : Option Int) : RepDs K H (cutV vs lo hi) (K2.cut ds lo hi) := by
  unfold cutV K2.cut
  rw [sIx_eq, sIx_eq, r.length]
  exact (r.drop _).take _
theorem RepDs.atI {K : PySem.W.Frag} {H : Hp} {vs : List V} {ds : List D} {i : Int} {d : D} (r : RepDs K H vs ds) (h : K2.atI ds i = some d) : ∃ v, L2.atI vs i = some v ∧ RepD K H v d := by
  unfold K2.atI at h
  cases e : K2.ixN ds.length i with
  | none => rw [e] at h; cases h
  | some j =>
    rw [e] at h
    obtain ⟨v, h1, h2⟩ := r.get (show ds[j]? = some d from h)
    refine ⟨v, ?_, h2⟩
    show (L2.ixN vs.length i).bind _ = _
    have e' : L2.ixN vs.length i = some j := by rw [r.length]; exact e
    rw [e']
    exact h1
section
variable {X : Cx} {a b c e : Expr} {ta tb tc te : TE2} {pos p2 : Pos}
theorem addL_lists {pins : List (Addr × Obj)} {s : Shared} {σ : L2.St} {H : Hp} {G : Gp} {x : V} {d : D} {v : Value} {zs : List D} (I : Inv X pins σ H s) (ab : AbH X.K H G) (rx : RelV x v) (rd : RepD X.K H x d) (hi : lstOf d G = some zs) :
    ∃ l vs its, v = .ref l ∧ Vals vs its ∧ RepDs X.K H vs zs ∧ s.heap.IsList l its.toArray ∧ vs.length ≤ sizeLine := by
  cases rd with
  | rol hq rs =>
    cases hi
    cases rx
    obtain ⟨its, rv, pl, hz⟩ := I.list hq.sq
    exact ⟨_, _, its, rfl, rv, rs, pl.isList, hz⟩
  | ref l =>
    unfold lstOf at hi
    dsimp only at hi
    cases hg : G l with
    | none => rw [hg] at hi; cases hi
    | some gg =>
      rw [hg] at hi
      cases gg with
      | lst ds =>
        cases hi
        cases rx
        obtain ⟨vs, hv, rs⟩ := ab.lst hg
        obtain ⟨its, rv, pl, hz⟩ := I.list (.of hv)
        exact ⟨_, _, its, rfl, rv, rs, pl.isList, hz⟩
      | dic _ => cases hi
  | _ => cases hi
theorem news_kept {pins : List (Addr × Obj)} {s : Shared} {σ : L2.St} {H : Hp} (I : Inv X pins σ H s) {m : Str → Option Value} (F0 : Fr X.base X.env.locals s.heap m) {h' : Heap} (F : Fr X.base X.env.locals h' m) (N : News X.base X.env.locals h' (allNews X.base s.heap X.env.locals)) :
    (∀ b o, b ≠ X.env.locals → s.heap.get? b = some o → h'.get? b = some o) ∧ ∀ m', s.heap.Ns X.env.locals m' → h'.Ns X.env.locals m' := by
  refine ⟨fun b o hb e => ?_, fun m' hm => ?_⟩
  · cases q : X.base.get? b with
    | some u =>
      have := I.bk b u q
      rw [e] at this; cases this
      exact F.keep b _ q
    | none => exact (N (b, o) (mem_allNews hb q e)).1
  · have e1 := hm.eq_nsMap
    have e2 := F0.ns.eq_nsMap
    rw [e1, ← e2]; exact F.ns
theorem obj_there {P : Program} {w : World} {H : Hp} {h : Heap} {a : Addr} : ∀ {o : HO}, ObjOk P w H h a o → ∃ ob, h.get? a = some ob
  | .lst _, x => let ⟨_, _, _, _, e⟩ := x; ⟨_, e⟩
  | .tup _, x => let ⟨_, _, _, ob, e, _⟩ := x; ⟨ob, e⟩
  | .dK _, x => let ⟨_, _, _, _, ob, _, _, e, _⟩ := x; ⟨ob, e⟩
  | .dT _, x => let ⟨_, _, _, _, ob, _, _, e, _⟩ := x; ⟨ob, e⟩
  | .set _ _, x => let ⟨ob, _, _, _, e, _⟩ := x; ⟨ob, e⟩
  | .ins _ _ _, x => let ⟨_, _, _, e, _⟩ := x; ⟨_, e⟩
  | .own _, x => x
  | .xd _, x => let ⟨_, ⟨ob, _, _, e, _⟩, _⟩ := x; ⟨ob, e⟩
  | .met _ _, x => ⟨_, x⟩
  | .rng _ _, x => let ⟨_, _, _, e⟩ := x; ⟨_, e⟩
  | .frz _ _, x => ⟨_, x.1⟩
  | .tbl _, x => ⟨_, x⟩
  | .ext _, x => x.2.1
theorem free_of {P : Program} {w : World} {H : Hp} {h : Heap} {a : Addr} (ok : HOk P w H h) (e : h.get? a = none) : H a = none := by
  cases q : H a with
  | none => rfl
  | some o =>
    obtain ⟨ob, z⟩ := obj_there (ok a o q)
    rw [e] at z; cases z
theorem Inv.laidN {pins : List (Addr × Obj)} {s : Shared} {σ : L2.St} {H : Hp} (I : Inv X pins σ H s) {h' : Heap} {t' : Nat} {a : Addr} {o : HO} (k : ∀ b o, b ≠ X.env.locals → s.heap.get? b = some o → h'.get? b = some o) (ns : ∀ m', s.heap.Ns X.env.locals m' → h'.Ns X.env.locals m')
    (hp : s.heap.get? a = none) (new : ObjOk X.prog X.w (upd H a o) h' a o) : Inv X pins σ (upd H a o) { s with heap := h', toks := t' } := by
  have hn : H a = none := free_of I.hok hp
  have ne : ∀ b u, H b = some u → b ≠ a := fun b u e => ne_of_none e hn
  have nL : ∀ b u, H b = some u → b ≠ X.env.locals := fun b u e => ne_of_none e I.free
  have ht : ∀ b u, s.heap.get? b = some u → b ≠ a := fun b u e z => by subst z; rw [hp] at e; cases e
  have thL : ∃ o', h'.get? X.env.locals = some o' := by
    obtain ⟨m, hm, _⟩ := I.loc
    obtain ⟨o', _, _, ho, _⟩ := ns m hm
    exact ⟨o', ho⟩
  refine I.step (g' := s.gens) (d' := s.drawn) (ch := []) (fun b hb => absurd hb (by simp)) (fun b o hL _ _ e _ => k b o hL e) (fun b o hL _ _ e _ => ⟨o.slots, k b o hL e⟩) (fun b o _ e n => by rw [upd_ne (ht b o e)]; exact n)
    (fun b o _ e => ?_) (fun b xs e => by rw [upd_ne (ne _ _ e)]; exact e) (fun b o u e => by rw [upd_ne (ne _ _ e)]; exact e) (fun b ps e => ⟨#[], by rw [upd_ne (ne _ _ e), e]; simp⟩) ns (fun b u e => ?_) I.bare
  · by_cases hb : b = X.env.locals
    · rw [hb]; exact thL
    · exact ⟨o, k b o hb e⟩
  · by_cases hb : b = a
    · subst hb; rw [upd_same] at e; cases e; exact new
    · rw [upd_ne hb] at e
      refine (I.hok b u e).stay (fun c v hc r => k c v ?_ r) (fun c z => by rw [upd_ne (ne _ _ z)]; exact z) (fun c xs z => by rw [upd_ne (ne _ _ z)]; exact z)
      rcases hc with rfl | hc
      · exact nL _ _ e
      · exact nL _ _ hc
theorem op2_add : OpR2 X (binaryOp .Add) rAdd := by
  intro pins s σ H G x y dx dy v u Q I ab rx ry dX dY q
  have lists : addL dx dy G Q → wpAny (model X.prog X.w) X.A (binaryOp .Add v u) (EP2 X pins σ H G Q) X.xe s := by
    intro q
    unfold addL at q
    split at q
    · rename_i xs ys e1 e2
      obtain ⟨hz, q⟩ := q
      obtain ⟨l, vs, its, rfl, rv, rs, hl, _⟩ := addL_lists I ab rx dX e1
      obtain ⟨b, ws, its2, rfl, rv2, rs2, hb, _⟩ := addL_lists I ab ry dY e2
      obtain ⟨m, F0⟩ := I.fr
      have hsz : its.length + its2.length ≤ sizeLine := by rw [← rv.length, ← rv2.length, rs.length, rs2.length, sizeLine_eq]; exact hz
      refine PyProof.Rows.add_lists F0 news_all hl hb (fun h' F N => ?_) hsz
      obtain ⟨kk, ns⟩ := news_kept I F0 F fun p hp => N p (List.mem_cons_of_mem _ hp)
      have hp : H s.heap.objs.size = none := I.hok.fresh (Nat.le_refl _)
      refine ⟨.ref s.heap.objs.size, upd H s.heap.objs.size (.lst (vs ++ ws)), .ref _, _, Inv.laidN (t' := s.toks) I kk ns (Heap.get?_none_of_le (Nat.le_refl _)) ?_, .newL ab hp (rs.append rs2), rfl, .ref _, q _ (ab.free hp)⟩
      exact ⟨by rw [List.length_append, rv.length, rv2.length]; exact hsz, its ++ its2, 0, rv.append rv2, (N _ List.mem_cons_self).1⟩
    · exact q.elim
  cases dX with
  | int i =>
    cases dY with
    | int j => exact thn (op_add pins s σ H _ _ v u (Rch X.K H G Q) I rx ry ⟨i, j, rfl, rfl, _, _, .refl ab, .int _, q⟩) fun _ _ z => .of z
    | _ => exact lists q
  | str i =>
    cases dY with
    | str j =>
      obtain ⟨hz, q⟩ := q
      exact thn (op_add_str pins s σ H _ _ v u (Rch X.K H G Q) I rx ry ⟨i, j, rfl, rfl, by rw [sizeLine_eq]; exact hz, _, _, .refl ab, .str _, q⟩) fun _ _ z => .of z
    | _ => exact lists q
  | tup h1 r1 =>
    cases dY with
    | tup h2 r2 =>
      obtain ⟨hn, hz, q⟩ := q
      refine thn (op_catT pins s σ H _ _ v u (Rch X.K H G Q) I rx ry ⟨_, _, _, _, rfl, rfl, .of h1, .of h2, ?_, ?_, fun e => ?_, fun e p hp => ?_⟩) fun _ _ z => .of z
      · rintro rfl; cases r1; exact hn rfl
      · rw [r1.length, r2.length, sizeLine_eq]; exact hz
      · subst e
        cases r2
        rw [List.append_nil] at q
        exact ⟨_, _, .refl ab, .tup h1 r1, q⟩
      · exact ⟨_, _, .hid ab hp, .tup upd_same ((r1.append r2).mono (.new hp)), q⟩
    | _ => exact lists q
  | ref l => exact lists (by rw [rAdd_ref] at q; exact q)
  | rol _ _ => exact lists (by rw [rAdd_rol] at q; exact q)
  | _ => exact lists (by cases dY <;> exact q)
theorem op2_sub : OpR2 X (binaryOp .Sub) rSub := by
  intro pins s σ H G x y dx dy v u Q I ab rx ry dX dY q
  cases dX with
  | int i =>
    cases dY with
    | int j => exact thn (op_sub pins s σ H _ _ v u (Rch X.K H G Q) I rx ry ⟨i, j, rfl, rfl, _, _, .refl ab, .int _, q⟩) fun _ _ z => .of z
    | _ => exact False.elim q
  | _ => exact False.elim q
theorem op2_mul : OpR2 X (binaryOp .Mult) rMul := by
  intro pins s σ H G x y dx dy v u Q I ab rx ry dX dY q
  cases dX with
  | int i =>
    cases dY with
    | int j => exact thn (op_mul pins s σ H _ _ v u (Rch X.K H G Q) I rx ry ⟨i, j, rfl, rfl, q.1, _, _, .refl ab, .int _, q.2⟩) fun _ _ z => .of z
    | _ => exact False.elim q
  | _ => exact False.elim q
theorem op2_mod : OpR2 X (binaryOp .Mod) rMod := by
  intro pins s σ H G x y dx dy v u Q I ab rx ry dX dY q
  cases dX with
  | int i =>
    cases dY with
    | int j => exact thn (op_mod pins s σ H _ _ v u (Rch X.K H G Q) I rx ry ⟨i, j, rfl, rfl, q.1, _, _, .refl ab, .int _, q.2⟩) fun _ _ z => .of z
    | _ => exact False.elim q
  | _ => exact False.elim q
theorem op2_fdiv : OpR2 X (binaryOp .FloorDiv) rFdiv := by
  intro pins s σ H G x y dx dy v u Q I ab rx ry dX dY q
  cases dX with
  | int i =>
    cases dY with
    | int j => exact thn (op_fdiv pins s σ H _ _ v u (Rch X.K H G Q) I rx ry ⟨i, j, rfl, rfl, ⟨q.1, q.2.1⟩, _, _, .refl ab, .int _, q.2.2⟩) fun _ _ z => .of z
    | _ => exact False.elim q
  | _ => exact False.elim q
theorem op2_lt (hu : X.A.units < cLine) : OpR2 X (compareOp .Lt) rLt := by
  intro pins s σ H G x y dx dy v u Q I ab rx ry dX dY q
  cases dX with
  | int i =>
    cases dY with
    | int j => exact thn (op_lt pins s σ H _ _ v u (Rch X.K H G Q) I rx ry ⟨i, j, rfl, rfl, _, _, .refl ab, .bl _, q⟩) fun _ _ z => .of z
    | _ => exact False.elim q
  | tup h1 r1 =>
    cases dY with
    | tup h2 r2 =>
      obtain ⟨xs, ys, e1, e2, q⟩ := q
      subst e1 e2
      have z1 := r1.ints
      have z2 := r2.ints
      subst z1 z2
      have el : ∀ xs ys : List Int, HT.lexLt xs ys = K2.lexLt xs ys := by
        intro xs
        induction xs with
        | nil => intro ys; cases ys <;> rfl
        | cons x xs ih => intro ys; cases ys with
          | nil => rfl
          | cons y ys => unfold HT.lexLt K2.lexLt; rw [ih]
      exact thn (op_ltT hu pins s σ H _ _ v u (Rch X.K H G Q) I rx ry ⟨_, _, xs, ys, rfl, rfl, .of h1, .of h2, _, _, .refl ab, .bl _, by rw [el]; exact q⟩) fun _ _ z => .of z
    | _ => exact False.elim q
  | _ => exact False.elim q
theorem op2_le : OpR2 X (compareOp .LtE) rLe := by
  intro pins s σ H G x y dx dy v u Q I ab rx ry dX dY q
  cases dX with
  | int i =>
    cases dY with
    | int j => exact thn (op_le pins s σ H _ _ v u (Rch X.K H G Q) I rx ry ⟨i, j, rfl, rfl, _, _, .refl ab, .bl _, q⟩) fun _ _ z => .of z
    | _ => exact False.elim q
  | _ => exact False.elim q
theorem op2_gt : OpR2 X (compareOp .Gt) rGt := by
  intro pins s σ H G x y dx dy v u Q I ab rx ry dX dY q
  cases dX with
  | int i =>
    cases dY with
    | int j => exact thn (op_gt pins s σ H _ _ v u (Rch X.K H G Q) I rx ry ⟨i, j, rfl, rfl, _, _, .refl ab, .bl _, q⟩) fun _ _ z => .of z
    | _ => exact False.elim q
  | _ => exact False.elim q
mutual
def pd : D → PyData
  | .non => .none
  | .bl b => .bool b
  | .int i => .int i
  | .str x => .str x
  | .tup ds => .tuple (pds ds)
  | .rol ds => .list (pds ds)
  | .rod _ => .none
  | .exc _ => .none
  | .ref _ => .none
def pds : List D → List PyData
  | [] => []
  | d :: r => pd d :: pds r
end
mutual
theorem eqv_pd : ∀ (s t : D), nr s = true → nr t = true → PyData.eqv (pd s) (pd t) = eqD s t
  | .non, t, _, ht => by cases t <;> first | (simp [pd, PyData.eqv, eqD]; done) | (exact absurd ht (by simp [nr]))
  | .bl a, t, _, ht => by cases t <;> first | (simp [pd, PyData.eqv, eqD]; done) | (exact absurd ht (by simp [nr]))
  | .int a, t, _, ht => by cases t <;> first | (simp [pd, PyData.eqv, eqD]; done) | (exact absurd ht (by simp [nr]))
  | .str a, t, _, ht => by cases t <;> first | (simp [pd, PyData.eqv, eqD]; done) | (exact absurd ht (by simp [nr]))
  | .tup a, t, hs, ht => by
    cases t with
    | tup b => simp only [pd, PyData.eqv, eqD]; exact eqv_pds a b (by simpa [nr] using hs) (by simpa [nr] using ht)
    | ref _ => exact absurd ht (by simp [nr])
    | exc _ => exact absurd ht (by simp [nr])
    | rod _ => exact absurd ht (by simp [nr])
    | _ => simp [pd, PyData.eqv, eqD]
  | .rol a, t, hs, ht => by
    cases t with
    | rol b => simp only [pd, PyData.eqv, eqD]; exact eqv_pds a b (by simpa [nr] using hs) (by simpa [nr] using ht)
    | ref _ => exact absurd ht (by simp [nr])
    | exc _ => exact absurd ht (by simp [nr])
    | rod _ => exact absurd ht (by simp [nr])
    | _ => simp [pd, PyData.eqv, eqD]
  | .ref _, _, hs, _ => absurd hs (by simp [nr])
  | .exc _, _, hs, _ => absurd hs (by simp [nr])
  | .rod _, _, hs, _ => absurd hs (by simp [nr])
theorem eqv_pds : ∀ (s t : List D), nrs s = true → nrs t = true → PyData.eqvAll (pds s) (pds t) = eqDs s t
  | [], [], _, _ => by simp [pds, PyData.eqvAll, eqDs]
  | [], _ :: _, _, _ => by simp [pds, PyData.eqvAll, eqDs]
  | _ :: _, [], _, _ => by simp [pds, PyData.eqvAll, eqDs]
  | a :: r, b :: t, hs, ht => by
    have hs' : nr a = true ∧ nrs r = true := by simpa [nrs] using hs
    have ht' : nr b = true ∧ nrs t = true := by simpa [nrs] using ht
    simp only [pds, PyData.eqvAll, eqDs]
    rw [eqv_pd a b hs'.1 ht'.1, eqv_pds r t hs'.2 ht'.2]
end
mutual
theorem lay_pd : ∀ (s : D), nr s = true → (pd s).canLay0 = true
  | .non, _ => by simp [pd, PyData.canLay0]
  | .bl a, _ => by simp [pd, PyData.canLay0]
  | .int a, _ => by simp [pd, PyData.canLay0]
  | .str a, h => by simp only [pd, PyData.canLay0]; exact h
  | .tup a, h => by simp only [pd, PyData.canLay0]; exact lay_pds a (by simpa [nr] using h)
  | .rol a, h => by simp only [pd, PyData.canLay0]; exact lay_pds a (by simpa [nr] using h)
  | .ref _, h => absurd h (by simp [nr])
  | .rod _, h => absurd h (by simp [nr])
theorem lay_pds : ∀ (s : List D), nrs s = true → PyData.canLayAll0 (pds s) = true
  | [], _ => by simp [pds, PyData.canLayAll0]
  | a :: r, h => by
    have h' : nr a = true ∧ nrs r = true := by simpa [nrs] using h
    simp only [pds, PyData.canLayAll0]
    rw [lay_pd a h'.1, lay_pds r h'.2]; rfl
end
theorem dep_pd {G : Gp} {n : Nat} {d t : D} (h : Sn G n d t) : (pd t).depth ≤ n := by
  induction h with
  | non => simp [pd, PyData.depth]
  | bl b => simp [pd, PyData.depth]
  | int i => simp [pd, PyData.depth]
  | str x h => simp [pd, PyData.depth]
  | tnil => simp [pd, pds, PyData.depth, PyData.depthAll]
  | tcons _ _ ih1 ih2 =>
    simp only [pd, pds, PyData.depth, PyData.depthAll] at ih1 ih2 ⊢
    omega
  | rnil => simp [pd, pds, PyData.depth, PyData.depthAll]
  | rcons _ _ ih1 ih2 =>
    simp only [pd, pds, PyData.depth, PyData.depthAll] at ih1 ih2 ⊢
    omega
  | ref _ _ ih => exact ih
theorem rep_reads {pins : List (Addr × Obj)} {σ : L2.St} {H : Hp} {s : Shared} {G : Gp} (I : Inv X pins σ H s) (ab : AbH X.K H G) {n : Nat} {d t : D} (h : Sn G n d t) :
    (∀ v u, RepD X.K H v d → RelV v u → ∃ as, Reads s.heap u (pd t) as) ∧
    (∀ ds ss, (d = .rol ds ∧ t = .rol ss) ∨ (d = .tup ds ∧ t = .tup ss) → ∀ vs us, RepDs X.K H vs ds → Vals vs us → ∃ as, ReadsAll s.heap us (pds ss) as) := by
  have tupOf : ∀ {ds ss : List D}, (∀ vs us, RepDs X.K H vs ds → Vals vs us → ∃ as, ReadsAll s.heap us (pds ss) as) → ∀ v u, RepD X.K H v (.tup ds) → RelV v u → ∃ as, Reads s.heap u (pd (.tup ss)) as := by
    intro ds ss k v u r ru
    cases r with
    | tup hq rs =>
      cases ru
      obtain ⟨its, rv, ⟨o, ho, hc, n, hd⟩, hz⟩ := I.tuple (.of hq)
      obtain ⟨as, ra⟩ := k _ its rs rv
      exact ⟨as, .tuple ho hc hd (by simpa using ra)⟩
  have rolOf : ∀ {ds ss : List D}, (∀ vs us, RepDs X.K H vs ds → Vals vs us → ∃ as, ReadsAll s.heap us (pds ss) as) → ∀ v u, RepD X.K H v (.rol ds) → RelV v u → ∃ as, Reads s.heap u (pd (.rol ss)) as := by
    intro ds ss k v u r ru
    cases r with
    | rol hq rs =>
      cases ru
      obtain ⟨its, rv, pl, hz⟩ := I.list hq.sq
      obtain ⟨o, ho, hc, n, hd⟩ := pl.isList
      obtain ⟨as, ra⟩ := k _ its rs rv
      exact ⟨_, .list ho hc hd (by simpa using ra)⟩
  induction h with
  | non => exact ⟨fun v u r ru => by cases r; cases ru; exact ⟨_, .none⟩, fun ds ss e => by rcases e with ⟨e, _⟩ | ⟨e, _⟩ <;> cases e⟩
  | bl b => exact ⟨fun v u r ru => by cases r; cases ru; exact ⟨_, .bool b⟩, fun ds ss e => by rcases e with ⟨e, _⟩ | ⟨e, _⟩ <;> cases e⟩
  | int i => exact ⟨fun v u r ru => by cases r; obtain ⟨t, rfl⟩ := ru; exact ⟨_, .int i t⟩, fun ds ss e => by rcases e with ⟨e, _⟩ | ⟨e, _⟩ <;> cases e⟩
  | str x hx => exact ⟨fun v u r ru => by cases r; obtain ⟨t, rfl⟩ := ru; exact ⟨_, .str x t⟩, fun ds ss e => by rcases e with ⟨e, _⟩ | ⟨e, _⟩ <;> cases e⟩
  | tnil =>
    have k : ∀ vs us, RepDs X.K H vs [] → Vals vs us → ∃ as, ReadsAll s.heap us (pds []) as := fun vs us r ru => by
      have e := r.zero
      subst e
      cases ru
      exact ⟨_, .nil⟩
    refine ⟨tupOf k, fun ds ss e => ?_⟩
    rcases e with ⟨e, _⟩ | ⟨e, e2⟩
    · cases e
    · cases e; cases e2; exact k
  | tcons h1 h2 ih1 ih2 =>
    have k2 := ih2.2 _ _ (.inr ⟨rfl, rfl⟩)
    have k : ∀ vs us, RepDs X.K H vs (_ :: _) → Vals vs us → ∃ as, ReadsAll s.heap us (pds (_ :: _)) as := fun vs us r ru => by
      cases r with
      | cons r1 r2 =>
        cases ru with
        | cons u1 u2 =>
          obtain ⟨as, ra⟩ := ih1.1 _ _ r1 u1
          obtain ⟨bs, rb⟩ := k2 _ _ r2 u2
          exact ⟨_, .cons ra rb⟩
    refine ⟨tupOf k, fun ds ss e => ?_⟩
    rcases e with ⟨e, _⟩ | ⟨e, e2⟩
    · cases e
    · cases e; cases e2; exact k
  | rnil =>
    have k : ∀ vs us, RepDs X.K H vs [] → Vals vs us → ∃ as, ReadsAll s.heap us (pds []) as := fun vs us r ru => by
      have e := r.zero
      subst e
      cases ru
      exact ⟨_, .nil⟩
    refine ⟨rolOf k, fun ds ss e => ?_⟩
    rcases e with ⟨e, e2⟩ | ⟨e, _⟩
    · cases e; cases e2; exact k
    · cases e
  | rcons h1 h2 ih1 ih2 =>
    have k2 := ih2.2 _ _ (.inl ⟨rfl, rfl⟩)
    have k : ∀ vs us, RepDs X.K H vs (_ :: _) → Vals vs us → ∃ as, ReadsAll s.heap us (pds (_ :: _)) as := fun vs us r ru => by
      cases r with
      | cons r1 r2 =>
        cases ru with
        | cons u1 u2 =>
          obtain ⟨as, ra⟩ := ih1.1 _ _ r1 u1
          obtain ⟨bs, rb⟩ := k2 _ _ r2 u2
          exact ⟨_, .cons ra rb⟩
    refine ⟨rolOf k, fun ds ss e => ?_⟩
    rcases e with ⟨e, e2⟩ | ⟨e, _⟩
    · cases e; cases e2; exact k
    · cases e
  | ref hg h1 ih =>
    refine ⟨fun v u r ru => ?_, fun ds ss e => by rcases e with ⟨e, _⟩ | ⟨e, _⟩ <;> cases e⟩
    cases r
    cases ru
    obtain ⟨vs, hv, rs⟩ := ab.lst hg
    obtain ⟨its, rv, pl, hz⟩ := I.list (.of hv)
    obtain ⟨o, ho, hc, n, hd⟩ := pl.isList
    obtain ⟨as, ra⟩ := ih.2 _ _ (.inl ⟨rfl, rfl⟩) vs its rs rv
    exact ⟨_, .list ho hc hd (by simpa using ra)⟩
theorem op2_eq (hu : X.A.units + 64 < cLine) : OpR2 X (compareOp .Eq) (rEq false) := by
  intro pins s σ H G x y dx dy v u Q I ab rx ry dX dY q
  obtain ⟨a, b, sa, sb, q⟩ := q
  obtain ⟨as, ra⟩ := (rep_reads I ab sa).1 x v dX rx
  obtain ⟨bs, rb⟩ := (rep_reads I ab sb).1 y u dY ry
  have d1 := dep_pd sa
  refine SeqAt.compareEq_reads ra rb (lay_pd _ sa.nr) (lay_pd _ sb.nr) (by unfold SN at d1; omega) ?_
  rw [eqv_pd _ _ sa.nr sb.nr]
  exact ⟨.bl _, H, .bl _, G, I, .refl ab, rfl, .bl _, q⟩
theorem op2_ne (hu : X.A.units + 64 < cLine) : OpR2 X (compareOp .NotEq) (rEq true) := by
  intro pins s σ H G x y dx dy v u Q I ab rx ry dX dY q
  obtain ⟨a, b, sa, sb, q⟩ := q
  obtain ⟨as, ra⟩ := (rep_reads I ab sa).1 x v dX rx
  obtain ⟨bs, rb⟩ := (rep_reads I ab sb).1 y u dY ry
  have d1 := dep_pd sa
  refine SeqAt.compareNe_reads ra rb (lay_pd _ sa.nr) (lay_pd _ sb.nr) (by unfold SN at d1; omega) ?_
  rw [eqv_pd _ _ sa.nr sb.nr]
  exact ⟨.bl _, H, .bl _, G, I, .refl ab, rfl, .bl _, q⟩
end
end K2
end
section
namespace K2
open PySem PySem.Spec PyProof.Rows L2
set_option autoImplicit false
theorem eqD_key (j k : Key) : eqD (keyD j) (keyD k) = decide (j = k) := by
  cases j with
  | inl a => cases k with
    | inl b => simp only [keyD, eqD, key_ll]
    | inr b => simp [keyD, eqD]
  | inr a => cases k with
    | inl b => simp [keyD, eqD]
    | inr b => simp only [keyD, eqD, key_rr]; exact (Bool.beq_eq_decide_eq a b)
theorem eqDs_keys : ∀ (js ks : List Key), eqDs (js.map keyD) (ks.map keyD) = decide (js = ks)
  | [], [] => by simp [eqDs]
  | [], _ :: _ => by simp [eqDs]
  | _ :: _, [] => by simp [eqDs]
  | j :: js, k :: ks => by
    simp only [List.map_cons, eqDs]
    rw [eqD_key, eqDs_keys js ks]
    by_cases h1 : j = k <;> by_cases h2 : js = ks <;> simp [h1, h2]
theorem eqD_keyT (js ks : List Key) : eqD (.tup (js.map keyD)) (.tup (ks.map keyD)) = decide (js = ks) := by
  simp only [eqD]; exact eqDs_keys js ks
section
variable {K : PySem.W.Frag} {H : Hp}
theorem key1_of {d : D} (h : keyOk1 d = true) : ∃ k : Key, d = keyD k := by
  cases d with
  | int i => exact ⟨.inl i, rfl⟩
  | str x => exact ⟨.inr x, rfl⟩
  | _ => exact absurd h (by simp [keyOk1])
theorem keys_of : ∀ {ds : List D}, ds.all keyOk1 = true → ∃ ks : List Key, ds = ks.map keyD
  | [], _ => ⟨[], rfl⟩
  | d :: r, h => by
    rw [List.all_cons, Bool.and_eq_true] at h
    obtain ⟨k, rfl⟩ := key1_of h.1
    obtain ⟨ks, rfl⟩ := keys_of h.2
    exact ⟨k :: ks, rfl⟩
theorem keyT_of {d : D} (h : keyOkT d = true) : ∃ ks : List Key, d = .tup (ks.map keyD) := by
  cases d with
  | tup ds => obtain ⟨ks, rfl⟩ := keys_of (ds := ds) h; exact ⟨ks, rfl⟩
  | _ => exact absurd h (by simp [keyOkT])
theorem rep_key {v : V} {k : Key} (r : RepD K H v (keyD k)) : v = kV k := by
  cases k with
  | inl i => cases r; rfl
  | inr x => cases r; rfl
theorem reps_key : ∀ {vs : List V} {ks : List Key}, RepDs K H vs (ks.map keyD) → vs = ks.map kV
  | _, [], r => r.zero
  | _, k :: ks, r => by
    rw [List.map_cons] at r
    cases r with
    | cons r1 r2 => rw [rep_key r1, reps_key r2]; rfl
theorem rep_keyT {v : V} {ks : List Key} (r : RepD K H v (.tup (ks.map keyD))) : ∃ b, v = .ref b ∧ H b = some (.tup (ks.map kV)) := by
  cases r with
  | tup h rs => have e := reps_key rs; subst e; exact ⟨_, rfl, h⟩
theorem DKs.look {kv : List (Key × V)} {kvs : List (D × D)} (r : DKs K H kv kvs) (k : Key) : (∃ v d, valV kv k = some v ∧ K2.look kvs (keyD k) = some d ∧ RepD K H v d) ∨ (valV kv k = none ∧ K2.look kvs (keyD k) = none) := by
  induction r using DKs.ind with
  | nil => exact .inr ⟨rfl, rfl⟩
  | @cons j v d r t rd rs ih =>
    by_cases e : j = k
    · left
      refine ⟨v, d, valV_pos (p := (j, v)) e, ?_, rd⟩
      unfold K2.look
      rw [List.find?_cons_of_pos (by show eqD (keyD j) (keyD k) = true; rw [eqD_key]; exact decide_eq_true e)]; rfl
    · have e1 : valV ((j, v) :: r) k = valV r k := valV_neg (p := (j, v)) e
      have e2 : K2.look ((keyD j, d) :: t) (keyD k) = K2.look t (keyD k) := by
        unfold K2.look
        rw [List.find?_cons_of_neg (by show ¬ eqD (keyD j) (keyD k) = true; rw [eqD_key]; simpa using e)]
      rw [e1, e2]
      exact ih
theorem DTs.look {kv : List (List Key × V)} {kvs : List (D × D)} (r : DTs K H kv kvs) (k : List Key) : (∃ v d, valV kv k = some v ∧ K2.look kvs (.tup (k.map keyD)) = some d ∧ RepD K H v d) ∨ (valV kv k = none ∧ K2.look kvs (.tup (k.map keyD)) = none) := by
  induction r using DTs.ind with
  | nil => exact .inr ⟨rfl, rfl⟩
  | @cons j v d r t rd rs ih =>
    by_cases e : j = k
    · left
      refine ⟨v, d, valV_pos (p := (j, v)) e, ?_, rd⟩
      unfold K2.look
      rw [List.find?_cons_of_pos (by show eqD (.tup (j.map keyD)) (.tup (k.map keyD)) = true; rw [eqD_keyT]; exact decide_eq_true e)]; rfl
    · have e1 : valV ((j, v) :: r) k = valV r k := valV_neg (p := (j, v)) e
      have e2 : K2.look ((.tup (j.map keyD), d) :: t) (.tup (k.map keyD)) = K2.look t (.tup (k.map keyD)) := by
        unfold K2.look
        rw [List.find?_cons_of_neg (by show ¬ eqD (.tup (j.map keyD)) (.tup (k.map keyD)) = true; rw [eqD_keyT]; simpa using e)]
      rw [e1, e2]
      exact ih
end
theorem Kp.putD {H : Hp} {p : Addr} {o o' : HO} (hp : H p = some o) (h : (∃ k, o = .dK k) ∨ ∃ k, o = .dT k) : Kp H (upd H p o') :=
  ⟨fun a ys e => by rw [upd_ne (by rintro rfl; rw [hp] at e; rcases h with ⟨_, rfl⟩ | ⟨_, rfl⟩ <;> cases e)]; exact e, fun a ob u e => by rw [upd_ne (by rintro rfl; rw [hp] at e; rcases h with ⟨_, rfl⟩ | ⟨_, rfl⟩ <;> cases e)]; exact e⟩
section
variable {X : Cx} {pins : List (Addr × Obj)} {σ : L2.St} {H : Hp} {s : Shared} {G : Gp} {a : Addr} {kvs : List (D × D)} {k : D} {y : V}
theorem toT (I : Inv X pins σ H s) (e : H a = some (.dK [])) : Inv X pins σ (upd H a (.dT [])) s := by
  obtain ⟨z, hd, vs, rel, dd⟩ := dk_of I.hok e
  have hv : vs = [] := by cases rel; rfl
  subst hv
  obtain ⟨o, es, ep, ho, hx, hd', hko, hl, nd⟩ := dd
  have he : es = #[] := by
    cases hq : es.toList with
    | nil => simpa using hq
    | cons _ _ => rw [hq] at hl; cases hl
  subst he
  exact I.write (h' := s.heap) (t' := s.toks) (x := a) (e := a) (by rw [e]; exact True.intro) (.inl rfl) (fun b u _ q => q) ⟨o, ho⟩ ⟨Nat.zero_le _, hd, [], .nil, o, #[], ep, ho, hx, hd', rfl, List.nodup_nil⟩
theorem toK (I : Inv X pins σ H s) (e : H a = some (.dT [])) : Inv X pins σ (upd H a (.dK [])) s := by
  obtain ⟨z, hd, xs, rel, o, es, ep, ho, hx, hd', hl, nd⟩ := I.hok a _ e
  have hv : xs = [] := by cases rel; rfl
  subst hv
  have he : es = #[] := by simpa using hl
  subst he
  exact I.write (h' := s.heap) (t' := s.toks) (x := a) (e := a) (by rw [e]; exact True.intro) (.inl rfl) (fun b u _ q => q) ⟨o, ho⟩ ⟨Nat.zero_le _, hd, [], .nil, o, #[], ep, ho, hx, hd', (fun _ h => by simp at h), .nil, List.nodup_nil⟩
theorem mv_same {o : HO} (ab : AbH X.K H G) (hg : G a = some (.dic kvs)) (k : Kp H (upd H a o)) (ho : AbO X.K (upd H a o) a (.dic kvs)) : Mv X.K H G (upd H a o) G := by
  have m := Mv.put ab hg k ho
  have e : updG G a (.dic kvs) = G := by funext b; unfold updG; split
                                         · rename_i z; rw [z, hg]
                                         · rfl
  rw [e] at m
  exact m
theorem dict_at (I : Inv X pins σ H s) (ab : AbH X.K H G) (hg : G a = some (.dic kvs)) (hk : kindOk kvs k = true) (ry : RepD X.K H y k) :
    ∃ H', Inv X pins σ H' s ∧ Mv X.K H G H' G ∧ ((∃ (kv : List (Key × V)) (kk : Key), H' a = some (.dK kv) ∧ DKs X.K H' kv kvs ∧ k = keyD kk ∧ y = kV kk) ∨ ∃ (kv : List (List Key × V)) (kk : List Key) (b : Addr), H' a = some (.dT kv) ∧ DTs X.K H' kv kvs ∧ k = .tup (kk.map keyD) ∧ y = .ref b ∧ H' b = some (.tup (kk.map kV))) := by
  unfold kindOk at hk
  rw [Bool.or_eq_true, Bool.and_eq_true, Bool.and_eq_true] at hk
  rcases hk with ⟨h1, h2⟩ | ⟨h1, h2⟩
  · obtain ⟨kk, rfl⟩ := key1_of h1
    have ey := rep_key ry
    subst ey
    rcases ab a _ hg with ⟨kv, hv, rs⟩ | ⟨kv, hv, rs⟩
    · exact ⟨H, I, .refl ab, .inl ⟨kv, kk, hv, rs, rfl, rfl⟩⟩
    · cases rs with
      | nil =>
        refine ⟨_, toK I hv, mv_same ab hg (.putD hv (.inr ⟨_, rfl⟩)) (.inl ⟨[], upd_same, .nil⟩), .inl ⟨[], kk, upd_same, .nil, rfl, rfl⟩⟩
      | cons _ _ => simp [keyOk1] at h2
  · obtain ⟨kk, rfl⟩ := keyT_of h1
    obtain ⟨b, rfl, hb⟩ := rep_keyT ry
    rcases ab a _ hg with ⟨kv, hv, rs⟩ | ⟨kv, hv, rs⟩
    · cases rs with
      | nil =>
        have kp : Kp H (upd H a (.dT [])) := .putD hv (.inl ⟨_, rfl⟩)
        exact ⟨_, toT I hv, mv_same ab hg kp (.inr ⟨[], upd_same, .nil⟩), .inr ⟨[], kk, b, upd_same, .nil, rfl, rfl, kp.tup _ _ hb⟩⟩
      | @cons j _ _ _ _ _ _ => cases j <;> simp [keyD, keyOkT] at h2
    · exact ⟨H, I, .refl ab, .inr ⟨kv, kk, b, hv, rs, rfl, rfl, hb⟩⟩
theorem dict_get (I : Inv X pins σ H s) (ab : AbH X.K H G) (hg : G a = some (.dic kvs)) (hk : kindOk kvs k = true) (ry : RepD X.K H y k) :
    ∃ H' o, Inv X pins σ H' s ∧ Mv X.K H G H' G ∧ DGet H' a y o ∧ o.isSome = (look kvs k).isSome ∧ ∀ d, look kvs k = some d → ∃ v, o = some v ∧ RepD X.K H' v d := by
  obtain ⟨H', I', m, h⟩ := dict_at I ab hg hk ry
  rcases h with ⟨kv, kk, hv, rs, rfl, rfl⟩ | ⟨kv, kk, b, hv, rs, rfl, rfl, hb⟩
  · refine ⟨H', valV kv kk, I', m, .k hv, ?_, fun d hd => ?_⟩
    · rcases rs.look kk with ⟨v, d, e1, e2, _⟩ | ⟨e1, e2⟩ <;> rw [e1, e2] <;> rfl
    · rcases rs.look kk with ⟨v, d', e1, e2, r⟩ | ⟨e1, e2⟩
      · rw [e2] at hd; cases hd; exact ⟨v, e1, r⟩
      · rw [e2] at hd; cases hd
  · refine ⟨H', valV kv kk, I', m, .t hv hb, ?_, fun d hd => ?_⟩
    · rcases rs.look kk with ⟨v, d, e1, e2, _⟩ | ⟨e1, e2⟩ <;> rw [e1, e2] <;> rfl
    · rcases rs.look kk with ⟨v, d', e1, e2, r⟩ | ⟨e1, e2⟩
      · rw [e2] at hd; cases hd; exact ⟨v, e1, r⟩
      · rw [e2] at hd; cases hd
theorem rod_get {x : V} (I : Inv X pins σ H s) (rd : RepD X.K H x (.rod kvs)) (hk : kindOk kvs k = true) (ry : RepD X.K H y k) :
    ∃ a o, x = .ref a ∧ (kvs = [] ∨ DGet H a y o) ∧ o.isSome = (look kvs k).isSome ∧ ∀ d, look kvs k = some d → ∃ v, o = some v ∧ RepD X.K H v d := by
  unfold kindOk at hk
  rw [Bool.or_eq_true, Bool.and_eq_true, Bool.and_eq_true] at hk
  cases rd with
  | rodK h rs =>
    rename_i a ob kv
    rcases hk with ⟨h1, h2⟩ | ⟨h1, h2⟩
    · obtain ⟨kk, rfl⟩ := key1_of h1
      have ey := rep_key ry
      subst ey
      refine ⟨a, valV kv kk, rfl, .inr (.inl ⟨kv, kk, .inr ⟨_, h⟩, rfl, rfl⟩), ?_, fun d hd => ?_⟩
      · rcases rs.look kk with ⟨v, d, e1, e2, _⟩ | ⟨e1, e2⟩ <;> rw [e1, e2] <;> rfl
      · rcases rs.look kk with ⟨v, d', e1, e2, r⟩ | ⟨e1, e2⟩
        · rw [e2] at hd; cases hd; exact ⟨v, e1, r⟩
        · rw [e2] at hd; cases hd
    · cases rs with
      | nil => exact ⟨a, none, rfl, .inl rfl, rfl, fun d hd => by cases hd⟩
      | cons _ _ =>
        rename_i kx _ _ _ _ _ _
        rw [List.all_cons, Bool.and_eq_true] at h2
        cases kx <;> exact absurd h2.1 (by simp [keyD, keyOkT])
  | rodT h rs =>
    rename_i a ob kv
    rcases hk with ⟨h1, h2⟩ | ⟨h1, h2⟩
    · cases rs with
      | nil => exact ⟨a, none, rfl, .inl rfl, rfl, fun d hd => by cases hd⟩
      | cons _ _ =>
        rw [List.all_cons, Bool.and_eq_true] at h2
        exact absurd h2.1 (by simp [keyOk1])
    · obtain ⟨kk, rfl⟩ := keyT_of h1
      obtain ⟨b, rfl, hb⟩ := rep_keyT ry
      refine ⟨a, valV kv kk, rfl, .inr (.inr ⟨kv, kk, b, .inr ⟨_, h⟩, rfl, hb, rfl⟩), ?_, fun d hd => ?_⟩
      · rcases rs.look kk with ⟨v, d, e1, e2, _⟩ | ⟨e1, e2⟩ <;> rw [e1, e2] <;> rfl
      · rcases rs.look kk with ⟨v, d', e1, e2, r⟩ | ⟨e1, e2⟩
        · rw [e2] at hd; cases hd; exact ⟨v, e1, r⟩
        · rw [e2] at hd; cases hd
end
end K2
end
section
namespace K2
open PySem PySem.Spec PyProof.Rows L2
set_option autoImplicit false
section
variable {X : Cx} {a b c e : Expr} {es : List Expr} {ta tb tc te : TE2} {t : TA2} {pos p p2 apos cpos : Pos} {x : Str}
theorem pe2_bl {k : Bool} {j} : PE2 X (.Constant (.bool k) j pos) (dC (.bl k)) := pe2_const pe_bl fun _ _ => .bl k
theorem pe2_non {j} : PE2 X (.Constant .none j pos) (dC .non) := pe2_const pe_non fun _ _ => .non
theorem pe2_str {y : Str} {j} : PE2 X (.Constant (.str y) j pos) (dC (.str y)) := pe2_const pe_str fun _ _ => .str y
theorem ps2_never {st : Stmt} : PS2 X st dNever := fun _ _ _ _ _ _ _ _ _ _ h => h.elim
theorem un2_neg : UnR2 X (unaryOp .USub) rNeg := by
  intro pins s σ H G x dx v Q I ab rx dX q
  cases dX with
  | int i => exact thn (un_neg pins s σ H _ v (Rch X.K H G Q) I rx ⟨i, rfl, _, _, .refl ab, .int _, q⟩) fun _ _ z => .of z
  | _ => exact False.elim q
theorem pe2_ix (hu : X.A.units + 64 < cLine) (ha : PE2 X a ta) (hb : PE2 X b tb) (hs : PlainIx b) : PE2 X (.Subscript a b pos) (dBin rIx ta tb) := by
  intro E pins s σ H τ G Q hE I h
  refine Subscript_ (binT2 ha hb hE I h fun v u s2 x y dx dy H2 G2 J m rx ry dX dY q => ?_)
  have fin : ∀ {rb : R2}, IxR X rb → rb x y H2 (Rch X.K H2 G2 Q) → wpAny (model X.prog X.w) X.A (subscriptTail a b v u) (EP2 X pins σ H G Q) X.xe s2 := fun hr hq =>
    thn (hr a b pins s2 σ H2 x y v u _ J.inv rx ry hq (hs _ _)) fun _ _ z => (EP2.of z).trans m
  cases dX with
  | tup hq rs =>
    cases dY with
    | int i =>
      rw [rIx_tupM] at q
      split at q
      · rename_i d hd
        obtain ⟨w, hw, rw'⟩ := rs.atI hd
        exact fin ix_tup ⟨_, _, i, w, rfl, rfl, .of hq, hw, d, G2, .refl J.ab, rw', q⟩
      · exact q.elim
    | _ => exact False.elim q
  | rol hq rs =>
    cases dY with
    | int i =>
      rw [rIx_rolM] at q
      split at q
      · rename_i d hd
        obtain ⟨w, hw, rw'⟩ := rs.atI hd
        exact fin ix_list ⟨_, _, i, w, rfl, rfl, hq.sq, hw, d, G2, .refl J.ab, rw', q⟩
      · exact q.elim
    | _ => exact False.elim q
  | rodK h rs =>
    rw [rIx_rod] at q
    obtain ⟨hk, q⟩ := q
    split at q
    · rename_i d hd
      obtain ⟨a', o, ea, g, _, hv⟩ := rod_get J.inv (.rodK h rs) hk dY
      obtain ⟨w, rfl, rw'⟩ := hv d hd
      cases ea
      rcases g with rfl | g
      · cases hd
      · cases rx
        exact tail_any (dict_typeIs J.inv g) PySem.F.slot_dict_getitem.lookup (d_getItem (by omega) J.inv g ry fun w' s3 I4 rv => ⟨w, H2, d, G2, I4, m, rv, rw', q⟩) (hs _ _)
    · exact q.elim
  | rodT h rs =>
    rw [rIx_rod] at q
    obtain ⟨hk, q⟩ := q
    split at q
    · rename_i d hd
      obtain ⟨a', o, ea, g, _, hv⟩ := rod_get J.inv (.rodT h rs) hk dY
      obtain ⟨w, rfl, rw'⟩ := hv d hd
      cases ea
      rcases g with rfl | g
      · cases hd
      · cases rx
        exact tail_any (dict_typeIs J.inv g) PySem.F.slot_dict_getitem.lookup (d_getItem (by omega) J.inv g ry fun w' s3 I4 rv => ⟨w, H2, d, G2, I4, m, rv, rw', q⟩) (hs _ _)
    · exact q.elim
  | ref l =>
    rw [rIx_ref] at q
    split at q
    · rename_i ds hl
      obtain ⟨vs, hv, rs⟩ := J.ab.lst hl
      cases dY with
      | int i =>
        dsimp only at q
        split at q
        · rename_i d hd
          obtain ⟨w, hw, rw'⟩ := rs.atI hd
          exact fin ix_list ⟨_, _, i, w, rfl, rfl, .of hv, hw, d, G2, .refl J.ab, rw', q⟩
        · exact q.elim
      | _ => exact False.elim q
    · rename_i kvs hl
      obtain ⟨hk, q⟩ := q
      split at q
      · rename_i d hd
        obtain ⟨H3, o, I3, m3, g, _, hv⟩ := dict_get J.inv J.ab hl hk dY
        obtain ⟨w, rfl, rw'⟩ := hv d hd
        cases rx
        exact tail_any (dict_typeIs I3 g) PySem.F.slot_dict_getitem.lookup (d_getItem (by omega) I3 g ry fun w' s3 I4 rv => ⟨w, H3, d, G2, I4, m.trans m3, rv, rw', q⟩) (hs _ _)
      · exact q.elim
    · exact q.elim
  | _ => exact False.elim q
def PO2 (X : Cx) (e : Option Expr) (t : TO2) : Prop :=
  ∀ (E : XK2) (pins : List (Addr × Obj)) (s : Shared) (σ : L2.St) (H : Hp) (τ : St2) (G : Gp) (Q : Option Int → Gp → Prop), Lk X E → I2 X pins σ H τ G s → t E τ G Q →
    wpAny (model X.prog X.w) X.A (evalPart e X.env) (fun u s' => ∃ o H' G', Inv X pins σ H' s' ∧ Mv X.K H G H' G' ∧ IsPart u o ∧ Q o G') X.xe s
theorem po2_none : PO2 X none dNoPart := by
  intro E pins s σ H τ G Q hE I h
  rw [evalPart_none]
  exact wpAny_pure ⟨none, H, G, I.inv, .refl I.ab, .none, h⟩
theorem po2_some (h : PE2 X e te) : PO2 X (some e) (dPart te) := by
  intro E pins s σ H τ G Q hE I hw
  rw [evalPart_some]
  refine thnE h hE I hw fun x H1 d G1 u s1 I1 m1 r1 rd1 q1 => ?_
  cases rd1 with
  | int i =>
    obtain ⟨t, rfl⟩ := r1
    exact ⟨some i, H1, G1, I1.inv, m1, .int i t, q1⟩
  | _ => exact False.elim q1
theorem pe2_slice {lo hi : Option Expr} {tl th : TO2} (he : PE2 X a ta) (hl : PO2 X lo tl) (hu : PO2 X hi th) : PE2 X (.Subscript a (.Slice lo hi none p2) pos) (dSl ta tl th) := by
  intro E pins s σ H τ G Q hE I h
  refine Subscript_ (thnE he hE I h fun x H1 d G1 v s1 I1 m1 r1 rd1 q1 => ?_)
  refine wpAny_Slice (thn (hl E pins s1 σ H1 τ G1 _ hE I1 q1) fun vl s2 ⟨l, H2, G2, I2', m2, pl, q2⟩ => thn (hu E pins s2 σ H2 τ G2 _ hE (I1.mv I2' m2) q2) fun vu s3 ⟨r, H3, G3, I3, m3, pu, q3⟩ => ?_)
  rw [evalPart_none]
  refine wpAny_pure ?_
  have m13 := m2.trans m3
  have mm := m1.trans m13
  have I4 : Inv X pins σ H3 { s3 with heap := s3.heap.push { cls := .type "slice", data := .fields #[vl, vu, .none] } } := I3.kept (t' := s3.toks) fun b ob q => Heap.get?_push_of_some _ q
  have rd3 := rd1.mono (m13.kp I1.ab)
  have ab3 := m3.ab
  have key : ∀ {rb : V → Option Int → Option Int → Hp → VK → Prop}, SlR X rb → rb x l r H3 (Rch X.K H3 G3 Q) → wpAny (model X.prog X.w) X.A (subscriptTail a (.Slice lo hi none p2) v (.ref s3.heap.objs.size)) (EP2 X pins σ H G Q) X.xe { s3 with heap := s3.heap.push { cls := .type "slice", data := .fields #[vl, vu, .none] } } := fun hr hq => by
    obtain ⟨T, id, hT, ht, hg⟩ := hr pins { s3 with heap := s3.heap.push { cls := .type "slice", data := .fields #[vl, vu, .none] } } σ H3 x v vl vu l r s3.heap.objs.size _ I4 r1 (Heap.IsSliceOf.new ..) pl pu hq
    exact thn (tail_any (ops := [.ref s3.heap.objs.size, v]) ht hT hg (by with_unfolding_all rfl)) fun _ _ z => (EP2.of z).trans mm
  cases rd3 with
  | tup hq rs =>
    obtain ⟨hw, q⟩ := q3
    refine key sl_tup ⟨_, _, rfl, .of hq, ?_, fun p hp => ⟨_, G3, .hid ab3 hp, .tup upd_same ((rs.cut l r).mono (.new hp)), q⟩⟩
    rw [sIx_eq, sIx_eq, rs.length]
    exact hw
  | rol hq rs => exact key sl_list ⟨_, _, rfl, hq.sq, fun p hp => ⟨_, _, .newL ab3 hp (rs.cut l r), .ref _, q3 p (ab3.free hp)⟩⟩
  | ref g =>
    rw [rSl_ref] at q3
    split at q3
    · rename_i ds hg
      obtain ⟨vs, hv, rs⟩ := ab3.lst hg
      exact key sl_list ⟨_, _, rfl, .of hv, fun p hp => ⟨_, _, .newL ab3 hp (rs.cut l r), .ref _, q3 p (ab3.free hp)⟩⟩
    · exact q3.elim
  | _ => exact False.elim q3
theorem pds_any (ss : List D) (s : D) (h1 : nrs ss = true) (h2 : nr s = true) : ((pds ss).any fun y => PyData.eqv y (pd s)) = ss.any (eqD · s) := by
  induction ss with
  | nil => rfl
  | cons d r ih =>
    have h' : nr d = true ∧ nrs r = true := by simpa [nrs] using h1
    show (PyData.eqv (pd d) (pd s) || (pds r).any _) = _
    rw [ih h'.2, eqv_pd d s h'.1 h2]; rfl
theorem dep_pds {G : Gp} {n : Nat} {ds ss : List D} (h : Sn G (n + 1) (.rol ds) (.rol ss)) : PyData.depthAll (pds ss) ≤ n := by
  have := dep_pd h
  simp only [pd, PyData.depth] at this
  omega
theorem in_core (hu : X.A.units + 64 < cLine) (neg : Bool) {pins : List (Addr × Obj)} {s : Shared} {σ : L2.St} {H : Hp} {G : Gp} {x y : V} {dx t : D} {ds ss : List D} {v u : Value} {Q : DK} (I : Inv X pins σ H s) (ab : AbH X.K H G) (rx : RelV x v) (dX : RepD X.K H x dx)
    (hy : (∃ l vs its, u = .ref l ∧ Vals vs its ∧ RepDs X.K H vs ds ∧ (s.heap.IsList l its.toArray ∨ s.heap.IsTuple l its.toArray))) (s1 : Sn G SN dx t) (s2 : Sn G SN (.rol ds) (.rol ss))
    (q : Q (.bl (if neg then !ss.any (eqD · t) else ss.any (eqD · t))) G) : wpAny (model X.prog X.w) X.A (compareOp (if neg then .NotIn else .In) v u) (EP2 X pins σ H G Q) X.xe s := by
  obtain ⟨l, vs, its, rfl, rv, rs, hl⟩ := hy
  obtain ⟨as, ra⟩ := (rep_reads I ab s1).1 x v dX rx
  obtain ⟨bs, rb⟩ := (rep_reads I ab s2).2 ds ss (.inl ⟨rfl, rfl⟩) vs its rs rv
  have d2 := dep_pds (n := 7) s2
  have n2 : nrs ss = true := by have := s2.nr; simpa [nr] using this
  have lays := lay_pds _ n2
  have e := pds_any ss t n2 s1.nr
  have hu' : X.A.units + 1 + min (PyData.depthAll (pds ss)) (pd t).depth < cLine := by omega
  have rb' : ReadsAll s.heap its.toArray.toList (pds ss) bs := by simpa using rb
  have fin : ∀ k : Bool, k = (if neg then !ss.any (eqD · t) else ss.any (eqD · t)) → EP2 X pins σ H G Q (.bool k) s := fun k hk => by subst hk; exact ⟨.bl _, H, .bl _, G, I, .refl ab, rfl, .bl _, q⟩
  cases neg with
  | false =>
    rcases hl with hl | hl
    · exact SeqAt.in_listAt _ hl (SeqAt.items_eqAt rb' ra lays (lay_pd _ s1.nr) hu') (by rw [SeqAt.any_by_data rb' lays, e]; exact fin _ rfl)
    · exact SeqAt.in_tupleAt _ hl (SeqAt.items_eqAt rb' ra lays (lay_pd _ s1.nr) hu') (by rw [SeqAt.any_by_data rb' lays, e]; exact fin _ rfl)
  | true =>
    rcases hl with hl | hl
    · exact SeqAt.notIn_listAt _ hl (SeqAt.items_eqAt rb' ra lays (lay_pd _ s1.nr) hu') (by rw [SeqAt.any_by_data rb' lays, e]; exact fin _ rfl)
    · exact SeqAt.notIn_tupleAt _ hl (SeqAt.items_eqAt rb' ra lays (lay_pd _ s1.nr) hu') (by rw [SeqAt.any_by_data rb' lays, e]; exact fin _ rfl)
theorem in_rod (hu : X.A.units + 64 < cLine) (neg : Bool) {pins : List (Addr × Obj)} {s : Shared} {σ : L2.St} {H : Hp} {G : Gp} {x y : V} {dx : D} {kvs : List (D × D)} {v u : Value} {Q : DK} (I : Inv X pins σ H s) (ab : AbH X.K H G) (rx : RelV x v) (ry : RelV y u) (dY : RepD X.K H y (.rod kvs)) (dX : RepD X.K H x dx)
    (q : rIn neg dx (.rod kvs) G Q) : wpAny (model X.prog X.w) X.A (compareOp (if neg then .NotIn else .In) v u) (EP2 X pins σ H G Q) X.xe s := by
  obtain ⟨hne, hk, q⟩ := q
  have go : ∀ (a : Addr) (o : Option V), y = .ref a → DGet H a x o → o.isSome = (look kvs dx).isSome → wpAny (model X.prog X.w) X.A (compareOp (if neg then .NotIn else .In) v u) (EP2 X pins σ H G Q) X.xe s := by
    intro a o ea g ho
    subst ea
    cases ry
    cases neg with
    | false => exact d_in (by omega) I g rx fun s3 I4 => ⟨.bl _, H, .bl _, G, I4, .refl ab, rfl, .bl _, by rw [ho]; exact q⟩
    | true => exact d_notIn (by omega) I g rx fun s3 I4 => ⟨.bl _, H, .bl _, G, I4, .refl ab, rfl, .bl _, by rw [ho]; exact q⟩
  obtain ⟨a, o, ea, g, ho, _⟩ := rod_get I dY hk dX
  rcases g with rfl | g
  · exact absurd rfl hne
  · exact go a o ea g ho
theorem op2_inN (hu : X.A.units + 64 < cLine) (neg : Bool) : OpR2 X (compareOp (if neg then .NotIn else .In)) (rIn neg) := by
  intro pins s σ H G x y dx dy v u Q I ab rx ry dX dY q
  cases dY with
  | tup hq rs =>
    obtain ⟨t, ss, s1, s2, q⟩ := q
    cases ry
    obtain ⟨its, rv, pl, hz⟩ := I.tuple (.of hq)
    exact in_core hu neg (y := x) I ab rx dX ⟨_, _, its, rfl, rv, rs, .inr pl⟩ s1 s2 q
  | rol hq rs =>
    obtain ⟨t, ss, s1, s2, q⟩ := q
    cases ry
    obtain ⟨its, rv, pl, hz⟩ := I.list hq.sq
    exact in_core hu neg (y := x) I ab rx dX ⟨_, _, its, rfl, rv, rs, .inl pl.isList⟩ s1 s2 q
  | rodK h rs => exact in_rod hu neg I ab rx ry (.rodK h rs) dX q
  | rodT h rs => exact in_rod hu neg I ab rx ry (.rodT h rs) dX q
  | ref l =>
    unfold rIn at q
    dsimp only at q
    split at q
    · rename_i kvs hl
      obtain ⟨hk, q⟩ := q
      obtain ⟨H3, o, I3, m3, g, ho, _⟩ := dict_get I ab hl hk dX
      cases ry
      cases neg with
      | false => exact d_in (by omega) I3 g rx fun s3 I4 => ⟨.bl _, H3, .bl _, G, I4, m3, rfl, .bl _, by rw [ho]; exact q⟩
      | true => exact d_notIn (by omega) I3 g rx fun s3 I4 => ⟨.bl _, H3, .bl _, G, I4, m3, rfl, .bl _, by rw [ho]; exact q⟩
    · rename_i ds hl
      obtain ⟨t, ss, s1, s2, q⟩ := q
      cases ry
      obtain ⟨vs, hv, rs⟩ := ab.lst hl
      obtain ⟨its, rv, pl, hz⟩ := I.list (.of hv)
      exact in_core hu neg (y := x) I ab rx dX ⟨_, _, its, rfl, rv, rs, .inl pl.isList⟩ s1 s2 q
    · exact q.elim
  | _ => exact False.elim q
theorem op2_in (hu : X.A.units + 64 < cLine) : OpR2 X (compareOp .In) (rIn false) := op2_inN hu false
theorem op2_notin (hu : X.A.units + 64 < cLine) : OpR2 X (compareOp .NotIn) (rIn true) := op2_inN hu true
end
end K2
end
section
namespace K2
open PySem PySem.Spec PyProof.Rows L2
set_option autoImplicit false
section
variable {X : Cx} {a b c e o : Expr} {es : List Expr} {ta tb tc te to : TE2} {t : TA2} {pos p p2 apos cpos : Pos} {x name : Str} {id T : String}
theorem call2_len : CallR2 X (.builtin "len") cLen := by
  intro pins s σ H G xs ds us Q I ab rx rd q
  unfold cLen at q
  split at q
  · rename_i x
    obtain ⟨v, rfl, r⟩ := rd.one
    have viaL : ∀ (n : Nat), LenV X.K v H n → Q (.int (n : Int)) G → wpAny (model X.prog X.w) X.A (call (.builtin "len") us) (EP2 X pins σ H G Q) X.xe s := fun n hn hq =>
      thn (call_len pins s σ H [v] us (Rch X.K H G Q) I rx ⟨v, n, rfl, hn, _, _, .refl ab, .int _, hq⟩) fun _ _ z => .of z
    have sz : sizeLine = 16777216 := sizeLine_eq
    cases r with
    | tup hq rs => exact viaL _ (.inr ⟨_, .of hq, by rw [rs.length]⟩) q
    | rol hq rs => exact viaL _ (.inl ⟨_, hq.sq, by rw [rs.length]⟩) q
    | str y =>
      unfold lenOf at q
      dsimp only at q
      by_cases hz : y.length ≤ SZ
      · rw [if_pos hz] at q; exact viaL _ ⟨by rw [sz]; exact hz, rfl⟩ q
      · rw [if_neg hz] at q; exact q.elim
    | rodK h rs =>
      rename_i l o kv kvs
      obtain ⟨u, rfl, ru⟩ := rx.one
      cases ru
      unfold lenOf at q
      dsimp only at q
      by_cases ha : (kvs.all fun p => keyOk1 p.1) = true
      · rw [if_pos ha] at q
        exact d_len I (.inr ⟨_, h⟩) fun t s' I' => ⟨.int kv.length, H, _, G, I', .refl ab, ⟨t, rfl⟩, .int _, by rw [rs.length]; exact q⟩
      · rw [if_neg ha] at q; exact q.elim
    | rodT h rs =>
      rename_i l o kv kvs
      obtain ⟨u, rfl, ru⟩ := rx.one
      cases ru
      unfold lenOf at q
      dsimp only at q
      by_cases ha : (kvs.all fun p => keyOk1 p.1) = true
      · rw [if_pos ha] at q
        cases rs with
        | nil =>
          obtain ⟨z, hS, xs, rel, ob, es, ep, ho, hx, hd', hl, nd⟩ := (I.hok l _ h).2
          have hxs : xs = [] := by cases rel; rfl
          subst hxs
          have he : es = #[] := by simpa using hl
          subst he
          have dd : s.heap.DictOf (mixKind X.prog X.w) l [] := ⟨ob, #[], ep, ho, hx, hd', (fun _ h => by simp at h), .nil, List.nodup_nil⟩
          refine call_len_dict hS dd (by simp) ?_
          exact ⟨.int 0, H, _, G, I.tok _, .refl ab, ⟨_, rfl⟩, .int _, q⟩
        | cons _ _ => simp [keyOk1] at ha
      · rw [if_neg ha] at q; exact q.elim
    | ref l =>
      unfold lenOf at q
      dsimp only at q
      cases hg : G l with
      | none => rw [hg] at q; exact q.elim
      | some g =>
        rw [hg] at q
        cases g with
        | lst ds =>
          obtain ⟨vs, hv, rs⟩ := ab.lst hg
          exact viaL _ (.inl ⟨_, .of hv, by rw [rs.length]⟩) q
        | dic kvs =>
          obtain ⟨u, rfl, ru⟩ := rx.one
          cases ru
          dsimp only at q
          by_cases ha : (kvs.all fun p => keyOk1 p.1) = true
          · rw [if_pos ha] at q
            rcases ab l _ hg with ⟨kv, hv, rs⟩ | ⟨kv, hv, rs⟩
            · exact d_len I (.inl hv) fun t s' I' => ⟨.int kv.length, H, _, G, I', .refl ab, ⟨t, rfl⟩, .int _, by rw [rs.length]; exact q⟩
            · cases rs with
              | nil =>
                obtain ⟨z, hd, vs, rel, dd⟩ := dk_of (toK I hv).hok upd_same
                have hvs : vs = [] := by cases rel; rfl
                subst hvs
                refine call_len_dict hd dd (by simp) ?_
                exact ⟨.int 0, H, _, G, I.tok _, .refl ab, ⟨_, rfl⟩, .int _, q⟩
              | cons _ _ => simp [keyOk1] at ha
          · rw [if_neg ha] at q; exact q.elim
    | _ => exact False.elim q
  · exact q.elim
theorem call2_list : CallR2 X (.type "list") cList := by
  intro pins s σ H G xs ds us Q I ab rx rd q
  unfold cList at q
  split at q
  · rename_i x
    obtain ⟨v, rfl, r⟩ := rd.one
    have via : ∀ (l : Addr) (ys : List V) (zs : List D), v = .ref l → (SqL X.K H l ys ∨ SqT X.K H l ys) → RepDs X.K H ys zs → dNew G (.lst zs) Q → wpAny (model X.prog X.w) X.A (call (.type "list") us) (EP2 X pins σ H G Q) X.xe s := fun l ys zs e h rs hq => by
      subst e
      exact thn (call_list_of pins s σ H _ us (Rch X.K H G Q) I rx ⟨l, ys, rfl, h, fun p hp => ⟨_, _, .newL ab hp rs, .ref _, hq p (ab.free hp)⟩⟩) fun _ _ z => .of z
    cases r with
    | tup hq rs => exact via _ _ _ rfl (.inr (.of hq)) rs q
    | rol hq rs => exact via _ _ _ rfl (.inl hq.sq) rs q
    | ref l =>
      unfold itemsOf at q
      dsimp only at q
      cases hg : G l with
      | none => rw [hg] at q; exact q.elim
      | some g =>
        rw [hg] at q
        cases g with
        | lst ds =>
          obtain ⟨vs, hv, rs⟩ := ab.lst hg
          exact via _ _ _ rfl (.inl (.of hv)) rs q
        | dic kvs => exact q.elim
    | _ => exact False.elim q
  · exact q.elim
theorem pe2_callTy {r : List D → Gp → DK → Prop} (hc : CallR2 X (.type T) r) (hg : Gl X x) (hm : X.mg x = none) (hv : bootBuiltins x = some (.type T)) (ha : PA2 X (e :: es) t) (hn : x ≠ "__name__" := by decide) (hdb : (x == ("__debug__" : Str)) = false := by decide)
    (he : starEach (e :: es) X.env = (false, eval e X.env) :: starEach es X.env := by rfl) (hpl : (backTo pos (starEach es X.env)).any (·.1) = false := by rfl) : PE2 X (.Call (.Name x p) (e :: es) [] pos) (dCB r t) := by
  intro E pins s σ H τ G Q hE I h
  refine wpAny_Call_Name_kw (ld_blt I.inv hg hm hv ?_ hn hdb)
  exact PyProof.Rows.callWith_type1 (thnA ha pos hE I h fun vs H1 ds G1 us s1 I1 m1 r1 rd1 q1 => thn (hc pins s1 σ H1 G1 vs ds us Q I1.inv I1.ab r1 rd1 q1) fun _ _ z => z.trans m1) he hpl
theorem kit_ok (K : PySem.W.Frag) : ∀ C ∈ ["int", "bool", "list", "tuple", "dict", "str"], ∀ T ∈ ["NoneType", "bool", "int", "str", "tuple", "list", "dict"], PySem.W.kitOne K (.type T) (.type C) = some (T == C || (T == "bool" && C == "int")) := by
  intro C hC T hT
  simp only [List.mem_cons, List.not_mem_nil, or_false] at hC hT
  rcases hC with rfl | rfl | rfl | rfl | rfl | rfl <;> rcases hT with rfl | rfl | rfl | rfl | rfl | rfl | rfl <;> kernel_rfl
theorem isi_core (C : String) (hC : C ∈ ["int", "bool", "list", "tuple", "dict", "str"]) {pins : List (Addr × Obj)} {s : Shared} {σ : L2.St} {H : Hp} {G : Gp} {v : V} {d : D} {u : Value} {k : Bool} {Q : DK} (I : Inv X pins σ H s) (ab : AbH X.K H G) (ru : RelV v u) (r : RepD X.K H v d)
    (hk : isI C d G = some k) (q : Q (.bl k) G) : wpAny (model X.prog X.w) X.A (call (.builtin "isinstance") [u, .type C]) (EP2 X pins σ H G Q) X.xe s := by
  have fin : ∀ tk, EP2 X pins σ H G Q (.bool k) { s with toks := tk } := fun tk => ⟨.bl k, H, .bl k, G, I.tok _, .refl ab, rfl, .bl k, q⟩
  have hl : ∀ T ∈ ["NoneType", "bool", "int", "str", "tuple", "list", "dict"], k = (T == C || (T == "bool" && C == "int")) → PySem.W.kitOne X.K (.type T) (.type C) = some k := fun T hT e => by rw [kit_ok X.K C hC T hT, e]
  have tl : ∀ {l : Addr} {o : Obj}, s.heap.get? l = some o → o.cls = .type "list" → k = ("list" == C || ("list" == "bool" && C == "int")) → v = .ref l → wpAny (model X.prog X.w) X.A (call (.builtin "isinstance") [u, .type C]) (EP2 X pins σ H G Q) X.xe s := fun ho hc e ev => by
    subst ev
    cases ru
    exact PySem.W.kia_one PySem.W.kitx_list I.kIn ⟨_, ho, hc⟩ (hl "list" (by decide) e) (fun z => nomatch z) fin
  have td : ∀ {l : Addr} {o : Obj}, s.heap.get? l = some o → o.cls = .type "dict" → k = ("dict" == C || ("dict" == "bool" && C == "int")) → v = .ref l → wpAny (model X.prog X.w) X.A (call (.builtin "isinstance") [u, .type C]) (EP2 X pins σ H G Q) X.xe s := fun ho hc e ev => by
    subst ev
    cases ru
    exact PySem.W.kia_one PySem.W.kitx_dict I.kIn ⟨_, ho, hc⟩ (hl "dict" (by decide) e) (fun z => nomatch z) fin
  have cases6 : ∀ P : String → Prop, (∀ C' ∈ ["int", "bool", "list", "tuple", "dict", "str"], P C') → P C := fun P h => h C hC
  cases r with
  | non =>
    cases ru
    have e : k = ("NoneType" == C || ("NoneType" == "bool" && C == "int")) := by
      have : k = false := (Option.some.inj hk).symm
      rw [this]
      exact cases6 (fun C => false = ("NoneType" == C || ("NoneType" == "bool" && C == "int"))) (by decide)
    exact PySem.W.kia_one PySem.W.kitx_none I.kIn True.intro (hl _ (by decide) e) (fun z => nomatch z) fin
  | bl y =>
    cases ru
    have e : k = ("bool" == C || ("bool" == "bool" && C == "int")) := by
      have : k = (C == "bool" || C == "int") := (Option.some.inj hk).symm
      rw [this]
      exact cases6 (fun C => (C == "bool" || C == "int") = ("bool" == C || ("bool" == "bool" && C == "int"))) (by decide)
    exact PySem.W.kia_one PySem.W.kitx_bool I.kIn True.intro (hl _ (by decide) e) (fun z => nomatch z) fin
  | int y =>
    obtain ⟨t, rfl⟩ := ru
    have e : k = ("int" == C || ("int" == "bool" && C == "int")) := by
      have : k = (C == "int") := (Option.some.inj hk).symm
      rw [this]
      exact cases6 (fun C => (C == "int") = ("int" == C || ("int" == "bool" && C == "int"))) (by decide)
    exact PySem.W.kia_one PySem.W.kitx_int I.kIn True.intro (hl _ (by decide) e) (fun z => nomatch z) fin
  | str y =>
    obtain ⟨t, rfl⟩ := ru
    have e : k = ("str" == C || ("str" == "bool" && C == "int")) := by
      have : k = (C == "str") := (Option.some.inj hk).symm
      rw [this]
      exact cases6 (fun C => (C == "str") = ("str" == C || ("str" == "bool" && C == "int"))) (by decide)
    exact PySem.W.kia_one PySem.W.kitx_str I.kIn True.intro (hl _ (by decide) e) (fun z => nomatch z) fin
  | tup hq rs =>
    cases ru
    have e : k = ("tuple" == C || ("tuple" == "bool" && C == "int")) := by
      have : k = (C == "tuple") := (Option.some.inj hk).symm
      rw [this]
      exact cases6 (fun C => (C == "tuple") = ("tuple" == C || ("tuple" == "bool" && C == "int"))) (by decide)
    obtain ⟨its, rv, ⟨o, h1, h2, _⟩, hz⟩ := I.tuple (.of hq)
    exact PySem.W.kia_one PySem.W.kitx_tuple I.kIn ⟨o, h1, h2⟩ (hl _ (by decide) e) (fun z => nomatch z) fin
  | rol hq rs =>
    obtain ⟨its, rv, pl, hz⟩ := I.list hq.sq
    obtain ⟨o, h1, h2, _⟩ := pl.isList
    refine tl h1 h2 ?_ rfl
    have : k = (C == "list") := (Option.some.inj hk).symm
    rw [this]
    exact cases6 (fun C => (C == "list") = ("list" == C || ("list" == "bool" && C == "int"))) (by decide)
  | rodK h rs =>
    have e : k = ("dict" == C || ("dict" == "bool" && C == "int")) := by
      have : k = (C == "dict") := (Option.some.inj hk).symm
      rw [this]
      exact cases6 (fun C => (C == "dict") = ("dict" == C || ("dict" == "bool" && C == "int"))) (by decide)
    obtain ⟨_, _, vs, _, ob, _, _, h1, h2, _⟩ := dk_rd I.hok (.inr ⟨_, h⟩)
    exact td h1 h2.1 e rfl
  | rodT h rs =>
    have e : k = ("dict" == C || ("dict" == "bool" && C == "int")) := by
      have : k = (C == "dict") := (Option.some.inj hk).symm
      rw [this]
      exact cases6 (fun C => (C == "dict") = ("dict" == C || ("dict" == "bool" && C == "int"))) (by decide)
    obtain ⟨_, _, ys, _, ob, _, _, h1, h2, _⟩ := dt_rd I.hok (.inr ⟨_, h⟩)
    exact td h1 h2.1 e rfl
  | exc h => simp [isI] at hk
  | ref l =>
    unfold isI at hk
    dsimp only at hk
    cases hg : G l with
    | none => rw [hg] at hk; cases hk
    | some g =>
      rw [hg] at hk
      cases g with
      | lst ds =>
        obtain ⟨vs, hv, rs⟩ := ab.lst hg
        obtain ⟨its, rv, pl, hz⟩ := I.list (.of hv)
        obtain ⟨o, h1, h2, _⟩ := pl.isList
        refine tl h1 h2 ?_ rfl
        have : k = (C == "list") := (Option.some.inj hk).symm
        rw [this]
        exact cases6 (fun C => (C == "list") = ("list" == C || ("list" == "bool" && C == "int"))) (by decide)
      | dic kvs =>
        have e : k = ("dict" == C || ("dict" == "bool" && C == "int")) := by
          have : k = (C == "dict") := (Option.some.inj hk).symm
          rw [this]
          exact cases6 (fun C => (C == "dict") = ("dict" == C || ("dict" == "bool" && C == "int"))) (by decide)
        rcases ab l _ hg with ⟨kv, hv, rs⟩ | ⟨kv, hv, rs⟩
        · obtain ⟨_, _, vs, _, ob, _, _, h1, h2, _⟩ := dk_of I.hok hv
          exact td h1 h2.1 e rfl
        · obtain ⟨_, _, ys, _, ob, _, _, h1, h2, _⟩ := dt_of I.hok hv
          exact td h1 h2.1 e rfl
theorem pe2_isi (C : String) (hC : C ∈ ["int", "bool", "list", "tuple", "dict", "str"]) {y : Str} {py : Pos} (hg : Gl X "isinstance") (hm : X.mg "isinstance" = none) (hgC : Gl X y) (hmC : X.mg y = none) (hvC : bootBuiltins y = some (.type C)) (ha : PE2 X a ta) (hn : y ≠ "__name__" := by decide) (hdb : (y == ("__debug__" : Str)) = false := by decide)
    (he : starEach [a, .Name y py] X.env = (false, eval a X.env) :: starEach [.Name y py] X.env := by rfl) (hpl : (backTo pos (starEach [Expr.Name y py] X.env)).any (·.1) = false := by rfl) (he2 : starEach [.Name y py] X.env = [(false, eval (.Name y py) X.env)] := by rfl) :
    PE2 X (.Call (.Name "isinstance" p) [a, .Name y py] [] pos) (dIsi C ta) := by
  intro E pins s σ H τ G Q hE I h
  refine wpAny_Call_Name_kw (ld_blt I.inv hg hm PyProof.Rows.boot_isinstance ?_)
  refine PyProof.Rows.callWith_builtin1 ?_ he hpl
  rw [he]
  show wpAny _ _ (spliced ((false, eval a X.env) :: backTo pos (starEach [.Name y py] X.env))) _ _ s
  refine Calls.spliced_cons (thnE ha hE I h fun v H1 d G1 u s1 I1 m1 r1 rd1 q1 => ?_)
  rw [he2]
  show wpAny _ _ (spliced [(false, eval (.Name y py) X.env)]) _ _ s1
  refine Calls.spliced_cons (ld_blt I1.inv hgC hmC hvC (Calls.spliced_nil ?_) hn hdb)
  try dsimp only at q1
  split at q1
  · rename_i k hk
    exact thn (isi_core C hC I1.inv I1.ab r1 rd1 hk q1) fun _ _ z => z.trans m1
  · exact q1.elim
end
end K2
end
section
namespace K2
open PySem PySem.Spec PyProof.Rows L2
set_option autoImplicit false
section
variable {X : Cx} {a b c e o : Expr} {es : List Expr} {ta tb tc te to : TE2} {t : TA2} {pos p p2 apos cpos : Pos} {x name : Str} {id T : String}
def MtR2 (X : Cx) (id : String) (r : D → List D → Gp → DK → Prop) : Prop :=
  ∀ (pins : List (Addr × Obj)) (s : Shared) (σ : L2.St) (H : Hp) (G : Gp) (x : V) (d : D) (xs : List V) (ds : List D) (v : Value) (us : List Value) (Q : DK), Inv X pins σ H s → AbH X.K H G → RelV x v → RepD X.K H x d → Vals xs us → RepDs X.K H xs ds → r d ds G Q →
    wpAny (model X.prog X.w) X.A (call (.builtin id) (v :: us)) (EP2 X pins σ H G Q) X.xe s
def TyR2 (X : Cx) (T : String) (ty : D → Gp → Prop) : Prop := ∀ (pins : List (Addr × Obj)) (s : Shared) (σ : L2.St) (H : Hp) (G : Gp) (x : V) (d : D) (v : Value), Inv X pins σ H s → AbH X.K H G → RelV x v → RepD X.K H x d → ty d G →
    s.TypeIs v T ∧ ∀ a, v = .ref a → ∃ ob, s.heap.get? a = some ob ∧ ob.dict = none
theorem ty2_list : TyR2 X "list" tyL := by
  intro pins s σ H G x d v I ab r rd h
  cases rd with
  | rol hq rs => exact tyV_is I r (.inl ⟨rfl, _, hq.sq⟩)
  | ref l =>
    unfold tyL at h
    dsimp only at h
    split at h
    · rename_i ds hg
      obtain ⟨vs, hv, rs⟩ := ab.lst hg
      exact tyV_is I r (.inl ⟨rfl, vs, .of hv⟩)
    · exact h.elim
  | _ => exact False.elim h
theorem pe2_bm {ty : D → Gp → Prop} {r : D → List D → Gp → DK → Prop} (pa : PlainAttrs T) (slot : Slot T name id) (hty : typeOf (.builtin id) = pure (.type "method_descriptor")) (ht : TyR2 X T ty) (hm : MtR2 X id r) (ho : PE2 X o to) (ha : PA2 X (e :: es) t)
    (hbase : attributeBase o name X.env (eval o X.env) = eval o X.env := by rfl)
    (hfew : ((backTo cpos (starEach (e :: es) X.env)).all (fun x => !x.1) && (backToKw cpos (keywordEach [] X.env)).all (fun x => x.1.isSome)
      && decide ((e :: es).length + ([] : List Keyword).length + (if ([] : List Keyword).isEmpty then 0 else 1) < 30)) = true := by rfl)
    (hline : (apos.endLine == cpos.line) = true := by rfl) (hs : starEach (e :: es) X.env = (false, eval e X.env) :: starEach es X.env := by rfl) (hplain : (backTo cpos (starEach es X.env)).any (·.1) = false := by rfl) :
    PE2 X (.Call (.Attribute o name apos) (e :: es) [] cpos) (dMt ty r to t) := by
  intro E pins s σ H τ G Q hE I h
  refine wpAny_Call_method_late hbase hfew hline rfl (thnE ho hE I h fun x H1 d G1 v s1 I1 m1 r1 rd1 ⟨hy, q1⟩ => ?_)
  obtain ⟨h1, h2⟩ := ht pins s1 σ H1 G1 x d v I1.inv I1.ab r1 rd1 hy
  refine ⟨T, id, pa, slot, hty, h1, h2, ?_⟩
  have hA := ha cpos E pins s1 σ H1 τ G1 _ hE I1 q1
  rw [hs] at hA ⊢
  refine Calls.callWith_builtin (by show (false || (backTo cpos (starEach es X.env)).any (·.1)) = false; rw [hplain] <;> rfl) (Calls.evalArgs_plain ?_)
  exact thn hA fun us s2 ⟨vs, H2, ds, G2, I2', m2, r2, rd2, q2⟩ => thn (hm pins s2 σ H2 G2 x d vs ds v us Q I2' m2.ab r1 (rd1.mono (m2.kp I1.ab)) r2 rd2 q2) fun _ _ z => z.trans (m1.trans m2)
theorem mt2_append : MtR2 X "list.append" mAppend := by
  intro pins s σ H G x d xs ds v us Q I ab rx rd rxs rds q
  unfold mAppend at q
  split at q
  · rename_i l d'
    cases rd
    obtain ⟨w, rfl, rw'⟩ := rds.one
    split at q
    · rename_i zs hg
      obtain ⟨hz, q⟩ := q
      obtain ⟨vs, hv, rs⟩ := ab.lst hg
      exact thn (mt_append pins s σ H _ _ v us (Rch X.K H G Q) I rx rxs ⟨l, vs, w, rfl, rfl, hv, by rw [rs.length, sizeLine_eq]; exact hz, _, _, .putL ab hg hv (rs.append (.cons rw' .nil)), .non, q⟩) fun _ _ z => .of z
    · exact q.elim
  · exact q.elim
theorem extend_any (l : Addr) (xs : Array Value) (n : Nat) (b : Addr) (ys : Array Value) (n2 : Nat) (dd : Option Addr) (sl : Array (Option Value)) (hlong : ¬(!xs.isEmpty && Builtin.List.listTooLong (xs.size + ys.size)) = true) (hx : xs.size ≤ sizeLine) (hxy : xs.size + ys.size ≤ sizeLine + 1) :
    Meets (Builtin.«list.extend» ⟨[.ref l, .ref b], []⟩) (fun _ R s => s.heap.get? l = some { cls := .type "list", dict := none, data := .seq xs n, slots := #[] } ∧ s.heap.get? b = some { cls := .type "list", dict := dd, data := .seq ys n2, slots := sl } ∧ R (.ok (.ret Value.none)) { s with heap := s.heap.update l (Obj.mapSeq fun x => x ++ ys), toks := s.toks }) :=
  .of_wp fun prog w A R s h => by
    obtain ⟨hp, g, d, tk, os⟩ := s
    obtain ⟨h1, h2, h3⟩ := h
    have e1 := AutoSeq1.idx_int
    have e2 := AutoSeq1.sub_tuple_tuple
    have e3 := AutoSeq1.sub_list_list
    have e4 := AutoSeq1.sub_tuple_list
    have e5 := AutoSeq1.sub_list_tuple
    have hz' : (xs ++ ys).size ≤ sizeLine + 1 := by rw [Array.size_append]; exact hxy
    wp_walk using (wpAny_updateSeq h1 rfl (hz := hx) (_hz' := hz')), wpAny_loadPart' h1, wpAny_loadPart' h2
    exact ⟨_, rfl, h3⟩
theorem mt2_extend : MtR2 X "list.extend" mExtend := by
  intro pins s σ H G x d xs ds v us Q I ab rx rd rxs rds q
  unfold mExtend at q
  split at q
  · rename_i l y
    cases rd
    obtain ⟨w, rfl, rw'⟩ := rds.one
    obtain ⟨u, rfl, ru⟩ := rxs.one
    split at q
    · rename_i zs ys hg hg2
      obtain ⟨hz, q⟩ := q
      obtain ⟨vs, hv, rs⟩ := ab.lst hg
      obtain ⟨b, ws, its2, rfl, rv2, rs2, hb, _⟩ := addL_lists I ab ru rw' hg2
      cases rx
      obtain ⟨z, its, n, r, hl, e⟩ := I.lstM hv
      obtain ⟨⟨cl, dd, dt, sl⟩, ho, hcl, n2, hdt⟩ := hb
      simp only at hcl hdt
      subst hcl hdt
      have h1 := rv2.length
      have h2 := rs2.length
      have h3 := rs.length
      have h4 := r.length
      have h5 : sizeLine = 16777216 := sizeLine_eq
      have h6 : SZ = 16777216 := rfl
      have hsz : its.toArray.size + its2.toArray.size ≤ sizeLine := by rw [List.size_toArray, List.size_toArray]; omega
      have hlong : ¬ (!its.toArray.isEmpty && Builtin.List.listTooLong (its.toArray.size + its2.toArray.size)) = true := by
        rw [notLongL hsz, Bool.and_false]
        exact Bool.false_ne_true
      refine call_meets F.slot_list_extend ⟨_, e, rfl⟩ F.entry_list_extend (F.args_list_extend_2 _ _) (extend_any l its.toArray n b its2.toArray n2 dd sl hlong (by rw [List.size_toArray]; omega) (by omega)) ⟨e, ho, ?_⟩
      refine ⟨.non, _, .non, _, I.lset (its' := its ++ its2) hv e (by simp) (r.append rv2) ?_, .putL ab hg hv (rs.append rs2), rfl, .non, q⟩
      rw [List.length_append]
      omega
    · exact q.elim
  · exact q.elim
theorem ins_eq {its : List Value} {u : Value} {k : Nat} (hk : k ≤ its.length) : (its.toArray.extract 0 k).push u ++ its.toArray.extract k = (its.take k ++ u :: its.drop k).toArray := by
  simp [List.extract_eq_take_drop]
  rw [List.take_of_length_le (by rw [List.length_drop]; omega)]
theorem mt2_insert : MtR2 X "list.insert" mInsert := by
  intro pins s σ H G x d xs ds v us Q I ab rx rd rxs rds q
  unfold mInsert at q
  split at q
  · rename_i l i d'
    cases rd
    obtain ⟨w, w2, rfl, rw1, rw2⟩ := rds.two
    cases rw1
    split at q
    · rename_i zs hg
      obtain ⟨h0, h1, hz, q⟩ := q
      obtain ⟨vs, hv, rs⟩ := ab.lst hg
      obtain ⟨u1, u2, rfl, ⟨t, rfl⟩, ru2⟩ := vals2 rxs
      cases rx
      obtain ⟨z, its, n, r, hl, e⟩ := I.lstM hv
      have sz : sizeLine = 16777216 := sizeLine_eq
      have hlen : its.length = zs.length := by rw [← hl, rs.length]
      have hs : SZ = 16777216 := rfl
      have hfit : ¬ (!Builtin.List.listFitsIndex i) = true := by
        rw [fitsIndex_both (by omega) (by omega)]
        exact Bool.false_ne_true
      refine call_meets F.slot_list_insert ⟨_, e, rfl⟩ F.entry_list_insert (F.args_list_insert_3 _ _ _)
        (AutoSeq1.list_insert_list_int_val_1 l its.toArray n i t u2 hfit (by rw [List.size_toArray]; omega)) ⟨e, ?_⟩
      have hi : i.toNat ≤ its.length := by omega
      refine ⟨.non, _, .non, _, I.lset (its' := its.take i.toNat ++ u2 :: its.drop i.toNat) (ys := vs.take i.toNat ++ w2 :: vs.drop i.toNat) hv e ?_ ((r.take _).append (.cons ru2 (r.drop _))) ?_, .putL ab hg hv ((rs.take _).append (.cons rw2 (rs.drop _))), rfl, .non, q⟩
      · dsimp only
        have e1 : (if i < 0 then (i + (its.toArray.size : Int)).toNat else min i.toNat its.toArray.size) = i.toNat := by
          rw [if_neg (by omega), List.size_toArray]; omega
        rw [e1]
        exact ins_eq hi
      · rw [List.length_append, List.length_cons, List.length_take, List.length_drop]
        omega
    · exact q.elim
  · exact q.elim
theorem mt2_index (hu : X.A.units + 64 < cLine) : MtR2 X "list.index" mIndex := by
  intro pins s σ H G x d xs ds v us Q I ab rx rd rxs rds q
  unfold mIndex at q
  split at q
  · rename_i d'
    obtain ⟨hy, zs, sn, ss, hi, s1, s2, q⟩ := q
    obtain ⟨w, rfl, rw'⟩ := rds.one
    obtain ⟨u, rfl, ru⟩ := rxs.one
    have lists : ∃ l vs its, v = .ref l ∧ Vals vs its ∧ RepDs X.K H vs zs ∧ s.heap.IsList l its.toArray ∧ vs.length ≤ sizeLine := by
      cases rd with
      | rol hq rs =>
        cases hi
        cases rx
        obtain ⟨its, rv, pl, hz⟩ := I.list hq.sq
        exact ⟨_, _, its, rfl, rv, rs, pl.isList, hz⟩
      | ref l =>
        unfold itemsOf at hi
        dsimp only at hi
        cases hg : G l with
        | none => rw [hg] at hi; cases hi
        | some g =>
          rw [hg] at hi
          cases g with
          | lst ds =>
            cases hi
            cases rx
            obtain ⟨vs, hv, rs⟩ := ab.lst hg
            obtain ⟨its, rv, pl, hz⟩ := I.list (.of hv)
            exact ⟨_, _, its, rfl, rv, rs, pl.isList, hz⟩
          | dic _ => cases hi
      | _ => exact False.elim hy
    obtain ⟨l, vs, its, rfl, rv, rs, hl, hz⟩ := lists
    obtain ⟨as, ra⟩ := (rep_reads I ab s1).1 w u rw' ru
    obtain ⟨bs, rb⟩ := (rep_reads I ab s2).2 zs ss (.inl ⟨rfl, rfl⟩) vs its rs rv
    have d2 := dep_pds (n := 7) s2
    have n2 : nrs ss = true := by have := s2.nr; simpa [nr] using this
    have lays := lay_pds _ n2
    have hu' : X.A.units + 1 + min (PyData.depthAll (pds ss)) (pd sn).depth < cLine := by omega
    have rb' : ReadsAll s.heap its.toArray.toList (pds ss) bs := by simpa using rb
    have mp := SeqAt.readsAll_map _ _ _ lays rb'
    split at q
    · rename_i k hk
      obtain ⟨hlt, hhit, hno⟩ := List.findIdx?_eq_some_iff_getElem.mp hk
      have pdl : ∀ (zz : List D), (pds zz).length = zz.length := by
        intro zz
        induction zz with
        | nil => rfl
        | cons a r ih => simp [pds, ih]
      have hlen : its.length = ss.length := by
        have := congrArg List.length mp
        rw [List.length_map, pdl] at this
        simpa using this
      have at_ : ∀ (m : Nat) (h1 : m < its.toArray.size) (h2 : m < ss.length), PyData.eqv (SeqAt.readOf s.heap its.toArray[m]) (pd sn) = eqD ss[m] sn := by
        intro m h1 h2
        have e1 : (its.toArray.toList.map (SeqAt.readOf s.heap))[m]? = (pds ss)[m]? := by rw [mp]
        have pdg : ∀ (zz : List D) (m : Nat) (h : m < zz.length), (pds zz)[m]? = some (pd zz[m]) := by
          intro zz
          induction zz with
          | nil => intro m h; simp at h
          | cons a r ih => intro m h; cases m with
            | zero => simp [pds]
            | succ m => simpa [pds] using ih m (by simpa using h)
        rw [pdg ss m h2] at e1
        have h1' : m < its.length := by simpa using h1
        have e2 : SeqAt.readOf s.heap its.toArray[m] = pd ss[m] := by
          simpa [h1'] using e1
        rw [e2]
        have nrm : nr ss[m] = true := by
          have : ∀ (zz : List D) (m : Nat) (h : m < zz.length), nrs zz = true → nr zz[m] = true := by
            intro zz
            induction zz with
            | nil => intro m h; simp at h
            | cons a r ih => intro m h hn; have hn' : nr a = true ∧ nrs r = true := by simpa [nrs] using hn
                             cases m with
                             | zero => exact hn'.1
                             | succ m => exact ih m (by simpa using h) hn'.2
          exact this ss m h2 n2
        exact eqv_pd _ _ nrm s1.nr
      have sz : sizeLine = 16777216 := sizeLine_eq
      have hvl : vs.length = its.length := rv.length
      obtain ⟨⟨cls, dd, data, sl⟩, ho, hc, n, hd⟩ := id hl
      simp only at hc hd
      subst hc hd
      have hki : k < its.toArray.size := by rw [List.size_toArray]; omega
      refine call_meets PySem.F.slot_list_index ⟨_, ho, rfl⟩ PySem.F.entry_list_index (PySem.F.args_list_index_2 _ _)
        (SeqAt.list_indexAt l its.toArray n dd sl u (fun y => PyData.eqv (SeqAt.readOf s.heap y) (pd sn)) k hki (by omega) ?_ ?_) ⟨ho, SeqAt.items_eqAt rb' ra lays (lay_pd _ s1.nr) hu', ?_⟩
      · rw [at_ k hki hlt]; exact hhit
      · intro m hm hmk
        have hm2 : m < ss.length := by omega
        rw [at_ m hm hm2]
        simpa using hno m hmk
      · exact ⟨.int k, H, .int k, G, I.tok _, .refl ab, ⟨_, rfl⟩, .int _, q⟩
    · exact q.elim
  · exact q.elim
end
end K2
end
section
namespace K2
open PySem PySem.Spec PyProof.Rows L2
set_option autoImplicit false
def takenGo (env : Env) : List (Str × NameKind) → List (Str × Addr) → List (Str × Addr)
  | [], acc => acc
  | (n, k) :: r, acc => if k = .free then takenGo env r ((n, (env.cells.lookup n).getD 0) :: acc) else takenGo env r acc
theorem closure_go (env : Env) (f : Str × NameKind → List (Str × Addr) → Sem (ForInStep (List (Str × Addr)))) (hf : ∀ n k c, f (n, k) c = if (k == NameKind.free) = true then (cellOf env n >>= fun a => pure (ForInStep.yield ((n, a) :: c))) else pure (ForInStep.yield c)) :
    ∀ (ns : List (Str × NameKind)) (acc : List (Str × Addr)), (∀ x ∈ ns, x.2 = .free → ∃ c, env.cells.lookup x.1 = some c) → forIn ns acc f = (pure (takenGo env ns acc) : Sem (List (Str × Addr)))
  | [], acc, _ => rfl
  | (n, k) :: r, acc, h => by
    rw [List.forIn_cons, hf]
    have hr : ∀ x ∈ r, x.2 = .free → ∃ c, env.cells.lookup x.1 = some c := fun x hx => h x (List.mem_cons_of_mem _ hx)
    by_cases hk : k = .free
    · subst hk
      obtain ⟨c, hc⟩ := h (n, .free) List.mem_cons_self rfl
      have ec : cellOf env n = pure c := by unfold cellOf; rw [hc]
      rw [if_pos (by decide), ec, pure_bind, pure_bind]
      show forIn r ((n, c) :: acc) f = _
      rw [closure_go env f hf r _ hr]
      show _ = (pure (takenGo env ((n, .free) :: r) acc) : Sem (List (Str × Addr)))
      rw [takenGo, if_pos rfl, hc]; rfl
    · rw [if_neg (by simpa using hk), pure_bind]
      show forIn r acc f = _
      rw [closure_go env f hf r _ hr]
      show _ = (pure (takenGo env ((n, k) :: r) acc) : Sem (List (Str × Addr)))
      rw [takenGo, if_neg hk]
theorem closure_taken {env : Env} {scope : Scope} (h : ∀ x ∈ scope.names, x.2 = .free → ∃ c, env.cells.lookup x.1 = some c) : closureFor scope env = pure (takenGo env scope.names []) := by
  unfold closureFor
  dsimp only
  rw [closure_go env _ (fun n k c => ?_) scope.names [] h]
  · rfl
  · by_cases hk : (k == NameKind.free) = true
    · simp only [hk, if_true]
    · simp only [hk, if_false, Bool.false_eq_true]
theorem taken_in {env : Env} {x : Str} {c : Addr} : ∀ {ns : List (Str × NameKind)} {acc : List (Str × Addr)}, (∀ y ∈ ns, y.2 = .free → ∃ c, env.cells.lookup y.1 = some c) → (∀ y c, acc.lookup y = some c → env.cells.lookup y = some c) → (takenGo env ns acc).lookup x = some c → env.cells.lookup x = some c
  | [], _, _, ha, e => ha _ _ e
  | (n, k) :: r, acc, h, ha, e => by
    have hr : ∀ y ∈ r, y.2 = .free → ∃ c, env.cells.lookup y.1 = some c := fun y hy => h y (List.mem_cons_of_mem _ hy)
    unfold takenGo at e
    by_cases hk : k = .free
    · rw [if_pos hk] at e
      refine taken_in hr (fun y c' q => ?_) e
      rw [List.lookup_cons] at q
      by_cases hy : (y == n) = true
      · rw [hy] at q
        have e1 : y = n := eq_of_beq hy
        subst e1
        obtain ⟨c0, hc0⟩ := h (y, k) List.mem_cons_self hk
        rw [hc0] at q ⊢
        exact q
      · have hy' : (y == n) = false := by simpa using hy
        rw [hy'] at q
        exact ha y c' q
    · rw [if_neg hk] at e
      exact taken_in hr ha e
theorem taken_some {env : Env} {x : Str} : ∀ {ns : List (Str × NameKind)} {acc : List (Str × Addr)}, ((x, NameKind.free) ∈ ns ∨ ∃ c, acc.lookup x = some c) → ∃ c, (takenGo env ns acc).lookup x = some c
  | [], _, h => by rcases h with h | h; exact absurd h (by simp); exact h
  | (n, k) :: r, acc, h => by
    unfold takenGo
    have grow : ∀ a, (∃ c, acc.lookup x = some c) → ∃ c, ((n, a) :: acc).lookup x = some c := fun a ⟨c, hc⟩ => by
      rw [List.lookup_cons]
      by_cases hy : (x == n) = true
      · rw [hy]; exact ⟨_, rfl⟩
      · have hy' : (x == n) = false := by simpa using hy
        rw [hy']; exact ⟨c, hc⟩
    by_cases hk : k = .free
    · rw [if_pos hk]
      refine taken_some ?_
      rcases h with h | h
      · rcases List.mem_cons.mp h with e | h
        · injection e with e1 e2
          subst e1
          exact .inr ⟨(env.cells.lookup x).getD 0, by rw [List.lookup_cons]; simp⟩
        · exact .inl h
      · exact .inr (grow _ h)
    · rw [if_neg hk]
      refine taken_some ?_
      rcases h with h | h
      · rcases List.mem_cons.mp h with e | h
        · injection e with e1 e2
          exact absurd e2.symm hk
        · exact .inl h
      · exact .inr h
abbrev compCx (X : Cx) (N : List Str) (scope : Scope) (C : Addr) (s : Shared) (H : Hp) (fp : List Addr) : Cx :=
  { X with env := compEnvC scope (takenGo X.env scope.names []) C X.env, N := N, s₀ := s, H₀ := H, outer := X.stack, stack := X.stack, ex := fp, fn := fun _ => false, pn := [], xe := fun _ _ => False }
theorem relabel_cell {scope : Scope} {env : Env} {x : Str} (h : (relabel scope env).names.lookup x = some .cell ∨ (relabel scope env).names.lookup x = some .free) (hcell : ∀ y ∈ scope.names, y.2 ≠ .cell) : (x, NameKind.free) ∈ scope.names := by
  have go : ∀ k, (relabel scope env).names.lookup x = some k → k = .cell ∨ k = .free → (x, NameKind.free) ∈ scope.names := by
    intro k hk hkk
    have hm := PySem.mem_of_lookup hk
    unfold relabel at hm
    dsimp only at hm
    obtain ⟨⟨n, j⟩, hj, e⟩ := List.mem_map.mp hm
    dsimp only at e
    by_cases hc : (j == NameKind.free && env.scope.kind == .function && env.kindOf n == some .cell) = true
    · rw [if_pos hc] at e
      rw [Bool.and_eq_true, Bool.and_eq_true] at hc
      injection e with e1 e2
      have ej : j = .free := eq_of_beq hc.1.1
      rw [ej, e1] at hj
      exact hj
    · rw [if_neg hc] at e
      injection e with e1 e2
      subst e1
      rcases hkk with r | r
      · exact absurd (e2.trans r) (hcell _ hj)
      · rw [e2.trans r] at hj; exact hj
  rcases h with h | h
  · exact go _ h (.inl rfl)
  · exact go _ h (.inr rfl)
section
variable {X : Cx} {N : List Str} {scope : Scope} {fp : List Addr} {pins : List (Addr × Obj)} {σ : L2.St} {H : Hp} {s : Shared} {C : Addr}
theorem compOk (I : Inv X pins σ H s) (hcell : ∀ y ∈ scope.names, y.2 ≠ .cell) (hkind : scope.kind = .function) (hfree : ∀ y ∈ scope.names, y.2 = .free → X.env.kindOf y.1 = some .cell) (hC : s.heap.objs.size ≤ C) (hfp : ∀ b ∈ fp, FpOk X pins H b ∧ b < s.heap.objs.size) : (compCx X N scope C s H fp).Ok := by
  have hcl : ∀ y ∈ scope.names, y.2 = .free → ∃ c, X.env.cells.lookup y.1 = some c := fun y hy hf => I.ok.has _ (.inl (hfree y hy hf))
  have tin : ∀ x c, (takenGo X.env scope.names []).lookup x = some c → X.env.cells.lookup x = some c := fun x c e => taken_in hcl (fun y c q => by simp at q) e
  refine ⟨I.ok.mod, hkind, I.ok.glob, I.ok.blt, hC, fun x y c h1 h2 => I.ok.inj x y c (tin x c h1) (tin y c h2), fun x hx => ?_, fun x c h => absurd h (by simp), I.ok.hd, I.ok.frames, .inl rfl, fun b hb => ?_, I.bs, Nat.le_trans I.ok.bsz I.sz, fun b o e hb => ?_, fun b hb => ?_, I.stack, I.stkFree⟩
  · exact taken_some (.inl (relabel_cell hx hcell))
  · obtain ⟨⟨f0, f1, f2, f3, f4, f5⟩, hlt⟩ := hfp b hb
    exact ⟨Nat.ne_of_lt (Nat.lt_of_lt_of_le hlt hC), fun x c e => f4 x c (tin x c e)⟩
  · obtain ⟨⟨f0, f1, f2, f3, f4, f5⟩, hlt⟩ := hfp b hb
    rcases f3 with f3 | f3
    · exact I.ok.noex b o e f3
    · exact absurd (Nat.lt_of_lt_of_le (Heap.lt_size e) (Nat.le_trans I.ok.bsz f3)) (Nat.lt_irrefl _)
  · obtain ⟨⟨f0, f1, f2, f3, f4, f5⟩, hlt⟩ := hfp b hb
    intro z
    rcases List.mem_cons.mp (I.stkSub b z) with e | e
    · exact f1 e
    · exact f2 e
theorem compInv {h₁ : Heap} {m : Nat} {fr : List Nat} {tk : Nat} (I : Inv X pins σ H s) (ok : (compCx X N scope s.heap.objs.size s H fp).Ok) (hcell0 : ∀ y ∈ scope.names, y.2 ≠ .cell) (hfree : ∀ y ∈ scope.names, y.2 = .free → X.env.kindOf y.1 = some .cell) (hN : N.length = m + fr.length)
    (hfr : ∀ j i x, fr[j]? = some i → N[m + j]? = some x → X.N[i]? = some x ∧ X.env.scope.names.lookup x = some .cell ∧ (relabel scope X.env).names.lookup x = some .cell) (hns : ∃ mm, h₁.Ns s.heap.objs.size mm) (hk : ∀ b o, s.heap.get? b = some o → h₁.get? b = some o) :
    Inv (compCx X N scope s.heap.objs.size s H fp) [] (List.replicate m none ++ fr.map fun i => (σ[i]?).getD none) H { s with heap := h₁, toks := tk } := by
  have hcl : ∀ y ∈ scope.names, y.2 = .free → ∃ c, X.env.cells.lookup y.1 = some c := fun y hy hf => I.ok.has _ (.inl (hfree y hy hf))
  have tin : ∀ x c, (takenGo X.env scope.names []).lookup x = some c → X.env.cells.lookup x = some c := fun x c e => taken_in hcl (fun y c q => by simp at q) e
  obtain ⟨mm, hns⟩ := hns
  refine ⟨ok, rfl, I.bare, Un.kept hk, ⟨mm, hns, fun i x v h1 h2 h3 => ?_⟩, fun x c e => ?_, I.hok.fresh (Nat.le_refl _), fun x c e => ?_, fun p hp => absurd hp (by simp), I.hok.kept hk, ?_⟩
  · by_cases hi : i < m
    · rw [List.getElem?_append_left (by simpa using hi), List.getElem?_replicate] at h2
      split at h2 <;> cases h2
    · obtain ⟨j, rfl⟩ : ∃ j, i = m + j := ⟨i - m, by omega⟩
      rw [List.getElem?_append_right (by simp), List.length_replicate, Nat.add_sub_cancel_left, List.getElem?_map] at h2
      cases hj : fr[j]? with
      | none => rw [hj] at h2; cases h2
      | some k =>
        rw [hj] at h2
        have h2' : (σ[k]?).getD none = some v := by simpa using h2
        have hk' : σ[k]? = some (some v) := by
          cases q : σ[k]? with
          | none => rw [q] at h2'; cases h2'
          | some o => rw [q] at h2'; simp at h2'; rw [h2']
        obtain ⟨e1, e2, e3⟩ := hfr j k x hj h1
        obtain ⟨m0, hn0, hl0⟩ := I.loc
        obtain ⟨u, r, l⟩ := hl0 k x v e1 hk' (.inr (.inl e2))
        refine ⟨u, r, .inr ⟨.inl e3, ?_⟩⟩
        rcases l with ⟨l1, _⟩ | ⟨_, c, hc, hcell⟩
        · have : X.env.scope.names.lookup x = some .local := l1
          rw [e2] at this; cases this
        · have hx : (x, NameKind.free) ∈ scope.names := relabel_cell (.inl e3) hcell0
          obtain ⟨c', hc'⟩ := taken_some (env := X.env) (x := x) (ns := scope.names) (acc := []) (.inl hx)
          have := tin x c' hc'
          rw [hc] at this
          have ec : c = c' := Option.some.inj this
          subst ec
          obtain ⟨oc, hoc, hd⟩ := hcell
          exact ⟨c, hc', oc, hk _ _ hoc, hd⟩
  · obtain ⟨v, oc, hoc, hd⟩ := I.cell x c (tin x c e)
    exact ⟨v, oc, hk _ _ hoc, hd⟩
  · exact I.freeC x c (tin x c e)
  · rw [List.length_append, List.length_replicate, List.length_map]
    exact hN.symm
theorem compLoop_own {prog : Program} {w : World} {A : Around} {R : Result → Shared → Prop} {s : Shared} {elt target iter : Expr} {ifs : List Expr} {sc : Scope} {pos : Pos} {it acc : Value} {env : Env} (J : Nat → Shared → Prop)
    (turn : ∀ n s, J n s → wpAny (model prog w) A (pyNext it) (fun r s₁ => match r with
      | none => R (.ok .next) s₁
      | some v => wpAny (model prog w) A (letOwnedTupleGo target it v) (fun _ s₁' => wpAny (model prog w) A (assign target env v) (fun _ s₂ =>
          wpAny (model prog w) A (forIn ifs true fun c r => if r = true then do let ok ← isTrue c env (eval c env); pure (ForInStep.yield ok) else pure (ForInStep.yield r)) (fun k s₃ =>
            if k = true then wpAny (model prog w) A (eval elt env) (fun x s₄ => wpAny (model prog w) A (call (.builtin "list.append") [acc, x]) (fun _ s₅ => ∃ m, m < n ∧ J m s₅) (fun _ _ => False) s₄) (fun _ _ => False) s₃
            else ∃ m, m < n ∧ J m s₃) (fun _ _ => False) s₂) (fun _ _ => False) s₁') (fun _ _ => False) s₁) (fun _ _ => False) s) (n : Nat) (h : J n s) :
    codeAny (model prog w) A (.compLoop (.ListComp elt [⟨target, iter, ifs, 0⟩] sc pos) 0 it acc env) R s := by
  have no : ∀ {α : Type} {t : Sem α} {Q : α → Shared → Prop} {E : Value → Shared → Prop} {s : Shared}, wpAny (model prog w) A t Q (fun _ _ => False) s → wpAny (model prog w) A t Q E s := fun h => wpAny_mono h (fun _ _ q => q) fun _ _ z => z.elim
  refine codeAny_loop rfl J (fun n s hJ => ?_) n h
  show wpAny _ A ((compTurn (.ListComp elt [⟨target, iter, ifs, 0⟩] sc pos) 0 it acc env).onRaise (fun x => do noteFrame x env; theTreesLotGoes x)) _ _ s
  refine wpAny_noted ?_
  rw [compTurn_list]
  refine wpAny_bind (wpAny_standAt (wpAny_bind (thn (no (turn n s hJ)) fun r s₁ h₁ => ?_)))
  cases r with
  | none => exact wpAny_pure h₁
  | some v =>
    refine wpAny_bind (thn (no h₁) fun _ s₂ h₂ => wpAny_bind (thn (no h₂) fun _ s₃ h₃ => wpAny_bind (thn (no h₃) fun k s₄ h₄ => ?_)))
    cases k with
    | false => exact wpAny_pure ⟨rfl, h₄⟩
    | true => exact wpAny_bind (wpAny_bind (thn (no h₄) fun x s₅ h₅ => wpAny_bind (thn (no h₅) fun _ s₆ h₆ => wpAny_pure (wpAny_pure ⟨rfl, h₆⟩))))
def CompEnd (X : Cx) (pins : List (Addr × Obj)) (σ : L2.St) (H : Hp) (G : Gp) (Q : DK) (C Dd : Addr) (s' : Shared) : Prop :=
  ∃ m H' G', Inv X pins σ H' s' ∧ s'.heap.Ns C m ∧ FpOk X pins H' C ∧ Mv X.K H G H' G' ∧ Q (.ref Dd) G'
inductive PIf (Xc : Cx) : List Expr → Option TT2 → Prop
  | none : PIf Xc [] none
  | some {c : Expr} {t : TT2} : PT2 Xc c t → PIf Xc [c] (some t)
theorem comp_core {τ : St2} {G G2 : Gp} {H2 : Hp} {s2 : Shared} {tg elt iter : Expr} {ifs : List Expr} {pos : Pos} {m : Nat} {fr : List Nat} {E : XK2} {g : TG2} {c : Option TT2} {te : TE2} {J : It} {tn : Nat → Heap → Prop} {it : Addr} {ds : List D} {ok : Gp → Prop} {Q : DK} {Rr : Value → Addr → Result → Shared → Prop} {E0 : Value → Shared → Prop}
    (hc : X.calm = true) (hcell : ∀ y ∈ scope.names, y.2 ≠ .cell) (hkind : scope.kind = .function) (hfree : ∀ y ∈ scope.names, y.2 = .free → X.env.kindOf y.1 = some .cell) (hN : N.length = m + fr.length)
    (hfr : ∀ j i x, fr[j]? = some i → N[m + j]? = some x → X.N[i]? = some x ∧ X.env.scope.names.lookup x = some .cell ∧ (relabel scope X.env).names.lookup x = some .cell)
    (hg : ∀ C s H fp, PG2 (compCx X N scope C s H fp) tg g) (hi : ∀ C s H fp, PIf (compCx X N scope C s H fp) ifs c) (he : ∀ C s H fp, PE2 (compCx X N scope C s H fp) elt te)
    (I : I2 X pins σ H2 τ G2 s2) (m2 : Mv X.K H G H2 G2) (T : Turn X.prog X.w X.K tg J fp it tn) (st2 : tn 0 s2.heap) (f2 : ∀ b ∈ fp, FpOk X pins H2 b) (wk : Walk2 X.K J H2 ds ok) (hz : ds.length ≤ SZ)
    (hE0 : ∀ ex G, ¬ E ex G) (q : compGo g c te ok ds E (compSt m fr τ) G2 [] fun xs G3 => dNew G3 (.lst xs) Q)
    (fin : ∀ C s', CompEnd X pins σ H G Q C s2.heap.objs.size s' → Rr (.ref s2.heap.objs.size) C (.ok .next) s') :
    wpAny (model X.prog X.w) X.A (newList []) (fun acc s₃ => wpAny (model X.prog X.w) X.A (newFunctionEnv scope X.env.globals (takenGo X.env scope.names []) [] X.env.qual none .none (some X.env)) (fun cenv s₄ =>
      codeAny (model X.prog X.w) X.A (.compStart (.ListComp elt [⟨tg, iter, ifs, 0⟩] scope pos) 0 (.ref it) acc { cenv with scope := relabel scope X.env }) (Rr acc cenv.locals) s₄) E0 s₃) E0 s2 := by
  have sz : sizeLine = 16777216 := sizeLine_eq
  have fresh2 : H2 s2.heap.objs.size = none := I.inv.hok.fresh (Nat.le_refl _)
  have gfree2 : G2 s2.heap.objs.size = none := I.ab.free fresh2
  refine wpAny_newObj_type (wpAny_newFunctionEnv hcell (by intro y hy; simp at hy) (fun h₁ hns₁ hsb₁ => ?_) hkind)
  dsimp only at hns₁ hsb₁ ⊢
  have I3 : Inv X pins σ (upd H2 s2.heap.objs.size (.lst [])) { s2 with heap := s2.heap.push { cls := .type "list", data := .seq ([] : List Value).toArray }, toks := s2.toks } := I.inv.lnew (ys := []) .nil (Nat.zero_le _)
  generalize hs3 : ({ s2 with heap := s2.heap.push { cls := .type "list", data := .seq ([] : List Value).toArray }, toks := s2.toks } : Shared) = s3 at I3
  generalize hH3 : upd H2 s2.heap.objs.size (.lst []) = H3 at I3
  have eH3 : ∀ b, b ≠ s2.heap.objs.size → H3 b = H2 b := fun b hb => by rw [← hH3, upd_ne hb]
  have heap3 : s3.heap = s2.heap.push { cls := .type "list", data := .seq ([] : List Value).toArray } := by rw [← hs3]
  have size3 : s3.heap.objs.size = s2.heap.objs.size + 1 := by rw [heap3, Heap.size_push]
  have hfpObj : ∀ b ∈ fp, b < s2.heap.objs.size := fun b hb => by
    obtain ⟨o, e, _⟩ := T.obj _ _ st2 b hb
    exact Heap.lt_size e
  have hfp3 : ∀ b ∈ fp, FpOk X pins H3 b ∧ b < s3.heap.objs.size := fun b hb => by
    have hb2 := hfpObj b hb
    obtain ⟨f0, f1⟩ := f2 b hb
    exact ⟨⟨by rw [eH3 b (Nat.ne_of_lt hb2)]; exact f0, f1⟩, Nat.lt_of_lt_of_le hb2 (by rw [size3]; exact Nat.le_succ _)⟩
  have okc : (compCx X N scope s3.heap.objs.size s3 H3 fp).Ok := compOk I3 hcell hkind hfree (Nat.le_refl _) hfp3
  have hkeep : ∀ b o, s3.heap.get? b = some o → h₁.get? b = some o := fun b o e => by
    have hb : b < s3.heap.objs.size := Heap.lt_size e
    refine hsb₁.extBut b o ?_ (Heap.get?_push_of_some _ ?_)
    · rw [← heap3]; exact Nat.ne_of_lt hb
    · rw [← heap3]; exact e
  have hnsC : ∃ mm, h₁.Ns s3.heap.objs.size mm := ⟨_, by rw [heap3]; exact hns₁⟩
  have I4 := compInv (tk := s3.toks + ([] : List (Str × Value)).length) I3 okc hcell hfree hN hfr hnsC hkeep
  have kp23 : Kp H2 H3 := by rw [← hH3]; exact .new fresh2
  have ab3 : AbH X.K H3 G2 := by rw [← hH3]; exact (Mv.hid I.ab fresh2).ab
  have mv3 : Mv X.K H2 G2 H3 G2 := by rw [← hH3]; exact .hid I.ab fresh2
  have st3 : AbS X.K H3 (List.replicate m none ++ fr.map fun i => (σ[i]?).getD none) (compSt m fr τ) := by
    refine ⟨by unfold compSt; rw [List.length_append, List.length_append, List.length_map, List.length_map, List.length_replicate, List.length_replicate], fun i d h2 => ?_⟩
    unfold compSt at h2
    by_cases hi : i < m
    · rw [List.getElem?_append_left (by simpa using hi), List.getElem?_replicate] at h2
      split at h2 <;> cases h2
    · obtain ⟨j, rfl⟩ : ∃ j, i = m + j := ⟨i - m, by omega⟩
      rw [List.getElem?_append_right (by simp), List.length_replicate, Nat.add_sub_cancel_left, List.getElem?_map] at h2
      rw [List.getElem?_append_right (by simp), List.length_replicate, Nat.add_sub_cancel_left, List.getElem?_map]
      cases hj : fr[j]? with
      | none => rw [hj] at h2; cases h2
      | some k =>
        rw [hj] at h2
        have h2' : (τ[k]?).getD none = some d := by simpa using h2
        have hk' : τ[k]? = some (some d) := by
          cases qq : τ[k]? with
          | none => rw [qq] at h2'; cases h2'
          | some o => rw [qq] at h2'; simp at h2'; rw [h2']
        obtain ⟨v, e1, e2⟩ := I.st.at' k d hk'
        exact ⟨v, by simp [e1], e2.mono kp23⟩
  have hD3 : H3 s2.heap.objs.size = some (.lst []) := by rw [← hH3, upd_same]
  have st2' : tn 0 h₁ := T.keep _ _ _ st2 fun b hb o e => hkeep b o (by rw [heap3]; exact Heap.get?_push_of_some _ e)
  have statc : ∀ {Hc : Hp}, (∀ b ∈ fp, Hc b = none) → ∀ b ∈ fp, FpOk (compCx X N scope s3.heap.objs.size s3 H3 fp) [] Hc b := fun hn b hb =>
    ⟨hn b hb, (okc.exf b hb).1, okc.exfs b hb, .inl hb, fun x c e => (okc.exf b hb).2 x c e, fun p hp => absurd hp (by simp)⟩
  have neD : ∀ b ∈ fp, b ≠ s2.heap.objs.size := fun b hb => Nat.ne_of_lt (hfpObj b hb)
  have loop : codeAny (model X.prog X.w) X.A (.compLoop (.ListComp elt [⟨tg, iter, ifs, 0⟩] scope pos) 0 (.ref it) (.ref s2.heap.objs.size) (compCx X N scope s3.heap.objs.size s3 H3 fp).env) (Rr (.ref s2.heap.objs.size) s3.heap.objs.size)
      { s3 with heap := h₁, toks := s3.toks + ([] : List (Str × Value)).length } := by
    refine compLoop_own (fun n s' => ∃ i σc Hc τc Gc accV accD, I2 (compCx X N scope s3.heap.objs.size s3 H3 fp) [] σc Hc τc Gc s' ∧ Gc s2.heap.objs.size = none ∧ Hc s2.heap.objs.size = some (.lst accV) ∧ RepDs X.K Hc accV accD ∧ accD.length ≤ i ∧ Mv X.K H2 G2 Hc Gc ∧ tn i s'.heap ∧ (∀ b ∈ fp, Hc b = none) ∧
      n = ds.length - i ∧ i ≤ ds.length ∧ compGo g c te ok (ds.drop i) E τc Gc accD fun xs G3 => dNew G3 (.lst xs) Q) ?_ ds.length
      ⟨0, _, H3, _, G2, [], [], ⟨I4, st3, ab3⟩, gfree2, hD3, .nil, Nat.le_refl _, mv3, st2', fun b hb => by rw [eH3 b (neD b hb)]; exact (f2 b hb).1, rfl, Nat.zero_le _, q⟩
    rintro n s4 ⟨i, σc, Hc, τc, Gc, accV, accD, Ic, gD, hD, rA, hA, mc, stc, frc, rfl, hle, wq⟩
    have kpc : Kp H2 Hc := mc.kp I.ab
    by_cases hlt : i < ds.length
    · rw [List.drop_eq_getElem_cons hlt] at wq
      obtain ⟨okG, wq⟩ := wq
      obtain ⟨go, yl⟩ := (wk i Hc Gc kpc Ic.ab okG).1 ds[i] (by simp [hlt])
      refine thn (T.item (compCx X N scope s3.heap.objs.size s3 H3 fp) rfl rfl rfl hc i [] s4 σc Hc (fun _ _ => False) Ic.inv (statc frc) stc go) fun r s5 ⟨u, hr, h5⟩ => ?_
      subst hr
      refine thn h5 fun _ s6 ⟨x, H6, I6, r6, y6, st6, fr6⟩ => ?_
      obtain ⟨rd6, m6⟩ := yl x H6 y6
      have I6' := I6.pinned (statc fr6) (T.obj _ _ st6)
      have J6 : I2 (compCx X N scope s3.heap.objs.size s3 H3 fp) ([] ++ pinsAt fp s6.heap) σc H6 τc Gc s6 := ⟨I6', Ic.st.mono (m6.kp Ic.ab), m6.ab⟩
      have back : ∀ {σ9 : L2.St} {H9 : Hp} {τ9 : St2} {G9 : Gp} {s9 : Shared} {aV : List V} {aD : List D}, I2 (compCx X N scope s3.heap.objs.size s3 H3 fp) ([] ++ pinsAt fp s6.heap) σ9 H9 τ9 G9 s9 → Mv X.K H2 G2 H9 G9 → G9 s2.heap.objs.size = none → H9 s2.heap.objs.size = some (.lst aV) → RepDs X.K H9 aV aD → aD.length ≤ i + 1 →
          (compGo g c te ok (ds.drop (i + 1)) E τ9 G9 aD fun xs G3 => dNew G3 (.lst xs) Q) → ∃ mm, mm < ds.length - i ∧ ∃ i σc Hc τc Gc accV accD, I2 (compCx X N scope s3.heap.objs.size s3 H3 fp) [] σc Hc τc Gc s9 ∧ Gc s2.heap.objs.size = none ∧ Hc s2.heap.objs.size = some (.lst accV) ∧ RepDs X.K Hc accV accD ∧ accD.length ≤ i ∧
            Mv X.K H2 G2 Hc Gc ∧ tn i s9.heap ∧ (∀ b ∈ fp, Hc b = none) ∧ mm = ds.length - i ∧ i ≤ ds.length ∧ compGo g c te ok (ds.drop i) E τc Gc accD fun xs G3 => dNew G3 (.lst xs) Q := fun {σ9 H9 τ9 G9 s9 aV aD} I9 m9 g9 h9 r9 l9 n9 => by
        refine ⟨ds.length - (i + 1), by omega, i + 1, σ9, H9, τ9, G9, aV, aD, ⟨I9.inv.unpinned, I9.st, I9.ab⟩, g9, h9, r9, l9, m9, T.keep _ _ _ st6 fun b hb o e => (I9.inv.pin (b, o) (List.mem_append_right _ (List.mem_append_right _ (mem_pinsAt hb e)))).1, fun b hb => ?_, rfl, hlt, n9⟩
        obtain ⟨o, e, d⟩ := T.obj _ _ st6 b hb
        exact (I9.inv.pin (b, o) (List.mem_append_right _ (List.mem_append_right _ (mem_pinsAt hb e)))).2.1
      have mc6 := mc.trans m6
      have hD6 := m6.keep _ _ hD gD
      refine thn (hg _ _ _ _ E _ s6 σc H6 τc Gc x ds[i] u _ (Lk.none hE0) J6 r6 rd6 wq) fun _ s7 ⟨σ7, H7, τ7, G7, I7, m7, q7⟩ => ?_
      have hD7 := m7.keep _ _ hD6.1 gD
      have mc7 := mc6.trans m7
      have rA7 := rA.mono ((m6.trans m7).kp Ic.ab)
      have elt_ : ∀ (H8 : Hp) (G8 : Gp) (s8 : Shared), I2 (compCx X N scope s3.heap.objs.size s3 H3 fp) ([] ++ pinsAt fp s6.heap) σ7 H8 τ7 G8 s8 → Mv X.K H7 G7 H8 G8 → (te E τ7 G8 fun y G9 => compGo g c te ok (ds.drop (i + 1)) E τ7 G9 (accD ++ [y]) fun xs G3 => dNew G3 (.lst xs) Q) →
          wpAny (model X.prog X.w) X.A (eval elt (compCx X N scope s3.heap.objs.size s3 H3 fp).env) (fun y s₄ => wpAny (model X.prog X.w) X.A (call (.builtin "list.append") [.ref s2.heap.objs.size, y]) (fun _ s₅ => ∃ mm, mm < ds.length - i ∧ ∃ i σc Hc τc Gc accV accD, I2 (compCx X N scope s3.heap.objs.size s3 H3 fp) [] σc Hc τc Gc s₅ ∧ Gc s2.heap.objs.size = none ∧ Hc s2.heap.objs.size = some (.lst accV) ∧ RepDs X.K Hc accV accD ∧ accD.length ≤ i ∧
            Mv X.K H2 G2 Hc Gc ∧ tn i s₅.heap ∧ (∀ b ∈ fp, Hc b = none) ∧ mm = ds.length - i ∧ i ≤ ds.length ∧ compGo g c te ok (ds.drop i) E τc Gc accD fun xs G3 => dNew G3 (.lst xs) Q) (fun _ _ => False) s₄) (fun _ _ => False) s8 := fun H8 G8 s8 I8 m8 q8 => by
        refine thnE (he _ _ _ _) (Lk.none hE0) I8 q8 fun v H9 d9 G9 u9 s9 I9 m9 r9 rd9 q9 => ?_
        have m79 := m8.trans m9
        have hD9 := m79.keep _ _ hD7.1 hD7.2
        have rA9 := rA7.mono (m79.kp I7.ab)
        have mc9 := mc7.trans m79
        refine thn (mt_append (X := compCx X N scope s3.heap.objs.size s3 H3 fp) _ s9 σ7 H9 (.ref s2.heap.objs.size) [v] _ [u9] (fun _ H' => H' = upd H9 s2.heap.objs.size (.lst (accV ++ [v]))) I9.inv rfl (.cons r9 .nil)
          ⟨_, accV, v, rfl, rfl, hD9.1, by rw [rA.length, sz]; have : SZ = 16777216 := rfl; omega, rfl⟩) fun _ s10 ⟨v10, H10, I10, _, e10⟩ => ?_
        subst e10
        have kpA : Kp H9 (upd H9 s2.heap.objs.size (.lst (accV ++ [v]))) := .putL hD9.1
        have abA : AbH X.K (upd H9 s2.heap.objs.size (.lst (accV ++ [v]))) G9 := fun a g' e => by
          have ne : a ≠ s2.heap.objs.size := by rintro rfl; rw [hD9.2] at e; cases e
          exact (I9.ab a g' e).mono kpA (upd_ne ne)
        have mA : Mv X.K H2 G2 (upd H9 s2.heap.objs.size (.lst (accV ++ [v]))) G9 := ⟨fun a o e n => by
            have ne : a ≠ s2.heap.objs.size := ne_of_none e fresh2
            obtain ⟨e1, e2⟩ := mc9.keep a o e n
            exact ⟨by rw [upd_ne ne]; exact e1, e2⟩, fun a n => by
            by_cases ha : a = s2.heap.objs.size
            · rw [ha, upd_same]; simp
            · rw [upd_ne ha]; exact mc9.stay a n, abA⟩
        exact back ⟨I10, I9.st.mono kpA, abA⟩ mA hD9.2 upd_same ((rA9.append (.cons rd9 .nil)).mono kpA) (by rw [List.length_append, List.length_singleton]; omega) q9
      cases hi s3.heap.objs.size s3 H3 fp with
      | none =>
        refine wpAny_tests_nil ?_
        rw [if_pos rfl]
        exact elt_ H7 G7 s7 I7 (.refl I7.ab) q7
      | some hcond =>
        refine wpAny_tests_one (thnT hcond (Lk.none hE0) I7 q7 fun k H8 G8 s8 I8 m8 q8 => ?_)
        cases k with
        | true =>
          rw [if_pos rfl] at q8 ⊢
          exact elt_ H8 G8 s8 I8 m8 q8
        | false =>
          rw [if_neg Bool.false_ne_true] at q8 ⊢
          have hD8 := m8.keep _ _ hD7.1 hD7.2
          exact back I8 (mc7.trans m8) hD8.2 hD8.1 (rA7.mono (m8.kp I7.ab)) (by omega) q8
    · have hn : ds.length ≤ i := by omega
      rw [List.drop_eq_nil_of_le hn] at wq
      obtain ⟨okG, qn⟩ := wq
      have stop := (wk i Hc Gc kpc Ic.ab okG).2 hn
      refine thn (T.done (compCx X N scope s3.heap.objs.size s3 H3 fp) rfl rfl rfl hc i [] s4 σc Hc (fun _ _ => False) Ic.inv (statc frc) stc stop) fun r s5 ⟨hr, I5⟩ => ?_
      subst hr
      refine fin s3.heap.objs.size s5 ?_
      obtain ⟨mm, hns5, _⟩ := I5.loc
      have hC5 : Hc s3.heap.objs.size = none := I5.free
      have I6 : Inv X pins σ Hc s5 := by
        obtain ⟨h5, g5, d5, t5, o5⟩ := s5
        have eo : o5 = s3.os := I5.os
        subst eo
        exact I3.call (h' := h5) (g' := g5) (d' := d5) (t' := t5) (ch := fp) I5.base I5.hok I5.bare fun b hb => by
          obtain ⟨⟨f0, f1, f2', f3, f4, f5⟩, hl⟩ := hfp3 b hb
          exact ⟨f3, f1, f4, f5⟩
      have mvF : Mv X.K H2 G2 Hc (updG Gc s2.heap.objs.size (.lst accD)) := ⟨fun a o e n => by
          have ne : a ≠ s2.heap.objs.size := ne_of_none e fresh2
          obtain ⟨e1, e2⟩ := mc.keep a o e n
          exact ⟨e1, by rw [updG_ne ne]; exact e2⟩, mc.stay, fun a g' e => by
          by_cases ha : a = s2.heap.objs.size
          · subst ha
            rw [updG_same] at e
            cases e
            exact ⟨accV, hD, rA⟩
          · rw [updG_ne ha] at e
            exact Ic.ab a g' e⟩
      exact ⟨mm, Hc, _, I6, hns5, I3.fpOk (Nat.le_refl _) hC5, m2.trans mvF, qn _ gD⟩
  have all : codeAny (model X.prog X.w) X.A (.compStart (.ListComp elt [⟨tg, iter, ifs, 0⟩] scope pos) 0 (.ref it) (.ref s2.heap.objs.size) (compCx X N scope s3.heap.objs.size s3 H3 fp).env) (Rr (.ref s2.heap.objs.size) s3.heap.objs.size)
      { s3 with heap := h₁, toks := s3.toks + ([] : List (Str × Value)).length } := codeAny_compStart_list loop (T.self _ 0 _ _ _ st2' loop)
  subst hs3
  exact all
end
end K2
end
section
namespace K2
open PySem PySem.Spec PyProof.Rows L2
set_option autoImplicit false
section
variable {X : Cx} {N : List Str} {scope : Scope} {tg elt iter : Expr} {ifs : List Expr} {pos : Pos} {m : Nat} {fr : List Nat} {wi : TI2} {g : TG2} {c : Option TT2} {te : TE2}
structure CompOk (X : Cx) (N : List Str) (scope : Scope) (m : Nat) (fr : List Nat) : Prop where
  cell : ∀ y ∈ scope.names, y.2 ≠ .cell
  kind : scope.kind = .function
  names : ∀ y ∈ scope.names, y.2 = .local → scope.names.lookup y.1 = some .local
  free : ∀ y ∈ scope.names, y.2 = .free → X.env.kindOf y.1 = some .cell
  len : N.length = m + fr.length
  at' : ∀ j i x, fr[j]? = some i → N[m + j]? = some x → X.N[i]? = some x ∧ X.env.scope.names.lookup x = some .cell ∧ (relabel scope X.env).names.lookup x = some .cell
theorem CompOk.closed {X : Cx} {N : List Str} {scope : Scope} {m : Nat} {fr : List Nat} (k : CompOk X N scope m fr) {pins : List (Addr × Obj)} {σ : L2.St} {H : Hp} {s : Shared} (I : Inv X pins σ H s) : closureFor scope X.env = pure (takenGo X.env scope.names []) :=
  closure_taken fun y hy hf => I.ok.has _ (.inl (k.free y hy hf))
theorem pe2_compG (hc : X.calm = true) (k : CompOk X N scope m fr) (hi : PI2 X tg iter wi) (hg : ∀ C s H fp, PG2 (compCx X N scope C s H fp) tg g) (hif : ∀ C s H fp, PIf (compCx X N scope C s H fp) ifs c) (he : ∀ C s H fp, PE2 (compCx X N scope C s H fp) elt te)
    (hs : ∀ x, foldedSetIterable iter X.env x = pure x := by intro _; rfl) : PE2 X (.ListComp elt [⟨tg, iter, ifs, 0⟩] scope pos) (dComp m fr wi g c te) := by
  intro E pins s σ H τ G Q hE I h
  rw [eval_ListComp]
  refine wpAny_comprehension_free (use := none) rfl hs (k.closed I.inv) k.kind k.names (thn (hi E pins s σ H τ G _ hE I h) fun xv s₁ h₁ => thn h₁ fun itv s₂ h₂ => ?_)
  obtain ⟨it, fp, tn, J, H2, G2, ds, ok, e, I2', m2, T, st2, f2, wk, hz, q⟩ := h₂
  subst e
  refine comp_core (Rr := fun acc C => compPost (model X.prog X.w) X.A X.xe none (EP2 X pins σ H G Q) acc C) hc k.cell k.kind k.free k.len k.at' hg hif he (I.mv I2' m2) m2 T st2 f2 wk hz (fun _ _ z => z) q fun C s' ⟨mm, H', G', I', hns, fpC, mv, q'⟩ => ⟨mm, hns, fun h' hs' => ?_⟩
  obtain ⟨f0, f1, _, f3, f4, f5⟩ := fpC
  exact ⟨.ref _, H', .ref _, G', I'.turned (t' := s'.toks) (fun b o hb e => hs'.extBut b o hb e) f0 f1 f3 f4 f5, mv, rfl, .ref _, q'⟩
theorem glen_name {i : Nat} {u : TGs2} {n : Nat} (h : ∀ E ds τ G Q, u E ds τ G Q → ds.length = n) : ∀ E ds τ G Q, gCons (gName i) u E ds τ G Q → ds.length = n + 1 :=
  glen_cons h (fun _ _ _ _ _ _ q k => k _ _ q) fun _ _ _ _ q => q
theorem pv2 (i : Nat) {x : Str} {pos : Pos} (hN : X.N[i]? = some x := by rfl) (hv : Vis X.env.scope x := by first | exact Or.inl rfl | exact Or.inr (Or.inl rfl) | exact Or.inr (Or.inr rfl)) (hd : (x == ("__debug__" : Str)) = false := by decide)
    (hcd : (x == ("__classdict__" : Str)) = false := by decide) : PE2 X (.Name x pos) (dVar i) := pe2_var hN hv hd hcd
theorem range_all (bs : List Bool) : (List.range bs.length).all (fun i => bs.getD i true) = bs.all id := by
  rw [Bool.eq_iff_iff, List.all_eq_true, List.all_eq_true]
  constructor
  · intro h b hb
    obtain ⟨i, hi, e⟩ := List.getElem_of_mem hb
    have := h i (List.mem_range.mpr hi)
    rw [List.getD_eq_getElem?_getD, List.getElem?_eq_getElem hi, e] at this
    exact this
  · intro h i hi
    have hi' := List.mem_range.mp hi
    rw [List.getD_eq_getElem?_getD, List.getElem?_eq_getElem hi']
    exact h _ (List.getElem_mem hi')
theorem reps_bools {K : PySem.W.Frag} {H : Hp} : ∀ {vs : List V} {bs : List Bool} {its : List Value}, RepDs K H vs (bs.map D.bl) → Vals vs its → its = bs.map Value.bool
  | _, [], _, r, h => by rw [List.map_nil] at r; rw [r.zero] at h; cases h; rfl
  | _, b :: bs, _, r, h => by
    rw [List.map_cons] at r
    cases r with
    | cons r1 r2 =>
      cases r1
      cases h with
      | cons h1 h2 =>
        cases h1
        rw [reps_bools r2 h2]; rfl
theorem list_items {pins : List (Addr × Obj)} {s : Shared} {σ : L2.St} {H : Hp} {G : Gp} {x : V} {d : D} {v : Value} {zs : List D} (I : Inv X pins σ H s) (ab : AbH X.K H G) (rx : RelV x v) (rd : RepD X.K H x d) (hi : itemsOf d G = some zs) :
    ∃ l vs its, v = .ref l ∧ Vals vs its ∧ RepDs X.K H vs zs ∧ (s.heap.IsList l its.toArray ∨ s.heap.IsTuple l its.toArray) ∧ vs.length ≤ sizeLine := by
  cases rd with
  | rol hq rs =>
    cases hi
    cases rx
    obtain ⟨its, rv, pl, hz⟩ := I.list hq.sq
    exact ⟨_, _, its, rfl, rv, rs, .inl pl.isList, hz⟩
  | tup hq rs =>
    cases hi
    cases rx
    obtain ⟨its, rv, pl, hz⟩ := I.tuple (.of hq)
    exact ⟨_, _, its, rfl, rv, rs, .inr pl, hz⟩
  | ref l =>
    unfold itemsOf at hi
    dsimp only at hi
    cases hg : G l with
    | none => rw [hg] at hi; cases hi
    | some gg =>
      rw [hg] at hi
      cases gg with
      | lst ds =>
        cases hi
        cases rx
        obtain ⟨vs, hv, rs⟩ := ab.lst hg
        obtain ⟨its, rv, pl, hz⟩ := I.list (.of hv)
        exact ⟨_, _, its, rfl, rv, rs, .inl pl.isList, hz⟩
      | dic _ => cases hi
  | _ => cases hi
theorem call2_all (hc : X.calm = true) : CallR2 X (.builtin "all") cAll := by
  intro pins s σ H G xs ds us Q I ab rx rd q
  unfold cAll at q
  split at q
  · rename_i x
    obtain ⟨bs, hb, q⟩ := q
    obtain ⟨v, rfl, r⟩ := rd.one
    obtain ⟨u, rfl, ru⟩ := rx.one
    obtain ⟨l, vs, its, rfl, rv, rs, hl, hz⟩ := list_items I ab ru r hb
    have ei := reps_bools rs rv
    have hlen : its.length = bs.length := by rw [ei, List.length_map]
    have hne : ∀ {o : Obj}, s.heap.get? l = some o → l ≠ s.heap.objs.size := fun e => Nat.ne_of_lt (Heap.lt_size e)
    have tr : TruthOf X.prog X.w X.A.in1 (fun i v => its.toArray[i]? = some v) (fun i => bs.getD i true) := fun i v s' Q' E' hv hq => by
      subst ei
      have hv' : (bs.map Value.bool)[i]? = some v := by simpa using hv
      rw [List.getElem?_map] at hv'
      cases hbi : bs[i]? with
      | none => rw [hbi] at hv'; cases hv'
      | some b =>
        rw [hbi] at hv'
        cases hv'
        dsimp only at hq
        rw [List.getD_eq_getElem?_getD, hbi] at hq
        exact wpAny_truthy_bool hq
    have fin : ∀ h' tk, (∀ b o, b ∉ [s.heap.objs.size] → s.heap.get? b = some o → h'.get? b = some o) → EP2 X pins σ H G Q (.bool ((List.range its.toArray.size).all fun i => bs.getD i true)) { s with heap := h', toks := tk } := fun h' tk hk => by
      rw [List.size_toArray, hlen, range_all]
      exact ⟨.bl _, H, .bl _, G, I.kept fun b o e => hk b o (by simpa using Nat.ne_of_lt (Heap.lt_size e)) e, .refl ab, rfl, .bl _, q⟩
    rcases hl with hl | hl
    · refine call_all_walk (wpAny_pyIter_list hl ?_)
      obtain ⟨o, ho, hcl, n, hd⟩ := id hl
      exact ⟨s.heap.objs.size, _, _, _, _, _, _, rfl, Walks.list (A := X.A.in1) (show X.A.in1.handled = none from I.ok.hd hc) _ l (hne ho) its.toArray, ⟨⟨_, Heap.get?_push_size _ rfl, rfl, rfl⟩, ⟨o, Heap.get?_push_of_some _ ho, hcl, n, hd⟩⟩, tr, fun h' tk hk => fin h' tk fun b o hb e => hk b o hb (Heap.get?_push_of_some _ e)⟩
    · refine call_all_walk (wpAny_pyIter_tuple hl ?_)
      obtain ⟨o, ho, hcl, n, hd⟩ := id hl
      exact ⟨s.heap.objs.size, _, _, _, _, _, _, rfl, Walks.tuple (A := X.A.in1) (show X.A.in1.handled = none from I.ok.hd hc) _ l (hne ho) its.toArray, ⟨⟨_, Heap.get?_push_size _ rfl, rfl, rfl⟩, ⟨o, Heap.get?_push_of_some _ ho, hcl, n, hd⟩⟩, tr, fun h' tk hk => fin h' tk fun b o hb e => hk b o hb (Heap.get?_push_of_some _ e)⟩
  · exact q.elim
theorem pss_of {body : List Stmt} {t2 : TS2} (h : PSs2 X body t2) {E : XK2} (hE : Lk X E) : PSs X body (fun D σ H => ∃ (τ : St2) (G : Gp) (D2 : Ends2), AbS X.K H σ τ ∧ AbH X.K H G ∧ t2 E D2 τ G ∧
    (∀ σ' H' τ' G', Mv X.K H G H' G' → D2.nx τ' G' → D.nx σ' H') ∧ (∀ v H' d G', Mv X.K H G H' G' → RepD X.K H' v d → D2.rt d G' → D.rt v H') ∧ (∀ τ G, ¬ D2.bk τ G) ∧ (∀ τ G, ¬ D2.ct τ G)) := by
  intro pins s σ H D I ⟨τ, G, D2, st, ab, q, k1, k2, k3, k4⟩
  refine thn (h E pins s σ H τ G D2 hE ⟨I, st, ab⟩ q) fun f s1 z => ?_
  cases f with
  | next => obtain ⟨σ', H', τ', G', J, mv, z⟩ := z; exact ⟨σ', H', J.inv, k1 σ' H' τ' G' mv z⟩
  | brk => obtain ⟨σ', H', τ', G', J, mv, z⟩ := z; exact (k3 _ _ z).elim
  | cont => obtain ⟨σ', H', τ', G', J, mv, z⟩ := z; exact (k4 _ _ z).elim
  | ret u => obtain ⟨v, σ', H', d, G', J, mv, r, rd, z⟩ := z; exact ⟨v, σ', H', J, r, k2 v H' d G' mv rd z⟩
theorem start_ab {K : PySem.W.Frag} {H : Hp} {Nn : List Str} {vs : List V} {ds : List D} (r : RepDs K H vs ds) : AbS K H (L2.start Nn vs) (start2 Nn.length ds) := by
  unfold L2.start start2
  refine ⟨by simp [r.length], fun i d h => ?_⟩
  by_cases hi : i < ds.length
  · rw [List.getElem?_append_left (by simpa using hi), List.getElem?_map] at h
    cases hd : ds[i]? with
    | none => rw [hd] at h; cases h
    | some d' =>
      rw [hd] at h
      have e : d' = d := by simpa using h
      subst e
      obtain ⟨v, h1, h2⟩ := r.get hd
      refine ⟨v, ?_, h2⟩
      rw [List.getElem?_append_left (by simpa [r.length] using hi), List.getElem?_map, h1]; rfl
  · rw [List.getElem?_append_right (by simpa using hi), List.getElem?_replicate] at h
    split at h <;> cases h
theorem fun_ok2 {P : Program} {w : World} {K : PySem.W.Frag} {mg : Str → Option Value} {base : Heap} {x qual : Str} {st : Stmt} {f : Addr} {fd : FuncData} {Nn ps : List Str} {k : Nat} {sp : Sp2} {rd : TS2} (F : Fun K x qual st f fd) (S : FnScope Nn ps (defScope st)) (len : ∀ ds G Q E, sp ds G Q E → ds.length = ps.length)
    (hr : ∀ ds G Q, sp ds G Q (fun _ _ => False) → rd (fun _ _ => False) (ends Q) (start2 Nn.length ds) G)
    (hb : ∀ (cdv : Value) (A : Around) (outer : List Env) (s : Shared) (H : Hp) (E : XK), Room k (A.deeper (envOfC qual (defScope st) s.heap.objs.size f cdv)) → PSs2 (cxOf CX0 P w K mg base Nn qual (defScope st) f cdv A outer s H E).nox (defBody st) rd) : FnOk P w K mg base CX0 (k + 1) f fd ps (spOf K sp) := by
  refine F.ok S (fun vs H Q E ⟨ds, G, Q2, r, ab, q, _⟩ => by rw [r.length]; exact len _ _ _ _ q) fun cdv A outer s H vs Q E hroom ⟨ds, G, Q2, r, ab, q, kk⟩ => ?_
  refine ⟨_, pss_of (hb cdv A outer s H E hroom) (E := fun _ _ => False) (Lk.none fun _ _ z => z), ?_⟩
  exact ⟨start2 Nn.length ds, G, ends Q2, start_ab r, ab, hr ds G Q2 q, fun σ' H' τ' G' mv z => kk _ _ _ _ z mv .non, fun v H' d G' mv rdv z => kk _ _ _ _ z mv rdv, fun _ _ z => z, fun _ _ z => z⟩
section
variable {prog : Program} {w : World} {A : Around} {R : Result → Shared → Prop} {It0 : Addr} {fq wr : List Addr} {n : Nat} {P : Nat → Value → Prop} {Sx : Nat → Heap → Prop}
theorem min_go (W : Walks prog w A.in1 It0 fq wr n P Sx) (bt : Nat → Nat → Bool) (T : Heap → Prop) (B : Addr) (hB : B ∉ fq) (hT : ∀ h h', T h → (∀ b o, b ∉ wr → b ≠ B → h.get? b = some o → h'.get? b = some o) → T h')
    (cmp : ∀ i j x y s (Q : Value → Shared → Prop) (E : Value → Shared → Prop), T s.heap → P i x → P j y → Q (.bool (bt i j)) s → wpAny (model prog w) A.in1 (richCompare .Lt x y) Q E s) :
    ∀ (k j : Nat) (s : Shared) (best : Value) (cc : Nat), n - (j + 1) = k → j + 1 ≤ n → Sx (j + 1) s.heap → T s.heap → P (argBest bt j) best →
    s.heap.get? B = some { cls := .type "list", dict := none, data := .seq #[best, best] cc, slots := #[] } →
    (∀ v h' tk, P (argBest bt (n - 1)) v → (∀ b o, b ∉ wr → b ≠ B → s.heap.get? b = some o → h'.get? b = some o) → R (.ok (.ret v)) { s with heap := h', toks := tk }) →
    codeAny (model prog w) A (.builtin "min.loop" ⟨[.ref It0, .none, .ref B], []⟩) R s := by
  have hBw : B ∉ wr := fun z => hB (W.sub _ z)
  have nm : (toString "min" ++ toString ".loop" : String) = "min.loop" := by decide
  intro k
  induction k with
  | zero =>
    intro j s best cc hk hj hs ht hp hb hR
    have ej : j + 1 = n := by omega
    refine codeAny_builtin F.entry_min_loop ?_; rw [Around.under_plainId F.plain_min_loop _]
    show wpAny _ A.in1 (seqItems? (.ref B) >>= _) _ _ s; refine wpAny_bind (wpAny_seqItems hb rfl ?_)
    show wpAny _ A.in1 (tryCatch (pyNext (.ref It0)) _ >>= _) _ _ s; refine wpAny_bind (wpAny_tryCatch (W.done s _ _ (ej ▸ hs) fun h' tk kept => ?_))
    have hb' := kept B _ hBw hb
    show wpAny _ A.in1 (updateSeq B (fun _ => #[]) >>= _) _ _ _; refine wpAny_bind ?_
    refine wpAny_updateSeq hb' rfl (wpAny_bind (wpAny_letGo (wpAny_pure ?_)))
    exact hR best _ tk (by rw [← ej]; exact hp) fun b o z1 z2 e => (Heap.get?_update_other _ _ (Ne.symm z2)).trans (kept b o z1 e)
  | succ k ih =>
    intro j s best cc hk hj hs ht hp hb hR
    have lt : j + 1 < n := by omega
    refine codeAny_builtin F.entry_min_loop ?_; rw [Around.under_plainId F.plain_min_loop _]
    show wpAny _ A.in1 (seqItems? (.ref B) >>= _) _ _ s; refine wpAny_bind (wpAny_seqItems hb rfl ?_)
    show wpAny _ A.in1 (tryCatch (pyNext (.ref It0)) _ >>= _) _ _ s; refine wpAny_bind (wpAny_tryCatch (W.item (j + 1) s _ _ lt hs fun v h' tk pv st' kept => ?_))
    have hb' := kept B _ hBw hb
    have ht' : T h' := hT _ _ ht fun b o z1 _ e => kept b o z1 e
    show wpAny _ A.in1 (tryCatch (holding [v, v] (richCompare .Lt v best >>= _)) _ >>= _) _ _ _
    refine wpAny_bind (wpAny_tryCatch (wpAny_holding (wpAny_bind (cmp (j + 1) (argBest bt j) v best _ _ _ ht' pv hp ?_)))); refine wpAny_bind (wpAny_holding (wpAny_truthy_bool ?_)); refine wpAny_bind (wpAny_letGo (wpAny_pure ?_))
    cases hbt : bt (j + 1) (argBest bt j) with
    | true =>
      simp only [if_true]; refine wpAny_bind ?_
      refine wpAny_updateSeq hb' rfl (wpAny_bind (wpAny_letGo ?_)); rw [nm]
      refine wpAny_pure ⟨plainId_quiet F.plain_min_loop _, ih (j + 1) _ v _ (by omega) lt (W.frame _ _ _ st' fun b z o e => ?_) (hT _ _ ht' fun b o _ z2 e => ?_) (by simp only [argBest, hbt, if_true]; exact pv) (Heap.get?_update_self _ hb' rfl) fun v' h'' tk'' pv' kk => ?_⟩
      · exact (Heap.get?_update_other _ _ (fun z' : B = b => hB (by rw [z']; exact z))).trans e
      · exact (Heap.get?_update_other _ _ (Ne.symm z2)).trans e
      · exact hR v' h'' tk'' pv' fun b o z1 z2 e => kk b o z1 z2 ((Heap.get?_update_other _ _ (Ne.symm z2)).trans (kept b o z1 e))
    | false =>
      simp only [Bool.false_eq_true, if_false]; refine wpAny_bind (wpAny_letGo ?_); rw [nm]
      refine wpAny_pure ⟨plainId_quiet F.plain_min_loop _, ih (j + 1) _ best cc (by omega) lt st' ht' (by simp only [argBest, hbt, Bool.false_eq_true, if_false]; exact hp) hb' fun v' h'' tk'' pv' kk => ?_⟩
      exact hR v' h'' tk'' pv' fun b o z1 z2 e => kk b o z1 z2 (kept b o z1 e)
end
theorem min_walk {prog : Program} {w : World} {A : Around} {E : Value → Shared → Prop} {s : Shared} {x : Value} {Q : Value → Shared → Prop}
    (h : wpAny (model prog w) A.in1 (pyIter x) (fun it s₂ => ∃ (I : Addr) (fq wr : List Addr) (n : Nat) (P : Nat → Value → Prop) (Sx : Nat → Heap → Prop) (bt : Nat → Nat → Bool) (T : Heap → Prop), it = .ref I ∧ Walks prog w A.in1 I fq wr n P Sx ∧ Sx 0 s₂.heap ∧ (∀ b ∈ fq, b < s₂.heap.objs.size) ∧ 0 < n ∧ T s₂.heap ∧ (∀ (h h' : Heap) (B : Addr), s₂.heap.objs.size ≤ B → T h → (∀ b o, b ∉ wr → b ≠ B → h.get? b = some o → h'.get? b = some o) → T h') ∧
      (∀ i j x y s (Q : Value → Shared → Prop) (E : Value → Shared → Prop), T s.heap → P i x → P j y → Q (.bool (bt i j)) s → wpAny (model prog w) A.in1 (richCompare .Lt x y) Q E s) ∧
      ∀ v h' tk, P (argBest bt (n - 1)) v → (∀ b o, b ∉ wr → s₂.heap.get? b = some o → h'.get? b = some o) → Q v { s₂ with heap := h', toks := tk }) E s) :
    wpAny (model prog w) A (call (.builtin "min") [x]) Q E s := by
  have nm : (toString "min" ++ toString ".loop" : String) = "min.loop" := by decide
  refine call_function_tree F.kind_min F.plain_min F.entry_min (F.args_min1 _) ?_
  show wpAny _ A.in1 (Builtin.Builtins.bindParams "min" ["key", "default"] 0 ⟨[], []⟩ >>= _) _ _ s; refine wpAny_bind (wpAny_of_eq (show Builtin.Builtins.bindParams "min" ["key", "default"] 0 ⟨[], []⟩ = pure [none, none] from rfl) ?_)
  refine wpAny_bind (wpAny_pure ?_); refine wpAny_bind (wpAny_mono h (fun it s₂ h₂ => ?_) fun _ _ e => e)
  obtain ⟨I, fq, wr, n, P, Sx, bt, T, rfl, W, hst, hfp, hn, ht, hT, cmp, hQ⟩ := h₂
  refine wpAny_bind (wpAny_newObj_type ?_)
  have hSf : s₂.heap.objs.size ∉ fq := fun z => Nat.lt_irrefl _ (hfp _ z)
  have hSw : s₂.heap.objs.size ∉ wr := fun z => hSf (W.sub _ z)
  rw [nm]
  generalize hh : s₂.heap.push { cls := .type "list", data := .seq ([] : List Value).toArray } = hp
  have hb : hp.get? s₂.heap.objs.size = some { cls := .type "list", dict := none, data := .seq #[] 0, slots := #[] } := by rw [← hh]; exact Heap.get?_push_size _ rfl
  have old : ∀ b o, s₂.heap.get? b = some o → hp.get? b = some o := fun b o e => by rw [← hh]; exact Heap.get?_push_of_some _ e
  have st0 : Sx 0 hp := W.frame _ _ _ hst fun b _ o e => old b o e
  have ht0 : T hp := hT _ _ _ (Nat.le_refl _) ht fun b o _ _ e => old b o e
  refine wpAny_pure ⟨plainId_quiet F.plain_min_loop _, ?_⟩
  refine codeAny_builtin F.entry_min_loop ?_; rw [Around.under_plainId F.plain_min_loop _]
  show wpAny _ A.in1 (seqItems? (.ref s₂.heap.objs.size) >>= _) _ _ _; refine wpAny_bind (wpAny_seqItems hb rfl ?_)
  show wpAny _ A.in1 (tryCatch (pyNext (.ref I)) _ >>= _) _ _ _; refine wpAny_bind (wpAny_tryCatch (W.item 0 _ _ _ hn st0 fun v h' tk pv st' kept => ?_))
  have hb' := kept _ _ hSw hb
  show wpAny _ A.in1 (updateSeq s₂.heap.objs.size (fun _ => #[v, v]) >>= _) _ _ _; refine wpAny_bind ?_
  refine wpAny_updateSeq hb' rfl ?_; rw [nm]
  refine wpAny_pure ⟨plainId_quiet F.plain_min_loop _, min_go W bt T _ hSf (fun h h' => hT h h' _ (Nat.le_refl _)) cmp _ 0 _ v _ rfl hn (W.frame _ _ _ st' fun b z o e => ?_) (hT _ _ _ (Nat.le_refl _) (hT _ _ _ (Nat.le_refl _) ht0 fun b o z1 _ e => kept b o z1 e) fun b o _ z2 e => ?_) pv (Heap.get?_update_self _ hb' rfl) fun v' h'' tk'' pv' kk => ?_⟩
  · exact (Heap.get?_update_other _ _ (fun z' : s₂.heap.objs.size = b => hSf (by rw [z']; exact z))).trans e
  · exact (Heap.get?_update_other _ _ (Ne.symm z2)).trans e
  · refine hQ v' h'' tk'' pv' fun b o z1 e => ?_
    have nb : b ≠ s₂.heap.objs.size := Nat.ne_of_lt (Heap.lt_size e)
    exact kk b o z1 nb ((Heap.get?_update_other _ _ (Ne.symm nb)).trans (kept b o z1 (old b o e)))
theorem argBest_min {α : Type} (lt : α → α → Bool) (l : List α) (a : α) (f : Nat → α) (hf : ∀ i, i < l.length + 1 → f i = (a :: l).getD i a) :
    f (argBest (fun i j => lt (f i) (f j)) l.length) = l.foldl (fun m x => if lt x m = true then x else m) a := by
  have key : ∀ k, k ≤ l.length → f (argBest (fun i j => lt (f i) (f j)) k) = (l.take k).foldl (fun m x => if lt x m = true then x else m) a := by
    intro k
    induction k with
    | zero => intro _; rw [argBest, hf 0 (by omega)]; rfl
    | succ k ih =>
      intro hk
      have ih' := ih (by omega)
      rw [List.take_succ_eq_append_getElem (by omega), List.foldl_append, ← ih']
      have e : f (k + 1) = l[k] := by
        rw [hf (k + 1) (by omega), List.getD_eq_getElem?_getD]
        simp [show k < l.length by omega]
      show f (if lt (f (k + 1)) (f (argBest _ k)) = true then k + 1 else argBest _ k) = (if lt l[k] _ = true then l[k] else _)
      rw [← e]
      split <;> rfl
  rw [key l.length (Nat.le_refl _), List.take_length]
theorem call2_min (hc : X.calm = true) (hu : X.A.units + 64 < cLine) : CallR2 X (.builtin "min") cMin := by
  intro pins s σ H G xs ds us Q I ab rx rd q
  unfold cMin at q
  split at q
  · rename_i x
    obtain ⟨v, rfl, r⟩ := rd.one
    obtain ⟨u, rfl, ru⟩ := rx.one
    have main : ∀ {α : Type} (zs : List α) (a : α) (enc : α → D) (lt : α → α → Bool) (T : Heap → Prop), itemsOf x G = some ((a :: zs).map enc) → T s.heap → (∀ (h h' : Heap) (B : Addr), s.heap.objs.size ≤ B → T h → (∀ b o, b < s.heap.objs.size → b ≠ B → h.get? b = some o → h'.get? b = some o) → T h') →
        (∀ y z vy vz uy uz (s' : Shared) (Q' : Value → Shared → Prop) (E' : Value → Shared → Prop), T s'.heap → RepD X.K H vy (enc y) → RelV vy uy → RepD X.K H vz (enc z) → RelV vz uz → Q' (.bool (lt y z)) s' → wpAny (model X.prog X.w) X.A.in1 (richCompare .Lt uy uz) Q' E' s') →
        Q (enc (zs.foldl (fun m x => if lt x m = true then x else m) a)) G → wpAny (model X.prog X.w) X.A (call (.builtin "min") [u]) (EP2 X pins σ H G Q) X.xe s := by
      intro α zs a enc lt T hi ht hT cmp hq
      obtain ⟨l, vs, its, rfl, rv, rs, hl, hz⟩ := list_items I ab ru r hi
      have hlen : its.length = zs.length + 1 := by rw [← rv.length, rs.length, List.length_map, List.length_cons]
      have hne : ∀ {o : Obj}, s.heap.get? l = some o → l ≠ s.heap.objs.size := fun e => Nat.ne_of_lt (Heap.lt_size e)
      have at_ : ∀ i uu, its.toArray[i]? = some uu → ∃ vv, RelV vv uu ∧ RepD X.K H vv (enc ((a :: zs).getD i a)) := fun i uu e => by
        have e' : its[i]? = some uu := by simpa using e
        have hi' : i < its.length := (List.getElem?_eq_some_iff.mp e').1
        have hd : ((a :: zs).map enc)[i]? = some (enc ((a :: zs).getD i a)) := by
          rw [List.getElem?_map, List.getD_eq_getElem?_getD]
          cases h9 : (a :: zs)[i]? with
          | none => rw [List.getElem?_eq_none_iff] at h9; simp at h9; omega
          | some z => rfl
        obtain ⟨vv, h1, h2⟩ := rs.get hd
        obtain ⟨uu', h3, h4⟩ := rv.get h1
        rw [e'] at h3
        cases h3
        exact ⟨vv, h4, h2⟩
      have cmp' : ∀ i j p9 q9 s' (Q' : Value → Shared → Prop) (E' : Value → Shared → Prop), T s'.heap → its.toArray[i]? = some p9 → its.toArray[j]? = some q9 → Q' (.bool (lt ((a :: zs).getD i a) ((a :: zs).getD j a))) s' → wpAny (model X.prog X.w) X.A.in1 (richCompare .Lt p9 q9) Q' E' s' := fun i j p9 q9 s' Q' E' t' h1 h2 h3 => by
        obtain ⟨v1, r1, d1⟩ := at_ i p9 h1
        obtain ⟨v2, r2, d2⟩ := at_ j q9 h2
        exact cmp _ _ v1 v2 p9 q9 s' Q' E' t' d1 r1 d2 r2 h3
      have fin : ∀ vv h' tk, its.toArray[argBest (fun i j => lt ((a :: zs).getD i a) ((a :: zs).getD j a)) (its.toArray.size - 1)]? = some vv → (∀ b o, b ∉ [s.heap.objs.size] → s.heap.get? b = some o → h'.get? b = some o) → EP2 X pins σ H G Q vv { s with heap := h', toks := tk } := fun vv h' tk e hk => by
        obtain ⟨v1, r1, d1⟩ := at_ _ vv e
        have es : its.toArray.size - 1 = zs.length := by rw [List.size_toArray]; omega
        rw [es, argBest_min lt zs a (fun i => (a :: zs).getD i a) (fun i _ => rfl)] at d1
        exact ⟨v1, H, _, G, I.kept fun b o e => hk b o (by simpa using Nat.ne_of_lt (Heap.lt_size e)) e, .refl ab, r1, d1, hq⟩
      have hpos : 0 < its.toArray.size := by rw [List.size_toArray]; omega
      have hTp : ∀ (oo : Obj), T (s.heap.push oo) := fun oo => hT _ _ (s.heap.objs.size + 1) (Nat.le_succ _) ht fun b o hb _ e => Heap.get?_push_of_some _ e
      have hT2 : ∀ (oo : Obj) (h h' : Heap) (B : Addr), (s.heap.push oo).objs.size ≤ B → T h → (∀ b o, b ∉ [s.heap.objs.size] → b ≠ B → h.get? b = some o → h'.get? b = some o) → T h' := fun oo h h' B hB t kk => hT h h' B (by rw [Heap.size_push] at hB; exact Nat.le_of_succ_le hB) t fun b o hb hn e => kk b o (by simpa using Nat.ne_of_lt hb) hn e
      rcases hl with hl | hl
      · refine min_walk (wpAny_pyIter_list hl ?_)
        obtain ⟨o, ho, hcl, n, hd⟩ := id hl
        exact ⟨s.heap.objs.size, _, _, _, _, _, _, T, rfl, Walks.list (A := X.A.in1) (show X.A.in1.handled = none from I.ok.hd hc) _ l (hne ho) its.toArray, ⟨⟨_, Heap.get?_push_size _ rfl, rfl, rfl⟩, ⟨o, Heap.get?_push_of_some _ ho, hcl, n, hd⟩⟩,
          fun b hb => by rcases (by simpa using hb : b = s.heap.objs.size ∨ b = l) with rfl | rfl
                         · rw [Heap.size_push]; exact Nat.lt_succ_self _
                         · rw [Heap.size_push]; exact Nat.lt_succ_of_lt (Heap.lt_size ho), hpos, hTp _, hT2 _, cmp', fun vv h' tk e hk => fin vv h' tk e fun b o hb e => hk b o hb (Heap.get?_push_of_some _ e)⟩
      · refine min_walk (wpAny_pyIter_tuple hl ?_)
        obtain ⟨o, ho, hcl, n, hd⟩ := id hl
        exact ⟨s.heap.objs.size, _, _, _, _, _, _, T, rfl, Walks.tuple (A := X.A.in1) (show X.A.in1.handled = none from I.ok.hd hc) _ l (hne ho) its.toArray, ⟨⟨_, Heap.get?_push_size _ rfl, rfl, rfl⟩, ⟨o, Heap.get?_push_of_some _ ho, hcl, n, hd⟩⟩,
          fun b hb => by rcases (by simpa using hb : b = s.heap.objs.size ∨ b = l) with rfl | rfl
                         · rw [Heap.size_push]; exact Nat.lt_succ_self _
                         · rw [Heap.size_push]; exact Nat.lt_succ_of_lt (Heap.lt_size ho), hpos, hTp _, hT2 _, cmp', fun vv h' tk e hk => fin vv h' tk e fun b o hb e => hk b o hb (Heap.get?_push_of_some _ e)⟩
    rcases q with ⟨ns, mm, hi, hm, q⟩ | ⟨nss, mm, hi, hm, q⟩
    · cases ns with
      | nil => cases hm
      | cons a zs =>
        cases hm
        have e : (fun m x : Int => if x < m then x else m) = fun m x => if decide (x < m) = true then x else m := by funext m x; simp
        rw [e] at q
        refine main zs a D.int (fun x y => decide (x < y)) (fun _ => True) hi trivial (fun _ _ _ _ _ _ => trivial) (fun y z vy vz uy uz s' Q' E' _ d1 r1 d2 r2 hq => ?_) q
        cases d1
        cases d2
        obtain ⟨t1, rfl⟩ := r1
        obtain ⟨t2, rfl⟩ := r2
        exact HT.rcLt_int X.A.in1 s' y t1 z t2 X.prog X.w E' Q' hq
    · cases nss with
      | nil => cases hm
      | cons a zs =>
        cases hm
        have el : ∀ xs ys : List Int, HT.lexLt xs ys = K2.lexLt xs ys := by
          intro xs
          induction xs with
          | nil => intro ys; cases ys <;> rfl
          | cons x xs ih => intro ys; cases ys with
            | nil => rfl
            | cons y ys => unfold HT.lexLt K2.lexLt; rw [ih]
        refine main zs a tI K2.lexLt (fun h => ∀ b o, b < s.heap.objs.size → s.heap.get? b = some o → h.get? b = some o) hi (fun b o _ e => e) (fun h h' B hB t kk b o hb e => kk b o hb (Nat.ne_of_lt (Nat.lt_of_lt_of_le hb hB)) (t b o hb e)) (fun y z vy vz uy uz s' Q' E' t' d1 r1 d2 r2 hq => ?_) q
        cases d1 with
        | tup h1 rs1 =>
          cases d2 with
          | tup h2 rs2 =>
            cases r1
            cases r2
            have z1 := rs1.ints
            have z2 := rs2.ints
            subst z1 z2
            obtain ⟨its1, rv1, ⟨o1, ho1, hc1, n1, hd1⟩, _⟩ := I.tuple (.of h1)
            obtain ⟨its2, rv2, ⟨o2, ho2, hc2, n2, hd2⟩, _⟩ := I.tuple (.of h2)
            have p1 : IsTup s'.heap _ its1.toArray := ⟨o1, t' _ _ (Heap.lt_size ho1) ho1, hc1, n1, hd1⟩
            have p2 : IsTup s'.heap _ its2.toArray := ⟨o2, t' _ _ (Heap.lt_size ho2) ho2, hc2, n2, hd2⟩
            rw [← el] at hq
            have i1 : IntsAre its1.toArray.toList y := intsAre_of rv1
            have i2 : IntsAre its2.toArray.toList z := intsAre_of rv2
            exact (HT.lt_tupInts p1 p2 i1 i2 (show X.A.units + 1 < cLine by omega) hq : wpAny (model X.prog X.w) X.A.in1 (compareOp .Lt _ _) Q' E' s')
  · exact q.elim
def relS (scope sc : Scope) : List (Str × NameKind) := scope.names.map fun (n, k) => if (k == .free && sc.kind == .function && sc.names.lookup n == some .cell) then (n, .cell) else (n, k)
def compChk (N : List Str) (scope : Scope) (m : Nat) (fr : List Nat) (sc : Scope) (XN : List Str) : Bool :=
  scope.names.all (fun y => decide (y.2 ≠ .cell)) && decide (scope.kind = .function) && scope.names.all (fun y => !decide (y.2 = .local) || decide (scope.names.lookup y.1 = some .local)) &&
  scope.names.all (fun y => !decide (y.2 = .free) || decide (sc.names.lookup y.1 = some .cell)) && decide (N.length = m + fr.length) &&
  (List.range fr.length).all (fun j => match fr[j]?, N[m + j]? with
    | some i, some x => decide (XN[i]? = some x) && decide (sc.names.lookup x = some .cell) && decide ((relS scope sc).lookup x = some .cell)
    | _, _ => false)
theorem compOk_of {sc : Scope} {XN : List Str} (hsc : X.env.scope = sc) (hXN : X.N = XN) (hb : compChk N scope m fr sc XN = true) : CompOk X N scope m fr := by
  subst hsc hXN
  unfold compChk at hb
  simp only [Bool.and_eq_true] at hb
  obtain ⟨⟨⟨⟨⟨h1, h2⟩, h3⟩, h4⟩, h5⟩, h6⟩ := hb
  refine ⟨fun y hy => of_decide_eq_true (List.all_eq_true.mp h1 y hy), of_decide_eq_true h2, fun y hy hl => ?_, fun y hy hl => ?_, of_decide_eq_true h5, fun j i x e1 e2 => ?_⟩
  · have := List.all_eq_true.mp h3 y hy
    simp only [hl, decide_true, Bool.not_true, Bool.false_or] at this
    exact of_decide_eq_true this
  · have := List.all_eq_true.mp h4 y hy
    simp only [hl, decide_true, Bool.not_true, Bool.false_or] at this
    exact of_decide_eq_true this
  · have hj : j < fr.length := (List.getElem?_eq_some_iff.mp e1).1
    have := List.all_eq_true.mp h6 j (List.mem_range.mpr hj)
    rw [e1, e2] at this
    simp only [Bool.and_eq_true] at this
    exact ⟨of_decide_eq_true this.1.1, of_decide_eq_true this.1.2, of_decide_eq_true this.2⟩
theorem pe2_comp (N : List Str) {sc : Scope} {XN : List Str} (hi : PI2 X tg iter wi) (hg : ∀ C s H fp, PG2 (compCx X N scope C s H fp) tg g) (hif : ∀ C s H fp, PIf (compCx X N scope C s H fp) ifs c) (he : ∀ C s H fp, PE2 (compCx X N scope C s H fp) elt te)
    (hsc : X.env.scope = sc := by rfl) (hXN : X.N = XN := by rfl) (hb : compChk N scope m fr sc XN = true := by decide +kernel) (hc : X.calm = true := by rfl) (hs : ∀ x, foldedSetIterable iter X.env x = pure x := by intro _; rfl) : PE2 X (.ListComp elt [⟨tg, iter, ifs, 0⟩] scope pos) (dComp m fr wi g c te) :=
  pe2_compG hc (compOk_of hsc hXN hb) hi hg hif he hs
theorem law_start {K : PySem.W.Frag} {H : Hp} {a : Addr} {ns : List Int} (hO : Only H) (hS : SqL K H a (ns.map V.int)) (hl : ns.length ≤ 63) : spOf K spLaw [.ref a] H (fun v _ => v = .bl true) fun _ _ _ => False := by
  have hF : SqF K H a (ns.map V.int) := by
    rcases hS with (h | ⟨o, h⟩) | h
    · rcases hO a with z | ⟨o, xs, z⟩
      · rw [z] at h; cases h
      · rw [z] at h; cases h
    · exact .inl ⟨o, h⟩
    · exact .inr h
  refine ⟨[.rol (ns.map D.int)], fun _ => none, fun d _ => d = .bl true, .cons (.rol hF (RepDs.of_ints ns)) .nil, fun a g e => (by cases e), ⟨ns, rfl, hl, fun _ => rfl, fun _ => rfl⟩, fun d G' v H' e mv r => ?_⟩
  subst e
  cases r
  rfl
theorem law_walk {l : PySem.W.OpenLaw} {q : Program} {loose : List Str} {XP : (Str → Option Value) → Heap → Prop} {YP : World → Heap → Prop} {d : DefRec} {K : Params → PySem.W.Frag} {k : Nat} {x : Str} (hn : l.most = some 63) (hdf : d.params.defaults = []) (hr : Room k callerA)
    (hY : ∀ (w : World) (h : Heap), YP w h → (K w.params).In h)
    (F : ∀ (w : World) (mg : Str → Option Value) (fa : Addr) (h : Heap), (K w.params).In h → h.Ns mainGlobals mg → mg d.name = some (.ref fa) →
      ∃ fd : FuncData, (∀ (s : Shared) (u : Value), BindsTo s fd ⟨[u], []⟩ [(x, u)]) ∧ ∀ base : Heap, (K w.params).In base → base.Ns mainGlobals mg → FnOk l.prog w (K w.params) mg base CX0 k fa fd [x] (spOf (K w.params) spLaw)) :
    PySem.W.WalkO q loose XP YP l.row.toRowW d [] (fun f vs => PySem.call f vs) :=
  L2.walk_of (n := 63) (k := k) (x := x) (CX := fun _ => CX0) (sp := fun w => spOf (K w.params) spLaw) hn (by decide) hdf hr hY F (fun _ _ _ _ hl hO hS => law_start hO hS hl) fun _ _ _ _ _ z => z
end
end K2
end
section
namespace K2
open PySem PySem.Spec PyProof.Rows L2
set_option autoImplicit false
def canF : HO → Bool
  | .lst _ => true
  | .dK _ => true
  | .dT _ => true
  | _ => false
def frzH (h : Heap) (S : Addr → Bool) (H : Hp) : Hp := fun a => match H a with
  | some u => if (canF u && S a) = true then (match h.get? a with
    | some o => some (.frz o u)
    | none => some u) else some u
  | none => none
section
variable {h : Heap} {S : Addr → Bool} {H : Hp} {a : Addr}
theorem frzH_other (n : ∀ u, H a = some u → canF u = false) : frzH h S H a = H a := by
  unfold frzH
  cases e : H a with
  | none => rfl
  | some u => simp only [n u e, Bool.false_and, Bool.false_eq_true, if_false]
theorem frzH_out (hs : S a = false) : frzH h S H a = H a := by
  unfold frzH
  cases e : H a with
  | none => rfl
  | some u => simp only [hs, Bool.and_false, Bool.false_eq_true, if_false]
theorem frzH_in {u : HO} {o : Obj} (hs : S a = true) (e : H a = some u) (hu : canF u = true) (ho : h.get? a = some o) : frzH h S H a = some (.frz o u) := by
  unfold frzH
  simp only [e, hs, hu, Bool.and_self, if_true, ho]
theorem frzH_none (e : H a = none) : frzH h S H a = none := by unfold frzH; rw [e]
theorem frzH_at {u : HO} (e : H a = some u) (hu : canF u = false) : frzH h S H a = some u := by rw [frzH_other (fun v z => by rw [e] at z; cases z; exact hu)]; exact e
theorem frzH_kp : Kp H (frzH h S H) := ⟨fun a xs e => frzH_at e rfl, fun a o u e => frzH_at e rfl⟩
end
section
variable {X : Cx} {pins : List (Addr × Obj)} {σ : L2.St} {H : Hp} {s : Shared} {G : Gp}
theorem Inv.freeze (I : Inv X pins σ H s) (S : Addr → Bool) : Inv X pins σ (frzH s.heap S H) s where
  ok := I.ok
  os := I.os
  bare := I.bare
  base := { keep := I.base.keep, slot := I.base.slot, there := I.base.there
            free := fun b o q n hx => frzH_none (I.base.free b o q n hx)
            tups := fun b xs q => frzH_at (I.base.tups b xs q) rfl
            frzs := fun b o u q => frzH_at (I.base.frzs b o u q) rfl
            tbls := fun b ps q => by
              obtain ⟨more, e⟩ := I.base.tbls b ps q
              exact ⟨more, frzH_at e rfl⟩ }
  loc := I.loc
  cell := I.cell
  free := frzH_none I.free
  freeC := fun x c e => frzH_none (I.freeC x c e)
  pin := fun p hp => let ⟨h1, h2, h3⟩ := I.pin p hp; ⟨h1, frzH_none h2, h3⟩
  hok := fun a o q => by
    have st : ∀ u, H a = some u → ObjOk X.prog X.w (frzH s.heap S H) s.heap a u := fun u e =>
      (I.hok a u e).stay (fun b v _ r => r) (fun b r => frzH_at r rfl) (fun b xs r => frzH_at r rfl)
    cases e : H a with
    | none => rw [frzH_none e] at q; cases q
    | some u =>
      by_cases hc : canF u = true
      · by_cases hs : S a = true
        · obtain ⟨ob, ho⟩ := obj_there (I.hok a _ e)
          rw [frzH_in hs e hc ho] at q
          cases q
          exact ⟨ho, st _ e⟩
        · rw [frzH_out (by simpa using hs), e] at q
          cases q
          exact st _ e
      · rw [frzH_at e (by simpa using hc)] at q
        cases q
        exact st _ e
  len := I.len
def seenR (R : Nat → Bool) (G : Gp) : Addr → Bool := fun a => R a && (G a).isSome
theorem freeze_mv (I : Inv X pins σ H s) (ab : AbH X.K H G) (R : Nat → Bool) : Mv X.K H G (frzH s.heap (seenR R G) H) (delG R G) where
  keep := fun a o e n => by
    refine ⟨by rw [frzH_out (by simp [seenR, n])]; exact e, ?_⟩
    unfold delG; split
    · rfl
    · exact n
  stay := fun a n => by
    cases q : G a with
    | none => exact absurd q n
    | some g =>
      have t := (ab a g q).tracked
      cases e : H a with
      | none => exact absurd e t
      | some u =>
        unfold frzH
        rw [e]
        dsimp only
        split
        · split <;> simp
        · simp
  ab := fun a g e => by
    unfold delG at e
    split at e
    · cases e
    · rename_i hr
      exact (ab a g e).mono frzH_kp (frzH_out (by simp [seenR, hr]))
mutual
theorem fz_rep (I : Inv X pins σ H s) (ab : AbH X.K H G) {R : Nat → Bool} : ∀ {d t : D} {v : V}, Fz G R d t → RepD X.K H v d → RepD X.K (frzH s.heap (seenR R G) H) v t
  | _, _, _, .same d, r => r.mono frzH_kp
  | _, _, _, .tup hs, .tup h rs => .tup (frzH_kp.tup _ _ h) (fzs_rep I ab hs rs)
  | _, _, _, .rol hs, .rol h rs => .rol (frzH_kp.sqF h) (fzs_rep I ab hs rs)
  | _, _, _, .ref (a := a) g hr hs, .ref _ => by
    obtain ⟨vs, hv, rs⟩ := ab a _ g
    obtain ⟨ob, ho⟩ := obj_there (I.hok a _ hv)
    exact .rol (.inl ⟨_, frzH_in (by simp [seenR, hr, g]) hv rfl ho⟩) (fzs_rep I ab hs rs)
  | _, _, _, .dic (a := a) g hr hs, .ref _ => by
    rcases ab a _ g with ⟨kv, hv, rs⟩ | ⟨kv, hv, rs⟩
    · obtain ⟨ob, ho⟩ := obj_there (I.hok a _ hv)
      exact .rodK (frzH_in (by simp [seenR, hr, g]) hv rfl ho) (fzk_rep I ab hs rs)
    · obtain ⟨ob, ho⟩ := obj_there (I.hok a _ hv)
      exact .rodT (frzH_in (by simp [seenR, hr, g]) hv rfl ho) (fzt_rep I ab hs rs)
theorem fzs_rep (I : Inv X pins σ H s) (ab : AbH X.K H G) {R : Nat → Bool} : ∀ {ds ts : List D} {vs : List V}, Fzs G R ds ts → RepDs X.K H vs ds → RepDs X.K (frzH s.heap (seenR R G) H) vs ts
  | _, _, _, .nil, .nil => .nil
  | _, _, _, .cons h hs, .cons r rs => .cons (fz_rep I ab h r) (fzs_rep I ab hs rs)
theorem fzk_rep (I : Inv X pins σ H s) (ab : AbH X.K H G) {R : Nat → Bool} : ∀ {ds ts : List (D × D)} {vs : List (Key × V)}, FzKs G R ds ts → DKs X.K H vs ds → DKs X.K (frzH s.heap (seenR R G) H) vs ts
  | _, _, _, .nil, .nil => .nil
  | _, _, _, .cons h hs, .cons r rs => .cons (fz_rep I ab h r) (fzk_rep I ab hs rs)
theorem fzt_rep (I : Inv X pins σ H s) (ab : AbH X.K H G) {R : Nat → Bool} : ∀ {ds ts : List (D × D)} {vs : List (List Key × V)}, FzKs G R ds ts → DTs X.K H vs ds → DTs X.K (frzH s.heap (seenR R G) H) vs ts
  | _, _, _, .nil, .nil => .nil
  | _, _, _, .cons h hs, .cons r rs => .cons (fz_rep I ab h r) (fzt_rep I ab hs rs)
end
variable {e : Expr} {te : TE2} {st : Stmt} {t : TS2}
theorem pe2_fz (he : PE2 X e te) : PE2 X e (dFz te) := by
  intro E pins s σ H τ G Q hE I h
  refine thn (he E pins s σ H τ G _ hE I h) fun u s1 ⟨v, H1, d, G1, I1, m, r, rd, R, t, hf, q⟩ => ?_
  exact ⟨v, _, t, _, Inv.freeze I1 _, m.trans (freeze_mv I1 m.ab R), r, fz_rep I1 m.ab hf rd, q⟩
theorem ps2_fzv {i : Nat} (h1 : PS2 X st t) : PS2 X st (dFzV i t) := by
  intro E pins s σ H τ G D hE I h
  refine thn (h1 E pins s σ H τ G _ hE I h) fun f s1 z => ?_
  cases f with
  | next =>
    obtain ⟨σ', H', τ', G', I', m, q⟩ := z
    simp only at q
    split at q
    · rename_i d hd
      obtain ⟨R, t, hf, q⟩ := q
      obtain ⟨v, hv, rv⟩ := I'.st.at' i d hd
      have a1 := (I'.st.mono (H' := frzH s1.heap (seenR R G') H') frzH_kp).set i (fz_rep I'.inv I'.ab hf rv)
      have es : σ'.set i (some v) = σ' := by
        have hi : i < σ'.length := (List.getElem?_eq_some_iff.mp hv).1
        have e2 := (List.getElem?_eq_some_iff.mp hv).2
        rw [← e2]; exact List.set_getElem_self hi
      rw [es] at a1
      have m2 := freeze_mv I'.inv I'.ab R
      exact ⟨σ', _, _, _, ⟨Inv.freeze I'.inv _, a1, m2.ab⟩, m.trans m2, q⟩
    · exact q.elim
  | ret v => exact z
  | brk => exact z
  | cont => exact z
end
end K2
end
section
namespace K2
open PySem PySem.Spec PyProof.Rows L2
set_option autoImplicit false
theorem bt_len : bootBuiltins "len" = some (.builtin "len") := by decide +kernel
theorem bt_min : bootBuiltins "min" = some (.builtin "min") := by decide +kernel
theorem bt_all : bootBuiltins "all" = some (.builtin "all") := by decide +kernel
theorem bt_list : bootBuiltins "list" = some (.type "list") := by decide +kernel
theorem bt_tuple : bootBuiltins "tuple" = some (.type "tuple") := by decide +kernel
theorem bt_int : bootBuiltins "int" = some (.type "int") := by decide +kernel
theorem bt_bool : bootBuiltins "bool" = some (.type "bool") := by decide +kernel
section
variable {X : Cx} {a b c e o : Expr} {es : List Expr} {ta tb tc te to : TE2} {t : TA2} {pos p p2 apos cpos : Pos} {x name : Str} {id T : String} {k : Nat} {f : Addr} {fd : FuncData} {ps : List Str} {sp : Sp2}
theorem pe2_callS (F : FnOk X.prog X.w X.K X.mg X.base CX0 k f fd ps (spOf X.K sp)) (hr : Room k X.A) (hg : Gl X x) (hm : X.mg x = some (.ref f)) (hk : PySem.W.keepIn X.K (.ref f) = true) (hb : Binds X.K fd ps [])
    (ha : PA2 X (e :: es) t) (hdb : (x == ("__debug__" : Str)) = false := by decide) (he : starEach (e :: es) X.env = (false, eval e X.env) :: starEach es X.env := by rfl) (hpl : (backTo pos (starEach es X.env)).any (·.1) = false := by rfl) :
    PE2 X (.Call (.Name x p) (e :: es) [] pos) (dCall sp t) := pe2_call F hr hg hm hk hb ha hdb he hpl
end
end K2
end
section
namespace L2
open PySem PySem.Spec PyProof.Rows
set_option autoImplicit false
section
variable {X : Cx} {pins : List (Addr × Obj)} {σ : St} {H : Hp} {s : Shared} {h' : Heap}
theorem Inv.turnedL {t' : Nat} {fp : List Addr} (I : Inv X pins σ H s) (hf : ∀ b ∈ fp, FpOk X pins H b) (k : ∀ b o, b ∉ fp → s.heap.get? b = some o → h'.get? b = some o) : Inv X pins σ H { s with heap := h', toks := t' } := by
  have nt : ∀ b u, H b = some u → b ∉ fp := fun b u e z => by rw [(hf b z).1] at e; cases e
  refine I.step (g' := s.gens) (d' := s.drawn) (ch := fp) (fun b hb => ?_) (fun b o _ _ hc e _ => k b o hc e) (fun b o _ _ hc e _ => ⟨o.slots, k b o hc e⟩) (fun _ _ _ _ n => n)
    (fun b o hc e => ⟨o, k b o hc e⟩) (fun _ _ e => e) (fun _ _ _ e => e) (fun b ps e => ⟨#[], by rw [e]; simp⟩) (fun m hm => ?_) (fun b u e => ?_) I.bare
  · obtain ⟨f0, f1, f2, f3, f4, f5⟩ := hf b hb
    exact ⟨f3, f1, f4, f5⟩
  · obtain ⟨o, es, ep, ho, r⟩ := hm
    exact ⟨o, es, ep, k _ _ (fun z => (hf _ z).2.1 rfl) ho, r⟩
  · refine (I.hok b u e).stay (fun c v hc r => k c v ?_ r) (fun _ z => z) (fun _ _ z => z)
    rcases hc with rfl | hc
    · exact nt _ _ e
    · exact nt _ _ hc
theorem Inv.turnedT {t' : Nat} {fp : List Addr} {T : Addr} {vs : List V} (I : Inv X pins σ H s) (hf : ∀ b ∈ fp, FpOk X pins H b) (k : ∀ b o, b ∉ fp → s.heap.get? b = some o → h'.get? b = some o) (hT : s.heap.objs.size ≤ T)
    (new : ObjOk X.prog X.w (upd H T (.tup vs)) h' T (.tup vs)) : Inv X pins σ (upd H T (.tup vs)) { s with heap := h', toks := t' } := by
  have hn : H T = none := I.hok.fresh hT
  have ht : ∀ b o, s.heap.get? b = some o → b ≠ T := fun b o e z => by subst z; exact absurd (Heap.lt_size e) (Nat.not_lt.mpr hT)
  have nt : ∀ b u, H b = some u → b ∉ fp := fun b u e z => by rw [(hf b z).1] at e; cases e
  have ne : ∀ b u, H b = some u → b ≠ T := fun b u e => ne_of_none e hn
  refine I.step (g' := s.gens) (d' := s.drawn) (ch := fp) (fun b hb => ?_) (fun b o _ _ hc e _ => k b o hc e) (fun b o _ _ hc e _ => ⟨o.slots, k b o hc e⟩) (fun b o _ e n => by rw [upd_ne (ht b o e)]; exact n)
    (fun b o hc e => ⟨o, k b o hc e⟩) (fun b xs e => by rw [upd_ne (ne _ _ e)]; exact e) (fun b o u e => by rw [upd_ne (ne _ _ e)]; exact e) (fun b ps e => ⟨#[], by rw [upd_ne (ne _ _ e), e]; simp⟩) (fun m hm => ?_) (fun b u e => ?_) I.bare
  · obtain ⟨f0, f1, f2, f3, f4, f5⟩ := hf b hb
    exact ⟨f3, f1, f4, f5⟩
  · obtain ⟨o, es, ep, ho, r⟩ := hm
    exact ⟨o, es, ep, k _ _ (fun z => (hf _ z).2.1 rfl) ho, r⟩
  · by_cases hb : b = T
    · subst hb; rw [upd_same] at e; cases e; exact new
    · rw [upd_ne hb] at e
      refine (I.hok b u e).stay (fun c v hc r => k c v ?_ r) (fun c z => by rw [upd_ne (ne _ _ z)]; exact z) (fun c xs z => by rw [upd_ne (ne _ _ z)]; exact z)
      rcases hc with rfl | hc
      · exact nt _ _ e
      · exact nt _ _ hc
theorem FpOk.upd {b T : Addr} {o : HO} (h : FpOk X pins H b) (hb : b ≠ T) : FpOk X pins (L2.upd H T o) b := by
  obtain ⟨f0, r⟩ := h
  exact ⟨by rw [upd_ne hb]; exact f0, r⟩
end
def Ite (K : PySem.W.Frag) (a : Addr) : It :=
  ⟨fun i H => ∃ xs x, SqL K H a xs ∧ xs[i]? = some x,
   fun i H v H' => ∃ T y, v = .ref T ∧ H T = none ∧ H' = upd H T (.tup [.int i, y]) ∧ ∀ xs, SqL K H a xs → xs[i]? = some y,
   fun i H => ∃ xs, SqL K H a xs ∧ xs.length ≤ i⟩
theorem turn_enum {P : Program} {w : World} {K : PySem.W.Frag} {elts : List Expr} {kk : Nat} {pos : Pos} (a e it : Addr) (hne : e ≠ it) :
    Turn P w K (.Tuple elts kk pos) (Ite K a) [e, it] e (fun i h => (∃ old, IsEnum h e it i old) ∧ h.IsListIter it a i) where
  mem := by simp
  obj := fun i h ⟨⟨old, he⟩, hit⟩ b hb => by
    rcases List.mem_cons.mp hb with rfl | hb
    · exact ⟨_, he, fun v z => by cases z⟩
    · have e : b = it := by simpa using hb
      subst e
      obtain ⟨o, e, c, d⟩ := hit
      exact ⟨o, e, fun v z => by rw [d] at z; cases z⟩
  keep := fun i h h' ⟨⟨old, he⟩, hit⟩ k => ⟨⟨old, k e (by simp) _ he⟩, hit.at fun o q => k it (by simp) o q⟩
  item := by
    intro X hP hw hK hc i pins s σ H E I hf st hg
    obtain ⟨⟨old, he⟩, hit⟩ := st
    subst hP hw hK
    obtain ⟨xs, x, hq, hx⟩ := hg
    obtain ⟨its, rv, p, hz⟩ := I.list hq
    obtain ⟨u, hu, ru⟩ := rv.get hx
    have hTn : H s.heap.objs.size = none := I.hok.fresh (Nat.le_refl _)
    have heT : e ≠ s.heap.objs.size := Nat.ne_of_lt (Heap.lt_size he)
    have hiT : it ≠ s.heap.objs.size := by obtain ⟨o, q, _⟩ := hit; exact Nat.ne_of_lt (Heap.lt_size q)
    refine wpAny_pyNext_enum_item he hit p.isList (x := u) (by simpa using hu) hne fun h' ho hit' hT hsz kk => ?_
    refine ⟨_, rfl, ?_⟩
    have I1 : Inv X pins σ (upd H s.heap.objs.size (.tup [.int i, x])) { s with heap := h', toks := s.toks + 1 } :=
      I.turnedT (fp := [e, it]) hf (fun b o hb q => kk b o (fun z => hb (by simp [z])) (fun z => hb (by simp [z])) q) (Nat.le_refl _)
        ⟨by show 2 ≤ sizeLine; decide, [.int i s.toks, u], .cons ⟨_, rfl⟩ (.cons ru .nil), ⟨_, hT, rfl, _, rfl⟩⟩
    refine wpAny_letOwnedTupleGo_enum (s := { s with heap := h', toks := s.toks + 1 }) ho fun h2 he2 hs2 => ?_
    have f1 : ∀ b ∈ [e, it], FpOk X pins (upd H s.heap.objs.size (.tup [.int i, x])) b := fun b hb => (hf b hb).upd (by
      rcases List.mem_cons.mp hb with rfl | hb
      · exact heT
      · rw [List.mem_singleton.mp hb]; exact hiT)
    have I2 : Inv X pins σ (upd H s.heap.objs.size (.tup [.int i, x])) { s with heap := h2, toks := s.toks + 1 } :=
      Inv.turnedL (s := { s with heap := h', toks := s.toks + 1 }) (t' := s.toks + 1) (fp := [e, it]) I1 f1 fun b o hb q => (hs2.2 b (fun z => hb (by simp [z]))).trans q
    refine ⟨.ref s.heap.objs.size, _, I2, rfl, ⟨_, x, rfl, hTn, rfl, fun ys hy => by rw [I.list_inj hy hq]; exact hx⟩, ⟨⟨u, ?_⟩, ?_⟩, fun b hb => (f1 b hb).1⟩
    · simpa using he2
    · exact hit'.at fun o q => (hs2.2 it (Ne.symm hne)).trans q
  done := by
    intro X hP hw hK hc i pins s σ H E I hf st hg
    obtain ⟨⟨old, he⟩, hit⟩ := st
    subst hP hw hK
    obtain ⟨xs, hq, hx⟩ := hg
    obtain ⟨its, rv, p, hz⟩ := I.list hq
    have hl := rv.length
    refine wpAny_pyNext_enum_end (I.ok.hd hc) he hit p.isList (by simp; omega) fun h' eb => ⟨rfl, ?_⟩
    exact I.turnedL (t' := s.toks) (fp := [e, it]) hf fun b o hb q => eb b o (fun z => hb (by simp [z])) q
  self := fun A i s Q E ⟨⟨old, he⟩, _⟩ h => wpAny_pyIter_enum he h
end L2
namespace K2
open PySem PySem.Spec PyProof.Rows L2
set_option autoImplicit false
section
variable {X : Cx} {elts : List Expr} {kk : Nat} {tpos : Pos} {a b : Expr} {ta tb : TE2} {pos p : Pos}
theorem enum_it {pins : List (Addr × Obj)} {σ : L2.St} {H H1 : Hp} {G G1 : Gp} {s1 : Shared} {l : Addr} {vs : List V} {ds : List D} {ok : Gp → Prop} {R : List D → (Gp → Prop) → Gp → Prop} (I1 : Inv X pins σ H1 s1) (m : Mv X.K H G H1 G1) (hq : SqL X.K H1 l vs)
    (hk : ∀ H2 G2, Kp H1 H2 → AbH X.K H2 G2 → ok G2 → ∃ ws, SqL X.K H2 l ws ∧ RepDs X.K H2 ws ds) (q : R (enumD 0 ds) ok G1) :
    wpAny (model X.prog X.w) X.A (call (.type "enumerate") [.ref l]) (fun v s2 => wpAny (model X.prog X.w) X.A (pyIter v) (PIE2 X pins σ (.Tuple elts kk tpos) H G R) X.xe s2) X.xe s1 := by
  obtain ⟨its, rv, pl, hz⟩ := I1.list hq
  refine call_enumerate_list pl.isList fun h' he hit hsz kp => ?_
  refine wpAny_pyIter_enum he ?_
  refine ⟨_, [s1.heap.objs.size + 1, s1.heap.objs.size], _, _, H1, G1, enumD 0 ds, ok, rfl, I1.kept (t' := s1.toks) kp, m, turn_enum l _ _ (Nat.succ_ne_self _), ⟨⟨_, he⟩, hit⟩, fun b hb => ?_, fun i H2 G2 k ab o => ?_, q⟩
  · have hb' : s1.heap.objs.size ≤ b := by
      rcases List.mem_cons.mp hb with rfl | hb
      · omega
      · rw [List.mem_singleton.mp hb]; exact Nat.le_refl _
    exact I1.fpOk hb' (I1.hok.fresh hb')
  · obtain ⟨ws, hw, rd⟩ := hk H2 G2 k ab o
    refine ⟨fun d hd => ?_, fun hl => ⟨ws, hw, by rw [rd.length, ← enumD_len ds 0]; exact hl⟩⟩
    rw [enumD_get] at hd
    cases hdi : ds[i]? with
    | none => rw [hdi] at hd; cases hd
    | some d' =>
      rw [hdi] at hd
      obtain ⟨v, hv, r⟩ := rd.get hdi
      refine ⟨⟨ws, v, hw, hv⟩, fun x H3 ⟨T, y, ex, hT, e3, hy⟩ => ?_⟩
      subst ex e3
      have := hy ws hw
      rw [hv] at this
      cases this
      have ed : D.tup [.int ((0 + i : Nat) : Int), d'] = d := by simpa using hd
      subst ed
      refine ⟨.tup upd_same (.cons (by rw [Nat.zero_add]; exact .int _) (.cons (r.mono (.new hT)) .nil)), .hid ab hT⟩
theorem bt_enumerate : bootBuiltins "enumerate" = some (.type "enumerate") := by decide +kernel
theorem pi2_enum (hg : Gl X "enumerate") (hm : X.mg "enumerate" = none) (ha : PE2 X a ta) (hs : starEach [a] X.env = [(false, eval a X.env)] := by rfl) : PI2 X (.Tuple elts kk tpos) (.Call (.Name "enumerate" p) [a] [] pos) (iEnum ta) := by
  intro E pins s σ H τ G R hE I h
  have hA : PA2 X [a] (dCons ta dNil) := pa2_cons ha pa2_nil hs
  refine Call_ (ld_blt I.inv hg hm bt_enumerate (PyProof.Rows.callWith_type1 (thnA hA pos hE I (R := one1 fun x G1 => iEnumAt x G1 R) h fun vs H1 ds G1 us s1 I1 m1 r1 rd1 q1 => ?_) hs rfl))
  match ds, q1 with
  | [x], q1 =>
    change iEnumAt x G1 R at q1
    obtain ⟨w, rfl, rw1⟩ := rd1.one
    obtain ⟨u, rfl, ru⟩ := r1.one
    cases rw1 with
    | rol hq rs => cases ru; exact enum_it I1.inv m1 hq.sq (fun H2 G2 k ab _ => ⟨_, (k.sqF hq).sq, rs.mono k⟩) q1
    | ref p =>
      cases ru
      unfold iEnumAt at q1
      dsimp only at q1
      split at q1
      · rename_i ds e
        obtain ⟨vs, hv, rs⟩ := I1.ab.lst e
        refine enum_it I1.inv m1 (.of hv) (fun H2 G2 k ab o => ?_) q1
        obtain ⟨ws, hw, rw'⟩ := ab.lst o
        exact ⟨ws, .of hw, rw'⟩
      · exact q1.elim
    | tup _ _ => exact q1.elim
    | rodK _ _ => exact q1.elim
    | rodT _ _ => exact q1.elim
    | non => exact q1.elim
    | bl _ => exact q1.elim
    | int _ => exact q1.elim
    | str _ => exact q1.elim
    | exc _ => exact q1.elim
  | [], q1 => exact q1.elim
  | _ :: _ :: _, q1 => exact q1.elim
end
end K2
end
section
namespace K2
open PySem PySem.Spec PyProof.Rows L2
set_option autoImplicit false
section
variable {X : Cx} {o i a b : Expr} {to ti ta tb : TE2} {pos p : Pos}
end
end K2
end
section
namespace L2
open PySem PySem.Spec PyProof.Rows
set_option autoImplicit false
structure ZipSt (z TI TO i1 i2 a b : Addr) (i : Nat) (h : Heap) : Prop where
  hz : IsZip h z TI TO .none
  hI : IsPair h TI (.ref i1) (.ref i2)
  hO : ∃ x y, IsPair h TO x y
  h1 : h.IsListIter i1 a i
  h2 : h.IsListIter i2 b i
end L2
namespace K2
open PySem PySem.Spec PyProof.Rows L2
set_option autoImplicit false
section
variable {X : Cx} {elts : List Expr} {kk : Nat} {tpos : Pos} {a b : Expr} {ta tb : TE2} {pos p : Pos}
end
end K2
end
section
namespace K2
open PySem PySem.W PyProof.Rows
set_option autoImplicit false
structure SWO (lt : Nat → Nat → Bool) : Prop where
  asymm : ∀ i j, lt i j = true → lt j i = false
  trans : ∀ i j k, lt j i = false → lt k j = false → lt k i = false
section
variable {lt : Nat → Nat → Bool}
end
end K2
end
section
namespace K2
open PySem PySem.Spec PyProof.Rows L2
open PySem.AutoSeq1 (wpAny_loadPart')
open PySem.MeetsSeq PySem.MeetsSeq2 PySem.MeetsSeq3 PySem.SeqAt
set_option autoImplicit false
end K2
end
section
namespace K2
open PySem PySem.Spec PyProof.Rows L2 PySem.W
set_option autoImplicit false
section
variable {prog : Program} {w : World} {A : Around} {E : Value → Shared → Prop} {s : Shared}
end
section
open PySem.SeqAt
end
end K2
end
section
namespace K2
open PySem PySem.Spec PyProof.Rows L2 PySem.W
set_option autoImplicit false
mutual
theorem reads_keepS {h h' : Heap} (hk : ∀ b o vs n, o.data = .seq vs n → h.get? b = some o → h'.get? b = some o) : ∀ (d : D) {v : Value} {as : List Addr}, nr d = true → Reads h v (pd d) as → Reads h' v (pd d) as
  | .non, _, _, _, .none => .none
  | .bl b, _, _, _, .bool _ => .bool b
  | .int i, _, _, _, .int _ t => .int i t
  | .str x, _, _, _, .str _ t => .str x t
  | .tup ds, _, _, n, .tuple h1 h2 h3 h4 => .tuple (hk _ _ _ _ h3 h1) h2 h3 (readsAll_keepS hk ds n h4)
  | .rol ds, _, _, n, .list h1 h2 h3 h4 => .list (hk _ _ _ _ h3 h1) h2 h3 (readsAll_keepS hk ds n h4)
theorem readsAll_keepS {h h' : Heap} (hk : ∀ b o vs n, o.data = .seq vs n → h.get? b = some o → h'.get? b = some o) : ∀ (ds : List D) {vs : List Value} {as : List Addr}, nrs ds = true → ReadsAll h vs (pds ds) as → ReadsAll h' vs (pds ds) as
  | [], _, _, _, .nil => .nil
  | d :: ds, _, _, n, .cons r1 r2 => by
    have n : (nr d && nrs ds) = true := n
    rw [Bool.and_eq_true] at n
    exact .cons (reads_keepS hk d n.1 r1) (readsAll_keepS hk ds n.2 r2)
end
mutual
theorem sn_shp (G : Gp) : ∀ (sh : Shp) (d : D) (n : Nat), hasS sh d = true → dpS sh ≤ n → Sn G n d d
  | .int, .int i, n, _, _ => .int i
  | .tup l, .tup ds, n, h, hn => by
    have hn : dpSs l + 1 ≤ n := hn
    obtain ⟨m, rfl⟩ : ∃ m, n = m + 1 := ⟨n - 1, by omega⟩
    exact sn_shps G l ds m h (by omega)
  | .lst s, .rol ds, n, h, hn => by
    have hn : dpS s + 1 ≤ n := hn
    obtain ⟨m, rfl⟩ : ∃ m, n = m + 1 := ⟨n - 1, by omega⟩
    exact sn_shpl G s ds m h (by omega)
theorem sn_shps (G : Gp) : ∀ (l : List Shp) (ds : List D) (m : Nat), hasSs l ds = true → dpSs l ≤ m → Sn G (m + 1) (.tup ds) (.tup ds)
  | [], [], m, _, _ => .tnil
  | s :: l, d :: ds, m, h, hm => by
    have h : (hasS s d && hasSs l ds) = true := h
    have hm : max (dpS s) (dpSs l) ≤ m := hm
    rw [Bool.and_eq_true] at h
    exact .tcons (sn_shp G s d m h.1 (by omega)) (sn_shps G l ds m h.2 (by omega))
theorem sn_shpl (G : Gp) : ∀ (s : Shp) (ds : List D) (m : Nat), hasSl s ds = true → dpS s ≤ m → Sn G (m + 1) (.rol ds) (.rol ds)
  | s, [], m, _, _ => .rnil
  | s, d :: ds, m, h, hm => by
    have h : (hasS s d && hasSl s ds) = true := h
    rw [Bool.and_eq_true] at h
    exact .rcons (sn_shp G s d m h.1 hm) (sn_shpl G s ds m h.2 hm)
end
section
variable {X : Cx}
end
end K2
end
section
namespace L2
open PySem PySem.Spec PyProof.Rows
set_option autoImplicit false
section
variable {prog : Program} {w : World} {A : Around} {E : Value → Shared → Prop} {s : Shared}
end
end L2
namespace K2
open PySem PySem.Spec PyProof.Rows L2
set_option autoImplicit false
section
variable {X : Cx} {tg a : Expr} {ta : TE2} {pos p : Pos}
end
end K2
end
section
namespace L2
open PySem PySem.Spec PyProof.Rows PySem.W
set_option autoImplicit false
section
variable {prog : Program} {w : World}
end
end L2
namespace K2
open PySem PySem.Spec PyProof.Rows L2 PySem.W
set_option autoImplicit false
section
variable {X : Cx}
end
end K2
end
section
namespace L2
open PySem PySem.Spec PyProof.Rows
set_option autoImplicit false
section
variable {X : Cx}
end
end L2
namespace K2
open PySem PySem.Spec PyProof.Rows L2
set_option autoImplicit false
section
variable {X : Cx}
theorem op2_pow : OpR2 X (binaryOp .Pow) rPow := by
  intro pins s σ H G x y dx dy v u Q I ab rx ry dX dY q
  cases dX with
  | int i =>
    cases dY with
    | int j => exact thn (op_pow pins s σ H _ _ v u (Rch X.K H G Q) I rx ry ⟨i, j, rfl, rfl, q.1, _, _, .refl ab, .int _, q.2⟩) fun _ _ z => .of z
    | _ => exact False.elim q
  | _ => exact False.elim q
end
end K2
end
section
namespace L2
open PySem PySem.Spec PyProof.Rows
set_option autoImplicit false
end L2
namespace K2
open PySem PySem.Spec PyProof.Rows L2
set_option autoImplicit false
section
variable {X : Cx}
variable {elts : List Expr} {kk : Nat} {tpos apos cpos : Pos} {o : Expr} {to : TE2}
end
end K2
end
section
namespace K2
open PySem PySem.Spec PyProof.Rows L2
set_option autoImplicit false
section
variable {X : Cx}
variable {k v : Expr} {tk tv : TE2} {pos : Pos}
end
section
variable {X : Cx} {pins : List (Addr × Obj)} {σ : L2.St} {H1 H' : Hp} {s1 s' : Shared} {p : Addr} {u0 : HO} {ob : Obj}
end
section
variable {X : Cx} {e : Expr} {t : TA2} {pos p : Pos} {x : Str} {k : Nat} {f : Addr} {fd : FuncData} {ps : List Str} {sp : Sp2}
end
end K2
end
section
namespace L2
open PySem PySem.Spec PyProof.Rows
set_option autoImplicit false
section
variable {prog : Program} {w : World} {A : Around} {E : Value → Shared → Prop} {s : Shared}
end
end L2
namespace K2
open PySem PySem.Spec PyProof.Rows L2 PySem.W
set_option autoImplicit false
section
variable {X : Cx}
variable {es : List Expr} {t : TF2} {e v1 v2 : Expr} {te : TE2} {pos : Pos} {c : Str} {k : Nat}
variable {a : Expr} {ta : TE2} {p p2 pos2 : Pos}
end
end K2
end
section
namespace K2
open PySem PySem.Spec PyProof.Rows L2 PySem.W
set_option autoImplicit false
section
variable {X : Cx}
end
end K2
end
section
namespace L2
open PySem PySem.Spec PyProof.Rows PySem.W
set_option autoImplicit false
section
variable {prog : Program} {w : World} {A : Around} {E : Value → Shared → Prop} {s : Shared}
end
end L2
namespace K2
open PySem PySem.Spec PyProof.Rows L2 PySem.W
set_option autoImplicit false
section
variable {X : Cx}
end
end K2
end
section
namespace L2
open PySem PySem.Spec PyProof.Rows PySem.W
set_option autoImplicit false
section
variable {prog : Program} {w : World} {A : Around} {E : Value → Shared → Prop} {s : Shared}
end
end L2
namespace K2
open PySem PySem.Spec PyProof.Rows L2 PySem.W
set_option autoImplicit false
section
variable {X : Cx}
variable {a : Expr} {ta : TE2} {pos p pos2 p2 : Pos}
end
end K2
end
section
namespace K2
open PySem PySem.Spec PyProof.Rows L2
set_option autoImplicit false
section
variable {X : Cx}
variable {a : Expr} {ta : TE2} {pos p : Pos}
end
end K2
end
section
namespace K2
open PySem PySem.Spec PyProof.Rows L2
set_option autoImplicit false
section
variable {K : PySem.W.Frag} {h : Heap} {C : Addr} {bmB : List Value} {newId : String}
theorem exc_obj (Y : K.In h) (q : PySem.W.excIn K C bmB newId = true) :
    ∃ bm N nm qn bs hdct sn sub ab col dd k0 k1 k2 k3 k5 mN, h.get? C = some (excClassObj nm qn C N bs bm hdct sn sub ab col dd k0 k1 k2 k3 k5 newId) ∧ h.Ns N mN ∧ mN "__init__" = none ∧ OwnTail h bmB bm := by
  unfold PySem.W.excIn at q
  split at q
  case h_2 => cases q
  rename_i dd cd sl ho
  split at q
  case h_2 => cases q
  rename_i C' bm k0 k1 k2 k3 n k5 hm hs
  simp only [Bool.and_eq_true, beq_iff_eq, Bool.not_eq_true'] at q
  obtain ⟨⟨⟨⟨⟨e1, e2⟩, e3⟩, e4⟩, e5⟩, e6⟩ := q
  have e7 : sl = #[k0, k1, k2, k3, some (.builtin n), k5] := by cases sl; simp only at hs; rw [hs]
  cases cd
  dsimp only at hm e3 e5 e6
  subst e1 e2 hm e3 e7
  exact ⟨bm, _, _, _, _, _, _, _, _, _, dd, k0, k1, k2, k3, k5, _, Y _ _ ho, .of_isNs (PySem.W.isNs_of_in Y e5), PySem.W.nsMap_none_of_in Y e5 e6, PySem.W.tail_of_in Y e4⟩
end
section
variable {X : Cx} {x : Str} {C : Addr} {bmB : List Value} {B newId initId : String} {e0 : Expr} {es : List Expr} {np cpos pos : Pos} {t : TA2}
theorem ps2_raise (hg : Gl X x) (hm : X.mg x = some (.ref C)) (q : PySem.W.excIn X.K C bmB newId = true) (FB : ExcBaseFacts B newId initId bmB) (hc : X.calm = true) (ha : PA2 X (e0 :: es) t)
    (hdb : (x == ("__debug__" : Str)) = false := by decide) (he : starEach (e0 :: es) X.env = (false, eval e0 X.env) :: starEach es X.env := by rfl) (hpl : (backTo cpos (starEach es X.env)).any (·.1) = false := by rfl) :
    PS2 X (.Raise (some (.Call (.Name x np) (e0 :: es) [] cpos)) none pos) (dRaise x t) := by
  intro E pins s σ H τ G D hE I h
  obtain ⟨tl, N, nm, qn, bs, hdct, sn, sub, ab, col, dd, k0, k1, k2, k3, k5, mN, hC, hN, hni, T⟩ := exc_obj I.inv.ok.mod.kin q
  refine wpAny_Raise_call_subT (C := C) (nm := nm) (q := qn) (N := N) (bs := bs) (bm := tl) (hdct := hdct) (sn := sn) (sub := sub) (ab := ab) (col := col) (dd := dd) (k0 := k0) (k1 := k1) (k2 := k2) (k3 := k3) (k5 := k5)
    FB (mN := mN) (T.hasType FB.hasBase) (I.inv.ok.hd hc) (by rw [he]; show (false || (backTo cpos (starEach es X.env)).any (·.1)) = false; rw [hpl]; rfl) hni (ld_glob I.inv hg hm ⟨rfl, ?_⟩ hdb)
  have w := thnA (Q := fun us s2 => us.length ≤ sizeLine ∧ (∀ b o, X.base.get? b = some o → s2.heap.get? b = some o) ∧ ∀ h' e, Heap.MadeExcOf s2.heap h' e (.ref C) us → X.xe (.ref e) { s2 with heap := h' }) ha cpos hE I h
    fun vs H1 ds G1 us s1 I1 m1 r rd ⟨z, q1⟩ => ⟨by rw [← r.length, rd.length, sizeLine_eq]; exact z, I1.inv.bk, fun h' e hx => hE.made pins σ H1 s1 h' e C us ⟨x, []⟩ I1.inv hx hm q1⟩
  rw [he] at w ⊢
  exact Calls.evalArgs_plain (wpAny_mono w (fun us s2 h2 => ⟨rfl, h2.1, h2.2.1 _ _ hC, hN.keeps h2.2.1, T.keeps h2.2.1, h2.2.2⟩) fun _ _ y => y)
end
end K2
end
section
namespace K2
open PySem PySem.Spec PyProof.Rows L2
set_option autoImplicit false
theorem _root_.L2.ObjOk.there {P : Program} {w : World} {H : Hp} {h : Heap} {a : Addr} {o : HO} (x : ObjOk P w H h a o) : ∃ ob, h.get? a = some ob := by
  cases o with
  | lst xs => obtain ⟨_, _, _, _, e⟩ := x; exact ⟨_, e⟩
  | tup xs => obtain ⟨_, _, _, ob, e, _⟩ := x; exact ⟨_, e⟩
  | dK kvs => obtain ⟨_, _, _, _, o, _, _, e, _⟩ := x; exact ⟨_, e⟩
  | dT kvs => obtain ⟨_, _, _, _, o, _, _, e, _⟩ := x; exact ⟨_, e⟩
  | set S n => obtain ⟨o, _, _, _, e, _⟩ := x; exact ⟨_, e⟩
  | ins C dx fs => obtain ⟨_, _, _, e, _⟩ := x; exact ⟨_, e⟩
  | own y => exact x
  | xd fs => obtain ⟨_, ⟨_, _, _, e, _⟩, _⟩ := x; exact ⟨_, e⟩
  | rng lo hi => obtain ⟨_, _, _, e⟩ := x; exact ⟨_, e⟩
  | frz ob u => obtain ⟨e, _⟩ := x; exact ⟨_, e⟩
  | tbl ps => exact ⟨_, x⟩
  | met f y => exact ⟨_, x⟩
  | ext φ => obtain ⟨_, e, _⟩ := x; exact e
theorem out_of {X : Cx} {pins : List (Addr × Obj)} {σ : L2.St} {H1 : Hp} {s1 : Shared} {h1 h' B : Heap} (I : Inv X pins σ H1 s1) (hst : X.stack = X.env :: X.outer) (hlf : X.env.frame = some X.env.locals) (hex : X.ex = [])
    (keep1 : ∀ b o, s1.heap.get? b = some o → h1.get? b = some o) (hB : ∀ b o, s1.heap.get? b = some o → b ∉ frs X.stack → (X.s₀.heap.get? b ≠ none ∨ H1 b ≠ none) → B.get? b = some o) (stay : B.StaysIn h') (up : h1.UpToSlots h') :
    Un (frs X.outer) [] X.H₀ H1 X.s₀.heap h' ∧ HOk X.prog X.w H1 h' ∧ ∀ b o, h'.get? b = some o → b ∉ frs X.outer → (X.s₀.heap.get? b ≠ none ∨ H1 b ≠ none) → B.get? b = some o := by
  have efr : frs X.stack = X.env.locals :: frs X.outer := by rw [hst]; unfold frs; rw [List.filterMap_cons_some hlf]
  have notfr : ∀ b, b ∉ frs X.outer → b ≠ X.env.locals → b ∉ frs X.stack := fun b h1 h2 h3 => by
    rw [efr] at h3
    rcases List.mem_cons.mp h3 with e | e
    · exact h2 e
    · exact h1 e
  have old : ∀ b o, X.s₀.heap.get? b = some o → b ≠ X.env.locals := fun b o q => Nat.ne_of_lt (Nat.lt_of_lt_of_le (Heap.lt_size q) I.ok.above)
  have tr : ∀ b u, H1 b = some u → b ∉ frs X.stack := fun b u q hb => by rw [I.stkFree b hb] at q; cases q
  have nx : ∀ b : Addr, b ∉ X.ex := fun b => by rw [hex]; exact List.not_mem_nil
  have frame : ∀ b o, b ∈ frs X.outer → s1.heap.get? b = some o → ∃ sl, h'.get? b = some { o with slots := sl } := fun b o hb e => by
    obtain ⟨_, o2, e2, nf⟩ := I.stack.mem (show b ∈ frs X.stack by rw [efr]; exact .tail _ hb)
    rw [e] at e2; cases e2
    exact up b o (keep1 b o e) nf
  have go : ∀ b o, s1.heap.get? b = some o → b ∉ frs X.stack → (X.s₀.heap.get? b ≠ none ∨ H1 b ≠ none) → h'.get? b = some o := fun b o e n c => stay b o (hB b o e n c)
  refine ⟨⟨fun b o q n hb _ => ?_, fun b o q n hb _ => ?_, fun b o q n _ => I.base.free b o q n (nx b), fun b o q _ => ?_, I.base.tups, I.base.frzs, I.base.tbls⟩, fun a o q => ?_, fun b o e hb hc => ?_⟩
  · exact go b o (I.base.keep b o q n hb (nx b)) (notfr b hb (old b o q)) (.inl (by rw [q]; simp))
  · obtain ⟨sl, e⟩ := I.base.slot b o q n hb (nx b)
    obtain ⟨sl2, e2⟩ := frame b _ hb e
    exact ⟨sl2, e2⟩
  · obtain ⟨o', e⟩ := I.base.there b o q (nx b)
    by_cases hb : b ∈ frs X.outer
    · obtain ⟨sl2, e2⟩ := frame b _ hb e; exact ⟨_, e2⟩
    · exact ⟨o', go b o' e (notfr b hb (old b o q)) (.inl (by rw [q]; simp))⟩
  · refine (I.hok a o q).stay (fun b u hb e => ?_) (fun b r => r) (fun b xs r => r)
    rcases hb with rfl | hb
    · exact go b u e (tr b _ q) (.inr (by rw [q]; simp))
    · exact go b u e (tr b _ hb) (.inr (by rw [hb]; simp))
  · have n : b ∉ frs X.stack := by
      rcases hc with hc | hc
      · cases q : X.s₀.heap.get? b with
        | none => exact absurd q hc
        | some o0 => exact notfr b hb (old b o0 q)
      · cases q : H1 b with
        | none => exact absurd q hc
        | some u => exact tr b u q
    have : ∃ o1, s1.heap.get? b = some o1 := by
      rcases hc with hc | hc
      · cases q : X.s₀.heap.get? b with
        | none => exact absurd q hc
        | some o0 => exact I.base.there b o0 q (nx b)
      · cases q : H1 b with
        | none => exact absurd q hc
        | some u => exact (I.hok b u q).there
    obtain ⟨o1, e1⟩ := this
    have e2 := go b o1 e1 n hc
    rw [e] at e2; cases e2
    exact hB b o e1 n hc
section
variable {P : Program} {w : World} {K : PySem.W.Frag} {mg : Str → Option Value} {base : Heap} {N : List Str} {qual : Str} {scope : Scope} {f : Addr} {cd : Value} {A : Around} {outer : List Env} {s : Shared} {H : Hp} {Ek : XK} {E2 : XK2}
theorem lk_cx (ke : ∀ ex C H', E2 ex (fun _ => none) → mg ex.cls = some (.ref C) → Ek (.ref C) none H') : Lk (cxOf (CXe P w) P w K mg base N qual scope f cd A outer s H Ek) E2 where
  made := fun pins σ H1 s1 h1 a C args ex I hx hm hE => by
    show wpAny (model P w) _ (leaving _ (.ref a)) _ _ _
    refine wpAny_leaves_madeW (h := s1.heap) (base := PySem.W.hideAll s1.heap (frs (cxOf (CXe P w) P w K mg base N qual scope f cd A outer s H Ek).stack)) I.ok.frames rfl (fun b o q => PySem.W.of_hideAll _ q)
      (PySem.W.funFrames_hide I.stack fun env he b hb => List.mem_filterMap.mpr ⟨env, he, hb⟩) hx fun h' t fl tup tn up => ?_
    obtain ⟨un, hok, hB⟩ := out_of I rfl rfl rfl hx.keeps (fun b o e n _ => PySem.W.hideAll_get _ e n) fl.1 up
    refine ⟨a, C, t, _, H1, rfl, I.os, I.bare, un, hok, hB, fl, ?_, ?_, ke ex C H1 hE hm⟩
    · cases q : H1 a with
      | none => rfl
      | some u =>
        obtain ⟨o, e⟩ := (I.hok a u q).there
        have := hx.new
        rw [e] at this; cases this
    · cases q : s.heap.get? a with
      | none => rfl
      | some o =>
        obtain ⟨o', e⟩ := I.base.there a o q List.not_mem_nil
        have := hx.new
        rw [e] at this; cases this
  pass := fun pins σ H1 s1 s' e I ⟨a, C, t, B, H', e1, os, bare, un, hok, hB, fl, ha, hs, ex, C', e2, hm, hE⟩ => by
    subst e1; cases e2
    show wpAny (model P w) _ (leaving _ (.ref a)) _ _ _
    have I' : Inv (cxOf (CXe P w) P w K mg base N qual scope f cd A outer s H Ek) pins σ H' s' := by
      obtain ⟨hh, g, d, t, os'⟩ := s'
      obtain rfl : os' = s1.os := os
      exact I.call (h' := hh) (g' := g) (d' := d) (t' := t) (ch := []) un hok bare (fun b z => absurd z (by simp))
    refine wpAny_leaves_onW I.ok.frames rfl fl fun h' fl' up => ?_
    obtain ⟨un', hok', hB'⟩ := out_of I' rfl rfl rfl (fun _ _ e => e) (fun b o e n c => hB b o e n (c.imp (fun z => by
      cases q : s.heap.get? b with
      | none => exact absurd q z
      | some o0 => obtain ⟨o1, e1⟩ := I.base.there b o0 q List.not_mem_nil; rw [e1]; simp) id)) fl'.1 up
    refine ⟨a, C, t, B, H', rfl, I'.os, I'.bare, un', hok', hB', fl', ha, ?_, ke ex C H' hE hm⟩
    cases q : s.heap.get? a with
    | none => rfl
    | some o => obtain ⟨o1, e1⟩ := I.base.there a o q List.not_mem_nil; rw [e1] at hs; cases hs
end
def spOfX (K : PySem.W.Frag) (mg : Str → Option Value) (sp : Sp2) : Sp := fun vs H Q E => ∃ ds G Q2 E2, RepDs K H vs ds ∧ AbH K H G ∧ sp ds G Q2 E2 ∧ (∀ d G' v H', Q2 d G' → Mv K H G H' G' → RepD K H' v d → Q v H') ∧
  ∀ (ex : Ex) (C : Addr) (H' : Hp), E2 ex (fun _ => none) → mg ex.cls = some (.ref C) → E (.ref C) none H'
theorem fun_okX {P : Program} {w : World} {K : PySem.W.Frag} {mg : Str → Option Value} {base : Heap} {x qual : Str} {st : Stmt} {f : Addr} {fd : FuncData} {Nn ps : List Str} {k : Nat} {sp : Sp2} {rd : TS2} (F : Fun K x qual st f fd) (S : FnScope Nn ps (defScope st)) (len : ∀ ds G Q E, sp ds G Q E → ds.length = ps.length)
    (hr : ∀ ds G Q E, sp ds G Q E → rd E (ends Q) (start2 Nn.length ds) G)
    (hb : ∀ (cdv : Value) (A : Around) (outer : List Env) (s : Shared) (H : Hp) (E : XK), Room k (A.deeper (envOfC qual (defScope st) s.heap.objs.size f cdv)) → PSs2 (cxOf (CXe P w) P w K mg base Nn qual (defScope st) f cdv A outer s H E) (defBody st) rd) : FnOk P w K mg base (CXe P w) (k + 1) f fd ps (spOfX K mg sp) := by
  obtain ⟨oc, od, kV, doc, pm, an, cdv, ct, osl, rfl, lk, hcd⟩ := F.ex
  refine fn_of lk hcd S (fun vs H Q E ⟨ds, G, Q2, E2, r, ab, q, _⟩ => by rw [r.length]; exact len _ _ _ _ q) fun A outer s H vs Q E hroom ⟨ds, G, Q2, E2, r, ab, q, kk, ke⟩ => ?_
  refine ⟨_, pss_of (hb cdv A outer s H E hroom) (lk_cx ke), ?_⟩
  exact ⟨start2 Nn.length ds, G, ends Q2, start_ab r, ab, hr ds G Q2 E2 q, fun σ' H' τ' G' mv z => kk _ _ _ _ z mv .non, fun v H' d G' mv rdv z => kk _ _ _ _ z mv rdv, fun _ _ z => z, fun _ _ z => z⟩
end K2
end
section
namespace K2
open PySem PySem.Spec PyProof.Rows L2
set_option autoImplicit false
def kp1 : HO → Bool
  | .tup _ => true
  | .frz _ (.lst _) => true
  | .frz _ (.dK _) => true
  | .frz _ (.dT _) => true
  | .frz _ (.ext _) => true
  | _ => false
def hr (H : Hp) : Hp := fun b => (H b).bind fun o => if kp1 o = true then some o else none
def hj (H1 H' : Hp) : Hp := fun b => match H1 b with
  | some o => some o
  | none => H' b
section
variable {P : Program} {w : World} {K : PySem.W.Frag} {H H1 H' : Hp} {h h' : Heap} {b : Addr} {o : HO} {fs : List Addr}
theorem hr_some (q : hr H b = some o) : H b = some o ∧ kp1 o = true := by
  unfold hr at q
  cases e : H b with
  | none => rw [e] at q; cases q
  | some u =>
    rw [e] at q
    simp only [Option.bind_some] at q
    by_cases k : kp1 u = true
    · rw [if_pos k] at q; cases q; exact ⟨rfl, k⟩
    · rw [if_neg k] at q; cases q
theorem hr_of (q : H b = some o) (k : kp1 o = true) : hr H b = some o := by unfold hr; rw [q]; simp [k]
theorem hr_none (q : H b = none) : hr H b = none := by unfold hr; rw [q]; rfl
theorem hr_no (q : H b = some o) (k : kp1 o = false) : hr H b = none := by unfold hr; rw [q]; simp [k]
theorem hok_hr (x : HOk P w H h) : HOk P w (hr H) h := fun a o q => by
  obtain ⟨e, k⟩ := hr_some q
  have y := x a o e
  cases o with
  | tup xs => exact y
  | frz ob u =>
    cases u with
    | lst _ => exact y
    | dK _ => exact y
    | ext _ => exact y
    | dT kvs =>
      obtain ⟨e1, z, n, xs, r, rest⟩ := y
      exact ⟨e1, z, n, xs, L2.Paired.mapP r (fun p q ⟨a1, a2, a3⟩ => ⟨a1, hr_of a2 rfl, a3⟩), rest⟩
    | _ => exact absurd k (by simp [kp1])
  | _ => exact absurd k (by simp [kp1])
theorem hj_of (q : H1 b = some o) : hj H1 H' b = some o := by unfold hj; rw [q]
theorem hj_new (q : H1 b = none) : hj H1 H' b = H' b := by unfold hj; rw [q]
theorem join (un : Un fs [] (hr H1) H' h h') (k1 : HOk P w H1 h) (k2 : HOk P w H' h') (fr : ∀ b ∈ fs, H1 b = none) :
    Un fs [] H1 (hj H1 H') h h' ∧ HOk P w (hj H1 H') h' ∧ Kp H' (hj H1 H') ∧ ∀ b u, (∀ o, H1 b = some o → kp1 o = false ∨ ∃ ob v, o = .frz ob v) → H1 b ≠ none → h.get? b = some u → h'.get? b = some u := by
  have nx : ∀ c : Addr, c ∉ ([] : List Addr) := fun c => List.not_mem_nil
  have notin : ∀ c u, H1 c = some u → c ∉ fs := fun c u q z => by rw [fr c z] at q; cases q
  have at1 : ∀ c u v, H1 c = some u → H' c = some v → u = v ∧ kp1 u = true := fun c u v q q' => by
    cases k : kp1 u with
    | false =>
      obtain ⟨ob, e⟩ := (k1 c u q).there
      have := un.free c ob e (hr_no q k) (nx c)
      rw [this] at q'; cases q'
    | true =>
      have r := hr_of q k
      cases u with
      | tup xs => have := un.tups c xs r; rw [q'] at this; cases this; exact ⟨rfl, rfl⟩
      | frz ob x => have := un.frzs c ob x r; rw [q'] at this; cases this; exact ⟨rfl, rfl⟩
      | _ => simp [kp1] at k
  have same : ∀ b u, (∀ o, H1 b = some o → kp1 o = false ∨ ∃ ob v, o = .frz ob v) → H1 b ≠ none → h.get? b = some u → h'.get? b = some u := fun b u hh hn e => by
    cases q : H1 b with
    | none => exact absurd q hn
    | some o =>
      cases k : kp1 o with
      | false => exact un.keep b u e (hr_no q k) (notin b o q) (nx b)
      | true =>
        rcases hh o q with z | ⟨ob, v, rfl⟩
        · rw [z] at k; cases k
        · have h1 := (k2 b _ (un.frzs b ob v (hr_of q k))).1
          have h2 := (k1 b _ q).1
          rw [h2] at e; cases e
          exact h1
  refine ⟨⟨fun c u e n hc hx => un.keep c u e (hr_none n) hc hx, fun c u e n hc hx => un.slot c u e (hr_none n) hc hx, fun c u e n hx => ?_, fun c u e hx => un.there c u e hx, fun c xs q => hj_of q, fun c ob u q => hj_of q, fun c ps q => ⟨#[], by rw [hj_of q]; simp⟩⟩, fun c o q => ?_, ⟨fun c xs q => ?_, fun c ob u q => ?_⟩, same⟩
  · rw [hj_new n]; exact un.free c u e (hr_none n) hx
  · cases q1 : H1 c with
    | some o1 =>
      rw [hj_of q1] at q; cases q
      by_cases ht : ∃ xs, o = .tup xs
      · obtain ⟨xs, rfl⟩ := ht
        exact k2 c _ (un.tups c xs (hr_of q1 rfl))
      · refine (k1 c o q1).stay (fun d u hd e => ?_) (fun d r => hj_of r) (fun d xs r => hj_of r)
        rcases hd with rfl | hd
        · refine same d u (fun o' e' => ?_) (by rw [q1]; simp) e
          rw [q1] at e'; cases e'
          cases o with
          | tup xs => exact absurd ⟨xs, rfl⟩ ht
          | frz ob v => exact .inr ⟨ob, v, rfl⟩
          | _ => exact .inl rfl
        · refine same d u (fun o' e' => ?_) (by rw [hd]; simp) e
          rw [hd] at e'; cases e'
          exact .inl rfl
    | none =>
      rw [hj_new q1] at q
      refine (k2 c o q).stay (fun d u _ e => e) (fun d r => ?_) (fun d xs r => ?_)
      · cases q2 : H1 d with
        | none => rw [hj_new q2]; exact r
        | some u => obtain ⟨rfl, k⟩ := at1 d u _ q2 r; simp [kp1] at k
      · cases q2 : H1 d with
        | none => rw [hj_new q2]; exact r
        | some u => obtain ⟨rfl, k⟩ := at1 d u _ q2 r; exact hj_of q2
  · cases q2 : H1 c with
    | none => rw [hj_new q2]; exact q
    | some u => obtain ⟨rfl, k⟩ := at1 c u _ q2 q; exact hj_of q2
  · cases q2 : H1 c with
    | none => rw [hj_new q2]; exact q
    | some v => obtain ⟨rfl, k⟩ := at1 c v _ q2 q; exact hj_of q2
end
mutual
theorem RepD.hr {K : PySem.W.Frag} {H : Hp} : ∀ {v : V} {d : D}, RepD K H v d → RepD K (K2.hr H) v d
  | _, _, .non => .non
  | _, _, .bl b => .bl b
  | _, _, .int i => .int i
  | _, _, .str x => .str x
  | _, _, .tup h r => .tup (hr_of h rfl) (RepDs.hr r)
  | _, _, .rol h r => .rol (h.imp (fun ⟨o, q⟩ => ⟨o, hr_of q rfl⟩) id) (RepDs.hr r)
  | _, _, .rodK h r => .rodK (hr_of h rfl) (DKs.hr r)
  | _, _, .rodT h r => .rodT (hr_of h rfl) (DTs.hr r)
  | _, _, .ref a => .ref a
  | _, _, .exc h => .exc (let ⟨o, C, h1, h2, h3⟩ := h; ⟨o, C, hr_of h1 rfl, h2, h3⟩)
theorem RepDs.hr {K : PySem.W.Frag} {H : Hp} : ∀ {v : List V} {d : List D}, RepDs K H v d → RepDs K (K2.hr H) v d
  | _, _, .nil => .nil
  | _, _, .cons r t => .cons (RepD.hr r) (RepDs.hr t)
theorem DKs.hr {K : PySem.W.Frag} {H : Hp} : ∀ {v : List (Key × V)} {d : List (D × D)}, DKs K H v d → DKs K (K2.hr H) v d
  | _, _, .nil => .nil
  | _, _, .cons r t => .cons (RepD.hr r) (DKs.hr t)
theorem DTs.hr {K : PySem.W.Frag} {H : Hp} : ∀ {v : List (List Key × V)} {d : List (D × D)}, DTs K H v d → DTs K (K2.hr H) v d
  | _, _, .nil => .nil
  | _, _, .cons r t => .cons (RepD.hr r) (DTs.hr t)
end
end K2
end
section
namespace K2
open PySem PySem.Spec PyProof.Rows L2
set_option autoImplicit false
section
variable {M : Model} {A : Around} {E : Value → Shared → Prop}
variable {nm q nm' q' : Str} {C N D N' : Addr} {bs bm bs' bm' : List Value} {hdct hdct' : Bool} {sn sn' : List Str} {sub sub' : List Value} {ab ab' : Bool} {col col' : Option Bool} {dd dd' : Option Addr} {k0 k1 k2 k3 k5 k0' k1' k2' k3' k5' : Option Value} {newId newId' : String}
theorem match_own {h : Heap} {g : Array GenState} {d : Drawn} {t : Nat} {os : OsState} {e : Addr} {oe : Obj} {Q : Bool → Shared → Prop}
    (hC : h.get? C = some (excClassObj nm q C N bs bm hdct sn sub ab col dd k0 k1 k2 k3 k5 newId)) (hD : h.get? D = some (excClassObj nm' q' D N' bs' bm' hdct' sn' sub' ab' col' dd' k0' k1' k2' k3' k5' newId'))
    (he : h.get? e = some oe) (hcls : oe.cls = .ref C) (hbase : bm'.contains (.type "BaseException") = true)
    (hq : Q ((Value.ref C :: bm).contains (.ref D)) ⟨h, g, d, t, os⟩) : wpAny M A (excMatches (.ref e) (.ref D)) Q E ⟨h, g, d, t, os⟩ := by
  have hcB : (Value.ref D :: bm').contains (.type "BaseException") = true := by rw [List.contains_cons, hbase, Bool.or_true]
  have f := tc_notTuple
  generalize hb : (Value.ref C :: bm).contains (.ref D) = r at hq
  unfold excMatches
  repeat (first | (with_reducible refine wpAny_loadPart_at he ?_; rw [hcls]) | with_reducible refine wpAny_loadPart_at hD ?_ | (with_reducible refine wpAny_isSubtype_exc hD ?_; rw [hcB]) | (with_reducible refine wpAny_isSubtype_exc hC ?_; rw [hb]) | wp_step)
  cases r
  · wp_walk; exact hq
  · wp_walk; exact hq
end
section
variable {X : Cx} {pins : List (Addr × Obj)} {σ : L2.St} {H1 : Hp} {G1 : Gp} {s1 : Shared} {k : Nat} {f : Addr} {fd : FuncData} {ps : List Str} {sp : Sp2}
theorem mv_hj {H' : Hp} (ab : AbH X.K H1 G1) : Mv X.K H1 G1 (hj H1 H') G1 := by
  have kp : Kp H1 (hj H1 H') := ⟨fun a xs e => hj_of e, fun a o u e => hj_of e⟩
  have ab' : AbH X.K (hj H1 H') G1 := fun a g e => (ab a g e).mono kp (by
    cases q : H1 a with
    | none => exact absurd q (ab a g e).tracked
    | some o => exact hj_of q)
  exact ⟨fun a o e n => ⟨hj_of e, n⟩, fun a n => by
    cases q : G1 a with
    | none => exact absurd q n
    | some g => exact (ab' a g q).tracked, ab'⟩
theorem run_look {us : List Value} {vs : List V} {ds : List D} {Q2 : DK} {E2 : XK2} (F : FnOk X.prog X.w X.K X.mg X.base (CXe X.prog X.w) k f fd ps (spOfX X.K X.mg sp)) (hr : Room k X.A) (hb : Binds X.K fd ps []) (I : Inv X pins σ H1 s1) (ab : AbH X.K H1 G1) (r : Vals vs us) (rd : RepDs X.K H1 vs ds)
    (h : sp ds (fun _ => none) Q2 E2) : wpAny (model X.prog X.w) X.A (call (.ref f) us)
      (fun u s' => ∃ v d G' Hj, Inv X pins σ Hj s' ∧ Mv X.K H1 G1 Hj G1 ∧ RelV v u ∧ RepD X.K Hj v d ∧ Q2 d G')
      (fun e s' => ∃ (a C t : Addr) (B : Heap) (ex : Ex) (Hj : Hp), e = .ref a ∧ Inv X pins σ Hj s' ∧ Mv X.K H1 G1 Hj G1 ∧ PySem.Heap.FlyingW B X.stack a (.ref C) (.ref t) s'.heap ∧
        (∀ b o, s'.heap.get? b = some o → b ∉ frs X.stack → (s1.heap.get? b ≠ none ∨ Hj b ≠ none) → B.get? b = some o) ∧ Hj a = none ∧ s1.heap.get? a = none ∧ X.mg ex.cls = some (.ref C) ∧ E2 ex (fun _ => none)) s1 := by
  have hsp : spOfX X.K X.mg sp vs (K2.hr H1) (fun v H' => ∃ d G', RepD X.K H' v d ∧ Q2 d G') (exK X.mg E2) :=
    ⟨ds, fun _ => none, Q2, E2, rd.hr, (fun _ _ z => by cases z), h, fun d G' v H' q _ rd' => ⟨d, G', rd', q⟩, fun ex C H' q hm => ⟨ex, C, rfl, hm, q⟩⟩
  have hl : us.length = ps.length := by rw [← r.length]; exact F.len _ _ _ _ hsp
  have e0 := I.env0
  have e1 : Env0 X.prog X.w X.K X.mg X.base X.A X.stack s1 (K2.hr H1) := ⟨e0.frames, e0.mod, fun b o q => ⟨(e0.bs b o q).1, hr_none (e0.bs b o q).2⟩, e0.bsz, e0.funs, fun b z => hr_none (e0.frf b z), hok_hr e0.hok, e0.bare⟩
  have hbu := hb s1 us I.kIn (by rw [List.append_nil]; exact hl)
  rw [List.append_nil] at hbu
  refine wpAny_call (codeAny_mono (F.run X.A X.stack s1 (K2.hr H1) ⟨us, []⟩ us vs _ _ hr e1 hbu r hsp) fun res s' hq => ?_)
  cases res with
  | error e =>
    obtain ⟨a, C, t, B, H', rfl, os, bare, un, hok, hB, fl, ha, hs, ex, C', ec, hm, hE⟩ := hq
    cases ec
    obtain ⟨un', hok', _, _⟩ := join un I.hok hok e0.frf
    have h1a : H1 a = none := by
      cases q : H1 a with
      | none => rfl
      | some u => obtain ⟨o, e⟩ := (I.hok a u q).there; rw [e] at hs; cases hs
    refine ⟨a, C, t, B, ex, hj H1 H', rfl, I.call' (ch := []) os un' hok' bare (fun b z => absurd z (by simp)), mv_hj ab, fl, fun b o e n c => hB b o e n ?_, by rw [hj_new h1a]; exact ha, hs, hm, hE⟩
    rcases c with c | c
    · exact .inl c
    · cases q : H1 b with
      | none => rw [hj_new q] at c; exact .inr c
      | some u => obtain ⟨o1, e1⟩ := (I.hok b u q).there; exact .inl (by rw [e1]; simp)
  | ok fl =>
    cases fl with
    | ret u =>
      obtain ⟨v, H', os, bare, un, hok, rv, d, G', rd', q⟩ := hq
      obtain ⟨un', hok', kp, _⟩ := join un I.hok hok e0.frf
      exact ⟨v, d, G', hj H1 H', I.call' (ch := []) os un' hok' bare (fun b z => absurd z (by simp)), mv_hj ab, rv, rd'.mono kp, q⟩
    | next => exact False.elim hq
    | brk => exact False.elim hq
    | cont => exact False.elim hq
end
end K2
end
section
namespace K2
open PySem PySem.Spec PyProof.Rows L2
set_option autoImplicit false
section
variable {X : Cx} {pins : List (Addr × Obj)} {σ : L2.St} {H H1 : Hp} {s s1 : Shared} {h6 B : Heap} {a : Addr} {o : Obj} {u : HO}
theorem cell_up {h h' : Heap} {c : Addr} {v : Option Value} (up : h.UpToSlots h') (z : h.IsCell c v) : h'.IsCell c v := by
  obtain ⟨o, ho, hd⟩ := z
  obtain ⟨sl, e⟩ := up c o ho (fun vs q => by rw [hd] at q; cases q)
  exact ⟨_, e, hd⟩
theorem pin_nofr (I : Inv X pins σ H s) (hst : X.stack = X.env :: X.outer) (hlf : X.env.frame = some X.env.locals) {p : Addr × Obj} (hp : p ∈ X.pn ++ pins) : p.1 ∉ frs X.stack := fun z => by
  obtain ⟨_, _, h3, h4, _⟩ := I.pin p hp
  rw [hst] at z; unfold frs at z; rw [List.filterMap_cons_some hlf] at z
  rcases List.mem_cons.mp z with e | e
  · exact h3 e
  · exact h4 e
theorem Inv_flown (I : Inv X pins σ H s) (I1 : Inv X pins σ H1 s1) (hst : X.stack = X.env :: X.outer) (hlf : X.env.frame = some X.env.locals) (hex : X.ex = [])
    (hB : ∀ b o, s.heap.get? b = some o → b ∉ frs X.stack → (s1.heap.get? b ≠ none ∨ H b ≠ none) → B.get? b = some o) (stay : B.StaysIn h6) (up : s.heap.UpToSlots h6) (tk : Nat) : Inv X pins σ H { s with heap := h6, toks := tk } := by
  have z := out_of I hst hlf hex (fun _ _ e => e) (fun b o e n c => hB b o e n (c.imp (fun c => by
    cases q : X.s₀.heap.get? b with
    | none => exact absurd q c
    | some o0 => obtain ⟨o1, e1⟩ := I1.base.there b o0 q (by rw [hex]; exact List.not_mem_nil); rw [e1]; simp) id)) stay up
  exact { ok := I.ok, os := I.os, bare := I.bare
          base := by rw [hex]; exact z.1
          loc := by
            obtain ⟨m, hn, hl⟩ := I.loc
            exact ⟨m, up.ns hn, fun i x v e1 e2 e3 => let ⟨u, r, q⟩ := hl i x v e1 e2 e3; ⟨u, r, q.imp id fun ⟨k, c, e, y⟩ => ⟨k, c, e, cell_up up y⟩⟩⟩
          cell := fun x c e => let ⟨v, y⟩ := I.cell x c e; ⟨v, cell_up up y⟩
          free := I.free, freeC := I.freeC
          pin := fun p hp => by
            obtain ⟨h1, h2⟩ := I.pin p hp
            exact ⟨stay _ _ (hB p.1 p.2 h1 (pin_nofr I hst hlf hp) (.inl (by rw [(I1.pin p hp).1]; simp))), h2⟩
          hok := z.2.1
          len := I.len }
theorem Inv_track (I : Inv X pins σ H s) (ha : H a = none) (hn : X.s₀.heap.get? a = none) (nl : a ≠ X.env.locals) (nc : ∀ x c, X.env.cells.lookup x = some c → c ≠ a) (np : ∀ p ∈ X.pn ++ pins, p.1 ≠ a) (new : ObjOk X.prog X.w (upd H a u) s.heap a u) :
    Inv X pins σ (upd H a u) s := by
  have ne : ∀ b v, H b = some v → b ≠ a := fun b v q e => by rw [e, ha] at q; cases q
  exact { ok := I.ok, os := I.os, bare := I.bare
          base := ⟨I.base.keep, I.base.slot, fun b o q n hx => by
            have : b ≠ a := fun e => by rw [e, hn] at q; cases q
            rw [upd_ne this]; exact I.base.free b o q n hx, I.base.there, fun b xs q => by have r := I.base.tups b xs q; rw [upd_ne (ne _ _ r)]; exact r, fun b o v q => by have r := I.base.frzs b o v q; rw [upd_ne (ne _ _ r)]; exact r,
            fun b ps q => by obtain ⟨more, r⟩ := I.base.tbls b ps q; exact ⟨more, by rw [upd_ne (ne _ _ r)]; exact r⟩⟩
          loc := I.loc, cell := I.cell
          free := by rw [upd_ne (Ne.symm nl)]; exact I.free
          freeC := fun x c e => by rw [upd_ne (nc x c e)]; exact I.freeC x c e
          pin := fun p hp => by obtain ⟨h1, h2, h3⟩ := I.pin p hp; exact ⟨h1, by rw [upd_ne (np p hp)]; exact h2, h3⟩
          hok := fun b v q => by
            by_cases e : b = a
            · subst e; rw [upd_same] at q; cases q; exact new
            · rw [upd_ne e] at q
              exact (I.hok b v q).stay (fun _ _ _ y => y) (fun c r => by rw [upd_ne (ne _ _ r)]; exact r) (fun c xs r => by rw [upd_ne (ne _ _ r)]; exact r)
          len := I.len }
abbrev marked (X : Cx) (v : Value) : Cx := { X with A := X.A.mark (some v), calm := false, xe := fun _ _ => False }
theorem Ok_mark {v : Value} (ok : X.Ok) : (marked X v).Ok :=
  ⟨ok.mod, ok.kind, ok.glob, ok.blt, ok.above, ok.inj, ok.has, ok.cab, fun z => (by cases z), ok.frames, ok.stk, ok.exf, ok.bs, ok.bsz, ok.noex, ok.exfs, ok.funs, ok.frf⟩
theorem Inv_mark {v : Value} (I : Inv X pins σ H s) : Inv (marked X v) pins σ H s := ⟨Ok_mark I.ok, I.os, I.bare, I.base, I.loc, I.cell, I.free, I.freeC, I.pin, I.hok, I.len⟩
theorem Inv_unmark {v : Value} (ok : X.Ok) (I : Inv (marked X v) pins σ H s) : Inv X pins σ H s := ⟨ok, I.os, I.bare, I.base, I.loc, I.cell, I.free, I.freeC, I.pin, I.hok, I.len⟩
theorem unname {M : Model} {A : Around} {E : Value → Shared → Prop} {i : Nat} {n : Str} {pos : Pos} {Q : Unit → Shared → Prop} (I : Inv X pins σ H s) (hN : X.N.Nodup) (hi : X.N[i]? = some n) (hk : X.env.scope.names.lookup n = some .local)
    (h : ∀ s', Inv X pins (σ.set i none) H s' → Q () s') : wpAny M A (do bindName X.env n .none; unbindBehindTheSuite X.env n pos) Q E s := by
  obtain ⟨m, hn, hl⟩ := id I.loc
  have hcls : (X.env.scope.kind == .class || (X.env.scope.kind == .module && X.env.locals != X.env.globals)) = false := by rw [I.ok.kind]; rfl
  obtain ⟨oL, _, _, hoL, _⟩ := id hn
  refine wpAny_nameGoes_keeps hk hn hcls fun h' v hn' hs => h _ ?_
  have low : ∀ b o, X.s₀.heap.get? b = some o → b ≠ X.env.locals := fun b o e => Nat.ne_of_lt (Nat.lt_of_lt_of_le (Heap.lt_size e) I.ok.above)
  exact { ok := I.ok, os := I.os, bare := I.bare
          base := ⟨fun b o e n hb hx => (hs.2 b (low b o e)).trans (I.base.keep b o e n hb hx), fun b o e n hb hx => by
              obtain ⟨sl, e1⟩ := I.base.slot b o e n hb hx
              exact ⟨sl, (hs.2 b (low b o e)).trans e1⟩, I.base.free, fun b o e hx => by
              obtain ⟨o', e1⟩ := I.base.there b o e hx
              exact ⟨o', (hs.2 b (low b o e)).trans e1⟩, I.base.tups, I.base.frzs, I.base.tbls⟩
          loc := ⟨_, hn', fun j y v' e1 e2 e3 => by
            by_cases hj : j = i
            · subst hj
              by_cases hlt : j < σ.length
              · rw [List.getElem?_set_self hlt] at e2; cases e2
              · rw [List.getElem?_eq_none (by rw [List.length_set]; omega)] at e2; cases e2
            · rw [List.getElem?_set_ne (Ne.symm hj)] at e2
              obtain ⟨u', r', q⟩ := hl j y v' e1 e2 e3
              refine ⟨u', r', ?_⟩
              rcases q with ⟨k, e⟩ | ⟨k, c, e, z⟩
              · refine .inl ⟨k, ?_⟩
                have : y ≠ n := fun e => hj (nodup_ix hN e1 (e ▸ hi))
                simp [this, e]
              · exact .inr ⟨k, c, e, z.sameBut hs (I.cne y c e)⟩⟩
          cell := fun y c e => by
            obtain ⟨w', z⟩ := I.cell y c e
            exact ⟨w', z.sameBut hs (I.cne y c e)⟩
          free := I.free, freeC := I.freeC
          pin := fun p hp => by
            obtain ⟨h1, h2, h3, h4⟩ := I.pin p hp
            exact ⟨(hs.2 p.1 h3).trans h1, h2, h3, h4⟩
          hok := fun b ob e => by
            refine (I.hok b ob e).stay (fun c w' hc q => (hs.2 c ?_).trans q) (fun _ q => q) fun _ _ q => q
            rintro rfl
            rcases hc with rfl | hc
            · rw [I.free] at e; cases e
            · rw [I.free] at hc; cases hc
          len := by rw [List.length_set]; exact I.len }
end
theorem AbS_unset {K : PySem.W.Frag} {H : Hp} {σ : L2.St} {τ : St2} (a : AbS K H σ τ) (i : Nat) : AbS K H (σ.set i none) (τ.set i none) := by
  refine ⟨by rw [List.length_set, List.length_set]; exact a.len, fun j e h => ?_⟩
  by_cases hj : i = j
  · subst hj
    by_cases hi : i < τ.length
    · rw [List.getElem?_set_self hi] at h; cases h
    · rw [List.getElem?_eq_none (by rw [List.length_set]; omega)] at h; cases h
  · rw [List.getElem?_set_ne hj] at h
    obtain ⟨w, h1, h2⟩ := a.at' j e h
    exact ⟨w, by rw [List.getElem?_set_ne hj]; exact h1, h2⟩
end K2
end
section
namespace K2
open PySem PySem.Spec PyProof.Rows L2
set_option autoImplicit false
def subIn (K : PySem.W.Frag) (C : Addr) (v : Value) : Bool := match K.lookup C with
  | some ⟨_, _, .cls cd, _⟩ => cd.mro.contains v
  | _ => false
theorem sub_obj {K : PySem.W.Frag} {h : Heap} {C N : Addr} {nm q : Str} {bs bm : List Value} {hdct : Bool} {sn : List Str} {sub : List Value} {ab : Bool} {col : Option Bool} {dd : Option Addr} {k0 k1 k2 k3 k5 : Option Value} {newId : String} {v : Value}
    (Y : K.In h) (hC : h.get? C = some (excClassObj nm q C N bs bm hdct sn sub ab col dd k0 k1 k2 k3 k5 newId)) (e : subIn K C v = true) : (Value.ref C :: bm).contains v = true := by
  unfold subIn at e
  split at e
  · rename_i ho
    have := Y _ _ ho
    rw [hC] at this
    cases this
    exact e
  · cases e
section
variable {X : Cx} {x cn n : Str} {D f : Addr} {fd : FuncData} {ps : List Str} {k i : Nat} {sp : Sp2} {bmD : List Value} {newD : String} {cat : List Str} {e : Expr} {es : List Expr} {p np pos ep hpos tp : Pos} {st0 : Stmt} {suite : List Stmt} {t : TA2} {th : TS2}
structure AtDef (X : Cx) : Prop where
  st : X.stack = X.env :: X.outer
  fr : X.env.frame = some X.env.locals
  ex : X.ex = []
structure Clause (X : Cx) (i : Nat) (n cn : Str) (D : Addr) (cat : List Str) : Prop where
  nd : X.N.Nodup
  at1 : X.N[i]? = some n
  loc : X.env.scope.names.lookup n = some .local
  gl : Gl X cn
  mg : X.mg cn = some (.ref D)
  cls : ∃ bmD newD, PySem.W.excIn X.K D bmD newD = true ∧ bmD.contains (.type "BaseException") = true
  cat : ∀ c, cat.contains c = true → ∃ C bmB newId, PySem.W.nsIn X.K mainGlobals c = some (some (.ref C)) ∧ PySem.W.excIn X.K C bmB newId = true ∧ subIn X.K C (.ref D) = true
theorem caught_look {pins : List (Addr × Obj)} {σ : L2.St} {H H1 Hj : Hp} {τ : St2} {G G1 : Gp} {s1 s' : Shared} {Dn : Ends2} {a C t0 : Addr} {B : Heap} {ex : Ex} (A0 : AtDef X) (L : Clause X i n cn D cat) (hth : ∀ v, PSs2 (marked X v) (st0 :: suite) th) (J1 : Inv X pins σ H1 s1) (st1 : AbS X.K H1 σ τ) (ab1 : AbH X.K H1 G1) (m1 : Mv X.K H G H1 G1)
    (I' : Inv X pins σ Hj s') (mv : Mv X.K H1 G1 Hj G1) (fl : PySem.Heap.FlyingW B X.stack a (.ref C) (.ref t0) s'.heap) (hB : ∀ b o, s'.heap.get? b = some o → b ∉ frs X.stack → (s1.heap.get? b ≠ none ∨ Hj b ≠ none) → B.get? b = some o)
    (ha' : Hj a = none) (hs' : s1.heap.get? a = none) (hm' : X.mg ex.cls = some (.ref C)) (hc' : cat.contains ex.cls = true)
    (q' : th (fun _ _ => False) ⟨fun τ' G' => Dn.nx (τ'.set i none) G', fun _ _ => False, fun _ _ => False, fun _ _ => False⟩ (τ.set i (some (.exc ex.cls))) G1) (hdD : (cn == ("__debug__" : Str)) = false) :
    wpAny (model X.prog X.w) X.A (noteFrame (.ref a) X.env) (fun _ s₂ => wpAny (model X.prog X.w) X.A (setFlight (.ref a) none) (fun _ s₃ => wpAny (model X.prog X.w) X.A (handleBy (.ref a) X.env [.ExceptHandler (some (.Name cn np)) (some n) (st0 :: suite) hpos]) (SP2 X pins H G Dn) X.xe s₃) X.xe s₂) X.xe s' := by
  obtain ⟨hst, hlf, hex⟩ := A0
  obtain ⟨hN, hi, hl, hgD, hmD, ⟨bmD, newD, qD, bD⟩, hcat⟩ := L
  obtain ⟨C', bmB, newId, hns, qC, hsub⟩ := hcat ex.cls hc'
  have eC : C' = C := by
    have := PySem.W.mg_of J1.ok.mod.kin J1.ok.mod.glob hns
    rw [hm'] at this; cases this; rfl
  subst eC
  rw [hst] at fl
  refine wpAny_looks_onW (L := X.env.locals) (by rw [← hst]; exact J1.ok.frames) hlf fl fun h4 held up4 => ?_
  refine wpAny_landsW held fun h5 fl5 up5 => ?_
  have I5 : Inv X pins σ Hj { s' with heap := h5 } := Inv_flown I' J1 hst hlf hex hB fl5.1 (up4.trans up5) _
  refine wpAny_handleBy_cons (codeAny_handlers_test ?_) (by intro z; cases z)
  refine ld_glob (X := marked X (.ref a)) (Inv_mark I5) hgD hmD ?_ hdD
  obtain ⟨bm, N, nm, qn, bs, hdct, sn, sub, ab, col, dd, k0, k1, k2, k3, k5, mN, hC, _, _, T⟩ := exc_obj I5.kIn qC
  obtain ⟨bm', N', nm', qn', bs', hdct', sn', sub', ab', col', dd', k0', k1', k2', k3', k5', mN', hD, _, _, T'⟩ := exc_obj I5.kIn qD
  obtain ⟨oe, he5, hce⟩ := fl5.there
  refine match_own hC hD he5 hce (T'.hasType bD) ?_
  rw [sub_obj I5.kIn hC hsub]
  refine codeAny_handlers_suite_as ?_
  refine lands_againW fl5 fun h6 fl6 up6 => ?_
  have I6 : Inv X pins σ Hj { s' with heap := h6 } := Inv_flown I' J1 hst hlf hex hB fl6.1 ((up4.trans up5).trans up6) _
  obtain ⟨oe6, he6, hc6⟩ := fl6.there
  have nl : a ≠ X.env.locals := fun z => by
    obtain ⟨m, ⟨oL, _, _, hoL, _⟩, _⟩ := J1.loc
    rw [z, hoL] at hs'; cases hs'
  have nc : ∀ y c, X.env.cells.lookup y = some c → c ≠ a := fun y c ec z => by
    obtain ⟨v, o, ho, _⟩ := J1.cell y c ec
    rw [z, hs'] at ho; cases ho
  have npn : ∀ q ∈ X.pn ++ pins, q.1 ≠ a := fun q hq z => by
    have := (J1.pin q hq).1
    rw [z, hs'] at this; cases this
  have hn : X.s₀.heap.get? a = none := by
    cases q0 : X.s₀.heap.get? a with
    | none => rfl
    | some o => obtain ⟨o1, e1⟩ := J1.base.there a o q0 (by rw [hex]; exact List.not_mem_nil); rw [e1] at hs'; cases hs'
  have I7 := Inv_track (u := .frz oe6 (.ext fun h => h.get? a = some oe6)) I6 ha' hn nl nc npn ⟨he6, he6, ⟨_, he6⟩, fun h1 h2 q k => k _ q⟩
  have mvT : Mv X.K Hj G1 (upd Hj a (.frz oe6 (.ext fun h => h.get? a = some oe6))) G1 := .hid mv.ab ha'
  have kp7 : Kp H1 (upd Hj a (.frz oe6 (.ext fun h => h.get? a = some oe6))) := (mv.trans mvT).kp ab1
  refine store_ok2 (v := .ref a) I7 hN hi (.inl hl) rfl (fun s8 I8 _ => ?_) (.inr hl)
  refine wpAny_mono (hth (.ref a) (fun _ _ => False) pins s8 _ _ (τ.set i (some (.exc ex.cls))) G1 _ (Lk.none fun _ _ z => z)
    ⟨Inv_mark I8, (st1.mono kp7).set i (.exc ⟨oe6, C', upd_same, hc6, hns⟩), mvT.ab⟩ q') (fun fw s9 q9 => ?_) (fun _ _ z => z.elim)
  cases fw with
  | next =>
    obtain ⟨σ9, H9, τ9, G9, I9, m9, q9⟩ := q9
    exact unname (Inv_unmark J1.ok I9.inv) hN hi hl fun s10 I10 => ⟨σ9.set i none, H9, τ9.set i none, G9, ⟨I10, AbS_unset I9.st i, I9.ab⟩, m1.trans (mv.trans (mvT.trans m9)), q9⟩
  | brk => obtain ⟨_, _, _, _, _, _, z⟩ := q9; exact z.elim
  | cont => obtain ⟨_, _, _, _, _, _, z⟩ := q9; exact z.elim
  | ret u => obtain ⟨_, _, _, _, _, _, _, _, _, z⟩ := q9; exact z.elim
theorem ps2_try (A0 : AtDef X) (L : Clause X i n cn D cat)
    (F : FnOk X.prog X.w X.K X.mg X.base (CXe X.prog X.w) k f fd ps (spOfX X.K X.mg sp)) (hr : Room k X.A) (hg : Gl X x) (hm : X.mg x = some (.ref f)) (hk : PySem.W.keepIn X.K (.ref f) = true) (hb : Binds X.K fd ps [])
    (ha : ∀ EX, PA2 (X.wish EX) (e :: es) t) (hth : ∀ v, PSs2 (marked X v) (st0 :: suite) th)
    (hdb : (x == ("__debug__" : Str)) = false := by decide) (hdD : (cn == ("__debug__" : Str)) = false := by decide) (he : starEach (e :: es) X.env = (false, eval e X.env) :: starEach es X.env := by rfl) (hpl : (backTo pos (starEach es X.env)).any (·.1) = false := by rfl)
    (hs : swapsWith (.Call (.Name x p) (e :: es) [] pos) none ep.line X.env = pure false := by rfl) :
    PS2 X (.Try [.Expr (.Call (.Name x p) (e :: es) [] pos) ep] [.ExceptHandler (some (.Name cn np)) (some n) (st0 :: suite) hpos] [] [] tp) (dTryC sp t i cat th) := by
  intro E pins s σ H τ G Dn hE I h
  refine wpAny_Try_except ?_
  refine wpAny_execs_cons (wpAny_Expr_any ?_ I.inv.quiet hs)
  generalize hEX : (fun (e : Value) (s₁ : Shared) => wpAny (model X.prog X.w) X.A (noteFrame e X.env) (fun _ s₂ => wpAny (model X.prog X.w) X.A (setFlight e none) (fun _ s₃ => wpAny (model X.prog X.w) X.A (handleBy e X.env [.ExceptHandler (some (.Name cn np)) (some n) (st0 :: suite) hpos]) (SP2 X pins H G Dn) X.xe s₃) X.xe s₂) X.xe s₁) = EX
  refine wpAny_Call_Name_kw (ld_glob I.inv hg hm ?_ hdb)
  have I0 : I2 (X.wish EX) pins σ H τ G s := ⟨I.inv.wish EX, I.st, I.ab⟩
  refine PySem.W.callWith_K (h₀ := X.base) I.inv.ok.mod.kin hk (thnA (X := X.wish EX) (ha EX) pos (Lk.none fun _ _ z => z) I0 h fun vs H1 ds G1 us s1 I1 m1 r rd q => ⟨I1.inv.kIn, ?_⟩) he hpl
  have J1 : Inv X pins σ H1 s1 := I1.inv.unwish
  refine wpAny_mono (run_look F hr hb J1 I1.ab r rd q) (fun u s' ⟨v, d, G', Hj, I', mv, rv, rd', q'⟩ => ?_) (fun ev s' ⟨a, C, t0, B, ex, Hj, ea, I', mv, fl, hB, ha', hs', hm', hc', q'⟩ => ?_)
  · exact wpAny_execs_nil (wpAny_execs_nil ⟨σ, Hj, τ, G1, ⟨I', I1.st.mono (mv.kp I1.ab), mv.ab⟩, m1.trans mv, q'⟩)
  · subst ea; subst hEX
    exact caught_look A0 L hth J1 I1.st I1.ab m1 I' mv fl hB ha' hs' hm' hc' q' hdD
theorem pe2_callX (F : FnOk X.prog X.w X.K X.mg X.base (CXe X.prog X.w) k f fd ps (spOfX X.K X.mg sp)) (hr : Room k X.A) (hg : Gl X x) (hm : X.mg x = some (.ref f)) (hk : PySem.W.keepIn X.K (.ref f) = true) (hb : Binds X.K fd ps [])
    (ha : PA2 X (e :: es) t) (hdb : (x == ("__debug__" : Str)) = false := by decide) (he : starEach (e :: es) X.env = (false, eval e X.env) :: starEach es X.env := by rfl) (hpl : (backTo pos (starEach es X.env)).any (·.1) = false := by rfl) :
    PE2 X (.Call (.Name x p) (e :: es) [] pos) (dCallX sp t) := by
  intro E pins s σ H τ G Q hE I h
  refine wpAny_Call_Name_kw (ld_glob I.inv hg hm ?_ hdb)
  refine PySem.W.callWith_K (h₀ := X.base) I.inv.ok.mod.kin hk (thnA ha pos hE I h fun vs H1 ds G1 us s1 I1 m1 r rd q => ⟨I1.inv.kIn, ?_⟩) he hpl
  refine thn (run_fn (E := exK X.mg E) F hr hb .nil (fun pins σ H s e s' I hq => hE.pass pins σ H s s' e I hq) I1.inv r (Q := Rch X.K H1 G1 Q) ?_) fun _ _ z => (EP2.of z).trans m1
  rw [List.append_nil]
  exact ⟨ds, G1, Q, E, rd, I1.ab, q, fun d G' v H' q' m' rd' => ⟨d, G', m', rd', q'⟩, fun ex C H' q' hm' => ⟨ex, C, rfl, hm', q'⟩⟩
end
end K2
end
section
namespace K2
open PySem PySem.Spec PyProof.Rows L2 PySem.W PySem.Calls PySem.Builtin PySem.Builtin.Getset_descriptor
set_option autoImplicit false
section
variable {prog : Program} {w : World} {A : Around} {E : Value → Shared → Prop} {s : Shared} {K : PySem.W.Frag} {a C : Addr} {ox : Obj}
theorem exc_cls {Q : Option Value → Shared → Prop} {B : String} {bmB : List Value} (FB : ExcAttrBase B bmB) (X : K.In s.heap) (hx : s.heap.get? a = some ox) (hc : ox.cls = .ref C) (hga : findIn K (.ref C) "__getattribute__" = some (some (.builtin "BaseException.__getattribute__"))) (hgn : findIn K (.ref C) "__getattr__" = some none)
    (hA : findIn K (.ref C) "__class__" = some (some (.builtin "object.__class__"))) (hG : specialIn K (.builtin "object.__class__") "__get__" = some (some (.builtin "getset_descriptor.__get__"))) (hT : takesIn K (.builtin "object.__class__") = some true) (hm : mroIn K C (.type "object") = some true) (hmB : mroIn K C (.type "BaseException") = some true)
    (h : Q (some (.ref C)) { s with toks := s.toks + 1 }) : wpAny (model prog w) A (getAttr? (.ref a) "__class__") Q E s := by
  obtain ⟨hh, g, d, t, os⟩ := s
  have L0 : Looks (model prog w) hh (typeOf (.ref a)) (.ref C) := hc ▸ (Looks.ld hx).andThen .now
  have L1 := looks_findIn (M := model prog w) X hga
  have L2 := looks_findIn (M := model prog w) X hgn
  have L5 := looks_mroIn (M := model prog w) X hm
  have L3 : Looks (model prog w) hh (Builtin.ObjectAttr.find (.ref a) (.ref C) "__class__") (.bind (.builtin "getset_descriptor.__get__") (.builtin "object.__class__")) := by
    refine (looks_findIn X hA).andThen ((looks_specialIn X hG : Looks (model prog w) hh (Builtin.ObjectAttr.getOf (some (.builtin "object.__class__"))) _).andThen ?_)
    refine ((looks_takesIn X hT).andThen .now : Looks (model prog w) hh (Builtin.ObjectAttr.dataDescriptor? (some (.builtin "object.__class__")) (some (.builtin "getset_descriptor.__get__"))) (some (.builtin "getset_descriptor.__get__", .builtin "object.__class__"))).andThen ?_
    exact Looks.tag .now
  have L4 := looks_mroIn (M := model prog w) X hmB
  have hx2 : (Value.builtin "BaseException.__getattribute__" == Value.builtin "object.__getattribute__") = false := by decide +kernel
  unfold getAttr? getAttrBy? getAttrBy
  refine wpAny_bind (wpAny_mkText (wpAny_bind (wpAny_attempt (wpAny_holding (wpAny_bind (L0.at (wpAny_bind (L1.at ?_))))))))
  dsimp only
  rw [if_neg (by rw [hx2]; simp)]
  unfold getAttrByItsOwn hookBefore callGetattribute
  have f3 := FB.ga.bind (.ref a)
  have fin : codeAny (model prog w) A (.call (.builtin "BaseException.__getattribute__") ⟨[.ref a, .str "__class__" t], []⟩) (fun r s' => r = .ok (.ret (.ref C)) ∧ s' = ⟨hh, g, d, t + 1, os⟩) ⟨hh, g, d, t + 1, os⟩ := by
    refine codeAny_call_builtin FB.ga.plain F.entry_bexc_ga ?_
    have hk : builtinKind "BaseException.__getattribute__" = some .slot := by decide +kernel
    have hsplit : splitId "BaseException.__getattribute__" = some ("BaseException", "__getattribute__") := by decide +kernel
    have ha := F.args_bexc_ga (.ref a) (.str "__class__" t)
    have LI : Looks (model prog w) hh (isInstance (.ref a) (.type "BaseException")) true := L0.andThen L4
    simp only [checkBuiltinCall, hk, hsplit]
    refine wpAny_bind (LI.at ?_)
    simp only [Bool.not_true, Bool.false_eq_true, if_false]
    have body : wpAny (model prog w) A.in1 (Builtin.«object.__getattribute__» ⟨[.ref a, .str "__class__" t], []⟩)
        (fun fin s' => fin = .done (.ret (.ref C)) ∧ s' = ⟨hh, g, d, t + 1, os⟩) (fun _ _ => False) ⟨hh, g, d, t + 1, os⟩ := by
      unfold Builtin.«object.__getattribute__»
      refine wpAny_bind (wpAny_pure ?_)
      refine wpAny_bind (wpAny_pure ?_)
      refine wpAny_bind (L0.at (wpAny_bind (L3.at ?_)))
      show wpAny _ _ (Builtin.ObjectAttr.bindTo (.builtin "getset_descriptor.__get__") (.builtin "object.__class__") (.ref a) (.ref C)) _ _ _
      show wpAny _ _ (do let v ← holding [.builtin "object.__class__"] (call (.builtin "getset_descriptor.__get__") [.builtin "object.__class__", .ref a, .ref C]); ret v) _ _ _
      refine wpAny_bind (wpAny_holding (wpAny_call ?_))
      refine codeAny_call_builtin KF.slot_gs.plain KF.entry_gs (KF.slot_gs.check _ _ _ _ _ _ _ _ KF.type_class (KF.args_gs _ _ _) ?_)
      unfold Builtin.«getset_descriptor.__get__» descrGet
      rw [dga_obj]
      refine wpAny_bind (wpAny_pure ?_)
      unfold descrGetter descrCheckInstance descrNameAndClass isInstance
      simp only [KF.owner_class]
      repeat lk
      refine ⟨Code.quiet_builtin _ (by decide +kernel), codeAny_builtin KF.entry_class ?_⟩
      unfold Builtin.«object.__class__» shownTypeOf
      repeat lk
      exact ⟨rfl, rfl⟩
    have go : ∀ z : Sem Unit, z = pure () → ∀ (P : Unit → Shared → Prop) (E' : Value → Shared → Prop) s', P () s' → wpAny (model prog w) A.in1 z P E' s' := fun z e P E' s' hp => by rw [e]; exact wpAny_pure hp
    refine go _ ha _ _ _ (wpAny_mono body (fun fin s' ⟨e1, e2⟩ => ?_) (fun _ _ z => z.elim))
    subst e1; exact ⟨rfl, e2⟩
  refine wpAny_bind (L2.at (wpAny_bind (wpAny_attempt (wpAny_holding ?_))))
  simp only [Bool.false_and, Bool.false_eq_true, if_false]
  unfold boundAndCalled
  rw [f3]
  refine wpAny_bind (wpAny_pure (wpAny_call (codeAny_mono fin fun r s' ⟨e1, e2⟩ => ?_)))
  subst e1; subst e2
  exact wpAny_pure (wpAny_pure h)
structure ExcIs (K : PySem.W.Frag) (C : Addr) : Prop where
  ga : findIn K (.ref C) "__getattribute__" = some (some (.builtin "BaseException.__getattribute__"))
  gn : findIn K (.ref C) "__getattr__" = some none
  at1 : findIn K (.ref C) "__class__" = some (some (.builtin "object.__class__"))
  sp : specialIn K (.builtin "object.__class__") "__get__" = some (some (.builtin "getset_descriptor.__get__"))
  tk : takesIn K (.builtin "object.__class__") = some true
  mo : mroIn K C (.type "object") = some true
  mb : mroIn K C (.type "BaseException") = some true
  is : (clsIn K C).isSome = true
theorem kitx_exc {B : String} {bmB : List Value} (FB : ExcAttrBase B bmB) (Z : ExcIs K C) : KitX K (.ref a) (.ref C) (fun h => ∃ o, h.get? a = some o ∧ o.cls = .ref C) where
  ty := fun M h _ ⟨o, hx, hc⟩ => hc ▸ (Looks.ld hx).andThen .now
  it := fun M h X _ => by
    have hcD := Z.is
    unfold clsIn at hcD
    split at hcD
    · rename_i ho
      intro A' Q' E' s' k q
      unfold isType loadHead
      exact wpAny_bind (wpAny_loadPart (k _ _ (X _ _ ho)) (wpAny_pure q))
    · cases hcD
  ne := fun h tp dd its n sl X htp => by
    have hcD := Z.is
    refine Bool.eq_false_iff.mpr fun q => ?_
    have e : C = tp := Value.ref.inj (beq_iff_eq.mp q)
    subst e
    unfold clsIn at hcD
    split at hcD
    · rename_i ho
      have z := (X _ _ ho).symm.trans htp
      cases z
    · cases hcD
  ca := fun X ⟨o, hx, hc⟩ k => exc_cls FB X hx hc Z.ga Z.gn Z.at1 Z.sp Z.tk Z.mo Z.mb k
end
end K2
end
section
namespace K2
open PySem PySem.Spec PyProof.Rows L2
set_option autoImplicit false
theorem cat_nil {P : Str → Prop} : ∀ c, ([] : List Str).contains c = true → P c := fun c h => by simp at h
theorem cat_cons {l : List Str} {P : Str → Prop} {x : Str} (h : P x) (t : ∀ c, l.contains c = true → P c) : ∀ c, (x :: l).contains c = true → P c := fun c hc => by
  rw [List.contains_cons, Bool.or_eq_true] at hc
  rcases hc with hc | hc
  · rw [beq_iff_eq.mp hc]; exact h
  · exact t c hc
section
variable {X : Cx} {a : Expr} {ta : TE2} {p pos : Pos} {B : String} {bmB : List Value} {all sub : List Str}
theorem pe2_isiO {y : Str} {py : Pos} {C : Addr} (FB : ExcAttrBase B bmB) (hg : Gl X "isinstance") (hm : X.mg "isinstance" = none) (hgC : Gl X y) (hmC : X.mg y = some (.ref C)) (hnon : PySem.W.kitOne X.K (.type "NoneType") (.ref C) = some false)
    (hexc : ∀ c, all.contains c = true → ∃ C', PySem.W.nsIn X.K mainGlobals c = some (some (.ref C')) ∧ PySem.W.kitOne X.K (.ref C') (.ref C) = some (sub.contains c) ∧ ExcIs X.K C') (ha : PE2 X a ta) (hdb : (y == ("__debug__" : Str)) = false := by decide)
    (he : starEach [a, .Name y py] X.env = (false, eval a X.env) :: starEach [.Name y py] X.env := by rfl) (hpl : (backTo pos (starEach [Expr.Name y py] X.env)).any (·.1) = false := by rfl) (he2 : starEach [.Name y py] X.env = [(false, eval (.Name y py) X.env)] := by rfl) :
    PE2 X (.Call (.Name "isinstance" p) [a, .Name y py] [] pos) (dIsiO all sub ta) := by
  intro E pins s σ H τ G Q hE I h
  refine wpAny_Call_Name_kw (ld_blt I.inv hg hm PyProof.Rows.boot_isinstance ?_)
  refine PyProof.Rows.callWith_builtin1 ?_ he hpl
  rw [he]
  show wpAny _ _ (spliced ((false, eval a X.env) :: backTo pos (starEach [.Name y py] X.env))) _ _ s
  refine Calls.spliced_cons (thnE ha hE I h fun v H1 d G1 u s1 I1 m1 r1 rd1 q1 => ?_)
  rw [he2]
  show wpAny _ _ (spliced [(false, eval (.Name y py) X.env)]) _ _ s1
  refine Calls.spliced_cons (ld_glob I1.inv hgC hmC (Calls.spliced_nil ?_) hdb)
  have fin : ∀ b tk, Q (.bl b) G1 → EP2 X pins σ H G Q (.bool b) { s1 with toks := tk } := fun b tk q =>
    ⟨.bl b, H1, .bl b, G1, I1.inv.tok _, m1, rfl, .bl b, q⟩
  cases rd1 with
  | non =>
    cases r1
    exact PySem.W.kia_one PySem.W.kitx_none I1.inv.kIn True.intro hnon (fun z => nomatch z) fun tk => fin false tk q1
  | exc h0 =>
    cases r1
    obtain ⟨o, C', e1, e2, e3⟩ := h0
    obtain ⟨hall, q2⟩ := q1
    obtain ⟨C2, e4, k1, k2⟩ := hexc _ hall
    rw [e3] at e4
    cases e4
    exact PySem.W.kia_one (kitx_exc FB k2) I1.inv.kIn ⟨o, (I1.inv.hok _ _ e1).1, e2⟩ k1 (fun z => nomatch z) fun tk => fin _ tk q2
  | _ => exact q1.elim
end
end K2
end
section
namespace K2
open PySem PySem.Spec PyProof.Rows L2
set_option autoImplicit false
section
variable {X : Cx} {a : Expr} {ta : TE2} {p pos : Pos} {B : String} {bmB : List Value} {all : List Str}
theorem boot_ValueError : bootBuiltins "ValueError" = some (.type "ValueError") := by first | rfl | decide +kernel
theorem pe2_isiV {py : Pos} (FB : ExcAttrBase B bmB) (hg : Gl X "isinstance") (hm : X.mg "isinstance" = none) (hgC : Gl X "ValueError") (hmC : X.mg "ValueError" = none)
    (hexc : ∀ c, all.contains c = true → ∃ C', PySem.W.nsIn X.K mainGlobals c = some (some (.ref C')) ∧ PySem.W.kitOne X.K (.ref C') (.type "ValueError") = some true ∧ ExcIs X.K C') (ha : PE2 X a ta)
    (he : starEach [a, .Name "ValueError" py] X.env = (false, eval a X.env) :: starEach [.Name "ValueError" py] X.env := by rfl) (hpl : (backTo pos (starEach [Expr.Name "ValueError" py] X.env)).any (·.1) = false := by rfl) (he2 : starEach [.Name "ValueError" py] X.env = [(false, eval (.Name "ValueError" py) X.env)] := by rfl) :
    PE2 X (.Call (.Name "isinstance" p) [a, .Name "ValueError" py] [] pos) (dIsiV all ta) := by
  intro E pins s σ H τ G Q hE I h
  refine wpAny_Call_Name_kw (ld_blt I.inv hg hm PyProof.Rows.boot_isinstance (PyProof.Rows.callWith_builtin1 ?_ he hpl))
  rw [he]
  show wpAny _ _ (spliced ((false, eval a X.env) :: backTo pos (starEach [.Name "ValueError" py] X.env))) _ _ s
  refine Calls.spliced_cons (thnE ha hE I h fun v H1 d G1 u s1 I1 m1 r1 rd1 q1 => ?_)
  rw [he2]
  show wpAny _ _ (spliced [(false, eval (.Name "ValueError" py) X.env)]) _ _ s1
  refine Calls.spliced_cons (ld_blt I1.inv hgC hmC boot_ValueError (Calls.spliced_nil ?_))
  have fin : ∀ b tk, Q (.bl b) G1 → EP2 X pins σ H G Q (.bool b) { s1 with toks := tk } := fun b tk q =>
    ⟨.bl b, H1, .bl b, G1, I1.inv.tok _, m1, rfl, .bl b, q⟩
  cases rd1 with
  | exc h0 =>
    cases r1
    obtain ⟨o, C', e1, e2, e3⟩ := h0
    obtain ⟨hall, q2⟩ := q1
    obtain ⟨C2, e4, k1, k2⟩ := hexc _ hall
    rw [e3] at e4
    cases e4
    exact PySem.W.kia_one (kitx_exc FB k2) I1.inv.kIn ⟨o, (I1.inv.hok _ _ e1).1, e2⟩ k1 (fun z => nomatch z) fun tk => fin _ tk q2
  | _ => exact q1.elim
end
end K2
end
section
namespace K2
open PySem PySem.Spec PyProof.Rows L2
set_option autoImplicit false
section
variable {X : Cx} {e : Expr} {te : TE2} {pos : Pos}
theorem pst {i : Nat} {x : Str} {pos' : Pos} (hN : X.N.Nodup) (hi : X.N[i]? = some x) (he : PE2 X e te) (hx : Loc X.env.scope x := by first | exact Or.inl rfl | exact Or.inr rfl) (hs : swapsWith e (some (.Name x pos')) pos.line X.env = pure false := by rfl) (hf : X.fn x = true ∨ X.env.scope.names.lookup x = some .local := by first | exact .inl rfl | exact .inr rfl | assumption) :
    PS2 X (.Assign [.Name x pos'] e pos) (dAsg te (gName i)) := ps2_set hN hi hx he hs hf
theorem pgn {i : Nat} {x : Str} (hN : X.N.Nodup) (hi : X.N[i]? = some x) (hx : Loc X.env.scope x := by first | exact Or.inl rfl | exact Or.inr rfl) (hf : X.fn x = true ∨ X.env.scope.names.lookup x = some .local := by first | exact .inl rfl | exact .inr rfl | assumption) : PG2 X (.Name x pos) (gName i) := pg2_name hN hi hx hf
theorem fo2 {P : Program} {w : World} {K : PySem.W.Frag} {mg : Str → Option Value} {base : Heap} {x qual : Str} {st : Stmt} {f : Addr} {fd : FuncData} {Nn ps : List Str} {k : Nat} {sp : Sp2} {rd : TS2} (F : Fun K x qual st f fd) (S : FnScope Nn ps (defScope st))
    (hr : ∀ ds G Q, sp ds G Q (fun _ _ => False) → rd (fun _ _ => False) (ends Q) (start2 Nn.length ds) G)
    (hb : ∀ (cdv : Value) (A : Around) (outer : List Env) (s : Shared) (H : Hp) (E : XK), Room k (A.deeper (envOfC qual (defScope st) s.heap.objs.size f cdv)) → PSs2 (cxOf CX0 P w K mg base Nn qual (defScope st) f cdv A outer s H E).nox (defBody st) rd)
    (len : ∀ ds G Q E, sp ds G Q E → ds.length = ps.length := by intro ds G Q E h; iterate 12 (first | done | (obtain ⟨e, _⟩ := h; (subst e); rfl) | (obtain ⟨_, h⟩ := h))) : FnOk P w K mg base CX0 (k + 1) f fd ps (spOf K sp) := fun_ok2 F S len hr hb
theorem foX {P : Program} {w : World} {K : PySem.W.Frag} {mg : Str → Option Value} {base : Heap} {x qual : Str} {st : Stmt} {f : Addr} {fd : FuncData} {Nn ps : List Str} {k : Nat} {sp : Sp2} {rd : TS2} (F : Fun K x qual st f fd) (S : FnScope Nn ps (defScope st))
    (hr : ∀ ds G Q E, sp ds G Q E → rd E (ends Q) (start2 Nn.length ds) G)
    (hb : ∀ (cdv : Value) (A : Around) (outer : List Env) (s : Shared) (H : Hp) (E : XK), Room k (A.deeper (envOfC qual (defScope st) s.heap.objs.size f cdv)) → PSs2 (cxOf (CXe P w) P w K mg base Nn qual (defScope st) f cdv A outer s H E) (defBody st) rd)
    (len : ∀ ds G Q E, sp ds G Q E → ds.length = ps.length := by intro ds G Q E h; iterate 12 (first | done | (obtain ⟨e, _⟩ := h; (subst e); rfl) | (obtain ⟨_, h⟩ := h))) : FnOk P w K mg base (CXe P w) (k + 1) f fd ps (spOfX K mg sp) := fun_okX F S len hr hb
theorem scm {N ps : List Str} {sc : Scope} (h1 : sc.kind = .function := by rfl) (h2 : sc.isCoroutine = false := by rfl) (h3 : sc.isGenerator = false := by rfl) (h4 : N.Nodup := by decide +kernel) (h5 : N.take ps.length = ps := by rfl)
    (h6 : ∀ x ∈ ps, sc.names.lookup x = some .local ∨ sc.names.lookup x = some .cell := by decide +kernel) (h7 : ∀ y ∈ sc.names, y.2 ≠ .free := by decide +kernel) : FnScope N ps sc := ⟨h1, h2, h3, h4, h5, h6, h7⟩
end
end K2
end
section
namespace K2
open PySem PySem.Spec PyProof.Rows L2
set_option autoImplicit false
section
variable {X : Cx} {a b c : Expr} {ta tb tc : TE2} {pos : Pos}
theorem pe2_cst {x : Str} {i : Int} {t : Tok} {p : Pos} (hg : Gl X x) (hm : X.mg x = some (.int i t)) (hd : (x == ("__debug__" : Str)) = false := by decide) : PE2 X (.Name x p) (dC (.int i)) := pe2_const (pe_glob (v := .int i) hg hm ⟨t, rfl⟩ hd) fun _ _ => .int i
theorem call2_abs : CallR2 X (.builtin "abs") cAbs := by
  intro pins s σ H G xs ds us Q I ab rx rd q
  unfold cAbs at q
  split at q
  · rename_i i
    obtain ⟨w1, rfl, rw1⟩ := rd.one
    obtain ⟨u, rfl, ru⟩ := rx.one
    cases rw1
    obtain ⟨t, rfl⟩ := ru
    exact call_abs_int fun u tk => ⟨.int _, H, .int _, G, I.tok _, .refl ab, ⟨_, rfl⟩, .int _, q⟩
  · exact q.elim
theorem pe2_chain {op op' : CmpOp} {r r' : R22} (ho : OpR2 X (compareOp op) r) (ho' : OpR2 X (compareOp op') r') (ha : PE2 X a ta) (hb : PE2 X b tb) (hc : PE2 X c tc)
    (hm : lastMarks [op, op'] [b, c] = false := by with_unfolding_all rfl) : PE2 X (.Compare a [op, op'] [b, c] pos) (dChain r r' ta tb tc) := by
  intro E pins s σ H τ G Q hE I h
  refine Compare_chain (thnE ha hE I h fun x H1 dx G1 v s1 I1 m1 r1 rd1 q1 => chain_link (thnE hb hE I1 q1 fun y H2 dy G2 u s2 I2' m2 r2 rd2 q2 => ?_)) hm
  refine thn (ho pins s2 σ H2 G2 x y dx dy v u _ I2'.inv I2'.ab r1 r2 (rd1.mono (m2.kp I1.ab)) rd2 q2) fun d s3 z => ?_
  obtain ⟨z, H3, dz, G3, I3, m3, r3, rd3, k, e, q3⟩ := z
  subst e
  cases rd3
  cases r3
  have m13 := (m1.trans m2).trans m3
  refine wpAny_truthy_bool ?_
  cases k with
  | false => exact ite_ff ⟨.bl false, H3, .bl false, G3, I3, m13, rfl, .bl _, q3⟩
  | true =>
    have J3 : I2 X pins σ H3 τ G3 s3 := I2'.mv I3 m3
    refine ite_tt (chain_last (thnE hc hE J3 q3 fun w' H4 dw G4 u4 s4 I4 m4 r4 rd4 q4 => ?_))
    exact thn (ho' pins s4 σ H4 G4 y w' dy dw u u4 Q I4.inv I4.ab r2 r4 ((rd2.mono (m3.kp I2'.ab)).mono (m4.kp J3.ab)) rd4 q4) fun _ _ z => z.trans (m13.trans m4)
theorem pt2_chain {op op' : CmpOp} {r r' : R22} (ho : OpR2 X (compareOp op) r) (ho' : OpR2 X (compareOp op') r') (ha : PE2 X a ta) (hb : PE2 X b tb) (hc : PE2 X c tc)
    (hm : lastMarks [op, op'] [b, c] = false := by with_unfolding_all rfl) : PT2 X (.Compare a [op, op'] [b, c] pos) (dChainT r r' ta tb tc) := by
  intro E pins s σ H τ G Q hE I h
  refine isTrue_chain (thnE ha hE I h fun x H1 dx G1 v s1 I1 m1 r1 rd1 q1 => test_link (thnE hb hE I1 q1 fun y H2 dy G2 u s2 I2' m2 r2 rd2 q2 => ?_)) hm
  refine thn (ho pins s2 σ H2 G2 x y dx dy v u _ I2'.inv I2'.ab r1 r2 (rd1.mono (m2.kp I1.ab)) rd2 q2) fun d s3 z => ?_
  obtain ⟨z, H3, dz, G3, I3, m3, r3, rd3, k, e, q3⟩ := z
  subst e
  cases rd3
  cases r3
  have m13 := (m1.trans m2).trans m3
  refine wpAny_truthy_bool ?_
  cases k with
  | false => exact ite_ff ⟨H3, G3, I3, m13, q3⟩
  | true =>
    have J3 : I2 X pins σ H3 τ G3 s3 := I2'.mv I3 m3
    refine ite_tt (test_last (thnE hc hE J3 q3 fun w' H4 dw G4 u4 s4 I4 m4 r4 rd4 q4 => ?_))
    refine thn (ho' pins s4 σ H4 G4 y w' dy dw u u4 _ I4.inv I4.ab r2 r4 ((rd2.mono (m3.kp I2'.ab)).mono (m4.kp J3.ab)) rd4 q4) fun d' s5 z => ?_
    obtain ⟨z2, H5, dz2, G5, I5, m5, r5, rd5, k2, e2, q5⟩ := z
    subst e2
    cases rd5
    cases r5
    exact wpAny_truthy_bool ⟨H5, G5, I5, (m13.trans m4).trans m5, q5⟩
end
end K2
end
section
namespace L2
open PySem PySem.Spec PyProof.Rows
set_option autoImplicit false
def IteN (K : PySem.W.Frag) (a : Addr) (n : Nat) : It :=
  ⟨fun i H => ∃ xs x, SqL K H a xs ∧ xs[i]? = some x,
   fun i H v H' => ∃ T y, v = .ref T ∧ H T = none ∧ H' = upd H T (.tup [.int ((n + i : Nat) : Int), y]) ∧ ∀ xs, SqL K H a xs → xs[i]? = some y,
   fun i H => ∃ xs, SqL K H a xs ∧ xs.length ≤ i⟩
theorem draws_at {prog : Program} {w : World} {A : Around} {it l : Addr} {items : Array Value} (n : Nat) (hh : A.handled = none) (hil : l ≠ it) :
    Draws prog w A it [it, l] (n + items.size) (fun j x => ∃ i, j = n + i ∧ items[i]? = some x) (fun j h => ∃ i, j = n + i ∧ h.IsListIter it l i ∧ h.IsList l items) where
  live := fun j h ⟨i, _, ⟨o, ho, _⟩, _⟩ => ⟨o, ho⟩
  frame := fun j h h' ⟨i, e, hit, hl⟩ k => ⟨i, e, hit.at fun o q => k it (by simp) o q, let ⟨o, ho, r⟩ := hl; ⟨o, k l (by simp) o ho, r⟩⟩
  item := fun j s Q E hj ⟨i, e, hit, hl⟩ hQ => by
    have hi : i < items.size := by omega
    refine wpAny_nextOf_list_item hit hl (x := items[i]) (by simp [hi]) fun h' hit' hs => hQ _ h' s.toks ⟨i, e, by simp [hi]⟩ ⟨i + 1, by omega, hit', ?_⟩ hs
    obtain ⟨o, ho, r⟩ := hl
    exact ⟨o, (hs.2 l hil).trans ho, r⟩
  done := fun s Q E ⟨i, e, hit, hl⟩ hE => by
    have hi : i = items.size := by omega
    exact wpAny_nextOf_list_end hh hit hl (by simp [hi]) hE
theorem draws_end {prog : Program} {w : World} {A : Around} {it l : Addr} {items : Array Value} {n : Nat} (hh : A.handled = none) (hx : items[n]? = none) :
    Draws prog w A it [it, l] n (fun _ _ => True) (fun j h => j = n ∧ h.IsListIter it l n ∧ h.IsList l items) where
  live := fun j h ⟨_, ⟨o, ho, _⟩, _⟩ => ⟨o, ho⟩
  frame := fun j h h' ⟨e, hit, hl⟩ k => ⟨e, hit.at fun o q => k it (by simp) o q, let ⟨o, ho, r⟩ := hl; ⟨o, k l (by simp) o ho, r⟩⟩
  item := fun j s Q E hj ⟨e, _, _⟩ hQ => absurd hj (by omega)
  done := fun s Q E ⟨_, hit, hl⟩ hE => wpAny_nextOf_list_end hh hit hl hx hE
theorem turn_enumN {P : Program} {w : World} {K : PySem.W.Frag} {elts : List Expr} {kk : Nat} {pos : Pos} (n : Nat) (a e it : Addr) (hne : e ≠ it) :
    Turn P w K (.Tuple elts kk pos) (IteN K a n) [e, it] e (fun i h => (∃ old, IsEnum h e it ((n + i : Nat) : Int) old) ∧ h.IsListIter it a i) where
  mem := by simp
  obj := fun i h ⟨⟨old, he⟩, hit⟩ b hb => by
    rcases List.mem_cons.mp hb with rfl | hb
    · exact ⟨_, he, fun v z => by cases z⟩
    · have e : b = it := by simpa using hb
      subst e
      obtain ⟨o, e, c, d⟩ := hit
      exact ⟨o, e, fun v z => by rw [d] at z; cases z⟩
  keep := fun i h h' ⟨⟨old, he⟩, hit⟩ k => ⟨⟨old, k e (by simp) _ he⟩, hit.at fun o q => k it (by simp) o q⟩
  item := by
    intro X hP hw hK hc i pins s σ H E I hf st hg
    obtain ⟨⟨old, he⟩, hit⟩ := st
    subst hP hw hK
    obtain ⟨xs, x, hq, hx⟩ := hg
    obtain ⟨its, rv, p, hz⟩ := I.list hq
    obtain ⟨u, hu, ru⟩ := rv.get hx
    have hTn : H s.heap.objs.size = none := I.hok.fresh (Nat.le_refl _)
    have heT : e ≠ s.heap.objs.size := Nat.ne_of_lt (Heap.lt_size he)
    have hiT : it ≠ s.heap.objs.size := by obtain ⟨o, q, _⟩ := hit; exact Nat.ne_of_lt (Heap.lt_size q)
    obtain ⟨ol, hol, hcl, hdl⟩ := p.isList
    have hit0 := hit
    obtain ⟨oi, hoi, hci, hdi⟩ := hit0
    have hil : a ≠ it := fun z => by
      rw [z, hoi] at hol; cases hol; rw [hci] at hcl; exact absurd hcl (by decide)
    have hea : e ∉ [it, a] := fun z => by
      rcases List.mem_cons.mp z with z | z
      · exact hne z
      · have z := List.mem_singleton.mp z
        rw [← z, he] at hol; cases hol; exact absurd (show Value.type "enumerate" = Value.type "list" from hcl) (by decide)
    have hlt : n + i < n + its.toArray.size := by
      have := (List.getElem?_eq_some_iff.mp hu).1
      simpa using this
    refine wpAny_pyNext_enum_itemD (draws_at (items := its.toArray) n (show X.A.in1.handled = none from I.ok.hd hc) hil) he ⟨i, rfl, hit, p.isList⟩ hlt hne hea fun u' h' tk ⟨i', ei, hu'⟩ ho ⟨i2, e2, hit', _⟩ hT hsz kk => ?_
    have ei' : i' = i := by omega
    have ei2 : i2 = i + 1 := by omega
    subst ei' ei2
    have : u' = u := by
      rw [List.getElem?_toArray, hu] at hu'
      exact (Option.some.inj hu').symm
    subst this
    refine ⟨_, rfl, ?_⟩
    have I1 : Inv X pins σ (upd H s.heap.objs.size (.tup [.int ((n + i' : Nat) : Int), x])) { s with heap := h', toks := tk + 1 } :=
      I.turnedT (fp := [e, it]) hf (fun b o hb q => kk b o (fun z => hb (by simp [z])) (fun z => hb (by simp [z])) q) (Nat.le_refl _)
        ⟨by show 2 ≤ sizeLine; decide, [.int ((n + i' : Nat) : Int) tk, u'], .cons ⟨_, rfl⟩ (.cons ru .nil), ⟨_, hT, rfl, _, rfl⟩⟩
    refine wpAny_letOwnedTupleGo_enum (s := { s with heap := h', toks := tk + 1 }) ho fun h2 he2 hs2 => ?_
    have f1 : ∀ b ∈ [e, it], FpOk X pins (upd H s.heap.objs.size (.tup [.int ((n + i' : Nat) : Int), x])) b := fun b hb => (hf b hb).upd (by
      rcases List.mem_cons.mp hb with rfl | hb
      · exact heT
      · rw [List.mem_singleton.mp hb]; exact hiT)
    have I2 : Inv X pins σ (upd H s.heap.objs.size (.tup [.int ((n + i' : Nat) : Int), x])) { s with heap := h2, toks := tk + 1 } :=
      Inv.turnedL (s := { s with heap := h', toks := tk + 1 }) (t' := tk + 1) (fp := [e, it]) I1 f1 fun b o hb q => (hs2.2 b (fun z => hb (by simp [z]))).trans q
    refine ⟨.ref s.heap.objs.size, _, I2, rfl, ⟨_, x, rfl, hTn, rfl, fun ys hy => by rw [I.list_inj hy hq]; exact hx⟩, ⟨⟨u', ?_⟩, ?_⟩, fun b hb => (f1 b hb).1⟩
    · have : ((n + (i' + 1) : Nat) : Int) = ((n + i' : Nat) : Int) + 1 := by omega
      rw [this]; exact he2
    · exact hit'.at fun o q => (hs2.2 it (Ne.symm hne)).trans q
  done := by
    intro X hP hw hK hc i pins s σ H E I hf st hg
    obtain ⟨⟨old, he⟩, hit⟩ := st
    subst hP hw hK
    obtain ⟨xs, hq, hx⟩ := hg
    obtain ⟨its, rv, p, hz⟩ := I.list hq
    have hl := rv.length
    refine wpAny_pyNext_enum_endD (draws_end (items := its.toArray) (n := i) (show X.A.in1.handled = none from I.ok.hd hc) (by simp; omega)) he ⟨rfl, hit, p.isList⟩ fun h' eb => ⟨rfl, ?_⟩
    exact I.turnedL (t' := s.toks) (fp := [e, it]) hf fun b o hb q => eb b o (fun z => hb (by simp [z])) q
  self := fun A i s Q E ⟨⟨old, he⟩, _⟩ h => wpAny_pyIter_enum he h
end L2
end
section
namespace L2
open PySem PySem.Spec PyProof.Rows
open AutoSeq1 (wpAny_loadPart')
set_option autoImplicit false
theorem meets_enumN (l : Addr) (items : Array Value) (n : Nat) (dct : Option Addr) (sl : Array (Option Value)) (t : Tok) :
    Meets (Builtin.«enumerate.__new__» ⟨[.type "enumerate", .ref l], [("start", .int 1 t)]⟩) (fun _ R s => s.heap.get? l = some { cls := .type "list", dict := dct, data := .seq items n, slots := sl } ∧
      R (.ok (.ret (.ref (s.heap.push { cls := .type "list_iterator", data := .fields #[.ref l, .int 0 0] }).objs.size)))
        { s with heap := (s.heap.push { cls := .type "list_iterator", data := .fields #[.ref l, .int 0 0] }).push { cls := .type "enumerate", data := .fields #[.none, .bool false, .ref s.heap.objs.size, rawInt 1, .none, .none] } }) :=
  .of_wp fun prog w A R s h => by
    obtain ⟨hp, g, d, tk, os⟩ := s; obtain ⟨hl, h⟩ := h
    have hsub := sub_enumerate
    have hL : Heap.IsList (Shared.heap ⟨hp, g, d, tk, os⟩) l items := ⟨_, hl, rfl, n, rfl⟩
    wp_walk using wpAny_loadPart' hl
    refine wpAny_stack_any fun st => wpAny_pure ?_
    split
    · rename_i c _ _ _ _ _
      cases (c == Value.type "enumerate")
      · wp_walk using wpAny_loadPart' hl, wpAny_pyIter_list hL
        exact ⟨_, rfl, h⟩
      · wp_walk using wpAny_loadPart' hl, wpAny_pyIter_list hL
        exact ⟨_, rfl, h⟩
    · wp_walk using wpAny_loadPart' hl, wpAny_pyIter_list hL
      exact ⟨_, rfl, h⟩
theorem typeCall_enumN (a : Value) (k : Int) (t : Tok) : checkTypeCall "enumerate" ⟨[a], [("start", .int k t)]⟩ = pure () := by kernel_rfl
theorem newCall_enumN (a : Value) (k : Int) (t : Tok) : checkBuiltinCall "enumerate.__new__" ⟨[.type "enumerate", a], [("start", .int k t)]⟩ = pure () := by kernel_rfl
theorem init_enumN (o a : Value) (k : Int) (t : Tok) : argsOk "object.__init__" ⟨[o, a], [("start", .int k t)]⟩ := by unfold argsOk; rw [signature?_of (id := "object.__init__") (n := ['_', '_', 't', 'i', 'n', 'i', '_', '_']) (o := ['t', 'c', 'e', 'j', 'b', 'o']) (by kernel_rfl) F.owner_object]; kernel_rfl
theorem init_meetsN (self a : Value) (k : Int) (t : Tok) : Meets (Builtin.«object.__init__» ⟨[self, a], [("start", .int k t)]⟩) (fun _ R s => s.TypeIs self "enumerate" ∧ R (.ok (.ret .none)) s) := by
  refine Meets.of_wp fun prog w A R s hs => ?_
  obtain ⟨hT, hq⟩ := hs
  have hl := F.called_enumerate.init.lookup
  have hm := F.called_enumerate.made
  have hne : (some "enumerate.__new__" != some "object.__new__") = true := by decide
  repeat (any_goals (first | assumption | wp_step))
  exact ⟨_, rfl, hq⟩
section
variable {prog : Program} {w : World} {A : Around} {E : Value → Shared → Prop} {s : Shared}
set_option maxRecDepth 100000 in
theorem call_enumN {l : Addr} {items : Array Value} {t : Tok} {Q : Value → Shared → Prop} (hL : s.heap.IsList l items)
    (h : ∀ h', IsEnum h' (s.heap.objs.size + 1) s.heap.objs.size 1 .none → h'.IsListIter s.heap.objs.size l 0 →
      (∀ b o, s.heap.get? b = some o → h'.get? b = some o) → Q (.ref (s.heap.objs.size + 1)) { s with heap := h' }) :
    wpAny (model prog w) A (call (.type "enumerate") [.ref l] [("start", .int 1 t)]) Q E s := by
  obtain ⟨⟨c, dct, dt, sl⟩, hl, hc, n, hd⟩ := hL
  replace hc : c = .type "list" := hc
  replace hd : dt = .seq items n := hd
  subst hc hd
  obtain ⟨c, tl, hmro⟩ := F.called_enumerate.mro
  have hmade := F.called_enumerate.made
  have hsub := F.called_enumerate.sub
  refine wpAny_call (codeAny_of_tree (show wpAny _ _ (callAny (.type "enumerate") _) _ _ _ from ?_))
  refine wpAny_pure ⟨Code.quiet_builtin _ (by decide +kernel), codeAny_builtin F.entry_type_call ?_⟩
  rw [Around.under_plain (weight_type_call_type "enumerate" [.ref l] [("start", .int 1 t)]) (units_type_call_type "enumerate" [.ref l] [("start", .int 1 t)])]
  have h1 := F.called_enumerate.notType
  have h2 := F.called_enumerate.canCreate
  have hct := typeCall_enumN (.ref l) 1 t
  have hcn := newCall_enumN (.ref l) 1 t
  repeat (any_goals (first | assumption | wp_step))
  have hz : (s.heap.push { cls := .type "list_iterator", data := .fields #[.ref l, .int 0 0] }).objs.size = s.heap.objs.size + 1 := Heap.size_push ..
  refine codeAny_mono (codeAny_call_builtin F.called_enumerate.plain F.entry_enumerate_new (wpAny_of_eq hcn (meets_enumN l items n dct sl t prog w A.in1 (wants (fun obj s₁ => s₁.TypeIs obj "enumerate" ∧ Q obj s₁) E) s ⟨hl, ?_⟩))) fun r s₁ hr => ?_
  · show _ ∧ _
    rw [hz]
    have he : IsEnum ((s.heap.push { cls := .type "list_iterator", data := .fields #[.ref l, .int 0 0] }).push
        { cls := .type "enumerate", data := .fields #[.none, .bool false, .ref s.heap.objs.size, rawInt 1, .none, .none] }) (s.heap.objs.size + 1) s.heap.objs.size 1 .none := by
      have := Heap.get?_push_size (s.heap.push { cls := .type "list_iterator", data := .fields #[.ref l, .int 0 0] })
        (o := { cls := .type "enumerate", data := .fields #[.none, .bool false, .ref s.heap.objs.size, rawInt 1, .none, .none] }) rfl
      rw [hz] at this; exact this
    exact ⟨⟨_, he, rfl⟩, h _ he ⟨_, Heap.get?_push_of_some _ (Heap.get?_push_size _ rfl), rfl, rfl⟩ fun b o x => Heap.get?_push_of_some _ (Heap.get?_push_of_some _ x)⟩
  · cases r with
    | error e => exact hr
    | ok fl =>
      cases fl with
      | ret obj =>
        obtain ⟨hT, hq⟩ := hr
        have hli := F.called_enumerate.init.lookup
        have hbi := F.called_enumerate.init.bind obj
        repeat (any_goals (first | assumption | wp_step))
        refine codeAny_mono (codeAny_call_builtin F.called_enumerate.init.plain F.entry_object_init (F.called_enumerate.init.check _ _ _ _ _ _ _ _ hT (init_enumN obj (.ref l) 1 t) (init_meetsN obj (.ref l) 1 t prog w A.in1 (wants (fun r s₂ => r = .none ∧ Q obj s₂) E) s₁ ⟨hT, rfl, hq⟩))) fun r₂ s₂ hr₂ => ?_
        cases r₂ with
        | error e => exact hr₂
        | ok fl₂ =>
          cases fl₂ with
          | ret r =>
            obtain ⟨rfl, hq⟩ := hr₂
            repeat (any_goals (first | assumption | wp_step))
          | _ => exact hr₂.elim
      | _ => exact hr.elim
end
end L2
end
section
namespace K2
open PySem PySem.Spec PyProof.Rows L2
set_option autoImplicit false
section
theorem callWith_type_kw {M : Model} {A : Around} {E : Value → Shared → Prop} {s : Shared} {pos : Pos} {T : String} {args : List (Bool × Sem Value)} {keywords : List (Option Str × Sem Value)} {Q : Value → Shared → Prop}
    (hplain : args.any (·.1) = false) (hkw : keywords.any (·.1.isNone) = false)
    (h : wpAny M A (evalArgs (.type T) true args keywords) (fun a s₁ => wpAny M A (call (.type T) a.pos a.kw) Q E s₁) E s) :
    wpAny M A (callWith pos (.type T) [] args keywords) Q E s := by
  unfold callWith
  refine wpAny_bind (wpAny_holding (wpAny_mono h (fun a s₁ h₁ => wpAny_bind (wpAny_standAt ?_)) fun _ _ x => x))
  simp only [hplain, hkw, Bool.or_false]
  refine wpAny_bind (wpAny_pure ?_)
  exact wpAny_bind (wpAny_mono h₁ (fun r s₂ hr => wpAny_bind (wpAny_holding (wpAny_point (wpAny_pure hr)))) fun _ _ x => x)
variable {X : Cx} {elts : List Expr} {kk : Nat} {tpos : Pos} {a : Expr} {ta : TE2} {pos p kp p1 : Pos} {c1 : Nat}
theorem enum_itN {pins : List (Addr × Obj)} {σ : L2.St} {H H1 : Hp} {G G1 : Gp} {s1 : Shared} {l : Addr} {vs : List V} {ds : List D} {ok : Gp → Prop} {R : List D → (Gp → Prop) → Gp → Prop} {t : Tok} (I1 : Inv X pins σ H1 s1) (m : Mv X.K H G H1 G1) (hq : SqL X.K H1 l vs)
    (hk : ∀ H2 G2, Kp H1 H2 → AbH X.K H2 G2 → ok G2 → ∃ ws, SqL X.K H2 l ws ∧ RepDs X.K H2 ws ds) (q : R (enumD 1 ds) ok G1) :
    wpAny (model X.prog X.w) X.A (call (.type "enumerate") [.ref l] [("start", .int 1 t)]) (fun v s2 => wpAny (model X.prog X.w) X.A (pyIter v) (PIE2 X pins σ (.Tuple elts kk tpos) H G R) X.xe s2) X.xe s1 := by
  obtain ⟨its, rv, pl, hz⟩ := I1.list hq
  refine call_enumN pl.isList fun h' he hit kp => ?_
  refine wpAny_pyIter_enum he ?_
  refine ⟨_, [s1.heap.objs.size + 1, s1.heap.objs.size], _, _, H1, G1, enumD 1 ds, ok, rfl, I1.kept (t' := s1.toks) kp, m, turn_enumN 1 l _ _ (Nat.succ_ne_self _), ⟨⟨_, he⟩, hit⟩, fun b hb => ?_, fun i H2 G2 k ab o => ?_, q⟩
  · have hb' : s1.heap.objs.size ≤ b := by
      rcases List.mem_cons.mp hb with rfl | hb
      · omega
      · rw [List.mem_singleton.mp hb]; exact Nat.le_refl _
    exact I1.fpOk hb' (I1.hok.fresh hb')
  · obtain ⟨ws, hw, rd⟩ := hk H2 G2 k ab o
    refine ⟨fun d hd => ?_, fun hl => ⟨ws, hw, by rw [rd.length, ← enumD_len ds 1]; exact hl⟩⟩
    rw [enumD_get] at hd
    cases hdi : ds[i]? with
    | none => rw [hdi] at hd; cases hd
    | some d' =>
      rw [hdi] at hd
      obtain ⟨v, hv, r⟩ := rd.get hdi
      refine ⟨⟨ws, v, hw, hv⟩, fun x H3 ⟨T, y, ex, hT, e3, hy⟩ => ?_⟩
      subst ex e3
      have := hy ws hw
      rw [hv] at this
      cases this
      have ed : D.tup [.int ((1 + i : Nat) : Int), d'] = d := by simpa using hd
      subst ed
      exact ⟨.tup upd_same (.cons (.int _) (.cons (r.mono (.new hT)) .nil)), .hid ab hT⟩
theorem pi2_enumN (hg : Gl X "enumerate") (hm : X.mg "enumerate" = none) (ha : PE2 X a ta) (hs : starEach [a] X.env = [(false, eval a X.env)] := by rfl) :
    PI2 X (.Tuple elts kk tpos) (.Call (.Name "enumerate" p) [a] [⟨some "start", .Constant (.int 1) c1 p1, kp⟩] pos) (iEnumN ta 1) := by
  intro E pins s σ H τ G R hE I h
  have hA : PA2 X [a] (dCons ta dNil) := pa2_cons ha pa2_nil hs
  refine wpAny_Call_Name_kw (ld_blt I.inv hg hm bt_enumerate (callWith_type_kw ?_ rfl ?_))
  · rw [hs]; rfl
  rw [show backTo pos (starEach [a] X.env) = (false, eval a X.env) :: [] from by rw [hs]; rfl]
  refine evalArgs_kwB rfl ?_
  rw [show ((false, eval a X.env) :: [] : List (Bool × Sem Value)) = backTo pos (starEach [a] X.env) from by rw [hs]; rfl]
  refine thnA hA pos hE I (R := one1 fun x G1 => iEnumNAt x 1 G1 R) h fun vs H1 ds G1 us s1 I1 m1 r1 rd1 q1 => ?_
  refine kws_cons (wpAny_Constant_int (kws_nil ?_))
  have I1' : I2 X pins σ H1 τ G1 { s1 with toks := s1.toks + 1 } := I1.mv (I1.inv.tok _) (.refl I1.ab)
  match ds, q1 with
  | [x], q1 =>
    change iEnumNAt x 1 G1 R at q1
    obtain ⟨w, rfl, rw1⟩ := rd1.one
    obtain ⟨u, rfl, ru⟩ := r1.one
    show wpAny (model X.prog X.w) X.A (call (.type "enumerate") [u] [("start", .int 1 s1.toks)]) _ _ _
    cases rw1 with
    | rol hq rs => cases ru; exact enum_itN I1'.inv m1 hq.sq (fun H2 G2 k ab _ => ⟨_, (k.sqF hq).sq, rs.mono k⟩) q1
    | ref p =>
      cases ru
      unfold iEnumNAt at q1
      dsimp only at q1
      split at q1
      · rename_i ds e
        obtain ⟨vs, hv, rs⟩ := I1.ab.lst e
        refine enum_itN I1'.inv m1 (.of hv) (fun H2 G2 k ab o => ?_) q1
        obtain ⟨ws, hw, rw'⟩ := ab.lst o
        exact ⟨ws, .of hw, rw'⟩
      · exact q1.elim
    | tup _ _ => exact q1.elim
    | rodK _ _ => exact q1.elim
    | rodT _ _ => exact q1.elim
    | non => exact q1.elim
    | bl _ => exact q1.elim
    | int _ => exact q1.elim
    | str _ => exact q1.elim
    | exc _ => exact q1.elim
  | [], q1 => exact q1.elim
  | _ :: _ :: _, q1 => exact q1.elim
end
end K2
end
section
namespace K2
open PySem PySem.Spec PyProof.Rows L2
set_option autoImplicit false
section
variable {X : Cx}
variable {a : Expr} {ta : TE2} {pos p : Pos}
end
end K2
end
section
namespace K2
open PySem PySem.Spec PyProof.Rows L2
set_option autoImplicit false
theorem bt_abs : bootBuiltins "abs" = some (.builtin "abs") := by decide +kernel
section
variable {X : Cx} {a b tg : Expr} {ta tb : TE2} {p pos : Pos}
theorem pi2_range2 (hg : Gl X "range") (hm : X.mg "range" = none) (ha : PE2 X a ta) (hb : PE2 X b tb) (hs : starEach [a, b] X.env = (false, eval a X.env) :: starEach [b] X.env := by rfl) (hs2 : starEach [b] X.env = [(false, eval b X.env)] := by rfl) (hpl : (backTo pos (starEach [b] X.env)).any (·.1) = false := by rfl) : PI2 X tg (.Call (.Name "range" p) [a, b] [] pos) (iRng2 ta tb) := by
  intro E pins s σ H τ G R hE I h
  have hA : PA2 X [a, b] (dCons ta (dCons tb dNil)) := pa2_cons ha (pa2_cons hb pa2_nil hs2) hs
  refine Call_ (ld_blt I.inv hg hm boot_range (PyProof.Rows.callWith_type1 (thnA hA pos hE I (R := fun ds G1 => match ds with | [.int i, .int j] => (-(2 ^ 62) ≤ i ∧ i < 2 ^ 62 ∧ -(2 ^ 62) ≤ j ∧ j < 2 ^ 62) ∧ R (rangeD i (j - i).toNat) (fun _ => True) G1 | _ => False) ?_ fun vs H1 ds G1 us s1 I1 m1 r1 rd1 q1 => ?_) hs hpl))
  · show ta E τ G fun x G1 => tb E τ G1 fun y G2 => _
    have e : (fun (x : D) (G1 : Gp) => tb E τ G1 fun y G2 => match [x, y] with | [.int i, .int j] => (-(2 ^ 62) ≤ i ∧ i < 2 ^ 62 ∧ -(2 ^ 62) ≤ j ∧ j < 2 ^ 62) ∧ R (rangeD i (j - i).toNat) (fun _ => True) G2 | _ => False) = fun x G1 => tb E τ G1 fun y G2 => match x, y with | .int i, .int j => (-(2 ^ 62) ≤ i ∧ i < 2 ^ 62 ∧ -(2 ^ 62) ≤ j ∧ j < 2 ^ 62) ∧ R (rangeD i (j - i).toNat) (fun _ => True) G2 | _, _ => False := by
      funext x G1
      congr 1
      funext y G2
      cases x <;> cases y <;> rfl
    exact e ▸ h
  · split at q1
    · rename_i i j
      obtain ⟨w1, w2, rfl, rw1, rw2⟩ := rd1.two
      cases rw1; cases rw2
      obtain ⟨u1, u2, rfl, ru1, ru2⟩ := r1.two
      obtain ⟨t1, rfl⟩ := ru1
      obtain ⟨t2, rfl⟩ := ru2
      obtain ⟨⟨q1, q2, q3, q4⟩, q⟩ := q1
      exact call_range_2 (rng_it I1.inv m1 q1 q2 q3 q4 q)
    · exact q1.elim
end
end K2
end
section
set_option autoImplicit false
set_option linter.all false
set_option maxRecDepth 100000
set_option maxHeartbeats 4000000
namespace K2
open PySem (Str)
open Enc (enc)
theorem fz_enc {α : Type} [DecidableEq α] [Enc α] {G G1 : Gp} {p : Nat} {xs : List α} {Q : DK} (l : GLe G G1) (hp : G p = none) (h1 : G1 p = some (.lst (xs.map enc))) (q : Q (enc xs) G) : FzK G1 (.ref p) Q :=
  fz_rol l hp h1 (Fzs.same _) q
theorem for_enc {α : Type} {f : α → D} {g : TG2} {body : TS2} {ok : Gp → Prop} {xs : List α} {E : XK2} {K : Ends2} {τ : St2} {G : Gp} (I : List α → St2 → Gp → Prop)
    (h0 : I [] τ G) (hok : ∀ pre τ G, I pre τ G → ok G)
    (step : ∀ (pre : List α) (x : α) (post : List α) τ G (N : St2 → Gp → Prop), xs = pre ++ x :: post → I pre τ G → (∀ τ2 G2, I (pre ++ [x]) τ2 G2 → N τ2 G2) →
      g E (f x) τ G fun τ1 G1 => body E { K with nx := N, ct := N, bk := K.nx } τ1 G1)
    (fin : ∀ τ G, I xs τ G → K.nx τ G) : forGo g body ok (xs.map f) E K τ G := by
  have main : ∀ (post pre : List α) τ G, xs = pre ++ post → I pre τ G → forGo g body ok (post.map f) E K τ G := by
    intro post
    induction post with
    | nil =>
      intro pre τ G e h
      rw [List.append_nil] at e
      subst e
      exact ⟨hok _ _ _ h, fin _ _ h⟩
    | cons d post ih =>
      intro pre τ G e h
      refine ⟨hok _ _ _ h, ?_⟩
      exact step pre d post τ G _ e h fun τ2 G2 h2 => ih (pre ++ [d]) τ2 G2 (by rw [e, List.append_assoc]; rfl) h2
  exact main xs [] τ G rfl h0
theorem comp_enc {α : Type} {f : α → D} {g : TG2} {c : Option TT2} {e : TE2} {ok : Gp → Prop} {xs : List α} {E : XK2} {τ : St2} {G : Gp} {Q : List D → Gp → Prop} (I : List α → List D → St2 → Gp → Prop)
    (h0 : I [] [] τ G) (hok : ∀ pre acc τ G, I pre acc τ G → ok G)
    (step : ∀ (pre : List α) (x : α) (post : List α) (acc : List D) τ G (N : St2 → List D → Gp → Prop), xs = pre ++ x :: post → I pre acc τ G → (∀ τ2 acc2 G2, I (pre ++ [x]) acc2 τ2 G2 → N τ2 acc2 G2) →
      g E (f x) τ G fun τ1 G1 => match c with
        | none => e E τ1 G1 fun x G2 => N τ1 (acc ++ [x]) G2
        | some c => c E τ1 G1 fun k G2 => if k = true then e E τ1 G2 fun x G3 => N τ1 (acc ++ [x]) G3 else N τ1 acc G2)
    (fin : ∀ acc τ G, I xs acc τ G → Q acc G) : compGo g c e ok (xs.map f) E τ G [] Q := by
  have main : ∀ (post pre : List α) (acc : List D) τ G, xs = pre ++ post → I pre acc τ G → compGo g c e ok (post.map f) E τ G acc Q := by
    intro post
    induction post with
    | nil =>
      intro pre acc τ G e h
      rw [List.append_nil] at e
      subst e
      exact ⟨hok _ _ _ _ h, fin _ _ _ h⟩
    | cons d post ih =>
      intro pre acc τ G e' h
      refine ⟨hok _ _ _ _ h, ?_⟩
      have := step pre d post acc τ G (fun τ2 acc2 G2 => compGo g c e ok (post.map f) E τ2 G2 acc2 Q) e' h fun τ2 acc2 G2 h2 => ih (pre ++ [d]) acc2 τ2 G2 (by rw [e', List.append_assoc]; rfl) h2
      cases c with
      | none => exact this
      | some c => exact this
  exact main xs [] [] τ G rfl h0
theorem iAt_enc {α : Type} [DecidableEq α] [Enc α] {xs : List α} {G : Gp} {R : List D → (Gp → Prop) → Gp → Prop} (h : R (xs.map enc) (fun _ => True) G) : iAt (enc xs) G R := h
theorem szl {n : Nat} (h : n ≤ 1000) : n ≤ SZ := by unfold SZ; omega
theorem szlt {n : Nat} (h : n ≤ 1000) : n < SZ := by unfold SZ; omega
abbrev Rows := List (List T3)
def T3.s (p : T3) : T2 := ⟨p.a, p.b⟩
structure Dr (rows : Rows) : Prop where
  nd : (rows.flatten.map T3.s).Nodup
  way : ∀ p ∈ rows.flatten, p.b = 0 ∨ p.b = 1
  hand : ∀ p ∈ rows.flatten, p.c = 1 ∨ p.c = -1
  mate : ∀ p ∈ rows.flatten, (⟨p.a, 1 - p.b, p.c⟩ : T3) ∈ rows.flatten
  few : rows.flatten.length ≤ 24
  str : rows.length ≤ 3
namespace P
theorem enc_T3 (p : T3) : (enc p : D) = .tup [.int p.a, .int p.b, .int p.c] := rfl
theorem at1 {a b : D} {r : List D} : atI (a :: b :: r) 1 = some b := by
  rw [atI_nat _ (by omega) (by simp; omega)]; rfl
end P
end K2
end
section
set_option autoImplicit false
set_option linter.all false
set_option maxRecDepth 100000
set_option maxHeartbeats 4000000
namespace K2
open PySem (Str)
open Enc (enc)
inductive Cn {α : Type} (ps : List (α × α)) : α → α → Prop
  | refl (x : α) : Cn ps x x
  | pair {x y : α} : (x, y) ∈ ps → Cn ps x y
  | symm {x y : α} : Cn ps x y → Cn ps y x
  | trans {x y z : α} : Cn ps x y → Cn ps y z → Cn ps x z
section
variable {α : Type} {ps : List (α × α)}
end
theorem rEq_enc {α : Type} [DecidableEq α] [Enc α] {neg : Bool} {x y : α} {G : Gp} {Q : DK} (hd : Enc.dep α ≤ 8) (q : Q (.bl (if neg then !decide (x = y) else decide (x = y))) G) : rEq neg (enc x) (enc y) G Q := by
  refine ⟨enc x, enc y, Enc.sn _ _ _ hd, Enc.sn _ _ _ hd, ?_⟩
  rw [Enc.eqv]; exact q
class EncMin (α : Type) [DecidableEq α] [Enc α] [EncOrd α] where
  mn : ∀ {x : D} {G : Gp} {xs : List α} {Q : DK}, itemsOf x G = some (xs.map enc) → xs ≠ [] → (∀ m ∈ xs, (∀ y ∈ xs, leO m y = true) → Q (enc m) G) → cMin [x] G Q
theorem fold_least {α : Type} [DecidableEq α] [Enc α] [EncOrd α] : ∀ (r : List α) (a : α), r.foldl (fun m x => if EncOrd.lt x m = true then x else m) a ∈ a :: r ∧ ∀ y ∈ a :: r, leO (r.foldl (fun m x => if EncOrd.lt x m = true then x else m) a) y = true
  | [], a => ⟨by simp, fun y hy => by rw [List.mem_singleton.mp hy]; unfold leO; rw [List.foldl_nil, EncOrd.irr]; rfl⟩
  | b :: r, a => by
    rw [List.foldl_cons]
    by_cases c : EncOrd.lt b a = true
    · rw [if_pos c]
      obtain ⟨h1, h2⟩ := fold_least r b
      refine ⟨List.mem_cons_of_mem _ h1, fun y hy => ?_⟩
      rcases List.mem_cons.mp hy with rfl | hy
      · refine leO_trans _ _ _ (h2 b (by simp)) ?_
        unfold leO
        cases q : EncOrd.lt y b with
        | false => rfl
        | true => have := EncOrd.trans _ _ _ q c; rw [EncOrd.irr] at this; cases this
      · exact h2 y hy
    · rw [if_neg c]
      obtain ⟨h1, h2⟩ := fold_least r a
      refine ⟨?_, fun y hy => ?_⟩
      · rcases List.mem_cons.mp h1 with h | h
        · rw [h]; simp
        · exact List.mem_cons_of_mem _ (List.mem_cons_of_mem _ h)
      · rcases List.mem_cons.mp hy with rfl | hy
        · exact h2 y (by simp)
        · rcases List.mem_cons.mp hy with rfl | hy
          · refine leO_trans _ _ _ (h2 a (by simp)) ?_
            unfold leO; simpa using c
          · exact h2 y (List.mem_cons_of_mem _ hy)
instance : EncMin Int where
  mn := by
    intro x G xs Q hi hne k
    cases xs with
    | nil => exact absurd rfl hne
    | cons a r =>
      obtain ⟨h1, h2⟩ := fold_least r a
      refine .inl ⟨a :: r, _, hi, rfl, ?_⟩
      have : (fun (m x : Int) => if x < m then x else m) = fun m x => if EncOrd.lt x m = true then x else m := by
        funext m x
        show (if x < m then x else m) = if decide (x < m) = true then x else m
        simp
      show Q (enc (r.foldl (fun m x => if x < m then x else m) a)) G
      rw [this]
      exact k _ h1 h2
theorem lexO_lexLt : ∀ (x y : List Int), lexO (fun a b => decide (a < b)) x y = lexLt x y
  | [], [] => rfl
  | [], _ :: _ => rfl
  | _ :: _, [] => rfl
  | a :: x, b :: y => by simp only [lexO, lexLt, lexO_lexLt x y]
instance : EncMin T3 where
  mn := by
    intro x G xs Q hi hne k
    cases xs with
    | nil => exact absurd rfl hne
    | cons a r =>
      obtain ⟨h1, h2⟩ := fold_least r a
      have ei : itemsOf x G = some (((a :: r).map T3.l).map tI) := by rw [hi, List.map_map]; rfl
      refine .inr ⟨(a :: r).map T3.l, _, ei, rfl, ?_⟩
      have : ∀ (r : List T3) (a : T3), (r.map T3.l).foldl (fun m x => if lexLt x m = true then x else m) a.l = (r.foldl (fun m x => if EncOrd.lt x m = true then x else m) a).l := by
        intro r
        induction r with
        | nil => intro a; rfl
        | cons b r ih =>
          intro a
          rw [List.map_cons, List.foldl_cons, List.foldl_cons]
          have e : (if lexLt b.l a.l = true then b.l else a.l) = (if EncOrd.lt b a = true then b else a).l := by
            have : EncOrd.lt b a = lexLt b.l a.l := lexO_lexLt _ _
            rw [this]
            split <;> rfl
          rw [e]; exact ih _
      rw [this r a]
      exact k _ h1 h2
namespace P
section
variable {α : Type} [DecidableEq α] [Enc α] [EncOrd α] [EncKey α] [EncMin α]
structure GI (ms : List α) (ps : List (α × α)) (l : List (α × List α)) : Prop where
  len : l.length ≤ 64
  at' : ∀ m ∈ ms, ∃ g, aget l m = some g ∧ g.Nodup ∧ ∀ x, x ∈ g ↔ Cn ps m x
end
end P
end K2
end
section
set_option autoImplicit false
set_option linter.all false
set_option maxRecDepth 100000
set_option maxHeartbeats 4000000
namespace K2
open PySem (Str)
open Enc (enc)
namespace P
variable {rows : Rows}
end P
end K2
end
section
set_option autoImplicit false
set_option linter.all false
set_option maxRecDepth 100000
set_option maxHeartbeats 4000000
namespace K2
open PySem (Str)
open Enc (enc)
namespace P
variable {rows : Rows}
end P
end K2
end
section
set_option autoImplicit false
set_option linter.all false
set_option maxRecDepth 100000
set_option maxHeartbeats 4000000
namespace K2
open PySem (Str)
open Enc (enc)
namespace K12
open K2.P
def rd_law_cell : TS2 :=
  (dSeq (dIfS (dTru (dBin rLt (dVar 1) (dCB cLen (dCons (dVar 0) dNil)))) (dRet (dFz (dBin rIx (dVar 0) (dVar 1)))) dNext)
  (dRet (dFz (dC (.int 0)))))
def cellI (ns : List Int) (k : Int) : Int := ns.getD k.toNat 0
def sp_law_cell : Sp2 := fun ds G Q _ => ∃ (ns : List Int) (k : Int), ds = [.rol (ns.map D.int), .int k] ∧ 0 ≤ k ∧ Q (.int (cellI ns k)) G
theorem OK_law_cell (ds : List D) (G : Gp) (Q : DK) (h : sp_law_cell ds G Q fun _ _ => False) : rd_law_cell (fun _ _ => False) (ends Q) (start2 2 ds) G := by
  obtain ⟨ns, k, rfl, h0, q⟩ := h
  unfold rd_law_cell
  simp only [dSeq, dIfS, start2, List.map_cons, List.map_nil, List.length_cons, List.length_nil, List.cons_append, List.nil_append, dRet, dFz, dBin, dVar, List.getElem?_cons_zero, List.getElem?_cons_succ, ends, rIx_rolM, dNext, dC, dTru_at, dCB, dCons, dNil, cLen_rol, rLt_int, truAt_bl]
  split
  · rename_i h
    have h1 : k < (ns.map D.int).length := by simpa using h
    rw [atI_nat _ h0 h1]
    simp only [List.getElem_map]
    rw [List.length_map] at h1
    have e : cellI ns k = ns[k.toNat] := by unfold cellI; rw [List.getD_eq_getElem?_getD, List.getElem?_eq_getElem (by omega)]; rfl
    rw [← e]; exact fz_id q
  · rename_i h
    have h1 : ¬ k < (ns.map D.int).length := by simpa using h
    rw [List.length_map] at h1
    have e : cellI ns k = 0 := by unfold cellI; rw [List.getD_eq_getElem?_getD, List.getElem?_eq_none (by omega)]; rfl
    rw [← e]; exact fz_id q
def rd_law_whole : TS2 :=
  (dRet (dFz (dAndV (dIsi "int" (dVar 0)) (dNotV (dIsi "bool" (dVar 0))))))
def sp_law_whole : Sp2 := fun ds G Q _ => ∃ i : Int, ds = [.int i] ∧ Q (.bl true) G
theorem OK_law_whole (ds : List D) (G : Gp) (Q : DK) (h : sp_law_whole ds G Q fun _ _ => False) : rd_law_whole (fun _ _ => False) (ends Q) (start2 1 ds) G := by
  obtain ⟨i, rfl, q⟩ := h
  unfold rd_law_whole
  simp only [dRet, dFz, start2, List.map_cons, List.map_nil, List.length_cons, List.length_nil, List.cons_append, List.nil_append, ends, dAndV_at, dNotV_at, dIsi_at, dVar, List.getElem?_cons_zero, isAt_int, truAt_bl]
  simpa using fz_id q
def rd_law_part : TS2 :=
  (dRet (dFz (dBin rMod (dBin rMod (dBin rMul (dVar 0) (dC (.int 48271))) (dVar 1)) (dVar 2))))
def part (c p m : Int) : Int := c * 48271 % p % m
def sp_law_part : Sp2 := fun ds G Q _ => ∃ c p m : Int, ds = [.int c, .int p, .int m] ∧ (0 < p ∧ 0 < m) ∧ Q (.int (part c p m)) G
theorem OK_law_part (ds : List D) (G : Gp) (Q : DK) (h : sp_law_part ds G Q fun _ _ => False) : rd_law_part (fun _ _ => False) (ends Q) (start2 3 ds) G := by
  obtain ⟨c, p, m, rfl, ⟨hp, hm⟩, q⟩ := h
  unfold rd_law_part
  simp only [dRet, dFz, dBin, dVar, start2, List.map_cons, List.map_nil, List.length_cons, List.length_nil, List.cons_append, List.nil_append, List.getElem?_cons_zero, dC, List.getElem?_cons_succ, ends, rMul_int, rMod_int]
  exact ⟨.inr ⟨by decide, by decide⟩, hp, hm, fz_id q⟩
theorem part_lo (c p : Int) {m : Int} (h : 0 < m) : 0 ≤ part c p m := Int.emod_nonneg _ (by omega)
theorem part_hi (c p : Int) {m : Int} (h : 0 < m) : part c p m < m := Int.emod_lt_of_pos _ h
structure HR (G G' : Gp) (p0 : Nat) (as : List Nat) (rs : Rows) : Prop where
  le : GLe G G'
  fp : G p0 = none
  gp : G' p0 = some (.lst (as.map D.ref))
  np : p0 ∉ as
  nd : as.Nodup
  fr : ∀ a ∈ as, G a = none
  len : as.length = rs.length
  at' : ∀ (i a : Nat) (r : List T3), as[i]? = some a → rs[i]? = some r → G' a = some (.lst (r.map enc))
structure MI (st : Int) (n : Nat) (name : Int) (L : List T3) : Prop where
  off : ∃ off : Int, 0 ≤ off ∧ off ≤ 83 * n ∧ name = (st + off) % 999 ∧ ∀ p ∈ L, ∃ o : Int, 0 < o ∧ o ≤ off ∧ p.a = (st + o) % 999 + 1
  nd : (L.map T3.s).Nodup
  way : ∀ p ∈ L, p.b = 0 ∨ p.b = 1
  hand : ∀ p ∈ L, p.c = 1 ∨ p.c = -1
  mate : ∀ p ∈ L, (⟨p.a, 1 - p.b, p.c⟩ : T3) ∈ L
  len : L.length = 2 * n
theorem iAt_of' {G G2 : Gp} {d : D} {ds : List D} {R : List D → (Gp → Prop) → Gp → Prop} (h : IsL G d ds) (l : GLe G G2) (k : ∀ ok : Gp → Prop, (∀ G', GLe G G' → ok G') → R ds ok G2) : iAt d G2 R := by
  rcases h with rfl | ⟨a, rfl, e⟩
  · exact k _ fun _ _ => trivial
  · rw [iAt_lst (l a _ e)]; exact k _ fun G' l => l a _ e
end K12
end K2
end
section
set_option autoImplicit false
set_option linter.all false
namespace K2
namespace K66
def ab (c : Int) : Int := if c < 0 then -c else c
def stp (p c : Int) : Int := if p = ab c then ab c + 1 else if p = ab c + 1 then ab c else p
def psg (n c p : Int) : T3 := ⟨n, if decide (p = ab c + 1) = decide (c > 0) then 0 else 1, if c > 0 then 1 else -1⟩
def dwn (n : Int) : List Int → Int → List T3
  | [], _ => []
  | c :: cs, p => (if p = ab c ∨ p = ab c + 1 then [psg n c p] else []) ++ dwn (n + 1) cs (stp p c)
def las : List Int → Int → Int
  | [], p => p
  | c :: cs, p => las cs (stp p c)
theorem stp_inj (c : Int) {p q : Int} (h : stp p c = stp q c) : p = q := by
  unfold stp at h
  split at h <;> split at h <;> (try split at h) <;> omega
theorem las_inj : ∀ (cs : List Int) {p q : Int}, las cs p = las cs q → p = q
  | [], _, _, h => h
  | c :: cs, _, _, h => stp_inj c (las_inj cs h)
theorem stp_in {n c p : Int} (h1 : 1 ≤ ab c) (h2 : ab c < n) (hp : 1 ≤ p ∧ p ≤ n) : 1 ≤ stp p c ∧ stp p c ≤ n := by
  unfold stp
  split
  · omega
  · split <;> omega
theorem las_in {n : Int} : ∀ (cs : List Int) {p : Int}, (∀ c ∈ cs, 1 ≤ ab c ∧ ab c < n) → 1 ≤ p ∧ p ≤ n → 1 ≤ las cs p ∧ las cs p ≤ n
  | [], _, _, hp => hp
  | c :: cs, p, h, hp => las_in cs (fun x hx => h x (List.mem_cons_of_mem _ hx)) (stp_in (h c (by simp)).1 (h c (by simp)).2 hp)
theorem dwn_len : ∀ (cs : List Int) (n p : Int), (dwn n cs p).length ≤ cs.length
  | [], _, _ => Nat.le_refl _
  | c :: cs, n, p => by
    unfold dwn
    rw [List.length_append, List.length_cons]
    have := dwn_len cs (n + 1) (stp p c)
    split <;> simp <;> omega
variable {α : Type}
def rnd (f : Int → Int) (r : Int → List α) : Nat → Int → List Int → List α → List α × List Int
  | 0, _, tops, ps => (ps, tops)
  | k + 1, p, tops, ps => if p ∈ tops then (ps, tops) else rnd f r k (f p) (tops ++ [p]) (ps ++ r p)
def cls (f : Int → Int) (r : Int → List α) : List Int → List (List α) → List Int → List (List α)
  | [], rows, _ => rows
  | t :: ts, rows, met => if t ∈ met then cls f r ts rows met else
    let s := rnd f r 4 t [] []
    cls f r ts (rows ++ [s.1]) (met ++ s.2)
def due (f : Int → Int) (r : Int → List α) : List Int → List (List α) → List Int → List (List α)
  | [], rows, _ => rows
  | t :: ts, rows, met => if t ∈ met then due f r ts rows met else
    let s := rnd f r 4 t met []
    due f r ts (rows ++ [s.1]) s.2
theorem nodup_sub_len : ∀ (xs ys : List Int), xs.Nodup → (∀ x ∈ xs, x ∈ ys) → xs.length ≤ ys.length
  | [], _, _, _ => Nat.zero_le _
  | x :: xs, ys, hn, h => by
    rw [List.nodup_cons] at hn
    have := nodup_sub_len xs (ys.erase x) hn.2 fun y hy => (List.mem_erase_of_ne (show y ≠ x from fun z => hn.1 (by rw [← z]; exact hy))).mpr (h y (List.mem_cons_of_mem _ hy))
    have hx := h x (by simp)
    rw [List.length_erase_of_mem hx] at this
    have := List.length_pos_of_mem hx
    rw [List.length_cons]; omega
theorem nodup3 {xs : List Int} (h : xs.Nodup) (hx : ∀ x ∈ xs, 1 ≤ x ∧ x ≤ 3) : xs.length ≤ 3 :=
  nodup_sub_len xs [1, 2, 3] h fun x m => by
    have := hx x m
    have : x = 1 ∨ x = 2 ∨ x = 3 := by omega
    simpa using this
end K66
end K2
end
section
set_option autoImplicit false
set_option linter.all false
set_option maxRecDepth 100000
set_option maxHeartbeats 4000000
namespace K2
open PySem (Str)
open Enc (enc)
namespace K66
open K2.P
theorem cAbs_int {i : Int} {G : Gp} {Q : DK} : cAbs [.int i] G Q = Q (.int (ab i)) G := rfl
theorem rIn_tup {α : Type} [DecidableEq α] [Enc α] {neg : Bool} {x : α} {xs : List α} {G : Gp} {Q : DK} (hd : Enc.dep α ≤ 7) (q : Q (.bl (if neg then !decide (x ∈ xs) else decide (x ∈ xs))) G) : rIn neg (enc x) (.tup (xs.map enc)) G Q := by
  refine ⟨enc x, xs.map enc, Enc.sn _ _ _ (by unfold SN; omega), sn_rol G 7 hd xs, ?_⟩
  rw [any_enc]; exact q
def sp_passing_at : Sp2 := fun ds G Q _ => ∃ n c p : Int, ds = [.int n, .int c, .int p] ∧ Q (enc (psg n c p)) G
def rd_passing_at : TS2 :=
  (dSeq (dAsg (dBin (rEq false) (dVar 2) (dBin rAdd (dCB cAbs (dCons (dVar 1) dNil)) (dC (.int 1)))) (gName 3))
  (dSeq (dAsg (dIf (dTru (dBin (rEq false) (dVar 3) (dBin rGt (dVar 1) (dC (.int 0))))) (dC (.int 0)) (dC (.int 1))) (gName 4))
  (dRet (dFz (dTup (dCons (dVar 0) (dCons (dVar 4) (dCons (dIf (dTru (dBin rGt (dVar 1) (dC (.int 0)))) (dC (.int 1)) (dUn rNeg (dC (.int 1)))) dNil))))))))
theorem OK_passing_at (ds : List D) (G : Gp) (Q : DK) (h : sp_passing_at ds G Q fun _ _ => False) : rd_passing_at (fun _ _ => False) (ends Q) (start2 5 ds) G := by
  obtain ⟨n, c, p, rfl, q⟩ := h
  unfold rd_passing_at
  simp only [ends, start2, List.map_cons, List.map_nil, List.length_cons, List.length_nil, List.replicate, List.cons_append, List.nil_append, seq_asg, dAsg, dBin, dVar, List.getElem?_cons_succ, List.getElem?_cons_zero, dCB, dCons, dNil, dC, gName, List.set_cons_succ, List.set_cons_zero, dRet, dFz, dTup]
  rw [cAbs_int, rAdd_int]
  refine rEq_enc (α := Int) (by decide) ?_
  simp only [dIf, dTru_at, dBin, dVar, dC, rGt_int, truAt_bl, List.getElem?_cons_succ, List.getElem?_cons_zero, Bool.false_eq_true, if_false]
  refine rEq_enc (α := Bool) (by decide) ?_
  simp only [truAt_bl, dUn, rNeg_int, dC, Bool.false_eq_true, if_false]
  unfold psg at q
  have k : ∀ (P1 P2 : Bool), (if P1 = P2 then (if P2 = true then Q (.tup [.int n, .int 0, .int 1]) G else Q (.tup [.int n, .int 0, .int (-1)]) G) else (if P2 = true then Q (.tup [.int n, .int 1, .int 1]) G else Q (.tup [.int n, .int 1, .int (-1)]) G)) →
      (if decide (P1 = P2) = true then (if P2 = true then 0 + 1 + 1 + 1 ≤ SZ ∧ FzK G (.tup [.int n, .int 0, .int 1]) Q else 0 + 1 + 1 + 1 ≤ SZ ∧ FzK G (.tup [.int n, .int 0, .int (-1)]) Q) else (if P2 = true then 0 + 1 + 1 + 1 ≤ SZ ∧ FzK G (.tup [.int n, .int 1, .int 1]) Q else 0 + 1 + 1 + 1 ≤ SZ ∧ FzK G (.tup [.int n, .int 1, .int (-1)]) Q)) := by
    intro P1 P2 h
    cases P1 <;> cases P2 <;> exact ⟨by decide, fz_id h⟩
  refine k _ _ ?_
  by_cases h1 : decide (p = ab c + 1) = decide (c > 0) <;> by_cases h2 : c > 0
  · rw [if_pos h1, if_pos (decide_eq_true h2)]; rw [if_pos h1, if_pos h2] at q; exact q
  · rw [if_pos h1, if_neg (by simp [h2])]; rw [if_pos h1, if_neg h2] at q; exact q
  · rw [if_neg h1, if_pos (decide_eq_true h2)]; rw [if_neg h1, if_pos h2] at q; exact q
  · rw [if_neg h1, if_neg (by simp [h2])]; rw [if_neg h1, if_neg h2] at q; exact q
def sp_gone_down : Sp2 := fun ds G Q _ => ∃ (cs : List Int) (p : Int), ds = [.rol (cs.map D.int), .int p] ∧ cs.length ≤ 1000 ∧ Q (.tup [enc (dwn 1 cs p), .int (las cs p)]) G
theorem dwn_app : ∀ (xs ys : List Int) (n p : Int), dwn n (xs ++ ys) p = dwn n xs p ++ dwn (n + xs.length) ys (las xs p)
  | [], ys, n, p => by simp [dwn, las]
  | c :: xs, ys, n, p => by
    show _ ++ dwn (n + 1) (xs ++ ys) (stp p c) = _
    rw [dwn_app xs ys]
    show _ = (_ ++ dwn (n + 1) xs (stp p c)) ++ _
    rw [List.append_assoc]
    have : n + 1 + (xs.length : Int) = n + ((c :: xs).length : Int) := by rw [List.length_cons]; omega
    rw [this]; rfl
theorem las_app : ∀ (xs ys : List Int) (p : Int), las (xs ++ ys) p = las ys (las xs p)
  | [], _, _ => rfl
  | c :: xs, ys, p => las_app xs ys (stp p c)
theorem enum1_get (xs : List Int) : enumD 1 (xs.map D.int) = (xs.zipIdx 1).map fun p => D.tup [.int (p.2 : Int), .int p.1] := by
  have : ∀ (xs : List Int) (k : Nat), enumD k (xs.map D.int) = (xs.zipIdx k).map fun p => D.tup [.int (p.2 : Int), .int p.1] := by
    intro xs
    induction xs with
    | nil => intro k; rfl
    | cons x xs ih => intro k; rw [List.map_cons, List.zipIdx_cons, List.map_cons, ← ih]; rfl
  exact this xs 1
theorem zip1_at {xs : List Int} {pre post : List (Int × Nat)} {x : Int × Nat} (h : xs.zipIdx 1 = pre ++ x :: post) : x.2 = 1 + pre.length := by
  have hx : (xs.zipIdx 1)[pre.length]? = some x := by rw [h]; simp
  rw [List.getElem?_zipIdx] at hx
  cases q : xs[pre.length]? with
  | none => rw [q] at hx; cases hx
  | some y => rw [q] at hx; simp at hx; rw [← hx]
def rd_gone_down : TS2 :=
  (dSeq (dAsg (dLst dNil) (gName 2))
  (dSeq (dAsg (dVar 1) (gName 3))
  (dSeq (dFor (iEnumN (dVar 0) 1) (gTup (gCons (gName 4) (gCons (gName 5) gNil))) (dSeq (dAsg (dCB cAbs (dCons (dVar 5) dNil)) (gName 6))
  (dIfS (dTru (dBin (rIn false) (dVar 3) (dTup (dCons (dVar 6) (dCons (dBin rAdd (dVar 6) (dC (.int 1))) dNil))))) (dSeq (dExpr (dMt tyL mAppend (dVar 2) (dCons (dCall sp_passing_at (dCons (dVar 4) (dCons (dVar 5) (dCons (dVar 3) dNil)))) dNil)))
  (dAsg (dIf (dTru (dBin (rEq false) (dVar 3) (dVar 6))) (dBin rAdd (dVar 6) (dC (.int 1))) (dVar 6)) (gName 3))) dNext)))
  (dRet (dFz (dTup (dCons (dVar 2) (dCons (dVar 3) dNil))))))))
theorem OK_gone_down (ds : List D) (G : Gp) (Q : DK) (h : sp_gone_down ds G Q fun _ _ => False) : rd_gone_down (fun _ _ => False) (ends Q) (start2 7 ds) G := by
  obtain ⟨cs, p0, rfl, hl, q⟩ := h
  unfold rd_gone_down
  simp only [ends, start2, List.map_cons, List.map_nil, List.length_cons, List.length_nil, List.replicate, List.cons_append, List.nil_append, seq_asg, dAsg, dLst, dNil, gName, List.set_cons_succ, List.set_cons_zero, dVar, List.getElem?_cons_succ, List.getElem?_cons_zero]
  refine ⟨by decide, fun a ha => ?_⟩
  refine seq_by (fun τ G' => (∃ x y z, τ = [some (.rol (cs.map D.int)), some (.int p0), some (.ref a), some (.int (las cs p0)), x, y, z]) ∧ GLe G G' ∧ G' a = some (.lst ((dwn 1 cs p0).map enc))) ?_ ?_
  · intro N hN
    simp only [dFor, iEnumN, dVar, List.getElem?_cons_zero, iEnumNAt]
    rw [enum1_get]
    refine for_enc (xs := cs.zipIdx 1) (fun pre τ G' => (∃ x y z, τ = [some (.rol (cs.map D.int)), some (.int p0), some (.ref a), some (.int (las (pre.map (·.1)) p0)), x, y, z]) ∧ GLe G G' ∧ G' a = some (.lst ((dwn 1 (pre.map (·.1)) p0).map enc))) ⟨⟨_, _, _, rfl⟩, .new ha, updG_same⟩ (fun _ _ _ _ => trivial) ?_ ?_
    · rintro pre ⟨c, i⟩ post τ G' N2 e ⟨⟨x, y, z, rfl⟩, l, ga⟩ hN2
      have ei := zip1_at e
      simp only [gTup, gCons, gName, gNil, List.set_cons_succ, List.set_cons_zero, seq_asg, dAsg, dCB, dCons, dVar, List.getElem?_cons_succ, List.getElem?_cons_zero, dNil]
      have ei : i = 1 + pre.length := ei
      have e0 : (pre ++ [(c, i)]).map (·.1) = pre.map (·.1) ++ [c] := by simp
      rw [e0] at hN2
      have e1 : las (pre.map (·.1) ++ [c]) p0 = stp (las (pre.map (·.1)) p0) c := by rw [las_app]; rfl
      have e2 : dwn 1 (pre.map (·.1) ++ [c]) p0 = dwn 1 (pre.map (·.1)) p0 ++ (if las (pre.map (·.1)) p0 = ab c ∨ las (pre.map (·.1)) p0 = ab c + 1 then [psg (i : Int) c (las (pre.map (·.1)) p0)] else []) := by
        rw [dwn_app, List.length_map, ei]
        simp [dwn]
      rw [e1, e2] at hN2
      have hlen : (dwn 1 (pre.map (·.1)) p0).length ≤ 1000 := by
        have h1 := dwn_len (pre.map (·.1)) 1 p0
        have h2 := congrArg List.length e
        simp at h1 h2
        omega
      generalize las (pre.map (·.1)) p0 = u at *
      generalize dwn 1 (pre.map (·.1)) p0 = ps at *
      rw [cAbs_int]
      simp only [dIfS, seq_expr, dExpr, dMt, dVar, List.getElem?_cons_succ, List.getElem?_cons_zero, tyL_ref, dCons, dCall, dNil, dAsg, gName, List.set_cons_succ, List.set_cons_zero, mAppend_ref, dNext, dTru_at, dBin, dTup, dC, List.length_cons, List.length_nil, rAdd_int]
      refine ⟨by decide, rIn_tup (α := Int) (xs := [ab c, ab c + 1]) (by decide) ?_⟩
      rw [truAt_bl, if_neg Bool.false_ne_true]
      by_cases hm : u = ab c ∨ u = ab c + 1
      · rw [if_pos (decide_eq_true (by simpa using hm))]
        simp only [ga]
        refine ⟨trivial, i, c, u, rfl, ?_⟩
        simp only [ga]
        refine ⟨by rw [List.length_map]; exact Nat.lt_of_le_of_lt hlen (by decide), ?_⟩
        simp only [dIf, dTru_at, dBin, dVar, dC, List.getElem?_cons_succ, List.getElem?_cons_zero]
        refine rEq_enc (α := Int) (by decide) ?_
        rw [truAt_bl, if_neg Bool.false_ne_true]
        have gq : updG G' a (.lst (ps.map enc ++ [enc (psg (i : Int) c u)])) a = some (.lst ((ps ++ if u = ab c ∨ u = ab c + 1 then [psg (i : Int) c u] else []).map enc)) := by
          rw [updG_same, if_pos hm, List.map_append]; rfl
        by_cases h1 : u = ab c
        · rw [if_pos (decide_eq_true h1), rAdd_int]
          exact hN2 _ _ ⟨⟨_, _, _, by unfold stp; rw [if_pos h1]⟩, l.put ha, gq⟩
        · rw [if_neg (by simp [h1])]
          exact hN2 _ _ ⟨⟨_, _, _, by unfold stp; rw [if_neg h1, if_pos (hm.resolve_left h1)]⟩, l.put ha, gq⟩
      · rw [if_neg (by simpa using hm)]
        have es : stp u c = u := by unfold stp; rw [if_neg (fun z => hm (.inl z)), if_neg (fun z => hm (.inr z))]
        rw [es] at hN2
        exact hN2 _ _ ⟨⟨_, _, _, rfl⟩, l, by rw [if_neg hm, List.append_nil]; exact ga⟩
    · rintro τ G' ⟨⟨x, y, z, rfl⟩, l, ga⟩
      rw [List.zipIdx_map_fst] at ga
      exact hN _ _ ⟨⟨_, _, _, by rw [List.zipIdx_map_fst]⟩, l, ga⟩
  · rintro _ G' ⟨⟨x, y, z, rfl⟩, l, ga⟩
    simp only [dRet, dFz, dTup, dCons, dVar, List.getElem?_cons_succ, List.getElem?_cons_zero, dNil, List.length_cons, List.length_nil]
    refine ⟨by decide, ?_⟩
    refine fz_all (t := .tup [enc (dwn 1 cs p0), .int (las cs p0)]) l ?_ q
    exact .tup (.cons (.ref ga (by rw [ha]; rfl) (Fzs.same _)) (.cons (.same _) .nil))
end K66
end K2
end
section
set_option autoImplicit false
set_option linter.all false
set_option maxRecDepth 100000
set_option maxHeartbeats 4000000
namespace K2
open PySem (Str)
open Enc (enc)
namespace K66
open K2.P
theorem rIn_ref {α : Type} [DecidableEq α] [Enc α] {neg : Bool} {x : α} {xs : List α} {a : Nat} {G : Gp} {Q : DK} (hd : Enc.dep α ≤ 7) (h : G a = some (.lst (xs.map enc))) (q : Q (.bl (if neg then !decide (x ∈ xs) else decide (x ∈ xs))) G) : rIn neg (enc x) (.ref a) G Q := by
  unfold rIn
  simp only [h]
  refine ⟨_, _, Enc.sn G 8 x (by omega), sn_rol G 7 hd xs, ?_⟩
  rw [any_enc]; exact q
def Ok (n : Int) (cs : List Int) : Prop := n ≤ 3 ∧ cs.length ≤ 40 ∧ ∀ c ∈ cs, 1 ≤ ab c ∧ ab c < n
def sp_string_from : Sp2 := fun ds G Q _ => ∃ (n : Int) (cs : List Int) (t : Int), ds = [.rol (cs.map D.int), .int t] ∧ (Ok n cs ∧ 1 ≤ t ∧ t ≤ n) ∧ Q (.tup [enc (rnd (las cs) (dwn 1 cs) 4 t [] []).1, enc (rnd (las cs) (dwn 1 cs) 4 t [] []).2]) G
def rd_string_from : TS2 :=
  (dSeq (dAsg (dLst dNil) (gName 2))
  (dSeq (dAsg (dLst dNil) (gName 3))
  (dSeq (dAsg (dVar 1) (gName 4))
  (dSeq (dWhile (dTru (dBin (rIn true) (dVar 4) (dVar 3))) (dSeq (dExpr (dMt tyL mAppend (dVar 3) (dCons (dVar 4) dNil)))
  (dSeq (dAsg (dCall sp_gone_down (dCons (dVar 0) (dCons (dVar 4) dNil))) (gName 5))
  (dSeq (dExpr (dMt tyL mExtend (dVar 2) (dCons (dBin rIx (dVar 5) (dC (.int 0))) dNil)))
  (dAsg (dBin rIx (dVar 5) (dC (.int 1))) (gName 4))))))
  (dRet (dFz (dTup (dCons (dVar 2) (dCons (dVar 3) dNil)))))))))
theorem OK_string_from (ds : List D) (G : Gp) (Q : DK) (h : sp_string_from ds G Q fun _ _ => False) : rd_string_from (fun _ _ => False) (ends Q) (start2 6 ds) G := by
  obtain ⟨n, cs, t, rfl, ⟨⟨hn, hl, hc⟩, t1, t2⟩, q⟩ := h
  unfold rd_string_from
  simp only [ends, start2, List.map_cons, List.map_nil, List.length_cons, List.length_nil, List.replicate, List.cons_append, List.nil_append, seq_asg, dAsg, dLst, dNil, gName, List.set_cons_succ, List.set_cons_zero, dVar, List.getElem?_cons_succ, List.getElem?_cons_zero]
  refine ⟨by decide, fun a ha => ⟨by decide, fun b hb => ?_⟩⟩
  have hab : a ≠ b := fun z => by rw [← z, updG_same] at hb; cases hb
  have hb0 : G b = none := by rw [updG_ne (Ne.symm hab)] at hb; exact hb
  generalize hR : rnd (las cs) (dwn 1 cs) 4 t [] [] = R at q
  refine seq_by (fun τ G' => (∃ u x, τ = [some (.rol (cs.map D.int)), some (.int t), some (.ref a), some (.ref b), u, x]) ∧ GLe G G' ∧ G' a = some (.lst (R.1.map enc)) ∧ G' b = some (.lst (R.2.map enc))) ?_ ?_
  · intro N hN
    have main : ∀ (k : Nat) (u : Int) (tops : List Int) (ps : List T3) (G' : Gp) (x : Option D), 4 ≤ tops.length + k → tops.Nodup → (∀ y ∈ tops, 1 ≤ y ∧ y ≤ n) → 1 ≤ u ∧ u ≤ n → ps.length ≤ tops.length * 40 → rnd (las cs) (dwn 1 cs) k u tops ps = R →
        GLe G G' → G' a = some (.lst (ps.map enc)) → G' b = some (.lst (tops.map enc)) →
        whGo (dTru (dBin (rIn true) (dVar 4) (dVar 3))) (dSeq (dExpr (dMt tyL mAppend (dVar 3) (dCons (dVar 4) dNil)))
          (dSeq (dAsg (dCall sp_gone_down (dCons (dVar 0) (dCons (dVar 4) dNil))) (gName 5))
          (dSeq (dExpr (dMt tyL mExtend (dVar 2) (dCons (dBin rIx (dVar 5) (dC (.int 0))) dNil)))
          (dAsg (dBin rIx (dVar 5) (dC (.int 1))) (gName 4))))) k (fun _ _ => False) { ends Q with nx := N } [some (.rol (cs.map D.int)), some (.int t), some (.ref a), some (.ref b), some (.int u), x] G' := by
      intro k
      induction k with
      | zero =>
        intro u tops ps G' x h1 h2 h3
        have := nodup3 h2 fun y hy => ⟨(h3 y hy).1, by have := (h3 y hy).2; omega⟩
        omega
      | succ k ih =>
        intro u tops ps G' x h1 h2 h3 h4 h5 h6 l ga gb
        have hl3 := nodup3 h2 fun y hy => ⟨(h3 y hy).1, by have := (h3 y hy).2; omega⟩
        rw [whGo]
        simp only [dTru_at, dBin, dVar, List.getElem?_cons_succ, List.getElem?_cons_zero]
        refine rIn_ref (x := u) (xs := tops) (by decide) gb ?_
        rw [truAt_bl, if_pos rfl]
        rw [rnd] at h6
        by_cases hm : u ∈ tops
        · rw [if_pos hm] at h6
          subst h6
          rw [if_neg (by simp [hm])]
          exact hN _ _ ⟨⟨_, _, rfl⟩, l, ga, gb⟩
        · rw [if_neg hm] at h6
          rw [if_pos (by simp [hm])]
          have hlen := dwn_len cs 1 u
          have ih' := ih (las cs u) (tops ++ [u]) (ps ++ dwn 1 cs u) (updG (updG G' b (.lst (tops.map enc ++ [.int u]))) a (.lst (ps.map enc ++ (dwn 1 cs u).map enc))) (some (.tup [enc (dwn 1 cs u), .int (las cs u)]))
            (by rw [List.length_append]; simp; omega) (List.nodup_append.mpr ⟨h2, by simp, fun y hy z hz => by rw [List.mem_singleton.mp hz]; exact fun e => hm (e ▸ hy)⟩)
            (fun y hy => (List.mem_append.mp hy).elim (h3 y) fun hy => by rw [List.mem_singleton.mp hy]; exact h4) (las_in cs hc h4)
            (by rw [List.length_append, List.length_append]; simp; omega) h6 ((l.put hb0).put ha)
            (by rw [updG_same, List.map_append]) (by rw [updG_ne (Ne.symm hab), updG_same, List.map_append]; rfl)
          generalize whGo _ _ k = W at ih' ⊢
          have ga2 : updG G' b (.lst (tops.map enc ++ [.int u])) a = some (.lst (ps.map enc)) := by rw [updG_ne hab]; exact ga
          simp only [dSeq, dExpr, dMt, dVar, List.getElem?_cons_succ, List.getElem?_cons_zero, tyL_ref, gb, dCons, dNil, dAsg, dCall, gName, List.set_cons_succ, List.set_cons_zero, dBin, dC, ends, mExtend_ref, mAppend_ref, true_and]
          refine ⟨szlt (by simp only [List.length_map]; omega), cs, u, rfl, by omega, ?_⟩
          simp only [ga2, rIx_tupM, true_and]
          rw [show atI [enc (dwn 1 cs u), D.int (las cs u)] 0 = some (enc (dwn 1 cs u)) from rfl, show atI [enc (dwn 1 cs u), D.int (las cs u)] 1 = some (D.int (las cs u)) from rfl]
          simp only [lstOf_of (IsL.enc _)]
          exact ⟨szl (by simp only [List.length_map]; omega), ih'⟩
    have := main 4 t [] [] (updG (updG G a (.lst [])) b (.lst [])) none (by simp) (by simp) (by simp) ⟨t1, t2⟩ (by simp) hR ((GLe.new ha).trans (.new hb)) (by rw [updG_ne hab, updG_same]; rfl) (by rw [updG_same]; rfl)
    exact ⟨4, this⟩
  · rintro _ G' ⟨⟨u, x, rfl⟩, l, ga, gb⟩
    simp only [dRet, dFz, dTup, dCons, dVar, List.getElem?_cons_succ, List.getElem?_cons_zero, dNil, List.length_cons, List.length_nil]
    refine ⟨by decide, ?_⟩
    refine fz_all (t := .tup [enc R.1, enc R.2]) l ?_ q
    exact .tup (.cons (.ref ga (by rw [ha]; rfl) (Fzs.same _)) (.cons (.ref gb (by rw [hb0]; rfl) (Fzs.same _)) .nil))
end K66
end K2
end
section
set_option autoImplicit false
set_option linter.all false
set_option maxRecDepth 100000
set_option maxHeartbeats 4000000
namespace K2
open PySem (Str)
open Enc (enc)
namespace K66
open K2.P
def sp_law_down : Sp2 := fun ds G Q _ => ∃ (cs : List Int) (p : Int), ds = [.rol (cs.map D.int), .int p] ∧ (cs.length ≤ 1000 ∧ ∀ c ∈ cs, c ≠ 0) ∧ Q (.tup [enc (dwn 1 cs (p + 1)), .int (las cs (p + 1) - 1)]) G
theorem enum0_get (xs : List Int) : enumD 0 (xs.map D.int) = (xs.zipIdx 0).map fun p => D.tup [.int (p.2 : Int), .int p.1] := by
  have : ∀ (xs : List Int) (k : Nat), enumD k (xs.map D.int) = (xs.zipIdx k).map fun p => D.tup [.int (p.2 : Int), .int p.1] := by
    intro xs
    induction xs with
    | nil => intro k; rfl
    | cons x xs ih => intro k; rw [List.map_cons, List.zipIdx_cons, List.map_cons, ← ih]; rfl
  exact this xs 0
theorem zip0_at {xs : List Int} {pre post : List (Int × Nat)} {x : Int × Nat} (h : xs.zipIdx 0 = pre ++ x :: post) : x.2 = pre.length := by
  have hx : (xs.zipIdx 0)[pre.length]? = some x := by rw [h]; simp
  rw [List.getElem?_zipIdx] at hx
  cases q : xs[pre.length]? with
  | none => rw [q] at hx; cases hx
  | some y => rw [q] at hx; simp at hx; rw [← hx]
theorem down_blk {S w : Option D} {K : Ends2} {u c i : Int} {a : Nat} {ps : List T3} {G' : Gp} (ga : G' a = some (.lst (ps.map enc))) (hlen : ps.length ≤ 1000) (hm : u = ab c ∨ u = ab c + 1) (h0 : c ≠ 0)
    (k : ∀ x y, K.nx [S, some (.int (stp u c - 1)), some (.ref a), some (.int i), some (.int c), some (.int (ab c)), x, y] (updG G' a (.lst (ps.map enc ++ [enc (psg (i + 1) c u)])))) :
    dSeq (dIfS (dTru (dBin rLt (dVar 4) (dC (D.int 0)))) (dAsg (dUn rNeg (dC (D.int 1))) (gName 6)) dNext)
          (dSeq (dAsg (dC (D.int 0)) (gName 7))
            (dSeq
              (dIfS (dTru (dBin (rEq true) (dBin (rEq false) (dVar 1) (dVar 5)) (dBin rGt (dVar 4) (dC (D.int 0)))))
                (dAsg (dC (D.int 1)) (gName 7)) dNext)
              (dSeq
                (dExpr
                  (dMt tyL mAppend (dVar 2)
                    (dCons (dTup (dCons (dBin rAdd (dVar 3) (dC (D.int 1))) (dCons (dVar 7) (dCons (dVar 6) dNil))))
                      dNil)))
                (dAsg (dBin rSub (dBin rSub (dBin rMul (dC (D.int 2)) (dVar 5)) (dC (D.int 1))) (dVar 1)) (gName 1)))))
          (fun x x_1 => False) K
          [S, some (D.int (u - 1)), some (D.ref a), some (D.int i), some (D.int c),
            some (D.int (ab c)), some (D.int 1), w] G' := by
  refine seq_by (fun τ G2 => G2 = G' ∧ τ = [S, some (.int (u - 1)), some (.ref a), some (.int i), some (.int c), some (.int (ab c)), some (.int (if c > 0 then 1 else -1)), w]) ?_ ?_
  · intro N hN
    simp only [dIfS, dAsg, dUn, dC, gName, List.set_cons_succ, List.set_cons_zero, rNeg_int, dNext, dTru_at, dBin, dVar, List.getElem?_cons_succ, List.getElem?_cons_zero, rLt_int, truAt_bl]
    by_cases h : c < 0
    · rw [if_pos (decide_eq_true h)]
      exact hN _ _ ⟨rfl, by rw [if_neg (by omega)]⟩
    · rw [if_neg (by simp [h])]
      exact hN _ _ ⟨rfl, by rw [if_pos (by omega)]⟩
  · rintro τ G2 ⟨rfl, rfl⟩
    simp only [seq_asg, dAsg, dC, gName, List.set_cons_succ, List.set_cons_zero]
    refine seq_by (fun τ G3 => G3 = G2 ∧ τ = [S, some (.int (u - 1)), some (.ref a), some (.int i), some (.int c), some (.int (ab c)), some (.int (if c > 0 then 1 else -1)), some (.int (if decide (u = ab c + 1) = decide (c > 0) then 0 else 1))]) ?_ ?_
    · intro N hN
      simp only [dIfS, dAsg, dC, gName, List.set_cons_succ, List.set_cons_zero, dNext, dTru_at, dBin, dVar, List.getElem?_cons_succ, List.getElem?_cons_zero, rGt_int]
      refine rEq_enc (α := Int) (by decide) ?_
      simp only [Bool.false_eq_true, if_false]
      refine rEq_enc (α := Bool) (by decide) ?_
      have e1 : decide (u - 1 = ab c) = decide (u = ab c + 1) := by congr 1; exact propext ⟨fun h => by omega, fun h => by omega⟩
      rw [truAt_bl, if_pos rfl, e1]
      by_cases h : decide (u = ab c + 1) = decide (c > 0)
      · rw [if_neg (by simp only [h, decide_true]; decide)]
        exact hN _ _ ⟨rfl, by rw [if_pos h]⟩
      · rw [if_pos (by simp only [h, decide_false]; rfl)]
        exact hN _ _ ⟨rfl, by rw [if_neg h]⟩
    · rintro τ G3 ⟨rfl, rfl⟩
      simp only [seq_expr, dExpr, dMt, dVar, List.getElem?_cons_succ, List.getElem?_cons_zero, tyL_ref, ga, dCons, dTup, dBin, dC, dNil, List.length_cons, List.length_nil, dAsg, gName, List.set_cons_succ, List.set_cons_zero, rMul_int, rSub_int, mAppend_ref, rAdd_int, true_and]
      refine ⟨by decide, szlt (by rw [List.length_map]; exact hlen), .inl (by decide), ?_⟩
      have es : 2 * ab c - 1 - (u - 1) = stp u c - 1 := by
        unfold stp
        by_cases h1 : u = ab c
        · rw [if_pos h1]; omega
        · rw [if_neg h1, if_pos (hm.resolve_left h1)]; have := hm.resolve_left h1; omega
      rw [es]
      exact k _ _
def rd_law_down : TS2 :=
  (dSeq (dAsg (dLst dNil) (gName 2))
  (dSeq (dFor (iEnum (dVar 0)) (gTup (gCons (gName 3) (gCons (gName 4) gNil))) (dSeq (dAsg (dCB cAbs (dCons (dVar 4) dNil)) (gName 5))
  (dIfS (dOr (dTru (dBin (rEq false) (dVar 1) (dVar 5))) (dTru (dBin (rEq false) (dVar 1) (dBin rSub (dVar 5) (dC (.int 1)))))) (dSeq (dAsg (dC (.int 1)) (gName 6))
  (dSeq (dIfS (dTru (dBin rLt (dVar 4) (dC (.int 0)))) (dAsg (dUn rNeg (dC (.int 1))) (gName 6)) dNext)
  (dSeq (dAsg (dC (.int 0)) (gName 7))
  (dSeq (dIfS (dTru (dBin (rEq true) (dBin (rEq false) (dVar 1) (dVar 5)) (dBin rGt (dVar 4) (dC (.int 0))))) (dAsg (dC (.int 1)) (gName 7)) dNext)
  (dSeq (dExpr (dMt tyL mAppend (dVar 2) (dCons (dTup (dCons (dBin rAdd (dVar 3) (dC (.int 1))) (dCons (dVar 7) (dCons (dVar 6) dNil)))) dNil)))
  (dAsg (dBin rSub (dBin rSub (dBin rMul (dC (.int 2)) (dVar 5)) (dC (.int 1))) (dVar 1)) (gName 1))))))) dNext)))
  (dRet (dFz (dTup (dCons (dVar 2) (dCons (dVar 1) dNil)))))))
theorem OK_law_down (ds : List D) (G : Gp) (Q : DK) (h : sp_law_down ds G Q fun _ _ => False) : rd_law_down (fun _ _ => False) (ends Q) (start2 8 ds) G := by
  obtain ⟨cs, p0, rfl, ⟨hl, hz⟩, q⟩ := h
  unfold rd_law_down
  simp only [ends, start2, List.map_cons, List.map_nil, List.length_cons, List.length_nil, List.replicate, List.cons_append, List.nil_append, seq_asg, dAsg, dLst, dNil, gName, List.set_cons_succ, List.set_cons_zero]
  refine ⟨by decide, fun a ha => ?_⟩
  refine seq_by (fun τ G' => (∃ x y z v w, τ = [some (.rol (cs.map D.int)), some (.int (las cs (p0 + 1) - 1)), some (.ref a), x, y, z, v, w]) ∧ GLe G G' ∧ G' a = some (.lst ((dwn 1 cs (p0 + 1)).map enc))) ?_ ?_
  · intro N hN
    simp only [dFor, iEnum, dVar, List.getElem?_cons_zero, iEnumAt]
    rw [enum0_get]
    refine for_enc (xs := cs.zipIdx 0) (fun pre τ G' => (∃ x y z v w, τ = [some (.rol (cs.map D.int)), some (.int (las (pre.map (·.1)) (p0 + 1) - 1)), some (.ref a), x, y, z, v, w]) ∧ GLe G G' ∧ G' a = some (.lst ((dwn 1 (pre.map (·.1)) (p0 + 1)).map enc))) ⟨⟨none, none, none, none, none, by simp [las]⟩, .new ha, updG_same⟩ (fun _ _ _ _ => trivial) ?_ ?_
    · rintro pre ⟨c, i⟩ post τ G' N2 e ⟨⟨x, y, z, v, w, rfl⟩, l, ga⟩ hN2
      have ei : i = pre.length := zip0_at e
      have e0 : (pre ++ [(c, i)]).map (·.1) = pre.map (·.1) ++ [c] := by simp
      rw [e0] at hN2
      have e1 : las (pre.map (·.1) ++ [c]) (p0 + 1) = stp (las (pre.map (·.1)) (p0 + 1)) c := by rw [las_app]; rfl
      have e2 : dwn 1 (pre.map (·.1) ++ [c]) (p0 + 1) = dwn 1 (pre.map (·.1)) (p0 + 1) ++ (if las (pre.map (·.1)) (p0 + 1) = ab c ∨ las (pre.map (·.1)) (p0 + 1) = ab c + 1 then [psg ((i : Int) + 1) c (las (pre.map (·.1)) (p0 + 1))] else []) := by
        rw [dwn_app, List.length_map, ei, Int.add_comm 1]
        simp [dwn]
      rw [e1, e2] at hN2
      have hlen : (dwn 1 (pre.map (·.1)) (p0 + 1)).length ≤ 1000 := by
        have h1 := dwn_len (pre.map (·.1)) 1 (p0 + 1)
        have h2 := congrArg List.length e
        simp at h1 h2
        omega
      generalize las (pre.map (·.1)) (p0 + 1) = u at *
      generalize dwn 1 (pre.map (·.1)) (p0 + 1) = ps at *
      simp only [gTup, gCons, gName, gNil, List.set_cons_succ, List.set_cons_zero, seq_asg, dAsg, dCB, dCons, dVar, List.getElem?_cons_succ, List.getElem?_cons_zero, dNil]
      rw [cAbs_int]
      simp only [dIfS, dOr, seq_asg, dAsg, dC, gName, List.set_cons_succ, List.set_cons_zero, dNext, if_true, dTru_at, dBin, dVar, List.getElem?_cons_succ, List.getElem?_cons_zero, rSub_int]
      have hc0 : c ≠ 0 := hz c (by
        have := congrArg (List.map (·.1)) e
        rw [List.zipIdx_map_fst] at this
        rw [this]; simp)
      have blk := fun (hm : u = ab c ∨ u = ab c + 1) => down_blk (S := some (.rol (cs.map D.int))) (w := w) (K := { nx := N2, rt := Q, bk := N, ct := N2 }) (i := (i : Int)) ga hlen hm hc0 fun x y => hN2 _ _ ⟨⟨_, _, _, _, _, rfl⟩, l.put ha, by rw [updG_same, if_pos hm, List.map_append]; rfl⟩
      refine rEq_enc (α := Int) (by decide) ?_
      rw [truAt_bl, if_neg Bool.false_ne_true]
      by_cases h1 : u - 1 = ab c
      · rw [if_pos (decide_eq_true h1)]
        exact blk (.inr (by omega))
      · rw [if_neg (by simp [h1])]
        refine rEq_enc (α := Int) (by decide) ?_
        rw [truAt_bl, if_neg Bool.false_ne_true]
        by_cases h2 : u - 1 = ab c - 1
        · rw [if_pos (decide_eq_true h2)]
          exact blk (.inl (by omega))
        · rw [if_neg (by simp [h2])]
          have hm : ¬ (u = ab c ∨ u = ab c + 1) := by omega
          have es : stp u c = u := by unfold stp; rw [if_neg (fun z => hm (.inl z)), if_neg (fun z => hm (.inr z))]
          rw [es] at hN2
          exact hN2 _ _ ⟨⟨_, _, _, _, _, rfl⟩, l, by rw [if_neg hm, List.append_nil]; exact ga⟩
    · rintro τ G' ⟨⟨x, y, z, v, w, rfl⟩, l, ga⟩
      rw [List.zipIdx_map_fst] at ga
      exact hN _ _ ⟨⟨_, _, _, _, _, by rw [List.zipIdx_map_fst]⟩, l, ga⟩
  · rintro _ G' ⟨⟨x, y, z, v, w, rfl⟩, l, ga⟩
    simp only [dRet, dFz, dTup, dCons, dVar, List.getElem?_cons_succ, List.getElem?_cons_zero, dNil, List.length_cons, List.length_nil]
    refine ⟨by decide, ?_⟩
    refine fz_all (t := .tup [enc (dwn 1 cs (p0 + 1)), .int (las cs (p0 + 1) - 1)]) l ?_ q
    exact .tup (.cons (.ref ga (by rw [ha]; rfl) (Fzs.same _)) (.cons (.same _) .nil))
end K66
end K2
end
section
set_option autoImplicit false
set_option linter.all false
set_option maxRecDepth 100000
set_option maxHeartbeats 4000000
namespace K2
open PySem (Str)
open Enc (enc)
namespace K66
open K2.P
def Good (n : Int) (cs : List Int) : Prop := (1 ≤ n ∧ n ≤ 3) ∧ cs.length ≤ 12 ∧ ∀ c ∈ cs, 1 ≤ ab c ∧ ab c < n
instance (n : Int) (cs : List Int) : Decidable (Good n cs) := by unfold Good; exact inferInstance
def sp_refuse_no_braid : Sp2 := fun ds G Q _ => ∃ (cs : List Int) (n : Int), ds = [.rol (cs.map D.int), .int n] ∧ Good n cs ∧ Q .non G
def sp_refuse_no_braidX : Sp2 := fun ds G Q E => ∃ (cs : List Int) (n : Int), ds = [.rol (cs.map D.int), .int n] ∧ cs.length ≤ 1000 ∧ (Good n cs → Q .non G) ∧ (¬ Good n cs → E ⟨"NoBraid", []⟩ (fun _ => none))
theorem chT_le {ta tb tc : TE2} {E : XK2} {τ : St2} {G : Gp} {x y z : Int} {Q : Bool → Gp → Prop} (ha : ∀ Q, ta E τ G Q = Q (.int x) G) (hb : ∀ Q, tb E τ G Q = Q (.int y) G) (hc : ∀ Q, tc E τ G Q = Q (.int z) G) (q : Q (decide (x ≤ y) && decide (y ≤ z)) G) : dChainT rLe rLe ta tb tc E τ G Q := by
  unfold dChainT
  rw [ha, hb, rLe_int]
  refine ⟨_, rfl, ?_⟩
  by_cases h : x ≤ y
  · rw [if_pos (decide_eq_true h), hc, rLe_int]
    rw [decide_eq_true h, Bool.true_and] at q
    exact ⟨_, rfl, q⟩
  · rw [if_neg (by simp [h])]
    rw [decide_eq_false h, Bool.false_and] at q
    exact q
theorem chT_lt {ta tb tc : TE2} {E : XK2} {τ : St2} {G : Gp} {x y z : Int} {Q : Bool → Gp → Prop} (ha : ∀ Q, ta E τ G Q = Q (.int x) G) (hb : ∀ Q, tb E τ G Q = Q (.int y) G) (hc : ∀ Q, tc E τ G Q = Q (.int z) G) (q : Q (decide (x ≤ y) && decide (y < z)) G) : dChainT rLe rLt ta tb tc E τ G Q := by
  unfold dChainT
  rw [ha, hb, rLe_int]
  refine ⟨_, rfl, ?_⟩
  by_cases h : x ≤ y
  · rw [if_pos (decide_eq_true h), hc, rLt_int]
    rw [decide_eq_true h, Bool.true_and] at q
    exact ⟨_, rfl, q⟩
  · rw [if_neg (by simp [h])]
    rw [decide_eq_false h, Bool.false_and] at q
    exact q
def rd_refuse_no_braidX : TS2 :=
  (dSeq (dIfS (dNot (dChainT rLe rLe (dC (.int 1)) (dVar 1) (dC (.int 3)))) (dRaise "NoBraid" (dCons (dC (.str "a braid has one to three strands")) dNil)) dNext)
  (dSeq (dIfS (dTru (dBin rGt (dCB cLen (dCons (dVar 0) dNil)) (dC (.int 12)))) (dRaise "NoBraid" (dCons (dC (.str "a braid has at most twelve letters")) dNil)) dNext)
  (dFor (iSeq (dVar 0)) (gName 2) (dIfS (dNot (dChainT rLe rLt (dC (.int 1)) (dCB cAbs (dCons (dVar 2) dNil)) (dVar 1))) (dRaise "NoBraid" (dCons (dC (.str "no letter of a braid of so many strands")) dNil)) dNext))))
theorem OK_refuse_no_braidX (ds : List D) (G : Gp) (Q : DK) (E : XK2) (h : sp_refuse_no_braidX ds G Q E) : rd_refuse_no_braidX E (ends Q) (start2 3 ds) G := by
  obtain ⟨cs, n, rfl, hl, q, qx⟩ := h
  unfold rd_refuse_no_braidX
  refine seq_by (fun τ G' => G = G' ∧ (1 ≤ n ∧ n ≤ 3) ∧ τ = [some (.rol (cs.map D.int)), some (.int n), none]) ?_ ?_
  · intro N hN
    unfold dIfS dNot
    refine chT_le (fun _ => rfl) (fun _ => rfl) (fun _ => rfl) ?_
    by_cases h : 1 ≤ n ∧ n ≤ 3
    · have e : (!(decide (1 ≤ n) && decide (n ≤ 3))) = false := by simp [h.1, h.2]
      rw [e]
      exact hN _ _ ⟨rfl, h, rfl⟩
    · have e : (!(decide (1 ≤ n) && decide (n ≤ 3))) = true := by
        simp only [Bool.not_eq_true', Bool.and_eq_false_iff, decide_eq_false_iff_not]
        omega
      rw [e]
      show (if true = true then _ else _)
      rw [if_pos rfl]
      unfold dRaise
      simp only [dCons, dC, dNil, List.length_cons, List.length_nil]
      exact ⟨by decide, qx fun g => h g.1⟩
  · rintro _ _ ⟨rfl, hn, rfl⟩
    refine seq_by (fun τ G' => G = G' ∧ cs.length ≤ 12 ∧ τ = [some (.rol (cs.map D.int)), some (.int n), none]) ?_ ?_
    · intro N hN
      simp only [dIfS, ends, dNext, dTru_at, dBin, dCB, dCons, dVar, List.getElem?_cons_zero, dNil, dC, cLen_rol, rGt_int, truAt_bl]
      by_cases h : cs.length ≤ 12
      · rw [if_neg (by simp; omega)]
        exact hN _ _ ⟨rfl, h, rfl⟩
      · rw [if_pos (by simp; omega)]
        unfold dRaise
        simp only [dCons, dC, dNil, List.length_cons, List.length_nil]
        exact ⟨by decide, qx fun g => h g.2.1⟩
    · rintro _ _ ⟨rfl, hk, rfl⟩
      simp only [dFor, ends, iSeq_at, dVar, List.getElem?_cons_zero, iAt_rol]
      refine for_enc (xs := cs) (fun pre τ G' => G = G' ∧ (∀ c ∈ pre, 1 ≤ ab c ∧ ab c < n) ∧ ∃ x, τ = [some (.rol (cs.map D.int)), some (.int n), x]) ⟨rfl, by simp, _, rfl⟩ (fun _ _ _ _ => trivial) ?_ ?_
      · rintro pre c post τ G' N2 e ⟨rfl, hp, x, rfl⟩ hN2
        simp only [gName, List.set_cons_succ, List.set_cons_zero]
        unfold dIfS dNot
        refine chT_lt (x := 1) (y := ab c) (z := n) (fun _ => rfl) (fun _ => rfl) (fun _ => rfl) ?_
        by_cases h : 1 ≤ ab c ∧ ab c < n
        · have e : (!(decide (1 ≤ ab c) && decide (ab c < n))) = false := by simp [h.1, h.2]
          rw [e]
          refine hN2 _ _ ⟨rfl, fun y hy => ?_, _, rfl⟩
          rcases List.mem_append.mp hy with hy | hy
          · exact hp y hy
          · rw [List.mem_singleton.mp hy]; exact h
        · have e1 : (!(decide (1 ≤ ab c) && decide (ab c < n))) = true := by
            simp only [Bool.not_eq_true', Bool.and_eq_false_iff, decide_eq_false_iff_not]
            omega
          rw [e1]
          show (if true = true then _ else _)
          rw [if_pos rfl]
          unfold dRaise
          simp only [dCons, dC, dNil, List.length_cons, List.length_nil]
          exact ⟨by decide, qx fun g => h (g.2.2 c (by rw [e]; simp))⟩
      · rintro τ G' ⟨rfl, hp, x, rfl⟩
        exact q ⟨hn, hk, hp⟩
def rd_refuse_no_braid : TS2 :=
  (dSeq (dIfS (dNot (dChainT rLe rLe (dC (.int 1)) (dVar 1) (dC (.int 3)))) dNever dNext)
  (dSeq (dIfS (dTru (dBin rGt (dCB cLen (dCons (dVar 0) dNil)) (dC (.int 12)))) dNever dNext)
  (dFor (iSeq (dVar 0)) (gName 2) (dIfS (dNot (dChainT rLe rLt (dC (.int 1)) (dCB cAbs (dCons (dVar 2) dNil)) (dVar 1))) dNever dNext))))
theorem OK_refuse_no_braid (ds : List D) (G : Gp) (Q : DK) (h : sp_refuse_no_braid ds G Q fun _ _ => False) : rd_refuse_no_braid (fun _ _ => False) (ends Q) (start2 3 ds) G := by
  obtain ⟨cs, n, rfl, ⟨hn, hk, hc⟩, q⟩ := h
  unfold rd_refuse_no_braid
  refine seq_by (fun τ G' => G = G' ∧ τ = [some (.rol (cs.map D.int)), some (.int n), none]) ?_ ?_
  · intro N hN
    unfold dIfS dNot
    refine chT_le (fun _ => rfl) (fun _ => rfl) (fun _ => rfl) ?_
    have e : (!(decide (1 ≤ n) && decide (n ≤ 3))) = false := by simp [hn.1, hn.2]
    rw [e]
    exact hN _ _ ⟨rfl, rfl⟩
  · rintro _ _ ⟨rfl, rfl⟩
    refine seq_by (fun τ G' => G = G' ∧ τ = [some (.rol (cs.map D.int)), some (.int n), none]) ?_ ?_
    · intro N hN
      simp only [dIfS, ends, dNext, dTru_at, dBin, dCB, dCons, dVar, List.getElem?_cons_zero, dNil, dC, cLen_rol, rGt_int, truAt_bl]
      rw [if_neg (by simp; omega)]
      exact hN _ _ ⟨rfl, rfl⟩
    · rintro _ _ ⟨rfl, rfl⟩
      simp only [dFor, ends, iSeq_at, dVar, List.getElem?_cons_zero, iAt_rol]
      refine for_enc (xs := cs) (fun pre τ G' => G = G' ∧ ∃ x, τ = [some (.rol (cs.map D.int)), some (.int n), x]) ⟨rfl, _, rfl⟩ (fun _ _ _ _ => trivial) ?_ ?_
      · rintro pre c post τ G' N2 e ⟨rfl, x, rfl⟩ hN2
        simp only [gName, List.set_cons_succ, List.set_cons_zero]
        unfold dIfS dNot
        refine chT_lt (x := 1) (y := ab c) (z := n) (fun _ => rfl) (fun _ => rfl) (fun _ => rfl) ?_
        have h := hc c (by rw [e]; simp)
        have e : (!(decide (1 ≤ ab c) && decide (ab c < n))) = false := by simp [h.1, h.2]
        rw [e]
        exact hN2 _ _ ⟨rfl, _, rfl⟩
      · rintro τ G' ⟨rfl, x, rfl⟩
        exact q
end K66
end K2
end
section
set_option autoImplicit false
set_option linter.all false
set_option maxRecDepth 100000
set_option maxHeartbeats 4000000
namespace K2
open PySem (Str)
open Enc (enc)
namespace K66
open K2.P
def lst1 : List T3 → T3
  | [] => ⟨0, 0, 0⟩
  | a :: r => r.foldl (fun m x => if EncOrd.lt x m = true then x else m) a
theorem lst1_mem {r : List T3} (h : r ≠ []) : lst1 r ∈ r := by
  cases r with
  | nil => exact absurd rfl h
  | cons a r => exact (fold_least r a).1
theorem lst1_le {r : List T3} {y : T3} (hy : y ∈ r) : leO (lst1 r) y = true := by
  cases r with
  | nil => cases hy
  | cons a r => exact (fold_least r a).2 y hy
def seatT (r : List T3) : List T3 := r.drop (r.idxOf (lst1 r)) ++ r.take (r.idxOf (lst1 r))
theorem cMin_lst {x : D} {G : Gp} {r : List T3} {Q : DK} (hi : itemsOf x G = some (r.map enc)) (hne : r ≠ []) (q : Q (enc (lst1 r)) G) : cMin [x] G Q :=
  EncMin.mn hi hne fun m hm hl => by
    have : m = lst1 r := leO_anti _ _ (hl _ (lst1_mem hne)) (lst1_le hm)
    rw [this]; exact q
theorem mIndex_lst {x : D} {G : Gp} {r : List T3} {Q : DK} (ht : tyL x G) (hi : itemsOf x G = some (r.map enc)) (hne : r ≠ []) (q : Q (.int ((r.idxOf (lst1 r) : Nat) : Int)) G) : mIndex x [enc (lst1 r)] G Q := by
  refine ⟨ht, r.map enc, enc (lst1 r), r.map enc, hi, Enc.sn G 8 _ (by decide), sn_rol G 7 (by decide) r, ?_⟩
  have e : (r.map enc).findIdx? (eqD · (enc (lst1 r))) = some (r.idxOf (lst1 r)) := by
    have hf : (fun y : T3 => eqD (enc y) (enc (lst1 r))) = fun y => y == lst1 r := by
      funext y
      rw [Enc.eqv]
      by_cases h : y = lst1 r <;> simp [h]
    rw [List.findIdx?_map]
    show List.findIdx? (fun y => eqD (enc y) (enc (lst1 r))) r = _
    rw [hf]
    have hm := lst1_mem hne
    rw [List.idxOf]
    rw [List.findIdx?_eq_some_iff_findIdx_eq]
    exact ⟨List.findIdx_lt_length.mpr ⟨_, hm, by simp⟩, rfl⟩
  rw [e]; exact q
def sp_seated : Sp2 := fun ds G Q _ => ∃ r : List T3, ds = [enc r] ∧ r.length ≤ 1000 ∧ Q (enc (seatT r)) G
def rd_seated : TS2 :=
  (dSeq (dIfS (dNot (dTru (dVar 0))) (dRet (dFz (dLst dNil))) dNext)
  (dSeq (dAsg (dMt tyL mIndex (dVar 0) (dCons (dCB cMin (dCons (dVar 0) dNil)) dNil)) (gName 1))
  (dRet (dFz (dBin rAdd (dSl (dVar 0) (dPart (dVar 1)) dNoPart) (dSl (dVar 0) dNoPart (dPart (dVar 1))))))))
theorem OK_seated (ds : List D) (G : Gp) (Q : DK) (h : sp_seated ds G Q fun _ _ => False) : rd_seated (fun _ _ => False) (ends Q) (start2 2 ds) G := by
  obtain ⟨r, rfl, hl, q⟩ := h
  unfold rd_seated
  refine seq_by (fun τ G' => G = G' ∧ r ≠ [] ∧ τ = [some (enc r), none]) ?_ ?_
  · intro N hN
    simp only [dIfS, dNot, start2, List.map_cons, List.map_nil, List.length_cons, List.length_nil, List.replicate, List.cons_append, List.nil_append, dRet, dFz, dLst, dNil, ends, dNext, dTru_at, dVar, List.getElem?_cons_zero]
    cases r with
    | nil => exact ⟨by decide, fun p hp => fz_enc (xs := ([] : List T3)) (.new hp) hp updG_same q⟩
    | cons a t => exact hN _ _ ⟨rfl, by simp, rfl⟩
  · rintro _ _ ⟨rfl, hne, rfl⟩
    simp only [ends, seq_asg, dAsg, dMt, dVar, List.getElem?_cons_zero, dCons, dCB, dNil, gName, dRet, dFz, dBin, dSl, List.set_cons_succ, List.set_cons_zero, dNoPart, dPart_at, List.getElem?_cons_succ]
    refine ⟨trivial, cMin_lst rfl hne (mIndex_lst trivial rfl hne ?_)⟩
    generalize hk : r.idxOf (lst1 r) = k
    have hkl : k ≤ r.length := by rw [← hk]; exact List.idxOf_le_length
    rw [show (enc r : D) = .rol (r.map enc) from rfl]
    simp only [partAt, rSl_rol]
    rw [cut_map, cut_from r k hkl]
    intro p hp
    rw [cut_map, cut_to r k hkl]
    intro p2 hp2
    have hne2 : p ≠ p2 := fun z => by rw [← z, updG_same] at hp2; cases hp2
    have g1 : updG (updG G p (.lst ((r.drop k).map enc))) p2 (.lst ((r.take k).map enc)) p = some (.lst ((r.drop k).map enc)) := by rw [updG_ne hne2, updG_same]
    have gl : GLe G (updG (updG G p (.lst ((r.drop k).map enc))) p2 (.lst ((r.take k).map enc))) := (GLe.new hp).trans (.new hp2)
    show addL _ _ _ _
    unfold addL
    rw [lstOf_of (IsL.ref (ds := (r.drop k).map enc) g1), lstOf_of (IsL.ref (ds := (r.take k).map enc) updG_same)]
    refine ⟨szl (by simp; omega), fun p3 hp3 => ?_⟩
    refine fz_enc (xs := seatT r) (gl.trans (.new hp3)) (gl.free hp3) ?_ q
    rw [updG_same]
    unfold seatT
    rw [hk, List.map_append]
def sp_seated_rows : Sp2 := fun ds G Q _ => ∃ (d : D) (rows : List (List T3)), ds = [d] ∧ IsL G d (rows.map enc) ∧ (rows.length ≤ 1000 ∧ ∀ r ∈ rows, r.length ≤ 1000) ∧ Q (enc (rows.map seatT)) G
def rd_seated_rows : TS2 :=
  (dRet (dFz (dComp 1 [] (iSeq (dVar 0)) (gName 0) none (dCall sp_seated (dCons (dVar 0) dNil)))))
theorem OK_seated_rows (ds : List D) (G : Gp) (Q : DK) (h : sp_seated_rows ds G Q fun _ _ => False) : rd_seated_rows (fun _ _ => False) (ends Q) (start2 1 ds) G := by
  obtain ⟨d, rows, rfl, hd, ⟨hl, hr⟩, q⟩ := h
  unfold rd_seated_rows
  simp only [dRet, dFz, dComp, start2, List.map_cons, List.map_nil, List.length_cons, List.length_nil, List.cons_append, List.nil_append, ends, iSeq_at, dVar, List.getElem?_cons_zero]
  refine iAt_of hd fun ok hok => ⟨szl (by rw [List.length_map]; exact hl), ?_⟩
  refine comp_enc (xs := rows) (fun pre acc τ G' => G = G' ∧ acc = (pre.map seatT).map enc ∧ ∃ x, τ = [x]) ⟨rfl, rfl, _, rfl⟩ (fun _ _ _ _ h => by rw [← h.1]; exact hok _ (.refl _)) ?_ ?_
  · rintro pre r post acc τ G' N e ⟨rfl, rfl, x, rfl⟩ hN
    simp only [gName, dCall, dCons, dVar, List.set_cons_zero, List.getElem?_cons_zero, dNil]
    refine ⟨r, rfl, hr r (by rw [e]; simp), hN _ _ _ ⟨rfl, by simp, _, rfl⟩⟩
  · rintro acc τ G' ⟨rfl, rfl, x, rfl⟩ p hp
    exact fz_enc (xs := rows.map seatT) (.new hp) hp updG_same q
end K66
end K2
end
section
set_option autoImplicit false
set_option linter.all false
set_option maxRecDepth 100000
set_option maxHeartbeats 4000000
namespace K2
open PySem (Str)
open Enc (enc)
namespace K66
open K2.P
section
variable {α : Type} {f : Int → Int} {r : Int → List α}
def cst (f : Int → Int) (r : Int → List α) (s : List (List α) × List Int) (t : Int) : List (List α) × List Int :=
  if t ∈ s.2 then s else (s.1 ++ [(rnd f r 4 t [] []).1], s.2 ++ (rnd f r 4 t [] []).2)
theorem cls_fold : ∀ (ts : List Int) (rows : List (List α)) (met : List Int), cls f r ts rows met = (ts.foldl (cst f r) (rows, met)).1
  | [], _, _ => rfl
  | t :: ts, rows, met => by
    rw [cls, List.foldl_cons]
    unfold cst
    by_cases h : t ∈ met
    · rw [if_pos h, if_pos h]; exact cls_fold ts rows met
    · rw [if_neg h, if_neg h]; exact cls_fold ts _ _
theorem rnd_len {b : Nat} (hr : ∀ p, (r p).length ≤ b) : ∀ (k : Nat) (p : Int) (tops : List Int) (ps : List α), (rnd f r k p tops ps).1.length ≤ ps.length + k * b ∧ (rnd f r k p tops ps).2.length ≤ tops.length + k
  | 0, _, _, _ => by simp [rnd]
  | k + 1, p, tops, ps => by
    rw [rnd]
    split
    · exact ⟨Nat.le_add_right _ _, Nat.le_add_right _ _⟩
    · obtain ⟨h1, h2⟩ := rnd_len hr k (f p) (tops ++ [p]) (ps ++ r p)
      have := hr p
      rw [List.length_append] at h1 h2
      rw [Nat.succ_mul]
      simp at h2
      omega
theorem cst_len {b : Nat} (hr : ∀ p, (r p).length ≤ b) : ∀ (ts : List Int), (ts.foldl (cst f r) ([], [])).1.length ≤ ts.length ∧ (ts.foldl (cst f r) ([], [])).2.length ≤ ts.length * 4 ∧ ∀ row ∈ (ts.foldl (cst f r) ([], [])).1, row.length ≤ 4 * b := by
  intro ts
  have main : ∀ (ts : List Int) (s : List (List α) × List Int), (∀ row ∈ s.1, row.length ≤ 4 * b) → (ts.foldl (cst f r) s).1.length ≤ s.1.length + ts.length ∧ (ts.foldl (cst f r) s).2.length ≤ s.2.length + ts.length * 4 ∧ ∀ row ∈ (ts.foldl (cst f r) s).1, row.length ≤ 4 * b := by
    intro ts
    induction ts with
    | nil => intro s h; simpa using h
    | cons t ts ih =>
      intro s h
      rw [List.foldl_cons]
      obtain ⟨l1, l2⟩ := rnd_len (f := f) hr 4 t [] []
      have hs : ∀ row ∈ (cst f r s t).1, row.length ≤ 4 * b := by
        unfold cst
        split
        · exact h
        · intro row hm
          rcases List.mem_append.mp hm with hm | hm
          · exact h row hm
          · rw [List.mem_singleton.mp hm]; simpa using l1
      obtain ⟨h1, h2, h3⟩ := ih (cst f r s t) hs
      have a1 : (cst f r s t).1.length ≤ s.1.length + 1 ∧ (cst f r s t).2.length ≤ s.2.length + 4 := by
        unfold cst
        split
        · omega
        · simp; simpa using l2
      refine ⟨?_, ?_, h3⟩ <;> simp only [List.length_cons] <;> omega
  simpa using main ts ([], []) (by simp)
end
def tops (n : Int) : List Int := (List.range n.toNat).map fun (i : Nat) => 1 + (i : Int)
def clo (n : Int) (cs : List Int) : List (List T3) := (cls (las cs) (dwn 1 cs) (tops n) [] []).map seatT
def sp_closed : Sp2 := fun ds G Q _ => ∃ (cs : List Int) (n : Int), ds = [.rol (cs.map D.int), .int n] ∧ Good n cs ∧ Q (enc (clo n cs)) G
theorem rIx_tup0 {x y : D} {G : Gp} {Q : DK} : rIx (.tup [x, y]) (.int 0) G Q = Q x G := rfl
theorem rIx_tup1 {x y : D} {G : Gp} {Q : DK} : rIx (.tup [x, y]) (.int 1) G Q = Q y G := rfl
theorem clo_rest {E : XK2} {K : Ends2} {cs : List Int} {n : Int} {a b : Nat} {G : Gp} (g : Good n cs) (ha : G a = none) (hb : updG G a (GO.lst []) b = none) (q : K.rt (enc (clo n cs)) G) :
    dSeq
    (dFor (iRng2 (dC (D.int 1)) (dBin rAdd (dVar 1) (dC (D.int 1)))) (gName 4)
      (dIfS (dTru (dBin (rIn true) (dVar 4) (dVar 3)))
        (dSeq (dAsg (dCall sp_string_from (dCons (dVar 0) (dCons (dVar 4) dNil))) (gName 5))
          (dSeq (dExpr (dMt tyL mAppend (dVar 2) (dCons (dBin rIx (dVar 5) (dC (D.int 0))) dNil)))
            (dExpr (dMt tyL mExtend (dVar 3) (dCons (dBin rIx (dVar 5) (dC (D.int 1))) dNil)))))
        dNext))
    (dRet (dFz (dCall sp_seated_rows (dCons (dVar 2) dNil)))) E K
    [some (D.rol (List.map D.int cs)), some (D.int n), some (D.ref a), some (D.ref b), none, none]
    (updG (updG G a (GO.lst [])) b (GO.lst [])) := by
  obtain ⟨⟨n1, n2⟩, hl, hc⟩ := id g
  have hab : a ≠ b := fun z => by rw [← z, updG_same] at hb; cases hb
  have hb0 : G b = none := by rw [updG_ne (Ne.symm hab)] at hb; exact hb
  have hdw : ∀ p, (dwn 1 cs p).length ≤ 12 := fun p => Nat.le_trans (dwn_len cs 1 p) hl
  refine seq_by (fun τ G' => (∃ x y, τ = [some (D.rol (List.map D.int cs)), some (D.int n), some (D.ref a), some (D.ref b), x, y]) ∧ GLe G G' ∧ G' a = some (.lst (((tops n).foldl (cst (las cs) (dwn 1 cs)) ([], [])).1.map enc))) ?_ ?_
  · intro N hN
    simp only [dFor, iRng2, dC, dBin, dVar, List.getElem?_cons_succ, List.getElem?_cons_zero, rAdd_int]
    refine ⟨by omega, ?_⟩
    unfold rangeD
    rw [show (n + 1 - 1).toNat = n.toNat by congr 1; omega]
    refine for_enc (xs := List.range n.toNat) (fun pre τ G' => (∃ x y, τ = [some (D.rol (List.map D.int cs)), some (D.int n), some (D.ref a), some (D.ref b), x, y]) ∧ GLe G G' ∧ G' a = some (.lst (((pre.map fun (i : Nat) => 1 + (i : Int)).foldl (cst (las cs) (dwn 1 cs)) ([], [])).1.map enc)) ∧ G' b = some (.lst (((pre.map fun (i : Nat) => 1 + (i : Int)).foldl (cst (las cs) (dwn 1 cs)) ([], [])).2.map enc)))
      ⟨⟨_, _, rfl⟩, (GLe.new ha).trans (.new hb), by rw [updG_ne hab, updG_same]; rfl, by rw [updG_same]; rfl⟩ (fun _ _ _ _ => trivial) ?_ ?_
    · rintro pre i post τ G' N2 e ⟨⟨x, y, rfl⟩, l, ga, gb⟩ hN2
      have hi : (i : Int) < n := by
        have : i ∈ List.range n.toNat := by rw [e]; simp
        have := List.mem_range.mp this
        omega
      have hpl : pre.length ≤ 3 := by
        have := congrArg List.length e
        simp at this
        omega
      rw [List.map_append, List.foldl_append] at hN2
      obtain ⟨c1, c2, _⟩ := cst_len (f := las cs) hdw (pre.map fun (i : Nat) => 1 + (i : Int))
      rw [List.length_map] at c1 c2
      generalize (pre.map fun (i : Nat) => 1 + (i : Int)).foldl (cst (las cs) (dwn 1 cs)) ([], []) = st at *
      obtain ⟨rs, mt⟩ := st
      dsimp only at ga gb c1 c2
      simp only [gName, dIfS, List.set_cons_succ, List.set_cons_zero, seq_asg, dAsg, dCall, dCons, dVar, List.getElem?_cons_zero, List.getElem?_cons_succ, dNil, seq_expr, dExpr, dMt, tyL_ref, dBin, dC, mExtend_ref, mAppend_ref, dNext, dTru_at]
      refine rIn_ref (x := (1 + (i : Int))) (xs := mt) (by decide) gb ?_
      rw [truAt_bl, if_pos rfl]
      simp only [List.map_cons, List.map_nil, List.foldl_cons, List.foldl_nil] at hN2
      unfold cst at hN2
      by_cases hm : (1 + (i : Int)) ∈ mt
      · rw [if_neg (by simp [hm])]
        rw [if_pos hm] at hN2
        exact hN2 _ _ ⟨⟨_, _, rfl⟩, l, ga, gb⟩
      · rw [if_pos (by simp [hm])]
        rw [if_neg hm] at hN2
        obtain ⟨l1, l2⟩ := rnd_len (f := las cs) hdw 4 (1 + (i : Int)) [] []
        refine ⟨n, cs, 1 + (i : Int), rfl, ⟨⟨n2, by omega, hc⟩, by omega, by omega⟩, ?_⟩
        generalize rnd (las cs) (dwn 1 cs) 4 (1 + (i : Int)) [] [] = R at *
        have gb2 : updG G' a (.lst (rs.map enc ++ [enc R.1])) b = some (.lst (mt.map enc)) := by rw [updG_ne (Ne.symm hab)]; exact gb
        simp only [ga]
        refine ⟨trivial, ?_⟩
        rw [rIx_tup0]
        simp only [ga, gb2]
        refine ⟨szlt (by rw [List.length_map]; omega), trivial, ?_⟩
        rw [rIx_tup1]
        simp only [gb2, lstOf_of (IsL.enc _)]
        simp only [List.length_nil] at l2
        refine ⟨szl (by simp only [List.length_map]; omega), hN2 _ _ ⟨⟨_, _, rfl⟩, (l.put ha).put hb0, ?_, ?_⟩⟩
        · rw [updG_ne hab, updG_same, List.map_append]; rfl
        · rw [updG_same, List.map_append]
    · rintro τ G' ⟨⟨x, y, rfl⟩, l, ga, gb⟩
      exact hN _ _ ⟨⟨_, _, rfl⟩, l, ga⟩
  · rintro _ G' ⟨⟨x, y, rfl⟩, l, ga⟩
    simp only [dRet, dFz, dCall, dCons, dVar, List.getElem?_cons_succ, List.getElem?_cons_zero, dNil]
    obtain ⟨c1, c2, c3⟩ := cst_len (f := las cs) hdw (tops n)
    have ht : (tops n).length ≤ 3 := by unfold tops; simp; omega
    refine ⟨.ref a, _, rfl, IsL.ref ga, ⟨by omega, fun r hr => by have := c3 r hr; omega⟩, ?_⟩
    refine fz_drop l ?_
    unfold clo at q
    rw [cls_fold] at q
    exact q
def rd_closed : TS2 :=
  (dSeq (dExpr (dCall sp_refuse_no_braid (dCons (dVar 0) (dCons (dVar 1) dNil))))
  (dSeq (dAsg (dLst dNil) (gName 2))
  (dSeq (dAsg (dLst dNil) (gName 3))
  (dSeq (dFor (iRng2 (dC (.int 1)) (dBin rAdd (dVar 1) (dC (.int 1)))) (gName 4) (dIfS (dTru (dBin (rIn true) (dVar 4) (dVar 3))) (dSeq (dAsg (dCall sp_string_from (dCons (dVar 0) (dCons (dVar 4) dNil))) (gName 5))
  (dSeq (dExpr (dMt tyL mAppend (dVar 2) (dCons (dBin rIx (dVar 5) (dC (.int 0))) dNil)))
  (dExpr (dMt tyL mExtend (dVar 3) (dCons (dBin rIx (dVar 5) (dC (.int 1))) dNil))))) dNext))
  (dRet (dFz (dCall sp_seated_rows (dCons (dVar 2) dNil))))))))
theorem OK_closed (ds : List D) (G : Gp) (Q : DK) (h : sp_closed ds G Q fun _ _ => False) : rd_closed (fun _ _ => False) (ends Q) (start2 6 ds) G := by
  obtain ⟨cs, n, rfl, g, q⟩ := h
  obtain ⟨⟨n1, n2⟩, hl, hc⟩ := id g
  unfold rd_closed
  simp only [ends, start2, List.map_cons, List.map_nil, List.length_cons, List.length_nil, List.replicate, List.cons_append, List.nil_append, seq_expr, dExpr, dCall, dCons, dVar, List.getElem?_cons_zero, List.getElem?_cons_succ, dNil, seq_asg, dAsg, dLst, gName, List.set_cons_succ, List.set_cons_zero]
  refine ⟨cs, n, rfl, g, ⟨by decide, fun a ha => ⟨by decide, fun b hb => ?_⟩⟩⟩
  exact clo_rest g ha hb q
def sp_closedX : Sp2 := fun ds G Q E => ∃ (cs : List Int) (n : Int), ds = [.rol (cs.map D.int), .int n] ∧ cs.length ≤ 1000 ∧ (Good n cs → Q (enc (clo n cs)) G) ∧ (¬ Good n cs → E ⟨"NoBraid", []⟩ (fun _ => none))
def rd_closedX : TS2 :=
  (dSeq (dExpr (dCallX sp_refuse_no_braidX (dCons (dVar 0) (dCons (dVar 1) dNil))))
  (dSeq (dAsg (dLst dNil) (gName 2))
  (dSeq (dAsg (dLst dNil) (gName 3))
  (dSeq (dFor (iRng2 (dC (.int 1)) (dBin rAdd (dVar 1) (dC (.int 1)))) (gName 4) (dIfS (dTru (dBin (rIn true) (dVar 4) (dVar 3))) (dSeq (dAsg (dCall sp_string_from (dCons (dVar 0) (dCons (dVar 4) dNil))) (gName 5))
  (dSeq (dExpr (dMt tyL mAppend (dVar 2) (dCons (dBin rIx (dVar 5) (dC (.int 0))) dNil)))
  (dExpr (dMt tyL mExtend (dVar 3) (dCons (dBin rIx (dVar 5) (dC (.int 1))) dNil))))) dNext))
  (dRet (dFz (dCall sp_seated_rows (dCons (dVar 2) dNil))))))))
theorem OK_closedX (ds : List D) (G : Gp) (Q : DK) (E : XK2) (h : sp_closedX ds G Q E) : rd_closedX E (ends Q) (start2 6 ds) G := by
  obtain ⟨cs, n, rfl, hl, q, qx⟩ := h
  unfold rd_closedX
  simp only [ends, start2, List.map_cons, List.map_nil, List.length_cons, List.length_nil, List.replicate, List.cons_append, List.nil_append, seq_expr, dExpr, dCallX, dCons, dVar, List.getElem?_cons_zero, List.getElem?_cons_succ, dNil, seq_asg, dAsg, dLst, gName, List.set_cons_succ, List.set_cons_zero]
  refine ⟨cs, n, rfl, hl, fun g => ?_, qx⟩
  refine ⟨by decide, fun a ha => ⟨by decide, fun b hb => ?_⟩⟩
  exact clo_rest g ha hb (q g)
end K66
end K2
end
section
set_option autoImplicit false
set_option linter.all false
set_option maxRecDepth 100000
set_option maxHeartbeats 4000000
namespace K2
open PySem (Str)
open Enc (enc)
namespace K66
open K2.P
theorem chV_lt {ta tb tc : TE2} {E : XK2} {τ : St2} {G : Gp} {x y z : Int} {Q : DK} (ha : ∀ Q, ta E τ G Q = Q (.int x) G) (hb : ∀ Q, tb E τ G Q = Q (.int y) G) (hc : ∀ Q, tc E τ G Q = Q (.int z) G) (q : Q (.bl (decide (x < y) && decide (y < z))) G) : dChain rLt rLt ta tb tc E τ G Q := by
  unfold dChain
  rw [ha, hb, rLt_int]
  refine ⟨_, rfl, ?_⟩
  by_cases h : x < y
  · rw [if_pos (decide_eq_true h), hc, rLt_int]
    rw [decide_eq_true h, Bool.true_and] at q
    exact q
  · rw [if_neg (by simp [h])]
    rw [decide_eq_false h, Bool.false_and] at q
    exact q
def goodB (n c : Int) : Bool := decide (c ≠ 0) && (decide (-n < c) && decide (c < n))
def sp_law_good : Sp2 := fun ds G Q _ => ∃ (cs : List Int) (n : Int), ds = [.rol (cs.map D.int), .int n] ∧ cs.length ≤ 1000 ∧ Q (.bl (decide (Good n cs))) G
theorem good_iff {n : Int} {cs : List Int} (h1 : 1 ≤ n ∧ n ≤ 3) (h2 : cs.length ≤ 12) : cs.all (goodB n) = decide (Good n cs) := by
  by_cases h : Good n cs
  · rw [decide_eq_true h, List.all_eq_true]
    intro c hc
    have := h.2.2 c hc
    unfold ab at this
    unfold goodB
    simp only [Bool.and_eq_true, decide_eq_true_eq]
    split at this <;> omega
  · rw [decide_eq_false h]
    apply Bool.eq_false_iff.mpr
    intro ha
    rw [List.all_eq_true] at ha
    refine h ⟨h1, h2, fun c hc => ?_⟩
    have := ha c hc
    unfold goodB at this
    simp only [Bool.and_eq_true, decide_eq_true_eq] at this
    unfold ab
    split <;> omega
def rd_law_good : TS2 :=
  (dSeq (dIfS (dOr (dTru (dBin (rIn true) (dVar 1) (dTup (dCons (dC (.int 1)) (dCons (dC (.int 2)) (dCons (dC (.int 3)) dNil)))))) (dTru (dBin rGt (dCB cLen (dCons (dVar 0) dNil)) (dC (.int 12))))) (dRet (dFz (dC (.bl false)))) dNext)
  (dRet (dFz (dCB cAll (dCons (dComp 1 [1] (iSeq (dVar 0)) (gName 0) none (dAndV (dBin (rEq true) (dVar 0) (dC (.int 0))) (dChain rLt rLt (dUn rNeg (dVar 1)) (dVar 0) (dVar 1)))) dNil)))))
theorem OK_law_good (ds : List D) (G : Gp) (Q : DK) (h : sp_law_good ds G Q fun _ _ => False) : rd_law_good (fun _ _ => False) (ends Q) (start2 2 ds) G := by
  obtain ⟨cs, n, rfl, hl, q⟩ := h
  unfold rd_law_good
  refine seq_by (fun τ G' => G = G' ∧ ((1 ≤ n ∧ n ≤ 3) ∧ cs.length ≤ 12) ∧ τ = [some (.rol (cs.map D.int)), some (.int n)]) ?_ ?_
  · intro N hN
    simp only [dIfS, dOr, start2, List.map_cons, List.map_nil, List.length_cons, List.length_nil, List.cons_append, List.nil_append, dRet, dFz, dC, ends, dNext, if_true, dTru_at, dBin, dCB, dCons, dVar, List.getElem?_cons_zero, dNil, cLen_rol, rGt_int, truAt_bl, List.getElem?_cons_succ, dTup]
    refine ⟨by decide, rIn_tup (α := Int) (xs := [1, 2, 3]) (by decide) ?_⟩
    rw [truAt_bl, if_pos rfl]
    by_cases hm : n ∈ [1, 2, 3]
    · rw [if_neg (by simp only [hm, decide_true]; decide)]
      have h1 : 1 ≤ n ∧ n ≤ 3 := by
        have : n = 1 ∨ n = 2 ∨ n = 3 := by simpa using hm
        omega
      by_cases h2 : cs.length ≤ 12
      · rw [if_neg (by simp; omega)]
        exact hN _ _ ⟨rfl, ⟨h1, h2⟩, rfl⟩
      · rw [if_pos (by simp; omega)]
        rw [decide_eq_false (fun g => h2 g.2.1)] at q
        exact fz_id q
    · rw [if_pos (by simp only [hm, decide_false]; rfl)]
      rw [decide_eq_false (fun g => hm (by
        have : n = 1 ∨ n = 2 ∨ n = 3 := by have := g.1; omega
        simpa using this))] at q
      exact fz_id q
  · rintro _ _ ⟨rfl, ⟨h1, h2⟩, rfl⟩
    rw [← good_iff h1 h2] at q
    simp only [dRet, dFz, dCB, dCons, dComp, dNil, ends, iSeq_at, dVar, List.getElem?_cons_zero, iAt_rol]
    refine ⟨szl (by rw [List.length_map]; exact hl), ?_⟩
    refine comp_enc (xs := cs) (fun pre acc τ G' => G = G' ∧ acc = (pre.map (goodB n)).map D.bl ∧ ∃ x, τ = [x, some (.int n)]) ⟨rfl, rfl, _, rfl⟩ (fun _ _ _ _ _ => trivial) ?_ ?_
    · rintro pre c post acc τ G' N e ⟨rfl, rfl, x, rfl⟩ hN
      simp only [gName, List.set_cons_zero, dAndV_at, dBin, dVar, List.getElem?_cons_zero, dC]
      refine rEq_enc (α := Int) (by decide) ?_
      rw [truAt_bl, if_pos rfl]
      by_cases h0 : c = 0
      · have e0 : (!decide (c = 0)) = false := by simp [h0]
        rw [e0, if_neg Bool.false_ne_true]
        refine hN _ _ _ ⟨rfl, ?_, _, rfl⟩
        have : goodB n c = false := by unfold goodB; simp [h0]
        simp [this]
      · have e0 : (!decide (c = 0)) = true := by simp [h0]
        rw [e0, if_pos rfl]
        refine chV_lt (x := -n) (y := c) (z := n) (fun _ => rfl) (fun _ => rfl) (fun _ => rfl) ?_
        refine hN _ _ _ ⟨rfl, ?_, _, rfl⟩
        have : goodB n c = (decide (-n < c) && decide (c < n)) := by unfold goodB; simp [h0]
        simp [this]
    · rintro acc τ G' ⟨rfl, rfl, x, rfl⟩ p hp
      refine ⟨cs.map (goodB n), by rw [itemsOf_of (IsL.ref updG_same)], ?_⟩
      refine fz_drop (.new hp) ?_
      rw [List.all_map]
      exact q
end K66
end K2
end
section
set_option autoImplicit false
set_option linter.all false
set_option maxRecDepth 100000
set_option maxHeartbeats 4000000
namespace K2
open PySem (Str)
open Enc (enc)
namespace K66
open K2.P
def ltr (n c : Int) : Int := (1 + c / 2 % (n - 1)) * (1 - 2 * (c % 2))
def lts (n : Int) (ns : List Int) : List Int := if n > 1 then ns.map (ltr n) else []
def sp_law_letters : Sp2 := fun ds G Q _ => ∃ (d : D) (ns : List Int) (n : Int), ds = [d, .int n] ∧ IsL G d (ns.map D.int) ∧ (ns.length ≤ 1000 ∧ n ≤ 1000) ∧ ∀ p, G p = none → Q (.ref p) (updG G p (.lst ((lts n ns).map D.int)))
def rd_law_letters : TS2 :=
  (dSeq (dAsg (dLst dNil) (gName 2))
  (dSeq (dFor (iSeq (dVar 0)) (gName 3) (dIfS (dTru (dBin rGt (dVar 1) (dC (.int 1)))) (dExpr (dMt tyL mAppend (dVar 2) (dCons (dBin rMul (dBin rAdd (dC (.int 1)) (dBin rMod (dBin rFdiv (dVar 3) (dC (.int 2))) (dBin rSub (dVar 1) (dC (.int 1))))) (dBin rSub (dC (.int 1)) (dBin rMul (dC (.int 2)) (dBin rMod (dVar 3) (dC (.int 2)))))) dNil))) dNext))
  (dRet (dFz (dVar 2)))))
theorem OK_law_letters (ds : List D) (G : Gp) (Q : DK) (h : sp_law_letters ds G Q fun _ _ => False) : rd_law_letters (fun _ _ => False) (ends Q) (start2 4 ds) G := by
  obtain ⟨d, ns, n, rfl, hd, ⟨hl, hn⟩, q⟩ := h
  unfold rd_law_letters
  simp only [ends, start2, List.map_cons, List.map_nil, List.length_cons, List.length_nil, List.replicate, List.cons_append, List.nil_append, seq_asg, dAsg, dLst, dNil, gName, List.set_cons_succ, List.set_cons_zero]
  refine ⟨by decide, fun a ha => ?_⟩
  have hd2 : IsL (updG G a (.lst [])) d (ns.map D.int) := hd.mono (.new ha)
  refine seq_by (fun τ G' => (∃ x, τ = [some d, some (.int n), some (.ref a), x]) ∧ GLe G G' ∧ G' a = some (.lst ((lts n ns).map D.int))) ?_ ?_
  · intro N hN
    simp only [dFor, iSeq_at, dVar, List.getElem?_cons_zero]
    have key : ∀ ok : Gp → Prop, (∀ G', GLe G G' → ok G') → forGo (gName 3) (dIfS (dTru (dBin rGt (dVar 1) (dC (.int 1)))) (dExpr (dMt tyL mAppend (dVar 2) (dCons (dBin rMul (dBin rAdd (dC (.int 1)) (dBin rMod (dBin rFdiv (dVar 3) (dC (.int 2))) (dBin rSub (dVar 1) (dC (.int 1))))) (dBin rSub (dC (.int 1)) (dBin rMul (dC (.int 2)) (dBin rMod (dVar 3) (dC (.int 2)))))) dNil))) dNext) ok (ns.map D.int) (fun _ _ => False) { ends Q with nx := N } [some d, some (.int n), some (.ref a), none] (updG G a (.lst [])) := by
      intro ok hok
      refine for_enc (xs := ns) (fun pre τ G' => (∃ x, τ = [some d, some (.int n), some (.ref a), x]) ∧ GLe G G' ∧ G' a = some (.lst ((lts n pre).map D.int))) ⟨⟨_, rfl⟩, .new ha, by rw [updG_same]; unfold lts; split <;> rfl⟩ (fun _ _ _ h => hok _ h.2.1) ?_ ?_
      · rintro pre c post τ G' N2 e ⟨⟨x, rfl⟩, l, ga⟩ hN2
        have hpl : pre.length ≤ 1000 := by
          have := congrArg List.length e
          simp at this
          omega
        simp only [gName, dIfS, List.set_cons_succ, List.set_cons_zero, dExpr, dMt, dVar, List.getElem?_cons_succ, List.getElem?_cons_zero, tyL_ref, dCons, dBin, dC, dNil, mAppend_ref, rMod_int, rMul_int, rSub_int, rFdiv_int, rAdd_int, dNext, dTru_at, rGt_int, truAt_bl]
        by_cases h : n > 1
        · rw [if_pos (decide_eq_true h)]
          have el : lts n (pre ++ [c]) = lts n pre ++ [ltr n c] := by unfold lts; rw [if_pos h, if_pos h, List.map_append]; rfl
          rw [el] at hN2
          simp only [ga]
          refine ⟨trivial, by decide, by decide, by omega, by decide, .inl (by decide), .inr ?_, ?_⟩
          · omega
          · refine ⟨szlt ?_, hN2 _ _ ⟨⟨_, rfl⟩, l.put ha, ?_⟩⟩
            · unfold lts; rw [if_pos h]; simp; exact hpl
            · rw [updG_same, List.map_append]; rfl
        · rw [if_neg (by simp; omega)]
          refine hN2 _ _ ⟨⟨_, rfl⟩, l, ?_⟩
          rw [ga]; unfold lts; rw [if_neg h, if_neg h]
      · rintro τ G' ⟨⟨x, rfl⟩, l, ga⟩
        exact hN _ _ ⟨⟨_, rfl⟩, l, ga⟩
    rcases hd with rfl | ⟨b, rfl, e⟩
    · exact key _ fun _ _ => trivial
    · have hba : b ≠ a := fun z => by rw [z, ha] at e; cases e
      rw [iAt_lst (show updG G a (.lst []) b = some (.lst (ns.map D.int)) by rw [updG_ne hba]; exact e)]
      exact key _ fun G' l => l b _ e
  · rintro _ G' ⟨⟨x, rfl⟩, l, ga⟩
    simp only [dRet, dFz, dVar, List.getElem?_cons_succ, List.getElem?_cons_zero]
    exact fz_one l ha ga (q a ha)
end K66
end K2
end
section
set_option autoImplicit false
set_option linter.all false
set_option maxRecDepth 100000
set_option maxHeartbeats 4000000
namespace K2
open PySem (Str)
open Enc (enc)
namespace K66
open K2.P
def sp_law_refused : Sp2 := fun ds G Q _ => ∃ (cs : List Int) (n : Int), ds = [.rol (cs.map D.int), .int n] ∧ (cs.length ≤ 1000 ∧ ¬ Good n cs) ∧ Q (.bl true) G
def rd_law_refused : TS2 :=
  (dSeq (dAsg (dC .non) (gName 2))
  (dSeq (dTryC sp_closedX (dCons (dVar 0) (dCons (dVar 1) dNil)) 3 ["NoBraid"] (dAsg (dVar 3) (gName 2)))
  (dRet (dFz (dAndV (dIsiO ["NoBraid"] ["NoBraid"] (dVar 2)) (dAndV (dIsiV ["NoBraid"] (dVar 2)) (dNotV (dIsiO ["NoBraid"] [] (dVar 2)))))))))
theorem OK_law_refused (ds : List D) (G : Gp) (Q : DK) (h : sp_law_refused ds G Q fun _ _ => False) : rd_law_refused (fun _ _ => False) (ends Q) (start2 4 ds) G := by
  obtain ⟨cs, n, rfl, ⟨hl, hg⟩, q⟩ := h
  unfold rd_law_refused
  simp only [ends, start2, List.map_cons, List.map_nil, List.length_cons, List.length_nil, List.replicate, List.cons_append, List.nil_append, seq_step, dAsg, dC, gName, List.set_cons_succ, List.set_cons_zero, dTryC, dCons, dVar, List.getElem?_cons_zero, List.getElem?_cons_succ, dNil, dRet, dFz, dAndV_at, dNotV_at]
  refine ⟨cs, n, rfl, hl, fun g => absurd g hg, fun _ => ⟨by decide, ?_⟩⟩
  have e1 : (["NoBraid"] : List Str).contains "NoBraid" = true := by decide
  have e2 : ([] : List Str).contains "NoBraid" = false := by decide
  simp only [dIsiO, dVar, List.getElem?_cons_succ, List.getElem?_cons_zero, e1, dIsiV, e2, truAt_bl, Bool.not_false, true_and, if_true]
  exact fz_id q
end K66
end K2
end
section
set_option autoImplicit false
set_option linter.all false
set_option maxRecDepth 100000
set_option maxHeartbeats 4000000
namespace K2
open PySem (Str)
open Enc (enc)
namespace K66
open K2.P K2.K12
theorem ifs_at {c : TT2} {a b : TS2} {E : XK2} {K : Ends2} {τ : St2} {G : Gp} : dIfS c a b E K τ G = c E τ G fun k G1 => if k = true then a E K τ G1 else b E K τ G1 := rfl
def rd_law_groups : TS2 :=
  (dSeq (dIfS (dNot (dTru (dIsi "list" (dVar 0)))) (dRet (dFz (dC (.bl false)))) dNext)
  (dSeq (dFor (iSeq (dVar 0)) (gName 2) (dSeq (dIfS (dOr (dNot (dTru (dIsi "list" (dVar 2)))) (dTru (dBin (rEq false) (dVar 2) (dLst dNil)))) (dRet (dFz (dC (.bl false)))) dNext)
  (dFor (iSeq (dVar 2)) (gName 3) (dSeq (dIfS (dOr (dNot (dTru (dIsi "tuple" (dVar 3)))) (dTru (dBin (rEq true) (dCB cLen (dCons (dVar 3) dNil)) (dVar 1)))) (dRet (dFz (dC (.bl false)))) dNext)
  (dIfS (dNot (dTru (dCB cAll (dCons (dComp 1 [] (iSeq (dVar 3)) (gName 0) none (dCall sp_law_whole (dCons (dVar 0) dNil))) dNil)))) (dRet (dFz (dC (.bl false)))) dNext)))))
  (dRet (dFz (dC (.bl true))))))
def sp_law_groups : Sp2 := fun ds G Q _ => ∃ (d : D) (gs : List (List T3)), ds = [d, .int 3] ∧ IsL G d (gs.map enc) ∧ (∀ g ∈ gs, g ≠ []) ∧ Q (.bl true) G
theorem OK_law_groups (ds : List D) (G : Gp) (Q : DK) (h : sp_law_groups ds G Q fun _ _ => False) : rd_law_groups (fun _ _ => False) (ends Q) (start2 4 ds) G := by
  obtain ⟨d, gs, rfl, hd, hne, q⟩ := h
  unfold rd_law_groups
  simp only [ends, start2, List.map_cons, List.map_nil, List.length_cons, List.length_nil, List.replicate, List.cons_append, List.nil_append, seq_step, ifs_at, dNot, dRet, dFz, dC, dNext, dTru_at, dIsi_at, dVar, List.getElem?_cons_zero]
  refine isAt_of hd ?_
  simp only [beq_self_eq_true, truAt_bl, Bool.not_true, Bool.false_eq_true, if_false]
  simp only [dFor, iSeq_at, dVar, List.getElem?_cons_zero]
  refine iAt_of' hd (.refl G) fun ok hok => ?_
  refine for_enc (xs := gs) (fun pre τ G' => (∃ a b, τ = [some d, some (.int 3), a, b]) ∧ GLe G G') ⟨⟨_, _, rfl⟩, .refl G⟩ (fun _ _ _ h => hok _ h.2) ?_ ?_
  · rintro pre g post τ G1 N2 e ⟨⟨a, b, rfl⟩, l1⟩ hN2
    have hg := hne g (by rw [e]; simp)
    simp only [gName, List.set_cons_succ, List.set_cons_zero, seq_step, ifs_at, dOr, dNot, dRet, dFz, dC, dNext, if_true, dTru_at, dBin, dVar, List.getElem?_cons_succ, List.getElem?_cons_zero, dLst, dNil, List.length_nil, dIsi_at]
    refine isAt_of (IsL.enc g) ?_
    simp only [beq_self_eq_true, truAt_bl, Bool.not_true, Bool.false_eq_true, if_false]
    refine ⟨by decide, fun p hp => ?_⟩
    refine ⟨enc g, enc ([] : List T3), Enc.sn _ _ _ (by decide), .ref updG_same .rnil, ?_⟩
    rw [Enc.eqv]
    simp only [Bool.false_eq_true, hg, decide_false, Bool.not_false, if_false, dFor, iSeq_at, dVar, List.getElem?_cons_succ, List.getElem?_cons_zero, truAt_bl]
    refine iAt_enc ?_
    refine for_enc (xs := g) (fun pre τ G' => (∃ a b, τ = [some d, some (.int 3), a, b]) ∧ GLe G G') ⟨⟨_, _, rfl⟩, l1.trans (.new hp)⟩ (fun _ _ _ _ => trivial) ?_ ?_
    · rintro pre2 t post2 τ G2 N3 e2 ⟨⟨a, b, rfl⟩, l2⟩ hN3
      simp only [gName, enc_T3, List.set_cons_succ, List.set_cons_zero, seq_step, ifs_at, dOr, dNot, dRet, dFz, dC, dNext, dTru_at, dCB, dCons, dComp, dNil, iSeq_at, dVar, List.getElem?_cons_succ, List.getElem?_cons_zero, iAt_tup, List.length_cons, List.length_nil, if_true, dBin, cLen_tup, dIsi_at, isAt_tup, beq_self_eq_true, truAt_bl, Bool.not_true, Bool.false_eq_true, if_false]
      refine ⟨_, _, .int _, .int _, ?_⟩
      simp only [eqD, if_true, truAt_bl]
      have e3 : ((((0 + 1 + 1 + 1 : Nat) : Int) == 3)) = true := rfl
      simp only [e3, Bool.not_true, Bool.false_eq_true, if_false]
      refine ⟨by decide, ?_⟩
      refine comp_enc (f := D.int) (xs := [t.a, t.b, t.c]) (fun pre acc τ G' => G2 = G' ∧ (∃ a, τ = [a]) ∧ acc = (pre.map fun _ => true).map D.bl) ⟨rfl, ⟨_, rfl⟩, rfl⟩ (fun _ _ _ _ _ => trivial) ?_ ?_
      · rintro pre3 i post3 acc τ G' N4 e4 ⟨rfl, ⟨a, rfl⟩, rfl⟩ hN4
        simp only [gName, dCall, dCons, dVar, List.set_cons_zero, List.getElem?_cons_zero, dNil]
        refine ⟨i, rfl, hN4 _ _ _ ⟨rfl, ⟨_, rfl⟩, ?_⟩⟩
        simp
      · rintro acc τ G' ⟨rfl, ⟨a, rfl⟩, rfl⟩ p4 hp4
        refine ⟨[true, true, true], by unfold itemsOf; simp only [updG_same]; rfl, ?_⟩
        exact hN3 _ _ ⟨⟨_, _, rfl⟩, l2.trans (.new hp4)⟩
    · rintro τ G2 ⟨⟨a, b, rfl⟩, l2⟩
      exact hN2 _ _ ⟨⟨_, _, rfl⟩, l2⟩
  · rintro τ G' ⟨⟨a, b, rfl⟩, l⟩
    simp only [dRet, dFz, dC]
    exact fz_drop l q
end K66
end K2
end
section
set_option autoImplicit false
set_option linter.all false
set_option maxRecDepth 100000
set_option maxHeartbeats 4000000
namespace K2
open PySem (Str)
open Enc (enc)
namespace K66
open K2.P K2.K12
section
variable {α : Type}
def f0 (f : Int → Int) (p : Int) : Int := f (p + 1) - 1
def r0 (r : Int → List α) (p : Int) : List α := r (p + 1)
theorem cls_d1 (f : Int → Int) (r : Int → List α) (h : f 1 = 1) : cls f r [1] [] [] = due (f0 f) (r0 r) [0] [] [] := by
  simp [cls, due, rnd, h, f0, r0]
theorem cls_d2 (f : Int → Int) (r : Int → List α) (h1 : 1 ≤ f 1 ∧ f 1 ≤ 2) (h2 : 1 ≤ f 2 ∧ f 2 ≤ 2) (inj : f 1 ≠ f 2) : cls f r [1, 2] [] [] = due (f0 f) (r0 r) [0, 1] [] [] := by
  have a1 : f 1 = 1 ∨ f 1 = 2 := by omega
  rcases a1 with a1 | a1
  · have a2 : f 2 = 2 := by omega
    simp [cls, due, rnd, a1, a2, f0, r0]
  · have a2 : f 2 = 1 := by omega
    simp [cls, due, rnd, a1, a2, f0, r0]
theorem cls_d3 (f : Int → Int) (r : Int → List α) (h1 : 1 ≤ f 1 ∧ f 1 ≤ 3) (h2 : 1 ≤ f 2 ∧ f 2 ≤ 3) (h3 : 1 ≤ f 3 ∧ f 3 ≤ 3) (i12 : f 1 ≠ f 2) (i13 : f 1 ≠ f 3) (i23 : f 2 ≠ f 3) : cls f r [1, 2, 3] [] [] = due (f0 f) (r0 r) [0, 1, 2] [] [] := by
  have a1 : f 1 = 1 ∨ f 1 = 2 ∨ f 1 = 3 := by omega
  have a2 : f 2 = 1 ∨ f 2 = 2 ∨ f 2 = 3 := by omega
  have a3 : f 3 = 1 ∨ f 3 = 2 ∨ f 3 = 3 := by omega
  rcases a1 with a1 | a1 | a1 <;> rcases a2 with a2 | a2 | a2 <;> rcases a3 with a3 | a3 | a3 <;> first | (exfalso; omega) | simp [cls, due, rnd, a1, a2, a3, f0, r0]
def dst (f : Int → Int) (r : Int → List α) (s : List (List α) × List Int) (t : Int) : List (List α) × List Int :=
  if t ∈ s.2 then s else (s.1 ++ [(rnd f r 4 t s.2 []).1], (rnd f r 4 t s.2 []).2)
theorem due_fold (f : Int → Int) (r : Int → List α) : ∀ (ts : List Int) (rows : List (List α)) (met : List Int), due f r ts rows met = (ts.foldl (dst f r) (rows, met)).1
  | [], _, _ => rfl
  | t :: ts, rows, met => by
    rw [due, List.foldl_cons]
    unfold dst
    by_cases h : t ∈ met
    · rw [if_pos h, if_pos h]; exact due_fold f r ts rows met
    · rw [if_neg h, if_neg h]; exact due_fold f r ts _ _
end
def tops0 (n : Int) : List Int := (List.range n.toNat).map fun (i : Nat) => (i : Int)
theorem clo_due {n : Int} {cs : List Int} (g : Good n cs) : cls (las cs) (dwn 1 cs) (tops n) [] [] = ((tops0 n).foldl (dst (f0 (las cs)) (r0 (dwn 1 cs))) ([], [])).1 := by
  rw [← due_fold]
  obtain ⟨⟨n1, n2⟩, hl, hc⟩ := g
  have hin := fun (p : Int) (h : 1 ≤ p ∧ p ≤ n) => las_in cs hc h
  have hj : ∀ p q, p ≠ q → las cs p ≠ las cs q := fun p q h e => h (las_inj cs e)
  have : n = 1 ∨ n = 2 ∨ n = 3 := by omega
  rcases this with rfl | rfl | rfl
  · show cls _ _ [1] [] [] = due _ _ [0] [] []
    exact cls_d1 _ _ (by have := hin 1 (by omega); omega)
  · show cls _ _ [1, 2] [] [] = due _ _ [0, 1] [] []
    exact cls_d2 _ _ (hin 1 (by omega)) (hin 2 (by omega)) (hj _ _ (by omega))
  · show cls _ _ [1, 2, 3] [] [] = due _ _ [0, 1, 2] [] []
    exact cls_d3 _ _ (hin 1 (by omega)) (hin 2 (by omega)) (hin 3 (by omega)) (hj _ _ (by omega)) (hj _ _ (by omega)) (hj _ _ (by omega))
def sp_law_due : Sp2 := fun ds G Q _ => ∃ (cs : List Int) (n : Int), ds = [.rol (cs.map D.int), .int n] ∧ Good n cs ∧ Q (enc (clo n cs)) G
def Frm (b : Nat) (G G' : Gp) : Prop := ∀ (y : Nat) (o : GO), y ≠ b → G y = some o → G' y = some o
theorem Frm.le {b : Nat} {G G' : Gp} {o : GO} (h : Frm b G G') (hb : G' b = some o) : GLe (updG G b o) G' := by
  intro y z hy
  by_cases e : y = b
  · rw [e, updG_same] at hy; rw [e, hb, ← hy]
  · rw [updG_ne e] at hy; exact h y z e hy
theorem Frm.b {b : Nat} {G G' : Gp} {o : GO} (h : Frm b G G') : Frm b G (updG G' b o) := fun y z e hy => by rw [updG_ne e]; exact h y z e hy
theorem Frm.c {b c : Nat} {G G' : Gp} {o : GO} (h : Frm b G G') (hc : G c = none) : Frm b G (updG G' c o) := fun y z e hy => by
  rw [updG_ne (fun w => by rw [w, hc] at hy; cases hy)]; exact h y z e hy
def In0 (n : Int) (met : List Int) : Prop := met.Nodup ∧ ∀ y ∈ met, 0 ≤ y ∧ y < n
theorem In0.len {n : Int} {met : List Int} (h : In0 n met) (hn : n ≤ 3) : met.length ≤ 3 :=
  nodup_sub_len met [0, 1, 2] h.1 fun x m => by
    have := h.2 x m
    have : x = 0 ∨ x = 1 ∨ x = 2 := by omega
    simpa using this
theorem due_wh {cs : List Int} {n t : Int} (g : Good n cs) {a b c : Nat} {G0 : Gp} (hbc : b ≠ c) (hc0 : G0 c = none) {R : List T3 × List Int} {K : Ends2} {A S : Option D}
    (hN : ∀ (G : Gp) (p w : Option D), Frm b G0 G → G b = some (.lst (R.2.map enc)) → G c = some (.lst (R.1.map enc)) → In0 n R.2 → R.1.length ≤ 36 → K.nx [some (.rol (cs.map D.int)), some (.int n), some (.ref a), some (.ref b), some (.int t), some (.ref c), p, w, A] G) :
    ∀ (k : Nat) (u : Int) (met : List Int) (ps : List T3) (G : Gp) (w : Option D), 4 ≤ met.length + k → In0 n met → 0 ≤ u ∧ u < n → ps.length ≤ met.length * 12 → rnd (f0 (las cs)) (r0 (dwn 1 cs)) k u met ps = R →
      Frm b G0 G → G b = some (.lst (met.map enc)) → G c = some (.lst (ps.map enc)) →
      whGo (dTru (dBin (rIn true) (dVar 6) (dVar 3))) (dSeq (dExpr (dMt tyL mAppend (dVar 3) (dCons (dFz (dVar 6)) dNil)))
        (dSeq (dAsg (dCall sp_law_down (dCons (dVar 0) (dCons (dVar 6) dNil))) (gTup (gCons (gName 7) (gCons (gName 6) gNil))))
        (dExpr (dMt tyL mExtend (dVar 5) (dCons (dVar 7) dNil))))) k (fun _ _ => False) K [some (.rol (cs.map D.int)), some (.int n), some (.ref a), some (.ref b), some (.int t), some (.ref c), some (.int u), w, A] G := by
  obtain ⟨⟨n1, n2⟩, hl, hc⟩ := id g
  intro k
  induction k with
  | zero =>
    intro u met ps G w h1 h2
    have := h2.len n2
    omega
  | succ k ih =>
    intro u met ps G w h1 h2 h4 h5 h6 hf gb gc
    have hl3 := h2.len n2
    rw [whGo]
    simp only [dTru_at, dBin, dVar, List.getElem?_cons_succ, List.getElem?_cons_zero]
    refine rIn_ref (x := u) (xs := met) (by decide) gb ?_
    rw [truAt_bl, if_pos rfl]
    rw [rnd] at h6
    by_cases hm : u ∈ met
    · rw [if_pos hm] at h6
      subst h6
      rw [if_neg (by simp [hm])]
      exact hN _ _ _ hf gb gc h2 (by dsimp only; omega)
    · rw [if_neg hm] at h6
      rw [if_pos (by simp [hm])]
      have hlen := dwn_len cs 1 (u + 1)
      have hin := las_in cs hc (p := u + 1) (by omega)
      have ih' := ih (f0 (las cs) u) (met ++ [u]) (ps ++ r0 (dwn 1 cs) u) (updG (updG G b (.lst (met.map enc ++ [.int u]))) c (.lst (ps.map enc ++ (dwn 1 cs (u + 1)).map enc))) (some (enc (dwn 1 cs (u + 1))))
        (by rw [List.length_append]; simp; omega) ⟨List.nodup_append.mpr ⟨h2.1, by simp, fun y hy z hz => by rw [List.mem_singleton.mp hz]; exact fun e => hm (e ▸ hy)⟩,
        fun y hy => (List.mem_append.mp hy).elim (h2.2 y) fun hy => by rw [List.mem_singleton.mp hy]; exact h4⟩ (by unfold f0; omega)
        (by rw [List.length_append, List.length_append]; unfold r0; simp; omega) h6 (hf.b.c hc0)
        (by rw [updG_ne hbc, updG_same, List.map_append]; rfl) (by rw [updG_same, List.map_append]; rfl)
      generalize whGo _ _ k = W at ih' ⊢
      have gc2 : updG G b (.lst (met.map enc ++ [.int u])) c = some (.lst (ps.map enc)) := by rw [updG_ne (Ne.symm hbc)]; exact gc
      simp only [dSeq, dExpr, dMt, dVar, List.getElem?_cons_succ, List.getElem?_cons_zero, tyL_ref, gb, dCons, dFz, dNil, dAsg, dCall, mAppend_ref, true_and]
      refine fz_id ?_
      simp only [gb]
      refine ⟨szlt (by simp only [List.length_map]; omega), cs, u, rfl, ⟨by omega, fun c h z => ?_⟩, ?_⟩
      · have := (hc c h).1
        rw [z] at this
        revert this; decide
      simp only [gTup, gCons, gName, gNil, dExpr, dMt, dVar, List.set_cons_succ, List.set_cons_zero, List.getElem?_cons_succ, List.getElem?_cons_zero, tyL_ref, gc2, dCons, dNil, mExtend_ref, true_and]
      simp only [lstOf_of (IsL.enc _)]
      exact ⟨szl (by simp only [List.length_map]; omega), ih'⟩
end K66
end K2
end
section
set_option autoImplicit false
set_option linter.all false
set_option maxRecDepth 100000
set_option maxHeartbeats 4000000
namespace K2
open PySem (Str)
open Enc (enc)
namespace K66
open K2.P K2.K12
theorem due_end {cs : List Int} {n t : Int} {a b c : Nat} {G3 G2 : Gp} {r : List T3} {rows : List (List T3)} {K : Ends2} {p w A : Option D} (hr : r.length ≤ 36) (hro : rows.length ≤ 3)
    (l : GLe G3 G2) (gc : G2 c = some (.lst (r.map enc))) (hc : G3 c = none) (ga : G3 a = some (.lst (rows.map enc)))
    (hN : ∀ (x y z v : Option D), K.nx [some (.rol (cs.map D.int)), some (.int n), some (.ref a), some (.ref b), some (.int t), x, y, z, v] (updG G3 a (.lst ((rows ++ [seatT r]).map enc)))) :
    dSeq (dIfS (dTru (dBin (rEq true) (dVar 5) (dLst dNil))) (dSeq (dAsg (dMt tyL mIndex (dVar 5) (dCons (dCB cMin (dCons (dVar 5) dNil)) dNil)) (gName 8))
      (dAsg (dBin rAdd (dSl (dVar 5) (dPart (dVar 8)) dNoPart) (dSl (dVar 5) dNoPart (dPart (dVar 8)))) (gName 5))) dNext)
      (dExpr (dMt tyL mAppend (dVar 2) (dCons (dFz (dVar 5)) dNil))) (fun _ _ => False) K [some (.rol (cs.map D.int)), some (.int n), some (.ref a), some (.ref b), some (.int t), some (.ref c), p, w, A] G2 := by
  refine seq_by (fun τ G => ∃ (d : Nat) (v : Option D), τ = [some (.rol (cs.map D.int)), some (.int n), some (.ref a), some (.ref b), some (.int t), some (.ref d), p, w, v] ∧ GLe G3 G ∧ G3 d = none ∧ G d = some (.lst ((seatT r).map enc))) ?_ ?_
  · intro N hN2
    simp only [dIfS, seq_asg, dAsg, dMt, dVar, List.getElem?_cons_succ, List.getElem?_cons_zero, tyL_ref, dCons, dCB, dNil, gName, dBin, dSl, List.set_cons_succ, List.set_cons_zero, dNoPart, rSl_ref, dPart_at, dNext, dTru_at, dLst, List.length_nil]
    refine ⟨by decide, fun p1 hp1 => ?_⟩
    have l1 : GLe G2 (updG G2 p1 (.lst [])) := .new hp1
    have gc1 : updG G2 p1 (.lst []) c = some (.lst (r.map enc)) := l1 c _ gc
    refine ⟨enc r, enc ([] : List T3), .ref gc1 (sn_rol _ 7 (by decide) r), .ref updG_same .rnil, ?_⟩
    rw [Enc.eqv]
    show truAt _ _ _
    rw [truAt_bl, if_pos rfl]
    generalize hG1 : updG G2 p1 (.lst []) = G1 at *
    have l2 : GLe G3 G1 := l.trans l1
    by_cases hne : r = []
    · rw [if_neg (by simp [hne])]
      refine hN2 _ _ ⟨c, A, rfl, l2, hc, ?_⟩
      rw [gc1, hne]; rfl
    · rw [if_pos (by simp [hne])]
      have hi : itemsOf (.ref c) G1 = some (r.map enc) := by rw [itemsOf_of (IsL.ref gc1)]
      simp only [gc1, true_and]
      refine cMin_lst hi hne (mIndex_lst (by rw [tyL_ref]; simp only [gc1]) hi hne ?_)
      generalize hk : r.idxOf (lst1 r) = k
      have hkl : k ≤ r.length := by rw [← hk]; exact List.idxOf_le_length
      simp only [partAt, gc1]
      rw [cut_map, cut_from r k hkl]
      intro p2 hp2
      have gc2 : updG G1 p2 (.lst ((r.drop k).map enc)) c = some (.lst (r.map enc)) := GLe.new hp2 c _ gc1
      simp only [gc2, rAdd_ref]
      rw [cut_map, cut_to r k hkl]
      intro p3 hp3
      have hne2 : p2 ≠ p3 := fun z => by rw [← z, updG_same] at hp3; cases hp3
      have gl : GLe G1 (updG (updG G1 p2 (.lst ((r.drop k).map enc))) p3 (.lst ((r.take k).map enc))) := (GLe.new hp2).trans (.new hp3)
      have g1 : updG (updG G1 p2 (.lst ((r.drop k).map enc))) p3 (.lst ((r.take k).map enc)) p2 = some (.lst ((r.drop k).map enc)) := by rw [updG_ne hne2, updG_same]
      unfold addL
      rw [lstOf_of (IsL.ref (ds := (r.drop k).map enc) g1), lstOf_of (IsL.ref (ds := (r.take k).map enc) updG_same)]
      refine ⟨szl (by simp; omega), fun p4 hp4 => ?_⟩
      refine hN2 _ _ ⟨p4, _, rfl, (l2.trans gl).trans (.new hp4), (l2.trans gl).free hp4, ?_⟩
      rw [updG_same]
      unfold seatT
      rw [hk, List.map_append]
  · rintro _ G ⟨d, v, rfl, l1, hd, gd⟩
    simp only [dExpr, dMt, dVar, List.getElem?_cons_succ, List.getElem?_cons_zero, tyL_ref, dCons, dFz, dNil, mAppend_ref]
    have ga1 := l1 a _ ga
    simp only [ga1]
    refine ⟨trivial, fz_enc l1 hd gd ?_⟩
    simp only [ga]
    refine ⟨szlt (by rw [List.length_map]; omega), ?_⟩
    rw [List.map_append] at hN
    exact hN _ _ _ _
def rd_law_due : TS2 :=
  (dSeq (dAsg (dLst dNil) (gName 2))
  (dSeq (dAsg (dLst dNil) (gName 3))
  (dSeq (dFor (iRng1 (dVar 1)) (gName 4) (dIfS (dTru (dBin (rIn true) (dVar 4) (dVar 3))) (dSeq (dAsg (dLst dNil) (gName 5))
  (dSeq (dAsg (dVar 4) (gName 6))
  (dSeq (dWhile (dTru (dBin (rIn true) (dVar 6) (dVar 3))) (dSeq (dExpr (dMt tyL mAppend (dVar 3) (dCons (dFz (dVar 6)) dNil)))
  (dSeq (dAsg (dCall sp_law_down (dCons (dVar 0) (dCons (dVar 6) dNil))) (gTup (gCons (gName 7) (gCons (gName 6) gNil))))
  (dExpr (dMt tyL mExtend (dVar 5) (dCons (dVar 7) dNil))))))
  (dSeq (dIfS (dTru (dBin (rEq true) (dVar 5) (dLst dNil))) (dSeq (dAsg (dMt tyL mIndex (dVar 5) (dCons (dCB cMin (dCons (dVar 5) dNil)) dNil)) (gName 8))
  (dAsg (dBin rAdd (dSl (dVar 5) (dPart (dVar 8)) dNoPart) (dSl (dVar 5) dNoPart (dPart (dVar 8)))) (gName 5))) dNext)
  (dExpr (dMt tyL mAppend (dVar 2) (dCons (dFz (dVar 5)) dNil))))))) dNext))
  (dRet (dFz (dVar 2))))))
theorem OK_law_due (ds : List D) (G : Gp) (Q : DK) (h : sp_law_due ds G Q fun _ _ => False) : rd_law_due (fun _ _ => False) (ends Q) (start2 9 ds) G := by
  obtain ⟨cs, n, rfl, g, q⟩ := h
  obtain ⟨⟨n1, n2⟩, hl, hc⟩ := id g
  unfold rd_law_due
  simp only [ends, start2, List.map_cons, List.map_nil, List.length_cons, List.length_nil, List.replicate, List.cons_append, List.nil_append, seq_asg, dAsg, dLst, dNil, gName, List.set_cons_succ, List.set_cons_zero]
  refine ⟨by decide, fun a ha => ⟨by decide, fun b hb => ?_⟩⟩
  have hab : a ≠ b := fun z => by rw [← z, updG_same] at hb; cases hb
  have hb0 : G b = none := by rw [updG_ne (Ne.symm hab)] at hb; exact hb
  refine seq_by (fun τ G' => (∃ x1 x2 x3 x4 x5, τ = [some (D.rol (List.map D.int cs)), some (D.int n), some (D.ref a), some (D.ref b), x1, x2, x3, x4, x5]) ∧ GLe G G' ∧ G' a = some (.lst ((((tops0 n).foldl (dst (f0 (las cs)) (r0 (dwn 1 cs))) ([], [])).1.map seatT).map enc))) ?_ ?_
  · intro N hN
    simp only [dFor, iRng1_at, dVar, List.getElem?_cons_succ, List.getElem?_cons_zero, rngAt_int]
    unfold rangeD
    refine ⟨by omega, by omega, ?_⟩
    refine for_enc (xs := List.range n.toNat) (fun pre τ G' => (∃ x1 x2 x3 x4 x5, τ = [some (D.rol (List.map D.int cs)), some (D.int n), some (D.ref a), some (D.ref b), x1, x2, x3, x4, x5]) ∧ GLe G G' ∧ ∃ (rows : List (List T3)) (met : List Int), (pre.map fun (i : Nat) => (i : Int)).foldl (dst (f0 (las cs)) (r0 (dwn 1 cs))) ([], []) = (rows, met) ∧ G' a = some (.lst ((rows.map seatT).map enc)) ∧ G' b = some (.lst (met.map enc)) ∧ In0 n met ∧ rows.length ≤ pre.length)
      ⟨⟨_, _, _, _, _, rfl⟩, (GLe.new ha).trans (.new hb), [], [], rfl, by rw [updG_ne hab, updG_same]; rfl, by rw [updG_same]; rfl, ⟨by simp, by simp⟩, by simp⟩ (fun _ _ _ _ => trivial) ?_ ?_
    · rintro pre i post τ G' N2 e ⟨⟨x1, x2, x3, x4, x5, rfl⟩, l, rows, met, es, ga, gb, hm, hrl⟩ hN2
      have hi : (i : Int) < n := by
        have : i ∈ List.range n.toNat := by rw [e]; simp
        have := List.mem_range.mp this
        omega
      have hpl : pre.length ≤ 2 := by
        have := congrArg List.length e
        simp at this
        omega
      simp only [gName, Int.zero_add, List.set_cons_succ, List.set_cons_zero, ifs_at, seq_asg, dAsg, dLst, dNil, List.length_nil, dVar, List.getElem?_cons_succ, List.getElem?_cons_zero, dNext, dTru_at, dBin]
      refine rIn_ref (x := (i : Int)) (xs := met) (by decide) gb ?_
      rw [truAt_bl, if_pos rfl]
      by_cases hmm : (i : Int) ∈ met
      · rw [if_neg (by simp [hmm])]
        refine hN2 _ _ ⟨⟨_, _, _, _, _, rfl⟩, l, rows, met, ?_, ga, gb, hm, by simp; omega⟩
        rw [List.map_append, List.foldl_append, es]
        simp only [List.map_cons, List.map_nil, List.foldl_cons, List.foldl_nil]
        unfold dst
        rw [if_pos hmm]
      · rw [if_pos (by simp [hmm])]
        refine ⟨by decide, fun c hc => ?_⟩
        have hbc : b ≠ c := fun z => by rw [← z, gb] at hc; cases hc
        have hac : a ≠ c := fun z => by rw [← z, ga] at hc; cases hc
        generalize hR : rnd (f0 (las cs)) (r0 (dwn 1 cs)) 4 (i : Int) met [] = R
        refine seq_by (fun τ G2 => ∃ (p w : Option D), τ = [some (.rol (cs.map D.int)), some (.int n), some (.ref a), some (.ref b), some (.int (i : Int)), some (.ref c), p, w, x5] ∧ Frm b G' G2 ∧ G2 b = some (.lst (R.2.map enc)) ∧ G2 c = some (.lst (R.1.map enc)) ∧ In0 n R.2 ∧ R.1.length ≤ 36) ?_ ?_
        · intro N3 hN3
          refine ⟨4, ?_⟩
          refine due_wh g (K := { nx := N3, rt := Q, bk := N, ct := N2 }) (S := none) hbc hc (R := R) (fun G2 p w h1 h2 h3 h4 h5 => hN3 _ _ ⟨p, w, rfl, h1, h2, h3, h4, h5⟩) 4 i met [] (updG G' c (.lst [])) x4 (by omega) hm (by omega) (by simp) hR ?_ ?_ ?_
          · exact Frm.c (fun _ _ _ h => h) hc
          · rw [updG_ne hbc]; exact gb
          · rw [updG_same]; rfl
        · rintro _ G2 ⟨p, w, rfl, h1, h2, h3, h4, h5⟩
          have l3 := h1.le h2
          have ga3 : updG G' b (.lst (R.2.map enc)) a = some (.lst ((rows.map seatT).map enc)) := by rw [updG_ne hab]; exact ga
          refine due_end (rows := rows.map seatT) h5 (by rw [List.length_map]; omega) l3 h3 (by rw [updG_ne (Ne.symm hbc)]; exact hc) ga3 fun x y z v => ?_
          refine hN2 _ _ ⟨⟨_, _, _, _, _, rfl⟩, (l.put hb0).put ha, rows ++ [R.1], R.2, ?_, ?_, ?_, h4, by simp; omega⟩
          · rw [List.map_append, List.foldl_append, es]
            simp only [List.map_cons, List.map_nil, List.foldl_cons, List.foldl_nil]
            unfold dst
            rw [if_neg hmm, hR]
          · rw [updG_same, List.map_append (f := seatT)]; rfl
          · rw [updG_ne (Ne.symm hab), updG_same]
    · rintro τ G' ⟨⟨x1, x2, x3, x4, x5, rfl⟩, l, rows, met, es, ga, gb, hm, hrl⟩
      refine hN _ _ ⟨⟨_, _, _, _, _, rfl⟩, l, ?_⟩
      unfold tops0
      rw [es]; exact ga
  · rintro _ G' ⟨⟨x1, x2, x3, x4, x5, rfl⟩, l, ga⟩
    simp only [dRet, dFz, dVar, List.getElem?_cons_succ, List.getElem?_cons_zero]
    refine fz_enc l ha ga ?_
    unfold clo at q
    rw [clo_due g] at q
    exact q
end K66
end K2
end
section
set_option autoImplicit false
set_option linter.all false
set_option maxRecDepth 100000
set_option maxHeartbeats 4000000
namespace K2
open PySem (Str)
open Enc (enc)
namespace K66
open K2.P K2.K12
def rd_law : TS2 :=
  (dSeq (dAsg (dCall sp_law_cell (dCons (dVar 0) (dCons (dC (.int 0)) dNil))) (gName 1))
  (dSeq (dAsg (dBin rAdd (dC (.int 1)) (dBin rMod (dVar 1) (dC (.int 3)))) (gName 2))
  (dSeq (dAsg (dSl (dVar 0) (dPart (dC (.int 1))) (dPart (dC (.int 13)))) (gName 3))
  (dSeq (dIfS (dTru (dBin (rEq false) (dBin rMod (dBin rFdiv (dVar 1) (dC (.int 3))) (dC (.int 6))) (dC (.int 4)))) (dAsg (dSl (dVar 0) (dPart (dC (.int 1))) (dPart (dC (.int 41)))) (gName 3)) dNext)
  (dSeq (dAsg (dCall sp_law_letters (dCons (dVar 3) (dCons (dVar 2) dNil))) (gName 4))
  (dSeq (dIfS (dTru (dBin (rEq false) (dBin rMod (dBin rFdiv (dVar 1) (dC (.int 3))) (dC (.int 6))) (dC (.int 3)))) (dAsg (dBin rIx (dTup (dCons (dC (.int 0)) (dCons (dC (.int 4)) (dCons (dUn rNeg (dC (.int 1))) (dCons (dBin rAdd (dC (.int 5)) (dBin rMod (dCall sp_law_cell (dCons (dVar 0) (dCons (dC (.int 1)) dNil))) (dBin rPow (dC (.int 10)) (dC (.int 40))))) dNil))))) (dBin rMod (dCall sp_law_cell (dCons (dVar 0) (dCons (dC (.int 2)) dNil))) (dC (.int 4)))) (gName 2)) dNext)
  (dSeq (dIfS (dTru (dBin (rEq false) (dBin rMod (dBin rFdiv (dVar 1) (dC (.int 3))) (dC (.int 6))) (dC (.int 5)))) (dSeq (dAsg (dBin rIx (dTup (dCons (dC (.int 0)) (dCons (dVar 2) (dCons (dUn rNeg (dVar 2)) (dCons (dBin rMod (dCall sp_law_cell (dCons (dVar 0) (dCons (dC (.int 1)) dNil))) (dBin rPow (dC (.int 10)) (dC (.int 40)))) dNil))))) (dBin rMod (dCall sp_law_cell (dCons (dVar 0) (dCons (dC (.int 2)) dNil))) (dC (.int 4)))) (gName 5))
  (dExpr (dMt tyL mInsert (dVar 4) (dCons (dCall sp_law_part (dCons (dCall sp_law_cell (dCons (dVar 0) (dCons (dC (.int 3)) dNil))) (dCons (dC (.int 1009)) (dCons (dBin rAdd (dCB cLen (dCons (dVar 4) dNil)) (dC (.int 1))) dNil)))) (dCons (dVar 5) dNil))))) dNext)
  (dSeq (dFzV 4 (dAsg (dFz (dCB cList (dCons (dVar 4) dNil))) (gName 6)))
  (dSeq (dIfS (dNot (dTru (dCall sp_law_good (dCons (dVar 4) (dCons (dVar 2) dNil))))) (dRet (dFz (dAndV (dCall sp_law_refused (dCons (dVar 6) (dCons (dVar 2) dNil))) (dBin (rEq false) (dVar 6) (dVar 4))))) dNext)
  (dSeq (dAsg (dCall sp_closed (dCons (dVar 6) (dCons (dVar 2) dNil))) (gName 7))
  (dSeq (dIfS (dOr (dNot (dTru (dIsi "list" (dVar 7)))) (dTru (dBin (rEq true) (dVar 6) (dVar 4)))) (dRet (dFz (dC (.bl false)))) dNext)
  (dSeq (dFor (iSeq (dVar 7)) (gName 8) (dIfS (dOr (dAnd (dTru (dBin (rEq true) (dVar 8) (dLst dNil))) (dNot (dTru (dCall sp_law_groups (dCons (dLst (dCons (dVar 8) dNil)) (dCons (dC (.int 3)) dNil)))))) (dNot (dTru (dIsi "list" (dVar 8))))) (dRet (dFz (dC (.bl false)))) dNext))
  (dRet (dFz (dBin (rEq false) (dVar 7) (dCall sp_law_due (dCons (dVar 4) (dCons (dVar 2) dNil))))))))))))))))))
theorem fzv_at {i : Nat} {t : TS2} {E : XK2} {K : Ends2} {τ : St2} {G : Gp} : dFzV i t E K τ G = t E { K with nx := fun τ1 G1 => match τ1[i]? with
  | some (some d) => FzK G1 d fun t G2 => K.nx (τ1.set i (some t)) G2
  | _ => False } τ G := rfl
theorem pick4 {i : Int} (h : 0 ≤ i ∧ i < 4) {w x y z : Int} : ∃ m : Int, atI [D.int w, D.int x, D.int y, D.int z] i = some (.int m) := by
  have : i = 0 ∨ i = 1 ∨ i = 2 ∨ i = 3 := by omega
  rcases this with rfl | rfl | rfl | rfl <;> exact ⟨_, rfl⟩
theorem OK_law (ds : List D) (G : Gp) (Q : DK) (h : spLaw ds G Q fun _ _ => False) : rd_law (fun _ _ => False) (ends Q) (start2 9 ds) G := by
  obtain ⟨ns, rfl, hl, hG, q⟩ := h
  unfold rd_law
  simp only [ends, start2, List.map_cons, List.map_nil, List.length_cons, List.length_nil, List.replicate, List.cons_append, List.nil_append, seq_asg, dAsg, dCall, dCons, dVar, List.getElem?_cons_zero, dC, dNil, gName, List.set_cons_succ, List.set_cons_zero, dBin, List.getElem?_cons_succ, dSl, rSl_rol, dPart_at, partAt_int]
  refine ⟨ns, 0, rfl, Int.le_refl _, ?_⟩
  generalize cellI ns 0 = fi
  simp only [rMod_int, rAdd_int]
  refine ⟨by decide, ?_⟩
  rw [cut_map]
  intro p1 h1
  have n01 : 1 ≤ 1 + fi % 3 ∧ 1 + fi % 3 ≤ 3 := by
    have := Int.emod_nonneg fi (b := 3) (by decide)
    have := Int.emod_lt_of_pos fi (b := 3) (by decide)
    omega
  generalize 1 + fi % 3 = n0 at *
  refine seq_by (fun τ G' => ∃ (d : D) (xs : List Int), τ = [some (.rol (ns.map D.int)), some (.int fi), some (.int n0), some d, none, none, none, none, none] ∧ IsL G' d (xs.map D.int) ∧ xs.length ≤ 100 ∧ GLe G G') ?_ ?_
  · intro N hN
    have cl : ∀ (lo hi : Option Int), (cut ns lo hi).length ≤ 100 := fun lo hi => by
      unfold cut
      simp only [List.length_take, List.length_drop]; omega
    simp only [ifs_at, dAsg, dSl, dVar, List.getElem?_cons_zero, gName, List.set_cons_succ, List.set_cons_zero, rSl_rol, dPart_at, dC, partAt_int, dNext, dTru_at, dBin, List.getElem?_cons_succ, rFdiv_int, rMod_int]
    refine ⟨by decide, by decide, by decide, ?_⟩
    refine rEq_enc (α := Int) (by decide) ?_
    rw [truAt_bl]
    simp only [Bool.false_eq_true, if_false]
    by_cases h : fi / 3 % 6 = 4
    · rw [if_pos (by simp [h])]
      rw [cut_map]
      intro p2 h2
      exact hN _ _ ⟨.ref p2, _, rfl, IsL.ref updG_same, cl _ _, (GLe.new h1).trans (.new h2)⟩
    · rw [if_neg (by simp [h])]
      exact hN _ _ ⟨.ref p1, _, rfl, IsL.ref updG_same, cl _ _, GLe.new h1⟩
  rintro _ G1 ⟨d, xs0, rfl, hd, hx0, l1⟩
  simp only [seq_asg, dAsg, dCall, dCons, dVar, List.getElem?_cons_succ, List.getElem?_cons_zero, dNil, gName, List.set_cons_succ, List.set_cons_zero]
  refine ⟨d, xs0, n0, rfl, hd, ⟨by omega, by omega⟩, fun p hp => ?_⟩
  have hxl : (lts n0 xs0).length ≤ 100 := by unfold lts; split <;> simp <;> omega
  generalize lts n0 xs0 = xs at *
  have hp0 := l1.free hp
  have l2 : GLe G (updG G1 p (.lst (xs.map D.int))) := l1.trans (.new hp)
  have gp : updG G1 p (.lst (xs.map D.int)) p = some (.lst (xs.map D.int)) := updG_same
  generalize updG G1 p (.lst (xs.map D.int)) = G2 at *
  refine seq_by (fun τ G' => ∃ n : Int, τ = [some (.rol (ns.map D.int)), some (.int fi), some (.int n), some d, some (.ref p), none, none, none, none] ∧ GLe G G' ∧ G' p = some (.lst (xs.map D.int))) ?_ ?_
  · intro N hN
    simp only [ifs_at, dAsg, dBin, dTup, dCons, dC, dUn, dCall, dVar, List.getElem?_cons_zero, dNil, List.length_cons, List.length_nil, gName, List.set_cons_succ, List.set_cons_zero, rNeg_int, dNext, dTru_at, List.getElem?_cons_succ, rFdiv_int, rMod_int]
    refine ⟨by decide, by decide, by decide, ?_⟩
    refine rEq_enc (α := Int) (by decide) ?_
    rw [truAt_bl]
    simp only [Bool.false_eq_true, if_false]
    by_cases h : fi / 3 % 6 = 3
    · rw [if_pos (by simp [h])]
      refine ⟨ns, 1, rfl, by decide, ?_⟩
      show rPow _ _ _ _
      rw [rPow_int]
      refine ⟨by decide, ?_⟩
      show rMod _ _ _ _
      rw [rMod_int]
      refine ⟨by decide, ?_⟩
      show rAdd _ _ _ _
      rw [rAdd_int]
      refine ⟨by decide, ns, 2, rfl, by decide, ?_⟩
      show rMod _ _ _ _
      rw [rMod_int]
      refine ⟨by decide, ?_⟩
      show rIx _ _ _ _
      rw [rIx_tupM]
      obtain ⟨m, hm⟩ := pick4 (i := cellI ns 2 % 4) ⟨Int.emod_nonneg _ (by decide), Int.emod_lt_of_pos _ (by decide)⟩ (w := 0) (x := 4) (y := -1) (z := 5 + cellI ns 1 % 10 ^ Int.toNat 40)
      rw [hm]
      exact hN _ _ ⟨m, rfl, l2, gp⟩
    · rw [if_neg (by simp [h])]
      exact hN _ _ ⟨n0, rfl, l2, gp⟩
  rintro _ G3 ⟨n, rfl, l3, gp3⟩
  refine seq_by (fun τ G' => ∃ (x5 : Option D) (ys : List Int), τ = [some (.rol (ns.map D.int)), some (.int fi), some (.int n), some d, some (.ref p), x5, none, none, none] ∧ GLe G G' ∧ G' p = some (.lst (ys.map D.int)) ∧ ys.length ≤ 101) ?_ ?_
  · intro N hN
    simp only [ifs_at, seq_asg, dAsg, dBin, dTup, dCons, dC, dVar, List.getElem?_cons_succ, List.getElem?_cons_zero, dUn, dCall, dNil, List.length_cons, List.length_nil, gName, dExpr, dMt, List.set_cons_succ, List.set_cons_zero, tyL_ref, dCB, rNeg_int, dNext, dTru_at, rFdiv_int, rMod_int]
    refine ⟨by decide, by decide, by decide, ?_⟩
    refine rEq_enc (α := Int) (by decide) ?_
    rw [truAt_bl]
    simp only [Bool.false_eq_true, if_false]
    by_cases h : fi / 3 % 6 = 5
    · rw [if_pos (by simp [h])]
      refine ⟨ns, 1, rfl, by decide, ?_⟩
      show rPow _ _ _ _
      rw [rPow_int]
      refine ⟨by decide, ?_⟩
      show rMod _ _ _ _
      rw [rMod_int]
      refine ⟨by decide, ?_⟩
      refine ⟨by decide, ns, 2, rfl, by decide, ?_⟩
      show rMod _ _ _ _
      rw [rMod_int]
      refine ⟨by decide, ?_⟩
      show rIx _ _ _ _
      rw [rIx_tupM]
      obtain ⟨m, hm⟩ := pick4 (i := cellI ns 2 % 4) ⟨Int.emod_nonneg _ (by decide), Int.emod_lt_of_pos _ (by decide)⟩ (w := 0) (x := n) (y := -n) (z := cellI ns 1 % 10 ^ Int.toNat 40)
      rw [hm]
      simp only [gp3, true_and]
      refine ⟨ns, 3, rfl, by decide, ?_⟩
      show cLen _ _ _
      rw [cLen_ref]
      simp only [gp3, rAdd_int, List.length_map]
      refine ⟨_, _, _, rfl, ⟨by decide, by omega⟩, ?_⟩
      show mInsert _ _ _ _
      have hpos := part_lo (cellI ns 3) 1009 (m := (xs.length : Int) + 1) (by omega)
      have hhi := part_hi (cellI ns 3) 1009 (m := (xs.length : Int) + 1) (by omega)
      generalize part (cellI ns 3) 1009 ((xs.length : Int) + 1) = j at *
      rw [mInsert_ref]
      simp only [gp3]
      refine ⟨hpos, by rw [List.length_map]; omega, szlt (by rw [List.length_map]; omega), hN _ _ ⟨_, xs.take j.toNat ++ m :: xs.drop j.toNat, rfl, l3.put hp0, ?_, by simp; omega⟩⟩
      rw [updG_same, List.map_append, List.map_cons, List.map_take, List.map_drop]
    · rw [if_neg (by simp [h])]
      exact hN _ _ ⟨none, xs, rfl, l3, gp3, by omega⟩
  rintro _ G4 ⟨x5, ys, rfl, l4, gp4, hy⟩
  simp only [seq_step, fzv_at, dAsg, dFz, dCB, dCons, dVar, List.getElem?_cons_succ, List.getElem?_cons_zero, dNil, gName, List.set_cons_succ, List.set_cons_zero, cList_ref]
  simp only [gp4]
  intro p5 h5
  refine fz_enc (xs := ys) (.new h5) h5 updG_same ?_
  refine fz_enc (xs := ys) l4 hp0 gp4 ?_
  have tl : ∀ xs : List Int, (enc xs : D) = .rol (xs.map D.int) := fun _ => rfl
  rw [tl]
  simp only [ifs_at, dNot, dRet, dFz, dAndV_at, dCall, dCons, dVar, List.getElem?_cons_succ, List.getElem?_cons_zero, dNil, dBin, dNext, seq_asg, dAsg, gName, List.set_cons_succ, List.set_cons_zero, dTru_at]
  refine ⟨ys, n, rfl, by omega, ?_⟩
  show truAt _ _ _
  rw [truAt_bl]
  by_cases g : Good n ys
  · rw [if_neg (by simp [g])]
    simp only [seq_step, ifs_at, dOr, dNot, dRet, dFz, dC, dNext, if_true, dTru_at, dBin, dVar, List.getElem?_cons_succ, List.getElem?_cons_zero, dIsi_at]
    refine ⟨ys, n, rfl, g, ?_⟩
    refine isAt_of (IsL.enc _) ?_
    simp only [beq_self_eq_true, truAt_bl, Bool.not_true, Bool.false_eq_true, if_false]
    refine rEq_enc (α := List Int) (by decide) ?_
    simp only [decide_true, Bool.not_true, if_true, truAt_bl, Bool.false_eq_true, if_false]
    refine seq_by (fun τ G' => ∃ x, τ = [some (.rol (ns.map D.int)), some (.int fi), some (.int n), some d, some (.rol (ys.map D.int)), x5, some (.rol (ys.map D.int)), some (enc (clo n ys)), x]) ?_ ?_
    · intro N hN
      simp only [dFz, start2, ends, dTru_at, dBin, dUn, dVar, dCB, dMt, dCons, dNil, dRet, dRetN, dExpr, dAsg, gName, dC, dNext, dTup, dLst, dDic, dIsi_at, dAnd, dOr, dNot, dAndV_at, dOrV_at, dNotV_at, dSl, dPart_at, dNoPart, iSeq_at, iRng1_at, dCall, dComp, rAdd_int, rAdd_tup, rAdd_ref, rAdd_rol, rSub_int, rMul_int, rMod_int, rFdiv_int, rNeg_int, rLt_int, rLe_int, rGt_int, rGe_int, rIx_tupM, rIx_rolM, rSl_tup, rSl_rol, rSl_ref, cLen_rol, cLen_tup, cList_ref, mAppend_ref, mExtend_ref, mInsert_ref, mSetdefault_ref, tyL_ref, tyC_ref, tyL_rol, tyS_str, true_and, and_true, iAt_rol, iAt_tup, partAt_int, truAt_bl, rngAt_int, isAt_int, isAt_bl, isAt_tup, List.map_cons, List.map_nil, List.cons_append, List.nil_append, List.getElem?_cons_zero, List.getElem?_cons_succ, List.set_cons_zero, List.set_cons_succ, List.length_cons, List.length_nil, List.replicate, if_true, if_false, Bool.not_true, Bool.not_false, Bool.false_eq_true, seq_asg, seq_expr, dFor]
      refine for_enc (xs := clo n ys) (fun pre τ G' => ∃ x, τ = [some (.rol (ns.map D.int)), some (.int fi), some (.int n), some d, some (.rol (ys.map D.int)), x5, some (.rol (ys.map D.int)), some (enc (clo n ys)), x]) ⟨_, rfl⟩ (fun _ _ _ _ => trivial) ?_ ?_
      · rintro pre r post τ G' N2 e ⟨x, rfl⟩ hN2
        simp only [gName, List.set_cons_succ, List.set_cons_zero, ifs_at, dOr, dAnd, dNot, dRet, dFz, dC, dNext, if_true, dTru_at, dIsi_at, dVar, List.getElem?_cons_succ, List.getElem?_cons_zero, dCall, dCons, dLst, dNil, List.length_cons, List.length_nil, Bool.false_eq_true, if_false, dBin]
        refine ⟨by decide, fun p6 h6 => ?_⟩
        refine ⟨enc r, enc ([] : List T3), Enc.sn _ _ _ (by decide), .ref updG_same .rnil, ?_⟩
        rw [Enc.eqv]
        show truAt _ _ _
        rw [truAt_bl, if_pos rfl]
        have fin : ∀ Gx : Gp, isAt "list" (enc r) Gx fun x G1 => truAt x G1 fun c G1 => if (!c) = true then FzK G1 (D.bl false) Q else N2 [some (.rol (ns.map D.int)), some (.int fi), some (.int n), some d, some (.rol (ys.map D.int)), x5, some (.rol (ys.map D.int)), some (enc (clo n ys)), some (enc r)] G1 := fun Gx => by
          refine isAt_of (IsL.enc r) ?_
          rw [truAt_bl, if_neg (by decide)]
          exact hN2 _ _ ⟨_, rfl⟩
        by_cases hr : r = []
        · rw [if_neg (by simp [hr])]
          exact fin _
        · rw [if_pos (by simp [hr])]
          refine ⟨by decide, fun p7 h7 => ?_⟩
          refine ⟨.ref p7, [r], rfl, IsL.ref updG_same, by simpa using hr, ?_⟩
          show truAt _ _ _
          rw [truAt_bl, if_neg (by decide)]
          exact fin _
      · rintro τ G' ⟨x, rfl⟩
        exact hN _ _ ⟨_, rfl⟩
    · rintro _ G' ⟨x, rfl⟩
      simp only [dRet, dFz, dBin, dVar, List.getElem?_cons_succ, List.getElem?_cons_zero, dCall, dCons, dNil]
      refine ⟨ys, n, rfl, g, ?_⟩
      refine rEq_enc (α := List (List T3)) (by decide) ?_
      simp only [decide_true, Bool.false_eq_true, if_false]
      exact fz_id (q _)
  · rw [if_pos (by simp [g])]
    refine ⟨ys, n, rfl, ⟨by omega, g⟩, ?_⟩
    simp only [truAt_bl, if_true]
    refine rEq_enc (α := List Int) (by decide) ?_
    simp only [decide_true, Bool.false_eq_true, if_false]
    exact fz_id (q _)
end K66
end K2
end
section
namespace Fin
open PySem PySem.Spec PyProof.Rows L2 K2
open K2.K12
open K2.K66
open K2.P
def top (i : Nat) : Stmt := PySem.Challenge.pw_knotwise_k66_braids_closed.main.body.getD i (.Pass ⟨0, 0, 0, 0⟩)
section
variable {P : Program} {w : World} {K : PySem.W.Frag} {mg : Str → Option Value} {base : Heap}
theorem sc_law_cell : FnScope ["_law_script", "_law_k"] ["_law_script", "_law_k"] (defScope (top 16)) := scm
theorem fn_law_cell {f : Addr} {fd : FuncData} (F : Fun K "_law_cell" "_law_cell" (top 16) f fd) (no_len : mg "len" = none) : FnOk P w K mg base CX0 1 f fd ["_law_script", "_law_k"] (spOf K sp_law_cell) :=
  fo2 F sc_law_cell OK_law_cell fun _ _ _ _ _ _ hr => have hu := hr.units; have hu0 := hr.units0; (pss2_cons (ps2_if (pt2_cmp (op2_lt hu0) (pv2 1) (pe2_callB call2_len rfl no_len bt_len (pa2_cons (pv2 0) pa2_nil)) (nomark _)) (pss2_one (ps2_ret (pe2_fz (pe2_ix hu (pv2 0) (pv2 1) (fun _ _ => rfl))))) pss2_nil)
  (pss2_one (ps2_ret (pe2_fz pe2_int))))
theorem sc_law_letters : FnScope ["_law_cells", "_law_strands", "_law_found", "_law_cell_here"] ["_law_cells", "_law_strands"] (defScope (top 19)) := scm
theorem fn_law_letters {f : Addr} {fd : FuncData} (F : Fun K "_law_letters" "_law_letters" (top 19) f fd) : FnOk P w K mg base CX0 1 f fd ["_law_cells", "_law_strands"] (spOf K sp_law_letters) :=
  fo2 F sc_law_letters OK_law_letters fun _ _ _ _ _ _ hr => have nd := sc_law_letters.nd; (pss2_cons (pst (i := 2) nd rfl (pe2_lst pa2_nil))
  (pss2_cons (ps2_for PassesOwn.never rfl (pi2_seq (pv2 0)) (pgn (i := 3) nd rfl) (pss2_one (ps2_if (pt2_cmp op2_gt (pv2 1) pe2_int (nomark _)) (pss2_one (ps2_expr (pe2_bm PySem.F.plainAttrs_list PySem.F.slot_list_append PySem.F.type_list_append ty2_list mt2_append (pv2 2) (pa2_cons (pe2_op op2_mul (pe2_op op2_add pe2_int (pe2_op op2_mod (pe2_op op2_fdiv (pv2 3) pe2_int) (pe2_op op2_sub (pv2 1) pe2_int))) (pe2_op op2_sub pe2_int (pe2_op op2_mul pe2_int (pe2_op op2_mod (pv2 3) pe2_int)))) pa2_nil)))) pss2_nil)))
  (pss2_one (ps2_ret (pe2_fz (pv2 2))))))
theorem sc_law_part : FnScope ["_law_cell_here", "_law_prime", "_law_many"] ["_law_cell_here", "_law_prime", "_law_many"] (defScope (top 17)) := scm
theorem fn_law_part {f : Addr} {fd : FuncData} (F : Fun K "_law_part" "_law_part" (top 17) f fd) : FnOk P w K mg base CX0 1 f fd ["_law_cell_here", "_law_prime", "_law_many"] (spOf K sp_law_part) :=
  fo2 F sc_law_part OK_law_part fun _ _ _ _ _ _ hr => (pss2_one (ps2_ret (pe2_fz (pe2_op op2_mod (pe2_op op2_mod (pe2_op op2_mul (pv2 0) pe2_int) (pv2 1)) (pv2 2)))))
theorem sc_law_good : FnScope ["_law_letters_here", "_law_strands"] ["_law_letters_here", "_law_strands"] (defScope (top 21)) := scm
theorem fn_law_good {f : Addr} {fd : FuncData} (F : Fun K "_law_good" "_law_good" (top 21) f fd) (no_all : mg "all" = none) (no_len : mg "len" = none) : FnOk P w K mg base CX0 1 f fd ["_law_letters_here", "_law_strands"] (spOf K sp_law_good) :=
  fo2 F sc_law_good OK_law_good fun _ _ _ _ _ _ hr => have hu := hr.units; have hu0 := hr.units0; (pss2_cons (ps2_if (PW2.pt (pw2_or (pt2_cmp (op2_notin hu) (pv2 1) (pe2_tup (pa2_cons pe2_int (pa2_cons pe2_int (pa2_cons pe2_int pa2_nil)))) (by with_unfolding_all rfl)) (pw2_or1 (pt2_cmp op2_gt (pe2_callB call2_len rfl no_len bt_len (pa2_cons (pv2 0) pa2_nil)) pe2_int (nomark _))))) (pss2_one (ps2_ret (pe2_fz pe2_bl))) pss2_nil)
  (pss2_one (ps2_ret (pe2_fz (pe2_callB (call2_all rfl) rfl no_all bt_all (pa2_cons (pe2_comp ["_law_letter", "_law_strands"] (sc := defScope (top 21)) (XN := ["_law_letters_here", "_law_strands"]) (pi2_seq (pv2 0)) (fun _ _ _ _ => (pgn (i := 0) (show (["_law_letter", "_law_strands"] : List Str).Nodup by decide +kernel) rfl)) (fun _ _ _ _ => .none) (fun _ _ _ _ => (pe2_and (pe2_cmp (op2_ne hu) (pv2 0) pe2_int (nomark _)) (pe2_one (pe2_chain (op2_lt hu0) (op2_lt hu0) (pe2_un un2_neg (pv2 1)) (pv2 0) (pv2 1)))))) pa2_nil))))))
theorem sc_refuse_no_braidX : FnScope ["letters", "strands", "letter"] ["letters", "strands"] (defScope (top 10)) := scm
theorem fn_refuse_no_braidX {f : Addr} {fd : FuncData} (F : Fun K "refuse_no_braid" "refuse_no_braid" (top 10) f fd) (no_abs : mg "abs" = none) (no_len : mg "len" = none) {C_NoBraid : Addr} (ns_NoBraid : PySem.W.nsIn K mainGlobals "NoBraid" = some (some (.ref C_NoBraid))) (mg_NoBraid : mg "NoBraid" = some (.ref C_NoBraid)) (ex_NoBraid : PySem.W.excIn K C_NoBraid [.type "ValueError", .type "Exception", .type "BaseException", .type "object"] "ValueError.__new__" = true) (xi_NoBraid : ExcIs K C_NoBraid) {t_MOST_STRANDS : Tok} (cs_MOST_STRANDS : mg "MOST_STRANDS" = some (.int 3 t_MOST_STRANDS)) {t_MOST_LETTERS : Tok} (cs_MOST_LETTERS : mg "MOST_LETTERS" = some (.int 12 t_MOST_LETTERS)) : FnOk P w K mg base (CXe P w) 1 f fd ["letters", "strands"] (spOfX K mg sp_refuse_no_braidX) :=
  foX F sc_refuse_no_braidX OK_refuse_no_braidX fun _ _ _ _ _ _ hr => have nd := sc_refuse_no_braidX.nd; have hu0 := hr.units0; (pss2_cons (ps2_if (pt2_not (pt2_chain op2_le op2_le pe2_int (pv2 1) (pe2_cst rfl cs_MOST_STRANDS))) (pss2_one (ps2_raise rfl mg_NoBraid ex_NoBraid PySem.F.excBase_ValueError rfl (pa2_cons pe2_str pa2_nil))) pss2_nil)
  (pss2_cons (ps2_if (pt2_cmp op2_gt (pe2_callB call2_len rfl no_len bt_len (pa2_cons (pv2 0) pa2_nil)) (pe2_cst rfl cs_MOST_LETTERS) (nomark _)) (pss2_one (ps2_raise rfl mg_NoBraid ex_NoBraid PySem.F.excBase_ValueError rfl (pa2_cons pe2_str pa2_nil))) pss2_nil)
  (pss2_one (ps2_for PassesOwn.leaving rfl (pi2_seq (pv2 0)) (pgn (i := 2) nd rfl) (pss2_one (ps2_if (pt2_not (pt2_chain op2_le (op2_lt hu0) pe2_int (pe2_callB call2_abs rfl no_abs bt_abs (pa2_cons (pv2 2) pa2_nil)) (pv2 1))) (pss2_one (ps2_raise rfl mg_NoBraid ex_NoBraid PySem.F.excBase_ValueError rfl (pa2_cons pe2_str pa2_nil))) pss2_nil))))))
theorem sc_passing_at : FnScope ["name", "letter", "place", "from_right", "way"] ["name", "letter", "place"] (defScope (top 11)) := scm
theorem fn_passing_at {f : Addr} {fd : FuncData} (F : Fun K "passing_at" "passing_at" (top 11) f fd) (no_abs : mg "abs" = none) : FnOk P w K mg base CX0 1 f fd ["name", "letter", "place"] (spOf K sp_passing_at) :=
  fo2 F sc_passing_at OK_passing_at fun _ _ _ _ _ _ hr => have nd := sc_passing_at.nd; have hu := hr.units; (pss2_cons (pst (i := 3) nd rfl (pe2_cmp (op2_eq hu) (pv2 2) (pe2_op op2_add (pe2_callB call2_abs rfl no_abs bt_abs (pa2_cons (pv2 1) pa2_nil)) pe2_int) (nomark _)))
  (pss2_cons (pst (i := 4) nd rfl (pe2_if (pt2_cmp (op2_eq hu) (pv2 3) (pe2_cmp op2_gt (pv2 1) pe2_int (nomark _)) (nomark _)) pe2_int pe2_int))
  (pss2_one (ps2_ret (pe2_fz (pe2_tup (pa2_cons (pv2 0) (pa2_cons (pv2 4) (pa2_cons (pe2_if (pt2_cmp op2_gt (pv2 1) pe2_int (nomark _)) pe2_int (pe2_un un2_neg pe2_int)) pa2_nil)))))))))
theorem sc_gone_down : FnScope ["letters", "top", "passings", "place", "name", "letter", "left"] ["letters", "top"] (defScope (top 12)) := scm
theorem fn_gone_down {f : Addr} {fd : FuncData} (F : Fun K "gone_down" "gone_down" (top 12) f fd) (no_abs : mg "abs" = none) (no_enumerate : mg "enumerate" = none) {f_passing_at : Addr} {d_passing_at : FuncData} (ok_passing_at : FnOk P w K mg base CX0 1 f_passing_at d_passing_at ["name", "letter", "place"] (spOf K sp_passing_at)) (mg_passing_at : mg "passing_at" = some (.ref f_passing_at)) (kp_passing_at : PySem.W.keepIn K (.ref f_passing_at) = true) (bi_passing_at : Binds K d_passing_at ["name", "letter", "place"] []) : FnOk P w K mg base CX0 2 f fd ["letters", "top"] (spOf K sp_gone_down) :=
  fo2 F sc_gone_down OK_gone_down fun _ _ _ _ _ _ hr => have nd := sc_gone_down.nd; have hu := hr.units; (pss2_cons (pst (i := 2) nd rfl (pe2_lst pa2_nil))
  (pss2_cons (pst (i := 3) nd rfl (pv2 1))
  (pss2_cons (ps2_for PassesOwn.never rfl (pi2_enumN rfl no_enumerate (pv2 0)) (pg2_tup rfl (pgs2_cons (pgn (i := 4) nd rfl) (pgs2_cons (pgn (i := 5) nd rfl) pgs2_nil)) (glen_name (glen_name glen_nil))) (pss2_cons (pst (i := 6) nd rfl (pe2_callB call2_abs rfl no_abs bt_abs (pa2_cons (pv2 5) pa2_nil)))
  (pss2_one (ps2_if (pt2_cmp (op2_in hu) (pv2 3) (pe2_tup (pa2_cons (pv2 6) (pa2_cons (pe2_op op2_add (pv2 6) pe2_int) pa2_nil))) (by with_unfolding_all rfl)) (pss2_cons (ps2_expr (pe2_bm PySem.F.plainAttrs_list PySem.F.slot_list_append PySem.F.type_list_append ty2_list mt2_append (pv2 2) (pa2_cons (pe2_callS ok_passing_at (hr.mono (by decide)) rfl mg_passing_at kp_passing_at bi_passing_at (pa2_cons (pv2 4) (pa2_cons (pv2 5) (pa2_cons (pv2 3) pa2_nil)))) pa2_nil)))
  (pss2_one (pst (i := 3) nd rfl (pe2_if (pt2_cmp (op2_eq hu) (pv2 3) (pv2 6) (nomark _)) (pe2_op op2_add (pv2 6) pe2_int) (pv2 6))))) pss2_nil))))
  (pss2_one (ps2_ret (pe2_fz (pe2_tup (pa2_cons (pv2 2) (pa2_cons (pv2 3) pa2_nil)))))))))
theorem sc_string_from : FnScope ["letters", "top", "passings", "tops", "place", "down"] ["letters", "top"] (defScope (top 13)) := scm
theorem fn_string_from {f : Addr} {fd : FuncData} (F : Fun K "string_from" "string_from" (top 13) f fd) {f_gone_down : Addr} {d_gone_down : FuncData} (ok_gone_down : FnOk P w K mg base CX0 2 f_gone_down d_gone_down ["letters", "top"] (spOf K sp_gone_down)) (mg_gone_down : mg "gone_down" = some (.ref f_gone_down)) (kp_gone_down : PySem.W.keepIn K (.ref f_gone_down) = true) (bi_gone_down : Binds K d_gone_down ["letters", "top"] []) : FnOk P w K mg base CX0 3 f fd ["letters", "top"] (spOf K sp_string_from) :=
  fo2 F sc_string_from OK_string_from fun _ _ _ _ _ _ hr => have nd := sc_string_from.nd; have hu := hr.units; (pss2_cons (pst (i := 2) nd rfl (pe2_lst pa2_nil))
  (pss2_cons (pst (i := 3) nd rfl (pe2_lst pa2_nil))
  (pss2_cons (pst (i := 4) nd rfl (pv2 1))
  (pss2_cons (ps2_while PassesOwn.never (pt2_cmp (op2_notin hu) (pv2 4) (pv2 3) (by with_unfolding_all rfl)) (pss2_cons (ps2_expr (pe2_bm PySem.F.plainAttrs_list PySem.F.slot_list_append PySem.F.type_list_append ty2_list mt2_append (pv2 3) (pa2_cons (pv2 4) pa2_nil)))
  (pss2_cons (pst (i := 5) nd rfl (pe2_callS ok_gone_down (hr.mono (by decide)) rfl mg_gone_down kp_gone_down bi_gone_down (pa2_cons (pv2 0) (pa2_cons (pv2 4) pa2_nil))))
  (pss2_cons (ps2_expr (pe2_bm PySem.F.plainAttrs_list PySem.F.slot_list_extend PySem.F.type_list_extend ty2_list mt2_extend (pv2 2) (pa2_cons (pe2_ix hu (pv2 5) pe2_int (fun _ _ => rfl)) pa2_nil)))
  (pss2_one (pst (i := 4) nd rfl (pe2_ix hu (pv2 5) pe2_int (fun _ _ => rfl))))))))
  (pss2_one (ps2_ret (pe2_fz (pe2_tup (pa2_cons (pv2 2) (pa2_cons (pv2 3) pa2_nil))))))))))
theorem sc_seated : FnScope ["row", "start"] ["row"] (defScope (top 5)) := scm
theorem fn_seated {f : Addr} {fd : FuncData} (F : Fun K "seated" "seated" (top 5) f fd) (no_min : mg "min" = none) : FnOk P w K mg base CX0 1 f fd ["row"] (spOf K sp_seated) :=
  fo2 F sc_seated OK_seated fun _ _ _ _ _ _ hr => have nd := sc_seated.nd; have hu := hr.units; (pss2_cons (ps2_if (pt2_not (pt2_truth (pv2 0))) (pss2_one (ps2_ret (pe2_fz (pe2_lst pa2_nil)))) pss2_nil)
  (pss2_cons (pst (i := 1) nd rfl (pe2_bm PySem.F.plainAttrs_list PySem.F.slot_list_index PySem.F.type_list_index ty2_list (mt2_index hu) (pv2 0) (pa2_cons (pe2_callB (call2_min rfl hu) rfl no_min bt_min (pa2_cons (pv2 0) pa2_nil)) pa2_nil)))
  (pss2_one (ps2_ret (pe2_fz (pe2_op op2_add (pe2_slice (pv2 0) (po2_some (pv2 1)) po2_none) (pe2_slice (pv2 0) po2_none (po2_some (pv2 1)))))))))
theorem sc_seated_rows : FnScope ["rows"] ["rows"] (defScope (top 6)) := scm
theorem fn_seated_rows {f : Addr} {fd : FuncData} (F : Fun K "seated_rows" "seated_rows" (top 6) f fd) {f_seated : Addr} {d_seated : FuncData} (ok_seated : FnOk P w K mg base CX0 1 f_seated d_seated ["row"] (spOf K sp_seated)) (mg_seated : mg "seated" = some (.ref f_seated)) (kp_seated : PySem.W.keepIn K (.ref f_seated) = true) (bi_seated : Binds K d_seated ["row"] []) : FnOk P w K mg base CX0 2 f fd ["rows"] (spOf K sp_seated_rows) :=
  fo2 F sc_seated_rows OK_seated_rows fun _ _ _ _ _ _ hr => (pss2_one (ps2_ret (pe2_fz (pe2_comp ["row"] (sc := defScope (top 6)) (XN := ["rows"]) (pi2_seq (pv2 0)) (fun _ _ _ _ => (pgn (i := 0) (show (["row"] : List Str).Nodup by decide +kernel) rfl)) (fun _ _ _ _ => .none) (fun _ _ _ _ => (pe2_callS ok_seated (hr.mono (by decide)) rfl mg_seated kp_seated bi_seated (pa2_cons (pv2 0) pa2_nil)))))))
theorem sc_closedX : FnScope ["letters", "strands", "rows", "met", "top", "string"] ["letters", "strands"] (defScope (top 14)) := scm
theorem fn_closedX {f : Addr} {fd : FuncData} (F : Fun K "closed" "closed" (top 14) f fd) (no_range : mg "range" = none) {f_refuse_no_braidX : Addr} {d_refuse_no_braidX : FuncData} (ok_refuse_no_braidX : FnOk P w K mg base (CXe P w) 1 f_refuse_no_braidX d_refuse_no_braidX ["letters", "strands"] (spOfX K mg sp_refuse_no_braidX)) (mg_refuse_no_braidX : mg "refuse_no_braid" = some (.ref f_refuse_no_braidX)) (kp_refuse_no_braidX : PySem.W.keepIn K (.ref f_refuse_no_braidX) = true) (bi_refuse_no_braidX : Binds K d_refuse_no_braidX ["letters", "strands"] []) {f_string_from : Addr} {d_string_from : FuncData} (ok_string_from : FnOk P w K mg base CX0 3 f_string_from d_string_from ["letters", "top"] (spOf K sp_string_from)) (mg_string_from : mg "string_from" = some (.ref f_string_from)) (kp_string_from : PySem.W.keepIn K (.ref f_string_from) = true) (bi_string_from : Binds K d_string_from ["letters", "top"] []) {f_seated_rows : Addr} {d_seated_rows : FuncData} (ok_seated_rows : FnOk P w K mg base CX0 2 f_seated_rows d_seated_rows ["rows"] (spOf K sp_seated_rows)) (mg_seated_rows : mg "seated_rows" = some (.ref f_seated_rows)) (kp_seated_rows : PySem.W.keepIn K (.ref f_seated_rows) = true) (bi_seated_rows : Binds K d_seated_rows ["rows"] []) : FnOk P w K mg base (CXe P w) 4 f fd ["letters", "strands"] (spOfX K mg sp_closedX) :=
  foX F sc_closedX OK_closedX fun _ _ _ _ _ _ hr => have nd := sc_closedX.nd; have hu := hr.units; (pss2_cons (ps2_expr (pe2_callX ok_refuse_no_braidX (hr.mono (by decide)) rfl mg_refuse_no_braidX kp_refuse_no_braidX bi_refuse_no_braidX (pa2_cons (pv2 0) (pa2_cons (pv2 1) pa2_nil))))
  (pss2_cons (pst (i := 2) nd rfl (pe2_lst pa2_nil))
  (pss2_cons (pst (i := 3) nd rfl (pe2_lst pa2_nil))
  (pss2_cons (ps2_for PassesOwn.leaving rfl (pi2_range2 rfl no_range pe2_int (pe2_op op2_add (pv2 1) pe2_int)) (pgn (i := 4) nd rfl) (pss2_one (ps2_if (pt2_cmp (op2_notin hu) (pv2 4) (pv2 3) (by with_unfolding_all rfl)) (pss2_cons (pst (i := 5) nd rfl (pe2_callS ok_string_from (hr.mono (by decide)) rfl mg_string_from kp_string_from bi_string_from (pa2_cons (pv2 0) (pa2_cons (pv2 4) pa2_nil))))
  (pss2_cons (ps2_expr (pe2_bm PySem.F.plainAttrs_list PySem.F.slot_list_append PySem.F.type_list_append ty2_list mt2_append (pv2 2) (pa2_cons (pe2_ix hu (pv2 5) pe2_int (fun _ _ => rfl)) pa2_nil)))
  (pss2_one (ps2_expr (pe2_bm PySem.F.plainAttrs_list PySem.F.slot_list_extend PySem.F.type_list_extend ty2_list mt2_extend (pv2 3) (pa2_cons (pe2_ix hu (pv2 5) pe2_int (fun _ _ => rfl)) pa2_nil)))))) pss2_nil)))
  (pss2_one (ps2_ret (pe2_fz (pe2_callS ok_seated_rows (hr.mono (by decide)) rfl mg_seated_rows kp_seated_rows bi_seated_rows (pa2_cons (pv2 2) pa2_nil)))))))))
theorem sc_law_refused : FnScope ["_law_letters_here", "_law_strands", "_law_error", "e"] ["_law_letters_here", "_law_strands"] (defScope (top 24)) := scm
theorem fn_law_refused {f : Addr} {fd : FuncData} (F : Fun K "_law_refused" "_law_refused" (top 24) f fd) (no_ValueError : mg "ValueError" = none) (no_isinstance : mg "isinstance" = none) {C_NoBraid : Addr} (ns_NoBraid : PySem.W.nsIn K mainGlobals "NoBraid" = some (some (.ref C_NoBraid))) (mg_NoBraid : mg "NoBraid" = some (.ref C_NoBraid)) (ex_NoBraid : PySem.W.excIn K C_NoBraid [.type "ValueError", .type "Exception", .type "BaseException", .type "object"] "ValueError.__new__" = true) (xi_NoBraid : ExcIs K C_NoBraid) {C_KnotError : Addr} (ns_KnotError : PySem.W.nsIn K mainGlobals "KnotError" = some (some (.ref C_KnotError))) (mg_KnotError : mg "KnotError" = some (.ref C_KnotError)) (ex_KnotError : PySem.W.excIn K C_KnotError [.type "ValueError", .type "Exception", .type "BaseException", .type "object"] "ValueError.__new__" = true) (xi_KnotError : ExcIs K C_KnotError) {C_NoString : Addr} (ns_NoString : PySem.W.nsIn K mainGlobals "NoString" = some (some (.ref C_NoString))) (mg_NoString : mg "NoString" = some (.ref C_NoString)) (ex_NoString : PySem.W.excIn K C_NoString [.type "ValueError", .type "Exception", .type "BaseException", .type "object"] "ValueError.__new__" = true) (xi_NoString : ExcIs K C_NoString) (kn_NoBraid : PySem.W.kitOne K (.type "NoneType") (.ref C_NoBraid) = some false) (kn_NoString : PySem.W.kitOne K (.type "NoneType") (.ref C_NoString) = some false) (ki_NoBraid_NoBraid : PySem.W.kitOne K (.ref C_NoBraid) (.ref C_NoBraid) = some true) (ki_NoBraid_NoString : PySem.W.kitOne K (.ref C_NoBraid) (.ref C_NoString) = some false) (sb_NoBraid_KnotError : subIn K C_NoBraid (.ref C_KnotError) = true) (kv_NoBraid : PySem.W.kitOne K (.ref C_NoBraid) (.type "ValueError") = some true) {f_closedX : Addr} {d_closedX : FuncData} (ok_closedX : FnOk P w K mg base (CXe P w) 4 f_closedX d_closedX ["letters", "strands"] (spOfX K mg sp_closedX)) (mg_closedX : mg "closed" = some (.ref f_closedX)) (kp_closedX : PySem.W.keepIn K (.ref f_closedX) = true) (bi_closedX : Binds K d_closedX ["letters", "strands"] []) : FnOk P w K mg base CX0 5 f fd ["_law_letters_here", "_law_strands"] (spOf K sp_law_refused) :=
  fo2 F sc_law_refused OK_law_refused fun _ _ _ _ _ _ hr => have nd := sc_law_refused.nd; (pss2_cons (pst (i := 2) nd rfl pe2_non)
  (pss2_cons (ps2_try ⟨rfl, rfl, rfl⟩ ⟨nd, rfl, rfl, rfl, mg_KnotError, ⟨_, _, ex_KnotError, rfl⟩, (cat_cons ⟨_, _, _, ns_NoBraid, ex_NoBraid, sb_NoBraid_KnotError⟩ cat_nil)⟩ ok_closedX (hr.mono (by decide)) rfl mg_closedX kp_closedX bi_closedX (fun EX => (pa2_cons (pv2 0) (pa2_cons (pv2 1) pa2_nil))) (fun v => (pss2_one (pst (i := 2) nd rfl (pv2 3)))))
  (pss2_one (ps2_ret (pe2_fz (pe2_and (pe2_isiO PySem.F.attrBase_ValueError rfl no_isinstance rfl mg_NoBraid kn_NoBraid (cat_cons ⟨_, ns_NoBraid, ki_NoBraid_NoBraid, xi_NoBraid⟩ cat_nil) (pv2 2)) (pe2_and (pe2_isiV PySem.F.attrBase_ValueError rfl no_isinstance rfl no_ValueError (cat_cons ⟨_, ns_NoBraid, kv_NoBraid, xi_NoBraid⟩ cat_nil) (pv2 2)) (pe2_one (pe2_not (pe2_isiO PySem.F.attrBase_ValueError rfl no_isinstance rfl mg_NoString kn_NoString (cat_cons ⟨_, ns_NoBraid, ki_NoBraid_NoString, xi_NoBraid⟩ cat_nil) (pv2 2)))))))))))
theorem sc_refuse_no_braid : FnScope ["letters", "strands", "letter"] ["letters", "strands"] (defScope (top 10)) := scm
theorem fn_refuse_no_braid {f : Addr} {fd : FuncData} (F : Fun K "refuse_no_braid" "refuse_no_braid" (top 10) f fd) (no_abs : mg "abs" = none) (no_len : mg "len" = none) {t_MOST_STRANDS : Tok} (cs_MOST_STRANDS : mg "MOST_STRANDS" = some (.int 3 t_MOST_STRANDS)) {t_MOST_LETTERS : Tok} (cs_MOST_LETTERS : mg "MOST_LETTERS" = some (.int 12 t_MOST_LETTERS)) : FnOk P w K mg base CX0 1 f fd ["letters", "strands"] (spOf K sp_refuse_no_braid) :=
  fo2 F sc_refuse_no_braid OK_refuse_no_braid fun _ _ _ _ _ _ hr => have nd := sc_refuse_no_braid.nd; have hu0 := hr.units0; (pss2_cons (ps2_if (pt2_not (pt2_chain op2_le op2_le pe2_int (pv2 1) (pe2_cst rfl cs_MOST_STRANDS))) (pss2_one ps2_never) pss2_nil)
  (pss2_cons (ps2_if (pt2_cmp op2_gt (pe2_callB call2_len rfl no_len bt_len (pa2_cons (pv2 0) pa2_nil)) (pe2_cst rfl cs_MOST_LETTERS) (nomark _)) (pss2_one ps2_never) pss2_nil)
  (pss2_one (ps2_for PassesOwn.never rfl (pi2_seq (pv2 0)) (pgn (i := 2) nd rfl) (pss2_one (ps2_if (pt2_not (pt2_chain op2_le (op2_lt hu0) pe2_int (pe2_callB call2_abs rfl no_abs bt_abs (pa2_cons (pv2 2) pa2_nil)) (pv2 1))) (pss2_one ps2_never) pss2_nil))))))
theorem sc_closed : FnScope ["letters", "strands", "rows", "met", "top", "string"] ["letters", "strands"] (defScope (top 14)) := scm
theorem fn_closed {f : Addr} {fd : FuncData} (F : Fun K "closed" "closed" (top 14) f fd) (no_range : mg "range" = none) {f_refuse_no_braid : Addr} {d_refuse_no_braid : FuncData} (ok_refuse_no_braid : FnOk P w K mg base CX0 1 f_refuse_no_braid d_refuse_no_braid ["letters", "strands"] (spOf K sp_refuse_no_braid)) (mg_refuse_no_braid : mg "refuse_no_braid" = some (.ref f_refuse_no_braid)) (kp_refuse_no_braid : PySem.W.keepIn K (.ref f_refuse_no_braid) = true) (bi_refuse_no_braid : Binds K d_refuse_no_braid ["letters", "strands"] []) {f_string_from : Addr} {d_string_from : FuncData} (ok_string_from : FnOk P w K mg base CX0 3 f_string_from d_string_from ["letters", "top"] (spOf K sp_string_from)) (mg_string_from : mg "string_from" = some (.ref f_string_from)) (kp_string_from : PySem.W.keepIn K (.ref f_string_from) = true) (bi_string_from : Binds K d_string_from ["letters", "top"] []) {f_seated_rows : Addr} {d_seated_rows : FuncData} (ok_seated_rows : FnOk P w K mg base CX0 2 f_seated_rows d_seated_rows ["rows"] (spOf K sp_seated_rows)) (mg_seated_rows : mg "seated_rows" = some (.ref f_seated_rows)) (kp_seated_rows : PySem.W.keepIn K (.ref f_seated_rows) = true) (bi_seated_rows : Binds K d_seated_rows ["rows"] []) : FnOk P w K mg base CX0 4 f fd ["letters", "strands"] (spOf K sp_closed) :=
  fo2 F sc_closed OK_closed fun _ _ _ _ _ _ hr => have nd := sc_closed.nd; have hu := hr.units; (pss2_cons (ps2_expr (pe2_callS ok_refuse_no_braid (hr.mono (by decide)) rfl mg_refuse_no_braid kp_refuse_no_braid bi_refuse_no_braid (pa2_cons (pv2 0) (pa2_cons (pv2 1) pa2_nil))))
  (pss2_cons (pst (i := 2) nd rfl (pe2_lst pa2_nil))
  (pss2_cons (pst (i := 3) nd rfl (pe2_lst pa2_nil))
  (pss2_cons (ps2_for PassesOwn.never rfl (pi2_range2 rfl no_range pe2_int (pe2_op op2_add (pv2 1) pe2_int)) (pgn (i := 4) nd rfl) (pss2_one (ps2_if (pt2_cmp (op2_notin hu) (pv2 4) (pv2 3) (by with_unfolding_all rfl)) (pss2_cons (pst (i := 5) nd rfl (pe2_callS ok_string_from (hr.mono (by decide)) rfl mg_string_from kp_string_from bi_string_from (pa2_cons (pv2 0) (pa2_cons (pv2 4) pa2_nil))))
  (pss2_cons (ps2_expr (pe2_bm PySem.F.plainAttrs_list PySem.F.slot_list_append PySem.F.type_list_append ty2_list mt2_append (pv2 2) (pa2_cons (pe2_ix hu (pv2 5) pe2_int (fun _ _ => rfl)) pa2_nil)))
  (pss2_one (ps2_expr (pe2_bm PySem.F.plainAttrs_list PySem.F.slot_list_extend PySem.F.type_list_extend ty2_list mt2_extend (pv2 3) (pa2_cons (pe2_ix hu (pv2 5) pe2_int (fun _ _ => rfl)) pa2_nil)))))) pss2_nil)))
  (pss2_one (ps2_ret (pe2_fz (pe2_callS ok_seated_rows (hr.mono (by decide)) rfl mg_seated_rows kp_seated_rows bi_seated_rows (pa2_cons (pv2 2) pa2_nil)))))))))
theorem sc_law_whole : FnScope ["_law_found"] ["_law_found"] (defScope (top 18)) := scm
theorem fn_law_whole {f : Addr} {fd : FuncData} (F : Fun K "_law_whole" "_law_whole" (top 18) f fd) (no_bool : mg "bool" = none) (no_int : mg "int" = none) (no_isinstance : mg "isinstance" = none) : FnOk P w K mg base CX0 1 f fd ["_law_found"] (spOf K sp_law_whole) :=
  fo2 F sc_law_whole OK_law_whole fun _ _ _ _ _ _ hr => (pss2_one (ps2_ret (pe2_fz (pe2_and (pe2_isi "int" (by decide) rfl no_isinstance rfl no_int bt_int (pv2 0)) (pe2_one (pe2_not (pe2_isi "bool" (by decide) rfl no_isinstance rfl no_bool bt_bool (pv2 0))))))))
theorem sc_law_groups : FnScope ["_law_found", "_law_wide", "_law_group", "_law_one"] ["_law_found", "_law_wide"] (defScope (top 20)) := scm
theorem fn_law_groups {f : Addr} {fd : FuncData} (F : Fun K "_law_groups" "_law_groups" (top 20) f fd) (no_all : mg "all" = none) (no_isinstance : mg "isinstance" = none) (no_len : mg "len" = none) (no_list : mg "list" = none) (no_tuple : mg "tuple" = none) {f_law_whole : Addr} {d_law_whole : FuncData} (ok_law_whole : FnOk P w K mg base CX0 1 f_law_whole d_law_whole ["_law_found"] (spOf K sp_law_whole)) (mg_law_whole : mg "_law_whole" = some (.ref f_law_whole)) (kp_law_whole : PySem.W.keepIn K (.ref f_law_whole) = true) (bi_law_whole : Binds K d_law_whole ["_law_found"] []) : FnOk P w K mg base CX0 2 f fd ["_law_found", "_law_wide"] (spOf K sp_law_groups) :=
  fo2 F sc_law_groups OK_law_groups fun _ _ _ _ _ _ hr => have nd := sc_law_groups.nd; have hu := hr.units; (pss2_cons (ps2_if (pt2_not (pt2_truth (pe2_isi "list" (by decide) rfl no_isinstance rfl no_list bt_list (pv2 0)))) (pss2_one (ps2_ret (pe2_fz pe2_bl))) pss2_nil)
  (pss2_cons (ps2_for PassesOwn.never rfl (pi2_seq (pv2 0)) (pgn (i := 2) nd rfl) (pss2_cons (ps2_if (PW2.pt (pw2_or (pt2_not (pt2_truth (pe2_isi "list" (by decide) rfl no_isinstance rfl no_list bt_list (pv2 2)))) (pw2_or1 (pt2_cmp (op2_eq hu) (pv2 2) (pe2_lst pa2_nil) (nomark _))))) (pss2_one (ps2_ret (pe2_fz pe2_bl))) pss2_nil)
  (pss2_one (ps2_for PassesOwn.never rfl (pi2_seq (pv2 2)) (pgn (i := 3) nd rfl) (pss2_cons (ps2_if (PW2.pt (pw2_or (pt2_not (pt2_truth (pe2_isi "tuple" (by decide) rfl no_isinstance rfl no_tuple bt_tuple (pv2 3)))) (pw2_or1 (pt2_cmp (op2_ne hu) (pe2_callB call2_len rfl no_len bt_len (pa2_cons (pv2 3) pa2_nil)) (pv2 1) (nomark _))))) (pss2_one (ps2_ret (pe2_fz pe2_bl))) pss2_nil)
  (pss2_one (ps2_if (pt2_not (pt2_truth (pe2_callB (call2_all rfl) rfl no_all bt_all (pa2_cons (pe2_comp ["_law_part_here"] (sc := defScope (top 20)) (XN := ["_law_found", "_law_wide", "_law_group", "_law_one"]) (pi2_seq (pv2 3)) (fun _ _ _ _ => (pgn (i := 0) (show (["_law_part_here"] : List Str).Nodup by decide +kernel) rfl)) (fun _ _ _ _ => .none) (fun _ _ _ _ => (pe2_callS ok_law_whole (hr.mono (by decide)) rfl mg_law_whole kp_law_whole bi_law_whole (pa2_cons (pv2 0) pa2_nil)))) pa2_nil)))) (pss2_one (ps2_ret (pe2_fz pe2_bl))) pss2_nil)))))))
  (pss2_one (ps2_ret (pe2_fz pe2_bl)))))
theorem sc_law_down : FnScope ["_law_letters_here", "_law_place", "_law_row", "_law_at", "_law_letter", "_law_right", "_law_hand", "_law_way"] ["_law_letters_here", "_law_place"] (defScope (top 22)) := scm
theorem fn_law_down {f : Addr} {fd : FuncData} (F : Fun K "_law_down" "_law_down" (top 22) f fd) (no_abs : mg "abs" = none) (no_enumerate : mg "enumerate" = none) : FnOk P w K mg base CX0 1 f fd ["_law_letters_here", "_law_place"] (spOf K sp_law_down) :=
  fo2 F sc_law_down OK_law_down fun _ _ _ _ _ _ hr => have nd := sc_law_down.nd; have hu := hr.units; have hu0 := hr.units0; (pss2_cons (pst (i := 2) nd rfl (pe2_lst pa2_nil))
  (pss2_cons (ps2_for PassesOwn.never rfl (pi2_enum rfl no_enumerate (pv2 0)) (pg2_tup rfl (pgs2_cons (pgn (i := 3) nd rfl) (pgs2_cons (pgn (i := 4) nd rfl) pgs2_nil)) (glen_name (glen_name glen_nil))) (pss2_cons (pst (i := 5) nd rfl (pe2_callB call2_abs rfl no_abs bt_abs (pa2_cons (pv2 4) pa2_nil)))
  (pss2_one (ps2_if (PW2.pt (pw2_or (pt2_cmp (op2_eq hu) (pv2 1) (pv2 5) (nomark _)) (pw2_or1 (pt2_cmp (op2_eq hu) (pv2 1) (pe2_op op2_sub (pv2 5) pe2_int) (nomark _))))) (pss2_cons (pst (i := 6) nd rfl pe2_int)
  (pss2_cons (ps2_if (pt2_cmp (op2_lt hu0) (pv2 4) pe2_int (nomark _)) (pss2_one (pst (i := 6) nd rfl (pe2_un un2_neg pe2_int))) pss2_nil)
  (pss2_cons (pst (i := 7) nd rfl pe2_int)
  (pss2_cons (ps2_if (pt2_cmp (op2_ne hu) (pe2_cmp (op2_eq hu) (pv2 1) (pv2 5) (nomark _)) (pe2_cmp op2_gt (pv2 4) pe2_int (nomark _)) (nomark _)) (pss2_one (pst (i := 7) nd rfl pe2_int)) pss2_nil)
  (pss2_cons (ps2_expr (pe2_bm PySem.F.plainAttrs_list PySem.F.slot_list_append PySem.F.type_list_append ty2_list mt2_append (pv2 2) (pa2_cons (pe2_tup (pa2_cons (pe2_op op2_add (pv2 3) pe2_int) (pa2_cons (pv2 7) (pa2_cons (pv2 6) pa2_nil)))) pa2_nil)))
  (pss2_one (pst (i := 1) nd rfl (pe2_op op2_sub (pe2_op op2_sub (pe2_op op2_mul pe2_int (pv2 5)) pe2_int) (pv2 1))))))))) pss2_nil))))
  (pss2_one (ps2_ret (pe2_fz (pe2_tup (pa2_cons (pv2 2) (pa2_cons (pv2 1) pa2_nil))))))))
theorem sc_law_due : FnScope ["_law_letters_here", "_law_strands", "_law_found", "_law_met", "_law_start", "_law_line", "_law_place", "_law_row", "_law_at"] ["_law_letters_here", "_law_strands"] (defScope (top 23)) := scm
theorem fn_law_due {f : Addr} {fd : FuncData} (F : Fun K "_law_due" "_law_due" (top 23) f fd) (no_min : mg "min" = none) (no_range : mg "range" = none) {f_law_down : Addr} {d_law_down : FuncData} (ok_law_down : FnOk P w K mg base CX0 1 f_law_down d_law_down ["_law_letters_here", "_law_place"] (spOf K sp_law_down)) (mg_law_down : mg "_law_down" = some (.ref f_law_down)) (kp_law_down : PySem.W.keepIn K (.ref f_law_down) = true) (bi_law_down : Binds K d_law_down ["_law_letters_here", "_law_place"] []) : FnOk P w K mg base CX0 2 f fd ["_law_letters_here", "_law_strands"] (spOf K sp_law_due) :=
  fo2 F sc_law_due OK_law_due fun _ _ _ _ _ _ hr => have nd := sc_law_due.nd; have hu := hr.units; (pss2_cons (pst (i := 2) nd rfl (pe2_lst pa2_nil))
  (pss2_cons (pst (i := 3) nd rfl (pe2_lst pa2_nil))
  (pss2_cons (ps2_for PassesOwn.never rfl (pi2_range1 rfl no_range (pv2 1)) (pgn (i := 4) nd rfl) (pss2_one (ps2_if (pt2_cmp (op2_notin hu) (pv2 4) (pv2 3) (by with_unfolding_all rfl)) (pss2_cons (pst (i := 5) nd rfl (pe2_lst pa2_nil))
  (pss2_cons (pst (i := 6) nd rfl (pv2 4))
  (pss2_cons (ps2_while PassesOwn.never (pt2_cmp (op2_notin hu) (pv2 6) (pv2 3) (by with_unfolding_all rfl)) (pss2_cons (ps2_expr (pe2_bm PySem.F.plainAttrs_list PySem.F.slot_list_append PySem.F.type_list_append ty2_list mt2_append (pv2 3) (pa2_cons (pe2_fz (pv2 6)) pa2_nil)))
  (pss2_cons (ps2_asg (pe2_callS ok_law_down (hr.mono (by decide)) rfl mg_law_down kp_law_down bi_law_down (pa2_cons (pv2 0) (pa2_cons (pv2 6) pa2_nil))) (pg2_tup rfl (pgs2_cons (pgn (i := 7) nd rfl) (pgs2_cons (pgn (i := 6) nd rfl) pgs2_nil)) (glen_name (glen_name glen_nil))))
  (pss2_one (ps2_expr (pe2_bm PySem.F.plainAttrs_list PySem.F.slot_list_extend PySem.F.type_list_extend ty2_list mt2_extend (pv2 5) (pa2_cons (pv2 7) pa2_nil)))))))
  (pss2_cons (ps2_if (pt2_cmp (op2_ne hu) (pv2 5) (pe2_lst pa2_nil) (nomark _)) (pss2_cons (pst (i := 8) nd rfl (pe2_bm PySem.F.plainAttrs_list PySem.F.slot_list_index PySem.F.type_list_index ty2_list (mt2_index hu) (pv2 5) (pa2_cons (pe2_callB (call2_min rfl hu) rfl no_min bt_min (pa2_cons (pv2 5) pa2_nil)) pa2_nil)))
  (pss2_one (pst (i := 5) nd rfl (pe2_op op2_add (pe2_slice (pv2 5) (po2_some (pv2 8)) po2_none) (pe2_slice (pv2 5) po2_none (po2_some (pv2 8))))))) pss2_nil)
  (pss2_one (ps2_expr (pe2_bm PySem.F.plainAttrs_list PySem.F.slot_list_append PySem.F.type_list_append ty2_list mt2_append (pv2 2) (pa2_cons (pe2_fz (pv2 5)) pa2_nil)))))))) pss2_nil)))
  (pss2_one (ps2_ret (pe2_fz (pv2 2)))))))
theorem sc_law : FnScope ["_law_script", "_law_first", "_law_strands", "_law_cells", "_law_letters_here", "_law_odd", "_law_handed", "_law_found", "_law_row"] ["_law_script"] (defScope (top 25)) := scm
theorem fn_law {f : Addr} {fd : FuncData} (F : Fun K "law" "law" (top 25) f fd) (no_isinstance : mg "isinstance" = none) (no_len : mg "len" = none) (no_list : mg "list" = none) {f_law_cell : Addr} {d_law_cell : FuncData} (ok_law_cell : FnOk P w K mg base CX0 1 f_law_cell d_law_cell ["_law_script", "_law_k"] (spOf K sp_law_cell)) (mg_law_cell : mg "_law_cell" = some (.ref f_law_cell)) (kp_law_cell : PySem.W.keepIn K (.ref f_law_cell) = true) (bi_law_cell : Binds K d_law_cell ["_law_script", "_law_k"] []) {f_law_letters : Addr} {d_law_letters : FuncData} (ok_law_letters : FnOk P w K mg base CX0 1 f_law_letters d_law_letters ["_law_cells", "_law_strands"] (spOf K sp_law_letters)) (mg_law_letters : mg "_law_letters" = some (.ref f_law_letters)) (kp_law_letters : PySem.W.keepIn K (.ref f_law_letters) = true) (bi_law_letters : Binds K d_law_letters ["_law_cells", "_law_strands"] []) {f_law_part : Addr} {d_law_part : FuncData} (ok_law_part : FnOk P w K mg base CX0 1 f_law_part d_law_part ["_law_cell_here", "_law_prime", "_law_many"] (spOf K sp_law_part)) (mg_law_part : mg "_law_part" = some (.ref f_law_part)) (kp_law_part : PySem.W.keepIn K (.ref f_law_part) = true) (bi_law_part : Binds K d_law_part ["_law_cell_here", "_law_prime", "_law_many"] []) {f_law_good : Addr} {d_law_good : FuncData} (ok_law_good : FnOk P w K mg base CX0 1 f_law_good d_law_good ["_law_letters_here", "_law_strands"] (spOf K sp_law_good)) (mg_law_good : mg "_law_good" = some (.ref f_law_good)) (kp_law_good : PySem.W.keepIn K (.ref f_law_good) = true) (bi_law_good : Binds K d_law_good ["_law_letters_here", "_law_strands"] []) {f_law_refused : Addr} {d_law_refused : FuncData} (ok_law_refused : FnOk P w K mg base CX0 5 f_law_refused d_law_refused ["_law_letters_here", "_law_strands"] (spOf K sp_law_refused)) (mg_law_refused : mg "_law_refused" = some (.ref f_law_refused)) (kp_law_refused : PySem.W.keepIn K (.ref f_law_refused) = true) (bi_law_refused : Binds K d_law_refused ["_law_letters_here", "_law_strands"] []) {f_closed : Addr} {d_closed : FuncData} (ok_closed : FnOk P w K mg base CX0 4 f_closed d_closed ["letters", "strands"] (spOf K sp_closed)) (mg_closed : mg "closed" = some (.ref f_closed)) (kp_closed : PySem.W.keepIn K (.ref f_closed) = true) (bi_closed : Binds K d_closed ["letters", "strands"] []) {f_law_groups : Addr} {d_law_groups : FuncData} (ok_law_groups : FnOk P w K mg base CX0 2 f_law_groups d_law_groups ["_law_found", "_law_wide"] (spOf K sp_law_groups)) (mg_law_groups : mg "_law_groups" = some (.ref f_law_groups)) (kp_law_groups : PySem.W.keepIn K (.ref f_law_groups) = true) (bi_law_groups : Binds K d_law_groups ["_law_found", "_law_wide"] []) {f_law_due : Addr} {d_law_due : FuncData} (ok_law_due : FnOk P w K mg base CX0 2 f_law_due d_law_due ["_law_letters_here", "_law_strands"] (spOf K sp_law_due)) (mg_law_due : mg "_law_due" = some (.ref f_law_due)) (kp_law_due : PySem.W.keepIn K (.ref f_law_due) = true) (bi_law_due : Binds K d_law_due ["_law_letters_here", "_law_strands"] []) : FnOk P w K mg base CX0 6 f fd ["_law_script"] (spOf K K2.spLaw) :=
  fo2 F sc_law OK_law fun _ _ _ _ _ _ hr => have nd := sc_law.nd; have hu := hr.units; (pss2_cons (pst (i := 1) nd rfl (pe2_callS ok_law_cell (hr.mono (by decide)) rfl mg_law_cell kp_law_cell bi_law_cell (pa2_cons (pv2 0) (pa2_cons pe2_int pa2_nil))))
  (pss2_cons (pst (i := 2) nd rfl (pe2_op op2_add pe2_int (pe2_op op2_mod (pv2 1) pe2_int)))
  (pss2_cons (pst (i := 3) nd rfl (pe2_slice (pv2 0) (po2_some pe2_int) (po2_some pe2_int)))
  (pss2_cons (ps2_if (pt2_cmp (op2_eq hu) (pe2_op op2_mod (pe2_op op2_fdiv (pv2 1) pe2_int) pe2_int) pe2_int (nomark _)) (pss2_one (pst (i := 3) nd rfl (pe2_slice (pv2 0) (po2_some pe2_int) (po2_some pe2_int)))) pss2_nil)
  (pss2_cons (pst (i := 4) nd rfl (pe2_callS ok_law_letters (hr.mono (by decide)) rfl mg_law_letters kp_law_letters bi_law_letters (pa2_cons (pv2 3) (pa2_cons (pv2 2) pa2_nil))))
  (pss2_cons (ps2_if (pt2_cmp (op2_eq hu) (pe2_op op2_mod (pe2_op op2_fdiv (pv2 1) pe2_int) pe2_int) pe2_int (nomark _)) (pss2_one (pst (i := 2) nd rfl (pe2_ix hu (pe2_tup (pa2_cons pe2_int (pa2_cons pe2_int (pa2_cons (pe2_un un2_neg pe2_int) (pa2_cons (pe2_op op2_add pe2_int (pe2_op op2_mod (pe2_callS ok_law_cell (hr.mono (by decide)) rfl mg_law_cell kp_law_cell bi_law_cell (pa2_cons (pv2 0) (pa2_cons pe2_int pa2_nil))) (pe2_op op2_pow pe2_int pe2_int))) pa2_nil))))) (pe2_op op2_mod (pe2_callS ok_law_cell (hr.mono (by decide)) rfl mg_law_cell kp_law_cell bi_law_cell (pa2_cons (pv2 0) (pa2_cons pe2_int pa2_nil))) pe2_int) (fun _ _ => rfl)))) pss2_nil)
  (pss2_cons (ps2_if (pt2_cmp (op2_eq hu) (pe2_op op2_mod (pe2_op op2_fdiv (pv2 1) pe2_int) pe2_int) pe2_int (nomark _)) (pss2_cons (pst (i := 5) nd rfl (pe2_ix hu (pe2_tup (pa2_cons pe2_int (pa2_cons (pv2 2) (pa2_cons (pe2_un un2_neg (pv2 2)) (pa2_cons (pe2_op op2_mod (pe2_callS ok_law_cell (hr.mono (by decide)) rfl mg_law_cell kp_law_cell bi_law_cell (pa2_cons (pv2 0) (pa2_cons pe2_int pa2_nil))) (pe2_op op2_pow pe2_int pe2_int)) pa2_nil))))) (pe2_op op2_mod (pe2_callS ok_law_cell (hr.mono (by decide)) rfl mg_law_cell kp_law_cell bi_law_cell (pa2_cons (pv2 0) (pa2_cons pe2_int pa2_nil))) pe2_int) (fun _ _ => rfl)))
  (pss2_one (ps2_expr (pe2_bm PySem.F.plainAttrs_list PySem.F.slot_list_insert PySem.F.type_list_insert ty2_list mt2_insert (pv2 4) (pa2_cons (pe2_callS ok_law_part (hr.mono (by decide)) rfl mg_law_part kp_law_part bi_law_part (pa2_cons (pe2_callS ok_law_cell (hr.mono (by decide)) rfl mg_law_cell kp_law_cell bi_law_cell (pa2_cons (pv2 0) (pa2_cons pe2_int pa2_nil))) (pa2_cons pe2_int (pa2_cons (pe2_op op2_add (pe2_callB call2_len rfl no_len bt_len (pa2_cons (pv2 4) pa2_nil)) pe2_int) pa2_nil)))) (pa2_cons (pv2 5) pa2_nil)))))) pss2_nil)
  (pss2_cons (ps2_fzv (pst (i := 6) nd rfl (pe2_fz (pe2_callTy call2_list rfl no_list bt_list (pa2_cons (pv2 4) pa2_nil)))))
  (pss2_cons (ps2_if (pt2_not (pt2_truth (pe2_callS ok_law_good (hr.mono (by decide)) rfl mg_law_good kp_law_good bi_law_good (pa2_cons (pv2 4) (pa2_cons (pv2 2) pa2_nil))))) (pss2_one (ps2_ret (pe2_fz (pe2_and (pe2_callS ok_law_refused (hr.mono (by decide)) rfl mg_law_refused kp_law_refused bi_law_refused (pa2_cons (pv2 6) (pa2_cons (pv2 2) pa2_nil))) (pe2_one (pe2_cmp (op2_eq hu) (pv2 6) (pv2 4) (nomark _))))))) pss2_nil)
  (pss2_cons (pst (i := 7) nd rfl (pe2_callS ok_closed (hr.mono (by decide)) rfl mg_closed kp_closed bi_closed (pa2_cons (pv2 6) (pa2_cons (pv2 2) pa2_nil))))
  (pss2_cons (ps2_if (PW2.pt (pw2_or (pt2_not (pt2_truth (pe2_isi "list" (by decide) rfl no_isinstance rfl no_list bt_list (pv2 7)))) (pw2_or1 (pt2_cmp (op2_ne hu) (pv2 6) (pv2 4) (nomark _))))) (pss2_one (ps2_ret (pe2_fz pe2_bl))) pss2_nil)
  (pss2_cons (ps2_for PassesOwn.never rfl (pi2_seq (pv2 7)) (pgn (i := 8) nd rfl) (pss2_one (ps2_if (PW2.pt (pw2_or (PW2.pt (pw2_and (pt2_cmp (op2_ne hu) (pv2 8) (pe2_lst pa2_nil) (nomark _)) (pw2_and1 (pt2_not (pt2_truth (pe2_callS ok_law_groups (hr.mono (by decide)) rfl mg_law_groups kp_law_groups bi_law_groups (pa2_cons (pe2_lst (pa2_cons (pv2 8) pa2_nil)) (pa2_cons pe2_int pa2_nil)))))))) (pw2_or1 (pt2_not (pt2_truth (pe2_isi "list" (by decide) rfl no_isinstance rfl no_list bt_list (pv2 8))))))) (pss2_one (ps2_ret (pe2_fz pe2_bl))) pss2_nil)))
  (pss2_one (ps2_ret (pe2_fz (pe2_cmp (op2_eq hu) (pv2 7) (pe2_callS ok_law_due (hr.mono (by decide)) rfl mg_law_due kp_law_due bi_law_due (pa2_cons (pv2 4) (pa2_cons (pv2 2) pa2_nil))) (nomark _)))))))))))))))))
end
theorem all_mk {l : PySem.W.OpenLaw} {w : World} {K : PySem.W.Frag} {h : Heap} {mg : Str → Option Value} {fa : Addr} (X : K.In h) (G : h.Ns mainGlobals mg) (hfa : mg "law" = some (.ref fa))
    {f0 : Addr} {od0 an0 : Option Addr} {sl0 : Array (Option Value)} {oc0 kV0 dc0 pm0 cd0 ct0 : Value} (a0 : PySem.W.nsIn K mainGlobals "_law_cell" = some (some (.ref f0))) (l0 : K.lookup f0 = some ⟨oc0, od0, .func (PySem.W.fnOf "_law_cell" "_law_cell" (defArgs (top 16)) (defBody (top 16)) (defScope (top 16)) .none kV0 dc0 pm0 an0 cd0 ct0), sl0⟩) (c0 : PySem.W.codeIn K cd0 "_law_cell" = true) (k0 : PySem.W.keepIn K (.ref f0) = true)
    {f1 : Addr} {od1 an1 : Option Addr} {sl1 : Array (Option Value)} {oc1 kV1 dc1 pm1 cd1 ct1 : Value} (a1 : PySem.W.nsIn K mainGlobals "_law_letters" = some (some (.ref f1))) (l1 : K.lookup f1 = some ⟨oc1, od1, .func (PySem.W.fnOf "_law_letters" "_law_letters" (defArgs (top 19)) (defBody (top 19)) (defScope (top 19)) .none kV1 dc1 pm1 an1 cd1 ct1), sl1⟩) (c1 : PySem.W.codeIn K cd1 "_law_letters" = true) (k1 : PySem.W.keepIn K (.ref f1) = true)
    {f2 : Addr} {od2 an2 : Option Addr} {sl2 : Array (Option Value)} {oc2 kV2 dc2 pm2 cd2 ct2 : Value} (a2 : PySem.W.nsIn K mainGlobals "_law_part" = some (some (.ref f2))) (l2 : K.lookup f2 = some ⟨oc2, od2, .func (PySem.W.fnOf "_law_part" "_law_part" (defArgs (top 17)) (defBody (top 17)) (defScope (top 17)) .none kV2 dc2 pm2 an2 cd2 ct2), sl2⟩) (c2 : PySem.W.codeIn K cd2 "_law_part" = true) (k2 : PySem.W.keepIn K (.ref f2) = true)
    {f3 : Addr} {od3 an3 : Option Addr} {sl3 : Array (Option Value)} {oc3 kV3 dc3 pm3 cd3 ct3 : Value} (a3 : PySem.W.nsIn K mainGlobals "_law_good" = some (some (.ref f3))) (l3 : K.lookup f3 = some ⟨oc3, od3, .func (PySem.W.fnOf "_law_good" "_law_good" (defArgs (top 21)) (defBody (top 21)) (defScope (top 21)) .none kV3 dc3 pm3 an3 cd3 ct3), sl3⟩) (c3 : PySem.W.codeIn K cd3 "_law_good" = true) (k3 : PySem.W.keepIn K (.ref f3) = true)
    {f4 : Addr} {od4 an4 : Option Addr} {sl4 : Array (Option Value)} {oc4 kV4 dc4 pm4 cd4 ct4 : Value} (a4 : PySem.W.nsIn K mainGlobals "refuse_no_braid" = some (some (.ref f4))) (l4 : K.lookup f4 = some ⟨oc4, od4, .func (PySem.W.fnOf "refuse_no_braid" "refuse_no_braid" (defArgs (top 10)) (defBody (top 10)) (defScope (top 10)) .none kV4 dc4 pm4 an4 cd4 ct4), sl4⟩) (c4 : PySem.W.codeIn K cd4 "refuse_no_braid" = true) (k4 : PySem.W.keepIn K (.ref f4) = true)
    {f5 : Addr} {od5 an5 : Option Addr} {sl5 : Array (Option Value)} {oc5 kV5 dc5 pm5 cd5 ct5 : Value} (a5 : PySem.W.nsIn K mainGlobals "passing_at" = some (some (.ref f5))) (l5 : K.lookup f5 = some ⟨oc5, od5, .func (PySem.W.fnOf "passing_at" "passing_at" (defArgs (top 11)) (defBody (top 11)) (defScope (top 11)) .none kV5 dc5 pm5 an5 cd5 ct5), sl5⟩) (c5 : PySem.W.codeIn K cd5 "passing_at" = true) (k5 : PySem.W.keepIn K (.ref f5) = true)
    {f6 : Addr} {od6 an6 : Option Addr} {sl6 : Array (Option Value)} {oc6 kV6 dc6 pm6 cd6 ct6 : Value} (a6 : PySem.W.nsIn K mainGlobals "gone_down" = some (some (.ref f6))) (l6 : K.lookup f6 = some ⟨oc6, od6, .func (PySem.W.fnOf "gone_down" "gone_down" (defArgs (top 12)) (defBody (top 12)) (defScope (top 12)) .none kV6 dc6 pm6 an6 cd6 ct6), sl6⟩) (c6 : PySem.W.codeIn K cd6 "gone_down" = true) (k6 : PySem.W.keepIn K (.ref f6) = true)
    {f7 : Addr} {od7 an7 : Option Addr} {sl7 : Array (Option Value)} {oc7 kV7 dc7 pm7 cd7 ct7 : Value} (a7 : PySem.W.nsIn K mainGlobals "string_from" = some (some (.ref f7))) (l7 : K.lookup f7 = some ⟨oc7, od7, .func (PySem.W.fnOf "string_from" "string_from" (defArgs (top 13)) (defBody (top 13)) (defScope (top 13)) .none kV7 dc7 pm7 an7 cd7 ct7), sl7⟩) (c7 : PySem.W.codeIn K cd7 "string_from" = true) (k7 : PySem.W.keepIn K (.ref f7) = true)
    {f8 : Addr} {od8 an8 : Option Addr} {sl8 : Array (Option Value)} {oc8 kV8 dc8 pm8 cd8 ct8 : Value} (a8 : PySem.W.nsIn K mainGlobals "seated" = some (some (.ref f8))) (l8 : K.lookup f8 = some ⟨oc8, od8, .func (PySem.W.fnOf "seated" "seated" (defArgs (top 5)) (defBody (top 5)) (defScope (top 5)) .none kV8 dc8 pm8 an8 cd8 ct8), sl8⟩) (c8 : PySem.W.codeIn K cd8 "seated" = true) (k8 : PySem.W.keepIn K (.ref f8) = true)
    {f9 : Addr} {od9 an9 : Option Addr} {sl9 : Array (Option Value)} {oc9 kV9 dc9 pm9 cd9 ct9 : Value} (a9 : PySem.W.nsIn K mainGlobals "seated_rows" = some (some (.ref f9))) (l9 : K.lookup f9 = some ⟨oc9, od9, .func (PySem.W.fnOf "seated_rows" "seated_rows" (defArgs (top 6)) (defBody (top 6)) (defScope (top 6)) .none kV9 dc9 pm9 an9 cd9 ct9), sl9⟩) (c9 : PySem.W.codeIn K cd9 "seated_rows" = true) (k9 : PySem.W.keepIn K (.ref f9) = true)
    {f10 : Addr} {od10 an10 : Option Addr} {sl10 : Array (Option Value)} {oc10 kV10 dc10 pm10 cd10 ct10 : Value} (a10 : PySem.W.nsIn K mainGlobals "closed" = some (some (.ref f10))) (l10 : K.lookup f10 = some ⟨oc10, od10, .func (PySem.W.fnOf "closed" "closed" (defArgs (top 14)) (defBody (top 14)) (defScope (top 14)) .none kV10 dc10 pm10 an10 cd10 ct10), sl10⟩) (c10 : PySem.W.codeIn K cd10 "closed" = true) (k10 : PySem.W.keepIn K (.ref f10) = true)
    {f11 : Addr} {od11 an11 : Option Addr} {sl11 : Array (Option Value)} {oc11 kV11 dc11 pm11 cd11 ct11 : Value} (a11 : PySem.W.nsIn K mainGlobals "_law_refused" = some (some (.ref f11))) (l11 : K.lookup f11 = some ⟨oc11, od11, .func (PySem.W.fnOf "_law_refused" "_law_refused" (defArgs (top 24)) (defBody (top 24)) (defScope (top 24)) .none kV11 dc11 pm11 an11 cd11 ct11), sl11⟩) (c11 : PySem.W.codeIn K cd11 "_law_refused" = true) (k11 : PySem.W.keepIn K (.ref f11) = true)
    {f12 : Addr} {od12 an12 : Option Addr} {sl12 : Array (Option Value)} {oc12 kV12 dc12 pm12 cd12 ct12 : Value} (a12 : PySem.W.nsIn K mainGlobals "refuse_no_braid" = some (some (.ref f12))) (l12 : K.lookup f12 = some ⟨oc12, od12, .func (PySem.W.fnOf "refuse_no_braid" "refuse_no_braid" (defArgs (top 10)) (defBody (top 10)) (defScope (top 10)) .none kV12 dc12 pm12 an12 cd12 ct12), sl12⟩) (c12 : PySem.W.codeIn K cd12 "refuse_no_braid" = true) (k12 : PySem.W.keepIn K (.ref f12) = true)
    {f13 : Addr} {od13 an13 : Option Addr} {sl13 : Array (Option Value)} {oc13 kV13 dc13 pm13 cd13 ct13 : Value} (a13 : PySem.W.nsIn K mainGlobals "closed" = some (some (.ref f13))) (l13 : K.lookup f13 = some ⟨oc13, od13, .func (PySem.W.fnOf "closed" "closed" (defArgs (top 14)) (defBody (top 14)) (defScope (top 14)) .none kV13 dc13 pm13 an13 cd13 ct13), sl13⟩) (c13 : PySem.W.codeIn K cd13 "closed" = true) (k13 : PySem.W.keepIn K (.ref f13) = true)
    {f14 : Addr} {od14 an14 : Option Addr} {sl14 : Array (Option Value)} {oc14 kV14 dc14 pm14 cd14 ct14 : Value} (a14 : PySem.W.nsIn K mainGlobals "_law_whole" = some (some (.ref f14))) (l14 : K.lookup f14 = some ⟨oc14, od14, .func (PySem.W.fnOf "_law_whole" "_law_whole" (defArgs (top 18)) (defBody (top 18)) (defScope (top 18)) .none kV14 dc14 pm14 an14 cd14 ct14), sl14⟩) (c14 : PySem.W.codeIn K cd14 "_law_whole" = true) (k14 : PySem.W.keepIn K (.ref f14) = true)
    {f15 : Addr} {od15 an15 : Option Addr} {sl15 : Array (Option Value)} {oc15 kV15 dc15 pm15 cd15 ct15 : Value} (a15 : PySem.W.nsIn K mainGlobals "_law_groups" = some (some (.ref f15))) (l15 : K.lookup f15 = some ⟨oc15, od15, .func (PySem.W.fnOf "_law_groups" "_law_groups" (defArgs (top 20)) (defBody (top 20)) (defScope (top 20)) .none kV15 dc15 pm15 an15 cd15 ct15), sl15⟩) (c15 : PySem.W.codeIn K cd15 "_law_groups" = true) (k15 : PySem.W.keepIn K (.ref f15) = true)
    {f16 : Addr} {od16 an16 : Option Addr} {sl16 : Array (Option Value)} {oc16 kV16 dc16 pm16 cd16 ct16 : Value} (a16 : PySem.W.nsIn K mainGlobals "_law_down" = some (some (.ref f16))) (l16 : K.lookup f16 = some ⟨oc16, od16, .func (PySem.W.fnOf "_law_down" "_law_down" (defArgs (top 22)) (defBody (top 22)) (defScope (top 22)) .none kV16 dc16 pm16 an16 cd16 ct16), sl16⟩) (c16 : PySem.W.codeIn K cd16 "_law_down" = true) (k16 : PySem.W.keepIn K (.ref f16) = true)
    {f17 : Addr} {od17 an17 : Option Addr} {sl17 : Array (Option Value)} {oc17 kV17 dc17 pm17 cd17 ct17 : Value} (a17 : PySem.W.nsIn K mainGlobals "_law_due" = some (some (.ref f17))) (l17 : K.lookup f17 = some ⟨oc17, od17, .func (PySem.W.fnOf "_law_due" "_law_due" (defArgs (top 23)) (defBody (top 23)) (defScope (top 23)) .none kV17 dc17 pm17 an17 cd17 ct17), sl17⟩) (c17 : PySem.W.codeIn K cd17 "_law_due" = true) (k17 : PySem.W.keepIn K (.ref f17) = true)
    {f18 : Addr} {od18 an18 : Option Addr} {sl18 : Array (Option Value)} {oc18 kV18 dc18 pm18 cd18 ct18 : Value} (a18 : PySem.W.nsIn K mainGlobals "law" = some (some (.ref f18))) (l18 : K.lookup f18 = some ⟨oc18, od18, .func (PySem.W.fnOf "law" "law" (defArgs (top 25)) (defBody (top 25)) (defScope (top 25)) .none kV18 dc18 pm18 an18 cd18 ct18), sl18⟩) (c18 : PySem.W.codeIn K cd18 "law" = true) (k18 : PySem.W.keepIn K (.ref f18) = true)
    (z_len : PySem.W.nsIn K mainGlobals "len" = some none) (z_all : PySem.W.nsIn K mainGlobals "all" = some none) (z_abs : PySem.W.nsIn K mainGlobals "abs" = some none) (z_enumerate : PySem.W.nsIn K mainGlobals "enumerate" = some none) (z_min : PySem.W.nsIn K mainGlobals "min" = some none) (z_range : PySem.W.nsIn K mainGlobals "range" = some none) (z_ValueError : PySem.W.nsIn K mainGlobals "ValueError" = some none) (z_isinstance : PySem.W.nsIn K mainGlobals "isinstance" = some none) (z_bool : PySem.W.nsIn K mainGlobals "bool" = some none) (z_int : PySem.W.nsIn K mainGlobals "int" = some none) (z_list : PySem.W.nsIn K mainGlobals "list" = some none) (z_tuple : PySem.W.nsIn K mainGlobals "tuple" = some none) {C_NoBraid : Addr} (ns_NoBraid : PySem.W.nsIn K mainGlobals "NoBraid" = some (some (.ref C_NoBraid))) (ex_NoBraid : PySem.W.excIn K C_NoBraid [.type "ValueError", .type "Exception", .type "BaseException", .type "object"] "ValueError.__new__" = true) (x0_NoBraid : PySem.W.findIn K (.ref C_NoBraid) "__getattribute__" = some (some (.builtin "BaseException.__getattribute__"))) (x1_NoBraid : PySem.W.findIn K (.ref C_NoBraid) "__getattr__" = some none) (x2_NoBraid : PySem.W.findIn K (.ref C_NoBraid) "__class__" = some (some (.builtin "object.__class__"))) (x3_NoBraid : PySem.W.specialIn K (.builtin "object.__class__") "__get__" = some (some (.builtin "getset_descriptor.__get__"))) (x4_NoBraid : PySem.W.takesIn K (.builtin "object.__class__") = some true) (x5_NoBraid : PySem.W.mroIn K C_NoBraid (.type "object") = some true) (x6_NoBraid : PySem.W.mroIn K C_NoBraid (.type "BaseException") = some true) (x7_NoBraid : (PySem.W.clsIn K C_NoBraid).isSome = true) {C_KnotError : Addr} (ns_KnotError : PySem.W.nsIn K mainGlobals "KnotError" = some (some (.ref C_KnotError))) (ex_KnotError : PySem.W.excIn K C_KnotError [.type "ValueError", .type "Exception", .type "BaseException", .type "object"] "ValueError.__new__" = true) (x0_KnotError : PySem.W.findIn K (.ref C_KnotError) "__getattribute__" = some (some (.builtin "BaseException.__getattribute__"))) (x1_KnotError : PySem.W.findIn K (.ref C_KnotError) "__getattr__" = some none) (x2_KnotError : PySem.W.findIn K (.ref C_KnotError) "__class__" = some (some (.builtin "object.__class__"))) (x3_KnotError : PySem.W.specialIn K (.builtin "object.__class__") "__get__" = some (some (.builtin "getset_descriptor.__get__"))) (x4_KnotError : PySem.W.takesIn K (.builtin "object.__class__") = some true) (x5_KnotError : PySem.W.mroIn K C_KnotError (.type "object") = some true) (x6_KnotError : PySem.W.mroIn K C_KnotError (.type "BaseException") = some true) (x7_KnotError : (PySem.W.clsIn K C_KnotError).isSome = true) {C_NoString : Addr} (ns_NoString : PySem.W.nsIn K mainGlobals "NoString" = some (some (.ref C_NoString))) (ex_NoString : PySem.W.excIn K C_NoString [.type "ValueError", .type "Exception", .type "BaseException", .type "object"] "ValueError.__new__" = true) (x0_NoString : PySem.W.findIn K (.ref C_NoString) "__getattribute__" = some (some (.builtin "BaseException.__getattribute__"))) (x1_NoString : PySem.W.findIn K (.ref C_NoString) "__getattr__" = some none) (x2_NoString : PySem.W.findIn K (.ref C_NoString) "__class__" = some (some (.builtin "object.__class__"))) (x3_NoString : PySem.W.specialIn K (.builtin "object.__class__") "__get__" = some (some (.builtin "getset_descriptor.__get__"))) (x4_NoString : PySem.W.takesIn K (.builtin "object.__class__") = some true) (x5_NoString : PySem.W.mroIn K C_NoString (.type "object") = some true) (x6_NoString : PySem.W.mroIn K C_NoString (.type "BaseException") = some true) (x7_NoString : (PySem.W.clsIn K C_NoString).isSome = true) (kn_NoBraid : PySem.W.kitOne K (.type "NoneType") (.ref C_NoBraid) = some false) (kn_NoString : PySem.W.kitOne K (.type "NoneType") (.ref C_NoString) = some false) (ki_NoBraid_NoBraid : PySem.W.kitOne K (.ref C_NoBraid) (.ref C_NoBraid) = some true) (ki_NoBraid_NoString : PySem.W.kitOne K (.ref C_NoBraid) (.ref C_NoString) = some false) (kv_NoBraid : PySem.W.kitOne K (.ref C_NoBraid) (.type "ValueError") = some true) {oc_NoBraid_KnotError : Value} {od_NoBraid_KnotError : Option Addr} {cd_NoBraid_KnotError : ClassData} {sl_NoBraid_KnotError : Array (Option Value)} (lk_NoBraid_KnotError : K.lookup C_NoBraid = some ⟨oc_NoBraid_KnotError, od_NoBraid_KnotError, .cls cd_NoBraid_KnotError, sl_NoBraid_KnotError⟩) (mr_NoBraid_KnotError : cd_NoBraid_KnotError.mro.contains (.ref C_KnotError) = true) {t_MOST_STRANDS : Tok} (ct_MOST_STRANDS : PySem.W.nsIn K mainGlobals "MOST_STRANDS" = some (some (.int 3 t_MOST_STRANDS))) {t_MOST_LETTERS : Tok} (ct_MOST_LETTERS : PySem.W.nsIn K mainGlobals "MOST_LETTERS" = some (some (.int 12 t_MOST_LETTERS))) :
    ∃ fd : FuncData, (∀ (s : Shared) (v : Value), BindsTo s fd ⟨[v], []⟩ [("_law_script", v)]) ∧ ∀ base : Heap, K.In base → base.Ns mainGlobals mg → FnOk l.prog w K mg base CX0 6 fa fd ["_law_script"] (spOf K K2.spLaw) := by
  have e := hfa.symm.trans (PySem.W.mg_of X G a18)
  cases e
  have F0 := fun_mk (st := top 16) l0 c0 k0
  have b0 := F0.binds (ps := ["_law_script", "_law_k"]) fun _ _ _ _ _ _ us hl => match us, hl with | [_, _], _ => rfl
  have F1 := fun_mk (st := top 19) l1 c1 k1
  have b1 := F1.binds (ps := ["_law_cells", "_law_strands"]) fun _ _ _ _ _ _ us hl => match us, hl with | [_, _], _ => rfl
  have F2 := fun_mk (st := top 17) l2 c2 k2
  have b2 := F2.binds (ps := ["_law_cell_here", "_law_prime", "_law_many"]) fun _ _ _ _ _ _ us hl => match us, hl with | [_, _, _], _ => rfl
  have F3 := fun_mk (st := top 21) l3 c3 k3
  have b3 := F3.binds (ps := ["_law_letters_here", "_law_strands"]) fun _ _ _ _ _ _ us hl => match us, hl with | [_, _], _ => rfl
  have F4 := fun_mk (st := top 10) l4 c4 k4
  have b4 := F4.binds (ps := ["letters", "strands"]) fun _ _ _ _ _ _ us hl => match us, hl with | [_, _], _ => rfl
  have F5 := fun_mk (st := top 11) l5 c5 k5
  have b5 := F5.binds (ps := ["name", "letter", "place"]) fun _ _ _ _ _ _ us hl => match us, hl with | [_, _, _], _ => rfl
  have F6 := fun_mk (st := top 12) l6 c6 k6
  have b6 := F6.binds (ps := ["letters", "top"]) fun _ _ _ _ _ _ us hl => match us, hl with | [_, _], _ => rfl
  have F7 := fun_mk (st := top 13) l7 c7 k7
  have b7 := F7.binds (ps := ["letters", "top"]) fun _ _ _ _ _ _ us hl => match us, hl with | [_, _], _ => rfl
  have F8 := fun_mk (st := top 5) l8 c8 k8
  have b8 := F8.binds (ps := ["row"]) fun _ _ _ _ _ _ us hl => match us, hl with | [_], _ => rfl
  have F9 := fun_mk (st := top 6) l9 c9 k9
  have b9 := F9.binds (ps := ["rows"]) fun _ _ _ _ _ _ us hl => match us, hl with | [_], _ => rfl
  have F10 := fun_mk (st := top 14) l10 c10 k10
  have b10 := F10.binds (ps := ["letters", "strands"]) fun _ _ _ _ _ _ us hl => match us, hl with | [_, _], _ => rfl
  have F11 := fun_mk (st := top 24) l11 c11 k11
  have b11 := F11.binds (ps := ["_law_letters_here", "_law_strands"]) fun _ _ _ _ _ _ us hl => match us, hl with | [_, _], _ => rfl
  have F12 := fun_mk (st := top 10) l12 c12 k12
  have b12 := F12.binds (ps := ["letters", "strands"]) fun _ _ _ _ _ _ us hl => match us, hl with | [_, _], _ => rfl
  have F13 := fun_mk (st := top 14) l13 c13 k13
  have b13 := F13.binds (ps := ["letters", "strands"]) fun _ _ _ _ _ _ us hl => match us, hl with | [_, _], _ => rfl
  have F14 := fun_mk (st := top 18) l14 c14 k14
  have b14 := F14.binds (ps := ["_law_found"]) fun _ _ _ _ _ _ us hl => match us, hl with | [_], _ => rfl
  have F15 := fun_mk (st := top 20) l15 c15 k15
  have b15 := F15.binds (ps := ["_law_found", "_law_wide"]) fun _ _ _ _ _ _ us hl => match us, hl with | [_, _], _ => rfl
  have F16 := fun_mk (st := top 22) l16 c16 k16
  have b16 := F16.binds (ps := ["_law_letters_here", "_law_place"]) fun _ _ _ _ _ _ us hl => match us, hl with | [_, _], _ => rfl
  have F17 := fun_mk (st := top 23) l17 c17 k17
  have b17 := F17.binds (ps := ["_law_letters_here", "_law_strands"]) fun _ _ _ _ _ _ us hl => match us, hl with | [_, _], _ => rfl
  have F18 := fun_mk (st := top 25) l18 c18 k18
  have no_len := PySem.W.mg_none_of X G z_len
  have no_all := PySem.W.mg_none_of X G z_all
  have no_abs := PySem.W.mg_none_of X G z_abs
  have no_enumerate := PySem.W.mg_none_of X G z_enumerate
  have no_min := PySem.W.mg_none_of X G z_min
  have no_range := PySem.W.mg_none_of X G z_range
  have no_ValueError := PySem.W.mg_none_of X G z_ValueError
  have no_isinstance := PySem.W.mg_none_of X G z_isinstance
  have no_bool := PySem.W.mg_none_of X G z_bool
  have no_int := PySem.W.mg_none_of X G z_int
  have no_list := PySem.W.mg_none_of X G z_list
  have no_tuple := PySem.W.mg_none_of X G z_tuple
  have xi_NoBraid : ExcIs K C_NoBraid := ⟨x0_NoBraid, x1_NoBraid, x2_NoBraid, x3_NoBraid, x4_NoBraid, x5_NoBraid, x6_NoBraid, x7_NoBraid⟩
  have xi_KnotError : ExcIs K C_KnotError := ⟨x0_KnotError, x1_KnotError, x2_KnotError, x3_KnotError, x4_KnotError, x5_KnotError, x6_KnotError, x7_KnotError⟩
  have xi_NoString : ExcIs K C_NoString := ⟨x0_NoString, x1_NoString, x2_NoString, x3_NoString, x4_NoString, x5_NoString, x6_NoString, x7_NoString⟩
  have sb_NoBraid_KnotError : subIn K C_NoBraid (.ref C_KnotError) = true := by unfold subIn; rw [lk_NoBraid_KnotError]; exact mr_NoBraid_KnotError
  refine ⟨PySem.W.fnOf "law" "law" (defArgs (top 25)) (defBody (top 25)) (defScope (top 25)) .none kV18 dc18 pm18 an18 cd18 ct18, fun s v => .of_eq rfl, fun base _ _ => ?_⟩
  have ok0 := fn_law_cell (P := l.prog) (w := w) (mg := mg) (base := base) F0 no_len
  have ok1 := fn_law_letters (P := l.prog) (w := w) (mg := mg) (base := base) F1
  have ok2 := fn_law_part (P := l.prog) (w := w) (mg := mg) (base := base) F2
  have ok3 := fn_law_good (P := l.prog) (w := w) (mg := mg) (base := base) F3 no_all no_len
  have ok4 := fn_refuse_no_braidX (P := l.prog) (w := w) (mg := mg) (base := base) F4 no_abs no_len ns_NoBraid (PySem.W.mg_of X G ns_NoBraid) ex_NoBraid xi_NoBraid (PySem.W.mg_of X G ct_MOST_STRANDS) (PySem.W.mg_of X G ct_MOST_LETTERS)
  have ok5 := fn_passing_at (P := l.prog) (w := w) (mg := mg) (base := base) F5 no_abs
  have ok6 := fn_gone_down (P := l.prog) (w := w) (mg := mg) (base := base) F6 no_abs no_enumerate ok5 (PySem.W.mg_of X G a5) k5 b5
  have ok7 := fn_string_from (P := l.prog) (w := w) (mg := mg) (base := base) F7 ok6 (PySem.W.mg_of X G a6) k6 b6
  have ok8 := fn_seated (P := l.prog) (w := w) (mg := mg) (base := base) F8 no_min
  have ok9 := fn_seated_rows (P := l.prog) (w := w) (mg := mg) (base := base) F9 ok8 (PySem.W.mg_of X G a8) k8 b8
  have ok10 := fn_closedX (P := l.prog) (w := w) (mg := mg) (base := base) F10 no_range ok4 (PySem.W.mg_of X G a4) k4 b4 ok7 (PySem.W.mg_of X G a7) k7 b7 ok9 (PySem.W.mg_of X G a9) k9 b9
  have ok11 := fn_law_refused (P := l.prog) (w := w) (mg := mg) (base := base) F11 no_ValueError no_isinstance ns_NoBraid (PySem.W.mg_of X G ns_NoBraid) ex_NoBraid xi_NoBraid ns_KnotError (PySem.W.mg_of X G ns_KnotError) ex_KnotError xi_KnotError ns_NoString (PySem.W.mg_of X G ns_NoString) ex_NoString xi_NoString kn_NoBraid kn_NoString ki_NoBraid_NoBraid ki_NoBraid_NoString sb_NoBraid_KnotError kv_NoBraid ok10 (PySem.W.mg_of X G a10) k10 b10
  have ok12 := fn_refuse_no_braid (P := l.prog) (w := w) (mg := mg) (base := base) F12 no_abs no_len (PySem.W.mg_of X G ct_MOST_STRANDS) (PySem.W.mg_of X G ct_MOST_LETTERS)
  have ok13 := fn_closed (P := l.prog) (w := w) (mg := mg) (base := base) F13 no_range ok12 (PySem.W.mg_of X G a12) k12 b12 ok7 (PySem.W.mg_of X G a7) k7 b7 ok9 (PySem.W.mg_of X G a9) k9 b9
  have ok14 := fn_law_whole (P := l.prog) (w := w) (mg := mg) (base := base) F14 no_bool no_int no_isinstance
  have ok15 := fn_law_groups (P := l.prog) (w := w) (mg := mg) (base := base) F15 no_all no_isinstance no_len no_list no_tuple ok14 (PySem.W.mg_of X G a14) k14 b14
  have ok16 := fn_law_down (P := l.prog) (w := w) (mg := mg) (base := base) F16 no_abs no_enumerate
  have ok17 := fn_law_due (P := l.prog) (w := w) (mg := mg) (base := base) F17 no_min no_range ok16 (PySem.W.mg_of X G a16) k16 b16
  exact fn_law F18 no_isinstance no_len no_list ok0 (PySem.W.mg_of X G a0) k0 b0 ok1 (PySem.W.mg_of X G a1) k1 b1 ok2 (PySem.W.mg_of X G a2) k2 b2 ok3 (PySem.W.mg_of X G a3) k3 b3 ok11 (PySem.W.mg_of X G a11) k11 b11 ok13 (PySem.W.mg_of X G a13) k13 b13 ok15 (PySem.W.mg_of X G a15) k15 b15 ok17 (PySem.W.mg_of X G a17) k17 b17
end Fin
open PySem PySem.W PyProof.Rows
set_option maxRecDepth 100000 in
set_option maxHeartbeats 0 in
theorem PySem.Challenge.cw_knotwise_k66_braids_closed_holds : PySem.Challenge.rw_knotwise_k66_braids_closed.Holds := by
  w_on; o_law; k_head; (case hw => w_witness2)
  k_fill
  refine K2.law_walk (l := PySem.Challenge.rw_knotwise_k66_braids_closed) (k := 6) (x := "_law_script") rfl rfl ⟨rfl, by decide, by decide⟩ (fun w h Y => PySem.W.kIn_of Y) ?F
  case F =>
    intro w mg fa h KX G hmg
    refine' Fin.all_mk KX G hmg ?a0 ?l0 ?c0 ?k0 ?a1 ?l1 ?c1 ?k1 ?a2 ?l2 ?c2 ?k2 ?a3 ?l3 ?c3 ?k3 ?a4 ?l4 ?c4 ?k4 ?a5 ?l5 ?c5 ?k5 ?a6 ?l6 ?c6 ?k6 ?a7 ?l7 ?c7 ?k7 ?a8 ?l8 ?c8 ?k8 ?a9 ?l9 ?c9 ?k9 ?a10 ?l10 ?c10 ?k10 ?a11 ?l11 ?c11 ?k11 ?a12 ?l12 ?c12 ?k12 ?a13 ?l13 ?c13 ?k13 ?a14 ?l14 ?c14 ?k14 ?a15 ?l15 ?c15 ?k15 ?a16 ?l16 ?c16 ?k16 ?a17 ?l17 ?c17 ?k17 ?a18 ?l18 ?c18 ?k18 ?z_len ?z_all ?z_abs ?z_enumerate ?z_min ?z_range ?z_ValueError ?z_isinstance ?z_bool ?z_int ?z_list ?z_tuple ?ns_NoBraid ?ex_NoBraid ?x0_NoBraid ?x1_NoBraid ?x2_NoBraid ?x3_NoBraid ?x4_NoBraid ?x5_NoBraid ?x6_NoBraid ?x7_NoBraid ?ns_KnotError ?ex_KnotError ?x0_KnotError ?x1_KnotError ?x2_KnotError ?x3_KnotError ?x4_KnotError ?x5_KnotError ?x6_KnotError ?x7_KnotError ?ns_NoString ?ex_NoString ?x0_NoString ?x1_NoString ?x2_NoString ?x3_NoString ?x4_NoString ?x5_NoString ?x6_NoString ?x7_NoString ?kn_NoBraid ?kn_NoString ?ki_NoBraid_NoBraid ?ki_NoBraid_NoString ?kv_NoBraid ?lk_NoBraid_KnotError ?mr_NoBraid_KnotError ?ct_MOST_STRANDS ?ct_MOST_LETTERS
    (case a0 => k_is); (case l0 => k_is); (case c0 => k_is); (case k0 => k_is)
    (case a1 => k_is); (case l1 => k_is); (case c1 => k_is); (case k1 => k_is)
    (case a2 => k_is); (case l2 => k_is); (case c2 => k_is); (case k2 => k_is)
    (case a3 => k_is); (case l3 => k_is); (case c3 => k_is); (case k3 => k_is)
    (case a4 => k_is); (case l4 => k_is); (case c4 => k_is); (case k4 => k_is)
    (case a5 => k_is); (case l5 => k_is); (case c5 => k_is); (case k5 => k_is)
    (case a6 => k_is); (case l6 => k_is); (case c6 => k_is); (case k6 => k_is)
    (case a7 => k_is); (case l7 => k_is); (case c7 => k_is); (case k7 => k_is)
    (case a8 => k_is); (case l8 => k_is); (case c8 => k_is); (case k8 => k_is)
    (case a9 => k_is); (case l9 => k_is); (case c9 => k_is); (case k9 => k_is)
    (case a10 => k_is); (case l10 => k_is); (case c10 => k_is); (case k10 => k_is)
    (case a11 => k_is); (case l11 => k_is); (case c11 => k_is); (case k11 => k_is)
    (case a12 => k_is); (case l12 => k_is); (case c12 => k_is); (case k12 => k_is)
    (case a13 => k_is); (case l13 => k_is); (case c13 => k_is); (case k13 => k_is)
    (case a14 => k_is); (case l14 => k_is); (case c14 => k_is); (case k14 => k_is)
    (case a15 => k_is); (case l15 => k_is); (case c15 => k_is); (case k15 => k_is)
    (case a16 => k_is); (case l16 => k_is); (case c16 => k_is); (case k16 => k_is)
    (case a17 => k_is); (case l17 => k_is); (case c17 => k_is); (case k17 => k_is)
    (case a18 => k_is); (case l18 => k_is); (case c18 => k_is); (case k18 => k_is)
    (case z_len => k_is)
    (case z_all => k_is)
    (case z_abs => k_is)
    (case z_enumerate => k_is)
    (case z_min => k_is)
    (case z_range => k_is)
    (case z_ValueError => k_is)
    (case z_isinstance => k_is)
    (case z_bool => k_is)
    (case z_int => k_is)
    (case z_list => k_is)
    (case z_tuple => k_is)
    (case ns_NoBraid => k_is)
    (case ex_NoBraid => k_exc)
    (case x0_NoBraid => first | k_is | rfl)
    (case x1_NoBraid => first | k_is | rfl)
    (case x2_NoBraid => first | k_is | rfl)
    (case x3_NoBraid => first | k_is | rfl)
    (case x4_NoBraid => first | k_is | rfl)
    (case x5_NoBraid => first | k_is | rfl)
    (case x6_NoBraid => first | k_is | rfl)
    (case x7_NoBraid => first | k_is | rfl)
    (case ns_KnotError => k_is)
    (case ex_KnotError => k_exc)
    (case x0_KnotError => first | k_is | rfl)
    (case x1_KnotError => first | k_is | rfl)
    (case x2_KnotError => first | k_is | rfl)
    (case x3_KnotError => first | k_is | rfl)
    (case x4_KnotError => first | k_is | rfl)
    (case x5_KnotError => first | k_is | rfl)
    (case x6_KnotError => first | k_is | rfl)
    (case x7_KnotError => first | k_is | rfl)
    (case ns_NoString => k_is)
    (case ex_NoString => k_exc)
    (case x0_NoString => first | k_is | rfl)
    (case x1_NoString => first | k_is | rfl)
    (case x2_NoString => first | k_is | rfl)
    (case x3_NoString => first | k_is | rfl)
    (case x4_NoString => first | k_is | rfl)
    (case x5_NoString => first | k_is | rfl)
    (case x6_NoString => first | k_is | rfl)
    (case x7_NoString => first | k_is | rfl)
    (case kn_NoBraid => first | k_is | kit_is)
    (case kn_NoString => first | k_is | kit_is)
    (case ki_NoBraid_NoBraid => first | k_is | kit_is)
    (case ki_NoBraid_NoString => first | k_is | kit_is)
    (case kv_NoBraid => first | k_is | kit_is)
    (case lk_NoBraid_KnotError => k_is)
    (case mr_NoBraid_KnotError => first | rfl | decide)
    (case ct_MOST_STRANDS => k_is)
    (case ct_MOST_LETTERS => k_is)
end
